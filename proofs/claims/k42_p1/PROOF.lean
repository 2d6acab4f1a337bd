import PyProof.Rows.All
import Wide.All
import OpenK.AllK
import Wide.FinOn
import Lean
import PyProof.EqAt
import PyProof.EqKinds
import PyProof.TupleCall
import PyProof.CompFree
import PyProof.NeKinds
import KE.KSortTup
import KE.KRevSl
import KE.KDictSum
import KE.KEqDict
import PyProof.Conv_int_bool
import PyProof.AttrMissHeap
import KE.KLam
import KE.KRevIter
import PySem.Challenge.RW_talkmarks_k42_what_is_new
open PySem renaming wpAny_bind->t6,wpAny_pure->t8,Spec->AAE,wpAny_newObj_type->G4,wpAny_callSpecial?_slot->Mo,wpAny_call_entry->F5,wpAny_holding->E3,wpAny_dictEntries->MN,wpAny_setField_rec->Nh,wpAny_dictEpoch->My,wpAny_field->J2,wpAny_seqItems->Mt,wpAny_fieldsOf->Ms,wpAny_rule->F9,wpAny_setState_of->Ng,wpAny_notOrdered_dict->NV,wpAny_forIn_list->Nf,mem_of_lookup->NS,wpAny_setField->MU,wpAny_mono->L0,wpAny_attempt->Nb,codeAny_builtin->NC,wpAny_ite_split->NB,wpAny_isInstance->NQ,sizeLine_eq->MH,eqIsQuiet_byValue->Oa,wpAny_specialOf->NP,wpAny_typeNameOfWhole_itemiter->Rj,wpAny_typeNameOfWhole_keyiter->Rh,wpAny_typeNameOfWhole_valiter->Rg,plainId_quiet->NA,wpAny_typeOf->No,wpAny_Call_method_late->Qi,wpAny_askSetting->Oz,builtinLookup_eq_fast->Qg,wpAny_typeNameOf_itemiter->Ra,wpAny_truthy_bool->O4,wpAny_passesOwn->Oy,wpAny_typeNameOf_keyiter->Q7,wpAny_typeNameOf_valiter->Q6,wpAny_setEntries_of->Qd,Value->ADF,wpAny_Call_Name_kw->P9,wpAny_callSpecialIfBoundUnlessNone?_slot->So,call_meetsIn->N3,wpAny_pyIter_slot->P5,wpAny_updateDictKeys->QX,isSubtype_stop->OZ,wpAny_pyHash_int->PZ,wpAny_pyHash_str->PY,wpAny_loadPart'->Si,wpAny_Call_method0_late->RQ,typeLookup_type->PP,wpAny_isOneOf_itemiter->RK,wpAny_pyIter_list->QO,atKey_none_of_get->QL,codeAny_mono->OV,atKey_of_get->OT,wpAny_isOneOf_valiter->RG,wpAny_handled->PF,wpAny_execs_nil->QG,evalArgs_none->RD,wpAny_of_eq->OR
open PySem.Str renaming ofString->u4
open List renaming getElem?_eq_getElem->x9,length_map->v7,getElem?_eq_some_iff->A6,length_append->A3,size_toArray->A5,mem_cons_of_mem->C4,length_cons->C0,mem_map->z5,mem_cons->A1,getElem?_map->C7,mem_cons_self->D3,mem_of_getElem?->E9,length_singleton->F3,map_cons->C2,getD_eq_getElem?_getD->K6,mem_append_right->Ix,length_nil->D6,getElem?_append_left->L5,all_eq_true->E8,mem_filter->E5,append_assoc->G3,getElem?_append_right->MC,mem_singleton->I9,mem_append->F0,length_filter_le->Mn,map_append->G1,map_map->D9,nil_append->H9,filter_cons->J3,range->D0,length_take->K5,mem_map_of_mem->Mv,getElem?_set_ne->MB,prefix_append->Mm,mem_range->I0,nodup_cons->J7,getElem?_set_self->MX,getElem?_of_mem->MP,mem_append_left->MW,take_add_one->Mz,take_length->Mu,find?_cons->Mj,nodup_iff_pairwise_ne->Of,length_drop->MM,not_mem_nil->ML,any_eq_true->MK,cons_lt_cons_iff->NG,getElem_mem->MV,append_nil->MJ,all_cons->Mq,length->L1,getElem?_take_of_lt->OG,filterMap_cons->NT,prefix_rfl->Nd,map_congr_left->NR,lt_irrefl->Nc,getElem?_eq_none->OE,length_set->NE,length_range->Ob,filter_sublist->OD,flatMap_cons->N9,drop_eq_getElem_cons->Ql,pairwise_iff_getElem->Qk,zip_cons_cons->OC,lookup_cons->N8,getElem?_cons_succ->Qj,length_reverse->ACg,take_of_length_le->Qh,replicate->N6,take_sublist->O3,find?_some->Ox,getElem?_replicate->Q5,eraseIdx_cons_succ->Q4,pairwise_singleton->Q2,nodup_nil->Ov,mem_filterMap->Qa,find?_eq_none->P8,length_replicate->Q0,set_append_right->QZ,map_id->NK,reverse_cons->P7,pairwise_map->P4,nodup_append->P3,mem_of_find?_eq_some->RW,filter_eq_self->QW,getElem?_drop->QT,getElem?_cons_zero->RN,set_cons_zero->QR,set_cons_succ->QQ,range'->Os,find?_append->QJ,find?_map->PK,getElem?_toArray->RI,nodup_range->QI,mem_of_mem_take->RE,any_cons->PJ,forIn_cons->QE,length_zip->QB,toArray->PB,getD->Op
open PySem.Heap renaming get?_push_of_some->x5,get?_push_size->A8,lt_size->z6,get?_update_self->L4,SameBut->G9,size_push->L8,get?_update_other->Pa,get?_update_ne->Qe,ExtBut->Pz
open PySem.W renaming Frag->v4,kas_desc->J6,keepIn->N7,fnOf->NM,kas_rev->Mi,kas_place->Nn,kas_asc->MF,findIn->PM,kas_descPart->OU,kas_sort->NJ,codeIn->QA,kitOne->Qz,methodObj->RA
open Nat renaming le_refl->v6,ne_of_lt->A4,zero_le->B5,lt_of_lt_of_le->K0,lt_irrefl->G0,le_trans->F4,lt_succ_self->Ml,lt_or_ge->Mx,not_lt_zero->ND,ne_of_gt->Na,lt_succ_of_lt->OB,le_of_lt->NN,sub_self->NL,not_lt->Nw,lt_trichotomy->P6,le_add_right->PU,add_sub_cancel->QS,le_succ->OS,lt_trans->PC
open Bool renaming false_eq_true->A7,and_eq_true->E4,false_ne_true->MA,eq_false_iff->NF,not_true->MI,or_eq_true->O2,eq_iff_iff->PQ,true_and->OX,false_and->PN,and_false->PL,false_or->PD
open Option.some renaming inj->C3
open Array renaming getElem?_eq_getElem->G6,length_toList->E2,getElem?_toList->G5,getElem?_eq_some_iff->Ni,getD_eq_getD_getElem?->Og,getElem?_eq_none->OF,getD->MT,forIn_toList->O5,toList_push->QN
open Classical renaming propDecidable->K1,byContradiction->NW
open PySem.SetTable renaming below->E7,runEnd->K4,bits->Nq,leap->NO,Probe->N5,grown->Ow,turns->OY,fits->OW,insertAt->QM,sizeAbove->RB,fill->Qx
open Int renaming toNat_natCast->J4,zero_add->Ot,le_refl->Py
open PySem.Heap.SameBut renaming update->L3
open Option renaming map_eq_some_iff->MQ,isSome_iff_exists->Q9,getD_some->PR,isSome_map->QK
open Ne renaming symm->z9
open PySem.Value renaming ref->AB6,none->ABN,bool->Nz,type->Oq
open PySem.Builtin.Dict_items renaming ownsTuple->Oh,ownedTupleFields->Sk,ownedTupleIsFree->Sj,pairFromOwner->Sh,newIterator->Sg,dictOf->R9
open PySem.Builtin.SmallTypes renaming nextOf->Oe,ownedTupleIsFree->Rm,ownedTupleHandOut->Sm
open PyProof.Rows renaming slot_tuple_getitem->Pe,callWith_type1->Re,get?_update_seq->QC
open PySem.NameKind renaming free->Mr,cell->N4
open PySem.Builtin.Tuple renaming tupleHashOf->OH,tupleItemsOf->Rc,tupleExact->Q8
open PySem.Around renaming under_plainId->NU
open PySem.Calls renaming callWith_builtin->Od,evalArgs_plain->Qf,spliced_cons->RC
open Sum renaming inr->ABm
open PySem.Builtin.Str renaming strSliceIndices->Pd,occurrences->Q3
open PySem.Obj renaming data_mapDictKeys->Oc,mapSeq->Mp,isFreed_of_dict->O7,data_mapFields->O6,mapFields->Ou,isFreed_of_fields->RH,data_mapDict->QH,putSet->OQ
open PySem.F renaming slot_dict_itemiterator_next->Rl,plainAttrs_dict->Pc,slot_tuple_getattribute->Rk,slot_dict_get->O9,slot_list_getattribute->Ri,slot_dict_setdefault->Rf,kt_typeCall_dict_1->RZ,args_dict_itemiterator_next_1->Sn,slot_dict_getitem->RX,entry_dict_itemiterator_next->Sl,args_tuple_add_2->RV,args_dict_init_2->RT,entry_tuple_add->RR,args_dict_get_3->RP,entry_dict_init->RO,slot_tuple_add->RM,entry_dict_get->RL,kt_called_dict->RJ,type_dict_get->RF
open PySem.Builtin.Dict renaming updateFrom->Pb,showsAll->O8,selfAndRest->RS,keyAndDefault->Sb,missedRemoval->Sa
open PySem.Shared renaming TypeIs->Np
open PySem.SeqAt renaming EqAt->MG
open PySem.SetTable.below renaming go->OA
open PySem.Builtin.Slice renaming slicePlaces->Rb,sliceAdjust->RY,sliceApplied->Sd
open PySem.Txt renaming slice->MS
open PySem.SetTable.layClean renaming free->Q1
open PySem.SeqAt.EqAt renaming int_str->Qc,str_int->Qb,int_int->QV,str_str->QU,same->QD
open List.cons renaming injEq->O1,inj->PH
open List.Pairwise renaming and_mem->QY,nil->QP
open False renaming elim->Ny
open True renaming intro->Nx
open List.Sublist renaming refl->P0
open List.Perm renaming refl->O0,cons->Qy
open PySem.Builtin.List renaming listTooLong->RU,listLengthHint->Sf,listExtendWith->Se
open ForInStep renaming yield->QF
open PySem.SetTable.probe renaming go->Rz
open Option renaming some->a7,none->a8
open Bool renaming true->a9,false->b7
open PySem renaming Value->b8,Str->b9,World->c7,Program->c8,Addr->c9,Obj->d5,Heap->d6,sysModules->d7,entryOfKey->d8,mainGlobals->d9,bootBuiltins->e7,Around->e8,Shared->f6,Scope->f7,wpAny->f9,Expr->ge,model->g7,backTo->g9,starEach->h7,Stmt->i3,holding->i4,swapsWith->i5,assign->i6,assignEach->i7,pyNext->i8,letOwnedTupleGo->i9,pyIter->j0,rawInt->j1,foldedSetIterable->j2,binaryOp->j3,compareOp->j4,behindInMarks->j5,cLine->j6,FuncData->j7,codeAny->j8,NameKind->j9,IsPart->k7,getItem->k9,sliceBounds->l7,typeOf->l8,attributeBase->m3,backToKw->m5,keywordEach->m6,Keyword->m7,DictEntry->m8,atKey->m9,reduceHash->n5,firstArgMember->n9,IsPair->o0,pickOrder->o4,SetTable->o5,eqIsQuiet->o6,placesWithHash->o7
open PyProof.Rows renaming AllBare->f8,envOfC->k5,seqObj->n6
set_option autoImplicit true
set_option relaxedAutoImplicit true
set_option compiler.extract_closed false
set_option Elab.async false
set_option linter.all false
set_option maxRecDepth 100000
def o8:=@if_pos
def p4:=@if_neg
def p7:=@absurd
def p8:=@decide_eq_true_eq
def p9:=@beq_iff_eq
def r9:=@if_false
def s9:=@if_true
def t4:=@congrArg
def t5:=@beq_self_eq_true
-- CHANGE: your row's module here,as the last of these rows
theorem dF_{p:Prop}[Decidable p](h:¬p):decide p=b7:=decide_eq_false h
theorem dT_{p:Prop}[Decidable p](h:p):decide p=a9:=decide_eq_true h
theorem oT_{p:Prop}[Decidable p](h:decide p=a9):p:=of_decide_eq_true h
namespace L2
open PySem PySem.Spec PyProof.Rows
noncomputable abbrev E1:=Sum Int b9
noncomputable def yo:E1->b8->Bool
 |.inl k,v=>Value.isInt k v
 |.inr x,v=>Value.isStrOf x v
noncomputable def keyH(w:c7):E1->Int
 |.inl k=>hashInt k
 |.inr x=>hashStr w x
theorem bq:∀{k:E1}{v:b8},yo k v=a9->(∃i t,k=Sum.inl i/\v=Value.int i t)\/(∃x t,k=ABm x/\v=Value.str x t)
 |.inl i,v,h=>by obtain⟨t,e⟩:=Value.isInt_shape (k:=i) (v:=v) h;exact .inl ⟨i,t,rfl,e⟩
 |.inr x,v,h=>by obtain⟨t,e⟩:=Value.isStrOf_shape (x:=x) (v:=v) h;exact .inr ⟨x,t,rfl,e⟩
theorem AK(i:Int)(t:Tok):yo (.inl i) (.int i t)=a9:=by simp[yo,Value.isInt]
theorem AJ(x:b9)(t:Tok):yo (.inr x) (.str x t)=a9:=by simp[yo,Value.isStrOf]
theorem Ku(a b:Int):decide ((Sum.inl a:E1)=Sum.inl b)=(a==b):=by by_cases e:a=b;subst e;simp;have h:¬(Sum.inl a:E1)=Sum.inl b:=λq=>e<|Sum.inl.inj q;rw[dF_ h];exact(beq_eq_false_iff_ne.mpr e).symm
theorem Fy(a b:b9):decide ((ABm a:E1)=ABm b)=decide (a=b):=by by_cases e:a=b;subst e;simp;have h:¬(ABm a:E1)=ABm b:=λq=>e<|Sum.inr.inj q;rw[dF_ h,dF_ e]
theorem Kt(a:Int)(b:b9):decide ((Sum.inl a:E1)=ABm b)=b7:=dF_<|λq=>nomatch q
theorem Ks(a:b9)(b:Int):decide ((ABm a:E1)=Sum.inl b)=b7:=dF_<|λq=>nomatch q
noncomputable def bL(prog:c8)(w:c7):PySem.KeyKind prog w E1 where
 is:=yo
 hash:=keyH w
 inj:=λv a b f d=>by
  rcases bq f with⟨i,t,rfl,rfl⟩|⟨x,t,rfl,rfl⟩
  rcases bq d with⟨j,u,rfl,e⟩|⟨y,u,rfl,e⟩
  injection e with e1 _;rw[e1];exact nomatch e
  rcases bq d with⟨j,u,rfl,e⟩|⟨y,u,rfl,e⟩
  exact nomatch e
  injection e with e1 _;rw[e1]
 byValue:=λk v h=>by rcases bq h with⟨i,t,rfl,rfl⟩|⟨x,t,rfl,rfl⟩<;>rfl
 pyHash:=λc h=>by
  rcases bq c with⟨i,t,rfl,rfl⟩|⟨x,t,rfl,rfl⟩
  exact PZ h;exact PY h
 eqBool:=λg c h=>by
  rcases bq g with⟨i,t,rfl,rfl⟩|⟨x,t,rfl,rfl⟩
  rcases bq c with⟨j,u,rfl,rfl⟩|⟨y,u,rfl,rfl⟩
  rw[Ku]at h;exact wpAny_eqBool_int h;rw[Kt]at h;exact Qc i t y u _ _ _ _ h;rcases bq c with⟨j,u,rfl,rfl⟩|⟨y,u,rfl,rfl⟩
  rw[Ks]at h;exact Qb x t j u _ _ _ _ h;rw[Fy]at h;exact wpAny_eqBool_str h
 «strs»:=λk x t v h=>by
  rcases bq h with⟨i,u,rfl,e⟩|⟨y,u,rfl,e⟩
  exact nomatch e
  injection e with e1 _;subst e1;cases v<;>rfl
theorem vn(prog:c8)(w:c7)(i:Int)(t:Tok):(bL prog w).is (.inl i) (.int i t)=a9:=AK i t
theorem vm(prog:c8)(w:c7)(x:b9)(t:Tok):(bL prog w).is (.inr x) (.str x t)=a9:=AJ x t
inductive V where
 |non|bl (b:Bool)|int (i:Int)|str (x:b9)|byt (b:Array UInt8)|flt (b:UInt64)|ref (a:c9)|ty (n:String)
 deriving DecidableEq
def aL:V->b8->Prop
 |.non,u=>u=ABN
 |.bl b,u=>u=Nz b
 |.int i,u=>∃t,u=Value.int i t
 |.str x,u=>∃t,u=Value.str x t
 |.byt b,u=>∃t,u=Value.bytes b t
 |.flt b,u=>∃t,u=Value.float b t
 |.ref a,u=>u=AB6 a
 |.ty n,u=>u=Oq n
abbrev aw:List V->List b8->Prop:=Paired aL
theorem aw.length(r:aw xs us):xs.length=us.length:=Paired.length r
theorem aw.get:∀{xs:List V}{us:List b8}{i:Nat}{x:V},aw xs us->xs[i]?=a7 x->∃u,us[i]?=a7 u/\aL x u
 |_,_,_,_,.nil,e=>by simp at e
 |_,_,0,_,.cons r _,e=>by simp at e;subst e;exact⟨_,rfl,r⟩
 |_,_,i+1,x,.cons _ t,e=>by obtain⟨u,h1,h2⟩:=aw.get (i:=i) (x:=x) t (by simpa using e);exact⟨u,by simpa using h1,h2⟩
theorem aw.set(r:aL x u):∀{xs:List V}{us:List b8} (i:Nat),aw xs us->aw (xs.set i x) (us.set i u)
 |_,_,_,.nil=>.nil
 |_,_,0,.cons _ t=>.cons r t
 |_,_,i+1,.cons q t=>.cons q<|aw.set r i t
theorem aw.append(h:aw xs us)(s:aw ys ws):aw (xs++ys) (us++ws):=by
 induction h with
 |nil=>exact s
 |cons r t i=>exact .cons r i
theorem aw.take:∀{xs:List V}{us:List b8} (n:Nat),aw xs us->aw (xs.take n) (us.take n)
 |_,_,0,_=>.nil
 |_,_,_+1,.nil=>.nil
 |_,_,n+1,.cons r t=>.cons r<|aw.take n t
theorem aw.drop:∀{xs:List V}{us:List b8} (n:Nat),aw xs us->aw (xs.drop n) (us.drop n)
 |_,_,0,r=>r
 |_,_,_+1,.nil=>.nil
 |_,_,n+1,.cons _ t=>aw.drop n t
def Cf:Option V->Option b8->Prop
 |some v,a7 u=>aL v u
 |none,a8=>True
 |_,_=>False
def KV{κ:Type}:List (κ×V)->List (κ×b8)->Prop:=Paired λ(p:κ×V) (q:κ×b8)=>p.1=q.1/\aL p.2 q.2
noncomputable def kV:E1->V
 |.inl i=>.int i
 |.inr x=>.str x
inductive HO where
 |lst (xs:List V)
 |tup (xs:List V)
 |dK (kvs:List (E1×V))|dT (kvs:List (List E1×V))
 |set (S:Int->Bool) (n:Nat)
 |ins (C dx:c9) (fs:List (b9×V))
 |own (x:c9)
 |xd (fs:List (b9×V))
 |met (f x:c9)
 |rng (lo hi:Int)
 |frz (o:d5) (u:HO)
 |tbl (ps:Array b8)
 |ext (φ:c8->c7->d6->Prop)
abbrev Hp:=c9->Option HO
noncomputable def x3(H:Hp)(a:c9)(o:HO):Hp:=λb=>if b=a then a7 o else H b
theorem aP:x3 H a o a=a7 o:=by unfold x3;rw[o8 rfl]
theorem ax(h:b≠a):x3 H a o b=H b:=by unfold x3;rw[p4 h]
theorem yc{H:Hp}{a b:c9}{o u:HO}(h:H a=a7 o)(h':H b=a7 u)(d:o≠u):a≠b:=by intro e;subst e;rw[h]at h';exact d<|C3 h'
theorem ae{H:Hp}{a b:c9}{o:HO}(h:H a=a7 o)(h':H b=a8):a≠b:=by intro e;subst e;rw[h]at h';cases h'
section
variable(P:c8)(w:c7)
def Fa(h:d6)(a:c9)(s:Array b8):Prop:=∃o,h.get? a=a7 o/\o.cls=.type "tuple"/\(∃n,o.data=.seq s n)/\o.dict=a8
theorem Fa.tup:Fa h a items->IsTup h a items:=λ⟨o,e,c,⟨n,d⟩,_⟩=>⟨o,e,c,n,d⟩
theorem Fa.new(h:d6)(s:Array b8):Fa (h.push { cls:=.type "tuple",data:=.seq s }) h.objs.size s:=⟨_,A8 _ rfl,rfl,⟨_,rfl⟩,rfl⟩
def bJ(H:Hp)(h:d6)(a:c9):HO->Prop
 |.lst xs=>xs.length<=sizeLine/\∃(its:List b8) (n:Nat),aw xs its/\h.get? a=a7 { cls:=.type "list",data:=.seq its.toArray n }
 |.tup xs=>xs.length<=sizeLine/\∃its:List b8,aw xs its/\Fa h a its.toArray
 |.dK kvs=>kvs.length<=sizeLine/\(a==d7)=b7/\∃vs,KV kvs vs/\h.DictOf (bL P w) a vs
 |.dT kvs=>kvs.length<=sizeLine/\(a==d7)=b7/\∃xs:List (List E1×c9×b8),Paired (λ(p:List E1×V) (q:List E1×c9×b8)=>p.1=q.1/\H q.2.1=a7 (.tup<|p.1.map kV)/\aL p.2 q.2.2) kvs xs /\∃o es ep,h.get? a=a7 o/\o.ExactDict/\o.data=.dict es ep/\es.toList=xs.map (d8<|tupleKind<|bL P w)/\(xs.map (·.1)).Nodup
 |.set S n=>h.SetOf (intKind P w) a S n
 |.ins C dx fs=>H dx=a7 (.own a)/\fs.length<=1000/\dx≠a/\h.get? a=a7 (PySem.W.instObj C dx) /\∃mA,h.Ns1 dx mA/\(∀f,Cf (fs.lookup f)<|mA f)/\PySem.Within mA (fs.map (·.1))
 |.own _=>∃o,h.get? a=a7 o
 |.xd fs=>∃mA,h.Ns1 a mA/\∀f,Cf (fs.lookup f)<|mA f
 |.rng lo hi=>∃t u v,h.get? a=a7 { cls:=.type "range",data:=.fields #[.int lo t,.int hi u,.int 1 v] }
 |.frz o u=>h.get? a=a7 o/\bJ H h a u
 |.tbl ps=>h.get? a=a7 { cls:=.none,data:=.fields ps }
 |.met f x=>h.get? a=a7 (RA (.ref f)<|.ref x)
 |.ext φ=>φ P w h/\(∃o,h.get? a=a7 o)/\∀h1 h2:d6,φ P w h1->(∀o,h1.get? a=a7 o->h2.get? a=a7 o)->φ P w h2
def D8(H:Hp)(h:d6):Prop:=∀a o,H a=a7 o->bJ P w H h a o
end
theorem bJ.lt(x:bJ P w H h a o):a<h.objs.size:=by
 cases o with
 |lst xs=>obtain⟨_,_,_,_,e⟩:=x;exact z6 e
 |tup xs=>obtain⟨_,_,_,p⟩:=x;exact p.tup.lt
 |dK kvs=>obtain⟨_,_,_,_,o,_,_,e,_⟩:=x;exact z6 e
 |dT kvs=>obtain⟨_,_,_,_,o,_,_,e,_⟩:=x;exact z6 e
 |set S n=>obtain⟨o,_,_,_,e,_⟩:=x;exact z6 e
 |ins C d s=>obtain⟨_,_,_,e,_⟩:=x;exact z6 e
 |own y=>obtain⟨_,e⟩:=x;exact z6 e
 |xd s=>obtain⟨_,⟨_,_,_,e,_⟩,_⟩:=x;exact z6 e
 |rng l hi=>obtain⟨_,_,_,e⟩:=x;exact z6 e
 |frz b u=>obtain⟨e,_⟩:=x;exact z6 e
 |tbl ps=>exact z6<|show h.get? a=a7 _ from x
 |met f y=>exact z6<|show h.get? a=a7 _ from x
 |ext φ=>obtain⟨_,⟨_,e⟩,_⟩:=x;exact z6 e
theorem Paired.mapP{α β:Type}{F G:α->β->Prop}:∀{l₁:List α}{l₂:List β},Paired F l₁ l₂->(∀a b,F a b->G a b)->Paired G l₁ l₂
 |_,_,.nil,_=>.nil
 |_,_,.cons r t,f=>.cons (f _ _ r)<|Paired.mapP t f
theorem bJ.stay(x:bJ P w H h a o)(k:∀b u,(b=a\/H b=a7 (.own a))->h.get? b=a7 u->h'.get? b=a7 u)(B:∀b,H b=a7 (.own a)->H' b=a7 (.own a)) (D:∀b xs,H b=a7 (.tup xs)->H' b=a7 (.tup xs)):bJ P w H' h' a o:=by
 induction o with
 |lst xs=>obtain⟨z,its,n,r,e⟩:=x;exact⟨z,its,n,r,k _ _ (.inl rfl) e⟩
 |tup xs=>obtain⟨z,its,r,g,e,c⟩:=x;exact⟨z,its,r,g,k _ _ (.inl rfl) e,c⟩
 |dK kvs=>obtain⟨z,y,vs,r,g,es,i,e,c⟩:=x;exact⟨z,y,vs,r,g,es,i,k _ _ (.inl rfl) e,c⟩
 |dT kvs=>obtain⟨z,y,xs,r,g,es,i,e,c⟩:=x;exact⟨z,y,xs,Paired.mapP r λp q z=>⟨z.1,D _ _ z.2.1,z.2.2⟩,g,es,i,k _ _ (.inl rfl) e,c⟩
 |set S n=>obtain⟨g,es,i,t,e,c⟩:=x;exact⟨g,es,i,t,k _ _ (.inl rfl) e,c⟩
 |ins C G m=>obtain⟨d,z,F,e,A,⟨j,es,i,l,c⟩,r⟩:=x;exact⟨B _ d,z,F,k _ _ (.inl rfl) e,A,⟨j,es,i,k _ _ (.inr d) l,c⟩,r⟩
 |own y=>obtain⟨g,e⟩:=x;exact⟨g,k _ _ (.inl rfl) e⟩
 |xd m=>obtain⟨A,⟨j,es,i,e,c⟩,r⟩:=x;exact⟨A,⟨j,es,i,k _ _ (.inl rfl) e,c⟩,r⟩
 |rng I hi=>obtain⟨t,u,v,e⟩:=x;exact⟨t,u,v,k _ _ (.inl rfl) e⟩
 |frz g u E=>obtain⟨e,q⟩:=x;exact⟨k _ _ (.inl rfl) e,E q⟩
 |tbl ps=>have e:h.get? a=a7 { cls:=.none,data:=.fields ps }:=x;show h'.get? a=a7 { cls:=.none,data:=.fields ps };exact k a _ (.inl rfl) e
 |met f y=>have e:h.get? a=a7 (RA (.ref f)<|.ref y):=x;show h'.get? a=a7 (RA (.ref f)<|.ref y);exact k a _ (.inl rfl) e
 |ext φ=>obtain⟨p,⟨o,e⟩,s⟩:=x;exact⟨s _ _ p λo q=>k _ _ (.inl rfl) q,⟨o,k _ _ (.inl rfl) e⟩,s⟩
theorem D8.lt(x:D8 P w H h)(e:H a=a7 o):a<h.objs.size:=(x a o e).lt
theorem D8.fresh(x:D8 P w H h)(e:h.objs.size<=a):H a=a8:=by
 cases q:H a with
 |none=>rfl
 |some u=>exact p7 (K0 (x.lt q) e)<|G0 _
theorem D8.kept(x:D8 P w H h)(k:∀b u,h.get? b=a7 u->h'.get? b=a7 u):D8 P w H h':=λa o e =>
 (x a o e).stay (λb u _ q=>k b u q) (λ_ q=>q) λ_ _ q=>q
theorem D8.laid(x:D8 P w H h)(k:∀b u,h.get? b=a7 u->h'.get? b=a7 u)(hp:h.objs.size<=a)(n:bJ P w (x3 H a o) h' a o):D8 P w (x3 H a o) h':=λb u e=>by have f:=x.fresh hp;by_cases d:b=a;subst d;rw[aP]at e;cases e;exact n;rw[ax d]at e;exact(x b u e).stay (λc v _ q=>k c v q) (λc q=>by rw[ax<|ae q f];exact q) λc xs q=>by rw[ax<|ae q f];exact q
def Rd(H:Hp)(a:c9)(u:HO):Prop:=H a=a7 u\/∃o,H a=a7 (.frz o u)
theorem Rd.ok(r:Rd H a u)(x:D8 P w H h):bJ P w H h a u:=by
 rcases r with r|⟨o,r⟩
 exact x a u r;obtain⟨_,q⟩:=x a _ r;exact q
def Pv:Option HO->Prop
 |some (.lst _)=>True
 |some (.dK _)=>True
 |some (.dT _)=>True
 |some (.set _ _)=>True
 |some (.ins _ _ _)=>True
 |some (.ext _)=>True
 |_=>False
theorem D8.write(ok:D8 P w H h)(m:Pv (H x))(i:e=x\/H e=a7 (.own x))(k:∀b u,b≠e->h.get? b=a7 u->h'.get? b=a7 u)(o:∃u,h'.get? e=a7 u)(g:bJ P w (x3 H x o') h' x o'):D8 P w (x3 H x o') h':=λb u q=>by
 have n:∀c y,H c=a7 (.own y)->c≠x:=λc y r z=>by subst z;rw[r]at m;exact m
 have p:∀c xs,H c=a7 (.tup xs)->c≠x:=λc xs r z=>by subst z;rw[r]at m;exact m
 by_cases d:b=x;subst d;rw[aP]at q;cases q;exact g;rw[ax d]at q;by_cases a:b=e;have j:H b=a7 (.own x):=by rcases i with z|z;exact p7 (a.trans z) d;rw[a];exact z
 rw[q]at j;cases j;obtain⟨v,l⟩:=o;exact⟨v,by rw[a];exact l⟩;refine(ok b u q).stay (λc v f r=>k c v ?_ r) (λc r=>by rw[ax<|n c b r];exact r) λc xs r=>by rw[ax<|p c xs r];exact r
 rcases f with rfl|f;exact a;rintro rfl;rcases i with z|z;exact n c b f z;rw[f]at z;cases z;exact d rfl
structure Un(fs ex:List c9)(H H':Hp)(h h':d6):Prop where
 keep:∀b o,h.get? b=a7 o->H b=a8->b∉fs->b∉ex->h'.get? b=a7 o
 slot:∀b o,h.get? b=a7 o->H b=a8->b∈fs->b∉ex->∃sl,h'.get? b=a7 { o with slots:=sl }
 free:∀b o,h.get? b=a7 o->H b=a8->b∉ex->H' b=a8
 there:∀b o,h.get? b=a7 o->b∉ex->∃o',h'.get? b=a7 o'
 tups:∀b xs,H b=a7 (.tup xs)->H' b=a7 (.tup xs)
 frzs:∀b o u,H b=a7 (.frz o u)->H' b=a7 (.frz o u)
 tbls:∀b ps,H b=a7 (.tbl ps)->∃more,H' b=a7 (.tbl<|ps++more)
theorem Un.any(u:Un fs ex H H1 h h1)(q:h.get? b=a7 ob)(n:H b=a8)(x:b∉ex):∃sl,h1.get? b=a7 { ob with slots:=sl }:=by by_cases d:b∈fs;exact u.slot b ob q n d x;exact⟨ob.slots,u.keep b ob q n d x⟩
theorem Un.kept(k:∀b u,h.get? b=a7 u->h'.get? b=a7 u):Un fs ex H H h h':=⟨λb o q _ _ _=>k b o q,λb o q _ _ _=>⟨o.slots,k b o q⟩,λ_ _ _ n _=>n,λb o q _=>⟨o,k b o q⟩,λ_ _ q=>q,λ_ _ _ q=>q,λ_ ps q=>⟨#[],by rw[q];simp⟩⟩
theorem Un.refl:Un fs ex H H h h:=Un.kept λ_ _ q=>q
theorem Un.laid(k:∀b u,h.get? b=a7 u->h'.get? b=a7 u)(hp:h.objs.size<=a)(f:H a=a8):Un fs ex H (x3 H a o) h h' where
 keep:=λb u q _ _ _=>k b u q
 slot:=λb u q _ _ _=>⟨u.slots,k b u q⟩
 free:=λb u q n _=>by rw[ax<|A4<|K0 (z6 q) hp];exact n
 there:=λb u q _=>⟨u,k b u q⟩
 tups:=λb xs q=>by rw[ax<|ae q f];exact q
 frzs:=λb u xs q=>by rw[ax<|ae q f];exact q
 tbls:=λb ps q=>⟨#[],by rw[ax<|ae q f,q];simp⟩
theorem Un.write(m:Pv (H x))(i:e=x\/H e=a7 (.own x))(k:∀b u,b≠e->h.get? b=a7 u->h'.get? b=a7 u)(c:∃u,h'.get? e=a7 u):Un fs ex H (x3 H x o) h h':=by
 have g:∀b,H b=a8->b≠x:=λb n z=>by subst z;rw[n]at m;exact m
 have f:∀b,H b=a8->b≠e:=λb n z=>by subst z;rcases i with r|r;exact g b n r;rw[n]at r;cases r
 have d:∀b u,H b=a7 u->¬Pv (a7 u)->b≠x:=λb u q j z=>by subst z;rw[q]at m;exact j m
 refine⟨λb u q n _ _=>k b u (f b n) q,λb u q n _ _=>⟨u.slots,k b u (f b n) q⟩,λb u q n _=>by rw[ax<|g b n];exact n,λb u q _=>?_,λb xs q=>by rw[ax<|d b _ q λz=>z];exact q,λb u xs q=>by rw[ax<|d b _ q λz=>z];exact q,λb ps q=>⟨#[],by rw[ax<|d b _ q λz=>z,q];simp⟩⟩;by_cases a:b=e;subst a;exact c;exact⟨u,k b u a q⟩
noncomputable def trk(h:d6)(H:Hp):List c9:=(D0 h.objs.size).filter λa=>(H a).isSome
noncomputable def Eh(h:d6)(H:Hp):d6:=PySem.W.hideAll h<|trk h H
theorem AW(h:d6)(H:Hp):(Eh h H).objs.size=h.objs.size:=PySem.W.hideAll_size _ _
theorem Eg(e:h.get? b=a7 o)(n:H b=a8):(Eh h H).get? b=a7 o:=PySem.W.hideAll_get _ e λd=>by have q:(H b).isSome=a9:=(E5.mp d).2;rw[n]at q;simp at q
theorem GF(e:(Eh h H).get? b=a7 o):h.get? b=a7 o/\H b=a8:=by
 have a:h.get? b=a7 o:=PySem.W.of_hideAll (trk h H) e;refine⟨a,?_⟩;cases q:H b with
 |none=>rfl
 |some x=>have d:b∈trk h H:=E5.mpr ⟨I0.mpr<|z6 a,by simp[q]⟩;have z:(Eh h H).get? b=a8:=PySem.W.hideAll_none (trk h H) d;rw[z]at e;cases e
noncomputable def IB(g h:d6)(L:c9):List (c9×d5):=(D0 h.objs.size).filterMap λa=>if a=L\/(g.get? a).isSome=a9 then a8 else(h.get? a).map λo=>(a,o)
noncomputable def aM(g h:d6)(L d:c9):List (c9×d5):=(IB g h L).filter λp=>decide<|p.1≠d
structure Mod(K:v4)(mg:b9->Option b8)(base:d6):Prop where
 kin:K.In base
 glob:base.Ns d9 mg
 blt:∃mb,base.Ns builtinsNs mb/\∀x:b9,x≠"__name__"->mb x=e7 x
 nolimit:base.NoLimit
/-- the context: a def's body (or a comprehension's block) running. base: fixed through the whole law;s₀,H₀: the entry;outer: the frames whose slots others may change (a def's callers);stack: all frames that run;
  ex: iterators that were made fB of the entry and are walked here (a comprehension's);fn: the names whose cells were made at the entry (a def: all;a comprehension's block: its own);calm: not cr an except suite;pn: pins that every state bears;xe: what is wanted of an exception that leaves the code -/
structure Cx where
 prog:c8
 w:c7
 K:v4
 mg:b9->Option b8
 base:d6
 A:e8
 N:List b9
 s₀:f6
 H₀:Hp
 env:Env
 outer:List Env
 stack:List Env
 ex:List c9
 fn:b9->Bool
 calm:Bool
 pn:List (c9×d5)
 xe:b8->f6->Prop
noncomputable def K2(l:List Env):List c9:=l.filterMap (·.frame)
noncomputable abbrev Cx.fs(X:Cx):List c9:=K2 X.outer
def Om(c:f7)(x:b9):Prop:=c.names.lookup x=a7 .local\/c.names.lookup x=a7 .cell\/c.names.lookup x=a7 .free
def N1(c:f7)(x:b9):Prop:=c.names.lookup x=a7 .local\/c.names.lookup x=a7 .cell
def Look(env:Env)(h:d6)(m:b9->Option b8)(x:b9)(u:b8):Prop:=(env.kindOf x=a7 .local/\m x=a7 u)\/((env.kindOf x=a7 .cell\/env.kindOf x=a7 .free)/\∃c,env.cells.lookup x=a7 c/\h.IsCell c (a7 u))
structure Cx.Ok(X:Cx):Prop where
 mod:Mod X.K X.mg X.base
 kind:X.env.scope.kind=.function
 glob:X.env.globals=d9
 blt:X.env.builtins=builtinsNs
 above:X.s₀.heap.objs.size<=X.env.locals
 inj:∀x y c,X.env.cells.lookup x=a7 c->X.env.cells.lookup y=a7 c->x=y
 has:∀x,(X.env.kindOf x=a7 .cell\/X.env.kindOf x=a7 .free)->∃c,X.env.cells.lookup x=a7 c
 cab:∀x c,X.fn x=a9->X.env.cells.lookup x=a7 c->X.s₀.heap.objs.size<=c
 hd:X.calm=a9->X.A.handled=a8
 frames:X.A.frames=a7 X.stack
 stk:X.stack=X.outer\/(X.stack=X.env::X.outer/\X.env.frame=a7 X.env.locals)
 exf:∀b∈X.ex,b≠X.env.locals/\∀x c,X.env.cells.lookup x=a7 c->c≠b
 bs:∀b o,X.base.get? b=a7 o->X.s₀.heap.get? b=a7 o/\X.H₀ b=a8
 bsz:X.base.objs.size<=X.s₀.heap.objs.size
 noex:∀b o,X.base.get? b=a7 o->b∉X.ex
 exfs:∀b∈X.ex,b∉X.fs
 funs:X.s₀.heap.FunFrames X.base X.outer
 frf:∀b∈X.fs,X.H₀ b=a8
structure t9(X:Cx)(pins:List (c9×d5))(σ:List (Option V))(H:Hp)(s:f6):Prop where
 ok:X.Ok
 os:s.os=X.s₀.os
 bare:f8 s.gens
 base:Un X.fs X.ex X.H₀ H X.s₀.heap s.heap
 loc:∃m,s.heap.Ns X.env.locals m/\∀(i:Nat) (x:b9) (v:V),X.N[i]?=a7 x->σ[i]?=a7 (a7 v)->Om X.env.scope x->∃u,aL v u/\Look X.env s.heap m x u
 cell:∀x c,X.env.cells.lookup x=a7 c->∃v,s.heap.IsCell c v
 free:H X.env.locals=a8
 freeC:∀x c,X.env.cells.lookup x=a7 c->H c=a8
 pin:∀p∈X.pn++pins,s.heap.get? p.1=a7 p.2/\H p.1=a8/\p.1≠X.env.locals/\p.1∉X.fs/\∀v,p.2.data≠.cell v
 hok:D8 X.prog X.w H s.heap
 len:σ.length=X.N.length
theorem Cx.Ok.nofr{X:Cx}(ok:X.Ok)(e:X.base.get? b=a7 o):b∉X.fs:=λd=>by have:=(ok.funs.mem d).1;rw[e]at this;cases this
theorem t9.bs{X:Cx}{pins:List (c9×d5)}{σ:List (Option V)}{H:Hp}{s:f6}(I:t9 X pins σ H s):∀b o,X.base.get? b=a7 o->s.heap.get? b=a7 o/\H b=a8:=λb o e =>
 ⟨I.base.keep b o (I.ok.bs b o e).1 (I.ok.bs b o e).2 (I.ok.nofr e)<|I.ok.noex b o e,I.base.free b o (I.ok.bs b o e).1 (I.ok.bs b o e).2<|I.ok.noex b o e⟩
theorem t9.bk(I:t9 X pins σ H s):∀b o,X.base.get? b=a7 o->s.heap.get? b=a7 o:=λb o e=>(I.bs b o e).1
theorem t9.mod(I:t9 X pins σ H s):Mod X.K X.mg X.base:=I.ok.mod
theorem t9.kIn(I:t9 X pins σ H s):X.K.In s.heap:=I.ok.mod.kin.keeps I.bk
theorem t9.lt(I:t9 X pins σ H s):X.env.locals<s.heap.objs.size:=let ⟨_,hn,_⟩:=I.loc;hn.lt
theorem t9.sz(I:t9 X pins σ H s):X.s₀.heap.objs.size<=s.heap.objs.size:=F4 I.ok.above<|NN I.lt
theorem t9.nofs(I:t9 X pins σ H s)(h:s.heap.objs.size<=a):a∉X.fs:=λd=>by obtain⟨_,o,B,_⟩:=I.ok.funs.mem d;exact p7 (K0 (z6 B)<|F4 I.sz h)<|G0 _
theorem t9.cne(I:t9 X pins σ H s):∀x c,X.env.cells.lookup x=a7 c->c≠X.env.locals:=λx c e z=>by obtain⟨v,o,B,d⟩:=I.cell x c e;obtain⟨m,⟨o',es,i,a,h,_⟩,_⟩:=I.loc;rw[z,a]at B;cases B;rw[h]at d;cases d
theorem t9.funs(I:t9 X pins σ H s):s.heap.FunFrames X.base X.outer:=by
 have a:∀(l:List Env),(∀b∈K2 l,b∈X.fs)->X.s₀.heap.FunFrames X.base l->s.heap.FunFrames X.base l:=by
  intro l;induction l with
  |nil=>intro _ _;trivial
  |cons env r j=>intro hs g;obtain⟨k,⟨L,o,f,n,B,c⟩,i⟩:=g;have h:L∈X.fs:=hs L (by unfold K2;rw[NT,f];exact D3);obtain⟨m,e⟩:=I.base.slot L o B (I.ok.frf L h) h λz=>I.ok.exfs L z h;exact⟨k,⟨L,_,f,n,e,c⟩,j (λb d=>hs b<|by unfold K2;rw[NT,f];exact C4 _ d) i⟩
 exact a X.outer (λ_ d=>d) I.ok.funs
theorem t9.stack(I:t9 X pins σ H s):s.heap.FunFrames X.base X.stack:=by
 rcases I.ok.stk with e|⟨e,f⟩
 rw[e];exact I.funs;rw[e];obtain⟨m,n,_⟩:=I.loc;refine .cons (by rw[I.ok.kind];decide) f n ?_ I.funs;exact Heap.get?_none_of_le<|F4 I.ok.bsz I.ok.above
theorem t9.stkSub(I:t9 X pins σ H s):∀b∈K2 X.stack,b∈X.env.locals::X.fs:=λb d=>by
 rcases I.ok.stk with e|⟨e,f⟩
 rw[e]at d;exact C4 _ d;rw[e]at d;unfold K2 at d;rw[NT,f]at d;exact d
theorem t9.stkFree(I:t9 X pins σ H s):∀b∈K2 X.stack,H b=a8:=λb d=>by rcases A1.mp (I.stkSub b d)with e|d;rw[e];exact I.free;obtain⟨_,o,B,_⟩:=I.ok.funs.mem d;exact I.base.free b o B (I.ok.frf b d) λz=>I.ok.exfs b z d
theorem t9.step{g':Array GenState}{t':Nat}{d':Drawn}{ch:List c9}(I:t9 X pins σ H s)(a:∀b∈ch,(b∈X.ex\/X.s₀.heap.objs.size<=b)/\b≠X.env.locals/\(∀x c,X.env.cells.lookup x=a7 c->c≠b)/\∀p∈X.pn++pins,p.1≠b)(g:∀b o,b≠X.env.locals->b∉X.fs->b∉ch->s.heap.get? b=a7 o->H b=a8->h'.get? b=a7 o)(slot:∀b o,b≠X.env.locals->b∈X.fs->b∉ch->s.heap.get? b=a7 o->H b=a8->∃sl,h'.get? b=a7 { o with slots:=sl }) (f:∀b o,b∉ch->s.heap.get? b=a7 o->H b=a8->H' b=a8)(A:∀b o,b∉ch->s.heap.get? b=a7 o->∃o',h'.get? b=a7 o')(G:∀b xs,H b=a7 (.tup xs)->H' b=a7 (.tup xs)) (E:∀b o u,H b=a7 (.frz o u)->H' b=a7 (.frz o u)) (F:∀b ps,H b=a7 (.tbl ps)->∃more,H' b=a7 (.tbl<|ps++more))(ns:∀m,s.heap.Ns X.env.locals m->h'.Ns X.env.locals m) (K:D8 X.prog X.w H' h') (R:f8 g') :
  t9 X pins σ H' { s with heap:=h',gens:=g',drawn:=d',toks:=t' }:=by
 have L:∀b o,X.s₀.heap.get? b=a7 o->b≠X.env.locals:=λb o e=>A4<|K0 (z6 e) I.ok.above;have C:∀b o,X.s₀.heap.get? b=a7 o->b∉X.ex->b∉ch:=λb o e h y=>by rcases(a b y).1 with z|z;exact h z;exact p7 (K0 (z6 e) z)<|G0 _
 have cellK:∀x c,X.env.cells.lookup x=a7 c->∀v,s.heap.IsCell c v->h'.IsCell c v:=λx c e v ⟨o,B,J⟩=>by have j:c∉ch:=λz=>(a c z).2.2.1 x c e rfl;by_cases N:c∈X.fs;obtain⟨sl,q⟩:=slot c o (I.cne x c e) N j B<|I.freeC x c e;exact⟨_,q,J⟩;exact⟨o,g c o (I.cne x c e) N j B<|I.freeC x c e,J⟩
 refine⟨I.ok,I.os,R,⟨λb o e n y h=>?_,λb o e n y h=>?_,λb o e n h=>?_,λb o e h=>?_,λb xs e=>G b xs<|I.base.tups b xs e,λb o xs e=>E b o xs<|I.base.frzs b o xs e,λb ps e=>?_⟩,?_,λx c e=>?_,?_,λx c e=>?_,λp hp=>?_,K,I.len⟩;exact g b o (L b o e) y (C b o e h) (I.base.keep b o e n y h)<|I.base.free b o e n h;obtain⟨sl,t⟩:=I.base.slot b o e n y h;obtain⟨M,D⟩:=slot b _ (L b o e) y (C b o e h) t<|I.base.free b o e n h;exact⟨M,D⟩;obtain⟨o',t⟩:=I.base.there b o e h;exact f b o' (C b o e h) t<|I.base.free b o e n h;obtain⟨o',t⟩:=I.base.there b o e h;exact A b o' (C b o e h) t;obtain⟨U,t⟩:=I.base.tbls b ps e;obtain⟨V,D⟩:=F b _ t;exact⟨U++V,by rw[D,Array.append_assoc]⟩;obtain⟨m,T,S⟩:=I.loc;refine⟨m,ns m T,λi x v t D Q=>?_⟩;obtain⟨u,r,l⟩:=S i x v t D Q;refine⟨u,r,?_⟩;rcases l with l|⟨k,c,e,z⟩
 exact .inl l;exact .inr ⟨k,c,e,cellK x c e _ z⟩;obtain⟨v,z⟩:=I.cell x c e;exact⟨v,cellK x c e v z⟩;obtain⟨m,⟨o,_,_,B,_⟩,_⟩:=I.loc;exact f _ o (λz=>(a _ z).2.1 rfl) B I.free;obtain⟨v,o,B,J⟩:=I.cell x c e;exact f c o (λz=>(a c z).2.2.1 x c e rfl) B<|I.freeC x c e;obtain⟨e,n,O,P,d⟩:=I.pin p hp;have j:p.1∉ch:=λz=>(a p.1 z).2.2.2 p hp rfl;exact⟨g p.1 p.2 O P j e n,f p.1 p.2 j e n,O,P,d⟩
theorem t9.un{t':Nat}(I:t9 X pins σ H s)(u:Un X.fs [] H H' s.heap h')(K:D8 X.prog X.w H' h'):t9 X pins σ H' { s with heap:=h',toks:=t' }:=by obtain⟨m,⟨o,es,i,B,r⟩,_⟩:=id I.loc;obtain⟨l,L⟩:=u.any B I.free (by simp);exact I.step (g':=s.gens) (d':=s.drawn) (ch:=[]) (λ_ z=>nomatch z) (λb o _ h _ e n=>u.keep b o e n h<|by simp) (λb o _ h _ e n=>u.slot b o e n h<|by simp) (λb o _ e n=>u.free b o e n<|by simp) (λb o _ e=>u.there b o e<|by simp) u.tups u.frzs u.tbls (λg f=>by obtain⟨o',d,c,a,r'⟩:=f;rw[B]at a;cases a;exact⟨_,d,c,L,r'⟩) K I.bare
theorem t9.call{g':Array GenState}{t':Nat}{d':Drawn}{ch:List c9}(I:t9 X pins σ H s)(u:Un (K2 X.stack) ch H H' s.heap h')(K:D8 X.prog X.w H' h')(R:f8 g')(a:∀b∈ch,(b∈X.ex\/X.s₀.heap.objs.size<=b)/\b≠X.env.locals/\(∀x c,X.env.cells.lookup x=a7 c->c≠b)/\∀p∈X.pn++pins,p.1≠b):t9 X pins σ H' { s with heap:=h',gens:=g',drawn:=d',toks:=t' }:=by obtain⟨m,⟨o,es,k,B,r⟩,_⟩:=id I.loc;obtain⟨q,L⟩:=u.any B I.free λz=>(a _ z).2.1 rfl;exact I.step (ch:=ch) a (λb o L i f e n=>u.keep b o e n (λz=>(A1.mp<|I.stkSub b z).elim L i) f) (λb o _ _ f e n=>u.any e n f) (λb o f e n=>u.free b o e n f) (λb o f e=>u.there b o e f) u.tups u.frzs u.tbls (λl j=>by obtain⟨o',g,d,h,r'⟩:=j;rw[B]at h;cases h;exact⟨_,g,d,L,r'⟩) K R
theorem t9.turned{t':Nat}{it:c9}(I:t9 X pins σ H s)(k:∀b o,b≠it->s.heap.get? b=a7 o->h'.get? b=a7 o)(j:H it=a8)(h:it≠X.env.locals)(h1:it∈X.ex\/X.s₀.heap.objs.size<=it) (h2:∀x c,X.env.cells.lookup x=a7 c->c≠it) (a:∀p∈X.pn++pins,p.1≠it):t9 X pins σ H { s with heap:=h',toks:=t' }:=by
 have t:∀b u,H b=a7 u->b≠it:=λb u e z=>by rw[z,j]at e;cases e
 refine I.step (g':=s.gens) (d':=s.drawn) (ch:=[it]) (λb d=>?_) (λb o _ _ f e _=>k b o (λz=>f<|by simp[z]) e) (λb o _ _ f e _=>⟨o.slots,k b o (λz=>f<|by simp[z]) e⟩) (λ_ _ _ _ n=>n) (λb o f e=>⟨o,k b o (λz=>f<|by simp[z]) e⟩) (λ_ _ e=>e) (λ_ _ _ e=>e) (λb ps e=>⟨#[],by rw[e];simp⟩) (λm g=>?_) (λb u e=>?_) I.bare;have e:b=it:=by simpa using d
 subst e;exact⟨h1,h,h2,a⟩;obtain⟨o,es,i,B,r⟩:=g;exact⟨o,es,i,k _ o (z9 h) B,r⟩;refine(I.hok b u e).stay (λc v f q=>k c v ?_ q) (λ_ q=>q) λ_ _ q=>q;rcases f with z|z;rw[z];exact t b u e;exact t c _ z
theorem t9.tok(I:t9 X pins σ H s)(t:Nat):t9 X pins σ H { s with toks:=t }:=I.un (h':=s.heap) (t':=t) Un.refl I.hok
theorem t9.kept(I:t9 X pins σ H s)(k:∀b u,s.heap.get? b=a7 u->h'.get? b=a7 u):t9 X pins σ H { s with heap:=h',toks:=t' }:=I.un (Un.kept k)<|I.hok.kept k
theorem t9.laid(I:t9 X pins σ H s)(k:∀b u,s.heap.get? b=a7 u->h'.get? b=a7 u)(hp:s.heap.objs.size<=a)(n:bJ X.prog X.w (x3 H a o) h' a o):t9 X pins σ (x3 H a o) { s with heap:=h',toks:=t' }:=I.un (Un.laid k hp<|I.hok.fresh hp)<|I.hok.laid k hp n
theorem t9.write(I:t9 X pins σ H s)(m:Pv (H x))(i:e=x\/H e=a7 (.own x))(k:∀b u,b≠e->s.heap.get? b=a7 u->h'.get? b=a7 u)(h:∃u,h'.get? e=a7 u)(n:bJ X.prog X.w (x3 H x o) h' x o):t9 X pins σ (x3 H x o) { s with heap:=h',toks:=t' }:=I.un (Un.write m i k h)<|I.hok.write m i k h n
theorem t9.pins_of(I:t9 X pins σ H s)(h:∀p∈pins',s.heap.get? p.1=a7 p.2/\H p.1=a8/\p.1≠X.env.locals/\p.1∉X.fs/\∀v,p.2.data≠.cell v):t9 X pins' σ H s:=⟨I.ok,I.os,I.bare,I.base,I.loc,I.cell,I.free,I.freeC,λp hp=>(F0.mp hp).elim (λz=>I.pin p<|MW _ z)<|h p,I.hok,I.len⟩
theorem wR{N:List b9}(h:N.Nodup){i j:Nat}{x:b9}(a:N[i]?=a7 x)(b:N[j]?=a7 x):i=j:=by obtain⟨h1,t⟩:=A6.mp a;obtain⟨h2,l⟩:=A6.mp b;exact(List.getElem_inj h).mp<|t.trans l.symm
theorem zC{M:Model}{A:e8}{E:b8->f6->Prop}{i:Nat}{x:b9}{v:V}{u:b8}{Q:Unit->f6->Prop}(I:t9 X pins σ H s)(hN:X.N.Nodup)(hi:X.N[i]?=a7 x)(l:N1 X.env.scope x)(r:aL v u)(h:∀s',t9 X pins (σ.set i<|a7 v) H s'->(∃a,G9 a s.heap s'.heap/\(a=X.env.locals\/X.env.cells.lookup x=a7 a))->Q () s') (hf:X.fn x=a9\/X.env.scope.names.lookup x=a7 .local:=by first|exact .inl rfl|exact .inr rfl|assumption):f9 M A (storeName X.env x u) Q E s:=by
 obtain⟨m,hn,hl⟩:=id I.loc;have R:(X.env.scope.kind==.class||(X.env.scope.kind==.module&&X.env.locals != X.env.globals))=b7:=by rw[I.ok.kind];rfl
 have D:i<σ.length:=by rw[I.len];exact(A6.mp hi).1
 have G:=I.cne;have f:∀{a:c9}{h':d6},(∃o,s.heap.get? a=a7 o/\H a=a8)->G9 a s.heap h'->D8 X.prog X.w H h':=λ{a h'} ha hs b ob e=>by obtain⟨_,_,B⟩:=ha;refine(I.hok b ob e).stay (λc Y g q=>(hs.2 c ?_).trans q) (λ_ q=>q) λ_ _ q=>q;rintro rfl;rcases g with rfl|g;rw[B]at e;cases e;rw[B]at g;cases g
 rcases l with F|F;refine wpAny_storeName_local F hn (λh' ai hs=>?_) R;obtain⟨oL,_,_,aj,_⟩:=id hn;refine h _ ⟨I.ok,I.os,I.bare,⟨λb o e n J l=>?_,λb o e n J l=>?_,I.base.free,λb o e l=>?_,I.base.tups,I.base.frzs,I.base.tbls⟩,⟨_,ai,λj y v' t C Z=>?_⟩,λy c e=>?_,I.free,I.freeC,λp hp=>?_,f ⟨oL,aj,I.free⟩ hs,by simpa using I.len⟩ ⟨_,hs,.inl rfl⟩;exact(hs.2 b<|A4<|K0 (z6 e) I.ok.above).trans<|I.base.keep b o e n J l;obtain⟨sl,t⟩:=I.base.slot b o e n J l;exact⟨sl,(hs.2 b<|A4<|K0 (z6 e) I.ok.above).trans t⟩;obtain⟨o',t⟩:=I.base.there b o e l;exact⟨o',(hs.2 b<|A4<|K0 (z6 e) I.ok.above).trans t⟩;by_cases L:j=i;subst L;rw[hi]at t;cases t;rw[MX D]at C;cases C;exact⟨u,r,.inl ⟨F,by simp⟩⟩;rw[MB<|z9 L]at C;obtain⟨u',r',q⟩:=hl j y v' t C Z;refine⟨u',r',?_⟩;rcases q with⟨k,e⟩|⟨k,c,e,z⟩
 refine .inl ⟨k,?_⟩;have:y≠x:=λe=>L<|wR hN t<|e ▸ hi;simp[this,e];exact .inr ⟨k,c,e,z.sameBut hs<|G y c e⟩;obtain⟨Y,z⟩:=I.cell y c e;exact⟨Y,z.sameBut hs<|G y c e⟩;obtain⟨e,n,W,nf,d⟩:=I.pin p hp;exact⟨(hs.2 p.1 W).trans e,n,W,nf,d⟩;have K:X.fn x=a9:=by rcases hf with z|z;exact z;rw[z]at F;cases F
 obtain⟨c,g⟩:=I.ok.has x<|.inl F;obtain⟨Y,z⟩:=I.cell x c g;refine wpAny_storeName_cell I.ok.kind F g z<|λh' O hs=>?_;obtain⟨oc,S,T⟩:=id z;refine h { s with heap:=h' } ⟨I.ok,I.os,I.bare,⟨λb o e n J l=>?_,λb o e n J l=>?_,I.base.free,λb o e l=>?_,I.base.tups,I.base.frzs,I.base.tbls⟩,⟨m,hn.sameBut hs<|z9<|G x c g,λj y v' t C Z=>?_⟩,λy U e=>?_,I.free,I.freeC,λp hp=>?_,f ⟨oc,S,I.freeC x c g⟩ hs,by simpa using I.len⟩ ⟨c,hs,.inr g⟩;exact(hs.2 b<|A4<|K0 (z6 e)<|I.ok.cab x c K g).trans<|I.base.keep b o e n J l;obtain⟨sl,t⟩:=I.base.slot b o e n J l;exact⟨sl,(hs.2 b<|A4<|K0 (z6 e)<|I.ok.cab x c K g).trans t⟩;obtain⟨o',t⟩:=I.base.there b o e l;exact⟨o',(hs.2 b<|A4<|K0 (z6 e)<|I.ok.cab x c K g).trans t⟩;by_cases L:j=i;subst L;rw[hi]at t;cases t;rw[MX D]at C;cases C;exact⟨u,r,.inr ⟨.inl F,c,g,O⟩⟩;rw[MB<|z9 L]at C;obtain⟨u',r',q⟩:=hl j y v' t C Z;refine⟨u',r',?_⟩;rcases q with q|⟨k,U,e,z'⟩
 exact .inl q;refine .inr ⟨k,U,e,z'.sameBut hs ?_⟩;rintro rfl;exact L<|wR hN t<|I.ok.inj _ _ _ e g ▸ hi;by_cases P:U=c;subst P;exact⟨_,O⟩;obtain⟨w2,z2⟩:=I.cell y U e;exact⟨w2,z2.sameBut hs P⟩;obtain⟨e,n,W,nf,d⟩:=I.pin p hp;refine⟨(hs.2 p.1 ?_).trans e,n,W,nf,d⟩;intro q;rw[q,S]at e;have q':oc=p.2:=C3 e;exact d Y<|by rw[<-q'];exact T
theorem wF(I:t9 X pins σ H s)(b:X.N.Nodup)(hi:X.N[i]?=a7 x)(c:N1 X.env.scope x)(r:aL v u)(h:∀s',t9 X pins (σ.set i<|a7 v) H s'->Q () s') (f:X.fn x=a9\/X.env.scope.names.lookup x=a7 .local:=by first|exact .inl rfl|exact .inr rfl|assumption):f9 M A (storeName X.env x u) Q E s:=zC I b hi c r (λs' a _=>h s' a) f
theorem t9.call'(I:t9 X pins σ H s)(B:s'.os=s.os)(u:Un (K2 X.stack) ch H H' s.heap s'.heap)(K:D8 X.prog X.w H' s'.heap)(R:f8 s'.gens)(a:∀b∈ch,(b∈X.ex\/X.s₀.heap.objs.size<=b)/\b≠X.env.locals/\(∀x c,X.env.cells.lookup x=a7 c->c≠b)/\∀p∈X.pn++pins,p.1≠b):t9 X pins σ H' s':=by obtain⟨h',g',d',t',o'⟩:=s';have e:o'=s.os:=B;subst e;exact I.call (g':=g') (t':=t') (d':=d') u K R a
abbrev XK:=b8->Option c9->Hp->Prop
noncomputable abbrev St:=List<|Option V
abbrev VK:=V->Hp->Prop
abbrev TE:=St->Hp->VK->Prop
abbrev TT:=St->Hp->(Bool->Hp->Prop)->Prop
abbrev TA:=St->Hp->(List V->Hp->Prop)->Prop
structure Ends where
 nx:St->Hp->Prop
 rt:VK
 bk:St->Hp->Prop:=λ_ _=>False
 ct:St->Hp->Prop:=λ_ _=>False
abbrev TS:=Ends->St->Hp->Prop
inductive EP(X:Cx)(pins:List (c9×d5))(σ:St)(Q:VK)(u:b8)(s':f6):Prop
 |mk (v:_) (H':_) (f0:t9 X pins σ H' s') (f1:aL v u) (f2:Q v H')
inductive TP(X:Cx)(pins:List (c9×d5))(σ:St)(Q:Bool->Hp->Prop)(b:Bool)(s':f6):Prop
 |mk (H':_) (f0:t9 X pins σ H' s') (f1:Q b H')
inductive AP(X:Cx)(pins:List (c9×d5))(σ:St)(Q:List V->Hp->Prop)(us:List b8)(s':f6):Prop
 |mk (vs:_) (H':_) (f0:t9 X pins σ H' s') (f1:aw vs us) (f2:Q vs H')
def SP(X:Cx)(pins:List (c9×d5))(D:Ends)(f:Flow)(s':f6):Prop:=match f with
 |.next=>∃a H',t9 X pins a H' s'/\D.nx a H'
 |.brk=>∃a H',t9 X pins a H' s'/\D.bk a H'
 |.cont=>∃a H',t9 X pins a H' s'/\D.ct a H'
 |.ret u=>∃v a H',t9 X pins a H' s'/\aL v u/\D.rt v H'
def PE(X:Cx)(e:ge)(t:TE):Prop:=∀(p:List (c9×d5)) (s:f6) (σ:St) (H:Hp) (Q:VK),t9 X p σ H s->t σ H Q->f9 (g7 X.prog X.w) X.A (eval e X.env) (EP X p σ Q) X.xe s
def PT(X:Cx)(e:ge)(t:TT):Prop:=∀(p:List (c9×d5)) (s:f6) (σ:St) (H:Hp) (Q:Bool->Hp->Prop),t9 X p σ H s->t σ H Q->f9 (g7 X.prog X.w) X.A (isTrue e X.env<|eval e X.env) (TP X p σ Q) X.xe s
def PW(X:Cx)(e:ge)(t:TT):Prop:=∀(a:Sem b8) (p:List (c9×d5)) (s:f6) (σ:St) (H:Hp) (Q:Bool->Hp->Prop),t9 X p σ H s->t σ H Q->f9 (g7 X.prog X.w) X.A (isTrue e X.env a) (TP X p σ Q) X.xe s
theorem PW.pt(h:PW X e t):PT X e t:=h _
def PA(X:Cx)(es:List ge)(t:TA):Prop:=∀(a:Pos) (p:List (c9×d5)) (s:f6) (σ:St) (H:Hp) (Q:List V->Hp->Prop),t9 X p σ H s->t σ H Q->f9 (g7 X.prog X.w) X.A (spliced<|g9 a<|h7 es X.env) (AP X p σ Q) X.xe s
def PS(X:Cx)(st:i3)(t:TS):Prop:=∀(p:List (c9×d5)) (s:f6) (σ:St) (H:Hp) (D:Ends),t9 X p σ H s->t D σ H->f9 (g7 X.prog X.w) X.A (exec st X.env) (SP X p D) X.xe s
def K8(X:Cx)(st:List i3)(t:TS):Prop:=∀(p:List (c9×d5)) (s:f6) (σ:St) (H:Hp) (D:Ends),t9 X p σ H s->t D σ H->f9 (g7 X.prog X.w) X.A (execs st X.env) (SP X p D) X.xe s
theorem w9{α:Type}{t:Sem α}{Q Q':α->f6->Prop}{M:Model}{A:e8}{E:b8->f6->Prop}{s:f6}(h:f9 M A t Q E s)(b:∀a s,Q a s->Q' a s):f9 M A t Q' E s:=L0 h b λ_ _ x=>x
section
variable{X:Cx}
def tVar(i:Nat):TE:=λσ H Q=>∃v,σ[i]?=a7 (a7 v)/\Q v H
def tC(v:V):TE:=λ_ H Q=>Q v H
theorem Fk(g:X.N[i]?=a7 x)(t:Om X.env.scope x)(b:(x==("__debug__":b9))=b7:=by decide)(d:(x==("__classdict__":b9))=b7:=by decide):PE X (.Name x pos) (tVar i):=by
 intro p s σ H Q I h;obtain⟨v,e,h⟩:=h;obtain⟨m,q,j⟩:=I.loc;obtain⟨u,r,l⟩:=j i x v g e t;have n:EP X p σ Q u s:=⟨v,H,I,r,h⟩
 rcases l with⟨k,o⟩|⟨k,c,f,a⟩
 exact wpAny_Name (wpAny_loadName_local I.ok.kind k q o n) b;rcases k with k|k;exact wpAny_Name (wpAny_loadName_cell I.ok.kind k f a n) b;exact wpAny_Name (wpAny_loadName_free I.ok.kind k f a n d) b
theorem JC{i j pos}:PE X (.Constant (.int i) j pos) (tC<|.int i):=λ_ _ _ H _ I h=>wpAny_Constant_int ⟨.int i,H,I.tok _,⟨_,rfl⟩,h⟩
theorem pe_bl{b j pos}:PE X (.Constant (.bool b) j pos) (tC<|.bl b):=λ_ _ _ H _ I h=>Constant_bool ⟨.bl b,H,I,rfl,h⟩
theorem JA{j pos}:PE X (.Constant .none j pos) (tC .non):=λ_ _ _ H _ I h=>Constant_none ⟨.non,H,I,rfl,h⟩
theorem Jx{x j pos}:PE X (.Constant (.str x) j pos) (tC<|.str x):=λ_ _ _ H _ I h=>Calls.Constant_str ⟨.str x,H,I.tok _,⟨_,rfl⟩,h⟩
def Gl(X:Cx)(x:b9):Prop:=X.env.kindOf x=a7 .globalImplicit
theorem GR(I:t9 X pins σ H s)(R:Gl X x)(m:X.mg x=a7 u)(h:Q u s)(d:(x==("__debug__":b9))=b7:=by decide):f9 (g7 X.prog X.w) X.A (eval (.Name x pos) X.env) Q E s:=Calls.Name_function_global I.ok.kind R (Calls.loadGlobal_global (by rw[I.ok.glob];exact I.mod.glob.keeps I.bk) m h) d
theorem kE(I:t9 X pins σ H s)(R:Gl X x)(m:X.mg x=a8)(c:e7 x=a7 u)(h:Q u s)(f:x≠"__name__":=by decide) (d:(x==("__debug__":b9))=b7:=by decide):f9 (g7 X.prog X.w) X.A (eval (.Name x pos) X.env) Q E s:=by obtain⟨mb,h1,h2⟩:=I.mod.blt;exact Calls.Name_function_global I.ok.kind R (Calls.loadGlobal_builtin (by rw[I.ok.glob];exact I.mod.glob.keeps I.bk) m (by rw[I.ok.blt];exact h1.keeps I.bk) ((h2 x f).trans c) h) d
theorem Gv(R:Gl X x)(m:X.mg x=a8)(c:e7 x=a7 u)(r:aL v u)(f:x≠"__name__":=by decide)(d:(x==("__debug__":b9))=b7:=by decide):PE X (.Name x pos) (tC v):=λ_ _ _ H _ I h=>kE I R m c ⟨v,H,I,r,h⟩ f d
variable{a b:ge}{ta tb:TE}{pos:Pos}
theorem aL.none_iff(r:aL x v):(v==ABN)=decide (x=.non):=by
 cases x with
 |non=>cases r;rfl
 |bl _=>cases r;rfl
 |int _=>obtain⟨t,rfl⟩:=r;rfl
 |str _=>obtain⟨t,rfl⟩:=r;rfl
 |byt _=>obtain⟨t,rfl⟩:=r;rfl
 |flt _=>obtain⟨t,rfl⟩:=r;rfl
 |ref _=>cases r;rfl
 |ty _=>cases r;rfl
def tB(t:TE):TT:=λσ H Q=>t σ H λx a=>∃c,x=.bl c/\Q c a
theorem Jo(h:PE X e t)(i:∀whole,isTrue e X.env whole=(do let v <-whole;standAt e.pos;i4 [v] (truthy v)):=by intro _;rfl):PT X e (tB t):=by intro p s σ H Q I w;refine isTrue_plain (w9 (h p s σ H _ I w) ?_)<|i _;rintro v f ⟨x,a,b,r,c⟩;obtain⟨d,rfl,q⟩:=c;cases r;exact O4 ⟨a,b,q⟩
variable{tA tB':TT}{aM:List ge}
def tAnd(t u:TT):TT:=λσ H Q=>t σ H λc a=>if c=a9 then u σ a Q else Q b7 a
def tOr(t u:TT):TT:=λσ H Q=>t σ H λc a=>if c=a9 then Q a9 a else u σ a Q
def tNot(t:TT):TT:=λσ H Q=>t σ H λc a=>Q (!c) a
theorem Ge(f:PT X a tA):PW X (.BoolOp .And [a] pos) tA:=by
 intro w p s σ H Q I h;refine isTrue_and<|w9 (f p s σ H Q I h) λc b e=>?_;cases c with
 |true=>exact isTrue_and_nil e
 |false=>exact e
theorem Jl(f:PT X a tA):PW X (.BoolOp .Or [a] pos) tA:=by
 intro w p s σ H Q I h;refine isTrue_or<|w9 (f p s σ H Q I h) λc b e=>?_;cases c with
 |false=>exact isTrue_or_nil e
 |true=>exact e
theorem Jn(f:PT X a tA)(g:PW X (.BoolOp .And (b::aM) pos) tB'):PW X (.BoolOp .And (a::b::aM) pos) (tAnd tA tB'):=by
 intro w p s σ H Q I h;refine isTrue_and<|w9 (f p s σ H _ I h) ?_;rintro c i ⟨d,e,q⟩;cases c with
 |true=>exact g w p i σ d Q e q
 |false=>exact⟨d,e,q⟩
theorem pw_or(f:PT X a tA)(g:PW X (.BoolOp .Or (b::aM) pos) tB'):PW X (.BoolOp .Or (a::b::aM) pos) (tOr tA tB'):=by
 intro w p s σ H Q I h;refine isTrue_or<|w9 (f p s σ H _ I h) ?_;rintro c i ⟨d,e,q⟩;cases c with
 |true=>exact⟨d,e,q⟩
 |false=>exact g w p i σ d Q e q
theorem Jp(f:PT X a tA):PT X (.UnaryOp .Not a pos) (tNot tA):=by intro p s σ H Q I h;refine isTrue_not<|w9 (f p s σ H (λc b=>Q (!c) b) I h) ?_;rintro c e ⟨b,d,q⟩;exact⟨b,d,q⟩
def tAndV(t b:TE):TE:=λσ H Q=>t σ H λx a=>∃c,x=.bl c/\if c=a9 then b σ a Q else Q (.bl b7) a
def tOrV(t b:TE):TE:=λσ H Q=>t σ H λx a=>∃c,x=.bl c/\if c=a9 then Q (.bl a9) a else b σ a Q
def tNotV(t:TE):TE:=λσ H Q=>t σ H λx a=>∃c,x=.bl c/\Q (.bl<|!c) a
theorem Jy{op}(h:PE X a t):PE X (.BoolOp op [a] pos) t:=λp s σ H Q I w=>BoolOp_one<|h p s σ H Q I w
theorem JF(f:PE X a ta)(g:PE X (.BoolOp .And (b::aM) pos) tb):PE X (.BoolOp .And (a::b::aM) pos) (tAndV ta tb):=by
 intro p s σ H Q I h;refine BoolOp_and<|w9 (f p s σ H _ I h) ?_;rintro v i ⟨x,d,e,r,q⟩;obtain⟨c,rfl,q⟩:=q;cases r;refine O4 ?_;cases c with
 |true=>exact g p i σ d Q e q
 |false=>exact⟨.bl b7,d,e,rfl,q⟩
theorem pe_or(f:PE X a ta)(g:PE X (.BoolOp .Or (b::aM) pos) tb):PE X (.BoolOp .Or (a::b::aM) pos) (tOrV ta tb):=by
 intro p s σ H Q I h;refine BoolOp_or<|w9 (f p s σ H _ I h) ?_;rintro v i ⟨x,d,e,r,q⟩;obtain⟨c,rfl,q⟩:=q;cases r;refine O4 ?_;cases c with
 |false=>exact g p i σ d Q e q
 |true=>exact⟨.bl a9,d,e,rfl,q⟩
theorem Jz(f:PE X a ta):PE X (.UnaryOp .Not a pos) (tNotV ta):=by intro p s σ H Q I h;refine UnaryOp_<|w9 (f p s σ H _ I h) ?_;rintro v e ⟨x,b,d,r,q⟩;obtain⟨c,rfl,q⟩:=q;cases r;exact not_of<|O4 ⟨.bl<|!c,b,d,rfl,q⟩
def tIf(t:TT)(b d:TE):TE:=λσ H Q=>t σ H λc a=>if c=a9 then b σ a Q else d σ a Q
theorem CZ(k:PT X c tA)(i:PE X a ta)(j:PE X b tb):PE X (.IfExp c a b pos) (tIf tA ta tb):=by
 intro p s σ H Q I h;refine wpAny_IfExp<|w9 (k p s σ H _ I h) ?_;rintro d g ⟨e,f,q⟩;cases d with
 |true=>exact i p g σ e Q f q
 |false=>exact j p g σ e Q f q
end
def F7(K:v4)(H:Hp)(a:c9)(xs:List V):Prop:=Rd H a (.lst xs) \/∃(o:d5) (its:Array b8) (n:Nat),K.lookup a=a7 o/\o.cls=.type "list"/\o.dict=a8/\o.data=.seq its n/\its.size<=sizeLine/\aw xs its.toList
def B8(K:v4)(H:Hp)(a:c9)(xs:List V):Prop:=Rd H a (.tup xs) \/∃(o:d5) (its:Array b8) (n:Nat),K.lookup a=a7 o/\o.cls=.type "tuple"/\o.dict=a8/\o.data=.seq its n/\its.size<=sizeLine/\aw xs its.toList
noncomputable def absV:b8->Option V
 |.none=>a7 .non
 |.bool b=>a7<|.bl b
 |.int i _=>a7<|.int i
 |.str x _=>a7<|.str x
 |.bytes b _=>a7<|.byt b
 |.float b _=>a7<|.flt b
 |.ref a=>a7<|.ref a
 |.type n=>a7<|.ty n
 |_=>a8
theorem aL.abs(r:aL x u):absV u=a7 x:=by
 cases x with
 |non=>cases r;rfl
 |bl _=>cases r;rfl
 |int _=>obtain⟨t,rfl⟩:=r;rfl
 |str _=>obtain⟨t,rfl⟩:=r;rfl
 |byt _=>obtain⟨t,rfl⟩:=r;rfl
 |flt _=>obtain⟨t,rfl⟩:=r;rfl
 |ref _=>cases r;rfl
 |ty _=>cases r;rfl
theorem aL.inj(r:aL x u)(q:aL y u):x=y:=C3<|r.abs.symm.trans q.abs
theorem aw.inj(h:aw xs us)(h':aw ys us):xs=ys:=by
 induction h generalizing ys with
 |nil=>cases h';rfl
 |cons r t i=>cases h' with
  |cons r' t'=>rw[r.inj r',i t']
theorem B8.of{K:v4}(h:H a=a7 (.tup xs)):B8 K H a xs:=.inl<|.inl h
theorem t9.list(I:t9 X pins σ H s)(h:F7 X.K H a xs):∃its:List b8,aw xs its/\PlainL s.heap a its.toArray/\xs.length<=sizeLine:=by
 rcases h with h|⟨o,its,n,k,f,d,hs,b,r⟩
 obtain⟨z,its,n,r,e⟩:=h.ok I.hok;exact⟨its,r,⟨_,n,e,rfl,rfl,rfl⟩,z⟩;refine⟨its.toList,r,⟨o,n,I.kIn a o k,f,d,by simpa using hs⟩,?_⟩;have e:=r.length;simp only[E2]at e;lia
theorem t9.tuple(I:t9 X pins σ H s)(h:B8 X.K H a xs):∃its:List b8,aw xs its/\IsTup s.heap a its.toArray/\xs.length<=sizeLine:=by
 rcases h with h|⟨o,its,n,k,f,_,hs,b,r⟩
 obtain⟨z,its,r,p⟩:=h.ok I.hok;exact⟨its,r,p.tup,z⟩;refine⟨its.toList,r,⟨o,I.kIn a o k,f,n,by simpa using hs⟩,?_⟩;have e:=r.length;simp only[E2]at e;lia
theorem t9.list_inj(I:t9 X pins σ H s)(h:F7 X.K H a xs)(h':F7 X.K H a ys):xs=ys:=by
 obtain⟨its,r,⟨o,n,e,_,_,d⟩,_⟩:=I.list h;obtain⟨i,r',⟨o',f,c,_,_,b⟩,_⟩:=I.list h';rw[e]at c;cases c;rw[d]at b;injection b with d1 _;have:its=i:=by simpa using t4 Array.toList d1
 subst this;exact r.inj r'
theorem t9.tuple_inj(I:t9 X pins σ H s)(h:B8 X.K H a xs)(h':B8 X.K H a ys):xs=ys:=by
 obtain⟨its,r,⟨o,e,_,n,d⟩,_⟩:=I.tuple h;obtain⟨i,r',⟨o',c,_,f,b⟩,_⟩:=I.tuple h';rw[e]at c;cases c;rw[d]at b;injection b with d1 _;have:its=i:=by simpa using t4 Array.toList d1
 subst this;exact r.inj r'
noncomputable abbrev Cx.wish(X:Cx)(E:b8->f6->Prop):Cx:={ X with xe:=E }
noncomputable abbrev Cx.nox(X:Cx):Cx:=X.wish λ_ _=>False
theorem Cx.Ok.wish{X:Cx}(ok:X.Ok)(E:b8->f6->Prop):(X.wish E).Ok:=⟨ok.mod,ok.kind,ok.glob,ok.blt,ok.above,ok.inj,ok.has,ok.cab,ok.hd,ok.frames,ok.stk,ok.exf,ok.bs,ok.bsz,ok.noex,ok.exfs,ok.funs,ok.frf⟩
theorem Cx.Ok.unwish{X:Cx}{E:b8->f6->Prop}(ok:(X.wish E).Ok):X.Ok:=⟨ok.mod,ok.kind,ok.glob,ok.blt,ok.above,ok.inj,ok.has,ok.cab,ok.hd,ok.frames,ok.stk,ok.exf,ok.bs,ok.bsz,ok.noex,ok.exfs,ok.funs,ok.frf⟩
theorem t9.wish(I:t9 X pins σ H s)(E:b8->f6->Prop):t9 (X.wish E) pins σ H s:=⟨I.ok.wish E,I.os,I.bare,I.base,I.loc,I.cell,I.free,I.freeC,I.pin,I.hok,I.len⟩
theorem t9.unwish(I:t9 (X.wish E) pins σ H s):t9 X pins σ H s:=⟨I.ok.unwish,I.os,I.bare,I.base,I.loc,I.cell,I.free,I.freeC,I.pin,I.hok,I.len⟩
theorem SP.unwish(h:SP (X.wish E) pins D f s'):SP X pins D f s':=by
 cases f with
 |next=>obtain⟨a,H',I,q⟩:=h;exact⟨a,H',I.unwish,q⟩
 |brk=>obtain⟨a,H',I,q⟩:=h;exact⟨a,H',I.unwish,q⟩
 |cont=>obtain⟨a,H',I,q⟩:=h;exact⟨a,H',I.unwish,q⟩
 |ret u=>obtain⟨v,a,H',I,r,q⟩:=h;exact⟨v,a,H',I.unwish,r,q⟩
theorem K8.nox{st:List i3}{t:TS}(h:K8 X.nox st t):K8 X st t:=λp s σ H D I w =>
 L0 (h p s σ H D (I.wish _) w) (λ_ _ q=>q.unwish) λ_ _ z=>Ny z
def tNext:TS:=λD σ H=>D.nx σ H
def tSeq(t u:TS):TS:=λD σ H=>t { D with nx:=u D } σ H
theorem Gj:K8 X [] tNext:=λ_ _ σ H _ I h=>QG ⟨σ,H,I,h⟩
theorem CS{X:Cx}{st:i3}{aM:List i3}{t u:TS}(h1:PS X st t)(h2:K8 X aM u):K8 X (st::aM) (tSeq t u):=by
 intro p s σ H D I h;refine wpAny_execs_cons<|w9 (h1 p s σ H { D with nx:=u D } I h) λf c q=>?_;cases f with
 |next=>obtain⟨a,H',b,q⟩:=q;exact h2 p c a H' D b q
 |ret v=>exact q
 |brk=>exact q
 |cont=>exact q
theorem Gi{X:Cx}{st:i3}{t:TS}(h1:PS X st t):K8 X [st] t:=by
 intro p s σ H D I h;refine wpAny_execs_cons<|w9 (h1 p s σ H D I h) λf a q=>?_;cases f with
 |next=>exact QG q
 |ret v=>exact q
 |brk=>exact q
 |cont=>exact q
theorem t9.quiet(I:t9 X pins σ H s):interactive X.env=b7:=by simp[interactive,I.ok.kind]
def tDrop(te:TE):TS:=λD σ H=>te σ H λ_ a=>D.nx σ a
theorem Gk(i:PE X e te)(hs:i5 e a8 pos.line X.env=pure b7:=by rfl):PS X (.Expr e pos) (tDrop te):=by intro p s σ H D I h;exact wpAny_Expr_any (w9 (i p s σ H _ I h) λv f ⟨x,a,b,r,c⟩=>⟨σ,a,b,c⟩) I.quiet hs
def tRet(te:TE):TS:=λD σ H=>te σ H D.rt
theorem Jr(i:PE X e te):PS X (.Return (a7 e) pos) (tRet te):=by intro p s σ H D I h;refine wpAny_Return_some<|w9 (i p s σ H _ I h) ?_;rintro v f ⟨x,a,b,r,c⟩;exact⟨x,σ,a,b,r,c⟩
def tIfS(c:TT)(t u:TS):TS:=λD σ H=>c σ H λb a=>if b=a9 then t D σ a else u D σ a
theorem ps_if(k:PT X c tc)(i:K8 X a t)(j:K8 X b u):PS X (.If c a b pos) (tIfS tc t u):=by
 intro p s σ H D I h;refine wpAny_If<|w9 (k p s σ H _ I h) ?_;rintro d g ⟨e,f,q⟩;cases d with
 |true=>exact i p g σ e D f q
 |false=>exact j p g σ e D f q
abbrev TG:=V->St->Hp->(St->Hp->Prop)->Prop
abbrev Pp:=List V->St->Hp->(St->Hp->Prop)->Prop
def PG(X:Cx)(a:ge)(t:TG):Prop:=∀(p:List (c9×d5)) (s:f6) (σ:St) (H:Hp) (v:V) (u:b8) (Q:St->Hp->Prop),t9 X p σ H s->aL v u->t v σ H Q ->f9 (g7 X.prog X.w) X.A (i6 a X.env u) (λ_ s'=>∃b H',t9 X p b H' s'/\Q b H') X.xe s
def Pt(X:Cx)(b:List ge)(t:Pp):Prop:=∀(p:List (c9×d5)) (s:f6) (σ:St) (H:Hp) (vs:List V) (us:List b8) (Q:St->Hp->Prop),t9 X p σ H s->aw vs us->t vs σ H Q ->f9 (g7 X.prog X.w) X.A (assignInOrder ((i7 b X.env).map (·.2)) us) (λ_ s'=>∃a H',t9 X p a H' s'/\Q a H') X.xe s
abbrev TSet:=V->V->V->Hp->(Hp->Prop)->Prop
def PSet(X:Cx)(t:TSet):Prop:=∀(p:List (c9×d5)) (s:f6) (σ:St) (H:Hp) (o i v:V) (b a u:b8) (Q:Hp->Prop),t9 X p σ H s->aL o b->aL i a->aL v u->t o i v H Q ->f9 (g7 X.prog X.w) X.A (setItem b a u) (λ_ s'=>∃H',t9 X p σ H' s'/\Q H') X.xe s
def Le(i:Nat):TG:=λv σ H Q=>Q (σ.set i<|a7 v) H
theorem Gq(b:X.N.Nodup)(hi:X.N[i]?=a7 x)(c:N1 X.env.scope x)(f:X.fn x=a9\/X.env.scope.names.lookup x=a7 .local:=by first|exact .inl rfl|exact .inr rfl|assumption):PG X (.Name x pos) (Le i):=by intro p s σ H v u Q I r h;exact wpAny_assign_Name<|wF I b hi c r (λs' a=>⟨_,H,a,h⟩) f
def gNil:Pp:=λvs σ H Q=>vs=[]/\Q σ H
def gCons(t:TG)(u:Pp):Pp:=λvs σ H Q=>∃v r,vs=v::r/\t v σ H λa H'=>u r a H' Q
theorem Gp:Pt X [] gNil:=by intro p s σ H vs us Q I r h;obtain⟨e,h⟩:=h;subst e;cases r;exact assignInOrder_nil ⟨σ,H,I,h⟩
theorem CW(h1:PG X e t)(h2:Pt X es u)(hs:(i7 (e::es) X.env).map (·.2)=i6 e X.env::(i7 es X.env).map (·.2):=by rfl):Pt X (e::es) (gCons t u):=by
 intro p s σ H vs us Q I r h;obtain⟨v,i,d,h⟩:=h;subst d;cases r with
 |cons r f=>rw[hs];refine assignInOrder_cons<|w9 (h1 p s σ H _ _ _ I r h) ?_;rintro _ g ⟨a,b,c,q⟩;exact h2 p g a b _ _ Q c f q
def gTup(K:v4)(n:Nat)(t:Pp):TG:=λv σ H Q=>∃a xs,v=.ref a/\B8 K H a xs/\xs.length=n/\t xs σ H Q
theorem Ju(i:X.calm=a9)(h:Pt X es t)(j:(i7 es X.env).length=n:=by rfl) (c:(i7 es X.env).findIdx? (·.1)=a8:=by rfl):PG X (.Tuple es k pos) (gTup X.K n t):=by intro p s σ H v u Q I r w;obtain⟨a,xs,g,q,l,w⟩:=w;subst g;cases r;obtain⟨its,d,D,z⟩:=I.tuple q;refine assign_Tuple_tuple (I.ok.hd i) D (by simp[j,<-l,d.length]) c λh' x=>?_;have f:t9 X p σ H { s with heap:=h' }:=I.kept (t':=s.toks) λb o e=>x b o (A4<|z6 e) e;exact h p _ σ H xs _ Q f (by simpa using d) w
def gSub(e d:TE)(t:TSet):TG:=λv σ H Q=>e σ H λo a=>d σ a λi b=>t o i v b λc=>Q σ c
theorem Jv(B:PE X o to)(hi:PE X i ti)(hs:PSet X t)(g:∀v,i6 (.Subscript o i pos) X.env v=(do
   let ov <-i4 [v] (eval o X.env)
   let iv <-i4 [v,ov] (eval i X.env)
   standAt pos
   i4 [v,ov,iv] (setItem ov iv v)
   release [v,ov,iv] []):=by intro _;rfl):PG X (.Subscript o i pos) (gSub to ti t):=by intro p s σ H v u Q I r h;rw[g];refine t6<|E3<|w9 (B p s σ H _ I h) ?_;rintro ov n ⟨x,a,d,l,q⟩;refine t6<|E3<|w9 (hi p n σ a _ d q) ?_;rintro iv w ⟨y,b,e,m,j⟩;refine t6<|wpAny_standAt<|t6<|E3<|w9 (hs p w σ b x y v ov iv u _ e l m r j) ?_;rintro _ z ⟨c,f,k⟩;exact wpAny_release ⟨σ,c,f,k⟩
def tAsg(te:TE)(g:TG):TS:=λD σ H=>te σ H λx a=>g x σ a D.nx
theorem Jt(i:PE X e te)(R:PG X tg g)(hs:swapsWithSole [tg] e pos.line X.env=pure b7:=by rfl)(w:swappedStores [tg] e X.env=pure a8:=by rfl)(h1:(i7 [tg] X.env).map (·.2)=[i6 tg X.env]:=by rfl):PS X (.Assign [tg] e pos) (tAsg te g):=by intro p s σ H D I h;refine wpAny_Assign_stores (w9 (i p s σ H _ I h) ?_) hs w;rintro v f ⟨x,a,b,r,c⟩;rw[h1];exact w9 (R p f σ a x v _ b r c) λ_ d q=>q
theorem Jq(d:X.N.Nodup)(hi:X.N[i]?=a7 x)(j:N1 X.env.scope x)(f:PE X e te)(hs:i5 e (a7<|.Name x pos') pos.line X.env=pure b7:=by rfl)(g:X.fn x=a9\/X.env.scope.names.lookup x=a7 .local:=by first|exact .inl rfl|exact .inr rfl|assumption):PS X (.Assign [.Name x pos'] e pos) (tAsg te<|Le i):=by intro p s σ H D I h;refine wpAny_Assign_Name (w9 (f p s σ H _ I h) ?_) hs;rintro v k ⟨y,a,b,r,q⟩;exact wF b d hi j r (λw c=>⟨_,a,c,q⟩) g
def Fh(c:TT)(t:TS):TS:=λD σ H=>∃W:Nat->St->Hp->Prop,(∃m,W m σ H)/\∀m σ H,W m σ H ->c σ H λb d=>if b=a9 then ∃N:St->Hp->Prop,(∀a H',N a H'->∃g,g < m/\W g a H')/\t { D with nx:=N,ct:=N,bk:=D.nx } σ d else D.nx σ d
theorem CT(hp:PassesOwn (g7 X.prog X.w) X.A X.env X.xe)(C:PT X c tc)(B:K8 X body tb):PS X (.While c body [] pos) (Fh tc tb):=by
 intro p s σ H D I h;obtain⟨W,⟨E,J⟩,t⟩:=h;refine wpAny_While<|codeAny_whileLoop (λn s'=>∃g H',t9 X p g H' s'/\W n g H') ?_ E ⟨σ,H,I,J⟩;rintro n F ⟨d,r,z,K⟩;refine Oy hp<|w9 (C p F d r _ z<|t n d r K) ?_;rintro b G ⟨u,x,j⟩;cases b with
 |true =>
  obtain⟨N,y,j⟩:=j;rw[o8 rfl];refine Oy hp<|w9 (B p G d u _ x j) λf L k=>?_;cases f with
  |next=>obtain⟨a,e,i,o⟩:=k;obtain⟨l,m,q⟩:=y a e o;exact⟨l,m,a,e,i,q⟩
  |cont=>obtain⟨a,e,i,o⟩:=k;obtain⟨l,m,q⟩:=y a e o;exact⟨l,m,a,e,i,q⟩
  |brk=>exact k
  |ret v=>exact k
 |false=>rw[p4 MA];exact QG ⟨d,u,x,j⟩
structure It where
 go:Nat->Hp->Prop
 yld:Nat->Hp->V->Hp->Prop
 stop:Nat->Hp->Prop
def xv(X:Cx)(pins:List (c9×d5))(H:Hp)(b:c9):Prop:=H b=a8/\b≠X.env.locals/\b∉X.fs/\(b∈X.ex\/X.s₀.heap.objs.size<=b)/\(∀x c,X.env.cells.lookup x=a7 c->c≠b)/\∀p∈X.pn++pins,p.1≠b
theorem t9.fpOk(I:t9 X pins σ H s)(d:s.heap.objs.size<=b)(f:H' b=a8):xv X pins H' b:=by refine⟨f,Na<|K0 I.lt d,I.nofs d,.inr<|F4 I.sz d,λx c e z=>?_,λp hp z=>?_⟩;obtain⟨v,q⟩:=I.cell x c e;exact p7 (K0 q.lt<|by rw[z];exact d)<|G0 _;exact p7 (K0 (z6 (I.pin p hp).1)<|by rw[z];exact d)<|G0 _
structure Turn(P:c8)(w:c7)(K:v4)(tg:ge)(J:It)(fp:List c9)(it:c9)(tn:Nat->d6->Prop):Prop where
 mem:it∈fp
 obj:∀i h,tn i h->∀b∈fp,∃o,h.get? b=a7 o/\∀v,o.data≠.cell v
 keep:∀i h h',tn i h->(∀b∈fp,∀o,h.get? b=a7 o->h'.get? b=a7 o)->tn i h'
 item:∀(X:Cx),X.prog=P->X.w=w->X.K=K->X.calm=a9->∀(i:Nat) (pins:List (c9×d5)) (s:f6) (σ:St) (H:Hp) (E:b8->f6->Prop),t9 X pins σ H s->(∀b∈fp,xv X pins H b)->tn i s.heap->J.go i H ->f9 (g7 P w) X.A (i8<|.ref it) (λr s1=>∃u,r=a7 u /\ f9 (g7 P w) X.A (i9 tg (.ref it) u) (λ_ s2=>∃x H',t9 X pins σ H' s2/\aL x u/\J.yld i H x H'/\tn (i+1) s2.heap/\∀b∈fp,H' b=a8) E s1) E s
 done:∀(X:Cx),X.prog=P->X.w=w->X.K=K->X.calm=a9->∀(i:Nat) (pins:List (c9×d5)) (s:f6) (σ:St) (H:Hp) (E:b8->f6->Prop),t9 X pins σ H s->(∀b∈fp,xv X pins H b)->tn i s.heap->J.stop i H ->f9 (g7 P w) X.A (i8<|.ref it) (λr s1=>r=a8/\t9 X pins σ H s1) E s
 self:∀(A:e8) (i:Nat) (s:f6) (Q:b8->f6->Prop) (E:b8->f6->Prop),tn i s.heap->Q (.ref it) s->f9 (g7 P w) A (j0<|.ref it) Q E s
abbrev TI:=St->Hp->(It->Hp->Prop)->Prop
inductive Ps(X:Cx)(pins:List (c9×d5))(σ:St)(tg:ge)(R:It->Hp->Prop)(itv:b8)(s2:f6):Prop
 |mk (it:c9) (fp:List c9) (tn:Nat->d6->Prop) (J:It) (H':Hp) (f0:itv=.ref it) (f1:t9 X pins σ H' s2) (f2:Turn X.prog X.w X.K tg J fp it tn) (f3:tn 0 s2.heap) (f4:(∀b∈fp,xv X pins H' b)) (f5:R J H')
def PI(X:Cx)(g r:ge)(wi:TI):Prop:=∀(p:List (c9×d5)) (s:f6) (σ:St) (H:Hp) (R:It->Hp->Prop),t9 X p σ H s->wi σ H R ->f9 (g7 X.prog X.w) X.A (eval r X.env) (λv f=>f9 (g7 X.prog X.w) X.A (j0 v) (Ps X p σ g R) X.xe f) X.xe s
theorem vI(B:s.heap.get? it=a7 o)(f:o.cls=.type n)(d:o.data=.fields vs)(a:["enumerate","zip","dict_itemiterator","dict_reverseitemiterator","odict_iterator","itertools.zip_longest","itertools.pairwise"].contains n=b7) (b:Q () s):f9 M A (i9 tg (.ref it) u) Q E s:=by
 unfold i9;cases tg<;>first
  |exact t8 b
  |(cases u<;>first
    |exact t8 b
    |(refine t6 (wpAny_load B ?_);rw[f,d];show f9 M A (if (["enumerate","zip","dict_itemiterator","dict_reverseitemiterator","odict_iterator","itertools.zip_longest","itertools.pairwise"].contains n&&vs[0]?==a7 (j1 _))=a9 then _ else _) Q E s;rw[p4 (by intro h;rw[a,PN]at h;cases h)];exact t8 b))
noncomputable def R7(K:v4)(a:c9):It:=⟨λi H=>∃xs x,F7 K H a xs/\xs[i]?=a7 x,λi H x H'=>H'=H/\∀xs,F7 K H a xs->xs[i]?=a7 x,λi H=>∃xs,F7 K H a xs/\xs.length<=i⟩
noncomputable def R6(K:v4)(a:c9):It:=⟨λi H=>∃xs x,B8 K H a xs/\xs[i]?=a7 x,λi H x H'=>H'=H/\∀xs,B8 K H a xs->xs[i]?=a7 x,λi H=>∃xs,B8 K H a xs/\xs.length<=i⟩
noncomputable def Qv(lo:Int)(n:Nat):It:=⟨λi _=>i<n,λi H x H'=>H'=H/\x=.int (lo+i),λi _=>n<=i⟩
theorem yQ{P:c8}{w:c7}{K:v4}{V:ge}(a it:c9):Turn P w K V (R7 K a) [it] it (λi h=>h.IsListIter it a i) where
 mem:=by simp
 obj:=λi h t b g=>by
  have e:b=it:=by simpa using g
  subst e;obtain⟨o,e,c,d⟩:=t;exact⟨o,e,λv z=>by rw[d]at z;cases z⟩
 keep:=λi h h' t k=>t.at λo e=>k it (by simp) o e
 item:=by intro X C D B J i f s σ H E I l t R;subst C D B;obtain⟨xs,x,q,F⟩:=R;obtain⟨its,G,p,S⟩:=I.list q;obtain⟨u,O,T⟩:=G.get F;obtain⟨m,n,N,r,y,A⟩:=l it (by simp);refine wpAny_pyNext_list_item t p.isList (x:=u) (by simpa using O) λh' j U=>?_;have L:t9 X f σ H { s with heap:=h' }:=I.turned (t':=s.toks) (λb o g e=>(U.2 b g).trans e) m n r y A;obtain⟨o,e,c,d⟩:=id j;exact⟨u,rfl,vI (s:={ s with heap:=h' }) e c d (by decide) ⟨x,H,L,T,⟨rfl,λys Q=>by rw[I.list_inj Q q];exact F⟩,j,λb g=>(l b g).1⟩⟩
 done:=by intro X C D B J i f s σ H E I l t R;subst C D B;obtain⟨xs,q,F⟩:=R;obtain⟨its,G,p,S⟩:=I.list q;obtain⟨m,n,N,r,y,A⟩:=l it (by simp);have W:=G.length;exact wpAny_pyNext_list_end (I.ok.hd J) t p.isList (by simp;lia) λh' M=>⟨rfl,I.turned (t':=s.toks) (λb o g e=>M b o g e) m n r y A⟩
 self:=λ_ _ _ _ _ t h=>wpAny_pyIter_listiter t h
theorem xJ{P:c8}{w:c7}{K:v4}{V:ge}(a it:c9):Turn P w K V (R6 K a) [it] it (λi h=>h.IsTupleIter it a i) where
 mem:=by simp
 obj:=λi h t b g=>by
  have e:b=it:=by simpa using g
  subst e;obtain⟨o,e,c,d⟩:=t;exact⟨o,e,λv z=>by rw[d]at z;cases z⟩
 keep:=λi h h' t k=>t.at λo e=>k it (by simp) o e
 item:=by intro X C D B J i f s σ H E I l t R;subst C D B;obtain⟨xs,x,q,F⟩:=R;obtain⟨its,G,p,S⟩:=I.tuple q;obtain⟨u,O,T⟩:=G.get F;obtain⟨m,n,N,r,y,A⟩:=l it (by simp);refine wpAny_pyNext_tuple_item t (show s.heap.IsTuple a its.toArray from p) (x:=u) (by simpa using O) λh' j U=>?_;have L:t9 X f σ H { s with heap:=h' }:=I.turned (t':=s.toks) (λb o g e=>(U.2 b g).trans e) m n r y A;obtain⟨o,e,c,d⟩:=id j;exact⟨u,rfl,vI (s:={ s with heap:=h' }) e c d (by decide) ⟨x,H,L,T,⟨rfl,λys Q=>by rw[I.tuple_inj Q q];exact F⟩,j,λb g=>(l b g).1⟩⟩
 done:=by intro X C D B J i f s σ H E I l t R;subst C D B;obtain⟨xs,q,F⟩:=R;obtain⟨its,G,p,S⟩:=I.tuple q;obtain⟨m,n,N,r,y,A⟩:=l it (by simp);have W:=G.length;exact wpAny_pyNext_tuple_end (I.ok.hd J) t (show s.heap.IsTuple a its.toArray from p) (by simp;lia) λh' M=>⟨rfl,I.turned (t':=s.toks) (λb o g e=>M b o g e) m n r y A⟩
 self:=λ_ _ _ _ _ t h=>wpAny_pyIter_tupleiter t h
theorem xK{P:c8}{w:c7}{K:v4}{F:ge}(it:c9)(lo:Int)(n:Nat):Turn P w K F (Qv lo n) [it] it (λi h=>IsRangeIter h it (lo+(i:Nat)*1) ((n:Int)-(i:Nat)) 1) where
 mem:=by simp
 obj:=λi h a b d=>by
  have e:b=it:=by simpa using d
  subst e;exact⟨_,a,λv z=>by have G:Data.fields _=Data.cell v:=z;cases G⟩
 keep:=λi h h' a k=>k it (by simp) _ a
 item:=by intro X C l B g i p s σ H E I f a R;subst C l B;obtain⟨m,c,N,r,y,A⟩:=f it (by simp);have W:=Walks.range (prog:=X.prog) (w:=X.w) (I.ok.hd g) it lo 1 n;refine W.item i s _ _ R a λv h' q x j D=>?_;obtain⟨t,rfl⟩:=x;have u:t9 X p σ H { s with heap:=h',toks:=q }:=I.turned (λb o d e=>D b o (by simpa using d) e) m c r y A;refine⟨_,rfl,vI (s:={ s with heap:=h',toks:=q }) (n:="range_iterator") j rfl rfl (by decide) ⟨.int<|lo+i,H,u,⟨t,?_⟩,⟨rfl,rfl⟩,j,λb d=>(f b d).1⟩⟩;rw[Int.mul_one]
 done:=by intro X C l B g i p s σ H E I f a R;subst C l B;obtain⟨m,c,N,r,y,A⟩:=f it (by simp);exact wpAny_pyNext_range_end (I.ok.hd g) a (by have:n<=i:=R;lia) λh' M=>⟨rfl,I.turned (t':=s.toks) (λb o d e=>M b o d e) m c r y A⟩
 self:=λ_ _ _ _ _ a h=>wpAny_pyIter_rangeiter a h
theorem CN{pins:List (c9×d5)}{σ:St}{H:Hp}{s:f6}{R:It->Hp->Prop}{E:b8->f6->Prop}{lo hi:Int}{t u v:Tok}{tk:Nat}(I:t9 X pins σ H s)(h1:-(2 ^ 62)<=lo)(h2:lo<2 ^ 62)(h:-(2 ^ 62)<=hi)(d:hi<2 ^ 62)(q:R (Qv lo (hi-lo).toNat) H):f9 (g7 X.prog X.w) X.A (j0<|.ref s.heap.objs.size) (Ps X pins σ tg R) E { s with heap:=s.heap.push { cls:=.type "range",data:=.fields #[.int lo t,.int hi u,.int 1 v] },toks:=tk }:=by
 refine wpAny_pyIter_range (IsRange.new ..) (small_one h1 h2 h d) ?_;have a:t9 X pins σ H { s with heap:=s.heap.push { cls:=.type "range",data:=.fields #[.int lo t,.int hi u,.int 1 v] },toks:=tk }:=I.kept λb o e=>x5 _ e;refine⟨(s.heap.push { cls:=.type "range",data:=.fields #[.int lo t,.int hi u,.int 1 v] }).objs.size,[(s.heap.push { cls:=.type "range",data:=.fields #[.int lo t,.int hi u,.int 1 v] }).objs.size],_,_,H,rfl,a.kept (t':=tk) λb o e=>x5 _ e,xK _ lo (hi-lo).toNat,?_,λb f=>?_,q⟩;have c:lo+((0:Nat):Int)*1=lo:=by simp
 have l:(((hi-lo).toNat:Nat):Int)-((0:Nat):Int)=Builtin.Range.rangeSize lo hi 1:=by rw[rangeSize_one];split<;>lia
 show IsRangeIter _ _ (lo+((0:Nat):Int)*1) ((((hi-lo).toNat:Nat):Int)-((0:Nat):Int)) 1;rw[c,l];exact A8 _ rfl;have e:b=(s.heap.push { cls:=.type "range",data:=.fields #[.int lo t,.int hi u,.int 1 v] }).objs.size:=by simpa using f
 subst e;exact a.fpOk (v6 _)<|a.hok.fresh<|v6 _
def iRng1(t:TA):TI:=λσ H R=>t σ H λvs a=>∃j:Int,vs=[.int j]/\-(2 ^ 62)<=j/\j<2 ^ 62/\R (Qv 0 j.toNat) a
theorem zS{a:ge}{f:TA}{p c:Pos}(k:Gl X "range")(m:X.mg "range" = a8)(i:PA X [a] f)(hs:h7 [a] X.env=[(b7,eval a X.env)]:=by rfl):PI X tg (.Call (.Name "range" p) [a] [] c) (iRng1 f):=by
 intro b s σ H R I h;refine Call_<|kE I k m boot_range<|Re (w9 (i c b s σ H _ I h) ?_) hs rfl;rintro us v ⟨vs,u,g,n,d⟩;obtain⟨j,e,d,l,q⟩:=d;subst e;cases n with
 |cons r o=>cases o;obtain⟨t,rfl⟩:=r;exact call_range_1<|CN g (by lia) (by lia) d l<|by simpa using q
def tFor(wi:TI)(g:TG)(t:TS):TS:=λD σ H=>wi σ H λJ d=>∃W:Nat->Nat->St->Hp->Prop,(∃m,W 0 m σ d)/\∀i m σ H,W i m σ H ->(J.stop i H/\D.nx σ H)\/(J.go i H/\∃N:St->Hp->Prop,(∀a H',N a H'->∃c,c < m/\W (i+1) c a H')/\∀x H',J.yld i H x H'->g x σ H' λb e=>t { D with nx:=N,ct:=N,bk:=D.nx } b e)
noncomputable def jt(fp:List c9)(h:d6):List (c9×d5):=fp.filterMap λb=>(h.get? b).map λo=>(b,o)
theorem gQ(d:b∈fp)(e:h.get? b=a7 o):(b,o)∈jt fp h:=List.mem_filterMap.mpr ⟨b,d,by rw[e];rfl⟩
theorem tE(hp:p∈jt fp h):p.1∈fp/\h.get? p.1=a7 p.2:=by
 obtain⟨b,d,e⟩:=Qa.mp hp;cases q:h.get? b with
 |none=>rw[q]at e;cases e
 |some o=>rw[q]at e;have a:(b,o)=p:=C3 e;subst a;exact⟨d,q⟩
theorem t9.pinned(I:t9 X pins σ H s)(f:∀b∈fp,xv X pins H b)(B:∀b∈fp,∃o,s.heap.get? b=a7 o/\∀v,o.data≠.cell v):t9 X (pins++jt fp s.heap) σ H s:=I.pins_of λp hp=>(F0.mp hp).elim (λz=>I.pin p<|Ix _ z) λz=>by obtain⟨h,e⟩:=tE z;obtain⟨m,n,N,_⟩:=f p.1 h;obtain⟨o,a,d⟩:=B p.1 h;rw[e]at a;cases a;exact⟨e,m,n,N,d⟩
theorem t9.unpinned(I:t9 X (pins++pl) σ H s):t9 X pins σ H s:=I.pins_of λp hp=>I.pin p<|Ix _<|MW _ hp
theorem Js(hp:PassesOwn (g7 X.prog X.w) X.A X.env X.xe)(hc:X.calm=a9)(hi:PI X tg iter wi)(hg:PG X tg g)(l:K8 X body tb)(hs:∀x,j2 iter X.env x=pure x:=by intro _;rfl):PS X (.For tg iter body [] pos) (tFor wi g tb):=by
 intro p s σ H D I h;refine wpAny_For (w9 (hi p s σ H _ I h) λv s1 h1=>w9 h1 λai s2 h2=>?_) hs;obtain⟨it,C,tn,J,H2,e,I2,T,S,Z,W,⟨m0,w0⟩,L⟩:=h2;subst e
 -- what stays a9 of the iterator's objects through the loop
 have t:∀{H':Hp},(∀b∈C,H' b=a8)->∀b∈C,xv X p H' b:=λhn b l=>⟨hn b l,(Z b l).2⟩
 refine codeAny_forLoop_any (λn s'=>∃i q H',t9 X p q H' s'/\tn i s'.heap/\(∀b∈C,H' b=a8)/\W i n q H') ?_ m0 ⟨0,σ,H2,I2,S,λb l=>(Z b l).1,w0⟩;rintro n s3 ⟨i,y,M,Y,G,E,w3⟩;rcases L i n y M w3 with⟨stop,qn⟩|⟨go,N,hN,K⟩
 refine Oy hp<|w9 (T.done X rfl rfl rfl hc i p s3 y M X.xe Y (t E) G stop) ?_;rintro r s4 ⟨Q,I4⟩;subst Q;exact QG ⟨y,M,I4,qn⟩
 ·refine Oy hp (w9 (T.item X rfl rfl rfl hc i p s3 y M X.xe Y (t E) G go) ?_)
  rintro r s4 ⟨u,Q,h4⟩;subst Q;refine Oy hp<|w9 h4 ?_;rintro _ s5 ⟨x,V,I5,r5,y5,B,P⟩;have O:=I5.pinned (t P)<|T.obj _ _ B;refine Oy hp<|w9 (hg _ s5 y V x u _ O r5<|K x V y5) ?_;rintro _ s6 ⟨U,H6,I6,q6⟩;refine Oy hp<|w9 (l _ s6 U H6 _ I6 q6) λf R z=>?_;have k:∀{a:St}{c:Hp},t9 X (p++jt C s5.heap) a c R->N a c->∃m,m<n/\∃i q H',t9 X p q H' R/\tn i R.heap/\(∀b∈C,H' b=a8)/\W i m q H':=λ{a c} j F=>by obtain⟨m',hm,w7⟩:=hN a c F;refine⟨m',hm,i+1,a,c,j.unpinned,T.keep _ _ _ B λb l o e=>(j.pin (b,o)<|Ix _<|Ix _<|gQ l e).1,λb l=>?_,w7⟩;obtain⟨o,e,d⟩:=T.obj _ _ B b l;exact(j.pin (b,o)<|Ix _<|Ix _<|gQ l e).2.1
  cases f with
  |next=>obtain⟨a,c,j,F⟩:=z;exact k j F
  |cont=>obtain⟨a,c,j,F⟩:=z;exact k j F
  |brk=>obtain⟨a,c,j,z⟩:=z;exact⟨a,c,j.unpinned,z⟩
  |ret v=>obtain⟨x7,a,c,j,r7,z⟩:=z;exact⟨x7,a,c,j.unpinned,r7,z⟩
abbrev R2:=V->V->Hp->VK->Prop
def D7(X:Cx)(f:b8->b8->Sem b8)(r:R2):Prop:=∀(p:List (c9×d5)) (s:f6) (σ:St) (H:Hp) (x y:V) (v u:b8) (Q:VK),t9 X p σ H s->aL x v->aL y u->r x y H Q ->f9 (g7 X.prog X.w) X.A (f v u) (EP X p σ Q) X.xe s
def UnR(X:Cx)(f:b8->Sem b8)(r:V->Hp->VK->Prop):Prop:=∀(p:List (c9×d5)) (s:f6) (σ:St) (H:Hp) (x:V) (v:b8) (Q:VK),t9 X p σ H s->aL x v->r x H Q ->f9 (g7 X.prog X.w) X.A (f v) (EP X p σ Q) X.xe s
def fF(X:Cx)(f:b8)(r:List V->Hp->VK->Prop):Prop:=∀(p:List (c9×d5)) (s:f6) (σ:St) (H:Hp) (xs:List V) (us:List b8) (Q:VK),t9 X p σ H s->aw xs us->r xs H Q ->f9 (g7 X.prog X.w) X.A (call f us) (EP X p σ Q) X.xe s
def Pg(r:R2)(t c:TE):TE:=λσ H Q=>t σ H λx a=>c σ a λy b=>r x y b Q
def rI(C:Int->Int->Prop)(g:Int->Int->V):R2:=λx y H Q=>∃i j,x=.int i/\y=.int j/\C i j/\Q (g i j) H
def OJ(g:Int->Int->V):R2:=λx y H Q=>∃i j,x=.int i/\y=.int j/\Q (g i j) H
theorem binT(d:PE X a ta)(g:PE X b tb){pins:List (c9×d5)}{s:f6}{σ:St}{H:Hp}{R:V->V->Hp->Prop}(I:t9 X pins σ H s)(h:ta σ H λx H1=>tb σ H1 λy H2=>R x y H2) {Q:b8->f6->Prop}{f:b8->b8->Sem b8}(i:∀v u s2 x y H2,t9 X pins σ H2 s2->aL x v->aL y u->R x y H2->f9 (g7 X.prog X.w) X.A (f v u) Q X.xe s2):f9 (g7 X.prog X.w) X.A (eval a X.env) (λv s₁=>f9 (g7 X.prog X.w) X.A (eval b X.env) (λu s₂=>f9 (g7 X.prog X.w) X.A (f v u) Q X.xe s₂) X.xe s₁) X.xe s:=by refine w9 (d pins s σ H _ I h) ?_;rintro v k ⟨x,H1,c,r,q⟩;refine w9 (g pins k σ H1 _ c q) ?_;rintro u s2 ⟨y,H2,e,m,j⟩;exact i v u s2 x y H2 e r m j
theorem pe_op{op:Operator}{r:R2}(B:D7 X (j3 op) r)(f:PE X a ta)(d:PE X b tb):PE X (.BinOp a op b pos) (Pg r ta tb):=by intro p s σ H Q I h;exact wpAny_BinOp<|binT f d I h λv u w x y c e g i q=>B p w σ c x y v u Q e g i q
theorem Ph{f:b8->b8->Sem b8}{C:Int->Int->Prop}{g:Int->Int->Int}(e:∀(i j:Int) (t u:Tok) (s:f6) (Q:b8->f6->Prop) (E:b8->f6->Prop),C i j->Q (.int (g i j) s.toks) { s with toks:=s.toks+1 }->f9 (g7 X.prog X.w) X.A (f (.int i t)<|.int j u) Q E s):D7 X f (rI C λi j=>.int<|g i j):=by intro p s σ H x y v u Q I r a h;obtain⟨i,j,rfl,rfl,c,q⟩:=h;obtain⟨t,rfl⟩:=r;obtain⟨t',rfl⟩:=a;exact e i j t t' s _ _ c ⟨.int<|g i j,H,I.tok _,⟨_,rfl⟩,q⟩
theorem opI0{f:b8->b8->Sem b8}{g:Int->Int->Int}(e:∀(i j:Int) (t u:Tok) (s:f6) (Q:b8->f6->Prop) (E:b8->f6->Prop),Q (.int (g i j) s.toks) { s with toks:=s.toks+1 }->f9 (g7 X.prog X.w) X.A (f (.int i t)<|.int j u) Q E s):D7 X f (OJ λi j=>.int<|g i j):=by intro p s σ H x y v u Q I r a h;obtain⟨i,j,rfl,rfl,q⟩:=h;obtain⟨t,rfl⟩:=r;obtain⟨t',rfl⟩:=a;exact e i j t t' s _ _ ⟨.int<|g i j,H,I.tok _,⟨_,rfl⟩,q⟩
theorem opB0{f:b8->b8->Sem b8}{g:Int->Int->Bool}(e:∀(i j:Int) (t u:Tok) (s:f6) (Q:b8->f6->Prop) (E:b8->f6->Prop),Q (.bool<|g i j) s->f9 (g7 X.prog X.w) X.A (f (.int i t)<|.int j u) Q E s):D7 X f (OJ λi j=>.bl<|g i j):=by intro p s σ H x y v u Q I r a h;obtain⟨i,j,rfl,rfl,q⟩:=h;obtain⟨t,rfl⟩:=r;obtain⟨t',rfl⟩:=a;exact e i j t t' s _ _ ⟨.bl<|g i j,H,I,rfl,q⟩
def CPow(i j:Int):Prop:=0<=j/\j<=1000000/\i.natAbs<2 ^ 64
def CMul(i j:Int):Prop:=(-(2 ^ 64)<i/\i<2 ^ 64)\/(-(2 ^ 64)<j/\j<2 ^ 64)
theorem CMul.ok(h:CMul i j):IntMulOk i j:=by
 rcases h with⟨h1,h2⟩|⟨h1,h2⟩
 exact .of_left<|intBits_le_64 h1 h2;exact .of_right<|intBits_le_64 h1 h2
theorem JO:D7 X (j3 .Add) (OJ λi j=>.int<|i+j):=opI0 λ_ _ _ _ _ _ _ q=>add_int q
theorem JI:D7 X (j3 .Sub) (OJ λi j=>.int<|i-j):=opI0 λ_ _ _ _ _ _ _ q=>sub_int q
theorem JL:D7 X (j3 .Mult) (rI CMul λi j=>.int<|i*j):=Ph λ_ _ _ _ _ _ _ f q=>mul_int q f.ok
theorem JM:D7 X (j3 .Mod) (rI (λ_ j=>0<j) λi j=>.int<|i % j):=Ph λi j _ _ _ _ _ f q=>by have h1:(0:Int)<j:=f;exact mod_int' (by lia)<|by rw[Int.fmod_eq_emod_of_nonneg i<|by lia];exact q
theorem JK:D7 X (j3 .Pow) (rI CPow λi j=>.int<|i ^ j.toNat):=Ph λ_ _ _ _ _ _ _ f q=>pow_int_small f.1 f.2.1 f.2.2 q
theorem JJ:D7 X (j3 .LShift) (rI CPow λi j=>.int<|i*2 ^ j.toNat):=Ph λ_ _ _ _ _ _ _ f q=>lshift_int_small f.1 f.2.1 f.2.2 q
theorem op_lt:D7 X (j4 .Lt) (OJ λi j=>.bl<|decide<|i<j):=opB0 λ_ _ _ _ _ _ _ q=>lt_int q
theorem op_gt:D7 X (j4 .Gt) (OJ λi j=>.bl<|decide<|j<i):=opB0 λ_ _ _ _ _ _ _ q=>gt_int q
theorem D7.or(h:D7 X f r)(h':D7 X f r'):D7 X f (λx y H Q=>r x y H Q\/r' x y H Q):=by intro p s σ H x y v u Q I g i q;rcases q with q|q;exact h p s σ H x y v u Q I g i q;exact h' p s σ H x y v u Q I g i q
theorem Gs(B:D7 X (j4 op) r)(f:PE X a ta)(d:PE X b tb)(m:j5 op b=b7):PE X (.Compare a [op] [b] pos) (Pg r ta tb):=by intro p s σ H Q I h;exact wpAny_Compare1 (binT f d I h λv u w x y c e g i q=>B p w σ c x y v u Q e g i q) m
def IU(t:TE):TT:=λσ H Q=>t σ H λx H'=>∃k,x=.bl k/\Q k H'
theorem Gh(B:D7 X (j4 op) r)(m:PE X a ta)(n:PE X b tb)(o:j5 op b=b7):PT X (.Compare a [op] [b] pos) (IU<|Pg r ta tb):=by
 intro p s σ H Q I h;refine wpAny_isTrue_Compare1 (w9 (m p s σ H _ I h) λv E ⟨x,d,i,A,q⟩=>w9 (n p E σ d _ i q) λu F ⟨y,f,j,C,t⟩ =>
  w9 (B p F σ f x y v u _ j A C t) λc G ⟨z,g,l,D,k,e,w⟩=>?_) o
 subst e;cases D;exact O4 ⟨g,l,w⟩
theorem ph:(sizeLine:Nat)<2 ^ 63:=by rw[MH];decide
theorem xW:D7 X (j3 .Add) (λx y H Q=>∃i j,x=.str i/\y=.str j/\i.length+j.length<=sizeLine/\Q (.str<|i++j) H):=by intro p s σ H x y v u Q I g r h;obtain⟨i,j,rfl,rfl,b,q⟩:=h;obtain⟨t,rfl⟩:=g;obtain⟨t',rfl⟩:=r;exact add_str (λt' k=>⟨.str<|i++j,H,I.tok _,⟨_,rfl⟩,q⟩) b
theorem Ct(r:aw [x] us):∃u,us=[u]/\aL x u:=by
 cases r with
 |cons a m=>cases m;exact⟨_,rfl,a⟩
theorem vals2(r:aw [x,y] us):∃u w',us=[u,w']/\aL x u/\aL y w':=by
 cases r with
 |cons a m =>
  cases m with
  |cons D b=>cases b;exact⟨_,_,rfl,a,D⟩
theorem BM(f:X.calm=a9):fF X (.builtin "max") (λxs H Q=>∃i j,xs=[.int i,.int j]/\Q (.int<|if j > i then j else i) H):=by
 intro p s σ H xs us Q I r h;obtain⟨i,j,rfl,q⟩:=h;obtain⟨u,Y,rfl,⟨t,rfl⟩,⟨t',rfl⟩⟩:=vals2 r;refine max_two_ints (I.ok.hd f) λh' a k=>⟨_,H,I.kept k,?_,q⟩
 by_cases L:j > i;rw[o8 L,o8 L];exact⟨_,rfl⟩;rw[p4 L,p4 L];exact⟨_,rfl⟩
structure ObjM(h:d6)(x dx C:c9)(mA:b9->Option b8):Prop where
 obj:h.get? x=a7 (PySem.W.instObj C dx)
 ns:h.Ns1 dx mA
 ne:dx≠x
theorem Cf.some_of(r:Cf (a7 v) o):∃u,o=a7 u/\aL v u:=by
 cases o with
 |none=>exact(show False from r).elim
 |some u=>exact⟨u,rfl,r⟩
structure Cls(K:v4)(C:c9):Prop where
 pg:PySem.W.plainGet K C Str.empty=a9
 hd:PySem.W.hasDictIn K C=a9
 po:PySem.W.plainOver K C=a9
 sa:PM K (.ref C) "__setattr__" = a7 (a7<|.builtin "object.__setattr__")
structure Con(K:v4)(C:c9)(f:b9)(v:V)(u:b8):Prop where
 at_:PM K (.ref C) f=a7 (a7 u)
 rel:aL v u
 get:PySem.W.specialIn K u "__get__" = a7 a8
 cp:PySem.W.copiedNames.contains f=b7
structure Meth(K:v4)(C:c9)(m:b9)(f:c9):Prop where
 at_:PM K (.ref C) m=a7 (a7<|.ref f)
 fn:PySem.W.isFn K (.ref f)=a9
 kp:N7 K (.ref f)=a9
inductive TyOf(K:v4)(H:Hp):V->b8->Prop where
 |non:TyOf K H .non (.type "NoneType")
 |bl (x:Bool):TyOf K H (.bl x) (.type "bool")
 |int (i:Int):TyOf K H (.int i) (.type "int")
 |str (x:b9):TyOf K H (.str x) (.type "str")
 |flt (x:UInt64):TyOf K H (.flt x) (.type "float")
 |lst {a:c9}{xs:List V} (e:H a=a7 (.lst xs)):TyOf K H (.ref a) (.type "list")
 |frz {a:c9}{o:d5}{xs:List V} (e:H a=a7 (.frz o (.lst xs))):TyOf K H (.ref a) (.type "list")
 |tup {a:c9}{xs:List V} (e:H a=a7 (.tup xs)):TyOf K H (.ref a) (.type "tuple")
 |dK {a:c9}{kvs:List (E1×V)} (e:H a=a7 (.dK kvs)):TyOf K H (.ref a) (.type "dict")
 |dT {a:c9}{kvs:List (List E1×V)} (e:H a=a7 (.dT kvs)):TyOf K H (.ref a) (.type "dict")
 |ins {a C dx:c9}{fs:List (b9×V)} (e:H a=a7 (.ins C dx fs)) (cl:Cls K C) (ha:PM K (.ref C) "__class__" = a7 (a7 (.builtin "object.__class__")))
   (hn:PySem.W.specialIn K (.builtin "object.__class__") "__get__" = a7 (a7<|.builtin "getset_descriptor.__get__")) (htk:PySem.W.takesIn K (.builtin "object.__class__")=a7 a9)
   (hm:PySem.W.mroIn K C (.type "object")=a7 a9):TyOf K H (.ref a) (.ref C)
structure Room(k:Nat)(A:e8):Prop where
 hd:A.handled=a8
 dp:A.depth+3*k+5<recursionLimit
 un:A.units+16*k+200<j6
theorem Room.mono(r:Room k A)(h:j<=k):Room j A:=⟨r.hd,by have:=r.dp;lia,by have:=r.un;lia⟩
theorem Room.deeper(r:Room (k+1) A)(env:Env):Room k (A.deeper env):=⟨r.hd,by have:=r.dp;show A.depth+1+3*k+5<_;lia,by have:=r.un;show A.units+3+16*k+200<_;lia⟩
theorem Room.depth(r:Room k A):A.depth<recursionLimit:=by have:=r.dp;lia
def tNil:TA:=λ_ H Q=>Q [] H
def tCons(t:TE)(tr:TA):TA:=λσ H Q=>t σ H λx a=>tr σ a λxs b=>Q (x::xs) b
theorem JG:PA X [] tNil:=λ_ _ _ _ H Q I h=>Calls.spliced_nil ⟨[],H,I,.nil,h⟩
theorem Gw(g:PE X e te)(i:PA X es t)(hs:h7 (e::es) X.env=(b7,eval e X.env)::h7 es X.env:=by rfl):PA X (e::es) (tCons te t):=by intro a p s σ H Q I h;rw[hs];show f9 _ _ (spliced<|(b7,eval e X.env)::g9 a (h7 es X.env)) _ _ s;refine RC<|w9 (g p s σ H _ I h) ?_;rintro u k ⟨x,b,d,r,q⟩;refine w9 (i a p k σ b _ d q) ?_;rintro us w ⟨xs,c,f,m,j⟩;exact⟨x::xs,c,f,.cons r m,j⟩
def tTup(t:TA):TE:=λσ H Q=>t σ H λxs a=>xs.length<=sizeLine/\∀p,a p=a8->Q (.ref p) (x3 a p<|.tup xs)
def tLst(t:TA):TE:=λσ H Q=>t σ H λxs a=>xs.length<=sizeLine/\∀p,a p=a8->Q (.ref p) (x3 a p<|.lst xs)
theorem Jw{x1}(h:PA X es t):PE X (.Tuple es x1 pos) (tTup t):=by intro p s σ H Q I g;refine wpAny_Tuple_spliced<|w9 (h pos p s σ H _ I g) λus f ⟨xs,a,c,r,z,q⟩=>⟨by rw[<-r.length];exact z,?_⟩;have d:a f.heap.objs.size=a8:=c.hok.fresh<|v6 _;refine⟨.ref f.heap.objs.size,x3 a f.heap.objs.size<|.tup xs,c.laid (t':=f.toks) (λb u e=>x5 _ e) (v6 _) ?_,rfl,q _ d⟩;exact⟨z,us,r,⟨_,A8 _ rfl,rfl,⟨_,rfl⟩,rfl⟩⟩
theorem JB(h:PA X es t):PE X (.List es pos) (tLst t):=by intro p s σ H Q I g;refine wpAny_List_spliced<|w9 (h pos p s σ H _ I g) λus f ⟨xs,a,c,r,z,q⟩=>⟨by rw[<-r.length];exact z,?_⟩;have d:a f.heap.objs.size=a8:=c.hok.fresh<|v6 _;refine⟨.ref f.heap.objs.size,x3 a f.heap.objs.size<|.lst xs,c.laid (t':=f.toks) (λb u e=>x5 _ e) (v6 _) ?_,rfl,q _ d⟩;exact⟨z,us,0,r,A8 _ rfl⟩
abbrev Sp:=List V->Hp->VK->XK->Prop
abbrev Nv:=List Env->Hp->f6->XK->b8->f6->Prop
structure Env0(P:c8)(w:c7)(K:v4)(mg:b9->Option b8)(base:d6)(A:e8)(outer:List Env)(s:f6)(H:Hp):Prop where
 frames:A.frames=a7 outer
 mod:Mod K mg base
 bs:∀b o,base.get? b=a7 o->s.heap.get? b=a7 o/\H b=a8
 bsz:base.objs.size<=s.heap.objs.size
 funs:s.heap.FunFrames base outer
 frf:∀b∈K2 outer,H b=a8
 hok:D8 P w H s.heap
 bare:f8 s.gens
inductive CE(outer:List Env)(P:c8)(w:c7)(H:Hp)(s:f6)(Q:VK)(u:b8)(s':f6):Prop
 |mk (v:_) (H':_) (f0:s'.os=s.os) (f1:f8 s'.gens) (f2:Un (K2 outer) [] H H' s.heap s'.heap) (f3:D8 P w H' s'.heap) (f4:aL v u) (f5:Q v H')
def CR(CX:Nv)(o:List Env)(P:c8)(w:c7)(H:Hp)(s:f6)(Q:VK)(E:XK)(r:Result)(s':f6):Prop:=match r with
 |.ok (.ret u)=>CE o P w H s Q u s'
 |.ok _=>False
 |.error e=>CX o H s E e s'
structure FnOk(P:c8)(w:c7)(K:v4)(mg:b9->Option b8)(base:d6)(CX:Nv)(k:Nat)(f:c9)(fd:j7)(ps:List b9)(sp:Sp):Prop where
 len:∀vs H Q E,sp vs H Q E->vs.length=ps.length
 run:∀(A:e8) (outer:List Env) (s:f6) (H:Hp) (args:Args) (us:List b8) (vs:List V) (Q:VK) (E:XK),Room k A->Env0 P w K mg base A outer s H->BindsTo s fd args (ps.zip us)->aw vs us->sp vs H Q E ->j8 (g7 P w) A (.call (.ref f) args) (CR CX outer P w H s Q E) s
theorem t9.env0(I:t9 X pins σ H s):Env0 X.prog X.w X.K X.mg X.base X.A X.stack s H:=⟨I.ok.frames,I.ok.mod,I.bs,F4 I.ok.bsz I.sz,I.stack,I.stkFree,I.hok,I.bare⟩
theorem t9.after(I:t9 X pins σ H s)(h:CE X.stack X.prog X.w H s Q u s'):EP X pins σ Q u s':=by obtain⟨v,H',c,e,n,K,r,q⟩:=h;obtain⟨a,g,d,t,o⟩:=s';obtain rfl:o=s.os:=c;exact⟨v,H',I.call (h':=a) (g':=g) (d':=d) (t':=t) (ch:=[]) n K e (λb z=>p7 z<|by simp),r,q⟩
def IX(sp:Sp)(s:List V)(E:XK)(t:TA):TE:=λσ H Q=>t σ H λvs a=>sp (vs++s) a Q E
def uC(K:v4)(d:j7)(ps:List b9)(ds:List b8):Prop:=∀(s:f6) (us:List b8),K.In s.heap->(us++ds).length=ps.length->BindsTo s d ⟨us,[]⟩ (ps.zip<|us++ds)
theorem uC.all{K:v4}{d:j7}{ps:List b9}(h:∀us:List b8,us.length=ps.length->bindArgs d ⟨us,[]⟩=pure (ps.zip us)):uC K d ps []:=λs us _ g=>by rw[MJ]at g ⊢;exact .of_eq<|h us g
def Cb(CX:Nv)(X:Cx)(E:XK):Prop:=∀(p:List (c9×d5)) (σ:St) (H:Hp) (s:f6) (e:b8) (s':f6),t9 X p σ H s->CX X.stack H s E e s'->X.xe e s'
theorem Jf(F:FnOk X.prog X.w X.K X.mg X.base CX k f fd ps sp)(i:Room k X.A)(d:uC X.K fd ps ds)(a:aw dvs ds)(x:Cb CX X E)(I:t9 X pins σ H s) (r:aw vs us) (h:sp (vs++dvs) H Q E):f9 (g7 X.prog X.w) X.A (call (.ref f) us) (EP X pins σ Q) X.xe s:=by
 have m:aw (vs++dvs) (us++ds):=r.append a;have g:(us++ds).length=ps.length:=by rw[<-m.length];exact F.len _ _ _ _ h
 refine wpAny_call<|OV (F.run X.A X.stack s H ⟨us,[]⟩ (us++ds) (vs++dvs) Q E i I.env0 (d s us I.kIn g) m h) λr s' q=>?_;cases r with
 |error e=>exact x pins σ H s e s' I q
 |ok l =>
  cases l with
  |ret u=>exact I.after q
  |next=>exact Ny q
  |brk=>exact Ny q
  |cont=>exact Ny q
theorem Gu(F:FnOk X.prog X.w X.K X.mg X.base CX k f fd ps sp)(o:Room k X.A)(R:Gl X x)(n:X.mg x=a7 (.ref f))(m:N7 X.K (.ref f)=a9)(g:uC X.K fd ps ds)(i:aw dvs ds)(u:Cb CX X E)(d:PA X (e::es) t) (b:(x==("__debug__":b9))=b7:=by decide) (j:h7 (e::es) X.env=(b7,eval e X.env)::h7 es X.env:=by rfl) (l:(g9 pos<|h7 es X.env).any (·.1)=b7:=by rfl):PE X (.Call (.Name x p) (e::es) [] pos) (IX sp dvs E t):=by intro a s σ H Q I h;refine P9<|GR I R n ?_ b;refine PySem.W.callWith_K (h₀:=X.base) I.ok.mod.kin m (w9 (d pos a s σ H _ I h) λus y ⟨vs,v,c,r,q⟩=>⟨c.kIn,?_⟩) j l;exact Jf F o g i u c r q
structure Mk(K:v4)(C f:c9):Prop where
 makes:PySem.W.makesIn K C=a9
 init:PM K (.ref C) "__init__" = a7 (a7<|.ref f)
 fn:PySem.W.isFn K (.ref f)=a9
 kp:N7 K (.ref C)=a9
structure KBinds(K:v4)(fd:j7)(ps ks:List b9)(g:List b8->List b8->List b8)(gV:List V->List V->List V):Prop where
 to:∀(s:f6) (us ws:List b8),K.In s.heap->(g us ws).length=ps.length->BindsTo s fd ⟨us,ks.zip ws⟩ (ps.zip<|g us ws)
 rel:∀{vs:List V}{us:List b8}{zs:List V}{ws:List b8},aw vs us->aw zs ws->aw (gV vs zs) (g us ws)
structure FnScope(N P:List b9)(sc:f7):Prop where
 kind:sc.kind=.function
 co:sc.isCoroutine=b7
 gen:sc.isGenerator=b7
 nd:N.Nodup
 pre:N.take P.length=P
 par:∀x∈P,sc.names.lookup x=a7 .local\/sc.names.lookup x=a7 .cell
 nofree:∀y∈sc.names,y.2≠.free
theorem uv{kindOf:b9->Option j9}{x:b9}:∀{binds:List (b9×b8)}{m:b9->Option b8},(∀v,(x,v)∉binds)->bindL kindOf binds m x=m x
 | [],_,_=>rfl
 |(n,v)::r,m,h=>by
  unfold bindL;rw[uv λw hw=>h w<|C4 _ hw];split;have:x≠n:=by rintro rfl;exact h v D3
  simp[this];rfl
theorem ux{kindOf:b9->Option j9}{x:b9}:∀{binds:List (b9×b8)}{m:b9->Option b8},(∀v,(x,v)∉binds)->bindC kindOf binds m x=m x
 | [],_,_=>rfl
 |(n,v)::r,m,h=>by
  unfold bindC;rw[ux λw hw=>h w<|C4 _ hw];split;rfl;have:x≠n:=by rintro rfl;exact h v D3
  simp[this]
theorem uw{kindOf:b9->Option j9}{x:b9}{v:b8}:∀{P:List b9}{vs:List b8}{i:Nat}{m:b9->Option b8},P.Nodup->P[i]?=a7 x->vs[i]?=a7 v->kindOf x=a7 .local ->bindL kindOf (P.zip vs) m x=a7 v
 | [],_,_,_,_,h,_,_=>by simp at h
 |_::_,[],_,_,_,_,h,_=>by simp at h
 |p::P,w::vs,0,m,nd,h1,h2,hk=>by simp at h1 h2;subst h1;subst h2;show bindL kindOf ((p,w)::P.zip vs) m p=_;unfold bindL;rw[uv λv hv=>(J7.mp nd).1 (List.of_mem_zip hv).1,o8 hk];simp
 |p::P,w::vs,i+1,m,nd,h1,h2,hk=>by show bindL kindOf ((p,w)::P.zip vs) m x=_;unfold bindL;exact uw (i:=i) (J7.mp nd).2 (by simpa using h1) (by simpa using h2) hk
theorem uy{kindOf:b9->Option j9}{x:b9}{v:b8}:∀{P:List b9}{vs:List b8}{i:Nat}{m:b9->Option b8},P.Nodup->P[i]?=a7 x->vs[i]?=a7 v->kindOf x≠a7 .local ->bindC kindOf (P.zip vs) m x=a7 v
 | [],_,_,_,_,h,_,_=>by simp at h
 |_::_,[],_,_,_,_,h,_=>by simp at h
 |p::P,w::vs,0,m,nd,h1,h2,hk=>by simp at h1 h2;subst h1;subst h2;show bindC kindOf ((p,w)::P.zip vs) m p=_;unfold bindC;rw[ux λv hv=>(J7.mp nd).1 (List.of_mem_zip hv).1,p4 hk];simp
 |p::P,w::vs,i+1,m,nd,h1,h2,hk=>by show bindC kindOf ((p,w)::P.zip vs) m x=_;unfold bindC;exact uy (i:=i) (J7.mp nd).2 (by simpa using h1) (by simpa using h2) hk
noncomputable def start(N:List b9)(vs:List V):St:=vs.map a7++N6 (N.length-vs.length) a8
noncomputable def yJ(CX:Nv)(P:c8)(w:c7)(K:v4)(mg:b9->Option b8)(base:d6)(N:List b9)(l:b9)(scope:f7)(f:c9)(d:b8)(A:e8)(outer:List Env)(s:f6)(H:Hp)(E:XK):Cx where
 prog:=P
 w:=w
 K:=K
 mg:=mg
 base:=base
 A:=A.deeper<|k5 l scope s.heap.objs.size f d
 N:=N
 s₀:=s
 H₀:=H
 env:=k5 l scope s.heap.objs.size f d
 outer:=outer
 stack:=k5 l scope s.heap.objs.size f d::outer
 ex:=[]
 calm:=a9
 fn:=λ_=>a9
 pn:=[]
 xe:=λe s'=>f9 (g7 P w) (A.deeper<|k5 l scope s.heap.objs.size f d) (leaving (k5 l scope s.heap.objs.size f d) e) (λ_ a=>CX outer H s E e a) (λb a=>CX outer H s E b a) s'
theorem xn{s:f7}{n:Nat}{x:b9}(h:s.names.lookup x=a7 .cell):∃c,(cellsFrom n s.names []).lookup x=a7 c:=by have q:=PySem.W.cellsFrom_some s.names n []<|.inl h;exact Q9.mp q
theorem AO{CX:Nv}{P:c8}{w:c7}{K:v4}{mg:b9->Option b8}{base:d6}{N ps:List b9}{l:b9}{scope:f7}{f:c9}{m:b8}{A:e8}{o:List Env}{s C:f6}{H:Hp}{E:XK}{us:List b8}{vs:List V}(S:FnScope N ps scope) (F:A.handled=a8) (d:Env0 P w K mg base A o s H) (L:vs.length=ps.length) (r:aw vs us)(x:InCallC s s.heap.objs.size (bindL (k5 l scope s.heap.objs.size f m).kindOf (ps.zip us) λ_=>a8) (cellsFrom (s.heap.objs.size+1) scope.names []) (bindC (k5 l scope s.heap.objs.size f m).kindOf (ps.zip us) λ_=>a8) C):t9 (yJ CX P w K mg base N l scope f m A o s H E) [] (start N vs) H C:=by
 have G:ps.length<=N.length:=by have:=t4 L1 S.pre;rw[K5]at this;lia
 obtain⟨h1,M,rfl,t⟩:=x.done;have g:∀b:c9,b∉(yJ CX P w K mg base N l scope f m A o s H E).ex:=λb z=>p7 (show b∈([]:List c9)from z) (by simp);refine⟨⟨d.mod,S.kind,rfl,rfl,v6 _,λy z c h1 h2=>?_,λy Q=>?_,λy c _ h=>?_,λ_=>F,Around.frames_deeper d.frames,.inr ⟨rfl,rfl⟩,λb z=>p7 z<|g b,d.bs,d.bsz,λb _ _=>g b,λb z=>p7 z<|g b,d.funs,d.frf⟩,rfl,d.bare,Un.kept t,⟨_,x.toInCall.ns,λi y v h1 h2 J=>?_⟩,λy c h=>⟨_,x.cell y c h⟩,d.hok.fresh<|v6 _,λy c h=>?_,λp hp=>p7 (show p∈([]:List (c9×d5))from hp) (by simp),d.hok.kept t,?_⟩;exact name_of_addr x.apart (NS h1)<|NS h2;have Q:scope.names.lookup y=a7 .cell\/scope.names.lookup y=a7 .free:=Q;rcases Q with Q|Q;exact xn Q;exact p7 rfl<|S.nofree _<|NS Q;exact NN<|x.above y c<|NS h;have hi:i<vs.length:=by unfold start at h2;by_cases hi:i<vs.length;exact hi;rw[MC<|by simpa using hi]at h2;rw[Q5]at h2;split at h2<;>cases h2
 have D:vs[i]?=a7 v:=by
  unfold start at h2;rw[L5 (by simpa using hi),C7]at h2;cases e:vs[i]? with
  |none=>rw[e]at h2;cases h2
  |some a=>rw[e]at h2;cases h2;rfl
 obtain⟨u,B,I⟩:=r.get D;have hp:ps[i]?=a7 y:=by rw[<-S.pre,OG<|by lia];exact h1
 have j:ps.Nodup:=by rw[<-S.pre];exact S.nd.sublist<|O3 _ _
 refine⟨u,I,?_⟩;rcases S.par y (E9 hp)with k|k;exact .inl ⟨k,uw j hp B k⟩;obtain⟨c,e⟩:=xn (n:=s.heap.objs.size+1) k;refine .inr ⟨.inl k,c,e,?_⟩;have q:=x.cell y c e;rw[uy j hp B<|by show scope.names.lookup y≠_;rw[k];decide]at q;exact q;exact d.hok.fresh<|NN<|x.above y c<|NS h;unfold start;show _=N.length;rw[A3,v7,Q0];lia
theorem fn_of{CX:Nv}{P:c8}{w:c7}{K:v4}{mg:b9->Option b8}{base:d6}{k:Nat}{f:c9}{name l:b9}{p:Arguments}{a:List i3}{scope:f7}{T kV i U c R oc:b8}{M od:Option c9}{G:Array (Option b8)}{N ps:List b9}{sp:Sp} (lk:K.lookup f=a7 ⟨oc,od,.func<|NM name l p a scope T kV i U M c R,G⟩) (C:QA K c l=a9) (S:FnScope N ps scope)(B:∀vs H Q E,sp vs H Q E->vs.length=ps.length)(h:∀(A:e8) (outer:List Env) (s:f6) (H:Hp) (vs:List V) (Q:VK) (E:XK),Room k (A.deeper<|k5 l scope s.heap.objs.size f c)->sp vs H Q E -> ∃t,K8 (yJ CX P w K mg base N l scope f c A outer s H E) a t/\t { nx:=λ_ H'=>Q .non H',rt:=Q } (start N vs) H):FnOk P w K mg base CX (k+1) f (NM name l p a scope T kV i U M c R) ps sp:=by
 refine⟨B,λA outer s H O us vs Q E D j hb r z=>?_⟩;have hl:=B _ _ _ _ z;have X:K.In s.heap:=j.mod.kin.keeps λb o e=>(j.bs b o e).1;have F:s.heap.NoLimit:=j.mod.nolimit.keeps λb o e=>(j.bs b o e).1;have g:∀y∈ps.zip us,scope.names.lookup y.1=a7 .local\/(scope.names.lookup y.1=a7 .cell/\((cellsFrom (s.heap.objs.size+1) scope.names []).lookup y.1).isSome=a9):=λ⟨n,v⟩ hy=>by rcases S.par n (List.of_mem_zip hy).1 with q|q;exact .inl q;exact .inr ⟨q,PySem.W.cellsFrom_some _ _ _<|.inl q⟩
 refine codeAny_call_function D.depth (X _ _ lk) rfl S.co S.gen rfl (PySem.W.codeRec_of X C)<|hb _ _ _ _ ?_;refine wpAny_newFunctionEnv_cells S.kind g λenv he Y x=>?_;subst he;refine⟨F.keeps x.toInCall.keep,codeAny_func ?_⟩;obtain⟨t,ht,hq⟩:=h A outer s H vs Q E (D.deeper _) z;have I:t9 (yJ CX P w K mg base N l scope f c A outer s H E) [] (start N vs) H Y:=AO S D.hd j hl r x;refine L0 (ht [] Y (start N vs) H _ I hq) (λZ s' hs=>?_) λe s' hs=>hs;have m:∀{d:St}{H':Hp}{v:V}{u:b8},t9 (yJ CX P w K mg base N l scope f c A outer s H E) [] d H' s'->aL v u->Q v H'->CE outer P w H s Q u s':=λ{d H' v u} J L q=>⟨v,H',J.os,J.bare,J.base,J.hok,L,q⟩
 cases Z with
 |ret u=>obtain⟨v,d,H',J,L,q⟩:=hs;exact m J L q
 |next=>obtain⟨d,H',J,q⟩:=hs;exact m (v:=V.non) (u:=ABN) J rfl q
 |brk=>obtain⟨_,_,_,q⟩:=hs;exact Ny q
 |cont=>obtain⟨_,_,_,q⟩:=hs;exact Ny q
def Rp(r:List V->Hp->VK->Prop)(t:TA):TE:=λσ H Q=>t σ H λvs a=>r vs a Q
theorem Db{X:Cx}{x:b9}{p b:Pos}{e:ge}{es:List ge}{t:TA}{id:String}{r:List V->Hp->VK->Prop}(i:fF X (.builtin id) r)(R:Gl X x)(m:X.mg x=a8)(v:e7 x=a7 (.builtin id))(g:PA X (e::es) t)(n:x≠"__name__":=by decide)(c:(x==("__debug__":b9))=b7:=by decide)(j:h7 (e::es) X.env=(b7,eval e X.env)::h7 es X.env:=by rfl) (l:(g9 b<|h7 es X.env).any (·.1)=b7:=by rfl):PE X (.Call (.Name x p) (e::es) [] b) (Rp r t):=by intro a s σ H Q I h;refine P9<|kE I R m v ?_ n c;exact PyProof.Rows.callWith_builtin1 (w9 (g b a s σ H _ I h) λus o ⟨vs,d,f,k,q⟩=>i a o σ d vs us Q f k q) j l
theorem zV(g:fF X (.type T) r)(R:Gl X x)(m:X.mg x=a8)(v:e7 x=a7 (.type T))(f:PA X (e::es) t)(n:x≠"__name__":=by decide)(b:(x==("__debug__":b9))=b7:=by decide)(i:h7 (e::es) X.env=(b7,eval e X.env)::h7 es X.env:=by rfl) (l:(g9 pos<|h7 es X.env).any (·.1)=b7:=by rfl):PE X (.Call (.Name x p) (e::es) [] pos) (Rp r t):=by intro a s σ H Q I h;refine P9<|kE I R m v ?_ n b;exact Re (w9 (f pos a s σ H _ I h) λus k ⟨vs,c,d,j,q⟩=>g a k σ c vs us Q d j q) i l
end L2
namespace HT
open PySem PyProof.Rows
theorem rcLt_int(A:e8)(s:f6)(a:Int)(t:Tok)(c:Int)(u:Tok)(prog:c8)(w:c7)(E:b8->f6->Prop)(Q:b8->f6->Prop)(h:Q (.bool<|decide<|a<c) s):f9 (g7 prog w) A (richCompare .Lt (.int a t)<|.int c u) Q E s:=(PyProof.Rows.lt_int h:f9 (g7 prog w) A (j4 .Lt (.int a t)<|.int c u) Q E s)
theorem cat_tup(D:IsTup s.heap t vs.toArray)(q:IsTup s.heap b ws.toArray)(v:vs≠[])(h1:ws=[]->Q (.ref t) s) (h2:ws≠[]->Q (.ref s.heap.objs.size) { s with heap:=s.heap.push { cls:=.type "tuple",data:=.seq (vs++ws).toArray } })(z:vs.length+ws.length<=sizeLine):f9 (g7 prog w) A (j3 .Add (.ref t)<|.ref b) Q E s:=by
 obtain⟨⟨cls,k,data,p⟩,B,l,n,m⟩:=id D;obtain⟨⟨j,d,i,f⟩,h,a,o,c⟩:=id q;simp only at l m a c;subst l m a c;have e:vs.toArray++ws.toArray=(vs++ws).toArray:=by simp
 by_cases g:ws=[]
 exact concat_meets ⟨_,B,rfl⟩ ⟨_,h,rfl⟩ noFill_tuple_add seq_tuple_add RM RR (RV _ _) (tuple_addW1 t b vs.toArray ws.toArray n o k d p f (by simpa using v)<|by simp[g]) ⟨B,h,h1 g⟩;refine concat_meets ⟨_,B,rfl⟩ ⟨_,h,rfl⟩ noFill_tuple_add seq_tuple_add RM RR (RV _ _) (tuple_addW2 t b vs.toArray ws.toArray n o k d p f (by simpa using v) (by simpa using g)<|by rw[A5,A5];exact z) ⟨B,h,?_⟩;rw[e];exact h2 g
noncomputable def sIx(n d:Nat):Option Int->Nat
 |none=>d
 |some v=>if v<0 then(v+(n:Int)).toNat else min v.toNat n
theorem sIx_none(n d:Nat):sIx n d a8=d:=rfl
theorem sIx_nat(n d k:Nat):sIx n d (a7 (k:Int))=min k n:=by show (if (k:Int)<0 then((k:Int)+(n:Int)).toNat else min (k:Int).toNat n)=min k n;rw[p4 (by lia),J4]
theorem Jd(n d:Nat)(h:d<=n)(o:Option Int):sIx n d o<=n:=by
 cases o with
 |none=>exact h
 |some v=>show (if v<0 then(v+(n:Int)).toNat else min v.toNat n)<=n;by_cases c:v<0;rw[o8 c];lia;rw[p4 c];exact Nat.min_le_right _ _
theorem BG(v:Int)(n d:Nat):(if v<0 then max (v+(n:Int)) 0 else min v (n:Int))=((sIx n d (a7 v):Nat):Int):=by
 show (if v<0 then max (v+(n:Int)) 0 else min v (n:Int))=(((if v<0 then(v+(n:Int)).toNat else min v.toNat n):Nat):Int)
 by_cases c:v<0;simp only[o8 c];lia;simp only[p4 c];lia
theorem yH(lo hi:Option Int)(n:Nat):RY lo hi 1 (n:Int)=(((sIx n 0 lo:Nat):Int),((sIx n n hi:Nat):Int)):=by
 have h1:¬((1:Int)<0):=by lia
 unfold RY;simp only[h1,r9];refine Prod.ext ?_ ?_;cases lo with
 |none=>rfl
 |some v=>exact BG v n 0
 cases hi with
 |none=>rfl
 |some v=>exact BG v n n
theorem xV(i j:Nat):Rb (i:Int) (j:Int) 1=j-i:=by
 unfold Rb;have h1:(1:Int) > 0:=by lia
 simp only[h1,s9,Int.ediv_one];split<;>lia
theorem oU(p:k7 v o)(h:Q o s):f9 (g7 prog w) A (Builtin.Slice.slicePartIndex v) Q E s:=by
 cases p with
 |none=>exact slicePart_none h
 |int i t=>exact slicePart_int h
theorem fP{m:c9}{l u:b8}{lo hi:Option Int}{n:Nat}{Q:Int×Int×Nat->f6->Prop}(hs:s.heap.IsSliceOf m l u .none)(p:k7 l lo)(d:k7 u hi)(h:Q (((sIx n 0 lo:Nat):Int),1,sIx n n hi-sIx n 0 lo) s):f9 (g7 prog w) A (Sd (.ref m)<|pure (n:Int)) Q E s:=by obtain⟨o,b,c,a⟩:=id hs;unfold Sd Builtin.Slice.sliceFields;refine t6<|t6<|J2 b a (x:=l) rfl<|t6<|J2 b a (x:=u) rfl<|t6<|J2 b a (x:=.none) rfl<|t8 ?_;refine t6<|slicePart_none ?_;show f9 _ _ (if ((1:Int)==0)=a9 then _ else _) _ _ s;rw[p4<|by decide];refine t6<|oU p<|t6<|oU d<|t6<|t8 ?_;show f9 _ _ (match RY lo hi 1 (n:Int)with|(lo,hi)=>pure (lo,(1:Int),Rb lo hi 1)) _ _ s;rw[yH lo hi n];show f9 _ _ (pure (((sIx n 0 lo:Nat):Int),(1:Int),Rb ((sIx n 0 lo:Nat):Int) ((sIx n n hi:Nat):Int) 1)) _ _ s;rw[xV];exact t8 h
theorem CV(xs:Array b8)(i k:Nat):((D0 k).filterMap λ(m:Nat)=>xs[((i:Int)+(m:Int)*1).toNat]?).toArray=((xs.toList.drop i).take k).toArray:=by
 have e:(λ(m:Nat)=>xs[((i:Int)+(m:Int)*1).toNat]?)=λm=>xs[i+m]?:=by
  funext m;have:((i:Int)+(m:Int)*1).toNat=i+m:=by lia
  rw[this]
 rw[e];have:=pick_run xs i k;rw[List.filterMap_map]at this;have l:((λx=>xs[x]?) ∘ λx=>i+x)=λm=>xs[i+m]?:=rfl;rw[l]at this;rw[this]
theorem getItem_tuple_cut{t l:c9}{i:Array b8}{v u:b8}{lo hi:Option Int}{Q:b8->f6->Prop}(D:IsTup s.heap t i)(hs:s.heap.IsSliceOf l v u .none)(p:k7 v lo)(j:k7 u hi)(f:¬(sIx i.size 0 lo=0/\sIx i.size i.size hi=i.size))(h:Q (.ref s.heap.objs.size) { s with heap:=s.heap.push { cls:=.type "tuple",data:=.seq ((i.toList.drop<|sIx i.size 0 lo).take<|sIx i.size i.size hi-sIx i.size 0 lo).toArray } })(z:i.size<=sizeLine):f9 (g7 prog w) A (k9 (.ref t)<|.ref l) Q E s:=by
 have e:sizeOk (.seq ((i.toList.drop<|sIx i.size 0 lo).take<|sIx i.size i.size hi-sIx i.size 0 lo).toArray):=by show ((i.toList.drop<|sIx i.size 0 lo).take<|sIx i.size i.size hi-sIx i.size 0 lo).toArray.size<=sizeLine;rw[A5,K5,MM,E2];lia
 have L:sIx i.size i.size hi<=i.size:=Jd _ _ (v6 _) hi;obtain⟨g,b,c,d⟩:=id hs;have a:s.TypeIs (.ref l) "slice":=⟨g,b,c⟩
 unfold k9
 try with_reducible refine E3 ?_
 first|refine t6 (t8 ?_)|skip
 refine t6<|wpAny_sequenceKey D.typeIs (by decide) ?_;refine t6<|Mo (name:=u4 "__getitem__") D.typeIs Pe<|F5 Pe D.typeIs entry_tuple_getitem ?_<|args_tuple_getitem _ _;show f9 _ _ (Rc (.ref t) >>= _) _ _ s;refine t6<|tupleItemsOf_ D ?_;refine t6<|No a ?_;rw[o8<|by decide];refine t6<|fP hs p j ?_;have o:¬((((sIx i.size 0 lo:Nat):Int)==0&&(1:Int)==1&&(sIx i.size i.size hi-sIx i.size 0 lo)==i.size)=a9):=by intro q;rw[E4,E4]at q;have k:((sIx i.size 0 lo:Nat):Int)=0:=eq_of_beq q.1.1;have n:sIx i.size i.size hi-sIx i.size 0 lo=i.size:=eq_of_beq q.2;exact f ⟨by lia,by lia⟩
 show f9 _ _ (if (((sIx i.size 0 lo:Nat):Int)==0&&(1:Int)==1&&(sIx i.size i.size hi-sIx i.size 0 lo)==i.size)=a9 then _ else _) _ _ s;rw[p4 o,CV]
 first
  |exact t6 (m:=Q8 _) (G4 (t8 ⟨_,rfl,t8 h⟩) e)
  |exact t6 (m:=Q8 _) (G4 (t6 (t8 (t8 ⟨_,rfl,t8 h⟩))) e)
  |exact t6 (t6 (m:=Q8 _) (G4 (t8 (t8 ⟨_,rfl,t8 h⟩)) e))
  |exact t6 (t6 (m:=Q8 _) (G4 (t8 ⟨_,rfl,t8 h⟩) e))
end HT
namespace L2
open PySem PySem.Spec PyProof.Rows
abbrev TO:=St->Hp->(Option Int->Hp->Prop)->Prop
def PO(X:Cx)(e:Option ge)(t:TO):Prop:=∀(p:List (c9×d5)) (s:f6) (σ:St) (H:Hp) (Q:Option Int->Hp->Prop),t9 X p σ H s->t σ H Q ->f9 (g7 X.prog X.w) X.A (evalPart e X.env) (λu s'=>∃o H',t9 X p σ H' s'/\k7 u o/\Q o H') X.xe s
def FQ:TO:=λ_ H Q=>Q a8 H
def tPart(t:TE):TO:=λσ H Q=>t σ H λx a=>∃i,x=.int i/\Q (a7 i) a
section
variable{X:Cx}{e:ge}{te:TE}{lo hi:Option ge}{tl th:TO}{pos p2:Pos}
theorem Go:PO X a8 FQ:=by intro p s σ H Q I h;rw[evalPart_none];exact t8 ⟨a8,H,I,.none,h⟩
theorem Gn(h:PE X e te):PO X (a7 e) (tPart te):=by intro p s σ H Q I w;rw[evalPart_some];refine w9 (h p s σ H _ I w) ?_;rintro u f ⟨x,a,b,r,c⟩;obtain⟨i,rfl,q⟩:=c;obtain⟨t,rfl⟩:=r;exact⟨a7 i,a,b,.int i t,q⟩
def Pq(X:Cx)(r:V->Option Int->Option Int->Hp->VK->Prop):Prop:=∀(p:List (c9×d5)) (s:f6) (σ:St) (H:Hp) (x:V) (v a u:b8) (l hi:Option Int) (m:c9) (Q:VK),t9 X p σ H s->aL x v->s.heap.IsSliceOf m a u .none->k7 a l->k7 u hi->r x l hi H Q ->∃T id,typeLookup (.type T) "__getitem__" = pure (a7<|.builtin id)/\s.TypeIs v T/\f9 (g7 X.prog X.w) X.A (k9 v<|.ref m) (EP X p σ Q) X.xe s
def tSl(r:V->Option Int->Option Int->Hp->VK->Prop)(te:TE)(t h:TO):TE:=λσ H Q=>te σ H λx a=>t σ a λl b=>h σ b λu c=>r x l u c Q
theorem CY(y:Pq X r)(o:PE X e te)(t:PO X lo tl)(B:PO X hi th):PE X (.Subscript e (.Slice lo hi a8 p2) pos) (tSl r te tl th):=by intro p s σ H Q I h;refine Subscript_<|w9 (o p s σ H _ I h) ?_;rintro v L ⟨x,f,i,K,F⟩;refine wpAny_Slice<|w9 (t p L σ f _ i F) ?_;rintro a M ⟨l,g,j,C,G⟩;refine w9 (B p M σ g _ j G) ?_;rintro c z ⟨u,d,k,E,J⟩;rw[evalPart_none];refine t8 ?_;have m:t9 X p σ d { z with heap:=z.heap.push { cls:=.type "slice",data:=.fields #[a,c,.none] } }:=k.kept (t':=z.toks) λb N q=>x5 _ q;obtain⟨T,id,n,D,R⟩:=y p { z with heap:=z.heap.push { cls:=.type "slice",data:=.fields #[a,c,.none] } } σ d x v a c l u z.heap.objs.size Q m K (Heap.IsSliceOf.new ..) C E J;show f9 (g7 X.prog X.w) X.A (subscriptTail e (.Slice lo hi a8 p2) v<|.ref z.heap.objs.size) (EP X p σ Q) X.xe { z with heap:=z.heap.push { cls:=.type "slice",data:=.fields #[a,c,.none] } };exact tail_any (ops:=[.ref z.heap.objs.size,v]) D n R<|by with_unfolding_all rfl
noncomputable def FF(xs:List V)(lo hi:Option Int):List V:=(xs.drop<|HT.sIx xs.length 0 lo).take<|HT.sIx xs.length xs.length hi-HT.sIx xs.length 0 lo
theorem nF(xs:List V)(lo hi:Option Int):(FF xs lo hi).length<=xs.length:=by unfold FF;rw[K5,MM];lia
def rSlT(K:v4):V->Option Int->Option Int->Hp->VK->Prop:=λx l hi H Q=>∃a xs,x=.ref a/\B8 K H a xs /\¬(HT.sIx xs.length 0 l=0/\HT.sIx xs.length xs.length hi=xs.length)/\∀p,H p=a8->Q (.ref p) (x3 H p<|.tup<|FF xs l hi)
theorem Ja:Pq X (rSlT X.K):=by
 intro p s σ H x v f i l hi m Q I g hs d u h;obtain⟨a,xs,rfl,c,w,q⟩:=h;cases g;obtain⟨its,r,D,z⟩:=I.tuple c;have n:its.toArray.size=xs.length:=by rw[A5];exact r.length.symm
 refine⟨"tuple",_,Pe.lookup,D.typeIs,?_⟩;refine HT.getItem_tuple_cut D hs d u (by rw[n];exact w) ?_ (by rw[n];exact z);rw[n];refine⟨.ref s.heap.objs.size,_,I.laid (t':=s.toks) (o:=.tup<|FF xs l hi) (λb e q=>x5 _ q) (v6 _) ?_,rfl,q _<|I.hok.fresh<|v6 _⟩;exact⟨F4 (nF xs l hi) z,_,(r.drop<|HT.sIx xs.length 0 l).take<|HT.sIx xs.length xs.length hi-HT.sIx xs.length 0 l,Fa.new _ _⟩
def rCatT(K:v4):R2:=λx y H Q=>∃a b xs ys,x=.ref a/\y=.ref b/\B8 K H a xs/\B8 K H b ys/\xs≠[]/\xs.length+ys.length<=sizeLine /\(ys=[]->Q (.ref a) H)/\(ys≠[]->∀p,H p=a8->Q (.ref p) (x3 H p<|.tup<|xs++ys))
theorem aw.nil_iff(r:aw xs us):us=[]↔xs=[]:=by
 cases r with
 |nil=>simp
 |cons _ _=>simp
theorem GA:D7 X (j3 .Add) (rCatT X.K):=by intro p s σ H x y v u Q I n t h;obtain⟨a,b,xs,ys,rfl,rfl,f,d,e,c,k,l⟩:=h;cases n;cases t;obtain⟨its,r,g,_⟩:=I.tuple f;obtain⟨i,m,j,_⟩:=I.tuple d;refine HT.cat_tup g j (λz=>e<|r.nil_iff.mp z) (λz=>⟨.ref a,H,I,rfl,k<|m.nil_iff.mp z⟩) (λz=>?_) (by rw[<-r.length,<-m.length];exact c);refine⟨.ref s.heap.objs.size,_,I.laid (t':=s.toks) (o:=.tup<|xs++ys) (λb A q=>x5 _ q) (v6 _) ?_,rfl,l (λw=>z<|m.nil_iff.mpr w) _<|I.hok.fresh<|v6 _⟩;exact⟨by rw[A3];exact c,_,r.append m,Fa.new _ _⟩
end
noncomputable def Nk(n:Nat)(i:Int):Option Nat:=if 0<=i then(if i<n then a7 i.toNat else a8)else if -(n:Int)<=i then a7 (i+n).toNat else a8
noncomputable def atI{α:Type}(xs:List α)(i:Int):Option α:=(Nk xs.length i).bind λj=>xs[j]?
theorem AN(h:Nk n i=a7 j):seqIndex? i n=a7 j/\j<n/\-(n:Int)<=i/\i<n:=by unfold Nk at h;by_cases a:0<=i;rw[o8 a]at h;by_cases h1:i<n;rw[o8 h1]at h;have e:i.toNat=j:=C3 h;exact⟨by rw[seqIndex_of a h1,e],by lia,by lia,h1⟩;rw[p4 h1]at h;cases h;rw[p4 a]at h;by_cases h1:-(n:Int)<=i;rw[o8 h1]at h;have e:(i+n).toNat=j:=C3 h;exact⟨by rw[seqIndex_neg (by lia) h1,e],by lia,h1,by lia⟩;rw[p4 h1]at h;cases h
theorem vS{α:Type}{xs:List α}{i:Int}{v:α}(h:atI xs i=a7 v):∃j,seqIndex? i xs.length=a7 j/\xs[j]?=a7 v/\j<xs.length/\-(xs.length:Int)<=i/\i<xs.length:=by
 unfold atI at h;cases e:Nk xs.length i with
 |none=>rw[e]at h;cases h
 |some j=>rw[e]at h;obtain⟨h1,h2,a,d⟩:=AN e;exact⟨j,h1,h,h2,a,d⟩
theorem ar{α:Type}{xs:List α}{j:Nat}{v:α}(h:xs[j]?=a7 v):atI xs (j:Int)=a7 v:=by
 have L:j<xs.length:=(A6.mp h).1;have e:Nk xs.length (j:Int)=a7 j:=by unfold Nk;rw[o8 (by lia),o8<|by lia];simp
 unfold atI;rw[e];exact h
def vU(b:ge):Prop:=∀o i,subscripted b b7 o i=operate [o,i] (k9 o i)
def ME(X:Cx)(r:R2):Prop:=∀(a e:ge) (p:List (c9×d5)) (s:f6) (σ:St) (H:Hp) (x y:V) (v u:b8) (Q:VK),t9 X p σ H s->aL x v->aL y u->r x y H Q ->subscripted e b7 v u=operate [v,u] (k9 v u)->f9 (g7 X.prog X.w) X.A (subscriptTail a e v u) (EP X p σ Q) X.xe s
def J1(X:Cx)(id:String)(r:V->List V->Hp->VK->Prop):Prop:=∀(p:List (c9×d5)) (s:f6) (σ:St) (H:Hp) (x:V) (xs:List V) (v:b8) (us:List b8) (Q:VK),t9 X p σ H s->aL x v->aw xs us->r x xs H Q ->f9 (g7 X.prog X.w) X.A (call (.builtin id)<|v::us) (EP X p σ Q) X.xe s
section
variable{X:Cx}{a b:ge}{ta tb:TE}{pos:Pos}
theorem ME.or(h:ME X r)(h':ME X r'):ME X (λx y H Q=>r x y H Q\/r' x y H Q):=by intro a e p s σ H x y v u Q I g i q hs;rcases q with q|q;exact h a e p s σ H x y v u Q I g i q hs;exact h' a e p s σ H x y v u Q I g i q hs
theorem pe_ix(i:ME X r)(f:PE X a ta)(d:PE X b tb)(hs:vU b):PE X (.Subscript a b pos) (Pg r ta tb):=by intro p s σ H Q I h;exact Subscript_<|binT f d I h λv u w x y c e g j q=>i a b p w σ c x y v u Q e g j q<|hs _ _
def rIxL(K:v4):R2:=λx y H Q=>∃p xs i v,x=.ref p/\y=.int i/\F7 K H p xs/\atI xs i=a7 v/\Q v H
def rIxT(K:v4):R2:=λx y H Q=>∃p xs i v,x=.ref p/\y=.int i/\B8 K H p xs/\atI xs i=a7 v/\Q v H
def rIxS:R2:=λx y H Q=>∃z i c,x=.str z/\y=.int i/\z.length<=sizeLine/\atI z.cps.toList i=a7 c/\Q (.str ⟨#[c]⟩) H
theorem Hq:ME X (rIxL X.K):=by
 intro c e a s σ H x y v u Q I B C h hs;obtain⟨p,xs,i,z,rfl,rfl,A,m,q⟩:=h;cases B;obtain⟨t,rfl⟩:=C;obtain⟨its,r,l,F⟩:=I.list A;obtain⟨j,h1,h2,D,g,k⟩:=vS m;obtain⟨w,d,b⟩:=r.get h2;have o:=r.length;have E:=ph;have n:EP X a σ Q w s:=⟨z,H,I,b,q⟩
 by_cases f:0<=i;have L:i.toNat=j:=by rw[seqIndex_of f k]at h1;exact C3 h1
 exact item_listR l.isList f (by lia) (by rw[L];simpa using d) n hs;have L:(i+(its.toArray.size:Int)).toNat=j:=by rw[seqIndex_neg (by lia) g]at h1;rw[A5,<-o];exact C3 h1
 exact subscriptTail_builtinR (x:=w) l.isList.typeIs slot_list_getitem.lookup (wpAny_getItem_list_neg (Q:=λr s'=>r=w/\EP X a σ Q r s') l.isList (by lia) (by rw[A5]<;>lia) (by lia) (by rw[L];simpa using d) ⟨rfl,n⟩) hs
theorem KH:ME X (rIxT X.K):=by
 intro c e a s σ H x y v u Q I m o h hs;obtain⟨p,xs,i,z,rfl,rfl,k,f,q⟩:=h;cases m;obtain⟨t,rfl⟩:=o;obtain⟨its,r,l,E⟩:=I.tuple k;obtain⟨j,h1,h2,A,B,C⟩:=vS f;obtain⟨w,d,b⟩:=r.get h2;have g:=r.length;have D:=ph;have n:EP X a σ Q w s:=⟨z,H,I,b,q⟩
 exact subscriptTail_builtinR (x:=w) l.typeIs slot_tuple_getitem.lookup (getItem_tuple (j:=j) (Q:=λr s'=>r=w/\EP X a σ Q r s') l (by lia) (by lia) (by rw[A5,<-g];exact h1) (by simpa using d) ⟨rfl,n⟩) hs
theorem KI:ME X rIxS:=by
 intro a e p s σ H x y v u Q I r m h hs;obtain⟨z,i,c,rfl,rfl,w,f,q⟩:=h;obtain⟨t,rfl⟩:=r;obtain⟨t',rfl⟩:=m;obtain⟨j,h1,h2,n,d,k⟩:=vS f;have g:z.cps.toList.length=z.length:=by simp[Str.length]
 rw[g]at h1 d k;have o:=ph;exact tail_any (typeIs_str s z t) slot_str_getitem.lookup (getItem_str (c:=c) (by have b:decide (i < -(2 ^ 63:Int))=b7:=dF_ (by lia);have l:decide (i ≥ 2 ^ 63)=b7:=dF_ (by lia);rw[b,l,Bool.or_false]) (by rw[h1];simpa using h2) ⟨.str ⟨#[c]⟩,H,I.tok _,⟨_,rfl⟩,q⟩) hs
def rIx(K:v4):R2:=λx y H Q=>rIxL K x y H Q\/rIxT K x y H Q\/rIxS x y H Q
theorem KJ:ME X (rIx X.K):=Hq.or<|KH.or KI
theorem yh(its:List b8)(n j:Nat)(u:b8):Mp (·.setIfInBounds j u) { cls:=.type "list",data:=.seq its.toArray n }={ cls:=.type "list",data:=.seq (its.set j u).toArray n }:=by simp[Mp]
theorem t9.lst(I:t9 X pins σ H s)(h:H p=a7 (.lst xs)):∃(its:List b8) (n:Nat),aw xs its/\s.heap.get? p=a7 { cls:=.type "list",data:=.seq its.toArray n }/\xs.length<=sizeLine:=by obtain⟨z,its,n,r,e⟩:=I.hok p _ h;exact⟨its,n,r,e,z⟩
theorem t9.lstUpd{pins:List (c9×d5)}{σ:St}{H:Hp}{s:f6}{p:c9}{xs ys:List V}{its its':List b8}{n a:Nat}{f:d5->d5}(I:t9 X pins σ H s)(h:H p=a7 (.lst xs))(B:s.heap.get? p=a7 { cls:=.type "list",data:=.seq its.toArray n }) (c:f { cls:=.type "list",data:=.seq its.toArray n }={ cls:=.type "list",data:=.seq its'.toArray a }) (r:aw ys its') (hz:ys.length<=sizeLine) (t:Nat):t9 X pins σ (x3 H p<|.lst ys) { s with heap:=s.heap.update p f,toks:=t }:=by
 have e:(s.heap.update p f).get? p=a7 { cls:=.type "list",data:=.seq its'.toArray a }:=by rw[L4 f B (by rw[c]<;>rfl),c]
 refine I.write (x:=p) (e:=p) (by rw[h];trivial) (.inl rfl) (λb u d q=>(Pa _ _<|z9 d).trans q) ⟨_,e⟩ ?_;exact⟨hz,its',a,r,e⟩
def rSetL:V->V->V->Hp->(Hp->Prop)->Prop:=λo i v H Q=>∃p xs k j,o=.ref p/\i=.int k/\H p=a7 (.lst xs)/\Nk xs.length k=a7 j/\Q (x3 H p<|.lst<|xs.set j v)
theorem CJ:PSet X rSetL:=by
 intro a s σ H o i v A y u Q I m l w h;obtain⟨p,xs,k,j,rfl,rfl,hp,L,q⟩:=h;cases m;obtain⟨t,rfl⟩:=l;obtain⟨its,n,r,B,z⟩:=I.lst hp;obtain⟨h1,h2,e,f⟩:=AN L;have g:=r.length;have x:=ph;have c:t9 X a σ (x3 H p<|.lst<|xs.set j v) { s with heap:=s.heap.update p (Mp (·.setIfInBounds j u)) }:=I.lstUpd hp B (yh its n j u) (r.set w j) (by rw[NE];exact z) s.toks;by_cases d:0<=k;have b:k.toNat=j:=by rw[seqIndex_of d f]at h1;exact C3 h1
 exact PySem.W.ki_setAt B d (by lia) (by rw[A5,<-g];exact f) (by rw[b];exact⟨_,c,q⟩);have b:(k+(its.toArray.size:Int)).toNat=j:=by rw[seqIndex_neg (by lia) e]at h1;rw[A5,<-g];exact C3 h1
 exact PySem.W.ki_setBack B (by lia) (by rw[A5,<-g];exact e) (by lia)<|by rw[b];exact⟨_,c,q⟩
theorem sT(lo hi:Option Int)(n:Nat):(l7 lo hi a8 n).1=((HT.sIx n 0 lo:Nat):Int)/\(l7 lo hi a8 n).2.1=((HT.sIx n n hi:Nat):Int)/\(l7 lo hi a8 n).2.2=1:=by
 refine⟨?_,?_,rfl⟩;cases lo with
 |none=>simp[l7,HT.sIx]
 |some i=>simp only[l7,HT.sIx,Option.getD_none,show (1:Int) > 0 by decide,s9];by_cases h:i<0;simp only[h,s9]<;>lia;simp only[h,r9]<;>lia
 cases hi with
 |none=>simp[l7,HT.sIx]
 |some i=>simp only[l7,HT.sIx,Option.getD_none,show (1:Int) > 0 by decide,s9];by_cases h:i<0;simp only[h,s9]<;>lia;simp only[h,r9]<;>lia
theorem pU(its:List b8)(lo hi:Option Int):slicePick its.toArray lo hi a8=((its.drop<|HT.sIx its.length 0 lo).take<|HT.sIx its.length its.length hi-HT.sIx its.length 0 lo).toArray:=by obtain⟨h1,h2,a⟩:=sT lo hi its.toArray.size;unfold slicePick;rw[h1,h2,a];simp only[sliceRange_one,pick_run,A5]<;>rfl
def rSlL(K:v4):V->Option Int->Option Int->Hp->VK->Prop:=λx l hi H Q=>∃a xs,x=.ref a/\F7 K H a xs/\∀p,H p=a8->Q (.ref p) (x3 H p<|.lst<|FF xs l hi)
theorem FV:Pq X (rSlL X.K):=by intro p s σ H x v f i l hi m Q I g hs d u h;obtain⟨a,xs,rfl,c,q⟩:=h;cases g;obtain⟨its,r,D,z⟩:=I.list c;have n:=r.length;refine⟨"list",_,slot_list_getitem.lookup,D.isList.typeIs,?_⟩;refine wpAny_getItem_list_slice D.isList hs d u .none (by simp) ?_ (by rw[A5]<;>lia);rw[pU,<-n];refine⟨.ref s.heap.objs.size,_,I.laid (t':=s.toks) (o:=.lst<|FF xs l hi) (λb e q=>x5 _ q) (v6 _) ?_,rfl,q _<|I.hok.fresh<|v6 _⟩;exact⟨F4 (nF xs l hi) z,_,0,(r.drop<|HT.sIx xs.length 0 l).take<|HT.sIx xs.length xs.length hi-HT.sIx xs.length 0 l,A8 _ rfl⟩
theorem uu:fF X (.builtin "len") (λxs H Q=>∃p ys,xs=[.ref p]/\(F7 X.K H p ys\/B8 X.K H p ys)/\Q (.int ys.length) H):=by intro b s σ H xs us Q I r h;obtain⟨p,ys,rfl,a,q⟩:=h;obtain⟨u,rfl,g⟩:=Ct r;cases g;have f:=ph;rcases a with a|a;obtain⟨its,r',l,z⟩:=I.list a;have n:=r'.length;exact Calls.call_len_list l.isList (by simp only[A5]<;>lia) ⟨.int ys.length,H,I.tok _,⟨s.toks+1,by rw[A5,n]⟩,q⟩;obtain⟨its,r',l,z⟩:=I.tuple a;have n:=r'.length;exact len_tuple l (by simp only[A5]<;>lia) ⟨.int ys.length,H,I.tok _,⟨s.toks+1,by rw[A5,n]⟩,q⟩
theorem ut:fF X (.builtin "len") (λxs H Q=>∃z,xs=[.str z]/\z.length<=sizeLine/\Q (.int z.length) H):=by intro p s σ H xs us Q I r h;obtain⟨z,rfl,b,q⟩:=h;obtain⟨u,rfl,t,rfl⟩:=Ct r;have f:=ph;exact len_str (by lia) ⟨.int z.length,H,I.tok _,⟨_,rfl⟩,q⟩
theorem fF.or(h:fF X f r)(h':fF X f r'):fF X f (λxs H Q=>r xs H Q\/r' xs H Q):=by intro p s σ H xs us Q I a q;rcases q with q|q;exact h p s σ H xs us Q I a q;exact h' p s σ H xs us Q I a q
theorem ur:fF X (.type "list") (λxs H Q=>∃p ys,xs=[.ref p]/\(F7 X.K H p ys\/B8 X.K H p ys)/\∀l,H l=a8->Q (.ref l) (x3 H l<|.lst ys)):=by
 intro d s σ H xs us Q I r h;obtain⟨p,ys,rfl,c,q⟩:=h;obtain⟨u,rfl,x⟩:=Ct r;cases x;have f:∀(its:List b8),aw ys its->ys.length<=sizeLine->∀(h':d6) (U:Nat),(∀b o',s.heap.get? b=a7 o'->h'.get? b=a7 o') -> h'.get? s.heap.objs.size=a7 { cls:=.type "list",dict:=a8,data:=.seq its.toArray U,slots:=#[] }->EP X d σ Q (.ref s.heap.objs.size) { s with heap:=h' }:=λits r' z h' U k e =>
  ⟨.ref s.heap.objs.size,_,I.laid (t':=s.toks) k (v6 _)<|show bJ X.prog X.w _ h' _ (.lst ys)from⟨z,its,U,r',e⟩,rfl,q _<|I.hok.fresh<|v6 _⟩
 rcases c with c|c;obtain⟨its,r',j,z⟩:=I.list c;have a:=r'.length;obtain⟨o,B,g,n,i⟩:=j.isList;exact call_list_seq p (.inl rfl) B g i (λh' U k e=>f its r' z h' U k e) (by simp only[A5]<;>lia);obtain⟨its,r',j,z⟩:=I.tuple c;have a:=r'.length;obtain⟨o,B,g,n,i⟩:=j;exact call_list_seq p (.inr rfl) B g i (λh' U k e=>f its r' z h' U k e)<|by simp only[A5]<;>lia
theorem qU:fF X (.type "tuple") (λxs H Q=>∃p ys,xs=[.ref p]/\((F7 X.K H p ys/\∀l,H l=a8->Q (.ref l) (x3 H l<|.tup ys))\/(B8 X.K H p ys/\Q (.ref p) H))):=by
 intro a s σ H xs us Q I r h;obtain⟨p,ys,rfl,h⟩:=h;obtain⟨u,rfl,x⟩:=Ct r;cases x;rcases h with⟨c,q⟩|⟨c,q⟩
 obtain⟨its,r',d,z⟩:=I.list c;have n:=r'.length;refine call_tuple_list d.isList (λh' k=>?_) (by simp only[A5]<;>lia);have f:t9 X a σ H { s with heap:=h' }:=I.kept (t':=s.toks) k;have g:t9 X a σ (x3 H h'.objs.size<|.tup ys) { s with heap:=h'.push { cls:=.type "tuple",data:=.seq its.toArray } }:=f.laid (t':=s.toks) (λb o e=>x5 _ e) (v6 _)<|show bJ X.prog X.w _ _ _ (.tup ys)from⟨z,its,r',Fa.new _ _⟩;exact⟨.ref h'.objs.size,_,g,rfl,q _<|f.hok.fresh<|v6 _⟩;obtain⟨its,r',d,z⟩:=I.tuple c;exact call_tuple_same d ⟨.ref p,H,I,rfl,q⟩
def Rn(K:v4)(T:String)(x:V)(H:Hp):Prop:=match x with
 |.str _=>T = "str"
 |.int _=>T = "int"
 |.ref p=>(T = "list"/\∃xs,F7 K H p xs)\/(T = "tuple"/\∃o,K.lookup p=a7 o/\o.cls=.type "tuple"/\o.dict=a8) \/(T = "dict"/\((∃kvs,H p=a7 (.dK kvs))\/∃kvs,H p=a7 (.dT kvs)))\/(T = "set"/\∃S n,H p=a7 (.set S n))
 |_=>False
theorem Fc(I:t9 X pins σ H s)(r:aL x v)(y:Rn X.K T x H):s.TypeIs v T/\∀a,v=.ref a->∃ob,s.heap.get? a=a7 ob/\ob.dict=a8:=by
 cases x with
 |str z=>obtain⟨t,rfl⟩:=r;cases (show T = "str" from y);exact⟨typeIs_str s z t,λ_ e=>nomatch e⟩
 |int i=>obtain⟨t,rfl⟩:=r;cases (show T = "int" from y);exact⟨typeIs_int s i t,λ_ e=>nomatch e⟩
 |ref p =>
  cases r;rcases y with⟨rfl,xs,q⟩|⟨rfl,o,k,h,d⟩|⟨rfl,k⟩|⟨rfl,S,n,k⟩
  obtain⟨its,_,f,_⟩:=I.list q;refine⟨f.isList.typeIs,λa e=>?_⟩;cases e;obtain⟨o,n,e,c,d,_⟩:=f;exact⟨o,e,d⟩;refine⟨⟨o,I.kIn p o k,h⟩,λa e=>?_⟩;cases e;exact⟨o,I.kIn _ o k,d⟩;have z:∃o,s.heap.get? p=a7 o/\o.ExactDict:=by
   rcases k with⟨kvs,k⟩|⟨kvs,k⟩
   obtain⟨_,_,_,_,o,_,_,e,b,_⟩:=I.hok p _ k;exact⟨o,e,b⟩;obtain⟨_,_,_,_,o,_,_,e,b,_⟩:=I.hok p _ k;exact⟨o,e,b⟩
  obtain⟨o,e,b⟩:=z;refine⟨⟨o,e,b.1⟩,λa l=>?_⟩;cases l;exact⟨o,e,b.2.1⟩;obtain⟨o,_,_,_,e,b,_⟩:=I.hok p _ k;refine⟨⟨o,e,b.1⟩,λa l=>?_⟩;cases l;exact⟨o,e,b.2.1⟩
 |_=>exact Ny y
def tBM0(K:v4)(T:String)(r:V->List V->Hp->VK->Prop)(e:TE):TE:=λσ H Q=>e σ H λx a=>Rn K T x a/\r x [] a Q
def tBM(K:v4)(T:String)(r:V->List V->Hp->VK->Prop)(e:TE)(t:TA):TE:=λσ H Q=>e σ H λx a=>Rn K T x a/\t σ a λxs b=>r x xs b Q
variable{o e:ge}{es:List ge}{to:TE}{t:TA}{name:b9}{apos cpos:Pos}{T id:String}{r:V->List V->Hp->VK->Prop}
theorem JD(f:PlainAttrs T)(slot:Slot T name id)(y:l8 (.builtin id)=pure (.type "method_descriptor"))(m:J1 X id r)(B:PE X o to)(e:m3 o name X.env (eval o X.env)=eval o X.env:=by rfl) (a:(apos.endLine==cpos.line)=a9:=by rfl):PE X (.Call (.Attribute o name apos) [] [] cpos) (tBM0 X.K T r to):=by intro p s σ H Q I h;refine RQ e a<|w9 (B p s σ H _ I h) ?_;rintro v g ⟨x,d,b,c,t,q⟩;obtain⟨h1,h2⟩:=Fc b c t;exact⟨T,id,f,slot,y,h1,h2,Od rfl<|RD<|m p g σ d x [] v [] Q b c .nil q⟩
theorem JE(q:PlainAttrs T)(slot:Slot T name id)(y:l8 (.builtin id)=pure (.type "method_descriptor"))(l:J1 X id r)(B:PE X o to)(k:PA X (e::es) t)(b:m3 o name X.env (eval o X.env)=eval o X.env:=by rfl)(w:((g9 cpos<|h7 (e::es) X.env).all (λx=>!x.1)&&(m5 cpos<|m6 [] X.env).all (λx=>x.1.isSome) && decide ((e::es).length+([]:List m7).length+(if ([]:List m7).isEmpty then 0 else 1)<30))=a9:=by rfl)(c:(apos.endLine==cpos.line)=a9:=by rfl) (hs:h7 (e::es) X.env=(b7,eval e X.env)::h7 es X.env:=by rfl) (n:(g9 cpos<|h7 es X.env).any (·.1)=b7:=by rfl):PE X (.Call (.Attribute o name apos) (e::es) [] cpos) (tBM X.K T r to t):=by intro p s σ H Q I h;refine Qi b w c rfl<|w9 (B p s σ H _ I h) ?_;rintro v D ⟨x,g,d,f,F,u⟩;obtain⟨h1,h2⟩:=Fc d f F;refine⟨T,id,q,slot,y,h1,h2,?_⟩;have A:=k cpos p D σ g _ d u;rw[hs]at A ⊢;refine Od (by show (b7||(g9 cpos<|h7 es X.env).any (·.1))=b7;rw[n]<;>rfl)<|Qf ?_;refine w9 A ?_;rintro us E ⟨vs,i,j,C,z⟩;exact l p E σ i x vs v us Q j f C z
/- xs.append(e),list.index on a module's tuple .. are J1 facts of 06m -/
end
def Qu(X:Cx)(id:String)(r:V->List V->Hp->VK->Prop):Prop:=∀(p:List (c9×d5)) (s:f6) (σ:St) (H:Hp) (x:V) (xs:List V) (v:b8) (us:List b8) (Q:VK),t9 X p σ H s->aL x v->aw xs us->r x xs H Q ->f9 (g7 X.prog X.w) X.A (call (.builtin id)<|v::us) (EP X p σ Q) X.xe s
theorem aw.one(h:aw [x] us):∃u,us=[u]/\aL x u:=by
 cases h with
 |cons r t=>cases t;exact⟨_,rfl,r⟩
theorem aw.two(h:aw [x,y] us):∃u v,us=[u,v]/\aL x u/\aL y v:=by
 cases h with
 |cons r t=>obtain⟨v,e,q⟩:=aw.one t;subst e;exact⟨_,v,rfl,r,q⟩
theorem aw.zero:∀{us:List b8},aw [] us->us=[]
 |_,.nil=>rfl
theorem aw.dropLast(h:aw xs us):aw xs.dropLast us.dropLast:=by
 induction h with
 |nil=>exact .nil
 |cons r t i =>
  cases t with
  |nil=>exact .nil
  |cons q t'=>exact .cons r i
theorem aw.reverse(h:aw xs us):aw xs.reverse us.reverse:=by
 induction h with
 |nil=>exact .nil
 |cons r t i=>rw[P7,P7];exact aw.append i<|.cons r .nil
theorem yz{α:Type}(l:List α):l.eraseIdx (l.length-1)=l.dropLast:=by
 induction l with
 |nil=>rfl
 |cons a r i =>
  cases r with
  |nil=>rfl
  |cons b r =>
   have e:(a::b::r).length-1=((b::r).length-1)+1:=by have h1:(a::b::r).length=r.length+2:=rfl;have h2:(b::r).length=r.length+1:=rfl;lia
   rw[e,Q4,i]
   all_goals rfl
theorem t9.lset{its its':List b8}{n:Nat}{f:Array b8->Array b8}{t':Nat}(I:t9 X pins σ H s)(h:H l=a7 (.lst xs))(e:s.heap.get? l=a7 { cls:=.type "list",data:=.seq its.toArray n }) (a:f its.toArray=its'.toArray) (c:aw ys its') (hz:ys.length<=sizeLine):t9 X pins σ (x3 H l<|.lst ys) { s with heap:=s.heap.update l<|Mp f,toks:=t' }:=by have q:=PySem.IsL.update e f;rw[a]at q;refine I.write (x:=l) (e:=l) (by rw[h];exact trivial) (.inl rfl) (λb u d g=>(Pa s.heap (Mp f)<|z9 d).trans g) ⟨_,q⟩ ?_;exact⟨hz,its',_,c,q⟩
theorem t9.lnew(I:t9 X pins σ H s)(c:aw ys its)(hz:ys.length<=sizeLine):t9 X pins σ (x3 H s.heap.objs.size<|.lst ys) { s with heap:=s.heap.push { cls:=.type "list",data:=.seq its.toArray },toks:=t' }:=I.laid (λ_ _ q=>x5 _ q) (v6 _) ⟨hz,its,0,c,A8 _ rfl⟩
theorem t9.fresh(I:t9 X pins σ H s):H s.heap.objs.size=a8:=I.hok.fresh<|v6 _
theorem t9.lstM(I:t9 X pins σ H s)(h:H l=a7 (.lst xs)):xs.length<=sizeLine/\∃(its:List b8) (n:Nat),aw xs its/\xs.length=its.length/\s.heap.get? l=a7 { cls:=.type "list",data:=.seq its.toArray n }:=by obtain⟨z,its,n,r,e⟩:=I.hok l _ h;exact⟨z,its,n,r,r.length,e⟩
theorem Dk(h:n<=sizeLine):RU n=b7:=by unfold RU;exact dF_<|by lia
def Gd:V->List V->Hp->VK->Prop:=λx vs H Q=>∃l xs y,x=.ref l/\vs=[y]/\H l=a7 (.lst xs)/\xs.length<sizeLine/\Q .non (x3 H l<|.lst<|xs++[y])
theorem Am:Qu X "list.append" Gd:=by intro p s σ H x vs v us Q I g d h;obtain⟨l,xs,y,rfl,rfl,a,c,q⟩:=h;cases g;obtain⟨u,rfl,T⟩:=d.one;obtain⟨z,its,n,r,b,e⟩:=I.lstM a;refine call_meets F.slot_list_append ⟨_,e,rfl⟩ F.entry_list_append (F.args_list_append_2 _ _) (PySem.list_append l its.toArray n u<|by rw[A5];lia) ⟨e,?_⟩;refine⟨.non,_,I.lset (its':=its++[u]) a e (by simp) (r.append<|.cons T .nil) ?_,rfl,q⟩;rw[A3,F3];lia
def Gc:V->List V->Hp->VK->Prop:=λx vs H Q=>∃l b xs s,x=.ref l/\vs=[.ref b]/\H l=a7 (.lst xs)/\H b=a7 (.lst s)/\xs.length+s.length<=sizeLine/\Q .non (x3 H l<|.lst<|xs++s)
theorem Al:Qu X "list.extend" Gc:=by
 intro p s σ H x vs v us Q I k j h;obtain⟨l,b,xs,A,rfl,rfl,c,hB,w,q⟩:=h;cases k;obtain⟨u,rfl,T⟩:=j.one;cases T;obtain⟨z,its,n,r,t,e⟩:=I.lstM c;obtain⟨y,i,o,m,f,d⟩:=I.lstM hB;have a:its.toArray.size+i.toArray.size<=sizeLine:=by rw[A5,A5];lia
 have g:¬(!its.toArray.isEmpty&&RU (its.toArray.size+i.toArray.size))=a9:=by rw[Dk a,PL];exact MA
 refine call_meets F.slot_list_extend ⟨_,e,rfl⟩ F.entry_list_extend (F.args_list_extend_2 _ _) (AutoSeq1.list_extend_list_list_0 l its.toArray n b i.toArray o g (by rw[A5];lia)<|by lia) ⟨e,d,?_⟩;refine⟨.non,_,I.lset (its':=its++i) c e (by simp) (r.append m) ?_,rfl,q⟩;rw[A3];lia
def rPop:V->List V->Hp->VK->Prop:=λx vs H Q=>∃l xs y,x=.ref l/\vs=[]/\H l=a7 (.lst xs)/\xs[xs.length-1]?=a7 y/\Q y (x3 H l<|.lst xs.dropLast)
theorem Kb:Qu X "list.pop" rPop:=by
 intro p s σ H x vs v us Q I j i h;obtain⟨l,xs,y,rfl,rfl,c,f,q⟩:=h;cases j;have a:=i.zero;subst a;obtain⟨z,its,n,r,g,e⟩:=I.lstM c;obtain⟨u,d,T⟩:=r.get f;have b:its.toArray[its.toArray.size-1]?=a7 u:=by show its.toArray[its.length-1]?=a7 u;rw[<-G5,<-g];exact d
 refine call_meets F.slot_list_pop ⟨_,e,rfl⟩ F.entry_list_pop (F.args_list_pop_1 _) (MeetsSeq.list_pop_last l its.toArray n u b<|by rw[A5];lia) ⟨e,?_⟩;refine⟨y,_,I.lset (its':=its.dropLast) c e ?_ r.dropLast ?_,T,q⟩;show its.toArray.eraseIdxIfInBounds (its.toArray.size-1)=its.dropLast.toArray;rw[A5,List.eraseIdxIfInBounds_toArray,yz];rw[List.length_dropLast];lia
def CO:V->List V->Hp->VK->Prop:=λx vs H Q=>∃l xs,x=.ref l/\vs=[]/\H l=a7 (.lst xs)/\Q .non (x3 H l<|.lst xs.reverse)
theorem yd:Qu X "list.reverse" CO:=by intro p s σ H x vs v us Q I g d h;obtain⟨l,xs,rfl,rfl,b,q⟩:=h;cases g;have a:=d.zero;subst a;obtain⟨z,its,n,r,c,e⟩:=I.lstM b;refine call_meets F.slot_list_reverse ⟨_,e,rfl⟩ F.entry_list_reverse (F.args_list_reverse_1 _) (AutoSeq1.list_reverse_list_0 l its.toArray n<|by rw[A5];lia) ⟨e,?_⟩;refine⟨.non,_,I.lset (its':=its.reverse) b e (by simp) r.reverse ?_,rfl,q⟩;rw[ACg];lia
def rCat:R2:=λx y H Q=>∃l b xs s,x=.ref l/\y=.ref b/\H l=a7 (.lst xs)/\H b=a7 (.lst s)/\xs.length+s.length<=sizeLine/\∀p,H p=a8->Q (.ref p) (x3 H p<|.lst<|xs++s)
theorem JN:D7 X (j3 .Add) rCat:=by
 intro p s σ H x y v u Q I g j h;obtain⟨l,b,xs,A,rfl,rfl,d,hB,o,q⟩:=h;cases g;cases j;obtain⟨z,its,n,r,k,e⟩:=I.lstM d;obtain⟨w,i,t,m,f,a⟩:=I.lstM hB;refine PySem.P.add_list e a ?_ (by rw[A5,A5];lia);have c:its.toArray++i.toArray=(its++i).toArray:=by simp
 rw[c];exact⟨.ref _,_,I.lnew (t':=s.toks) (r.append m) (by rw[A3];lia),rfl,q _ I.fresh⟩
end L2
namespace Att
open PySem PySem.W PySem.Calls PyProof.Rows
theorem nv:∀(ns:List Int) (vs:List b8),WellAll P h vs (ns.map WData.int)->IntsAre vs ns:=by
 intro ns;induction ns with
 |nil=>intro vs w;rw[List.map_nil]at w;cases w;exact .nil
 |cons n ns i =>
  intro vs w;rw[C2]at w;cases w with
  |cons a b=>cases a;exact .cons _ _<|i _ b
theorem zI{l:OpenLaw}{n:Nat}(o:l.most=a7 n){P:Params}{h:d6}{args:List WData}{s:List b8}(e:l.row.toRowW.claim.pre args=a9) (i:WellAll P h s args):∃a vs ns,s=[AB6 a]/\args=[WData.list<|ns.map WData.int]/\h.get? a=a7 { cls:=.type "list",data:=.seq vs.toArray }/\IntsAre vs ns/\ns.length<=n:=by
 have g:WShape.hasAll [] args [.list .int]=a9:=(pre_splitW e).1;have j:l.pre.holds [] { args:=args }=a9:=(pre_splitW e).2;obtain⟨d,r,rfl,h1,h2⟩:=hasAllW_cons g;obtain rfl:=hasAllW_nil h2;obtain⟨xs,rfl,m⟩:=hasW_list h1;obtain⟨ns,rfl⟩:=items_int m;have c:ns.length<=n:=by
  unfold OpenLaw.pre at j;have f:(WTm.not<|.lt (.lit<|.int (n:Int))<|.len<|.arg 0).holds [] { args:=[.list<|ns.map .int] }=a9:=by have f:=(holds_andW j).1;rw[o]at f;exact f
  have k:=condW_of f<|w_not<|w_lt w_lit<|w_len_list<|w_arg rfl;rw[v7]at k;refine Nat.le_of_not_lt λq=>?_;have p:(n:Int)<((ns.length:Nat):Int):=by lia
  first
   |(rw[dT_ p]at k;exact p7 k (by decide))
   |(simp at k;lia)
 cases i with
 |cons K w =>
  cases w;cases K with
  |list B b=>exact⟨_,_,ns,rfl,rfl,B,nv ns _ b,c⟩
theorem zR(l:OpenLaw)(args:List WData):l.row.toRowW.claim.post args (.bool a9) args=a9:=postW_of (r:=l.row.toRowW) (X:=(a9==a9))
  (show WShape.has [] (.bool a9) .bool=a9 by first|rfl|decide|simp[WShape.has,WShape.arms,WShape.armsAll])
  (show (WTm.eq .res<|.lit<|.bool a9).value [] { args:=args,res:=a7<|.bool a9,after:=args }=a7 (.bool<|a9==a9)from w_eq_bool (w_res rfl) w_lit) rfl
theorem attach_call{l:OpenLaw}{n:Nat}{q:c8}{e:List b9}{P:(b9->Option b8)->d6->Prop}{YP:c7->d6->Prop}{d:DefRec}(A:l.most=a7 n) (i:d.params.defaults=[])(c:∀(w:c7) (s₀ s₁:f6) (mg mb:b9->Option b8) (fa:c9) (o:d5) (pm cd doc:b8) (a:c9) (vs:List b8) (ns:List Int),Ground q e [] P w s₀ mg mb s₁.heap->YP w s₁.heap -> s₁.heap.get? fa=a7 o->o.data=.func (docDef d.name d.params d.body d.scope pm cd doc)->s₁.heap.CodeRec cd d.name->mg d.name=a7 (.ref fa) ->s₁.heap.get? a=a7 { cls:=.type "list",data:=.seq vs.toArray }->IntsAre vs ns->ns.length<=n->s₁.gens = #[] ->j8 (g7 l.prog w) callerA (.call (.ref fa) ⟨[.ref a],[]⟩) (λr s'=>r=.ok (.ret<|.bool a9)/\OldK s₁.heap s'.heap/\s'.os=s₁.os/\f8 s'.gens) s₁):WalkO q e P YP l.row.toRowW d [] (λf vs=>PySem.call f vs):=by intro w s₀ s₁ mg mb G Y fa o pm cd doc T kV B u g D k R O v F b y E m x;obtain rfl:T=.none:=Dflts.none D i;obtain rfl:kV=.none:=Dflts.noKw D;obtain⟨a,vs,ns,rfl,rfl,j,s,h⟩:=zI A b m;refine enter_call<|OV (c w s₀ s₁ mg mb fa o pm cd doc a vs ns G Y B (fd_plain u) g k j s h R) λr s' C=>?_;obtain⟨rfl,h2,p,t⟩:=C;exact⟨.inl ⟨.bool a9,.bool a9,[],rfl,λ_=>rfl,.bool a9,zR l _,λ_=>⟨QP,λ_ z=>(nomatch z)⟩⟩,h2,p,t⟩
noncomputable def wS(h:d6):d6:={ h with objs:=#[] }
theorem jS(h:d6)(b:c9):(wS h).get? b=a8:=by
 cases e:(wS h).get? b with
 |none=>rfl
 |some o=>exact p7 (z6 e)<|ND _
noncomputable def ledger(h:d6)(L d:c9):List (c9×d5):=(D0 h.objs.size).filterMap λa=>if a=L\/a=d then a8 else(h.get? a).map λo=>(a,o)
theorem mem_ledger:(a,o)∈ledger h L d↔a≠L/\a≠d/\h.get? a=a7 o:=by unfold ledger;rw[Qa];constructor;rintro⟨b,_,e⟩;split at e;cases e;rename_i c;obtain⟨o',B,f⟩:=MQ.mp e;cases f;exact⟨λq=>c<|.inl q,λq=>c<|.inr q,B⟩;rintro⟨n1,n2,B⟩;refine⟨a,I0.mpr<|z6 B,?_⟩;rw[p4<|show ¬(a=L\/a=d)from λq=>q.elim n1 n2,B]<;>rfl
theorem news_ledger(b:d≠L)(B:h.get? d=a7 od):News (wS h) L h ([]++(d,od)::ledger h L d):=by rintro⟨a,o⟩ hp;rcases A1.mp hp with e|hp;cases e;exact⟨B,b,jS _ _⟩;obtain⟨n,c,e⟩:=mem_ledger.mp hp;exact⟨e,n,jS _ _⟩
theorem fr_all(n:h.Ns L m):Fr (wS h) L h m:=⟨n,λb o e=>(by rw[jS]at e;cases e),B5 _⟩
end Att
namespace L2
open PySem PySem.Spec PyProof.Rows
theorem rH:∀{vs:List b8}{ns:List Int},IntsAre vs ns->aw (ns.map V.int) vs
 |_,_,.nil=>.nil
 |_,_,.cons n t h=>.cons ⟨t,rfl⟩<|rH h
def Only(H:Hp):Prop:=∀b,H b=a8\/∃o xs,H b=a7 (.frz o<|.lst xs)
theorem DC{P:c8}{w:c7}{K:v4}{mg mb:b9->Option b8}{CX:Nv}{k:Nat}{I a:c9}{R:j7}{x:b9}{sp:Sp}{s₁:f6}{vs:List b8}{ns:List Int}(O:K.In s₁.heap) (y:s₁.heap.Ns d9 mg) (c:s₁.heap.Ns builtinsNs mb) (J:∀x:b9,x≠"__name__"->mb x=e7 x) (t:s₁.heap.NoLimit) (hg:s₁.gens = #[])(D:s₁.heap.get? a=a7 { cls:=.type "list",data:=.seq vs.toArray }) (hi:IntsAre vs ns) (U:ns.length<=sizeLine) (hr:Room k callerA)(F:∀base:d6,K.In base->base.Ns d9 mg->FnOk P w K mg base CX k I R [x] sp) (j:∀(s:f6) (u:b8),BindsTo s R ⟨[u],[]⟩ [(x,u)])(M:∀H:Hp,Only H->F7 K H a (ns.map V.int)->sp [.ref a] H (λv _=>v=.bl a9) λ_ _ _=>False)(X:∀H e s',CX [] H s₁ (λ_ _ _=>False) e s'->False):j8 (g7 P w) callerA (.call (.ref I) ⟨[.ref a],[]⟩) (λr s'=>r=.ok (.ret<|.bool a9)/\OldK s₁.heap s'.heap/\s'.os=s₁.os/\f8 s'.gens) s₁:=by
 have W:=rH hi;have C:=hi.length
 -- from an abstract heap in which nothing but the script may be tracked
 have i:∀H:Hp,Only H->F7 K H a (ns.map V.int)->D8 P w H s₁.heap->(∀b,H b≠a8->b=a)->(H a≠a8->K.lookup a=a8) -> j8 (g7 P w) callerA (.call (.ref I) ⟨[.ref a],[]⟩) (λr s'=>r=.ok (.ret<|.bool a9)/\OldK s₁.heap s'.heap/\s'.os=s₁.os/\f8 s'.gens) s₁:=by
  intro H T hS A S hK;have f:∀{b:c9}{o:d5},s₁.heap.get? b=a7 o->H b=a8->(Eh s₁.heap H).get? b=a7 o:=λe n=>Eg e n;have N:∀{b:c9}{o:d5}{es:Array m8}{ep:Nat},s₁.heap.get? b=a7 o->o.data=.dict es ep->H b=a8:=λ{b o es ep} e d=>by
   cases q:H b with
   |none=>rfl
   |some u=>have E:b=a:=S b (by rw[q];simp);subst E;rw[D]at e;cases e;have Z:Data.seq vs.toArray _=Data.dict es ep:=d;cases Z
  have g:∀{b:c9}{m:b9->Option b8},s₁.heap.Ns b m->(Eh s₁.heap H).Ns b m:=λ{b m} ⟨o,es,ep,e,d,r⟩=>⟨o,es,ep,f e<|N e d,d,r⟩
  have p:K.In (Eh s₁.heap H):=λb o e=>f (O b o e) (by
   cases q:H b with
   |none=>rfl
   |some u=>have E:b=a:=S b (by rw[q];simp);subst E;rw[hK<|by rw[q];simp]at e;cases e)
  have hM:Mod K mg (Eh s₁.heap H):=⟨p,g y,⟨mb,g c,J⟩,let ⟨mc,h1,h2⟩:=t;⟨mc,g h1,h2⟩⟩
  have e0:Env0 P w K mg (Eh s₁.heap H) callerA [] s₁ H:=⟨rfl,hM,λb o e=>GF e,Nat.le_of_eq<|AW _ _,trivial,λb c=>p7 (show b∈([]:List c9)from c) (by simp),A,.of_eq hg⟩
  refine OV ((F _ p<|g y).run callerA [] s₁ H ⟨[.ref a],[]⟩ [.ref a] [.ref a] _ _ hr e0 (j s₁<|.ref a) (.cons rfl .nil)<|M H T hS) λr s' h=>?_;cases r with
  |error e=>exact(X H e s' h).elim
  |ok fl =>
   cases fl with
   |next=>exact Ny h
   |brk=>exact Ny h
   |cont=>exact Ny h
   |ret u =>
    obtain⟨v,H',os,l,Y,B,r',q⟩:=h;have q':v=.bl a9:=q;subst q';obtain rfl:u=Nz a9:=r';refine⟨rfl,OldK.of_keep λb o e=>?_,os,l⟩;cases q:H b with
    |none=>exact Y.keep b o e q (by intro z;exact p7 (show b∈([]:List c9)from z)<|by simp)<|by simp
    |some u =>
     rcases T b with z|⟨ob,xs,z⟩
     rw[q]at z;cases z;have z2:=Y.frzs b ob _ z;obtain⟨Q,_⟩:=A b _ z;obtain⟨e2,_⟩:=B b _ z2;rw[e]at Q;cases Q;exact e2
 cases L:K.lookup a with
 |some o =>
  -- the script is one of the module's own objects
  have e:=O a o L;rw[D]at e;cases e;refine i (λ_=>a8) (λ_=>.inl rfl) (.inr ⟨_,vs.toArray,_,L,rfl,rfl,rfl,by rw[A5,C];exact U,by simpa using W⟩) (λb u z=>by have G:(a8:Option HO)=a7 u:=z;cases G) (λb z=>p7 rfl z) λz=>p7 rfl z
 |none=>refine i (λb=>if b=a then a7 (.frz { cls:=.type "list",data:=.seq vs.toArray }<|.lst<|ns.map V.int)else a8) (λb=>?_) (.inl<|.inr ⟨{ cls:=.type "list",data:=.seq vs.toArray },o8 rfl⟩) (λb u z=>?_) (λb z=>?_) λ_=>L;by_cases c:b=a;exact .inr ⟨_,_,o8 c⟩;exact .inl<|p4 c;by_cases c:b=a;have G:=(o8 c).symm.trans z;cases G;subst c;exact⟨D,by rw[v7];exact U,vs,_,W,D⟩;have G:=(p4 c).symm.trans z;cases G;by_cases c:b=a;exact c;exact p7 (p4 c) z
noncomputable abbrev KOf{K:v4}{h:d6}(_:K.In h):v4:=K
theorem walk_of{l:PySem.W.OpenLaw}{n k:Nat}{q:c8}{j:List b9}{P:(b9->Option b8)->d6->Prop}{YP:c7->d6->Prop}{d:DefRec}{K:Params->v4}{CX:c7->Nv}{sp:c7->Sp}{x:b9}(J:l.most=a7 n) (t:n<=sizeLine) (p:d.params.defaults=[]) (L:Room k callerA)(D:∀(w:c7) (h:d6),YP w h->(K w.params).In h)(F:∀(w:c7) (mg:b9->Option b8) (fa:c9) (h:d6),(K w.params).In h->h.Ns d9 mg->mg d.name=a7 (.ref fa) -> ∃fd:j7,(∀(s:f6) (u:b8),BindsTo s fd ⟨[u],[]⟩ [(x,u)]) /\∀base:d6,(K w.params).In base->base.Ns d9 mg->FnOk l.prog w (K w.params) mg base (CX w) k fa fd [x] (sp w))(z:∀(w:c7) (H:Hp) (a:c9) (ns:List Int),ns.length<=n->Only H->F7 (K w.params) H a (ns.map V.int)->sp w [.ref a] H (λv _=>v=.bl a9) λ_ _ _=>False)(X:∀(w:c7) (H:Hp) (s:f6) (e:b8) (s':f6),CX w [] H s (λ_ _ _=>False) e s'->False):PySem.W.WalkO q j P YP l.row.toRowW d [] (λf vs=>PySem.call f vs):=by refine Att.attach_call J p λw A s₁ mg mb fa o U M B a vs ns G Y Q N I r m i c R=>?_;have y:=D w _ Y;obtain⟨fd,E,C⟩:=F w mg fa _ y G.T.g r;exact DC y G.T.g G.T.b G.T.builtins G.T.nolimit R m i (F4 c t) L C E (λH O S=>z w H a ns c O S) λH e s'=>X w H s₁ e s'
noncomputable def iT(s:i3):Arguments:=match s with
 |.FunctionDef _ a _ _ _ _ _ _ _ _=>a
 |_=>{ posonlyargs:=[],args:=[],vararg:=a8,kwonlyargs:=[],kw_defaults:=[],kwarg:=a8,defaults:=[] }
noncomputable def bY(s:i3):List i3:=match s with
 |.FunctionDef _ _ b _ _ _ _ _ _ _=>b
 |_=>[]
noncomputable def az(s:i3):f7:=match s with
 |.FunctionDef _ _ _ _ _ _ sc _ _ _=>sc
 |_=>{ kind:=.function,names:=[],isGenerator:=b7,isCoroutine:=b7 }
abbrev K9:Nv:=λ_ _ _ _ _ _=>False
abbrev E0:XK:=λ_ _ _=>False
theorem pass0:Cb K9 X E0:=λ_ _ _ _ _ _ _ h=>h.elim
structure M9(K:v4)(x qual:b9)(st:i3)(f:c9)(fd:j7):Prop where
 ex:∃(oc:b8) (od:Option c9) (kV doc pm:b8) (an:Option c9) (cdv ct:b8) (osl:Array (Option b8)),fd=NM x qual (iT st) (bY st) (az st) .none kV doc pm an cdv ct/\K.lookup f=a7 ⟨oc,od,.func fd,osl⟩/\QA K cdv qual=a9
 kp:N7 K (.ref f)=a9
theorem M9.ok{P:c8}{w:c7}{K:v4}{mg:b9->Option b8}{base:d6}{x l:b9}{st:i3}{f:c9}{a:j7}{N ps:List b9}{k:Nat}{sp:Sp}(F:M9 K x l st f a)(S:FnScope N ps (az st))(B:∀vs H Q E,sp vs H Q E->vs.length=ps.length)(y:∀(cdv:b8) (A:e8) (outer:List Env) (s:f6) (H:Hp) (vs:List V) (Q:VK) (E:XK),Room k (A.deeper<|k5 l (az st) s.heap.objs.size f cdv)->sp vs H Q E -> ∃t,K8 (yJ K9 P w K mg base N l (az st) f cdv A outer s H E).nox (bY st) t/\t { nx:=λ_ H'=>Q .non H',rt:=Q } (start N vs) H):FnOk P w K mg base K9 (k+1) f a ps sp:=by obtain⟨c,j,kV,i,U,M,cdv,R,G,rfl,b,d⟩:=F.ex;refine fn_of b d S B λA outer s H vs Q E r z=>?_;obtain⟨t,h,q⟩:=y cdv A outer s H vs Q E r z;exact⟨t,h.nox,q⟩
theorem M9.binds{K:v4}{x l:b9}{st:i3}{f:c9}{d:j7}{ps:List b9}(F:M9 K x l st f d)(h:∀(kV doc pm:b8) (an:Option c9) (cdv ct:b8) (us:List b8),us.length=ps.length->bindArgs (NM x l (iT st) (bY st) (az st) .none kV doc pm an cdv ct) ⟨us,[]⟩=pure (ps.zip us)):uC K d ps []:=by obtain⟨c,j,kV,doc,pm,an,cdv,ct,G,rfl,b,a⟩:=F.ex;exact .all<|h kV doc pm an cdv ct
theorem Lg{K:v4}{x q:b9}{st:i3}{f:c9}{o:b8}{j M:Option c9}{G:Array (Option b8)}{kV i U v R:b8}(l:K.lookup f=a7 ⟨o,j,.func<|NM x q (iT st) (bY st) (az st) .none kV i U M v R,G⟩)(c:QA K v q=a9) (k:N7 K (.ref f)=a9):M9 K x q st f (NM x q (iT st) (bY st) (az st) .none kV i U M v R):=⟨⟨o,j,kV,i,U,M,v,R,G,rfl,l,c⟩,k⟩
theorem av(h:n<=1000):n<sizeLine:=Nat.lt_of_le_of_lt h<|by decide
theorem pv(i:Nat)(h:X.N[i]?=a7 x:=by rfl)(c:Om X.env.scope x:=by first|exact Or.inl rfl|exact Or.inr (Or.inl rfl)|exact Or.inr<|Or.inr rfl)(a:(x==("__debug__":b9))=b7:=by decide)(d:(x==("__classdict__":b9))=b7:=by decide):PE X (.Name x pos) (tVar i):=Fk h c a d
theorem bR{A B:Prop}(h:B):if b7=a9 then A else B:=by rw[p4 MA];exact h
theorem ck{A B:Prop}(h:A):if a9=a9 then A else B:=by rw[o8 rfl];exact h
section
variable{κ:Type}[DecidableEq κ]
noncomputable def wa(kvs:List (κ×V))(k:κ):Option V:=(kvs.find? λv=>decide<|v.1=k).map (·.2)
noncomputable def putK(kvs:List (κ×V))(k:κ)(v:V):List (κ×V):=if (kvs.any λa=>decide<|a.1=k)=a9 then kvs.map (λa=>if a.1=k then(a.1,v)else a)else kvs++[(k,v)]
theorem vZ{p:κ×V}{r:List (κ×V)}{k:κ}(e:p.1=k):wa (p::r) k=a7 p.2:=by simp[wa,Mj,e]
theorem pK{p:κ×V}{r:List (κ×V)}{k:κ}(e:¬p.1=k):wa (p::r) k=wa r k:=by simp[wa,Mj,e]
theorem Cf.getD(r:Cf o u)(a:aL d d'):aL (o.getD d) (u.getD d'):=by
 cases o with
 |none=>cases u with
  |none=>exact a
  |some _=>exact(show False from r).elim
 |some _=>cases u with
  |none=>exact(show False from r).elim
  |some _=>exact r
theorem KV.val{kvs:List (κ×V)}{vs:List (κ×b8)}(r:KV kvs vs)(k:κ):Cf (wa kvs k) (valueAt vs k):=by
 unfold KV at r;induction r with
 |nil=>exact Nx
 |@cons p q ps qs h t i =>
  obtain⟨h1,h2⟩:=h;by_cases e:p.1=k;have a:q.1=k:=h1.symm.trans e;have b:valueAt (q::qs) k=a7 q.2:=by simp[valueAt,Mj,a]
  rw[vZ e,b];exact h2;have a:¬q.1=k:=λz=>e<|h1.trans z;have b:valueAt (q::qs) k=valueAt qs k:=by simp[valueAt,Mj,a]
  rw[pK e,b];exact i
theorem KV.any(r:KV kvs vs)(k:κ):(kvs.any λkv=>decide<|kv.1=k)=vs.any λkv=>decide (kv.1=k):=by
 unfold KV at r;induction r with
 |nil=>rfl
 |cons h t i=>rw[PJ,PJ,i,h.1]
theorem KV.repl(r:KV kvs vs)(k:κ)(a:aL y u):KV (kvs.map λkv=>if kv.1=k then(kv.1,y)else kv) (vs.map λkv=>if kv.1=k then(kv.1,u)else kv):=by
 unfold KV at r ⊢;induction r with
 |nil=>exact .nil
 |@cons p q ps qs h t i=>rw[C2,C2];refine .cons ?_ i;obtain⟨h1,h2⟩:=h;by_cases e:p.1=k;rw[o8 e,o8<|h1.symm.trans e];exact⟨h1,a⟩;rw[p4 e,p4<|λz=>e<|h1.trans z];exact⟨h1,h2⟩
theorem KV.put(r:KV kvs vs)(k:κ)(i:aL y u):KV (putK kvs k y) (stored vs k u):=by unfold putK stored;rw[r.any k];by_cases e:(vs.any λv=>decide<|v.1=k)=a9;rw[o8 e,o8 e];exact r.repl k i;rw[p4 e,p4 e];exact Paired.snoc r ⟨rfl,i⟩
theorem KV.length(r:KV kvs vs):kvs.length=vs.length:=Paired.length r
end
theorem AM(r:aL (kV k) u):(bL P w).is k u=a9:=by
 cases k with
 |inl i=>obtain⟨t,e⟩:=(show ∃t,u=Value.int i t from r);subst e;exact vn P w i t
 |inr x=>obtain⟨t,e⟩:=(show ∃t,u=Value.str x t from r);subst e;exact vm P w x t
theorem tX:∀{ks:List E1}{us:List b8},aw (ks.map kV) us->ItemsAre (bL P w) ks us
 | [],_,r=>by rw[List.map_nil]at r;cases r;exact .nil
 |k::ks,_,r=>by
  rw[C2]at r;cases r with
  |cons h t=>exact .cons (AM h)<|tX t
abbrev KT(H:Hp):List (List E1×V)->List (List E1×c9×b8)->Prop:=Paired λp q=>p.1=q.1/\H q.2.1=a7 (.tup<|p.1.map kV)/\aL p.2 q.2.2
theorem KT.val{H:Hp}{kvs:List (List E1×V)}{xs:List (List E1×c9×b8)}(r:KT H kvs xs)(k:List E1):Cf (wa kvs k) ((m9 xs k).map (·.2)):=by
 induction r with
 |nil=>exact Nx
 |@cons p q ps qs h t i =>
  obtain⟨h1,_,h2⟩:=h;by_cases e:p.1=k;have a:q.1=k:=h1.symm.trans e;have b:m9 (q::qs) k=a7 q.2:=by simp[m9,Mj,a]
  rw[vZ e,b];exact h2;have a:¬q.1=k:=λz=>e<|h1.trans z;have b:m9 (q::qs) k=m9 qs k:=by simp[m9,Mj,a]
  rw[pK e,b];exact i
theorem Jg(ok:D8 P w H h)(e:Rd H a u):bJ P w H h a u:=e.ok ok
theorem Ic(ok:D8 P w H h)(e:Rd H a (.dK kvs)):kvs.length<=sizeLine/\(a==d7)=b7/\∃vs,KV kvs vs/\h.DictOf (bL P w) a vs:=show bJ P w H h a (.dK kvs)from Jg ok e
theorem Ie(ok:D8 P w H h)(e:H a=a7 (.dK kvs)):kvs.length<=sizeLine/\(a==d7)=b7/\∃vs,KV kvs vs/\h.DictOf (bL P w) a vs:=Ic ok<|.inl e
theorem Fz(ok:D8 P w H h)(e:H a=a7 (.tup<|ks.map kV)):(tupleKind<|bL P w).is h ks a:=by
 obtain⟨_,its,r,o,h1,h2,⟨n,b⟩,_⟩:=(show bJ P w H h a (.tup<|ks.map kV)from ok a _ e)
 exact⟨o,its.toArray,n,h1,h2,b,by simpa using tX r⟩
theorem Ln(ok:D8 P w H h)(e:Rd H a (.dT kvs)):kvs.length<=sizeLine/\(a==d7)=b7 /\∃xs,KT H kvs xs/\h.DictOfH (tupleKind<|bL P w) a xs:=by
 obtain⟨z,y,xs,r,o,es,i,h1,h2,f,g,k⟩:=(show bJ P w H h a (.dT kvs)from Jg ok e)
 refine⟨z,y,xs,r,o,es,i,h1,h2,f,g,λx b=>?_,k⟩;have c:∀{l:List (List E1×V)}{m:List (List E1×c9×b8)},KT H l m->∀x∈m,(tupleKind<|bL P w).is h x.1 x.2.1:=by
  intro l m q;induction q with
  |nil=>intro x b;exact nomatch b
  |@cons p q ps qs d t j=>intro x b;rcases A1.mp b with e|b;subst e;exact Fz ok (by rw[<-d.1];exact d.2.1);exact j x b
 exact c r x b
def DGet(H:Hp)(a:c9)(y:V)(r:Option V):Prop:=(∃kvs k,Rd H a (.dK kvs)/\y=kV k/\r=wa kvs k)\/∃kvs k b,Rd H a (.dT kvs)/\y=.ref b/\H b=a7 (.tup<|k.map kV)/\r=wa kvs k
theorem t9.big(I:t9 X pins σ H s):d7<s.heap.objs.size:=by have h:d9<s.heap.objs.size:=(I.mod.glob.keeps I.bk).lt;exact PC (by decide) h
theorem BB(q:A.units+1<j6)(I:t9 X pins σ H s)(g:DGet H a y (a7 v))(m:aL y u)(h:∀w' s',t9 X pins σ H s'->aL v w'->Q w' s'):f9 (g7 X.prog X.w) A (k9 (.ref a) u) Q E s:=by
 rcases g with⟨kvs,k,e,f,l⟩|⟨kvs,k,b,e,f,M,l⟩
 subst f;obtain⟨z,n,vs,r,d⟩:=Ic I.hok e;obtain⟨w',j,c⟩:=Cf.some_of (v:=v) (o:=valueAt vs k) (by rw[l];exact r.val k);exact wpAny_getItem_of (AM m) d.mapOf j<|h w' _ (I.tok _) c;subst f;cases (show u=AB6 b from m);obtain⟨z,n,xs,r,d⟩:=Ln I.hok e;obtain⟨w',j,c⟩:=Cf.some_of (v:=v) (o:=(m9 xs k).map (·.2)) (by rw[l];exact r.val k);obtain⟨p,hp,i⟩:=MQ.mp j;refine wpAny_getItem_heap (tupleKind_room_in1 q) (Fz I.hok M) d hp ?_;rw[i];exact h w' _ (I.tok _) c
theorem qP(I:t9 X pins σ H s)(m:Pv (H a))(hs:G9 a s.heap h')(i:∃q,h'.get? a=a7 q)(n:bJ X.prog X.w (x3 H a ob) h' a ob):t9 X pins σ (x3 H a ob) { s with heap:=h',toks:=t' }:=I.write (x:=a) (e:=a) m (.inl rfl) (λb q d z=>(hs.2 b d).trans z) i n
theorem FE(z:kvs.length<=sizeLine)(d:(a==d7)=b7)(r:KV kvs vs)(k:h'.DictOf (bL P w) a vs):bJ P w H' h' a (.dK kvs):=⟨z,d,vs,r,k⟩
def FI(i:ge):Prop:=∀b a,subscripted i b7 b a=operate [b,a] (k9 b a)
theorem uS{prog:c8}{w:c7}{A:e8}{E:b8->f6->Prop}{s:f6}{env:Env}{a e:ge}{p:Pos}{T id:String}{Q:b8->f6->Prop}(l:typeLookup (.type T) "__getitem__" = pure (a7<|.builtin id)) (hs:FI e)(h:f9 (g7 prog w) A (eval a env) (λo s₁=>f9 (g7 prog w) A (eval e env) (λi s₂=>s₂.TypeIs o T/\f9 (g7 prog w) A (k9 o i) Q E s₂) E s₁) E s):f9 (g7 prog w) A (eval (.Subscript a e p) env) Q E s:=by
 refine Subscript_<|L0 h (λo s₁ d=>L0 d (λi s₂ b=>?_) λ_ _ x=>x) λ_ _ x=>x;obtain⟨g,b⟩:=b;unfold subscriptTail;refine t6 ?_;rw[getitemInPython_of_ne g.not_modules];refine t6<|NP g l ?_;have n:f9 (g7 prog w) A (subscripted e b7 o i) (λr c=>f9 (g7 prog w) A (letTemporaryGo a o r >>= λ_=>pure r) Q E c) E s₂:=by rw[hs o i];exact wpAny_operating<|L0 b (λr c f=>t6<|wpAny_letTemporaryGo<|t8 f) λ_ _ x=>x
 first
  |exact t8 (t6 n)
  |exact t6 (t8 (t6 n))
  |exact t6 n
theorem vN(I:t9 X pins σ H s)(g:DGet H a y o):s.TypeIs (.ref a) "dict":=by
 rcases g with⟨kvs,k,e,_,_⟩|⟨kvs,k,b,e,_,_,_⟩
 obtain⟨_,_,vs,_,d⟩:=Ic I.hok e;exact d.typeIs;obtain⟨_,_,xs,_,d⟩:=Ln I.hok e;exact d.typeIs
def tDGet(d t:TE):TE:=λσ H Q=>d σ H λx c=>t σ c λy b=>∃a v,x=.ref a/\DGet b a y (a7 v)/\Q v b
theorem Gr(l:X.A.units+1<j6)(B:PE X o td)(hi:PE X i ty)(hs:FI i):PE X (.Subscript o i pos) (tDGet td ty):=by intro p s σ H Q I h;refine uS RX.lookup hs<|w9 (B p s σ H _ I h) ?_;rintro u t ⟨x,c,f,r,q⟩;refine w9 (hi p t σ c _ f q) ?_;rintro w z ⟨y,d,e,n,a,v,k,g,m⟩;subst k;obtain rfl:u=AB6 a:=r;exact⟨vN e g,BB l e g n λY C j b=>⟨v,d,j,b,m⟩⟩
theorem Ey(h:d6)(d:d7<h.objs.size):bJ P w H (h.push { cls:=.type "dict",data:=.dict #[] }) h.objs.size (.dK []):=⟨B5 _,beq_eq_false_iff_ne.mpr<|z9<|A4 d,[],.nil,Heap.DictOf.new h⟩
def IW:TE:=λ_ H Q=>∀p,H p=a8->Q (.ref p) (x3 H p<|.dK [])
theorem Da:PE X (.Dict [] [] pos) IW:=λp s σ H Q I h =>
 wpAny_Dict_empty ⟨.ref s.heap.objs.size,_,I.laid (a:=s.heap.objs.size) (o:=.dK []) (t':=s.toks) (λ_ _ q=>x5 _ q) (v6 _)<|Ey s.heap I.big,rfl,h _<|I.hok.fresh<|v6 _⟩
end L2
namespace DL
open PySem
theorem iV(env:Env):∀(names:List (b9×j9)) (acc:List (b9×c9)),(∀p∈names,p.2=Mr->∃c,env.cells.lookup p.1=a7 c) ->∃cl,(forIn (m:=Sem) names acc λ(p:b9×j9) (r:List (b9×c9)) =>
    if (p.2==Mr)=a9 then(do let a <-cellOf env p.1;pure (QF<|(p.1,a)::r))else pure (QF r))=pure cl /\
   (∀z c,cl.lookup z=a7 c->acc.lookup z=a7 c\/env.cells.lookup z=a7 c) /\
   (∀z c,acc.lookup z=a7 c->∃c',cl.lookup z=a7 c') /\
   (∀p∈names,p.2=Mr->∃c,cl.lookup p.1=a7 c)
 | [],acc,_=>⟨acc,rfl,λ_ _ h=>.inl h,λz c h=>⟨c,h⟩,λ_ h=>nomatch h⟩
 |(n,k)::aM,acc,hyp=>by
  by_cases hk:k=Mr;subst hk;obtain⟨c0,hc0⟩:=hyp (n,.free) D3 rfl;obtain⟨cl,e,h1,h2,h3⟩:=iV env aM ((n,c0)::acc) λp hp=>hyp p<|C4 _ hp;have ce:cellOf env n=pure c0:=by unfold cellOf;rw[hc0]
  have own:∃c',cl.lookup n=a7 c':=h2 n c0 (by simp[N8]);refine⟨cl,?_,λz c hz=>?_,λz c hz=>?_,λp hp hf=>?_⟩;rw[QE];simp only[t5,s9,ce,pure_bind];exact e;rcases h1 z c hz with q|q;rw[N8]at q;by_cases hz':(z==n)=a9;rw[hz']at q;have:z=n:=by simpa using hz'
  subst this;cases q;exact .inr hc0;have hz'':(z==n)=b7:=by simpa using hz'
  rw[hz'']at q;exact .inl q;exact .inr q;by_cases hz':z=n;subst hz';exact own;refine h2 z c ?_;rw[N8];have hz'':(z==n)=b7:=by simpa using hz'
  rw[hz''];exact hz;rcases A1.mp hp with rfl|hp;exact own;exact h3 p hp hf;have hb:(k==Mr)=b7:=by simpa using hk
  obtain⟨cl,e,h1,h2,h3⟩:=iV env aM acc λp hp=>hyp p<|C4 _ hp;refine⟨cl,?_,h1,h2,λp hp hf=>?_⟩;rw[QE];simp only[hb,A7,r9,pure_bind];exact e;rcases A1.mp hp with rfl|hp;exact p7 hf hk;exact h3 p hp hf
theorem kK(h:∀p∈scope.names,p.2=Mr->∃c,env.cells.lookup p.1=a7 c):∃cl,closureFor scope env=pure cl/\(∀z c,cl.lookup z=a7 c->env.cells.lookup z=a7 c)/\(∀p∈scope.names,p.2=Mr->∃c,cl.lookup p.1=a7 c):=by obtain⟨cl,e,h1,h2,a⟩:=iV env scope.names [] h;refine⟨cl,?_,λz c b=>?_,a⟩;unfold closureFor;simp only[bind_pure];exact e;rcases h1 z c b with q|q;simp at q;exact q
theorem gd{env:Env}:∀{names:List (b9×j9)}{x:b9}{k:j9},(names.map λ(p:b9×j9)=>if (p.2==Mr&&env.scope.kind==.function&&env.kindOf p.1==a7 .cell)=a9 then(p.1,N4)else(p.1,p.2)).lookup x=a7 k ->(names.lookup x=a7 k\/(k=N4/\names.lookup x=a7 .free))
 | [],_,_,h=>by simp at h
 |(n,j)::aM,x,k,h=>by
  have ih:=@gd env aM x k;rw[C2,N8]at h;by_cases hx:(x==n)=a9;have hl:List.lookup x ((n,j)::aM)=a7 j:=by rw[N8,hx]
  rw[hl];by_cases hc:(j==Mr&&env.scope.kind==.function&&env.kindOf n==a7 .cell)=a9;simp only[hc,s9,hx]at h;cases h;have:j=Mr:=by simp only[E4]at hc;simpa using hc.1.1
  exact .inr ⟨rfl,by rw[this]⟩;simp only[hc,A7,r9,hx]at h;exact .inl h;have hx':(x==n)=b7:=by simpa using hx
  have hl:List.lookup x ((n,j)::aM)=List.lookup x aM:=by rw[N8,hx']
  rw[hl];refine ih ?_;by_cases hc:(j==Mr&&env.scope.kind==.function&&env.kindOf n==a7 .cell)=a9;simp only[hc,s9,hx']at h;exact h;simp only[hc,A7,r9,hx']at h;exact h
theorem pP(s:List ge)(env:Env):compTests s env =
  (forIn s a9 λc r=>if r=a9 then do let ok <-isTrue c env (eval c env);pure (QF ok)else pure (QF r)):=by unfold compTests;simp only[bind_pure]
theorem yD(J:Nat->f6->Prop)(F:b8->f6->Prop)(b:∀e s',F e s'->notedBy (g7 prog w) A env (λe s'=>R (.error e) s') e s')(t:∀n s,J n s->f9 (g7 prog w) A (i8 it) (λr s1=>match r with
   |none=>R (.ok .next) s1
   |some v=>f9 (g7 prog w) A (i9 target it v) (λ_ s2=>f9 (g7 prog w) A (i6 target env v) (λ_ s3 =>
     f9 (g7 prog w) A (compTests ifs env) (λok s4 =>
      if ok=a9 then f9 (g7 prog w) A (eval elt env) (λy s5=>f9 (g7 prog w) A (call (.builtin "list.append") [acc,y]) (λ_ s6=>∃m,m<n/\J m s6) F s5) F s4
      else ∃m,m<n/\J m s4) F s3) F s2) F s1) F s)
  (n:Nat) (h:J n s):j8 (g7 prog w) A (.compLoop (.ListComp elt [⟨target,iter,ifs,0⟩] scope pos) 0 it acc env) R s:=by
 refine codeAny_loop rfl J (λn s f=>?_) n h;show f9 _ A ((compTurn (.ListComp elt [⟨target,iter,ifs,0⟩] scope pos) 0 it acc env).onRaise<|λx=>do noteFrame x env;theTreesLotGoes x) _ _ s;refine wpAny_noted ?_;rw[compTurn_list];refine t6<|wpAny_standAt<|t6<|L0 (t n s f) (λr s1 h1=>?_) b;cases r with
 |none=>exact t8 h1
 |some v =>
  refine t6<|L0 h1 (λ_ s2 h2=>?_) b;refine t6<|L0 h2 (λ_ s3 a=>?_) b;rw[pP]at a;refine t6<|L0 a (λok s4 d=>?_) b;cases ok with
  |false=>exact t8 ⟨rfl,d⟩
  |true=>exact t6<|t6<|L0 d (λy s5 k=>t6<|L0 k (λ_ s6 c=>t8<|t8 ⟨rfl,c⟩) b) b
end DL
namespace L2
open PySem PySem.Spec PyProof.Rows DL
theorem kC{env:Env}:∀{names:List (b9×j9)}{x:b9},names.lookup x=a7 .free ->((names.map λ(p:b9×j9)=>if (p.2==Mr&&env.scope.kind==.function&&env.kindOf p.1==a7 .cell)=a9 then(p.1,N4)else(p.1,p.2)).lookup x=a7 .cell \/ (names.map λ(p:b9×j9)=>if (p.2==Mr&&env.scope.kind==.function&&env.kindOf p.1==a7 .cell)=a9 then(p.1,N4)else(p.1,p.2)).lookup x=a7 .free)
 | [],_,h=>by simp at h
 |(n,j)::aM,x,h=>by
  have ih:=@kC env aM x;rw[C2,N8];rw[N8]at h;by_cases hc:(j==Mr&&env.scope.kind==.function&&env.kindOf n==a7 .cell)=a9;by_cases hx:(x==n)=a9;simp[hc,hx];have hx':(x==n)=b7:=by simpa using hx
  rw[hx']at h;simp only[hc,s9,hx'];exact ih h;by_cases hx:(x==n)=a9;rw[hx]at h;cases h;right;simp only[hc,A7,r9,hx];have hx':(x==n)=b7:=by simpa using hx
  rw[hx']at h;simp only[hc,A7,r9,hx'];exact ih h
noncomputable def C5(X:Cx)(N':List b9)(scope:f7)(l:List (b9×c9))(s₀:f6)(H₀:Hp)(ex:List c9):Cx:={ X with N:=N',s₀:=s₀,H₀:=H₀,env:=compEnvC scope l s₀.heap.objs.size X.env,outer:=X.stack,ex:=ex,fn:=λx=>scope.names.lookup x==a7 .cell,pn:=[],xe:=λ_ _=>False }
structure BlkSc(X:Cx)(N':List b9)(nt:Nat)(js:List Nat)(scope:f7):Prop where
 kind:scope.kind=.function
 nocell:∀y∈scope.names,y.2≠.cell
 loc:∀y∈scope.names,y.2=.local->scope.names.lookup y.1=a7 .local
 free:∀y∈scope.names,y.2=.free->(X.env.kindOf y.1=a7 .cell\/X.env.kindOf y.1=a7 .free)
 len:N'.length=nt+js.length
 fr:∀(k j:Nat),js[k]?=a7 j->∃x,N'[nt+k]?=a7 x/\X.N[j]?=a7 x/\scope.names.lookup x=a7 .free/\(X.env.kindOf x=a7 .cell\/X.env.kindOf x=a7 .free)
noncomputable def bst(t:Nat)(s:List Nat)(σ:St):St:=N6 t a8++s.map λj=>(σ[j]?).join
theorem BR(t:Nat)(s:List Nat)(σ:St):(bst t s σ).length=t+s.length:=by simp[bst]
theorem Iv(h:(bst nt js σ)[i]?=a7 (a7 v)):∃k j,i=nt+k/\js[k]?=a7 j/\σ[j]?=a7 (a7 v):=by
 unfold bst at h;by_cases hi:i<nt;rw[L5 (by simpa using hi),Q5]at h;simp[hi]at h;rw[MC (by simpa using Nw.mp hi),Q0,C7]at h;cases e:js[i-nt]? with
 |none=>rw[e]at h;cases h
 |some j =>
  rw[e]at h;refine⟨i-nt,j,by lia,e,?_⟩;have h':(σ[j]?).join=a7 v:=by simpa using h
  cases q:σ[j]? with
  |none=>rw[q]at h';cases h'
  |some o=>rw[q]at h';exact t4 a7 h'
def Nu(X:Cx)(i:List ge)(t:TT):Prop:=∀(p:List (c9×d5)) (s:f6) (σ:St) (H:Hp) (Q:Bool->Hp->Prop),t9 X p σ H s->t σ H Q->f9 (g7 X.prog X.w) X.A (compTests i X.env) (TP X p σ Q) X.xe s
def ttNil:TT:=λ_ H Q=>Q a9 H
theorem Gg:Nu X [] ttNil:=λp s σ H Q I h=>by rw[pP];exact wpAny_tests_nil ⟨H,I,h⟩
theorem Gf(h:PT X c t):Nu X [c] t:=λp s σ H Q I q=>by rw[pP];exact wpAny_tests_one<|h p s σ H Q I q
def Ro(t:Nat)(s:List Nat)(wi:TI)(g:TG)(tt:TT)(te:TE):TE:=λσ H Q=>wi σ H λJ e=>∃W:Nat->Nat->List V->St->Hp->Prop,(∃m,W 0 m [] (bst t s σ) e) /\∀i m vs τ H,W i m vs τ H->(J.stop i H/\∀p,H p=a8->Q (.ref p) (x3 H p<|.lst vs)) \/(J.go i H/\∀x H',J.yld i H x H'->g x τ H' λa f=>tt a f λb d=>if b=a9 then te a d λy h=>vs.length<sizeLine/\∃c,c < m/\W (i+1) c (vs++[y]) a h else ∃c,c < m/\W (i+1) c vs a d)
noncomputable abbrev cT(its:List b8)(k:Nat):d5:={ cls:=.type "list",data:=.seq its.toArray k }
theorem t9.blkOk(B:BlkSc X N' nt js scope)(I:t9 X pins σ H s)(a:∀z c,cl.lookup z=a7 c->X.env.cells.lookup z=a7 c) (f:∀p∈scope.names,p.2=Mr->∃c,cl.lookup p.1=a7 c) (i:∀b∈fp,xv X pins H b) (j:∀b∈fp,b<s.heap.objs.size):(C5 X N' scope cl { s with heap:=s.heap.push ob } H<|s.heap.objs.size::fp).Ok:=by
 have J:t9 X pins σ H { s with heap:=s.heap.push ob }:=I.kept (t':=s.toks) λb o e=>x5 _ e;have ltc:∀z c,cl.lookup z=a7 c->c<s.heap.objs.size:=λz c e=>by obtain⟨v,q⟩:=I.cell z c<|a z c e;exact q.lt
 have C:(s.heap.push ob).objs.size=s.heap.objs.size+1:=L8 ..;refine⟨I.ok.mod,B.kind,I.ok.glob,I.ok.blt,v6 _,λy z c h1 h2=>I.ok.inj y z c (a y c h1)<|a z c h2,λy Q=>?_,λy c h=>?_,I.ok.hd,I.ok.frames,.inl rfl,λb d=>?_,λb o e=>?_,?_,λb o e d=>?_,λb d=>?_,J.stack,I.stkFree⟩;have l:scope.names.lookup y=a7 .free:=by
  rcases Q with Q|Q;rcases gd (env:=X.env) (names:=scope.names) (x:=y) (k:=.cell) Q with q|⟨_,q⟩
  exact p7 rfl<|B.nocell _<|NS q;exact q;rcases gd (env:=X.env) (names:=scope.names) (x:=y) (k:=.free) Q with q|⟨q,_⟩
  exact q;cases q
 exact f (y,.free) (NS l) rfl;exact p7 rfl<|B.nocell _<|NS<|beq_iff_eq.mp<|show (scope.names.lookup y==a7 N4)=a9 from h;show b≠(s.heap.push ob).objs.size/\∀x c,cl.lookup x=a7 c->c≠b;rw[C];rcases A1.mp d with rfl|d;exact⟨A4<|Ml _,λx c e=>A4<|ltc x c e⟩;exact⟨A4<|OB<|j b d,λx c e=>(i b d).2.2.2.2.1 x c<|a x c e⟩;exact⟨x5 _ (I.bs b o e).1,(I.bs b o e).2⟩;show X.base.objs.size<=(s.heap.push ob).objs.size;rw[C];exact Nat.le_succ_of_le<|F4 I.ok.bsz I.sz;rcases A1.mp d with rfl|d;exact p7 (z6 (I.bs _ o e).1)<|G0 _;rcases(i b d).2.2.2.1 with z|z;exact I.ok.noex b o e z;exact p7 (K0 (z6 (I.ok.bs b o e).1) z)<|G0 _;intro m;have g:=I.stkSub b m;rcases A1.mp d with rfl|d;rcases A1.mp g with q|q;exact p7 I.lt (by rw[<-q];exact G0 _);exact I.nofs (v6 _) q;rcases A1.mp g with q|q;exact(i b d).2.1 q;exact(i b d).2.2.1 q
theorem t9.blkStart(B:BlkSc X N' nt js scope)(I:t9 X pins σ H s)(a:∀z c,cl.lookup z=a7 c->X.env.cells.lookup z=a7 c) (f:∀p∈scope.names,p.2=Mr->∃c,cl.lookup p.1=a7 c) (J:∀b∈fp,xv X pins H b) (m:∀b∈fp,b<s.heap.objs.size)(g:∀b o,(s.heap.push<|cT [] 0).get? b=a7 o->h1.get? b=a7 o) (K:h1.Ns (s.heap.push<|cT [] 0).objs.size mm):t9 (C5 X N' scope cl { s with heap:=s.heap.push (cT [] 0) } H<|s.heap.objs.size::fp) [(s.heap.objs.size,cT [] 0)] (bst nt js σ) H { s with heap:=h1,toks:=tk }:=by
 have d:∀b o,s.heap.get? b=a7 o->h1.get? b=a7 o:=λb o e=>g b o<|x5 _ e;have C:(s.heap.push<|cT [] 0).objs.size=s.heap.objs.size+1:=L8 ..;refine⟨I.blkOk B a f J m,rfl,I.bare,Un.kept g,⟨mm,K,λi x v D E S=>?_⟩,λx c e=>?_,?_,λx c e=>I.freeC x c<|a x c e,λp hp=>?_,I.hok.kept d,?_⟩;obtain⟨k,j,rfl,L,t⟩:=Iv E;obtain⟨R,P,Q,A,y⟩:=B.fr k j L;have F:x=R:=C3<|D.symm.trans P;subst F;obtain⟨V,M,n⟩:=I.loc;have w:Om X.env.scope x:=y.elim (λz=>.inr<|.inl z) λz=>.inr<|.inr z;obtain⟨u,r,h⟩:=n j x v Q t w;refine⟨u,r,?_⟩;rcases h with⟨q,_⟩|⟨q,c,G,l⟩
 rcases y with z|z<;>(rw[q]at z;cases z)
 obtain⟨U,O⟩:=f (x,.free) (NS A) rfl;have:U=c:=C3<|(a x U O).symm.trans G;subst this;exact .inr ⟨kC (env:=X.env) A,U,O,l.keeps d⟩;obtain⟨v,q⟩:=I.cell x c<|a x c e;exact⟨v,q.keeps d⟩;exact I.hok.fresh (by show s.heap.objs.size<=(s.heap.push<|cT [] 0).objs.size;rw[C];exact OS _);have e:p=(s.heap.objs.size,cT [] 0):=by simpa [C5]using hp
 subst e;refine⟨g _ _<|A8 _ rfl,I.hok.fresh<|v6 _,?_,?_,λv z=>by cases z⟩;show s.heap.objs.size≠(s.heap.push<|cT [] 0).objs.size;rw[C];exact A4<|Ml _;intro N;rcases A1.mp (I.stkSub _ N)with q|q;exact p7 I.lt (by rw[<-q];exact G0 _);exact I.nofs (v6 _) q;rw[BR];exact B.len.symm
theorem t9.blkEnd(I:t9 X pins σ H s)(E:∀b∈fp,xv X pins H b)(m:t9 (C5 X N' scope cl { s with heap:=s.heap.push (cT [] 0) } H<|s.heap.objs.size::fp) [(s.heap.objs.size,cT its k)] τ H' s')(L:aw vs its) (G:vs.length<=sizeLine) (U:G9 (s.heap.push<|cT [] 0).objs.size s'.heap h'):t9 X pins σ (x3 H' s.heap.objs.size<|.lst vs) { s' with heap:=h' }:=by
 have l:(s.heap.push<|cT [] 0).objs.size=s.heap.objs.size+1:=L8 ..;have C:s.heap.objs.size≠(s.heap.push<|cT [] 0).objs.size:=by rw[l];exact A4<|Ml _
 obtain⟨K,D,_⟩:=m.pin (s.heap.objs.size,cT its k) (by simp[C5]);have i:s'.heap.get? s.heap.objs.size=a7 (cT its k):=K;have f:H' s.heap.objs.size=a8:=D;have j:H' (s.heap.push<|cT [] 0).objs.size=a8:=m.free;have u:Un (K2 X.stack) (s.heap.objs.size::fp) H H' (s.heap.push<|cT [] 0) s'.heap:=m.base;have F:∀b o,s.heap.get? b=a7 o->b≠s.heap.objs.size/\b≠(s.heap.push<|cT [] 0).objs.size:=λb o e=>by have:=z6 e;exact⟨A4 this,by rw[l];exact A4<|OB this⟩
 have p:∀b o,s.heap.get? b=a7 o->(s.heap.push<|cT [] 0).get? b=a7 o:=λb o e=>x5 _ e;have g:∀b o,s.heap.get? b=a7 o->b∉fp->b∉s.heap.objs.size::fp:=λb o e x J=>by rcases A1.mp J with q|q;exact(F b o e).1 q;exact x q
 refine I.call' (s':={ s' with heap:=h' }) (ch:=fp) m.os ⟨λb o e n d x=>?_,λb o e n d x=>?_,λb o e n x=>?_,λb o e x=>?_,λb xs e=>?_,λb o w e=>?_,λb ps e=>?_⟩ (λb w q=>?_) m.bare λb d=>?_;exact(U.2 b (F b o e).2).trans<|u.keep b o (p b o e) n d<|g b o e x;obtain⟨M,z⟩:=u.slot b o (p b o e) n d<|g b o e x;exact⟨M,(U.2 b (F b o e).2).trans z⟩;rw[ax (F b o e).1];exact u.free b o (p b o e) n<|g b o e x;obtain⟨o',z⟩:=u.there b o (p b o e)<|g b o e x;exact⟨o',(U.2 b (F b o e).2).trans z⟩;have z:=u.tups b xs e;rw[ax<|ae z f];exact z;have z:=u.frzs b o w e;rw[ax<|ae z f];exact z;obtain⟨a,z⟩:=u.tbls b ps e;exact⟨a,by rw[ax<|ae z f];exact z⟩;by_cases d:b=s.heap.objs.size;subst d;rw[aP]at q;cases q;exact⟨G,its,k,L,(U.2 _ C).trans i⟩;rw[ax d]at q;refine(m.hok b w q).stay (λc v h r=>(U.2 c ?_).trans r) (λc z=>by rw[ax<|ae z f];exact z) λc xs z=>by rw[ax<|ae z f];exact z
 rcases h with rfl|h;exact ae q j;exact ae h j;obtain⟨_,t,_,y,A,B⟩:=E b d;exact⟨y,t,A,B⟩
theorem AA{s tg N:ge}{M:List ge}{scope:f7}{bk:Pos}{N':List b9}{l:List (b9×c9)}{J:It}{fp:List c9}{it:c9}{tn:Nat->d6->Prop}{g:TG}{tt:TT}{te:TE}{Q:VK}{W:Nat->Nat->List V->St->Hp->Prop}{R:Result->f6->Prop}{s0:f6}{H0:Hp}{D:c9} (hc:X.calm=a9)(hg:PG (C5 X N' scope l s0 H0<|D::fp) tg g) (ht:Nu (C5 X N' scope l s0 H0<|D::fp) M tt) (he:PE (C5 X N' scope l s0 H0<|D::fp) s te)(T:Turn X.prog X.w X.K tg J fp it tn) (L:D∉fp)(S:∀i m vs τ H,W i m vs τ H->(J.stop i H/\∀p,H p=a8->Q (.ref p) (x3 H p<|.lst vs)) \/ (J.go i H/\∀x H',J.yld i H x H'->g x τ H' λτ2 H2=>tt τ2 H2 λb f=>if b=a9 then te τ2 f λy H4=>vs.length<sizeLine/\∃m',m' < m/\W (i+1) m' (vs++[y]) τ2 H4 else ∃m',m' < m/\W (i+1) m' vs τ2 f))(t:∀b∈fp,b≠s0.heap.objs.size/\b∉K2 X.stack/\∀x c,l.lookup x=a7 c->c≠b) (I:D≠s0.heap.objs.size) (aD:D∉K2 X.stack) (as:∀x c,l.lookup x=a7 c->c≠D)(aj:∀τ H' s' vs its k,t9 (C5 X N' scope l s0 H0<|D::fp) [(D,cT its k)] τ H' s'->aw vs its->vs.length<=sizeLine->Q (.ref D) (x3 H' D<|.lst vs)->R (.ok .next) s')
  (m0:Nat) {j:St}{s3:f6}{f:Hp} (I3:t9 (C5 X N' scope l s0 H0<|D::fp) [(D,cT [] 0)] j f s3) (bs:tn 0 s3.heap) (al:∀b∈fp,f b=a8) (w0:W 0 m0 [] j f) :
  j8 (g7 X.prog X.w) X.A (.compLoop (.ListComp s [⟨tg,N,M,0⟩] scope bk) 0 (.ref it) (.ref D)<|compEnvC scope l s0.heap.objs.size X.env) R s3:=by
 have h:∀{ob:d5}{H':Hp},(∀b∈fp,H' b=a8)->∀b∈fp,xv (C5 X N' scope l s0 H0<|D::fp) [(D,ob)] H' b:=λ{ob H'} hn b d=>by
  obtain⟨a1,a2,a3⟩:=t b d;refine⟨hn b d,a1,a2,.inl<|C4 _ d,a3,λp hp z=>?_⟩;have e:p=(D,ob):=by simpa [C5]using hp
  subst e;exact L<|by rw[show D=b from z];exact d
 refine yD (λn s'=>∃i τ H' vs its k,t9 (C5 X N' scope l s0 H0<|D::fp) [(D,cT its k)] τ H' s'/\tn i s'.heap/\(∀b∈fp,H' b=a8)/\aw vs its/\vs.length<=sizeLine/\W i n vs τ H') (λ_ _=>False) (λ_ _ z=>z.elim) ?_ m0 ⟨0,j,f,[],[],0,I3,bs,al,.nil,B5 _,w0⟩;rintro n s' ⟨i,τ,H',vs,its,k,I',O,E,Z,hl,w'⟩;rcases S i n vs τ H' w' with⟨stop,q⟩|⟨go,P⟩
 refine w9 (T.done (C5 X N' scope l s0 H0<|D::fp) rfl rfl rfl hc i _ s' τ H' (λ_ _=>False) I' (h E) O stop) ?_;rintro r s4 ⟨hr,I4⟩;subst hr;exact aj τ H' s4 vs its k I4 Z hl<|q D (I'.pin (D,cT its k)<|by simp[C5]).2.1;refine w9 (T.item (C5 X N' scope l s0 H0<|D::fp) rfl rfl rfl hc i _ s' τ H' (λ_ _=>False) I' (h E) O go) ?_;rintro r s4 ⟨u,hr,h4⟩;subst hr;refine w9 h4 ?_;rintro _ s5 ⟨x,H5,I5,r5,y5,B,an⟩;have ai:=I5.pinned (h an)<|T.obj _ _ B;refine w9 (hg _ s5 τ H5 x u _ ai r5<|P x H5 y5) ?_;rintro _ s6 ⟨a,H6,I6,q6⟩;refine w9 (ht _ s6 a H6 _ I6 q6) ?_;rintro ok s7 ⟨H7,Y,q7⟩;have F:∀{b:c9}{o:d5},b∈fp->s5.heap.get? b=a7 o->(b,o)∈(C5 X N' scope l s0 H0<|D::fp).pn++([(D,cT its k)]++jt fp s5.heap):=λd e=>Ix _<|Ix _<|gQ d e;cases ok with
 |false =>
  obtain⟨m',hm,w7⟩:=(show ∃m',m' < n/\W (i+1) m' vs a H7 from q7)
  refine⟨m',hm,i+1,a,H7,vs,its,k,Y.unpinned,T.keep _ _ _ B λb d o e=>(Y.pin (b,o)<|F d e).1,λb d=>?_,Z,hl,w7⟩;obtain⟨o,e,_⟩:=T.obj _ _ B b d;exact(Y.pin (b,o)<|F d e).2.1
 |true =>
  refine w9 (he _ s7 a H7 _ Y q7) ?_;rintro yv s8 ⟨y,U,I8,r8,q8⟩;obtain⟨be,m',hm,w8⟩:=q8;obtain⟨oD,fD,_⟩:=I8.pin (D,cT its k) (Ix _<|MW _<|by simp);have C:U D=a8:=fD;refine append_at (its:=its.toArray) (n:=k) oD (λh9 bl o9=>?_) (by rw[A5,<-Z.length];exact hl);have J8:t9 (C5 X N' scope l s0 H0<|D::fp) (jt fp s5.heap) a U s8:=I8.pins_of λp hp=>I8.pin p<|Ix _<|Ix _ hp;have J9:t9 (C5 X N' scope l s0 H0<|D::fp) (jt fp s5.heap) a U { s8 with heap:=h9 }:=J8.turned (t':=s8.toks) (it:=D) (λb o d e=>(bl.2 b d).trans e) C I (.inl D3) as λp hp z=>by
   have aS:p∈jt fp s5.heap:=by simpa [C5]using hp
   exact L<|by rw[<-z];exact(tE aS).1
  have G:∀{b:c9}{o:d5},b∈fp->s5.heap.get? b=a7 o->(b,o)∈(C5 X N' scope l s0 H0<|D::fp).pn++jt fp s5.heap:=λd e=>Ix _<|gQ d e;refine⟨m',hm,i+1,a,U,vs++[y],its++[yv],k+1,J9.pins_of λp hp=>?_,T.keep _ _ _ B λb d o e=>(J9.pin (b,o)<|G d e).1,λb d=>?_,Z.append<|.cons r8 .nil,?_,w8⟩;have e:p=(D,cT (its++[yv])<|k+1):=by simpa using hp
  subst e;refine⟨?_,C,I,aD,λv z=>by cases z⟩;rw[show cT (its++[yv]) (k+1)=({ cls:=.type "list",data:=.seq (its.toArray.push yv) (k+1) }:d5) by rw[List.push_toArray]];exact o9;obtain⟨o,e,_⟩:=T.obj _ _ B b d;exact(J9.pin (b,o)<|G d e).2.1;rw[A3];exact be
theorem pe_lc{t M r:ge}{u:List ge}{scope:f7}{G:Pos}{N':List b9}{nt:Nat}{js:List Nat}{wi:TI}{g:TG}{tt:TT}{te:TE}(B:BlkSc X N' nt js scope)(hc:X.calm=a9)(hi:PI X M r wi)(hg:∀cl s0 H0 ex,PG (C5 X N' scope cl s0 H0 ex) M g) (ht:∀cl s0 H0 ex,Nu (C5 X N' scope cl s0 H0 ex) u tt) (he:∀cl s0 H0 ex,PE (C5 X N' scope cl s0 H0 ex) t te)(hs:∀x,j2 r X.env x=pure x:=by intro _;rfl):PE X (.ListComp t [⟨M,r,u,0⟩] scope G) (Ro nt js wi g tt te):=by
 intro i s σ H Q I h;rw[eval_ListComp];obtain⟨cl,O,d,C⟩:=kK (scope:=scope) (env:=X.env) λp hp hf=>I.ok.has p.1<|B.free p hp hf;refine wpAny_comprehension_free (use:=a8) rfl hs O B.kind B.loc ?_;refine w9 (hi i s σ H _ I h) λv s1 h1=>w9 h1 λai a h2=>?_;obtain⟨it,P,tn,J,H2,e,j,T,S,N,W,⟨m0,w0⟩,L⟩:=h2;subst e;refine G4<|wpAny_newFunctionEnv B.nocell (by intro y hy;simp at hy) (λh1 D E=>?_) B.kind;have m:∀b∈P,b<a.heap.objs.size:=λb f=>by obtain⟨o,e,_⟩:=T.obj _ _ S b f;exact z6 e
 have Z:(a.heap.push<|cT [] 0).objs.size=a.heap.objs.size+1:=L8 ..;have F:∀b o,(a.heap.push<|cT [] 0).get? b=a7 o->h1.get? b=a7 o:=λb o e=>(E.2 b<|A4<|z6 e).trans<|x5 _ e;have I3:=j.blkStart (tk:=a.toks+([]:List (b9×b8)).length) B d C N m F D;have K:tn 0 h1:=T.keep _ _ _ S λb _ o e=>F b o<|x5 _ e;have U:a.heap.objs.size∉P:=λz=>G0 _<|m _ z;have V:a.heap.objs.size∉K2 X.stack:=λz=>by rcases A1.mp (j.stkSub _ z)with q|q;exact p7 j.lt (by rw[<-q];exact G0 _);exact j.nofs (v6 _) q
 have R:a.heap.objs.size≠(a.heap.push<|cT [] 0).objs.size:=by rw[Z];exact A4<|Ml _
 have ltc:∀z c,cl.lookup z=a7 c->c<a.heap.objs.size:=λz c e=>by obtain⟨v,q⟩:=j.cell z c<|d z c e;exact q.lt
 have n:∀b∈P,b≠(a.heap.push<|cT [] 0).objs.size/\b∉K2 X.stack/\∀x c,cl.lookup x=a7 c->c≠b:=λb f=>by refine⟨by rw[Z];exact A4<|OB<|m b f,λz=>?_,λx c e=>(N b f).2.2.2.2.1 x c<|d x c e⟩;rcases A1.mp (j.stkSub b z)with q|q;exact(N b f).2.1 q;exact(N b f).2.2.1 q
 have l:j8 (g7 X.prog X.w) X.A (.compLoop (.ListComp t [⟨M,r,u,0⟩] scope G) 0 (.ref it) (.ref a.heap.objs.size)<|compEnvC scope cl (a.heap.push<|cT [] 0).objs.size X.env) (compPost (g7 X.prog X.w) X.A X.xe a8 (EP X i σ Q) (.ref a.heap.objs.size) (a.heap.push<|cT [] 0).objs.size) { a with heap:=h1,toks:=a.toks+([]:List (b9×b8)).length }:=by refine AA (s0:={ a with heap:=a.heap.push (cT [] 0) }) (H0:=H2) (N':=N') (Q:=Q) hc (hg _ _ _ _) (ht _ _ _ _) (he _ _ _ _) T U L n R V (λx c e=>A4<|ltc x c e) ?_ m0 I3 K (λb f=>(N b f).1) w0;intro τ H' s' vs its k Y rv hl q;obtain⟨mm,hn,_⟩:=id Y.loc;exact⟨mm,hn,λh' sb=>⟨.ref a.heap.objs.size,_,j.blkEnd N Y rv hl sb,rfl,q⟩⟩
 exact codeAny_compStart_list l<|T.self _ 0 _ _ _ K l
section
inductive D where
 |non|bl (b:Bool)|int (i:Int)|str (x:b9)|ty (n:String)|tup (ds:List D)|ref (n:Nat)
inductive MO where
 |lst (xs:List D)
 |fz (xs:List D)
 |kl (xs:List D)
 |dct (kvs:List (b9×D))
 |dkt (kvs:List (D×D))
 |dkq (e:Nat) (kvs:List (D×D))
 |dkm (kvs:List (D×D))
 |fdc (o:d5) (kvs:List (b9×D))
 |tb (x:b9) (b:Bool)
 |exc (x:b9)
noncomputable abbrev u8:=List MO
noncomputable def MO.isL:MO->Bool
 |.dct _=>b7
 |.dkt _=>b7
 |.dkq _ _=>b7
 |.fdc _ _=>b7
 |.dkm _=>b7
 |.tb _ _=>b7
 |.exc _=>b7
 |_=>a9
noncomputable def iX(s:List b9)(vs:List V):List (E1×V):=(s.zip vs).map λp=>(ABm p.1,p.2)
mutual
inductive u5(K:v4)(ρ:List c9)(H:Hp):D->V->Prop
 |non:u5 K ρ H .non .non
 |bl (b:Bool):u5 K ρ H (.bl b) (.bl b)
 |int (i:Int):u5 K ρ H (.int i) (.int i)
 |str (x:b9):u5 K ρ H (.str x) (.str x)
 |ty (n:String):u5 K ρ H (.ty n) (.ty n)
 |tup {a:c9}{vs:List V}{ds:List D} (h:B8 K H a vs) (r:Reps K ρ H ds vs):u5 K ρ H (.tup ds) (.ref a)
 |ref {n:Nat}{a:c9} (h:ρ[n]?=a7 a):u5 K ρ H (.ref n) (.ref a)
inductive Reps(K:v4)(ρ:List c9)(H:Hp):List D->List V->Prop
 |nil:Reps K ρ H [] []
 |cons {d:D}{v:V}{ds:List D}{vs:List V} (h:u5 K ρ H d v) (t:Reps K ρ H ds vs):Reps K ρ H (d::ds) (v::vs)
end
def KList(K:v4)(a:c9)(xs:List V):Prop:=∃(o:d5) (its:Array b8) (n:Nat),K.lookup a=a7 o/\o.cls=.type "list"/\o.dict=a8/\o.data=.seq its n/\its.size<=sizeLine/\aw xs its.toList
noncomputable def cL:Nat->D->Bool
 |_,.str _=>a9
 |_,.int _=>a9
 |n+1,.tup ds=>ds.all<|cL n
 |_,_=>b7
noncomputable def A9(w:c7):Nat->D->Int
 |_,.str x=>hashStr w x
 |_,.int i=>hashInt i
 |n+1,.tup ds=>n5<|OH<|ds.map<|A9 w n
 |_,_=>0
def dX(a:c9)(xs:List (D×c9×b8)):c8->c7->d6->Prop:=λ_ w h =>
 ∃(o:d5) (es:Array m8),h.get? a=a7 o/\o.ExactDict/\o.data=.dict es xs.length/\es.toList=xs.map λx=>⟨A9 w 8 x.1,.ref x.2.1,x.2.2⟩
def dQ(a:c9)(e:Nat)(xs:List (D×c9×b8)):c8->c7->d6->Prop:=λ_ w h =>
 ∃(o:d5) (es:Array m8),h.get? a=a7 o/\o.ExactDict/\o.data=.dict es e/\es.toList=xs.map λx=>⟨A9 w 8 x.1,.ref x.2.1,x.2.2⟩
noncomputable def yn:D->Bool
 |.non=>a9
 |.tup ks=>cL 8<|.tup ks
 |_=>b7
noncomputable def NY(w:c7):D->Int
 |.non=>n5 0xFCA86420
 |d=>A9 w 8 d
noncomputable def Bq(hs:D->Int)(x:D×b8×b8):m8:=⟨hs x.1,x.2.1,x.2.2⟩
def dM(a:c9)(xs:List (D×b8×b8)):c8->c7->d6->Prop:=λ_ w h =>
 ∃(o:d5) (es:Array m8),h.get? a=a7 o/\o.ExactDict/\o.data=.dict es xs.length/\es.toList=xs.map (Bq<|NY w)
def MD(K:v4)(ρ:List c9)(H:Hp)(p:D×D)(q:D×b8×b8):Prop:=p.1=q.1/\yn p.1=a9/\(∃u,u5 K ρ H p.1 u/\aL u q.2.1)/\∃v,u5 K ρ H p.2 v/\aL v q.2.2
def rh(K:v4)(ρ:List c9)(H:Hp)(p:D×D)(q:D×c9×b8):Prop:=p.1=q.1/\cL 8 p.1=a9/\u5 K ρ H p.1 (.ref q.2.1)/\∃v,u5 K ρ H p.2 v/\aL v q.2.2
def excO(a:c9)(C:b8):c8->c7->d6->Prop:=λ_ _ h=>∃o vs,h.get? a=a7 o/\o.cls=C/\o.data=.fields vs
def yK(K:v4)(ρ:List c9)(H:Hp)(a:c9):MO->Prop
 |.lst ds=>∃vs,H a=a7 (.lst vs)/\Reps K ρ H ds vs
 |.fz ds=>∃o vs,H a=a7 (.frz o<|.lst vs)/\Reps K ρ H ds vs
 |.kl ds=>∃vs,KList K a vs/\Reps K ρ H ds vs
 |.dct kvs=>∃vs,H a=a7 (.dK (iX (kvs.map (·.1)) vs))/\Reps K ρ H (kvs.map (·.2)) vs
 |.dkt kvs=>kvs.length<=sizeLine/\(a==d7)=b7/\(kvs.map (·.1)).Nodup/\∃xs,H a=a7 (.ext<|dX a xs)/\Paired (rh K ρ H) kvs xs
 |.dkq e kvs=>kvs.length<=sizeLine/\(a==d7)=b7/\(kvs.map (·.1)).Nodup/\∃xs,H a=a7 (.ext<|dQ a e xs)/\Paired (rh K ρ H) kvs xs
 |.dkm kvs=>kvs.length<=sizeLine/\(a==d7)=b7/\(kvs.map (·.1)).Nodup/\∃xs,H a=a7 (.ext<|dM a xs)/\Paired (MD K ρ H) kvs xs
 |.fdc o kvs=>∃vs,H a=a7 (.frz o (.dK (iX (kvs.map (·.1)) vs)))/\Reps K ρ H (kvs.map (·.2)) vs
 |.tb x b=>(∃c,PySem.W.tabIn K x=a7 (c,a)/\∀h:d6,K.In h->PySem.W.CodeHd h c a)/\∃ps,H a=a7 (.tbl ps)/\(b=b7->ps = #[])
 |.exc x=>∃C,PySem.W.nsIn K d9 x=a7 (a7<|.ref C)/\H a=a7 (.ext<|excO a<|.ref C)
def L9(mo:Option MO):Prop:=∃ds,mo=a7 (.kl ds)
def am(M:u8)(n:Nat)(xs:List D):Prop:=M[n]?=a7 (.lst xs)\/M[n]?=a7 (.fz xs)\/M[n]?=a7 (.kl xs)
structure w4(K:v4)(ρ:List c9)(M:u8)(H:Hp):Prop where
 nd:∀(n m:Nat) (a:c9),n≠m->ρ[n]?=a7 a->ρ[m]?=a7 a->L9 M[n]?\/L9 M[m]?
 len:ρ.length=M.length
 obj:∀(n:Nat) (a:c9) (mo:MO),ρ[n]?=a7 a->M[n]?=a7 mo->yK K ρ H a mo
structure Grow(K:v4)(ρ:List c9)(H:Hp)(ρ':List c9)(H':Hp):Prop where
 pre:ρ <+: ρ'
 tup:∀a xs,B8 K H a xs->B8 K H' a xs
theorem Grow.refl{K:v4}{ρ:List c9}{H:Hp}:Grow K ρ H ρ H:=⟨Nd,λ_ _ h=>h⟩
theorem Grow.trans{K:v4}{ρ c d:List c9}{H e f:Hp}(a:Grow K ρ H c e)(b:Grow K c e d f):Grow K ρ H d f:=⟨a.pre.trans b.pre,λx xs h=>b.tup x xs<|a.tup x xs h⟩
theorem ao{α:Type}{l l':List α}(h:l <+: l'){n:Nat}{a:α}(e:l[n]?=a7 a):l'[n]?=a7 a:=by obtain⟨t,rfl⟩:=h;rw[L5 (A6.mp e).1];exact e
theorem u5.grow{K:v4}{ρ ρ':List c9}{H H':Hp}(g:Grow K ρ H ρ' H'){d:D}{v:V}(h:u5 K ρ H d v):u5 K ρ' H' d v:=u5.rec (motive_1:=λd v _=>u5 K ρ' H' d v) (motive_2:=λds vs _=>Reps K ρ' H' ds vs) .non .bl .int .str .ty (λh _ r=>.tup (g.tup _ _ h) r) (λh=>.ref<|ao g.pre h) .nil (λ_ _ h t=>.cons h t) h
theorem Reps.grow{K:v4}{ρ ρ':List c9}{H H':Hp}(g:Grow K ρ H ρ' H'){ds:List D}{vs:List V}(h:Reps K ρ H ds vs):Reps K ρ' H' ds vs:=Reps.rec (motive_1:=λd v _=>u5 K ρ' H' d v) (motive_2:=λds vs _=>Reps K ρ' H' ds vs) .non .bl .int .str .ty (λh _ r=>.tup (g.tup _ _ h) r) (λh=>.ref<|ao g.pre h) .nil (λ_ _ h t=>.cons h t) h
section
variable{K:v4}{ρ ρ':List c9}{H H':Hp}{M:u8}
theorem Reps.length(h:Reps K ρ H ds vs):ds.length=vs.length:=Reps.rec (motive_1:=λ_ _ _=>True) (motive_2:=λds vs _=>ds.length=vs.length) trivial (λ_=>trivial) (λ_=>trivial) (λ_=>trivial) (λ_=>trivial) (λ_ _ _=>trivial) (λ_=>trivial) rfl (λ_ _ _ t=>t4 Nat.succ t) h
theorem Reps.append(h:Reps K ρ H ds vs)(s:Reps K ρ H es ws):Reps K ρ H (ds++es) (vs++ws):=Reps.rec (motive_1:=λ_ _ _=>True) (motive_2:=λds vs _=>Reps K ρ H (ds++es)<|vs++ws) trivial (λ_=>trivial) (λ_=>trivial) (λ_=>trivial) (λ_=>trivial) (λ_ _ _=>trivial) (λ_=>trivial) s (λh _ _ t=>.cons h t) h
theorem Reps.get:∀{ds:List D}{vs:List V}{i:Nat}{d:D},Reps K ρ H ds vs->ds[i]?=a7 d->∃v,vs[i]?=a7 v/\u5 K ρ H d v
 |_,_,_,_,.nil,e=>by simp at e
 |_,_,0,_,.cons r _,e=>by simp at e;subst e;exact⟨_,rfl,r⟩
 |_,_,i+1,d,.cons _ t,e=>by obtain⟨v,h1,h2⟩:=Reps.get (i:=i) (d:=d) t (by simpa using e);exact⟨v,by simpa using h1,h2⟩
theorem Reps.getV:∀{ds:List D}{vs:List V}{i:Nat}{v:V},Reps K ρ H ds vs->vs[i]?=a7 v->∃d,ds[i]?=a7 d/\u5 K ρ H d v
 |_,_,_,_,.nil,e=>by simp at e
 |_,_,0,_,.cons r _,e=>by simp at e;subst e;exact⟨_,rfl,r⟩
 |_,_,i+1,d,.cons _ t,e=>by obtain⟨v,h1,h2⟩:=Reps.getV (i:=i) (v:=d) t (by simpa using e);exact⟨v,by simpa using h1,h2⟩
theorem Reps.take:∀{ds:List D}{vs:List V} (n:Nat),Reps K ρ H ds vs->Reps K ρ H (ds.take n) (vs.take n)
 |_,_,0,_=>by simpa using .nil
 |_,_,_+1,.nil=>.nil
 |_,_,n+1,.cons r t=>.cons r<|Reps.take n t
theorem Reps.drop:∀{ds:List D}{vs:List V} (n:Nat),Reps K ρ H ds vs->Reps K ρ H (ds.drop n) (vs.drop n)
 |_,_,0,r=>r
 |_,_,_+1,.nil=>.nil
 |_,_,n+1,.cons _ t=>Reps.drop n t
theorem B8.laid(hp:H p=a8)(h:B8 K H a xs):B8 K (x3 H p o) a xs:=by
 rcases h with h|h;rcases h with h|⟨b,h⟩
 exact .inl (.inl<|by rw[ax<|ae h hp];exact h);exact .inl<|.inr ⟨b,by rw[ax<|ae h hp];exact h⟩;exact .inr h
theorem B8.written(hp:H p=a7 (.lst vs))(h:B8 K H a xs):B8 K (x3 H p o) a xs:=by
 rcases h with h|h;rcases h with h|⟨b,h⟩
 exact .inl (.inl<|by rw[ax<|yc h hp<|by intro z;cases z];exact h);exact .inl<|.inr ⟨b,by rw[ax<|yc h hp<|by intro z;cases z];exact h⟩;exact .inr h
theorem Grow.laid(hp:H p=a8):Grow K ρ H ρ (x3 H p o):=⟨Nd,λ_ _ h=>B8.laid hp h⟩
theorem Grow.laidR(hp:H p=a8):Grow K ρ H (ρ++[p]) (x3 H p o):=⟨Mm _ _,λ_ _ h=>B8.laid hp h⟩
theorem w4.tracked(S:w4 K ρ M H){n:Nat}{a:c9}(e:ρ[n]?=a7 a):(∃o,H a=a7 o)\/L9 M[n]?:=by
 have f:n<M.length:=by rw[<-S.len];exact(A6.mp e).1
 have d:M[n]?=a7 M[n]:=x9 f;have h:=S.obj n a _ e d;rw[d];cases c:M[n] with
 |lst ds=>rw[c]at h;obtain⟨vs,h,_⟩:=h;exact .inl ⟨_,h⟩
 |fz ds=>rw[c]at h;obtain⟨o,vs,h,_⟩:=h;exact .inl ⟨_,h⟩
 |kl ds=>exact .inr ⟨ds,rfl⟩
 |dct kvs=>rw[c]at h;obtain⟨vs,h,_⟩:=h;exact .inl ⟨_,h⟩
 |dkt kvs=>rw[c]at h;obtain⟨_,_,_,xs,h,_⟩:=h;exact .inl ⟨_,h⟩
 |dkq _ kvs=>rw[c]at h;obtain⟨_,_,_,xs,h,_⟩:=h;exact .inl ⟨_,h⟩
 |fdc o kvs=>rw[c]at h;obtain⟨vs,h,_⟩:=h;exact .inl ⟨_,h⟩
 |dkm kvs=>rw[c]at h;obtain⟨_,_,_,xs,h,_⟩:=h;exact .inl ⟨_,h⟩
 |tb x b=>rw[c]at h;obtain⟨_,ps,h,_⟩:=h;exact .inl ⟨_,h⟩
 |exc x=>rw[c]at h;obtain⟨_,_,h⟩:=h;exact .inl ⟨_,h⟩
theorem yK.grow(g:Grow K ρ H ρ' H')(hs:H' a=H a\/L9 (a7 mo))(h:yK K ρ H a mo):yK K ρ' H' a mo:=by
 cases mo with
 |lst ds =>
  obtain⟨vs,e,r⟩:=h;rcases hs with hs|⟨_,z⟩
  exact⟨vs,by rw[hs];exact e,r.grow g⟩;cases z
 |fz ds =>
  obtain⟨o,vs,e,r⟩:=h;rcases hs with hs|⟨_,z⟩
  exact⟨o,vs,by rw[hs];exact e,r.grow g⟩;cases z
 |fdc o kvs =>
  obtain⟨vs,e,r⟩:=h;rcases hs with hs|⟨_,z⟩
  exact⟨vs,by rw[hs];exact e,r.grow g⟩;cases z
 |tb x b =>
  obtain⟨c,ps,e,q⟩:=h;rcases hs with hs|⟨_,z⟩
  exact⟨c,ps,by rw[hs];exact e,q⟩;cases z
 |exc x =>
  obtain⟨C,e,q⟩:=h;rcases hs with hs|⟨_,z⟩
  exact⟨C,e,by rw[hs];exact q⟩;cases z
 |kl ds=>obtain⟨vs,e,r⟩:=h;exact⟨vs,e,r.grow g⟩
 |dkm kvs =>
  obtain⟨h1,h2,d,xs,e,r⟩:=h;rcases hs with hs|⟨_,z⟩
  exact⟨h1,h2,d,xs,by rw[hs];exact e,Paired.mapP r λ_ _ ⟨f,j,⟨u,k,m⟩,v,i,l⟩=>⟨f,j,⟨u,k.grow g,m⟩,v,i.grow g,l⟩⟩;cases z
 |dct kvs =>
  obtain⟨vs,e,r⟩:=h;rcases hs with hs|⟨_,z⟩
  exact⟨vs,by rw[hs];exact e,r.grow g⟩;cases z
 |dkt kvs =>
  obtain⟨h1,h2,d,xs,e,r⟩:=h;rcases hs with hs|⟨_,z⟩
  exact⟨h1,h2,d,xs,by rw[hs];exact e,Paired.mapP r λ_ _ ⟨f,j,k,v,i,l⟩=>⟨f,j,k.grow g,v,i.grow g,l⟩⟩;cases z
 |dkq _ kvs =>
  obtain⟨h1,h2,d,xs,e,r⟩:=h;rcases hs with hs|⟨_,z⟩
  exact⟨h1,h2,d,xs,by rw[hs];exact e,Paired.mapP r λ_ _ ⟨f,j,k,v,i,l⟩=>⟨f,j,k.grow g,v,i.grow g,l⟩⟩;cases z
theorem w4.keeps{p:c9}{o:HO}(S:w4 K ρ M H)(hp:H p=a8){n:Nat}{a:c9}{mo:MO}(t:ρ[n]?=a7 a)(l:M[n]?=a7 mo):x3 H p o a=H a\/L9 (a7 mo):=by rcases S.tracked t with⟨c,b⟩|q;exact .inl<|ax<|ae b hp;rw[l]at q;exact .inr q
theorem w4.laid{p:c9}{o:HO}(S:w4 K ρ M H)(hp:H p=a8):w4 K ρ M (x3 H p o):=⟨S.nd,S.len,λn a m t l=>(S.obj n a m t l).grow (Grow.laid hp)<|S.keeps hp t l⟩
theorem aZ{α:Type}{l:List α}{x y:α}{n:Nat}(h:(l++[x])[n]?=a7 y):l[n]?=a7 y\/(n=l.length/\y=x):=by
 by_cases f:n<l.length;rw[L5 f]at h;exact .inl h;have a:n=l.length:=by have:=(A6.mp h).1;rw[A3,F3]at this;lia
 subst a;rw[MC<|v6 _,NL]at h;simp at h;exact .inr ⟨rfl,h.symm⟩
theorem L9.more{mo:MO}{n:Nat}(h:L9 M[n]?):L9 (M++[mo])[n]?:=by obtain⟨ds,e⟩:=h;exact⟨ds,by rw[L5 (A6.mp e).1];exact e⟩
theorem w4.laidL{p:c9}{ds:List D}{vs:List V}(S:w4 K ρ M H)(hp:H p=a8)(r:Reps K ρ H ds vs):w4 K (ρ++[p]) (M++[.lst ds]) (x3 H p<|.lst vs):=by
 have g:Grow K ρ H (ρ++[p]) (x3 H p<|.lst vs):=Grow.laidR hp;have d:∀(n:Nat),ρ[n]?=a7 p->L9 M[n]?:=λn e=>by rcases S.tracked e with⟨o,q⟩|q;rw[hp]at q;cases q;exact q
 refine⟨λn m a h t l=>?_,by rw[A3,A3,S.len];rfl,λn a i t l=>?_⟩;rcases aZ t with f|⟨f,g1⟩
 rcases aZ l with N|⟨N,b⟩
 exact(S.nd n m a h f N).elim (λz=>.inl z.more) λz=>.inr z.more;subst b;exact .inl (d n f).more;rcases aZ l with N|⟨N,b⟩
 subst g1;exact .inr (d m N).more;exact p7 (f.trans N.symm) h;rcases aZ t with f|⟨f,g1⟩
 have c:n<M.length:=by rw[<-S.len];exact(A6.mp f).1
 rw[L5 c]at l;exact(S.obj n a i f l).grow g<|S.keeps hp f l;subst g1 f;rw[S.len,MC<|v6 _,NL]at l;simp at l;subst l;exact⟨vs,aP,r.grow g⟩
theorem w4.last(S:w4 K ρ M H):(ρ++[p])[M.length]?=a7 p:=by rw[<-S.len,MC<|v6 _,NL];rfl
theorem w4.write(S:w4 K ρ M H)(t:ρ[n]?=a7 a)(s:M[n]?=a7 (.lst ds))(p:H a=a7 (.lst vs))(r:Reps K ρ H ds' vs'):w4 K ρ (M.set n<|.lst ds') (x3 H a<|.lst vs')/\Grow K ρ H ρ (x3 H a<|.lst vs'):=by
 have g:Grow K ρ H ρ (x3 H a<|.lst vs'):=⟨Nd,λ_ _ h=>B8.written p h⟩
 have k:∀m,m≠n->(M.set n<|.lst ds')[m]?=M[m]?:=λm d=>MB<|z9 d;have c:¬L9 M[n]?:=λ⟨_,z⟩=>by rw[s]at z;cases z
 refine⟨⟨λm j b e f N=>?_,by rw[NE];exact S.len,λm b o f N=>?_⟩,g⟩;have q:=S.nd m j b e f N;by_cases h1:m=n;subst h1;rw[k j<|z9 e];exact .inr<|q.resolve_left c;rw[k m h1];by_cases h2:j=n;subst h2;exact .inl<|q.resolve_right c;rw[k j h2];exact q;by_cases d:m=n;subst d;have i:b=a:=C3<|f.symm.trans t;subst i;rw[MX<|by rw[<-S.len];exact(A6.mp t).1]at N;cases N;exact⟨vs',aP,r.grow g⟩;rw[k m d]at N;by_cases i:b=a;subst i;have q:=S.nd m n b d f t;have l:=q.resolve_right c;rw[N]at l;exact(S.obj m b o f N).grow g<|.inr l;exact(S.obj m b o f N).grow g<|.inl<|ax i
theorem am.seq(S:w4 K ρ M H)(h:am M n xs)(e:ρ[n]?=a7 a):∃vs,F7 K H a vs/\Reps K ρ H xs vs:=by rcases h with h|h|h;obtain⟨vs,q,r⟩:=S.obj n a _ e h;exact⟨vs,.inl<|.inl q,r⟩;obtain⟨o,vs,q,r⟩:=S.obj n a _ e h;exact⟨vs,.inl<|.inr ⟨o,q⟩,r⟩;obtain⟨vs,q,r⟩:=S.obj n a _ e h;exact⟨vs,.inr q,r⟩
theorem w4.get(S:w4 K ρ M H){n:Nat}{mo:MO}(e:M[n]?=a7 mo):∃a,ρ[n]?=a7 a/\yK K ρ H a mo:=by
 have f:n<ρ.length:=by rw[S.len];exact(A6.mp e).1
 exact⟨ρ[n],x9 f,S.obj n _ mo (x9 f) e⟩
end
noncomputable abbrev SD:=List<|Option D
structure SRep(K:v4)(ρ:List c9)(H:Hp)(S:SD)(σ:St):Prop where
 len:S.length=σ.length
 get:∀(i:Nat) (d:D),S[i]?=a7 (a7 d)->∃v,σ[i]?=a7 (a7 v)/\u5 K ρ H d v
theorem SRep.grow{K:v4}{ρ ρ':List c9}{H H':Hp}{S:SD}{σ:St}(r:SRep K ρ H S σ)(g:Grow K ρ H ρ' H'):SRep K ρ' H' S σ:=⟨r.len,λi d e=>let ⟨v,h1,h2⟩:=r.get i d e;⟨v,h1,h2.grow g⟩⟩
theorem SRep.set{K:v4}{ρ:List c9}{H:Hp}{S:SD}{σ:St}(r:SRep K ρ H S σ)(i:Nat){d:D}{v:V}(h:u5 K ρ H d v):SRep K ρ H (S.set i<|a7 d) (σ.set i<|a7 v):=by refine⟨by rw[NE,NE];exact r.len,λj e L=>?_⟩;by_cases a:i=j;subst a;by_cases g:i<S.length;rw[MX g]at L;cases L;exact⟨v,by rw[MX<|by rw[<-r.len];exact g],h⟩;rw[OE<|by rw[NE];lia]at L;cases L;rw[MB a]at L;rw[MB a];exact r.get j e L
abbrev DK:=D->u8->Prop
abbrev x6:=SD->u8->DK->Prop
abbrev F8:=SD->u8->(Bool->u8->Prop)->Prop
abbrev Fn:=SD->u8->(List D->u8->Prop)->Prop
structure DEnds where
 nx:SD->u8->Prop
 rt:DK
 bk:SD->u8->Prop:=λ_ _=>False
 ct:SD->u8->Prop:=λ_ _=>False
abbrev u3:=DEnds->SD->u8->Prop
abbrev Mh:=D->SD->u8->(SD->u8->Prop)->Prop
abbrev FJ:=List D->SD->u8->(SD->u8->Prop)->Prop
abbrev G8:=D->D->u8->DK->Prop
abbrev Ry:=D->u8->DK->Prop
abbrev C6:=List D->u8->DK->Prop
section
variable(K:v4)
inductive VQ(ρ:List c9)(H:Hp)(Q:DK)(v:V)(H':Hp):Prop
 |mk (d:D) (M':u8) (ρ':List c9) (s:w4 K ρ' M' H') (g:Grow K ρ H ρ' H') (r:u5 K ρ' H' d v) (q:Q d M')
inductive BQ(ρ:List c9)(H:Hp)(Q:Bool->u8->Prop)(b:Bool)(H':Hp):Prop
 |mk (M':u8) (ρ':List c9) (s:w4 K ρ' M' H') (g:Grow K ρ H ρ' H') (q:Q b M')
inductive AQ(ρ:List c9)(H:Hp)(Q:List D->u8->Prop)(vs:List V)(H':Hp):Prop
 |mk (ds:List D) (M':u8) (ρ':List c9) (s:w4 K ρ' M' H') (g:Grow K ρ H ρ' H') (r:Reps K ρ' H' ds vs) (q:Q ds M')
inductive SQ(ρ:List c9)(H:Hp)(Q:SD->u8->Prop)(σ':St)(H':Hp):Prop
 |mk (S':SD) (M':u8) (ρ':List c9) (s:w4 K ρ' M' H') (g:Grow K ρ H ρ' H') (r:SRep K ρ' H' S' σ') (q:Q S' M')
structure Po(ρ:List c9)(H:Hp)(F:DEnds)(E:Ends):Prop where
 nx:∀σ' H',SQ K ρ H F.nx σ' H'->E.nx σ' H'
 rt:∀v H',VQ K ρ H F.rt v H'->E.rt v H'
 bk:∀σ' H',SQ K ρ H F.bk σ' H'->E.bk σ' H'
 ct:∀σ' H',SQ K ρ H F.ct σ' H'->E.ct σ' H'
inductive lowE(t:x6)(σ:St)(H:Hp)(R:VK):Prop
 |mk (S:SD) (M:u8) (ρ:List c9) (Q:DK) (s:w4 K ρ M H) (sr:SRep K ρ H S σ) (q:t S M Q) (k:∀v H',VQ K ρ H Q v H'->R v H')
inductive lowT(t:F8)(σ:St)(H:Hp)(R:Bool->Hp->Prop):Prop
 |mk (S:SD) (M:u8) (ρ:List c9) (Q:Bool->u8->Prop) (s:w4 K ρ M H) (sr:SRep K ρ H S σ) (q:t S M Q) (k:∀v H',BQ K ρ H Q v H'->R v H')
inductive lowA(t:Fn)(σ:St)(H:Hp)(R:List V->Hp->Prop):Prop
 |mk (S:SD) (M:u8) (ρ:List c9) (Q:List D->u8->Prop) (s:w4 K ρ M H) (sr:SRep K ρ H S σ) (q:t S M Q) (k:∀v H',AQ K ρ H Q v H'->R v H')
inductive lowS(t:u3)(E:Ends)(σ:St)(H:Hp):Prop
 |mk (S:SD) (M:u8) (ρ:List c9) (F:DEnds) (s:w4 K ρ M H) (sr:SRep K ρ H S σ) (q:t F S M) (k:Po K ρ H F E)
inductive lowG(g:Mh)(v:V)(σ:St)(H:Hp)(R:St->Hp->Prop):Prop
 |mk (d:D) (S:SD) (M:u8) (ρ:List c9) (Q:SD->u8->Prop) (s:w4 K ρ M H) (sr:SRep K ρ H S σ) (r:u5 K ρ H d v) (q:g d S M Q) (k:∀σ' H',SQ K ρ H Q σ' H'->R σ' H')
inductive lowGs(g:FJ)(vs:List V)(σ:St)(H:Hp)(R:St->Hp->Prop):Prop
 |mk (ds:List D) (S:SD) (M:u8) (ρ:List c9) (Q:SD->u8->Prop) (s:w4 K ρ M H) (sr:SRep K ρ H S σ) (r:Reps K ρ H ds vs) (q:g ds S M Q) (k:∀σ' H',SQ K ρ H Q σ' H'->R σ' H')
inductive lowR(r:G8)(vx vy:V)(H:Hp)(R:VK):Prop
 |mk (x y:D) (M:u8) (ρ:List c9) (Q:DK) (s:w4 K ρ M H) (r1:u5 K ρ H x vx) (r2:u5 K ρ H y vy) (q:r x y M Q) (k:∀v H',VQ K ρ H Q v H'->R v H')
inductive lowU(r:Ry)(vx:V)(H:Hp)(R:VK):Prop
 |mk (x:D) (M:u8) (ρ:List c9) (Q:DK) (s:w4 K ρ M H) (r1:u5 K ρ H x vx) (q:r x M Q) (k:∀v H',VQ K ρ H Q v H'->R v H')
inductive lowC(r:C6)(vs:List V)(H:Hp)(R:VK):Prop
 |mk (ds:List D) (M:u8) (ρ:List c9) (Q:DK) (s:w4 K ρ M H) (r1:Reps K ρ H ds vs) (q:r ds M Q) (k:∀v H',VQ K ρ H Q v H'->R v H')
end
def DE(X:Cx)(e:ge)(t:x6):Prop:=PE X e<|lowE X.K t
def DT(X:Cx)(e:ge)(t:F8):Prop:=PT X e<|lowT X.K t
def DW(X:Cx)(e:ge)(t:F8):Prop:=PW X e<|lowT X.K t
def DA(X:Cx)(es:List ge)(t:Fn):Prop:=PA X es<|lowA X.K t
def DS(X:Cx)(st:i3)(t:u3):Prop:=PS X st<|lowS X.K t
def Nm(X:Cx)(st:List i3)(t:u3):Prop:=K8 X st<|lowS X.K t
def DG(X:Cx)(t:ge)(g:Mh):Prop:=PG X t<|lowG X.K g
def Pw(X:Cx)(t:List ge)(g:FJ):Prop:=Pt X t<|lowGs X.K g
def J0(X:Cx)(f:b8->b8->Sem b8)(r:G8):Prop:=D7 X f<|lowR X.K r
def UnD(X:Cx)(f:b8->Sem b8)(r:Ry):Prop:=UnR X f<|lowU X.K r
def iW(X:Cx)(f:b8)(r:C6):Prop:=fF X f<|lowC X.K r
section
variable{K:v4}{ρ ρ1:List c9}{H H1:Hp}
theorem VQ.trans(g:Grow K ρ H ρ1 H1)(h:VQ K ρ1 H1 Q v H'):VQ K ρ H Q v H':=by obtain⟨d,M',ρ',s,a,r,q⟩:=h;exact⟨d,M',ρ',s,g.trans a,r,q⟩
theorem BQ.trans(g:Grow K ρ H ρ1 H1)(h:BQ K ρ1 H1 Q v H'):BQ K ρ H Q v H':=by obtain⟨M',ρ',s,a,q⟩:=h;exact⟨M',ρ',s,g.trans a,q⟩
theorem SQ.trans(g:Grow K ρ H ρ1 H1)(h:SQ K ρ1 H1 Q v H'):SQ K ρ H Q v H':=by obtain⟨d,M',ρ',s,a,r,q⟩:=h;exact⟨d,M',ρ',s,g.trans a,r,q⟩
theorem Po.trans(g:Grow K ρ H ρ1 H1)(h:Po K ρ H F E):Po K ρ1 H1 F E:=⟨λa H' q=>h.nx a H'<|SQ.trans g q,λv H' q=>h.rt v H'<|VQ.trans g q,λa H' q=>h.bk a H'<|SQ.trans g q,λa H' q=>h.ct a H'<|SQ.trans g q⟩
theorem VQ.now(s:w4 K ρ M H)(r:u5 K ρ H d v)(q:Q d M):VQ K ρ H Q v H:=⟨d,M,ρ,s,.refl,r,q⟩
end
section
variable{K:v4}{ρ:List c9}{H:Hp}{v:V}{vs:List V}
theorem u5.inv_non(h:u5 K ρ H .non v):v=.non:=by cases h;rfl
theorem u5.inv_bl(h:u5 K ρ H (.bl b) v):v=.bl b:=by cases h;rfl
theorem u5.inv_int(h:u5 K ρ H (.int i) v):v=.int i:=by cases h;rfl
theorem u5.inv_str(h:u5 K ρ H (.str x) v):v=.str x:=by cases h;rfl
theorem u5.inv_ty(h:u5 K ρ H (.ty n) v):v=.ty n:=by cases h;rfl
theorem u5.inv_tup(h:u5 K ρ H (.tup ds) v):∃a vs,v=.ref a/\B8 K H a vs/\Reps K ρ H ds vs:=by cases h with|tup h r=>exact⟨_,_,rfl,h,r⟩
theorem u5.inv_ref(h:u5 K ρ H (.ref n) v):∃a,v=.ref a/\ρ[n]?=a7 a:=by cases h with|ref h=>exact⟨_,rfl,h⟩
theorem aw.inv_cons(h:aw (x::vs) us):∃u ws,us=u::ws/\aL x u/\aw vs ws:=by cases h with|cons h t=>exact⟨_,_,rfl,h,t⟩
theorem aw.inv_nil(h:aw [] us):us=[]:=by cases h;rfl
theorem Reps.inv_nil(h:Reps K ρ H [] vs):vs=[]:=by cases h;rfl
theorem Reps.inv_cons(h:Reps K ρ H (d::ds) vs):∃v ws,vs=v::ws/\u5 K ρ H d v/\Reps K ρ H ds ws:=by cases h with|cons h t=>exact⟨_,_,rfl,h,t⟩
end
end
theorem PE.imp(h:PE X e t')(i:∀σ H R,t σ H R->t' σ H R):PE X e t:=λp s σ H R I q=>h p s σ H R I<|i σ H R q
theorem PT.imp(h:PT X e t')(i:∀σ H R,t σ H R->t' σ H R):PT X e t:=λp s σ H R I q=>h p s σ H R I<|i σ H R q
theorem PW.imp(h:PW X e t')(i:∀σ H R,t σ H R->t' σ H R):PW X e t:=λw p s σ H R I q=>h w p s σ H R I<|i σ H R q
theorem PA.imp(h:PA X e t')(i:∀σ H R,t σ H R->t' σ H R):PA X e t:=λa p s σ H R I q=>h a p s σ H R I<|i σ H R q
theorem PS.imp(h:PS X e t')(i:∀E σ H,t E σ H->t' E σ H):PS X e t:=λp s σ H R I q=>h p s σ H R I<|i R σ H q
theorem K8.imp(h:K8 X e t')(i:∀E σ H,t E σ H->t' E σ H):K8 X e t:=λp s σ H R I q=>h p s σ H R I<|i R σ H q
theorem D7.imp(h:D7 X f r')(i:∀x y H R,r x y H R->r' x y H R):D7 X f r:=λp s σ H x y v u R I a b q=>h p s σ H x y v u R I a b<|i x y H R q
theorem fF.imp(h:fF X f r')(i:∀xs H R,r xs H R->r' xs H R):fF X f r:=λp s σ H xs us R I a q=>h p s σ H xs us R I a<|i xs H R q
section
variable{X:Cx}{a b c:ge}{ta tb tc:x6}{pos:Pos}
def ab(i:Nat):x6:=λS M Q=>match S[i]? with
 |some (a7 d)=>Q d M
 |_=>False
def dC(d:D):x6:=λ_ M Q=>Q d M
theorem Du{K:v4}{i:Nat}(σ:St)(H:Hp)(R:VK)(h:lowE K (ab i) σ H R):tVar i σ H R:=by
 obtain⟨S,M,ρ,Q,s,r,q,k⟩:=h;unfold ab at q;cases e:S[i]? with
 |none=>rw[e]at q;exact q.elim
 |some o =>
  cases o with
  |none=>rw[e]at q;exact q.elim
  |some d=>rw[e]at q;obtain⟨v,c,a⟩:=r.get i d e;exact⟨v,c,k v H<|VQ.now s a q⟩
theorem d_var(h:X.N[i]?=a7 x:=by rfl)(c:Om X.env.scope x:=by first|exact Or.inl rfl|exact Or.inr (Or.inl rfl)|exact Or.inr<|Or.inr rfl)(a:(x==("__debug__":b9))=b7:=by decide)(d:(x==("__classdict__":b9))=b7:=by decide):DE X (.Name x pos) (ab i):=PE.imp (Fk h c a d) Du
noncomputable def cV:D->Option V
 |.non=>a7 .non
 |.bl b=>a7<|.bl b
 |.int i=>a7<|.int i
 |.str x=>a7<|.str x
 |.ty n=>a7<|.ty n
 |_=>a8
theorem BN{K:v4}{ρ:List c9}{H:Hp}{d:D}{v:V}(h:cV d=a7 v):u5 K ρ H d v:=by
 cases d with
 |non=>cases h;exact .non
 |bl b=>cases h;exact .bl b
 |int b=>cases h;exact .int b
 |str b=>cases h;exact .str b
 |ty b=>cases h;exact .ty b
 |tup b=>cases h
 |ref b=>cases h
theorem tK{K:v4}{d:D}{v:V}(a:cV d=a7 v)(σ:St)(H:Hp)(R:VK)(h:lowE K (dC d) σ H R):tC v σ H R:=by obtain⟨S,M,ρ,Q,s,r,q,k⟩:=h;exact k v H<|VQ.now s (BN a) q
theorem d_int{i:Int}{j:Nat}:DE X (.Constant (.int i) j pos) (dC<|.int i):=PE.imp JC<|tK rfl
theorem d_bl{i:Bool}{j:Nat}:DE X (.Constant (.bool i) j pos) (dC<|.bl i):=PE.imp pe_bl<|tK rfl
theorem d_non{j:Nat}:DE X (.Constant .none j pos) (dC .non):=PE.imp JA<|tK rfl
theorem d_str{i:b9}{j:Nat}:DE X (.Constant (.str i) j pos) (dC<|.str i):=PE.imp Jx<|tK rfl
theorem LG{x:b9}{T:String}(m:X.mg x=a8)(c:e7 x=a7 (.type T))(R:Gl X x:=by rfl)(f:x≠"__name__":=by decide)(d:(x==("__debug__":b9))=b7:=by decide):DE X (.Name x pos) (dC<|.ty T):=PE.imp (Gv (v:=.ty T) R m c rfl f d)<|tK rfl
theorem low2{K:v4}{S:SD}{M:u8}{ρ:List c9}{σ:St}{H:Hp}{P:D->D->u8->Prop}{G:V->V->Hp->Prop}(s:w4 K ρ M H)(r:SRep K ρ H S σ)(h:ta S M λx M1=>tb S M1 λy M2=>P x y M2)(k:∀x y vx vy M2 ρ2 H2,w4 K ρ2 M2 H2->Grow K ρ H ρ2 H2->u5 K ρ2 H2 x vx->u5 K ρ2 H2 y vy->P x y M2->G vx vy H2):lowE K ta σ H λvx H1=>lowE K tb σ H1 λvy H2=>G vx vy H2:=by refine⟨S,M,ρ,_,s,r,h,?_⟩;rintro vx H1 ⟨x,M1,c,f,g1,a,q⟩;refine⟨S,M1,c,_,f,r.grow g1,q,?_⟩;rintro vy H2 ⟨y,M2,ρ2,w,b,m,j⟩;exact k x y vx vy M2 ρ2 H2 w (g1.trans b) (a.grow b) m j
def t7(r:G8)(t b:x6):x6:=λS M Q=>t S M λx a=>b S a λy M2=>r x y M2 Q
theorem qq{K:v4}{r:G8}(σ:St)(H:Hp)(R:VK)(h:lowE K (t7 r ta tb) σ H R):Pg (lowR K r) (lowE K ta) (lowE K tb) σ H R:=by obtain⟨S,M,ρ,Q,s,e,q,k⟩:=h;exact low2 s e q λx y g i M2 d f c b a m j=>⟨x,y,M2,d,Q,c,a,m,j,λv H' w=>k v H'<|VQ.trans b w⟩
theorem d_op(B:J0 X (j3 op) r)(f:DE X a ta)(d:DE X b tb):DE X (.BinOp a op b pos) (t7 r ta tb):=PE.imp (pe_op B f d) qq
theorem d_cmp(B:J0 X (j4 op) r)(f:DE X a ta)(d:DE X b tb)(m:j5 op b=b7:=by with_unfolding_all rfl):DE X (.Compare a [op] [b] pos) (t7 r ta tb):=PE.imp (Gs B f d m) qq
def au(t:x6):F8:=λS M Q=>t S M λx M'=>match x with
 |.bl b=>Q b M'
 |_=>False
theorem tJ{K:v4}{t:x6}(σ:St)(H:Hp)(R:Bool->Hp->Prop)(h:lowT K (au t) σ H R):IU (lowE K t) σ H R:=by
 obtain⟨S,M,ρ,Q,s,e,q,k⟩:=h;refine⟨S,M,ρ,_,s,e,q,?_⟩;rintro v H' ⟨d,M',ρ',s',a,r',j⟩;cases r' with
 |bl b=>exact⟨b,rfl,k b H' ⟨M',ρ',s',a,j⟩⟩
 |_=>exact j.elim
theorem Lp(B:J0 X (j4 op) r)(f:DE X a ta)(d:DE X b tb)(m:j5 op b=b7:=by with_unfolding_all rfl):DT X (.Compare a [op] [b] pos) (au<|t7 r ta tb):=by refine PT.imp (Gh B f d m) λσ H R h=>?_;obtain⟨S,M,ρ,Q,s,e,q,k⟩:=tJ σ H R h;exact qq σ H _ ⟨S,M,ρ,Q,s,e,q,k⟩
theorem Lm(h:DE X e t)(i:∀whole,isTrue e X.env whole=(do let v <-whole;standAt e.pos;i4 [v] (truthy v)):=by intro _;rfl):DT X e (au t):=PT.imp (Jo h i) tJ
def Rr(z:D)(k:Bool->Prop):Prop:=match z with
 |.bl b=>k b
 |_=>False
theorem Fl{b:Bool}{k:Bool->Prop}:Rr (.bl b) k=k b:=rfl
variable{tA tB:F8}{aM:List ge}
def qS(t u:F8):F8:=λS M Q=>t S M λb a=>if b=a9 then u S a Q else Q b7 a
def NI(t u:F8):F8:=λS M Q=>t S M λb a=>if b=a9 then Q a9 a else u S a Q
def BC(t:F8):F8:=λS M Q=>t S M λb a=>Q (!b) a
theorem HP(f:DT X a tA):DW X (.BoolOp .And [a] pos) tA:=Ge f
theorem Lk(f:DT X a tA):DW X (.BoolOp .Or [a] pos) tA:=Jl f
theorem Ll(i:DT X a tA)(j:DW X (.BoolOp .And (b::aM) pos) tB):DW X (.BoolOp .And (a::b::aM) pos) (qS tA tB):=by
 refine PW.imp (Jn i j) ?_;rintro σ H R ⟨S,M,ρ,Q,s,r,q,k⟩;refine⟨S,M,ρ,_,s,r,q,?_⟩;rintro c h ⟨e,d,g,g1,f⟩;cases c with
 |true=>exact ck ⟨S,e,d,Q,g,r.grow g1,(show tB S e Q from f),λv H' w=>k v H'<|BQ.trans g1 w⟩
 |false=>exact bR<|k b7 h ⟨e,d,g,g1,f⟩
theorem dw_or(i:DT X a tA)(j:DW X (.BoolOp .Or (b::aM) pos) tB):DW X (.BoolOp .Or (a::b::aM) pos) (NI tA tB):=by
 refine PW.imp (pw_or i j) ?_;rintro σ H R ⟨S,M,ρ,Q,s,r,q,k⟩;refine⟨S,M,ρ,_,s,r,q,?_⟩;rintro c h ⟨e,d,g,g1,f⟩;cases c with
 |false=>exact bR ⟨S,e,d,Q,g,r.grow g1,(show tB S e Q from f),λv H' w=>k v H'<|BQ.trans g1 w⟩
 |true=>exact ck<|k a9 h ⟨e,d,g,g1,f⟩
theorem dw_t(h:DW X e t):DT X e t:=PW.pt h
theorem Lo(f:DT X a tA):DT X (.UnaryOp .Not a pos) (BC tA):=by refine PT.imp (Jp f) ?_;rintro σ H R ⟨S,M,ρ,Q,s,r,q,k⟩;refine⟨S,M,ρ,_,s,r,q,?_⟩;rintro c d ⟨e,b,h,g1,g⟩;exact k (!c) d ⟨e,b,h,g1,g⟩
def qR(t c:x6):x6:=λS M Q=>t S M λx a=>Rr x λb=>if b=a9 then c S a Q else Q (.bl b7) a
def dOrV(t c:x6):x6:=λS M Q=>t S M λx a=>Rr x λb=>if b=a9 then Q (.bl a9) a else c S a Q
def EI(t:x6):x6:=λS M Q=>t S M λx a=>match x with
 |.bl b=>Q (.bl<|!b) a
 |_=>False
theorem d_one{op}(h:DE X a ta):DE X (.BoolOp op [a] pos) ta:=Jy h
theorem d_and(j:DE X a ta)(l:DE X (.BoolOp .And (b::aM) pos) tb):DE X (.BoolOp .And (a::b::aM) pos) (qR ta tb):=by
 refine PE.imp (JF j l) ?_;rintro σ H R ⟨S,M,ρ,Q,s,r,q,k⟩;refine⟨S,M,ρ,_,s,r,q,?_⟩;rintro v i ⟨d,f,e,h,g1,m,g⟩;cases m with
 |bl c =>
  cases c with
  |true=>exact⟨a9,rfl,ck ⟨S,f,e,Q,h,r.grow g1,(show tb S f Q from g),λv H' w=>k v H'<|VQ.trans g1 w⟩⟩
  |false=>exact⟨b7,rfl,bR<|k _ i ⟨_,f,e,h,g1,.bl b7,(show Q (.bl b7) f from g)⟩⟩
 |_=>exact g.elim
theorem d_or(j:DE X a ta)(l:DE X (.BoolOp .Or (b::aM) pos) tb):DE X (.BoolOp .Or (a::b::aM) pos) (dOrV ta tb):=by
 refine PE.imp (pe_or j l) ?_;rintro σ H R ⟨S,M,ρ,Q,s,r,q,k⟩;refine⟨S,M,ρ,_,s,r,q,?_⟩;rintro v i ⟨d,f,e,h,g1,m,g⟩;cases m with
 |bl c =>
  cases c with
  |false=>exact⟨b7,rfl,bR ⟨S,f,e,Q,h,r.grow g1,(show tb S f Q from g),λv H' w=>k v H'<|VQ.trans g1 w⟩⟩
  |true=>exact⟨a9,rfl,ck<|k _ i ⟨_,f,e,h,g1,.bl a9,(show Q (.bl a9) f from g)⟩⟩
 |_=>exact g.elim
theorem d_not(h:DE X a ta):DE X (.UnaryOp .Not a pos) (EI ta):=by
 refine PE.imp (Jz h) ?_;rintro σ H R ⟨S,M,ρ,Q,s,j,q,k⟩;refine⟨S,M,ρ,_,s,j,q,?_⟩;rintro v f ⟨d,g,b,i,g1,r,e⟩;cases r with
 |bl c=>exact⟨c,rfl,k _ f ⟨_,g,b,i,g1,.bl<|!c,e⟩⟩
 |_=>exact e.elim
def dIfE(t:F8)(c d:x6):x6:=λS M Q=>t S M λb a=>if b=a9 then c S a Q else d S a Q
theorem Il(j:DT X t tA)(h:DE X a ta)(i:DE X b tb):DE X (.IfExp t a b pos) (dIfE tA ta tb):=by
 refine PE.imp (CZ j h i) ?_;rintro σ H R ⟨S,M,ρ,Q,s,r,q,k⟩;refine⟨S,M,ρ,_,s,r,q,?_⟩;rintro c l ⟨e,d,g,g1,f⟩;cases c with
 |true=>exact ck ⟨S,e,d,Q,g,r.grow g1,(show ta S e Q from f),λv H' w=>k v H'<|VQ.trans g1 w⟩
 |false=>exact bR ⟨S,e,d,Q,g,r.grow g1,(show tb S e Q from f),λv H' w=>k v H'<|VQ.trans g1 w⟩
variable{e:ge}{es:List ge}{te:x6}{t:Fn}
def ag:Fn:=λ_ M Q=>Q [] M
def aa(te:x6)(t:Fn):Fn:=λS M Q=>te S M λd a=>t S a λds M2=>Q (d::ds) M2
theorem LF:DA X [] ag:=by refine PA.imp JG ?_;rintro σ H R ⟨S,M,ρ,Q,s,e,q,k⟩;exact k [] H ⟨[],M,ρ,s,.refl,.nil,q⟩
theorem Ij(h:DE X e te)(i:DA X es t)(hs:h7 (e::es) X.env=(b7,eval e X.env)::h7 es X.env:=by rfl):DA X (e::es) (aa te t):=by refine PA.imp (Gw h i hs) ?_;rintro σ H R ⟨S,M,ρ,Q,s,r,q,k⟩;refine⟨S,M,ρ,_,s,r,q,?_⟩;rintro v p ⟨d,g,c,o,g1,m,j⟩;refine⟨S,g,c,_,o,r.grow g1,j,?_⟩;rintro vs f ⟨ds,M2,a,w,b,n,l⟩;exact k _ f ⟨d::ds,M2,a,w,g1.trans b,.cons (m.grow b) n,l⟩
def fS(t:Fn):x6:=λS M Q=>t S M λds a=>ds.length<=sizeLine/\Q (.tup ds) a
def iA(t:Fn):x6:=λS M Q=>t S M λds a=>ds.length<=sizeLine/\Q (.ref a.length) (a++[.lst ds])
theorem VQ.laidT{K:v4}{ρ c:List c9}{H a:Hp}{M:u8}{ds:List D}{vs:List V}{Q:DK}{p:c9}(f:w4 K c M a)(g1:Grow K ρ H c a)(r:Reps K c a ds vs)(hp:a p=a8)(q:Q (.tup ds) M):VQ K ρ H Q (.ref p) (x3 a p<|.tup vs):=⟨.tup ds,M,c,f.laid hp,g1.trans<|Grow.laid hp,.tup (B8.of aP)<|r.grow<|Grow.laid hp,q⟩
theorem VQ.laidL{K:v4}{ρ c:List c9}{H a:Hp}{M:u8}{ds:List D}{vs:List V}{Q:DK}{p:c9}(f:w4 K c M a)(g1:Grow K ρ H c a)(r:Reps K c a ds vs)(hp:a p=a8)(q:Q (.ref M.length) (M++[.lst ds])):VQ K ρ H Q (.ref p) (x3 a p<|.lst vs):=⟨.ref M.length,M++[.lst ds],c++[p],f.laidL hp r,g1.trans<|Grow.laidR hp,.ref f.last,q⟩
theorem d_tup{x1}(h:DA X es t):DE X (.Tuple es x1 pos) (fS t):=by refine PE.imp (Jw h) ?_;rintro σ H R ⟨S,M,ρ,Q,s,e,q,k⟩;refine⟨S,M,ρ,_,s,e,q,?_⟩;rintro vs b ⟨ds,d,a,f,g1,r,z,c⟩;exact⟨by rw[<-r.length];exact z,λp hp=>k _ _<|VQ.laidT f g1 r hp c⟩
theorem d_lst(h:DA X es t):DE X (.List es pos) (iA t):=by refine PE.imp (JB h) ?_;rintro σ H R ⟨S,M,ρ,Q,s,e,q,k⟩;refine⟨S,M,ρ,_,s,e,q,?_⟩;rintro vs b ⟨ds,d,a,f,g1,r,z,c⟩;exact⟨by rw[<-r.length];exact z,λp hp=>k _ _<|VQ.laidL f g1 r hp c⟩
def u7(r:C6)(t:Fn):x6:=λS M Q=>t S M λds a=>r ds a Q
theorem Aq{K:v4}{r:C6}(σ:St)(H:Hp)(R:VK)(h:lowE K (u7 r t) σ H R):Rp (lowC K r) (lowA K t) σ H R:=by obtain⟨S,M,ρ,Q,s,e,q,k⟩:=h;refine⟨S,M,ρ,_,s,e,q,?_⟩;rintro vs g ⟨ds,a,c,f,g1,d,b⟩;exact⟨ds,a,c,Q,f,d,b,λv H' w=>k v H'<|VQ.trans g1 w⟩
theorem Im{x:b9}{p:Pos}{id:String}{r:C6}(c:iW X (.builtin id) r)(d:X.mg x=a8)(v:e7 x=a7 (.builtin id))(f:DA X (e::es) t)(R:Gl X x:=by rfl)(n:x≠"__name__":=by decide)(b:(x==("__debug__":b9))=b7:=by decide)(i:h7 (e::es) X.env=(b7,eval e X.env)::h7 es X.env:=by rfl) (l:(g9 pos<|h7 es X.env).any (·.1)=b7:=by rfl):DE X (.Call (.Name x p) (e::es) [] pos) (u7 r t):=PE.imp (Db c R d v f n b i l) Aq
theorem EF(c:iW X (.type T) r)(d:X.mg x=a8)(v:e7 x=a7 (.type T))(f:DA X (e::es) t)(R:Gl X x:=by rfl)(n:x≠"__name__":=by decide)(b:(x==("__debug__":b9))=b7:=by decide)(i:h7 (e::es) X.env=(b7,eval e X.env)::h7 es X.env:=by rfl) (l:(g9 pos<|h7 es X.env).any (·.1)=b7:=by rfl):DE X (.Call (.Name x p) (e::es) [] pos) (u7 r t):=PE.imp (zV c R d v f n b i l) Aq
abbrev A2:=List D->u8->DK->Prop
def MY(K:v4)(P:A2):Sp:=λvs H Q _=>∃ds M ρ R,w4 K ρ M H/\Reps K ρ H ds vs/\P ds M R/\∀v H',VQ K ρ H R v H'->Q v H'
theorem Ao{K:v4}{P:A2}(σ:St)(H:Hp)(R:VK)(h:lowE K (u7 P t) σ H R):IX (MY K P) [] E0 (lowA K t) σ H R:=by obtain⟨S,M,ρ,Q,s,e,q,k⟩:=h;exact⟨S,M,ρ,_,s,e,q,λvs d ⟨ds,a,c,f,g1,r,b⟩=>⟨ds,a,c,Q,f,by rw[MJ];exact r,b,λv H' w=>k v H'<|VQ.trans g1 w⟩⟩
theorem LN(F:FnOk X.prog X.w X.K X.mg X.base K9 k f fd ps (MY X.K P))(r:Room k X.A)(m:X.mg x=a7 (.ref f))(h:N7 X.K (.ref f)=a9)(d:uC X.K fd ps [])(a:DA X (e::es) t) (R:Gl X x:=by rfl) (b:(x==("__debug__":b9))=b7:=by decide) (i:h7 (e::es) X.env=(b7,eval e X.env)::h7 es X.env:=by rfl) (l:(g9 pos<|h7 es X.env).any (·.1)=b7:=by rfl):DE X (.Call (.Name x p) (e::es) [] pos) (u7 P t):=PE.imp (Gu F r R m h d .nil pass0 a b i l) Ao
end
def aT:u3:=λE S M=>E.nx S M
def ay(t u:u3):u3:=λE S M=>t { E with nx:=λa M'=>u E a M' } S M
theorem Lu:Nm X [] aT:=by refine K8.imp Gj ?_;rintro E σ H ⟨S,M,ρ,F,s,e,q,k⟩;exact k.nx σ H ⟨S,M,ρ,s,.refl,e,q⟩
theorem Ls{X:Cx}{st:i3}{t:u3}(h:DS X st t):Nm X [st] t:=Gi h
theorem HZ{X:Cx}{st:i3}{aM:List i3}{t u:u3}(h1:DS X st t)(h2:Nm X aM u):Nm X (st::aM) (ay t u):=by refine K8.imp (CS h1 h2) ?_;rintro E σ H ⟨S,M,ρ,F,s,e,q,k⟩;exact⟨S,M,ρ,_,s,e,q,⟨λc H' ⟨b,M',ρ',s',g,a,j⟩=>⟨b,M',ρ',F,s',a,j,k.trans g⟩,k.rt,k.bk,k.ct⟩⟩
def iU(te:x6):u3:=λE S M=>te S M λ_ a=>E.nx S a
theorem HY(i:DE X e te)(hs:i5 e a8 pos.line X.env=pure b7:=by rfl):DS X (.Expr e pos) (iU te):=by refine PS.imp (Gk i hs) ?_;rintro E σ H ⟨S,M,ρ,F,s,r,q,k⟩;refine⟨S,M,ρ,_,s,r,q,?_⟩;rintro v a ⟨d,b,c,g,g1,h,f⟩;exact k.nx σ a ⟨S,b,c,g,g1,r.grow g1,f⟩
def bp(te:x6):u3:=λE S M=>te S M E.rt
theorem Lr(i:DE X e te):DS X (.Return (a7 e) pos) (bp te):=by refine PS.imp (Jr i) ?_;rintro E σ H ⟨S,M,ρ,F,s,r,q,k⟩;exact⟨S,M,ρ,_,s,r,q,λv a w=>k.rt v a w⟩
def B9(c:F8)(t u:u3):u3:=λE S M=>c S M λb a=>if b=a9 then t E S a else u E S a
theorem ds_if(j:DT X c tc)(h:Nm X a t)(i:Nm X b u):DS X (.If c a b pos) (B9 tc t u):=by
 refine PS.imp (ps_if j h i) ?_;rintro E σ H ⟨S,M,ρ,F,s,r,q,k⟩;refine⟨S,M,ρ,_,s,r,q,?_⟩;rintro c l ⟨e,d,g,g1,f⟩;cases c with
 |true=>exact ck ⟨S,e,d,F,g,r.grow g1,(show t F S e from f),k.trans g1⟩
 |false=>exact bR ⟨S,e,d,F,g,r.grow g1,(show u F S e from f),k.trans g1⟩
def bc(te:x6)(i:Nat):u3:=λE S M=>te S M λd a=>E.nx (S.set i<|a7 d) a
theorem Lq(h:X.N.Nodup)(f:DE X e te)(hi:X.N[i]?=a7 x:=by rfl)(j:N1 X.env.scope x:=by first|exact Or.inl rfl|exact Or.inr rfl)(hs:i5 e (a7<|.Name x pos') pos.line X.env=pure b7:=by rfl)(g:X.fn x=a9\/X.env.scope.names.lookup x=a7 .local:=by first|exact .inl rfl|exact .inr rfl|assumption):DS X (.Assign [.Name x pos'] e pos) (bc te i):=by refine PS.imp (Jq h hi j f hs g) ?_;rintro E σ H ⟨S,M,ρ,F,s,r,q,k⟩;refine⟨S,M,ρ,_,s,r,q,?_⟩;rintro v a ⟨d,b,c,n,g1,m,l⟩;exact k.nx _ a ⟨_,b,c,n,g1,(r.grow g1).set i m,l⟩
def af(i:Nat):Mh:=λd S M Q=>Q (S.set i<|a7 d) M
theorem vO(h:X.N.Nodup)(hi:X.N[i]?=a7 x:=by rfl)(a:N1 X.env.scope x:=by first|exact Or.inl rfl|exact Or.inr rfl)(f:X.fn x=a9\/X.env.scope.names.lookup x=a7 .local:=by first|exact .inl rfl|exact .inr rfl|assumption):DG X (.Name x pos) (af i):=λp s σ H v u R I r ⟨d,S,M,ρ,Q,m,e,b,q,k⟩=>Gq h hi a f p s σ H v u R I r<|k _ H ⟨_,M,ρ,m,.refl,e.set i b,q⟩
theorem xI{P:c8}{w:c7}{K:v4}{tg:ge}(it:c9)(n:Nat)(N:Nat->b8->Prop)(PX:Nat->V->Prop)(Sx:Nat->d6->Prop)(W:∀A':e8,A'.handled=a8->Walks P w A' it [it] [it] n N Sx) (l:∀i v,N i v->∃x,aL x v/\PX i x)(j:∀i h,Sx i h->∃(o:d5) (nm:String) (vs:Array b8),h.get? it=a7 o/\o.cls=.type nm/\o.data=.fields vs/\["enumerate","zip","dict_itemiterator","dict_reverseitemiterator","odict_iterator","itertools.zip_longest","itertools.pairwise"].contains nm=b7)(a:∀(i:Nat) (h h':d6),Sx i h->(∀o,h.get? it=a7 o->h'.get? it=a7 o)->Sx i h')(g:∀(A:e8) (i:Nat) (s:f6) (Q:b8->f6->Prop) (E:b8->f6->Prop),Sx i s.heap->Q (.ref it) s->f9 (g7 P w) A (j0<|.ref it) Q E s):Turn P w K tg ⟨λi _=>i<n,λi H x H'=>H'=H/\PX i x,λi _=>i=n⟩ [it] it Sx where
 mem:=by simp
 obj:=λi h t b f=>by
  have e:b=it:=by simpa using f
  subst e;obtain⟨o,nm,vs,e,_,d,_⟩:=j i h t;exact⟨o,e,λv z=>by rw[d]at z;cases z⟩
 keep:=λi h h' t k=>a i h h' t λo e=>k it (by simp) o e
 item:=by intro X F J D G i p s σ H E I q t R;subst F J D;obtain⟨r,u,S,y,B,C⟩:=q it (by simp);refine(W X.A<|I.ok.hd G).item i s _ _ R t λv h' M U m L=>?_;obtain⟨x,Z,Y⟩:=l i v U;have O:t9 X p σ H { s with heap:=h',toks:=M }:=I.turned (λb o f e=>L b o (by simpa using f) e) r u y B C;obtain⟨o,nm,vs,e,c,d,T⟩:=j _ _ m;exact⟨v,rfl,vI (s:={ s with heap:=h',toks:=M }) e c d T ⟨x,H,O,Z,⟨rfl,Y⟩,m,λb f=>(q b f).1⟩⟩
 done:=by intro X F J D G i p s σ H E I q t R;subst F J D;obtain⟨r,u,S,y,B,C⟩:=q it (by simp);have hi:i=n:=R;subst hi;exact(W X.A<|I.ok.hd G).done s _ _ t λh' M L=>⟨rfl,I.turned (λb o f e=>L b o (by simpa using f) e) r u y B C⟩
 self:=g
noncomputable def zG(x:b9):List D:=x.cps.toList.map λc=>.str ⟨#[c]⟩
structure Rv where
 items:List D
 ok:u8->Prop
abbrev Mw:=SD->u8->(Rv->u8->Prop)->Prop
structure Mg(K:v4)(src:Rv)(ρ0:List c9)(H0:Hp)(J:It):Prop where
 go:∀(i:Nat) ρ M H,w4 K ρ M H->Grow K ρ0 H0 ρ H->src.ok M->i<src.items.length->J.go i H
 yld:∀(i:Nat) ρ M H x H',w4 K ρ M H->Grow K ρ0 H0 ρ H->src.ok M->i<src.items.length->J.yld i H x H'->∃d ρ',src.items[i]?=a7 d/\w4 K ρ' M H'/\Grow K ρ H ρ' H'/\u5 K ρ' H' d x
 stop:∀(ρ:List c9) M H,w4 K ρ M H->Grow K ρ0 H0 ρ H->src.ok M->J.stop src.items.length H
def IQ(K:v4)(ρ:List c9)(H:Hp)(Q:Rv->u8->Prop):It->Hp->Prop:=λJ H'=>∃src M' ρ',w4 K ρ' M' H'/\Grow K ρ H ρ' H'/\Mg K src ρ' H' J/\Q src M'
def lowI(K:v4)(i:Mw):TI:=λσ H R=>∃S M ρ Q,w4 K ρ M H/\SRep K ρ H S σ/\i S M Q/\∀J H',IQ K ρ H Q J H'->R J H'
def DI(X:Cx)(g r:ge)(i:Mw):Prop:=PI X g r<|lowI X.K i
theorem Mg.tup{K:v4}{ρ:List c9}{H:Hp}{a:c9}{vs:List V}{ds:List D}(h:B8 K H a vs)(r:Reps K ρ H ds vs)(q:∀ys,B8 K H a ys->ys=vs):Mg K ⟨ds,λ_=>True⟩ ρ H (R6 K a) where
 go:=λi ρ' M H' s g _ hi=>by
  have l:i<vs.length:=by rw[<-r.length];exact hi
  exact⟨vs,vs[i],g.tup a vs h,x9 l⟩
 yld:=λi ρ' M H' x e s g _ hi y=>by obtain⟨rfl,y⟩:=y;obtain⟨d,b,c⟩:=(r.grow g).getV<|y vs<|g.tup a vs h;exact⟨d,ρ',b,s,.refl,c⟩
 stop:=λρ' M H' s g _=>⟨vs,g.tup a vs h,by rw[<-r.length];exact v6 _⟩
theorem Mg.lst{K:v4}{ρ:List c9}{H:Hp}{n:Nat}{a:c9}{ds:List D}(e:ρ[n]?=a7 a):Mg K ⟨ds,λM=>am M n ds⟩ ρ H (R7 K a) where
 go:=λi ρ' M H' s g ok hi=>by
  obtain⟨vs,h,r⟩:=am.seq s ok<|ao g.pre e;have l:i<vs.length:=by rw[<-r.length];exact hi
  exact⟨vs,vs[i],h,x9 l⟩
 yld:=λi ρ' M H' x f s g ok hi y=>by obtain⟨rfl,y⟩:=y;obtain⟨vs,h,r⟩:=am.seq s ok<|ao g.pre e;obtain⟨d,b,c⟩:=r.getV<|y vs h;exact⟨d,ρ',b,s,.refl,c⟩
 stop:=λρ' M H' s g ok=>by obtain⟨vs,h,r⟩:=am.seq s ok<|ao g.pre e;exact⟨vs,h,by rw[<-r.length];exact v6 _⟩
theorem Mg.plain{K:v4}{ρ:List c9}{H:Hp}{ds:List D}{J:It}(R:∀i H,i<ds.length->J.go i H)(Q:∀i H x H',i<ds.length->J.yld i H x H'->H'=H/\∃d,ds[i]?=a7 d/\cV d=a7 x)(hs:∀H,J.stop ds.length H):Mg K ⟨ds,λ_=>True⟩ ρ H J where
 go:=λi ρ' M H' s g _ hi=>R i H' hi
 yld:=λi ρ' M H' x b s g _ hi y=>by obtain⟨rfl,d,h,c⟩:=Q i _ x b hi y;exact⟨d,ρ',h,s,.refl,BN c⟩
 stop:=λρ' M H' s g _=>hs H'
def bB(te:x6):Mw:=λS M R=>te S M λd a=>match d with
 |.tup ds=>ds.length<=sizeLine->R ⟨ds,λ_=>True⟩ a
 |.str x=>R ⟨zG x,λ_=>True⟩ a
 |.ref n=>∃xs,am a n xs/\(xs.length<=sizeLine->R ⟨xs,λM=>am M n xs⟩ a)
 |_=>False
theorem Lz(hl:DE X l tl):DI X tg l (bB tl):=by
 intro y s σ H R I h;obtain⟨S,M,ρ,Q,sm,sr,q,k⟩:=h;refine w9 (hl y s σ H _ I ⟨S,M,ρ,_,sm,sr,q,λv H' w=>w⟩) ?_;rintro u f ⟨v,F,g,V,d,G,D,j,g1,r1,C⟩;cases r1 with
 |non=>exact C.elim
 |bl b=>exact C.elim
 |int i=>exact C.elim
 |ty n=>exact C.elim
 |@tup a vs ds L r =>
  cases V;obtain⟨its,rr,p,U⟩:=g.tuple L;refine wpAny_pyIter_tuple (show f.heap.IsTuple a its.toArray from p) ?_;refine⟨f.heap.objs.size,[f.heap.objs.size],_,_,F,rfl,g.kept (t':=f.toks) λb o e=>x5 _ e,xJ a _,⟨_,A8 _ rfl,rfl,rfl⟩,λb K=>?_,k _ F ⟨⟨ds,λ_=>True⟩,G,D,j,g1,Mg.tup L r λys hy=>g.tuple_inj hy L,?_⟩⟩;have e:b=f.heap.objs.size:=by simpa using K
  subst e;exact g.fpOk (v6 _)<|g.hok.fresh<|v6 _;exact(show ds.length<=sizeLine->Q ⟨ds,λ_=>True⟩ G from C)<|by rw[r.length];exact U
 |@ref n a Z =>
  cases V;obtain⟨xs,hL,q2⟩:=(show ∃xs,am G n xs/\(xs.length<=sizeLine->Q ⟨xs,λM=>am M n xs⟩ G)from C)
  obtain⟨vs,L,r⟩:=am.seq j hL Z;obtain⟨its,rr,p,U⟩:=g.list L;refine QO p.isList ?_;refine⟨f.heap.objs.size,[f.heap.objs.size],_,_,F,rfl,g.kept (t':=f.toks) λb o e=>x5 _ e,yQ a _,⟨_,A8 _ rfl,rfl,rfl⟩,λb K=>?_,k _ F ⟨⟨xs,λM=>am M n xs⟩,G,D,j,g1,Mg.lst Z,q2<|by rw[r.length];exact U⟩⟩;have e:b=f.heap.objs.size:=by simpa using K
  subst e;exact g.fpOk (v6 _)<|g.hok.fresh<|v6 _
 |str x =>
  obtain⟨t,rfl⟩:=V;have J:∀(B:String) (N:d5),(N.cls=.type B/\N.data=.fields #[.str x t,.int 0 0]) -> (∀O:e8,O.handled=a8->Walks X.prog X.w O f.heap.objs.size [f.heap.objs.size] [f.heap.objs.size] x.cps.size (SignAt x) (λi h=>h.IsStrIter f.heap.objs.size B x t i)) -> (∀(A:e8) (i:Nat) (s:f6) (Q:b8->f6->Prop) (E:b8->f6->Prop),s.heap.IsStrIter f.heap.objs.size B x t i->Q (.ref f.heap.objs.size) s->f9 (g7 X.prog X.w) A (j0<|.ref f.heap.objs.size) Q E s) -> ["enumerate","zip","dict_itemiterator","dict_reverseitemiterator","odict_iterator","itertools.zip_longest","itertools.pairwise"].contains B=b7->(f.heap.push N).IsStrIter f.heap.objs.size B x t 0 -> Ps X y σ tg R (.ref f.heap.objs.size) { f with heap:=f.heap.push N }:=λB N ai W z T m=>by
   refine⟨f.heap.objs.size,[f.heap.objs.size],_,_,F,rfl,g.kept (t':=f.toks) λb o e=>x5 _ e,xI (PX:=λi v=>∃c,x.cps[i]?=a7 c/\v=.str ⟨#[c]⟩) _ _ _ _ W (λi v ⟨c,u,e1,e2⟩=>⟨.str ⟨#[c]⟩,⟨u,e2⟩,c,e1,rfl⟩) (λi h m=>?_) (λi h h' m k=>?_) z,m,λb K=>?_,k _ F ⟨⟨zG x,λ_=>True⟩,G,D,j,g1,Mg.plain ?_ ?_ ?_,C⟩⟩;obtain⟨o,e,c,d⟩:=m;exact⟨o,B,_,e,c,d,T⟩;obtain⟨o,e,r⟩:=m;exact⟨o,k o e,r⟩;have e:b=f.heap.objs.size:=by simpa using K
   subst e;exact g.fpOk (v6 _)<|g.hok.fresh<|v6 _;intro i _ hi;simpa [zG]using hi;rintro i H x' H' _ ⟨rfl,c,e,rfl⟩;exact⟨rfl,.str ⟨#[c]⟩,by simp[zG,e],rfl⟩;intro H;simp[zG]
  cases Y:x.cps.all (· < 128);exact wpAny_pyIter_wide Y<|J _ _ ⟨rfl,rfl⟩ (λO P=>Walks.strWide P _ x t) (λ_ _ _ _ _ m h=>wpAny_pyIter_striter_wide m h) (by decide) ⟨_,A8 _ rfl,rfl,rfl⟩;exact wpAny_pyIter_ascii Y<|J _ _ ⟨rfl,rfl⟩ (λO P=>Walks.strAscii P _ x t) (λ_ _ _ _ _ m h=>wpAny_pyIter_striter_ascii m h) (by decide) ⟨_,A8 _ rfl,rfl,rfl⟩
noncomputable def ie(lo:Int)(n:Nat):List D:=(D0 n).map λi=>.int<|lo+((i:Nat):Int)
theorem Mg.rng{K:v4}{ρ:List c9}{H:Hp}(lo:Int)(n:Nat):Mg K ⟨ie lo n,λ_=>True⟩ ρ H (Qv lo n):=by
 refine Mg.plain (λi _ hi=>?_) (λi H x H' hi y=>?_) λH=>?_;show i<n;simpa [ie]using hi;obtain⟨e,rfl⟩:=y;have h:i<n:=by simpa [ie]using hi
 exact⟨e,.int<|lo+i,by simp[ie,h],rfl⟩;show n<=(ie lo n).length;simp[ie]
def bZ(t:Fn):Mw:=λS M R=>t S M λds a=>match ds with
 | [.int j]=>(-(2 ^ 62)<=j/\j<2 ^ 62)/\R ⟨ie 0 j.toNat,λ_=>True⟩ a
 |_=>False
theorem PI.imp(h:PI X tg iter t')(i:∀σ H R,t σ H R->t' σ H R):PI X tg iter t:=λp s σ H R I q=>h p s σ H R I<|i σ H R q
theorem Bu(m:X.mg "range" = a8)(h:DA X [a] ta)(g:Gl X "range":=by rfl)(hs:h7 [a] X.env=[(b7,eval a X.env)]:=by rfl):DI X tg (.Call (.Name "range" p) [a] [] pos) (bZ ta):=by
 refine PI.imp (zS g m h hs) ?_;rintro σ H R ⟨S,M,ρ,Q,s,n,q,k⟩;refine⟨S,M,ρ,_,s,n,q,?_⟩;rintro vs e ⟨ds,f,d,l,g1,b,c⟩
 try dsimp only at c
 split at c;rename_i j;obtain⟨⟨h1,h2⟩,i⟩:=c
 first|have z:=Reps.inv_cons b|have z:=aw.inv_cons b
 clear b;obtain⟨_,_,rfl,r,t⟩:=z;cases r;cases t;exact⟨j,rfl,h1,h2,k _ e ⟨_,f,d,l,g1,Mg.rng 0 j.toNat,i⟩⟩;exact c.elim
section
mutual
inductive D4(k:Nat):D->Prop
 |non:D4 k .non
 |bl (b:Bool):D4 k (.bl b)
 |int (i:Int):D4 k (.int i)
 |str (x:b9):D4 k (.str x)
 |ty (n:String):D4 k (.ty n)
 |tup {ds:List D} (h:Bels k ds):D4 k (.tup ds)
 |ref {n:Nat} (h:n<k):D4 k (.ref n)
inductive Bels(k:Nat):List D->Prop
 |nil:Bels k []
 |cons {d:D}{ds:List D} (h:D4 k d) (t:Bels k ds):Bels k (d::ds)
end
noncomputable def MO.items:MO->List D
 |.lst xs=>xs
 |.fz xs=>xs
 |.kl xs=>xs
 |.dct kvs=>kvs.map (·.2)
 |.dkt kvs=>kvs.map (·.2)
 |.dkq _ kvs=>kvs.map (·.2)
 |.fdc _ kvs=>kvs.map (·.2)
 |.dkm kvs=>kvs.map (·.2)
 |.tb _ _=>[]
 |.exc _=>[]
theorem u5.bel{K:v4}{ρ:List c9}{H:Hp}{d:D}{v:V}(h:u5 K ρ H d v):D4 ρ.length d:=u5.rec (motive_1:=λd v _=>D4 ρ.length d) (motive_2:=λds vs _=>Bels ρ.length ds) .non .bl .int .str .ty (λ_ _ r=>.tup r) (λh=>.ref (A6.mp h).1) .nil (λ_ _ h t=>.cons h t) h
theorem Reps.bel{K:v4}{ρ:List c9}{H:Hp}{ds:List D}{vs:List V}(h:Reps K ρ H ds vs):Bels ρ.length ds:=Reps.rec (motive_1:=λd v _=>D4 ρ.length d) (motive_2:=λds vs _=>Bels ρ.length ds) .non .bl .int .str .ty (λ_ _ r=>.tup r) (λh=>.ref (A6.mp h).1) .nil (λ_ _ h t=>.cons h t) h
theorem D4.inv(b:D4 k d):(∀ds,d=.tup ds->Bels k ds)/\∀n,d=.ref n->n<k:=by
 cases b with
 |tup b=>exact⟨(λ_ e=>by injection e with e;exact e ▸ b),(λ_ e=>by cases e)⟩
 |ref b=>exact⟨(λ_ e=>by cases e),(λ_ e=>by injection e with e;exact e ▸ b)⟩
 |_=>exact⟨(λ_ e=>by cases e),(λ_ e=>by cases e)⟩
theorem Bels.inv{k:Nat}{d:D}{ds:List D}(b:Bels k (d::ds)):D4 k d/\Bels k ds:=by
 cases b with
 |cons b c=>exact⟨b,c⟩
theorem u5.cut{K:v4}{ρ:List c9}{H:Hp}{k:Nat}{d:D}{v:V}(h:u5 K ρ H d v):D4 k d->u5 K (ρ.take k) H d v:=u5.rec (motive_1:=λd v _=>D4 k d->u5 K (ρ.take k) H d v) (motive_2:=λds vs _=>Bels k ds->Reps K (ρ.take k) H ds vs) (λ_=>.non) (λb _=>.bl b) (λb _=>.int b) (λb _=>.str b) (λb _=>.ty b) (λh _ r b=>.tup h<|r<|b.inv.1 _ rfl)
  (λh b=>.ref<|by rw[OG<|b.inv.2 _ rfl];exact h) (λ_=>.nil) (λ_ _ h t b=>.cons (h b.inv.1)<|t b.inv.2) h
theorem Reps.cut{K:v4}{ρ:List c9}{H:Hp}{k:Nat}{ds:List D}{vs:List V}(h:Reps K ρ H ds vs):Bels k ds->Reps K (ρ.take k) H ds vs:=Reps.rec (motive_1:=λd v _=>D4 k d->u5 K (ρ.take k) H d v) (motive_2:=λds vs _=>Bels k ds->Reps K (ρ.take k) H ds vs) (λ_=>.non) (λb _=>.bl b) (λb _=>.int b) (λb _=>.str b) (λb _=>.ty b) (λh _ r b=>.tup h<|r<|b.inv.1 _ rfl)
  (λh b=>.ref<|by rw[OG<|b.inv.2 _ rfl];exact h) (λ_=>.nil) (λ_ _ h t b=>.cons (h b.inv.1)<|t b.inv.2) h
theorem D4.mono{j k:Nat}(h:j<=k){d:D}(b:D4 j d):D4 k d:=D4.rec (motive_1:=λd _=>D4 k d) (motive_2:=λds _=>Bels k ds) .non .bl .int .str .ty (λ_ b=>.tup b) (λb=>.ref<|K0 b h) .nil (λ_ _ b c=>.cons b c) b
theorem Bels.mono{j k:Nat}(h:j<=k){ds:List D}(b:Bels j ds):Bels k ds:=Bels.rec (motive_1:=λd _=>D4 k d) (motive_2:=λds _=>Bels k ds) .non .bl .int .str .ty (λ_ b=>.tup b) (λb=>.ref<|K0 b h) .nil (λ_ _ b c=>.cons b c) b
theorem Bels.of:∀{xs:List D},(∀d∈xs,D4 k d)->Bels k xs
 | [],_=>.nil
 |d::ds,h=>.cons (h d D3)<|Bels.of λe he=>h e<|C4 _ he
section
variable{K:v4}{ρ ρ':List c9}{H H':Hp}{M M':u8}
theorem xa:∀(n:Nat) (d:D),cL n d=a9->D4 k d:=by
 intro n;induction n with
 |zero =>
  intro d h;cases d with
  |str x=>exact .str x
  |int x=>exact .int x
  |_=>cases h
 |succ n i =>
  intro d h;cases d with
  |str x=>exact .str x
  |int x=>exact .int x
  |tup ds=>exact .tup<|Bels.of λx a=>i x<|E8.mp (show ds.all (cL n)=a9 from h) x a
  |_=>cases h
theorem AC(r:Paired (rh K ρ H) kvs xs):Bels ρ.length (kvs.map (·.2)):=by
 induction r with
 |nil=>exact .nil
 |cons q _ i=>obtain⟨_,_,_,v,a,_⟩:=q;exact .cons a.bel i
theorem AB(r:Paired (rh K ρ H) kvs xs)(b:Bels k (kvs.map (·.2))):Paired (rh K (ρ.take k) H) kvs xs:=by
 induction r with
 |nil=>exact .nil
 |cons q _ i =>
  obtain⟨d,j,e,v,f,l⟩:=q;rw[C2]at b;cases b with
  |cons a c=>exact .cons ⟨d,j,e.cut<|xa _ _ j,v,f.cut a,l⟩<|i c
theorem DQ:∀(d:D),yn d=a9->D4 k d
 |.non,_=>.non
 |.tup ks,h=>xa 8 _ h
 |.bl _,h=>nomatch h
 |.int _,h=>nomatch h
 |.str _,h=>nomatch h
 |.ty _,h=>nomatch h
 |.ref _,h=>nomatch h
theorem GW(r:Paired (MD K ρ H) kvs xs):Bels ρ.length (kvs.map (·.2)):=by
 induction r with
 |nil=>exact .nil
 |cons q _ i=>obtain⟨_,_,_,v,a,_⟩:=q;exact .cons a.bel i
theorem GV(r:Paired (MD K ρ H) kvs xs)(b:Bels k (kvs.map (·.2))):Paired (MD K (ρ.take k) H) kvs xs:=by
 induction r with
 |nil=>exact .nil
 |cons q _ i =>
  obtain⟨d,j,⟨u,e,m⟩,v,f,l⟩:=q;rw[C2]at b;cases b with
  |cons a c=>exact .cons ⟨d,j,⟨u,e.cut<|DQ _ j,m⟩,v,f.cut a,l⟩<|i c
theorem yK.bels(h:yK K ρ H a mo):Bels ρ.length mo.items:=by
 cases mo with
 |lst ds=>obtain⟨vs,_,r⟩:=h;exact r.bel
 |fz ds=>obtain⟨o,vs,_,r⟩:=h;exact r.bel
 |kl ds=>obtain⟨vs,_,r⟩:=h;exact r.bel
 |dct kvs=>obtain⟨vs,_,r⟩:=h;exact r.bel
 |dkt kvs=>obtain⟨_,_,_,xs,_,r⟩:=h;exact AC r
 |dkq _ kvs=>obtain⟨_,_,_,xs,_,r⟩:=h;exact AC r
 |fdc o kvs=>obtain⟨vs,_,r⟩:=h;exact r.bel
 |dkm kvs=>obtain⟨_,_,_,xs,_,r⟩:=h;exact GW r
 |tb x b=>exact .nil
 |exc x=>exact .nil
theorem yK.cut(h:yK K ρ H a mo)(b:Bels k mo.items):yK K (ρ.take k) H a mo:=by
 cases mo with
 |lst ds=>obtain⟨vs,e,r⟩:=h;exact⟨vs,e,r.cut b⟩
 |fz ds=>obtain⟨o,vs,e,r⟩:=h;exact⟨o,vs,e,r.cut b⟩
 |kl ds=>obtain⟨vs,e,r⟩:=h;exact⟨vs,e,r.cut b⟩
 |dct kvs=>obtain⟨vs,e,r⟩:=h;exact⟨vs,e,r.cut b⟩
 |dkt kvs=>obtain⟨h1,h2,c,xs,e,r⟩:=h;exact⟨h1,h2,c,xs,e,AB r b⟩
 |dkq _ kvs=>obtain⟨h1,h2,c,xs,e,r⟩:=h;exact⟨h1,h2,c,xs,e,AB r b⟩
 |fdc o kvs=>obtain⟨vs,e,r⟩:=h;exact⟨vs,e,r.cut b⟩
 |dkm kvs=>obtain⟨h1,h2,c,xs,e,r⟩:=h;exact⟨h1,h2,c,xs,e,GV r b⟩
 |tb x b=>exact h
 |exc x=>exact h
theorem w4.bels(S:w4 K ρ M H){n:Nat}{mo:MO}(e:M[n]?=a7 mo):Bels M.length mo.items:=by obtain⟨a,_,h⟩:=S.get e;rw[<-S.len];exact h.bels
theorem w4.cut(S:w4 K ρ M H)(k:Nat)(d:∀(n:Nat) (mo:MO),n<k->M[n]?=a7 mo->Bels k mo.items):w4 K (ρ.take k) (M.take k) H:=by
 have lt:∀{n:Nat}{a:c9},(ρ.take k)[n]?=a7 a->n<k/\ρ[n]?=a7 a:=λ{n a} e=>by
  have h1:=(A6.mp e).1;rw[K5]at h1;have h2:n<k:=by lia
  rw[OG h2]at e;exact⟨h2,e⟩
 refine⟨λn m a h t l=>?_,by rw[K5,K5,S.len],λn a mo t l=>?_⟩;obtain⟨b,f⟩:=lt t;obtain⟨c,N⟩:=lt l;rw[OG b,OG c];exact S.nd n m a h f N;obtain⟨b,f⟩:=lt t;rw[OG b]at l;exact(S.obj n a mo f l).cut<|d n mo b l
theorem SRep.cut(r:SRep K ρ H S σ)(g:S'.length=S.length)(h:∀(i:Nat) d,S'[i]?=a7 (a7 d)->S[i]?=a7 (a7 d)/\D4 k d):SRep K (ρ.take k) H S' σ:=⟨g.trans r.len,λi d e=>let ⟨e',b⟩:=h i d e;let ⟨v,hv,rv⟩:=r.get i d e';⟨v,hv,rv.cut b⟩⟩
theorem Grow.cut(g:Grow K ρ H ρ' H')(h:ρ.length<=k):Grow K ρ H (ρ'.take k) H':=by refine⟨?_,g.tup⟩;obtain⟨t,rfl⟩:=g.pre;rw[List.take_append];rw[Qh h];exact Mm _ _
end
inductive FgtS(k:Nat):SD->SD->Prop
 |nil:FgtS k [] []
 |keep {d:D}{S S':SD} (h:D4 k d) (t:FgtS k S S'):FgtS k (a7 d::S) (a7 d::S')
 |drop {o:Option D}{S S':SD} (t:FgtS k S S'):FgtS k (o::S) (a8::S')
theorem FgtS.len(h:FgtS k S S'):S'.length=S.length:=by
 induction h with
 |nil=>rfl
 |keep _ _ i=>rw[C0,C0,i]
 |drop _ i=>rw[C0,C0,i]
theorem FgtS.get(h:FgtS k S S'):∀(i:Nat) d,S'[i]?=a7 (a7 d)->S[i]?=a7 (a7 d)/\D4 k d:=by
 induction h with
 |nil=>intro i d e;simp at e
 |keep b _ a =>
  intro i d e;cases i with
  |zero=>simp at e;subst e;exact⟨rfl,b⟩
  |succ i=>exact a i d<|by simpa using e
 |drop _ a =>
  intro i d e;cases i with
  |zero=>simp at e
  |succ i=>exact a i d<|by simpa using e
def B6(b:u8)(P:SD->u8->Prop)(S:SD)(M:u8):Prop:=P S M\/(∃k a,b.length<=k/\FgtS k S a/\(∀(n:Nat) mo,n<k->M[n]?=a7 mo->Bels k mo.items)/\P a (M.take k))\/∃a,FgtS b.length S a/\b <+: M/\P a b
theorem CC{α:Type}{l l':List α}(h:l <+: l'):l'.take l.length=l:=by obtain⟨t,rfl⟩:=h;rw[List.take_append_of_le_length<|v6 _,Mu]
theorem SQ.fgt{K:v4}{ρ:List c9}{H:Hp}{b:u8}{P:SD->u8->Prop}{c:St}{H':Hp}(s0:w4 K ρ b H)(h:SQ K ρ H (B6 b P) c H'):SQ K ρ H P c H':=by
 have d:ρ.length<=b.length:=by rw[s0.len];exact v6 _
 obtain⟨S,M',ρ',s',g,a,j⟩:=h;rcases j with j|⟨k,S2,h1,h2,f,q⟩|⟨S2,h2,hp,q⟩
 exact⟨S,M',ρ',s',g,a,j⟩;exact⟨S2,M'.take k,ρ'.take k,s'.cut k f,g.cut<|F4 d h1,a.cut h2.len h2.get,q⟩;have s:=s'.cut b.length λn m i e=>by obtain⟨t,rfl⟩:=hp;rw[L5 i]at e;exact s0.bels e
 rw[CC hp]at s;exact⟨S2,b,ρ'.take b.length,s,g.cut d,a.cut h2.len h2.get,q⟩
def uj(ok:u8->Prop)(g:Mh)(tb:u3)(E:DEnds)(k0:u8):List D->SD->u8->Prop
 | [],S,M=>ok M/\E.nx S M
 |x::xs,S,M=>ok M/\g x S M λS2 M2=>tb ⟨B6 k0<|uj ok g tb E k0 xs,E.rt,E.nx,B6 k0<|uj ok g tb E k0 xs⟩ S2 M2
def kJ(i:Mw)(g:Mh)(b:u3):u3:=λE S M=>i S M λsrc a=>uj src.ok g b E a src.items S a
theorem ua{α:Type}{l:List α}{i:Nat}{x:α}(h:l[i]?=a7 x):l.drop i=x::l.drop (i+1):=by obtain⟨hi,e⟩:=A6.mp h;rw[Ql hi,e]
theorem Dt{K:v4}{O:Mw}{g:Mh}{r:u3}(E:Ends)(σ:St)(H:Hp)(h:lowS K (kJ O g r) E σ H):tFor (lowI K O) (lowG K g) (lowS K r) E σ H:=by
 obtain⟨S,M,ρ,F,s,T,q,k⟩:=h;refine⟨S,M,ρ,_,s,T,q,?_⟩;rintro J B ⟨src,l,c,R,g1,it,q1⟩;have C:=k.trans g1;refine⟨λi m τ f=>∃S2 M2 a,w4 K a M2 f/\Grow K c B a f/\SRep K a f S2 τ/\i<=src.items.length/\m=src.items.length-i/\uj src.ok g r F l (src.items.drop i) S2 M2,⟨_,S,l,c,R,.refl,T.grow g1,B5 _,rfl,q1⟩,?_⟩;rintro i m τ f ⟨S2,M2,a,A,o,p,hi,rfl,w⟩;by_cases t:i<src.items.length;have P:src.items[i]?=a7 src.items[i]:=x9 t;rw[ua P]at w;obtain⟨ok,D⟩:=(show src.ok M2/\g src.items[i] S2 M2 _ from w)
 refine .inr ⟨it.go i a M2 f A o ok t,_,λai H' z=>z,λx U y=>?_⟩;obtain⟨d,L,hd,s3,g3,r3⟩:=it.yld i a M2 f x U A o ok t y;have ed:d=src.items[i]:=C3<|hd.symm.trans P;subst ed;refine⟨_,S2,M2,L,_,s3,p.grow g3,r3,D,?_⟩;rintro aj W ⟨Z,X,u,s4,g4,G,q4⟩;have j:=(o.trans g3).trans g4;refine⟨Z,X,u,_,s4,G,q4,?_⟩;have n:∀b V,SQ K u W (B6 l<|uj src.ok g r F l<|src.items.drop<|i+1) b V -> ∃Q,Q < src.items.length-i/\∃S2 M2 a,w4 K a M2 V/\Grow K c B a V/\SRep K a V S2 b/\i+1<=src.items.length/\Q=src.items.length-(i+1)/\uj src.ok g r F l (src.items.drop<|i+1) S2 M2:=λb V z=>by obtain⟨S5,Y,N,s5,g5,I,q5⟩:=SQ.fgt (ρ:=c) (H:=B) R<|SQ.trans j z;exact⟨_,by lia,S5,Y,N,s5,g5,I,t,rfl,q5⟩
 exact⟨n,λv V z=>C.rt v V<|VQ.trans j z,λb V z=>C.nx b V<|SQ.trans j z,n⟩;have e:i=src.items.length:=by lia
 subst e;rw[List.drop_of_length_le<|v6 _]at w;obtain⟨ok,D⟩:=(show src.ok M2/\F.nx S2 M2 from w)
 exact .inl ⟨it.stop a M2 f A o ok,C.nx τ f ⟨S2,M2,a,A,o,p,D⟩⟩
theorem Lv(hi:DI X tg iter di)(R:DG X tg g)(d:Nm X body tb)(hp:PassesOwn (g7 X.prog X.w) X.A X.env X.xe:=by exact PassesOwn.never)(f:X.calm=a9:=by rfl)(hs:∀x,j2 iter X.env x=pure x:=by intro _;rfl):DS X (.For tg iter body [] pos) (kJ di g tb):=PS.imp (Js hp f hi R d hs) Dt
noncomputable def LD(t:Nat)(s:List Nat)(S:SD):SD:=N6 t a8++s.map λj=>(S[j]?).join
def nE(ok:u8->Prop)(g:Mh)(tt:F8)(te:x6)(Q:DK):List D->List D->SD->u8->Prop
 | [],acc,S,M=>ok M/\Q (.ref M.length) (M++[.lst acc])
 |x::xs,acc,S,M=>ok M/\g x S M λS2 M2=>tt S2 M2 λb M3=>if b=a9 then te S2 M3 λy M4=>acc.length<sizeLine/\nE ok g tt te Q xs (acc++[y]) S2 M4 else nE ok g tt te Q xs acc S2 M3
def F6(t:Nat)(s:List Nat)(i:Mw)(g:Mh)(tt:F8)(te:x6):x6:=λS M Q=>i S M λsrc a=>nE src.ok g tt te Q src.items [] (LD t s S) a
theorem SRep.bst{K:v4}{ρ:List c9}{H:Hp}{S:SD}{σ:St}(r:SRep K ρ H S σ)(t:Nat)(s:List Nat):SRep K ρ H (LD t s S) (L2.bst t s σ):=by
 refine⟨by simp[LD,BR],λi d e=>?_⟩;unfold LD at e;unfold L2.bst;by_cases hi:i<t;rw[L5 (by simpa using hi),Q5]at e;simp[hi]at e;rw[MC (by simpa using Nw.mp hi),Q0,C7]at e;rw[MC (by simpa using Nw.mp hi),Q0,C7];cases q:s[i-t]? with
 |none=>rw[q]at e;cases e
 |some j =>
  rw[q]at e;have a:(S[j]?).join=a7 d:=by simpa using e
  cases b:S[j]? with
  |none=>rw[b]at a;cases a
  |some o=>rw[b]at a;have l:o=a7 d:=a;subst l;obtain⟨v,c,f⟩:=r.get j d b;exact⟨v,by simp[c],f⟩
theorem Ap{K:v4}{B:Nat}{A:List Nat}{O:Mw}{g:Mh}{tt:F8}{te:x6}(σ:St)(H:Hp)(R:VK)(h:lowE K (F6 B A O g tt te) σ H R):Ro B A (lowI K O) (lowG K g) (lowT K tt) (lowE K te) σ H R:=by
 obtain⟨S,M,ρ,Q,s,U,q,k⟩:=h;refine⟨S,M,ρ,_,s,U,q,?_⟩;rintro J V ⟨src,X,n,s1,g1,it,q1⟩;refine⟨λi m vs τ c=>∃S2 M2 a acc,w4 K a M2 c/\Grow K n V a c/\SRep K a c S2 τ/\Reps K a c acc vs/\i<=src.items.length/\m=src.items.length-i/\nE src.ok g tt te Q (src.items.drop i) acc S2 M2,⟨_,_,X,n,[],s1,.refl,(U.grow g1).bst B A,.nil,B5 _,rfl,q1⟩,?_⟩;rintro i m vs τ c ⟨S2,M2,a,acc,w,l,E,r,hi,rfl,o⟩;by_cases t:i<src.items.length;have P:src.items[i]?=a7 src.items[i]:=x9 t;rw[ua P]at o;obtain⟨ok,C⟩:=(show src.ok M2/\g src.items[i] S2 M2 _ from o)
 refine .inr ⟨it.go i a M2 c w l ok t,λx W y=>?_⟩;obtain⟨d,L,hd,s3,g3,r3⟩:=it.yld i a M2 c x W w l ok t y;have ed:d=src.items[i]:=C3<|hd.symm.trans P;subst ed;refine⟨_,S2,M2,L,_,s3,E.grow g3,r3,C,?_⟩;rintro ai H4 ⟨Z,M4,F,s4,u,G,q4⟩;refine⟨Z,M4,F,_,s4,G,q4,?_⟩;rintro b H5 ⟨Y,N,s5,f,T⟩;have j:=((l.trans g3).trans u).trans f;cases b with
 |false=>exact bR ⟨_,by lia,Z,Y,N,acc,s5,j,G.grow f,r.grow<|(g3.trans u).trans f,t,rfl,(show nE src.ok g tt te Q (src.items.drop<|i+1) acc Z Y from T)⟩
 |true=>refine ck ⟨Z,Y,N,_,s5,G.grow f,(show te Z Y _ from T),?_⟩;rintro v H6 ⟨y',M6,I,s6,z,r6,hl,q6⟩;have D:=r.grow<|((g3.trans u).trans f).trans z;exact⟨by rw[<-r.length];exact hl,_,by lia,Z,M6,I,acc++[y'],s6,j.trans z,G.grow<|f.trans z,D.append<|.cons r6 .nil,t,rfl,q6⟩
 have e:i=src.items.length:=by lia
 subst e;rw[List.drop_of_length_le<|v6 _]at o;obtain⟨ok,C⟩:=(show src.ok M2/\Q (.ref M2.length) (M2++[.lst acc])from o)
 exact .inl ⟨it.stop a M2 c w l ok,λp hp=>k _ _<|VQ.laidL w (g1.trans l) r hp C⟩
theorem d_lc(B:BlkSc X N' nt js scope)(hi:DI X tg iter di)(R:∀cl s0 H0 ex,DG (C5 X N' scope cl s0 H0 ex) tg g) (D:∀cl s0 H0 ex,Nu (C5 X N' scope cl s0 H0 ex) ifs<|lowT X.K tt) (i:∀cl s0 H0 ex,DE (C5 X N' scope cl s0 H0 ex) elt te) (f:X.calm=a9:=by rfl)(hs:∀x,j2 iter X.env x=pure x:=by intro _;rfl):DE X (.ListComp elt [⟨tg,iter,ifs,0⟩] scope pos) (F6 nt js di g tt te):=PE.imp (pe_lc (g:=lowG X.K g) (tt:=lowT X.K tt) (te:=lowE X.K te) B f hi (λcl s0 H0 ex=>R cl s0 H0 ex) D (λcl s0 H0 ex=>i cl s0 H0 ex) hs) Ap
def oh:F8:=λ_ M Q=>Q a9 M
theorem HR:Nu X [] (lowT X.K oh):=λp s σ H R I ⟨S,M,ρ,Q,m,e,q,k⟩=>Gg p s σ H R I<|k a9 H ⟨M,ρ,m,.refl,q⟩
theorem HQ(h:DT X c t):Nu X [c] (lowT X.K t):=Gf h
def Px(M a:u8):Prop:=a.length=M.length/\∀(i:Nat) (m:MO),a[i]?=a7 m->M[i]?=a7 m\/Bels M.length m.items
theorem Px.refl:Px M M:=⟨rfl,λ_ _ h=>.inl h⟩
def aY(M:u8)(R:DK):DK:=λd M'=>R d M'\/(∃a,Px M a/\D4 M.length d/\a <+: M'/\R d a)\/∃a n xs,Px M a/\d=.ref n/\M.length<=n/\M'[n]?=a7 (.lst xs)/\a <+: M'/\Bels M.length xs/\R (.ref M.length) (a++[.lst xs])
theorem dW{α:Type}{l l':List α}(h:l <+: l'):l'.take l.length=l:=by obtain⟨t,rfl⟩:=h;rw[List.take_append_of_le_length<|v6 _,Mu]
theorem VQ.endq{K:v4}{ρ:List c9}{M:u8}{H:Hp}{R:DK}{v:V}{H':Hp}(s:w4 K ρ M H)(h:VQ K ρ H (aY M R) v H'):VQ K ρ H R v H':=by
 obtain⟨d,M',ρ',s',w,r',W⟩:=h;have k:ρ'.take M.length=ρ:=by rw[<-s.len];exact dW w.pre
 rcases W with q|⟨g,c,b,f,q⟩|⟨g,n,xs,c,rfl,T,e,f,b,q⟩
 exact⟨d,M',ρ',s',w,r',q⟩;have i:=s'.cut M.length λn r u e=>by
  have D:g[n]?=a7 r:=by obtain⟨t,rfl⟩:=f;rw[L5<|by rw[c.1];exact u]at e;exact e
  exact(c.2 n r D).elim (λz=>s.bels z) id
 have J:M'.take M.length=g:=by rw[<-c.1];exact dW f
 rw[k,J]at i;have B:=r'.cut b;rw[k]at B;exact⟨d,g,ρ,i,⟨Nd,w.tup⟩,B,q⟩;have i:=s'.cut M.length λn r u e=>by
  have D:g[n]?=a7 r:=by obtain⟨t,rfl⟩:=f;rw[L5<|by rw[c.1];exact u]at e;exact e
  exact(c.2 n r D).elim (λz=>s.bels z) id
 have J:M'.take M.length=g:=by rw[<-c.1];exact dW f
 rw[k,J]at i;obtain⟨a,rfl,u⟩:=u5.inv_ref r';obtain⟨vs,Q,X⟩:=s'.obj n a _ u e;have B:=X.cut b;rw[k]at B;have O:Grow K ρ H' (ρ++[a]) H':=⟨Mm _ _,λ_ _ h=>h⟩
 have A:∀(m:Nat),ρ[m]?=a7 a->L9 g[m]?:=λm F=>by
  have S:m≠n:=λz=>by
   have:m<M.length:=by rw[<-s.len];exact(A6.mp F).1
   lia
  have q:=s'.nd m n a S (ao w.pre F) u;have G:m<M.length:=by rw[<-s.len];exact(A6.mp F).1
  rcases q with⟨ds,z⟩|⟨ds,z⟩
  refine⟨ds,?_⟩;have o:m<g.length:=by rw[c.1];exact G
  have:=ao f<|x9 o;rw[z]at this;rw[x9 o];exact this.symm;rw[e]at z;cases z
 refine⟨.ref M.length,g++[.lst xs],ρ++[a],⟨λy U C x E l=>?_,by rw[A3,A3,i.len];rfl,λy C r E l=>?_⟩,⟨Mm _ _,w.tup⟩,.ref (by have:=i.last (p:=a);rw[c.1]at this;exact this),q⟩;rcases aZ E with j|⟨j,L⟩
 rcases aZ l with N|⟨N,P⟩
 exact(i.nd y U C x j N).elim (λz=>.inl z.more) λz=>.inr z.more;subst P;exact .inl (A y j).more;rcases aZ l with N|⟨N,P⟩
 subst L;exact .inr (A U N).more;exact p7 (j.trans N.symm) x;rcases aZ E with j|⟨j,L⟩
 have I:y<g.length:=by rw[<-i.len];exact(A6.mp j).1
 rw[L5 I]at l;exact(i.obj y C r j l).grow O<|.inl rfl;subst L j;rw[i.len,MC<|v6 _,NL]at l;simp at l;subst l;exact⟨vs,Q,B.grow O⟩
noncomputable def eO(N:List b9)(ds:List D):SD:=ds.map a7++N6 (N.length-ds.length) a8
theorem SRep.start{K:v4}{ρ:List c9}{H:Hp}{ds:List D}{vs:List V}(r:Reps K ρ H ds vs)(N:List b9):SRep K ρ H (eO N ds) (L2.start N vs):=by
 refine⟨by simp[eO,L2.start,r.length],λi d e=>?_⟩;unfold eO at e;unfold L2.start;by_cases hi:i<ds.length;rw[L5 (by simpa using hi),C7]at e;rw[L5 (by simpa [<-r.length]using hi),C7];have a:ds[i]?=a7 d:=by rw[x9 hi]at e ⊢;simpa using e
 obtain⟨v,c,b⟩:=r.get a;exact⟨v,by rw[c];rfl,b⟩;rw[MC (by simpa using Nw.mp hi),Q5]at e;split at e<;>cases e
theorem d_fn{P:c8}{w:c7}{K:v4}{mg:b9->Option b8}{base:d6}{x l:b9}{st:i3}{f:c9}{d:j7}{N ps:List b9}{k:Nat}(c:A2)(F:M9 K x l st f d)(e:FnScope N ps (az st))(B:∀ds M R,c ds M R->ds.length=ps.length)(y:∀(cdv:b8) (A:e8) (outer:List Env) (s:f6) (H:Hp) (E:XK),Room k (A.deeper<|k5 l (az st) s.heap.objs.size f cdv) -> ∃t,Nm (yJ K9 P w K mg base N l (az st) f cdv A outer s H E).nox (bY st) t/\∀ds M R,c ds M R->t ⟨λ_ M'=>aY M R .non M',aY M R,λ_ _=>False,λ_ _=>False⟩ (eO N ds) M):FnOk P w K mg base K9 (k+1) f d ps (MY K c):=by refine F.ok e (λvs H Q E ⟨ds,M,ρ,R,s,r,q,_⟩=>by rw[<-r.length];exact B ds M R q) λcdv A outer s H vs Q E n h=>?_;obtain⟨ds,M,ρ,R,m,r,q,D⟩:=h;obtain⟨t,o,i⟩:=y cdv A outer s H E n;refine⟨lowS K t,o,eO N ds,M,ρ,_,m,SRep.start r N,i ds M R q,⟨λb H' ⟨S,M',ρ',s',g,a,j⟩=>?_,λv H' z=>D v H'<|VQ.endq m z,λb H' ⟨S,M',ρ',s',g,a,j⟩=>j.elim,λb H' ⟨S,M',ρ',s',g,a,j⟩=>j.elim⟩⟩;exact D .non H'<|VQ.endq m ⟨.non,M',ρ',s',g,.non,j⟩
end
theorem dfin(I:t9 X pins σ H s)(m:w4 X.K ρ M H)(k:∀v H',VQ X.K ρ H Q v H'->R v H')(c:cV d=a7 v)(r:aL v u)(q:Q d M):EP X pins σ R u s:=⟨v,H,I,r,k v H<|VQ.now m (BN c) q⟩
theorem gx(I:t9 X pins σ H s)(m:w4 X.K ρ M H)(k:∀v H',VQ X.K ρ H Q v H'->R v H')(q:Q (.bl b) M):EP X pins σ R (.bool b) s:=⟨.bl b,H,I,rfl,k _ H<|VQ.now m (.bl b) q⟩
def qAdd:G8:=λx y M Q=>match x,y with
 |.int i,.int j=>Q (.int<|i+j) M
 |.str a,.str b=>a.length+b.length<=sizeLine/\Q (.str<|a++b) M
 |.ref n,.ref m=>∃xs ys,M[n]?=a7 (.lst xs)/\M[m]?=a7 (.lst ys)/\xs.length+ys.length<=sizeLine/\Q (.ref M.length) (M++[.lst<|xs++ys])
 |_,_=>False
theorem JY:J0 X (j3 .Add) qAdd:=by refine D7.imp (JO.or<|xW.or JN) ?_;rintro v i H R ⟨x,y,M,ρ,Q,m,r,a,q,k⟩;unfold qAdd at q;split at q;cases r;cases a;exact .inl ⟨_,_,rfl,rfl,k _ H<|VQ.now m (.int _) q⟩;cases r;cases a;exact .inr<|.inl ⟨_,_,rfl,rfl,q.1,k _ H<|VQ.now m (.str _) q.2⟩;obtain⟨xs,ys,t,l,g,q⟩:=q;obtain⟨_,rfl,h1⟩:=u5.inv_ref r;obtain⟨_,rfl,h2⟩:=u5.inv_ref a;obtain⟨vs,n,g1⟩:=m.obj _ _ _ h1 t;obtain⟨s,N,b⟩:=m.obj _ _ _ h2 l;exact .inr<|.inr ⟨_,_,vs,s,rfl,rfl,n,N,by rw[<-g1.length,<-b.length];exact g,λp hp=>k _ _<|VQ.laidL m .refl (g1.append b) hp q⟩;exact q.elim
def ID:G8:=λx y M Q=>match x,y with
 |.int i,.int j=>Q (.int<|i-j) M
 |_,_=>False
theorem JS:J0 X (j3 .Sub) ID:=by refine D7.imp JI ?_;rintro g i H R ⟨x,y,M,ρ,Q,s,r,m,q,k⟩;unfold ID at q;split at q;cases r;cases m;exact⟨_,_,rfl,rfl,k _ H<|VQ.now s (.int _) q⟩;exact q.elim
def uB(i j:Int):Prop:=0<j/\j<340282366920938463463374607431768211456
theorem Dd:D7 X (j3 .FloorDiv) (rI uB λi j=>.int<|i / j):=Ph λi j _ _ _ _ _ f q=>by have h1:(0:Int)<j:=f.1;have h2:j<340282366920938463463374607431768211456:=f.2;have a:j.natAbs.log2<128:=(Nat.log2_lt<|by lia).mpr (by rw[show (2:Nat) ^ 128=340282366920938463463374607431768211456 by decide];lia);exact floordiv_int (by lia) (by rw[Int.fdiv_eq_ediv_of_nonneg i<|by lia];exact q)<|.inl<|PyProof.noPylong_of_log2<|by lia
def aR:G8:=λx y M Q=>match x,y with
 |.int i,.int j=>uB i j/\Q (.int<|i / j) M
 |_,_=>False
theorem GH:J0 X (j3 .FloorDiv) aR:=by refine D7.imp Dd ?_;rintro g i H R ⟨x,y,M,ρ,Q,s,r,m,q,k⟩;unfold aR at q;split at q;cases r;cases m;exact⟨_,_,rfl,rfl,q.1,k _ H<|VQ.now s (.int _) q.2⟩;exact q.elim
def cq:G8:=λx y M Q=>match x,y with
 |.int i,.int j=>0<j/\Q (.int<|i % j) M
 |_,_=>False
theorem JV:J0 X (j3 .Mod) cq:=by refine D7.imp JM ?_;rintro g i H R ⟨x,y,M,ρ,Q,s,r,m,q,k⟩;unfold cq at q;split at q;cases r;cases m;exact⟨_,_,rfl,rfl,q.1,k _ H<|VQ.now s (.int _) q.2⟩;exact q.elim
noncomputable def uT(a b:b9):Bool:=decide<|a.cps.toList<b.cps.toList
def Nr:G8:=λx y M Q=>match x,y with
 |.int i,.int j=>Q (.bl<|decide<|i<j) M
 |.str a,.str b=>Q (.bl<|uT a b) M
 |_,_=>False
def Nj:G8:=λx y M Q=>match x,y with
 |.int i,.int j=>Q (.bl<|decide<|j<i) M
 |.str a,.str b=>Q (.bl<|uT b a) M
 |_,_=>False
theorem od_lt:J0 X (j4 .Lt) Nr:=by rintro p s σ H b c v u R I g i ⟨x,y,M,ρ,Q,a,r,m,q,k⟩;unfold Nr at q;split at q;cases r;cases m;exact op_lt p s σ H _ _ v u R I g i ⟨_,_,rfl,rfl,k _ H<|VQ.now a (.bl _) q⟩;cases r;cases m;obtain⟨t,rfl⟩:=g;obtain⟨t',rfl⟩:=i;exact PySem.P.lt_str<|gx I a k q;exact q.elim
theorem od_gt:J0 X (j4 .Gt) Nj:=by rintro p s σ H b c v u R I g i ⟨x,y,M,ρ,Q,a,r,m,q,k⟩;unfold Nj at q;split at q;cases r;cases m;exact op_gt p s σ H _ _ v u R I g i ⟨_,_,rfl,rfl,k _ H<|VQ.now a (.bl _) q⟩;cases r;cases m;obtain⟨t,rfl⟩:=g;obtain⟨t',rfl⟩:=i;exact PySem.P.gt_str<|gx I a k q;exact q.elim
def NH:G8:=λx y M Q=>match x,y with
 |.bl a,.bl b=>Q (.bl<|a==b) M
 |.non,.non=>Q (.bl a9) M
 |_,.non=>Q (.bl b7) M
 |_,_=>False
theorem Ga{K:v4}{ρ:List c9}{H:Hp}{x:D}{v:V}(r:u5 K ρ H x v)(h:x≠.non):v≠.non:=by cases r<;>first|exact p7 rfl h|(intro z;cases z)
theorem od_is:J0 X (j4 .Is) NH:=by
 rintro p s σ H b c v u R I g i ⟨x,y,M,ρ,Q,a,r,m,q,k⟩;unfold NH at q;split at q;cases r;cases m;cases g;cases i;exact is_bool<|gx I a k q;cases r;cases m;cases g;cases i;exact is_none_gen<|dfin (d:=.bl a9) I a k rfl rfl q;rename_i h1 h2;cases m;cases i;refine is_none_gen<|dfin (d:=.bl b7) I a k rfl ?_ q;have:=Ga r λz=>by subst z;exact h2 rfl
 rw[g.none_iff,dF_ this];rfl;exact q.elim
noncomputable def K7(M:u8):D->String
 |.non=>"NoneType"
 |.bl _=>"bool"
 |.int _=>"int"
 |.str _=>"str"
 |.ty _=>"type"
 |.tup _=>"tuple"
 |.ref n=>match M[n]? with
  |some mo=>if mo.isL=a9 then "list" else "?"
  |none=>"?"
noncomputable def FB(t T:String):Bool:=t==T||(t == "bool" && T == "int")
noncomputable def IC:List String:=["NoneType","bool","int","str","list","tuple"]
noncomputable def IN:List String:=["bool","int","str","list","tuple"]
theorem He(K:v4)(D:t∈IC)(n:T∈IN):Qz K (.type t) (.type T)=a7 (FB t T):=by simp only[IC,IN,A1,ML,or_false]at D n;rcases D with rfl|rfl|rfl|rfl|rfl|rfl<;>rcases n with rfl|rfl|rfl|rfl|rfl<;>kernel_rfl
theorem FA(I:t9 X pins σ H s)(k:w4 X.K ρ M H)(r:u5 X.K ρ H d v)(g:aL v u)(j:K7 M d∈IC)(p:∀(Hx:d6->Prop),PySem.W.KitX X.K u (.type<|K7 M d) Hx->Hx s.heap->u≠.builtin "__main__.__loader__#opaque"->f9 (g7 X.prog X.w) X.A (call (.builtin "isinstance") [u,c]) Q X.xe s):f9 (g7 X.prog X.w) X.A (call (.builtin "isinstance") [u,c]) Q X.xe s:=by
 cases r with
 |non=>cases g;exact p _ PySem.W.kitx_none Nx<|λz=>nomatch z
 |bl y=>cases g;exact p _ PySem.W.kitx_bool Nx<|λz=>nomatch z
 |int i=>obtain⟨t,rfl⟩:=g;exact p _ PySem.W.kitx_int Nx<|λz=>nomatch z
 |str i=>obtain⟨t,rfl⟩:=g;exact p _ PySem.W.kitx_str Nx<|λz=>nomatch z
 |ty n=>exact p7 j<|by simp only[K7];decide
 |tup h rr=>cases g;obtain⟨its,_,⟨o,h1,h2,_⟩,_⟩:=I.tuple h;exact p _ PySem.W.kitx_tuple ⟨o,h1,h2⟩<|λz=>nomatch z
 |@ref n a e =>
  cases g;have B:n<M.length:=by rw[<-k.len];exact(A6.mp e).1
  have m:M[n]?=a7 M[n]:=x9 B;have f:(match M[n]? with|some mo=>if mo.isL=a9 then "list" else "?" |none=>"?")∈IC:=j;rw[m]at f;have l:M[n].isL=a9:=by
   cases q:M[n].isL with
   |true=>rfl
   |false=>simp only[q,A7,r9]at f;exact p7 f<|by decide
  have L:am M n M[n].items:=by
   cases q:M[n] with
   |lst xs=>exact .inl<|by rw[m,q];rfl
   |fz xs=>exact .inr<|.inl<|by rw[m,q];rfl
   |kl xs=>exact .inr<|.inr<|by rw[m,q];rfl
   |dct xs=>rw[q]at l;cases l
   |dkt xs=>rw[q]at l;cases l
   |dkq _ xs=>rw[q]at l;cases l
   |fdc o xs=>rw[q]at l;cases l
   |dkm xs=>rw[q]at l;cases l
   |tb x b=>rw[q]at l;cases l
   |exc x=>rw[q]at l;cases l
  obtain⟨vs,C,_⟩:=am.seq k L e;obtain⟨its,_,⟨o,E,h1,h2,_⟩,_⟩:=I.list C;have D:K7 M (.ref n) = "list":=by
   show (match M[n]? with|some mo=>if mo.isL=a9 then "list" else "?" |none=>"?") = "list"
   rw[m];exact o8 l
  rw[D]at p;exact p _ PySem.W.kitx_list ⟨o,h1,h2⟩<|λz=>nomatch z
def xU:C6:=λds M Q=>match ds with
 | [d,.ty T]=>(K7 M d∈IC/\T∈IN)/\Q (.bl<|FB (K7 M d) T) M
 | [d,.tup [.ty T,.ty T']]=>(K7 M d∈IC/\T∈IN/\T'∈IN)/\Q (.bl<|FB (K7 M d) T||FB (K7 M d) T') M
 |_=>False
theorem LS:iW X (.builtin "isinstance") xU:=by
 rintro i s σ H vs us R I v ⟨ds,M,ρ,Q,m,r,q,k⟩;unfold xU at q;split at q;rename_i d T;obtain⟨⟨h1,h2⟩,q⟩:=q
 first|have z:=Reps.inv_cons r|have z:=aw.inv_cons r
 clear r;obtain⟨_,_,rfl,f,r⟩:=z
 first|have z:=Reps.inv_cons r|have z:=aw.inv_cons r
 clear r;obtain⟨_,_,rfl,g,r⟩:=z;cases r;cases g;obtain⟨u,F,rfl,e,l⟩:=aw.two v;cases l;refine FA I m f e h1 λHx Z p x=>?_;exact PySem.W.kia_one Z I.kIn p (He X.K h1 h2) x λh=>gx (I.tok h) m k q;rename_i d T c;obtain⟨⟨h1,h2,y⟩,q⟩:=q
 first|have z:=Reps.inv_cons r|have z:=aw.inv_cons r
 clear r;obtain⟨_,_,rfl,f,r⟩:=z
 first|have z:=Reps.inv_cons r|have z:=aw.inv_cons r
 clear r;obtain⟨_,_,rfl,g,r⟩:=z;cases r;obtain⟨u,F,rfl,e,l⟩:=aw.two v;obtain⟨a,S,rfl,A,t⟩:=u5.inv_tup g;cases l;obtain⟨its,C,⟨o,g1,w,n,g3⟩,_⟩:=I.tuple A
 first|have z:=Reps.inv_cons t|have z:=aw.inv_cons t
 clear t;obtain⟨_,_,rfl,D,t⟩:=z
 first|have z:=Reps.inv_cons t|have z:=aw.inv_cons t
 clear t;obtain⟨_,_,rfl,E,t⟩:=z;cases t;cases D;cases E;obtain⟨O,P,rfl,j,N⟩:=aw.two C;cases j;cases N;obtain⟨J,L,B,G⟩:=o;cases w;cases g3;refine FA I m f e h1 λHx Z p x=>?_;refine PySem.W.kia_tup Z I.kIn p g1 (b:=FB (K7 M d) T||FB (K7 M d) c) ?_ x λh=>gx (I.tok h) m k q;show (match Qz X.K (.type<|K7 M d) (.type T)with|some a9=>a7 a9|some b7=>PySem.W.kitAny X.K (.type<|K7 M d) [.type c]|none=>a8)=_;rw[He X.K h1 h2];cases FB (K7 M d) T with
 |true=>rfl
 |false=>show (match Qz X.K (.type<|K7 M d) (.type c)with|some a9=>a7 a9|some b7=>a7 b7|none=>a8)=_;rw[He X.K h1 y];cases FB (K7 M d) c<;>rfl
 exact q.elim
def kD:C6:=λds M Q=>match ds with
 | [.str x]=>x.length<=sizeLine/\Q (.int x.length) M
 | [.tup xs]=>Q (.int xs.length) M
 | [.ref n]=>∃xs,am M n xs/\Q (.int xs.length) M
 |_=>False
theorem LR:iW X (.builtin "len") kD:=by
 refine fF.imp (uu.or ut) ?_;rintro vs H R ⟨ds,M,ρ,Q,m,a,q,k⟩;unfold kD at q;split at q
 first|have z:=Reps.inv_cons a|have z:=aw.inv_cons a
 clear a;obtain⟨_,_,rfl,b,a⟩:=z;cases a;cases b;exact .inr ⟨_,rfl,q.1,k _ H<|VQ.now m (.int _) q.2⟩
 first|have z:=Reps.inv_cons a|have z:=aw.inv_cons a
 clear a;obtain⟨_,_,rfl,b,a⟩:=z;cases a;cases b with
 |tup h r=>exact .inl ⟨_,_,rfl,.inr h,k _ H<|VQ.now m (by rw[<-r.length];exact .int _) q⟩
 obtain⟨xs,L,q⟩:=q
 first|have z:=Reps.inv_cons a|have z:=aw.inv_cons a
 clear a;obtain⟨_,_,rfl,b,a⟩:=z;cases a;obtain⟨_,rfl,e⟩:=u5.inv_ref b;obtain⟨s,c,r⟩:=am.seq m L e;exact .inl ⟨_,_,rfl,.inl c,k _ H<|VQ.now m (by rw[<-r.length];exact .int _) q⟩;exact q.elim
noncomputable def bls(s:List Bool):List D:=s.map .bl
theorem Reps.bls{K:v4}{ρ:List c9}{H:Hp}:∀{bs:List Bool}{vs:List V},Reps K ρ H (L2.bls bs) vs->vs=bs.map V.bl
 | [],_,h=>by cases h;rfl
 |b::bs,_,h=>by
  cases h with
  |cons r t=>cases r;rw[Reps.bls t];rfl
theorem vY:∀{bs:List Bool}{us:List b8},aw (bs.map V.bl) us->us=bs.map Nz
 | [],_,h=>by cases h;rfl
 |b::bs,_,h=>by
  cases h with
  |cons r t=>cases r;rw[vY t];rfl
theorem pD{pins:List (c9×d5)}{σ:St}{H:Hp}{s:f6}{a:c9}{c:List Bool}{G:f6->Prop}(I:t9 X pins σ H s)(z:X.calm=a9)(B:F7 X.K H a (c.map V.bl))(j:∀s',t9 X pins σ H s'->G s'):∀(E:b8->f6->Prop),f9 (g7 X.prog X.w) X.A.in1 (j0<|.ref a) (λit s₂=>∃I fp wr n P St tr,it=AB6 I/\Walks X.prog X.w X.A.in1 I fp wr n P St/\St 0 s₂.heap/\TruthOf X.prog X.w X.A.in1 P tr /\ (n=c.length/\(∀i,i<c.length->tr i=c.getD i b7))/\∀h' tk,(∀b o,b∉wr->s₂.heap.get? b=a7 o->h'.get? b=a7 o)->G { s₂ with heap:=h',toks:=tk }) E s:=by
 intro E;obtain⟨its,F,p,L⟩:=I.list B;have d:=vY F;subst d;have l:=p.isList;have t:a<s.heap.objs.size:=by obtain⟨o,n,e,_⟩:=p;exact z6 e
 refine QO l ?_;have k:t9 X pins σ H { s with heap:=s.heap.push { cls:=.type "list_iterator",data:=.fields #[.ref a,.int 0 0] } }:=I.kept (t':=s.toks) λb o e=>x5 _ e;refine⟨s.heap.objs.size,_,_,_,_,_,λi=>c.getD i b7,rfl,Walks.list (A:=X.A.in1) (I.ok.hd z) s.heap.objs.size a (A4 t) (c.map Nz).toArray,⟨⟨_,A8 _ rfl,rfl,rfl⟩,l.push _⟩,?_,⟨by simp,λi _=>rfl⟩,λh' tk D=>?_⟩;intro i v s' Q' J C Q;have h:(c.map Nz).toArray[i]?=a7 v:=C;rw[RI,C7]at h;cases e:c[i]? with
 |none=>rw[e]at h;cases h
 |some b =>
  rw[e]at h;cases h;refine O4 ?_;have:c.getD i b7=b:=by rw[K6,e];rfl
  have g:Q' (c.getD i b7) s':=Q;rw[this]at g;exact g
 have f:=I.fpOk (H':=H) (v6 _)<|I.hok.fresh<|v6 _;obtain⟨m,q,N,r,y,u⟩:=f;exact j _<|k.turned (t':=tk) (it:=s.heap.objs.size) (λb o x e=>D b o (by simpa using x) e) m q r y u
theorem BY{s:List Bool}{tr:Nat->Bool}(h:∀i,i<s.length->tr i=s.getD i b7):(D0 s.length).all tr=s.all id:=by rw[PQ,E8,E8];constructor;intro g b d;obtain⟨i,hi,e⟩:=List.mem_iff_getElem.mp d;have:=g i<|I0.mpr hi;rw[h i hi,K6,x9 hi]at this;rw[<-e];exact this;intro g i hi;have a:=I0.mp hi;rw[h i a,K6,x9 a];exact g _<|MV a
theorem BW{s:List Bool}{tr:Nat->Bool}(h:∀i,i<s.length->tr i=s.getD i b7):(D0 s.length).any tr=s.any id:=by rw[PQ,MK,MK];constructor;rintro⟨i,hi,g⟩;have a:=I0.mp hi;rw[h i a,K6,x9 a]at g;exact⟨_,MV a,g⟩;rintro⟨b,hb,g⟩;obtain⟨i,hi,e⟩:=List.mem_iff_getElem.mp hb;refine⟨i,I0.mpr hi,?_⟩;rw[h i hi,K6,x9 hi,e];exact g
def IF:C6:=λds M Q=>match ds with
 | [.ref n]=>∃s,am M n (bls s)/\Q (.bl<|s.all id) M
 |_=>False
def Jk:C6:=λds M Q=>match ds with
 | [.ref n]=>∃s,am M n (bls s)/\Q (.bl<|s.any id) M
 |_=>False
theorem LV(i:X.calm=a9:=by rfl):iW X (.builtin "all") IF:=by
 rintro p s σ H vs us R I v ⟨ds,M,ρ,Q,m,a,q,k⟩;unfold IF at q;split at q;obtain⟨c,L,q⟩:=q
 first|have z:=Reps.inv_cons a|have z:=aw.inv_cons a
 clear a;obtain⟨_,_,rfl,j,a⟩:=z;cases a;obtain⟨u,rfl,t⟩:=aw.one v;obtain⟨_,rfl,e⟩:=u5.inv_ref j;cases t;obtain⟨y,h,r⟩:=am.seq m L e;rw[r.bls]at h;refine call_all_walk<|w9 (pD (G:=λs'=>EP X p σ R (.bool<|c.all id) s') I i h (λs' b=>gx b m k q) _) ?_;rintro it x ⟨J,C,w,n,P,Sx,tr,t,W,l,T,⟨d,g⟩,f⟩;subst d;exact⟨J,C,w,_,P,Sx,tr,t,W,l,T,λh' o D=>by rw[BY g];exact f h' o D⟩;exact q.elim
theorem LU(i:X.calm=a9:=by rfl):iW X (.builtin "any") Jk:=by
 rintro p s σ H vs us R I v ⟨ds,M,ρ,Q,m,a,q,k⟩;unfold Jk at q;split at q;obtain⟨c,L,q⟩:=q
 first|have z:=Reps.inv_cons a|have z:=aw.inv_cons a
 clear a;obtain⟨_,_,rfl,j,a⟩:=z;cases a;obtain⟨u,rfl,t⟩:=aw.one v;obtain⟨_,rfl,e⟩:=u5.inv_ref j;cases t;obtain⟨y,h,r⟩:=am.seq m L e;rw[r.bls]at h;refine call_any_walk<|w9 (pD (G:=λs'=>EP X p σ R (.bool<|c.any id) s') I i h (λs' b=>gx b m k q) _) ?_;rintro it x ⟨J,C,w,n,P,Sx,tr,t,W,l,T,⟨d,g⟩,f⟩;subst d;exact⟨J,C,w,_,P,Sx,tr,t,W,l,T,λh' o D=>by rw[BW g];exact f h' o D⟩;exact q.elim
end L2
namespace L2
open PySem PySem.Spec PyProof.Rows DL _root_.HT
theorem qG{t m:c9}{i:Array b8}{l u:b8}{lo hi:Option Int}{Q:b8->f6->Prop}(D:IsTup s.heap t i)(hs:s.heap.IsSliceOf m l u .none)(p:k7 l lo)(f:k7 u hi)(d:sIx i.size 0 lo=0/\sIx i.size i.size hi=i.size) (h:Q (.ref t) s):f9 (g7 prog w) A (k9 (.ref t)<|.ref m) Q E s:=by
 obtain⟨o,b,c,e⟩:=id hs;have a:s.TypeIs (.ref m) "slice":=⟨o,b,c⟩
 unfold k9
 try with_reducible refine E3 ?_
 first|refine t6 (t8 ?_)|skip
 refine t6<|wpAny_sequenceKey D.typeIs (by decide)<|t6<|Mo (name:=u4 "__getitem__") D.typeIs Pe<|F5 Pe D.typeIs entry_tuple_getitem ?_<|args_tuple_getitem _ _;refine(show f9 (g7 prog w) _ (Rc (.ref t) >>= _) _ _ s from t6<|tupleItemsOf_ D<|t6<|No a ?_);rw[o8<|by decide];refine t6<|fP hs p f ?_;refine(show f9 (g7 prog w) _ (if (((sIx i.size 0 lo:Nat):Int)==0&&(1:Int)==1&&(sIx i.size i.size hi-sIx i.size 0 lo)==i.size)=a9 then _ else _) _ _ s from ?_);rw[o8<|by rw[d.1,d.2];simp];unfold Builtin.Tuple.tupleIsExact;refine t6<|t6<|No D.typeIs<|t8 ?_;rw[o8<|by decide];exact t6<|F9<|t8 ⟨_,rfl,t8 h⟩
end L2
namespace L2
open PySem PySem.Spec PyProof.Rows DL
section
variable{X:Cx}{a b:ge}{ta tb:x6}{pos:Pos}
theorem ME.imp(h:ME X r')(i:∀x y H R,r x y H R->r' x y H R):ME X r:=λa e p s σ H x y v u R I g b q hs=>h a e p s σ H x y v u R I g b (i x y H R q) hs
theorem Reps.atI{K:v4}{ρ:List c9}{H:Hp}{ds:List D}{vs:List V}{i:Int}{d:D}(r:Reps K ρ H ds vs)(h:L2.atI ds i=a7 d):∃v,L2.atI vs i=a7 v/\u5 K ρ H d v:=by
 unfold L2.atI at h ⊢;rw[r.length]at h;cases e:Nk vs.length i with
 |none=>rw[e]at h;cases h
 |some j=>rw[e]at h;obtain⟨v,c,a⟩:=r.get<|show ds[j]?=a7 d from h;exact⟨v,c,a⟩
def v5:G8:=λx y M Q=>match x,y with
 |.tup xs,.int i=>match L2.atI xs i with
  |some d=>Q d M
  |none=>False
 |.str z,.int i=>z.length<=sizeLine/\match L2.atI z.cps.toList i with
  |some c=>Q (.str ⟨#[c]⟩) M
  |none=>False
 |.ref n,.int i=>∃xs,am M n xs/\match L2.atI xs i with
  |some d=>Q d M
  |none=>False
 |_,_=>False
theorem Ho:ME X (lowR X.K v5):=by refine ME.imp KJ ?_;rintro p s H R ⟨x,y,M,ρ,Q,m,b,f,q,k⟩;unfold v5 at q;split at q;rename_i xs i;split at q;rename_i d e;cases f;obtain⟨_,_,rfl,h,r⟩:=u5.inv_tup b;obtain⟨v,a,g⟩:=r.atI e;exact .inr<|.inl ⟨_,_,_,v,rfl,rfl,h,a,k _ H<|VQ.now m g q⟩;exact q.elim;rename_i z i;obtain⟨o,q⟩:=q;split at q;rename_i c e;cases f;cases b;exact .inr<|.inr ⟨z,i,c,rfl,rfl,o,e,k _ H<|VQ.now m (.str _) q⟩;exact q.elim;rename_i n i;obtain⟨xs,L,q⟩:=q;split at q;rename_i d e;cases f;obtain⟨_,rfl,j⟩:=u5.inv_ref b;obtain⟨vs,l,r⟩:=am.seq m L j;obtain⟨v,a,g⟩:=r.atI e;exact .inl ⟨_,_,_,v,rfl,rfl,l,a,k _ H<|VQ.now m g q⟩;exact q.elim;exact q.elim
theorem d_ix(f:DE X a ta)(d:DE X b tb)(hs:vU b:=by intro _ _;rfl):DE X (.Subscript a b pos) (t7 v5 ta tb):=PE.imp (pe_ix Ho f d hs) qq
abbrev Oo:=SD->u8->(Option Int->u8->Prop)->Prop
def Kd(K:v4)(t:Oo):TO:=λσ H R=>∃S M ρ Q,w4 K ρ M H/\SRep K ρ H S σ/\t S M Q/\∀o H',(∃M' ρ',w4 K ρ' M' H'/\Grow K ρ H ρ' H'/\Q o M')->R o H'
def jZ:Oo:=λ_ M Q=>Q a8 M
def uh(t:x6):Oo:=λS M Q=>t S M λx a=>match x with
 |.int i=>Q (a7 i) a
 |_=>False
theorem PO.imp(h:PO X e t')(i:∀σ H R,t σ H R->t' σ H R):PO X e t:=λp s σ H R I q=>h p s σ H R I<|i σ H R q
theorem Ib:PO X a8 (Kd X.K jZ):=by refine PO.imp Go ?_;rintro σ H R ⟨S,M,ρ,Q,s,e,q,k⟩;exact k a8 H ⟨M,ρ,s,.refl,q⟩
theorem Ia(h:DE X e te):PO X (a7 e) (Kd X.K<|uh te):=by
 refine PO.imp (Gn h) ?_;rintro σ H R ⟨S,M,ρ,Q,s,j,q,k⟩;refine⟨S,M,ρ,_,s,j,q,?_⟩;rintro v b ⟨d,f,c,g,g1,r,a⟩;cases r with
 |int i=>exact⟨i,rfl,k _ b ⟨f,c,g,g1,a⟩⟩
 |_=>exact a.elim
theorem Jb:Pq X (λx lo hi H Q=>∃z,x=.str z/\z.length<=sizeLine/\Q (.str<|MS z lo hi) H):=by
 intro b s σ H x v w y lo hi n Q I r hs f m h;obtain⟨z,rfl,d,q⟩:=h;obtain⟨t,rfl⟩:=r;have a:∀{v:b8}{o:Option Int},k7 v o->∃p:Option (Int×Tok),v=partValue p/\p.map (·.1)=o:=λh=>by
  cases h with
  |none=>exact⟨a8,rfl,rfl⟩
  |int i t=>exact⟨a7 (i,t),rfl,rfl⟩
 obtain⟨g,rfl,e⟩:=a f;obtain⟨j,rfl,c⟩:=a m;subst e c;refine⟨"str",_,slot_str_getitem.lookup,typeIs_str _ _ _,wpAny_getItem_str_slice (l:=g) (u:=j) (st:=a8) hs rfl ?_⟩;exact post_val_or_str ⟨F4 (Txt.slice_le z _ _) d,λt' k=>⟨.str _,H,I.tok k,⟨t',rfl⟩,q⟩⟩
noncomputable def cutD(xs:List D)(lo hi:Option Int):List D:=(xs.drop<|HT.sIx xs.length 0 lo).take<|HT.sIx xs.length xs.length hi-HT.sIx xs.length 0 lo
theorem Reps.cutD{K:v4}{ρ:List c9}{H:Hp}{ds:List D}{vs:List V}(r:Reps K ρ H ds vs)(lo hi:Option Int):Reps K ρ H (L2.cutD ds lo hi) (FF vs lo hi):=by unfold L2.cutD FF;rw[r.length];exact(r.drop _).take _
def Qq:D->Option Int->Option Int->u8->DK->Prop:=λx l hi M Q=>match x with
 |.str z=>z.length<=sizeLine/\Q (.str<|MS z l hi) M
 |.ref n=>∃xs,am M n xs/\Q (.ref M.length) (M++[.lst<|cutD xs l hi])
 |.tup xs=>Q (.tup<|cutD xs l hi) M
 |_=>False
def lowSl(K:v4)(r:D->Option Int->Option Int->u8->DK->Prop):V->Option Int->Option Int->Hp->VK->Prop:=λg l hi H R=>∃x M ρ Q,w4 K ρ M H/\u5 K ρ H x g/\r x l hi M Q/\∀v H',VQ K ρ H Q v H'->R v H'
theorem sld:Pq X (lowSl X.K Qq):=by
 rintro b s σ H x v j o l hi i R I g hs c u ⟨d,M,ρ,Q,m,f,q,k⟩;unfold Qq at q;split at q;cases f;exact Jb b s σ H _ v j o l hi i R I g hs c u ⟨_,rfl,q.1,k _ H<|VQ.now m (.str _) q.2⟩;obtain⟨xs,L,q⟩:=q;obtain⟨_,rfl,t⟩:=u5.inv_ref f;obtain⟨vs,y,r⟩:=am.seq m L t;exact FV b s σ H _ v j o l hi i R I g hs c u ⟨_,vs,rfl,y,λp hp=>k _ _<|VQ.laidL m .refl (r.cutD l hi) hp q⟩;obtain⟨_,_,rfl,h,r⟩:=u5.inv_tup f;rename_i xs a vs;by_cases w:HT.sIx xs.length 0 l=0/\HT.sIx xs.length xs.length hi=xs.length;cases g;obtain⟨its,z,D,A⟩:=I.tuple h;have n:its.toArray.size=xs.length:=by rw[A5,r.length];exact z.length.symm
 have e:L2.cutD xs l hi=xs:=by unfold L2.cutD;rw[w.1,w.2,List.drop_zero,Nat.sub_zero,Mu]
 rw[e]at q;exact⟨"tuple",_,Pe.lookup,D.typeIs,qG D hs c u (by rw[n];exact w) ⟨.ref _,H,I,rfl,k _ H<|VQ.now m (.tup h r) q⟩⟩;exact Ja b s σ H _ v j o l hi i R I g hs c u ⟨_,_,rfl,h,by rw[<-r.length];exact w,λp hp=>k _ _<|VQ.laidT m .refl (r.cutD l hi) hp q⟩;exact q.elim
def Oj(te:x6)(t h:Oo):x6:=λS M Q=>te S M λx a=>t S a λl M2=>h S M2 λu b=>Qq x l u b Q
theorem Ik{e:ge}{te:x6}{lo hi:Option ge}{t h:Oo}{p:Pos}(i:DE X e te)(j:PO X lo (Kd X.K t))(m:PO X hi (Kd X.K h)):DE X (.Subscript e (.Slice lo hi a8 p) pos) (Oj te t h):=by refine PE.imp (CY sld i j m) ?_;rintro σ H R ⟨S,M,ρ,Q,s,r,q,k⟩;refine⟨S,M,ρ,_,s,r,q,?_⟩;rintro v C ⟨d,f,c,z,g1,y,n⟩;refine⟨S,f,c,_,z,r.grow g1,n,?_⟩;rintro l D ⟨M2,a,A,b,o⟩;refine⟨S,M2,a,_,A,r.grow<|g1.trans b,o,?_⟩;rintro u E ⟨g,L,B,g3,x⟩;exact⟨d,g,L,Q,B,y.grow<|b.trans g3,x,λv H' w=>k v H'<|VQ.trans ((g1.trans b).trans g3) w⟩
def kN:G8:=λx y M Q=>match x,y with
 |.int i,.int j=>CMul i j/\Q (.int<|i*j) M
 |.str z,.int n=>(0<=n/\n<2 ^ 63/\z.length*n.toNat<=sizeLine)/\Q (.str<|Txt.mul z n) M
 |_,_=>False
theorem vh(b:0<=n)(h:z.length*n.toNat<=sizeLine)(f:n<2 ^ 63):MulOk z n:=by
 refine⟨?_,λh1 h2=>?_,λh1 h2=>?_⟩;have a:decide (n < -(2 ^ 63:Int))=b7:=dF_ (by lia);have l:decide (n ≥ 2 ^ 63)=b7:=dF_ (by lia);rw[a,l];rfl;have c:(z.length:Int)*n<=2 ^ 24:=by
  have e:((z.length*n.toNat:Nat):Int)=(z.length:Int)*n:=by rw[Int.natCast_mul,Int.toNat_of_nonneg b]
  have h':((z.length*n.toNat:Nat):Int)<=(2 ^ 24:Nat):=Int.ofNat_le.mpr h;rw[e]at h';exact h'
 have s:0<n:=by lia
 intro t;have:=Int.lt_of_lt_of_le (Int.lt_mul_of_ediv_lt s t) c;lia;unfold PySem.Builtin.Str.tooLong;simpa using h
theorem GG:J0 X (j3 .Mult) kN:=by
 rintro p s σ H b c v u R I g i ⟨x,y,M,ρ,Q,a,r,m,q,k⟩;unfold kN at q;split at q;cases r;cases m;exact JL p s σ H _ _ v u R I g i ⟨_,_,rfl,rfl,q.1,k _ H<|VQ.now a (.int _) q.2⟩;rename_i z n;cases r;cases m;obtain⟨t,rfl⟩:=g;obtain⟨t',rfl⟩:=i;obtain⟨⟨h,h2,h1⟩,q⟩:=q;exact PySem.SB.mul (vh h h1 h2) λt' j=>⟨.str _,H,I.tok j,⟨t',rfl⟩,k _ H<|VQ.now a (.str _) q⟩
 exact q.elim
variable{o e:ge}{es:List ge}{to:x6}{t:Fn}{name:b9}{apos cpos:Pos}{id:String}
def GM(K:v4)(r:b9->C6):V->List V->Hp->VK->Prop:=λg vs H R=>∃z ds M ρ Q,g=.str z/\w4 K ρ M H/\Reps K ρ H ds vs/\r z ds M Q/\∀v H',VQ K ρ H Q v H'->R v H'
def ig(K:v4)(r:Nat->C6):V->List V->Hp->VK->Prop:=λg vs H R=>∃n a ds M ρ Q,g=.ref a/\ρ[n]?=a7 a/\w4 K ρ M H/\Reps K ρ H ds vs/\r n ds M Q/\∀v H',VQ K ρ H Q v H'->R v H'
def Qs(r:b9->C6)(e:x6)(t:Fn):x6:=λS M Q=>e S M λx a=>match x with
 |.str z=>t S a λds M2=>r z ds M2 Q
 |_=>False
def MR(r:Nat->C6)(e:x6)(t:Fn):x6:=λS M Q=>e S M λx a=>match x with
 |.ref n=>(∃xs,am a n xs)/\t S a λds M2=>r n ds M2 Q
 |_=>False
theorem d_ms(slot:Slot "str" name id)(y:l8 (.builtin id)=pure (.type "method_descriptor"))(p:J1 X id (GM X.K r))(B:DE X o to)(m:DA X (e::es) t)(h:m3 o name X.env (eval o X.env)=eval o X.env:=by rfl)(b:((g9 cpos<|h7 (e::es) X.env).all (λx=>!x.1)&&(m5 cpos<|m6 [] X.env).all (λx=>x.1.isSome) && decide ((e::es).length+([]:List m7).length+(if ([]:List m7).isEmpty then 0 else 1)<30))=a9:=by rfl)(a:(apos.endLine==cpos.line)=a9:=by rfl) (hs:h7 (e::es) X.env=(b7,eval e X.env)::h7 es X.env:=by rfl) (n:(g9 cpos<|h7 es X.env).any (·.1)=b7:=by rfl):DE X (.Call (.Attribute o name apos) (e::es) [] cpos) (Qs r to t):=by
 refine PE.imp (JE PySem.F.plainAttrs_str slot y p B m h b a hs n) ?_;rintro σ H R ⟨S,M,ρ,Q,s,i,q,k⟩;refine⟨S,M,ρ,_,s,i,q,?_⟩;rintro v G ⟨d,j,c,D,g1,A,g⟩;cases A with
 |str z=>exact⟨rfl,S,j,c,_,D,i.grow g1,g,λvs I ⟨ds,M2,f,E,l,C,u⟩=>⟨z,ds,M2,f,Q,rfl,E,C,u,λv H' w=>k v H'<|VQ.trans (g1.trans l) w⟩⟩
 |_=>exact g.elim
theorem d_ml(slot:Slot "list" name id)(y:l8 (.builtin id)=pure (.type "method_descriptor"))(B:J1 X id (ig X.K r))(C:DE X o to)(A:DA X (e::es) t)(b:m3 o name X.env (eval o X.env)=eval o X.env:=by rfl)(f:((g9 cpos<|h7 (e::es) X.env).all (λx=>!x.1)&&(m5 cpos<|m6 [] X.env).all (λx=>x.1.isSome) && decide ((e::es).length+([]:List m7).length+(if ([]:List m7).isEmpty then 0 else 1)<30))=a9:=by rfl)(c:(apos.endLine==cpos.line)=a9:=by rfl) (hs:h7 (e::es) X.env=(b7,eval e X.env)::h7 es X.env:=by rfl) (h:(g9 cpos<|h7 es X.env).any (·.1)=b7:=by rfl):DE X (.Call (.Attribute o name apos) (e::es) [] cpos) (MR r to t):=by
 refine PE.imp (JE PySem.F.plainAttrs_list slot y B C A b f c hs h) ?_;rintro σ H R ⟨S,M,ρ,Q,s,z,q,k⟩;refine⟨S,M,ρ,_,s,z,q,?_⟩;rintro v N ⟨d,i,j,u,g1,G,g⟩;cases G with
 |@ref n a p =>
  obtain⟨⟨xs,L⟩,g⟩:=(show (∃xs,am i n xs)/\t S i _ from g)
  obtain⟨vs,D,_⟩:=am.seq u L p;refine⟨.inl ⟨rfl,vs,D⟩,S,i,j,_,u,z.grow g1,g,?_⟩;rintro vs O ⟨ds,M2,l,J,m,I,E⟩;exact⟨n,a,ds,M2,l,Q,rfl,ao m.pre p,J,I,E,λv H' w=>k v H'<|VQ.trans (g1.trans m) w⟩
 |_=>exact g.elim
def cx(n:Nat):C6:=λds M Q=>match ds with
 | [d]=>∃xs,M[n]?=a7 (.lst xs)/\xs.length<sizeLine/\Q .non (M.set n<|.lst<|xs++[d])
 |_=>False
theorem yf:J1 X "list.append" (ig X.K cx):=by
 rintro p s σ H x xs v us R I l j ⟨n,a,ds,M,ρ,Q,c,b,m,f,q,k⟩;unfold cx at q;split at q;rename_i d;obtain⟨ys,e,g,q⟩:=q
 first|have z:=Reps.inv_cons f|have z:=aw.inv_cons f
 clear f;obtain⟨_,_,rfl,i,f⟩:=z;cases f;obtain⟨vs,h,r⟩:=m.obj n a _ b e;obtain⟨w,o⟩:=m.write b e h<|r.append<|.cons i .nil;exact Am p s σ H x _ v us R I l j ⟨a,vs,_,c,rfl,h,by rw[<-r.length];exact g,k _ _ ⟨.non,_,ρ,w,o,.non,q⟩⟩;exact q.elim
end
def cI(K:v4)(mg:b9->Option b8)(x:b9)(st:i3)(ps:List b9):Prop:=∃f d,M9 K x x st f d/\mg x=a7 (.ref f)/\uC K d ps []
def w6(P:c8)(w:c7)(K:v4)(mg:b9->Option b8)(base:d6)(k:Nat)(x:b9)(ps:List b9)(c:A2):Prop:=∃f d,FnOk P w K mg base K9 k f d ps (MY K c)/\mg x=a7 (.ref f)/\N7 K (.ref f)=a9/\uC K d ps []
theorem fnat_mk{K:v4}{h:d6}{mg:b9->Option b8}{x:b9}{st:i3}{ps:List b9}{f:c9}{b:b8}{j M:Option c9}{o:Array (Option b8)}{kV i U v R:b8}(X:K.In h) (G:h.Ns d9 mg) (a:PySem.W.nsIn K d9 x=a7 (a7<|.ref f))(l:K.lookup f=a7 ⟨b,j,.func<|NM x x (iT st) (bY st) (az st) .none kV i U M v R,o⟩)(c:QA K v x=a9) (k:N7 K (.ref f)=a9)(h:∀(kV i U:b8) (M:Option c9) (v R:b8) (us:List b8),us.length=ps.length->bindArgs (NM x x (iT st) (bY st) (az st) .none kV i U M v R) ⟨us,[]⟩=pure (ps.zip us)):cI K mg x st ps:=have F:=Lg (st:=st) l c k
 ⟨f,_,F,PySem.W.mg_of X G a,F.binds h⟩
theorem w6.of{P:c8}{w:c7}{K:v4}{mg:b9->Option b8}{base:d6}{x:b9}{st:i3}{N ps:List b9}{k:Nat}{c:A2}(F:cI K mg x st ps)(e:FnScope N ps (az st))(B:∀ds M R,c ds M R->ds.length=ps.length) {t:u3}(r:∀(f:c9) (cdv:b8) (A:e8) (outer:List Env) (s:f6) (H:Hp) (E:XK),Room k (A.deeper<|k5 x (az st) s.heap.objs.size f cdv)->Nm (yJ K9 P w K mg base N x (az st) f cdv A outer s H E).nox (bY st) t)(p:∀ds M R,c ds M R->t ⟨λ_ M'=>aY M R .non M',aY M R,λ_ _=>False,λ_ _=>False⟩ (eO N ds) M):w6 P w K mg base (k+1) x ps c:=by obtain⟨f,d,a,m,b⟩:=F;exact⟨f,d,d_fn c a e B λcdv A outer s H E i=>⟨t,r f cdv A outer s H E i,p⟩,m,a.kp,b⟩
theorem HK{P:c8}{w:c7}{K:v4}{mg:b9->Option b8}{base:d6}{x:b9}{st:i3}{N ps:List b9}{k:Nat}{c:A2}{f:c9}{d:j7}(F:M9 K x x st f d)(e:FnScope N ps (az st))(B:∀ds M R,c ds M R->ds.length=ps.length) {t:u3}(r:∀(f:c9) (cdv:b8) (A:e8) (outer:List Env) (s:f6) (H:Hp) (E:XK),Room k (A.deeper<|k5 x (az st) s.heap.objs.size f cdv)->Nm (yJ K9 P w K mg base N x (az st) f cdv A outer s H E).nox (bY st) t)(p:∀ds M R,c ds M R->t ⟨λ_ M'=>aY M R .non M',aY M R,λ_ _=>False,λ_ _=>False⟩ (eO N ds) M):FnOk P w K mg base K9 (k+1) f d ps (MY K c):=d_fn c F e B λcdv A outer s H E i=>⟨t,r f cdv A outer s H E i,p⟩
theorem d_cal(C:w6 X.prog X.w X.K X.mg X.base j x ps P)(r:Room k X.A)(a:DA X (e::es) t)(hj:j<=k:=by decide)(R:Gl X x:=by rfl) (b:(x==("__debug__":b9))=b7:=by decide) (i:h7 (e::es) X.env=(b7,eval e X.env)::h7 es X.env:=by rfl) (l:(g9 pos<|h7 es X.env).any (·.1)=b7:=by rfl):DE X (.Call (.Name x p) (e::es) [] pos) (u7 P t):=by obtain⟨f,c,F,m,h,d⟩:=C;exact LN F (r.mono hj) m h d a R b i l
def GT:A2:=λds M R=>∃(ns:List Int) (m:MO),ns.length<=63/\(m.items=ns.map D.int/\m.isL=a9)/\ds=[.ref 0]/\M=[m]/\∀M',R (.bl a9) M'
theorem tI(h:M[n]?=a7 mo)(g:mo.isL=a9):am M n mo.items:=by
 cases mo with
 |lst xs=>exact .inl h
 |fz xs=>exact .inr<|.inl h
 |kl xs=>exact .inr<|.inr h
 |dct xs=>cases g
 |dkt xs=>cases g
 |dkq _ xs=>cases g
 |fdc o xs=>cases g
 |dkm xs=>cases g
 |tb x b=>cases g
 |exc x=>cases g
theorem jp{K:v4}{ρ:List c9}{H:Hp}:∀(ns:List Int),Reps K ρ H (ns.map D.int) (ns.map V.int)
 | []=>.nil
 |n::ns=>.cons (.int n)<|jp ns
theorem ym{K:v4}{H:Hp}{a:c9}{ns:List Int}(g:ns.length<=63)(S:F7 K H a (ns.map V.int)):MY K GT [.ref a] H (λv _=>v=.bl a9) λ_ _ _=>False:=by
 have c:∀{mo:MO},mo.items=ns.map D.int/\mo.isL=a9->yK K [a] H a mo->MY K GT [.ref a] H (λv _=>v=.bl a9) λ_ _ _=>False:=λ{mo} e ok=>by refine⟨[.ref 0],[mo],[a],λd _=>d=.bl a9,⟨λn m b f t l=>?_,rfl,λn b i t l=>?_⟩,.cons (.ref rfl) .nil,⟨ns,mo,g,e,rfl,rfl,λ_=>rfl⟩,λv H' ⟨d,M',ρ',_,_,r,q⟩=>?_⟩;have h1:=(A6.mp t).1;have h2:=(A6.mp l).1;simp at h1 h2;lia;have h1:=(A6.mp t).1;simp at h1;subst h1;simp at t l;subst t l;exact ok;have j:d=.bl a9:=q;subst j;cases r;rfl
 rcases S with(h|⟨o,h⟩)|h;exact c (mo:=.lst _) ⟨rfl,rfl⟩ ⟨_,h,jp ns⟩;exact c (mo:=.fz _) ⟨rfl,rfl⟩ ⟨o,_,h,jp ns⟩;exact c (mo:=.kl _) ⟨rfl,rfl⟩ ⟨_,h,jp ns⟩
theorem law_walk{l:PySem.W.OpenLaw}{q:c8}{b:List b9}{P:(b9->Option b8)->d6->Prop}{YP:c7->d6->Prop}{d:DefRec}{K:Params->v4}{k:Nat}{st:i3}{x:b9}(y:l.most=a7 63)(i:d.params.defaults=[])(p:d.name = "law")(A:Room k callerA)(D:∀(w:c7) (h:d6),YP w h->(K w.params).In h)(F:∀(w:c7) (mg:b9->Option b8) (h:d6),(K w.params).In h->h.Ns d9 mg->cI (K w.params) mg "law" st [x] /\ ∀(base:d6) (f:c9) (fd:j7),M9 (K w.params) "law" "law" st f fd->FnOk l.prog w (K w.params) mg base K9 k f fd [x] (MY (K w.params) GT))(m:∀(kV doc pm:b8) (an:Option c9) (cdv ct:b8) (u:b8),bindArgs (NM "law" "law" (iT st) (bY st) (az st) .none kV doc pm an cdv ct) ⟨[u],[]⟩=pure [(x,u)]):PySem.W.WalkO q b P YP l.row.toRowW d [] (λf vs=>PySem.call f vs):=by refine L2.walk_of (n:=63) (k:=k) (x:=x) (CX:=λ_=>K9) (sp:=λw=>MY (K w.params) GT) y (by decide) i A D (λw mg I h X G g=>?_) (λw H a ns r _ S=>ym r S) λ_ _ _ _ _ z=>z;rw[p]at g;obtain⟨⟨f,fd,c,t,_⟩,C⟩:=F w mg h X G;have e:=g.symm.trans t;cases e;have j:=λbase=>C base _ _ c;obtain⟨J,L,kV,doc,pm,an,cdv,ct,B,rfl,E,o⟩:=id c.ex;exact⟨_,λs v=>.of_eq<|m kV doc pm an cdv ct v,λbase _ _=>j base⟩
noncomputable def pE(m:List (b9×j9))(N N':List b9)(t:Nat)(s:List Nat)(c:f7):Bool:=c.kind==.function&&c.names.all (λy=>y.2 != .cell&&(y.2 != .local||c.names.lookup y.1==a7 .local)&&(y.2 != .free||(m.lookup y.1==a7 .cell||m.lookup y.1==a7 .free))) &&
 N'.length==t+s.length&&(D0 s.length).all λk=>match s[k]?,N'[t+k]? with
  |some j,a7 x=>N[j]?==a7 x&&c.names.lookup x==a7 .free&&(m.lookup x==a7 .cell||m.lookup x==a7 .free)
  |_,_=>b7
theorem BlkSc.chk(h:pE X.env.scope.names X.N N' nt js scope=a9):BlkSc X N' nt js scope:=by
 unfold pE at h;simp only[E4,E8,p9,O2,bne_iff_ne]at h;obtain⟨⟨⟨h1,h2⟩,a⟩,d⟩:=h;refine⟨h1,λy Q=>(h2 y Q).1.1,λy Q e=>((h2 y Q).1.2.resolve_left<|λz=>z e),λy Q e=>((h2 y Q).2.resolve_left<|λz=>z e),a,λk j e=>?_⟩;have b:k<js.length:=(A6.mp e).1;have q:=d k<|I0.mpr b;rw[e]at q;cases f:N'[nt+k]? with
 |none=>rw[f]at q;exact p7 q<|by simp
 |some x=>rw[f]at q;simp only[E4,p9,O2]at q;exact⟨x,rfl,q.1.1,q.1.2,q.2⟩
noncomputable def D5(f:D->D->Bool):List D->List D->Bool
 | [],[]=>a9
 |x::xs,y::ys=>f x y&&D5 f xs ys
 |_,_=>b7
noncomputable def u6(M:u8):Nat->D->D->Bool
 |_,.non,.non=>a9
 |_,.bl a,.bl b=>a==b
 |_,.bl a,.int b=>(if a then 1 else 0)==b
 |_,.int a,.bl b=>a==(if b then 1 else 0)
 |_,.int a,.int b=>a==b
 |_,.str a,.str b=>a==b
 |n+1,.tup xs,.tup ys=>D5 (u6 M n) xs ys
 |n+1,.ref i,.ref j=>match M[i]?,M[j]? with
  |some a,a7 b=>D5 (u6 M n) a.items b.items
  |_,_=>b7
 |_,_,_=>b7
noncomputable def v9(M:u8):Nat->D->Bool
 |_,.ty _=>b7
 |n+1,.tup xs=>xs.all<|v9 M n
 |n+1,.ref i=>match M[i]? with
  |some a=>a.isL&&a.items.all (v9 M n)
  |none=>b7
 | 0,.tup _=>b7
 | 0,.ref _=>b7
 |_,_=>a9
theorem Bh:∀{xs ys:List D},D5 f xs ys=a9->xs.length=ys.length
 | [],[],_=>rfl
 | [],_::_,h=>by simp[D5]at h
 |_::_,[],h=>by simp[D5]at h
 |x::xs,y::ys,h=>by simp only[D5,E4]at h;rw[C0,C0,Bh h.2]
theorem BX(n:Nat)(e:Nat->Bool):(D0<|n+1).all e=(e 0&&(D0 n).all λj=>e<|j+1):=by rw[List.range_succ_eq_map,Mq,List.all_map];rfl
theorem nB:∀{xs ys:List D}{e:Nat->Bool},xs.length=ys.length->(∀(j:Nat) x y,xs[j]?=a7 x->ys[j]?=a7 y->e j=f x y)->(D0 xs.length).all e=D5 f xs ys
 | [],[],e,_,_=>by simp[D5]
 | [],_::_,_,h,_=>by simp at h
 |_::_,[],_,h,_=>by simp at h
 |x::xs,y::ys,e,h,he=>by rw[C0,BX,D5,he 0 x y rfl rfl,nB (by simpa using h) λj x' y' h1 h2=>he (j+1) x' y' (by simpa using h1)<|by simpa using h2]
theorem Bg(h:xs.length≠ys.length):D5 f xs ys=b7:=by
 cases q:D5 f xs ys with
 |false=>rfl
 |true=>exact p7 (Bh q) h
theorem jb{vs:List V}{us:List b8}(h:aw vs us){j:Nat}{v:V}(e:vs[j]?=a7 v):∃u,us[j]?=a7 u/\aL v u:=by
 induction h generalizing j with
 |nil=>simp at e
 |cons r _ i =>
  cases j with
  |zero=>simp at e;subst e;exact⟨_,rfl,r⟩
  |succ j=>exact i<|by simpa using e
section
variable{X:Cx}{pins:List (c9×d5)}{σ:St}{H:Hp}{s:f6}{ρ:List c9}{M:u8}
theorem my(I:t9 X pins σ H s)(m:w4 X.K ρ M H){i:Nat}{a:c9}{mo:MO}(e:ρ[i]?=a7 a)(d:M[i]?=a7 mo)(g:mo.isL=a9):∃vs its,F7 X.K H a vs/\Reps X.K ρ H mo.items vs/\aw vs its/\PlainL s.heap a its.toArray:=by obtain⟨vs,q,r⟩:=am.seq m (tI d g) e;obtain⟨its,f,p,_⟩:=I.list q;exact⟨vs,its,q,r,f,p⟩
theorem eJ(d:M[i]?=a7 mo)(o:v9 M (n+1) (.ref i)=a9):mo.isL=a9/\mo.items.all (v9 M n)=a9:=by have o':(match M[i]? with|some a=>a.isL&&a.items.all (v9 M n)|none=>b7)=a9:=o;rw[d]at o';exact(E4 _ _).mp o'
theorem Er(I:t9 X pins σ H s)(m:w4 X.K ρ M H):∀(n:Nat) (x y:D) (v:V),u5 X.K ρ H x v->u5 X.K ρ H y v->v9 M n x=a9->v9 M n y=a9->u6 M n x y=a9:=by
 have l:∀(n:Nat),(∀(x y:D) (v:V),u5 X.K ρ H x v->u5 X.K ρ H y v->v9 M n x=a9->v9 M n y=a9->u6 M n x y=a9) -> ∀(xs ys:List D) (vs:List V),Reps X.K ρ H xs vs->Reps X.K ρ H ys vs->xs.all (v9 M n)=a9->ys.all (v9 M n)=a9->D5 (u6 M n) xs ys=a9:=by
  intro n p xs;induction xs with
  |nil=>intro ys vs h1 h2 _ _;cases h1;cases h2;rfl
  |cons x xs hi =>
   intro ys vs h1 h2 o1 o2;cases h1 with
   |cons G P =>
    cases h2 with
    |cons J Q=>rw[Mq,E4]at o1 o2;rw[D5,p _ _ _ G J o1.1 o2.1,hi _ _ P Q o1.2 o2.2];rfl
 intro n;induction n with
 |zero=>intro x y v h1 h2 o1 o2;cases h1<;>cases h2<;>first|(simp[v9]at o1;done)|rfl|simp[u6]
 |succ n p =>
  intro x y v h1 h2 o1 o2;cases h1 with
  |non=>cases h2;rfl
  |bl b=>cases h2;simp[u6]
  |int b=>cases h2;simp[u6]
  |str b=>cases h2;simp[u6]
  |ty b=>simp[v9]at o1
  |@tup a vs ds q r =>
   cases h2 with
   |tup h r'=>have e:=I.tuple_inj q h;subst e;exact l n p _ _ _ r r' (by simpa [v9]using o1)<|by simpa [v9]using o2
   |@ref i _ e =>
    exfalso;obtain⟨its,_,⟨o,t,u,_⟩,_⟩:=I.tuple q;have hi:i<M.length:=by rw[<-m.len];exact(A6.mp e).1
    obtain⟨g,d,_,_,_,⟨o',C,f,N,_⟩⟩:=my I m e (x9 hi) (eJ (x9 hi) o2).1;rw[t]at f;cases f;rw[u]at N;injection N with f3;exact p7 f3<|by decide
  |@ref i a e =>
   have hi:i<M.length:=by rw[<-m.len];exact(A6.mp e).1
   have k:=x9 hi;obtain⟨vs,its,q,r,R,E⟩:=my I m e k (eJ k o1).1;cases h2 with
   |tup h r'=>exfalso;obtain⟨d,_,⟨o,t,u,_⟩,_⟩:=I.tuple h;obtain⟨o',C,f,N,_⟩:=E;rw[t]at f;cases f;rw[u]at N;injection N with f3;exact p7 f3<|by decide
   |@ref j _ A =>
    have L:j<M.length:=by rw[<-m.len];exact(A6.mp A).1
    have c:=x9 L;obtain⟨g,d,h,r',O,F⟩:=my I m A c (eJ c o2).1;have B:vs=g:=I.list_inj q h;subst B;have w:=(eJ k o1).2;have z:=(eJ c o2).2;simp only[u6,k,c];exact l n p _ _ _ r r' w z
theorem kH(I:t9 X pins σ H s)(sm:w4 X.K ρ M H):∀(n:Nat) (A:e8) (x y:D) (vx vy:V) (u v:b8),A.units+n<j6->u5 X.K ρ H x vx->aL vx u->u5 X.K ρ H y vy->aL vy v->v9 M n x=a9->v9 M n y=a9 ->MG A s u v (u6 M n x y)/\SeqAt.RcAt A s u v (u6 M n x y)/\SeqAt.RcNeAt A s u v (!u6 M n x y):=by
 intro n;induction n with
 |zero =>
  intro A x y vx vy u v hu R w m l o1 o2;cases R with
  |ty b=>simp[v9]at o1
  |tup b=>simp[v9]at o1
  |ref b=>simp[v9]at o1
  |non =>
   cases w;cases m with
   |ty b=>simp[v9]at o2
   |tup b=>simp[v9]at o2
   |ref b=>simp[v9]at o2
   |non=>cases l;exact⟨QD _,SeqAt.RcAt.none_none,SeqAt.RcNeAt.none_none⟩
   |bl b=>cases l;exact⟨SeqAt.EqAt.none_bool _,SeqAt.RcAt.none_bool _,SeqAt.RcNeAt.none_bool _⟩
   |int b=>obtain⟨t,rfl⟩:=l;exact⟨SeqAt.EqAt.none_int _ _,SeqAt.RcAt.none_int _ _,SeqAt.RcNeAt.none_int _ _⟩
   |str b=>obtain⟨t,rfl⟩:=l;exact⟨SeqAt.EqAt.none_str _ _,SeqAt.RcAt.none_str _ _,SeqAt.RcNeAt.none_str _ _⟩
  |bl a =>
   cases w;cases m with
   |ty b=>simp[v9]at o2
   |tup b=>simp[v9]at o2
   |ref b=>simp[v9]at o2
   |non=>cases l;exact⟨SeqAt.EqAt.bool_none _,SeqAt.RcAt.bool_none _,SeqAt.RcNeAt.bool_none _⟩
   |bl b=>cases l;exact⟨SeqAt.EqAt.bool_bool _ _,SeqAt.RcAt.bool_bool _ _,SeqAt.RcNeAt.bool_bool _ _⟩
   |int b=>obtain⟨t,rfl⟩:=l;exact⟨SeqAt.EqAt.bool_int _ _ _,SeqAt.RcAt.bool_int _ _ _,SeqAt.RcNeAt.bool_int _ _ _⟩
   |str b=>obtain⟨t,rfl⟩:=l;exact⟨SeqAt.EqAt.bool_str _ _ _,SeqAt.RcAt.bool_str _ _ _,SeqAt.RcNeAt.bool_str _ _ _⟩
  |int a =>
   obtain⟨t0,rfl⟩:=w;cases m with
   |ty b=>simp[v9]at o2
   |tup b=>simp[v9]at o2
   |ref b=>simp[v9]at o2
   |non=>cases l;exact⟨SeqAt.EqAt.int_none _ _,SeqAt.RcAt.int_none _ _,SeqAt.RcNeAt.int_none _ _⟩
   |bl b=>cases l;exact⟨SeqAt.EqAt.int_bool _ _ _,SeqAt.RcAt.int_bool _ _ _,SeqAt.RcNeAt.int_bool _ _ _⟩
   |int b=>obtain⟨t,rfl⟩:=l;exact⟨QV _ _ _ _,SeqAt.RcAt.int_int _ _ _ _,SeqAt.RcNeAt.int_int _ _ _ _⟩
   |str b=>obtain⟨t,rfl⟩:=l;exact⟨Qc _ _ _ _,SeqAt.RcAt.int_str _ _ _ _,SeqAt.RcNeAt.int_str _ _ _ _⟩
  |str a =>
   obtain⟨t0,rfl⟩:=w;cases m with
   |ty b=>simp[v9]at o2
   |tup b=>simp[v9]at o2
   |ref b=>simp[v9]at o2
   |non=>cases l;exact⟨SeqAt.EqAt.str_none _ _,SeqAt.RcAt.str_none _ _,SeqAt.RcNeAt.str_none _ _⟩
   |bl b=>cases l;exact⟨SeqAt.EqAt.str_bool _ _ _,SeqAt.RcAt.str_bool _ _ _,SeqAt.RcNeAt.str_bool _ _ _⟩
   |int b=>obtain⟨t,rfl⟩:=l;exact⟨Qb _ _ _ _,SeqAt.RcAt.str_int _ _ _ _,SeqAt.RcNeAt.str_int _ _ _ _⟩
   |str b=>obtain⟨t,rfl⟩:=l;exact⟨QU _ _ _ _,SeqAt.RcAt.str_str _ _ _ _,SeqAt.RcNeAt.str_str _ _ _ _⟩
 |succ n ih =>
  intro A x y vx vy u v hu R w m l o1 o2;have c:A.units<j6:=by lia
  have ai:A.in1.units+n<j6:=by show A.units+1+n<j6;lia
  -- what a list or a tuple is,as the heap has it
  have tupAt:∀{a:c9}{vs:List V}{ds:List D},B8 X.K H a vs->Reps X.K ρ H ds vs->∃its:List b8,aw vs its/\s.heap.IsTuple a its.toArray/\ds.length=its.length:=λ{a vs ds} q r=>by obtain⟨its,g,p,_⟩:=I.tuple q;exact⟨its,g,p,r.length.trans g.length⟩
  have lstAt:∀{i:Nat}{a:c9},ρ[i]?=a7 a->v9 M (n+1) (.ref i)=a9->∃o,M[i]?=a7 o/\∃vs its,Reps X.K ρ H o.items vs/\aw vs its/\s.heap.IsList a its.toArray/\o.items.length=its.length:=λ{i a} e ok=>by
   have hi:i<M.length:=by rw[<-sm.len];exact(A6.mp e).1
   have z:=x9 hi;obtain⟨vs,its,q,r,g,p⟩:=my I sm e z (eJ z ok).1;exact⟨_,z,vs,its,r,g,p.isList,r.length.trans g.length⟩
  have f:∀{xs ys:List D}{vs Y:List V}{its d:List b8},Reps X.K ρ H xs vs->aw vs its->Reps X.K ρ H ys Y->aw Y d->xs.all (v9 M n)=a9->ys.all (v9 M n)=a9 -> ∀(j:Nat) (h1:j<its.toArray.size) (h2:j<d.toArray.size),MG A.in1 s its.toArray[j] d.toArray[j] (u6 M n (xs.getD j .non)<|ys.getD j .non):=λ{xs ys vs Y its d} R q1 m q2 o1 o2 j h1 h2=>by
   have l1:j<xs.length:=by rw[R.length,q1.length];simpa using h1
   have l2:j<ys.length:=by rw[m.length,q2.length];simpa using h2
   obtain⟨v1,g1,p1⟩:=R.get<|x9 l1;obtain⟨v2,g2,p2⟩:=m.get<|x9 l2;obtain⟨u1,k1,m1⟩:=jb q1 g1;obtain⟨u2,k2,m2⟩:=jb q2 g2;have z1:its.toArray[j]=u1:=by have:=(A6.mp k1).2;simpa using this
   have z2:d.toArray[j]=u2:=by have:=(A6.mp k2).2;simpa using this
   rw[z1,z2];have y1:xs.getD j .non=xs[j]:=by simp[Op,x9 l1]
   have y2:ys.getD j .non=ys[j]:=by simp[Op,x9 l2]
   rw[y1,y2];exact(ih A.in1 _ _ _ _ _ _ ai p1 m1 p2 m2 (E8.mp o1 _<|MV l1)<|E8.mp o2 _<|MV l2).1
  have W:∀(xs ys:List D),xs.length=ys.length->(D0 xs.length).all (λj=>u6 M n (xs.getD j .non)<|ys.getD j .non)=D5 (u6 M n) xs ys:=λxs ys h=>nB h λj x y h1 h2=>by simp[Op,h1,h2]
  have N:∀{a b:c9}{k:Bool},u5 X.K ρ H x (.ref a)->u5 X.K ρ H y (.ref b)->u6 M (n+1) x y=k->SeqAt.RcAt A s (.ref a) (.ref b) k->SeqAt.RcNeAt A s (.ref a) (.ref b) (!k) -> MG A s (.ref a) (.ref b) (u6 M (n+1) x y)/\SeqAt.RcAt A s (.ref a) (.ref b) (u6 M (n+1) x y)/\SeqAt.RcNeAt A s (.ref a) (.ref b) (!u6 M (n+1) x y):=λ{a b k} p1 p2 Z h1 h2=>by subst Z;refine⟨?_,h1,h2⟩;by_cases S:a=b;subst S;rw[Er I sm (n+1) x y _ p1 p2 o1 o2];exact QD _;exact SeqAt.EqAt.of_refs S h1
  cases R with
  |ty b=>simp[v9]at o1
  |non =>
   cases w;cases m with
   |ty b=>simp[v9]at o2
   |tup q r=>cases l;obtain⟨its,g,p,_⟩:=tupAt q r;exact⟨SeqAt.EqAt.none_tuple p c,SeqAt.RcAt.none_tuple p c,SeqAt.RcNeAt.none_tuple p c⟩
   |ref e=>cases l;obtain⟨o,z,vs,its,r,g,p,_⟩:=lstAt e o2;exact⟨SeqAt.EqAt.none_list p c,SeqAt.RcAt.none_list p c,SeqAt.RcNeAt.none_list p c⟩
   |non=>cases l;exact⟨QD _,SeqAt.RcAt.none_none,SeqAt.RcNeAt.none_none⟩
   |bl b=>cases l;exact⟨SeqAt.EqAt.none_bool _,SeqAt.RcAt.none_bool _,SeqAt.RcNeAt.none_bool _⟩
   |int b=>obtain⟨t,rfl⟩:=l;exact⟨SeqAt.EqAt.none_int _ _,SeqAt.RcAt.none_int _ _,SeqAt.RcNeAt.none_int _ _⟩
   |str b=>obtain⟨t,rfl⟩:=l;exact⟨SeqAt.EqAt.none_str _ _,SeqAt.RcAt.none_str _ _,SeqAt.RcNeAt.none_str _ _⟩
  |bl a =>
   cases w;cases m with
   |ty b=>simp[v9]at o2
   |tup q r=>cases l;obtain⟨its,g,p,_⟩:=tupAt q r;exact⟨SeqAt.EqAt.bool_tuple _ p c,SeqAt.RcAt.bool_tuple _ p c,SeqAt.RcNeAt.bool_tuple _ p c⟩
   |ref e=>cases l;obtain⟨o,z,vs,its,r,g,p,_⟩:=lstAt e o2;exact⟨SeqAt.EqAt.bool_list _ p c,SeqAt.RcAt.bool_list _ p c,SeqAt.RcNeAt.bool_list _ p c⟩
   |non=>cases l;exact⟨SeqAt.EqAt.bool_none _,SeqAt.RcAt.bool_none _,SeqAt.RcNeAt.bool_none _⟩
   |bl b=>cases l;exact⟨SeqAt.EqAt.bool_bool _ _,SeqAt.RcAt.bool_bool _ _,SeqAt.RcNeAt.bool_bool _ _⟩
   |int b=>obtain⟨t,rfl⟩:=l;exact⟨SeqAt.EqAt.bool_int _ _ _,SeqAt.RcAt.bool_int _ _ _,SeqAt.RcNeAt.bool_int _ _ _⟩
   |str b=>obtain⟨t,rfl⟩:=l;exact⟨SeqAt.EqAt.bool_str _ _ _,SeqAt.RcAt.bool_str _ _ _,SeqAt.RcNeAt.bool_str _ _ _⟩
  |int a =>
   obtain⟨t0,rfl⟩:=w;cases m with
   |ty b=>simp[v9]at o2
   |tup q r=>cases l;obtain⟨its,g,p,_⟩:=tupAt q r;exact⟨SeqAt.EqAt.int_tuple _ _ p c,SeqAt.RcAt.int_tuple _ _ p c,SeqAt.RcNeAt.int_tuple _ _ p c⟩
   |ref e=>cases l;obtain⟨o,z,vs,its,r,g,p,_⟩:=lstAt e o2;exact⟨SeqAt.EqAt.int_list _ _ p c,SeqAt.RcAt.int_list _ _ p c,SeqAt.RcNeAt.int_list _ _ p c⟩
   |non=>cases l;exact⟨SeqAt.EqAt.int_none _ _,SeqAt.RcAt.int_none _ _,SeqAt.RcNeAt.int_none _ _⟩
   |bl b=>cases l;exact⟨SeqAt.EqAt.int_bool _ _ _,SeqAt.RcAt.int_bool _ _ _,SeqAt.RcNeAt.int_bool _ _ _⟩
   |int b=>obtain⟨t,rfl⟩:=l;exact⟨QV _ _ _ _,SeqAt.RcAt.int_int _ _ _ _,SeqAt.RcNeAt.int_int _ _ _ _⟩
   |str b=>obtain⟨t,rfl⟩:=l;exact⟨Qc _ _ _ _,SeqAt.RcAt.int_str _ _ _ _,SeqAt.RcNeAt.int_str _ _ _ _⟩
  |str a =>
   obtain⟨t0,rfl⟩:=w;cases m with
   |ty b=>simp[v9]at o2
   |tup q r=>cases l;obtain⟨its,g,p,_⟩:=tupAt q r;exact⟨SeqAt.EqAt.str_tuple _ _ p c,SeqAt.RcAt.str_tuple _ _ p c,SeqAt.RcNeAt.str_tuple _ _ p c⟩
   |ref e=>cases l;obtain⟨o,z,vs,its,r,g,p,_⟩:=lstAt e o2;exact⟨SeqAt.EqAt.str_list _ _ p c,SeqAt.RcAt.str_list _ _ p c,SeqAt.RcNeAt.str_list _ _ p c⟩
   |non=>cases l;exact⟨SeqAt.EqAt.str_none _ _,SeqAt.RcAt.str_none _ _,SeqAt.RcNeAt.str_none _ _⟩
   |bl b=>cases l;exact⟨SeqAt.EqAt.str_bool _ _ _,SeqAt.RcAt.str_bool _ _ _,SeqAt.RcNeAt.str_bool _ _ _⟩
   |int b=>obtain⟨t,rfl⟩:=l;exact⟨Qb _ _ _ _,SeqAt.RcAt.str_int _ _ _ _,SeqAt.RcNeAt.str_int _ _ _ _⟩
   |str b=>obtain⟨t,rfl⟩:=l;exact⟨QU _ _ _ _,SeqAt.RcAt.str_str _ _ _ _,SeqAt.RcNeAt.str_str _ _ _ _⟩
  |@tup a vs ds q r =>
   cases w;obtain⟨its,g,p,Q⟩:=tupAt q r;cases m with
   |ty b=>simp[v9]at o2
   |non=>cases l;exact⟨SeqAt.EqAt.tuple_none p c,SeqAt.RcAt.tuple_none p c,SeqAt.RcNeAt.tuple_none p c⟩
   |bl b=>cases l;exact⟨SeqAt.EqAt.tuple_bool _ p c,SeqAt.RcAt.tuple_bool _ p c,SeqAt.RcNeAt.tuple_bool _ p c⟩
   |int b=>obtain⟨t,rfl⟩:=l;exact⟨SeqAt.EqAt.tuple_int _ _ p c,SeqAt.RcAt.tuple_int _ _ p c,SeqAt.RcNeAt.tuple_int _ _ p c⟩
   |str b=>obtain⟨t,rfl⟩:=l;exact⟨SeqAt.EqAt.tuple_str _ _ p c,SeqAt.RcAt.tuple_str _ _ p c,SeqAt.RcNeAt.tuple_str _ _ p c⟩
   |ref e=>cases l;obtain⟨o,z,al,U,r',O,F,_⟩:=lstAt e o2;exact⟨SeqAt.EqAt.tuple_list p F c,SeqAt.RcAt.tuple_list p F c,SeqAt.RcNeAt.tuple_list p F c⟩
   |@tup b Y es L r' =>
    cases l;obtain⟨d,O,F,C⟩:=tupAt L r';have E:ds.all (v9 M n)=a9:=by simpa [v9]using o1
    have G:es.all (v9 M n)=a9:=by simpa [v9]using o2
    have aj:((D0<|min its.toArray.size d.toArray.size).all (λj=>u6 M n (ds.getD j .non)<|es.getD j .non)&&its.toArray.size==d.toArray.size)=D5 (u6 M n) ds es:=by rw[A5,A5];by_cases J:ds.length=es.length;rw[<-Q,<-C,<-J,Nat.min_self,W ds es J];simp;rw[Bg J,<-Q,<-C];simp[J]
    have h1:=SeqAt.RcAt.tuples p F c<|f r g r' O E G;have h2:=SeqAt.RcNeAt.tuples p F c<|f r g r' O E G;rw[aj]at h1 h2;exact N (.tup q r) (.tup L r') rfl h1 h2
  |@ref i a e =>
   cases w;obtain⟨o,z,vs,its,r,g,p,Q⟩:=lstAt e o1;cases m with
   |ty b=>simp[v9]at o2
   |non=>cases l;exact⟨SeqAt.EqAt.list_none p c,SeqAt.RcAt.list_none p c,SeqAt.RcNeAt.list_none p c⟩
   |bl b=>cases l;exact⟨SeqAt.EqAt.list_bool _ p c,SeqAt.RcAt.list_bool _ p c,SeqAt.RcNeAt.list_bool _ p c⟩
   |int b=>obtain⟨t,rfl⟩:=l;exact⟨SeqAt.EqAt.list_int _ _ p c,SeqAt.RcAt.list_int _ _ p c,SeqAt.RcNeAt.list_int _ _ p c⟩
   |str b=>obtain⟨t,rfl⟩:=l;exact⟨SeqAt.EqAt.list_str _ _ p c,SeqAt.RcAt.list_str _ _ p c,SeqAt.RcNeAt.list_str _ _ p c⟩
   |tup L r'=>cases l;obtain⟨U,O,F,_⟩:=tupAt L r';exact⟨SeqAt.EqAt.list_tuple p F c,SeqAt.RcAt.list_tuple p F c,SeqAt.RcNeAt.list_tuple p F c⟩
   |@ref j b e' =>
    cases l;obtain⟨P,T,Y,d,r',O,F,C⟩:=lstAt e' o2;have E:o.items.all (v9 M n)=a9:=(eJ z o1).2;have G:P.items.all (v9 M n)=a9:=(eJ T o2).2;have Z:u6 M (n+1) (.ref i) (.ref j)=D5 (u6 M n) o.items P.items:=by simp only[u6,z,T]
    by_cases J:o.items.length=P.items.length;have B:its.toArray.size=d.toArray.size:=by rw[A5,A5,<-Q,<-C,J]
    have h1:=SeqAt.RcAt.lists p F B c<|f r g r' O E G;have h2:=SeqAt.RcNeAt.lists p F B c<|f r g r' O E G;rw[A5,<-Q,W _ _ J]at h1 h2;exact N (.ref e) (.ref e') Z h1 h2;have B:(its.toArray.size != d.toArray.size)=a9:=by rw[A5,A5,<-Q,<-C];simpa using J
    have h1:=SeqAt.RcAt.lists_lengths p F B c;have h2:=SeqAt.RcNeAt.lists_lengths p F B c;exact N (.ref e) (.ref e') (Z.trans<|Bg J) h1 h2
noncomputable def u9:Nat:=30
def B7:G8:=λx y M Q=>(v9 M u9 x=a9/\v9 M u9 y=a9)/\Q (.bl<|u6 M u9 x y) M
def Qr:G8:=λx y M Q=>(v9 M u9 x=a9/\v9 M u9 y=a9)/\Q (.bl<|!u6 M u9 x y) M
noncomputable def Nt(M:u8)(x:D)(ys:List D):Bool:=ys.any λy=>u6 M u9 y x
def Jj(g:Bool):G8:=λx y M Q=>match y with
 |.tup ys=>(v9 M u9 x=a9/\ys.all (v9 M u9)=a9)/\Q (.bl<|Nt M x ys != g) M
 |.ref n=>∃ys,am M n ys/\(v9 M u9 x=a9/\ys.all (v9 M u9)=a9)/\Q (.bl<|Nt M x ys != g) M
 |.str z=>match x with
  |.str p=>Q (.bl<|(!(Q3 z p 0 z.length 1).isEmpty) != g) M
  |_=>False
 |_=>False
abbrev OK:G8:=Jj b7
abbrev oW:G8:=Jj a9
end
theorem wb(i:Room k A):A.units+u9<j6:=by have:=i.un;unfold u9;lia
theorem od_eq{X:Cx}(i:Room k X.A):J0 X (j4 .Eq) B7:=by rintro p s σ H c d v u R I g b ⟨x,y,M,ρ,Q,m,r,a,⟨⟨o1,o2⟩,q⟩,k⟩;exact(kH I m u9 X.A x y c d v u (wb i) r g a b o1 o2).2.1 _ _ _ _<|gx I m k q
theorem od_ne{X:Cx}(i:Room k X.A):J0 X (j4 .NotEq) Qr:=by rintro p s σ H c d v u R I g b ⟨x,y,M,ρ,Q,m,r,a,⟨⟨o1,o2⟩,q⟩,k⟩;exact(kH I m u9 X.A x y c d v u (wb i) r g a b o1 o2).2.2 _ _ _ _<|gx I m k q
theorem tZ{pins:List (c9×d5)}{σ:St}{H:Hp}{s:f6}{ρ:List c9}{M:u8}(I:t9 X pins σ H s)(m:w4 X.K ρ M H):∀(n:Nat) (x y z:D) (v:V),u5 X.K ρ H x v->u5 X.K ρ H y v->v9 M n x=a9->v9 M n y=a9->u6 M n x z=u6 M n y z:=by
 have l:∀(n:Nat),(∀(x y z:D) (v:V),u5 X.K ρ H x v->u5 X.K ρ H y v->v9 M n x=a9->v9 M n y=a9->u6 M n x z=u6 M n y z) -> ∀(xs ys d:List D) (vs:List V),Reps X.K ρ H xs vs->Reps X.K ρ H ys vs->xs.all (v9 M n)=a9->ys.all (v9 M n)=a9->D5 (u6 M n) xs d=D5 (u6 M n) ys d:=by
  intro n u xs;induction xs with
  |nil=>intro ys d vs h1 h2 _ _;cases h1;cases h2;rfl
  |cons x xs hi =>
   intro ys d vs h1 h2 o1 o2;cases h1 with
   |cons J Q =>
    cases h2 with
    |cons O R =>
     cases d with
     |nil=>rfl
     |cons z d=>rw[Mq,E4]at o1 o2;rw[D5,D5,u _ _ z _ J O o1.1 o2.1,hi _ d _ Q R o1.2 o2.2]
 intro n;induction n with
 |zero=>intro x y z v h1 h2 o1 o2;cases h1<;>cases h2<;>first|rfl|(cases z<;>rfl)
 |succ n u =>
  intro x y z v h1 h2 o1 o2;cases h1 with
  |non=>cases h2;rfl
  |bl b=>cases h2;rfl
  |int b=>cases h2;rfl
  |str b=>cases h2;rfl
  |ty b=>cases h2;rfl
  |@tup a vs ds t r =>
   cases h2 with
   |tup h r' =>
    have e:=I.tuple_inj t h;subst e;cases z with
    |tup d=>exact l n u _ _ d _ r r' o1 o2
    |_=>rfl
   |@ref i _ e =>
    exfalso;obtain⟨its,_,⟨o,w,A,_⟩,_⟩:=I.tuple t;have hi:i<M.length:=by rw[<-m.len];exact(A6.mp e).1
    obtain⟨p,f,_,_,_,⟨o',E,g,N,_⟩⟩:=my I m e (x9 hi) (eJ (x9 hi) o2).1;rw[w]at g;cases g;rw[A]at N;injection N with f3;exact p7 f3<|by decide
  |@ref i a e =>
   have hi:i<M.length:=by rw[<-m.len];exact(A6.mp e).1
   have q:=x9 hi;obtain⟨vs,its,t,r,T,F⟩:=my I m e q (eJ q o1).1;cases h2 with
   |tup h r'=>exfalso;obtain⟨f,_,⟨o,w,A,_⟩,_⟩:=I.tuple h;obtain⟨o',E,g,N,_⟩:=F;rw[w]at g;cases g;rw[A]at N;injection N with f3;exact p7 f3<|by decide
   |@ref j _ B =>
    have L:j<M.length:=by rw[<-m.len];exact(A6.mp B).1
    have c:=x9 L;obtain⟨p,f,h,r',P,G⟩:=my I m B c (eJ c o2).1;have C:vs=p:=I.list_inj t h;subst C;cases z with
    |ref k =>
     simp only[u6,q,c];cases M[k]? with
     |none=>rfl
     |some S=>exact l n u _ _ _ _ r r' (eJ q o1).2 (eJ c o2).2
    |_=>rfl
theorem AR{k:Nat}(E:Room k X.A){pins:List (c9×d5)}{σ:St}{H:Hp}{s:f6}{ρ:List c9}{M:u8}(I:t9 X pins σ H s)(m:w4 X.K ρ M H){x:D}{l:V}{v:b8}(J:u5 X.K ρ H x l)(N:aL l v)(o1:v9 M u9 x=a9):∀{ys:List D}{ws:List V}{its:List b8},Reps X.K ρ H ys ws->aw ws its->ys.all (v9 M u9)=a9->∃e:b8->Bool,(∀u∈its,MG X.A.in1 s u v<|e u)/\its.any e=Nt M x ys:=by
 have w:X.A.in1.units+u9<j6:=by have:=E.un;show X.A.units+1+u9<j6;unfold u9;lia
 intro ys ws its i vs ok
 classical
 refine⟨λu=>if h:∃d a,u5 X.K ρ H d a/\aL a u/\v9 M u9 d=a9 then u6 M u9 h.choose x else b7,λu C=>?_,?_⟩;obtain⟨j,L,z⟩:=List.getElem_of_mem C;have y:j<ws.length:=by rw[vs.length];exact L
 obtain⟨d,n,f⟩:=i.getV<|x9 y;obtain⟨F,b,T⟩:=jb vs<|x9 y;have:F=u:=by rw[x9 L]at b;cases b;exact z
 subst this;have o:=E8.mp ok _<|E9 n;have h:∃d a,u5 X.K ρ H d a/\aL a F/\v9 M u9 d=a9:=⟨d,_,f,T,o⟩
 show MG X.A.in1 s F v (if h:_ then _ else _);rw[dif_pos h];obtain⟨a,g,p,c⟩:=h.choose_spec;have B:=aL.inj p T;subst B;rw[tZ I m u9 _ d x _ g f c o];exact(kH I m u9 X.A.in1 d x _ l _ v w f T J N (E8.mp ok _<|E9 n) o1).1;clear w o1;unfold Nt;induction ys generalizing ws its with
 |nil=>cases i;cases vs;rfl
 |cons d ds G =>
  cases i with
  |cons r t =>
  cases vs with
  |cons q t' =>
   rename_i a O u us;rw[Mq,E4]at ok;have h:∃d a,u5 X.K ρ H d a/\aL a u/\v9 M u9 d=a9:=⟨d,_,r,q,ok.1⟩
   rw[PJ,PJ,G t t' ok.2,dif_pos h];obtain⟨P,g,p,c⟩:=h.choose_spec;have B:=aL.inj p q;subst B;rw[tZ I m u9 _ d x _ g r c ok.1]
theorem Fo{X:Cx}(g:Bool)(D:Room k X.A):J0 X (j4<|if g then .NotIn else .In) (Jj g):=by
 rintro E s σ H K N v u R I B C ⟨x,y,M,ρ,Q,m,n,G,q,k⟩;cases G with
 |non=>exact q.elim
 |bl b=>exact q.elim
 |int b=>exact q.elim
 |ty b=>exact q.elim
 |str z =>
  cases n with
  |str p =>
   obtain⟨t,rfl⟩:=B;obtain⟨t',rfl⟩:=C;cases g with
   |false=>exact in_str<|gx I m k<|by simpa [Jj]using q
   |true=>exact notIn_str<|gx I m k<|by simpa [Jj]using q
  |_=>exact q.elim
 |@tup a J ys j r =>
  cases C;obtain⟨⟨o1,o2⟩,q⟩:=(show (v9 M u9 x=a9/\_)/\_ from q)
  obtain⟨its,o,l,F⟩:=I.tuple j;obtain⟨e,i,f⟩:=AR D I m n B o1 r o o2;have d:its.toArray.any e=Nt M x ys:=by rw[<-f];simp
  cases g with
  |false=>exact SeqAt.in_tupleAt e l (λw c=>i w<|by simpa using c)<|by rw[d];exact gx I m k<|by simpa using q
  |true=>exact SeqAt.notIn_tupleAt e l (λw c=>i w<|by simpa using c)<|by rw[d];exact gx I m k<|by simpa using q
 |ref h =>
  cases C;obtain⟨ys,L,⟨o1,o2⟩,q⟩:=(show ∃ys,am M _ ys/\(v9 M u9 x=a9/\_)/\_ from q)
  obtain⟨J,j,r⟩:=am.seq m L h;obtain⟨its,o,l,F⟩:=I.list j;obtain⟨e,i,f⟩:=AR D I m n B o1 r o o2;have d:its.toArray.any e=Nt M x ys:=by rw[<-f];simp
  cases g with
  |false=>exact SeqAt.in_listAt e l.isList (λw c=>i w<|by simpa using c)<|by rw[d];exact gx I m k<|by simpa using q
  |true=>exact SeqAt.notIn_listAt e l.isList (λw c=>i w<|by simpa using c)<|by rw[d];exact gx I m k<|by simpa using q
theorem od_in(i:Room k X.A):J0 X (j4 .In) OK:=Fo b7 i
theorem Dj(i:Room k X.A):J0 X (j4 .NotIn) oW:=Fo a9 i
theorem LZ:e7 "len" = a7 (.builtin "len"):=by decide +kernel
theorem Mc:e7 "all" = a7 (.builtin "all"):=by decide +kernel
theorem Mb:e7 "any" = a7 (.builtin "any"):=by decide +kernel
theorem qX:e7 "isinstance" = a7 (.builtin "isinstance"):=by decide +kernel
theorem BT:e7 "sorted" = a7 (.builtin "sorted"):=by decide +kernel
theorem Ma:e7 "int" = a7 (.type "int"):=by decide +kernel
theorem LX:e7 "str" = a7 (.type "str"):=by decide +kernel
theorem IA:e7 "bool" = a7 (.type "bool"):=by decide +kernel
theorem Iy:e7 "list" = a7 (.type "list"):=by decide +kernel
theorem EX:e7 "tuple" = a7 (.type "tuple"):=by decide +kernel
theorem Iz:e7 "dict" = a7 (.type "dict"):=by decide +kernel
noncomputable def visB(c:f7)(x:b9):Bool:=match c.names.lookup x with
 |some .local=>a9
 |some .cell=>a9
 |some .free=>a9
 |_=>b7
theorem IM(h:visB sc x=a9):Om sc x:=by unfold visB at h;unfold Om;split at h;rename_i e;exact .inl e;rename_i e;exact .inr<|.inl e;rename_i e;exact .inr<|.inr e;cases h
noncomputable def IG(c:f7)(x:b9):Bool:=match c.names.lookup x with
 |some .local=>a9
 |some .cell=>a9
 |_=>b7
theorem Ar(h:IG sc x=a9):N1 sc x:=by unfold IG at h;unfold N1;split at h;rename_i e;exact .inl e;rename_i e;exact .inr e;cases h
structure HE(X:Cx)(e:ge)(t:x6):Prop where
 ok:DE X e t
structure HT(X:Cx)(e:ge)(t:F8):Prop where
 ok:DT X e t
structure HW(X:Cx)(e:ge)(t:F8):Prop where
 ok:DW X e t
structure HA(X:Cx)(es:List ge)(t:Fn):Prop where
 ok:DA X es t
structure HS(X:Cx)(e:i3)(t:u3):Prop where
 ok:DS X e t
structure HB(X:Cx)(e:List i3)(t:u3):Prop where
 ok:Nm X e t
structure HG(X:Cx)(e:ge)(t:Mh):Prop where
 ok:DG X e t
structure HI(X:Cx)(tg e:ge)(t:Mw):Prop where
 ok:DI X tg e t
structure OM(X:Cx)(e:List ge)(t:F8):Prop where
 ok:Nu X e (lowT X.K t)
structure HO'(X:Cx)(e:Option ge)(t:Oo):Prop where
 ok:PO X e (Kd X.K t)
structure J5(X:Cx)(f:b8->b8->Sem b8)(r:G8):Prop where
 ok:J0 X f r
structure HUn(X:Cx)(f:b8->Sem b8)(r:Ry):Prop where
 ok:UnD X f r
structure HC(X:Cx)(f:b8)(r:C6):Prop where
 ok:iW X f r
structure R8(X:Cx)(name:b9)(r:b9->C6):Prop where
 ok:∃id,Slot "str" name id/\l8 (.builtin id)=pure (.type "method_descriptor")/\J1 X id (GM X.K r)
structure ON(X:Cx)(name:b9)(r:Nat->C6):Prop where
 ok:∃id,Slot "list" name id/\l8 (.builtin id)=pure (.type "method_descriptor")/\J1 X id (ig X.K r)
theorem k_var(h:X.N[i]?=a7 x:=by kernel_rfl)(c:visB X.env.scope x=a9:=by kernel_rfl)(a:(x==("__debug__":b9))=b7:=by kernel_rfl)(d:(x==("__classdict__":b9))=b7:=by kernel_rfl):HE X (.Name x pos) (ab i):=⟨d_var h (IM c) a d⟩
theorem k_int:HE X (.Constant (.int i) j pos) (dC<|.int i):=⟨d_int⟩
theorem k_bl:HE X (.Constant (.bool i) j pos) (dC<|.bl i):=⟨d_bl⟩
theorem k_non:HE X (.Constant .none j pos) (dC .non):=⟨d_non⟩
theorem k_str:HE X (.Constant (.str i) j pos) (dC<|.str i):=⟨d_str⟩
theorem Kw(m:X.mg x=a8)(c:e7 x=a7 (.type T))(R:X.env.kindOf x=a7 .globalImplicit:=by kernel_rfl)(f:(x==("__name__":b9))=b7:=by kernel_rfl)(d:(x==("__debug__":b9))=b7:=by kernel_rfl):HE X (.Name x pos) (dC<|.ty T):=⟨LG m c R (by simpa using f) d⟩
theorem k_op(B:J5 X (j3 op) r)(f:HE X a ta)(d:HE X b tb):HE X (.BinOp a op b pos) (t7 r ta tb):=⟨d_op B.ok f.ok d.ok⟩
theorem k_cmp(B:J5 X (j4 op) r)(f:HE X a ta)(d:HE X b tb)(m:j5 op b=b7:=by kernel_rfl):HE X (.Compare a [op] [b] pos) (t7 r ta tb):=⟨d_cmp B.ok f.ok d.ok m⟩
theorem Ki(B:J5 X (j4 op) r)(f:HE X a ta)(d:HE X b tb)(m:j5 op b=b7:=by kernel_rfl):HT X (.Compare a [op] [b] pos) (au<|t7 r ta tb):=⟨Lp B.ok f.ok d.ok m⟩
theorem Kg(h:HE X e te)(i:∀whole,isTrue e X.env whole=(do let v <-whole;standAt e.pos;i4 [v] (truthy v)):=by intro _;kernel_rfl):HT X e (au te):=⟨Lm h.ok i⟩
theorem GU(f:HT X a tA):HW X (.BoolOp .And [a] pos) tA:=⟨HP f.ok⟩
theorem Ke(f:HT X a tA):HW X (.BoolOp .Or [a] pos) tA:=⟨Lk f.ok⟩
theorem Fq{X:Cx}{a b:ge}{aM:List ge}{s:Pos}{A tB:F8}(f:HT X a A)(d:HW X (.BoolOp .And (b::aM) s) tB):HW X (.BoolOp .And (a::b::aM) s) (qS A tB):=⟨Ll f.ok d.ok⟩
theorem Kf{X:Cx}{a b:ge}{aM:List ge}{s:Pos}{A tB:F8}(f:HT X a A)(d:HW X (.BoolOp .Or (b::aM) s) tB):HW X (.BoolOp .Or (a::b::aM) s) (NI A tB):=⟨dw_or f.ok d.ok⟩
theorem kw_t(h:HW X e tA):HT X e tA:=⟨dw_t h.ok⟩
theorem Kh(f:HT X a tA):HT X (.UnaryOp .Not a pos) (BC tA):=⟨Lo f.ok⟩
theorem k_one{op}(h:HE X a ta):HE X (.BoolOp op [a] pos) ta:=⟨d_one h.ok⟩
theorem k_and{X:Cx}{a b:ge}{aM:List ge}{t c:x6}{s:Pos}(f:HE X a t)(d:HE X (.BoolOp .And (b::aM) s) c):HE X (.BoolOp .And (a::b::aM) s) (qR t c):=⟨d_and f.ok d.ok⟩
theorem k_or{X:Cx}{a b:ge}{aM:List ge}{t c:x6}{s:Pos}(f:HE X a t)(d:HE X (.BoolOp .Or (b::aM) s) c):HE X (.BoolOp .Or (a::b::aM) s) (dOrV t c):=⟨d_or f.ok d.ok⟩
theorem k_not(f:HE X a ta):HE X (.UnaryOp .Not a pos) (EI ta):=⟨d_not f.ok⟩
theorem Hk(h:HT X c tA)(f:HE X a ta)(d:HE X b tb):HE X (.IfExp c a b pos) (dIfE tA ta tb):=⟨Il h.ok f.ok d.ok⟩
theorem Kv:HA X [] ag:=⟨LF⟩
theorem Hh(f:HE X e te)(i:HA X es t)(hs:h7 (e::es) X.env=(b7,eval e X.env)::h7 es X.env:=by kernel_rfl):HA X (e::es) (aa te t):=⟨Ij f.ok i.ok hs⟩
theorem k_tup{x1}(h:HA X es t):HE X (.Tuple es x1 pos) (fS t):=⟨d_tup h.ok⟩
theorem k_lst(h:HA X es t):HE X (.List es pos) (iA t):=⟨d_lst h.ok⟩
theorem Hn{id:String}{r:C6}(c:HC X (.builtin id) r)(d:X.mg x=a8)(v:e7 x=a7 (.builtin id))(f:HA X (e::es) t)(R:X.env.kindOf x=a7 .globalImplicit:=by kernel_rfl)(n:(x==("__name__":b9))=b7:=by kernel_rfl)(b:(x==("__debug__":b9))=b7:=by kernel_rfl)(i:h7 (e::es) X.env=(b7,eval e X.env)::h7 es X.env:=by kernel_rfl) (l:(g9 pos<|h7 es X.env).any (·.1)=b7:=by kernel_rfl):HE X (.Call (.Name x p) (e::es) [] pos) (u7 r t):=⟨Im c.ok d v f.ok R (by simpa using n) b i l⟩
theorem DV(c:HC X (.type T) r)(d:X.mg x=a8)(v:e7 x=a7 (.type T))(f:HA X (e::es) t)(R:X.env.kindOf x=a7 .globalImplicit:=by kernel_rfl)(n:(x==("__name__":b9))=b7:=by kernel_rfl)(b:(x==("__debug__":b9))=b7:=by kernel_rfl)(i:h7 (e::es) X.env=(b7,eval e X.env)::h7 es X.env:=by kernel_rfl) (l:(g9 pos<|h7 es X.env).any (·.1)=b7:=by kernel_rfl):HE X (.Call (.Name x p) (e::es) [] pos) (u7 r t):=⟨EF c.ok d v f.ok R (by simpa using n) b i l⟩
theorem k_cal(C:w6 X.prog X.w X.K X.mg X.base j x ps P)(r:Room k X.A)(f:HA X (e::es) t)(hj:Nat.ble j k=a9:=by kernel_rfl)(R:X.env.kindOf x=a7 .globalImplicit:=by kernel_rfl) (b:(x==("__debug__":b9))=b7:=by kernel_rfl) (i:h7 (e::es) X.env=(b7,eval e X.env)::h7 es X.env:=by kernel_rfl) (l:(g9 pos<|h7 es X.env).any (·.1)=b7:=by kernel_rfl):HE X (.Call (.Name x p) (e::es) [] pos) (u7 P t):=⟨d_cal C r f.ok (Nat.le_of_ble_eq_true hj) R b i l⟩
theorem k_ix(f:HE X a ta)(d:HE X b tb)(hs:vU b:=by intro _ _;kernel_rfl):HE X (.Subscript a b pos) (t7 v5 ta tb):=⟨d_ix f.ok d.ok hs⟩
theorem Hc:HO' X a8 jZ:=⟨Ib⟩
theorem Hb(h:HE X e te):HO' X (a7 e) (uh te):=⟨Ia h.ok⟩
theorem Hj{lo hi:Option ge}{t h:Oo}{j:Pos}(i:HE X e te)(g:HO' X lo t)(u:HO' X hi h):HE X (.Subscript e (.Slice lo hi a8 j) pos) (Oj te t h):=⟨Ik i.ok g.ok u.ok⟩
theorem k_ms(d:R8 X name r)(B:HE X o to)(f:HA X (e::es) t)(h:m3 o name X.env (eval o X.env)=eval o X.env:=by kernel_rfl)(w:((g9 cpos<|h7 (e::es) X.env).all (λx=>!x.1)&&(m5 cpos<|m6 [] X.env).all (λx=>x.1.isSome) && decide ((e::es).length+([]:List m7).length+(if ([]:List m7).isEmpty then 0 else 1)<30))=a9:=by kernel_rfl)(a:(apos.endLine==cpos.line)=a9:=by kernel_rfl) (hs:h7 (e::es) X.env=(b7,eval e X.env)::h7 es X.env:=by kernel_rfl) (n:(g9 cpos<|h7 es X.env).any (·.1)=b7:=by kernel_rfl):HE X (.Call (.Attribute o name apos) (e::es) [] cpos) (Qs r to t):=let ⟨_,h1,h2,h3⟩:=d.ok;⟨d_ms h1 h2 h3 B.ok f.ok h w a hs n⟩
theorem k_ml(d:ON X name r)(B:HE X o to)(f:HA X (e::es) t)(h:m3 o name X.env (eval o X.env)=eval o X.env:=by kernel_rfl)(w:((g9 cpos<|h7 (e::es) X.env).all (λx=>!x.1)&&(m5 cpos<|m6 [] X.env).all (λx=>x.1.isSome) && decide ((e::es).length+([]:List m7).length+(if ([]:List m7).isEmpty then 0 else 1)<30))=a9:=by kernel_rfl)(a:(apos.endLine==cpos.line)=a9:=by kernel_rfl) (hs:h7 (e::es) X.env=(b7,eval e X.env)::h7 es X.env:=by kernel_rfl) (n:(g9 cpos<|h7 es X.env).any (·.1)=b7:=by kernel_rfl):HE X (.Call (.Attribute o name apos) (e::es) [] cpos) (MR r to t):=let ⟨_,h1,h2,h3⟩:=d.ok;⟨d_ml h1 h2 h3 B.ok f.ok h w a hs n⟩
theorem Kk:HB X [] aT:=⟨Lu⟩
theorem Kj{X:Cx}{st:i3}{b:u3}(h:HS X st b):HB X [st] b:=⟨Ls h.ok⟩
theorem Ha{X:Cx}{st:i3}{s:List i3}{b us:u3}(h1:HS X st b)(h2:HB X s us):HB X (st::s) (ay b us):=⟨HZ h1.ok h2.ok⟩
theorem AE(i:HE X e te)(hs:i5 e a8 pos.line X.env=pure b7:=by kernel_rfl):HS X (.Expr e pos) (iU te):=⟨HY i.ok hs⟩
theorem Fv(i:HE X e te):HS X (.Return (a7 e) pos) (bp te):=⟨Lr i.ok⟩
theorem Kl(h:HT X c tA)(f:HB X aS ts)(d:HB X bS us):HS X (.If c aS bS pos) (B9 tA ts us):=⟨ds_if h.ok f.ok d.ok⟩
theorem Fu(h:X.N.Nodup)(a:HE X e te)(hi:X.N[i]?=a7 x:=by kernel_rfl)(b:IG X.env.scope x=a9:=by kernel_rfl)(hs:i5 e (a7<|.Name x pos') pos.line X.env=pure b7:=by kernel_rfl)(f:X.fn x=a9:=by kernel_rfl):HS X (.Assign [.Name x pos'] e pos) (bc te i):=⟨Lq h a.ok hi (Ar b) hs<|.inl f⟩
theorem Hg(h:X.N.Nodup)(hi:X.N[i]?=a7 x:=by kernel_rfl)(a:IG X.env.scope x=a9:=by kernel_rfl)(f:X.fn x=a9:=by kernel_rfl):HG X (.Name x pos) (af i):=⟨vO h hi (Ar a)<|.inl f⟩
theorem Kr(h:X.N.Nodup)(hi:X.N[i]?=a7 x:=by kernel_rfl)(f:X.env.scope.names.lookup x=a7 .local:=by kernel_rfl):HG X (.Name x pos) (af i):=⟨vO h hi (.inl f)<|.inr f⟩
theorem Kn(h:HE X e te):HI X tg e (bB te):=⟨Lz h.ok⟩
theorem Fw{a:List i3}{b:u3}(hi:HI X tg iter di)(R:HG X tg g)(d:HB X a b)(hp:PassesOwn (g7 X.prog X.w) X.A X.env X.xe:=by exact PassesOwn.never)(f:X.calm=a9:=by kernel_rfl)(hs:∀x,j2 iter X.env x=pure x:=by intro _;kernel_rfl):HS X (.For tg iter a [] pos) (kJ di g b):=⟨Lv hi.ok R.ok d.ok hp f hs⟩
theorem GY:OM X [] oh:=⟨HR⟩
theorem GX(h:HT X c tA):OM X [c] tA:=⟨HQ h.ok⟩
theorem k_lc(hi:HI X tg iter di)(R:∀cl s0 H0 ex,HG (C5 X N' scope cl s0 H0 ex) tg g) (D:∀cl s0 H0 ex,OM (C5 X N' scope cl s0 H0 ex) ifs tt) (i:∀cl s0 H0 ex,HE (C5 X N' scope cl s0 H0 ex) elt te) (B:pE X.env.scope.names X.N N' nt js scope=a9:=by kernel_rfl) (f:X.calm=a9:=by kernel_rfl)(hs:∀x,j2 iter X.env x=pure x:=by intro _;kernel_rfl):HE X (.ListComp elt [⟨tg,iter,ifs,0⟩] scope pos) (F6 nt js di g tt te):=⟨d_lc (BlkSc.chk B) hi.ok (λcl s0 H0 ex=>(R cl s0 H0 ex).ok) (λcl s0 H0 ex=>(D cl s0 H0 ex).ok) (λcl s0 H0 ex=>(i cl s0 H0 ex).ok) f hs⟩
theorem AG(d:X.mg "range" = a8)(f:HA X [a] t)(R:X.env.kindOf "range" = a7 .globalImplicit:=by kernel_rfl)(hs:h7 [a] X.env=[(b7,eval a X.env)]:=by kernel_rfl):HI X tg (.Call (.Name "range" p) [a] [] pos) (bZ t):=⟨Bu d f.ok R hs⟩
theorem KL:J5 X (j3 .Sub) ID:=⟨JS⟩
theorem KO:J5 X (j3 .Mult) kN:=⟨GG⟩
theorem Hv:J5 X (j3 .FloorDiv) aR:=⟨GH⟩
theorem KP:J5 X (j3 .Mod) cq:=⟨JV⟩
theorem ho_lt:J5 X (j4 .Lt) Nr:=⟨od_lt⟩
theorem ho_gt:J5 X (j4 .Gt) Nj:=⟨od_gt⟩
theorem ho_is:J5 X (j4 .Is) NH:=⟨od_is⟩
theorem ho_eq(i:Room k X.A):J5 X (j4 .Eq) B7:=⟨od_eq i⟩
theorem ho_ne(i:Room k X.A):J5 X (j4 .NotEq) Qr:=⟨od_ne i⟩
theorem ho_in(i:Room k X.A):J5 X (j4 .In) OK:=⟨od_in i⟩
theorem Ed(i:Room k X.A):J5 X (j4 .NotIn) oW:=⟨Dj i⟩
theorem KZ:HC X (.builtin "len") kD:=⟨LR⟩
theorem Lc(f:X.calm=a9:=by kernel_rfl):HC X (.builtin "all") IF:=⟨LV f⟩
theorem Lb(f:X.calm=a9:=by kernel_rfl):HC X (.builtin "any") Jk:=⟨LU f⟩
theorem La:HC X (.builtin "isinstance") xU:=⟨LS⟩
theorem AV:ON X "append" cx:=⟨_,PySem.F.slot_list_append,PySem.F.type_list_append,yf⟩
theorem w6.byH{P:c8}{w:c7}{K:v4}{mg:b9->Option b8}{base:d6}{x:b9}{st:i3}{N ps:List b9}{k:Nat}{c:A2}(F:cI K mg x st ps)(e:FnScope N ps (az st))(B:∀ds M R,c ds M R->ds.length=ps.length) {t:u3}(r:∀(f:c9) (cdv:b8) (A:e8) (outer:List Env) (s:f6) (H:Hp) (E:XK),Room k (A.deeper<|k5 x (az st) s.heap.objs.size f cdv)->HB (yJ K9 P w K mg base N x (az st) f cdv A outer s H E).nox (bY st) t)(p:∀ds M R,c ds M R->t ⟨λ_ M'=>aY M R .non M',aY M R,λ_ _=>False,λ_ _=>False⟩ (eO N ds) M):w6 P w K mg base (k+1) x ps c:=w6.of F e B (λf cdv A outer s H E i=>(r f cdv A outer s H E i).ok) p
theorem Em{P:c8}{w:c7}{K:v4}{mg:b9->Option b8}{base:d6}{x:b9}{st:i3}{N ps:List b9}{k:Nat}{c:A2}{f:c9}{d:j7}(F:M9 K x x st f d)(e:FnScope N ps (az st))(B:∀ds M R,c ds M R->ds.length=ps.length) {t:u3}(r:∀(f:c9) (cdv:b8) (A:e8) (outer:List Env) (s:f6) (H:Hp) (E:XK),Room k (A.deeper<|k5 x (az st) s.heap.objs.size f cdv)->HB (yJ K9 P w K mg base N x (az st) f cdv A outer s H E).nox (bY st) t)(p:∀ds M R,c ds M R->t ⟨λ_ M'=>aY M R .non M',aY M R,λ_ _=>False,λ_ _=>False⟩ (eO N ds) M):FnOk P w K mg base K9 (k+1) f d ps (MY K c):=HK F e B (λf cdv A outer s H E i=>(r f cdv A outer s H E i).ok) p
theorem gX(I:List D->SD->u8->Prop)(h0:∀S M,I [] S M->ok M/\E.nx S M)(h1:∀x xs S M,I (x::xs) S M->∀L:SD->u8->Prop,(∀S' M',I xs S' M'->L S' M')->ok M/\g x S M λS2 M2=>tb ⟨B6 k0 L,E.rt,E.nx,B6 k0 L⟩ S2 M2):∀xs S M,I xs S M->uj ok g tb E k0 xs S M
 | [],S,M,h=>h0 S M h
 |x::xs,S,M,h=>h1 x xs S M h _<|gX I h0 h1 xs
theorem aV(I:Nat->SD->u8->Prop)(a:∀S M,I xs.length S M->ok M/\E.nx S M)(h1:∀i x S M,xs[i]?=a7 x->I i S M->∀L:SD->u8->Prop,(∀S' M',I (i+1) S' M'->L S' M')->ok M/\g x S M λS2 M2=>tb ⟨B6 k0 L,E.rt,E.nx,B6 k0 L⟩ S2 M2)(h:I 0 S M):uj ok g tb E k0 xs S M:=by
 refine gX (λys S M=>∃i,xs.drop i=ys/\i+ys.length=xs.length/\I i S M) ?_ ?_ xs S M ⟨0,rfl,by simp,h⟩;rintro S M ⟨i,_,e,q⟩;have:i=xs.length:=by simpa using e
 subst this;exact a S M q;rintro x ys S M ⟨i,e,l,q⟩ L b;have c:xs[i]?=a7 x:=by
  have:(xs.drop i)[0]?=a7 x:=by rw[e];rfl
  simpa using this
 refine h1 i x S M c q L λS' M' j=>b S' M' ⟨i+1,?_,by simp at l;lia,j⟩;rw[<-List.drop_drop,e];rfl
theorem B6.now(h:P S M):B6 k0 P S M:=.inl h
theorem cG{lo:Int}{n i:Nat}{x:D}:(ie lo n)[i]?=a7 x↔i<n/\x=.int (lo+(i:Int)):=by unfold ie;rw[C7];by_cases h:i<n;simp[h,eq_comm];simp[h]
theorem bh{lo:Int}{n:Nat}:(ie lo n).length=n:=by simp[ie]
theorem ba(p:D->Bool)(f:D->D)(I:SD->Prop)(hok:ok M):∀(xs acc:List D) (S:SD),(∀x∈xs,∀S,I S->∃S',I S'/\∀(Y:D->SD->u8->Prop) (Z:SD->u8->Prop),(if p x=a9 then Y (f x) S' M else Z S' M) -> g x S M λS2 M2=>tt S2 M2 λb M3=>if b=a9 then te S2 M3 λy M4=>Y y S2 M4 else Z S2 M3) ->I S->acc.length+xs.length<=sizeLine->Q (.ref M.length) (M++[.lst<|acc++(xs.filter p).map f])->nE ok g tt te Q xs acc S M
 | [],acc,S,_,_,_,q=>⟨hok,by simpa using q⟩
 |x::xs,acc,S,step,hS,hl,q=>by obtain⟨S',hS',k⟩:=step x D3 S hS;refine⟨hok,k (λy S2 M4=>acc.length<sizeLine/\nE ok g tt te Q xs (acc++[y]) S2 M4) (λS2 M3=>nE ok g tt te Q xs acc S2 M3) ?_⟩;have step':=λy hy=>step y<|C4 _ hy;rw[C0]at hl;by_cases hp:p x=a9;rw[o8 hp];refine⟨by lia,ba p f I hok xs _ S' step' hS' (by rw[A3,F3];lia) ?_⟩;rw[List.filter_cons_of_pos hp,C2]at q;rw[G3];exact q;rw[p4 hp];refine ba p f I hok xs acc S' step' hS' (by lia) ?_;rw[List.filter_cons_of_neg hp]at q;exact q
theorem bu(f:D->D)(I:SD->Prop)(c:ok M)(xs acc:List D) (S:SD) (K:∀x∈xs,∀S,I S->∃S',I S'/\∀(Y:D->SD->u8->Prop),Y (f x) S' M->g x S M λS2 M2=>te S2 M2 λy M4=>Y y S2 M4)(a:I S) (l:acc.length+xs.length<=sizeLine) (q:Q (.ref M.length) (M++[.lst<|acc++xs.map f])):nE ok g oh te Q xs acc S M:=by refine ba (λ_=>a9) f I c xs acc S (λx d S a=>?_) a l (by rw[QW.mpr λ_ _=>rfl];exact q);obtain⟨S',b,k⟩:=K x d S a;refine⟨S',b,λY Z h=>?_⟩;rw[o8 rfl]at h;have:=k Y h;simp only[oh,s9];exact this
theorem ad:(M++[mo])[M.length]?=a7 mo:=by simp
theorem ah:am (M++[.lst xs]) M.length xs:=.inl ad
theorem am.more(h:am M n xs)(L:u8):am (M++L) n xs:=by
 have l:∀{mo:MO},M[n]?=a7 mo->(M++L)[n]?=a7 mo:=λe=>by rw[L5 (A6.mp e).1];exact e
 rcases h with h|h|h;exact .inl<|l h;exact .inr<|.inl<|l h;exact .inr<|.inr<|l h
theorem am.ty(h:am M n xs):K7 M (.ref n) = "list":=by
 show (match M[n]? with|some mo=>if mo.isL=a9 then "list" else "?" |none=>"?") = "list"
 rcases h with h|h|h<;>(rw[h];rfl)
theorem aY.keep(h:R d M)(b:D4 M.length d)(p:M <+: M'):aY M R d M':=.inr<|.inl ⟨M,.refl,b,p,h⟩
theorem aY.now(h:R d M):aY M R d M:=.inl h
theorem aY.bl(h:R (.bl b) M)(p:M <+: M'):aY M R (.bl b) M':=.keep h (.bl b) p
theorem aY.str(h:R (.str b) M)(p:M <+: M'):aY M R (.str b) M':=.keep h (.str b) p
theorem aY.non(h:R .non M)(p:M <+: M'):aY M R .non M':=.keep h .non p
theorem bi:M <+: M++[mo]:=Mm _ _
theorem FT{a b:b9}(h:a.cps.toList=b.cps.toList):a=b:=by cases a;cases b;simp only[Array.toList_inj]at h;simpa using h
theorem fq{a:b9}:a.length=a.cps.toList.length:=by show a.cps.size=_;simp
theorem qY{a b:b9}:(a++b).cps.toList=a.cps.toList++b.cps.toList:=by show (a.cps++b.cps).toList=_;simp
theorem dD{a b:b9}:(a++b).length=a.length+b.length:=by rw[fq,fq,fq,qY,A3]
theorem iK:(⟨#[c]⟩:b9).length=1:=rfl
theorem aq(h:n<=1000):n<=sizeLine:=NN<|av h
theorem BU{α:Type}{xs:List α}{i:Int}(a:0<=i)(h1:i<xs.length):∃(j:Nat) (hj:j<xs.length),atI xs i=a7 xs[j]/\(j:Int)=i:=by
 have hj:i.toNat<xs.length:=by lia
 refine⟨i.toNat,hj,?_,by lia⟩;have e:i=((i.toNat:Nat):Int):=by lia
 have q:atI xs ((i.toNat:Nat):Int)=a7 xs[i.toNat]:=ar<|x9 hj;rw[<-e]at q;exact q
theorem am.get(h:am M n xs):∃mo,M[n]?=a7 mo/\mo.items=xs/\mo.isL=a9:=by rcases h with h|h|h<;>exact⟨_,h,rfl,rfl⟩
theorem xh(h1:am M i xs)(h2:am M j ys):u6 M (n+1) (.ref i) (.ref j)=D5 (u6 M n) xs ys:=by obtain⟨a,f,rfl,h⟩:=h1.get;obtain⟨b,d,rfl,c⟩:=h2.get;simp only[u6,f,d]
theorem qj(h1:am M i xs)(h:∀x∈xs,v9 M n x=a9):v9 M (n+1) (.ref i)=a9:=by obtain⟨a,f,rfl,b⟩:=h1.get;simp only[v9,f,b,OX];exact E8.mpr h
theorem GE(h:∀x∈xs,v9 M n x=a9):v9 M (n+1) (.tup xs)=a9:=by simp only[v9];exact E8.mpr h
theorem ak:v9 M n (.str x)=a9:=by cases n<;>rfl
theorem aI:v9 M n (.int x)=a9:=by cases n<;>rfl
theorem Fm:v9 M n (.bl x)=a9:=by cases n<;>rfl
theorem Ae:v9 M n .non=a9:=by cases n<;>rfl
theorem HM:D5 f xs []=xs.isEmpty:=by cases xs<;>rfl
theorem iR:u6 M n (.int a) (.int b)=(a==b):=by cases n<;>rfl
theorem aJ:u6 M n (.str a) (.str b)=(a==b):=by cases n<;>rfl
def gv:FJ:=λds S M Q=>match ds with
 | []=>Q S M
 |_=>False
def aG(t:Mh)(u:FJ):FJ:=λds S M Q=>match ds with
 |d::r=>t d S M λa M'=>u r a M' Q
 | []=>False
def gu(n:Nat)(t:FJ):Mh:=λd S M Q=>match d with
 |.tup ds=>ds.length=n/\t ds S M Q
 |_=>False
theorem Ig:Pw X [] gv:=by
 rintro p s σ H vs us R I r ⟨ds,S,M,ρ,Q,m,e,f,q,k⟩;cases f with
 |nil=>exact Gp p s σ H _ us R I r ⟨rfl,k σ H ⟨S,M,ρ,m,.refl,e,q⟩⟩
 |cons _ _=>exact q.elim
theorem EC(h1:DG X e t)(h2:Pw X es u)(hs:(i7 (e::es) X.env).map (·.2)=i6 e X.env::(i7 es X.env).map (·.2):=by rfl):Pw X (e::es) (aG t u):=by
 rintro p s σ H vs us R I r ⟨ds,S,M,ρ,Q,m,j,f,q,k⟩;cases f with
 |nil=>exact q.elim
 |cons h f=>refine CW h1 h2 hs p s σ H _ us R I r ⟨_,_,rfl,_,S,M,ρ,_,m,j,h,q,?_⟩;rintro l n ⟨S1,d,c,i,g1,a,g⟩;exact⟨_,S1,d,c,Q,i,a,f.grow g1,g,λb H' w=>k b H'<|SQ.trans g1 w⟩
theorem LB(h:Pw X es t)(a:X.calm=a9:=by rfl)(b:(i7 es X.env).length=n:=by rfl) (c:(i7 es X.env).findIdx? (·.1)=a8:=by rfl):DG X (.Tuple es j pos) (gu n t):=by
 rintro p s σ H v u R I r ⟨d,S,M,ρ,Q,m,i,g,q,k⟩;cases g with
 |tup e f=>exact Ju a h b c p s σ H _ u R I r ⟨_,_,rfl,e,by rw[<-f.length];exact q.1,_,S,M,ρ,Q,m,i,f,q.2,k⟩
 |_=>exact q.elim
def LO(te:x6)(g:Mh):u3:=λE S M=>te S M λd a=>g d S a E.nx
theorem Lw(i:DE X e te)(R:DG X tg g)(hs:swapsWithSole [tg] e pos.line X.env=pure b7:=by rfl)(h:swappedStores [tg] e X.env=pure a8:=by rfl)(h1:(i7 [tg] X.env).map (·.2)=[i6 tg X.env]:=by rfl):DS X (.Assign [tg] e pos) (LO te g):=by refine PS.imp (Jt i R hs h h1) ?_;rintro E σ H ⟨S,M,ρ,F,s,r,q,k⟩;refine⟨S,M,ρ,_,s,r,q,?_⟩;rintro v m ⟨d,b,c,l,g1,j,f⟩;exact⟨d,S,b,c,_,l,r.grow g1,j,f,λa H' w=>k.nx a H'<|SQ.trans g1 w⟩
def qSet:D->D->D->u8->(u8->Prop)->Prop:=λo i v M Q=>match o,i with
 |.ref n,.int k=>∃xs j,M[n]?=a7 (.lst xs)/\Nk xs.length k=a7 j/\Q (M.set n<|.lst<|xs.set j v)
 |_,_=>False
theorem Reps.set{K:v4}{ρ:List c9}{H:Hp}{d:D}{v:V}(r:u5 K ρ H d v):∀{ds:List D}{vs:List V} (i:Nat),Reps K ρ H ds vs->Reps K ρ H (ds.set i d) (vs.set i v)
 |_,_,_,.nil=>.nil
 |_,_,0,.cons _ t=>.cons r t
 |_,_,i+1,.cons q t=>.cons q<|Reps.set r i t
def Bw(e d:x6):Mh:=λv S M Q=>e S M λo a=>d S a λi M2=>qSet o i v M2 λb=>Q S b
theorem LC(D:DE X o to)(hi:DE X i ti)(C:∀v,i6 (.Subscript o i pos) X.env v=(do
   let ov <-i4 [v] (eval o X.env)
   let iv <-i4 [v,ov] (eval i X.env)
   standAt pos
   i4 [v,ov,iv] (setItem ov iv v)
   release [v,ov,iv] []):=by intro _;rfl):DG X (.Subscript o i pos) (Bw to ti):=by
 rintro p s σ H v u R I r ⟨d,S,M,ρ,Q,O,g,K,q,k⟩;refine Jv D hi CJ C p s σ H v u R I r ⟨S,M,ρ,_,O,g,q,?_⟩;rintro W T ⟨o',B,h,N,g1,G,E⟩;refine⟨S,B,h,_,N,g.grow g1,E,?_⟩;rintro V U ⟨i',M2,l,z,b,J,c⟩;have f:=G.grow b;cases f with
 |@ref n a t =>
  cases J with
  |int j =>
   obtain⟨xs,x,e,L,F⟩:=(show ∃xs w,M2[n]?=a7 (.lst xs)/\Nk xs.length j=a7 w/\Q S (M2.set n<|.lst<|xs.set w d)from c)
   obtain⟨vs,m,y⟩:=z.obj n a _ t e;obtain⟨P,A⟩:=z.write t e m<|Reps.set (K.grow<|g1.trans b) x y;exact⟨a,vs,j,x,rfl,rfl,m,by rw[<-y.length];exact L,k σ _ ⟨S,_,l,P,(g1.trans b).trans A,g.grow<|(g1.trans b).trans A,F⟩⟩
  |_=>exact c.elim
 |_=>exact c.elim
def xT:C6:=λds M Q=>match ds with
 | [.ref n]=>∃xs,am M n xs/\Q (.ref M.length) (M++[.lst xs])
 | [.tup xs]=>Q (.ref M.length)<|M++[.lst xs]
 |_=>False
theorem Iq:iW X (.type "list") xT:=by
 refine fF.imp ur ?_;rintro vs H R ⟨ds,M,ρ,Q,m,a,q,k⟩;unfold xT at q;split at q;obtain⟨xs,L,q⟩:=q
 first|have z:=Reps.inv_cons a|have z:=aw.inv_cons a
 clear a;obtain⟨_,_,rfl,b,a⟩:=z;cases a;obtain⟨_,rfl,e⟩:=u5.inv_ref b;obtain⟨s,h,r⟩:=am.seq m L e;exact⟨_,s,rfl,.inl h,λl g=>k _ _<|VQ.laidL m .refl r g q⟩
 first|have z:=Reps.inv_cons a|have z:=aw.inv_cons a
 clear a;obtain⟨_,_,rfl,b,a⟩:=z;cases a;cases b with
 |tup h r=>exact⟨_,_,rfl,.inr h,λl g=>k _ _<|VQ.laidL m .refl r g q⟩
 exact q.elim
def iw:C6:=λds M Q=>match ds with
 | [.ref n]=>∃xs,am M n xs/\Q (.tup xs) M
 | [.tup xs]=>Q (.tup xs) M
 |_=>False
theorem EQ:iW X (.type "tuple") iw:=by
 refine fF.imp qU ?_;rintro vs H R ⟨ds,M,ρ,Q,m,a,q,k⟩;unfold iw at q;split at q;obtain⟨xs,L,q⟩:=q
 first|have z:=Reps.inv_cons a|have z:=aw.inv_cons a
 clear a;obtain⟨_,_,rfl,b,a⟩:=z;cases a;obtain⟨_,rfl,e⟩:=u5.inv_ref b;obtain⟨s,h,r⟩:=am.seq m L e;exact⟨_,s,rfl,.inl ⟨h,λl g=>k _ _<|VQ.laidT m .refl r g q⟩⟩
 first|have z:=Reps.inv_cons a|have z:=aw.inv_cons a
 clear a;obtain⟨_,_,rfl,b,a⟩:=z;cases a;cases b with
 |tup h r=>exact⟨_,_,rfl,.inr ⟨h,k _ H<|VQ.now m (.tup h r) q⟩⟩
 exact q.elim
theorem De:D7 X (j3 .Add) (λx y H Q=>∃a b ys,x=.ref a/\y=.ref b/\B8 X.K H a []/\B8 X.K H b ys/\Q (.ref b) H):=by intro r s σ H x y v u Q I G J h;obtain⟨a,b,ys,rfl,rfl,z,A,q⟩:=h;cases G;cases J;obtain⟨its,F,D,_⟩:=I.tuple z;obtain⟨p,M,E,_⟩:=I.tuple A;have e:its=[]:=F.nil_iff.mpr rfl;subst e;obtain⟨⟨t,w,l,L⟩,B,m,n,o⟩:=id D;obtain⟨⟨k,g,i,j⟩,f,c,C,d⟩:=id E;simp only at m o c d;subst m o c d;exact concat_meets ⟨_,B,rfl⟩ ⟨_,f,rfl⟩ noFill_tuple_add seq_tuple_add RM RR (RV _ _) (tuple_addW0 a b _ _ n C w g L j<|by simp) ⟨B,f,⟨.ref b,H,I,rfl,q⟩⟩
def aN:G8:=λx y M Q=>match x,y with
 |.tup xs,.tup ys=>xs.length+ys.length<=sizeLine/\Q (.tup<|xs++ys) M
 |_,_=>qAdd x y M Q
theorem GI:J0 X (j3 .Add) aN:=by
 rintro c s σ H f h v u R I g i ⟨x,y,M,ρ,Q,m,r,e,q,k⟩;unfold aN at q;split at q;rename_i xs ys;obtain⟨a,vs,rfl,h1,D⟩:=u5.inv_tup r;obtain⟨b,w,rfl,h2,E⟩:=u5.inv_tup e;have l:=D.length;have d:=E.length;cases xs with
 |nil=>cases D;exact De c s σ H _ _ v u R I g i ⟨a,b,w,rfl,rfl,h1,h2,k _ H<|VQ.now m (.tup h2 E) q.2⟩
 |cons n j =>
  refine GA c s σ H _ _ v u R I g i ⟨a,b,vs,w,rfl,rfl,h1,h2,?_,by rw[<-l,<-d];exact q.1,λz=>?_,λ_ p hp=>k _ _<|VQ.laidT m .refl (D.append E) hp q.2⟩;intro z;subst z;simp at l;subst z;have:ys=[]:=by simpa using d
  subst this;rw[MJ]at q;exact k _ H<|VQ.now m (.tup h1 D) q.2
 exact JY c s σ H f h v u R I g i ⟨x,y,M,ρ,Q,m,r,e,q,k⟩
def mC(n:Nat):C6:=λds M Q=>match ds with
 | [.ref m]=>∃xs ys,M[n]?=a7 (.lst xs)/\M[m]?=a7 (.lst ys)/\n≠m/\xs.length+ys.length<=sizeLine/\Q .non (M.set n<|.lst<|xs++ys)
 |_=>False
theorem ye:J1 X "list.extend" (ig X.K mC):=by
 rintro p s σ H x xs v us R I A y ⟨n,a,ds,M,ρ,Q,j,g,c,f,q,k⟩;unfold mC at q;split at q;rename_i m;obtain⟨ys,E,e,l,u,o,q⟩:=q
 first|have z:=Reps.inv_cons f|have z:=aw.inv_cons f
 clear f;obtain⟨_,_,rfl,w,f⟩:=z;cases f;obtain⟨b,rfl,t⟩:=u5.inv_ref w;obtain⟨vs,d,r⟩:=c.obj n a _ g e;obtain⟨D,h,i⟩:=c.obj m b _ t l;obtain⟨B,C⟩:=c.write g e d<|r.append i;exact Al p s σ H x _ v us R I A y ⟨a,b,vs,D,j,rfl,d,h,by rw[<-r.length,<-i.length];exact o,k _ _ ⟨.non,_,ρ,B,C,.non,q⟩⟩;exact q.elim
end L2
namespace Srt
open PySem PySem.W PyProof.Rows
noncomputable def run{α:Type}(c:Nat->Nat->Bool):KasT α->α
 |.ret a=>a
 |.ask i j k=>run c<|k<|c i j
theorem gL{α β:Type}{c:Nat->Nat->Bool}{f:α->KasT β}:∀t:KasT α,run c (t.bind f)=run c (f<|run c t)
 |.ret a=>rfl
 |.ask i j k=>gL<|k<|c i j
def Bd{α:Type}(n:Nat):KasT α->Prop
 |.ret _=>True
 |.ask i j k=>i<n/\j<n/\∀b,Bd n<|k b
def All{α:Type}(P:α->Prop):KasT α->Prop
 |.ret a=>P a
 |.ask _ _ k=>∀b,All P<|k b
theorem All.mono{α:Type}{P Q:α->Prop}(h:∀a,P a->Q a):∀t:KasT α,All P t->All Q t
 |.ret a,q=>h a q
 |.ask _ _ k,q=>λb=>All.mono h (k b)<|q b
theorem All.bind{α β:Type}{P:β->Prop}{f:α->KasT β}:∀t:KasT α,All (λa=>All P<|f a) t->All P (t.bind f)
 |.ret a,q=>q
 |.ask _ _ k,q=>λb=>All.bind (k b)<|q b
theorem Bd.bindA{α β:Type}{n:Nat}{f:α->KasT β}:∀t:KasT α,Bd n t->All (λa=>Bd n<|f a) t->Bd n (t.bind f)
 |.ret a,_,q=>q
 |.ask _ _ k,b,q=>⟨b.1,b.2.1,λx=>Bd.bindA (k x) (b.2.2 x)<|q x⟩
theorem All.run{α:Type}{P:α->Prop}{c:Nat->Nat->Bool}:∀t:KasT α,All P t->P (Srt.run c t)
 |.ret a,q=>q
 |.ask i j k,q=>All.run (k<|c i j)<|q _
theorem wp_run{α:Type}{cmp:Nat->Nat->(Bool->f6->Prop)->f6->Prop}{c:Nat->Nat->Bool}{n:Nat}{s:f6}{Q:α->f6->Prop}(hc:∀i j (C:Bool->f6->Prop),i<n->j<n->C (c i j) s->cmp i j C s):∀t:KasT α,Bd n t->Q (run c t) s->t.kasWp cmp Q s
 |.ret a,_,q=>q
 |.ask i j k,b,q=>hc i j _ b.1 b.2.1<|wp_run hc (k<|c i j) (b.2.2 _) q
structure L7(c:Nat->Nat->Bool):Prop where
 irr:∀a,c a a=b7
 tr:∀a b d,c a b=a9->c b d=a9->c a d=a9
 neg:∀a b d,c a d=a9->c a b=a9\/c b d=a9
section
variable{c:Nat->Nat->Bool}(O:L7 c)
def le(c:Nat->Nat->Bool)(a b:Nat):Prop:=c b a=b7
theorem le_refl(O:L7 c)(a:Nat):le c a a:=O.irr a
theorem le_trans(O:L7 c)(h1:le c a b)(h2:le c b d):le c a d:=by
 unfold le at *;cases q:c d a with
 |false=>rfl
 |true=>rcases O.neg d b a q with h|h;rw[h2]at h;cases h;rw[h1]at h;cases h
theorem le_of_lt(O:L7 c)(h:c a b=a9):le c a b:=by
 unfold le;cases q:c b a with
 |false=>rfl
 |true=>have:=O.tr a b a h q;rw[O.irr]at this;cases this
noncomputable abbrev at_(p:Array Nat)(k:Nat):Nat:=p.getD k 0
def Up(c:Nat->Nat->Bool)(p:Array Nat)(m:Nat):Prop:=∀i j,i<=j->j<m->le c (at_ p i) (at_ p j)
def Dn(c:Nat->Nat->Bool)(p:Array Nat)(m:Nat):Prop:=∀i j,i<=j->j<m->le c (at_ p j) (at_ p i)
def OO(c:Nat->Nat->Bool)(p:Array Nat)(a b:Nat):Prop:=∀i j,a<=i->i<b->a<=j->j<b->le c (at_ p i) (at_ p j)
theorem Up.one(O:L7 c)(p:Array Nat):Up c p 1:=λi j a L=>by
 have:i=j:=by lia
 subst this;exact le_refl O _
theorem Up.snoc(O:L7 c)(h:Up c p n)(h1:1<=n)(g:le c (at_ p<|n-1) (at_ p n)):Up c p (n+1):=λi j a L=>by
 by_cases b:j<n;exact h i j a b;have:j=n:=by lia
 subst this;by_cases hi:i=j;subst hi;exact le_refl O _;exact le_trans O (h i (j-1) (by lia)<|by lia) g
theorem Dn.snoc(O:L7 c)(h:Dn c p n)(h1:1<=n)(g:le c (at_ p n) (at_ p<|n-1)):Dn c p (n+1):=λi j a L=>by
 by_cases b:j<n;exact h i j a b;have:j=n:=by lia
 subst this;by_cases hi:i=j;subst hi;exact le_refl O _;exact le_trans O g<|h i (j-1) (by lia)<|by lia
theorem iB(hj:j<=p.size)(k:Nat):at_ (Mi p i j) k=if i<=k/\k<j then at_ p (i+j-1-k)else at_ p k:=by have e:=getElem?_mirror_all (xs:=p) (i:=i) hj k;unfold at_ Mi;rw[Og,e];by_cases h:i<=k/\k<j;rw[o8 h,o8 h,Og];rw[p4 h,p4 h,Og]
theorem uA(b:k<p.size)(a:d<=k)(i:Nat):at_ (bubble p k d) i=if i=k-d then at_ p k else if k-d<i/\i<=k then at_ p (i-1)else at_ p i:=by have e:=getElem?_bubble (xs:=p) b d a i;unfold at_;rw[Og,e];by_cases h:i=k-d;rw[o8 h,o8 h,Og];rw[p4 h,p4 h];by_cases h':k-d<i/\i<=k;rw[o8 h',o8 h',Og];rw[p4 h',p4 h',Og]
theorem Dn.rev(h:Dn c p n)(f:n<=p.size):Up c (Mi p 0 n) n:=λi j a L=>by rw[iB f,iB f,o8 ⟨B5 _,by lia⟩,o8 ⟨B5 _,L⟩];exact h _ _ (by lia)<|by lia
theorem Dn.revEq(O:L7 c)(h:Dn c p n)(f:n<=p.size)(e:OO c p a n):Dn c (Mi p a n) n:=λi j b L=>by rw[iB f,iB f];by_cases h1:a<=i/\i<n;by_cases h2:a<=j/\j<n;rw[o8 h1,o8 h2];exact e _ _ (by lia) (by lia) (by lia) (by lia);exact p7 ⟨by lia,L⟩ h2;by_cases h2:a<=j/\j<n;rw[p4 h1,o8 h2];exact h _ _ (by lia) (by lia);rw[p4 h1,p4 h2];exact h _ _ b L
theorem vT(O:L7 c):∀(f n:Nat),1<=n->Up c p n->Up c p (run c<|MF p f n)/\n<=run c (MF p f n)/\run c (MF p f n)<=n+f /\(run c (MF p f n)<n+f->c (at_ p<|run c<|MF p f n) (at_ p<|run c (MF p f n)-1)=a9)
 | 0,n,_,h=>⟨h,v6 _,v6 _,λz=>p7 z<|G0 _⟩
 |f+1,n,h1,h=>by
  show Up c p (run c<|if c (at_ p n) (at_ p<|n-1)=a9 then .ret n else MF p f (n+1))/\n<=run c (if c (at_ p n) (at_ p<|n-1)=a9 then .ret n else MF p f (n+1)) /\ run c (if c (at_ p n) (at_ p<|n-1)=a9 then .ret n else MF p f (n+1))<=n+(f+1)/\(run c (if c (at_ p n) (at_ p<|n-1)=a9 then .ret n else MF p f (n+1))<n+(f+1) -> c (at_ p<|run c<|if c (at_ p n) (at_ p<|n-1)=a9 then .ret n else MF p f (n+1)) (at_ p<|run c (if c (at_ p n) (at_ p<|n-1)=a9 then .ret n else MF p f (n+1))-1)=a9)
  by_cases q:c (at_ p n) (at_ p<|n-1)=a9;rw[o8 q];exact⟨h,v6 _,PU _ _,λ_=>q⟩;rw[p4 q];obtain⟨a1,a2,a3,a4⟩:=vT O f (n+1) (by lia) (h.snoc O h1<|by unfold le;simpa using q);exact⟨a1,by lia,by lia,λz=>a4<|by lia⟩
theorem eZ:(Mi p i j).size=p.size:=mirror_size _ _ _ _
def Cc(c:Nat->Nat->Bool)(z n m:Nat)(r:Array Nat×Nat×Nat):Prop:=r.1.size=z/\Dn c r.1 r.2.1/\n<=r.2.1/\r.2.1<=m/\r.2.2+1<=r.2.1/\OO c r.1 (r.2.1-(r.2.2+1)) r.2.1
def rj(c:Nat->Nat->Bool)(z nrem:Nat)(r:Nat×Array Nat):Prop:=r.2.size=z/\Up c r.2 r.1/\1<=r.1/\r.1<=nrem
def vV(c:Nat->Nat->Bool)(p:Array Nat)(k m:Nat):Prop:=m<=k/\(∀i,i<m->le c (at_ p i) (at_ p k))/\∀i,m<=i->i<k->c (at_ p k) (at_ p i)=a9
theorem lh(O:L7 c):∀(f:Nat) (p:Array Nat) (n q:Nat),q+1<=n->n+f<=p.size->Dn c p n->OO c p (n-(q+1)) n ->Cc c p.size n (n+f) (run c<|J6 f p n q)
 | 0,p,n,q,h1,h2,hd,he=>⟨rfl,hd,v6 _,v6 _,h1,he⟩
 |f+1,p,n,q,h1,h2,hd,he=>by
  have hn:n<=p.size:=by lia
  show Cc c p.size n (n+(f+1)) (run c<|if c (at_ p n) (at_ p<|n-1)=a9 then(if q > 0 then J6 f (Mi p (n-(q+1)) n) (n+1) 0 else J6 f p (n+1) 0) else .ask (at_ p<|n-1) (at_ p n) λd=>if d=a9 then .ret (p,n,q)else J6 f p (n+1) (q+1));by_cases hc:c (at_ p n) (at_ p<|n-1)=a9;rw[o8 hc];by_cases hq:q > 0;rw[o8 hq];have hd':Dn c (Mi p (n-(q+1)) n) (n+1):=by refine(hd.revEq O hn he).snoc O (by lia) ?_;rw[iB hn,iB hn,p4 (by lia),o8 ⟨by lia,by lia⟩];exact le_trans O (le_of_lt O hc)<|he _ _ (by lia) (by lia) (by lia)<|by lia
  have r:=lh O f (Mi p (n-(q+1)) n) (n+1) 0 (by lia) (by rw[eZ];lia) hd' (λi j a1 a2 a3 a4=>by
   have:i=n:=by lia
   have:j=n:=by lia
   subst_vars
   exact le_refl O _)
  obtain⟨a1,a2,a3,a4,a5,a6⟩:=r;exact⟨a1.trans eZ,a2,by lia,by lia,a5,a6⟩;rw[p4 hq];have r:=lh O f p (n+1) 0 (by lia) (by lia) (hd.snoc O (by lia)<|le_of_lt O hc) (λi j a1 a2 a3 a4=>by
   have:i=n:=by lia
   have:j=n:=by lia
   subst_vars
   exact le_refl O _)
  obtain⟨a1,a2,a3,a4,a5,a6⟩:=r;exact⟨a1,a2,by lia,by lia,a5,a6⟩;rw[p4 hc];show Cc c p.size n (n+(f+1)) (run c<|if c (at_ p<|n-1) (at_ p n)=a9 then .ret (p,n,q)else J6 f p (n+1) (q+1));by_cases hc':c (at_ p<|n-1) (at_ p n)=a9;rw[o8 hc'];exact⟨rfl,hd,v6 _,by show n<=_;lia,h1,he⟩;rw[p4 hc'];have l1:le c (at_ p n) (at_ p<|n-1):=by unfold le;simpa using hc'
  have l2:le c (at_ p<|n-1) (at_ p n):=by unfold le;simpa using hc
  have r:=lh O f p (n+1) (q+1) (by lia) (by lia) (hd.snoc O (by lia) l1) (λi j a1 a2 a3 a4=>by by_cases hi:i=n;by_cases hj:j=n;subst hi hj;exact le_refl O _;subst hi;exact le_trans O l1 (he _ _ (by lia) (by lia) (by lia)<|by lia);by_cases hj:j=n;subst hj;exact le_trans O (he _ _ (by lia) (by lia) (by lia)<|by lia) l2;exact he _ _ (by lia) (by lia) (by lia)<|by lia);obtain⟨a1,a2,a3,a4,a5,a6⟩:=r;exact⟨a1,a2,by lia,by lia,a5,a6⟩
theorem rK(O:L7 c)(h1:1<=n)(f:n<=nrem)(hz:nrem<=p.size)(d:Dn c p n):rj c p.size nrem (run c<|kas_tail3 n nrem p):=by unfold kas_tail3;rw[gL];obtain⟨C,a,b,_⟩:=vT O (nrem-n) n h1 (d.rev<|by lia);exact⟨eZ,C,F4 h1 a,F4 b<|by lia⟩
theorem kI(O:L7 c)(h1:1<=n)(x:n+1<=nrem)(hz:nrem<=p.size)(m:OO c p 0 n)(k:c (at_ p n) (at_ p<|n-1)=a9):rj c p.size nrem (run c<|OU n nrem p):=by
 have l:Dn c p (n+1):=by refine Dn.snoc O (λi j o L=>m _ _ (by lia) (by lia) (by lia)<|by lia) h1<|le_of_lt O k
 unfold OU;rw[gL];obtain⟨a,g,u,v,w,h⟩:=lh O (nrem-(n+1)) p (n+1) 0 (by lia) (by lia) l (λi j C r s t=>by
  have:i=n:=by lia
  have:j=n:=by lia
  subst_vars
  exact le_refl O _)
 by_cases q:(run c<|J6 (nrem-(n+1)) p (n+1) 0).2.2 > 0;rw[o8 q];obtain⟨d,b,e,f⟩:=rK O (p:=Mi (run c<|J6 (nrem-(n+1)) p (n+1) 0).1 ((run c<|J6 (nrem-(n+1)) p (n+1) 0).2.1-((run c<|J6 (nrem-(n+1)) p (n+1) 0).2.2+1)) (run c<|J6 (nrem-(n+1)) p (n+1) 0).2.1) (n:=(run c<|J6 (nrem-(n+1)) p (n+1) 0).2.1) (nrem:=nrem) (by lia) (by lia) (by rw[eZ,a];exact hz)<|g.revEq O (by rw[a];lia) h;exact⟨d.trans<|eZ.trans a,b,e,f⟩;rw[p4 q];obtain⟨d,b,e,f⟩:=rK O (p:=(run c<|J6 (nrem-(n+1)) p (n+1) 0).1) (n:=(run c<|J6 (nrem-(n+1)) p (n+1) 0).2.1) (nrem:=nrem) (by lia) (by lia) (by rw[a];exact hz) g;exact⟨d.trans a,b,e,f⟩
theorem BF(O:L7 c)(h1:1<=nrem)(hz:nrem<=p.size):rj c p.size nrem (run c<|kas_count nrem p):=by
 unfold kas_count;rw[gL];obtain⟨C,a,o,l⟩:=vT O (nrem-1) 1 (v6 _)<|Up.one O p;generalize run c (MF p (nrem-1) 1)=n at C a o l;by_cases k:(n==nrem)=a9;rw[o8 k];exact⟨rfl,C,a,by show n<=nrem;lia⟩;rw[p4 k];have x:n≠nrem:=by simpa using k
 have t:c (at_ p n) (at_ p<|n-1)=a9:=l (by lia);by_cases h2:n > 1;rw[o8 h2];show rj c p.size nrem (run c<|if c (at_ p 0) (at_ p<|n-1)=a9 then .ret (n,p)else OU n nrem (Mi p 0 n));by_cases f:c (at_ p 0) (at_ p<|n-1)=a9;rw[o8 f];exact⟨rfl,C,a,by show n<=nrem;lia⟩;rw[p4 f];have g:n<=p.size:=by lia
 have y:le c (at_ p<|n-1) (at_ p 0):=by unfold le;simpa using f
 have m:OO c p 0 n:=λi j b d u v=>le_trans O (C i (n-1) (by lia)<|by lia)<|le_trans O y<|C 0 j (by lia) v;have e:OO c (Mi p 0 n) 0 n:=λi j b d u v=>by rw[iB g,iB g,o8 ⟨b,d⟩,o8 ⟨u,v⟩];exact m _ _ (by lia) (by lia) (by lia)<|by lia
 have h:c (at_ (Mi p 0 n) n) (at_ (Mi p 0 n)<|n-1)=a9:=by rw[iB g,iB g,p4 (by lia),o8 ⟨by lia,by lia⟩];rcases O.neg _ (at_ p<|0+n-1-(n-1)) _ t with z|z;exact z;have:=m (n-1) (0+n-1-(n-1)) (by lia) (by lia) (by lia) (by lia);unfold le at this;rw[this]at z;cases z
 obtain⟨q,r,s,w⟩:=kI O (p:=Mi p 0 n) (n:=n) (nrem:=nrem) (by lia) (by lia) (by rw[eZ];exact hz) e h;exact⟨q.trans eZ,r,s,w⟩;rw[p4 h2];have:n=1:=by lia
 subst this;exact kI O (by lia) (by lia) hz (λi j b d u v=>by
  have:i=0:=by lia
  have:j=0:=by lia
  subst_vars
  exact le_refl O _) t
theorem mE(O:L7 c)(hu:Up c p k):∀(f l r:Nat),l<=r->r<=k->r-l<=f->(∀i,i<l->le c (at_ p i) (at_ p k))->(∀i,r<=i->i<k->c (at_ p k) (at_ p i)=a9) ->vV c p k (run c<|Nn p k f l r)
 | 0,l,r,h1,h2,h3,h4,h5=>⟨by show l<=k;lia,h4,λi a1 a2=>h5 i (by have a1':l<=i:=a1;lia) a2⟩
 |f+1,l,r,h1,h2,h3,h4,h5=>by
  show vV c p k (run c<|if l ≥ r then .ret l else .ask (at_ p k) (at_ p<|(l+r) / 2) λc=>if c=a9 then Nn p k f l ((l+r) / 2)else Nn p k f ((l+r) / 2+1) r);by_cases hl:l ≥ r;rw[o8 hl];exact⟨by show l<=k;lia,h4,λi a1 a2=>h5 i (by have a1':l<=i:=a1;lia) a2⟩;rw[p4 hl];show vV c p k (run c<|if c (at_ p k) (at_ p<|(l+r) / 2)=a9 then Nn p k f l ((l+r) / 2)else Nn p k f ((l+r) / 2+1) r);by_cases hc:c (at_ p k) (at_ p<|(l+r) / 2)=a9;rw[o8 hc];refine mE O hu f l ((l+r) / 2) (by lia) (by lia) (by lia) h4 λi a1 a2=>?_;rcases O.neg _ (at_ p i) _ hc with z|z;exact z;have:=hu ((l+r) / 2) i a1 a2;unfold le at this;rw[this]at z;cases z;rw[p4 hc];have lm:le c (at_ p<|(l+r) / 2) (at_ p k):=by unfold le;simpa using hc
  refine mE O hu f ((l+r) / 2+1) r (by lia) h2 (by lia) (λi hi=>?_) h5;exact le_trans O (hu i ((l+r) / 2) (by lia)<|by lia) lm
theorem BP(O:L7 c)(f:k<p.size)(g:Up c p k)(l:m<=k)(h1:∀i,i<m->le c (at_ p i) (at_ p k))(h2:∀i,m<=i->i<k->c (at_ p k) (at_ p i)=a9):Up c (bubble p k<|k-m) (k+1):=by
 intro i j d L;have e:k-(k-m)=m:=by lia
 rw[uA f (by lia),uA f (by lia),e];by_cases hi:i=m;rw[o8 hi];by_cases h:j=m;rw[o8 h];exact le_refl O _;rw[p4 h,o8 ⟨by lia,by lia⟩];exact le_of_lt O (h2 _ (by lia)<|by lia);rw[p4 hi];by_cases a:m<i/\i<=k;rw[o8 a,p4 (by lia),o8 ⟨by lia,by lia⟩];exact g _ _ (by lia) (by lia);rw[p4 a];by_cases h:j=m;rw[o8 h];exact h1 i (by lia);rw[p4 h];by_cases b:m<j/\j<=k;rw[o8 b];exact g _ _ (by lia) (by lia);rw[p4 b];exact g _ _ d<|by lia
theorem BS(O:L7 c):∀(f:Nat) (p:Array Nat) (k:Nat),k+f<=p.size->Up c p k->(run c<|kas_bin f p k).size=p.size/\Up c (run c<|kas_bin f p k) (k+f)
 | 0,p,k,_,h=>⟨rfl,h⟩
 |f+1,p,k,hz,h=>by show (run c<|(Nn p k k 0 k).bind λl=>kas_bin f (bubble p k<|k-l)<|k+1).size=p.size/\Up c (run c<|(Nn p k k 0 k).bind λl=>kas_bin f (bubble p k<|k-l)<|k+1) (k+(f+1));rw[gL];obtain⟨a1,a2,a3⟩:=mE O h k 0 k (B5 _) (v6 _) (by lia) (λi hi=>p7 hi<|ND _) λi a1 a2=>p7 a2 (by lia);obtain⟨b1,b2⟩:=BS O f (bubble p k<|k-run c (Nn p k k 0 k)) (k+1) (by rw[bubble_size];lia)<|BP O (by lia) h a1 a2 a3;exact⟨b1.trans<|bubble_size _ _ _,by rw[show k+(f+1)=k+1+f by lia];exact b2⟩
theorem FU(O:L7 c)(h1:1<=n):(run c<|NJ n).size=n/\Up c (run c<|NJ n) n:=by
 have hs:(PB<|D0 n).size=n:=by simp
 unfold NJ;rw[gL];obtain⟨C,a,b,t⟩:=BF O (p:=PB<|D0 n) h1 (by rw[hs];exact v6 _);rw[hs]at C;generalize run c (kas_count n<|PB<|D0 n)=r at C a b t;by_cases g:r.1<n;rw[o8 g];obtain⟨d,e⟩:=BS O (n-max r.1 1) r.2 (max r.1 1) (by rw[C];lia) (by rw[show max r.1 1=r.1 by lia];exact a);exact⟨d.trans C,by rw[show n=max r.1 1+(n-max r.1 1) by lia];simpa using e⟩;rw[p4 g];have f:r.1=n:=by lia
 rw[f]at a;exact⟨C,a⟩
def E6(n:Nat)(p:Array Nat):Prop:=p.toList.Perm<|D0 n
theorem E6.lt(h:E6 n p)(a:0<n)(k:Nat):at_ p k<n:=by
 unfold at_;rw[Og];cases e:p[k]? with
 |none=>simpa using a
 |some x =>
  have:x∈p.toList:=by rw[<-G5]at e;exact E9 e
  have:=h.mem_iff.mp this;simpa using this
theorem E6.rev(h:E6 n p):E6 n (Mi p i j):=(Array.perm_iff_toList_perm.mp<|mirror_perm p i j<|(j-i) / 2).trans h
theorem E6.bub(h:E6 n p):E6 n (bubble p i j):=(Array.perm_iff_toList_perm.mp<|bubble_perm p i j).trans h
section
variable{n:Nat}(h0:0<n)
theorem BV(h0:0<n)(h:E6 n p):∀(f k:Nat),Bd n (MF p f k)
 | 0,_=>trivial
 |f+1,k=>⟨h.lt h0 _,h.lt h0 _,λb=>by cases b with
  |true=>exact trivial
  |false=>exact BV h0 h f<|k+1⟩
theorem qO(h0:0<n):∀(f:Nat) (p:Array Nat) (k q:Nat),E6 n p->Bd n (J6 f p k q)/\All (λr=>E6 n r.1) (J6 f p k q)
 | 0,p,k,q,h=>⟨trivial,h⟩
 |f+1,p,k,q,h=>by
  have key:∀b,(Bd n<|if b=a9 then(if q > 0 then J6 f (Mi p (k-(q+1)) k) (k+1) 0 else J6 f p (k+1) 0) else KasT.ask (p.getD (k-1) 0) (p.getD k 0) λd=>if d=a9 then KasT.ret (p,k,q)else J6 f p (k+1) (q+1))/\All (λr=>E6 n r.1) (if b=a9 then(if q > 0 then J6 f (Mi p (k-(q+1)) k) (k+1) 0 else J6 f p (k+1) 0) else KasT.ask (p.getD (k-1) 0) (p.getD k 0) λd=>if d=a9 then KasT.ret (p,k,q)else J6 f p (k+1) (q+1)):=λb=>by
   cases b with
   |true=>rw[o8 rfl];by_cases hq:q > 0;rw[o8 hq];exact qO h0 f _ _ _ h.rev;rw[p4 hq];exact qO h0 f _ _ _ h
   |false =>
    rw[p4<|by simp];have a:=qO h0 f p (k+1) (q+1) h;refine⟨⟨h.lt h0 _,h.lt h0 _,λb=>?_⟩,λb=>?_⟩;cases b with
    |true=>exact trivial
    |false=>exact a.1
    cases b with
    |true=>exact h
    |false=>exact a.2
  exact⟨⟨h.lt h0 _,h.lt h0 _,λb=>(key b).1⟩,λb=>(key b).2⟩
theorem kW(c:0<n)(h:E6 n p):Bd n (kas_tail3 k m p)/\All (λr=>E6 n r.2) (kas_tail3 k m p):=by
 have v:∀{t:KasT Nat}{Q:Prop},Q->All (λ_=>Q) t:=λ{t Q} q=>by
  induction t with
  |ret a=>exact q
  |ask i j k d=>exact λb=>d b
 unfold kas_tail3;exact⟨Bd.bindA _ (BV c h.rev _ _)<|v trivial,All.bind _<|v h.rev⟩
theorem fy(a:0<n)(h:E6 n p):Bd n (OU k m p)/\All (λr=>E6 n r.2) (OU k m p):=by unfold OU;obtain⟨b,c⟩:=qO a (m-(k+1)) p (k+1) 0 h;refine⟨Bd.bindA _ b<|c.mono<|λr i=>?_,All.bind _<|c.mono<|λr i=>?_⟩;by_cases q:r.2.2 > 0;rw[o8 q];exact(kW a i.rev).1;rw[p4 q];exact(kW a i).1;by_cases q:r.2.2 > 0;rw[o8 q];exact(kW a i.rev).2;rw[p4 q];exact(kW a i).2
theorem EN(c:0<n)(h:E6 n p):Bd n (kas_count m p)/\All (λr=>E6 n r.2) (kas_count m p):=by
 have v:∀{t:KasT Nat}{Q:Nat->Prop},(∀a,Q a)->All Q t:=λ{t Q} q=>by
  induction t with
  |ret a=>exact q a
  |ask i j k d=>exact λb=>d b
 unfold kas_count;refine⟨Bd.bindA _ (BV c h _ _)<|v λk=>?_,All.bind _<|v λk=>?_⟩;by_cases h1:(k==m)=a9;rw[o8 h1];exact trivial;rw[p4 h1];by_cases h2:k > 1;rw[o8 h2];refine⟨h.lt c _,h.lt c _,λb=>?_⟩;cases b with
 |true=>exact trivial
 |false=>exact(fy c h.rev).1
 rw[p4 h2];exact(fy c h).1;by_cases h1:(k==m)=a9;rw[o8 h1];exact h;rw[p4 h1];by_cases h2:k > 1;rw[o8 h2];intro b;cases b with
 |true=>exact h
 |false=>exact(fy c h.rev).2
 rw[p4 h2];exact(fy c h).2
theorem pX(h0:0<n)(h:E6 n p):∀(f l r:Nat),Bd n (Nn p k f l r)
 | 0,_,_=>trivial
 |f+1,l,r=>by
  show Bd n (if l ≥ r then KasT.ret l else KasT.ask (p.getD k 0) (p.getD ((l+r) / 2) 0) λc=>if c=a9 then Nn p k f l ((l+r) / 2)else Nn p k f ((l+r) / 2+1) r);by_cases hl:l ≥ r;rw[o8 hl];exact trivial;rw[p4 hl];refine⟨h.lt h0 _,h.lt h0 _,λb=>?_⟩;cases b with
  |true=>exact pX h0 h f _ _
  |false=>exact pX h0 h f _ _
theorem xo(h0:0<n):∀(f:Nat) (p:Array Nat) (k:Nat),E6 n p->Bd n (kas_bin f p k)/\All (λr=>E6 n r) (kas_bin f p k)
 | 0,p,k,h=>⟨trivial,h⟩
 |f+1,p,k,h=>by
  have triv:∀{t:KasT Nat}{Q:Nat->Prop},(∀a,Q a)->All Q t:=λ{t Q} q=>by
   induction t with
   |ret a=>exact q a
   |ask i j k ih=>exact λb=>ih b
  exact⟨Bd.bindA _ (pX h0 h _ _ _)<|triv λl=>(xo h0 f _ _ h.bub).1,All.bind _<|triv λl=>(xo h0 f _ _ h.bub).2⟩
theorem sort_bd(a:0<n):Bd n (NJ n)/\All (λr=>E6 n r) (NJ n):=by
 have h:E6 n (PB<|D0 n):=by unfold E6;simp
 obtain⟨b,c⟩:=EN a (m:=n) h;unfold NJ;refine⟨Bd.bindA _ b<|c.mono λr i=>?_,All.bind _<|c.mono λr i=>?_⟩;by_cases g:r.1<n;rw[o8 g];exact(xo a _ _ _ i).1;rw[p4 g];exact trivial;by_cases g:r.1<n;rw[o8 g];exact(xo a _ _ _ i).2;rw[p4 g];exact i
end
theorem sort_list{α:Type}[Inhabited α]{lt:α->α->Bool}(xs:List α)(h1:1<=xs.length)(r:∀a∈xs,lt a a=b7)(tr:∀a∈xs,∀b∈xs,∀d∈xs,lt a b=a9->lt b d=a9->lt a d=a9)(n:∀a∈xs,∀b∈xs,∀d∈xs,lt a d=a9->lt a b=a9\/lt b d=a9):let c:=λi j=>if i<xs.length then(if j<xs.length then lt (xs.getD i default) (xs.getD j default)else a9)else b7
  let p:=run c<|NJ xs.length
  let ys:=p.toList.map λi=>xs.getD i default
  ys.Perm xs/\ys.Pairwise λa b=>lt b a=b7:=by
 intro c p ys;have m:∀i,i<xs.length->xs.getD i default∈xs:=λi hi=>by rw[K6,x9 hi];exact MV hi
 have O:L7 c:=by refine⟨λa=>?_,λa b d=>?_,λa b d=>?_⟩;show (if a<xs.length then(if a<xs.length then lt _ _ else a9)else b7)=b7;by_cases f:a<xs.length;rw[o8 f,o8 f];exact r _<|m a f;rw[p4 f];show (if a<xs.length then(if b<xs.length then lt _ _ else a9)else b7)=a9->(if b<xs.length then(if d<xs.length then lt _ _ else a9)else b7)=a9->(if a<xs.length then(if d<xs.length then lt _ _ else a9)else b7)=a9;by_cases f:a<xs.length;by_cases h:b<xs.length;by_cases g:d<xs.length;rw[o8 f,o8 h,o8 h,o8 g,o8 f,o8 g];exact tr _ (m a f) _ (m b h) _<|m d g;intro _ _;rw[o8 f,p4 g];rw[p4<|show ¬b<xs.length from h];intro _ z;rw[p4 h]at z;cases z;intro z;rw[p4 f]at z;cases z;show (if a<xs.length then(if d<xs.length then lt _ _ else a9)else b7)=a9->(if a<xs.length then(if b<xs.length then lt _ _ else a9)else b7)=a9\/(if b<xs.length then(if d<xs.length then lt _ _ else a9)else b7)=a9;by_cases f:a<xs.length;by_cases h:b<xs.length;by_cases g:d<xs.length;rw[o8 f,o8 g,o8 f,o8 h,o8 h,o8 g];exact n _ (m a f) _ (m b h) _<|m d g;intro _;right;rw[o8 h,p4 g];intro _;left;rw[o8 f,p4 h];intro z;rw[p4 f]at z;cases z
 have E:E6 xs.length p:=All.run _ (sort_bd<|by lia).2;obtain⟨hs,U⟩:=FU O h1;refine⟨?_,?_⟩;have e:(D0 xs.length).map (λi=>xs.getD i default)=xs:=by apply List.ext_getElem?;intro i;rw[C7];by_cases hi:i<xs.length;rw[List.getElem?_range hi];simp[K6,x9 hi];rw[OE (by simpa using hi),OE<|by simpa using hi];rfl
 have:=E.map λi=>xs.getD i default;rw[e]at this;exact this;show (p.toList.map λi=>xs.getD i default).Pairwise λa b=>lt b a=b7;rw[Qk];intro i j hi L t;rw[v7,E2]at hi L;have u:p.size=xs.length:=hs;have l:=U i j (by lia) (by lia);have o:∀k,at_ p k<xs.length:=λk=>E.lt (by lia) k;unfold le at l;have l':(if at_ p j<xs.length then(if at_ p i<xs.length then lt (xs.getD (at_ p j) default) (xs.getD (at_ p i) default)else a9)else b7)=b7:=l;rw[o8<|o j,o8<|o i]at l';have q:p.toList[i]=at_ p i:=by unfold at_;simp[MT,hi]
 have s:p.toList[j]=at_ p j:=by unfold at_;simp[MT,L]
 rw[List.getElem_map,List.getElem_map,q,s];exact l'
end
end Srt
namespace L2
open PySem PySem.Spec PyProof.Rows DL
def yI(A:e8)(s:f6)(x y:b8)(k:Bool):Prop:=∀(g:c8) (w:c7) (E:b8->f6->Prop) (Q:b8->f6->Prop),Q (.bool k) s->f9 (g7 g w) A (richCompare .Lt x y) Q E s
inductive LexAt(A:e8)(s:f6):List b8->List b8->Bool->Prop
 |nn:LexAt A s [] [] b7
 |nc {y:b8}{ys:List b8}:LexAt A s [] (y::ys) a9
 |cn {x:b8}{xs:List b8}:LexAt A s (x::xs) [] b7
 |eq {x y:b8}{xs ys:List b8}{k:Bool} (h:MG A s x y a9) (t:LexAt A s xs ys k):LexAt A s (x::xs) (y::ys) k
 |ne {x y:b8}{xs ys:List b8}{k:Bool} (h:MG A s x y b7) (t:yI A s x y k):LexAt A s (x::xs) (y::ys) k
section
open PySem.SeqAt
open PySem.AutoSeq1 (wpAny_loadPart')
open PySem.MeetsSeq PySem.MeetsSeq2 PySem.MeetsSeq3
theorem rJ(l b:c9)(a i:Array b8)(n C:Nat)(u f:Option c9)(D o:Array (Option b8))(k:Bool):Meets (Builtin.«tuple.__lt__» ⟨[.ref l,.ref b],[]⟩)
   (λA R s=>s.heap.get? l=a7 (⟨.type "tuple",u,.seq a n,D⟩:d5)/\s.heap.get? b=a7 { cls:=.type "tuple",dict:=f,data:=.seq i C,slots:=o } /\ LexAt A.in1 s a.toList i.toList k/\R (.ok<|.ret<|.bool k) s) :=
 .of_wp λp w A R s h=>by
  obtain⟨hp,g,d,r,q⟩:=s;obtain⟨z,v,c,h⟩:=h;have N:=AutoSeq1.sub_tuple_tuple
  wp_walk using Si z,Si v,Nf _ (λaM b s'=>b.1=a8/\s'=⟨hp,g,d,r,q⟩/\∃(vs e:List b8),aM=vs.zip e /\ LexAt A.in1 ⟨hp,g,d,r,q⟩ vs e k/\vs.length+i.size=e.length+a.size) _
  case turn =>
   rintro⟨y,x⟩ aM b s' ⟨hb',rfl,vs,e,hz,hlex,hlen⟩;cases hlex with
   |nn=>cases hz
   |nc=>cases hz
   |cn=>cases hz
   |eq j t =>
    rw[OC]at hz;injection hz with hyx hrest;injection hyx with hy c;subst hy c;refine t6<|j p w _ _ ?_
    wp_walk
    exact⟨rfl,rfl,_,_,hrest,t,by simp only[C0]at hlen;lia⟩
   |ne j t =>
    rw[OC]at hz;injection hz with hyx hrest;injection hyx with hy c;subst hy c;refine t6<|j p w _ _ ?_;have m:=t p w
    wp_walk using m
    exact⟨_,rfl,by simpa using h⟩
  case fin =>
   rintro⟨b1,b2⟩ s' ⟨hb',rfl,vs,e,hz,hlex,hlen⟩;simp only at hb';subst hb';have B:k=decide (a.size<i.size):=by
    cases hlex with
    |nn=>simp only[D6]at hlen;exact(dF_<|by lia).symm
    |nc=>simp only[D6,C0]at hlen;exact(dT_<|by lia).symm
    |cn=>simp only[D6,C0]at hlen;exact(dF_<|by lia).symm
    |eq _ _=>rw[OC]at hz;cases hz
    |ne _ _=>rw[OC]at hz;cases hz
   rw[B]at h
   wp_walk
   exact⟨_,rfl,by simpa [Builtin.Tuple.tupleCompareSizes]using h⟩
  case h =>
   exact⟨rfl,rfl,a.toList,i.toList,rfl,c,by simp;lia⟩
end
theorem yI.tuples(u:s.heap.IsTuple l items)(r:s.heap.IsTuple b items2)(v:A.units<j6)(y:LexAt A.in1 s items.toList items2.toList k):yI A s (.ref l) (.ref b) k:=λp w E Q h=>by obtain⟨⟨t,q,g,C⟩,B,m,n,o⟩:=id u;obtain⟨⟨j,e,i,f⟩,d,a,z,c⟩:=id r;simp only at m o a c;subst m o a c;exact richCompare_meets_room (op:=.Lt) ⟨_,B,rfl⟩ ⟨_,d,rfl⟩ PySem.F.slot_tuple_lt PySem.F.entry_tuple_lt (PySem.F.args_tuple_lt_2 _ _) (rJ l b items items2 n z q e C f k) ⟨B,d,y,show Nz k≠Value.notImplemented/\Q (.bool k) s from⟨(λx=>nomatch x),h⟩⟩ v
noncomputable def rq(f g:D->D->Bool):List D->List D->Bool
 | [],[]=>b7
 | [],_::_=>a9
 |_::_,[]=>b7
 |x::xs,y::ys=>if f x y=a9 then rq f g xs ys else g x y
noncomputable def C9(M:u8):Nat->D->D->Bool
 |_,.int a,.int b=>decide<|a<b
 |_,.str a,.str b=>uT a b
 |n+1,.tup xs,.tup ys=>rq (u6 M n) (C9 M n) xs ys
 |_,_,_=>b7
noncomputable def yE(f g:D->D->Bool):List D->List D->Bool
 |x::xs,y::ys=>if f x y=a9 then yE f g xs ys else g x y
 |_,_=>a9
noncomputable def kb(M:u8):Nat->D->D->Bool
 |_,.int _,.int _=>a9
 |_,.str _,.str _=>a9
 |n+1,.tup xs,.tup ys=>yE (u6 M n) (kb M n) xs ys
 |_,_,_=>b7
theorem yI.ints(A:e8)(s:f6)(a:Int)(t:Tok)(c:Int)(u:Tok):yI A s (.int a t) (.int c u) (decide<|a<c):=λg w E Q h=>HT.rcLt_int A s a t c u g w E Q h
theorem yI.texts(A:e8)(s:f6)(a:b9)(t:Tok)(c:b9)(u:Tok):yI A s (.str a t) (.str c u) (uT a c):=λg w E Q h =>
 (PySem.P.lt_str (show Q (.bool<|decide<|a.cps.toList<c.cps.toList) s from h):f9 (g7 g w) A (j4 .Lt (.str a t)<|.str c u) Q E s)
theorem Fp(I:t9 X pins σ H s)(Z:w4 X.K ρ M H):∀(n:Nat) (A:e8) (x y:D) (vx vy:V) (u v:b8),A.units+n<j6->u5 X.K ρ H x vx->aL vx u->u5 X.K ρ H y vy->aL vy v->v9 M n x=a9->v9 M n y=a9->kb M n x y=a9 ->yI A s u v (C9 M n x y):=by
 intro n;induction n with
 |zero =>
  intro A x y vx vy u v T L c g l o1 o2 m;cases L with
  |int a =>
   cases g with
   |int b=>obtain⟨t,rfl⟩:=c;obtain⟨t',rfl⟩:=l;exact yI.ints A s a t b t'
   |_=>simp[kb]at m
  |str a =>
   cases g with
   |str b=>obtain⟨t,rfl⟩:=c;obtain⟨t',rfl⟩:=l;exact yI.texts A s a t b t'
   |_=>simp[kb]at m
  |_=>simp[kb]at m
 |succ n U =>
  intro A x y vx vy u v T L c g l o1 o2 m;have F:A.units<j6:=by lia
  have i:A.in1.units+n<j6:=by show A.units+1+n<j6;lia
  have G:∀(ds es:List D) (vs E:List V) (its j:List b8),Reps X.K ρ H ds vs->aw vs its->Reps X.K ρ H es E->aw E j->ds.all (v9 M n)=a9->es.all (v9 M n)=a9->yE (u6 M n) (kb M n) ds es=a9 -> LexAt A.in1 s its j (rq (u6 M n) (C9 M n) ds es):=by
   intro ds;induction ds with
   |nil =>
    intro es vs E its j p w o q _ _ _;cases p;cases w;cases o with
    |nil=>cases q;exact .nn
    |cons _ _=>cases q;exact .nc
   |cons d ds hi =>
    intro es vs E its j p w o q C B k;cases p with
    |cons N p =>
     cases w with
     |cons Q w =>
      cases o with
      |nil=>cases q;exact .cn
      |@cons e _ S _ P o =>
       cases q with
       |cons R q=>rw[Mq,E4]at C B;have z:=(kH I Z n A.in1 d _ _ _ _ _ i N Q P R C.1 B.1).1;rw[rq];rw[yE]at k;by_cases f:u6 M n d e=a9;rw[f]at z;rw[o8 f]at k ⊢;exact .eq z<|hi _ _ _ _ _ p w o q C.2 B.2 k;have h:=NF.mpr f;rw[h]at z;rw[p4 f]at k ⊢;exact .ne z<|U A.in1 _ _ _ _ _ _ i N Q P R C.1 B.1 k
  cases L with
  |int a =>
   cases g with
   |int b=>obtain⟨t,rfl⟩:=c;obtain⟨t',rfl⟩:=l;exact yI.ints A s a t b t'
   |_=>simp[kb]at m
  |str a =>
   cases g with
   |str b=>obtain⟨t,rfl⟩:=c;obtain⟨t',rfl⟩:=l;exact yI.texts A s a t b t'
   |_=>simp[kb]at m
  |tup f r =>
   cases g with
   |tup h r'=>cases c;cases l;obtain⟨its,Y,W,_⟩:=I.tuple f;obtain⟨j,O,J,_⟩:=I.tuple h;refine yI.tuples W J F ?_;exact G _ _ _ _ _ _ r Y r' O (by simpa [v9]using o1) (by simpa [v9]using o2) m
   |_=>simp[kb]at m
  |_=>simp[kb]at m
noncomputable def C8:Nat->D->Bool
 |_,.int _=>a9
 |_,.str _=>a9
 |n+1,.tup xs=>xs.all<|C8 n
 |_,_=>b7
noncomputable def IH(f:D->List Int):List D->List Int
 | []=>[0]
 |x::xs=>1::(f x++IH f xs)
noncomputable def A0:Nat->D->List Int
 |_,.int i=>[0,i]
 |_,.str x=>1::(x.cps.toList.map (λ(c:Nat)=>(c:Int)+1)++[0])
 |n+1,.tup xs=>2::IH (A0 n) xs
 |_,_=>[3]
def cF(x y:List Int):Prop:=∀a b,x++a<y++b
theorem cF.cons(i:Int)(h:cF x y):cF (i::x) (i::y):=λa b=>NG.mpr<|.inr ⟨rfl,h a b⟩
theorem cF.head(x y:List Int)(h:i<j):cF (i::x) (j::y):=λa b=>NG.mpr<|.inl h
theorem cF.lt(h:cF x y):x<y:=by have:=h [] [];simpa using this
theorem cF.pre(z:List Int)(h:cF x y):cF (z++x) (z++y):=by
 induction z with
 |nil=>exact h
 |cons i z a=>exact a.cons i
theorem cF.more(u v:List Int)(h:cF x y):cF (x++u) (y++v):=λa b=>by rw[G3,G3];exact h _ _
def Rt(x y:D)(n:Nat)(l:Bool)(r:Bool):Prop:=(x=y/\l=b7/\r=b7)\/(x≠y/\l=a9/\r=b7/\cF (A0 n x) (A0 n y))\/(x≠y/\l=b7/\r=a9/\cF (A0 n y) (A0 n x))
theorem uk:∀(x y:List Nat),(x=y)\/(x<y/\¬y<x/\cF (x.map (λ(c:Nat)=>(c:Int)+1)++[0]) (y.map (λ(c:Nat)=>(c:Int)+1)++[0]))\/(¬x<y/\y<x/\cF (y.map (λ(c:Nat)=>(c:Int)+1)++[0]) (x.map (λ(c:Nat)=>(c:Int)+1)++[0]))
 | [],[]=>.inl rfl
 | [],c::y=>.inr<|.inl ⟨List.nil_lt_cons _ _,List.not_lt_nil _,cF.head _ _<|by dsimp only;lia⟩
 |c::x,[]=>.inr<|.inr ⟨List.not_lt_nil _,List.nil_lt_cons _ _,cF.head _ _<|by dsimp only;lia⟩
 |c::x,e::y=>by
  rcases P6 c e with h|h|h;refine .inr<|.inl ⟨NG.mpr<|.inl h,λz=>?_,cF.head _ _<|by dsimp only;lia⟩;rcases NG.mp z with z|⟨z,_⟩<;>lia
  subst h;rcases uk x y with q|⟨q1,q2,q3⟩|⟨q1,q2,q3⟩
  exact .inl (by rw[q]);refine .inr<|.inl ⟨NG.mpr<|.inr ⟨rfl,q1⟩,λz=>?_,q3.cons _⟩;rcases NG.mp z with z|⟨_,z⟩
  lia;exact q2 z;refine .inr<|.inr ⟨λz=>?_,NG.mpr<|.inr ⟨rfl,q2⟩,q3.cons _⟩;rcases NG.mp z with z|⟨_,z⟩
  lia;exact q1 z;refine .inr<|.inr ⟨λz=>?_,NG.mpr<|.inl h,cF.head _ _<|by dsimp only;lia⟩;rcases NG.mp z with z|⟨z,_⟩<;>lia
theorem Lj(M:u8):∀(n:Nat) (x y:D),C8 n x=a9->C8 n y=a9->(u6 M n x y=a9↔x=y):=by
 have l:∀(n:Nat),(∀(x y:D),C8 n x=a9->C8 n y=a9->(u6 M n x y=a9↔x=y))->∀(xs ys:List D),xs.all (C8 n)=a9->ys.all (C8 n)=a9->(D5 (u6 M n) xs ys=a9↔xs=ys):=by
  intro n i xs;induction xs with
  |nil=>intro ys _ _;cases ys<;>simp[D5]
  |cons x xs hi =>
   intro ys h1 h2;cases ys with
   |nil=>simp[D5]
   |cons y ys=>rw[Mq,E4]at h1 h2;rw[D5,E4,i x y h1.1 h2.1,hi ys h1.2 h2.2,O1]
 intro n;induction n with
 |zero=>intro x y h1 h2;cases x<;>simp[C8]at h1<;>cases y<;>simp[C8]at h2<;>simp[u6]
 |succ n i =>
  intro x y h1 h2;cases x with
  |int a=>cases y<;>simp[C8]at h2<;>simp[u6]
  |str a=>cases y<;>simp[C8]at h2<;>simp[u6]
  |tup xs =>
   cases y with
   |tup ys=>simp only[u6,D.tup.injEq];exact l n i xs ys (by simpa [C8]using h1)<|by simpa [C8]using h2
   |int a=>simp[u6]
   |str a=>simp[u6]
   |_=>simp[C8]at h2
  |_=>simp[C8]at h1
theorem JR(M:u8):∀(n:Nat) (x:D),C8 n x=a9->v9 M n x=a9:=by
 intro n;induction n with
 |zero=>intro x h;cases x<;>simp[C8]at h<;>rfl
 |succ n i =>
  intro x h;cases x with
  |int a=>rfl
  |str a=>rfl
  |tup xs=>simp only[v9];rw[E8];intro y Q;exact i y<|E8.mp (show xs.all (C8 n)=a9 from h) y Q
  |_=>simp[C8]at h
theorem IP(M:u8):∀(n:Nat) (x y:D),C8 n x=a9->C8 n y=a9->kb M n x y=a9->Rt x y n (C9 M n x y) (C9 M n y x):=by
 have base:∀(n:Nat) (a b:Int),Rt (.int a) (.int b) n (decide<|a<b) (decide<|b<a):=λn a b=>by
  have e:∀a,A0 n (.int a)=[0,a]:=λa=>by cases n<;>rfl
  rcases Int.lt_trichotomy a b with h|h|h;exact .inr<|.inl ⟨by simp;lia,dT_ h,dF_ (by lia),by rw[e,e];exact(cF.head [] [] h).cons 0⟩;subst h;exact .inl ⟨rfl,dF_ (by lia),dF_<|by lia⟩;exact .inr<|.inr ⟨by simp;lia,dF_ (by lia),dT_ h,by rw[e,e];exact(cF.head [] [] h).cons 0⟩
 have s:∀(n:Nat) (a b:b9),Rt (.str a) (.str b) n (uT a b) (uT b a):=λn a b=>by
  have e:∀a:b9,A0 n (.str a)=1::(a.cps.toList.map (λ(c:Nat)=>(c:Int)+1)++[0]):=λa=>by cases n<;>rfl
  unfold uT;rcases uk a.cps.toList b.cps.toList with h|⟨h1,h2,d⟩|⟨h1,h2,d⟩
  have:a=b:=FT h;subst this;exact .inl ⟨rfl,dF_<|Nc _,dF_<|Nc _⟩;exact .inr<|.inl ⟨λz=>by cases z;exact h2 h1,dT_ h1,dF_ h2,by rw[e,e];exact d.cons 1⟩;exact .inr<|.inr ⟨λz=>by cases z;exact h1 h2,dF_ h1,dT_ h2,by rw[e,e];exact d.cons 1⟩
 intro n;induction n with
 |zero=>intro x y h1 h2 d;cases x<;>simp[C8]at h1<;>cases y<;>simp[C8]at h2<;>first|exact base 0 _ _|exact s 0 _ _|simp[kb]at d
 |succ n m =>
  intro x y h1 h2 d;have l:∀(xs ys:List D),xs.all (C8 n)=a9->ys.all (C8 n)=a9->yE (u6 M n) (kb M n) xs ys=a9 -> (xs=ys/\rq (u6 M n) (C9 M n) xs ys=b7/\rq (u6 M n) (C9 M n) ys xs=b7) \/ (xs≠ys/\rq (u6 M n) (C9 M n) xs ys=a9/\rq (u6 M n) (C9 M n) ys xs=b7/\cF (IH (A0 n) xs) (IH (A0 n) ys)) \/ (xs≠ys/\rq (u6 M n) (C9 M n) xs ys=b7/\rq (u6 M n) (C9 M n) ys xs=a9/\cF (IH (A0 n) ys) (IH (A0 n) xs)):=by
   intro xs;induction xs with
   |nil =>
    intro ys _ _ _;cases ys with
    |nil=>exact .inl ⟨rfl,rfl,rfl⟩
    |cons y ys=>exact .inr<|.inl ⟨by simp,rfl,rfl,cF.head _ _<|by decide⟩
   |cons x xs hi =>
    intro ys h1 h2 d;cases ys with
    |nil=>exact .inr<|.inr ⟨by simp,rfl,rfl,cF.head _ _<|by decide⟩
    |cons y ys =>
     rw[Mq,E4]at h1 h2;rw[yE]at d;have i:=Lj M n x y h1.1 h2.1;have j:=Lj M n y x h2.1 h1.1;rw[rq,rq];by_cases q:x=y;subst q;rw[o8<|i.mpr rfl]at d;rw[o8<|i.mpr rfl,o8<|i.mpr rfl];rcases hi ys h1.2 h2.2 d with⟨C,f,g⟩|⟨C,f,g,t⟩|⟨C,f,g,t⟩
     exact .inl ⟨by rw[C],f,g⟩;exact .inr<|.inl ⟨λz=>C (PH z).2,f,g,(t.pre<|A0 n x).cons 1⟩;exact .inr<|.inr ⟨λz=>C (PH z).2,f,g,(t.pre<|A0 n x).cons 1⟩;have k:¬u6 M n x y=a9:=λz=>q<|i.mp z;have o:¬u6 M n y x=a9:=λz=>q (j.mp z).symm;rw[p4 k]at d;rw[p4 k,p4 o];rcases m x y h1.1 h2.1 d with⟨C,_⟩|⟨C,f,g,t⟩|⟨C,f,g,t⟩
     exact p7 C q;exact .inr<|.inl ⟨λz=>q (PH z).1,f,g,(t.more _ _).cons 1⟩;exact .inr<|.inr ⟨λz=>q (PH z).1,f,g,(t.more _ _).cons 1⟩
  cases x with
  |int a=>cases y<;>simp[C8]at h2<;>first|exact base (n+1) _ _|simp[kb]at d
  |str a=>cases y<;>simp[C8]at h2<;>first|exact s (n+1) _ _|simp[kb]at d
  |tup xs =>
   cases y with
   |tup ys =>
    rcases l xs ys (by simpa [C8]using h1) (by simpa [C8]using h2) d with⟨C,f,g⟩|⟨C,f,g,t⟩|⟨C,f,g,t⟩
    exact .inl ⟨by rw[C],f,g⟩;exact .inr<|.inl ⟨λz=>C<|D.tup.inj z,f,g,t.cons 2⟩;exact .inr<|.inr ⟨λz=>C<|D.tup.inj z,f,g,t.cons 2⟩
   |_=>simp[kb]at d
  |_=>simp[C8]at h1
theorem qp(h1:C8 n x=a9)(h2:C8 n y=a9)(h:kb M n x y=a9):C9 M n x y=decide (A0 n x<A0 n y):=by
 rcases IP M n x y h1 h2 h with⟨C,a,b⟩|⟨C,a,b,t⟩|⟨C,a,b,t⟩
 subst C;rw[a,dF_<|Nc _];rw[a,dT_ t.lt];rw[a,dF_<|λz=>Nc _<|List.lt_trans z t.lt]
theorem Br(h1:C8 n x=a9)(h2:C8 n y=a9)(a:kb M n x y=a9)(e:A0 n x=A0 n y):x=y:=by
 rcases IP M n x y h1 h2 a with⟨C,_⟩|⟨_,_,_,t⟩|⟨_,_,_,t⟩
 exact C;have:=t.lt;rw[e]at this;exact p7 this<|Nc _;have:=t.lt;rw[e]at this;exact p7 this<|Nc _
end L2
namespace L2
open PySem PySem.Spec PyProof.Rows DL PySem.W
theorem t9.laidF(I:t9 X pins σ H s)(k:∀b u,b≠X.env.locals->s.heap.get? b=a7 u->h'.get? b=a7 u)(p:s.heap.Ns X.env.locals m)(h:h'.Ns X.env.locals m)(hp:s.heap.get? a=a8) (f:H a=a8) (j:bJ X.prog X.w (x3 H a o) h' a o):t9 X pins σ (x3 H a o) { s with heap:=h',toks:=t' }:=by
 have i:∀b u,s.heap.get? b=a7 u->b≠a:=λb u e z=>by subst z;rw[hp]at e;cases e
 refine I.step (g':=s.gens) (d':=s.drawn) (ch:=[]) (λ_ z=>nomatch z) (λb u L _ _ e _=>k b u L e) (λb u L _ _ e _=>⟨u.slots,k b u L e⟩) (λb u _ e n=>by rw[ax<|i b u e];exact n) (λb u _ e=>?_) (λb xs q=>by rw[ax<|ae q f];exact q) (λb u xs q=>by rw[ax<|ae q f];exact q) (λb ps q=>⟨#[],by rw[ax<|ae q f,q];simp⟩) (λt l=>?_) (λb w q=>?_) I.bare;by_cases d:b=X.env.locals;subst d;obtain⟨o',_,_,B,_⟩:=h;exact⟨o',B⟩;exact⟨u,k b u d e⟩;have:m=t:=funext λx=>p.agree l x;subst this;exact h;by_cases d:b=a;subst d;rw[aP]at q;cases q;exact j;rw[ax d]at q;refine(I.hok b w q).stay (λc v g r=>k c v ?_ r) (λc z=>by rw[ax<|ae z f];exact z) λc xs z=>by rw[ax<|ae z f];exact z
 rcases g with rfl|g;exact ae q I.free;exact ae g I.free
theorem t9.keptF(I:t9 X pins σ H s)(k:∀b u,b≠X.env.locals->s.heap.get? b=a7 u->h'.get? b=a7 u)(i:s.heap.Ns X.env.locals m)(a:h'.Ns X.env.locals m):t9 X pins σ H { s with heap:=h',toks:=t' }:=by refine I.step (g':=s.gens) (d':=s.drawn) (ch:=[]) (λ_ z=>nomatch z) (λb u h _ _ e _=>k b u h e) (λb u h _ _ e _=>⟨u.slots,k b u h e⟩) (λb u _ e n=>n) (λb u _ e=>?_) (λb xs q=>q) (λb u xs q=>q) (λb ps q=>⟨#[],by rw[q];simp⟩) (λj g=>?_) (λb w q=>?_) I.bare;by_cases d:b=X.env.locals;subst d;obtain⟨o',_,_,B,_⟩:=a;exact⟨o',B⟩;exact⟨u,k b u d e⟩;have:m=j:=funext λx=>i.agree g x;subst this;exact a;refine(I.hok b w q).stay (λc v f r=>k c v ?_ r) (λc z=>z) λc xs z=>z;rcases f with rfl|f;exact ae q I.free;exact ae f I.free
theorem sO{prog:c8}{w:c7}{A:e8}{E:b8->f6->Prop}{s:f6}{l:c9}{vs:List b8}{Q:b8->f6->Prop}(u:s.heap.IsList l vs.toArray)(h2:vs.length<2)(h:∀D h' n,s.heap.objs.size<=D->(∀b o,s.heap.get? b=a7 o->h'.get? b=a7 o)->h'.get? D=a7 { cls:=.type "list",data:=.seq vs.toArray n }->Q (.ref D) { s with heap:=h' }):f9 (g7 prog w) A (call (.builtin "sorted")<|[AB6 l]) Q E s:=by
 have f:vs.length<=sizeLine:=by rw[MH];lia
 refine Calls.call_function_entry kind_sorted plain_sorted entry_sorted (args_sorted1<|.ref l) ?_;unfold Builtin.«sorted»;refine t6 (m:=checkCount "sorted" 1 1 _)<|t8<|t6<|collect_list u (t6<|wpAny_newList ?_ f) f;generalize R:((s.heap.push<|n6 "list" #[] 0).update s.heap.objs.size (Mp (· ++ vs.toArray)))=g1;have z:g1.objs.size=s.heap.objs.size+1:=by rw[<-R,Heap.size_update,size_push']
 have C:∀b o,s.heap.get? b=a7 o->g1.get? b=a7 o:=λb o q=>by have d:=z6 q;rw[<-R,Qe _ _ _ _<|A4 d,Heap.get?_push_ne _ _ _<|A4 d];exact q
 show f9 _ _ _ _ _ { s with heap:=g1.push (n6 "list" vs.toArray 0) };have L:(g1.push<|n6 "list" vs.toArray 0).get? g1.objs.size=a7 (n6 "list" vs.toArray 0):=A8 _ rfl;refine t6<|E3<|F5 slot_list_sort (⟨_,L,rfl⟩) entry_list_sort ?body<|args_list_sort<|.ref _
 case body =>
  rw[list_sort_plain];refine t6<|listItems_at L rfl ?_;refine t6<|listUpdate_at L rfl ?_ (by rw[A5,MH];lia)<|B5 _;obtain⟨k,e⟩:∃k,((g1.push<|n6 "list" vs.toArray 0).update g1.objs.size<|Mp λ_=>(#[]:Array b8)).get? g1.objs.size=a7 (n6 "list" #[] k):=⟨_,QC L λ_=>#[]⟩
  refine t6<|seqEpoch_at e rfl<|t6<|wpAny_newTuple (t6<|wpAny_newList (E3 ?_)<|B5 _) f;dsimp only;have g:vs.toArray.size<2:=by rw[A5];exact h2
  rw[o8 g,o8 g];refine t6<|t8 ?_;rw[StateT.run_pure];refine t6<|t8 ?_;dsimp only;generalize c:(((g1.push<|n6 "list" vs.toArray 0).update g1.objs.size<|Mp λ_=>(#[]:Array b8)).push<|n6 "tuple" vs.toArray 0).push (n6 "list" #[] 0)=g3;have a:g3.get? g1.objs.size=a7 (n6 "list" #[] k):=by rw[<-c];exact x5 _<|x5 _ e
  have x:∀b o,b≠g1.objs.size->s.heap.get? b=a7 o->g3.get? b=a7 o:=λb o i q=>by have y:=C b o q;rw[<-c];refine x5 _<|x5 _ ?_;rw[Qe _ _ _ _ i];exact x5 _ y
  refine t6<|seqEpoch_at a rfl ?_;have r:∀us:List b8,us.length<2->(us.toArray.zip us.toArray).map (·.2)=us.toArray:=λus hu=>by
   match us,hu with
   | [],_=>simp
   | [v],_=>simp
   |_::_::_,hu=>simp at hu;lia
  have t:(arrOf<|SortSt.mk' general' (vs.toArray.zip vs.toArray) #[] 7 a8).map (·.2)=vs.toArray:=r vs h2;rw[t];refine t6 (listUpdate_at a rfl ?_ (B5 _)<|by rw[A5,MH];lia);simp only[show failedOf (SortSt.mk' general' (vs.toArray.zip vs.toArray) #[] 7 a8)=a8 from rfl,bne_self_eq_false,A7,r9];refine t8 ⟨_,rfl,t8 ⟨_,rfl,?_⟩⟩;obtain⟨j,p⟩:∃j,(g3.update g1.objs.size<|Mp λ_=>vs.toArray).get? g1.objs.size=a7 (n6 "list" vs.toArray j):=⟨_,QC a λ_=>vs.toArray⟩
  refine h g1.objs.size _ j (by lia) (λb o q=>?_) p;have i:b≠g1.objs.size:=A4 (by rw[z];exact OB<|z6 q);rw[Qe _ _ _ _ i];exact x b o i q
structure SrtOk(M:u8)(xs:List D):Prop where
 len:xs.length<64
 ok:∀x∈xs,C8 u9 x=a9
 cm:∀x∈xs,∀y∈xs,kb M u9 x y=a9
 kd:(∀x∈xs,∃z,x=.str z)\/(∀x∈xs,∃i,x=.int i)\/(∀x∈xs,∃z r,x=.tup (.str z::r))\/(∀x∈xs,∃i r,x=.tup (.int i::r))\/(∀x∈xs,∃z r,x=.tup (.tup z::r))
structure SrtG(M:u8)(xs:List D):Prop where
 len:xs.length<64
 okd:∀x∈xs,v9 M u9 x=a9
 cm:∀x∈xs,∀y∈xs,kb M u9 x y=a9
 kd:(∀x∈xs,∃z,x=.str z)\/(∀x∈xs,∃i,x=.int i)\/(∀x∈xs,∃z r,x=.tup (.str z::r))\/(∀x∈xs,∃i r,x=.tup (.int i::r))\/(∀x∈xs,∃z r,x=.tup (.tup z::r))
 od:∃en:D->List Int,∀a∈xs,∀b∈xs,C9 M u9 a b=decide (en a<en b)
theorem SrtOk.g(o:SrtOk M xs):SrtG M xs:=⟨o.len,λx h=>JR M _ _<|o.ok x h,o.cm,o.kd,A0 u9,λa f b d=>qp (o.ok a f) (o.ok b d)<|o.cm a f b d⟩
def Fb(M:u8)(ys:List D):Prop:=ys.Pairwise λa b=>C9 M u9 b a=b7
def jM:C6:=λds M Q=>match ds with
 | [.ref n]=>∃xs,am M n xs/\SrtG M xs/\∀ys,ys.Perm xs->Fb M ys->Q (.ref M.length) (M++[.lst ys])
 |_=>False
theorem Reps.perm{K:v4}{ρ:List c9}{H:Hp}{ds:List D}{vs:List V}(r:Reps K ρ H ds vs)(is:List Nat)(hi:∀i∈is,i<ds.length):Reps K ρ H (is.map λi=>ds.getD i .non) (is.map λi=>vs.getD i .non):=by
 induction is with
 |nil=>exact .nil
 |cons i is a=>have h:=hi i D3;obtain⟨v,e,d⟩:=r.get<|x9 h;refine .cons ?_<|a λj L=>hi j<|C4 _ L;show u5 K ρ H (ds.getD i .non) (vs.getD i .non);rw[K6,K6,e,x9 h];exact d
theorem aw.perm(r:aw vs us)(is:List Nat)(hi:∀i∈is,i<vs.length):aw (is.map λi=>vs.getD i .non) (is.map λi=>us.getD i .none):=by
 induction is with
 |nil=>exact .nil
 |cons i is a=>have h:=hi i D3;obtain⟨v,e,d⟩:=jb r<|x9 h;refine .cons ?_<|a λj L=>hi j<|C4 _ L;show aL (vs.getD i .non) (us.getD i .none);rw[K6,K6,e,x9 h];exact d
instance:Inhabited D:=⟨.non⟩
theorem GJ(o:HO)(x:bJ P w H h a o):∃u,h.get? a=a7 u:=by
 cases o with
 |lst _=>obtain⟨_,_,_,_,e⟩:=x;exact⟨_,e⟩
 |tup _=>obtain⟨_,_,_,o,e,_⟩:=x;exact⟨o,e⟩
 |dK _=>obtain⟨_,_,_,_,_,_,_,e,_⟩:=x;exact⟨_,e⟩
 |dT _=>obtain⟨_,_,_,_,o,_,_,e,_⟩:=x;exact⟨o,e⟩
 |set _ _=>obtain⟨o,_,_,_,e,_⟩:=x;exact⟨_,e⟩
 |ins _ _ _=>obtain⟨_,_,_,e,_⟩:=x;exact⟨_,e⟩
 |own _=>exact x
 |xd _=>obtain⟨_,⟨_,_,_,e,_⟩,_⟩:=x;exact⟨_,e⟩
 |rng _ _=>obtain⟨_,_,_,e⟩:=x;exact⟨_,e⟩
 |frz _ _=>obtain⟨e,_⟩:=x;exact⟨_,e⟩
 |tbl _=>exact⟨_,x⟩
 |met _ _=>exact⟨_,x⟩
 |ext _=>obtain⟨_,e,_⟩:=x;exact e
theorem D8.none(x:D8 P w H h)(e:h.get? a=a8):H a=a8:=by
 cases q:H a with
 |none=>rfl
 |some o=>exfalso;obtain⟨u,g⟩:=GJ o<|x a o q;rw[e]at g;cases g
theorem GN(I:t9 X pins σ H s)(m:w4 X.K ρ M H)(n:Nat)(A:e8)(u:A.units+n<j6):∀(ds es:List D) (vs ws:List V) (its jts:List b8),Reps X.K ρ H ds vs->aw vs its->Reps X.K ρ H es ws->aw ws jts->ds.all (v9 M n)=a9->es.all (v9 M n)=a9 ->yE (u6 M n) (kb M n) ds es=a9->LexAt A s its jts (rq (u6 M n) (C9 M n) ds es):=by
 intro ds;induction ds with
 |nil =>
  intro es vs ws its jts g c p j _ _ _;cases g;cases c;cases p with
  |nil=>cases j;exact .nn
  |cons _ _=>cases j;exact .nc
 |cons d ds hi =>
  intro es vs ws its jts g c p j C B k;cases g with
  |cons a g =>
   cases c with
   |cons f c =>
    cases p with
    |nil=>cases j;exact .cn
    |@cons e _ o _ b p =>
     cases j with
     |cons l j=>rw[Mq,E4]at C B;have i:=(kH I m n A d _ _ _ _ _ u a f b l C.1 B.1).1;rw[rq];rw[yE]at k;by_cases q:u6 M n d e=a9;rw[q]at i;rw[o8 q]at k ⊢;exact .eq i<|hi _ _ _ _ _ g c p j C.2 B.2 k;have h:=NF.mpr q;rw[h]at i;rw[p4 q]at k ⊢;exact .ne i<|Fp I m n A _ _ _ _ _ _ u a f b l C.1 B.1 k
theorem DU(h:LexAt A s its jts k):∀(i:Nat),(b&&i==0)=b7->(b&&i+1==0)=b7->Q k s->KatLex prog w A b (decide<|its.length<jts.length) Q (its.zip jts) i s:=by
 have n:∀i:Nat,(b&&i+1==0)=b7:=λi=>by cases b<;>simp
 induction h with
 |nn=>intro i _ _ q;exact q
 |nc=>intro i _ _ q;exact(show Q (decide<|0<_+1) s by rw[dT_<|Nat.succ_pos _];exact q)
 |cn=>intro i _ _ q;exact(show Q (decide<|_+1<0) s by rw[dF_<|ND _];exact q)
 |@eq x y xs ys k e t a=>intro i d _ q;refine kat_cons<|e prog w _ _<|kat_yes ?_;have:=a (i+1) (n i) (n<|i+1) q;rw[show decide ((x::xs).length<(y::ys).length)=decide (xs.length<ys.length) by simp];exact this
 |@ne x y xs ys k e t=>intro i d _ q;refine kat_cons<|e prog w _ _<|kat_no ?_;rw[d];exact kat_one _ _<|t prog w _ _ q
theorem AL(i:MG A s p q e)(g:e=b7->∀Q':Bool->f6->Prop,Q' l s->f9 (g7 prog w) A (oneLt' (b&&0==0) p q) Q' (λ_ _=>False) s)(D:e=a9->LexAt A s its jts k)(h:Q (if e=a9 then k else l) s):KatLex prog w A b (decide<|(p::its).length<(q::jts).length) Q ((p::its).zip<|q::jts) 0 s:=by
 refine kat_cons<|i prog w _ _ ?_;cases e with
 |true=>refine kat_yes ?_;rw[show decide ((p::its).length<(q::jts).length)=decide (its.length<jts.length) by simp];exact DU (D rfl) 1 (by cases b<;>rfl) (by cases b<;>rfl) h
 |false=>exact kat_no<|g rfl _ h
section
variable{X:Cx}{pins:List (c9×d5)}{σ:St}{H:Hp}{s:f6}{ρ:List c9}{M:u8}
theorem tL{M:Model}{h:d6}{x:b9}{t:Tok}:Looks M h (l8<|.str x t) (.type "str"):=Looks.of_pure rfl
theorem tM{M:Model}{h:d6}{x:Int}{t:Tok}:Looks M h (l8<|.int x t) (.type "int"):=Looks.of_pure rfl
theorem Reps.getD'(r:Reps X.K ρ H ds vs)(f:aw vs its)(h:i<ds.length):∃v,u5 X.K ρ H (ds.getD i default) v/\aL v (its.getD i .none)/\ds.getD i default∈ds:=by obtain⟨v,e,d⟩:=r.get<|x9 h;obtain⟨u,a,T⟩:=jb f e;refine⟨v,?_,?_,?_⟩;rw[K6,x9 h];exact d;rw[K6,a];exact T;rw[K6,x9 h];exact MV h
theorem Reps.mem(r:Reps X.K ρ H ds vs)(f:aw vs its)(h:u∈its):∃d v,d∈ds/\u5 X.K ρ H d v/\aL v u:=by
 induction ds generalizing vs its with
 |nil=>cases r;cases f;cases h
 |cons g ds i =>
  cases r with
  |cons e r =>
   cases f with
   |cons c q=>rcases(A1 (a:=u)).mp h with rfl|h;exact⟨_,_,D3,e,c⟩;obtain⟨d,v,h1,h2,b⟩:=i r q h;exact⟨d,v,C4 _ h1,h2,b⟩
theorem vG(I:t9 X pins σ H s)(r:Reps X.K ρ H xs ws)(b:aw ws its)(a:∀x∈xs,∃f r,x=.tup (f::r)):∃fs,KatTups s.heap its fs/\fs.length=its.length/\∀u∈fs,∃d v,u5 X.K ρ H d v/\aL v u/\∃r,D.tup (d::r)∈xs:=by
 induction xs generalizing ws its with
 |nil=>cases r;cases b;exact⟨[],.nil,rfl,λ_ z=>nomatch z⟩
 |cons d ds w =>
  cases r with
  |cons E r =>
   cases b with
   |cons A q =>
    obtain⟨fs,h1,h2,j⟩:=w r q λx h=>a x<|C4 _ h;obtain⟨f,aM,rfl⟩:=a d D3;cases E with
    |tup p c =>
     cases A;obtain⟨its,e,y,F⟩:=I.tuple p;cases c with
     |cons C c =>
      cases e with
      |cons i e=>obtain⟨o,B,k,n,m⟩:=y;refine⟨_::fs,.cons B k m rfl h1,by simp[h2],λu g=>?_⟩;rcases A1.mp g with rfl|g;exact⟨_,_,C,i,_,D3⟩;obtain⟨d,v,t,l,r',Q⟩:=j u g;exact⟨d,v,t,l,r',C4 _ Q⟩
noncomputable def ltc(M:u8)(xs:List D)(i j:Nat):Bool:=C9 M u9 (xs.getD i default)<|xs.getD j default
theorem sP(I:t9 X pins σ H s)(sm:w4 X.K ρ M H){xs:List D}{ws:List V}{its:List b8}(so:SrtG M xs)(r:Reps X.K ρ H xs ws)(J:aw ws its)(h2:2<=its.length){A:e8}(P:A.units+u9<j6):f9 (g7 X.prog X.w) A (keyKind' its.toArray) (λκ s'=>s'=s/\∀i j (C:Bool->f6->Prop),i<its.length->j<its.length->C (ltc M xs i j) s->kas_ask X.prog X.w A κ its i j C s) (λ_ _=>False) s:=by
 have lw:=r.length;have li:=J.length;have le:xs.length=its.length:=by lia
 have O:∀(b:Bool),(∀x∈xs,∃f r,x=.tup (f::r))->(∀(f g:D) (vf vg:V) (p q:b8) (r r':List D),D.tup (f::r)∈xs->D.tup (g::r')∈xs->u5 X.K ρ H f vf->aL vf p->u5 X.K ρ H g vg->aL vg q -> (u6 M 29 f g=b7->∀Q':Bool->f6->Prop,Q' (C9 M 29 f g) s->f9 (g7 X.prog X.w) A (oneLt' (b&&0==0) p q) Q' (λ_ _=>False) s)) -> ∀i j (C:Bool->f6->Prop),i<its.length->j<its.length->C (ltc M xs i j) s->kas_ask X.prog X.w A (tuples' b) its i j C s:=by
  intro b F ai i j C hi hj E;unfold kas_ask;obtain⟨v1,c,m,U⟩:=r.getD' J (show i<xs.length by lia);obtain⟨v2,G,L,B⟩:=r.getD' J (show j<xs.length by lia);unfold ltc at E;have k1:=so.okd _ U;have k2:=so.okd _ B;have k3:=so.cm _ U _ B;generalize xs.getD i default=x at *;generalize xs.getD j default=y at *;obtain⟨f,rf,rfl⟩:=F _ U;obtain⟨g,rg,rfl⟩:=F _ B;cases c with
  |tup S rs =>
   cases G with
   |tup be Z =>
    generalize its.getD i .none=u1 at *;generalize its.getD j .none=u2 at *;cases m;cases L;obtain⟨as,ra,pa,_⟩:=I.tuple S;obtain⟨bs,rb,pb,_⟩:=I.tuple be;obtain⟨o,ho,_,n,hd⟩:=pa;obtain⟨o',aS,_,n',aD⟩:=pb;refine kat_lt ho hd aS aD ?_;cases rs with
    |cons a1 rs =>
     cases ra with
     |@cons _ p _ la b1 ra =>
      cases Z with
      |cons a2 Z =>
       cases rb with
       |@cons _ q _ lb b2 rb =>
        have aj:A.units+29<j6:=by have:u9=30:=rfl;lia
        have z1:v9 M 29 f=a9/\rf.all (v9 M 29)=a9:=by
         have:(f::rf).all (v9 M 29)=a9:=k1
         rwa [Mq,E4]at this
        have z2:v9 M 29 g=a9/\rg.all (v9 M 29)=a9:=by
         have:(g::rg).all (v9 M 29)=a9:=k2
         rwa [Mq,E4]at this
        have z3:(if u6 M 29 f g=a9 then yE (u6 M 29) (kb M 29) rf rg else kb M 29 f g)=a9:=k3;have he:=(kH I sm 29 A _ _ _ _ _ _ aj a1 b1 a2 b2 z1.1 z2.1).1;have R:C (if u6 M 29 f g=a9 then rq (u6 M 29) (C9 M 29) rf rg else C9 M 29 f g) s:=E;cases W:u6 M 29 f g with
        |true=>rw[W]at he R z3;have:=AL (prog:=X.prog) (w:=X.w) (b:=b) (Q:=C) (l:=a9) he (λz=>nomatch z) (λ_=>GN I sm 29 A aj _ _ _ _ _ _ rs ra Z rb z1.2 z2.2 z3) R;simpa using this
        |false=>rw[W]at he R;have:=AL (prog:=X.prog) (w:=X.w) (b:=b) (Q:=C) (l:=C9 M 29 f g) (its:=la) (jts:=lb) (k:=a9) he (λ_=>ai f g _ _ _ _ _ _ U B a1 b1 a2 b2 W) (λz=>nomatch z) R;simpa using this
 have N:∀(κ:SortKind),(∀i j (C:Bool->f6->Prop),i<its.length->j<its.length->C (ltc M xs i j) s->kas_ask X.prog X.w A κ its i j C s)->(s=s/\∀i j (C:Bool->f6->Prop),i<its.length->j<its.length->C (ltc M xs i j) s->kas_ask X.prog X.w A κ its i j C s):=λκ h=>⟨rfl,h⟩
 have an:A.units+29<j6:=by have:u9=30:=rfl;lia
 rcases so.kd with a|a|a|a|a;refine kas_kind (T:=.type "str") h2 (λu P=>?_) (by decide) (by decide)<|N _ λi j C hi hj E=>?_;obtain⟨d,v,U,c,m⟩:=r.mem J P;obtain⟨z,rfl⟩:=a d U;cases c;obtain⟨t,rfl⟩:=m;exact tL;unfold kas_ask;obtain⟨v1,c,m,U⟩:=r.getD' J (show i<xs.length by lia);obtain⟨v2,G,L,B⟩:=r.getD' J (show j<xs.length by lia);unfold ltc at E;obtain⟨z,hz⟩:=a _ U;obtain⟨z',Y⟩:=a _ B;rw[hz]at c E;rw[Y]at G E;cases c;cases G;obtain⟨t,h1⟩:=m;obtain⟨t',h2⟩:=L;rw[h1,h2];exact kas_lt_str E;refine kas_kind (T:=.type "int") h2 (λu P=>?_) (by decide) (by decide)<|N _ λi j C hi hj E=>?_;obtain⟨d,v,U,c,m⟩:=r.mem J P;obtain⟨z,rfl⟩:=a d U;cases c;obtain⟨t,rfl⟩:=m;exact tM;unfold kas_ask;obtain⟨v1,c,m,U⟩:=r.getD' J (show i<xs.length by lia);obtain⟨v2,G,L,B⟩:=r.getD' J (show j<xs.length by lia);unfold ltc at E;obtain⟨z,hz⟩:=a _ U;obtain⟨z',Y⟩:=a _ B;rw[hz]at c E;rw[Y]at G E;cases c;cases G;obtain⟨t,h1⟩:=m;obtain⟨t',h2⟩:=L;rw[h1,h2];exact kat_lt_int E;obtain⟨fs,t1,t2,t3⟩:=vG I r J λx F=>(a x F).elim λz ⟨r,e⟩=>⟨_,_,e⟩
 refine kat_kind (T:=.type "str") t1 (by lia) (λu P=>?_) (by decide)<|N _<|O _ (λx F=>(a x F).elim λz ⟨r,e⟩=>⟨_,_,e⟩) λf g vf vg p q r r' U B c m G L S Q' h=>?_;obtain⟨d,v,c,m,r',U⟩:=t3 u P;obtain⟨z,al,e⟩:=a _ U;cases e;cases c;obtain⟨t,rfl⟩:=m;exact tL;obtain⟨z,_,e⟩:=a _ U;cases e;obtain⟨z',_,e'⟩:=a _ B;cases e';cases c;cases G;obtain⟨t,rfl⟩:=m;obtain⟨t',rfl⟩:=L;exact oneLt_str h;obtain⟨fs,t1,t2,t3⟩:=vG I r J λx F=>(a x F).elim λz ⟨r,e⟩=>⟨_,_,e⟩
 refine kat_kind (T:=.type "int") t1 (by lia) (λu P=>?_) (by decide)<|N _<|O _ (λx F=>(a x F).elim λz ⟨r,e⟩=>⟨_,_,e⟩) λf g vf vg p q r r' U B c m G L S Q' h=>?_;obtain⟨d,v,c,m,r',U⟩:=t3 u P;obtain⟨z,al,e⟩:=a _ U;cases e;cases c;obtain⟨t,rfl⟩:=m;exact tM;obtain⟨z,_,e⟩:=a _ U;cases e;obtain⟨z',_,e'⟩:=a _ B;cases e';cases c;cases G;obtain⟨t,rfl⟩:=m;obtain⟨t',rfl⟩:=L;exact oneLt_int h;obtain⟨fs,t1,t2,t3⟩:=vG I r J λx F=>(a x F).elim λz ⟨r,e⟩=>⟨_,_,e⟩
 refine kat_kind (T:=.type "tuple") t1 (by lia) (λu P=>?_) (by decide)<|N _<|O _ (λx F=>(a x F).elim λz ⟨r,e⟩=>⟨_,_,e⟩) λf g vf vg p q r r' U B c m G L S Q' h=>?_;obtain⟨d,v,c,m,r',U⟩:=t3 u P;obtain⟨z,al,e⟩:=a _ U;cases e;cases c with
 |tup S rs=>cases m;obtain⟨_,_,pl,_⟩:=I.tuple S;obtain⟨o,ho,E,_⟩:=pl;rw[<-E];exact(show Looks _ s.heap (l8<|.ref _) o.cls from(Looks.ld ho).andThen .now)
 have k1:v9 M 29 f=a9:=by have:(f::r).all (v9 M 29)=a9:=so.okd _ U;rw[Mq,E4]at this;exact this.1
 have k2:v9 M 29 g=a9:=by have:(g::r').all (v9 M 29)=a9:=so.okd _ B;rw[Mq,E4]at this;exact this.1
 have k3:(if u6 M 29 f g=a9 then yE (u6 M 29) (kb M 29) r r' else kb M 29 f g)=a9:=so.cm _ U _ B;rw[S]at k3;exact kat_one _ _<|Fp I sm 29 A _ _ _ _ _ _ an c m G L k1 k2 k3 _ _ _ _ h
end
theorem JH(o:SrtG M xs):(∀a∈xs,C9 M u9 a a=b7)/\(∀a∈xs,∀b∈xs,∀d∈xs,C9 M u9 a b=a9->C9 M u9 b d=a9->C9 M u9 a d=a9)/\∀a∈xs,∀b∈xs,∀d∈xs,C9 M u9 a d=a9->C9 M u9 a b=a9\/C9 M u9 b d=a9:=by obtain⟨n,e⟩:=o.od;refine⟨λa f=>?_,λa f b c d g h1 h2=>?_,λa f b c d g h=>?_⟩;rw[e a f a f,dF_<|Nc _];rw[e a f b c,p8]at h1;rw[e b c d g,p8]at h2;rw[e a f d g,p8];exact List.lt_trans h1 h2;rw[e a f d g,p8]at h;rw[e a f b c,e b c d g,p8,p8];by_cases z:n a<n b;exact .inl z;have G:n b<=n a:=z;exact .inr<|List.lt_of_le_of_lt G h
theorem CH{k:Nat}{l:c9}{xs:List D}{F:List V}{its:List b8}{R:VK}(hr:Room k X.A)(I:t9 X pins σ H s)(sm:w4 X.K ρ M H)(so:SrtG M xs)(r:Reps X.K ρ H xs F)(P:aw F its)(Z:s.heap.IsList l its.toArray)(hz:F.length<=sizeLine)(h2:2<=its.length)(G:its.length<64)(E:l≠X.env.locals) (kk:∀v H',((∀Q:DK,(∀ys,ys.Perm xs->Fb M ys->Q (.ref M.length) (M++[.lst ys]))->VQ X.K ρ H Q v H'))->R v H'):f9 (g7 X.prog X.w) X.A (call (.builtin "sorted") [.ref l]) (EP X pins σ R) X.xe s:=by
 obtain⟨m,O,hm⟩:=I.loc;have lw:=r.length;have li:=P.length;obtain⟨ol,f,_⟩:=id Z;have g:∀a o,(a,o)∈[]++(l,ol)::Att.ledger s.heap X.env.locals l↔a≠X.env.locals/\s.heap.get? a=a7 o:=λa o=>by rw[H9,A1,Att.mem_ledger];constructor;rintro(h|⟨h1,_,h3⟩);cases h;exact⟨E,f⟩;exact⟨h1,h3⟩;rintro⟨h1,h2⟩;by_cases z:a=l;subst z;rw[f]at h2;cases h2;exact .inl rfl;exact .inr ⟨h1,z,h2⟩
 refine kat_sorted (Att.fr_all O) (Att.news_ledger E f) Z h2 G λD e1 h' T N lt=>?_;have kp:∀b u,b≠X.env.locals->s.heap.get? b=a7 u->h'.get? b=a7 u:=λb u J e=>(N (b,u)<|C4 _<|(g b u).mpr ⟨J,e⟩).1;have L:D≠X.env.locals:=(N _ D3).2.1;have W:s.heap.get? D=a8:=by
  cases q:s.heap.get? D with
  |none=>rfl
  |some o=>exact p7 (lt (D,o)<|(g D o).mpr ⟨L,q⟩)<|G0 _
 have I':t9 X pins σ H { s with heap:=h' }:=I.keptF (t':=s.toks) kp O T.ns;have hu:X.A.in1.in1.units+u9<j6:=by have:=hr.un;have:u9=30:=rfl;show X.A.units+1+1+u9<j6;lia
 refine L0 (sP I' sm so r P h2 hu) (λκ s' hk=>?_) λ_ _ x=>x;obtain⟨rfl,B⟩:=hk;refine Srt.wp_run (n:=its.length) (c:=λi j=>if i<xs.length then(if j<xs.length then C9 M u9 (xs.getD i default) (xs.getD j default)else a9)else b7) (λi j C hi hj Y=>?_) _ (Srt.sort_bd<|by lia).1 ?_;refine B i j C hi hj ?_;rw[o8 (by lia),o8<|by lia]at Y;exact Y;have t:=Srt.All.run (c:=λi j=>if i<xs.length then(if j<xs.length then C9 M u9 (xs.getD i default) (xs.getD j default)else a9)else b7) _ (Srt.sort_bd (n:=its.length)<|by lia).2;obtain⟨o1,o2,o3⟩:=JH so;have d:=Srt.sort_list xs (by lia) o1 o2 o3
 try dsimp only at d
 rw[show xs.length=its.length by lia]at d t ⊢;generalize Srt.run _ (NJ its.length)=p at t d ⊢;have hi:∀i∈p.toList,i<xs.length:=λi h=>by have:=t.mem_iff.mp h;rw[I0]at this;lia
 refine KasFin.intro T N (UpdF.head λq hq=>A4<|lt q hq) λh2 c F2 U=>?_;have r':=r.perm p.toList hi;have S:=P.perm p.toList (λi h=>by have:=hi i h;lia);have y:H D=a8:=D8.none I.hok W;refine⟨.ref D,_,I.laidF (t':=s.toks) (o:=.lst<|p.toList.map λi=>F.getD i .non) (λb u J e=>(U (b,u)<|C4 _<|(g b u).mpr ⟨J,e⟩).1) O F2.ns W y ⟨?_,_,c,S,(U _ D3).1⟩,rfl,kk _ _ λQ hQ=>VQ.laidL sm .refl r' y<|hQ _ d.1 d.2⟩;rw[v7];have:=d.1.length_eq;rw[v7]at this;lia
theorem t9.sqL_ne(I:t9 X pins σ H s)(h:F7 X.K H a xs):a≠X.env.locals:=by
 rcases h with h|⟨o,its,n,k,_⟩
 rcases h with h|⟨_,h⟩
 exact ae h I.free;exact ae h I.free;have:=z6<|I.mod.kin a o k;exact A4<|K0 this<|F4 I.ok.bsz I.ok.above
theorem BJ(i:Room k X.A):iW X (.builtin "sorted") jM:=by
 rintro p s σ H vs us R I j ⟨ds,M,ρ,Q,m,rs,q,c⟩;unfold jM at q;split at q;obtain⟨xs,L,d,q⟩:=q;cases rs with
 |cons r1 rs =>
  cases rs;obtain⟨u,rfl,t⟩:=aw.one j;cases r1 with
  |ref e =>
   cases t;obtain⟨w,b,r⟩:=am.seq m L e;obtain⟨its,f,l,z⟩:=I.list b;have C:=r.length;have y:=f.length;by_cases h2:its.length<2;refine sO l.isList h2 λD h' n a g B=>?_;refine⟨.ref D,_,I.laid (t':=s.toks) (o:=.lst w) g a ⟨z,its,n,f,B⟩,rfl,c _ _<|VQ.laidL m .refl r (I.hok.fresh a)<|q xs (O0 _) ?_⟩;unfold Fb
   match xs,(show xs.length<2 by lia) with
   | [],_=>exact QP
   | [x],_=>exact Q2 _ _
   |_::_::_,hx=>simp at hx;lia
   have h:2<=its.length:=by lia
   have G:its.length<64:=by have:=d.len;lia
   exact CH i I m d r f l.isList z h G (I.sqL_ne b) λv H' x=>c v H'<|x Q q
 exact q.elim
theorem tF(h:s.heap.IsTupleIter it t i)(D:s.heap.IsTuple t items)(a:items[i]?=a7 x)(b:∀h',h'.IsTupleIter it t (i+1)->G9 it s.heap h'->Q x { s with heap:=h' }):f9 (g7 prog w) A (Oe<|.ref it) Q E s:=by obtain⟨o,B,c,d⟩:=id h;obtain⟨e,f,_,n,l⟩:=D;unfold Oe;refine t6<|Mo (name:=u4 "__next__") h.typeIs F.slot_tuple_iterator_next<|F5 F.slot_tuple_iterator_next h.typeIs F.entry_tuple_iterator_next ?_<|F.args_tuple_iterator_next_1<|.ref it;refine(show f9 (g7 prog w) _ (field (.ref it) 0 >>= _) _ _ s from t6<|J2 B d (x:=.ref t) rfl ?_);refine(show f9 (g7 prog w) _ (if (AB6 t==ABN)=a9 then _ else field (.ref it) 1 >>= _) _ _ s from ?_);rw[p4<|show ¬(AB6 t==ABN)=a9 from MA];refine t6<|J2 B d (x:=.int i 0) rfl<|show f9 (g7 prog w) _ (seqItems? (.ref t) >>= _) _ _ s from t6<|Mt f l ?_;simp only[J4,a];refine t6<|MU B d (by simp)<|t8 ⟨x,rfl,t8<|b _ ⟨_,L4 _ B<|RH<|O6 d _,(Obj.cls_mapFields ..).trans c,?_⟩<|L3 ..⟩;rw[O6 d];simp[j1]
theorem kO(b:A.handled=a8)(h:s.heap.IsTupleIter it t i)(D:s.heap.IsTuple t items)(g:items[i]?=a8)(c:∀h' e,Pz it s.heap h'->(∃o,h'.get? e=a7 o/\o.cls=.type "StopIteration")->E (.ref e) { s with heap:=h' }):f9 (g7 prog w) A (Oe<|.ref it) Q E s:=by
 obtain⟨o,B,j,d⟩:=id h;obtain⟨k,f,_,n,l⟩:=D;unfold Oe;refine t6<|Mo (name:=u4 "__next__") h.typeIs F.slot_tuple_iterator_next<|F5 F.slot_tuple_iterator_next h.typeIs F.entry_tuple_iterator_next ?_<|F.args_tuple_iterator_next_1<|.ref it;refine(show f9 (g7 prog w) _ (field (.ref it) 0 >>= _) _ _ s from t6<|J2 B d (x:=.ref t) rfl ?_);refine(show f9 (g7 prog w) _ (if (AB6 t==ABN)=a9 then _ else field (.ref it) 1 >>= _) _ _ s from ?_);rw[p4<|show ¬(AB6 t==ABN)=a9 from MA];refine t6<|J2 B d (x:=.int i 0) rfl<|show f9 (g7 prog w) _ (seqItems? (.ref t) >>= _) _ _ s from t6<|Mt f l ?_;simp only[J4,g];refine t6<|F9<|t6<|MU B d (by simp)<|show f9 (g7 prog w) _ (newExc (.type "StopIteration") [] >>= _) _ _ _ from t6 ?_;simp only[newExc,newTuple];refine t6 (G4 (t6 (m:=n9 _ _)<|OR (a:=ABN) (by first|rfl|(simp only[n9];rfl))<|G4 ?_<|by size_fits)<|by size_fits);simp only[raiseNew];refine t6<|PF ?_
 first|rw[show A.in1.handled=a8 from b]|rw[b]
 exact t6<|t8<|wpAny_throw<|c _ _ (((L3 ..).extBut.push _).push _)<|⟨_,A8 _ rfl,rfl⟩
theorem vM(g:A.handled=a8)(it t:c9)(c:t≠it)(a:Array b8):Draws prog w A it [it,t] a.size (λi v=>a[i]?=a7 v) (λi h=>h.IsTupleIter it t i/\h.IsTuple t a) where
 live:=λ_ _ ⟨⟨o,B,_⟩,_⟩=>⟨o,B⟩
 frame:=λ_ _ _ ⟨h1,o,e,r⟩ k=>⟨h1.at λo e=>k it (D3) o e,o,k t (by simp) o e,r⟩
 item:=λi s Q E hi ⟨h1,h2⟩ f=>by refine tF h1 h2 (x:=a[i]) (G6 hi) λh' b u=>f _ h' s.toks (G6 hi) ⟨b,?_⟩ u;obtain⟨o,e,r⟩:=h2;exact⟨o,u.extBut _ _ c e,r⟩
 done:=λs Q E ⟨h1,h2⟩ d=>kO g h1 h2 (OF<|v6 _) d
structure ZA(z TI TO i1 i2:c9)(f1 f2:List c9):Prop where
 nd:[z,TI,TO,i1,i2].Nodup
 z1:z∉f1
 o1:TO∉f1
 y1:i2∉f1
 z2:z∉f2
 o2:TO∉f2
 x2:i1∉f2
theorem eN{prog:c8}{w:c7}{A:e8}{it c:c9}{fp:List c9}{n k:Nat}{P:Nat->b8->Prop}{St:Nat->d6->Prop}{h h':d6}(D:Draws prog w A it fp n P St)(f:c∉fp)(hs:Pz c h h')(st:St k h):St k h':=D.frame k h h' st λb d o e=>hs b o (λq=>f<|q ▸ d) e
section
variable{prog:c8}{w:c7}{A:e8}{E:b8->f6->Prop}{s:f6}{z TI TO i1 i2:c9}{f1 f2:List c9}{n1 n2 k:Nat}{P1 P2:Nat->b8->Prop}{S1 S2:Nat->d6->Prop}{a b:b8}
theorem Cg{Q:b8->f6->Prop}(D:Draws prog w A i1 f1 n1 P1 S1)(p:Draws prog w A i2 f2 n2 P2 S2)(Z:ZA z TI TO i1 i2 f1 f2)(hz:IsZip s.heap z TI TO .none)(I:o0 s.heap TI (.ref i1) (.ref i2))(J:o0 s.heap TO a b)(L:S1 k s.heap) (S:S2 k s.heap) (l1:k<n1) (l2:k<n2)(hQ:∀h' tk x y T,P1 k x->P2 k y->s.heap.objs.size<=T->IsZip h' z TI TO (j1 T)->o0 h' TO x y->S1 (k+1) h'->S2 (k+1) h'->o0 h' T x y->(∀c o,c≠z->c≠TO->c≠i1->c≠i2->s.heap.get? c=a7 o->h'.get? c=a7 o)->Q (.ref T) { s with heap:=h',toks:=tk }):f9 (g7 prog w) A (Builtin.«zip.__next__» ⟨[.ref z],[]⟩) (λfin s'=>∃v,fin=.done (.ret v)/\Q v s') E s:=by
 have X:=Z.nd;simp only[J7,A1,ML,or_false,not_or]at X;obtain⟨⟨aj,O,P,R⟩,⟨U,V,W⟩,⟨r,t⟩,ai,_⟩:=X;refine(show f9 (g7 prog w) A (field (.ref z) 2 >>= _) _ _ _ from t6<|J2 hz rfl (x:=.bool b7) rfl ?_);refine(show f9 (g7 prog w) A (field (.ref z) 3 >>= _) _ _ _ from t6<|J2 hz rfl (x:=.ref TI) rfl<|t6<|Mt I rfl ?_);refine(show f9 (g7 prog w) A (Rm (.ref z) >>= _) _ _ _ from t6 ?_);unfold Rm;refine t6<|J2 hz rfl (x:=ABN) rfl<|t8 ?_;simp only[s9];refine t6<|F9<|t6<|J2 hz rfl (x:=.ref TO) rfl<|t6<|Nh hz (by simp) λh₁ (hz₁:IsZip h₁ z TI TO .ellipsis) hs₁=>t6 ?_;simp only[List.zipIdx_cons,List.zipIdx_nil,QE,List.forIn_nil];refine t6<|t6<|wpAny_onRaise<|show f9 (g7 prog w) A (Oe (.ref i1) >>= _) _ _ _ from t6 ?_;refine D.item k _ _ _ l1 (eN D Z.z1 hs₁.extBut L) λx u M px m h=>t8 ?_;have f:o0 u TO a b:=h.extBut _ _ r<|hs₁.extBut _ _ (z9 O) J;refine t6<|Mt f rfl<|t6<|wpAny_updateSeq_pair f λh₃ (hTO₃:o0 h₃ TO x b) hs₃=>t6<|wpAny_letGo<|t8 ?_;refine t6<|t6<|wpAny_onRaise<|show f9 (g7 prog w) A (Oe (.ref i2) >>= _) _ _ _ from t6 ?_;refine p.item k _ _ _ l2 (eN p Z.o2 hs₃.extBut<|eN p Z.x2 h.extBut<|eN p Z.z2 hs₁.extBut S) λy B N py n d=>t8 ?_;have g:o0 B TO x b:=d.extBut _ _ t hTO₃;refine t6<|Mt g rfl<|t6<|wpAny_updateSeq_pair g λh₅ (hTO₅:o0 h₅ TO x y) hs₅=>t6<|wpAny_letGo<|t8<|t8 ?_;refine t6<|Mt hTO₅ rfl<|t6<|wpAny_newTuple ?_;have i:IsZip h₅ z TI TO .ellipsis:=hs₅.extBut _ _ O<|d.extBut _ _ R<|hs₃.extBut _ _ O<|h.extBut _ _ P hz₁;have kp:∀c o,c≠z->c≠TO->c≠i1->c≠i2->s.heap.get? c=a7 o->h₅.get? c=a7 o:=λc o j C G H e=>hs₅.extBut _ _ C<|d.extBut _ _ H<|hs₃.extBut _ _ C<|h.extBut _ _ G<|hs₁.extBut _ _ j e;have sz:h₅.objs.size=s.heap.objs.size:=by rw[hs₅.1,d.1,hs₃.1,h.1];exact hs₁.1
 have t1:=eN D Z.o1 hs₅.extBut<|eN D Z.y1 d.extBut<|eN D Z.o1 hs₃.extBut m;have t2:=eN p Z.o2 hs₅.extBut n;refine(show f9 (g7 prog w) A (Sm (.ref z) (.ref h₅.objs.size) >>= _) _ _ _ from t6 ?_);unfold Sm;have l:IsZip (h₅.push { cls:=.type "tuple",data:=.seq #[x,y] }) z TI TO .ellipsis:=x5 _ i;refine t6<|Nh l (by simp) λh₇ (hz₇:IsZip h₇ z TI TO (j1 h₅.objs.size)) hs₇=>Nh hz₇ (by simp) λh₈ (hz₈:IsZip h₈ z TI TO (j1 h₅.objs.size)) hs₈=>?_;have F:∀c o,c≠z->h₅.get? c=a7 o->h₈.get? c=a7 o:=λc o j e=>hs₈.extBut _ _ j<|hs₇.extBut _ _ j<|x5 _ e;have Y:h₅.objs.size≠z:=Na<|z6 i;refine t8 ⟨_,rfl,hQ h₈ _ x y h₅.objs.size px py (Nat.le_of_eq sz.symm) hz₈ (F _ _ (z9 O) hTO₅) ?_ ?_ (hs₈.extBut _ _ Y<|hs₇.extBut _ _ Y<|A8 _ rfl) λc o j C G H e=>F c o j<|kp c o j C G H e⟩;exact D.frame _ _ _ t1 λc K o e=>F c o (λq=>Z.z1<|q ▸ K) e;exact p.frame _ _ _ t2 λc K o e=>F c o (λq=>Z.z2<|q ▸ K) e
theorem Ci{Q:Fin->f6->Prop}(D:Draws prog w A i1 f1 n1 P1 S1)(v:Draws prog w A i2 f2 n2 P2 S2)(Z:ZA z TI TO i1 i2 f1 f2)(hz:IsZip s.heap z TI TO .none)(I:o0 s.heap TI (.ref i1) (.ref i2))(J:o0 s.heap TO a b)(L:S1 k s.heap) (S:S2 k s.heap) (Y:k=n1\/(k<n1/\k=n2))(H:∀h' tk e,(∀c o,c≠z->c≠TO->c≠i1->c≠i2->s.heap.get? c=a7 o->h'.get? c=a7 o)->(∃o,h'.get? e=a7 o/\o.cls=.type "StopIteration")->E (.ref e) { s with heap:=h',toks:=tk }):f9 (g7 prog w) A (Builtin.«zip.__next__» ⟨[.ref z],[]⟩) Q E s:=by
 have X:=Z.nd;simp only[J7,A1,ML,or_false,not_or]at X;obtain⟨⟨aj,O,P,R⟩,⟨U,V,W⟩,⟨T,F⟩,ai,_⟩:=X;refine(show f9 (g7 prog w) A (field (.ref z) 2 >>= _) _ _ _ from t6<|J2 hz rfl (x:=.bool b7) rfl ?_);refine(show f9 (g7 prog w) A (field (.ref z) 3 >>= _) _ _ _ from t6<|J2 hz rfl (x:=.ref TI) rfl<|t6<|Mt I rfl ?_);refine(show f9 (g7 prog w) A (Rm (.ref z) >>= _) _ _ _ from t6 ?_);unfold Rm;refine t6<|J2 hz rfl (x:=ABN) rfl<|t8 ?_;simp only[s9];refine t6<|F9<|t6<|J2 hz rfl (x:=.ref TO) rfl<|t6<|Nh hz (by simp) λh₁ (hz₁:IsZip h₁ z TI TO .ellipsis) hs₁=>t6 ?_;simp only[List.zipIdx_cons,List.zipIdx_nil,QE,List.forIn_nil];refine t6<|t6<|wpAny_onRaise<|show f9 (g7 prog w) A (Oe (.ref i1) >>= _) _ _ _ from t6 ?_;rcases Y with rfl|⟨l1,rfl⟩
 refine D.done _ _ _ (eN D Z.z1 hs₁.extBut L) ?_;rintro p e h ⟨y,f,i⟩;have m:IsZip p z TI TO .ellipsis:=h _ _ P hz₁;have t:e≠z:=λq=>by subst q;rw[m]at f;cases f;simp at i
 exact Nh m (by simp) λr _ d=>H r _ e (λc o u _ G _ q=>d.extBut _ _ u<|h _ _ G<|hs₁.extBut _ _ u q) ⟨y,d.extBut _ _ t f,i⟩;refine D.item k _ _ _ l1 (eN D Z.z1 hs₁.extBut L) λx p M px C h=>t8 ?_;have g:o0 p TO a b:=h.extBut _ _ T<|hs₁.extBut _ _ (z9 O) J;refine t6<|Mt g rfl<|t6<|wpAny_updateSeq_pair g λr (hTO₃:o0 r TO x b) d=>t6<|wpAny_letGo<|t8 ?_;refine t6<|t6<|wpAny_onRaise<|show f9 (g7 prog w) A (Oe (.ref i2) >>= _) _ _ _ from t6 ?_;refine v.done _ _ _ (eN v Z.o2 d.extBut<|eN v Z.x2 h.extBut<|eN v Z.z2 hs₁.extBut S) ?_;rintro B e j ⟨y,f,i⟩;have n:IsZip B z TI TO .ellipsis:=j _ _ R<|d.extBut _ _ O<|h.extBut _ _ P hz₁;have t:e≠z:=λq=>by subst q;rw[n]at f;cases f;simp at i
 exact Nh n (by simp) λh₅ _ l=>H h₅ _ e (λc o u K G N q=>l.extBut _ _ u<|j _ _ N<|d.extBut _ _ K<|h.extBut _ _ G<|hs₁.extBut _ _ u q) ⟨y,l.extBut _ _ t f,i⟩
end
section
variable{X:Cx}{pins:List (c9×d5)}{σ:St}{H:Hp}{s:f6}{h':d6}
theorem t9.turnedL{t':Nat}{fp:List c9}(I:t9 X pins σ H s)(h:∀b∈fp,xv X pins H b)(k:∀b o,b∉fp->s.heap.get? b=a7 o->h'.get? b=a7 o):t9 X pins σ H { s with heap:=h',toks:=t' }:=by
 have p:∀b u,H b=a7 u->b∉fp:=λb u e z=>by rw[(h b z).1]at e;cases e
 refine I.step (g':=s.gens) (d':=s.drawn) (ch:=fp) (λb d=>⟨(h b d).2.2.2.1,(h b d).2.1,(h b d).2.2.2.2.1,(h b d).2.2.2.2.2⟩) (λb o _ _ f e _=>k b o f e) (λb o _ _ f e _=>⟨o.slots,k b o f e⟩) (λ_ _ _ _ n=>n) (λb o f e=>⟨o,k b o f e⟩) (λ_ _ e=>e) (λ_ _ _ e=>e) (λb ps e=>⟨#[],by rw[e];simp⟩) (λm a=>?_) (λb u e=>?_) I.bare;obtain⟨o,es,i,B,r⟩:=a;exact⟨o,es,i,k _ o (λz=>(h _ z).2.1 rfl) B,r⟩;refine(I.hok b u e).stay (λc v f q=>k c v ?_ q) (λ_ q=>q) λ_ _ q=>q;rcases f with rfl|z;exact p _ u e;exact p _ _ z
theorem t9.turnedT{t':Nat}{fp:List c9}{T:c9}{o:HO}(I:t9 X pins σ H s)(h:∀b∈fp,xv X pins H b)(k:∀b o,b∉fp->s.heap.get? b=a7 o->h'.get? b=a7 o)(j:s.heap.objs.size<=T)(i:bJ X.prog X.w (x3 H T o) h' T o):t9 X pins σ (x3 H T o) { s with heap:=h',toks:=t' }:=by
 have a:H T=a8:=I.hok.fresh j;have g:∀b u,s.heap.get? b=a7 u->b≠T:=λb u e=>A4<|K0 (z6 e) j;have p:∀b u,H b=a7 u->b∉fp:=λb u e z=>by rw[(h b z).1]at e;cases e
 refine I.step (g':=s.gens) (d':=s.drawn) (ch:=fp) (λb d=>⟨(h b d).2.2.2.1,(h b d).2.1,(h b d).2.2.2.2.1,(h b d).2.2.2.2.2⟩) (λb o _ _ f e _=>k b o f e) (λb o _ _ f e _=>⟨o.slots,k b o f e⟩) (λb u _ e n=>by rw[ax<|g b u e];exact n) (λb o f e=>⟨o,k b o f e⟩) (λb xs q=>by rw[ax<|ae q a];exact q) (λb u xs q=>by rw[ax<|ae q a];exact q) (λb ps q=>⟨#[],by rw[ax<|ae q a,q];simp⟩) (λm t=>?_) (λb u e=>?_) I.bare;obtain⟨o,es,l,B,r⟩:=t;exact⟨o,es,l,k _ o (λz=>(h _ z).2.1 rfl) B,r⟩;by_cases d:b=T;subst d;rw[aP]at e;cases e;exact i;rw[ax d]at e;refine(I.hok b u e).stay (λc v f q=>k c v ?_ q) (λc q=>by rw[ax<|ae q a];exact q) λc xs q=>by rw[ax<|ae q a];exact q
 rcases f with rfl|z;exact p _ u e;exact p _ _ z
def Sq(t:Bool)(K:v4)(H:Hp)(a:c9)(xs:List V):Prop:=if t=a9 then B8 K H a xs else F7 K H a xs
def Nl(t:Bool)(h:d6)(i l:c9)(k:Nat):Prop:=if t=a9 then h.IsTupleIter i l k else h.IsListIter i l k
def M7(t:Bool)(h:d6)(l:c9)(xs:Array b8):Prop:=if t=a9 then h.IsTuple l xs else h.IsList l xs
theorem Nl.at(x:Nl t h i l k)(e:∀o,h.get? i=a7 o->h'.get? i=a7 o):Nl t h' i l k:=by
 cases t with
 |true=>exact(show h.IsTupleIter i l k from x).at e
 |false=>exact(show h.IsListIter i l k from x).at e
theorem Nl.obj(x:Nl t h i l k):∃o,h.get? i=a7 o/\∀v,o.data≠.cell v:=by
 cases t with
 |true =>
  obtain⟨o,e,c,d⟩:=(show h.IsTupleIter i l k from x)
  exact⟨o,e,λv z=>by rw[d]at z;cases z⟩
 |false =>
  obtain⟨o,e,c,d⟩:=(show h.IsListIter i l k from x)
  exact⟨o,e,λv z=>by rw[d]at z;cases z⟩
theorem Sq.is(I:t9 X pins σ H s)(h:Sq t X.K H a xs):∃its,aw xs its/\M7 t s.heap a its.toArray/\xs.length<=sizeLine:=by
 cases t with
 |true=>exact I.tuple<|show B8 X.K H a xs from h
 |false=>obtain⟨its,f,p,b⟩:=I.list<|show F7 X.K H a xs from h;exact⟨its,f,p.isList,b⟩
theorem Sq.inj(I:t9 X pins σ H s)(h:Sq t X.K H a xs)(h':Sq t X.K H a ys):xs=ys:=by
 cases t with
 |true=>exact I.tuple_inj h h'
 |false=>exact I.list_inj h h'
theorem Sq.ne(I:t9 X pins σ H s)(h:Sq t X.K H a xs)(f:xv X pins H b):a≠b:=by
 have c:∀o,X.K.lookup a=a7 o->a≠b:=λo k=>by have d:=I.mod.kin a o k;rcases f.2.2.2.1 with z|z;intro q;subst q;exact I.ok.noex a o d z;exact A4<|K0 (z6 d)<|F4 I.ok.bsz z
 cases t with
 |true =>
  rcases(show B8 X.K H a xs from h)with(h|⟨_,h⟩)|⟨o,its,n,k,_⟩
  exact ae h f.1;exact ae h f.1;exact c o k
 |false =>
  rcases(show F7 X.K H a xs from h)with(h|⟨_,h⟩)|⟨o,its,n,k,_⟩
  exact ae h f.1;exact ae h f.1;exact c o k
theorem jC(a:A.handled=a8)(t:Bool)(it l:c9)(b:l≠it)(s:Array b8):Draws prog w A it [it,l] s.size (λi v=>s[i]?=a7 v) (λi h=>Nl t h it l i/\M7 t h l s):=by
 cases t with
 |true=>exact vM a it l b s
 |false=>exact Draws.list a it l b s
noncomputable def R5(K:v4)(D E:Bool)(b c:c9):It:=⟨λi H=>∃xs ys x y,Sq D K H b xs/\Sq E K H c ys/\xs[i]?=a7 x/\ys[i]?=a7 y,λi H v H'=>∃T x y,v=.ref T/\H T=a8/\H'=x3 H T (.tup [x,y])/\(∀xs,Sq D K H b xs->xs[i]?=a7 x)/\∀ys,Sq E K H c ys->ys[i]?=a7 y,λi H=>∃xs ys,Sq D K H b xs/\Sq E K H c ys/\(i=xs.length\/(i<xs.length/\i=ys.length))⟩
def R3(D E:Bool)(z TI TO c d l e:c9)(i:Nat)(h:d6):Prop:=IsZip h z TI TO .none/\o0 h TI (.ref c) (.ref d)/\(∃a b,o0 h TO a b)/\Nl D h c l i/\Nl E h d e i
theorem Cw{P:c8}{w:c7}{K:v4}{Y:List ge}{x1:Nat}{cd:Pos}{t1 t2:Bool}{z TI TO j l M G:c9}(nd:[z,TI,TO,j,l].Nodup):Turn P w K (.Tuple Y x1 cd) (R5 K t1 t2 M G) [z,TI,TO,j,l] z (R3 t1 t2 z TI TO j l M G) where
 mem:=D3
 obj:=λi h ⟨u,g,⟨a,b,J⟩,h1,h2⟩ c d=>by simp only[A1,ML,or_false]at d;rcases d with rfl|rfl|rfl|rfl|rfl;exact⟨_,u,λv q=>nomatch q⟩;exact⟨_,g,λv q=>nomatch q⟩;exact⟨_,J,λv q=>nomatch q⟩;exact h1.obj;exact h2.obj
 keep:=λi h h' ⟨u,g,⟨a,b,J⟩,h1,h2⟩ k=>⟨k z (by simp) _ u,k TI (by simp) _ g,⟨a,b,k TO (by simp) _ J⟩,h1.at λo e=>k j (by simp) o e,h2.at λo e=>k l (by simp) o e⟩
 item:=by
  rintro X hP hw hK d i as s σ H E I S ⟨u,g,⟨a,b,J⟩,h1,h2⟩ ⟨xs,ys,x,y,n,p,hx,hy⟩;subst hP hw hK;obtain⟨us,ru,iu,bS⟩:=n.is I;obtain⟨vs,rv,iv,cc⟩:=p.is I;have lu:=ru.length;have lv:=rv.length;have f:=S;have C:=nd;simp only[J7,A1,ML,or_false,not_or]at C;obtain⟨⟨Q,aD,L,R⟩,⟨U,V,W⟩,⟨r,t⟩,B,_⟩:=C;have a1:M≠j:=n.ne I (f j<|by simp);have a2:G≠l:=p.ne I (f l<|by simp);have Z:ZA z TI TO j l [j,M] [l,G]:=⟨nd,by simp[L,z9<|n.ne I<|f z<|by simp],by simp[r,z9<|n.ne I<|f TO<|by simp],by simp[z9 B,z9<|n.ne I<|f l<|by simp],by simp[R,z9<|p.ne I<|f z<|by simp],by simp[t,z9<|p.ne I<|f TO<|by simp],by simp[B,z9<|p.ne I<|f j<|by simp]⟩
  have ix:i<us.length:=by have:=(A6.mp hx).1;lia
  have iy:i<vs.length:=by have:=(A6.mp hy).1;lia
  have hT:s.TypeIs (.ref z) "zip":=⟨_,u,rfl⟩
  unfold i8;refine t6<|Nb<|Mo (name:=u4 "__next__") hT F.slot_zip_next<|F5 F.slot_zip_next hT F.entry_zip_next ?_<|F.args_zip_next_1<|.ref z;refine Cg (k:=i) (jC (show X.A.in1.handled=a8 from I.ok.hd d) t1 j M a1 us.toArray) (jC (show X.A.in1.handled=a8 from I.ok.hd d) t2 l G a2 vs.toArray) Z u g J ⟨h1,iu⟩ ⟨h2,iv⟩ (by simpa using ix) (by simpa using iy) λh' tk px py T al an D bs ai s1 s2 hp hk=>t8 ⟨_,rfl,?_⟩;refine wpAny_letOwnedTupleGo_zip bs λh2 bM m=>?_;have cl:T≠z:=λq=>by subst q;exact p7 (z6 u)<|Nat.not_lt_of_le D
  obtain⟨N,aS,ce⟩:=ru.get hx;obtain⟨O,be,ch⟩:=rv.get hy;have e1:N=px:=by rw[RI,aS]at al;exact C3 al
  have e2:O=py:=by rw[RI,be]at an;exact C3 an
  subst e1 e2;have bl:o0 h2 T N O:=m.extBut _ _ cl hp;refine⟨.ref T,x3 H T<|.tup [x,y],?_,rfl,⟨T,x,y,rfl,I.hok.fresh D,rfl,λzs hq=>by rw[hq.inj I n];exact hx,λzs hq=>by rw[hq.inj I p];exact hy⟩,⟨bM,m.extBut _ _ (z9 Q)<|hk _ _ (z9 Q) U V W g,⟨_,_,m.extBut _ _ (z9 aD) ai⟩,s1.1.at λo e=>m.extBut _ _ (z9 L) e,s2.1.at λo e=>m.extBut _ _ (z9 R) e⟩,λc d=>?_⟩;refine I.turnedT (t':=tk) S (λc o d e=>?_) D ⟨by simp[MH],[N,O],.cons ce<|.cons ch .nil,⟨_,bl,rfl,⟨0,rfl⟩,rfl⟩⟩;simp only[A1,ML,or_false,not_or]at d;exact m.extBut _ _ d.1<|hk _ _ d.1 d.2.2.1 d.2.2.2.1 d.2.2.2.2 e;obtain⟨oc,ec⟩:∃o,s.heap.get? c=a7 o:=by simp only[A1,ML,or_false]at d;rcases d with rfl|rfl|rfl|rfl|rfl;exact⟨_,u⟩;exact⟨_,g⟩;exact⟨_,J⟩;obtain⟨o,e,_⟩:=h1.obj;exact⟨o,e⟩;obtain⟨o,e,_⟩:=Nl.obj ‹Nl t2 s.heap _ G i›;exact⟨o,e⟩
  rw[ax<|A4<|K0 (z6 ec) D];exact(S c d).1
 done:=by
  rintro X hP hw hK d i as s σ H E I S ⟨u,g,⟨a,b,J⟩,h1,h2⟩ ⟨xs,ys,n,p,aj⟩;subst hP hw hK;obtain⟨us,ru,iu,bS⟩:=n.is I;obtain⟨vs,rv,iv,cc⟩:=p.is I;have lu:=ru.length;have lv:=rv.length;have f:=S;have C:=nd;simp only[J7,A1,ML,or_false,not_or]at C;obtain⟨⟨Q,aD,L,R⟩,⟨U,V,W⟩,⟨r,t⟩,B,_⟩:=C;have a1:M≠j:=n.ne I (f j<|by simp);have a2:G≠l:=p.ne I (f l<|by simp);have Z:ZA z TI TO j l [j,M] [l,G]:=⟨nd,by simp[L,z9<|n.ne I<|f z<|by simp],by simp[r,z9<|n.ne I<|f TO<|by simp],by simp[z9 B,z9<|n.ne I<|f l<|by simp],by simp[R,z9<|p.ne I<|f z<|by simp],by simp[t,z9<|p.ne I<|f TO<|by simp],by simp[B,z9<|p.ne I<|f j<|by simp]⟩
  have hT:s.TypeIs (.ref z) "zip":=⟨_,u,rfl⟩
  unfold i8;refine t6<|Nb<|Mo (name:=u4 "__next__") hT F.slot_zip_next<|F5 F.slot_zip_next hT F.entry_zip_next ?_<|F.args_zip_next_1<|.ref z;refine Ci (k:=i) (jC (show X.A.in1.handled=a8 from I.ok.hd d) t1 j M a1 us.toArray) (jC (show X.A.in1.handled=a8 from I.ok.hd d) t2 l G a2 vs.toArray) Z u g J ⟨h1,iu⟩ ⟨h2,iv⟩ ?_ λh' tk e hk ⟨o,ho,bk⟩=>?_;rw[A5,A5,<-lu,<-lv];exact aj;refine t6<|NQ (T:="StopIteration") (b:=a9) ⟨o,ho,bk⟩ OZ<|t8 ⟨rfl,?_⟩;refine I.turnedL (t':=tk) S λc o d e=>?_;simp only[A1,ML,or_false,not_or]at d;exact hk _ _ d.1 d.2.2.1 d.2.2.2.1 d.2.2.2.2 e
 self:=λ_ _ _ _ _ st h=>wpAny_pyIter_zip st.1 h
end
noncomputable abbrev Pi(t:Bool)(l:c9):d5:={ cls:=.type<|if t=a9 then "tuple_iterator" else "list_iterator",data:=.fields #[.ref l,.int 0 0] }
theorem xb(h:M7 t s.heap l xs)(q:Q (.ref s.heap.objs.size) { s with heap:=s.heap.push (Pi t l) }):f9 (g7 prog w) A (j0<|.ref l) Q E s:=by
 cases t with
 |true=>exact wpAny_pyIter_tuple (show s.heap.IsTuple l xs from h) q
 |false=>exact QO (show s.heap.IsList l xs from h) q
noncomputable abbrev Qp(h:d6)(t1:Bool)(l1:c9):d6:=h.push<|Pi t1 l1
noncomputable abbrev Qo(h:d6)(t1 t2:Bool)(l1 l2:c9):d6:=(Qp h t1 l1).push<|Pi t2 l2
noncomputable abbrev Qn(h:d6)(t1 t2:Bool)(l1 l2:c9):d6:=(Qo h t1 t2 l1 l2).push { cls:=.type "tuple",data:=.seq #[.ref h.objs.size,.ref (Qp h t1 l1).objs.size] }
noncomputable abbrev Qm(h:d6)(t1 t2:Bool)(l1 l2:c9):d6:=(Qn h t1 t2 l1 l2).push { cls:=.type "tuple",data:=.seq #[.none,.none] }
noncomputable abbrev OI(h:d6)(t1 t2:Bool)(l1 l2:c9):d6:=(Qm h t1 t2 l1 l2).push { cls:=.type "zip",data:=.fields #[.none,.bool b7,.bool b7,.ref (Qo h t1 t2 l1 l2).objs.size,.ref (Qn h t1 t2 l1 l2).objs.size] }
theorem M7.push(x:M7 t h l xs)(o:d5):M7 t (h.push o) l xs:=by
 cases t with
 |true=>obtain⟨u,e,r⟩:=(show h.IsTuple l xs from x);exact(show (h.push o).IsTuple l xs from⟨u,x5 _ e,r⟩)
 |false=>obtain⟨u,e,r⟩:=(show h.IsList l xs from x);exact(show (h.push o).IsList l xs from⟨u,x5 _ e,r⟩)
theorem Ch(D E:Bool)(b c:c9)(xs ys:Array b8):Meets (Builtin.«zip.__new__» ⟨[.type "zip",.ref b,.ref c],[]⟩) (λ_ R s=>M7 D s.heap b xs/\M7 E s.heap c ys/\R (.ok<|.ret<|.ref (Qm s.heap D E b c).objs.size) { s with heap:=OI s.heap D E b c }):=.of_wp λp w A R s h=>by
  obtain⟨hp,g,d,q,o⟩:=s;obtain⟨a,f,h⟩:=h;have e:=sub_zip;have r:M7 D (Shared.heap ⟨hp,g,d,q,o⟩) b xs:=a;have m:M7 E (Shared.heap ⟨hp.push<|Pi D b,g,d,q,o⟩) c ys:=f.push _
  wp_walk using xb r,xb m
  exact⟨_,rfl,h⟩
theorem BL(h1:M7 t1 s.heap l1 xs)(h2:M7 t2 s.heap l2 ys)(h:∀h',R3 t1 t2 (s.heap.objs.size+4) (s.heap.objs.size+2) (s.heap.objs.size+3) s.heap.objs.size (s.heap.objs.size+1) l1 l2 0 h'->(∀c o,s.heap.get? c=a7 o->h'.get? c=a7 o)->Q (.ref<|s.heap.objs.size+4) { s with heap:=h' }):f9 (g7 prog w) A (call (.type "zip") [.ref l1,.ref l2]) Q E s:=by
 refine callType_new F.called_zip (by decide) (F.typeCall_zip_2 _ _) (F.newCall_zip_2 _ _) (λj=>F.args_object_init_3 j _ _) F.entry_zip_new (Ch t1 t2 l1 l2 xs ys) ⟨h1,h2,?_⟩;have z:(Qp s.heap t1 l1).objs.size=s.heap.objs.size+1:=L8 ..;have y:(Qo s.heap t1 t2 l1 l2).objs.size=s.heap.objs.size+2:=by rw[L8,z]
 have b:(Qn s.heap t1 t2 l1 l2).objs.size=s.heap.objs.size+3:=by rw[L8,y]
 have k:(Qm s.heap t1 t2 l1 l2).objs.size=s.heap.objs.size+4:=by rw[L8,b]
 have p:∀{h:d6}{c:c9}{o:d5} (u:d5),h.get? c=a7 o->(h.push u).get? c=a7 o:=λu e=>x5 _ e;have f:(OI s.heap t1 t2 l1 l2).get? (Qm s.heap t1 t2 l1 l2).objs.size=a7 _:=A8 _ rfl;have d:(OI s.heap t1 t2 l1 l2).get? (Qn s.heap t1 t2 l1 l2).objs.size=a7 _:=p _<|A8 _ rfl;have g3:(OI s.heap t1 t2 l1 l2).get? (Qo s.heap t1 t2 l1 l2).objs.size=a7 _:=p _<|p _<|A8 _ rfl;have g:(OI s.heap t1 t2 l1 l2).get? (Qp s.heap t1 l1).objs.size=a7 _:=p _<|p _<|p _<|A8 _ rfl;have g1:(OI s.heap t1 t2 l1 l2).get? s.heap.objs.size=a7 _:=p _<|p _<|p _<|p _<|A8 _ rfl;have i:∀(t:Bool) (h:d6) (a l:c9),h.get? a=a7 (Pi t l)->Nl t h a l 0:=λt h a l e=>by cases t<;>exact⟨_,e,rfl,rfl⟩
 show _/\_;rw[y,b,k]at f;rw[z,y]at g3;rw[b]at d;rw[z]at g;rw[k];exact⟨⟨_,f,rfl⟩,h _ ⟨f,g3,⟨_,_,d⟩,i _ _ _ _ g1,i _ _ _ _ g⟩ λc o q=>p _<|p _<|p _<|p _<|p _ q⟩
noncomputable def zipD(xs ys:List D):List D:=(xs.zip ys).map λp=>.tup [p.1,p.2]
def Ca(M:u8)(x:D)(xs:List D)(ok:u8->Prop):Prop:=match x with
 |.tup ds=>xs=ds/\ok=λ_=>True
 |.ref n=>am M n xs/\ok=λM=>am M n xs
 |_=>False
def dZip(t:Fn):Mw:=λS M R=>t S M λds a=>match ds with
 | [x,y]=>∃xs ys o1 o2,Ca a x xs o1/\Ca a y ys o2/\R ⟨zipD xs ys,λM=>o1 M/\o2 M⟩ a
 |_=>False
theorem EW:e7 "zip" = a7 (.type "zip"):=by decide +kernel
theorem Ca.sq{X:Cx}(m:w4 X.K ρ M H)(h:Ca M x xs ok)(r:u5 X.K ρ H x v)(e:aL v u):∃(t:Bool) (l:c9),u=.ref l/\ok M/\∀ρ' M' H',w4 X.K ρ' M' H'->Grow X.K ρ H ρ' H'->ok M'->∃vs,Sq t X.K H' l vs/\Reps X.K ρ' H' xs vs:=by
 unfold Ca at h;split at h;obtain⟨rfl,rfl⟩:=h;obtain⟨a,vs,rfl,q,r⟩:=u5.inv_tup r;cases e;exact⟨a9,a,rfl,trivial,λρ' M' H' s g _=>⟨vs,g.tup a vs q,r.grow g⟩⟩;obtain⟨h,rfl⟩:=h;cases r with
 |@ref n a f=>cases e;exact⟨b7,a,rfl,h,λρ' M' H' s g ok=>am.seq s ok<|ao g.pre f⟩
 exact h.elim
theorem Mg.zip{ρ:List c9}{H:Hp}{xs ys:List D}{o1 o2:u8->Prop}{t E:Bool}{l h:c9}{K:v4}(h1:∀ρ' M' H',w4 K ρ' M' H'->Grow K ρ H ρ' H'->o1 M'->∃vs,Sq t K H' l vs/\Reps K ρ' H' xs vs) (h2:∀ρ' M' H',w4 K ρ' M' H'->Grow K ρ H ρ' H'->o2 M'->∃vs,Sq E K H' h vs/\Reps K ρ' H' ys vs):Mg K ⟨zipD xs ys,λM=>o1 M/\o2 M⟩ ρ H (R5 K t E l h) where
 go:=λi ρ' M' H' m g ok hi=>by
  obtain⟨vs,c,r⟩:=h1 ρ' M' H' m g ok.1;obtain⟨s,j,f⟩:=h2 ρ' M' H' m g ok.2;have w:i<xs.length/\i<ys.length:=by simpa [zipD,Nat.lt_min]using hi
  have k:=r.length;have o:=f.length;exact⟨vs,s,_,_,c,j,x9 (by lia),x9<|by lia⟩
 yld:=λi ρ' M' H' x B m g ok hi y=>by obtain⟨vs,c,r⟩:=h1 ρ' M' H' m g ok.1;obtain⟨s,j,f⟩:=h2 ρ' M' H' m g ok.2;obtain⟨T,a,b,rfl,n,rfl,p,q⟩:=y;obtain⟨d,u,z⟩:=r.getV<|p vs c;obtain⟨e,v,A⟩:=f.getV<|q s j;refine⟨.tup [d,e],ρ',?_,m.laid n,Grow.laid n,.tup (B8.of aP)<|.cons (z.grow<|Grow.laid n)<|.cons (A.grow<|Grow.laid n) .nil⟩;show (zipD xs ys)[i]?=_;have:(xs.zip ys)[i]?=a7 (d,e):=List.getElem?_zip_eq_some.mpr ⟨u,v⟩;rw[zipD,C7,this];rfl
 stop:=λρ' M' H' m g ok=>by obtain⟨vs,c,r⟩:=h1 ρ' M' H' m g ok.1;obtain⟨s,j,f⟩:=h2 ρ' M' H' m g ok.2;have k:=r.length;have o:=f.length;refine⟨vs,s,c,j,?_⟩;show (zipD xs ys).length=_\/_;rw[zipD,v7,QB];lia
theorem Ly(F:X.mg "zip" = a8)(D:DA X [a,b] ta)(E:Gl X "zip":=by rfl)(hs:h7 [a,b] X.env=[(b7,eval a X.env),(b7,eval b X.env)]:=by rfl)(m:h7 [b] X.env=[(b7,eval b X.env)]:=by rfl):DI X (.Tuple elts x1 q) (.Call (.Name "zip" p) [a,b] [] pos) (dZip ta):=by
 intro i s σ H R I h;obtain⟨S,M,ρ,Q,Z,sr,G,k⟩:=h;refine Call_ (kE I E F EW<|Re (w9 (D pos i s σ H _ I ⟨S,M,ρ,_,Z,sr,G,λv H' w=>w⟩) ?_) (by rw[hs,m])<|by rw[m];rfl);rintro us d ⟨vs,l,g,r,ds,o,e,j,g1,f,n⟩
 try dsimp only at n
 split at n;obtain⟨xs,ys,o1,o2,w1,w2,V⟩:=n
 first|have z:=Reps.inv_cons f|have z:=aw.inv_cons f
 clear f;obtain⟨_,_,rfl,B,f⟩:=z
 first|have z:=Reps.inv_cons f|have z:=aw.inv_cons f
 clear f;obtain⟨_,_,rfl,C,f⟩:=z;cases f
 first|have z:=Reps.inv_cons r|have z:=aw.inv_cons r
 clear r;obtain⟨_,_,rfl,y,r⟩:=z
 first|have z:=Reps.inv_cons r|have z:=aw.inv_cons r
 clear r;obtain⟨_,_,rfl,A,r⟩:=z;cases r;obtain⟨t1,l1,rfl,L,t⟩:=w1.sq j B y;obtain⟨t2,l2,rfl,P,N⟩:=w2.sq j C A;obtain⟨as,W,_⟩:=t e o l j .refl L;obtain⟨bs,Y,_⟩:=N e o l j .refl P;obtain⟨is,_,J,_⟩:=W.is g;obtain⟨js,_,K,_⟩:=Y.is g;refine BL J K λh' x T=>?_;refine wpAny_pyIter_zip x.1 ?_;have U:[d.heap.objs.size+4,d.heap.objs.size+2,d.heap.objs.size+3,d.heap.objs.size,d.heap.objs.size+1].Nodup:=by simp
 refine⟨d.heap.objs.size+4,_,_,_,l,rfl,g.kept (t':=d.toks) T,Cw U,x,λc u=>?_,k _ l ⟨_,o,e,j,g1,Mg.zip t N,V⟩⟩;have O:d.heap.objs.size<=c:=by simp only[A1,ML,or_false]at u;rcases u with rfl|rfl|rfl|rfl|rfl<;>first|exact PU _ _|exact v6 _
 exact g.fpOk O<|g.hok.fresh O;exact n.elim
theorem Reps.reverse{K:v4}{ρ:List c9}{H:Hp}:∀{ds:List D}{vs:List V},Reps K ρ H ds vs->Reps K ρ H ds.reverse vs.reverse
 |_,_,.nil=>.nil
 |_,_,.cons h r=>by simp only[P7];exact r.reverse.append<|.cons h .nil
theorem vp{D:c9}{vs:List b8}{n:Nat}{Q:b8->f6->Prop}(B:s.heap.get? D=a7 (n6 "list" vs.toArray n))(h2:vs.length<2)(h:∀h' c,(∀b o,b≠D->s.heap.get? b=a7 o->h'.get? b=a7 o)->h'.get? D=a7 (n6 "list" vs.toArray c)->Q .none { s with heap:=h' }):f9 (g7 prog w) A (call (.builtin "list.sort") [.ref D]) Q E s:=by
 have f:vs.length<=sizeLine:=by rw[MH];lia
 refine F5 slot_list_sort (⟨_,B,rfl⟩) entry_list_sort ?_<|args_list_sort<|.ref D;rw[list_sort_plain];refine t6<|listItems_at B rfl<|t6<|listUpdate_at B rfl ?_ (by rw[A5];exact f)<|B5 _;obtain⟨k,e⟩:∃k,(s.heap.update D<|Mp λ_=>(#[]:Array b8)).get? D=a7 (n6 "list" #[] k):=⟨_,QC B λ_=>#[]⟩
 refine t6<|seqEpoch_at e rfl<|t6<|wpAny_newTuple (t6<|wpAny_newList (E3 ?_)<|B5 _) f;dsimp only;have g:vs.toArray.size<2:=by rw[A5];exact h2
 rw[o8 g,o8 g];refine t6<|t8 ?_;rw[StateT.run_pure];refine t6<|t8 ?_;dsimp only;generalize d:((s.heap.update D<|Mp λ_=>(#[]:Array b8)).push<|n6 "tuple" vs.toArray 0).push (n6 "list" #[] 0)=g3;have a:g3.get? D=a7 (n6 "list" #[] k):=by rw[<-d];exact x5 _<|x5 _ e
 have m:∀b o,b≠D->s.heap.get? b=a7 o->g3.get? b=a7 o:=λb o i q=>by rw[<-d];refine x5 _<|x5 _ ?_;rw[Qe _ _ _ _ i];exact q
 refine t6<|seqEpoch_at a rfl ?_;have r:∀us:List b8,us.length<2->(us.toArray.zip us.toArray).map (·.2)=us.toArray:=λus hu=>by
  match us,hu with
  | [],_=>simp
  | [v],_=>simp
  |_::_::_,hu=>simp at hu;lia
 have t:(arrOf<|SortSt.mk' general' (vs.toArray.zip vs.toArray) #[] 7 a8).map (·.2)=vs.toArray:=r vs h2;rw[t];refine t6 (listUpdate_at a rfl ?_ (B5 _)<|by rw[A5];exact Nat.le_succ_of_le f);simp only[show failedOf (SortSt.mk' general' (vs.toArray.zip vs.toArray) #[] 7 a8)=a8 from rfl,bne_self_eq_false,A7,r9];obtain⟨j,l⟩:∃j,(g3.update D<|Mp λ_=>vs.toArray).get? D=a7 (n6 "list" vs.toArray j):=⟨_,QC a λ_=>vs.toArray⟩
 refine t8 ⟨_,rfl,h _ j (λb o i q=>?_) l⟩;rw[Qe _ _ _ _ i];exact m b o i q
theorem zF{k:Nat}{D:c9}{xs:List L2.D}{P:List V}{its:List b8}{R:VK}{h1:d6}{tk n:Nat}{m:b9->Option b8}{A:e8}{E:b8->f6->Prop}(hr:Room k X.A)(hA:A.units<=X.A.units+4)(I:t9 X pins σ H s)(sm:w4 X.K ρ M H)(so:SrtG M xs)(r:Reps X.K ρ H xs P)(O:aw P its)(T:s.heap.Ns X.env.locals m) (F:h1.Ns X.env.locals m) (l:∀b u,b≠X.env.locals->s.heap.get? b=a7 u->h1.get? b=a7 u) (L:s.heap.get? D=a8) (G:D≠X.env.locals) (ho:h1.get? D=a7 (n6 "list" its.toArray n))(kk:∀v H',((∀Q:DK,(∀ys,ys.Perm xs->Fb M ys->Q (.ref M.length) (M++[.lst ys]))->VQ X.K ρ H Q v H'))->R v H'):f9 (g7 X.prog X.w) A (call (.builtin "list.sort") [.ref D]) (λ_ s'=>EP X pins σ R (.ref D) s') E { s with heap:=h1,toks:=tk }:=by
 have lw:=r.length;have li:=O.length;have ai:=so.len;have N:H D=a8:=D8.none I.hok L;have y:∀b u,s.heap.get? b=a7 u->b≠D:=λb u e q=>by subst q;rw[L]at e;cases e
 by_cases h2:its.length<2;refine vp ho h2 λh' c J Y=>?_;have W:h'.Ns X.env.locals m:=by obtain⟨o,es,ep,e,aM⟩:=F;exact⟨o,es,ep,J _ _ (z9 G) e,aM⟩
 refine⟨.ref D,_,I.laidF (t':=tk) (o:=.lst P) (λb u g e=>J b u (y b u e)<|l b u g e) T W L N ⟨by rw[MH];lia,its,c,O,Y⟩,rfl,kk _ _ λQ S=>VQ.laidL sm .refl r N<|S xs (O0 _) ?_⟩;unfold Fb
 match xs,(show xs.length<2 by lia) with
 | [],_=>exact QP
 | [x],_=>exact Q2 _ _
 |_::_::_,hx=>simp at hx;lia
 have z:2<=its.length:=by lia
 have f:∀a o,(a,o)∈Att.ledger h1 X.env.locals D↔a≠X.env.locals/\a≠D/\h1.get? a=a7 o:=λa o=>Att.mem_ledger;have U:UpdF D (n6 "list" its.toArray n) ([]++(D,n6 "list" its.toArray n)::Att.ledger h1 X.env.locals D) λo'=>(D,o')::Att.ledger h1 X.env.locals D:=UpdF.head λp hp=>((f p.1 p.2).mp hp).2.1;refine kat_lsort (s:={ s with heap:=h1,toks:=tk }) (vs:=its) (Att.fr_all F) (Att.news_ledger G ho) U rfl z (by lia) λe1 h' F' N'=>?_;have kp:∀b u,b≠X.env.locals->s.heap.get? b=a7 u->h'.get? b=a7 u:=λb u g e=>(N' (b,u)<|C4 _<|(f b u).mpr ⟨g,y b u e,l b u g e⟩).1;have I':t9 X pins σ H { s with heap:=h',toks:=tk }:=I.keptF (t':=tk) kp T F'.ns;have hu:A.in1.units+u9<j6:=by have:=hr.un;have:u9=30:=rfl;show A.units+1+u9<j6;lia
 refine L0 (sP I' sm so r O z hu) (λκ s' hk=>?_) λ_ _ x=>x;obtain⟨rfl,B⟩:=hk;refine Srt.wp_run (n:=its.length) (c:=λi j=>if i<xs.length then(if j<xs.length then C9 M u9 (xs.getD i default) (xs.getD j default)else a9)else b7) (λi j C hi hj hc=>?_) _ (Srt.sort_bd<|by lia).1 ?_;refine B i j C hi hj ?_;rw[o8 (by lia),o8<|by lia]at hc;exact hc;have t:=Srt.All.run (c:=λi j=>if i<xs.length then(if j<xs.length then C9 M u9 (xs.getD i default) (xs.getD j default)else a9)else b7) _ (Srt.sort_bd (n:=its.length)<|by lia).2;obtain⟨o1,o2,o3⟩:=JH so;have d:=Srt.sort_list xs (by lia) o1 o2 o3
 try dsimp only at d
 rw[show xs.length=its.length by lia]at d t ⊢;generalize Srt.run _ (NJ its.length)=p at t d ⊢;have hi:∀i∈p.toList,i<xs.length:=λi h=>by have:=t.mem_iff.mp h;rw[I0]at this;lia
 refine KasFin.intro F' N' (UpdF.head λq hq=>((f q.1 q.2).mp hq).2.1) λh2 c F2 N2=>?_;have r':=r.perm p.toList hi;have Z:=O.perm p.toList (λi h=>by have:=hi i h;lia);refine⟨.ref D,_,I.laidF (t':=tk) (o:=.lst<|p.toList.map λi=>P.getD i .non) (λb u g e=>(N2 (b,u)<|C4 _<|(f b u).mpr ⟨g,y b u e,l b u g e⟩).1) T F2.ns L N ⟨?_,_,c,Z,(N2 _ D3).1⟩,rfl,kk _ _ λQ S=>VQ.laidL sm .refl r' N<|S _ d.1 d.2⟩;rw[v7];have:=d.1.length_eq;rw[v7]at this;rw[MH];lia
section
variable{K:v4}{ρ:List c9}{H:Hp}{M:u8}
theorem w4.laidM(S:w4 K ρ M H)(hp:H p=a8)(ok:yK K (ρ++[p]) (x3 H p o) p mo):w4 K (ρ++[p]) (M++[mo]) (x3 H p o):=by
 have g:Grow K ρ H (ρ++[p]) (x3 H p o):=Grow.laidR hp;have d:∀(n:Nat),ρ[n]?=a7 p->L9 M[n]?:=λn e=>by rcases S.tracked e with⟨o,q⟩|q;rw[hp]at q;cases q;exact q
 refine⟨λn m a h t l=>?_,by rw[A3,A3,S.len];rfl,λn a i t l=>?_⟩;rcases aZ t with f|⟨f,g1⟩
 rcases aZ l with N|⟨N,b⟩
 exact(S.nd n m a h f N).elim (λz=>.inl z.more) λz=>.inr z.more;subst b;exact .inl (d n f).more;rcases aZ l with N|⟨N,b⟩
 subst g1;exact .inr (d m N).more;exact p7 (f.trans N.symm) h;rcases aZ t with f|⟨f,g1⟩
 have c:n<M.length:=by rw[<-S.len];exact(A6.mp f).1
 rw[L5 c]at l;exact(S.obj n a i f l).grow g<|S.keeps hp f l;subst g1 f;rw[S.len,MC<|v6 _,NL]at l;simp at l;subst l;exact ok
theorem B8.writtenD(hp:H p=a7 (.dK kv))(h:B8 K H a xs):B8 K (x3 H p o) a xs:=by
 rcases h with h|h;rcases h with h|⟨b,h⟩
 exact .inl (.inl<|by rw[ax<|yc h hp<|by intro z;cases z];exact h);exact .inl<|.inr ⟨b,by rw[ax<|yc h hp<|by intro z;cases z];exact h⟩;exact .inr h
theorem w4.writeD(S:w4 K ρ M H)(t:ρ[n]?=a7 a)(s:M[n]?=a7 (.dct kvs))(p:H a=a7 (.dK kv))(r:Reps K ρ H (kvs'.map (·.2)) vs'):w4 K ρ (M.set n<|.dct kvs') (x3 H a (.dK (iX (kvs'.map (·.1)) vs')))/\Grow K ρ H ρ (x3 H a (.dK (iX (kvs'.map (·.1)) vs'))):=by
 have g:Grow K ρ H ρ (x3 H a (.dK (iX (kvs'.map (·.1)) vs'))):=⟨Nd,λ_ _ h=>B8.writtenD p h⟩
 have k:∀m,m≠n->(M.set n<|.dct kvs')[m]?=M[m]?:=λm d=>MB<|z9 d;have c:¬L9 M[n]?:=λ⟨_,z⟩=>by rw[s]at z;cases z
 refine⟨⟨λm j b e f N=>?_,by rw[NE];exact S.len,λm b o f N=>?_⟩,g⟩;have q:=S.nd m j b e f N;by_cases h1:m=n;subst h1;rw[k j<|z9 e];exact .inr<|q.resolve_left c;rw[k m h1];by_cases h2:j=n;subst h2;exact .inl<|q.resolve_right c;rw[k j h2];exact q;by_cases d:m=n;subst d;have i:b=a:=C3<|f.symm.trans t;subst i;rw[MX<|by rw[<-S.len];exact(A6.mp t).1]at N;cases N;exact⟨vs',aP,r.grow g⟩;rw[k m d]at N;by_cases i:b=a;subst i;have l:=(S.nd m n b d f t).resolve_right c;rw[N]at l;exact(S.obj m b o f N).grow g<|.inr l;exact(S.obj m b o f N).grow g<|.inl<|ax i
noncomputable def fU(kvs:List (b9×D))(k:b9):Option D:=(kvs.find? λp=>decide<|p.1=k).map (·.2)
noncomputable def kX(kvs:List (b9×D))(k:b9)(d:D):List (b9×D):=if (kvs.any λp=>decide<|p.1=k)=a9 then kvs.map (λp=>if p.1=k then(p.1,d)else p)else kvs++[(k,d)]
theorem Hr(a b:b9):decide ((ABm a:E1)=ABm b)=decide (a=b):=Fy a b
theorem jc:∀{kvs:List (b9×D)}{vs:List V},Reps K ρ H (kvs.map (·.2)) vs->fU kvs k=a7 d->∃v,wa (iX (kvs.map (·.1)) vs) (ABm k)=a7 v/\u5 K ρ H d v
 | [],_,_,e=>by simp[fU]at e
 |(k',d')::kvs,_,.cons h t,e=>by
  by_cases q:k'=k;subst q;have:d'=d:=by simpa [fU]using e
  subst this;exact⟨_,by simp[iX,wa],h⟩;have e':fU kvs k=a7 d:=by simpa [fU,Mj,q]using e
  obtain⟨v,h1,h2⟩:=jc t e';refine⟨v,?_,h2⟩;have:¬(ABm k':E1)=ABm k:=λz=>q<|Sum.inr.inj z;simpa [iX,wa,Mj,this]using h1
theorem xp:∀{kvs:List (b9×D)}{vs:List V},Reps K ρ H (kvs.map (·.2)) vs->((iX (kvs.map (·.1)) vs).any λkv=>decide<|kv.1=ABm k)=kvs.any λp=>decide (p.1=k)
 | [],_,_=>rfl
 |(k',d')::kvs,_,.cons h t=>by
  have ih:=xp (k:=k) t;show (decide ((ABm k':E1)=ABm k)||(iX (kvs.map (·.1)) _).any _)=(decide (k'=k)||kvs.any _)
  rw[ih,Hr]
theorem wX(hd:u5 K ρ H d v):∀{kvs:List (b9×D)}{vs:List V},Reps K ρ H (kvs.map (·.2)) vs->∃vs',(iX (kvs.map (·.1)) vs).map (λkv=>if kv.1=ABm k then(kv.1,v)else kv)=iX ((kvs.map λp=>if p.1=k then(p.1,d)else p).map (·.1)) vs'/\Reps K ρ H ((kvs.map λp=>if p.1=k then(p.1,d)else p).map (·.2)) vs'
 | [],_,.nil=>⟨[],rfl,.nil⟩
 |(k',d')::kvs,_,.cons (v:=v') h t=>by obtain⟨vs',e,r⟩:=wX (k:=k) hd t;by_cases q:k'=k;subst q;refine⟨v::vs',?_,?_⟩;simp only[C2,s9,iX,OC]at e ⊢;rw[e];simp only[C2,s9];exact .cons hd r;have q':¬(ABm k':E1)=ABm k:=λz=>q<|Sum.inr.inj z;refine⟨v'::vs',?_,?_⟩;simp only[C2,p4 q,p4 q',iX,OC]at e ⊢;rw[e];simp only[C2,p4 q];exact .cons h r
theorem sQ:∀{kvs:List (b9×D)}{vs:List V},Reps K ρ H (kvs.map (·.2)) vs->iX (kvs.map (·.1)) vs++[(ABm k,v)]=iX (kvs.map (·.1)++[k]) (vs++[v])
 | [],_,.nil=>rfl
 |(k',d')::kvs,_,.cons h t=>by have:=sQ (k:=k) (v:=v) t;simp only[C2,iX,OC,List.cons_append]at this ⊢;rw[this]
theorem zO(h:u5 K ρ H d v)(r:Reps K ρ H (kvs.map (·.2)) vs):∃vs',putK (iX (kvs.map (·.1)) vs) (ABm k) v=iX ((kX kvs k d).map (·.1)) vs'/\Reps K ρ H ((kX kvs k d).map (·.2)) vs':=by unfold putK kX;rw[xp r];by_cases q:(kvs.any λp=>decide<|p.1=k)=a9;rw[o8 q,o8 q];exact wX h r;rw[p4 q,p4 q];refine⟨vs++[v],?_,?_⟩;rw[sQ r,G1];rfl;rw[G1];exact r.append<|.cons h .nil
end
def EK:x6:=λ_ M Q=>Q (.ref M.length)<|M++[.dct []]
theorem LL:DE X (.Dict [] [] pos) EK:=by refine PE.imp Da ?_;rintro σ H R ⟨S,M,ρ,Q,s,e,q,k⟩;refine λp hp=>?_;have j:Q (.ref M.length) (M++[.dct []]):=q;exact k _ _ ⟨.ref M.length,M++[.dct []],ρ++[p],s.laidM (mo:=.dct []) hp ⟨[],aP,.nil⟩,Grow.laidR hp,.ref s.last,j⟩
def BD(t b:x6):x6:=λS M Q=>t S M λx a=>b S a λy M2=>match x,y with
 |.ref n,.str k=>∃kvs d,M2[n]?=a7 (.dct kvs)/\fU kvs k=a7 d/\Q d M2
 |_,_=>False
theorem LM{X:Cx}{o i:ge}{t y:x6}{a:Pos}(z:X.A.units+1<j6)(B:DE X o t)(hi:DE X i y)(hs:FI i):DE X (.Subscript o i a) (BD t y):=by
 refine PE.imp (Gr z B hi hs) ?_;rintro σ H R ⟨S,M,ρ,Q,s,r,q,k⟩;refine⟨S,M,ρ,_,s,r,q,?_⟩;rintro v K ⟨d,l,c,J,g1,F,D⟩;refine⟨S,l,c,_,J,r.grow g1,D,?_⟩;rintro u L ⟨e,M2,f,h,g,G,j⟩
 try dsimp only at j
 split at j;obtain⟨kvs,d,p,C,E⟩:=j;obtain⟨_,rfl,x⟩:=u5.inv_ref F;cases G;obtain⟨vs,n,I⟩:=h.obj _ _ _ (ao g.pre x) p;obtain⟨w,m,b⟩:=jc I C;exact⟨_,w,rfl,.inl ⟨_,ABm _,.inl n,rfl,m.symm⟩,k _ _ ⟨d,M2,f,h,g1.trans g,b,E⟩⟩;exact j.elim
structure Qw(X:Cx)(es:List ge)(t:FJ):Prop where
 ok:Pw X es t
section
variable{X:Cx}{e a b c o i tg:ge}{es aM:List ge}{te ta tb tc to ti:x6}{t:Fn}{pos p p2 pos':Pos}{x:b9}{k:Nat}{g:Mh}{u:FJ}{name:b9}{apos cpos:Pos}
theorem Hf:Qw X [] gv:=⟨Ig⟩
theorem DP(h1:HG X e g)(h2:Qw X es u)(hs:(i7 (e::es) X.env).map (·.2)=i6 e X.env::(i7 es X.env).map (·.2):=by kernel_rfl):Qw X (e::es) (aG g u):=⟨EC h1.ok h2.ok hs⟩
theorem Kp(h:Qw X es u)(f:X.calm=a9:=by kernel_rfl)(a:(i7 es X.env).length=n:=by kernel_rfl)(c:(i7 es X.env).findIdx? (·.1)=a8:=by kernel_rfl):HG X (.Tuple es j pos) (gu n u):=⟨LB h.ok f a c⟩
theorem Kq(B:HE X o to)(hi:HE X i ti)(f:∀v,i6 (.Subscript o i pos) X.env v=(do
   let ov <-i4 [v] (eval o X.env)
   let iv <-i4 [v,ov] (eval i X.env)
   standAt pos
   i4 [v,ov,iv] (setItem ov iv v)
   release [v,ov,iv] []):=by intro _;kernel_rfl):HG X (.Subscript o i pos) (Bw to ti):=⟨LC B.ok hi.ok f⟩
theorem Fx(i:HE X e te)(R:HG X tg g)(hs:swapsWithSole [tg] e pos.line X.env=pure b7:=by kernel_rfl)(w:swappedStores [tg] e X.env=pure a8:=by kernel_rfl)(h1:(i7 [tg] X.env).map (·.2)=[i6 tg X.env]:=by kernel_rfl):HS X (.Assign [tg] e pos) (LO te g):=⟨Lw i.ok R.ok hs w h1⟩
theorem Km(d:X.mg "zip" = a8)(f:HA X [a,b] t)(R:X.env.kindOf "zip" = a7 .globalImplicit:=by kernel_rfl)(hs:h7 [a,b] X.env=[(b7,eval a X.env),(b7,eval b X.env)]:=by kernel_rfl)(m:h7 [b] X.env=[(b7,eval b X.env)]:=by kernel_rfl):HI X (.Tuple es x1 q) (.Call (.Name "zip" p) [a,b] [] pos) (dZip t):=⟨Ly d f.ok R hs m⟩
theorem Hw:J5 X (j3 .Add) aN:=⟨GI⟩
theorem HF:HC X (.type "list") xT:=⟨Iq⟩
theorem Ei:HC X (.type "tuple") iw:=⟨EQ⟩
theorem AU:ON X "extend" mC:=⟨_,PySem.F.slot_list_extend,PySem.F.type_list_extend,ye⟩
def jr(n:Nat):C6:=λds M Q=>match ds with
 | []=>∃xs,M[n]?=a7 (.lst xs)/\Q .non (M.set n<|.lst xs.reverse)
 |_=>False
theorem vj:J1 X "list.reverse" (ig X.K jr):=by rintro p s σ H x xs v us R I g d ⟨n,a,ds,M,ρ,Q,c,f,m,b,q,k⟩;unfold jr at q;split at q;obtain⟨ys,e,q⟩:=q;cases b;obtain⟨vs,h,r⟩:=m.obj n a _ f e;obtain⟨w,i⟩:=m.write f e h r.reverse;exact yd p s σ H x _ v us R I g d ⟨a,vs,c,rfl,h,k _ _ ⟨.non,_,ρ,w,i,.non,q⟩⟩;exact q.elim
theorem yr:ON X "reverse" jr:=⟨_,PySem.F.slot_list_reverse,PySem.F.type_list_reverse,vj⟩
def dMl0(r:Nat->C6)(e:x6):x6:=λS M Q=>e S M λx a=>match x with
 |.ref n=>(∃xs,am a n xs)/\r n [] a Q
 |_=>False
theorem k_ml0(m:ON X name r)(B:HE X o to)(e:m3 o name X.env (eval o X.env)=eval o X.env:=by kernel_rfl)(h:(apos.endLine==cpos.line)=a9:=by kernel_rfl):HE X (.Call (.Attribute o name apos) [] [] cpos) (dMl0 r to):=by
 obtain⟨id,h1,h2,j⟩:=m.ok;refine⟨PE.imp (JD PySem.F.plainAttrs_list h1 h2 j B.ok e h) ?_⟩;rintro σ H R ⟨S,M,ρ,Q,s,t,q,k⟩;refine⟨S,M,ρ,_,s,t,q,?_⟩;rintro v u ⟨d,b,f,i,g1,p,c⟩;cases p with
 |@ref n a g =>
  obtain⟨⟨xs,L⟩,c⟩:=(show (∃xs,am b n xs)/\r n [] b _ from c)
  obtain⟨vs,l,_⟩:=am.seq i L g;exact⟨.inl ⟨rfl,vs,l⟩,n,a,[],b,f,Q,rfl,g,i,.nil,c,λv H' w=>k v H'<|VQ.trans g1 w⟩
 |_=>exact c.elim
theorem KF:HE X (.Dict [] [] pos) EK:=⟨LL⟩
theorem CL(i:Room k X.A):X.A.units+1<j6:=by have:=i.un;lia
theorem KG(r:Room k X.A)(B:HE X o to)(hi:HE X i ti)(hs:FI i:=by intro _ _;kernel_rfl):HE X (.Subscript o i pos) (BD to ti):=⟨LM (CL r) B.ok hi.ok hs⟩
end
theorem w6.never{P:c8}{w:c7}{K:v4}{mg:b9->Option b8}{base:d6}{k:Nat}{x:b9}{st:i3}{ps:List b9}{c:A2}(F:cI K mg x st ps)(h:∀ds M R,¬c ds M R):w6 P w K mg base k x ps c:=by obtain⟨f,d,a,m,b⟩:=F;refine⟨f,d,⟨λvs H Q E q=>?_,λA o s H O us vs Q E _ _ _ _ q=>?_⟩,m,a.kp,b⟩;obtain⟨ds,M,ρ,R,_,_,q,_⟩:=q;exact(h ds M R q).elim;obtain⟨ds,M,ρ,R,_,_,q,_⟩:=q;exact(h ds M R q).elim
def IV(t:Nat)(s:List Nat)(wi:TI)(g:TG)(tt:TT)(te:TE)(N:TG):TS:=λD σ H=>Ro t s wi g tt te σ H λv a=>N v σ a D.nx
theorem CU(B:BlkSc X N' nt js scope)(hc:X.calm=a9)(hi:PI X tg iter wi)(hg:∀cl s0 H0 ex,PG (C5 X N' scope cl s0 H0 ex) tg g) (ht:∀cl s0 H0 ex,Nu (C5 X N' scope cl s0 H0 ex) ifs tt) (he:∀cl s0 H0 ex,PE (C5 X N' scope cl s0 H0 ex) elt te) (hn:PG X (.Name x pos') gN)(hs:∀x,j2 iter X.env x=pure x) (an:i5 (.ListComp elt [⟨tg,iter,ifs,0⟩] scope pos) (a7<|.Name x pos') pos2.line X.env=pure a9):PS X (.Assign [.Name x pos'] (.ListComp elt [⟨tg,iter,ifs,0⟩] scope pos) pos2) (IV nt js wi g tt te gN):=by
 intro f s σ H Dn I h;rw[exec_Assign_Name_used _ _ _ _ an];refine t6<|wpAny_standAt ?_;obtain⟨cl,U,j,D⟩:=kK (scope:=scope) (env:=X.env) λp hp hf=>I.ok.has p.1<|B.free p hp hf;refine t6<|show f9 (g7 X.prog X.w) X.A (comprehension (.ListComp elt [⟨tg,iter,ifs,0⟩] scope pos) scope X.env _ (newList []) b7 (eval iter X.env) (a7<|i6 (.Name x pos') X.env) >>= λ_=>pure ()) _ _ _ from t6 ?_;refine wpAny_comprehension_free (use:=a7<|i6 (.Name x pos') X.env) (Q:=λ_ r=>f9 (g7 X.prog X.w) X.A (pure ()) (λ_ s3=>f9 (g7 X.prog X.w) X.A (pure Flow.next) (SP X f Dn) X.xe s3) X.xe r) rfl hs U B.kind B.loc ?_;refine w9 (hi f s σ H _ I h) λv s1 h1=>w9 h1 λaD a h2=>?_;obtain⟨it,fp,tn,J,H2,e,l,T,S,N,W,⟨m0,w0⟩,L⟩:=h2;subst e;refine G4<|wpAny_newFunctionEnv B.nocell (by intro y hy;simp at hy) (λh1 E F=>?_) B.kind;have n:∀b∈fp,b<a.heap.objs.size:=λb i=>by obtain⟨o,e,_⟩:=T.obj _ _ S b i;exact z6 e
 have hC:(a.heap.push<|cT [] 0).objs.size=a.heap.objs.size+1:=L8 ..;have G:∀b o,(a.heap.push<|cT [] 0).get? b=a7 o->h1.get? b=a7 o:=λb o e=>(F.2 b<|A4<|z6 e).trans<|x5 _ e;have I3:=l.blkStart (tk:=a.toks+([]:List (b9×b8)).length) B j D N n G E;have K:tn 0 h1:=T.keep _ _ _ S λb _ o e=>G b o<|x5 _ e;have ai:a.heap.objs.size∉fp:=λz=>G0 _<|n _ z;have aj:a.heap.objs.size∉K2 X.stack:=λz=>by rcases A1.mp (l.stkSub _ z)with q|q;exact p7 l.lt (by rw[<-q];exact G0 _);exact l.nofs (v6 _) q
 have u:a.heap.objs.size≠(a.heap.push<|cT [] 0).objs.size:=by rw[hC];exact A4<|Ml _
 have ltc:∀z c,cl.lookup z=a7 c->c<a.heap.objs.size:=λz c e=>by obtain⟨v,q⟩:=l.cell z c<|j z c e;exact q.lt
 have t:∀b∈fp,b≠(a.heap.push<|cT [] 0).objs.size/\b∉K2 X.stack/\∀x c,cl.lookup x=a7 c->c≠b:=λb i=>by refine⟨by rw[hC];exact A4<|OB<|n b i,λz=>?_,λx c e=>(N b i).2.2.2.2.1 x c<|j x c e⟩;rcases A1.mp (l.stkSub b z)with q|q;exact(N b i).2.1 q;exact(N b i).2.2.1 q
 have as:a.heap.objs.size<=(a.heap.push<|cT [] 0).objs.size:=by rw[hC];exact OS _
 have m:j8 (g7 X.prog X.w) X.A (.compLoop (.ListComp elt [⟨tg,iter,ifs,0⟩] scope pos) 0 (.ref it) (.ref a.heap.objs.size)<|compEnvC scope cl (a.heap.push<|cT [] 0).objs.size X.env) (compPost (g7 X.prog X.w) X.A X.xe (a7<|i6 (.Name x pos') X.env) (λ_ r=>f9 (g7 X.prog X.w) X.A (pure ()) (λ_ s3=>f9 (g7 X.prog X.w) X.A (pure Flow.next) (SP X f Dn) X.xe s3) X.xe r) (.ref a.heap.objs.size) (a.heap.push<|cT [] 0).objs.size) { a with heap:=h1,toks:=a.toks+([]:List (b9×b8)).length }:=by
  refine AA (s0:={ a with heap:=a.heap.push (cT [] 0) }) (H0:=H2) (N':=N') (Q:=λv H1=>gN v σ H1 Dn.nx) hc (hg _ _ _ _) (ht _ _ _ _) (he _ _ _ _) T ai L t u aj (λx c e=>A4<|ltc x c e) ?_ m0 I3 K (λb i=>(N b i).1) w0;intro τ H' s' vs its k P rv hl q;obtain⟨mm,al,_⟩:=id P.loc;obtain⟨C,es,V,eC,aM⟩:=id al;have I5:t9 X f σ (x3 H' a.heap.objs.size<|.lst vs) s':=l.blkEnd N P rv hl ⟨rfl,λ_ _=>rfl⟩;have Y:x3 H' a.heap.objs.size (.lst vs) (a.heap.push<|cT [] 0).objs.size=a8:=by rw[ax<|z9 u];exact P.free
  have Z:∀Hx:Hp,Hx (a.heap.push<|cT [] 0).objs.size=a8->xv X f Hx (a.heap.push<|cT [] 0).objs.size:=λHx hx=>l.fpOk as hx;have dC:∀v,C.data≠.cell v:=λv z=>by
   have:∃es V,C.data=.dict es V:=by
    first
     |(obtain⟨d,_⟩:=aM;exact⟨_,_,d⟩)
     |(obtain⟨_,d,_⟩:=aM;exact⟨_,_,d⟩)
     |(obtain⟨_,_,d,_⟩:=aM;exact⟨_,_,d⟩)
   obtain⟨_,_,d⟩:=this;rw[d]at z;cases z
  have I6:t9 X (f++[((a.heap.push<|cT [] 0).objs.size,C)]) σ (x3 H' a.heap.objs.size<|.lst vs) s':=I5.pins_of λp hp=>by
   rcases F0.mp hp with hp|hp;exact I5.pin p<|Ix _ hp;have:p=((a.heap.push<|cT [] 0).objs.size,C):=by simpa using hp
   subst this;exact⟨eC,Y,(Z _ Y).2.1,(Z _ Y).2.2.1,dC⟩
  refine w9 (hn _ s' σ _ (.ref a.heap.objs.size) (.ref a.heap.objs.size) _ I6 rfl q) ?_;rintro _ s7 ⟨M,O,R,q7⟩;obtain⟨p1,p2,_⟩:=R.pin ((a.heap.push<|cT [] 0).objs.size,C)<|Ix _<|Ix _ D3;refine⟨mm,⟨C,es,V,p1,aM⟩,λh' sb=>t8<|t8 ⟨M,O,?_,q7⟩⟩;have I8:t9 X f M O s7:=R.pins_of λp hp=>R.pin p<|Ix _<|MW _ hp;refine I8.turnedL (t':=s7.toks) (fp:=[(a.heap.push<|cT [] 0).objs.size]) (λb i=>?_) λb o i e=>(sb.2 b<|by simpa using i).trans e;have:b=(a.heap.push<|cT [] 0).objs.size:=by simpa using i
  subst this;exact Z O p2
 exact codeAny_compStart_list m<|T.self _ 0 _ _ _ K m
def fQ(t:Nat)(s:List Nat)(b:Mw)(g:Mh)(tt:F8)(te:x6)(i:Nat):u3:=λE S M=>F6 t s b g tt te S M λd a=>af i d S a E.nx
theorem Ev(B:BlkSc X N' nt js scope)(f:X.calm=a9)(hi:DI X tg iter di)(R:∀cl s0 H0 ex,DG (C5 X N' scope cl s0 H0 ex) tg g) (D:∀cl s0 H0 ex,Nu (C5 X N' scope cl s0 H0 ex) ifs<|lowT X.K tt) (j:∀cl s0 H0 ex,DE (C5 X N' scope cl s0 H0 ex) elt te) (n:DG X (.Name x pos') (af i))(hs:∀x,j2 iter X.env x=pure x) (h:i5 (.ListComp elt [⟨tg,iter,ifs,0⟩] scope pos) (a7<|.Name x pos') pos2.line X.env=pure a9):DS X (.Assign [.Name x pos'] (.ListComp elt [⟨tg,iter,ifs,0⟩] scope pos) pos2) (fQ nt js di g tt te i):=PS.imp (CU (g:=lowG X.K g) (tt:=lowT X.K tt) (te:=lowE X.K te) B f hi (λcl s0 H0 ex=>R cl s0 H0 ex) D (λcl s0 H0 ex=>j cl s0 H0 ex) n hs h) λE σ H ⟨S,M,ρ,F,s,e,q,k⟩ =>
  Ap σ H _ ⟨S,M,ρ,_,s,e,q,λv o ⟨d,b,c,m,g1,r,l⟩=>⟨d,S,b,c,_,m,e.grow g1,r,l,λa H' w=>k.nx a H'<|SQ.trans g1 w⟩⟩
theorem DH(a:X.N.Nodup)(hi:HI X tg iter di)(R:∀cl s0 H0 ex,HG (C5 X N' scope cl s0 H0 ex) tg g) (D:∀cl s0 H0 ex,OM (C5 X N' scope cl s0 H0 ex) ifs tt) (e:∀cl s0 H0 ex,HE (C5 X N' scope cl s0 H0 ex) elt te) (B:pE X.env.scope.names X.N N' nt js scope=a9:=by kernel_rfl) (f:X.calm=a9:=by kernel_rfl)(hs:∀x,j2 iter X.env x=pure x:=by intro _;kernel_rfl) (w:i5 (.ListComp elt [⟨tg,iter,ifs,0⟩] scope pos) (a7<|.Name x pos') pos2.line X.env=pure a9:=by kernel_rfl)(h:X.N[i]?=a7 x:=by kernel_rfl) (c:IG X.env.scope x=a9:=by kernel_rfl) (b:X.fn x=a9:=by kernel_rfl):HS X (.Assign [.Name x pos'] (.ListComp elt [⟨tg,iter,ifs,0⟩] scope pos) pos2) (fQ nt js di g tt te i):=⟨Ev (BlkSc.chk B) f hi.ok (λcl s0 H0 ex=>(R cl s0 H0 ex).ok) (λcl s0 H0 ex=>(D cl s0 H0 ex).ok) (λcl s0 H0 ex=>(e cl s0 H0 ex).ok) (vO a h (Ar c)<|.inl b) hs w⟩
theorem OL:atI (a::r) 0=a7 a:=by have:=ar (xs:=a::r) (j:=0) (v:=a) rfl;simpa using this
theorem MZ:atI (a::b::r) 1=a7 b:=by have:=ar (xs:=a::b::r) (j:=1) (v:=b) rfl;simpa using this
theorem Qt:atI (a::b::c::r) 2=a7 c:=by have:=ar (xs:=a::b::c::r) (j:=2) (v:=c) rfl;simpa using this
theorem aY.lst(h:R (.ref M.length) (M++[.lst xs]))(f:M.length<=n)(e:(M++L)[n]?=a7 (.lst xs))(b:Bels M.length xs):aY M R (.ref n) (M++L):=.inr<|.inr ⟨M,n,xs,.refl,rfl,f,e,Mm _ _,b,h⟩
theorem aY.chgL(c:Px M M1)(h:R (.ref M.length) (M1++[.lst xs]))(f:M.length<=n)(e:M'[n]?=a7 (.lst xs))(p:M1 <+: M')(b:Bels M.length xs):aY M R (.ref n) M':=.inr<|.inr ⟨M1,n,xs,c,rfl,f,e,p,b,h⟩
theorem mx:(M++a::L).set M.length b=M++b::L:=by rw[QZ _ _<|v6 _];simp
theorem bX:(M++a::L)[M.length]?=a7 a:=by simp
theorem Gm:M <+: M++L:=Mm _ _
theorem gY(I:List D->List D->SD->u8->Prop)(h0:∀acc S M,I [] acc S M->ok M/\Q (.ref M.length) (M++[.lst acc]))(h1:∀x xs acc S M,I (x::xs) acc S M->∀K:List D->SD->u8->Prop,(∀acc S M,I xs acc S M->K acc S M)->ok M/\g x S M λS2 M2=>tt S2 M2 λb M3=>if b=a9 then te S2 M3 λy M4=>acc.length<sizeLine/\K (acc++[y]) S2 M4 else K acc S2 M3):∀xs acc S M,I xs acc S M->nE ok g tt te Q xs acc S M
 | [],acc,S,M,h=>h0 acc S M h
 |x::xs,acc,S,M,h=>h1 x xs acc S M h _<|gY I h0 h1 xs
noncomputable def Pf:D->b9
 |.str x=>x
 |_=>Str.empty
theorem zT{ys:List D}{s:List b9}(h:ys.Perm (s.map D.str)):∃ns:List b9,ys=ns.map D.str/\ns.Perm s:=by
 refine⟨ys.map Pf,?_,?_⟩;rw[D9];have:∀y∈ys,(D.str ∘ Pf) y=y:=λy Q=>by obtain⟨x,_,rfl⟩:=z5.mp<|h.mem_iff.mp Q;rfl
 exact(NR this ▸ (List.map_id' ys).symm:ys=ys.map (D.str ∘ Pf));have:=h.map Pf;rw[D9]at this;have e:(Pf ∘ D.str)=id:=rfl
 rwa [e,NK]at this
theorem xM{M:u8}{s:List b9}(h:s.length<64):SrtOk M (s.map D.str):=by refine⟨by rw[v7];exact h,λx a=>?_,λx a y Q=>?_,.inl λx a=>?_⟩;obtain⟨z,_,rfl⟩:=z5.mp a;rfl;obtain⟨z,_,rfl⟩:=z5.mp a;obtain⟨G,_,rfl⟩:=z5.mp Q;rfl;obtain⟨z,_,rfl⟩:=z5.mp a;exact⟨z,rfl⟩
theorem wM:(kX kvs k d).length<=kvs.length+1/\1<=(kX kvs k d).length:=by unfold kX;by_cases q:(kvs.any λp=>decide<|p.1=k)=a9;rw[o8 q,v7];obtain⟨p,hp,_⟩:=MK.mp q;have:0<kvs.length:=List.length_pos_of_mem hp;lia;rw[p4 q,A3,F3];lia
theorem gU:(M++a::b::L)[M.length+1]?=a7 b:=by rw[MC (by lia),show M.length+1-M.length=1 by lia];rfl
noncomputable def bj(w:c7):d5:={ cls:=.type "set",dict:=a8,data:=.set #[] 0 (.fresh 0 0<|!w.params.followText "set-order") }
theorem vQ(a:b8)(h:Q₁ (.ref s.heap.objs.size) { s with heap:=s.heap.push (bj w) }):j8 (g7 prog w) A (.call (.builtin "set.__new__") ⟨[.type "set",a],[]⟩) (wants Q₁ E) s:=by
 refine codeAny_of_tree<|show f9 (g7 prog w) A.in1 (do checkBuiltinCall "set.__new__" ⟨[.type "set",a],[]⟩;again (.builtin "set.__new__" ⟨[.type "set",a],[]⟩)) _ _ s from ?_;refine t6<|OR (F.newCall_set_1 a)<|t8 ⟨NA F.plain_set_new _,NC F.entry_set_new ?_⟩;rw[NU F.plain_set_new _];have e:=sub_set_self;obtain⟨hp,g,d,q,c⟩:=s;unfold Builtin.«set.__new__» Builtin.Frozenset.newClass;dsimp only
 wp_walk
 refine Oz<|t8 ?_;simp only[newObj];exact t6<|wpAny_alloc<|t8<|t8 h
structure TxSrc(prog:c8)(w:c7)(h:d6)(l:c9)(T:String)(n:Nat)(P:Nat->b8->Prop):Prop where
 obj:∃o,h.get? l=a7 o/\o.cls=.type T
 ns:isSubtype (.type T) (.type "set")=pure b7
 nf:isSubtype (.type T) (.type "frozenset")=pure b7
 nd:(Oq T==Oq "dict")=b7
 iter:∀(A:e8) (s':f6),A.handled=a8->(∀o,h.get? l=a7 o->s'.heap.get? l=a7 o)->∃(oI:d5) (St:Nat->d6->Prop),(∀(E:b8->f6->Prop) (Q:b8->f6->Prop),Q (.ref s'.heap.objs.size) { s' with heap:=s'.heap.push oI }->f9 (g7 prog w) A (j0<|.ref l) Q E s') /\Walks prog w A s'.heap.objs.size [s'.heap.objs.size,l] [s'.heap.objs.size] n P St/\St 0 (s'.heap.push oI)
theorem uR:isSubtype (.type "tuple") (.type "set")=pure b7:=by rw[isSubtype_type];kernel_rfl
theorem sK:isSubtype (.type "tuple") (.type "frozenset")=pure b7:=by rw[isSubtype_type];kernel_rfl
theorem TxSrc.list(g:h.IsList l its):TxSrc prog w h l "list" its.size (λi v=>its[i]?=a7 v):=by
 refine⟨let ⟨o,e,c,_⟩:=g;⟨o,e,c⟩,F.sub_list_set,F.sub_list_frozenset,by decide,λA s' b k=>?_⟩;have a:s'.heap.IsList l its:=g.at k;have lt:l<s'.heap.objs.size:=let ⟨o,e,_⟩:=a;z6 e
 exact⟨_,_,λE Q q=>QO a q,Walks.list b _ l (A4 lt) its,⟨_,A8 _ rfl,rfl,rfl⟩,a.push _⟩
theorem TxSrc.tuple(g:h.IsTuple l its):TxSrc prog w h l "tuple" its.size (λi v=>its[i]?=a7 v):=by
 refine⟨let ⟨o,e,c,_⟩:=g;⟨o,e,c⟩,uR,sK,by decide,λA s' b k=>?_⟩;have a:s'.heap.IsTuple l its:=let ⟨o,e,r⟩:=g;⟨o,k o e,r⟩
 have lt:l<s'.heap.objs.size:=let ⟨o,e,_⟩:=a;z6 e
 exact⟨_,_,λE Q q=>wpAny_pyIter_tuple a q,Walks.tuple b _ l (A4 lt) its,⟨_,A8 _ rfl,rfl,rfl⟩,let ⟨o,e,r⟩:=a;⟨o,x5 _ e,r⟩⟩
theorem bm:Slot "set_iterator" "__next__" "set_iterator.__next__":=.of (owner:="set_iterator") (n:="__next__") (by rw[PP,Qg];kernel_rfl) (by decide +kernel) (by decide +kernel) (by decide +kernel) (by first|exact .inl (by decide +kernel)|exact .inr<|by decide +kernel)<|by rw[isSubtype_type];kernel_rfl
theorem fv:entryFor table "set_iterator.__next__" = a7 Builtin.«set_iterator.__next__»:=entryFor_of_tree<|by kernel_rfl
theorem mO:Manifest.owners.lookup (String.ofList ['r','o','t','a','r','e','t','i','_','t','e','s'].reverse)=a7 Manifest.sig_set_iterator:=by kernel_rfl
theorem gZ(a:b8):argsOk "set_iterator.__next__" ⟨[a],[]⟩:=by unfold argsOk;rw[signature?_of (id:="set_iterator.__next__") (n:=['_','_','t','x','e','n','_','_']) (o:=['r','o','t','a','r','e','t','i','_','t','e','s']) (by kernel_rfl) mO];kernel_rfl
theorem qJ:entryFor table "set.__iter__" = a7 Builtin.«frozenset.__iter__»:=entryFor_alias (id':="frozenset.__iter__") (by kernel_rfl) rfl (by decide +kernel)<|by kernel_rfl
theorem jX{α:Type}:∀(l:List α) (i:Nat) (h:i<l.length),(l[i]::l.eraseIdx i).Perm l
 |x::l,0,_=>O0 _
 |x::l,i+1,h=>by
  have h':i<l.length:=by simpa using h
  exact(List.Perm.swap x l[i]<|l.eraseIdx i).trans<|Qy x<|jX l i h'
theorem yG(f:n≠0)(h:∀i d,i<n->Q i { s with drawn:=d }):f9 M A (choose src n) Q E s:=by intro Γ p a;show Sem.wp M Γ (Sem.choose src n λi=>Sem.pure i) _ _ p s;rw[Sem.wp_choose];refine⟨f,?_⟩;rw[Sem.wp_pure];exact h _ _<|Nat.mod_lt _<|Nat.pos_of_ne_zero f
theorem ub{α:Type}{M:Model}{A:e8}{E:b8->f6->Prop}:∀(n:Nat) (xs:List α) (s:f6) (Q:List α->f6->Prop),xs.length=n->(∀ys d,ys.Perm xs->Q ys { s with drawn:=d })->f9 M A (drawOrder n xs) Q E s
 | 0,xs,s,Q,e,h=>by
  cases xs with
  |nil=>exact t8<|h [] s.drawn<|O0 _
  |cons _ _=>cases e
 |n+1,[],s,Q,e,h=>by cases e
 |n+1,x::xs,s,Q,e,h=>by unfold drawOrder;refine t6<|yG (by simp) λi d hi=>?_;rw[x9 hi];refine t6<|ub n ((x::xs).eraseIdx i) { s with drawn:=d } _ (by rw[List.length_eraseIdx_of_lt hi];simp at e ⊢;lia) λys d' hp=>t8<|h _ d' ?_;exact(Qy _ hp).trans<|jX _ i hi
theorem mF{α:Type}(next:Nat->Nat)(xs:Array α):(o4 next xs).toList.Perm xs.toList:=by
 have o:∀(l k:Nat) (left:List α) (out:Array α),left.length=l->(pickOrder.go next l k left out).toList.Perm (out.toList++left):=by
  intro l;induction l with
  |zero =>
   intro k left out e;cases left with
   |nil=>simp[pickOrder.go]
   |cons _ _=>cases e
  |succ n i=>intro k left out e;have hi:next k % left.length<left.length:=Nat.mod_lt _ (by lia);unfold pickOrder.go;rw[x9 hi];dsimp only;refine(i (k+1) _ _<|by rw[List.length_eraseIdx_of_lt hi];lia).trans ?_;rw[QN,G3];exact List.Perm.append_left _<|jX _ _ hi
 have:=o xs.size 0 xs.toList #[] (by simp);simpa [o4]using this
noncomputable def fu(first:b8)(i n:Nat)(a:c9)(ep:Nat):d5:={ cls:=.type "set_iterator",data:=.fields #[first,j1 i,.ref a,j1 n,j1 ep] }
structure SetAt(h:d6)(a:c9)(o:d5)(es:Array (Int×b8))(ep:Nat)(t:o5):Prop where
 ob:h.get? a=a7 o
 dt:o.data=.set es ep t
 ft:t.fits es.size=a9
theorem oS(c:A.handled=a8)(h:∀h' e,(∀b o,s.heap.get? b=a7 o->h'.get? b=a7 o)->(∃o,h'.get? e=a7 o/\o.cls=.type "StopIteration")->F (.ref e) { s with heap:=h' }):f9 (g7 prog w) A (do raiseNew (<-newExc (.type "StopIteration") []):Sem Fin) Q F s:=by refine t6 ?_;simp only[newExc,newTuple];refine t6 (G4 (t6 (m:=n9 _ _)<|OR (a:=ABN) (by first|rfl|(simp only[n9];rfl))<|G4 ?_<|by size_fits)<|by size_fits);simp only[raiseNew];refine t6<|PF ?_;rw[c];exact t6<|t8<|wpAny_throw<|h _ _ (λb o e=>x5 _<|x5 _ e) ⟨_,A8 _ rfl,rfl⟩
theorem mW{slot i next:Nat}{x:b8}{Q:Option b8->f6->Prop}(I:s.heap.get? it=a7 (fu (j1 slot) i es.size a ep))(S:SetAt s.heap a o es ep t)(f:∀(A:e8) (E:b8->f6->Prop) (Q:Option (b8×Nat)->f6->Prop),Q (a7 (x,next)) s->f9 (g7 prog w) A (setNext a slot i ep) Q E s)(b:∀h',h'.get? it=a7 (fu (j1 next) (i+1) es.size a ep)->G9 it s.heap h'->Q (a7 x) { s with heap:=h' }):f9 (g7 prog w) A (i8<|.ref it) Q E s:=by
 have n:s.TypeIs (.ref it) "set_iterator":=⟨_,I,rfl⟩
 unfold i8;refine t6<|Nb<|Mo (name:=u4 "__next__") n bm<|F5 bm n fv ?_<|gZ _;unfold Builtin.«set_iterator.__next__»;refine t6<|t8<|t6<|Ms I rfl ?_;dsimp only[fu,j1];refine t6<|Qd S.ob S.dt S.ft ?_;rw[p4<|by simp];refine t6<|f _ _ _ ?_;dsimp only;refine t6<|MU I rfl (by simp)<|t6<|MU (L4 _ I rfl) rfl (by simp)<|t8 ⟨x,rfl,t8<|b _ ?_<|(L3 ..).trans<|L3 ..⟩;refine(L4 _ (L4 _ I rfl) rfl).trans ?_;simp[fu,Ou,j1]
theorem fh{slot i:Nat}{Q:Option b8->f6->Prop}(g:A.handled=a8)(I:s.heap.get? it=a7 (fu (j1 slot) i es.size a ep))(S:SetAt s.heap a o es ep t)(j:∀(A:e8) (E:b8->f6->Prop) (Q:Option (b8×Nat)->f6->Prop),Q a8 s->f9 (g7 prog w) A (setNext a slot i ep) Q E s)(h:∀h',(∀b o,b≠it->s.heap.get? b=a7 o->h'.get? b=a7 o)->Q a8 { s with heap:=h' }):f9 (g7 prog w) A (i8<|.ref it) Q E s:=by
 have n:s.TypeIs (.ref it) "set_iterator":=⟨_,I,rfl⟩
 unfold i8;refine t6<|Nb<|Mo (name:=u4 "__next__") n bm<|F5 bm n fv ?_<|gZ _;unfold Builtin.«set_iterator.__next__»;refine t6<|t8<|t6<|Ms I rfl ?_;dsimp only[fu,j1];refine t6<|Qd S.ob S.dt S.ft ?_;rw[p4<|by simp];refine t6<|j _ _ _ ?_;dsimp only;refine t6<|MU I rfl (by simp) ?_;refine oS (by simp[g]) ?_;rintro h' e k ⟨y,c,f⟩;refine t6<|NQ (T:="StopIteration") (b:=a9) ⟨y,c,f⟩ OZ<|t8<|h h' λb l d M=>k b l ?_;exact((L3 ..).2 b d).trans M
theorem yb{tt:c9}{ps:List Nat}{i j:Nat}{e:Int×b8}{Q:Option b8->f6->Prop}(I:s.heap.get? it=a7 (fu (.ref tt) i es.size a ep))(C:s.heap.IsTuple tt (ps.map λ(k:Nat)=>j1 k).toArray)(S:SetAt s.heap a o es ep t)(hj:ps[i]?=a7 j) (d:es[j]?=a7 e) (c:∀h',h'.get? it=a7 (fu (.ref tt) (i+1) es.size a ep)->G9 it s.heap h'->Q (a7 e.2) { s with heap:=h' }):f9 (g7 prog w) A (i8<|.ref it) Q E s:=by
 have n:s.TypeIs (.ref it) "set_iterator":=⟨_,I,rfl⟩
 obtain⟨g,b,_,f,h⟩:=C;unfold i8;refine t6<|Nb<|Mo (name:=u4 "__next__") n bm<|F5 bm n fv ?_<|gZ _;unfold Builtin.«set_iterator.__next__»;refine t6<|t8<|t6<|Ms I rfl ?_;dsimp only[fu,j1];refine t6<|Qd S.ob S.dt S.ft ?_;rw[p4<|by simp];refine t6<|Mt b h ?_;have x:(ps.map λ(k:Nat)=>j1 k).toArray[i]?=a7 (.int j 0):=by simp[hj,j1]
 simp only[J4,x];unfold setNextDrawn;refine t6<|t6<|Ng S.ob S.dt S.ft ?_;simp only[bne_self_eq_false,A7,r9,d];refine t8<|t6<|MU I rfl (by simp)<|t8 ⟨_,rfl,t8<|c _ ?_<|L3 ..⟩;refine(L4 _ I rfl).trans ?_;simp[fu,Ou,j1]
theorem nT{tt:c9}{ps:List Nat}{i:Nat}{Q:Option b8->f6->Prop}(l:A.handled=a8)(I:s.heap.get? it=a7 (fu (.ref tt) i es.size a ep))(C:s.heap.IsTuple tt (ps.map λ(k:Nat)=>j1 k).toArray)(S:SetAt s.heap a o es ep t)(hj:ps[i]?=a8) (d:∀h',(∀b o,b≠it->s.heap.get? b=a7 o->h'.get? b=a7 o)->Q a8 { s with heap:=h' }):f9 (g7 prog w) A (i8<|.ref it) Q E s:=by
 have n:s.TypeIs (.ref it) "set_iterator":=⟨_,I,rfl⟩
 obtain⟨r,c,_,q,h⟩:=C;unfold i8;refine t6<|Nb<|Mo (name:=u4 "__next__") n bm<|F5 bm n fv ?_<|gZ _;unfold Builtin.«set_iterator.__next__»;refine t6<|t8<|t6<|Ms I rfl ?_;dsimp only[fu,j1];refine t6<|Qd S.ob S.dt S.ft ?_;rw[p4<|by simp];refine t6<|Mt c h ?_;have x:(ps.map λ(k:Nat)=>j1 k).toArray[i]?=a8:=by simpa using hj
 simp only[J4,x];refine t6<|MU I rfl (by simp)<|t6<|MU (L4 _ I rfl) rfl (by simp) ?_;refine oS (by simp[l]) ?_;rintro h' e m ⟨y,j,g⟩;refine t6<|NQ (T:="StopIteration") (b:=a9) ⟨y,j,g⟩ OZ<|t8<|d h' λb p f M=>m b p ?_;exact(((L3 ..).trans<|L3 ..).2 b f).trans M
end L2
namespace L2
theorem nodup_le{α:Type}[DecidableEq α]:∀(l xs:List α),l.Nodup->(∀x∈l,x∈xs)->l.length<=xs.length
 | [],xs,_,_=>B5 _
 |a::l,xs,nd,h=>by have ha:a∈xs:=h a D3;have nd':=J7.mp nd;have ih:=nodup_le l (xs.erase a) nd'.2 λx hx=>(List.mem_erase_of_ne<|show x≠a from λz=>nd'.1<|by rw[<-z];exact hx).mpr<|h x<|C4 _ hx;rw[List.length_erase_of_mem ha]at ih;have:0<xs.length:=List.length_pos_of_mem ha;rw[C0];lia
end L2
namespace Ht
open PySem
noncomputable def Pn(m:Nat)(p:N5):N5:=if p.more > 0 then { p with j:=p.j+1,more:=p.more-1 } else
 { p with j:=(NO m p.i p.perturb).1,more:=K4 m (NO m p.i p.perturb).1-(NO m p.i p.perturb).1,i:=(NO m p.i p.perturb).1,perturb:=(NO m p.i p.perturb).2 }
noncomputable def jL(m i t:Nat):N5:={ j:=i,more:=K4 m i-i,i,perturb:=t,dummy:=a8 }
noncomputable def mw(m:Nat)(p:N5):Nat->N5
 | 0=>p
 |n+1=>Pn m<|mw m p n
noncomputable def sq(m:Nat)(h:Int)(n:Nat):N5:=mw m (jL m (Nq h % (m+1))<|Nq h) n
theorem sL(m:Nat)(p:N5)(a b:Nat):mw m p (a+b)=mw m (mw m p a) b:=by
 induction b with
 |zero=>rfl
 |succ b i=>rw[Nat.add_succ,mw,i];rfl
theorem Je(m i:Nat):K4 m i-i<=9:=by unfold K4;split<;>lia
theorem AS(m i pt:Nat):∀k,k<=K4 m i-i->mw m (jL m i pt) k={ j:=i+k,more:=K4 m i-i-k,i,perturb:=pt,dummy:=a8 }
 | 0,_=>by simp[mw,jL]
 |k+1,h=>by rw[mw,AS m i pt k<|by lia];unfold Pn;rw[o8<|show K4 m i-i-k > 0 by lia];simp only[SetTable.Probe.mk.injEq,true_and,and_true];lia
theorem Dl(m i t:Nat):mw m (jL m i t) (K4 m i-i+1)=jL m (NO m i t).1 (NO m i t).2:=by rw[mw,AS m i t _<|v6 _];unfold Pn;rw[p4<|show ¬K4 m i-i-(K4 m i-i) > 0 by lia];rfl
noncomputable def eY(m:Nat)(h:Int):Nat->Nat×Nat
 | 0=>(Nq h % (m+1),Nq h)
 |k+1=>NO m (eY m h k).1 (eY m h k).2
noncomputable def fB(m:Nat)(h:Int):Nat->Nat
 | 0=>0
 |k+1=>fB m h k+(K4 m (eY m h k).1-(eY m h k).1+1)
theorem EZ(m:Nat)(h:Int)(k:Nat):fB m h k<=10*k:=by
 induction k with
 |zero=>exact v6 _
 |succ k i=>have:=Je m (eY m h k).1;unfold fB;lia
theorem Fi(m:Nat)(h:Int)(k:Nat):sq m h (fB m h k)=jL m (eY m h k).1 (eY m h k).2:=by
 induction k with
 |zero=>rfl
 |succ k i=>unfold sq at i ⊢;unfold fB;rw[sL,i,Dl];rfl
theorem zE(m:Nat)(h:Int)(k r:Nat)(i:r<=K4 m (eY m h k).1-(eY m h k).1):(sq m h<|fB m h k+r).j=(eY m h k).1+r:=by have e:=Fi m h k;unfold sq at e ⊢;rw[sL,e,AS _ _ _ _ i]
theorem Iw(h:Int):Nq h<2 ^ 64:=by unfold Nq;have a:=Int.emod_nonneg h (show (2 ^ 64:Int)≠0 by decide);have h1:=Int.emod_lt_of_pos h (show (0:Int)<2 ^ 64 by decide);lia
theorem oZ(m:Nat)(h:Int):∀k,(eY m h k).2=Nq h / 32 ^ k
 | 0=>by simp[eY]
 |k+1=>by show (eY m h k).2 / 32=_;rw[oZ m h k,Nat.div_div_eq_div_mul,<-Nat.pow_succ]
theorem tp(m:Nat)(h:Int)(k:Nat)(a:13<=k):(eY m h k).2=0:=by
 rw[oZ];apply Nat.div_eq_of_lt;have h1:=Iw h;have h2:32 ^ 13<=32 ^ k:=Nat.pow_le_pow_right (by decide) a;have b:(2:Nat) ^ 64<32 ^ 13:=by decide
 lia
noncomputable def vW(m i:Nat):Nat:=(i*5+1) % (m+1)
noncomputable def bT(m i:Nat):Nat->Nat
 | 0=>i
 |k+1=>vW m<|bT m i k
theorem eR(m i a b:Nat):bT m i (a+b)=bT m (bT m i a) b:=by
 induction b with
 |zero=>rfl
 |succ b h=>rw[Nat.add_succ,bT,h];rfl
theorem uU(m:Nat)(h:Int)(r:Nat):(eY m h<|13+r).1=bT m (eY m h 13).1 r:=by
 induction r with
 |zero=>rfl
 |succ r i=>show (NO m (eY m h<|13+r).1 (eY m h<|13+r).2).1=vW m (bT m (eY m h 13).1 r);rw[tp m h _ (by lia),i];rfl
theorem uV(m:Nat)(h:Int):∀k,(eY m h k).1<=m
 | 0=>Nat.lt_succ_iff.mp<|Nat.mod_lt _<|Nat.succ_pos _
 |k+1=>Nat.lt_succ_iff.mp<|Nat.mod_lt _<|Nat.succ_pos _
def II(m:Nat):Prop:=bT m 0 (m+1)=0/\∀s,s<=m->∃k,k<=m/\bT m 0 k=s
noncomputable def ve(m:Nat):Nat->Nat->List Nat
 | 0,_=>[]
 |n+1,i=>i::ve m n (vW m i)
theorem mP(m:Nat):∀(n i k:Nat),k<n->(ve m n i)[k]?=a7 (bT m i k)
 | 0,_,_,h=>p7 h<|ND _
 |n+1,i,0,_=>rfl
 |n+1,i,k+1,h=>by rw[ve,Qj,mP m n (vW m i) k (by lia),<-show bT m (bT m i 1) k=bT m i (k+1)from by rw[<-eR,Nat.add_comm]];rfl
theorem vJ(m:Nat)(h:((ve m (m+2) 0)[m+1]?==a7 0&&(D0<|m+1).all λs=>(ve m (m+1) 0).contains s)=a9):II m:=by
 rw[E4,p9,E8]at h;refine⟨?_,λs hs=>?_⟩;have:=mP m (m+2) 0 (m+1) (by lia);rw[h.1]at this;exact(C3 this).symm;have:=h.2 s (I0.mpr<|by lia);rw[List.contains_iff_mem]at this;obtain⟨k,a⟩:=MP this;have g:k<m+1:=by
  have:=(A6.mp a).1;have B:∀n i,(ve m n i).length=n:=by
   intro n;induction n with
   |zero=>intro i;rfl
   |succ n b=>intro i;simp[ve,b]
  rw[B]at this;exact this
 rw[mP m _ 0 k g]at a;exact⟨k,by lia,C3 a⟩
theorem full7:II 7:=vJ 7<|by decide +kernel
theorem Lh:II 31:=vJ 31<|by decide +kernel
theorem HJ:II 127:=vJ 127<|by decide +kernel
theorem Ba(F:II m)(hi:i<=m)(hs:s<=m):∃k,k<=m/\bT m i k=s:=by obtain⟨a,f,c⟩:=F.2 i hi;obtain⟨b,d,M⟩:=F.2 s hs;by_cases h:a<=b;refine⟨b-a,by lia,?_⟩;rw[<-c,<-eR,show a+(b-a)=b by lia];exact M;refine⟨m+1-a+b,by lia,?_⟩;rw[<-c,<-eR,show a+(m+1-a+b)=(m+1)+b by lia,eR,F.1];exact M
def oj(m:Nat):Prop:=m=7\/m=31\/m=127
theorem oj.full(h:oj m):II m:=by rcases h with rfl|rfl|rfl;exact full7;exact Lh;exact HJ
theorem FG(d:oj m)(h:Int)(hs:s<=m):∃k,k<=m+13/\(eY m h k).1=s:=by obtain⟨r,i,e⟩:=Ba d.full (uV m h 13) hs;exact⟨13+r,by lia,by rw[uU];exact e⟩
theorem Gb(d:oj m)(h:Int)(hs:s<=m):∃n,n<10*(m+15)/\(sq m h n).j=s:=by obtain⟨k,a,e⟩:=FG d h hs;refine⟨fB m h k,by have:=EZ m h k;lia,?_⟩;rw[Fi];exact e
theorem IZ(h:Int):∀n,∃k r,r<=K4 m (eY m h k).1-(eY m h k).1/\n=fB m h k+r
 | 0=>⟨0,0,B5 _,rfl⟩
 |n+1=>by obtain⟨k,r,hr,e⟩:=IZ (m:=m) h n;by_cases q:r<K4 m (eY m h k).1-(eY m h k).1;exact⟨k,r+1,q,by lia⟩;exact⟨k+1,0,B5 _,by rw[fB];lia⟩
theorem zD(h:Int)(n:Nat):(sq m h n).j<=m:=by obtain⟨k,r,i,e⟩:=IZ (m:=m) h n;rw[e,zE m h k r i];have:=uV m h k;unfold K4 at i;split at i<;>lia
theorem below_spec(xs:Array Nat)(v:xs.toList.Pairwise (· < ·))(j:Nat):E7 xs j<=xs.size/\(∀k (h:k<xs.size),k<E7 xs j->xs[k]<j)/\∀k (h:k<xs.size),E7 xs j<=k->j<=xs[k]:=by
 have m:∀a b (g:a<xs.size) (i:b<xs.size),a<b->xs[a]<xs[b]:=λa b g i h=>by have:=Qk.mp v a b (by simpa using g) (by simpa using i) h;simpa using this
 have r:∀(l o hi:Nat),o<=hi->hi<=xs.size->hi-o<=l->(∀k (h:k<xs.size),k<o->xs[k]<j)->(∀k (h:k<xs.size),hi<=k->j<=xs[k]) -> OA xs j l o hi<=xs.size/\(∀k (h:k<xs.size),k<OA xs j l o hi->xs[k]<j)/\∀k (h:k<xs.size),OA xs j l o hi<=k->j<=xs[k]:=by
  intro l;induction l with
  |zero =>
   intro o hi h1 h2 s d c;have:o=hi:=by lia
   subst this;exact⟨h2,d,c⟩
  |succ l n =>
   intro o hi h1 h2 s d c;unfold OA;by_cases h:o<hi;rw[o8 h];have f:(o+hi) / 2<xs.size:=by lia
   have p:xs.getD ((o+hi) / 2) j=xs[(o+hi) / 2]:=by simp[MT,f]
   simp only[p];by_cases q:xs[(o+hi) / 2]<j;rw[o8 q];refine n _ _ (by lia) h2 (by lia) (λk e u=>?_) c;rcases Mx k ((o+hi) / 2)with z|z;exact PC (m k _ e f z) q;have:k=(o+hi) / 2:=by lia
   subst this;exact q;rw[p4 q];refine n _ _ (by lia) (by lia) (by lia) d λk e t=>?_;rcases Mx ((o+hi) / 2) k with z|z;exact F4 (Nw.mp q)<|NN<|m _ k f e z;have:k=(o+hi) / 2:=by lia
   subst this;exact Nw.mp q;rw[p4 h];have:o=hi:=by lia
   subst this;exact⟨h2,d,c⟩
 exact r xs.size 0 xs.size (B5 _) (v6 _) (by lia) (λk _ h=>p7 h<|ND _) λk h h'=>p7 h<|Nw.mpr h'
theorem below_at(r:xs.toList.Pairwise (· < ·))(h:xs[i]?=a7 j):E7 xs j=i:=by
 obtain⟨hi,e⟩:=Ni.mp h;obtain⟨g,c,u⟩:=below_spec xs r j;have m:∀a b (f:a<xs.size) (d:b<xs.size),a<b->xs[a]<xs[b]:=λa b f d h=>by have:=Qk.mp r a b (by simpa using f) (by simpa using d) h;simpa using this
 rcases P6 (E7 xs j) i with q|q|q;have d:E7 xs j<xs.size:=by lia
 have:=u _ d<|v6 _;have:=m _ i d hi q;lia;exact q;have:=c i hi q;lia
theorem slot_live{t:o5}(r:t.place.toList.Pairwise (· < ·)){i j:Nat}(h:t.place[i]?=a7 j):t.slot j=.live i:=by unfold SetTable.slot;simp only[below_at r h];rw[o8<|by rw[h];simp]
theorem xP{t:o5}(d:t.dummies = #[]){j:Nat}(h:j∉t.place.toList):t.slot j=.empty:=by
 unfold SetTable.slot;have e:¬(t.place[E7 t.place j]?==a7 j)=a9:=λz=>h (by rw[p9]at z;have:=Array.mem_of_getElem? z;simpa using this);have l:SetTable.has t.dummies j=b7:=by rw[d];rfl
 simp only[e,r9,l,A7]
theorem go_spec{t:o5}(r:t.place.toList.Pairwise (· < ·))(x:t.dummies = #[])(hashAt:Nat->Int)(h:Int):∀(fuel n N:Nat),n<=N->N<n+fuel->(sq t.mask h N).j∉t.place.toList->(∀k,n<=k->k<N->(sq t.mask h k).j∈t.place.toList) ->(∀k,(sq t.mask h k).dummy=a8) ->((∀k i,n<=k->k<N->t.place[i]?=a7 (sq t.mask h k).j->hashAt i≠h)/\Rz t hashAt h fuel (sq t.mask h n)=a7 (.empty (sq t.mask h N).j a8)) \/∃n' i,n<=n'/\n' < N/\t.place[i]?=a7 (sq t.mask h n').j/\hashAt i=h/\(∀k i,n<=k->k<n'->t.place[i]?=a7 (sq t.mask h k).j->hashAt i≠h)/\Rz t hashAt h fuel (sq t.mask h n)=a7 (.candidate (sq t.mask h n').j i<|sq t.mask h<|n'+1):=by
 intro fuel;induction fuel with
 |zero=>intro n N h1 h2;lia
 |succ fuel A =>
  intro n N h1 h2 g l m;unfold Rz;by_cases e:n=N;subst e;rw[xP x g];exact .inl ⟨λk i a b=>by lia,by rw[m]⟩;have y:=l n (v6 _) (by lia);obtain⟨i,hi⟩:=MP y;have d:t.place[i]?=a7 (sq t.mask h n).j:=by rw[<-G5];exact hi
  rw[slot_live r d];dsimp only;have u:∀i',t.place[i']?=a7 (sq t.mask h n).j->i'=i:=λi' z=>by rw[<-below_at r z,below_at r d]
  by_cases q:hashAt i=h;simp only[p9,q,s9];exact .inr ⟨n,i,v6 _,by lia,d,q,λk i a b=>by lia,rfl⟩;simp only[p9,q,r9];rcases A (n+1) N (by lia) (by lia) g (λk a b=>l k (by lia) b) m with⟨B,C⟩|⟨n',i',D,o,p,s,v,w⟩
  refine .inl ⟨λk i' a b c=>?_,C⟩;rcases Mx n k with z|z;exact B k i' z b c;have:k=n:=by lia
  subst this;rw[u i' c];exact q;refine .inr ⟨n',i',by lia,o,p,s,λk f a b c=>?_,w⟩;rcases Mx n k with z|z;exact v k f z b c;have:k=n:=by lia
  subst this;rw[u f c];exact q
theorem sq_dummy(m:Nat)(h:Int):∀n,(sq m h n).dummy=a8
 | 0=>rfl
 |n+1=>by show (Pn m<|sq m h n).dummy=a8;unfold Pn;split;exact sq_dummy m h n;exact sq_dummy m h n
structure TOk(t:o5)(hs:List Int):Prop where
 msk:oj t.mask
 len:t.place.size=hs.length
 nod:t.dummies = #[]
 ris:t.place.toList.Pairwise (· < ·)
 rng:∀j∈t.place.toList,j<=t.mask
 few:t.place.size*5<t.mask*3
 path:∀(i:Nat) (h:Int) (j:Nat),hs[i]?=a7 h->t.place[i]?=a7 j->∃n,(sq t.mask h n).j=j/\∀n',n' < n->(sq t.mask h n').j∈t.place.toList
theorem AY{m:Nat}{l:List Nat}(n:l.Nodup)(i:∀j∈l,j<=m)(g:l.length<=m):∃j,j<=m/\j∉l:=by refine NW λf=>?_;have a:∀j∈D0 (m+1),j∈l:=λj L=>NW λh=>f ⟨j,by have:=I0.mp L;lia,h⟩;have:=L2.nodup_le (D0<|m+1) l QI a;rw[Ob]at this;lia
theorem vK{m:Nat}(f:oj m){l:List Nat}(i:l.Nodup)(r:∀j∈l,j<=m)(g:l.length<=m)(h:Int):∃N,N<10*(m+15)/\(sq m h N).j∉l/\∀k,k<N->(sq m h k).j∈l:=by
 obtain⟨s,hs,u⟩:=AY i r g;obtain⟨n,I,t⟩:=Gb f h hs;have:∀b n,n<b->(sq m h n).j∉l->∃N,N<=n/\(sq m h N).j∉l/\∀k,k<N->(sq m h k).j∈l:=by
  intro b;induction b with
  |zero=>intro n h;lia
  |succ b p=>intro n v o;by_cases q:∀k,k<n->(sq m h k).j∈l;exact⟨n,v6 _,o,q⟩;have:∃k,k<n/\(sq m h k).j∉l:=NW λz=>q λk e=>NW λG=>z ⟨k,e,G⟩;obtain⟨k,e,d⟩:=this;obtain⟨N,C,a,c⟩:=p k (by lia) d;exact⟨N,by lia,a,c⟩
 obtain⟨N,C,a,c⟩:=this (n+1) n (Ml _) (by rw[t];exact u);exact⟨N,by lia,a,c⟩
theorem TOk.empty{t:o5}{hs:List Int}(T:TOk t hs)(h:Int):∃N,N<10*(t.mask+15)/\(sq t.mask h N).j∉t.place.toList/\∀k,k<N->(sq t.mask h k).j∈t.place.toList:=by refine vK T.msk (T.ris.imp λh=>A4 h) T.rng ?_ h;have:=T.few;rw[E2];rcases T.msk with e|e|e<;>lia
theorem zP{t:o5}(r:t.place.toList.Pairwise (· < ·)){j:Nat}(hj:j∉t.place.toList):(t.put j).1.place.toList=t.place.toList.take (E7 t.place j)++j::t.place.toList.drop (E7 t.place j)/\(t.put j).1.place.toList.Pairwise (· < ·):=by
 obtain⟨o,m,u⟩:=below_spec t.place r j;have e:(t.put j).1.place.toList=t.place.toList.take (E7 t.place j)++j::t.place.toList.drop (E7 t.place j):=by show (QM t.place (E7 t.place j) j).toList=_;rw[SetTable.toList_insertAt]
 refine⟨e,?_⟩;rw[e,List.pairwise_append];refine⟨r.sublist<|O3 ..,List.pairwise_cons.mpr ⟨λx c=>?_,r.sublist<|List.drop_sublist ..⟩,λx c y Q=>?_⟩;obtain⟨k,h⟩:=MP c;rw[QT]at h;have d:t.place[E7 t.place j+k]?=a7 x:=by rw[<-G5];exact h
 obtain⟨g,f⟩:=Ni.mp d;have:=u _ g<|PU _ _;rw[f]at this;rcases Mx j x with z|z;exact z;have:x=j:=by lia
 subst this;exact p7 (List.mem_of_mem_drop c) hj;obtain⟨k,h⟩:=MP c;rw[List.getElem?_take]at h;split at h;rename_i l;have d:t.place[k]?=a7 x:=by rw[<-G5];exact h
 obtain⟨g,f⟩:=Ni.mp d;have h1:=m k g l;rw[f]at h1;rcases A1.mp Q with rfl|Q;exact h1;obtain⟨B,a⟩:=MP Q;rw[QT]at a;have b:t.place[E7 t.place j+B]?=a7 y:=by rw[<-G5];exact a
 obtain⟨i,n⟩:=Ni.mp b;have:=u _ i<|PU _ _;rw[n]at this;lia;cases h
end Ht
namespace L2
open PySem PySem.Spec PyProof.Rows DL PySem.W
theorem fZ:Slot "set_iterator" "__iter__" "set_iterator.__iter__":=.of (owner:="set_iterator") (n:="__iter__") (by rw[PP,Qg];kernel_rfl) (by decide +kernel) (by decide +kernel) (by decide +kernel) (by first|exact .inl (by decide +kernel)|exact .inr<|by decide +kernel)<|by rw[isSubtype_type];kernel_rfl
theorem kU:entryFor table "set_iterator.__iter__" = a7 Builtin.«dict_keyiterator.__iter__»:=entryFor_alias (id':="dict_keyiterator.__iter__") (by kernel_rfl) rfl (by decide +kernel)<|by kernel_rfl
theorem nH(a:b8):argsOk "set_iterator.__iter__" ⟨[a],[]⟩:=by unfold argsOk;rw[signature?_of (id:="set_iterator.__iter__") (n:=['_','_','r','e','t','i','_','_']) (o:=['r','o','t','a','r','e','t','i','_','t','e','s']) (by kernel_rfl) mO];kernel_rfl
theorem gK(I:s.heap.get? it=a7 (fu first i n a ep))(h:Q (.ref it) s):f9 (g7 prog w) A (j0<|.ref it) Q E s:=by
 have T:s.TypeIs (.ref it) "set_iterator":=⟨_,I,rfl⟩
 refine P5 T fZ<|F5 fZ T kU (show f9 _ _ (ret<|.ref it) _ _ s from ?_)<|nH _;exact t8 ⟨_,rfl,"set_iterator",_,T,bm.lookup,h⟩
theorem SetAt.at(S:SetAt h a o es ep t)(k:∀o,h.get? a=a7 o->h'.get? a=a7 o):SetAt h' a o es ep t:=⟨k _ S.ob,S.dt,S.ft⟩
theorem kx(d:w.params.followText "set-order" = a9)(S:SetAt s.heap a o es ep t)(h:Q (((o4 (w.params.setOrder a ep) es)[i]?).map λe=>(e.2,0)) s):f9 (g7 prog w) A (setNext a 0 i ep) Q E s:=by unfold setNext;refine t6<|Ng S.ob S.dt S.ft ?_;unfold setsByText;refine t6<|t6<|Oz<|t8 ?_;simp only[g7,d,s9,bne_self_eq_false,A7,r9];unfold setWalk;refine t6<|t6<|Ng S.ob S.dt S.ft ?_;unfold setsByText;refine t6<|t6<|Oz<|t8 ?_;simp only[g7,d,s9];exact t6<|Oz<|t8<|t8 h
theorem xE(d:w.params.followText "set-order" = a9)(n:A.handled=a8)(j:a≠it):Walks prog w A it [it,a] [it] es.size (λi v=>((o4 (w.params.setOrder a ep) es).toList.map (·.2))[i]?=a7 v) (λi h=>h.get? it=a7 (fu (j1 0) i es.size a ep)/\SetAt h a o es ep t) where
 sub:=λb d=>by simp at d;simp[d]
 frame:=λ_ _ _ c m=>⟨m it (by simp) _ c.1,c.2.at λo e=>m a (by simp) o e⟩
 item:=λi s Q E hi c f=>by
  have g:(o4 (w.params.setOrder a ep) es).size=es.size:=by have:=(mF (w.params.setOrder a ep) es).length_eq;simpa using this
  obtain⟨e,l⟩:∃e,(o4 (w.params.setOrder a ep) es)[i]?=a7 e:=⟨_,G6<|by rw[g];exact hi⟩
  refine mW (slot:=0) (next:=0) (x:=e.2) c.1 c.2 (λA E Q q=>kx d c.2<|by rw[l];exact q) λh' h1 U=>f _ h' s.toks (by simp[l]) ⟨h1,c.2.at λo e=>(U.2 a j).trans e⟩ λb o d e=>(U.2 b<|by simpa using d).trans e
 done:=λs Q E c f=>by
  have g:(o4 (w.params.setOrder a ep) es).size=es.size:=by have:=(mF (w.params.setOrder a ep) es).length_eq;simpa using this
  refine fh (slot:=0) n c.1 c.2 (λA E Q q=>kx d c.2 ?_) λh' k=>f h' s.toks λb o d e=>k b o (by simpa using d) e;rw[OF<|by rw[g];exact v6 _];exact q
 self:=λ_ _ _ _ c f=>gK c.1 f
theorem uL{tt:c9}{ps:List Nat}(hp:ps.Perm (D0 es.size))(y:A.handled=a8)(n:a≠it)(p:tt≠it):Walks prog w A it [it,a,tt] [it] es.size (λi v=>(ps.filterMap λj=>(es[j]?).map (·.2))[i]?=a7 v) (λi h=>h.get? it=a7 (fu (.ref tt) i es.size a ep)/\SetAt h a o es ep t/\h.IsTuple tt (ps.map λ(k:Nat)=>j1 k).toArray) where
 sub:=λb g=>by simp at g;simp[g]
 frame:=λ_ _ _ c m=>⟨m it (by simp) _ c.1,c.2.1.at λo e=>m a (by simp) o e,let ⟨o,e,r⟩:=c.2.2;⟨o,m tt (by simp) _ e,r⟩⟩
 item:=λi s Q E hi c f=>by
  have u:ps.length=es.size:=by have:=hp.length_eq;simpa using this
  have l:∀j∈ps,j<es.size:=λj L=>by have:=hp.mem_iff.mp L;simpa using this
  have L:ps[i]?=a7 ps[i]:=x9 (by lia);have d:ps[i]<es.size:=l _<|MV _;have q:es[ps[i]]?=a7 es[ps[i]]:=G6 d;have x:(ps.filterMap λj=>(es[j]?).map (·.2))=ps.map λj=>(es.getD j default).2:=by
   clear L u hp hi c f q d;induction ps with
   |nil=>rfl
   |cons j r z=>have L:=l j D3;rw[NT,G6 L,C2,<-z λk m=>l k<|C4 _ m];simp[MT,L]
  refine yb c.1 c.2.2 c.2.1 L q λh' h1 U=>f _ h' s.toks ?_ ⟨h1,c.2.1.at λo e=>(U.2 a n).trans e,let ⟨o,e,r⟩:=c.2.2;⟨o,(U.2 tt p).trans e,r⟩⟩ λb o g e=>(U.2 b<|by simpa using g).trans e;rw[x,C7,L];simp[MT,d]
 done:=λs Q E c f=>by
  have u:ps.length=es.size:=by have:=hp.length_eq;simpa using this
  exact nT y c.1 c.2.2 c.2.1 (OE<|by lia) λh' k=>f h' s.toks λb o g e=>k b o (by simpa using g) e
 self:=λ_ _ _ _ c f=>gK c.1 f
theorem kz(b:w.params.followText "set-order" = b7)(d:t.led=a9)(c:es.size<=1)(S:SetAt s.heap a o es ep t)(h:Q (match es[E7 t.place slot]?,t.place[E7 t.place slot]? with|some (_,x),a7 j=>a7 (x,j+1)|_,_=>a8) s):f9 (g7 prog w) A (setNext a slot i ep) Q E s:=by unfold setNext;refine t6<|Ng S.ob S.dt S.ft ?_;unfold setsByText;refine t6<|t6<|Oz<|t8 ?_;simp only[g7,b,A7,r9];refine NB (λz=>?_) λ_=>?_;have G:(!t.plain&&decide (es.size > 1))=a9:=z;simp at G;lia;refine t6<|show f9 (g7 prog w) A (if (!t.led && !es.isEmpty)=a9 then unsupported _ else pure ()) _ _ s from ?_;rw[d];simp only[MI,PN,A7,r9];exact t8<|t8 h
theorem uz(j k:Nat):E7 #[j] k=if j<k then 1 else 0:=by unfold E7;simp only[A5,C0,D6];unfold OA;simp only[Nat.zero_lt_succ,s9];by_cases h:j<k;simp[h,OA];simp[h,OA]
theorem xF(d:w.params.followText "set-order" = b7)(f:t.led=a9)(l:es.size<=1)(u:A.handled=a8)(m:a≠it):Walks prog w A it [it,a] [it] es.size (λi v=>(es.toList.map (·.2))[i]?=a7 v) (λi h=>h.get? it=a7 (fu (j1 (if i=0 then 0 else t.place.getD 0 0+1:Nat)) i es.size a ep)/\SetAt h a o es ep t) where
 sub:=λb d=>by simp at d;simp[d]
 frame:=λ_ _ _ c p=>⟨p it (by simp) _ c.1,c.2.at λo e=>p a (by simp) o e⟩
 item:=λi s Q E hi c g=>by
  obtain rfl:i=0:=by lia
  have ps:t.place.size=1:=by have:=c.2.ft;simp[OW]at this;lia
  obtain⟨j,L⟩:∃j,t.place = #[j]:=⟨t.place[0],by apply Array.ext (by simpa using ps);intro i h1 h2;simp at h2;subst h2;rfl⟩
  have n:es[0]?=a7 es[0]:=G6 hi;refine mW (slot:=0) (next:=j+1) (x:=es[0].2) c.1 c.2 (λA E Q q=>kz d f l c.2 ?_) λh' h1 U=>g _ h' s.toks ?_ ⟨?_,c.2.at λo e=>(U.2 a m).trans e⟩ λb o d e=>(U.2 b<|by simpa using d).trans e;rw[L,uz,p4<|ND _,n];exact q;rw[C7,G5,n];rfl;simpa [L]using h1
 done:=λs Q E c g=>by
  refine fh (slot:=if es.size=0 then 0 else t.place.getD 0 0+1) u c.1 c.2 (λA E Q q=>kz d f l c.2 ?_) λh' k=>g h' s.toks λb o d e=>k b o (by simpa using d) e;have ps:t.place.size=es.size:=by have:=c.2.ft;simp[OW]at this;lia
  by_cases z:es.size=0;have:es = #[]:=Array.eq_empty_of_size_eq_zero z;subst this;simpa using q;obtain⟨j,L⟩:∃j,t.place = #[j]:=⟨t.place[0],by apply Array.ext (by simp;lia);intro i h1 h2;simp at h2;subst h2;rfl⟩
  have r:E7 t.place (if es.size=0 then 0 else t.place.getD 0 0+1)=1:=by rw[p4 z,L,uz];simp
  rw[r,OF<|by lia];exact q
 self:=λ_ _ _ _ c g=>gK c.1 g
theorem kA(c:w.params.followText "set-order" = b7)(d:t.led=a9)(b:(!t.plain&&decide (es.size > 1))=b7)(S:SetAt s.heap a o es ep t)(h:Q (match es[E7 t.place slot]?,t.place[E7 t.place slot]? with|some (_,x),a7 j=>a7 (x,j+1)|_,_=>a8) s):f9 (g7 prog w) A (setNext a slot i ep) Q E s:=by unfold setNext;refine t6<|Ng S.ob S.dt S.ft ?_;unfold setsByText;refine t6<|t6<|Oz<|t8 ?_;simp only[g7,c,A7,r9];refine NB (λz=>?_) λ_=>?_;have G:(!t.plain&&decide (es.size > 1))=a9:=z;rw[b]at G;cases G;refine t6<|show f9 (g7 prog w) A (if (!t.led && !es.isEmpty)=a9 then unsupported _ else pure ()) _ _ s from ?_;rw[d];simp only[MI,PN,A7,r9];exact t8<|t8 h
theorem xG(d:w.params.followText "set-order" = b7)(f:t.led=a9)(m:(!t.plain&&decide (es.size > 1))=b7)(G:t.place.toList.Pairwise (· < ·))(I:A.handled=a8)(y:a≠it):Walks prog w A it [it,a] [it] es.size (λi v=>(es.toList.map (·.2))[i]?=a7 v) (λi h=>h.get? it=a7 (fu (j1 (if i=0 then 0 else t.place.getD (i-1) 0+1:Nat)) i es.size a ep)/\SetAt h a o es ep t):=by
 have l:∀i,i<=t.place.size->E7 t.place (if i=0 then 0 else t.place.getD (i-1) 0+1)=i:=λi hi=>by
  obtain⟨p,g,u⟩:=Ht.below_spec t.place G<|if i=0 then 0 else t.place.getD (i-1) 0+1;have n:∀a b (C:a<t.place.size) (d:b<t.place.size),a<b->t.place[a]<t.place[b]:=λa b C d h=>by have:=Qk.mp G a b (by simpa using C) (by simpa using d) h;simpa using this
  by_cases z:i=0;rw[o8 z]at p g u ⊢;rcases Nat.eq_zero_or_pos (E7 t.place 0)with q|q;rw[q,z];have:=g 0 (by lia) q;lia;rw[p4 z]at p g u ⊢;have r:i-1<t.place.size:=by lia
  have H:t.place.getD (i-1) 0=t.place[i-1]:=by simp[MT,r]
  rw[H]at p g u ⊢;rcases P6 (E7 t.place<|t.place[i-1]+1) i with q|q|q;have:=u (i-1) r (by lia);lia;exact q;have:=g i (by lia) q;have:=n (i-1) i r (by lia) (by lia);lia
 exact {
  sub:=λb d=>by simp at d;simp[d]
  frame:=λ_ _ _ c F=>⟨F it (by simp) _ c.1,c.2.at λo e=>F a (by simp) o e⟩
  item:=λi s Q E hi c j=>by
   have ps:t.place.size=es.size:=by have:=c.2.ft;simp[OW]at this;lia
   have hp:i<t.place.size:=by lia
   have D:es[i]?=a7 es[i]:=G6 hi;have B:t.place[i]?=a7 t.place[i]:=G6 hp;refine mW (next:=t.place[i]+1) (x:=es[i].2) c.1 c.2 (λA E Q q=>kA d f m c.2 ?_) λh' h1 U=>j _ h' s.toks ?_ ⟨?_,c.2.at λo e=>(U.2 a y).trans e⟩ λb o d e=>(U.2 b<|by simpa using d).trans e;rw[l i (by lia),D,B];exact q;rw[C7,G5,D];rfl;rw[p4<|Nat.succ_ne_zero i,QS,show t.place.getD i 0=t.place[i] by simp[MT,hp]];exact h1
  done:=λs Q E c j=>by
   have ps:t.place.size=es.size:=by have:=c.2.ft;simp[OW]at this;lia
   refine fh I c.1 c.2 (λA E Q q=>kA d f m c.2 ?_) λh' k=>j h' s.toks λb o d e=>k b o (by simpa using d) e;rw[l es.size (by lia),OF<|v6 _];exact q
  self:=λ_ _ _ _ c j=>gK c.1 j }
theorem DY(S:SetAt s.heap a o es ep t)(y:o.cls=.type "set")(u:t.plain=a9->es.size<=1\/t.place.toList.Pairwise (· < ·))(g:t.led = !w.params.followText "set-order")(hz:es.size<=sizeLine)(h:∀(it:c9) (h':d6) (d:Drawn) (vs:List b8) (fp:List c9) (St:Nat->d6->Prop),(∀b o,s.heap.get? b=a7 o->h'.get? b=a7 o)->vs.Perm (es.toList.map (·.2))->s.heap.objs.size<=it->it<h'.objs.size->(∀b∈fp,b=a\/s.heap.objs.size<=b/\b<h'.objs.size) -> (∀A':e8,A'.handled=a8->Walks prog w A' it fp [it] es.size (λi v=>vs[i]?=a7 v) St)->St 0 h'->Q (.ref it) { s with heap:=h',drawn:=d }):f9 (g7 prog w) A (j0<|.ref a) Q E s:=by
 have T:s.TypeIs (.ref a) "set":=⟨o,S.ob,y⟩
 have r:a<s.heap.objs.size:=z6 S.ob;refine P5 T F.slot_set_iter<|F5 F.slot_set_iter T qJ ?_<|F.args_set_iter_1 _;unfold Builtin.«frozenset.__iter__»;refine t6<|show f9 (g7 prog w) _ (pure a) _ _ s from t8 ?_;unfold Builtin.Frozenset.sizeOf;refine t6<|t6<|Qd S.ob S.dt S.ft<|t8 ?_;unfold setDrawn;refine t6<|t6<|Ng S.ob S.dt S.ft ?_;unfold setsByText;refine t6<|t6<|Oz<|t8<|t8 ?_;by_cases p:(!w.params.followText "set-order" && (!t.plain&&decide (es.size > 1)))=a9;refine NB (λ_=>?_) λz=>p7 p z;refine t6<|ub _ _ _ _ (by simp) λps d hp=>?_;refine t6<|show f9 (g7 prog w) _ (newObj (.type "tuple")<|.seq (ps.map λ(i:Nat)=>j1 i).toArray) _ _ _ from G4 ?_ (by have e:=hp.length_eq;rw[Ob]at e;show (ps.map λ(i:Nat)=>j1 i).toArray.size<=sizeLine;rw[A5,v7,e];exact hz);have S1:=S.at (h':=s.heap.push { cls:=.type "tuple",data:=.seq (ps.map λ(i:Nat)=>j1 i).toArray }) λo e=>x5 _ e;refine t6<|wpAny_setEpoch_of (s:={ s with heap:=_,drawn:=d }) S1.ob S1.dt S1.ft ?_;refine t6 (show f9 (g7 prog w) _ (newObj (.type "set_iterator")<|.fields #[.ref s.heap.objs.size,j1 0,.ref a,j1 es.size,j1 ep]) _ _ _ from G4 ?_<|by size_fits);refine t8 ⟨_,rfl,"set_iterator",_,⟨_,A8 _ rfl,rfl⟩,bm.lookup,?_⟩;have n:(s.heap.push { cls:=.type "tuple",data:=.seq (ps.map λ(i:Nat)=>j1 i).toArray }).objs.size=s.heap.objs.size+1:=L8 ..;refine h _ _ d (ps.filterMap λj=>(es[j]?).map (·.2)) _ _ (λb o e=>x5 _<|x5 _ e) ?_ (by show s.heap.objs.size<=(s.heap.push _).objs.size;rw[n];exact OS _) (by show _<((s.heap.push _).push _).objs.size;rw[L8 (h:=s.heap.push _)];exact Ml _) ?_ (λA' k=>uL (o:=o) (t:=t) (ep:=ep) hp k (A4<|by rw[n];exact OB r)<|A4<|by rw[n];exact Ml _) ⟨A8 _ rfl,S1.at λo e=>x5 _ e,⟨_,x5 _<|A8 _ rfl,rfl,_,rfl⟩⟩;refine(hp.filterMap _).trans ?_;have x:(D0 es.size).filterMap (λj=>(es[j]?).map (·.2))=((D0 es.size).filterMap λj=>es[j]?).map (·.2):=by rw[List.map_filterMap]
 rw[x,filterMap_getElem?_range];intro b c;rw[L8,n];rcases A1.mp c with rfl|c;exact .inr ⟨by rw[n];exact OS _,by rw[n];exact Ml _⟩;rcases A1.mp c with rfl|c;exact .inl rfl;rw[I9.mp c];exact .inr ⟨v6 _,OB<|Ml _⟩;refine NB (λz=>p7 z p) λ_=>?_;refine t6<|t8<|t6<|wpAny_setEpoch_of S.ob S.dt S.ft ?_;refine t6 (show f9 (g7 prog w) _ (newObj (.type "set_iterator")<|.fields #[j1 0,j1 0,.ref a,j1 es.size,j1 ep]) _ _ _ from G4 ?_<|by size_fits);refine t8 ⟨_,rfl,"set_iterator",_,⟨_,A8 _ rfl,rfl⟩,bm.lookup,?_⟩;have S1:=S.at (h':=s.heap.push<|fu (j1 0) 0 es.size a ep) λo e=>x5 _ e;have l:∀b∈[s.heap.objs.size,a],b=a\/s.heap.objs.size<=b/\b<(s.heap.push<|fu (j1 0) 0 es.size a ep).objs.size:=λb c=>by rcases A1.mp c with rfl|c;exact .inr ⟨v6 _,by rw[L8];exact Ml _⟩;exact .inl<|I9.mp c
 by_cases c:w.params.followText "set-order" = a9;refine h _ _ s.drawn ((o4 (w.params.setOrder a ep) es).toList.map (·.2)) _ _ (λb o e=>x5 _ e) ((mF _ es).map _) (v6 _) (by rw[L8];exact Ml _) l (λA' k=>xE (o:=o) (t:=t) (ep:=ep) c k<|A4 r) ⟨A8 _ rfl,S1⟩;have f:w.params.followText "set-order" = b7:=by simpa using c
 have m:(!t.plain&&decide (es.size > 1))=b7:=by rw[f]at p;simpa using p
 have aq:es.size<=1\/t.place.toList.Pairwise (· < ·):=by by_cases q:t.plain=a9;exact u q;simp[q]at m;exact .inl m
 rcases aq with h1|B;refine h _ _ s.drawn (es.toList.map (·.2)) _ _ (λb o e=>x5 _ e) (O0 _) (v6 _) (by rw[L8];exact Ml _) l (λA' k=>xF (o:=o) (t:=t) (ep:=ep) f (by rw[g,f];rfl) h1 k<|A4 r) ⟨?_,S1⟩;rw[o8 rfl];exact A8 _ rfl;refine h _ _ s.drawn (es.toList.map (·.2)) _ _ (λb o e=>x5 _ e) (O0 _) (v6 _) (by rw[L8];exact Ml _) l (λA' k=>xG (o:=o) (t:=t) (ep:=ep) f (by rw[g,f];rfl) m B k<|A4 r) ⟨?_,S1⟩;rw[o8 rfl];exact A8 _ rfl
end L2
namespace L2
open PySem PySem.Spec PyProof.Rows DL PySem.W PySem.Calls PyProof.V
theorem Ef(n:s.TypeIs (.ref a) "set")(h:Q b7 s):f9 (g7 prog w) A (Sf<|.ref a) Q E s:=by
 unfold Sf;refine t6<|NP n F.slot_set_len.lookup ?_;generalize hi:("set.__len__":String)=t
 wp_delta
 rw[show splitId t=a7 ("set","__len__") by rw[<-hi];decide +kernel];rw[<-hi];refine t6<|NQ (T:="set") (b:=a9) n sub_set_self<|NB (λz=>p7 z<|by decide) λ_=>NB (λ_=>t6<|No n<|t8 h) λz=>p7 (by decide +kernel) z
theorem yy{R:Result->f6->Prop}(N:A.handled=a8)(S:SetAt s.heap a o es ep t)(B:o.cls=.type "set")(G:t.plain=a9->es.size<=1\/t.place.toList.Pairwise (· < ·))(v:t.led = !w.params.followText "set-order")(hz:es.size<=sizeLine){D:c9}{c₀:Nat} (p:D≠a) (M:s.heap.get? D=a7 { cls:=.type "list",data:=.seq #[] c₀ }) (res:b8)(Z:∀h' tk d vs c,(∀b u,b≠D->s.heap.get? b=a7 u->h'.get? b=a7 u)->h'.get? D=a7 { cls:=.type "list",data:=.seq vs c }->vs.toList.Perm (es.toList.map (·.2))->R (.ok<|.ret res) { s with heap:=h',toks:=tk,drawn:=d }):f9 (g7 prog w) A.in1 (Se (.ref D) (.ref a) res)
   (λfin s'=>match fin with|.done f=>R (.ok f) s'|.again c'=>c'.quiet=a9/\j8 (g7 prog w) A c' R s') (λe s'=>R (.error e) s') s:=by
 have ld:D<s.heap.objs.size:=z6 M;have hT:s.TypeIs (.ref a) "set":=⟨o,S.ob,B⟩
 unfold Se;refine t6<|No hT ?_;have T:Builtin.List.listSameRef (.ref D) (.ref a)=b7:=by simp[Builtin.List.listSameRef,p]
 have U:(Oq "set" == Oq "list")=b7:=by decide
 have V:(Oq "set" == Oq "tuple")=b7:=by decide
 simp only[T,U,V,Bool.or_false,A7,r9];refine t6<|DY S B G v hz λit h1 d vs Y St H pv I ai C W P=>?_;have L:D∉Y:=λz=>by
  rcases C D z with e|⟨e,_⟩
  exact p e;exact p7 ld<|Nw.mpr e
 have lv:vs.length=es.size:=by have:=pv.length_eq;simpa using this
 have K:∀(h:d6) (g:Nat),St 0 h->(∀b u,b≠D->h1.get? b=a7 u->h.get? b=a7 u)->h.get? D=a7 { cls:=.type "list",data:=.seq #[] g } -> j8 (g7 prog w) A (.builtin "list.extend.loop" ⟨[.ref D,.ref it,res],[]⟩) R { s with heap:=h,drawn:=d }:=λh g J kk y=>by
  refine codeAny_extend_loopS (W A.in1<|by simp[N]).toS hz D L res es.size 0 _ #[] g rfl (B5 _) J y (ItemsOf.nil _) λs' acc c' O m j=>?_;rw[Moved.eq_with O];have X:acc.toList=vs:=by
   apply List.ext_getElem?;intro i;by_cases hi:i<es.size;have E:i<acc.size:=by rw[j.1];exact hi
   have h1:acc[i]?=a7 acc[i]:=G6 E;rw[G5,h1];exact(j.2 i _ h1).symm;rw[OE (by rw[E2,j.1];lia),OE<|by lia]
  refine Z s'.heap s'.toks d acc c' (λb u k e=>O.heap b u (λz=>?_)<|kk b u k<|H b u e) m (by rw[X];exact pv);rcases A1.mp z with Q|z;exact k Q;rw[I9.mp z]at e;exact p7 (z6 e)<|Nw.mpr I
 have l:=H _ _ M;refine t6<|E3<|Ef (s:={ s with heap:=h1,drawn:=d }) ⟨o,H _ _ S.ob,B⟩ ?_;refine NB (λz=>?_) λ_=>t8 ⟨NA F.plain_extend_loop _,K h1 c₀ P (λ_ _ _ e=>e) l⟩;refine t6 (F9 (t6 (show f9 (g7 prog w) _ (updateSeq D (·.push .none) >>= λ_=>updateSeq D (·.pop)) _ _ _ from t6<|wpAny_updateSeq l rfl ?_)));have n:=L4 (Mp (·.push ABN)) l rfl;refine wpAny_updateSeq (hz:=by seq_fits) n rfl ?_;have x:=L4 (Mp (·.pop)) n rfl;have r:∀b,b≠D->((h1.update D (Mp (·.push ABN))).update D (Mp (·.pop))).get? b=h1.get? b:=λb k=>by rw[Pa _ _<|z9 k,Pa _ _<|z9 k]
 refine t8 ⟨NA F.plain_extend_loop _,K _ _ ((W A N).frame 0 _ _ P λb k u e=>(r b λq=>L<|q ▸ k).trans e) (λb u k e=>(r b k).trans e) x⟩
theorem xN{Q:b8->f6->Prop}(H:A.handled=a8)(S:SetAt s.heap a o es ep t)(G:o.cls=.type "set")(B:t.plain=a9->es.size<=1\/t.place.toList.Pairwise (· < ·))(y:t.led = !w.params.followText "set-order")(hz:es.size<=sizeLine)(h:∀h' tk d D (vs:List b8),(∀b u,s.heap.get? b=a7 u->h'.get? b=a7 u)->s.heap.get? D=a8->h'.get? D=a7 { cls:=.type "list",data:=.seq vs.toArray }->vs.Perm (es.toList.map (·.2)) -> f9 (g7 prog w) A.in1 (call (.builtin "list.sort") [.ref D]) (λ_ s'=>Q (.ref D) s') E { s with heap:=h',toks:=tk,drawn:=d }):f9 (g7 prog w) A (call (.builtin "sorted") [.ref a]) Q E s:=by
 have I:a<s.heap.objs.size:=z6 S.ob;refine call_function_entry kind_sorted plain_sorted entry_sorted (args_sorted1 _) ?_;unfold Builtin.«sorted»;refine t6 (m:=checkCount "sorted" 1 1 _)<|t8 ?_;unfold collect;refine t6<|t6<|wpAny_runValue<|NC F.entry_proto_collect ?_;rw[NU F.plain_proto_collect _];refine(show f9 (g7 prog w) _ (newList [] >>= λl=>again<|.builtin "list.__iadd__" ⟨[l,.ref a],[]⟩) _ _ s from t6<|G4<|t8 ⟨NA F.plain_list_iadd _,NC F.entry_list_iadd ?_⟩);rw[NU F.plain_list_iadd _];have S1:=S.at (h':=s.heap.push { cls:=.type "list",data:=.seq ([]:List b8).toArray }) λo e=>x5 _ e;have C:=yy (prog:=prog) (A:=A.in1) (s:={ s with heap:=s.heap.push { cls:=.type "list",data:=.seq ([]:List b8).toArray } }) (D:=s.heap.objs.size) (c₀:=0) (res:=.ref s.heap.objs.size) (R:=λr s'=>∃h' tk d vs c,r=.ok (.ret<|.ref s.heap.objs.size)/\s'={ s with heap:=h',toks:=tk,drawn:=d }/\(∀b u,s.heap.get? b=a7 u->h'.get? b=a7 u)/\h'.get? s.heap.objs.size=a7 { cls:=.type "list",data:=.seq vs c }/\vs.toList.Perm (es.toList.map (·.2))) (by simp[H]) S1 G B y hz (Na I) (A8 _ rfl) λh' tk d vs c k g p=>⟨h',tk,d,vs,c,rfl,rfl,λb u e=>k b u (A4<|z6 e)<|x5 _ e,g,p⟩
 have i:∀h' tk d (vs:Array b8) c,(∀b u,s.heap.get? b=a7 u->h'.get? b=a7 u)->h'.get? s.heap.objs.size=a7 { cls:=.type "list",data:=.seq vs c }->vs.toList.Perm (es.toList.map (·.2)) -> f9 (g7 prog w) A.in1 (do let ob <-load s.heap.objs.size;match ob.data with|.seq xs _=>pure xs.toList|_=>unsupported "internal:collect":Sem (List b8)) (λxs s'=>f9 (g7 prog w) A.in1 (do let l <-newList xs;let _ <-i4 [l] (call (.builtin "list.sort") [l] []);ret l) (λn s'=>∃v,n=Fin.done (Flow.ret v)/\Q v s') E s') E { s with heap:=h',toks:=tk,drawn:=d }:=λh' tk d vs c j g p=>by
  refine t6 (wpAny_load g<|t8<|t6<|wpAny_newList ?_<|by rw[p.length_eq];simpa using hz);have J:s.heap.objs.size<h'.objs.size:=z6 g;refine t6<|E3<|L0 (h (h'.push { cls:=.type "list",data:=.seq vs.toList.toArray }) tk d h'.objs.size vs.toList (λb u e=>x5 _<|j b u e) ?_ (A8 _ rfl) p) (λ_ s' q=>t8 ⟨_,rfl,q⟩) λ_ _ z=>z;cases q:s.heap.get? h'.objs.size with
  |none=>rfl
  |some o'=>exact p7 (z6<|j _ _ q)<|G0 _
 refine L0 C (λn s' x=>?_) λe s' ⟨_,_,_,_,_,z,_⟩=>by cases z
 cases n with
 |done f=>obtain⟨h',tk,d,vs,c,z,rfl,j,g,p⟩:=x;cases z;exact i h' tk d vs c j g p
 |again c'=>refine⟨x.1,OV x.2 ?_⟩;rintro r K ⟨h',tk,d,vs,c,z,e,j,g,p⟩;subst z e;exact i h' tk d vs c j g p
end L2
namespace L2
open PySem PySem.Spec PyProof.Rows DL PySem.W
theorem t9.drew(I:t9 X pins σ H s):t9 X pins σ H { s with drawn:=d }:=⟨I.ok,I.os,I.bare,I.base,I.loc,I.cell,I.free,I.freeC,I.pin,I.hok,I.len⟩
end L2
namespace L2
open PySem PySem.Spec PyProof.Rows DL PySem.Builtin PySem.Builtin.Str PySem.StrLaws
theorem BH(a b B:Nat):strSliceIndices (a7 (a:Int)) (a7 (b:Int)) 1 B=strSliceIndices (a7 ((min a B:Nat):Int)) (a7 ((min b B:Nat):Int)) 1 B:=by
 have e:∀i:Nat,max (0:Int) (min (i:Int) (B:Int))=max (0:Int) (min ((min i B:Nat):Int) (B:Int)):=λi=>by lia
 have n:∀i:Nat,¬((i:Int)<0):=λi=>by lia
 simp only[strSliceIndices,n,r9,show ((1:Int) > 0)=True by simp,s9];rw[e a,e b]
theorem eX(x:b9)(l u:Option Int):(MS x l u).cps.toList=if (strSliceIndices l u 1 x.length).length=x.length then x.cps.toList else(strSliceIndices l u 1 x.length).filterMap (x.cps[·]?):=by unfold MS;by_cases h:(strSliceIndices l u 1 x.length).length=x.length;rw[o8 (by simp[h]),o8 h];rw[p4 (by simp[h]),p4 h]
theorem sR(x:b9){a b:Nat}(S:a<=b):(MS x (a7 (a:Int))<|a7 (b:Int)).cps.toList=(x.cps.toList.drop a).take (b-a):=by
 have d:min a x.length<=min b x.length:=by lia
 have l:(strSliceIndices (a7 ((min a x.length:Nat):Int)) (a7 ((min b x.length:Nat):Int)) 1 x.length).filterMap (x.cps[·]?)=(x.cps.toList.drop<|min a x.length).take (min b x.length-min a x.length):=sliced_plain x d<|Nat.min_le_right ..;have Q:=fq (a:=x);have n:(x.cps.toList.drop<|min a x.length).take (min b x.length-min a x.length)=(x.cps.toList.drop a).take (b-a):=by by_cases f:a<=x.length;rw[Nat.min_eq_left f];by_cases c:b<=x.length;rw[Nat.min_eq_left c];rw[Nat.min_eq_right (by lia),Qh (by rw[MM];lia),Qh<|by rw[MM];lia];rw[List.drop_eq_nil_of_le (i:=a) (by lia),List.drop_eq_nil_of_le (i:=min a x.length)<|by lia];simp
 rw[eX,BH,l,n];split;rename_i h;rw[strSliceIndices_plain d<|Nat.min_le_right ..]at h;simp only[v7,Ob]at h;have e:min a x.length=0:=by lia
 by_cases g:x.length=0;have:x.cps.toList=[]:=List.eq_nil_of_length_eq_zero (by lia);rw[this];simp;have:a=0:=by lia
 subst this;rw[List.drop_zero,Qh<|by lia];rfl
end L2
namespace L2
open PySem PySem.Spec PyProof.Rows DL PySem.W
def IE:G8:=λx y M Q=>match x,y with
 |.int i,.int j=>CPow i j/\Q (.int<|i ^ j.toNat) M
 |_,_=>False
theorem JU:J0 X (j3 .Pow) IE:=by refine D7.imp JK ?_;rintro g i H R ⟨x,y,M,ρ,Q,s,r,m,q,k⟩;unfold IE at q;split at q;cases r;cases m;exact⟨_,_,rfl,rfl,q.1,k _ H<|VQ.now s (.int _) q.2⟩;exact q.elim
theorem KN:J5 X (j3 .Pow) IE:=⟨JU⟩
def mB(z:b9):C6:=λds M Q=>match ds with
 | [.str y]=>∃i aM,Q3 z y 0 z.length 1=i::aM/\Q (.int (i:Nat)) M
 |_=>False
theorem Dq:J1 X "str.index" (GM X.K mB):=by
 rintro p s σ H x xs v us R I g a ⟨z,ds,M,ρ,Q,c,m,f,q,k⟩;subst c;obtain⟨t,rfl⟩:=g;unfold mB at q;split at q;obtain⟨i,aM,B,q⟩:=q
 first|have h:=Reps.inv_cons f|have h:=aw.inv_cons f
 clear f;obtain⟨_,_,rfl,r,f⟩:=h;cases f;cases r;obtain⟨u,rfl,t',rfl⟩:=aw.one a;exact call_gives F.slot_str_index (typeIs_str _ _ _) F.entry_str_index (F.args_str_index_2 _ _) (gives_str_index _ _ _ _ i aM B) ⟨.int _,H,I.tok _,⟨_,rfl⟩,k _ H<|VQ.now m (.int _) q⟩;exact q.elim
theorem Ee:R8 X "index" mB:=⟨_,PySem.F.slot_str_index,PySem.F.type_str_index,Dq⟩
end L2
namespace Ht
open PySem
def M8(ow:Array (Option Nat))(s:Nat):Prop:=∃i,ow[s]?=a7 (a7 i)
theorem getD_none(hs:s<ow.size):(ow.getD s<|a7 0).isNone=a9↔¬M8 ow s:=by
 have e:ow[s]?=a7 ow[s]:=G6 hs;have l:ow.getD s (a7 0)=ow[s]:=by simp[MT,hs]
 rw[l];unfold M8;rw[e];cases ow[s]<;>simp
theorem Bb(hz:ow.size=m+1)(h:Int):∀(fuel k0 k:Nat),k0<=k->k<k0+fuel->¬M8 ow (eY m h k).1->(∀n,n<fB m h k0->M8 ow (sq m h n).j) ->∃N,Q1 m ow fuel (eY m h k0).1 (eY m h k0).2=a7 (sq m h N).j/\¬M8 ow (sq m h N).j/\∀n,n<N->M8 ow (sq m h n).j:=by
 intro fuel;induction fuel with
 |zero=>intro k0 k h1 h2;lia
 |succ fuel l =>
  intro k0 k h1 h2 c d;have p:=uV m h k0;have u:K4 m (eY m h k0).1<=m/\(eY m h k0).1<=K4 m (eY m h k0).1:=by unfold K4;split<;>lia
  unfold Q1;cases f:(D0<|K4 m (eY m h k0).1+1-(eY m h k0).1).find? λk=>(ow.getD ((eY m h k0).1+k)<|a7 0).isNone with
  |some r =>
   have i:=Ox f;have b:=RW f;rw[I0]at b;refine⟨fB m h k0+r,by rw[zE m h k0 r<|by lia],?_,λn g=>?_⟩;rw[zE m h k0 r<|by lia];exact(getD_none<|by lia).mp i;rcases Mx n (fB m h k0)with q|q;exact d n q;obtain⟨r',rfl⟩:∃r',n=fB m h k0+r':=⟨n-fB m h k0,by lia⟩
   rw[zE m h k0 r'<|by lia];refine NW λo=>?_;have t:r' < r:=by lia
   have z:=(getD_none (ow:=ow) (s:=(eY m h k0).1+r')<|by lia).mpr o;have:=List.find?_range_eq_some.mp f;have:=this.2.2 r' t;rw[z]at this;exact p7 this<|by simp
  |none =>
   have a:∀r,r<=K4 m (eY m h k0).1-(eY m h k0).1->M8 ow ((eY m h k0).1+r):=λr i=>by refine NW λo=>?_;have z:=(getD_none (ow:=ow) (s:=(eY m h k0).1+r)<|by lia).mpr o;have:=P8.mp f r (I0.mpr<|by lia);exact this z
   have v:k0≠k:=λe=>by subst e;exact c<|a 0<|B5 _
   refine l (k0+1) k (by lia) (by lia) c λn g=>?_;unfold fB at g;rcases Mx n (fB m h k0)with q|q;exact d n q;obtain⟨r',rfl⟩:∃r',n=fB m h k0+r':=⟨n-fB m h k0,by lia⟩
   rw[zE m h k0 r'<|by lia];exact a r'<|by lia
structure Laid(m:Nat)(hs:List Int)(ow:Array (Option Nat))(k:Nat):Prop where
 sz:ow.size=m+1
 lt:∀s i:Nat,ow[s]?=a7 (a7 i)->i<k
 inj:∀s s' i:Nat,ow[s]?=a7 (a7 i)->ow[s']?=a7 (a7 i)->s=s'
 all:∀i:Nat,i<k->∃s:Nat,ow[s]?=a7 (a7 i)
 path:∀(s i:Nat) (h:Int),ow[s]?=a7 (a7 i)->hs[i]?=a7 h->∃n,(sq m h n).j=s/\∀n',n' < n->M8 ow (sq m h n').j
theorem Laid.room(L:Laid m hs ow k)(q:k<=m):∃s,s<=m/\¬M8 ow s:=by
 refine NW λo=>?_;have c:∀s,s<=m->M8 ow s:=λs hs=>NW λz=>o ⟨s,hs,z⟩;have d:∀s,s∈D0 (m+1)->((ow.getD s a8).getD 0)∈D0 k:=λs u=>by
  obtain⟨i,e⟩:=c s (by have:=I0.mp u;lia);have:ow.getD s a8=a7 i:=by obtain⟨g,z⟩:=Ni.mp e;simp[MT,g,z]
  rw[this];exact I0.mpr<|L.lt s i e
 have X:((D0<|m+1).map λs=>(ow.getD s a8).getD 0).Nodup:=by
  rw[Of,P4];have base:=QI (n:=m+1);rw[Of]at base;refine base.imp_of_mem λ{a b} ha hb hne e=>hne ?_;obtain⟨i,f⟩:=c a (by have:=I0.mp ha;lia);obtain⟨j,h⟩:=c b (by have:=I0.mp hb;lia);have t:ow.getD a a8=a7 i:=by obtain⟨g,z⟩:=Ni.mp f;simp[MT,g,z]
  have l:ow.getD b a8=a7 j:=by obtain⟨g,z⟩:=Ni.mp h;simp[MT,g,z]
  rw[t,l]at e;have:i=j:=e;subst this;exact L.inj a b i f h
 have:=L2.nodup_le _ (D0 k) X λx p=>by obtain⟨s,u,rfl⟩:=z5.mp p;exact d s u
 rw[v7,Ob,Ob]at this;lia
theorem Laid.step(E:oj m)(L:Laid m hs ow k)(B:k<=m)(A:hs[k]?=a7 h):∃j,Q1 m ow (OY m) (Nq h % (m+1)) (Nq h)=a7 j/\Laid m hs (ow.setIfInBounds j<|a7 k) (k+1):=by
 obtain⟨s,g,l⟩:=L.room B;obtain⟨I,D,e⟩:=FG E h g;obtain⟨N,v,x,y⟩:=Bb L.sz h (OY m) 0 I (B5 _) (by unfold OY;lia) (by rw[e];exact l) λn F=>p7 F<|ND _;refine⟨(sq m h N).j,v,?_⟩;have H:(sq m h N).j<ow.size:=by have:=zD (m:=m) h N;rw[L.sz];lia
 have a:(ow.setIfInBounds (sq m h N).j<|a7 k)[(sq m h N).j]?=a7 (a7 k):=by rw[Array.getElem?_setIfInBounds_self_of_lt H]
 have r:∀s,s≠(sq m h N).j->(ow.setIfInBounds (sq m h N).j<|a7 k)[s]?=ow[s]?:=λs f=>Array.getElem?_setIfInBounds_ne<|z9 f;have w:∀s,M8 ow s->M8 (ow.setIfInBounds (sq m h N).j<|a7 k) s:=λs ⟨i,z⟩=>by by_cases q:s=(sq m h N).j;subst q;exact⟨k,a⟩;exact⟨i,by rw[r s q];exact z⟩
 have d:∀s i,(ow.setIfInBounds (sq m h N).j<|a7 k)[s]?=a7 (a7 i)->(s=(sq m h N).j/\i=k)\/(s≠(sq m h N).j/\ow[s]?=a7 (a7 i)):=λs i z=>by by_cases q:s=(sq m h N).j;subst q;rw[a]at z;cases z;exact .inl ⟨rfl,rfl⟩;rw[r s q]at z;exact .inr ⟨q,z⟩
 refine⟨by rw[Array.size_setIfInBounds];exact L.sz,λs i z=>?_,λs s' i z G=>?_,λi hi=>?_,λs i h' z b=>?_⟩;rcases d s i z with⟨_,e⟩|⟨_,z⟩
 lia;have:=L.lt s i z;lia;rcases d s i z with⟨t,p⟩|⟨_,z⟩
 rcases d s' i G with⟨Q,_⟩|⟨_,G⟩
 rw[t,Q];have:=L.lt s' i G;lia;rcases d s' i G with⟨_,J⟩|⟨_,G⟩
 have:=L.lt s i z;lia;exact L.inj s s' i z G;by_cases q:i=k;subst q;exact⟨_,a⟩;obtain⟨s,z⟩:=L.all i (by lia);refine⟨s,?_⟩;rw[r s λe=>x ⟨i,by rw[<-e];exact z⟩];exact z;rcases d s i z with⟨t,p⟩|⟨_,z⟩
 subst t p;rw[A]at b;cases b;exact⟨N,rfl,λo c=>w _<|y o c⟩;obtain⟨n,C,u⟩:=L.path s i h' z b;exact⟨n,C,λo c=>w _<|u o c⟩
theorem GS(l:oj m)(hs:List Int)(q:hs.length<=m):∃ow,SetTable.layClean m hs.toArray=a7 ow/\Laid m hs ow hs.length:=by
 have start:Laid m hs (Array.replicate (m+1) a8) 0:=by
  have n:∀s i:Nat,(Array.replicate (m+1) (a8:Option Nat))[s]?≠a7 (a7 i):=λs i z=>by rw[Array.getElem?_replicate]at z;split at z<;>cases z
  exact⟨by simp,λs i z=>p7 z<|n s i,λs _ i z=>p7 z<|n s i,λi hi=>p7 hi<|ND _,λs i _ z=>p7 z<|n s i⟩
 have g:∀(aM:List Int) (k:Nat) (ow:Array (Option Nat)),hs.drop k=aM->k+aM.length=hs.length->Laid m hs ow k -> ∃o,aM.foldl (init:=a7 (ow,k)) (λacc h=>do
    let (owner,k) <-acc
    let j <-Q1 m owner (OY m) (Nq h % (m+1)) (Nq h)
    pure (owner.setIfInBounds j<|a7 k,k+1))=a7 (o,hs.length)/\Laid m hs o hs.length:=by
  intro aM;induction aM with
  |nil =>
   intro k ow e a L;have:k=hs.length:=by simpa using a
   subst this;exact⟨ow,rfl,L⟩
  |cons h aM p =>
   intro k ow e a L;have d:hs[k]?=a7 h:=by
    have:(hs.drop k)[0]?=a7 h:=by rw[e];rfl
    rw[QT]at this;simpa using this
   rw[C0]at a;obtain⟨j,f,c⟩:=L.step l (by lia) d;obtain⟨o,g1,b⟩:=p (k+1) (ow.setIfInBounds j<|a7 k) (by
    have:hs.drop (k+1)=(hs.drop k).drop 1:=by rw[List.drop_drop]
    rw[this,e];rfl) (by lia) c
   refine⟨o,?_,b⟩;rw[List.foldl_cons];simp only[Option.bind_eq_bind,Option.bind_some,f,Option.pure_def];exact g1
 obtain⟨ow,g1,b⟩:=g hs 0 _ rfl (by simp) start;refine⟨ow,?_,b⟩;unfold SetTable.layClean;rw[<-Array.foldl_toList];have:hs.toArray.toList=hs:=by simp
 rw[this,g1];rfl
theorem mG{α:Type}[DecidableEq α]:∀{l l':List α},l.Nodup->l'.Nodup->(∀x,x∈l↔x∈l')->l.Perm l'
 | [],l',_,_,h=>by have:l'=[]:=List.eq_nil_iff_forall_not_mem.mpr λx hx=>p7 ((h x).mpr hx) (by simp);rw[this]
 |x::l,l',n,n',h=>by have hx:x∈l':=(h x).mp D3;have n1:=J7.mp n;refine(Qy x<|mG n1.2 (n'.erase x) λy=>?_).trans (List.perm_cons_erase hx).symm;by_cases e:y=x;subst e;constructor;intro z;exact p7 z n1.1;intro z;exact p7 z<|List.Nodup.not_mem_erase n';rw[List.mem_erase_of_ne e,<-h y,A1];exact⟨.inr,λz=>z.resolve_left e⟩
noncomputable def bE(m:Nat)(ow:Array (Option Nat)):List (Nat×Nat):=(D0<|m+1).filterMap λj=>(ow.getD j a8).map (j,·)
theorem fj(L:Laid m hs ow k):(s,i)∈bE m ow↔ow[s]?=a7 (a7 i):=by
 unfold bE;rw[Qa];constructor;rintro⟨j,hj,e⟩;have h:j<ow.size:=by rw[L.sz];exact I0.mp hj
 have l:ow.getD j a8=ow[j]:=by simp[MT,h]
 rw[l]at e;cases q:ow[j] with
 |none=>rw[q]at e;cases e
 |some i'=>rw[q]at e;have:=C3 e;cases this;rw[G6 h,q]
 intro e;obtain⟨g,z⟩:=Ni.mp e;refine⟨s,I0.mpr (by rw[<-L.sz];exact g),?_⟩;have l:ow.getD s a8=ow[s]:=by simp[MT,g]
 rw[l,z];rfl
theorem tN(m:Nat)(ow:Array (Option Nat)):((bE m ow).map (·.1)).Pairwise (· < ·):=by unfold bE;rw[P4];refine List.Pairwise.filterMap (R:=(· < ·)) _ (λa c h b d e f=>?_)<|List.pairwise_lt_range;obtain⟨x,_,rfl⟩:=MQ.mp d;obtain⟨y,_,rfl⟩:=MQ.mp f;exact h
theorem tO(L:Laid m hs ow hs.length):((bE m ow).map (·.2)).Perm (D0 hs.length):=by
 have n:(bE m ow).Nodup:=by have:=tN m ow;rw[P4]at this;exact this.imp λh e=>by rw[e]at h;exact G0 _ h
 have X:((bE m ow).map (·.2)).Nodup:=by rw[Of,P4];rw[Of]at n;refine n.imp_of_mem λ{a b} ha hb hne e=>hne ?_;obtain⟨s,i⟩:=a;obtain⟨s',i'⟩:=b;have c:i=i':=e;subst c;rw[L.inj s s' i ((fj L).mp ha)<|(fj L).mp hb]
 refine mG X QI λi=>?_;rw[I0,z5];constructor;rintro⟨⟨s,i'⟩,hm,rfl⟩;exact L.lt s i'<|(fj L).mp hm;intro hi;obtain⟨s,e⟩:=L.all i hi;exact⟨(s,i),(fj L).mpr e,rfl⟩
theorem qF{α:Type}{l:List α}{p:Nat}{x y:α}(hp:p<=l.length){i:Nat}(h:(l.take p++x::l.drop p)[i]?=a7 y):(i<p/\l[i]?=a7 y)\/(i=p/\y=x)\/(p<i/\l[i-1]?=a7 y):=by
 have lt:(l.take p).length=p:=by rw[K5];lia
 rcases P6 i p with q|q|q;rw[L5 (by lia),List.getElem?_take,o8 q]at h;exact .inl ⟨q,h⟩;subst q;rw[MC (by lia),lt,NL]at h;exact .inr<|.inl ⟨rfl,(C3 h).symm⟩;rw[MC (by lia),lt]at h;obtain⟨r,a⟩:∃r,i-p=r+1:=⟨i-p-1,by lia⟩
 rw[a,Qj,QT]at h;exact .inr<|.inr ⟨q,by rw[show i-1=p+r by lia];exact h⟩
structure TPre(t:o5)(hs:List Int):Prop where
 msk:oj t.mask
 len:t.place.size=hs.length
 nod:t.dummies = #[]
 ris:t.place.toList.Pairwise (· < ·)
 rng:∀j∈t.place.toList,j<=t.mask
 path:∀(i:Nat) (h:Int) (j:Nat),hs[i]?=a7 h->t.place[i]?=a7 j->∃n,(sq t.mask h n).j=j/\∀n',n' < n->(sq t.mask h n').j∈t.place.toList
theorem put_pre(T:TOk t hs)(h2:(sq t.mask h N).j∉t.place.toList)(u:∀k,k<N->(sq t.mask h k).j∈t.place.toList)(v:Bool):(t.put (sq t.mask h N).j).2<=hs.length/\TPre { (t.put (sq t.mask h N).j).1 with plain:=v } (hs.take (t.put (sq t.mask h N).j).2++h::hs.drop (t.put (sq t.mask h N).j).2):=by
 obtain⟨e,r⟩:=zP T.ris h2;obtain⟨g,_,_⟩:=below_spec t.place T.ris (sq t.mask h N).j;have l:E7 t.place (sq t.mask h N).j<=hs.length:=by rw[<-T.len];exact g
 refine⟨l,⟨T.msk,?_,?_,r,λj L=>?_,λi h' j d L=>?_⟩⟩;have:=t4 L1 e;rw[E2,A3,C0,K5,MM,E2]at this;show (t.put (sq t.mask h N).j).1.place.size=(hs.take (E7 t.place (sq t.mask h N).j)++h::hs.drop (E7 t.place (sq t.mask h N).j)).length;rw[this,A3,C0,K5,MM,T.len];show (if SetTable.has t.dummies (sq t.mask h N).j then SetTable.eraseAt t.dummies (E7 t.dummies (sq t.mask h N).j)else t.dummies) = #[];rw[T.nod];rfl;have a:j∈(t.put (sq t.mask h N).j).1.place.toList:=L;rw[e]at a;rcases F0.mp a with q|q;exact T.rng j<|RE q;rcases A1.mp q with q|q;rw[q];exact zD h N;exact T.rng j<|List.mem_of_mem_drop q;have s:∀x,x∈t.place.toList->x∈(t.put (sq t.mask h N).j).1.place.toList:=λx m=>by rw[e];rw[<-List.take_append_drop (E7 t.place (sq t.mask h N).j) t.place.toList]at m;rcases F0.mp m with q|q;exact MW _ q;exact Ix _<|C4 _ q
 have a:(t.put (sq t.mask h N).j).1.place.toList[i]?=a7 j:=by rw[G5];exact L
 rw[e]at a;have o:∀k,hs[k]?=a7 h'->t.place[k]?=a7 j->∃n,(sq t.mask h' n).j=j/\∀f,f < n->(sq t.mask h' f).j∈(t.put (sq t.mask h N).j).1.place.toList:=λk w y=>by obtain⟨n,C,p⟩:=T.path k h' j w y;exact⟨n,C,λf c=>s _<|p f c⟩
 rcases qF (by rw[E2];exact g) a with⟨q,z⟩|⟨q,z⟩|⟨q,z⟩
 rcases qF l d with⟨b,G⟩|⟨b,G⟩|⟨b,G⟩
 exact o i G (by rw[<-G5];exact z);lia;lia;rcases qF l d with⟨b,G⟩|⟨b,G⟩|⟨b,G⟩
 lia;subst z G;exact⟨N,rfl,λf c=>s _<|u f c⟩;lia;rcases qF l d with⟨b,G⟩|⟨b,G⟩|⟨b,G⟩
 lia;lia;exact o (i-1) G<|by rw[<-G5];exact z
theorem TPre.ok(T:TPre t hs)(h:t.tooFull=b7):TOk t hs:=by refine⟨T.msk,T.len,T.nod,T.ris,T.rng,?_,T.path⟩;unfold SetTable.tooFull Qx at h;rw[T.nod]at h;simp at h;simpa using h
theorem TPre.anew(T:TPre t hs)(h:t.tooFull=a9)(M:(hs.length-1)*5<t.mask*3)(E:hs.length<=64):RB (Ow hs.length)<=sizeLine/\∃t2 ord,t.relaid hs.toArray (Ow hs.length)=a7 (t2,ord)/\ord.toList.Perm (D0 hs.length)/\TOk t2 (ord.toList.map λi=>hs.getD i 0)/\t2.led=t.led:=by
 have u:hs.length*5 ≥ t.mask*3:=by unfold SetTable.tooFull Qx at h;rw[T.nod,T.len]at h;simpa using h
 have D:∃m,RB (Ow hs.length)=m+1/\oj m/\hs.length<=m/\hs.length*5<m*3:=by
  rcases T.msk with e|e|e;have:hs.length=5:=by lia
  rw[this];exact⟨31,by decide +kernel,.inr<|.inl rfl,by decide,by decide⟩;have:hs.length=19:=by lia
  rw[this];exact⟨127,by decide +kernel,.inr<|.inr rfl,by decide,by decide⟩;lia
 obtain⟨m,e,g,H,f⟩:=D;refine⟨by rw[e,MH];rcases g with rfl|rfl|rfl<;>lia,?_⟩;obtain⟨ow,B,L⟩:=GS g hs H;unfold SetTable.relaid;rw[e,QS];unfold SetTable.laid;rw[B];refine⟨_,_,rfl,?_,?_,rfl⟩;show ((bE m ow).map (·.2)).toArray.toList.Perm _;simpa using tO L;have l:((bE m ow).map (·.1)).toArray.toList=(bE m ow).map (·.1):=by simp
 have K:((bE m ow).map (·.2)).toArray.toList=(bE m ow).map (·.2):=by simp
 have J:(bE m ow).length=hs.length:=by have:=(tO L).length_eq;simpa using this
 refine⟨g,?_,rfl,?_,λj d=>?_,?_,λi h' j F d=>?_⟩;show ((bE m ow).map (·.1)).toArray.size=(((bE m ow).map (·.2)).toArray.toList.map λi=>hs.getD i 0).length;simp;show ((bE m ow).map (·.1)).toArray.toList.Pairwise _;rw[l];exact tN m ow;have a:j∈((bE m ow).map (·.1)).toArray.toList:=d;rw[l]at a;obtain⟨⟨s,i⟩,o,rfl⟩:=z5.mp a;have:=(Ni.mp<|(fj L).mp o).1;rw[L.sz]at this;show s<=m;lia;show ((bE m ow).map (·.1)).toArray.size*5<m*3;rw[A5,v7,J];exact f;have b:(((bE m ow).map (·.2)).map λi=>hs.getD i 0)[i]?=a7 h':=by rw[<-K];exact F
 have a:((bE m ow).map (·.1))[i]?=a7 j:=by rw[<-l,G5];exact d
 rw[D9,C7]at b;rw[C7]at a;cases q:(bE m ow)[i]? with
 |none=>rw[q]at a;cases a
 |some p =>
  obtain⟨s,k⟩:=p;rw[q]at b a;have y:s=j:=C3 a;have A:hs.getD k 0=h':=C3 b;subst y;have c:=(fj L).mp<|E9 q;have v:=L.lt s k c;have G:hs[k]?=a7 h':=by rw[x9 v];rw[<-A];simp[Op,v]
  obtain⟨n,C,x⟩:=L.path s k h' c G;refine⟨n,C,λw r=>?_⟩;obtain⟨I,z⟩:=x w r;show (sq m h' w).j∈((bE m ow).map (·.1)).toArray.toList;rw[l];exact z5.mpr ⟨(_,I),(fj L).mpr z,rfl⟩
end Ht
namespace L2
open PySem PySem.Spec PyProof.Rows DL PySem.W
theorem qC:∀(n:Nat) (d:D),cL n d=a9->v9 M n d=a9
 | 0,d,h=>by cases d<;>first|rfl|cases h
 |n+1,d,h=>by
  cases d with
  |tup ds=>have h':ds.all (cL n)=a9:=h;show ds.all (v9 M n)=a9;rw[E8]at h' ⊢;exact λx hx=>qC n x<|h' x hx
  |str x=>rfl
  |int i=>rfl
  |_=>cases h
theorem iP:∀(n:Nat) (x y:D),cL n x=a9->cL n y=a9->(u6 M n x y=a9↔x=y):=by
 intro n;induction n with
 |zero =>
  intro x y h1 h2;cases x with
  |str a =>
   cases y with
   |str b=>simp[u6]
   |int b=>simp[u6]
   |_=>cases h2
  |int a =>
   cases y with
   |str b=>simp[u6]
   |int b=>simp[u6]
   |_=>cases h2
  |_=>cases h1
 |succ n h =>
  have o:∀xs ys:List D,xs.all (cL n)=a9->ys.all (cL n)=a9->(D5 (u6 M n) xs ys=a9↔xs=ys):=by
   intro xs;induction xs with
   |nil=>intro ys _ _;cases ys<;>simp[D5]
   |cons x xs i =>
    intro ys C c;cases ys with
    |nil=>simp[D5]
    |cons y ys=>rw[Mq,E4]at C c;show (u6 M n x y&&D5 (u6 M n) xs ys)=a9↔_;rw[E4,h x y C.1 c.1,i ys C.2 c.2,O1]
  intro x y h1 h2;cases x with
  |str a =>
   cases y with
   |str b=>simp[u6]
   |int b=>simp[u6]
   |tup ys=>simp[u6]
   |_=>cases h2
  |int a =>
   cases y with
   |str b=>simp[u6]
   |int b=>simp[u6]
   |tup ys=>simp[u6]
   |_=>cases h2
  |tup xs =>
   cases y with
   |str b=>simp[u6]
   |int b=>simp[u6]
   |tup ys=>rw[D.tup.injEq];exact o _ _ h1 h2
   |_=>cases h2
  |_=>cases h1
theorem Ld(sm:w4 X.K ρ M H):∀(n:Nat) (A:e8) (s:f6) (d:D) (v:V) (u:b8) (E:b8->f6->Prop) (Q:Int->f6->Prop),A.units+n<j6->t9 X pins σ H s->u5 X.K ρ H d v->aL v u->cL n d=a9 ->(∀tk,Q (A9 X.w n d) { s with toks:=tk })->f9 (g7 X.prog X.w) A (pyHash u) Q E s:=by
 intro n;induction n with
 |zero =>
  intro A s d v u E Q P I r f m h;cases r with
  |str x=>obtain⟨t,rfl⟩:=f;exact PY<|h _
  |int x=>obtain⟨t,rfl⟩:=f;exact PZ<|h _
  |_=>cases m
 |succ n R =>
  intro A s d v u E Q P I r f m h;cases r with
  |str x=>obtain⟨t,rfl⟩:=f;exact PY<|h _
  |int x=>obtain⟨t,rfl⟩:=f;exact PZ<|h _
  |@tup a vs ds O Y =>
   cases f;obtain⟨its,W,p,_⟩:=I.tuple O;obtain⟨o,B,L,nn,N⟩:=id p;have T:s.TypeIs (.ref a) "tuple":=⟨o,B,L⟩
   have y:ds.all (cL n)=a9:=m;unfold pyHash
   first|unfold pyHashByItsType|skip
   first|refine t6 (wpAny_cRoomFor_or (.inr<|by lia) ?_)|skip
   refine t6<|NP T F.slot_tuple_hash.lookup ?_;refine(show f9 (g7 X.prog X.w) _ (if (a7 (Value.builtin "tuple.__hash__")==a7 ABN)=a9 then _ else _) Q E s from ?_);rw[p4<|by rw[beq_builtin_none];exact MA];refine t6<|NP T F.slot_tuple_hash.lookup ?_;refine(show f9 (g7 X.prog X.w) _ (callSpecialIfBoundUnlessNone? (.ref a) "__hash__" _ >>= _) Q E s from t6<|So T F.slot_tuple_hash<|F5 F.slot_tuple_hash T F.entry_tuple_hash ?_<|F.args_tuple_hash_1 _);refine(show f9 (g7 X.prog X.w) _ (Rc (.ref a) >>= _) _ _ s from t6<|wpAny_tupleItemsOf B N<|t6 ?_);rw[<-O5];refine Nf _ (λaM (b:Array Int) s'=>∃done left q,ds=done++left/\Reps X.K ρ H left q/\aw q aM/\b.toList=done.map (A9 X.w n)/\∃tk,s'={ s with toks:=tk }) _ ?_ ?_ _ _ ⟨[],ds,vs,rfl,Y,by simpa using W,rfl,s.toks,rfl⟩;rintro x aM b s' ⟨done,left,q,e,h1,h2,k,tk,rfl⟩;cases h2 with
   |@cons Z _ i _ S G =>
    cases h1 with
    |@cons j _ c _ U J =>
     refine t6<|R _ _ j Z x _ _ (by show A.units+1+n<j6;lia) (I.tok tk) U S ?_ λg=>?_;have:=E8.mp y j (by rw[e];simp);exact this
     first
      |exact t8 ⟨done++[j],c,i,by rw[e];simp,J,G,by simp[k],g,rfl⟩
      |exact t6 (t8 (t8 ⟨done++[j],c,i,by rw[e];simp,J,G,by simp[k],g,rfl⟩))
   rintro b s' ⟨done,left,q,e,h1,h2,k,tk,rfl⟩;cases h2;cases h1;rw[MJ]at e;subst e;refine(show f9 (g7 X.prog X.w) _ (retInt<|OH b.toList) _ _ _ from ?_);rw[k];refine wpAny_ret_mkInt ?_;have l:A9 X.w (n+1) (.tup ds)=n5 (OH<|ds.map<|A9 X.w n):=rfl;generalize OH (ds.map<|A9 X.w n)=z at l;refine(show f9 (g7 X.prog X.w) _ (if (decide (-(2:Int) ^ 63<=z)&&decide (z<2 ^ 63))=a9 then _ else _) Q E _ from ?_);unfold n5 at l;by_cases C:(decide (-(2:Int) ^ 63<=z)&&decide (z<2 ^ 63))=a9;rw[o8 C]at l ⊢;exact t8 (by rw[<-l];exact h _);rw[p4 C]at l ⊢;exact t6<|F9<|t8<|by rw[<-l];exact h _
  |_=>cases m
theorem hbv_D(S:w4 X.K ρ M H):∀(n k:Nat) (A:e8) (s:f6) (d:D) (v:V) (u:b8) (E:b8->f6->Prop) (Q:Bool->f6->Prop),n<=k->t9 X pins σ H s->u5 X.K ρ H d v->aL v u->cL n d=a9->(∀b,Q b s)->f9 (g7 X.prog X.w) A (hashByValue k u) Q E s:=by
 intro n;induction n with
 |zero =>
  intro k A s d v u E Q q I r c e h;cases r with
  |str x=>obtain⟨t,rfl⟩:=c;cases k<;>exact t8<|h _
  |int x=>obtain⟨t,rfl⟩:=c;cases k<;>exact t8<|h _
  |_=>cases e
 |succ n G =>
  intro k A s d v u E Q q I r c e h;cases r with
  |str x=>obtain⟨t,rfl⟩:=c;cases k<;>exact t8<|h _
  |int x=>obtain⟨t,rfl⟩:=c;cases k<;>exact t8<|h _
  |@tup a vs ds z O =>
   cases c;obtain⟨k,rfl⟩:∃J,k=J+1:=⟨k-1,by lia⟩
   obtain⟨its,m,p,_⟩:=I.tuple z;obtain⟨o,B,j,R,l⟩:=id p;have T:s.TypeIs (.ref a) "tuple":=⟨o,B,j⟩
   have y:ds.all (cL n)=a9:=e;unfold hashByValue;refine t6<|NP T F.slot_tuple_hash.lookup ?_;dsimp only;refine t6<|Mt B l ?_;simp only[PR];rw[<-O5];refine t6 ?_;refine Nf _ (λaM r s'=>s'=s/\r.1=a8/\∃left f,(∀x∈left,cL n x=a9)/\Reps X.K ρ H left f/\aw f aM) _ ?_ ?_ _ _ ⟨rfl,rfl,ds,vs,E8.mp y,O,by simpa using m⟩;rintro x aM r s' ⟨rfl,i,left,f,g,h1,h2⟩;cases h2 with
   |cons L N =>
    cases h1 with
    |cons U P =>
     refine t6<|G k _ _ _ _ x _ _ (by lia) I U L (g _ D3) λb=>?_;cases b with
     |false=>exact t8<|t8<|h _
     |true=>exact t8 ⟨rfl,rfl,_,_,λx C=>g x<|C4 _ C,P,N⟩
   rintro⟨r1,m⟩ s' ⟨rfl,i,_⟩;simp only at i;subst i;exact t8<|h _
  |_=>cases e
theorem zL(P:w4 X.K ρ M H):∀(n k:Nat) (A:e8) (s:f6) (d:D) (v:V) (u:b8) (E:b8->f6->Prop) (Q:Bool->f6->Prop),n<=k->t9 X pins σ H s->u5 X.K ρ H d v->aL v u->cL n d=a9->Q a9 s->f9 (g7 X.prog X.w) A (o6 k u) Q E s:=by
 intro n;induction n with
 |zero =>
  intro k A s d v u E Q l I r b e h;cases r with
  |str x=>obtain⟨t,rfl⟩:=b;rw[Oa k (v:=.str x t) rfl];exact t8 h
  |int x=>obtain⟨t,rfl⟩:=b;rw[Oa k (v:=.int x t) rfl];exact t8 h
  |_=>cases e
 |succ n C =>
  intro k A s d v u E Q l I r b e h;cases r with
  |str x=>obtain⟨t,rfl⟩:=b;rw[Oa k (v:=.str x t) rfl];exact t8 h
  |int x=>obtain⟨t,rfl⟩:=b;rw[Oa k (v:=.int x t) rfl];exact t8 h
  |@tup a vs ds q N =>
   cases b;obtain⟨k,rfl⟩:∃G,k=G+1:=⟨k-1,by lia⟩
   obtain⟨its,m,p,_⟩:=I.tuple q;obtain⟨o,B,f,R,j⟩:=id p;have T:s.TypeIs (.ref a) "tuple":=⟨o,B,f⟩
   have y:ds.all (cL n)=a9:=e;unfold o6;refine t6<|NP T F.slot_tuple_eq.lookup ?_;refine(show f9 (g7 X.prog X.w) A (isInstance (.ref a) (.type "tuple") >>= _) _ _ s from t6<|NQ T isSubtype_tuple_tuple ?_);simp only[MI,A7,r9];refine t6<|Mt B j ?_;simp only[PR];refine t6 ?_;rw[<-O5];refine Nf _ (λaM r s'=>s'=s/\r.1=a8/\∃left c,(∀x∈left,cL n x=a9)/\Reps X.K ρ H left c/\aw c aM) _ ?_ ?_ _ _ ⟨rfl,rfl,ds,vs,E8.mp y,N,by simpa using m⟩;rintro x aM r s' ⟨rfl,i,left,c,g,h1,h2⟩;cases h2 with
   |cons J L =>
    cases h1 with
    |cons U O=>refine t6<|C k _ _ _ _ x _ _ (by lia) I U J (g _ D3) ?_;simp only[MI,A7,r9];exact t8 ⟨rfl,rfl,_,_,λx z=>g x<|C4 _ z,O,L⟩
   rintro⟨r1,m⟩ s' ⟨rfl,i,_⟩;simp only at i;subst i;exact t8 h
  |_=>cases e
theorem LQ(O:w4 X.K ρ M H):∀(n k:Nat) (A:e8) (s:f6) (d:D) (v:V) (u:b8) (E:b8->f6->Prop) (Q:Bool->f6->Prop),n<=k->t9 X pins σ H s->u5 X.K ρ H d v->aL v u->cL n d=a9->Q b7 s->f9 (g7 X.prog X.w) A (ofAClassStatement k u) Q E s:=by
 intro n;induction n with
 |zero =>
  intro k A s d v u E Q l I r b e h;cases r with
  |str x=>obtain⟨t,rfl⟩:=b;cases k<;>exact t8 h
  |int x=>obtain⟨t,rfl⟩:=b;cases k<;>exact t8 h
  |_=>cases e
 |succ n C =>
  intro k A s d v u E Q l I r b e h;cases r with
  |str x=>obtain⟨t,rfl⟩:=b;cases k<;>exact t8 h
  |int x=>obtain⟨t,rfl⟩:=b;cases k<;>exact t8 h
  |@tup a vs ds q L =>
   cases b;obtain⟨k,rfl⟩:∃F,k=F+1:=⟨k-1,by lia⟩
   obtain⟨its,m,p,_⟩:=I.tuple q;obtain⟨o,B,f,R,j⟩:=id p;have T:s.TypeIs (.ref a) "tuple":=⟨o,B,f⟩
   have y:ds.all (cL n)=a9:=e;unfold ofAClassStatement;refine t6<|No T ?_;dsimp only;simp only[t5,s9];refine t6<|t8 ?_;simp only[MI,A7,r9];refine t6<|Mt B j ?_;dsimp only;refine t6 ?_;rw[<-O5];refine Nf _ (λaM r s'=>s'=s/\r.1=a8/\∃left c,(∀x∈left,cL n x=a9)/\Reps X.K ρ H left c/\aw c aM) _ ?_ ?_ _ _ ⟨rfl,rfl,ds,vs,E8.mp y,L,by simpa using m⟩;rintro x aM r s' ⟨rfl,i,left,c,g,h1,h2⟩;cases h2 with
   |cons G J =>
    cases h1 with
    |cons U N=>refine t6<|C k _ _ _ _ x _ _ (by lia) I U G (g _ D3) ?_;simp only[A7,r9];exact t8 ⟨rfl,rfl,_,_,λx z=>g x<|C4 _ z,N,J⟩
   rintro⟨r1,m⟩ s' ⟨rfl,i,_⟩;simp only at i;subst i;exact t8 h
  |_=>cases e
noncomputable def eK:D->Bool
 |.tup _=>a9
 |_=>b7
def E6(X:Cx)(ρ:List c9)(H:Hp)(n:Nat)(d:D)(e:Int×b8):Prop:=(∃v,u5 X.K ρ H d v/\aL v e.2)/\e.1=A9 X.w n d/\cL n d=a9/\eK d=a9
structure KSet(X:Cx)(ρ:List c9)(H:Hp)(h:d6)(a:c9)(n:Nat)(ds:List D)(o:d5)(es:Array (Int×b8))(ep:Nat)(t:o5):Prop where
 ob:h.get? a=a7 o
 ex:o.ExactSet
 dt:o.data=.set es ep t
 en:Paired (E6 X ρ H n) ds es.toList
 nd:ds.Nodup
 tk:Ht.TOk t (es.toList.map (·.1))
 ld:t.led = !X.w.params.followText "set-order"
theorem cy{α β:Type}{R:α->β->Prop}:∀{xs:List α}{ys:List β}{i:Nat}{y:β},Paired R xs ys->ys[i]?=a7 y->∃x,xs[i]?=a7 x/\R x y
 |_,_,i,y,.nil,e=>by simp at e
 |_,_,0,y,.cons r _,e=>by simp at e;subst e;exact⟨_,rfl,r⟩
 |_,_,i+1,y,.cons _ t,e=>by obtain⟨x,h1,h2⟩:=cy (i:=i) t (by simpa using e);exact⟨x,by simpa using h1,h2⟩
theorem ju{α β:Type}{R:α->β->Prop}:∀{xs:List α}{ys:List β}{i:Nat}{x:α},Paired R xs ys->xs[i]?=a7 x->∃y,ys[i]?=a7 y/\R x y
 |_,_,i,y,.nil,e=>by simp at e
 |_,_,0,y,.cons r _,e=>by simp at e;subst e;exact⟨_,rfl,r⟩
 |_,_,i+1,y,.cons _ t,e=>by obtain⟨x,h1,h2⟩:=ju (i:=i) t (by simpa using e);exact⟨x,by simpa using h1,h2⟩
theorem KSet.fits(S:KSet X ρ H h a n ds o es ep t):t.fits es.size=a9:=by
 have h1:=S.tk.len;have h2:=S.tk.few;rw[v7,E2]at h1;unfold OW;have b:t.fill=t.place.size:=by unfold Qx;rw[S.tk.nod];rfl
 rw[b];simp only[E4,p9,p8];lia
theorem Cu(m:w4 X.K ρ M H)(I:t9 X pins σ H s)(f:n<=8)(r:u5 X.K ρ H d v)(g:aL v u)(e:cL n d=a9)(h:Q b7 s):∀(l:List b8),(∀y∈l,∃d' v',u5 X.K ρ H d' v'/\aL v' y/\cL n d'=a9)->f9 (g7 X.prog X.w) A (searchCouldBeSeen u l) Q E s:=by intro l j;unfold searchCouldBeSeen;refine t6 ?_;refine Nf _ (λaM r s'=>s'=s/\r.1=a8/\∀y∈aM,∃d' v',u5 X.K ρ H d' v'/\aL v' y/\cL n d'=a9) _ ?_ ?_ _ _ ⟨rfl,rfl,j⟩;rintro y aM r' s' ⟨rfl,i,c⟩;have t:∀z∈aM,∃d' v',u5 X.K ρ H d' v'/\aL v' z/\cL n d'=a9:=λz o=>c z<|C4 _ o;obtain⟨d',v',a,b,k⟩:=c y D3;dsimp only;refine NB (λ_=>t8 ⟨rfl,rfl,t⟩) λ_=>?_;refine t6<|zL m n 8 A _ d v u _ _ f I r g e ?_;simp only[MI,A7,r9];refine t6<|zL m n 8 A _ d' v' y _ _ f I a b k ?_;simp only[MI,A7,r9];refine t6<|LQ m n 8 A _ d v u _ _ f I r g e ?_;simp only[A7,r9];refine t6<|LQ m n 8 A _ d' v' y _ _ f I a b k ?_;simp only[A7,r9];exact t8 ⟨rfl,rfl,t⟩;rintro⟨a,b⟩ s' ⟨rfl,i,_⟩;simp only at i;subst i;exact t8 h
theorem CK(sm:w4 X.K ρ M H)(I:t9 X pins σ H s)(hn:n<=8)(hu:A.units+n<j6)(S:KSet X ρ H s.heap a n ds o es ep t)(r:u5 X.K ρ H d v)(rv:aL v u)(D:cL n d=a9)(c:d∈ds->Q (.there a8) s) (bk:N<10*(t.mask+15)) (F:(Ht.sq t.mask (A9 X.w n d) N).j∉t.place.toList) (ai:∀k,k<N->(Ht.sq t.mask (A9 X.w n d) k).j∈t.place.toList)(G:d∉ds->Q (.free (Ht.sq t.mask (A9 X.w n d) N).j b7) s):∀(fuel m:Nat) (stand:Option N5),m<=N->N<m+fuel->stand.getD (t.probeStart<|A9 X.w n d)=Ht.sq t.mask (A9 X.w n d) m->(∀k i:Nat,k<m->t.place[i]?=a7 (Ht.sq t.mask (A9 X.w n d) k).j->ds[i]?≠a7 d) ->f9 (g7 X.prog X.w) A (setSearchFrom a u (A9 X.w n d) a9 fuel stand) Q E s:=by
 intro fuel;induction fuel with
 |zero=>intro m stand h1 h2;lia
 |succ fuel ih =>
  intro m stand h1 h2 hs hb;unfold setSearchFrom;refine t6<|Ng S.ob S.dt S.fits ?_;dsimp only;have gw:t.gaveWay=b7:=by unfold SetTable.gaveWay;rcases S.tk.msk with e|e|e<;>rw[e]<;>rfl
  rw[gw];simp only[A7,r9];rw[hs];rcases Ht.go_spec S.tk.ris S.tk.nod (λi=>(es[i]?.map (·.1)).getD 0) (A9 X.w n d) (10*OY t.mask) m N h1 (by unfold OY;lia) F (λk _ hk=>ai k hk) (Ht.sq_dummy _ _)with⟨z1,z2⟩|⟨m',i,a1,a2,a3,a4,a5,a6⟩
  generalize J:SetTable.probe t _ (A9 X.w n d) (Ht.sq t.mask (A9 X.w n d) m)=pr;obtain rfl:pr=_:=J.symm.trans z2;dsimp only;refine t8<|G λhd=>?_;obtain⟨i,hi⟩:=MP hd;obtain⟨e,C,_,T,_⟩:=ju S.en hi;have g:es[i]?=a7 e:=by rw[<-G5];exact C
  have hh:(es.toList.map (·.1))[i]?=a7 (A9 X.w n d):=by rw[C7,C];exact t4 a7 T
  have hl:i<t.place.size:=by rw[S.tk.len];exact(A6.mp hh).1
  obtain⟨O,b1,b2⟩:=S.tk.path i _ t.place[i] hh<|G6 hl;have an:O<N:=by rcases P6 O N with q|q|q;exact q;subst q;exact p7 (show (Ht.sq t.mask (A9 X.w n d) O).j∈t.place.toList by rw[b1];simp) F;exact p7 (b2 N q) F
  have hp:t.place[i]?=a7 (Ht.sq t.mask (A9 X.w n d) O).j:=by rw[b1];exact G6 hl
  rcases Mx O m with q|q;exact hb O i q hp hi;refine z1 O i q an hp ?_;rw[g];exact T;generalize J:SetTable.probe t _ (A9 X.w n d) (Ht.sq t.mask (A9 X.w n d) m)=pr;obtain rfl:pr=_:=J.symm.trans a6;dsimp only;have al:i<es.size:=by have:=(Ni.mp a3).1;rw[S.tk.len,v7,E2]at this;exact this
  have l:es[i]?=a7 es[i]:=G6 al;obtain⟨p,Pj,⟨v0,r0,W⟩,be,L,as⟩:=cy S.en (i:=i) (y:=es[i]) (by rw[G5];exact l);have Y:∀(f:Bool->Sem SetFound),f9 (g7 X.prog X.w) A (f b7) Q E s->f9 (g7 X.prog X.w) A (searchCouldBeSeen u ((es.filter (·.1==A9 X.w n d)).toList.map (·.2)) >>= f) Q E s:=λf hf=>by
   refine t6<|Cu sm I hn r rv D hf _ λy hy=>?_;obtain⟨e,C,rfl⟩:=z5.mp hy;have aj:e∈es.toList:=by
    have:e∈es.filter (·.1==A9 X.w n d):=by simpa using C
    simpa using(Array.mem_filter.mp this).1
   obtain⟨j,hj⟩:=MP aj;obtain⟨d1,_,⟨v1,r1,aS⟩,_,aD,_⟩:=cy S.en hj;exact⟨d1,v1,r1,aS,aD⟩
  have x:∃b,es[i].2=AB6 b:=by
   cases r0 with
   |tup _ _=>exact⟨_,W⟩
   |_=>cases as
  obtain⟨b,x⟩:=x;have U:MG A s es[i].2 u (u6 M n p d):=(kH I sm n A p d v0 v es[i].2 u hu r0 W r rv (qC n p L)<|qC n d D).1;refine NB (λ_=>Y _ ?_) λ_=>?_;simp only[A7,r9];rw[l];dsimp only;refine t6<|E3<|U _ _ _ _<|t6<|Ng S.ob S.dt S.fits ?_;dsimp only;by_cases B:u6 M n p d=a9;rw[B];simp only[Bool.and_self,s9];have:p=d:=(iP n p d L D).mp B;subst this;exact t8<|c<|E9 Pj;rw[NF.mpr B];simp only[PL,A7,r9];have R:t.sameMemory t.moves t.mask=a7 a9:=by unfold SetTable.sameMemory;simp
  rw[R];dsimp only;simp only[s9];rw[Ht.slot_live S.tk.ris a3];dsimp only;rw[l];have P:f9 (g7 X.prog X.w) A (isSame es[i].2 es[i].2) (λb s'=>b=a9/\s'=s) E s:=by unfold isSame;rw[x];simp only[t5,s9];exact t8<|And.intro rfl rfl
  refine t6<|L0 P (λb s' ⟨Z,e2⟩=>?_) λ_ _ z=>z;subst Z e2;refine t6<|t8 ?_;simp only[s9];refine ih (m'+1) _ (by lia) (by lia) rfl λk i' hk hp h=>?_;rcases Mx k m with q|q;exact hb k i' q hp h;rcases Mx k m' with V|V;refine a5 k i' q V hp ?_;obtain⟨e,C,_,T,_⟩:=ju S.en h;have g:es[i']?=a7 e:=by rw[<-G5];exact C
  rw[g];exact T;have:k=m':=by lia
  subst this;have:i'=i:=by rw[<-Ht.below_at S.tk.ris hp,Ht.below_at S.tk.ris a3]
  subst this;rw[Pj]at h;cases h;exact B<|(iP n d d D D).mpr rfl;rw[l];dsimp only;refine t6<|E3<|U _ _ _ _<|t6<|Ng S.ob S.dt S.fits ?_;dsimp only;by_cases B:u6 M n p d=a9;rw[B];simp only[Bool.and_self,s9];have:p=d:=(iP n p d L D).mp B;subst this;exact t8<|c<|E9 Pj;rw[NF.mpr B];simp only[PL,A7,r9];have R:t.sameMemory t.moves t.mask=a7 a9:=by unfold SetTable.sameMemory;simp
  rw[R];dsimp only;simp only[s9];rw[Ht.slot_live S.tk.ris a3];dsimp only;rw[l];have P:f9 (g7 X.prog X.w) A (isSame es[i].2 es[i].2) (λb s'=>b=a9/\s'=s) E s:=by unfold isSame;rw[x];simp only[t5,s9];exact t8<|And.intro rfl rfl
  refine t6<|L0 P (λb s' ⟨Z,e2⟩=>?_) λ_ _ z=>z;subst Z e2;refine t6<|t8 ?_;simp only[s9];refine ih (m'+1) _ (by lia) (by lia) rfl λk i' hk hp h=>?_;rcases Mx k m with q|q;exact hb k i' q hp h;rcases Mx k m' with V|V;refine a5 k i' q V hp ?_;obtain⟨e,C,_,T,_⟩:=ju S.en h;have g:es[i']?=a7 e:=by rw[<-G5];exact C
  rw[g];exact T;have:k=m':=by lia
  subst this;have:i'=i:=by rw[<-Ht.below_at S.tk.ris hp,Ht.below_at S.tk.ris a3]
  subst this;rw[Pj]at h;cases h;exact B<|(iP n d d D D).mpr rfl
theorem Paired.ins{α β:Type}{R:α->β->Prop}{x:α}{y:β}(r:R x y):∀{xs:List α}{ys:List β} (p:Nat),Paired R xs ys->Paired R (xs.take p++x::xs.drop p) (ys.take p++y::ys.drop p)
 |_,_,0,h=>by simpa using .cons r h
 |_,_,p+1,.nil=>.cons r .nil
 |_,_,p+1,.cons h t=>.cons h<|Paired.ins r p t
theorem Paired.pick{α β:Type}{R:α->β->Prop}:∀{xs:List α}{ys:List β} (is:List Nat),Paired R xs ys->(∀i∈is,i<xs.length)->Paired R (is.filterMap (xs[·]?)) (is.filterMap (ys[·]?))
 |_,_,[],_,_=>.nil
 |xs,ys,i::is,h,hi=>by have hl:=hi i D3;have e:xs[i]?=a7 xs[i]:=x9 hl;obtain⟨y,hy,r⟩:=ju h e;rw[NT,NT,e,hy];exact .cons r<|Paired.pick is h λj hj=>hi j<|C4 _ hj
theorem oY{α:Type}{l:List α}{is:List Nat}(h:is.Perm (D0 l.length)):(is.filterMap (l[·]?)).Perm l:=by
 have:=h.filterMap (l[·]?)
 rwa [List.filterMap_getElem?_range_length]at this
section
variable{X:Cx}{pins:List (c9×d5)}{σ:St}{H:Hp}{ρ:List c9}{M:u8}{A:e8}{E:b8->f6->Prop}{s:f6}{a:c9}{n:Nat}{ds:List D}{o:d5}{es:Array (Int×b8)}{ep:Nat}{t:o5}
def KS(X:Cx)(ρ:List c9)(H:Hp)(h:d6)(a:c9)(n:Nat)(ds:List D):Prop:=∃o es i t,KSet X ρ H h a n ds o es i t
set_option maxHeartbeats 1000000 in
theorem add_D(sm:w4 X.K ρ M H)(I:t9 X pins σ H s)(hn:n<=8)(hu:A.units+n+1<j6)(S:KS X ρ H s.heap a n ds)(bl:ds.length+1<=64)(r:u5 X.K ρ H d v)(rv:aL v u)(kd:cL n d=a9)(it:eK d=a9)(h:∀b h' tk ds',(∀c u,c≠a->s.heap.get? c=a7 u->h'.get? c=a7 u)->KS X ρ H h' a n ds'->(∀x,x∈ds'↔x∈ds\/x=d)->ds'.length<=ds.length+1->Q b { s with heap:=h',toks:=tk }):f9 (g7 X.prog X.w) A (setAdd a u) Q E s:=by
 obtain⟨o,es,ep,t,S⟩:=S;obtain⟨R,rfl⟩:∃R,u=AB6 R:=by
  cases r with
  |tup _ _=>exact⟨_,rv⟩
  |_=>cases it
 unfold setAdd;refine E3<|t6<|Ld sm n A s d v _ _ _ (by lia) I r rv kd λtk=>?_;unfold setAddHashed setAddHashedIn;refine E3<|t6<|Ng (s:={ s with toks:=tk }) S.ob S.dt S.fits ?_;dsimp only;have bs:byScan (.ref R) es=b7:=rfl;rw[bs];simp only[A7,r9];obtain⟨N,ai,aj,al⟩:=S.tk.empty<|A9 X.w n d;have I1:t9 X pins σ H { s with toks:=tk }:=I.tok tk;unfold setSearch;refine t6<|CK (s:={ s with toks:=tk }) sm I1 hn (by lia) S r rv kd (λhd=>?_) ai aj al (λhd=>?_) 100000 0 a8 (B5 _) ?_ rfl λk i hk=>p7 hk<|ND _;exact t8<|h _ s.heap tk ds (λ_ _ _ e=>e) ⟨o,es,ep,t,S⟩ (λx=>⟨.inl,λz=>z.elim id λe=>e ▸ hd⟩)<|OS _;dsimp only;refine t6<|Ng (s:={ s with toks:=tk }) S.ob S.dt S.fits ?_;dsimp only;have J:=S.tk.len;rw[v7,E2]at J;have dl:ds.length=es.size:=by have:=Paired.length S.en;simpa using this
 have F:∀O:Bool,f9 (g7 X.prog X.w) A (do
   storeSet a (QM es (t.put (Ht.sq t.mask (A9 X.w n d) N).j).2 (A9 X.w n d,AB6 R)) { (t.put (Ht.sq t.mask (A9 X.w n d) N).j).1 with plain:=O }
   if (!b7&&({ (t.put (Ht.sq t.mask (A9 X.w n d) N).j).1 with plain:=O }:o5).tooFull)=a9 then do
     setRelay a (Ow<|es.size+1)
     pure a9
    else pure a9) Q E { s with toks:=tk }:=λO=>by
  obtain⟨pb,T⟩:=Ht.put_pre S.tk aj al O;have G:({ (t.put (Ht.sq t.mask (A9 X.w n d) N).j).1 with plain:=O }:o5).led=t.led:=rfl;have L:({ (t.put (Ht.sq t.mask (A9 X.w n d) N).j).1 with plain:=O }:o5).mask=t.mask:=rfl;generalize ({ (t.put (Ht.sq t.mask (A9 X.w n d) N).j).1 with plain:=O }:o5)=D at T G L;generalize (t.put (Ht.sq t.mask (A9 X.w n d) N).j).2=p at pb T;rw[v7,E2]at pb;have e1:(QM es p (A9 X.w n d,AB6 R)).toList=es.toList.take p++(A9 X.w n d,AB6 R)::es.toList.drop p:=SetTable.toList_insertAt ..;generalize QM es p (A9 X.w n d,AB6 R)=f at e1;have aS:f.toList.map (·.1)=(es.toList.map (·.1)).take p++A9 X.w n d::(es.toList.map (·.1)).drop p:=by rw[e1,G1,C2,List.map_take,List.map_drop]
  rw[<-aS]at T;have C:f.size=es.size+1:=by have:=t4 L1 e1;rw[E2,A3,C0,K5,MM,E2]at this;lia
  have Y:Paired (E6 X ρ H n) (ds.take p++d::ds.drop p) f.toList:=by rw[e1];exact Paired.ins ⟨⟨v,r,rv⟩,rfl,kd,it⟩ p S.en
  have U:(ds.take p++d::ds.drop p).Perm (d::ds):=by refine List.perm_middle.trans<|Qy d ?_;rw[List.take_append_drop]
  have an:(ds.take p++d::ds.drop p).Nodup:=U.nodup_iff.mpr<|J7.mpr ⟨hd,S.nd⟩;have Z:D.fits f.size=a9:=by
   have l1:=T.len;rw[v7,E2]at l1;have h3:D.fill=D.place.size:=by unfold Qx;rw[T.nod];rfl
   have fw:=S.tk.few;unfold OW;rw[h3];simp only[E4,p9,p8];rw[J]at fw;rcases S.tk.msk with e|e|e<;>rw[L,e]<;>rw[e]at fw<;>lia
  have zz:f.size<=sizeLine:=by rw[MH];lia
  refine t6<|wpAny_storeSet_of (s:={ s with toks:=tk }) S.ob S.dt ?_ zz;have B:(s.heap.update a<|OQ f D).get? a=a7 { o with data:=.set f (ep+1) D }:=by
   have q:=L4 (OQ f D) S.ob<|by rw[putSet_of f D S.dt];rfl
   rwa [putSet_of f D S.dt]at q
  have as:∀c u,c≠a->s.heap.get? c=a7 u->(s.heap.update a<|OQ f D).get? c=a7 u:=λc u hc e=>(Pa _ _<|z9 hc).trans e;by_cases tf:D.tooFull=a9;rw[tf];simp only[Bool.not_false,Bool.and_self,s9];have aD:((f.toList.map (·.1)).length-1)*5<D.mask*3:=by have fw:=S.tk.few;rw[J]at fw;rw[v7,E2,C,L];simpa using fw
  obtain⟨zl,W,m,g1,g2,T2,be⟩:=T.anew tf aD (by rw[v7,E2];lia);rw[v7,E2]at g2 zl;have eg:Ow (es.size+1)=Ow (f.toList.map (·.1)).length:=by rw[v7,E2,C]
  unfold setRelay;refine t6<|t6<|Ng (s:={ s with heap:=_,toks:=tk }) B rfl Z ?_;dsimp only;rw[eg];have nz:¬RB (Ow (f.toList.map (·.1)).length) > sizeLine:=by rw[v7,E2];lia
  simp only[nz,r9];have ea:f.map (·.1)=(f.toList.map (·.1)).toArray:=by apply Array.ext';simp
  rw[ea,g1];have y:(m.filterMap (f[·]?)).toList=m.toList.filterMap (f.toList[·]?):=by rw[Array.toList_filterMap];congr 1;funext i;rw[G5]
  have V:(m.filterMap (f[·]?)).size=f.size:=by have:=(oY (l:=f.toList) (is:=m.toList)<|by rw[E2];exact g2).length_eq;rw[<-y,E2,E2]at this;exact this
  refine t6 (show f9 (g7 X.prog X.w) A (if ((m.filterMap (f[·]?)).size != f.size)=a9 then _ else pure (m.filterMap (f[·]?),W)) _ _ _ from ?_);rw[p4<|by rw[V];simp];refine t8 ?_;generalize m.filterMap (f[·]?)=g at y V;have P:(m.toList.filterMap ((ds.take p++d::ds.drop p)[·]?)).Perm (ds.take p++d::ds.drop p):=oY (by
   have:(ds.take p++d::ds.drop p).length=f.size:=by rw[U.length_eq,C0,dl,C]
   rw[this];exact g2)
  refine wpAny_storeSet_of (s:={ s with heap:=_,toks:=tk }) B rfl ?_ (by rw[V];exact zz);have bk:((s.heap.update a<|OQ f D).update a<|OQ g W).get? a=a7 { o with data:=.set g (ep+1+1) W }:=by
   have q:=L4 (OQ g W) B<|by rw[putSet_of g W (es:=f) (ep:=ep+1) (t:=D) rfl];rfl
   rwa [putSet_of g W (es:=f) (ep:=ep+1) (t:=D) rfl]at q
  refine t8 (h _ _ tk (m.toList.filterMap ((ds.take p++d::ds.drop p)[·]?)) (λc u hc e=>(Pa _ _<|z9 hc).trans<|as c u hc e) ⟨_,g,_,W,bk,S.ex,rfl,?_,P.nodup_iff.mpr an,?_,be.trans<|G.trans S.ld⟩ (λx=>?_) ?_);rw[y];refine Paired.pick _ Y λi hi=>?_;have:=g2.mem_iff.mp hi;rw[I0]at this;rw[U.length_eq,C0,dl,<-C];exact this;have e2:g.toList.map (·.1)=m.toList.map λi=>(f.toList.map (·.1)).getD i 0:=by
   rw[y];have:∀(is:List Nat),(∀i∈is,i<f.toList.length)->(is.filterMap (f.toList[·]?)).map (·.1)=is.map λi=>(f.toList.map (·.1)).getD i 0:=by
    intro is;induction is with
    |nil=>intro _;rfl
    |cons i is ih=>intro hi;have hl:=hi i D3;rw[NT,x9 hl,C2,C2,ih λj hj=>hi j<|C4 _ hj];congr 1;rw[K6,C7,x9 hl];rfl
   refine this _ λi hi=>?_;have:=g2.mem_iff.mp hi;rw[I0]at this;rw[E2];exact this
  rw[e2];exact T2;rw[P.mem_iff,U.mem_iff,A1];exact⟨λz=>z.symm,λz=>z.symm⟩;rw[P.length_eq,U.length_eq];exact v6 _;rw[NF.mpr tf];simp only[PL,A7,r9];refine t8<|h _ _ tk _ as ⟨_,f,_,D,B,S.ex,rfl,Y,an,T.ok<|NF.mpr tf,G.trans S.ld⟩ (λx=>?_) ?_;rw[U.mem_iff,A1];exact⟨λz=>z.symm,λz=>z.symm⟩;rw[U.length_eq];exact v6 _
 refine NB (λ_=>t6<|hbv_D sm n 8 A _ d v _ _ _ hn I1 r rv kd λb=>?_) λ_=>?_;cases b with
 |true=>exact F (t.put (Ht.sq t.mask (A9 X.w n d) N).j).1.plain
 |false=>exact F b7
 exact F (t.put (Ht.sq t.mask (A9 X.w n d) N).j).1.plain;have:=ai;rcases S.tk.msk with e|e|e<;>rw[e]at this<;>lia
end
theorem KS.at(x:KS X ρ H h a n ds)(k:∀o,h.get? a=a7 o->h'.get? a=a7 o):KS X ρ H h' a n ds:=by obtain⟨o,es,i,t,S⟩:=x;exact⟨o,es,i,t,k _ S.ob,S.ex,S.dt,S.en,S.nd,S.tk,S.ld⟩
theorem GZ(sm:w4 X.K ρ M H)(I:t9 X pins σ H s)(hn:n<=8)(hu:A.units+n+2<j6)(W:Walks X.prog X.w A.in1 J fp wr m P Sx)(S:c9)(f:S∉fp)(G:s.heap.get? S=a8) (B:∀b∈wr,s.heap.get? b=a8) (l:Nat->D) (y:∀i v,P i v->∃vv,u5 X.K ρ H (l i) vv/\aL vv v/\cL n (l i)=a9/\eK (l i)=a9) (hb:m<=63):∀(k i:Nat) (h:d6) (tk:Nat) (ds:List D),m-i=k->i<=m->Sx i h->KS X ρ H h S n ds->(∀x,x∈ds↔∃j,j<i/\l j=x)->ds.length<=i->(∀b u,s.heap.get? b=a7 u->h.get? b=a7 u) ->(∀h' tk ds',(∀b u,s.heap.get? b=a7 u->h'.get? b=a7 u)->KS X ρ H h' S n ds'->(∀x,x∈ds'↔∃j,j<m/\l j=x)->ds'.length<=m->R (.ok<|.ret .none) { s with heap:=h',toks:=tk }) ->j8 (g7 X.prog X.w) A (.builtin "set.update.loop" ⟨[.ref S,.ref J],[]⟩) R { s with heap:=h,toks:=tk }:=by
 have g:S∉wr:=λh=>f<|W.sub _ h;intro k;induction k with
 |zero =>
  intro i h tk ds hk hi t E O U a Z;obtain rfl:i=m:=by lia
  refine NC F.entry_set_update_loop ?_;rw[NU F.plain_set_update_loop _];refine(show f9 (g7 X.prog X.w) A.in1 (i8 (.ref J) >>= _) _ _ _ from t6<|W.done _ _ _ t λh' tk d=>?_);refine t8<|Z h' tk ds (λb u e=>d b u (λz=>by rw[B b z]at e;cases e)<|a b u e) (E.at λo e=>d S o g e) O U
 |succ k ih=>intro i h tk ds hk hi t E O U a Z;refine NC F.entry_set_update_loop ?_;rw[NU F.plain_set_update_loop _];refine(show f9 (g7 X.prog X.w) A.in1 (i8 (.ref J) >>= _) _ _ _ from t6<|W.item i _ _ _ (by lia) t λv h' tk hP p d=>?_);obtain⟨vv,r,rv,kd,it⟩:=y i v hP;have c:∀b u,s.heap.get? b=a7 u->h'.get? b=a7 u:=λb u e=>d b u (λz=>by rw[B b z]at e;cases e)<|a b u e;have Y:t9 X pins σ H { s with heap:=h',toks:=tk }:=I.kept c;refine t6<|E3<|add_D (s:={ s with heap:=h',toks:=tk }) sm Y hn (by show A.units+1+n+1<j6;lia) (E.at λo e=>d S o g e) (by lia) r rv kd it λb h2 T C V L Q ai=>?_;refine t8 ⟨NA F.plain_set_update_loop _,ih (i+1) h2 T C (by lia) (by lia) (W.frame _ h' h2 p λb' N o e=>V b' o (λz=>f<|z ▸ N) e) L (λx=>?_) (by lia) (λb u e=>V b u (λz=>by rw[z,G]at e;cases e)<|c b u e) Z⟩;rw[Q,O];constructor;rintro(⟨j,hj,e⟩|rfl);exact⟨j,by lia,e⟩;exact⟨i,by lia,rfl⟩;rintro⟨j,hj,rfl⟩;by_cases q:j=i;subst q;exact .inr rfl;exact .inl ⟨j,by lia,rfl⟩
theorem DJ(e:h.get? a=a7 (bj X.w)):KS X ρ H h a n []:=⟨_,#[],0,_,e,⟨rfl,rfl,rfl⟩,rfl,.nil,Ov,⟨.inl rfl,rfl,rfl,QP,λj L=>by simp[SetTable.fresh]at L,(by show 0*5<7*3;decide),λi h j b=>by simp at b⟩,rfl⟩
section
theorem Hs(Z:w4 X.K ρ M H)(I:t9 X pins σ H s)(B:m<=8)(hu:A.units+m+3<j6){l:c9}{T:String}{n:Nat}{P:Nat->b8->Prop}{G:f6->Prop}(O:A.handled=a8)(K:TxSrc X.prog X.w s.heap l T n P)(a:Nat->D)(y:∀i v,P i v->∃vv,u5 X.K ρ H (a i) vv/\aL vv v/\cL m (a i)=a9/\eK (a i)=a9)(N:n<=63)(h:∀h' tk ds,(∀b o,s.heap.get? b=a7 o->h'.get? b=a7 o)->KS X ρ H h' s.heap.objs.size m ds->(∀x,x∈ds↔∃j,j<n/\a j=x)->ds.length<=n->G { s with heap:=h',toks:=tk }):f9 (g7 X.prog X.w) A (Builtin.«set.__init__» ⟨[.ref s.heap.objs.size,.ref l],[]⟩) (λfin s'=>fin=.done (.ret .none)/\G s') E { s with heap:=s.heap.push (bj X.w) }:=by
 have S:(s.heap.push<|bj X.w).get? s.heap.objs.size=a7 (bj X.w):=A8 _ rfl;have hT:Np { s with heap:=s.heap.push (bj X.w) } (.ref s.heap.objs.size) "set":=⟨_,S,rfl⟩
 obtain⟨F,f,r⟩:=K.obj;have c:(s.heap.push<|bj X.w).get? l=a7 F:=x5 _ f;have L:Np { s with heap:=s.heap.push (bj X.w) } (.ref l) T:=⟨F,c,r⟩
 have Y:l<s.heap.objs.size:=z6 f;have J:(s.heap.push<|bj X.w).objs.size=s.heap.objs.size+1:=L8 ..;obtain⟨oI,St,t,W,st⟩:=K.iter A.in1 { s with heap:=s.heap.push (bj X.w) } O λo e=>x5 _ e;have ns:=K.ns;have nf:=K.nf;have nd:=K.nd;unfold Builtin.«set.__init__» noKeywords Builtin.Frozenset.updateFrom;generalize d:j0=PI
 wp_walk
 subst d;refine wpAny_of_in1<|t _ _ ?_;have k:s.heap.objs.size∉[(s.heap.push<|bj X.w).objs.size,l]:=by rw[J];simp only[A1,ML,or_false,not_or];exact⟨A4<|Ml _,Na Y⟩
 have g:s.heap.get? s.heap.objs.size=a8:=by
  cases q:s.heap.get? s.heap.objs.size with
  |none=>rfl
  |some o=>exact p7 (z6 q)<|G0 _
 have C:∀b∈[(s.heap.push<|bj X.w).objs.size],s.heap.get? b=a8:=λb p=>by
  rw[I9.mp p,J];cases q:s.heap.get? (s.heap.objs.size+1) with
  |none=>rfl
  |some o=>exact p7 (z6 q)<|Nw.mpr<|OS _
 refine t6<|wpAny_runValue<|GZ (s:=s) Z I B (by first|exact(show A.units+m+2<j6 by lia)|exact(show A.units+1+m+2<j6 by lia)) W s.heap.objs.size k g C a y N n 0 _ _ [] rfl (B5 _) st (DJ<|x5 _ S) (λx=>by simp) (v6 _) (λb u e=>x5 _<|x5 _ e) λh' tk V Q z U R=>?_;exact t8<|t8 ⟨rfl,h h' tk V Q z U R⟩
set_option maxHeartbeats 1000000 in
theorem Ir(C:w4 X.K ρ M H)(I:t9 X pins σ H s)(B:m<=8)(Z:A.units+m+20<j6){l:c9}{T:String}{n:Nat}{P:Nat->b8->Prop}{Q:b8->f6->Prop}(t:A.handled=a8)(K:TxSrc X.prog X.w s.heap l T n P)(a:Nat->D)(y:∀i v,P i v->∃vv,u5 X.K ρ H (a i) vv/\aL vv v/\cL m (a i)=a9/\eK (a i)=a9)(p:n<=63)(h:∀h' tk ds,(∀b o,s.heap.get? b=a7 o->h'.get? b=a7 o)->KS X ρ H h' s.heap.objs.size m ds->(∀x,x∈ds↔∃j,j<n/\a j=x)->ds.length<=n->Q (.ref s.heap.objs.size) { s with heap:=h',toks:=tk }):f9 (g7 X.prog X.w) A (call (.type "set") [.ref l]) Q E s:=by
 have O:=F.called_set.made;have W:=F.called_set.sub;have U:=F.called_set.notType;have L:=F.called_set.canCreate;have Y:=F.typeCall_set_1<|.ref l;obtain⟨c,tl,V⟩:=F.called_set.mro;refine wpAny_call<|codeAny_of_tree<|show f9 _ _ (callAny (.type "set") _) _ _ _ from t8 ⟨Code.quiet_builtin _ (by decide +kernel),NC F.entry_type_call ?_⟩;rw[Around.under_plain (weight_type_call_type "set" [.ref l] []) rfl]
 repeat (any_goals (first|assumption|wp_step))
 refine OV (vQ (.ref l) (E:=E) (Q₁:=λobj s₁=>obj=.ref s.heap.objs.size/\s₁={ s with heap:=s.heap.push (bj X.w) }) ⟨rfl,rfl⟩) λr s₁ hr=>?_
 match r,hr with
 |.error e,hr=>exact hr
 |.ok (.ret obj),⟨e1,e2⟩ =>
  subst e1 e2;have S:(s.heap.push<|bj X.w).get? s.heap.objs.size=a7 (bj X.w):=A8 _ rfl;have k:Np { s with heap:=s.heap.push (bj X.w) } (.ref s.heap.objs.size) "set":=⟨_,S,rfl⟩
  have N:=F.called_set.init.lookup;have J:=F.called_set.init.bind<|.ref s.heap.objs.size
  repeat (any_goals (first|assumption|wp_step))
  refine OV (codeAny_call_builtin (R:=wants (λr s₂=>r=.none/\Q (.ref s.heap.objs.size) s₂) E) F.called_set.init.plain F.entry_set_init<|check_set_init_1 k ?_) λd s₂ hr₂=>?_;refine L0 (Hs (G:=λu=>Q (.ref s.heap.objs.size) u) C I B (by first|(show A.units+1+1+1+m+3<j6;lia)|(show A.units+1+1+m+3<j6;lia)|(show A.units+1+m+3<j6;lia)) (by simp[t]) K a y p h) (λf s' ⟨e,g⟩=>?_) λ_ _ z=>z;subst e;exact⟨rfl,g⟩
  ·match d,hr₂ with
   |.error e,hr₂=>exact hr₂
   |.ok (.ret r),⟨e,q⟩ =>
    subst e
    repeat (any_goals (first|assumption|wp_step))
end
def SqAt(M:u8)(d:D)(xs:List D):Prop:=(∃n,d=.ref n/\am M n xs)\/d=.tup xs
theorem SrtOk.sub(h:SrtOk M xs)(s:∀y∈ys,y∈xs)(l:ys.length<64):SrtOk M ys:=by refine⟨l,λx a=>h.ok x<|s x a,λx a y Q=>h.cm x (s x a) y<|s y Q,?_⟩;rcases h.kd with k|k|k|k|k;exact .inl λx a=>k x<|s x a;exact .inr<|.inl λx a=>k x<|s x a;exact .inr<|.inr<|.inl λx a=>k x<|s x a;exact .inr<|.inr<|.inr<|.inl λx a=>k x<|s x a;exact .inr<|.inr<|.inr<|.inr λx a=>k x<|s x a
theorem IY(I:t9 X pins σ H s)(e:w4 X.K ρ M H)(r:u5 X.K ρ H d v)(b:aL v u)(t:SqAt M d xs):∃(a:c9) (T:String) (its:Array b8) (vs:List V),u=.ref a/\TxSrc X.prog X.w s.heap a T its.size (λi v=>its[i]?=a7 v)/\Reps X.K ρ H xs vs/\aw vs its.toList:=by
 rcases t with⟨n,rfl,h⟩|rfl;cases r with
 |@ref _ a c=>cases b;obtain⟨vs,hs,f⟩:=h.seq e c;obtain⟨its,m,p,_⟩:=I.list hs;exact⟨a,_,its.toArray,vs,rfl,TxSrc.list p.isList,f,by simpa using m⟩
 cases r with
 |@tup a vs _ hs f=>cases b;obtain⟨its,m,p,_⟩:=I.tuple hs;exact⟨a,_,its.toArray,vs,rfl,TxSrc.tuple p,f,by simpa using m⟩
theorem lG{X:Cx}:∀{ds:List D}{vs:List V}{its:List b8}{i:Nat}{u:b8}{ρ:List c9}{H:Hp},Reps X.K ρ H ds vs->aw vs its->its[i]?=a7 u->∃d v,ds[i]?=a7 d/\u5 X.K ρ H d v/\aL v u
 |_,_,_,i,u,_,_,.nil,h,e=>by cases h;simp at e
 |_,_,_,0,u,_,_,.cons r _,h,e=>by
  cases h with
  |cons a _=>simp at e;subst e;exact⟨_,_,rfl,r,a⟩
 |_,_,_,i+1,u,_,_,.cons _ t,h,e=>by
  cases h with
  |cons _ b=>obtain⟨d,v,e1,r,rv⟩:=lG (i:=i) t b (by simpa using e);exact⟨d,v,by simpa using e1,r,rv⟩
theorem ents:∀{ds:List D}{es:List (Int×b8)},Paired (E6 X ρ H n) ds es->∃vs,Reps X.K ρ H ds vs/\aw vs (es.map (·.2))
 |_,_,.nil=>⟨[],.nil,.nil⟩
 |_,_,.cons ⟨⟨v,r,rv⟩,_⟩ t=>by obtain⟨vs,a,b⟩:=ents t;exact⟨v::vs,.cons r a,.cons rv b⟩
theorem zU{X:Cx}(p:us'.Perm us):∀{ds:List D}{vs:List V},Reps X.K ρ H ds vs->aw vs us->∃ds' vs',ds'.Perm ds/\Reps X.K ρ H ds' vs'/\aw vs' us':=by
 induction p with
 |nil=>intro ds vs r h;exact⟨ds,vs,.refl _,r,h⟩
 |cons x _ o =>
  intro ds vs r h;cases h with
  |cons a b =>
   cases r with
   |cons c d=>obtain⟨ds',vs',h1,h2,e⟩:=o d b;exact⟨_,_,h1.cons _,.cons c h2,.cons a e⟩
 |swap x y l =>
  intro ds vs r h;cases h with
  |cons a b =>
   cases b with
   |cons g j =>
    cases r with
    |cons c d =>
     cases d with
     |cons k m=>exact⟨_,_,.swap _ _ _,.cons k<|.cons c m,.cons g<|.cons a j⟩
 |trans _ _ i f=>intro ds vs r h;obtain⟨ds',vs',h1,h2,e⟩:=f r h;obtain⟨C,v,g1,n,g3⟩:=i h2 e;exact⟨C,v,g1.trans h1,n,g3⟩
def jE(te:x6):x6:=λS M Q=>te S M λd a=>∃n xs,n<=8/\SqAt a d xs/\xs.length<64/\(∀x∈xs,cL n x=a9/\eK x=a9)/\SrtOk a xs/\∀ys:List D,ys.Nodup->(∀x,x∈ys↔x∈xs)->Fb a ys->Q (.ref a.length) (a++[.lst ys])
section
set_option maxHeartbeats 1000000 in
theorem yC(hr:Room k X.A)(hc:X.calm=a9)(he:DE X e te)(W:X.mg "sorted" = a8)(Y:X.mg "set" = a8)(P:X.env.kindOf "sorted" = a7 .globalImplicit)(U:X.env.kindOf "set" = a7 .globalImplicit)(h1:h7 [e] X.env=[(b7,eval e X.env)]) (h2:h7 [Expr.Call (.Name "set" p') [e] [] pos'] X.env=[(b7,eval (Expr.Call (.Name "set" p') [e] [] pos') X.env)]):DE X (.Call (.Name "sorted" p) [.Call (.Name "set" p') [e] [] pos'] [] pos) (jE te):=by
 rintro pins s σ H R I ⟨S,M,ρ,Q,sm,sr,q,kk⟩;refine P9<|kE I P W (by rfl) ?_;refine callWith_builtin1 ?_ (by rw[h2];rfl) rfl;rw[h2];refine RC ?_;refine P9<|kE I U Y (by rfl) ?_;refine callWith_type1 ?_ (by rw[h1];rfl) rfl;rw[h1];refine RC<|w9 (he pins s σ H _ I ⟨S,M,ρ,_,sm,sr,q,λv H' z=>z⟩) ?_;rintro u s1 ⟨v,H1,B,rv,d,M1,bM,c,g1,r1,cases⟩;refine Calls.spliced_nil ?_;obtain⟨n,xs,n8,sq,hl,hk,so,G⟩:=cases;obtain⟨a,T,its,ws,rfl,src,w,vx⟩:=IY B c r1 rv sq;have li:its.size=xs.length:=by have h1:=vx.length;have h2:=w.length;simp at h1;lia
 have un:=hr.un;refine Ir c B n8 (by lia) (B.ok.hd hc) src (λi=>xs.getD i .non) (λi v e=>?_) (by lia) λh2 f ds k2 l V aS=>?_;obtain⟨d,vv,e1,r,rv⟩:=lG w vx (by rw[G5];exact e);have F:xs.getD i .non=d:=by rw[K6,e1];rfl
 have:=hk d<|E9 e1;exact⟨vv,by rw[F];exact r,rv,by rw[F];exact this.1,by rw[F];exact this.2⟩;refine Calls.spliced_nil ?_;have E:=B.kept (t':=f) k2;obtain⟨o,es,ep,t,K⟩:=l;have be:ds.length=es.size:=by have:=K.en.length;simpa using this
 have hz:es.size<=sizeLine:=by rw[MH];lia
 refine xN (s:={ s1 with heap:=h2,toks:=f }) (E.ok.hd hc) ⟨K.ob,K.dt,K.fits⟩ K.ex.1 (λz=>.inr K.tk.ris) K.ld hz λh3 bk dr D vs k3 J N pv=>?_;have h:∀x,x∈ds↔x∈xs:=λx=>by
  rw[V x,li];constructor;rintro⟨j,L,rfl⟩;have e:xs.getD j .non=xs[j]:=by simp[Op,L]
  rw[e];exact MV L;intro hx;obtain⟨j,L,e⟩:=List.getElem_of_mem hx;exact⟨j,L,by rw[show xs.getD j .non=xs[j] by simp[Op,L]];exact e⟩
 obtain⟨bs,al,as⟩:=ents K.en;obtain⟨ds',bl,C,an,aD⟩:=zU pv al as;obtain⟨m,Z,_⟩:=E.loc;have O:D≠X.env.locals:=λz=>by obtain⟨oL,_,_,hL,_⟩:=Z;rw[z]at J;rw[J]at hL;cases hL
 have ai:h3.Ns X.env.locals m:=Z.at' λo e=>k3 _ _ e;refine zF (X:=X) (pins:=pins) (σ:=σ) (s:={ s1 with heap:=h2,toks:=f,drawn:=dr }) (n:=0) hr (by show X.A.units+1<=X.A.units+4;lia) E.drew c (so.sub (ys:=ds') (λy hy=>(h y).mp<|C.mem_iff.mp hy)<|by rw[C.length_eq];lia).g an aD Z ai (λb u _ e=>k3 b u e) J O N λv H' x=>?_;refine kk v H' ?_;have:=x (λd M'=>Q d M') λys hp aj=>?_;obtain⟨d,M',ρ',a1,a2,a3,a4⟩:=this;exact⟨d,M',ρ',a1,g1.trans a2,a3,a4⟩;exact G ys ((hp.trans C).nodup_iff.mpr K.nd) (λx=>((hp.trans C).mem_iff).trans<|h x) aj
theorem yq(r:Room k X.A)(i:HE X e te)(W:X.mg "sorted" = a8)(Q:X.mg "set" = a8)(f:X.calm=a9:=by kernel_rfl)(P:X.env.kindOf "sorted" = a7 .globalImplicit:=by kernel_rfl)(U:X.env.kindOf "set" = a7 .globalImplicit:=by kernel_rfl)(h1:h7 [e] X.env=[(b7,eval e X.env)]:=by kernel_rfl) (h2:h7 [Expr.Call (.Name "set" p') [e] [] pos'] X.env=[(b7,eval (Expr.Call (.Name "set" p') [e] [] pos') X.env)]:=by kernel_rfl):HE X (.Call (.Name "sorted" p) [.Call (.Name "set" p') [e] [] pos'] [] pos) (jE te):=⟨yC r f i.ok W Q P U h1 h2⟩
end
def fT(h:d6):Nat->D->b8->Prop
 |_,.str x,v=>∃t,v=.str x t
 |_,.int i,v=>∃t,v=.int i t
 |n+1,.tup ds,v=>∃a its,v=.ref a/\h.IsTuple a its/\Paired (fT h n) ds its.toList
 |_,_,_=>False
noncomputable def Pk:Nat->D->Nat
 |n+1,.tup ds=>(ds.map<|Pk n).sum+1
 |_,_=>1
theorem jz:∀(n:Nat) (d:D) (v:b8),fT h n d v->cL n d=a9:=by
 intro n;induction n with
 |zero=>intro d v k;cases d<;>first|rfl|exact k.elim
 |succ n b =>
  intro d v k;cases d with
  |str x=>rfl
  |int x=>rfl
  |tup ds =>
   obtain⟨a,its,_,_,p⟩:=k;show ds.all (cL n)=a9;generalize its.toList=l at p;induction p with
   |nil=>rfl
   |cons r _ i=>rw[Mq,b _ _ r,i];rfl
  |_=>exact k.elim
theorem vH{h:d6}{a:c9}{xs ys:Array b8}(h1:h.IsTuple a xs)(h2:h.IsTuple a ys):xs=ys:=by obtain⟨o,t,_,n,d⟩:=h1;obtain⟨o',l,_,f,b⟩:=h2;obtain rfl:o=o':=C3<|t.symm.trans l;rw[d]at b;injection b
theorem nu{h:d6}:∀(n:Nat) (x y:D) (v:b8),fT h n x v->fT h n y v->x=y:=by
 intro n;induction n with
 |zero =>
  intro x y v C B;cases x with
  |str a =>
   obtain⟨t,rfl⟩:=C;cases y with
   |str b=>obtain⟨t',e⟩:=B;injection e with e;rw[e]
   |int b=>obtain⟨t',e⟩:=B;cases e
   |_=>exact B.elim
  |int a =>
   obtain⟨t,rfl⟩:=C;cases y with
   |str b=>obtain⟨t',e⟩:=B;cases e
   |int b=>obtain⟨t',e⟩:=B;injection e with e;rw[e]
   |_=>exact B.elim
  |_=>exact C.elim
 |succ n c =>
  intro x y v C B;cases x with
  |str a =>
   obtain⟨t,rfl⟩:=C;cases y with
   |str b=>obtain⟨t',e⟩:=B;injection e with e;rw[e]
   |int b=>obtain⟨t',e⟩:=B;cases e
   |tup b=>obtain⟨_,_,e,_⟩:=B;cases e
   |_=>exact B.elim
  |int a =>
   obtain⟨t,rfl⟩:=C;cases y with
   |str b=>obtain⟨t',e⟩:=B;cases e
   |int b=>obtain⟨t',e⟩:=B;injection e with e;rw[e]
   |tup b=>obtain⟨_,_,e,_⟩:=B;cases e
   |_=>exact B.elim
  |tup xs =>
   obtain⟨a,its,rfl,f,g⟩:=C;cases y with
   |str b=>obtain⟨t',e⟩:=B;cases e
   |int b=>obtain⟨t',e⟩:=B;cases e
   |tup ys =>
    obtain⟨_,i,e,E,j⟩:=B;cases e;obtain rfl:=vH f E;congr 1;generalize its.toList=l at g j;induction g generalizing ys with
    |nil=>cases j;rfl
    |cons r _ d=>cases j with
     |cons r' t'=>rw[c _ _ _ r r',d _ t']
   |_=>exact B.elim
  |_=>exact C.elim
theorem yp(k:∀a its,h.IsTuple a its->h'.IsTuple a its):∀(n:Nat) (d:D) (v:b8),fT h n d v->fT h' n d v:=by
 intro n;induction n with
 |zero=>intro d v q;cases d<;>first|exact q|exact q.elim
 |succ n i =>
  intro d v q;cases d with
  |str x=>exact q
  |int x=>exact q
  |tup ds=>obtain⟨a,its,e,t,p⟩:=q;exact⟨a,its,e,k _ _ t,Paired.mapP p λx y r=>i x y r⟩
  |_=>exact q.elim
theorem vF{es ep}(q:fT h n k v)(B:h.get? d=a7 o)(f:o.data=.dict es ep)(hs:G9 d h h'):fT h' n k v:=by
 refine yp (λa its ⟨o',e,c,m,t⟩=>?_) n k v q;have b:a≠d:=by rintro rfl;obtain rfl:o'=o:=C3<|e.symm.trans B;rw[f]at t;cases t
 exact⟨o',(hs.2 a b).trans e,c,m,t⟩
theorem pk:∀(n:Nat) (A:e8) (s:f6) (d:D) (u:b8) (E:b8->f6->Prop) (Q:Int->f6->Prop),A.units+n<j6->fT s.heap n d u ->Q (A9 w n d) { s with toks:=s.toks+Pk n d }->f9 (g7 prog w) A (pyHash u) Q E s:=by
 intro n;induction n with
 |zero =>
  intro A s d u E Q q k h;cases d with
  |str x=>obtain⟨t,rfl⟩:=k;exact PY h
  |int x=>obtain⟨t,rfl⟩:=k;exact PZ h
  |_=>exact k.elim
 |succ n r =>
  intro A s d u E Q q k h;cases d with
  |str x=>obtain⟨t,rfl⟩:=k;exact PY h
  |int x=>obtain⟨t,rfl⟩:=k;exact PZ h
  |tup ds =>
   obtain⟨a,its,rfl,⟨o,B,j,R,m⟩,p⟩:=k;have T:s.TypeIs (.ref a) "tuple":=⟨o,B,j⟩
   unfold pyHash
   first|unfold pyHashByItsType|skip
   first|refine t6 (wpAny_cRoomFor_or (.inr<|by lia) ?_)|skip
   refine t6<|NP T F.slot_tuple_hash.lookup ?_;refine(show f9 (g7 prog w) _ (if (a7 (Value.builtin "tuple.__hash__")==a7 ABN)=a9 then _ else _) Q E s from ?_);rw[p4<|by rw[beq_builtin_none];exact MA];refine t6<|NP T F.slot_tuple_hash.lookup ?_;refine(show f9 (g7 prog w) _ (callSpecialIfBoundUnlessNone? (.ref a) "__hash__" _ >>= _) Q E s from t6<|So T F.slot_tuple_hash<|F5 F.slot_tuple_hash T F.entry_tuple_hash ?_<|F.args_tuple_hash_1 _);refine(show f9 (g7 prog w) _ (Rc (.ref a) >>= _) _ _ s from t6<|wpAny_tupleItemsOf B m<|t6 ?_);rw[<-O5];refine Nf _ (λaM (b:Array Int) s'=>∃done left,ds=done++left/\Paired (fT s.heap n) left aM/\b.toList=done.map (A9 w n)/\s'={ s with toks:=s.toks+(done.map<|Pk n).sum }) _ ?_ ?_ _ _ ⟨[],ds,rfl,p,rfl,rfl⟩;rintro x aM b s' ⟨done,left,e,h1,f,rfl⟩;cases h1 with
   |@cons g _ c _ U J =>
    refine t6<|r _ _ g x _ _ (by show A.units+1+n<j6;lia) U ?_
    first
     |exact t8 ⟨done++[g],c,by rw[e];simp,J,by simp[f],by simp[Nat.add_assoc]⟩
     |exact t6 (t8 (t8 ⟨done++[g],c,by rw[e];simp,J,by simp[f],by simp[Nat.add_assoc]⟩))
   rintro b s' ⟨done,left,e,h1,f,rfl⟩;cases h1;rw[MJ]at e;subst e;refine(show f9 (g7 prog w) _ (retInt<|OH b.toList) _ _ _ from ?_);rw[f];refine wpAny_ret_mkInt ?_;have l:A9 w (n+1) (.tup ds)=n5 (OH<|ds.map<|A9 w n):=rfl;have h':Q (A9 w (n+1)<|.tup ds) { s with toks:=s.toks+(ds.map<|Pk n).sum+1 }:=h;generalize OH (ds.map<|A9 w n)=z at l;refine(show f9 (g7 prog w) _ (if (decide (-(2:Int) ^ 63<=z)&&decide (z<2 ^ 63))=a9 then _ else _) Q E _ from ?_);unfold n5 at l;by_cases i:(decide (-(2:Int) ^ 63<=z)&&decide (z<2 ^ 63))=a9;rw[o8 i]at l ⊢;exact t8 (by rw[<-l];exact h');rw[p4 i]at l ⊢;exact t6<|F9<|t8<|by rw[<-l];exact h'
  |_=>exact k.elim
theorem nq:∀(n k:Nat) (A:e8) (s:f6) (d:D) (u:b8) (E:b8->f6->Prop) (Q:Bool->f6->Prop),n<=k->fT s.heap n d u->Q a9 s->f9 (g7 prog w) A (o6 k u) Q E s:=by
 intro n;induction n with
 |zero =>
  intro k A s d u E Q c q h;cases d with
  |str x=>obtain⟨t,rfl⟩:=q;rw[Oa k (v:=.str x t) rfl];exact t8 h
  |int x=>obtain⟨t,rfl⟩:=q;rw[Oa k (v:=.int x t) rfl];exact t8 h
  |_=>exact q.elim
 |succ n e =>
  intro k A s d u E Q c q h;cases d with
  |str x=>obtain⟨t,rfl⟩:=q;rw[Oa k (v:=.str x t) rfl];exact t8 h
  |int x=>obtain⟨t,rfl⟩:=q;rw[Oa k (v:=.int x t) rfl];exact t8 h
  |tup ds =>
   obtain⟨a,its,rfl,⟨o,B,f,R,b⟩,p⟩:=q;obtain⟨k,rfl⟩:∃I,k=I+1:=⟨k-1,by lia⟩
   have T:s.TypeIs (.ref a) "tuple":=⟨o,B,f⟩
   unfold o6;refine t6<|NP T F.slot_tuple_eq.lookup ?_;refine(show f9 (g7 prog w) A (isInstance (.ref a) (.type "tuple") >>= _) _ _ s from t6<|NQ T isSubtype_tuple_tuple ?_);simp only[MI,A7,r9];refine t6<|Mt B b ?_;simp only[PR];refine t6 ?_;refine(show f9 (g7 prog w) A (forIn its _ _) _ _ s from ?_);rw[<-O5];refine Nf _ (λaM r s'=>r.1=a8/\s'=s/\∃left,Paired (fT s.heap n) left aM) _ ?_ ?_ _ _ ⟨rfl,rfl,ds,p⟩;rintro x aM r s' ⟨i,rfl,left,h1⟩;cases h1 with
   |cons U J=>refine t6<|e k _ _ _ x _ _ (by lia) U ?_;simp only[MI,A7,r9];exact t8 ⟨rfl,rfl,_,J⟩
   rintro⟨r1,r2⟩ s' ⟨i,rfl,_⟩;simp only at i;subst i;exact t8 h
  |_=>exact q.elim
theorem kF{h:d6}{n:Nat}{ds:List D}{its:Array b8}(p:Paired (fT h n) ds its.toList):ds.length=its.size:=by
 rw[<-E2];generalize its.toList=l at p;induction p with
 |nil=>rfl
 |cons _ _ i=>rw[C0,C0,i]
theorem DR:∀(n:Nat) (A:e8) (s:f6) (x y:D) (u v:b8),A.units+n<j6->fT s.heap n x u->fT s.heap n y v->MG A s u v (u6 [] n x y):=by
 intro n;induction n with
 |zero =>
  intro A s x y u v E C B;cases x with
  |str a =>
   obtain⟨t,rfl⟩:=C;cases y with
   |str b=>obtain⟨t',rfl⟩:=B;exact QU _ _ _ _
   |int b=>obtain⟨t',rfl⟩:=B;exact Qb _ _ _ _
   |_=>exact B.elim
  |int a =>
   obtain⟨t,rfl⟩:=C;cases y with
   |str b=>obtain⟨t',rfl⟩:=B;exact Qc _ _ _ _
   |int b=>obtain⟨t',rfl⟩:=B;exact QV _ _ _ _
   |_=>exact B.elim
  |_=>exact C.elim
 |succ n G =>
  intro A s x y u v E C B;have c:A.units<j6:=by lia
  have h:A.in1.units+n<j6:=by show A.units+1+n<j6;lia
  cases x with
  |str a =>
   obtain⟨t,rfl⟩:=C;cases y with
   |str b=>obtain⟨t',rfl⟩:=B;exact QU _ _ _ _
   |int b=>obtain⟨t',rfl⟩:=B;exact Qb _ _ _ _
   |tup b=>obtain⟨_,_,rfl,p,_⟩:=B;exact SeqAt.EqAt.str_tuple _ _ p c
   |_=>exact B.elim
  |int a =>
   obtain⟨t,rfl⟩:=C;cases y with
   |str b=>obtain⟨t',rfl⟩:=B;exact Qc _ _ _ _
   |int b=>obtain⟨t',rfl⟩:=B;exact QV _ _ _ _
   |tup b=>obtain⟨_,_,rfl,p,_⟩:=B;exact SeqAt.EqAt.int_tuple _ _ p c
   |_=>exact B.elim
  |tup xs =>
   obtain⟨a,its,rfl,p,m⟩:=id C;cases y with
   |str b=>obtain⟨t',rfl⟩:=B;exact SeqAt.EqAt.tuple_str _ _ p c
   |int b=>obtain⟨t',rfl⟩:=B;exact SeqAt.EqAt.tuple_int _ _ p c
   |tup ys =>
    obtain⟨b,d,rfl,F,o⟩:=id B;by_cases S:a=b;subst S;have e:=nu (n+1) _ _ _ C B;rw[e,(iP (M:=[]) (n+1) _ _ (jz _ _ _ B)<|jz _ _ _ B).mpr rfl];exact QD _;have Q:=kF m;have l:=kF o;have f:∀(j:Nat) (h1:j<its.size) (h2:j<d.size),MG A.in1 s its[j] d[j] (u6 [] n (xs.getD j .non)<|ys.getD j .non):=λj h1 h2=>by
     obtain⟨q,w,H⟩:=cy m (i:=j) (y:=its[j]) (by rw[G5];exact G6 h1);obtain⟨r,z,I⟩:=cy o (i:=j) (y:=d[j]) (by rw[G5];exact G6 h2);have J:xs.getD j .non=q:=by rw[K6,w];rfl
     have K:ys.getD j .non=r:=by rw[K6,z];rfl
     rw[J,K];exact G A.in1 s q r _ _ h H I
    have k:((D0<|min its.size d.size).all (λj=>u6 [] n (xs.getD j .non)<|ys.getD j .non)&&its.size==d.size)=D5 (u6 [] n) xs ys:=by
     by_cases g:xs.length=ys.length;have W:(D0 xs.length).all (λj=>u6 [] n (xs.getD j .non)<|ys.getD j .non)=D5 (u6 [] n) xs ys:=nB g λj x y h1 h2=>by simp[Op,h1,h2]
     rw[<-Q,<-l,<-g,Nat.min_self,W];simp;rw[Bg g,<-Q,<-l];simp[g]
    have h1:=SeqAt.RcAt.tuples p F c f;rw[k]at h1;exact SeqAt.EqAt.of_refs S h1
   |_=>exact B.elim
  |_=>exact C.elim
noncomputable instance decD:DecidableEq D:=λa b=>K1<|a=b
noncomputable def aX(prog:c8)(w:c7):HeapKind prog w D where
 is:=λh d a=>fT h 8 d<|.ref a
 hash:=A9 w 8
 draws:=Pk 8
 room:=λA=>A.units+8<j6
 inj:=λx y=>nu 8 _ _ _ x y
 keeps:=λx B c hs=>vF x B c hs
 pyHash:=λg k h=>pk 8 _ _ _ _ _ _ g k h
 eqBool:=λ{A E s x y a b Q} g k1 k2 h=>by
  refine DR 8 A s x y _ _ g k1 k2 _ _ _ _ ?_;have e:u6 [] 8 x y=decide (x=y):=by rw[PQ,iP 8 x y (jz _ _ _ k1)<|jz _ _ _ k2,p8]
  rw[e];exact h
 quiet:=λk h=>nq 8 8 _ _ _ _ _ _ (v6 _) k h
noncomputable def aB(kvs:List (D×D))(k:D):Option D:=(kvs.find? λp=>decide<|p.1=k).map (·.2)
noncomputable def fV(kvs:List (D×D))(k d:D):List (D×D):=if (aB kvs k).isSome then kvs.map (λp=>if p.1=k then(p.1,d)else p)else kvs++[(k,d)]
section
variable{K:v4}{ρ:List c9}{H:Hp}{M:u8}{kvs:List (D×D)}{xs:List (D×c9×b8)}
theorem nj(r:Paired (rh K ρ H) kvs xs)(k:D):(aB kvs k=a8/\m9 xs k=a8)\/∃d p v,aB kvs k=a7 d/\m9 xs k=a7 p/\u5 K ρ H d v/\aL v p.2:=by
 unfold aB m9;induction r with
 |nil=>exact .inl ⟨rfl,rfl⟩
 |@cons p q ps qs h t i=>obtain⟨h1,_,_,v,a,b⟩:=h;rw[Mj,Mj];by_cases e:p.1=k;rw[dT_ e,dT_<|h1.symm.trans e];exact .inr ⟨_,_,v,rfl,rfl,a,b⟩;rw[dF_ e,dF_<|λz=>e<|h1.trans z];exact i
theorem Fs(r:Paired (rh K ρ H) kvs xs)(n:cL 8 k=a9)(o:u5 K ρ H k (.ref b))(f:u5 K ρ H d v)(g:aL v u):Paired (rh K ρ H) (fV kvs k d) (storedH xs k b u):=by
 unfold fV storedH;have s:(aB kvs k).isSome=(m9 xs k).isSome:=by rcases nj r k with⟨a,l⟩|⟨_,_,_,a,l,_⟩<;>rw[a,l]<;>rfl
 rw[s];by_cases q:(m9 xs k).isSome=a9;rw[o8 q,o8 q];clear s q;induction r with
 |nil=>exact .nil
 |@cons p q ps qs h t i=>rw[C2,C2];refine .cons ?_ i;obtain⟨h1,h2,c,w,j,m⟩:=h;by_cases e:p.1=k;rw[o8 e,putAt,o8<|h1.symm.trans e];exact⟨h1,h2,c,v,f,g⟩;rw[p4 e,putAt,p4<|λz=>e<|h1.trans z];exact⟨h1,h2,c,w,j,m⟩
 rw[p4 q,p4 q];clear s q;induction r with
 |nil=>exact .cons ⟨rfl,n,o,v,f,g⟩ .nil
 |cons h t i=>exact .cons h i
theorem dB(r:Paired (rh K ρ H) kvs xs):xs.map (·.1)=kvs.map (·.1):=by
 induction r with
 |nil=>rfl
 |cons h t i=>rw[C2,C2,i,h.1]
theorem gM:(fV kvs k d).length<=kvs.length+1:=by unfold fV;split;rw[v7];lia;rw[A3];exact v6 _
theorem B8.writtenX{a p:c9}{xs:List V}{φ:c8->c7->d6->Prop}{o:HO}(hp:H p=a7 (.ext φ))(h:B8 K H a xs):B8 K (x3 H p o) a xs:=by
 rcases h with h|h;rcases h with h|⟨b,h⟩
 exact .inl (.inl<|by rw[ax<|yc h hp<|by intro z;cases z];exact h);exact .inl<|.inr ⟨b,by rw[ax<|yc h hp<|by intro z;cases z];exact h⟩;exact .inr h
theorem w4.writeT(S:w4 K ρ M H)(t:ρ[n]?=a7 a)(s:M[n]?=a7 (.dkt kvs))(p:H a=a7 (.ext<|dX a xs))(u:kvs'.length<=sizeLine)(hs:(a==d7)=b7)(X:(kvs'.map (·.1)).Nodup)(r:Paired (rh K ρ H) kvs' xs'):w4 K ρ (M.set n<|.dkt kvs') (x3 H a<|.ext<|dX a xs')/\Grow K ρ H ρ (x3 H a<|.ext<|dX a xs'):=by
 have g:Grow K ρ H ρ (x3 H a<|.ext<|dX a xs'):=⟨Nd,λ_ _ h=>B8.writtenX p h⟩
 have k:∀m,m≠n->(M.set n<|.dkt kvs')[m]?=M[m]?:=λm d=>MB<|z9 d;have c:¬L9 M[n]?:=λ⟨_,z⟩=>by rw[s]at z;cases z
 refine⟨⟨λm j b e f N=>?_,by rw[NE];exact S.len,λm b o f N=>?_⟩,g⟩;have q:=S.nd m j b e f N;by_cases h1:m=n;subst h1;rw[k j<|z9 e];exact .inr<|q.resolve_left c;rw[k m h1];by_cases h2:j=n;subst h2;exact .inl<|q.resolve_right c;rw[k j h2];exact q;by_cases d:m=n;subst d;have i:b=a:=C3<|f.symm.trans t;subst i;rw[MX<|by rw[<-S.len];exact(A6.mp t).1]at N;cases N;refine⟨u,hs,X,xs',aP,Paired.mapP r ?_⟩;rintro _ _ ⟨w,x,y,v,A,B⟩;exact⟨w,x,y.grow g,v,A.grow g,B⟩;rw[k m d]at N;by_cases i:b=a;subst i;have l:=(S.nd m n b d f t).resolve_right c;rw[N]at l;exact(S.obj m b o f N).grow g<|.inr l;exact(S.obj m b o f N).grow g<|.inl<|ax i
end
theorem cO(I:t9 X pins σ H s):∀(n:Nat) (d:D) (v:V) (u:b8),u5 X.K ρ H d v->aL v u->cL n d=a9->fT s.heap n d u:=by
 intro n;induction n with
 |zero =>
  intro d v u r b k;cases r with
  |str x=>exact b
  |int x=>exact b
  |_=>cases k
 |succ n e =>
  intro d v u r b k;cases r with
  |str x=>exact b
  |int x=>exact b
  |@tup a vs ds q f =>
   cases b;obtain⟨its,m,p,z⟩:=I.tuple q;have h:∀x∈ds,cL n x=a9:=E8.mp<|show ds.all (cL n)=a9 from k;refine⟨a,its.toArray,rfl,p,?_⟩;rw[List.toList_toArray];clear p q k z;induction m generalizing ds with
   |nil=>cases f;exact .nil
   |cons g j i =>
    cases f with
    |cons h1 t=>exact .cons (e _ _ _ h1 g<|h _ D3)<|i t λx c=>h x<|C4 _ c
  |_=>cases k
theorem jD{X:Cx}{pins:List (c9×d5)}{σ:St}{H:Hp}{s:f6}{ρ:List c9}{M:u8}(I:t9 X pins σ H s)(m:w4 X.K ρ M H){n:Nat}{a:c9}{kvs:List (D×D)}(e:ρ[n]?=a7 a)(c:M[n]?=a7 (.dkt kvs)):∃xs,H a=a7 (.ext<|dX a xs)/\Paired (rh X.K ρ H) kvs xs/\s.heap.DictOfH (aX X.prog X.w) a xs/\(a==d7)=b7/\kvs.length<=sizeLine/\xs.length=kvs.length/\(kvs.map (·.1)).Nodup:=by
 obtain⟨h1,h2,h,xs,b,r⟩:=m.obj _ _ _ e c;obtain⟨⟨o,es,t,l,Q,J⟩,_⟩:=(show bJ X.prog X.w H s.heap a (.ext<|dX a xs)from I.hok a _ b)
 have Z:=dB r;refine⟨xs,b,r,⟨o,es,_,t,l,Q,J,λx d=>?_,by rw[Z];exact h⟩,h2,h1,?_,h⟩;obtain⟨i,hi⟩:=MP d;obtain⟨p,_,q,j,k,_⟩:=cy r hi;rw[<-q];exact cO I 8 _ _ _ k rfl j;have:=t4 L1 Z
 rwa [v7,v7]at this
theorem qH(d:dX a xs P w h'):bJ P w H' h' a (.ext<|dX a xs):=by obtain⟨o,es,t,l,Q,J⟩:=d;refine⟨⟨o,es,t,l,Q,J⟩,⟨o,t⟩,?_⟩;rintro h1 h2 ⟨o,es,t,l,Q,J⟩ k;exact⟨o,es,k _ t,l,Q,J⟩
theorem FD(I:t9 X pins σ H s)(h:H a=a7 (.ext<|dX a xs)):dX a xs X.prog X.w s.heap:=(show bJ X.prog X.w H s.heap a (.ext<|dX a xs)from I.hok a _ h).1
theorem setE(x:(aX prog w).room A.in1)(t:(aX prog w).is s.heap k b)(u:s.heap.DictOfH (aX prog w) d xs) (y:dX d xs prog w s.heap) (hz:xs.length<=sizeLine)(m:∀h',dX d (storedH xs k b v) prog w h'->G9 d s.heap h'->Q () { s with heap:=h',toks:=s.toks+(aX prog w).draws k }):f9 (g7 prog w) A (setItem (.ref d) (.ref b) v) Q E s:=by
 have n:=u.typeIs;obtain⟨_,_,_,_,_,_,_,g,f⟩:=u;obtain⟨o,es,B,r,h,c⟩:=y;have i:es.toList=xs.map (d8<|aX prog w):=c;unfold setItem
 try with_reducible refine E3 ?_
 refine t6<|wpAny_sequenceKey n (by decide)<|t6<|Mo (name:=u4 "__setitem__") n slot_dict_setitem<|F5 slot_dict_setitem n entry_dict_setitem ?_<|args_dict_setitem _ _ _;refine(show f9 (g7 prog w) _ (Builtin.Dict.notOrdered "__setitem__" ⟨[.ref d,.ref b,v],[]⟩ >>= _) _ _ s from t6<|NV n ?_);refine(show f9 (g7 prog w) _ (dictSet d (.ref b) v >>= _) _ _ s from t6 ?_);unfold dictSet
 try with_reducible refine E3 ?_
 refine t6<|(aX prog w).pyHash x t ?_;unfold dictSetHashed
 try with_reducible refine E3 ?_
 have C:es.size=xs.length:=size_of_entries i;refine t6<|wpAny_dictFind_heap (s:={ s with toks:=s.toks+(aX prog w).draws k }) x t B h i g f (λa=>?_) λj p L=>?_;refine t6<|F9<|QX (hz:=by lia) (s:={ s with toks:=s.toks+(aX prog w).draws k }) B h<|t8 ⟨.none,rfl,t8<|m _ ⟨_,es.push ⟨(aX prog w).hash k,.ref b,v⟩,L4 _ B<|O7<|Oc h _,r.mapDictKeys _,?_,?_⟩<|L3 ..⟩;rw[Oc h,storedH_new<|QL a,A3];rfl;rw[storedH_new<|QL a];rw[QN,i,G1];rfl;refine t6<|F9<|t6<|wpAny_updateDict (s:={ s with toks:=s.toks+(aX prog w).draws k }) B h<|wpAny_point<|t8 ⟨.none,rfl,t8<|m _ ⟨_,es.modify j λe=>{ e with val:=v },L4 _ B<|O7<|QH h _,r.mapDict _,?_,?_⟩<|L3 ..⟩;rw[QH h,storedH_old<|OT f L,v7];rw[storedH_old<|OT f L];have q:=modify_map_putAt (d8<|aX prog w) (λe:m8=>{ e with val:=v }) k v (λ_ _=>rfl) f L;rw[<-i]at q;obtain⟨l⟩:=es;have z:(Array.modify ⟨l⟩ j λe:m8=>{ e with val:=v }).toList=(xs.map<|putAt k v).map (d8<|aX prog w):=by simpa using q
 exact z
section
variable{X:Cx}{o i value:ge}{td ty tv:x6}{pos pos':Pos}{k:Nat}
def ui:x6:=λ_ M Q=>Q (.ref M.length)<|M++[.dkt []]
theorem LH:DE X (.Dict [] [] pos) ui:=by rintro p s σ H R I ⟨S,M,ρ,Q,m,e,q,D⟩;have f:H s.heap.objs.size=a8:=I.hok.fresh<|v6 _;have d:(s.heap.objs.size==d7)=b7:=beq_eq_false_iff_ne.mpr<|z9<|A4 I.big;refine wpAny_Dict_empty ⟨.ref s.heap.objs.size,_,I.laid (a:=s.heap.objs.size) (o:=.ext<|dX s.heap.objs.size []) (t':=s.toks) (λ_ _ q=>x5 _ q) (v6 _)<|qH ⟨_,#[],A8 _ rfl,⟨rfl,rfl,rfl⟩,rfl,rfl⟩,rfl,?_⟩;exact D _ _ ⟨.ref M.length,M++[.dkt []],ρ++[s.heap.objs.size],m.laidM (mo:=.dkt []) f ⟨B5 _,d,Ov,[],aP,.nil⟩,Grow.laidR f,.ref m.last,(show Q (.ref M.length) (M++[.dkt []])from q)⟩
def eP(t b:x6):x6:=λS M Q=>t S M λx a=>b S a λy M2=>match x,y with
 |.ref n,.tup ks=>∃kvs d,M2[n]?=a7 (.dkt kvs)/\cL 8 (.tup ks)=a9/\aB kvs (.tup ks)=a7 d/\Q d M2
 |_,_=>False
theorem LI(T:Room k X.A)(P:DE X o td)(hi:DE X i ty)(hs:FI i):DE X (.Subscript o i pos) (eP td ty):=by
 rintro c s σ H R I ⟨S,M,ρ,Q,sm,F,q,W⟩;have un:=T.un;refine uS RX.lookup hs<|w9 (P c s σ H _ I ⟨S,M,ρ,_,sm,F,q,λv H' z=>z⟩) ?_;rintro u s1 ⟨v,G,K,rv,x,L,l,h,g1,r1,Y⟩;refine w9 (hi c s1 σ G _ K ⟨S,L,l,_,h,F.grow g1,Y,λv H' z=>z⟩) ?_;rintro iv s2 ⟨w,J,f,g,y,M2,m,e,C,r2,j⟩;cases x with
 |ref n =>
  cases y with
  |tup E =>
   obtain⟨kvs,d,N,V,D,Z⟩:=j;obtain⟨a,rfl,O⟩:=u5.inv_ref r1;obtain rfl:u=AB6 a:=rv;obtain⟨xs,hH,r,B,U,hl,hx,_⟩:=jD f e (ao C.pre O) N;have t:=cO f 8 _ _ _ r2 g V;rcases nj r (.tup E)with⟨z,_⟩|⟨d',p,v',e1,e2,e3,e4⟩
   rw[D]at z;cases z;rw[D]at e1;cases e1;obtain⟨b,_,rfl,_⟩:=id t;refine⟨B.typeIs,wpAny_getItem_heap (knd:=aX X.prog X.w) (k:=.tup E) (by show X.A.units+1+8<j6;lia) t B e2 ⟨v',J,f.tok _,e4,W _ _ ⟨d,M2,m,e,g1.trans C,e3,Z⟩⟩⟩
  |_=>exact j.elim
 |_=>exact j.elim
def nD(d c t:x6):u3:=λE S M=>t S M λv a=>d S a λx M2=>c S M2 λy b=>match x,y with
 |.ref n,.tup ks=>∃kvs,b[n]?=a7 (.dkt kvs)/\cL 8 (.tup ks)=a9/\kvs.length<sizeLine/\E.nx S (b.set n<|.dkt<|fV kvs (.tup ks) v)
 |_,_=>False
theorem mD(h:(kvs.map (·.1)).Nodup):((fV kvs y v).map (·.1)).Nodup:=by
 unfold fV;split;rw[D9];have:((λx:D×D=>x.1) ∘ λp:D×D=>if p.1=y then(p.1,v)else p)=λx=>x.1:=by funext p;show (if p.1=y then(p.1,v)else p).1=p.1;split<;>rfl
 rw[this];exact h;rename_i q;rw[G1,List.map_singleton,P3];refine⟨h,by simp,λa f b d=>?_⟩;rw[I9.mp d];rintro rfl;obtain⟨p,hp,e⟩:=z5.mp f;refine q ?_;unfold aB;rw[QK,List.find?_isSome];exact⟨p,hp,by simpa using e⟩
theorem HU(hr:Room k X.A)(ho:DE X o td)(hi:DE X i ty)(hv:DE X value tv)(hs:i5 value (a7<|.Subscript o i pos') pos.line X.env=pure b7):DS X (.Assign [.Subscript o i pos'] value pos) (nD td ty tv):=by
 rintro p s σ H E I ⟨S,M,ρ,F,sm,j,q,kk⟩;have un:=hr.un;refine wpAny_Assign_Subscript (w9 (hv p s σ H _ I ⟨S,M,ρ,_,sm,j,q,λv H' z=>z⟩) λr s1 ⟨v,T,W,rv,dv,Z,G,C,g1,r1,q1⟩=>w9 (ho p s1 σ T _ W ⟨S,Z,G,_,C,j.grow g1,q1,λv H' z=>z⟩) λu s2 ⟨vx,V,Y,rx,x,M2,J,D,g,r2,q2⟩=>w9 (hi p s2 σ V _ Y ⟨S,M2,J,_,D,(j.grow g1).grow g,q2,λv H' z=>z⟩) ?_) hs;rintro iv s3 ⟨vy,H3,f,Q,y,M3,L,e,g3,P,B⟩;cases x with
 |ref n =>
  cases y with
  |tup O =>
   obtain⟨kvs,K,N,hl,q4⟩:=B;obtain⟨a,rfl,hn⟩:=u5.inv_ref r2;obtain rfl:u=AB6 a:=rx;have h:=ao g3.pre hn;obtain⟨xs,l,r,dd,U,_,hx,nd⟩:=jD f e h K;have t:=cO f 8 _ _ _ P Q N;obtain⟨b,_,rfl,_⟩:=id t;obtain⟨_,_,rfl,m,rr⟩:=u5.inv_tup P;cases Q;have r':=Fs r N (.tup m rr) ((r1.grow g).grow g3) rv;have pl:=gM (kvs:=kvs) (k:=.tup O) (d:=dv);obtain⟨w1,R⟩:=e.writeT h K l (by have:=pl;lia) U (mD nd) r';refine setE (k:=.tup O) (by show X.A.units+1+8<j6;lia) t dd (FD f l) (by lia) λh' c w=>?_;have he:∃q,h'.get? a=a7 q:=let ⟨q,_,m,_⟩:=c;⟨q,m⟩
   exact⟨σ,_,qP f (by rw[l];exact Nx) w he<|qH c,kk.nx σ _<|SQ.trans ((g1.trans g).trans g3) ⟨S,_,L,w1,R,(((j.grow g1).grow g).grow g3).grow R,q4⟩⟩
  |_=>exact B.elim
 |_=>exact B.elim
def Pl(r:Nat->C6)(e:x6)(t:Fn):x6:=λS M Q=>e S M λx a=>match x with
 |.ref n=>(∃kvs,a[n]?=a7 (.dkt kvs))/\t S a λds M2=>r n ds M2 Q
 |_=>False
variable{name:b9}{id:String}{e:ge}{es:List ge}{to:x6}{t:Fn}{apos cpos:Pos}
theorem d_mt{r:Nat->C6}(slot:Slot "dict" name id)(y:l8 (.builtin id)=pure (.type "method_descriptor"))(T:J1 X id (ig X.K r))(U:DE X o to)(P:DA X (e::es) t)(c:m3 o name X.env (eval o X.env)=eval o X.env:=by rfl)(f:((g9 cpos<|h7 (e::es) X.env).all (λx=>!x.1)&&(m5 cpos<|m6 [] X.env).all (λx=>x.1.isSome) && decide ((e::es).length+([]:List m7).length+(if ([]:List m7).isEmpty then 0 else 1)<30))=a9:=by rfl)(d:(apos.endLine==cpos.line)=a9:=by rfl) (hs:h7 (e::es) X.env=(b7,eval e X.env)::h7 es X.env:=by rfl) (h:(g9 cpos<|h7 es X.env).any (·.1)=b7:=by rfl):DE X (.Call (.Attribute o name apos) (e::es) [] cpos) (Pl r to t):=by
 rintro p s σ H R I ⟨S,M,ρ,Q,sm,G,q,W⟩;refine Qi c f d rfl<|w9 (U p s σ H _ I ⟨S,M,ρ,_,sm,G,q,λv H' z=>z⟩) ?_;rintro u s1 ⟨v,J,B,rv,x,i,m,j,g1,r1,g⟩;cases r1 with
 |@ref n a F =>
  cases rv;obtain⟨⟨kvs,O⟩,g⟩:=(show (∃kvs,i[n]?=a7 (.dkt kvs))/\t S i _ from g)
  obtain⟨xs,hH,r,C,V,hl,hx,nd⟩:=jD B j F O;refine⟨"dict",id,Pc,slot,y,C.typeIs,λb z=>?_,?_⟩;cases z;obtain⟨Y,_,_,h1,h2,_⟩:=C;exact⟨Y,h1,h2.2.1⟩;have E:=P cpos p s1 σ J _ B ⟨S,i,m,_,j,G.grow g1,g,λvs H' z=>z⟩;rw[hs]at E ⊢;refine Od (by show (b7||(g9 cpos<|h7 es X.env).any (·.1))=b7;rw[h]<;>rfl)<|Qf ?_;refine w9 E ?_;rintro us s2 ⟨vs,L,N,k,ds,M2,A,l,D,rr,Z⟩;exact T p s2 σ L (.ref a) vs (.ref a) us R N rfl k ⟨n,a,ds,M2,A,Q,rfl,ao D.pre F,l,rr,Z,λv H' w=>W v H'<|VQ.trans (g1.trans D) w⟩
 |_=>exact g.elim
def oV(n:Nat):C6:=λds M Q=>match ds with
 | [.tup ks,d]=>∃kvs,M[n]?=a7 (.dkt kvs)/\cL 8 (.tup ks)=a9/\Q ((aB kvs<|.tup ks).getD d) M
 |_=>False
theorem Dm(u:Room k X.A):J1 X "dict.get" (ig X.K oV):=by
 rintro g s σ H x xs v us R I F E ⟨n,a,ds,M,ρ,Q,i,o,m,f,q,D⟩;have S:=u.un;unfold oV at q;split at q;rename_i e d;obtain⟨kvs,j,y,q⟩:=q
 first|have z:=Reps.inv_cons f|have z:=aw.inv_cons f
 clear f;obtain⟨_,_,rfl,B,f⟩:=z
 first|have z:=Reps.inv_cons f|have z:=aw.inv_cons f
 clear f;obtain⟨_,_,rfl,C,f⟩:=z;cases f;obtain⟨P,G,rfl,h,l⟩:=aw.two E;subst i;cases F;obtain⟨ys,J,r,c,U,L,N,O⟩:=jD I m o j;have t:=cO I 8 _ _ _ B h y;obtain⟨b,_,rfl,_⟩:=id t;refine N3 O9 c.typeIs RL (RP _ _ _) (meetsH_dict_get_default (aX X.prog X.w) a b U G) ⟨by show X.A.units+1+8<j6;lia,.tup e,ys,t,c,?_⟩;rcases nj r (.tup e)with⟨z1,z2⟩|⟨d',p,v',z1,z2,z3,z4⟩
 rw[z2];rw[z1]at q;exact⟨_,H,I.tok _,l,D _ _ ⟨d,M,ρ,m,.refl,C,q⟩⟩;rw[z2];rw[z1]at q;exact⟨_,H,I.tok _,z4,D _ _ ⟨d',M,ρ,m,.refl,z3,q⟩⟩;exact q.elim
end
def cK(h:d6)(d:c9)(es:Array m8)(ep:Nat):Prop:=∃o,h.get? d=a7 o/\o.ExactDict/\o.data=.dict es ep
theorem cK.ty{s:f6}{d:c9}{es:Array m8}{ep:Nat}(x:cK s.heap d es ep):s.TypeIs (.ref d) "dict":=by obtain⟨o,h1,h2,_⟩:=x;exact⟨o,h1,h2.1⟩
theorem cK.lt(x:cK h d es ep):d<h.objs.size:=by obtain⟨o,h1,_⟩:=x;exact z6 h1
theorem cK.to(x:cK h d es ep)(k:∀o,h.get? d=a7 o->h'.get? d=a7 o):cK h' d es ep:=by obtain⟨o,h1,h2⟩:=x;exact⟨o,k o h1,h2⟩
theorem xj{Q:b8->f6->Prop}(h:(d==d7)=b7)(m:cK s.heap d es ep)(b:Q (.ref s.heap.objs.size) { s with heap:=s.heap.push { cls:=.type "dict_keyiterator",data:=.fields #[.ref d,.int 0 0,.int es.size 0,.int ep 0] } }):f9 (g7 prog w) A (j0<|.ref d) Q E s:=by have n:=m.ty;obtain⟨o,h1,h2,a⟩:=m;refine P5 n F.slot_dict_iter<|F5 F.slot_dict_iter n F.entry_dict_iter ?_<|F.args_dict_iter_1 _;unfold Builtin.«dict.__iter__»;refine t6 ?_;unfold Builtin.Dict.dictSlotNone;refine t6<|NV n<|t8 ?_;refine(show f9 (g7 prog w) _ (O8 d >>= _) _ _ s from ?_);unfold O8;rw[h];refine t6<|t8<|t6<|MN h1 a<|t6<|My h1 a ?_;exact t6<|G4<|t8 ⟨_,rfl,"dict_keyiterator",_,⟨_,A8 _ rfl,rfl⟩,F.slot_dict_keyiterator_next.lookup,by simpa [j1]using b⟩
theorem xi(h:s.heap.IsKeyIter it d i es.size ep)(m:cK s.heap d es ep)(hi:i<es.size)(c:∀h',h'.IsKeyIter it d (i+1) es.size ep->G9 it s.heap h'->Q (a7 es[i].key) { s with heap:=h' }):f9 (g7 prog w) A (i8<|.ref it) Q E s:=by
 obtain⟨o,B,f,a⟩:=id h;obtain⟨j,C,e,k⟩:=id m;unfold i8;refine t6<|Nb<|Mo (name:=u4 "__next__") h.typeIs F.slot_dict_keyiterator_next<|F5 F.slot_dict_keyiterator_next h.typeIs F.entry_dict_keyiterator_next ?_<|F.args_dict_keyiterator_next_1 _;refine t6<|t8<|t6<|t6 ?_
 first|refine t6 (Rh h.typeIs<|t8<|t6<|Ms B a ?_)|refine t6<|Q7 h.typeIs<|t8<|t6<|Ms B a ?_
 simp only[show Oh "dict_keyiterator" = b7 by decide,A7,r9];refine(show f9 (g7 prog w) _ (if (AB6 d==ABN)=a9 then _ else _) _ _ s from ?_);rw[p4<|by exact MA];refine t6<|t8<|t6<|MN C k ?_;rw[p4<|by simp];refine t6<|t8<|t6<|My C k ?_;rw[p4<|by simp];refine t8 ?_;simp only[show ¬((i:Int)<0)from by lia,r9,J4,G6 hi];refine t6 ?_
 first|refine t6 (Rh h.typeIs<|t8 ?_)|refine t6<|Q7 h.typeIs<|t8 ?_
 refine t6<|wpAny_isOneOf_keyiter h.typeIs ?_;refine(show f9 (g7 prog w) _ (setField (.ref it) 1 (j1<|(i:Int)+1) >>= _) _ _ s from t6<|MU B a (by simp) ?_);have b:(s.heap.update it (Ou (·.setIfInBounds 1 (j1<|(i:Int)+1)))).IsKeyIter it d (i+1) es.size ep:=by refine⟨_,L4 _ B<|RH<|O6 a _,(Obj.cls_mapFields ..).trans f,?_⟩;rw[O6 a];simp[j1]
 refine t6 (E3 (t6 (wpAny_isOneOf_keyiter (s:={ s with heap:=s.heap.update it (Ou (·.setIfInBounds 1 (j1<|(i:Int)+1))) }) b.typeIs ?_)));refine(show f9 (g7 prog w) _ (pure es[i].key) _ _ _ from ?_);exact t8<|t8 ⟨_,rfl,t8<|c _ b<|L3 ..⟩
theorem Bp(f:A.handled=a8)(h:s.heap.IsKeyIter it d es.size es.size ep)(g:cK s.heap d es ep)(e:∀h',Pz it s.heap h'->Q a8 { s with heap:=h' }):f9 (g7 prog w) A (i8<|.ref it) Q E s:=by
 obtain⟨o,B,i,c⟩:=id h;obtain⟨l,C,j,k⟩:=id g;unfold i8;refine t6<|Nb<|Mo (name:=u4 "__next__") h.typeIs F.slot_dict_keyiterator_next<|F5 F.slot_dict_keyiterator_next h.typeIs F.entry_dict_keyiterator_next ?_<|F.args_dict_keyiterator_next_1 _;refine t6<|t8<|t6<|t6 ?_
 first|refine t6 (Rh h.typeIs<|t8<|t6<|Ms B c ?_)|refine t6<|Q7 h.typeIs<|t8<|t6<|Ms B c ?_
 simp only[show Oh "dict_keyiterator" = b7 by decide,A7,r9];refine(show f9 (g7 prog w) _ (if (AB6 d==ABN)=a9 then _ else _) _ _ s from ?_);rw[p4<|by exact MA];refine t6<|t8<|t6<|MN C k ?_;rw[p4<|by simp];refine t6<|t8<|t6<|My C k ?_;rw[p4<|by simp];refine t8 ?_;simp only[show ¬((es.size:Int)<0)from by lia,r9,J4,OF<|v6 es.size];refine t6 ?_
 first|refine t6 (Rh h.typeIs<|t8 ?_)|refine t6<|Q7 h.typeIs<|t8 ?_
 refine(show f9 (g7 prog w) _ (setField (.ref it) 0 .none >>= _) _ _ s from t6<|MU B c (by simp) ?_);refine(show f9 (g7 prog w) _ (newExc (.type "StopIteration") [] >>= _) _ _ _ from t6 ?_);simp only[newExc,newTuple];refine t6 (G4 ?_<|by size_fits);refine t6 (m:=n9 _ _)<|OR (a:=ABN) (by first|rfl|(simp only[n9];rfl)) ?_;refine G4 ?_ (by size_fits);simp only[raiseNew];refine t6<|PF ?_;rw[show A.in1.handled=a8 from f];refine t6<|t8<|wpAny_throw ?_;refine t6<|NQ (b:=a9) (T:="StopIteration") ⟨_,A8 _ rfl,rfl⟩ OZ ?_;exact t8<|e _<|((L3 ..).extBut.push _).push _
theorem Bi(l:A.handled=a8)(I:c9)(j:d≠I):Walks prog w A I [I,d] [I] es.size (λi v=>∃e,es[i]?=a7 e/\v=e.key) (λi h=>h.IsKeyIter I d i es.size ep/\cK h d es ep) where
 sub:=λb a=>by simp at a;simp[a]
 frame:=λ_ _ _ t k=>⟨t.1.at λo e=>k I (by simp) o e,t.2.to λo e=>k d (by simp) o e⟩
 item:=λi s Q E hi t c=>xi t.1 t.2 hi λh' f u=>c _ h' s.toks ⟨es[i],by simp[hi],rfl⟩ ⟨f,t.2.to λo e=>u.extBut d o j e⟩ λb o a e=>u.extBut b o (λh=>a<|by simp[h]) e
 done:=λs Q E t c=>Bp l t.1 t.2 λh' g=>c h' s.toks λb o a e=>g b o (λh=>a<|by simp[h]) e
 self:=λ_ _ _ _ t c=>wpAny_pyIter_keyiter t.1 c
theorem HN(lo:(d==d7)=b7):KdlSrc prog w "dict" d d es.size (λi v=>∃e,es[i]?=a7 e/\v=e.key) (λh=>cK h d es ep) where
 type:=λ_ m=>m.ty
 there:=λ_ m=>⟨m.lt,m.lt⟩
 keep:=λ_ _ m k=>m.to λo e=>k d (.inl rfl) o e
 notList:=by decide
 notTuple:=by decide
 hint:=λ_ _ _ _ m q=>kdl_hint_dict m.ty q
 iter:=λ_ _ a m=>⟨_,_,(λ_ _ q=>xj lo m q),Bi a _<|A4 m.lt,⟨⟨_,A8 _ rfl,rfl,rfl⟩,m.to λo e=>x5 _ e⟩⟩
noncomputable def Ite(a:c9)(n:Nat):It:=⟨λi H=>∃xs,H a=a7 (.ext<|dX a xs)/\xs.length=n/\i<n,λi H v H'=>H'=H/\∀xs,H a=a7 (.ext<|dX a xs)->∃x,xs[i]?=a7 x/\v=.ref x.2.1,λi H=>(∃xs,H a=a7 (.ext<|dX a xs)/\xs.length=n)/\i=n⟩
theorem jB(I:t9 X pins σ H s)(b:H a=a7 (.ext<|dX a xs)):∃es,cK s.heap a es xs.length/\es.size=xs.length/\∀(i:Nat) x,xs[i]?=a7 x->∃e,es[i]?=a7 e/\e.key=.ref x.2.1/\e.val=x.2.2:=by
 obtain⟨o,es,h1,h2,h,d⟩:=FD I b;refine⟨es,⟨o,h1,h2,h⟩,?_,λi x c=>?_⟩;have:=t4 L1 d
 rwa [E2,v7]at this
 refine⟨⟨A9 X.w 8 x.1,.ref x.2.1,x.2.2⟩,?_,rfl,rfl⟩;rw[<-G5,d,C7,c];rfl
theorem qK(x:cK h a es ep)(y:cK h a es' ep'):es=es'/\ep=ep':=by obtain⟨o,h1,_,d⟩:=x;obtain⟨o',c,_,b⟩:=y;obtain rfl:o=o':=C3<|h1.symm.trans c;rw[d]at b;injection b with e1 e2;exact⟨e1,e2⟩
theorem Cz{P:c8}{w:c7}{K:v4}{tg:ge}(a it:c9)(n:Nat):Turn P w K tg (Ite a n) [it] it (λi h=>h.IsKeyIter it a i n n) where
 mem:=by simp
 obj:=λi h t b f=>by
  obtain rfl:b=it:=by simpa using f
  obtain⟨o,e,c,d⟩:=t;exact⟨o,e,λv z=>by rw[d]at z;cases z⟩
 keep:=λi h h' t k=>t.at λo e=>k it (by simp) o e
 item:=by
  intro X L M J U i p s σ H E I m t R;subst L M J;obtain⟨xs,G,rfl,hi⟩:=R;obtain⟨es,F,l,T⟩:=jB I G;obtain⟨e,N,O,e3⟩:=T i xs[i]<|x9 hi;obtain⟨u,x,f2,B,C,D⟩:=m it (by simp);have g:i<es.size:=by lia
  have S:es[i]=e:=by rw[G6 g]at N;exact C3 N
  rw[<-l]at F t;refine xi t F g λh' j sb=>?_;rw[S,O];have Y:t9 X p σ H { s with heap:=h' }:=I.turned (t':=s.toks) (λb o f e=>(sb.2 b f).trans e) u x B C D;obtain⟨o,q1,q2,q3⟩:=id j;refine⟨_,rfl,vI (s:={ s with heap:=h' }) q1 q2 q3 (by decide) ⟨.ref xs[i].2.1,H,Y,rfl,⟨rfl,λys hy=>?_⟩,by rw[l]at j;exact j,λb f=>(m b f).1⟩⟩;obtain⟨ai,r,Z,q⟩:=jB I hy;obtain⟨rfl,ep⟩:=qK F r;have V:i<ys.length:=by lia
  obtain⟨e',W,y,_⟩:=q i ys[i]<|x9 V;rw[G6 g,S]at W;obtain rfl:=C3 W;rw[O]at y;injection y with y;exact⟨ys[i],x9 V,by rw[y]⟩
 done:=by intro X L M J U i p s σ H E I m t R;subst L M J;obtain⟨⟨xs,G,rfl⟩,rfl⟩:=R;obtain⟨es,F,l,T⟩:=jB I G;obtain⟨u,x,f2,B,C,D⟩:=m it (by simp);rw[<-l]at F t;exact Bp (I.ok.hd U) t F λh' he=>⟨rfl,I.turned (t':=s.toks) (λb o f e=>he b o f e) u x B C D⟩
 self:=λA i s Q E t hQ=>wpAny_pyIter_keyiter t hQ
def xm(t:x6):Mw:=λS M R=>t S M λd a=>match d with
 |.ref n=>∃kvs,a[n]?=a7 (.dkt kvs)/\(kvs.length<=sizeLine->R ⟨kvs.map (·.1),λM=>M[n]?=a7 (.dkt kvs)⟩ a)
 |_=>False
theorem EB{l:ge}{K:x6}(V:DE X l K):DI X tg l (xm K):=by
 intro m s σ H R I h;obtain⟨S,M,ρ,Q,sm,sr,q,k⟩:=h;refine w9 (V m s σ H _ I ⟨S,M,ρ,_,sm,sr,q,λv H' w=>w⟩) ?_;rintro u C ⟨v,G,c,rv,d,D,F,A,g1,r1,J⟩;cases r1 with
 |@ref n a B =>
  cases rv;obtain⟨kvs,P,Z⟩:=(show ∃kvs,D[n]?=a7 (.dkt kvs)/\(kvs.length<=sizeLine->Q ⟨kvs.map (·.1),λM=>M[n]?=a7 (.dkt kvs)⟩ D)from J)
  obtain⟨xs,O,r,dd,U,W,hx,nd⟩:=jD c A B P;obtain⟨es,N,L,_⟩:=jB c O;refine xj U N ?_;rw[L];refine⟨C.heap.objs.size,[C.heap.objs.size],_,_,G,rfl,c.kept (t':=C.toks) λb o e=>x5 _ e,Cz a _ xs.length,⟨_,A8 _ rfl,rfl,rfl⟩,λb T=>?_,k _ G ⟨⟨kvs.map (·.1),λM=>M[n]?=a7 (.dkt kvs)⟩,D,F,A,g1,?_,Z W⟩⟩;obtain rfl:b=C.heap.objs.size:=by simpa using T
  exact c.fpOk (v6 _)<|c.hok.fresh<|v6 _;refine⟨λi ρ' M' H' s' g ok hi=>?_,λi ρ' M' H' x H2 s' g ok hi y=>?_,λρ' M' H' s' g ok=>?_⟩;obtain⟨_,_,_,ys,j,t⟩:=s'.obj _ _ _ (ao g.pre B) ok;have Y:ys.length=kvs.length:=by have:=t4 L1<|dB t;rwa [v7,v7]at this
  exact⟨ys,j,by lia,by rw[v7]at hi;lia⟩;obtain⟨rfl,f⟩:=y;obtain⟨_,_,_,ys,j,t⟩:=s'.obj _ _ _ (ao g.pre B) ok;obtain⟨z,E,rfl⟩:=f ys j;obtain⟨p,hp,_,_,rp,_⟩:=cy t E;exact⟨p.1,ρ',by rw[C7,hp];rfl,s',.refl,rp⟩;obtain⟨_,_,_,ys,j,t⟩:=s'.obj _ _ _ (ao g.pre B) ok;have Y:ys.length=kvs.length:=by have:=t4 L1<|dB t;rwa [v7,v7]at this
  exact⟨⟨ys,j,by lia⟩,by rw[v7];lia⟩
 |_=>exact J.elim
theorem xS{K:v4}{ρ:List c9}{H:Hp}{kvs:List (D×D)}{xs:List (D×c9×b8)}(r:Paired (rh K ρ H) kvs xs):Reps K ρ H (kvs.map (·.1)) (xs.map λx=>V.ref x.2.1):=by
 induction r with
 |nil=>exact .nil
 |cons h t i=>exact .cons h.2.2.1 i
theorem rG:∀(xs:List (D×c9×b8)) (vs:List b8),vs.length=xs.length->(∀(j:Nat) (v:b8) x,vs[j]?=a7 v->xs[j]?=a7 x->v=.ref x.2.1)->aw (xs.map λx=>V.ref x.2.1) vs
 | [],[],_,_=>.nil
 | [],_::_,e,_=>by simp at e
 |_::_,[],e,_=>by simp at e
 |x::xs,v::vs,e,h=>.cons (h 0 v x rfl rfl)<|rG xs vs (by simpa using e) λj u y h1 h2=>h (j+1) u y (by simpa using h1)<|by simpa using h2
def jq:C6:=λds M Q=>match ds with
 | [.ref n]=>∃kvs,M[n]?=a7 (.dkt kvs)/\SrtOk M (kvs.map (·.1))/\∀ys,ys.Perm (kvs.map (·.1))->Fb M ys->Q (.ref M.length) (M++[.lst ys])
 |_=>False
theorem yF{k:Nat}(hr:Room k X.A)(Y:X.calm=a9):iW X (.builtin "sorted") jq:=by
 rintro E s σ H vs us R I rv ⟨ds,M,ρ,Q,G,l,q,kk⟩;unfold jq at q;split at q;obtain⟨kvs,S,J,q⟩:=q
 first|have f:=Reps.inv_cons l|have f:=aw.inv_cons l
 clear l;obtain⟨_,_,rfl,r1,l⟩:=f;cases l;obtain⟨u,rfl,K⟩:=aw.one rv;obtain⟨a,rfl,e⟩:=u5.inv_ref r1;cases K;obtain⟨xs,B,r,dd,z2,hz,hx,nd⟩:=jD I G e S;obtain⟨es,F,el,O⟩:=jB I B;obtain⟨m,C,hm⟩:=I.loc;have d:a≠X.env.locals:=ae B I.free;obtain⟨oa,c,_⟩:=id F;have i:∀b o,(b,o)∈[]++(a,oa)::Att.ledger s.heap X.env.locals a↔b≠X.env.locals/\s.heap.get? b=a7 o:=λb o=>by rw[H9,A1,Att.mem_ledger];constructor;rintro(h|⟨h1,_,h3⟩);cases h;exact⟨d,c⟩;exact⟨h1,h3⟩;rintro⟨h1,h2⟩;by_cases z:b=a;subst z;rw[c]at h2;cases h2;exact .inl rfl;exact .inr ⟨h1,z,h2⟩
 have sl:=J.len;rw[v7]at sl;refine kdu_sorted (HN (es:=es) (ep:=xs.length) z2) (I.ok.hd Y) (Att.fr_all C) (Att.news_ledger d c) F (by rw[MH];lia) λD h' tk vs T N lt hl U=>?_;have kp:∀b u,b≠X.env.locals->s.heap.get? b=a7 u->h'.get? b=a7 u:=λb u W e=>(N (b,u)<|C4 _<|(i b u).mpr ⟨W,e⟩).1;have L:D≠X.env.locals:=(N _ D3).2.1;have P:s.heap.get? D=a8:=by
  cases q:s.heap.get? D with
  |none=>rfl
  |some o=>exact p7 (lt (D,o)<|(i D o).mpr ⟨L,q⟩)<|G0 _
 have t:aw (xs.map λx=>V.ref x.2.1) vs:=by refine rG xs vs (by lia) λj v x Z p=>?_;obtain⟨e0,g1,rfl⟩:=U j v Z;obtain⟨e2,y,g3,_⟩:=O j x p;rw[g1]at y;obtain rfl:=C3 y;exact g3
 have w:=xS r;exact zF (n:=0) hr (by show X.A.units+1<=X.A.units+4;lia) I G J.g w t C T.ns kp P L (N _ D3).1 λv H' x=>kk v H'<|x Q q;exact q.elim
theorem yA(a:(d==d7)=b7)(m:cK s.heap d es ep)(b:Q (.ref s.heap.objs.size) { s with heap:=s.heap.push { cls:=.type "dict_values",data:=.fields #[.ref d] } }):f9 (g7 prog w) A (call (.builtin "dict.values") [.ref d]) Q E s:=by refine N3 PySem.F.slot_dict_values m.ty PySem.F.entry_dict_values (PySem.F.args_dict_values_1 _) (S:=λ_ R s'=>s'=s/\R (.ok<|.ret<|.ref s.heap.objs.size) { s with heap:=s.heap.push { cls:=.type "dict_values",data:=.fields #[.ref d] } }) (.of_wp ?_) ⟨rfl,b⟩;rintro A R s' ⟨rfl,h⟩;refine t6 ?_;unfold Builtin.Dict.noArgs;refine t6<|NV m.ty<|t8 ?_;refine(show f9 (g7 prog w) _ (O8 d >>= _) _ _ s' from ?_);unfold O8;rw[a];exact t6<|t8<|t6<|G4<|t8 ⟨_,rfl,h⟩
theorem Bk(c:s.heap.IsValuesView v d)(m:cK s.heap d es ep)(b:Q (.ref s.heap.objs.size) { s with heap:=s.heap.push { cls:=.type "dict_valueiterator",data:=.fields #[.ref d,.int 0 0,.int es.size 0,.int ep 0] } }):f9 (g7 prog w) A (j0<|.ref v) Q E s:=by obtain⟨g,e,P,f⟩:=id c;obtain⟨o,h1,h2,a⟩:=m;refine P5 c.typeIs F.slot_dict_values_iter<|F5 F.slot_dict_values_iter c.typeIs F.entry_dict_values_iter ?_<|F.args_dict_values_iter_1 _;unfold Builtin.«dict_values.__iter__»;refine t6<|t8<|t6 ?_;unfold R9;refine t6<|J2 e f (x:=.ref d) rfl<|t8<|t6 ?_;unfold Sg;refine t6<|MN h1 a<|t6<|My h1 a ?_;simp only[show Oh "dict_valueiterator" = b7 by decide,A7,r9];exact G4<|t8 ⟨_,rfl,"dict_valueiterator",_,⟨_,A8 _ rfl,rfl⟩,F.slot_dict_valueiterator_next.lookup,by simpa [j1]using b⟩
theorem Bj(h:s.heap.IsValIter it d i es.size ep)(m:cK s.heap d es ep)(hi:i<es.size)(c:∀h',h'.IsValIter it d (i+1) es.size ep->G9 it s.heap h'->Q (a7 es[i].val) { s with heap:=h' }):f9 (g7 prog w) A (i8<|.ref it) Q E s:=by
 obtain⟨o,B,f,a⟩:=id h;obtain⟨j,C,e,k⟩:=id m;unfold i8;refine t6<|Nb<|Mo (name:=u4 "__next__") h.typeIs F.slot_dict_valueiterator_next<|F5 F.slot_dict_valueiterator_next h.typeIs F.entry_dict_valueiterator_next ?_<|F.args_dict_valueiterator_next_1 _;refine t6<|t8<|t6<|t6 ?_
 first|refine t6 (Rg h.typeIs<|t8<|t6<|Ms B a ?_)|refine t6<|Q6 h.typeIs<|t8<|t6<|Ms B a ?_
 simp only[show Oh "dict_valueiterator" = b7 by decide,A7,r9];refine(show f9 (g7 prog w) _ (if (AB6 d==ABN)=a9 then _ else _) _ _ s from ?_);rw[p4<|by exact MA];refine t6<|t8<|t6<|MN C k ?_;rw[p4<|by simp];refine t6<|t8<|t6<|My C k ?_;rw[p4<|by simp];refine t8 ?_;simp only[show ¬((i:Int)<0)from by lia,r9,J4,G6 hi];refine t6 ?_
 first|refine t6 (Rg h.typeIs<|t8 ?_)|refine t6<|Q6 h.typeIs<|t8 ?_
 refine t6<|RG h.typeIs ?_;refine(show f9 (g7 prog w) _ (setField (.ref it) 1 (j1<|(i:Int)+1) >>= _) _ _ s from t6<|MU B a (by simp) ?_);have b:(s.heap.update it (Ou (·.setIfInBounds 1 (j1<|(i:Int)+1)))).IsValIter it d (i+1) es.size ep:=by refine⟨_,L4 _ B<|RH<|O6 a _,(Obj.cls_mapFields ..).trans f,?_⟩;rw[O6 a];simp[j1]
 refine t6 (E3 (t6 (RG (s:={ s with heap:=s.heap.update it (Ou (·.setIfInBounds 1 (j1<|(i:Int)+1))) }) b.typeIs (t6 (RG (s:={ s with heap:=s.heap.update it (Ou (·.setIfInBounds 1 (j1<|(i:Int)+1))) }) b.typeIs ?_)))));refine(show f9 (g7 prog w) _ (pure es[i].val) _ _ _ from ?_);exact t8<|t8 ⟨_,rfl,t8<|c _ b<|L3 ..⟩
theorem Es(f:A.handled=a8)(h:s.heap.IsValIter it d es.size es.size ep)(g:cK s.heap d es ep)(e:∀h',Pz it s.heap h'->Q a8 { s with heap:=h' }):f9 (g7 prog w) A (i8<|.ref it) Q E s:=by
 obtain⟨o,B,i,c⟩:=id h;obtain⟨l,C,j,k⟩:=id g;unfold i8;refine t6<|Nb<|Mo (name:=u4 "__next__") h.typeIs F.slot_dict_valueiterator_next<|F5 F.slot_dict_valueiterator_next h.typeIs F.entry_dict_valueiterator_next ?_<|F.args_dict_valueiterator_next_1 _;refine t6<|t8<|t6<|t6 ?_
 first|refine t6 (Rg h.typeIs<|t8<|t6<|Ms B c ?_)|refine t6<|Q6 h.typeIs<|t8<|t6<|Ms B c ?_
 simp only[show Oh "dict_valueiterator" = b7 by decide,A7,r9];refine(show f9 (g7 prog w) _ (if (AB6 d==ABN)=a9 then _ else _) _ _ s from ?_);rw[p4<|by exact MA];refine t6<|t8<|t6<|MN C k ?_;rw[p4<|by simp];refine t6<|t8<|t6<|My C k ?_;rw[p4<|by simp];refine t8 ?_;simp only[show ¬((es.size:Int)<0)from by lia,r9,J4,OF<|v6 es.size];refine t6 ?_
 first|refine t6 (Rg h.typeIs<|t8 ?_)|refine t6<|Q6 h.typeIs<|t8 ?_
 refine(show f9 (g7 prog w) _ (setField (.ref it) 0 .none >>= _) _ _ s from t6<|MU B c (by simp) ?_);refine(show f9 (g7 prog w) _ (newExc (.type "StopIteration") [] >>= _) _ _ _ from t6 ?_);simp only[newExc,newTuple];refine t6 (G4 ?_<|by size_fits);refine t6 (m:=n9 _ _)<|OR (a:=ABN) (by first|rfl|(simp only[n9];rfl)) ?_;refine G4 ?_ (by size_fits);simp only[raiseNew];refine t6<|PF ?_;rw[show A.in1.handled=a8 from f];refine t6<|t8<|wpAny_throw ?_;refine t6<|NQ (b:=a9) (T:="StopIteration") ⟨_,A8 _ rfl,rfl⟩ OZ ?_;exact t8<|e _<|((L3 ..).extBut.push _).push _
noncomputable def Itv(a:c9)(n:Nat):It:=⟨λi H=>∃xs x v,H a=a7 (.ext<|dX a xs)/\xs.length=n/\xs[i]?=a7 x/\aL v x.2.2,λi H v H'=>H'=H/\∀xs,H a=a7 (.ext<|dX a xs)->∃x,xs[i]?=a7 x/\aL v x.2.2,λi H=>(∃xs,H a=a7 (.ext<|dX a xs)/\xs.length=n)/\i=n⟩
theorem yP{P:c8}{w:c7}{K:v4}{tg:ge}(a it:c9)(n:Nat):Turn P w K tg (Itv a n) [it] it (λi h=>h.IsValIter it a i n n) where
 mem:=by simp
 obj:=λi h t b f=>by
  obtain rfl:b=it:=by simpa using f
  obtain⟨o,e,c,d⟩:=t;exact⟨o,e,λv z=>by rw[d]at z;cases z⟩
 keep:=λi h h' t k=>t.at λo e=>k it (by simp) o e
 item:=by
  intro X M N L U i p s σ H E I m t R;subst M N L;obtain⟨xs,x,v,J,rfl,hx,W⟩:=R;obtain⟨es,F,l,T⟩:=jB I J;obtain⟨e,q,e2,O⟩:=T i x hx;obtain⟨y,B,f2,C,D,G⟩:=m it (by simp);have g:i<es.size:=(Ni.mp q).1;have S:es[i]=e:=by rw[G6 g]at q;exact C3 q
  rw[<-l]at F t;refine Bj t F g λh' j sb=>?_;rw[S,O];have I1:t9 X p σ H { s with heap:=h' }:=I.turned (t':=s.toks) (λb o f e=>(sb.2 b f).trans e) y B C D G;obtain⟨o,q1,q2,q3⟩:=id j;refine⟨_,rfl,vI (s:={ s with heap:=h' }) q1 q2 q3 (by decide) ⟨v,H,I1,W,⟨rfl,λys hy=>?_⟩,by rw[l]at j;exact j,λb f=>(m b f).1⟩⟩;obtain⟨aj,u,ai,r⟩:=jB I hy;obtain⟨rfl,ep⟩:=qK F u;have V:i<ys.length:=by lia
  obtain⟨e',Y,_,Z⟩:=r i ys[i]<|x9 V;rw[G6 g,S]at Y;obtain rfl:=C3 Y;rw[O]at Z;exact⟨ys[i],x9 V,by rw[<-Z];exact W⟩
 done:=by intro X M N L U i p s σ H E I m t R;subst M N L;obtain⟨⟨xs,J,rfl⟩,rfl⟩:=R;obtain⟨es,F,l,T⟩:=jB I J;obtain⟨y,B,f2,C,D,G⟩:=m it (by simp);rw[<-l]at F t;exact Es (I.ok.hd U) t F λh' he=>⟨rfl,I.turned (t':=s.toks) (λb o f e=>he b o f e) y B C D G⟩
 self:=λA i s Q E t hQ=>wpAny_pyIter_valiter t hQ
def uf(e:x6):Mw:=λS M R=>e S M λd a=>match d with
 |.ref n=>∃kvs,a[n]?=a7 (.dkt kvs)/\(kvs.length<=sizeLine->R ⟨kvs.map (·.2),λM=>M[n]?=a7 (.dkt kvs)⟩ a)
 |_=>False
theorem EA(ho:DE X o to)(j:m3 o "values" X.env (eval o X.env)=eval o X.env:=by rfl)(l:(apos.endLine==cpos.line)=a9:=by rfl):DI X tg (.Call (.Attribute o "values" apos) [] [] cpos) (uf to):=by
 intro c s σ H R I h;obtain⟨S,M,ρ,Q,sm,sr,q,k⟩:=h;refine RQ j l<|w9 (ho c s σ H _ I ⟨S,M,ρ,_,sm,sr,q,λv H' w=>w⟩) ?_;rintro u D ⟨v,G,K,C,d,L,T,E,g1,r1,Z⟩;cases r1 with
 |@ref n a J =>
  cases C;obtain⟨kvs,hM,q2⟩:=(show ∃kvs,L[n]?=a7 (.dkt kvs)/\(kvs.length<=sizeLine->Q ⟨kvs.map (·.2),λM=>M[n]?=a7 (.dkt kvs)⟩ L)from Z)
  obtain⟨xs,hH,r,V,U,hz,hx,nd⟩:=jD K E J hM;obtain⟨es,W,el,_⟩:=jB K hH;refine⟨"dict","dict.values",Pc,PySem.F.slot_dict_values,PySem.F.type_dict_values,V.typeIs,λb z=>?_,Od rfl<|RD<|yA U W ?_⟩;cases z;obtain⟨ob,_,_,h1,h2,_⟩:=V;exact⟨ob,h1,h2.2.1⟩;have t:t9 X c σ G { D with heap:=D.heap.push { cls:=.type "dict_values",data:=.fields #[.ref a] } }:=K.kept (t':=D.toks) λb o e=>x5 _ e;have N:cK ({ D with heap:=D.heap.push { cls:=.type "dict_values",data:=.fields #[.ref a] } }:f6).heap a es xs.length:=W.to λo e=>x5 _ e;refine Bk (d:=a) ⟨_,A8 _ rfl,rfl,rfl⟩ N ?_;rw[el];have O:∀f:f6,t9 X c σ G f->Ps X c σ tg R (.ref f.heap.objs.size) { f with heap:=f.heap.push { cls:=.type "dict_valueiterator",data:=.fields #[.ref a,.int 0 0,.int xs.length 0,.int xs.length 0] } }:=λf t=>by
   refine⟨f.heap.objs.size,[f.heap.objs.size],_,_,G,rfl,t.kept (t':=f.toks) λb o e=>x5 _ e,yP a _ xs.length,⟨_,A8 _ rfl,rfl,rfl⟩,λb hb=>?_,k _ G ⟨⟨kvs.map (·.2),λM=>M[n]?=a7 (.dkt kvs)⟩,L,T,E,g1,?_,q2 hz⟩⟩;obtain rfl:b=f.heap.objs.size:=by simpa using hb
   exact t.fpOk (v6 _)<|t.hok.fresh<|v6 _;refine⟨λi ρ' M' H' s' g ok hi=>?_,λi ρ' M' H' x H2 s' g ok hi y=>?_,λρ' M' H' s' g ok=>?_⟩;obtain⟨_,_,_,ys,B,m⟩:=s'.obj _ _ _ (ao g.pre J) ok;have ly:ys.length=kvs.length:=by have:=t4 L1<|dB m;rwa [v7,v7]at this
   rw[v7]at hi;have Y:i<ys.length:=by lia
   obtain⟨p,_,_,_,_,v,_,C⟩:=cy m<|x9 Y;exact⟨ys,ys[i],v,B,by lia,x9 Y,C⟩;obtain⟨rfl,A⟩:=y;obtain⟨_,_,_,ys,B,m⟩:=s'.obj _ _ _ (ao g.pre J) ok;obtain⟨z,P,rz⟩:=A ys B;obtain⟨p,hp,_,_,_,v,rp,C⟩:=cy m P;obtain rfl:x=v:=rz.inj C;exact⟨p.2,ρ',by rw[C7,hp];rfl,s',.refl,rp⟩;obtain⟨_,_,_,ys,B,m⟩:=s'.obj _ _ _ (ao g.pre J) ok;have ly:ys.length=kvs.length:=by have:=t4 L1<|dB m;rwa [v7,v7]at this
   exact⟨⟨ys,B,by lia⟩,by rw[v7];lia⟩
  exact O _ t
 |_=>exact Z.elim
def zN:G8:=λx y M Q=>match x,y with
 |.tup ks,.ref n=>∃kvs,M[n]?=a7 (.dkt kvs)/\cL 8 (.tup ks)=a9/\Q (.bl (aB kvs<|.tup ks).isSome) M
 |_,_=>False
theorem JW(i:Room k X.A):J0 X (j4 .In) zN:=by
 rintro p s σ H G J v u R I o z ⟨x,y,M,ρ,Q,m,j,l,q,D⟩;have F:=i.un;cases x with
 |tup c =>
  cases y with
  |ref n =>
   obtain⟨kvs,h,g,q⟩:=q;obtain⟨a,rfl,f⟩:=u5.inv_ref l;cases z;obtain⟨xs,B,r,d,U,C,E,_⟩:=jD I m f h;have t:=cO I 8 _ _ _ j o g;obtain⟨b,_,rfl,_⟩:=id t;refine wpAny_in_heap (knd:=aX X.prog X.w) (k:=.tup c) (by show X.A.units+1+8<j6;lia) t U d ?_;have e:(m9 xs<|.tup c).isSome=(aB kvs<|.tup c).isSome:=by rcases nj r (.tup c)with⟨z1,z2⟩|⟨_,_,_,z1,z2,_⟩<;>rw[z1,z2]<;>rfl
   rw[e];exact gx (I.tok _) m D q
  |_=>exact q.elim
 |_=>exact q.elim
def pC:u3:=λ_ _ _=>False
theorem Eu{st:i3}:DS X st pC:=λp s σ H E I ⟨S,M,ρ,F,m,e,q,D⟩=>q.elim
theorem Ky:HE X (.Dict [] [] pos) ui:=⟨LH⟩
theorem Kz(r:Room k X.A)(B:HE X o to)(hi:HE X i ti)(hs:FI i:=by intro _ _;kernel_rfl):HE X (.Subscript o i pos) (eP to ti):=⟨LI r B.ok hi.ok hs⟩
theorem AD(r:Room k X.A)(B:HE X o to)(hi:HE X i ti)(c:HE X e te)(hs:i5 e (a7<|.Subscript o i pos') pos.line X.env=pure b7:=by kernel_rfl):HS X (.Assign [.Subscript o i pos'] e pos) (nD to ti te):=⟨HU r B.ok hi.ok c.ok hs⟩
theorem Hi(i:Room k X.A)(B:HE X o to)(f:HA X (e::es) t)(h:m3 o "get" X.env (eval o X.env)=eval o X.env:=by kernel_rfl)(w:((g9 cpos<|h7 (e::es) X.env).all (λx=>!x.1)&&(m5 cpos<|m6 [] X.env).all (λx=>x.1.isSome) && decide ((e::es).length+([]:List m7).length+(if ([]:List m7).isEmpty then 0 else 1)<30))=a9:=by kernel_rfl)(a:(apos.endLine==cpos.line)=a9:=by kernel_rfl) (hs:h7 (e::es) X.env=(b7,eval e X.env)::h7 es X.env:=by kernel_rfl) (n:(g9 cpos<|h7 es X.env).any (·.1)=b7:=by kernel_rfl):HE X (.Call (.Attribute o "get" apos) (e::es) [] cpos) (Pl oV to t):=⟨d_mt O9 RF (Dm i) B.ok f.ok h w a hs n⟩
theorem DO(h:HE X e te):HI X tg e (xm te):=⟨EB h.ok⟩
theorem DN(B:HE X o to)(e:m3 o "values" X.env (eval o X.env)=eval o X.env:=by kernel_rfl)(a:(apos.endLine==cpos.line)=a9:=by kernel_rfl):HI X tg (.Call (.Attribute o "values" apos) [] [] cpos) (uf to):=⟨EA B.ok e a⟩
theorem yt(i:Room k X.A)(f:X.calm=a9:=by kernel_rfl):HC X (.builtin "sorted") jq:=⟨yF i f⟩
theorem KQ(i:Room k X.A):J5 X (j4 .In) zN:=⟨JW i⟩
theorem wZ{X:Cx}{st:i3}:HS X st pC:=⟨Eu⟩
theorem LY:e7 "max" = a7 (.builtin "max"):=by decide +kernel
end L2
namespace L2
open PySem PySem.Spec PyProof.Rows DL PySem.W PySem.Calls PyProof.V
def cU(h:d6)(it d:c9)(i n ep:Nat)(x a ok b:b8):Prop:=h.get? it=a7 { cls:=.type "dict_itemiterator",dict:=a8,data:=.fields #[x,a,.ref d,.int i 0,.int n 0,.int ep 0,ok,b],slots:=#[] }
def xu(h:d6)(it d S:c9)(i n ep:Nat):Prop:=∃x b ok v,cU h it d i n ep x b ok v/\((x=.none/\b=.bool b7)\/∃(a:c9) (f:Bool) (o:d5),x=j1 a/\b=.bool f/\h.get? a=a7 o/\a≠it/\a≠S)
theorem Bm(a:(d==d7)=b7)(m:cK s.heap d es ep)(b:Q (.ref s.heap.objs.size) { s with heap:=s.heap.push { cls:=.type "dict_items",data:=.fields #[.ref d] } }):f9 (g7 prog w) A (call (.builtin "dict.items") [.ref d]) Q E s:=by refine N3 PySem.F.slot_dict_items m.ty PySem.F.entry_dict_items (PySem.F.args_dict_items_1 _) (S:=λ_ R s'=>s'=s/\R (.ok<|.ret<|.ref s.heap.objs.size) { s with heap:=s.heap.push { cls:=.type "dict_items",data:=.fields #[.ref d] } }) (.of_wp ?_) ⟨rfl,b⟩;rintro A R s' ⟨rfl,h⟩;unfold Builtin.«dict.items»;refine t6 ?_;unfold Builtin.Dict.noArgs;refine t6<|NV m.ty<|t8 ?_;refine(show f9 (g7 prog w) _ (O8 d >>= _) _ _ s' from ?_);unfold O8;rw[a];exact t6<|t8<|t6<|G4<|t8 ⟨_,rfl,h⟩
theorem Bo(c:s.heap.IsItemsView v d)(m:cK s.heap d es ep)(b:Q (.ref s.heap.objs.size) { s with heap:=s.heap.push { cls:=.type "dict_itemiterator",data:=.fields #[.none,.bool b7,.ref d,.int 0 0,.int es.size 0,.int ep 0,.none,.none] } }):f9 (g7 prog w) A (j0<|.ref v) Q E s:=by obtain⟨g,e,P,f⟩:=id c;obtain⟨o,h1,h2,a⟩:=m;refine P5 c.typeIs F.slot_dict_items_iter<|F5 F.slot_dict_items_iter c.typeIs F.entry_dict_items_iter ?_<|F.args_dict_items_iter_1 _;unfold Builtin.«dict_items.__iter__»;refine t6<|t8<|t6 ?_;unfold R9;refine t6<|J2 e f (x:=.ref d) rfl<|t8<|t6 ?_;unfold Sg;refine t6<|MN h1 a<|t6<|My h1 a ?_;simp only[show Oh "dict_itemiterator" = a9 by decide,s9];exact G4 (t8 ⟨_,rfl,"dict_itemiterator",_,⟨_,A8 _ rfl,rfl⟩,F.slot_dict_itemiterator_next.lookup,by simpa [j1,Sk]using b⟩)<|by simp only[sizeOk,Sk,A5,A3,C0,D6,MH];lia
theorem Bn(V:xu s.heap it d S i es.size ep)(hS:S<s.heap.objs.size)(hm:cK s.heap d es ep)(hi:i<es.size)(hQ:∀h',xu h' it d S (i+1) es.size ep->h'.get? s.heap.objs.size=a7 { cls:=.type "tuple",data:=.seq #[es[i].key,es[i].val] }->h'.objs.size=s.heap.objs.size+1 -> (∀b o,b≠it->s.heap.get? b=a7 o->h'.get? b=a7 o)->(∀ok ov,cU s.heap it d i es.size ep .none (.bool b7) ok ov->cU h' it d (i+1) es.size ep (j1 s.heap.objs.size) (.bool b7) es[i].key es[i].val)->Q (a7<|.ref s.heap.objs.size) { s with heap:=h' }):f9 (g7 prog w) A (i8<|.ref it) Q E s:=by
 obtain⟨hp,g,r,t,q⟩:=s;obtain⟨x0,x1,ok,ov,h,W⟩:=V;obtain⟨od,Z,k2,k3⟩:=id hm;have T:Np ⟨hp,g,r,t,q⟩ (.ref it) "dict_itemiterator":=⟨_,h,rfl⟩
 unfold i8;refine t6<|Nb<|Mo (name:=u4 "__next__") T Rl<|F5 Rl T Sl ?_<|Sn _;refine t6<|t8<|t6<|t6 ?_
 first|refine t6 (Rj T<|t8<|t6<|Ms h rfl ?_)|refine t6<|Ra T<|t8<|t6<|Ms h rfl ?_
 simp only[show Oh "dict_itemiterator" = a9 by decide,s9];refine(show f9 (g7 prog w) _ (if (AB6 d==ABN)=a9 then _ else _) _ _ _ from ?_);rw[p4<|by exact MA];refine t6<|t8<|t6<|MN Z k3 ?_;rw[p4<|by simp];refine t6<|t8<|t6<|My Z k3 ?_;rw[p4<|by simp];refine t8 ?_;simp only[show ¬((i:Int)<0)from by lia,r9,J4,G6 hi];refine t6 ?_
 first|refine t6 (Rj T<|t8 ?_)|refine t6<|Ra T<|t8 ?_
 refine t6<|RK T ?_;refine(show f9 (g7 prog w) _ (setField (.ref it) 3 (j1<|(i:Int)+1) >>= _) _ _ ⟨hp,g,r,t,q⟩from t6<|Nh h (by simp) λm he hs=>?_);have D:G9 it hp m:=hs;have y:cU m it d (i+1) es.size ep x0 x1 ok ov:=by unfold cU;rw[show ((i+1:Nat):Int)=(i:Int)+1 by lia];simpa [j1]using he
 have u:Np ⟨m,g,r,t,q⟩ (.ref it) "dict_itemiterator":=⟨_,y,rfl⟩
 refine t6<|E3<|t6<|RK u<|t6<|RK u ?_;refine(show f9 (g7 prog w) _ (Sh (.ref it) 6 es[i].key es[i].val) _ _ ⟨m,g,r,t,q⟩from ?_);unfold Sh;refine t6<|wpAny_newTuple ?_;have B:cU (m.push { cls:=.type "tuple",data:=.seq #[es[i].key,es[i].val] }) it d (i+1) es.size ep x0 x1 ok ov:=x5 _ y;generalize N:m.push { cls:=.type "tuple",data:=.seq #[es[i].key,es[i].val] }=hB at B;have Y:m.objs.size=hp.objs.size:=D.1;have p:it<hp.objs.size:=z6 h;have tB:hB.get? hp.objs.size=a7 { cls:=.type "tuple",data:=.seq #[es[i].key,es[i].val] }:=by rw[<-N,<-Y];exact A8 _ rfl
 have zB:hB.objs.size=hp.objs.size+1:=by rw[<-N,L8,Y]
 have kB:∀b o,b≠it->hp.get? b=a7 o->hB.get? b=a7 o:=λb o k e=>by rw[<-N];exact x5 _<|D.extBut b o k e
 refine(show f9 (g7 prog w) _ (Sj (.ref it) >>= _) _ _ ⟨hB,g,r,t,q⟩from ?_);rw[Y];have n:∀C:d6,xu C it d S (i+1) es.size ep->G9 it hB C->(∀ok ov,cU hp it d i es.size ep .none (.bool b7) ok ov->cU C it d (i+1) es.size ep (j1 hp.objs.size) (.bool b7) es[i].key es[i].val)->Q (a7<|.ref hp.objs.size) ⟨C,g,r,t,q⟩:=λC st U =>
  hQ C st (U.extBut _ _ (Na p) tB) (by show C.objs.size=hp.objs.size+1;rw[U.1,zB]) λb o k e=>U.extBut b o k<|kB b o k e
 refine t6 ?_;unfold Sj;rcases W with⟨rfl,rfl⟩|⟨a,f,F,rfl,rfl,ga,j,v⟩
 refine t6<|J2 B rfl (x:=.none) rfl<|t8 ?_;simp only[s9];refine t6<|J2 B rfl (x:=ok) rfl<|t6<|J2 B rfl (x:=ov) rfl ?_;refine t6<|Nh B (by simp) λl M X=>?_;refine t6<|Nh (show cU l it d (i+1) es.size ep .none (.bool b7) es[i].key ov from M) (by simp) λP e4 s4=>?_;refine t6<|Nh (show cU P it d (i+1) es.size ep .none (.bool b7) es[i].key es[i].val from e4) (by simp) λR e5 s5=>?_;refine t6<|Nh (show cU R it d (i+1) es.size ep (j1 hp.objs.size) (.bool b7) es[i].key es[i].val from e5) (by simp) λL e6 s6=>?_;have p6:cU L it d (i+1) es.size ep (j1 hp.objs.size) (.bool b7) es[i].key es[i].val:=e6;have U:G9 it hB L:=by have c:G9 it hB l:=X;have I:G9 it l P:=s4;have J:G9 it P R:=s5;have K:G9 it R L:=s6;exact⟨by rw[K.1,J.1,I.1,c.1],λb k=>by rw[K.2 b k,J.2 b k,I.2 b k,c.2 b k]⟩
 exact t6<|wpAny_letGo<|t8<|t8 ⟨_,rfl,t8<|n L ⟨_,_,_,_,p6,.inr ⟨_,b7,_,rfl,rfl,U.extBut _ _ (Na p) tB,Na p,Na hS⟩⟩ U λ_ _ _=>p6⟩;have O:hB.get? a=a7 F:=kB a F j ga;have no:∀{C:d6} (G H:b8),cU hp it d i es.size ep .none (.bool b7) G H->cU C it d (i+1) es.size ep (j1 hp.objs.size) (.bool b7) es[i].key es[i].val:=λG H z=>p7 (h.symm.trans z) (by simp[j1]);refine t6<|J2 B rfl (x:=j1 a) rfl ?_;refine(show f9 (g7 prog w) _ (loadIfAlive ((a:Int).toNat) >>= _) _ _ _ from ?_);rw[J4];refine t6<|kdx_alive O ?_;simp only[Option.isNone_some,A7,r9];refine t6<|J2 B rfl (x:=.bool f) rfl ?_;cases f with
 |true=>rw[p4<|show ¬((Nz a9 != Nz a9)=a9)from MA];refine t8 ?_;simp only[A7,r9];exact t8<|t8 ⟨_,rfl,t8<|n hB ⟨_,_,_,_,B,.inr ⟨a,a9,F,rfl,rfl,O,j,v⟩⟩ (Heap.SameBut.refl _ _) no⟩
 |false=>rw[o8<|show (Nz b7 != Nz a9)=a9 from rfl];refine t6<|Nh B (by simp) λl M X=>?_;have p3:cU l it d (i+1) es.size ep (j1 a) (.bool a9) ok ov:=M;have c:G9 it hB l:=X;refine t8 ?_;simp only[A7,r9];exact t8<|t8 ⟨_,rfl,t8<|n l ⟨_,_,_,_,p3,.inr ⟨a,a9,F,rfl,rfl,c.extBut a F j O,j,v⟩⟩ c no⟩
theorem Et(f:A.handled=a8)(c:xu s.heap it d S es.size es.size ep)(g:cK s.heap d es ep)(e:∀h',Pz it s.heap h'->Q a8 { s with heap:=h' }):f9 (g7 prog w) A (i8<|.ref it) Q E s:=by
 obtain⟨x,i,ok,v,h,W⟩:=c;obtain⟨j,C,B,k⟩:=id g;have n:s.TypeIs (.ref it) "dict_itemiterator":=⟨_,h,rfl⟩
 unfold i8;refine t6<|Nb<|Mo (name:=u4 "__next__") n Rl<|F5 Rl n Sl ?_<|Sn _;refine t6<|t8<|t6<|t6 ?_
 first|refine t6 (Rj n<|t8<|t6<|Ms h rfl ?_)|refine t6<|Ra n<|t8<|t6<|Ms h rfl ?_
 simp only[show Oh "dict_itemiterator" = a9 by decide,s9];refine(show f9 (g7 prog w) _ (if (AB6 d==ABN)=a9 then _ else _) _ _ s from ?_);rw[p4<|by exact MA];refine t6<|t8<|t6<|MN C k ?_;rw[p4<|by simp];refine t6<|t8<|t6<|My C k ?_;rw[p4<|by simp];refine t8 ?_;simp only[show ¬((es.size:Int)<0)from by lia,r9,J4,OF<|v6 es.size];refine t6 ?_
 first|refine t6 (Rj n<|t8 ?_)|refine t6<|Ra n<|t8 ?_
 refine(show f9 (g7 prog w) _ (setField (.ref it) 2 .none >>= _) _ _ s from t6<|MU h rfl (by simp) ?_);refine(show f9 (g7 prog w) _ (newExc (.type "StopIteration") [] >>= _) _ _ _ from t6 ?_);simp only[newExc,newTuple];refine t6 (G4 ?_<|by size_fits);refine t6 (m:=n9 _ _)<|OR (a:=ABN) (by first|rfl|(simp only[n9];rfl)) ?_;refine G4 ?_ (by size_fits);simp only[raiseNew];refine t6<|PF ?_;rw[show A.in1.handled=a8 from f];refine t6<|t8<|wpAny_throw ?_;refine t6<|NQ (b:=a9) (T:="StopIteration") ⟨_,A8 _ rfl,rfl⟩ OZ ?_;exact t8<|e _<|((L3 ..).extBut.push _).push _
structure PairsAt(es:Array m8)(lo:c9)(h:d6)(as:List c9):Prop where
 nd:as.Nodup
 above:∀a∈as,lo<a
 tup:∀(j:Nat) (a:c9),as[j]?=a7 a->∃e,es[j]?=a7 e/\h.get? a=a7 { cls:=.type "tuple",data:=.seq #[e.key,e.val] }
end L2
namespace L2
open PySem PySem.Spec PyProof.Rows DL PySem.W
def Jh:G8:=λx y M Q=>match x,y with
 |.int i,.int j=>CPow i j/\Q (.int<|i*2 ^ j.toNat) M
 |_,_=>False
theorem JT:J0 X (j3 .LShift) Jh:=by refine D7.imp JJ ?_;rintro g i H R ⟨x,y,M,ρ,Q,s,r,m,q,k⟩;unfold Jh at q;split at q;cases r;cases m;exact⟨_,_,rfl,rfl,q.1,k _ H<|VQ.now s (.int _) q.2⟩;exact q.elim
theorem KM:J5 X (j3 .LShift) Jh:=⟨JT⟩
def zM:C6:=λds M Q=>match ds with
 | [.int i,.int j]=>Q (.int<|if j > i then j else i) M
 |_=>False
theorem Ip(f:X.calm=a9):iW X (.builtin "max") zM:=by
 refine fF.imp (BM f) ?_;rintro vs H R ⟨ds,M,ρ,Q,s,a,q,k⟩;unfold zM at q;split at q
 first|have z:=Reps.inv_cons a|have z:=aw.inv_cons a
 clear a;obtain⟨_,_,rfl,r,a⟩:=z
 first|have z:=Reps.inv_cons a|have z:=aw.inv_cons a
 clear a;obtain⟨_,_,rfl,m,a⟩:=z;cases a;cases r;cases m;exact⟨_,_,rfl,k _ H<|VQ.now s (.int _) q⟩;exact q.elim
theorem HD(f:X.calm=a9:=by kernel_rfl):HC X (.builtin "max") zM:=⟨Ip f⟩
theorem yu(i:Room k X.A):HC X (.builtin "sorted") jM:=⟨BJ i⟩
noncomputable def dictOf(ps:List (D×D)):List (D×D):=ps.foldl (λkvs p=>fV kvs p.1 p.2) []
theorem fx:dictOf (ps++[p])=fV (dictOf ps) p.1 p.2:=by unfold dictOf;rw[List.foldl_append];rfl
theorem tY:∀(ps kvs:List (D×D)),(ps.foldl (λkvs p=>fV kvs p.1 p.2) kvs).length<=kvs.length+ps.length
 | [],_=>v6 _
 |p::ps,kvs=>by have h1:=tY ps<|fV kvs p.1 p.2;have h2:=gM (kvs:=kvs) (k:=p.1) (d:=p.2);rw[List.foldl_cons,C0];lia
theorem jY:(dictOf ps).length<=ps.length:=by have:=tY ps [];rw[D6,Nat.zero_add]at this;exact this
theorem jA:entryFor table "dict.update.loop" = a7 Builtin.«dict.update.loop»:=entryFor_of_tree<|by kernel_rfl
theorem bU:plainId "dict.update.loop" = a9:=by decide +kernel
theorem jU:typeLookup (.type "list") "__getattr__" = pure a8:=by rw[PP,Qg];kernel_rfl
theorem nW:typeLookup (.type "list") "keys" = pure a8:=by rw[PP,Qg];kernel_rfl
section
variable{prog:c8}{w:c7}{A:e8}{E:b8->f6->Prop}{h:d6}{g:Array GenState}{d:Drawn}{t:Nat}{os:OsState}{a:c9}{o:d5}
theorem As(x:h.get? a=a7 o)(i:o.cls=.type "list")(b:o.dict=a8)(c:o.data=.seq its nn)(f:A.handled=a8)(q:∀h' tk e,Heap.NewAttrErr h h' e (.ref a) "keys"->R (.error<|.ref e) ⟨h',g,d,tk,os⟩):j8 (g7 prog w) A (.call (.builtin "list.__getattribute__") ⟨[.ref a,.str "keys" u],[]⟩) R ⟨h,g,d,t,os⟩:=by
 obtain⟨j,k,B,G⟩:=o;obtain rfl:j=.type "list":=i;obtain rfl:k=a8:=b;obtain rfl:B=.seq its nn:=c;have n:(⟨h,g,d,t,os⟩:f6).TypeIs (.ref a) "list":=⟨_,x,rfl⟩
 have y:=nW;refine codeAny_call_builtin Ri.plain PySem.F.entry_list_ga<|Ri.check _ _ _ _ _ _ _ _ n (PySem.F.args_list_getattribute_2 _ _) ?_;unfold Builtin.«object.__getattribute__»
 repeat (any_goals (first|assumption|wp_step))
 refine wpAny_raiseAttrError (o:=.ref a) (name:="keys") (by first|exact f|simpa using f) q ?_;exact attrMsg_fits (by decide +kernel)<|by size_fits
theorem vq(x:h.get? a=a7 o)(k:o.cls=.type "list")(c:o.dict=a8)(f:o.data=.seq its nn)(j:A.handled=a8)(q:∀h' tk,(∀b ob,h.get? b=a7 ob->h'.get? b=a7 ob)->Q a8 ⟨h',g,d,tk,os⟩):f9 (g7 prog w) A (getAttr? (.ref a) "keys") Q E ⟨h,g,d,t,os⟩:=by
 obtain⟨l,m,B,G⟩:=o;obtain rfl:l=.type "list":=k;obtain rfl:m=a8:=c;obtain rfl:B=.seq its nn:=f;have n:∀tk,(⟨h,g,d,tk,os⟩:f6).TypeIs (.ref a) "list":=λ_=>⟨_,x,rfl⟩
 have p:=sub_AttributeError;have N:=Ri.lookup;have r:=Ri.bind<|.ref a;have s:=jU;unfold getAttr? getAttrBy? getAttrBy
 repeat (any_goals (first|assumption|exact n _|wp_step))
 refine As x rfl rfl rfl (by first|exact j|simpa using j) λh' tk e i=>?_;obtain⟨t',F,u⟩:=i.there;unfold getattributeRaised
 repeat (any_goals (first|assumption|wp_step))
 exact q _ _ i.keeps
end
theorem dsetE(u:(aX prog w).room A)(t:(aX prog w).is s.heap k b)(r:s.heap.DictOfH (aX prog w) d xs) (x:dX d xs prog w s.heap) (hz:xs.length<=sizeLine)(m:∀h',dX d (storedH xs k b v) prog w h'->G9 d s.heap h'->Q () { s with heap:=h',toks:=s.toks+(aX prog w).draws k }):f9 (g7 prog w) A (dictSet d (.ref b) v) Q E s:=by
 obtain⟨_,_,_,_,_,_,_,g,f⟩:=r;obtain⟨o,es,B,n,h,c⟩:=x;have i:es.toList=xs.map (d8<|aX prog w):=c;unfold dictSet
 try with_reducible refine E3 ?_
 refine t6<|(aX prog w).pyHash u t ?_;unfold dictSetHashed
 try with_reducible refine E3 ?_
 have z:es.size=xs.length:=size_of_entries i;refine t6<|wpAny_dictFind_heap (s:={ s with toks:=s.toks+(aX prog w).draws k }) u t B h i g f (λa=>?_) λj p L=>?_;refine t6<|F9<|QX (hz:=by lia) (s:={ s with toks:=s.toks+(aX prog w).draws k }) B h<|m _ ⟨_,es.push ⟨(aX prog w).hash k,.ref b,v⟩,L4 _ B<|O7<|Oc h _,n.mapDictKeys _,?_,?_⟩<|L3 ..;rw[Oc h,storedH_new<|QL a,A3];rfl;rw[storedH_new<|QL a];rw[QN,i,G1];rfl;refine t6<|F9<|t6<|wpAny_updateDict (s:={ s with toks:=s.toks+(aX prog w).draws k }) B h<|wpAny_point<|m _ ⟨_,es.modify j λe=>{ e with val:=v },L4 _ B<|O7<|QH h _,n.mapDict _,?_,?_⟩<|L3 ..;rw[QH h,storedH_old<|OT f L,v7];rw[storedH_old<|OT f L];have q:=modify_map_putAt (d8<|aX prog w) (λe:m8=>{ e with val:=v }) k v (λ_ _=>rfl) f L;rw[<-i]at q;obtain⟨l⟩:=es;have y:(Array.modify ⟨l⟩ j λe:m8=>{ e with val:=v }).toList=(xs.map<|putAt k v).map (d8<|aX prog w):=by simpa using q
 exact y
structure DD(X:Cx)(ρ:List c9)(H:Hp)(h:d6)(a:c9)(kvs:List (D×D))(xs:List (D×c9×b8)):Prop where
 dx:dX a xs X.prog X.w h
 kv:Paired (rh X.K ρ H) kvs xs
 nd:(kvs.map (·.1)).Nodup
theorem DD.at(x:DD X ρ H h a kvs xs)(k:∀o,h.get? a=a7 o->h'.get? a=a7 o):DD X ρ H h' a kvs xs:=by obtain⟨⟨o,es,t,l,Q,J⟩,v,d⟩:=x;exact⟨⟨o,es,k _ t,l,Q,J⟩,v,d⟩
theorem DD.len(x:DD X ρ H h a kvs xs):xs.length=kvs.length:=by
 have:=t4 L1<|dB x.kv
 rwa [v7,v7]at this
theorem DD.of(I:t9 X pins σ H s)(x:DD X ρ H s.heap a kvs xs):s.heap.DictOfH (aX X.prog X.w) a xs:=by obtain⟨o,es,t,l,Q,J⟩:=x.dx;have Z:=dB x.kv;refine⟨o,es,_,t,l,Q,J,λy h=>?_,by rw[Z];exact x.nd⟩;obtain⟨i,hi⟩:=MP h;obtain⟨p,_,c,j,k,_⟩:=cy x.kv hi;rw[<-c];exact cO I 8 _ _ _ k rfl j
theorem BA(I:t9 X pins σ H s)(hu:A.units+20<j6)(W:Walks X.prog X.w A.in1 J fp wr m P Sx)(S:c9)(x:S∉fp)(N:s.heap.get? S=a8) (E:∀b∈wr,s.heap.get? b=a8) (ps:List (D×D)) (hm:ps.length=m) (C:∀i v,P i v->∃p,ps[i]?=a7 p/\(∃vv,u5 X.K ρ H (.tup [p.1,p.2]) vv/\aL vv v)/\cL 8 p.1=a9/\eK p.1=a9) (hb:m<=1000):∀(k i:Nat) (h:d6) (tk:Nat) (xs:List (D×c9×b8)) (j:Int) (t:Tok),m-i=k->i<=m->Sx i h->DD X ρ H h S (dictOf<|ps.take i) xs->(∀b u,s.heap.get? b=a7 u->h.get? b=a7 u) ->(∀h' tk xs',(∀b u,s.heap.get? b=a7 u->h'.get? b=a7 u)->DD X ρ H h' S (dictOf ps) xs'->R (.ok<|.ret .none) { s with heap:=h',toks:=tk }) ->j8 (g7 X.prog X.w) A (.builtin "dict.update.loop" ⟨[.ref S,.ref J,.int j t,.none],[]⟩) R { s with heap:=h,toks:=tk }:=by
 have y:S∉wr:=λh=>x<|W.sub _ h;intro k;induction k with
 |zero =>
  intro i h tk xs j t hk hi q G f Z;obtain rfl:i=m:=by lia
  refine NC jA ?_;rw[NU bU _];refine(show f9 (g7 X.prog X.w) A.in1 (i8 (.ref J) >>= _) _ _ _ from t6<|W.done _ _ _ q λh' tk d=>?_);rw[<-hm,Mu]at G;refine(show f9 (g7 X.prog X.w) A.in1 (Builtin.Dict.addKeywords S [] >>= _) _ _ _ from t6<|t8<|t8 ?_);exact Z h' tk xs (λb u e=>d b u (λz=>by rw[E b z]at e;cases e)<|f b u e)<|G.at λo e=>d S o y e
 |succ k ih =>
  intro i h tk xs j t hk hi q G f Z;refine NC jA ?_;rw[NU bU _];refine(show f9 (g7 X.prog X.w) A.in1 (i8 (.ref J) >>= _) _ _ _ from t6<|W.item i _ _ _ (by lia) q λv h' tk hP B d=>?_);obtain⟨p,hp,⟨vv,r,rv⟩,kd,it⟩:=C i v hP;have n:∀b u,s.heap.get? b=a7 u->h'.get? b=a7 u:=λb u e=>d b u (λz=>by rw[E b z]at e;cases e)<|f b u e;have L:t9 X pins σ H { s with heap:=h',toks:=tk }:=I.kept n;have c:=G.at λo e=>d S o y e;have hl:=c.len;have dl:=jY (ps:=ps.take i);have dd:=c.of (s:={ s with heap:=h',toks:=tk }) L;obtain⟨a,vs,rfl,hq,l⟩:=u5.inv_tup r;cases rv
  first|have g:=Reps.inv_cons l|have g:=aw.inv_cons l
  clear l;obtain⟨_,_,rfl,r1,l⟩:=g
  first|have g:=Reps.inv_cons l|have g:=aw.inv_cons l
  clear l;obtain⟨_,_,rfl,r2,l⟩:=g;cases l;obtain⟨its,U,pl,hz⟩:=L.tuple hq;obtain⟨u1,u2,rfl,Y,e2⟩:=aw.two U;obtain⟨k0,d0⟩:=p;cases k0 with
  |tup ks =>
   have F:=cO L 8 _ _ _ r1 Y kd;obtain⟨b,_,rfl,_⟩:=id F;obtain⟨_,_,rfl,Q,V⟩:=u5.inv_tup r1;cases Y;obtain⟨o,ho,hc,nn,hd⟩:=pl;have hT:({ s with heap:=h',toks:=tk }:f6).TypeIs (.ref a) "tuple":=⟨o,ho,hc⟩
   refine t6<|E3<|t6<|wpAny_tryCatch ?_;unfold Builtin.Dict.pairItems;refine t6<|No hT ?_;rw[o8<|by decide];refine t6<|Mt ho hd<|t8 ?_;refine(show f9 (g7 X.prog X.w) _ (i4 [.ref b,u2]<|dictSet S (.ref b) u2) _ _ _ from E3 ?_);refine dsetE (k:=.tup ks) (s:={ s with heap:=h',toks:=tk }) (by show A.units+1+8<j6;lia) F dd c.dx (aq<|by rw[hl];rw[K5]at dl;lia) λh2 M sb=>?_;have k2:∀b u,b≠S->h'.get? b=a7 u->h2.get? b=a7 u:=λb u hb e=>(sb.2 b hb).trans e;have T:=Fs c.kv kd (.tup Q V) r2 e2;have et:ps.take (i+1)=ps.take i++[(.tup ks,d0)]:=by rw[Mz,hp];rfl
   refine t8 ⟨NA bU _,ih (i+1) h2 _ _ _ _ (by lia) (by lia) (W.frame _ h' h2 B λb' O o e=>k2 b' o (λz=>x<|z ▸ O) e) ⟨M,?_,?_⟩ (λb u e=>k2 b u (λz=>by rw[z,N]at e;cases e)<|n b u e) Z⟩;rw[et,fx];exact T;rw[et,fx];exact mD c.nd
  |_=>cases it
theorem Iu(I:t9 X pins σ H s)(Y:A.units+30<j6)(B:A.handled=a8)(C:s.heap.IsList l its)(f:s.heap.get? l=a7 ol)(t:ol.dict=a8)(ps:List (D×D))(P:ps.length=its.size)(y:∀(i:Nat) v,its[i]?=a7 v->∃p:D×D,ps[i]?=a7 p/\(∃vv,u5 X.K ρ H (.tup [p.1,p.2]) vv/\aL vv v)/\cL 8 p.1=a9/\eK p.1=a9) (O:its.size<=1000)(h:∀h' tk xs,(∀b u,s.heap.get? b=a7 u->h'.get? b=a7 u)->DD X ρ H h' s.heap.objs.size (dictOf ps) xs->Q (.ref s.heap.objs.size) { s with heap:=h',toks:=tk }):f9 (g7 X.prog X.w) A (call (.type "dict") [.ref l]) Q E s:=by
 refine callType_codes (Q₁:=λj s₁=>j=.ref s.heap.objs.size/\s₁={ s with heap:=s.heap.push { cls:=.type "dict",data:=.dict #[] } }) RJ (RZ _) RO (kt_code_dict_new _ ⟨rfl,rfl⟩) ?_;rintro j s₁ ⟨rfl,rfl⟩;have S:(s.heap.push { cls:=.type "dict",data:=.dict #[] }).get? s.heap.objs.size=a7 { cls:=.type "dict",data:=.dict #[] }:=A8 _ rfl;have z:Np { s with heap:=s.heap.push { cls:=.type "dict",data:=.dict #[] } } (.ref s.heap.objs.size) "dict":=⟨_,S,rfl⟩
 obtain⟨a,N,r,Z,m⟩:=id C;obtain rfl:a=ol:=C3<|N.symm.trans f;have c:(s.heap.push { cls:=.type "dict",data:=.dict #[] }).get? l=a7 a:=x5 _ f;have L:Np { s with heap:=s.heap.push { cls:=.type "dict",data:=.dict #[] } } (.ref l) "list":=⟨a,c,r⟩
 have U:l<s.heap.objs.size:=z6 f;refine⟨z,RT _ _,?_⟩;unfold Builtin.«dict.__init__»;refine t6 ?_;unfold RS;refine t6<|NV z ?_;refine(show f9 _ _ (pure (s.heap.objs.size,[AB6 l])) _ _ _ from t8 ?_);refine(show f9 _ _ (Pb "dict.__init__" s.heap.objs.size (.ref l) [] .none) _ _ _ from ?_);unfold Pb;refine t6<|No L ?_;rw[o8<|by decide];refine t6<|vq c r t m (by simpa using B) λh1 x F=>?_;have k:∀b u,s.heap.get? b=a7 u->h1.get? b=a7 u:=λb u e=>F b u<|x5 _ e;rw[o8<|show (a8:Option b8).isNone=a9 from rfl];refine t6<|F9 ?_;obtain⟨oI,St,n,W,V⟩:=(TxSrc.list (prog:=X.prog) (w:=X.w) C).iter A.in1.in1 { s with heap:=h1,toks:=x } (by simpa using B) λo e=>k _ _ e;refine t6<|n _ _ ?_;have d:=F _ _ S;have J:s.heap.objs.size<h1.objs.size:=z6 d;have G:s.heap.get? s.heap.objs.size=a8:=by
  cases q:s.heap.get? s.heap.objs.size with
  |none=>rfl
  |some o=>exact p7 (z6 q)<|G0 _
 refine t8 ⟨NA bU _,BA (A:=A.in1) (s:=s) I (by show A.units+1+20<j6;lia) W s.heap.objs.size ?_ G ?_ ps P y O its.size 0 _ _ [] _ _ rfl (B5 _) V ⟨⟨_,#[],x5 _ d,⟨rfl,rfl,rfl⟩,rfl,rfl⟩,.nil,Ov⟩ (λb u e=>x5 _<|k b u e) λh2 T xs R M=>⟨rfl,h h2 T xs R M⟩⟩;simp only[A1,ML,or_false,not_or];exact⟨A4 J,Na U⟩;intro b g;rw[I9.mp g];cases q:s.heap.get? h1.objs.size with
 |none=>rfl
 |some o=>exact p7 (PC (z6 q) J)<|G0 _
def iD:C6:=λds M Q=>match ds with
 | [.ref n]=>∃ps:List (D×D),am M n (ps.map λp=>.tup [p.1,p.2])/\(∀p∈ps,cL 8 p.1=a9/\eK p.1=a9)/\ps.length<=1000/\Q (.ref M.length) (M++[.dkt<|dictOf ps])
 |_=>False
theorem BK(G:Room k X.A)(C:X.calm=a9):iW X (.type "dict") iD:=by
 rintro w s σ H vs us R I W ⟨ds,M,ρ,Q,n,c,q,K⟩;have un:=G.un;unfold iD at q;split at q;obtain⟨ps,L,E,hl,q⟩:=q
 first|have z:=Reps.inv_cons c|have z:=aw.inv_cons c
 clear c;obtain⟨_,_,rfl,l,c⟩:=z;cases c;obtain⟨u,rfl,t⟩:=aw.one W;obtain⟨a,rfl,e⟩:=u5.inv_ref l;cases t;obtain⟨ws,F,r⟩:=am.seq n L e;obtain⟨its,y,x,hz⟩:=I.list F;obtain⟨oa,nn,j,D,b,h⟩:=id x;have O:=r.length;have li:=y.length;rw[v7]at O;have f:H s.heap.objs.size=a8:=I.hok.fresh<|v6 _;have B:(s.heap.objs.size==d7)=b7:=beq_eq_false_iff_ne.mpr<|z9<|A4 I.big;refine Iu (A:=X.A) (ρ:=ρ) I (by lia) (I.ok.hd C) x.isList j b ps (by rw[A5];lia) (λi v J=>?_) (by rw[A5];lia) λh' Y xs N g=>?_;obtain⟨d,Z,t,l,m⟩:=lG r y (i:=i) (u:=v) (by simpa using J);rw[C7]at t;obtain⟨p,hp,rfl⟩:=MQ.mp t;exact⟨p,hp,⟨Z,l,m⟩,E p<|E9 hp⟩;have dl:=jY (ps:=ps);refine⟨.ref s.heap.objs.size,_,I.laid (a:=s.heap.objs.size) (o:=.ext<|dX s.heap.objs.size xs) (t':=Y) N (v6 _)<|qH g.dx,rfl,?_⟩;exact K _ _ ⟨.ref M.length,M++[.dkt<|dictOf ps],ρ++[s.heap.objs.size],n.laidM (mo:=.dkt<|dictOf ps) f ⟨aq (by lia),B,g.nd,xs,aP,Paired.mapP g.kv λ_ _ ⟨P,S,T,v,U,V⟩=>⟨P,S,T.grow<|Grow.laidR f,v,U.grow<|Grow.laidR f,V⟩⟩,Grow.laidR f,.ref n.last,q⟩;exact q.elim
theorem AX(i:Room k X.A)(f:X.calm=a9:=by kernel_rfl):HC X (.type "dict") iD:=⟨BK i f⟩
noncomputable abbrev EE(M:u8)(R:DK):DEnds:=⟨λ_ M'=>aY M R .non M',aY M R,λ_ _=>False,λ_ _=>False⟩
noncomputable def R1(n:Nat)(ds:List D):SD:=ds.map a7++N6 (n-ds.length) a8
abbrev C1(Pr:A2)(n:Nat)(t:u3):Prop:=∀ds M R,Pr ds M R->t (EE M R) (R1 n ds) M
abbrev da(Pr:A2)(p:List b9):Prop:=∀ds M R,Pr ds M R->ds.length=p.length
abbrev DerT(P:c8)(w:c7)(K:v4)(mg:b9->Option b8)(base:d6)(k:Nat)(x:b9)(N:List b9)(st:i3)(t:u3):Prop:=∀(f:c9) (cdv:b8) (A:e8) (outer:List Env) (s:f6) (H:Hp) (E:XK),Room k (A.deeper<|PyProof.Rows.envOfC x (az st) s.heap.objs.size f cdv)->HB (yJ K9 P w K mg base N x (az st) f cdv A outer s H E).nox (bY st) t
def xk(c:F8)(t:u3):u3:=λE S M=>∃W:Nat->SD->u8->Prop,(∃m,W m S M)/\∀m S M,W m S M ->c S M λb d=>if b=a9 then t ⟨λa M'=>∃g,g < m/\W g a M',E.rt,E.nx,λa M'=>∃g,g < m/\W g a M'⟩ S d else E.nx S d
theorem yi{K:v4}{c:F8}{j:u3}(E:Ends)(σ:St)(H:Hp)(h:lowS K (xk c j) E σ H):Fh (lowT K c) (lowS K j) E σ H:=by
 obtain⟨S,M,ρ,F,s,B,⟨W,⟨y,J⟩,t⟩,k⟩:=h;refine⟨λm τ f=>∃S2 M2 d,w4 K d M2 f/\Grow K ρ H d f/\SRep K d f S2 τ/\W m S2 M2,⟨y,S,M,ρ,s,.refl,B,J⟩,?_⟩;rintro m τ f ⟨S2,M2,d,A,w,p,C⟩;refine⟨S2,M2,d,_,A,p,t m S2 M2 C,?_⟩;rintro b l ⟨i,L,o,g3,q⟩;have g:=w.trans g3;cases b with
 |true =>
  have n:∀a V,SQ K L l (λr M'=>∃e,e < m/\W e r M') a V->∃e,e < m/\∃S2 M2 d,w4 K d M2 V/\Grow K ρ H d V/\SRep K d V S2 a/\W e S2 M2:=λa V ⟨u,Y,N,s5,x,I,e,lt,D⟩=>⟨e,lt,u,Y,N,s5,g.trans x,I,D⟩
  refine ck ⟨_,λG H' z=>z,S2,i,L,_,o,p.grow g3,(show j _ S2 i from q),?_⟩;exact⟨n,λv V z=>k.rt v V<|VQ.trans g z,λa V z=>k.nx a V<|SQ.trans g z,n⟩
 |false=>exact bR<|k.nx τ l ⟨S2,i,L,o,g,p.grow g3,(show F.nx S2 i from q)⟩
theorem wY(f:HT X c tc)(d:HB X body tb)(hp:PassesOwn (g7 X.prog X.w) X.A X.env X.xe:=by exact PassesOwn.never):HS X (.While c body [] pos) (xk tc tb):=⟨PS.imp (CT hp f.ok d.ok) yi⟩
theorem pN:typeLookup (.type "tuple") "keys" = pure a8:=by rw[PP,Qg];kernel_rfl
section
variable{prog:c8}{w:c7}{A:e8}{E:b8->f6->Prop}{h:d6}{g:Array GenState}{d:Drawn}{t:Nat}{os:OsState}{a:c9}{o:d5}
theorem CA(x:h.get? a=a7 o)(i:o.cls=.type "tuple")(b:o.dict=a8)(c:o.data=.seq its nn)(f:A.handled=a8)(q:∀h' tk e,Heap.NewAttrErr h h' e (.ref a) "keys"->R (.error<|.ref e) ⟨h',g,d,tk,os⟩):j8 (g7 prog w) A (.call (.builtin "tuple.__getattribute__") ⟨[.ref a,.str "keys" u],[]⟩) R ⟨h,g,d,t,os⟩:=by
 obtain⟨j,k,B,G⟩:=o;obtain rfl:j=.type "tuple":=i;obtain rfl:k=a8:=b;obtain rfl:B=.seq its nn:=c;have n:(⟨h,g,d,t,os⟩:f6).TypeIs (.ref a) "tuple":=⟨_,x,rfl⟩
 have y:=pN;refine codeAny_call_builtin Rk.plain PySem.F.entry_tuple_ga<|Rk.check _ _ _ _ _ _ _ _ n (PySem.F.args_tuple_getattribute_2 _ _) ?_;unfold Builtin.«object.__getattribute__»
 repeat (any_goals (first|assumption|wp_step))
 refine wpAny_raiseAttrError (o:=.ref a) (name:="keys") (by first|exact f|simpa using f) q ?_;exact attrMsg_fits (by decide +kernel)<|by size_fits
theorem om(x:h.get? a=a7 o)(k:o.cls=.type "tuple")(c:o.dict=a8)(f:o.data=.seq its nn)(j:A.handled=a8)(q:∀h' tk,(∀b ob,h.get? b=a7 ob->h'.get? b=a7 ob)->Q a8 ⟨h',g,d,tk,os⟩):f9 (g7 prog w) A (getAttr? (.ref a) "keys") Q E ⟨h,g,d,t,os⟩:=by
 obtain⟨l,m,B,G⟩:=o;obtain rfl:l=.type "tuple":=k;obtain rfl:m=a8:=c;obtain rfl:B=.seq its nn:=f;have n:∀tk,(⟨h,g,d,tk,os⟩:f6).TypeIs (.ref a) "tuple":=λ_=>⟨_,x,rfl⟩
 have p:=sub_AttributeError;have N:=Rk.lookup;have r:=Rk.bind<|.ref a;have s:=PySem.am_tuple_getattr_none;unfold getAttr? getAttrBy? getAttrBy
 repeat (any_goals (first|assumption|exact n _|wp_step))
 refine CA x rfl rfl rfl (by first|exact j|simpa using j) λh' tk e i=>?_;obtain⟨t',F,u⟩:=i.there;unfold getattributeRaised
 repeat (any_goals (first|assumption|wp_step))
 exact q _ _ i.keeps
end
theorem t9.tupN(I:t9 X pins σ H s)(h:B8 X.K H a xs):∃its:List b8,aw xs its/\Fa s.heap a its.toArray/\xs.length<=sizeLine:=by
 rcases h with h|⟨o,its,n,k,f,d,hs,b,r⟩
 obtain⟨z,its,r,p⟩:=h.ok I.hok;exact⟨its,r,p,z⟩;refine⟨its.toList,r,⟨o,I.kIn a o k,f,⟨n,by simpa using hs⟩,d⟩,?_⟩;have e:=r.length;simp only[E2]at e;lia
theorem EU(I:t9 X pins σ H s)(Y:A.units+30<j6)(B:A.handled=a8)(C:s.heap.IsTuple l its)(f:s.heap.get? l=a7 ol)(t:ol.dict=a8)(ps:List (D×D))(P:ps.length=its.size)(y:∀(i:Nat) v,its[i]?=a7 v->∃p:D×D,ps[i]?=a7 p/\(∃vv,u5 X.K ρ H (.tup [p.1,p.2]) vv/\aL vv v)/\cL 8 p.1=a9/\eK p.1=a9) (O:its.size<=1000)(h:∀h' tk xs,(∀b u,s.heap.get? b=a7 u->h'.get? b=a7 u)->DD X ρ H h' s.heap.objs.size (dictOf ps) xs->Q (.ref s.heap.objs.size) { s with heap:=h',toks:=tk }):f9 (g7 X.prog X.w) A (call (.type "dict") [.ref l]) Q E s:=by
 refine callType_codes (Q₁:=λj s₁=>j=.ref s.heap.objs.size/\s₁={ s with heap:=s.heap.push { cls:=.type "dict",data:=.dict #[] } }) RJ (RZ _) RO (kt_code_dict_new _ ⟨rfl,rfl⟩) ?_;rintro j s₁ ⟨rfl,rfl⟩;have S:(s.heap.push { cls:=.type "dict",data:=.dict #[] }).get? s.heap.objs.size=a7 { cls:=.type "dict",data:=.dict #[] }:=A8 _ rfl;have z:Np { s with heap:=s.heap.push { cls:=.type "dict",data:=.dict #[] } } (.ref s.heap.objs.size) "dict":=⟨_,S,rfl⟩
 obtain⟨a,N,r,Z,m⟩:=id C;obtain rfl:a=ol:=C3<|N.symm.trans f;have c:(s.heap.push { cls:=.type "dict",data:=.dict #[] }).get? l=a7 a:=x5 _ f;have L:Np { s with heap:=s.heap.push { cls:=.type "dict",data:=.dict #[] } } (.ref l) "tuple":=⟨a,c,r⟩
 have U:l<s.heap.objs.size:=z6 f;refine⟨z,RT _ _,?_⟩;unfold Builtin.«dict.__init__»;refine t6 ?_;unfold RS;refine t6<|NV z ?_;refine(show f9 _ _ (pure (s.heap.objs.size,[AB6 l])) _ _ _ from t8 ?_);refine(show f9 _ _ (Pb "dict.__init__" s.heap.objs.size (.ref l) [] .none) _ _ _ from ?_);unfold Pb;refine t6<|No L ?_;rw[o8<|by decide];refine t6<|om c r t m (by simpa using B) λh1 x F=>?_;have k:∀b u,s.heap.get? b=a7 u->h1.get? b=a7 u:=λb u e=>F b u<|x5 _ e;rw[o8<|show (a8:Option b8).isNone=a9 from rfl];refine t6<|F9 ?_;obtain⟨oI,St,n,W,V⟩:=(TxSrc.tuple (prog:=X.prog) (w:=X.w) C).iter A.in1.in1 { s with heap:=h1,toks:=x } (by simpa using B) λo e=>k _ _ e;refine t6<|n _ _ ?_;have d:=F _ _ S;have J:s.heap.objs.size<h1.objs.size:=z6 d;have G:s.heap.get? s.heap.objs.size=a8:=by
  cases q:s.heap.get? s.heap.objs.size with
  |none=>rfl
  |some o=>exact p7 (z6 q)<|G0 _
 refine t8 ⟨NA bU _,BA (A:=A.in1) (s:=s) I (by show A.units+1+20<j6;lia) W s.heap.objs.size ?_ G ?_ ps P y O its.size 0 _ _ [] _ _ rfl (B5 _) V ⟨⟨_,#[],x5 _ d,⟨rfl,rfl,rfl⟩,rfl,rfl⟩,.nil,Ov⟩ (λb u e=>x5 _<|k b u e) λh2 T xs R M=>⟨rfl,h h2 T xs R M⟩⟩;simp only[A1,ML,or_false,not_or];exact⟨A4 J,Na U⟩;intro b g;rw[I9.mp g];cases q:s.heap.get? h1.objs.size with
 |none=>rfl
 |some o=>exact p7 (PC (z6 q) J)<|G0 _
def sZ:C6:=λds M Q=>match ds with
 | [.tup xs]=>∃ps:List (D×D),xs=ps.map (λp=>.tup [p.1,p.2])/\(∀p∈ps,cL 8 p.1=a9/\eK p.1=a9)/\ps.length<=1000/\Q (.ref M.length) (M++[.dkt<|dictOf ps])
 |_=>False
theorem ER(F:Room k X.A)(B:X.calm=a9):iW X (.type "dict") sZ:=by
 rintro l s σ H vs us R I V ⟨ds,M,ρ,Q,x,c,q,J⟩;have un:=F.un;unfold sZ at q;split at q;obtain⟨ps,L,C,hl,q⟩:=q
 first|have z:=Reps.inv_cons c|have z:=aw.inv_cons c
 clear c;obtain⟨_,_,rfl,j,c⟩:=z;cases c;obtain⟨u,rfl,t⟩:=aw.one V;subst L;obtain⟨a,ws,rfl,E,r⟩:=u5.inv_tup j;cases t;obtain⟨its,w,n,hz⟩:=I.tupN E;obtain⟨oa,g,D,⟨nn,h⟩,b⟩:=id n;have N:=r.length;have li:=w.length;rw[v7]at N;have f:H s.heap.objs.size=a8:=I.hok.fresh<|v6 _;have y:(s.heap.objs.size==d7)=b7:=beq_eq_false_iff_ne.mpr<|z9<|A4 I.big;refine EU (A:=X.A) (ρ:=ρ) I (by lia) (I.ok.hd B) n.tup g b ps (by rw[A5];lia) (λi v G=>?_) (by rw[A5];lia) λh' W xs K e=>?_;obtain⟨d,Z,t,j,m⟩:=lG r w (i:=i) (u:=v) (by simpa using G);rw[C7]at t;obtain⟨p,hp,rfl⟩:=MQ.mp t;exact⟨p,hp,⟨Z,j,m⟩,C p<|E9 hp⟩;have Y:=jY (ps:=ps);refine⟨.ref s.heap.objs.size,_,I.laid (a:=s.heap.objs.size) (o:=.ext<|dX s.heap.objs.size xs) (t':=W) K (v6 _)<|qH e.dx,rfl,?_⟩;exact J _ _ ⟨.ref M.length,M++[.dkt<|dictOf ps],ρ++[s.heap.objs.size],x.laidM (mo:=.dkt<|dictOf ps) f ⟨aq (by lia),y,e.nd,xs,aP,Paired.mapP e.kv λ_ _ ⟨O,P,S,v,T,U⟩=>⟨O,P,S.grow<|Grow.laidR f,v,T.grow<|Grow.laidR f,U⟩⟩,Grow.laidR f,.ref x.last,q⟩;exact q.elim
theorem Ej(i:Room k X.A)(f:X.calm=a9:=by kernel_rfl):HC X (.type "dict") sZ:=⟨ER i f⟩
inductive TopB(mg:b9->Option b8):List b9->List (b9×Int)->Prop
 |nil:TopB mg [] []
 |b {x:b9}{B:List b9}{C:List (b9×Int)} (h:mg x=a8) (t:TopB mg B C):TopB mg (x::B) C
 |c {x:b9}{i:Int}{C:List (b9×Int)} (h:∃t,mg x=a7 (.int i t)) (t:TopB mg [] C):TopB mg [] ((x,i)::C)
theorem TopB.no(h:TopB mg B C)(c:B.contains x=a9):mg x=a8:=by
 induction h with
 |nil=>simp at c
 |b h _ i=>simp only[List.contains_cons,O2,p9]at c;rcases c with rfl|c;exact h;exact i c
 |c _ _ _=>simp at c
noncomputable def nodB:List b9->Bool
 | []=>a9
 |x::xs=>!xs.contains x&&nodB xs
theorem Ka:∀{l:List b9},nodB l=a9->l.Nodup
 | [],_=>Ov
 |x::xs,h=>by simp only[nodB,E4,Bool.not_eq_true',List.contains_eq_mem,decide_eq_false_iff_not]at h;exact J7.mpr ⟨h.1,Ka h.2⟩
noncomputable def tgN:ge->List b9
 |.Name x _=>[x]
 |.Tuple es _ _=>es.filterMap fun|.Name x _=>a7 x|_=>a8
 |_=>[]
noncomputable abbrev NX(N:List b9)(js:List Nat)(tg:ge):List b9:=tgN tg++js.map λj=>N.getD j ""
theorem k_lcN(hi:HI X tg iter di)(R:∀cl s0 H0 ex,HG (C5 X (NX X.N js tg) scope cl s0 H0 ex) tg g)(D:∀cl s0 H0 ex,OM (C5 X (NX X.N js tg) scope cl s0 H0 ex) ifs tt)(i:∀cl s0 H0 ex,HE (C5 X (NX X.N js tg) scope cl s0 H0 ex) elt te)(B:pE X.env.scope.names X.N (NX X.N js tg) nt js scope=a9:=by kernel_rfl) (f:X.calm=a9:=by kernel_rfl) (hs:∀x,j2 iter X.env x=pure x:=by intro _;kernel_rfl):HE X (.ListComp elt [⟨tg,iter,ifs,0⟩] scope pos) (F6 nt js di g tt te):=k_lc hi R D i B f hs
theorem tV(a:X.N.Nodup)(hi:HI X tg iter di)(R:∀cl s0 H0 ex,HG (C5 X (NX X.N js tg) scope cl s0 H0 ex) tg g)(D:∀cl s0 H0 ex,OM (C5 X (NX X.N js tg) scope cl s0 H0 ex) ifs tt)(e:∀cl s0 H0 ex,HE (C5 X (NX X.N js tg) scope cl s0 H0 ex) elt te)(B:pE X.env.scope.names X.N (NX X.N js tg) nt js scope=a9:=by kernel_rfl) (f:X.calm=a9:=by kernel_rfl) (hs:∀x,j2 iter X.env x=pure x:=by intro _;kernel_rfl) (w:i5 (.ListComp elt [⟨tg,iter,ifs,0⟩] scope pos) (a7<|.Name x pos') pos2.line X.env=pure a9:=by kernel_rfl)(h:X.N[i]?=a7 x:=by kernel_rfl) (c:IG X.env.scope x=a9:=by kernel_rfl) (b:X.fn x=a9:=by kernel_rfl):HS X (.Assign [.Name x pos'] (.ListComp elt [⟨tg,iter,ifs,0⟩] scope pos) pos2) (fQ nt js di g tt te i):=DH a hi R D e B f hs w h c b
theorem gA(h:HA X es t):HA X es t:=h
theorem gE(h:HE X e te):HE X e te:=h
theorem gCall(h:HE X (.Call a b c pos) te):HE X (.Call a b c pos) te:=h
theorem gIx(h:HE X (.Subscript a b pos) te):HE X (.Subscript a b pos) te:=h
theorem Lf(h:HE X (.Constant a b pos) te):HE X (.Constant a b pos) te:=h
theorem gT(h:HT X e tt):HT X e tt:=h
theorem gS{st:i3}{t:u3}(h:HS X st t):HS X st t:=h
theorem gOp(h:J5 X f r):J5 X f r:=h
theorem gC(h:HC X f r):HC X f r:=h
theorem HH{b:List i3}{st:i3}{s:List i3}{t:u3}(h:b=st::s)(q:HB X (st::s) t):HB X b t:=h ▸ q
section
variable{P:c8}{w:c7}{K:v4}{mg:b9->Option b8}{base:d6}{x:b9}{st:i3}{N ps:List b9}{k:Nat}{Pr:A2}{B:List b9}{C:List (b9×Int)}{t:u3}
theorem w6.byD(T:TopB mg B C)(F:cI K mg x st ps)(e:FnScope N ps (az st))(n:da Pr ps)(r:TopB mg B C->N.Nodup->DerT P w K mg base k x N st t)(p:∀ds M R,Pr ds M R->t (EE M R) (eO N ds) M):w6 P w K mg base (k+1) x ps Pr:=w6.byH F e n (r T e.nd) p
theorem En(T:TopB mg B C)(F:M9 K x x st f fd)(e:FnScope N ps (az st))(n:da Pr ps)(r:TopB mg B C->N.Nodup->DerT P w K mg base k x N st t)(p:∀ds M R,Pr ds M R->t (EE M R) (eO N ds) M):FnOk P w K mg base K9 (k+1) f fd ps (MY K Pr):=Em F e n (r T e.nd) p
end
structure R4(X:Cx)(pins:List (c9×d5))(H:Hp)(a:c9):Prop where
 un:H a=a8
 ne:a≠X.env.locals
 fs:a∉X.fs
 s0:X.s₀.heap.objs.size<=a
 cl:∀x c,X.env.cells.lookup x=a7 c->c≠a
 pn:∀p∈X.pn++pins,p.1≠a
structure KySt(X:Cx)(pins:List (c9×d5))(σ:St)(ρ:List c9)(M:u8)(m:b9->Option b8)(kS aD:c9)(e1:Nat)(H0 H:Hp)(s:f6)(ks:List b8)(e:Nat):Prop where
 inv:t9 X pins σ H s
 ns:s.heap.Ns X.env.locals m
 sm:w4 X.K ρ M H
 gr:Grow X.K ρ H0 ρ H
 hk:s.heap.get? kS=a7 (n6 "list" (PB ks) e)
 hd:s.heap.get? aD=a7 (n6 "list" #[] e1)
 ok:R4 X pins H kS
 od:R4 X pins H aD
 ne:aD≠kS
structure BlkScC(X:Cx)(N':List b9)(nt:Nat)(js:List Nat)(scope:f7):Prop where
 kind:scope.kind=.function
 kinds:∀y∈scope.names,scope.names.lookup y.1=a7 y.2
 free:∀y∈scope.names,y.2=.free->(X.env.kindOf y.1=a7 .cell\/X.env.kindOf y.1=a7 .free)
 len:N'.length=nt+js.length
 fr:∀(k j:Nat),js[k]?=a7 j->∃x,N'[nt+k]?=a7 x/\X.N[j]?=a7 x/\scope.names.lookup x=a7 .free/\(X.env.kindOf x=a7 .cell\/X.env.kindOf x=a7 .free)
structure CfOk(h:d6)(k:Nat)(names:List (b9×j9))(acc cs:List (b9×c9)):Prop where
 look:∀z c,cs.lookup z=a7 c->(acc.lookup z=a7 c/\(z,N4)∉names)\/((z,N4)∈names/\k<=c/\h.IsCell c a8)
 inj:∀y z c,cs.lookup y=a7 c->cs.lookup z=a7 c->y=z
 old:∀z c,acc.lookup z=a7 c->∃c',cs.lookup z=a7 c'
 new:∀z,(z,N4)∈names->∃c,cs.lookup z=a7 c
def Ih(i:Nat):Mh:=af i
noncomputable def Ii(kvs:List (D×D))(k:D):List (D×D):=kvs.filter λp=>!decide (p.1=k)
def rA(M:u8)(n:Nat)(kvs:List (D×D)):Prop:=M[n]?=a7 (.dkt kvs)\/∃e,M[n]?=a7 (.dkq e kvs)
theorem kG{α:Type}(f:α->D)(k:D):∀(l:List α) (j:Nat) (x:α),(l.map f).Nodup->l[j]?=a7 x->f x=k->l.eraseIdx j=l.filter λy=>!decide (f y=k)
 | [],j,x,_,h,_=>by simp at h
 |y::l,0,x,nd,h,e=>by
  obtain rfl:y=x:=by simpa using h
  rw[C2,J7]at nd;rw[List.eraseIdx_cons_zero,J3,p4<|by rw[e];simp];refine(QW.mpr λz hz=>?_).symm;have:f z≠k:=λq=>nd.1 (by rw[e,<-q];exact Mv hz);simp[this]
 |y::l,j+1,x,nd,h,e=>by
  rw[C2,J7]at nd;have hx:l[j]?=a7 x:=by simpa using h
  have:f y≠k:=λq=>nd.1 (by rw[q,<-e];exact Mv<|E9 hx);rw[Q4,J3,o8 (by simp[this]),kG f k l j x nd.2 hx e]
theorem tG{α β:Type}(f:α->β):∀(l:List α) (j:Nat),(l.eraseIdx j).map f=(l.map f).eraseIdx j
 | [],_=>rfl
 |_::_,0=>rfl
 |x::l,j+1=>by rw[Q4,C2,C2,Q4,tG f l j]
theorem vL{α:Type}(f:α->D)(k:D)(l:List α)(h:∀x∈l,f x≠k):l.filter (λy=>!decide (f y=k))=l:=QW.mpr λz b=>by simp[h z b]
theorem pY{α β:Type}{R:α->β->Prop}{p:α->Bool}{q:β->Bool}{xs:List α}{ys:List β}(r:Paired R xs ys)(h:∀x y,R x y->p x=q y):Paired R (xs.filter p) (ys.filter q):=by
 induction r with
 |nil=>exact .nil
 |@cons x y xs ys h1 t i=>rw[J3,J3,h _ _ h1];cases q y;exact i;exact .cons h1 i
theorem takeE(u:(aX prog w).room A)(t:(aX prog w).is s.heap k b)(q:s.heap.DictOfH (aX prog w) d xs) (x:dQ d e xs prog w s.heap) (hz:xs.length<=sizeLine)(a:(∀(j:Nat) (p:c9×b8),xs[j]?≠a7 (k,p))->Q a8 { s with toks:=s.toks+(aX prog w).draws k })(c:∀(j:Nat) (p:c9×b8),xs[j]?=a7 (k,p)->∀h',dQ d (e+1) (xs.eraseIdx j) prog w h'->G9 d s.heap h'->Q (a7 ⟨A9 w 8 k,.ref p.1,p.2⟩) { s with heap:=h',toks:=s.toks+(aX prog w).draws k }):f9 (g7 prog w) A (Builtin.Dict.takeOut d<|.ref b) Q E s:=by
 obtain⟨_,_,_,_,_,_,_,g,r⟩:=q;obtain⟨o,es,B,n,f,h⟩:=x;have m:es.toList=xs.map (d8<|aX prog w):=h;have v:es.size=xs.length:=size_of_entries m;unfold Builtin.Dict.takeOut
 try with_reducible refine E3 ?_
 refine t6<|(aX prog w).pyHash u t ?_;refine t6<|wpAny_dictFind_heap (s:={ s with toks:=s.toks+(aX prog w).draws k }) u t B f m g r (λi=>t8<|a i) λj p L=>?_;refine t6<|MN (s:={ s with toks:=s.toks+(aX prog w).draws k }) B f ?_;have z:es[j]?=a7 ⟨A9 w 8 k,.ref p.1,p.2⟩:=by rw[<-G5,h,C7,L];rfl
 rw[z];refine t6<|QX (hz:=by lia) (s:={ s with toks:=s.toks+(aX prog w).draws k }) B f<|t8<|c j p L _ ⟨_,es.eraseIdxIfInBounds j,L4 _ B<|O7<|Oc f _,n.mapDictKeys _,Oc f _,?_⟩<|L3 ..;have:(es.eraseIdxIfInBounds j).toList=es.toList.eraseIdx j:=by obtain⟨l⟩:=es;simp
 rw[this,h];exact(tG _ _ _).symm
theorem yg(a b:c9)(hs:(a==d7)=b7)(d:b8):MeetsIn prog w (Builtin.«dict.pop» ⟨[.ref a,.ref b,d],[]⟩) (λA R s=>(aX prog w).room A.in1/\∃k xs e,(aX prog w).is s.heap k b/\s.heap.DictOfH (aX prog w) a xs/\dQ a e xs prog w s.heap/\xs.length<=sizeLine /\ ((∀(j:Nat) (p:c9×b8),xs[j]?≠a7 (k,p))->∀t,s.toks<=t->R (.ok<|.ret d) { s with toks:=t }) /\∀(j:Nat) (p:c9×b8),xs[j]?=a7 (k,p)->∀h',dQ a (e+1) (xs.eraseIdx j) prog w h'->G9 a s.heap h'->R (.ok<|.ret p.2) { s with heap:=h',toks:=s.toks+(aX prog w).draws k }):=.of_wp λA R s ⟨u,k,xs,e,c,f,x,z,h1,h2⟩=>by
  obtain⟨o,es,B,n,g,i⟩:=id x;unfold Builtin.«dict.pop»;refine t6 ?_;unfold Sb;refine t6<|NV f.typeIs ?_;show f9 _ _ (pure (a,AB6 b,a7 d)) _ _ s;refine t8 ?_;have hp:(keyPart<|AB6 b).isSome=b7:=rfl;simp only[hp,A7,r9];refine t6<|MN B g<|t6<|t8 ?_;cases m:es.isEmpty;simp only[A7,r9];refine t6<|takeE u c f x z (λh=>?_) λj p L h' q U=>?_;simp only[Option.isNone_none,s9];unfold Sa;simp only[hs,A7,r9];exact t6<|t8<|t6<|F9<|t8 ⟨d,rfl,h1 h _<|PU _ _⟩;simp only[Option.isNone_some,A7,r9];exact t6<|wpAny_letGo<|t8 ⟨p.2,rfl,h2 j p L h' q U⟩;simp only[s9];have h:∀(j:Nat) (p:c9×b8),xs[j]?≠a7 (k,p):=by
   intro j p L;have:es.toList=[]:=by
    obtain⟨l⟩:=es;cases l with
    |nil=>rfl
    |cons _ _=>cases m
   rw[i]at this;rw[List.map_eq_nil_iff.mp this]at L;simp at L
  refine t6<|F9<|t6<|t8 ?_;simp only[Option.isNone_none,s9];unfold Sa;simp only[hs,A7,r9];exact t6<|t8<|t6<|F9<|t8 ⟨d,rfl,h1 h _<|v6 _⟩
section
variable{K:v4}{ρ:List c9}{H:Hp}{M:u8}{kvs:List (D×D)}{xs:List (D×c9×b8)}
theorem w4.writeQ(S:w4 K ρ M H)(t:ρ[n]?=a7 a)(s:rA M n kvs)(u:H a=a7 (.ext<|dQ a e xs))(w:kvs'.length<=sizeLine)(hs:(a==d7)=b7)(X:(kvs'.map (·.1)).Nodup)(r:Paired (rh K ρ H) kvs' xs'):w4 K ρ (M.set n<|.dkq e' kvs') (x3 H a<|.ext<|dQ a e' xs')/\Grow K ρ H ρ (x3 H a<|.ext<|dQ a e' xs'):=by
 have g:Grow K ρ H ρ (x3 H a<|.ext<|dQ a e' xs'):=⟨Nd,λ_ _ h=>B8.writtenX u h⟩
 have k:∀m,m≠n->(M.set n<|.dkq e' kvs')[m]?=M[m]?:=λm d=>MB<|z9 d;have c:¬L9 M[n]?:=λ⟨_,z⟩=>by rcases s with s|⟨_,s⟩<;>(rw[s]at z;cases z)
 refine⟨⟨λm l b i f N=>?_,by rw[NE];exact S.len,λm b o f N=>?_⟩,g⟩;have q:=S.nd m l b i f N;by_cases h1:m=n;subst h1;rw[k l<|z9 i];exact .inr<|q.resolve_left c;rw[k m h1];by_cases h2:l=n;subst h2;exact .inl<|q.resolve_right c;rw[k l h2];exact q;by_cases d:m=n;subst d;have j:b=a:=C3<|f.symm.trans t;subst j;rw[MX<|by rw[<-S.len];exact(A6.mp t).1]at N;cases N;refine⟨w,hs,X,xs',aP,Paired.mapP r ?_⟩;rintro _ _ ⟨x,y,A,v,B,C⟩;exact⟨x,y,A.grow g,v,B.grow g,C⟩;rw[k m d]at N;by_cases j:b=a;subst j;have p:=(S.nd m n b d f t).resolve_right c;rw[N]at p;exact(S.obj m b o f N).grow g<|.inr p;exact(S.obj m b o f N).grow g<|.inl<|ax j
theorem w4.asQ(S:w4 K ρ M H)(t:ρ[n]?=a7 a)(s:rA M n kvs):∃e,w4 K ρ (M.set n<|.dkq e kvs) H:=by
 have o:n<M.length:=by rw[<-S.len];exact(A6.mp t).1
 obtain⟨e,l⟩:∃e,kvs.length<=sizeLine/\(a==d7)=b7/\(kvs.map (·.1)).Nodup/\∃xs,H a=a7 (.ext<|dQ a e xs)/\Paired (rh K ρ H) kvs xs:=by
  rcases s with s|⟨e,s⟩
  obtain⟨h1,h2,i,xs,j,r⟩:=S.obj _ _ _ t s;exact⟨xs.length,h1,h2,i,xs,j,r⟩;exact⟨e,S.obj _ _ _ t s⟩
 have k:∀m,m≠n->(M.set n<|.dkq e kvs)[m]?=M[m]?:=λm d=>MB<|z9 d;have c:¬L9 M[n]?:=λ⟨_,z⟩=>by rcases s with s|⟨_,s⟩<;>(rw[s]at z;cases z)
 refine⟨e,λm g b h f N=>?_,by rw[NE];exact S.len,λm b p f N=>?_⟩;have q:=S.nd m g b h f N;by_cases h1:m=n;subst h1;rw[k g<|z9 h];exact .inr<|q.resolve_left c;rw[k m h1];by_cases h2:g=n;subst h2;exact .inl<|q.resolve_right c;rw[k g h2];exact q;by_cases d:m=n;subst d;rw[MX o]at N;cases N;obtain rfl:b=a:=C3<|f.symm.trans t;exact l;rw[k m d]at N;exact S.obj m b p f N
end
theorem uc(I:t9 X pins σ H s)(m:w4 X.K ρ M H)(e:ρ[n]?=a7 a)(h:rA M n kvs):∃xs ep,H a=a7 (.ext<|dQ a ep xs)/\Paired (rh X.K ρ H) kvs xs/\s.heap.DictOfH (aX X.prog X.w) a xs/\(a==d7)=b7/\kvs.length<=sizeLine/\xs.length=kvs.length/\(kvs.map (·.1)).Nodup:=by
 rcases h with h|⟨ep,h⟩
 obtain⟨xs,b,r⟩:=jD I m e h;exact⟨xs,xs.length,b,r⟩;obtain⟨h1,h2,c,xs,b,r⟩:=m.obj _ _ _ e h;obtain⟨⟨o,es,t,l,Q,J⟩,_⟩:=(show bJ X.prog X.w H s.heap a (.ext<|dQ a ep xs)from I.hok a _ b)
 have Z:=dB r;refine⟨xs,ep,b,r,⟨o,es,_,t,l,Q,J,λx d=>?_,by rw[Z];exact c⟩,h2,h1,?_,c⟩;obtain⟨i,hi⟩:=MP d;obtain⟨p,_,q,j,k,_⟩:=cy r hi;rw[<-q];exact cO I 8 _ _ _ k rfl j;have:=t4 L1 Z
 rwa [v7,v7]at this
theorem Ep(d:dQ a e xs P w h'):bJ P w H' h' a (.ext<|dQ a e xs):=by obtain⟨o,es,t,l,Q,J⟩:=d;refine⟨⟨o,es,t,l,Q,J⟩,⟨o,t⟩,?_⟩;rintro h1 h2 ⟨o,es,t,l,Q,J⟩ k;exact⟨o,es,k _ t,l,Q,J⟩
theorem Lx(I:t9 X pins σ H s)(h:H a=a7 (.ext<|dQ a e xs)):dQ a e xs X.prog X.w s.heap:=(show bJ X.prog X.w H s.heap a (.ext<|dQ a e xs)from I.hok a _ h).1
section
variable{X:Cx}{o:ge}{pos:Pos}{k:Nat}{name:b9}{id:String}{e:ge}{es:List ge}{to:x6}{t:Fn}{apos cpos:Pos}
def Rs(r:Nat->C6)(e:x6)(t:Fn):x6:=λS M Q=>e S M λx a=>match x with
 |.ref n=>(∃kvs,rA a n kvs)/\t S a λds M2=>r n ds M2 Q
 |_=>False
theorem d_mq(slot:Slot "dict" name id)(y:l8 (.builtin id)=pure (.type "method_descriptor"))(T:J1 X id (ig X.K r))(U:DE X o to)(P:DA X (e::es) t)(c:m3 o name X.env (eval o X.env)=eval o X.env:=by rfl)(f:((g9 cpos<|h7 (e::es) X.env).all (λx=>!x.1)&&(m5 cpos<|m6 [] X.env).all (λx=>x.1.isSome) && decide ((e::es).length+([]:List m7).length+(if ([]:List m7).isEmpty then 0 else 1)<30))=a9:=by rfl)(d:(apos.endLine==cpos.line)=a9:=by rfl) (hs:h7 (e::es) X.env=(b7,eval e X.env)::h7 es X.env:=by rfl) (h:(g9 cpos<|h7 es X.env).any (·.1)=b7:=by rfl):DE X (.Call (.Attribute o name apos) (e::es) [] cpos) (Rs r to t):=by
 rintro p s σ H R I ⟨S,M,ρ,Q,sm,G,q,W⟩;refine Qi c f d rfl<|w9 (U p s σ H _ I ⟨S,M,ρ,_,sm,G,q,λv H' z=>z⟩) ?_;rintro u s1 ⟨v,J,B,rv,x,i,m,j,g1,r1,g⟩;cases r1 with
 |@ref n a F =>
  cases rv;obtain⟨⟨kvs,O⟩,g⟩:=(show (∃kvs,rA i n kvs)/\t S i _ from g)
  obtain⟨xs,ep,hH,r,C,V,hl,hx,nd⟩:=uc B j F O;refine⟨"dict",id,Pc,slot,y,C.typeIs,λb z=>?_,?_⟩;cases z;obtain⟨Y,_,_,h1,h2,_⟩:=C;exact⟨Y,h1,h2.2.1⟩;have E:=P cpos p s1 σ J _ B ⟨S,i,m,_,j,G.grow g1,g,λvs H' z=>z⟩;rw[hs]at E ⊢;refine Od (by show (b7||(g9 cpos<|h7 es X.env).any (·.1))=b7;rw[h]<;>rfl)<|Qf ?_;refine w9 E ?_;rintro us s2 ⟨vs,L,N,k,ds,M2,A,l,D,rr,Z⟩;exact T p s2 σ L (.ref a) vs (.ref a) us R N rfl k ⟨n,a,ds,M2,A,Q,rfl,ao D.pre F,l,rr,Z,λv H' w=>W v H'<|VQ.trans (g1.trans D) w⟩
 |_=>exact g.elim
def CP(n:Nat):C6:=λds M Q=>match ds with
 | [.tup ks,d]=>∃kvs,rA M n kvs/\cL 8 (.tup ks)=a9/\∀e,Q ((aB kvs<|.tup ks).getD d)<|M.set n<|.dkq e<|Ii kvs<|.tup ks
 |_=>False
theorem GK(hr:Room k X.A):J1 X "dict.pop" (ig X.K CP):=by
 rintro T s σ H x xs v us R I rx rs ⟨n,a,ds,M,ρ,Q,ez,u,J,f,q,P⟩;have un:=hr.un;unfold CP at q;split at q;rename_i c d;obtain⟨kvs,l,kd,q⟩:=q;have z:=Reps.inv_cons f;clear f;obtain⟨_,_,rfl,r1,f⟩:=z;have z:=Reps.inv_cons f;clear f;obtain⟨_,_,rfl,r2,f⟩:=z;obtain rfl:=Reps.inv_nil f;obtain⟨u1,u2,rfl,Y,Z⟩:=aw.two rs;subst ez;cases rx;obtain⟨ys,O,i,r,N,U,hl,hx,S⟩:=uc I J u l;have g:=cO I 8 _ _ _ r1 Y kd;obtain⟨b,_,rfl,_⟩:=id g;have C:(ys.map (·.1)).Nodup:=by rw[dB r];exact S
 refine N3 PySem.F.slot_dict_pop N.typeIs PySem.F.entry_dict_pop (PySem.F.args_dict_pop_3 _ _ _) (yg a b U u2) ⟨by show X.A.units+1+8<j6;lia,.tup c,ys,O,g,N,Lx I i,by lia,λw t ht=>?_,λj p L h' V sb=>?_⟩;have h:∀x∈kvs,x.1≠D.tup c:=by
  intro x m B;have o:D.tup c∈ys.map (·.1):=by rw[dB r,<-B];exact Mv m
  obtain⟨y,hy,G⟩:=z5.mp o;obtain⟨j,L⟩:=MP hy;exact w j y.2<|by rw[L,<-G]
 have hg:aB kvs (.tup c)=a8:=by unfold aB;rw[P8.mpr λx m=>by simp[h x m]];rfl
 rw[hg,show Ii kvs (.tup c)=kvs from vL _ _ _ h]at q;obtain⟨e,sq⟩:=J.asQ u l;exact⟨_,H,I.tok _,Z,P _ _ ⟨d,_,ρ,sq,.refl,r2,q e⟩⟩;rcases nj r (.tup c)with⟨z1,z2⟩|⟨d',p',v',z1,z2,z3,z4⟩
 rw[OT C L]at z2;cases z2;rw[OT C L]at z2;cases z2;rw[z1]at q;have re:Paired (rh X.K ρ H) (Ii kvs<|.tup c) (ys.eraseIdx j):=by rw[kG (·.1) (.tup c) ys j _ C L rfl];exact pY r λx y E=>by rw[E.1]
 obtain⟨w1,W⟩:=J.writeQ (e':=O+1) u l i (F4 (Mn _ _) hl) U (S.sublist<|List.Sublist.map _ OD) re;have he:∃q,h'.get? a=a7 q:=let ⟨q,_,hq,_⟩:=V;⟨q,hq⟩
 exact⟨v',_,qP I (by rw[i];exact Nx) sb he<|Ep V,z4,P _ _ ⟨d',_,ρ,w1,W,z3.grow W,q _⟩⟩;exact q.elim
theorem Kx(i:Room k X.A)(B:HE X o to)(f:HA X (e::es) t)(h:m3 o "pop" X.env (eval o X.env)=eval o X.env:=by kernel_rfl)(w:((g9 cpos<|h7 (e::es) X.env).all (λx=>!x.1)&&(m5 cpos<|m6 [] X.env).all (λx=>x.1.isSome) && decide ((e::es).length+([]:List m7).length+(if ([]:List m7).isEmpty then 0 else 1)<30))=a9:=by kernel_rfl)(a:(apos.endLine==cpos.line)=a9:=by kernel_rfl) (hs:h7 (e::es) X.env=(b7,eval e X.env)::h7 es X.env:=by kernel_rfl) (n:(g9 cpos<|h7 es X.env).any (·.1)=b7:=by kernel_rfl):HE X (.Call (.Attribute o "pop" apos) (e::es) [] cpos) (Rs CP to t):=⟨d_mq PySem.F.slot_dict_pop PySem.F.type_dict_pop (GK i) B.ok f.ok h w a hs n⟩
end
def EH(t b:x6):x6:=λS M Q=>t S M λx a=>b S a λy M2=>match x,y with
 |.ref n,.tup ks=>∃kvs d,rA M2 n kvs/\cL 8 (.tup ks)=a9/\aB kvs (.tup ks)=a7 d/\Q d M2
 |_,_=>False
theorem LJ(T:Room k X.A)(P:DE X o td)(hi:DE X i ty)(hs:FI i):DE X (.Subscript o i pos) (EH td ty):=by
 rintro c s σ H R I ⟨S,M,ρ,Q,sm,F,q,W⟩;have un:=T.un;refine uS RX.lookup hs<|w9 (P c s σ H _ I ⟨S,M,ρ,_,sm,F,q,λv H' z=>z⟩) ?_;rintro u s1 ⟨v,G,K,rv,x,L,l,h,g1,r1,Y⟩;refine w9 (hi c s1 σ G _ K ⟨S,L,l,_,h,F.grow g1,Y,λv H' z=>z⟩) ?_;rintro iv s2 ⟨w,J,f,g,y,M2,m,e,C,r2,j⟩;cases x with
 |ref n =>
  cases y with
  |tup E =>
   obtain⟨kvs,d,N,V,D,Z⟩:=j;obtain⟨a,rfl,O⟩:=u5.inv_ref r1;obtain rfl:u=AB6 a:=rv;obtain⟨xs,ep,hH,r,B,U,hl,hx,_⟩:=uc f e (ao C.pre O) N;have t:=cO f 8 _ _ _ r2 g V;rcases nj r (.tup E)with⟨z,_⟩|⟨d',p,v',e1,e2,e3,e4⟩
   rw[D]at z;cases z;rw[D]at e1;cases e1;obtain⟨b,_,rfl,_⟩:=id t;refine⟨B.typeIs,wpAny_getItem_heap (knd:=aX X.prog X.w) (k:=.tup E) (by show X.A.units+1+8<j6;lia) t B e2 ⟨v',J,f.tok _,e4,W _ _ ⟨d,M2,m,e,g1.trans C,e3,Z⟩⟩⟩
  |_=>exact j.elim
 |_=>exact j.elim
theorem qL(I:t9 X pins σ H s)(b:H a=a7 (.ext<|dQ a ep xs)):∃es,cK s.heap a es ep/\es.size=xs.length/\∀(i:Nat) x,xs[i]?=a7 x->∃e,es[i]?=a7 e/\e.key=.ref x.2.1/\e.val=x.2.2:=by
 obtain⟨o,es,h1,h2,h,d⟩:=Lx I b;refine⟨es,⟨o,h1,h2,h⟩,?_,λi x c=>?_⟩;have:=t4 L1 d
 rwa [E2,v7]at this
 refine⟨⟨A9 X.w 8 x.1,.ref x.2.1,x.2.2⟩,?_,rfl,rfl⟩;rw[<-G5,d,C7,c];rfl
theorem KA(r:Room k X.A)(B:HE X o td)(hi:HE X i ty)(hs:FI i:=by intro _ _;kernel_rfl):HE X (.Subscript o i pos) (EH td ty):=⟨LJ r B.ok hi.ok hs⟩
theorem lH{K:v4}{ρ:List c9}{H:Hp}:∀{kvs:List (b9×D)}{vs:List V},Reps K ρ H (kvs.map (·.2)) vs->fU kvs k=a8->wa (iX (kvs.map (·.1)) vs) (ABm k)=a8
 | [],_,_,_=>by rfl
 |(k',d')::kvs,_,.cons (v:=v) (vs:=vs) h t,e=>by
  have hk:k'≠k:=λz=>by subst z;simp[fU]at e
  have e':fU kvs k=a8:=by
   have:fU ((k',d')::kvs) k=fU kvs k:=by simp[fU,hk]
   rw[<-this];exact e
  have q:=lH t e';show wa ((ABm k',v)::iX (kvs.map (·.1)) vs) (ABm k)=a8;rw[pK<|λz=>hk<|by injection z];exact q
def Pm(r:Nat->C6)(e:x6)(t:Fn):x6:=λS M Q=>e S M λx a=>match x with
 |.ref n=>(∃kvs,a[n]?=a7 (.dct kvs))/\t S a λds M2=>r n ds M2 Q
 |_=>False
theorem d_mk{X:Cx}{o:ge}{name:b9}{id:String}{e:ge}{es:List ge}{N:x6}{t:Fn}{d c:Pos}(slot:Slot "dict" name id)(y:l8 (.builtin id)=pure (.type "method_descriptor"))(Y:J1 X id (ig X.K r))(Z:DE X o N)(W:DA X (e::es) t)(f:m3 o name X.env (eval o X.env)=eval o X.env:=by rfl)(i:((g9 c<|h7 (e::es) X.env).all (λx=>!x.1)&&(m5 c<|m6 [] X.env).all (λx=>x.1.isSome) && decide ((e::es).length+([]:List m7).length+(if ([]:List m7).isEmpty then 0 else 1)<30))=a9:=by rfl)(g:(d.endLine==c.line)=a9:=by rfl) (hs:h7 (e::es) X.env=(b7,eval e X.env)::h7 es X.env:=by rfl) (h:(g9 c<|h7 es X.env).any (·.1)=b7:=by rfl):DE X (.Call (.Attribute o name d) (e::es) [] c) (Pm r N t):=by
 rintro p s σ H R I ⟨S,M,ρ,Q,sm,L,q,kk⟩;refine Qi f i g rfl<|w9 (Z p s σ H _ I ⟨S,M,ρ,_,sm,L,q,λv H' z=>z⟩) ?_;rintro u s1 ⟨v,O,D,rv,x,l,B,j,g1,r1,k⟩;cases r1 with
 |@ref n a J =>
  cases rv;obtain⟨⟨kvs,V⟩,k⟩:=(show (∃kvs,l[n]?=a7 (.dct kvs))/\t S l _ from k)
  obtain⟨ws,U,_⟩:=j.obj _ _ _ J V;obtain⟨z1,z2,ai,aj,E⟩:=Ie D.hok U;refine⟨"dict",id,Pc,slot,y,E.typeIs,λb z=>?_,?_⟩;cases z;obtain⟨ob,_,_,h1,h2,_⟩:=E;exact⟨ob,h1,h2.2.1⟩;have G:=W c p s1 σ O _ D ⟨S,l,B,_,j,L.grow g1,k,λvs H' z=>z⟩;rw[hs]at G ⊢;refine Od (by show (b7||(g9 c<|h7 es X.env).any (·.1))=b7;rw[h]<;>rfl)<|Qf ?_;refine w9 G ?_;rintro us s2 ⟨vs,P,T,m,ds,M2,C,A,F,rr,q2⟩;exact Y p s2 σ P (.ref a) vs (.ref a) us R T rfl m ⟨n,a,ds,M2,C,Q,rfl,ao F.pre J,A,rr,q2,λv H' w=>kk v H'<|VQ.trans (g1.trans F) w⟩
 |_=>exact k.elim
def wK(n:Nat):C6:=λds M Q=>match ds with
 | [.str x,d]=>∃kvs,M[n]?=a7 (.dct kvs)/\Q ((fU kvs x).getD d) M
 |_=>False
theorem Ds{X:Cx}:J1 X "dict.get" (ig X.K wK):=by
 rintro p s σ H x xs v us R I F E ⟨n,a,ds,M,ρ,Q,j,y,m,f,q,D⟩;unfold wK at q;split at q;rename_i x d;obtain⟨kvs,u,q⟩:=q;have z:=Reps.inv_cons f;clear f;obtain⟨_,_,rfl,B,f⟩:=z;have z:=Reps.inv_cons f;clear f;obtain⟨_,_,rfl,C,f⟩:=z;obtain rfl:=Reps.inv_nil f;obtain rfl:=u5.inv_str B;obtain⟨P,G,rfl,t,g⟩:=aw.two E;subst j;obtain rfl:v=AB6 a:=F;obtain⟨L,o,r⟩:=m.obj _ _ _ y u;obtain⟨N,J,A,l,e⟩:=Ie I.hok o;refine N3 O9 e.typeIs RL (RP _ _ _) (meets_dict_get_default (bL X.prog X.w) a (AM (k:=ABm x) t) J G) ⟨_,e.mapOf,?_⟩;cases c:fU kvs x with
 |none=>rw[c]at q;exact⟨_,H,I.tok _,(by have:=(l.val<|ABm x).getD g;rw[lH r c]at this;exact this),D _ _ ⟨d,M,ρ,m,.refl,C,q⟩⟩
 |some h=>rw[c]at q;obtain⟨Y,i,b⟩:=jc r c;exact⟨_,H,I.tok _,(by have:=(l.val<|ABm x).getD g;rw[i]at this;exact this),D _ _ ⟨h,M,ρ,m,.refl,b,q⟩⟩
 exact q.elim
def wJ(n:Nat):C6:=λds M Q=>match ds with
 | [.str x,d]=>∃kvs,M[n]?=a7 (.dct kvs)/\kvs.length<sizeLine/\(∀y,fU kvs x=a7 y->Q y M)/\(fU kvs x=a8->Q d (M.set n<|.dct<|kX kvs x d))
 |_=>False
theorem Dr:J1 X "dict.setdefault" (ig X.K wJ):=by
 rintro C s σ H x xs v us R I rx rs ⟨n,a,ds,M,ρ,Q,P,B,o,f,q,D⟩;unfold wJ at q;split at q;rename_i x d;obtain⟨kvs,y,hl,W,Y⟩:=q;have z:=Reps.inv_cons f;clear f;obtain⟨_,_,rfl,Z,f⟩:=z;have z:=Reps.inv_cons f;clear f;obtain⟨_,vd,rfl,E,f⟩:=z;obtain rfl:=Reps.inv_nil f;obtain rfl:=u5.inv_str Z;obtain⟨u1,G,rfl,N,u⟩:=aw.two rs;subst P;obtain rfl:v=AB6 a:=rx;obtain⟨ws,j,r⟩:=o.obj _ _ _ B y;obtain⟨z1,L,A,l,t⟩:=Ie I.hok j;refine N3 Rf t.typeIs PySem.F.entry_dict_setdefault (PySem.F.args_dict_setdefault_3 _ _ _) (kt_meets_setdefault (bL X.prog X.w) a (AM (k:=ABm x) N) L G) ⟨A,t,by rw[<-l.length];exact z1,λw' h=>?_,λh h' b sb=>?_⟩;cases c:fU kvs x with
 |none=>have:=l.val<|ABm x;rw[lH r c,h]at this;exact this.elim
 |some p=>obtain⟨w0,i,e⟩:=jc r c;have:=l.val<|ABm x;rw[i,h]at this;exact⟨_,H,I.tok _,this,D _ _ ⟨p,M,ρ,o,.refl,e,W _ c⟩⟩
 cases c:fU kvs x with
 |some p=>obtain⟨w0,i,e⟩:=jc r c;have:=l.val<|ABm x;rw[i,h]at this;exact this.elim
 |none =>
  obtain⟨g,S,O⟩:=zO (k:=x) E r;obtain⟨w1,J⟩:=o.writeD B y j O;have T:∃q,h'.get? a=a7 q:=let ⟨q,_,_,hq,_⟩:=b;⟨q,hq⟩
  have lw:=r.length;have m:KV (iX ((kX kvs x d).map (·.1)) g) (stored A (ABm x) G):=by rw[<-S];exact l.put (ABm x) u
  have V:(iX ((kX kvs x d).map (·.1)) g).length<=sizeLine:=by
   have U:=O.length;have l2:(kX kvs x d).length<=kvs.length+1:=by unfold kX;split<;>simp
   rw[v7]at U;rw[iX,v7,QB,v7];lia
  exact⟨_,_,qP I (by rw[j];exact Nx) sb T<|FE V L m b,u,D _ _ ⟨d,_,ρ,w1,J,E.grow J,Y c⟩⟩
 exact q.elim
theorem Hm(B:HE X o to)(f:HA X (e::es) t)(h:m3 o "get" X.env (eval o X.env)=eval o X.env:=by kernel_rfl)(w:((g9 cpos<|h7 (e::es) X.env).all (λx=>!x.1)&&(m5 cpos<|m6 [] X.env).all (λx=>x.1.isSome) && decide ((e::es).length+([]:List m7).length+(if ([]:List m7).isEmpty then 0 else 1)<30))=a9:=by kernel_rfl)(a:(apos.endLine==cpos.line)=a9:=by kernel_rfl) (hs:h7 (e::es) X.env=(b7,eval e X.env)::h7 es X.env:=by kernel_rfl) (n:(g9 cpos<|h7 es X.env).any (·.1)=b7:=by kernel_rfl):HE X (.Call (.Attribute o "get" apos) (e::es) [] cpos) (Pm wK to t):=⟨d_mk O9 RF Ds B.ok f.ok h w a hs n⟩
theorem Hl(B:HE X o to)(f:HA X (e::es) t)(h:m3 o "setdefault" X.env (eval o X.env)=eval o X.env:=by kernel_rfl)(w:((g9 cpos<|h7 (e::es) X.env).all (λx=>!x.1)&&(m5 cpos<|m6 [] X.env).all (λx=>x.1.isSome) && decide ((e::es).length+([]:List m7).length+(if ([]:List m7).isEmpty then 0 else 1)<30))=a9:=by kernel_rfl)(a:(apos.endLine==cpos.line)=a9:=by kernel_rfl) (hs:h7 (e::es) X.env=(b7,eval e X.env)::h7 es X.env:=by kernel_rfl) (n:(g9 cpos<|h7 es X.env).any (·.1)=b7:=by kernel_rfl):HE X (.Call (.Attribute o "setdefault" apos) (e::es) [] cpos) (Pm wJ to t):=⟨d_mk Rf PySem.F.type_dict_setdefault Dr B.ok f.ok h w a hs n⟩
noncomputable def iS(ps:List (b9×D)):List (b9×D):=ps.foldl (λkvs p=>kX kvs p.1 p.2) []
theorem pz:iS (ps++[p])=kX (iS ps) p.1 p.2:=by unfold iS;rw[List.foldl_append];rfl
theorem ud(ps:List (b9×D)):(iS ps).length<=ps.length:=by
 have:∀(ps acc:List (b9×D)),(ps.foldl (λkvs p=>kX kvs p.1 p.2) acc).length<=acc.length+ps.length:=by
  intro ps;induction ps with
  |nil=>intro acc;exact v6 _
  |cons p ps i=>intro acc;have h1:=i<|kX acc p.1 p.2;have h2:=wM (kvs:=acc) (k:=p.1) (d:=p.2);rw[List.foldl_cons,C0];lia
 have h:=this ps [];rw[D6]at h;unfold iS;lia
def OP(X:Cx)(ρ:List c9)(H:Hp)(h:d6)(a:c9)(kvs:List (b9×D)):Prop:=∃s us,Reps X.K ρ H (kvs.map (·.2)) s/\KV (iX (kvs.map (·.1)) s) us/\h.DictOf (bL X.prog X.w) a us
theorem OP.at(x:OP X ρ H h a kvs)(k:∀o,h.get? a=a7 o->h'.get? a=a7 o):OP X ρ H h' a kvs:=by obtain⟨s,us,r,l,o,es,i,t,aM⟩:=x;exact⟨s,us,r,l,o,es,i,k _ t,aM⟩
theorem Ft{X:Cx}{H:Hp}{ρ:List c9}{kvs:List (b9×D)}{s:List V}{us:List (E1×b8)}(r:Reps X.K ρ H (kvs.map (·.2)) s)(l:KV (iX (kvs.map (·.1)) s) us):us.length=kvs.length/\(iX (kvs.map (·.1)) s).length=kvs.length:=by
 have t:=r.length;have e:=l.length;rw[v7]at t;have Q:(iX (kvs.map (·.1)) s).length=kvs.length:=by rw[iX,v7,QB,v7];lia
 lia
theorem HV{X:Cx}{pins:List (c9×d5)}{σ:St}{H:Hp}{ρ:List c9}{A:e8}{s:f6}(I:t9 X pins σ H s)(hu:A.units+20<j6)(W:Walks X.prog X.w A.in1 J fp wr m P Sx)(S:c9)(l:S∉fp)(L:s.heap.get? S=a8) (B:∀b∈wr,s.heap.get? b=a8) (ps:List (b9×D)) (hm:ps.length=m) (y:∀i v,P i v->∃p:b9×D,ps[i]?=a7 p/\∃vv,u5 X.K ρ H (.tup [.str p.1,p.2]) vv/\aL vv v) (Q:m<=1000):∀(k i:Nat) (h:d6) (tk:Nat) (j:Int) (t:Tok),m-i=k->i<=m->Sx i h->OP X ρ H h S (iS<|ps.take i)->(∀b u,s.heap.get? b=a7 u->h.get? b=a7 u) ->(∀h' tk,(∀b u,s.heap.get? b=a7 u->h'.get? b=a7 u)->OP X ρ H h' S (iS ps)->R (.ok<|.ret .none) { s with heap:=h',toks:=tk }) ->j8 (g7 X.prog X.w) A (.builtin "dict.update.loop" ⟨[.ref S,.ref J,.int j t,.none],[]⟩) R { s with heap:=h,toks:=tk }:=by
 have n:S∉wr:=λh=>l<|W.sub _ h;intro k;induction k with
 |zero =>
  intro i h tk j t hk hi g F c Z;obtain rfl:i=m:=by lia
  refine NC jA ?_;rw[NU bU _];refine(show f9 (g7 X.prog X.w) A.in1 (i8 (.ref J) >>= _) _ _ _ from t6<|W.done _ _ _ g λh' tk d=>?_);rw[<-hm,Mu]at F;refine(show f9 (g7 X.prog X.w) A.in1 (Builtin.Dict.addKeywords S [] >>= _) _ _ _ from t6<|t8<|t8 ?_);exact Z h' tk (λb u e=>d b u (λz=>by rw[B b z]at e;cases e)<|c b u e)<|F.at λo e=>d S o n e
 |succ k ih =>
  intro i h tk j t hk hi g F c Z;refine NC jA ?_;rw[NU bU _];refine(show f9 (g7 X.prog X.w) A.in1 (i8 (.ref J) >>= _) _ _ _ from t6<|W.item i _ _ _ (by lia) g λv h' tk hP q d=>?_);obtain⟨p,hp,vv,r,rv⟩:=y i v hP;have f:∀b u,s.heap.get? b=a7 u->h'.get? b=a7 u:=λb u e=>d b u (λz=>by rw[B b z]at e;cases e)<|c b u e;have I':t9 X pins σ H { s with heap:=h',toks:=tk }:=I.kept f;obtain⟨ws,us,Y,C,dd⟩:=F.at λo e=>d S o n e;have hl:=(Ft Y C).1;have dl:=ud<|ps.take i;rw[K5]at dl;obtain⟨a,vs,rfl,hq,E⟩:=u5.inv_tup r;obtain rfl:v=AB6 a:=rv;obtain⟨_,_,rfl,r1,E⟩:=Reps.inv_cons E;obtain⟨_,vd,rfl,r2,E⟩:=Reps.inv_cons E;obtain rfl:=Reps.inv_nil E;obtain rfl:=u5.inv_str r1;obtain⟨its,U,pl,hz⟩:=I'.tuple hq;obtain⟨u1,u2,rfl,e1,e2⟩:=aw.two U;obtain⟨x,d0⟩:=p;obtain⟨o,T,hc,nn,hd⟩:=pl;have hT:({ s with heap:=h',toks:=tk }:f6).TypeIs (.ref a) "tuple":=⟨o,T,hc⟩
  refine t6<|E3<|t6<|wpAny_tryCatch ?_;unfold Builtin.Dict.pairItems;refine t6<|No hT ?_;rw[o8<|by decide];refine t6<|Mt T hd<|t8 ?_;refine(show f9 (g7 X.prog X.w) _ (i4 [u1,u2]<|dictSet S u1 u2) _ _ _ from E3 ?_);refine wpAny_dictSet_pairs (s:={ s with heap:=h',toks:=tk }) (AM (k:=ABm x) e1) dd (λh2 G sb=>?_) (aq<|by lia);have V:∀b u,b≠S->h'.get? b=a7 u->h2.get? b=a7 u:=λb u Q e=>(sb.2 b Q).trans e;obtain⟨N,f1,O⟩:=zO (k:=x) r2 Y;have et:ps.take (i+1)=ps.take i++[(x,d0)]:=by rw[Mz,hp];rfl
  refine t8 ⟨NA bU _,ih (i+1) h2 _ _ _ (by lia) (by lia) (W.frame _ h' h2 q λb' M o e=>V b' o (λz=>l<|z ▸ M) e) ?_ (λb u e=>V b u (λz=>by rw[z,L]at e;cases e)<|f b u e) Z⟩;rw[et,pz];exact⟨N,_,O,by rw[<-f1];exact C.put (ABm x) e2,G⟩
theorem ET(I:t9 X pins σ H s)(Z:A.units+30<j6)(B:A.handled=a8)(C:s.heap.IsTuple l its)(f:s.heap.get? l=a7 ol)(t:ol.dict=a8)(ps:List (b9×D))(R:ps.length=its.size)(y:∀(i:Nat) v,its[i]?=a7 v->∃p:b9×D,ps[i]?=a7 p/\∃vv,u5 X.K ρ H (.tup [.str p.1,p.2]) vv/\aL vv v) (O:its.size<=1000)(h:∀h' tk,(∀b u,s.heap.get? b=a7 u->h'.get? b=a7 u)->OP X ρ H h' s.heap.objs.size (iS ps)->Q (.ref s.heap.objs.size) { s with heap:=h',toks:=tk }):f9 (g7 X.prog X.w) A (call (.type "dict") [.ref l]) Q E s:=by
 refine callType_codes (Q₁:=λj s₁=>j=.ref s.heap.objs.size/\s₁={ s with heap:=s.heap.push { cls:=.type "dict",data:=.dict #[] } }) RJ (RZ _) RO (kt_code_dict_new _ ⟨rfl,rfl⟩) ?_;rintro j s₁ ⟨rfl,rfl⟩;have S:(s.heap.push { cls:=.type "dict",data:=.dict #[] }).get? s.heap.objs.size=a7 { cls:=.type "dict",data:=.dict #[] }:=A8 _ rfl;have z:Np { s with heap:=s.heap.push { cls:=.type "dict",data:=.dict #[] } } (.ref s.heap.objs.size) "dict":=⟨_,S,rfl⟩
 obtain⟨a,N,r,nn,m⟩:=id C;obtain rfl:a=ol:=C3<|N.symm.trans f;have c:(s.heap.push { cls:=.type "dict",data:=.dict #[] }).get? l=a7 a:=x5 _ f;have L:Np { s with heap:=s.heap.push { cls:=.type "dict",data:=.dict #[] } } (.ref l) "tuple":=⟨a,c,r⟩
 have V:l<s.heap.objs.size:=z6 f;refine⟨z,RT _ _,?_⟩;unfold Builtin.«dict.__init__»;refine t6 ?_;unfold RS;refine t6<|NV z ?_;refine(show f9 _ _ (pure (s.heap.objs.size,[AB6 l])) _ _ _ from t8 ?_);refine(show f9 _ _ (Pb "dict.__init__" s.heap.objs.size (.ref l) [] .none) _ _ _ from ?_);unfold Pb;refine t6<|No L ?_;rw[o8<|by decide];refine t6<|om c r t m (by simpa using B) λh1 x F=>?_;have k:∀b u,s.heap.get? b=a7 u->h1.get? b=a7 u:=λb u e=>F b u<|x5 _ e;rw[o8<|show (a8:Option b8).isNone=a9 from rfl];refine t6<|F9 ?_;obtain⟨oI,St,n,W,Y⟩:=(TxSrc.tuple (prog:=X.prog) (w:=X.w) C).iter A.in1.in1 { s with heap:=h1,toks:=x } (by simpa using B) λo e=>k _ _ e;refine t6<|n _ _ ?_;have d:=F _ _ S;have J:s.heap.objs.size<h1.objs.size:=z6 d;have G:s.heap.get? s.heap.objs.size=a8:=by
  cases q:s.heap.get? s.heap.objs.size with
  |none=>rfl
  |some o=>exact p7 (z6 q)<|G0 _
 refine t8 ⟨NA bU _,HV (A:=A.in1) (s:=s) I (by show A.units+1+20<j6;lia) W s.heap.objs.size ?_ G ?_ ps R y O its.size 0 _ _ _ _ rfl (B5 _) Y ⟨[],[],.nil,.nil,_,#[],_,x5 _ d,⟨rfl,rfl,rfl⟩,rfl,(λ_ P=>by simp at P),Pairs.nil,Ov⟩ (λb u e=>x5 _<|k b u e) λh2 T U M=>⟨rfl,h h2 T U M⟩⟩;simp only[A1,ML,or_false,not_or];exact⟨A4 J,Na V⟩;intro b g;rw[I9.mp g];cases q:s.heap.get? h1.objs.size with
 |none=>rfl
 |some o=>exact p7 (PC (z6 q) J)<|G0 _
def wI:C6:=λds M Q=>match ds with
 | [.tup xs]=>∃ps:List (b9×D),xs=ps.map (λp=>.tup [.str p.1,p.2])/\ps.length<=1000/\Q (.ref M.length) (M++[.dct<|iS ps])
 |_=>False
theorem ES(G:Room k X.A)(D:X.calm=a9):iW X (.type "dict") wI:=by rintro n s σ H vs us R I P ⟨ds,M,ρ,Q,B,c,q,K⟩;have un:=G.un;unfold wI at q;split at q;obtain⟨ps,L,V,q⟩:=q;have z:=Reps.inv_cons c;clear c;obtain⟨_,_,rfl,j,c⟩:=z;obtain rfl:=Reps.inv_nil c;obtain⟨u,rfl,t⟩:=aw.one P;subst L;obtain⟨a,ws,rfl,F,r⟩:=u5.inv_tup j;cases t;obtain⟨its,y,x,W⟩:=I.tupN F;obtain⟨oa,g,E,⟨nn,h⟩,b⟩:=id x;have O:=r.length;have li:=y.length;rw[v7]at O;have f:H s.heap.objs.size=a8:=I.hok.fresh<|v6 _;have C:(s.heap.objs.size==d7)=b7:=beq_eq_false_iff_ne.mpr<|z9<|A4 I.big;refine ET (A:=X.A) (ρ:=ρ) I (by lia) (I.ok.hd D) x.tup g b ps (by rw[A5];lia) (λi v J=>?_) (by rw[A5];lia) λh' S N e=>?_;obtain⟨d,Z,t,j,m⟩:=lG r y (i:=i) (u:=v) (by simpa using J);rw[C7]at t;obtain⟨p,hp,rfl⟩:=MQ.mp t;exact⟨p,hp,Z,j,m⟩;obtain⟨w,T,U,l,e⟩:=e;have Y:=ud ps;have ln:=(Ft U l).2;refine⟨.ref s.heap.objs.size,_,I.laid (a:=s.heap.objs.size) (o:=.dK (iX ((iS ps).map (·.1)) w)) (t':=S) N (v6 _)<|FE (aq<|by lia) C l e,rfl,?_⟩;exact K _ _ ⟨.ref M.length,M++[.dct<|iS ps],ρ++[s.heap.objs.size],B.laidM (mo:=.dct<|iS ps) f ⟨w,aP,U.grow<|Grow.laidR f⟩,Grow.laidR f,.ref B.last,q⟩;exact q.elim
theorem Ek(i:Room k X.A)(f:X.calm=a9:=by kernel_rfl):HC X (.type "dict") wI:=⟨ES i f⟩
end L2
namespace L2
open PySem PySem.Spec PyProof.Rows DL
def GtAt(A:e8)(s:f6)(x y:b8)(k:Bool):Prop:=∀(g:c8) (w:c7) (E:b8->f6->Prop) (Q:b8->f6->Prop),Q (.bool k) s->f9 (g7 g w) A (richCompare .Gt x y) Q E s
inductive GexAt(A:e8)(s:f6):List b8->List b8->Bool->Prop
 |nn:GexAt A s [] [] b7
 |nc {y:b8}{ys:List b8}:GexAt A s [] (y::ys) b7
 |cn {x:b8}{xs:List b8}:GexAt A s (x::xs) [] a9
 |eq {x y:b8}{xs ys:List b8}{k:Bool} (h:MG A s x y a9) (t:GexAt A s xs ys k):GexAt A s (x::xs) (y::ys) k
 |ne {x y:b8}{xs ys:List b8}{k:Bool} (h:MG A s x y b7) (t:GtAt A s x y k):GexAt A s (x::xs) (y::ys) k
section
variable{prog:c8}{w:c7}{A:e8}{E:b8->f6->Prop}{s:f6}{d:c9}{o:d5}{es:Array m8}{ep:Nat}{xs:List (D×b8×b8)}{k:D}{key:b8}{hs:D->Int}{Q:Option Nat->f6->Prop}
theorem qN(i:es.toList=xs.map (Bq hs))(j:Nat):es[j]?=(xs[j]?).map (Bq hs):=by rw[<-G5,i,C7]
def BZ(xs:List (D×b8×b8))(k:D)(i:Nat)(h:Option Nat):Prop:=(h=a8/\∀j p,j<i->xs[j]?≠a7 (k,p))\/∃j p,h=a7 j/\j<i/\xs[j]?=a7 (k,p)
noncomputable def pM(es:Array m8)(h:Int)(i:Nat):Bool:=(es[i]?.map (·.hash))==a7 h
theorem jd(e:es.toList=xs.map (Bq hs))(a:∀j,i<=j->j<x->pM es (hs k) j=b7)(h:BZ xs k i hit)(d:i<=x):BZ xs k x hit:=by
 rcases h with⟨c,o⟩|⟨j,p,h1,f,L⟩
 refine .inl ⟨c,λj p b L=>?_⟩;rcases Mx j i with h|h;exact o j p h L;have:=a j h b;unfold pM at this;rw[qN e j,L]at this;simp[Bq]at this;exact .inr ⟨j,p,h1,by lia,L⟩
theorem bO(h:BZ xs k x hit)(c:xs[x]?=a7 (k',p'))(e:¬k'=k):BZ xs k (x+1) hit:=by
 rcases h with⟨a,o⟩|⟨j,p,h1,b,L⟩
 refine .inl ⟨a,λj p b L=>?_⟩;rcases Mx j x with h|h;exact o j p h L;obtain rfl:j=x:=by lia
 rw[c]at L;exact e (by injection L with L;injection L);exact .inr ⟨j,p,h1,by lia,L⟩
theorem gP(f:(xs.map (·.1)).Nodup){i j:Nat}{p q:b8×b8}(hi:xs[i]?=a7 (k,p))(hj:xs[j]?=a7 (k,q)):i=j:=by
 have h:(xs.map (·.1))[i]?=a7 k:=by rw[C7,hi];rfl
 have a:(xs.map (·.1))[j]?=a7 k:=by rw[C7,hj];rfl
 exact(List.getElem?_inj (A6.mp h).1 f).mp<|h.trans a.symm
theorem pL(e:es.toList=xs.map (Bq hs))(r:(Os i<|es.size-i).filter (pM es<|hs k)=[])(h:BZ xs k i hit):BZ xs k xs.length hit:=by
 have z:es.size=xs.length:=by rw[<-E2,e,v7]
 rcases Mx i xs.length with hi|hi;refine jd e (λj h1 h2=>?_) h<|NN hi;have:=List.filter_eq_nil_iff.mp r j<|List.mem_range'_1.mpr ⟨h1,by lia⟩;simpa using this;rcases h with⟨a,o⟩|⟨j,p,h1,f,L⟩
 exact .inl ⟨a,λj p L=>o j p<|by lia⟩;exact .inr ⟨j,p,h1,(A6.mp L).1,L⟩
theorem oo{d:List b8}{Q:Bool->f6->Prop}(k:∀(Q:Bool->f6->Prop) (E:b8->f6->Prop),Q a9 s->f9 (g7 prog w) A (o6 8 key) Q E s)(qs:∀v∈d,∀(Q:Bool->f6->Prop) (E:b8->f6->Prop),Q a9 s->f9 (g7 prog w) A (o6 8 v) Q E s) (h:Q b7 s):f9 (g7 prog w) A (tableMayTell key d) Q E s:=by unfold tableMayTell;split;exact t8 h;refine t6<|k _ _ ?_;simp only[MI,A7,r9];refine t6 ?_;refine Nf _ (λaM r s'=>s'=s/\r=(a8,())/\∀v∈aM,v∈d) _ ?_ ?_ _ _ ⟨rfl,rfl,λ_ c=>c⟩;rintro x aM r s' ⟨rfl,rfl,i⟩;refine t6<|qs x (i x D3) _ _ ?_;simp only[MI,A7,r9];exact t8 ⟨rfl,rfl,λv c=>i v<|C4 _ c⟩;rintro r s' ⟨rfl,rfl,_⟩;exact t8 h
theorem Eo(S:s.heap.get? d=a7 o)(N:o.data=.dict es ep)(G:es.toList=xs.map (Bq hs))(hn:(xs.map (·.1)).Nodup)(kk:key=.none\/∃a,key=.ref a)(qk:∀(Q:Bool->f6->Prop) (E:b8->f6->Prop),Q a9 s->f9 (g7 prog w) A (o6 8 key) Q E s)(qx:∀x∈xs,∀(Q:Bool->f6->Prop) (E:b8->f6->Prop),Q a9 s->f9 (g7 prog w) A (o6 8 x.2.1) Q E s)(aj:∀x∈xs,x.2.1=key->x.1=k)(X:∀x∈xs,∀(Q:Bool->f6->Prop) (E:b8->f6->Prop),Q (decide<|x.1=k) s->f9 (g7 prog w) A (eqBool x.2.1 key) Q E s)(R:(∀(j:Nat) (p:b8×b8),xs[j]?≠a7 (k,p))->Q a8 s) (n:∀(j:Nat) (p:b8×b8),xs[j]?=a7 (k,p)->Q (a7 j) s):f9 (g7 prog w) A (dictFind d key<|hs k) Q E s:=by
 have ai:es.size=xs.length:=by rw[<-E2,G,v7]
 have K:∀e∈es,∃x∈xs,e=Bq hs x:=by intro e P;have:e∈xs.map (Bq hs):=G ▸ Array.mem_toList_iff.mpr P;obtain⟨x,T,rfl⟩:=z5.mp this;exact⟨x,T,rfl⟩
 have V:¬(es.any λe=>e.key==key&&e.hash != hs k)=a9:=by rw[<-Array.any_toList,MK];rintro⟨e,P,hc⟩;obtain⟨x,T,rfl⟩:=K e<|Array.mem_toList_iff.mp P;simp only[Bq,E4,p9,bne_iff_ne,ne_eq]at hc;exact hc.2<|by rw[aj x T hc.1]
 have Z:∀v∈(o7 es.size (λi=>es[i]?.map (·.hash))<|hs k).filterMap (λi=>es[i]?.map (·.key)),∃x∈xs,v=x.2.1:=by
  intro v hv;obtain⟨i,_,hi⟩:=Qa.mp hv;cases O:es[i]? with
  |none=>rw[O]at hi;cases hi
  |some e =>
   rw[O]at hi;obtain rfl:e.key=v:=by simpa using hi
   obtain⟨x,T,rfl⟩:=K e<|Array.mem_of_getElem? O;exact⟨x,T,rfl⟩
 have M:∀f,BZ xs k xs.length f->Q f s:=by rintro f (⟨rfl,hno⟩|⟨j,p,rfl,_,L⟩);exact R λj p L=>hno j p (A6.mp L).1 L;exact n j p L
 have start:o7 es.size (λi=>es[i]?.map (·.hash)) (hs k)=(Os 0<|es.size-0).filter (pM es<|hs k):=by rw[o7,List.range_eq_range',Nat.sub_zero];rfl
 have U:BZ xs k 0 a8:=.inl ⟨rfl,λ_ _ h=>p7 h<|ND _⟩;have F:∀{x i:Nat}{aM:List Nat},x::aM=(Os i<|es.size-i).filter (pM es<|hs k)->i<=es.size->∃I u v,xs[x]?=a7 (I,u,v)/\es[x]?=a7 ⟨hs I,u,v⟩/\i<=x/\x+1<=es.size/\aM=(Os (x+1)<|es.size-(x+1)).filter (pM es<|hs k)/\∀j,i<=j->j<x->pM es (hs k) j=b7:=by
  intro x i aM B hi;obtain⟨r,an,al,m,t⟩:=filter_range'_cons _ _ _ _ _ B.symm;have l:x<es.size:=by lia
  obtain⟨⟨I,u,v⟩,c⟩:∃y,xs[x]?=a7 y:=⟨xs[x]'(by rw[<-ai];exact l),x9 _⟩
  exact⟨I,u,v,c,by rw[qN G x,c];rfl,r,l,by rw[t];congr 2;lia,m⟩
 unfold dictFind
 try with_reducible refine E3 ?_
 refine t6<|MN S N ?_;have W:∀v∈(o7 es.size (λi=>es[i]?.map (·.hash))<|hs k).filterMap (λi=>es[i]?.map (·.key)),∀(Q:Bool->f6->Prop) (E:b8->f6->Prop),Q a9 s->f9 (g7 prog w) A (o6 8 v) Q E s:=λv hv=>by obtain⟨x,T,rfl⟩:=Z v hv;exact qx x T
 rcases kk with rfl|⟨a,rfl⟩
 dsimp only;by_cases J:((ABN::(o7 es.size (λi=>es[i]?.map (·.hash))<|hs k).filterMap (λi=>es[i]?.map (·.key))).all carriedByValue)=a9;rw[o8 J];unfold dictWalkPlain;refine t6 ?_;rw[start];refine Nf _ (λaM b s'=>s'=s/\b=(a8,())/\∃i,aM=(Os i<|es.size-i).filter (pM es<|hs k)/\i<=es.size/\BZ xs k i a8) _ ?_ ?_ _ _ ⟨rfl,rfl,0,rfl,B5 _,U⟩;rintro x aM b s' ⟨rfl,rfl,i,B,hi,H⟩;obtain⟨I,u,v,c,C,r,l,t,m⟩:=F B hi;have H:=jd G m H r;rw[C];dsimp only;by_cases D:(hs I==hs k)=a9;rw[o8 D];refine t6<|My S N<|t6<|X _ (E9 c) _ _<|t6<|My S N ?_;show f9 _ _ (if (ep != ep)=a9 then _ else _) _ E _;rw[p4<|by simp];by_cases g:I=k;rw[dT_ g];subst g;rw[o8 rfl];exact t6<|F9<|t8<|t8<|n x _ c;rw[dF_ g,p4<|by decide];exact t6<|F9<|t8 ⟨rfl,rfl,x+1,t,l,bO H c g⟩;rw[p4 D];exact t8 ⟨rfl,rfl,x+1,t,l,bO H c λe=>D<|by rw[e];simp⟩;rintro b s' ⟨rfl,rfl,i,B,hi,H⟩;exact t8<|M a8<|pL G B.symm H;rw[p4 J];by_cases q:(((o7 es.size (λi=>es[i]?.map (·.hash))<|hs k).filterMap (λi=>es[i]?.map (·.key)))==[ABN])=a9 <;>
 (first|rw[o8 q]|rw[p4 q])<;>(first|refine t6 (t8 ?_)|refine t6<|oo qk W ?_)<;>(
  rw[p4<|by simp];refine t6 ?_;rw[start];refine Nf _ (λaM b s'=>s'=s/\∃i f,b=(a8,f)/\aM=(Os i<|es.size-i).filter (pM es<|hs k)/\i<=es.size/\BZ xs k i f) _ ?_ ?_ _ _ ⟨rfl,0,a8,rfl,rfl,B5 _,U⟩;rintro x aM b s' ⟨rfl,i,f,rfl,B,hi,H⟩;obtain⟨I,u,v,c,C,r,l,t,m⟩:=F B hi;have H:=jd G m H r;rw[C];dsimp only;by_cases D:(hs I==hs k)=a9;rw[o8 D];refine t6<|My S N<|t6<|X _ (E9 c) _ _<|t6<|My S N ?_;show f9 _ _ (if (ep != ep)=a9 then _ else _) _ E _;rw[p4<|by simp];by_cases g:I=k;rw[dT_ g];subst g;rcases H with⟨rfl,_⟩|⟨j,p,_,Y,L⟩
  first|rw[o8 rfl]|skip
  simp only[Option.isSome_none,A7,r9]
  first|refine t6 (t8 ?_)|skip
  refine t6<|F9 ?_;split;exact t8<|t8<|n x _ c;exact t8 ⟨rfl,x+1,a7 x,rfl,t,l,.inr ⟨x,_,rfl,Ml x,c⟩⟩;exact p7 (gP hn L c) (by lia);rw[dF_ g];simp only[A7,r9];refine t6<|F9 ?_
  first|rw[p4<|by simp]|skip
  first
   |exact t8 ⟨rfl,x+1,f,rfl,t,l,bO H c g⟩
   |exact t6 (t8 (t8 ⟨rfl,x+1,f,rfl,t,l,bO H c g⟩))
  rw[p4 D];exact t8 ⟨rfl,x+1,f,rfl,t,l,bO H c λe=>D<|by rw[e];simp⟩;rintro b s' ⟨rfl,i,f,rfl,B,hi,H⟩;have z:=M f<|pL G B.symm H;exact t8 z)
 dsimp only;rw[p4 (show ¬((AB6 a::(o7 es.size (λi=>es[i]?.map (·.hash))<|hs k).filterMap (λi=>es[i]?.map (·.key))).all carriedByValue)=a9 by simp[carriedByValue]),p4 V];by_cases q:(((o7 es.size (λi=>es[i]?.map (·.hash))<|hs k).filterMap (λi=>es[i]?.map (·.key)))==[AB6 a])=a9 <;>
 (first|rw[o8 q]|rw[p4 q])<;>(first|refine t6 (t8 ?_)|refine t6<|oo qk W ?_)<;>(
  rw[p4<|by simp];refine t6 ?_;rw[start];refine Nf _ (λaM b s'=>s'=s/\∃i f,b=(a8,f)/\aM=(Os i<|es.size-i).filter (pM es<|hs k)/\i<=es.size/\BZ xs k i f) _ ?_ ?_ _ _ ⟨rfl,0,a8,rfl,rfl,B5 _,U⟩;rintro x aM b s' ⟨rfl,i,f,rfl,B,hi,H⟩;obtain⟨I,u,v,c,C,r,l,t,m⟩:=F B hi;have H:=jd G m H r;rw[C];dsimp only;by_cases D:(hs I==hs k)=a9;rw[o8 D];refine t6<|My S N<|t6<|X _ (E9 c) _ _<|t6<|My S N ?_;show f9 _ _ (if (ep != ep)=a9 then _ else _) _ E _;rw[p4<|by simp];by_cases g:I=k;rw[dT_ g];subst g;rcases H with⟨rfl,_⟩|⟨j,p,_,Y,L⟩
  first|rw[o8 rfl]|skip
  simp only[Option.isSome_none,A7,r9]
  first|refine t6 (t8 ?_)|skip
  refine t6<|F9 ?_;split;exact t8<|t8<|n x _ c;exact t8 ⟨rfl,x+1,a7 x,rfl,t,l,.inr ⟨x,_,rfl,Ml x,c⟩⟩;exact p7 (gP hn L c) (by lia);rw[dF_ g];simp only[A7,r9];refine t6<|F9 ?_
  first|rw[p4<|by simp]|skip
  first
   |exact t8 ⟨rfl,x+1,f,rfl,t,l,bO H c g⟩
   |exact t6 (t8 (t8 ⟨rfl,x+1,f,rfl,t,l,bO H c g⟩))
  rw[p4 D];exact t8 ⟨rfl,x+1,f,rfl,t,l,bO H c λe=>D<|by rw[e];simp⟩;rintro b s' ⟨rfl,i,f,rfl,B,hi,H⟩;have z:=M f<|pL G B.symm H;exact t8 z)
end
section
variable{X:Cx}{pins:List (c9×d5)}{σ:St}{H:Hp}{s:f6}{ρ:List c9}{M:u8}{kvs:List (D×D)}{xs:List (D×b8×b8)}
theorem AI(h:yn d=a9):v9 M 8 d=a9:=by
 cases d with
 |non=>rfl
 |tup s=>exact qC 8 _ h
 |_=>cases h
theorem np(I:t9 X pins σ H s)(r:u5 X.K ρ H k u)(e:aL u key)(b:yn k=a9):(k=.non/\key=.none)\/∃ks a,k=.tup ks/\key=.ref a/\fT s.heap 8 (.tup ks) (.ref a):=by
 cases k with
 |non=>obtain rfl:=u5.inv_non r;exact .inl ⟨rfl,e⟩
 |tup ks=>have t:=cO I 8 _ _ _ r e b;obtain⟨a,its,rfl,h⟩:=id t;exact .inr ⟨ks,a,rfl,rfl,t⟩
 |_=>cases b
theorem xf(I:t9 X pins σ H s)(g:A.units+8<j6)(r:u5 X.K ρ H k u)(e:aL u key)(b:yn k=a9)(h:∀tk,Q (NY X.w k) { s with toks:=tk }):f9 (g7 X.prog X.w) A (pyHash key) Q E s:=by
 rcases np I r e b with⟨rfl,rfl⟩|⟨c,a,rfl,rfl,t⟩
 exact PySem.W.pyHash_slot (T:="NoneType") rfl PySem.F.slot_NoneType_hash PySem.F.entry_NoneType_hash (PySem.F.args_NoneType_hash_1 _) (beq_builtin_none _) (.inr<|by lia)<|t6<|t8<|t6<|wpAny_mkInt<|t8 ⟨_,_,rfl,h _⟩;exact pk 8 _ _ _ _ _ _ g t<|h _
theorem Li(I:t9 X pins σ H s)(m:w4 X.K ρ M H)(g:A.units+8<j6)(r:u5 X.K ρ H k u)(e:aL u key)(a:yn k=a9)(r':u5 X.K ρ H k' u')(e':aL u' key')(d:yn k'=a9):MG A s key key' (decide<|k=k'):=by
 have h:=(kH I m 8 A k k' _ _ _ _ g r e r' e' (AI a)<|AI d).1;have q:u6 M 8 k k'=decide (k=k'):=by
  cases k with
  |non=>cases k' with
   |non=>rw[dT_ rfl];rfl
   |tup _=>rw[dF_ λz=>by cases z];rfl
   |_=>cases d
  |tup c=>cases k' with
   |non=>rw[dF_ λz=>by cases z];rfl
   |tup b=>rw[PQ,iP 8 _ _ a d,p8]
   |_=>cases d
  |_=>cases a
 rw[q]at h;exact h
theorem sX(I:t9 X pins σ H s)(r:u5 X.K ρ H k u)(e:aL u key)(b:yn k=a9)(h:Q a9 s):f9 (g7 X.prog X.w) A (o6 8 key) Q E s:=by
 rcases np I r e b with⟨rfl,rfl⟩|⟨c,a,rfl,rfl,t⟩
 exact t8 h;exact nq 8 8 _ _ _ _ _ _ (v6 _) t h
theorem Dc:∀{kvs:List (D×D)}{xs:List (D×b8×b8)}{x:D×b8×b8},Paired (MD X.K ρ H) kvs xs->x∈xs->∃p∈kvs,MD X.K ρ H p x
 |_,_,x,.cons q t,h=>by rcases A1.mp h with rfl|h;exact⟨_,D3,q⟩;obtain⟨p,hp,z⟩:=Dc t h;exact⟨p,C4 _ hp,z⟩
theorem lg(r:Paired (MD X.K ρ H) kvs xs):xs.map (·.1)=kvs.map (·.1):=by
 induction r with
 |nil=>rfl
 |cons h t i=>rw[C2,C2,i,h.1]
theorem qB(r:Paired (MD X.K ρ H) kvs xs)(k:D):(aB kvs k=a8/\∀(j:Nat) (p:b8×b8),xs[j]?≠a7 (k,p))\/∃(d:D) (v:V) (j:Nat) (u u':b8),aB kvs k=a7 d/\xs[j]?=a7 (k,u,u')/\u5 X.K ρ H d v/\aL v u':=by
 unfold aB;induction r with
 |nil=>exact .inl ⟨rfl,λj p z=>by simp at z⟩
 |@cons p q ps qs h t i =>
  obtain⟨h1,_,_,v,b,c⟩:=h;rw[Mj];by_cases e:p.1=k;rw[dT_ e];exact .inr ⟨_,v,0,q.2.1,q.2.2,rfl,by rw[RN,<-e,h1],b,c⟩;rw[dF_ e];rcases i with⟨g,n⟩|⟨d,v,j,u,u',g,a,l,m⟩
  refine .inl ⟨g,λj f z=>?_⟩;cases j with
  |zero=>rw[RN]at z;injection z with z;exact e<|by rw[h1,z]
  |succ j=>rw[Qj]at z;exact n j f z
  exact .inr ⟨d,v,j+1,u,u',g,by rw[Qj];exact a,l,m⟩
theorem Bs(I:t9 X pins σ H s)(m:w4 X.K ρ M H){n:Nat}{a:c9}(e:ρ[n]?=a7 a)(c:M[n]?=a7 (.dkm kvs)):∃xs,H a=a7 (.ext<|dM a xs)/\Paired (MD X.K ρ H) kvs xs/\dM a xs X.prog X.w s.heap/\(a==d7)=b7/\kvs.length<=sizeLine/\xs.length=kvs.length/\(kvs.map (·.1)).Nodup:=by
 obtain⟨h1,h2,b,xs,h,r⟩:=m.obj _ _ _ e c;refine⟨xs,h,r,(show bJ X.prog X.w H s.heap a (.ext<|dM a xs)from I.hok a _ h).1,h2,h1,?_,b⟩;have:=t4 L1<|lg r
 rwa [v7,v7]at this
theorem Be(I:t9 X pins σ H s)(R:w4 X.K ρ M H)(J:A.units+8<j6)(r:Paired (MD X.K ρ H) kvs xs)(P:(kvs.map (·.1)).Nodup)(G:s.heap.get? a=a7 o) (C:o.data=.dict es ep) (D:es.toList=xs.map (Bq<|NY X.w)) (v:u5 X.K ρ H k u) (Z:aL u key) (n:yn k=a9)(c:(∀(j:Nat) (p:b8×b8),xs[j]?≠a7 (k,p))->Q a8 s) (d:∀(j:Nat) (p:b8×b8),xs[j]?=a7 (k,p)->Q (a7 j) s):f9 (g7 X.prog X.w) A (dictFind a key<|NY X.w k) Q E s:=by
 refine Eo G C D (by rw[lg r];exact P) ?_ (λQ E h=>sX I v Z n h) (λx f Q E h=>?_) (λx f e=>?_) (λx f Q E h=>?_) c d;rcases np I v Z n with⟨rfl,rfl⟩|⟨L,b,rfl,rfl,_⟩
 exact .inl rfl;exact .inr ⟨b,rfl⟩;obtain⟨p,_,t,q,⟨F,l,i⟩,_⟩:=Dc r f;exact sX I l i q h;obtain⟨p,_,t,q,⟨F,l,i⟩,_⟩:=Dc r f;rw[e]at i;rw[<-t];rcases np I l i q with⟨y,m⟩|⟨L,b,y,m,B⟩<;>rcases np I v Z n with⟨z,N⟩|⟨O,S,z,N,g⟩
 rw[y,z];rw[m]at N;cases N;rw[m]at N;cases N;rw[m]at N;cases N;rw[y,z];exact nu 8 _ _ _ B g;obtain⟨p,_,t,q,⟨F,l,i⟩,_⟩:=Dc r f;rw[<-t]at h;exact Li I R J l i q v Z n _ _ _ _ h
theorem w4.writeM(S:w4 X.K ρ M H)(t:ρ[n]?=a7 a)(w:M[n]?=a7 (.dkm kvs))(s:H a=a7 (.ext<|dM a xs))(x:kvs'.length<=sizeLine)(hs:(a==d7)=b7)(y:(kvs'.map (·.1)).Nodup)(r:Paired (MD X.K ρ H) kvs' xs'):w4 X.K ρ (M.set n<|.dkm kvs') (x3 H a<|.ext<|dM a xs')/\Grow X.K ρ H ρ (x3 H a<|.ext<|dM a xs'):=by
 have g:Grow X.K ρ H ρ (x3 H a<|.ext<|dM a xs'):=⟨Nd,λ_ _ h=>B8.writtenX s h⟩
 have k:∀m,m≠n->(M.set n<|.dkm kvs')[m]?=M[m]?:=λm d=>MB<|z9 d;have c:¬L9 M[n]?:=λ⟨_,z⟩=>by rw[w]at z;cases z
 refine⟨⟨λm i b e f N=>?_,by rw[NE];exact S.len,λm b o f N=>?_⟩,g⟩;have q:=S.nd m i b e f N;by_cases h1:m=n;subst h1;rw[k i<|z9 e];exact .inr<|q.resolve_left c;rw[k m h1];by_cases h2:i=n;subst h2;exact .inl<|q.resolve_right c;rw[k i h2];exact q;by_cases d:m=n;subst d;obtain rfl:b=a:=C3<|f.symm.trans t;rw[MX<|by rw[<-S.len];exact(A6.mp t).1]at N;cases N;refine⟨x,hs,y,xs',aP,Paired.mapP r ?_⟩;rintro _ _ ⟨A,B,⟨u,C,j⟩,v,D,E⟩;exact⟨A,B,⟨u,C.grow g,j⟩,v,D.grow g,E⟩;rw[k m d]at N;by_cases l:b=a;subst l;have p:=(S.nd m n b d f t).resolve_right c;rw[N]at p;exact(S.obj m b o f N).grow g<|.inr p;exact(S.obj m b o f N).grow g<|.inl<|ax l
theorem xg(d:dM a xs P w h'):bJ P w H' h' a (.ext<|dM a xs):=by obtain⟨o,es,t,l,Q,J⟩:=d;refine⟨⟨o,es,t,l,Q,J⟩,⟨o,t⟩,?_⟩;rintro h1 h2 ⟨o,es,t,l,Q,J⟩ k;exact⟨o,es,k _ t,l,Q,J⟩
theorem tj(h:aB kvs k=a8):fV kvs k d=kvs++[(k,d)]:=by unfold fV;rw[h];rfl
theorem zW(r:Paired (MD X.K ρ H) kvs xs)(h:MD X.K ρ H p q):Paired (MD X.K ρ H) (kvs++[p]) (xs++[q]):=by
 induction r with
 |nil=>exact .cons h .nil
 |cons z _ i=>exact .cons z i
end
section
variable{X:Cx}{o i value:ge}{td ty tv:x6}{pos pos':Pos}{k:Nat}
def EJ:x6:=λ_ M Q=>Q (.ref M.length)<|M++[.dkm []]
theorem LK:DE X (.Dict [] [] pos) EJ:=by rintro p s σ H R I ⟨S,M,ρ,Q,m,e,q,D⟩;have f:H s.heap.objs.size=a8:=I.hok.fresh<|v6 _;have d:(s.heap.objs.size==d7)=b7:=beq_eq_false_iff_ne.mpr<|z9<|A4 I.big;refine wpAny_Dict_empty ⟨.ref s.heap.objs.size,_,I.laid (a:=s.heap.objs.size) (o:=.ext<|dM s.heap.objs.size []) (t':=s.toks) (λ_ _ q=>x5 _ q) (v6 _)<|xg ⟨_,#[],A8 _ rfl,⟨rfl,rfl,rfl⟩,rfl,rfl⟩,rfl,?_⟩;exact D _ _ ⟨.ref M.length,M++[.dkm []],ρ++[s.heap.objs.size],m.laidM (mo:=.dkm []) f ⟨B5 _,d,Ov,[],aP,.nil⟩,Grow.laidR f,.ref m.last,(show Q (.ref M.length) (M++[.dkm []])from q)⟩
def Ol(r:Nat->C6)(e:x6)(t:Fn):x6:=λS M Q=>e S M λx a=>match x with
 |.ref n=>(∃kvs,a[n]?=a7 (.dkm kvs))/\t S a λds M2=>r n ds M2 Q
 |_=>False
variable{name:b9}{id:String}{e:ge}{es:List ge}{to:x6}{t:Fn}{apos cpos:Pos}
theorem d_mm{r:Nat->C6}(slot:Slot "dict" name id)(y:l8 (.builtin id)=pure (.type "method_descriptor"))(T:J1 X id (ig X.K r))(U:DE X o to)(P:DA X (e::es) t)(c:m3 o name X.env (eval o X.env)=eval o X.env:=by rfl)(f:((g9 cpos<|h7 (e::es) X.env).all (λx=>!x.1)&&(m5 cpos<|m6 [] X.env).all (λx=>x.1.isSome) && decide ((e::es).length+([]:List m7).length+(if ([]:List m7).isEmpty then 0 else 1)<30))=a9:=by rfl)(d:(apos.endLine==cpos.line)=a9:=by rfl) (hs:h7 (e::es) X.env=(b7,eval e X.env)::h7 es X.env:=by rfl) (h:(g9 cpos<|h7 es X.env).any (·.1)=b7:=by rfl):DE X (.Call (.Attribute o name apos) (e::es) [] cpos) (Ol r to t):=by
 rintro p s σ H R I ⟨S,M,ρ,Q,sm,G,q,W⟩;refine Qi c f d rfl<|w9 (U p s σ H _ I ⟨S,M,ρ,_,sm,G,q,λv H' z=>z⟩) ?_;rintro u s1 ⟨v,J,B,rv,x,i,m,j,g1,Z,g⟩;cases Z with
 |@ref n a E =>
  obtain rfl:u=AB6 a:=rv;obtain⟨⟨kvs,O⟩,g⟩:=(show (∃kvs,i[n]?=a7 (.dkm kvs))/\t S i _ from g)
  obtain⟨xs,hH,r,⟨F,eb,h1,h2,h3,h4⟩,V,hl,hx,nd⟩:=Bs B j E O;refine⟨"dict",id,Pc,slot,y,⟨F,h1,h2.1⟩,λb z=>?_,?_⟩;cases z;exact⟨F,h1,h2.2.1⟩;have D:=P cpos p s1 σ J _ B ⟨S,i,m,_,j,G.grow g1,g,λvs H' z=>z⟩;rw[hs]at D ⊢;refine Od (by show (b7||(g9 cpos<|h7 es X.env).any (·.1))=b7;rw[h]<;>rfl)<|Qf ?_;refine w9 D ?_;rintro us s2 ⟨vs,L,N,k,ds,M2,A,l,C,rr,Y⟩;exact T p s2 σ L (.ref a) vs (.ref a) us R N rfl k ⟨n,a,ds,M2,A,Q,rfl,ao C.pre E,l,rr,Y,λv H' w=>W v H'<|VQ.trans (g1.trans C) w⟩
 |_=>exact g.elim
def oX(n:Nat):C6:=λds M Q=>match ds with
 | [k,d]=>∃kvs,M[n]?=a7 (.dkm kvs)/\yn k=a9/\Q ((aB kvs k).getD d) M
 |_=>False
theorem Dp(hr:Room k X.A):J1 X "dict.get" (ig X.K oX):=by
 rintro E s σ H x xs v us R I rx rs ⟨n,a,ds,M,ρ,Q,W,Z,m,f,q,D⟩;have un:=hr.un;unfold oX at q;split at q;rename_i k d;obtain⟨kvs,Y,B,q⟩:=q;have z:=Reps.inv_cons f;clear f;obtain⟨_,_,rfl,G,f⟩:=z;have z:=Reps.inv_cons f;clear f;obtain⟨_,_,rfl,r2,f⟩:=z;obtain rfl:=Reps.inv_nil f;obtain⟨P,N,rfl,t,V⟩:=aw.two rs;subst W;obtain rfl:v=AB6 a:=rx;obtain⟨ys,hH,r,⟨ob,eb,h1,h2,i,l⟩,U,hl,hx,C⟩:=Bs I m Z Y;refine N3 O9 ⟨ob,h1,h2.1⟩ RL (RP _ _ _) (.of_wp λA R s (h:f9 (g7 X.prog X.w) A.in1 (Builtin.«dict.get» ⟨[.ref a,P,N],[]⟩) (λc s'=>∃v,c=.done (.ret v)/\R (.ok<|.ret v) s') (λe s'=>R (.error e) s') s)=>h) ?_;show f9 _ _ (dictGet a P >>= _) _ _ s;unfold dictGet;refine t6 ?_
 try with_reducible refine E3 ?_
 refine t6<|xf I (by show X.A.units+1+8<j6;lia) G t B λJ=>?_;refine t6<|Be (I.tok J) m (by show X.A.units+1+8<j6;lia) r C h1 i l G t B (λo=>?_) λj p L=>?_;rcases qB r k with⟨b,_⟩|⟨g,O,j,u,F,b,y,S,T⟩
 rw[b]at q;refine t8 ?_;show f9 _ _ (Builtin.Dict.missed a P >>= _) _ _ _;exact t6<|wpAny_missed_other U<|t8 ⟨N,rfl,_,H,I.tok _,V,D _ _ ⟨d,M,ρ,m,.refl,r2,q⟩⟩;exact p7 y<|o j _;refine t6<|MN (s:={ s with toks:=J }) h1 i ?_;rcases qB r k with⟨_,o⟩|⟨g,O,j',u,F,b,y,S,T⟩
 exact p7 L<|o j p;have:j=j':=gP (by rw[lg r];exact C) L y;subst this;rw[L]at y;rw[qN l j,L];rw[b]at q;obtain rfl:p=(u,F):=by injection y with y;injection y
 exact t8<|t8 ⟨F,rfl,O,H,I.tok _,T,D _ _ ⟨g,M,ρ,m,.refl,S,q⟩⟩;exact q.elim
def sY(n:Nat):C6:=λds M Q=>match ds with
 | [k,d]=>∃kvs,M[n]?=a7 (.dkm kvs)/\yn k=a9/\kvs.length<sizeLine/\(∀y,aB kvs k=a7 y->Q y M)/\(aB kvs k=a8->Q d (M.set n<|.dkm<|kvs++[(k,d)]))
 |_=>False
theorem Do(hr:Room k X.A):J1 X "dict.setdefault" (ig X.K sY):=by
 rintro ai s σ H x xs v us R I rx rs ⟨n,a,ds,M,ρ,Q,ez,W,m,f,q,Y⟩;have un:=hr.un;unfold sY at q;split at q;rename_i k d;obtain⟨kvs,V,o,kl,q1,q2⟩:=q;have z:=Reps.inv_cons f;clear f;obtain⟨_,_,rfl,E,f⟩:=z;have z:=Reps.inv_cons f;clear f;obtain⟨_,_,rfl,r2,f⟩:=z;obtain rfl:=Reps.inv_nil f;obtain⟨P,G,rfl,i,N⟩:=aw.two rs;subst ez;obtain rfl:v=AB6 a:=rx;obtain⟨ys,T,r,⟨Z,O,h1,h2,b,g⟩,U,hl,hx,B⟩:=Bs I m W V;have aj:O.size=ys.length:=by rw[<-E2,g,v7]
 refine N3 Rf ⟨Z,h1,h2.1⟩ PySem.F.entry_dict_setdefault (PySem.F.args_dict_setdefault_3 _ _ _) (.of_wp λA R s (h:f9 (g7 X.prog X.w) A.in1 (Builtin.«dict.setdefault» ⟨[.ref a,P,G],[]⟩) (λl s'=>∃v,l=.done (.ret v)/\R (.ok<|.ret v) s') (λe s'=>R (.error e) s') s)=>h) ?_;unfold Builtin.«dict.setdefault»;refine t6 ?_;unfold Sb;refine t6<|NV (show s.TypeIs (.ref a) "dict" from⟨Z,h1,h2.1⟩) ?_;show f9 _ _ (pure (a,P,a7 G)) _ _ s;refine t8 ?_;show f9 _ _ (if (a==d7)=a9 then _ else(dictSetDefault a P G >>= _)) _ _ s;rw[p4<|by rw[U];exact MA];unfold dictSetDefault;refine t6 ?_
 try with_reducible refine E3 ?_
 refine t6<|xf I (by show X.A.units+1+8<j6;lia) E i o λt=>?_;refine t6<|Be (I.tok t) m (by show X.A.units+1+8<j6;lia) r B h1 b g E i o (λD=>?_) λj p L=>?_;have S:aB kvs k=a8:=by
  rcases qB r k with⟨J,_⟩|⟨_,_,j,_,_,_,y,_⟩
  exact J;exact p7 y<|D j _
 have C:((kvs++[(k,d)]).map (·.1)).Nodup:=by rw[<-tj S];exact mD B
 obtain⟨w1,w2⟩:=m.writeM (xs':=ys++[(k,P,G)]) W V T (by rw[A3,F3];lia) U C<|zW r ⟨rfl,o,⟨_,E,i⟩,_,r2,N⟩;have sb:G9 a s.heap (s.heap.update a<|Obj.mapDictKeys λe=>e.push ⟨NY X.w k,P,G⟩):=L3 ..;have c:dM a (ys++[(k,P,G)]) X.prog X.w (s.heap.update a<|Obj.mapDictKeys λe=>e.push ⟨NY X.w k,P,G⟩):=by refine⟨_,O.push ⟨NY X.w k,P,G⟩,L4 _ h1<|O7<|Oc b _,h2.mapDictKeys _,?_,?_⟩;rw[Oc b,A3];rfl;rw[QN,g,G1];rfl
 have he:∃q,(s.heap.update a<|Obj.mapDictKeys λe=>e.push ⟨NY X.w k,P,G⟩).get? a=a7 q:=let ⟨q,_,hq,_⟩:=c;⟨q,hq⟩
 refine t6<|F9<|t6<|QX (hz:=by lia) (s:={ s with toks:=t }) h1 b<|t8<|t8 ⟨G,rfl,?_⟩;exact⟨_,_,qP (I.tok t) (by rw[T];exact Nx) sb he<|xg c,N,Y _ _ ⟨d,_,ρ,w1,w2,r2.grow w2,q2 S⟩⟩;refine t6<|MN (s:={ s with toks:=t }) h1 b ?_;rcases qB r k with⟨_,D⟩|⟨d',v',j',u,u',J,y,z3,z4⟩
 exact p7 L<|D j p;have:j=j':=gP (by rw[lg r];exact B) L y;subst this;rw[L]at y;rw[qN g j,L];obtain rfl:p=(u,u'):=by injection y with y;injection y
 exact t6<|F9<|t8<|t8 ⟨u',rfl,v',H,I.tok _,z4,Y _ _ ⟨d',M,ρ,m,.refl,z3,q1 _ J⟩⟩;exact q.elim
end
theorem KC:HE X (.Dict [] [] pos) EJ:=⟨LK⟩
theorem KD(i:Room k X.A)(B:HE X o to)(f:HA X (e::es) t)(h:m3 o "get" X.env (eval o X.env)=eval o X.env:=by kernel_rfl)(w:((g9 cpos<|h7 (e::es) X.env).all (λx=>!x.1)&&(m5 cpos<|m6 [] X.env).all (λx=>x.1.isSome) && decide ((e::es).length+([]:List m7).length+(if ([]:List m7).isEmpty then 0 else 1)<30))=a9:=by kernel_rfl)(a:(apos.endLine==cpos.line)=a9:=by kernel_rfl) (hs:h7 (e::es) X.env=(b7,eval e X.env)::h7 es X.env:=by kernel_rfl) (n:(g9 cpos<|h7 es X.env).any (·.1)=b7:=by kernel_rfl):HE X (.Call (.Attribute o "get" apos) (e::es) [] cpos) (Ol oX to t):=⟨d_mm O9 RF (Dp i) B.ok f.ok h w a hs n⟩
theorem KB(i:Room k X.A)(B:HE X o to)(f:HA X (e::es) t)(h:m3 o "setdefault" X.env (eval o X.env)=eval o X.env:=by kernel_rfl)(w:((g9 cpos<|h7 (e::es) X.env).all (λx=>!x.1)&&(m5 cpos<|m6 [] X.env).all (λx=>x.1.isSome) && decide ((e::es).length+([]:List m7).length+(if ([]:List m7).isEmpty then 0 else 1)<30))=a9:=by kernel_rfl)(a:(apos.endLine==cpos.line)=a9:=by kernel_rfl) (hs:h7 (e::es) X.env=(b7,eval e X.env)::h7 es X.env:=by kernel_rfl) (n:(g9 cpos<|h7 es X.env).any (·.1)=b7:=by kernel_rfl):HE X (.Call (.Attribute o "setdefault" apos) (e::es) [] cpos) (Ol sY to t):=⟨d_mm Rf PySem.F.type_dict_setdefault (Do i) B.ok f.ok h w a hs n⟩
def Ji(n:Nat):C6:=λds M Q=>match ds with
 | []=>∃xs d,M[n]?=a7 (.lst<|xs++[d])/\Q d (M.set n<|.lst xs)
 |_=>False
theorem GL:J1 X "list.pop" (ig X.K Ji):=by
 rintro p s σ H x xs v us R I t o ⟨n,a,ds,M,ρ,Q,c,f,m,j,q,k⟩;unfold Ji at q;split at q;obtain⟨ys,d,e,q⟩:=q;obtain rfl:=Reps.inv_nil j;obtain⟨vs,h,r⟩:=m.obj n a _ f e;have l:=r.length;rw[A3,F3]at l;obtain⟨y,b,u⟩:=r.get (i:=ys.length) (d:=d) (by simp);have g:Reps X.K ρ H ys vs.dropLast:=by have:=r.take ys.length;rw[List.take_left]at this;rw[List.dropLast_eq_take,<-l,QS];exact this
 obtain⟨z,w⟩:=m.write f e h g;exact Kb p s σ H x _ v us R I t o ⟨a,vs,y,c,rfl,h,by rw[<-l,QS];exact b,k _ _ ⟨d,_,ρ,z,w,u.grow w,q⟩⟩;exact q.elim
theorem KU:ON X "pop" Ji:=⟨_,PySem.F.slot_list_pop,PySem.F.type_list_pop,GL⟩
noncomputable def Itb(K:v4)(a:c9)(n:Nat):It:=⟨λi H=>i<n/\∃xs x,F7 K H a xs/\xs[n-1-i]?=a7 x,λi H x H'=>H'=H/\∀xs,F7 K H a xs->xs[n-1-i]?=a7 x,λi H=>i=n⟩
theorem Cy{P:c8}{w:c7}{K:v4}{W:ge}(a it:c9)(n:Nat):Turn P w K W (Itb K a n) [it] it (λi h=>i<=n/\h.IsRevIter it a ((n:Int)-1-(i:Int))) where
 mem:=by simp
 obj:=λi h t b g=>by
  obtain rfl:b=it:=by simpa using g
  obtain⟨_,o,e,c,d⟩:=t;exact⟨o,e,λv z=>by rw[d]at z;cases z⟩
 keep:=λi h h' t k=>⟨t.1,t.2.at λo e=>k it (by simp) o e⟩
 item:=by intro X C D B F i f s σ H E I l t R;subst C D B;obtain⟨hi,xs,x,G,J⟩:=R;obtain⟨its,U,p,Y⟩:=I.list G;obtain⟨u,O,T⟩:=U.get J;obtain⟨m,q,N,r,y,A⟩:=l it (by simp);have S:=t.2;rw[show (n:Int)-1-(i:Int)=((n-1-i:Nat):Int) by lia]at S;refine wpAny_pyNext_rev_item S p.isList (x:=u) (by simpa using O) λh' j V=>?_;rw[show ((n-1-i:Nat):Int)-1=(n:Int)-1-((i+1:Nat):Int) by lia]at j;have L:t9 X f σ H { s with heap:=h' }:=I.turned (t':=s.toks) (λb o g e=>(V.2 b g).trans e) m q r y A;obtain⟨o,e,c,d⟩:=id j;exact⟨u,rfl,vI (s:={ s with heap:=h' }) e c d (by decide) ⟨x,H,L,T,⟨rfl,λys Q=>by rw[I.list_inj Q G];exact J⟩,⟨hi,j⟩,λb g=>(l b g).1⟩⟩
 done:=by intro X C D B F i f s σ H E I l t R;subst C D B;obtain rfl:i=n:=R;obtain⟨m,q,N,r,y,A⟩:=l it (by simp);have S:=t.2;rw[show (i:Int)-1-(i:Int) = -1 by lia]at S;exact wpAny_pyNext_rev_end (I.ok.hd F) S λh' M=>⟨rfl,I.turned (t':=s.toks) (λb o g e=>M b o g e) m q r y A⟩
 self:=λ_ _ _ _ _ t h=>wpAny_pyIter_revIter t.2 h
theorem qV:e7 "reversed" = a7 (.type "reversed"):=by decide +kernel
def EG(t:Fn):Mw:=λS M R=>t S M λds a=>match ds with
 | [.ref n]=>∃xs,am a n xs/\(xs.length<=sizeLine->R ⟨xs.reverse,λM=>am M n xs⟩ a)
 |_=>False
theorem LA{a:ge}{E:Fn}{p f:Pos}(U:X.mg "reversed" = a8)(K:DA X [a] E)(P:Gl X "reversed":=by rfl)(hs:h7 [a] X.env=[(b7,eval a X.env)]:=by rfl):DI X tg (.Call (.Name "reversed" p) [a] [] f) (EG E):=by
 intro c s σ H R I h;obtain⟨S,M,ρ,Q,sm,sr,V,k⟩:=h;refine Call_<|kE I P U qV<|Re (w9 (K f c s σ H _ I ⟨S,M,ρ,_,sm,sr,V,λv H' w=>w⟩) ?_) hs rfl;rintro us z ⟨vs,D,m,r1,ds,F,C,j,g1,t,q⟩
 try dsimp only at q
 split at q;rename_i n;obtain⟨xs,L,q2⟩:=q;have B:=Reps.inv_cons t;clear t;obtain⟨_,_,rfl,G,t⟩:=B;obtain rfl:=Reps.inv_nil t;obtain⟨u,rfl,J⟩:=aw.one r1;obtain⟨a,rfl,A⟩:=u5.inv_ref G;obtain rfl:u=AB6 a:=J;obtain⟨ws,W,r⟩:=am.seq j L A;obtain⟨its,rv,p,hz⟩:=m.list W;have Y:=r.length;have Z:=rv.length;refine call_reversed_list p.isList ?_;refine wpAny_pyIter_revIter (l:=a) (i:=((its.toArray.size:Int)-1)) ⟨_,A8 _ rfl,rfl,rfl⟩ ?_;refine⟨z.heap.objs.size,[z.heap.objs.size],_,_,D,rfl,m.kept (t':=z.toks) λb o e=>x5 _ e,Cy a _ xs.length,⟨B5 _,_,A8 _ rfl,rfl,?_⟩,λb N=>?_,k _ D ⟨⟨xs.reverse,λM=>am M n xs⟩,F,C,j,g1,?_,q2<|by lia⟩⟩;show Data.fields #[.ref a,j1<|(its.toArray.size:Int)-1]=Data.fields #[.ref a,j1<|(xs.length:Int)-1-((0:Nat):Int)];rw[A5,<-Z,<-Y,show ((xs.length:Int)-1-((0:Nat):Int))=(xs.length:Int)-1 by lia];obtain rfl:b=z.heap.objs.size:=by simpa using N
 exact m.fpOk (v6 _)<|m.hok.fresh<|v6 _;refine⟨λi ρ' M' H' s' g ok hi=>?_,λi ρ' M' H' x H2 s' g ok hi y=>?_,λρ' M' H' s' g ok=>?_⟩;rw[ACg]at hi;obtain⟨vs,h,r⟩:=am.seq s' ok<|ao g.pre A;have T:xs.length-1-i<vs.length:=by rw[<-r.length];lia
 exact⟨hi,vs,vs[xs.length-1-i],h,x9 T⟩;rw[ACg]at hi;obtain⟨rfl,y⟩:=y;obtain⟨vs,h,r⟩:=am.seq s' ok<|ao g.pre A;obtain⟨d,O,rd⟩:=r.getV<|y vs h;exact⟨d,ρ',by rw[List.getElem?_reverse hi];exact O,s',.refl,rd⟩;exact(ACg:xs.reverse.length=xs.length);exact q.elim
theorem Ko(d:X.mg "reversed" = a8)(f:HA X [a] ta)(R:X.env.kindOf "reversed" = a7 .globalImplicit:=by kernel_rfl)(hs:h7 [a] X.env=[(b7,eval a X.env)]:=by kernel_rfl):HI X tg (.Call (.Name "reversed" p) [a] [] pos) (EG ta):=⟨LA d f.ok R hs⟩
section
open PySem.W
structure ExcK(K:Frag)(D:c9):Prop where
 ga:findIn K (.ref D) "__getattribute__" = a7 (a7<|.builtin "BaseException.__getattribute__")
 gt:findIn K (.ref D) "__getattr__" = a7 a8
 mb:mroIn K D (.type "BaseException")=a7 a9
 mo:mroIn K D (.type "object")=a7 a9
 cl:findIn K (.ref D) "__class__" = a7 (a7<|.builtin "object.__class__")
end
inductive Fly(P:c8)(w:c7)(stk:List Env)(H:Hp)(h0:d6)(a:c9)(C:b8)(H1:Hp)(h:d6):Prop
 |mk (B:d6) (a0:b8) (fly:Heap.FlyingW B stk a C a0 h) (un:Un (K2 stk) [] H H1 h0 h) (hok:D8 P w H1 h)
  (old:∀b o,h0.get? b=a7 o->b∉K2 stk->∃o',B.get? b=a7 o'/\(H b=a8->o'=o)) (trk:∀b u,H1 b=a7 u->∃o,B.get? b=a7 o)
structure DefX(X:Cx):Prop where
 stk:X.stack=X.env::X.outer
 fr:X.env.frame=a7 X.env.locals
 ex:X.ex=[]
def CXe(P:c8)(w:c7):Nv:=λk H s E e s'=>∃a C b,e=.ref a/\s'.os=s.os/\f8 s'.gens/\Fly P w k H s.heap a C b s'.heap/\E C a8 b
noncomputable abbrev vE:List b8:=[.type "ValueError",.type "Exception",.type "BaseException",.type "object"]
abbrev DX:=b9->u8->Prop
abbrev Rx:=DX->u3
abbrev DTEX:=DX->x6
abbrev DSpX:=List D->u8->DK->DX->Prop
inductive XQ(K:v4)(ρ:List c9)(H:Hp)(R:DX)(C:b8)(dx:Option c9)(H':Hp):Prop
 |mk (x:b9) (c:c9) (M':u8) (ρ':List c9) (e:C=.ref c) (hx:PySem.W.nsIn K d9 x=a7 (a7 (.ref c))) (s:w4 K ρ' M' H') (g:Grow K ρ H ρ' H') (q:R x M')
inductive lowX(K:v4)(E:XK)(t:Rx)(D:Ends)(σ:St)(H:Hp):Prop
 |mk (S:SD) (M:u8) (ρ:List c9) (F:DEnds) (R:DX) (s:w4 K ρ M H) (sr:SRep K ρ H S σ) (q:t R F S M) (k:Po K ρ H F D) (x:∀C dx H',XQ K ρ H R C dx H'->E C dx H')
inductive lowXE(K:v4)(E:XK)(t:DTEX)(σ:St)(H:Hp)(Q:VK):Prop
 |mk (S:SD) (M:u8) (ρ:List c9) (F:DK) (R:DX) (s:w4 K ρ M H) (sr:SRep K ρ H S σ) (q:t R S M F) (k:∀v H',VQ K ρ H F v H'->Q v H') (x:∀C dx H',XQ K ρ H R C dx H'->E C dx H')
structure XA(b:Bool)(X:Cx)(pins:List (c9×d5))(E:XK)(P:St->Prop)(Ex:b8->f6->Prop):Prop where
 on:∀σ H1 s1 e s',P σ->t9 X pins σ H1 s1->CXe X.prog X.w X.stack H1 s1 E e s'->Ex e s'
 all:b=a9->∀σ,P σ
 made:b=a9->∀σ H1 s1 h' e C vs,t9 X pins σ H1 s1->Heap.MadeExcOf s1.heap h' e C vs->E C a8 H1->Ex (.ref e) { s1 with heap:=h' }
structure HX(b:Bool)(X:Cx)(st:i3)(t:Rx):Prop where
 ok:∀(pins:List (c9×d5)) (s:f6) (σ:St) (H:Hp) (D:Ends) (E:XK) (P:St->Prop) (Ex:b8->f6->Prop),XA b X pins E P Ex->P σ->t9 X pins σ H s->lowX X.K E t D σ H->f9 (g7 X.prog X.w) X.A (exec st X.env) (SP X pins D) Ex s
structure HXs(b:Bool)(X:Cx)(st:List i3)(t:Rx):Prop where
 ok:∀(pins:List (c9×d5)) (s:f6) (σ:St) (H:Hp) (D:Ends) (E:XK) (P:St->Prop) (Ex:b8->f6->Prop),XA b X pins E P Ex->P σ->t9 X pins σ H s->lowX X.K E t D σ H->f9 (g7 X.prog X.w) X.A (execs st X.env) (SP X pins D) Ex s
structure HXE(b:Bool)(X:Cx)(e:ge)(t:DTEX):Prop where
 ok:∀(pins:List (c9×d5)) (s:f6) (σ:St) (H:Hp) (Q:VK) (E:XK) (P:St->Prop) (Ex:b8->f6->Prop),XA b X pins E P Ex->P σ->t9 X pins σ H s->lowXE X.K E t σ H Q->f9 (g7 X.prog X.w) X.A (eval e X.env) (EP X pins σ Q) Ex s
structure ClsX(K:v4)(x:b9)(C:c9):Prop where
 at_:PySem.W.nsIn K d9 x=a7 (a7<|.ref C)
 exc:PySem.W.excIn K C vE "ValueError.__new__" = a9
 own:ExcK K C
 val:Qz K (.ref C) (.type "ValueError")=a7 a9
structure RoomH(k:Nat)(A:e8):Prop where
 dp:A.depth+3*k+5<recursionLimit
 un:A.units+16*k+200<j6
structure FnH(P:c8)(w:c7)(K:v4)(mg:b9->Option b8)(base:d6)(k:Nat)(f:c9)(fd:j7)(ps:List b9)(sp:Sp):Prop where
 len:∀vs H Q E,sp vs H Q E->vs.length=ps.length
 run:∀(A:e8) (outer:List Env) (s:f6) (H:Hp) (args:Args) (us:List b8) (vs:List V) (Q:VK) (E:XK),RoomH k A->Env0 P w K mg base A outer s H->BindsTo s fd args (ps.zip us)->aw vs us->sp vs H Q E ->j8 (g7 P w) A (.call (.ref f) args) (CR K9 outer P w H s Q E) s
end L2
namespace L2
open PySem PySem.Spec PyProof.Rows DL PySem.W
noncomputable def Itq(a:c9)(n ep:Nat):It:=⟨λi H=>∃xs x v,H a=a7 (.ext<|dQ a ep xs)/\xs.length=n/\xs[i]?=a7 x/\aL v x.2.2,λi H v H'=>∃(T:c9) (x:D×c9×b8) (y:V),v=.ref T/\H T=a8/\H'=x3 H T (.tup [.ref x.2.1,y])/\aL y x.2.2/\∀xs,H a=a7 (.ext<|dQ a ep xs)->∃z:D×c9×b8,xs[i]?=a7 z/\z.2=x.2,λi H=>(∃xs,H a=a7 (.ext<|dQ a ep xs)/\xs.length=n)/\i=n⟩
def OutQ(h:d6)(it d:c9)(i n ep:Nat):Prop:=∃ok b,cU h it d i n ep .none (.bool b7) ok b
theorem xL{P:c8}{w:c7}{K:v4}{Y:List ge}{x1:Nat}{V:Pos}(a it:c9)(n ep:Nat):Turn P w K (.Tuple Y x1 V) (Itq a n ep) [it] it (λi h=>OutQ h it a i n ep) where
 mem:=by simp
 obj:=λi h t b j=>by
  obtain rfl:b=it:=by simpa using j
  obtain⟨ok,g,e⟩:=t;exact⟨_,e,λv z=>by cases z⟩
 keep:=λi h h' ⟨ok,g,e⟩ k=>⟨ok,g,k it (by simp) _ e⟩
 item:=by
  rintro X N U M u i q s σ H E I y ⟨ok,g,t⟩ R;subst N U M;obtain⟨xs,x,v,L,rfl,hx,hv⟩:=R;obtain⟨es,F,r,eg⟩:=qL I L;obtain⟨e,C,W,Z⟩:=eg i x hx;obtain⟨J,f1,f2,f3,f4,f5⟩:=y it (by simp);have f:i<es.size:=(Ni.mp C).1;have ee:es[i]=e:=by rw[G6 f]at C;exact C3 C
  rw[<-r]at t;have l:it<s.heap.objs.size:=z6 t;refine Bn (S:=it) ⟨_,_,_,_,t,.inl ⟨rfl,rfl⟩⟩ l F f λh' _ hT hz hk op=>?_;have o':=op _ _ t;rw[ee,W,Z]at hT o';refine⟨_,rfl,?_⟩;refine wpAny_letOwnedTupleGo_items (s:={ s with heap:=h' }) (show IsItemIterOut h' it a (i+1) es.size ep (.ref x.2.1) x.2.2 s.heap.objs.size from o') λh2 p T=>?_;have d:G9 it h' h2:=T;have O:h2.get? s.heap.objs.size=a7 { cls:=.type "tuple",data:=.seq #[.ref x.2.1,x.2.2] }:=d.extBut _ _ (Na l) hT;refine⟨.ref s.heap.objs.size,x3 H s.heap.objs.size<|.tup [.ref x.2.1,v],?_,rfl,⟨s.heap.objs.size,x,v,rfl,I.hok.fresh<|v6 _,rfl,hv,λys hy=>?_⟩,?_,λb j=>?_⟩;refine I.turnedT (t':=s.toks) y (λc o u e=>?_) (v6 _) ⟨by simp[MH],[.ref x.2.1,x.2.2],.cons rfl<|.cons hv .nil,⟨_,O,rfl,⟨0,rfl⟩,rfl⟩⟩;have m:c≠it:=by simpa using u
  exact d.extBut _ _ m<|hk _ _ m e;obtain⟨aj,G,ai,D⟩:=qL I hy;obtain⟨rfl,_⟩:=qK F G;have hj:i<ys.length:=by lia
  obtain⟨e',z1,B,z2⟩:=D i ys[i]<|x9 hj;rw[G6 f,ee]at z1;obtain rfl:=C3 z1;rw[W]at B;rw[Z]at z2;injection B with B;exact⟨ys[i],x9 hj,Prod.ext B.symm z2.symm⟩;rw[r]at p;exact⟨_,_,p⟩;obtain rfl:b=it:=by simpa using j
  rw[ax<|A4 l];exact J
 done:=by rintro X N U M u i q s σ H E I y ⟨ok,g,t⟩ R;subst N U M;obtain⟨⟨xs,L,rfl⟩,rfl⟩:=R;obtain⟨es,F,r,eg⟩:=qL I L;obtain⟨J,f1,f2,f3,f4,f5⟩:=y it (by simp);rw[<-r]at t;exact Et (S:=it) (I.ok.hd u) ⟨_,_,_,_,t,.inl ⟨rfl,rfl⟩⟩ F λh' he=>⟨rfl,I.turned (t':=s.toks) (λb o j e=>he b o j e) J f1 f3 f4 f5⟩
 self:=λA i s Q E ⟨ok,g,t⟩ hQ=>kcp_self (show IsItemIter s.heap it a i n ep ok g from t) hQ
theorem Ew{K:v4}{M:u8}{n:Nat}{a:c9}{kvs:List (D×D)}(s:rA M n kvs):∃ep,∀ρ' M' H',w4 K ρ' M' H'->ρ'[n]?=a7 a->M'[n]?=M[n]?->∃ys,H' a=a7 (.ext<|dQ a ep ys)/\Paired (rh K ρ' H') kvs ys/\ys.length=kvs.length:=by
 have B:∀{ρ':List c9}{H':Hp}{ys:List (D×c9×b8)},Paired (rh K ρ' H') kvs ys->ys.length=kvs.length:=λi=>by have:=t4 L1<|dB i;rwa [v7,v7]at this
 rcases s with s|⟨ep,s⟩
 refine⟨kvs.length,λρ' M' H' s' f ok=>?_⟩;obtain⟨_,_,_,ys,Q,i⟩:=s'.obj _ _ _ f<|ok.trans s;refine⟨ys,?_,i,B i⟩;rw[<-B i];exact Q;refine⟨ep,λρ' M' H' s' f ok=>?_⟩;obtain⟨_,_,_,ys,Q,i⟩:=s'.obj _ _ _ f<|ok.trans s;exact⟨ys,Q,i,B i⟩
def qQ(e:x6):Mw:=λS M R=>e S M λd a=>match d with
 |.ref n=>∃kvs,rA a n kvs/\(kvs.length<=sizeLine->R ⟨kvs.map<|λp=>.tup [p.1,p.2],λM=>M[n]?=a[n]?⟩ a)
 |_=>False
theorem Bv(ho:DE X o to)(l:m3 o "items" X.env (eval o X.env)=eval o X.env:=by rfl)(m:(apos.endLine==cpos.line)=a9:=by rfl):DI X (.Tuple elts x1 pos) (.Call (.Attribute o "items" apos) [] [] cpos) (qQ to):=by
 intro c s σ H R I h;obtain⟨S,M,ρ,Q,sm,sr,q,k⟩:=h;refine RQ l m<|w9 (ho c s σ H _ I ⟨S,M,ρ,_,sm,sr,q,λv H' w=>w⟩) ?_;rintro u L ⟨v,C,U,B,d,A,N,t,g1,r1,q1⟩;cases r1 with
 |@ref n a G =>
  obtain rfl:u=AB6 a:=B;obtain⟨kvs,hM,q2⟩:=(show ∃kvs,rA A n kvs/\(kvs.length<=sizeLine->Q ⟨kvs.map<|λp=>.tup [p.1,p.2],λM=>M[n]?=A[n]?⟩ A)from q1)
  obtain⟨_,_,_,_,dd,Z,hz,_⟩:=uc U t G hM;obtain⟨W,f⟩:=Ew (K:=X.K) (a:=a) hM;obtain⟨xs,hH,r,hx⟩:=f N A C t G rfl;obtain⟨es,em,el,_⟩:=qL U hH;refine⟨"dict","dict.items",Pc,PySem.F.slot_dict_items,PySem.F.type_dict_items,dd.typeIs,λb z=>?_,Od rfl<|RD<|Bm Z em ?_⟩;cases z;obtain⟨ob,_,_,h1,h2,_⟩:=dd;exact⟨ob,h1,h2.2.1⟩;have D:t9 X c σ C { L with heap:=L.heap.push { cls:=.type "dict_items",data:=.fields #[.ref a] } }:=U.kept (t':=L.toks) λb o e=>x5 _ e;have V:cK ({ L with heap:=L.heap.push { cls:=.type "dict_items",data:=.fields #[.ref a] } }:f6).heap a es W:=em.to λo e=>x5 _ e;refine Bo (d:=a) ⟨_,A8 _ rfl,rfl,rfl⟩ V ?_;rw[el];have Y:∀j:f6,t9 X c σ C j->Ps X c σ (.Tuple elts x1 pos) R (.ref j.heap.objs.size) { j with heap:=j.heap.push { cls:=.type "dict_itemiterator",data:=.fields #[.none,.bool b7,.ref a,.int 0 0,.int xs.length 0,.int W 0,.none,.none] } }:=λj D=>by
   refine⟨j.heap.objs.size,[j.heap.objs.size],_,_,C,rfl,D.kept (t':=j.toks) λb o e=>x5 _ e,xL a _ xs.length W,⟨_,_,A8 _ rfl⟩,λb hb=>?_,k _ C ⟨⟨kvs.map<|λp=>.tup [p.1,p.2],λM=>M[n]?=A[n]?⟩,A,N,t,g1,?_,q2 hz⟩⟩;obtain rfl:b=j.heap.objs.size:=by simpa using hb
   exact D.fpOk (v6 _)<|D.hok.fresh<|v6 _;refine⟨λi ρ' M' H' s' g ok hi=>?_,λi ρ' M' H' x H2 s' g ok hi y=>?_,λρ' M' H' s' g ok=>?_⟩;obtain⟨ys,J,P,ly⟩:=f ρ' M' H' s' (ao g.pre G) ok;rw[v7]at hi;have hj:i<ys.length:=by lia
   obtain⟨p,_,_,_,_,v,_,B⟩:=cy P<|x9 hj;exact⟨ys,ys[i],v,J,by lia,x9 hj,B⟩;obtain⟨T,x0,y0,rfl,O,rfl,rz,E⟩:=y;obtain⟨ys,J,P,_⟩:=f ρ' M' H' s' (ao g.pre G) ok;obtain⟨z,ai,ez⟩:=E ys J;obtain⟨p,hp,_,_,rk,v,rp,B⟩:=cy P ai;rw[ez]at rk B;obtain rfl:y0=v:=rz.inj B;exact⟨.tup [p.1,p.2],ρ',by rw[C7,hp];rfl,s'.laid O,Grow.laid O,.tup (B8.of aP)<|.cons (rk.grow<|Grow.laid O)<|.cons (rp.grow<|Grow.laid O) .nil⟩;obtain⟨ys,J,P,ly⟩:=f ρ' M' H' s' (ao g.pre G) ok;exact⟨⟨ys,J,by lia⟩,by rw[v7];lia⟩
  exact Y _ D
 |_=>exact q1.elim
theorem AH(B:HE X o to)(e:m3 o "items" X.env (eval o X.env)=eval o X.env:=by kernel_rfl)(a:(apos.endLine==cpos.line)=a9:=by kernel_rfl):HI X (.Tuple elts x1 pos) (.Call (.Attribute o "items" apos) [] [] cpos) (qQ to):=⟨Bv B.ok e a⟩
end L2
namespace L2
open PySem PySem.Spec PyProof.Rows DL
abbrev DTAX:=DX->Fn
inductive lowXA(K:v4)(E:XK)(t:DTAX)(σ:St)(H:Hp)(Q:List V->Hp->Prop):Prop
 |mk (S:SD) (M:u8) (ρ:List c9) (F:List D->u8->Prop) (R:DX) (s:w4 K ρ M H) (sr:SRep K ρ H S σ) (q:t R S M F) (k:∀v H',AQ K ρ H F v H'->Q v H') (x:∀C dx H',XQ K ρ H R C dx H'->E C dx H')
structure HXA(b:Bool)(X:Cx)(es:List ge)(t:DTAX):Prop where
 ok:∀(pos:Pos) (pins:List (c9×d5)) (s:f6) (σ:St) (H:Hp) (Q:List V->Hp->Prop) (E:XK) (P:St->Prop) (Ex:b8->f6->Prop),XA b X pins E P Ex->P σ->t9 X pins σ H s->lowXA X.K E t σ H Q->f9 (g7 X.prog X.w) X.A (spliced<|g9 pos<|h7 es X.env) (AP X pins σ Q) Ex s
def qInQ:G8:=λx y M Q=>match x,y with
 |.tup ks,.ref n=>∃kvs,rA M n kvs/\cL 8 (.tup ks)=a9/\Q (.bl (aB kvs<|.tup ks).isSome) M
 |_,_=>False
theorem JX(i:Room k X.A):J0 X (j4 .In) qInQ:=by
 rintro p s σ H G J v u R I o z ⟨x,y,M,ρ,Q,m,j,l,q,D⟩;have F:=i.un;cases x with
 |tup c =>
  cases y with
  |ref n =>
   obtain⟨kvs,h,g,q⟩:=q;obtain⟨a,rfl,f⟩:=u5.inv_ref l;cases z;obtain⟨xs,_,B,r,d,U,C,E,_⟩:=uc I m f h;have t:=cO I 8 _ _ _ j o g;obtain⟨b,_,rfl,_⟩:=id t;refine wpAny_in_heap (knd:=aX X.prog X.w) (k:=.tup c) (by show X.A.units+1+8<j6;lia) t U d ?_;have e:(m9 xs<|.tup c).isSome=(aB kvs<|.tup c).isSome:=by rcases nj r (.tup c)with⟨z1,z2⟩|⟨_,_,_,z1,z2,_⟩<;>rw[z1,z2]<;>rfl
   rw[e];exact gx (I.tok _) m D q
  |_=>exact q.elim
 |_=>exact q.elim
theorem KR(i:Room k X.A):J5 X (j4 .In) qInQ:=⟨JX i⟩
end L2
namespace LW
open PySem L2
local macro_rules | `(tactic| walk_at"sc")=>`(tactic| exact⟨rfl,rfl,rfl,by decide +kernel,rfl,by decide +kernel,by decide +kernel⟩)
local macro_rules | `(tactic| walk_at"dl")=>`(tactic| simp only[EE,ay,B9,BC,qS,NI,au,u7,aa,ag,aT,qR,dOrV,EI,dIfE,F6,oh,bB,af,bp,bc,iU,kJ,t7,dC,ab,fS,iA,Oj,uh,jZ,Qs,MR,bZ,Fl,qAdd,aN,ID,kN,aR,cq,Nr,Nj,NH,B7,Qr,xU,kD,IF,Jk,v5,Qq,cx,LO,Bw,gu,aG,gv,dZip,dMl0,jr,mC,xT,iw,EK,BD,jE,ui,eP,nD,Pl,oV,xm,uf,zN,qInQ,qQ,jq,pC,zM,EJ,Ol,oX,sY,Ji,EG,Jh,jM,xk,Ih,iD,sZ,SqAt,IE,mB,fQ,OL,MZ,Qt,K7,R1,eO,LD,C2,List.map_nil,List.cons_append,H9,RN,Qj,C0,D6,List.replicate_zero,List.replicate_succ,QR,QQ,NL,Nat.reduceAdd,Nat.reduceSub,Option.join_some,s9,r9,A7])
noncomputable def top(i:Nat):i3:=PySem.Challenge.pw_talkmarks_k42_what_is_new.main.body.getD i<|.Pass ⟨0,0,0,0⟩
noncomputable abbrev B_:List b9:=["dict","sorted","set","any","reversed","len","range","tuple","max","str","isinstance","int","bool","list","zip","all"]
noncomputable abbrev C_:List (b9×Int):=[]
noncomputable abbrev iH:List b9:=["pairs"]
noncomputable abbrev mL:List b9:=["house","thing"]
noncomputable abbrev gi:List b9:=["house","room"]
noncomputable abbrev jO:List b9:=["deed"]
noncomputable abbrev iF:List b9:=["deed"]
noncomputable abbrev iG:List b9:=["deed","vector"]
noncomputable abbrev dA:List b9:=["log","kind"]
noncomputable abbrev jP:List b9:=["log","kind","name"]
noncomputable abbrev ff:List b9:=["log","kind","name"]
noncomputable abbrev mI:List b9:=["say"]
noncomputable abbrev jN:List b9:=["say"]
noncomputable abbrev iJ:List b9:=["house","say","elders"]
noncomputable abbrev cC:List b9:=["house","log"]
noncomputable abbrev eD:List b9:=["deed","says"]
noncomputable abbrev fe:List b9:=["log","kind","says"]
noncomputable abbrev eA:List b9:=["log","says"]
noncomputable abbrev bK:List b9:=["log","says"]
noncomputable abbrev gh:List b9:=["say","changes"]
noncomputable abbrev gg:List b9:=["house","log"]
noncomputable abbrev cz:List b9:=["log","name"]
noncomputable abbrev mM:List b9:=["say","name","vectors","seen"]
noncomputable abbrev cA:List b9:=["house","log","name"]
noncomputable abbrev cP:List b9:=["says","room"]
noncomputable abbrev gj:List b9:=["depth","stamps"]
noncomputable abbrev dY:List b9:=["beneath"]
noncomputable abbrev mH:List b9:=["house","log","room"]
noncomputable abbrev dZ:List b9:=["house","log","name","room"]
noncomputable abbrev mK:List b9:=["house","log","name","room"]
noncomputable abbrev iI:List b9:=["house","log","name","room"]
noncomputable abbrev mN:List b9:=["_law_script","_law_k"]
noncomputable abbrev uY:List b9:=["_law_cell","_law_k"]
noncomputable abbrev Aa:List b9:=["_law_cell","_law_k"]
noncomputable abbrev mJ:List b9:=["_law_script","_law_start","_law_most"]
noncomputable abbrev uX:List b9:=["_law_number","_law_many"]
noncomputable abbrev uZ:List b9:=["_law_cell"]
noncomputable abbrev va:List b9:=["_law_house_here"]
noncomputable abbrev qf:List b9:=["_law_number","_law_names_here"]
noncomputable abbrev zY:List b9:=["_law_number","_law_says","_law_hands_here"]
noncomputable abbrev qc:List b9:=["_law_number","_law_hands_here","_law_counts"]
noncomputable abbrev zX:List b9:=["_law_number","_law_house_here","_law_says","_law_hands_here"]
noncomputable abbrev Gz:List b9:=["_law_number","_law_house_here","_law_says","_law_hands_here","_law_counts"]
noncomputable abbrev Gx:List b9:=["_law_house_here","_law_numbers_here","_law_hands_here"]
noncomputable abbrev jQ:List b9:=["_law_house_here","_law_log_here"]
noncomputable abbrev uW:List b9:=["_law_house_here","_law_log_here"]
noncomputable abbrev pZ:List b9:=["_law_counting_here","_law_room","_law_under"]
noncomputable abbrev zZ:List b9:=["_law_log_here","_law_name","_law_stamp","_law_told_here"]
noncomputable abbrev vc:List b9:=["_law_told_here","_law_due"]
noncomputable abbrev Gy:List b9:=["_law_script"]
structure Tops(P:c8)(w:c7)(K:v4)(mg:b9->Option b8)(base:d6):Prop where
 f_firsts_of:cI K mg "firsts_of" (top 4) iH
 f_is_room:cI K mg "is_room" (top 5) mL
 f_members_of:cI K mg "members_of" (top 6) gi
 f_stamp_of:cI K mg "stamp_of" (top 8) jO
 f_person_of:cI K mg "person_of" (top 9) iF
 f_is_within:cI K mg "is_within" (top 10) iG
 f_deeds_of_kind:cI K mg "deeds_of_kind" (top 12) dA
 f_deeds_by:cI K mg "deeds_by" (top 13) jP
 f_stamps_told:cI K mg "stamps_told" (top 14) ff
 f_room_of:cI K mg "room_of" (top 16) mI
 f_under_of:cI K mg "under_of" (top 17) jN
 f_can_stand:cI K mg "can_stand" (top 18) iJ
 f_says_that_count:cI K mg "says_that_count" (top 19) cC
 f_is_by_writer:cI K mg "is_by_writer" (top 20) eD
 f_writers_own:cI K mg "writers_own" (top 21) fe
 f_last_changes:cI K mg "last_changes" (top 22) eA
 f_stamps_taken_back:cI K mg "stamps_taken_back" (top 23) bK
 f_message_of:cI K mg "message_of" (top 24) gh
 f_says_shown:cI K mg "says_shown" (top 25) gg
 f_vectors_by_room:cI K mg "vectors_by_room" (top 27) cz
 f_is_read:cI K mg "is_read" (top 28) mM
 f_unread_messages:cI K mg "unread_messages" (top 29) cA
 f_stamps_beneath:cI K mg "stamps_beneath" (top 31) cP
 f_last_first:cI K mg "last_first" (top 32) gj
 f_rows_of_tree:cI K mg "rows_of_tree" (top 33) dY
 f_rows_of:cI K mg "rows_of" (top 34) mH
 f_new_messages:cI K mg "new_messages" (top 36) dZ
 f_new_for:cI K mg "new_for" (top 37) mK
 f_first_new:cI K mg "first_new" (top 38) iI
 f_cell_at:cI K mg "_law_cell_at" (top 40) mN
 f_mixed:cI K mg "_law_mixed" (top 41) uY
 f_free:cI K mg "_law_free" (top 42) Aa
 f_numbers:cI K mg "_law_numbers" (top 43) mJ
 f_names:cI K mg "_law_names" (top 44) uX
 f_house:cI K mg "_law_house" (top 45) uZ
 f_hands:cI K mg "_law_hands" (top 46) va
 f_saying:cI K mg "_law_saying" (top 47) qf
 f_told:cI K mg "_law_told" (top 48) zY
 f_vector:cI K mg "_law_vector" (top 49) qc
 f_what:cI K mg "_law_what" (top 50) zX
 f_act:cI K mg "_law_act" (top 51) Gz
 f_log:cI K mg "_law_log" (top 52) Gx
 f_counting:cI K mg "_law_counting" (top 53) jQ
 f_shown:cI K mg "_law_shown" (top 54) uW
 f_walkL:cI K mg "_law_walk" (top 55) pZ
 f_read:cI K mg "_law_read" (top 56) zZ
 f_alike:cI K mg "_law_alike" (top 57) vc
 f_law:cI K mg "law" (top 58) Gy
 b:TopB mg B_ C_
local macro_rules | `(tactic| walk_at"bb")=>`(tactic| first|exact Mc|exact Mb|exact IA|exact Iz|exact Ma|exact qX|exact LZ|exact Iy|exact LY|exact BT|exact LX|exact EX)
local macro_rules | `(tactic| walk_at"tb")=>`(tactic| exact TopB.no (by k_dflt assumption) (by kernel_rfl))
local macro_rules | `(tactic| walk_at"dvr")=>`(tactic| (repeat' (first|(with_reducible first|(refine gA ?_;first|exact Kv|refine Hh ?_ ?_)|exact k_var|(refine Lf ?_;first|exact k_int|exact k_bl|exact k_non|exact k_str)|(refine gCall ?_;first|refine Kx (by k_dflt assumption) ?_ ?_|refine Hm ?_ ?_|refine Hl ?_ ?_|refine yq (by k_dflt assumption) ?_ (by walk_at"tb") (by walk_at"tb")|refine Hn ?_ (by walk_at"tb") (by walk_at"bb") ?_|refine DV ?_ (by walk_at"tb") (by walk_at"bb") ?_|refine k_cal (by k_dflt assumption) (by k_dflt assumption) ?_ (hj:=Nat.ble_eq_true_of_le (by lia))|refine Hi (by k_dflt assumption) ?_ ?_|refine KD (by k_dflt assumption) ?_ ?_|refine KB (by k_dflt assumption) ?_ ?_|refine k_ms ?_ ?_ ?_|refine k_ml ?_ ?_ ?_|refine k_ml0 ?_ ?_)|(refine gIx ?_;first|refine Hj ?_ ?_ ?_|refine Kz (by k_dflt assumption) ?_ ?_ (hs:=by k_dflt (intro _ _;kernel_rfl))|refine KG (by k_dflt assumption) ?_ ?_ (hs:=by k_dflt (intro _ _;kernel_rfl))|refine KA (by k_dflt assumption) ?_ ?_ (hs:=by k_dflt (intro _ _;kernel_rfl))|refine k_ix ?_ ?_ (hs:=by k_dflt (intro _ _;kernel_rfl)))|(refine gT ?_;first|refine Ki ?_ ?_ ?_|refine Kh ?_|refine kw_t (Fq ?_ ?_)|refine kw_t (Kf ?_ ?_)|refine Kg ?_)|(refine gE ?_;first|exact KF|exact Ky|exact KC|exact Kw (by walk_at"tb") (by walk_at"bb")|refine k_op ?_ ?_ ?_|refine k_not ?_|refine k_cmp ?_ ?_ ?_|refine k_one ?_|refine k_and ?_ ?_|refine k_or ?_ ?_|refine Hk ?_ ?_ ?_|refine k_tup ?_|refine k_lst ?_|refine k_lcN ?_ (λ_ _ _ _=>?_) (λ_ _ _ _=>?_) (λ_ _ _ _=>?_))|(refine gS ?_;first|exact wZ|refine AE ?_|refine Fv ?_|refine Kl ?_ ?_ ?_|refine tV (by k_dflt assumption) ?_ (λ_ _ _ _=>?_) (λ_ _ _ _=>?_) (λ_ _ _ _=>?_)|refine Fu (by k_dflt assumption) ?_|refine Fx ?_ ?_|refine AD (by k_dflt assumption) ?_ ?_ ?_|refine Fw ?_ ?_ ?_|refine wY ?_ ?_)|(refine gOp ?_;first|exact Hw|exact ho_eq (by k_dflt assumption)|exact Hv|exact ho_gt|exact ho_in (by k_dflt assumption)|exact KR (by k_dflt assumption)|exact KQ (by k_dflt assumption)|exact ho_is|exact ho_lt|exact KP|exact KO|exact ho_ne (by k_dflt assumption)|exact Ed (by k_dflt assumption)|exact KN|exact KM|exact KL)|(refine gC ?_;first|exact Lc|exact Lb|exact AX (by k_dflt assumption)|exact Ek (by k_dflt assumption)|exact Ej (by k_dflt assumption)|exact La|exact KZ|exact HF|exact HD|exact yu (by k_dflt assumption)|exact yt (by k_dflt assumption)|exact Ei)|exact Kk|exact GY|exact Hc|exact Hf|refine Kj ?_|refine Fq ?_ ?_|refine Kf ?_ ?_|refine GU ?_|refine Ke ?_|refine GX ?_|refine Hb ?_|refine AG (by walk_at"tb") ?_|refine Km (by walk_at"tb") ?_|refine Ko (by walk_at"tb") ?_|refine DN ?_|refine DO ?_|refine AH ?_|refine Kn ?_|exact Hg (by k_dflt assumption)|exact Kr (Ka (by kernel_rfl))|refine DP ?_ ?_|refine Kp ?_|refine Kq ?_ ?_|exact AV|exact AU|exact Ee|exact KU|exact yr)|refine Ha ?_ ?_|refine AE ?_|refine Fv ?_|refine Kl ?_ ?_ ?_|refine tV (by k_dflt assumption) ?_ (λ_ _ _ _=>?_) (λ_ _ _ _=>?_) (λ_ _ _ _=>?_)|refine Fu (by k_dflt assumption) ?_|refine Fx ?_ ?_|refine AD (by k_dflt assumption) ?_ ?_ ?_|refine Fw ?_ ?_ ?_|refine wY ?_ ?_|exact wZ)))
local macro_rules | `(tactic| walk_at"dv")=>`(tactic| (intro _ _ _ _ _ _ _ _ _ _;refine HH rfl ?_;walk_at"dvr"))
section
variable{P:c8}{w:c7}{K:v4}{mg:b9->Option b8}{base:d6}
noncomputable def iE(p:b9×Int):D:=.tup [.str p.1,.int p.2]
def Hd(d:D):Prop:=∃(x:b9) (k:Int),d=.tup [.str x,.int k]
theorem Hz(f:Hd a)(d:Hd b):u6 M (n+1) a b=a9↔a=b:=by obtain⟨x,k,rfl⟩:=f;obtain⟨y,l,rfl⟩:=d;show (u6 M n (.str x) (.str y)&&(u6 M n (.int k) (.int l)&&a9))=a9↔_;rw[aJ,iR];simp
theorem KW(f:Hd a):v9 M u9 a=a9:=by obtain⟨x,k,rfl⟩:=f;rfl
noncomputable def nL(hs:List (D×Int)):List D:=hs.map λp=>.tup [p.1,.int p.2]
noncomputable def cr(hs:List (D×Int))(d:D)(num:Int):Bool:=match hs.find? λp=>decide (p.1=d) with
 |some p=>decide<|num<p.2
 |none=>b7
noncomputable def Rq:Nat->D->Bool
 |n+1,.tup xs=>xs.all<|Rq n
 | 0,.tup _=>b7
 |_,.ref _=>b7
 |_,.ty _=>b7
 |_,_=>a9
def G7(n:Nat)(d:D):Prop:=Rq n d=a9
def nN(n:Nat)(ds:List D):Prop:=ds.all (Rq n)=a9
theorem G7.non:G7 n .non:=by cases n<;>rfl
theorem G7.bl(b:Bool):G7 n (.bl b):=by cases n<;>rfl
theorem G7.int(i:Int):G7 n (.int i):=by cases n<;>rfl
theorem G7.str(x:b9):G7 n (.str x):=by cases n<;>rfl
theorem nN.nil:nN n []:=rfl
theorem nN.cons(h:G7 n d)(t:nN n ds):nN n (d::ds):=by unfold nN G7 at *;rw[Mq,h,t];rfl
theorem G7.tup(h:nN n ds):G7 (n+1) (.tup ds):=h
theorem nN.of(h:∀d∈ds,G7 n d):nN n ds:=E8.mpr h
theorem bG:∀(n:Nat) (d:D),G7 n d->D4 k d:=by
 intro n;induction n with
 |zero =>
  intro d h;cases d with
  |tup xs=>cases h
  |ref i=>cases h
  |ty t=>cases h
  |non=>exact .non
  |bl b=>exact .bl b
  |int i=>exact .int i
  |str x=>exact .str x
 |succ n c =>
  intro d h;cases d with
  |tup xs=>exact .tup<|Bels.of λx a=>c x<|E8.mp h x a
  |ref i=>cases h
  |ty t=>cases h
  |non=>exact .non
  |bl b=>exact .bl b
  |int i=>exact .int i
  |str x=>exact .str x
theorem qI:∀{xs:List D},(∀x∈xs,f x x=a9)->D5 f xs xs=a9
 | [],_=>rfl
 |x::xs,h=>by show (f x x&&D5 f xs xs)=a9;rw[h x (by simp),qI λy hy=>h y<|C4 _ hy];rfl
theorem wN:∀(n m:Nat) (d:D),n<=m->G7 n d->v9 M m d=a9/\u6 M m d d=a9:=by
 intro n;induction n with
 |zero =>
  intro m d _ h;cases d with
  |tup xs=>cases h
  |ref i=>cases h
  |ty t=>cases h
  |non=>exact⟨Ae,by cases m<;>rfl⟩
  |bl b=>exact⟨Fm,by cases m<;>cases b<;>rfl⟩
  |int i=>exact⟨aI,by rw[iR];exact t5 i⟩
  |str x=>exact⟨ak,by rw[aJ];exact t5 x⟩
 |succ n c =>
  intro m d e h;cases m with
  |zero=>lia
  |succ m =>
   cases d with
   |tup xs=>exact⟨GE λx a=>(c m x (by lia)<|E8.mp h x a).1,qI λx a=>(c m x (by lia)<|E8.mp h x a).2⟩
   |ref i=>cases h
   |ty t=>cases h
   |non=>exact⟨Ae,rfl⟩
   |bl b=>exact⟨Fm,by cases b<;>rfl⟩
   |int i=>exact⟨aI,by rw[iR];exact t5 i⟩
   |str x=>exact⟨ak,by rw[aJ];exact t5 x⟩
theorem Hy(h:Hd d):G7 (n+1) d:=by obtain⟨x,i,rfl⟩:=h;exact .tup<|.cons (.str _)<|.cons (.int _) .nil
theorem KY(h:Hd d):D4 k d:=bG 1 d<|Hy h
noncomputable def nw:D->D
 |.tup (_::h::_)=>h
 |_=>.non
noncomputable def uE:D->Int
 |.tup (_::_::.int n::_)=>n
 |_=>0
noncomputable def many(log:List D)(h:D):Nat:=(log.filter λd=>decide<|nw d=h).length
theorem gR:aB (fV kvs k d) k=a7 d:=by
 unfold fV;split;rename_i hs;unfold aB at hs ⊢;rw[QK]at hs;obtain⟨q,h⟩:=Q9.mp hs;rw[PK];have e:((λp:D×D=>decide<|p.1=k) ∘ λp:D×D=>if p.1=k then(p.1,d)else p)=λp=>decide (p.1=k):=by funext p;show decide ((if p.1=k then(p.1,d)else p).1=k)=decide (p.1=k);split<;>rfl
 rw[e,h];have a:q.1=k:=by have:=Ox h;exact oT_ this
 show a7 (if q.1=k then(q.1,d)else q).2=_;rw[o8 a];rename_i hs;unfold aB at hs ⊢;rw[QK,Option.not_isSome_iff_eq_none]at hs;rw[QJ,hs];simp
theorem eL(h:j≠k):aB (fV kvs k d) j=aB kvs j:=by
 unfold fV;split;unfold aB;rw[PK];have e:((λp:D×D=>decide<|p.1=j) ∘ λp:D×D=>if p.1=k then(p.1,d)else p)=λp=>decide (p.1=j):=by funext p;show decide ((if p.1=k then(p.1,d)else p).1=j)=decide (p.1=j);split<;>rfl
 rw[e];cases f:kvs.find? λp=>decide (p.1=j) with
 |none=>rfl
 |some q =>
  have a:q.1=j:=by have:=Ox f;exact oT_ this
  show a7 (if q.1=k then(q.1,d)else q).2=a7 q.2;rw[p4<|by rw[a];exact h]
 unfold aB;rw[QJ];cases f:kvs.find? λp=>decide (p.1=j) with
 |none=>simp[z9 h]
 |some q=>rfl
theorem fi:∀{kvs:List (D×D)}{p:D×D},(kvs.map (·.1)).Nodup->p∈kvs->aB kvs p.1=a7 p.2
 |q::kvs,p,nd,h=>by rw[C2,J7]at nd;unfold aB;rw[Mj];rcases A1.mp h with rfl|h;rw[dT_ rfl];rfl;have:q.1≠p.1:=λz=>nd.1 (by rw[z];exact Mv h);rw[dF_ this];exact fi nd.2 h
theorem br(h:aB kvs k=a7 d):(k,d)∈kvs:=by
 unfold aB at h;obtain⟨q,a,rfl⟩:=MQ.mp h;have e:q.1=k:=by have:=Ox a;exact oT_ this
 rw[<-e];exact RW a
theorem jo{α:Type}{P:List α->Prop}(a:P [])(h1:∀l x,P l->P (l++[x]))(l:List α):P l:=by
 rw[<-List.reverse_reverse l];induction l.reverse with
 |nil=>exact a
 |cons x xs i=>rw[P7];exact h1 _ _ i
theorem ql(h:am M n xs)(ok:∀x∈xs,v9 (M++[MO.lst []]) 29 x=a9):(v9 (M++[MO.lst []]) u9 (.ref n)=a9/\v9 (M++[MO.lst []]) u9 (.ref M.length)=a9)/\u6 (M++[MO.lst []]) u9 (.ref n) (.ref M.length)=xs.isEmpty:=by have h1:am (M++[MO.lst []]) n xs:=h.more _;have h2:am (M++[MO.lst []]) M.length []:=ah;refine⟨⟨qj (n:=29) h1 ok,qj (n:=29) h2 λ_ z=>nomatch z⟩,?_⟩;exact(xh (n:=29) h1 h2).trans HM
theorem An(h:m≠n)(l:am M m xs):am (M.set n x) m xs:=by rcases l with l|l|l;exact .inl (by rw[MB<|z9 h];exact l);exact .inr (.inl<|by rw[MB<|z9 h];exact l);exact .inr<|.inr<|by rw[MB<|z9 h];exact l
theorem aO{M:u8}{m n:Nat}{x y:MO}(h:m≠n)(l:M[m]?=a7 y):(M.set n x)[m]?=a7 y:=by rw[MB<|z9 h];exact l
theorem aK{M:u8}{m:Nat}{y:MO}(l:M[m]?=a7 y):m<M.length:=(A6.mp l).1
theorem tH(l:am M m xs):m<M.length:=by rcases l with l|l|l<;>exact aK l
theorem ac{B:u8}{q:Nat}{x a:MO}(h:B[q]?=a7 x):(B++[a])[q]?=a7 x:=by rw[L5 (A6.mp h).1];exact h
theorem bH{B:u8}{q:Nat}{x a:MO}(h:B[q]?=a7 x):(B.set q a)[q]?=a7 a:=MX (A6.mp h).1
theorem bW(p:M <+: B)(l:am M q xs):am B q xs:=by obtain⟨L,rfl⟩:=p;exact l.more L
theorem aH{M B:u8}{q:Nat}{x:MO}(p:M <+: B)(l:M[q]?=a7 x):B[q]?=a7 x:=by obtain⟨L,rfl⟩:=p;rw[L5<|aK l];exact l
theorem xc(xs:List Int):Bels k (xs.map D.int):=Bels.of λd h=>by obtain⟨x,_,rfl⟩:=z5.mp h;exact .int x
theorem CF(xs:List b9):Bels k (xs.map D.str):=Bels.of λd h=>by obtain⟨x,_,rfl⟩:=z5.mp h;exact .str x
theorem bV{a b:Int}(h:0<b):0<=a % b:=Int.emod_nonneg _<|by lia
theorem cu{a b:Int}(h:0<b):a % b<b:=Int.emod_lt_of_pos _ h
theorem jG{α:Type}{xs:List α}{i:Int}(h:1<=xs.length):∃x∈xs,atI xs (i % (xs.length:Int))=a7 x:=by obtain⟨j,L,z,_⟩:=BU (xs:=xs) (bV (a:=i) (b:=xs.length)<|by lia) (cu<|by lia);exact⟨xs[j],MV L,z⟩
theorem bx(p:M <+: B)(h:M.length<=q):M <+: B.set q x:=by obtain⟨L,rfl⟩:=p;rw[QZ _ _ h];exact Mm _ _
noncomputable def cR(p:b9×Int):List D:=(ie 0 p.2.toNat).map λk=>.tup [.str p.1,k]
noncomputable def bg(ps:List (b9×Int)):List D:=ps.flatMap cR
def Rw(ps:List (b9×Int)):Prop:=ps.length<=4/\∀p∈ps,0<=p.2/\p.2<=3
theorem iQ:(cR p).length=p.2.toNat:=by simp[cR,ie]
theorem pp(h:∀p∈ps,0<=p.2/\p.2<=3):(bg ps).length<=3*ps.length:=by
 induction ps with
 |nil=>simp[bg]
 |cons p ps i =>
  have:=i λq a=>h q<|C4 _ a;have h1:=h p D3;have e:(bg<|p::ps).length=p.2.toNat+(bg ps).length:=by rw[bg,N9,A3,iQ];rfl
  rw[e,C0];lia
theorem qE:∀d∈bg ps,Hd d:=λd h=>by unfold bg at h;obtain⟨p,_,hp⟩:=List.mem_flatMap.mp h;unfold cR ie at hp;simp only[D9,z5]at hp;obtain⟨i,_,rfl⟩:=hp;exact⟨_,_,rfl⟩
theorem yw:Bels k (bg ps):=Bels.of λd h=>KY<|qE d h
noncomputable def kM(p:b9×List b9):D:=.tup [.str p.1,.tup<|p.2.map .str]
noncomputable def aC(ps:List (b9×Int))(rs:List (b9×List b9)):D:=.tup [.tup<|ps.map iE,.tup<|rs.map kM]
structure HouseF(ps:List (b9×Int))(rs:List (b9×List b9)):Prop where
 len:1<=ps.length/\ps.length<=4
 many:∀p∈ps,1<=p.2/\p.2<=3
 nm:∀p∈ps,p.1.length<=8
 rl:1<=rs.length/\rs.length<=4
 pnd:(ps.map (·.1)).Nodup
 rnd:(rs.map (·.1)).Nodup
 sb:∀r∈rs,r.2.Sublist (ps.map (·.1))
def St(d:D):Prop:=∃(t:Int) (z:b9) (k:Int),d=.tup [.int t,.tup [.str z,.int k]]
theorem St.key(h:St d):cL 8 d=a9:=by obtain⟨t,z,k,rfl⟩:=h;rfl
theorem St.ok(h:St d):v9 M u9 d=a9:=by obtain⟨t,z,k,rfl⟩:=h;rfl
theorem St.pl(h:St d):G7 (n+2) d:=by obtain⟨t,z,k,rfl⟩:=h;exact .tup<|.cons (.int _)<|.cons (.tup<|.cons (.str _)<|.cons (.int _) .nil) .nil
theorem St.eq(f:St a)(d:St b):u6 M (n+2) a b=decide (a=b):=by
 obtain⟨t,z,k,rfl⟩:=f;obtain⟨t',G,I,rfl⟩:=d;have e:u6 M (n+2) (.tup [.int t,.tup [.str z,.int k]]) (.tup [.int t',.tup [.str G,.int I]])=((t==t')&&(((z==G)&&((k==I)&&a9))&&a9)):=by show (u6 M (n+1) (.int t) (.int t')&&((u6 M n (.str z) (.str G)&&(u6 M n (.int k) (.int I)&&a9))&&a9))=_;rw[iR,aJ,iR]
 rw[e];by_cases h:D.tup [.int t,.tup [.str z,.int k]]=.tup [.int t',.tup [.str G,.int I]];rw[dT_ h];simp only[D.tup.injEq,O1,D.int.injEq,D.str.injEq,and_true]at h;obtain⟨rfl,rfl,rfl⟩:=h;simp;rw[dF_ h];simp only[D.tup.injEq,O1,D.int.injEq,D.str.injEq,and_true]at h;refine NF.mpr λq=>h ?_;simpa using q
theorem St.tup(h:St d):∃ks,d=.tup ks:=by obtain⟨t,z,k,rfl⟩:=h;exact⟨_,rfl⟩
def Md(d:D):Prop:=(∃x:b9,d=.tup [.str<|u4 "room",.str x])\/(∃x:b9,d=.tup [.str<|u4 "person",.str x])\/∃(t:Int) (z:b9) (k:Int),d=.tup [.str<|u4 "under",.tup [.int t,.tup [.str z,.int k]]]
theorem Md.pl4(h:Md d):G7 4 d:=by rcases h with⟨x,rfl⟩|⟨x,rfl⟩|⟨t,z,k,rfl⟩<;>rfl
def VecK(vs:List D):Prop:=∃hs:List (D×Int),vs=nL hs/\(∀p∈hs,Hd p.1)/\hs.length<=12/\(hs.map (·.1)).Nodup
structure ActK(rs:List (b9×List b9))(x:b9)(ds:List D):Prop where
 say:x=u4 "say"->∃(r:b9) (u:D) (s:b9),ds=[.str r,u,.str s]/\r∈rs.map (·.1)/\(u=.non\/St u)
 change:x=u4 "change"->∃(m:D) (s:b9),ds=[m,.str s]/\St m
 back:x=u4 "back"->∃m:D,ds=[m]/\St m
 like:x=u4 "like"->∃(m:D) (s:b9) (b:Bool),ds=[m,.str s,.bl b]/\St m
 read:x=u4 "read"->∃(r:b9) (vs:List D),ds=[.str r,.tup vs]/\VecK vs
 seen:x=u4 "seen"->∃m:D,ds=[m]/\St m
 rung:x=u4 "rung"->∃m:D,ds=[m]/\St m
 hush:x=u4 "hush"->∃(w:D) (b:Bool),ds=[w,.bl b]/\Md w
section
variable{rs:List (b9×List b9)}
theorem cv{a b:b9}{P:Prop}(e:a=b)(h:(a==b)=b7:=by decide +kernel):P:=p7 e<|beq_eq_false_iff_ne.mp h
theorem ActK.mkSay(i:r∈rs.map (·.1))(g:u=.non\/St u):ActK rs (u4 "say") [.str r,u,.str s]:=⟨λ_=>⟨r,u,s,rfl,i,g⟩,(cv ·),(cv ·),(cv ·),(cv ·),(cv ·),(cv ·),(cv ·)⟩
theorem ActK.mkChange(h:St m):ActK rs (u4 "change") [m,.str s]:=⟨(cv ·),λ_=>⟨m,s,rfl,h⟩,(cv ·),(cv ·),(cv ·),(cv ·),(cv ·),(cv ·)⟩
theorem ActK.mkBack(h:St m):ActK rs (u4 "back") [m]:=⟨(cv ·),(cv ·),λ_=>⟨m,rfl,h⟩,(cv ·),(cv ·),(cv ·),(cv ·),(cv ·)⟩
theorem ActK.mkLike(h:St m):ActK rs (u4 "like") [m,.str s,.bl b]:=⟨(cv ·),(cv ·),(cv ·),λ_=>⟨m,s,b,rfl,h⟩,(cv ·),(cv ·),(cv ·),(cv ·)⟩
theorem ActK.mkRead(h:VecK vs):ActK rs (u4 "read") [.str r,.tup vs]:=⟨(cv ·),(cv ·),(cv ·),(cv ·),λ_=>⟨r,vs,rfl,h⟩,(cv ·),(cv ·),(cv ·)⟩
theorem ActK.mkSeen(h:St m):ActK rs (u4 "seen") [m]:=⟨(cv ·),(cv ·),(cv ·),(cv ·),(cv ·),λ_=>⟨m,rfl,h⟩,(cv ·),(cv ·)⟩
theorem ActK.mkRung(h:St m):ActK rs (u4 "rung") [m]:=⟨(cv ·),(cv ·),(cv ·),(cv ·),(cv ·),(cv ·),λ_=>⟨m,rfl,h⟩,(cv ·)⟩
theorem ActK.mkHush{w:D}{b:Bool}(h:Md w):ActK rs (u4 "hush") [w,.bl b]:=⟨(cv ·),(cv ·),(cv ·),(cv ·),(cv ·),(cv ·),(cv ·),λ_=>⟨w,b,rfl,h⟩⟩
end
def aE(ps:List (b9×Int))(rs:List (b9×List b9))(d:D):Prop:=∃(t:Int) (z:b9) (k m:Int) (x:b9) (ds:List D),d=.tup [.int t,.tup [.str z,.int k],.int m,.tup<|.str x::ds]/\1<=t/\D.tup [.str z,.int k]∈bg ps/\nN 4 ds/\ActK rs x ds
section
variable{ps:List (b9×Int)}{rs:List (b9×List b9)}
theorem aE.pl(h:aE ps rs d):G7 6 d:=by obtain⟨t,z,k,m,x,ds,rfl,_,_,hp,_⟩:=h;exact .tup<|.cons (.int _)<|.cons (Hy ⟨_,_,rfl⟩)<|.cons (.int _)<|.cons (.tup<|.cons (.str _) hp) .nil
theorem aE.bels(h:∀d∈ds,aE ps rs d):Bels k ds:=Bels.of λd a=>bG 6 d (h d a).pl
end
noncomputable def bA:D->b9
 |.tup [_,_,_,.tup<|.str x::_]=>x
 |_=>u4 ""
noncomputable def bQ:D->b9
 |.tup (_::.tup (.str z::_)::_)=>z
 |_=>u4 ""
noncomputable def v8:D->D
 |.tup (t::h::_)=>.tup [t,h]
 |_=>.non
noncomputable def aW:D->b9
 |.tup [_,_,_,.tup<|_::.str r::_]=>r
 |_=>u4 ""
noncomputable def cN:D->D
 |.tup [_,_,_,.tup<|_::_::u::_]=>u
 |_=>.non
noncomputable def nV:D->D
 |.tup [_,_,_,.tup<|_::m::_]=>m
 |_=>.non
noncomputable def Jc:D->D
 |.tup [_,_,_,.tup<|_::_::_::s::_]=>s
 |_=>.non
noncomputable def Af:D->D
 |.tup [_,_,n,_]=>n
 |_=>.non
noncomputable def nM(rs:List (b9×List b9))(r:b9):List b9:=((rs.find? λp=>decide<|p.1=r).map (·.2)).getD []
noncomputable def kinds(log:List D)(k:b9):List D:=log.filter λd=>decide<|bA d=k
section
variable{ps:List (b9×Int)}{rs:List (b9×List b9)}
theorem dI(h:aE ps rs d)(e:bA d=u4 "say"):∃(t:Int) (z:b9) (k num:Int) (r:b9) (u:D) (s:b9),d=.tup [.int t,.tup [.str z,.int k],.int num,.tup [.str<|u4 "say",.str r,u,.str s]]/\1<=t/\D.tup [.str z,.int k]∈bg ps/\r∈rs.map (·.1)/\(u=.non\/St u):=by obtain⟨t,z,k,num,x,ds,rfl,h1,h2,_,f⟩:=h;obtain rfl:x=u4 "say":=e;obtain⟨r,u,s,rfl,i,g⟩:=f.say rfl;exact⟨t,z,k,num,r,u,s,rfl,h1,h2,i,g⟩
theorem jF(h:aE ps rs d)(e:bA d=u4 "change"):∃(t:Int) (z:b9) (k num:Int) (m:D) (s:b9),d=.tup [.int t,.tup [.str z,.int k],.int num,.tup [.str<|u4 "change",m,.str s]]/\St m:=by obtain⟨t,z,k,num,x,ds,rfl,h1,h2,_,f⟩:=h;obtain rfl:x=u4 "change":=e;obtain⟨m,s,rfl,a⟩:=f.change rfl;exact⟨t,z,k,num,m,s,rfl,a⟩
theorem vR(h:aE ps rs d)(e:bA d=u4 "back"):∃(t:Int) (z:b9) (k num:Int) (m:D),d=.tup [.int t,.tup [.str z,.int k],.int num,.tup [.str<|u4 "back",m]]/\St m:=by obtain⟨t,z,k,num,x,ds,rfl,h1,h2,_,f⟩:=h;obtain rfl:x=u4 "back":=e;obtain⟨m,rfl,a⟩:=f.back rfl;exact⟨t,z,k,num,m,rfl,a⟩
end
section
variable{ps:List (b9×Int)}{rs:List (b9×List b9)}
theorem zK(h:aE ps rs d)(e:bA d=u4 "read"):∃(t:Int) (z:b9) (k num:Int) (r:b9) (hs:List (D×Int)),d=.tup [.int t,.tup [.str z,.int k],.int num,.tup [.str<|u4 "read",.str r,.tup<|nL hs]]/\(∀p∈hs,Hd p.1)/\hs.length<=12:=by obtain⟨t,z,k,num,x,ds,rfl,h1,h2,_,f⟩:=h;obtain rfl:x=u4 "read":=e;obtain⟨r,vs,rfl,hs,rfl,c,j,_⟩:=f.read rfl;exact⟨t,z,k,num,r,hs,rfl,c,j⟩
theorem FZ(h:aE ps rs d)(e:bA d=u4 "seen"\/bA d=u4 "rung"):∃(t:Int) (z:b9) (k num:Int) (x:b9) (m:D),d=.tup [.int t,.tup [.str z,.int k],.int num,.tup [.str x,m]]/\St m:=by obtain⟨t,z,k,num,x,ds,rfl,h1,h2,_,f⟩:=h;obtain⟨m,rfl,a⟩:∃m:D,ds=[m]/\St m:=e.elim (λe=>f.seen e) λe=>f.rung e;exact⟨t,z,k,num,x,m,rfl,a⟩
end
local macro_rules | `(tactic| walk_at"ifs")=>`(tactic| simp only[Fl,A7,↓reduceIte,MI,Bool.not_false])
noncomputable def oT(rs:List (b9×List b9))(kvs:List (D×D))(d:D):Bool:=decide (bQ d∈nM rs (aW d))&&(decide (cN d=.non)||match aB kvs (cN d) with
 |some e=>decide<|aW e=aW d
 |none=>b7)
noncomputable def sM(rs:List (b9×List b9))(kvs:List (D×D))(d:D):List (D×D):=if oT rs kvs d=a9 then fV kvs (v8 d) d else kvs
noncomputable def bP(rs:List (b9×List b9))(l:List D):List (D×D):=l.foldl (sM rs) []
theorem fA:bP rs (l++[d])=sM rs (bP rs l) d:=by unfold bP;rw[List.foldl_append];rfl
noncomputable def ap(rs:List (b9×List b9))(log:List D):List (D×D):=bP rs<|kinds log<|u4 "say"
theorem pj:kinds (log++[d]) k=kinds log k++if bA d=k then[d]else[]:=by unfold kinds;rw[List.filter_append];congr 1;by_cases h:bA d=k;rw[J3,dT_ h,o8 rfl,o8 h];rfl;rw[J3,dF_ h,p4 (by decide),p4 h];rfl
theorem bz(h:d∈kinds log k):d∈log/\bA d=k:=⟨(E5.mp h).1,oT_ (E5.mp h).2⟩
theorem bn:(kinds log k).length<=log.length:=Mn _ _
structure TabK(l:List D)(kvs:List (D×D)):Prop where
 nd:(kvs.map (·.1)).Nodup
 en:∀p∈kvs,p.1=v8 p.2/\p.2∈l
 len:kvs.length<=l.length
theorem pW(h:p∈fV kvs k d):p=(k,d)\/p∈kvs:=by unfold fV at h;split at h;obtain⟨q,a,rfl⟩:=z5.mp h;split;rename_i e;rw[e];exact .inl rfl;exact .inr a;rcases F0.mp h with h|h;exact .inr h;exact .inl<|by simpa using h
theorem zQ:(fV kvs k d).length<=kvs.length+1:=by unfold fV;split;rw[v7];lia;simp
theorem ka(l:List D):TabK l (bP rs l):=by
 refine jo (P:=λl=>TabK l<|bP rs l) ⟨.nil,(λ_ z=>nomatch z),v6 _⟩ (λl d i=>?_) l;rw[fA];unfold sM;have hs:∀p∈bP rs l,p.1=v8 p.2/\p.2∈l++[d]:=λp hp=>⟨(i.en p hp).1,MW _ (i.en p hp).2⟩
 have g:=i.len;split;refine⟨mD i.nd,λp hp=>?_,?_⟩;rcases pW hp with rfl|hp;exact⟨rfl,by simp⟩;exact hs p hp;have:=zQ (kvs:=bP rs l) (k:=v8 d) (d:=d);rw[A3,F3];lia;exact⟨i.nd,hs,by rw[A3,F3];lia⟩
theorem bo:TabK (kinds log<|u4 "say") (ap rs log):=ka _
theorem FC(t:TabK l kvs)(h:aB kvs k=a7 e):k=v8 e/\e∈l:=t.en _<|br h
noncomputable def L6(kvs:List (D×D))(d:D):Bool:=match aB kvs (nV d) with
 |some e=>decide<|bQ d=bQ e
 |none=>b7
def Pu(d:D):Prop:=∃(a:D) (z:b9) (r m:List D),d=.tup (a::.tup (.str z::r)::m)
section
variable{ps:List (b9×Int)}{rs:List (b9×List b9)}
theorem aE.nm(h:aE ps rs d):Pu d:=by obtain⟨t,z,k,m,x,ds,rfl,_⟩:=h;exact⟨_,_,_,_,rfl⟩
theorem aE.st(h:aE ps rs d):St (v8 d):=by obtain⟨t,z,k,m,x,ds,rfl,_⟩:=h;exact⟨_,_,_,rfl⟩
theorem St.cm(f:St a)(d:St b):kb M u9 a b=a9:=by
 obtain⟨t,z,k,rfl⟩:=f;obtain⟨t',G,I,rfl⟩:=d;show (if u6 M 29 (.int t) (.int t')=a9 then(if u6 M 29 (.tup [.str z,.int k]) (.tup [.str G,.int I])=a9 then a9 else(if u6 M 28 (.str z) (.str G)=a9 then(if u6 M 28 (.int k) (.int I)=a9 then a9 else a9)else a9))else a9)=a9
 repeat' split
 all_goals rfl
theorem zx(h:∀x∈xs,St x)(l:xs.length<64):SrtOk M xs:=by refine⟨l,λx a=>?_,λx a y Q=>(h x a).cm<|h y Q,.inr<|.inr<|.inr<|.inl λx a=>?_⟩;obtain⟨t,z,k,rfl⟩:=h x a;rfl;obtain⟨t,z,k,rfl⟩:=h x a;exact⟨_,_,rfl⟩
end
def aQ(kvs:List (D×D))(log:List D)(k:D):Prop:=∃d∈kinds log (u4 "back"),L6 kvs d=a9/\nV d=k
theorem wL(h:k∉kvs.map (·.1)):fV kvs k d=kvs++[(k,d)]:=by unfold fV;rw[p4];intro z;obtain⟨e,i⟩:=Q9.mp z;exact h (Mv (f:=(·.1))<|br i)
theorem nC(ps:List (D×D))(h:(ps.map (·.1)).Nodup):dictOf ps=ps:=by revert h;refine jo (P:=λps=>(ps.map (·.1)).Nodup->dictOf ps=ps) (λ_=>rfl) (λps p i h=>?_) ps;rw[G1]at h;have h':=P3.mp h;rw[fx,i h'.1,wL];intro z;exact h'.2.2 _ z _ (by simp) rfl
theorem qD{M:u8}{x:b9}{l:List b9}:Nt M (.str x) (l.map .str)=decide (x∈l):=by unfold Nt;rw[List.any_map];by_cases h:x∈l;rw[dT_ h];exact MK.mpr ⟨x,h,by show u6 M u9 (.str x) (.str x)=a9;rw[aJ];exact t5 x⟩;rw[dF_ h];refine NF.mpr λz=>?_;obtain⟨y,Q,e⟩:=MK.mp z;have a:u6 M u9 (.str y) (.str x)=a9:=e;rw[aJ]at a;exact h<|eq_of_beq a ▸ Q
theorem pT{M:u8}{l:List b9}:(l.map D.str).all (v9 M u9)=a9:=E8.mpr λx h=>by obtain⟨y,_,rfl⟩:=z5.mp h;exact ak
noncomputable def aF(rs:List (b9×List b9))(log:List D):List (D×D):=(ap rs log).filter λp=>@decide (¬aQ (ap rs log) log p.1)<|K1 _
theorem eI:p∈aF rs log↔p∈ap rs log/\¬aQ (ap rs log) log p.1:=by unfold aF;rw[List.mem_filter];exact and_congr Iff.rfl<|@decide_eq_true_iff _<|K1 _
theorem pV:((aF rs log).map (·.1)).Nodup:=(OD.map _).nodup bo.nd
theorem zH(h:aB (ap rs log) k=a7 e)(d:¬aQ (ap rs log) log k):aB (aF rs log) k=a7 e:=fi (p:=(k,e)) pV<|eI.mpr ⟨br h,d⟩
noncomputable def bt(kvs:List (D×D))(log:List D):List (D×D):=dictOf<|((kinds log<|u4 "change").filter<|L6 kvs).map λd=>(nV d,cN d)
noncomputable def uF(ch:List (D×D))(d:D):D:=.tup [v8 d,.str<|aW d,cN d,.str<|bQ d,(aB ch<|v8 d).getD<|Jc d,.bl (aB ch<|v8 d).isSome]
structure BackL(rs:List (b9×List b9))(log:List D)(ys:List D):Prop where
 st:∀x∈ys,St x
 mem:∀x,x∈ys↔aQ (ap rs log) log x
 nd:ys.Nodup
 up:ys.Pairwise λa b=>¬A0 u9 b<A0 u9 a
def N0(l:List D):Prop:=l.Pairwise λa b=>A0 u9 (v8 a)<A0 u9 (v8 b)
inductive Ru(rs:List (b9×List b9))(l:List D):D->Prop
 |top {d:D} (h:d∈l) (m:bQ d∈nM rs (aW d)) (u:cN d=.non):Ru rs l d
 |sub {d e:D} (h:d∈l) (m:bQ d∈nM rs (aW d)) (s:Ru rs l e) (u:cN d=v8 e) (o:A0 u9 (v8 e)<A0 u9 (v8 d)) (r:aW e=aW d):Ru rs l d
theorem HL{α:Type}{p q:α->Bool}{x:α}(hpq:∀y,p y=a9->q y=a9)(hq:q x=a9)(hp:p x=b7):∀{l:List α},x∈l->(l.filter p).length<(l.filter q).length
 |y::l,h=>by
  have mono:∀l:List α,(l.filter p).length<=(l.filter q).length:=λl=>by
   induction l with
   |nil=>exact v6 _
   |cons z l ih =>
    rw[J3,J3];cases e:p z with
    |true=>rw[hpq z e,o8 rfl,o8 rfl,C0,C0];lia
    |false=>rw[p4<|by decide];split;rw[C0];lia;exact ih
  rw[J3,J3];rcases A1.mp h with rfl|h;rw[hp,hq,p4 (by decide),o8 rfl,C0];have:=mono l;lia;have ih:=HL hpq hq hp h;cases e:p y with
  |true=>rw[hpq y e,o8 rfl,o8 rfl,C0,C0];lia
  |false=>rw[p4<|by decide];split;rw[C0];lia;exact ih
theorem yN:fU (kX kvs k d) k=a7 d:=by
 unfold kX;split;rename_i hs;obtain⟨p,hp,e⟩:=MK.mp hs;unfold fU;rw[PK];have l:((λp:b9×D=>decide<|p.1=k) ∘ λp:b9×D=>if p.1=k then(p.1,d)else p)=λp=>decide (p.1=k):=by funext p;show decide ((if p.1=k then(p.1,d)else p).1=k)=decide (p.1=k);split<;>rfl
 rw[l];cases f:kvs.find? λp=>decide (p.1=k) with
 |none=>exact p7 e<|by simpa using P8.mp f p hp
 |some q =>
  have h:q.1=k:=by have:=Ox f;exact oT_ this
  show a7 (if q.1=k then(q.1,d)else q).2=_;rw[o8 h]
 rename_i hs;unfold fU;have:kvs.find? (λp=>decide<|p.1=k)=a8:=P8.mpr λp hp z=>hs<|MK.mpr ⟨p,hp,z⟩;rw[QJ,this];simp
theorem xH(h:j≠k):fU (kX kvs k d) j=fU kvs j:=by
 unfold kX;split;unfold fU;rw[PK];have e:((λp:b9×D=>decide<|p.1=j) ∘ λp:b9×D=>if p.1=k then(p.1,d)else p)=λp=>decide (p.1=j):=by funext p;show decide ((if p.1=k then(p.1,d)else p).1=j)=decide (p.1=j);split<;>rfl
 rw[e];cases f:kvs.find? λp=>decide (p.1=j) with
 |none=>rfl
 |some q =>
  have a:q.1=j:=by have:=Ox f;exact oT_ this
  show a7 (if q.1=k then(q.1,d)else q).2=a7 q.2;rw[p4<|by rw[a];exact h]
 unfold fU;rw[QJ];cases f:kvs.find? λp=>decide (p.1=j) with
 |none=>simp[z9 h]
 |some q=>rfl
noncomputable def jT(log:List D)(k name:b9):List D:=(kinds log k).filter λd=>decide<|bQ d=name
theorem mY(h:d∈jT log k name):d∈log/\bA d=k/\bQ d=name:=⟨(bz (E5.mp h).1).1,(bz (E5.mp h).1).2,oT_ (E5.mp h).2⟩
theorem mZ:(jT log k name).length<=log.length:=F4 (Mn _ _) bn
noncomputable def jJ(log:List D)(k name:b9):List D:=(jT log k name).map nV
noncomputable def R0:D->D×Int
 |.tup [h,.int c]=>(h,c)
 |_=>(.non,0)
noncomputable def Cs:D->List (D×Int)
 |.tup vs=>vs.map R0
 |_=>[]
theorem vX:Cs (.tup<|nL hs)=hs:=by show (nL hs).map R0=hs;unfold nL;rw[D9];exact NK _
noncomputable def pJ(log:List D)(name r:b9):List D:=((jT log (u4 "read") name).filter λd=>decide<|aW d=r).map cN
structure VbAt(B:u8)(n:Nat)(tab:List (b9×D))(f:b9->List D):Prop where
 at_:B[n]?=a7 (.dct tab)
 got:∀k d,fU tab k=a7 d->∃m,d=.ref m/\n+1<m/\B[m]?=a7 (.lst<|f k)
 no:∀k,fU tab k=a8->f k=[]
 one:∀k k' m,fU tab k=a7 (.ref m)->fU tab k'=a7 (.ref m)->k=k'
theorem VbAt.pre(h:VbAt B n tab f)(p:B <+: B'):VbAt B' n tab f:=⟨aH p h.at_,λk d a=>let ⟨m,e,l,g⟩:=h.got k d a;⟨m,e,l,aH p g⟩,h.no,h.one⟩
theorem VbAt.kids(h:VbAt B n tab f)(a:B[q0]?=a7 (.lst [])):∃q,(fU tab k).getD (.ref q0)=.ref q/\B[q]?=a7 (.lst<|f k):=by
 cases e:fU tab k with
 |none=>exact⟨q0,rfl,by rw[h.no k e];exact a⟩
 |some d=>obtain⟨m,rfl,_,g⟩:=h.got k d e;exact⟨m,rfl,g⟩
noncomputable def gf(log:List D)(name:b9)(e:D):Bool:=decide (bQ e=name)||(decide (v8 e∈jJ log (u4 "seen") name)||(pJ log name<|aW e).any λv=>cr (Cs v) (nw e)<|uE e)
noncomputable def dU(rs:List (b9×List b9))(log:List D)(name:b9):List D:=((aF rs log).map (·.2)).filter λe=>!gf log name e
theorem CQ(h:k∉kvs.map (·.1)):kX kvs k d=kvs++[(k,d)]:=by unfold kX;rw[p4];intro z;obtain⟨p,hp,e⟩:=MK.mp z;exact h<|oT_ e ▸ Mv hp
noncomputable def aA(r:b9)(es:List D)(k:D):List D:=(es.filter λe=>decide (aW e=r)&&decide (cN e=k)).map v8
theorem tW:aA r (es++[e]) k=if aW e=r/\cN e=k then aA r es k++[v8 e]else aA r es k:=by unfold aA;rw[List.filter_append,G1,J3,List.filter_nil];by_cases h:aW e=r/\cN e=k;rw[o8 h,dT_ h.1,dT_ h.2];rfl;rw[p4 h,p4];simp;intro z;have:=(E4 _ _).mp z;exact h ⟨oT_ this.1,oT_ this.2⟩
structure TreeAt(B:u8)(n:Nat)(tab:List (D×D))(f:D->List D):Prop where
 at_:B[n]?=a7 (.dkm tab)
 got:∀k d,aB tab k=a7 d->∃m,d=.ref m/\n<m/\B[m]?=a7 (.lst<|f k)
 no:∀k,aB tab k=a8->f k=[]
 one:∀k k' m,aB tab k=a7 (.ref m)->aB tab k'=a7 (.ref m)->k=k'
noncomputable def bF(n:Int)(xs:List D):List D:=xs.reverse.map λx=>.tup [.int n,x]
inductive RunW(f:D->List D):List D->List D->List D->Prop
 |done {rows:List D}:RunW f rows [] rows
 |step {rows todo out:List D}{n:Int}{x:D} (h:RunW f (rows++[.tup [.int n,x]]) (todo++bF (n+1) (f x)) out):RunW f rows (todo++[.tup [.int n,x]]) out
theorem RunW.uni(h:RunW f rows todo out)(h':RunW f rows todo out'):out=out':=by
 induction h generalizing out' with
 |done =>
  generalize e:([]:List D)=t at h';cases h' with
  |done=>rfl
  |step h=>simp at e
 |@step rows todo out n x h i =>
  generalize e:todo++[.tup [.int n,x]]=t at h';cases h' with
  |done=>simp at e
  |@step _ a _ o b h2=>obtain⟨rfl,l⟩:=List.append_inj' e rfl;injection l with l;injection l with l;injection l with e3 e4;injection e3 with e3;injection e4 with e4;subst e3 e4;exact i h2
noncomputable def eH:D->D
 |.tup [_,s]=>s
 |_=>.non
structure TreeW(r:b9)(es rows todo:List D):Prop where
 nd:((rows++todo).map eH).Nodup
 ok:∀x∈rows++todo,∃(k:Int) (e:D),x=.tup [.int k,v8 e]/\e∈es/\aW e=r/\(cN e=.non\/cN e∈rows.map eH)
theorem cW:x∈aA r es k↔∃e∈es,v8 e=x/\aW e=r/\cN e=k:=by unfold aA;rw[z5];constructor;rintro⟨e,he,rfl⟩;have h1:=E5.mp he;have h2:=(E4 _ _).mp h1.2;exact⟨e,h1.1,rfl,oT_ h2.1,oT_ h2.2⟩;rintro⟨e,he,rfl,h1,h2⟩;exact⟨e,E5.mpr ⟨he,by rw[dT_ h1,dT_ h2];rfl⟩,rfl⟩
theorem sU:x∈bF n xs↔∃s∈xs,x=.tup [.int n,s]:=by unfold bF;rw[z5];refine⟨λ⟨s,h,e⟩=>⟨s,List.mem_reverse.mp h,e.symm⟩,?_⟩;rintro⟨s,h,e⟩;exact⟨s,List.mem_reverse.mpr h,e.symm⟩
theorem mz:(bF n xs).map eH=xs.reverse:=by unfold bF;rw[D9];exact NK _
section
variable{r:b9}{es rows todo:List D}
theorem AF(h:(es.map v8).Nodup)(k:D):(aA r es k).Nodup:=(OD.map _).nodup h
theorem FS(h:(es.map v8).Nodup)(f:a∈es)(d:b∈es)(e:v8 a=v8 b):a=b:=by
 induction es with
 |nil=>cases f
 |cons x es i =>
  rw[C2,J7]at h;rcases A1.mp f with f|f<;>rcases A1.mp d with d|d
  rw[f,d];rw[f]at e;exact p7 (e ▸ Mv d) h.1;rw[d]at e;exact p7 (e ▸ Mv f) h.1;exact i h.2 f d
theorem TreeW.start(h:(es.map v8).Nodup):TreeW r es [] (bF 0<|aA r es .non):=by refine⟨?_,λx a=>?_⟩;rw[H9,mz];exact(List.reverse_perm _).nodup_iff.mpr<|AF h _;obtain⟨s,hs,rfl⟩:=sU.mp a;obtain⟨e,i,rfl,h1,h2⟩:=cW.mp hs;exact⟨0,e,rfl,i,h1,.inl h2⟩
theorem TreeW.step(h:(es.map v8).Nodup)(S:∀e∈es,v8 e≠.non)(w:TreeW r es rows (todo++[.tup [.int k,s]])):TreeW r es (rows++[.tup [.int k,s]]) (todo++bF (k+1) (aA r es s)):=by
 obtain⟨L,m,A,l,_⟩:=w.ok (.tup [.int k,s]) (by simp);have d:s=v8 m:=by injection A with q;injection q with _ q;injection q
 have G:s≠.non:=by rw[d];exact S m l
 have K:=w.nd;have H:s∉rows.map eH:=λz=>by rw[G1]at K;have:=(P3.mp K).2.2 s z s (by rw[G1];exact Ix _<|by simp[eH]);exact this rfl
 refine⟨?_,λx c=>?_⟩;have p:(rows++[D.tup [.int k,s]]++(todo++bF (k+1) (aA r es s))).Perm (rows++(todo++[D.tup [.int k,s]])++bF (k+1) (aA r es s)):=by rw[G3,G3];refine List.Perm.append_left _ ?_;rw[<-G3];exact List.Perm.append_right _ List.perm_append_comm
 rw[(p.map eH).nodup_iff,G1,P3];refine⟨K,by rw[mz];exact(List.reverse_perm _).nodup_iff.mpr<|AF h _,λa v b n e=>?_⟩;subst e;rw[mz,List.mem_reverse]at n;obtain⟨e,i,t,_,N⟩:=cW.mp n;obtain⟨x,c,u⟩:=z5.mp v;obtain⟨I,o,rfl,j,_,f⟩:=w.ok x c;have:o=e:=FS h j i<|u.trans t.symm;subst this;rcases f with f|f;exact G<|N.symm.trans f;exact H<|N ▸ f;have J:∀y,y∈rows.map eH->y∈(rows++[D.tup [.int k,s]]).map eH:=λy Q=>by rw[G1];exact MW _ Q
 have g:∀x,x∈rows++(todo++[D.tup [.int k,s]])->∃(I:Int) (e:D),x=.tup [.int I,v8 e]/\e∈es/\aW e=r/\(cN e=.non\/cN e∈(rows++[D.tup [.int k,s]]).map eH):=λx c=>by obtain⟨I,e,B,C,E,F⟩:=w.ok x c;exact⟨I,e,B,C,E,F.imp_right<|J _⟩
 rcases F0.mp c with c|c;rcases F0.mp c with c|c;exact g x<|MW _ c;exact g x<|Ix _<|Ix _ c;rcases F0.mp c with c|c;exact g x<|Ix _<|MW _ c;obtain⟨y,Q,rfl⟩:=sU.mp c;obtain⟨e,i,rfl,h1,h2⟩:=cW.mp Q;exact⟨k+1,e,rfl,i,h1,.inr<|by rw[h2,G1];exact Ix _<|by simp[eH]⟩
theorem Ag{l l':List D}(X:l.Nodup)(h:∀x∈l,x∈l'):l.length<=l'.length:=by
 induction l generalizing l' with
 |nil=>exact B5 _
 |cons x l i =>
  obtain⟨n,o⟩:=J7.mp X;obtain⟨s,t,rfl⟩:=List.append_of_mem (h x<|by simp);have:=i (l':=s++t) o λy Q=>by have:=h y<|C4 _ Q;rcases F0.mp this with q|q;exact MW _ q;rcases A1.mp q with rfl|q;exact p7 Q n;exact Ix _ q
  rw[A3]at this;rw[A3,C0,C0];lia
theorem TreeW.len(w:TreeW r es rows todo):rows.length+todo.length<=es.length:=by
 have:=Ag w.nd (l':=es.map v8) λx h=>by obtain⟨y,Q,rfl⟩:=z5.mp h;obtain⟨k,e,rfl,i,_⟩:=w.ok y Q;exact Mv i
 rw[v7,v7,A3]at this;exact this
theorem DM:(aA r es k).length<=es.length:=by unfold aA;rw[v7];exact Mn _ _
end
theorem TreeAt.pre(h:TreeAt B n tab f)(p:B <+: B'):TreeAt B' n tab f:=⟨aH p h.at_,λk d a=>let ⟨m,e,l,g⟩:=h.got k d a;⟨m,e,l,aH p g⟩,h.no,h.one⟩
theorem TreeAt.kids(h:TreeAt B n tab f)(a:B[q0]?=a7 (.lst [])):∃q,(aB tab k).getD (.ref q0)=.ref q/\B[q]?=a7 (.lst<|f k):=by
 cases e:aB tab k with
 |none=>exact⟨q0,rfl,by rw[h.no k e];exact a⟩
 |some d=>obtain⟨m,rfl,_,g⟩:=h.got k d e;exact⟨m,rfl,g⟩
noncomputable def NZ:D->Int
 |.tup [.int k,_]=>k
 |_=>0
theorem RunW.tree(X:(es.map v8).Nodup)(S:∀e∈es,v8 e≠.non)(h:RunW (aA r es) rows todo out):TreeW r es rows todo->TreeW r es out []:=by
 induction h with
 |done=>exact id
 |step h i=>exact λw=>i<|w.step X S
structure DepI(u:D->D)(rows todo:List D):Prop where
 to:∀T1 t T2,todo=T1++t::T2->∀A p B,rows=A++p::B->u (eH t)=eH p->NZ t=NZ p+1/\∀b∈B++T2,NZ t<=NZ b
 old:∀A p B x C,rows=A++p::(B++x::C)->u (eH x)=eH p->NZ x=NZ p+1/\∀b∈B,NZ x<=NZ b
noncomputable def Pj:D->D
 |.tup (x::_)=>x
 |d=>d
noncomputable def outR(rs:List (b9×List b9))(log:List D)(r:b9):List D:=Classical.epsilon λout=>RunW (aA r ((ap rs log).map (·.2))) [] (bF 0 (aA r ((ap rs log).map (·.2)) .non)) out
theorem RunW.out{rs:List (b9×List b9)}{log out:List D}{r:b9}(h:RunW (aA r ((ap rs log).map (·.2))) [] (bF 0 (aA r ((ap rs log).map (·.2)) .non)) out):out=outR rs log r:=h.uni (Classical.epsilon_spec (p:=λout=>RunW (aA r ((ap rs log).map (·.2))) [] (bF 0 (aA r ((ap rs log).map (·.2)) .non)) out) ⟨out,h⟩)
noncomputable def Cd(rs:List (b9×List b9))(log:List D)(name:b9)(s:D):Option D:=(aB (aF rs log) s).filter λe=>!gf log name e
noncomputable def nU(rs:List (b9×List b9))(log:List D)(name r:b9):List D:=(outR rs log r).filterMap λx=>Cd rs log name<|eH x
theorem Ai(h:Cd rs log name s=a7 e):aB (aF rs log) s=a7 e/\gf log name e=b7:=by obtain⟨h1,h2⟩:=Option.filter_eq_some_iff.mp h;exact⟨h1,by simpa using h2⟩
theorem wU(h:e∈nU rs log name r):∃s,s∈(outR rs log r).map eH/\aB (aF rs log) s=a7 e/\gf log name e=b7:=by obtain⟨x,a,t⟩:=Qa.mp h;exact⟨_,Mv a,Ai t⟩
noncomputable def uD(rs:List (b9×List b9))(log:List D)(name:b9):List (D×D):=(dU rs log name).map λe=>(v8 e,uF (bt (aF rs log) log) e)
theorem yx(n:∀q∈T,q.1=v8 q.2)(X:(T.map (·.1)).Nodup):aB (((T.map (·.2)).filter p).map λe=>(v8 e,f e)) s=((aB T s).filter p).map f:=by
 induction T with
 |nil=>rfl
 |cons q T i =>
  rw[C2,J7]at X;have e:=n q D3;have i:=i (λq a=>n q<|C4 _ a) X.2;have g1:∀{k d:D}{L:List (D×D)},aB ((k,d)::L) s=if k=s then a7 d else aB L s:=λ{k d L}=>by unfold aB;rw[Mj];by_cases h:k=s;rw[dT_ h,o8 h];rfl;rw[dF_ h,p4 h]
  obtain⟨k,d⟩:=q;dsimp only at e;subst e;rw[g1,C2,J3];by_cases hs:v8 d=s;rw[o8 hs];have o:aB T s=a8:=by
   cases R:aB T s with
   |none=>rfl
   |some v=>exact p7 (hs ▸ Mv (f:=(·.1)) (br R)) X.1
  rw[o]at i;cases hp:p d with
  |true=>rw[o8 rfl,C2,g1,o8 hs];show _=Option.map f (if p d=a9 then a7 d else a8);rw[hp];rfl
  |false=>rw[p4 (by simp),i];show _=Option.map f (if p d=a9 then a7 d else a8);rw[hp];rfl
  rw[p4 hs];cases hp:p d with
  |true=>rw[o8 rfl,C2,g1,p4 hs,i]
  |false=>rw[p4 (by simp),i]
noncomputable def ny:D->D
 |.tup (a::_)=>a
 |_=>.non
def dP:A2:=λds M R=>∃xs:List D,ds=[.tup xs]/\(∀x∈xs,∃a r,x=.tup (a::r))/\R (.ref M.length) (M++[.lst<|xs.map ny])
theorem qw:da dP iH:=by rintro ds M R ⟨xs,rfl,_⟩;rfl
def mf:u3:=bp<|F6 1 [] (bB<|ab 0) (af 0) oh<|t7 v5 (ab 0)<|dC<|.int 0
theorem rD:C1 dP 1 mf:=by rintro ds M R ⟨xs,rfl,x,h⟩;simp only[mf];walk_at"dl";intro g;refine bu ny (λS=>∃a,S=[a]) trivial _ _ _ ?_ ⟨_,rfl⟩ ?_ ?_;rintro y Q S ⟨a,rfl⟩;obtain⟨b,r,rfl⟩:=x y Q;refine⟨[a7<|.tup<|b::r],⟨_,rfl⟩,λY D=>?_⟩;walk_at"dl";exact D;simpa using g;exact .inl h
theorem tx(T:Tops P w K mg base):w6 P w K mg base 1 "firsts_of" iH dP:=w6.byD (N:=["pairs"]) T.b T.f_firsts_of (by walk_at"sc") qw (by walk_at"dv") rD
def hX:A2:=λds M R=>∃(ps:List (b9×Int)) (a:List (b9×List b9)) (r:b9),ds=[aC ps a,.str r]/\r∈a.map (·.1)/\R (.bl a9) M
theorem vB:da hX mL:=by rintro ds M R ⟨ps,a,r,rfl,_⟩;rfl
def su:u3:=bp<|t7 OK (ab 1)<|u7 dP<|aa (t7 v5 (ab 0)<|dC<|.int 1) ag
theorem xA:C1 hX 2 su:=by
 rintro ds M R ⟨ps,a,r,rfl,i,h⟩;simp only[su,aC];walk_at"dl";refine⟨_,rfl,λx b=>?_,?_⟩;obtain⟨p,_,rfl⟩:=z5.mp b;exact⟨_,_,rfl⟩;have e:(a.map kM).map ny=(a.map (·.1)).map .str:=by rw[D9,D9];rfl
 rw[e];refine⟨_,ah,⟨ak,pT⟩,?_⟩;rw[qD,dT_ i];exact aY.bl h bi
theorem xZ(T:Tops P w K mg base):w6 P w K mg base 2 "is_room" mL hX:=w6.byD (N:=["house","thing"]) T.b T.f_is_room (by walk_at"sc") vB (by have:=tx T;walk_at"dv") xA
def cf:A2:=λds M R=>∃(ps:List (b9×Int)) (a:List (b9×List b9)) (r:b9),ds=[aC ps a,.str r]/\r∈a.map (·.1)/\R (.tup<|(nM a r).map .str) M
theorem nZ:da cf gi:=by rintro ds M R ⟨ps,a,r,rfl,_⟩;rfl
theorem na:nM (p::rs) r=if p.1=r then p.2 else nM rs r:=by unfold nM;rw[Mj];by_cases h:p.1=r;rw[dT_ h,o8 h];rfl;rw[dF_ h,p4 h]
def nQ:u3:=pC
def ko:u3:=ay (kJ (bB<|t7 v5 (ab 0)<|dC<|.int 1) (gu 2<|aG (af 2)<|aG (af 3) gv)<|B9 (au<|t7 B7 (ab 2)<|ab 1) (bp<|ab 3) aT)<|nQ
theorem pH:C1 cf 4 ko:=by
 rintro ds M R ⟨ps,s,r,rfl,i,h⟩;simp only[ko,aC];walk_at"dl";intro _;refine gX (λys S M'=>∃qs a b,ys=qs.map kM/\M'=M/\S=[a7<|aC ps s,a7<|.str r,a,b]/\nM s r=nM qs r/\r∈qs.map (·.1)) ?_ ?_ _ _ _ ⟨s,_,_,rfl,rfl,rfl,rfl,i⟩;rintro S M' ⟨qs,a,b,q,rfl,rfl,e,d⟩;have:qs=[]:=by cases qs<;>simp_all
 subst this;cases d;rintro x xs S M' ⟨qs,a,b,q,rfl,rfl,e,d⟩ L c;cases qs with
 |nil=>cases q
 |cons p qs=>rw[C2]at q;injection q with h1 h2;subst h1;refine⟨trivial,?_⟩;unfold kM;walk_at"dl";refine⟨trivial,⟨ak,ak⟩,?_⟩;rw[aJ];rw[na]at e;by_cases q:p.1=r;rw[beq_iff_eq.mpr q];rw[o8 q]at e;refine ck<|aY.now ?_;rw[<-e];exact h;rw[beq_eq_false_iff_ne.mpr q];rw[p4 q]at e;rw[C2,A1]at d;exact bR<|B6.now<|c _ _ ⟨qs,_,_,h2,rfl,rfl,e,d.resolve_left<|z9 q⟩
theorem jx(T:Tops P w K mg base):w6 P w K mg base 1 "members_of" gi cf:=w6.byD (N:=["house","room","told","members"]) T.b T.f_members_of (by walk_at"sc") nZ (by walk_at"dv") pH
def bN:A2:=λds M R=>∃(a b:D) (r:List D),ds=[.tup<|a::b::r]/\R (.tup [a,b]) M
theorem tR:da bN jO:=by rintro ds M R ⟨a,b,r,rfl,_⟩;rfl
def oF:u3:=bp<|fS<|aa (t7 v5 (ab 0)<|dC<|.int 0)<|aa (t7 v5 (ab 0)<|dC<|.int 1) ag
theorem uI:C1 bN 1 oF:=by rintro ds M R ⟨a,b,r,rfl,h⟩;simp only[oF];walk_at"dl";exact⟨aq (by lia),aY.now h⟩
theorem fg(T:Tops P w K mg base):w6 P w K mg base 1 "stamp_of" jO bN:=w6.byD (N:=["deed"]) T.b T.f_stamp_of (by walk_at"sc") tR (by walk_at"dv") uI
def bf:A2:=λds M R=>∃(t x:D) (r m:List D),ds=[.tup<|t::.tup (x::r)::m]/\R x M
theorem qr:da bf iF:=by rintro ds M R ⟨t,x,r,m,rfl,_⟩;rfl
def lO:u3:=bp<|t7 v5 (t7 v5 (ab 0)<|dC<|.int 1)<|dC<|.int 0
theorem rB:C1 bf 1 lO:=by rintro ds M R ⟨t,x,r,m,rfl,h⟩;simp only[lO];walk_at"dl";exact aY.now h
theorem cJ(T:Tops P w K mg base):w6 P w K mg base 1 "person_of" iF bf:=w6.byD (N:=["deed"]) T.b T.f_person_of (by walk_at"sc") qr (by walk_at"dv") rB
def dO:A2:=λds M R=>∃(t d:D) (m:Int) (r:List D) (hs:List (D×Int)),ds=[.tup<|t::d::.int m::r,.tup<|nL hs]/\Hd d/\(∀p∈hs,Hd p.1)/\hs.length<=1000/\R (.bl<|cr hs d m) M
theorem qu:da dO iG:=by rintro ds M R ⟨t,d,m,r,hs,rfl,_⟩;rfl
def jg:u3:=bp<|dC<|.bl b7
def lZ:u3:=ay (kJ (bB<|ab 1) (gu 2<|aG (af 2)<|aG (af 3) gv)<|B9 (au<|t7 B7 (ab 2)<|t7 v5 (ab 0)<|dC<|.int 1) (bp<|t7 Nr (t7 v5 (ab 0)<|dC<|.int 2)<|ab 3) aT)<|jg
theorem rC:C1 dO 4 lZ:=by
 rintro ds M R ⟨t,d,m,r,hs,rfl,c,v,l,h⟩;simp only[lZ];walk_at"dl";refine λ_=>?_;refine gX (λys S M'=>M'=M/\∃qs a b,ys=nL qs/\(∀p∈qs,Hd p.1)/\cr qs d m=cr hs d m/\S=[a7<|.tup<|t::d::.int m::r,a7<|.tup<|nL hs,a,b]) ?_ ?_ _ _ _ ⟨rfl,hs,_,_,rfl,v,rfl,rfl⟩;rintro S M' ⟨rfl,qs,a,b,e,_,w,rfl⟩;obtain rfl:qs=[]:=by
  cases qs with
  |nil=>rfl
  |cons q qs=>cases e
 rw[<-w]at h;refine⟨trivial,?_⟩;simp only[jg];walk_at"dl";exact aY.now h;rintro x xs S M' ⟨rfl,qs,a,b,e,g,w,rfl⟩ G k;cases qs with
 |nil=>cases e
 |cons q qs =>
  have i:x=.tup [q.1,.int q.2]/\xs=nL qs:=by unfold nL at e ⊢;rw[C2]at e;injection e with e1 e2;exact⟨e1,e2⟩
  obtain⟨rfl,rfl⟩:=i;refine⟨trivial,?_⟩;have Q:=g q (by simp);walk_at"dl";refine⟨trivial,⟨KW Q,KW c⟩,?_⟩;cases f:u6 M' u9 q.1 d with
  |true =>
   have e:=(Hz (n:=29) Q c).mp f;have j:cr (q::qs) d m=decide (m<q.2):=by unfold cr;rw[Mj,dT_ e]
   rw[<-w,j]at h;exact ck<|aY.now h
  |false =>
   have e:q.1≠d:=λz=>by have:=(Hz (M:=M') (n:=29) Q c).mpr z;rw[show u6 M' (29+1) q.1 d=u6 M' u9 q.1 d from rfl,f]at this;cases this
   refine bR<|B6.now<|k _ _ ⟨rfl,qs,_,_,rfl,λp hp=>g p<|C4 _ hp,?_,rfl⟩;rw[<-w];unfold cr;rw[Mj,dF_ e]
theorem tq(T:Tops P w K mg base):w6 P w K mg base 1 "is_within" iG dO:=w6.byD (N:=["deed","vector","hand","count"]) T.b T.f_is_within (by walk_at"sc") qu (by walk_at"dv") rC
def bb:A2:=λds M R=>∃(ps:List (b9×Int)) (a:List (b9×List b9)) (log:List D) (k:b9),ds=[.tup log,.str k]/\(∀d∈log,aE ps a d)/\log.length<=1000/\R (.ref M.length) (M++[.lst<|kinds log k])
theorem jV:da bb dA:=by rintro ds M R ⟨ps,a,log,k,rfl,_⟩;rfl
def fX:u3:=bp<|F6 1 [1] (bB<|ab 0) (af 0) (au<|t7 B7 (t7 v5 (t7 v5 (ab 0)<|dC<|.int 3)<|dC<|.int 0)<|ab 1)<|ab 0
theorem kL:C1 bb 2 fX:=by rintro ds M R ⟨ps,s,log,k,rfl,f,l,h⟩;simp only[fX];walk_at"dl";intro _;refine ba (λd=>decide<|bA d=k) id (λS=>∃a,S=[a,a7<|.str k]) trivial _ _ _ ?_ ⟨_,rfl⟩ (by rw[D6];exact aq<|by lia) (by rw[H9,NK];exact .inl h);rintro d g S ⟨a,rfl⟩;obtain⟨t,z,I,m,x,ds,rfl,_⟩:=f d g;refine⟨[a7<|.tup [.int t,.tup [.str z,.int I],.int m,.tup<|.str x::ds],a7<|.str k],⟨_,rfl⟩,λY Z b=>?_⟩;walk_at"dl";have Q:atI [D.int t,.tup [.str z,.int I],.int m,.tup<|.str x::ds] 3=a7 (.tup<|.str x::ds):=ar (j:=3) rfl;rw[Q];dsimp only;rw[OL];refine⟨⟨ak,ak⟩,?_⟩;rw[aJ];have c:bA (.tup [.int t,.tup [.str z,.int I],.int m,.tup<|.str x::ds])=x:=rfl;rw[c]at b;by_cases e:x=k;rw[beq_iff_eq.mpr e];rw[dT_ e]at b;exact ck b;rw[beq_eq_false_iff_ne.mpr e];rw[dF_ e]at b;exact bR b
theorem cQ(T:Tops P w K mg base):w6 P w K mg base 1 "deeds_of_kind" dA bb:=w6.byD (N:=["log","kind"]) T.b T.f_deeds_of_kind (by walk_at"sc") jV (by walk_at"dv") kL
def dE:A2:=λds M R=>∃(ps:List (b9×Int)) (a:List (b9×List b9)) (log:List D) (k e:b9),ds=[.tup log,.str k,.str e]/\(∀d∈log,aE ps a d)/\log.length<=1000/\R (.ref M.length) (M++[.lst<|jT log k e])
theorem tS:da dE jP:=by rintro ds M R ⟨ps,a,log,k,e,rfl,_⟩;rfl
def oQ:u3:=bp<|F6 1 [2] (bB<|u7 bb<|aa (ab 0)<|aa (ab 1) ag) (af 0) (au<|t7 B7 (u7 bf<|aa (ab 0) ag)<|ab 1)<|ab 0
theorem uJ:C1 dE 3 oQ:=by rintro ds M R ⟨ps,rs,log,k,n,rfl,c,g,h⟩;simp only[oQ];walk_at"dl";unfold jT at h;have f:∀d∈kinds log k,aE ps rs d:=λd q=>c d (E5.mp q).1;have l:(kinds log k).length<=1000:=F4 bn g;refine⟨ps,rs,log,k,rfl,c,g,?_⟩;generalize kinds log k=F at f l h;refine⟨F,ah,λ_=>?_⟩;refine ba (λd=>decide<|bQ d=n) id (λS=>∃a,S=[a,a7<|.str n]) ah _ _ _ ?_ ⟨_,rfl⟩ (by rw[D6];exact aq<|by lia) ?_;rintro d j S ⟨a,rfl⟩;obtain⟨t,z,I,m,x,ds,rfl,_⟩:=f d j;refine⟨[a7<|.tup [.int t,.tup [.str z,.int I],.int m,.tup<|.str x::ds],a7<|.str n],⟨_,rfl⟩,λY Z b=>?_⟩;walk_at"dl";refine⟨_,_,_,_,rfl,⟨ak,ak⟩,?_⟩;rw[aJ];have i:bQ (.tup [.int t,.tup [.str z,.int I],.int m,.tup<|.str x::ds])=z:=rfl;rw[i]at b;by_cases e:z=n;rw[beq_iff_eq.mpr e];rw[dT_ e]at b;exact ck b;rw[beq_eq_false_iff_ne.mpr e];rw[dF_ e]at b;exact bR b;rw[H9,NK,G3];exact aY.lst h (by simp) (by simp)<|aE.bels (ps:=ps) (rs:=rs) λd q=>f d (E5.mp q).1
theorem mU(T:Tops P w K mg base):w6 P w K mg base 2 "deeds_by" jP dE:=w6.byD (N:=["log","kind","name"]) T.b T.f_deeds_by (by walk_at"sc") tS (by have:=cJ T;have:=cQ T;walk_at"dv") uJ
def cH:A2:=λds M R=>∃(ps:List (b9×Int)) (a:List (b9×List b9)) (log:List D) (k e:b9),ds=[.tup log,.str k,.str e]/\(∀d∈log,aE ps a d)/\log.length<=1000/\(k=u4 "seen"\/k=u4 "rung")/\((∀x∈jJ log k e,St x)->R (.ref M.length) (M++[.lst<|jJ log k e]))
theorem nh:da cH ff:=by rintro ds M R ⟨ps,a,log,k,e,rfl,_⟩;rfl
def jf:u3:=bp<|F6 1 [] (bB<|u7 dE<|aa (ab 0)<|aa (ab 1)<|aa (ab 2) ag) (af 0) oh<|t7 v5 (t7 v5 (ab 0)<|dC<|.int 3)<|dC<|.int 1
theorem nP:C1 cH 3 jf:=by
 rintro ds M R ⟨ps,s,log,k,name,rfl,g,o,l,h⟩;simp only[jf];walk_at"dl";refine⟨ps,s,log,k,name,rfl,g,o,?_⟩;have r:=mZ (log:=log) (k:=k) (name:=name);have f:∀d∈jT log k name,∃(t:Int) (z:b9) (k n:Int) (x:b9) (m:D),d=.tup [.int t,.tup [.str z,.int k],.int n,.tup [.str x,m]]/\St m:=λd b=>by obtain⟨h1,h2,_⟩:=mY b;exact FZ (g d h1)<|l.imp (λe=>h2.trans e) λe=>h2.trans e
 have T:jJ log k name=(jT log k name).map nV:=rfl;rw[T]at h;generalize jT log k name=F at r f h;have c:∀x∈F.map nV,St x:=λx p=>by obtain⟨d,b,rfl⟩:=z5.mp p;obtain⟨t,z,k,n,x,m,rfl,hs⟩:=f d b;exact hs
 refine⟨F,ah,λ_=>?_⟩;refine bu nV (λS=>∃a,S=[a]) ah _ _ _ (λd b S c=>?_) ⟨_,rfl⟩ (by rw[D6];exact aq<|by lia) ?_;obtain⟨a,rfl⟩:=c;obtain⟨t,z,k,n,x,m,rfl,_⟩:=f d b;refine⟨[a7<|.tup [.int t,.tup [.str z,.int k],.int n,.tup [.str x,m]]],⟨_,rfl⟩,λY i=>?_⟩;walk_at"dl";have Q:atI [D.int t,.tup [.str z,.int k],.int n,.tup [.str x,m]] 3=a7 (.tup [.str x,m]):=ar (j:=3) rfl;rw[Q];dsimp only;rw[MZ];exact i;rw[H9,G3];exact aY.lst (h c) (by simp) (by simp)<|Bels.of λd q=>bG 2 d (c d q).pl
theorem nS(T:Tops P w K mg base):w6 P w K mg base 3 "stamps_told" ff cH:=w6.byD (N:=["log","kind","name"]) T.b T.f_stamps_told (by walk_at"sc") nh (by have:=mU T;walk_at"dv") nP
def bD:A2:=λds M R=>∃(a b c x r:D) (l:List D),ds=[.tup [a,b,c,.tup<|x::r::l]]/\R r M
theorem vw:da bD mI:=by rintro ds M R ⟨a,b,c,x,r,l,rfl,_⟩;rfl
def rR:u3:=bp<|t7 v5 (t7 v5 (ab 0)<|dC<|.int 3)<|dC<|.int 1
theorem xx:C1 bD 1 rR:=by rintro ds M R ⟨a,b,c,x,r,l,rfl,h⟩;simp only[rR];walk_at"dl";have Q:atI [a,b,c,.tup<|x::r::l] 3=a7 (.tup<|x::r::l):=ar (j:=3) rfl;rw[Q];dsimp only;rw[MZ];exact aY.now h
theorem gO(T:Tops P w K mg base):w6 P w K mg base 1 "room_of" mI bD:=w6.byD (N:=["say"]) T.b T.f_room_of (by walk_at"sc") vw (by walk_at"dv") xx
def cD:A2:=λds M R=>∃(a b c x r u:D) (l:List D),ds=[.tup [a,b,c,.tup<|x::r::u::l]]/\R u M
theorem tQ:da cD jN:=by rintro ds M R ⟨a,b,c,x,r,u,l,rfl,_⟩;rfl
def oE:u3:=bp<|t7 v5 (t7 v5 (ab 0)<|dC<|.int 3)<|dC<|.int 2
theorem uH:C1 cD 1 oE:=by rintro ds M R ⟨a,b,c,x,r,u,l,rfl,h⟩;simp only[oE];walk_at"dl";have Q:atI [a,b,c,.tup<|x::r::u::l] 3=a7 (.tup<|x::r::u::l):=ar (j:=3) rfl;have e:atI (x::r::u::l) 2=a7 u:=ar (j:=2) rfl;rw[Q];dsimp only;rw[e];exact aY.now h
theorem iL(T:Tops P w K mg base):w6 P w K mg base 1 "under_of" jN cD:=w6.byD (N:=["say"]) T.b T.f_under_of (by walk_at"sc") tQ (by walk_at"dv") uH
def dS:A2:=λds M R=>∃(ps:List (b9×Int)) (a:List (b9×List b9)) (d:D) (q:Nat) (kvs:List (D×D)),ds=[aC ps a,d,.ref q]/\aE ps a d/\bA d=u4 "say"/\M[q]?=a7 (.dkt kvs)/\(∀p∈kvs,aE ps a p.2/\bA p.2=u4 "say")/\R (.bl<|oT a kvs d) M
theorem qA:da dS iJ:=by rintro ds M R ⟨ps,a,d,q,kvs,rfl,_⟩;rfl
def ji:u3:=bp<|dOrV (t7 NH (ab 3)<|dC .non)<|qR (t7 zN (ab 3)<|ab 2)<|t7 B7 (u7 bD<|aa (eP (ab 2)<|ab 3) ag)<|u7 bD<|aa (ab 1) ag
def jk:u3:=ay (bc (u7 cD<|aa (ab 1) ag) 3)<|ji
def mj:u3:=ay (B9 (au<|t7 oW (u7 bf<|aa (ab 1) ag)<|u7 cf<|aa (ab 0)<|aa (u7 bD<|aa (ab 1) ag) ag) (bp<|dC<|.bl b7) aT)<|jk
theorem rF:C1 dS 4 mj:=by
 rintro ds M R ⟨ps,a,d,q,kvs,rfl,p,w,j,y,h⟩;obtain⟨t,z,k,m,r,u,s,rfl,_,_,x,c⟩:=dI p w;simp only[mj];walk_at"dl";refine⟨_,_,_,_,rfl,_,_,_,_,_,_,rfl,ps,a,r,rfl,x,⟨ak,pT⟩,?_⟩;rw[qD];have n:oT a kvs (.tup [.int t,.tup [.str z,.int k],.int m,.tup [.str<|u4 "say",.str r,u,.str s]])=(decide (z∈nM a r)&&(decide (u=.non)||match aB kvs u with
  |some e=>decide<|aW e=r
  |none=>b7)):=rfl
 rw[n]at h;by_cases i:z∈nM a r;rw[dT_ i]at h ⊢;refine bR ?_;simp only[jk,ji];walk_at"dl";refine⟨_,_,_,_,_,u,_,rfl,?_⟩;rcases c with rfl|c;walk_at"dl";refine aY.now ?_;simpa using h;obtain⟨t',G,I,rfl⟩:=c;rw[dF_<|by intro e;cases e]at h;walk_at"dl";refine⟨kvs,j,rfl,?_⟩;cases g:aB kvs (.tup [.int t',.tup [.str G,.int I]]) with
 |none=>rw[g]at h;exact bR<|aY.now h
 |some e =>
  rw[g]at h;obtain⟨v,b⟩:=y _<|br g;obtain⟨E,F,B,A,f,D,C,l,_⟩:=dI v b;dsimp only at l;subst l;refine ck ⟨kvs,_,j,rfl,g,_,_,_,_,_,_,rfl,_,_,_,_,_,_,rfl,⟨ak,ak⟩,?_⟩;rw[aJ];refine aY.now ?_;have o:(f==r)=decide (f=r):=by by_cases e:f=r;rw[dT_ e];exact beq_iff_eq.mpr e;rw[dF_ e];exact beq_eq_false_iff_ne.mpr e
  rw[o];exact h
 rw[dF_ i]at h ⊢;exact ck<|aY.now h
theorem tD(T:Tops P w K mg base):w6 P w K mg base 2 "can_stand" iJ dS:=w6.byD (N:=["house","say","elders","under"]) T.b T.f_can_stand (by walk_at"sc") qA (by have:=jx T;have:=cJ T;have:=gO T;have:=iL T;walk_at"dv") rF
def bd:A2:=λds M R=>∃(ps:List (b9×Int)) (a:List (b9×List b9)) (log:List D),ds=[aC ps a,.tup log]/\(∀d∈log,aE ps a d)/\log.length<=1000/\∀n B,M <+: B->B[n]?=a7 (.dkt<|ap a log)->R (.ref n) B
theorem iO:da bd cC:=by rintro ds M R ⟨ps,a,log,rfl,_⟩;rfl
theorem eW(h:∀d∈log,aE ps rs d)(g:∀d∈l,d∈kinds log (u4 "say"))(t:TabK l kvs):∀p∈kvs,aE ps rs p.2/\bA p.2=u4 "say":=λp hp=>by obtain⟨h1,h2⟩:=bz<|g _ (t.en p hp).2;exact⟨h _ h1,h2⟩
def dw:u3:=bp<|ab 2
def dz:u3:=ay (kJ (bB<|u7 bb<|aa (ab 1)<|aa (dC<|.str "say") ag) (af 3)<|B9 (au<|u7 dS<|aa (ab 0)<|aa (ab 3)<|aa (ab 2) ag) (nD (ab 2) (u7 bN<|aa (ab 3) ag)<|ab 3) aT)<|dw
def eG:u3:=ay (bc (ui) 2)<|dz
theorem ja:C1 bd 4 eG:=by
 rintro ds M R ⟨ps,rs,log,rfl,c,n,h⟩;simp only[eG,dz];walk_at"dl";refine⟨ps,rs,log,_,rfl,c,n,?_⟩;have p:=bn (log:=log) (k:=u4 "say");have m:∀d∈kinds log (u4 "say"),aE ps rs d/\bA d=u4 "say":=λd q=>⟨c d (bz q).1,(bz q).2⟩
 have f:bP rs (kinds log<|u4 "say")=ap rs log:=rfl;generalize B:kinds log (u4 "say")=K at p m f;refine⟨K,ah,λ_=>?_⟩;refine aV (λi S M'=>∃a,M'=M++[.dkt<|bP rs<|K.take i,.lst K]/\S=[a7<|aC ps rs,a7<|.tup log,a7<|.ref M.length,a]) ?_ ?_ ⟨_,by simp[bP],rfl⟩;rintro S M' ⟨a,rfl,rfl⟩;rw[Mu,f];refine⟨.inl ?_,?_⟩;have:(M++[MO.dkt []]).length=M.length+1:=by simp
 rw[this];exact gU;simp only[dw];walk_at"dl";exact .inl<|h _ _ (Mm _ _) bX;rintro i y S M' Q ⟨a,rfl,rfl⟩ G b;have o:=E9 Q;have j:K.take (i+1)=K.take i++[y]:=by rw[Mz,Q];rfl
 rw[j,fA]at b;have g:=ka (rs:=rs)<|K.take i;have v:=eW c (λd q=>B ▸ RE q) g;have l:=g.len;rw[K5]at l;generalize bP rs (K.take i)=kvs at b v l;obtain⟨e,r⟩:=m y o;refine⟨.inl ?_,?_⟩;have:(M++[MO.dkt []]).length=M.length+1:=by simp
 rw[this];exact gU;walk_at"dl";refine⟨ps,rs,y,_,kvs,rfl,e,r,bX,v,?_⟩;unfold sM at b;cases hs:oT rs kvs y with
 |true=>rw[hs,o8 rfl]at b;refine ck ?_;obtain⟨t,z,k,s,x,ds,rfl,_⟩:=e;refine⟨_,_,_,rfl,kvs,bX,rfl,av (by lia),?_⟩;rw[mx];exact B6.now<|b _ _ ⟨_,rfl,rfl⟩
 |false=>rw[hs,p4<|by decide]at b;exact bR<|B6.now<|b _ _ ⟨_,rfl,rfl⟩
theorem dJ(T:Tops P w K mg base):w6 P w K mg base 3 "says_that_count" cC bd:=w6.byD (N:=["house","log","says","deed"]) T.b T.f_says_that_count (by walk_at"sc") iO (by have:=fg T;have:=cQ T;have:=tD T;walk_at"dv") ja
def cj:A2:=λds M R=>∃(t:Int) (z:b9) (k n:Int) (x m:D) (l:List D) (q:Nat) (kvs:List (D×D)),ds=[.tup [.int t,.tup [.str z,.int k],.int n,.tup<|x::m::l],.ref q]/\St m/\M[q]?=a7 (.dkt kvs)/\(∀p∈kvs,Pu p.2)/\R (.bl<|L6 kvs<|.tup [.int t,.tup [.str z,.int k],.int n,.tup<|x::m::l]) M
theorem kT:da cj eD:=by rintro ds M R ⟨t,z,k,n,x,m,l,q,kvs,rfl,_⟩;rfl
def fO:u3:=bp<|qR (t7 zN (ab 2)<|ab 1)<|t7 B7 (u7 bf<|aa (ab 0) ag)<|u7 bf<|aa (eP (ab 1)<|ab 2) ag
def ir:u3:=ay (bc (t7 v5 (t7 v5 (ab 0)<|dC<|.int 3)<|dC<|.int 1) 2)<|fO
theorem lF:C1 cj 3 ir:=by
 rintro ds M R ⟨t,z,k,n,x,m,l,q,kvs,rfl,c,b,v,h⟩;simp only[ir,fO];obtain⟨t',G,I,rfl⟩:=c;walk_at"dl";have Q:atI [D.int t,.tup [.str z,.int k],.int n,.tup<|x::.tup [.int t',.tup [.str G,.int I]]::l] 3=a7 (.tup<|x::.tup [.int t',.tup [.str G,.int I]]::l):=ar (j:=3) rfl;rw[Q];dsimp only;rw[MZ];refine⟨kvs,b,rfl,?_⟩;have d:L6 kvs (.tup [.int t,.tup [.str z,.int k],.int n,.tup<|x::.tup [.int t',.tup [.str G,.int I]]::l])=match aB kvs (.tup [.int t',.tup [.str G,.int I]]) with
  |some e=>decide<|z=bQ e
  |none=>b7:=rfl
 rw[d]at h;cases g:aB kvs (.tup [.int t',.tup [.str G,.int I]]) with
 |none=>rw[g]at h;exact bR<|aY.now h
 |some e =>
  rw[g]at h;obtain⟨a,y,r,f,rfl⟩:=v _<|br g;refine ck ⟨_,_,_,_,rfl,kvs,_,b,rfl,g,_,_,_,_,rfl,⟨ak,ak⟩,?_⟩;rw[aJ];refine aY.now ?_;have o:(z==y)=decide (z=y):=by by_cases e:z=y;rw[dT_ e];exact beq_iff_eq.mpr e;rw[dF_ e];exact beq_eq_false_iff_ne.mpr e
  rw[o];exact h
theorem mT(T:Tops P w K mg base):w6 P w K mg base 2 "is_by_writer" eD cj:=w6.byD (N:=["deed","says","message"]) T.b T.f_is_by_writer (by walk_at"sc") kT (by have:=cJ T;walk_at"dv") lF
def bI:A2:=λds M R=>∃(ps:List (b9×Int)) (a:List (b9×List b9)) (log:List D) (k:b9) (q:Nat) (kvs:List (D×D)),ds=[.tup log,.str k,.ref q]/\(∀d∈log,aE ps a d)/\log.length<=1000/\(k=u4 "change"\/k=u4 "back")/\M[q]?=a7 (.dkt kvs)/\(∀p∈kvs,Pu p.2)/\R (.ref M.length) (M++[.lst<|(kinds log k).filter<|L6 kvs])
theorem ng:da bI fe:=by rintro ds M R ⟨ps,a,log,k,q,kvs,rfl,_⟩;rfl
theorem Kc(h:aE ps rs d)(e:bA d=k)(b:k=u4 "change"\/k=u4 "back"):∃(t:Int) (z:b9) (k num:Int) (x m:D) (l:List D),d=.tup [.int t,.tup [.str z,.int k],.int num,.tup<|x::m::l]/\St m:=by rcases b with rfl|rfl;obtain⟨t,z,k,num,m,s,rfl,a⟩:=jF h e;exact⟨t,z,k,num,_,m,_,rfl,a⟩;obtain⟨t,z,k,num,m,rfl,a⟩:=vR h e;exact⟨t,z,k,num,_,m,_,rfl,a⟩
def je:u3:=bp<|F6 1 [2] (bB<|u7 bb<|aa (ab 0)<|aa (ab 1) ag) (af 0) (au<|u7 cj<|aa (ab 0)<|aa (ab 1) ag)<|ab 0
theorem nO:C1 bI 3 je:=by
 rintro ds M R ⟨ps,rs,log,k,q,kvs,rfl,c,g,f,j,v,h⟩;simp only[je];walk_at"dl";refine⟨ps,rs,log,k,rfl,c,g,_,ah,λ_=>?_⟩;have o:=bn (log:=log) (k:=k);refine ba (L6 kvs) id (λS=>∃a,S=[a,a7<|.ref q]) ah _ _ _ ?_ ⟨_,rfl⟩ (by rw[D6];exact aq<|by lia) ?_;rintro d i S ⟨a,rfl⟩;obtain⟨h1,h2⟩:=bz i;obtain⟨t,z,I,n,x,m,l,rfl,hs⟩:=Kc (c d h1) h2 f;refine⟨[a7<|.tup [.int t,.tup [.str z,.int I],.int n,.tup<|x::m::l],a7<|.ref q],⟨_,rfl⟩,λY Z b=>?_⟩;walk_at"dl";refine⟨t,z,I,n,x,m,l,q,kvs,rfl,hs,ac j,v,?_⟩;cases e:L6 kvs (.tup [.int t,.tup [.str z,.int I],.int n,.tup<|x::m::l]) with
 |true=>rw[e]at b;exact ck b
 |false=>rw[e]at b;exact bR b
 rw[H9,NK,G3];exact aY.lst h (by simp) (by simp)<|aE.bels (ps:=ps) (rs:=rs) λd m=>c d (bz (E5.mp m).1).1
theorem iz(T:Tops P w K mg base):w6 P w K mg base 3 "writers_own" fe bI:=w6.byD (N:=["log","kind","says"]) T.b T.f_writers_own (by walk_at"sc") ng (by have:=cQ T;have:=mT T;walk_at"dv") nO
def ci:A2:=λds M R=>∃(ps:List (b9×Int)) (a:List (b9×List b9)) (log:List D) (q:Nat) (kvs:List (D×D)),ds=[.tup log,.ref q]/\(∀d∈log,aE ps a d)/\log.length<=1000/\M[q]?=a7 (.dkt kvs)/\(∀p∈kvs,Pu p.2)/\∀n B,M <+: B->B[n]?=a7 (.dkt<|bt kvs log)->R (.ref n) B
theorem kR:da ci eA:=by rintro ds M R ⟨ps,a,log,q,kvs,rfl,_⟩;rfl
theorem yB(ps:List (D×D))(h:p∈dictOf ps):p∈ps:=by revert h;refine jo (P:=λps=>p∈dictOf ps->p∈ps) (λh=>h) (λps q i h=>?_) ps;rw[fx]at h;rcases pW h with rfl|h;simp;exact MW _<|i h
theorem nG(h:∀d∈log,aE ps rs d):∀p∈bt kvs log,∃s,p.2=.str s:=λp hp=>by obtain⟨d,a,rfl⟩:=z5.mp<|yB _ hp;obtain⟨h1,h2⟩:=bz (E5.mp a).1;obtain⟨t,z,k,n,m,s,rfl,hs⟩:=jF (h d h1) h2;exact⟨s,rfl⟩
def iq:u3:=bp<|u7 iD<|aa (F6 1 [] (bB<|u7 bI<|aa (ab 0)<|aa (dC<|.str "change")<|aa (ab 1) ag) (af 0) oh<|fS<|aa (t7 v5 (t7 v5 (ab 0)<|dC<|.int 3)<|dC<|.int 1)<|aa (t7 v5 (t7 v5 (ab 0)<|dC<|.int 3)<|dC<|.int 2) ag) ag
theorem lE:C1 ci 2 iq:=by
 rintro ds M R ⟨ps,y,log,q,kvs,rfl,g,u,v,w,h⟩;simp only[iq];walk_at"dl";refine⟨ps,y,log,_,q,kvs,rfl,g,u,.inl rfl,v,w,_,ah,λ_=>?_⟩;have A:=bn (log:=log) (k:=u4 "change");have i:=Mn (L6 kvs)<|kinds log<|u4 "change";have c:∀d∈(kinds log<|u4 "change").filter (L6 kvs),∃(t:Int) (z:b9) (k n:Int) (m:D) (s:b9),d=.tup [.int t,.tup [.str z,.int k],.int n,.tup [.str<|u4 "change",m,.str s]]/\St m:=λd m=>by obtain⟨h1,h2⟩:=bz (E5.mp m).1;exact jF (g d h1) h2
 have f:dictOf (((kinds log<|u4 "change").filter<|L6 kvs).map λd=>(nV d,cN d))=bt kvs log:=rfl;generalize (kinds log<|u4 "change").filter (L6 kvs)=F at i c f;refine bu (λd=>.tup [nV d,cN d]) (λS=>∃a,S=[a]) ah _ _ _ (λd b S o=>?_) ⟨_,rfl⟩ (by rw[D6];exact aq<|by lia) ?_;obtain⟨a,rfl⟩:=o;obtain⟨t,z,k,n,m,s,rfl,_⟩:=c d b;refine⟨[a7<|.tup [.int t,.tup [.str z,.int k],.int n,.tup [.str<|u4 "change",m,.str s]]],⟨_,rfl⟩,λY r=>?_⟩;walk_at"dl";have Q:atI [D.int t,.tup [.str z,.int k],.int n,.tup [.str<|u4 "change",m,.str s]] 3=a7 (.tup [.str<|u4 "change",m,.str s]):=ar (j:=3) rfl;rw[Q];dsimp only;rw[MZ];dsimp only;rw[Qt];exact⟨aq (by lia),r⟩;rw[H9];have l:F.map (λd=>D.tup [nV d,cN d])=(F.map λd=>(nV d,cN d)).map λp=>.tup [p.1,p.2]:=by rw[D9];rfl
 rw[l];refine⟨F.map λd=>(nV d,cN d),ah,λp b=>?_,by rw[v7];lia,?_⟩;obtain⟨d,x,rfl⟩:=z5.mp b;obtain⟨t,z,k,n,m,s,rfl,hs⟩:=c d x;obtain⟨B,e⟩:=hs.tup;exact⟨hs.key,by show eK m=a9;rw[e];rfl⟩;rw[f];exact .inl<|h _ _ ((bi.trans bi).trans bi) ad
theorem mS(T:Tops P w K mg base):w6 P w K mg base 4 "last_changes" eA ci:=w6.byD (N:=["log","says"]) T.b T.f_last_changes (by walk_at"sc") kR (by have:=iz T;walk_at"dv") lE
def aU:A2:=λds M R=>∃(ps:List (b9×Int)) (s:List (b9×List b9)) (log:List D) (q:Nat) (kvs:List (D×D)),ds=[.tup log,.ref q]/\(∀d∈log,aE ps s d)/\log.length<64/\M[q]?=a7 (.dkt kvs)/\(∀p∈kvs,Pu p.2)/\∀ys,(∀x∈ys,St x)->(∀x,x∈ys↔aQ kvs log x)->ys.Nodup->(ys.Pairwise λa b=>¬A0 u9 b<A0 u9 a)->R (.ref M.length) (M++[.lst ys])
theorem gp:da aU bK:=by rintro ds M R ⟨ps,a,log,q,kvs,rfl,_⟩;rfl
def du:u3:=bp<|jE<|F6 1 [] (bB<|u7 bI<|aa (ab 0)<|aa (dC<|.str "back")<|aa (ab 1) ag) (af 0) oh<|t7 v5 (t7 v5 (ab 0)<|dC<|.int 3)<|dC<|.int 1
theorem ic:C1 aU 2 du:=by
 rintro ds M R ⟨ps,E,log,q,kvs,rfl,l,H,w,A,h⟩;simp only[du];walk_at"dl";refine⟨ps,E,log,_,q,kvs,rfl,l,by lia,.inr rfl,w,A,_,ah,λ_=>?_⟩;have I:=bn (log:=log) (k:=u4 "back");have r:=Mn (L6 kvs)<|kinds log<|u4 "back";have i:∀d∈(kinds log<|u4 "back").filter (L6 kvs),∃(t:Int) (z:b9) (k n:Int) (m:D),d=.tup [.int t,.tup [.str z,.int k],.int n,.tup [.str<|u4 "back",m]]/\St m:=λd m=>by obtain⟨h1,h2⟩:=bz (E5.mp m).1;exact vR (l d h1) h2
 have f:∀x,x∈((kinds log<|u4 "back").filter<|L6 kvs).map nV↔aQ kvs log x:=λx=>by constructor;intro c;obtain⟨d,m,rfl⟩:=z5.mp c;exact⟨d,(E5.mp m).1,(E5.mp m).2,rfl⟩;rintro⟨d,h1,h2,rfl⟩;exact Mv<|E5.mpr ⟨h1,h2⟩
 generalize (kinds log<|u4 "back").filter (L6 kvs)=F at r i f;refine bu nV (λS=>∃a,S=[a]) ah _ _ _ (λd g S u=>?_) ⟨_,rfl⟩ (by rw[D6];exact aq<|by lia) ?_;obtain⟨a,rfl⟩:=u;obtain⟨t,z,k,n,m,rfl,_⟩:=i d g;refine⟨[a7<|.tup [.int t,.tup [.str z,.int k],.int n,.tup [.str<|u4 "back",m]]],⟨_,rfl⟩,λY v=>?_⟩;walk_at"dl";have p:atI [D.int t,.tup [.str z,.int k],.int n,.tup [.str<|u4 "back",m]] 3=a7 (.tup [.str<|u4 "back",m]):=ar (j:=3) rfl;rw[p];dsimp only;rw[MZ];exact v;rw[H9];have hs:∀x∈F.map nV,St x:=λx c=>by obtain⟨d,g,rfl⟩:=z5.mp c;obtain⟨t,z,k,n,m,rfl,hs⟩:=i d g;exact hs
 refine⟨8,_,v6 _,.inl ⟨_,rfl,ah⟩,by rw[v7];lia,λx c=>?_,zx hs (by rw[v7];lia),λys X Q y=>?_⟩;obtain⟨J,e⟩:=(hs x c).tup;exact⟨(hs x c).key,by rw[e];rfl⟩;have s:∀x∈ys,St x:=λx c=>hs x<|(Q x).mp c;rw[G3,G3];have G:ys.Pairwise λa b=>¬A0 u9 b<A0 u9 a:=(QY.mp y).imp λ{a b} ⟨ha,f,q⟩=>by
  have o:=s a ha;have U:=s b f;have B:C8 u9 a=a9:=by obtain⟨t,z,k,e⟩:=o;rw[e];rfl
  have C:C8 u9 b=a9:=by obtain⟨t,z,k,e⟩:=U;rw[e];rfl
  rw[qp C B<|U.cm o]at q;exact of_decide_eq_false q
 exact aY.lst (h ys s (λx=>(Q x).trans<|f x) X G) (by simp) (by simp)<|Bels.of λd m=>bG 2 d (s d m).pl
theorem cS(T:Tops P w K mg base):w6 P w K mg base 4 "stamps_taken_back" bK aU:=w6.byD (N:=["log","says"]) T.b T.f_stamps_taken_back (by walk_at"sc") gp (by have:=iz T;walk_at"dv") ic
def cY:A2:=λds M R=>∃(ps:List (b9×Int)) (a:List (b9×List b9)) (d:D) (q:Nat) (b:List (D×D)),ds=[d,.ref q]/\aE ps a d/\bA d=u4 "say"/\M[q]?=a7 (.dkt b)/\R (uF b d) M
theorem nY:da cY gh:=by rintro ds M R ⟨ps,a,d,q,b,rfl,_⟩;rfl
def io:u3:=bp<|fS<|aa (ab 2)<|aa (u7 bD<|aa (ab 0) ag)<|aa (u7 cD<|aa (ab 0) ag)<|aa (u7 bf<|aa (ab 0) ag)<|aa (ab 3)<|aa (t7 zN (ab 2)<|ab 1) ag
def ip:u3:=ay (bc (Pl oV (ab 1)<|aa (ab 2)<|aa (t7 v5 (t7 v5 (ab 0)<|dC<|.int 3)<|dC<|.int 3) ag) 3)<|io
def kj:u3:=ay (bc (u7 bN<|aa (ab 0) ag) 2)<|ip
theorem pG:C1 cY 4 kj:=by rintro ds M R ⟨ps,f,d,q,b,rfl,c,e,a,h⟩;obtain⟨t,z,k,m,r,u,s,rfl,_⟩:=dI c e;simp only[kj,ip];walk_at"dl";refine⟨_,_,_,rfl,⟨_,a⟩,?_⟩;have Q:atI [D.int t,.tup [.str z,.int k],.int m,.tup [.str<|u4 "say",.str r,u,.str s]] 3=a7 (.tup [.str<|u4 "say",.str r,u,.str s]):=ar (j:=3) rfl;have J:atI [.str<|u4 "say",.str r,u,.str s] 3=a7 (.str s):=ar (j:=3) rfl;rw[Q];dsimp only;rw[J];refine⟨b,a,rfl,?_⟩;simp only[io];walk_at"dl";refine⟨_,_,_,_,_,_,rfl,_,_,_,_,_,_,_,rfl,_,_,_,_,rfl,b,a,rfl,aq (by lia),aY.now h⟩
theorem qh(T:Tops P w K mg base):w6 P w K mg base 2 "message_of" gh cY:=w6.byD (N:=["say","changes","stamp","saying"]) T.b T.f_message_of (by walk_at"sc") nY (by have:=fg T;have:=cJ T;have:=gO T;have:=iL T;walk_at"dv") pG
def cX:A2:=λds M R=>∃(ps:List (b9×Int)) (a:List (b9×List b9)) (log:List D),ds=[aC ps a,.tup log]/\(∀d∈log,aE ps a d)/\log.length<64/\∀n B,M <+: B->B[n]?=a7 (.dkt<|aF a log)->R (.ref n) B
theorem nX:da cX gg:=by rintro ds M R ⟨ps,a,log,rfl,_⟩;rfl
theorem zy{M:u8}{l:List D}(h:∀x∈l,St x):l.all (v9 M u9)=a9:=E8.mpr λx a=>(h x a).ok
theorem AT(a:St x)(h:∀x∈l,St x):Nt M x l=decide (x∈l):=by unfold Nt;by_cases d:x∈l;rw[dT_ d];exact MK.mpr ⟨x,d,by rw[show u9=28+2 from rfl,a.eq a];exact dT_ rfl⟩;rw[dF_ d];refine NF.mpr λz=>?_;obtain⟨y,Q,e⟩:=MK.mp z;rw[show u9=28+2 from rfl,(h y Q).eq a]at e;exact d<|oT_ e ▸ Q
def ii:u3:=bp<|u7 iD<|aa (F6 1 [2,3] (xm<|ab 2) (af 0) (au<|t7 oW (ab 0)<|ab 2)<|fS<|aa (ab 0)<|aa (eP (ab 1)<|ab 0) ag) ag
def ij:u3:=ay (bc (u7 aU<|aa (ab 1)<|aa (ab 2) ag) 3)<|ii
def kg:u3:=ay (bc (u7 bd<|aa (ab 0)<|aa (ab 1) ag) 2)<|ij
theorem pF:C1 cX 4 kg:=by
 rintro ds M R ⟨ps,rs,log,rfl,i,y,h⟩;simp only[kg];walk_at"dl";refine⟨ps,rs,log,rfl,i,by lia,λn B C hB=>?_⟩;have t:=bo (rs:=rs) (log:=log);have F:=bn (log:=log) (k:=u4 "say");have v:=eW i (λ_ q=>q) t;have E:=t.len;have X:=t.nd;have m:=t.en;have g:aF rs log=(ap rs log).filter λp=>@decide (¬aQ (ap rs log) log p.1) (K1 _):=rfl;rw[g]at h;clear g;generalize ap rs log=kvs at h t E v X m hB;simp only[ij];walk_at"dl";refine⟨ps,rs,log,n,kvs,rfl,i,y,hB,λp hp=>(v p hp).1.nm,λys hs Q _ _=>?_⟩;simp only[ii];walk_at"dl";have c:(B++[MO.lst ys])[n]?=a7 (.dkt kvs):=ac hB;refine⟨kvs,c,λ_=>?_⟩;have sp:∀p∈kvs,St p.1:=λp hp=>by rw[(m p hp).1];exact(v p hp).1.st
 refine ba (λk=>decide<|k∉ys) (λk=>.tup [k,(aB kvs k).getD .non]) (λS=>∃a,S=[a,a7<|.ref n,a7<|.ref B.length]) c _ _ _ ?_ ⟨_,rfl⟩ (by rw[D6,v7];exact aq<|by lia) ?_;rintro x A S ⟨a,rfl⟩;obtain⟨p,hp,rfl⟩:=z5.mp A;have s:=sp p hp;have j:=fi X hp;refine⟨[a7 p.1,a7<|.ref n,a7<|.ref B.length],⟨_,rfl⟩,λY Z b=>?_⟩;rw[j]at b;obtain⟨r,e⟩:=s.tup;have o:=s.key;rw[e]at b j o s ⊢;walk_at"dl";refine⟨ys,ah,⟨s.ok,zy hs⟩,?_⟩;rw[AT s hs];by_cases f:D.tup r∈ys;rw[dT_ f];rw[dF_<|λz=>z f]at b;exact bR b;rw[dF_ f];rw[dT_ f,o8 rfl]at b;exact ck ⟨kvs,_,c,o,j,aq (by lia),b⟩;rw[H9];have w:((kvs.map (·.1)).filter λk=>decide<|k∉ys).map (λk=>D.tup [k,(aB kvs k).getD .non])=(kvs.filter λp=>decide<|p.1∉ys).map λp=>.tup [p.1,p.2]:=by rw[List.filter_map,D9];refine NR λp hp=>?_;show D.tup [p.1,(aB kvs p.1).getD .non]=_;rw[fi X (E5.mp hp).1];rfl
 rw[w];have l:((kvs.filter λp=>decide<|p.1∉ys).map (·.1)).Nodup:=(OD.map _).nodup X;refine⟨_,ah,λp hp=>?_,?_,?_⟩;have s:=sp p (E5.mp hp).1;obtain⟨r,e⟩:=s.tup;exact⟨s.key,by rw[e];rfl⟩;have:=Mn (λp:D×D=>decide<|p.1∉ys) kvs;lia;rw[nC _ l];refine .inl<|h _ _ (((C.trans bi).trans bi).trans bi) ?_;have u:(kvs.filter λp=>decide<|p.1∉ys)=kvs.filter λp=>@decide (¬aQ kvs log p.1) (K1 _):=List.filter_congr λp _=>by by_cases d:aQ kvs log p.1;rw[dF_<|show ¬¬p.1∈ys from λz=>z<|(Q _).mpr d,@decide_eq_false _ (K1 _)<|λz=>z d];rw[dT_<|show ¬p.1∈ys from λz=>d<|(Q _).mp z,@decide_eq_true _ (K1 _) d]
 rw[<-u];exact ad
theorem qg(T:Tops P w K mg base):w6 P w K mg base 5 "says_shown" gg cX:=w6.byD (N:=["house","log","says","backs"]) T.b T.f_says_shown (by walk_at"sc") nX (by have:=dJ T;have:=cS T;walk_at"dv") pF
def bv:A2:=λds M R=>∃(ps:List (b9×Int)) (a:List (b9×List b9)) (log:List D) (e:b9),ds=[.tup log,.str e]/\(∀d∈log,aE ps a d)/\log.length<1000/\∀n B b,M <+: B->VbAt B n b (pJ log e)->R (.ref n) B
theorem iM:da bv cz:=by rintro ds M R ⟨ps,a,log,e,rfl,_⟩;rfl
def dc:u3:=bp<|ab 2
def dg:u3:=ay (kJ (bB<|u7 dE<|aa (ab 0)<|aa (dC<|.str "read")<|aa (ab 1) ag) (af 3)<|iU<|MR cx (Pm wJ (ab 2)<|aa (t7 v5 (t7 v5 (ab 3)<|dC<|.int 3)<|dC<|.int 1)<|aa (iA ag) ag)<|aa (t7 v5 (t7 v5 (ab 3)<|dC<|.int 3)<|dC<|.int 2) ag)<|dc
def eE:u3:=ay (bc (EK) 2)<|dg
theorem iY:C1 bv 4 eE:=by
 rintro ds M R ⟨ps,X,log,name,rfl,b,Y,h⟩;simp only[eE,dg];walk_at"dl";refine⟨ps,X,log,u4 "read",name,rfl,b,by lia,?_⟩;have W:=mZ (log:=log) (k:=u4 "read") (name:=name);have J:∀d∈jT log (u4 "read") name,∃(t:Int) (z:b9) (k n:Int) (r:b9) (hs:List (D×Int)),d=.tup [.int t,.tup [.str z,.int k],.int n,.tup [.str<|u4 "read",.str r,.tup<|nL hs]]:=λd N=>by obtain⟨h1,h2,_⟩:=mY N;obtain⟨t,z,k,n,r,hs,e,_⟩:=zK (b d h1) h2;exact⟨t,z,k,n,r,hs,e⟩
 have V:pJ log name=λr=>((jT log (u4 "read") name).filter λd=>decide<|aW d=r).map cN:=rfl;rw[V]at h;generalize jT log (u4 "read") name=F at W J h;have f:(M++[MO.dct []]).length=M.length+1:=by simp
 have H:(M++[MO.dct []]++[MO.lst F])[M.length+1]?=a7 (.lst F):=by rw[<-f];exact ad
 rw[f];refine⟨F,.inl H,λ_=>?_⟩;refine aV (λi S M'=>∃(c:List (b9×D)) (a:Option D),M <+: M'/\M'[M.length+1]?=a7 (.lst F)/\VbAt M' M.length c (λr=>((F.take i).filter λd=>decide<|aW d=r).map cN)/\c.length<=i/\S=[a7<|.tup log,a7<|.str name,a7<|.ref M.length,a]) ?_ ?_ ⟨[],_,bi.trans bi,H,⟨ac ad,λk d z=>(by cases z),λk _=>rfl,λ_ _ _ z=>(by cases z)⟩,v6 _,rfl⟩;rintro S M' ⟨c,a,pM,o,tr,_,rfl⟩;rw[Mu]at tr;refine⟨.inl o,?_⟩;simp only[dc];walk_at"dl";exact .inl<|h _ _ _ pM tr;rintro i y S M' Q ⟨c,a,pM,o,tr,tl,rfl⟩ G w;have K:F.take (i+1)=F.take i++[y]:=by rw[Mz,Q];rfl
 rw[K]at w;have hi:=(A6.mp Q).1;obtain⟨t,z,k,n,r,hs,rfl⟩:=J y<|E9 Q;have C:∀k,(((F.take i).filter λd=>decide<|aW d=k).map cN).length<=i:=λk=>by rw[v7];refine F4 (Mn _ _) ?_;rw[K5];lia
 generalize p:(λI=>(((F.take i++[D.tup [.int t,.tup [.str z,.int k],.int n,.tup [.str<|u4 "read",.str r,.tup<|nL hs]]]).filter λd=>decide<|aW d=I).map cN))=L at w;have u:∀I,L I=if r=I then(((F.take i).filter λd=>decide<|aW d=I).map cN)++[.tup<|nL hs]else(((F.take i).filter λd=>decide<|aW d=I).map cN):=λI=>by rw[<-p];dsimp only;rw[List.filter_append,G1,J3,List.filter_nil];by_cases e:r=I;rw[o8 e,show decide (aW (.tup [.int t,.tup [.str z,.int k],.int n,.tup [.str<|u4 "read",.str r,.tup<|nL hs]])=I)=a9 from dT_ e];rfl;rw[p4 e,show decide (aW (.tup [.int t,.tup [.str z,.int k],.int n,.tup [.str<|u4 "read",.str r,.tup<|nL hs]])=I)=b7 from dF_ e];exact MJ _
 clear p;refine⟨.inl o,?_⟩;walk_at"dl";have E:atI [D.int t,.tup [.str z,.int k],.int n,.tup [.str<|u4 "read",.str r,.tup<|nL hs]] 3=a7 (.tup [.str<|u4 "read",.str r,.tup<|nL hs]):=ar (j:=3) rfl;rw[E];dsimp only;rw[Qt];dsimp only;show (∃kvs,M'[M.length]?=a7 (MO.dct kvs))/\_;refine⟨⟨_,tr.at_⟩,?_⟩;walk_at"dl";rw[E];dsimp only;rw[MZ];dsimp only;refine⟨B5 _,c,ac tr.at_,av (by lia),λy Q=>?_,λO=>?_⟩;obtain⟨m,rfl,Z,A⟩:=tr.got r y Q;refine⟨⟨_,.inl<|ac A⟩,_,ac A,av (by have:=C r;lia),B6.now<|w _ _ ⟨c,_,bx (pM.trans bi) (by lia),aO (by lia)<|ac o,⟨aO (by lia)<|ac tr.at_,λI d b=>?_,λI b=>?_,tr.one⟩,by lia,rfl⟩⟩;obtain⟨q,rfl,l,g⟩:=tr.got I d b;refine⟨q,rfl,l,?_⟩;rw[u];by_cases e:r=I;subst e;rw[Q]at b;obtain rfl:m=q:=by injection b with b;injection b
 rw[bH<|ac A,o8 rfl];rw[p4 e];exact aO (λz=>e<|tr.one _ _ _ (z ▸ Q) b)<|ac g;have e:r≠I:=λz=>by rw[<-z,Q]at b;cases b
 rw[u,p4 e];exact tr.no I b;have U:M.length+1<M'.length:=aK o;have x:((M'++[MO.lst []]).set M.length<|.dct<|kX c r<|.ref M'.length)[M'.length]?=a7 (.lst []):=aO (by lia) ad;have B:∀I,fU (kX c r<|.ref M'.length) I=if r=I then a7 (.ref M'.length)else fU c I:=λI=>by by_cases e:r=I;rw[o8 e,<-e,yN];rw[p4 e,xH<|z9 e]
 refine⟨⟨_,.inl x⟩,_,x,av (by rw[D6];lia),B6.now<|w _ _ ⟨kX c r<|.ref M'.length,_,bx (bx (pM.trans bi)<|v6 _) (by lia),aO (by lia)<|aO (by lia)<|ac o,⟨aO (by lia)<|bH<|ac tr.at_,λI d b=>?_,λI b=>?_,λP T m h1 h2=>?_⟩,by have:=(wM (kvs:=c) (k:=r) (d:=.ref M'.length)).1;lia,rfl⟩⟩;rw[B]at b;by_cases e:r=I;rw[o8 e]at b;subst e;exact⟨M'.length,by injection b with b;exact b.symm,U,by rw[bH x,u,o8 rfl,tr.no _ O]⟩;rw[p4 e]at b;obtain⟨q,rfl,l,g⟩:=tr.got I d b;have:=aK g;exact⟨q,rfl,l,by rw[u,p4 e];exact aO (by lia)<|aO (by lia)<|ac g⟩;rw[B]at b;by_cases e:r=I;rw[o8 e]at b;cases b;rw[p4 e]at b;rw[u,p4 e];exact tr.no I b;rw[B]at h1 h2;have s:∀I m,fU c I=a7 (.ref m)->m<M'.length:=λI m h'=>by obtain⟨q,e,_,g⟩:=tr.got I _ h';injection e with e;rw[e];exact aK g
 by_cases f:r=P<;>by_cases v:r=T;rw[<-f,<-v];rw[o8 f]at h1;rw[p4 v]at h2;have:=s _ _ h2;injection h1 with h1;injection h1 with h1;lia;rw[p4 f]at h1;rw[o8 v]at h2;have:=s _ _ h1;injection h2 with h2;injection h2 with h2;lia;rw[p4 f]at h1;rw[p4 v]at h2;exact tr.one _ _ _ h1 h2
theorem jv(T:Tops P w K mg base):w6 P w K mg base 3 "vectors_by_room" cz bv:=w6.byD (N:=["log","name","vectors","deed"]) T.b T.f_vectors_by_room (by walk_at"sc") iM (by have:=mU T;walk_at"dv") iY
def hZ:A2:=λds M R=>∃(ps:List (b9×Int)) (a:List (b9×List b9)) (log:List D) (n:b9) (e:D) (v qs:Nat) (b:List (b9×D)),ds=[e,.str n,.ref v,.ref qs]/\(∀d∈log,aE ps a d)/\log.length<=1000/\aE ps a e/\bA e=u4 "say"/\VbAt M v b (pJ log n)/\M[qs]?=a7 (.lst<|jJ log (u4 "seen") n)/\(∀x∈jJ log (u4 "seen") n,St x)/\R (.bl<|gf log n e) M
theorem vC:da hZ mM:=by rintro ds M R ⟨ps,a,log,n,e,v,qs,b,rfl,_⟩;rfl
theorem FO(h:∀d∈log,aE ps rs d):∀v∈pJ log name r,∃hs:List (D×Int),v=.tup (nL hs)/\(∀p∈hs,Hd p.1)/\hs.length<=12:=λv c=>by obtain⟨d,m,rfl⟩:=z5.mp c;obtain⟨h1,h2,_⟩:=mY (E5.mp m).1;obtain⟨t,z,k,n,r,hs,rfl,q,j⟩:=zK (h d h1) h2;exact⟨hs,rfl,q,j⟩
theorem Cr:(pJ log name r).length<=log.length:=by unfold pJ;rw[v7];exact F4 (Mn _ _) mZ
def ma:u3:=bp<|u7 Jk<|aa (F6 1 [0] (bB<|Pm wK (ab 2)<|aa (u7 bD<|aa (ab 0) ag)<|aa (iA ag) ag) (af 0) oh<|u7 dO<|aa (ab 1)<|aa (ab 0) ag) ag
def sw:u3:=ay (B9 (NI (au<|t7 B7 (u7 bf<|aa (ab 0) ag)<|ab 1)<|au<|t7 OK (u7 bN<|aa (ab 0) ag)<|ab 3) (bp<|dC<|.bl a9) aT)<|ma
theorem xB:C1 hZ 4 sw:=by
 rintro ds M R ⟨ps,F,log,name,e,y,qs,d,rfl,p,E,j,x,f,n,hs,h⟩;obtain⟨t,z,k,m,r,u,s,rfl,_⟩:=dI j x;have c:St (.tup [.int t,.tup [.str z,.int k]]):=⟨_,_,_,rfl⟩
 simp only[sw];walk_at"dl";refine⟨_,_,_,_,rfl,⟨ak,ak⟩,?_⟩;rw[aJ];unfold gf at h;rw[show bQ (.tup [.int t,.tup [.str z,.int k],.int m,.tup [.str<|u4 "say",.str r,u,.str s]])=z from rfl,show v8 (.tup [.int t,.tup [.str z,.int k],.int m,.tup [.str<|u4 "say",.str r,u,.str s]])=.tup [.int t,.tup [.str z,.int k]]from rfl,show aW (.tup [.int t,.tup [.str z,.int k],.int m,.tup [.str<|u4 "say",.str r,u,.str s]])=r from rfl]at h;by_cases b:z=name;rw[beq_iff_eq.mpr b];rw[dT_ b]at h;exact ck<|aY.now h;rw[beq_eq_false_iff_ne.mpr b];rw[dF_ b,PD]at h;refine bR ⟨_,_,_,rfl,_,.inl n,⟨c.ok,zy hs⟩,?_⟩;rw[AT c hs];by_cases l:D.tup [.int t,.tup [.str z,.int k]]∈jJ log (u4 "seen") name;rw[dT_ l];rw[dT_ l]at h;exact ck<|aY.now h;rw[dF_ l];rw[dF_ l,PD]at h;refine bR ?_;simp only[ma];walk_at"dl";show (∃kvs,M[y]?=a7 (MO.dct kvs))/\_;refine⟨⟨_,f.at_⟩,?_⟩;walk_at"dl";refine⟨_,_,_,_,_,_,rfl,B5 _,d,ac f.at_,?_⟩;obtain⟨q,X,g⟩:=(f.pre<|bi (mo:=MO.lst [])).kids (k:=r) ad;rw[X];have pM:M <+: M++[MO.lst []]:=bi;generalize M++[MO.lst []]=B at g pM;have C:=Cr (log:=log) (name:=name) (r:=r);have W:=FO (name:=name) (r:=r) p;generalize pJ log name r=L at g h C W;refine⟨_,.inl g,λ_=>?_⟩;refine bu (λv=>.bl<|cr (Cs v) (.tup [.str z,.int k]) m) (λS=>∃a,S=[a,a7<|.tup [.int t,.tup [.str z,.int k],.int m,.tup [.str<|u4 "say",.str r,u,.str s]]]) (.inl g) _ _ _ (λv w S o=>?_) ⟨_,rfl⟩ (by rw[D6];exact aq<|by lia) ?_;obtain⟨a,rfl⟩:=o;obtain⟨hs,rfl,A,P⟩:=W v w;refine⟨[a7<|.tup<|nL hs,a7<|.tup [.int t,.tup [.str z,.int k],.int m,.tup [.str<|u4 "say",.str r,u,.str s]]],⟨_,rfl⟩,λY i=>?_⟩;rw[vX]at i;walk_at"dl";exact⟨_,_,_,_,hs,rfl,⟨_,_,rfl⟩,A,by lia,i⟩;refine⟨L.map λv=>cr (Cs v) (.tup [.str z,.int k]) m,?_,?_⟩;rw[H9,show bls (L.map λv=>cr (Cs v) (.tup [.str z,.int k]) m)=L.map λv=>.bl (cr (Cs v) (.tup [.str z,.int k]) m) by unfold bls;rw[D9];rfl];exact ah;rw[List.any_map];exact aY.bl h<|pM.trans bi
theorem ya(T:Tops P w K mg base):w6 P w K mg base 2 "is_read" mM hZ:=w6.byD (N:=["say","name","vectors","seen"]) T.b T.f_is_read (by walk_at"sc") vC (by have:=fg T;have:=cJ T;have:=tq T;have:=gO T;walk_at"dv") xB
def bw:A2:=λds M R=>∃(ps:List (b9×Int)) (a:List (b9×List b9)) (log:List D) (e:b9),ds=[aC ps a,.tup log,.str e]/\(∀d∈log,aE ps a d)/\log.length<64/\R (.ref M.length) (M++[.lst<|(dU a log e).map<|uF<|bt (aF a log) log])
theorem iN:da bw cA:=by rintro ds M R ⟨ps,a,log,e,rfl,_⟩;rfl
theorem cw(h:∀d∈log,aE ps rs d):∀p∈aF rs log,p.1=v8 p.2/\aE ps rs p.2/\bA p.2=u4 "say":=λp hp=>by have h1:=(eI.mp hp).1;have b:=bo (rs:=rs) (log:=log);exact⟨(b.en p h1).1,eW h (λ_ q=>q) b p h1⟩
theorem wV(f:∀p∈ch,∃s,p.2=.str s)(h:aE ps rs d)(c:bA d=u4 "say"):D4 n (uF ch d):=by
 obtain⟨t,z,k,m,r,u,s,rfl,_,_,_,g⟩:=dI h c;have b:D4 n u:=by rcases g with rfl|g;exact .non;exact bG 2 u g.pl
 refine .tup<|.cons (bG 2 _<|St.pl (n:=0) ⟨t,z,k,rfl⟩)<|.cons (.str _)<|.cons b<|.cons (.str _)<|.cons ?_<|.cons (.bl _) .nil;cases e:aB ch (v8<|.tup [.int t,.tup [.str z,.int k],.int m,.tup [.str<|u4 "say",.str r,u,.str s]]) with
 |none=>exact .str _
 |some v=>obtain⟨s',a⟩:=f _<|br e;dsimp only at a;rw[a];exact .str _
def dh:u3:=bp<|F6 1 [6,2,3,4] (uf<|ab 5) (af 0) (BC<|au<|u7 hZ<|aa (ab 0)<|aa (ab 2)<|aa (ab 3)<|aa (ab 4) ag)<|u7 cY<|aa (ab 0)<|aa (ab 1) ag
def dj:u3:=ay (bc (u7 ci<|aa (ab 1)<|aa (ab 5) ag) 6)<|dh
def dn:u3:=ay (bc (u7 cX<|aa (ab 0)<|aa (ab 1) ag) 5)<|dj
def dq:u3:=ay (bc (u7 cH<|aa (ab 1)<|aa (dC<|.str "seen")<|aa (ab 2) ag) 4)<|dn
def eF:u3:=ay (bc (u7 bv<|aa (ab 1)<|aa (ab 2) ag) 3)<|dq
theorem iZ:C1 bw 7 eF:=by
 rintro ds M R ⟨ps,rs,log,b,rfl,g,C,h⟩;simp only[eF];walk_at"dl";refine⟨ps,rs,log,b,rfl,g,by lia,λn B t F G=>?_⟩;simp only[dq];walk_at"dl";refine⟨ps,rs,log,_,b,rfl,g,by lia,.inl rfl,λhs=>?_⟩;have v:=G.pre<|bi (mo:=MO.lst<|jJ log (u4 "seen") b);have l:(B++[MO.lst<|jJ log (u4 "seen") b])[B.length]?=a7 (.lst<|jJ log (u4 "seen") b):=ad;have A:=F.trans<|bi (mo:=MO.lst<|jJ log (u4 "seen") b);generalize B++[MO.lst<|jJ log (u4 "seen") b]=H at v l A;generalize B.length=qs at l;simp only[dn];walk_at"dl";refine⟨ps,rs,log,rfl,g,C,λD I i y=>?_⟩;have s:=cw (rs:=rs) g;have N:(aF rs log).length<=1000:=by have h1:=(bo (rs:=rs) (log:=log)).len;have h2:=bn (log:=log) (k:=u4 "say");have K:(aF rs log).length<=(ap rs log).length:=Mn _ _;lia
 simp only[dj];walk_at"dl";refine⟨ps,rs,log,D,aF rs log,rfl,g,by lia,y,λp hp=>(s p hp).2.1.nm,λr J f g3=>?_⟩;have u:=v.pre<|i.trans f;have m:=aH (i.trans f) l;have j:=aH f y;have E:=A.trans<|i.trans f;simp only[dh];walk_at"dl";refine⟨_,j,λ_=>?_⟩;refine ba (λe=>!gf log b e) (uF<|bt (aF rs log) log) (λS=>∃a,S=[a,a7<|.ref r,a7<|.str b,a7<|.ref n,a7<|.ref qs]) j _ _ _ ?_ ⟨_,rfl⟩ (by rw[D6,v7];exact aq<|by lia) ?_;rintro e o S ⟨a,rfl⟩;refine⟨[a7 e,a7<|.ref r,a7<|.str b,a7<|.ref n,a7<|.ref qs],⟨_,rfl⟩,λY Z c=>?_⟩;obtain⟨p,hp,rfl⟩:=z5.mp o;obtain⟨_,w,x⟩:=s p hp;walk_at"dl";refine⟨ps,rs,log,b,p.2,n,qs,t,rfl,g,by lia,w,x,u,m,hs,?_⟩;cases z:gf log b p.2 with
 |true=>rw[z]at c;exact c
 |false=>rw[z]at c;exact⟨ps,rs,p.2,r,_,rfl,w,x,g3,c⟩
 rw[H9];obtain⟨L,rfl⟩:=E;rw[G3];have U:((aF rs log).map (·.2)).filter (λe=>!gf log b e)=dU rs log b:=rfl;rw[U];refine aY.lst h (by simp) (by simp)<|Bels.of λd q=>?_;obtain⟨e,o,rfl⟩:=z5.mp q;obtain⟨p,hp,rfl⟩:=z5.mp (E5.mp o).1;exact wV (nG g) (s p hp).2.1 (s p hp).2.2
theorem jw(T:Tops P w K mg base):w6 P w K mg base 6 "unread_messages" cA bw:=w6.byD (N:=["house","log","name","vectors","seen","says","changes"]) T.b T.f_unread_messages (by walk_at"sc") iN (by have:=nS T;have:=mS T;have:=qh T;have:=qg T;have:=jv T;have:=ya T;walk_at"dv") iZ
def bC:A2:=λds M R=>∃(ps:List (b9×Int)) (a:List (b9×List b9)) (q:Nat) (r:b9) (kvs:List (D×D)),ds=[.ref q,.str r]/\M[q]?=a7 (.dkt kvs)/\(∀p∈kvs,aE ps a p.2/\bA p.2=u4 "say")/\kvs.length<=1000/\∀n B b,M <+: B->TreeAt B n b (aA r (kvs.map (·.2)))->R (.ref n) B
theorem jy:da bC cP:=by rintro ds M R ⟨ps,a,q,r,kvs,rfl,_⟩;rfl
def dG:u3:=bp<|ab 2
def dH:u3:=ay (kJ (uf<|ab 0) (af 3)<|B9 (au<|t7 B7 (u7 bD<|aa (ab 3) ag)<|ab 1) (iU<|MR cx (Ol sY (ab 2)<|aa (u7 cD<|aa (ab 3) ag)<|aa (iA ag) ag)<|aa (u7 bN<|aa (ab 3) ag) ag) aT)<|dG
def fG:u3:=ay (bc (EJ) 2)<|dH
theorem jI:C1 bC 4 fG:=by
 rintro ds M R ⟨ps,rs,q,r,kvs,rfl,E,X,kl,h⟩;simp only[fG,dH];walk_at"dl";refine⟨kvs,ac E,λ_=>?_⟩;have Z:=aK E;refine aV (λi S M'=>∃(c:List (D×D)) (a:Option D),M <+: M'/\TreeAt M' M.length c (aA r ((kvs.map (·.2)).take i))/\c.length<=i/\S=[a7<|.ref q,a7<|.str r,a7<|.ref M.length,a]) ?_ ?_ ⟨[],_,bi,⟨ad,λk d z=>(by cases z),λk _=>rfl,λ_ _ _ z=>(by cases z)⟩,v6 _,rfl⟩;rintro S M' ⟨c,a,pM,tr,_,rfl⟩;rw[Mu]at tr;refine⟨aH pM E,?_⟩;simp only[dG];walk_at"dl";exact .inl<|h _ _ _ pM tr;rintro i e S M' B ⟨c,a,pM,tr,tl,rfl⟩ G j;have P:(kvs.map (·.2)).take (i+1)=(kvs.map (·.2)).take i++[e]:=by rw[Mz,B];rfl
 rw[P]at j;have hi:=(A6.mp B).1;rw[v7]at hi;have Y:=E9 B;obtain⟨p,hp,rfl⟩:=z5.mp Y;obtain⟨O,U⟩:=X p hp;generalize p.2=e at B P j O U;refine⟨aH pM E,?_⟩;walk_at"dl";have C:∀k,(aA r ((kvs.map (·.2)).take i) k).length<=i:=λk=>by unfold aA;rw[v7];refine F4 (Mn _ _) ?_;rw[K5];lia
 generalize (kvs.map (·.2)).take i=es at tr j C;obtain⟨t,z,k,o,r',u,s,rfl,_,_,_,hu⟩:=dI O U;have J:∀I,aA r (es++[.tup [.int t,.tup [.str z,.int k],.int o,.tup [.str<|u4 "say",.str r',u,.str s]]]) I=if r'=r/\u=I then aA r es I++[.tup [.int t,.tup [.str z,.int k]]]else aA r es I:=λI=>tW
 generalize es++[.tup [.int t,.tup [.str z,.int k],.int o,.tup [.str<|u4 "say",.str r',u,.str s]]]=f at J j;have ku:yn u=a9:=by
  rcases hu with rfl|⟨t',z',I,rfl⟩
  rfl;rfl
 refine⟨_,_,_,_,_,_,rfl,⟨ak,ak⟩,?_⟩;rw[aJ];by_cases F:r'=r;rw[beq_iff_eq.mpr F];have W:aA r f u=aA r es u++[.tup [.int t,.tup [.str z,.int k]]]:=by rw[J,o8 ⟨F,rfl⟩]
 have H:∀I,I≠u->aA r f I=aA r es I:=λI ne=>by rw[J,p4 λw=>ne w.2.symm]
 refine ck ⟨⟨_,tr.at_⟩,_,_,_,_,_,_,_,rfl,B5 _,c,ac tr.at_,ku,av (by lia),λy Q=>?_,λT=>?_⟩;obtain⟨m,rfl,nm,L⟩:=tr.got u y Q;refine⟨⟨_,.inl<|ac L⟩,_,_,_,rfl,_,ac L,av (by have:=C u;lia),B6.now<|j _ _ ⟨c,_,bx (pM.trans bi)<|NN nm,⟨aO (by lia)<|ac tr.at_,λI d b=>?_,λI b=>?_,tr.one⟩,by lia,rfl⟩⟩;obtain⟨n,rfl,l,g⟩:=tr.got I d b;refine⟨n,rfl,l,?_⟩;by_cases e:I=u;subst e;rw[Q]at b;obtain rfl:m=n:=by injection b with b;injection b
 rw[bH<|ac L,W];rw[H I e];exact aO (λz=>e<|tr.one _ _ _ (z ▸ b) Q)<|ac g;have e:I≠u:=λz=>by rw[z,Q]at b;cases b
 rw[H I e];exact tr.no I b;have lM:M.length<M'.length:=aK tr.at_;have K:((M'++[MO.lst []]).set M.length<|.dkm<|c++[(u,.ref M'.length)])[M'.length]?=a7 (.lst []):=aO (by lia) ad;have N:∀I,aB (c++[(u,.ref M'.length)]) I=if I=u then a7 (.ref M'.length)else aB c I:=λI=>by rw[<-tj T];by_cases e:I=u;rw[o8 e,e,gR];rw[p4 e,eL e]
 refine⟨⟨_,.inl K⟩,_,_,_,rfl,_,K,av (by rw[D6];lia),B6.now<|j _ _ ⟨c++[(u,.ref M'.length)],_,bx (bx (pM.trans bi)<|v6 _) (by lia),⟨aO (by lia)<|bH<|ac tr.at_,λI d b=>?_,λI b=>?_,λk1 k2 m h1 h2=>?_⟩,by rw[A3,F3];lia,rfl⟩⟩;rw[N]at b;by_cases e:I=u;rw[o8 e]at b;subst e;exact⟨M'.length,by injection b with b;exact b.symm,lM,by rw[bH K,W,tr.no _ T]⟩;rw[p4 e]at b;obtain⟨n,rfl,l,g⟩:=tr.got I d b;have:=aK g;exact⟨n,rfl,l,by rw[H I e];exact aO (by lia)<|aO (by lia)<|ac g⟩;rw[N]at b;by_cases e:I=u;rw[o8 e]at b;cases b;rw[p4 e]at b;rw[H I e];exact tr.no I b;rw[N]at h1 h2;have v:∀I m,aB c I=a7 (.ref m)->m<M'.length:=λI m h'=>by obtain⟨n,e,_,g⟩:=tr.got I _ h';injection e with e;rw[e];exact aK g
 by_cases x:k1=u<;>by_cases A:k2=u;rw[x,A];rw[o8 x]at h1;rw[p4 A]at h2;have:=v _ _ h2;injection h1 with h1;injection h1 with h1;lia;rw[p4 x]at h1;rw[o8 A]at h2;have:=v _ _ h1;injection h2 with h2;injection h2 with h2;lia;rw[p4 x]at h1;rw[p4 A]at h2;exact tr.one _ _ _ h1 h2;rw[beq_eq_false_iff_ne.mpr F];have V:∀I,aA r f I=aA r es I:=λI=>by rw[J,p4 λw=>F w.1]
 exact bR<|B6.now<|j _ _ ⟨c,_,pM,⟨tr.at_,λI d b=>by rw[V];exact tr.got I d b,λI b=>by rw[V];exact tr.no I b,tr.one⟩,by lia,rfl⟩
theorem jR(T:Tops P w K mg base):w6 P w K mg base 2 "stamps_beneath" cP bC:=w6.byD (N:=["says","room","beneath","say"]) T.b T.f_stamps_beneath (by walk_at"sc") jy (by have:=fg T;have:=gO T;have:=iL T;walk_at"dv") jI
def cg:A2:=λds M R=>∃(n:Int) (q:Nat) (xs:List D),ds=[.int n,.ref q]/\am M q xs/\(∀x∈xs,St x)/\R (.ref M.length) (M++[.lst<|bF n xs])
theorem og:da cg gj:=by rintro ds M R ⟨n,q,xs,rfl,_⟩;rfl
def kq:u3:=bp<|F6 1 [0] (EG<|aa (ab 1) ag) (af 0) oh<|fS<|aa (ab 1)<|aa (ab 0) ag
theorem pI:C1 cg 2 kq:=by rintro ds M R ⟨n,q,xs,rfl,L,hs,h⟩;simp only[kq];walk_at"dl";refine⟨xs,L,λg=>?_⟩;refine bu (λx=>.tup [.int n,x]) (λS=>∃a,S=[a,a7<|.int n]) L _ _ _ (λx c S b=>?_) ⟨_,rfl⟩ (by rw[D6,ACg];lia)<|.inl h;obtain⟨a,rfl⟩:=b;refine⟨[a7 x,a7<|.int n],⟨_,rfl⟩,λY D=>?_⟩;walk_at"dl";exact⟨aq (by lia),D⟩
theorem qi(T:Tops P w K mg base):w6 P w K mg base 1 "last_first" gj cg:=w6.byD (N:=["depth","stamps"]) T.b T.f_last_first (by walk_at"sc") og (by walk_at"dv") pI
def ca:A2:=λds M R=>∃(n:Nat) (b:List (D×D)) (es:List D) (r:b9),ds=[.ref n]/\TreeAt M n b (aA r es)/\(∀e∈es,St (v8 e)/\(cN e=.non\/St (cN e)))/\(es.map v8).Nodup/\es.length<=100/\∀out,RunW (aA r es) [] (bF 0<|aA r es .non) out->(∀x∈out,∃k s,x=.tup [.int k,s]/\St s)->out.length<=es.length->R (.ref M.length) (M++[.lst out])
theorem kP:da ca dY:=by rintro ds M R ⟨n,b,es,r,rfl,_⟩;rfl
theorem xO(h:a<=1000):a<=sizeLine:=aq<|by lia
theorem iteT'{b:Bool}{A B:Prop}(e:b=a9)(h:A):if b=a9 then A else B:=by rw[o8 e];exact h
def fH:u3:=bp<|ab 1
def fI:u3:=iU<|MR mC (ab 2)<|aa (u7 cg<|aa (t7 aN (t7 v5 (ab 3)<|dC<|.int 0)<|dC<|.int 1)<|aa (Ol oX (ab 0)<|aa (t7 v5 (ab 3)<|dC<|.int 1)<|aa (iA ag) ag) ag) ag
def fJ:u3:=ay (iU<|MR cx (ab 1)<|aa (ab 3) ag)<|fI
def fK:u3:=ay (xk (au<|t7 Nj (u7 kD<|aa (ab 2) ag)<|dC<|.int 0)<|ay (bc (dMl0 Ji<|ab 2) 3)<|fJ)<|fH
def fL:u3:=ay (bc (u7 cg<|aa (dC<|.int 0)<|aa (Ol oX (ab 0)<|aa (dC .non)<|aa (iA ag) ag) ag) 2)<|fK
def ik:u3:=ay (bc (iA ag) 1)<|fL
theorem lC:C1 ca 4 ik:=by
 rintro ds M R ⟨n,N,es,r,rfl,tr,hs,X,el,h⟩;have y:M <+: M++[MO.lst []]++[MO.lst []]:=bi.trans bi;have g0:(M++[MO.lst []]++[MO.lst []])[(M++[MO.lst []]).length]?=a7 (.lst []):=ad;have C:(M++[MO.lst []]++[MO.lst []])[M.length]?=a7 (.lst []):=ac ad;have V:∀k,∀x∈aA r es k,St x:=λk x J=>by obtain⟨e,l,rfl,_⟩:=cW.mp J;exact(hs e l).1
 simp only[ik,fL];walk_at"dl";refine⟨B5 _,⟨_,ac tr.at_⟩,B5 _,_,ac<|ac tr.at_,rfl,?_⟩;obtain⟨q,eq,gq⟩:=(tr.pre y).kids (k:=.non) g0;rw[eq];refine⟨0,q,_,rfl,.inl gq,V _,?_⟩;have U:M.length<(M++[MO.lst []]++[MO.lst []]).length:=by simp
 have I:(M++[MO.lst []]++[MO.lst []]++[MO.lst<|bF 0<|aA r es .non])[(M++[MO.lst []]++[MO.lst []]).length]?=a7 (.lst<|bF 0<|aA r es .non):=ad;replace C:=ac (a:=MO.lst<|bF 0<|aA r es .non) C;replace y:=y.trans<|bi (mo:=MO.lst<|bF 0<|aA r es .non);generalize M++[MO.lst []]++[MO.lst []]++[MO.lst<|bF 0<|aA r es .non]=B at I C y;generalize (M++[MO.lst []]++[MO.lst []]).length=L at I U;have Z:∀e∈es,v8 e≠.non:=λe l z=>by obtain⟨t,z',k,P⟩:=(hs e l).1;rw[z]at P;cases P
 simp only[fK];walk_at"dl";refine⟨λm S M'=>∃(b o:List D) (a:Option D),M <+: M'/\M'[M.length]?=a7 (.lst b)/\M'[L]?=a7 (.lst o)/\TreeW r es b o/\(∀out,RunW (aA r es) b o out->RunW (aA r es) [] (bF 0<|aA r es .non) out)/\m+b.length=es.length/\S=[a7<|.ref n,a7<|.ref M.length,a7<|.ref L,a],⟨es.length,[],_,_,y,C,I,.start X,λ_ z=>z,rfl,rfl⟩,?_⟩;rintro m S M' ⟨b,o,a,pM,T,E,w,Q,hm,rfl⟩;have wl:=w.len;walk_at"dl";refine⟨_,.inl E,?_⟩;have j:∀x∈b,∃k s,x=D.tup [.int k,s]/\St s:=λx J=>by obtain⟨k,e,q1,q2,_⟩:=w.ok x<|MW _ J;exact⟨k,_,q1,(hs e q2).1⟩
 rcases List.eq_nil_or_concat o with rfl|⟨c,x,rfl⟩
 refine bR ?_;simp only[fH];walk_at"dl";refine aY.chgL .refl (h b (Q _ .done) j<|by lia) (v6 _) T pM<|Bels.of λd hd=>?_;obtain⟨k,s,rfl,q⟩:=j d hd;exact .tup<|.cons (.int _)<|.cons (bG 2 _ q.pl) .nil;rw[List.concat_eq_append]at *;have wo:=w.ok x (by simp);obtain⟨k,e,rfl,l,_⟩:=wo;have Y:=w.step X Z;have O:=Y.len;have G:∀out,RunW (aA r es) (b++[.tup [.int k,v8 e]]) (c++bF (k+1) (aA r es<|v8 e)) out->RunW (aA r es) [] (bF 0<|aA r es .non) out:=λout z=>Q out (by have:=RunW.step z;simpa using this);have ks:=DM (r:=r) (es:=es) (k:=v8 e);have ke:yn (v8 e)=a9:=by obtain⟨t,z,k,q⟩:=(hs e l).1;rw[q];rfl
 have K:=V<|v8 e;rw[A3,A3,F3]at O;generalize v8 e=s at *;rw[A3,F3]at wl;refine iteT' (dT_<|by rw[A3,F3];lia) ⟨⟨_,.inl E⟩,c,_,E,?_⟩;have A:=bx (x:=MO.lst c) pM<|NN U;have g:=aO (x:=MO.lst c) (A4 U) T;have v:=bH (a:=MO.lst c) E;generalize M'.set L (MO.lst c)=W at A g v;simp only[fJ];walk_at"dl";refine⟨⟨_,.inl g⟩,_,g,av (by lia),?_⟩;have p:=bx (x:=MO.lst<|b++[.tup [.int k,s]]) A<|v6 _;have u:=bH (a:=MO.lst<|b++[.tup [.int k,s]]) g;have f:=aO (x:=MO.lst<|b++[.tup [.int k,s]]) (z9<|A4 U) v;generalize W.set M.length (MO.lst<|b++[.tup [.int k,s]])=M2 at p u f;simp only[fI];walk_at"dl";have i:=tr.pre p;refine⟨⟨_,.inl f⟩,⟨_,i.at_⟩,B5 _,N,ac i.at_,ke,?_⟩;obtain⟨q',F,H⟩:=(i.pre<|bi (mo:=MO.lst [])).kids (k:=s) (q0:=M2.length) ad;rw[F];refine⟨k+1,q',_,rfl,.inl H,K,?_⟩;have lq:=aK f;refine⟨_,_,ac<|ac f,ad,by rw[A3];lia,xO (by unfold bF;rw[v7,ACg];lia),m-1,?_,b++[.tup [.int k,s]],_,_,bx ((p.trans bi).trans bi)<|NN U,aO (A4 U)<|ac<|ac u,bH<|ac<|ac f,Y,G,?_,rfl⟩;lia;rw[A3,F3];lia
theorem mQ(T:Tops P w K mg base):w6 P w K mg base 2 "rows_of_tree" dY ca:=w6.byD (N:=["beneath","rows","to_do","row"]) T.b T.f_rows_of_tree (by walk_at"sc") kP (by have:=qi T;walk_at"dv") lC
def hV:A2:=λds M R=>∃(ps:List (b9×Int)) (a:List (b9×List b9)) (log:List D) (r:b9),ds=[aC ps a,.tup log,.str r]/\r∈a.map (·.1)/\(∀d∈log,aE ps a d)/\log.length<64/\∀out,RunW (aA r ((ap a log).map (·.2))) [] (bF 0 (aA r ((ap a log).map (·.2)) .non)) out->(∀x∈out,∃k s,x=.tup [.int k,s]/\St s)->out.length<=log.length->R (.ref M.length) (M++[.lst<|out.filter λx=>@decide (¬aQ (ap a log) log (eH x))<|K1 _])
theorem vt:da hV mH:=by rintro ds M R ⟨ps,a,log,r,rfl,_⟩;rfl
def lK:u3:=bp<|F6 1 [4] (bB<|u7 ca<|aa (u7 bC<|aa (ab 3)<|aa (ab 2) ag) ag) (af 0) (au<|t7 oW (t7 v5 (ab 0)<|dC<|.int 1)<|ab 1)<|ab 0
def lL:u3:=ay (bc (u7 aU<|aa (ab 1)<|aa (ab 3) ag) 4)<|lK
def lN:u3:=ay (bc (u7 bd<|aa (ab 0)<|aa (ab 1) ag) 3)<|lL
def rQ:u3:=ay (B9 (BC<|au<|u7 hX<|aa (ab 0)<|aa (ab 2) ag) (pC) aT)<|lN
theorem xw:C1 hV 5 rQ:=by
 rintro ds M R ⟨ps,rs,log,r,rfl,J,l,H,h⟩;simp only[rQ];walk_at"dl";refine⟨ps,rs,r,rfl,J,bR ?_⟩;simp only[lN];walk_at"dl";refine⟨ps,rs,log,rfl,l,by lia,λn B C hB=>?_⟩;have f:=bo (rs:=rs) (log:=log);have y:=eW l (λ_ q=>q) f;have kl:=bn (log:=log) (k:=u4 "say");have tl:=f.len;simp only[lL];walk_at"dl";refine⟨ps,rs,log,n,ap rs log,rfl,l,H,hB,λp hp=>(y p hp).1.nm,λys c Q V _=>?_⟩;have j:(B++[MO.lst ys])[B.length]?=a7 (.lst ys):=ad;replace hB:=ac (a:=MO.lst ys) hB;replace C:=C.trans<|bi (mo:=MO.lst ys);generalize B++[MO.lst ys]=W at j hB C;generalize B.length=E at j;simp only[lK];walk_at"dl";refine⟨ps,rs,n,r,ap rs log,rfl,hB,y,by lia,λP I A D tr=>?_⟩;have F:∀e∈(ap rs log).map (·.2),St (v8 e)/\(cN e=.non\/St (cN e)):=λe G=>by obtain⟨p,hp,rfl⟩:=z5.mp G;obtain⟨h1,h2⟩:=y p hp;generalize p.2=e at h1 h2;obtain⟨t,z,k,T,r',u,s,rfl,_,_,_,K⟩:=dI h1 h2;exact⟨⟨t,z,k,rfl⟩,K⟩
 have X:(((ap rs log).map (·.2)).map v8).Nodup:=by
  have:((ap rs log).map (·.2)).map v8=(ap rs log).map (·.1):=by rw[D9];exact NR λp hp=>(f.en p hp).1.symm
  rw[this];exact f.nd
 refine⟨P,A,_,r,rfl,tr,F,X,by rw[v7];lia,λout N w U=>?_⟩;rw[v7]at U;have g:=ac (a:=MO.lst out)<|aH D j;have i:=(C.trans D).trans<|bi (mo:=MO.lst out);have o:(I++[MO.lst out])[I.length]?=a7 (.lst out):=ad;generalize I++[MO.lst out]=B3 at g i o;refine⟨_,.inl o,λ_=>?_⟩;refine ba (λx=>@decide (¬aQ (ap rs log) log (eH x))<|K1 _) id (λS=>∃a,S=[a,a7<|.ref E]) (.inl o) _ _ _ ?_ ⟨_,rfl⟩ (by rw[D6];exact aq<|by lia) ?_;rintro x O S ⟨a,rfl⟩;refine⟨[a7 x,a7<|.ref E],⟨_,rfl⟩,λY Z b=>?_⟩;obtain⟨k,s,rfl,hs⟩:=w x O;walk_at"dl";refine⟨_,.inl g,⟨hs.ok,zy c⟩,?_⟩;rw[AT hs c];by_cases m:s∈ys;rw[dT_ m];rw[show @decide (¬aQ (ap rs log) log (eH<|.tup [.int k,s])) (K1 _)=b7 from @decide_eq_false _ (K1 _) λz=>z<|(Q s).mp m]at b;exact b;rw[dF_ m];rw[show @decide (¬aQ (ap rs log) log (eH<|.tup [.int k,s])) (K1 _)=a9 from @decide_eq_true _ (K1 _) λz=>m<|(Q s).mpr z]at b;exact b;rw[H9,NK];refine aY.chgL .refl (h out N w<|by lia) (by obtain⟨L,rfl⟩:=i;simp) ad (i.trans bi)<|Bels.of λd v=>?_;obtain⟨k,s,rfl,q⟩:=w d (E5.mp v).1;exact .tup<|.cons (.int _)<|.cons (bG 2 _ q.pl) .nil
theorem xX(T:Tops P w K mg base):w6 P w K mg base 5 "rows_of" mH hV:=w6.byD (N:=["house","log","room","says","backs"]) T.b T.f_rows_of (by walk_at"sc") vt (by have:=xZ T;have:=dJ T;have:=cS T;have:=jR T;have:=mQ T;walk_at"dv") xw
def cb:A2:=λds M R=>∃(ps:List (b9×Int)) (a:List (b9×List b9)) (log:List D) (e r:b9),ds=[aC ps a,.tup log,.str e,.str r]/\r∈a.map (·.1)/\e∈nM a r/\(∀d∈log,aE ps a d)/\log.length<64/\((nU a log e r).length<=log.length->R (.ref M.length) (M++[.lst<|(nU a log e r).map<|uF<|bt (aF a log) log]))
theorem kQ:da cb dZ:=by rintro ds M R ⟨ps,a,log,e,r,rfl,_⟩;rfl
theorem yO(h:∀d∈log,aE ps rs d):∀e∈dU rs log name,aE ps rs e/\bA e=u4 "say":=λe i=>by obtain⟨p,hp,rfl⟩:=z5.mp (E5.mp i).1;exact(cw h p hp).2
theorem Cv(h:∀d∈log,aE ps rs d):aB (uD rs log name) s=(Cd rs log name s).map (uF<|bt (aF rs log) log):=yx (λq a=>(cw h q a).1) pV
theorem FP(h:∀d∈log,aE ps rs d):((uD rs log name).map (·.1)).Nodup:=by
 have e:(uD rs log name).map (·.1)=(dU rs log name).map v8:=by unfold uD;rw[D9];rfl
 have l:((aF rs log).map (·.2)).map v8=(aF rs log).map (·.1):=by rw[D9];exact NR λp hp=>(cw h p hp).1.symm
 rw[e];refine(OD.map _).nodup ?_;rw[l];exact pV
theorem wT{rs:List (b9×List b9)}{log:List D}{name:b9}{f:D->D}{g:D->Option D}(hg:∀s,g s=(Cd rs log name s).map f):∀out:List D,(((out.filter λx=>@decide (¬aQ (ap rs log) log (eH x))<|K1 _).filter λx=>(g<|eH x).isSome).map λx=>(g<|eH x).getD .non)=(out.filterMap λx=>Cd rs log name<|eH x).map f
 | []=>rfl
 |x::out=>by
  have ih:=wT hg out;rw[J3,NT];cases hn:Cd rs log name (eH x) with
  |none=>rw[<-ih];split;rw[J3,hg,hn];rfl;rfl
  |some e =>
   have hb:=(eI.mp<|br (Ai hn).1).2;have hs:(g<|eH x).isSome=a9:=by rw[hg,hn];rfl
   rw[@decide_eq_true _ (K1 _) hb,o8 rfl,J3,o8 hs,C2,ih,hg,hn];rfl
def fM:u3:=bp<|F6 2 [4] (bB<|u7 hV<|aa (ab 0)<|aa (ab 1)<|aa (ab 3) ag) (gu 2<|aG (af 0)<|aG (af 1) gv) (au<|t7 zN (ab 1)<|ab 2)<|eP (ab 2)<|ab 1
def fN:u3:=ay (bc (u7 iD<|aa (F6 1 [] (bB<|u7 bw<|aa (ab 0)<|aa (ab 1)<|aa (ab 2) ag) (af 0) oh<|fS<|aa (t7 v5 (ab 0)<|dC<|.int 0)<|aa (ab 0) ag) ag) 4)<|fM
def il:u3:=ay (B9 (au<|t7 oW (ab 2)<|u7 cf<|aa (ab 0)<|aa (ab 3) ag) (pC) aT)<|fN
theorem lD:C1 cb 5 il:=by
 rintro ds M R ⟨ps,rs,log,name,r,rfl,F,T,g,E,h⟩;simp only[il];walk_at"dl";refine⟨ps,rs,r,rfl,F,⟨ak,pT⟩,?_⟩;rw[qD,dT_ T];refine bR ?_;simp only[fN];walk_at"dl";refine⟨ps,rs,log,name,rfl,g,E,_,ah,λ_=>?_⟩;have o:=yO (name:=name) g;have ul:(dU rs log name).length<=100:=by have h1:=(bo (rs:=rs) (log:=log)).len;have h2:=bn (log:=log) (k:=u4 "say");have h3:(aF rs log).length<=(ap rs log).length:=Mn _ _;have O:(dU rs log name).length<=((aF rs log).map (·.2)).length:=Mn _ _;rw[v7]at O;lia
 refine bu (λm=>.tup [ny m,m]) (λS=>∃a,S=[a]) ah _ _ _ (λm Q S P=>?_) ⟨_,rfl⟩ (by rw[D6,v7];exact aq<|by lia) ?_;obtain⟨a,rfl⟩:=P;obtain⟨e,i,rfl⟩:=z5.mp Q;refine⟨[a7<|uF (bt (aF rs log) log) e],⟨_,rfl⟩,λY A=>?_⟩;obtain⟨t,z,k,w,r',u,s,rfl,_⟩:=dI (o e i).1 (o e i).2;unfold uF at A ⊢;walk_at"dl";exact⟨aq (by decide),A⟩;rw[H9,D9];have K:(dU rs log name).map ((λm=>D.tup [ny m,m]) ∘ uF (bt (aF rs log) log))=(uD rs log name).map λp=>.tup [p.1,p.2]:=by unfold uD;rw[D9];refine NR λe i=>?_;obtain⟨t,z,k,w,r',u,s,rfl,_⟩:=dI (o e i).1 (o e i).2;rfl
 rw[K];refine⟨_,ah,λp hp=>?_,by unfold uD;rw[v7];lia,?_⟩;obtain⟨e,i,rfl⟩:=z5.mp hp;have J:=(o e i).1.st;obtain⟨G,q⟩:=J.tup;exact⟨J.key,by show eK (v8 e)=a9;rw[q];rfl⟩;rw[nC _<|FP g];have C:=(bi (M:=M) (mo:=MO.lst<|(dU rs log name).map<|uF<|bt (aF rs log) log)).trans<|bi (mo:=MO.lst<|(uD rs log name).map λp=>D.tup [p.1,p.2]);generalize M++[MO.lst<|(dU rs log name).map<|uF<|bt (aF rs log) log]++[MO.lst<|(uD rs log name).map λp=>D.tup [p.1,p.2]]=B at C;have j:(B++[MO.dkt<|uD rs log name])[B.length]?=a7 (.dkt<|uD rs log name):=ad;replace C:=C.trans<|bi (mo:=MO.dkt<|uD rs log name);generalize B++[MO.dkt<|uD rs log name]=H at j C;generalize B.length=I at j;simp only[fM];walk_at"dl";refine⟨ps,rs,log,r,rfl,F,g,E,λout V U ol=>?_⟩;have N:=V.out;have l:(H++[MO.lst<|out.filter λx=>@decide (¬aQ (ap rs log) log (eH x))<|K1 _])[H.length]?=a7 (.lst<|out.filter λx=>@decide (¬aQ (ap rs log) log (eH x))<|K1 _):=ad;replace j:=ac (a:=MO.lst<|out.filter λx=>@decide (¬aQ (ap rs log) log (eH x))<|K1 _) j;replace C:=C.trans<|bi (mo:=MO.lst<|out.filter λx=>@decide (¬aQ (ap rs log) log (eH x))<|K1 _);have fl:=Mn (λx=>@decide (¬aQ (ap rs log) log (eH x))<|K1 _) out;have nr:=wT (rs:=rs) (log:=log) (name:=name) (f:=uF<|bt (aF rs log) log) (λs=>Cv (s:=s) g) out;generalize H++[MO.lst<|out.filter λx=>@decide (¬aQ (ap rs log) log (eH x))<|K1 _]=B2 at l j C;generalize H.length=qo at l;refine⟨_,.inl l,λ_=>?_⟩;refine ba (λx=>(aB (uD rs log name)<|eH x).isSome) (λx=>(aB (uD rs log name)<|eH x).getD .non) (λS=>∃a b,S=[a,b,a7<|.ref I]) (.inl l) _ _ _ ?_ ⟨_,_,rfl⟩ (by rw[D6];exact aq<|by lia) ?_;rintro x W S ⟨a,b,rfl⟩;obtain⟨k,s,rfl,hs⟩:=U x (E5.mp W).1;refine⟨[a7<|.int k,a7 s,a7<|.ref I],⟨_,_,rfl⟩,λY Z c=>?_⟩;have v:=hs.key;obtain⟨G,e⟩:=hs.tup;have es:eH (.tup [.int k,s])=s:=rfl;rw[es]at c;rw[e]at c v ⊢;walk_at"dl";refine⟨trivial,_,j,v,?_⟩;cases n:aB (uD rs log name) (.tup G) with
 |none=>rw[n]at c;exact c
 |some d=>rw[n]at c;exact⟨_,_,j,v,n,c⟩
 rw[H9,nr];have y:(out.filterMap λx=>Cd rs log name<|eH x)=nU rs log name r:=by unfold nU;rw[<-N]
 rw[y];have X:(nU rs log name r).length<=log.length:=by have:=List.length_filterMap_le (λx=>Cd rs log name<|eH x) out;rw[y]at this;lia
 refine aY.chgL .refl (h X) (by obtain⟨L,rfl⟩:=C;simp) ad (C.trans bi)<|Bels.of λd q=>?_;obtain⟨e,i,rfl⟩:=z5.mp q;obtain⟨s,_,h1,_⟩:=wU i;exact wV (nG g) (cw g _<|br h1).2.1 (cw g _<|br h1).2.2
theorem mR(T:Tops P w K mg base):w6 P w K mg base 7 "new_messages" dZ cb:=w6.byD (N:=["house","log","name","room","unread"]) T.b T.f_new_messages (by walk_at"sc") kQ (by have:=jx T;have:=jw T;have:=xX T;walk_at"dv") lD
def db:A2:=λds M R=>∃(ps:List (b9×Int)) (a:List (b9×List b9)) (log:List D) (e r:b9),ds=[aC ps a,.tup log,.str e,.str r]/\r∈a.map (·.1)/\e∈nM a r/\(∀d∈log,aE ps a d)/\log.length<64/\((nU a log e r).length<=log.length->(∀x∈(nU a log e r).map v8,St x)->R (.ref M.length) (M++[.lst<|(nU a log e r).map v8]))
theorem vA:da db mK:=by rintro ds M R ⟨ps,a,log,e,r,rfl,_⟩;rfl
theorem mX(h:∀d∈log,aE ps rs d):∀e∈nU rs log name r,aE ps rs e/\bA e=u4 "say":=λe i=>by obtain⟨s,_,h1,_⟩:=wU i;exact(cw h _<|br h1).2
def rT:u3:=bp<|F6 1 [] (bB<|u7 cb<|aa (ab 0)<|aa (ab 1)<|aa (ab 2)<|aa (ab 3) ag) (af 0) oh<|t7 v5 (ab 0)<|dC<|.int 0
theorem xz:C1 db 4 rT:=by
 rintro ds M R ⟨ps,c,log,n,r,rfl,v,p,b,j,h⟩;simp only[rT];walk_at"dl";refine⟨ps,c,log,n,r,rfl,v,p,b,j,λy=>⟨_,ah,λ_=>?_⟩⟩;refine bu ny (λS=>∃a,S=[a]) ah _ _ _ (λm o S g=>?_) ⟨_,rfl⟩ (by rw[D6,v7];exact aq<|by lia) ?_;obtain⟨a,rfl⟩:=g;obtain⟨e,i,rfl⟩:=z5.mp o;refine⟨[a7<|uF (bt (aF c log) log) e],⟨_,rfl⟩,λY D=>?_⟩;obtain⟨t,z,k,f,r',u,s,rfl,_⟩:=dI (mX b e i).1 (mX b e i).2;unfold uF at D ⊢;walk_at"dl";exact D;have l:((nU c log n r).map<|uF<|bt (aF c log) log).map ny=(nU c log n r).map v8:=by rw[D9];refine NR λe i=>?_;obtain⟨t,z,k,f,r',u,s,rfl,_⟩:=dI (mX b e i).1 (mX b e i).2;rfl
 have hs:∀x∈(nU c log n r).map v8,St x:=λx w=>by obtain⟨e,i,rfl⟩:=z5.mp w;exact(mX b e i).1.st
 rw[H9,l];exact aY.chgL .refl (h y hs) (by simp) ad (bi.trans bi)<|Bels.of λd q=>bG 2 d (hs d q).pl
theorem pc(T:Tops P w K mg base):w6 P w K mg base 8 "new_for" mK db:=w6.byD (N:=["house","log","name","room"]) T.b T.f_new_for (by walk_at"sc") vA (by have:=mR T;walk_at"dv") xz
def dR:A2:=λds M R=>∃(ps:List (b9×Int)) (a:List (b9×List b9)) (log:List D) (e r:b9),ds=[aC ps a,.tup log,.str e,.str r]/\r∈a.map (·.1)/\e∈nM a r/\(∀d∈log,aE ps a d)/\log.length<64/\R (((nU a log e r).map v8).headD .non) M
theorem qz:da dR iI:=by rintro ds M R ⟨ps,a,log,e,r,rfl,_⟩;rfl
def jh:u3:=bp<|dIfE (au<|t7 Nj (u7 kD<|aa (ab 4) ag)<|dC<|.int 0) (t7 v5 (ab 4)<|dC<|.int 0)<|dC .non
def mh:u3:=ay (bc (u7 db<|aa (ab 0)<|aa (ab 1)<|aa (ab 2)<|aa (ab 3) ag) 4)<|jh
theorem rE:C1 dR 5 mh:=by
 rintro ds M R ⟨ps,a,log,e,r,rfl,i,f,d,g,h⟩;simp only[mh];walk_at"dl";refine⟨ps,a,log,e,r,rfl,i,f,d,g,λn hs=>?_⟩;generalize (nU a log e r).map v8=xs at h hs;simp only[jh];walk_at"dl";refine⟨_,ah,?_⟩;cases xs with
 |nil=>exact aY.non h bi
 |cons x xs=>have b:=hs x D3;have hp:decide ((0:Int)<((x::xs).length:Int))=a9:=dT_ (by rw[C0];lia);rw[hp];refine ck ⟨_,ah,?_⟩;rw[OL];exact aY.keep h (bG 2 x b.pl) bi
theorem tz(T:Tops P w K mg base):w6 P w K mg base 9 "first_new" iI dR:=w6.byD (N:=["house","log","name","room","new"]) T.b T.f_first_new (by walk_at"sc") qz (by have:=pc T;walk_at"dv") rE
noncomputable def BI(ns:List Int)(k:Nat):Int:=ns.getD k 0
def eQ:A2:=λds M R=>∃(n:Nat) (ns:List Int) (k:Nat),ds=[.ref n,.int k]/\am M n (ns.map D.int)/\R (.int<|BI ns k) M
theorem vD:da eQ mN:=by rintro ds M R ⟨n,ns,k,rfl,_⟩;rfl
def mi:u3:=bp<|dC<|.int 0
def sJ:u3:=ay (B9 (au<|t7 Nr (ab 1)<|u7 kD<|aa (ab 0) ag) (bp<|t7 v5 (ab 0)<|ab 1) aT)<|mi
theorem xC:C1 eQ 2 sJ:=by rintro ds M R ⟨n,ns,k,rfl,L,h⟩;simp only[sJ,mi];walk_at"dl";refine⟨_,L,?_⟩;unfold BI at h;by_cases a:k<ns.length;rw[dT_<|by simpa using a];refine ck ⟨_,L,?_⟩;rw[ar (v:=.int ns[k])<|by rw[C7,x9 a];rfl];rw[K6,x9 a]at h;exact aY.now h;rw[dF_<|by simpa using a];rw[K6,OE<|by lia]at h;exact bR<|aY.now h
theorem pe(T:Tops P w K mg base):w6 P w K mg base 1 "_law_cell_at" mN eQ:=w6.byD (N:=["_law_script","_law_k"]) T.b T.f_cell_at (by walk_at"sc") vD (by walk_at"dv") xC
def dN:A2:=λds M R=>∃(c k:Int),ds=[.int c,.int k]/\(0<=k/\k<=1000)/\∀i:Int,R (.int i) M
theorem Aw:da dN uY:=by rintro ds M R ⟨c,k,rfl,_⟩;rfl
def sj:u3:=bp<|t7 cq (t7 aN (t7 aN (t7 kN (ab 2)<|dC<|.int 69621)<|t7 kN (t7 kN (dC<|.int 7919)<|ab 1)<|ab 1)<|dC<|.int 5)<|dC<|.int 1999999973
def yT:u3:=ay (bc (t7 cq (t7 kN (t7 aN (t7 aN (t7 cq (ab 0)<|dC<|.int 2147483629)<|t7 kN (dC<|.int 7919)<|ab 1)<|dC<|.int 11)<|dC<|.int 48271)<|dC<|.int 2147483587) 2)<|sj
theorem Cm:C1 dN 3 yT:=by rintro ds M R ⟨c,k,rfl,⟨L,C⟩,h⟩;simp only[yT,sj];walk_at"dl";exact⟨by decide,.inl ⟨by decide,by decide⟩,.inr ⟨by decide,by decide⟩,by decide,.inr ⟨by decide,by decide⟩,.inl ⟨by decide,by decide⟩,.inr ⟨by lia,by lia⟩,by decide,aY.now<|h _⟩
theorem wP(T:Tops P w K mg base):w6 P w K mg base 1 "_law_mixed" uY dN:=w6.byD (N:=["_law_cell","_law_k","_law_number"]) T.b T.f_mixed (by walk_at"sc") Aw (by walk_at"dv") Cm
def nK:A2:=λds M R=>∃(c k:Int),ds=[.int c,.int k]/\(0<=k/\k<=900)/\∀i:Int,R (.int i) M
theorem Dz:da nK Aa:=by rintro ds M R ⟨c,k,rfl,_⟩;rfl
def wz:u3:=bp<|u7 dN<|aa (u7 dN<|aa (ab 0)<|aa (ab 1) ag)<|aa (t7 aN (ab 1)<|dC<|.int 9) ag
def Fg:u3:=ay (B9 (au<|t7 B7 (t7 cq (ab 0)<|dC<|.int 2)<|dC<|.int 0) (bp<|t7 aR (ab 0)<|dC<|.int 2) aT)<|wz
theorem FN:C1 nK 2 Fg:=by
 rintro ds M R ⟨c,k,rfl,⟨L,C⟩,h⟩;simp only[Fg,wz];walk_at"dl";refine⟨by decide,⟨aI,aI⟩,?_⟩;cases u6 M u9 (.int<|c % 2) (.int 0) with
 |true=>exact ck ⟨⟨by decide,by decide⟩,aY.now<|h _⟩
 |false=>exact bR ⟨c,k,rfl,⟨L,by lia⟩,λi=>⟨i,k+9,rfl,⟨by lia,by lia⟩,λj=>aY.now<|h j⟩⟩
theorem GD(T:Tops P w K mg base):w6 P w K mg base 2 "_law_free" Aa nK:=w6.byD (N:=["_law_cell","_law_k"]) T.b T.f_free (by walk_at"sc") Dz (by have:=wP T;walk_at"dv") FN
def hW:A2:=λds M R=>∃(n:Nat) (ns:List Int) (a m:Nat),ds=[.ref n,.int a,.int m]/\am M n (ns.map D.int)/\ns.length<=100/\a<=10/\m<=100/\∀xs:List Int,xs.length<=m->R (.ref M.length) (M++[.lst<|xs.map .int])
theorem vz:da hW mJ:=by rintro ds M R ⟨n,ns,a,m,rfl,_⟩;rfl
theorem DZ{ns:List Int}{lo hi:Option Int}:∃l:List Int,cutD (ns.map D.int) lo hi=l.map D.int:=by unfold cutD;rw[<-List.map_drop,<-List.map_take];exact⟨_,rfl⟩
theorem EL{xs:List D}{s m:Nat}:(cutD xs (a7<|(s:Int)+1)<|a7<|(s:Int)+1+(m:Int)).length<=m:=by unfold cutD;rw[K5,show ((s:Int)+1)=((s+1:Nat):Int) by lia,show (((s+1:Nat):Int)+(m:Int))=((s+1+m:Nat):Int) by lia,HT.sIx_nat,HT.sIx_nat];lia
def kh:u3:=bp<|ab 4
def ki:u3:=iU<|MR cx (ab 4)<|aa (t7 aN (t7 kN (ab 9)<|dC<|.int 1000003)<|u7 dN<|aa (ab 9)<|aa (t7 aN (ab 7)<|dC<|.int 5) ag) ag
def fW:u3:=ay (kJ (bZ<|aa (u7 kD<|aa (ab 8) ag) ag) (af 7)<|ay (bc (u7 dN<|aa (u7 dN<|aa (t7 v5 (ab 8)<|ab 7)<|aa (ab 7) ag)<|aa (dC<|.int 3) ag) 9)<|ki)<|kh
def lP:u3:=ay (B9 (au<|t7 B7 (ab 8)<|iA ag) (fQ 1 [3] (bZ<|aa (t7 cq (t7 aR (ab 3)<|dC<|.int 2)<|t7 aN (ab 2)<|dC<|.int 1) ag) (af 0) oh (t7 aN (t7 aR (ab 1)<|dC<|.int 2)<|t7 kN (dC<|.int 7)<|ab 0) 8) aT)<|fW
def lQ:u3:=ay (bc (Oj (ab 0) (uh<|t7 aN (ab 1)<|dC<|.int 1)<|uh<|t7 aN (t7 aN (ab 1)<|dC<|.int 1)<|ab 2) 8)<|lP
def lR:u3:=bp<|ab 4
def lT:u3:=bc (t7 aR (ab 5)<|t7 IE (dC<|.int 10)<|dC<|.int 24) 5
def lU:u3:=ay (kJ (bZ<|aa (ab 6) ag) (af 7)<|ay (iU<|MR cx (ab 4)<|aa (t7 cq (ab 5)<|t7 IE (dC<|.int 10)<|dC<|.int 24) ag)<|lT)<|lR
def lV:u3:=ay (bc (t7 aR (ab 5)<|t7 aN (ab 2)<|dC<|.int 1) 5)<|lU
def lW:u3:=ay (bc (t7 cq (ab 5)<|t7 aN (ab 2)<|dC<|.int 1) 6)<|lV
def lX:u3:=ay (B9 (au<|t7 B7 (t7 cq (ab 3)<|dC<|.int 2)<|dC<|.int 0) (ay (bc (t7 aR (ab 3)<|dC<|.int 2) 5)<|lW) aT)<|lQ
def lY:u3:=ay (bc (iA ag) 4)<|lX
def rS:u3:=ay (bc (u7 eQ<|aa (ab 0)<|aa (ab 1) ag) 3)<|lY
theorem pf{M L:u8}{R:DK}{cs:List Int}{c m:Nat}{r y1 g j k l q s:Option D}(f:am (M++MO.lst []::L) c (cs.map D.int))(n:c≠M.length)(t:cs.length<=m)(U:m<=100)(h:∀xs:List Int,xs.length<=m->R (.ref M.length) (M++[.lst<|xs.map .int])):fW (EE M R) [r,y1,g,j,a7<|.ref M.length,k,l,q,a7<|.ref c,s] (M++MO.lst []::L):=by
 simp only[fW];walk_at"dl";refine⟨_,f,⟨by lia,by rw[v7];lia⟩,?_⟩;refine aV (λi S M'=>∃(xs:List Int) (a b:Option D),xs.length=i/\(∃d,M'=M++MO.lst (xs.map .int)::d)/\am M' c (cs.map D.int)/\S=[r,y1,g,j,a7<|.ref M.length,k,l,a,a7<|.ref c,b]) ?_ ?_ ⟨[],_,_,rfl,⟨L,rfl⟩,f,rfl⟩;rintro S M' ⟨xs,a,b,x,⟨d,rfl⟩,O,rfl⟩;rw[bh,v7,J4]at x;refine⟨trivial,?_⟩;simp only[kh];walk_at"dl";exact aY.lst (h xs<|by lia) (v6 _) bX<|xc xs;rintro i y S M' Q ⟨xs,a,b,x,⟨d,rfl⟩,O,rfl⟩ G p;obtain⟨hi,rfl⟩:=cG.mp Q;rw[v7,J4]at hi;refine⟨trivial,?_⟩;walk_at"dl";have e:atI (cs.map D.int) (0+(i:Int))=a7 (.int cs[i]):=by rw[Ot];exact ar<|by rw[C7,x9 hi];rfl
 refine⟨_,O,?_⟩;rw[e];refine⟨_,_,rfl,⟨by lia,by lia⟩,λv=>⟨v,3,rfl,⟨by decide,by decide⟩,λo=>?_⟩⟩;simp only[ki];walk_at"dl";refine⟨⟨_,.inl bX⟩,.inr ⟨by decide,by decide⟩,o,_,rfl,⟨by lia,by lia⟩,λw=>⟨xs.map .int,bX,by rw[v7];exact av (by lia),B6.now<|p _ _ ⟨xs++[o*1000003+w],_,_,by simp[x],⟨d,?_⟩,An n O,rfl⟩⟩⟩;rw[mx];simp
theorem xy:C1 hW 10 rS:=by
 rintro ds M R ⟨n,ns,a,m,rfl,L,F,C,U,h⟩;simp only[rS];walk_at"dl";refine⟨n,ns,a,rfl,L,?_⟩;generalize BI ns a=c;simp only[lY,lX];walk_at"dl";refine⟨B5 _,by decide,⟨aI,aI⟩,?_⟩;have E:(0:Int)<(m:Int)+1:=by lia
 cases u6 (M++[MO.lst []]) u9 (.int<|c % 2) (.int 0) with
 |true=>refine ck ?_;simp only[lW,lV];walk_at"dl";have A:=bV (a:=c / 2) E;have B:=cu (a:=c / 2) E;refine⟨⟨by decide,by decide⟩,E,⟨E,by lia⟩,?_⟩;simp only[lU];walk_at"dl";refine⟨⟨by lia,by lia⟩,?_⟩;refine aV (λi S M'=>∃(xs:List Int) (r:Int) (b:Option D),xs.length=i/\M'=M++MO.lst (xs.map .int)::[]/\S=[a7<|.ref n,a7<|.int a,a7<|.int m,a7<|.int c,a7<|.ref M.length,a7<|.int r,a7<|.int<|c / 2 % ((m:Int)+1),b,a8,a8]) ?_ ?_ ⟨[],_,_,rfl,rfl,rfl⟩;rintro S M' ⟨xs,r,b,f,rfl,rfl⟩;rw[bh]at f;refine⟨trivial,?_⟩;simp only[lR];walk_at"dl";exact aY.lst (h xs<|by lia) (v6 _) bX<|xc xs;rintro i y S M' Q ⟨xs,r,b,f,rfl,rfl⟩ G t;obtain⟨hi,rfl⟩:=cG.mp Q;refine⟨trivial,?_⟩;simp only[lT];walk_at"dl";refine⟨⟨_,.inl bX⟩,⟨by decide,by decide,by decide⟩,by decide,xs.map .int,bX,by rw[v7];exact av (by lia),⟨by decide,by decide,by decide⟩,⟨by decide,by decide⟩,B6.now<|t _ _ ⟨xs++[r % 10 ^ Int.toNat 24],_,_,by simp[f],?_,rfl⟩⟩;rw[mx];simp
 |false =>
  refine bR ?_;simp only[lQ];walk_at"dl";obtain⟨cs,e⟩:=DZ (ns:=ns) (lo:=a7<|(a:Int)+1) (hi:=a7<|(a:Int)+1+(m:Int));have j:cs.length<=m:=by have:=EL (xs:=ns.map D.int) (s:=a) (m:=m);rw[e,v7]at this;exact this
  refine⟨_,L.more _,?_⟩;rw[e,G3];simp only[lP];walk_at"dl";have q:(M++[MO.lst []]).length=M.length+1:=by simp
  rw[q];have z:am (M++MO.lst []::[MO.lst<|cs.map D.int]) (M.length+1) (cs.map D.int):=.inl gU;obtain⟨o,l⟩:=ql z λx f=>by obtain⟨i,_,rfl⟩:=z5.mp f;exact aI
  refine⟨B5 _,o,?_⟩;rw[l];cases hs:(cs.map D.int).isEmpty with
  |true =>
   have A:=bV (a:=c / 2) E;have B:=cu (a:=c / 2) E;refine ck ⟨⟨by decide,by decide⟩,E,⟨by lia,by lia⟩,?_⟩;refine bu (λd=>match d with|.int k=>.int (c / 2+7*k)|_=>.non) (λS=>∃b,S=[b,a7<|.int c]) trivial _ _ _ (λk w S u=>?_) ⟨_,rfl⟩ ?_ ?_;obtain⟨b,rfl⟩:=u;obtain⟨i,hi⟩:=MP w;obtain⟨_,rfl⟩:=cG.mp hi;refine⟨[a7<|.int<|0+(i:Int),a7<|.int c],⟨_,rfl⟩,λY v=>?_⟩;walk_at"dl";exact⟨⟨by decide,by decide⟩,.inl ⟨by decide,by decide⟩,v⟩;rw[D6,bh];exact aq (by lia);obtain⟨ds,g,p⟩:∃ds:List Int,(ie 0 (c / 2 % ((m:Int)+1)).toNat).map (λd=>match d with|.int k=>D.int (c / 2+7*k)|_=>.non)=ds.map D.int/\ds.length<=m:=by refine⟨(D0 (c / 2 % ((m:Int)+1)).toNat).map λ(i:Nat)=>c / 2+7*(0+(i:Int)),?_,by rw[v7,Ob];lia⟩;unfold ie;rw[D9,D9];rfl
   rw[H9,g,G3,G3];refine pf (cs:=ds) ?_ ?_ p U h;exact .inl (by simp);simp
  |false=>refine bR ?_;rw[G3];exact pf (.inl gU) (by lia) j U h
theorem xY(T:Tops P w K mg base):w6 P w K mg base 2 "_law_numbers" mJ hW:=w6.byD (N:=["_law_script","_law_start","_law_most","_law_head","_law_found","_law_rest","_law_many","_law_k","_law_cells","_law_one"]) T.b T.f_numbers (by walk_at"sc") vz (by have:=pe T;have:=wP T;walk_at"dv") xy
def jH:A2:=λds M R=>∃(c:Int) (m:Nat),ds=[.int c,.int m]/\1<=m/\m<=4/\∀xs:List b9,xs.length=m->(∀x∈xs,x.length<=8)->xs.Nodup->R (.ref M.length) (M++[.lst<|xs.map .str])
theorem Av:da jH uX:=by rintro ds M R ⟨c,m,rfl,_⟩;rfl
theorem Ea(u:Option Int)(n:Nat):Pd a8 u 1 n=Pd (a7 ((0:Nat):Int)) u 1 n:=by unfold Pd;simp only[show (1:Int) > 0 by decide,s9];congr 1
theorem KK(l:Option Int)(n:Nat):Pd l a8 1 n=Pd l (a7 ((n:Nat):Int)) 1 n:=by unfold Pd;simp only[show (1:Int) > 0 by decide,s9];congr 1;rw[p4<|by lia];lia
theorem wG(x:b9)(b:Nat):(MS x a8<|a7 (b:Int)).cps.toList=x.cps.toList.take b:=by have e:=sR x (a:=0) (b:=b)<|B5 _;rw[eX]at e ⊢;rw[Ea];rw[e];simp
theorem xQ(x:b9)(a:Nat)(h:a<=x.length):(MS x (a7 (a:Int)) a8).cps.toList=x.cps.toList.drop a:=by have e:=sR x (a:=a) (b:=x.length) h;rw[eX]at e ⊢;rw[KK];rw[e];rw[Qh];rw[MM,fq];lia
theorem xq(a:0<=i)(h1:i<26):∃c:Nat,atI (u4 "abcdefghijklmnopqrstuvwxyz").cps.toList i=a7 c/\(97<=c/\c<=122)/\c=97+i.toNat:=by
 have g:(u4 "abcdefghijklmnopqrstuvwxyz").cps.toList=(D0 26).map (· + 97):=by decide +kernel
 obtain⟨j,L,e,z⟩:=BU (xs:=(u4 "abcdefghijklmnopqrstuvwxyz").cps.toList) a (by rw[g];simpa using h1);refine⟨_,e,?_⟩;have l:(u4 "abcdefghijklmnopqrstuvwxyz").cps.toList[j]?=a7 (j+97):=by rw[g,v7,Ob]at L;rw[g,C7,List.getElem?_range L];rfl
 rw[x9 L]at l;have Q:=C3 l;have h:j<26:=by rw[g,v7,Ob]at L;exact L
 rw[Q];lia
theorem Bf{at_ s o:Nat}{a:List b9}(l:a.length<=4)(h:∀(j:Nat) z,a[j]?=a7 z->z.length=s/\z.cps.toList[at_]?=a7 (97+(o+j) % 26)):a.Nodup:=by rw[Of,Qk];intro i j hi L b e;have h1:=(h i _<|x9 hi).2;have h2:=(h j _<|x9 L).2;rw[e,h2]at h1;have:=C3 h1;lia
theorem EY(h:97<=ch/\ch<=122):∃(i:Nat) (aM:List Nat),Q3 (u4 "abcdefghijklmnopqrstuvwxyz") ⟨#[ch]⟩ 0 (u4 "abcdefghijklmnopqrstuvwxyz").length 1=i::aM:=by
 have f:=StrLaws.found_one (u4 "abcdefghijklmnopqrstuvwxyz") ch;have g:(u4 "abcdefghijklmnopqrstuvwxyz").cps.toList=(D0 26).map (· + 97):=by decide +kernel
 have d:ch∈(u4 "abcdefghijklmnopqrstuvwxyz").cps.toList:=by rw[g];exact z5.mpr ⟨ch-97,I0.mpr (by lia),by lia⟩
 rw[dT_ d]at f;cases e:Q3 (u4 "abcdefghijklmnopqrstuvwxyz") ⟨#[ch]⟩ 0 (u4 "abcdefghijklmnopqrstuvwxyz").length 1 with
 |nil=>rw[e]at f;cases f
 |cons i r=>exact⟨i,r,rfl⟩
def jK:u3:=bp<|u7 jM<|aa (ab 8) ag
def rU:u3:=ay (B9 (qS (au<|t7 Nj (ab 1)<|dC<|.int 1)<|au<|t7 B7 (t7 cq (ab 0)<|dC<|.int 3)<|dC<|.int 1) (LO (t7 aN (t7 v5 (ab 8)<|dC<|.int 0)<|dC<|.str "b")<|Bw (ab 8)<|dC<|.int 1) aT)<|jK
def rV:u3:=ay (fQ 1 [5,4,2,7] (bZ<|aa (ab 1) ag) (af 0) oh (t7 aN (t7 aN (Oj (ab 1) jZ<|uh<|ab 2)<|t7 v5 (ab 3)<|t7 cq (t7 aN (ab 4)<|ab 0)<|dC<|.int 26)<|Oj (ab 1) (uh<|t7 aN (ab 2)<|dC<|.int 1) jZ) 8)<|rU
def rW:u3:=ay (bc (Qs mB (ab 2)<|aa (t7 v5 (ab 5)<|ab 4) ag) 7)<|rV
def rX:u3:=bc (t7 aR (ab 0)<|dC<|.int 26) 0
def rY:u3:=ay (kJ (bZ<|aa (ab 3) ag) (af 6)<|ay (bc (t7 aN (ab 5)<|t7 v5 (ab 2)<|t7 cq (ab 0)<|dC<|.int 26) 5)<|rX)<|rW
def rZ:u3:=ay (bc (dC<|.str "") 5)<|rY
def sd:u3:=ay (bc (t7 aR (ab 0)<|dC<|.int 49) 0)<|rZ
def sf:u3:=ay (bc (t7 cq (t7 aR (ab 0)<|dC<|.int 7)<|ab 3) 4)<|sd
def sg:u3:=ay (bc (t7 aN (dC<|.int 1)<|t7 cq (ab 0)<|dC<|.int 7) 3)<|sf
def yS:u3:=ay (bc (dC<|.str "abcdefghijklmnopqrstuvwxyz") 2)<|sg
theorem qm{M L:u8}{R:DK}{m:Nat}{xs:List b9}{r y1 y j d k e q:Option D}(f:m<=4)(l:xs.length=m)(c:∀x∈xs,x.length<=8)(X:xs.Nodup)(h:∀xs:List b9,xs.length=m->(∀x∈xs,x.length<=8)->xs.Nodup->R (.ref M.length) (M++[.lst<|xs.map .str])):jK (EE M R) [r,y1,y,j,d,k,e,q,a7<|.ref M.length] (M++MO.lst (xs.map .str)::L):=by simp only[jK];walk_at"dl";refine⟨xs.map .str,.inl bX,(xM<|by lia).g,λys Q _=>?_⟩;obtain⟨s,rfl,b⟩:=zT Q;rw[G3];exact aY.lst (h s (by rw[b.length_eq,l]) (λx a=>c x<|b.mem_iff.mp a)<|b.nodup_iff.mpr X) (by simp) (by simp)<|CF s
theorem Cl:C1 jH 9 yS:=by
 rintro ds M R ⟨c,m,rfl,m1,N,h⟩;have o:(u4 "abcdefghijklmnopqrstuvwxyz").length<=sizeLine:=by decide +kernel
 have s0:=bV (a:=c) (b:=7) (by decide);have s1:=cu (a:=c) (b:=7) (by decide);simp only[yS,sg,sf];walk_at"dl";obtain⟨s,hs⟩:∃n:Nat,(n:Int)=1+c % 7:=⟨(1+c % 7).toNat,by lia⟩
 rw[<-hs];have z1:1<=s:=by lia
 have z7:s<=7:=by lia
 have a0:=bV (a:=c / 7) (b:=s) (by lia);have P:=cu (a:=c / 7) (b:=s) (by lia);obtain⟨at_,Z⟩:∃n:Nat,(n:Int)=c / 7 % (s:Int):=⟨(c / 7 % (s:Int)).toNat,by lia⟩
 refine⟨by decide,⟨by decide,by decide⟩,by lia,?_⟩;rw[<-Z]at P ⊢;simp only[sd,rZ,rY];walk_at"dl";refine⟨⟨by decide,by decide⟩,⟨by lia,by lia⟩,?_⟩;refine aV (λi S M'=>∃(x:b9) (r:Int) (b:Option D),M'=M/\x.length=i/\(∀q∈x.cps.toList,97<=q/\q<=122)/\S=[a7<|.int r,a7<|.int m,a7<|.str<|u4 "abcdefghijklmnopqrstuvwxyz",a7<|.int s,a7<|.int at_,a7<|.str x,b,a8,a8]) ?_ ?_ ⟨u4 "",_,_,rfl,by decide +kernel,(λq u=>by rw[show (u4 "").cps.toList=[] by decide +kernel]at u;cases u),rfl⟩;rintro S M' ⟨base,r,b,rfl,f,u,rfl⟩;rw[bh,J4]at f;refine⟨trivial,?_⟩;have ai:=fq (a:=base);have v:at_<base.cps.toList.length:=by lia
 have T:atI base.cps.toList (at_:Int)=a7 base.cps.toList[at_]:=ar<|x9 v;have w:=u _<|MV v;simp only[rW];walk_at"dl";refine⟨aq (by lia),?_⟩;rw[T];generalize base.cps.toList[at_]=ch at w;obtain⟨E,t,ho⟩:=EY w;refine⟨E,t,ho,?_⟩;simp only[rV];walk_at"dl";refine⟨⟨by lia,by lia⟩,?_⟩;have p:(MS base a8<|a7 (at_:Int)).length=at_:=by rw[fq,wG,K5];lia
 have B:(MS base (a7<|(at_:Int)+1) a8).length=s-(at_+1):=by have O:=xQ base (at_+1) (by lia);rw[show ((at_+1:Nat):Int)=(at_:Int)+1 by lia]at O;rw[fq,O,MM];lia
 refine gY (λys acc S C=>∃(d:List b9) (a:Option D),acc=d.map .str/\(∀(j:Nat) z,d[j]?=a7 z->z.length=s/\z.cps.toList[at_]?=a7 (97+(E+j) % 26))/\d.length+ys.length=m/\ys=(ie 0 m).drop d.length/\C=M'/\S=[a,a7<|.str base,a7<|.int at_,a7<|.str<|u4 "abcdefghijklmnopqrstuvwxyz",a7<|.int E]) ?_ ?_ _ _ _ _ ⟨[],_,rfl,(λj z o=>by simp at o),by rw[bh,J4];simp,by rw[J4];rfl,rfl,rfl⟩;rintro acc S C ⟨d,a,rfl,l,hl,_,rfl,rfl⟩;rw[D6,Nat.add_zero]at hl;refine⟨trivial,?_⟩;have z7':∀z∈d,z.length=s:=λz o=>by obtain⟨j,L⟩:=MP o;exact(l j z L).1
 have z8:∀z∈d,z.length<=8:=λz o=>by have:=z7' z o;lia
 have znd:d.Nodup:=Bf (by lia) l;simp only[rU];walk_at"dl";by_cases W:(1:Int)<m;rw[dT_ W];refine ck ⟨by decide,⟨aI,aI⟩,?_⟩;cases u6 (C++[MO.lst<|d.map .str]) u9 (.int<|r % 3) (.int 1) with
 |true =>
  match d,hl,z7',z8,znd with
  |z0::z1::zr,hl,z7',z8,znd =>
   have l0:=z7' z0 (by simp);refine ck ⟨_,ah,?_⟩;rw[C2,OL];refine⟨?_,_,1,ad,?_,?_⟩;rw[show (u4 "b").length=1 by decide +kernel];exact aq (by lia);rw[C0,v7,C0];unfold Nk;rw[o8<|by decide];simp;lia;rw[mx,C2,QQ,QR];have lb:(z0++u4 "b").length=s+1:=by rw[dD,show (u4 "b").length=1 by decide +kernel,l0]
   refine qm (xs:=z0::(z0++u4 "b")::zr) N (by simpa using hl) (λx f=>?_) ?_ h;rcases A1.mp f with rfl|f;lia;rcases A1.mp f with rfl|f;lia;exact z8 x (by simp[f]);rw[J7,J7]at znd ⊢;refine⟨λf=>?_,λf=>?_,znd.2.2⟩;rcases A1.mp f with e|f;rw[<-e]at lb;lia;exact znd.1<|C4 _ f;have:=z7' _<|C4 _<|C4 _ f;lia
  | [z0],hl,_,_,_=>exact p7 hl<|by simp only[F3];lia
  | [],hl,_,_,_=>exact p7 hl<|by simp only[D6];lia
 |false=>exact bR<|qm N hl z8 znd h
 rw[dF_ W];exact bR<|qm N hl z8 znd h;rintro y ys acc S C ⟨d,a,rfl,l,hl,Q,rfl,rfl⟩ K Y;have A:d.length<(ie 0 m).length:=by rw[C0]at hl;rw[bh];lia
 rw[Ql A]at Q;obtain⟨rfl,rfl⟩:=PH Q;have V:(ie 0 m)[d.length]=.int (d.length:Int):=by have:=(cG (lo:=0) (n:=m) (i:=d.length) (x:=(ie 0 m)[d.length])).mp<|x9 A;rw[this.2];congr 1;lia
 rw[V];refine⟨trivial,?_⟩;rw[C0]at hl;walk_at"dl";obtain⟨H,J,_,U⟩:=xq (i:=((E:Int)+(d.length:Int)) % 26) (bV<|by decide) (cu<|by decide);refine⟨aq (by lia),by decide,o,?_⟩;rw[J];refine⟨by rw[iK,p];exact aq (by lia),aq (by lia),by rw[dD,iK,p,B];exact aq (by lia),by rw[v7];exact av (by lia),Y _ _ _ ⟨d++[MS base a8 (a7 (at_:Int))++⟨#[H]⟩++MS base (a7<|(at_:Int)+1) a8],_,by simp,λj z k=>?_,by rw[A3,F3];lia,by rw[A3,F3],rfl,rfl⟩⟩;by_cases L:j<d.length;rw[L5 L]at k;exact l j z k;obtain⟨rfl,rfl⟩:j=d.length/\z=MS base a8 (a7 (at_:Int))++⟨#[H]⟩++MS base (a7<|(at_:Int)+1) a8:=by
  have I:=(A6.mp k).1;rw[A3,F3]at I;obtain rfl:j=d.length:=by lia
  rw[MC<|v6 _,NL]at k;exact⟨rfl,(C3 k).symm⟩
 refine⟨by rw[dD,dD,iK,p,B];lia,?_⟩;have st:=wG base at_;have lt:(base.cps.toList.take at_).length=at_:=by rw[K5];lia
 rw[qY,qY,st,G3,MC (by lia),lt,NL];show a7 H=_;rw[U];congr 2;rintro i y S M' Q ⟨x,r,b,rfl,f,u,rfl⟩ G X;obtain⟨hi,rfl⟩:=cG.mp Q;refine⟨trivial,?_⟩;simp only[rX];walk_at"dl";obtain⟨H,J,F⟩:=xq (i:=r % 26) (bV<|by decide) (cu<|by decide);refine⟨by decide,o,?_⟩;rw[J];refine⟨by rw[iK,f];exact aq (by lia),⟨by decide,by decide⟩,B6.now<|X _ _ ⟨x++⟨#[H]⟩,_,_,rfl,by rw[dD,iK,f],λq g=>?_,rfl⟩⟩;rw[qY]at g;rcases F0.mp g with g|g;exact u q g;have:q=H:=by simpa using g
 rw[this];exact F.1
theorem Dg(T:Tops P w K mg base):w6 P w K mg base 1 "_law_names" uX jH:=w6.byD (N:=["_law_number","_law_many","_law_letters","_law_size","_law_at","_law_base","_law_j","_law_turned","_law_names_here"]) T.b T.f_names (by walk_at"sc") Av (by walk_at"dv") Cl
def lA:A2:=λds M R=>∃(c:Int),ds=[.int c]/\∀ps a,HouseF ps a->R (aC ps a) M
theorem Ax:da lA uZ:=by rintro ds M R ⟨c,rfl,_⟩;rfl
theorem Eb:G7 4 (aC ps rs):=by refine .tup<|.cons (.tup<|nN.of λd h=>?_)<|.cons (.tup<|nN.of λd h=>?_) .nil;obtain⟨p,_,rfl⟩:=z5.mp h;exact .tup<|.cons (.str _)<|.cons (.int _) .nil;obtain⟨p,_,rfl⟩:=z5.mp h;refine .tup<|.cons (.str _)<|.cons (.tup<|nN.of λd h=>?_) .nil;obtain⟨q,_,rfl⟩:=z5.mp h;exact .str _
theorem Bc{a b c d:Int}{k:Nat}(h:k<4)(f:uB 0 a)(e:uB 0 b)(g:uB 0 c)(i:uB 0 d):∃z:Int,atI [D.int a,.int b,.int c,.int d] (0+(k:Int))=a7 (.int z)/\uB 0 z:=by
 rw[Ot]
 match k,h with
 | 0,_=>exact⟨a,ar (j:=0) rfl,f⟩
 | 1,_=>exact⟨b,ar (j:=1) rfl,e⟩
 | 2,_=>exact⟨c,ar (j:=2) rfl,g⟩
 | 3,_=>exact⟨d,ar (j:=3) rfl,i⟩
def oP:u3:=bp<|fS<|aa (u7 iw<|aa (ab 4) ag)<|aa (u7 iw<|aa (F6 1 [9,5] (bZ<|aa (u7 kD<|aa (ab 5) ag) ag) (af 0) oh<|fS<|aa (t7 v5 (ab 1)<|ab 0)<|aa (t7 v5 (ab 2)<|ab 0) ag) ag) ag
def gJ:u3:=ay (bc (u7 jH<|aa (t7 aR (ab 1)<|dC<|.int 262144)<|aa (u7 kD<|aa (ab 5) ag) ag) 9)<|oP
def md:u3:=iU<|MR cx (ab 5)<|aa (u7 iw<|aa (ab 8) ag) ag
def sA:u3:=ay (B9 (au<|t7 B7 (ab 8)<|iA ag) (bc (iA<|aa (t7 v5 (ab 3)<|t7 cq (ab 7)<|ab 2) ag) 8) aT)<|md
def sB:u3:=ay (fQ 1 [3,7] (bZ<|aa (ab 2) ag) (af 0) (au<|t7 B7 (t7 cq (t7 aR (ab 2)<|t7 Jh (dC<|.int 1)<|ab 0)<|dC<|.int 2)<|dC<|.int 1) (t7 v5 (ab 1)<|ab 0) 8)<|sA
def sC:u3:=ay (kJ (bZ<|aa (t7 aN (dC<|.int 1)<|t7 cq (ab 1)<|dC<|.int 4) ag) (af 6)<|ay (bc (t7 cq (t7 aR (ab 1)<|t7 v5 (iA<|aa (dC<|.int 4)<|aa (dC<|.int 64)<|aa (dC<|.int 1024)<|aa (dC<|.int 16384) ag)<|ab 6)<|dC<|.int 16) 7)<|sB)<|gJ
def me:u3:=ay (bc (iA ag) 5)<|sC
def sD:u3:=ay (bc (u7 nK<|aa (t7 aR (ab 0)<|dC<|.int 5)<|aa (dC<|.int 2) ag) 1)<|me
def sE:u3:=ay (fQ 1 [3,1] (bZ<|aa (ab 2) ag) (af 0) oh (fS<|aa (t7 v5 (ab 1)<|ab 0)<|aa (t7 aN (dC<|.int 1)<|t7 cq (t7 aR (ab 2)<|t7 v5 (iA<|aa (dC<|.int 4)<|aa (dC<|.int 12)<|aa (dC<|.int 36)<|aa (dC<|.int 108) ag)<|ab 0)<|dC<|.int 3) ag) 4)<|sD
def sF:u3:=ay (bc (u7 jH<|aa (t7 aR (ab 1)<|dC<|.int 324)<|aa (ab 2) ag) 3)<|sE
def sG:u3:=ay (bc (t7 aN (dC<|.int 1)<|t7 cq (ab 1)<|dC<|.int 4) 2)<|sF
def zk:u3:=ay (bc (u7 nK<|aa (ab 0)<|aa (dC<|.int 1) ag) 1)<|sG
theorem Ec{M B:u8}{R:DK}{g:Nat}{ps:List (b9×Int)}{s:List (List b9)}{ns:List b9}{v:Int}{o:Nat}{O P T V W X:Option D}(J:M <+: B)(G:am B o (ps.map iE))(n:am B g (s.map λm=>.tup<|m.map .str))(I:∀m∈s,m.Sublist ns)(Y:ns.length<=4)(U:1<=s.length)(N:s.length<=4)(E:∀rs,1<=rs.length/\rs.length<=4->(rs.map (·.1)).Nodup->(∀r∈rs,r.2.Sublist ns)->HouseF ps rs)(h:∀ps rs,HouseF ps rs->R (aC ps rs) M):gJ (EE M R) [O,a7<|.int v,P,T,a7<|.ref o,a7<|.ref g,V,W,X,a8] B:=by
 simp only[gJ];walk_at"dl";refine⟨⟨by decide,by decide⟩,_,n,?_⟩;rw[v7];refine⟨_,s.length,rfl,U,N,λxs xl Z k=>?_⟩;have p:M <+: B++[MO.lst<|xs.map .str]:=J.trans bi;have c:=G.more [MO.lst<|xs.map D.str];have l:=n.more [MO.lst<|xs.map D.str];have f:am (B++[MO.lst<|xs.map .str]) B.length (xs.map .str):=ah;generalize B++[MO.lst<|xs.map .str]=H at p c l f;generalize B.length=L at f;simp only[oP];walk_at"dl";refine⟨_,c,_,l,⟨by lia,by rw[v7];lia⟩,?_⟩;rw[v7,J4];refine gY (λys acc S e=>∃(rs:List (b9×List b9)) (a:Option D) (i:Nat),acc=rs.map kM/\rs.length=i/\(rs.map (·.1)=xs.take i/\∀r∈rs,r.2.Sublist ns)/\ys=(ie 0 s.length).drop i/\i<=s.length/\e=H/\S=[a,a7<|.ref L,a7<|.ref g]) ?_ ?_ _ _ _ _ ⟨[],_,0,rfl,rfl,⟨rfl,λ_ z=>nomatch z⟩,by simp,B5 _,rfl,rfl⟩;rintro acc S e ⟨rs,a,i,rfl,u,⟨x,j⟩,d,F,rfl,rfl⟩;have hi:i=s.length:=by have:=t4 L1 d;rw[D6,MM,bh]at this;lia
 refine⟨trivial,_,ah,aq (by lia),aY.keep (h ps rs<|E rs ⟨by lia,by lia⟩ (by rw[x];exact k.sublist<|O3 _ _) j) (bG 4 _ Eb)<|p.trans bi⟩;rintro y ys acc S e ⟨rs,a,i,rfl,u,⟨x,j⟩,d,F,rfl,rfl⟩ K C;have hi:i<s.length:=by have:=t4 L1 d;rw[C0,MM,bh]at this;lia
 have Q:(ie 0 s.length)[i]?=a7 y/\ys=(ie 0 s.length).drop (i+1):=by
  have t:i<(ie 0 s.length).length:=by rw[bh];exact hi
  rw[Ql t]at d;injection d with h1 h2;exact⟨by rw[x9 t,h1],h2⟩
 obtain⟨_,rfl⟩:=cG.mp Q.1;refine⟨trivial,?_⟩;walk_at"dl";have A:atI (xs.map D.str) (0+(i:Int))=a7 (.str<|xs[i]'(by lia)):=by rw[Ot];exact ar<|by rw[C7,x9<|by lia];rfl
 have w:atI (s.map λm=>D.tup<|m.map .str) (0+(i:Int))=a7 (.tup<|(s[i]).map .str):=by rw[Ot];exact ar<|by rw[C7,x9 hi];rfl
 refine⟨_,f,?_⟩;rw[A];refine⟨_,l,?_⟩;rw[w];refine⟨aq (by lia),by rw[v7];exact av (by lia),C _ _ _ ⟨rs++[(xs[i]'(by lia),s[i])],_,i+1,by simp[kM],by simp[u],⟨by rw[G1,x,Mz,x9<|by lia];rfl,λq b=>?_⟩,Q.2,hi,rfl,rfl⟩⟩;rcases F0.mp b with b|b;exact j q b;rw[I9.mp b];exact I _<|MV _
theorem Hu{M B:u8}{R:DK}{many:Nat}{ps:List (b9×Int)}{ns:List b9}{f:Int}{A C:Nat}{y0:Option D}(pB:M <+: B)(l3:am B A (ns.map .str))(l4:am B C (ps.map iE))(nl:ns.length=many)(n1:1<=many)(n4:many<=4)(hf:∀rs,1<=rs.length/\rs.length<=4->(rs.map (·.1)).Nodup->(∀r∈rs,r.2.Sublist ns)->HouseF ps rs)(h:∀ps rs,HouseF ps rs->R (aC ps rs) M):me (EE M R) [y0,a7<|.int f,a7<|.int many,a7<|.ref A,a7<|.ref C,a8,a8,a8,a8,a8] B:=by
 have b3:=tH l3;have b4:=tH l4;simp only[me,sC];walk_at"dl";have s0:=bV (a:=f) (b:=4) (by decide);have s1:=cu (a:=f) (b:=4) (by decide);refine⟨B5 _,by decide,⟨by lia,by lia⟩,?_⟩;obtain⟨rm,ai⟩:∃n:Nat,(n:Int)=1+f % 4:=⟨(1+f % 4).toNat,by lia⟩
 rw[<-ai,J4];refine aV (λi S M'=>∃(v:List (List b9)) (a b d:Option D),v.length=i/\(∀m∈v,m.Sublist ns)/\M <+: M'/\am M' A (ns.map .str)/\am M' C (ps.map iE)/\M'[B.length]?=a7 (.lst<|v.map λm=>.tup<|m.map .str)/\S=[y0,a7<|.int f,a7<|.int many,a7<|.ref A,a7<|.ref C,a7<|.ref B.length,a,b,d,a8]) ?_ ?_ ⟨[],_,_,_,rfl,(λ_ z=>nomatch z),pB.trans bi,l3.more _,l4.more _,ad,rfl⟩;rintro S M' ⟨v,a,b,d,ml,mm,pM,k3,k4,W,rfl⟩;rw[bh]at ml;exact⟨trivial,Ec pM k4 (.inl W) mm (by lia) (by lia) (by lia) hf h⟩;rintro i y S M' hy ⟨v,a,b,d,ml,mm,pM,k3,k4,W,rfl⟩ G hG;obtain⟨hi,rfl⟩:=cG.mp hy;have bM:=aK W;refine⟨trivial,?_⟩;walk_at"dl";obtain⟨z,ez,hz⟩:=Bc (a:=4) (b:=64) (c:=1024) (d:=16384) (k:=i) (by lia) ⟨by decide,by decide⟩ ⟨by decide,by decide⟩ ⟨by decide,by decide⟩ ⟨by decide,by decide⟩;refine⟨aq (by lia),_,ah,?_⟩;rw[ez];refine⟨hz,by decide,?_⟩;have b0:=bV (a:=f / z) (b:=16) (by decide);generalize f / z % 16=s at b0;have T:M <+: M'++[MO.lst [D.int 4,D.int 64,D.int 1024,D.int 16384]]:=pM.trans bi;have q:=k3.more [MO.lst [D.int 4,D.int 64,D.int 1024,D.int 16384]];have P:=k4.more [MO.lst [D.int 4,D.int 64,D.int 1024,D.int 16384]];have H:=ac (a:=MO.lst [D.int 4,D.int 64,D.int 1024,D.int 16384]) W;generalize M'++[MO.lst [D.int 4,D.int 64,D.int 1024,D.int 16384]]=M1 at T q P H;simp only[sB];walk_at"dl";refine⟨⟨by lia,by lia⟩,?_⟩;have F:∀(xs:List b9) (V:Nat) (M2:u8),xs.Sublist ns->M <+: M2->am M2 A (ns.map .str)->am M2 C (ps.map iE)->M2[B.length]?=a7 (.lst<|v.map λm=>.tup<|m.map .str)->am M2 V (xs.map .str) -> md ⟨B6 (B++[MO.lst []]) G,aY M R,λS M'=>gJ (EE M R) S M',B6 (B++[MO.lst []]) G⟩ [y0,a7<|.int f,a7<|.int many,a7<|.ref A,a7<|.ref C,a7<|.ref B.length,a7<|.int<|0+(i:Int),a7<|.int s,a7<|.ref V,a8] M2:=λxs V M2 x4 p2 aj al g an=>by simp only[md];walk_at"dl";refine⟨⟨_,.inl g⟩,_,an,_,g,by rw[v7];exact av (by lia),B6.now<|hG _ _ ⟨v++[xs],_,_,_,by simp[ml],λm J=>?_,?_,An (by lia) aj,An (by lia) al,?_,rfl⟩⟩;rcases F0.mp J with J|J;exact mm m J;rw[I9.mp J];exact x4;obtain⟨L,rfl⟩:=pB;obtain⟨L2,rfl⟩:=p2;rw[QZ _ _<|by simp];exact Mm _ _;rw[bH g];simp
 rw[J4];refine gY (λys acc S M2=>∃(xs:List b9) (a:Option D) (X:Nat),acc=xs.map .str/\xs.Sublist (ns.take X)/\ys=(ie 0 many).drop X/\X<=many/\M2=M1/\S=[a,a7<|.ref A,a7<|.int s]) ?_ ?_ _ _ _ _ ⟨[],_,0,rfl,List.nil_sublist _,rfl,B5 _,rfl,rfl⟩;rintro acc S M2 ⟨xs,a2,X,rfl,U,_,_,rfl,rfl⟩;have U:=U.trans<|O3 _ _;refine⟨trivial,?_⟩;simp only[sA];walk_at"dl";have O:=q.more [MO.lst<|xs.map D.str];have u:=P.more [MO.lst<|xs.map D.str];have l:=ac (a:=MO.lst<|xs.map D.str) H;have w:M <+: M2++[MO.lst<|xs.map D.str]:=T.trans bi;have Y:am (M2++[MO.lst<|xs.map D.str]) M2.length (xs.map .str):=ah;generalize M2++[MO.lst<|xs.map D.str]=M3 at O u l w Y;generalize M2.length=V at Y;obtain⟨as,E⟩:=ql Y λx N=>by obtain⟨i,_,rfl⟩:=z5.mp N;exact ak
 refine⟨B5 _,as,?_⟩;rw[E];have t:=O.more [MO.lst []];cases (xs.map D.str).isEmpty with
 |true =>
  have Q:∃x:b9,x∈ns/\atI (ns.map D.str) (s % (many:Int))=a7 (.str x):=by obtain⟨d,hd,e⟩:=jG (xs:=ns.map D.str) (i:=s) (by rw[v7];lia);rw[v7,nl]at e;obtain⟨x,N,rfl⟩:=z5.mp hd;exact⟨x,N,e⟩
  obtain⟨x,N,Q⟩:=Q;refine ck ⟨by lia,_,t,?_⟩;rw[Q];refine⟨aq (by lia),F [x] _ _ (List.singleton_sublist.mpr N) ((w.trans bi).trans bi) (t.more _) ((u.more _).more _) (ac<|ac l) ah⟩
 |false=>exact bR<|F xs V _ U (w.trans bi) t (u.more _) (ac l)<|Y.more _
 rintro y' ys acc S M2 ⟨xs,a2,j,rfl,U,o,jm,rfl,rfl⟩ K hK;have Z:j<many:=by have:=t4 L1 o;rw[C0,MM,bh]at this;lia
 have p:(ie 0 many)[j]?=a7 y'/\ys=(ie 0 many).drop (j+1):=by
  have I:j<(ie 0 many).length:=by rw[bh];exact Z
  rw[Ql I]at o;injection o with h1 h2;exact⟨by rw[x9 I,h1],h2⟩
 obtain⟨_,rfl⟩:=cG.mp p.1;have et:ns.take (j+1)=ns.take j++[ns[j]'(by lia)]:=by rw[Mz,x9<|by lia];rfl
 have xl:xs.length<=4:=by have:=U.length_le;rw[K5]at this;lia
 refine⟨trivial,?_⟩;walk_at"dl";have Q:atI (ns.map D.str) (0+(j:Int))=a7 (.str<|ns[j]'(by lia)):=by rw[Ot];exact ar<|by rw[C7,x9<|by lia];rfl
 have pw:uB s (1*2 ^ (0+(j:Int)).toNat):=by
  rw[Ot,J4];have:j=0\/j=1\/j=2\/j=3:=by lia
  rcases this with rfl|rfl|rfl|rfl<;>exact⟨by decide,by decide⟩
 refine⟨⟨by lia,by lia,by decide⟩,pw,by decide,⟨aI,aI⟩,?_⟩;split;refine⟨_,q,?_⟩;rw[Q];exact⟨by rw[v7];exact av (by lia),hK _ _ _ ⟨xs++[_],_,j+1,by simp;rfl,by rw[et];exact U.append<|P0 _,p.2,Z,rfl,rfl⟩⟩;exact hK _ _ _ ⟨xs,_,j+1,rfl,by rw[et];exact U.trans<|List.sublist_append_left _ _,p.2,Z,rfl,rfl⟩
theorem Cn:C1 lA 10 zk:=by
 rintro ds M R ⟨c,rfl,h⟩;simp only[zk];walk_at"dl";refine⟨c,1,rfl,⟨by decide,by decide⟩,λj=>?_⟩;simp only[sG];walk_at"dl";have V:=bV (a:=j) (b:=4) (by decide);have O:=cu (a:=j) (b:=4) (by decide);refine⟨by decide,?_⟩;obtain⟨many,x⟩:∃n:Nat,(n:Int)=1+j % 4:=⟨(1+j % 4).toNat,by lia⟩
 rw[<-x];simp only[sF];walk_at"dl";refine⟨⟨by decide,by decide⟩,_,many,rfl,by lia,by lia,λns r G o=>?_⟩;have l:am (M++[MO.lst<|ns.map .str]) M.length (ns.map .str):=ah;have C:M <+: M++[MO.lst<|ns.map D.str]:=bi;generalize M++[MO.lst<|ns.map .str]=B at l C;generalize M.length=H at l;simp only[sE];walk_at"dl";refine⟨⟨by lia,by lia⟩,?_⟩;rw[J4];refine gY (λys acc S m=>∃(ps:List (b9×Int)) (a:Option D) (i:Nat),acc=ps.map iE/\ps.length=i/\ps.map (·.1)=ns.take i/\(∀p∈ps,(1<=p.2/\p.2<=3)/\p.1.length<=8)/\ys=(ie 0 many).drop i/\i<=many/\B <+: m/\S=[a,a7<|.ref H,a7<|.int j]) ?_ ?_ _ _ _ _ ⟨[],_,0,rfl,rfl,rfl,(λ_ z=>nomatch z),by simp,B5 _,List.prefix_refl _,rfl⟩;rintro acc S m ⟨ps,a,i,rfl,s,g,hp,f,F,pM,rfl⟩;have hi:i=many:=by have:=t4 L1 f;rw[D6,MM,bh]at this;lia
 refine⟨trivial,?_⟩;simp only[sD];walk_at"dl";refine⟨⟨by decide,by decide⟩,_,2,rfl,⟨by decide,by decide⟩,λL=>?_⟩;exact Hu ((C.trans pM).trans bi) ((bW pM l).more _) ah r (by lia) (by lia) (λN A J I=>⟨⟨by lia,by lia⟩,λp e=>(hp p e).1,λp e=>(hp p e).2,A,by rw[g];exact o.sublist<|O3 _ _,J,λq e=>by rw[g,hi,<-r,Mu];exact I q e⟩) h;rintro y ys acc S m ⟨ps,a,i,rfl,s,g,hp,f,F,pM,rfl⟩ K w;have hi:i<many:=by have:=t4 L1 f;rw[C0,MM,bh]at this;lia
 have Q:(ie 0 many)[i]?=a7 y/\ys=(ie 0 many).drop (i+1):=by
  have t:i<(ie 0 many).length:=by rw[bh];exact hi
  rw[Ql t]at f;injection f with h1 h2;exact⟨by rw[x9 t,h1],h2⟩
 obtain⟨_,rfl⟩:=cG.mp Q.1;refine⟨trivial,?_⟩;walk_at"dl";have u:atI (ns.map D.str) (0+(i:Int))=a7 (.str<|ns[i]'(by lia)):=by rw[Ot];exact ar<|by rw[C7,x9<|by lia];rfl
 obtain⟨z,v,E⟩:=Bc (a:=4) (b:=12) (c:=36) (d:=108) (k:=i) (by lia) ⟨by decide,by decide⟩ ⟨by decide,by decide⟩ ⟨by decide,by decide⟩ ⟨by decide,by decide⟩;refine⟨_,bW pM l,?_⟩;rw[u];refine⟨aq (by lia),_,ah,?_⟩;rw[v];have Z:=bV (a:=j / z) (b:=3) (by decide);have P:=cu (a:=j / z) (b:=3) (by decide);refine⟨E,by decide,aq (by lia),by rw[v7];exact av (by lia),w _ _ _ ⟨ps++[(ns[i]'(by lia),1+j / z % 3)],_,i+1,by simp[iE],by simp[s],by rw[G1,g,Mz,x9<|by lia];rfl,λp e=>?_,Q.2,hi,pM.trans bi,rfl⟩⟩;rcases F0.mp e with e|e;exact hp p e;rw[I9.mp e];exact⟨⟨by dsimp only;lia,by dsimp only;lia⟩,G _<|MV _⟩
theorem Dh(T:Tops P w K mg base):w6 P w K mg base 3 "_law_house" uZ lA:=w6.byD (N:=["_law_cell","_law_number","_law_many","_law_names_here","_law_people","_law_rooms","_law_k","_law_bits","_law_members","_law_called"]) T.b T.f_house (by walk_at"sc") Ax (by have:=GD T;have:=Dg T;walk_at"dv") Cn
def lB:A2:=λds M R=>∃(ps:List (b9×Int)) (r:List D),ds=[.tup<|.tup (ps.map iE)::r]/\Rw ps/\R (.ref M.length) (M++[.lst<|bg ps])
theorem Ay:da lB va:=by rintro ds M R ⟨ps,r,rfl,_⟩;rfl
def sH:u3:=bp<|ab 1
def sI:u3:=ay (kJ (bB<|t7 v5 (ab 0)<|dC<|.int 0) (gu 2<|aG (af 2)<|aG (af 3) gv)<|bc (t7 aN (ab 1)<|F6 1 [2] (bZ<|aa (ab 3) ag) (af 0) oh<|fS<|aa (ab 1)<|aa (ab 0) ag) 1)<|sH
def zm:u3:=ay (bc (iA ag) 1)<|sI
theorem Co:C1 lB 4 zm:=by
 rintro ds M R ⟨ps,r,rfl,⟨m,d⟩,h⟩;simp only[zm,sI];walk_at"dl";refine⟨B5 _,λ_=>?_⟩;have l:∀qs:List (b9×Int),(∀p∈qs,p∈ps)->qs.length<=4->(bg qs).length<=12:=λqs h1 h2=>by have:=pp (ps:=qs) λp hp=>d p<|h1 p hp;lia
 refine gX (λys S M'=>∃qs s a b q L,ps=qs++s/\ys=s.map iE/\M'=M++L/\M.length<=q/\M'[q]?=a7 (.lst<|bg qs)/\S=[a7<|.tup<|.tup (ps.map iE)::r,a7<|.ref q,a,b]) ?_ ?_ _ _ _ ⟨[],ps,_,_,_,[.lst []],rfl,rfl,rfl,v6 _,ad,rfl⟩;rintro S M' ⟨qs,s,a,b,q,L,e,c,rfl,f,g,rfl⟩;have:s=[]:=by cases s<;>simp_all
 subst this;rw[MJ]at e;subst e;refine⟨trivial,?_⟩;simp only[sH];walk_at"dl";exact aY.lst h f g yw;rintro x xs S M' ⟨qs,s,a,b,q,L,e,c,rfl,f,g,rfl⟩ G i;cases s with
 |nil=>cases c
 |cons p s =>
  rw[C2]at c;injection c with e1 e2;subst e1;have hp:=d p (by rw[e];simp);refine⟨trivial,?_⟩;unfold iE;walk_at"dl";refine⟨trivial,⟨by lia,by lia⟩,?_⟩;refine bu (λk=>.tup [.str p.1,k]) (λS=>∃a,S=[a,a7<|.str p.1]) trivial _ _ _ (λk n S j=>?_) ⟨_,rfl⟩ ?_ ?_;obtain⟨a,rfl⟩:=j;refine⟨[a7 k,a7<|.str p.1],⟨_,rfl⟩,λY D=>?_⟩;walk_at"dl";exact⟨aq (by lia),D⟩;simp only[D6,bh];exact aq (by lia);have y:ps.length=qs.length+(s.length+1):=by rw[e];simp
  have o:=l qs (λq c=>by rw[e];simp[c]) (by lia);have t:(cR p).length<=3:=by rw[iQ];lia
  rw[H9];refine⟨bg qs,cR p,ac g,ad,aq (by lia),?_⟩;refine B6.now<|i _ _ ⟨qs++[p],s,_,_,_,L++[.lst<|cR p]++[.lst<|bg qs++cR p],by rw[e];simp,e2,by simp[cR],?_,?_,rfl⟩;simp only[A3,F3];lia;have:bg (qs++[p])=bg qs++cR p:=by simp[bg]
  rw[this];exact ad
theorem Di(T:Tops P w K mg base):w6 P w K mg base 1 "_law_hands" va lB:=w6.byD (N:=["_law_house_here","_law_hands_here","_law_name","_law_many"]) T.b T.f_hands (by walk_at"sc") Ay (by walk_at"dv") Co
def gI:A2:=λds M R=>∃(c:Int) (q:Nat) (xs:List b9),ds=[.int c,.ref q]/\am M q (xs.map .str)/\1<=xs.length/\xs.length<=1000/\(∀x∈xs,x.length<=8)/\∀x:b9,R (.str x) M
theorem yk:da gI qf:=by rintro ds M R ⟨c,q,xs,rfl,_⟩;rfl
def oG:u3:=bp<|ab 4
def oH:u3:=bc (t7 aR (ab 0)<|dC<|.int 3) 0
def oJ:u3:=ay (kJ (bZ<|aa (t7 aN (dC<|.int 1)<|t7 cq (ab 0)<|dC<|.int 8) ag) (af 5)<|ay (bc (t7 aN (ab 4)<|t7 v5 (t7 aN (t7 aN (dC<|.str " !@")<|ab 2)<|dC<|.str "abzAZ09.~")<|t7 cq (t7 aR (ab 0)<|dC<|.int 8)<|t7 aN (dC<|.int 12)<|u7 kD<|aa (ab 2) ag) 4)<|oH)<|oG
def oK:u3:=ay (bc (t7 kN (dC<|.str "@")<|t7 cq (ab 3)<|dC<|.int 2) 4)<|oJ
def oM:u3:=ay (B9 (au<|t7 Nr (ab 3)<|dC<|.int 8) (bp<|t7 v5 (iA<|aa (dC<|.str "hi")<|aa (t7 aN (dC<|.str "@")<|ab 2)<|aa (t7 aN (t7 aN (dC<|.str "x @")<|ab 2)<|dC<|.str "!")<|aa (t7 aN (t7 aN (dC<|.str "@")<|ab 2)<|dC<|.str "b")<|aa (t7 aN (dC<|.str "no @ ")<|ab 2)<|aa (t7 aN (dC<|.str "Hi @A@")<|ab 2)<|aa (ab 2)<|aa (dC<|.str "?") ag)<|ab 3) aT)<|oK
def oN:u3:=ay (bc (t7 aR (ab 0)<|dC<|.int 48) 0)<|oM
def oO:u3:=ay (bc (t7 cq (t7 aR (ab 0)<|dC<|.int 4)<|dC<|.int 12) 3)<|oN
def wf:u3:=ay (bc (t7 v5 (ab 1)<|t7 cq (ab 0)<|u7 kD<|aa (ab 1) ag) 2)<|oO
theorem yM:C1 gI 6 wf:=by
 rintro ds M R ⟨c,q,xs,rfl,L,H,W,I,h⟩;simp only[wf];walk_at"dl";obtain⟨d,l,F⟩:=jG (xs:=xs.map D.str) (i:=c) (by rw[v7];exact H);obtain⟨z,m,rfl⟩:=z5.mp l;have z8:=I z m;refine⟨_,L,by rw[v7];lia,_,L,?_⟩;rw[F];simp only[oO,oN];walk_at"dl";have J:=bV (a:=c / 4) (b:=12) (by decide);have K:=cu (a:=c / 4) (b:=12) (by decide);refine⟨⟨by decide,by decide⟩,by decide,⟨by decide,by decide⟩,?_⟩;generalize c / 4 % 12=w at J K;generalize c / 48=r;simp only[oM];walk_at"dl";have o:(u4 "@").length=1:=by decide +kernel
 have s:(u4 "x @").length=3:=by decide +kernel
 have u:(u4 "!").length=1:=by decide +kernel
 have p:(u4 "b").length=1:=by decide +kernel
 have A:(u4 "no @ ").length=5:=by decide +kernel
 have v:(u4 "Hi @A@").length=6:=by decide +kernel
 by_cases f:w<8;rw[dT_ f];refine ck ⟨by rw[o];exact aq (by lia),by rw[s];exact aq (by lia),by rw[dD,s,u];exact aq (by lia),by rw[o];exact aq (by lia),by rw[dD,o,p];exact aq (by lia),by rw[A];exact aq (by lia),by rw[v];exact aq (by lia),aq (by lia),_,ah,?_⟩;have x:∃y:b9,atI [D.str<|u4 "hi",D.str<|u4 "@" ++ z,D.str<|u4 "x @" ++ z++u4 "!",D.str<|u4 "@" ++ z++u4 "b",D.str<|u4 "no @ " ++ z,D.str<|u4 "Hi @A@" ++ z,D.str z,D.str<|u4 "?"] w=a7 (.str y):=by
  have:w=0\/w=1\/w=2\/w=3\/w=4\/w=5\/w=6\/w=7:=by lia
  rcases this with rfl|rfl|rfl|rfl|rfl|rfl|rfl|rfl;exact⟨_,ar (j:=0) rfl⟩;exact⟨_,ar (j:=1) rfl⟩;exact⟨_,ar (j:=2) rfl⟩;exact⟨_,ar (j:=3) rfl⟩;exact⟨_,ar (j:=4) rfl⟩;exact⟨_,ar (j:=5) rfl⟩;exact⟨_,ar (j:=6) rfl⟩;exact⟨_,ar (j:=7) rfl⟩
 obtain⟨y,g⟩:=x;rw[g];exact aY.str (h _) bi;rw[dF_ f];refine bR ?_;simp only[oK];walk_at"dl";have Z:=bV (a:=w) (b:=2) (by decide);have T:=cu (a:=w) (b:=2) (by decide);have n:(Txt.mul (u4 "@")<|w % 2).length<=1:=by
  have:w % 2=0\/w % 2=1:=by lia
  rcases this with e|e<;>rw[e]<;>decide +kernel
 refine⟨by decide,⟨Z,by lia,by rw[o];exact aq<|by lia⟩,?_⟩;generalize Txt.mul (u4 "@") (w % 2)=V at n;simp only[oJ];walk_at"dl";have O:=bV (a:=r) (b:=8) (by decide);have P:=cu (a:=r) (b:=8) (by decide);refine⟨by decide,⟨by lia,by lia⟩,?_⟩;refine aV (λi S M'=>∃(y:b9) (r':Int) (b:Option D),y.length<=1+i/\M'=M/\S=[a7<|.int r',a7<|.ref q,a7<|.str z,a7<|.int w,a7<|.str y,b]) ?_ ?_ ⟨V,_,_,by lia,rfl,rfl⟩;rintro S M' ⟨y,r',b,_,rfl,rfl⟩;refine⟨trivial,?_⟩;simp only[oG];walk_at"dl";exact aY.now<|h _;rintro i X S M' Q ⟨y,r',b,Y,rfl,rfl⟩ G k;obtain⟨hi,rfl⟩:=cG.mp Q;refine⟨trivial,?_⟩;simp only[oH];walk_at"dl";have t:(u4 " !@").length=3:=by decide +kernel
 have E:(u4 "abzAZ09.~").length=9:=by decide +kernel
 have C:(u4 " !@" ++ z++u4 "abzAZ09.~").length=12+z.length:=by rw[dD,dD,t,E];lia
 refine⟨by rw[t];exact aq (by lia),by rw[dD,t,E];exact aq (by lia),⟨by decide,by decide⟩,aq (by lia),by lia,aq (by lia),?_⟩;have B:=fq (a:=u4 " !@" ++ z++u4 "abzAZ09.~");obtain⟨N,_,U⟩:=jG (xs:=(u4 " !@" ++ z++u4 "abzAZ09.~").cps.toList) (i:=r' / 8) (by lia);rw[<-B,C,show (((12+z.length:Nat)):Int)=12+(z.length:Int) by lia]at U;rw[U];exact⟨by rw[iK];exact aq (by lia),⟨by decide,by decide⟩,B6.now<|k _ _ ⟨_,_,_,by rw[dD,iK];lia,rfl,rfl⟩⟩
theorem Ad(T:Tops P w K mg base):w6 P w K mg base 1 "_law_saying" qf gI:=w6.byD (N:=["_law_number","_law_names_here","_law_name","_law_way","_law_saying_here","_law_k"]) T.b T.f_saying (by walk_at"sc") yk (by walk_at"dv") yM
def On(s:List D):Prop:=∀x∈s,∃(t:Int) (z:b9) (k:Int),x=.tup [.int t,.tup [.str z,.int k]]
def nI:A2:=λds M R=>∃(c:Int) (p q:Nat) (s hs:List D),ds=[.int c,.ref p,.ref q]/\am M p s/\On s/\s.length<=1000/\am M q hs/\(∀x∈hs,Hd x)/\1<=hs.length/\hs.length<=1000/\∀(t:Int) (z:b9) (k:Int),R (.tup [.int t,.tup [.str z,.int k]]) M
theorem Dx:da nI zY:=by rintro ds M R ⟨c,p,q,s,hs,rfl,_⟩;rfl
theorem sN:D4 n (.tup [.int t,.tup [.str z,.int k]]):=bG 2 _ rfl
def pQ:u3:=bp<|t7 v5 (ab 1)<|t7 ID (t7 ID (u7 kD<|aa (ab 1) ag)<|dC<|.int 1)<|t7 cq (t7 aR (ab 0)<|dC<|.int 8)<|u7 kD<|aa (ab 1) ag
def Fe:u3:=ay (B9 (NI (au<|t7 B7 (ab 1)<|iA ag)<|au<|t7 B7 (t7 cq (ab 0)<|dC<|.int 8)<|dC<|.int 7) (bp<|fS<|aa (t7 aN (dC<|.int 1)<|t7 cq (t7 aR (ab 0)<|dC<|.int 8)<|dC<|.int 50)<|aa (t7 v5 (ab 2)<|t7 cq (t7 aR (ab 0)<|dC<|.int 400)<|u7 kD<|aa (ab 2) ag) ag) aT)<|pQ
theorem CB(C:M <+: B)(a:am B q hs)(e:∀x∈hs,Hd x)(h1:1<=hs.length)(g:hs.length<=1000)(h:∀(t:Int) (z:b9) (k:Int),R (.tup [.int t,.tup [.str z,.int k]]) M):(fS<|aa (t7 aN (dC<|.int 1)<|t7 cq (t7 aR (ab 0)<|dC<|.int 8)<|dC<|.int 50)<|aa (t7 v5 (ab 2)<|t7 cq (t7 aR (ab 0)<|dC<|.int 400)<|u7 kD<|aa (ab 2) ag) ag) [a7<|.int c,y1,a7<|.ref q] B (aY M R):=by walk_at"dl";obtain⟨d,b,F⟩:=jG (xs:=hs) (i:=c / 400) h1;obtain⟨z,k,rfl⟩:=e d b;refine⟨⟨by decide,by decide⟩,by decide,⟨by decide,by decide⟩,_,a,by lia,_,a,?_⟩;rw[F];exact⟨aq (by lia),aY.keep (h _ _ _) sN C⟩
theorem FL:C1 nI 3 Fe:=by
 rintro ds M R ⟨c,p,q,s,hs,rfl,hp,f,C,v,r,h1,u,h⟩;have e:Fe=ay (B9 (NI (au<|t7 B7 (ab 1)<|iA ag)<|au<|t7 B7 (t7 cq (ab 0)<|dC<|.int 8)<|dC<|.int 7) (bp<|fS<|aa (t7 aN (dC<|.int 1)<|t7 cq (t7 aR (ab 0)<|dC<|.int 8)<|dC<|.int 50)<|aa (t7 v5 (ab 2)<|t7 cq (t7 aR (ab 0)<|dC<|.int 400)<|u7 kD<|aa (ab 2) ag) ag) aT) pQ:=rfl;have n:=CB (M:=M) (B:=M++[MO.lst []]) (R:=R) (c:=c) (q:=q) (hs:=hs) (y1:=a7<|.ref p) bi (v.more _) r h1 u h;rw[e];generalize (fS<|aa (t7 aN (dC<|.int 1)<|t7 cq (t7 aR (ab 0)<|dC<|.int 8)<|dC<|.int 50)<|aa (t7 v5 (ab 2)<|t7 cq (t7 aR (ab 0)<|dC<|.int 400)<|u7 kD<|aa (ab 2) ag) ag)=tn at n;walk_at"dl";obtain⟨o,l⟩:=ql hp λx y=>by obtain⟨t,z,k,rfl⟩:=f x y;rfl
 refine⟨B5 _,o,?_⟩;rw[l];cases w:s.isEmpty with
 |true=>exact ck n
 |false =>
  refine bR ⟨by decide,⟨aI,aI⟩,?_⟩;cases u6 (M++[MO.lst []]) u9 (.int<|c % 8) (.int 7) with
  |true=>exact ck n
  |false =>
   refine bR ?_;have A:1<=s.length:=by cases s<;>simp_all
   simp only[pQ];walk_at"dl";have d:=hp.more [MO.lst []];have E:=bV (a:=c / 8) (b:=s.length) (by lia);have U:=cu (a:=c / 8) (b:=s.length) (by lia);refine⟨_,d,⟨by decide,by decide⟩,_,d,by lia,_,d,?_⟩;obtain⟨j,L,g,_⟩:=BU (xs:=s) (i:=(s.length:Int)-1-c / 8 % (s.length:Int)) (by lia) (by lia);rw[g];obtain⟨t,z,k,m⟩:=f _<|MV L;dsimp only;rw[m];exact aY.keep (h _ _ _) sN bi
theorem Ac(T:Tops P w K mg base):w6 P w K mg base 1 "_law_told" zY nI:=w6.byD (N:=["_law_number","_law_says","_law_hands_here"]) T.b T.f_told (by walk_at"sc") Dx (by walk_at"dv") FL
def gH:A2:=λds M R=>∃(c:Int) (q n:Nat) (hs:List D) (t:List (D×D)),ds=[.int c,.ref q,.ref n]/\am M q hs/\(∀x∈hs,Hd x)/\hs.Nodup/\hs.length<=12/\M[n]?=a7 (.dkt t)/\(∀x∈hs,∃i:Int,aB t x=a7 (.int i))/\∀vs:List D,nN 3 vs->VecK vs->R (.tup vs) M
theorem yj:da gH qc:=by rintro ds M R ⟨c,q,n,hs,t,rfl,_⟩;rfl
theorem kY{k:Nat}{vs:List (D×Int)}(h:∀p∈vs,Hd p.1):nN (k+2) (vs.map λp=>D.tup [p.1,.int p.2]):=nN.of λd a=>by obtain⟨p,hp,rfl⟩:=z5.mp a;exact .tup<|.cons (Hy<|h p hp)<|.cons (.int _) .nil
def oq:u3:=bp<|u7 iw<|aa (ab 3) ag
def ou:u3:=bc (t7 aR (ab 0)<|dC<|.int 5) 0
def oz:u3:=ay (kJ (bB<|ab 1) (af 4)<|ay (B9 (au<|t7 B7 (t7 cq (ab 0)<|dC<|.int 2)<|dC<|.int 1) (iU<|MR cx (ab 3)<|aa (fS<|aa (ab 4)<|aa (t7 aN (dC<|.int 1)<|t7 cq (t7 aR (ab 0)<|dC<|.int 2)<|dC<|.int 6) ag) ag) aT)<|ou)<|oq
def oA:u3:=ay (bc (iA ag) 3)<|oz
def oB:u3:=ay (bc (t7 aR (ab 0)<|dC<|.int 2) 0)<|oA
def we:u3:=ay (B9 (au<|t7 B7 (t7 cq (ab 0)<|dC<|.int 2)<|dC<|.int 0) (bp<|u7 iw<|aa (F6 1 [2] (bB<|ab 1) (af 0) (au<|t7 Nj (eP (ab 1)<|ab 0)<|dC<|.int 0)<|fS<|aa (ab 0)<|aa (eP (ab 1)<|ab 0) ag) ag) aT)<|oB
theorem yL:C1 gH 5 we:=by
 rintro ds M R ⟨c,q,n,hs,t,rfl,b,g,d,u,j,o,h⟩;simp only[we];walk_at"dl";refine⟨by decide,⟨aI,aI⟩,?_⟩;cases u6 M u9 (.int<|c % 2) (.int 0) with
 |true=>refine ck ⟨_,b,λ_=>?_⟩;refine gY (λys acc S M'=>∃(vs:List (D×Int)) (a:Option D),acc=vs.map (λp=>.tup [p.1,.int p.2])/\(∀p∈vs,Hd p.1)/\vs.length+ys.length<=hs.length/\(∀y∈ys,y∈hs)/\(vs.map (·.1)++ys).Sublist hs/\M'=M/\S=[a,a7<|.ref n]) ?_ ?_ _ _ _ _ ⟨[],_,rfl,(λ_ z=>nomatch z),by simp,λ_ z=>z,P0 _,rfl,rfl⟩;rintro acc S M' ⟨vs,a,rfl,v,l,_,U,rfl,rfl⟩;exact⟨b,_,ah,aY.keep (h _ (kY v) ⟨vs,rfl,v,by simp at l;lia,by rw[MJ]at U;exact U.nodup d⟩) (bG 4 _<|.tup<|kY v) bi⟩;rintro y ys acc S M' ⟨vs,a,rfl,v,l,Q,U,rfl,rfl⟩ K B;refine⟨b,?_⟩;obtain⟨i,hi⟩:=o y (Q y<|by simp);obtain⟨z,k,rfl⟩:=g y (Q y<|by simp);rw[C0]at l;walk_at"dl";refine⟨t,_,j,rfl,hi,?_⟩;walk_at"dl";split;refine⟨t,_,j,rfl,hi,aq (by lia),by rw[v7];exact av (by lia),B _ _ _ ⟨vs++[(.tup [.str z,.int k],i)],_,by simp,λp hp=>?_,by rw[A3,F3];lia,λX h'=>Q X<|C4 _ h',by rw[G1,G3];exact U,rfl,rfl⟩⟩;rcases F0.mp hp with hp|hp;exact v p hp;rw[I9.mp hp];exact⟨_,_,rfl⟩;exact B _ _ _ ⟨vs,_,rfl,v,by lia,λX h'=>Q X<|C4 _ h',((P0 _).append<|List.sublist_cons_self _ _).trans U,rfl,rfl⟩
 |false =>
  refine bR ?_;simp only[oB,oA,oz];walk_at"dl";refine⟨⟨by decide,by decide⟩,B5 _,_,b.more _,λ_=>?_⟩;refine aV (λi S M'=>∃(vs:List (D×Int)) (r:Int) (a:Option D),vs.length<=i/\(∀p∈vs,Hd p.1)/\(vs.map (·.1)).Sublist (hs.take i)/\M'=M++MO.lst (vs.map λp=>.tup [p.1,.int p.2])::[]/\S=[a7<|.int r,a7<|.ref q,a7<|.ref n,a7<|.ref M.length,a]) ?_ ?_ ⟨[],_,_,v6 _,(λ_ z=>nomatch z),P0 _,rfl,rfl⟩;rintro S M' ⟨vs,r,a,l,v,U,rfl,rfl⟩;rw[Mu]at U;refine⟨b.more _,?_⟩;simp only[oq];walk_at"dl";exact⟨_,.inl bX,aY.keep (h _ (kY v) ⟨vs,rfl,v,by lia,U.nodup d⟩) (bG 4 _<|.tup<|kY v) Gm⟩;rintro i y S M' Q ⟨vs,r,a,l,v,U,rfl,rfl⟩ G e;have m:hs.take (i+1)=hs.take i++[y]:=by rw[Mz,Q];rfl
  rw[m]at e;have s:=(A6.mp Q).1;have f:=g y<|E9 Q;refine⟨b.more _,?_⟩;simp only[ou];walk_at"dl";refine⟨by decide,⟨aI,aI⟩,?_⟩;split;refine⟨⟨_,.inl bX⟩,⟨by decide,by decide⟩,by decide,aq (by lia),_,bX,by rw[v7];exact av (by lia),⟨by decide,by decide⟩,B6.now<|e _ _ ⟨vs++[(y,1+r / 2 % 6)],_,_,by rw[A3,F3];lia,λp hp=>?_,by rw[G1];exact U.append<|P0 _,by rw[mx];simp,rfl⟩⟩;rcases F0.mp hp with hp|hp;exact v p hp;rw[I9.mp hp];exact f;exact⟨⟨by decide,by decide⟩,B6.now<|e _ _ ⟨vs,_,_,by lia,v,U.trans<|List.sublist_append_left _ _,rfl,rfl⟩⟩
theorem Ab(T:Tops P w K mg base):w6 P w K mg base 1 "_law_vector" qc gH:=w6.byD (N:=["_law_number","_law_hands_here","_law_counts","_law_found","_law_hand"]) T.b T.f_vector (by walk_at"sc") yj (by walk_at"dv") yL
def qZ:A2:=λds M R=>∃(c:Int) (ps:List (b9×Int)) (a:List (b9×List b9)) (p q:Nat) (s hs:List D),ds=[.int c,aC ps a,.ref p,.ref q]/\HouseF ps a/\am M p s/\On s/\s.length<=1000/\am M q hs/\(∀x∈hs,Hd x)/\1<=hs.length/\hs.length<=1000/\∀w:D,Md w->R w M
theorem Dw:da qZ zX:=by rintro ds M R ⟨c,ps,a,p,q,s,hs,rfl,_⟩;rfl
def wc:u3:=bp<|fS<|aa (dC<|.str "under")<|aa (u7 nI<|aa (t7 aR (ab 0)<|dC<|.int 3)<|aa (ab 2)<|aa (ab 3) ag) ag
def wd:u3:=ay (B9 (au<|t7 B7 (t7 cq (ab 0)<|dC<|.int 3)<|dC<|.int 1) (bp<|fS<|aa (dC<|.str "person")<|aa (t7 v5 (t7 v5 (t7 v5 (ab 1)<|dC<|.int 0)<|t7 cq (t7 aR (ab 0)<|dC<|.int 3)<|u7 kD<|aa (t7 v5 (ab 1)<|dC<|.int 0) ag)<|dC<|.int 0) ag) aT)<|wc
def Fd:u3:=ay (B9 (au<|t7 B7 (t7 cq (ab 0)<|dC<|.int 3)<|dC<|.int 0) (bp<|fS<|aa (dC<|.str "room")<|aa (t7 v5 (t7 v5 (t7 v5 (ab 1)<|dC<|.int 1)<|t7 cq (t7 aR (ab 0)<|dC<|.int 3)<|u7 kD<|aa (t7 v5 (ab 1)<|dC<|.int 1) ag)<|dC<|.int 0) ag) aT)<|wd
theorem FK:C1 qZ 4 Fd:=by
 rintro ds M R ⟨c,ps,j,p,q,s,hs,rfl,f,hp,o,m,e,b,h1,g,h⟩;simp only[Fd,aC];walk_at"dl";refine⟨by decide,⟨aI,aI⟩,?_⟩;cases u6 M u9 (.int<|c % 3) (.int 0) with
 |true=>obtain⟨d,a,F⟩:=jG (xs:=j.map kM) (i:=c / 3) (by rw[v7];exact f.rl.1);obtain⟨r,_,rfl⟩:=z5.mp a;refine ck ⟨⟨by decide,by decide⟩,by rw[v7];have:=f.rl.1;lia,?_⟩;rw[F];unfold kM;walk_at"dl";exact⟨aq (by lia),aY.now<|h _<|.inl ⟨_,rfl⟩⟩
 |false =>
  refine bR ?_;simp only[wd];walk_at"dl";refine⟨by decide,⟨aI,aI⟩,?_⟩;cases u6 M u9 (.int<|c % 3) (.int 1) with
  |true=>obtain⟨d,a,F⟩:=jG (xs:=ps.map iE) (i:=c / 3) (by rw[v7];exact f.len.1);obtain⟨r,_,rfl⟩:=z5.mp a;refine ck ⟨⟨by decide,by decide⟩,by rw[v7];have:=f.len.1;lia,?_⟩;rw[F];unfold iE;walk_at"dl";exact⟨aq (by lia),aY.now<|h _<|.inr<|.inl ⟨_,rfl⟩⟩
  |false=>refine bR ?_;simp only[wc];walk_at"dl";exact⟨⟨by decide,by decide⟩,_,p,q,s,hs,rfl,hp,o,m,e,b,h1,g,λt z k=>⟨aq (by lia),aY.now<|h _<|.inr<|.inr ⟨_,_,_,rfl⟩⟩⟩
theorem GB(T:Tops P w K mg base):w6 P w K mg base 2 "_law_what" zX qZ:=w6.byD (N:=["_law_number","_law_house_here","_law_says","_law_hands_here"]) T.b T.f_what (by walk_at"sc") Dw (by have:=Ac T;walk_at"dv") FK
def xt:A2:=λds M R=>∃(c:Int) (ps:List (b9×Int)) (a:List (b9×List b9)) (p q n:Nat) (s hs:List D) (t:List (D×D)),ds=[.int c,aC ps a,.ref p,.ref q,.ref n]/\HouseF ps a/\am M p s/\On s/\s.length<=1000/\am M q hs/\(∀x∈hs,Hd x)/\1<=hs.length/\hs.length<=12/\hs.Nodup/\M[n]?=a7 (.dkt t)/\(∀x∈hs,∃i:Int,aB t x=a7 (.int i)) /\∀(x:b9) (ds:List D),nN 4 ds->ActK a x ds->R (.tup<|.str x::ds) M
theorem GQ:da xt Gz:=by rintro ds M R ⟨c,ps,a,p,q,n,s,hs,t,rfl,_⟩;rfl
theorem CG:G7 (n+2) (.tup [.int t,.tup [.str z,.int k]]):=.tup<|.cons (.int _)<|.cons (.tup<|.cons (.str _)<|.cons (.int _) .nil) .nil
def wA:u3:=bp<|t7 v5 (iA<|aa (fS<|aa (dC<|.str "rung")<|aa (ab 8) ag)<|aa (fS<|aa (dC<|.str "read")<|aa (ab 7)<|aa (u7 gH<|aa (t7 aR (ab 0)<|dC<|.int 4)<|aa (ab 3)<|aa (ab 4) ag) ag) ag)<|t7 cq (t7 aR (ab 0)<|dC<|.int 3)<|dC<|.int 2
def wB:u3:=ay (B9 (au<|t7 B7 (ab 5)<|dC<|.int 14) (bp<|fS<|aa (dC<|.str "hush")<|aa (u7 qZ<|aa (t7 aR (ab 0)<|dC<|.int 3)<|aa (ab 1)<|aa (ab 2)<|aa (ab 3) ag)<|aa (t7 Nj (t7 cq (ab 0)<|dC<|.int 3)<|dC<|.int 0) ag) aT)<|wA
def wC:u3:=ay (B9 (au<|t7 B7 (ab 5)<|dC<|.int 13) (bp<|fS<|aa (dC<|.str "seen")<|aa (ab 8) ag) aT)<|wB
def wD:u3:=ay (B9 (au<|t7 B7 (ab 5)<|dC<|.int 12) (bp<|fS<|aa (dC<|.str "read")<|aa (ab 7)<|aa (u7 gH<|aa (t7 aR (ab 0)<|dC<|.int 4)<|aa (ab 3)<|aa (ab 4) ag) ag) aT)<|wC
def wE:u3:=bp<|fS<|aa (dC<|.str "like")<|aa (ab 8)<|aa (t7 v5 (ab 10)<|t7 cq (t7 aR (ab 0)<|dC<|.int 2000)<|u7 kD<|aa (ab 10) ag)<|aa (t7 Nj (t7 cq (ab 0)<|dC<|.int 4)<|dC<|.int 0) ag
def zn:u3:=ay (B9 (au<|t7 Nr (ab 5)<|dC<|.int 12) (ay (bc (t7 aN (ab 6)<|iA<|aa (dC<|.str "good") ag) 10)<|wE) aT)<|wD
def zo:u3:=ay (B9 (au<|t7 B7 (ab 5)<|dC<|.int 8) (bp<|fS<|aa (dC<|.str "back")<|aa (ab 8) ag) aT)<|zn
def zp:u3:=ay (B9 (au<|t7 Nr (ab 5)<|dC<|.int 8) (bp<|fS<|aa (dC<|.str "change")<|aa (ab 8)<|aa (u7 gI<|aa (t7 aR (ab 0)<|dC<|.int 12)<|aa (ab 6) ag) ag) aT)<|zo
def zq:u3:=bp<|fS<|aa (dC<|.str "say")<|aa (ab 7)<|aa (ab 9)<|aa (u7 gI<|aa (t7 aR (ab 0)<|dC<|.int 12)<|aa (ab 6) ag) ag
def uQ:u3:=ay (B9 (au<|t7 Nr (ab 5)<|dC<|.int 6) (ay (bc (t7 v5 (iA<|aa (dC .non)<|aa (ab 8)<|aa (ab 8) ag)<|t7 cq (t7 aR (ab 0)<|dC<|.int 4)<|dC<|.int 3) 9)<|zq) aT)<|zp
def zt:u3:=ay (bc (u7 nI<|aa (t7 aR (ab 0)<|dC<|.int 4)<|aa (ab 2)<|aa (ab 3) ag) 8)<|uQ
def zu:u3:=ay (bc (t7 v5 (t7 v5 (t7 v5 (ab 1)<|dC<|.int 1)<|t7 cq (ab 0)<|u7 kD<|aa (t7 v5 (ab 1)<|dC<|.int 1) ag)<|dC<|.int 0) 7)<|zt
def zv:u3:=ay (fQ 2 [] (bB<|t7 v5 (ab 1)<|dC<|.int 0) (gu 2<|aG (af 0)<|aG (af 1) gv) oh (ab 0) 6)<|zu
def zw:u3:=ay (bc (t7 aR (ab 0)<|dC<|.int 16) 0)<|zv
def IT:u3:=ay (bc (t7 cq (ab 0)<|dC<|.int 16) 5)<|zw
theorem gG(C:M <+: B)(h:∀(x:b9) (ds:List D),nN 4 ds->ActK rs x ds->R (.tup<|.str x::ds) M)(p:nN 4 ds)(a:ActK rs x ds):aY M R (.tup<|.str x::ds) B:=aY.keep (h x ds p a) (bG 5 _<|.tup<|.cons (.str _) p) C
theorem act_5{M B:u8}{R:DK}{c e:Int}{ps:List (b9×Int)}{rs:List (b9×List b9)}{p q n E:Nat}{s hs:List D}{f:List (D×D)}{m:b9}{t:Int}{z:b9}{k:Int}{ns:List b9}(C:M <+: B)(hf:HouseF ps rs)(hp:am B p s)(so:On s)(sl:s.length<=1000)(H:am B q hs)(G:∀x∈hs,Hd x)(h1:1<=hs.length)(N:hs.length<=12)(l:hs.Nodup)(O:B[n]?=a7 (.dkt f))(L:∀x∈hs,∃i:Int,aB f x=a7 (.int i))(F:B[E]?=a7 (.lst<|ns.map .str))(T:1<=ns.length)(n4:ns.length<=4)(U:∀x∈ns,x.length<=8)(I:m∈rs.map (·.1))(h:∀(x:b9) (ds:List D),nN 4 ds->ActK rs x ds->R (.tup<|.str x::ds) M):uQ (EE M R) [a7<|.int c,a7<|aC ps rs,a7<|.ref p,a7<|.ref q,a7<|.ref n,a7<|.int e,a7<|.ref E,a7<|.str m,a7<|.tup [.int t,.tup [.str z,.int k]],a8,a8] B:=by
 have sp:∀{j:Nat},G7 (j+2) (.tup [.int t,.tup [.str z,.int k]]):=CG;have S:St (.tup [.int t,.tup [.str z,.int k]]):=⟨_,_,_,rfl⟩
 generalize hS:D.tup [.int t,.tup [.str z,.int k]]=V at sp S;simp only[uQ];walk_at"dl";by_cases Q:e<6;rw[dT_ Q];refine ck ?_;have Z:=bV (a:=c / 4) (b:=3) (by decide);have K:=cu (a:=c / 4) (b:=3) (by decide);refine⟨aq (by lia),⟨by decide,by decide⟩,by decide,_,ah,?_⟩;obtain⟨u,X,pu,hu⟩:∃u,atI [D.non,V,V] (c / 4 % 3)=a7 u/\G7 4 u/\(u=.non\/St u):=by
  generalize c / 4 % 3=v at Z K;have:v=0\/v=1\/v=2:=by lia
  rcases this with rfl|rfl|rfl;exact⟨_,ar (j:=0) rfl,.non,.inl rfl⟩;exact⟨_,ar (j:=1) rfl,sp,.inr S⟩;exact⟨_,ar (j:=2) rfl,sp,.inr S⟩
 rw[X];simp only[zq];walk_at"dl";exact⟨⟨by decide,by decide⟩,_,E,ns,rfl,.inl<|ac F,T,by lia,U,λx=>⟨aq (by lia),gG (C.trans bi) h (.cons (.str _)<|.cons pu<|.cons (.str _) .nil)<|.mkSay I hu⟩⟩;rw[dF_ Q];refine bR ?_;simp only[zp];walk_at"dl";by_cases Y:e<8;rw[dT_ Y];exact ck ⟨⟨by decide,by decide⟩,_,E,ns,rfl,.inl F,T,by lia,U,λx=>⟨aq (by lia),gG C h (.cons sp<|.cons (.str _) .nil)<|.mkChange S⟩⟩;rw[dF_ Y];refine bR ?_;simp only[zo];walk_at"dl";refine⟨⟨aI,aI⟩,?_⟩;split;exact⟨aq (by lia),gG C h (.cons sp .nil)<|.mkBack S⟩;simp only[zn];walk_at"dl";by_cases o:e<12;rw[dT_ o];have J:(ns.map D.str++[D.str<|u4 "good"]).length=ns.length+1:=by simp
 refine ck ⟨aq (by lia),_,_,ac F,ad,by rw[<-A3,J];exact aq (by lia),?_⟩;simp only[wE];walk_at"dl";obtain⟨d,g,W⟩:=jG (xs:=ns.map D.str++[D.str<|u4 "good"]) (i:=c / 2000) (by lia);obtain⟨y,rfl⟩:∃y:b9,d=.str y:=by rcases F0.mp g with g|g;obtain⟨y,_,rfl⟩:=z5.mp g;exact⟨y,rfl⟩;exact⟨_,I9.mp g⟩
 refine⟨⟨by decide,by decide⟩,_,ah,by lia,_,ah,?_⟩;rw[W];exact⟨by decide,aq (by lia),gG ((C.trans bi).trans bi) h (.cons sp<|.cons (.str _)<|.cons (.bl _) .nil)<|.mkLike S⟩;rw[dF_ o];refine bR ?_;simp only[wD];walk_at"dl";refine⟨⟨aI,aI⟩,?_⟩;have r:∀{vs:List D}{B':u8},M <+: B'->nN 3 vs->VecK vs->aY M R (.tup [.str<|u4 "read",.str m,.tup vs]) B':=λpb pv A=>gG pb h (.cons (.str _)<|.cons (.tup pv) .nil)<|.mkRead A;split;exact⟨⟨by decide,by decide⟩,_,q,n,hs,f,rfl,H,G,l,N,O,L,λvs pv A=>⟨aq (by lia),r C pv A⟩⟩;simp only[wC];walk_at"dl";refine⟨⟨aI,aI⟩,?_⟩;split;exact⟨aq (by lia),gG C h (.cons sp .nil)<|.mkSeen S⟩;simp only[wB];walk_at"dl";refine⟨⟨aI,aI⟩,?_⟩;split;exact⟨⟨by decide,by decide⟩,_,ps,rs,p,q,s,hs,rfl,hf,hp,so,sl,H,G,h1,by lia,λw P=>⟨by decide,aq (by lia),gG C h (.cons P.pl4<|.cons (.bl _) .nil)<|.mkHush P⟩⟩;simp only[wA];walk_at"dl";have Z:=bV (a:=c / 3) (b:=2) (by decide);have K:=cu (a:=c / 3) (b:=2) (by decide);refine⟨aq (by lia),⟨by decide,by decide⟩,_,q,n,hs,f,rfl,H,G,l,N,O,L,λvs pv A=>⟨aq (by lia),aq (by lia),⟨by decide,by decide⟩,by decide,_,ah,?_⟩⟩;generalize c / 3 % 2=v at Z K;have:v=0\/v=1:=by lia
 rcases this with rfl|rfl;rw[OL];exact gG (C.trans bi) h (.cons sp .nil)<|.mkRung S;rw[MZ];exact r (C.trans bi) pv A
theorem IL:C1 xt 11 IT:=by
 rintro ds M R ⟨c,ps,O,p,q,n,s,hs,E,rfl,f,hp,y,w,o,m,h1,K,g,L,J,h⟩;simp only[IT,zw];walk_at"dl";refine⟨by decide,⟨by decide,by decide⟩,?_⟩;generalize c % 16=v;generalize c / 16=A;simp only[zv,aC];walk_at"dl";intro _;refine bu (λd=>match d with|.tup (x::_)=>x|_=>.non) (λS=>∃a b,S=[a,b]) trivial _ _ _ (λd e S H=>?_) ⟨_,_,rfl⟩ ?_ ?_;obtain⟨a,b,rfl⟩:=H;obtain⟨r,u,rfl⟩:=z5.mp e;refine⟨[a7<|.str r.1,a7<|.int r.2],⟨_,_,rfl⟩,λY I=>?_⟩;unfold iE;walk_at"dl";exact⟨trivial,I⟩;rw[D6,v7];have:=f.len.2;exact aq (by lia);have G:(ps.map iE).map (λd=>match d with|.tup (x::_)=>x|_=>.non)=(ps.map (·.1)).map D.str:=by rw[D9,D9];rfl
 rw[H9,G];have l:(M++[MO.lst ((ps.map (·.1)).map D.str)])[M.length]?=a7 (.lst ((ps.map (·.1)).map D.str)):=ad;have C:M <+: M++[MO.lst ((ps.map (·.1)).map D.str)]:=bi;generalize M++[MO.lst ((ps.map (·.1)).map D.str)]=B at l C;generalize M.length=P at l;simp only[zu];walk_at"dl";obtain⟨d,e,F⟩:=jG (xs:=O.map kM) (i:=A) (by rw[v7];exact f.rl.1);obtain⟨r,u,rfl⟩:=z5.mp e;refine⟨by rw[v7];have:=f.rl.1;lia,?_⟩;rw[F];rw[show kM r=.tup [.str r.1,.tup<|r.2.map .str]from rfl];walk_at"dl";simp only[zt];walk_at"dl";refine⟨⟨by decide,by decide⟩,_,p,q,s,hs,rfl,bW C hp,y,w,bW C o,m,h1,by lia,λt z k=>?_⟩;exact act_5 (ns:=ps.map (·.1)) C f (bW C hp) y w (bW C o) m h1 K g (aH C L) J l (by rw[v7];exact f.len.1) (by rw[v7];exact f.len.2) (λx N=>by obtain⟨r',j,rfl⟩:=z5.mp N;exact f.nm r' j) (Mv u) h
theorem JQ(T:Tops P w K mg base):w6 P w K mg base 3 "_law_act" Gz xt:=w6.byD (N:=["_law_number","_law_house_here","_law_says","_law_hands_here","_law_counts","_law_kind","_law_names_here","_law_room","_law_message","_law_under","_law_sorts"]) T.b T.f_act (by walk_at"sc") GQ (by have:=Ad T;have:=Ac T;have:=Ab T;have:=GB T;walk_at"dv") IL
noncomputable def pO:D->Int
 |.tup (.int t::_)=>t
 |_=>0
theorem tP:∀{xs:List D},(∀x∈xs,f x x=a9)->rq f g xs xs=b7
 | [],_=>rfl
 |x::xs,h=>by show (if f x x=a9 then rq f g xs xs else g x x)=b7;rw[o8<|h x<|by simp];exact tP λy hy=>h y<|C4 _ hy
theorem um:∀{xs:List D},(∀x∈xs,f x x=a9)->yE f g xs xs=a9
 | [],_=>rfl
 |x::xs,h=>by show (if f x x=a9 then yE f g xs xs else g x x)=a9;rw[o8<|h x<|by simp];exact um λy hy=>h y<|C4 _ hy
structure GenH(ps:List (b9×Int))(rs:List (b9×List b9))(hs deeds:List D)(cnt las:List (D×D))(g:Int):Prop where
 deed:∀d∈deeds,aE ps rs d
 up:deeds.Pairwise λa b=>nw a=nw b->pO a<pO b
 last:∀h∈hs,∃t:Int,aB las h=a7 (.int t)/\(0<=t/\t<=g)/\∀d∈deeds,nw d=h->pO d<=t
 cnt:∀h∈hs,∃i:Int,aB cnt h=a7 (.int i)/\0<=i
 nn:∀d∈deeds,0<=uE d
 le:∀d∈deeds,pO d<=g
theorem Jm{α:Type}{r:α->α->Prop}:∀{l:List α}{a b:α},l.Pairwise r->a∈l->b∈l->a≠b->r a b\/r b a
 |x::l,a,b,h,ha,hb,ne=>by rw[List.pairwise_cons]at h;rcases A1.mp ha with e1|h1;rcases A1.mp hb with e2|h2;exact p7 (e1.trans e2.symm) ne;rw[e1];exact .inl<|h.1 b h2;rcases A1.mp hb with e2|h2;rw[e2];exact .inr<|h.1 a h1;exact Jm h.2 h1 h2 ne
theorem GenH.step{ps:List (b9×Int)}{rs:List (b9×List b9)}{hs s:List D}{f l:List (D×D)}{g:Int}(G:GenH ps rs hs s f l g){z:b9}{k t T num i:Int}{x:b9}{ds:List D}(j:D.tup [.str z,.int k]∈hs)(o:aB l (.tup [.str z,.int k])=a7 (.int t))(B:t<T)(y:0<=num)(X:0<=i)(A:nN 4 ds)(w:ActK rs x ds)(n:∀x∈hs,x∈bg ps):GenH ps rs hs (s++[.tup [.int T,.tup [.str z,.int k],.int num,.tup<|.str x::ds]]) (fV f (.tup [.str z,.int k])<|.int i) (fV l (.tup [.str z,.int k])<|.int T) (if T > g then T else g):=by
 have q:g<=(if T > g then T else g):=by split<;>lia
 have Tle:T<=(if T > g then T else g):=by split<;>lia
 refine⟨λd m=>?_,?_,λh m=>?_,λh m=>?_,λd m=>?_,λd m=>?_⟩;rcases F0.mp m with m|m;exact G.deed d m;rw[I9.mp m];exact⟨T,z,k,num,x,ds,rfl,by obtain⟨t',c,r,_⟩:=G.last _ j;rw[o]at c;injection c with c;injection c with c;lia,n _ j,A,w⟩;refine List.pairwise_append.mpr ⟨G.up,Q2 _ _,λa u b v=>?_⟩;rw[I9.mp v];intro e;obtain⟨t',c,_,le⟩:=G.last _ j;rw[o]at c;injection c with c;injection c with c;have:=le a u e;show pO a<T;lia;by_cases e:h=.tup [.str z,.int k];subst e;refine⟨T,gR,⟨by obtain⟨t',c,r,_⟩:=G.last _ j;rw[o]at c;injection c with c;injection c with c;lia,Tle⟩,λd m e=>?_⟩;rcases F0.mp m with m|m;obtain⟨t',c,_,le⟩:=G.last _ j;rw[o]at c;injection c with c;injection c with c;have:=le d m e;lia;rw[I9.mp m];exact Py _;obtain⟨t',c,h1,le⟩:=G.last h m;refine⟨t',by rw[eL e];exact c,⟨h1.1,by have:=h1.2;lia⟩,λd m p=>?_⟩;rcases F0.mp m with m|m;exact le d m p;rw[I9.mp m]at p;exact p7 p.symm e;by_cases e:h=.tup [.str z,.int k];subst e;exact⟨_,gR,X⟩;rw[eL e];exact G.cnt h m;rcases F0.mp m with m|m;exact G.nn d m;rw[I9.mp m];exact y;rcases F0.mp m with m|m;exact Int.le_trans (G.le d m) q;rw[I9.mp m];exact Tle
theorem ue(G:GenH ps rs hs deeds cnt las g)(l:deeds.length<64):SrtG M deeds/\∀a∈deeds,∀b∈deeds,C9 M u9 a b=decide (A0 u9 (v8 a)<A0 u9 (v8 b)):=by
 have p:∀d∈deeds,v9 M u9 d=a9/\u6 M u9 d d=a9:=λd u=>wN 6 u9 d (by decide) (G.deed d u).pl;have s:∀{a:D}{xs:List D},a=.tup xs->G7 6 a->∀x∈xs,u6 M 29 x x=a9:=λ{a xs} e h x hx=>by subst e;exact(wN 5 29 x (by decide)<|E8.mp h x hx).2
 have i:∀{t z k n x ds t' c I m R ds'},D.tup [.int t,.tup [.str z,.int k],.int n,.tup<|.str x::ds]∈deeds->D.tup [.int t',.tup [.str c,.int I],.int m,.tup<|.str R::ds']∈deeds->D.tup [.int t,.tup [.str z,.int k],.int n,.tup<|.str x::ds]≠D.tup [.int t',.tup [.str c,.int I],.int m,.tup<|.str R::ds']->t=t'->u6 M 29 (.tup [.str z,.int k]) (.tup [.str c,.int I])=b7:=by intro t z k n x ds t' c I m R ds' f j F o;refine NF.mpr λe=>?_;have T:=(Hz (M:=M) (n:=28) (a:=.tup [.str z,.int k]) (b:=.tup [.str c,.int I]) ⟨_,_,rfl⟩ ⟨_,_,rfl⟩).mp e;rcases Jm G.up f j F with q|q;have:=q T;simp only[pO]at this;lia;have:=q T.symm;simp only[pO]at this;lia
 have lt:∀a∈deeds,∀b∈deeds,C9 M u9 a b=decide (A0 u9 (v8 a)<A0 u9 (v8 b)):=λa f b j=>by
  have v:∀{t t':Int}{z c:b9}{k I:Int},C9 M u9 (.tup [.int t,.tup [.str z,.int k]]) (.tup [.int t',.tup [.str c,.int I]])=decide (A0 u9 (.tup [.int t,.tup [.str z,.int k]])<A0 u9 (.tup [.int t',.tup [.str c,.int I]])):=λ{t t' z c k I}=>by
   refine qp rfl rfl ?_;show (if u6 M 29 (.int t) (.int t')=a9 then(if u6 M 29 (.tup [.str z,.int k]) (.tup [.str c,.int I])=a9 then a9 else(if u6 M 28 (.str z) (.str c)=a9 then(if u6 M 28 (.int k) (.int I)=a9 then a9 else a9)else a9))else a9)=a9
   repeat' split
   all_goals rfl
  by_cases e:a=b;subst e;obtain⟨t,z,k,n,x,ds,e,_⟩:=G.deed a f;have:=s e (G.deed a f).pl;rw[dF_<|Nc _,e];exact tP this;obtain⟨t,z,k,n,x,ds,rfl,_⟩:=G.deed a f;obtain⟨t',c,I,m,R,ds',rfl,_⟩:=G.deed b j;have r:=i f j e;refine Eq.trans ?_ v;show (if u6 M 29 (.int t) (.int t')=a9 then(if u6 M 29 (.tup [.str z,.int k]) (.tup [.str c,.int I])=a9 then rq (u6 M 29) (C9 M 29) [.int n,.tup<|.str x::ds] [.int m,.tup<|.str R::ds']else C9 M 29 (.tup [.str z,.int k]) (.tup [.str c,.int I]))else C9 M 29 (.int t) (.int t'))=(if u6 M 29 (.int t) (.int t')=a9 then(if u6 M 29 (.tup [.str z,.int k]) (.tup [.str c,.int I])=a9 then b7 else C9 M 29 (.tup [.str z,.int k]) (.tup [.str c,.int I]))else C9 M 29 (.int t) (.int t'))
  rw[iR];by_cases o:t=t';rw[r o];rfl;rw[beq_eq_false_iff_ne.mpr o];rfl
 refine⟨⟨l,λd u=>(p d u).1,λa f b j=>?_,.inr<|.inr<|.inr<|.inl λa f=>?_,λd=>A0 u9<|v8 d,lt⟩,lt⟩
 ·by_cases e:a=b
  subst e;obtain⟨t,z,k,n,x,ds,e,_⟩:=G.deed a f;have:=s e (G.deed a f).pl;rw[e];exact um this
  ·obtain⟨t,z,k,n,x,ds,rfl,_⟩:=G.deed a f
   obtain⟨t',c,I,m,R,ds',rfl,_⟩:=G.deed b j;have r:=i f j e;show (if u6 M 29 (.int t) (.int t')=a9 then(if u6 M 29 (.tup [.str z,.int k]) (.tup [.str c,.int I])=a9 then yE (u6 M 29) (kb M 29) [.int n,.tup<|.str x::ds] [.int m,.tup<|.str R::ds']else(if u6 M 28 (.str z) (.str c)=a9 then(if u6 M 28 (.int k) (.int I)=a9 then a9 else a9)else a9))else a9)=a9;rw[iR];by_cases o:t=t'
   ·rw[r o]
    repeat' split
    all_goals first|rfl|contradiction
   rw[beq_eq_false_iff_ne.mpr o];rfl
 obtain⟨t,z,k,n,x,ds,rfl,_⟩:=G.deed a f;exact⟨_,_,rfl⟩
theorem Bz(G:GenH ps rs hs deeds cnt las g)(l:deeds.length<64)(hp:ys.Perm deeds)(i:Fb M ys):N0 ys:=by
 have X:ys.Pairwise λa b=>v8 a≠v8 b:=by refine(hp.pairwise_iff λ{a b} h=>z9 h).mpr<|(QY.mp G.up).imp λ{a b} ⟨ha,hb,q⟩ e=>?_;obtain⟨t,z,k,n,x,ds,rfl,_⟩:=G.deed a ha;obtain⟨t',d,I,f,R,ds',rfl,_⟩:=G.deed b hb;simp only[v8,D.tup.injEq,O1,D.int.injEq,D.str.injEq,and_true]at e;obtain⟨rfl,rfl,rfl⟩:=e;have:=q rfl;simp only[pO]at this;lia
 refine(QY.mp<|i.and X).imp λ{a b} ⟨ha,hb,q,ne⟩=>?_;rw[(ue G l).2 b (hp.mem_iff.mp hb) a<|hp.mem_iff.mp ha]at q;refine NW λh=>ne ?_;have s:=(G.deed a<|hp.mem_iff.mp ha).st;have y:=(G.deed b<|hp.mem_iff.mp hb).st;have o:C8 u9 (v8 a)=a9:=by obtain⟨t,z,k,e⟩:=s;rw[e];rfl
 have c:C8 u9 (v8 b)=a9:=by obtain⟨t,z,k,e⟩:=y;rw[e];rfl
 exact Br (M:=[]) o c (s.cm y)<|List.le_antisymm (List.not_lt.mp<|of_decide_eq_false q)<|List.not_lt.mp h
def xr:A2:=λds M R=>∃(ps:List (b9×Int)) (a:List (b9×List b9)) (p q:Nat) (ns:List Int) (hs:List D),ds=[aC ps a,.ref p,.ref q]/\HouseF ps a/\am M p (ns.map .int)/\ns.length<=40/\am M q hs/\(∀x∈hs,x∈bg ps)/\1<=hs.length/\hs.length<=12/\hs.Nodup/\∀log:List D,(∀d∈log,aE ps a d)->(∀d∈log,pO d<=200)->(∀d∈log,0<=uE d)->log.length<=40->N0 log->R (.tup log) M
theorem GO:da xr Gx:=by rintro ds M R ⟨ps,a,p,q,ns,hs,rfl,_⟩;rfl
structure K3(M B:u8)(deeds sts:List D)(cnt las:List (D×D)):Prop where
 pre:M <+: B
 deeds:B[M.length]?=a7 (.lst deeds)
 sts:B[M.length+1]?=a7 (.lst sts)
 cnt:B[M.length+2]?=a7 (.dkt cnt)
 las:B[M.length+3]?=a7 (.dkt las)
section
variable{M B:u8}{deeds sts:List D}{cnt las:List (D×D)}
theorem K3.more{L:u8}(g:K3 M B deeds sts cnt las):K3 M (B++L) deeds sts cnt las:=⟨g.pre.trans<|Mm _ _,aH (Mm _ _) g.deeds,aH (Mm _ _) g.sts,aH (Mm _ _) g.cnt,aH (Mm _ _) g.las⟩
theorem K3.setDeeds(g:K3 M B deeds sts cnt las):K3 M (B.set M.length<|.lst deeds') deeds' sts cnt las:=⟨bx g.pre<|v6 _,bH g.deeds,aO (by lia) g.sts,aO (by lia) g.cnt,aO (by lia) g.las⟩
theorem K3.setSts(g:K3 M B deeds sts cnt las):K3 M (B.set (M.length+1)<|.lst sts') deeds sts' cnt las:=⟨bx g.pre (by lia),aO (by lia) g.deeds,bH g.sts,aO (by lia) g.cnt,aO (by lia) g.las⟩
theorem K3.setCnt(g:K3 M B deeds sts cnt las):K3 M (B.set (M.length+2)<|.dkt cnt') deeds sts cnt' las:=⟨bx g.pre (by lia),aO (by lia) g.deeds,aO (by lia) g.sts,bH g.cnt,aO (by lia) g.las⟩
theorem K3.setLas(g:K3 M B deeds sts cnt las):K3 M (B.set (M.length+3)<|.dkt las') deeds sts cnt las':=⟨bx g.pre (by lia),aO (by lia) g.deeds,aO (by lia) g.sts,aO (by lia) g.cnt,bH g.las⟩
end
def wj:u3:=bp<|u7 iw<|aa (u7 jM<|aa (ab 3) ag) ag
def wm:u3:=B9 (au<|t7 B7 (t7 v5 (ab 11)<|dC<|.int 0)<|dC<|.str "say") (iU<|MR cx (ab 4)<|aa (fS<|aa (ab 10)<|aa (ab 7) ag) ag) aT
def wn:u3:=ay (bc (u7 zM<|aa (ab 8)<|aa (ab 10) ag) 8)<|wm
def wq:u3:=ay (nD (ab 6) (ab 7)<|ab 10)<|wn
def wt:u3:=ay (nD (ab 5) (ab 7)<|t7 aN (eP (ab 5)<|ab 7)<|dC<|.int 1)<|wq
def wu:u3:=ay (iU<|MR cx (ab 3)<|aa (fS<|aa (ab 10)<|aa (ab 7)<|aa (eP (ab 5)<|ab 7)<|aa (ab 11) ag) ag)<|wt
def wv:u3:=ay (bc (u7 xt<|aa (t7 aR (ab 9)<|dC<|.int 20)<|aa (ab 0)<|aa (ab 4)<|aa (ab 2)<|aa (ab 5) ag) 11)<|wu
def yU:u3:=ay (bc (t7 aN (t7 v5 (iA<|aa (ab 8)<|aa (eP (ab 6)<|ab 7)<|aa (t7 aN (eP (ab 6)<|ab 7)<|t7 cq (t7 aR (ab 9)<|dC<|.int 4)<|dC<|.int 5)<|aa (ab 8) ag)<|t7 cq (ab 9)<|dC<|.int 4)<|dC<|.int 1) 10)<|wv
def uO:u3:=ay (bc (t7 aR (ab 9)<|dC<|.int 12) 9)<|yU
def yV:u3:=ay (kJ (bB<|ab 1) (af 9)<|ay (bc (t7 v5 (ab 2)<|t7 cq (ab 9)<|u7 kD<|aa (ab 2) ag) 7)<|uO)<|wj
def yW:u3:=ay (bc (dC<|.int 0) 8)<|yV
def yX:u3:=nD (ab 6) (ab 7)<|dC<|.int 0
def yY:u3:=ay (kJ (bB<|ab 2) (af 7)<|ay (nD (ab 5) (ab 7)<|dC<|.int 0)<|yX)<|yW
def yZ:u3:=ay (bc (ui) 6)<|yY
def za:u3:=ay (bc (ui) 5)<|yZ
def zb:u3:=ay (bc (iA ag) 4)<|za
def IR:u3:=ay (bc (iA ag) 3)<|zb
theorem Dv{M B:u8}{E:DEnds}{s f hs:List D}{e l:List (D×D)}{C num:Int}{ps:List (b9×Int)}{rs:List (b9×List b9)}{p q:Nat}{y7 O P:Option D}{n:Nat}(g:K3 M B s f e l)(G:GenH ps rs hs s e l C)(hf:HouseF ps rs)(V:am M q hs)(h:∀x∈hs,x∈bg ps)(h1:1<=hs.length)(hl:hs.length<=12)(I:hs.Nodup)(N:On f)(sl:f.length<=n)(dl:s.length<=n)(cl:e.length<=12+n)(ll:l.length<=12+n)(ai:n<40)(gn:C<=5*(n:Int))(S:∀deeds' sts' cnt' las' gr' B' a b c d,K3 M B' deeds' sts' cnt' las'->GenH ps rs hs deeds' cnt' las' gr'->gr'<=5*((n:Int)+1)->On sts'->sts'.length<=n+1->deeds'.length<=n+1->cnt'.length<=12+(n+1)->las'.length<=12+(n+1)->E.nx [a7<|aC ps rs,a7<|.ref p,a7<|.ref q,a7<|.ref M.length,a7<|.ref<|M.length+1,a7<|.ref<|M.length+2,a7<|.ref<|M.length+3,a,a7<|.int gr',b,c,d] B'):(ay (bc (t7 v5 (ab 2)<|t7 cq (ab 9)<|u7 kD<|aa (ab 2) ag) 7)<|uO) E [a7<|aC ps rs,a7<|.ref p,a7<|.ref q,a7<|.ref M.length,a7<|.ref<|M.length+1,a7<|.ref<|M.length+2,a7<|.ref<|M.length+3,y7,a7<|.int C,a7<|.int num,O,P] B:=by
 have r:=bW g.pre V;have U:∀x∈hs,Hd x:=λx K=>qE x<|h x K;obtain⟨d,F,ed⟩:=jG (xs:=hs) (i:=num) h1;obtain⟨z,k,rfl⟩:=U d F;obtain⟨t,J,⟨_,X⟩,_⟩:=G.last _ F;walk_at"dl";refine⟨_,r,by lia,_,r,?_⟩;rw[ed];simp only[uO,yU];walk_at"dl";refine⟨⟨by decide,by decide⟩,l,_,g.las,rfl,J,l,_,g.las,rfl,J,⟨by decide,by decide⟩,by decide,aq (by lia),by decide,_,ah,?_⟩;generalize num / 12=c;have v0:=bV (a:=c) (b:=4) (by decide);have v1:=cu (a:=c) (b:=4) (by decide);have w0:=bV (a:=c / 4) (b:=5) (by decide);have w1:=cu (a:=c / 4) (b:=5) (by decide);obtain⟨u,eu,tu,ug⟩:∃u:Int,atI [D.int C,D.int t,D.int<|t+c / 4 % 5,D.int C] (c % 4)=a7 (.int u)/\t<=u/\u<=C+4:=by
  generalize c / 4 % 5=w at w0 w1;generalize c % 4=v at v0 v1;have:v=0\/v=1\/v=2\/v=3:=by lia
  rcases this with rfl|rfl|rfl|rfl;exact⟨_,ar (j:=0) rfl,X,by lia⟩;exact⟨_,ar (j:=1) rfl,Py _,by lia⟩;exact⟨_,ar (j:=2) rfl,by lia,by lia⟩;exact⟨_,ar (j:=3) rfl,X,by lia⟩
 rw[eu];walk_at"dl";have g1:=g.more (L:=[MO.lst [D.int C,D.int t,D.int<|t+c / 4 % 5,D.int C]]);generalize B++[MO.lst [D.int C,D.int t,D.int<|t+c / 4 % 5,D.int C]]=Y at g1;have W:t<u+1:=by lia
 have Tg:u+1<=C+5:=by lia
 generalize u+1=T at W Tg;obtain⟨i,hi,i0⟩:=G.cnt _ F;simp only[wv];walk_at"dl";refine⟨⟨by decide,by decide⟩,_,ps,rs,M.length+1,q,M.length+2,f,hs,e,rfl,hf,.inl g1.sts,N,by lia,bW g1.pre V,U,h1,hl,I,g1.cnt,λx K=>(G.cnt x K).imp λ_ q=>q.1,λx ds pl H=>?_⟩;simp only[wu];walk_at"dl";refine⟨⟨_,.inl g1.deeds⟩,e,_,g1.cnt,rfl,hi,aq (by lia),_,g1.deeds,av (by lia),?_⟩;have A:=g1.setDeeds (deeds':=s++[.tup [.int T,.tup [.str z,.int k],.int i,.tup<|.str x::ds]]);generalize Y.set M.length _=Z at A;simp only[wt];walk_at"dl";refine⟨e,_,A.cnt,rfl,hi,?_⟩;walk_at"dl";refine⟨e,A.cnt,rfl,av (by lia),?_⟩;have g3:=A.setCnt (cnt':=fV e (.tup [.str z,.int k])<|.int<|i+1);generalize Z.set (M.length+2) _=B3 at g3;simp only[wq];walk_at"dl";refine⟨l,g3.las,rfl,av (by lia),?_⟩;have m:=g3.setLas (las':=fV l (.tup [.str z,.int k])<|.int T);generalize B3.set (M.length+3) _=B4 at m;have R:=G.step (num:=i) (i:=i+1) F J W i0 (by lia) pl H h;have o:(if T > C then T else C)<=5*((n:Int)+1):=by split<;>lia
 have l1:=gM (kvs:=e) (k:=.tup [.str z,.int k]) (d:=.int<|i+1);have l2:=gM (kvs:=l) (k:=.tup [.str z,.int k]) (d:=.int T);simp only[wn];walk_at"dl";simp only[wm];walk_at"dl";refine⟨⟨ak,ak⟩,?_⟩;split;refine⟨⟨_,.inl m.sts⟩,aq (by lia),f,m.sts,av (by lia),S _ _ _ _ _ _ _ _ _ _ m.setSts R o (λy Q=>?_) (by rw[A3,F3];lia) (by rw[A3,F3];lia) (by lia)<|by lia⟩;rcases F0.mp Q with Q|Q;exact N y Q;exact⟨T,z,k,I9.mp Q⟩;exact S _ _ _ _ _ _ _ _ _ _ m R o N (by lia) (by rw[A3,F3];lia) (by lia)<|by lia
theorem IJ:C1 xr 12 IR:=by
 rintro ds M R ⟨ps,w,p,q,ns,hs,rfl,X,hp,nl,u,n,h1,hl,I,h⟩;have Z:∀x∈hs,Hd x:=λx f=>qE x<|n x f;simp only[IR,zb,za,yZ];walk_at"dl";refine⟨B5 _,B5 _,?_⟩;have L:(M++[MO.lst []]).length=M.length+1:=by simp
 have N:(M++[MO.lst []]++[MO.lst []]).length=M.length+2:=by simp
 have O:(M++[MO.lst []]++[MO.lst []]++[MO.dkt []]).length=M.length+3:=by simp
 rw[L,N,O];have A:K3 M (M++[MO.lst []]++[MO.lst []]++[MO.dkt []]++[MO.dkt []]) [] [] [] []:=by refine⟨((bi.trans bi).trans bi).trans bi,ac<|ac<|ac ad,?_,?_,?_⟩;rw[<-L];exact ac<|ac ad;rw[<-N];exact ac ad;rw[<-O];exact ad
 generalize M++[MO.lst []]++[MO.lst []]++[MO.dkt []]++[MO.dkt []]=B0 at A;simp only[yY];walk_at"dl";refine⟨_,bW A.pre u,λ_=>?_⟩;refine aV (λi S M'=>∃(t l:List (D×D)) (a:Option D),K3 M M' [] [] t l/\(∀x∈hs.take i,aB t x=a7 (.int 0)/\aB l x=a7 (.int 0))/\t.length<=i/\l.length<=i/\S=[a7<|aC ps w,a7<|.ref p,a7<|.ref q,a7<|.ref M.length,a7<|.ref<|M.length+1,a7<|.ref<|M.length+2,a7<|.ref<|M.length+3,a,a8,a8,a8,a8]) ?_ ?_ ⟨[],[],_,A,(λ_ z=>nomatch z),v6 _,v6 _,rfl⟩;rintro S M' ⟨t,l,a,g,o,r,v,rfl⟩;rw[Mu]at o;refine⟨bW g.pre u,?_⟩;simp only[yW,yV];walk_at"dl";refine⟨_,bW g.pre hp,λ_=>?_⟩;refine aV (λi S M'=>∃(s j:List D) (t l:List (D×D)) (C:Int) (a b c d:Option D),K3 M M' s j t l/\GenH ps w hs s t l C/\C<=5*(i:Int)/\On j/\j.length<=i/\s.length<=i/\t.length<=12+i/\l.length<=12+i/\S=[a7<|aC ps w,a7<|.ref p,a7<|.ref q,a7<|.ref M.length,a7<|.ref<|M.length+1,a7<|.ref<|M.length+2,a7<|.ref<|M.length+3,a,a7<|.int C,b,c,d]) ?_ ?_ ⟨[],[],t,l,0,_,_,_,_,g,⟨(λ_ z=>nomatch z),.nil,λx f=>⟨0,(o x f).2,⟨Py _,Py _⟩,(λ_ z=>nomatch z)⟩,λx f=>⟨0,(o x f).1,Py _⟩,(λ_ z=>nomatch z),(λ_ z=>nomatch z)⟩,by lia,(λ_ z=>nomatch z),v6 _,v6 _,by lia,by lia,rfl⟩;rintro S M' ⟨s,j,t,l,C,a,b,c,d,g,G,E,U,T,Y,r,v,rfl⟩;rw[v7]at Y E;refine⟨bW g.pre hp,?_⟩;simp only[wj];walk_at"dl";refine⟨s,.inl g.deeds,(ue G<|by lia).1,λys Q hr=>⟨ys,ah,?_⟩⟩;have P:∀d∈ys,aE ps w d:=λd m=>G.deed d<|Q.mem_iff.mp m;exact aY.keep (h ys P (λd m=>Int.le_trans (G.le d<|Q.mem_iff.mp m)<|by lia) (λd m=>G.nn d<|Q.mem_iff.mp m) (by rw[Q.length_eq];lia)<|Bz G (by lia) Q hr) (.tup<|aE.bels P)<|g.pre.trans bi;rintro i y S M' Q ⟨s,j,t,l,C,a,b,c,d,g,G,E,U,T,Y,r,v,rfl⟩ K H;refine⟨bW g.pre hp,?_⟩;rw[C7]at Q;obtain⟨ai,hn,rfl⟩:=MQ.mp Q;have hi:=(A6.mp hn).1;simp only[af,QR,QQ];exact Dv g G X u n h1 hl I U T Y r v (by lia) E λdeeds' sts' cnt' las' gr' B' a b c d W V F J s1 s2 s3 s4=>B6.now<|H _ _ ⟨deeds',sts',cnt',las',gr',_,_,_,_,W,V,F,J,s1,s2,s3,s4,rfl⟩;rintro i y S M' Q ⟨t,l,a,g,o,r,v,rfl⟩ K H;have hi:=(A6.mp Q).1;refine⟨bW g.pre u,?_⟩;obtain⟨z,k,rfl⟩:=Z y<|E9 Q;simp only[yX];walk_at"dl";refine⟨t,g.cnt,rfl,av (by lia),?_⟩;have B:=g.setCnt (cnt':=fV t (.tup [.str z,.int k])<|.int 0);have l1:=gM (kvs:=t) (k:=.tup [.str z,.int k]) (d:=.int 0);have l2:=gM (kvs:=l) (k:=.tup [.str z,.int k]) (d:=.int 0);generalize M'.set (M.length+2) _=B2 at B;refine⟨l,B.las,rfl,av (by lia),B6.now<|H _ _ ⟨_,_,_,B.setLas,λx f=>?_,by lia,by lia,rfl⟩⟩;rw[Mz,Q]at f;by_cases e:x=.tup [.str z,.int k];subst e;exact⟨gR,gR⟩;rw[eL e,eL e];rcases F0.mp f with f|f;exact o x f;exact p7 (by simpa using f) e
theorem JP(T:Tops P w K mg base):w6 P w K mg base 4 "_law_log" Gx xr:=w6.byD (N:=["_law_house_here","_law_numbers_here","_law_hands_here","_law_log_here","_law_says","_law_counts","_law_last","_law_hand","_law_greatest","_law_number","_law_time","_law_act_here"]) T.b T.f_log (by walk_at"sc") GO (by have:=JQ T;walk_at"dv") IJ
noncomputable def uG(e:D):D:=.tup [.str<|aW e,cN e,.str<|bQ e,Jc e,Af e]
noncomputable def jW(kvs:List (D×D)):List (D×D):=kvs.map λp=>(p.1,uG p.2)
def dF:A2:=λds M R=>∃(ps:List (b9×Int)) (a:List (b9×List b9)) (log:List D),ds=[aC ps a,.tup log]/\HouseF ps a/\(∀d∈log,aE ps a d)/\log.length<=1000/\∀n B,M <+: B->B[n]?=a7 (.dkt<|jW<|ap a log)->R (.ref n) B
theorem tU:da dF jQ:=by rintro ds M R ⟨ps,a,log,rfl,_⟩;rfl
theorem dL:aB (jW kvs) k=(aB kvs k).map uG:=by unfold aB jW;rw[PK,Option.map_map,Option.map_map];rfl
theorem DF:fV (jW kvs) k (uG d)=jW (fV kvs k d):=by
 unfold fV;rw[dL,QK];split;unfold jW;rw[D9,D9];refine NR λp _=>?_;show (if p.1=k then(p.1,uG d)else(p.1,uG p.2))=((if p.1=k then(p.1,d)else p).1,uG (if p.1=k then(p.1,d)else p).2)
 split<;>rfl;unfold jW;rw[G1];rfl
theorem kZ:(jW kvs).length=kvs.length:=by unfold jW;rw[v7]
theorem vP:ap rs (log++[d])=if bA d=u4 "say" then sM rs (ap rs log) d else ap rs log:=by unfold ap;rw[pj];split;rw[fA];rw[MJ]
noncomputable def nR(r:b9×List b9):b9×D:=(r.1,.tup<|r.2.map .str)
theorem Ez(ps:List (b9×D))(h:(ps.map (·.1)).Nodup):iS ps=ps:=by revert h;refine jo (P:=λps=>(ps.map (·.1)).Nodup->iS ps=ps) (λ_=>rfl) (λps p i h=>?_) ps;rw[G1]at h;have h':=P3.mp h;rw[pz,i h'.1,CQ];intro z;exact h'.2.2 _ z _ (by simp) rfl
theorem xR{rs:List (b9×List b9)}(h:(rs.map (·.1)).Nodup):iS (rs.map nR)=rs.map nR:=Ez _<|by rw[D9];exact h
theorem sV:∀{rs:List (b9×List b9)},r∈rs.map (·.1)->fU (rs.map nR) r=a7 (.tup<|(nM rs r).map .str)
 |p::rs,h=>by rw[na];unfold fU;rw[C2,Mj];by_cases e:p.1=r;rw[o8 e,show decide ((nR p).1=r)=a9 from dT_ e];rfl;rw[p4 e,show decide ((nR p).1=r)=b7 from dF_ e];rw[C2,A1]at h;exact sV<|h.resolve_left<|z9 e
theorem zJ{rs:List (b9×List b9)}:rs.map kM=(rs.map nR).map λp=>.tup [.str p.1,p.2]:=by rw[D9];rfl
theorem gD{a b:b9}:(a==b)=decide (a=b):=by by_cases e:a=b;rw[dT_ e];exact beq_iff_eq.mpr e;rw[dF_ e];exact beq_eq_false_iff_ne.mpr e
def kr:u3:=bp<|ab 3
def kt:u3:=ay (kJ (bB<|ab 1) (gu 4<|aG (af 4)<|aG (af 5)<|aG (af 6)<|aG (af 7) gv)<|B9 (qS (au<|t7 B7 (t7 v5 (ab 7)<|dC<|.int 0)<|dC<|.str "say")<|au<|t7 OK (t7 v5 (ab 5)<|dC<|.int 0)<|BD (ab 2)<|t7 v5 (ab 7)<|dC<|.int 1) (B9 (NI (au<|t7 NH (t7 v5 (ab 7)<|dC<|.int 2)<|dC .non)<|qS (au<|t7 zN (t7 v5 (ab 7)<|dC<|.int 2)<|ab 3)<|au<|t7 B7 (t7 v5 (eP (ab 3)<|t7 v5 (ab 7)<|dC<|.int 2)<|dC<|.int 0)<|t7 v5 (ab 7)<|dC<|.int 1) (nD (ab 3) (fS<|aa (ab 4)<|aa (ab 5) ag)<|fS<|aa (t7 v5 (ab 7)<|dC<|.int 1)<|aa (t7 v5 (ab 7)<|dC<|.int 2)<|aa (t7 v5 (ab 5)<|dC<|.int 0)<|aa (t7 v5 (ab 7)<|dC<|.int 3)<|aa (ab 6) ag) aT) aT)<|kr
def kw:u3:=ay (bc (ui) 3)<|kt
def oR:u3:=ay (bc (u7 wI<|aa (t7 v5 (ab 0)<|dC<|.int 1) ag) 2)<|kw
def Io:u3:=B9 (NI (au<|t7 NH (t7 v5 (ab 7)<|dC<|.int 2)<|dC .non)<|qS (au<|t7 zN (t7 v5 (ab 7)<|dC<|.int 2)<|ab 3)<|au<|t7 B7 (t7 v5 (eP (ab 3)<|t7 v5 (ab 7)<|dC<|.int 2)<|dC<|.int 0)<|t7 v5 (ab 7)<|dC<|.int 1) (nD (ab 3) (fS<|aa (ab 4)<|aa (ab 5) ag)<|fS<|aa (t7 v5 (ab 7)<|dC<|.int 1)<|aa (t7 v5 (ab 7)<|dC<|.int 2)<|aa (t7 v5 (ab 5)<|dC<|.int 0)<|aa (t7 v5 (ab 7)<|dC<|.int 3)<|aa (ab 6) ag) aT
theorem qT{B:u8}{n:Nat}{x:MO}(g:B[n]?=a7 x):B.set n x=B:=by refine List.ext_getElem? λj=>?_;by_cases e:n=j;subst e;rw[MX<|aK g,g];rw[MB e]
theorem LP(f:u=.non\/St u)(v:kvs.length<1000)(S:B[n]?=a7 (.dkt<|jW kvs))(h:∀B',B'=B.set n (.dkt (jW (if (decide (u=.non)||match aB kvs u with
   |some e=>decide<|aW e=r
   |none=>b7)=a9 then fV kvs (.tup [.int t,.tup [.str z,.int k]]) (.tup [.int t,.tup [.str z,.int k],.int num,.tup [.str<|u4 "say",.str r,u,.str s]])else kvs)))->E.nx [x0,x1,x2,a7<|.ref n,a7<|.int t,a7<|.tup [.str z,.int k],a7<|.int num,a7<|.tup [.str<|u4 "say",.str r,u,.str s]] B') :
  Io E [x0,x1,x2,a7<|.ref n,a7<|.int t,a7<|.tup [.str z,.int k],a7<|.int num,a7<|.tup [.str<|u4 "say",.str r,u,.str s]] B:=by
 have Q:∀a b c:D,atI [a,b,c,.str s] 3=a7 (.str s):=λa b c=>ar (j:=3) rfl;have g:=(qT S).symm;have d:∀{P:Prop},(B.set n (.dkt<|fV (jW kvs) (.tup [.int t,.tup [.str z,.int k]])<|.tup [.str r,u,.str z,.str s,.int num])=B.set n (.dkt<|jW<|fV kvs (.tup [.int t,.tup [.str z,.int k]])<|.tup [.int t,.tup [.str z,.int k],.int num,.tup [.str<|u4 "say",.str r,u,.str s]])->P)->P:=λq=>q (by rw[<-DF];rfl);have l:(jW kvs).length<1000:=by rw[kZ];exact v
 simp only[Io];rcases f with rfl|⟨t',G,I,rfl⟩
 rw[dT_ rfl,Bool.true_or,o8 rfl]at h;walk_at"dl";rw[Q];exact d λe=>⟨aq (by lia),aq (by lia),_,S,rfl,av (by lia),h _ e⟩
 rw[dF_ (p:=D.tup [.int t',.tup [.str G,.int I]]=.non) (by intro e;cases e),PD]at h;walk_at"dl";refine⟨_,S,rfl,?_⟩;rw[dL];cases R:aB kvs (.tup [.int t',.tup [.str G,.int I]]) with
 |none=>rw[R]at h;exact bR<|h _ g
 |some e =>
  refine ck ⟨_,uG e,S,rfl,by rw[dL,R];rfl,?_⟩;unfold uG;walk_at"dl";refine⟨⟨ak,ak⟩,?_⟩;rw[aJ,gD];cases o:decide (aW e=r) with
  |true=>simp only[R,o,s9]at h;refine ck ?_;rw[Q];exact d λe=>⟨aq (by lia),aq (by lia),_,S,rfl,av (by lia),h _ e⟩
  |false=>simp only[R,o,A7,r9]at h;exact bR<|h _ g
theorem EO{B:u8}{E:DEnds}{ps:List (b9×Int)}{rs:List (b9×List b9)}{d:D}{kvs:List (D×D)}{C:Option D}{y w A F:Option D}{q n:Nat}(G:HouseF ps rs)(i:aE ps rs d)(H:∀p∈kvs,aE ps rs p.2/\bA p.2=u4 "say")(v:kvs.length<1000)(j:B[q]?=a7 (.dct<|rs.map nR))(S:B[n]?=a7 (.dkt<|jW kvs))(h:∀a b c d' B',B'=B.set n (.dkt<|jW<|if bA d=u4 "say" then sM rs kvs d else kvs)->E.nx [a7<|aC ps rs,C,a7<|.ref q,a7<|.ref n,a,b,c,d'] B'):(gu 4<|aG (af 4)<|aG (af 5)<|aG (af 6)<|aG (af 7) gv) d [a7<|aC ps rs,C,a7<|.ref q,a7<|.ref n,y,w,A,F] B λS2 M2=>(B9 (qS (au<|t7 B7 (t7 v5 (ab 7)<|dC<|.int 0)<|dC<|.str "say")<|au<|t7 OK (t7 v5 (ab 5)<|dC<|.int 0)<|BD (ab 2)<|t7 v5 (ab 7)<|dC<|.int 1) Io aT) E S2 M2:=by
 by_cases f:bA d=u4 "say";rw[o8 f]at h;obtain⟨t,z,k,m,r,u,s,rfl,_,_,l,o⟩:=dI i f;unfold sM at h;rw[show oT rs kvs (.tup [.int t,.tup [.str z,.int k],.int m,.tup [.str<|u4 "say",.str r,u,.str s]])=(decide (z∈nM rs r)&&(decide (u=.non)||match aB kvs u with
  |some e=>decide<|aW e=r
  |none=>b7))from rfl]at h
 walk_at"dl";refine⟨trivial,⟨ak,ak⟩,?_⟩;rw[aJ,t5];refine ck ⟨_,_,j,sV l,⟨ak,pT⟩,?_⟩;rw[qD];by_cases g:z∈nM rs r;rw[dT_ g,OX]at h;rw[dT_ g];exact ck<|LP o v S λ_ e=>h _ _ _ _ _ e;rw[dF_ g,PN]at h;rw[dF_ g];exact bR<|h _ _ _ _ _ (qT S).symm;rw[p4 f]at h;obtain⟨t,z,k,m,x,ds,rfl,_⟩:=i;walk_at"dl";refine⟨trivial,⟨ak,ak⟩,?_⟩;rw[aJ,show (x==u4 "say")=b7 from beq_eq_false_iff_ne.mpr f];refine bR ?_;exact h _ _ _ _ _ (qT S).symm
theorem uK:C1 dF 8 oR:=by
 rintro ds M R ⟨ps,rs,log,rfl,f,g,r,h⟩;simp only[oR,aC];walk_at"dl";refine⟨rs.map nR,zJ,by rw[v7];have:=f.rl.2;lia,?_⟩;rw[xR f.rnd];simp only[kw,kt];walk_at"dl";intro _;have l:(M++[MO.dct<|rs.map nR]).length=M.length+1:=by simp
 refine aV (λi S M'=>∃a b c d,M'=M++[.dct<|rs.map nR,.dkt<|jW<|ap rs<|log.take i]/\S=[a7<|aC ps rs,a7<|.tup log,a7<|.ref M.length,a7<|.ref<|M.length+1,a,b,c,d]) ?_ ?_ ⟨_,_,_,_,by simp[jW,ap,kinds,bP],by rw[l];rfl⟩;rintro S M' ⟨a,b,c,d,rfl,rfl⟩;rw[Mu];refine⟨trivial,?_⟩;simp only[kr];walk_at"dl";exact .inl<|h _ _ (Mm _ _) gU;rintro i y S M' Q ⟨a,b,c,d,rfl,rfl⟩ G e;have n:=E9 Q;have m:log.take (i+1)=log.take i++[y]:=by rw[Mz,Q];rfl
 rw[m,vP]at e;have t:=bo (rs:=rs) (log:=log.take i);have j:∀d∈log.take i,aE ps rs d:=λd q=>g d<|RE q;have v:=eW j (λ_ q=>q) t;have p:=t.len;have o:=bn (log:=log.take i) (k:=u4 "say");rw[K5]at o;have hi:=(A6.mp Q).1;generalize ap rs (log.take i)=kvs at e v p;refine⟨trivial,?_⟩;refine EO f (g y n) v (by lia) bX gU ?_;rintro a b c d B rfl;refine B6.now<|e _ _ ⟨a,b,c,d,?_,rfl⟩;rw[QZ _ _ (by lia),show M.length+1-M.length=1 by lia];rfl
theorem mV(T:Tops P w K mg base):w6 P w K mg base 1 "_law_counting" jQ dF:=w6.byD (N:=["_law_house_here","_law_log_here","_law_members","_law_found","_law_time","_law_hand","_law_number","_law_act_here"]) T.b T.f_counting (by walk_at"sc") tU (by walk_at"dv") uK
def Mf(C:List (D×D))(B:u8)(n:Nat)(p:D×D):Prop:=∃e m s,p.2=.ref m/\n<m/\aB C p.1=a7 e/\B[m]?=a7 (.lst [.str<|aW e,.str<|bQ e,s,Af e])
def lz:A2:=λds M R=>∃(ps:List (b9×Int)) (a:List (b9×List b9)) (log:List D),ds=[aC ps a,.tup log]/\HouseF ps a/\(∀d∈log,aE ps a d)/\log.length<=1000/\∀n B kvs,M <+: B->rA B n kvs->(∀p∈kvs,Mf (ap a log) B n p/\¬aQ (ap a log) log p.1)->(kvs.map (·.1)).Nodup->kvs.length<=log.length->(∀k e,aB (ap a log) k=a7 e->¬aQ (ap a log) log k->∃d,aB kvs k=a7 d)->R (.ref n) B
theorem Au:da lz uW:=by rintro ds M R ⟨ps,a,log,rfl,_⟩;rfl
theorem ED:aB (Ii kvs k) j=if j=k then a8 else aB kvs j:=by unfold aB Ii;rw[List.find?_filter];split;rename_i e;subst e;rw[Option.map_eq_none_iff,List.find?_eq_none];intro p _;by_cases e:p.1=j<;>simp[e];rename_i h;congr 1;congr 1;funext p;by_cases e:p.1=j;have:¬p.1=k:=λz=>h<|e.symm.trans z;simp[e,h];simp[e]
theorem BO(R:aB C m=a7 e):L6 C (.tup [.int t,.tup [.str z,.int k],.int num,.tup<|x::m::l])=decide (z=bQ e):=by
 show (match aB C m with
  |some e=>decide<|z=bQ e
  |none=>b7)=_
 rw[R]
theorem EV(R:aB C m=a8):L6 C (.tup [.int t,.tup [.str z,.int k],.int num,.tup<|x::m::l])=b7:=by
 show (match aB C m with
  |some e=>decide<|z=bQ e
  |none=>b7)=_
 rw[R]
theorem cE:aQ C (log++[d]) k↔aQ C log k\/(bA d=u4 "back"/\L6 C d=a9/\nV d=k):=by
 unfold aQ;rw[pj];constructor;rintro⟨x,h,h1,h2⟩;rcases F0.mp h with h|h;exact .inl ⟨x,h,h1,h2⟩;split at h;rename_i a;obtain rfl:x=d:=by simpa using h
 exact .inr ⟨a,h1,h2⟩;cases h;rintro(⟨x,h,h1,h2⟩|⟨a,h1,h2⟩);exact⟨x,MW _ h,h1,h2⟩;exact⟨d,Ix _ (by rw[o8 a];simp),h1,h2⟩
theorem Mf.more(h:Mf C B n p):Mf C (B++[x]) n p:=by obtain⟨e,m,s,h1,h2,a,d⟩:=h;exact⟨e,m,s,h1,h2,a,ac d⟩
theorem Mf.setN(h:Mf C B n p):Mf C (B.set n x) n p:=by obtain⟨e,m,s,h1,h2,a,d⟩:=h;exact⟨e,m,s,h1,h2,a,aO (by lia) d⟩
theorem Mf.setM(h:Mf C B n p)(g:B[m']?=a7 (.lst [a,b,c,d])):Mf C (B.set m'<|.lst [a,b,c',d]) n p:=by obtain⟨e,m,s,h1,h2,i,f⟩:=h;by_cases q:m=m';subst q;rw[f]at g;simp only[Option.some.injEq,MO.lst.injEq,O1,and_true]at g;obtain⟨rfl,rfl,_,rfl⟩:=g;exact⟨e,m,c',h1,h2,i,bH f⟩;exact⟨e,m,s,h1,h2,i,aO q f⟩
def rN:u3:=bp<|ab 3
def lI:u3:=ay (kJ (bB<|ab 1) (gu 4<|aG (af 6)<|aG (af 7)<|aG (af 8)<|aG (af 9) gv)<|B9 (qS (au<|t7 B7 (t7 v5 (ab 9)<|dC<|.int 0)<|dC<|.str "back")<|qS (au<|t7 zN (t7 v5 (ab 9)<|dC<|.int 1)<|ab 2)<|au<|t7 B7 (t7 v5 (eP (ab 2)<|t7 v5 (ab 9)<|dC<|.int 1)<|dC<|.int 2)<|t7 v5 (ab 7)<|dC<|.int 0) (iU<|Rs CP (ab 3)<|aa (t7 v5 (ab 9)<|dC<|.int 1)<|aa (dC .non) ag) aT)<|rN
def lJ:u3:=ay (kJ (bB<|ab 1) (gu 4<|aG (af 6)<|aG (af 7)<|aG (af 8)<|aG (af 9) gv)<|B9 (qS (au<|t7 B7 (t7 v5 (ab 9)<|dC<|.int 0)<|dC<|.str "change")<|qS (au<|t7 zN (t7 v5 (ab 9)<|dC<|.int 1)<|ab 2)<|au<|t7 B7 (t7 v5 (eP (ab 2)<|t7 v5 (ab 9)<|dC<|.int 1)<|dC<|.int 2)<|t7 v5 (ab 7)<|dC<|.int 0) (LO (t7 v5 (ab 9)<|dC<|.int 2)<|Bw (eP (ab 3)<|t7 v5 (ab 9)<|dC<|.int 1)<|dC<|.int 2) aT)<|lI
def rO:u3:=ay (kJ (qQ<|ab 2) (gu 2<|aG (af 4)<|aG (af 5) gv)<|nD (ab 3) (ab 4)<|iA<|aa (t7 v5 (ab 5)<|dC<|.int 0)<|aa (t7 v5 (ab 5)<|dC<|.int 2)<|aa (t7 v5 (ab 5)<|dC<|.int 3)<|aa (t7 v5 (ab 5)<|dC<|.int 4) ag)<|lJ
def rP:u3:=ay (bc (ui) 3)<|rO
def yR:u3:=ay (bc (u7 dF<|aa (ab 0)<|aa (ab 1) ag) 2)<|rP
section
variable{M B:u8}{R:DK}{ps:List (b9×Int)}{rs:List (b9×List b9)}{log:List D}{C kvs:List (D×D)}{c:Nat}
theorem FW(V:∀d∈log,aE ps rs d)(hl:log.length<=1000)(X:M <+: B)(hB:B[c]?=a7 (.dkt<|jW C))(v:∀p∈kvs,Mf C M' B.length p)(l:∀k e,aB C k=a7 e->∃d,aB kvs k=a7 d)(q:(kvs.map (·.1)).Nodup)(j:kvs.length<=log.length)(pM:B <+: M')(f:M'[B.length]?=a7 (.dkt kvs))(h:∀n B kvs,M <+: B->rA B n kvs->(∀p∈kvs,Mf C B n p/\¬aQ C log p.1)->(kvs.map (·.1)).Nodup->kvs.length<=log.length->(∀k e,aB C k=a7 e->¬aQ C log k->∃d,aB kvs k=a7 d)->R (.ref n) B):lI (EE M R) [a7<|aC ps rs,a7<|.tup log,a7<|.ref c,a7<|.ref B.length,a,b,y6,y7,y8,y9] M':=by
 have Y:=aK hB;simp only[lI];walk_at"dl";intro _;refine aV (λi S M'=>∃(kvs:List (D×D)) (y6 y7 y8 y9:Option D),B <+: M'/\rA M' B.length kvs/\(∀p∈kvs,Mf C M' B.length p/\¬aQ C (log.take i) p.1)/\(kvs.map (·.1)).Nodup/\kvs.length<=log.length/\(∀k e,aB C k=a7 e->¬aQ C (log.take i) k->∃d,aB kvs k=a7 d)/\S=[a7<|aC ps rs,a7<|.tup log,a7<|.ref c,a7<|.ref B.length,a,b,y6,y7,y8,y9]) ?_ ?_ ⟨kvs,_,_,_,_,pM,.inl f,λp hp=>⟨v p hp,λ⟨d,z,_⟩=>nomatch z⟩,q,j,λk e g _=>l k e g,rfl⟩;rintro S M' ⟨kvs,y6,y7,y8,y9,pM,f,v,q,j,l,rfl⟩;rw[Mu]at v l;refine⟨trivial,?_⟩;simp only[rN];walk_at"dl";exact .inl<|h _ _ _ (X.trans pM) f v q j l;rintro i y S M' Q ⟨kvs,y6,y7,y8,y9,pM,f,v,q,j,l,rfl⟩ G s;have o:∀k e,aB C k=a7 e->¬aQ C (log.take i++[y]) k->∃d,aB kvs k=a7 d:=λk e g r=>l k e g λw=>r<|cE.mpr<|.inl w;have W:=E9 Q;have P:log.take (i+1)=log.take i++[y]:=by rw[Mz,Q];rfl
 rw[P]at s;have K:=V y W;have L:=aH pM hB;refine⟨trivial,?_⟩;by_cases F:bA y=u4 "back";obtain⟨t,z,k,J,m,rfl,hs⟩:=vR K F;obtain⟨t',u,I,rfl⟩:=hs;walk_at"dl";refine⟨trivial,⟨ak,ak⟩,?_⟩;rw[aJ,show (u4 "back" == u4 "back")=a9 from t5 _];refine ck ⟨_,L,rfl,?_⟩;rw[dL];cases E:aB C (.tup [.int t',.tup [.str u,.int I]]) with
 |none =>
  refine bR<|B6.now<|s _ _ ⟨kvs,_,_,_,_,pM,f,λp hp=>⟨(v p hp).1,λw=>?_⟩,q,j,o,rfl⟩;rcases cE.mp w with w|⟨_,w,_⟩
  exact(v p hp).2 w;rw[EV E]at w;cases w
 |some e =>
  refine ck ⟨_,uG e,L,rfl,by rw[dL,E];rfl,?_⟩;unfold uG;walk_at"dl";refine⟨⟨ak,ak⟩,?_⟩;rw[aJ,gD];by_cases A:bQ e=z;rw[dT_ A];refine ck ⟨⟨kvs,f⟩,kvs,f,rfl,λ_=>?_⟩;have H:∀p∈Ii kvs (.tup [.int t',.tup [.str u,.int I]]),p∈kvs/\p.1≠.tup [.int t',.tup [.str u,.int I]]:=λp hp=>by have:=E5.mp hp;exact⟨this.1,λe=>by simp[e]at this⟩
  have U:B.length<M'.length:=by rcases f with f|⟨_,f⟩<;>exact aK f
  refine B6.now<|s _ _ ⟨Ii kvs<|.tup [.int t',.tup [.str u,.int I]],_,_,_,_,bx pM<|v6 _,.inr ⟨_,MX U⟩,λp hp=>⟨(v p (H p hp).1).1.setN,λw=>?_⟩,(OD.map _).nodup q,F4 (Mn _ _) j,λN O T r=>?_,rfl⟩;rcases cE.mp w with w|⟨_,_,w⟩
  exact(v p (H p hp).1).2 w;exact(H p hp).2 w.symm;rw[ED];by_cases Z:N=.tup [.int t',.tup [.str u,.int I]];exact p7 (cE.mpr<|.inr ⟨F,by rw[BO E];exact dT_ A.symm,Z.symm⟩) r;rw[p4 Z];exact o N O T r;rw[dF_ A];refine bR<|B6.now<|s _ _ ⟨kvs,_,_,_,_,pM,f,λp hp=>⟨(v p hp).1,λw=>?_⟩,q,j,o,rfl⟩;rcases cE.mp w with w|⟨_,w,_⟩
  exact(v p hp).2 w;rw[BO E]at w;exact A (oT_ w).symm
 have r:∀p,aQ C (log.take i++[y]) p->aQ C (log.take i) p:=λp w=>by
  rcases cE.mp w with w|⟨w,_,_⟩
  exact w;exact p7 w F
 obtain⟨t,z,k,J,x,ds,rfl,_⟩:=K;walk_at"dl";refine⟨trivial,⟨ak,ak⟩,?_⟩;rw[aJ,show (x==u4 "back")=b7 from beq_eq_false_iff_ne.mpr F];exact bR<|B6.now<|s _ _ ⟨kvs,_,_,_,_,pM,f,λp hp=>⟨(v p hp).1,λw=>(v p hp).2<|r _ w⟩,q,j,o,rfl⟩
theorem FX(A:∀d∈log,aE ps rs d)(I:log.length<=1000)(_:C.length<=log.length)(P:M <+: B)(hB:B[c]?=a7 (.dkt<|jW C))(v:∀p∈kvs,Mf C M' B.length p)(l:∀k e,aB C k=a7 e->∃d,aB kvs k=a7 d)(O:(kvs.map (·.1)).Nodup)(N:kvs.length<=log.length)(pM:B <+: M')(g:M'[B.length]?=a7 (.dkt kvs))(h:∀n B kvs,M <+: B->rA B n kvs->(∀p∈kvs,Mf C B n p/\¬aQ C log p.1)->(kvs.map (·.1)).Nodup->kvs.length<=log.length->(∀k e,aB C k=a7 e->¬aQ C log k->∃d,aB kvs k=a7 d)->R (.ref n) B):lJ (EE M R) [a7<|aC ps rs,a7<|.tup log,a7<|.ref c,a7<|.ref B.length,a,b,y6,y7,y8,y9] M':=by
 have Y:=aK hB;simp only[lJ];walk_at"dl";intro _;refine gX (λys S M'=>∃(y6 y7 y8 y9:Option D),(∀y∈ys,y∈log)/\B <+: M'/\M'[B.length]?=a7 (.dkt kvs)/\(∀p∈kvs,Mf C M' B.length p)/\S=[a7<|aC ps rs,a7<|.tup log,a7<|.ref c,a7<|.ref B.length,a,b,y6,y7,y8,y9]) ?_ ?_ _ _ _ ⟨_,_,_,_,λ_ q=>q,pM,g,v,rfl⟩;rintro S M' ⟨y6,y7,y8,y9,_,pM,g,v,rfl⟩;refine⟨trivial,?_⟩;exact FW A I P hB v l O N pM g h;rintro y ys S M' ⟨y6,y7,y8,y9,i,pM,g,v,rfl⟩ G j;have J:=i y (by simp);have r:=A y J;have L:=aH pM hB;have f:∀z∈ys,z∈log:=λz q=>i z<|C4 _ q;refine⟨trivial,?_⟩;by_cases F:bA y=u4 "change";obtain⟨t,z,k,o,m,s,rfl,hs⟩:=jF r F;obtain⟨t',Q,K,rfl⟩:=hs;walk_at"dl";refine⟨trivial,⟨ak,ak⟩,?_⟩;rw[aJ,show (u4 "change" == u4 "change")=a9 from t5 _];refine ck ⟨_,L,rfl,?_⟩;rw[dL];cases E:aB C (.tup [.int t',.tup [.str Q,.int K]]) with
 |none=>exact bR<|B6.now<|j _ _ ⟨_,_,_,_,f,pM,g,v,rfl⟩
 |some e=>refine ck ⟨_,uG e,L,rfl,by rw[dL,E];rfl,?_⟩;unfold uG;walk_at"dl";refine⟨⟨ak,ak⟩,?_⟩;rw[aJ,gD];by_cases u:bQ e=z;rw[dT_ u];obtain⟨d,g1⟩:=l _ _ E;obtain⟨T,U,s',h1,h2,H,w⟩:=v _<|br g1;dsimp only at h1 H;subst h1;refine ck ⟨kvs,_,g,rfl,g1,_,2,w,rfl,?_⟩;exact B6.now<|j _ _ ⟨_,_,_,_,f,bx pM (by lia),aO (by lia) g,λp hp=>(v p hp).setM w,rfl⟩;rw[dF_ u];exact bR<|B6.now<|j _ _ ⟨_,_,_,_,f,pM,g,v,rfl⟩
 obtain⟨t,z,k,o,x,ds,rfl,_⟩:=r;walk_at"dl";refine⟨trivial,⟨ak,ak⟩,?_⟩;rw[aJ,show (x==u4 "change")=b7 from beq_eq_false_iff_ne.mpr F];exact bR<|B6.now<|j _ _ ⟨_,_,_,_,f,pM,g,v,rfl⟩
end
theorem Ck:C1 lz 10 yR:=by
 rintro ds M R ⟨ps,rs,log,rfl,V,u,H,h⟩;simp only[yR];walk_at"dl";refine⟨ps,rs,log,rfl,V,u,H,λc B W hB=>?_⟩;have t:=bo (rs:=rs) (log:=log);have kl:=bn (log:=log) (k:=u4 "say");have J:=eW u (λ_ q=>q) t;have Y:=t.len;have L:=t.nd;have x:=t.en;generalize ap rs log=C at h t Y J L x hB;have sp:∀p∈C,St p.1:=λp hp=>by rw[(x p hp).1];exact(J p hp).1.st
 have cB:=aK hB;simp only[rP,rO];walk_at"dl";refine⟨_,.inl<|ac hB,λ_=>?_⟩;have r:∀M',B <+: M'->M'[c]?=(B++[MO.dkt []])[c]?:=λM' p=>(aH p hB).trans (ac hB).symm;refine aV (λi S M'=>∃(kvs:List (D×D)) (a b:Option D),B <+: M'/\M'[B.length]?=a7 (.dkt kvs)/\(∀p∈kvs,Mf C M' B.length p)/\(∀p∈C.take i,(aB kvs p.1).isSome)/\(kvs.map (·.1)).Nodup/\kvs.length<=i/\S=[a7<|aC ps rs,a7<|.tup log,a7<|.ref c,a7<|.ref B.length,a,b,a8,a8,a8,a8]) ?_ ?_ ⟨[],_,_,bi,ad,(λ_ z=>nomatch z),(λ_ z=>nomatch z),.nil,v6 _,rfl⟩;rintro S M' ⟨kvs,a,b,pM,n,w,l,v,o,rfl⟩;rw[v7,kZ,Mu]at l;have K:kvs.length<=C.length:=by rw[<-kZ (kvs:=C)];simpa using o
 have m:∀k e,aB C k=a7 e->∃d,aB kvs k=a7 d:=λk e g=>Q9.mp<|l _<|br g;refine⟨r _ pM,?_⟩;exact FX u H (by lia) W hB w m v (by lia) pM n h;rintro i y S M' Q ⟨kvs,a,b,pM,n,w,l,v,o,rfl⟩ G A;unfold jW at Q;rw[D9,C7]at Q;obtain⟨p,hp,rfl⟩:=MQ.mp Q;have I:=E9 hp;have hi:=(A6.mp hp).1;have U:C.take (i+1)=C.take i++[p]:=by rw[Mz,hp];rfl
 have N:=sp p I;have E:=fi L I;have O:=aK n;refine⟨r _ pM,?_⟩;rw[U]at A;obtain⟨s,Z⟩:=N.tup;have F:=N.key;obtain⟨k,e⟩:=p;dsimp only at Z E F;subst Z;simp only[Function.comp_apply,uG];walk_at"dl";have P:atI [D.str<|aW e,cN e,.str<|bQ e,Jc e,Af e] 3=a7 (Jc e):=ar (j:=3) rfl;have T:atI [D.str<|aW e,cN e,.str<|bQ e,Jc e,Af e] 4=a7 (Af e):=ar (j:=4) rfl;simp only[P,T];refine⟨trivial,aq (by lia),kvs,ac n,F,av (by lia),?_⟩;refine B6.now<|A _ _ ⟨fV kvs (.tup s)<|.ref M'.length,_,_,bx (pM.trans bi)<|v6 _,bH<|ac n,λq f=>?_,λq f=>?_,mD v,?_,rfl⟩;rcases pW f with rfl|f;exact⟨e,M'.length,_,rfl,O,E,aO (by lia) ad⟩;exact(w q f).more.setN;by_cases X:q.1=.tup s;rw[X,gR];rfl;rw[eL X];rcases F0.mp f with f|f;exact l q f;have:q=(.tup s,e):=by simpa using f
 exact p7 (by rw[this]) X;have:=zQ (kvs:=kvs) (k:=.tup s) (d:=.ref M'.length);lia
theorem Df(T:Tops P w K mg base):w6 P w K mg base 2 "_law_shown" uW lz:=w6.byD (N:=["_law_house_here","_law_log_here","_law_counting_here","_law_shown_here","_law_stamp","_law_told_here","_law_time","_law_hand","_law_number","_law_act_here"]) T.b T.f_shown (by walk_at"sc") Au (by have:=mV T;walk_at"dv") Ck
noncomputable def fR(f:D->List D):Nat->D->List D
 | 0,_=>[]
 |n+1,k=>(f k).flatMap λs=>s::fR f n s
def FH(f:D->List D):Nat->D->Prop
 | 0,k=>f k=[]
 |n+1,k=>∀s∈f k,FH f n s
theorem Cq(h:s∈f k):(fR f n s).length+1<=(fR f (n+1) k).length:=by obtain⟨A,B,e⟩:=List.append_of_mem h;show _<=((f k).flatMap λs=>s::fR f n s).length;rw[e,List.flatMap_append,N9,A3,A3,C0];lia
theorem uM(hf:∀k,∀s∈f k,St s):∀(n:Nat) (k:D),∀x∈fR f n k,St x
 | 0,_,_,h=>nomatch h
 |n+1,k,x,h=>by obtain⟨s,hs,hx⟩:=List.mem_flatMap.mp h;rcases A1.mp hx with rfl|hx;exact hf k _ hs;exact uM hf n s x hx
theorem Fj(ih:∀(s:D) (d:Int) (rows todo:List D),FH f n s->∃W,W.map eH=fR f (n+1) s/\∀out,RunW f (rows++W) todo out->RunW f rows (todo++bF d (f s)) out):∀(xs:List D) (d:Int) (rows todo:List D),(∀s∈xs,FH f n s)->∃W,W.map eH=xs.flatMap (λs=>s::fR f (n+1) s)/\∀out,RunW f (rows++W) todo out->RunW f rows (todo++bF d xs) out
 | [],d,rows,todo,_=>⟨[],rfl,λout h=>by rw[MJ]at h;rw[show bF d []=[]from rfl,MJ];exact h⟩
 |x::xs,d,rows,todo,hx=>by
  obtain⟨W1,e1,h1⟩:=ih x (d+1) (rows++[.tup [.int d,x]]) (todo++bF d xs)<|hx x D3;obtain⟨W2,e2,h2⟩:=Fj ih xs d (rows++[.tup [.int d,x]]++W1) todo λs hs=>hx s<|C4 _ hs;refine⟨[.tup [.int d,x]]++W1++W2,?_,λout h=>?_⟩;rw[G1,G1,e1,e2,N9];rfl;have er:bF d (x::xs)=bF d xs++[.tup [.int d,x]]:=by unfold bF;rw[P7,G1];rfl
  rw[er,<-G3];refine .step<|h1 out<|h2 out ?_;rw[G3 rows,G3 rows];exact h
theorem wH:∀(n:Nat) (k:D) (d:Int) (rows todo:List D),FH f n k->∃W,W.map eH=fR f (n+1) k/\∀out,RunW f (rows++W) todo out->RunW f rows (todo++bF d (f k)) out
 | 0,k,d,rows,todo,h=>by have h:f k=[]:=h;refine⟨[],by show []=(f k).flatMap _;rw[h];rfl,λout q=>?_⟩;rw[h,show bF d []=[]from rfl,MJ];rw[MJ]at q;exact q
 |n+1,k,d,rows,todo,h=>Fj (wH n) (f k) d rows todo h
theorem nA{α:Type}{p q:α->Bool}{x:α}:∀{l:List α},(∀y,p y=a9->q y=a9)->x∈l->q x=a9->p x=b7->(l.filter p).length<(l.filter q).length
 |y::l,pq,hx,h1,h2=>by
  have le:∀l:List α,(l.filter p).length<=(l.filter q).length:=λl=>by
   induction l with
   |nil=>exact v6 _
   |cons z l ih =>
    rw[J3,J3];cases hp:p z with
    |true=>rw[pq z hp];simpa using ih
    |false=>rw[p4<|by simp];split;rw[C0];lia;exact ih
  rw[J3,J3];rcases A1.mp hx with rfl|hx;rw[h1,h2,o8 rfl,p4 (by simp),C0];have:=le l;lia;have ih:=nA pq hx h1 h2;cases hp:p y with
  |true=>rw[pq y hp];simpa using ih
  |false=>rw[p4<|by simp];split;rw[C0];lia;exact ih
theorem EM(h:N0 l):N0 ((bP rs l).map (·.2))/\∀p∈bP rs l,cN p.2=.non\/A0 u9 (cN p.2)<A0 u9 (v8 p.2):=by
 revert h;refine jo (P:=λl=>N0 l->N0 ((bP rs l).map (·.2))/\∀p∈bP rs l,cN p.2=.non\/A0 u9 (cN p.2)<A0 u9 (v8 p.2)) (λ_=>⟨.nil,(λ_ z=>nomatch z)⟩) (λl x m h=>?_) l;obtain⟨h1,_,g⟩:=List.pairwise_append.mp h;obtain⟨i,d⟩:=m h1;have t:=ka (rs:=rs) l;have c:∀p∈bP rs l,A0 u9 (v8 p.2)<A0 u9 (v8 x):=λp hp=>g _ (t.en p hp).2 x (by simp);have n:v8 x∉(bP rs l).map (·.1):=λz=>by obtain⟨p,hp,e⟩:=z5.mp z;have:=c p hp;rw[<-(t.en p hp).1,e]at this;exact Nc _ this
 rw[fA];unfold sM;split;rename_i hs;rw[wL n];refine⟨?_,λp hp=>?_⟩;rw[G1];refine List.pairwise_append.mpr ⟨i,Q2 _ _,λa j b k=>?_⟩;obtain⟨p,hp,rfl⟩:=z5.mp j;rw[I9.mp k];exact c p hp;rcases F0.mp hp with hp|hp;exact d p hp;rw[I9.mp hp];unfold oT at hs;rcases(O2 _ _).mp ((E4 _ _).mp hs).2 with q|q;exact .inl<|oT_ q;cases R:aB (bP rs l) (cN x) with
 |none=>rw[R]at q;cases q
 |some e=>have:=c _<|br R;obtain⟨f,_⟩:=FC t R;dsimp only at this;rw[<-f]at this;exact .inr this
 exact⟨i,d⟩
theorem FY(S:∀e∈es,v8 e≠.non)(g:∀e∈es,cN e=.non\/A0 u9 (cN e)<A0 u9 (v8 e)):∀(n:Nat) (k:D),k≠.non->(es.filter λe=>decide<|A0 u9 k<A0 u9 (v8 e)).length<=n->FH (aA r es) n k:=by
 have u:∀k,k≠.non->∀s∈aA r es k,∃e∈es,v8 e=s/\A0 u9 k<A0 u9 s:=λk a s hs=>by obtain⟨e,i,rfl,_,h2⟩:=cW.mp hs;refine⟨e,i,rfl,?_⟩;rcases g e i with q|q;exact p7 (h2.symm.trans q) a;rw[<-h2];exact q
 intro n;induction n with
 |zero=>intro k a h;refine List.eq_nil_iff_forall_not_mem.mpr λs hs=>?_;obtain⟨e,i,rfl,q⟩:=u k a s hs;have:e∈es.filter λe=>decide (A0 u9 k<A0 u9 (v8 e)):=E5.mpr ⟨i,dT_ q⟩;rw[List.eq_nil_of_length_eq_zero<|Nat.le_zero.mp h]at this;cases this
 |succ n c=>intro k a h s hs;obtain⟨e,i,rfl,q⟩:=u k a s hs;refine c _ (S e i) ?_;have:=nA (l:=es) (p:=λb=>decide<|A0 u9 (v8 e)<A0 u9 (v8 b)) (q:=λb=>decide<|A0 u9 k<A0 u9 (v8 b)) (x:=e) (λy Q=>dT_<|List.lt_trans q<|oT_ Q) i (dT_ q)<|dF_<|Nc _;lia
theorem CI(S:∀e∈es,v8 e≠.non)(g:∀e∈es,cN e=.non\/A0 u9 (cN e)<A0 u9 (v8 e))(h:es.length<=n+1):FH (aA r es) (n+1) .non:=λs hs=>by obtain⟨e,i,rfl,_⟩:=cW.mp hs;refine FY S g n _ (S e i) ?_;have:=nA (l:=es) (p:=λa=>decide<|A0 u9 (v8 e)<A0 u9 (v8 a)) (q:=λ_=>a9) (x:=e) (λ_ _=>rfl) i rfl<|dF_<|Nc _;rw[show (es.filter λ_=>a9)=es from QW.mpr λ_ _=>rfl]at this;lia
def fE:Nat->A2
 | 0=>λ_ _ _=>False
 |n+1=>λds M R=>∃(q:Nat) (r:b9) (k:D) (kvs:List (D×D)),ds=[.ref q,.str r,k]/\M[q]?=a7 (.dkt<|jW kvs)/\(k=.non\/St k)/\N0 (kvs.map (·.2))/\(kvs.map (·.1)).Nodup/\(∀p∈kvs,p.1=v8 p.2/\St p.1/\(cN p.2=.non\/St (cN p.2)))/\kvs.length<64/\FH (aA r (kvs.map (·.2))) n k/\(fR (aA r (kvs.map (·.2))) (n+1) k).length<=100/\R (.ref M.length) (M++[.lst (fR (aA r (kvs.map (·.2))) (n+1) k)])
theorem At:∀n,da (fE n) pZ
 | 0,_,_,_,h=>h.elim
 |n+1,ds,M,R,h=>by obtain⟨q,r,k,kvs,rfl,_⟩:=h;rfl
theorem Aj:∀ds M R,¬fE 0 ds M R:=λ_ _ _ h=>h
theorem FR(h:N0 l)(S:∀d∈l,St<|v8 d)(hp:ys.Perm (l.map v8))(i:Fb M ys):ys=l.map v8:=by
 have m:∀x∈l.map v8,St x:=λx c=>by obtain⟨d,g,rfl⟩:=z5.mp c;exact S d g
 have s:∀x∈ys,St x:=λx c=>m x<|hp.mem_iff.mp c;have lt:∀{a b:D},St a->St b->C9 M u9 a b=decide (A0 u9 a<A0 u9 b):=λ{a b} ha hb=>by refine qp ?_ ?_<|ha.cm hb;obtain⟨t,z,k,rfl⟩:=ha;rfl;obtain⟨t,z,k,rfl⟩:=hb;rfl
 refine List.Perm.eq_of_pairwise (le:=λa b=>¬A0 u9 b<A0 u9 a) (λx y c Q h1 h2=>?_) ?_ ?_ hp;have f:=s x c;have s:=m y Q;have o:C8 u9 x=a9:=by obtain⟨t,z,k,e⟩:=f;rw[e];rfl
 have j:C8 u9 y=a9:=by obtain⟨t,z,k,e⟩:=s;rw[e];rfl
 exact Br (M:=[]) o j (f.cm s)<|List.le_antisymm (List.not_lt.mp h1)<|List.not_lt.mp h2;refine(QY.mp i).imp λ{a b} ⟨ha,hb,q⟩=>?_;rw[lt (s b hb)<|s a ha]at q;exact of_decide_eq_false q;exact List.pairwise_map.mpr<|h.imp λq z=>Nc _<|List.lt_trans q z
theorem JZ(f:a=.non\/St a)(d:b=.non\/St b):(v9 M u9 a=a9/\v9 M u9 b=a9)/\u6 M u9 a b=decide (a=b):=by
 rcases f with rfl|f<;>rcases d with rfl|d
 exact⟨⟨rfl,rfl⟩,by rw[dT_ rfl];rfl⟩;obtain⟨t,z,k,rfl⟩:=d;exact⟨⟨rfl,rfl⟩,by rw[dF_ λz=>nomatch z];rfl⟩;obtain⟨t,z,k,rfl⟩:=f;exact⟨⟨rfl,rfl⟩,by rw[dF_ λz=>nomatch z];rfl⟩;exact⟨⟨f.ok,d.ok⟩,f.eq (n:=28) d⟩
theorem CD{f:D->List D}{l l':List D}(h:l.Sublist l'):(l.flatMap f).length<=(l'.flatMap f).length:=by
 induction h with
 |slnil=>exact v6 _
 |cons a _ i=>rw[N9,A3];lia
 |cons_cons a _ i=>rw[N9,N9,A3,A3];lia
def rL(n:Nat):u3:=bp<|ab 3
def rM(n:Nat):u3:=ay (kJ (bB<|u7 jq<|aa (ab 0) ag) (af 4)<|B9 (qS (au<|t7 B7 (t7 v5 (eP (ab 0)<|ab 4)<|dC<|.int 0)<|ab 1)<|au<|t7 B7 (t7 v5 (eP (ab 0)<|ab 4)<|dC<|.int 1)<|ab 2) (bc (t7 aN (t7 aN (ab 3)<|iA<|aa (ab 4) ag)<|u7 (fE n)<|aa (ab 0)<|aa (ab 1)<|aa (ab 4) ag) 3) aT)<|rL n
def uN(n:Nat):u3:=ay (bc (iA ag) 3)<|rM n
theorem Cj:∀n,C1 (fE<|n+1) 5 (uN n):=by
 rintro n ds M R ⟨q,r,k,kvs,rfl,H,T,t,X,m,I,J,wl,h⟩;simp only[uN];walk_at"dl";refine⟨B5 _,?_⟩;have g3:(M++[MO.lst []])[M.length]?=a7 (.lst []):=ad;have l:M <+: M++[MO.lst []]:=bi;simp only[rM];walk_at"dl";have Z:(jW kvs).map (·.1)=(kvs.map (·.2)).map v8:=by unfold jW;rw[D9,D9];exact NR λp hp=>(m p hp).1
 have A:∀e∈kvs.map (·.2),St (v8 e):=λe b=>by obtain⟨p,hp,rfl⟩:=z5.mp b;rw[<-(m p hp).1];exact(m p hp).2.1
 have W:∀x∈(kvs.map (·.2)).map v8,St x:=λx U=>by obtain⟨e,b,rfl⟩:=z5.mp U;exact A e b
 refine⟨jW kvs,ac H,by rw[Z];exact zx W (by rw[v7,v7];exact I),λys hp c=>?_⟩;rw[Z]at hp;obtain rfl:=FR t A hp c;clear hp c;have o:(M++[MO.lst []]++[MO.lst ((kvs.map (·.2)).map v8)])[(M++[MO.lst []]).length]?=a7 (.lst ((kvs.map (·.2)).map v8)):=ad;replace g3:=ac (a:=MO.lst ((kvs.map (·.2)).map v8)) g3;replace l:=l.trans (bi (mo:=MO.lst ((kvs.map (·.2)).map v8)));generalize M++[MO.lst []]++[MO.lst ((kvs.map (·.2)).map v8)]=B at o g3 l;generalize (M++[MO.lst []]).length=qy at o;refine⟨_,.inl o,λ_=>?_⟩;have G:∀i,((aA r ((kvs.map (·.2)).take i) k).flatMap λs=>s::fR (aA r (kvs.map (·.2))) n s).length<=(fR (aA r (kvs.map (·.2))) (n+1) k).length:=λi=>by show _<=((aA r (kvs.map (·.2)) k).flatMap λs=>s::fR (aA r (kvs.map (·.2))) n s).length;have:(aA r ((kvs.map (·.2)).take i) k).Sublist (aA r (kvs.map (·.2)) k):=((O3 _ _).filter _).map _;exact CD this
 refine aV (λi S M'=>∃j a,B <+: M'/\M'[j]?=a7 (.lst ((aA r ((kvs.map (·.2)).take i) k).flatMap λs=>s::fR (aA r (kvs.map (·.2))) n s))/\M.length<=j/\S=[a7<|.ref q,a7<|.str r,a7 k,a7<|.ref j,a]) ?_ ?_ ⟨_,_,Nd,g3,v6 _,rfl⟩;rintro S M' ⟨j,a,pM,g,w,rfl⟩;refine⟨.inl<|aH pM o,?_⟩;rw[v7,Mu]at g;simp only[rL];walk_at"dl";refine aY.chgL .refl h w g (l.trans pM)<|Bels.of λd P=>bG 2 d (uM (λk s hs=>?_) (n+1) k d P).pl;obtain⟨e,b,rfl,_⟩:=cW.mp hs;exact A e b;rintro i y S M' Q ⟨j,a,pM,g,w,rfl⟩ L f;refine⟨.inl<|aH pM o,?_⟩;rw[C7]at Q;obtain⟨e,b,rfl⟩:=MQ.mp Q;have O:(kvs.map (·.2)).take (i+1)=(kvs.map (·.2)).take i++[e]:=by rw[Mz,b];rfl
 have F:=G<|i+1;rw[O,tW]at f F;obtain⟨p,hp,rfl⟩:=z5.mp<|E9 b;obtain⟨K,Y,N⟩:=m p hp;have hs:=A _<|E9 b;have D:aB (jW kvs) (v8 p.2)=a7 (uG p.2):=by rw[dL,<-K,fi X hp];rfl
 obtain⟨ks,Z⟩:=hs.tup;have E:=hs.key;have V:(jW kvs).length<=1000:=by rw[kZ];lia
 rw[Z]at D E ⊢;walk_at"dl";have C:=aH (l.trans pM) H;refine⟨_,_,C,E,D,?_⟩;unfold uG;walk_at"dl";refine⟨⟨ak,ak⟩,?_⟩;rw[aJ];by_cases c:aW p.2=r;rw[beq_iff_eq.mpr c];refine ck ⟨_,_,C,E,D,?_⟩;unfold uG;walk_at"dl";obtain⟨o1,o2⟩:=JZ (M:=M') N T;refine⟨o1,?_⟩;rw[o2];by_cases u:cN p.2=k;rw[o8 ⟨c,u⟩,List.flatMap_append,N9,List.flatMap_nil,MJ]at f F;rw[dT_ u];have v:v8 p.2∈aA r (kvs.map (·.2)) k:=cW.mpr ⟨p.2,E9 b,rfl,c,u⟩;rw[A3,C0]at F;refine ck ⟨aq (by decide),_,_,ac g,ad,aq (by rw[F3];lia),?_⟩;rw[<-Z];cases n with
 |zero=>rw[show aA r (kvs.map (·.2)) k=[]from J]at v;cases v
 |succ n=>have wk:=Cq (n:=n+1) v;refine⟨q,r,v8 p.2,kvs,rfl,ac<|ac C,.inr hs,t,X,m,I,J _ v,by lia,?_⟩;refine⟨_,_,ac ad,ad,aq (by rw[A3,F3];lia),B6.now<|f _ _ ⟨_,_,((pM.trans bi).trans bi).trans<|bi.trans bi,?_,?_,rfl⟩⟩;rw[ad,G3];rfl;have:=(l.trans pM).length_le;simp only[A3];lia
 rw[p4 λz=>u z.2]at f;rw[dF_ u];exact bR<|B6.now<|f _ _ ⟨j,_,pM,g,w,rfl⟩;rw[p4 λz=>c z.1]at f;rw[beq_eq_false_iff_ne.mpr c];exact bR<|B6.now<|f _ _ ⟨j,_,pM,g,w,rfl⟩
theorem Bx(T:Tops P w K mg base)(n:Nat)(C:w6 P w K mg base (0+n) "_law_walk" pZ (fE n)):TopB mg B_ C_->List.Nodup (["_law_counting_here","_law_room","_law_under","_law_found","_law_stamp"]:List b9)->DerT P w K mg base (0+n) "_law_walk" ["_law_counting_here","_law_room","_law_under","_law_found","_law_stamp"] (top 55) (uN n):=by walk_at"dv"
theorem wO(T:Tops P w K mg base):∀n,w6 P w K mg base (0+n) "_law_walk" pZ (fE n)
 | 0=>w6.never T.f_walkL Aj
 |n+1=>w6.byD (N:=["_law_counting_here","_law_room","_law_under","_law_found","_law_stamp"]) T.b T.f_walkL (by walk_at"sc") (At<|n+1) (Bx T n<|wO T n)<|Cj n
def nJ:A2:=λds M R=>∃(ps:List (b9×Int)) (a:List (b9×List b9)) (log:List D) (n:b9) (e s:D) (m:Nat),ds=[.tup log,.str n,v8 e,.ref m]/\(∀d∈log,aE ps a d)/\log.length<=1000/\aE ps a e/\bA e=u4 "say"/\0<=uE e/\M[m]?=a7 (.lst [.str<|aW e,.str<|bQ e,s,Af e])/\R (.bl<|gf log n e) M
theorem Dy:da nJ zZ:=by rintro ds M R ⟨ps,a,log,n,e,s,m,rfl,_⟩;rfl
theorem xD(X:(ws.map (·.1)).Nodup)(y:0<=num):∃c:Int,(aB (dictOf<|ws.map λp=>(p.1,D.int p.2)) h).getD (.int 0)=.int c/\cr ws h num=decide (c > num):=by
 have C:((ws.map λp=>(p.1,D.int p.2)).map (·.1)).Nodup:=by rw[D9];exact X
 rw[nC _ C];unfold cr;cases a:ws.find? λp=>decide (p.1=h) with
 |none =>
  refine⟨0,?_,(dF_<|by lia).symm⟩;cases R:aB (ws.map λp=>(p.1,D.int p.2)) h with
  |none=>rfl
  |some v=>obtain⟨p,hp,e⟩:=z5.mp<|br R;have:=P8.mp a p hp;injection e with e _;exact p7 (dT_ e) this
 |some p =>
  have hp:=RW a;have e:p.1=h:=by have:=Ox a;exact oT_ this
  have:=fi C<|Mv (f:=λp=>(p.1,D.int p.2)) hp;dsimp only at this;rw[<-e,this];exact⟨p.2,rfl,rfl⟩
noncomputable def Ce(name:b9)(e d:D):Bool:=decide (bQ d=name)&&((decide (bA d=u4 "seen")&&decide (nV d=v8 e))||((decide (bA d=u4 "read")&&decide (aW d=aW e))&&cr (Cs<|cN d) (nw e) (uE e)))
theorem CM:gf log name e=(decide (bQ e=name)||log.any (Ce name e)):=by
 unfold gf;congr 1;rw[PQ,O2,decide_eq_true_iff,MK,MK];unfold jJ pJ jT kinds;simp only[z5,List.mem_filter,p8];constructor;rintro(⟨d,⟨⟨h1,h2⟩,b⟩,a⟩|⟨v,⟨d,⟨⟨⟨h1,h2⟩,b⟩,a⟩,rfl⟩,w⟩);exact⟨d,h1,by simp[Ce,h2,b,a]⟩;exact⟨d,h1,by simp[Ce,h2,b,a,w]⟩;rintro⟨d,h1,h⟩;simp only[Ce,E4,O2,p8]at h;rcases h with⟨b,⟨h2,a⟩|⟨⟨h2,a⟩,w⟩⟩
 exact .inl ⟨d,⟨⟨h1,h2⟩,b⟩,a⟩;exact .inr ⟨_,⟨d,⟨⟨⟨h1,h2⟩,b⟩,a⟩,rfl⟩,w⟩
def pR:u3:=bp<|dC<|.bl b7
def pS:u3:=B9 (qS (au<|t7 B7 (t7 v5 (ab 5)<|dC<|.int 0)<|ab 1)<|qS (au<|t7 B7 (t7 v5 (ab 7)<|dC<|.int 0)<|dC<|.str "read")<|au<|t7 B7 (t7 v5 (ab 7)<|dC<|.int 1)<|t7 v5 (ab 3)<|dC<|.int 0) (B9 (au<|t7 Nj (Pl oV (u7 sZ<|aa (t7 v5 (ab 7)<|dC<|.int 2) ag)<|aa (t7 v5 (ab 2)<|dC<|.int 1)<|aa (dC<|.int 0) ag)<|t7 v5 (ab 3)<|dC<|.int 3) (bp<|dC<|.bl a9) aT) aT
def wg:u3:=ay (kJ (bB<|ab 0) (gu 4<|aG (af 4)<|aG (af 5)<|aG (af 6)<|aG (af 7) gv)<|ay (B9 (qS (au<|t7 B7 (t7 v5 (ab 5)<|dC<|.int 0)<|ab 1)<|qS (au<|t7 B7 (t7 v5 (ab 7)<|dC<|.int 0)<|dC<|.str "seen")<|au<|t7 B7 (t7 v5 (ab 7)<|dC<|.int 1)<|ab 2) (bp<|dC<|.bl a9) aT)<|pS)<|pR
def Ff:u3:=ay (B9 (au<|t7 B7 (t7 v5 (ab 3)<|dC<|.int 1)<|ab 1) (bp<|dC<|.bl a9) aT)<|wg
theorem FM:C1 nJ 8 Ff:=by
 rintro ds M R ⟨ps,rs,log,n,e,s,m,rfl,hd,hl,Z,ke,nn,X,h⟩;rw[CM]at h;have H:=Z.st;obtain⟨t,z,k,ai,r,u,s0,U,_⟩:=dI Z ke;have e1:v8 e=.tup [.int t,.tup [.str z,.int k]]:=by rw[U];rfl
 have e2:nw e=.tup [.str z,.int k]:=by rw[U];rfl
 have e5:Af e=.int (uE e):=by rw[U];rfl
 simp only[Ff];walk_at"dl";refine⟨_,.inl X,?_⟩;rw[MZ];refine⟨⟨ak,ak⟩,?_⟩;rw[aJ];by_cases K:bQ e=n;rw[beq_iff_eq.mpr K];rw[dT_ K,Bool.true_or]at h;exact ck<|aY.now h;rw[beq_eq_false_iff_ne.mpr K];rw[dF_ K,PD]at h;refine bR ?_;simp only[wg];walk_at"dl";intro _;refine aV (λi S M'=>∃a b c d,M <+: M'/\(log.take i).any (Ce n e)=b7/\S=[a7<|.tup log,a7<|.str n,a7<|v8 e,a7<|.ref m,a,b,c,d]) ?_ ?_ ⟨_,_,_,_,Nd,rfl,rfl⟩;rintro S M' ⟨a,b,c,d,pM,P,rfl⟩;rw[Mu]at P;rw[P]at h;refine⟨trivial,?_⟩;simp only[pR];walk_at"dl";exact aY.bl h pM;rintro i y S M' hy ⟨a,b,c,d,pM,P,rfl⟩ G E;have hm:=E9 hy;have et:log.take (i+1)=log.take i++[y]:=by rw[Mz,hy];rfl
 have J:Ce n e y=a9->R (.bl a9) M:=λq=>by rw[MK.mpr ⟨y,hm,q⟩]at h;exact h
 have Q:Ce n e y=b7->(log.take<|i+1).any (Ce n e)=b7:=λq=>by rw[et,List.any_append,P,PJ,q];rfl
 have C:=aH pM X;have dy:=hd y hm;refine⟨trivial,?_⟩;obtain⟨t',o,I,g,x,ds,rfl,h1,h2,hp,Y⟩:=id dy;walk_at"dl";have l:Ce n e (.tup [.int t',.tup [.str o,.int I],.int g,.tup<|.str x::ds])=(decide (o=n)&&((decide (x=u4 "seen")&&decide (nV (.tup [.int t',.tup [.str o,.int I],.int g,.tup<|.str x::ds])=v8 e))||((decide (x=u4 "read")&&decide (aW (.tup [.int t',.tup [.str o,.int I],.int g,.tup<|.str x::ds])=aW e))&&cr (Cs<|cN<|.tup [.int t',.tup [.str o,.int I],.int g,.tup<|.str x::ds]) (nw e) (uE e)))):=rfl;have sr:u4 "seen"≠u4 "read":=by decide +kernel
 have v:(o=n->x=u4 "seen"->nV (.tup [.int t',.tup [.str o,.int I],.int g,.tup<|.str x::ds])≠v8 e)->pS ⟨B6 M G,aY M R,λS' M'=>pR (EE M R) S' M',B6 M G⟩ [a7<|.tup log,a7<|.str n,a7<|v8 e,a7<|.ref m,a7<|.int t',a7<|.tup [.str o,.int I],a7<|.int g,a7<|.tup<|.str x::ds] M':=λns=>by
  have s0:o=n->(decide (x=u4 "seen")&&decide (nV (.tup [.int t',.tup [.str o,.int I],.int g,.tup<|.str x::ds])=v8 e))=b7:=λq=>by by_cases c:x=u4 "seen";rw[dF_<|ns q c,PL];rw[dF_ c];rfl
  simp only[pS];walk_at"dl";refine⟨⟨ak,ak⟩,?_⟩;rw[aJ,gD];by_cases A:o=n;rw[dT_ A]at l ⊢;rw[s0 A,PD,OX]at l;refine ck ⟨⟨ak,ak⟩,?_⟩;rw[aJ,gD];by_cases T:x=u4 "read";rw[dT_ T];subst T;obtain⟨r',vs,rfl,hs,rfl,q1,q2,q3⟩:=Y.read rfl;have f:Ce n e (.tup [.int t',.tup [.str o,.int I],.int g,.tup [.str<|u4 "read",.str r',.tup<|nL hs]])=(decide (r'=aW e)&&cr hs (nw e) (uE e)):=by rw[l,dT_ rfl,OX];show (decide (r'=aW e)&&cr (Cs<|.tup<|nL hs) (nw e) (uE e))=_;rw[vX]
  refine ck ?_;rw[MZ];refine⟨_,.inl C,?_⟩;rw[OL];refine⟨⟨ak,ak⟩,?_⟩;rw[aJ,gD];by_cases W:r'=aW e;rw[dT_ W]at f ⊢;rw[OX]at f;refine ck ?_;obtain⟨B,w1,w2⟩:=xD (h:=nw e) q3 nn;rw[w2]at f;rw[e2]at w1;have e3:atI [D.str<|aW e,.str<|bQ e,s,Af e] 3=a7 (.int<|uE e):=(ar (j:=3) rfl).trans<|t4 a7 e5;rw[e1]at E ⊢;simp only[Qt,MZ];refine⟨hs.map λp=>(p.1,.int p.2),by unfold nL;rw[D9];rfl,λp hp=>?_,by rw[v7];lia,⟨_,ad⟩,_,ad,rfl,?_⟩;obtain⟨w,V,rfl⟩:=z5.mp hp;obtain⟨x,y,e4⟩:=q1 w V;dsimp only;rw[e4];exact⟨rfl,rfl⟩;rw[w1];refine⟨_,.inl<|ac C,?_⟩;rw[e3];by_cases O:B > uE e;rw[dT_ O]at f;show if decide (uE e<B)=a9 then _ else _
  rw[dT_<|show uE e<B from O];exact ck<|aY.bl (J f)<|pM.trans bi;rw[dF_ O]at f;show if decide (uE e<B)=a9 then _ else _
  rw[dF_<|show ¬uE e<B from O];exact bR<|B6.now<|E _ _ ⟨_,_,_,_,pM.trans bi,Q f,rfl⟩;rw[dF_ W]at f ⊢;exact bR<|B6.now<|E _ _ ⟨_,_,_,_,pM,Q f,rfl⟩;rw[dF_ T]at l ⊢;exact bR<|B6.now<|E _ _ ⟨_,_,_,_,pM,Q l,rfl⟩;rw[dF_ A]at l ⊢;exact bR<|B6.now<|E _ _ ⟨_,_,_,_,pM,Q l,rfl⟩
 refine⟨trivial,⟨ak,ak⟩,?_⟩;rw[aJ,gD];by_cases A:o=n;rw[dT_ A]at l ⊢;refine ck ⟨⟨ak,ak⟩,?_⟩;rw[aJ,gD];by_cases L:x=u4 "seen";rw[dT_ L]at l ⊢;obtain⟨m',rfl,F⟩:=Y.seen L;refine ck ?_;rw[MZ];refine⟨⟨F.ok,H.ok⟩,?_⟩;rw[show u9=28+2 from rfl,F.eq H];by_cases N:m'=v8 e;rw[dT_ N];refine ck<|aY.bl (J ?_) pM;rw[l,show decide (nV (D.tup [.int t',.tup [.str o,.int I],.int g,.tup [.str x,m']])=v8 e)=a9 from dT_ N];rfl;rw[dF_ N];exact bR<|v λ_ _=>N;rw[dF_ L];exact bR<|v λ_ q=>p7 q L;rw[dF_ A];exact bR<|v λq=>p7 q A
theorem GC(T:Tops P w K mg base):w6 P w K mg base 1 "_law_read" zZ nJ:=w6.byD (N:=["_law_log_here","_law_name","_law_stamp","_law_told_here","_law_time","_law_hand","_law_number","_law_act_here"]) T.b T.f_read (by walk_at"sc") Dy (by walk_at"dv") FM
noncomputable def Oi:Nat->D->Bool
 | 0,_=>b7
 |_+1,.non=>a9
 |_+1,.int _=>a9
 |_+1,.str _=>a9
 |n+1,.tup xs=>decide (xs.length<=99)&&xs.all (Oi n)
 |_,_=>b7
def Me(M:u8)(n:Nat)(a b:D):Prop:=(a=b/\Oi n a=a9)\/∃(i j m:Nat) (xs:List D),n=m+1/\a=.ref i/\b=.ref j/\am M i xs/\am M j xs/\xs.length<=1000/\xs.all (Oi m)=a9
def cZ:Nat->A2:=λn ds M R=>∃a b,ds=[a,b]/\Me M n a b/\R (.bl a9) M
theorem Az:∀n ds M R,cZ n ds M R->ds.length=["_law_told_here","_law_due"].length:=by rintro n ds M R ⟨a,b,rfl,_⟩;rfl
theorem Ak:∀ds M R,¬cZ 0 ds M R:=by
 rintro ds M R ⟨a,b,rfl,h,_⟩;rcases h with⟨rfl,h⟩|⟨i,j,m,xs,h,_⟩
 cases a<;>cases h;cases h
def mn(n:Nat):u3:=bp<|qR (t7 B7 (u7 kD<|aa (ab 0) ag)<|u7 kD<|aa (ab 1) ag)<|u7 IF<|aa (F6 2 [] (dZip<|aa (ab 0)<|aa (ab 1) ag) (gu 2<|aG (af 0)<|aG (af 1) gv) oh<|u7 (cZ n)<|aa (ab 0)<|aa (ab 1) ag) ag
def mq(n:Nat):u3:=ay (B9 (qS (au<|u7 xU<|aa (ab 1)<|aa (dC<|.ty "tuple") ag)<|BC<|au<|u7 xU<|aa (ab 0)<|aa (dC<|.ty "tuple") ag) (bp<|dC<|.bl b7) aT)<|mn n
def mv(n:Nat):u3:=ay (B9 (qS (au<|u7 xU<|aa (ab 1)<|aa (dC<|.ty "list") ag)<|BC<|au<|u7 xU<|aa (ab 0)<|aa (dC<|.ty "list") ag) (bp<|dC<|.bl b7) aT)<|mq n
def jn(n:Nat):u3:=ay (B9 (au<|u7 xU<|aa (ab 1)<|aa (dC<|.ty "int") ag) (bp<|qR (u7 xU<|aa (ab 0)<|aa (dC<|.ty "int") ag)<|qR (EI<|u7 xU<|aa (ab 0)<|aa (dC<|.ty "bool") ag)<|t7 B7 (ab 0)<|ab 1) aT)<|mv n
def fY(n:Nat):u3:=ay (B9 (au<|u7 xU<|aa (ab 1)<|aa (dC<|.ty "str") ag) (bp<|qR (u7 xU<|aa (ab 0)<|aa (dC<|.ty "str") ag)<|t7 B7 (ab 0)<|ab 1) aT)<|jn n
def iC(n:Nat):u3:=ay (B9 (au<|t7 NH (ab 1)<|dC .non) (bp<|t7 NH (ab 0)<|dC .non) aT)<|fY n
theorem Cp:∀n ds M R,cZ (n+1) ds M R->iC n (EE M R) (eO ["_law_told_here","_law_due"] ds) M:=by
 rintro n ds M R ⟨a,b,rfl,hs,h⟩;have f:∀(xs:List D) (G:u8->Prop),G M->xs.length<=1000->xs.all (Oi n)=a9->nE G (gu 2<|aG (af 0)<|aG (af 1) gv) oh (u7 (cZ n)<|aa (ab 0)<|aa (ab 1) ag) (λd o=>IF [d] o<|aY M R) (L2.zipD xs xs) [] [a8,a8] M:=by
  intro xs G C g ok;refine bu (λ_=>.bl a9) (λS=>∃c d,S=[c,d]) C _ _ _ (λy Q S q=>?_) ⟨_,_,rfl⟩ ?_ ?_;obtain⟨c,d,rfl⟩:=q;obtain⟨x,u,rfl⟩:∃x,x∈xs/\y=.tup [x,x]:=by
   obtain⟨i,hi⟩:=MP Q;unfold L2.zipD at hi;rw[C7]at hi;cases e:(xs.zip xs)[i]? with
   |none=>rw[e]at hi;cases hi
   |some p=>rw[e]at hi;obtain⟨t,l⟩:=List.getElem?_zip_eq_some.mp e;have:p.1=p.2:=C3<|t.symm.trans l;refine⟨p.1,E9 t,?_⟩;rw[<-C3 hi];show D.tup [p.1,p.2]=_;rw[<-‹p.1=p.2›]
  refine⟨[a7 x,a7 x],⟨_,_,rfl⟩,λY r=>?_⟩;walk_at"dl";exact⟨trivial,x,x,rfl,.inl ⟨rfl,E8.mp ok x u⟩,r⟩;rw[D6];unfold L2.zipD;rw[v7,QB];exact aq (by lia);rw[H9];obtain⟨k,s⟩:∃k,(L2.zipD xs xs).map (λ_=>D.bl a9)=(N6 k a9).map D.bl:=⟨(L2.zipD xs xs).length,by rw[List.map_const',List.map_replicate]⟩
  rw[s];refine⟨N6 k a9,ah,?_⟩;rw[show (N6 k a9).all id=a9 by simp];exact aY.bl h bi
 rcases hs with⟨rfl,ok⟩|⟨i,j,m,xs,e,rfl,rfl,hi,L,g,ok⟩
 cases a with
 |non=>simp only[iC];walk_at"dl";exact aY.now h
 |int k=>simp only[iC,fY,jn];walk_at"dl";simp(config:={ decide:=a9 }) only[and_self,true_and,↓reduceIte,u6,v9,t5];exact⟨rfl,aY.now h⟩
 |str k=>simp only[iC,fY];walk_at"dl";simp(config:={ decide:=a9 }) only[and_self,true_and,↓reduceIte,u6,v9,t5];exact⟨rfl,aY.now h⟩
 |tup xs=>have G:(decide (xs.length<=99)&&xs.all (Oi n))=a9:=ok;rw[E4,p8]at G;simp only[iC,fY,jn,mv,mq,mn];walk_at"dl";simp(config:={ decide:=a9 }) only[and_self,true_and,↓reduceIte,v9,t5,show ∀k:Int,u6 M u9 (.int k) (.int k)=a9 from λk=>by simp[u6],MI,A7];exact⟨rfl,xs,xs,_,_,⟨rfl,rfl⟩,⟨rfl,rfl⟩,f xs _ ⟨trivial,trivial⟩ (by lia) G.2⟩
 |_=>cases ok
 have:m=n:=by lia
 subst this;simp only[iC,fY,jn,mv,mq,mn];have t:=hi.ty;have l:=L.ty;simp only[K7]at t l;walk_at"dl";simp(config:={ decide:=a9 }) only[t,l,and_self,true_and,↓reduceIte];refine⟨xs,hi,xs,L,⟨rfl,rfl⟩,?_⟩;rw[show u6 M u9 (.int (xs.length:Int)) (.int (xs.length:Int))=a9 by simp[u6]];simp only[MI,A7,↓reduceIte];exact⟨xs,xs,_,_,⟨hi,rfl⟩,⟨L,rfl⟩,f xs _ ⟨hi,L⟩ g ok⟩
theorem By(T:Tops P w K mg base)(n:Nat)(C:w6 P w K mg base (0+n) "_law_alike" vc (cZ n)):TopB mg B_ C_->List.Nodup (["_law_told_here","_law_due"]:List b9)->DerT P w K mg base (0+n) "_law_alike" ["_law_told_here","_law_due"] (top 57) (iC n):=by walk_at"dv"
theorem wQ(T:Tops P w K mg base):∀n,w6 P w K mg base (0+n) "_law_alike" vc (cZ n)
 | 0=>w6.never T.f_alike Ak
 |n+1=>w6.byD (N:=["_law_told_here","_law_due"]) T.b T.f_alike (by walk_at"sc") (Az<|n+1) (By T n<|wQ T n)<|Cp n
theorem GP:da GT Gy:=by rintro ds M R ⟨ns,m,_,_,rfl,_⟩;rfl
theorem AZ(hf:HouseF ps rs):Rw ps/\1<=(bg ps).length/\(bg ps).length<=12:=by
 have f:Rw ps:=⟨hf.len.2,λq h=>⟨by have:=hf.many q h;lia,(hf.many q h).2⟩⟩
 have n:=pp f.2;refine⟨f,?_,by have:=f.1;lia⟩
 match ps,hf with
 | [],hf=>have:=hf.len.1;simp at this
 |p::ps,hf=>have:=(hf.many p<|by simp).1;rw[bg,N9,A3,iQ];lia
theorem Bt(p:M <+: B)(h:rA M n kvs):rA B n kvs:=by
 rcases h with h|⟨e,h⟩
 exact .inl<|aH p h;exact .inr ⟨e,aH p h⟩
theorem El(h:(ps.map (·.1)).Nodup):(bg ps).Nodup:=by unfold bg;rw[Of,List.pairwise_flatMap];refine⟨λp _=>?_,?_⟩;unfold cR ie;rw[D9,P4];refine(Of.mp QI).imp λ{a b} hne e=>hne ?_;have e:D.tup [.str p.1,.int<|0+(a:Int)]=.tup [.str p.1,.int<|0+(b:Int)]:=e;injection e with e;injection e with _ e;injection e with e;injection e with e;lia;refine(List.pairwise_map.mp<|Of.mp h).imp λ{a b} hne x hx y hy e=>hne ?_;unfold cR at hx hy;obtain⟨i,_,rfl⟩:=z5.mp hx;obtain⟨j,_,c⟩:=z5.mp hy;rw[<-c]at e;injection e with e;injection e with e _;injection e with e
theorem sW(hi:am M i xs)(hj:am M j xs)(h:∀x∈xs,v9 M 29 x=a9/\u6 M 29 x x=a9):(v9 M u9 (.ref i)=a9/\v9 M u9 (.ref j)=a9)/\u6 M u9 (.ref i) (.ref j)=a9:=⟨⟨qj (n:=29) hi λx a=>(h x a).1,qj (n:=29) hj λx a=>(h x a).1⟩,(xh (n:=29) hi hj).trans<|qI λx a=>(h x a).2⟩
theorem Ah:∀{ys:List D},(∀s∈ys,(N s).map v8=if (A s&&B s)=a9 then a7 s else a8)->(ys.filterMap N).map v8=(ys.filter A).filter B
 | [],_=>rfl
 |y::ys,h=>by
  have ih:=Ah (N:=N) (A:=A) (B:=B) (ys:=ys) λs hs=>h s<|C4 _ hs;have hy:=h y D3;rw[NT,J3];cases ha:A y with
  |false=>rw[ha,PN,p4<|by decide]at hy;rw[Option.map_eq_none_iff.mp hy,p4<|by decide];exact ih
  |true =>
   rw[o8 rfl,J3];cases hb:B y with
   |false=>rw[ha,hb,p4<|by decide]at hy;rw[Option.map_eq_none_iff.mp hy,p4<|by decide];exact ih
   |true=>rw[ha,hb,o8<|by decide]at hy;obtain⟨e,h1,h2⟩:=MQ.mp hy;rw[h1,o8 rfl,C2,h2,ih]
theorem wW:∀{rs:List (b9×List b9)},(rs.map (·.1)).Nodup->r∈rs->nM rs r.1=r.2
 |p::rs,nd,h=>by rw[na];rw[C2,J7]at nd;rcases A1.mp h with rfl|h;rw[o8 rfl];have ne:p.1≠r.1:=λz=>nd.1 (by rw[z];exact Mv h);rw[p4 ne];exact wW nd.2 h
theorem BE:cutD (x::xs) a8 (a7 1)=[x]:=by unfold cutD;rw[HT.sIx_none,show (1:Int)=((1:Nat):Int)from rfl,HT.sIx_nat,C0,Nat.min_eq_left<|by lia];rfl
def ww:u3:=bp<|t7 B7 (u7 xT<|aa (ab 2) ag)<|ab 5
def wx:u3:=B9 (NI (BC<|au<|u7 (cZ 5)<|aa (iA<|aa (ab 12) ag)<|aa (Oj (t7 aN (ab 10)<|iA<|aa (dC .non) ag) jZ<|uh<|dC<|.int 1) ag)<|au<|t7 Qr (u7 db<|aa (ab 1)<|aa (ab 2)<|aa (ab 9)<|aa (ab 6) ag)<|ab 10) (bp<|dC<|.bl b7) aT
def wy:u3:=ay (bc (u7 dR<|aa (ab 1)<|aa (ab 2)<|aa (ab 9)<|aa (ab 6) ag) 12)<|wx
def zc:u3:=ay (iU<|dMl0 jr<|ab 11)<|wy
def zd:u3:=ay (B9 (BC<|au<|u7 (cZ 5)<|aa (ab 11)<|aa (ab 10) ag) (bp<|dC<|.bl b7) aT)<|zc
def uP:u3:=ay (bc (u7 db<|aa (ab 1)<|aa (ab 2)<|aa (ab 9)<|aa (ab 6) ag) 11)<|zd
def ze:u3:=kJ (bB<|ab 7) (af 9)<|ay (fQ 1 [2,9,4] (bB<|ab 8) (af 0) (BC<|au<|u7 nJ<|aa (ab 1)<|aa (ab 2)<|aa (ab 0)<|aa (EH (ab 3)<|ab 0) ag) (ab 0) 10)<|uP
def zf:u3:=ay (kJ (bB<|t7 v5 (ab 1)<|dC<|.int 1) (gu 2<|aG (af 6)<|aG (af 7) gv)<|ay (fQ 1 [4] (bB<|u7 (fE 64)<|aa (ab 3)<|aa (ab 6)<|aa (dC .non) ag) (af 0) (au<|t7 qInQ (ab 0)<|ab 1) (ab 0) 8)<|ze)<|ww
def zg:u3:=ay (bc (u7 xT<|aa (ab 2) ag) 5)<|zf
def zh:u3:=ay (bc (u7 lz<|aa (ab 1)<|aa (ab 2) ag) 4)<|zg
def zi:u3:=ay (bc (u7 dF<|aa (ab 1)<|aa (ab 2) ag) 3)<|zh
def zj:u3:=ay (bc (u7 xr<|aa (ab 1)<|aa (u7 hW<|aa (ab 0)<|aa (dC<|.int 1)<|aa (dC<|.int 40) ag)<|aa (u7 lB<|aa (ab 1) ag) ag) 2)<|zi
def IS:u3:=ay (bc (u7 lA<|aa (u7 eQ<|aa (ab 0)<|aa (dC<|.int 0) ag) ag) 1)<|zj
theorem DB(v:∀d∈log,aE ps rs d)(nn:∀d∈log,0<=uE d)(ll:log.length<=40)(n:∀s,aB (aF rs log) s=a8/\aB kvs s=a8\/∃e m t,aB (aF rs log) s=a7 e/\aB kvs s=a7 (.ref m)/\B[m]?=a7 (.lst [.str<|aW e,.str<|bQ e,t,Af e]))(gk:rA B n3 kvs)(pM:B <+: M')(R:M'[q8]?=a7 (.lst W2))(J:r∈rs.map (·.1))(I:name∈nM rs r)(l:(nU rs log name r).map v8=W2.filter λs=>!gf log name ((aB (aF rs log) s).getD .non))(D:∀x∈W2,St x/\(aB kvs x).isSome=a9)(O:W2.length<=40)(hG:∀a b c d M1,M' <+: M1->E.nx [x0,a7<|aC ps rs,a7<|.tup log,a7<|.ref n2,a7<|.ref n3,a7<|.ref q5,a7<|.str r,a7<|.tup<|(nM rs r).map .str,a7<|.ref q8,a,b,c,d] M1):(ay (fQ 1 [2,9,4] (bB<|ab 8) (af 0) (BC<|au<|u7 nJ<|aa (ab 1)<|aa (ab 2)<|aa (ab 0)<|aa (EH (ab 3)<|ab 0) ag) (ab 0) 10)<|uP) E [x0,a7<|aC ps rs,a7<|.tup log,a7<|.ref n2,a7<|.ref n3,a7<|.ref q5,a7<|.str r,a7<|.tup<|(nM rs r).map .str,a7<|.ref q8,a7<|.str name,y10,y11,y12] M':=by
 have tb:=bo (rs:=rs) (log:=log);walk_at"dl";refine⟨_,.inl R,λ_=>?_⟩;refine ba (λs=>!gf log name ((aB (aF rs log) s).getD .non)) id (λS=>∃a,S=[a,a7<|.tup log,a7<|.str name,a7<|.ref n3]) (.inl R) _ _ _ ?_ ⟨_,rfl⟩ (by rw[D6];exact aq<|by lia) ?_;rintro s hs S ⟨a,rfl⟩;refine⟨[a7 s,a7<|.tup log,a7<|.str name,a7<|.ref n3],⟨_,rfl⟩,λY Z h=>?_⟩;obtain⟨ss,X⟩:=D s hs;have U:=ss.key;rcases n s with⟨h1,h2⟩|⟨e,m,t,h1,h2,h3⟩
 rw[h2]at X;cases X;have hc:=(eI.mp<|br h1).1;obtain⟨F,Q⟩:=tb.en _ hc;dsimp only at F Q;have K:=bz Q;rw[h1,PR]at h;obtain⟨ks,ek⟩:=ss.tup;rw[ek]at U h2 F h ⊢;walk_at"dl";refine⟨kvs,_,Bt pM gk,U,h2,ps,rs,log,name,e,t,m,by rw[F],v,by lia,v e K.1,K.2,nn e K.1,aH pM h3,?_⟩;exact h;rw[H9,NK,<-l];have N:∀x∈(nU rs log name r).map v8,St x:=λx p=>by rw[l]at p;exact(D x (E5.mp p).1).1
 have lk:((nU rs log name r).map v8).length<=40:=by rw[l];exact F4 (Mn _ _) O
 generalize H:(nU rs log name r).map v8=L at N lk;have g:(M'++[MO.lst L])[M'.length]?=a7 (.lst L):=ad;have A:M' <+: M'++[MO.lst L]:=bi;generalize M'++[MO.lst L]=u at g A;generalize M'.length=q at g;simp only[uP];walk_at"dl";refine⟨ps,rs,log,name,r,rfl,J,I,v,by lia,λ_ _=>?_⟩;rw[H];have f:(u++[MO.lst L])[u.length]?=a7 (.lst L):=ad;have y:q≠u.length:=by have:=aK g;lia
 have w:=A.length_le;replace g:=ac (a:=MO.lst L) g;replace A:=A.trans<|bi (mo:=MO.lst L);generalize u++[MO.lst L]=M4 at g f A;generalize u.length=C at f y w;have V:L.all (Oi 4)=a9:=E8.mpr λx p=>by obtain⟨t,z,k,rfl⟩:=N x p;rfl
 simp only[zd];walk_at"dl";refine⟨_,_,rfl,.inr ⟨C,q,4,L,rfl,rfl,rfl,.inl f,.inl g,by lia,V⟩,?_⟩;walk_at"ifs";simp only[zc];walk_at"dl";refine⟨⟨_,.inl f⟩,_,f,?_⟩;replace g:=aO (x:=.lst L.reverse) y g;replace A:=bx (x:=.lst L.reverse) A w;generalize M4.set C (.lst L.reverse)=o at g A;simp only[wy];walk_at"dl";refine⟨ps,rs,log,name,r,rfl,J,I,v,by lia,?_⟩;rw[H];simp only[wx];walk_at"dl";refine⟨aq (by decide),aq (by decide),_,_,ac<|ac g,ad,aq (by rw[F3];lia),_,ah,?_⟩;have ec:cutD (L++[.non]) a8 (a7 1)=[L.headD .non]:=by
  cases L with
  |nil=>exact BE
  |cons x L=>rw[List.cons_append];exact BE
 rw[ec];have T:(o++[MO.lst [L.headD .non]]++[MO.lst [.non]]++[MO.lst<|L++[.non]]++[MO.lst [L.headD .non]])[o.length]?=a7 (.lst [L.headD .non]):=ac<|ac<|ac ad;have G:(o++[MO.lst [L.headD .non]]++[MO.lst [.non]]++[MO.lst<|L++[.non]]++[MO.lst [L.headD .non]])[(o++[MO.lst [L.headD .non]]++[MO.lst [.non]]++[MO.lst<|L++[.non]]).length]?=a7 (.lst [L.headD .non]):=ad;replace g:=ac (a:=MO.lst [L.headD .non])<|ac (a:=MO.lst<|L++[.non])<|ac (a:=MO.lst [.non])<|ac (a:=MO.lst [L.headD .non]) g;replace A:=((A.trans<|bi (mo:=MO.lst [L.headD .non])).trans<|bi (mo:=MO.lst [.non])).trans<|(bi (mo:=MO.lst<|L++[.non])).trans<|bi (mo:=MO.lst [L.headD .non]);generalize o++[MO.lst [L.headD .non]]++[MO.lst [.non]]++[MO.lst<|L++[.non]]++[MO.lst [L.headD .non]]=P at T G g A;generalize (o++[MO.lst [L.headD .non]]++[MO.lst [.non]]++[MO.lst<|L++[.non]]).length=qb at G;have hS:Oi 4 (L.headD .non)=a9:=by
  cases L with
  |nil=>rfl
  |cons x L=>exact E8.mp V x D3
 refine⟨_,_,rfl,.inr ⟨_,_,4,[L.headD .non],rfl,rfl,rfl,.inl T,.inl G,by rw[F3];decide,by rw[Mq,hS];rfl⟩,?_⟩;walk_at"ifs";refine⟨ps,rs,log,name,r,rfl,J,I,v,by lia,λ_ _=>?_⟩;rw[H];have W:=sW (M:=P++[MO.lst L]) (i:=P.length) (j:=q) (xs:=L) ah (.inl<|ac g) λx p=>wN 2 29 x (by decide) (N x p).pl;refine⟨W.1,?_⟩;rw[W.2];exact bR<|hG _ _ _ _ _<|A.trans bi
theorem IK:C1 GT 13 IS:=by
 rintro ds M R ⟨ns,mo,cc,⟨bs,bl⟩,rfl,rfl,h⟩;have V:am [mo] 0 (ns.map D.int):=by have:=tI (M:=[mo]) (n:=0) (mo:=mo) rfl bl;rw[bs]at this;exact this
 simp only[IS];walk_at"dl";refine⟨0,ns,0,rfl,V,_,rfl,λps rs I=>?_⟩;obtain⟨be,n1,bM⟩:=AZ I;simp only[zj];walk_at"dl";refine⟨0,ns,1,40,rfl,V,by lia,by decide,by decide,λxs xl=>⟨ps,_,rfl,be,ps,rs,1,2,xs,bg ps,rfl,I,?_,by lia,?_,λ_ q=>q,n1,bM,El I.pnd,λlog O tm nn ll bS=>?_⟩⟩;exact .inl rfl;exact .inl rfl;generalize U:[mo]++[MO.lst<|xs.map D.int]++[MO.lst<|bg ps]=B0;have p0:[mo] <+: B0:=by rw[<-U,G3];exact Mm _ _
 clear U;simp only[zi];walk_at"dl";refine⟨ps,rs,log,rfl,I,O,by lia,λn2 B2 p2 H=>?_⟩;replace p2:=p0.trans p2;simp only[zh];walk_at"dl";refine⟨ps,rs,log,rfl,I,O,by lia,λn3 J kvs p3 T sh nk kl al=>?_⟩;have v:∀s,aB (aF rs log) s=a8/\aB kvs s=a8\/∃e m t,aB (aF rs log) s=a7 e/\aB kvs s=a7 (.ref m)/\J[m]?=a7 (.lst [.str<|aW e,.str<|bQ e,t,Af e]):=λs=>by
  cases hg:aB kvs s with
  |none =>
   refine .inl ⟨?_,rfl⟩;cases hs:aB (aF rs log) s with
   |none=>rfl
   |some e=>have E:=eI.mp<|br hs;obtain⟨d,hd⟩:=al s e (fi bo.nd E.1) E.2;rw[hd]at hg;cases hg
  |some d=>obtain⟨⟨e,m,t,h1,h2,h3,h4⟩,hb⟩:=sh _<|br hg;dsimp only at h1 h3 hb;subst h1;exact .inr ⟨e,m,t,zH h3 hb,rfl,h4⟩
 clear sh al nk;replace H:=aH p3 H;replace p3:=p2.trans p3;clear p2 p0;simp only[zg];walk_at"dl";have g5:(J++[MO.lst log])[J.length]?=a7 (.lst log):=ad;have K:J <+: J++[MO.lst log]:=bi;replace H:=aH K H;replace T:=Bt K T;replace v:∀s,aB (aF rs log) s=a8/\aB kvs s=a8\/∃e m t,aB (aF rs log) s=a7 e/\aB kvs s=a7 (.ref m)/\(J++[MO.lst log])[m]?=a7 (.lst [.str<|aW e,.str<|bQ e,t,Af e]):=λs=>(v s).imp_right λ⟨e,m,t,h1,h2,h3⟩=>⟨e,m,t,h1,h2,aH K h3⟩
 replace K:=p3.trans K;clear p3;generalize J++[MO.lst log]=B at H T v K g5;generalize J.length=q5 at g5;have w:=bo (rs:=rs) (log:=log);have tl:=w.len;have kn:=bn (log:=log) (k:=u4 "say");obtain⟨aD,aS⟩:=EM (rs:=rs) (l:=kinds log<|u4 "say")<|bS.sublist OD;have hv:=eW O (λ_ q=>q) w;have P:∀p∈ap rs log,p.1=v8 p.2/\St p.1/\(cN p.2=.non\/St (cN p.2)):=λp hp=>by obtain⟨h1,h2⟩:=hv p hp;refine⟨(w.en p hp).1,by rw[(w.en p hp).1];exact h1.st,?_⟩;generalize p.2=e at h1 h2;obtain⟨t,z,k,cd,r',u,s,rfl,_,_,_,hu⟩:=dI h1 h2;exact hu
 simp only[zf,aC];walk_at"dl";intro _;refine aV (λi S M'=>∃a b c d e f g,B <+: M'/\S=[a7<|.ref 0,a7<|aC ps rs,a7<|.tup log,a7<|.ref n2,a7<|.ref n3,a7<|.ref q5,a,b,c,d,e,f,g]) ?_ ?_ ⟨_,_,_,_,_,_,_,Nd,rfl⟩;rintro S M' ⟨a,b,c,d,e,f,g,pM,rfl⟩;refine⟨trivial,?_⟩;simp only[ww];walk_at"dl";have rf:=sW (M:=M'++[MO.lst log]) (i:=M'.length) (j:=q5) (xs:=log) ah (.inl<|ac<|aH pM g5) λx hx=>wN 6 29 x (by decide) (O x hx).pl;refine⟨rf.1,?_⟩;rw[rf.2];exact .inl<|h _;rintro i y S M' hy ⟨a,b,c,d,e,f,g,pM,rfl⟩ G hG;rw[C7]at hy;obtain⟨rm,E,rfl⟩:=MQ.mp hy;replace E:=E9 E;refine⟨trivial,?_⟩;have er:=wW I.rnd E;have hr:rm.1∈rs.map (·.1):=Mv E;obtain⟨r,ms⟩:=rm;dsimp only at er hr;subst er;unfold kM;walk_at"dl";have eS:∀e∈(ap rs log).map (·.2),v8 e≠.non:=λe he z=>by obtain⟨p,hp,rfl⟩:=z5.mp he;have:=(P p hp).2.1;rw[(P p hp).1,z]at this;obtain⟨t,x,k,q⟩:=this;cases q
 have eu:∀e∈(ap rs log).map (·.2),cN e=.non\/A0 u9 (cN e)<A0 u9 (v8 e):=λe he=>by obtain⟨p,hp,rfl⟩:=z5.mp he;exact aS p hp
 have F:FH (aA r ((ap rs log).map (·.2))) 63 .non:=CI eS eu (n:=62) (by rw[v7];lia);obtain⟨W,ew,hw⟩:=wH 63 .non 0 [] [] F;have run:=hw W .done;rw[H9]at run;have aj:(((ap rs log).map (·.2)).map v8).Nodup:=by
  have:((ap rs log).map (·.2)).map v8=(ap rs log).map (·.1):=by rw[D9];exact NR λp hp=>(w.en p hp).1.symm
  rw[this];exact w.nd
 have tw:=(run.tree aj eS<|TreeW.start aj).len;rw[v7]at tw;have wl:(fR (aA r ((ap rs log).map (·.2))) 64 .non).length<=40:=by rw[<-ew,v7];simp only[D6]at tw;lia
 have ws:∀x∈fR (aA r ((ap rs log).map (·.2))) 64 .non,St x:=uM (λk s hs=>by obtain⟨e,he,rfl,_⟩:=cW.mp hs;obtain⟨p,hp,rfl⟩:=z5.mp he;rw[<-(P p hp).1];exact(P p hp).2.1) 64 .non;refine⟨trivial,n2,r,.non,ap rs log,rfl,aH pM H,.inl rfl,aD,w.nd,P,by lia,F,F4 wl (by decide),?_⟩;have C:fR (aA r ((ap rs log).map (·.2))) 64 .non=(outR rs log r).map eH:=by rw[<-run.out];exact ew.symm
 generalize fR (aA r ((ap rs log).map (·.2))) 64 .non=L at wl ws C;clear hw run tw ew F;have Q:(M'++[MO.lst L])[M'.length]?=a7 (.lst L):=ad;replace pM:=pM.trans<|bi (mo:=MO.lst L);generalize M'++[MO.lst L]=M1 at Q pM;generalize M'.length=qW at Q;refine⟨_,.inl Q,λ_=>?_⟩;refine ba (λs=>(aB kvs s).isSome) id (λS=>∃a,S=[a,a7<|.ref n3]) (.inl Q) _ _ _ ?_ ⟨_,rfl⟩ (by rw[D6];exact aq<|by lia) ?_;rintro s hs S ⟨a,rfl⟩;refine⟨[a7 s,a7<|.ref n3],⟨_,rfl⟩,λY Z X=>?_⟩;have kd:=(ws s hs).key;obtain⟨ks,ek⟩:=(ws s hs).tup;rw[ek]at kd X ⊢;walk_at"dl";refine⟨kvs,Bt pM T,kd,?_⟩;exact X;rw[H9,NK];have ai:∀o,(nU rs log o r).map v8=(L.filter λs=>(aB kvs s).isSome).filter λs=>!gf log o ((aB (aF rs log) s).getD .non):=λo=>by
  rw[C];unfold nU;rw[<-Ah (N:=λs=>Cd rs log o s) (A:=λs=>(aB kvs s).isSome) (B:=λs=>!gf log o ((aB (aF rs log) s).getD .non)) λs _=>?_,List.filterMap_map];rfl;unfold Cd;rcases v s with⟨h1,h2⟩|⟨e,m,t,h1,h2,_⟩
  rw[h1,h2];rfl;rw[h1,h2];have es:v8 e=s:=(FC w<|fi (p:=(s,e)) w.nd (eI.mp<|br h1).1).1.symm;show (if (!gf log o e)=a9 then a7 e else a8).map v8=_;rw[Option.isSome_some,PR,OX];split;show a7 (v8 e)=_;rw[es];rfl
 have as:∀x∈L.filter (λs=>(aB kvs s).isSome),St x/\(aB kvs x).isSome=a9:=λx hx=>⟨ws x (E5.mp hx).1,(E5.mp hx).2⟩
 have an:(L.filter λs=>(aB kvs s).isSome).length<=40:=F4 (Mn _ _) wl;generalize L.filter (λs=>(aB kvs s).isSome)=W2 at ai as an;clear C ws wl Q;have g8:(M1++[MO.lst W2])[M1.length]?=a7 (.lst W2):=ad;replace pM:=pM.trans<|bi (mo:=MO.lst W2);generalize M1++[MO.lst W2]=M2 at g8 pM;generalize M1.length=q8 at g8;simp only[ze];walk_at"dl";intro _;refine aV (λi S M'=>∃a b c d,M2 <+: M'/\S=[a7<|.ref 0,a7<|aC ps rs,a7<|.tup log,a7<|.ref n2,a7<|.ref n3,a7<|.ref q5,a7<|.str r,a7<|.tup<|(nM rs r).map .str,a7<|.ref q8,a,b,c,d]) ?_ ?_ ⟨_,_,_,_,Nd,rfl⟩;rintro S M' ⟨a,b,c,d,p',rfl⟩;exact⟨trivial,B6.now<|hG _ _ ⟨_,_,_,_,_,_,_,pM.trans p',rfl⟩⟩;rintro j y S M' hy ⟨a,b,c,d,p',rfl⟩ G2 bk;rw[C7]at hy;obtain⟨o,hn,rfl⟩:=MQ.mp hy;replace hn:=E9 hn;refine⟨trivial,?_⟩;simp only[af,QR,QQ];exact DB O nn ll v T (pM.trans p') (aH p' g8) hr hn (ai o) as an λ_ _ _ _ _ pA=>B6.now<|bk _ _ ⟨_,_,_,_,p'.trans pA,rfl⟩
theorem ok_law(T:Tops P w K mg base)(F:M9 K "law" "law" (top 58) f fd):FnOk P w K mg base K9 65 f fd Gy (MY K GT):=En (N:=["_law_script","_law_house_here","_law_log_here","_law_counting_here","_law_shown_here","_law_handed","_law_room","_law_members","_law_walked","_law_name","_law_due","_law_found","_law_first"]) T.b F (by walk_at"sc") GP (by have:=pc T;have:=tz T;have:=pe T;have:=xY T;have:=Dh T;have:=Di T;have:=JP T;have:=mV T;have:=Df T;have:=wO T 64;have:=GC T;have:=wQ T 5;walk_at"dv") IK
end
end LW
namespace PySem.W.Fast
def tw10067910753653556118:=Nat
def tw10110255487802051785:=Nat
def tw10143672549256867859:=Nat
def tw10197213248428090202:=Nat
def tw10254180368386779977:=Nat
def tw10279218437600574329:=Nat
def tw10578290898085670351:=Nat
def tw10585296084773091977:=Nat
def tw10604862808642849225:=Nat
def tw10628368819924494127:=Nat
def tw1068373540889032088:=Nat
def tw10710345315272592112:=Nat
def tw10813765937491373606:=Nat
def tw10854596309090411020:=Nat
def tw11290562689369782502:=Nat
def tw11301735930087910678:=Nat
def tw11338154037901658619:=Nat
def tw11474370406600748757:=Nat
def tw11516120049679500923:=Nat
def tw11606775864013807017:=Nat
def tw11853711783655516355:=Nat
def tw11896964517768719613:=Nat
def tw11915855963811789607:=Nat
def tw11952714574656791970:=Nat
def tw1198311397959044419:=Nat
def tw12010681928252391377:=Nat
def tw1205794153999738929:=Nat
def tw12147835023381915529:=Nat
def tw12163396644020426081:=Nat
def tw12200489277997987991:=Nat
def tw1225806666177675306:=Nat
def tw12371651485540213251:=Nat
def tw12405165105336390753:=Nat
def tw12424371262273795474:=Nat
def tw12455913552451792747:=Nat
def tw12490420959903712153:=Nat
def tw12521047634874977578:=Nat
def tw12616847735664826322:=Nat
def tw12686886824606528548:=Nat
def tw1275473370987397358:=Nat
def tw13060535434856375280:=Nat
def tw13209369131400254682:=Nat
def tw13215740244761898740:=Nat
def tw13248649290551647505:=Nat
def tw13572744396609003232:=Nat
def tw13590807204465376331:=Nat
def tw13636383760211870054:=Nat
def tw1367551936344294717:=Nat
def tw13676398311148290625:=Nat
def tw13703539444198371631:=Nat
def tw13704804196557372642:=Nat
def tw13741170258414870641:=Nat
def tw1378406877450075968:=Nat
def tw13849286416963966065:=Nat
def tw13883585177401649597:=Nat
def tw13911984204096910686:=Nat
def tw13923977746323255312:=Nat
def tw14013983846839402565:=Nat
def tw14073140782756174160:=Nat
def tw14159632045163973197:=Nat
def tw14179412349390854600:=Nat
def tw14213644427087695699:=Nat
def tw1427646714034931228:=Nat
def tw1433895727683257162:=Nat
def tw14359823984090782357:=Nat
def tw14368021139851840078:=Nat
def tw14485335580995840517:=Nat
def tw14493600170881256712:=Nat
def tw14569697501672489766:=Nat
def tw14588922139230411703:=Nat
def tw14623476719273985981:=Nat
def tw14625070777467597807:=Nat
def tw14687616429681589848:=Nat
def tw14837779932279334335:=Nat
def tw14973228746999471618:=Nat
def tw14983464156906442652:=Nat
def tw14988174046647428735:=Nat
def tw15058892127139782441:=Nat
def tw15078295282985242652:=Nat
def tw15189681753059188114:=Nat
def tw15195982659118311060:=Nat
def tw15318030406567643029:=Nat
def tw15347955460648894306:=Nat
def tw15371643134263880235:=Nat
def tw15375500598374334768:=Nat
def tw1537596158524729966:=Nat
def tw15386483432368181446:=Nat
def tw15401968948035964411:=Nat
def tw15501818643193799787:=Nat
def tw15669549898143071708:=Nat
def tw15689616456344800888:=Nat
def tw15729411854096819611:=Nat
def tw15785306176556749077:=Nat
def tw1593346241928807458:=Nat
def tw16019889647975408050:=Nat
def tw16085934841412538635:=Nat
def tw16190152316015960644:=Nat
def tw16376066523368269070:=Nat
def tw16532165018505670113:=Nat
def tw16836314354907169380:=Nat
def tw16876741097540801718:=Nat
def tw16883773798744133059:=Nat
def tw16934016365003779544:=Nat
def tw17049473081660816613:=Nat
def tw17192113818874916456:=Nat
def tw17229944649384644850:=Nat
def tw17275805706640908509:=Nat
def tw17290892240046332373:=Nat
def tw17346637377611062171:=Nat
def tw1742433781203985099:=Nat
def tw1753412651316073205:=Nat
def tw17607681062863497188:=Nat
def tw17691069584172491919:=Nat
def tw17729978371782925859:=Nat
def tw1785707782089415107:=Nat
def tw17915205776335104112:=Nat
def tw17948051179471254968:=Nat
def tw17981123358125032474:=Nat
def tw17982081844333632696:=Nat
def tw18041815193661563156:=Nat
def tw18091304799936090520:=Nat
def tw18129843333128022775:=Nat
def tw18143780689260854024:=Nat
def tw18193236426304194745:=Nat
def tw18209303344109269712:=Nat
def tw18324717125568077074:=Nat
def tw18377468304774583068:=Nat
def tw1849314524558122256:=Nat
def tw1999404902615310646:=Nat
def tw2087417569375398185:=Nat
def tw2142675695465397534:=Nat
def tw2158378509050487235:=Nat
def tw2185722499391266020:=Nat
def tw2203445780388487600:=Nat
def tw224340526439357236:=Nat
def tw2301873046048508893:=Nat
def tw2330322795770399168:=Nat
def tw2348166609198561781:=Nat
def tw2509234835409171344:=Nat
def tw2540219949390121125:=Nat
def tw2578650594970065090:=Nat
def tw2588716598405133042:=Nat
def tw2611904746967424645:=Nat
def tw2651204098558887029:=Nat
def tw2657318072648060156:=Nat
def tw2709817821760435118:=Nat
def tw2770824977044563618:=Nat
def tw2793007206847634655:=Nat
def tw2871663826596745174:=Nat
def tw2882209207558442995:=Nat
def tw3012795953962634594:=Nat
def tw3072380896567619681:=Nat
def tw3076720940347056466:=Nat
def tw3088657145405889150:=Nat
def tw3121048941500009107:=Nat
def tw3184407765043685615:=Nat
def tw3192922280771803985:=Nat
def tw3274055733395470058:=Nat
def tw3333211601997184756:=Nat
def tw3452830309878405582:=Nat
def tw3455829005126748353:=Nat
def tw3527040157479237736:=Nat
def tw3666322641425564362:=Nat
def tw3684935677636168541:=Nat
def tw3770783098882736440:=Nat
def tw3888556460414522371:=Nat
def tw3892488218767078339:=Nat
def tw4060452031063641319:=Nat
def tw4159009603190706531:=Nat
def tw4161594349572799962:=Nat
def tw4168796118858240899:=Nat
def tw4180995740854000731:=Nat
def tw4191750374990904522:=Nat
def tw4192821842801544204:=Nat
def tw4208853496703053317:=Nat
def tw4250552859975029642:=Nat
def tw4250987353639556416:=Nat
def tw4274286554927766670:=Nat
def tw4333037581612433568:=Nat
def tw436715262472550940:=Nat
def tw4435487053224330498:=Nat
def tw4436309729358102606:=Nat
def tw4496478189526951766:=Nat
def tw4539350114949413629:=Nat
def tw4613634568522437327:=Nat
def tw4617989550422067285:=Nat
def tw4648869126362711320:=Nat
def tw4668007664549192295:=Nat
def tw4712266611474497300:=Nat
def tw4730476389304568817:=Nat
def tw4752092527120348080:=Nat
def tw4762783787317569530:=Nat
def tw4771023802840668245:=Nat
def tw4864340494649400990:=Nat
def tw4917298962885954871:=Nat
def tw5001430119471797811:=Nat
def tw5059905073225576579:=Nat
def tw5089493044187704639:=Nat
def tw5168606055999408209:=Nat
def tw5193483469064615253:=Nat
def tw527808024661113129:=Nat
def tw5330452199296508811:=Nat
def tw5418113447884264730:=Nat
def tw5523546973832198002:=Nat
def tw5554720154179661683:=Nat
def tw5565831036335371110:=Nat
def tw5676064181572959210:=Nat
def tw5676742965771184611:=Nat
def tw5678272529622072551:=Nat
def tw5683054996766068867:=Nat
def tw5752755074987416434:=Nat
def tw585733174432156128:=Nat
def tw5920613104372030179:=Nat
def tw6062579550390832079:=Nat
def tw6107370004402154036:=Nat
def tw6173138177282800016:=Nat
def tw6243568080782003754:=Nat
def tw6333150998875580889:=Nat
def tw6414835062782352868:=Nat
def tw6529909076249401898:=Nat
def tw6536140799761637481:=Nat
def tw6542831202435144620:=Nat
def tw654347456158645109:=Nat
def tw6580375490534393365:=Nat
def tw6617985587267395902:=Nat
def tw6628639429005060248:=Nat
def tw6693021125252530801:=Nat
def tw6696430644622036235:=Nat
def tw6716559369048654434:=Nat
def tw683755647085177145:=Nat
def tw7035102252640665933:=Nat
def tw7049082317738254278:=Nat
def tw7107893519103061860:=Nat
def tw7153427741008386988:=Nat
def tw7156708705922096296:=Nat
def tw7162297891720913435:=Nat
def tw7175485705266566330:=Nat
def tw7237705092886310698:=Nat
def tw7367421935571182315:=Nat
def tw739667742118366855:=Nat
def tw7437221795927641281:=Nat
def tw7449978522970936334:=Nat
def tw7487908439500973411:=Nat
def tw7488540359548136404:=Nat
def tw7550614730747009293:=Nat
def tw7633713543543877368:=Nat
def tw7641697578064171982:=Nat
def tw7675575777729878075:=Nat
def tw7690850306973503858:=Nat
def tw771400299871164818:=Nat
def tw7726000305514376027:=Nat
def tw778495939511029739:=Nat
def tw7805057631381540558:=Nat
def tw7846963908928026083:=Nat
def tw7849285621886837781:=Nat
def tw7869056927952643985:=Nat
def tw787068186240938141:=Nat
def tw7911553873866976246:=Nat
def tw7923391487767503766:=Nat
def tw8021823695840930906:=Nat
def tw8058547436156394469:=Nat
def tw8147743629056356045:=Nat
def tw8205289551699934821:=Nat
def tw8205993954511836111:=Nat
def tw834186137013574077:=Nat
def tw8363309733886850319:=Nat
def tw8436106322212736062:=Nat
def tw846623371946891634:=Nat
def tw8560108579799761985:=Nat
def tw8565383204854771826:=Nat
def tw8582689148393279963:=Nat
def tw8718548727550856994:=Nat
def tw8728573848263671705:=Nat
def tw8740461404625366511:=Nat
def tw8779703195479653754:=Nat
def tw886694889567546354:=Nat
def tw8878786406134027670:=Nat
def tw8891979633910132250:=Nat
def tw8933654315980258353:=Nat
def tw8993929855790408917:=Nat
def tw9024896484491059349:=Nat
def tw9095213231756114568:=Nat
def tw9110551136770238596:=Nat
def tw9161667868800984272:=Nat
def tw9193857208266696195:=Nat
def tw9212326755295890507:=Nat
def tw9225647773488162095:=Nat
def tw9232332481629938261:=Nat
def tw9238645952613579436:=Nat
def tw9356941780622276689:=Nat
def tw9699705953870718049:=Nat
def tw9718930720460953922:=Nat
def tw9799376332890024570:=Nat
def tw9826771518222893893:=Nat
def tw9834629264244319146:=Nat
def tw9858380147233616272:=Nat
def tw9911196590623203239:=Nat
end PySem.W.Fast
theorem L2.us1{P:List ADF->Prop}(h:∀a0,P [a0]):∀us:List ADF,us.length=1->P us
 | [a0],_=>h a0
theorem L2.us2{P:List ADF->Prop}(h:∀a0 a1,P [a0,a1]):∀us:List ADF,us.length=2->P us
 | [a0,a1],_=>h a0 a1
theorem L2.us3{P:List ADF->Prop}(h:∀a0 a1 a2,P [a0,a1,a2]):∀us:List ADF,us.length=3->P us
 | [a0,a1,a2],_=>h a0 a1 a2
theorem L2.us4{P:List ADF->Prop}(h:∀a0 a1 a2 a3,P [a0,a1,a2,a3]):∀us:List ADF,us.length=4->P us
 | [a0,a1,a2,a3],_=>h a0 a1 a2 a3
theorem L2.us5{P:List ADF->Prop}(h:∀a0 a1 a2 a3 a4,P [a0,a1,a2,a3,a4]):∀us:List ADF,us.length=5->P us
 | [a0,a1,a2,a3,a4],_=>h a0 a1 a2 a3 a4
local macro_rules | `(tactic| walk_at"fk")=>`(tactic| ((case a=>k_is);(case l=>k_is);(case c=>k_is);(case k=>k_is)))
local macro_rules | `(tactic| walk_at"f1")=>`(tactic| (refine' L2.fnat_mk (by assumption) (by assumption) ?a ?l ?c ?k (λ_ _ _ _ _ _=>L2.us1 (λ_=>rfl));walk_at"fk"))
local macro_rules | `(tactic| walk_at"f2")=>`(tactic| (refine' L2.fnat_mk (by assumption) (by assumption) ?a ?l ?c ?k (λ_ _ _ _ _ _=>L2.us2 (λ_ _=>rfl));walk_at"fk"))
local macro_rules | `(tactic| walk_at"f3")=>`(tactic| (refine' L2.fnat_mk (by assumption) (by assumption) ?a ?l ?c ?k (λ_ _ _ _ _ _=>L2.us3 (λ_ _ _=>rfl));walk_at"fk"))
local macro_rules | `(tactic| walk_at"f4")=>`(tactic| (refine' L2.fnat_mk (by assumption) (by assumption) ?a ?l ?c ?k (λ_ _ _ _ _ _=>L2.us4 (λ_ _ _ _=>rfl));walk_at"fk"))
local macro_rules | `(tactic| walk_at"f5")=>`(tactic| (refine' L2.fnat_mk (by assumption) (by assumption) ?a ?l ?c ?k (λ_ _ _ _ _ _=>L2.us5 (λ_ _ _ _ _=>rfl));walk_at"fk"))
open PySem PySem.W PyProof.Rows
set_option maxRecDepth 100000 in
set_option maxHeartbeats 0 in
theorem PySem.Challenge.cw_talkmarks_k42_what_is_new_holds : PySem.Challenge.rw_talkmarks_k42_what_is_new.Holds := by
 w_on; o_law; k_head; (case hw=>w_witness2)
 k_fill
 refine L2.law_walk (l:=PySem.Challenge.rw_talkmarks_k42_what_is_new) (k:=65) (st:=LW.top 58) (x:="_law_script") rfl rfl rfl ⟨rfl,by decide,by decide⟩ (fun w h Y=>PySem.W.kIn_of Y) ?F<|fun _ _ _ _ _ _ _=>rfl
 case F =>
  intro w mg h X G;have T:∀ P base,LW.Tops P w (L2.KOf X) mg base:=by
   intro P base;dsimp only[L2.KOf];constructor;walk_at"f1";walk_at"f2";walk_at"f2";walk_at"f1";walk_at"f1";walk_at"f2";walk_at"f2";walk_at"f3";walk_at"f3";walk_at"f1";walk_at"f1";walk_at"f3";walk_at"f2";walk_at"f2";walk_at"f3";walk_at"f2";walk_at"f2";walk_at"f2";walk_at"f2";walk_at"f2";walk_at"f4";walk_at"f3";walk_at"f2";walk_at"f2";walk_at"f1";walk_at"f3";walk_at"f4";walk_at"f4";walk_at"f4";walk_at"f2";walk_at"f2";walk_at"f2";walk_at"f3";walk_at"f2";walk_at"f1";walk_at"f1";walk_at"f2";walk_at"f3";walk_at"f3";walk_at"f4";walk_at"f5";walk_at"f3";walk_at"f2";walk_at"f2";walk_at"f3";walk_at"f4";walk_at"f2";walk_at"f1"
   ·unfold LW.B_ LW.C_
    iterate 16 (refine' L2.TopB.b ?tq ?_; (case tq=>refine' PySem.W.mg_none_of X G ?tr; (case tr=>k_is)))
    exact .nil
  exact ⟨(T PySem.Challenge.pw_talkmarks_k42_what_is_new {}).f_law,fun base f d F=>LW.ok_law (T _ base) F⟩
