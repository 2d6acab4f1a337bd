import PyProof.Rows.All
import Wide.All
import OpenK.AllK
import Wide.FinOn
import Lean
import PyProof.EqAt
import PyProof.EqKinds
import PyProof.TupleCall
import PyProof.CompFree
import PyProof.NeKinds
import KE.KSortTup
import KE.KRevSl
import KE.KDictSum
import KE.KEqDict
import PyProof.Conv_int_bool
import PyProof.AttrMissHeap
import KE.KLam
import KE.KRevIter
import PySem.Challenge.RW_talkmarks_k47_read_to_the_end
open PySem renaming wpAny_bind->u7,wpAny_pure->u9,Spec->AAE,wpAny_holding->F3,wpAny_newObj_type->J0,wpAny_call_entry->J4,wpAny_callSpecial?_slot->MM,codeAny_builtin->Mg,wpAny_dictEpoch->Mp,wpAny_fieldsOf->Mf,wpAny_setState_of->MX,wpAny_dictEntries->MW,wpAny_mono->J2,wpAny_forIn_list->MT,mem_of_lookup->NJ,wpAny_notOrdered_dict->N9,wpAny_rule->K9,plainId_quiet->My,sizeLine_eq->L8,wpAny_ite_split->Nh,wpAny_setField->Ng,wpAny_typeOf->MH,eqIsQuiet_byValue->N7,wpAny_specialOf->NG,wpAny_typeNameOfWhole_itemiter->Q2,wpAny_isInstance->N6,wpAny_typeNameOfWhole_keyiter->Q0,wpAny_typeNameOfWhole_valiter->QZ,wpAny_attempt->Nu,wpAny_truthy_bool->OC,wpAny_askSetting->Oz,wpAny_Call_Name_kw->O0,builtinLookup_eq_fast->Qb,wpAny_setField_rec->OX,wpAny_seqItems->N3,wpAny_typeNameOf_itemiter->QV,wpAny_passesOwn->Oy,wpAny_typeNameOf_keyiter->QS,wpAny_typeNameOf_valiter->QR,wpAny_field->Nt,wpAny_Call_method0_late->QP,wpAny_newList->NY,wpAny_setEntries_of->Qa,Value->ADM,wpAny_Call_method_late->QO,wpAny_callSpecialIfBoundUnlessNone?_slot->RX,wpAny_pyIter_slot->P4,wpAny_pyHash_int->P1,wpAny_pyHash_str->P0,evalArgs_none->QK,codeAny_mono->Oq,call_meetsIn->Op,wpAny_loadPart'->RS,typeLookup_type->PU,wpAny_updateSeq->PR,wpAny_isOneOf_itemiter->Rr,atKey_none_of_get->Qz,isSubtype_stop->PL,wpAny_isOneOf_valiter->Ro,typeIs_str->On,wpAny_execs_nil->Qv
open PySem.Str renaming ofString->v6
open PySem.Heap renaming get?_push_of_some->A1,get?_push_size->C0,lt_size->A4,get?_update_self->LQ,SameBut->K5,get?_update_other->NL,size_push->Mo,get?_update_ne->N8
open List renaming length_map->w4,getElem?_eq_getElem->A5,getElem?_eq_some_iff->C2,mem_map->A0,length_append->B6,mem_cons_of_mem->C6,size_toArray->B5,getElem?_map->D8,mem_singleton->F0,length_cons->D7,mem_cons->C3,length_nil->D3,mem_cons_self->F4,length_singleton->G5,mem_of_getElem?->G1,getElem?_append_left->LR,mem_filter->E7,mem_append->Fn,mem_append_right->J6,getD_eq_getElem?_getD->L5,map_cons->D5,mem_map_of_mem->K1,map_map->E2,append_assoc->Ix,getElem?_append_right->Mr,all_eq_true->G7,nil_append->G4,range->C9,length_filter_le->Mi,map_append->J3,length_take->LO,prefix_append->Mc,cons_lt_cons_iff->MD,mem_range->K0,mem_append_left->MC,getElem?_of_mem->MB,length_drop->Mb,getElem?_set_self->Nk,getElem?_set_ne->MY,nodup_cons->Ma,find?_cons->L9,nodup_iff_pairwise_ne->Oc,take_length->MA,take_add_one->MJ,append_nil->Mq,prefix_rfl->Mz,getElem?_eq_none->NK,filterMap_cons->Ny,map_congr_left->Nx,any_eq_true->MV,getElem_mem->MU,length->LY,all_cons->Mn,getElem?_take_of_lt->OF,lookup_cons->Ni,lt_irrefl->MI,zip_cons_cons->NI,filter_cons->Nw,length_range->NH,pairwise_singleton->O9,take_of_length_le->O6,drop_eq_getElem_cons->Qf,pairwise_iff_getElem->Qe,mem_filterMap->OE,filter_append->OD,getElem?_cons_succ->Qc,length_set->N5,getElem?_drop->OZ,nodup_nil->N0,find?_some->Ow,nodup_append->OU,getElem?_replicate->QQ,length_reverse->ADL,length_replicate->QM,map_id->NB,filter_nil->OT,take_sublist->P6,pairwise_map->P3,mem_of_find?_eq_some->RF,not_mem_nil->PZ,range'->NW,filter_sublist->QJ,filter_cons_of_neg->Ry,getElem?_cons_zero->Ru,set_cons_zero->QD,set_cons_succ->QC,find?_append->Qy,replicate->PN,set_append_right->Rp,nodup_range->Qx,pairwise_append->Rm,any_cons->PK,map_drop->PH,of_mem_zip->Qu,map_nil->PF,toArray->PD,find?_map->Qm,getD->Om
open PySem.W renaming Frag->w9,kas_desc->K4,keepIn->N4,fnOf->NE,kas_rev->L7,kas_place->Nc,kas_asc->Mw,findIn->PP,kas_descPart->OP,kas_sort->No,codeIn->Qp,methodObj->Rj
open Nat renaming le_refl->x5,ne_of_lt->A9,zero_le->A8,lt_of_lt_of_le->L0,lt_irrefl->G3,lt_succ_self->L4,le_trans->J7,ne_of_gt->LZ,lt_or_ge->Mm,not_lt_zero->Nv,le_of_lt->MR,lt_succ_of_lt->OB,lt_trichotomy->OW,lt_trans->ND,sub_self->NC,not_lt->Np,add_sub_cancel->QF,le_succ->Oo
open Bool renaming false_eq_true->C5,and_eq_true->G0,false_ne_true->MK,eq_false_iff->Nj,not_true->MS,or_false->OR,false_and->PQ,and_false->PM,eq_iff_iff->Qs,or_eq_true->Qr
open Array renaming length_toList->F5,getElem?_eq_getElem->J1,getElem?_toList->J5,getElem?_eq_some_iff->M7,getD_eq_getD_getElem?->Od,getElem?_eq_none->O5,getD->MF,forIn_toList->OY,toList_push->OV
open Option.some renaming inj->D2
open Classical renaming propDecidable->K6,byContradiction->NM
open PySem.SetTable renaming below->F9,runEnd->LN,bits->Nf,leap->NF,Probe->N1,grown->Ou,turns->OS,fits->OQ,insertAt->QA,sizeAbove->Rl,fill->Ql
open Int renaming toNat_natCast->LP,zero_add->NX,le_refl->PB
open PySem.Value renaming ref->AAu,none->ABv,type->MG,bool->Nr
open PySem.Heap.SameBut renaming update->Mh
open Option renaming map_eq_some_iff->MZ,isSome_iff_exists->RE,filter_some->Rk
open PySem.Around renaming under_plainId->ML
open PySem.Builtin.Dict_items renaming ownsTuple->Oe,ownedTupleFields->RU,ownedTupleIsFree->RT,pairFromOwner->RR,newIterator->RQ,dictOf->RN
open PySem.Obj renaming mapSeq->G6,data_mapDictKeys->O1,isFreed_of_dict->P9,mapFields->Os,data_mapFields->QE,data_mapDict->Qw,putSet->OM
open PyProof.Rows renaming slot_tuple_getitem->Pd,get?_update_seq->Ox,callWith_type1->RI,listUpdate_at->Ot,seqEpoch_at->OO,listItems_at->PC
open Ne renaming symm->D4
open PySem.Builtin.Str renaming strKind->Ob,strSliceIndices->Pb,occurrences->Pa
open PySem.NameKind renaming free->Me,cell->NZ
open PySem.Builtin.Tuple renaming tupleHashOf->OG,tupleItemsOf->QX,tupleExact->QU
open PySem.Calls renaming callWith_builtin->Oa,evalArgs_plain->QL,spliced_cons->QI,spliced_nil->QB
open Sum renaming inr->ABo
open PySem.Builtin.List renaming listExtendWith->Pc,listSameRef->QT,listTooLong->RC,listLengthHint->RP
open PySem.F renaming slot_dict_itemiterator_next->Q4,plainAttrs_dict->O8,slot_tuple_getattribute->Q3,plain_extend_loop->Qd,slot_dict_get->O4,slot_list_getattribute->Q1,slot_dict_setdefault->QY,kt_typeCall_dict_1->RH,args_dict_itemiterator_next_1->RW,entry_dict_itemiterator_next->RV,args_tuple_add_2->RD,args_dict_init_2->RB,entry_tuple_add->Rz,args_dict_get_3->Rx,slot_dict_items->Rw,entry_dict_init->Rv,slot_tuple_add->Rt,entry_dict_get->Rs,kt_called_dict->Rq,type_dict_get->Rn
open PySem.Builtin.Dict renaming updateFrom->O7,showsAll->O3,selfAndRest->RA
open PySem.Txt renaming split->LX,slice->Md,startswith->Qo
open PySem.Shared renaming TypeIs->Nd
open List.Pairwise renaming and_mem->O2,nil->P5
open PySem.SeqAt renaming EqAt->Mx
open PySem.SetTable.below renaming go->OA
open PySem.Builtin.Slice renaming slicePlaces->QW,sliceAdjust->RG,sliceApplied->RO
open List.Perm renaming refl->Ov,cons->Qn
open PySem.SetTable.layClean renaming free->QN
open PySem.SeqAt.EqAt renaming int_str->P8,str_int->P7,int_int->QH,str_str->QG,same->Qq
open False renaming elim->Nq
open List.Sublist renaming refl->P2
open List.cons renaming injEq->PY,inj->PJ
open ForInStep renaming yield->Qt
open PySem.Expr renaming Call->NV
open PyProof.Rows.SortSt renaming mk'->ON
open PySem.SetTable.probe renaming go->Ri
open Option renaming some->a9,none->b7
open Bool renaming true->b8,false->b9
open PySem renaming Value->c3,Str->c5,World->c6,Program->c7,Addr->c8,Obj->c9,Heap->d5,sysModules->d6,entryOfKey->d7,mainGlobals->d9,bootBuiltins->f6,Around->f7,Shared->f8,Scope->f9,wpAny->g9,Expr->h7,model->i3,backTo->i4,starEach->i5,Stmt->i6,holding->i7,swapsWith->i8,assign->i9,assignEach->j0,pyNext->j1,letOwnedTupleGo->j2,pyIter->j3,rawInt->j4,foldedSetIterable->j5,binaryOp->j6,compareOp->j7,behindInMarks->j8,cLine->j9,FuncData->k5,codeAny->k9,NameKind->m3,IsPart->m6,getItem->m7,sliceBounds->m8,typeOf->m9,attributeBase->n5,backToKw->n9,keywordEach->o0,Keyword->o4,call_meets->o5,DictEntry->o6,reduceHash->o7,pickOrder->p4,SetTable->p5,firstArgMember->r9,eqIsQuiet->s9,placesWithHash->t4
open PyProof.Rows renaming AllBare->ge,envOfC->m5,seqObj->o8
set_option autoImplicit true
set_option relaxedAutoImplicit true
set_option compiler.extract_closed false
set_option Elab.async false
set_option linter.all false
set_option maxRecDepth 100000
def t5:=@if_pos
def t6:=@if_neg
def t7:=@absurd
def t8:=@decide_eq_true_eq
def t9:=@beq_iff_eq
def u3:=@if_false
def u4:=@if_true
def u5:=@congrArg
def u6:=@beq_self_eq_true
-- CHANGE: your row's module here,as the last of these rows
theorem dF_{p:Prop}[Decidable p](h:¬p):decide p=b9:=decide_eq_false h
theorem dT_{p:Prop}[Decidable p](h:p):decide p=b8:=decide_eq_true h
theorem oT_{p:Prop}[Decidable p](h:decide p=b8):p:=of_decide_eq_true h
namespace L2
open PySem PySem.Spec PyProof.Rows
noncomputable abbrev F7:=Sum Int c5
noncomputable def yK:F7->c3->Bool
 |.inl k,v=>Value.isInt k v
 |.inr x,v=>Value.isStrOf x v
noncomputable def keyH(w:c6):F7->Int
 |.inl k=>hashInt k
 |.inr x=>hashStr w x
theorem bu:∀{k:F7}{v:c3},yK k v=b8->(∃i t,k=Sum.inl i/\v=Value.int i t)\/(∃x t,k=ABo x/\v=Value.str x t)
 |.inl i,v,h=>by obtain⟨t,e⟩:=Value.isInt_shape (k:=i) (v:=v) h;exact .inl ⟨i,t,rfl,e⟩
 |.inr x,v,h=>by obtain⟨t,e⟩:=Value.isStrOf_shape (x:=x) (v:=v) h;exact .inr ⟨x,t,rfl,e⟩
theorem Bs(i:Int)(t:Tok):yK (.inl i) (.int i t)=b8:=by simp[yK,Value.isInt]
theorem Br(x:c5)(t:Tok):yK (.inr x) (.str x t)=b8:=by simp[yK,Value.isStrOf]
theorem Ks(a b:Int):decide ((Sum.inl a:F7)=Sum.inl b)=(a==b):=by by_cases e:a=b;subst e;simp;have h:¬(Sum.inl a:F7)=Sum.inl b:=λq=>e<|Sum.inl.inj q;rw[dF_ h];exact(beq_eq_false_iff_ne.mpr e).symm
theorem FJ(a b:c5):decide ((ABo a:F7)=ABo b)=decide (a=b):=by by_cases e:a=b;subst e;simp;have h:¬(ABo a:F7)=ABo b:=λq=>e<|Sum.inr.inj q;rw[dF_ h,dF_ e]
theorem Kr(a:Int)(b:c5):decide ((Sum.inl a:F7)=ABo b)=b9:=dF_<|λq=>nomatch q
theorem Kq(a:c5)(b:Int):decide ((ABo a:F7)=Sum.inl b)=b9:=dF_<|λq=>nomatch q
noncomputable def bR(prog:c7)(w:c6):PySem.KeyKind prog w F7 where
 is:=yK
 hash:=keyH w
 inj:=λv a b f d=>by
  rcases bu f with⟨i,t,rfl,rfl⟩|⟨x,t,rfl,rfl⟩
  rcases bu d with⟨j,u,rfl,e⟩|⟨y,u,rfl,e⟩
  injection e with e1 _;rw[e1];exact nomatch e
  rcases bu d with⟨j,u,rfl,e⟩|⟨y,u,rfl,e⟩
  exact nomatch e
  injection e with e1 _;rw[e1]
 byValue:=λk v h=>by rcases bu h with⟨i,t,rfl,rfl⟩|⟨x,t,rfl,rfl⟩<;>rfl
 pyHash:=λc h=>by
  rcases bu c with⟨i,t,rfl,rfl⟩|⟨x,t,rfl,rfl⟩
  exact P1 h;exact P0 h
 eqBool:=λg c h=>by
  rcases bu g with⟨i,t,rfl,rfl⟩|⟨x,t,rfl,rfl⟩
  rcases bu c with⟨j,u,rfl,rfl⟩|⟨y,u,rfl,rfl⟩
  rw[Ks]at h;exact wpAny_eqBool_int h;rw[Kr]at h;exact P8 i t y u _ _ _ _ h;rcases bu c with⟨j,u,rfl,rfl⟩|⟨y,u,rfl,rfl⟩
  rw[Kq]at h;exact P7 x t j u _ _ _ _ h;rw[FJ]at h;exact wpAny_eqBool_str h
 «strs»:=λk x t v h=>by
  rcases bu h with⟨i,u,rfl,e⟩|⟨y,u,rfl,e⟩
  exact nomatch e
  injection e with e1 _;subst e1;cases v<;>rfl
theorem vN(prog:c7)(w:c6)(i:Int)(t:Tok):(bR prog w).is (.inl i) (.int i t)=b8:=Bs i t
theorem vM(prog:c7)(w:c6)(x:c5)(t:Tok):(bR prog w).is (.inr x) (.str x t)=b8:=Br x t
inductive V where
 |non|bl (b:Bool)|int (i:Int)|str (x:c5)|byt (b:Array UInt8)|flt (b:UInt64)|ref (a:c8)|ty (n:String)
 deriving DecidableEq
def aN:V->c3->Prop
 |.non,u=>u=ABv
 |.bl b,u=>u=Nr b
 |.int i,u=>∃t,u=Value.int i t
 |.str x,u=>∃t,u=Value.str x t
 |.byt b,u=>∃t,u=Value.bytes b t
 |.flt b,u=>∃t,u=Value.float b t
 |.ref a,u=>u=AAu a
 |.ty n,u=>u=MG n
abbrev az:List V->List c3->Prop:=Paired aN
theorem az.length(r:az xs us):xs.length=us.length:=Paired.length r
theorem az.get:∀{xs:List V}{us:List c3}{i:Nat}{x:V},az xs us->xs[i]?=a9 x->∃u,us[i]?=a9 u/\aN x u
 |_,_,_,_,.nil,e=>by simp at e
 |_,_,0,_,.cons r _,e=>by simp at e;subst e;exact⟨_,rfl,r⟩
 |_,_,i+1,x,.cons _ t,e=>by obtain⟨u,h1,h2⟩:=az.get (i:=i) (x:=x) t (by simpa using e);exact⟨u,by simpa using h1,h2⟩
theorem az.set(r:aN x u):∀{xs:List V}{us:List c3} (i:Nat),az xs us->az (xs.set i x) (us.set i u)
 |_,_,_,.nil=>.nil
 |_,_,0,.cons _ t=>.cons r t
 |_,_,i+1,.cons q t=>.cons q<|az.set r i t
theorem az.append(h:az xs us)(s:az ys ws):az (xs++ys) (us++ws):=by
 induction h with
 |nil=>exact s
 |cons r t i=>exact .cons r i
theorem az.take:∀{xs:List V}{us:List c3} (n:Nat),az xs us->az (xs.take n) (us.take n)
 |_,_,0,_=>.nil
 |_,_,_+1,.nil=>.nil
 |_,_,n+1,.cons r t=>.cons r<|az.take n t
theorem az.drop:∀{xs:List V}{us:List c3} (n:Nat),az xs us->az (xs.drop n) (us.drop n)
 |_,_,0,r=>r
 |_,_,_+1,.nil=>.nil
 |_,_,n+1,.cons _ t=>az.drop n t
def Ct:Option V->Option c3->Prop
 |some v,a9 u=>aN v u
 |none,b7=>True
 |_,_=>False
def KV{κ:Type}:List (κ×V)->List (κ×c3)->Prop:=Paired λ(p:κ×V) (q:κ×c3)=>p.1=q.1/\aN p.2 q.2
noncomputable def kV:F7->V
 |.inl i=>.int i
 |.inr x=>.str x
inductive HO where
 |lst (xs:List V)
 |tup (xs:List V)
 |dK (kvs:List (F7×V))|dT (kvs:List (List F7×V))
 |set (S:Int->Bool) (n:Nat)
 |ins (C dx:c8) (fs:List (c5×V))
 |own (x:c8)
 |xd (fs:List (c5×V))
 |met (f x:c8)
 |rng (lo hi:Int)
 |frz (o:c9) (u:HO)
 |tbl (ps:Array c3)
 |ext (φ:c7->c6->d5->Prop)
abbrev Hp:=c8->Option HO
noncomputable def A6(H:Hp)(a:c8)(o:HO):Hp:=λb=>if b=a then a9 o else H b
theorem aW:A6 H a o a=a9 o:=by unfold A6;rw[t5 rfl]
theorem ax(h:b≠a):A6 H a o b=H b:=by unfold A6;rw[t6 h]
theorem yz{H:Hp}{a b:c8}{o u:HO}(h:H a=a9 o)(h':H b=a9 u)(d:o≠u):a≠b:=by intro e;subst e;rw[h]at h';exact d<|D2 h'
theorem ah{H:Hp}{a b:c8}{o:HO}(h:H a=a9 o)(h':H b=b7):a≠b:=by intro e;subst e;rw[h]at h';cases h'
section
variable(P:c7)(w:c6)
def Fj(h:d5)(a:c8)(s:Array c3):Prop:=∃o,h.get? a=a9 o/\o.cls=.type "tuple"/\(∃n,o.data=.seq s n)/\o.dict=b7
theorem Fj.tup:Fj h a items->IsTup h a items:=λ⟨o,e,c,⟨n,d⟩,_⟩=>⟨o,e,c,n,d⟩
theorem Fj.new(h:d5)(s:Array c3):Fj (h.push { cls:=.type "tuple",data:=.seq s }) h.objs.size s:=⟨_,C0 _ rfl,rfl,⟨_,rfl⟩,rfl⟩
def cA(H:Hp)(h:d5)(a:c8):HO->Prop
 |.lst xs=>xs.length<=sizeLine/\∃(its:List c3) (n:Nat),az xs its/\h.get? a=a9 { cls:=.type "list",data:=.seq its.toArray n }
 |.tup xs=>xs.length<=sizeLine/\∃its:List c3,az xs its/\Fj h a its.toArray
 |.dK kvs=>kvs.length<=sizeLine/\(a==d6)=b9/\∃vs,KV kvs vs/\h.DictOf (bR P w) a vs
 |.dT kvs=>kvs.length<=sizeLine/\(a==d6)=b9/\∃xs:List (List F7×c8×c3),Paired (λ(p:List F7×V) (q:List F7×c8×c3)=>p.1=q.1/\H q.2.1=a9 (.tup<|p.1.map kV)/\aN p.2 q.2.2) kvs xs /\∃o es ep,h.get? a=a9 o/\o.ExactDict/\o.data=.dict es ep/\es.toList=xs.map (d7<|tupleKind<|bR P w)/\(xs.map (·.1)).Nodup
 |.set S n=>h.SetOf (intKind P w) a S n
 |.ins C dx fs=>H dx=a9 (.own a)/\fs.length<=1000/\dx≠a/\h.get? a=a9 (PySem.W.instObj C dx) /\∃mA,h.Ns1 dx mA/\(∀f,Ct (fs.lookup f)<|mA f)/\PySem.Within mA (fs.map (·.1))
 |.own _=>∃o,h.get? a=a9 o
 |.xd fs=>∃mA,h.Ns1 a mA/\∀f,Ct (fs.lookup f)<|mA f
 |.rng lo hi=>∃t u v,h.get? a=a9 { cls:=.type "range",data:=.fields #[.int lo t,.int hi u,.int 1 v] }
 |.frz o u=>h.get? a=a9 o/\cA H h a u
 |.tbl ps=>h.get? a=a9 { cls:=.none,data:=.fields ps }
 |.met f x=>h.get? a=a9 (Rj (.ref f)<|.ref x)
 |.ext φ=>φ P w h/\(∃o,h.get? a=a9 o)/\∀h1 h2:d5,φ P w h1->(∀o,h1.get? a=a9 o->h2.get? a=a9 o)->φ P w h2
def E3(H:Hp)(h:d5):Prop:=∀a o,H a=a9 o->cA P w H h a o
end
theorem cA.lt(x:cA P w H h a o):a<h.objs.size:=by
 cases o with
 |lst xs=>obtain⟨_,_,_,_,e⟩:=x;exact A4 e
 |tup xs=>obtain⟨_,_,_,p⟩:=x;exact p.tup.lt
 |dK kvs=>obtain⟨_,_,_,_,o,_,_,e,_⟩:=x;exact A4 e
 |dT kvs=>obtain⟨_,_,_,_,o,_,_,e,_⟩:=x;exact A4 e
 |set S n=>obtain⟨o,_,_,_,e,_⟩:=x;exact A4 e
 |ins C d s=>obtain⟨_,_,_,e,_⟩:=x;exact A4 e
 |own y=>obtain⟨_,e⟩:=x;exact A4 e
 |xd s=>obtain⟨_,⟨_,_,_,e,_⟩,_⟩:=x;exact A4 e
 |rng l hi=>obtain⟨_,_,_,e⟩:=x;exact A4 e
 |frz b u=>obtain⟨e,_⟩:=x;exact A4 e
 |tbl ps=>exact A4<|show h.get? a=a9 _ from x
 |met f y=>exact A4<|show h.get? a=a9 _ from x
 |ext φ=>obtain⟨_,⟨_,e⟩,_⟩:=x;exact A4 e
theorem Paired.mapP{α β:Type}{F G:α->β->Prop}:∀{l₁:List α}{l₂:List β},Paired F l₁ l₂->(∀a b,F a b->G a b)->Paired G l₁ l₂
 |_,_,.nil,_=>.nil
 |_,_,.cons r t,f=>.cons (f _ _ r)<|Paired.mapP t f
theorem cA.stay(x:cA P w H h a o)(k:∀b u,(b=a\/H b=a9 (.own a))->h.get? b=a9 u->h'.get? b=a9 u)(m:∀b,H b=a9 (.own a)->H' b=a9 (.own a)) (B:∀b xs,H b=a9 (.tup xs)->H' b=a9 (.tup xs)):cA P w H' h' a o:=by
 induction o with
 |lst xs=>obtain⟨z,its,n,r,e⟩:=x;exact⟨z,its,n,r,k _ _ (.inl rfl) e⟩
 |tup xs=>obtain⟨z,its,r,g,e,c⟩:=x;exact⟨z,its,r,g,k _ _ (.inl rfl) e,c⟩
 |dK kvs=>obtain⟨z,y,vs,r,g,es,i,e,c⟩:=x;exact⟨z,y,vs,r,g,es,i,k _ _ (.inl rfl) e,c⟩
 |dT kvs=>obtain⟨z,y,xs,r,g,es,i,e,c⟩:=x;exact⟨z,y,xs,Paired.mapP r λp q z=>⟨z.1,B _ _ z.2.1,z.2.2⟩,g,es,i,k _ _ (.inl rfl) e,c⟩
 |set S n=>obtain⟨g,es,i,t,e,c⟩:=x;exact⟨g,es,i,t,k _ _ (.inl rfl) e,c⟩
 |ins C F s=>obtain⟨d,z,E,e,A,⟨j,es,i,l,c⟩,r⟩:=x;exact⟨m _ d,z,E,k _ _ (.inl rfl) e,A,⟨j,es,i,k _ _ (.inr d) l,c⟩,r⟩
 |own y=>obtain⟨g,e⟩:=x;exact⟨g,k _ _ (.inl rfl) e⟩
 |xd s=>obtain⟨A,⟨j,es,i,e,c⟩,r⟩:=x;exact⟨A,⟨j,es,i,k _ _ (.inl rfl) e,c⟩,r⟩
 |rng G hi=>obtain⟨t,u,v,e⟩:=x;exact⟨t,u,v,k _ _ (.inl rfl) e⟩
 |frz g u D=>obtain⟨e,q⟩:=x;exact⟨k _ _ (.inl rfl) e,D q⟩
 |tbl ps=>have e:h.get? a=a9 { cls:=.none,data:=.fields ps }:=x;show h'.get? a=a9 { cls:=.none,data:=.fields ps };exact k a _ (.inl rfl) e
 |met f y=>have e:h.get? a=a9 (Rj (.ref f)<|.ref y):=x;show h'.get? a=a9 (Rj (.ref f)<|.ref y);exact k a _ (.inl rfl) e
 |ext φ=>obtain⟨p,⟨o,e⟩,st⟩:=x;exact⟨st _ _ p λo q=>k _ _ (.inl rfl) q,⟨o,k _ _ (.inl rfl) e⟩,st⟩
theorem E3.lt(x:E3 P w H h)(e:H a=a9 o):a<h.objs.size:=(x a o e).lt
theorem E3.fresh(x:E3 P w H h)(e:h.objs.size<=a):H a=b7:=by
 cases q:H a with
 |none=>rfl
 |some u=>exact t7 (L0 (x.lt q) e)<|G3 _
theorem E3.kept(x:E3 P w H h)(k:∀b u,h.get? b=a9 u->h'.get? b=a9 u):E3 P w H h':=λa o e =>
 (x a o e).stay (λb u _ q=>k b u q) (λ_ q=>q) λ_ _ q=>q
theorem E3.laid(x:E3 P w H h)(k:∀b u,h.get? b=a9 u->h'.get? b=a9 u)(hp:h.objs.size<=a)(n:cA P w (A6 H a o) h' a o):E3 P w (A6 H a o) h':=λb u e=>by have f:=x.fresh hp;by_cases d:b=a;subst d;rw[aW]at e;cases e;exact n;rw[ax d]at e;exact(x b u e).stay (λc v _ q=>k c v q) (λc q=>by rw[ax<|ah q f];exact q) λc xs q=>by rw[ax<|ah q f];exact q
def Rd(H:Hp)(a:c8)(u:HO):Prop:=H a=a9 u\/∃o,H a=a9 (.frz o u)
theorem Rd.ok(r:Rd H a u)(x:E3 P w H h):cA P w H h a u:=by
 rcases r with r|⟨o,r⟩
 exact x a u r;obtain⟨_,q⟩:=x a _ r;exact q
def Pw:Option HO->Prop
 |some (.lst _)=>True
 |some (.dK _)=>True
 |some (.dT _)=>True
 |some (.set _ _)=>True
 |some (.ins _ _ _)=>True
 |some (.ext _)=>True
 |_=>False
theorem E3.write(ok:E3 P w H h)(m:Pw (H x))(i:e=x\/H e=a9 (.own x))(k:∀b u,b≠e->h.get? b=a9 u->h'.get? b=a9 u)(o:∃u,h'.get? e=a9 u)(g:cA P w (A6 H x o') h' x o'):E3 P w (A6 H x o') h':=λb u q=>by
 have n:∀c y,H c=a9 (.own y)->c≠x:=λc y r z=>by subst z;rw[r]at m;exact m
 have p:∀c xs,H c=a9 (.tup xs)->c≠x:=λc xs r z=>by subst z;rw[r]at m;exact m
 by_cases d:b=x;subst d;rw[aW]at q;cases q;exact g;rw[ax d]at q;by_cases a:b=e;have j:H b=a9 (.own x):=by rcases i with z|z;exact t7 (a.trans z) d;rw[a];exact z
 rw[q]at j;cases j;obtain⟨v,l⟩:=o;exact⟨v,by rw[a];exact l⟩;refine(ok b u q).stay (λc v f r=>k c v ?_ r) (λc r=>by rw[ax<|n c b r];exact r) λc xs r=>by rw[ax<|p c xs r];exact r
 rcases f with rfl|f;exact a;rintro rfl;rcases i with z|z;exact n c b f z;rw[f]at z;cases z;exact d rfl
structure Un(fs ex:List c8)(H H':Hp)(h h':d5):Prop where
 keep:∀b o,h.get? b=a9 o->H b=b7->b∉fs->b∉ex->h'.get? b=a9 o
 slot:∀b o,h.get? b=a9 o->H b=b7->b∈fs->b∉ex->∃sl,h'.get? b=a9 { o with slots:=sl }
 free:∀b o,h.get? b=a9 o->H b=b7->b∉ex->H' b=b7
 there:∀b o,h.get? b=a9 o->b∉ex->∃o',h'.get? b=a9 o'
 tups:∀b xs,H b=a9 (.tup xs)->H' b=a9 (.tup xs)
 frzs:∀b o u,H b=a9 (.frz o u)->H' b=a9 (.frz o u)
 tbls:∀b ps,H b=a9 (.tbl ps)->∃more,H' b=a9 (.tbl<|ps++more)
theorem Un.any(u:Un fs ex H H1 h h1)(q:h.get? b=a9 ob)(n:H b=b7)(x:b∉ex):∃sl,h1.get? b=a9 { ob with slots:=sl }:=by by_cases d:b∈fs;exact u.slot b ob q n d x;exact⟨ob.slots,u.keep b ob q n d x⟩
theorem Un.kept(k:∀b u,h.get? b=a9 u->h'.get? b=a9 u):Un fs ex H H h h':=⟨λb o q _ _ _=>k b o q,λb o q _ _ _=>⟨o.slots,k b o q⟩,λ_ _ _ n _=>n,λb o q _=>⟨o,k b o q⟩,λ_ _ q=>q,λ_ _ _ q=>q,λ_ ps q=>⟨#[],by rw[q];simp⟩⟩
theorem Un.refl:Un fs ex H H h h:=Un.kept λ_ _ q=>q
theorem Un.laid(k:∀b u,h.get? b=a9 u->h'.get? b=a9 u)(hp:h.objs.size<=a)(f:H a=b7):Un fs ex H (A6 H a o) h h' where
 keep:=λb u q _ _ _=>k b u q
 slot:=λb u q _ _ _=>⟨u.slots,k b u q⟩
 free:=λb u q n _=>by rw[ax<|A9<|L0 (A4 q) hp];exact n
 there:=λb u q _=>⟨u,k b u q⟩
 tups:=λb xs q=>by rw[ax<|ah q f];exact q
 frzs:=λb u xs q=>by rw[ax<|ah q f];exact q
 tbls:=λb ps q=>⟨#[],by rw[ax<|ah q f,q];simp⟩
theorem Un.write(m:Pw (H x))(i:e=x\/H e=a9 (.own x))(k:∀b u,b≠e->h.get? b=a9 u->h'.get? b=a9 u)(c:∃u,h'.get? e=a9 u):Un fs ex H (A6 H x o) h h':=by
 have g:∀b,H b=b7->b≠x:=λb n z=>by subst z;rw[n]at m;exact m
 have f:∀b,H b=b7->b≠e:=λb n z=>by subst z;rcases i with r|r;exact g b n r;rw[n]at r;cases r
 have d:∀b u,H b=a9 u->¬Pw (a9 u)->b≠x:=λb u q j z=>by subst z;rw[q]at m;exact j m
 refine⟨λb u q n _ _=>k b u (f b n) q,λb u q n _ _=>⟨u.slots,k b u (f b n) q⟩,λb u q n _=>by rw[ax<|g b n];exact n,λb u q _=>?_,λb xs q=>by rw[ax<|d b _ q λz=>z];exact q,λb u xs q=>by rw[ax<|d b _ q λz=>z];exact q,λb ps q=>⟨#[],by rw[ax<|d b _ q λz=>z,q];simp⟩⟩;by_cases a:b=e;subst a;exact c;exact⟨u,k b u a q⟩
noncomputable def trk(h:d5)(H:Hp):List c8:=(C9 h.objs.size).filter λa=>(H a).isSome
noncomputable def Ey(h:d5)(H:Hp):d5:=PySem.W.hideAll h<|trk h H
theorem BE(h:d5)(H:Hp):(Ey h H).objs.size=h.objs.size:=PySem.W.hideAll_size _ _
theorem Ew(e:h.get? b=a9 o)(n:H b=b7):(Ey h H).get? b=a9 o:=PySem.W.hideAll_get _ e λd=>by have q:(H b).isSome=b8:=(E7.mp d).2;rw[n]at q;simp at q
theorem GM(e:(Ey h H).get? b=a9 o):h.get? b=a9 o/\H b=b7:=by
 have a:h.get? b=a9 o:=PySem.W.of_hideAll (trk h H) e;refine⟨a,?_⟩;cases q:H b with
 |none=>rfl
 |some x=>have d:b∈trk h H:=E7.mpr ⟨K0.mpr<|A4 a,by simp[q]⟩;have z:(Ey h H).get? b=b7:=PySem.W.hideAll_none (trk h H) d;rw[z]at e;cases e
noncomputable def II(g h:d5)(L:c8):List (c8×c9):=(C9 h.objs.size).filterMap λa=>if a=L\/(g.get? a).isSome=b8 then b7 else(h.get? a).map λo=>(a,o)
noncomputable def aH(g h:d5)(L d:c8):List (c8×c9):=(II g h L).filter λp=>decide<|p.1≠d
structure Mod(K:w9)(mg:c5->Option c3)(base:d5):Prop where
 kin:K.In base
 glob:base.Ns d9 mg
 blt:∃mb,base.Ns builtinsNs mb/\∀x:c5,x≠"__name__"->mb x=f6 x
 nolimit:base.NoLimit
/-- the context: a def's body (or a comprehension's block) running. base: fixed through the whole law;s₀,H₀: the entry;outer: the frames whose slots others may change (a def's callers);stack: all frames that run;
  ex: iterators that were made fG of the entry and are walked here (a comprehension's);fn: the names whose cells were made at the entry (a def: all;a comprehension's block: its own);calm: not cC an except suite;pn: pins that every state bears;xe: what is wanted of an exception that leaves the code -/
structure Cx where
 prog:c7
 w:c6
 K:w9
 mg:c5->Option c3
 base:d5
 A:f7
 N:List c5
 s₀:f8
 H₀:Hp
 env:Env
 outer:List Env
 stack:List Env
 ex:List c8
 fn:c5->Bool
 calm:Bool
 pn:List (c8×c9)
 xe:c3->f8->Prop
noncomputable def K7(l:List Env):List c8:=l.filterMap (·.frame)
noncomputable abbrev Cx.fs(X:Cx):List c8:=K7 X.outer
def Oj(c:f9)(x:c5):Prop:=c.names.lookup x=a9 .local\/c.names.lookup x=a9 .cell\/c.names.lookup x=a9 .free
def NU(c:f9)(x:c5):Prop:=c.names.lookup x=a9 .local\/c.names.lookup x=a9 .cell
def Look(env:Env)(h:d5)(m:c5->Option c3)(x:c5)(u:c3):Prop:=(env.kindOf x=a9 .local/\m x=a9 u)\/((env.kindOf x=a9 .cell\/env.kindOf x=a9 .free)/\∃c,env.cells.lookup x=a9 c/\h.IsCell c (a9 u))
structure Cx.Ok(X:Cx):Prop where
 mod:Mod X.K X.mg X.base
 kind:X.env.scope.kind=.function
 glob:X.env.globals=d9
 blt:X.env.builtins=builtinsNs
 above:X.s₀.heap.objs.size<=X.env.locals
 inj:∀x y c,X.env.cells.lookup x=a9 c->X.env.cells.lookup y=a9 c->x=y
 has:∀x,(X.env.kindOf x=a9 .cell\/X.env.kindOf x=a9 .free)->∃c,X.env.cells.lookup x=a9 c
 cab:∀x c,X.fn x=b8->X.env.cells.lookup x=a9 c->X.s₀.heap.objs.size<=c
 hd:X.calm=b8->X.A.handled=b7
 frames:X.A.frames=a9 X.stack
 stk:X.stack=X.outer\/(X.stack=X.env::X.outer/\X.env.frame=a9 X.env.locals)
 exf:∀b∈X.ex,b≠X.env.locals/\∀x c,X.env.cells.lookup x=a9 c->c≠b
 bs:∀b o,X.base.get? b=a9 o->X.s₀.heap.get? b=a9 o/\X.H₀ b=b7
 bsz:X.base.objs.size<=X.s₀.heap.objs.size
 noex:∀b o,X.base.get? b=a9 o->b∉X.ex
 exfs:∀b∈X.ex,b∉X.fs
 funs:X.s₀.heap.FunFrames X.base X.outer
 frf:∀b∈X.fs,X.H₀ b=b7
structure v4(X:Cx)(pins:List (c8×c9))(σ:List (Option V))(H:Hp)(s:f8):Prop where
 ok:X.Ok
 os:s.os=X.s₀.os
 bare:ge s.gens
 base:Un X.fs X.ex X.H₀ H X.s₀.heap s.heap
 loc:∃m,s.heap.Ns X.env.locals m/\∀(i:Nat) (x:c5) (v:V),X.N[i]?=a9 x->σ[i]?=a9 (a9 v)->Oj X.env.scope x->∃u,aN v u/\Look X.env s.heap m x u
 cell:∀x c,X.env.cells.lookup x=a9 c->∃v,s.heap.IsCell c v
 free:H X.env.locals=b7
 freeC:∀x c,X.env.cells.lookup x=a9 c->H c=b7
 pin:∀p∈X.pn++pins,s.heap.get? p.1=a9 p.2/\H p.1=b7/\p.1≠X.env.locals/\p.1∉X.fs/\∀v,p.2.data≠.cell v
 hok:E3 X.prog X.w H s.heap
 len:σ.length=X.N.length
theorem Cx.Ok.nofr{X:Cx}(ok:X.Ok)(e:X.base.get? b=a9 o):b∉X.fs:=λd=>by have:=(ok.funs.mem d).1;rw[e]at this;cases this
theorem v4.bs{X:Cx}{pins:List (c8×c9)}{σ:List (Option V)}{H:Hp}{s:f8}(I:v4 X pins σ H s):∀b o,X.base.get? b=a9 o->s.heap.get? b=a9 o/\H b=b7:=λb o e =>
 ⟨I.base.keep b o (I.ok.bs b o e).1 (I.ok.bs b o e).2 (I.ok.nofr e)<|I.ok.noex b o e,I.base.free b o (I.ok.bs b o e).1 (I.ok.bs b o e).2<|I.ok.noex b o e⟩
theorem v4.bk(I:v4 X pins σ H s):∀b o,X.base.get? b=a9 o->s.heap.get? b=a9 o:=λb o e=>(I.bs b o e).1
theorem v4.mod(I:v4 X pins σ H s):Mod X.K X.mg X.base:=I.ok.mod
theorem v4.kIn(I:v4 X pins σ H s):X.K.In s.heap:=I.ok.mod.kin.keeps I.bk
theorem v4.lt(I:v4 X pins σ H s):X.env.locals<s.heap.objs.size:=let ⟨_,hn,_⟩:=I.loc;hn.lt
theorem v4.sz(I:v4 X pins σ H s):X.s₀.heap.objs.size<=s.heap.objs.size:=J7 I.ok.above<|MR I.lt
theorem v4.nofs(I:v4 X pins σ H s)(h:s.heap.objs.size<=a):a∉X.fs:=λd=>by obtain⟨_,o,m,_⟩:=I.ok.funs.mem d;exact t7 (L0 (A4 m)<|J7 I.sz h)<|G3 _
theorem v4.cne(I:v4 X pins σ H s):∀x c,X.env.cells.lookup x=a9 c->c≠X.env.locals:=λx c e z=>by obtain⟨v,o,b,d⟩:=I.cell x c e;obtain⟨m,⟨o',es,i,a,h,_⟩,_⟩:=I.loc;rw[z,a]at b;cases b;rw[h]at d;cases d
theorem v4.funs(I:v4 X pins σ H s):s.heap.FunFrames X.base X.outer:=by
 have a:∀(l:List Env),(∀b∈K7 l,b∈X.fs)->X.s₀.heap.FunFrames X.base l->s.heap.FunFrames X.base l:=by
  intro l;induction l with
  |nil=>intro _ _;trivial
  |cons env r j=>intro hs g;obtain⟨k,⟨L,o,f,n,m,c⟩,i⟩:=g;have h:L∈X.fs:=hs L (by unfold K7;rw[Ny,f];exact F4);obtain⟨p,e⟩:=I.base.slot L o m (I.ok.frf L h) h λz=>I.ok.exfs L z h;exact⟨k,⟨L,_,f,n,e,c⟩,j (λb d=>hs b<|by unfold K7;rw[Ny,f];exact C6 _ d) i⟩
 exact a X.outer (λ_ d=>d) I.ok.funs
theorem v4.stack(I:v4 X pins σ H s):s.heap.FunFrames X.base X.stack:=by
 rcases I.ok.stk with e|⟨e,f⟩
 rw[e];exact I.funs;rw[e];obtain⟨m,n,_⟩:=I.loc;refine .cons (by rw[I.ok.kind];decide) f n ?_ I.funs;exact Heap.get?_none_of_le<|J7 I.ok.bsz I.ok.above
theorem v4.stkSub(I:v4 X pins σ H s):∀b∈K7 X.stack,b∈X.env.locals::X.fs:=λb d=>by
 rcases I.ok.stk with e|⟨e,f⟩
 rw[e]at d;exact C6 _ d;rw[e]at d;unfold K7 at d;rw[Ny,f]at d;exact d
theorem v4.stkFree(I:v4 X pins σ H s):∀b∈K7 X.stack,H b=b7:=λb d=>by rcases C3.mp (I.stkSub b d)with e|d;rw[e];exact I.free;obtain⟨_,o,m,_⟩:=I.ok.funs.mem d;exact I.base.free b o m (I.ok.frf b d) λz=>I.ok.exfs b z d
theorem v4.step{g':Array GenState}{t':Nat}{d':Drawn}{ch:List c8}(I:v4 X pins σ H s)(a:∀b∈ch,(b∈X.ex\/X.s₀.heap.objs.size<=b)/\b≠X.env.locals/\(∀x c,X.env.cells.lookup x=a9 c->c≠b)/\∀p∈X.pn++pins,p.1≠b)(g:∀b o,b≠X.env.locals->b∉X.fs->b∉ch->s.heap.get? b=a9 o->H b=b7->h'.get? b=a9 o)(slot:∀b o,b≠X.env.locals->b∈X.fs->b∉ch->s.heap.get? b=a9 o->H b=b7->∃sl,h'.get? b=a9 { o with slots:=sl }) (f:∀b o,b∉ch->s.heap.get? b=a9 o->H b=b7->H' b=b7)(A:∀b o,b∉ch->s.heap.get? b=a9 o->∃o',h'.get? b=a9 o')(G:∀b xs,H b=a9 (.tup xs)->H' b=a9 (.tup xs)) (E:∀b o u,H b=a9 (.frz o u)->H' b=a9 (.frz o u)) (F:∀b ps,H b=a9 (.tbl ps)->∃more,H' b=a9 (.tbl<|ps++more))(ns:∀m,s.heap.Ns X.env.locals m->h'.Ns X.env.locals m) (K:E3 X.prog X.w H' h') (R:ge g') :
  v4 X pins σ H' { s with heap:=h',gens:=g',drawn:=d',toks:=t' }:=by
 have L:∀b o,X.s₀.heap.get? b=a9 o->b≠X.env.locals:=λb o e=>A9<|L0 (A4 e) I.ok.above;have C:∀b o,X.s₀.heap.get? b=a9 o->b∉X.ex->b∉ch:=λb o e h y=>by rcases(a b y).1 with z|z;exact h z;exact t7 (L0 (A4 e) z)<|G3 _
 have cellK:∀x c,X.env.cells.lookup x=a9 c->∀v,s.heap.IsCell c v->h'.IsCell c v:=λx c e v ⟨o,B,J⟩=>by have j:c∉ch:=λz=>(a c z).2.2.1 x c e rfl;by_cases N:c∈X.fs;obtain⟨sl,q⟩:=slot c o (I.cne x c e) N j B<|I.freeC x c e;exact⟨_,q,J⟩;exact⟨o,g c o (I.cne x c e) N j B<|I.freeC x c e,J⟩
 refine⟨I.ok,I.os,R,⟨λb o e n y h=>?_,λb o e n y h=>?_,λb o e n h=>?_,λb o e h=>?_,λb xs e=>G b xs<|I.base.tups b xs e,λb o xs e=>E b o xs<|I.base.frzs b o xs e,λb ps e=>?_⟩,?_,λx c e=>?_,?_,λx c e=>?_,λp hp=>?_,K,I.len⟩;exact g b o (L b o e) y (C b o e h) (I.base.keep b o e n y h)<|I.base.free b o e n h;obtain⟨sl,t⟩:=I.base.slot b o e n y h;obtain⟨M,D⟩:=slot b _ (L b o e) y (C b o e h) t<|I.base.free b o e n h;exact⟨M,D⟩;obtain⟨o',t⟩:=I.base.there b o e h;exact f b o' (C b o e h) t<|I.base.free b o e n h;obtain⟨o',t⟩:=I.base.there b o e h;exact A b o' (C b o e h) t;obtain⟨U,t⟩:=I.base.tbls b ps e;obtain⟨V,D⟩:=F b _ t;exact⟨U++V,by rw[D,Array.append_assoc]⟩;obtain⟨m,T,S⟩:=I.loc;refine⟨m,ns m T,λi x v t D Q=>?_⟩;obtain⟨u,r,l⟩:=S i x v t D Q;refine⟨u,r,?_⟩;rcases l with l|⟨k,c,e,z⟩
 exact .inl l;exact .inr ⟨k,c,e,cellK x c e _ z⟩;obtain⟨v,z⟩:=I.cell x c e;exact⟨v,cellK x c e v z⟩;obtain⟨m,⟨o,_,_,B,_⟩,_⟩:=I.loc;exact f _ o (λz=>(a _ z).2.1 rfl) B I.free;obtain⟨v,o,B,J⟩:=I.cell x c e;exact f c o (λz=>(a c z).2.2.1 x c e rfl) B<|I.freeC x c e;obtain⟨e,n,O,P,d⟩:=I.pin p hp;have j:p.1∉ch:=λz=>(a p.1 z).2.2.2 p hp rfl;exact⟨g p.1 p.2 O P j e n,f p.1 p.2 j e n,O,P,d⟩
theorem v4.un{t':Nat}(I:v4 X pins σ H s)(u:Un X.fs [] H H' s.heap h')(K:E3 X.prog X.w H' h'):v4 X pins σ H' { s with heap:=h',toks:=t' }:=by obtain⟨m,⟨o,es,i,f,r⟩,_⟩:=id I.loc;obtain⟨p,L⟩:=u.any f I.free (by simp);exact I.step (g':=s.gens) (d':=s.drawn) (ch:=[]) (λ_ z=>nomatch z) (λb o _ h _ e n=>u.keep b o e n h<|by simp) (λb o _ h _ e n=>u.slot b o e n h<|by simp) (λb o _ e n=>u.free b o e n<|by simp) (λb o _ e=>u.there b o e<|by simp) u.tups u.frzs u.tbls (λj g=>by obtain⟨o',d,c,a,r'⟩:=g;rw[f]at a;cases a;exact⟨_,d,c,L,r'⟩) K I.bare
theorem v4.call{g':Array GenState}{t':Nat}{d':Drawn}{ch:List c8}(I:v4 X pins σ H s)(u:Un (K7 X.stack) ch H H' s.heap h')(K:E3 X.prog X.w H' h')(R:ge g')(a:∀b∈ch,(b∈X.ex\/X.s₀.heap.objs.size<=b)/\b≠X.env.locals/\(∀x c,X.env.cells.lookup x=a9 c->c≠b)/\∀p∈X.pn++pins,p.1≠b):v4 X pins σ H' { s with heap:=h',gens:=g',drawn:=d',toks:=t' }:=by obtain⟨m,⟨o,es,l,i,r⟩,_⟩:=id I.loc;obtain⟨t,L⟩:=u.any i I.free λz=>(a _ z).2.1 rfl;exact I.step (ch:=ch) a (λb o L j f e n=>u.keep b o e n (λz=>(C3.mp<|I.stkSub b z).elim L j) f) (λb o _ _ f e n=>u.any e n f) (λb o f e n=>u.free b o e n f) (λb o f e=>u.there b o e f) u.tups u.frzs u.tbls (λq k=>by obtain⟨o',g,d,h,r'⟩:=k;rw[i]at h;cases h;exact⟨_,g,d,L,r'⟩) K R
theorem v4.turned{t':Nat}{it:c8}(I:v4 X pins σ H s)(k:∀b o,b≠it->s.heap.get? b=a9 o->h'.get? b=a9 o)(j:H it=b7)(h:it≠X.env.locals)(h1:it∈X.ex\/X.s₀.heap.objs.size<=it) (h2:∀x c,X.env.cells.lookup x=a9 c->c≠it) (a:∀p∈X.pn++pins,p.1≠it):v4 X pins σ H { s with heap:=h',toks:=t' }:=by
 have t:∀b u,H b=a9 u->b≠it:=λb u e z=>by rw[z,j]at e;cases e
 refine I.step (g':=s.gens) (d':=s.drawn) (ch:=[it]) (λb d=>?_) (λb o _ _ f e _=>k b o (λz=>f<|by simp[z]) e) (λb o _ _ f e _=>⟨o.slots,k b o (λz=>f<|by simp[z]) e⟩) (λ_ _ _ _ n=>n) (λb o f e=>⟨o,k b o (λz=>f<|by simp[z]) e⟩) (λ_ _ e=>e) (λ_ _ _ e=>e) (λb ps e=>⟨#[],by rw[e];simp⟩) (λm g=>?_) (λb u e=>?_) I.bare;have e:b=it:=by simpa using d
 subst e;exact⟨h1,h,h2,a⟩;obtain⟨o,es,i,l,r⟩:=g;exact⟨o,es,i,k _ o (D4 h) l,r⟩;refine(I.hok b u e).stay (λc v f q=>k c v ?_ q) (λ_ q=>q) λ_ _ q=>q;rcases f with z|z;rw[z];exact t b u e;exact t c _ z
theorem v4.tok(I:v4 X pins σ H s)(t:Nat):v4 X pins σ H { s with toks:=t }:=I.un (h':=s.heap) (t':=t) Un.refl I.hok
theorem v4.kept(I:v4 X pins σ H s)(k:∀b u,s.heap.get? b=a9 u->h'.get? b=a9 u):v4 X pins σ H { s with heap:=h',toks:=t' }:=I.un (Un.kept k)<|I.hok.kept k
theorem v4.laid(I:v4 X pins σ H s)(k:∀b u,s.heap.get? b=a9 u->h'.get? b=a9 u)(hp:s.heap.objs.size<=a)(n:cA X.prog X.w (A6 H a o) h' a o):v4 X pins σ (A6 H a o) { s with heap:=h',toks:=t' }:=I.un (Un.laid k hp<|I.hok.fresh hp)<|I.hok.laid k hp n
theorem v4.write(I:v4 X pins σ H s)(m:Pw (H x))(i:e=x\/H e=a9 (.own x))(k:∀b u,b≠e->s.heap.get? b=a9 u->h'.get? b=a9 u)(h:∃u,h'.get? e=a9 u)(n:cA X.prog X.w (A6 H x o) h' x o):v4 X pins σ (A6 H x o) { s with heap:=h',toks:=t' }:=I.un (Un.write m i k h)<|I.hok.write m i k h n
theorem v4.pins_of(I:v4 X pins σ H s)(h:∀p∈pins',s.heap.get? p.1=a9 p.2/\H p.1=b7/\p.1≠X.env.locals/\p.1∉X.fs/\∀v,p.2.data≠.cell v):v4 X pins' σ H s:=⟨I.ok,I.os,I.bare,I.base,I.loc,I.cell,I.free,I.freeC,λp hp=>(Fn.mp hp).elim (λz=>I.pin p<|MC _ z)<|h p,I.hok,I.len⟩
theorem xq{N:List c5}(h:N.Nodup){i j:Nat}{x:c5}(a:N[i]?=a9 x)(b:N[j]?=a9 x):i=j:=by obtain⟨h1,t⟩:=C2.mp a;obtain⟨h2,l⟩:=C2.mp b;exact(List.getElem_inj h).mp<|t.trans l.symm
theorem Ag{M:Model}{A:f7}{E:c3->f8->Prop}{i:Nat}{x:c5}{v:V}{u:c3}{Q:Unit->f8->Prop}(I:v4 X pins σ H s)(hN:X.N.Nodup)(hi:X.N[i]?=a9 x)(l:NU X.env.scope x)(r:aN v u)(h:∀s',v4 X pins (σ.set i<|a9 v) H s'->(∃a,K5 a s.heap s'.heap/\(a=X.env.locals\/X.env.cells.lookup x=a9 a))->Q () s') (hf:X.fn x=b8\/X.env.scope.names.lookup x=a9 .local:=by first|exact .inl rfl|exact .inr rfl|assumption):g9 M A (storeName X.env x u) Q E s:=by
 obtain⟨m,hn,hl⟩:=id I.loc;have R:(X.env.scope.kind==.class||(X.env.scope.kind==.module&&X.env.locals != X.env.globals))=b9:=by rw[I.ok.kind];rfl
 have D:i<σ.length:=by rw[I.len];exact(C2.mp hi).1
 have G:=I.cne;have f:∀{a:c8}{h':d5},(∃o,s.heap.get? a=a9 o/\H a=b7)->K5 a s.heap h'->E3 X.prog X.w H h':=λ{a h'} ha hs b ob e=>by obtain⟨_,_,B⟩:=ha;refine(I.hok b ob e).stay (λc Y g q=>(hs.2 c ?_).trans q) (λ_ q=>q) λ_ _ q=>q;rintro rfl;rcases g with rfl|g;rw[B]at e;cases e;rw[B]at g;cases g
 rcases l with F|F;refine wpAny_storeName_local F hn (λh' ag hs=>?_) R;obtain⟨oL,_,_,ai,_⟩:=id hn;refine h _ ⟨I.ok,I.os,I.bare,⟨λb o e n J l=>?_,λb o e n J l=>?_,I.base.free,λb o e l=>?_,I.base.tups,I.base.frzs,I.base.tbls⟩,⟨_,ag,λj y v' t C Z=>?_⟩,λy c e=>?_,I.free,I.freeC,λp hp=>?_,f ⟨oL,ai,I.free⟩ hs,by simpa using I.len⟩ ⟨_,hs,.inl rfl⟩;exact(hs.2 b<|A9<|L0 (A4 e) I.ok.above).trans<|I.base.keep b o e n J l;obtain⟨sl,t⟩:=I.base.slot b o e n J l;exact⟨sl,(hs.2 b<|A9<|L0 (A4 e) I.ok.above).trans t⟩;obtain⟨o',t⟩:=I.base.there b o e l;exact⟨o',(hs.2 b<|A9<|L0 (A4 e) I.ok.above).trans t⟩;by_cases L:j=i;subst L;rw[hi]at t;cases t;rw[Nk D]at C;cases C;exact⟨u,r,.inl ⟨F,by simp⟩⟩;rw[MY<|D4 L]at C;obtain⟨u',r',q⟩:=hl j y v' t C Z;refine⟨u',r',?_⟩;rcases q with⟨k,e⟩|⟨k,c,e,z⟩
 refine .inl ⟨k,?_⟩;have:y≠x:=λe=>L<|xq hN t<|e ▸ hi;simp[this,e];exact .inr ⟨k,c,e,z.sameBut hs<|G y c e⟩;obtain⟨Y,z⟩:=I.cell y c e;exact⟨Y,z.sameBut hs<|G y c e⟩;obtain⟨e,n,W,nf,d⟩:=I.pin p hp;exact⟨(hs.2 p.1 W).trans e,n,W,nf,d⟩;have K:X.fn x=b8:=by rcases hf with z|z;exact z;rw[z]at F;cases F
 obtain⟨c,g⟩:=I.ok.has x<|.inl F;obtain⟨Y,z⟩:=I.cell x c g;refine wpAny_storeName_cell I.ok.kind F g z<|λh' O hs=>?_;obtain⟨oc,S,T⟩:=id z;refine h { s with heap:=h' } ⟨I.ok,I.os,I.bare,⟨λb o e n J l=>?_,λb o e n J l=>?_,I.base.free,λb o e l=>?_,I.base.tups,I.base.frzs,I.base.tbls⟩,⟨m,hn.sameBut hs<|D4<|G x c g,λj y v' t C Z=>?_⟩,λy U e=>?_,I.free,I.freeC,λp hp=>?_,f ⟨oc,S,I.freeC x c g⟩ hs,by simpa using I.len⟩ ⟨c,hs,.inr g⟩;exact(hs.2 b<|A9<|L0 (A4 e)<|I.ok.cab x c K g).trans<|I.base.keep b o e n J l;obtain⟨sl,t⟩:=I.base.slot b o e n J l;exact⟨sl,(hs.2 b<|A9<|L0 (A4 e)<|I.ok.cab x c K g).trans t⟩;obtain⟨o',t⟩:=I.base.there b o e l;exact⟨o',(hs.2 b<|A9<|L0 (A4 e)<|I.ok.cab x c K g).trans t⟩;by_cases L:j=i;subst L;rw[hi]at t;cases t;rw[Nk D]at C;cases C;exact⟨u,r,.inr ⟨.inl F,c,g,O⟩⟩;rw[MY<|D4 L]at C;obtain⟨u',r',q⟩:=hl j y v' t C Z;refine⟨u',r',?_⟩;rcases q with q|⟨k,U,e,z'⟩
 exact .inl q;refine .inr ⟨k,U,e,z'.sameBut hs ?_⟩;rintro rfl;exact L<|xq hN t<|I.ok.inj _ _ _ e g ▸ hi;by_cases P:U=c;subst P;exact⟨_,O⟩;obtain⟨w2,z2⟩:=I.cell y U e;exact⟨w2,z2.sameBut hs P⟩;obtain⟨e,n,W,nf,d⟩:=I.pin p hp;refine⟨(hs.2 p.1 ?_).trans e,n,W,nf,d⟩;intro q;rw[q,S]at e;have q':oc=p.2:=D2 e;exact d Y<|by rw[<-q'];exact T
theorem xc(I:v4 X pins σ H s)(b:X.N.Nodup)(hi:X.N[i]?=a9 x)(c:NU X.env.scope x)(r:aN v u)(h:∀s',v4 X pins (σ.set i<|a9 v) H s'->Q () s') (f:X.fn x=b8\/X.env.scope.names.lookup x=a9 .local:=by first|exact .inl rfl|exact .inr rfl|assumption):g9 M A (storeName X.env x u) Q E s:=Ag I b hi c r (λs' a _=>h s' a) f
theorem v4.call'(I:v4 X pins σ H s)(m:s'.os=s.os)(u:Un (K7 X.stack) ch H H' s.heap s'.heap)(K:E3 X.prog X.w H' s'.heap)(R:ge s'.gens)(a:∀b∈ch,(b∈X.ex\/X.s₀.heap.objs.size<=b)/\b≠X.env.locals/\(∀x c,X.env.cells.lookup x=a9 c->c≠b)/\∀p∈X.pn++pins,p.1≠b):v4 X pins σ H' s':=by obtain⟨h',g',d',t',o'⟩:=s';have e:o'=s.os:=m;subst e;exact I.call (g':=g') (t':=t') (d':=d') u K R a
abbrev XK:=c3->Option c8->Hp->Prop
noncomputable abbrev St:=List<|Option V
abbrev VK:=V->Hp->Prop
abbrev TE:=St->Hp->VK->Prop
abbrev TT:=St->Hp->(Bool->Hp->Prop)->Prop
abbrev TA:=St->Hp->(List V->Hp->Prop)->Prop
structure Ends where
 nx:St->Hp->Prop
 rt:VK
 bk:St->Hp->Prop:=λ_ _=>False
 ct:St->Hp->Prop:=λ_ _=>False
abbrev TS:=Ends->St->Hp->Prop
inductive EP(X:Cx)(pins:List (c8×c9))(σ:St)(Q:VK)(u:c3)(s':f8):Prop
 |mk (v:_) (H':_) (f0:v4 X pins σ H' s') (f1:aN v u) (f2:Q v H')
inductive TP(X:Cx)(pins:List (c8×c9))(σ:St)(Q:Bool->Hp->Prop)(b:Bool)(s':f8):Prop
 |mk (H':_) (f0:v4 X pins σ H' s') (f1:Q b H')
inductive AP(X:Cx)(pins:List (c8×c9))(σ:St)(Q:List V->Hp->Prop)(us:List c3)(s':f8):Prop
 |mk (vs:_) (H':_) (f0:v4 X pins σ H' s') (f1:az vs us) (f2:Q vs H')
def SP(X:Cx)(pins:List (c8×c9))(D:Ends)(f:Flow)(s':f8):Prop:=match f with
 |.next=>∃a H',v4 X pins a H' s'/\D.nx a H'
 |.brk=>∃a H',v4 X pins a H' s'/\D.bk a H'
 |.cont=>∃a H',v4 X pins a H' s'/\D.ct a H'
 |.ret u=>∃v a H',v4 X pins a H' s'/\aN v u/\D.rt v H'
def PE(X:Cx)(e:h7)(t:TE):Prop:=∀(p:List (c8×c9)) (s:f8) (σ:St) (H:Hp) (Q:VK),v4 X p σ H s->t σ H Q->g9 (i3 X.prog X.w) X.A (eval e X.env) (EP X p σ Q) X.xe s
def PT(X:Cx)(e:h7)(t:TT):Prop:=∀(p:List (c8×c9)) (s:f8) (σ:St) (H:Hp) (Q:Bool->Hp->Prop),v4 X p σ H s->t σ H Q->g9 (i3 X.prog X.w) X.A (isTrue e X.env<|eval e X.env) (TP X p σ Q) X.xe s
def PW(X:Cx)(e:h7)(t:TT):Prop:=∀(a:Sem c3) (p:List (c8×c9)) (s:f8) (σ:St) (H:Hp) (Q:Bool->Hp->Prop),v4 X p σ H s->t σ H Q->g9 (i3 X.prog X.w) X.A (isTrue e X.env a) (TP X p σ Q) X.xe s
theorem PW.pt(h:PW X e t):PT X e t:=h _
def PA(X:Cx)(es:List h7)(t:TA):Prop:=∀(a:Pos) (p:List (c8×c9)) (s:f8) (σ:St) (H:Hp) (Q:List V->Hp->Prop),v4 X p σ H s->t σ H Q->g9 (i3 X.prog X.w) X.A (spliced<|i4 a<|i5 es X.env) (AP X p σ Q) X.xe s
def PS(X:Cx)(st:i6)(t:TS):Prop:=∀(p:List (c8×c9)) (s:f8) (σ:St) (H:Hp) (D:Ends),v4 X p σ H s->t D σ H->g9 (i3 X.prog X.w) X.A (exec st X.env) (SP X p D) X.xe s
def LU(X:Cx)(st:List i6)(t:TS):Prop:=∀(p:List (c8×c9)) (s:f8) (σ:St) (H:Hp) (D:Ends),v4 X p σ H s->t D σ H->g9 (i3 X.prog X.w) X.A (execs st X.env) (SP X p D) X.xe s
theorem A2{α:Type}{t:Sem α}{Q Q':α->f8->Prop}{M:Model}{A:f7}{E:c3->f8->Prop}{s:f8}(h:g9 M A t Q E s)(b:∀a s,Q a s->Q' a s):g9 M A t Q' E s:=J2 h b λ_ _ x=>x
section
variable{X:Cx}
def tVar(i:Nat):TE:=λσ H Q=>∃v,σ[i]?=a9 (a9 v)/\Q v H
def tC(v:V):TE:=λ_ H Q=>Q v H
theorem Fw(g:X.N[i]?=a9 x)(t:Oj X.env.scope x)(b:(x==("__debug__":c5))=b9:=by decide)(d:(x==("__classdict__":c5))=b9:=by decide):PE X (.Name x pos) (tVar i):=by
 intro p s σ H Q I h;obtain⟨v,e,h⟩:=h;obtain⟨m,q,j⟩:=I.loc;obtain⟨u,r,l⟩:=j i x v g e t;have n:EP X p σ Q u s:=⟨v,H,I,r,h⟩
 rcases l with⟨k,o⟩|⟨k,c,f,a⟩
 exact wpAny_Name (wpAny_loadName_local I.ok.kind k q o n) b;rcases k with k|k;exact wpAny_Name (wpAny_loadName_cell I.ok.kind k f a n) b;exact wpAny_Name (wpAny_loadName_free I.ok.kind k f a n d) b
theorem JF{i j pos}:PE X (.Constant (.int i) j pos) (tC<|.int i):=λ_ _ _ H _ I h=>wpAny_Constant_int ⟨.int i,H,I.tok _,⟨_,rfl⟩,h⟩
theorem pe_bl{b j pos}:PE X (.Constant (.bool b) j pos) (tC<|.bl b):=λ_ _ _ H _ I h=>Constant_bool ⟨.bl b,H,I,rfl,h⟩
theorem JD{j pos}:PE X (.Constant .none j pos) (tC .non):=λ_ _ _ H _ I h=>Constant_none ⟨.non,H,I,rfl,h⟩
theorem JA{x j pos}:PE X (.Constant (.str x) j pos) (tC<|.str x):=λ_ _ _ H _ I h=>Calls.Constant_str ⟨.str x,H,I.tok _,⟨_,rfl⟩,h⟩
def Gl(X:Cx)(x:c5):Prop:=X.env.kindOf x=a9 .globalImplicit
theorem GY(I:v4 X pins σ H s)(R:Gl X x)(m:X.mg x=a9 u)(h:Q u s)(d:(x==("__debug__":c5))=b9:=by decide):g9 (i3 X.prog X.w) X.A (eval (.Name x pos) X.env) Q E s:=Calls.Name_function_global I.ok.kind R (Calls.loadGlobal_global (by rw[I.ok.glob];exact I.mod.glob.keeps I.bk) m h) d
theorem nS(I:v4 X pins σ H s)(R:Gl X x)(m:X.mg x=b7)(c:f6 x=a9 u)(h:Q u s)(f:x≠"__name__":=by decide) (d:(x==("__debug__":c5))=b9:=by decide):g9 (i3 X.prog X.w) X.A (eval (.Name x pos) X.env) Q E s:=by obtain⟨mb,h1,h2⟩:=I.mod.blt;exact Calls.Name_function_global I.ok.kind R (Calls.loadGlobal_builtin (by rw[I.ok.glob];exact I.mod.glob.keeps I.bk) m (by rw[I.ok.blt];exact h1.keeps I.bk) ((h2 x f).trans c) h) d
variable{a b:h7}{ta tb:TE}{pos:Pos}
theorem aN.none_iff(r:aN x v):(v==ABv)=decide (x=.non):=by
 cases x with
 |non=>cases r;rfl
 |bl _=>cases r;rfl
 |int _=>obtain⟨t,rfl⟩:=r;rfl
 |str _=>obtain⟨t,rfl⟩:=r;rfl
 |byt _=>obtain⟨t,rfl⟩:=r;rfl
 |flt _=>obtain⟨t,rfl⟩:=r;rfl
 |ref _=>cases r;rfl
 |ty _=>cases r;rfl
def tB(t:TE):TT:=λσ H Q=>t σ H λx a=>∃c,x=.bl c/\Q c a
theorem Jr(h:PE X e t)(i:∀whole,isTrue e X.env whole=(do let v <-whole;standAt e.pos;i7 [v] (truthy v)):=by intro _;rfl):PT X e (tB t):=by intro p s σ H Q I w;refine isTrue_plain (A2 (h p s σ H _ I w) ?_)<|i _;rintro v f ⟨x,a,b,r,c⟩;obtain⟨d,rfl,q⟩:=c;cases r;exact OC ⟨a,b,q⟩
variable{tA tB':TT}{aH:List h7}
def tAnd(t u:TT):TT:=λσ H Q=>t σ H λc a=>if c=b8 then u σ a Q else Q b9 a
def tOr(t u:TT):TT:=λσ H Q=>t σ H λc a=>if c=b8 then Q b8 a else u σ a Q
def tNot(t:TT):TT:=λσ H Q=>t σ H λc a=>Q (!c) a
theorem Gm(f:PT X a tA):PW X (.BoolOp .And [a] pos) tA:=by
 intro w p s σ H Q I h;refine isTrue_and<|A2 (f p s σ H Q I h) λc b e=>?_;cases c with
 |true=>exact isTrue_and_nil e
 |false=>exact e
theorem Jp(f:PT X a tA):PW X (.BoolOp .Or [a] pos) tA:=by
 intro w p s σ H Q I h;refine isTrue_or<|A2 (f p s σ H Q I h) λc b e=>?_;cases c with
 |false=>exact isTrue_or_nil e
 |true=>exact e
theorem Jq(f:PT X a tA)(g:PW X (.BoolOp .And (b::aH) pos) tB'):PW X (.BoolOp .And (a::b::aH) pos) (tAnd tA tB'):=by
 intro w p s σ H Q I h;refine isTrue_and<|A2 (f p s σ H _ I h) ?_;rintro c i ⟨d,e,q⟩;cases c with
 |true=>exact g w p i σ d Q e q
 |false=>exact⟨d,e,q⟩
theorem pw_or(f:PT X a tA)(g:PW X (.BoolOp .Or (b::aH) pos) tB'):PW X (.BoolOp .Or (a::b::aH) pos) (tOr tA tB'):=by
 intro w p s σ H Q I h;refine isTrue_or<|A2 (f p s σ H _ I h) ?_;rintro c i ⟨d,e,q⟩;cases c with
 |true=>exact⟨d,e,q⟩
 |false=>exact g w p i σ d Q e q
theorem Js(f:PT X a tA):PT X (.UnaryOp .Not a pos) (tNot tA):=by intro p s σ H Q I h;refine isTrue_not<|A2 (f p s σ H (λc b=>Q (!c) b) I h) ?_;rintro c e ⟨b,d,q⟩;exact⟨b,d,q⟩
def tAndV(t b:TE):TE:=λσ H Q=>t σ H λx a=>∃c,x=.bl c/\if c=b8 then b σ a Q else Q (.bl b9) a
def tOrV(t b:TE):TE:=λσ H Q=>t σ H λx a=>∃c,x=.bl c/\if c=b8 then Q (.bl b8) a else b σ a Q
def tNotV(t:TE):TE:=λσ H Q=>t σ H λx a=>∃c,x=.bl c/\Q (.bl<|!c) a
theorem JB{op}(h:PE X a t):PE X (.BoolOp op [a] pos) t:=λp s σ H Q I w=>BoolOp_one<|h p s σ H Q I w
theorem JI(f:PE X a ta)(g:PE X (.BoolOp .And (b::aH) pos) tb):PE X (.BoolOp .And (a::b::aH) pos) (tAndV ta tb):=by
 intro p s σ H Q I h;refine BoolOp_and<|A2 (f p s σ H _ I h) ?_;rintro v i ⟨x,d,e,r,q⟩;obtain⟨c,rfl,q⟩:=q;cases r;refine OC ?_;cases c with
 |true=>exact g p i σ d Q e q
 |false=>exact⟨.bl b9,d,e,rfl,q⟩
theorem pe_or(f:PE X a ta)(g:PE X (.BoolOp .Or (b::aH) pos) tb):PE X (.BoolOp .Or (a::b::aH) pos) (tOrV ta tb):=by
 intro p s σ H Q I h;refine BoolOp_or<|A2 (f p s σ H _ I h) ?_;rintro v i ⟨x,d,e,r,q⟩;obtain⟨c,rfl,q⟩:=q;cases r;refine OC ?_;cases c with
 |false=>exact g p i σ d Q e q
 |true=>exact⟨.bl b8,d,e,rfl,q⟩
theorem JC(f:PE X a ta):PE X (.UnaryOp .Not a pos) (tNotV ta):=by intro p s σ H Q I h;refine UnaryOp_<|A2 (f p s σ H _ I h) ?_;rintro v e ⟨x,b,d,r,q⟩;obtain⟨c,rfl,q⟩:=q;cases r;exact not_of<|OC ⟨.bl<|!c,b,d,rfl,q⟩
def tIf(t:TT)(b d:TE):TE:=λσ H Q=>t σ H λc a=>if c=b8 then b σ a Q else d σ a Q
theorem Dg(k:PT X c tA)(i:PE X a ta)(j:PE X b tb):PE X (.IfExp c a b pos) (tIf tA ta tb):=by
 intro p s σ H Q I h;refine wpAny_IfExp<|A2 (k p s σ H _ I h) ?_;rintro d g ⟨e,f,q⟩;cases d with
 |true=>exact i p g σ e Q f q
 |false=>exact j p g σ e Q f q
end
def K2(K:w9)(H:Hp)(a:c8)(xs:List V):Prop:=Rd H a (.lst xs) \/∃(o:c9) (its:Array c3) (n:Nat),K.lookup a=a9 o/\o.cls=.type "list"/\o.dict=b7/\o.data=.seq its n/\its.size<=sizeLine/\az xs its.toList
def C7(K:w9)(H:Hp)(a:c8)(xs:List V):Prop:=Rd H a (.tup xs) \/∃(o:c9) (its:Array c3) (n:Nat),K.lookup a=a9 o/\o.cls=.type "tuple"/\o.dict=b7/\o.data=.seq its n/\its.size<=sizeLine/\az xs its.toList
noncomputable def absV:c3->Option V
 |.none=>a9 .non
 |.bool b=>a9<|.bl b
 |.int i _=>a9<|.int i
 |.str x _=>a9<|.str x
 |.bytes b _=>a9<|.byt b
 |.float b _=>a9<|.flt b
 |.ref a=>a9<|.ref a
 |.type n=>a9<|.ty n
 |_=>b7
theorem aN.abs(r:aN x u):absV u=a9 x:=by
 cases x with
 |non=>cases r;rfl
 |bl _=>cases r;rfl
 |int _=>obtain⟨t,rfl⟩:=r;rfl
 |str _=>obtain⟨t,rfl⟩:=r;rfl
 |byt _=>obtain⟨t,rfl⟩:=r;rfl
 |flt _=>obtain⟨t,rfl⟩:=r;rfl
 |ref _=>cases r;rfl
 |ty _=>cases r;rfl
theorem aN.inj(r:aN x u)(q:aN y u):x=y:=D2<|r.abs.symm.trans q.abs
theorem az.inj(h:az xs us)(h':az ys us):xs=ys:=by
 induction h generalizing ys with
 |nil=>cases h';rfl
 |cons r t i=>cases h' with
  |cons r' t'=>rw[r.inj r',i t']
theorem C7.of{K:w9}(h:H a=a9 (.tup xs)):C7 K H a xs:=.inl<|.inl h
theorem v4.list(I:v4 X pins σ H s)(h:K2 X.K H a xs):∃its:List c3,az xs its/\PlainL s.heap a its.toArray/\xs.length<=sizeLine:=by
 rcases h with h|⟨o,its,n,k,f,d,hs,b,r⟩
 obtain⟨z,its,n,r,e⟩:=h.ok I.hok;exact⟨its,r,⟨_,n,e,rfl,rfl,rfl⟩,z⟩;refine⟨its.toList,r,⟨o,n,I.kIn a o k,f,d,by simpa using hs⟩,?_⟩;have e:=r.length;simp only[F5]at e;lia
theorem v4.tuple(I:v4 X pins σ H s)(h:C7 X.K H a xs):∃its:List c3,az xs its/\IsTup s.heap a its.toArray/\xs.length<=sizeLine:=by
 rcases h with h|⟨o,its,n,k,f,_,hs,b,r⟩
 obtain⟨z,its,r,p⟩:=h.ok I.hok;exact⟨its,r,p.tup,z⟩;refine⟨its.toList,r,⟨o,I.kIn a o k,f,n,by simpa using hs⟩,?_⟩;have e:=r.length;simp only[F5]at e;lia
theorem v4.list_inj(I:v4 X pins σ H s)(h:K2 X.K H a xs)(h':K2 X.K H a ys):xs=ys:=by
 obtain⟨its,r,⟨o,n,e,_,_,d⟩,_⟩:=I.list h;obtain⟨i,r',⟨o',f,c,_,_,b⟩,_⟩:=I.list h';rw[e]at c;cases c;rw[d]at b;injection b with d1 _;have:its=i:=by simpa using u5 Array.toList d1
 subst this;exact r.inj r'
theorem v4.tuple_inj(I:v4 X pins σ H s)(h:C7 X.K H a xs)(h':C7 X.K H a ys):xs=ys:=by
 obtain⟨its,r,⟨o,e,_,n,d⟩,_⟩:=I.tuple h;obtain⟨i,r',⟨o',c,_,f,b⟩,_⟩:=I.tuple h';rw[e]at c;cases c;rw[d]at b;injection b with d1 _;have:its=i:=by simpa using u5 Array.toList d1
 subst this;exact r.inj r'
noncomputable abbrev Cx.wish(X:Cx)(E:c3->f8->Prop):Cx:={ X with xe:=E }
noncomputable abbrev Cx.nox(X:Cx):Cx:=X.wish λ_ _=>False
theorem Cx.Ok.wish{X:Cx}(ok:X.Ok)(E:c3->f8->Prop):(X.wish E).Ok:=⟨ok.mod,ok.kind,ok.glob,ok.blt,ok.above,ok.inj,ok.has,ok.cab,ok.hd,ok.frames,ok.stk,ok.exf,ok.bs,ok.bsz,ok.noex,ok.exfs,ok.funs,ok.frf⟩
theorem Cx.Ok.unwish{X:Cx}{E:c3->f8->Prop}(ok:(X.wish E).Ok):X.Ok:=⟨ok.mod,ok.kind,ok.glob,ok.blt,ok.above,ok.inj,ok.has,ok.cab,ok.hd,ok.frames,ok.stk,ok.exf,ok.bs,ok.bsz,ok.noex,ok.exfs,ok.funs,ok.frf⟩
theorem v4.wish(I:v4 X pins σ H s)(E:c3->f8->Prop):v4 (X.wish E) pins σ H s:=⟨I.ok.wish E,I.os,I.bare,I.base,I.loc,I.cell,I.free,I.freeC,I.pin,I.hok,I.len⟩
theorem v4.unwish(I:v4 (X.wish E) pins σ H s):v4 X pins σ H s:=⟨I.ok.unwish,I.os,I.bare,I.base,I.loc,I.cell,I.free,I.freeC,I.pin,I.hok,I.len⟩
theorem SP.unwish(h:SP (X.wish E) pins D f s'):SP X pins D f s':=by
 cases f with
 |next=>obtain⟨a,H',I,q⟩:=h;exact⟨a,H',I.unwish,q⟩
 |brk=>obtain⟨a,H',I,q⟩:=h;exact⟨a,H',I.unwish,q⟩
 |cont=>obtain⟨a,H',I,q⟩:=h;exact⟨a,H',I.unwish,q⟩
 |ret u=>obtain⟨v,a,H',I,r,q⟩:=h;exact⟨v,a,H',I.unwish,r,q⟩
theorem LU.nox{st:List i6}{t:TS}(h:LU X.nox st t):LU X st t:=λp s σ H D I w =>
 J2 (h p s σ H D (I.wish _) w) (λ_ _ q=>q.unwish) λ_ _ z=>Nq z
def tNext:TS:=λD σ H=>D.nx σ H
def tSeq(t u:TS):TS:=λD σ H=>t { D with nx:=u D } σ H
theorem Gs:LU X [] tNext:=λ_ _ σ H _ I h=>Qv ⟨σ,H,I,h⟩
theorem Da{X:Cx}{st:i6}{aH:List i6}{t u:TS}(h1:PS X st t)(h2:LU X aH u):LU X (st::aH) (tSeq t u):=by
 intro p s σ H D I h;refine wpAny_execs_cons<|A2 (h1 p s σ H { D with nx:=u D } I h) λf c q=>?_;cases f with
 |next=>obtain⟨a,H',b,q⟩:=q;exact h2 p c a H' D b q
 |ret v=>exact q
 |brk=>exact q
 |cont=>exact q
theorem Gr{X:Cx}{st:i6}{t:TS}(h1:PS X st t):LU X [st] t:=by
 intro p s σ H D I h;refine wpAny_execs_cons<|A2 (h1 p s σ H D I h) λf a q=>?_;cases f with
 |next=>exact Qv q
 |ret v=>exact q
 |brk=>exact q
 |cont=>exact q
theorem v4.quiet(I:v4 X pins σ H s):interactive X.env=b9:=by simp[interactive,I.ok.kind]
def tDrop(te:TE):TS:=λD σ H=>te σ H λ_ a=>D.nx σ a
theorem Gu(i:PE X e te)(hs:i8 e b7 pos.line X.env=pure b9:=by rfl):PS X (.Expr e pos) (tDrop te):=by intro p s σ H D I h;exact wpAny_Expr_any (A2 (i p s σ H _ I h) λv f ⟨x,a,b,r,c⟩=>⟨σ,a,b,c⟩) I.quiet hs
def tRet(te:TE):TS:=λD σ H=>te σ H D.rt
theorem Ju(i:PE X e te):PS X (.Return (a9 e) pos) (tRet te):=by intro p s σ H D I h;refine wpAny_Return_some<|A2 (i p s σ H _ I h) ?_;rintro v f ⟨x,a,b,r,c⟩;exact⟨x,σ,a,b,r,c⟩
def tIfS(c:TT)(t u:TS):TS:=λD σ H=>c σ H λb a=>if b=b8 then t D σ a else u D σ a
theorem ps_if(k:PT X c tc)(i:LU X a t)(j:LU X b u):PS X (.If c a b pos) (tIfS tc t u):=by
 intro p s σ H D I h;refine wpAny_If<|A2 (k p s σ H _ I h) ?_;rintro d g ⟨e,f,q⟩;cases d with
 |true=>exact i p g σ e D f q
 |false=>exact j p g σ e D f q
abbrev TG:=V->St->Hp->(St->Hp->Prop)->Prop
abbrev Pp:=List V->St->Hp->(St->Hp->Prop)->Prop
def PG(X:Cx)(a:h7)(t:TG):Prop:=∀(p:List (c8×c9)) (s:f8) (σ:St) (H:Hp) (v:V) (u:c3) (Q:St->Hp->Prop),v4 X p σ H s->aN v u->t v σ H Q ->g9 (i3 X.prog X.w) X.A (i9 a X.env u) (λ_ s'=>∃b H',v4 X p b H' s'/\Q b H') X.xe s
def Pu(X:Cx)(b:List h7)(t:Pp):Prop:=∀(p:List (c8×c9)) (s:f8) (σ:St) (H:Hp) (vs:List V) (us:List c3) (Q:St->Hp->Prop),v4 X p σ H s->az vs us->t vs σ H Q ->g9 (i3 X.prog X.w) X.A (assignInOrder ((j0 b X.env).map (·.2)) us) (λ_ s'=>∃a H',v4 X p a H' s'/\Q a H') X.xe s
abbrev TSet:=V->V->V->Hp->(Hp->Prop)->Prop
def PSet(X:Cx)(t:TSet):Prop:=∀(p:List (c8×c9)) (s:f8) (σ:St) (H:Hp) (o i v:V) (b a u:c3) (Q:Hp->Prop),v4 X p σ H s->aN o b->aN i a->aN v u->t o i v H Q ->g9 (i3 X.prog X.w) X.A (setItem b a u) (λ_ s'=>∃H',v4 X p σ H' s'/\Q H') X.xe s
def KU(i:Nat):TG:=λv σ H Q=>Q (σ.set i<|a9 v) H
theorem Gz(b:X.N.Nodup)(hi:X.N[i]?=a9 x)(c:NU X.env.scope x)(f:X.fn x=b8\/X.env.scope.names.lookup x=a9 .local:=by first|exact .inl rfl|exact .inr rfl|assumption):PG X (.Name x pos) (KU i):=by intro p s σ H v u Q I r h;exact wpAny_assign_Name<|xc I b hi c r (λs' a=>⟨_,H,a,h⟩) f
def gNil:Pp:=λvs σ H Q=>vs=[]/\Q σ H
def gCons(t:TG)(u:Pp):Pp:=λvs σ H Q=>∃v r,vs=v::r/\t v σ H λa H'=>u r a H' Q
theorem Gy:Pu X [] gNil:=by intro p s σ H vs us Q I r h;obtain⟨e,h⟩:=h;subst e;cases r;exact assignInOrder_nil ⟨σ,H,I,h⟩
theorem De(h1:PG X e t)(h2:Pu X es u)(hs:(j0 (e::es) X.env).map (·.2)=i9 e X.env::(j0 es X.env).map (·.2):=by rfl):Pu X (e::es) (gCons t u):=by
 intro p s σ H vs us Q I r h;obtain⟨v,i,d,h⟩:=h;subst d;cases r with
 |cons r f=>rw[hs];refine assignInOrder_cons<|A2 (h1 p s σ H _ _ _ I r h) ?_;rintro _ g ⟨a,b,c,q⟩;exact h2 p g a b _ _ Q c f q
def gTup(K:w9)(n:Nat)(t:Pp):TG:=λv σ H Q=>∃a xs,v=.ref a/\C7 K H a xs/\xs.length=n/\t xs σ H Q
theorem Jx(i:X.calm=b8)(h:Pu X es t)(j:(j0 es X.env).length=n:=by rfl) (c:(j0 es X.env).findIdx? (·.1)=b7:=by rfl):PG X (.Tuple es k pos) (gTup X.K n t):=by intro p s σ H v u Q I r w;obtain⟨a,xs,g,q,l,w⟩:=w;subst g;cases r;obtain⟨its,d,B,z⟩:=I.tuple q;refine assign_Tuple_tuple (I.ok.hd i) B (by simp[j,<-l,d.length]) c λh' x=>?_;have f:v4 X p σ H { s with heap:=h' }:=I.kept (t':=s.toks) λb o e=>x b o (A9<|A4 e) e;exact h p _ σ H xs _ Q f (by simpa using d) w
def gSub(e d:TE)(t:TSet):TG:=λv σ H Q=>e σ H λo a=>d σ a λi b=>t o i v b λc=>Q σ c
theorem Jy(m:PE X o to)(hi:PE X i ti)(hs:PSet X t)(g:∀v,i9 (.Subscript o i pos) X.env v=(do
   let ov <-i7 [v] (eval o X.env)
   let iv <-i7 [v,ov] (eval i X.env)
   standAt pos
   i7 [v,ov,iv] (setItem ov iv v)
   release [v,ov,iv] []):=by intro _;rfl):PG X (.Subscript o i pos) (gSub to ti t):=by intro p s σ H v u Q I r h;rw[g];refine u7<|F3<|A2 (m p s σ H _ I h) ?_;rintro ov w ⟨x,a,d,l,q⟩;refine u7<|F3<|A2 (hi p w σ a _ d q) ?_;rintro iv z ⟨y,b,e,n,j⟩;refine u7<|wpAny_standAt<|u7<|F3<|A2 (hs p z σ b x y v ov iv u _ e l n r j) ?_;rintro _ A ⟨c,f,k⟩;exact wpAny_release ⟨σ,c,f,k⟩
def tAsg(te:TE)(g:TG):TS:=λD σ H=>te σ H λx a=>g x σ a D.nx
theorem Jw(i:PE X e te)(R:PG X tg g)(hs:swapsWithSole [tg] e pos.line X.env=pure b9:=by rfl)(w:swappedStores [tg] e X.env=pure b7:=by rfl)(h1:(j0 [tg] X.env).map (·.2)=[i9 tg X.env]:=by rfl):PS X (.Assign [tg] e pos) (tAsg te g):=by intro p s σ H D I h;refine wpAny_Assign_stores (A2 (i p s σ H _ I h) ?_) hs w;rintro v f ⟨x,a,b,r,c⟩;rw[h1];exact A2 (R p f σ a x v _ b r c) λ_ z q=>q
theorem Jt(d:X.N.Nodup)(hi:X.N[i]?=a9 x)(j:NU X.env.scope x)(f:PE X e te)(hs:i8 e (a9<|.Name x pos') pos.line X.env=pure b9:=by rfl)(g:X.fn x=b8\/X.env.scope.names.lookup x=a9 .local:=by first|exact .inl rfl|exact .inr rfl|assumption):PS X (.Assign [.Name x pos'] e pos) (tAsg te<|KU i):=by intro p s σ H D I h;refine wpAny_Assign_Name (A2 (f p s σ H _ I h) ?_) hs;rintro v k ⟨y,a,b,r,q⟩;exact xc b d hi j r (λz c=>⟨_,a,c,q⟩) g
def Fs(c:TT)(t:TS):TS:=λD σ H=>∃W:Nat->St->Hp->Prop,(∃m,W m σ H)/\∀m σ H,W m σ H ->c σ H λb d=>if b=b8 then ∃N:St->Hp->Prop,(∀a H',N a H'->∃j,j < m/\W j a H')/\t { D with nx:=N,ct:=N,bk:=D.nx } σ d else D.nx σ d
theorem Db(hp:PassesOwn (i3 X.prog X.w) X.A X.env X.xe)(C:PT X c tc)(B:LU X body tb):PS X (.While c body [] pos) (Fs tc tb):=by
 intro p s σ H D I h;obtain⟨W,⟨E,J⟩,t⟩:=h;refine wpAny_While<|codeAny_whileLoop (λn s'=>∃g H',v4 X p g H' s'/\W n g H') ?_ E ⟨σ,H,I,J⟩;rintro n F ⟨d,r,z,K⟩;refine Oy hp<|A2 (C p F d r _ z<|t n d r K) ?_;rintro b G ⟨u,x,j⟩;cases b with
 |true =>
  obtain⟨N,y,j⟩:=j;rw[t5 rfl];refine Oy hp<|A2 (B p G d u _ x j) λf L k=>?_;cases f with
  |next=>obtain⟨a,e,i,o⟩:=k;obtain⟨l,m,q⟩:=y a e o;exact⟨l,m,a,e,i,q⟩
  |cont=>obtain⟨a,e,i,o⟩:=k;obtain⟨l,m,q⟩:=y a e o;exact⟨l,m,a,e,i,q⟩
  |brk=>exact k
  |ret v=>exact k
 |false=>rw[t6 MK];exact Qv ⟨d,u,x,j⟩
structure It where
 go:Nat->Hp->Prop
 yld:Nat->Hp->V->Hp->Prop
 stop:Nat->Hp->Prop
def zg(X:Cx)(pins:List (c8×c9))(H:Hp)(b:c8):Prop:=H b=b7/\b≠X.env.locals/\b∉X.fs/\(b∈X.ex\/X.s₀.heap.objs.size<=b)/\(∀x c,X.env.cells.lookup x=a9 c->c≠b)/\∀p∈X.pn++pins,p.1≠b
theorem v4.fpOk(I:v4 X pins σ H s)(d:s.heap.objs.size<=b)(f:H' b=b7):zg X pins H' b:=by refine⟨f,LZ<|L0 I.lt d,I.nofs d,.inr<|J7 I.sz d,λx c e z=>?_,λp hp z=>?_⟩;obtain⟨v,q⟩:=I.cell x c e;exact t7 (L0 q.lt<|by rw[z];exact d)<|G3 _;exact t7 (L0 (A4 (I.pin p hp).1)<|by rw[z];exact d)<|G3 _
structure Turn(P:c7)(w:c6)(K:w9)(tg:h7)(J:It)(fp:List c8)(it:c8)(tn:Nat->d5->Prop):Prop where
 mem:it∈fp
 obj:∀i h,tn i h->∀b∈fp,∃o,h.get? b=a9 o/\∀v,o.data≠.cell v
 keep:∀i h h',tn i h->(∀b∈fp,∀o,h.get? b=a9 o->h'.get? b=a9 o)->tn i h'
 item:∀(X:Cx),X.prog=P->X.w=w->X.K=K->X.calm=b8->∀(i:Nat) (pins:List (c8×c9)) (s:f8) (σ:St) (H:Hp) (E:c3->f8->Prop),v4 X pins σ H s->(∀b∈fp,zg X pins H b)->tn i s.heap->J.go i H ->g9 (i3 P w) X.A (j1<|.ref it) (λr s1=>∃u,r=a9 u /\ g9 (i3 P w) X.A (j2 tg (.ref it) u) (λ_ s2=>∃x H',v4 X pins σ H' s2/\aN x u/\J.yld i H x H'/\tn (i+1) s2.heap/\∀b∈fp,H' b=b7) E s1) E s
 done:∀(X:Cx),X.prog=P->X.w=w->X.K=K->X.calm=b8->∀(i:Nat) (pins:List (c8×c9)) (s:f8) (σ:St) (H:Hp) (E:c3->f8->Prop),v4 X pins σ H s->(∀b∈fp,zg X pins H b)->tn i s.heap->J.stop i H ->g9 (i3 P w) X.A (j1<|.ref it) (λr s1=>r=b7/\v4 X pins σ H s1) E s
 self:∀(A:f7) (i:Nat) (s:f8) (Q:c3->f8->Prop) (E:c3->f8->Prop),tn i s.heap->Q (.ref it) s->g9 (i3 P w) A (j3<|.ref it) Q E s
abbrev TI:=St->Hp->(It->Hp->Prop)->Prop
inductive Pt(X:Cx)(pins:List (c8×c9))(σ:St)(tg:h7)(R:It->Hp->Prop)(itv:c3)(s2:f8):Prop
 |mk (it:c8) (fp:List c8) (tn:Nat->d5->Prop) (J:It) (H':Hp) (f0:itv=.ref it) (f1:v4 X pins σ H' s2) (f2:Turn X.prog X.w X.K tg J fp it tn) (f3:tn 0 s2.heap) (f4:(∀b∈fp,zg X pins H' b)) (f5:R J H')
def PI(X:Cx)(g r:h7)(wi:TI):Prop:=∀(p:List (c8×c9)) (s:f8) (σ:St) (H:Hp) (R:It->Hp->Prop),v4 X p σ H s->wi σ H R ->g9 (i3 X.prog X.w) X.A (eval r X.env) (λv f=>g9 (i3 X.prog X.w) X.A (j3 v) (Pt X p σ g R) X.xe f) X.xe s
theorem wd(m:s.heap.get? it=a9 o)(f:o.cls=.type n)(d:o.data=.fields vs)(a:["enumerate","zip","dict_itemiterator","dict_reverseitemiterator","odict_iterator","itertools.zip_longest","itertools.pairwise"].contains n=b9) (b:Q () s):g9 M A (j2 tg (.ref it) u) Q E s:=by
 unfold j2;cases tg<;>first
  |exact u9 b
  |(cases u<;>first
    |exact u9 b
    |(refine u7 (wpAny_load m ?_);rw[f,d];show g9 M A (if (["enumerate","zip","dict_itemiterator","dict_reverseitemiterator","odict_iterator","itertools.zip_longest","itertools.pairwise"].contains n&&vs[0]?==a9 (j4 _))=b8 then _ else _) Q E s;rw[t6 (by intro h;rw[a,PQ]at h;cases h)];exact u9 b))
noncomputable def RM(K:w9)(a:c8):It:=⟨λi H=>∃xs x,K2 K H a xs/\xs[i]?=a9 x,λi H x H'=>H'=H/\∀xs,K2 K H a xs->xs[i]?=a9 x,λi H=>∃xs,K2 K H a xs/\xs.length<=i⟩
noncomputable def RL(K:w9)(a:c8):It:=⟨λi H=>∃xs x,C7 K H a xs/\xs[i]?=a9 x,λi H x H'=>H'=H/\∀xs,C7 K H a xs->xs[i]?=a9 x,λi H=>∃xs,C7 K H a xs/\xs.length<=i⟩
noncomputable def Qi(lo:Int)(n:Nat):It:=⟨λi _=>i<n,λi H x H'=>H'=H/\x=.int (lo+i),λi _=>n<=i⟩
theorem zv{P:c7}{w:c6}{K:w9}{U:h7}(a it:c8):Turn P w K U (RM K a) [it] it (λi h=>h.IsListIter it a i) where
 mem:=by simp
 obj:=λi h st b g=>by
  have e:b=it:=by simpa using g
  subst e;obtain⟨o,e,c,d⟩:=st;exact⟨o,e,λv z=>by rw[d]at z;cases z⟩
 keep:=λi h h' st k=>st.at λo e=>k it (by simp) o e
 item:=by intro X B C A G i f s σ H E I l st R;subst B C A;obtain⟨xs,x,q,D⟩:=R;obtain⟨its,F,p,Q⟩:=I.list q;obtain⟨u,N,S⟩:=F.get D;obtain⟨m,n,M,r,t,y⟩:=l it (by simp);refine wpAny_pyNext_list_item st p.isList (x:=u) (by simpa using N) λh' j T=>?_;have J:v4 X f σ H { s with heap:=h' }:=I.turned (t':=s.toks) (λb o g e=>(T.2 b g).trans e) m n r t y;obtain⟨o,e,c,d⟩:=id j;exact⟨u,rfl,wd (s:={ s with heap:=h' }) e c d (by decide) ⟨x,H,J,S,⟨rfl,λys O=>by rw[I.list_inj O q];exact D⟩,j,λb g=>(l b g).1⟩⟩
 done:=by intro X B C A G i f s σ H E I l st R;subst B C A;obtain⟨xs,q,D⟩:=R;obtain⟨its,F,p,Q⟩:=I.list q;obtain⟨m,n,M,r,t,y⟩:=l it (by simp);have V:=F.length;exact wpAny_pyNext_list_end (I.ok.hd G) st p.isList (by simp;lia) λh' L=>⟨rfl,I.turned (t':=s.toks) (λb o g e=>L b o g e) m n r t y⟩
 self:=λ_ _ _ _ _ st h=>wpAny_pyIter_listiter st h
theorem yf{P:c7}{w:c6}{K:w9}{U:h7}(a it:c8):Turn P w K U (RL K a) [it] it (λi h=>h.IsTupleIter it a i) where
 mem:=by simp
 obj:=λi h st b g=>by
  have e:b=it:=by simpa using g
  subst e;obtain⟨o,e,c,d⟩:=st;exact⟨o,e,λv z=>by rw[d]at z;cases z⟩
 keep:=λi h h' st k=>st.at λo e=>k it (by simp) o e
 item:=by intro X B C A G i f s σ H E I l st R;subst B C A;obtain⟨xs,x,q,D⟩:=R;obtain⟨its,F,p,Q⟩:=I.tuple q;obtain⟨u,N,S⟩:=F.get D;obtain⟨m,n,M,r,t,y⟩:=l it (by simp);refine wpAny_pyNext_tuple_item st (show s.heap.IsTuple a its.toArray from p) (x:=u) (by simpa using N) λh' j T=>?_;have J:v4 X f σ H { s with heap:=h' }:=I.turned (t':=s.toks) (λb o g e=>(T.2 b g).trans e) m n r t y;obtain⟨o,e,c,d⟩:=id j;exact⟨u,rfl,wd (s:={ s with heap:=h' }) e c d (by decide) ⟨x,H,J,S,⟨rfl,λys O=>by rw[I.tuple_inj O q];exact D⟩,j,λb g=>(l b g).1⟩⟩
 done:=by intro X B C A G i f s σ H E I l st R;subst B C A;obtain⟨xs,q,D⟩:=R;obtain⟨its,F,p,Q⟩:=I.tuple q;obtain⟨m,n,M,r,t,y⟩:=l it (by simp);have V:=F.length;exact wpAny_pyNext_tuple_end (I.ok.hd G) st (show s.heap.IsTuple a its.toArray from p) (by simp;lia) λh' L=>⟨rfl,I.turned (t':=s.toks) (λb o g e=>L b o g e) m n r t y⟩
 self:=λ_ _ _ _ _ st h=>wpAny_pyIter_tupleiter st h
theorem yg{P:c7}{w:c6}{K:w9}{D:h7}(it:c8)(lo:Int)(n:Nat):Turn P w K D (Qi lo n) [it] it (λi h=>IsRangeIter h it (lo+(i:Nat)*1) ((n:Int)-(i:Nat)) 1) where
 mem:=by simp
 obj:=λi h st b d=>by
  have e:b=it:=by simpa using d
  subst e;exact⟨_,st,λv z=>by have F:Data.fields _=Data.cell v:=z;cases F⟩
 keep:=λi h h' st k=>k it (by simp) _ st
 item:=by intro X B l A g i p s σ H E I f st R;subst B l A;obtain⟨m,a,M,r,c,y⟩:=f it (by simp);have W:=Walks.range (prog:=X.prog) (w:=X.w) (I.ok.hd g) it lo 1 n;refine W.item i s _ _ R st λv h' q x j C=>?_;obtain⟨t,rfl⟩:=x;have u:v4 X p σ H { s with heap:=h',toks:=q }:=I.turned (λb o d e=>C b o (by simpa using d) e) m a r c y;refine⟨_,rfl,wd (s:={ s with heap:=h',toks:=q }) (n:="range_iterator") j rfl rfl (by decide) ⟨.int<|lo+i,H,u,⟨t,?_⟩,⟨rfl,rfl⟩,j,λb d=>(f b d).1⟩⟩;rw[Int.mul_one]
 done:=by intro X B l A g i p s σ H E I f st R;subst B l A;obtain⟨m,a,M,r,c,y⟩:=f it (by simp);exact wpAny_pyNext_range_end (I.ok.hd g) st (by have:n<=i:=R;lia) λh' L=>⟨rfl,I.turned (t':=s.toks) (λb o d e=>L b o d e) m a r c y⟩
 self:=λ_ _ _ _ _ st h=>wpAny_pyIter_rangeiter st h
theorem CW{pins:List (c8×c9)}{σ:St}{H:Hp}{s:f8}{R:It->Hp->Prop}{E:c3->f8->Prop}{lo hi:Int}{t u v:Tok}{tk:Nat}(I:v4 X pins σ H s)(h1:-(2 ^ 62)<=lo)(h2:lo<2 ^ 62)(h:-(2 ^ 62)<=hi)(d:hi<2 ^ 62)(q:R (Qi lo (hi-lo).toNat) H):g9 (i3 X.prog X.w) X.A (j3<|.ref s.heap.objs.size) (Pt X pins σ tg R) E { s with heap:=s.heap.push { cls:=.type "range",data:=.fields #[.int lo t,.int hi u,.int 1 v] },toks:=tk }:=by
 refine wpAny_pyIter_range (IsRange.new ..) (small_one h1 h2 h d) ?_;have a:v4 X pins σ H { s with heap:=s.heap.push { cls:=.type "range",data:=.fields #[.int lo t,.int hi u,.int 1 v] },toks:=tk }:=I.kept λb o e=>A1 _ e;refine⟨(s.heap.push { cls:=.type "range",data:=.fields #[.int lo t,.int hi u,.int 1 v] }).objs.size,[(s.heap.push { cls:=.type "range",data:=.fields #[.int lo t,.int hi u,.int 1 v] }).objs.size],_,_,H,rfl,a.kept (t':=tk) λb o e=>A1 _ e,yg _ lo (hi-lo).toNat,?_,λb f=>?_,q⟩;have c:lo+((0:Nat):Int)*1=lo:=by simp
 have l:(((hi-lo).toNat:Nat):Int)-((0:Nat):Int)=Builtin.Range.rangeSize lo hi 1:=by rw[rangeSize_one];split<;>lia
 show IsRangeIter _ _ (lo+((0:Nat):Int)*1) ((((hi-lo).toNat:Nat):Int)-((0:Nat):Int)) 1;rw[c,l];exact C0 _ rfl;have e:b=(s.heap.push { cls:=.type "range",data:=.fields #[.int lo t,.int hi u,.int 1 v] }).objs.size:=by simpa using f
 subst e;exact a.fpOk (x5 _)<|a.hok.fresh<|x5 _
def iRng1(t:TA):TI:=λσ H R=>t σ H λvs a=>∃j:Int,vs=[.int j]/\-(2 ^ 62)<=j/\j<2 ^ 62/\R (Qi 0 j.toNat) a
theorem Ax{a:h7}{f:TA}{p c:Pos}(k:Gl X "range")(m:X.mg "range" = b7)(i:PA X [a] f)(hs:i5 [a] X.env=[(b9,eval a X.env)]:=by rfl):PI X tg (.Call (.Name "range" p) [a] [] c) (iRng1 f):=by
 intro b s σ H R I h;refine Call_<|nS I k m boot_range<|RI (A2 (i c b s σ H _ I h) ?_) hs rfl;rintro us v ⟨vs,u,g,n,d⟩;obtain⟨j,e,d,l,q⟩:=d;subst e;cases n with
 |cons r o=>cases o;obtain⟨t,rfl⟩:=r;exact call_range_1<|CW g (by lia) (by lia) d l<|by simpa using q
def tFor(wi:TI)(g:TG)(t:TS):TS:=λD σ H=>wi σ H λJ c=>∃W:Nat->Nat->St->Hp->Prop,(∃m,W 0 m σ c)/\∀i m σ H,W i m σ H ->(J.stop i H/\D.nx σ H)\/(J.go i H/\∃N:St->Hp->Prop,(∀a H',N a H'->∃j,j < m/\W (i+1) j a H')/\∀x H',J.yld i H x H'->g x σ H' λb d=>t { D with nx:=N,ct:=N,bk:=D.nx } b d)
noncomputable def jI(fp:List c8)(h:d5):List (c8×c9):=fp.filterMap λb=>(h.get? b).map λo=>(b,o)
theorem hW(d:b∈fp)(e:h.get? b=a9 o):(b,o)∈jI fp h:=OE.mpr ⟨b,d,by rw[e];rfl⟩
theorem tW(hp:p∈jI fp h):p.1∈fp/\h.get? p.1=a9 p.2:=by
 obtain⟨b,d,e⟩:=OE.mp hp;cases q:h.get? b with
 |none=>rw[q]at e;cases e
 |some o=>rw[q]at e;have a:(b,o)=p:=D2 e;subst a;exact⟨d,q⟩
theorem v4.pinned(I:v4 X pins σ H s)(f:∀b∈fp,zg X pins H b)(c:∀b∈fp,∃o,s.heap.get? b=a9 o/\∀v,o.data≠.cell v):v4 X (pins++jI fp s.heap) σ H s:=I.pins_of λp hp=>(Fn.mp hp).elim (λz=>I.pin p<|J6 _ z) λz=>by obtain⟨h,e⟩:=tW z;obtain⟨m,n,M,_⟩:=f p.1 h;obtain⟨o,a,d⟩:=c p.1 h;rw[e]at a;cases a;exact⟨e,m,n,M,d⟩
theorem v4.unpinned(I:v4 X (pins++pl) σ H s):v4 X pins σ H s:=I.pins_of λp hp=>I.pin p<|J6 _<|MC _ hp
theorem Jv(hp:PassesOwn (i3 X.prog X.w) X.A X.env X.xe)(hc:X.calm=b8)(hi:PI X tg iter wi)(hg:PG X tg g)(l:LU X body tb)(hs:∀x,j5 iter X.env x=pure x:=by intro _;rfl):PS X (.For tg iter body [] pos) (tFor wi g tb):=by
 intro p s σ H D I h;refine wpAny_For (A2 (hi p s σ H _ I h) λv s1 h1=>A2 h1 λag s2 h2=>?_) hs;obtain⟨it,C,tn,J,H2,e,I2,T,S,Z,W,⟨m0,w0⟩,L⟩:=h2;subst e
 -- what stays b8 of the iterator's objects through the loop
 have t:∀{H':Hp},(∀b∈C,H' b=b7)->∀b∈C,zg X p H' b:=λhn b l=>⟨hn b l,(Z b l).2⟩
 refine codeAny_forLoop_any (λn s'=>∃i q H',v4 X p q H' s'/\tn i s'.heap/\(∀b∈C,H' b=b7)/\W i n q H') ?_ m0 ⟨0,σ,H2,I2,S,λb l=>(Z b l).1,w0⟩;rintro n s3 ⟨i,y,M,Y,G,E,w3⟩;rcases L i n y M w3 with⟨stop,qn⟩|⟨go,N,hN,K⟩
 refine Oy hp<|A2 (T.done X rfl rfl rfl hc i p s3 y M X.xe Y (t E) G stop) ?_;rintro r s4 ⟨Q,I4⟩;subst Q;exact Qv ⟨y,M,I4,qn⟩
 ·refine Oy hp (A2 (T.item X rfl rfl rfl hc i p s3 y M X.xe Y (t E) G go) ?_)
  rintro r s4 ⟨u,Q,h4⟩;subst Q;refine Oy hp<|A2 h4 ?_;rintro _ s5 ⟨x,V,I5,r5,y5,B,P⟩;have O:=I5.pinned (t P)<|T.obj _ _ B;refine Oy hp<|A2 (hg _ s5 y V x u _ O r5<|K x V y5) ?_;rintro _ s6 ⟨U,H6,I6,q6⟩;refine Oy hp<|A2 (l _ s6 U H6 _ I6 q6) λf R z=>?_;have k:∀{a:St}{c:Hp},v4 X (p++jI C s5.heap) a c R->N a c->∃m,m<n/\∃i q H',v4 X p q H' R/\tn i R.heap/\(∀b∈C,H' b=b7)/\W i m q H':=λ{a c} j F=>by obtain⟨m',hm,w7⟩:=hN a c F;refine⟨m',hm,i+1,a,c,j.unpinned,T.keep _ _ _ B λb l o e=>(j.pin (b,o)<|J6 _<|J6 _<|hW l e).1,λb l=>?_,w7⟩;obtain⟨o,e,d⟩:=T.obj _ _ B b l;exact(j.pin (b,o)<|J6 _<|J6 _<|hW l e).2.1
  cases f with
  |next=>obtain⟨a,c,j,F⟩:=z;exact k j F
  |cont=>obtain⟨a,c,j,F⟩:=z;exact k j F
  |brk=>obtain⟨a,c,j,z⟩:=z;exact⟨a,c,j.unpinned,z⟩
  |ret v=>obtain⟨x7,a,c,j,r7,z⟩:=z;exact⟨x7,a,c,j.unpinned,r7,z⟩
abbrev R2:=V->V->Hp->VK->Prop
def E5(X:Cx)(f:c3->c3->Sem c3)(r:R2):Prop:=∀(p:List (c8×c9)) (s:f8) (σ:St) (H:Hp) (x y:V) (v u:c3) (Q:VK),v4 X p σ H s->aN x v->aN y u->r x y H Q ->g9 (i3 X.prog X.w) X.A (f v u) (EP X p σ Q) X.xe s
def UnR(X:Cx)(f:c3->Sem c3)(r:V->Hp->VK->Prop):Prop:=∀(p:List (c8×c9)) (s:f8) (σ:St) (H:Hp) (x:V) (v:c3) (Q:VK),v4 X p σ H s->aN x v->r x H Q ->g9 (i3 X.prog X.w) X.A (f v) (EP X p σ Q) X.xe s
def gP(X:Cx)(f:c3)(r:List V->Hp->VK->Prop):Prop:=∀(p:List (c8×c9)) (s:f8) (σ:St) (H:Hp) (xs:List V) (us:List c3) (Q:VK),v4 X p σ H s->az xs us->r xs H Q ->g9 (i3 X.prog X.w) X.A (call f us) (EP X p σ Q) X.xe s
def Pf(r:R2)(t c:TE):TE:=λσ H Q=>t σ H λx a=>c σ a λy b=>r x y b Q
def rI(C:Int->Int->Prop)(g:Int->Int->V):R2:=λx y H Q=>∃i j,x=.int i/\y=.int j/\C i j/\Q (g i j) H
def Of(g:Int->Int->V):R2:=λx y H Q=>∃i j,x=.int i/\y=.int j/\Q (g i j) H
theorem binT(d:PE X a ta)(g:PE X b tb){pins:List (c8×c9)}{s:f8}{σ:St}{H:Hp}{R:V->V->Hp->Prop}(I:v4 X pins σ H s)(h:ta σ H λx H1=>tb σ H1 λy H2=>R x y H2) {Q:c3->f8->Prop}{f:c3->c3->Sem c3}(i:∀v u s2 x y H2,v4 X pins σ H2 s2->aN x v->aN y u->R x y H2->g9 (i3 X.prog X.w) X.A (f v u) Q X.xe s2):g9 (i3 X.prog X.w) X.A (eval a X.env) (λv s₁=>g9 (i3 X.prog X.w) X.A (eval b X.env) (λu s₂=>g9 (i3 X.prog X.w) X.A (f v u) Q X.xe s₂) X.xe s₁) X.xe s:=by refine A2 (d pins s σ H _ I h) ?_;rintro v k ⟨x,H1,c,r,q⟩;refine A2 (g pins k σ H1 _ c q) ?_;rintro u s2 ⟨y,H2,e,n,j⟩;exact i v u s2 x y H2 e r n j
theorem pe_op{op:Operator}{r:R2}(m:E5 X (j6 op) r)(f:PE X a ta)(d:PE X b tb):PE X (.BinOp a op b pos) (Pf r ta tb):=by intro p s σ H Q I h;exact wpAny_BinOp<|binT f d I h λv u z x y c e g i q=>m p z σ c x y v u Q e g i q
theorem Pi{f:c3->c3->Sem c3}{C:Int->Int->Prop}{g:Int->Int->Int}(e:∀(i j:Int) (t u:Tok) (s:f8) (Q:c3->f8->Prop) (E:c3->f8->Prop),C i j->Q (.int (g i j) s.toks) { s with toks:=s.toks+1 }->g9 (i3 X.prog X.w) X.A (f (.int i t)<|.int j u) Q E s):E5 X f (rI C λi j=>.int<|g i j):=by intro p s σ H x y v u Q I r a h;obtain⟨i,j,rfl,rfl,c,q⟩:=h;obtain⟨t,rfl⟩:=r;obtain⟨t',rfl⟩:=a;exact e i j t t' s _ _ c ⟨.int<|g i j,H,I.tok _,⟨_,rfl⟩,q⟩
theorem opI0{f:c3->c3->Sem c3}{g:Int->Int->Int}(e:∀(i j:Int) (t u:Tok) (s:f8) (Q:c3->f8->Prop) (E:c3->f8->Prop),Q (.int (g i j) s.toks) { s with toks:=s.toks+1 }->g9 (i3 X.prog X.w) X.A (f (.int i t)<|.int j u) Q E s):E5 X f (Of λi j=>.int<|g i j):=by intro p s σ H x y v u Q I r a h;obtain⟨i,j,rfl,rfl,q⟩:=h;obtain⟨t,rfl⟩:=r;obtain⟨t',rfl⟩:=a;exact e i j t t' s _ _ ⟨.int<|g i j,H,I.tok _,⟨_,rfl⟩,q⟩
theorem opB0{f:c3->c3->Sem c3}{g:Int->Int->Bool}(e:∀(i j:Int) (t u:Tok) (s:f8) (Q:c3->f8->Prop) (E:c3->f8->Prop),Q (.bool<|g i j) s->g9 (i3 X.prog X.w) X.A (f (.int i t)<|.int j u) Q E s):E5 X f (Of λi j=>.bl<|g i j):=by intro p s σ H x y v u Q I r a h;obtain⟨i,j,rfl,rfl,q⟩:=h;obtain⟨t,rfl⟩:=r;obtain⟨t',rfl⟩:=a;exact e i j t t' s _ _ ⟨.bl<|g i j,H,I,rfl,q⟩
def IR(i j:Int):Prop:=0<=j/\j<=1000000/\i.natAbs<2 ^ 64
def CMul(i j:Int):Prop:=(-(2 ^ 64)<i/\i<2 ^ 64)\/(-(2 ^ 64)<j/\j<2 ^ 64)
theorem CMul.ok(h:CMul i j):IntMulOk i j:=by
 rcases h with⟨h1,h2⟩|⟨h1,h2⟩
 exact .of_left<|intBits_le_64 h1 h2;exact .of_right<|intBits_le_64 h1 h2
theorem JQ:E5 X (j6 .Add) (Of λi j=>.int<|i+j):=opI0 λ_ _ _ _ _ _ _ q=>add_int q
theorem JK:E5 X (j6 .Sub) (Of λi j=>.int<|i-j):=opI0 λ_ _ _ _ _ _ _ q=>sub_int q
theorem JN:E5 X (j6 .Mult) (rI CMul λi j=>.int<|i*j):=Pi λ_ _ _ _ _ _ _ f q=>mul_int q f.ok
theorem JO:E5 X (j6 .Mod) (rI (λ_ j=>0<j) λi j=>.int<|i % j):=Pi λi j _ _ _ _ _ f q=>by have h1:(0:Int)<j:=f;exact mod_int' (by lia)<|by rw[Int.fmod_eq_emod_of_nonneg i<|by lia];exact q
theorem JM:E5 X (j6 .Pow) (rI IR λi j=>.int<|i ^ j.toNat):=Pi λ_ _ _ _ _ _ _ f q=>pow_int_small f.1 f.2.1 f.2.2 q
theorem JL:E5 X (j6 .LShift) (rI IR λi j=>.int<|i*2 ^ j.toNat):=Pi λ_ _ _ _ _ _ _ f q=>lshift_int_small f.1 f.2.1 f.2.2 q
theorem op_lt:E5 X (j7 .Lt) (Of λi j=>.bl<|decide<|i<j):=opB0 λ_ _ _ _ _ _ _ q=>lt_int q
theorem op_le:E5 X (j7 .LtE) (Of λi j=>.bl<|decide<|i<=j):=opB0 λ_ _ _ _ _ _ _ q=>le_int q
theorem op_gt:E5 X (j7 .Gt) (Of λi j=>.bl<|decide<|j<i):=opB0 λ_ _ _ _ _ _ _ q=>gt_int q
theorem E5.or(h:E5 X f r)(h':E5 X f r'):E5 X f (λx y H Q=>r x y H Q\/r' x y H Q):=by intro p s σ H x y v u Q I g i q;rcases q with q|q;exact h p s σ H x y v u Q I g i q;exact h' p s σ H x y v u Q I g i q
theorem GB(o:E5 X (j7 op) r)(f:PE X a ta)(d:PE X b tb)(m:j8 op b=b9):PE X (.Compare a [op] [b] pos) (Pf r ta tb):=by intro p s σ H Q I h;exact wpAny_Compare1 (binT f d I h λv u z x y c e g i q=>o p z σ c x y v u Q e g i q) m
def Ja(t:TE):TT:=λσ H Q=>t σ H λx H'=>∃k,x=.bl k/\Q k H'
theorem Gq(q:E5 X (j7 op) r)(m:PE X a ta)(n:PE X b tb)(o:j8 op b=b9):PT X (.Compare a [op] [b] pos) (Ja<|Pf r ta tb):=by
 intro p s σ H Q I h;refine wpAny_isTrue_Compare1 (A2 (m p s σ H _ I h) λv E ⟨x,d,i,B,t⟩=>A2 (n p E σ d _ i t) λu F ⟨y,f,j,C,w⟩ =>
  A2 (q p F σ f x y v u _ j B C w) λc G ⟨z,g,l,D,k,e,A⟩=>?_) o
 subst e;cases D;exact OC ⟨g,l,A⟩
def Ft(r r':R2)(t e f:TE):TE:=λσ H Q=>t σ H λx a=>e σ a λy b=>r x y b λz c=>∃k,z=.bl k /\(if k=b8 then f σ c λY d=>r' y Y d Q else Q (.bl b9) c)
theorem Di(E:E5 X (j7 op) r)(f:E5 X (j7 op') r')(A:PE X a ta)(B:PE X b tb)(C:PE X c tc)(D:lastMarks [op,op'] [b,c]=b9:=by with_unfolding_all rfl):PE X (.Compare a [op,op'] [b,c] pos) (Ft r r' ta tb tc):=by
 intro p s σ H Q I h;refine Compare_chain (A2 (A p s σ H _ I h) λv N ⟨x,j,o,K,F⟩=>chain_link (A2 (B p N σ j _ o F) λu O ⟨y,l,t,n,G⟩ =>
  A2 (E p O σ l x y v u _ t K n G) λd P ⟨z,g,i,L,k,e,q⟩=>?_)) D
 subst e;cases L;refine OC ?_;cases k with
 |false=>exact ite_ff ⟨.bl b9,g,i,rfl,q⟩
 |true=>exact ite_tt<|chain_last<|A2 (C p P σ g _ i q) λY R ⟨S,m,w,M,J⟩=>f p R σ m y S u Y Q w n M J
theorem pZ:(sizeLine:Nat)<2 ^ 63:=by rw[L8];decide
theorem yq:E5 X (j6 .Add) (λx y H Q=>∃i j,x=.str i/\y=.str j/\i.length+j.length<=sizeLine/\Q (.str<|i++j) H):=by intro p s σ H x y v u Q I g r h;obtain⟨i,j,rfl,rfl,b,q⟩:=h;obtain⟨t,rfl⟩:=g;obtain⟨t',rfl⟩:=r;exact add_str (λt' k=>⟨.str<|i++j,H,I.tok _,⟨_,rfl⟩,q⟩) b
theorem FW(r:az [x] us):∃u,us=[u]/\aN x u:=by
 cases r with
 |cons a n=>cases n;exact⟨_,rfl,a⟩
theorem vals2(r:az [x,y] us):∃u w',us=[u,w']/\aN x u/\aN y w':=by
 cases r with
 |cons a n =>
  cases n with
  |cons D M=>cases M;exact⟨_,_,rfl,a,D⟩
theorem Ce(f:X.calm=b8):gP X (.builtin "max") (λxs H Q=>∃i j,xs=[.int i,.int j]/\Q (.int<|if j > i then j else i) H):=by
 intro p s σ H xs us Q I r h;obtain⟨i,j,rfl,q⟩:=h;obtain⟨u,Y,rfl,⟨t,rfl⟩,⟨t',rfl⟩⟩:=vals2 r;refine max_two_ints (I.ok.hd f) λh' a k=>⟨_,H,I.kept k,?_,q⟩
 by_cases L:j > i;rw[t5 L,t5 L];exact⟨_,rfl⟩;rw[t6 L,t6 L];exact⟨_,rfl⟩
structure ObjM(h:d5)(x dx C:c8)(mA:c5->Option c3):Prop where
 obj:h.get? x=a9 (PySem.W.instObj C dx)
 ns:h.Ns1 dx mA
 ne:dx≠x
theorem Ct.some_of(r:Ct (a9 v) o):∃u,o=a9 u/\aN v u:=by
 cases o with
 |none=>exact(show False from r).elim
 |some u=>exact⟨u,rfl,r⟩
structure Cls(K:w9)(C:c8):Prop where
 pg:PySem.W.plainGet K C Str.empty=b8
 hd:PySem.W.hasDictIn K C=b8
 po:PySem.W.plainOver K C=b8
 sa:PP K (.ref C) "__setattr__" = a9 (a9<|.builtin "object.__setattr__")
structure Con(K:w9)(C:c8)(f:c5)(v:V)(u:c3):Prop where
 at_:PP K (.ref C) f=a9 (a9 u)
 rel:aN v u
 get:PySem.W.specialIn K u "__get__" = a9 b7
 cp:PySem.W.copiedNames.contains f=b9
structure Meth(K:w9)(C:c8)(m:c5)(f:c8):Prop where
 at_:PP K (.ref C) m=a9 (a9<|.ref f)
 fn:PySem.W.isFn K (.ref f)=b8
 kp:N4 K (.ref f)=b8
inductive TyOf(K:w9)(H:Hp):V->c3->Prop where
 |non:TyOf K H .non (.type "NoneType")
 |bl (x:Bool):TyOf K H (.bl x) (.type "bool")
 |int (i:Int):TyOf K H (.int i) (.type "int")
 |str (x:c5):TyOf K H (.str x) (.type "str")
 |flt (x:UInt64):TyOf K H (.flt x) (.type "float")
 |lst {a:c8}{xs:List V} (e:H a=a9 (.lst xs)):TyOf K H (.ref a) (.type "list")
 |frz {a:c8}{o:c9}{xs:List V} (e:H a=a9 (.frz o (.lst xs))):TyOf K H (.ref a) (.type "list")
 |tup {a:c8}{xs:List V} (e:H a=a9 (.tup xs)):TyOf K H (.ref a) (.type "tuple")
 |dK {a:c8}{kvs:List (F7×V)} (e:H a=a9 (.dK kvs)):TyOf K H (.ref a) (.type "dict")
 |dT {a:c8}{kvs:List (List F7×V)} (e:H a=a9 (.dT kvs)):TyOf K H (.ref a) (.type "dict")
 |ins {a C dx:c8}{fs:List (c5×V)} (e:H a=a9 (.ins C dx fs)) (cl:Cls K C) (ha:PP K (.ref C) "__class__" = a9 (a9 (.builtin "object.__class__")))
   (hn:PySem.W.specialIn K (.builtin "object.__class__") "__get__" = a9 (a9<|.builtin "getset_descriptor.__get__")) (htk:PySem.W.takesIn K (.builtin "object.__class__")=a9 b8)
   (hm:PySem.W.mroIn K C (.type "object")=a9 b8):TyOf K H (.ref a) (.ref C)
structure Room(k:Nat)(A:f7):Prop where
 hd:A.handled=b7
 dp:A.depth+3*k+5<recursionLimit
 un:A.units+16*k+200<j9
theorem Room.mono(r:Room k A)(h:j<=k):Room j A:=⟨r.hd,by have:=r.dp;lia,by have:=r.un;lia⟩
theorem Room.deeper(r:Room (k+1) A)(env:Env):Room k (A.deeper env):=⟨r.hd,by have:=r.dp;show A.depth+1+3*k+5<_;lia,by have:=r.un;show A.units+3+16*k+200<_;lia⟩
theorem Room.depth(r:Room k A):A.depth<recursionLimit:=by have:=r.dp;lia
def tNil:TA:=λ_ H Q=>Q [] H
def tCons(t:TE)(tr:TA):TA:=λσ H Q=>t σ H λx a=>tr σ a λxs b=>Q (x::xs) b
theorem JJ:PA X [] tNil:=λ_ _ _ _ H Q I h=>QB ⟨[],H,I,.nil,h⟩
theorem GE(g:PE X e te)(i:PA X es t)(hs:i5 (e::es) X.env=(b9,eval e X.env)::i5 es X.env:=by rfl):PA X (e::es) (tCons te t):=by intro a p s σ H Q I h;rw[hs];show g9 _ _ (spliced<|(b9,eval e X.env)::i4 a (i5 es X.env)) _ _ s;refine QI<|A2 (g p s σ H _ I h) ?_;rintro u k ⟨x,b,d,r,q⟩;refine A2 (i a p k σ b _ d q) ?_;rintro us z ⟨xs,c,f,n,j⟩;exact⟨x::xs,c,f,.cons r n,j⟩
def tTup(t:TA):TE:=λσ H Q=>t σ H λxs a=>xs.length<=sizeLine/\∀p,a p=b7->Q (.ref p) (A6 a p<|.tup xs)
def tLst(t:TA):TE:=λσ H Q=>t σ H λxs a=>xs.length<=sizeLine/\∀p,a p=b7->Q (.ref p) (A6 a p<|.lst xs)
theorem Jz{x1}(h:PA X es t):PE X (.Tuple es x1 pos) (tTup t):=by intro p s σ H Q I g;refine wpAny_Tuple_spliced<|A2 (h pos p s σ H _ I g) λus f ⟨xs,a,c,r,z,q⟩=>⟨by rw[<-r.length];exact z,?_⟩;have d:a f.heap.objs.size=b7:=c.hok.fresh<|x5 _;refine⟨.ref f.heap.objs.size,A6 a f.heap.objs.size<|.tup xs,c.laid (t':=f.toks) (λb u e=>A1 _ e) (x5 _) ?_,rfl,q _ d⟩;exact⟨z,us,r,⟨_,C0 _ rfl,rfl,⟨_,rfl⟩,rfl⟩⟩
theorem JE(h:PA X es t):PE X (.List es pos) (tLst t):=by intro p s σ H Q I g;refine wpAny_List_spliced<|A2 (h pos p s σ H _ I g) λus f ⟨xs,a,c,r,z,q⟩=>⟨by rw[<-r.length];exact z,?_⟩;have d:a f.heap.objs.size=b7:=c.hok.fresh<|x5 _;refine⟨.ref f.heap.objs.size,A6 a f.heap.objs.size<|.lst xs,c.laid (t':=f.toks) (λb u e=>A1 _ e) (x5 _) ?_,rfl,q _ d⟩;exact⟨z,us,0,r,C0 _ rfl⟩
abbrev Sp:=List V->Hp->VK->XK->Prop
abbrev Nn:=List Env->Hp->f8->XK->c3->f8->Prop
structure Env0(P:c7)(w:c6)(K:w9)(mg:c5->Option c3)(base:d5)(A:f7)(outer:List Env)(s:f8)(H:Hp):Prop where
 frames:A.frames=a9 outer
 mod:Mod K mg base
 bs:∀b o,base.get? b=a9 o->s.heap.get? b=a9 o/\H b=b7
 bsz:base.objs.size<=s.heap.objs.size
 funs:s.heap.FunFrames base outer
 frf:∀b∈K7 outer,H b=b7
 hok:E3 P w H s.heap
 bare:ge s.gens
inductive CE(outer:List Env)(P:c7)(w:c6)(H:Hp)(s:f8)(Q:VK)(u:c3)(s':f8):Prop
 |mk (v:_) (H':_) (f0:s'.os=s.os) (f1:ge s'.gens) (f2:Un (K7 outer) [] H H' s.heap s'.heap) (f3:E3 P w H' s'.heap) (f4:aN v u) (f5:Q v H')
def CR(CX:Nn)(o:List Env)(P:c7)(w:c6)(H:Hp)(s:f8)(Q:VK)(E:XK)(r:Result)(s':f8):Prop:=match r with
 |.ok (.ret u)=>CE o P w H s Q u s'
 |.ok _=>False
 |.error e=>CX o H s E e s'
structure FnOk(P:c7)(w:c6)(K:w9)(mg:c5->Option c3)(base:d5)(CX:Nn)(k:Nat)(f:c8)(fd:k5)(ps:List c5)(sp:Sp):Prop where
 len:∀vs H Q E,sp vs H Q E->vs.length=ps.length
 run:∀(A:f7) (outer:List Env) (s:f8) (H:Hp) (args:Args) (us:List c3) (vs:List V) (Q:VK) (E:XK),Room k A->Env0 P w K mg base A outer s H->BindsTo s fd args (ps.zip us)->az vs us->sp vs H Q E ->k9 (i3 P w) A (.call (.ref f) args) (CR CX outer P w H s Q E) s
theorem v4.env0(I:v4 X pins σ H s):Env0 X.prog X.w X.K X.mg X.base X.A X.stack s H:=⟨I.ok.frames,I.ok.mod,I.bs,J7 I.ok.bsz I.sz,I.stack,I.stkFree,I.hok,I.bare⟩
theorem v4.after(I:v4 X pins σ H s)(h:CE X.stack X.prog X.w H s Q u s'):EP X pins σ Q u s':=by obtain⟨v,H',c,e,n,K,r,q⟩:=h;obtain⟨a,g,d,t,o⟩:=s';obtain rfl:o=s.os:=c;exact⟨v,H',I.call (h':=a) (g':=g) (d':=d) (t':=t) (ch:=[]) n K e (λb z=>t7 z<|by simp),r,q⟩
def Jd(sp:Sp)(s:List V)(E:XK)(t:TA):TE:=λσ H Q=>t σ H λvs a=>sp (vs++s) a Q E
def uV(K:w9)(d:k5)(ps:List c5)(ds:List c3):Prop:=∀(s:f8) (us:List c3),K.In s.heap->(us++ds).length=ps.length->BindsTo s d ⟨us,[]⟩ (ps.zip<|us++ds)
theorem uV.all{K:w9}{d:k5}{ps:List c5}(h:∀us:List c3,us.length=ps.length->bindArgs d ⟨us,[]⟩=pure (ps.zip us)):uV K d ps []:=λs us _ g=>by rw[Mq]at g ⊢;exact .of_eq<|h us g
def Cq(CX:Nn)(X:Cx)(E:XK):Prop:=∀(p:List (c8×c9)) (σ:St) (H:Hp) (s:f8) (e:c3) (s':f8),v4 X p σ H s->CX X.stack H s E e s'->X.xe e s'
theorem Jk(F:FnOk X.prog X.w X.K X.mg X.base CX k f fd ps sp)(i:Room k X.A)(d:uV X.K fd ps ds)(a:az dvs ds)(x:Cq CX X E)(I:v4 X pins σ H s) (r:az vs us) (h:sp (vs++dvs) H Q E):g9 (i3 X.prog X.w) X.A (call (.ref f) us) (EP X pins σ Q) X.xe s:=by
 have n:az (vs++dvs) (us++ds):=r.append a;have g:(us++ds).length=ps.length:=by rw[<-n.length];exact F.len _ _ _ _ h
 refine wpAny_call<|Oq (F.run X.A X.stack s H ⟨us,[]⟩ (us++ds) (vs++dvs) Q E i I.env0 (d s us I.kIn g) n h) λr s' q=>?_;cases r with
 |error e=>exact x pins σ H s e s' I q
 |ok l =>
  cases l with
  |ret u=>exact I.after q
  |next=>exact Nq q
  |brk=>exact Nq q
  |cont=>exact Nq q
theorem GC(F:FnOk X.prog X.w X.K X.mg X.base CX k f fd ps sp)(o:Room k X.A)(R:Gl X x)(n:X.mg x=a9 (.ref f))(m:N4 X.K (.ref f)=b8)(g:uV X.K fd ps ds)(i:az dvs ds)(u:Cq CX X E)(d:PA X (e::es) t) (b:(x==("__debug__":c5))=b9:=by decide) (j:i5 (e::es) X.env=(b9,eval e X.env)::i5 es X.env:=by rfl) (l:(i4 pos<|i5 es X.env).any (·.1)=b9:=by rfl):PE X (.Call (.Name x p) (e::es) [] pos) (Jd sp dvs E t):=by intro a s σ H Q I h;refine O0<|GY I R n ?_ b;refine PySem.W.callWith_K (h₀:=X.base) I.ok.mod.kin m (A2 (d pos a s σ H _ I h) λus y ⟨vs,v,c,r,q⟩=>⟨c.kIn,?_⟩) j l;exact Jk F o g i u c r q
structure Mk(K:w9)(C f:c8):Prop where
 makes:PySem.W.makesIn K C=b8
 init:PP K (.ref C) "__init__" = a9 (a9<|.ref f)
 fn:PySem.W.isFn K (.ref f)=b8
 kp:N4 K (.ref C)=b8
structure KBinds(K:w9)(fd:k5)(ps ks:List c5)(g:List c3->List c3->List c3)(gV:List V->List V->List V):Prop where
 to:∀(s:f8) (us ws:List c3),K.In s.heap->(g us ws).length=ps.length->BindsTo s fd ⟨us,ks.zip ws⟩ (ps.zip<|g us ws)
 rel:∀{vs:List V}{us:List c3}{zs:List V}{ws:List c3},az vs us->az zs ws->az (gV vs zs) (g us ws)
structure FnScope(N P:List c5)(sc:f9):Prop where
 kind:sc.kind=.function
 co:sc.isCoroutine=b9
 gen:sc.isGenerator=b9
 nd:N.Nodup
 pre:N.take P.length=P
 par:∀x∈P,sc.names.lookup x=a9 .local\/sc.names.lookup x=a9 .cell
 nofree:∀y∈sc.names,y.2≠.free
theorem uO{kindOf:c5->Option m3}{x:c5}:∀{binds:List (c5×c3)}{m:c5->Option c3},(∀v,(x,v)∉binds)->bindL kindOf binds m x=m x
 | [],_,_=>rfl
 |(n,v)::r,m,h=>by
  unfold bindL;rw[uO λw hw=>h w<|C6 _ hw];split;have:x≠n:=by rintro rfl;exact h v F4
  simp[this];rfl
theorem uQ{kindOf:c5->Option m3}{x:c5}:∀{binds:List (c5×c3)}{m:c5->Option c3},(∀v,(x,v)∉binds)->bindC kindOf binds m x=m x
 | [],_,_=>rfl
 |(n,v)::r,m,h=>by
  unfold bindC;rw[uQ λw hw=>h w<|C6 _ hw];split;rfl;have:x≠n:=by rintro rfl;exact h v F4
  simp[this]
theorem uP{kindOf:c5->Option m3}{x:c5}{v:c3}:∀{P:List c5}{vs:List c3}{i:Nat}{m:c5->Option c3},P.Nodup->P[i]?=a9 x->vs[i]?=a9 v->kindOf x=a9 .local ->bindL kindOf (P.zip vs) m x=a9 v
 | [],_,_,_,_,h,_,_=>by simp at h
 |_::_,[],_,_,_,_,h,_=>by simp at h
 |p::P,w::vs,0,m,nd,h1,h2,hk=>by simp at h1 h2;subst h1;subst h2;show bindL kindOf ((p,w)::P.zip vs) m p=_;unfold bindL;rw[uO λv hv=>(Ma.mp nd).1 (Qu hv).1,t5 hk];simp
 |p::P,w::vs,i+1,m,nd,h1,h2,hk=>by show bindL kindOf ((p,w)::P.zip vs) m x=_;unfold bindL;exact uP (i:=i) (Ma.mp nd).2 (by simpa using h1) (by simpa using h2) hk
theorem uR{kindOf:c5->Option m3}{x:c5}{v:c3}:∀{P:List c5}{vs:List c3}{i:Nat}{m:c5->Option c3},P.Nodup->P[i]?=a9 x->vs[i]?=a9 v->kindOf x≠a9 .local ->bindC kindOf (P.zip vs) m x=a9 v
 | [],_,_,_,_,h,_,_=>by simp at h
 |_::_,[],_,_,_,_,h,_=>by simp at h
 |p::P,w::vs,0,m,nd,h1,h2,hk=>by simp at h1 h2;subst h1;subst h2;show bindC kindOf ((p,w)::P.zip vs) m p=_;unfold bindC;rw[uQ λv hv=>(Ma.mp nd).1 (Qu hv).1,t6 hk];simp
 |p::P,w::vs,i+1,m,nd,h1,h2,hk=>by show bindC kindOf ((p,w)::P.zip vs) m x=_;unfold bindC;exact uR (i:=i) (Ma.mp nd).2 (by simpa using h1) (by simpa using h2) hk
noncomputable def start(N:List c5)(vs:List V):St:=vs.map a9++PN (N.length-vs.length) b7
noncomputable def zi(CX:Nn)(P:c7)(w:c6)(K:w9)(mg:c5->Option c3)(base:d5)(N:List c5)(l:c5)(scope:f9)(f:c8)(d:c3)(A:f7)(outer:List Env)(s:f8)(H:Hp)(E:XK):Cx where
 prog:=P
 w:=w
 K:=K
 mg:=mg
 base:=base
 A:=A.deeper<|m5 l scope s.heap.objs.size f d
 N:=N
 s₀:=s
 H₀:=H
 env:=m5 l scope s.heap.objs.size f d
 outer:=outer
 stack:=m5 l scope s.heap.objs.size f d::outer
 ex:=[]
 calm:=b8
 fn:=λ_=>b8
 pn:=[]
 xe:=λe s'=>g9 (i3 P w) (A.deeper<|m5 l scope s.heap.objs.size f d) (leaving (m5 l scope s.heap.objs.size f d) e) (λ_ a=>CX outer H s E e a) (λb a=>CX outer H s E b a) s'
theorem xM{s:f9}{n:Nat}{x:c5}(h:s.names.lookup x=a9 .cell):∃c,(cellsFrom n s.names []).lookup x=a9 c:=by have q:=PySem.W.cellsFrom_some s.names n []<|.inl h;exact RE.mp q
theorem Bw{CX:Nn}{P:c7}{w:c6}{K:w9}{mg:c5->Option c3}{base:d5}{N ps:List c5}{l:c5}{scope:f9}{f:c8}{m:c3}{A:f7}{o:List Env}{s C:f8}{H:Hp}{E:XK}{us:List c3}{vs:List V}(S:FnScope N ps scope) (F:A.handled=b7) (d:Env0 P w K mg base A o s H) (L:vs.length=ps.length) (r:az vs us)(x:InCallC s s.heap.objs.size (bindL (m5 l scope s.heap.objs.size f m).kindOf (ps.zip us) λ_=>b7) (cellsFrom (s.heap.objs.size+1) scope.names []) (bindC (m5 l scope s.heap.objs.size f m).kindOf (ps.zip us) λ_=>b7) C):v4 (zi CX P w K mg base N l scope f m A o s H E) [] (start N vs) H C:=by
 have G:ps.length<=N.length:=by have:=u5 LY S.pre;rw[LO]at this;lia
 obtain⟨h1,M,rfl,t⟩:=x.done;have g:∀b:c8,b∉(zi CX P w K mg base N l scope f m A o s H E).ex:=λb z=>t7 (show b∈([]:List c8)from z) (by simp);refine⟨⟨d.mod,S.kind,rfl,rfl,x5 _,λy z c h1 h2=>?_,λy O=>?_,λy c _ h=>?_,λ_=>F,Around.frames_deeper d.frames,.inr ⟨rfl,rfl⟩,λb z=>t7 z<|g b,d.bs,d.bsz,λb _ _=>g b,λb z=>t7 z<|g b,d.funs,d.frf⟩,rfl,d.bare,Un.kept t,⟨_,x.toInCall.ns,λi y v h1 h2 J=>?_⟩,λy c h=>⟨_,x.cell y c h⟩,d.hok.fresh<|x5 _,λy c h=>?_,λp hp=>t7 (show p∈([]:List (c8×c9))from hp) (by simp),d.hok.kept t,?_⟩;exact name_of_addr x.apart (NJ h1)<|NJ h2;have O:scope.names.lookup y=a9 .cell\/scope.names.lookup y=a9 .free:=O;rcases O with O|O;exact xM O;exact t7 rfl<|S.nofree _<|NJ O;exact MR<|x.above y c<|NJ h;have hi:i<vs.length:=by unfold start at h2;by_cases hi:i<vs.length;exact hi;rw[Mr<|by simpa using hi]at h2;rw[QQ]at h2;split at h2<;>cases h2
 have D:vs[i]?=a9 v:=by
  unfold start at h2;rw[LR (by simpa using hi),D8]at h2;cases e:vs[i]? with
  |none=>rw[e]at h2;cases h2
  |some a=>rw[e]at h2;cases h2;rfl
 obtain⟨u,B,I⟩:=r.get D;have hp:ps[i]?=a9 y:=by rw[<-S.pre,OF<|by lia];exact h1
 have j:ps.Nodup:=by rw[<-S.pre];exact S.nd.sublist<|P6 _ _
 refine⟨u,I,?_⟩;rcases S.par y (G1 hp)with k|k;exact .inl ⟨k,uP j hp B k⟩;obtain⟨c,e⟩:=xM (n:=s.heap.objs.size+1) k;refine .inr ⟨.inl k,c,e,?_⟩;have q:=x.cell y c e;rw[uR j hp B<|by show scope.names.lookup y≠_;rw[k];decide]at q;exact q;exact d.hok.fresh<|MR<|x.above y c<|NJ h;unfold start;show _=N.length;rw[B6,w4,QM];lia
theorem fn_of{CX:Nn}{P:c7}{w:c6}{K:w9}{mg:c5->Option c3}{base:d5}{k:Nat}{f:c8}{name l:c5}{p:Arguments}{a:List i6}{scope:f9}{T kV i U c R oc:c3}{M od:Option c8}{G:Array (Option c3)}{N ps:List c5}{sp:Sp} (lk:K.lookup f=a9 ⟨oc,od,.func<|NE name l p a scope T kV i U M c R,G⟩) (C:Qp K c l=b8) (S:FnScope N ps scope)(B:∀vs H Q E,sp vs H Q E->vs.length=ps.length)(h:∀(A:f7) (outer:List Env) (s:f8) (H:Hp) (vs:List V) (Q:VK) (E:XK),Room k (A.deeper<|m5 l scope s.heap.objs.size f c)->sp vs H Q E -> ∃t,LU (zi CX P w K mg base N l scope f c A outer s H E) a t/\t { nx:=λ_ H'=>Q .non H',rt:=Q } (start N vs) H):FnOk P w K mg base CX (k+1) f (NE name l p a scope T kV i U M c R) ps sp:=by
 refine⟨B,λA outer s H O us vs Q E D j hb r z=>?_⟩;have hl:=B _ _ _ _ z;have X:K.In s.heap:=j.mod.kin.keeps λb o e=>(j.bs b o e).1;have F:s.heap.NoLimit:=j.mod.nolimit.keeps λb o e=>(j.bs b o e).1;have g:∀y∈ps.zip us,scope.names.lookup y.1=a9 .local\/(scope.names.lookup y.1=a9 .cell/\((cellsFrom (s.heap.objs.size+1) scope.names []).lookup y.1).isSome=b8):=λ⟨n,v⟩ hy=>by rcases S.par n (Qu hy).1 with q|q;exact .inl q;exact .inr ⟨q,PySem.W.cellsFrom_some _ _ _<|.inl q⟩
 refine codeAny_call_function D.depth (X _ _ lk) rfl S.co S.gen rfl (PySem.W.codeRec_of X C)<|hb _ _ _ _ ?_;refine wpAny_newFunctionEnv_cells S.kind g λenv he Y x=>?_;subst he;refine⟨F.keeps x.toInCall.keep,codeAny_func ?_⟩;obtain⟨t,ht,hq⟩:=h A outer s H vs Q E (D.deeper _) z;have I:v4 (zi CX P w K mg base N l scope f c A outer s H E) [] (start N vs) H Y:=Bw S D.hd j hl r x;refine J2 (ht [] Y (start N vs) H _ I hq) (λZ s' hs=>?_) λe s' hs=>hs;have m:∀{d:St}{H':Hp}{v:V}{u:c3},v4 (zi CX P w K mg base N l scope f c A outer s H E) [] d H' s'->aN v u->Q v H'->CE outer P w H s Q u s':=λ{d H' v u} J L q=>⟨v,H',J.os,J.bare,J.base,J.hok,L,q⟩
 cases Z with
 |ret u=>obtain⟨v,d,H',J,L,q⟩:=hs;exact m J L q
 |next=>obtain⟨d,H',J,q⟩:=hs;exact m (v:=V.non) (u:=ABv) J rfl q
 |brk=>obtain⟨_,_,_,q⟩:=hs;exact Nq q
 |cont=>obtain⟨_,_,_,q⟩:=hs;exact Nq q
def Q7(r:List V->Hp->VK->Prop)(t:TA):TE:=λσ H Q=>t σ H λvs a=>r vs a Q
theorem Dj{X:Cx}{x:c5}{p b:Pos}{e:h7}{es:List h7}{t:TA}{id:String}{r:List V->Hp->VK->Prop}(i:gP X (.builtin id) r)(R:Gl X x)(m:X.mg x=b7)(v:f6 x=a9 (.builtin id))(g:PA X (e::es) t)(n:x≠"__name__":=by decide)(c:(x==("__debug__":c5))=b9:=by decide)(j:i5 (e::es) X.env=(b9,eval e X.env)::i5 es X.env:=by rfl) (l:(i4 b<|i5 es X.env).any (·.1)=b9:=by rfl):PE X (.Call (.Name x p) (e::es) [] b) (Q7 r t):=by intro a s σ H Q I h;refine O0<|nS I R m v ?_ n c;exact PyProof.Rows.callWith_builtin1 (A2 (g b a s σ H _ I h) λus o ⟨vs,d,f,k,q⟩=>i a o σ d vs us Q f k q) j l
theorem AA(g:gP X (.type T) r)(R:Gl X x)(m:X.mg x=b7)(v:f6 x=a9 (.type T))(f:PA X (e::es) t)(n:x≠"__name__":=by decide)(b:(x==("__debug__":c5))=b9:=by decide)(i:i5 (e::es) X.env=(b9,eval e X.env)::i5 es X.env:=by rfl) (l:(i4 pos<|i5 es X.env).any (·.1)=b9:=by rfl):PE X (.Call (.Name x p) (e::es) [] pos) (Q7 r t):=by intro a s σ H Q I h;refine O0<|nS I R m v ?_ n b;exact RI (A2 (f pos a s σ H _ I h) λus k ⟨vs,c,d,j,q⟩=>g a k σ c vs us Q d j q) i l
end L2
namespace HT
open PySem PyProof.Rows
theorem rcLt_int(A:f7)(s:f8)(a:Int)(t:Tok)(c:Int)(u:Tok)(prog:c7)(w:c6)(E:c3->f8->Prop)(Q:c3->f8->Prop)(h:Q (.bool<|decide<|a<c) s):g9 (i3 prog w) A (richCompare .Lt (.int a t)<|.int c u) Q E s:=(PyProof.Rows.lt_int h:g9 (i3 prog w) A (j7 .Lt (.int a t)<|.int c u) Q E s)
theorem cat_tup(B:IsTup s.heap t vs.toArray)(r:IsTup s.heap b ws.toArray)(v:vs≠[])(h1:ws=[]->Q (.ref t) s) (h2:ws≠[]->Q (.ref s.heap.objs.size) { s with heap:=s.heap.push { cls:=.type "tuple",data:=.seq (vs++ws).toArray } })(z:vs.length+ws.length<=sizeLine):g9 (i3 prog w) A (j6 .Add (.ref t)<|.ref b) Q E s:=by
 obtain⟨⟨cls,k,data,q⟩,m,l,n,o⟩:=id B;obtain⟨⟨j,d,i,f⟩,h,a,p,c⟩:=id r;simp only at l o a c;subst l o a c;have e:vs.toArray++ws.toArray=(vs++ws).toArray:=by simp
 by_cases g:ws=[]
 exact concat_meets ⟨_,m,rfl⟩ ⟨_,h,rfl⟩ noFill_tuple_add seq_tuple_add Rt Rz (RD _ _) (tuple_addW1 t b vs.toArray ws.toArray n p k d q f (by simpa using v)<|by simp[g]) ⟨m,h,h1 g⟩;refine concat_meets ⟨_,m,rfl⟩ ⟨_,h,rfl⟩ noFill_tuple_add seq_tuple_add Rt Rz (RD _ _) (tuple_addW2 t b vs.toArray ws.toArray n p k d q f (by simpa using v) (by simpa using g)<|by rw[B5,B5];exact z) ⟨m,h,?_⟩;rw[e];exact h2 g
noncomputable def sIx(n d:Nat):Option Int->Nat
 |none=>d
 |some v=>if v<0 then(v+(n:Int)).toNat else min v.toNat n
theorem sIx_none(n d:Nat):sIx n d b7=d:=rfl
theorem sIx_nat(n d k:Nat):sIx n d (a9 (k:Int))=min k n:=by show (if (k:Int)<0 then((k:Int)+(n:Int)).toNat else min (k:Int).toNat n)=min k n;rw[t6 (by lia),LP]
theorem Ji(n d:Nat)(h:d<=n)(o:Option Int):sIx n d o<=n:=by
 cases o with
 |none=>exact h
 |some v=>show (if v<0 then(v+(n:Int)).toNat else min v.toNat n)<=n;by_cases c:v<0;rw[t5 c];lia;rw[t6 c];exact Nat.min_le_right _ _
theorem Ca(v:Int)(n d:Nat):(if v<0 then max (v+(n:Int)) 0 else min v (n:Int))=((sIx n d (a9 v):Nat):Int):=by
 show (if v<0 then max (v+(n:Int)) 0 else min v (n:Int))=(((if v<0 then(v+(n:Int)).toNat else min v.toNat n):Nat):Int)
 by_cases c:v<0;simp only[t5 c];lia;simp only[t6 c];lia
theorem zd(lo hi:Option Int)(n:Nat):RG lo hi 1 (n:Int)=(((sIx n 0 lo:Nat):Int),((sIx n n hi:Nat):Int)):=by
 have h1:¬((1:Int)<0):=by lia
 unfold RG;simp only[h1,u3];refine Prod.ext ?_ ?_;cases lo with
 |none=>rfl
 |some v=>exact Ca v n 0
 cases hi with
 |none=>rfl
 |some v=>exact Ca v n n
theorem yp(i j:Nat):QW (i:Int) (j:Int) 1=j-i:=by
 unfold QW;have h1:(1:Int) > 0:=by lia
 simp only[h1,u4,Int.ediv_one];split<;>lia
theorem pP(p:m6 v o)(h:Q o s):g9 (i3 prog w) A (Builtin.Slice.slicePartIndex v) Q E s:=by
 cases p with
 |none=>exact slicePart_none h
 |int i t=>exact slicePart_int h
theorem fU{p:c8}{l u:c3}{lo hi:Option Int}{n:Nat}{Q:Int×Int×Nat->f8->Prop}(hs:s.heap.IsSliceOf p l u .none)(d:m6 l lo)(e:m6 u hi)(h:Q (((sIx n 0 lo:Nat):Int),1,sIx n n hi-sIx n 0 lo) s):g9 (i3 prog w) A (RO (.ref p)<|pure (n:Int)) Q E s:=by obtain⟨o,b,c,a⟩:=id hs;unfold RO Builtin.Slice.sliceFields;refine u7<|u7<|Nt b a (x:=l) rfl<|u7<|Nt b a (x:=u) rfl<|u7<|Nt b a (x:=.none) rfl<|u9 ?_;refine u7<|slicePart_none ?_;show g9 _ _ (if ((1:Int)==0)=b8 then _ else _) _ _ s;rw[t6<|by decide];refine u7<|pP d<|u7<|pP e<|u7<|u9 ?_;show g9 _ _ (match RG lo hi 1 (n:Int)with|(lo,hi)=>pure (lo,(1:Int),QW lo hi 1)) _ _ s;rw[zd lo hi n];show g9 _ _ (pure (((sIx n 0 lo:Nat):Int),(1:Int),QW ((sIx n 0 lo:Nat):Int) ((sIx n n hi:Nat):Int) 1)) _ _ s;rw[yp];exact u9 h
theorem Dd(xs:Array c3)(i k:Nat):((C9 k).filterMap λ(m:Nat)=>xs[((i:Int)+(m:Int)*1).toNat]?).toArray=((xs.toList.drop i).take k).toArray:=by
 have e:(λ(m:Nat)=>xs[((i:Int)+(m:Int)*1).toNat]?)=λm=>xs[i+m]?:=by
  funext m;have:((i:Int)+(m:Int)*1).toNat=i+m:=by lia
  rw[this]
 rw[e];have:=pick_run xs i k;rw[List.filterMap_map]at this;have l:((λx=>xs[x]?) ∘ λx=>i+x)=λm=>xs[i+m]?:=rfl;rw[l]at this;rw[this]
theorem getItem_tuple_cut{t p:c8}{i:Array c3}{l u:c3}{lo hi:Option Int}{Q:c3->f8->Prop}(B:IsTup s.heap t i)(hs:s.heap.IsSliceOf p l u .none)(j:m6 l lo)(k:m6 u hi)(f:¬(sIx i.size 0 lo=0/\sIx i.size i.size hi=i.size))(h:Q (.ref s.heap.objs.size) { s with heap:=s.heap.push { cls:=.type "tuple",data:=.seq ((i.toList.drop<|sIx i.size 0 lo).take<|sIx i.size i.size hi-sIx i.size 0 lo).toArray } })(z:i.size<=sizeLine):g9 (i3 prog w) A (m7 (.ref t)<|.ref p) Q E s:=by
 have e:sizeOk (.seq ((i.toList.drop<|sIx i.size 0 lo).take<|sIx i.size i.size hi-sIx i.size 0 lo).toArray):=by show ((i.toList.drop<|sIx i.size 0 lo).take<|sIx i.size i.size hi-sIx i.size 0 lo).toArray.size<=sizeLine;rw[B5,LO,Mb,F5];lia
 have L:sIx i.size i.size hi<=i.size:=Ji _ _ (x5 _) hi;obtain⟨g,b,c,d⟩:=id hs;have a:s.TypeIs (.ref p) "slice":=⟨g,b,c⟩
 unfold m7
 try with_reducible refine F3 ?_
 first|refine u7 (u9 ?_)|skip
 refine u7<|wpAny_sequenceKey B.typeIs (by decide) ?_;refine u7<|MM (name:=v6 "__getitem__") B.typeIs Pd<|J4 Pd B.typeIs entry_tuple_getitem ?_<|args_tuple_getitem _ _;show g9 _ _ (QX (.ref t) >>= _) _ _ s;refine u7<|tupleItemsOf_ B ?_;refine u7<|MH a ?_;rw[t5<|by decide];refine u7<|fU hs j k ?_;have o:¬((((sIx i.size 0 lo:Nat):Int)==0&&(1:Int)==1&&(sIx i.size i.size hi-sIx i.size 0 lo)==i.size)=b8):=by intro q;rw[G0,G0]at q;have n:((sIx i.size 0 lo:Nat):Int)=0:=eq_of_beq q.1.1;have r:sIx i.size i.size hi-sIx i.size 0 lo=i.size:=eq_of_beq q.2;exact f ⟨by lia,by lia⟩
 show g9 _ _ (if (((sIx i.size 0 lo:Nat):Int)==0&&(1:Int)==1&&(sIx i.size i.size hi-sIx i.size 0 lo)==i.size)=b8 then _ else _) _ _ s;rw[t6 o,Dd]
 first
  |exact u7 (m:=QU _) (J0 (u9 ⟨_,rfl,u9 h⟩) e)
  |exact u7 (m:=QU _) (J0 (u7 (u9 (u9 ⟨_,rfl,u9 h⟩))) e)
  |exact u7 (u7 (m:=QU _) (J0 (u9 (u9 ⟨_,rfl,u9 h⟩)) e))
  |exact u7 (u7 (m:=QU _) (J0 (u9 ⟨_,rfl,u9 h⟩) e))
end HT
namespace L2
open PySem PySem.Spec PyProof.Rows
abbrev TO:=St->Hp->(Option Int->Hp->Prop)->Prop
def PO(X:Cx)(e:Option h7)(t:TO):Prop:=∀(p:List (c8×c9)) (s:f8) (σ:St) (H:Hp) (Q:Option Int->Hp->Prop),v4 X p σ H s->t σ H Q ->g9 (i3 X.prog X.w) X.A (evalPart e X.env) (λu s'=>∃o H',v4 X p σ H' s'/\m6 u o/\Q o H') X.xe s
def FY:TO:=λ_ H Q=>Q b7 H
def tPart(t:TE):TO:=λσ H Q=>t σ H λx a=>∃i,x=.int i/\Q (a9 i) a
section
variable{X:Cx}{e:h7}{te:TE}{lo hi:Option h7}{tl th:TO}{pos p2:Pos}
theorem Gx:PO X b7 FY:=by intro p s σ H Q I h;rw[evalPart_none];exact u9 ⟨b7,H,I,.none,h⟩
theorem Gw(h:PE X e te):PO X (a9 e) (tPart te):=by intro p s σ H Q I w;rw[evalPart_some];refine A2 (h p s σ H _ I w) ?_;rintro u f ⟨x,a,b,r,c⟩;obtain⟨i,rfl,q⟩:=c;obtain⟨t,rfl⟩:=r;exact⟨a9 i,a,b,.int i t,q⟩
def Pq(X:Cx)(r:V->Option Int->Option Int->Hp->VK->Prop):Prop:=∀(p:List (c8×c9)) (s:f8) (σ:St) (H:Hp) (x:V) (v b u:c3) (l hi:Option Int) (a:c8) (Q:VK),v4 X p σ H s->aN x v->s.heap.IsSliceOf a b u .none->m6 b l->m6 u hi->r x l hi H Q ->∃T id,typeLookup (.type T) "__getitem__" = pure (a9<|.builtin id)/\s.TypeIs v T/\g9 (i3 X.prog X.w) X.A (m7 v<|.ref a) (EP X p σ Q) X.xe s
def tSl(r:V->Option Int->Option Int->Hp->VK->Prop)(te:TE)(t h:TO):TE:=λσ H Q=>te σ H λx a=>t σ a λl b=>h σ b λu c=>r x l u c Q
theorem Df(z:Pq X r)(t:PE X e te)(y:PO X lo tl)(C:PO X hi th):PE X (.Subscript e (.Slice lo hi b7 p2) pos) (tSl r te tl th):=by intro p s σ H Q I h;refine Subscript_<|A2 (t p s σ H _ I h) ?_;rintro v L ⟨x,g,j,K,F⟩;refine wpAny_Slice<|A2 (y p L σ g _ j F) ?_;rintro c M ⟨l,i,k,D,G⟩;refine A2 (C p M σ i _ k G) ?_;rintro d a ⟨u,f,m,E,J⟩;rw[evalPart_none];refine u9 ?_;have n:v4 X p σ f { a with heap:=a.heap.push { cls:=.type "slice",data:=.fields #[c,d,.none] } }:=m.kept (t':=a.toks) λb N q=>A1 _ q;obtain⟨T,id,o,B,R⟩:=z p { a with heap:=a.heap.push { cls:=.type "slice",data:=.fields #[c,d,.none] } } σ f x v c d l u a.heap.objs.size Q n K (Heap.IsSliceOf.new ..) D E J;show g9 (i3 X.prog X.w) X.A (subscriptTail e (.Slice lo hi b7 p2) v<|.ref a.heap.objs.size) (EP X p σ Q) X.xe { a with heap:=a.heap.push { cls:=.type "slice",data:=.fields #[c,d,.none] } };exact tail_any (ops:=[.ref a.heap.objs.size,v]) B o R<|by with_unfolding_all rfl
noncomputable def FO(xs:List V)(lo hi:Option Int):List V:=(xs.drop<|HT.sIx xs.length 0 lo).take<|HT.sIx xs.length xs.length hi-HT.sIx xs.length 0 lo
theorem om(xs:List V)(lo hi:Option Int):(FO xs lo hi).length<=xs.length:=by unfold FO;rw[LO,Mb];lia
def rSlT(K:w9):V->Option Int->Option Int->Hp->VK->Prop:=λx l hi H Q=>∃a xs,x=.ref a/\C7 K H a xs /\¬(HT.sIx xs.length 0 l=0/\HT.sIx xs.length xs.length hi=xs.length)/\∀p,H p=b7->Q (.ref p) (A6 H p<|.tup<|FO xs l hi)
theorem Jg:Pq X (rSlT X.K):=by
 intro p s σ H x v j u l hi i Q I g hs d e h;obtain⟨a,xs,rfl,c,w,q⟩:=h;cases g;obtain⟨its,r,B,z⟩:=I.tuple c;have n:its.toArray.size=xs.length:=by rw[B5];exact r.length.symm
 refine⟨"tuple",_,Pd.lookup,B.typeIs,?_⟩;refine HT.getItem_tuple_cut B hs d e (by rw[n];exact w) ?_ (by rw[n];exact z);rw[n];refine⟨.ref s.heap.objs.size,_,I.laid (t':=s.toks) (o:=.tup<|FO xs l hi) (λb f q=>A1 _ q) (x5 _) ?_,rfl,q _<|I.hok.fresh<|x5 _⟩;exact⟨J7 (om xs l hi) z,_,(r.drop<|HT.sIx xs.length 0 l).take<|HT.sIx xs.length xs.length hi-HT.sIx xs.length 0 l,Fj.new _ _⟩
def rCatT(K:w9):R2:=λx y H Q=>∃a b xs ys,x=.ref a/\y=.ref b/\C7 K H a xs/\C7 K H b ys/\xs≠[]/\xs.length+ys.length<=sizeLine /\(ys=[]->Q (.ref a) H)/\(ys≠[]->∀p,H p=b7->Q (.ref p) (A6 H p<|.tup<|xs++ys))
theorem az.nil_iff(r:az xs us):us=[]↔xs=[]:=by
 cases r with
 |nil=>simp
 |cons _ _=>simp
theorem GJ:E5 X (j6 .Add) (rCatT X.K):=by intro p s σ H x y v u Q I m t h;obtain⟨a,b,xs,ys,rfl,rfl,f,d,e,c,k,l⟩:=h;cases m;cases t;obtain⟨its,r,g,_⟩:=I.tuple f;obtain⟨i,n,j,_⟩:=I.tuple d;refine HT.cat_tup g j (λz=>e<|r.nil_iff.mp z) (λz=>⟨.ref a,H,I,rfl,k<|n.nil_iff.mp z⟩) (λz=>?_) (by rw[<-r.length,<-n.length];exact c);refine⟨.ref s.heap.objs.size,_,I.laid (t':=s.toks) (o:=.tup<|xs++ys) (λb A q=>A1 _ q) (x5 _) ?_,rfl,l (λw=>z<|n.nil_iff.mpr w) _<|I.hok.fresh<|x5 _⟩;exact⟨by rw[B6];exact c,_,r.append n,Fj.new _ _⟩
end
noncomputable def M9(n:Nat)(i:Int):Option Nat:=if 0<=i then(if i<n then a9 i.toNat else b7)else if -(n:Int)<=i then a9 (i+n).toNat else b7
noncomputable def atI{α:Type}(xs:List α)(i:Int):Option α:=(M9 xs.length i).bind λj=>xs[j]?
theorem Bv(h:M9 n i=a9 j):seqIndex? i n=a9 j/\j<n/\-(n:Int)<=i/\i<n:=by unfold M9 at h;by_cases h0:0<=i;rw[t5 h0]at h;by_cases h1:i<n;rw[t5 h1]at h;have e:i.toNat=j:=D2 h;exact⟨by rw[seqIndex_of h0 h1,e],by lia,by lia,h1⟩;rw[t6 h1]at h;cases h;rw[t6 h0]at h;by_cases h1:-(n:Int)<=i;rw[t5 h1]at h;have e:(i+n).toNat=j:=D2 h;exact⟨by rw[seqIndex_neg (by lia) h1,e],by lia,h1,by lia⟩;rw[t6 h1]at h;cases h
theorem wt{α:Type}{xs:List α}{i:Int}{v:α}(h:atI xs i=a9 v):∃j,seqIndex? i xs.length=a9 j/\xs[j]?=a9 v/\j<xs.length/\-(xs.length:Int)<=i/\i<xs.length:=by
 unfold atI at h;cases e:M9 xs.length i with
 |none=>rw[e]at h;cases h
 |some j=>rw[e]at h;obtain⟨h1,h2,a,d⟩:=Bv e;exact⟨j,h1,h,h2,a,d⟩
theorem au{α:Type}{xs:List α}{j:Nat}{v:α}(h:xs[j]?=a9 v):atI xs (j:Int)=a9 v:=by
 have L:j<xs.length:=(C2.mp h).1;have e:M9 xs.length (j:Int)=a9 j:=by unfold M9;rw[t5 (by lia),t5<|by lia];simp
 unfold atI;rw[e];exact h
def wv(b:h7):Prop:=∀o i,subscripted b b9 o i=operate [o,i] (m7 o i)
def Mt(X:Cx)(r:R2):Prop:=∀(a e:h7) (p:List (c8×c9)) (s:f8) (σ:St) (H:Hp) (x y:V) (v u:c3) (Q:VK),v4 X p σ H s->aN x v->aN y u->r x y H Q ->subscripted e b9 v u=operate [v,u] (m7 v u)->g9 (i3 X.prog X.w) X.A (subscriptTail a e v u) (EP X p σ Q) X.xe s
def K3(X:Cx)(id:String)(r:V->List V->Hp->VK->Prop):Prop:=∀(p:List (c8×c9)) (s:f8) (σ:St) (H:Hp) (x:V) (xs:List V) (v:c3) (us:List c3) (Q:VK),v4 X p σ H s->aN x v->az xs us->r x xs H Q ->g9 (i3 X.prog X.w) X.A (call (.builtin id)<|v::us) (EP X p σ Q) X.xe s
section
variable{X:Cx}{a b:h7}{ta tb:TE}{pos:Pos}
theorem Mt.or(h:Mt X r)(h':Mt X r'):Mt X (λx y H Q=>r x y H Q\/r' x y H Q):=by intro a e p s σ H x y v u Q I g i q hs;rcases q with q|q;exact h a e p s σ H x y v u Q I g i q hs;exact h' a e p s σ H x y v u Q I g i q hs
theorem pe_ix(i:Mt X r)(f:PE X a ta)(d:PE X b tb)(hs:wv b):PE X (.Subscript a b pos) (Pf r ta tb):=by intro p s σ H Q I h;exact Subscript_<|binT f d I h λv u z x y c e g j q=>i a b p z σ c x y v u Q e g j q<|hs _ _
def rIxL(K:w9):R2:=λx y H Q=>∃p xs i v,x=.ref p/\y=.int i/\K2 K H p xs/\atI xs i=a9 v/\Q v H
def rIxT(K:w9):R2:=λx y H Q=>∃p xs i v,x=.ref p/\y=.int i/\C7 K H p xs/\atI xs i=a9 v/\Q v H
def rIxS:R2:=λx y H Q=>∃z i c,x=.str z/\y=.int i/\z.length<=sizeLine/\atI z.cps.toList i=a9 c/\Q (.str ⟨#[c]⟩) H
theorem Hz:Mt X (rIxL X.K):=by
 intro c e a s σ H x y v u Q I A B h hs;obtain⟨p,xs,i,z,rfl,rfl,o,l,q⟩:=h;cases A;obtain⟨t,rfl⟩:=B;obtain⟨its,r,d,E⟩:=I.list o;obtain⟨j,h1,h2,C,g,k⟩:=wt l;obtain⟨w,f,b⟩:=r.get h2;have m:=r.length;have D:=pZ;have n:EP X a σ Q w s:=⟨z,H,I,b,q⟩
 by_cases h0:0<=i;have L:i.toNat=j:=by rw[seqIndex_of h0 k]at h1;exact D2 h1
 exact item_listR d.isList h0 (by lia) (by rw[L];simpa using f) n hs;have L:(i+(its.toArray.size:Int)).toNat=j:=by rw[seqIndex_neg (by lia) g]at h1;rw[B5,<-m];exact D2 h1
 exact subscriptTail_builtinR (x:=w) d.isList.typeIs slot_list_getitem.lookup (wpAny_getItem_list_neg (Q:=λr s'=>r=w/\EP X a σ Q r s') d.isList (by lia) (by rw[B5]<;>lia) (by lia) (by rw[L];simpa using f) ⟨rfl,n⟩) hs
theorem KB:Mt X (rIxT X.K):=by
 intro c e a s σ H x y v u Q I m o h hs;obtain⟨p,xs,i,z,rfl,rfl,k,g,q⟩:=h;cases m;obtain⟨t,rfl⟩:=o;obtain⟨its,r,d,E⟩:=I.tuple k;obtain⟨j,h1,h2,A,B,C⟩:=wt g;obtain⟨w,f,b⟩:=r.get h2;have l:=r.length;have D:=pZ;have n:EP X a σ Q w s:=⟨z,H,I,b,q⟩
 exact subscriptTail_builtinR (x:=w) d.typeIs slot_tuple_getitem.lookup (getItem_tuple (j:=j) (Q:=λr s'=>r=w/\EP X a σ Q r s') d (by lia) (by lia) (by rw[B5,<-l];exact h1) (by simpa using f) ⟨rfl,n⟩) hs
theorem KC:Mt X rIxS:=by
 intro a e p s σ H x y v u Q I r m h hs;obtain⟨z,i,c,rfl,rfl,w,f,q⟩:=h;obtain⟨t,rfl⟩:=r;obtain⟨t',rfl⟩:=m;obtain⟨j,h1,h2,n,d,k⟩:=wt f;have g:z.cps.toList.length=z.length:=by simp[Str.length]
 rw[g]at h1 d k;have o:=pZ;exact tail_any (On s z t) slot_str_getitem.lookup (getItem_str (c:=c) (by have b:decide (i < -(2 ^ 63:Int))=b9:=dF_ (by lia);have l:decide (i ≥ 2 ^ 63)=b9:=dF_ (by lia);rw[b,l,OR]) (by rw[h1];simpa using h2) ⟨.str ⟨#[c]⟩,H,I.tok _,⟨_,rfl⟩,q⟩) hs
def rIx(K:w9):R2:=λx y H Q=>rIxL K x y H Q\/rIxT K x y H Q\/rIxS x y H Q
theorem KD:Mt X (rIx X.K):=Hz.or<|KB.or KC
theorem yD(its:List c3)(n j:Nat)(u:c3):G6 (·.setIfInBounds j u) { cls:=.type "list",data:=.seq its.toArray n }={ cls:=.type "list",data:=.seq (its.set j u).toArray n }:=by simp[G6]
theorem v4.lst(I:v4 X pins σ H s)(h:H p=a9 (.lst xs)):∃(its:List c3) (n:Nat),az xs its/\s.heap.get? p=a9 { cls:=.type "list",data:=.seq its.toArray n }/\xs.length<=sizeLine:=by obtain⟨z,its,n,r,e⟩:=I.hok p _ h;exact⟨its,n,r,e,z⟩
theorem v4.lstUpd{pins:List (c8×c9)}{σ:St}{H:Hp}{s:f8}{p:c8}{xs ys:List V}{its its':List c3}{n a:Nat}{f:c9->c9}(I:v4 X pins σ H s)(h:H p=a9 (.lst xs))(m:s.heap.get? p=a9 { cls:=.type "list",data:=.seq its.toArray n }) (c:f { cls:=.type "list",data:=.seq its.toArray n }={ cls:=.type "list",data:=.seq its'.toArray a }) (r:az ys its') (hz:ys.length<=sizeLine) (t:Nat):v4 X pins σ (A6 H p<|.lst ys) { s with heap:=s.heap.update p f,toks:=t }:=by
 have e:(s.heap.update p f).get? p=a9 { cls:=.type "list",data:=.seq its'.toArray a }:=by rw[LQ f m (by rw[c]<;>rfl),c]
 refine I.write (x:=p) (e:=p) (by rw[h];trivial) (.inl rfl) (λb u d q=>(NL _ _<|D4 d).trans q) ⟨_,e⟩ ?_;exact⟨hz,its',a,r,e⟩
def rSetL:V->V->V->Hp->(Hp->Prop)->Prop:=λo i v H Q=>∃p xs k j,o=.ref p/\i=.int k/\H p=a9 (.lst xs)/\M9 xs.length k=a9 j/\Q (A6 H p<|.lst<|xs.set j v)
theorem CQ:PSet X rSetL:=by
 intro a s σ H o i v A y u Q I l f w h;obtain⟨p,xs,k,j,rfl,rfl,hp,L,q⟩:=h;cases l;obtain⟨t,rfl⟩:=f;obtain⟨its,n,r,m,z⟩:=I.lst hp;obtain⟨h1,h2,d,e⟩:=Bv L;have g:=r.length;have x:=pZ;have c:v4 X a σ (A6 H p<|.lst<|xs.set j v) { s with heap:=s.heap.update p (G6 (·.setIfInBounds j u)) }:=I.lstUpd hp m (yD its n j u) (r.set w j) (by rw[N5];exact z) s.toks;by_cases h0:0<=k;have b:k.toNat=j:=by rw[seqIndex_of h0 e]at h1;exact D2 h1
 exact PySem.W.ki_setAt m h0 (by lia) (by rw[B5,<-g];exact e) (by rw[b];exact⟨_,c,q⟩);have b:(k+(its.toArray.size:Int)).toNat=j:=by rw[seqIndex_neg (by lia) d]at h1;rw[B5,<-g];exact D2 h1
 exact PySem.W.ki_setBack m (by lia) (by rw[B5,<-g];exact d) (by lia)<|by rw[b];exact⟨_,c,q⟩
theorem tF(lo hi:Option Int)(n:Nat):(m8 lo hi b7 n).1=((HT.sIx n 0 lo:Nat):Int)/\(m8 lo hi b7 n).2.1=((HT.sIx n n hi:Nat):Int)/\(m8 lo hi b7 n).2.2=1:=by
 refine⟨?_,?_,rfl⟩;cases lo with
 |none=>simp[m8,HT.sIx]
 |some i=>simp only[m8,HT.sIx,Option.getD_none,show (1:Int) > 0 by decide,u4];by_cases h:i<0;simp only[h,u4]<;>lia;simp only[h,u3]<;>lia
 cases hi with
 |none=>simp[m8,HT.sIx]
 |some i=>simp only[m8,HT.sIx,Option.getD_none,show (1:Int) > 0 by decide,u4];by_cases h:i<0;simp only[h,u4]<;>lia;simp only[h,u3]<;>lia
theorem qF(its:List c3)(lo hi:Option Int):slicePick its.toArray lo hi b7=((its.drop<|HT.sIx its.length 0 lo).take<|HT.sIx its.length its.length hi-HT.sIx its.length 0 lo).toArray:=by obtain⟨h1,h2,a⟩:=tF lo hi its.toArray.size;unfold slicePick;rw[h1,h2,a];simp only[sliceRange_one,pick_run,B5]<;>rfl
def rSlL(K:w9):V->Option Int->Option Int->Hp->VK->Prop:=λx l hi H Q=>∃a xs,x=.ref a/\K2 K H a xs/\∀p,H p=b7->Q (.ref p) (A6 H p<|.lst<|FO xs l hi)
theorem Gc:Pq X (rSlL X.K):=by intro p s σ H x v j u l hi i Q I g hs d e h;obtain⟨a,xs,rfl,c,q⟩:=h;cases g;obtain⟨its,r,B,z⟩:=I.list c;have n:=r.length;refine⟨"list",_,slot_list_getitem.lookup,B.isList.typeIs,?_⟩;refine wpAny_getItem_list_slice B.isList hs d e .none (by simp) ?_ (by rw[B5]<;>lia);rw[qF,<-n];refine⟨.ref s.heap.objs.size,_,I.laid (t':=s.toks) (o:=.lst<|FO xs l hi) (λb f q=>A1 _ q) (x5 _) ?_,rfl,q _<|I.hok.fresh<|x5 _⟩;exact⟨J7 (om xs l hi) z,_,0,(r.drop<|HT.sIx xs.length 0 l).take<|HT.sIx xs.length xs.length hi-HT.sIx xs.length 0 l,C0 _ rfl⟩
theorem uN:gP X (.builtin "len") (λxs H Q=>∃p ys,xs=[.ref p]/\(K2 X.K H p ys\/C7 X.K H p ys)/\Q (.int ys.length) H):=by intro b s σ H xs us Q I r h;obtain⟨p,ys,rfl,a,q⟩:=h;obtain⟨u,rfl,g⟩:=FW r;cases g;have f:=pZ;rcases a with a|a;obtain⟨its,r',d,z⟩:=I.list a;have n:=r'.length;exact Calls.call_len_list d.isList (by simp only[B5]<;>lia) ⟨.int ys.length,H,I.tok _,⟨s.toks+1,by rw[B5,n]⟩,q⟩;obtain⟨its,r',d,z⟩:=I.tuple a;have n:=r'.length;exact len_tuple d (by simp only[B5]<;>lia) ⟨.int ys.length,H,I.tok _,⟨s.toks+1,by rw[B5,n]⟩,q⟩
theorem uM:gP X (.builtin "len") (λxs H Q=>∃z,xs=[.str z]/\z.length<=sizeLine/\Q (.int z.length) H):=by intro p s σ H xs us Q I r h;obtain⟨z,rfl,b,q⟩:=h;obtain⟨u,rfl,t,rfl⟩:=FW r;have f:=pZ;exact len_str (by lia) ⟨.int z.length,H,I.tok _,⟨_,rfl⟩,q⟩
theorem gP.or(h:gP X f r)(h':gP X f r'):gP X f (λxs H Q=>r xs H Q\/r' xs H Q):=by intro p s σ H xs us Q I a q;rcases q with q|q;exact h p s σ H xs us Q I a q;exact h' p s σ H xs us Q I a q
theorem rL:gP X (.type "tuple") (λxs H Q=>∃p ys,xs=[.ref p]/\((K2 X.K H p ys/\∀l,H l=b7->Q (.ref l) (A6 H l<|.tup ys))\/(C7 X.K H p ys/\Q (.ref p) H))):=by
 intro a s σ H xs us Q I r h;obtain⟨p,ys,rfl,h⟩:=h;obtain⟨u,rfl,x⟩:=FW r;cases x;rcases h with⟨c,q⟩|⟨c,q⟩
 obtain⟨its,r',d,z⟩:=I.list c;have n:=r'.length;refine call_tuple_list d.isList (λh' k=>?_) (by simp only[B5]<;>lia);have f:v4 X a σ H { s with heap:=h' }:=I.kept (t':=s.toks) k;have g:v4 X a σ (A6 H h'.objs.size<|.tup ys) { s with heap:=h'.push { cls:=.type "tuple",data:=.seq its.toArray } }:=f.laid (t':=s.toks) (λb o e=>A1 _ e) (x5 _)<|show cA X.prog X.w _ _ _ (.tup ys)from⟨z,its,r',Fj.new _ _⟩;exact⟨.ref h'.objs.size,_,g,rfl,q _<|f.hok.fresh<|x5 _⟩;obtain⟨its,r',d,z⟩:=I.tuple c;exact call_tuple_same d ⟨.ref p,H,I,rfl,q⟩
def Q5(K:w9)(T:String)(x:V)(H:Hp):Prop:=match x with
 |.str _=>T = "str"
 |.int _=>T = "int"
 |.ref p=>(T = "list"/\∃xs,K2 K H p xs)\/(T = "tuple"/\∃o,K.lookup p=a9 o/\o.cls=.type "tuple"/\o.dict=b7) \/(T = "dict"/\((∃kvs,H p=a9 (.dK kvs))\/∃kvs,H p=a9 (.dT kvs)))\/(T = "set"/\∃S n,H p=a9 (.set S n))
 |_=>False
theorem Fl(I:v4 X pins σ H s)(r:aN x v)(y:Q5 X.K T x H):s.TypeIs v T/\∀a,v=.ref a->∃ob,s.heap.get? a=a9 ob/\ob.dict=b7:=by
 cases x with
 |str z=>obtain⟨t,rfl⟩:=r;cases (show T = "str" from y);exact⟨On s z t,λ_ e=>nomatch e⟩
 |int i=>obtain⟨t,rfl⟩:=r;cases (show T = "int" from y);exact⟨typeIs_int s i t,λ_ e=>nomatch e⟩
 |ref p =>
  cases r;rcases y with⟨rfl,xs,q⟩|⟨rfl,o,k,h,d⟩|⟨rfl,k⟩|⟨rfl,S,n,k⟩
  obtain⟨its,_,f,_⟩:=I.list q;refine⟨f.isList.typeIs,λa e=>?_⟩;cases e;obtain⟨o,n,e,c,d,_⟩:=f;exact⟨o,e,d⟩;refine⟨⟨o,I.kIn p o k,h⟩,λa e=>?_⟩;cases e;exact⟨o,I.kIn _ o k,d⟩;have z:∃o,s.heap.get? p=a9 o/\o.ExactDict:=by
   rcases k with⟨kvs,k⟩|⟨kvs,k⟩
   obtain⟨_,_,_,_,o,_,_,e,b,_⟩:=I.hok p _ k;exact⟨o,e,b⟩;obtain⟨_,_,_,_,o,_,_,e,b,_⟩:=I.hok p _ k;exact⟨o,e,b⟩
  obtain⟨o,e,b⟩:=z;refine⟨⟨o,e,b.1⟩,λa l=>?_⟩;cases l;exact⟨o,e,b.2.1⟩;obtain⟨o,_,_,_,e,b,_⟩:=I.hok p _ k;refine⟨⟨o,e,b.1⟩,λa l=>?_⟩;cases l;exact⟨o,e,b.2.1⟩
 |_=>exact Nq y
def tBM0(K:w9)(T:String)(r:V->List V->Hp->VK->Prop)(e:TE):TE:=λσ H Q=>e σ H λx a=>Q5 K T x a/\r x [] a Q
def tBM(K:w9)(T:String)(r:V->List V->Hp->VK->Prop)(e:TE)(t:TA):TE:=λσ H Q=>e σ H λx a=>Q5 K T x a/\t σ a λxs b=>r x xs b Q
variable{o e:h7}{es:List h7}{to:TE}{t:TA}{name:c5}{apos cpos:Pos}{T id:String}{r:V->List V->Hp->VK->Prop}
theorem JG(g:PlainAttrs T)(slot:Slot T name id)(y:m9 (.builtin id)=pure (.type "method_descriptor"))(m:K3 X id r)(f:PE X o to)(e:n5 o name X.env (eval o X.env)=eval o X.env:=by rfl) (a:(apos.endLine==cpos.line)=b8:=by rfl):PE X (.Call (.Attribute o name apos) [] [] cpos) (tBM0 X.K T r to):=by intro p s σ H Q I h;refine QP e a<|A2 (f p s σ H _ I h) ?_;rintro v i ⟨x,d,b,c,t,q⟩;obtain⟨h1,h2⟩:=Fl b c t;exact⟨T,id,g,slot,y,h1,h2,Oa rfl<|QK<|m p i σ d x [] v [] Q b c .nil q⟩
theorem JH(u:PlainAttrs T)(slot:Slot T name id)(y:m9 (.builtin id)=pure (.type "method_descriptor"))(l:K3 X id r)(q:PE X o to)(k:PA X (e::es) t)(b:n5 o name X.env (eval o X.env)=eval o X.env:=by rfl)(w:((i4 cpos<|i5 (e::es) X.env).all (λx=>!x.1)&&(n9 cpos<|o0 [] X.env).all (λx=>x.1.isSome) && decide ((e::es).length+([]:List o4).length+(if ([]:List o4).isEmpty then 0 else 1)<30))=b8:=by rfl)(c:(apos.endLine==cpos.line)=b8:=by rfl) (hs:i5 (e::es) X.env=(b9,eval e X.env)::i5 es X.env:=by rfl) (n:(i4 cpos<|i5 es X.env).any (·.1)=b9:=by rfl):PE X (.Call (.Attribute o name apos) (e::es) [] cpos) (tBM X.K T r to t):=by intro p s σ H Q I h;refine QO b w c rfl<|A2 (q p s σ H _ I h) ?_;rintro v D ⟨x,g,d,f,F,z⟩;obtain⟨h1,h2⟩:=Fl d f F;refine⟨T,id,u,slot,y,h1,h2,?_⟩;have A:=k cpos p D σ g _ d z;rw[hs]at A ⊢;refine Oa (by show (b9||(i4 cpos<|i5 es X.env).any (·.1))=b9;rw[n]<;>rfl)<|QL ?_;refine A2 A ?_;rintro us E ⟨vs,i,j,C,B⟩;exact l p E σ i x vs v us Q j f C B
/- xs.append(e),list.index on a module's tuple .. are K3 facts of 06m -/
end
def Re(X:Cx)(id:String)(r:V->List V->Hp->VK->Prop):Prop:=∀(p:List (c8×c9)) (s:f8) (σ:St) (H:Hp) (x:V) (xs:List V) (v:c3) (us:List c3) (Q:VK),v4 X p σ H s->aN x v->az xs us->r x xs H Q ->g9 (i3 X.prog X.w) X.A (call (.builtin id)<|v::us) (EP X p σ Q) X.xe s
theorem az.one(h:az [x] us):∃u,us=[u]/\aN x u:=by
 cases h with
 |cons r t=>cases t;exact⟨_,rfl,r⟩
theorem az.two(h:az [x,y] us):∃u v,us=[u,v]/\aN x u/\aN y v:=by
 cases h with
 |cons r t=>obtain⟨v,e,q⟩:=az.one t;subst e;exact⟨_,v,rfl,r,q⟩
theorem az.zero:∀{us:List c3},az [] us->us=[]
 |_,.nil=>rfl
theorem az.dropLast(h:az xs us):az xs.dropLast us.dropLast:=by
 induction h with
 |nil=>exact .nil
 |cons r t i =>
  cases t with
  |nil=>exact .nil
  |cons q t'=>exact .cons r i
theorem yT{α:Type}(l:List α):l.eraseIdx (l.length-1)=l.dropLast:=by
 induction l with
 |nil=>rfl
 |cons a r i =>
  cases r with
  |nil=>rfl
  |cons b r =>
   have e:(a::b::r).length-1=((b::r).length-1)+1:=by have h1:(a::b::r).length=r.length+2:=rfl;have h2:(b::r).length=r.length+1:=rfl;lia
   rw[e,List.eraseIdx_cons_succ,i]
   all_goals rfl
theorem v4.lset{its its':List c3}{n:Nat}{f:Array c3->Array c3}{t':Nat}(I:v4 X pins σ H s)(h:H l=a9 (.lst xs))(e:s.heap.get? l=a9 { cls:=.type "list",data:=.seq its.toArray n }) (a:f its.toArray=its'.toArray) (c:az ys its') (hz:ys.length<=sizeLine):v4 X pins σ (A6 H l<|.lst ys) { s with heap:=s.heap.update l<|G6 f,toks:=t' }:=by have q:=PySem.IsL.update e f;rw[a]at q;refine I.write (x:=l) (e:=l) (by rw[h];exact trivial) (.inl rfl) (λb u d g=>(NL s.heap (G6 f)<|D4 d).trans g) ⟨_,q⟩ ?_;exact⟨hz,its',_,c,q⟩
theorem v4.lnew(I:v4 X pins σ H s)(c:az ys its)(hz:ys.length<=sizeLine):v4 X pins σ (A6 H s.heap.objs.size<|.lst ys) { s with heap:=s.heap.push { cls:=.type "list",data:=.seq its.toArray },toks:=t' }:=I.laid (λ_ _ q=>A1 _ q) (x5 _) ⟨hz,its,0,c,C0 _ rfl⟩
theorem v4.fresh(I:v4 X pins σ H s):H s.heap.objs.size=b7:=I.hok.fresh<|x5 _
theorem v4.lstM(I:v4 X pins σ H s)(h:H l=a9 (.lst xs)):xs.length<=sizeLine/\∃(its:List c3) (n:Nat),az xs its/\xs.length=its.length/\s.heap.get? l=a9 { cls:=.type "list",data:=.seq its.toArray n }:=by obtain⟨z,its,n,r,e⟩:=I.hok l _ h;exact⟨z,its,n,r,r.length,e⟩
theorem Dv(h:n<=sizeLine):RC n=b9:=by unfold RC;exact dF_<|by lia
def Gi:V->List V->Hp->VK->Prop:=λx vs H Q=>∃l xs y,x=.ref l/\vs=[y]/\H l=a9 (.lst xs)/\xs.length<sizeLine/\Q .non (A6 H l<|.lst<|xs++[y])
theorem AT:Re X "list.append" Gi:=by intro p s σ H x vs v us Q I g d h;obtain⟨l,xs,y,rfl,rfl,a,c,q⟩:=h;cases g;obtain⟨u,rfl,S⟩:=d.one;obtain⟨z,its,n,r,b,e⟩:=I.lstM a;refine o5 F.slot_list_append ⟨_,e,rfl⟩ F.entry_list_append (F.args_list_append_2 _ _) (PySem.list_append l its.toArray n u<|by rw[B5];lia) ⟨e,?_⟩;refine⟨.non,_,I.lset (its':=its++[u]) a e (by simp) (r.append<|.cons S .nil) ?_,rfl,q⟩;rw[B6,G5];lia
def Gh:V->List V->Hp->VK->Prop:=λx vs H Q=>∃l b xs s,x=.ref l/\vs=[.ref b]/\H l=a9 (.lst xs)/\H b=a9 (.lst s)/\xs.length+s.length<=sizeLine/\Q .non (A6 H l<|.lst<|xs++s)
theorem AS:Re X "list.extend" Gh:=by
 intro p s σ H x vs v us Q I o m h;obtain⟨l,b,xs,A,rfl,rfl,c,hB,w,q⟩:=h;cases o;obtain⟨u,rfl,S⟩:=m.one;cases S;obtain⟨z,its,n,r,t,e⟩:=I.lstM c;obtain⟨y,i,j,k,f,d⟩:=I.lstM hB;have a:its.toArray.size+i.toArray.size<=sizeLine:=by rw[B5,B5];lia
 have g:¬(!its.toArray.isEmpty&&RC (its.toArray.size+i.toArray.size))=b8:=by rw[Dv a,PM];exact MK
 refine o5 F.slot_list_extend ⟨_,e,rfl⟩ F.entry_list_extend (F.args_list_extend_2 _ _) (AutoSeq1.list_extend_list_list_0 l its.toArray n b i.toArray j g (by rw[B5];lia)<|by lia) ⟨e,d,?_⟩;refine⟨.non,_,I.lset (its':=its++i) c e (by simp) (r.append k) ?_,rfl,q⟩;rw[B6];lia
def rPop:V->List V->Hp->VK->Prop:=λx vs H Q=>∃l xs y,x=.ref l/\vs=[]/\H l=a9 (.lst xs)/\xs[xs.length-1]?=a9 y/\Q y (A6 H l<|.lst xs.dropLast)
theorem Ka:Re X "list.pop" rPop:=by
 intro p s σ H x vs v us Q I i f h;obtain⟨l,xs,y,rfl,rfl,c,O,q⟩:=h;cases i;have a:=f.zero;subst a;obtain⟨z,its,n,r,g,e⟩:=I.lstM c;obtain⟨u,d,S⟩:=r.get O;have b:its.toArray[its.toArray.size-1]?=a9 u:=by show its.toArray[its.length-1]?=a9 u;rw[<-J5,<-g];exact d
 refine o5 F.slot_list_pop ⟨_,e,rfl⟩ F.entry_list_pop (F.args_list_pop_1 _) (MeetsSeq.list_pop_last l its.toArray n u b<|by rw[B5];lia) ⟨e,?_⟩;refine⟨y,_,I.lset (its':=its.dropLast) c e ?_ r.dropLast ?_,S,q⟩;show its.toArray.eraseIdxIfInBounds (its.toArray.size-1)=its.dropLast.toArray;rw[B5,List.eraseIdxIfInBounds_toArray,yT];rw[List.length_dropLast];lia
def rCat:R2:=λx y H Q=>∃l b xs s,x=.ref l/\y=.ref b/\H l=a9 (.lst xs)/\H b=a9 (.lst s)/\xs.length+s.length<=sizeLine/\∀p,H p=b7->Q (.ref p) (A6 H p<|.lst<|xs++s)
theorem JP:E5 X (j6 .Add) rCat:=by
 intro p s σ H x y v u Q I j k h;obtain⟨l,b,xs,A,rfl,rfl,d,hB,o,q⟩:=h;cases j;cases k;obtain⟨z,its,n,r,m,e⟩:=I.lstM d;obtain⟨w,i,t,g,f,a⟩:=I.lstM hB;refine PySem.P.add_list e a ?_ (by rw[B5,B5];lia);have c:its.toArray++i.toArray=(its++i).toArray:=by simp
 rw[c];exact⟨.ref _,_,I.lnew (t':=s.toks) (r.append g) (by rw[B6];lia),rfl,q _ I.fresh⟩
end L2
namespace Att
open PySem PySem.W PySem.Calls PyProof.Rows
theorem nW:∀(ns:List Int) (vs:List c3),WellAll P h vs (ns.map WData.int)->IntsAre vs ns:=by
 intro ns;induction ns with
 |nil=>intro vs w;rw[PF]at w;cases w;exact .nil
 |cons n ns i =>
  intro vs w;rw[D5]at w;cases w with
  |cons a b=>cases a;exact .cons _ _<|i _ b
theorem Am{l:OpenLaw}{n:Nat}(o:l.most=a9 n){P:Params}{h:d5}{args:List WData}{s:List c3}(e:l.row.toRowW.claim.pre args=b8) (i:WellAll P h s args):∃a vs ns,s=[AAu a]/\args=[WData.list<|ns.map WData.int]/\h.get? a=a9 { cls:=.type "list",data:=.seq vs.toArray }/\IntsAre vs ns/\ns.length<=n:=by
 have g:WShape.hasAll [] args [.list .int]=b8:=(pre_splitW e).1;have j:l.pre.holds [] { args:=args }=b8:=(pre_splitW e).2;obtain⟨d,r,rfl,h1,h2⟩:=hasAllW_cons g;obtain rfl:=hasAllW_nil h2;obtain⟨xs,rfl,m⟩:=hasW_list h1;obtain⟨ns,rfl⟩:=items_int m;have c:ns.length<=n:=by
  unfold OpenLaw.pre at j;have f:(WTm.not<|.lt (.lit<|.int (n:Int))<|.len<|.arg 0).holds [] { args:=[.list<|ns.map .int] }=b8:=by have f:=(holds_andW j).1;rw[o]at f;exact f
  have k:=condW_of f<|w_not<|w_lt w_lit<|w_len_list<|w_arg rfl;rw[w4]at k;refine Nat.le_of_not_lt λq=>?_;have t:(n:Int)<((ns.length:Nat):Int):=by lia
  first
   |(rw[dT_ t]at k;exact t7 k (by decide))
   |(simp at k;lia)
 cases i with
 |cons K w =>
  cases w;cases K with
  |list p b=>exact⟨_,_,ns,rfl,rfl,p,nW ns _ b,c⟩
theorem Aw(l:OpenLaw)(args:List WData):l.row.toRowW.claim.post args (.bool b8) args=b8:=postW_of (r:=l.row.toRowW) (X:=(b8==b8))
  (show WShape.has [] (.bool b8) .bool=b8 by first|rfl|decide|simp[WShape.has,WShape.arms,WShape.armsAll])
  (show (WTm.eq .res<|.lit<|.bool b8).value [] { args:=args,res:=a9<|.bool b8,after:=args }=a9 (.bool<|b8==b8)from w_eq_bool (w_res rfl) w_lit) rfl
theorem attach_call{l:OpenLaw}{n:Nat}{q:c7}{e:List c5}{P:(c5->Option c3)->d5->Prop}{YP:c6->d5->Prop}{d:DefRec}(A:l.most=a9 n) (i:d.params.defaults=[])(c:∀(w:c6) (s₀ s₁:f8) (mg mb:c5->Option c3) (fa:c8) (o:c9) (pm cd doc:c3) (a:c8) (vs:List c3) (ns:List Int),Ground q e [] P w s₀ mg mb s₁.heap->YP w s₁.heap -> s₁.heap.get? fa=a9 o->o.data=.func (docDef d.name d.params d.body d.scope pm cd doc)->s₁.heap.CodeRec cd d.name->mg d.name=a9 (.ref fa) ->s₁.heap.get? a=a9 { cls:=.type "list",data:=.seq vs.toArray }->IntsAre vs ns->ns.length<=n->s₁.gens = #[] ->k9 (i3 l.prog w) callerA (.call (.ref fa) ⟨[.ref a],[]⟩) (λr s'=>r=.ok (.ret<|.bool b8)/\OldK s₁.heap s'.heap/\s'.os=s₁.os/\ge s'.gens) s₁):WalkO q e P YP l.row.toRowW d [] (λf vs=>PySem.call f vs):=by intro w s₀ s₁ mg mb G Y fa o pm cd doc T kV B u g D k R O v as b y E m x;obtain rfl:T=.none:=Dflts.none D i;obtain rfl:kV=.none:=Dflts.noKw D;obtain⟨a,vs,ns,rfl,rfl,j,s,h⟩:=Am A b m;refine enter_call<|Oq (c w s₀ s₁ mg mb fa o pm cd doc a vs ns G Y B (fd_plain u) g k j s h R) λr s' C=>?_;obtain⟨rfl,h2,p,t⟩:=C;exact⟨.inl ⟨.bool b8,.bool b8,[],rfl,λ_=>rfl,.bool b8,Aw l _,λ_=>⟨P5,λ_ z=>(nomatch z)⟩⟩,h2,p,t⟩
noncomputable def noObjs(h:d5):d5:={ h with objs:=#[] }
theorem noObjs_get(h:d5)(b:c8):(noObjs h).get? b=b7:=by
 cases e:(noObjs h).get? b with
 |none=>rfl
 |some o=>exact t7 (A4 e)<|Nv _
noncomputable def ledger(h:d5)(L d:c8):List (c8×c9):=(C9 h.objs.size).filterMap λa=>if a=L\/a=d then b7 else(h.get? a).map λo=>(a,o)
theorem mem_ledger:(a,o)∈ledger h L d↔a≠L/\a≠d/\h.get? a=a9 o:=by unfold ledger;rw[OE];constructor;rintro⟨b,_,e⟩;split at e;cases e;rename_i c;obtain⟨o',m,f⟩:=MZ.mp e;cases f;exact⟨λq=>c<|.inl q,λq=>c<|.inr q,m⟩;rintro⟨n1,n2,m⟩;refine⟨a,K0.mpr<|A4 m,?_⟩;rw[t6<|show ¬(a=L\/a=d)from λq=>q.elim n1 n2,m]<;>rfl
theorem news_ledger(b:d≠L)(m:h.get? d=a9 od):News (noObjs h) L h ([]++(d,od)::ledger h L d):=by rintro⟨a,o⟩ hp;rcases C3.mp hp with e|hp;cases e;exact⟨m,b,noObjs_get _ _⟩;obtain⟨n,p,e⟩:=mem_ledger.mp hp;exact⟨e,n,noObjs_get _ _⟩
theorem fr_all(n:h.Ns L m):Fr (noObjs h) L h m:=⟨n,λb o e=>(by rw[noObjs_get]at e;cases e),A8 _⟩
end Att
namespace L2
open PySem PySem.Spec PyProof.Rows
theorem sg:∀{vs:List c3}{ns:List Int},IntsAre vs ns->az (ns.map V.int) vs
 |_,_,.nil=>.nil
 |_,_,.cons n t h=>.cons ⟨t,rfl⟩<|sg h
def Only(H:Hp):Prop:=∀b,H b=b7\/∃o xs,H b=a9 (.frz o<|.lst xs)
theorem DZ{P:c7}{w:c6}{K:w9}{mg mb:c5->Option c3}{CX:Nn}{k:Nat}{I a:c8}{R:k5}{x:c5}{sp:Sp}{s₁:f8}{vs:List c3}{ns:List Int}(O:K.In s₁.heap) (y:s₁.heap.Ns d9 mg) (c:s₁.heap.Ns builtinsNs mb) (J:∀x:c5,x≠"__name__"->mb x=f6 x) (t:s₁.heap.NoLimit) (hg:s₁.gens = #[])(E:s₁.heap.get? a=a9 { cls:=.type "list",data:=.seq vs.toArray }) (hi:IntsAre vs ns) (U:ns.length<=sizeLine) (hr:Room k callerA)(F:∀base:d5,K.In base->base.Ns d9 mg->FnOk P w K mg base CX k I R [x] sp) (j:∀(s:f8) (u:c3),BindsTo s R ⟨[u],[]⟩ [(x,u)])(M:∀H:Hp,Only H->K2 K H a (ns.map V.int)->sp [.ref a] H (λv _=>v=.bl b8) λ_ _ _=>False)(X:∀H e s',CX [] H s₁ (λ_ _ _=>False) e s'->False):k9 (i3 P w) callerA (.call (.ref I) ⟨[.ref a],[]⟩) (λr s'=>r=.ok (.ret<|.bool b8)/\OldK s₁.heap s'.heap/\s'.os=s₁.os/\ge s'.gens) s₁:=by
 have W:=sg hi;have C:=hi.length
 -- from an abstract heap in which nothing but the script may be tracked
 have i:∀H:Hp,Only H->K2 K H a (ns.map V.int)->E3 P w H s₁.heap->(∀b,H b≠b7->b=a)->(H a≠b7->K.lookup a=b7) -> k9 (i3 P w) callerA (.call (.ref I) ⟨[.ref a],[]⟩) (λr s'=>r=.ok (.ret<|.bool b8)/\OldK s₁.heap s'.heap/\s'.os=s₁.os/\ge s'.gens) s₁:=by
  intro H T hS A S hK;have f:∀{b:c8}{o:c9},s₁.heap.get? b=a9 o->H b=b7->(Ey s₁.heap H).get? b=a9 o:=λe n=>Ew e n;have N:∀{b:c8}{o:c9}{es:Array o6}{ep:Nat},s₁.heap.get? b=a9 o->o.data=.dict es ep->H b=b7:=λ{b o es ep} e d=>by
   cases q:H b with
   |none=>rfl
   |some u=>have G:b=a:=S b (by rw[q];simp);subst G;rw[E]at e;cases e;have Z:Data.seq vs.toArray _=Data.dict es ep:=d;cases Z
  have g:∀{b:c8}{m:c5->Option c3},s₁.heap.Ns b m->(Ey s₁.heap H).Ns b m:=λ{b m} ⟨o,es,ep,e,d,r⟩=>⟨o,es,ep,f e<|N e d,d,r⟩
  have p:K.In (Ey s₁.heap H):=λb o e=>f (O b o e) (by
   cases q:H b with
   |none=>rfl
   |some u=>have G:b=a:=S b (by rw[q];simp);subst G;rw[hK<|by rw[q];simp]at e;cases e)
  have hM:Mod K mg (Ey s₁.heap H):=⟨p,g y,⟨mb,g c,J⟩,let ⟨mc,h1,h2⟩:=t;⟨mc,g h1,h2⟩⟩
  have e0:Env0 P w K mg (Ey s₁.heap H) callerA [] s₁ H:=⟨rfl,hM,λb o e=>GM e,Nat.le_of_eq<|BE _ _,trivial,λb c=>t7 (show b∈([]:List c8)from c) (by simp),A,.of_eq hg⟩
  refine Oq ((F _ p<|g y).run callerA [] s₁ H ⟨[.ref a],[]⟩ [.ref a] [.ref a] _ _ hr e0 (j s₁<|.ref a) (.cons rfl .nil)<|M H T hS) λr s' h=>?_;cases r with
  |error e=>exact(X H e s' h).elim
  |ok fl =>
   cases fl with
   |next=>exact Nq h
   |brk=>exact Nq h
   |cont=>exact Nq h
   |ret u =>
    obtain⟨v,H',os,l,Y,B,r',q⟩:=h;have q':v=.bl b8:=q;subst q';obtain rfl:u=Nr b8:=r';refine⟨rfl,OldK.of_keep λb o e=>?_,os,l⟩;cases q:H b with
    |none=>exact Y.keep b o e q (by intro z;exact t7 (show b∈([]:List c8)from z)<|by simp)<|by simp
    |some u =>
     rcases T b with z|⟨ob,xs,z⟩
     rw[q]at z;cases z;have z2:=Y.frzs b ob _ z;obtain⟨Q,_⟩:=A b _ z;obtain⟨e2,_⟩:=B b _ z2;rw[e]at Q;cases Q;exact e2
 cases L:K.lookup a with
 |some o =>
  -- the script is one of the module's own objects
  have e:=O a o L;rw[E]at e;cases e;refine i (λ_=>b7) (λ_=>.inl rfl) (.inr ⟨_,vs.toArray,_,L,rfl,rfl,rfl,by rw[B5,C];exact U,by simpa using W⟩) (λb u z=>by have D:(b7:Option HO)=a9 u:=z;cases D) (λb z=>t7 rfl z) λz=>t7 rfl z
 |none=>refine i (λb=>if b=a then a9 (.frz { cls:=.type "list",data:=.seq vs.toArray }<|.lst<|ns.map V.int)else b7) (λb=>?_) (.inl<|.inr ⟨{ cls:=.type "list",data:=.seq vs.toArray },t5 rfl⟩) (λb u z=>?_) (λb z=>?_) λ_=>L;by_cases c:b=a;exact .inr ⟨_,_,t5 c⟩;exact .inl<|t6 c;by_cases c:b=a;have D:=(t5 c).symm.trans z;cases D;subst c;exact⟨E,by rw[w4];exact U,vs,_,W,E⟩;have D:=(t6 c).symm.trans z;cases D;by_cases c:b=a;exact c;exact t7 (t6 c) z
noncomputable abbrev KOf{K:w9}{h:d5}(_:K.In h):w9:=K
theorem walk_of{l:PySem.W.OpenLaw}{n k:Nat}{q:c7}{j:List c5}{P:(c5->Option c3)->d5->Prop}{YP:c6->d5->Prop}{d:DefRec}{K:Params->w9}{CX:c6->Nn}{sp:c6->Sp}{x:c5}(J:l.most=a9 n) (t:n<=sizeLine) (p:d.params.defaults=[]) (L:Room k callerA)(D:∀(w:c6) (h:d5),YP w h->(K w.params).In h)(F:∀(w:c6) (mg:c5->Option c3) (fa:c8) (h:d5),(K w.params).In h->h.Ns d9 mg->mg d.name=a9 (.ref fa) -> ∃fd:k5,(∀(s:f8) (u:c3),BindsTo s fd ⟨[u],[]⟩ [(x,u)]) /\∀base:d5,(K w.params).In base->base.Ns d9 mg->FnOk l.prog w (K w.params) mg base (CX w) k fa fd [x] (sp w))(z:∀(w:c6) (H:Hp) (a:c8) (ns:List Int),ns.length<=n->Only H->K2 (K w.params) H a (ns.map V.int)->sp w [.ref a] H (λv _=>v=.bl b8) λ_ _ _=>False)(X:∀(w:c6) (H:Hp) (s:f8) (e:c3) (s':f8),CX w [] H s (λ_ _ _=>False) e s'->False):PySem.W.WalkO q j P YP l.row.toRowW d [] (λf vs=>PySem.call f vs):=by refine Att.attach_call J p λw A s₁ mg mb fa o U M B a vs ns G Y Q N I r m i c R=>?_;have y:=D w _ Y;obtain⟨fd,E,C⟩:=F w mg fa _ y G.T.g r;exact DZ y G.T.g G.T.b G.T.builtins G.T.nolimit R m i (J7 c t) L C E (λH O S=>z w H a ns c O S) λH e s'=>X w H s₁ e s'
noncomputable def jh(s:i6):Arguments:=match s with
 |.FunctionDef _ a _ _ _ _ _ _ _ _=>a
 |_=>{ posonlyargs:=[],args:=[],vararg:=b7,kwonlyargs:=[],kw_defaults:=[],kwarg:=b7,defaults:=[] }
noncomputable def cr(s:i6):List i6:=match s with
 |.FunctionDef _ _ b _ _ _ _ _ _ _=>b
 |_=>[]
noncomputable def aB(s:i6):f9:=match s with
 |.FunctionDef _ _ _ _ _ _ sc _ _ _=>sc
 |_=>{ kind:=.function,names:=[],isGenerator:=b9,isCoroutine:=b9 }
abbrev LV:Nn:=λ_ _ _ _ _ _=>False
abbrev E0:XK:=λ_ _ _=>False
theorem pass0:Cq LV X E0:=λ_ _ _ _ _ _ _ h=>h.elim
structure MQ(K:w9)(x qual:c5)(st:i6)(f:c8)(fd:k5):Prop where
 ex:∃(oc:c3) (od:Option c8) (kV doc pm:c3) (an:Option c8) (cdv ct:c3) (osl:Array (Option c3)),fd=NE x qual (jh st) (cr st) (aB st) .none kV doc pm an cdv ct/\K.lookup f=a9 ⟨oc,od,.func fd,osl⟩/\Qp K cdv qual=b8
 kp:N4 K (.ref f)=b8
theorem MQ.ok{P:c7}{w:c6}{K:w9}{mg:c5->Option c3}{base:d5}{x l:c5}{st:i6}{f:c8}{a:k5}{N ps:List c5}{k:Nat}{sp:Sp}(F:MQ K x l st f a)(S:FnScope N ps (aB st))(B:∀vs H Q E,sp vs H Q E->vs.length=ps.length)(y:∀(cdv:c3) (A:f7) (outer:List Env) (s:f8) (H:Hp) (vs:List V) (Q:VK) (E:XK),Room k (A.deeper<|m5 l (aB st) s.heap.objs.size f cdv)->sp vs H Q E -> ∃t,LU (zi LV P w K mg base N l (aB st) f cdv A outer s H E).nox (cr st) t/\t { nx:=λ_ H'=>Q .non H',rt:=Q } (start N vs) H):FnOk P w K mg base LV (k+1) f a ps sp:=by obtain⟨c,j,kV,i,U,M,cdv,R,G,rfl,b,d⟩:=F.ex;refine fn_of b d S B λA outer s H vs Q E r z=>?_;obtain⟨t,h,q⟩:=y cdv A outer s H vs Q E r z;exact⟨t,h.nox,q⟩
theorem MQ.binds{K:w9}{x l:c5}{st:i6}{f:c8}{d:k5}{ps:List c5}(F:MQ K x l st f d)(h:∀(kV doc pm:c3) (an:Option c8) (cdv ct:c3) (us:List c3),us.length=ps.length->bindArgs (NE x l (jh st) (cr st) (aB st) .none kV doc pm an cdv ct) ⟨us,[]⟩=pure (ps.zip us)):uV K d ps []:=by obtain⟨c,j,kV,doc,pm,an,cdv,ct,G,rfl,b,a⟩:=F.ex;exact .all<|h kV doc pm an cdv ct
theorem KY{K:w9}{x q:c5}{st:i6}{f:c8}{o:c3}{j M:Option c8}{G:Array (Option c3)}{kV i U v R:c3}(l:K.lookup f=a9 ⟨o,j,.func<|NE x q (jh st) (cr st) (aB st) .none kV i U M v R,G⟩)(c:Qp K v q=b8) (k:N4 K (.ref f)=b8):MQ K x q st f (NE x q (jh st) (cr st) (aB st) .none kV i U M v R):=⟨⟨o,j,kV,i,U,M,v,R,G,rfl,l,c⟩,k⟩
theorem av(h:n<=1000):n<sizeLine:=Nat.lt_of_le_of_lt h<|by decide
theorem pv(i:Nat)(h:X.N[i]?=a9 x:=by rfl)(c:Oj X.env.scope x:=by first|exact Or.inl rfl|exact Or.inr (Or.inl rfl)|exact Or.inr<|Or.inr rfl)(a:(x==("__debug__":c5))=b9:=by decide)(d:(x==("__classdict__":c5))=b9:=by decide):PE X (.Name x pos) (tVar i):=Fw h c a d
theorem dg{A B:Prop}(h:B):if b9=b8 then A else B:=by rw[t6 MK];exact h
theorem dN{A B:Prop}(h:A):if b8=b8 then A else B:=by rw[t5 rfl];exact h
section
variable{κ:Type}[DecidableEq κ]
noncomputable def wA(kvs:List (κ×V))(k:κ):Option V:=(kvs.find? λv=>decide<|v.1=k).map (·.2)
noncomputable def putK(kvs:List (κ×V))(k:κ)(v:V):List (κ×V):=if (kvs.any λa=>decide<|a.1=k)=b8 then kvs.map (λa=>if a.1=k then(a.1,v)else a)else kvs++[(k,v)]
theorem wz{p:κ×V}{r:List (κ×V)}{k:κ}(e:p.1=k):wA (p::r) k=a9 p.2:=by simp[wA,L9,e]
theorem qy{p:κ×V}{r:List (κ×V)}{k:κ}(e:¬p.1=k):wA (p::r) k=wA r k:=by simp[wA,L9,e]
theorem Ct.getD(r:Ct o u)(a:aN d d'):aN (o.getD d) (u.getD d'):=by
 cases o with
 |none=>cases u with
  |none=>exact a
  |some _=>exact(show False from r).elim
 |some _=>cases u with
  |none=>exact(show False from r).elim
  |some _=>exact r
theorem KV.val{kvs:List (κ×V)}{vs:List (κ×c3)}(r:KV kvs vs)(k:κ):Ct (wA kvs k) (valueAt vs k):=by
 unfold KV at r;induction r with
 |nil=>exact True.intro
 |@cons p q ps qs h t i =>
  obtain⟨h1,h2⟩:=h;by_cases e:p.1=k;have a:q.1=k:=h1.symm.trans e;have b:valueAt (q::qs) k=a9 q.2:=by simp[valueAt,L9,a]
  rw[wz e,b];exact h2;have a:¬q.1=k:=λz=>e<|h1.trans z;have b:valueAt (q::qs) k=valueAt qs k:=by simp[valueAt,L9,a]
  rw[qy e,b];exact i
theorem KV.any(r:KV kvs vs)(k:κ):(kvs.any λkv=>decide<|kv.1=k)=vs.any λkv=>decide (kv.1=k):=by
 unfold KV at r;induction r with
 |nil=>rfl
 |cons h t i=>rw[PK,PK,i,h.1]
theorem KV.repl(r:KV kvs vs)(k:κ)(a:aN y u):KV (kvs.map λkv=>if kv.1=k then(kv.1,y)else kv) (vs.map λkv=>if kv.1=k then(kv.1,u)else kv):=by
 unfold KV at r ⊢;induction r with
 |nil=>exact .nil
 |@cons p q ps qs h t i=>rw[D5,D5];refine .cons ?_ i;obtain⟨h1,h2⟩:=h;by_cases e:p.1=k;rw[t5 e,t5<|h1.symm.trans e];exact⟨h1,a⟩;rw[t6 e,t6<|λz=>e<|h1.trans z];exact⟨h1,h2⟩
theorem KV.put(r:KV kvs vs)(k:κ)(i:aN y u):KV (putK kvs k y) (stored vs k u):=by unfold putK stored;rw[r.any k];by_cases e:(vs.any λv=>decide<|v.1=k)=b8;rw[t5 e,t5 e];exact r.repl k i;rw[t6 e,t6 e];exact Paired.snoc r ⟨rfl,i⟩
theorem KV.length(r:KV kvs vs):kvs.length=vs.length:=Paired.length r
end
theorem Bu(r:aN (kV k) u):(bR P w).is k u=b8:=by
 cases k with
 |inl i=>obtain⟨t,e⟩:=(show ∃t,u=Value.int i t from r);subst e;exact vN P w i t
 |inr x=>obtain⟨t,e⟩:=(show ∃t,u=Value.str x t from r);subst e;exact vM P w x t
theorem uv:∀{ks:List F7}{us:List c3},az (ks.map kV) us->ItemsAre (bR P w) ks us
 | [],_,r=>by rw[PF]at r;cases r;exact .nil
 |k::ks,_,r=>by
  rw[D5]at r;cases r with
  |cons h t=>exact .cons (Bu h)<|uv t
abbrev KT(H:Hp):List (List F7×V)->List (List F7×c8×c3)->Prop:=Paired λp q=>p.1=q.1/\H q.2.1=a9 (.tup<|p.1.map kV)/\aN p.2 q.2.2
theorem KT.val{H:Hp}{kvs:List (List F7×V)}{xs:List (List F7×c8×c3)}(r:KT H kvs xs)(k:List F7):Ct (wA kvs k) ((atKey xs k).map (·.2)):=by
 induction r with
 |nil=>exact True.intro
 |@cons p q ps qs h t i =>
  obtain⟨h1,_,h2⟩:=h;by_cases e:p.1=k;have a:q.1=k:=h1.symm.trans e;have b:atKey (q::qs) k=a9 q.2:=by simp[atKey,L9,a]
  rw[wz e,b];exact h2;have a:¬q.1=k:=λz=>e<|h1.trans z;have b:atKey (q::qs) k=atKey qs k:=by simp[atKey,L9,a]
  rw[qy e,b];exact i
theorem Jl(ok:E3 P w H h)(e:Rd H a u):cA P w H h a u:=e.ok ok
theorem Ip(ok:E3 P w H h)(e:Rd H a (.dK kvs)):kvs.length<=sizeLine/\(a==d6)=b9/\∃vs,KV kvs vs/\h.DictOf (bR P w) a vs:=show cA P w H h a (.dK kvs)from Jl ok e
theorem Iq(ok:E3 P w H h)(e:H a=a9 (.dK kvs)):kvs.length<=sizeLine/\(a==d6)=b9/\∃vs,KV kvs vs/\h.DictOf (bR P w) a vs:=Ip ok<|.inl e
theorem FK(ok:E3 P w H h)(e:H a=a9 (.tup<|ks.map kV)):(tupleKind<|bR P w).is h ks a:=by
 obtain⟨_,its,r,o,h1,h2,⟨n,b⟩,_⟩:=(show cA P w H h a (.tup<|ks.map kV)from ok a _ e)
 exact⟨o,its.toArray,n,h1,h2,b,by simpa using uv r⟩
theorem Lf(ok:E3 P w H h)(e:Rd H a (.dT kvs)):kvs.length<=sizeLine/\(a==d6)=b9 /\∃xs,KT H kvs xs/\h.DictOfH (tupleKind<|bR P w) a xs:=by
 obtain⟨z,y,xs,r,o,es,i,h1,h2,f,g,k⟩:=(show cA P w H h a (.dT kvs)from Jl ok e)
 refine⟨z,y,xs,r,o,es,i,h1,h2,f,g,λx b=>?_,k⟩;have c:∀{l:List (List F7×V)}{m:List (List F7×c8×c3)},KT H l m->∀x∈m,(tupleKind<|bR P w).is h x.1 x.2.1:=by
  intro l m q;induction q with
  |nil=>intro x b;exact nomatch b
  |@cons p q ps qs d t j=>intro x b;rcases C3.mp b with e|b;subst e;exact FK ok (by rw[<-d.1];exact d.2.1);exact j x b
 exact c r x b
def DGet(H:Hp)(a:c8)(y:V)(r:Option V):Prop:=(∃kvs k,Rd H a (.dK kvs)/\y=kV k/\r=wA kvs k)\/∃kvs k b,Rd H a (.dT kvs)/\y=.ref b/\H b=a9 (.tup<|k.map kV)/\r=wA kvs k
theorem v4.big(I:v4 X pins σ H s):d6<s.heap.objs.size:=by have h:d9<s.heap.objs.size:=(I.mod.glob.keeps I.bk).lt;exact ND (by decide) h
theorem BY(q:A.units+1<j9)(I:v4 X pins σ H s)(g:DGet H a y (a9 v))(m:aN y u)(h:∀w' s',v4 X pins σ H s'->aN v w'->Q w' s'):g9 (i3 X.prog X.w) A (m7 (.ref a) u) Q E s:=by
 rcases g with⟨kvs,k,e,f,l⟩|⟨kvs,k,b,e,f,L,l⟩
 subst f;obtain⟨z,n,vs,r,d⟩:=Ip I.hok e;obtain⟨w',j,c⟩:=Ct.some_of (v:=v) (o:=valueAt vs k) (by rw[l];exact r.val k);exact wpAny_getItem_of (Bu m) d.mapOf j<|h w' _ (I.tok _) c;subst f;cases (show u=AAu b from m);obtain⟨z,n,xs,r,d⟩:=Lf I.hok e;obtain⟨w',j,c⟩:=Ct.some_of (v:=v) (o:=(atKey xs k).map (·.2)) (by rw[l];exact r.val k);obtain⟨p,hp,i⟩:=MZ.mp j;refine wpAny_getItem_heap (tupleKind_room_in1 q) (FK I.hok L) d hp ?_;rw[i];exact h w' _ (I.tok _) c
theorem wk(I:v4 X pins σ H s)(m:Pw (H a))(hs:K5 a s.heap h')(i:∃q,h'.get? a=a9 q)(n:cA X.prog X.w (A6 H a ob) h' a ob):v4 X pins σ (A6 H a ob) { s with heap:=h',toks:=t' }:=I.write (x:=a) (e:=a) m (.inl rfl) (λb q d z=>(hs.2 b d).trans z) i n
theorem FN(z:kvs.length<=sizeLine)(d:(a==d6)=b9)(r:KV kvs vs)(k:h'.DictOf (bR P w) a vs):cA P w H' h' a (.dK kvs):=⟨z,d,vs,r,k⟩
def IN(i:h7):Prop:=∀b a,subscripted i b9 b a=operate [b,a] (m7 b a)
theorem Ad{prog:c7}{w:c6}{A:f7}{E:c3->f8->Prop}{s:f8}{env:Env}{a e:h7}{p:Pos}{T id:String}{Q:c3->f8->Prop}(l:typeLookup (.type T) "__getitem__" = pure (a9<|.builtin id)) (hs:IN e)(h:g9 (i3 prog w) A (eval a env) (λo s₁=>g9 (i3 prog w) A (eval e env) (λi s₂=>s₂.TypeIs o T/\g9 (i3 prog w) A (m7 o i) Q E s₂) E s₁) E s):g9 (i3 prog w) A (eval (.Subscript a e p) env) Q E s:=by
 refine Subscript_<|J2 h (λo s₁ d=>J2 d (λi s₂ b=>?_) λ_ _ x=>x) λ_ _ x=>x;obtain⟨g,b⟩:=b;unfold subscriptTail;refine u7 ?_;rw[getitemInPython_of_ne g.not_modules];refine u7<|NG g l ?_;have n:g9 (i3 prog w) A (subscripted e b9 o i) (λr c=>g9 (i3 prog w) A (letTemporaryGo a o r >>= λ_=>pure r) Q E c) E s₂:=by rw[hs o i];exact wpAny_operating<|J2 b (λr c f=>u7<|wpAny_letTemporaryGo<|u9 f) λ_ _ x=>x
 first
  |exact u9 (u7 n)
  |exact u7 (u9 (u7 n))
  |exact u7 n
theorem wg(I:v4 X pins σ H s)(g:DGet H a y o):s.TypeIs (.ref a) "dict":=by
 rcases g with⟨kvs,k,e,_,_⟩|⟨kvs,k,b,e,_,_,_⟩
 obtain⟨_,_,vs,_,d⟩:=Ip I.hok e;exact d.typeIs;obtain⟨_,_,xs,_,d⟩:=Lf I.hok e;exact d.typeIs
def tDGet(d t:TE):TE:=λσ H Q=>d σ H λx c=>t σ c λy b=>∃a v,x=.ref a/\DGet b a y (a9 v)/\Q v b
theorem GA(l:X.A.units+1<j9)(m:PE X o td)(hi:PE X i ty)(hs:IN i):PE X (.Subscript o i pos) (tDGet td ty):=by intro p s σ H Q I h;refine Ad PySem.F.slot_dict_getitem.lookup hs<|A2 (m p s σ H _ I h) ?_;rintro u w ⟨x,c,f,r,q⟩;refine A2 (hi p w σ c _ f q) ?_;rintro z B ⟨y,d,e,t,a,v,k,g,n⟩;subst k;obtain rfl:u=AAu a:=r;exact⟨wg e g,BY l e g t λY C j b=>⟨v,d,j,b,n⟩⟩
theorem EM(h:d5)(d:d6<h.objs.size):cA P w H (h.push { cls:=.type "dict",data:=.dict #[] }) h.objs.size (.dK []):=⟨A8 _,beq_eq_false_iff_ne.mpr<|D4<|A9 d,[],.nil,Heap.DictOf.new h⟩
def Jc:TE:=λ_ H Q=>∀p,H p=b7->Q (.ref p) (A6 H p<|.dK [])
theorem Dh:PE X (.Dict [] [] pos) Jc:=λp s σ H Q I h =>
 wpAny_Dict_empty ⟨.ref s.heap.objs.size,_,I.laid (a:=s.heap.objs.size) (o:=.dK []) (t':=s.toks) (λ_ _ q=>A1 _ q) (x5 _)<|EM s.heap I.big,rfl,h _<|I.hok.fresh<|x5 _⟩
end L2
namespace DL
open PySem
theorem jk(env:Env):∀(names:List (c5×m3)) (acc:List (c5×c8)),(∀p∈names,p.2=Me->∃c,env.cells.lookup p.1=a9 c) ->∃cl,(forIn (m:=Sem) names acc λ(p:c5×m3) (r:List (c5×c8)) =>
    if (p.2==Me)=b8 then(do let a <-cellOf env p.1;pure (Qt<|(p.1,a)::r))else pure (Qt r))=pure cl /\
   (∀z c,cl.lookup z=a9 c->acc.lookup z=a9 c\/env.cells.lookup z=a9 c) /\
   (∀z c,acc.lookup z=a9 c->∃c',cl.lookup z=a9 c') /\
   (∀p∈names,p.2=Me->∃c,cl.lookup p.1=a9 c)
 | [],acc,_=>⟨acc,rfl,λ_ _ h=>.inl h,λz c h=>⟨c,h⟩,λ_ h=>nomatch h⟩
 |(n,k)::aH,acc,hyp=>by
  by_cases hk:k=Me;subst hk;obtain⟨c0,hc0⟩:=hyp (n,.free) F4 rfl;obtain⟨cl,e,h1,h2,h3⟩:=jk env aH ((n,c0)::acc) λp hp=>hyp p<|C6 _ hp;have ce:cellOf env n=pure c0:=by unfold cellOf;rw[hc0]
  have own:∃c',cl.lookup n=a9 c':=h2 n c0 (by simp[Ni]);refine⟨cl,?_,λz c hz=>?_,λz c hz=>?_,λp hp hf=>?_⟩;rw[List.forIn_cons];simp only[u6,u4,ce,pure_bind];exact e;rcases h1 z c hz with q|q;rw[Ni]at q;by_cases hz':(z==n)=b8;rw[hz']at q;have:z=n:=by simpa using hz'
  subst this;cases q;exact .inr hc0;have hz'':(z==n)=b9:=by simpa using hz'
  rw[hz'']at q;exact .inl q;exact .inr q;by_cases hz':z=n;subst hz';exact own;refine h2 z c ?_;rw[Ni];have hz'':(z==n)=b9:=by simpa using hz'
  rw[hz''];exact hz;rcases C3.mp hp with rfl|hp;exact own;exact h3 p hp hf;have hb:(k==Me)=b9:=by simpa using hk
  obtain⟨cl,e,h1,h2,h3⟩:=jk env aH acc λp hp=>hyp p<|C6 _ hp;refine⟨cl,?_,h1,h2,λp hp hf=>?_⟩;rw[List.forIn_cons];simp only[hb,C5,u3,pure_bind];exact e;rcases C3.mp hp with rfl|hp;exact t7 hf hk;exact h3 p hp hf
theorem lg(h:∀p∈scope.names,p.2=Me->∃c,env.cells.lookup p.1=a9 c):∃cl,closureFor scope env=pure cl/\(∀z c,cl.lookup z=a9 c->env.cells.lookup z=a9 c)/\(∀p∈scope.names,p.2=Me->∃c,cl.lookup p.1=a9 c):=by obtain⟨cl,e,h1,h2,a⟩:=jk env scope.names [] h;refine⟨cl,?_,λz c b=>?_,a⟩;unfold closureFor;simp only[bind_pure];exact e;rcases h1 z c b with q|q;simp at q;exact q
theorem gv{env:Env}:∀{names:List (c5×m3)}{x:c5}{k:m3},(names.map λ(p:c5×m3)=>if (p.2==Me&&env.scope.kind==.function&&env.kindOf p.1==a9 .cell)=b8 then(p.1,NZ)else(p.1,p.2)).lookup x=a9 k ->(names.lookup x=a9 k\/(k=NZ/\names.lookup x=a9 .free))
 | [],_,_,h=>by simp at h
 |(n,j)::aH,x,k,h=>by
  have ih:=@gv env aH x k;rw[D5,Ni]at h;by_cases hx:(x==n)=b8;have hl:List.lookup x ((n,j)::aH)=a9 j:=by rw[Ni,hx]
  rw[hl];by_cases hc:(j==Me&&env.scope.kind==.function&&env.kindOf n==a9 .cell)=b8;simp only[hc,u4,hx]at h;cases h;have:j=Me:=by simp only[G0]at hc;simpa using hc.1.1
  exact .inr ⟨rfl,by rw[this]⟩;simp only[hc,C5,u3,hx]at h;exact .inl h;have hx':(x==n)=b9:=by simpa using hx
  have hl:List.lookup x ((n,j)::aH)=List.lookup x aH:=by rw[Ni,hx']
  rw[hl];refine ih ?_;by_cases hc:(j==Me&&env.scope.kind==.function&&env.kindOf n==a9 .cell)=b8;simp only[hc,u4,hx']at h;exact h;simp only[hc,C5,u3,hx']at h;exact h
theorem qC(s:List h7)(env:Env):compTests s env =
  (forIn s b8 λc r=>if r=b8 then do let ok <-isTrue c env (eval c env);pure (Qt ok)else pure (Qt r)):=by unfold compTests;simp only[bind_pure]
theorem yX(J:Nat->f8->Prop)(E:c3->f8->Prop)(b:∀e s',E e s'->notedBy (i3 prog w) A env (λe s'=>R (.error e) s') e s')(t:∀n s,J n s->g9 (i3 prog w) A (j1 it) (λr s1=>match r with
   |none=>R (.ok .next) s1
   |some v=>g9 (i3 prog w) A (j2 target it v) (λ_ s2=>g9 (i3 prog w) A (i9 target env v) (λ_ s3 =>
     g9 (i3 prog w) A (compTests ifs env) (λok s4 =>
      if ok=b8 then g9 (i3 prog w) A (eval elt env) (λy s5=>g9 (i3 prog w) A (call (.builtin "list.append") [acc,y]) (λ_ s6=>∃m,m<n/\J m s6) E s5) E s4
      else ∃m,m<n/\J m s4) E s3) E s2) E s1) E s)
  (n:Nat) (h:J n s):k9 (i3 prog w) A (.compLoop (.ListComp elt [⟨target,iter,ifs,0⟩] scope pos) 0 it acc env) R s:=by
 refine codeAny_loop rfl J (λn s f=>?_) n h;show g9 _ A ((compTurn (.ListComp elt [⟨target,iter,ifs,0⟩] scope pos) 0 it acc env).onRaise<|λx=>do noteFrame x env;theTreesLotGoes x) _ _ s;refine wpAny_noted ?_;rw[compTurn_list];refine u7<|wpAny_standAt<|u7<|J2 (t n s f) (λr s1 h1=>?_) b;cases r with
 |none=>exact u9 h1
 |some v =>
  refine u7<|J2 h1 (λ_ s2 h2=>?_) b;refine u7<|J2 h2 (λ_ s3 a=>?_) b;rw[qC]at a;refine u7<|J2 a (λok s4 d=>?_) b;cases ok with
  |false=>exact u9 ⟨rfl,d⟩
  |true=>exact u7<|u7<|J2 d (λy s5 k=>u7<|J2 k (λ_ s6 c=>u9<|u9 ⟨rfl,c⟩) b) b
end DL
namespace L2
open PySem PySem.Spec PyProof.Rows DL
theorem kU{env:Env}:∀{names:List (c5×m3)}{x:c5},names.lookup x=a9 .free ->((names.map λ(p:c5×m3)=>if (p.2==Me&&env.scope.kind==.function&&env.kindOf p.1==a9 .cell)=b8 then(p.1,NZ)else(p.1,p.2)).lookup x=a9 .cell \/ (names.map λ(p:c5×m3)=>if (p.2==Me&&env.scope.kind==.function&&env.kindOf p.1==a9 .cell)=b8 then(p.1,NZ)else(p.1,p.2)).lookup x=a9 .free)
 | [],_,h=>by simp at h
 |(n,j)::aH,x,h=>by
  have ih:=@kU env aH x;rw[D5,Ni];rw[Ni]at h;by_cases hc:(j==Me&&env.scope.kind==.function&&env.kindOf n==a9 .cell)=b8;by_cases hx:(x==n)=b8;simp[hc,hx];have hx':(x==n)=b9:=by simpa using hx
  rw[hx']at h;simp only[hc,u4,hx'];exact ih h;by_cases hx:(x==n)=b8;rw[hx]at h;cases h;right;simp only[hc,C5,u3,hx];have hx':(x==n)=b9:=by simpa using hx
  rw[hx']at h;simp only[hc,C5,u3,hx'];exact ih h
noncomputable def C8(X:Cx)(N':List c5)(scope:f9)(l:List (c5×c8))(s₀:f8)(H₀:Hp)(ex:List c8):Cx:={ X with N:=N',s₀:=s₀,H₀:=H₀,env:=compEnvC scope l s₀.heap.objs.size X.env,outer:=X.stack,ex:=ex,fn:=λx=>scope.names.lookup x==a9 .cell,pn:=[],xe:=λ_ _=>False }
structure BlkSc(X:Cx)(N':List c5)(nt:Nat)(js:List Nat)(scope:f9):Prop where
 kind:scope.kind=.function
 nocell:∀y∈scope.names,y.2≠.cell
 loc:∀y∈scope.names,y.2=.local->scope.names.lookup y.1=a9 .local
 free:∀y∈scope.names,y.2=.free->(X.env.kindOf y.1=a9 .cell\/X.env.kindOf y.1=a9 .free)
 len:N'.length=nt+js.length
 fr:∀(k j:Nat),js[k]?=a9 j->∃x,N'[nt+k]?=a9 x/\X.N[j]?=a9 x/\scope.names.lookup x=a9 .free/\(X.env.kindOf x=a9 .cell\/X.env.kindOf x=a9 .free)
noncomputable def bst(t:Nat)(s:List Nat)(σ:St):St:=PN t b7++s.map λj=>(σ[j]?).join
theorem Ch(t:Nat)(s:List Nat)(σ:St):(bst t s σ).length=t+s.length:=by simp[bst]
theorem IF(h:(bst nt js σ)[i]?=a9 (a9 v)):∃k j,i=nt+k/\js[k]?=a9 j/\σ[j]?=a9 (a9 v):=by
 unfold bst at h;by_cases hi:i<nt;rw[LR (by simpa using hi),QQ]at h;simp[hi]at h;rw[Mr (by simpa using Np.mp hi),QM,D8]at h;cases e:js[i-nt]? with
 |none=>rw[e]at h;cases h
 |some j =>
  rw[e]at h;refine⟨i-nt,j,by lia,e,?_⟩;have h':(σ[j]?).join=a9 v:=by simpa using h
  cases q:σ[j]? with
  |none=>rw[q]at h';cases h'
  |some o=>rw[q]at h';exact u5 a9 h'
def Nm(X:Cx)(i:List h7)(t:TT):Prop:=∀(p:List (c8×c9)) (s:f8) (σ:St) (H:Hp) (Q:Bool->Hp->Prop),v4 X p σ H s->t σ H Q->g9 (i3 X.prog X.w) X.A (compTests i X.env) (TP X p σ Q) X.xe s
def ttNil:TT:=λ_ H Q=>Q b8 H
theorem Gp:Nm X [] ttNil:=λp s σ H Q I h=>by rw[qC];exact wpAny_tests_nil ⟨H,I,h⟩
theorem Go(h:PT X c t):Nm X [c] t:=λp s σ H Q I q=>by rw[qC];exact wpAny_tests_one<|h p s σ H Q I q
def Q6(t:Nat)(s:List Nat)(wi:TI)(g:TG)(tt:TT)(te:TE):TE:=λσ H Q=>wi σ H λJ d=>∃W:Nat->Nat->List V->St->Hp->Prop,(∃m,W 0 m [] (bst t s σ) d) /\∀i m vs τ H,W i m vs τ H->(J.stop i H/\∀p,H p=b7->Q (.ref p) (A6 H p<|.lst vs)) \/(J.go i H/\∀x H',J.yld i H x H'->g x τ H' λa e=>tt a e λb c=>if b=b8 then te a c λy f=>vs.length<sizeLine/\∃j,j < m/\W (i+1) j (vs++[y]) a f else ∃j,j < m/\W (i+1) j vs a c)
noncomputable abbrev dc(its:List c3)(k:Nat):c9:={ cls:=.type "list",data:=.seq its.toArray k }
theorem v4.blkOk(B:BlkSc X N' nt js scope)(I:v4 X pins σ H s)(a:∀z c,cl.lookup z=a9 c->X.env.cells.lookup z=a9 c) (f:∀p∈scope.names,p.2=Me->∃c,cl.lookup p.1=a9 c) (i:∀b∈fp,zg X pins H b) (j:∀b∈fp,b<s.heap.objs.size):(C8 X N' scope cl { s with heap:=s.heap.push ob } H<|s.heap.objs.size::fp).Ok:=by
 have J:v4 X pins σ H { s with heap:=s.heap.push ob }:=I.kept (t':=s.toks) λb o e=>A1 _ e;have ltc:∀z c,cl.lookup z=a9 c->c<s.heap.objs.size:=λz c e=>by obtain⟨v,q⟩:=I.cell z c<|a z c e;exact q.lt
 have C:(s.heap.push ob).objs.size=s.heap.objs.size+1:=Mo ..;refine⟨I.ok.mod,B.kind,I.ok.glob,I.ok.blt,x5 _,λy z c h1 h2=>I.ok.inj y z c (a y c h1)<|a z c h2,λy O=>?_,λy c h=>?_,I.ok.hd,I.ok.frames,.inl rfl,λb d=>?_,λb o e=>?_,?_,λb o e d=>?_,λb d=>?_,J.stack,I.stkFree⟩;have l:scope.names.lookup y=a9 .free:=by
  rcases O with O|O;rcases gv (env:=X.env) (names:=scope.names) (x:=y) (k:=.cell) O with q|⟨_,q⟩
  exact t7 rfl<|B.nocell _<|NJ q;exact q;rcases gv (env:=X.env) (names:=scope.names) (x:=y) (k:=.free) O with q|⟨q,_⟩
  exact q;cases q
 exact f (y,.free) (NJ l) rfl;exact t7 rfl<|B.nocell _<|NJ<|beq_iff_eq.mp<|show (scope.names.lookup y==a9 NZ)=b8 from h;show b≠(s.heap.push ob).objs.size/\∀x c,cl.lookup x=a9 c->c≠b;rw[C];rcases C3.mp d with rfl|d;exact⟨A9<|L4 _,λx c e=>A9<|ltc x c e⟩;exact⟨A9<|OB<|j b d,λx c e=>(i b d).2.2.2.2.1 x c<|a x c e⟩;exact⟨A1 _ (I.bs b o e).1,(I.bs b o e).2⟩;show X.base.objs.size<=(s.heap.push ob).objs.size;rw[C];exact Nat.le_succ_of_le<|J7 I.ok.bsz I.sz;rcases C3.mp d with rfl|d;exact t7 (A4 (I.bs _ o e).1)<|G3 _;rcases(i b d).2.2.2.1 with z|z;exact I.ok.noex b o e z;exact t7 (L0 (A4 (I.ok.bs b o e).1) z)<|G3 _;intro m;have g:=I.stkSub b m;rcases C3.mp d with rfl|d;rcases C3.mp g with q|q;exact t7 I.lt (by rw[<-q];exact G3 _);exact I.nofs (x5 _) q;rcases C3.mp g with q|q;exact(i b d).2.1 q;exact(i b d).2.2.1 q
theorem v4.blkStart(B:BlkSc X N' nt js scope)(I:v4 X pins σ H s)(a:∀z c,cl.lookup z=a9 c->X.env.cells.lookup z=a9 c) (f:∀p∈scope.names,p.2=Me->∃c,cl.lookup p.1=a9 c) (J:∀b∈fp,zg X pins H b) (m:∀b∈fp,b<s.heap.objs.size)(g:∀b o,(s.heap.push<|dc [] 0).get? b=a9 o->h1.get? b=a9 o) (K:h1.Ns (s.heap.push<|dc [] 0).objs.size mm):v4 (C8 X N' scope cl { s with heap:=s.heap.push (dc [] 0) } H<|s.heap.objs.size::fp) [(s.heap.objs.size,dc [] 0)] (bst nt js σ) H { s with heap:=h1,toks:=tk }:=by
 have d:∀b o,s.heap.get? b=a9 o->h1.get? b=a9 o:=λb o e=>g b o<|A1 _ e;have C:(s.heap.push<|dc [] 0).objs.size=s.heap.objs.size+1:=Mo ..;refine⟨I.blkOk B a f J m,rfl,I.bare,Un.kept g,⟨mm,K,λi x v D E S=>?_⟩,λx c e=>?_,?_,λx c e=>I.freeC x c<|a x c e,λp hp=>?_,I.hok.kept d,?_⟩;obtain⟨k,j,rfl,L,t⟩:=IF E;obtain⟨R,P,Q,A,y⟩:=B.fr k j L;have F:x=R:=D2<|D.symm.trans P;subst F;obtain⟨V,M,n⟩:=I.loc;have w:Oj X.env.scope x:=y.elim (λz=>.inr<|.inl z) λz=>.inr<|.inr z;obtain⟨u,r,h⟩:=n j x v Q t w;refine⟨u,r,?_⟩;rcases h with⟨q,_⟩|⟨q,c,G,l⟩
 rcases y with z|z<;>(rw[q]at z;cases z)
 obtain⟨U,O⟩:=f (x,.free) (NJ A) rfl;have:U=c:=D2<|(a x U O).symm.trans G;subst this;exact .inr ⟨kU (env:=X.env) A,U,O,l.keeps d⟩;obtain⟨v,q⟩:=I.cell x c<|a x c e;exact⟨v,q.keeps d⟩;exact I.hok.fresh (by show s.heap.objs.size<=(s.heap.push<|dc [] 0).objs.size;rw[C];exact Oo _);have e:p=(s.heap.objs.size,dc [] 0):=by simpa [C8]using hp
 subst e;refine⟨g _ _<|C0 _ rfl,I.hok.fresh<|x5 _,?_,?_,λv z=>by cases z⟩;show s.heap.objs.size≠(s.heap.push<|dc [] 0).objs.size;rw[C];exact A9<|L4 _;intro N;rcases C3.mp (I.stkSub _ N)with q|q;exact t7 I.lt (by rw[<-q];exact G3 _);exact I.nofs (x5 _) q;rw[Ch];exact B.len.symm
theorem v4.blkEnd(I:v4 X pins σ H s)(B:∀b∈fp,zg X pins H b)(a:v4 (C8 X N' scope cl { s with heap:=s.heap.push (dc [] 0) } H<|s.heap.objs.size::fp) [(s.heap.objs.size,dc its k)] τ H' s')(K:az vs its) (F:vs.length<=sizeLine) (T:K5 (s.heap.push<|dc [] 0).objs.size s'.heap h'):v4 X pins σ (A6 H' s.heap.objs.size<|.lst vs) { s' with heap:=h' }:=by
 have l:(s.heap.push<|dc [] 0).objs.size=s.heap.objs.size+1:=Mo ..;have C:s.heap.objs.size≠(s.heap.push<|dc [] 0).objs.size:=by rw[l];exact A9<|L4 _
 obtain⟨J,D,_⟩:=a.pin (s.heap.objs.size,dc its k) (by simp[C8]);have i:s'.heap.get? s.heap.objs.size=a9 (dc its k):=J;have f:H' s.heap.objs.size=b7:=D;have j:H' (s.heap.push<|dc [] 0).objs.size=b7:=a.free;have u:Un (K7 X.stack) (s.heap.objs.size::fp) H H' (s.heap.push<|dc [] 0) s'.heap:=a.base;have E:∀b o,s.heap.get? b=a9 o->b≠s.heap.objs.size/\b≠(s.heap.push<|dc [] 0).objs.size:=λb o e=>by have:=A4 e;exact⟨A9 this,by rw[l];exact A9<|OB this⟩
 have p:∀b o,s.heap.get? b=a9 o->(s.heap.push<|dc [] 0).get? b=a9 o:=λb o e=>A1 _ e;have g:∀b o,s.heap.get? b=a9 o->b∉fp->b∉s.heap.objs.size::fp:=λb o e x G=>by rcases C3.mp G with q|q;exact(E b o e).1 q;exact x q
 refine I.call' (s':={ s' with heap:=h' }) (ch:=fp) a.os ⟨λb o e n d x=>?_,λb o e n d x=>?_,λb o e n x=>?_,λb o e x=>?_,λb xs e=>?_,λb o w e=>?_,λb ps e=>?_⟩ (λb w q=>?_) a.bare λb d=>?_;exact(T.2 b (E b o e).2).trans<|u.keep b o (p b o e) n d<|g b o e x;obtain⟨L,z⟩:=u.slot b o (p b o e) n d<|g b o e x;exact⟨L,(T.2 b (E b o e).2).trans z⟩;rw[ax (E b o e).1];exact u.free b o (p b o e) n<|g b o e x;obtain⟨o',z⟩:=u.there b o (p b o e)<|g b o e x;exact⟨o',(T.2 b (E b o e).2).trans z⟩;have z:=u.tups b xs e;rw[ax<|ah z f];exact z;have z:=u.frzs b o w e;rw[ax<|ah z f];exact z;obtain⟨more,z⟩:=u.tbls b ps e;exact⟨more,by rw[ax<|ah z f];exact z⟩;by_cases d:b=s.heap.objs.size;subst d;rw[aW]at q;cases q;exact⟨F,its,k,K,(T.2 _ C).trans i⟩;rw[ax d]at q;refine(a.hok b w q).stay (λc v h r=>(T.2 c ?_).trans r) (λc z=>by rw[ax<|ah z f];exact z) λc xs z=>by rw[ax<|ah z f];exact z
 rcases h with rfl|h;exact ah q j;exact ah h j;obtain⟨_,m,_,t,y,A⟩:=B b d;exact⟨t,m,y,A⟩
theorem Bh{s tg N:h7}{M:List h7}{scope:f9}{aS:Pos}{N':List c5}{l:List (c5×c8)}{J:It}{fp:List c8}{it:c8}{tn:Nat->d5->Prop}{g:TG}{tt:TT}{te:TE}{Q:VK}{W:Nat->Nat->List V->St->Hp->Prop}{R:Result->f8->Prop}{s0:f8}{H0:Hp}{D:c8} (hc:X.calm=b8)(hg:PG (C8 X N' scope l s0 H0<|D::fp) tg g) (ht:Nm (C8 X N' scope l s0 H0<|D::fp) M tt) (he:PE (C8 X N' scope l s0 H0<|D::fp) s te)(T:Turn X.prog X.w X.K tg J fp it tn) (L:D∉fp)(S:∀i m vs τ H,W i m vs τ H->(J.stop i H/\∀p,H p=b7->Q (.ref p) (A6 H p<|.lst vs)) \/ (J.go i H/\∀x H',J.yld i H x H'->g x τ H' λτ2 H2=>tt τ2 H2 λb f=>if b=b8 then te τ2 f λy H4=>vs.length<sizeLine/\∃m',m' < m/\W (i+1) m' (vs++[y]) τ2 H4 else ∃m',m' < m/\W (i+1) m' vs τ2 f))(t:∀b∈fp,b≠s0.heap.objs.size/\b∉K7 X.stack/\∀x c,l.lookup x=a9 c->c≠b) (I:D≠s0.heap.objs.size) (am:D∉K7 X.stack) (al:∀x c,l.lookup x=a9 c->c≠D)(ai:∀τ H' s' vs its k,v4 (C8 X N' scope l s0 H0<|D::fp) [(D,dc its k)] τ H' s'->az vs its->vs.length<=sizeLine->Q (.ref D) (A6 H' D<|.lst vs)->R (.ok .next) s')
  (m0:Nat) {j:St}{s3:f8}{f:Hp} (I3:v4 (C8 X N' scope l s0 H0<|D::fp) [(D,dc [] 0)] j f s3) (bk:tn 0 s3.heap) (aj:∀b∈fp,f b=b7) (w0:W 0 m0 [] j f) :
  k9 (i3 X.prog X.w) X.A (.compLoop (.ListComp s [⟨tg,N,M,0⟩] scope aS) 0 (.ref it) (.ref D)<|compEnvC scope l s0.heap.objs.size X.env) R s3:=by
 have h:∀{ob:c9}{H':Hp},(∀b∈fp,H' b=b7)->∀b∈fp,zg (C8 X N' scope l s0 H0<|D::fp) [(D,ob)] H' b:=λ{ob H'} hn b d=>by
  obtain⟨a1,a2,a3⟩:=t b d;refine⟨hn b d,a1,a2,.inl<|C6 _ d,a3,λp hp z=>?_⟩;have e:p=(D,ob):=by simpa [C8]using hp
  subst e;exact L<|by rw[show D=b from z];exact d
 refine yX (λn s'=>∃i τ H' vs its k,v4 (C8 X N' scope l s0 H0<|D::fp) [(D,dc its k)] τ H' s'/\tn i s'.heap/\(∀b∈fp,H' b=b7)/\az vs its/\vs.length<=sizeLine/\W i n vs τ H') (λ_ _=>False) (λ_ _ z=>z.elim) ?_ m0 ⟨0,j,f,[],[],0,I3,bk,aj,.nil,A8 _,w0⟩;rintro n s' ⟨i,τ,H',vs,its,k,I',O,E,Z,hl,w'⟩;rcases S i n vs τ H' w' with⟨stop,q⟩|⟨go,P⟩
 refine A2 (T.done (C8 X N' scope l s0 H0<|D::fp) rfl rfl rfl hc i _ s' τ H' (λ_ _=>False) I' (h E) O stop) ?_;rintro r s4 ⟨hr,I4⟩;subst hr;exact ai τ H' s4 vs its k I4 Z hl<|q D (I'.pin (D,dc its k)<|by simp[C8]).2.1;refine A2 (T.item (C8 X N' scope l s0 H0<|D::fp) rfl rfl rfl hc i _ s' τ H' (λ_ _=>False) I' (h E) O go) ?_;rintro r s4 ⟨u,hr,h4⟩;subst hr;refine A2 h4 ?_;rintro _ s5 ⟨x,H5,I5,r5,y5,B,ak⟩;have ag:=I5.pinned (h ak)<|T.obj _ _ B;refine A2 (hg _ s5 τ H5 x u _ ag r5<|P x H5 y5) ?_;rintro _ s6 ⟨a,H6,I6,q6⟩;refine A2 (ht _ s6 a H6 _ I6 q6) ?_;rintro ok s7 ⟨H7,Y,q7⟩;have F:∀{b:c8}{o:c9},b∈fp->s5.heap.get? b=a9 o->(b,o)∈(C8 X N' scope l s0 H0<|D::fp).pn++([(D,dc its k)]++jI fp s5.heap):=λd e=>J6 _<|J6 _<|hW d e;cases ok with
 |false =>
  obtain⟨m',hm,w7⟩:=(show ∃m',m' < n/\W (i+1) m' vs a H7 from q7)
  refine⟨m',hm,i+1,a,H7,vs,its,k,Y.unpinned,T.keep _ _ _ B λb d o e=>(Y.pin (b,o)<|F d e).1,λb d=>?_,Z,hl,w7⟩;obtain⟨o,e,_⟩:=T.obj _ _ B b d;exact(Y.pin (b,o)<|F d e).2.1
 |true =>
  refine A2 (he _ s7 a H7 _ Y q7) ?_;rintro yv s8 ⟨y,U,I8,r8,q8⟩;obtain⟨aD,m',hm,w8⟩:=q8;obtain⟨oD,fD,_⟩:=I8.pin (D,dc its k) (J6 _<|MC _<|by simp);have C:U D=b7:=fD;refine append_at (its:=its.toArray) (n:=k) oD (λh9 be o9=>?_) (by rw[B5,<-Z.length];exact hl);have J8:v4 (C8 X N' scope l s0 H0<|D::fp) (jI fp s5.heap) a U s8:=I8.pins_of λp hp=>I8.pin p<|J6 _<|J6 _ hp;have J9:v4 (C8 X N' scope l s0 H0<|D::fp) (jI fp s5.heap) a U { s8 with heap:=h9 }:=J8.turned (t':=s8.toks) (it:=D) (λb o d e=>(be.2 b d).trans e) C I (.inl F4) al λp hp z=>by
   have an:p∈jI fp s5.heap:=by simpa [C8]using hp
   exact L<|by rw[<-z];exact(tW an).1
  have G:∀{b:c8}{o:c9},b∈fp->s5.heap.get? b=a9 o->(b,o)∈(C8 X N' scope l s0 H0<|D::fp).pn++jI fp s5.heap:=λd e=>J6 _<|hW d e;refine⟨m',hm,i+1,a,U,vs++[y],its++[yv],k+1,J9.pins_of λp hp=>?_,T.keep _ _ _ B λb d o e=>(J9.pin (b,o)<|G d e).1,λb d=>?_,Z.append<|.cons r8 .nil,?_,w8⟩;have e:p=(D,dc (its++[yv])<|k+1):=by simpa using hp
  subst e;refine⟨?_,C,I,am,λv z=>by cases z⟩;rw[show dc (its++[yv]) (k+1)=({ cls:=.type "list",data:=.seq (its.toArray.push yv) (k+1) }:c9) by rw[List.push_toArray]];exact o9;obtain⟨o,e,_⟩:=T.obj _ _ B b d;exact(J9.pin (b,o)<|G d e).2.1;rw[B6];exact aD
theorem pe_lc{t N r:h7}{u:List h7}{scope:f9}{G:Pos}{N':List c5}{nt:Nat}{js:List Nat}{wi:TI}{g:TG}{tt:TT}{te:TE}(B:BlkSc X N' nt js scope)(hc:X.calm=b8)(hi:PI X N r wi)(hg:∀cl s0 H0 ex,PG (C8 X N' scope cl s0 H0 ex) N g) (ht:∀cl s0 H0 ex,Nm (C8 X N' scope cl s0 H0 ex) u tt) (he:∀cl s0 H0 ex,PE (C8 X N' scope cl s0 H0 ex) t te)(hs:∀x,j5 r X.env x=pure x:=by intro _;rfl):PE X (.ListComp t [⟨N,r,u,0⟩] scope G) (Q6 nt js wi g tt te):=by
 intro i s σ H Q I h;rw[eval_ListComp];obtain⟨cl,O,d,C⟩:=lg (scope:=scope) (env:=X.env) λp hp hf=>I.ok.has p.1<|B.free p hp hf;refine wpAny_comprehension_free (use:=b7) rfl hs O B.kind B.loc ?_;refine A2 (hi i s σ H _ I h) λv s1 h1=>A2 h1 λag a h2=>?_;obtain⟨it,P,tn,J,H2,e,j,T,S,M,W,⟨m0,w0⟩,L⟩:=h2;subst e;refine J0<|wpAny_newFunctionEnv B.nocell (by intro y hy;simp at hy) (λh1 D E=>?_) B.kind;have m:∀b∈P,b<a.heap.objs.size:=λb f=>by obtain⟨o,e,_⟩:=T.obj _ _ S b f;exact A4 e
 have Z:(a.heap.push<|dc [] 0).objs.size=a.heap.objs.size+1:=Mo ..;have F:∀b o,(a.heap.push<|dc [] 0).get? b=a9 o->h1.get? b=a9 o:=λb o e=>(E.2 b<|A9<|A4 e).trans<|A1 _ e;have I3:=j.blkStart (tk:=a.toks+([]:List (c5×c3)).length) B d C M m F D;have K:tn 0 h1:=T.keep _ _ _ S λb _ o e=>F b o<|A1 _ e;have U:a.heap.objs.size∉P:=λz=>G3 _<|m _ z;have V:a.heap.objs.size∉K7 X.stack:=λz=>by rcases C3.mp (j.stkSub _ z)with q|q;exact t7 j.lt (by rw[<-q];exact G3 _);exact j.nofs (x5 _) q
 have R:a.heap.objs.size≠(a.heap.push<|dc [] 0).objs.size:=by rw[Z];exact A9<|L4 _
 have ltc:∀z c,cl.lookup z=a9 c->c<a.heap.objs.size:=λz c e=>by obtain⟨v,q⟩:=j.cell z c<|d z c e;exact q.lt
 have n:∀b∈P,b≠(a.heap.push<|dc [] 0).objs.size/\b∉K7 X.stack/\∀x c,cl.lookup x=a9 c->c≠b:=λb f=>by refine⟨by rw[Z];exact A9<|OB<|m b f,λz=>?_,λx c e=>(M b f).2.2.2.2.1 x c<|d x c e⟩;rcases C3.mp (j.stkSub b z)with q|q;exact(M b f).2.1 q;exact(M b f).2.2.1 q
 have l:k9 (i3 X.prog X.w) X.A (.compLoop (.ListComp t [⟨N,r,u,0⟩] scope G) 0 (.ref it) (.ref a.heap.objs.size)<|compEnvC scope cl (a.heap.push<|dc [] 0).objs.size X.env) (compPost (i3 X.prog X.w) X.A X.xe b7 (EP X i σ Q) (.ref a.heap.objs.size) (a.heap.push<|dc [] 0).objs.size) { a with heap:=h1,toks:=a.toks+([]:List (c5×c3)).length }:=by refine Bh (s0:={ a with heap:=a.heap.push (dc [] 0) }) (H0:=H2) (N':=N') (Q:=Q) hc (hg _ _ _ _) (ht _ _ _ _) (he _ _ _ _) T U L n R V (λx c e=>A9<|ltc x c e) ?_ m0 I3 K (λb f=>(M b f).1) w0;intro τ H' s' vs its k Y rv hl q;obtain⟨mm,hn,_⟩:=id Y.loc;exact⟨mm,hn,λh' sb=>⟨.ref a.heap.objs.size,_,j.blkEnd M Y rv hl sb,rfl,q⟩⟩
 exact codeAny_compStart_list l<|T.self _ 0 _ _ _ K l
section
inductive D where
 |non|bl (b:Bool)|int (i:Int)|str (x:c5)|ty (n:String)|tup (ds:List D)|ref (n:Nat)
inductive MO where
 |lst (xs:List D)
 |fz (xs:List D)
 |kl (xs:List D)
 |dct (kvs:List (c5×D))
 |dkt (kvs:List (D×D))
 |dkq (e:Nat) (kvs:List (D×D))
 |dkm (kvs:List (D×D))
 |fdc (o:c9) (kvs:List (c5×D))
 |tb (x:c5) (b:Bool)
 |exc (x:c5)
noncomputable abbrev w6:=List MO
noncomputable def MO.isL:MO->Bool
 |.dct _=>b9
 |.dkt _=>b9
 |.dkq _ _=>b9
 |.fdc _ _=>b9
 |.dkm _=>b9
 |.tb _ _=>b9
 |.exc _=>b9
 |_=>b8
noncomputable def jo(s:List c5)(vs:List V):List (F7×V):=(s.zip vs).map λp=>(ABo p.1,p.2)
mutual
inductive v9(K:w9)(ρ:List c8)(H:Hp):D->V->Prop
 |non:v9 K ρ H .non .non
 |bl (b:Bool):v9 K ρ H (.bl b) (.bl b)
 |int (i:Int):v9 K ρ H (.int i) (.int i)
 |str (x:c5):v9 K ρ H (.str x) (.str x)
 |ty (n:String):v9 K ρ H (.ty n) (.ty n)
 |tup {a:c8}{vs:List V}{ds:List D} (h:C7 K H a vs) (r:Reps K ρ H ds vs):v9 K ρ H (.tup ds) (.ref a)
 |ref {n:Nat}{a:c8} (h:ρ[n]?=a9 a):v9 K ρ H (.ref n) (.ref a)
inductive Reps(K:w9)(ρ:List c8)(H:Hp):List D->List V->Prop
 |nil:Reps K ρ H [] []
 |cons {d:D}{v:V}{ds:List D}{vs:List V} (h:v9 K ρ H d v) (t:Reps K ρ H ds vs):Reps K ρ H (d::ds) (v::vs)
end
def KList(K:w9)(a:c8)(xs:List V):Prop:=∃(o:c9) (its:Array c3) (n:Nat),K.lookup a=a9 o/\o.cls=.type "list"/\o.dict=b7/\o.data=.seq its n/\its.size<=sizeLine/\az xs its.toList
noncomputable def dm:Nat->D->Bool
 |_,.str _=>b8
 |_,.int _=>b8
 |n+1,.tup ds=>ds.all<|dm n
 |_,_=>b9
noncomputable def C4(w:c6):Nat->D->Int
 |_,.str x=>hashStr w x
 |_,.int i=>hashInt i
 |n+1,.tup ds=>o7<|OG<|ds.map<|C4 w n
 |_,_=>0
def dX(a:c8)(xs:List (D×c8×c3)):c7->c6->d5->Prop:=λ_ w h =>
 ∃(o:c9) (es:Array o6),h.get? a=a9 o/\o.ExactDict/\o.data=.dict es xs.length/\es.toList=xs.map λx=>⟨C4 w 8 x.1,.ref x.2.1,x.2.2⟩
def dQ(a:c8)(e:Nat)(xs:List (D×c8×c3)):c7->c6->d5->Prop:=λ_ w h =>
 ∃(o:c9) (es:Array o6),h.get? a=a9 o/\o.ExactDict/\o.data=.dict es e/\es.toList=xs.map λx=>⟨C4 w 8 x.1,.ref x.2.1,x.2.2⟩
noncomputable def yJ:D->Bool
 |.non=>b8
 |.tup ks=>dm 8<|.tup ks
 |_=>b9
noncomputable def NO(w:c6):D->Int
 |.non=>o7 0xFCA86420
 |d=>C4 w 8 d
noncomputable def BS(hs:D->Int)(x:D×c3×c3):o6:=⟨hs x.1,x.2.1,x.2.2⟩
def dM(a:c8)(xs:List (D×c3×c3)):c7->c6->d5->Prop:=λ_ w h =>
 ∃(o:c9) (es:Array o6),h.get? a=a9 o/\o.ExactDict/\o.data=.dict es xs.length/\es.toList=xs.map (BS<|NO w)
def Ms(K:w9)(ρ:List c8)(H:Hp)(p:D×D)(q:D×c3×c3):Prop:=p.1=q.1/\yJ p.1=b8/\(∃u,v9 K ρ H p.1 u/\aN u q.2.1)/\∃v,v9 K ρ H p.2 v/\aN v q.2.2
def zf(K:w9)(ρ:List c8)(H:Hp)(p:D×D)(q:D×c8×c3):Prop:=p.1=q.1/\dm 8 p.1=b8/\v9 K ρ H p.1 (.ref q.2.1)/\∃v,v9 K ρ H p.2 v/\aN v q.2.2
def excO(a:c8)(C:c3):c7->c6->d5->Prop:=λ_ _ h=>∃o vs,h.get? a=a9 o/\o.cls=C/\o.data=.fields vs
def zj(K:w9)(ρ:List c8)(H:Hp)(a:c8):MO->Prop
 |.lst ds=>∃vs,H a=a9 (.lst vs)/\Reps K ρ H ds vs
 |.fz ds=>∃o vs,H a=a9 (.frz o<|.lst vs)/\Reps K ρ H ds vs
 |.kl ds=>∃vs,KList K a vs/\Reps K ρ H ds vs
 |.dct kvs=>∃vs,H a=a9 (.dK (jo (kvs.map (·.1)) vs))/\Reps K ρ H (kvs.map (·.2)) vs
 |.dkt kvs=>kvs.length<=sizeLine/\(a==d6)=b9/\(kvs.map (·.1)).Nodup/\∃xs,H a=a9 (.ext<|dX a xs)/\Paired (zf K ρ H) kvs xs
 |.dkq e kvs=>kvs.length<=sizeLine/\(a==d6)=b9/\(kvs.map (·.1)).Nodup/\∃xs,H a=a9 (.ext<|dQ a e xs)/\Paired (zf K ρ H) kvs xs
 |.dkm kvs=>kvs.length<=sizeLine/\(a==d6)=b9/\(kvs.map (·.1)).Nodup/\∃xs,H a=a9 (.ext<|dM a xs)/\Paired (Ms K ρ H) kvs xs
 |.fdc o kvs=>∃vs,H a=a9 (.frz o (.dK (jo (kvs.map (·.1)) vs)))/\Reps K ρ H (kvs.map (·.2)) vs
 |.tb x b=>(∃c,PySem.W.tabIn K x=a9 (c,a)/\∀h:d5,K.In h->PySem.W.CodeHd h c a)/\∃ps,H a=a9 (.tbl ps)/\(b=b9->ps = #[])
 |.exc x=>∃C,PySem.W.nsIn K d9 x=a9 (a9<|.ref C)/\H a=a9 (.ext<|excO a<|.ref C)
def Mj(mo:Option MO):Prop:=∃ds,mo=a9 (.kl ds)
def aq(M:w6)(n:Nat)(xs:List D):Prop:=M[n]?=a9 (.lst xs)\/M[n]?=a9 (.fz xs)\/M[n]?=a9 (.kl xs)
structure z6(K:w9)(ρ:List c8)(M:w6)(H:Hp):Prop where
 nd:∀(n m:Nat) (a:c8),n≠m->ρ[n]?=a9 a->ρ[m]?=a9 a->Mj M[n]?\/Mj M[m]?
 len:ρ.length=M.length
 obj:∀(n:Nat) (a:c8) (mo:MO),ρ[n]?=a9 a->M[n]?=a9 mo->zj K ρ H a mo
structure Grow(K:w9)(ρ:List c8)(H:Hp)(ρ':List c8)(H':Hp):Prop where
 pre:ρ <+: ρ'
 tup:∀a xs,C7 K H a xs->C7 K H' a xs
theorem Grow.refl{K:w9}{ρ:List c8}{H:Hp}:Grow K ρ H ρ H:=⟨Mz,λ_ _ h=>h⟩
theorem Grow.trans{K:w9}{ρ c d:List c8}{H e f:Hp}(a:Grow K ρ H c e)(b:Grow K c e d f):Grow K ρ H d f:=⟨a.pre.trans b.pre,λx xs h=>b.tup x xs<|a.tup x xs h⟩
theorem ar{α:Type}{l l':List α}(h:l <+: l'){n:Nat}{a:α}(e:l[n]?=a9 a):l'[n]?=a9 a:=by obtain⟨t,rfl⟩:=h;rw[LR (C2.mp e).1];exact e
theorem v9.grow{K:w9}{ρ a:List c8}{H H':Hp}(g:Grow K ρ H a H'){d:D}{v:V}(h:v9 K ρ H d v):v9 K a H' d v:=v9.rec (motive_1:=λd v _=>v9 K a H' d v) (motive_2:=λds vs _=>Reps K a H' ds vs) .non .bl .int .str .ty (λh _ r=>.tup (g.tup _ _ h) r) (λh=>.ref<|ar g.pre h) .nil (λ_ _ h t=>.cons h t) h
theorem Reps.grow{K:w9}{ρ a:List c8}{H H':Hp}(g:Grow K ρ H a H'){ds:List D}{vs:List V}(h:Reps K ρ H ds vs):Reps K a H' ds vs:=Reps.rec (motive_1:=λd v _=>v9 K a H' d v) (motive_2:=λds vs _=>Reps K a H' ds vs) .non .bl .int .str .ty (λh _ r=>.tup (g.tup _ _ h) r) (λh=>.ref<|ar g.pre h) .nil (λ_ _ h t=>.cons h t) h
section
variable{K:w9}{ρ ρ':List c8}{H H':Hp}{M:w6}
theorem Reps.length(h:Reps K ρ H ds vs):ds.length=vs.length:=Reps.rec (motive_1:=λ_ _ _=>True) (motive_2:=λds vs _=>ds.length=vs.length) trivial (λ_=>trivial) (λ_=>trivial) (λ_=>trivial) (λ_=>trivial) (λ_ _ _=>trivial) (λ_=>trivial) rfl (λ_ _ _ t=>u5 Nat.succ t) h
theorem Reps.append(h:Reps K ρ H ds vs)(s:Reps K ρ H es ws):Reps K ρ H (ds++es) (vs++ws):=Reps.rec (motive_1:=λ_ _ _=>True) (motive_2:=λds vs _=>Reps K ρ H (ds++es)<|vs++ws) trivial (λ_=>trivial) (λ_=>trivial) (λ_=>trivial) (λ_=>trivial) (λ_ _ _=>trivial) (λ_=>trivial) s (λh _ _ t=>.cons h t) h
theorem Reps.get:∀{ds:List D}{vs:List V}{i:Nat}{d:D},Reps K ρ H ds vs->ds[i]?=a9 d->∃v,vs[i]?=a9 v/\v9 K ρ H d v
 |_,_,_,_,.nil,e=>by simp at e
 |_,_,0,_,.cons r _,e=>by simp at e;subst e;exact⟨_,rfl,r⟩
 |_,_,i+1,d,.cons _ t,e=>by obtain⟨v,h1,h2⟩:=Reps.get (i:=i) (d:=d) t (by simpa using e);exact⟨v,by simpa using h1,h2⟩
theorem Reps.getV:∀{ds:List D}{vs:List V}{i:Nat}{v:V},Reps K ρ H ds vs->vs[i]?=a9 v->∃d,ds[i]?=a9 d/\v9 K ρ H d v
 |_,_,_,_,.nil,e=>by simp at e
 |_,_,0,_,.cons r _,e=>by simp at e;subst e;exact⟨_,rfl,r⟩
 |_,_,i+1,d,.cons _ t,e=>by obtain⟨v,h1,h2⟩:=Reps.getV (i:=i) (v:=d) t (by simpa using e);exact⟨v,by simpa using h1,h2⟩
theorem Reps.take:∀{ds:List D}{vs:List V} (n:Nat),Reps K ρ H ds vs->Reps K ρ H (ds.take n) (vs.take n)
 |_,_,0,_=>by simpa using .nil
 |_,_,_+1,.nil=>.nil
 |_,_,n+1,.cons r t=>.cons r<|Reps.take n t
theorem Reps.drop:∀{ds:List D}{vs:List V} (n:Nat),Reps K ρ H ds vs->Reps K ρ H (ds.drop n) (vs.drop n)
 |_,_,0,r=>r
 |_,_,_+1,.nil=>.nil
 |_,_,n+1,.cons _ t=>Reps.drop n t
theorem C7.laid(hp:H p=b7)(h:C7 K H a xs):C7 K (A6 H p o) a xs:=by
 rcases h with h|h;rcases h with h|⟨b,h⟩
 exact .inl (.inl<|by rw[ax<|ah h hp];exact h);exact .inl<|.inr ⟨b,by rw[ax<|ah h hp];exact h⟩;exact .inr h
theorem C7.written(hp:H p=a9 (.lst vs))(h:C7 K H a xs):C7 K (A6 H p o) a xs:=by
 rcases h with h|h;rcases h with h|⟨b,h⟩
 exact .inl (.inl<|by rw[ax<|yz h hp<|by intro z;cases z];exact h);exact .inl<|.inr ⟨b,by rw[ax<|yz h hp<|by intro z;cases z];exact h⟩;exact .inr h
theorem Grow.laid(hp:H p=b7):Grow K ρ H ρ (A6 H p o):=⟨Mz,λ_ _ h=>C7.laid hp h⟩
theorem Grow.laidR(hp:H p=b7):Grow K ρ H (ρ++[p]) (A6 H p o):=⟨Mc _ _,λ_ _ h=>C7.laid hp h⟩
theorem z6.tracked(S:z6 K ρ M H){n:Nat}{a:c8}(e:ρ[n]?=a9 a):(∃o,H a=a9 o)\/Mj M[n]?:=by
 have f:n<M.length:=by rw[<-S.len];exact(C2.mp e).1
 have d:M[n]?=a9 M[n]:=A5 f;have h:=S.obj n a _ e d;rw[d];cases c:M[n] with
 |lst ds=>rw[c]at h;obtain⟨vs,h,_⟩:=h;exact .inl ⟨_,h⟩
 |fz ds=>rw[c]at h;obtain⟨o,vs,h,_⟩:=h;exact .inl ⟨_,h⟩
 |kl ds=>exact .inr ⟨ds,rfl⟩
 |dct kvs=>rw[c]at h;obtain⟨vs,h,_⟩:=h;exact .inl ⟨_,h⟩
 |dkt kvs=>rw[c]at h;obtain⟨_,_,_,xs,h,_⟩:=h;exact .inl ⟨_,h⟩
 |dkq _ kvs=>rw[c]at h;obtain⟨_,_,_,xs,h,_⟩:=h;exact .inl ⟨_,h⟩
 |fdc o kvs=>rw[c]at h;obtain⟨vs,h,_⟩:=h;exact .inl ⟨_,h⟩
 |dkm kvs=>rw[c]at h;obtain⟨_,_,_,xs,h,_⟩:=h;exact .inl ⟨_,h⟩
 |tb x b=>rw[c]at h;obtain⟨_,ps,h,_⟩:=h;exact .inl ⟨_,h⟩
 |exc x=>rw[c]at h;obtain⟨_,_,h⟩:=h;exact .inl ⟨_,h⟩
theorem zj.grow(g:Grow K ρ H ρ' H')(hs:H' a=H a\/Mj (a9 mo))(h:zj K ρ H a mo):zj K ρ' H' a mo:=by
 cases mo with
 |lst ds =>
  obtain⟨vs,e,r⟩:=h;rcases hs with hs|⟨_,z⟩
  exact⟨vs,by rw[hs];exact e,r.grow g⟩;cases z
 |fz ds =>
  obtain⟨o,vs,e,r⟩:=h;rcases hs with hs|⟨_,z⟩
  exact⟨o,vs,by rw[hs];exact e,r.grow g⟩;cases z
 |fdc o kvs =>
  obtain⟨vs,e,r⟩:=h;rcases hs with hs|⟨_,z⟩
  exact⟨vs,by rw[hs];exact e,r.grow g⟩;cases z
 |tb x b =>
  obtain⟨c,ps,e,q⟩:=h;rcases hs with hs|⟨_,z⟩
  exact⟨c,ps,by rw[hs];exact e,q⟩;cases z
 |exc x =>
  obtain⟨C,e,q⟩:=h;rcases hs with hs|⟨_,z⟩
  exact⟨C,e,by rw[hs];exact q⟩;cases z
 |kl ds=>obtain⟨vs,e,r⟩:=h;exact⟨vs,e,r.grow g⟩
 |dkm kvs =>
  obtain⟨h1,h2,d,xs,e,r⟩:=h;rcases hs with hs|⟨_,z⟩
  exact⟨h1,h2,d,xs,by rw[hs];exact e,Paired.mapP r λ_ _ ⟨f,j,⟨u,k,l⟩,v,J,i⟩=>⟨f,j,⟨u,k.grow g,l⟩,v,J.grow g,i⟩⟩;cases z
 |dct kvs =>
  obtain⟨vs,e,r⟩:=h;rcases hs with hs|⟨_,z⟩
  exact⟨vs,by rw[hs];exact e,r.grow g⟩;cases z
 |dkt kvs =>
  obtain⟨h1,h2,d,xs,e,r⟩:=h;rcases hs with hs|⟨_,z⟩
  exact⟨h1,h2,d,xs,by rw[hs];exact e,Paired.mapP r λ_ _ ⟨f,j,k,v,J,i⟩=>⟨f,j,k.grow g,v,J.grow g,i⟩⟩;cases z
 |dkq _ kvs =>
  obtain⟨h1,h2,d,xs,e,r⟩:=h;rcases hs with hs|⟨_,z⟩
  exact⟨h1,h2,d,xs,by rw[hs];exact e,Paired.mapP r λ_ _ ⟨f,j,k,v,J,i⟩=>⟨f,j,k.grow g,v,J.grow g,i⟩⟩;cases z
theorem z6.keeps{p:c8}{o:HO}(S:z6 K ρ M H)(hp:H p=b7){n:Nat}{a:c8}{mo:MO}(t:ρ[n]?=a9 a)(l:M[n]?=a9 mo):A6 H p o a=H a\/Mj (a9 mo):=by rcases S.tracked t with⟨c,b⟩|q;exact .inl<|ax<|ah b hp;rw[l]at q;exact .inr q
theorem z6.laid{p:c8}{o:HO}(S:z6 K ρ M H)(hp:H p=b7):z6 K ρ M (A6 H p o):=⟨S.nd,S.len,λn a m t l=>(S.obj n a m t l).grow (Grow.laid hp)<|S.keeps hp t l⟩
theorem bc{α:Type}{l:List α}{x y:α}{n:Nat}(h:(l++[x])[n]?=a9 y):l[n]?=a9 y\/(n=l.length/\y=x):=by
 by_cases f:n<l.length;rw[LR f]at h;exact .inl h;have a:n=l.length:=by have:=(C2.mp h).1;rw[B6,G5]at this;lia
 subst a;rw[Mr<|x5 _,NC]at h;simp at h;exact .inr ⟨rfl,h.symm⟩
theorem Mj.more{mo:MO}{n:Nat}(h:Mj M[n]?):Mj (M++[mo])[n]?:=by obtain⟨ds,e⟩:=h;exact⟨ds,by rw[LR (C2.mp e).1];exact e⟩
theorem z6.laidL{p:c8}{ds:List D}{vs:List V}(S:z6 K ρ M H)(hp:H p=b7)(r:Reps K ρ H ds vs):z6 K (ρ++[p]) (M++[.lst ds]) (A6 H p<|.lst vs):=by
 have g:Grow K ρ H (ρ++[p]) (A6 H p<|.lst vs):=Grow.laidR hp;have d:∀(n:Nat),ρ[n]?=a9 p->Mj M[n]?:=λn e=>by rcases S.tracked e with⟨o,q⟩|q;rw[hp]at q;cases q;exact q
 refine⟨λn m a h t l=>?_,by rw[B6,B6,S.len];rfl,λn a j t l=>?_⟩;rcases bc t with f|⟨f,g1⟩
 rcases bc l with b|⟨b,c⟩
 exact(S.nd n m a h f b).elim (λz=>.inl z.more) λz=>.inr z.more;subst c;exact .inl (d n f).more;rcases bc l with b|⟨b,c⟩
 subst g1;exact .inr (d m b).more;exact t7 (f.trans b.symm) h;rcases bc t with f|⟨f,g1⟩
 have i:n<M.length:=by rw[<-S.len];exact(C2.mp f).1
 rw[LR i]at l;exact(S.obj n a j f l).grow g<|S.keeps hp f l;subst g1 f;rw[S.len,Mr<|x5 _,NC]at l;simp at l;subst l;exact⟨vs,aW,r.grow g⟩
theorem z6.last(S:z6 K ρ M H):(ρ++[p])[M.length]?=a9 p:=by rw[<-S.len,Mr<|x5 _,NC];rfl
theorem z6.write(S:z6 K ρ M H)(t:ρ[n]?=a9 a)(u:M[n]?=a9 (.lst ds))(s:H a=a9 (.lst vs))(r:Reps K ρ H ds' vs'):z6 K ρ (M.set n<|.lst ds') (A6 H a<|.lst vs')/\Grow K ρ H ρ (A6 H a<|.lst vs'):=by
 have g:Grow K ρ H ρ (A6 H a<|.lst vs'):=⟨Mz,λ_ _ h=>C7.written s h⟩
 have k:∀m,m≠n->(M.set n<|.lst ds')[m]?=M[m]?:=λm e=>MY<|D4 e;have c:¬Mj M[n]?:=λ⟨_,z⟩=>by rw[u]at z;cases z
 refine⟨⟨λm l b i d f=>?_,by rw[N5];exact S.len,λm b o d f=>?_⟩,g⟩;have q:=S.nd m l b i d f;by_cases h1:m=n;subst h1;rw[k l<|D4 i];exact .inr<|q.resolve_left c;rw[k m h1];by_cases h2:l=n;subst h2;exact .inl<|q.resolve_right c;rw[k l h2];exact q;by_cases e:m=n;subst e;have j:b=a:=D2<|d.symm.trans t;subst j;rw[Nk<|by rw[<-S.len];exact(C2.mp t).1]at f;cases f;exact⟨vs',aW,r.grow g⟩;rw[k m e]at f;by_cases j:b=a;subst j;have q:=S.nd m n b e d t;have p:=q.resolve_right c;rw[f]at p;exact(S.obj m b o d f).grow g<|.inr p;exact(S.obj m b o d f).grow g<|.inl<|ax j
theorem aq.seq(S:z6 K ρ M H)(h:aq M n xs)(e:ρ[n]?=a9 a):∃vs,K2 K H a vs/\Reps K ρ H xs vs:=by rcases h with h|h|h;obtain⟨vs,q,r⟩:=S.obj n a _ e h;exact⟨vs,.inl<|.inl q,r⟩;obtain⟨o,vs,q,r⟩:=S.obj n a _ e h;exact⟨vs,.inl<|.inr ⟨o,q⟩,r⟩;obtain⟨vs,q,r⟩:=S.obj n a _ e h;exact⟨vs,.inr q,r⟩
theorem z6.get(S:z6 K ρ M H){n:Nat}{mo:MO}(e:M[n]?=a9 mo):∃a,ρ[n]?=a9 a/\zj K ρ H a mo:=by
 have f:n<ρ.length:=by rw[S.len];exact(C2.mp e).1
 exact⟨ρ[n],A5 f,S.obj n _ mo (A5 f) e⟩
end
noncomputable abbrev SD:=List<|Option D
structure SRep(K:w9)(ρ:List c8)(H:Hp)(S:SD)(σ:St):Prop where
 len:S.length=σ.length
 get:∀(i:Nat) (d:D),S[i]?=a9 (a9 d)->∃v,σ[i]?=a9 (a9 v)/\v9 K ρ H d v
theorem SRep.grow{K:w9}{ρ a:List c8}{H H':Hp}{S:SD}{σ:St}(r:SRep K ρ H S σ)(g:Grow K ρ H a H'):SRep K a H' S σ:=⟨r.len,λi d e=>let ⟨v,h1,h2⟩:=r.get i d e;⟨v,h1,h2.grow g⟩⟩
theorem SRep.set{K:w9}{ρ:List c8}{H:Hp}{S:SD}{σ:St}(r:SRep K ρ H S σ)(i:Nat){d:D}{v:V}(h:v9 K ρ H d v):SRep K ρ H (S.set i<|a9 d) (σ.set i<|a9 v):=by refine⟨by rw[N5,N5];exact r.len,λj e L=>?_⟩;by_cases a:i=j;subst a;by_cases g:i<S.length;rw[Nk g]at L;cases L;exact⟨v,by rw[Nk<|by rw[<-r.len];exact g],h⟩;rw[NK<|by rw[N5];lia]at L;cases L;rw[MY a]at L;rw[MY a];exact r.get j e L
abbrev DK:=D->w6->Prop
abbrev A3:=SD->w6->DK->Prop
abbrev H9:=SD->w6->(Bool->w6->Prop)->Prop
abbrev I9:=SD->w6->(List D->w6->Prop)->Prop
structure DEnds where
 nx:SD->w6->Prop
 rt:DK
 bk:SD->w6->Prop:=λ_ _=>False
 ct:SD->w6->Prop:=λ_ _=>False
abbrev v5:=DEnds->SD->w6->Prop
abbrev L6:=D->SD->w6->(SD->w6->Prop)->Prop
abbrev FQ:=List D->SD->w6->(SD->w6->Prop)->Prop
abbrev G2:=D->D->w6->DK->Prop
abbrev Rh:=D->w6->DK->Prop
abbrev D6:=List D->w6->DK->Prop
section
variable(K:w9)
inductive VQ(ρ:List c8)(H:Hp)(Q:DK)(v:V)(H':Hp):Prop
 |mk (d:D) (M':w6) (ρ':List c8) (s:z6 K ρ' M' H') (g:Grow K ρ H ρ' H') (r:v9 K ρ' H' d v) (q:Q d M')
inductive BQ(ρ:List c8)(H:Hp)(Q:Bool->w6->Prop)(b:Bool)(H':Hp):Prop
 |mk (M':w6) (ρ':List c8) (s:z6 K ρ' M' H') (g:Grow K ρ H ρ' H') (q:Q b M')
inductive AQ(ρ:List c8)(H:Hp)(Q:List D->w6->Prop)(vs:List V)(H':Hp):Prop
 |mk (ds:List D) (M':w6) (ρ':List c8) (s:z6 K ρ' M' H') (g:Grow K ρ H ρ' H') (r:Reps K ρ' H' ds vs) (q:Q ds M')
inductive SQ(ρ:List c8)(H:Hp)(Q:SD->w6->Prop)(σ':St)(H':Hp):Prop
 |mk (S':SD) (M':w6) (ρ':List c8) (s:z6 K ρ' M' H') (g:Grow K ρ H ρ' H') (r:SRep K ρ' H' S' σ') (q:Q S' M')
structure Po(ρ:List c8)(H:Hp)(F:DEnds)(E:Ends):Prop where
 nx:∀σ' H',SQ K ρ H F.nx σ' H'->E.nx σ' H'
 rt:∀v H',VQ K ρ H F.rt v H'->E.rt v H'
 bk:∀σ' H',SQ K ρ H F.bk σ' H'->E.bk σ' H'
 ct:∀σ' H',SQ K ρ H F.ct σ' H'->E.ct σ' H'
inductive lowE(t:A3)(σ:St)(H:Hp)(R:VK):Prop
 |mk (S:SD) (M:w6) (ρ:List c8) (Q:DK) (s:z6 K ρ M H) (sr:SRep K ρ H S σ) (q:t S M Q) (k:∀v H',VQ K ρ H Q v H'->R v H')
inductive lowT(t:H9)(σ:St)(H:Hp)(R:Bool->Hp->Prop):Prop
 |mk (S:SD) (M:w6) (ρ:List c8) (Q:Bool->w6->Prop) (s:z6 K ρ M H) (sr:SRep K ρ H S σ) (q:t S M Q) (k:∀v H',BQ K ρ H Q v H'->R v H')
inductive lowA(t:I9)(σ:St)(H:Hp)(R:List V->Hp->Prop):Prop
 |mk (S:SD) (M:w6) (ρ:List c8) (Q:List D->w6->Prop) (s:z6 K ρ M H) (sr:SRep K ρ H S σ) (q:t S M Q) (k:∀v H',AQ K ρ H Q v H'->R v H')
inductive lowS(t:v5)(E:Ends)(σ:St)(H:Hp):Prop
 |mk (S:SD) (M:w6) (ρ:List c8) (F:DEnds) (s:z6 K ρ M H) (sr:SRep K ρ H S σ) (q:t F S M) (k:Po K ρ H F E)
inductive lowG(g:L6)(v:V)(σ:St)(H:Hp)(R:St->Hp->Prop):Prop
 |mk (d:D) (S:SD) (M:w6) (ρ:List c8) (Q:SD->w6->Prop) (s:z6 K ρ M H) (sr:SRep K ρ H S σ) (r:v9 K ρ H d v) (q:g d S M Q) (k:∀σ' H',SQ K ρ H Q σ' H'->R σ' H')
inductive lowGs(g:FQ)(vs:List V)(σ:St)(H:Hp)(R:St->Hp->Prop):Prop
 |mk (ds:List D) (S:SD) (M:w6) (ρ:List c8) (Q:SD->w6->Prop) (s:z6 K ρ M H) (sr:SRep K ρ H S σ) (r:Reps K ρ H ds vs) (q:g ds S M Q) (k:∀σ' H',SQ K ρ H Q σ' H'->R σ' H')
inductive lowR(r:G2)(vx vy:V)(H:Hp)(R:VK):Prop
 |mk (x y:D) (M:w6) (ρ:List c8) (Q:DK) (s:z6 K ρ M H) (r1:v9 K ρ H x vx) (r2:v9 K ρ H y vy) (q:r x y M Q) (k:∀v H',VQ K ρ H Q v H'->R v H')
inductive lowU(r:Rh)(vx:V)(H:Hp)(R:VK):Prop
 |mk (x:D) (M:w6) (ρ:List c8) (Q:DK) (s:z6 K ρ M H) (r1:v9 K ρ H x vx) (q:r x M Q) (k:∀v H',VQ K ρ H Q v H'->R v H')
inductive lowC(r:D6)(vs:List V)(H:Hp)(R:VK):Prop
 |mk (ds:List D) (M:w6) (ρ:List c8) (Q:DK) (s:z6 K ρ M H) (r1:Reps K ρ H ds vs) (q:r ds M Q) (k:∀v H',VQ K ρ H Q v H'->R v H')
end
def DE(X:Cx)(e:h7)(t:A3):Prop:=PE X e<|lowE X.K t
def DT(X:Cx)(e:h7)(t:H9):Prop:=PT X e<|lowT X.K t
def DW(X:Cx)(e:h7)(t:H9):Prop:=PW X e<|lowT X.K t
def DA(X:Cx)(es:List h7)(t:I9):Prop:=PA X es<|lowA X.K t
def DS(X:Cx)(st:i6)(t:v5):Prop:=PS X st<|lowS X.K t
def Nb(X:Cx)(st:List i6)(t:v5):Prop:=LU X st<|lowS X.K t
def DG(X:Cx)(t:h7)(g:L6):Prop:=PG X t<|lowG X.K g
def Py(X:Cx)(t:List h7)(g:FQ):Prop:=Pu X t<|lowGs X.K g
def G9(X:Cx)(f:c3->c3->Sem c3)(r:G2):Prop:=E5 X f<|lowR X.K r
def UnD(X:Cx)(f:c3->Sem c3)(r:Rh):Prop:=UnR X f<|lowU X.K r
def kI(X:Cx)(f:c3)(r:D6):Prop:=gP X f<|lowC X.K r
section
variable{K:w9}{ρ ρ1:List c8}{H H1:Hp}
theorem VQ.trans(g:Grow K ρ H ρ1 H1)(h:VQ K ρ1 H1 Q v H'):VQ K ρ H Q v H':=by obtain⟨d,M,a,s,b,r,q⟩:=h;exact⟨d,M,a,s,g.trans b,r,q⟩
theorem BQ.trans(g:Grow K ρ H ρ1 H1)(h:BQ K ρ1 H1 Q v H'):BQ K ρ H Q v H':=by obtain⟨M,a,s,b,q⟩:=h;exact⟨M,a,s,g.trans b,q⟩
theorem SQ.trans(g:Grow K ρ H ρ1 H1)(h:SQ K ρ1 H1 Q v H'):SQ K ρ H Q v H':=by obtain⟨d,M,a,s,b,r,q⟩:=h;exact⟨d,M,a,s,g.trans b,r,q⟩
theorem Po.trans(g:Grow K ρ H ρ1 H1)(h:Po K ρ H F E):Po K ρ1 H1 F E:=⟨λa H' q=>h.nx a H'<|SQ.trans g q,λv H' q=>h.rt v H'<|VQ.trans g q,λa H' q=>h.bk a H'<|SQ.trans g q,λa H' q=>h.ct a H'<|SQ.trans g q⟩
theorem VQ.now(s:z6 K ρ M H)(r:v9 K ρ H d v)(q:Q d M):VQ K ρ H Q v H:=⟨d,M,ρ,s,.refl,r,q⟩
end
section
variable{K:w9}{ρ:List c8}{H:Hp}{v:V}{vs:List V}
theorem v9.inv_non(h:v9 K ρ H .non v):v=.non:=by cases h;rfl
theorem v9.inv_bl(h:v9 K ρ H (.bl b) v):v=.bl b:=by cases h;rfl
theorem v9.inv_int(h:v9 K ρ H (.int i) v):v=.int i:=by cases h;rfl
theorem v9.inv_str(h:v9 K ρ H (.str x) v):v=.str x:=by cases h;rfl
theorem v9.inv_ty(h:v9 K ρ H (.ty n) v):v=.ty n:=by cases h;rfl
theorem v9.inv_tup(h:v9 K ρ H (.tup ds) v):∃a vs,v=.ref a/\C7 K H a vs/\Reps K ρ H ds vs:=by cases h with|tup h r=>exact⟨_,_,rfl,h,r⟩
theorem v9.inv_ref(h:v9 K ρ H (.ref n) v):∃a,v=.ref a/\ρ[n]?=a9 a:=by cases h with|ref h=>exact⟨_,rfl,h⟩
theorem az.inv_cons(h:az (x::vs) us):∃u ws,us=u::ws/\aN x u/\az vs ws:=by cases h with|cons h t=>exact⟨_,_,rfl,h,t⟩
theorem az.inv_nil(h:az [] us):us=[]:=by cases h;rfl
theorem Reps.inv_nil(h:Reps K ρ H [] vs):vs=[]:=by cases h;rfl
theorem Reps.inv_cons(h:Reps K ρ H (d::ds) vs):∃v ws,vs=v::ws/\v9 K ρ H d v/\Reps K ρ H ds ws:=by cases h with|cons h t=>exact⟨_,_,rfl,h,t⟩
end
end
theorem PE.imp(h:PE X e t')(i:∀σ H R,t σ H R->t' σ H R):PE X e t:=λp s σ H R I q=>h p s σ H R I<|i σ H R q
theorem PT.imp(h:PT X e t')(i:∀σ H R,t σ H R->t' σ H R):PT X e t:=λp s σ H R I q=>h p s σ H R I<|i σ H R q
theorem PW.imp(h:PW X e t')(i:∀σ H R,t σ H R->t' σ H R):PW X e t:=λw p s σ H R I q=>h w p s σ H R I<|i σ H R q
theorem PA.imp(h:PA X e t')(i:∀σ H R,t σ H R->t' σ H R):PA X e t:=λa p s σ H R I q=>h a p s σ H R I<|i σ H R q
theorem PS.imp(h:PS X e t')(i:∀E σ H,t E σ H->t' E σ H):PS X e t:=λp s σ H R I q=>h p s σ H R I<|i R σ H q
theorem LU.imp(h:LU X e t')(i:∀E σ H,t E σ H->t' E σ H):LU X e t:=λp s σ H R I q=>h p s σ H R I<|i R σ H q
theorem E5.imp(h:E5 X f r')(i:∀x y H R,r x y H R->r' x y H R):E5 X f r:=λp s σ H x y v u R I a b q=>h p s σ H x y v u R I a b<|i x y H R q
theorem gP.imp(h:gP X f r')(i:∀xs H R,r xs H R->r' xs H R):gP X f r:=λp s σ H xs us R I a q=>h p s σ H xs us R I a<|i xs H R q
section
variable{X:Cx}{a b c:h7}{ta tb tc:A3}{pos:Pos}
def ab(i:Nat):A3:=λS M Q=>match S[i]? with
 |some (a9 d)=>Q d M
 |_=>False
def dC(d:D):A3:=λ_ M Q=>Q d M
theorem DP{K:w9}{i:Nat}(σ:St)(H:Hp)(R:VK)(h:lowE K (ab i) σ H R):tVar i σ H R:=by
 obtain⟨S,M,ρ,Q,s,r,q,k⟩:=h;unfold ab at q;cases e:S[i]? with
 |none=>rw[e]at q;exact q.elim
 |some o =>
  cases o with
  |none=>rw[e]at q;exact q.elim
  |some d=>rw[e]at q;obtain⟨v,c,a⟩:=r.get i d e;exact⟨v,c,k v H<|VQ.now s a q⟩
theorem d_var(h:X.N[i]?=a9 x:=by rfl)(c:Oj X.env.scope x:=by first|exact Or.inl rfl|exact Or.inr (Or.inl rfl)|exact Or.inr<|Or.inr rfl)(a:(x==("__debug__":c5))=b9:=by decide)(d:(x==("__classdict__":c5))=b9:=by decide):DE X (.Name x pos) (ab i):=PE.imp (Fw h c a d) DP
noncomputable def cV:D->Option V
 |.non=>a9 .non
 |.bl b=>a9<|.bl b
 |.int i=>a9<|.int i
 |.str x=>a9<|.str x
 |.ty n=>a9<|.ty n
 |_=>b7
theorem Cf{K:w9}{ρ:List c8}{H:Hp}{d:D}{v:V}(h:cV d=a9 v):v9 K ρ H d v:=by
 cases d with
 |non=>cases h;exact .non
 |bl b=>cases h;exact .bl b
 |int b=>cases h;exact .int b
 |str b=>cases h;exact .str b
 |ty b=>cases h;exact .ty b
 |tup b=>cases h
 |ref b=>cases h
theorem xv{K:w9}{d:D}{v:V}(a:cV d=a9 v)(σ:St)(H:Hp)(R:VK)(h:lowE K (dC d) σ H R):tC v σ H R:=by obtain⟨S,M,ρ,Q,s,r,q,k⟩:=h;exact k v H<|VQ.now s (Cf a) q
theorem d_int{i:Int}{j:Nat}:DE X (.Constant (.int i) j pos) (dC<|.int i):=PE.imp JF<|xv rfl
theorem d_bl{i:Bool}{j:Nat}:DE X (.Constant (.bool i) j pos) (dC<|.bl i):=PE.imp pe_bl<|xv rfl
theorem d_non{j:Nat}:DE X (.Constant .none j pos) (dC .non):=PE.imp JD<|xv rfl
theorem d_str{i:c5}{j:Nat}:DE X (.Constant (.str i) j pos) (dC<|.str i):=PE.imp JA<|xv rfl
theorem low2{K:w9}{S:SD}{M:w6}{ρ:List c8}{σ:St}{H:Hp}{P:D->D->w6->Prop}{G:V->V->Hp->Prop}(s:z6 K ρ M H)(r:SRep K ρ H S σ)(h:ta S M λx M1=>tb S M1 λy M2=>P x y M2)(k:∀x y vx vy M2 ρ2 H2,z6 K ρ2 M2 H2->Grow K ρ H ρ2 H2->v9 K ρ2 H2 x vx->v9 K ρ2 H2 y vy->P x y M2->G vx vy H2):lowE K ta σ H λvx H1=>lowE K tb σ H1 λvy H2=>G vx vy H2:=by refine⟨S,M,ρ,_,s,r,h,?_⟩;rintro vx H1 ⟨x,M1,c,f,g1,a,q⟩;refine⟨S,M1,c,_,f,r.grow g1,q,?_⟩;rintro vy H2 ⟨y,M2,ρ2,z,g,n,j⟩;exact k x y vx vy M2 ρ2 H2 z (g1.trans g) (a.grow g) n j
def u8(r:G2)(t b:A3):A3:=λS M Q=>t S M λx a=>b S a λy M2=>r x y M2 Q
theorem qS{K:w9}{r:G2}(σ:St)(H:Hp)(R:VK)(h:lowE K (u8 r ta tb) σ H R):Pf (lowR K r) (lowE K ta) (lowE K tb) σ H R:=by obtain⟨S,M,ρ,Q,s,b,q,k⟩:=h;exact low2 s b q λx y f g M2 d e z c a n j=>⟨x,y,M2,d,Q,z,a,n,j,λv H' w=>k v H'<|VQ.trans c w⟩
theorem d_op(m:G9 X (j6 op) r)(f:DE X a ta)(d:DE X b tb):DE X (.BinOp a op b pos) (u8 r ta tb):=PE.imp (pe_op m f d) qS
theorem d_cmp(o:G9 X (j7 op) r)(f:DE X a ta)(d:DE X b tb)(m:j8 op b=b9:=by with_unfolding_all rfl):DE X (.Compare a [op] [b] pos) (u8 r ta tb):=PE.imp (GB o f d m) qS
def aG(t:A3):H9:=λS M Q=>t S M λx a=>match x with
 |.bl b=>Q b a
 |_=>False
theorem ub{K:w9}{t:A3}(σ:St)(H:Hp)(R:Bool->Hp->Prop)(h:lowT K (aG t) σ H R):Ja (lowE K t) σ H R:=by
 obtain⟨S,M,ρ,Q,s,r,q,k⟩:=h;refine⟨S,M,ρ,_,s,r,q,?_⟩;rintro v H' ⟨d,c,a,s',g,r',j⟩;cases r' with
 |bl b=>exact⟨b,rfl,k b H' ⟨c,a,s',g,j⟩⟩
 |_=>exact j.elim
theorem Lh(o:G9 X (j7 op) r)(f:DE X a ta)(d:DE X b tb)(m:j8 op b=b9:=by with_unfolding_all rfl):DT X (.Compare a [op] [b] pos) (aG<|u8 r ta tb):=by refine PT.imp (Gq o f d m) λσ H R h=>?_;obtain⟨S,M,ρ,Q,s,c,q,k⟩:=ub σ H R h;exact qS σ H _ ⟨S,M,ρ,Q,s,c,q,k⟩
theorem Le(h:DE X e t)(i:∀whole,isTrue e X.env whole=(do let v <-whole;standAt e.pos;i7 [v] (truthy v)):=by intro _;rfl):DT X e (aG t):=PT.imp (Jr h i) ub
def Qh(z:D)(k:Bool->Prop):Prop:=match z with
 |.bl b=>k b
 |_=>False
theorem Fx{b:Bool}{k:Bool->Prop}:Qh (.bl b) k=k b:=rfl
def uJ(r r':G2)(t e f:A3):A3:=λS M Q=>t S M λx c=>e S c λy M2=>r x y M2 λz a=>Qh z λb=>if b=b8 then f S a λw d=>r' y w d Q else Q (.bl b9) a
theorem yF{K:w9}{r r':G2}(σ:St)(H:Hp)(R:VK)(h:lowE K (uJ r r' ta tb tc) σ H R):Ft (lowR K r) (lowR K r') (lowE K ta) (lowE K tb) (lowE K tc) σ H R:=by
 obtain⟨S,M,ρ,Q,s,j,q,k⟩:=h;refine low2 s j q λx y G I M2 e C u g p n o=>⟨x,y,M2,e,_,u,p,n,o,?_⟩
 rintro L l ⟨z,c,a,A,g3,D,d⟩;cases D with
 |bl b =>
  cases b with
  |false=>exact⟨b9,rfl,dg<|k _ l ⟨_,c,a,A,g.trans g3,.bl b9,(show Q (.bl b9) c from d)⟩⟩
  |true=>refine⟨b8,rfl,dN ⟨S,c,a,_,A,j.grow<|g.trans g3,(show tc S c _ from d),?_⟩⟩;rintro F E ⟨w,m,f,B,i,t,J⟩;exact⟨y,w,m,f,Q,B,n.grow<|g3.trans i,t,J,λv H' Y=>k v H'<|VQ.trans ((g.trans g3).trans i) Y⟩
 |_=>exact d.elim
theorem Iz(o:G9 X (j7 op) r)(h:G9 X (j7 op') r')(f:DE X a ta)(d:DE X b tb)(e:DE X c tc)(m:lastMarks [op,op'] [b,c]=b9:=by with_unfolding_all rfl):DE X (.Compare a [op,op'] [b,c] pos) (uJ r r' ta tb tc):=PE.imp (Di o h f d e m) yF
variable{tA tB:H9}{aH:List h7}
def LD(t u:H9):H9:=λS M Q=>t S M λb a=>if b=b8 then u S a Q else Q b9 a
def NR(t u:H9):H9:=λS M Q=>t S M λb a=>if b=b8 then Q b8 a else u S a Q
def LB(t:H9):H9:=λS M Q=>t S M λb a=>Q (!b) a
theorem Ie(f:DT X a tA):DW X (.BoolOp .And [a] pos) tA:=Gm f
theorem Lc(f:DT X a tA):DW X (.BoolOp .Or [a] pos) tA:=Jp f
theorem Ld(i:DT X a tA)(j:DW X (.BoolOp .And (b::aH) pos) tB):DW X (.BoolOp .And (a::b::aH) pos) (LD tA tB):=by
 refine PW.imp (Jq i j) ?_;rintro σ H R ⟨S,M,ρ,Q,s,r,q,k⟩;refine⟨S,M,ρ,_,s,r,q,?_⟩;rintro c h ⟨e,d,g,g1,f⟩;cases c with
 |true=>exact dN ⟨S,e,d,Q,g,r.grow g1,(show tB S e Q from f),λv H' w=>k v H'<|BQ.trans g1 w⟩
 |false=>exact dg<|k b9 h ⟨e,d,g,g1,f⟩
theorem dw_or(i:DT X a tA)(j:DW X (.BoolOp .Or (b::aH) pos) tB):DW X (.BoolOp .Or (a::b::aH) pos) (NR tA tB):=by
 refine PW.imp (pw_or i j) ?_;rintro σ H R ⟨S,M,ρ,Q,s,r,q,k⟩;refine⟨S,M,ρ,_,s,r,q,?_⟩;rintro c h ⟨e,d,g,g1,f⟩;cases c with
 |false=>exact dg ⟨S,e,d,Q,g,r.grow g1,(show tB S e Q from f),λv H' w=>k v H'<|BQ.trans g1 w⟩
 |true=>exact dN<|k b8 h ⟨e,d,g,g1,f⟩
theorem dw_t(h:DW X e t):DT X e t:=PW.pt h
theorem Lg(f:DT X a tA):DT X (.UnaryOp .Not a pos) (LB tA):=by refine PT.imp (Js f) ?_;rintro σ H R ⟨S,M,ρ,Q,s,r,q,k⟩;refine⟨S,M,ρ,_,s,r,q,?_⟩;rintro c d ⟨e,b,h,g1,g⟩;exact k (!c) d ⟨e,b,h,g1,g⟩
def yW(t c:A3):A3:=λS M Q=>t S M λx a=>Qh x λb=>if b=b8 then c S a Q else Q (.bl b9) a
def dOrV(t c:A3):A3:=λS M Q=>t S M λx a=>Qh x λb=>if b=b8 then Q (.bl b8) a else c S a Q
def EV(t:A3):A3:=λS M Q=>t S M λx a=>match x with
 |.bl b=>Q (.bl<|!b) a
 |_=>False
theorem d_one{op}(h:DE X a ta):DE X (.BoolOp op [a] pos) ta:=JB h
theorem d_and(j:DE X a ta)(l:DE X (.BoolOp .And (b::aH) pos) tb):DE X (.BoolOp .And (a::b::aH) pos) (yW ta tb):=by
 refine PE.imp (JI j l) ?_;rintro σ H R ⟨S,M,ρ,Q,s,r,q,k⟩;refine⟨S,M,ρ,_,s,r,q,?_⟩;rintro v i ⟨d,f,e,h,g1,m,g⟩;cases m with
 |bl c =>
  cases c with
  |true=>exact⟨b8,rfl,dN ⟨S,f,e,Q,h,r.grow g1,(show tb S f Q from g),λv H' w=>k v H'<|VQ.trans g1 w⟩⟩
  |false=>exact⟨b9,rfl,dg<|k _ i ⟨_,f,e,h,g1,.bl b9,(show Q (.bl b9) f from g)⟩⟩
 |_=>exact g.elim
theorem d_or(j:DE X a ta)(l:DE X (.BoolOp .Or (b::aH) pos) tb):DE X (.BoolOp .Or (a::b::aH) pos) (dOrV ta tb):=by
 refine PE.imp (pe_or j l) ?_;rintro σ H R ⟨S,M,ρ,Q,s,r,q,k⟩;refine⟨S,M,ρ,_,s,r,q,?_⟩;rintro v i ⟨d,f,e,h,g1,m,g⟩;cases m with
 |bl c =>
  cases c with
  |false=>exact⟨b9,rfl,dg ⟨S,f,e,Q,h,r.grow g1,(show tb S f Q from g),λv H' w=>k v H'<|VQ.trans g1 w⟩⟩
  |true=>exact⟨b8,rfl,dN<|k _ i ⟨_,f,e,h,g1,.bl b8,(show Q (.bl b8) f from g)⟩⟩
 |_=>exact g.elim
theorem d_not(h:DE X a ta):DE X (.UnaryOp .Not a pos) (EV ta):=by
 refine PE.imp (JC h) ?_;rintro σ H R ⟨S,M,ρ,Q,s,j,q,k⟩;refine⟨S,M,ρ,_,s,j,q,?_⟩;rintro v f ⟨d,g,b,i,g1,r,e⟩;cases r with
 |bl c=>exact⟨c,rfl,k _ f ⟨_,g,b,i,g1,.bl<|!c,e⟩⟩
 |_=>exact e.elim
def dIfE(t:H9)(c d:A3):A3:=λS M Q=>t S M λb a=>if b=b8 then c S a Q else d S a Q
theorem Iy(j:DT X t tA)(h:DE X a ta)(i:DE X b tb):DE X (.IfExp t a b pos) (dIfE tA ta tb):=by
 refine PE.imp (Dg j h i) ?_;rintro σ H R ⟨S,M,ρ,Q,s,r,q,k⟩;refine⟨S,M,ρ,_,s,r,q,?_⟩;rintro c l ⟨e,d,g,g1,f⟩;cases c with
 |true=>exact dN ⟨S,e,d,Q,g,r.grow g1,(show ta S e Q from f),λv H' w=>k v H'<|VQ.trans g1 w⟩
 |false=>exact dg ⟨S,e,d,Q,g,r.grow g1,(show tb S e Q from f),λv H' w=>k v H'<|VQ.trans g1 w⟩
variable{e:h7}{es:List h7}{te:A3}{t:I9}
def ae:I9:=λ_ M Q=>Q [] M
def aa(te:A3)(t:I9):I9:=λS M Q=>te S M λd a=>t S a λds M2=>Q (d::ds) M2
theorem Lu:DA X [] ae:=by refine PA.imp JJ ?_;rintro σ H R ⟨S,M,ρ,Q,s,b,q,k⟩;exact k [] H ⟨[],M,ρ,s,.refl,.nil,q⟩
theorem Iv(i:DE X e te)(r:DA X es t)(hs:i5 (e::es) X.env=(b9,eval e X.env)::i5 es X.env:=by rfl):DA X (e::es) (aa te t):=by refine PA.imp (GE i r hs) ?_;rintro σ H R ⟨S,M,ρ,Q,s,b,q,k⟩;refine⟨S,M,ρ,_,s,b,q,?_⟩;rintro v p ⟨d,h,c,o,g1,m,j⟩;refine⟨S,h,c,_,o,b.grow g1,j,?_⟩;rintro vs f ⟨ds,M2,a,z,g,n,l⟩;exact k _ f ⟨d::ds,M2,a,z,g1.trans g,.cons (m.grow g) n,l⟩
def dO(t:I9):A3:=λS M Q=>t S M λds a=>ds.length<=sizeLine/\Q (.tup ds) a
def jp(t:I9):A3:=λS M Q=>t S M λds a=>ds.length<=sizeLine/\Q (.ref a.length) (a++[.lst ds])
theorem VQ.laidT{K:w9}{ρ c:List c8}{H a:Hp}{M:w6}{ds:List D}{vs:List V}{Q:DK}{p:c8}(f:z6 K c M a)(g1:Grow K ρ H c a)(r:Reps K c a ds vs)(hp:a p=b7)(q:Q (.tup ds) M):VQ K ρ H Q (.ref p) (A6 a p<|.tup vs):=⟨.tup ds,M,c,f.laid hp,g1.trans<|Grow.laid hp,.tup (C7.of aW)<|r.grow<|Grow.laid hp,q⟩
theorem VQ.laidL{K:w9}{ρ c:List c8}{H a:Hp}{M:w6}{ds:List D}{vs:List V}{Q:DK}{p:c8}(f:z6 K c M a)(g1:Grow K ρ H c a)(r:Reps K c a ds vs)(hp:a p=b7)(q:Q (.ref M.length) (M++[.lst ds])):VQ K ρ H Q (.ref p) (A6 a p<|.lst vs):=⟨.ref M.length,M++[.lst ds],c++[p],f.laidL hp r,g1.trans<|Grow.laidR hp,.ref f.last,q⟩
theorem d_tup{x1}(h:DA X es t):DE X (.Tuple es x1 pos) (dO t):=by refine PE.imp (Jz h) ?_;rintro σ H R ⟨S,M,ρ,Q,s,b,q,k⟩;refine⟨S,M,ρ,_,s,b,q,?_⟩;rintro vs d ⟨ds,e,a,f,g1,r,z,c⟩;exact⟨by rw[<-r.length];exact z,λp hp=>k _ _<|VQ.laidT f g1 r hp c⟩
theorem d_lst(h:DA X es t):DE X (.List es pos) (jp t):=by refine PE.imp (JE h) ?_;rintro σ H R ⟨S,M,ρ,Q,s,b,q,k⟩;refine⟨S,M,ρ,_,s,b,q,?_⟩;rintro vs d ⟨ds,e,a,f,g1,r,z,c⟩;exact⟨by rw[<-r.length];exact z,λp hp=>k _ _<|VQ.laidL f g1 r hp c⟩
def v7(r:D6)(t:I9):A3:=λS M Q=>t S M λds a=>r ds a Q
theorem AY{K:w9}{r:D6}(σ:St)(H:Hp)(R:VK)(h:lowE K (v7 r t) σ H R):Q7 (lowC K r) (lowA K t) σ H R:=by obtain⟨S,M,ρ,Q,s,e,q,k⟩:=h;refine⟨S,M,ρ,_,s,e,q,?_⟩;rintro vs g ⟨ds,a,c,f,g1,d,b⟩;exact⟨ds,a,c,Q,f,d,b,λv H' w=>k v H'<|VQ.trans g1 w⟩
theorem IA{x:c5}{p:Pos}{id:String}{r:D6}(c:kI X (.builtin id) r)(d:X.mg x=b7)(v:f6 x=a9 (.builtin id))(f:DA X (e::es) t)(R:Gl X x:=by rfl)(n:x≠"__name__":=by decide)(b:(x==("__debug__":c5))=b9:=by decide)(i:i5 (e::es) X.env=(b9,eval e X.env)::i5 es X.env:=by rfl) (l:(i4 pos<|i5 es X.env).any (·.1)=b9:=by rfl):DE X (.Call (.Name x p) (e::es) [] pos) (v7 r t):=PE.imp (Dj c R d v f n b i l) AY
theorem ET(c:kI X (.type T) r)(d:X.mg x=b7)(v:f6 x=a9 (.type T))(f:DA X (e::es) t)(R:Gl X x:=by rfl)(n:x≠"__name__":=by decide)(b:(x==("__debug__":c5))=b9:=by decide)(i:i5 (e::es) X.env=(b9,eval e X.env)::i5 es X.env:=by rfl) (l:(i4 pos<|i5 es X.env).any (·.1)=b9:=by rfl):DE X (.Call (.Name x p) (e::es) [] pos) (v7 r t):=PE.imp (AA c R d v f n b i l) AY
abbrev A7:=List D->w6->DK->Prop
def MN(K:w9)(P:A7):Sp:=λvs H Q _=>∃ds M ρ R,z6 K ρ M H/\Reps K ρ H ds vs/\P ds M R/\∀v H',VQ K ρ H R v H'->Q v H'
theorem AW{K:w9}{P:A7}(σ:St)(H:Hp)(R:VK)(h:lowE K (v7 P t) σ H R):Jd (MN K P) [] E0 (lowA K t) σ H R:=by obtain⟨S,M,ρ,Q,s,d,q,k⟩:=h;exact⟨S,M,ρ,_,s,d,q,λvs e ⟨ds,a,c,f,g1,r,b⟩=>⟨ds,a,c,Q,f,by rw[Mq];exact r,b,λv H' w=>k v H'<|VQ.trans g1 w⟩⟩
theorem LA(F:FnOk X.prog X.w X.K X.mg X.base LV k f fd ps (MN X.K P))(r:Room k X.A)(m:X.mg x=a9 (.ref f))(h:N4 X.K (.ref f)=b8)(d:uV X.K fd ps [])(a:DA X (e::es) t) (R:Gl X x:=by rfl) (b:(x==("__debug__":c5))=b9:=by decide) (i:i5 (e::es) X.env=(b9,eval e X.env)::i5 es X.env:=by rfl) (l:(i4 pos<|i5 es X.env).any (·.1)=b9:=by rfl):DE X (.Call (.Name x p) (e::es) [] pos) (v7 P t):=PE.imp (GC F r R m h d .nil pass0 a b i l) AW
end
def bB:v5:=λE S M=>E.nx S M
def aC(t u:v5):v5:=λE S M=>t { E with nx:=λb a=>u E b a } S M
theorem Ll:Nb X [] bB:=by refine LU.imp Gs ?_;rintro E σ H ⟨S,M,ρ,F,s,b,q,k⟩;exact k.nx σ H ⟨S,M,ρ,s,.refl,b,q⟩
theorem Lk{X:Cx}{st:i6}{t:v5}(h:DS X st t):Nb X [st] t:=Gr h
theorem Il{X:Cx}{st:i6}{aH:List i6}{t u:v5}(h1:DS X st t)(h2:Nb X aH u):Nb X (st::aH) (aC t u):=by refine LU.imp (Da h1 h2) ?_;rintro E σ H ⟨S,M,ρ,F,s,r,q,k⟩;exact⟨S,M,ρ,_,s,r,q,⟨λe H' ⟨d,c,b,s',g,a,j⟩=>⟨d,c,b,F,s',a,j,k.trans g⟩,k.rt,k.bk,k.ct⟩⟩
def kF(te:A3):v5:=λE S M=>te S M λ_ a=>E.nx S a
theorem Ik(i:DE X e te)(hs:i8 e b7 pos.line X.env=pure b9:=by rfl):DS X (.Expr e pos) (kF te):=by refine PS.imp (Gu i hs) ?_;rintro E σ H ⟨S,M,ρ,F,s,b,q,k⟩;refine⟨S,M,ρ,_,s,b,q,?_⟩;rintro v a ⟨d,f,c,h,g1,r,g⟩;exact k.nx σ a ⟨S,f,c,h,g1,b.grow g1,g⟩
def bt(te:A3):v5:=λE S M=>te S M E.rt
theorem Lj(i:DE X e te):DS X (.Return (a9 e) pos) (bt te):=by refine PS.imp (Ju i) ?_;rintro E σ H ⟨S,M,ρ,F,s,b,q,k⟩;exact⟨S,M,ρ,_,s,b,q,λv a w=>k.rt v a w⟩
def E4(c:H9)(t u:v5):v5:=λE S M=>c S M λb a=>if b=b8 then t E S a else u E S a
theorem ds_if(j:DT X c tc)(h:Nb X a t)(i:Nb X b u):DS X (.If c a b pos) (E4 tc t u):=by
 refine PS.imp (ps_if j h i) ?_;rintro E σ H ⟨S,M,ρ,F,s,r,q,k⟩;refine⟨S,M,ρ,_,s,r,q,?_⟩;rintro c l ⟨e,d,g,g1,f⟩;cases c with
 |true=>exact dN ⟨S,e,d,F,g,r.grow g1,(show t F S e from f),k.trans g1⟩
 |false=>exact dg ⟨S,e,d,F,g,r.grow g1,(show u F S e from f),k.trans g1⟩
def aV(te:A3)(i:Nat):v5:=λE S M=>te S M λd a=>E.nx (S.set i<|a9 d) a
theorem Li(h:X.N.Nodup)(g:DE X e te)(hi:X.N[i]?=a9 x:=by rfl)(l:NU X.env.scope x:=by first|exact Or.inl rfl|exact Or.inr rfl)(hs:i8 e (a9<|.Name x pos') pos.line X.env=pure b9:=by rfl)(j:X.fn x=b8\/X.env.scope.names.lookup x=a9 .local:=by first|exact .inl rfl|exact .inr rfl|assumption):DS X (.Assign [.Name x pos'] e pos) (aV te i):=by refine PS.imp (Jt h hi l g hs j) ?_;rintro E σ H ⟨S,M,ρ,F,s,b,q,k⟩;refine⟨S,M,ρ,_,s,b,q,?_⟩;rintro v a ⟨d,f,c,n,g1,r,m⟩;exact k.nx _ a ⟨_,f,c,n,g1,(b.grow g1).set i r,m⟩
def ap(i:Nat):L6:=λd S M Q=>Q (S.set i<|a9 d) M
theorem wj(h:X.N.Nodup)(hi:X.N[i]?=a9 x:=by rfl)(a:NU X.env.scope x:=by first|exact Or.inl rfl|exact Or.inr rfl)(f:X.fn x=b8\/X.env.scope.names.lookup x=a9 .local:=by first|exact .inl rfl|exact .inr rfl|assumption):DG X (.Name x pos) (ap i):=λp s σ H v u R I r ⟨d,S,M,ρ,Q,m,c,b,q,k⟩=>Gz h hi a f p s σ H v u R I r<|k _ H ⟨_,M,ρ,m,.refl,c.set i b,q⟩
theorem ye{P:c7}{w:c6}{K:w9}{Z:h7}(it:c8)(n:Nat)(M:Nat->c3->Prop)(PX:Nat->V->Prop)(Sx:Nat->d5->Prop)(W:∀A':f7,A'.handled=b7->Walks P w A' it [it] [it] n M Sx) (l:∀i v,M i v->∃x,aN x v/\PX i x)(j:∀i h,Sx i h->∃(o:c9) (nm:String) (vs:Array c3),h.get? it=a9 o/\o.cls=.type nm/\o.data=.fields vs/\["enumerate","zip","dict_itemiterator","dict_reverseitemiterator","odict_iterator","itertools.zip_longest","itertools.pairwise"].contains nm=b9)(a:∀(i:Nat) (h h':d5),Sx i h->(∀o,h.get? it=a9 o->h'.get? it=a9 o)->Sx i h')(g:∀(A:f7) (i:Nat) (s:f8) (Q:c3->f8->Prop) (E:c3->f8->Prop),Sx i s.heap->Q (.ref it) s->g9 (i3 P w) A (j3<|.ref it) Q E s):Turn P w K Z ⟨λi _=>i<n,λi H x H'=>H'=H/\PX i x,λi _=>i=n⟩ [it] it Sx where
 mem:=by simp
 obj:=λi h st b f=>by
  have e:b=it:=by simpa using f
  subst e;obtain⟨o,nm,vs,e,_,d,_⟩:=j i h st;exact⟨o,e,λv z=>by rw[d]at z;cases z⟩
 keep:=λi h h' st k=>a i h h' st λo e=>k it (by simp) o e
 item:=by intro X D G C F i p s σ H E I q st R;subst D G C;obtain⟨r,t,O,u,y,B⟩:=q it (by simp);refine(W X.A<|I.ok.hd F).item i s _ _ R st λv h' L T m J=>?_;obtain⟨x,Y,U⟩:=l i v T;have N:v4 X p σ H { s with heap:=h',toks:=L }:=I.turned (λb o f e=>J b o (by simpa using f) e) r t u y B;obtain⟨o,nm,vs,e,c,d,S⟩:=j _ _ m;exact⟨v,rfl,wd (s:={ s with heap:=h',toks:=L }) e c d S ⟨x,H,N,Y,⟨rfl,U⟩,m,λb f=>(q b f).1⟩⟩
 done:=by intro X D G C F i p s σ H E I q st R;subst D G C;obtain⟨r,t,O,u,y,B⟩:=q it (by simp);have hi:i=n:=R;subst hi;exact(W X.A<|I.ok.hd F).done s _ _ st λh' L J=>⟨rfl,I.turned (λb o f e=>J b o (by simpa using f) e) r t u y B⟩
 self:=g
noncomputable def Al(x:c5):List D:=x.cps.toList.map λc=>.str ⟨#[c]⟩
structure Rc where
 items:List D
 ok:w6->Prop
abbrev Mv:=SD->w6->(Rc->w6->Prop)->Prop
structure Mu(K:w9)(src:Rc)(ρ0:List c8)(H0:Hp)(J:It):Prop where
 go:∀(i:Nat) ρ M H,z6 K ρ M H->Grow K ρ0 H0 ρ H->src.ok M->i<src.items.length->J.go i H
 yld:∀(i:Nat) ρ M H x H',z6 K ρ M H->Grow K ρ0 H0 ρ H->src.ok M->i<src.items.length->J.yld i H x H'->∃d ρ',src.items[i]?=a9 d/\z6 K ρ' M H'/\Grow K ρ H ρ' H'/\v9 K ρ' H' d x
 stop:∀(ρ:List c8) M H,z6 K ρ M H->Grow K ρ0 H0 ρ H->src.ok M->J.stop src.items.length H
def IQ(K:w9)(ρ:List c8)(H:Hp)(Q:Rc->w6->Prop):It->Hp->Prop:=λJ H'=>∃src M a,z6 K a M H'/\Grow K ρ H a H'/\Mu K src a H' J/\Q src M
def lowI(K:w9)(i:Mv):TI:=λσ H R=>∃S M ρ Q,z6 K ρ M H/\SRep K ρ H S σ/\i S M Q/\∀J H',IQ K ρ H Q J H'->R J H'
def DI(X:Cx)(g r:h7)(i:Mv):Prop:=PI X g r<|lowI X.K i
theorem Mu.tup{K:w9}{ρ:List c8}{H:Hp}{a:c8}{vs:List V}{ds:List D}(h:C7 K H a vs)(r:Reps K ρ H ds vs)(q:∀ys,C7 K H a ys->ys=vs):Mu K ⟨ds,λ_=>True⟩ ρ H (RL K a) where
 go:=λi b M H' s g _ hi=>by
  have l:i<vs.length:=by rw[<-r.length];exact hi
  exact⟨vs,vs[i],g.tup a vs h,A5 l⟩
 yld:=λi b M H' x f s g _ hi y=>by obtain⟨rfl,y⟩:=y;obtain⟨d,c,e⟩:=(r.grow g).getV<|y vs<|g.tup a vs h;exact⟨d,b,c,s,.refl,e⟩
 stop:=λb M H' s g _=>⟨vs,g.tup a vs h,by rw[<-r.length];exact x5 _⟩
theorem Mu.lst{K:w9}{ρ:List c8}{H:Hp}{n:Nat}{a:c8}{ds:List D}(e:ρ[n]?=a9 a):Mu K ⟨ds,λM=>aq M n ds⟩ ρ H (RM K a) where
 go:=λi b M H' s g ok hi=>by
  obtain⟨vs,h,r⟩:=aq.seq s ok<|ar g.pre e;have l:i<vs.length:=by rw[<-r.length];exact hi
  exact⟨vs,vs[i],h,A5 l⟩
 yld:=λi b M H' x j s g ok hi y=>by obtain⟨rfl,y⟩:=y;obtain⟨vs,h,r⟩:=aq.seq s ok<|ar g.pre e;obtain⟨d,c,f⟩:=r.getV<|y vs h;exact⟨d,b,c,s,.refl,f⟩
 stop:=λb M H' s g ok=>by obtain⟨vs,h,r⟩:=aq.seq s ok<|ar g.pre e;exact⟨vs,h,by rw[<-r.length];exact x5 _⟩
theorem Mu.plain{K:w9}{ρ:List c8}{H:Hp}{ds:List D}{J:It}(R:∀i H,i<ds.length->J.go i H)(O:∀i H x H',i<ds.length->J.yld i H x H'->H'=H/\∃d,ds[i]?=a9 d/\cV d=a9 x)(hs:∀H,J.stop ds.length H):Mu K ⟨ds,λ_=>True⟩ ρ H J where
 go:=λi a M H' s g _ hi=>R i H' hi
 yld:=λi a M H' x b s g _ hi y=>by obtain⟨rfl,d,h,c⟩:=O i _ x b hi y;exact⟨d,a,h,s,.refl,Cf c⟩
 stop:=λa M H' s g _=>hs H'
def br(te:A3):Mv:=λS M R=>te S M λd a=>match d with
 |.tup ds=>ds.length<=sizeLine->R ⟨ds,λ_=>True⟩ a
 |.str x=>R ⟨Al x,λ_=>True⟩ a
 |.ref n=>∃xs,aq a n xs/\(xs.length<=sizeLine->R ⟨xs,λM=>aq M n xs⟩ a)
 |_=>False
theorem Lo(hl:DE X l tl):DI X tg l (br tl):=by
 intro m s σ H R I h;obtain⟨S,M,ρ,Q,sm,sr,q,k⟩:=h;refine A2 (hl m s σ H _ I ⟨S,M,ρ,_,sm,sr,q,λv H' w=>w⟩) ?_;rintro u f ⟨v,D,g,U,d,F,C,j,g1,r1,B⟩;cases r1 with
 |non=>exact B.elim
 |bl b=>exact B.elim
 |int i=>exact B.elim
 |ty n=>exact B.elim
 |@tup a vs ds K r =>
  cases U;obtain⟨its,rr,p,T⟩:=g.tuple K;refine wpAny_pyIter_tuple (show f.heap.IsTuple a its.toArray from p) ?_;refine⟨f.heap.objs.size,[f.heap.objs.size],_,_,D,rfl,g.kept (t':=f.toks) λb o e=>A1 _ e,yf a _,⟨_,C0 _ rfl,rfl,rfl⟩,λb J=>?_,k _ D ⟨⟨ds,λ_=>True⟩,F,C,j,g1,Mu.tup K r λys hy=>g.tuple_inj hy K,?_⟩⟩;have e:b=f.heap.objs.size:=by simpa using J
  subst e;exact g.fpOk (x5 _)<|g.hok.fresh<|x5 _;exact(show ds.length<=sizeLine->Q ⟨ds,λ_=>True⟩ F from B)<|by rw[r.length];exact T
 |@ref n a Y =>
  cases U;obtain⟨xs,hL,q2⟩:=(show ∃xs,aq F n xs/\(xs.length<=sizeLine->Q ⟨xs,λM=>aq M n xs⟩ F)from B)
  obtain⟨vs,K,r⟩:=aq.seq j hL Y;obtain⟨its,rr,p,T⟩:=g.list K;refine wpAny_pyIter_list p.isList ?_;refine⟨f.heap.objs.size,[f.heap.objs.size],_,_,D,rfl,g.kept (t':=f.toks) λb o e=>A1 _ e,zv a _,⟨_,C0 _ rfl,rfl,rfl⟩,λb J=>?_,k _ D ⟨⟨xs,λM=>aq M n xs⟩,F,C,j,g1,Mu.lst Y,q2<|by rw[r.length];exact T⟩⟩;have e:b=f.heap.objs.size:=by simpa using J
  subst e;exact g.fpOk (x5 _)<|g.hok.fresh<|x5 _
 |str x =>
  obtain⟨t,rfl⟩:=U;have G:∀(z:String) (L:c9),(L.cls=.type z/\L.data=.fields #[.str x t,.int 0 0]) -> (∀N:f7,N.handled=b7->Walks X.prog X.w N f.heap.objs.size [f.heap.objs.size] [f.heap.objs.size] x.cps.size (SignAt x) (λi h=>h.IsStrIter f.heap.objs.size z x t i)) -> (∀(A:f7) (i:Nat) (s:f8) (Q:c3->f8->Prop) (E:c3->f8->Prop),s.heap.IsStrIter f.heap.objs.size z x t i->Q (.ref f.heap.objs.size) s->g9 (i3 X.prog X.w) A (j3<|.ref f.heap.objs.size) Q E s) -> ["enumerate","zip","dict_itemiterator","dict_reverseitemiterator","odict_iterator","itertools.zip_longest","itertools.pairwise"].contains z=b9->(f.heap.push L).IsStrIter f.heap.objs.size z x t 0 -> Pt X m σ tg R (.ref f.heap.objs.size) { f with heap:=f.heap.push L }:=λz L ag W y P st=>by
   refine⟨f.heap.objs.size,[f.heap.objs.size],_,_,D,rfl,g.kept (t':=f.toks) λb o e=>A1 _ e,ye (PX:=λi v=>∃c,x.cps[i]?=a9 c/\v=.str ⟨#[c]⟩) _ _ _ _ W (λi v ⟨c,u,Z,e2⟩=>⟨.str ⟨#[c]⟩,⟨u,e2⟩,c,Z,rfl⟩) (λi h st=>?_) (λi h h' st k=>?_) y,st,λb J=>?_,k _ D ⟨⟨Al x,λ_=>True⟩,F,C,j,g1,Mu.plain ?_ ?_ ?_,B⟩⟩;obtain⟨o,e,c,d⟩:=st;exact⟨o,z,_,e,c,d,P⟩;obtain⟨o,e,r⟩:=st;exact⟨o,k o e,r⟩;have e:b=f.heap.objs.size:=by simpa using J
   subst e;exact g.fpOk (x5 _)<|g.hok.fresh<|x5 _;intro i _ hi;simpa [Al]using hi;rintro i H x' H' _ ⟨rfl,c,e,rfl⟩;exact⟨rfl,.str ⟨#[c]⟩,by simp[Al,e],rfl⟩;intro H;simp[Al]
  cases V:x.cps.all (· < 128);exact wpAny_pyIter_wide V<|G _ _ ⟨rfl,rfl⟩ (λN O=>Walks.strWide O _ x t) (λ_ _ _ _ _ st h=>wpAny_pyIter_striter_wide st h) (by decide) ⟨_,C0 _ rfl,rfl,rfl⟩;exact wpAny_pyIter_ascii V<|G _ _ ⟨rfl,rfl⟩ (λN O=>Walks.strAscii O _ x t) (λ_ _ _ _ _ st h=>wpAny_pyIter_striter_ascii st h) (by decide) ⟨_,C0 _ rfl,rfl,rfl⟩
noncomputable def ip(lo:Int)(n:Nat):List D:=(C9 n).map λi=>.int<|lo+((i:Nat):Int)
theorem Mu.rng{K:w9}{ρ:List c8}{H:Hp}(lo:Int)(n:Nat):Mu K ⟨ip lo n,λ_=>True⟩ ρ H (Qi lo n):=by
 refine Mu.plain (λi _ hi=>?_) (λi H x H' hi y=>?_) λH=>?_;show i<n;simpa [ip]using hi;obtain⟨e,rfl⟩:=y;have h:i<n:=by simpa [ip]using hi
 exact⟨e,.int<|lo+i,by simp[ip,h],rfl⟩;show n<=(ip lo n).length;simp[ip]
def bU(t:I9):Mv:=λS M R=>t S M λds a=>match ds with
 | [.int j]=>(-(2 ^ 62)<=j/\j<2 ^ 62)/\R ⟨ip 0 j.toNat,λ_=>True⟩ a
 |_=>False
theorem PI.imp(h:PI X tg iter t')(i:∀σ H R,t σ H R->t' σ H R):PI X tg iter t:=λp s σ H R I q=>h p s σ H R I<|i σ H R q
theorem BU(m:X.mg "range" = b7)(h:DA X [a] ta)(g:Gl X "range":=by rfl)(hs:i5 [a] X.env=[(b9,eval a X.env)]:=by rfl):DI X tg (.Call (.Name "range" p) [a] [] pos) (bU ta):=by
 refine PI.imp (Ax g m h hs) ?_;rintro σ H R ⟨S,M,ρ,Q,s,n,q,k⟩;refine⟨S,M,ρ,_,s,n,q,?_⟩;rintro vs e ⟨ds,f,d,l,g1,b,c⟩
 try dsimp only at c
 split at c;rename_i j;obtain⟨⟨h1,h2⟩,i⟩:=c
 first|have z:=Reps.inv_cons b|have z:=az.inv_cons b
 clear b;obtain⟨_,_,rfl,r,t⟩:=z;cases r;cases t;exact⟨j,rfl,h1,h2,k _ e ⟨_,f,d,l,g1,Mu.rng 0 j.toNat,i⟩⟩;exact c.elim
section
mutual
inductive E6(k:Nat):D->Prop
 |non:E6 k .non
 |bl (b:Bool):E6 k (.bl b)
 |int (i:Int):E6 k (.int i)
 |str (x:c5):E6 k (.str x)
 |ty (n:String):E6 k (.ty n)
 |tup {ds:List D} (h:Bels k ds):E6 k (.tup ds)
 |ref {n:Nat} (h:n<k):E6 k (.ref n)
inductive Bels(k:Nat):List D->Prop
 |nil:Bels k []
 |cons {d:D}{ds:List D} (h:E6 k d) (t:Bels k ds):Bels k (d::ds)
end
noncomputable def MO.items:MO->List D
 |.lst xs=>xs
 |.fz xs=>xs
 |.kl xs=>xs
 |.dct kvs=>kvs.map (·.2)
 |.dkt kvs=>kvs.map (·.2)
 |.dkq _ kvs=>kvs.map (·.2)
 |.fdc _ kvs=>kvs.map (·.2)
 |.dkm kvs=>kvs.map (·.2)
 |.tb _ _=>[]
 |.exc _=>[]
theorem v9.bel{K:w9}{ρ:List c8}{H:Hp}{d:D}{v:V}(h:v9 K ρ H d v):E6 ρ.length d:=v9.rec (motive_1:=λd v _=>E6 ρ.length d) (motive_2:=λds vs _=>Bels ρ.length ds) .non .bl .int .str .ty (λ_ _ r=>.tup r) (λh=>.ref (C2.mp h).1) .nil (λ_ _ h t=>.cons h t) h
theorem Reps.bel{K:w9}{ρ:List c8}{H:Hp}{ds:List D}{vs:List V}(h:Reps K ρ H ds vs):Bels ρ.length ds:=Reps.rec (motive_1:=λd v _=>E6 ρ.length d) (motive_2:=λds vs _=>Bels ρ.length ds) .non .bl .int .str .ty (λ_ _ r=>.tup r) (λh=>.ref (C2.mp h).1) .nil (λ_ _ h t=>.cons h t) h
theorem E6.inv(b:E6 k d):(∀ds,d=.tup ds->Bels k ds)/\∀n,d=.ref n->n<k:=by
 cases b with
 |tup b=>exact⟨(λ_ e=>by injection e with e;exact e ▸ b),(λ_ e=>by cases e)⟩
 |ref b=>exact⟨(λ_ e=>by cases e),(λ_ e=>by injection e with e;exact e ▸ b)⟩
 |_=>exact⟨(λ_ e=>by cases e),(λ_ e=>by cases e)⟩
theorem Bels.inv{k:Nat}{d:D}{ds:List D}(b:Bels k (d::ds)):E6 k d/\Bels k ds:=by
 cases b with
 |cons b c=>exact⟨b,c⟩
theorem v9.cut{K:w9}{ρ:List c8}{H:Hp}{k:Nat}{d:D}{v:V}(h:v9 K ρ H d v):E6 k d->v9 K (ρ.take k) H d v:=v9.rec (motive_1:=λd v _=>E6 k d->v9 K (ρ.take k) H d v) (motive_2:=λds vs _=>Bels k ds->Reps K (ρ.take k) H ds vs) (λ_=>.non) (λb _=>.bl b) (λb _=>.int b) (λb _=>.str b) (λb _=>.ty b) (λh _ r b=>.tup h<|r<|b.inv.1 _ rfl)
  (λh b=>.ref<|by rw[OF<|b.inv.2 _ rfl];exact h) (λ_=>.nil) (λ_ _ h t b=>.cons (h b.inv.1)<|t b.inv.2) h
theorem Reps.cut{K:w9}{ρ:List c8}{H:Hp}{k:Nat}{ds:List D}{vs:List V}(h:Reps K ρ H ds vs):Bels k ds->Reps K (ρ.take k) H ds vs:=Reps.rec (motive_1:=λd v _=>E6 k d->v9 K (ρ.take k) H d v) (motive_2:=λds vs _=>Bels k ds->Reps K (ρ.take k) H ds vs) (λ_=>.non) (λb _=>.bl b) (λb _=>.int b) (λb _=>.str b) (λb _=>.ty b) (λh _ r b=>.tup h<|r<|b.inv.1 _ rfl)
  (λh b=>.ref<|by rw[OF<|b.inv.2 _ rfl];exact h) (λ_=>.nil) (λ_ _ h t b=>.cons (h b.inv.1)<|t b.inv.2) h
theorem E6.mono{j k:Nat}(h:j<=k){d:D}(b:E6 j d):E6 k d:=E6.rec (motive_1:=λd _=>E6 k d) (motive_2:=λds _=>Bels k ds) .non .bl .int .str .ty (λ_ b=>.tup b) (λb=>.ref<|L0 b h) .nil (λ_ _ b c=>.cons b c) b
theorem Bels.mono{j k:Nat}(h:j<=k){ds:List D}(b:Bels j ds):Bels k ds:=Bels.rec (motive_1:=λd _=>E6 k d) (motive_2:=λds _=>Bels k ds) .non .bl .int .str .ty (λ_ b=>.tup b) (λb=>.ref<|L0 b h) .nil (λ_ _ b c=>.cons b c) b
theorem Bels.of:∀{xs:List D},(∀d∈xs,E6 k d)->Bels k xs
 | [],_=>.nil
 |d::ds,h=>.cons (h d F4)<|Bels.of λe he=>h e<|C6 _ he
section
variable{K:w9}{ρ ρ':List c8}{H H':Hp}{M M':w6}
theorem xC:∀(n:Nat) (d:D),dm n d=b8->E6 k d:=by
 intro n;induction n with
 |zero =>
  intro d h;cases d with
  |str x=>exact .str x
  |int x=>exact .int x
  |_=>cases h
 |succ n i =>
  intro d h;cases d with
  |str x=>exact .str x
  |int x=>exact .int x
  |tup ds=>exact .tup<|Bels.of λx a=>i x<|G7.mp (show ds.all (dm n)=b8 from h) x a
  |_=>cases h
theorem Bj(r:Paired (zf K ρ H) kvs xs):Bels ρ.length (kvs.map (·.2)):=by
 induction r with
 |nil=>exact .nil
 |cons q _ i=>obtain⟨_,_,_,v,J,_⟩:=q;exact .cons J.bel i
theorem Bi(r:Paired (zf K ρ H) kvs xs)(b:Bels k (kvs.map (·.2))):Paired (zf K (ρ.take k) H) kvs xs:=by
 induction r with
 |nil=>exact .nil
 |cons q _ i =>
  obtain⟨d,j,e,v,J,f⟩:=q;rw[D5]at b;cases b with
  |cons a c=>exact .cons ⟨d,j,e.cut<|xC _ _ j,v,J.cut a,f⟩<|i c
theorem Eg:∀(d:D),yJ d=b8->E6 k d
 |.non,_=>.non
 |.tup ks,h=>xC 8 _ h
 |.bl _,h=>nomatch h
 |.int _,h=>nomatch h
 |.str _,h=>nomatch h
 |.ty _,h=>nomatch h
 |.ref _,h=>nomatch h
theorem He(r:Paired (Ms K ρ H) kvs xs):Bels ρ.length (kvs.map (·.2)):=by
 induction r with
 |nil=>exact .nil
 |cons q _ i=>obtain⟨_,_,_,v,J,_⟩:=q;exact .cons J.bel i
theorem Hc(r:Paired (Ms K ρ H) kvs xs)(b:Bels k (kvs.map (·.2))):Paired (Ms K (ρ.take k) H) kvs xs:=by
 induction r with
 |nil=>exact .nil
 |cons q _ i =>
  obtain⟨d,j,⟨u,e,l⟩,v,J,f⟩:=q;rw[D5]at b;cases b with
  |cons a c=>exact .cons ⟨d,j,⟨u,e.cut<|Eg _ j,l⟩,v,J.cut a,f⟩<|i c
theorem zj.bels(h:zj K ρ H a mo):Bels ρ.length mo.items:=by
 cases mo with
 |lst ds=>obtain⟨vs,_,r⟩:=h;exact r.bel
 |fz ds=>obtain⟨o,vs,_,r⟩:=h;exact r.bel
 |kl ds=>obtain⟨vs,_,r⟩:=h;exact r.bel
 |dct kvs=>obtain⟨vs,_,r⟩:=h;exact r.bel
 |dkt kvs=>obtain⟨_,_,_,xs,_,r⟩:=h;exact Bj r
 |dkq _ kvs=>obtain⟨_,_,_,xs,_,r⟩:=h;exact Bj r
 |fdc o kvs=>obtain⟨vs,_,r⟩:=h;exact r.bel
 |dkm kvs=>obtain⟨_,_,_,xs,_,r⟩:=h;exact He r
 |tb x b=>exact .nil
 |exc x=>exact .nil
theorem zj.cut(h:zj K ρ H a mo)(b:Bels k mo.items):zj K (ρ.take k) H a mo:=by
 cases mo with
 |lst ds=>obtain⟨vs,e,r⟩:=h;exact⟨vs,e,r.cut b⟩
 |fz ds=>obtain⟨o,vs,e,r⟩:=h;exact⟨o,vs,e,r.cut b⟩
 |kl ds=>obtain⟨vs,e,r⟩:=h;exact⟨vs,e,r.cut b⟩
 |dct kvs=>obtain⟨vs,e,r⟩:=h;exact⟨vs,e,r.cut b⟩
 |dkt kvs=>obtain⟨h1,h2,c,xs,e,r⟩:=h;exact⟨h1,h2,c,xs,e,Bi r b⟩
 |dkq _ kvs=>obtain⟨h1,h2,c,xs,e,r⟩:=h;exact⟨h1,h2,c,xs,e,Bi r b⟩
 |fdc o kvs=>obtain⟨vs,e,r⟩:=h;exact⟨vs,e,r.cut b⟩
 |dkm kvs=>obtain⟨h1,h2,c,xs,e,r⟩:=h;exact⟨h1,h2,c,xs,e,Hc r b⟩
 |tb x b=>exact h
 |exc x=>exact h
theorem z6.bels(S:z6 K ρ M H){n:Nat}{mo:MO}(e:M[n]?=a9 mo):Bels M.length mo.items:=by obtain⟨a,_,h⟩:=S.get e;rw[<-S.len];exact h.bels
theorem z6.cut(S:z6 K ρ M H)(k:Nat)(d:∀(n:Nat) (mo:MO),n<k->M[n]?=a9 mo->Bels k mo.items):z6 K (ρ.take k) (M.take k) H:=by
 have lt:∀{n:Nat}{a:c8},(ρ.take k)[n]?=a9 a->n<k/\ρ[n]?=a9 a:=λ{n a} e=>by
  have h1:=(C2.mp e).1;rw[LO]at h1;have h2:n<k:=by lia
  rw[OF h2]at e;exact⟨h2,e⟩
 refine⟨λn m a h t l=>?_,by rw[LO,LO,S.len],λn a mo t l=>?_⟩;obtain⟨b,f⟩:=lt t;obtain⟨g,c⟩:=lt l;rw[OF b,OF g];exact S.nd n m a h f c;obtain⟨b,f⟩:=lt t;rw[OF b]at l;exact(S.obj n a mo f l).cut<|d n mo b l
theorem SRep.cut(r:SRep K ρ H S σ)(g:S'.length=S.length)(h:∀(i:Nat) d,S'[i]?=a9 (a9 d)->S[i]?=a9 (a9 d)/\E6 k d):SRep K (ρ.take k) H S' σ:=⟨g.trans r.len,λi d e=>let ⟨e',b⟩:=h i d e;let ⟨v,hv,rv⟩:=r.get i d e';⟨v,hv,rv.cut b⟩⟩
theorem Grow.cut(g:Grow K ρ H ρ' H')(h:ρ.length<=k):Grow K ρ H (ρ'.take k) H':=by refine⟨?_,g.tup⟩;obtain⟨t,rfl⟩:=g.pre;rw[List.take_append];rw[O6 h];exact Mc _ _
end
inductive FgtS(k:Nat):SD->SD->Prop
 |nil:FgtS k [] []
 |keep {d:D}{S S':SD} (h:E6 k d) (t:FgtS k S S'):FgtS k (a9 d::S) (a9 d::S')
 |drop {o:Option D}{S S':SD} (t:FgtS k S S'):FgtS k (o::S) (b7::S')
theorem FgtS.len(h:FgtS k S S'):S'.length=S.length:=by
 induction h with
 |nil=>rfl
 |keep _ _ i=>rw[D7,D7,i]
 |drop _ i=>rw[D7,D7,i]
theorem FgtS.get(h:FgtS k S S'):∀(i:Nat) d,S'[i]?=a9 (a9 d)->S[i]?=a9 (a9 d)/\E6 k d:=by
 induction h with
 |nil=>intro i d e;simp at e
 |keep b _ a =>
  intro i d e;cases i with
  |zero=>simp at e;subst e;exact⟨rfl,b⟩
  |succ i=>exact a i d<|by simpa using e
 |drop _ a =>
  intro i d e;cases i with
  |zero=>simp at e
  |succ i=>exact a i d<|by simpa using e
def E1(a:w6)(P:SD->w6->Prop)(S:SD)(M:w6):Prop:=P S M\/(∃k b,a.length<=k/\FgtS k S b/\(∀(n:Nat) mo,n<k->M[n]?=a9 mo->Bels k mo.items)/\P b (M.take k))\/∃b,FgtS a.length S b/\a <+: M/\P b a
theorem CL{α:Type}{l l':List α}(h:l <+: l'):l'.take l.length=l:=by obtain⟨t,rfl⟩:=h;rw[List.take_append_of_le_length<|x5 _,MA]
theorem SQ.fgt{K:w9}{ρ:List c8}{H:Hp}{M:w6}{P:SD->w6->Prop}{c:St}{H':Hp}(s0:z6 K ρ M H)(h:SQ K ρ H (E1 M P) c H'):SQ K ρ H P c H':=by
 have f:ρ.length<=M.length:=by rw[s0.len];exact x5 _
 obtain⟨i,d,b,s',g,a,j⟩:=h;rcases j with j|⟨k,S,h1,h2,l,q⟩|⟨S,h2,hp,q⟩
 exact⟨i,d,b,s',g,a,j⟩;exact⟨S,d.take k,b.take k,s'.cut k l,g.cut<|J7 f h1,a.cut h2.len h2.get,q⟩;have s:=s'.cut M.length λn o m e=>by obtain⟨t,rfl⟩:=hp;rw[LR m]at e;exact s0.bels e
 rw[CL hp]at s;exact⟨S,M,b.take M.length,s,g.cut f,a.cut h2.len h2.get,q⟩
def uI(ok:w6->Prop)(g:L6)(tb:v5)(E:DEnds)(k0:w6):List D->SD->w6->Prop
 | [],S,M=>ok M/\E.nx S M
 |x::xs,S,M=>ok M/\g x S M λS2 M2=>tb ⟨E1 k0<|uI ok g tb E k0 xs,E.rt,E.nx,E1 k0<|uI ok g tb E k0 xs⟩ S2 M2
def lE(i:Mv)(g:L6)(b:v5):v5:=λE S M=>i S M λsrc a=>uI src.ok g b E a src.items S a
theorem uD{α:Type}{l:List α}{i:Nat}{x:α}(h:l[i]?=a9 x):l.drop i=x::l.drop (i+1):=by obtain⟨hi,e⟩:=C2.mp h;rw[Qf hi,e]
theorem DO{K:w9}{P:Mv}{g:L6}{u:v5}(E:Ends)(σ:St)(H:Hp)(h:lowS K (lE P g u) E σ H):tFor (lowI K P) (lowG K g) (lowS K u) E σ H:=by
 obtain⟨S,M,ρ,F,s,U,q,k⟩:=h;refine⟨S,M,ρ,_,s,U,q,?_⟩;rintro J C ⟨src,o,f,T,g1,it,q1⟩;have D:=k.trans g1;refine⟨λi m τ j=>∃c M2 a,z6 K a M2 j/\Grow K f C a j/\SRep K a j c τ/\i<=src.items.length/\m=src.items.length-i/\uI src.ok g u F o (src.items.drop i) c M2,⟨_,S,o,f,T,.refl,U.grow g1,A8 _,rfl,q1⟩,?_⟩;rintro i m τ j ⟨c,M2,a,B,p,r,hi,rfl,A⟩;by_cases t:i<src.items.length;have Q:src.items[i]?=a9 src.items[i]:=A5 t;rw[uD Q]at A;obtain⟨ok,G⟩:=(show src.ok M2/\g src.items[i] c M2 _ from A)
 refine .inr ⟨it.go i a M2 j B p ok t,_,λag H' z=>z,λx W y=>?_⟩;obtain⟨d,N,hd,s3,g3,r3⟩:=it.yld i a M2 j x W B p ok t y;have ed:d=src.items[i]:=D2<|hd.symm.trans Q;subst ed;refine⟨_,c,M2,N,_,s3,r.grow g3,r3,G,?_⟩;rintro ai X ⟨S4,Y,w,s4,g4,I,q4⟩;have l:=(p.trans g3).trans g4;refine⟨S4,Y,w,_,s4,I,q4,?_⟩;have n:∀b V,SQ K w X (E1 o<|uI src.ok g u F o<|src.items.drop<|i+1) b V -> ∃R,R < src.items.length-i/\∃c M2 a,z6 K a M2 V/\Grow K f C a V/\SRep K a V c b/\i+1<=src.items.length/\R=src.items.length-(i+1)/\uI src.ok g u F o (src.items.drop<|i+1) c M2:=λb V z=>by obtain⟨S5,Z,O,s5,g5,L,q5⟩:=SQ.fgt (ρ:=f) (H:=C) T<|SQ.trans l z;exact⟨_,by lia,S5,Z,O,s5,g5,L,t,rfl,q5⟩
 exact⟨n,λv V z=>D.rt v V<|VQ.trans l z,λb V z=>D.nx b V<|SQ.trans l z,n⟩;have e:i=src.items.length:=by lia
 subst e;rw[List.drop_of_length_le<|x5 _]at A;obtain⟨ok,G⟩:=(show src.ok M2/\F.nx c M2 from A)
 exact .inl ⟨it.stop a M2 j B p ok,D.nx τ j ⟨c,M2,a,B,p,r,G⟩⟩
theorem Lm(hi:DI X tg iter di)(R:DG X tg g)(d:Nb X body tb)(hp:PassesOwn (i3 X.prog X.w) X.A X.env X.xe:=by exact PassesOwn.never)(f:X.calm=b8:=by rfl)(hs:∀x,j5 iter X.env x=pure x:=by intro _;rfl):DS X (.For tg iter body [] pos) (lE di g tb):=PS.imp (Jv hp f hi R d hs) DO
noncomputable def Ls(t:Nat)(s:List Nat)(S:SD):SD:=PN t b7++s.map λj=>(S[j]?).join
def oX(ok:w6->Prop)(g:L6)(tt:H9)(te:A3)(Q:DK):List D->List D->SD->w6->Prop
 | [],acc,S,M=>ok M/\Q (.ref M.length) (M++[.lst acc])
 |x::xs,acc,S,M=>ok M/\g x S M λS2 M2=>tt S2 M2 λb M3=>if b=b8 then te S2 M3 λy M4=>acc.length<sizeLine/\oX ok g tt te Q xs (acc++[y]) S2 M4 else oX ok g tt te Q xs acc S2 M3
def F6(t:Nat)(s:List Nat)(i:Mv)(g:L6)(tt:H9)(te:A3):A3:=λS M Q=>i S M λsrc a=>oX src.ok g tt te Q src.items [] (Ls t s S) a
theorem SRep.bst{K:w9}{ρ:List c8}{H:Hp}{S:SD}{σ:St}(r:SRep K ρ H S σ)(t:Nat)(s:List Nat):SRep K ρ H (Ls t s S) (L2.bst t s σ):=by
 refine⟨by simp[Ls,Ch],λi d e=>?_⟩;unfold Ls at e;unfold L2.bst;by_cases hi:i<t;rw[LR (by simpa using hi),QQ]at e;simp[hi]at e;rw[Mr (by simpa using Np.mp hi),QM,D8]at e;rw[Mr (by simpa using Np.mp hi),QM,D8];cases q:s[i-t]? with
 |none=>rw[q]at e;cases e
 |some j =>
  rw[q]at e;have a:(S[j]?).join=a9 d:=by simpa using e
  cases b:S[j]? with
  |none=>rw[b]at a;cases a
  |some o=>rw[b]at a;have l:o=a9 d:=a;subst l;obtain⟨v,c,f⟩:=r.get j d b;exact⟨v,by simp[c],f⟩
theorem AX{K:w9}{D:Nat}{C:List Nat}{T:Mv}{g:L6}{tt:H9}{te:A3}(σ:St)(H:Hp)(R:VK)(h:lowE K (F6 D C T g tt te) σ H R):Q6 D C (lowI K T) (lowG K g) (lowT K tt) (lowE K te) σ H R:=by
 obtain⟨S,M,ρ,Q,s,W,q,k⟩:=h;refine⟨S,M,ρ,_,s,W,q,?_⟩;rintro J X ⟨src,M1,r,s1,g1,it,q1⟩;refine⟨λi m vs τ c=>∃l M2 a acc,z6 K a M2 c/\Grow K r X a c/\SRep K a c l τ/\Reps K a c acc vs/\i<=src.items.length/\m=src.items.length-i/\oX src.ok g tt te Q (src.items.drop i) acc l M2,⟨_,_,M1,r,[],s1,.refl,(W.grow g1).bst D C,.nil,A8 _,rfl,q1⟩,?_⟩;rintro i m vs τ c ⟨l,M2,a,acc,z,o,G,w,hi,rfl,u⟩;by_cases t:i<src.items.length;have U:src.items[i]?=a9 src.items[i]:=A5 t;rw[uD U]at u;obtain⟨ok,E⟩:=(show src.ok M2/\g src.items[i] l M2 _ from u)
 refine .inr ⟨it.go i a M2 c z o ok t,λx Y y=>?_⟩;obtain⟨d,L,hd,s3,g3,r3⟩:=it.yld i a M2 c x Y z o ok t y;have ed:d=src.items[i]:=D2<|hd.symm.trans U;subst ed;refine⟨_,l,M2,L,_,s3,G.grow g3,r3,E,?_⟩;rintro ag H4 ⟨f,M4,N,s4,A,I,q4⟩;refine⟨f,M4,N,_,s4,I,q4,?_⟩;rintro b H5 ⟨Z,O,s5,j,V⟩;have n:=((o.trans g3).trans A).trans j;cases b with
 |false=>exact dg ⟨_,by lia,f,Z,O,acc,s5,n,I.grow j,w.grow<|(g3.trans A).trans j,t,rfl,(show oX src.ok g tt te Q (src.items.drop<|i+1) acc f Z from V)⟩
 |true=>refine dN ⟨f,Z,O,_,s5,I.grow j,(show te f Z _ from V),?_⟩;rintro v H6 ⟨y',M6,P,s6,B,r6,hl,q6⟩;have F:=w.grow<|((g3.trans A).trans j).trans B;exact⟨by rw[<-w.length];exact hl,_,by lia,f,M6,P,acc++[y'],s6,n.trans B,I.grow<|j.trans B,F.append<|.cons r6 .nil,t,rfl,q6⟩
 have e:i=src.items.length:=by lia
 subst e;rw[List.drop_of_length_le<|x5 _]at u;obtain⟨ok,E⟩:=(show src.ok M2/\Q (.ref M2.length) (M2++[.lst acc])from u)
 exact .inl ⟨it.stop a M2 c z o ok,λp hp=>k _ _<|VQ.laidL z (g1.trans o) w hp E⟩
theorem d_lc(B:BlkSc X N' nt js scope)(hi:DI X tg iter di)(R:∀cl s0 H0 ex,DG (C8 X N' scope cl s0 H0 ex) tg g) (t:∀cl s0 H0 ex,Nm (C8 X N' scope cl s0 H0 ex) ifs<|lowT X.K tt) (i:∀cl s0 H0 ex,DE (C8 X N' scope cl s0 H0 ex) elt te) (f:X.calm=b8:=by rfl)(hs:∀x,j5 iter X.env x=pure x:=by intro _;rfl):DE X (.ListComp elt [⟨tg,iter,ifs,0⟩] scope pos) (F6 nt js di g tt te):=PE.imp (pe_lc (g:=lowG X.K g) (tt:=lowT X.K tt) (te:=lowE X.K te) B f hi (λcl s0 H0 ex=>R cl s0 H0 ex) t (λcl s0 H0 ex=>i cl s0 H0 ex) hs) AX
def oH:H9:=λ_ M Q=>Q b8 M
theorem Ih:Nm X [] (lowT X.K oH):=λp s σ H R I ⟨S,M,ρ,Q,m,b,q,k⟩=>Gp p s σ H R I<|k b8 H ⟨M,ρ,m,.refl,q⟩
theorem Ig(h:DT X c t):Nm X [c] (lowT X.K t):=Go h
def Pz(M a:w6):Prop:=a.length=M.length/\∀(i:Nat) (m:MO),a[i]?=a9 m->M[i]?=a9 m\/Bels M.length m.items
theorem Pz.refl:Pz M M:=⟨rfl,λ_ _ h=>.inl h⟩
def aZ(M:w6)(R:DK):DK:=λd b=>R d b\/(∃a,Pz M a/\E6 M.length d/\a <+: b/\R d a)\/∃a n xs,Pz M a/\d=.ref n/\M.length<=n/\b[n]?=a9 (.lst xs)/\a <+: b/\Bels M.length xs/\R (.ref M.length) (a++[.lst xs])
theorem eH{α:Type}{l l':List α}(h:l <+: l'):l'.take l.length=l:=by obtain⟨t,rfl⟩:=h;rw[List.take_append_of_le_length<|x5 _,MA]
theorem VQ.endq{K:w9}{ρ:List c8}{M:w6}{H:Hp}{R:DK}{v:V}{H':Hp}(s:z6 K ρ M H)(h:VQ K ρ H (aZ M R) v H'):VQ K ρ H R v H':=by
 obtain⟨d,E,D,s',x,r',Y⟩:=h;have k:D.take M.length=ρ:=by rw[<-s.len];exact eH x.pre
 rcases Y with q|⟨g,c,b,f,q⟩|⟨g,n,xs,c,rfl,X,e,f,b,q⟩
 exact⟨d,E,D,s',x,r',q⟩;have i:=s'.cut M.length λn r w e=>by
  have G:g[n]?=a9 r:=by obtain⟨t,rfl⟩:=f;rw[LR<|by rw[c.1];exact w]at e;exact e
  exact(c.2 n r G).elim (λz=>s.bels z) id
 have O:E.take M.length=g:=by rw[<-c.1];exact eH f
 rw[k,O]at i;have C:=r'.cut b;rw[k]at C;exact⟨d,g,ρ,i,⟨Mz,x.tup⟩,C,q⟩;have i:=s'.cut M.length λn r w e=>by
  have G:g[n]?=a9 r:=by obtain⟨t,rfl⟩:=f;rw[LR<|by rw[c.1];exact w]at e;exact e
  exact(c.2 n r G).elim (λz=>s.bels z) id
 have O:E.take M.length=g:=by rw[<-c.1];exact eH f
 rw[k,O]at i;obtain⟨a,rfl,w⟩:=v9.inv_ref r';obtain⟨vs,T,Z⟩:=s'.obj n a _ w e;have C:=Z.cut b;rw[k]at C;have Q:Grow K ρ H' (ρ++[a]) H':=⟨Mc _ _,λ_ _ h=>h⟩
 have B:∀(m:Nat),ρ[m]?=a9 a->Mj g[m]?:=λm J=>by
  have W:m≠n:=λz=>by
   have:m<M.length:=by rw[<-s.len];exact(C2.mp J).1
   lia
  have q:=s'.nd m n a W (ar x.pre J) w;have L:m<M.length:=by rw[<-s.len];exact(C2.mp J).1
  rcases q with⟨ds,z⟩|⟨ds,z⟩
  refine⟨ds,?_⟩;have o:m<g.length:=by rw[c.1];exact L
  have:=ar f<|A5 o;rw[z]at this;rw[A5 o];exact this.symm;rw[e]at z;cases z
 refine⟨.ref M.length,g++[.lst xs],ρ++[a],⟨λA U F y I l=>?_,by rw[B6,B6,i.len];rfl,λA F r I l=>?_⟩,⟨Mc _ _,x.tup⟩,.ref (by have:=i.last (p:=a);rw[c.1]at this;exact this),q⟩;rcases bc I with j|⟨j,P⟩
 rcases bc l with u|⟨u,S⟩
 exact(i.nd A U F y j u).elim (λz=>.inl z.more) λz=>.inr z.more;subst S;exact .inl (B A j).more;rcases bc l with u|⟨u,S⟩
 subst P;exact .inr (B U u).more;exact t7 (j.trans u.symm) y;rcases bc I with j|⟨j,P⟩
 have N:A<g.length:=by rw[<-i.len];exact(C2.mp j).1
 rw[LR N]at l;exact(i.obj A F r j l).grow Q<|.inl rfl;subst P j;rw[i.len,Mr<|x5 _,NC]at l;simp at l;subst l;exact⟨vs,T,C.grow Q⟩
noncomputable def fW(N:List c5)(ds:List D):SD:=ds.map a9++PN (N.length-ds.length) b7
theorem SRep.start{K:w9}{ρ:List c8}{H:Hp}{ds:List D}{vs:List V}(r:Reps K ρ H ds vs)(N:List c5):SRep K ρ H (fW N ds) (L2.start N vs):=by
 refine⟨by simp[fW,L2.start,r.length],λi d e=>?_⟩;unfold fW at e;unfold L2.start;by_cases hi:i<ds.length;rw[LR (by simpa using hi),D8]at e;rw[LR (by simpa [<-r.length]using hi),D8];have a:ds[i]?=a9 d:=by rw[A5 hi]at e ⊢;simpa using e
 obtain⟨v,c,b⟩:=r.get a;exact⟨v,by rw[c];rfl,b⟩;rw[Mr (by simpa using Np.mp hi),QQ]at e;split at e<;>cases e
theorem d_fn{P:c7}{w:c6}{K:w9}{mg:c5->Option c3}{base:d5}{x l:c5}{st:i6}{f:c8}{e:k5}{N ps:List c5}{k:Nat}(d:A7)(F:MQ K x l st f e)(i:FnScope N ps (aB st))(B:∀ds M R,d ds M R->ds.length=ps.length)(y:∀(cdv:c3) (A:f7) (outer:List Env) (s:f8) (H:Hp) (E:XK),Room k (A.deeper<|m5 l (aB st) s.heap.objs.size f cdv) -> ∃t,Nb (zi LV P w K mg base N l (aB st) f cdv A outer s H E).nox (cr st) t/\∀ds M R,d ds M R->t ⟨λ_ M'=>aZ M R .non M',aZ M R,λ_ _=>False,λ_ _=>False⟩ (fW N ds) M):FnOk P w K mg base LV (k+1) f e ps (MN K d):=by refine F.ok i (λvs H Q E ⟨ds,M,ρ,R,s,r,q,_⟩=>by rw[<-r.length];exact B ds M R q) λcdv A outer s H vs Q E o h=>?_;obtain⟨ds,M,ρ,R,m,r,q,C⟩:=h;obtain⟨t,p,n⟩:=y cdv A outer s H E o;refine⟨lowS K t,p,fW N ds,M,ρ,_,m,SRep.start r N,n ds M R q,⟨λc H' ⟨S,M',a,s',g,b,j⟩=>?_,λv H' z=>C v H'<|VQ.endq m z,λc H' ⟨S,M',a,s',g,b,j⟩=>j.elim,λc H' ⟨S,M',a,s',g,b,j⟩=>j.elim⟩⟩;exact C .non H'<|VQ.endq m ⟨.non,M',a,s',g,.non,j⟩
end
theorem dfin(I:v4 X pins σ H s)(m:z6 X.K ρ M H)(k:∀v H',VQ X.K ρ H Q v H'->R v H')(c:cV d=a9 v)(r:aN v u)(q:Q d M):EP X pins σ R u s:=⟨v,H,I,r,k v H<|VQ.now m (Cf c) q⟩
theorem jg(I:v4 X pins σ H s)(m:z6 X.K ρ M H)(k:∀v H',VQ X.K ρ H Q v H'->R v H')(q:Q (.bl b) M):EP X pins σ R (.bool b) s:=⟨.bl b,H,I,rfl,k _ H<|VQ.now m (.bl b) q⟩
def qAdd:G2:=λx y M Q=>match x,y with
 |.int i,.int j=>Q (.int<|i+j) M
 |.str a,.str b=>a.length+b.length<=sizeLine/\Q (.str<|a++b) M
 |.ref n,.ref m=>∃xs ys,M[n]?=a9 (.lst xs)/\M[m]?=a9 (.lst ys)/\xs.length+ys.length<=sizeLine/\Q (.ref M.length) (M++[.lst<|xs++ys])
 |_,_=>False
theorem JY:G9 X (j6 .Add) qAdd:=by refine E5.imp (JQ.or<|yq.or JP) ?_;rintro v b H R ⟨x,y,M,ρ,Q,m,r,n,q,k⟩;unfold qAdd at q;split at q;cases r;cases n;exact .inl ⟨_,_,rfl,rfl,k _ H<|VQ.now m (.int _) q⟩;cases r;cases n;exact .inr<|.inl ⟨_,_,rfl,rfl,q.1,k _ H<|VQ.now m (.str _) q.2⟩;obtain⟨xs,ys,t,l,g,q⟩:=q;obtain⟨_,rfl,h1⟩:=v9.inv_ref r;obtain⟨_,rfl,h2⟩:=v9.inv_ref n;obtain⟨vs,f,g1⟩:=m.obj _ _ _ h1 t;obtain⟨s,a,c⟩:=m.obj _ _ _ h2 l;exact .inr<|.inr ⟨_,_,vs,s,rfl,rfl,f,a,by rw[<-g1.length,<-c.length];exact g,λp hp=>k _ _<|VQ.laidL m .refl (g1.append c) hp q⟩;exact q.elim
def IJ:G2:=λx y M Q=>match x,y with
 |.int i,.int j=>Q (.int<|i-j) M
 |_,_=>False
theorem JT:G9 X (j6 .Sub) IJ:=by refine E5.imp JK ?_;rintro f g H R ⟨x,y,M,ρ,Q,m,r,n,q,k⟩;unfold IJ at q;split at q;cases r;cases n;exact⟨_,_,rfl,rfl,k _ H<|VQ.now m (.int _) q⟩;exact q.elim
def rQ(i j:Int):Prop:=0<j/\j<340282366920938463463374607431768211456
theorem Do:E5 X (j6 .FloorDiv) (rI rQ λi j=>.int<|i / j):=Pi λi j _ _ _ _ _ f q=>by have h1:(0:Int)<j:=f.1;have h2:j<340282366920938463463374607431768211456:=f.2;have a:j.natAbs.log2<128:=(Nat.log2_lt<|by lia).mpr (by rw[show (2:Nat) ^ 128=340282366920938463463374607431768211456 by decide];lia);exact floordiv_int (by lia) (by rw[Int.fdiv_eq_ediv_of_nonneg i<|by lia];exact q)<|.inl<|PyProof.noPylong_of_log2<|by lia
def aO:G2:=λx y M Q=>match x,y with
 |.int i,.int j=>rQ i j/\Q (.int<|i / j) M
 |_,_=>False
theorem GO:G9 X (j6 .FloorDiv) aO:=by refine E5.imp Do ?_;rintro f g H R ⟨x,y,M,ρ,Q,m,r,n,q,k⟩;unfold aO at q;split at q;cases r;cases n;exact⟨_,_,rfl,rfl,q.1,k _ H<|VQ.now m (.int _) q.2⟩;exact q.elim
def bY:G2:=λx y M Q=>match x,y with
 |.int i,.int j=>0<j/\Q (.int<|i % j) M
 |_,_=>False
theorem JW:G9 X (j6 .Mod) bY:=by refine E5.imp JO ?_;rintro f g H R ⟨x,y,M,ρ,Q,m,r,n,q,k⟩;unfold bY at q;split at q;cases r;cases n;exact⟨_,_,rfl,rfl,q.1,k _ H<|VQ.now m (.int _) q.2⟩;exact q.elim
noncomputable def iM(a b:c5):Bool:=decide<|a.cps.toList<b.cps.toList
def M8:G2:=λx y M Q=>match x,y with
 |.int i,.int j=>Q (.bl<|decide<|i<j) M
 |.str a,.str b=>Q (.bl<|iM a b) M
 |_,_=>False
def OH:G2:=λx y M Q=>match x,y with
 |.int i,.int j=>Q (.bl<|decide<|i<=j) M
 |.str a,.str b=>Q (.bl<|!iM b a) M
 |_,_=>False
def Nl:G2:=λx y M Q=>match x,y with
 |.int i,.int j=>Q (.bl<|decide<|j<i) M
 |.str a,.str b=>Q (.bl<|iM b a) M
 |_,_=>False
theorem od_lt:G9 X (j7 .Lt) M8:=by rintro p s σ H f a v u R I g i ⟨x,y,M,ρ,Q,m,r,n,q,k⟩;unfold M8 at q;split at q;cases r;cases n;exact op_lt p s σ H _ _ v u R I g i ⟨_,_,rfl,rfl,k _ H<|VQ.now m (.bl _) q⟩;cases r;cases n;obtain⟨t,rfl⟩:=g;obtain⟨t',rfl⟩:=i;exact PySem.P.lt_str<|jg I m k q;exact q.elim
theorem od_le:G9 X (j7 .LtE) OH:=by rintro p s σ H f a v u R I g i ⟨x,y,M,ρ,Q,m,r,n,q,k⟩;unfold OH at q;split at q;cases r;cases n;exact op_le p s σ H _ _ v u R I g i ⟨_,_,rfl,rfl,k _ H<|VQ.now m (.bl _) q⟩;cases r;cases n;obtain⟨t,rfl⟩:=g;obtain⟨t',rfl⟩:=i;exact PySem.P.le_str<|jg I m k q;exact q.elim
theorem od_gt:G9 X (j7 .Gt) Nl:=by rintro p s σ H f a v u R I g i ⟨x,y,M,ρ,Q,m,r,n,q,k⟩;unfold Nl at q;split at q;cases r;cases n;exact op_gt p s σ H _ _ v u R I g i ⟨_,_,rfl,rfl,k _ H<|VQ.now m (.bl _) q⟩;cases r;cases n;obtain⟨t,rfl⟩:=g;obtain⟨t',rfl⟩:=i;exact PySem.P.gt_str<|jg I m k q;exact q.elim
def Pg:G2:=λx y M Q=>match x,y with
 |.bl a,.bl b=>Q (.bl<|a==b) M
 |.non,.non=>Q (.bl b8) M
 |_,.non=>Q (.bl b9) M
 |_,_=>False
def tL:G2:=λx y M Q=>match x,y with
 |.bl a,.bl b=>Q (.bl<|a != b) M
 |.non,.non=>Q (.bl b9) M
 |_,.non=>Q (.bl b8) M
 |_,_=>False
theorem Ao{K:w9}{ρ:List c8}{H:Hp}{x:D}{v:V}(r:v9 K ρ H x v)(h:x≠.non):v≠.non:=by cases r<;>first|exact t7 rfl h|(intro z;cases z)
theorem od_is:G9 X (j7 .Is) Pg:=by
 rintro p s σ H f a v u R I g i ⟨x,y,M,ρ,Q,m,r,n,q,k⟩;unfold Pg at q;split at q;cases r;cases n;cases g;cases i;exact is_bool<|jg I m k q;cases r;cases n;cases g;cases i;exact is_none_gen<|dfin (d:=.bl b8) I m k rfl rfl q;rename_i h1 h2;cases n;cases i;refine is_none_gen<|dfin (d:=.bl b9) I m k rfl ?_ q;have:=Ao r λz=>by subst z;exact h2 rfl
 rw[g.none_iff,dF_ this];rfl;exact q.elim
theorem Du:G9 X (j7 .IsNot) tL:=by
 rintro p s σ H f a v u R I g i ⟨x,y,M,ρ,Q,m,r,n,q,k⟩;unfold tL at q;split at q;cases r;cases n;cases g;cases i;exact isnot_bool<|jg I m k q;cases r;cases n;cases g;cases i;exact isnot_none_gen<|dfin (d:=.bl b9) I m k rfl rfl q;rename_i h1 h2;cases n;cases i;refine isnot_none_gen<|dfin (d:=.bl b8) I m k rfl ?_ q;have:=Ao r λz=>by subst z;exact h2 rfl
 rw[g.none_iff,dF_ this];rfl;exact q.elim
noncomputable def tyD(M:w6):D->String
 |.non=>"NoneType"
 |.bl _=>"bool"
 |.int _=>"int"
 |.str _=>"str"
 |.ty _=>"type"
 |.tup _=>"tuple"
 |.ref n=>match M[n]? with
  |some mo=>if mo.isL=b8 then "list" else "?"
  |none=>"?"
def ir:D6:=λds M Q=>match ds with
 | [.str x]=>x.length<=sizeLine/\Q (.int x.length) M
 | [.tup xs]=>Q (.int xs.length) M
 | [.ref n]=>∃xs,aq M n xs/\Q (.int xs.length) M
 |_=>False
theorem LG:kI X (.builtin "len") ir:=by
 refine gP.imp (uN.or uM) ?_;rintro vs H R ⟨ds,M,ρ,Q,m,a,q,k⟩;unfold ir at q;split at q
 first|have z:=Reps.inv_cons a|have z:=az.inv_cons a
 clear a;obtain⟨_,_,rfl,b,a⟩:=z;cases a;cases b;exact .inr ⟨_,rfl,q.1,k _ H<|VQ.now m (.int _) q.2⟩
 first|have z:=Reps.inv_cons a|have z:=az.inv_cons a
 clear a;obtain⟨_,_,rfl,b,a⟩:=z;cases a;cases b with
 |tup h r=>exact .inl ⟨_,_,rfl,.inr h,k _ H<|VQ.now m (by rw[<-r.length];exact .int _) q⟩
 obtain⟨xs,L,q⟩:=q
 first|have z:=Reps.inv_cons a|have z:=az.inv_cons a
 clear a;obtain⟨_,_,rfl,b,a⟩:=z;cases a;obtain⟨_,rfl,e⟩:=v9.inv_ref b;obtain⟨s,c,r⟩:=aq.seq m L e;exact .inl ⟨_,_,rfl,.inl c,k _ H<|VQ.now m (by rw[<-r.length];exact .int _) q⟩;exact q.elim
noncomputable def bls(s:List Bool):List D:=s.map .bl
theorem Reps.bls{K:w9}{ρ:List c8}{H:Hp}:∀{bs:List Bool}{vs:List V},Reps K ρ H (L2.bls bs) vs->vs=bs.map V.bl
 | [],_,h=>by cases h;rfl
 |b::bs,_,h=>by
  cases h with
  |cons r t=>cases r;rw[Reps.bls t];rfl
theorem wy:∀{bs:List Bool}{us:List c3},az (bs.map V.bl) us->us=bs.map Nr
 | [],_,h=>by cases h;rfl
 |b::bs,_,h=>by
  cases h with
  |cons r t=>cases r;rw[wy t];rfl
theorem zb{pins:List (c8×c9)}{σ:St}{H:Hp}{s:f8}{a:c8}{c:List Bool}{G:f8->Prop}(I:v4 X pins σ H s)(z:X.calm=b8)(C:K2 X.K H a (c.map V.bl))(j:∀s',v4 X pins σ H s'->G s'):∀(E:c3->f8->Prop),g9 (i3 X.prog X.w) X.A.in1 (j3<|.ref a) (λit s₂=>∃I fp wr n P St tr,it=AAu I/\Walks X.prog X.w X.A.in1 I fp wr n P St/\St 0 s₂.heap/\TruthOf X.prog X.w X.A.in1 P tr /\ (n=c.length/\(∀i,i<c.length->tr i=c.getD i b9))/\∀h' tk,(∀b o,b∉wr->s₂.heap.get? b=a9 o->h'.get? b=a9 o)->G { s₂ with heap:=h',toks:=tk }) E s:=by
 intro E;obtain⟨its,F,p,L⟩:=I.list C;have d:=wy F;subst d;have l:=p.isList;have t:a<s.heap.objs.size:=by obtain⟨o,n,e,_⟩:=p;exact A4 e
 refine wpAny_pyIter_list l ?_;have k:v4 X pins σ H { s with heap:=s.heap.push { cls:=.type "list_iterator",data:=.fields #[.ref a,.int 0 0] } }:=I.kept (t':=s.toks) λb o e=>A1 _ e;refine⟨s.heap.objs.size,_,_,_,_,_,λi=>c.getD i b9,rfl,Walks.list (A:=X.A.in1) (I.ok.hd z) s.heap.objs.size a (A9 t) (c.map Nr).toArray,⟨⟨_,C0 _ rfl,rfl,rfl⟩,l.push _⟩,?_,⟨by simp,λi _=>rfl⟩,λh' tk D=>?_⟩;intro i v s' Q' J B Q;have h:(c.map Nr).toArray[i]?=a9 v:=B;rw[List.getElem?_toArray,D8]at h;cases e:c[i]? with
 |none=>rw[e]at h;cases h
 |some b =>
  rw[e]at h;cases h;refine OC ?_;have:c.getD i b9=b:=by rw[L5,e];rfl
  have g:Q' (c.getD i b9) s':=Q;rw[this]at g;exact g
 have f:=I.fpOk (H':=H) (x5 _)<|I.hok.fresh<|x5 _;obtain⟨m,q,M,r,u,y⟩:=f;exact j _<|k.turned (t':=tk) (it:=s.heap.objs.size) (λb o x e=>D b o (by simpa using x) e) m q r u y
theorem Cn{s:List Bool}{tr:Nat->Bool}(h:∀i,i<s.length->tr i=s.getD i b9):(C9 s.length).any tr=s.any id:=by rw[Qs,MV,MV];constructor;rintro⟨i,hi,g⟩;have a:=K0.mp hi;rw[h i a,L5,A5 a]at g;exact⟨_,MU a,g⟩;rintro⟨b,hb,g⟩;obtain⟨i,hi,e⟩:=List.mem_iff_getElem.mp hb;refine⟨i,K0.mpr hi,?_⟩;rw[h i hi,L5,A5 hi,e];exact g
def IK:D6:=λds M Q=>match ds with
 | [.ref n]=>∃s,aq M n (bls s)/\Q (.bl<|s.any id) M
 |_=>False
theorem LH(i:X.calm=b8:=by rfl):kI X (.builtin "any") IK:=by
 rintro p s σ H vs us R I v ⟨ds,M,ρ,Q,m,a,q,k⟩;unfold IK at q;split at q;obtain⟨c,L,q⟩:=q
 first|have z:=Reps.inv_cons a|have z:=az.inv_cons a
 clear a;obtain⟨_,_,rfl,l,a⟩:=z;cases a;obtain⟨u,rfl,t⟩:=az.one v;obtain⟨_,rfl,e⟩:=v9.inv_ref l;cases t;obtain⟨y,h,r⟩:=aq.seq m L e;rw[r.bls]at h;refine call_any_walk<|A2 (zb (G:=λs'=>EP X p σ R (.bool<|c.any id) s') I i h (λs' b=>jg b m k q) _) ?_;rintro it x ⟨J,C,w,n,P,Sx,tr,t,W,st,T,⟨d,g⟩,f⟩;subst d;exact⟨J,C,w,_,P,Sx,tr,t,W,st,T,λh' o j=>by rw[Cn g];exact f h' o j⟩;exact q.elim
end L2
namespace L2
open PySem PySem.Spec PyProof.Rows DL _root_.HT
theorem rB{t p:c8}{i:Array c3}{l u:c3}{lo hi:Option Int}{Q:c3->f8->Prop}(B:IsTup s.heap t i)(hs:s.heap.IsSliceOf p l u .none)(f:m6 l lo)(g:m6 u hi)(d:sIx i.size 0 lo=0/\sIx i.size i.size hi=i.size) (h:Q (.ref t) s):g9 (i3 prog w) A (m7 (.ref t)<|.ref p) Q E s:=by
 obtain⟨o,b,c,e⟩:=id hs;have a:s.TypeIs (.ref p) "slice":=⟨o,b,c⟩
 unfold m7
 try with_reducible refine F3 ?_
 first|refine u7 (u9 ?_)|skip
 refine u7<|wpAny_sequenceKey B.typeIs (by decide)<|u7<|MM (name:=v6 "__getitem__") B.typeIs Pd<|J4 Pd B.typeIs entry_tuple_getitem ?_<|args_tuple_getitem _ _;refine(show g9 (i3 prog w) _ (QX (.ref t) >>= _) _ _ s from u7<|tupleItemsOf_ B<|u7<|MH a ?_);rw[t5<|by decide];refine u7<|fU hs f g ?_;refine(show g9 (i3 prog w) _ (if (((sIx i.size 0 lo:Nat):Int)==0&&(1:Int)==1&&(sIx i.size i.size hi-sIx i.size 0 lo)==i.size)=b8 then _ else _) _ _ s from ?_);rw[t5<|by rw[d.1,d.2];simp];unfold Builtin.Tuple.tupleIsExact;refine u7<|u7<|MH B.typeIs<|u9 ?_;rw[t5<|by decide];exact u7<|K9<|u9 ⟨_,rfl,u9 h⟩
end L2
namespace L2
open PySem PySem.Spec PyProof.Rows DL
section
variable{X:Cx}{a b:h7}{ta tb:A3}{pos:Pos}
theorem Mt.imp(h:Mt X r')(i:∀x y H R,r x y H R->r' x y H R):Mt X r:=λa e p s σ H x y v u R I g b q hs=>h a e p s σ H x y v u R I g b (i x y H R q) hs
theorem Reps.atI{K:w9}{ρ:List c8}{H:Hp}{ds:List D}{vs:List V}{i:Int}{d:D}(r:Reps K ρ H ds vs)(h:L2.atI ds i=a9 d):∃v,L2.atI vs i=a9 v/\v9 K ρ H d v:=by
 unfold L2.atI at h ⊢;rw[r.length]at h;cases e:M9 vs.length i with
 |none=>rw[e]at h;cases h
 |some j=>rw[e]at h;obtain⟨v,c,a⟩:=r.get<|show ds[j]?=a9 d from h;exact⟨v,c,a⟩
def z5:G2:=λx y M Q=>match x,y with
 |.tup xs,.int i=>match L2.atI xs i with
  |some d=>Q d M
  |none=>False
 |.str z,.int i=>z.length<=sizeLine/\match L2.atI z.cps.toList i with
  |some c=>Q (.str ⟨#[c]⟩) M
  |none=>False
 |.ref n,.int i=>∃xs,aq M n xs/\match L2.atI xs i with
  |some d=>Q d M
  |none=>False
 |_,_=>False
theorem Hy:Mt X (lowR X.K z5):=by refine Mt.imp KD ?_;rintro p s H R ⟨x,y,M,ρ,Q,m,b,f,q,k⟩;unfold z5 at q;split at q;rename_i xs i;split at q;rename_i d e;cases f;obtain⟨_,_,rfl,h,r⟩:=v9.inv_tup b;obtain⟨v,a,g⟩:=r.atI e;exact .inr<|.inl ⟨_,_,_,v,rfl,rfl,h,a,k _ H<|VQ.now m g q⟩;exact q.elim;rename_i z i;obtain⟨o,q⟩:=q;split at q;rename_i c e;cases f;cases b;exact .inr<|.inr ⟨z,i,c,rfl,rfl,o,e,k _ H<|VQ.now m (.str _) q⟩;exact q.elim;rename_i n i;obtain⟨xs,L,q⟩:=q;split at q;rename_i d e;cases f;obtain⟨_,rfl,j⟩:=v9.inv_ref b;obtain⟨vs,l,r⟩:=aq.seq m L j;obtain⟨v,a,g⟩:=r.atI e;exact .inl ⟨_,_,_,v,rfl,rfl,l,a,k _ H<|VQ.now m g q⟩;exact q.elim;exact q.elim
theorem d_ix(f:DE X a ta)(d:DE X b tb)(hs:wv b:=by intro _ _;rfl):DE X (.Subscript a b pos) (u8 z5 ta tb):=PE.imp (pe_ix Hy f d hs) qS
abbrev Ol:=SD->w6->(Option Int->w6->Prop)->Prop
def Kc(K:w9)(t:Ol):TO:=λσ H R=>∃S M ρ Q,z6 K ρ M H/\SRep K ρ H S σ/\t S M Q/\∀o H',(∃b a,z6 K a b H'/\Grow K ρ H a H'/\Q o b)->R o H'
def kE:Ol:=λ_ M Q=>Q b7 M
def oW(t:A3):Ol:=λS M Q=>t S M λx a=>match x with
 |.int i=>Q (a9 i) a
 |_=>False
theorem PO.imp(h:PO X e t')(i:∀σ H R,t σ H R->t' σ H R):PO X e t:=λp s σ H R I q=>h p s σ H R I<|i σ H R q
theorem Io:PO X b7 (Kc X.K kE):=by refine PO.imp Gx ?_;rintro σ H R ⟨S,M,ρ,Q,s,b,q,k⟩;exact k b7 H ⟨M,ρ,s,.refl,q⟩
theorem Im(h:DE X e te):PO X (a9 e) (Kc X.K<|oW te):=by
 refine PO.imp (Gw h) ?_;rintro σ H R ⟨S,M,ρ,Q,s,j,q,k⟩;refine⟨S,M,ρ,_,s,j,q,?_⟩;rintro v b ⟨d,f,c,g,g1,r,a⟩;cases r with
 |int i=>exact⟨i,rfl,k _ b ⟨f,c,g,g1,a⟩⟩
 |_=>exact a.elim
theorem Jh:Pq X (λx lo hi H Q=>∃z,x=.str z/\z.length<=sizeLine/\Q (.str<|Md z lo hi) H):=by
 intro b s σ H x v w y lo hi n Q I r hs f m h;obtain⟨z,rfl,d,q⟩:=h;obtain⟨t,rfl⟩:=r;have a:∀{v:c3}{o:Option Int},m6 v o->∃p:Option (Int×Tok),v=partValue p/\p.map (·.1)=o:=λh=>by
  cases h with
  |none=>exact⟨b7,rfl,rfl⟩
  |int i t=>exact⟨a9 (i,t),rfl,rfl⟩
 obtain⟨g,rfl,e⟩:=a f;obtain⟨j,rfl,c⟩:=a m;subst e c;refine⟨"str",_,slot_str_getitem.lookup,On _ _ _,wpAny_getItem_str_slice (l:=g) (u:=j) (st:=b7) hs rfl ?_⟩;exact post_val_or_str ⟨J7 (Txt.slice_le z _ _) d,λt' k=>⟨.str _,H,I.tok k,⟨t',rfl⟩,q⟩⟩
noncomputable def cutD(xs:List D)(lo hi:Option Int):List D:=(xs.drop<|HT.sIx xs.length 0 lo).take<|HT.sIx xs.length xs.length hi-HT.sIx xs.length 0 lo
theorem Reps.cutD{K:w9}{ρ:List c8}{H:Hp}{ds:List D}{vs:List V}(r:Reps K ρ H ds vs)(lo hi:Option Int):Reps K ρ H (L2.cutD ds lo hi) (FO vs lo hi):=by unfold L2.cutD FO;rw[r.length];exact(r.drop _).take _
def Qg:D->Option Int->Option Int->w6->DK->Prop:=λx l hi M Q=>match x with
 |.str z=>z.length<=sizeLine/\Q (.str<|Md z l hi) M
 |.ref n=>∃xs,aq M n xs/\Q (.ref M.length) (M++[.lst<|cutD xs l hi])
 |.tup xs=>Q (.tup<|cutD xs l hi) M
 |_=>False
def lowSl(K:w9)(r:D->Option Int->Option Int->w6->DK->Prop):V->Option Int->Option Int->Hp->VK->Prop:=λf l hi H R=>∃x M ρ Q,z6 K ρ M H/\v9 K ρ H x f/\r x l hi M Q/\∀v H',VQ K ρ H Q v H'->R v H'
theorem sld:Pq X (lowSl X.K Qg):=by
 rintro b s σ H x v j o l hi i R I g hs c u ⟨d,M,ρ,Q,m,f,q,k⟩;unfold Qg at q;split at q;cases f;exact Jh b s σ H _ v j o l hi i R I g hs c u ⟨_,rfl,q.1,k _ H<|VQ.now m (.str _) q.2⟩;obtain⟨xs,L,q⟩:=q;obtain⟨_,rfl,t⟩:=v9.inv_ref f;obtain⟨vs,y,r⟩:=aq.seq m L t;exact Gc b s σ H _ v j o l hi i R I g hs c u ⟨_,vs,rfl,y,λp hp=>k _ _<|VQ.laidL m .refl (r.cutD l hi) hp q⟩;obtain⟨_,_,rfl,h,r⟩:=v9.inv_tup f;rename_i xs a vs;by_cases w:HT.sIx xs.length 0 l=0/\HT.sIx xs.length xs.length hi=xs.length;cases g;obtain⟨its,z,B,A⟩:=I.tuple h;have n:its.toArray.size=xs.length:=by rw[B5,r.length];exact z.length.symm
 have e:L2.cutD xs l hi=xs:=by unfold L2.cutD;rw[w.1,w.2,List.drop_zero,Nat.sub_zero,MA]
 rw[e]at q;exact⟨"tuple",_,Pd.lookup,B.typeIs,rB B hs c u (by rw[n];exact w) ⟨.ref _,H,I,rfl,k _ H<|VQ.now m (.tup h r) q⟩⟩;exact Jg b s σ H _ v j o l hi i R I g hs c u ⟨_,_,rfl,h,by rw[<-r.length];exact w,λp hp=>k _ _<|VQ.laidT m .refl (r.cutD l hi) hp q⟩;exact q.elim
def NQ(te:A3)(t h:Ol):A3:=λS M Q=>te S M λx a=>t S a λl M2=>h S M2 λu b=>Qg x l u b Q
theorem Iw{e:h7}{te:A3}{lo hi:Option h7}{t h:Ol}{p:Pos}(m:DE X e te)(n:PO X lo (Kc X.K t))(o:PO X hi (Kc X.K h)):DE X (.Subscript e (.Slice lo hi b7 p) pos) (NQ te t h):=by refine PE.imp (Df sld m n o) ?_;rintro σ H R ⟨S,M,ρ,Q,s,b,q,k⟩;refine⟨S,M,ρ,_,s,b,q,?_⟩;rintro v D ⟨d,i,a,A,g1,z,r⟩;refine⟨S,i,a,_,A,b.grow g1,r,?_⟩;rintro l E ⟨M2,f,B,c,x⟩;refine⟨S,M2,f,_,B,b.grow<|g1.trans c,x,?_⟩;rintro u F ⟨j,g,C,g3,y⟩;exact⟨d,j,g,Q,C,z.grow<|c.trans g3,y,λv H' w=>k v H'<|VQ.trans ((g1.trans c).trans g3) w⟩
def lu:G2:=λx y M Q=>match x,y with
 |.int i,.int j=>CMul i j/\Q (.int<|i*j) M
 |.str z,.int n=>(0<=n/\n<2 ^ 63/\z.length*n.toNat<=sizeLine)/\Q (.str<|Txt.mul z n) M
 |_,_=>False
theorem vK(h0:0<=n)(h:z.length*n.toNat<=sizeLine)(f:n<2 ^ 63):MulOk z n:=by
 refine⟨?_,λh1 h2=>?_,λh1 h2=>?_⟩;have a:decide (n < -(2 ^ 63:Int))=b9:=dF_ (by lia);have l:decide (n ≥ 2 ^ 63)=b9:=dF_ (by lia);rw[a,l];rfl;have b:(z.length:Int)*n<=2 ^ 24:=by
  have e:((z.length*n.toNat:Nat):Int)=(z.length:Int)*n:=by rw[Int.natCast_mul,Int.toNat_of_nonneg h0]
  have h':((z.length*n.toNat:Nat):Int)<=(2 ^ 24:Nat):=Int.ofNat_le.mpr h;rw[e]at h';exact h'
 have s:0<n:=by lia
 intro t;have:=Int.lt_of_lt_of_le (Int.lt_mul_of_ediv_lt s t) b;lia;unfold PySem.Builtin.Str.tooLong;simpa using h
theorem GN:G9 X (j6 .Mult) lu:=by
 rintro p s σ H f b v u R I g i ⟨x,y,M,ρ,Q,m,r,a,q,k⟩;unfold lu at q;split at q;cases r;cases a;exact JN p s σ H _ _ v u R I g i ⟨_,_,rfl,rfl,q.1,k _ H<|VQ.now m (.int _) q.2⟩;rename_i z n;cases r;cases a;obtain⟨t,rfl⟩:=g;obtain⟨t',rfl⟩:=i;obtain⟨⟨h0,h2,h1⟩,q⟩:=q;exact PySem.SB.mul (vK h0 h1 h2) λt' j=>⟨.str _,H,I.tok j,⟨t',rfl⟩,k _ H<|VQ.now m (.str _) q⟩
 exact q.elim
variable{o e:h7}{es:List h7}{to:A3}{t:I9}{name:c5}{apos cpos:Pos}{id:String}
def AV(K:w9)(r:c5->D6):V->List V->Hp->VK->Prop:=λf vs H R=>∃z ds M ρ Q,f=.str z/\z6 K ρ M H/\Reps K ρ H ds vs/\r z ds M Q/\∀v H',VQ K ρ H Q v H'->R v H'
def kw(K:w9)(r:Nat->D6):V->List V->Hp->VK->Prop:=λf vs H R=>∃n a ds M ρ Q,f=.ref a/\ρ[n]?=a9 a/\z6 K ρ M H/\Reps K ρ H ds vs/\r n ds M Q/\∀v H',VQ K ρ H Q v H'->R v H'
def OI(r:c5->D6)(e:A3)(t:I9):A3:=λS M Q=>e S M λx a=>match x with
 |.str z=>t S a λds M2=>r z ds M2 Q
 |_=>False
def ME(r:Nat->D6)(e:A3)(t:I9):A3:=λS M Q=>e S M λx a=>match x with
 |.ref n=>(∃xs,aq a n xs)/\t S a λds M2=>r n ds M2 Q
 |_=>False
theorem d_ms(slot:Slot "str" name id)(y:m9 (.builtin id)=pure (.type "method_descriptor"))(p:K3 X id (AV X.K r))(u:DE X o to)(m:DA X (e::es) t)(h:n5 o name X.env (eval o X.env)=eval o X.env:=by rfl)(b:((i4 cpos<|i5 (e::es) X.env).all (λx=>!x.1)&&(n9 cpos<|o0 [] X.env).all (λx=>x.1.isSome) && decide ((e::es).length+([]:List o4).length+(if ([]:List o4).isEmpty then 0 else 1)<30))=b8:=by rfl)(a:(apos.endLine==cpos.line)=b8:=by rfl) (hs:i5 (e::es) X.env=(b9,eval e X.env)::i5 es X.env:=by rfl) (n:(i4 cpos<|i5 es X.env).any (·.1)=b9:=by rfl):DE X (.Call (.Attribute o name apos) (e::es) [] cpos) (OI r to t):=by
 refine PE.imp (JH PySem.F.plainAttrs_str slot y p u m h b a hs n) ?_;rintro σ H R ⟨S,M,ρ,Q,s,i,q,k⟩;refine⟨S,M,ρ,_,s,i,q,?_⟩;rintro v G ⟨d,j,c,D,g1,B,g⟩;cases B with
 |str z=>exact⟨rfl,S,j,c,_,D,i.grow g1,g,λvs I ⟨ds,M2,f,E,l,C,A⟩=>⟨z,ds,M2,f,Q,rfl,E,C,A,λv H' w=>k v H'<|VQ.trans (g1.trans l) w⟩⟩
 |_=>exact g.elim
theorem d_ml(slot:Slot "list" name id)(y:m9 (.builtin id)=pure (.type "method_descriptor"))(B:K3 X id (kw X.K r))(C:DE X o to)(A:DA X (e::es) t)(b:n5 o name X.env (eval o X.env)=eval o X.env:=by rfl)(f:((i4 cpos<|i5 (e::es) X.env).all (λx=>!x.1)&&(n9 cpos<|o0 [] X.env).all (λx=>x.1.isSome) && decide ((e::es).length+([]:List o4).length+(if ([]:List o4).isEmpty then 0 else 1)<30))=b8:=by rfl)(c:(apos.endLine==cpos.line)=b8:=by rfl) (hs:i5 (e::es) X.env=(b9,eval e X.env)::i5 es X.env:=by rfl) (h:(i4 cpos<|i5 es X.env).any (·.1)=b9:=by rfl):DE X (.Call (.Attribute o name apos) (e::es) [] cpos) (ME r to t):=by
 refine PE.imp (JH PySem.F.plainAttrs_list slot y B C A b f c hs h) ?_;rintro σ H R ⟨S,M,ρ,Q,s,z,q,k⟩;refine⟨S,M,ρ,_,s,z,q,?_⟩;rintro v N ⟨d,i,j,u,g1,G,g⟩;cases G with
 |@ref n a p =>
  obtain⟨⟨xs,L⟩,g⟩:=(show (∃xs,aq i n xs)/\t S i _ from g)
  obtain⟨vs,D,_⟩:=aq.seq u L p;refine⟨.inl ⟨rfl,vs,D⟩,S,i,j,_,u,z.grow g1,g,?_⟩;rintro vs O ⟨ds,M2,l,J,m,I,E⟩;exact⟨n,a,ds,M2,l,Q,rfl,ar m.pre p,J,I,E,λv H' w=>k v H'<|VQ.trans (g1.trans m) w⟩
 |_=>exact g.elim
def cE(n:Nat):D6:=λds M Q=>match ds with
 | [d]=>∃xs,M[n]?=a9 (.lst xs)/\xs.length<sizeLine/\Q .non (M.set n<|.lst<|xs++[d])
 |_=>False
theorem yB:K3 X "list.append" (kw X.K cE):=by
 rintro p s σ H x xs v us R I l j ⟨n,a,ds,M,ρ,Q,c,b,m,f,q,k⟩;unfold cE at q;split at q;rename_i d;obtain⟨ys,e,g,q⟩:=q
 first|have z:=Reps.inv_cons f|have z:=az.inv_cons f
 clear f;obtain⟨_,_,rfl,i,f⟩:=z;cases f;obtain⟨vs,h,r⟩:=m.obj n a _ b e;obtain⟨w,o⟩:=m.write b e h<|r.append<|.cons i .nil;exact AT p s σ H x _ v us R I l j ⟨a,vs,_,c,rfl,h,by rw[<-r.length];exact g,k _ _ ⟨.non,_,ρ,w,o,.non,q⟩⟩;exact q.elim
end
def cB(K:w9)(mg:c5->Option c3)(x:c5)(st:i6)(ps:List c5):Prop:=∃f d,MQ K x x st f d/\mg x=a9 (.ref f)/\uV K d ps []
def x6(P:c7)(w:c6)(K:w9)(mg:c5->Option c3)(base:d5)(k:Nat)(x:c5)(ps:List c5)(r:A7):Prop:=∃f d,FnOk P w K mg base LV k f d ps (MN K r)/\mg x=a9 (.ref f)/\N4 K (.ref f)=b8/\uV K d ps []
theorem fnat_mk{K:w9}{h:d5}{mg:c5->Option c3}{x:c5}{st:i6}{ps:List c5}{f:c8}{b:c3}{j M:Option c8}{o:Array (Option c3)}{kV i U v R:c3}(X:K.In h) (G:h.Ns d9 mg) (a:PySem.W.nsIn K d9 x=a9 (a9<|.ref f))(l:K.lookup f=a9 ⟨b,j,.func<|NE x x (jh st) (cr st) (aB st) .none kV i U M v R,o⟩)(c:Qp K v x=b8) (k:N4 K (.ref f)=b8)(h:∀(kV i U:c3) (M:Option c8) (v R:c3) (us:List c3),us.length=ps.length->bindArgs (NE x x (jh st) (cr st) (aB st) .none kV i U M v R) ⟨us,[]⟩=pure (ps.zip us)):cB K mg x st ps:=have F:=KY (st:=st) l c k
 ⟨f,_,F,PySem.W.mg_of X G a,F.binds h⟩
theorem x6.of{P:c7}{w:c6}{K:w9}{mg:c5->Option c3}{base:d5}{x:c5}{st:i6}{N ps:List c5}{k:Nat}{d:A7}(F:cB K mg x st ps)(i:FnScope N ps (aB st))(B:∀ds M R,d ds M R->ds.length=ps.length) {t:v5}(r:∀(f:c8) (cdv:c3) (A:f7) (outer:List Env) (s:f8) (H:Hp) (E:XK),Room k (A.deeper<|m5 x (aB st) s.heap.objs.size f cdv)->Nb (zi LV P w K mg base N x (aB st) f cdv A outer s H E).nox (cr st) t)(p:∀ds M R,d ds M R->t ⟨λ_ M'=>aZ M R .non M',aZ M R,λ_ _=>False,λ_ _=>False⟩ (fW N ds) M):x6 P w K mg base (k+1) x ps d:=by obtain⟨f,b,a,m,h⟩:=F;exact⟨f,b,d_fn d a i B λcdv A outer s H E c=>⟨t,r f cdv A outer s H E c,p⟩,m,a.kp,h⟩
theorem HZ{P:c7}{w:c6}{K:w9}{mg:c5->Option c3}{base:d5}{x:c5}{st:i6}{N ps:List c5}{k:Nat}{d:A7}{f:c8}{a:k5}(F:MQ K x x st f a)(i:FnScope N ps (aB st))(B:∀ds M R,d ds M R->ds.length=ps.length) {t:v5}(r:∀(f:c8) (cdv:c3) (A:f7) (outer:List Env) (s:f8) (H:Hp) (E:XK),Room k (A.deeper<|m5 x (aB st) s.heap.objs.size f cdv)->Nb (zi LV P w K mg base N x (aB st) f cdv A outer s H E).nox (cr st) t)(p:∀ds M R,d ds M R->t ⟨λ_ M'=>aZ M R .non M',aZ M R,λ_ _=>False,λ_ _=>False⟩ (fW N ds) M):FnOk P w K mg base LV (k+1) f a ps (MN K d):=d_fn d F i B λcdv A outer s H E h=>⟨t,r f cdv A outer s H E h,p⟩
theorem d_cal(C:x6 X.prog X.w X.K X.mg X.base j x ps P)(r:Room k X.A)(a:DA X (e::es) t)(L:j<=k:=by decide)(R:Gl X x:=by rfl) (b:(x==("__debug__":c5))=b9:=by decide) (i:i5 (e::es) X.env=(b9,eval e X.env)::i5 es X.env:=by rfl) (l:(i4 pos<|i5 es X.env).any (·.1)=b9:=by rfl):DE X (.Call (.Name x p) (e::es) [] pos) (v7 P t):=by obtain⟨f,c,F,m,h,d⟩:=C;exact LA F (r.mono L) m h d a R b i l
def Ha:A7:=λds M R=>∃(ns:List Int) (m:MO),ns.length<=63/\(m.items=ns.map D.int/\m.isL=b8)/\ds=[.ref 0]/\M=[m]/\∀a,R (.bl b8) a
theorem ua(h:M[n]?=a9 mo)(g:mo.isL=b8):aq M n mo.items:=by
 cases mo with
 |lst xs=>exact .inl h
 |fz xs=>exact .inr<|.inl h
 |kl xs=>exact .inr<|.inr h
 |dct xs=>cases g
 |dkt xs=>cases g
 |dkq _ xs=>cases g
 |fdc o xs=>cases g
 |dkm xs=>cases g
 |tb x b=>cases g
 |exc x=>cases g
theorem jH{K:w9}{ρ:List c8}{H:Hp}:∀(ns:List Int),Reps K ρ H (ns.map D.int) (ns.map V.int)
 | []=>.nil
 |n::ns=>.cons (.int n)<|jH ns
theorem yI{K:w9}{H:Hp}{a:c8}{ns:List Int}(g:ns.length<=63)(S:K2 K H a (ns.map V.int)):MN K Ha [.ref a] H (λv _=>v=.bl b8) λ_ _ _=>False:=by
 have c:∀{mo:MO},mo.items=ns.map D.int/\mo.isL=b8->zj K [a] H a mo->MN K Ha [.ref a] H (λv _=>v=.bl b8) λ_ _ _=>False:=λ{mo} e ok=>by refine⟨[.ref 0],[mo],[a],λd _=>d=.bl b8,⟨λn m b f t l=>?_,rfl,λn b i t l=>?_⟩,.cons (.ref rfl) .nil,⟨ns,mo,g,e,rfl,rfl,λ_=>rfl⟩,λv H' ⟨d,M,k,_,_,r,q⟩=>?_⟩;have h1:=(C2.mp t).1;have h2:=(C2.mp l).1;simp at h1 h2;lia;have h1:=(C2.mp t).1;simp at h1;subst h1;simp at t l;subst t l;exact ok;have j:d=.bl b8:=q;subst j;cases r;rfl
 rcases S with(h|⟨o,h⟩)|h;exact c (mo:=.lst _) ⟨rfl,rfl⟩ ⟨_,h,jH ns⟩;exact c (mo:=.fz _) ⟨rfl,rfl⟩ ⟨o,_,h,jH ns⟩;exact c (mo:=.kl _) ⟨rfl,rfl⟩ ⟨_,h,jH ns⟩
theorem law_walk{l:PySem.W.OpenLaw}{q:c7}{b:List c5}{P:(c5->Option c3)->d5->Prop}{YP:c6->d5->Prop}{d:DefRec}{K:Params->w9}{k:Nat}{st:i6}{x:c5}(y:l.most=a9 63)(i:d.params.defaults=[])(p:d.name = "law")(A:Room k callerA)(D:∀(w:c6) (h:d5),YP w h->(K w.params).In h)(F:∀(w:c6) (mg:c5->Option c3) (h:d5),(K w.params).In h->h.Ns d9 mg->cB (K w.params) mg "law" st [x] /\ ∀(base:d5) (f:c8) (fd:k5),MQ (K w.params) "law" "law" st f fd->FnOk l.prog w (K w.params) mg base LV k f fd [x] (MN (K w.params) Ha))(m:∀(kV doc pm:c3) (an:Option c8) (cdv ct:c3) (u:c3),bindArgs (NE "law" "law" (jh st) (cr st) (aB st) .none kV doc pm an cdv ct) ⟨[u],[]⟩=pure [(x,u)]):PySem.W.WalkO q b P YP l.row.toRowW d [] (λf vs=>PySem.call f vs):=by refine L2.walk_of (n:=63) (k:=k) (x:=x) (CX:=λ_=>LV) (sp:=λw=>MN (K w.params) Ha) y (by decide) i A D (λw mg I h X G g=>?_) (λw H a ns r _ S=>yI r S) λ_ _ _ _ _ z=>z;rw[p]at g;obtain⟨⟨f,fd,c,t,_⟩,C⟩:=F w mg h X G;have e:=g.symm.trans t;cases e;have j:=λbase=>C base _ _ c;obtain⟨J,L,kV,doc,pm,an,cdv,ct,B,rfl,E,o⟩:=id c.ex;exact⟨_,λs v=>.of_eq<|m kV doc pm an cdv ct v,λbase _ _=>j base⟩
noncomputable def ql(m:List (c5×m3))(N N':List c5)(t:Nat)(s:List Nat)(c:f9):Bool:=c.kind==.function&&c.names.all (λy=>y.2 != .cell&&(y.2 != .local||c.names.lookup y.1==a9 .local)&&(y.2 != .free||(m.lookup y.1==a9 .cell||m.lookup y.1==a9 .free))) &&
 N'.length==t+s.length&&(C9 s.length).all λk=>match s[k]?,N'[t+k]? with
  |some j,a9 x=>N[j]?==a9 x&&c.names.lookup x==a9 .free&&(m.lookup x==a9 .cell||m.lookup x==a9 .free)
  |_,_=>b9
theorem BlkSc.chk(h:ql X.env.scope.names X.N N' nt js scope=b8):BlkSc X N' nt js scope:=by
 unfold ql at h;simp only[G0,G7,t9,Qr,bne_iff_ne]at h;obtain⟨⟨⟨h1,h2⟩,a⟩,d⟩:=h;refine⟨h1,λy O=>(h2 y O).1.1,λy O e=>((h2 y O).1.2.resolve_left<|λz=>z e),λy O e=>((h2 y O).2.resolve_left<|λz=>z e),a,λk j e=>?_⟩;have b:k<js.length:=(C2.mp e).1;have q:=d k<|K0.mpr b;rw[e]at q;cases f:N'[nt+k]? with
 |none=>rw[f]at q;exact t7 q<|by simp
 |some x=>rw[f]at q;simp only[G0,t9,Qr]at q;exact⟨x,rfl,q.1.1,q.1.2,q.2⟩
noncomputable def E9(f:D->D->Bool):List D->List D->Bool
 | [],[]=>b8
 |x::xs,y::ys=>f x y&&E9 f xs ys
 |_,_=>b9
noncomputable def v8(M:w6):Nat->D->D->Bool
 |_,.non,.non=>b8
 |_,.bl a,.bl b=>a==b
 |_,.bl a,.int b=>(if a then 1 else 0)==b
 |_,.int a,.bl b=>a==(if b then 1 else 0)
 |_,.int a,.int b=>a==b
 |_,.str a,.str b=>a==b
 |n+1,.tup xs,.tup ys=>E9 (v8 M n) xs ys
 |n+1,.ref i,.ref j=>match M[i]?,M[j]? with
  |some a,a9 b=>E9 (v8 M n) a.items b.items
  |_,_=>b9
 |_,_,_=>b9
noncomputable def x9(M:w6):Nat->D->Bool
 |_,.ty _=>b9
 |n+1,.tup xs=>xs.all<|x9 M n
 |n+1,.ref i=>match M[i]? with
  |some a=>a.isL&&a.items.all (x9 M n)
  |none=>b9
 | 0,.tup _=>b9
 | 0,.ref _=>b9
 |_,_=>b8
theorem BO:∀{xs ys:List D},E9 f xs ys=b8->xs.length=ys.length
 | [],[],_=>rfl
 | [],_::_,h=>by simp[E9]at h
 |_::_,[],h=>by simp[E9]at h
 |x::xs,y::ys,h=>by simp only[E9,G0]at h;rw[D7,D7,BO h.2]
theorem Co(n:Nat)(e:Nat->Bool):(C9<|n+1).all e=(e 0&&(C9 n).all λj=>e<|j+1):=by rw[List.range_succ_eq_map,Mn,List.all_map];rfl
theorem nX:∀{xs ys:List D}{e:Nat->Bool},xs.length=ys.length->(∀(j:Nat) x y,xs[j]?=a9 x->ys[j]?=a9 y->e j=f x y)->(C9 xs.length).all e=E9 f xs ys
 | [],[],e,_,_=>by simp[E9]
 | [],_::_,_,h,_=>by simp at h
 |_::_,[],_,h,_=>by simp at h
 |x::xs,y::ys,e,h,he=>by rw[D7,Co,E9,he 0 x y rfl rfl,nX (by simpa using h) λj x' y' h1 h2=>he (j+1) x' y' (by simpa using h1)<|by simpa using h2]
theorem BN(h:xs.length≠ys.length):E9 f xs ys=b9:=by
 cases q:E9 f xs ys with
 |false=>rfl
 |true=>exact t7 (BO q) h
theorem jv{vs:List V}{us:List c3}(h:az vs us){j:Nat}{v:V}(e:vs[j]?=a9 v):∃u,us[j]?=a9 u/\aN v u:=by
 induction h generalizing j with
 |nil=>simp at e
 |cons r _ i =>
  cases j with
  |zero=>simp at e;subst e;exact⟨_,rfl,r⟩
  |succ j=>exact i<|by simpa using e
section
variable{X:Cx}{pins:List (c8×c9)}{σ:St}{H:Hp}{s:f8}{ρ:List c8}{M:w6}
theorem mW(I:v4 X pins σ H s)(m:z6 X.K ρ M H){i:Nat}{a:c8}{mo:MO}(e:ρ[i]?=a9 a)(d:M[i]?=a9 mo)(g:mo.isL=b8):∃vs its,K2 X.K H a vs/\Reps X.K ρ H mo.items vs/\az vs its/\PlainL s.heap a its.toArray:=by obtain⟨vs,q,r⟩:=aq.seq m (ua d g) e;obtain⟨its,f,l,_⟩:=I.list q;exact⟨vs,its,q,r,f,l⟩
theorem eW(d:M[i]?=a9 mo)(o:x9 M (n+1) (.ref i)=b8):mo.isL=b8/\mo.items.all (x9 M n)=b8:=by have o':(match M[i]? with|some a=>a.isL&&a.items.all (x9 M n)|none=>b9)=b8:=o;rw[d]at o';exact(G0 _ _).mp o'
theorem EG(I:v4 X pins σ H s)(m:z6 X.K ρ M H):∀(n:Nat) (x y:D) (v:V),v9 X.K ρ H x v->v9 X.K ρ H y v->x9 M n x=b8->x9 M n y=b8->v8 M n x y=b8:=by
 have l:∀(n:Nat),(∀(x y:D) (v:V),v9 X.K ρ H x v->v9 X.K ρ H y v->x9 M n x=b8->x9 M n y=b8->v8 M n x y=b8) -> ∀(xs ys:List D) (vs:List V),Reps X.K ρ H xs vs->Reps X.K ρ H ys vs->xs.all (x9 M n)=b8->ys.all (x9 M n)=b8->E9 (v8 M n) xs ys=b8:=by
  intro n w xs;induction xs with
  |nil=>intro ys vs h1 h2 _ _;cases h1;cases h2;rfl
  |cons x xs hi =>
   intro ys vs h1 h2 c f;cases h1 with
   |cons O R =>
    cases h2 with
    |cons P S=>rw[Mn,G0]at c f;rw[E9,w _ _ _ O P c.1 f.1,hi _ _ R S c.2 f.2];rfl
 intro n;induction n with
 |zero=>intro x y v h1 h2 c f;cases h1<;>cases h2<;>first|(simp[x9]at c;done)|rfl|simp[v8]
 |succ n w =>
  intro x y v h1 h2 c f;cases h1 with
  |non=>cases h2;rfl
  |bl b=>cases h2;simp[v8]
  |int b=>cases h2;simp[v8]
  |str b=>cases h2;simp[v8]
  |ty b=>simp[x9]at c
  |@tup a vs ds u r =>
   cases h2 with
   |tup h r'=>have e:=I.tuple_inj u h;subst e;exact l n w _ _ _ r r' (by simpa [x9]using c)<|by simpa [x9]using f
   |@ref i _ e =>
    exfalso;obtain⟨its,_,⟨o,z,A,_⟩,_⟩:=I.tuple u;have hi:i<M.length:=by rw[<-m.len];exact(C2.mp e).1
    obtain⟨q,g,_,_,_,⟨o',G,k,p,_⟩⟩:=mW I m e (A5 hi) (eW (A5 hi) f).1;rw[z]at k;cases k;rw[A]at p;injection p with f3;exact t7 f3<|by decide
  |@ref i a e =>
   have hi:i<M.length:=by rw[<-m.len];exact(C2.mp e).1
   have t:=A5 hi;obtain⟨vs,its,u,r,T,J⟩:=mW I m e t (eW t c).1;cases h2 with
   |tup h r'=>exfalso;obtain⟨g,_,⟨o,z,A,_⟩,_⟩:=I.tuple h;obtain⟨o',G,k,p,_⟩:=J;rw[z]at k;cases k;rw[A]at p;injection p with f3;exact t7 f3<|by decide
   |@ref j _ E =>
    have L:j<M.length:=by rw[<-m.len];exact(C2.mp E).1
    have d:=A5 L;obtain⟨q,g,h,r',Q,N⟩:=mW I m E d (eW d f).1;have F:vs=q:=I.list_inj u h;subst F;have B:=(eW t c).2;have C:=(eW d f).2;simp only[v8,t,d];exact l n w _ _ _ r r' B C
theorem kY(I:v4 X pins σ H s)(sm:z6 X.K ρ M H):∀(n:Nat) (A:f7) (x y:D) (vx vy:V) (u v:c3),A.units+n<j9->v9 X.K ρ H x vx->aN vx u->v9 X.K ρ H y vy->aN vy v->x9 M n x=b8->x9 M n y=b8 ->Mx A s u v (v8 M n x y)/\SeqAt.RcAt A s u v (v8 M n x y)/\SeqAt.RcNeAt A s u v (!v8 M n x y):=by
 intro n;induction n with
 |zero =>
  intro A x y vx vy u v hu T z p l F f;cases T with
  |ty b=>simp[x9]at F
  |tup b=>simp[x9]at F
  |ref b=>simp[x9]at F
  |non =>
   cases z;cases p with
   |ty b=>simp[x9]at f
   |tup b=>simp[x9]at f
   |ref b=>simp[x9]at f
   |non=>cases l;exact⟨Qq _,SeqAt.RcAt.none_none,SeqAt.RcNeAt.none_none⟩
   |bl b=>cases l;exact⟨SeqAt.EqAt.none_bool _,SeqAt.RcAt.none_bool _,SeqAt.RcNeAt.none_bool _⟩
   |int b=>obtain⟨t,rfl⟩:=l;exact⟨SeqAt.EqAt.none_int _ _,SeqAt.RcAt.none_int _ _,SeqAt.RcNeAt.none_int _ _⟩
   |str b=>obtain⟨t,rfl⟩:=l;exact⟨SeqAt.EqAt.none_str _ _,SeqAt.RcAt.none_str _ _,SeqAt.RcNeAt.none_str _ _⟩
  |bl a =>
   cases z;cases p with
   |ty b=>simp[x9]at f
   |tup b=>simp[x9]at f
   |ref b=>simp[x9]at f
   |non=>cases l;exact⟨SeqAt.EqAt.bool_none _,SeqAt.RcAt.bool_none _,SeqAt.RcNeAt.bool_none _⟩
   |bl b=>cases l;exact⟨SeqAt.EqAt.bool_bool _ _,SeqAt.RcAt.bool_bool _ _,SeqAt.RcNeAt.bool_bool _ _⟩
   |int b=>obtain⟨t,rfl⟩:=l;exact⟨SeqAt.EqAt.bool_int _ _ _,SeqAt.RcAt.bool_int _ _ _,SeqAt.RcNeAt.bool_int _ _ _⟩
   |str b=>obtain⟨t,rfl⟩:=l;exact⟨SeqAt.EqAt.bool_str _ _ _,SeqAt.RcAt.bool_str _ _ _,SeqAt.RcNeAt.bool_str _ _ _⟩
  |int a =>
   obtain⟨t0,rfl⟩:=z;cases p with
   |ty b=>simp[x9]at f
   |tup b=>simp[x9]at f
   |ref b=>simp[x9]at f
   |non=>cases l;exact⟨SeqAt.EqAt.int_none _ _,SeqAt.RcAt.int_none _ _,SeqAt.RcNeAt.int_none _ _⟩
   |bl b=>cases l;exact⟨SeqAt.EqAt.int_bool _ _ _,SeqAt.RcAt.int_bool _ _ _,SeqAt.RcNeAt.int_bool _ _ _⟩
   |int b=>obtain⟨t,rfl⟩:=l;exact⟨QH _ _ _ _,SeqAt.RcAt.int_int _ _ _ _,SeqAt.RcNeAt.int_int _ _ _ _⟩
   |str b=>obtain⟨t,rfl⟩:=l;exact⟨P8 _ _ _ _,SeqAt.RcAt.int_str _ _ _ _,SeqAt.RcNeAt.int_str _ _ _ _⟩
  |str a =>
   obtain⟨t0,rfl⟩:=z;cases p with
   |ty b=>simp[x9]at f
   |tup b=>simp[x9]at f
   |ref b=>simp[x9]at f
   |non=>cases l;exact⟨SeqAt.EqAt.str_none _ _,SeqAt.RcAt.str_none _ _,SeqAt.RcNeAt.str_none _ _⟩
   |bl b=>cases l;exact⟨SeqAt.EqAt.str_bool _ _ _,SeqAt.RcAt.str_bool _ _ _,SeqAt.RcNeAt.str_bool _ _ _⟩
   |int b=>obtain⟨t,rfl⟩:=l;exact⟨P7 _ _ _ _,SeqAt.RcAt.str_int _ _ _ _,SeqAt.RcNeAt.str_int _ _ _ _⟩
   |str b=>obtain⟨t,rfl⟩:=l;exact⟨QG _ _ _ _,SeqAt.RcAt.str_str _ _ _ _,SeqAt.RcNeAt.str_str _ _ _ _⟩
 |succ n ih =>
  intro A x y vx vy u v hu T z p l F f;have c:A.units<j9:=by lia
  have ag:A.in1.units+n<j9:=by show A.units+1+n<j9;lia
  -- what a list or a tuple is,as the heap has it
  have tupAt:∀{a:c8}{vs:List V}{ds:List D},C7 X.K H a vs->Reps X.K ρ H ds vs->∃its:List c3,az vs its/\s.heap.IsTuple a its.toArray/\ds.length=its.length:=λ{a vs ds} q r=>by obtain⟨its,o,d,_⟩:=I.tuple q;exact⟨its,o,d,r.length.trans o.length⟩
  have lstAt:∀{i:Nat}{a:c8},ρ[i]?=a9 a->x9 M (n+1) (.ref i)=b8->∃w,M[i]?=a9 w/\∃vs its,Reps X.K ρ H w.items vs/\az vs its/\s.heap.IsList a its.toArray/\w.items.length=its.length:=λ{i a} e ok=>by
   have hi:i<M.length:=by rw[<-sm.len];exact(C2.mp e).1
   have B:=A5 hi;obtain⟨vs,its,q,r,o,d⟩:=mW I sm e B (eW B ok).1;exact⟨_,B,vs,its,r,o,d.isList,r.length.trans o.length⟩
  have m:∀{xs ys:List D}{vs ws:List V}{its g:List c3},Reps X.K ρ H xs vs->az vs its->Reps X.K ρ H ys ws->az ws g->xs.all (x9 M n)=b8->ys.all (x9 M n)=b8 -> ∀(j:Nat) (h1:j<its.toArray.size) (h2:j<g.toArray.size),Mx A.in1 s its.toArray[j] g.toArray[j] (v8 M n (xs.getD j .non)<|ys.getD j .non):=λ{xs ys vs ws its g} T q1 p q2 F f j h1 h2=>by
   have l1:j<xs.length:=by rw[T.length,q1.length];simpa using h1
   have l2:j<ys.length:=by rw[p.length,q2.length];simpa using h2
   obtain⟨v1,g1,p1⟩:=T.get<|A5 l1;obtain⟨v2,g2,p2⟩:=p.get<|A5 l2;obtain⟨u1,k1,m1⟩:=jv q1 g1;obtain⟨u2,k2,m2⟩:=jv q2 g2;have z1:its.toArray[j]=u1:=by have:=(C2.mp k1).2;simpa using this
   have z2:g.toArray[j]=u2:=by have:=(C2.mp k2).2;simpa using this
   rw[z1,z2];have y1:xs.getD j .non=xs[j]:=by simp[Om,A5 l1]
   have y2:ys.getD j .non=ys[j]:=by simp[Om,A5 l2]
   rw[y1,y2];exact(ih A.in1 _ _ _ _ _ _ ag p1 m1 p2 m2 (G7.mp F _<|MU l1)<|G7.mp f _<|MU l2).1
  have Z:∀(xs ys:List D),xs.length=ys.length->(C9 xs.length).all (λj=>v8 M n (xs.getD j .non)<|ys.getD j .non)=E9 (v8 M n) xs ys:=λxs ys h=>nX h λj x y h1 h2=>by simp[Om,h1,h2]
  have P:∀{a b:c8}{k:Bool},v9 X.K ρ H x (.ref a)->v9 X.K ρ H y (.ref b)->v8 M (n+1) x y=k->SeqAt.RcAt A s (.ref a) (.ref b) k->SeqAt.RcNeAt A s (.ref a) (.ref b) (!k) -> Mx A s (.ref a) (.ref b) (v8 M (n+1) x y)/\SeqAt.RcAt A s (.ref a) (.ref b) (v8 M (n+1) x y)/\SeqAt.RcNeAt A s (.ref a) (.ref b) (!v8 M (n+1) x y):=λ{a b k} p1 p2 ek h1 h2=>by subst ek;refine⟨?_,h1,h2⟩;by_cases U:a=b;subst U;rw[EG I sm (n+1) x y _ p1 p2 F f];exact Qq _;exact SeqAt.EqAt.of_refs U h1
  cases T with
  |ty b=>simp[x9]at F
  |non =>
   cases z;cases p with
   |ty b=>simp[x9]at f
   |tup q r=>cases l;obtain⟨its,o,d,_⟩:=tupAt q r;exact⟨SeqAt.EqAt.none_tuple d c,SeqAt.RcAt.none_tuple d c,SeqAt.RcNeAt.none_tuple d c⟩
   |ref e=>cases l;obtain⟨w,B,vs,its,r,o,d,_⟩:=lstAt e f;exact⟨SeqAt.EqAt.none_list d c,SeqAt.RcAt.none_list d c,SeqAt.RcNeAt.none_list d c⟩
   |non=>cases l;exact⟨Qq _,SeqAt.RcAt.none_none,SeqAt.RcNeAt.none_none⟩
   |bl b=>cases l;exact⟨SeqAt.EqAt.none_bool _,SeqAt.RcAt.none_bool _,SeqAt.RcNeAt.none_bool _⟩
   |int b=>obtain⟨t,rfl⟩:=l;exact⟨SeqAt.EqAt.none_int _ _,SeqAt.RcAt.none_int _ _,SeqAt.RcNeAt.none_int _ _⟩
   |str b=>obtain⟨t,rfl⟩:=l;exact⟨SeqAt.EqAt.none_str _ _,SeqAt.RcAt.none_str _ _,SeqAt.RcNeAt.none_str _ _⟩
  |bl a =>
   cases z;cases p with
   |ty b=>simp[x9]at f
   |tup q r=>cases l;obtain⟨its,o,d,_⟩:=tupAt q r;exact⟨SeqAt.EqAt.bool_tuple _ d c,SeqAt.RcAt.bool_tuple _ d c,SeqAt.RcNeAt.bool_tuple _ d c⟩
   |ref e=>cases l;obtain⟨w,B,vs,its,r,o,d,_⟩:=lstAt e f;exact⟨SeqAt.EqAt.bool_list _ d c,SeqAt.RcAt.bool_list _ d c,SeqAt.RcNeAt.bool_list _ d c⟩
   |non=>cases l;exact⟨SeqAt.EqAt.bool_none _,SeqAt.RcAt.bool_none _,SeqAt.RcNeAt.bool_none _⟩
   |bl b=>cases l;exact⟨SeqAt.EqAt.bool_bool _ _,SeqAt.RcAt.bool_bool _ _,SeqAt.RcNeAt.bool_bool _ _⟩
   |int b=>obtain⟨t,rfl⟩:=l;exact⟨SeqAt.EqAt.bool_int _ _ _,SeqAt.RcAt.bool_int _ _ _,SeqAt.RcNeAt.bool_int _ _ _⟩
   |str b=>obtain⟨t,rfl⟩:=l;exact⟨SeqAt.EqAt.bool_str _ _ _,SeqAt.RcAt.bool_str _ _ _,SeqAt.RcNeAt.bool_str _ _ _⟩
  |int a =>
   obtain⟨t0,rfl⟩:=z;cases p with
   |ty b=>simp[x9]at f
   |tup q r=>cases l;obtain⟨its,o,d,_⟩:=tupAt q r;exact⟨SeqAt.EqAt.int_tuple _ _ d c,SeqAt.RcAt.int_tuple _ _ d c,SeqAt.RcNeAt.int_tuple _ _ d c⟩
   |ref e=>cases l;obtain⟨w,B,vs,its,r,o,d,_⟩:=lstAt e f;exact⟨SeqAt.EqAt.int_list _ _ d c,SeqAt.RcAt.int_list _ _ d c,SeqAt.RcNeAt.int_list _ _ d c⟩
   |non=>cases l;exact⟨SeqAt.EqAt.int_none _ _,SeqAt.RcAt.int_none _ _,SeqAt.RcNeAt.int_none _ _⟩
   |bl b=>cases l;exact⟨SeqAt.EqAt.int_bool _ _ _,SeqAt.RcAt.int_bool _ _ _,SeqAt.RcNeAt.int_bool _ _ _⟩
   |int b=>obtain⟨t,rfl⟩:=l;exact⟨QH _ _ _ _,SeqAt.RcAt.int_int _ _ _ _,SeqAt.RcNeAt.int_int _ _ _ _⟩
   |str b=>obtain⟨t,rfl⟩:=l;exact⟨P8 _ _ _ _,SeqAt.RcAt.int_str _ _ _ _,SeqAt.RcNeAt.int_str _ _ _ _⟩
  |str a =>
   obtain⟨t0,rfl⟩:=z;cases p with
   |ty b=>simp[x9]at f
   |tup q r=>cases l;obtain⟨its,o,d,_⟩:=tupAt q r;exact⟨SeqAt.EqAt.str_tuple _ _ d c,SeqAt.RcAt.str_tuple _ _ d c,SeqAt.RcNeAt.str_tuple _ _ d c⟩
   |ref e=>cases l;obtain⟨w,B,vs,its,r,o,d,_⟩:=lstAt e f;exact⟨SeqAt.EqAt.str_list _ _ d c,SeqAt.RcAt.str_list _ _ d c,SeqAt.RcNeAt.str_list _ _ d c⟩
   |non=>cases l;exact⟨SeqAt.EqAt.str_none _ _,SeqAt.RcAt.str_none _ _,SeqAt.RcNeAt.str_none _ _⟩
   |bl b=>cases l;exact⟨SeqAt.EqAt.str_bool _ _ _,SeqAt.RcAt.str_bool _ _ _,SeqAt.RcNeAt.str_bool _ _ _⟩
   |int b=>obtain⟨t,rfl⟩:=l;exact⟨P7 _ _ _ _,SeqAt.RcAt.str_int _ _ _ _,SeqAt.RcNeAt.str_int _ _ _ _⟩
   |str b=>obtain⟨t,rfl⟩:=l;exact⟨QG _ _ _ _,SeqAt.RcAt.str_str _ _ _ _,SeqAt.RcNeAt.str_str _ _ _ _⟩
  |@tup a vs ds q r =>
   cases z;obtain⟨its,o,d,S⟩:=tupAt q r;cases p with
   |ty b=>simp[x9]at f
   |non=>cases l;exact⟨SeqAt.EqAt.tuple_none d c,SeqAt.RcAt.tuple_none d c,SeqAt.RcNeAt.tuple_none d c⟩
   |bl b=>cases l;exact⟨SeqAt.EqAt.tuple_bool _ d c,SeqAt.RcAt.tuple_bool _ d c,SeqAt.RcNeAt.tuple_bool _ d c⟩
   |int b=>obtain⟨t,rfl⟩:=l;exact⟨SeqAt.EqAt.tuple_int _ _ d c,SeqAt.RcAt.tuple_int _ _ d c,SeqAt.RcNeAt.tuple_int _ _ d c⟩
   |str b=>obtain⟨t,rfl⟩:=l;exact⟨SeqAt.EqAt.tuple_str _ _ d c,SeqAt.RcAt.tuple_str _ _ d c,SeqAt.RcNeAt.tuple_str _ _ d c⟩
   |ref e=>cases l;obtain⟨w,B,aj,Y,r',Q,N,_⟩:=lstAt e f;exact⟨SeqAt.EqAt.tuple_list d N c,SeqAt.RcAt.tuple_list d N c,SeqAt.RcNeAt.tuple_list d N c⟩
   |@tup b ws es O r' =>
    cases l;obtain⟨g,Q,N,E⟩:=tupAt O r';have G:ds.all (x9 M n)=b8:=by simpa [x9]using F
    have J:es.all (x9 M n)=b8:=by simpa [x9]using f
    have ai:((C9<|min its.toArray.size g.toArray.size).all (λj=>v8 M n (ds.getD j .non)<|es.getD j .non)&&its.toArray.size==g.toArray.size)=E9 (v8 M n) ds es:=by rw[B5,B5];by_cases L:ds.length=es.length;rw[<-S,<-E,<-L,Nat.min_self,Z ds es L];simp;rw[BN L,<-S,<-E];simp[L]
    have h1:=SeqAt.RcAt.tuples d N c<|m r o r' Q G J;have h2:=SeqAt.RcNeAt.tuples d N c<|m r o r' Q G J;rw[ai]at h1 h2;exact P (.tup q r) (.tup O r') rfl h1 h2
  |@ref i a e =>
   cases z;obtain⟨w,B,vs,its,r,o,d,S⟩:=lstAt e F;cases p with
   |ty b=>simp[x9]at f
   |non=>cases l;exact⟨SeqAt.EqAt.list_none d c,SeqAt.RcAt.list_none d c,SeqAt.RcNeAt.list_none d c⟩
   |bl b=>cases l;exact⟨SeqAt.EqAt.list_bool _ d c,SeqAt.RcAt.list_bool _ d c,SeqAt.RcNeAt.list_bool _ d c⟩
   |int b=>obtain⟨t,rfl⟩:=l;exact⟨SeqAt.EqAt.list_int _ _ d c,SeqAt.RcAt.list_int _ _ d c,SeqAt.RcNeAt.list_int _ _ d c⟩
   |str b=>obtain⟨t,rfl⟩:=l;exact⟨SeqAt.EqAt.list_str _ _ d c,SeqAt.RcAt.list_str _ _ d c,SeqAt.RcNeAt.list_str _ _ d c⟩
   |tup O r'=>cases l;obtain⟨Y,Q,N,_⟩:=tupAt O r';exact⟨SeqAt.EqAt.list_tuple d N c,SeqAt.RcAt.list_tuple d N c,SeqAt.RcNeAt.list_tuple d N c⟩
   |@ref j b e' =>
    cases l;obtain⟨R,W,ws,g,r',Q,N,E⟩:=lstAt e' f;have G:w.items.all (x9 M n)=b8:=(eW B F).2;have J:R.items.all (x9 M n)=b8:=(eW W f).2;have ek:v8 M (n+1) (.ref i) (.ref j)=E9 (v8 M n) w.items R.items:=by simp only[v8,B,W]
    by_cases L:w.items.length=R.items.length;have C:its.toArray.size=g.toArray.size:=by rw[B5,B5,<-S,<-E,L]
    have h1:=SeqAt.RcAt.lists d N C c<|m r o r' Q G J;have h2:=SeqAt.RcNeAt.lists d N C c<|m r o r' Q G J;rw[B5,<-S,Z _ _ L]at h1 h2;exact P (.ref e) (.ref e') ek h1 h2;have C:(its.toArray.size != g.toArray.size)=b8:=by rw[B5,B5,<-S,<-E];simpa using L
    have h1:=SeqAt.RcAt.lists_lengths d N C c;have h2:=SeqAt.RcNeAt.lists_lengths d N C c;exact P (.ref e) (.ref e') (ek.trans<|BN L) h1 h2
noncomputable def x3:Nat:=30
def E8:G2:=λx y M Q=>(x9 M x3 x=b8/\x9 M x3 y=b8)/\Q (.bl<|v8 M x3 x y) M
def Og:G2:=λx y M Q=>(x9 M x3 x=b8/\x9 M x3 y=b8)/\Q (.bl<|!v8 M x3 x y) M
noncomputable def Na(M:w6)(x:D)(ys:List D):Bool:=ys.any λy=>v8 M x3 y x
def Jo(g:Bool):G2:=λx y M Q=>match y with
 |.tup ys=>(x9 M x3 x=b8/\ys.all (x9 M x3)=b8)/\Q (.bl<|Na M x ys != g) M
 |.ref n=>∃ys,aq M n ys/\(x9 M x3 x=b8/\ys.all (x9 M x3)=b8)/\Q (.bl<|Na M x ys != g) M
 |.str z=>match x with
  |.str p=>Q (.bl<|(!(Pa z p 0 z.length 1).isEmpty) != g) M
  |_=>False
 |_=>False
abbrev Ph:G2:=Jo b9
abbrev na:G2:=Jo b8
end
theorem wB(i:Room k A):A.units+x3<j9:=by have:=i.un;unfold x3;lia
theorem od_eq{X:Cx}(i:Room k X.A):G9 X (j7 .Eq) E8:=by rintro p s σ H b d v u R I g a ⟨x,y,M,ρ,Q,m,r,n,⟨⟨c,f⟩,q⟩,k⟩;exact(kY I m x3 X.A x y b d v u (wB i) r g n a c f).2.1 _ _ _ _<|jg I m k q
theorem od_ne{X:Cx}(i:Room k X.A):G9 X (j7 .NotEq) Og:=by rintro p s σ H b d v u R I g a ⟨x,y,M,ρ,Q,m,r,n,⟨⟨c,f⟩,q⟩,k⟩;exact(kY I m x3 X.A x y b d v u (wB i) r g n a c f).2.2 _ _ _ _<|jg I m k q
theorem uz{pins:List (c8×c9)}{σ:St}{H:Hp}{s:f8}{ρ:List c8}{M:w6}(I:v4 X pins σ H s)(m:z6 X.K ρ M H):∀(n:Nat) (x y z:D) (v:V),v9 X.K ρ H x v->v9 X.K ρ H y v->x9 M n x=b8->x9 M n y=b8->v8 M n x z=v8 M n y z:=by
 have p:∀(n:Nat),(∀(x y z:D) (v:V),v9 X.K ρ H x v->v9 X.K ρ H y v->x9 M n x=b8->x9 M n y=b8->v8 M n x z=v8 M n y z) -> ∀(xs ys c:List D) (vs:List V),Reps X.K ρ H xs vs->Reps X.K ρ H ys vs->xs.all (x9 M n)=b8->ys.all (x9 M n)=b8->E9 (v8 M n) xs c=E9 (v8 M n) ys c:=by
  intro n B xs;induction xs with
  |nil=>intro ys c vs h1 h2 _ _;cases h1;cases h2;rfl
  |cons x xs hi =>
   intro ys c vs h1 h2 l f;cases h1 with
   |cons P S =>
    cases h2 with
    |cons Q T =>
     cases c with
     |nil=>rfl
     |cons z c=>rw[Mn,G0]at l f;rw[E9,E9,B _ _ z _ P Q l.1 f.1,hi _ c _ S T l.2 f.2]
 intro n;induction n with
 |zero=>intro x y z v h1 h2 l f;cases h1<;>cases h2<;>first|rfl|(cases z<;>rfl)
 |succ n B =>
  intro x y z v h1 h2 l f;cases h1 with
  |non=>cases h2;rfl
  |bl b=>cases h2;rfl
  |int b=>cases h2;rfl
  |str b=>cases h2;rfl
  |ty b=>cases h2;rfl
  |@tup a vs ds A r =>
   cases h2 with
   |tup h r' =>
    have e:=I.tuple_inj A h;subst e;cases z with
    |tup c=>exact p n B _ _ c _ r r' l f
    |_=>rfl
   |@ref i _ e =>
    exfalso;obtain⟨its,_,⟨o,C,E,_⟩,_⟩:=I.tuple A;have hi:i<M.length:=by rw[<-m.len];exact(C2.mp e).1
    obtain⟨u,g,_,_,_,⟨o',J,q,t,_⟩⟩:=mW I m e (A5 hi) (eW (A5 hi) f).1;rw[C]at q;cases q;rw[E]at t;injection t with f3;exact t7 f3<|by decide
  |@ref i a e =>
   have hi:i<M.length:=by rw[<-m.len];exact(C2.mp e).1
   have w:=A5 hi;obtain⟨vs,its,A,r,W,N⟩:=mW I m e w (eW w l).1;cases h2 with
   |tup h r'=>exfalso;obtain⟨g,_,⟨o,C,E,_⟩,_⟩:=I.tuple h;obtain⟨o',J,q,t,_⟩:=N;rw[C]at q;cases q;rw[E]at t;injection t with f3;exact t7 f3<|by decide
   |@ref j _ F =>
    have L:j<M.length:=by rw[<-m.len];exact(C2.mp F).1
    have d:=A5 L;obtain⟨u,g,h,r',R,O⟩:=mW I m F d (eW d f).1;have G:vs=u:=I.list_inj A h;subst G;cases z with
    |ref k =>
     simp only[v8,w,d];cases M[k]? with
     |none=>rfl
     |some U=>exact p n B _ _ _ _ r r' (eW w l).2 (eW d f).2
    |_=>rfl
theorem Bx{k:Nat}(G:Room k X.A){pins:List (c8×c9)}{σ:St}{H:Hp}{s:f8}{ρ:List c8}{M:w6}(I:v4 X pins σ H s)(m:z6 X.K ρ M H){x:D}{n:V}{v:c3}(N:v9 X.K ρ H x n)(O:aN n v)(B:x9 M x3 x=b8):∀{ys:List D}{ws:List V}{its:List c3},Reps X.K ρ H ys ws->az ws its->ys.all (x9 M x3)=b8->∃e:c3->Bool,(∀u∈its,Mx X.A.in1 s u v<|e u)/\its.any e=Na M x ys:=by
 have y:X.A.in1.units+x3<j9:=by have:=G.un;show X.A.units+1+x3<j9;unfold x3;lia
 intro ys ws its i vs ok
 classical
 refine⟨λu=>if h:∃d a,v9 X.K ρ H d a/\aN a u/\x9 M x3 d=b8 then v8 M x3 h.choose x else b9,λu E=>?_,?_⟩;obtain⟨j,L,C⟩:=List.getElem_of_mem E;have z:j<ws.length:=by rw[vs.length];exact L
 obtain⟨d,w,f⟩:=i.getV<|A5 z;obtain⟨l,b,S⟩:=jv vs<|A5 z;have:l=u:=by rw[A5 L]at b;cases b;exact C
 subst this;have o:=G7.mp ok _<|G1 w;have h:∃d a,v9 X.K ρ H d a/\aN a l/\x9 M x3 d=b8:=⟨d,_,f,S,o⟩
 show Mx X.A.in1 s l v (if h:_ then _ else _);rw[dif_pos h];obtain⟨a,g,p,c⟩:=h.choose_spec;have F:=aN.inj p S;subst F;rw[uz I m x3 _ d x _ g f c o];exact(kY I m x3 X.A.in1 d x _ n _ v y f S N O (G7.mp ok _<|G1 w) B).1;clear y B;unfold Na;induction ys generalizing ws its with
 |nil=>cases i;cases vs;rfl
 |cons d ds J =>
  cases i with
  |cons r t =>
  cases vs with
  |cons q t' =>
   rename_i a P u us;rw[Mn,G0]at ok;have h:∃d a,v9 X.K ρ H d a/\aN a u/\x9 M x3 d=b8:=⟨d,_,r,q,ok.1⟩
   rw[PK,PK,J t t' ok.2,dif_pos h];obtain⟨Q,g,p,c⟩:=h.choose_spec;have F:=aN.inj p q;subst F;rw[uz I m x3 _ d x _ g r c ok.1]
theorem FA{X:Cx}(g:Bool)(F:Room k X.A):G9 X (j7<|if g then .NotIn else .In) (Jo g):=by
 rintro G s σ H O P v u R I D E ⟨x,y,M,ρ,Q,m,B,K,q,k⟩;cases K with
 |non=>exact q.elim
 |bl b=>exact q.elim
 |int b=>exact q.elim
 |ty b=>exact q.elim
 |str z =>
  cases B with
  |str p =>
   obtain⟨t,rfl⟩:=D;obtain⟨t',rfl⟩:=E;cases g with
   |false=>exact in_str<|jg I m k<|by simpa [Jo]using q
   |true=>exact notIn_str<|jg I m k<|by simpa [Jo]using q
  |_=>exact q.elim
 |@tup a N ys j r =>
  cases E;obtain⟨⟨o,n⟩,q⟩:=(show (x9 M x3 x=b8/\_)/\_ from q)
  obtain⟨its,C,l,J⟩:=I.tuple j;obtain⟨e,i,f⟩:=Bx F I m B D o r C n;have d:its.toArray.any e=Na M x ys:=by rw[<-f];simp
  cases g with
  |false=>exact SeqAt.in_tupleAt e l (λw c=>i w<|by simpa using c)<|by rw[d];exact jg I m k<|by simpa using q
  |true=>exact SeqAt.notIn_tupleAt e l (λw c=>i w<|by simpa using c)<|by rw[d];exact jg I m k<|by simpa using q
 |ref h =>
  cases E;obtain⟨ys,L,⟨o,n⟩,q⟩:=(show ∃ys,aq M _ ys/\(x9 M x3 x=b8/\_)/\_ from q)
  obtain⟨N,j,r⟩:=aq.seq m L h;obtain⟨its,C,l,J⟩:=I.list j;obtain⟨e,i,f⟩:=Bx F I m B D o r C n;have d:its.toArray.any e=Na M x ys:=by rw[<-f];simp
  cases g with
  |false=>exact SeqAt.in_listAt e l.isList (λw c=>i w<|by simpa using c)<|by rw[d];exact jg I m k<|by simpa using q
  |true=>exact SeqAt.notIn_listAt e l.isList (λw c=>i w<|by simpa using c)<|by rw[d];exact jg I m k<|by simpa using q
theorem od_in(i:Room k X.A):G9 X (j7 .In) Ph:=FA b9 i
theorem Dt(i:Room k X.A):G9 X (j7 .NotIn) na:=FA b8 i
theorem LJ:f6 "len" = a9 (.builtin "len"):=by decide +kernel
theorem LK:f6 "any" = a9 (.builtin "any"):=by decide +kernel
theorem Cj:f6 "sorted" = a9 (.builtin "sorted"):=by decide +kernel
theorem Fg:f6 "tuple" = a9 (.type "tuple"):=by decide +kernel
theorem IH:f6 "dict" = a9 (.type "dict"):=by decide +kernel
noncomputable def visB(c:f9)(x:c5):Bool:=match c.names.lookup x with
 |some .local=>b8
 |some .cell=>b8
 |some .free=>b8
 |_=>b9
theorem IV(h:visB sc x=b8):Oj sc x:=by unfold visB at h;unfold Oj;split at h;rename_i e;exact .inl e;rename_i e;exact .inr<|.inl e;rename_i e;exact .inr<|.inr e;cases h
noncomputable def IL(c:f9)(x:c5):Bool:=match c.names.lookup x with
 |some .local=>b8
 |some .cell=>b8
 |_=>b9
theorem AZ(h:IL sc x=b8):NU sc x:=by unfold IL at h;unfold NU;split at h;rename_i e;exact .inl e;rename_i e;exact .inr e;cases h
structure HE(X:Cx)(e:h7)(t:A3):Prop where
 ok:DE X e t
structure HT(X:Cx)(e:h7)(t:H9):Prop where
 ok:DT X e t
structure HW(X:Cx)(e:h7)(t:H9):Prop where
 ok:DW X e t
structure HA(X:Cx)(es:List h7)(t:I9):Prop where
 ok:DA X es t
structure HS(X:Cx)(e:i6)(t:v5):Prop where
 ok:DS X e t
structure HB(X:Cx)(e:List i6)(t:v5):Prop where
 ok:Nb X e t
structure HG(X:Cx)(e:h7)(t:L6):Prop where
 ok:DG X e t
structure HI(X:Cx)(tg e:h7)(t:Mv):Prop where
 ok:DI X tg e t
structure OJ(X:Cx)(e:List h7)(t:H9):Prop where
 ok:Nm X e (lowT X.K t)
structure HO'(X:Cx)(e:Option h7)(t:Ol):Prop where
 ok:PO X e (Kc X.K t)
structure I0(X:Cx)(f:c3->c3->Sem c3)(r:G2):Prop where
 ok:G9 X f r
structure HUn(X:Cx)(f:c3->Sem c3)(r:Rh):Prop where
 ok:UnD X f r
structure HC(X:Cx)(f:c3)(r:D6):Prop where
 ok:kI X f r
structure Qj(X:Cx)(name:c5)(r:c5->D6):Prop where
 ok:∃id,Slot "str" name id/\m9 (.builtin id)=pure (.type "method_descriptor")/\K3 X id (AV X.K r)
structure Px(X:Cx)(name:c5)(r:Nat->D6):Prop where
 ok:∃id,Slot "list" name id/\m9 (.builtin id)=pure (.type "method_descriptor")/\K3 X id (kw X.K r)
theorem k_var(h:X.N[i]?=a9 x:=by kernel_rfl)(c:visB X.env.scope x=b8:=by kernel_rfl)(a:(x==("__debug__":c5))=b9:=by kernel_rfl)(d:(x==("__classdict__":c5))=b9:=by kernel_rfl):HE X (.Name x pos) (ab i):=⟨d_var h (IV c) a d⟩
theorem k_int:HE X (.Constant (.int i) j pos) (dC<|.int i):=⟨d_int⟩
theorem k_bl:HE X (.Constant (.bool i) j pos) (dC<|.bl i):=⟨d_bl⟩
theorem k_non:HE X (.Constant .none j pos) (dC .non):=⟨d_non⟩
theorem k_str:HE X (.Constant (.str i) j pos) (dC<|.str i):=⟨d_str⟩
theorem k_op(m:I0 X (j6 op) r)(f:HE X a ta)(d:HE X b tb):HE X (.BinOp a op b pos) (u8 r ta tb):=⟨d_op m.ok f.ok d.ok⟩
theorem k_cmp(o:I0 X (j7 op) r)(f:HE X a ta)(d:HE X b tb)(m:j8 op b=b9:=by kernel_rfl):HE X (.Compare a [op] [b] pos) (u8 r ta tb):=⟨d_cmp o.ok f.ok d.ok m⟩
theorem Kh(o:I0 X (j7 op) r)(f:HE X a ta)(d:HE X b tb)(m:j8 op b=b9:=by kernel_rfl):HT X (.Compare a [op] [b] pos) (aG<|u8 r ta tb):=⟨Lh o.ok f.ok d.ok m⟩
theorem Hv(o:I0 X (j7 op) r)(h:I0 X (j7 op') r')(f:HE X a ta)(d:HE X b tb)(e:HE X c tc)(m:lastMarks [op,op'] [b,c]=b9:=by kernel_rfl):HE X (.Compare a [op,op'] [b,c] pos) (uJ r r' ta tb tc):=⟨Iz o.ok h.ok f.ok d.ok e.ok m⟩
theorem Kf(h:HE X e te)(i:∀whole,isTrue e X.env whole=(do let v <-whole;standAt e.pos;i7 [v] (truthy v)):=by intro _;kernel_rfl):HT X e (aG te):=⟨Le h.ok i⟩
theorem Hb(f:HT X a tA):HW X (.BoolOp .And [a] pos) tA:=⟨Ie f.ok⟩
theorem Kd(f:HT X a tA):HW X (.BoolOp .Or [a] pos) tA:=⟨Lc f.ok⟩
theorem FC{X:Cx}{a b:h7}{aH:List h7}{s:Pos}{A tB:H9}(f:HT X a A)(d:HW X (.BoolOp .And (b::aH) s) tB):HW X (.BoolOp .And (a::b::aH) s) (LD A tB):=⟨Ld f.ok d.ok⟩
theorem Ke{X:Cx}{a b:h7}{aH:List h7}{s:Pos}{A tB:H9}(f:HT X a A)(d:HW X (.BoolOp .Or (b::aH) s) tB):HW X (.BoolOp .Or (a::b::aH) s) (NR A tB):=⟨dw_or f.ok d.ok⟩
theorem kw_t(h:HW X e tA):HT X e tA:=⟨dw_t h.ok⟩
theorem Kg(f:HT X a tA):HT X (.UnaryOp .Not a pos) (LB tA):=⟨Lg f.ok⟩
theorem k_one{op}(h:HE X a ta):HE X (.BoolOp op [a] pos) ta:=⟨d_one h.ok⟩
theorem k_and{X:Cx}{a b:h7}{aH:List h7}{t c:A3}{s:Pos}(f:HE X a t)(d:HE X (.BoolOp .And (b::aH) s) c):HE X (.BoolOp .And (a::b::aH) s) (yW t c):=⟨d_and f.ok d.ok⟩
theorem k_or{X:Cx}{a b:h7}{aH:List h7}{t c:A3}{s:Pos}(f:HE X a t)(d:HE X (.BoolOp .Or (b::aH) s) c):HE X (.BoolOp .Or (a::b::aH) s) (dOrV t c):=⟨d_or f.ok d.ok⟩
theorem k_not(f:HE X a ta):HE X (.UnaryOp .Not a pos) (EV ta):=⟨d_not f.ok⟩
theorem Hr(h:HT X c tA)(f:HE X a ta)(d:HE X b tb):HE X (.IfExp c a b pos) (dIfE tA ta tb):=⟨Iy h.ok f.ok d.ok⟩
theorem Kt:HA X [] ae:=⟨Lu⟩
theorem Hn(f:HE X e te)(i:HA X es t)(hs:i5 (e::es) X.env=(b9,eval e X.env)::i5 es X.env:=by kernel_rfl):HA X (e::es) (aa te t):=⟨Iv f.ok i.ok hs⟩
theorem k_tup{x1}(h:HA X es t):HE X (.Tuple es x1 pos) (dO t):=⟨d_tup h.ok⟩
theorem k_lst(h:HA X es t):HE X (.List es pos) (jp t):=⟨d_lst h.ok⟩
theorem Hw{id:String}{r:D6}(c:HC X (.builtin id) r)(d:X.mg x=b7)(v:f6 x=a9 (.builtin id))(f:HA X (e::es) t)(R:X.env.kindOf x=a9 .globalImplicit:=by kernel_rfl)(n:(x==("__name__":c5))=b9:=by kernel_rfl)(b:(x==("__debug__":c5))=b9:=by kernel_rfl)(i:i5 (e::es) X.env=(b9,eval e X.env)::i5 es X.env:=by kernel_rfl) (l:(i4 pos<|i5 es X.env).any (·.1)=b9:=by kernel_rfl):HE X (.Call (.Name x p) (e::es) [] pos) (v7 r t):=⟨IA c.ok d v f.ok R (by simpa using n) b i l⟩
theorem Ej(c:HC X (.type T) r)(d:X.mg x=b7)(v:f6 x=a9 (.type T))(f:HA X (e::es) t)(R:X.env.kindOf x=a9 .globalImplicit:=by kernel_rfl)(n:(x==("__name__":c5))=b9:=by kernel_rfl)(b:(x==("__debug__":c5))=b9:=by kernel_rfl)(i:i5 (e::es) X.env=(b9,eval e X.env)::i5 es X.env:=by kernel_rfl) (l:(i4 pos<|i5 es X.env).any (·.1)=b9:=by kernel_rfl):HE X (.Call (.Name x p) (e::es) [] pos) (v7 r t):=⟨ET c.ok d v f.ok R (by simpa using n) b i l⟩
theorem k_cal(C:x6 X.prog X.w X.K X.mg X.base j x ps P)(r:Room k X.A)(f:HA X (e::es) t)(L:Nat.ble j k=b8:=by kernel_rfl)(R:X.env.kindOf x=a9 .globalImplicit:=by kernel_rfl) (b:(x==("__debug__":c5))=b9:=by kernel_rfl) (i:i5 (e::es) X.env=(b9,eval e X.env)::i5 es X.env:=by kernel_rfl) (l:(i4 pos<|i5 es X.env).any (·.1)=b9:=by kernel_rfl):HE X (.Call (.Name x p) (e::es) [] pos) (v7 P t):=⟨d_cal C r f.ok (Nat.le_of_ble_eq_true L) R b i l⟩
theorem k_ix(f:HE X a ta)(d:HE X b tb)(hs:wv b:=by intro _ _;kernel_rfl):HE X (.Subscript a b pos) (u8 z5 ta tb):=⟨d_ix f.ok d.ok hs⟩
theorem Hk:HO' X b7 kE:=⟨Io⟩
theorem Hj(h:HE X e te):HO' X (a9 e) (oW te):=⟨Im h.ok⟩
theorem Hq{lo hi:Option h7}{t h:Ol}{j:Pos}(i:HE X e te)(g:HO' X lo t)(u:HO' X hi h):HE X (.Subscript e (.Slice lo hi b7 j) pos) (NQ te t h):=⟨Iw i.ok g.ok u.ok⟩
theorem k_ms(d:Qj X name r)(m:HE X o to)(f:HA X (e::es) t)(h:n5 o name X.env (eval o X.env)=eval o X.env:=by kernel_rfl)(w:((i4 cpos<|i5 (e::es) X.env).all (λx=>!x.1)&&(n9 cpos<|o0 [] X.env).all (λx=>x.1.isSome) && decide ((e::es).length+([]:List o4).length+(if ([]:List o4).isEmpty then 0 else 1)<30))=b8:=by kernel_rfl)(a:(apos.endLine==cpos.line)=b8:=by kernel_rfl) (hs:i5 (e::es) X.env=(b9,eval e X.env)::i5 es X.env:=by kernel_rfl) (n:(i4 cpos<|i5 es X.env).any (·.1)=b9:=by kernel_rfl):HE X (.Call (.Attribute o name apos) (e::es) [] cpos) (OI r to t):=let ⟨_,h1,h2,h3⟩:=d.ok;⟨d_ms h1 h2 h3 m.ok f.ok h w a hs n⟩
theorem k_ml(d:Px X name r)(m:HE X o to)(f:HA X (e::es) t)(h:n5 o name X.env (eval o X.env)=eval o X.env:=by kernel_rfl)(w:((i4 cpos<|i5 (e::es) X.env).all (λx=>!x.1)&&(n9 cpos<|o0 [] X.env).all (λx=>x.1.isSome) && decide ((e::es).length+([]:List o4).length+(if ([]:List o4).isEmpty then 0 else 1)<30))=b8:=by kernel_rfl)(a:(apos.endLine==cpos.line)=b8:=by kernel_rfl) (hs:i5 (e::es) X.env=(b9,eval e X.env)::i5 es X.env:=by kernel_rfl) (n:(i4 cpos<|i5 es X.env).any (·.1)=b9:=by kernel_rfl):HE X (.Call (.Attribute o name apos) (e::es) [] cpos) (ME r to t):=let ⟨_,h1,h2,h3⟩:=d.ok;⟨d_ml h1 h2 h3 m.ok f.ok h w a hs n⟩
theorem Kj:HB X [] bB:=⟨Ll⟩
theorem Ki{X:Cx}{st:i6}{b:v5}(h:HS X st b):HB X [st] b:=⟨Lk h.ok⟩
theorem Hi{X:Cx}{st:i6}{s:List i6}{b us:v5}(h1:HS X st b)(h2:HB X s us):HB X (st::s) (aC b us):=⟨Il h1.ok h2.ok⟩
theorem Bl(i:HE X e te)(hs:i8 e b7 pos.line X.env=pure b9:=by kernel_rfl):HS X (.Expr e pos) (kF te):=⟨Ik i.ok hs⟩
theorem FG(i:HE X e te):HS X (.Return (a9 e) pos) (bt te):=⟨Lj i.ok⟩
theorem Kk(h:HT X c tA)(f:HB X aS ts)(d:HB X bS us):HS X (.If c aS bS pos) (E4 tA ts us):=⟨ds_if h.ok f.ok d.ok⟩
theorem FF(h:X.N.Nodup)(a:HE X e te)(hi:X.N[i]?=a9 x:=by kernel_rfl)(b:IL X.env.scope x=b8:=by kernel_rfl)(hs:i8 e (a9<|.Name x pos') pos.line X.env=pure b9:=by kernel_rfl)(f:X.fn x=b8:=by kernel_rfl):HS X (.Assign [.Name x pos'] e pos) (aV te i):=⟨Li h a.ok hi (AZ b) hs<|.inl f⟩
theorem Hm(h:X.N.Nodup)(hi:X.N[i]?=a9 x:=by kernel_rfl)(a:IL X.env.scope x=b8:=by kernel_rfl)(f:X.fn x=b8:=by kernel_rfl):HG X (.Name x pos) (ap i):=⟨wj h hi (AZ a)<|.inl f⟩
theorem Kp(h:X.N.Nodup)(hi:X.N[i]?=a9 x:=by kernel_rfl)(f:X.env.scope.names.lookup x=a9 .local:=by kernel_rfl):HG X (.Name x pos) (ap i):=⟨wj h hi (.inl f)<|.inr f⟩
theorem Kl(h:HE X e te):HI X tg e (br te):=⟨Lo h.ok⟩
theorem FH{a:List i6}{b:v5}(hi:HI X tg iter di)(R:HG X tg g)(d:HB X a b)(hp:PassesOwn (i3 X.prog X.w) X.A X.env X.xe:=by exact PassesOwn.never)(f:X.calm=b8:=by kernel_rfl)(hs:∀x,j5 iter X.env x=pure x:=by intro _;kernel_rfl):HS X (.For tg iter a [] pos) (lE di g b):=⟨Lm hi.ok R.ok d.ok hp f hs⟩
theorem Hg:OJ X [] oH:=⟨Ih⟩
theorem Hf(h:HT X c tA):OJ X [c] tA:=⟨Ig h.ok⟩
theorem k_lc(hi:HI X tg iter di)(R:∀cl s0 H0 ex,HG (C8 X N' scope cl s0 H0 ex) tg g) (t:∀cl s0 H0 ex,OJ (C8 X N' scope cl s0 H0 ex) ifs tt) (i:∀cl s0 H0 ex,HE (C8 X N' scope cl s0 H0 ex) elt te) (B:ql X.env.scope.names X.N N' nt js scope=b8:=by kernel_rfl) (f:X.calm=b8:=by kernel_rfl)(hs:∀x,j5 iter X.env x=pure x:=by intro _;kernel_rfl):HE X (.ListComp elt [⟨tg,iter,ifs,0⟩] scope pos) (F6 nt js di g tt te):=⟨d_lc (BlkSc.chk B) hi.ok (λcl s0 H0 ex=>(R cl s0 H0 ex).ok) (λcl s0 H0 ex=>(t cl s0 H0 ex).ok) (λcl s0 H0 ex=>(i cl s0 H0 ex).ok) f hs⟩
theorem Bo(d:X.mg "range" = b7)(f:HA X [a] t)(R:X.env.kindOf "range" = a9 .globalImplicit:=by kernel_rfl)(hs:i5 [a] X.env=[(b9,eval a X.env)]:=by kernel_rfl):HI X tg (.Call (.Name "range" p) [a] [] pos) (bU t):=⟨BU d f.ok R hs⟩
theorem KG:I0 X (j6 .Sub) IJ:=⟨JT⟩
theorem KJ:I0 X (j6 .Mult) lu:=⟨GN⟩
theorem HJ:I0 X (j6 .FloorDiv) aO:=⟨GO⟩
theorem KK:I0 X (j6 .Mod) bY:=⟨JW⟩
theorem ho_lt:I0 X (j7 .Lt) M8:=⟨od_lt⟩
theorem ho_le:I0 X (j7 .LtE) OH:=⟨od_le⟩
theorem ho_gt:I0 X (j7 .Gt) Nl:=⟨od_gt⟩
theorem ho_is:I0 X (j7 .Is) Pg:=⟨od_is⟩
theorem Es:I0 X (j7 .IsNot) tL:=⟨Du⟩
theorem ho_eq(i:Room k X.A):I0 X (j7 .Eq) E8:=⟨od_eq i⟩
theorem ho_ne(i:Room k X.A):I0 X (j7 .NotEq) Og:=⟨od_ne i⟩
theorem ho_in(i:Room k X.A):I0 X (j7 .In) Ph:=⟨od_in i⟩
theorem Er(i:Room k X.A):I0 X (j7 .NotIn) na:=⟨Dt i⟩
theorem KP:HC X (.builtin "len") ir:=⟨LG⟩
theorem KQ(f:X.calm=b8:=by kernel_rfl):HC X (.builtin "any") IK:=⟨LH f⟩
theorem BC:Px X "append" cE:=⟨_,PySem.F.slot_list_append,PySem.F.type_list_append,yB⟩
theorem x6.byH{P:c7}{w:c6}{K:w9}{mg:c5->Option c3}{base:d5}{x:c5}{st:i6}{N ps:List c5}{k:Nat}{d:A7}(F:cB K mg x st ps)(i:FnScope N ps (aB st))(B:∀ds M R,d ds M R->ds.length=ps.length) {t:v5}(r:∀(f:c8) (cdv:c3) (A:f7) (outer:List Env) (s:f8) (H:Hp) (E:XK),Room k (A.deeper<|m5 x (aB st) s.heap.objs.size f cdv)->HB (zi LV P w K mg base N x (aB st) f cdv A outer s H E).nox (cr st) t)(p:∀ds M R,d ds M R->t ⟨λ_ M'=>aZ M R .non M',aZ M R,λ_ _=>False,λ_ _=>False⟩ (fW N ds) M):x6 P w K mg base (k+1) x ps d:=x6.of F i B (λf cdv A outer s H E h=>(r f cdv A outer s H E h).ok) p
theorem EC{P:c7}{w:c6}{K:w9}{mg:c5->Option c3}{base:d5}{x:c5}{st:i6}{N ps:List c5}{k:Nat}{d:A7}{f:c8}{a:k5}(F:MQ K x x st f a)(i:FnScope N ps (aB st))(B:∀ds M R,d ds M R->ds.length=ps.length) {t:v5}(r:∀(f:c8) (cdv:c3) (A:f7) (outer:List Env) (s:f8) (H:Hp) (E:XK),Room k (A.deeper<|m5 x (aB st) s.heap.objs.size f cdv)->HB (zi LV P w K mg base N x (aB st) f cdv A outer s H E).nox (cr st) t)(p:∀ds M R,d ds M R->t ⟨λ_ M'=>aZ M R .non M',aZ M R,λ_ _=>False,λ_ _=>False⟩ (fW N ds) M):FnOk P w K mg base LV (k+1) f a ps (MN K d):=HZ F i B (λf cdv A outer s H E h=>(r f cdv A outer s H E h).ok) p
theorem ia(I:List D->SD->w6->Prop)(h0:∀S M,I [] S M->ok M/\E.nx S M)(h1:∀x xs S M,I (x::xs) S M->∀L:SD->w6->Prop,(∀S' M',I xs S' M'->L S' M')->ok M/\g x S M λS2 M2=>tb ⟨E1 k0 L,E.rt,E.nx,E1 k0 L⟩ S2 M2):∀xs S M,I xs S M->uI ok g tb E k0 xs S M
 | [],S,M,h=>h0 S M h
 |x::xs,S,M,h=>h1 x xs S M h _<|ia I h0 h1 xs
theorem bh(I:Nat->SD->w6->Prop)(h0:∀S M,I xs.length S M->ok M/\E.nx S M)(h1:∀i x S M,xs[i]?=a9 x->I i S M->∀L:SD->w6->Prop,(∀S' M',I (i+1) S' M'->L S' M')->ok M/\g x S M λS2 M2=>tb ⟨E1 k0 L,E.rt,E.nx,E1 k0 L⟩ S2 M2)(h:I 0 S M):uI ok g tb E k0 xs S M:=by
 refine ia (λys S M=>∃i,xs.drop i=ys/\i+ys.length=xs.length/\I i S M) ?_ ?_ xs S M ⟨0,rfl,by simp,h⟩;rintro S M ⟨i,_,e,q⟩;have:i=xs.length:=by simpa using e
 subst this;exact h0 S M q;rintro x ys S M ⟨i,e,l,q⟩ L a;have b:xs[i]?=a9 x:=by
  have:(xs.drop i)[0]?=a9 x:=by rw[e];rfl
  simpa using this
 refine h1 i x S M b q L λS' M' j=>a S' M' ⟨i+1,?_,by simp at l;lia,j⟩;rw[<-List.drop_drop,e];rfl
theorem E1.now(h:P S M):E1 k0 P S M:=.inl h
theorem bO{lo:Int}{n i:Nat}{x:D}:(ip lo n)[i]?=a9 x↔i<n/\x=.int (lo+(i:Int)):=by unfold ip;rw[D8];by_cases h:i<n;simp[h,eq_comm];simp[h]
theorem aX{lo:Int}{n:Nat}:(ip lo n).length=n:=by simp[ip]
theorem aK(p:D->Bool)(f:D->D)(I:SD->Prop)(hok:ok M):∀(xs acc:List D) (S:SD),(∀x∈xs,∀S,I S->∃S',I S'/\∀(Y:D->SD->w6->Prop) (Z:SD->w6->Prop),(if p x=b8 then Y (f x) S' M else Z S' M) -> g x S M λS2 M2=>tt S2 M2 λb M3=>if b=b8 then te S2 M3 λy M4=>Y y S2 M4 else Z S2 M3) ->I S->acc.length+xs.length<=sizeLine->Q (.ref M.length) (M++[.lst<|acc++(xs.filter p).map f])->oX ok g tt te Q xs acc S M
 | [],acc,S,_,_,_,q=>⟨hok,by simpa using q⟩
 |x::xs,acc,S,step,hS,hl,q=>by obtain⟨S',hS',k⟩:=step x F4 S hS;refine⟨hok,k (λy S2 M4=>acc.length<sizeLine/\oX ok g tt te Q xs (acc++[y]) S2 M4) (λS2 M3=>oX ok g tt te Q xs acc S2 M3) ?_⟩;have step':=λy hy=>step y<|C6 _ hy;rw[D7]at hl;by_cases hp:p x=b8;rw[t5 hp];refine⟨by lia,aK p f I hok xs _ S' step' hS' (by rw[B6,G5];lia) ?_⟩;rw[List.filter_cons_of_pos hp,D5]at q;rw[Ix];exact q;rw[t6 hp];refine aK p f I hok xs acc S' step' hS' (by lia) ?_;rw[Ry hp]at q;exact q
theorem bi(f:D->D)(I:SD->Prop)(c:ok M)(xs acc:List D) (S:SD) (K:∀x∈xs,∀S,I S->∃S',I S'/\∀(Y:D->SD->w6->Prop),Y (f x) S' M->g x S M λS2 M2=>te S2 M2 λy M4=>Y y S2 M4)(a:I S) (l:acc.length+xs.length<=sizeLine) (q:Q (.ref M.length) (M++[.lst<|acc++xs.map f])):oX ok g oH te Q xs acc S M:=by refine aK (λ_=>b8) f I c xs acc S (λx d S a=>?_) a l (by rw[List.filter_eq_self.mpr λ_ _=>rfl];exact q);obtain⟨S',b,k⟩:=K x d S a;refine⟨S',b,λY Z h=>?_⟩;rw[t5 rfl]at h;have:=k Y h;simp only[oH,u4];exact this
theorem af:(M++[mo])[M.length]?=a9 mo:=by simp
theorem ad:aq (M++[.lst xs]) M.length xs:=.inl af
theorem aq.more(h:aq M n xs)(L:w6):aq (M++L) n xs:=by
 have l:∀{mo:MO},M[n]?=a9 mo->(M++L)[n]?=a9 mo:=λe=>by rw[LR (C2.mp e).1];exact e
 rcases h with h|h|h;exact .inl<|l h;exact .inr<|.inl<|l h;exact .inr<|.inr<|l h
theorem aZ.keep(h:R d M)(b:E6 M.length d)(p:M <+: M'):aZ M R d M':=.inr<|.inl ⟨M,.refl,b,p,h⟩
theorem aZ.now(h:R d M):aZ M R d M:=.inl h
theorem aZ.bl(h:R (.bl b) M)(p:M <+: M'):aZ M R (.bl b) M':=.keep h (.bl b) p
theorem aZ.str(h:R (.str b) M)(p:M <+: M'):aZ M R (.str b) M':=.keep h (.str b) p
theorem aZ.non(h:R .non M)(p:M <+: M'):aZ M R .non M':=.keep h .non p
theorem bf:M <+: M++[mo]:=Mc _ _
theorem Ga{a b:c5}(h:a.cps.toList=b.cps.toList):a=b:=by cases a;cases b;simp only[Array.toList_inj]at h;simpa using h
theorem cI{a:c5}:a.length=a.cps.toList.length:=by show a.cps.size=_;simp
theorem rN{a b:c5}:(a++b).cps.toList=a.cps.toList++b.cps.toList:=by show (a.cps++b.cps).toList=_;simp
theorem bx{a b:c5}:(a++b).length=a.length+b.length:=by rw[cI,cI,cI,rN,B6]
theorem fq:(⟨#[c]⟩:c5).length=1:=rfl
theorem ao(h:n<=1000):n<=sizeLine:=MR<|av h
theorem Cl{α:Type}{xs:List α}{i:Int}(h0:0<=i)(h1:i<xs.length):∃(j:Nat) (hj:j<xs.length),atI xs i=a9 xs[j]/\(j:Int)=i:=by
 have hj:i.toNat<xs.length:=by lia
 refine⟨i.toNat,hj,?_,by lia⟩;have e:i=((i.toNat:Nat):Int):=by lia
 have q:atI xs ((i.toNat:Nat):Int)=a9 xs[i.toNat]:=au<|A5 hj;rw[<-e]at q;exact q
theorem aq.get(h:aq M n xs):∃mo,M[n]?=a9 mo/\mo.items=xs/\mo.isL=b8:=by rcases h with h|h|h<;>exact⟨_,h,rfl,rfl⟩
theorem xI(h1:aq M i xs)(h2:aq M j ys):v8 M (n+1) (.ref i) (.ref j)=E9 (v8 M n) xs ys:=by obtain⟨a,f,rfl,h⟩:=h1.get;obtain⟨b,d,rfl,c⟩:=h2.get;simp only[v8,f,d]
theorem qO(h1:aq M i xs)(h:∀x∈xs,x9 M n x=b8):x9 M (n+1) (.ref i)=b8:=by obtain⟨a,f,rfl,b⟩:=h1.get;simp only[x9,f,b,Bool.true_and];exact G7.mpr h
theorem GL(h:∀x∈xs,x9 M n x=b8):x9 M (n+1) (.tup xs)=b8:=by simp only[x9];exact G7.mpr h
theorem aP:x9 M n (.str x)=b8:=by cases n<;>rfl
theorem aJ:x9 M n (.int x)=b8:=by cases n<;>rfl
theorem Fz:x9 M n (.bl x)=b8:=by cases n<;>rfl
theorem AL:x9 M n .non=b8:=by cases n<;>rfl
theorem Ia:E9 f xs []=xs.isEmpty:=by cases xs<;>rfl
theorem jf:v8 M n (.int a) (.int b)=(a==b):=by cases n<;>rfl
theorem ck:v8 M n (.str a) (.str b)=(a==b):=by cases n<;>rfl
def og:FQ:=λds S M Q=>match ds with
 | []=>Q S M
 |_=>False
def cq(t:L6)(u:FQ):FQ:=λds S M Q=>match ds with
 |d::r=>t d S M λb a=>u r b a Q
 | []=>False
def nZ(n:Nat)(t:FQ):L6:=λd S M Q=>match d with
 |.tup ds=>ds.length=n/\t ds S M Q
 |_=>False
theorem Ir:Py X [] og:=by
 rintro p s σ H vs us R I r ⟨ds,S,M,ρ,Q,m,b,f,q,k⟩;cases f with
 |nil=>exact Gy p s σ H _ us R I r ⟨rfl,k σ H ⟨S,M,ρ,m,.refl,b,q⟩⟩
 |cons _ _=>exact q.elim
theorem ER(h1:DG X e t)(h2:Py X es u)(hs:(j0 (e::es) X.env).map (·.2)=i9 e X.env::(j0 es X.env).map (·.2):=by rfl):Py X (e::es) (cq t u):=by
 rintro p s σ H vs us R I r ⟨ds,S,M,ρ,Q,m,l,f,q,k⟩;cases f with
 |nil=>exact q.elim
 |cons i f=>refine De h1 h2 hs p s σ H _ us R I r ⟨_,_,rfl,_,S,M,ρ,_,m,l,i,q,?_⟩;rintro n o ⟨g,d,c,j,g1,a,h⟩;exact⟨_,g,d,c,Q,j,a,f.grow g1,h,λb H' w=>k b H'<|SQ.trans g1 w⟩
theorem Lq(h:Py X es t)(a:X.calm=b8:=by rfl)(b:(j0 es X.env).length=n:=by rfl) (c:(j0 es X.env).findIdx? (·.1)=b7:=by rfl):DG X (.Tuple es j pos) (nZ n t):=by
 rintro p s σ H v u R I r ⟨d,S,M,ρ,Q,m,i,g,q,k⟩;cases g with
 |tup e f=>exact Jx a h b c p s σ H _ u R I r ⟨_,_,rfl,e,by rw[<-f.length];exact q.1,_,S,M,ρ,Q,m,i,f,q.2,k⟩
 |_=>exact q.elim
def LC(te:A3)(g:L6):v5:=λE S M=>te S M λd a=>g d S a E.nx
theorem Ln(i:DE X e te)(R:DG X tg g)(hs:swapsWithSole [tg] e pos.line X.env=pure b9:=by rfl)(h:swappedStores [tg] e X.env=pure b7:=by rfl)(h1:(j0 [tg] X.env).map (·.2)=[i9 tg X.env]:=by rfl):DS X (.Assign [tg] e pos) (LC te g):=by refine PS.imp (Jw i R hs h h1) ?_;rintro E σ H ⟨S,M,ρ,F,s,b,q,k⟩;refine⟨S,M,ρ,_,s,b,q,?_⟩;rintro v m ⟨d,f,c,l,g1,r,j⟩;exact⟨d,S,f,c,_,l,b.grow g1,r,j,λa H' w=>k.nx a H'<|SQ.trans g1 w⟩
def qSet:D->D->D->w6->(w6->Prop)->Prop:=λo i v M Q=>match o,i with
 |.ref n,.int k=>∃xs j,M[n]?=a9 (.lst xs)/\M9 xs.length k=a9 j/\Q (M.set n<|.lst<|xs.set j v)
 |_,_=>False
theorem Reps.set{K:w9}{ρ:List c8}{H:Hp}{d:D}{v:V}(r:v9 K ρ H d v):∀{ds:List D}{vs:List V} (i:Nat),Reps K ρ H ds vs->Reps K ρ H (ds.set i d) (vs.set i v)
 |_,_,_,.nil=>.nil
 |_,_,0,.cons _ t=>.cons r t
 |_,_,i+1,.cons q t=>.cons q<|Reps.set r i t
def ES(e d:A3):L6:=λv S M Q=>e S M λo a=>d S a λi M2=>qSet o i v M2 λb=>Q S b
theorem Lr(D:DE X o to)(hi:DE X i ti)(C:∀v,i9 (.Subscript o i pos) X.env v=(do
   let ov <-i7 [v] (eval o X.env)
   let iv <-i7 [v,ov] (eval i X.env)
   standAt pos
   i7 [v,ov,iv] (setItem ov iv v)
   release [v,ov,iv] []):=by intro _;rfl):DG X (.Subscript o i pos) (ES to ti):=by
 rintro p s σ H v u R I r ⟨d,S,M,ρ,Q,O,g,K,q,k⟩;refine Jy D hi CQ C p s σ H v u R I r ⟨S,M,ρ,_,O,g,q,?_⟩;rintro W T ⟨o',B,h,N,g1,G,E⟩;refine⟨S,B,h,_,N,g.grow g1,E,?_⟩;rintro V U ⟨i',M2,l,z,c,J,b⟩;have f:=G.grow c;cases f with
 |@ref n a t =>
  cases J with
  |int j =>
   obtain⟨xs,x,e,L,F⟩:=(show ∃xs w,M2[n]?=a9 (.lst xs)/\M9 xs.length j=a9 w/\Q S (M2.set n<|.lst<|xs.set w d)from b)
   obtain⟨vs,m,y⟩:=z.obj n a _ t e;obtain⟨P,A⟩:=z.write t e m<|Reps.set (K.grow<|g1.trans c) x y;exact⟨a,vs,j,x,rfl,rfl,m,by rw[<-y.length];exact L,k σ _ ⟨S,_,l,P,(g1.trans c).trans A,g.grow<|(g1.trans c).trans A,F⟩⟩
  |_=>exact b.elim
 |_=>exact b.elim
def fV:D6:=λds M Q=>match ds with
 | [.ref n]=>∃xs,aq M n xs/\Q (.tup xs) M
 | [.tup xs]=>Q (.tup xs) M
 |_=>False
theorem Fb:kI X (.type "tuple") fV:=by
 refine gP.imp rL ?_;rintro vs H R ⟨ds,M,ρ,Q,m,a,q,k⟩;unfold fV at q;split at q;obtain⟨xs,L,q⟩:=q
 first|have z:=Reps.inv_cons a|have z:=az.inv_cons a
 clear a;obtain⟨_,_,rfl,b,a⟩:=z;cases a;obtain⟨_,rfl,e⟩:=v9.inv_ref b;obtain⟨s,h,r⟩:=aq.seq m L e;exact⟨_,s,rfl,.inl ⟨h,λl g=>k _ _<|VQ.laidT m .refl r g q⟩⟩
 first|have z:=Reps.inv_cons a|have z:=az.inv_cons a
 clear a;obtain⟨_,_,rfl,b,a⟩:=z;cases a;cases b with
 |tup h r=>exact⟨_,_,rfl,.inr ⟨h,k _ H<|VQ.now m (.tup h r) q⟩⟩
 exact q.elim
theorem Dp:E5 X (j6 .Add) (λx y H Q=>∃a b ys,x=.ref a/\y=.ref b/\C7 X.K H a []/\C7 X.K H b ys/\Q (.ref b) H):=by intro t s σ H x y v u Q I G J h;obtain⟨a,b,ys,rfl,rfl,A,B,q⟩:=h;cases G;cases J;obtain⟨its,F,D,_⟩:=I.tuple A;obtain⟨r,M,E,_⟩:=I.tuple B;have e:its=[]:=F.nil_iff.mpr rfl;subst e;obtain⟨⟨w,z,l,L⟩,p,m,n,o⟩:=id D;obtain⟨⟨k,g,i,j⟩,f,c,C,d⟩:=id E;simp only at m o c d;subst m o c d;exact concat_meets ⟨_,p,rfl⟩ ⟨_,f,rfl⟩ noFill_tuple_add seq_tuple_add Rt Rz (RD _ _) (tuple_addW0 a b _ _ n C z g L j<|by simp) ⟨p,f,⟨.ref b,H,I,rfl,q⟩⟩
def aL:G2:=λx y M Q=>match x,y with
 |.tup xs,.tup ys=>xs.length+ys.length<=sizeLine/\Q (.tup<|xs++ys) M
 |_,_=>qAdd x y M Q
theorem GP:G9 X (j6 .Add) aL:=by
 rintro c s σ H f e v u R I g i ⟨x,y,M,ρ,Q,m,r,n,q,k⟩;unfold aL at q;split at q;rename_i xs ys;obtain⟨a,vs,rfl,h1,t⟩:=v9.inv_tup r;obtain⟨b,w,rfl,h2,S⟩:=v9.inv_tup n;have l:=t.length;have d:=S.length;cases xs with
 |nil=>cases t;exact Dp c s σ H _ _ v u R I g i ⟨a,b,w,rfl,rfl,h1,h2,k _ H<|VQ.now m (.tup h2 S) q.2⟩
 |cons j h =>
  refine GJ c s σ H _ _ v u R I g i ⟨a,b,vs,w,rfl,rfl,h1,h2,?_,by rw[<-l,<-d];exact q.1,λz=>?_,λ_ p hp=>k _ _<|VQ.laidT m .refl (t.append S) hp q.2⟩;intro z;subst z;simp at l;subst z;have:ys=[]:=by simpa using d
  subst this;rw[Mq]at q;exact k _ H<|VQ.now m (.tup h1 t) q.2
 exact JY c s σ H f e v u R I g i ⟨x,y,M,ρ,Q,m,r,n,q,k⟩
def nh(n:Nat):D6:=λds M Q=>match ds with
 | [.ref m]=>∃xs ys,M[n]?=a9 (.lst xs)/\M[m]?=a9 (.lst ys)/\n≠m/\xs.length+ys.length<=sizeLine/\Q .non (M.set n<|.lst<|xs++ys)
 |_=>False
theorem yA:K3 X "list.extend" (kw X.K nh):=by
 rintro p s σ H x xs v us R I A y ⟨n,a,ds,M,ρ,Q,j,g,c,f,q,k⟩;unfold nh at q;split at q;rename_i m;obtain⟨ys,E,e,l,u,o,q⟩:=q
 first|have z:=Reps.inv_cons f|have z:=az.inv_cons f
 clear f;obtain⟨_,_,rfl,w,f⟩:=z;cases f;obtain⟨b,rfl,t⟩:=v9.inv_ref w;obtain⟨vs,d,r⟩:=c.obj n a _ g e;obtain⟨D,h,i⟩:=c.obj m b _ t l;obtain⟨B,C⟩:=c.write g e d<|r.append i;exact AS p s σ H x _ v us R I A y ⟨a,b,vs,D,j,rfl,d,h,by rw[<-r.length,<-i.length];exact o,k _ _ ⟨.non,_,ρ,B,C,.non,q⟩⟩;exact q.elim
end L2
namespace Srt
open PySem PySem.W PyProof.Rows
noncomputable def run{α:Type}(c:Nat->Nat->Bool):KasT α->α
 |.ret a=>a
 |.ask i j k=>run c<|k<|c i j
theorem gX{α β:Type}{c:Nat->Nat->Bool}{f:α->KasT β}:∀t:KasT α,run c (t.bind f)=run c (f<|run c t)
 |.ret a=>rfl
 |.ask i j k=>gX<|k<|c i j
def Bd{α:Type}(n:Nat):KasT α->Prop
 |.ret _=>True
 |.ask i j k=>i<n/\j<n/\∀b,Bd n<|k b
def All{α:Type}(P:α->Prop):KasT α->Prop
 |.ret a=>P a
 |.ask _ _ k=>∀b,All P<|k b
theorem All.mono{α:Type}{P Q:α->Prop}(h:∀a,P a->Q a):∀t:KasT α,All P t->All Q t
 |.ret a,q=>h a q
 |.ask _ _ k,q=>λb=>All.mono h (k b)<|q b
theorem All.bind{α β:Type}{P:β->Prop}{f:α->KasT β}:∀t:KasT α,All (λa=>All P<|f a) t->All P (t.bind f)
 |.ret a,q=>q
 |.ask _ _ k,q=>λb=>All.bind (k b)<|q b
theorem Bd.bindA{α β:Type}{n:Nat}{f:α->KasT β}:∀t:KasT α,Bd n t->All (λa=>Bd n<|f a) t->Bd n (t.bind f)
 |.ret a,_,q=>q
 |.ask _ _ k,b,q=>⟨b.1,b.2.1,λx=>Bd.bindA (k x) (b.2.2 x)<|q x⟩
theorem All.run{α:Type}{P:α->Prop}{c:Nat->Nat->Bool}:∀t:KasT α,All P t->P (Srt.run c t)
 |.ret a,q=>q
 |.ask i j k,q=>All.run (k<|c i j)<|q _
theorem wp_run{α:Type}{cmp:Nat->Nat->(Bool->f8->Prop)->f8->Prop}{c:Nat->Nat->Bool}{n:Nat}{s:f8}{Q:α->f8->Prop}(hc:∀i j (C:Bool->f8->Prop),i<n->j<n->C (c i j) s->cmp i j C s):∀t:KasT α,Bd n t->Q (run c t) s->t.kasWp cmp Q s
 |.ret a,_,q=>q
 |.ask i j k,b,q=>hc i j _ b.1 b.2.1<|wp_run hc (k<|c i j) (b.2.2 _) q
structure L3(c:Nat->Nat->Bool):Prop where
 irr:∀a,c a a=b9
 tr:∀a b d,c a b=b8->c b d=b8->c a d=b8
 neg:∀a b d,c a d=b8->c a b=b8\/c b d=b8
section
variable{c:Nat->Nat->Bool}(O:L3 c)
def le(c:Nat->Nat->Bool)(a b:Nat):Prop:=c b a=b9
theorem le_refl(O:L3 c)(a:Nat):le c a a:=O.irr a
theorem le_trans(O:L3 c)(h1:le c a b)(h2:le c b d):le c a d:=by
 unfold le at *;cases q:c d a with
 |false=>rfl
 |true=>rcases O.neg d b a q with h|h;rw[h2]at h;cases h;rw[h1]at h;cases h
theorem le_of_lt(O:L3 c)(h:c a b=b8):le c a b:=by
 unfold le;cases q:c b a with
 |false=>rfl
 |true=>have:=O.tr a b a h q;rw[O.irr]at this;cases this
noncomputable abbrev at_(p:Array Nat)(k:Nat):Nat:=p.getD k 0
def Up(c:Nat->Nat->Bool)(p:Array Nat)(m:Nat):Prop:=∀i j,i<=j->j<m->le c (at_ p i) (at_ p j)
def Dn(c:Nat->Nat->Bool)(p:Array Nat)(m:Nat):Prop:=∀i j,i<=j->j<m->le c (at_ p j) (at_ p i)
def OK(c:Nat->Nat->Bool)(p:Array Nat)(a b:Nat):Prop:=∀i j,a<=i->i<b->a<=j->j<b->le c (at_ p i) (at_ p j)
theorem Up.one(O:L3 c)(p:Array Nat):Up c p 1:=λi j a L=>by
 have:i=j:=by lia
 subst this;exact le_refl O _
theorem Up.snoc(O:L3 c)(h:Up c p n)(h1:1<=n)(g:le c (at_ p<|n-1) (at_ p n)):Up c p (n+1):=λi j a L=>by
 by_cases b:j<n;exact h i j a b;have:j=n:=by lia
 subst this;by_cases hi:i=j;subst hi;exact le_refl O _;exact le_trans O (h i (j-1) (by lia)<|by lia) g
theorem Dn.snoc(O:L3 c)(h:Dn c p n)(h1:1<=n)(g:le c (at_ p n) (at_ p<|n-1)):Dn c p (n+1):=λi j a L=>by
 by_cases b:j<n;exact h i j a b;have:j=n:=by lia
 subst this;by_cases hi:i=j;subst hi;exact le_refl O _;exact le_trans O g<|h i (j-1) (by lia)<|by lia
theorem iI(L:j<=p.size)(k:Nat):at_ (L7 p i j) k=if i<=k/\k<j then at_ p (i+j-1-k)else at_ p k:=by have e:=getElem?_mirror_all (xs:=p) (i:=i) L k;unfold at_ L7;rw[Od,e];by_cases h:i<=k/\k<j;rw[t5 h,t5 h,Od];rw[t6 h,t6 h,Od]
theorem uT(b:k<p.size)(a:d<=k)(i:Nat):at_ (bubble p k d) i=if i=k-d then at_ p k else if k-d<i/\i<=k then at_ p (i-1)else at_ p i:=by have e:=getElem?_bubble (xs:=p) b d a i;unfold at_;rw[Od,e];by_cases h:i=k-d;rw[t5 h,t5 h,Od];rw[t6 h,t6 h];by_cases h':k-d<i/\i<=k;rw[t5 h',t5 h',Od];rw[t6 h',t6 h',Od]
theorem Dn.rev(h:Dn c p n)(f:n<=p.size):Up c (L7 p 0 n) n:=λi j a L=>by rw[iI f,iI f,t5 ⟨A8 _,by lia⟩,t5 ⟨A8 _,L⟩];exact h _ _ (by lia)<|by lia
theorem Dn.revEq(O:L3 c)(h:Dn c p n)(f:n<=p.size)(e:OK c p a n):Dn c (L7 p a n) n:=λi j b L=>by rw[iI f,iI f];by_cases h1:a<=i/\i<n;by_cases h2:a<=j/\j<n;rw[t5 h1,t5 h2];exact e _ _ (by lia) (by lia) (by lia) (by lia);exact t7 ⟨by lia,L⟩ h2;by_cases h2:a<=j/\j<n;rw[t6 h1,t5 h2];exact h _ _ (by lia) (by lia);rw[t6 h1,t6 h2];exact h _ _ b L
theorem wu(O:L3 c):∀(f n:Nat),1<=n->Up c p n->Up c p (run c<|Mw p f n)/\n<=run c (Mw p f n)/\run c (Mw p f n)<=n+f /\(run c (Mw p f n)<n+f->c (at_ p<|run c<|Mw p f n) (at_ p<|run c (Mw p f n)-1)=b8)
 | 0,n,_,h=>⟨h,x5 _,x5 _,λz=>t7 z<|G3 _⟩
 |f+1,n,h1,h=>by
  show Up c p (run c<|if c (at_ p n) (at_ p<|n-1)=b8 then .ret n else Mw p f (n+1))/\n<=run c (if c (at_ p n) (at_ p<|n-1)=b8 then .ret n else Mw p f (n+1)) /\ run c (if c (at_ p n) (at_ p<|n-1)=b8 then .ret n else Mw p f (n+1))<=n+(f+1)/\(run c (if c (at_ p n) (at_ p<|n-1)=b8 then .ret n else Mw p f (n+1))<n+(f+1) -> c (at_ p<|run c<|if c (at_ p n) (at_ p<|n-1)=b8 then .ret n else Mw p f (n+1)) (at_ p<|run c (if c (at_ p n) (at_ p<|n-1)=b8 then .ret n else Mw p f (n+1))-1)=b8)
  by_cases q:c (at_ p n) (at_ p<|n-1)=b8;rw[t5 q];exact⟨h,x5 _,Nat.le_add_right _ _,λ_=>q⟩;rw[t6 q];obtain⟨a1,a2,a3,a4⟩:=wu O f (n+1) (by lia) (h.snoc O h1<|by unfold le;simpa using q);exact⟨a1,by lia,by lia,λz=>a4<|by lia⟩
theorem fh:(L7 p i j).size=p.size:=mirror_size _ _ _ _
def Cr(c:Nat->Nat->Bool)(z n m:Nat)(r:Array Nat×Nat×Nat):Prop:=r.1.size=z/\Dn c r.1 r.2.1/\n<=r.2.1/\r.2.1<=m/\r.2.2+1<=r.2.1/\OK c r.1 (r.2.1-(r.2.2+1)) r.2.1
def rP(c:Nat->Nat->Bool)(z nrem:Nat)(r:Nat×Array Nat):Prop:=r.2.size=z/\Up c r.2 r.1/\1<=r.1/\r.1<=nrem
def ww(c:Nat->Nat->Bool)(p:Array Nat)(k m:Nat):Prop:=m<=k/\(∀i,i<m->le c (at_ p i) (at_ p k))/\∀i,m<=i->i<k->c (at_ p k) (at_ p i)=b8
theorem lQ(O:L3 c):∀(f:Nat) (p:Array Nat) (n q:Nat),q+1<=n->n+f<=p.size->Dn c p n->OK c p (n-(q+1)) n ->Cr c p.size n (n+f) (run c<|K4 f p n q)
 | 0,p,n,q,h1,h2,hd,he=>⟨rfl,hd,x5 _,x5 _,h1,he⟩
 |f+1,p,n,q,h1,h2,hd,he=>by
  have hn:n<=p.size:=by lia
  show Cr c p.size n (n+(f+1)) (run c<|if c (at_ p n) (at_ p<|n-1)=b8 then(if q > 0 then K4 f (L7 p (n-(q+1)) n) (n+1) 0 else K4 f p (n+1) 0) else .ask (at_ p<|n-1) (at_ p n) λd=>if d=b8 then .ret (p,n,q)else K4 f p (n+1) (q+1));by_cases hc:c (at_ p n) (at_ p<|n-1)=b8;rw[t5 hc];by_cases hq:q > 0;rw[t5 hq];have hd':Dn c (L7 p (n-(q+1)) n) (n+1):=by refine(hd.revEq O hn he).snoc O (by lia) ?_;rw[iI hn,iI hn,t6 (by lia),t5 ⟨by lia,by lia⟩];exact le_trans O (le_of_lt O hc)<|he _ _ (by lia) (by lia) (by lia)<|by lia
  have r:=lQ O f (L7 p (n-(q+1)) n) (n+1) 0 (by lia) (by rw[fh];lia) hd' (λi j a1 a2 a3 a4=>by
   have:i=n:=by lia
   have:j=n:=by lia
   subst_vars
   exact le_refl O _)
  obtain⟨a1,a2,a3,a4,a5,a6⟩:=r;exact⟨a1.trans fh,a2,by lia,by lia,a5,a6⟩;rw[t6 hq];have r:=lQ O f p (n+1) 0 (by lia) (by lia) (hd.snoc O (by lia)<|le_of_lt O hc) (λi j a1 a2 a3 a4=>by
   have:i=n:=by lia
   have:j=n:=by lia
   subst_vars
   exact le_refl O _)
  obtain⟨a1,a2,a3,a4,a5,a6⟩:=r;exact⟨a1,a2,by lia,by lia,a5,a6⟩;rw[t6 hc];show Cr c p.size n (n+(f+1)) (run c<|if c (at_ p<|n-1) (at_ p n)=b8 then .ret (p,n,q)else K4 f p (n+1) (q+1));by_cases hc':c (at_ p<|n-1) (at_ p n)=b8;rw[t5 hc'];exact⟨rfl,hd,x5 _,by show n<=_;lia,h1,he⟩;rw[t6 hc'];have l1:le c (at_ p n) (at_ p<|n-1):=by unfold le;simpa using hc'
  have l2:le c (at_ p<|n-1) (at_ p n):=by unfold le;simpa using hc
  have r:=lQ O f p (n+1) (q+1) (by lia) (by lia) (hd.snoc O (by lia) l1) (λi j a1 a2 a3 a4=>by by_cases hi:i=n;by_cases hj:j=n;subst hi hj;exact le_refl O _;subst hi;exact le_trans O l1 (he _ _ (by lia) (by lia) (by lia)<|by lia);by_cases hj:j=n;subst hj;exact le_trans O (he _ _ (by lia) (by lia) (by lia)<|by lia) l2;exact he _ _ (by lia) (by lia) (by lia)<|by lia);obtain⟨a1,a2,a3,a4,a5,a6⟩:=r;exact⟨a1,a2,by lia,by lia,a5,a6⟩
theorem sj(O:L3 c)(h1:1<=n)(f:n<=nrem)(hz:nrem<=p.size)(d:Dn c p n):rP c p.size nrem (run c<|kas_tail3 n nrem p):=by unfold kas_tail3;rw[gX];obtain⟨F,a,b,_⟩:=wu O (nrem-n) n h1 (d.rev<|by lia);exact⟨fh,F,J7 h1 a,J7 b<|by lia⟩
theorem kZ(O:L3 c)(h1:1<=n)(x:n+1<=nrem)(hz:nrem<=p.size)(m:OK c p 0 n)(k:c (at_ p n) (at_ p<|n-1)=b8):rP c p.size nrem (run c<|OP n nrem p):=by
 have l:Dn c p (n+1):=by refine Dn.snoc O (λi j o L=>m _ _ (by lia) (by lia) (by lia)<|by lia) h1<|le_of_lt O k
 unfold OP;rw[gX];obtain⟨a,g,u,v,w,h⟩:=lQ O (nrem-(n+1)) p (n+1) 0 (by lia) (by lia) l (λi j F r s t=>by
  have:i=n:=by lia
  have:j=n:=by lia
  subst_vars
  exact le_refl O _)
 by_cases q:(run c<|K4 (nrem-(n+1)) p (n+1) 0).2.2 > 0;rw[t5 q];obtain⟨d,b,e,f⟩:=sj O (p:=L7 (run c<|K4 (nrem-(n+1)) p (n+1) 0).1 ((run c<|K4 (nrem-(n+1)) p (n+1) 0).2.1-((run c<|K4 (nrem-(n+1)) p (n+1) 0).2.2+1)) (run c<|K4 (nrem-(n+1)) p (n+1) 0).2.1) (n:=(run c<|K4 (nrem-(n+1)) p (n+1) 0).2.1) (nrem:=nrem) (by lia) (by lia) (by rw[fh,a];exact hz)<|g.revEq O (by rw[a];lia) h;exact⟨d.trans<|fh.trans a,b,e,f⟩;rw[t6 q];obtain⟨d,b,e,f⟩:=sj O (p:=(run c<|K4 (nrem-(n+1)) p (n+1) 0).1) (n:=(run c<|K4 (nrem-(n+1)) p (n+1) 0).2.1) (nrem:=nrem) (by lia) (by lia) (by rw[a];exact hz) g;exact⟨d.trans a,b,e,f⟩
theorem BZ(O:L3 c)(h1:1<=nrem)(hz:nrem<=p.size):rP c p.size nrem (run c<|kas_count nrem p):=by
 unfold kas_count;rw[gX];obtain⟨F,a,o,l⟩:=wu O (nrem-1) 1 (x5 _)<|Up.one O p;generalize run c (Mw p (nrem-1) 1)=n at F a o l;by_cases k:(n==nrem)=b8;rw[t5 k];exact⟨rfl,F,a,by show n<=nrem;lia⟩;rw[t6 k];have x:n≠nrem:=by simpa using k
 have t:c (at_ p n) (at_ p<|n-1)=b8:=l (by lia);by_cases h2:n > 1;rw[t5 h2];show rP c p.size nrem (run c<|if c (at_ p 0) (at_ p<|n-1)=b8 then .ret (n,p)else OP n nrem (L7 p 0 n));by_cases f:c (at_ p 0) (at_ p<|n-1)=b8;rw[t5 f];exact⟨rfl,F,a,by show n<=nrem;lia⟩;rw[t6 f];have g:n<=p.size:=by lia
 have y:le c (at_ p<|n-1) (at_ p 0):=by unfold le;simpa using f
 have m:OK c p 0 n:=λi j b d u v=>le_trans O (F i (n-1) (by lia)<|by lia)<|le_trans O y<|F 0 j (by lia) v;have e:OK c (L7 p 0 n) 0 n:=λi j b d u v=>by rw[iI g,iI g,t5 ⟨b,d⟩,t5 ⟨u,v⟩];exact m _ _ (by lia) (by lia) (by lia)<|by lia
 have h:c (at_ (L7 p 0 n) n) (at_ (L7 p 0 n)<|n-1)=b8:=by rw[iI g,iI g,t6 (by lia),t5 ⟨by lia,by lia⟩];rcases O.neg _ (at_ p<|0+n-1-(n-1)) _ t with z|z;exact z;have:=m (n-1) (0+n-1-(n-1)) (by lia) (by lia) (by lia) (by lia);unfold le at this;rw[this]at z;cases z
 obtain⟨q,r,s,w⟩:=kZ O (p:=L7 p 0 n) (n:=n) (nrem:=nrem) (by lia) (by lia) (by rw[fh];exact hz) e h;exact⟨q.trans fh,r,s,w⟩;rw[t6 h2];have:n=1:=by lia
 subst this;exact kZ O (by lia) (by lia) hz (λi j b d u v=>by
  have:i=0:=by lia
  have:j=0:=by lia
  subst_vars
  exact le_refl O _) t
theorem nk(O:L3 c)(hu:Up c p k):∀(f l r:Nat),l<=r->r<=k->r-l<=f->(∀i,i<l->le c (at_ p i) (at_ p k))->(∀i,r<=i->i<k->c (at_ p k) (at_ p i)=b8) ->ww c p k (run c<|Nc p k f l r)
 | 0,l,r,h1,h2,h3,h4,h5=>⟨by show l<=k;lia,h4,λi a1 a2=>h5 i (by have a1':l<=i:=a1;lia) a2⟩
 |f+1,l,r,h1,h2,h3,h4,h5=>by
  show ww c p k (run c<|if l ≥ r then .ret l else .ask (at_ p k) (at_ p<|(l+r) / 2) λc=>if c=b8 then Nc p k f l ((l+r) / 2)else Nc p k f ((l+r) / 2+1) r);by_cases hl:l ≥ r;rw[t5 hl];exact⟨by show l<=k;lia,h4,λi a1 a2=>h5 i (by have a1':l<=i:=a1;lia) a2⟩;rw[t6 hl];show ww c p k (run c<|if c (at_ p k) (at_ p<|(l+r) / 2)=b8 then Nc p k f l ((l+r) / 2)else Nc p k f ((l+r) / 2+1) r);by_cases hc:c (at_ p k) (at_ p<|(l+r) / 2)=b8;rw[t5 hc];refine nk O hu f l ((l+r) / 2) (by lia) (by lia) (by lia) h4 λi a1 a2=>?_;rcases O.neg _ (at_ p i) _ hc with z|z;exact z;have:=hu ((l+r) / 2) i a1 a2;unfold le at this;rw[this]at z;cases z;rw[t6 hc];have lm:le c (at_ p<|(l+r) / 2) (at_ p k):=by unfold le;simpa using hc
  refine nk O hu f ((l+r) / 2+1) r (by lia) h2 (by lia) (λi hi=>?_) h5;exact le_trans O (hu i ((l+r) / 2) (by lia)<|by lia) lm
theorem Cg(O:L3 c)(f:k<p.size)(g:Up c p k)(l:m<=k)(h1:∀i,i<m->le c (at_ p i) (at_ p k))(h2:∀i,m<=i->i<k->c (at_ p k) (at_ p i)=b8):Up c (bubble p k<|k-m) (k+1):=by
 intro i j d L;have e:k-(k-m)=m:=by lia
 rw[uT f (by lia),uT f (by lia),e];by_cases hi:i=m;rw[t5 hi];by_cases h:j=m;rw[t5 h];exact le_refl O _;rw[t6 h,t5 ⟨by lia,by lia⟩];exact le_of_lt O (h2 _ (by lia)<|by lia);rw[t6 hi];by_cases a:m<i/\i<=k;rw[t5 a,t6 (by lia),t5 ⟨by lia,by lia⟩];exact g _ _ (by lia) (by lia);rw[t6 a];by_cases h:j=m;rw[t5 h];exact h1 i (by lia);rw[t6 h];by_cases b:m<j/\j<=k;rw[t5 b];exact g _ _ (by lia) (by lia);rw[t6 b];exact g _ _ d<|by lia
theorem Ci(O:L3 c):∀(f:Nat) (p:Array Nat) (k:Nat),k+f<=p.size->Up c p k->(run c<|kas_bin f p k).size=p.size/\Up c (run c<|kas_bin f p k) (k+f)
 | 0,p,k,_,h=>⟨rfl,h⟩
 |f+1,p,k,hz,h=>by show (run c<|(Nc p k k 0 k).bind λl=>kas_bin f (bubble p k<|k-l)<|k+1).size=p.size/\Up c (run c<|(Nc p k k 0 k).bind λl=>kas_bin f (bubble p k<|k-l)<|k+1) (k+(f+1));rw[gX];obtain⟨a1,a2,a3⟩:=nk O h k 0 k (A8 _) (x5 _) (by lia) (λi hi=>t7 hi<|Nv _) λi a1 a2=>t7 a2 (by lia);obtain⟨b1,b2⟩:=Ci O f (bubble p k<|k-run c (Nc p k k 0 k)) (k+1) (by rw[bubble_size];lia)<|Cg O (by lia) h a1 a2 a3;exact⟨b1.trans<|bubble_size _ _ _,by rw[show k+(f+1)=k+1+f by lia];exact b2⟩
theorem Gb(O:L3 c)(h1:1<=n):(run c<|No n).size=n/\Up c (run c<|No n) n:=by
 have hs:(PD<|C9 n).size=n:=by simp
 unfold No;rw[gX];obtain⟨F,a,b,t⟩:=BZ O (p:=PD<|C9 n) h1 (by rw[hs];exact x5 _);rw[hs]at F;generalize run c (kas_count n<|PD<|C9 n)=r at F a b t;by_cases g:r.1<n;rw[t5 g];obtain⟨d,e⟩:=Ci O (n-max r.1 1) r.2 (max r.1 1) (by rw[F];lia) (by rw[show max r.1 1=r.1 by lia];exact a);exact⟨d.trans F,by rw[show n=max r.1 1+(n-max r.1 1) by lia];simpa using e⟩;rw[t6 g];have f:r.1=n:=by lia
 rw[f]at a;exact⟨F,a⟩
def F8(n:Nat)(p:Array Nat):Prop:=p.toList.Perm<|C9 n
theorem F8.lt(h:F8 n p)(h0:0<n)(k:Nat):at_ p k<n:=by
 unfold at_;rw[Od];cases e:p[k]? with
 |none=>simpa using h0
 |some x =>
  have:x∈p.toList:=by rw[<-J5]at e;exact G1 e
  have:=h.mem_iff.mp this;simpa using this
theorem F8.rev(h:F8 n p):F8 n (L7 p i j):=(Array.perm_iff_toList_perm.mp<|mirror_perm p i j<|(j-i) / 2).trans h
theorem F8.bub(h:F8 n p):F8 n (bubble p i j):=(Array.perm_iff_toList_perm.mp<|bubble_perm p i j).trans h
section
variable{n:Nat}(h0:0<n)
theorem Cm(h0:0<n)(h:F8 n p):∀(f k:Nat),Bd n (Mw p f k)
 | 0,_=>trivial
 |f+1,k=>⟨h.lt h0 _,h.lt h0 _,λb=>by cases b with
  |true=>exact trivial
  |false=>exact Cm h0 h f<|k+1⟩
theorem rH(h0:0<n):∀(f:Nat) (p:Array Nat) (k q:Nat),F8 n p->Bd n (K4 f p k q)/\All (λr=>F8 n r.1) (K4 f p k q)
 | 0,p,k,q,h=>⟨trivial,h⟩
 |f+1,p,k,q,h=>by
  have key:∀b,(Bd n<|if b=b8 then(if q > 0 then K4 f (L7 p (k-(q+1)) k) (k+1) 0 else K4 f p (k+1) 0) else KasT.ask (p.getD (k-1) 0) (p.getD k 0) λd=>if d=b8 then KasT.ret (p,k,q)else K4 f p (k+1) (q+1))/\All (λr=>F8 n r.1) (if b=b8 then(if q > 0 then K4 f (L7 p (k-(q+1)) k) (k+1) 0 else K4 f p (k+1) 0) else KasT.ask (p.getD (k-1) 0) (p.getD k 0) λd=>if d=b8 then KasT.ret (p,k,q)else K4 f p (k+1) (q+1)):=λb=>by
   cases b with
   |true=>rw[t5 rfl];by_cases hq:q > 0;rw[t5 hq];exact rH h0 f _ _ _ h.rev;rw[t6 hq];exact rH h0 f _ _ _ h
   |false =>
    rw[t6<|by simp];have a:=rH h0 f p (k+1) (q+1) h;refine⟨⟨h.lt h0 _,h.lt h0 _,λb=>?_⟩,λb=>?_⟩;cases b with
    |true=>exact trivial
    |false=>exact a.1
    cases b with
    |true=>exact h
    |false=>exact a.2
  exact⟨⟨h.lt h0 _,h.lt h0 _,λb=>(key b).1⟩,λb=>(key b).2⟩
theorem lG(h0:0<n)(h:F8 n p):Bd n (kas_tail3 k m p)/\All (λr=>F8 n r.2) (kas_tail3 k m p):=by
 have v:∀{t:KasT Nat}{Q:Prop},Q->All (λ_=>Q) t:=λ{t Q} q=>by
  induction t with
  |ret a=>exact q
  |ask i j k c=>exact λb=>c b
 unfold kas_tail3;exact⟨Bd.bindA _ (Cm h0 h.rev _ _)<|v trivial,All.bind _<|v h.rev⟩
theorem fF(h0:0<n)(h:F8 n p):Bd n (OP k m p)/\All (λr=>F8 n r.2) (OP k m p):=by unfold OP;obtain⟨a,c⟩:=rH h0 (m-(k+1)) p (k+1) 0 h;refine⟨Bd.bindA _ a<|c.mono<|λr i=>?_,All.bind _<|c.mono<|λr i=>?_⟩;by_cases q:r.2.2 > 0;rw[t5 q];exact(lG h0 i.rev).1;rw[t6 q];exact(lG h0 i).1;by_cases q:r.2.2 > 0;rw[t5 q];exact(lG h0 i.rev).2;rw[t6 q];exact(lG h0 i).2
theorem Fa(h0:0<n)(h:F8 n p):Bd n (kas_count m p)/\All (λr=>F8 n r.2) (kas_count m p):=by
 have v:∀{t:KasT Nat}{Q:Nat->Prop},(∀a,Q a)->All Q t:=λ{t Q} q=>by
  induction t with
  |ret a=>exact q a
  |ask i j k c=>exact λb=>c b
 unfold kas_count;refine⟨Bd.bindA _ (Cm h0 h _ _)<|v λk=>?_,All.bind _<|v λk=>?_⟩;by_cases h1:(k==m)=b8;rw[t5 h1];exact trivial;rw[t6 h1];by_cases h2:k > 1;rw[t5 h2];refine⟨h.lt h0 _,h.lt h0 _,λb=>?_⟩;cases b with
 |true=>exact trivial
 |false=>exact(fF h0 h.rev).1
 rw[t6 h2];exact(fF h0 h).1;by_cases h1:(k==m)=b8;rw[t5 h1];exact h;rw[t6 h1];by_cases h2:k > 1;rw[t5 h2];intro b;cases b with
 |true=>exact h
 |false=>exact(fF h0 h.rev).2
 rw[t6 h2];exact(fF h0 h).2
theorem qG(h0:0<n)(h:F8 n p):∀(f l r:Nat),Bd n (Nc p k f l r)
 | 0,_,_=>trivial
 |f+1,l,r=>by
  show Bd n (if l ≥ r then KasT.ret l else KasT.ask (p.getD k 0) (p.getD ((l+r) / 2) 0) λc=>if c=b8 then Nc p k f l ((l+r) / 2)else Nc p k f ((l+r) / 2+1) r);by_cases hl:l ≥ r;rw[t5 hl];exact trivial;rw[t6 hl];refine⟨h.lt h0 _,h.lt h0 _,λb=>?_⟩;cases b with
  |true=>exact qG h0 h f _ _
  |false=>exact qG h0 h f _ _
theorem xN(h0:0<n):∀(f:Nat) (p:Array Nat) (k:Nat),F8 n p->Bd n (kas_bin f p k)/\All (λr=>F8 n r) (kas_bin f p k)
 | 0,p,k,h=>⟨trivial,h⟩
 |f+1,p,k,h=>by
  have triv:∀{t:KasT Nat}{Q:Nat->Prop},(∀a,Q a)->All Q t:=λ{t Q} q=>by
   induction t with
   |ret a=>exact q a
   |ask i j k ih=>exact λb=>ih b
  exact⟨Bd.bindA _ (qG h0 h _ _ _)<|triv λl=>(xN h0 f _ _ h.bub).1,All.bind _<|triv λl=>(xN h0 f _ _ h.bub).2⟩
theorem sort_bd(h0:0<n):Bd n (No n)/\All (λr=>F8 n r) (No n):=by
 have h:F8 n (PD<|C9 n):=by unfold F8;simp
 obtain⟨a,c⟩:=Fa h0 (m:=n) h;unfold No;refine⟨Bd.bindA _ a<|c.mono λr i=>?_,All.bind _<|c.mono λr i=>?_⟩;by_cases g:r.1<n;rw[t5 g];exact(xN h0 _ _ _ i).1;rw[t6 g];exact trivial;by_cases g:r.1<n;rw[t5 g];exact(xN h0 _ _ _ i).2;rw[t6 g];exact i
end
theorem sort_list{α:Type}[Inhabited α]{lt:α->α->Bool}(xs:List α)(h1:1<=xs.length)(r:∀a∈xs,lt a a=b9)(tr:∀a∈xs,∀b∈xs,∀d∈xs,lt a b=b8->lt b d=b8->lt a d=b8)(n:∀a∈xs,∀b∈xs,∀d∈xs,lt a d=b8->lt a b=b8\/lt b d=b8):let c:=λi j=>if i<xs.length then(if j<xs.length then lt (xs.getD i default) (xs.getD j default)else b8)else b9
  let p:=run c<|No xs.length
  let ys:=p.toList.map λi=>xs.getD i default
  ys.Perm xs/\ys.Pairwise λa b=>lt b a=b9:=by
 intro c p ys;have m:∀i,i<xs.length->xs.getD i default∈xs:=λi hi=>by rw[L5,A5 hi];exact MU hi
 have O:L3 c:=by refine⟨λa=>?_,λa b d=>?_,λa b d=>?_⟩;show (if a<xs.length then(if a<xs.length then lt _ _ else b8)else b9)=b9;by_cases f:a<xs.length;rw[t5 f,t5 f];exact r _<|m a f;rw[t6 f];show (if a<xs.length then(if b<xs.length then lt _ _ else b8)else b9)=b8->(if b<xs.length then(if d<xs.length then lt _ _ else b8)else b9)=b8->(if a<xs.length then(if d<xs.length then lt _ _ else b8)else b9)=b8;by_cases f:a<xs.length;by_cases h:b<xs.length;by_cases g:d<xs.length;rw[t5 f,t5 h,t5 h,t5 g,t5 f,t5 g];exact tr _ (m a f) _ (m b h) _<|m d g;intro _ _;rw[t5 f,t6 g];rw[t6<|show ¬b<xs.length from h];intro _ z;rw[t6 h]at z;cases z;intro z;rw[t6 f]at z;cases z;show (if a<xs.length then(if d<xs.length then lt _ _ else b8)else b9)=b8->(if a<xs.length then(if b<xs.length then lt _ _ else b8)else b9)=b8\/(if b<xs.length then(if d<xs.length then lt _ _ else b8)else b9)=b8;by_cases f:a<xs.length;by_cases h:b<xs.length;by_cases g:d<xs.length;rw[t5 f,t5 g,t5 f,t5 h,t5 h,t5 g];exact n _ (m a f) _ (m b h) _<|m d g;intro _;right;rw[t5 h,t6 g];intro _;left;rw[t5 f,t6 h];intro z;rw[t6 f]at z;cases z
 have E:F8 xs.length p:=All.run _ (sort_bd<|by lia).2;obtain⟨hs,U⟩:=Gb O h1;refine⟨?_,?_⟩;have e:(C9 xs.length).map (λi=>xs.getD i default)=xs:=by apply List.ext_getElem?;intro i;rw[D8];by_cases hi:i<xs.length;rw[List.getElem?_range hi];simp[L5,A5 hi];rw[NK (by simpa using hi),NK<|by simpa using hi];rfl
 have:=E.map λi=>xs.getD i default;rw[e]at this;exact this;show (p.toList.map λi=>xs.getD i default).Pairwise λa b=>lt b a=b9;rw[Qe];intro i j hi L t;rw[w4,F5]at hi L;have u:p.size=xs.length:=hs;have l:=U i j (by lia) (by lia);have o:∀k,at_ p k<xs.length:=λk=>E.lt (by lia) k;unfold le at l;have l':(if at_ p j<xs.length then(if at_ p i<xs.length then lt (xs.getD (at_ p j) default) (xs.getD (at_ p i) default)else b8)else b9)=b9:=l;rw[t5<|o j,t5<|o i]at l';have q:p.toList[i]=at_ p i:=by unfold at_;simp[MF,hi]
 have s:p.toList[j]=at_ p j:=by unfold at_;simp[MF,L]
 rw[List.getElem_map,List.getElem_map,q,s];exact l'
end
end Srt
namespace L2
open PySem PySem.Spec PyProof.Rows DL
def ze(A:f7)(s:f8)(x y:c3)(k:Bool):Prop:=∀(g:c7) (w:c6) (E:c3->f8->Prop) (Q:c3->f8->Prop),Q (.bool k) s->g9 (i3 g w) A (richCompare .Lt x y) Q E s
inductive LexAt(A:f7)(s:f8):List c3->List c3->Bool->Prop
 |nn:LexAt A s [] [] b9
 |nc {y:c3}{ys:List c3}:LexAt A s [] (y::ys) b8
 |cn {x:c3}{xs:List c3}:LexAt A s (x::xs) [] b9
 |eq {x y:c3}{xs ys:List c3}{k:Bool} (h:Mx A s x y b8) (t:LexAt A s xs ys k):LexAt A s (x::xs) (y::ys) k
 |ne {x y:c3}{xs ys:List c3}{k:Bool} (h:Mx A s x y b9) (t:ze A s x y k):LexAt A s (x::xs) (y::ys) k
section
open PySem.SeqAt
open PySem.AutoSeq1 (wpAny_loadPart')
open PySem.MeetsSeq PySem.MeetsSeq2 PySem.MeetsSeq3
theorem si(l b:c8)(a i:Array c3)(n C:Nat)(u f:Option c8)(D o:Array (Option c3))(k:Bool):Meets (Builtin.«tuple.__lt__» ⟨[.ref l,.ref b],[]⟩)
   (λA R s=>s.heap.get? l=a9 (⟨.type "tuple",u,.seq a n,D⟩:c9)/\s.heap.get? b=a9 { cls:=.type "tuple",dict:=f,data:=.seq i C,slots:=o } /\ LexAt A.in1 s a.toList i.toList k/\R (.ok<|.ret<|.bool k) s) :=
 .of_wp λp w A R s h=>by
  obtain⟨hp,g,d,r,q⟩:=s;obtain⟨z,v,c,h⟩:=h;have M:=AutoSeq1.sub_tuple_tuple
  wp_walk using RS z,RS v,MT _ (λaH b s'=>b.1=b7/\s'=⟨hp,g,d,r,q⟩/\∃(vs e:List c3),aH=vs.zip e /\ LexAt A.in1 ⟨hp,g,d,r,q⟩ vs e k/\vs.length+i.size=e.length+a.size) _
  case turn =>
   rintro⟨y,x⟩ aH b s' ⟨hb',rfl,vs,e,hz,hlex,hlen⟩;cases hlex with
   |nn=>cases hz
   |nc=>cases hz
   |cn=>cases hz
   |eq j t =>
    rw[NI]at hz;injection hz with hyx hrest;injection hyx with hy c;subst hy c;refine u7<|j p w _ _ ?_
    wp_walk
    exact⟨rfl,rfl,_,_,hrest,t,by simp only[D7]at hlen;lia⟩
   |ne j t =>
    rw[NI]at hz;injection hz with hyx hrest;injection hyx with hy c;subst hy c;refine u7<|j p w _ _ ?_;have m:=t p w
    wp_walk using m
    exact⟨_,rfl,by simpa using h⟩
  case fin =>
   rintro⟨b1,b2⟩ s' ⟨hb',rfl,vs,e,hz,hlex,hlen⟩;simp only at hb';subst hb';have B:k=decide (a.size<i.size):=by
    cases hlex with
    |nn=>simp only[D3]at hlen;exact(dF_<|by lia).symm
    |nc=>simp only[D3,D7]at hlen;exact(dT_<|by lia).symm
    |cn=>simp only[D3,D7]at hlen;exact(dF_<|by lia).symm
    |eq _ _=>rw[NI]at hz;cases hz
    |ne _ _=>rw[NI]at hz;cases hz
   rw[B]at h
   wp_walk
   exact⟨_,rfl,by simpa [Builtin.Tuple.tupleCompareSizes]using h⟩
  case h =>
   exact⟨rfl,rfl,a.toList,i.toList,rfl,c,by simp;lia⟩
end
theorem ze.tuples(v:s.heap.IsTuple l items)(u:s.heap.IsTuple b items2)(y:A.units<j9)(z:LexAt A.in1 s items.toList items2.toList k):ze A s (.ref l) (.ref b) k:=λq w E Q h=>by obtain⟨⟨r,t,g,C⟩,p,m,n,o⟩:=id v;obtain⟨⟨j,e,i,f⟩,d,a,B,c⟩:=id u;simp only at m o a c;subst m o a c;exact richCompare_meets_room (op:=.Lt) ⟨_,p,rfl⟩ ⟨_,d,rfl⟩ PySem.F.slot_tuple_lt PySem.F.entry_tuple_lt (PySem.F.args_tuple_lt_2 _ _) (si l b items items2 n B t e C f k) ⟨p,d,z,show Nr k≠Value.notImplemented/\Q (.bool k) s from⟨(λx=>nomatch x),h⟩⟩ y
noncomputable def rR(f g:D->D->Bool):List D->List D->Bool
 | [],[]=>b9
 | [],_::_=>b8
 |_::_,[]=>b9
 |x::xs,y::ys=>if f x y=b8 then rR f g xs ys else g x y
noncomputable def D0(M:w6):Nat->D->D->Bool
 |_,.int a,.int b=>decide<|a<b
 |_,.str a,.str b=>iM a b
 |n+1,.tup xs,.tup ys=>rR (v8 M n) (D0 M n) xs ys
 |_,_,_=>b9
noncomputable def yY(f g:D->D->Bool):List D->List D->Bool
 |x::xs,y::ys=>if f x y=b8 then yY f g xs ys else g x y
 |_,_=>b8
noncomputable def kG(M:w6):Nat->D->D->Bool
 |_,.int _,.int _=>b8
 |_,.str _,.str _=>b8
 |n+1,.tup xs,.tup ys=>yY (v8 M n) (kG M n) xs ys
 |_,_,_=>b9
theorem ze.ints(A:f7)(s:f8)(a:Int)(t:Tok)(c:Int)(u:Tok):ze A s (.int a t) (.int c u) (decide<|a<c):=λg w E Q h=>HT.rcLt_int A s a t c u g w E Q h
theorem ze.texts(A:f7)(s:f8)(a:c5)(t:Tok)(c:c5)(u:Tok):ze A s (.str a t) (.str c u) (iM a c):=λg w E Q h =>
 (PySem.P.lt_str (show Q (.bool<|decide<|a.cps.toList<c.cps.toList) s from h):g9 (i3 g w) A (j7 .Lt (.str a t)<|.str c u) Q E s)
theorem FB(I:v4 X pins σ H s)(sm:z6 X.K ρ M H):∀(n:Nat) (A:f7) (x y:D) (vx vy:V) (u v:c3),A.units+n<j9->v9 X.K ρ H x vx->aN vx u->v9 X.K ρ H y vy->aN vy v->x9 M n x=b8->x9 M n y=b8->kG M n x y=b8 ->ze A s u v (D0 M n x y):=by
 intro n;induction n with
 |zero =>
  intro A x y vx vy u v W J c f l S T m;cases J with
  |int a =>
   cases f with
   |int b=>obtain⟨t,rfl⟩:=c;obtain⟨t',rfl⟩:=l;exact ze.ints A s a t b t'
   |_=>simp[kG]at m
  |str a =>
   cases f with
   |str b=>obtain⟨t,rfl⟩:=c;obtain⟨t',rfl⟩:=l;exact ze.texts A s a t b t'
   |_=>simp[kG]at m
  |_=>simp[kG]at m
 |succ n Y =>
  intro A x y vx vy u v W J c f l S T m;have F:A.units<j9:=by lia
  have i:A.in1.units+n<j9:=by show A.units+1+n<j9;lia
  have G:∀(ds es:List D) (vs E:List V) (its g:List c3),Reps X.K ρ H ds vs->az vs its->Reps X.K ρ H es E->az E g->ds.all (x9 M n)=b8->es.all (x9 M n)=b8->yY (v8 M n) (kG M n) ds es=b8 -> LexAt A.in1 s its g (rR (v8 M n) (D0 M n) ds es):=by
   intro ds;induction ds with
   |nil =>
    intro es vs E its g p w o j _ _ _;cases p;cases w;cases o with
    |nil=>cases j;exact .nn
    |cons _ _=>cases j;exact .nc
   |cons d ds hi =>
    intro es vs E its g p w o j B C k;cases p with
    |cons L p =>
     cases w with
     |cons P w =>
      cases o with
      |nil=>cases j;exact .cn
      |@cons e _ U _ O o =>
       cases j with
       |cons R j=>rw[Mn,G0]at B C;have z:=(kY I sm n A.in1 d _ _ _ _ _ i L P O R B.1 C.1).1;rw[rR];rw[yY]at k;by_cases q:v8 M n d e=b8;rw[q]at z;rw[t5 q]at k ⊢;exact .eq z<|hi _ _ _ _ _ p w o j B.2 C.2 k;have h:=Nj.mpr q;rw[h]at z;rw[t6 q]at k ⊢;exact .ne z<|Y A.in1 _ _ _ _ _ _ i L P O R B.1 C.1 k
  cases J with
  |int a =>
   cases f with
   |int b=>obtain⟨t,rfl⟩:=c;obtain⟨t',rfl⟩:=l;exact ze.ints A s a t b t'
   |_=>simp[kG]at m
  |str a =>
   cases f with
   |str b=>obtain⟨t,rfl⟩:=c;obtain⟨t',rfl⟩:=l;exact ze.texts A s a t b t'
   |_=>simp[kG]at m
  |tup q r =>
   cases f with
   |tup h r'=>cases c;cases l;obtain⟨its,rr,Z,_⟩:=I.tuple q;obtain⟨g,Q,N,_⟩:=I.tuple h;refine ze.tuples Z N F ?_;exact G _ _ _ _ _ _ r rr r' Q (by simpa [x9]using S) (by simpa [x9]using T) m
   |_=>simp[kG]at m
  |_=>simp[kG]at m
noncomputable def D9:Nat->D->Bool
 |_,.int _=>b8
 |_,.str _=>b8
 |n+1,.tup xs=>xs.all<|D9 n
 |_,_=>b9
noncomputable def IM(f:D->List Int):List D->List Int
 | []=>[0]
 |x::xs=>1::(f x++IM f xs)
noncomputable def D1:Nat->D->List Int
 |_,.int i=>[0,i]
 |_,.str x=>1::(x.cps.toList.map (λ(c:Nat)=>(c:Int)+1)++[0])
 |n+1,.tup xs=>2::IM (D1 n) xs
 |_,_=>[3]
def cO(x y:List Int):Prop:=∀a b,x++a<y++b
theorem cO.cons(i:Int)(h:cO x y):cO (i::x) (i::y):=λa b=>MD.mpr<|.inr ⟨rfl,h a b⟩
theorem cO.head(x y:List Int)(h:i<j):cO (i::x) (j::y):=λa b=>MD.mpr<|.inl h
theorem cO.lt(h:cO x y):x<y:=by have:=h [] [];simpa using this
theorem cO.pre(z:List Int)(h:cO x y):cO (z++x) (z++y):=by
 induction z with
 |nil=>exact h
 |cons i z a=>exact a.cons i
theorem cO.more(u v:List Int)(h:cO x y):cO (x++u) (y++v):=λa b=>by rw[Ix,Ix];exact h _ _
def Ra(x y:D)(n:Nat)(l:Bool)(r:Bool):Prop:=(x=y/\l=b9/\r=b9)\/(x≠y/\l=b8/\r=b9/\cO (D1 n x) (D1 n y))\/(x≠y/\l=b9/\r=b8/\cO (D1 n y) (D1 n x))
theorem uK:∀(x y:List Nat),(x=y)\/(x<y/\¬y<x/\cO (x.map (λ(c:Nat)=>(c:Int)+1)++[0]) (y.map (λ(c:Nat)=>(c:Int)+1)++[0]))\/(¬x<y/\y<x/\cO (y.map (λ(c:Nat)=>(c:Int)+1)++[0]) (x.map (λ(c:Nat)=>(c:Int)+1)++[0]))
 | [],[]=>.inl rfl
 | [],c::y=>.inr<|.inl ⟨List.nil_lt_cons _ _,List.not_lt_nil _,cO.head _ _<|by dsimp only;lia⟩
 |c::x,[]=>.inr<|.inr ⟨List.not_lt_nil _,List.nil_lt_cons _ _,cO.head _ _<|by dsimp only;lia⟩
 |c::x,e::y=>by
  rcases OW c e with h|h|h;refine .inr<|.inl ⟨MD.mpr<|.inl h,λz=>?_,cO.head _ _<|by dsimp only;lia⟩;rcases MD.mp z with z|⟨z,_⟩<;>lia
  subst h;rcases uK x y with q|⟨q1,q2,q3⟩|⟨q1,q2,q3⟩
  exact .inl (by rw[q]);refine .inr<|.inl ⟨MD.mpr<|.inr ⟨rfl,q1⟩,λz=>?_,q3.cons _⟩;rcases MD.mp z with z|⟨_,z⟩
  lia;exact q2 z;refine .inr<|.inr ⟨λz=>?_,MD.mpr<|.inr ⟨rfl,q2⟩,q3.cons _⟩;rcases MD.mp z with z|⟨_,z⟩
  lia;exact q1 z;refine .inr<|.inr ⟨λz=>?_,MD.mpr<|.inl h,cO.head _ _<|by dsimp only;lia⟩;rcases MD.mp z with z|⟨z,_⟩<;>lia
theorem Lb(M:w6):∀(n:Nat) (x y:D),D9 n x=b8->D9 n y=b8->(v8 M n x y=b8↔x=y):=by
 have l:∀(n:Nat),(∀(x y:D),D9 n x=b8->D9 n y=b8->(v8 M n x y=b8↔x=y))->∀(xs ys:List D),xs.all (D9 n)=b8->ys.all (D9 n)=b8->(E9 (v8 M n) xs ys=b8↔xs=ys):=by
  intro n i xs;induction xs with
  |nil=>intro ys _ _;cases ys<;>simp[E9]
  |cons x xs hi =>
   intro ys h1 h2;cases ys with
   |nil=>simp[E9]
   |cons y ys=>rw[Mn,G0]at h1 h2;rw[E9,G0,i x y h1.1 h2.1,hi ys h1.2 h2.2,PY]
 intro n;induction n with
 |zero=>intro x y h1 h2;cases x<;>simp[D9]at h1<;>cases y<;>simp[D9]at h2<;>simp[v8]
 |succ n i =>
  intro x y h1 h2;cases x with
  |int a=>cases y<;>simp[D9]at h2<;>simp[v8]
  |str a=>cases y<;>simp[D9]at h2<;>simp[v8]
  |tup xs =>
   cases y with
   |tup ys=>simp only[v8,D.tup.injEq];exact l n i xs ys (by simpa [D9]using h1)<|by simpa [D9]using h2
   |int a=>simp[v8]
   |str a=>simp[v8]
   |_=>simp[D9]at h2
  |_=>simp[D9]at h1
theorem JS(M:w6):∀(n:Nat) (x:D),D9 n x=b8->x9 M n x=b8:=by
 intro n;induction n with
 |zero=>intro x h;cases x<;>simp[D9]at h<;>rfl
 |succ n i =>
  intro x h;cases x with
  |int a=>rfl
  |str a=>rfl
  |tup xs=>simp only[x9];rw[G7];intro y O;exact i y<|G7.mp (show xs.all (D9 n)=b8 from h) y O
  |_=>simp[D9]at h
theorem IW(M:w6):∀(n:Nat) (x y:D),D9 n x=b8->D9 n y=b8->kG M n x y=b8->Ra x y n (D0 M n x y) (D0 M n y x):=by
 have base:∀(n:Nat) (a b:Int),Ra (.int a) (.int b) n (decide<|a<b) (decide<|b<a):=λn a b=>by
  have e:∀a,D1 n (.int a)=[0,a]:=λa=>by cases n<;>rfl
  rcases Int.lt_trichotomy a b with h|h|h;exact .inr<|.inl ⟨by simp;lia,dT_ h,dF_ (by lia),by rw[e,e];exact(cO.head [] [] h).cons 0⟩;subst h;exact .inl ⟨rfl,dF_ (by lia),dF_<|by lia⟩;exact .inr<|.inr ⟨by simp;lia,dF_ (by lia),dT_ h,by rw[e,e];exact(cO.head [] [] h).cons 0⟩
 have s:∀(n:Nat) (a b:c5),Ra (.str a) (.str b) n (iM a b) (iM b a):=λn a b=>by
  have e:∀a:c5,D1 n (.str a)=1::(a.cps.toList.map (λ(c:Nat)=>(c:Int)+1)++[0]):=λa=>by cases n<;>rfl
  unfold iM;rcases uK a.cps.toList b.cps.toList with h|⟨h1,h2,d⟩|⟨h1,h2,d⟩
  have:a=b:=Ga h;subst this;exact .inl ⟨rfl,dF_<|MI _,dF_<|MI _⟩;exact .inr<|.inl ⟨λz=>by cases z;exact h2 h1,dT_ h1,dF_ h2,by rw[e,e];exact d.cons 1⟩;exact .inr<|.inr ⟨λz=>by cases z;exact h1 h2,dF_ h1,dT_ h2,by rw[e,e];exact d.cons 1⟩
 intro n;induction n with
 |zero=>intro x y h1 h2 d;cases x<;>simp[D9]at h1<;>cases y<;>simp[D9]at h2<;>first|exact base 0 _ _|exact s 0 _ _|simp[kG]at d
 |succ n m =>
  intro x y h1 h2 d;have l:∀(xs ys:List D),xs.all (D9 n)=b8->ys.all (D9 n)=b8->yY (v8 M n) (kG M n) xs ys=b8 -> (xs=ys/\rR (v8 M n) (D0 M n) xs ys=b9/\rR (v8 M n) (D0 M n) ys xs=b9) \/ (xs≠ys/\rR (v8 M n) (D0 M n) xs ys=b8/\rR (v8 M n) (D0 M n) ys xs=b9/\cO (IM (D1 n) xs) (IM (D1 n) ys)) \/ (xs≠ys/\rR (v8 M n) (D0 M n) xs ys=b9/\rR (v8 M n) (D0 M n) ys xs=b8/\cO (IM (D1 n) ys) (IM (D1 n) xs)):=by
   intro xs;induction xs with
   |nil =>
    intro ys _ _ _;cases ys with
    |nil=>exact .inl ⟨rfl,rfl,rfl⟩
    |cons y ys=>exact .inr<|.inl ⟨by simp,rfl,rfl,cO.head _ _<|by decide⟩
   |cons x xs hi =>
    intro ys h1 h2 d;cases ys with
    |nil=>exact .inr<|.inr ⟨by simp,rfl,rfl,cO.head _ _<|by decide⟩
    |cons y ys =>
     rw[Mn,G0]at h1 h2;rw[yY]at d;have i:=Lb M n x y h1.1 h2.1;have j:=Lb M n y x h2.1 h1.1;rw[rR,rR];by_cases q:x=y;subst q;rw[t5<|i.mpr rfl]at d;rw[t5<|i.mpr rfl,t5<|i.mpr rfl];rcases hi ys h1.2 h2.2 d with⟨F,f,g⟩|⟨F,f,g,t⟩|⟨F,f,g,t⟩
     exact .inl ⟨by rw[F],f,g⟩;exact .inr<|.inl ⟨λz=>F (PJ z).2,f,g,(t.pre<|D1 n x).cons 1⟩;exact .inr<|.inr ⟨λz=>F (PJ z).2,f,g,(t.pre<|D1 n x).cons 1⟩;have k:¬v8 M n x y=b8:=λz=>q<|i.mp z;have p:¬v8 M n y x=b8:=λz=>q (j.mp z).symm;rw[t6 k]at d;rw[t6 k,t6 p];rcases m x y h1.1 h2.1 d with⟨F,_⟩|⟨F,f,g,t⟩|⟨F,f,g,t⟩
     exact t7 F q;exact .inr<|.inl ⟨λz=>q (PJ z).1,f,g,(t.more _ _).cons 1⟩;exact .inr<|.inr ⟨λz=>q (PJ z).1,f,g,(t.more _ _).cons 1⟩
  cases x with
  |int a=>cases y<;>simp[D9]at h2<;>first|exact base (n+1) _ _|simp[kG]at d
  |str a=>cases y<;>simp[D9]at h2<;>first|exact s (n+1) _ _|simp[kG]at d
  |tup xs =>
   cases y with
   |tup ys =>
    rcases l xs ys (by simpa [D9]using h1) (by simpa [D9]using h2) d with⟨F,f,g⟩|⟨F,f,g,t⟩|⟨F,f,g,t⟩
    exact .inl ⟨by rw[F],f,g⟩;exact .inr<|.inl ⟨λz=>F<|D.tup.inj z,f,g,t.cons 2⟩;exact .inr<|.inr ⟨λz=>F<|D.tup.inj z,f,g,t.cons 2⟩
   |_=>simp[kG]at d
  |_=>simp[D9]at h1
theorem vO(h1:D9 n x=b8)(h2:D9 n y=b8)(h:kG M n x y=b8):D0 M n x y=decide (D1 n x<D1 n y):=by
 rcases IW M n x y h1 h2 h with⟨F,a,b⟩|⟨F,a,b,t⟩|⟨F,a,b,t⟩
 subst F;rw[a,dF_<|MI _];rw[a,dT_ t.lt];rw[a,dF_<|λz=>MI _<|List.lt_trans z t.lt]
theorem Ic(h1:D9 n x=b8)(h2:D9 n y=b8)(a:kG M n x y=b8)(e:D1 n x=D1 n y):x=y:=by
 rcases IW M n x y h1 h2 a with⟨F,_⟩|⟨_,_,_,t⟩|⟨_,_,_,t⟩
 exact F;have:=t.lt;rw[e]at this;exact t7 this<|MI _;have:=t.lt;rw[e]at this;exact t7 this<|MI _
end L2
namespace L2
open PySem PySem.Spec PyProof.Rows DL PySem.W
theorem v4.laidF(I:v4 X pins σ H s)(k:∀b u,b≠X.env.locals->s.heap.get? b=a9 u->h'.get? b=a9 u)(p:s.heap.Ns X.env.locals m)(h:h'.Ns X.env.locals m)(hp:s.heap.get? a=b7) (f:H a=b7) (j:cA X.prog X.w (A6 H a o) h' a o):v4 X pins σ (A6 H a o) { s with heap:=h',toks:=t' }:=by
 have i:∀b u,s.heap.get? b=a9 u->b≠a:=λb u e z=>by subst z;rw[hp]at e;cases e
 refine I.step (g':=s.gens) (d':=s.drawn) (ch:=[]) (λ_ z=>nomatch z) (λb u L _ _ e _=>k b u L e) (λb u L _ _ e _=>⟨u.slots,k b u L e⟩) (λb u _ e n=>by rw[ax<|i b u e];exact n) (λb u _ e=>?_) (λb xs q=>by rw[ax<|ah q f];exact q) (λb u xs q=>by rw[ax<|ah q f];exact q) (λb ps q=>⟨#[],by rw[ax<|ah q f,q];simp⟩) (λy l=>?_) (λb w q=>?_) I.bare;by_cases d:b=X.env.locals;subst d;obtain⟨o',_,_,t,_⟩:=h;exact⟨o',t⟩;exact⟨u,k b u d e⟩;have:m=y:=funext λx=>p.agree l x;subst this;exact h;by_cases d:b=a;subst d;rw[aW]at q;cases q;exact j;rw[ax d]at q;refine(I.hok b w q).stay (λc v g r=>k c v ?_ r) (λc z=>by rw[ax<|ah z f];exact z) λc xs z=>by rw[ax<|ah z f];exact z
 rcases g with rfl|g;exact ah q I.free;exact ah g I.free
theorem v4.keptF(I:v4 X pins σ H s)(k:∀b u,b≠X.env.locals->s.heap.get? b=a9 u->h'.get? b=a9 u)(i:s.heap.Ns X.env.locals m)(a:h'.Ns X.env.locals m):v4 X pins σ H { s with heap:=h',toks:=t' }:=by refine I.step (g':=s.gens) (d':=s.drawn) (ch:=[]) (λ_ z=>nomatch z) (λb u h _ _ e _=>k b u h e) (λb u h _ _ e _=>⟨u.slots,k b u h e⟩) (λb u _ e n=>n) (λb u _ e=>?_) (λb xs q=>q) (λb u xs q=>q) (λb ps q=>⟨#[],by rw[q];simp⟩) (λj g=>?_) (λb w q=>?_) I.bare;by_cases d:b=X.env.locals;subst d;obtain⟨o',_,_,o,_⟩:=a;exact⟨o',o⟩;exact⟨u,k b u d e⟩;have:m=j:=funext λx=>i.agree g x;subst this;exact a;refine(I.hok b w q).stay (λc v f r=>k c v ?_ r) (λc z=>z) λc xs z=>z;rcases f with rfl|f;exact ah q I.free;exact ah f I.free
theorem tx{prog:c7}{w:c6}{A:f7}{E:c3->f8->Prop}{s:f8}{l:c8}{vs:List c3}{Q:c3->f8->Prop}(u:s.heap.IsList l vs.toArray)(h2:vs.length<2)(h:∀D h' n,s.heap.objs.size<=D->(∀b o,s.heap.get? b=a9 o->h'.get? b=a9 o)->h'.get? D=a9 { cls:=.type "list",data:=.seq vs.toArray n }->Q (.ref D) { s with heap:=h' }):g9 (i3 prog w) A (call (.builtin "sorted")<|[AAu l]) Q E s:=by
 have f:vs.length<=sizeLine:=by rw[L8];lia
 refine Calls.call_function_entry kind_sorted plain_sorted entry_sorted (args_sorted1<|.ref l) ?_;unfold Builtin.«sorted»;refine u7 (m:=checkCount "sorted" 1 1 _)<|u9<|u7<|collect_list u (u7<|NY ?_ f) f;generalize R:((s.heap.push<|o8 "list" #[] 0).update s.heap.objs.size (G6 (· ++ vs.toArray)))=g1;have z:g1.objs.size=s.heap.objs.size+1:=by rw[<-R,Heap.size_update,size_push']
 have x:∀b o,s.heap.get? b=a9 o->g1.get? b=a9 o:=λb o q=>by have d:=A4 q;rw[<-R,N8 _ _ _ _<|A9 d,Heap.get?_push_ne _ _ _<|A9 d];exact q
 show g9 _ _ _ _ _ { s with heap:=g1.push (o8 "list" vs.toArray 0) };have L:(g1.push<|o8 "list" vs.toArray 0).get? g1.objs.size=a9 (o8 "list" vs.toArray 0):=C0 _ rfl;refine u7<|F3<|J4 slot_list_sort (⟨_,L,rfl⟩) entry_list_sort ?body<|args_list_sort<|.ref _
 case body =>
  rw[list_sort_plain];refine u7<|PC L rfl ?_;refine u7<|Ot L rfl ?_ (by rw[B5,L8];lia)<|A8 _;obtain⟨k,e⟩:∃k,((g1.push<|o8 "list" vs.toArray 0).update g1.objs.size<|G6 λ_=>(#[]:Array c3)).get? g1.objs.size=a9 (o8 "list" #[] k):=⟨_,Ox L λ_=>#[]⟩
  refine u7<|OO e rfl<|u7<|wpAny_newTuple (u7<|NY (F3 ?_)<|A8 _) f;dsimp only;have g:vs.toArray.size<2:=by rw[B5];exact h2
  rw[t5 g,t5 g];refine u7<|u9 ?_;rw[StateT.run_pure];refine u7<|u9 ?_;dsimp only;generalize c:(((g1.push<|o8 "list" vs.toArray 0).update g1.objs.size<|G6 λ_=>(#[]:Array c3)).push<|o8 "tuple" vs.toArray 0).push (o8 "list" #[] 0)=g3;have a:g3.get? g1.objs.size=a9 (o8 "list" #[] k):=by rw[<-c];exact A1 _<|A1 _ e
  have y:∀b o,b≠g1.objs.size->s.heap.get? b=a9 o->g3.get? b=a9 o:=λb o i q=>by have B:=x b o q;rw[<-c];refine A1 _<|A1 _ ?_;rw[N8 _ _ _ _ i];exact A1 _ B
  refine u7<|OO a rfl ?_;have r:∀us:List c3,us.length<2->(us.toArray.zip us.toArray).map (·.2)=us.toArray:=λus hu=>by
   match us,hu with
   | [],_=>simp
   | [v],_=>simp
   |_::_::_,hu=>simp at hu;lia
  have t:(arrOf<|ON general' (vs.toArray.zip vs.toArray) #[] 7 b7).map (·.2)=vs.toArray:=r vs h2;rw[t];refine u7 (Ot a rfl ?_ (A8 _)<|by rw[B5,L8];lia);simp only[show failedOf (ON general' (vs.toArray.zip vs.toArray) #[] 7 b7)=b7 from rfl,bne_self_eq_false,C5,u3];refine u9 ⟨_,rfl,u9 ⟨_,rfl,?_⟩⟩;obtain⟨j,p⟩:∃j,(g3.update g1.objs.size<|G6 λ_=>vs.toArray).get? g1.objs.size=a9 (o8 "list" vs.toArray j):=⟨_,Ox a λ_=>vs.toArray⟩
  refine h g1.objs.size _ j (by lia) (λb o q=>?_) p;have i:b≠g1.objs.size:=A9 (by rw[z];exact OB<|A4 q);rw[N8 _ _ _ _ i];exact y b o i q
structure SrtOk(M:w6)(xs:List D):Prop where
 len:xs.length<64
 ok:∀x∈xs,D9 x3 x=b8
 cm:∀x∈xs,∀y∈xs,kG M x3 x y=b8
 kd:(∀x∈xs,∃z,x=.str z)\/(∀x∈xs,∃i,x=.int i)\/(∀x∈xs,∃z r,x=.tup (.str z::r))\/(∀x∈xs,∃i r,x=.tup (.int i::r))\/(∀x∈xs,∃z r,x=.tup (.tup z::r))
structure SrtG(M:w6)(xs:List D):Prop where
 len:xs.length<64
 okd:∀x∈xs,x9 M x3 x=b8
 cm:∀x∈xs,∀y∈xs,kG M x3 x y=b8
 kd:(∀x∈xs,∃z,x=.str z)\/(∀x∈xs,∃i,x=.int i)\/(∀x∈xs,∃z r,x=.tup (.str z::r))\/(∀x∈xs,∃i r,x=.tup (.int i::r))\/(∀x∈xs,∃z r,x=.tup (.tup z::r))
 od:∃en:D->List Int,∀a∈xs,∀b∈xs,D0 M x3 a b=decide (en a<en b)
theorem SrtOk.g(o:SrtOk M xs):SrtG M xs:=⟨o.len,λx h=>JS M _ _<|o.ok x h,o.cm,o.kd,D1 x3,λa f b d=>vO (o.ok a f) (o.ok b d)<|o.cm a f b d⟩
def xQ(M:w6)(ys:List D):Prop:=ys.Pairwise λa b=>D0 M x3 b a=b9
def kh:D6:=λds M Q=>match ds with
 | [.ref n]=>∃xs,aq M n xs/\SrtG M xs/\∀ys,ys.Perm xs->xQ M ys->Q (.ref M.length) (M++[.lst ys])
 |_=>False
theorem Reps.perm{K:w9}{ρ:List c8}{H:Hp}{ds:List D}{vs:List V}(r:Reps K ρ H ds vs)(is:List Nat)(hi:∀i∈is,i<ds.length):Reps K ρ H (is.map λi=>ds.getD i .non) (is.map λi=>vs.getD i .non):=by
 induction is with
 |nil=>exact .nil
 |cons i is a=>have h:=hi i F4;obtain⟨v,e,d⟩:=r.get<|A5 h;refine .cons ?_<|a λj L=>hi j<|C6 _ L;show v9 K ρ H (ds.getD i .non) (vs.getD i .non);rw[L5,L5,e,A5 h];exact d
theorem az.perm(r:az vs us)(is:List Nat)(hi:∀i∈is,i<vs.length):az (is.map λi=>vs.getD i .non) (is.map λi=>us.getD i .none):=by
 induction is with
 |nil=>exact .nil
 |cons i is a=>have h:=hi i F4;obtain⟨v,e,d⟩:=jv r<|A5 h;refine .cons ?_<|a λj L=>hi j<|C6 _ L;show aN (vs.getD i .non) (us.getD i .none);rw[L5,L5,e,A5 h];exact d
instance:Inhabited D:=⟨.non⟩
theorem GQ(o:HO)(x:cA P w H h a o):∃u,h.get? a=a9 u:=by
 cases o with
 |lst _=>obtain⟨_,_,_,_,e⟩:=x;exact⟨_,e⟩
 |tup _=>obtain⟨_,_,_,o,e,_⟩:=x;exact⟨o,e⟩
 |dK _=>obtain⟨_,_,_,_,_,_,_,e,_⟩:=x;exact⟨_,e⟩
 |dT _=>obtain⟨_,_,_,_,o,_,_,e,_⟩:=x;exact⟨o,e⟩
 |set _ _=>obtain⟨o,_,_,_,e,_⟩:=x;exact⟨_,e⟩
 |ins _ _ _=>obtain⟨_,_,_,e,_⟩:=x;exact⟨_,e⟩
 |own _=>exact x
 |xd _=>obtain⟨_,⟨_,_,_,e,_⟩,_⟩:=x;exact⟨_,e⟩
 |rng _ _=>obtain⟨_,_,_,e⟩:=x;exact⟨_,e⟩
 |frz _ _=>obtain⟨e,_⟩:=x;exact⟨_,e⟩
 |tbl _=>exact⟨_,x⟩
 |met _ _=>exact⟨_,x⟩
 |ext _=>obtain⟨_,e,_⟩:=x;exact e
theorem E3.none(x:E3 P w H h)(e:h.get? a=b7):H a=b7:=by
 cases q:H a with
 |none=>rfl
 |some o=>exfalso;obtain⟨u,g⟩:=GQ o<|x a o q;rw[e]at g;cases g
theorem GU(I:v4 X pins σ H s)(m:z6 X.K ρ M H)(n:Nat)(A:f7)(u:A.units+n<j9):∀(ds es:List D) (vs ws:List V) (its jts:List c3),Reps X.K ρ H ds vs->az vs its->Reps X.K ρ H es ws->az ws jts->ds.all (x9 M n)=b8->es.all (x9 M n)=b8 ->yY (v8 M n) (kG M n) ds es=b8->LexAt A s its jts (rR (v8 M n) (D0 M n) ds es):=by
 intro ds;induction ds with
 |nil =>
  intro es vs ws its jts g c p j _ _ _;cases g;cases c;cases p with
  |nil=>cases j;exact .nn
  |cons _ _=>cases j;exact .nc
 |cons d ds hi =>
  intro es vs ws its jts g c p j a C k;cases g with
  |cons F g =>
   cases c with
   |cons f c =>
    cases p with
    |nil=>cases j;exact .cn
    |@cons e _ o _ b p =>
     cases j with
     |cons l j=>rw[Mn,G0]at a C;have i:=(kY I m n A d _ _ _ _ _ u F f b l a.1 C.1).1;rw[rR];rw[yY]at k;by_cases q:v8 M n d e=b8;rw[q]at i;rw[t5 q]at k ⊢;exact .eq i<|hi _ _ _ _ _ g c p j a.2 C.2 k;have h:=Nj.mpr q;rw[h]at i;rw[t6 q]at k ⊢;exact .ne i<|FB I m n A _ _ _ _ _ _ u F f b l a.1 C.1 k
theorem Ei(h:LexAt A s its jts k):∀(i:Nat),(b&&i==0)=b9->(b&&i+1==0)=b9->Q k s->KatLex prog w A b (decide<|its.length<jts.length) Q (its.zip jts) i s:=by
 have n:∀i:Nat,(b&&i+1==0)=b9:=λi=>by cases b<;>simp
 induction h with
 |nn=>intro i _ _ q;exact q
 |nc=>intro i _ _ q;exact(show Q (decide<|0<_+1) s by rw[dT_<|Nat.succ_pos _];exact q)
 |cn=>intro i _ _ q;exact(show Q (decide<|_+1<0) s by rw[dF_<|Nv _];exact q)
 |@eq x y xs ys k e t a=>intro i d _ q;refine kat_cons<|e prog w _ _<|kat_yes ?_;have:=a (i+1) (n i) (n<|i+1) q;rw[show decide ((x::xs).length<(y::ys).length)=decide (xs.length<ys.length) by simp];exact this
 |@ne x y xs ys k e t=>intro i d _ q;refine kat_cons<|e prog w _ _<|kat_no ?_;rw[d];exact kat_one _ _<|t prog w _ _ q
theorem Bt(i:Mx A s p q e)(g:e=b9->∀Q':Bool->f8->Prop,Q' l s->g9 (i3 prog w) A (oneLt' (b&&0==0) p q) Q' (λ_ _=>False) s)(B:e=b8->LexAt A s its jts k)(h:Q (if e=b8 then k else l) s):KatLex prog w A b (decide<|(p::its).length<(q::jts).length) Q ((p::its).zip<|q::jts) 0 s:=by
 refine kat_cons<|i prog w _ _ ?_;cases e with
 |true=>refine kat_yes ?_;rw[show decide ((p::its).length<(q::jts).length)=decide (its.length<jts.length) by simp];exact Ei (B rfl) 1 (by cases b<;>rfl) (by cases b<;>rfl) h
 |false=>exact kat_no<|g rfl _ h
section
variable{X:Cx}{pins:List (c8×c9)}{σ:St}{H:Hp}{s:f8}{ρ:List c8}{M:w6}
theorem uc{M:Model}{h:d5}{x:c5}{t:Tok}:Looks M h (m9<|.str x t) (.type "str"):=Looks.of_pure rfl
theorem ud{M:Model}{h:d5}{x:Int}{t:Tok}:Looks M h (m9<|.int x t) (.type "int"):=Looks.of_pure rfl
theorem Reps.getD'(r:Reps X.K ρ H ds vs)(f:az vs its)(h:i<ds.length):∃v,v9 X.K ρ H (ds.getD i default) v/\aN v (its.getD i .none)/\ds.getD i default∈ds:=by obtain⟨v,e,d⟩:=r.get<|A5 h;obtain⟨u,a,S⟩:=jv f e;refine⟨v,?_,?_,?_⟩;rw[L5,A5 h];exact d;rw[L5,a];exact S;rw[L5,A5 h];exact MU h
theorem Reps.mem(r:Reps X.K ρ H ds vs)(f:az vs its)(h:u∈its):∃d v,d∈ds/\v9 X.K ρ H d v/\aN v u:=by
 induction ds generalizing vs its with
 |nil=>cases r;cases f;cases h
 |cons g ds i =>
  cases r with
  |cons e r =>
   cases f with
   |cons c q=>rcases(C3 (a:=u)).mp h with rfl|h;exact⟨_,_,F4,e,c⟩;obtain⟨d,v,h1,h2,b⟩:=i r q h;exact⟨d,v,C6 _ h1,h2,b⟩
theorem wa(I:v4 X pins σ H s)(r:Reps X.K ρ H xs ws)(b:az ws its)(a:∀x∈xs,∃f r,x=.tup (f::r)):∃fs,KatTups s.heap its fs/\fs.length=its.length/\∀u∈fs,∃d v,v9 X.K ρ H d v/\aN v u/\∃r,D.tup (d::r)∈xs:=by
 induction xs generalizing ws its with
 |nil=>cases r;cases b;exact⟨[],.nil,rfl,λ_ z=>nomatch z⟩
 |cons d ds y =>
  cases r with
  |cons C r =>
   cases b with
   |cons B q =>
    obtain⟨fs,h1,h2,j⟩:=y r q λx h=>a x<|C6 _ h;obtain⟨f,aH,rfl⟩:=a d F4;cases C with
    |tup w c =>
     cases B;obtain⟨its,e,A,E⟩:=I.tuple w;cases c with
     |cons F c =>
      cases e with
      |cons i e=>obtain⟨o,p,k,n,m⟩:=A;refine⟨_::fs,.cons p k m rfl h1,by simp[h2],λu g=>?_⟩;rcases C3.mp g with rfl|g;exact⟨_,_,F,i,_,F4⟩;obtain⟨d,v,t,l,r',Q⟩:=j u g;exact⟨d,v,t,l,r',C6 _ Q⟩
noncomputable def ltc(M:w6)(xs:List D)(i j:Nat):Bool:=D0 M x3 (xs.getD i default)<|xs.getD j default
theorem mV(I:v4 X pins σ H s)(sm:z6 X.K ρ M H){xs:List D}{ws:List V}{its:List c3}(so:SrtG M xs)(r:Reps X.K ρ H xs ws)(J:az ws its)(h2:2<=its.length){A:f7}(P:A.units+x3<j9):g9 (i3 X.prog X.w) A (keyKind' its.toArray) (λκ s'=>s'=s/\∀i j (C:Bool->f8->Prop),i<its.length->j<its.length->C (ltc M xs i j) s->kas_ask X.prog X.w A κ its i j C s) (λ_ _=>False) s:=by
 have lw:=r.length;have li:=J.length;have le:xs.length=its.length:=by lia
 have O:∀(b:Bool),(∀x∈xs,∃f r,x=.tup (f::r))->(∀(f g:D) (vf vg:V) (p q:c3) (r r':List D),D.tup (f::r)∈xs->D.tup (g::r')∈xs->v9 X.K ρ H f vf->aN vf p->v9 X.K ρ H g vg->aN vg q -> (v8 M 29 f g=b9->∀Q':Bool->f8->Prop,Q' (D0 M 29 f g) s->g9 (i3 X.prog X.w) A (oneLt' (b&&0==0) p q) Q' (λ_ _=>False) s)) -> ∀i j (C:Bool->f8->Prop),i<its.length->j<its.length->C (ltc M xs i j) s->kas_ask X.prog X.w A (tuples' b) its i j C s:=by
  intro b F ag i j C hi hj E;unfold kas_ask;obtain⟨v1,c,m,U⟩:=r.getD' J (show i<xs.length by lia);obtain⟨v2,G,L,B⟩:=r.getD' J (show j<xs.length by lia);unfold ltc at E;have k1:=so.okd _ U;have k2:=so.okd _ B;have k3:=so.cm _ U _ B;generalize xs.getD i default=x at *;generalize xs.getD j default=y at *;obtain⟨f,rf,rfl⟩:=F _ U;obtain⟨g,rg,rfl⟩:=F _ B;cases c with
  |tup S rs =>
   cases G with
   |tup an Z =>
    generalize its.getD i .none=u1 at *;generalize its.getD j .none=u2 at *;cases m;cases L;obtain⟨as,ra,pa,_⟩:=I.tuple S;obtain⟨bs,rb,pb,_⟩:=I.tuple an;obtain⟨o,ho,_,n,hd⟩:=pa;obtain⟨o',am,_,n',al⟩:=pb;refine kat_lt ho hd am al ?_;cases rs with
    |cons a1 rs =>
     cases ra with
     |@cons _ p _ la b1 ra =>
      cases Z with
      |cons a2 Z =>
       cases rb with
       |@cons _ q _ lb b2 rb =>
        have ai:A.units+29<j9:=by have:x3=30:=rfl;lia
        have z1:x9 M 29 f=b8/\rf.all (x9 M 29)=b8:=by
         have:(f::rf).all (x9 M 29)=b8:=k1
         rwa [Mn,G0]at this
        have z2:x9 M 29 g=b8/\rg.all (x9 M 29)=b8:=by
         have:(g::rg).all (x9 M 29)=b8:=k2
         rwa [Mn,G0]at this
        have z3:(if v8 M 29 f g=b8 then yY (v8 M 29) (kG M 29) rf rg else kG M 29 f g)=b8:=k3;have he:=(kY I sm 29 A _ _ _ _ _ _ ai a1 b1 a2 b2 z1.1 z2.1).1;have R:C (if v8 M 29 f g=b8 then rR (v8 M 29) (D0 M 29) rf rg else D0 M 29 f g) s:=E;cases W:v8 M 29 f g with
        |true=>rw[W]at he R z3;have:=Bt (prog:=X.prog) (w:=X.w) (b:=b) (Q:=C) (l:=b8) he (λz=>nomatch z) (λ_=>GU I sm 29 A ai _ _ _ _ _ _ rs ra Z rb z1.2 z2.2 z3) R;simpa using this
        |false=>rw[W]at he R;have:=Bt (prog:=X.prog) (w:=X.w) (b:=b) (Q:=C) (l:=D0 M 29 f g) (its:=la) (jts:=lb) (k:=b8) he (λ_=>ag f g _ _ _ _ _ _ U B a1 b1 a2 b2 W) (λz=>nomatch z) R;simpa using this
 have N:∀(κ:SortKind),(∀i j (C:Bool->f8->Prop),i<its.length->j<its.length->C (ltc M xs i j) s->kas_ask X.prog X.w A κ its i j C s)->(s=s/\∀i j (C:Bool->f8->Prop),i<its.length->j<its.length->C (ltc M xs i j) s->kas_ask X.prog X.w A κ its i j C s):=λκ h=>⟨rfl,h⟩
 have ak:A.units+29<j9:=by have:x3=30:=rfl;lia
 rcases so.kd with a|a|a|a|a;refine kas_kind (T:=.type "str") h2 (λu P=>?_) (by decide) (by decide)<|N _ λi j C hi hj E=>?_;obtain⟨d,v,U,c,m⟩:=r.mem J P;obtain⟨z,rfl⟩:=a d U;cases c;obtain⟨t,rfl⟩:=m;exact uc;unfold kas_ask;obtain⟨v1,c,m,U⟩:=r.getD' J (show i<xs.length by lia);obtain⟨v2,G,L,B⟩:=r.getD' J (show j<xs.length by lia);unfold ltc at E;obtain⟨z,hz⟩:=a _ U;obtain⟨z',Y⟩:=a _ B;rw[hz]at c E;rw[Y]at G E;cases c;cases G;obtain⟨t,h1⟩:=m;obtain⟨t',h2⟩:=L;rw[h1,h2];exact kas_lt_str E;refine kas_kind (T:=.type "int") h2 (λu P=>?_) (by decide) (by decide)<|N _ λi j C hi hj E=>?_;obtain⟨d,v,U,c,m⟩:=r.mem J P;obtain⟨z,rfl⟩:=a d U;cases c;obtain⟨t,rfl⟩:=m;exact ud;unfold kas_ask;obtain⟨v1,c,m,U⟩:=r.getD' J (show i<xs.length by lia);obtain⟨v2,G,L,B⟩:=r.getD' J (show j<xs.length by lia);unfold ltc at E;obtain⟨z,hz⟩:=a _ U;obtain⟨z',Y⟩:=a _ B;rw[hz]at c E;rw[Y]at G E;cases c;cases G;obtain⟨t,h1⟩:=m;obtain⟨t',h2⟩:=L;rw[h1,h2];exact kat_lt_int E;obtain⟨fs,t1,t2,t3⟩:=wa I r J λx F=>(a x F).elim λz ⟨r,e⟩=>⟨_,_,e⟩
 refine kat_kind (T:=.type "str") t1 (by lia) (λu P=>?_) (by decide)<|N _<|O _ (λx F=>(a x F).elim λz ⟨r,e⟩=>⟨_,_,e⟩) λf g vf vg p q r r' U B c m G L S Q' h=>?_;obtain⟨d,v,c,m,r',U⟩:=t3 u P;obtain⟨z,aj,e⟩:=a _ U;cases e;cases c;obtain⟨t,rfl⟩:=m;exact uc;obtain⟨z,_,e⟩:=a _ U;cases e;obtain⟨z',_,e'⟩:=a _ B;cases e';cases c;cases G;obtain⟨t,rfl⟩:=m;obtain⟨t',rfl⟩:=L;exact oneLt_str h;obtain⟨fs,t1,t2,t3⟩:=wa I r J λx F=>(a x F).elim λz ⟨r,e⟩=>⟨_,_,e⟩
 refine kat_kind (T:=.type "int") t1 (by lia) (λu P=>?_) (by decide)<|N _<|O _ (λx F=>(a x F).elim λz ⟨r,e⟩=>⟨_,_,e⟩) λf g vf vg p q r r' U B c m G L S Q' h=>?_;obtain⟨d,v,c,m,r',U⟩:=t3 u P;obtain⟨z,aj,e⟩:=a _ U;cases e;cases c;obtain⟨t,rfl⟩:=m;exact ud;obtain⟨z,_,e⟩:=a _ U;cases e;obtain⟨z',_,e'⟩:=a _ B;cases e';cases c;cases G;obtain⟨t,rfl⟩:=m;obtain⟨t',rfl⟩:=L;exact oneLt_int h;obtain⟨fs,t1,t2,t3⟩:=wa I r J λx F=>(a x F).elim λz ⟨r,e⟩=>⟨_,_,e⟩
 refine kat_kind (T:=.type "tuple") t1 (by lia) (λu P=>?_) (by decide)<|N _<|O _ (λx F=>(a x F).elim λz ⟨r,e⟩=>⟨_,_,e⟩) λf g vf vg p q r r' U B c m G L S Q' h=>?_;obtain⟨d,v,c,m,r',U⟩:=t3 u P;obtain⟨z,aj,e⟩:=a _ U;cases e;cases c with
 |tup S rs=>cases m;obtain⟨_,_,pl,_⟩:=I.tuple S;obtain⟨o,ho,E,_⟩:=pl;rw[<-E];exact(show Looks _ s.heap (m9<|.ref _) o.cls from(Looks.ld ho).andThen .now)
 have k1:x9 M 29 f=b8:=by have:(f::r).all (x9 M 29)=b8:=so.okd _ U;rw[Mn,G0]at this;exact this.1
 have k2:x9 M 29 g=b8:=by have:(g::r').all (x9 M 29)=b8:=so.okd _ B;rw[Mn,G0]at this;exact this.1
 have k3:(if v8 M 29 f g=b8 then yY (v8 M 29) (kG M 29) r r' else kG M 29 f g)=b8:=so.cm _ U _ B;rw[S]at k3;exact kat_one _ _<|FB I sm 29 A _ _ _ _ _ _ ak c m G L k1 k2 k3 _ _ _ _ h
end
theorem GI(o:SrtG M xs):(∀a∈xs,D0 M x3 a a=b9)/\(∀a∈xs,∀b∈xs,∀d∈xs,D0 M x3 a b=b8->D0 M x3 b d=b8->D0 M x3 a d=b8)/\∀a∈xs,∀b∈xs,∀d∈xs,D0 M x3 a d=b8->D0 M x3 a b=b8\/D0 M x3 b d=b8:=by obtain⟨n,e⟩:=o.od;refine⟨λa f=>?_,λa f b c d g h1 h2=>?_,λa f b c d g h=>?_⟩;rw[e a f a f,dF_<|MI _];rw[e a f b c,t8]at h1;rw[e b c d g,t8]at h2;rw[e a f d g,t8];exact List.lt_trans h1 h2;rw[e a f d g,t8]at h;rw[e a f b c,e b c d g,t8,t8];by_cases z:n a<n b;exact .inl z;have F:n b<=n a:=z;exact .inr<|List.lt_of_le_of_lt F h
theorem CP{k:Nat}{l:c8}{xs:List D}{F:List V}{its:List c3}{R:VK}(hr:Room k X.A)(I:v4 X pins σ H s)(sm:z6 X.K ρ M H)(so:SrtG M xs)(r:Reps X.K ρ H xs F)(P:az F its)(Z:s.heap.IsList l its.toArray)(hz:F.length<=sizeLine)(h2:2<=its.length)(G:its.length<64)(E:l≠X.env.locals) (kk:∀v H',((∀Q:DK,(∀ys,ys.Perm xs->xQ M ys->Q (.ref M.length) (M++[.lst ys]))->VQ X.K ρ H Q v H'))->R v H'):g9 (i3 X.prog X.w) X.A (call (.builtin "sorted") [.ref l]) (EP X pins σ R) X.xe s:=by
 obtain⟨m,O,hm⟩:=I.loc;have lw:=r.length;have li:=P.length;obtain⟨ol,f,_⟩:=id Z;have g:∀a o,(a,o)∈[]++(l,ol)::Att.ledger s.heap X.env.locals l↔a≠X.env.locals/\s.heap.get? a=a9 o:=λa o=>by rw[G4,C3,Att.mem_ledger];constructor;rintro(h|⟨h1,_,h3⟩);cases h;exact⟨E,f⟩;exact⟨h1,h3⟩;rintro⟨h1,h2⟩;by_cases z:a=l;subst z;rw[f]at h2;cases h2;exact .inl rfl;exact .inr ⟨h1,z,h2⟩
 refine kat_sorted (Att.fr_all O) (Att.news_ledger E f) Z h2 G λD e1 h' T N lt=>?_;have kp:∀b u,b≠X.env.locals->s.heap.get? b=a9 u->h'.get? b=a9 u:=λb u J e=>(N (b,u)<|C6 _<|(g b u).mpr ⟨J,e⟩).1;have L:D≠X.env.locals:=(N _ F4).2.1;have W:s.heap.get? D=b7:=by
  cases q:s.heap.get? D with
  |none=>rfl
  |some o=>exact t7 (lt (D,o)<|(g D o).mpr ⟨L,q⟩)<|G3 _
 have I':v4 X pins σ H { s with heap:=h' }:=I.keptF (t':=s.toks) kp O T.ns;have hu:X.A.in1.in1.units+x3<j9:=by have:=hr.un;have:x3=30:=rfl;show X.A.units+1+1+x3<j9;lia
 refine J2 (mV I' sm so r P h2 hu) (λκ s' hk=>?_) λ_ _ x=>x;obtain⟨rfl,B⟩:=hk;refine Srt.wp_run (n:=its.length) (c:=λi j=>if i<xs.length then(if j<xs.length then D0 M x3 (xs.getD i default) (xs.getD j default)else b8)else b9) (λi j C hi hj Y=>?_) _ (Srt.sort_bd<|by lia).1 ?_;refine B i j C hi hj ?_;rw[t5 (by lia),t5<|by lia]at Y;exact Y;have t:=Srt.All.run (c:=λi j=>if i<xs.length then(if j<xs.length then D0 M x3 (xs.getD i default) (xs.getD j default)else b8)else b9) _ (Srt.sort_bd (n:=its.length)<|by lia).2;obtain⟨o1,o2,o3⟩:=GI so;have d:=Srt.sort_list xs (by lia) o1 o2 o3
 try dsimp only at d
 rw[show xs.length=its.length by lia]at d t ⊢;generalize Srt.run _ (No its.length)=p at t d ⊢;have hi:∀i∈p.toList,i<xs.length:=λi h=>by have:=t.mem_iff.mp h;rw[K0]at this;lia
 refine KasFin.intro T N (UpdF.head λq hq=>A9<|lt q hq) λh2 c F2 U=>?_;have r':=r.perm p.toList hi;have S:=P.perm p.toList (λi h=>by have:=hi i h;lia);have y:H D=b7:=E3.none I.hok W;refine⟨.ref D,_,I.laidF (t':=s.toks) (o:=.lst<|p.toList.map λi=>F.getD i .non) (λb u J e=>(U (b,u)<|C6 _<|(g b u).mpr ⟨J,e⟩).1) O F2.ns W y ⟨?_,_,c,S,(U _ F4).1⟩,rfl,kk _ _ λQ hQ=>VQ.laidL sm .refl r' y<|hQ _ d.1 d.2⟩;rw[w4];have:=d.1.length_eq;rw[w4]at this;lia
theorem v4.sqL_ne(I:v4 X pins σ H s)(h:K2 X.K H a xs):a≠X.env.locals:=by
 rcases h with h|⟨o,its,n,k,_⟩
 rcases h with h|⟨_,h⟩
 exact ah h I.free;exact ah h I.free;have:=A4<|I.mod.kin a o k;exact A9<|L0 this<|J7 I.ok.bsz I.ok.above
theorem Cc(j:Room k X.A):kI X (.builtin "sorted") kh:=by
 rintro p s σ H vs us R I l ⟨ds,M,ρ,Q,m,rs,q,C⟩;unfold kh at q;split at q;obtain⟨xs,L,c,q⟩:=q;cases rs with
 |cons r1 rs =>
  cases rs;obtain⟨u,rfl,t⟩:=az.one l;cases r1 with
  |ref e =>
   cases t;obtain⟨w,b,r⟩:=aq.seq m L e;obtain⟨its,f,d,z⟩:=I.list b;have B:=r.length;have y:=f.length;by_cases h2:its.length<2;refine tx d.isList h2 λD h' n a g i=>?_;refine⟨.ref D,_,I.laid (t':=s.toks) (o:=.lst w) g a ⟨z,its,n,f,i⟩,rfl,C _ _<|VQ.laidL m .refl r (I.hok.fresh a)<|q xs (Ov _) ?_⟩;unfold xQ
   match xs,(show xs.length<2 by lia) with
   | [],_=>exact P5
   | [x],_=>exact O9 _ _
   |_::_::_,hx=>simp at hx;lia
   have h:2<=its.length:=by lia
   have G:its.length<64:=by have:=c.len;lia
   exact CP j I m c r f d.isList z h G (I.sqL_ne b) λv H' x=>C v H'<|x Q q
 exact q.elim
structure ZA(z TI TO i1 i2:c8)(f1 f2:List c8):Prop where
 nd:[z,TI,TO,i1,i2].Nodup
 z1:z∉f1
 o1:TO∉f1
 y1:i2∉f1
 z2:z∉f2
 o2:TO∉f2
 x2:i1∉f2
theorem v4.turnedL{t':Nat}{fp:List c8}(I:v4 X pins σ H s)(h:∀b∈fp,zg X pins H b)(k:∀b o,b∉fp->s.heap.get? b=a9 o->h'.get? b=a9 o):v4 X pins σ H { s with heap:=h',toks:=t' }:=by
 have p:∀b u,H b=a9 u->b∉fp:=λb u e z=>by rw[(h b z).1]at e;cases e
 refine I.step (g':=s.gens) (d':=s.drawn) (ch:=fp) (λb d=>⟨(h b d).2.2.2.1,(h b d).2.1,(h b d).2.2.2.2.1,(h b d).2.2.2.2.2⟩) (λb o _ _ f e _=>k b o f e) (λb o _ _ f e _=>⟨o.slots,k b o f e⟩) (λ_ _ _ _ n=>n) (λb o f e=>⟨o,k b o f e⟩) (λ_ _ e=>e) (λ_ _ _ e=>e) (λb ps e=>⟨#[],by rw[e];simp⟩) (λm a=>?_) (λb u e=>?_) I.bare;obtain⟨o,es,i,g,r⟩:=a;exact⟨o,es,i,k _ o (λz=>(h _ z).2.1 rfl) g,r⟩;refine(I.hok b u e).stay (λc v f q=>k c v ?_ q) (λ_ q=>q) λ_ _ q=>q;rcases f with rfl|z;exact p _ u e;exact p _ _ z
theorem v4.turnedT{t':Nat}{fp:List c8}{T:c8}{o:HO}(I:v4 X pins σ H s)(h:∀b∈fp,zg X pins H b)(k:∀b o,b∉fp->s.heap.get? b=a9 o->h'.get? b=a9 o)(j:s.heap.objs.size<=T)(i:cA X.prog X.w (A6 H T o) h' T o):v4 X pins σ (A6 H T o) { s with heap:=h',toks:=t' }:=by
 have a:H T=b7:=I.hok.fresh j;have g:∀b u,s.heap.get? b=a9 u->b≠T:=λb u e=>A9<|L0 (A4 e) j;have p:∀b u,H b=a9 u->b∉fp:=λb u e z=>by rw[(h b z).1]at e;cases e
 refine I.step (g':=s.gens) (d':=s.drawn) (ch:=fp) (λb d=>⟨(h b d).2.2.2.1,(h b d).2.1,(h b d).2.2.2.2.1,(h b d).2.2.2.2.2⟩) (λb o _ _ f e _=>k b o f e) (λb o _ _ f e _=>⟨o.slots,k b o f e⟩) (λb u _ e n=>by rw[ax<|g b u e];exact n) (λb o f e=>⟨o,k b o f e⟩) (λb xs q=>by rw[ax<|ah q a];exact q) (λb u xs q=>by rw[ax<|ah q a];exact q) (λb ps q=>⟨#[],by rw[ax<|ah q a,q];simp⟩) (λm t=>?_) (λb u e=>?_) I.bare;obtain⟨o,es,l,x,r⟩:=t;exact⟨o,es,l,k _ o (λz=>(h _ z).2.1 rfl) x,r⟩;by_cases d:b=T;subst d;rw[aW]at e;cases e;exact i;rw[ax d]at e;refine(I.hok b u e).stay (λc v f q=>k c v ?_ q) (λc q=>by rw[ax<|ah q a];exact q) λc xs q=>by rw[ax<|ah q a];exact q
 rcases f with rfl|z;exact p _ u e;exact p _ _ z
def mZ(z:c5):D6:=λds M Q=>match ds with
 | [.str y]=>Q (.bl<|Qo z y) M
 |_=>False
theorem AR:K3 X "str.startswith" (AV X.K mZ):=by
 rintro p s σ H x xs v us R I g a ⟨z,ds,M,ρ,Q,c,m,f,q,k⟩;subst c;obtain⟨t,rfl⟩:=g;unfold mZ at q;split at q
 first|have h:=Reps.inv_cons f|have h:=az.inv_cons f
 clear f;obtain⟨_,_,rfl,r,f⟩:=h;cases f;cases r;obtain⟨u,rfl,t',rfl⟩:=az.one a;exact PySem.SC.startswith ⟨.bl _,H,I,rfl,k _ H<|VQ.now m (.bl _) q⟩
 exact q.elim
def tJ(z:c5):D6:=λds M Q=>match ds with
 | [.str y]=>(y.length≠0/\z.length<=sizeLine/\(LX z y).length<=sizeLine)/\Q (.ref M.length) (M++[.lst<|(LX z y).map .str])
 |_=>False
theorem sf:∀(tk:Nat) (xs:List c5),az (xs.map V.str) (strsFrom tk xs)
 |_,[]=>.nil
 |tk,x::xs=>.cons ⟨_,rfl⟩<|sf (tk+1) xs
theorem tH{K:w9}{ρ:List c8}{H:Hp}:∀xs:List c5,Reps K ρ H (xs.map D.str) (xs.map V.str)
 | []=>.nil
 |x::xs=>.cons (.str x)<|tH xs
theorem DC:K3 X "str.split" (AV X.K tJ):=by
 rintro c s σ H x xs v us R I A w ⟨z,ds,M,ρ,Q,j,B,f,q,k⟩;subst j;obtain⟨t,rfl⟩:=A;unfold tJ at q;split at q;rename_i y;obtain⟨⟨O,l,i⟩,q⟩:=q
 first|have a:=Reps.inv_cons f|have a:=az.inv_cons f
 clear f;obtain⟨_,_,rfl,m,f⟩:=a;cases f;cases m;obtain⟨u,rfl,t',rfl⟩:=az.one w;have n:∀(p:List c5) (us:List c3) (g:Nat),LX z y=p->az (p.map V.str) us->EP X c σ R (.ref s.heap.objs.size) { s with toks:=g,heap:=s.heap.push { cls:=.type "list",data:=.seq us.toArray } }:=λp us g e r=>by subst e;exact⟨.ref _,_,I.laid (t':=g) (o:=.lst<|(LX z y).map V.str) (λb C q=>A1 _ q) (x5 _) ⟨by rw[w4];exact i,us,0,r,C0 _ rfl⟩,rfl,k _ _<|VQ.laidL B .refl (tH _) (I.hok.fresh<|x5 _) q⟩
 have h:(y.length==0)=b9:=by simpa using O
 cases h1:(decide (z.length<y.length)||decide (Ob z<Ob y));cases d:(Pa z y 0 z.length<|z.length+1).isEmpty;have e:LX z y=Builtin.Str.partsBetween z (Pa z y 0 z.length<|z.length+1) y.length:=by unfold LX;rw[h1,d];rfl
 exact o5 F.slot_str_split (On _ _ _) F.entry_str_split (F.args_str_split_2 _ _) (meets_str_split_sep z y t t' h1 h d l<|by rw[<-e];exact i)<|n _ _ _ e<|sf _ _;have e:LX z y=[z]:=by unfold LX;rw[h1,d];rfl
 exact o5 F.slot_str_split (On _ _ _) F.entry_str_split (F.args_str_split_2 _ _) (meets_str_split_not_found z y t t' h1 h d)<|n _ [.str z t] s.toks e<|.cons ⟨_,rfl⟩ .nil;have e:LX z y=[z]:=by unfold LX;rw[h1];rfl
 exact o5 F.slot_str_split (On _ _ _) F.entry_str_split (F.args_str_split_2 _ _) (meets_str_split_cannot_occur z y t t' h1)<|n _ [.str z t] s.toks e<|.cons ⟨_,rfl⟩ .nil;exact q.elim
theorem vP{D:c8}{vs:List c3}{n:Nat}{Q:c3->f8->Prop}(m:s.heap.get? D=a9 (o8 "list" vs.toArray n))(h2:vs.length<2)(h:∀h' c,(∀b o,b≠D->s.heap.get? b=a9 o->h'.get? b=a9 o)->h'.get? D=a9 (o8 "list" vs.toArray c)->Q .none { s with heap:=h' }):g9 (i3 prog w) A (call (.builtin "list.sort") [.ref D]) Q E s:=by
 have f:vs.length<=sizeLine:=by rw[L8];lia
 refine J4 slot_list_sort (⟨_,m,rfl⟩) entry_list_sort ?_<|args_list_sort<|.ref D;rw[list_sort_plain];refine u7<|PC m rfl<|u7<|Ot m rfl ?_ (by rw[B5];exact f)<|A8 _;obtain⟨k,e⟩:∃k,(s.heap.update D<|G6 λ_=>(#[]:Array c3)).get? D=a9 (o8 "list" #[] k):=⟨_,Ox m λ_=>#[]⟩
 refine u7<|OO e rfl<|u7<|wpAny_newTuple (u7<|NY (F3 ?_)<|A8 _) f;dsimp only;have g:vs.toArray.size<2:=by rw[B5];exact h2
 rw[t5 g,t5 g];refine u7<|u9 ?_;rw[StateT.run_pure];refine u7<|u9 ?_;dsimp only;generalize d:((s.heap.update D<|G6 λ_=>(#[]:Array c3)).push<|o8 "tuple" vs.toArray 0).push (o8 "list" #[] 0)=g3;have a:g3.get? D=a9 (o8 "list" #[] k):=by rw[<-d];exact A1 _<|A1 _ e
 have p:∀b o,b≠D->s.heap.get? b=a9 o->g3.get? b=a9 o:=λb o i q=>by rw[<-d];refine A1 _<|A1 _ ?_;rw[N8 _ _ _ _ i];exact q
 refine u7<|OO a rfl ?_;have r:∀us:List c3,us.length<2->(us.toArray.zip us.toArray).map (·.2)=us.toArray:=λus hu=>by
  match us,hu with
  | [],_=>simp
  | [v],_=>simp
  |_::_::_,hu=>simp at hu;lia
 have t:(arrOf<|ON general' (vs.toArray.zip vs.toArray) #[] 7 b7).map (·.2)=vs.toArray:=r vs h2;rw[t];refine u7 (Ot a rfl ?_ (A8 _)<|by rw[B5];exact Nat.le_succ_of_le f);simp only[show failedOf (ON general' (vs.toArray.zip vs.toArray) #[] 7 b7)=b7 from rfl,bne_self_eq_false,C5,u3];obtain⟨j,l⟩:∃j,(g3.update D<|G6 λ_=>vs.toArray).get? D=a9 (o8 "list" vs.toArray j):=⟨_,Ox a λ_=>vs.toArray⟩
 refine u9 ⟨_,rfl,h _ j (λb o i q=>?_) l⟩;rw[N8 _ _ _ _ i];exact p b o i q
theorem Ak{k:Nat}{D:c8}{xs:List L2.D}{P:List V}{its:List c3}{R:VK}{h1:d5}{tk n:Nat}{m:c5->Option c3}{A:f7}{E:c3->f8->Prop}(hr:Room k X.A)(hA:A.units<=X.A.units+4)(I:v4 X pins σ H s)(sm:z6 X.K ρ M H)(so:SrtG M xs)(r:Reps X.K ρ H xs P)(O:az P its)(T:s.heap.Ns X.env.locals m) (N:h1.Ns X.env.locals m) (l:∀b u,b≠X.env.locals->s.heap.get? b=a9 u->h1.get? b=a9 u) (J:s.heap.get? D=b7) (F:D≠X.env.locals) (ho:h1.get? D=a9 (o8 "list" its.toArray n))(kk:∀v H',((∀Q:DK,(∀ys,ys.Perm xs->xQ M ys->Q (.ref M.length) (M++[.lst ys]))->VQ X.K ρ H Q v H'))->R v H'):g9 (i3 X.prog X.w) A (call (.builtin "list.sort") [.ref D]) (λ_ s'=>EP X pins σ R (.ref D) s') E { s with heap:=h1,toks:=tk }:=by
 have lw:=r.length;have li:=O.length;have ag:=so.len;have L:H D=b7:=E3.none I.hok J;have y:∀b u,s.heap.get? b=a9 u->b≠D:=λb u e q=>by subst q;rw[J]at e;cases e
 by_cases h2:its.length<2;refine vP ho h2 λh' c G Y=>?_;have W:h'.Ns X.env.locals m:=by obtain⟨o,es,ep,e,aH⟩:=N;exact⟨o,es,ep,G _ _ (D4 F) e,aH⟩
 refine⟨.ref D,_,I.laidF (t':=tk) (o:=.lst P) (λb u g e=>G b u (y b u e)<|l b u g e) T W J L ⟨by rw[L8];lia,its,c,O,Y⟩,rfl,kk _ _ λQ S=>VQ.laidL sm .refl r L<|S xs (Ov _) ?_⟩;unfold xQ
 match xs,(show xs.length<2 by lia) with
 | [],_=>exact P5
 | [x],_=>exact O9 _ _
 |_::_::_,hx=>simp at hx;lia
 have z:2<=its.length:=by lia
 have f:∀a o,(a,o)∈Att.ledger h1 X.env.locals D↔a≠X.env.locals/\a≠D/\h1.get? a=a9 o:=λa o=>Att.mem_ledger;have U:UpdF D (o8 "list" its.toArray n) ([]++(D,o8 "list" its.toArray n)::Att.ledger h1 X.env.locals D) λo'=>(D,o')::Att.ledger h1 X.env.locals D:=UpdF.head λp hp=>((f p.1 p.2).mp hp).2.1;refine kat_lsort (s:={ s with heap:=h1,toks:=tk }) (vs:=its) (Att.fr_all N) (Att.news_ledger F ho) U rfl z (by lia) λe1 h' F' N'=>?_;have kp:∀b u,b≠X.env.locals->s.heap.get? b=a9 u->h'.get? b=a9 u:=λb u g e=>(N' (b,u)<|C6 _<|(f b u).mpr ⟨g,y b u e,l b u g e⟩).1;have I':v4 X pins σ H { s with heap:=h',toks:=tk }:=I.keptF (t':=tk) kp T F'.ns;have hu:A.in1.units+x3<j9:=by have:=hr.un;have:x3=30:=rfl;show A.units+1+x3<j9;lia
 refine J2 (mV I' sm so r O z hu) (λκ s' hk=>?_) λ_ _ x=>x;obtain⟨rfl,B⟩:=hk;refine Srt.wp_run (n:=its.length) (c:=λi j=>if i<xs.length then(if j<xs.length then D0 M x3 (xs.getD i default) (xs.getD j default)else b8)else b9) (λi j C hi hj hc=>?_) _ (Srt.sort_bd<|by lia).1 ?_;refine B i j C hi hj ?_;rw[t5 (by lia),t5<|by lia]at hc;exact hc;have t:=Srt.All.run (c:=λi j=>if i<xs.length then(if j<xs.length then D0 M x3 (xs.getD i default) (xs.getD j default)else b8)else b9) _ (Srt.sort_bd (n:=its.length)<|by lia).2;obtain⟨o1,o2,o3⟩:=GI so;have d:=Srt.sort_list xs (by lia) o1 o2 o3
 try dsimp only at d
 rw[show xs.length=its.length by lia]at d t ⊢;generalize Srt.run _ (No its.length)=p at t d ⊢;have hi:∀i∈p.toList,i<xs.length:=λi h=>by have:=t.mem_iff.mp h;rw[K0]at this;lia
 refine KasFin.intro F' N' (UpdF.head λq hq=>((f q.1 q.2).mp hq).2.1) λh2 c F2 N2=>?_;have r':=r.perm p.toList hi;have Z:=O.perm p.toList (λi h=>by have:=hi i h;lia);refine⟨.ref D,_,I.laidF (t':=tk) (o:=.lst<|p.toList.map λi=>P.getD i .non) (λb u g e=>(N2 (b,u)<|C6 _<|(f b u).mpr ⟨g,y b u e,l b u g e⟩).1) T F2.ns J L ⟨?_,_,c,Z,(N2 _ F4).1⟩,rfl,kk _ _ λQ S=>VQ.laidL sm .refl r' L<|S _ d.1 d.2⟩;rw[w4];have:=d.1.length_eq;rw[w4]at this;rw[L8];lia
section
variable{K:w9}{ρ:List c8}{H:Hp}{M:w6}
theorem z6.laidM(S:z6 K ρ M H)(hp:H p=b7)(ok:zj K (ρ++[p]) (A6 H p o) p mo):z6 K (ρ++[p]) (M++[mo]) (A6 H p o):=by
 have g:Grow K ρ H (ρ++[p]) (A6 H p o):=Grow.laidR hp;have d:∀(n:Nat),ρ[n]?=a9 p->Mj M[n]?:=λn e=>by rcases S.tracked e with⟨o,q⟩|q;rw[hp]at q;cases q;exact q
 refine⟨λn m a h t l=>?_,by rw[B6,B6,S.len];rfl,λn a i t l=>?_⟩;rcases bc t with f|⟨f,g1⟩
 rcases bc l with b|⟨b,c⟩
 exact(S.nd n m a h f b).elim (λz=>.inl z.more) λz=>.inr z.more;subst c;exact .inl (d n f).more;rcases bc l with b|⟨b,c⟩
 subst g1;exact .inr (d m b).more;exact t7 (f.trans b.symm) h;rcases bc t with f|⟨f,g1⟩
 have j:n<M.length:=by rw[<-S.len];exact(C2.mp f).1
 rw[LR j]at l;exact(S.obj n a i f l).grow g<|S.keeps hp f l;subst g1 f;rw[S.len,Mr<|x5 _,NC]at l;simp at l;subst l;exact ok
theorem C7.writtenD(hp:H p=a9 (.dK kv))(h:C7 K H a xs):C7 K (A6 H p o) a xs:=by
 rcases h with h|h;rcases h with h|⟨b,h⟩
 exact .inl (.inl<|by rw[ax<|yz h hp<|by intro z;cases z];exact h);exact .inl<|.inr ⟨b,by rw[ax<|yz h hp<|by intro z;cases z];exact h⟩;exact .inr h
theorem z6.writeD(S:z6 K ρ M H)(t:ρ[n]?=a9 a)(u:M[n]?=a9 (.dct kvs))(s:H a=a9 (.dK kv))(r:Reps K ρ H (kvs'.map (·.2)) vs'):z6 K ρ (M.set n<|.dct kvs') (A6 H a (.dK (jo (kvs'.map (·.1)) vs')))/\Grow K ρ H ρ (A6 H a (.dK (jo (kvs'.map (·.1)) vs'))):=by
 have g:Grow K ρ H ρ (A6 H a (.dK (jo (kvs'.map (·.1)) vs'))):=⟨Mz,λ_ _ h=>C7.writtenD s h⟩
 have k:∀m,m≠n->(M.set n<|.dct kvs')[m]?=M[m]?:=λm e=>MY<|D4 e;have c:¬Mj M[n]?:=λ⟨_,z⟩=>by rw[u]at z;cases z
 refine⟨⟨λm l b i d f=>?_,by rw[N5];exact S.len,λm b o d f=>?_⟩,g⟩;have q:=S.nd m l b i d f;by_cases h1:m=n;subst h1;rw[k l<|D4 i];exact .inr<|q.resolve_left c;rw[k m h1];by_cases h2:l=n;subst h2;exact .inl<|q.resolve_right c;rw[k l h2];exact q;by_cases e:m=n;subst e;have j:b=a:=D2<|d.symm.trans t;subst j;rw[Nk<|by rw[<-S.len];exact(C2.mp t).1]at f;cases f;exact⟨vs',aW,r.grow g⟩;rw[k m e]at f;by_cases j:b=a;subst j;have p:=(S.nd m n b e d t).resolve_right c;rw[f]at p;exact(S.obj m b o d f).grow g<|.inr p;exact(S.obj m b o d f).grow g<|.inl<|ax j
noncomputable def gd(kvs:List (c5×D))(k:c5):Option D:=(kvs.find? λp=>decide<|p.1=k).map (·.2)
noncomputable def lJ(kvs:List (c5×D))(k:c5)(d:D):List (c5×D):=if (kvs.any λp=>decide<|p.1=k)=b8 then kvs.map (λp=>if p.1=k then(p.1,d)else p)else kvs++[(k,d)]
theorem HD(a b:c5):decide ((ABo a:F7)=ABo b)=decide (a=b):=FJ a b
theorem jw:∀{kvs:List (c5×D)}{vs:List V},Reps K ρ H (kvs.map (·.2)) vs->gd kvs k=a9 d->∃v,wA (jo (kvs.map (·.1)) vs) (ABo k)=a9 v/\v9 K ρ H d v
 | [],_,_,e=>by simp[gd]at e
 |(k',d')::kvs,_,.cons h t,e=>by
  by_cases q:k'=k;subst q;have:d'=d:=by simpa [gd]using e
  subst this;exact⟨_,by simp[jo,wA],h⟩;have e':gd kvs k=a9 d:=by simpa [gd,L9,q]using e
  obtain⟨v,h1,h2⟩:=jw t e';refine⟨v,?_,h2⟩;have:¬(ABo k':F7)=ABo k:=λz=>q<|Sum.inr.inj z;simpa [jo,wA,L9,this]using h1
theorem xO:∀{kvs:List (c5×D)}{vs:List V},Reps K ρ H (kvs.map (·.2)) vs->((jo (kvs.map (·.1)) vs).any λkv=>decide<|kv.1=ABo k)=kvs.any λp=>decide (p.1=k)
 | [],_,_=>rfl
 |(k',d')::kvs,_,.cons h t=>by
  have ih:=xO (k:=k) t;show (decide ((ABo k':F7)=ABo k)||(jo (kvs.map (·.1)) _).any _)=(decide (k'=k)||kvs.any _)
  rw[ih,HD]
theorem xu(hd:v9 K ρ H d v):∀{kvs:List (c5×D)}{vs:List V},Reps K ρ H (kvs.map (·.2)) vs->∃vs',(jo (kvs.map (·.1)) vs).map (λkv=>if kv.1=ABo k then(kv.1,v)else kv)=jo ((kvs.map λp=>if p.1=k then(p.1,d)else p).map (·.1)) vs'/\Reps K ρ H ((kvs.map λp=>if p.1=k then(p.1,d)else p).map (·.2)) vs'
 | [],_,.nil=>⟨[],rfl,.nil⟩
 |(k',d')::kvs,_,.cons (v:=v') h t=>by obtain⟨vs',e,r⟩:=xu (k:=k) hd t;by_cases q:k'=k;subst q;refine⟨v::vs',?_,?_⟩;simp only[D5,u4,jo,NI]at e ⊢;rw[e];simp only[D5,u4];exact .cons hd r;have q':¬(ABo k':F7)=ABo k:=λz=>q<|Sum.inr.inj z;refine⟨v'::vs',?_,?_⟩;simp only[D5,t6 q,t6 q',jo,NI]at e ⊢;rw[e];simp only[D5,t6 q];exact .cons h r
theorem tD:∀{kvs:List (c5×D)}{vs:List V},Reps K ρ H (kvs.map (·.2)) vs->jo (kvs.map (·.1)) vs++[(ABo k,v)]=jo (kvs.map (·.1)++[k]) (vs++[v])
 | [],_,.nil=>rfl
 |(k',d')::kvs,_,.cons h t=>by have:=tD (k:=k) (v:=v) t;simp only[D5,jo,NI,List.cons_append]at this ⊢;rw[this]
theorem Au(h:v9 K ρ H d v)(r:Reps K ρ H (kvs.map (·.2)) vs):∃vs',putK (jo (kvs.map (·.1)) vs) (ABo k) v=jo ((lJ kvs k d).map (·.1)) vs'/\Reps K ρ H ((lJ kvs k d).map (·.2)) vs':=by unfold putK lJ;rw[xO r];by_cases q:(kvs.any λp=>decide<|p.1=k)=b8;rw[t5 q,t5 q];exact xu h r;rw[t6 q,t6 q];refine⟨vs++[v],?_,?_⟩;rw[tD r,J3];rfl;rw[J3];exact r.append<|.cons h .nil
end
def EX:A3:=λ_ M Q=>Q (.ref M.length)<|M++[.dct []]
theorem Ly:DE X (.Dict [] [] pos) EX:=by refine PE.imp Dh ?_;rintro σ H R ⟨S,M,ρ,Q,s,b,q,k⟩;refine λp hp=>?_;have j:Q (.ref M.length) (M++[.dct []]):=q;exact k _ _ ⟨.ref M.length,M++[.dct []],ρ++[p],s.laidM (mo:=.dct []) hp ⟨[],aW,.nil⟩,Grow.laidR hp,.ref s.last,j⟩
def EY(t b:A3):A3:=λS M Q=>t S M λx a=>b S a λy M2=>match x,y with
 |.ref n,.str k=>∃kvs d,M2[n]?=a9 (.dct kvs)/\gd kvs k=a9 d/\Q d M2
 |_,_=>False
theorem Lz{X:Cx}{o i:h7}{t y:A3}{a:Pos}(B:X.A.units+1<j9)(x:DE X o t)(hi:DE X i y)(hs:IN i):DE X (.Subscript o i a) (EY t y):=by
 refine PE.imp (GA B x hi hs) ?_;rintro σ H R ⟨S,M,ρ,Q,s,r,q,k⟩;refine⟨S,M,ρ,_,s,r,q,?_⟩;rintro v K ⟨d,h,c,J,g1,F,D⟩;refine⟨S,h,c,_,J,r.grow g1,D,?_⟩;rintro u L ⟨e,M2,f,z,g,G,j⟩
 try dsimp only at j
 split at j;obtain⟨kvs,d,n,C,E⟩:=j;obtain⟨_,rfl,p⟩:=v9.inv_ref F;cases G;obtain⟨vs,m,I⟩:=z.obj _ _ _ (ar g.pre p) n;obtain⟨w,l,b⟩:=jw I C;exact⟨_,w,rfl,.inl ⟨_,ABo _,.inl m,rfl,l.symm⟩,k _ _ ⟨d,M2,f,z,g1.trans g,b,E⟩⟩;exact j.elim
structure Qk(X:Cx)(es:List h7)(t:FQ):Prop where
 ok:Py X es t
section
variable{X:Cx}{e a b c o i tg:h7}{es aH:List h7}{te ta tb tc to ti:A3}{t:I9}{pos p p2 pos':Pos}{x:c5}{k:Nat}{g:L6}{u:FQ}{name:c5}{apos cpos:Pos}
theorem Hl:Qk X [] og:=⟨Ir⟩
theorem Ef(h1:HG X e g)(h2:Qk X es u)(hs:(j0 (e::es) X.env).map (·.2)=i9 e X.env::(j0 es X.env).map (·.2):=by kernel_rfl):Qk X (e::es) (cq g u):=⟨ER h1.ok h2.ok hs⟩
theorem Kn(h:Qk X es u)(f:X.calm=b8:=by kernel_rfl)(a:(j0 es X.env).length=n:=by kernel_rfl)(c:(j0 es X.env).findIdx? (·.1)=b7:=by kernel_rfl):HG X (.Tuple es j pos) (nZ n u):=⟨Lq h.ok f a c⟩
theorem Ko(m:HE X o to)(hi:HE X i ti)(f:∀v,i9 (.Subscript o i pos) X.env v=(do
   let ov <-i7 [v] (eval o X.env)
   let iv <-i7 [v,ov] (eval i X.env)
   standAt pos
   i7 [v,ov,iv] (setItem ov iv v)
   release [v,ov,iv] []):=by intro _;kernel_rfl):HG X (.Subscript o i pos) (ES to ti):=⟨Lr m.ok hi.ok f⟩
theorem FI(i:HE X e te)(R:HG X tg g)(hs:swapsWithSole [tg] e pos.line X.env=pure b9:=by kernel_rfl)(w:swappedStores [tg] e X.env=pure b7:=by kernel_rfl)(h1:(j0 [tg] X.env).map (·.2)=[i9 tg X.env]:=by kernel_rfl):HS X (.Assign [tg] e pos) (LC te g):=⟨Ln i.ok R.ok hs w h1⟩
theorem HK:I0 X (j6 .Add) aL:=⟨GP⟩
theorem Ez:HC X (.type "tuple") fV:=⟨Fb⟩
theorem BA:Qj X "startswith" mZ:=⟨_,PySem.F.slot_str_startswith,PySem.F.type_str_startswith,AR⟩
theorem Et:Qj X "split" tJ:=⟨_,PySem.F.slot_str_split,PySem.F.type_str_split,DC⟩
theorem BB:Px X "extend" nh:=⟨_,PySem.F.slot_list_extend,PySem.F.type_list_extend,yA⟩
def dMl0(r:Nat->D6)(e:A3):A3:=λS M Q=>e S M λx a=>match x with
 |.ref n=>(∃xs,aq a n xs)/\r n [] a Q
 |_=>False
theorem k_ml0(m:Px X name r)(l:HE X o to)(e:n5 o name X.env (eval o X.env)=eval o X.env:=by kernel_rfl)(h:(apos.endLine==cpos.line)=b8:=by kernel_rfl):HE X (.Call (.Attribute o name apos) [] [] cpos) (dMl0 r to):=by
 obtain⟨id,h1,h2,j⟩:=m.ok;refine⟨PE.imp (JG PySem.F.plainAttrs_list h1 h2 j l.ok e h) ?_⟩;rintro σ H R ⟨S,M,ρ,Q,s,u,q,k⟩;refine⟨S,M,ρ,_,s,u,q,?_⟩;rintro v x ⟨d,b,f,i,g1,t,c⟩;cases t with
 |@ref n a g =>
  obtain⟨⟨xs,L⟩,c⟩:=(show (∃xs,aq b n xs)/\r n [] b _ from c)
  obtain⟨vs,p,_⟩:=aq.seq i L g;exact⟨.inl ⟨rfl,vs,p⟩,n,a,[],b,f,Q,rfl,g,i,.nil,c,λv H' w=>k v H'<|VQ.trans g1 w⟩
 |_=>exact c.elim
theorem Kz:HE X (.Dict [] [] pos) EX:=⟨Ly⟩
theorem CU(i:Room k X.A):X.A.units+1<j9:=by have:=i.un;lia
theorem KA(r:Room k X.A)(m:HE X o to)(hi:HE X i ti)(hs:IN i:=by intro _ _;kernel_rfl):HE X (.Subscript o i pos) (EY to ti):=⟨Lz (CU r) m.ok hi.ok hs⟩
end
def Jb(t:Nat)(s:List Nat)(wi:TI)(g:TG)(tt:TT)(te:TE)(N:TG):TS:=λD σ H=>Q6 t s wi g tt te σ H λv a=>N v σ a D.nx
theorem Dc(B:BlkSc X N' nt js scope)(hc:X.calm=b8)(hi:PI X tg iter wi)(hg:∀cl s0 H0 ex,PG (C8 X N' scope cl s0 H0 ex) tg g) (ht:∀cl s0 H0 ex,Nm (C8 X N' scope cl s0 H0 ex) ifs tt) (he:∀cl s0 H0 ex,PE (C8 X N' scope cl s0 H0 ex) elt te) (hn:PG X (.Name x pos') gN)(hs:∀x,j5 iter X.env x=pure x) (ak:i8 (.ListComp elt [⟨tg,iter,ifs,0⟩] scope pos) (a9<|.Name x pos') pos2.line X.env=pure b8):PS X (.Assign [.Name x pos'] (.ListComp elt [⟨tg,iter,ifs,0⟩] scope pos) pos2) (Jb nt js wi g tt te gN):=by
 intro f s σ H Dn I h;rw[exec_Assign_Name_used _ _ _ _ ak];refine u7<|wpAny_standAt ?_;obtain⟨cl,V,j,D⟩:=lg (scope:=scope) (env:=X.env) λp hp hf=>I.ok.has p.1<|B.free p hp hf;refine u7<|show g9 (i3 X.prog X.w) X.A (comprehension (.ListComp elt [⟨tg,iter,ifs,0⟩] scope pos) scope X.env _ (newList []) b9 (eval iter X.env) (a9<|i9 (.Name x pos') X.env) >>= λ_=>pure ()) _ _ _ from u7 ?_;refine wpAny_comprehension_free (use:=a9<|i9 (.Name x pos') X.env) (Q:=λ_ r=>g9 (i3 X.prog X.w) X.A (pure ()) (λ_ s3=>g9 (i3 X.prog X.w) X.A (pure Flow.next) (SP X f Dn) X.xe s3) X.xe r) rfl hs V B.kind B.loc ?_;refine A2 (hi f s σ H _ I h) λv s1 h1=>A2 h1 λam a h2=>?_;obtain⟨it,fp,tn,J,H2,e,l,T,S,M,W,⟨m0,w0⟩,L⟩:=h2;subst e;refine J0<|wpAny_newFunctionEnv B.nocell (by intro y hy;simp at hy) (λh1 E F=>?_) B.kind;have n:∀b∈fp,b<a.heap.objs.size:=λb i=>by obtain⟨o,e,_⟩:=T.obj _ _ S b i;exact A4 e
 have hC:(a.heap.push<|dc [] 0).objs.size=a.heap.objs.size+1:=Mo ..;have G:∀b o,(a.heap.push<|dc [] 0).get? b=a9 o->h1.get? b=a9 o:=λb o e=>(F.2 b<|A9<|A4 e).trans<|A1 _ e;have I3:=l.blkStart (tk:=a.toks+([]:List (c5×c3)).length) B j D M n G E;have K:tn 0 h1:=T.keep _ _ _ S λb _ o e=>G b o<|A1 _ e;have ag:a.heap.objs.size∉fp:=λz=>G3 _<|n _ z;have ai:a.heap.objs.size∉K7 X.stack:=λz=>by rcases C3.mp (l.stkSub _ z)with q|q;exact t7 l.lt (by rw[<-q];exact G3 _);exact l.nofs (x5 _) q
 have u:a.heap.objs.size≠(a.heap.push<|dc [] 0).objs.size:=by rw[hC];exact A9<|L4 _
 have ltc:∀z c,cl.lookup z=a9 c->c<a.heap.objs.size:=λz c e=>by obtain⟨v,q⟩:=l.cell z c<|j z c e;exact q.lt
 have t:∀b∈fp,b≠(a.heap.push<|dc [] 0).objs.size/\b∉K7 X.stack/\∀x c,cl.lookup x=a9 c->c≠b:=λb i=>by refine⟨by rw[hC];exact A9<|OB<|n b i,λz=>?_,λx c e=>(M b i).2.2.2.2.1 x c<|j x c e⟩;rcases C3.mp (l.stkSub b z)with q|q;exact(M b i).2.1 q;exact(M b i).2.2.1 q
 have al:a.heap.objs.size<=(a.heap.push<|dc [] 0).objs.size:=by rw[hC];exact Oo _
 have m:k9 (i3 X.prog X.w) X.A (.compLoop (.ListComp elt [⟨tg,iter,ifs,0⟩] scope pos) 0 (.ref it) (.ref a.heap.objs.size)<|compEnvC scope cl (a.heap.push<|dc [] 0).objs.size X.env) (compPost (i3 X.prog X.w) X.A X.xe (a9<|i9 (.Name x pos') X.env) (λ_ r=>g9 (i3 X.prog X.w) X.A (pure ()) (λ_ s3=>g9 (i3 X.prog X.w) X.A (pure Flow.next) (SP X f Dn) X.xe s3) X.xe r) (.ref a.heap.objs.size) (a.heap.push<|dc [] 0).objs.size) { a with heap:=h1,toks:=a.toks+([]:List (c5×c3)).length }:=by
  refine Bh (s0:={ a with heap:=a.heap.push (dc [] 0) }) (H0:=H2) (N':=N') (Q:=λv H1=>gN v σ H1 Dn.nx) hc (hg _ _ _ _) (ht _ _ _ _) (he _ _ _ _) T ag L t u ai (λx c e=>A9<|ltc x c e) ?_ m0 I3 K (λb i=>(M b i).1) w0;intro τ H' s' vs its k R rv hl q;obtain⟨mm,aj,_⟩:=id R.loc;obtain⟨C,es,Y,eC,aH⟩:=id aj;have I5:v4 X f σ (A6 H' a.heap.objs.size<|.lst vs) s':=l.blkEnd M R rv hl ⟨rfl,λ_ _=>rfl⟩;have Z:A6 H' a.heap.objs.size (.lst vs) (a.heap.push<|dc [] 0).objs.size=b7:=by rw[ax<|D4 u];exact R.free
  have fk:∀P:Hp,P (a.heap.push<|dc [] 0).objs.size=b7->zg X f P (a.heap.push<|dc [] 0).objs.size:=λP hx=>l.fpOk al hx;have dC:∀v,C.data≠.cell v:=λv z=>by
   have:∃es Y,C.data=.dict es Y:=by
    first
     |(obtain⟨d,_⟩:=aH;exact⟨_,_,d⟩)
     |(obtain⟨_,d,_⟩:=aH;exact⟨_,_,d⟩)
     |(obtain⟨_,_,d,_⟩:=aH;exact⟨_,_,d⟩)
   obtain⟨_,_,d⟩:=this;rw[d]at z;cases z
  have I6:v4 X (f++[((a.heap.push<|dc [] 0).objs.size,C)]) σ (A6 H' a.heap.objs.size<|.lst vs) s':=I5.pins_of λp hp=>by
   rcases Fn.mp hp with hp|hp;exact I5.pin p<|J6 _ hp;have:p=((a.heap.push<|dc [] 0).objs.size,C):=by simpa using hp
   subst this;exact⟨eC,Z,(fk _ Z).2.1,(fk _ Z).2.2.1,dC⟩
  refine A2 (hn _ s' σ _ (.ref a.heap.objs.size) (.ref a.heap.objs.size) _ I6 rfl q) ?_;rintro _ s7 ⟨N,O,U,q7⟩;obtain⟨p1,p2,_⟩:=U.pin ((a.heap.push<|dc [] 0).objs.size,C)<|J6 _<|J6 _ F4;refine⟨mm,⟨C,es,Y,p1,aH⟩,λh' sb=>u9<|u9 ⟨N,O,?_,q7⟩⟩;have I8:v4 X f N O s7:=U.pins_of λp hp=>U.pin p<|J6 _<|MC _ hp;refine I8.turnedL (t':=s7.toks) (fp:=[(a.heap.push<|dc [] 0).objs.size]) (λb i=>?_) λb o i e=>(sb.2 b<|by simpa using i).trans e;have:b=(a.heap.push<|dc [] 0).objs.size:=by simpa using i
  subst this;exact fk O p2
 exact codeAny_compStart_list m<|T.self _ 0 _ _ _ K m
def gK(t:Nat)(s:List Nat)(b:Mv)(g:L6)(tt:H9)(te:A3)(i:Nat):v5:=λE S M=>F6 t s b g tt te S M λd a=>ap i d S a E.nx
theorem EL(B:BlkSc X N' nt js scope)(f:X.calm=b8)(hi:DI X tg iter di)(R:∀cl s0 H0 ex,DG (C8 X N' scope cl s0 H0 ex) tg g) (t:∀cl s0 H0 ex,Nm (C8 X N' scope cl s0 H0 ex) ifs<|lowT X.K tt) (j:∀cl s0 H0 ex,DE (C8 X N' scope cl s0 H0 ex) elt te) (n:DG X (.Name x pos') (ap i))(hs:∀x,j5 iter X.env x=pure x) (h:i8 (.ListComp elt [⟨tg,iter,ifs,0⟩] scope pos) (a9<|.Name x pos') pos2.line X.env=pure b8):DS X (.Assign [.Name x pos'] (.ListComp elt [⟨tg,iter,ifs,0⟩] scope pos) pos2) (gK nt js di g tt te i):=PS.imp (Dc (g:=lowG X.K g) (tt:=lowT X.K tt) (te:=lowE X.K te) B f hi (λcl s0 H0 ex=>R cl s0 H0 ex) t (λcl s0 H0 ex=>j cl s0 H0 ex) n hs h) λE σ H ⟨S,M,ρ,F,s,b,q,k⟩ =>
  AX σ H _ ⟨S,M,ρ,_,s,b,q,λv o ⟨d,e,c,m,g1,r,l⟩=>⟨d,S,e,c,_,m,b.grow g1,r,l,λa H' w=>k.nx a H'<|SQ.trans g1 w⟩⟩
theorem Ea(a:X.N.Nodup)(hi:HI X tg iter di)(R:∀cl s0 H0 ex,HG (C8 X N' scope cl s0 H0 ex) tg g) (t:∀cl s0 H0 ex,OJ (C8 X N' scope cl s0 H0 ex) ifs tt) (e:∀cl s0 H0 ex,HE (C8 X N' scope cl s0 H0 ex) elt te) (B:ql X.env.scope.names X.N N' nt js scope=b8:=by kernel_rfl) (f:X.calm=b8:=by kernel_rfl)(hs:∀x,j5 iter X.env x=pure x:=by intro _;kernel_rfl) (w:i8 (.ListComp elt [⟨tg,iter,ifs,0⟩] scope pos) (a9<|.Name x pos') pos2.line X.env=pure b8:=by kernel_rfl)(h:X.N[i]?=a9 x:=by kernel_rfl) (c:IL X.env.scope x=b8:=by kernel_rfl) (b:X.fn x=b8:=by kernel_rfl):HS X (.Assign [.Name x pos'] (.ListComp elt [⟨tg,iter,ifs,0⟩] scope pos) pos2) (gK nt js di g tt te i):=⟨EL (BlkSc.chk B) f hi.ok (λcl s0 H0 ex=>(R cl s0 H0 ex).ok) (λcl s0 H0 ex=>(t cl s0 H0 ex).ok) (λcl s0 H0 ex=>(e cl s0 H0 ex).ok) (wj a h (AZ c)<|.inl b) hs w⟩
theorem Oi:atI (a::r) 0=a9 a:=by have:=au (xs:=a::r) (j:=0) (v:=a) rfl;simpa using this
theorem NS:atI (a::b::r) 1=a9 b:=by have:=au (xs:=a::b::r) (j:=1) (v:=b) rfl;simpa using this
theorem Q9:atI (a::b::c::r) 2=a9 c:=by have:=au (xs:=a::b::c::r) (j:=2) (v:=c) rfl;simpa using this
theorem aZ.lst(h:R (.ref M.length) (M++[.lst xs]))(f:M.length<=n)(e:(M++L)[n]?=a9 (.lst xs))(b:Bels M.length xs):aZ M R (.ref n) (M++L):=.inr<|.inr ⟨M,n,xs,.refl,rfl,f,e,Mc _ _,b,h⟩
theorem aZ.chgL(c:Pz M M1)(h:R (.ref M.length) (M1++[.lst xs]))(f:M.length<=n)(e:M'[n]?=a9 (.lst xs))(p:M1 <+: M')(b:Bels M.length xs):aZ M R (.ref n) M':=.inr<|.inr ⟨M1,n,xs,c,rfl,f,e,p,b,h⟩
theorem kg:(M++a::L).set M.length b=M++b::L:=by rw[Rp _ _<|x5 _];simp
theorem cJ:(M++a::L)[M.length]?=a9 a:=by simp
theorem Gv:M <+: M++L:=Mc _ _
theorem ib(I:List D->List D->SD->w6->Prop)(h0:∀acc S M,I [] acc S M->ok M/\Q (.ref M.length) (M++[.lst acc]))(h1:∀x xs acc S M,I (x::xs) acc S M->∀K:List D->SD->w6->Prop,(∀acc S M,I xs acc S M->K acc S M)->ok M/\g x S M λS2 M2=>tt S2 M2 λb M3=>if b=b8 then te S2 M3 λy M4=>acc.length<sizeLine/\K (acc++[y]) S2 M4 else K acc S2 M3):∀xs acc S M,I xs acc S M->oX ok g tt te Q xs acc S M
 | [],acc,S,M,h=>h0 acc S M h
 |x::xs,acc,S,M,h=>h1 x xs acc S M h _<|ib I h0 h1 xs
noncomputable def Pe:D->c5
 |.str x=>x
 |_=>Str.empty
theorem Ay{ys:List D}{s:List c5}(h:ys.Perm (s.map D.str)):∃ns:List c5,ys=ns.map D.str/\ns.Perm s:=by
 refine⟨ys.map Pe,?_,?_⟩;rw[E2];have:∀y∈ys,(D.str ∘ Pe) y=y:=λy O=>by obtain⟨x,_,rfl⟩:=A0.mp<|h.mem_iff.mp O;rfl
 exact(Nx this ▸ (List.map_id' ys).symm:ys=ys.map (D.str ∘ Pe));have:=h.map Pe;rw[E2]at this;have e:(Pe ∘ D.str)=id:=rfl
 rwa [e,NB]at this
theorem yh{M:w6}{s:List c5}(h:s.length<64):SrtOk M (s.map D.str):=by refine⟨by rw[w4];exact h,λx a=>?_,λx a y O=>?_,.inl λx a=>?_⟩;obtain⟨z,_,rfl⟩:=A0.mp a;rfl;obtain⟨z,_,rfl⟩:=A0.mp a;obtain⟨F,_,rfl⟩:=A0.mp O;rfl;obtain⟨z,_,rfl⟩:=A0.mp a;exact⟨z,rfl⟩
theorem xm:(lJ kvs k d).length<=kvs.length+1/\1<=(lJ kvs k d).length:=by unfold lJ;by_cases q:(kvs.any λp=>decide<|p.1=k)=b8;rw[t5 q,w4];obtain⟨p,hp,_⟩:=MV.mp q;have:0<kvs.length:=List.length_pos_of_mem hp;lia;rw[t6 q,B6,G5];lia
theorem CC(h:k∈kvs.map (·.1)):∃d,gd kvs k=a9 d/\(k,d)∈kvs:=by
 obtain⟨p,hp,rfl⟩:=A0.mp h;cases e:kvs.find? λq=>decide (q.1=p.1) with
 |none=>exact t7 (List.find?_eq_none.mp e p hp)<|by simp
 |some q =>
  have h1:=RF e;have h2:q.1=p.1:=by simpa using Ow e
  exact⟨q.2,by rw[gd,e];rfl,by rw[<-h2];exact h1⟩
theorem lP:(M++a::b::L)[M.length+1]?=a9 b:=by rw[Mr (by lia),show M.length+1-M.length=1 by lia];rfl
noncomputable def bn(w:c6):c9:={ cls:=.type "set",dict:=b7,data:=.set #[] 0 (.fresh 0 0<|!w.params.followText "set-order") }
theorem wq(a:c3)(h:Q₁ (.ref s.heap.objs.size) { s with heap:=s.heap.push (bn w) }):k9 (i3 prog w) A (.call (.builtin "set.__new__") ⟨[.type "set",a],[]⟩) (wants Q₁ E) s:=by
 refine codeAny_of_tree<|show g9 (i3 prog w) A.in1 (do checkBuiltinCall "set.__new__" ⟨[.type "set",a],[]⟩;again (.builtin "set.__new__" ⟨[.type "set",a],[]⟩)) _ _ s from ?_;refine u7<|wpAny_of_eq (F.newCall_set_1 a)<|u9 ⟨My F.plain_set_new _,Mg F.entry_set_new ?_⟩;rw[ML F.plain_set_new _];have b:=sub_set_self;obtain⟨hp,g,d,q,c⟩:=s;unfold Builtin.«set.__new__» Builtin.Frozenset.newClass;dsimp only
 wp_walk
 refine Oz<|u9 ?_;simp only[newObj];exact u7<|wpAny_alloc<|u9<|u9 h
structure TxSrc(prog:c7)(w:c6)(h:d5)(l:c8)(T:String)(n:Nat)(P:Nat->c3->Prop):Prop where
 obj:∃o,h.get? l=a9 o/\o.cls=.type T
 ns:isSubtype (.type T) (.type "set")=pure b9
 nf:isSubtype (.type T) (.type "frozenset")=pure b9
 nd:(MG T==MG "dict")=b9
 iter:∀(A:f7) (s':f8),A.handled=b7->(∀o,h.get? l=a9 o->s'.heap.get? l=a9 o)->∃(oI:c9) (St:Nat->d5->Prop),(∀(E:c3->f8->Prop) (Q:c3->f8->Prop),Q (.ref s'.heap.objs.size) { s' with heap:=s'.heap.push oI }->g9 (i3 prog w) A (j3<|.ref l) Q E s') /\Walks prog w A s'.heap.objs.size [s'.heap.objs.size,l] [s'.heap.objs.size] n P St/\St 0 (s'.heap.push oI)
theorem vp:isSubtype (.type "tuple") (.type "set")=pure b9:=by rw[isSubtype_type];kernel_rfl
theorem tj:isSubtype (.type "tuple") (.type "frozenset")=pure b9:=by rw[isSubtype_type];kernel_rfl
theorem TxSrc.list(g:h.IsList l its):TxSrc prog w h l "list" its.size (λi v=>its[i]?=a9 v):=by
 refine⟨let ⟨o,e,c,_⟩:=g;⟨o,e,c⟩,F.sub_list_set,F.sub_list_frozenset,by decide,λA s' b k=>?_⟩;have a:s'.heap.IsList l its:=g.at k;have lt:l<s'.heap.objs.size:=let ⟨o,e,_⟩:=a;A4 e
 exact⟨_,_,λE Q q=>wpAny_pyIter_list a q,Walks.list b _ l (A9 lt) its,⟨_,C0 _ rfl,rfl,rfl⟩,a.push _⟩
theorem TxSrc.tuple(g:h.IsTuple l its):TxSrc prog w h l "tuple" its.size (λi v=>its[i]?=a9 v):=by
 refine⟨let ⟨o,e,c,_⟩:=g;⟨o,e,c⟩,vp,tj,by decide,λA s' b k=>?_⟩;have a:s'.heap.IsTuple l its:=let ⟨o,e,r⟩:=g;⟨o,k o e,r⟩
 have lt:l<s'.heap.objs.size:=let ⟨o,e,_⟩:=a;A4 e
 exact⟨_,_,λE Q q=>wpAny_pyIter_tuple a q,Walks.tuple b _ l (A9 lt) its,⟨_,C0 _ rfl,rfl,rfl⟩,let ⟨o,e,r⟩:=a;⟨o,A1 _ e,r⟩⟩
theorem bp:Slot "set_iterator" "__next__" "set_iterator.__next__":=.of (owner:="set_iterator") (n:="__next__") (by rw[PU,Qb];kernel_rfl) (by decide +kernel) (by decide +kernel) (by decide +kernel) (by first|exact .inl (by decide +kernel)|exact .inr<|by decide +kernel)<|by rw[isSubtype_type];kernel_rfl
theorem fB:entryFor table "set_iterator.__next__" = a9 Builtin.«set_iterator.__next__»:=entryFor_of_tree<|by kernel_rfl
theorem nF:Manifest.owners.lookup (String.ofList ['r','o','t','a','r','e','t','i','_','t','e','s'].reverse)=a9 Manifest.sig_set_iterator:=by kernel_rfl
theorem ic(a:c3):argsOk "set_iterator.__next__" ⟨[a],[]⟩:=by unfold argsOk;rw[signature?_of (id:="set_iterator.__next__") (n:=['_','_','t','x','e','n','_','_']) (o:=['r','o','t','a','r','e','t','i','_','t','e','s']) (by kernel_rfl) nF];kernel_rfl
theorem rE:entryFor table "set.__iter__" = a9 Builtin.«frozenset.__iter__»:=entryFor_alias (id':="frozenset.__iter__") (by kernel_rfl) rfl (by decide +kernel)<|by kernel_rfl
theorem kC{α:Type}:∀(l:List α) (i:Nat) (h:i<l.length),(l[i]::l.eraseIdx i).Perm l
 |x::l,0,_=>Ov _
 |x::l,i+1,h=>by
  have h':i<l.length:=by simpa using h
  exact(List.Perm.swap x l[i]<|l.eraseIdx i).trans<|Qn x<|kC l i h'
theorem zc(f:n≠0)(h:∀i d,i<n->Q i { s with drawn:=d }):g9 M A (choose src n) Q E s:=by intro Γ p a;show Sem.wp M Γ (Sem.choose src n λi=>Sem.pure i) _ _ p s;rw[Sem.wp_choose];refine⟨f,?_⟩;rw[Sem.wp_pure];exact h _ _<|Nat.mod_lt _<|Nat.pos_of_ne_zero f
theorem uE{α:Type}{M:Model}{A:f7}{E:c3->f8->Prop}:∀(n:Nat) (xs:List α) (s:f8) (Q:List α->f8->Prop),xs.length=n->(∀ys d,ys.Perm xs->Q ys { s with drawn:=d })->g9 M A (drawOrder n xs) Q E s
 | 0,xs,s,Q,e,h=>by
  cases xs with
  |nil=>exact u9<|h [] s.drawn<|Ov _
  |cons _ _=>cases e
 |n+1,[],s,Q,e,h=>by cases e
 |n+1,x::xs,s,Q,e,h=>by unfold drawOrder;refine u7<|zc (by simp) λi d hi=>?_;rw[A5 hi];refine u7<|uE n ((x::xs).eraseIdx i) { s with drawn:=d } _ (by rw[List.length_eraseIdx_of_lt hi];simp at e ⊢;lia) λys d' hp=>u9<|h _ d' ?_;exact(Qn _ hp).trans<|kC _ i hi
theorem np{α:Type}(next:Nat->Nat)(xs:Array α):(p4 next xs).toList.Perm xs.toList:=by
 have o:∀(l k:Nat) (left:List α) (out:Array α),left.length=l->(pickOrder.go next l k left out).toList.Perm (out.toList++left):=by
  intro l;induction l with
  |zero =>
   intro k left out e;cases left with
   |nil=>simp[pickOrder.go]
   |cons _ _=>cases e
  |succ n i=>intro k left out e;have hi:next k % left.length<left.length:=Nat.mod_lt _ (by lia);unfold pickOrder.go;rw[A5 hi];dsimp only;refine(i (k+1) _ _<|by rw[List.length_eraseIdx_of_lt hi];lia).trans ?_;rw[OV,Ix];exact List.Perm.append_left _<|kC _ _ hi
 have:=o xs.size 0 xs.toList #[] (by simp);simpa [p4]using this
noncomputable def fA(first:c3)(i n:Nat)(a:c8)(ep:Nat):c9:={ cls:=.type "set_iterator",data:=.fields #[first,j4 i,.ref a,j4 n,j4 ep] }
structure SetAt(h:d5)(a:c8)(o:c9)(es:Array (Int×c3))(ep:Nat)(t:p5):Prop where
 ob:h.get? a=a9 o
 dt:o.data=.set es ep t
 ft:t.fits es.size=b8
theorem pO(c:A.handled=b7)(h:∀h' e,(∀b o,s.heap.get? b=a9 o->h'.get? b=a9 o)->(∃o,h'.get? e=a9 o/\o.cls=.type "StopIteration")->F (.ref e) { s with heap:=h' }):g9 (i3 prog w) A (do raiseNew (<-newExc (.type "StopIteration") []):Sem Fin) Q F s:=by refine u7 ?_;simp only[newExc,newTuple];refine u7 (J0 (u7 (m:=r9 _ _)<|wpAny_of_eq (a:=ABv) (by first|rfl|(simp only[r9];rfl))<|J0 ?_<|by size_fits)<|by size_fits);simp only[raiseNew];refine u7<|wpAny_handled ?_;rw[c];exact u7<|u9<|wpAny_throw<|h _ _ (λb o e=>A1 _<|A1 _ e) ⟨_,C0 _ rfl,rfl⟩
theorem nL{slot i next:Nat}{x:c3}{Q:Option c3->f8->Prop}(I:s.heap.get? it=a9 (fA (j4 slot) i es.size a ep))(S:SetAt s.heap a o es ep t)(f:∀(A:f7) (E:c3->f8->Prop) (Q:Option (c3×Nat)->f8->Prop),Q (a9 (x,next)) s->g9 (i3 prog w) A (setNext a slot i ep) Q E s)(b:∀h',h'.get? it=a9 (fA (j4 next) (i+1) es.size a ep)->K5 it s.heap h'->Q (a9 x) { s with heap:=h' }):g9 (i3 prog w) A (j1<|.ref it) Q E s:=by
 have T:s.TypeIs (.ref it) "set_iterator":=⟨_,I,rfl⟩
 unfold j1;refine u7<|Nu<|MM (name:=v6 "__next__") T bp<|J4 bp T fB ?_<|ic _;unfold Builtin.«set_iterator.__next__»;refine u7<|u9<|u7<|Mf I rfl ?_;dsimp only[fA,j4];refine u7<|Qa S.ob S.dt S.ft ?_;rw[t6<|by simp];refine u7<|f _ _ _ ?_;dsimp only;refine u7<|Ng I rfl (by simp)<|u7<|Ng (LQ _ I rfl) rfl (by simp)<|u9 ⟨x,rfl,u9<|b _ ?_<|(Mh ..).trans<|Mh ..⟩;refine(LQ _ (LQ _ I rfl) rfl).trans ?_;simp[fA,Os,j4]
theorem fv{slot i:Nat}{Q:Option c3->f8->Prop}(j:A.handled=b7)(I:s.heap.get? it=a9 (fA (j4 slot) i es.size a ep))(S:SetAt s.heap a o es ep t)(n:∀(A:f7) (E:c3->f8->Prop) (Q:Option (c3×Nat)->f8->Prop),Q b7 s->g9 (i3 prog w) A (setNext a slot i ep) Q E s)(c:∀h',(∀b o,b≠it->s.heap.get? b=a9 o->h'.get? b=a9 o)->Q b7 { s with heap:=h' }):g9 (i3 prog w) A (j1<|.ref it) Q E s:=by
 have h:s.TypeIs (.ref it) "set_iterator":=⟨_,I,rfl⟩
 unfold j1;refine u7<|Nu<|MM (name:=v6 "__next__") h bp<|J4 bp h fB ?_<|ic _;unfold Builtin.«set_iterator.__next__»;refine u7<|u9<|u7<|Mf I rfl ?_;dsimp only[fA,j4];refine u7<|Qa S.ob S.dt S.ft ?_;rw[t6<|by simp];refine u7<|n _ _ _ ?_;dsimp only;refine u7<|Ng I rfl (by simp) ?_;refine pO (by simp[j]) ?_;rintro h' e k ⟨m,g,f⟩;refine u7<|N6 (T:="StopIteration") (b:=b8) ⟨m,g,f⟩ PL<|u9<|c h' λb l d L=>k b l ?_;exact((Mh ..).2 b d).trans L
theorem yy{tt:c8}{ps:List Nat}{i j:Nat}{e:Int×c3}{Q:Option c3->f8->Prop}(I:s.heap.get? it=a9 (fA (.ref tt) i es.size a ep))(B:s.heap.IsTuple tt (ps.map λ(k:Nat)=>j4 k).toArray)(S:SetAt s.heap a o es ep t)(L:ps[i]?=a9 j) (d:es[j]?=a9 e) (c:∀h',h'.get? it=a9 (fA (.ref tt) (i+1) es.size a ep)->K5 it s.heap h'->Q (a9 e.2) { s with heap:=h' }):g9 (i3 prog w) A (j1<|.ref it) Q E s:=by
 have T:s.TypeIs (.ref it) "set_iterator":=⟨_,I,rfl⟩
 obtain⟨f,b,_,n,h⟩:=B;unfold j1;refine u7<|Nu<|MM (name:=v6 "__next__") T bp<|J4 bp T fB ?_<|ic _;unfold Builtin.«set_iterator.__next__»;refine u7<|u9<|u7<|Mf I rfl ?_;dsimp only[fA,j4];refine u7<|Qa S.ob S.dt S.ft ?_;rw[t6<|by simp];refine u7<|N3 b h ?_;have x:(ps.map λ(k:Nat)=>j4 k).toArray[i]?=a9 (.int j 0):=by simp[L,j4]
 simp only[LP,x];unfold setNextDrawn;refine u7<|u7<|MX S.ob S.dt S.ft ?_;simp only[bne_self_eq_false,C5,u3,d];refine u9<|u7<|Ng I rfl (by simp)<|u9 ⟨_,rfl,u9<|c _ ?_<|Mh ..⟩;refine(LQ _ I rfl).trans ?_;simp[fA,Os,j4]
theorem oO{tt:c8}{ps:List Nat}{i:Nat}{Q:Option c3->f8->Prop}(m:A.handled=b7)(I:s.heap.get? it=a9 (fA (.ref tt) i es.size a ep))(B:s.heap.IsTuple tt (ps.map λ(k:Nat)=>j4 k).toArray)(S:SetAt s.heap a o es ep t)(n:ps[i]?=b7) (f:∀h',(∀b o,b≠it->s.heap.get? b=a9 o->h'.get? b=a9 o)->Q b7 { s with heap:=h' }):g9 (i3 prog w) A (j1<|.ref it) Q E s:=by
 have d:s.TypeIs (.ref it) "set_iterator":=⟨_,I,rfl⟩
 obtain⟨v,c,_,u,h⟩:=B;unfold j1;refine u7<|Nu<|MM (name:=v6 "__next__") d bp<|J4 bp d fB ?_<|ic _;unfold Builtin.«set_iterator.__next__»;refine u7<|u9<|u7<|Mf I rfl ?_;dsimp only[fA,j4];refine u7<|Qa S.ob S.dt S.ft ?_;rw[t6<|by simp];refine u7<|N3 c h ?_;have x:(ps.map λ(k:Nat)=>j4 k).toArray[i]?=b7:=by simpa using n
 simp only[LP,x];refine u7<|Ng I rfl (by simp)<|u7<|Ng (LQ _ I rfl) rfl (by simp) ?_;refine pO (by simp[m]) ?_;rintro h' e p ⟨r,l,j⟩;refine u7<|N6 (T:="StopIteration") (b:=b8) ⟨r,l,j⟩ PL<|u9<|f h' λb q g L=>p b q ?_;exact(((Mh ..).trans<|Mh ..).2 b g).trans L
end L2
namespace L2
theorem nodup_le{α:Type}[DecidableEq α]:∀(l xs:List α),l.Nodup->(∀x∈l,x∈xs)->l.length<=xs.length
 | [],xs,_,_=>A8 _
 |a::l,xs,nd,h=>by have ha:a∈xs:=h a F4;have nd':=Ma.mp nd;have ih:=nodup_le l (xs.erase a) nd'.2 λx hx=>(List.mem_erase_of_ne<|show x≠a from λz=>nd'.1<|by rw[<-z];exact hx).mpr<|h x<|C6 _ hx;rw[List.length_erase_of_mem ha]at ih;have:0<xs.length:=List.length_pos_of_mem ha;rw[D7];lia
end L2
namespace Ht
open PySem
noncomputable def Pn(m:Nat)(p:N1):N1:=if p.more > 0 then { p with j:=p.j+1,more:=p.more-1 } else
 { p with j:=(NF m p.i p.perturb).1,more:=LN m (NF m p.i p.perturb).1-(NF m p.i p.perturb).1,i:=(NF m p.i p.perturb).1,perturb:=(NF m p.i p.perturb).2 }
noncomputable def kc(m i t:Nat):N1:={ j:=i,more:=LN m i-i,i,perturb:=t,dummy:=b7 }
noncomputable def mU(m:Nat)(p:N1):Nat->N1
 | 0=>p
 |n+1=>Pn m<|mU m p n
noncomputable def sq(m:Nat)(h:Int)(n:Nat):N1:=mU m (kc m (Nf h % (m+1))<|Nf h) n
theorem tp(m:Nat)(p:N1)(a b:Nat):mU m p (a+b)=mU m (mU m p a) b:=by
 induction b with
 |zero=>rfl
 |succ b i=>rw[Nat.add_succ,mU,i];rfl
theorem Jj(m i:Nat):LN m i-i<=9:=by unfold LN;split<;>lia
theorem By(m i pt:Nat):∀k,k<=LN m i-i->mU m (kc m i pt) k={ j:=i+k,more:=LN m i-i-k,i,perturb:=pt,dummy:=b7 }
 | 0,_=>by simp[mU,kc]
 |k+1,h=>by rw[mU,By m i pt k<|by lia];unfold Pn;rw[t5<|show LN m i-i-k > 0 by lia];simp only[SetTable.Probe.mk.injEq,true_and,and_true];lia
theorem Dw(m i t:Nat):mU m (kc m i t) (LN m i-i+1)=kc m (NF m i t).1 (NF m i t).2:=by rw[mU,By m i t _<|x5 _];unfold Pn;rw[t6<|show ¬LN m i-i-(LN m i-i) > 0 by lia];rfl
noncomputable def fg(m:Nat)(h:Int):Nat->Nat×Nat
 | 0=>(Nf h % (m+1),Nf h)
 |k+1=>NF m (fg m h k).1 (fg m h k).2
noncomputable def fG(m:Nat)(h:Int):Nat->Nat
 | 0=>0
 |k+1=>fG m h k+(LN m (fg m h k).1-(fg m h k).1+1)
theorem Fi(m:Nat)(h:Int)(k:Nat):fG m h k<=10*k:=by
 induction k with
 |zero=>exact x5 _
 |succ k i=>have:=Jj m (fg m h k).1;unfold fG;lia
theorem Fu(m:Nat)(h:Int)(k:Nat):sq m h (fG m h k)=kc m (fg m h k).1 (fg m h k).2:=by
 induction k with
 |zero=>rfl
 |succ k i=>unfold sq at i ⊢;unfold fG;rw[tp,i,Dw];rfl
theorem Ai(m:Nat)(h:Int)(k r:Nat)(i:r<=LN m (fg m h k).1-(fg m h k).1):(sq m h<|fG m h k+r).j=(fg m h k).1+r:=by have e:=Fu m h k;unfold sq at e ⊢;rw[tp,e,By _ _ _ _ i]
theorem IG(h:Int):Nf h<2 ^ 64:=by unfold Nf;have h0:=Int.emod_nonneg h (show (2 ^ 64:Int)≠0 by decide);have h1:=Int.emod_lt_of_pos h (show (0:Int)<2 ^ 64 by decide);lia
theorem pV(m:Nat)(h:Int):∀k,(fg m h k).2=Nf h / 32 ^ k
 | 0=>by simp[fg]
 |k+1=>by show (fg m h k).2 / 32=_;rw[pV m h k,Nat.div_div_eq_div_mul,<-Nat.pow_succ]
theorem tO(m:Nat)(h:Int)(k:Nat)(a:13<=k):(fg m h k).2=0:=by
 rw[pV];apply Nat.div_eq_of_lt;have h1:=IG h;have h2:32 ^ 13<=32 ^ k:=Nat.pow_le_pow_right (by decide) a;have b:(2:Nat) ^ 64<32 ^ 13:=by decide
 lia
noncomputable def wx(m i:Nat):Nat:=(i*5+1) % (m+1)
noncomputable def cb(m i:Nat):Nat->Nat
 | 0=>i
 |k+1=>wx m<|cb m i k
theorem fe(m i a b:Nat):cb m i (a+b)=cb m (cb m i a) b:=by
 induction b with
 |zero=>rfl
 |succ b h=>rw[Nat.add_succ,cb,h];rfl
theorem vq(m:Nat)(h:Int)(r:Nat):(fg m h<|13+r).1=cb m (fg m h 13).1 r:=by
 induction r with
 |zero=>rfl
 |succ r i=>show (NF m (fg m h<|13+r).1 (fg m h<|13+r).2).1=wx m (cb m (fg m h 13).1 r);rw[tO m h _ (by lia),i];rfl
theorem vt(m:Nat)(h:Int):∀k,(fg m h k).1<=m
 | 0=>Nat.lt_succ_iff.mp<|Nat.mod_lt _<|Nat.succ_pos _
 |k+1=>Nat.lt_succ_iff.mp<|Nat.mod_lt _<|Nat.succ_pos _
def IP(m:Nat):Prop:=cb m 0 (m+1)=0/\∀s,s<=m->∃k,k<=m/\cb m 0 k=s
noncomputable def vG(m:Nat):Nat->Nat->List Nat
 | 0,_=>[]
 |n+1,i=>i::vG m n (wx m i)
theorem nG(m:Nat):∀(n i k:Nat),k<n->(vG m n i)[k]?=a9 (cb m i k)
 | 0,_,_,h=>t7 h<|Nv _
 |n+1,i,0,_=>rfl
 |n+1,i,k+1,h=>by rw[vG,Qc,nG m n (wx m i) k (by lia),<-show cb m (cb m i 1) k=cb m i (k+1)from by rw[<-fe,Nat.add_comm]];rfl
theorem we(m:Nat)(h:((vG m (m+2) 0)[m+1]?==a9 0&&(C9<|m+1).all λs=>(vG m (m+1) 0).contains s)=b8):IP m:=by
 rw[G0,t9,G7]at h;refine⟨?_,λs hs=>?_⟩;have:=nG m (m+2) 0 (m+1) (by lia);rw[h.1]at this;exact(D2 this).symm;have:=h.2 s (K0.mpr<|by lia);rw[List.contains_iff_mem]at this;obtain⟨k,a⟩:=MB this;have g:k<m+1:=by
  have:=(C2.mp a).1;have B:∀n i,(vG m n i).length=n:=by
   intro n;induction n with
   |zero=>intro i;rfl
   |succ n b=>intro i;simp[vG,b]
  rw[B]at this;exact this
 rw[nG m _ 0 k g]at a;exact⟨k,by lia,D2 a⟩
theorem full7:IP 7:=we 7<|by decide +kernel
theorem KZ:IP 31:=we 31<|by decide +kernel
theorem HY:IP 127:=we 127<|by decide +kernel
theorem BH(F:IP m)(hi:i<=m)(hs:s<=m):∃k,k<=m/\cb m i k=s:=by obtain⟨a,f,c⟩:=F.2 i hi;obtain⟨b,d,L⟩:=F.2 s hs;by_cases h:a<=b;refine⟨b-a,by lia,?_⟩;rw[<-c,<-fe,show a+(b-a)=b by lia];exact L;refine⟨m+1-a+b,by lia,?_⟩;rw[<-c,<-fe,show a+(m+1-a+b)=(m+1)+b by lia,fe,F.1];exact L
def oY(m:Nat):Prop:=m=7\/m=31\/m=127
theorem oY.full(h:oY m):IP m:=by rcases h with rfl|rfl|rfl;exact full7;exact KZ;exact HY
theorem FP(d:oY m)(h:Int)(hs:s<=m):∃k,k<=m+13/\(fg m h k).1=s:=by obtain⟨r,i,e⟩:=BH d.full (vt m h 13) hs;exact⟨13+r,by lia,by rw[vq];exact e⟩
theorem Gg(d:oY m)(h:Int)(hs:s<=m):∃n,n<10*(m+15)/\(sq m h n).j=s:=by obtain⟨k,a,e⟩:=FP d h hs;refine⟨fG m h k,by have:=Fi m h k;lia,?_⟩;rw[Fu];exact e
theorem Jf(h:Int):∀n,∃k r,r<=LN m (fg m h k).1-(fg m h k).1/\n=fG m h k+r
 | 0=>⟨0,0,A8 _,rfl⟩
 |n+1=>by obtain⟨k,r,hr,e⟩:=Jf (m:=m) h n;by_cases q:r<LN m (fg m h k).1-(fg m h k).1;exact⟨k,r+1,q,by lia⟩;exact⟨k+1,0,A8 _,by rw[fG];lia⟩
theorem Ah(h:Int)(n:Nat):(sq m h n).j<=m:=by obtain⟨k,r,i,e⟩:=Jf (m:=m) h n;rw[e,Ai m h k r i];have:=vt m h k;unfold LN at i;split at i<;>lia
theorem below_spec(xs:Array Nat)(v:xs.toList.Pairwise (· < ·))(j:Nat):F9 xs j<=xs.size/\(∀k (h:k<xs.size),k<F9 xs j->xs[k]<j)/\∀k (h:k<xs.size),F9 xs j<=k->j<=xs[k]:=by
 have m:∀a b (g:a<xs.size) (i:b<xs.size),a<b->xs[a]<xs[b]:=λa b g i h=>by have:=Qe.mp v a b (by simpa using g) (by simpa using i) h;simpa using this
 have r:∀(l o hi:Nat),o<=hi->hi<=xs.size->hi-o<=l->(∀k (h:k<xs.size),k<o->xs[k]<j)->(∀k (h:k<xs.size),hi<=k->j<=xs[k]) -> OA xs j l o hi<=xs.size/\(∀k (h:k<xs.size),k<OA xs j l o hi->xs[k]<j)/\∀k (h:k<xs.size),OA xs j l o hi<=k->j<=xs[k]:=by
  intro l;induction l with
  |zero =>
   intro o hi h1 h2 s d c;have:o=hi:=by lia
   subst this;exact⟨h2,d,c⟩
  |succ l n =>
   intro o hi h1 h2 s d c;unfold OA;by_cases h:o<hi;rw[t5 h];have f:(o+hi) / 2<xs.size:=by lia
   have p:xs.getD ((o+hi) / 2) j=xs[(o+hi) / 2]:=by simp[MF,f]
   simp only[p];by_cases q:xs[(o+hi) / 2]<j;rw[t5 q];refine n _ _ (by lia) h2 (by lia) (λk e u=>?_) c;rcases Mm k ((o+hi) / 2)with z|z;exact ND (m k _ e f z) q;have:k=(o+hi) / 2:=by lia
   subst this;exact q;rw[t6 q];refine n _ _ (by lia) (by lia) (by lia) d λk e t=>?_;rcases Mm ((o+hi) / 2) k with z|z;exact J7 (Np.mp q)<|MR<|m _ k f e z;have:k=(o+hi) / 2:=by lia
   subst this;exact Np.mp q;rw[t6 h];have:o=hi:=by lia
   subst this;exact⟨h2,d,c⟩
 exact r xs.size 0 xs.size (A8 _) (x5 _) (by lia) (λk _ h=>t7 h<|Nv _) λk h h'=>t7 h<|Np.mpr h'
theorem below_at(r:xs.toList.Pairwise (· < ·))(h:xs[i]?=a9 j):F9 xs j=i:=by
 obtain⟨hi,e⟩:=M7.mp h;obtain⟨g,c,u⟩:=below_spec xs r j;have m:∀a b (f:a<xs.size) (d:b<xs.size),a<b->xs[a]<xs[b]:=λa b f d h=>by have:=Qe.mp r a b (by simpa using f) (by simpa using d) h;simpa using this
 rcases OW (F9 xs j) i with q|q|q;have d:F9 xs j<xs.size:=by lia
 have:=u _ d<|x5 _;have:=m _ i d hi q;lia;exact q;have:=c i hi q;lia
theorem slot_live{t:p5}(r:t.place.toList.Pairwise (· < ·)){i j:Nat}(h:t.place[i]?=a9 j):t.slot j=.live i:=by unfold SetTable.slot;simp only[below_at r h];rw[t5<|by rw[h];simp]
theorem yn{t:p5}(d:t.dummies = #[]){j:Nat}(h:j∉t.place.toList):t.slot j=.empty:=by
 unfold SetTable.slot;have e:¬(t.place[F9 t.place j]?==a9 j)=b8:=λz=>h (by rw[t9]at z;have:=Array.mem_of_getElem? z;simpa using this);have l:SetTable.has t.dummies j=b9:=by rw[d];rfl
 simp only[e,u3,l,C5]
theorem go_spec{t:p5}(r:t.place.toList.Pairwise (· < ·))(x:t.dummies = #[])(hashAt:Nat->Int)(h:Int):∀(fuel n N:Nat),n<=N->N<n+fuel->(sq t.mask h N).j∉t.place.toList->(∀k,n<=k->k<N->(sq t.mask h k).j∈t.place.toList) ->(∀k,(sq t.mask h k).dummy=b7) ->((∀k i,n<=k->k<N->t.place[i]?=a9 (sq t.mask h k).j->hashAt i≠h)/\Ri t hashAt h fuel (sq t.mask h n)=a9 (.empty (sq t.mask h N).j b7)) \/∃n' i,n<=n'/\n' < N/\t.place[i]?=a9 (sq t.mask h n').j/\hashAt i=h/\(∀k i,n<=k->k<n'->t.place[i]?=a9 (sq t.mask h k).j->hashAt i≠h)/\Ri t hashAt h fuel (sq t.mask h n)=a9 (.candidate (sq t.mask h n').j i<|sq t.mask h<|n'+1):=by
 intro fuel;induction fuel with
 |zero=>intro n N h1 h2;lia
 |succ fuel A =>
  intro n N h1 h2 g l m;unfold Ri;by_cases e:n=N;subst e;rw[yn x g];exact .inl ⟨λk i a b=>by lia,by rw[m]⟩;have y:=l n (x5 _) (by lia);obtain⟨i,hi⟩:=MB y;have d:t.place[i]?=a9 (sq t.mask h n).j:=by rw[<-J5];exact hi
  rw[slot_live r d];dsimp only;have u:∀i',t.place[i']?=a9 (sq t.mask h n).j->i'=i:=λi' z=>by rw[<-below_at r z,below_at r d]
  by_cases q:hashAt i=h;simp only[t9,q,u4];exact .inr ⟨n,i,x5 _,by lia,d,q,λk i a b=>by lia,rfl⟩;simp only[t9,q,u3];rcases A (n+1) N (by lia) (by lia) g (λk a b=>l k (by lia) b) m with⟨B,C⟩|⟨n',i',F,o,p,s,v,w⟩
  refine .inl ⟨λk i' a b c=>?_,C⟩;rcases Mm n k with z|z;exact B k i' z b c;have:k=n:=by lia
  subst this;rw[u i' c];exact q;refine .inr ⟨n',i',by lia,o,p,s,λk f a b c=>?_,w⟩;rcases Mm n k with z|z;exact v k f z b c;have:k=n:=by lia
  subst this;rw[u f c];exact q
theorem sq_dummy(m:Nat)(h:Int):∀n,(sq m h n).dummy=b7
 | 0=>rfl
 |n+1=>by show (Pn m<|sq m h n).dummy=b7;unfold Pn;split;exact sq_dummy m h n;exact sq_dummy m h n
structure TOk(t:p5)(hs:List Int):Prop where
 msk:oY t.mask
 len:t.place.size=hs.length
 nod:t.dummies = #[]
 ris:t.place.toList.Pairwise (· < ·)
 rng:∀j∈t.place.toList,j<=t.mask
 few:t.place.size*5<t.mask*3
 path:∀(i:Nat) (h:Int) (j:Nat),hs[i]?=a9 h->t.place[i]?=a9 j->∃n,(sq t.mask h n).j=j/\∀n',n' < n->(sq t.mask h n').j∈t.place.toList
theorem BG{m:Nat}{l:List Nat}(n:l.Nodup)(i:∀j∈l,j<=m)(g:l.length<=m):∃j,j<=m/\j∉l:=by refine NM λf=>?_;have a:∀j∈C9 (m+1),j∈l:=λj L=>NM λh=>f ⟨j,by have:=K0.mp L;lia,h⟩;have:=L2.nodup_le (C9<|m+1) l Qx a;rw[NH]at this;lia
theorem wf{m:Nat}(f:oY m){l:List Nat}(i:l.Nodup)(r:∀j∈l,j<=m)(g:l.length<=m)(h:Int):∃N,N<10*(m+15)/\(sq m h N).j∉l/\∀k,k<N->(sq m h k).j∈l:=by
 obtain⟨s,hs,u⟩:=BG i r g;obtain⟨n,o,t⟩:=Gg f h hs;have:∀b n,n<b->(sq m h n).j∉l->∃N,N<=n/\(sq m h N).j∉l/\∀k,k<N->(sq m h k).j∈l:=by
  intro b;induction b with
  |zero=>intro n h;lia
  |succ b v=>intro n x p;by_cases q:∀k,k<n->(sq m h k).j∈l;exact⟨n,x5 _,p,q⟩;have:∃k,k<n/\(sq m h k).j∉l:=NM λz=>q λk e=>NM λw=>z ⟨k,e,w⟩;obtain⟨k,e,d⟩:=this;obtain⟨N,F,a,c⟩:=v k (by lia) d;exact⟨N,by lia,a,c⟩
 obtain⟨N,F,a,c⟩:=this (n+1) n (L4 _) (by rw[t];exact u);exact⟨N,by lia,a,c⟩
theorem TOk.empty{t:p5}{hs:List Int}(T:TOk t hs)(h:Int):∃N,N<10*(t.mask+15)/\(sq t.mask h N).j∉t.place.toList/\∀k,k<N->(sq t.mask h k).j∈t.place.toList:=by refine wf T.msk (T.ris.imp λh=>A9 h) T.rng ?_ h;have:=T.few;rw[F5];rcases T.msk with e|e|e<;>lia
theorem Av{t:p5}(r:t.place.toList.Pairwise (· < ·)){j:Nat}(L:j∉t.place.toList):(t.put j).1.place.toList=t.place.toList.take (F9 t.place j)++j::t.place.toList.drop (F9 t.place j)/\(t.put j).1.place.toList.Pairwise (· < ·):=by
 obtain⟨o,m,u⟩:=below_spec t.place r j;have e:(t.put j).1.place.toList=t.place.toList.take (F9 t.place j)++j::t.place.toList.drop (F9 t.place j):=by show (QA t.place (F9 t.place j) j).toList=_;rw[SetTable.toList_insertAt]
 refine⟨e,?_⟩;rw[e,List.pairwise_append];refine⟨r.sublist<|P6 ..,List.pairwise_cons.mpr ⟨λx c=>?_,r.sublist<|List.drop_sublist ..⟩,λx c y O=>?_⟩;obtain⟨k,h⟩:=MB c;rw[OZ]at h;have d:t.place[F9 t.place j+k]?=a9 x:=by rw[<-J5];exact h
 obtain⟨g,f⟩:=M7.mp d;have:=u _ g<|Nat.le_add_right _ _;rw[f]at this;rcases Mm j x with z|z;exact z;have:x=j:=by lia
 subst this;exact t7 (List.mem_of_mem_drop c) L;obtain⟨k,h⟩:=MB c;rw[List.getElem?_take]at h;split at h;rename_i l;have d:t.place[k]?=a9 x:=by rw[<-J5];exact h
 obtain⟨g,f⟩:=M7.mp d;have h1:=m k g l;rw[f]at h1;rcases C3.mp O with rfl|O;exact h1;obtain⟨C,a⟩:=MB O;rw[OZ]at a;have b:t.place[F9 t.place j+C]?=a9 y:=by rw[<-J5];exact a
 obtain⟨i,n⟩:=M7.mp b;have:=u _ i<|Nat.le_add_right _ _;rw[n]at this;lia;cases h
end Ht
namespace L2
open PySem PySem.Spec PyProof.Rows DL PySem.W
theorem gi:Slot "set_iterator" "__iter__" "set_iterator.__iter__":=.of (owner:="set_iterator") (n:="__iter__") (by rw[PU,Qb];kernel_rfl) (by decide +kernel) (by decide +kernel) (by decide +kernel) (by first|exact .inl (by decide +kernel)|exact .inr<|by decide +kernel)<|by rw[isSubtype_type];kernel_rfl
theorem lC:entryFor table "set_iterator.__iter__" = a9 Builtin.«dict_keyiterator.__iter__»:=entryFor_alias (id':="dict_keyiterator.__iter__") (by kernel_rfl) rfl (by decide +kernel)<|by kernel_rfl
theorem oB(a:c3):argsOk "set_iterator.__iter__" ⟨[a],[]⟩:=by unfold argsOk;rw[signature?_of (id:="set_iterator.__iter__") (n:=['_','_','r','e','t','i','_','_']) (o:=['r','o','t','a','r','e','t','i','_','t','e','s']) (by kernel_rfl) nF];kernel_rfl
theorem gW(I:s.heap.get? it=a9 (fA first i n a ep))(h:Q (.ref it) s):g9 (i3 prog w) A (j3<|.ref it) Q E s:=by
 have o:s.TypeIs (.ref it) "set_iterator":=⟨_,I,rfl⟩
 refine P4 o gi<|J4 gi o lC (show g9 _ _ (ret<|.ref it) _ _ s from ?_)<|oB _;exact u9 ⟨_,rfl,"set_iterator",_,o,bp.lookup,h⟩
theorem SetAt.at(S:SetAt h a o es ep t)(k:∀o,h.get? a=a9 o->h'.get? a=a9 o):SetAt h' a o es ep t:=⟨k _ S.ob,S.dt,S.ft⟩
theorem kQ(d:w.params.followText "set-order" = b8)(S:SetAt s.heap a o es ep t)(h:Q (((p4 (w.params.setOrder a ep) es)[i]?).map λe=>(e.2,0)) s):g9 (i3 prog w) A (setNext a 0 i ep) Q E s:=by unfold setNext;refine u7<|MX S.ob S.dt S.ft ?_;unfold setsByText;refine u7<|u7<|Oz<|u9 ?_;simp only[i3,d,u4,bne_self_eq_false,C5,u3];unfold setWalk;refine u7<|u7<|MX S.ob S.dt S.ft ?_;unfold setsByText;refine u7<|u7<|Oz<|u9 ?_;simp only[i3,d,u4];exact u7<|Oz<|u9<|u9 h
theorem ya(d:w.params.followText "set-order" = b8)(m:A.handled=b7)(f:a≠it):Walks prog w A it [it,a] [it] es.size (λi v=>((p4 (w.params.setOrder a ep) es).toList.map (·.2))[i]?=a9 v) (λi h=>h.get? it=a9 (fA (j4 0) i es.size a ep)/\SetAt h a o es ep t) where
 sub:=λb d=>by simp at d;simp[d]
 frame:=λ_ _ _ st l=>⟨l it (by simp) _ st.1,st.2.at λo e=>l a (by simp) o e⟩
 item:=λi s Q E hi st c=>by
  have g:(p4 (w.params.setOrder a ep) es).size=es.size:=by have:=(np (w.params.setOrder a ep) es).length_eq;simpa using this
  obtain⟨e,j⟩:∃e,(p4 (w.params.setOrder a ep) es)[i]?=a9 e:=⟨_,J1<|by rw[g];exact hi⟩
  refine nL (slot:=0) (next:=0) (x:=e.2) st.1 st.2 (λA E Q q=>kQ d st.2<|by rw[j];exact q) λh' h1 T=>c _ h' s.toks (by simp[j]) ⟨h1,st.2.at λo e=>(T.2 a f).trans e⟩ λb o d e=>(T.2 b<|by simpa using d).trans e
 done:=λs Q E st c=>by
  have g:(p4 (w.params.setOrder a ep) es).size=es.size:=by have:=(np (w.params.setOrder a ep) es).length_eq;simpa using this
  refine fv (slot:=0) m st.1 st.2 (λA E Q q=>kQ d st.2 ?_) λh' k=>c h' s.toks λb o d e=>k b o (by simpa using d) e;rw[O5<|by rw[g];exact x5 _];exact q
 self:=λ_ _ _ _ st c=>gW st.1 c
theorem vj{tt:c8}{ps:List Nat}(hp:ps.Perm (C9 es.size))(x:A.handled=b7)(m:a≠it)(n:tt≠it):Walks prog w A it [it,a,tt] [it] es.size (λi v=>(ps.filterMap λj=>(es[j]?).map (·.2))[i]?=a9 v) (λi h=>h.get? it=a9 (fA (.ref tt) i es.size a ep)/\SetAt h a o es ep t/\h.IsTuple tt (ps.map λ(k:Nat)=>j4 k).toArray) where
 sub:=λb f=>by simp at f;simp[f]
 frame:=λ_ _ _ st g=>⟨g it (by simp) _ st.1,st.2.1.at λo e=>g a (by simp) o e,let ⟨o,e,r⟩:=st.2.2;⟨o,g tt (by simp) _ e,r⟩⟩
 item:=λi s Q E hi st d=>by
  have q:ps.length=es.size:=by have:=hp.length_eq;simpa using this
  have l:∀j∈ps,j<es.size:=λj L=>by have:=hp.mem_iff.mp L;simpa using this
  have L:ps[i]?=a9 ps[i]:=A5 (by lia);have c:ps[i]<es.size:=l _<|MU _;have p:es[ps[i]]?=a9 es[ps[i]]:=J1 c;have u:(ps.filterMap λj=>(es[j]?).map (·.2))=ps.map λj=>(es.getD j default).2:=by
   clear L q hp hi st d p c;induction ps with
   |nil=>rfl
   |cons j r y=>have L:=l j F4;rw[Ny,J1 L,D5,<-y λk g=>l k<|C6 _ g];simp[MF,L]
  refine yy st.1 st.2.2 st.2.1 L p λh' h1 T=>d _ h' s.toks ?_ ⟨h1,st.2.1.at λo e=>(T.2 a m).trans e,let ⟨o,e,r⟩:=st.2.2;⟨o,(T.2 tt n).trans e,r⟩⟩ λb o f e=>(T.2 b<|by simpa using f).trans e;rw[u,D8,L];simp[MF,c]
 done:=λs Q E st d=>by
  have q:ps.length=es.size:=by have:=hp.length_eq;simpa using this
  exact oO x st.1 st.2.2 st.2.1 (NK<|by lia) λh' k=>d h' s.toks λb o f e=>k b o (by simpa using f) e
 self:=λ_ _ _ _ st d=>gW st.1 d
theorem kR(b:w.params.followText "set-order" = b9)(d:t.led=b8)(c:es.size<=1)(S:SetAt s.heap a o es ep t)(h:Q (match es[F9 t.place slot]?,t.place[F9 t.place slot]? with|some (_,x),a9 j=>a9 (x,j+1)|_,_=>b7) s):g9 (i3 prog w) A (setNext a slot i ep) Q E s:=by unfold setNext;refine u7<|MX S.ob S.dt S.ft ?_;unfold setsByText;refine u7<|u7<|Oz<|u9 ?_;simp only[i3,b,C5,u3];refine Nh (λz=>?_) λ_=>?_;have F:(!t.plain&&decide (es.size > 1))=b8:=z;simp at F;lia;refine u7<|show g9 (i3 prog w) A (if (!t.led && !es.isEmpty)=b8 then unsupported _ else pure ()) _ _ s from ?_;rw[d];simp only[MS,PQ,C5,u3];exact u9<|u9 h
theorem uS(j k:Nat):F9 #[j] k=if j<k then 1 else 0:=by unfold F9;simp only[B5,D7,D3];unfold OA;simp only[Nat.zero_lt_succ,u4];by_cases h:j<k;simp[h,OA];simp[h,OA]
theorem yb(d:w.params.followText "set-order" = b9)(c:t.led=b8)(g:es.size<=1)(r:A.handled=b7)(l:a≠it):Walks prog w A it [it,a] [it] es.size (λi v=>(es.toList.map (·.2))[i]?=a9 v) (λi h=>h.get? it=a9 (fA (j4 (if i=0 then 0 else t.place.getD 0 0+1:Nat)) i es.size a ep)/\SetAt h a o es ep t) where
 sub:=λb d=>by simp at d;simp[d]
 frame:=λ_ _ _ st n=>⟨n it (by simp) _ st.1,st.2.at λo e=>n a (by simp) o e⟩
 item:=λi s Q E hi st f=>by
  obtain rfl:i=0:=by lia
  have ps:t.place.size=1:=by have:=st.2.ft;simp[OQ]at this;lia
  obtain⟨j,L⟩:∃j,t.place = #[j]:=⟨t.place[0],by apply Array.ext (by simpa using ps);intro i h1 h2;simp at h2;subst h2;rfl⟩
  have m:es[0]?=a9 es[0]:=J1 hi;refine nL (slot:=0) (next:=j+1) (x:=es[0].2) st.1 st.2 (λA E Q q=>kR d c g st.2 ?_) λh' h1 T=>f _ h' s.toks ?_ ⟨?_,st.2.at λo e=>(T.2 a l).trans e⟩ λb o d e=>(T.2 b<|by simpa using d).trans e;rw[L,uS,t6<|Nv _,m];exact q;rw[D8,J5,m];rfl;simpa [L]using h1
 done:=λs Q E st f=>by
  refine fv (slot:=if es.size=0 then 0 else t.place.getD 0 0+1) r st.1 st.2 (λA E Q q=>kR d c g st.2 ?_) λh' k=>f h' s.toks λb o d e=>k b o (by simpa using d) e;have ps:t.place.size=es.size:=by have:=st.2.ft;simp[OQ]at this;lia
  by_cases z:es.size=0;have:es = #[]:=Array.eq_empty_of_size_eq_zero z;subst this;simpa using q;obtain⟨j,L⟩:∃j,t.place = #[j]:=⟨t.place[0],by apply Array.ext (by simp;lia);intro i h1 h2;simp at h2;subst h2;rfl⟩
  have p:F9 t.place (if es.size=0 then 0 else t.place.getD 0 0+1)=1:=by rw[t6 z,L,uS];simp
  rw[p,O5<|by lia];exact q
 self:=λ_ _ _ _ st f=>gW st.1 f
theorem kT(c:w.params.followText "set-order" = b9)(d:t.led=b8)(b:(!t.plain&&decide (es.size > 1))=b9)(S:SetAt s.heap a o es ep t)(h:Q (match es[F9 t.place slot]?,t.place[F9 t.place slot]? with|some (_,x),a9 j=>a9 (x,j+1)|_,_=>b7) s):g9 (i3 prog w) A (setNext a slot i ep) Q E s:=by unfold setNext;refine u7<|MX S.ob S.dt S.ft ?_;unfold setsByText;refine u7<|u7<|Oz<|u9 ?_;simp only[i3,c,C5,u3];refine Nh (λz=>?_) λ_=>?_;have F:(!t.plain&&decide (es.size > 1))=b8:=z;rw[b]at F;cases F;refine u7<|show g9 (i3 prog w) A (if (!t.led && !es.isEmpty)=b8 then unsupported _ else pure ()) _ _ s from ?_;rw[d];simp only[MS,PQ,C5,u3];exact u9<|u9 h
theorem yc(d:w.params.followText "set-order" = b9)(c:t.led=b8)(j:(!t.plain&&decide (es.size > 1))=b9)(F:t.place.toList.Pairwise (· < ·))(H:A.handled=b7)(r:a≠it):Walks prog w A it [it,a] [it] es.size (λi v=>(es.toList.map (·.2))[i]?=a9 v) (λi h=>h.get? it=a9 (fA (j4 (if i=0 then 0 else t.place.getD (i-1) 0+1:Nat)) i es.size a ep)/\SetAt h a o es ep t):=by
 have l:∀i,i<=t.place.size->F9 t.place (if i=0 then 0 else t.place.getD (i-1) 0+1)=i:=λi hi=>by
  obtain⟨n,f,u⟩:=Ht.below_spec t.place F<|if i=0 then 0 else t.place.getD (i-1) 0+1;have m:∀a b (B:a<t.place.size) (d:b<t.place.size),a<b->t.place[a]<t.place[b]:=λa b B d h=>by have:=Qe.mp F a b (by simpa using B) (by simpa using d) h;simpa using this
  by_cases z:i=0;rw[t5 z]at n f u ⊢;rcases Nat.eq_zero_or_pos (F9 t.place 0)with q|q;rw[q,z];have:=f 0 (by lia) q;lia;rw[t6 z]at n f u ⊢;have p:i-1<t.place.size:=by lia
  have G:t.place.getD (i-1) 0=t.place[i-1]:=by simp[MF,p]
  rw[G]at n f u ⊢;rcases OW (F9 t.place<|t.place[i-1]+1) i with q|q|q;have:=u (i-1) p (by lia);lia;exact q;have:=f i (by lia) q;have:=m (i-1) i p (by lia) (by lia);lia
 exact {
  sub:=λb d=>by simp at d;simp[d]
  frame:=λ_ _ _ st D=>⟨D it (by simp) _ st.1,st.2.at λo e=>D a (by simp) o e⟩
  item:=λi s Q E hi st g=>by
   have ps:t.place.size=es.size:=by have:=st.2.ft;simp[OQ]at this;lia
   have hp:i<t.place.size:=by lia
   have C:es[i]?=a9 es[i]:=J1 hi;have y:t.place[i]?=a9 t.place[i]:=J1 hp;refine nL (next:=t.place[i]+1) (x:=es[i].2) st.1 st.2 (λA E Q q=>kT d c j st.2 ?_) λh' h1 T=>g _ h' s.toks ?_ ⟨?_,st.2.at λo e=>(T.2 a r).trans e⟩ λb o d e=>(T.2 b<|by simpa using d).trans e;rw[l i (by lia),C,y];exact q;rw[D8,J5,C];rfl;rw[t6<|Nat.succ_ne_zero i,QF,show t.place.getD i 0=t.place[i] by simp[MF,hp]];exact h1
  done:=λs Q E st g=>by
   have ps:t.place.size=es.size:=by have:=st.2.ft;simp[OQ]at this;lia
   refine fv H st.1 st.2 (λA E Q q=>kT d c j st.2 ?_) λh' k=>g h' s.toks λb o d e=>k b o (by simpa using d) e;rw[l es.size (by lia),O5<|x5 _];exact q
  self:=λ_ _ _ _ st g=>gW st.1 g }
theorem Ek(S:SetAt s.heap a o es ep t)(B:o.cls=.type "set")(x:t.plain=b8->es.size<=1\/t.place.toList.Pairwise (· < ·))(k:t.led = !w.params.followText "set-order")(hz:es.size<=sizeLine)(h:∀(it:c8) (h':d5) (d:Drawn) (vs:List c3) (fp:List c8) (St:Nat->d5->Prop),(∀b o,s.heap.get? b=a9 o->h'.get? b=a9 o)->vs.Perm (es.toList.map (·.2))->s.heap.objs.size<=it->it<h'.objs.size->(∀b∈fp,b=a\/s.heap.objs.size<=b/\b<h'.objs.size) -> (∀A':f7,A'.handled=b7->Walks prog w A' it fp [it] es.size (λi v=>vs[i]?=a9 v) St)->St 0 h'->Q (.ref it) { s with heap:=h',drawn:=d }):g9 (i3 prog w) A (j3<|.ref a) Q E s:=by
 have T:s.TypeIs (.ref a) "set":=⟨o,S.ob,B⟩
 have u:a<s.heap.objs.size:=A4 S.ob;refine P4 T F.slot_set_iter<|J4 F.slot_set_iter T rE ?_<|F.args_set_iter_1 _;unfold Builtin.«frozenset.__iter__»;refine u7<|show g9 (i3 prog w) _ (pure a) _ _ s from u9 ?_;unfold Builtin.Frozenset.sizeOf;refine u7<|u7<|Qa S.ob S.dt S.ft<|u9 ?_;unfold setDrawn;refine u7<|u7<|MX S.ob S.dt S.ft ?_;unfold setsByText;refine u7<|u7<|Oz<|u9<|u9 ?_;by_cases r:(!w.params.followText "set-order" && (!t.plain&&decide (es.size > 1)))=b8;refine Nh (λ_=>?_) λz=>t7 r z;refine u7<|uE _ _ _ _ (by simp) λps d hp=>?_;refine u7<|show g9 (i3 prog w) _ (newObj (.type "tuple")<|.seq (ps.map λ(i:Nat)=>j4 i).toArray) _ _ _ from J0 ?_ (by have e:=hp.length_eq;rw[NH]at e;show (ps.map λ(i:Nat)=>j4 i).toArray.size<=sizeLine;rw[B5,w4,e];exact hz);have g:=S.at (h':=s.heap.push { cls:=.type "tuple",data:=.seq (ps.map λ(i:Nat)=>j4 i).toArray }) λo e=>A1 _ e;refine u7<|wpAny_setEpoch_of (s:={ s with heap:=_,drawn:=d }) g.ob g.dt g.ft ?_;refine u7 (show g9 (i3 prog w) _ (newObj (.type "set_iterator")<|.fields #[.ref s.heap.objs.size,j4 0,.ref a,j4 es.size,j4 ep]) _ _ _ from J0 ?_<|by size_fits);refine u9 ⟨_,rfl,"set_iterator",_,⟨_,C0 _ rfl,rfl⟩,bp.lookup,?_⟩;have p:(s.heap.push { cls:=.type "tuple",data:=.seq (ps.map λ(i:Nat)=>j4 i).toArray }).objs.size=s.heap.objs.size+1:=Mo ..;refine h _ _ d (ps.filterMap λj=>(es[j]?).map (·.2)) _ _ (λb o e=>A1 _<|A1 _ e) ?_ (by show s.heap.objs.size<=(s.heap.push _).objs.size;rw[p];exact Oo _) (by show _<((s.heap.push _).push _).objs.size;rw[Mo (h:=s.heap.push _)];exact L4 _) ?_ (λA' m=>vj (o:=o) (t:=t) (ep:=ep) hp m (A9<|by rw[p];exact OB u)<|A9<|by rw[p];exact L4 _) ⟨C0 _ rfl,g.at λo e=>A1 _ e,⟨_,A1 _<|C0 _ rfl,rfl,_,rfl⟩⟩;refine(hp.filterMap _).trans ?_;have y:(C9 es.size).filterMap (λj=>(es[j]?).map (·.2))=((C9 es.size).filterMap λj=>es[j]?).map (·.2):=by rw[List.map_filterMap]
 rw[y,filterMap_getElem?_range];intro b c;rw[Mo,p];rcases C3.mp c with rfl|c;exact .inr ⟨by rw[p];exact Oo _,by rw[p];exact L4 _⟩;rcases C3.mp c with rfl|c;exact .inl rfl;rw[F0.mp c];exact .inr ⟨x5 _,OB<|L4 _⟩;refine Nh (λz=>t7 z r) λ_=>?_;refine u7<|u9<|u7<|wpAny_setEpoch_of S.ob S.dt S.ft ?_;refine u7 (show g9 (i3 prog w) _ (newObj (.type "set_iterator")<|.fields #[j4 0,j4 0,.ref a,j4 es.size,j4 ep]) _ _ _ from J0 ?_<|by size_fits);refine u9 ⟨_,rfl,"set_iterator",_,⟨_,C0 _ rfl,rfl⟩,bp.lookup,?_⟩;have g:=S.at (h':=s.heap.push<|fA (j4 0) 0 es.size a ep) λo e=>A1 _ e;have l:∀b∈[s.heap.objs.size,a],b=a\/s.heap.objs.size<=b/\b<(s.heap.push<|fA (j4 0) 0 es.size a ep).objs.size:=λb c=>by rcases C3.mp c with rfl|c;exact .inr ⟨x5 _,by rw[Mo];exact L4 _⟩;exact .inl<|F0.mp c
 by_cases c:w.params.followText "set-order" = b8;refine h _ _ s.drawn ((p4 (w.params.setOrder a ep) es).toList.map (·.2)) _ _ (λb o e=>A1 _ e) ((np _ es).map _) (x5 _) (by rw[Mo];exact L4 _) l (λA' m=>ya (o:=o) (t:=t) (ep:=ep) c m<|A9 u) ⟨C0 _ rfl,g⟩;have f:w.params.followText "set-order" = b9:=by simpa using c
 have n:(!t.plain&&decide (es.size > 1))=b9:=by rw[f]at r;simpa using r
 have ao:es.size<=1\/t.place.toList.Pairwise (· < ·):=by by_cases q:t.plain=b8;exact x q;simp[q]at n;exact .inl n
 rcases ao with h1|C;refine h _ _ s.drawn (es.toList.map (·.2)) _ _ (λb o e=>A1 _ e) (Ov _) (x5 _) (by rw[Mo];exact L4 _) l (λA' m=>yb (o:=o) (t:=t) (ep:=ep) f (by rw[k,f];rfl) h1 m<|A9 u) ⟨?_,g⟩;rw[t5 rfl];exact C0 _ rfl;refine h _ _ s.drawn (es.toList.map (·.2)) _ _ (λb o e=>A1 _ e) (Ov _) (x5 _) (by rw[Mo];exact L4 _) l (λA' m=>yc (o:=o) (t:=t) (ep:=ep) f (by rw[k,f];rfl) n C m<|A9 u) ⟨?_,g⟩;rw[t5 rfl];exact C0 _ rfl
end L2
namespace L2
open PySem PySem.Spec PyProof.Rows DL PySem.W PySem.Calls PyProof.V
theorem Ev(o:s.TypeIs (.ref a) "set")(h:Q b9 s):g9 (i3 prog w) A (RP<|.ref a) Q E s:=by
 unfold RP;refine u7<|NG o F.slot_set_len.lookup ?_;generalize hi:("set.__len__":String)=t
 wp_delta
 rw[show splitId t=a9 ("set","__len__") by rw[<-hi];decide +kernel];rw[<-hi];refine u7<|N6 (T:="set") (b:=b8) o sub_set_self<|Nh (λz=>t7 z<|by decide) λ_=>Nh (λ_=>u7<|MH o<|u9 h) λz=>t7 (by decide +kernel) z
theorem yS{R:Result->f8->Prop}(N:A.handled=b7)(S:SetAt s.heap a o es ep t)(B:o.cls=.type "set")(G:t.plain=b8->es.size<=1\/t.place.toList.Pairwise (· < ·))(v:t.led = !w.params.followText "set-order")(hz:es.size<=sizeLine){D:c8}{c₀:Nat} (p:D≠a) (M:s.heap.get? D=a9 { cls:=.type "list",data:=.seq #[] c₀ }) (res:c3)(Y:∀h' tk d vs c,(∀b u,b≠D->s.heap.get? b=a9 u->h'.get? b=a9 u)->h'.get? D=a9 { cls:=.type "list",data:=.seq vs c }->vs.toList.Perm (es.toList.map (·.2))->R (.ok<|.ret res) { s with heap:=h',toks:=tk,drawn:=d }):g9 (i3 prog w) A.in1 (Pc (.ref D) (.ref a) res)
   (λfin s'=>match fin with|.done f=>R (.ok f) s'|.again c'=>c'.quiet=b8/\k9 (i3 prog w) A c' R s') (λe s'=>R (.error e) s') s:=by
 have ld:D<s.heap.objs.size:=A4 M;have Z:s.TypeIs (.ref a) "set":=⟨o,S.ob,B⟩
 unfold Pc;refine u7<|MH Z ?_;have Q:QT (.ref D) (.ref a)=b9:=by simp[QT,p]
 have T:(MG "set" == MG "list")=b9:=by decide
 have U:(MG "set" == MG "tuple")=b9:=by decide
 simp only[Q,T,U,OR,C5,u3];refine u7<|Ek S B G v hz λit h1 d vs X St H pv I ag C W st=>?_;have L:D∉X:=λz=>by
  rcases C D z with e|⟨e,_⟩
  exact p e;exact t7 ld<|Np.mpr e
 have lv:vs.length=es.size:=by have:=pv.length_eq;simpa using this
 have K:∀(h:d5) (g:Nat),St 0 h->(∀b u,b≠D->h1.get? b=a9 u->h.get? b=a9 u)->h.get? D=a9 { cls:=.type "list",data:=.seq #[] g } -> k9 (i3 prog w) A (.builtin "list.extend.loop" ⟨[.ref D,.ref it,res],[]⟩) R { s with heap:=h,drawn:=d }:=λh g J kk y=>by
  refine codeAny_extend_loopS (W A.in1<|by simp[N]).toS hz D L res es.size 0 _ #[] g rfl (A8 _) J y (ItemsOf.nil _) λs' acc c' O m j=>?_;rw[Moved.eq_with O];have V:acc.toList=vs:=by
   apply List.ext_getElem?;intro i;by_cases hi:i<es.size;have E:i<acc.size:=by rw[j.1];exact hi
   have h1:acc[i]?=a9 acc[i]:=J1 E;rw[J5,h1];exact(j.2 i _ h1).symm;rw[NK (by rw[F5,j.1];lia),NK<|by lia]
  refine Y s'.heap s'.toks d acc c' (λb u k e=>O.heap b u (λz=>?_)<|kk b u k<|H b u e) m (by rw[V];exact pv);rcases C3.mp z with P|z;exact k P;rw[F0.mp z]at e;exact t7 (A4 e)<|Np.mpr I
 have l:=H _ _ M;refine u7<|F3<|Ev (s:={ s with heap:=h1,drawn:=d }) ⟨o,H _ _ S.ob,B⟩ ?_;refine Nh (λz=>?_) λ_=>u9 ⟨My F.plain_extend_loop _,K h1 c₀ st (λ_ _ _ e=>e) l⟩;refine u7 (K9 (u7 (show g9 (i3 prog w) _ (updateSeq D (·.push .none) >>= λ_=>updateSeq D (·.pop)) _ _ _ from u7<|PR l rfl ?_)));have n:=LQ (G6 (·.push ABv)) l rfl;refine PR (hz:=by seq_fits) n rfl ?_;have x:=LQ (G6 (·.pop)) n rfl;have r:∀b,b≠D->((h1.update D (G6 (·.push ABv))).update D (G6 (·.pop))).get? b=h1.get? b:=λb k=>by rw[NL _ _<|D4 k,NL _ _<|D4 k]
 refine u9 ⟨My F.plain_extend_loop _,K _ _ ((W A N).frame 0 _ _ st λb k u e=>(r b λq=>L<|q ▸ k).trans e) (λb u k e=>(r b k).trans e) x⟩
theorem yk{Q:c3->f8->Prop}(I:A.handled=b7)(S:SetAt s.heap a o es ep t)(H:o.cls=.type "set")(y:t.plain=b8->es.size<=1\/t.place.toList.Pairwise (· < ·))(j:t.led = !w.params.followText "set-order")(hz:es.size<=sizeLine)(h:∀h' tk d D (vs:List c3),(∀b u,s.heap.get? b=a9 u->h'.get? b=a9 u)->s.heap.get? D=b7->h'.get? D=a9 { cls:=.type "list",data:=.seq vs.toArray }->vs.Perm (es.toList.map (·.2)) -> g9 (i3 prog w) A.in1 (call (.builtin "list.sort") [.ref D]) (λ_ s'=>Q (.ref D) s') E { s with heap:=h',toks:=tk,drawn:=d }):g9 (i3 prog w) A (call (.builtin "sorted") [.ref a]) Q E s:=by
 have J:a<s.heap.objs.size:=A4 S.ob;refine call_function_entry kind_sorted plain_sorted entry_sorted (args_sorted1 _) ?_;unfold Builtin.«sorted»;refine u7 (m:=checkCount "sorted" 1 1 _)<|u9 ?_;unfold collect;refine u7<|u7<|wpAny_runValue<|Mg F.entry_proto_collect ?_;rw[ML F.plain_proto_collect _];refine(show g9 (i3 prog w) _ (newList [] >>= λl=>again<|.builtin "list.__iadd__" ⟨[l,.ref a],[]⟩) _ _ s from u7<|J0<|u9 ⟨My F.plain_list_iadd _,Mg F.entry_list_iadd ?_⟩);rw[ML F.plain_list_iadd _];have G:=S.at (h':=s.heap.push { cls:=.type "list",data:=.seq ([]:List c3).toArray }) λo e=>A1 _ e;have B:=yS (prog:=prog) (A:=A.in1) (s:={ s with heap:=s.heap.push { cls:=.type "list",data:=.seq ([]:List c3).toArray } }) (D:=s.heap.objs.size) (c₀:=0) (res:=.ref s.heap.objs.size) (R:=λr s'=>∃h' tk d vs c,r=.ok (.ret<|.ref s.heap.objs.size)/\s'={ s with heap:=h',toks:=tk,drawn:=d }/\(∀b u,s.heap.get? b=a9 u->h'.get? b=a9 u)/\h'.get? s.heap.objs.size=a9 { cls:=.type "list",data:=.seq vs c }/\vs.toList.Perm (es.toList.map (·.2))) (by simp[I]) G H y j hz (LZ J) (C0 _ rfl) λh' tk d vs c k g p=>⟨h',tk,d,vs,c,rfl,rfl,λb u e=>k b u (A9<|A4 e)<|A1 _ e,g,p⟩
 have i:∀h' tk d (vs:Array c3) c,(∀b u,s.heap.get? b=a9 u->h'.get? b=a9 u)->h'.get? s.heap.objs.size=a9 { cls:=.type "list",data:=.seq vs c }->vs.toList.Perm (es.toList.map (·.2)) -> g9 (i3 prog w) A.in1 (do let ob <-load s.heap.objs.size;match ob.data with|.seq xs _=>pure xs.toList|_=>unsupported "internal:collect":Sem (List c3)) (λxs s'=>g9 (i3 prog w) A.in1 (do let l <-newList xs;let _ <-i7 [l] (call (.builtin "list.sort") [l] []);ret l) (λn s'=>∃v,n=Fin.done (Flow.ret v)/\Q v s') E s') E { s with heap:=h',toks:=tk,drawn:=d }:=λh' tk d vs c C g p=>by
  refine u7 (wpAny_load g<|u9<|u7<|NY ?_<|by rw[p.length_eq];simpa using hz);have K:s.heap.objs.size<h'.objs.size:=A4 g;refine u7<|F3<|J2 (h (h'.push { cls:=.type "list",data:=.seq vs.toList.toArray }) tk d h'.objs.size vs.toList (λb u e=>A1 _<|C b u e) ?_ (C0 _ rfl) p) (λ_ s' q=>u9 ⟨_,rfl,q⟩) λ_ _ z=>z;cases q:s.heap.get? h'.objs.size with
  |none=>rfl
  |some o'=>exact t7 (A4<|C _ _ q)<|G3 _
 refine J2 B (λn s' x=>?_) λe s' ⟨_,_,_,_,_,z,_⟩=>by cases z
 cases n with
 |done f=>obtain⟨h',tk,d,vs,c,z,rfl,C,g,p⟩:=x;cases z;exact i h' tk d vs c C g p
 |again c'=>refine⟨x.1,Oq x.2 ?_⟩;rintro r L ⟨h',tk,d,vs,c,z,e,C,g,p⟩;subst z e;exact i h' tk d vs c C g p
end L2
namespace L2
open PySem PySem.Spec PyProof.Rows DL PySem.W
theorem v4.drew(I:v4 X pins σ H s):v4 X pins σ H { s with drawn:=d }:=⟨I.ok,I.os,I.bare,I.base,I.loc,I.cell,I.free,I.freeC,I.pin,I.hok,I.len⟩
end L2
namespace L2
open PySem PySem.Spec PyProof.Rows DL PySem.Builtin PySem.Builtin.Str PySem.StrLaws
theorem Cb(a b B:Nat):strSliceIndices (a9 (a:Int)) (a9 (b:Int)) 1 B=strSliceIndices (a9 ((min a B:Nat):Int)) (a9 ((min b B:Nat):Int)) 1 B:=by
 have e:∀i:Nat,max (0:Int) (min (i:Int) (B:Int))=max (0:Int) (min ((min i B:Nat):Int) (B:Int)):=λi=>by lia
 have n:∀i:Nat,¬((i:Int)<0):=λi=>by lia
 simp only[strSliceIndices,n,u3,show ((1:Int) > 0)=True by simp,u4];rw[e a,e b]
theorem ff(x:c5)(l u:Option Int):(Md x l u).cps.toList=if (strSliceIndices l u 1 x.length).length=x.length then x.cps.toList else(strSliceIndices l u 1 x.length).filterMap (x.cps[·]?):=by unfold Md;by_cases h:(strSliceIndices l u 1 x.length).length=x.length;rw[t5 (by simp[h]),t5 h];rw[t6 (by simp[h]),t6 h]
theorem tE(x:c5){a b:Nat}(U:a<=b):(Md x (a9 (a:Int))<|a9 (b:Int)).cps.toList=(x.cps.toList.drop a).take (b-a):=by
 have d:min a x.length<=min b x.length:=by lia
 have l:(strSliceIndices (a9 ((min a x.length:Nat):Int)) (a9 ((min b x.length:Nat):Int)) 1 x.length).filterMap (x.cps[·]?)=(x.cps.toList.drop<|min a x.length).take (min b x.length-min a x.length):=sliced_plain x d<|Nat.min_le_right ..;have S:=cI (a:=x);have n:(x.cps.toList.drop<|min a x.length).take (min b x.length-min a x.length)=(x.cps.toList.drop a).take (b-a):=by by_cases f:a<=x.length;rw[Nat.min_eq_left f];by_cases c:b<=x.length;rw[Nat.min_eq_left c];rw[Nat.min_eq_right (by lia),O6 (by rw[Mb];lia),O6<|by rw[Mb];lia];rw[List.drop_eq_nil_of_le (i:=a) (by lia),List.drop_eq_nil_of_le (i:=min a x.length)<|by lia];simp
 rw[ff,Cb,l,n];split;rename_i h;rw[strSliceIndices_plain d<|Nat.min_le_right ..]at h;simp only[w4,NH]at h;have h0:min a x.length=0:=by lia
 by_cases e:x.length=0;have:x.cps.toList=[]:=List.eq_nil_of_length_eq_zero (by lia);rw[this];simp;have:a=0:=by lia
 subst this;rw[List.drop_zero,O6<|by lia];rfl
noncomputable def gh(l:List Nat)(c:Nat):List Nat:=(C9 l.length).filter λi=>l[i]?==a9 c
theorem AM(x:c5)(c:Nat):occurrences x ⟨#[c]⟩ 0 x.length (x.length+1)=gh x.cps.toList c:=by
 have S:=cI (a:=x);rw[occ_eq];have o:∀(k m:Nat) (st:Array Nat×Nat),m+k=x.length+1->st.1.toList=(C9 m).filter (λi=>x.cps.toList[i]?==a9 c)->st.2<=m -> (forIn (NW m k) st<|occBody x ⟨#[c]⟩ x.length<|x.length+1).run.fst.toList=(C9<|m+k).filter (λi=>x.cps.toList[i]?==a9 c):=by
  intro k;induction k with
  |zero=>intro m st e h1 h2;exact h1
  |succ k b =>
   intro m st e h1 h2;rw[List.range'_succ,List.forIn_cons];unfold occBody;have hs:st.1.size<=m:=by have:=u5 LY h1;rw[F5]at this;have l:=Mi (λi=>x.cps.toList[i]?==a9 c)<|C9 m;rw[NH]at l;lia
   have y:=subAt_one x c m;have r:(C9<|m+1).filter (λi=>x.cps.toList[i]?==a9 c)=(C9 m).filter (λi=>x.cps.toList[i]?==a9 c)++if x.cps.toList[m]?=a9 c then[m]else[]:=by rw[List.range_succ,OD];congr 1;by_cases z:x.cps.toList[m]?=a9 c;rw[List.filter_cons_of_pos (by rw[t9];exact z),t5 z];rfl;rw[Ry (by rw[t9];exact z),t6 z];rfl
   by_cases z:x.cps.toList[m]?=a9 c;obtain⟨D,C⟩:=y.mpr z;rw[t5 ⟨⟨⟨by lia,h2⟩,D⟩,C⟩];rw[t5 z]at r;have:=b (m+1) (st.1.push m,m+(⟨#[c]⟩:c5).length) (by lia) (by rw[OV,h1,r])<|show m+1<=m+1 from x5 _;rw[show m+(k+1)=m+1+k by lia];exact this;rw[t6 λh=>z<|y.mp ⟨h.1.2,h.2⟩];rw[t6 z,Mq]at r;have:=b (m+1) (st.1,st.2) (by lia) (by rw[h1,r]) (by show st.2<=m+1;lia);rw[show m+(k+1)=m+1+k by lia];exact this
 have:=o (x.length+1) 0 (#[],0) (by lia) rfl<|x5 _;rw[show x.length+1-0=x.length+1 by lia,this];unfold gh;rw[<-S,Nat.zero_add,List.range_succ,OD];have:x.cps.toList[x.length]?=b7:=NK (by lia);rw[Ry (by rw[t9,this];simp),OT,Mq]
theorem yi(x:c5)(c:Nat)(f:c<256):∀y,y∈(LX x ⟨#[c]⟩).drop 1↔∃k i j,(gh x.cps.toList c)[k]?=a9 i/\(gh x.cps.toList c++[x.cps.toList.length])[k+1]?=a9 j/\y=strSub x (i+1) j:=by
 intro y;have S:=cI (a:=x);unfold LX;have b7:gh x.cps.toList c=[]->(y∈([x]:List c5).drop 1↔∃k i j,(gh x.cps.toList c)[k]?=a9 i/\(gh x.cps.toList c++[x.cps.toList.length])[k+1]?=a9 j/\y=strSub x (i+1) j):=λe=>by rw[e];simp
 by_cases h1:(decide (x.length<(⟨#[c]⟩:c5).length)||decide (Ob x<Ob ⟨#[c]⟩))=b8;rw[t5 h1];apply b7;rw[fq]at h1;have D:Ob (⟨#[c]⟩:c5)=1:=by simp[Ob,f]
 have C:1<=Ob x:=by unfold Ob;split<;>(try split)<;>lia
 have:x.length=0:=by rw[D]at h1;simp only[Qr,t8]at h1;lia
 unfold gh;rw[<-S,this];rfl;rw[t6 h1,AM];by_cases h2:(gh x.cps.toList c).isEmpty=b8;rw[t5 h2];exact b7<|List.isEmpty_iff.mp h2;rw[t6 h2];unfold partsBetween;rw[fq,<-PH];have e:((0::(gh x.cps.toList c).map (· + 1)).zip<|gh x.cps.toList c++[x.length]).drop 1=((gh x.cps.toList c).map (· + 1)).zip ((gh x.cps.toList c++[x.cps.toList.length]).drop 1):=by
  cases q:gh x.cps.toList c with
  |nil=>rw[q]at h2;exact t7 rfl h2
  |cons a r=>rw[S];rfl
 rw[e,A0];constructor;rintro⟨⟨i,j⟩,hm,rfl⟩;obtain⟨k,h⟩:=MB hm;obtain⟨F,b⟩:=List.getElem?_zip_eq_some.mp h;rw[D8]at F;cases q:(gh x.cps.toList c)[k]? with
 |none=>rw[q]at F;cases F
 |some i'=>rw[q]at F;have:i'+1=i:=D2 F;subst this;rw[OZ,Nat.add_comm]at b;exact⟨k,i',j,q,b,rfl⟩
 rintro⟨k,i,j,h1,h2,rfl⟩;refine⟨(i+1,j),?_,rfl⟩;have:(((gh x.cps.toList c).map (· + 1)).zip<|(gh x.cps.toList c++[x.cps.toList.length]).drop 1)[k]?=a9 (i+1,j):=by rw[List.getElem?_zip_eq_some];refine⟨by rw[D8,h1];rfl,?_⟩;rw[OZ,Nat.add_comm];exact h2
 exact G1 this
end L2
namespace L2
open PySem PySem.Spec PyProof.Rows DL PySem.W
def Fv:G2:=λx y M Q=>match x,y with
 |.int i,.int j=>IR i j/\Q (.int<|i ^ j.toNat) M
 |_,_=>False
theorem JV:G9 X (j6 .Pow) Fv:=by refine E5.imp JM ?_;rintro f g H R ⟨x,y,M,ρ,Q,m,r,n,q,k⟩;unfold Fv at q;split at q;cases r;cases n;exact⟨_,_,rfl,rfl,q.1,k _ H<|VQ.now m (.int _) q.2⟩;exact q.elim
theorem KI:I0 X (j6 .Pow) Fv:=⟨JV⟩
def ng(z:c5):D6:=λds M Q=>match ds with
 | [.str y]=>∃i aH,Pa z y 0 z.length 1=i::aH/\Q (.int (i:Nat)) M
 |_=>False
theorem DJ:K3 X "str.index" (AV X.K ng):=by
 rintro p s σ H x xs v us R I g a ⟨z,ds,M,ρ,Q,c,b,f,q,k⟩;subst c;obtain⟨t,rfl⟩:=g;unfold ng at q;split at q;obtain⟨i,aH,m,q⟩:=q
 first|have h:=Reps.inv_cons f|have h:=az.inv_cons f
 clear f;obtain⟨_,_,rfl,r,f⟩:=h;cases f;cases r;obtain⟨u,rfl,t',rfl⟩:=az.one a;exact call_gives F.slot_str_index (On _ _ _) F.entry_str_index (F.args_str_index_2 _ _) (gives_str_index _ _ _ _ i aH m) ⟨.int _,H,I.tok _,⟨_,rfl⟩,k _ H<|VQ.now b (.int _) q⟩;exact q.elim
theorem Eu:Qj X "index" ng:=⟨_,PySem.F.slot_str_index,PySem.F.type_str_index,DJ⟩
end L2
namespace Ht
open PySem
def MP(ow:Array (Option Nat))(s:Nat):Prop:=∃i,ow[s]?=a9 (a9 i)
theorem getD_none(hs:s<ow.size):(ow.getD s<|a9 0).isNone=b8↔¬MP ow s:=by
 have e:ow[s]?=a9 ow[s]:=J1 hs;have l:ow.getD s (a9 0)=ow[s]:=by simp[MF,hs]
 rw[l];unfold MP;rw[e];cases ow[s]<;>simp
theorem BI(hz:ow.size=m+1)(h:Int):∀(fuel k0 k:Nat),k0<=k->k<k0+fuel->¬MP ow (fg m h k).1->(∀n,n<fG m h k0->MP ow (sq m h n).j) ->∃N,QN m ow fuel (fg m h k0).1 (fg m h k0).2=a9 (sq m h N).j/\¬MP ow (sq m h N).j/\∀n,n<N->MP ow (sq m h n).j:=by
 intro fuel;induction fuel with
 |zero=>intro k0 k h1 h2;lia
 |succ fuel l =>
  intro k0 k h1 h2 c d;have p:=vt m h k0;have u:LN m (fg m h k0).1<=m/\(fg m h k0).1<=LN m (fg m h k0).1:=by unfold LN;split<;>lia
  unfold QN;cases f:(C9<|LN m (fg m h k0).1+1-(fg m h k0).1).find? λk=>(ow.getD ((fg m h k0).1+k)<|a9 0).isNone with
  |some r =>
   have i:=Ow f;have b:=RF f;rw[K0]at b;refine⟨fG m h k0+r,by rw[Ai m h k0 r<|by lia],?_,λn g=>?_⟩;rw[Ai m h k0 r<|by lia];exact(getD_none<|by lia).mp i;rcases Mm n (fG m h k0)with q|q;exact d n q;obtain⟨r',rfl⟩:∃r',n=fG m h k0+r':=⟨n-fG m h k0,by lia⟩
   rw[Ai m h k0 r'<|by lia];refine NM λo=>?_;have t:r' < r:=by lia
   have z:=(getD_none (ow:=ow) (s:=(fg m h k0).1+r')<|by lia).mpr o;have:=List.find?_range_eq_some.mp f;have:=this.2.2 r' t;rw[z]at this;exact t7 this<|by simp
  |none =>
   have a:∀r,r<=LN m (fg m h k0).1-(fg m h k0).1->MP ow ((fg m h k0).1+r):=λr i=>by refine NM λo=>?_;have z:=(getD_none (ow:=ow) (s:=(fg m h k0).1+r)<|by lia).mpr o;have:=List.find?_eq_none.mp f r (K0.mpr<|by lia);exact this z
   have v:k0≠k:=λe=>by subst e;exact c<|a 0<|A8 _
   refine l (k0+1) k (by lia) (by lia) c λn g=>?_;unfold fG at g;rcases Mm n (fG m h k0)with q|q;exact d n q;obtain⟨r',rfl⟩:∃r',n=fG m h k0+r':=⟨n-fG m h k0,by lia⟩
   rw[Ai m h k0 r'<|by lia];exact a r'<|by lia
structure Laid(m:Nat)(hs:List Int)(ow:Array (Option Nat))(k:Nat):Prop where
 sz:ow.size=m+1
 lt:∀s i:Nat,ow[s]?=a9 (a9 i)->i<k
 inj:∀s s' i:Nat,ow[s]?=a9 (a9 i)->ow[s']?=a9 (a9 i)->s=s'
 all:∀i:Nat,i<k->∃s:Nat,ow[s]?=a9 (a9 i)
 path:∀(s i:Nat) (h:Int),ow[s]?=a9 (a9 i)->hs[i]?=a9 h->∃n,(sq m h n).j=s/\∀n',n' < n->MP ow (sq m h n').j
theorem Laid.room(L:Laid m hs ow k)(q:k<=m):∃s,s<=m/\¬MP ow s:=by
 refine NM λh=>?_;have c:∀s,s<=m->MP ow s:=λs hs=>NM λz=>h ⟨s,hs,z⟩;have d:∀s,s∈C9 (m+1)->((ow.getD s b7).getD 0)∈C9 k:=λs u=>by
  obtain⟨i,e⟩:=c s (by have:=K0.mp u;lia);have:ow.getD s b7=a9 i:=by obtain⟨g,z⟩:=M7.mp e;simp[MF,g,z]
  rw[this];exact K0.mpr<|L.lt s i e
 have p:((C9<|m+1).map λs=>(ow.getD s b7).getD 0).Nodup:=by
  rw[Oc,P3];have base:=Qx (n:=m+1);rw[Oc]at base;refine base.imp_of_mem λ{a b} ha hb hne e=>hne ?_;obtain⟨i,f⟩:=c a (by have:=K0.mp ha;lia);obtain⟨j,C⟩:=c b (by have:=K0.mp hb;lia);have t:ow.getD a b7=a9 i:=by obtain⟨g,z⟩:=M7.mp f;simp[MF,g,z]
  have l:ow.getD b b7=a9 j:=by obtain⟨g,z⟩:=M7.mp C;simp[MF,g,z]
  rw[t,l]at e;have:i=j:=e;subst this;exact L.inj a b i f C
 have:=L2.nodup_le _ (C9 k) p λx o=>by obtain⟨s,u,rfl⟩:=A0.mp o;exact d s u
 rw[w4,NH,NH]at this;lia
theorem Laid.step(D:oY m)(L:Laid m hs ow k)(B:k<=m)(A:hs[k]?=a9 h):∃j,QN m ow (OS m) (Nf h % (m+1)) (Nf h)=a9 j/\Laid m hs (ow.setIfInBounds j<|a9 k) (k+1):=by
 obtain⟨s,g,l⟩:=L.room B;obtain⟨H,C,e⟩:=FP D h g;obtain⟨N,x,M,y⟩:=BI L.sz h (OS m) 0 H (A8 _) (by unfold OS;lia) (by rw[e];exact l) λn E=>t7 E<|Nv _;refine⟨(sq m h N).j,x,?_⟩;have G:(sq m h N).j<ow.size:=by have:=Ah (m:=m) h N;rw[L.sz];lia
 have a:(ow.setIfInBounds (sq m h N).j<|a9 k)[(sq m h N).j]?=a9 (a9 k):=by rw[Array.getElem?_setIfInBounds_self_of_lt G]
 have r:∀s,s≠(sq m h N).j->(ow.setIfInBounds (sq m h N).j<|a9 k)[s]?=ow[s]?:=λs f=>Array.getElem?_setIfInBounds_ne<|D4 f;have w:∀s,MP ow s->MP (ow.setIfInBounds (sq m h N).j<|a9 k) s:=λs ⟨i,z⟩=>by by_cases q:s=(sq m h N).j;subst q;exact⟨k,a⟩;exact⟨i,by rw[r s q];exact z⟩
 have d:∀s i,(ow.setIfInBounds (sq m h N).j<|a9 k)[s]?=a9 (a9 i)->(s=(sq m h N).j/\i=k)\/(s≠(sq m h N).j/\ow[s]?=a9 (a9 i)):=λs i z=>by by_cases q:s=(sq m h N).j;subst q;rw[a]at z;cases z;exact .inl ⟨rfl,rfl⟩;rw[r s q]at z;exact .inr ⟨q,z⟩
 refine⟨by rw[Array.size_setIfInBounds];exact L.sz,λs i z=>?_,λs s' i z F=>?_,λi hi=>?_,λs i h' z b=>?_⟩;rcases d s i z with⟨_,e⟩|⟨_,z⟩
 lia;have:=L.lt s i z;lia;rcases d s i z with⟨t,p⟩|⟨_,z⟩
 rcases d s' i F with⟨Q,_⟩|⟨_,F⟩
 rw[t,Q];have:=L.lt s' i F;lia;rcases d s' i F with⟨_,I⟩|⟨_,F⟩
 have:=L.lt s i z;lia;exact L.inj s s' i z F;by_cases q:i=k;subst q;exact⟨_,a⟩;obtain⟨s,z⟩:=L.all i (by lia);refine⟨s,?_⟩;rw[r s λe=>M ⟨i,by rw[<-e];exact z⟩];exact z;rcases d s i z with⟨t,p⟩|⟨_,z⟩
 subst t p;rw[A]at b;cases b;exact⟨N,rfl,λo c=>w _<|y o c⟩;obtain⟨n,u,v⟩:=L.path s i h' z b;exact⟨n,u,λo c=>w _<|v o c⟩
theorem GZ(l:oY m)(hs:List Int)(q:hs.length<=m):∃ow,SetTable.layClean m hs.toArray=a9 ow/\Laid m hs ow hs.length:=by
 have start:Laid m hs (Array.replicate (m+1) b7) 0:=by
  have n:∀s i:Nat,(Array.replicate (m+1) (b7:Option Nat))[s]?≠a9 (a9 i):=λs i z=>by rw[Array.getElem?_replicate]at z;split at z<;>cases z
  exact⟨by simp,λs i z=>t7 z<|n s i,λs _ i z=>t7 z<|n s i,λi hi=>t7 hi<|Nv _,λs i _ z=>t7 z<|n s i⟩
 have g:∀(aH:List Int) (k:Nat) (ow:Array (Option Nat)),hs.drop k=aH->k+aH.length=hs.length->Laid m hs ow k -> ∃o,aH.foldl (init:=a9 (ow,k)) (λacc h=>do
    let (owner,k) <-acc
    let j <-QN m owner (OS m) (Nf h % (m+1)) (Nf h)
    pure (owner.setIfInBounds j<|a9 k,k+1))=a9 (o,hs.length)/\Laid m hs o hs.length:=by
  intro aH;induction aH with
  |nil =>
   intro k ow e a L;have:k=hs.length:=by simpa using a
   subst this;exact⟨ow,rfl,L⟩
  |cons h aH p =>
   intro k ow e a L;have d:hs[k]?=a9 h:=by
    have:(hs.drop k)[0]?=a9 h:=by rw[e];rfl
    rw[OZ]at this;simpa using this
   rw[D7]at a;obtain⟨j,f,b⟩:=L.step l (by lia) d;obtain⟨o,g1,c⟩:=p (k+1) (ow.setIfInBounds j<|a9 k) (by
    have:hs.drop (k+1)=(hs.drop k).drop 1:=by rw[List.drop_drop]
    rw[this,e];rfl) (by lia) b
   refine⟨o,?_,c⟩;rw[List.foldl_cons];simp only[Option.bind_eq_bind,Option.bind_some,f,Option.pure_def];exact g1
 obtain⟨ow,g1,c⟩:=g hs 0 _ rfl (by simp) start;refine⟨ow,?_,c⟩;unfold SetTable.layClean;rw[<-Array.foldl_toList];have:hs.toArray.toList=hs:=by simp
 rw[this,g1];rfl
theorem nq{α:Type}[DecidableEq α]:∀{l l':List α},l.Nodup->l'.Nodup->(∀x,x∈l↔x∈l')->l.Perm l'
 | [],l',_,_,h=>by have:l'=[]:=List.eq_nil_iff_forall_not_mem.mpr λx hx=>t7 ((h x).mpr hx) (by simp);rw[this]
 |x::l,l',n,n',h=>by have hx:x∈l':=(h x).mp F4;have n1:=Ma.mp n;refine(Qn x<|nq n1.2 (n'.erase x) λy=>?_).trans (List.perm_cons_erase hx).symm;by_cases e:y=x;subst e;constructor;intro z;exact t7 z n1.1;intro z;exact t7 z<|List.Nodup.not_mem_erase n';rw[List.mem_erase_of_ne e,<-h y,C3];exact⟨.inr,λz=>z.resolve_left e⟩
noncomputable def bI(m:Nat)(ow:Array (Option Nat)):List (Nat×Nat):=(C9<|m+1).filterMap λj=>(ow.getD j b7).map (j,·)
theorem fx(L:Laid m hs ow k):(s,i)∈bI m ow↔ow[s]?=a9 (a9 i):=by
 unfold bI;rw[OE];constructor;rintro⟨j,hj,e⟩;have h:j<ow.size:=by rw[L.sz];exact K0.mp hj
 have l:ow.getD j b7=ow[j]:=by simp[MF,h]
 rw[l]at e;cases q:ow[j] with
 |none=>rw[q]at e;cases e
 |some i'=>rw[q]at e;have:=D2 e;cases this;rw[J1 h,q]
 intro e;obtain⟨g,z⟩:=M7.mp e;refine⟨s,K0.mpr (by rw[<-L.sz];exact g),?_⟩;have l:ow.getD s b7=ow[s]:=by simp[MF,g]
 rw[l,z];rfl
theorem ue(m:Nat)(ow:Array (Option Nat)):((bI m ow).map (·.1)).Pairwise (· < ·):=by unfold bI;rw[P3];refine List.Pairwise.filterMap (R:=(· < ·)) _ (λa c h b d e f=>?_)<|List.pairwise_lt_range;obtain⟨x,_,rfl⟩:=MZ.mp d;obtain⟨y,_,rfl⟩:=MZ.mp f;exact h
theorem uf(L:Laid m hs ow hs.length):((bI m ow).map (·.2)).Perm (C9 hs.length):=by
 have n:(bI m ow).Nodup:=by have:=ue m ow;rw[P3]at this;exact this.imp λh e=>by rw[e]at h;exact G3 _ h
 have p:((bI m ow).map (·.2)).Nodup:=by rw[Oc,P3];rw[Oc]at n;refine n.imp_of_mem λ{a b} ha hb hne e=>hne ?_;obtain⟨s,i⟩:=a;obtain⟨s',i'⟩:=b;have c:i=i':=e;subst c;rw[L.inj s s' i ((fx L).mp ha)<|(fx L).mp hb]
 refine nq p Qx λi=>?_;rw[K0,A0];constructor;rintro⟨⟨s,i'⟩,hm,rfl⟩;exact L.lt s i'<|(fx L).mp hm;intro hi;obtain⟨s,e⟩:=L.all i hi;exact⟨(s,i),(fx L).mpr e,rfl⟩
theorem rA{α:Type}{l:List α}{p:Nat}{x y:α}(hp:p<=l.length){i:Nat}(h:(l.take p++x::l.drop p)[i]?=a9 y):(i<p/\l[i]?=a9 y)\/(i=p/\y=x)\/(p<i/\l[i-1]?=a9 y):=by
 have lt:(l.take p).length=p:=by rw[LO];lia
 rcases OW i p with q|q|q;rw[LR (by lia),List.getElem?_take,t5 q]at h;exact .inl ⟨q,h⟩;subst q;rw[Mr (by lia),lt,NC]at h;exact .inr<|.inl ⟨rfl,(D2 h).symm⟩;rw[Mr (by lia),lt]at h;obtain⟨r,a⟩:∃r,i-p=r+1:=⟨i-p-1,by lia⟩
 rw[a,Qc,OZ]at h;exact .inr<|.inr ⟨q,by rw[show i-1=p+r by lia];exact h⟩
structure TPre(t:p5)(hs:List Int):Prop where
 msk:oY t.mask
 len:t.place.size=hs.length
 nod:t.dummies = #[]
 ris:t.place.toList.Pairwise (· < ·)
 rng:∀j∈t.place.toList,j<=t.mask
 path:∀(i:Nat) (h:Int) (j:Nat),hs[i]?=a9 h->t.place[i]?=a9 j->∃n,(sq t.mask h n).j=j/\∀n',n' < n->(sq t.mask h n').j∈t.place.toList
theorem put_pre(T:TOk t hs)(h2:(sq t.mask h N).j∉t.place.toList)(v:∀k,k<N->(sq t.mask h k).j∈t.place.toList)(w:Bool):(t.put (sq t.mask h N).j).2<=hs.length/\TPre { (t.put (sq t.mask h N).j).1 with plain:=w } (hs.take (t.put (sq t.mask h N).j).2++h::hs.drop (t.put (sq t.mask h N).j).2):=by
 obtain⟨e,r⟩:=Av T.ris h2;obtain⟨g,_,_⟩:=below_spec t.place T.ris (sq t.mask h N).j;have l:F9 t.place (sq t.mask h N).j<=hs.length:=by rw[<-T.len];exact g
 refine⟨l,⟨T.msk,?_,?_,r,λj L=>?_,λi h' j d L=>?_⟩⟩;have:=u5 LY e;rw[F5,B6,D7,LO,Mb,F5]at this;show (t.put (sq t.mask h N).j).1.place.size=(hs.take (F9 t.place (sq t.mask h N).j)++h::hs.drop (F9 t.place (sq t.mask h N).j)).length;rw[this,B6,D7,LO,Mb,T.len];show (if SetTable.has t.dummies (sq t.mask h N).j then SetTable.eraseAt t.dummies (F9 t.dummies (sq t.mask h N).j)else t.dummies) = #[];rw[T.nod];rfl;have a:j∈(t.put (sq t.mask h N).j).1.place.toList:=L;rw[e]at a;rcases Fn.mp a with q|q;exact T.rng j<|List.mem_of_mem_take q;rcases C3.mp q with q|q;rw[q];exact Ah h N;exact T.rng j<|List.mem_of_mem_drop q;have s:∀x,x∈t.place.toList->x∈(t.put (sq t.mask h N).j).1.place.toList:=λx m=>by rw[e];rw[<-List.take_append_drop (F9 t.place (sq t.mask h N).j) t.place.toList]at m;rcases Fn.mp m with q|q;exact MC _ q;exact J6 _<|C6 _ q
 have a:(t.put (sq t.mask h N).j).1.place.toList[i]?=a9 j:=by rw[J5];exact L
 rw[e]at a;have o:∀k,hs[k]?=a9 h'->t.place[k]?=a9 j->∃n,(sq t.mask h' n).j=j/\∀f,f < n->(sq t.mask h' f).j∈(t.put (sq t.mask h N).j).1.place.toList:=λk B y=>by obtain⟨n,p,u⟩:=T.path k h' j B y;exact⟨n,p,λf c=>s _<|u f c⟩
 rcases rA (by rw[F5];exact g) a with⟨q,z⟩|⟨q,z⟩|⟨q,z⟩
 rcases rA l d with⟨b,F⟩|⟨b,F⟩|⟨b,F⟩
 exact o i F (by rw[<-J5];exact z);lia;lia;rcases rA l d with⟨b,F⟩|⟨b,F⟩|⟨b,F⟩
 lia;subst z F;exact⟨N,rfl,λf c=>s _<|v f c⟩;lia;rcases rA l d with⟨b,F⟩|⟨b,F⟩|⟨b,F⟩
 lia;lia;exact o (i-1) F<|by rw[<-J5];exact z
theorem TPre.ok(T:TPre t hs)(h:t.tooFull=b9):TOk t hs:=by refine⟨T.msk,T.len,T.nod,T.ris,T.rng,?_,T.path⟩;unfold SetTable.tooFull Ql at h;rw[T.nod]at h;simp at h;simpa using h
theorem TPre.anew(T:TPre t hs)(h:t.tooFull=b8)(M:(hs.length-1)*5<t.mask*3)(D:hs.length<=64):Rl (Ou hs.length)<=sizeLine/\∃t2 ord,t.relaid hs.toArray (Ou hs.length)=a9 (t2,ord)/\ord.toList.Perm (C9 hs.length)/\TOk t2 (ord.toList.map λi=>hs.getD i 0)/\t2.led=t.led:=by
 have u:hs.length*5 ≥ t.mask*3:=by unfold SetTable.tooFull Ql at h;rw[T.nod,T.len]at h;simpa using h
 have C:∃m,Rl (Ou hs.length)=m+1/\oY m/\hs.length<=m/\hs.length*5<m*3:=by
  rcases T.msk with e|e|e;have:hs.length=5:=by lia
  rw[this];exact⟨31,by decide +kernel,.inr<|.inl rfl,by decide,by decide⟩;have:hs.length=19:=by lia
  rw[this];exact⟨127,by decide +kernel,.inr<|.inr rfl,by decide,by decide⟩;lia
 obtain⟨m,e,l,H,f⟩:=C;refine⟨by rw[e,L8];rcases l with rfl|rfl|rfl<;>lia,?_⟩;obtain⟨ow,B,L⟩:=GZ l hs H;unfold SetTable.relaid;rw[e,QF];unfold SetTable.laid;rw[B];refine⟨_,_,rfl,?_,?_,rfl⟩;show ((bI m ow).map (·.2)).toArray.toList.Perm _;simpa using uf L;have d:((bI m ow).map (·.1)).toArray.toList=(bI m ow).map (·.1):=by simp
 have K:((bI m ow).map (·.2)).toArray.toList=(bI m ow).map (·.2):=by simp
 have J:(bI m ow).length=hs.length:=by have:=(uf L).length_eq;simpa using this
 refine⟨l,?_,rfl,?_,λj g=>?_,?_,λi h' j E g=>?_⟩;show ((bI m ow).map (·.1)).toArray.size=(((bI m ow).map (·.2)).toArray.toList.map λi=>hs.getD i 0).length;simp;show ((bI m ow).map (·.1)).toArray.toList.Pairwise _;rw[d];exact ue m ow;have a:j∈((bI m ow).map (·.1)).toArray.toList:=g;rw[d]at a;obtain⟨⟨s,i⟩,o,rfl⟩:=A0.mp a;have:=(M7.mp<|(fx L).mp o).1;rw[L.sz]at this;show s<=m;lia;show ((bI m ow).map (·.1)).toArray.size*5<m*3;rw[B5,w4,J];exact f;have b:(((bI m ow).map (·.2)).map λi=>hs.getD i 0)[i]?=a9 h':=by rw[<-K];exact E
 have a:((bI m ow).map (·.1))[i]?=a9 j:=by rw[<-d,J5];exact g
 rw[E2,D8]at b;rw[D8]at a;cases q:(bI m ow)[i]? with
 |none=>rw[q]at a;cases a
 |some p =>
  obtain⟨s,k⟩:=p;rw[q]at b a;have y:s=j:=D2 a;have A:hs.getD k 0=h':=D2 b;subst y;have c:=(fx L).mp<|G1 q;have v:=L.lt s k c;have G:hs[k]?=a9 h':=by rw[A5 v];rw[<-A];simp[Om,v]
  obtain⟨n,F,x⟩:=L.path s k h' c G;refine⟨n,F,λw r=>?_⟩;obtain⟨I,z⟩:=x w r;show (sq m h' w).j∈((bI m ow).map (·.1)).toArray.toList;rw[d];exact A0.mpr ⟨(_,I),(fx L).mpr z,rfl⟩
end Ht
namespace L2
open PySem PySem.Spec PyProof.Rows DL PySem.W
theorem rj:∀(n:Nat) (d:D),dm n d=b8->x9 M n d=b8
 | 0,d,h=>by cases d<;>first|rfl|cases h
 |n+1,d,h=>by
  cases d with
  |tup ds=>have h':ds.all (dm n)=b8:=h;show ds.all (x9 M n)=b8;rw[G7]at h' ⊢;exact λx hx=>rj n x<|h' x hx
  |str x=>rfl
  |int i=>rfl
  |_=>cases h
theorem jd:∀(n:Nat) (x y:D),dm n x=b8->dm n y=b8->(v8 M n x y=b8↔x=y):=by
 intro n;induction n with
 |zero =>
  intro x y h1 h2;cases x with
  |str a =>
   cases y with
   |str b=>simp[v8]
   |int b=>simp[v8]
   |_=>cases h2
  |int a =>
   cases y with
   |str b=>simp[v8]
   |int b=>simp[v8]
   |_=>cases h2
  |_=>cases h1
 |succ n h =>
  have o:∀xs ys:List D,xs.all (dm n)=b8->ys.all (dm n)=b8->(E9 (v8 M n) xs ys=b8↔xs=ys):=by
   intro xs;induction xs with
   |nil=>intro ys _ _;cases ys<;>simp[E9]
   |cons x xs i =>
    intro ys F c;cases ys with
    |nil=>simp[E9]
    |cons y ys=>rw[Mn,G0]at F c;show (v8 M n x y&&E9 (v8 M n) xs ys)=b8↔_;rw[G0,h x y F.1 c.1,i ys F.2 c.2,PY]
  intro x y h1 h2;cases x with
  |str a =>
   cases y with
   |str b=>simp[v8]
   |int b=>simp[v8]
   |tup ys=>simp[v8]
   |_=>cases h2
  |int a =>
   cases y with
   |str b=>simp[v8]
   |int b=>simp[v8]
   |tup ys=>simp[v8]
   |_=>cases h2
  |tup xs =>
   cases y with
   |str b=>simp[v8]
   |int b=>simp[v8]
   |tup ys=>rw[D.tup.injEq];exact o _ _ h1 h2
   |_=>cases h2
  |_=>cases h1
theorem KR(sm:z6 X.K ρ M H):∀(n:Nat) (A:f7) (s:f8) (d:D) (v:V) (u:c3) (E:c3->f8->Prop) (Q:Int->f8->Prop),A.units+n<j9->v4 X pins σ H s->v9 X.K ρ H d v->aN v u->dm n d=b8 ->(∀tk,Q (C4 X.w n d) { s with toks:=tk })->g9 (i3 X.prog X.w) A (pyHash u) Q E s:=by
 intro n;induction n with
 |zero =>
  intro A s d v u E Q P I r f m h;cases r with
  |str x=>obtain⟨t,rfl⟩:=f;exact P0<|h _
  |int x=>obtain⟨t,rfl⟩:=f;exact P1<|h _
  |_=>cases m
 |succ n R =>
  intro A s d v u E Q P I r f m h;cases r with
  |str x=>obtain⟨t,rfl⟩:=f;exact P0<|h _
  |int x=>obtain⟨t,rfl⟩:=f;exact P1<|h _
  |@tup a vs ds O Y =>
   cases f;obtain⟨its,W,p,_⟩:=I.tuple O;obtain⟨o,B,L,nn,N⟩:=id p;have T:s.TypeIs (.ref a) "tuple":=⟨o,B,L⟩
   have y:ds.all (dm n)=b8:=m;unfold pyHash
   first|unfold pyHashByItsType|skip
   first|refine u7 (wpAny_cRoomFor_or (.inr<|by lia) ?_)|skip
   refine u7<|NG T F.slot_tuple_hash.lookup ?_;refine(show g9 (i3 X.prog X.w) _ (if (a9 (Value.builtin "tuple.__hash__")==a9 ABv)=b8 then _ else _) Q E s from ?_);rw[t6<|by rw[beq_builtin_none];exact MK];refine u7<|NG T F.slot_tuple_hash.lookup ?_;refine(show g9 (i3 X.prog X.w) _ (callSpecialIfBoundUnlessNone? (.ref a) "__hash__" _ >>= _) Q E s from u7<|RX T F.slot_tuple_hash<|J4 F.slot_tuple_hash T F.entry_tuple_hash ?_<|F.args_tuple_hash_1 _);refine(show g9 (i3 X.prog X.w) _ (QX (.ref a) >>= _) _ _ s from u7<|wpAny_tupleItemsOf B N<|u7 ?_);rw[<-OY];refine MT _ (λaH (b:Array Int) s'=>∃done left q,ds=done++left/\Reps X.K ρ H left q/\az q aH/\b.toList=done.map (C4 X.w n)/\∃tk,s'={ s with toks:=tk }) _ ?_ ?_ _ _ ⟨[],ds,vs,rfl,Y,by simpa using W,rfl,s.toks,rfl⟩;rintro x aH b s' ⟨done,left,q,e,h1,h2,k,tk,rfl⟩;cases h2 with
   |@cons Z _ i _ S G =>
    cases h1 with
    |@cons j _ c _ U J =>
     refine u7<|R _ _ j Z x _ _ (by show A.units+1+n<j9;lia) (I.tok tk) U S ?_ λg=>?_;have:=G7.mp y j (by rw[e];simp);exact this
     first
      |exact u9 ⟨done++[j],c,i,by rw[e];simp,J,G,by simp[k],g,rfl⟩
      |exact u7 (u9 (u9 ⟨done++[j],c,i,by rw[e];simp,J,G,by simp[k],g,rfl⟩))
   rintro b s' ⟨done,left,q,e,h1,h2,k,tk,rfl⟩;cases h2;cases h1;rw[Mq]at e;subst e;refine(show g9 (i3 X.prog X.w) _ (retInt<|OG b.toList) _ _ _ from ?_);rw[k];refine wpAny_ret_mkInt ?_;have l:C4 X.w (n+1) (.tup ds)=o7 (OG<|ds.map<|C4 X.w n):=rfl;generalize OG (ds.map<|C4 X.w n)=z at l;refine(show g9 (i3 X.prog X.w) _ (if (decide (-(2:Int) ^ 63<=z)&&decide (z<2 ^ 63))=b8 then _ else _) Q E _ from ?_);unfold o7 at l;by_cases C:(decide (-(2:Int) ^ 63<=z)&&decide (z<2 ^ 63))=b8;rw[t5 C]at l ⊢;exact u9 (by rw[<-l];exact h _);rw[t6 C]at l ⊢;exact u7<|K9<|u9<|by rw[<-l];exact h _
  |_=>cases m
theorem hbv_D(S:z6 X.K ρ M H):∀(n k:Nat) (A:f7) (s:f8) (d:D) (v:V) (u:c3) (E:c3->f8->Prop) (Q:Bool->f8->Prop),n<=k->v4 X pins σ H s->v9 X.K ρ H d v->aN v u->dm n d=b8->(∀b,Q b s)->g9 (i3 X.prog X.w) A (hashByValue k u) Q E s:=by
 intro n;induction n with
 |zero =>
  intro k A s d v u E Q z I r c e h;cases r with
  |str x=>obtain⟨t,rfl⟩:=c;cases k<;>exact u9<|h _
  |int x=>obtain⟨t,rfl⟩:=c;cases k<;>exact u9<|h _
  |_=>cases e
 |succ n G =>
  intro k A s d v u E Q z I r c e h;cases r with
  |str x=>obtain⟨t,rfl⟩:=c;cases k<;>exact u9<|h _
  |int x=>obtain⟨t,rfl⟩:=c;cases k<;>exact u9<|h _
  |@tup a vs ds B O =>
   cases c;obtain⟨k,rfl⟩:∃J,k=J+1:=⟨k-1,by lia⟩
   obtain⟨its,j,p,_⟩:=I.tuple B;obtain⟨o,m,l,R,q⟩:=id p;have T:s.TypeIs (.ref a) "tuple":=⟨o,m,l⟩
   have y:ds.all (dm n)=b8:=e;unfold hashByValue;refine u7<|NG T F.slot_tuple_hash.lookup ?_;dsimp only;refine u7<|N3 m q ?_;simp only[Option.getD_some];rw[<-OY];refine u7 ?_;refine MT _ (λaH r s'=>s'=s/\r.1=b7/\∃left f,(∀x∈left,dm n x=b8)/\Reps X.K ρ H left f/\az f aH) _ ?_ ?_ _ _ ⟨rfl,rfl,ds,vs,G7.mp y,O,by simpa using j⟩;rintro x aH r s' ⟨rfl,i,left,f,g,h1,h2⟩;cases h2 with
   |cons L N =>
    cases h1 with
    |cons U P =>
     refine u7<|G k _ _ _ _ x _ _ (by lia) I U L (g _ F4) λb=>?_;cases b with
     |false=>exact u9<|u9<|h _
     |true=>exact u9 ⟨rfl,rfl,_,_,λx C=>g x<|C6 _ C,P,N⟩
   rintro⟨r1,j⟩ s' ⟨rfl,i,_⟩;simp only at i;subst i;exact u9<|h _
  |_=>cases e
theorem Ar(P:z6 X.K ρ M H):∀(n k:Nat) (A:f7) (s:f8) (d:D) (v:V) (u:c3) (E:c3->f8->Prop) (Q:Bool->f8->Prop),n<=k->v4 X pins σ H s->v9 X.K ρ H d v->aN v u->dm n d=b8->Q b8 s->g9 (i3 X.prog X.w) A (s9 k u) Q E s:=by
 intro n;induction n with
 |zero =>
  intro k A s d v u E Q q I r b e h;cases r with
  |str x=>obtain⟨t,rfl⟩:=b;rw[N7 k (v:=.str x t) rfl];exact u9 h
  |int x=>obtain⟨t,rfl⟩:=b;rw[N7 k (v:=.int x t) rfl];exact u9 h
  |_=>cases e
 |succ n C =>
  intro k A s d v u E Q q I r b e h;cases r with
  |str x=>obtain⟨t,rfl⟩:=b;rw[N7 k (v:=.str x t) rfl];exact u9 h
  |int x=>obtain⟨t,rfl⟩:=b;rw[N7 k (v:=.int x t) rfl];exact u9 h
  |@tup a vs ds z N =>
   cases b;obtain⟨k,rfl⟩:∃G,k=G+1:=⟨k-1,by lia⟩
   obtain⟨its,f,p,_⟩:=I.tuple z;obtain⟨o,m,j,R,l⟩:=id p;have T:s.TypeIs (.ref a) "tuple":=⟨o,m,j⟩
   have y:ds.all (dm n)=b8:=e;unfold s9;refine u7<|NG T F.slot_tuple_eq.lookup ?_;refine(show g9 (i3 X.prog X.w) A (isInstance (.ref a) (.type "tuple") >>= _) _ _ s from u7<|N6 T isSubtype_tuple_tuple ?_);simp only[MS,C5,u3];refine u7<|N3 m l ?_;simp only[Option.getD_some];refine u7 ?_;rw[<-OY];refine MT _ (λaH r s'=>s'=s/\r.1=b7/\∃left c,(∀x∈left,dm n x=b8)/\Reps X.K ρ H left c/\az c aH) _ ?_ ?_ _ _ ⟨rfl,rfl,ds,vs,G7.mp y,N,by simpa using f⟩;rintro x aH r s' ⟨rfl,i,left,c,g,h1,h2⟩;cases h2 with
   |cons J L =>
    cases h1 with
    |cons U O=>refine u7<|C k _ _ _ _ x _ _ (by lia) I U J (g _ F4) ?_;simp only[MS,C5,u3];exact u9 ⟨rfl,rfl,_,_,λx B=>g x<|C6 _ B,O,L⟩
   rintro⟨r1,f⟩ s' ⟨rfl,i,_⟩;simp only at i;subst i;exact u9 h
  |_=>cases e
theorem LF(O:z6 X.K ρ M H):∀(n k:Nat) (A:f7) (s:f8) (d:D) (v:V) (u:c3) (E:c3->f8->Prop) (Q:Bool->f8->Prop),n<=k->v4 X pins σ H s->v9 X.K ρ H d v->aN v u->dm n d=b8->Q b9 s->g9 (i3 X.prog X.w) A (ofAClassStatement k u) Q E s:=by
 intro n;induction n with
 |zero =>
  intro k A s d v u E Q q I r b e h;cases r with
  |str x=>obtain⟨t,rfl⟩:=b;cases k<;>exact u9 h
  |int x=>obtain⟨t,rfl⟩:=b;cases k<;>exact u9 h
  |_=>cases e
 |succ n C =>
  intro k A s d v u E Q q I r b e h;cases r with
  |str x=>obtain⟨t,rfl⟩:=b;cases k<;>exact u9 h
  |int x=>obtain⟨t,rfl⟩:=b;cases k<;>exact u9 h
  |@tup a vs ds z L =>
   cases b;obtain⟨k,rfl⟩:∃F,k=F+1:=⟨k-1,by lia⟩
   obtain⟨its,f,p,_⟩:=I.tuple z;obtain⟨o,m,j,R,l⟩:=id p;have T:s.TypeIs (.ref a) "tuple":=⟨o,m,j⟩
   have y:ds.all (dm n)=b8:=e;unfold ofAClassStatement;refine u7<|MH T ?_;dsimp only;simp only[u6,u4];refine u7<|u9 ?_;simp only[MS,C5,u3];refine u7<|N3 m l ?_;dsimp only;refine u7 ?_;rw[<-OY];refine MT _ (λaH r s'=>s'=s/\r.1=b7/\∃left c,(∀x∈left,dm n x=b8)/\Reps X.K ρ H left c/\az c aH) _ ?_ ?_ _ _ ⟨rfl,rfl,ds,vs,G7.mp y,L,by simpa using f⟩;rintro x aH r s' ⟨rfl,i,left,c,g,h1,h2⟩;cases h2 with
   |cons G J =>
    cases h1 with
    |cons U N=>refine u7<|C k _ _ _ _ x _ _ (by lia) I U G (g _ F4) ?_;simp only[C5,u3];exact u9 ⟨rfl,rfl,_,_,λx B=>g x<|C6 _ B,N,J⟩
   rintro⟨r1,f⟩ s' ⟨rfl,i,_⟩;simp only at i;subst i;exact u9 h
  |_=>cases e
noncomputable def eX:D->Bool
 |.tup _=>b8
 |_=>b9
def F8(X:Cx)(ρ:List c8)(H:Hp)(n:Nat)(d:D)(e:Int×c3):Prop:=(∃v,v9 X.K ρ H d v/\aN v e.2)/\e.1=C4 X.w n d/\dm n d=b8/\eX d=b8
structure KSet(X:Cx)(ρ:List c8)(H:Hp)(h:d5)(a:c8)(n:Nat)(ds:List D)(o:c9)(es:Array (Int×c3))(ep:Nat)(t:p5):Prop where
 ob:h.get? a=a9 o
 ex:o.ExactSet
 dt:o.data=.set es ep t
 en:Paired (F8 X ρ H n) ds es.toList
 nd:ds.Nodup
 tk:Ht.TOk t (es.toList.map (·.1))
 ld:t.led = !X.w.params.followText "set-order"
theorem cU{α β:Type}{R:α->β->Prop}:∀{xs:List α}{ys:List β}{i:Nat}{y:β},Paired R xs ys->ys[i]?=a9 y->∃x,xs[i]?=a9 x/\R x y
 |_,_,i,y,.nil,e=>by simp at e
 |_,_,0,y,.cons r _,e=>by simp at e;subst e;exact⟨_,rfl,r⟩
 |_,_,i+1,y,.cons _ t,e=>by obtain⟨x,h1,h2⟩:=cU (i:=i) t (by simpa using e);exact⟨x,by simpa using h1,h2⟩
theorem jJ{α β:Type}{R:α->β->Prop}:∀{xs:List α}{ys:List β}{i:Nat}{x:α},Paired R xs ys->xs[i]?=a9 x->∃y,ys[i]?=a9 y/\R x y
 |_,_,i,y,.nil,e=>by simp at e
 |_,_,0,y,.cons r _,e=>by simp at e;subst e;exact⟨_,rfl,r⟩
 |_,_,i+1,y,.cons _ t,e=>by obtain⟨x,h1,h2⟩:=jJ (i:=i) t (by simpa using e);exact⟨x,by simpa using h1,h2⟩
theorem KSet.fits(S:KSet X ρ H h a n ds o es ep t):t.fits es.size=b8:=by
 have h1:=S.tk.len;have h2:=S.tk.few;rw[w4,F5]at h1;unfold OQ;have b:t.fill=t.place.size:=by unfold Ql;rw[S.tk.nod];rfl
 rw[b];simp only[G0,t9,t8];lia
theorem CD(m:z6 X.K ρ M H)(I:v4 X pins σ H s)(f:n<=8)(r:v9 X.K ρ H d v)(c:aN v u)(e:dm n d=b8)(h:Q b9 s):∀(l:List c3),(∀y∈l,∃d' v',v9 X.K ρ H d' v'/\aN v' y/\dm n d'=b8)->g9 (i3 X.prog X.w) A (searchCouldBeSeen u l) Q E s:=by intro l g;unfold searchCouldBeSeen;refine u7 ?_;refine MT _ (λaH r s'=>s'=s/\r.1=b7/\∀y∈aH,∃d' v',v9 X.K ρ H d' v'/\aN v' y/\dm n d'=b8) _ ?_ ?_ _ _ ⟨rfl,rfl,g⟩;rintro y aH r' s' ⟨rfl,i,O⟩;have t:∀z∈aH,∃d' v',v9 X.K ρ H d' v'/\aN v' z/\dm n d'=b8:=λz j=>O z<|C6 _ j;obtain⟨d',v',a,b,k⟩:=O y F4;dsimp only;refine Nh (λ_=>u9 ⟨rfl,rfl,t⟩) λ_=>?_;refine u7<|Ar m n 8 A _ d v u _ _ f I r c e ?_;simp only[MS,C5,u3];refine u7<|Ar m n 8 A _ d' v' y _ _ f I a b k ?_;simp only[MS,C5,u3];refine u7<|LF m n 8 A _ d v u _ _ f I r c e ?_;simp only[C5,u3];refine u7<|LF m n 8 A _ d' v' y _ _ f I a b k ?_;simp only[C5,u3];exact u9 ⟨rfl,rfl,t⟩;rintro⟨a,b⟩ s' ⟨rfl,i,_⟩;simp only at i;subst i;exact u9 h
theorem CS(sm:z6 X.K ρ M H)(I:v4 X pins σ H s)(hn:n<=8)(hu:A.units+n<j9)(S:KSet X ρ H s.heap a n ds o es ep t)(r:v9 X.K ρ H d v)(rv:aN v u)(D:dm n d=b8)(c:d∈ds->Q (.there b7) s) (aS:N<10*(t.mask+15)) (F:(Ht.sq t.mask (C4 X.w n d) N).j∉t.place.toList) (ag:∀k,k<N->(Ht.sq t.mask (C4 X.w n d) k).j∈t.place.toList)(G:d∉ds->Q (.free (Ht.sq t.mask (C4 X.w n d) N).j b9) s):∀(fuel m:Nat) (stand:Option N1),m<=N->N<m+fuel->stand.getD (t.probeStart<|C4 X.w n d)=Ht.sq t.mask (C4 X.w n d) m->(∀k i:Nat,k<m->t.place[i]?=a9 (Ht.sq t.mask (C4 X.w n d) k).j->ds[i]?≠a9 d) ->g9 (i3 X.prog X.w) A (setSearchFrom a u (C4 X.w n d) b8 fuel stand) Q E s:=by
 intro fuel;induction fuel with
 |zero=>intro m stand h1 h2;lia
 |succ fuel ih =>
  intro m stand h1 h2 hs hb;unfold setSearchFrom;refine u7<|MX S.ob S.dt S.fits ?_;dsimp only;have gw:t.gaveWay=b9:=by unfold SetTable.gaveWay;rcases S.tk.msk with e|e|e<;>rw[e]<;>rfl
  rw[gw];simp only[C5,u3];rw[hs];rcases Ht.go_spec S.tk.ris S.tk.nod (λi=>(es[i]?.map (·.1)).getD 0) (C4 X.w n d) (10*OS t.mask) m N h1 (by unfold OS;lia) F (λk _ hk=>ag k hk) (Ht.sq_dummy _ _)with⟨z1,z2⟩|⟨m',i,a1,a2,a3,a4,a5,a6⟩
  generalize J:SetTable.probe t _ (C4 X.w n d) (Ht.sq t.mask (C4 X.w n d) m)=pr;obtain rfl:pr=_:=J.symm.trans z2;dsimp only;refine u9<|G λhd=>?_;obtain⟨i,hi⟩:=MB hd;obtain⟨e,C,_,T,_⟩:=jJ S.en hi;have g:es[i]?=a9 e:=by rw[<-J5];exact C
  have hh:(es.toList.map (·.1))[i]?=a9 (C4 X.w n d):=by rw[D8,C];exact u5 a9 T
  have hl:i<t.place.size:=by rw[S.tk.len];exact(C2.mp hh).1
  obtain⟨O,b1,b2⟩:=S.tk.path i _ t.place[i] hh<|J1 hl;have ak:O<N:=by rcases OW O N with q|q|q;exact q;subst q;exact t7 (show (Ht.sq t.mask (C4 X.w n d) O).j∈t.place.toList by rw[b1];simp) F;exact t7 (b2 N q) F
  have hp:t.place[i]?=a9 (Ht.sq t.mask (C4 X.w n d) O).j:=by rw[b1];exact J1 hl
  rcases Mm O m with q|q;exact hb O i q hp hi;refine z1 O i q ak hp ?_;rw[g];exact T;generalize J:SetTable.probe t _ (C4 X.w n d) (Ht.sq t.mask (C4 X.w n d) m)=pr;obtain rfl:pr=_:=J.symm.trans a6;dsimp only;have aj:i<es.size:=by have:=(M7.mp a3).1;rw[S.tk.len,w4,F5]at this;exact this
  have l:es[i]?=a9 es[i]:=J1 aj;obtain⟨p,Pj,⟨v0,r0,W⟩,aD,L,al⟩:=cU S.en (i:=i) (y:=es[i]) (by rw[J5];exact l);have Y:∀(f:Bool->Sem SetFound),g9 (i3 X.prog X.w) A (f b9) Q E s->g9 (i3 X.prog X.w) A (searchCouldBeSeen u ((es.filter (·.1==C4 X.w n d)).toList.map (·.2)) >>= f) Q E s:=λf hf=>by
   refine u7<|CD sm I hn r rv D hf _ λy hy=>?_;obtain⟨e,C,rfl⟩:=A0.mp hy;have ai:e∈es.toList:=by
    have:e∈es.filter (·.1==C4 X.w n d):=by simpa using C
    simpa using(Array.mem_filter.mp this).1
   obtain⟨j,hj⟩:=MB ai;obtain⟨d1,_,⟨v1,r1,an⟩,_,am,_⟩:=cU S.en hj;exact⟨d1,v1,r1,an,am⟩
  have x:∃b,es[i].2=AAu b:=by
   cases r0 with
   |tup _ _=>exact⟨_,W⟩
   |_=>cases al
  obtain⟨b,x⟩:=x;have U:Mx A s es[i].2 u (v8 M n p d):=(kY I sm n A p d v0 v es[i].2 u hu r0 W r rv (rj n p L)<|rj n d D).1;refine Nh (λ_=>Y _ ?_) λ_=>?_;simp only[C5,u3];rw[l];dsimp only;refine u7<|F3<|U _ _ _ _<|u7<|MX S.ob S.dt S.fits ?_;dsimp only;by_cases B:v8 M n p d=b8;rw[B];simp only[Bool.and_self,u4];have:p=d:=(jd n p d L D).mp B;subst this;exact u9<|c<|G1 Pj;rw[Nj.mpr B];simp only[PM,C5,u3];have R:t.sameMemory t.moves t.mask=a9 b8:=by unfold SetTable.sameMemory;simp
  rw[R];dsimp only;simp only[u4];rw[Ht.slot_live S.tk.ris a3];dsimp only;rw[l];have P:g9 (i3 X.prog X.w) A (isSame es[i].2 es[i].2) (λb s'=>b=b8/\s'=s) E s:=by unfold isSame;rw[x];simp only[u6,u4];exact u9<|And.intro rfl rfl
  refine u7<|J2 P (λb s' ⟨Z,e2⟩=>?_) λ_ _ z=>z;subst Z e2;refine u7<|u9 ?_;simp only[u4];refine ih (m'+1) _ (by lia) (by lia) rfl λk i' hk hp h=>?_;rcases Mm k m with q|q;exact hb k i' q hp h;rcases Mm k m' with V|V;refine a5 k i' q V hp ?_;obtain⟨e,C,_,T,_⟩:=jJ S.en h;have g:es[i']?=a9 e:=by rw[<-J5];exact C
  rw[g];exact T;have:k=m':=by lia
  subst this;have:i'=i:=by rw[<-Ht.below_at S.tk.ris hp,Ht.below_at S.tk.ris a3]
  subst this;rw[Pj]at h;cases h;exact B<|(jd n d d D D).mpr rfl;rw[l];dsimp only;refine u7<|F3<|U _ _ _ _<|u7<|MX S.ob S.dt S.fits ?_;dsimp only;by_cases B:v8 M n p d=b8;rw[B];simp only[Bool.and_self,u4];have:p=d:=(jd n p d L D).mp B;subst this;exact u9<|c<|G1 Pj;rw[Nj.mpr B];simp only[PM,C5,u3];have R:t.sameMemory t.moves t.mask=a9 b8:=by unfold SetTable.sameMemory;simp
  rw[R];dsimp only;simp only[u4];rw[Ht.slot_live S.tk.ris a3];dsimp only;rw[l];have P:g9 (i3 X.prog X.w) A (isSame es[i].2 es[i].2) (λb s'=>b=b8/\s'=s) E s:=by unfold isSame;rw[x];simp only[u6,u4];exact u9<|And.intro rfl rfl
  refine u7<|J2 P (λb s' ⟨Z,e2⟩=>?_) λ_ _ z=>z;subst Z e2;refine u7<|u9 ?_;simp only[u4];refine ih (m'+1) _ (by lia) (by lia) rfl λk i' hk hp h=>?_;rcases Mm k m with q|q;exact hb k i' q hp h;rcases Mm k m' with V|V;refine a5 k i' q V hp ?_;obtain⟨e,C,_,T,_⟩:=jJ S.en h;have g:es[i']?=a9 e:=by rw[<-J5];exact C
  rw[g];exact T;have:k=m':=by lia
  subst this;have:i'=i:=by rw[<-Ht.below_at S.tk.ris hp,Ht.below_at S.tk.ris a3]
  subst this;rw[Pj]at h;cases h;exact B<|(jd n d d D D).mpr rfl
theorem Paired.ins{α β:Type}{R:α->β->Prop}{x:α}{y:β}(r:R x y):∀{xs:List α}{ys:List β} (p:Nat),Paired R xs ys->Paired R (xs.take p++x::xs.drop p) (ys.take p++y::ys.drop p)
 |_,_,0,h=>by simpa using .cons r h
 |_,_,p+1,.nil=>.cons r .nil
 |_,_,p+1,.cons h t=>.cons h<|Paired.ins r p t
theorem Paired.pick{α β:Type}{R:α->β->Prop}:∀{xs:List α}{ys:List β} (is:List Nat),Paired R xs ys->(∀i∈is,i<xs.length)->Paired R (is.filterMap (xs[·]?)) (is.filterMap (ys[·]?))
 |_,_,[],_,_=>.nil
 |xs,ys,i::is,h,hi=>by have hl:=hi i F4;have e:xs[i]?=a9 xs[i]:=A5 hl;obtain⟨y,hy,r⟩:=jJ h e;rw[Ny,Ny,e,hy];exact .cons r<|Paired.pick is h λj hj=>hi j<|C6 _ hj
theorem pU{α:Type}{l:List α}{is:List Nat}(h:is.Perm (C9 l.length)):(is.filterMap (l[·]?)).Perm l:=by
 have:=h.filterMap (l[·]?)
 rwa [List.filterMap_getElem?_range_length]at this
section
variable{X:Cx}{pins:List (c8×c9)}{σ:St}{H:Hp}{ρ:List c8}{M:w6}{A:f7}{E:c3->f8->Prop}{s:f8}{a:c8}{n:Nat}{ds:List D}{o:c9}{es:Array (Int×c3)}{ep:Nat}{t:p5}
def KS(X:Cx)(ρ:List c8)(H:Hp)(h:d5)(a:c8)(n:Nat)(ds:List D):Prop:=∃o es i t,KSet X ρ H h a n ds o es i t
set_option maxHeartbeats 1000000 in
theorem add_D(sm:z6 X.K ρ M H)(I:v4 X pins σ H s)(hn:n<=8)(hu:A.units+n+1<j9)(S:KS X ρ H s.heap a n ds)(be:ds.length+1<=64)(r:v9 X.K ρ H d v)(rv:aN v u)(kd:dm n d=b8)(it:eX d=b8)(h:∀b h' tk ds',(∀c u,c≠a->s.heap.get? c=a9 u->h'.get? c=a9 u)->KS X ρ H h' a n ds'->(∀x,x∈ds'↔x∈ds\/x=d)->ds'.length<=ds.length+1->Q b { s with heap:=h',toks:=tk }):g9 (i3 X.prog X.w) A (setAdd a u) Q E s:=by
 obtain⟨o,es,ep,t,S⟩:=S;obtain⟨P,rfl⟩:∃P,u=AAu P:=by
  cases r with
  |tup _ _=>exact⟨_,rv⟩
  |_=>cases it
 unfold setAdd;refine F3<|u7<|KR sm n A s d v _ _ _ (by lia) I r rv kd λtk=>?_;unfold setAddHashed setAddHashedIn;refine F3<|u7<|MX (s:={ s with toks:=tk }) S.ob S.dt S.fits ?_;dsimp only;have bs:byScan (.ref P) es=b9:=rfl;rw[bs];simp only[C5,u3];obtain⟨N,ag,ai,aj⟩:=S.tk.empty<|C4 X.w n d;have I1:v4 X pins σ H { s with toks:=tk }:=I.tok tk;unfold setSearch;refine u7<|CS (s:={ s with toks:=tk }) sm I1 hn (by lia) S r rv kd (λhd=>?_) ag ai aj (λhd=>?_) 100000 0 b7 (A8 _) ?_ rfl λk i hk=>t7 hk<|Nv _;exact u9<|h _ s.heap tk ds (λ_ _ _ e=>e) ⟨o,es,ep,t,S⟩ (λx=>⟨.inl,λz=>z.elim id λe=>e ▸ hd⟩)<|Oo _;dsimp only;refine u7<|MX (s:={ s with toks:=tk }) S.ob S.dt S.fits ?_;dsimp only;have G:=S.tk.len;rw[w4,F5]at G;have dl:ds.length=es.size:=by have:=Paired.length S.en;simpa using this
 have D:∀L:Bool,g9 (i3 X.prog X.w) A (do
   storeSet a (QA es (t.put (Ht.sq t.mask (C4 X.w n d) N).j).2 (C4 X.w n d,AAu P)) { (t.put (Ht.sq t.mask (C4 X.w n d) N).j).1 with plain:=L }
   if (!b9&&({ (t.put (Ht.sq t.mask (C4 X.w n d) N).j).1 with plain:=L }:p5).tooFull)=b8 then do
     setRelay a (Ou<|es.size+1)
     pure b8
    else pure b8) Q E { s with toks:=tk }:=λL=>by
  obtain⟨pb,T⟩:=Ht.put_pre S.tk ai aj L;have F:({ (t.put (Ht.sq t.mask (C4 X.w n d) N).j).1 with plain:=L }:p5).led=t.led:=rfl;have J:({ (t.put (Ht.sq t.mask (C4 X.w n d) N).j).1 with plain:=L }:p5).mask=t.mask:=rfl;generalize ({ (t.put (Ht.sq t.mask (C4 X.w n d) N).j).1 with plain:=L }:p5)=R at T F J;generalize (t.put (Ht.sq t.mask (C4 X.w n d) N).j).2=p at pb T;rw[w4,F5]at pb;have e1:(QA es p (C4 X.w n d,AAu P)).toList=es.toList.take p++(C4 X.w n d,AAu P)::es.toList.drop p:=SetTable.toList_insertAt ..;generalize QA es p (C4 X.w n d,AAu P)=f at e1;have an:f.toList.map (·.1)=(es.toList.map (·.1)).take p++C4 X.w n d::(es.toList.map (·.1)).drop p:=by rw[e1,J3,D5,List.map_take,PH]
  rw[<-an]at T;have C:f.size=es.size+1:=by have:=u5 LY e1;rw[F5,B6,D7,LO,Mb,F5]at this;lia
  have Y:Paired (F8 X ρ H n) (ds.take p++d::ds.drop p) f.toList:=by rw[e1];exact Paired.ins ⟨⟨v,r,rv⟩,rfl,kd,it⟩ p S.en
  have U:(ds.take p++d::ds.drop p).Perm (d::ds):=by refine List.perm_middle.trans<|Qn d ?_;rw[List.take_append_drop]
  have ak:(ds.take p++d::ds.drop p).Nodup:=U.nodup_iff.mpr<|Ma.mpr ⟨hd,S.nd⟩;have Z:R.fits f.size=b8:=by
   have l1:=T.len;rw[w4,F5]at l1;have h3:R.fill=R.place.size:=by unfold Ql;rw[T.nod];rfl
   have fw:=S.tk.few;unfold OQ;rw[h3];simp only[G0,t9,t8];rw[G]at fw;rcases S.tk.msk with e|e|e<;>rw[J,e]<;>rw[e]at fw<;>lia
  have zz:f.size<=sizeLine:=by rw[L8];lia
  refine u7<|wpAny_storeSet_of (s:={ s with toks:=tk }) S.ob S.dt ?_ zz;have B:(s.heap.update a<|OM f R).get? a=a9 { o with data:=.set f (ep+1) R }:=by
   have q:=LQ (OM f R) S.ob<|by rw[putSet_of f R S.dt];rfl
   rwa [putSet_of f R S.dt]at q
  have al:∀c u,c≠a->s.heap.get? c=a9 u->(s.heap.update a<|OM f R).get? c=a9 u:=λc u hc e=>(NL _ _<|D4 hc).trans e;by_cases tf:R.tooFull=b8;rw[tf];simp only[Bool.not_false,Bool.and_self,u4];have am:((f.toList.map (·.1)).length-1)*5<R.mask*3:=by have fw:=S.tk.few;rw[G]at fw;rw[w4,F5,C,J];simpa using fw
  obtain⟨zl,W,m,g1,g2,T2,aD⟩:=T.anew tf am (by rw[w4,F5];lia);rw[w4,F5]at g2 zl;have eg:Ou (es.size+1)=Ou (f.toList.map (·.1)).length:=by rw[w4,F5,C]
  unfold setRelay;refine u7<|u7<|MX (s:={ s with heap:=_,toks:=tk }) B rfl Z ?_;dsimp only;rw[eg];have nz:¬Rl (Ou (f.toList.map (·.1)).length) > sizeLine:=by rw[w4,F5];lia
  simp only[nz,u3];have ea:f.map (·.1)=(f.toList.map (·.1)).toArray:=by apply Array.ext';simp
  rw[ea,g1];have y:(m.filterMap (f[·]?)).toList=m.toList.filterMap (f.toList[·]?):=by rw[Array.toList_filterMap];congr 1;funext i;rw[J5]
  have V:(m.filterMap (f[·]?)).size=f.size:=by have:=(pU (l:=f.toList) (is:=m.toList)<|by rw[F5];exact g2).length_eq;rw[<-y,F5,F5]at this;exact this
  refine u7 (show g9 (i3 X.prog X.w) A (if ((m.filterMap (f[·]?)).size != f.size)=b8 then _ else pure (m.filterMap (f[·]?),W)) _ _ _ from ?_);rw[t6<|by rw[V];simp];refine u9 ?_;generalize m.filterMap (f[·]?)=g at y V;have O:(m.toList.filterMap ((ds.take p++d::ds.drop p)[·]?)).Perm (ds.take p++d::ds.drop p):=pU (by
   have:(ds.take p++d::ds.drop p).length=f.size:=by rw[U.length_eq,D7,dl,C]
   rw[this];exact g2)
  refine wpAny_storeSet_of (s:={ s with heap:=_,toks:=tk }) B rfl ?_ (by rw[V];exact zz);have aS:((s.heap.update a<|OM f R).update a<|OM g W).get? a=a9 { o with data:=.set g (ep+1+1) W }:=by
   have q:=LQ (OM g W) B<|by rw[putSet_of g W (es:=f) (ep:=ep+1) (t:=R) rfl];rfl
   rwa [putSet_of g W (es:=f) (ep:=ep+1) (t:=R) rfl]at q
  refine u9 (h _ _ tk (m.toList.filterMap ((ds.take p++d::ds.drop p)[·]?)) (λc u hc e=>(NL _ _<|D4 hc).trans<|al c u hc e) ⟨_,g,_,W,aS,S.ex,rfl,?_,O.nodup_iff.mpr ak,?_,aD.trans<|F.trans S.ld⟩ (λx=>?_) ?_);rw[y];refine Paired.pick _ Y λi hi=>?_;have:=g2.mem_iff.mp hi;rw[K0]at this;rw[U.length_eq,D7,dl,<-C];exact this;have e2:g.toList.map (·.1)=m.toList.map λi=>(f.toList.map (·.1)).getD i 0:=by
   rw[y];have:∀(is:List Nat),(∀i∈is,i<f.toList.length)->(is.filterMap (f.toList[·]?)).map (·.1)=is.map λi=>(f.toList.map (·.1)).getD i 0:=by
    intro is;induction is with
    |nil=>intro _;rfl
    |cons i is ih=>intro hi;have hl:=hi i F4;rw[Ny,A5 hl,D5,D5,ih λj hj=>hi j<|C6 _ hj];congr 1;rw[L5,D8,A5 hl];rfl
   refine this _ λi hi=>?_;have:=g2.mem_iff.mp hi;rw[K0]at this;rw[F5];exact this
  rw[e2];exact T2;rw[O.mem_iff,U.mem_iff,C3];exact⟨λz=>z.symm,λz=>z.symm⟩;rw[O.length_eq,U.length_eq];exact x5 _;rw[Nj.mpr tf];simp only[PM,C5,u3];refine u9<|h _ _ tk _ al ⟨_,f,_,R,B,S.ex,rfl,Y,ak,T.ok<|Nj.mpr tf,F.trans S.ld⟩ (λx=>?_) ?_;rw[U.mem_iff,C3];exact⟨λz=>z.symm,λz=>z.symm⟩;rw[U.length_eq];exact x5 _
 refine Nh (λ_=>u7<|hbv_D sm n 8 A _ d v _ _ _ hn I1 r rv kd λb=>?_) λ_=>?_;cases b with
 |true=>exact D (t.put (Ht.sq t.mask (C4 X.w n d) N).j).1.plain
 |false=>exact D b9
 exact D (t.put (Ht.sq t.mask (C4 X.w n d) N).j).1.plain;have:=ag;rcases S.tk.msk with e|e|e<;>rw[e]at this<;>lia
end
theorem KS.at(x:KS X ρ H h a n ds)(k:∀o,h.get? a=a9 o->h'.get? a=a9 o):KS X ρ H h' a n ds:=by obtain⟨o,es,i,t,S⟩:=x;exact⟨o,es,i,t,k _ S.ob,S.ex,S.dt,S.en,S.nd,S.tk,S.ld⟩
theorem Hh(sm:z6 X.K ρ M H)(I:v4 X pins σ H s)(hn:n<=8)(hu:A.units+n+2<j9)(W:Walks X.prog X.w A.in1 J fp wr m P Sx)(S:c8)(f:S∉fp)(G:s.heap.get? S=b7) (B:∀b∈wr,s.heap.get? b=b7) (l:Nat->D) (y:∀i v,P i v->∃vv,v9 X.K ρ H (l i) vv/\aN vv v/\dm n (l i)=b8/\eX (l i)=b8) (hb:m<=63):∀(k i:Nat) (h:d5) (tk:Nat) (ds:List D),m-i=k->i<=m->Sx i h->KS X ρ H h S n ds->(∀x,x∈ds↔∃j,j<i/\l j=x)->ds.length<=i->(∀b u,s.heap.get? b=a9 u->h.get? b=a9 u) ->(∀h' tk ds',(∀b u,s.heap.get? b=a9 u->h'.get? b=a9 u)->KS X ρ H h' S n ds'->(∀x,x∈ds'↔∃j,j<m/\l j=x)->ds'.length<=m->R (.ok<|.ret .none) { s with heap:=h',toks:=tk }) ->k9 (i3 X.prog X.w) A (.builtin "set.update.loop" ⟨[.ref S,.ref J],[]⟩) R { s with heap:=h,toks:=tk }:=by
 have g:S∉wr:=λh=>f<|W.sub _ h;intro k;induction k with
 |zero =>
  intro i h tk ds hk hi t E O U a Y;obtain rfl:i=m:=by lia
  refine Mg F.entry_set_update_loop ?_;rw[ML F.plain_set_update_loop _];refine(show g9 (i3 X.prog X.w) A.in1 (j1 (.ref J) >>= _) _ _ _ from u7<|W.done _ _ _ t λh' tk d=>?_);refine u9<|Y h' tk ds (λb u e=>d b u (λz=>by rw[B b z]at e;cases e)<|a b u e) (E.at λo e=>d S o g e) O U
 |succ k ih=>intro i h tk ds hk hi t E O U a Y;refine Mg F.entry_set_update_loop ?_;rw[ML F.plain_set_update_loop _];refine(show g9 (i3 X.prog X.w) A.in1 (j1 (.ref J) >>= _) _ _ _ from u7<|W.item i _ _ _ (by lia) t λv h' tk hP p d=>?_);obtain⟨vv,r,rv,kd,it⟩:=y i v hP;have c:∀b u,s.heap.get? b=a9 u->h'.get? b=a9 u:=λb u e=>d b u (λz=>by rw[B b z]at e;cases e)<|a b u e;have Z:v4 X pins σ H { s with heap:=h',toks:=tk }:=I.kept c;refine u7<|F3<|add_D (s:={ s with heap:=h',toks:=tk }) sm Z hn (by show A.units+1+n+1<j9;lia) (E.at λo e=>d S o g e) (by lia) r rv kd it λb h2 T C V L Q ag=>?_;refine u9 ⟨My F.plain_set_update_loop _,ih (i+1) h2 T C (by lia) (by lia) (W.frame _ h' h2 p λb' N o e=>V b' o (λz=>f<|z ▸ N) e) L (λx=>?_) (by lia) (λb u e=>V b u (λz=>by rw[z,G]at e;cases e)<|c b u e) Y⟩;rw[Q,O];constructor;rintro(⟨j,hj,e⟩|rfl);exact⟨j,by lia,e⟩;exact⟨i,by lia,rfl⟩;rintro⟨j,hj,rfl⟩;by_cases q:j=i;subst q;exact .inr rfl;exact .inl ⟨j,by lia,rfl⟩
theorem Eb(e:h.get? a=a9 (bn X.w)):KS X ρ H h a n []:=⟨_,#[],0,_,e,⟨rfl,rfl,rfl⟩,rfl,.nil,N0,⟨.inl rfl,rfl,rfl,P5,λj L=>by simp[SetTable.fresh]at L,(by show 0*5<7*3;decide),λi h j b=>by simp at b⟩,rfl⟩
section
theorem HF(Z:z6 X.K ρ M H)(I:v4 X pins σ H s)(B:m<=8)(hu:A.units+m+3<j9){l:c8}{T:String}{n:Nat}{P:Nat->c3->Prop}{G:f8->Prop}(O:A.handled=b7)(K:TxSrc X.prog X.w s.heap l T n P)(a:Nat->D)(y:∀i v,P i v->∃vv,v9 X.K ρ H (a i) vv/\aN vv v/\dm m (a i)=b8/\eX (a i)=b8)(N:n<=63)(h:∀h' tk ds,(∀b o,s.heap.get? b=a9 o->h'.get? b=a9 o)->KS X ρ H h' s.heap.objs.size m ds->(∀x,x∈ds↔∃j,j<n/\a j=x)->ds.length<=n->G { s with heap:=h',toks:=tk }):g9 (i3 X.prog X.w) A (Builtin.«set.__init__» ⟨[.ref s.heap.objs.size,.ref l],[]⟩) (λfin s'=>fin=.done (.ret .none)/\G s') E { s with heap:=s.heap.push (bn X.w) }:=by
 have S:(s.heap.push<|bn X.w).get? s.heap.objs.size=a9 (bn X.w):=C0 _ rfl;have hT:Nd { s with heap:=s.heap.push (bn X.w) } (.ref s.heap.objs.size) "set":=⟨_,S,rfl⟩
 obtain⟨F,f,r⟩:=K.obj;have c:(s.heap.push<|bn X.w).get? l=a9 F:=A1 _ f;have L:Nd { s with heap:=s.heap.push (bn X.w) } (.ref l) T:=⟨F,c,r⟩
 have Y:l<s.heap.objs.size:=A4 f;have J:(s.heap.push<|bn X.w).objs.size=s.heap.objs.size+1:=Mo ..;obtain⟨oI,St,t,W,st⟩:=K.iter A.in1 { s with heap:=s.heap.push (bn X.w) } O λo e=>A1 _ e;have ns:=K.ns;have nf:=K.nf;have nd:=K.nd;unfold Builtin.«set.__init__» noKeywords Builtin.Frozenset.updateFrom;generalize d:j3=PI
 wp_walk
 subst d;refine wpAny_of_in1<|t _ _ ?_;have k:s.heap.objs.size∉[(s.heap.push<|bn X.w).objs.size,l]:=by rw[J];simp only[C3,PZ,or_false,not_or];exact⟨A9<|L4 _,LZ Y⟩
 have g:s.heap.get? s.heap.objs.size=b7:=by
  cases q:s.heap.get? s.heap.objs.size with
  |none=>rfl
  |some o=>exact t7 (A4 q)<|G3 _
 have C:∀b∈[(s.heap.push<|bn X.w).objs.size],s.heap.get? b=b7:=λb p=>by
  rw[F0.mp p,J];cases q:s.heap.get? (s.heap.objs.size+1) with
  |none=>rfl
  |some o=>exact t7 (A4 q)<|Np.mpr<|Oo _
 refine u7<|wpAny_runValue<|Hh (s:=s) Z I B (by first|exact(show A.units+m+2<j9 by lia)|exact(show A.units+1+m+2<j9 by lia)) W s.heap.objs.size k g C a y N n 0 _ _ [] rfl (A8 _) st (Eb<|A1 _ S) (λx=>by simp) (x5 _) (λb u e=>A1 _<|A1 _ e) λh' tk V Q z U R=>?_;exact u9<|u9 ⟨rfl,h h' tk V Q z U R⟩
set_option maxHeartbeats 1000000 in
theorem ID(C:z6 X.K ρ M H)(I:v4 X pins σ H s)(B:m<=8)(Z:A.units+m+20<j9){l:c8}{T:String}{n:Nat}{P:Nat->c3->Prop}{Q:c3->f8->Prop}(t:A.handled=b7)(K:TxSrc X.prog X.w s.heap l T n P)(a:Nat->D)(y:∀i v,P i v->∃vv,v9 X.K ρ H (a i) vv/\aN vv v/\dm m (a i)=b8/\eX (a i)=b8)(p:n<=63)(h:∀h' tk ds,(∀b o,s.heap.get? b=a9 o->h'.get? b=a9 o)->KS X ρ H h' s.heap.objs.size m ds->(∀x,x∈ds↔∃j,j<n/\a j=x)->ds.length<=n->Q (.ref s.heap.objs.size) { s with heap:=h',toks:=tk }):g9 (i3 X.prog X.w) A (call (.type "set") [.ref l]) Q E s:=by
 have O:=F.called_set.made;have W:=F.called_set.sub;have U:=F.called_set.notType;have L:=F.called_set.canCreate;have Y:=F.typeCall_set_1<|.ref l;obtain⟨c,tl,V⟩:=F.called_set.mro;refine wpAny_call<|codeAny_of_tree<|show g9 _ _ (callAny (.type "set") _) _ _ _ from u9 ⟨Code.quiet_builtin _ (by decide +kernel),Mg F.entry_type_call ?_⟩;rw[Around.under_plain (weight_type_call_type "set" [.ref l] []) rfl]
 repeat (any_goals (first|assumption|wp_step))
 refine Oq (wq (.ref l) (E:=E) (Q₁:=λobj s₁=>obj=.ref s.heap.objs.size/\s₁={ s with heap:=s.heap.push (bn X.w) }) ⟨rfl,rfl⟩) λr s₁ hr=>?_
 match r,hr with
 |.error e,hr=>exact hr
 |.ok (.ret obj),⟨e1,e2⟩ =>
  subst e1 e2;have S:(s.heap.push<|bn X.w).get? s.heap.objs.size=a9 (bn X.w):=C0 _ rfl;have k:Nd { s with heap:=s.heap.push (bn X.w) } (.ref s.heap.objs.size) "set":=⟨_,S,rfl⟩
  have N:=F.called_set.init.lookup;have J:=F.called_set.init.bind<|.ref s.heap.objs.size
  repeat (any_goals (first|assumption|wp_step))
  refine Oq (codeAny_call_builtin (R:=wants (λr s₂=>r=.none/\Q (.ref s.heap.objs.size) s₂) E) F.called_set.init.plain F.entry_set_init<|check_set_init_1 k ?_) λd s₂ hr₂=>?_;refine J2 (HF (G:=λu=>Q (.ref s.heap.objs.size) u) C I B (by first|(show A.units+1+1+1+m+3<j9;lia)|(show A.units+1+1+m+3<j9;lia)|(show A.units+1+m+3<j9;lia)) (by simp[t]) K a y p h) (λf s' ⟨e,g⟩=>?_) λ_ _ z=>z;subst e;exact⟨rfl,g⟩
  ·match d,hr₂ with
   |.error e,hr₂=>exact hr₂
   |.ok (.ret r),⟨e,q⟩ =>
    subst e
    repeat (any_goals (first|assumption|wp_step))
end
def SqAt(M:w6)(d:D)(xs:List D):Prop:=(∃n,d=.ref n/\aq M n xs)\/d=.tup xs
theorem SrtOk.sub(h:SrtOk M xs)(s:∀y∈ys,y∈xs)(l:ys.length<64):SrtOk M ys:=by refine⟨l,λx a=>h.ok x<|s x a,λx a y O=>h.cm x (s x a) y<|s y O,?_⟩;rcases h.kd with k|k|k|k|k;exact .inl λx a=>k x<|s x a;exact .inr<|.inl λx a=>k x<|s x a;exact .inr<|.inr<|.inl λx a=>k x<|s x a;exact .inr<|.inr<|.inr<|.inl λx a=>k x<|s x a;exact .inr<|.inr<|.inr<|.inr λx a=>k x<|s x a
theorem Je(I:v4 X pins σ H s)(m:z6 X.K ρ M H)(r:v9 X.K ρ H d v)(c:aN v u)(t:SqAt M d xs):∃(a:c8) (T:String) (its:Array c3) (vs:List V),u=.ref a/\TxSrc X.prog X.w s.heap a T its.size (λi v=>its[i]?=a9 v)/\Reps X.K ρ H xs vs/\az vs its.toList:=by
 rcases t with⟨n,rfl,h⟩|rfl;cases r with
 |@ref _ a e=>cases c;obtain⟨vs,hs,f⟩:=h.seq m e;obtain⟨its,b,p,_⟩:=I.list hs;exact⟨a,_,its.toArray,vs,rfl,TxSrc.list p.isList,f,by simpa using b⟩
 cases r with
 |@tup a vs _ hs f=>cases c;obtain⟨its,b,p,_⟩:=I.tuple hs;exact⟨a,_,its.toArray,vs,rfl,TxSrc.tuple p,f,by simpa using b⟩
theorem lZ{X:Cx}:∀{ds:List D}{vs:List V}{its:List c3}{i:Nat}{u:c3}{ρ:List c8}{H:Hp},Reps X.K ρ H ds vs->az vs its->its[i]?=a9 u->∃d v,ds[i]?=a9 d/\v9 X.K ρ H d v/\aN v u
 |_,_,_,i,u,_,_,.nil,h,e=>by cases h;simp at e
 |_,_,_,0,u,_,_,.cons r _,h,e=>by
  cases h with
  |cons a _=>simp at e;subst e;exact⟨_,_,rfl,r,a⟩
 |_,_,_,i+1,u,_,_,.cons _ t,h,e=>by
  cases h with
  |cons _ b=>obtain⟨d,v,e1,r,rv⟩:=lZ (i:=i) t b (by simpa using e);exact⟨d,v,by simpa using e1,r,rv⟩
theorem ents:∀{ds:List D}{es:List (Int×c3)},Paired (F8 X ρ H n) ds es->∃vs,Reps X.K ρ H ds vs/\az vs (es.map (·.2))
 |_,_,.nil=>⟨[],.nil,.nil⟩
 |_,_,.cons ⟨⟨v,r,rv⟩,_⟩ t=>by obtain⟨vs,a,b⟩:=ents t;exact⟨v::vs,.cons r a,.cons rv b⟩
theorem Az{X:Cx}(p:us'.Perm us):∀{ds:List D}{vs:List V},Reps X.K ρ H ds vs->az vs us->∃ds' vs',ds'.Perm ds/\Reps X.K ρ H ds' vs'/\az vs' us':=by
 induction p with
 |nil=>intro ds vs r h;exact⟨ds,vs,.refl _,r,h⟩
 |cons x _ o =>
  intro ds vs r h;cases h with
  |cons a b =>
   cases r with
   |cons c d=>obtain⟨ds',vs',h1,h2,e⟩:=o d b;exact⟨_,_,h1.cons _,.cons c h2,.cons a e⟩
 |swap x y l =>
  intro ds vs r h;cases h with
  |cons a b =>
   cases b with
   |cons g j =>
    cases r with
    |cons c d =>
     cases d with
     |cons k m=>exact⟨_,_,.swap _ _ _,.cons k<|.cons c m,.cons g<|.cons a j⟩
 |trans _ _ i f=>intro ds vs r h;obtain⟨ds',vs',h1,h2,e⟩:=f r h;obtain⟨C,v,g1,n,g3⟩:=i h2 e;exact⟨C,v,g1.trans h1,n,g3⟩
def jW(te:A3):A3:=λS M Q=>te S M λd a=>∃n xs,n<=8/\SqAt a d xs/\xs.length<64/\(∀x∈xs,dm n x=b8/\eX x=b8)/\SrtOk a xs/\∀ys:List D,ys.Nodup->(∀x,x∈ys↔x∈xs)->xQ a ys->Q (.ref a.length) (a++[.lst ys])
section
set_option maxHeartbeats 1000000 in
theorem yV(hr:Room k X.A)(hc:X.calm=b8)(he:DE X e te)(Y:X.mg "sorted" = b7)(Z:X.mg "set" = b7)(U:X.env.kindOf "sorted" = a9 .globalImplicit)(V:X.env.kindOf "set" = a9 .globalImplicit)(h1:i5 [e] X.env=[(b9,eval e X.env)]) (h2:i5 [NV (.Name "set" p') [e] [] pos'] X.env=[(b9,eval (NV (.Name "set" p') [e] [] pos') X.env)]):DE X (.Call (.Name "sorted" p) [.Call (.Name "set" p') [e] [] pos'] [] pos) (jW te):=by
 rintro pins s σ H R I ⟨S,M,ρ,Q,sm,sr,q,kk⟩;refine O0<|nS I U Y (by rfl) ?_;refine callWith_builtin1 ?_ (by rw[h2];rfl) rfl;rw[h2];refine QI ?_;refine O0<|nS I V Z (by rfl) ?_;refine callWith_type1 ?_ (by rw[h1];rfl) rfl;rw[h1];refine QI<|A2 (he pins s σ H _ I ⟨S,M,ρ,_,sm,sr,q,λv H' z=>z⟩) ?_;rintro u s1 ⟨v,H1,B,rv,d,M1,bs,c,g1,r1,cases⟩;refine QB ?_;obtain⟨n,xs,n8,sq,hl,hk,so,J⟩:=cases;obtain⟨a,T,its,ws,rfl,src,w,vx⟩:=Je B c r1 rv sq;have li:its.size=xs.length:=by have h1:=vx.length;have h2:=w.length;simp at h1;lia
 have un:=hr.un;refine ID c B n8 (by lia) (B.ok.hd hc) src (λi=>xs.getD i .non) (λi v e=>?_) (by lia) λh2 f ds k2 l W aD=>?_;obtain⟨d,vv,e1,r,rv⟩:=lZ w vx (by rw[J5];exact e);have G:xs.getD i .non=d:=by rw[L5,e1];rfl
 have:=hk d<|G1 e1;exact⟨vv,by rw[G];exact r,rv,by rw[G];exact this.1,by rw[G];exact this.2⟩;refine QB ?_;have E:=B.kept (t':=f) k2;obtain⟨o,es,ep,t,K⟩:=l;have aS:ds.length=es.size:=by have:=K.en.length;simpa using this
 have hz:es.size<=sizeLine:=by rw[L8];lia
 refine yk (s:={ s1 with heap:=h2,toks:=f }) (E.ok.hd hc) ⟨K.ob,K.dt,K.fits⟩ K.ex.1 (λz=>.inr K.tk.ris) K.ld hz λh3 be dr D vs k3 N O pv=>?_;have h:∀x,x∈ds↔x∈xs:=λx=>by
  rw[W x,li];constructor;rintro⟨j,L,rfl⟩;have e:xs.getD j .non=xs[j]:=by simp[Om,L]
  rw[e];exact MU L;intro hx;obtain⟨j,L,e⟩:=List.getElem_of_mem hx;exact⟨j,L,by rw[show xs.getD j .non=xs[j] by simp[Om,L]];exact e⟩
 obtain⟨bl,aj,al⟩:=ents K.en;obtain⟨ds',bk,C,ak,am⟩:=Az pv aj al;obtain⟨m,hn,_⟩:=E.loc;have P:D≠X.env.locals:=λz=>by obtain⟨oL,_,_,hL,_⟩:=hn;rw[z]at N;rw[N]at hL;cases hL
 have ag:h3.Ns X.env.locals m:=hn.at' λo e=>k3 _ _ e;refine Ak (X:=X) (pins:=pins) (σ:=σ) (s:={ s1 with heap:=h2,toks:=f,drawn:=dr }) (n:=0) hr (by show X.A.units+1<=X.A.units+4;lia) E.drew c (so.sub (ys:=ds') (λy hy=>(h y).mp<|C.mem_iff.mp hy)<|by rw[C.length_eq];lia).g ak am hn ag (λb u _ e=>k3 b u e) N P O λv H' x=>?_;refine kk v H' ?_;have:=x (λd F=>Q d F) λys hp ai=>?_;obtain⟨d,F,an,a1,a2,a3,a4⟩:=this;exact⟨d,F,an,a1,g1.trans a2,a3,a4⟩;exact J ys ((hp.trans C).nodup_iff.mpr K.nd) (λx=>((hp.trans C).mem_iff).trans<|h x) ai
theorem yM(r:Room k X.A)(i:HE X e te)(Y:X.mg "sorted" = b7)(Q:X.mg "set" = b7)(f:X.calm=b8:=by kernel_rfl)(U:X.env.kindOf "sorted" = a9 .globalImplicit:=by kernel_rfl)(V:X.env.kindOf "set" = a9 .globalImplicit:=by kernel_rfl)(h1:i5 [e] X.env=[(b9,eval e X.env)]:=by kernel_rfl) (h2:i5 [NV (.Name "set" p') [e] [] pos'] X.env=[(b9,eval (NV (.Name "set" p') [e] [] pos') X.env)]:=by kernel_rfl):HE X (.Call (.Name "sorted" p) [.Call (.Name "set" p') [e] [] pos'] [] pos) (jW te):=⟨yV r f i.ok Y Q U V h1 h2⟩
end
def gc(h:d5):Nat->D->c3->Prop
 |_,.str x,v=>∃t,v=.str x t
 |_,.int i,v=>∃t,v=.int i t
 |n+1,.tup ds,v=>∃a its,v=.ref a/\h.IsTuple a its/\Paired (gc h n) ds its.toList
 |_,_,_=>False
noncomputable def Pk:Nat->D->Nat
 |n+1,.tup ds=>(ds.map<|Pk n).sum+1
 |_,_=>1
theorem jQ:∀(n:Nat) (d:D) (v:c3),gc h n d v->dm n d=b8:=by
 intro n;induction n with
 |zero=>intro d v k;cases d<;>first|rfl|exact k.elim
 |succ n b =>
  intro d v k;cases d with
  |str x=>rfl
  |int x=>rfl
  |tup ds =>
   obtain⟨a,its,_,_,p⟩:=k;show ds.all (dm n)=b8;generalize its.toList=l at p;induction p with
   |nil=>rfl
   |cons r _ i=>rw[Mn,b _ _ r,i];rfl
  |_=>exact k.elim
theorem wc{h:d5}{a:c8}{xs ys:Array c3}(h1:h.IsTuple a xs)(h2:h.IsTuple a ys):xs=ys:=by obtain⟨o,t,_,n,d⟩:=h1;obtain⟨o',l,_,f,b⟩:=h2;obtain rfl:o=o':=D2<|t.symm.trans l;rw[d]at b;injection b
theorem nV{h:d5}:∀(n:Nat) (x y:D) (v:c3),gc h n x v->gc h n y v->x=y:=by
 intro n;induction n with
 |zero =>
  intro x y v k C;cases x with
  |str a =>
   obtain⟨t,rfl⟩:=k;cases y with
   |str b=>obtain⟨t',e⟩:=C;injection e with e;rw[e]
   |int b=>obtain⟨t',e⟩:=C;cases e
   |_=>exact C.elim
  |int a =>
   obtain⟨t,rfl⟩:=k;cases y with
   |str b=>obtain⟨t',e⟩:=C;cases e
   |int b=>obtain⟨t',e⟩:=C;injection e with e;rw[e]
   |_=>exact C.elim
  |_=>exact k.elim
 |succ n d =>
  intro x y v k C;cases x with
  |str a =>
   obtain⟨t,rfl⟩:=k;cases y with
   |str b=>obtain⟨t',e⟩:=C;injection e with e;rw[e]
   |int b=>obtain⟨t',e⟩:=C;cases e
   |tup b=>obtain⟨_,_,e,_⟩:=C;cases e
   |_=>exact C.elim
  |int a =>
   obtain⟨t,rfl⟩:=k;cases y with
   |str b=>obtain⟨t',e⟩:=C;cases e
   |int b=>obtain⟨t',e⟩:=C;injection e with e;rw[e]
   |tup b=>obtain⟨_,_,e,_⟩:=C;cases e
   |_=>exact C.elim
  |tup xs =>
   obtain⟨a,its,rfl,R,g⟩:=k;cases y with
   |str b=>obtain⟨t',e⟩:=C;cases e
   |int b=>obtain⟨t',e⟩:=C;cases e
   |tup ys =>
    obtain⟨_,i,e,S,j⟩:=C;cases e;obtain rfl:=wc R S;congr 1;generalize its.toList=l at g j;induction g generalizing ys with
    |nil=>cases j;rfl
    |cons r _ c=>cases j with
     |cons r' t'=>rw[d _ _ _ r r',c _ t']
   |_=>exact C.elim
  |_=>exact k.elim
theorem yL(k:∀a its,h.IsTuple a its->h'.IsTuple a its):∀(n:Nat) (d:D) (v:c3),gc h n d v->gc h' n d v:=by
 intro n;induction n with
 |zero=>intro d v q;cases d<;>first|exact q|exact q.elim
 |succ n i =>
  intro d v q;cases d with
  |str x=>exact q
  |int x=>exact q
  |tup ds=>obtain⟨a,its,e,t,p⟩:=q;exact⟨a,its,e,k _ _ t,Paired.mapP p λx y r=>i x y r⟩
  |_=>exact q.elim
theorem vZ{es ep}(q:gc h n k v)(g:h.get? d=a9 o)(f:o.data=.dict es ep)(hs:K5 d h h'):gc h' n k v:=by
 refine yL (λa its ⟨o',e,c,m,t⟩=>?_) n k v q;have b:a≠d:=by rintro rfl;obtain rfl:o'=o:=D2<|e.symm.trans g;rw[f]at t;cases t
 exact⟨o',(hs.2 a b).trans e,c,m,t⟩
theorem qc:∀(n:Nat) (A:f7) (s:f8) (d:D) (u:c3) (E:c3->f8->Prop) (Q:Int->f8->Prop),A.units+n<j9->gc s.heap n d u ->Q (C4 w n d) { s with toks:=s.toks+Pk n d }->g9 (i3 prog w) A (pyHash u) Q E s:=by
 intro n;induction n with
 |zero =>
  intro A s d u E Q r k h;cases d with
  |str x=>obtain⟨t,rfl⟩:=k;exact P0 h
  |int x=>obtain⟨t,rfl⟩:=k;exact P1 h
  |_=>exact k.elim
 |succ n v =>
  intro A s d u E Q r k h;cases d with
  |str x=>obtain⟨t,rfl⟩:=k;exact P0 h
  |int x=>obtain⟨t,rfl⟩:=k;exact P1 h
  |tup ds =>
   obtain⟨a,its,rfl,⟨o,m,j,R,q⟩,p⟩:=k;have T:s.TypeIs (.ref a) "tuple":=⟨o,m,j⟩
   unfold pyHash
   first|unfold pyHashByItsType|skip
   first|refine u7 (wpAny_cRoomFor_or (.inr<|by lia) ?_)|skip
   refine u7<|NG T F.slot_tuple_hash.lookup ?_;refine(show g9 (i3 prog w) _ (if (a9 (Value.builtin "tuple.__hash__")==a9 ABv)=b8 then _ else _) Q E s from ?_);rw[t6<|by rw[beq_builtin_none];exact MK];refine u7<|NG T F.slot_tuple_hash.lookup ?_;refine(show g9 (i3 prog w) _ (callSpecialIfBoundUnlessNone? (.ref a) "__hash__" _ >>= _) Q E s from u7<|RX T F.slot_tuple_hash<|J4 F.slot_tuple_hash T F.entry_tuple_hash ?_<|F.args_tuple_hash_1 _);refine(show g9 (i3 prog w) _ (QX (.ref a) >>= _) _ _ s from u7<|wpAny_tupleItemsOf m q<|u7 ?_);rw[<-OY];refine MT _ (λaH (b:Array Int) s'=>∃done left,ds=done++left/\Paired (gc s.heap n) left aH/\b.toList=done.map (C4 w n)/\s'={ s with toks:=s.toks+(done.map<|Pk n).sum }) _ ?_ ?_ _ _ ⟨[],ds,rfl,p,rfl,rfl⟩;rintro x aH b s' ⟨done,left,e,h1,f,rfl⟩;cases h1 with
   |@cons g _ c _ U J =>
    refine u7<|v _ _ g x _ _ (by show A.units+1+n<j9;lia) U ?_
    first
     |exact u9 ⟨done++[g],c,by rw[e];simp,J,by simp[f],by simp[Nat.add_assoc]⟩
     |exact u7 (u9 (u9 ⟨done++[g],c,by rw[e];simp,J,by simp[f],by simp[Nat.add_assoc]⟩))
   rintro b s' ⟨done,left,e,h1,f,rfl⟩;cases h1;rw[Mq]at e;subst e;refine(show g9 (i3 prog w) _ (retInt<|OG b.toList) _ _ _ from ?_);rw[f];refine wpAny_ret_mkInt ?_;have l:C4 w (n+1) (.tup ds)=o7 (OG<|ds.map<|C4 w n):=rfl;have h':Q (C4 w (n+1)<|.tup ds) { s with toks:=s.toks+(ds.map<|Pk n).sum+1 }:=h;generalize OG (ds.map<|C4 w n)=z at l;refine(show g9 (i3 prog w) _ (if (decide (-(2:Int) ^ 63<=z)&&decide (z<2 ^ 63))=b8 then _ else _) Q E _ from ?_);unfold o7 at l;by_cases i:(decide (-(2:Int) ^ 63<=z)&&decide (z<2 ^ 63))=b8;rw[t5 i]at l ⊢;exact u9 (by rw[<-l];exact h');rw[t6 i]at l ⊢;exact u7<|K9<|u9<|by rw[<-l];exact h'
  |_=>exact k.elim
theorem nU:∀(n k:Nat) (A:f7) (s:f8) (d:D) (u:c3) (E:c3->f8->Prop) (Q:Bool->f8->Prop),n<=k->gc s.heap n d u->Q b8 s->g9 (i3 prog w) A (s9 k u) Q E s:=by
 intro n;induction n with
 |zero =>
  intro k A s d u E Q c q h;cases d with
  |str x=>obtain⟨t,rfl⟩:=q;rw[N7 k (v:=.str x t) rfl];exact u9 h
  |int x=>obtain⟨t,rfl⟩:=q;rw[N7 k (v:=.int x t) rfl];exact u9 h
  |_=>exact q.elim
 |succ n e =>
  intro k A s d u E Q c q h;cases d with
  |str x=>obtain⟨t,rfl⟩:=q;rw[N7 k (v:=.str x t) rfl];exact u9 h
  |int x=>obtain⟨t,rfl⟩:=q;rw[N7 k (v:=.int x t) rfl];exact u9 h
  |tup ds =>
   obtain⟨a,its,rfl,⟨o,m,f,R,b⟩,p⟩:=q;obtain⟨k,rfl⟩:∃H,k=H+1:=⟨k-1,by lia⟩
   have T:s.TypeIs (.ref a) "tuple":=⟨o,m,f⟩
   unfold s9;refine u7<|NG T F.slot_tuple_eq.lookup ?_;refine(show g9 (i3 prog w) A (isInstance (.ref a) (.type "tuple") >>= _) _ _ s from u7<|N6 T isSubtype_tuple_tuple ?_);simp only[MS,C5,u3];refine u7<|N3 m b ?_;simp only[Option.getD_some];refine u7 ?_;refine(show g9 (i3 prog w) A (forIn its _ _) _ _ s from ?_);rw[<-OY];refine MT _ (λaH r s'=>r.1=b7/\s'=s/\∃left,Paired (gc s.heap n) left aH) _ ?_ ?_ _ _ ⟨rfl,rfl,ds,p⟩;rintro x aH r s' ⟨i,rfl,left,h1⟩;cases h1 with
   |cons U J=>refine u7<|e k _ _ _ x _ _ (by lia) U ?_;simp only[MS,C5,u3];exact u9 ⟨rfl,rfl,_,J⟩
   rintro⟨r1,r2⟩ s' ⟨i,rfl,_⟩;simp only at i;subst i;exact u9 h
  |_=>exact q.elim
theorem kX{h:d5}{n:Nat}{ds:List D}{its:Array c3}(p:Paired (gc h n) ds its.toList):ds.length=its.size:=by
 rw[<-F5];generalize its.toList=l at p;induction p with
 |nil=>rfl
 |cons _ _ i=>rw[D7,D7,i]
theorem Eh:∀(n:Nat) (A:f7) (s:f8) (x y:D) (u v:c3),A.units+n<j9->gc s.heap n x u->gc s.heap n y v->Mx A s u v (v8 [] n x y):=by
 intro n;induction n with
 |zero =>
  intro A s x y u v B k C;cases x with
  |str a =>
   obtain⟨t,rfl⟩:=k;cases y with
   |str b=>obtain⟨t',rfl⟩:=C;exact QG _ _ _ _
   |int b=>obtain⟨t',rfl⟩:=C;exact P7 _ _ _ _
   |_=>exact C.elim
  |int a =>
   obtain⟨t,rfl⟩:=k;cases y with
   |str b=>obtain⟨t',rfl⟩:=C;exact P8 _ _ _ _
   |int b=>obtain⟨t',rfl⟩:=C;exact QH _ _ _ _
   |_=>exact C.elim
  |_=>exact k.elim
 |succ n F =>
  intro A s x y u v B k C;have c:A.units<j9:=by lia
  have f:A.in1.units+n<j9:=by show A.units+1+n<j9;lia
  cases x with
  |str a =>
   obtain⟨t,rfl⟩:=k;cases y with
   |str b=>obtain⟨t',rfl⟩:=C;exact QG _ _ _ _
   |int b=>obtain⟨t',rfl⟩:=C;exact P7 _ _ _ _
   |tup b=>obtain⟨_,_,rfl,l,_⟩:=C;exact SeqAt.EqAt.str_tuple _ _ l c
   |_=>exact C.elim
  |int a =>
   obtain⟨t,rfl⟩:=k;cases y with
   |str b=>obtain⟨t',rfl⟩:=C;exact P8 _ _ _ _
   |int b=>obtain⟨t',rfl⟩:=C;exact QH _ _ _ _
   |tup b=>obtain⟨_,_,rfl,l,_⟩:=C;exact SeqAt.EqAt.int_tuple _ _ l c
   |_=>exact C.elim
  |tup xs =>
   obtain⟨a,its,rfl,l,p⟩:=id k;cases y with
   |str b=>obtain⟨t',rfl⟩:=C;exact SeqAt.EqAt.tuple_str _ _ l c
   |int b=>obtain⟨t',rfl⟩:=C;exact SeqAt.EqAt.tuple_int _ _ l c
   |tup ys =>
    obtain⟨b,g,rfl,N,o⟩:=id C;by_cases U:a=b;subst U;have e:=nV (n+1) _ _ _ k C;rw[e,(jd (M:=[]) (n+1) _ _ (jQ _ _ _ C)<|jQ _ _ _ C).mpr rfl];exact Qq _;have S:=kX p;have E:=kX o;have d:∀(j:Nat) (h1:j<its.size) (h2:j<g.size),Mx A.in1 s its[j] g[j] (v8 [] n (xs.getD j .non)<|ys.getD j .non):=λj h1 h2=>by
     obtain⟨q,w,G⟩:=cU p (i:=j) (y:=its[j]) (by rw[J5];exact J1 h1);obtain⟨r,z,H⟩:=cU o (i:=j) (y:=g[j]) (by rw[J5];exact J1 h2);have I:xs.getD j .non=q:=by rw[L5,w];rfl
     have J:ys.getD j .non=r:=by rw[L5,z];rfl
     rw[I,J];exact F A.in1 s q r _ _ f G H
    have m:((C9<|min its.size g.size).all (λj=>v8 [] n (xs.getD j .non)<|ys.getD j .non)&&its.size==g.size)=E9 (v8 [] n) xs ys:=by
     by_cases h:xs.length=ys.length;have Z:(C9 xs.length).all (λj=>v8 [] n (xs.getD j .non)<|ys.getD j .non)=E9 (v8 [] n) xs ys:=nX h λj x y h1 h2=>by simp[Om,h1,h2]
     rw[<-S,<-E,<-h,Nat.min_self,Z];simp;rw[BN h,<-S,<-E];simp[h]
    have h1:=SeqAt.RcAt.tuples l N c d;rw[m]at h1;exact SeqAt.EqAt.of_refs U h1
   |_=>exact C.elim
  |_=>exact k.elim
noncomputable instance decD:DecidableEq D:=λa b=>K6<|a=b
noncomputable def cu(prog:c7)(w:c6):HeapKind prog w D where
 is:=λh d a=>gc h 8 d<|.ref a
 hash:=C4 w 8
 draws:=Pk 8
 room:=λA=>A.units+8<j9
 inj:=λx y=>nV 8 _ _ _ x y
 keeps:=λx m c hs=>vZ x m c hs
 pyHash:=λg k h=>qc 8 _ _ _ _ _ _ g k h
 eqBool:=λ{A E s x y a b Q} g k1 k2 h=>by
  refine Eh 8 A s x y _ _ g k1 k2 _ _ _ _ ?_;have e:v8 [] 8 x y=decide (x=y):=by rw[Qs,jd 8 x y (jQ _ _ _ k1)<|jQ _ _ _ k2,t8]
  rw[e];exact h
 quiet:=λk h=>nU 8 8 _ _ _ _ _ _ (x5 _) k h
noncomputable def bb(kvs:List (D×D))(k:D):Option D:=(kvs.find? λp=>decide<|p.1=k).map (·.2)
noncomputable def fZ(kvs:List (D×D))(k d:D):List (D×D):=if (bb kvs k).isSome then kvs.map (λp=>if p.1=k then(p.1,d)else p)else kvs++[(k,d)]
section
variable{K:w9}{ρ:List c8}{H:Hp}{M:w6}{kvs:List (D×D)}{xs:List (D×c8×c3)}
theorem xz(r:Paired (zf K ρ H) kvs xs)(k:D):(bb kvs k=b7/\atKey xs k=b7)\/∃d p v,bb kvs k=a9 d/\atKey xs k=a9 p/\v9 K ρ H d v/\aN v p.2:=by
 unfold bb atKey;induction r with
 |nil=>exact .inl ⟨rfl,rfl⟩
 |@cons p q ps qs h t i=>obtain⟨h1,_,_,v,a,b⟩:=h;rw[L9,L9];by_cases e:p.1=k;rw[dT_ e,dT_<|h1.symm.trans e];exact .inr ⟨_,_,v,rfl,rfl,a,b⟩;rw[dF_ e,dF_<|λz=>e<|h1.trans z];exact i
theorem FD(r:Paired (zf K ρ H) kvs xs)(n:dm 8 k=b8)(o:v9 K ρ H k (.ref b))(f:v9 K ρ H d v)(g:aN v u):Paired (zf K ρ H) (fZ kvs k d) (storedH xs k b u):=by
 unfold fZ storedH;have s:(bb kvs k).isSome=(atKey xs k).isSome:=by rcases xz r k with⟨a,l⟩|⟨_,_,_,a,l,_⟩<;>rw[a,l]<;>rfl
 rw[s];by_cases q:(atKey xs k).isSome=b8;rw[t5 q,t5 q];clear s q;induction r with
 |nil=>exact .nil
 |@cons p q ps qs h t i=>rw[D5,D5];refine .cons ?_ i;obtain⟨h1,h2,c,w,j,m⟩:=h;by_cases e:p.1=k;rw[t5 e,putAt,t5<|h1.symm.trans e];exact⟨h1,h2,c,v,f,g⟩;rw[t6 e,putAt,t6<|λz=>e<|h1.trans z];exact⟨h1,h2,c,w,j,m⟩
 rw[t6 q,t6 q];clear s q;induction r with
 |nil=>exact .cons ⟨rfl,n,o,v,f,g⟩ .nil
 |cons h t i=>exact .cons h i
theorem fy(r:Paired (zf K ρ H) kvs xs):xs.map (·.1)=kvs.map (·.1):=by
 induction r with
 |nil=>rfl
 |cons h t i=>rw[D5,D5,i,h.1]
theorem dj:(fZ kvs k d).length<=kvs.length+1:=by unfold fZ;split;rw[w4];lia;rw[B6];exact x5 _
theorem C7.writtenX{a p:c8}{xs:List V}{φ:c7->c6->d5->Prop}{o:HO}(hp:H p=a9 (.ext φ))(h:C7 K H a xs):C7 K (A6 H p o) a xs:=by
 rcases h with h|h;rcases h with h|⟨b,h⟩
 exact .inl (.inl<|by rw[ax<|yz h hp<|by intro z;cases z];exact h);exact .inl<|.inr ⟨b,by rw[ax<|yz h hp<|by intro z;cases z];exact h⟩;exact .inr h
theorem z6.writeT(S:z6 K ρ M H)(t:ρ[n]?=a9 a)(u:M[n]?=a9 (.dkt kvs))(s:H a=a9 (.ext<|dX a xs))(w:kvs'.length<=sizeLine)(hs:(a==d6)=b9)(x:(kvs'.map (·.1)).Nodup)(r:Paired (zf K ρ H) kvs' xs'):z6 K ρ (M.set n<|.dkt kvs') (A6 H a<|.ext<|dX a xs')/\Grow K ρ H ρ (A6 H a<|.ext<|dX a xs'):=by
 have g:Grow K ρ H ρ (A6 H a<|.ext<|dX a xs'):=⟨Mz,λ_ _ h=>C7.writtenX s h⟩
 have k:∀m,m≠n->(M.set n<|.dkt kvs')[m]?=M[m]?:=λm e=>MY<|D4 e;have c:¬Mj M[n]?:=λ⟨_,z⟩=>by rw[u]at z;cases z
 refine⟨⟨λm l b i d f=>?_,by rw[N5];exact S.len,λm b o d f=>?_⟩,g⟩;have q:=S.nd m l b i d f;by_cases h1:m=n;subst h1;rw[k l<|D4 i];exact .inr<|q.resolve_left c;rw[k m h1];by_cases h2:l=n;subst h2;exact .inl<|q.resolve_right c;rw[k l h2];exact q;by_cases e:m=n;subst e;have j:b=a:=D2<|d.symm.trans t;subst j;rw[Nk<|by rw[<-S.len];exact(C2.mp t).1]at f;cases f;refine⟨w,hs,x,xs',aW,Paired.mapP r ?_⟩;rintro _ _ ⟨y,A,B,v,J,C⟩;exact⟨y,A,B.grow g,v,J.grow g,C⟩;rw[k m e]at f;by_cases j:b=a;subst j;have p:=(S.nd m n b e d t).resolve_right c;rw[f]at p;exact(S.obj m b o d f).grow g<|.inr p;exact(S.obj m b o d f).grow g<|.inl<|ax j
end
theorem gu(I:v4 X pins σ H s):∀(n:Nat) (d:D) (v:V) (u:c3),v9 X.K ρ H d v->aN v u->dm n d=b8->gc s.heap n d u:=by
 intro n;induction n with
 |zero =>
  intro d v u r b k;cases r with
  |str x=>exact b
  |int x=>exact b
  |_=>cases k
 |succ n e =>
  intro d v u r b k;cases r with
  |str x=>exact b
  |int x=>exact b
  |@tup a vs ds q f =>
   cases b;obtain⟨its,j,p,z⟩:=I.tuple q;have h:∀x∈ds,dm n x=b8:=G7.mp<|show ds.all (dm n)=b8 from k;refine⟨a,its.toArray,rfl,p,?_⟩;rw[List.toList_toArray];clear p q k z;induction j generalizing ds with
   |nil=>cases f;exact .nil
   |cons g l i =>
    cases f with
    |cons h1 R=>exact .cons (e _ _ _ h1 g<|h _ F4)<|i R λx c=>h x<|C6 _ c
  |_=>cases k
theorem jU{X:Cx}{pins:List (c8×c9)}{σ:St}{H:Hp}{s:f8}{ρ:List c8}{M:w6}(I:v4 X pins σ H s)(m:z6 X.K ρ M H){n:Nat}{a:c8}{kvs:List (D×D)}(e:ρ[n]?=a9 a)(u:M[n]?=a9 (.dkt kvs)):∃xs,H a=a9 (.ext<|dX a xs)/\Paired (zf X.K ρ H) kvs xs/\s.heap.DictOfH (cu X.prog X.w) a xs/\(a==d6)=b9/\kvs.length<=sizeLine/\xs.length=kvs.length/\(kvs.map (·.1)).Nodup:=by
 obtain⟨h1,h2,h,xs,b,r⟩:=m.obj _ _ _ e u;obtain⟨⟨o,es,t,l,Q,c⟩,_⟩:=(show cA X.prog X.w H s.heap a (.ext<|dX a xs)from I.hok a _ b)
 have k:=fy r;refine⟨xs,b,r,⟨o,es,_,t,l,Q,c,λx d=>?_,by rw[k];exact h⟩,h2,h1,?_,h⟩;obtain⟨i,hi⟩:=MB d;obtain⟨p,_,q,j,f,_⟩:=cU r hi;rw[<-q];exact gu I 8 _ _ _ f rfl j;have:=u5 LY k
 rwa [w4,w4]at this
theorem rC(d:dX a xs P w h'):cA P w H' h' a (.ext<|dX a xs):=by obtain⟨o,es,t,l,Q,I⟩:=d;refine⟨⟨o,es,t,l,Q,I⟩,⟨o,t⟩,?_⟩;rintro h1 h2 ⟨o,es,t,l,Q,I⟩ k;exact⟨o,es,k _ t,l,Q,I⟩
theorem FM(I:v4 X pins σ H s)(h:H a=a9 (.ext<|dX a xs)):dX a xs X.prog X.w s.heap:=(show cA X.prog X.w H s.heap a (.ext<|dX a xs)from I.hok a _ h).1
theorem setE(x:(cu prog w).room A.in1)(t:(cu prog w).is s.heap k b)(u:s.heap.DictOfH (cu prog w) d xs) (y:dX d xs prog w s.heap) (hz:xs.length<=sizeLine)(n:∀h',dX d (storedH xs k b v) prog w h'->K5 d s.heap h'->Q () { s with heap:=h',toks:=s.toks+(cu prog w).draws k }):g9 (i3 prog w) A (setItem (.ref d) (.ref b) v) Q E s:=by
 have T:=u.typeIs;obtain⟨_,_,_,_,_,_,_,g,f⟩:=u;obtain⟨o,es,m,r,h,c⟩:=y;have i:es.toList=xs.map (d7<|cu prog w):=c;unfold setItem
 try with_reducible refine F3 ?_
 refine u7<|wpAny_sequenceKey T (by decide)<|u7<|MM (name:=v6 "__setitem__") T slot_dict_setitem<|J4 slot_dict_setitem T entry_dict_setitem ?_<|args_dict_setitem _ _ _;refine(show g9 (i3 prog w) _ (Builtin.Dict.notOrdered "__setitem__" ⟨[.ref d,.ref b,v],[]⟩ >>= _) _ _ s from u7<|N9 T ?_);refine(show g9 (i3 prog w) _ (dictSet d (.ref b) v >>= _) _ _ s from u7 ?_);unfold dictSet
 try with_reducible refine F3 ?_
 refine u7<|(cu prog w).pyHash x t ?_;unfold dictSetHashed
 try with_reducible refine F3 ?_
 have B:es.size=xs.length:=size_of_entries i;refine u7<|wpAny_dictFind_heap (s:={ s with toks:=s.toks+(cu prog w).draws k }) x t m h i g f (λa=>?_) λj p L=>?_;refine u7<|K9<|wpAny_updateDictKeys (hz:=by lia) (s:={ s with toks:=s.toks+(cu prog w).draws k }) m h<|u9 ⟨.none,rfl,u9<|n _ ⟨_,es.push ⟨(cu prog w).hash k,.ref b,v⟩,LQ _ m<|P9<|O1 h _,r.mapDictKeys _,?_,?_⟩<|Mh ..⟩;rw[O1 h,storedH_new<|Qz a,B6];rfl;rw[storedH_new<|Qz a];rw[OV,i,J3];rfl;refine u7<|K9<|u7<|wpAny_updateDict (s:={ s with toks:=s.toks+(cu prog w).draws k }) m h<|wpAny_point<|u9 ⟨.none,rfl,u9<|n _ ⟨_,es.modify j λe=>{ e with val:=v },LQ _ m<|P9<|Qw h _,r.mapDict _,?_,?_⟩<|Mh ..⟩;rw[Qw h,storedH_old<|atKey_of_get f L,w4];rw[storedH_old<|atKey_of_get f L];have q:=modify_map_putAt (d7<|cu prog w) (λe:o6=>{ e with val:=v }) k v (λ_ _=>rfl) f L;rw[<-i]at q;obtain⟨l⟩:=es;have z:(Array.modify ⟨l⟩ j λe:o6=>{ e with val:=v }).toList=(xs.map<|putAt k v).map (d7<|cu prog w):=by simpa using q
 exact z
section
variable{X:Cx}{o i value:h7}{td ty tv:A3}{pos pos':Pos}{k:Nat}
def rJ:A3:=λ_ M Q=>Q (.ref M.length)<|M++[.dkt []]
theorem Lv:DE X (.Dict [] [] pos) rJ:=by rintro p s σ H R I ⟨S,M,ρ,Q,m,b,q,C⟩;have f:H s.heap.objs.size=b7:=I.hok.fresh<|x5 _;have d:(s.heap.objs.size==d6)=b9:=beq_eq_false_iff_ne.mpr<|D4<|A9 I.big;refine wpAny_Dict_empty ⟨.ref s.heap.objs.size,_,I.laid (a:=s.heap.objs.size) (o:=.ext<|dX s.heap.objs.size []) (t':=s.toks) (λ_ _ q=>A1 _ q) (x5 _)<|rC ⟨_,#[],C0 _ rfl,⟨rfl,rfl,rfl⟩,rfl,rfl⟩,rfl,?_⟩;exact C _ _ ⟨.ref M.length,M++[.dkt []],ρ++[s.heap.objs.size],m.laidM (mo:=.dkt []) f ⟨A8 _,d,N0,[],aW,.nil⟩,Grow.laidR f,.ref m.last,(show Q (.ref M.length) (M++[.dkt []])from q)⟩
def ji(t b:A3):A3:=λS M Q=>t S M λx a=>b S a λy M2=>match x,y with
 |.ref n,.tup ks=>∃kvs d,M2[n]?=a9 (.dkt kvs)/\dm 8 (.tup ks)=b8/\bb kvs (.tup ks)=a9 d/\Q d M2
 |_,_=>False
theorem Lw(U:Room k X.A)(T:DE X o td)(hi:DE X i ty)(hs:IN i):DE X (.Subscript o i pos) (ji td ty):=by
 rintro c s σ H R I ⟨S,M,ρ,Q,sm,G,q,Y⟩;have un:=U.un;refine Ad PySem.F.slot_dict_getitem.lookup hs<|A2 (T c s σ H _ I ⟨S,M,ρ,_,sm,G,q,λv H' z=>z⟩) ?_;rintro u s1 ⟨v,J,L,rv,x,N,l,h,g1,r1,Z⟩;refine A2 (hi c s1 σ J _ L ⟨S,N,l,_,h,G.grow g1,Z,λv H' z=>z⟩) ?_;rintro iv s2 ⟨w,K,f,g,y,M2,m,e,C,r2,j⟩;cases x with
 |ref n =>
  cases y with
  |tup E =>
   obtain⟨kvs,d,O,W,D,q3⟩:=j;obtain⟨a,rfl,P⟩:=v9.inv_ref r1;obtain rfl:u=AAu a:=rv;obtain⟨xs,hH,r,B,V,hl,hx,_⟩:=jU f e (ar C.pre P) O;have t:=gu f 8 _ _ _ r2 g W;rcases xz r (.tup E)with⟨z,_⟩|⟨d',p,v',e1,e2,e3,e4⟩
   rw[D]at z;cases z;rw[D]at e1;cases e1;obtain⟨b,_,rfl,_⟩:=id t;refine⟨B.typeIs,wpAny_getItem_heap (knd:=cu X.prog X.w) (k:=.tup E) (by show X.A.units+1+8<j9;lia) t B e2 ⟨v',K,f.tok _,e4,Y _ _ ⟨d,M2,m,e,g1.trans C,e3,q3⟩⟩⟩
  |_=>exact j.elim
 |_=>exact j.elim
def oj(d c t:A3):v5:=λE S M=>t S M λv b=>d S b λx M2=>c S M2 λy a=>match x,y with
 |.ref n,.tup ks=>∃kvs,a[n]?=a9 (.dkt kvs)/\dm 8 (.tup ks)=b8/\kvs.length<sizeLine/\E.nx S (a.set n<|.dkt<|fZ kvs (.tup ks) v)
 |_,_=>False
theorem nj(h:(kvs.map (·.1)).Nodup):((fZ kvs y v).map (·.1)).Nodup:=by
 unfold fZ;split;rw[E2];have:((λx:D×D=>x.1) ∘ λp:D×D=>if p.1=y then(p.1,v)else p)=λx=>x.1:=by funext p;show (if p.1=y then(p.1,v)else p).1=p.1;split<;>rfl
 rw[this];exact h;rename_i q;rw[J3,List.map_singleton,OU];refine⟨h,by simp,λa f b d=>?_⟩;rw[F0.mp d];rintro rfl;obtain⟨p,hp,e⟩:=A0.mp f;refine q ?_;unfold bb;rw[Option.isSome_map,List.find?_isSome];exact⟨p,hp,by simpa using e⟩
theorem Ii(hr:Room k X.A)(ho:DE X o td)(hi:DE X i ty)(hv:DE X value tv)(hs:i8 value (a9<|.Subscript o i pos') pos.line X.env=pure b9):DS X (.Assign [.Subscript o i pos'] value pos) (oj td ty tv):=by
 rintro p s σ H E I ⟨S,M,ρ,F,sm,j,q,kk⟩;have un:=hr.un;refine wpAny_Assign_Subscript (A2 (hv p s σ H _ I ⟨S,M,ρ,_,sm,j,q,λv H' z=>z⟩) λr s1 ⟨v,T,W,rv,dv,Z,G,C,g1,r1,q1⟩=>A2 (ho p s1 σ T _ W ⟨S,Z,G,_,C,j.grow g1,q1,λv H' z=>z⟩) λu s2 ⟨vx,U,Y,rx,x,M2,J,D,g,r2,q2⟩=>A2 (hi p s2 σ U _ Y ⟨S,M2,J,_,D,(j.grow g1).grow g,q2,λv H' z=>z⟩) ?_) hs;rintro iv s3 ⟨vy,H3,f,Q,y,M3,K,e,g3,P,B⟩;cases x with
 |ref n =>
  cases y with
  |tup O =>
   obtain⟨kvs,L,N,hl,q4⟩:=B;obtain⟨a,rfl,hn⟩:=v9.inv_ref r2;obtain rfl:u=AAu a:=rx;have h:=ar g3.pre hn;obtain⟨xs,l,r,dd,V,_,hx,nd⟩:=jU f e h L;have t:=gu f 8 _ _ _ P Q N;obtain⟨b,_,rfl,_⟩:=id t;obtain⟨_,_,rfl,m,rr⟩:=v9.inv_tup P;cases Q;have r':=FD r N (.tup m rr) ((r1.grow g).grow g3) rv;have pl:=dj (kvs:=kvs) (k:=.tup O) (d:=dv);obtain⟨w1,R⟩:=e.writeT h L l (by have:=pl;lia) V (nj nd) r';refine setE (k:=.tup O) (by show X.A.units+1+8<j9;lia) t dd (FM f l) (by lia) λh' c w=>?_;have he:∃q,h'.get? a=a9 q:=let ⟨q,_,m,_⟩:=c;⟨q,m⟩
   exact⟨σ,_,wk f (by rw[l];exact True.intro) w he<|rC c,kk.nx σ _<|SQ.trans ((g1.trans g).trans g3) ⟨S,_,K,w1,R,(((j.grow g1).grow g).grow g3).grow R,q4⟩⟩
  |_=>exact B.elim
 |_=>exact B.elim
def Pl(r:Nat->D6)(e:A3)(t:I9):A3:=λS M Q=>e S M λx a=>match x with
 |.ref n=>(∃kvs,a[n]?=a9 (.dkt kvs))/\t S a λds M2=>r n ds M2 Q
 |_=>False
variable{name:c5}{id:String}{e:h7}{es:List h7}{to:A3}{t:I9}{apos cpos:Pos}
theorem d_mt{r:Nat->D6}(slot:Slot "dict" name id)(y:m9 (.builtin id)=pure (.type "method_descriptor"))(T:K3 X id (kw X.K r))(U:DE X o to)(P:DA X (e::es) t)(c:n5 o name X.env (eval o X.env)=eval o X.env:=by rfl)(f:((i4 cpos<|i5 (e::es) X.env).all (λx=>!x.1)&&(n9 cpos<|o0 [] X.env).all (λx=>x.1.isSome) && decide ((e::es).length+([]:List o4).length+(if ([]:List o4).isEmpty then 0 else 1)<30))=b8:=by rfl)(d:(apos.endLine==cpos.line)=b8:=by rfl) (hs:i5 (e::es) X.env=(b9,eval e X.env)::i5 es X.env:=by rfl) (h:(i4 cpos<|i5 es X.env).any (·.1)=b9:=by rfl):DE X (.Call (.Attribute o name apos) (e::es) [] cpos) (Pl r to t):=by
 rintro p s σ H R I ⟨S,M,ρ,Q,sm,G,q,W⟩;refine QO c f d rfl<|A2 (U p s σ H _ I ⟨S,M,ρ,_,sm,G,q,λv H' z=>z⟩) ?_;rintro u s1 ⟨v,J,B,rv,x,i,m,j,g1,r1,g⟩;cases r1 with
 |@ref n a F =>
  cases rv;obtain⟨⟨kvs,O⟩,g⟩:=(show (∃kvs,i[n]?=a9 (.dkt kvs))/\t S i _ from g)
  obtain⟨xs,hH,r,C,V,hl,hx,nd⟩:=jU B j F O;refine⟨"dict",id,O8,slot,y,C.typeIs,λb z=>?_,?_⟩;cases z;obtain⟨Y,_,_,h1,h2,_⟩:=C;exact⟨Y,h1,h2.2.1⟩;have E:=P cpos p s1 σ J _ B ⟨S,i,m,_,j,G.grow g1,g,λvs H' z=>z⟩;rw[hs]at E ⊢;refine Oa (by show (b9||(i4 cpos<|i5 es X.env).any (·.1))=b9;rw[h]<;>rfl)<|QL ?_;refine A2 E ?_;rintro us s2 ⟨vs,L,N,k,ds,M2,A,l,D,rr,Z⟩;exact T p s2 σ L (.ref a) vs (.ref a) us R N rfl k ⟨n,a,ds,M2,A,Q,rfl,ar D.pre F,l,rr,Z,λv H' w=>W v H'<|VQ.trans (g1.trans D) w⟩
 |_=>exact g.elim
def pR(n:Nat):D6:=λds M Q=>match ds with
 | [.tup ks,d]=>∃kvs,M[n]?=a9 (.dkt kvs)/\dm 8 (.tup ks)=b8/\Q ((bb kvs<|.tup ks).getD d) M
 |_=>False
theorem DB(o:Room k X.A):K3 X "dict.get" (kw X.K pR):=by
 rintro g s σ H x xs v us R I F E ⟨n,a,ds,M,ρ,Q,i,j,m,f,q,C⟩;have S:=o.un;unfold pR at q;split at q;rename_i e d;obtain⟨kvs,u,y,q⟩:=q
 first|have z:=Reps.inv_cons f|have z:=az.inv_cons f
 clear f;obtain⟨_,_,rfl,B,f⟩:=z
 first|have z:=Reps.inv_cons f|have z:=az.inv_cons f
 clear f;obtain⟨_,_,rfl,D,f⟩:=z;cases f;obtain⟨P,G,rfl,h,l⟩:=az.two E;subst i;cases F;obtain⟨ys,J,r,c,V,L,N,O⟩:=jU I m j u;have t:=gu I 8 _ _ _ B h y;obtain⟨b,_,rfl,_⟩:=id t;refine Op O4 c.typeIs Rs (Rx _ _ _) (meetsH_dict_get_default (cu X.prog X.w) a b V G) ⟨by show X.A.units+1+8<j9;lia,.tup e,ys,t,c,?_⟩;rcases xz r (.tup e)with⟨z1,z2⟩|⟨d',p,v',z1,z2,z3,z4⟩
 rw[z2];rw[z1]at q;exact⟨_,H,I.tok _,l,C _ _ ⟨d,M,ρ,m,.refl,D,q⟩⟩;rw[z2];rw[z1]at q;exact⟨_,H,I.tok _,z4,C _ _ ⟨d',M,ρ,m,.refl,z3,q⟩⟩;exact q.elim
end
def cN(h:d5)(d:c8)(es:Array o6)(ep:Nat):Prop:=∃o,h.get? d=a9 o/\o.ExactDict/\o.data=.dict es ep
theorem cN.ty{s:f8}{d:c8}{es:Array o6}{ep:Nat}(x:cN s.heap d es ep):s.TypeIs (.ref d) "dict":=by obtain⟨o,h1,h2,_⟩:=x;exact⟨o,h1,h2.1⟩
theorem cN.lt(x:cN h d es ep):d<h.objs.size:=by obtain⟨o,h1,_⟩:=x;exact A4 h1
theorem cN.to(x:cN h d es ep)(k:∀o,h.get? d=a9 o->h'.get? d=a9 o):cN h' d es ep:=by obtain⟨o,h1,h2⟩:=x;exact⟨o,k o h1,h2⟩
theorem EJ{Q:c3->f8->Prop}(h:(d==d6)=b9)(m:cN s.heap d es ep)(b:Q (.ref s.heap.objs.size) { s with heap:=s.heap.push { cls:=.type "dict_keyiterator",data:=.fields #[.ref d,.int 0 0,.int es.size 0,.int ep 0] } }):g9 (i3 prog w) A (j3<|.ref d) Q E s:=by have T:=m.ty;obtain⟨o,h1,h2,a⟩:=m;refine P4 T F.slot_dict_iter<|J4 F.slot_dict_iter T F.entry_dict_iter ?_<|F.args_dict_iter_1 _;unfold Builtin.«dict.__iter__»;refine u7 ?_;unfold Builtin.Dict.dictSlotNone;refine u7<|N9 T<|u9 ?_;refine(show g9 (i3 prog w) _ (O3 d >>= _) _ _ s from ?_);unfold O3;rw[h];refine u7<|u9<|u7<|MW h1 a<|u7<|Mp h1 a ?_;exact u7<|J0<|u9 ⟨_,rfl,"dict_keyiterator",_,⟨_,C0 _ rfl,rfl⟩,F.slot_dict_keyiterator_next.lookup,by simpa [j4]using b⟩
theorem EI(t:s.heap.IsKeyIter it d i es.size ep)(c:cN s.heap d es ep)(hi:i<es.size)(b:∀h',h'.IsKeyIter it d (i+1) es.size ep->K5 it s.heap h'->Q (a9 es[i].key) { s with heap:=h' }):g9 (i3 prog w) A (j1<|.ref it) Q E s:=by
 obtain⟨o,m,f,a⟩:=id t;obtain⟨j,D,C,k⟩:=id c;unfold j1;refine u7<|Nu<|MM (name:=v6 "__next__") t.typeIs F.slot_dict_keyiterator_next<|J4 F.slot_dict_keyiterator_next t.typeIs F.entry_dict_keyiterator_next ?_<|F.args_dict_keyiterator_next_1 _;refine u7<|u9<|u7<|u7 ?_
 first|refine u7 (Q0 t.typeIs<|u9<|u7<|Mf m a ?_)|refine u7<|QS t.typeIs<|u9<|u7<|Mf m a ?_
 simp only[show Oe "dict_keyiterator" = b9 by decide,C5,u3];refine(show g9 (i3 prog w) _ (if (AAu d==ABv)=b8 then _ else _) _ _ s from ?_);rw[t6<|by exact MK];refine u7<|u9<|u7<|MW D k ?_;rw[t6<|by simp];refine u7<|u9<|u7<|Mp D k ?_;rw[t6<|by simp];refine u9 ?_;simp only[show ¬((i:Int)<0)from by lia,u3,LP,J1 hi];refine u7 ?_
 first|refine u7 (Q0 t.typeIs<|u9 ?_)|refine u7<|QS t.typeIs<|u9 ?_
 refine u7<|wpAny_isOneOf_keyiter t.typeIs ?_;refine(show g9 (i3 prog w) _ (setField (.ref it) 1 (j4<|(i:Int)+1) >>= _) _ _ s from u7<|Ng m a (by simp) ?_);have h:(s.heap.update it (Os (·.setIfInBounds 1 (j4<|(i:Int)+1)))).IsKeyIter it d (i+1) es.size ep:=by refine⟨_,LQ _ m<|Obj.isFreed_of_fields<|QE a _,(Obj.cls_mapFields ..).trans f,?_⟩;rw[QE a];simp[j4]
 refine u7 (F3 (u7 (wpAny_isOneOf_keyiter (s:={ s with heap:=s.heap.update it (Os (·.setIfInBounds 1 (j4<|(i:Int)+1))) }) h.typeIs ?_)));refine(show g9 (i3 prog w) _ (pure es[i].key) _ _ _ from ?_);exact u9<|u9 ⟨_,rfl,u9<|b _ h<|Mh ..⟩
theorem Ib(f:A.handled=b7)(t:s.heap.IsKeyIter it d es.size es.size ep)(g:cN s.heap d es ep)(e:∀h',Heap.ExtBut it s.heap h'->Q b7 { s with heap:=h' }):g9 (i3 prog w) A (j1<|.ref it) Q E s:=by
 obtain⟨o,c,i,h⟩:=id t;obtain⟨j,D,C,k⟩:=id g;unfold j1;refine u7<|Nu<|MM (name:=v6 "__next__") t.typeIs F.slot_dict_keyiterator_next<|J4 F.slot_dict_keyiterator_next t.typeIs F.entry_dict_keyiterator_next ?_<|F.args_dict_keyiterator_next_1 _;refine u7<|u9<|u7<|u7 ?_
 first|refine u7 (Q0 t.typeIs<|u9<|u7<|Mf c h ?_)|refine u7<|QS t.typeIs<|u9<|u7<|Mf c h ?_
 simp only[show Oe "dict_keyiterator" = b9 by decide,C5,u3];refine(show g9 (i3 prog w) _ (if (AAu d==ABv)=b8 then _ else _) _ _ s from ?_);rw[t6<|by exact MK];refine u7<|u9<|u7<|MW D k ?_;rw[t6<|by simp];refine u7<|u9<|u7<|Mp D k ?_;rw[t6<|by simp];refine u9 ?_;simp only[show ¬((es.size:Int)<0)from by lia,u3,LP,O5<|x5 es.size];refine u7 ?_
 first|refine u7 (Q0 t.typeIs<|u9 ?_)|refine u7<|QS t.typeIs<|u9 ?_
 refine(show g9 (i3 prog w) _ (setField (.ref it) 0 .none >>= _) _ _ s from u7<|Ng c h (by simp) ?_);refine(show g9 (i3 prog w) _ (newExc (.type "StopIteration") [] >>= _) _ _ _ from u7 ?_);simp only[newExc,newTuple];refine u7 (J0 ?_<|by size_fits);refine u7 (m:=r9 _ _)<|wpAny_of_eq (a:=ABv) (by first|rfl|(simp only[r9];rfl)) ?_;refine J0 ?_ (by size_fits);simp only[raiseNew];refine u7<|wpAny_handled ?_;rw[show A.in1.handled=b7 from f];refine u7<|u9<|wpAny_throw ?_;refine u7<|N6 (b:=b8) (T:="StopIteration") ⟨_,C0 _ rfl,rfl⟩ PL ?_;exact u9<|e _<|((Mh ..).extBut.push _).push _
noncomputable def Ite(a:c8)(n:Nat):It:=⟨λi H=>∃xs,H a=a9 (.ext<|dX a xs)/\xs.length=n/\i<n,λi H v H'=>H'=H/\∀xs,H a=a9 (.ext<|dX a xs)->∃x,xs[i]?=a9 x/\v=.ref x.2.1,λi H=>(∃xs,H a=a9 (.ext<|dX a xs)/\xs.length=n)/\i=n⟩
theorem eY(I:v4 X pins σ H s)(b:H a=a9 (.ext<|dX a xs)):∃es,cN s.heap a es xs.length/\es.size=xs.length/\∀(i:Nat) x,xs[i]?=a9 x->∃e,es[i]?=a9 e/\e.key=.ref x.2.1/\e.val=x.2.2:=by
 obtain⟨o,es,h1,h2,h,d⟩:=FM I b;refine⟨es,⟨o,h1,h2,h⟩,?_,λi x c=>?_⟩;have:=u5 LY d
 rwa [F5,w4]at this
 refine⟨⟨C4 X.w 8 x.1,.ref x.2.1,x.2.2⟩,?_,rfl,rfl⟩;rw[<-J5,d,D8,c];rfl
theorem rF(x:cN h a es ep)(y:cN h a es' ep'):es=es'/\ep=ep':=by obtain⟨o,h1,_,d⟩:=x;obtain⟨o',c,_,b⟩:=y;obtain rfl:o=o':=D2<|h1.symm.trans c;rw[d]at b;injection b with e1 e2;exact⟨e1,e2⟩
theorem CH{P:c7}{w:c6}{K:w9}{tg:h7}(a it:c8)(n:Nat):Turn P w K tg (Ite a n) [it] it (λi h=>h.IsKeyIter it a i n n) where
 mem:=by simp
 obj:=λi h st b f=>by
  obtain rfl:b=it:=by simpa using f
  obtain⟨o,e,c,d⟩:=st;exact⟨o,e,λv z=>by rw[d]at z;cases z⟩
 keep:=λi h h' st k=>st.at λo e=>k it (by simp) o e
 item:=by
  intro X G L F T i p s σ H E I m st R;subst G L F;obtain⟨xs,D,rfl,hi⟩:=R;obtain⟨es,J,l,S⟩:=eY I D;obtain⟨e,M,N,e3⟩:=S i xs[i]<|A5 hi;obtain⟨t,u,f2,x,B,C⟩:=m it (by simp);have g:i<es.size:=by lia
  have O:es[i]=e:=by rw[J1 g]at M;exact D2 M
  rw[<-l]at J st;refine EI st J g λh' j sb=>?_;rw[O,N];have W:v4 X p σ H { s with heap:=h' }:=I.turned (t':=s.toks) (λb o f e=>(sb.2 b f).trans e) t u x B C;obtain⟨o,q1,q2,q3⟩:=id j;refine⟨_,rfl,wd (s:={ s with heap:=h' }) q1 q2 q3 (by decide) ⟨.ref xs[i].2.1,H,W,rfl,⟨rfl,λys hy=>?_⟩,by rw[l]at j;exact j,λb f=>(m b f).1⟩⟩;obtain⟨Z,r,Y,q⟩:=eY I hy;obtain⟨rfl,ep⟩:=rF J r;have U:i<ys.length:=by lia
  obtain⟨e',V,y,_⟩:=q i ys[i]<|A5 U;rw[J1 g,O]at V;obtain rfl:=D2 V;rw[N]at y;injection y with y;exact⟨ys[i],A5 U,by rw[y]⟩
 done:=by intro X G L F T i p s σ H E I m st R;subst G L F;obtain⟨⟨xs,D,rfl⟩,rfl⟩:=R;obtain⟨es,J,l,S⟩:=eY I D;obtain⟨t,u,f2,x,B,C⟩:=m it (by simp);rw[<-l]at J st;exact Ib (I.ok.hd T) st J λh' he=>⟨rfl,I.turned (t':=s.toks) (λb o f e=>he b o f e) t u x B C⟩
 self:=λA i s Q E st hQ=>wpAny_pyIter_keyiter st hQ
def xL(t:A3):Mv:=λS M R=>t S M λd a=>match d with
 |.ref n=>∃kvs,a[n]?=a9 (.dkt kvs)/\(kvs.length<=sizeLine->R ⟨kvs.map (·.1),λM=>M[n]?=a9 (.dkt kvs)⟩ a)
 |_=>False
theorem EQ{l:h7}{L:A3}(Y:DE X l L):DI X tg l (xL L):=by
 intro m s σ H R I h;obtain⟨S,M,ρ,Q,sm,sr,q,k⟩:=h;refine A2 (Y m s σ H _ I ⟨S,M,ρ,_,sm,sr,q,λv H' w=>w⟩) ?_;rintro u C ⟨v,G,f,rv,d,D,F,A,g1,r1,K⟩;cases r1 with
 |@ref n a B =>
  cases rv;obtain⟨kvs,U,q2⟩:=(show ∃kvs,D[n]?=a9 (.dkt kvs)/\(kvs.length<=sizeLine->Q ⟨kvs.map (·.1),λM=>M[n]?=a9 (.dkt kvs)⟩ D)from K)
  obtain⟨xs,T,r,dd,V,Z,hx,nd⟩:=jU f A B U;obtain⟨es,P,N,_⟩:=eY f T;refine EJ V P ?_;rw[N];refine⟨C.heap.objs.size,[C.heap.objs.size],_,_,G,rfl,f.kept (t':=C.toks) λb o e=>A1 _ e,CH a _ xs.length,⟨_,C0 _ rfl,rfl,rfl⟩,λb W=>?_,k _ G ⟨⟨kvs.map (·.1),λM=>M[n]?=a9 (.dkt kvs)⟩,D,F,A,g1,?_,q2 Z⟩⟩;obtain rfl:b=C.heap.objs.size:=by simpa using W
  exact f.fpOk (x5 _)<|f.hok.fresh<|x5 _;refine⟨λi c J H' s' g ok hi=>?_,λi c J H' x H2 s' g ok hi y=>?_,λc J H' s' g ok=>?_⟩;obtain⟨_,_,_,ys,O,t⟩:=s'.obj _ _ _ (ar g.pre B) ok;have ly:ys.length=kvs.length:=by have:=u5 LY<|fy t;rwa [w4,w4]at this
  exact⟨ys,O,by lia,by rw[w4]at hi;lia⟩;obtain⟨rfl,j⟩:=y;obtain⟨_,_,_,ys,O,t⟩:=s'.obj _ _ _ (ar g.pre B) ok;obtain⟨z,E,rfl⟩:=j ys O;obtain⟨p,hp,_,_,rp,_⟩:=cU t E;exact⟨p.1,c,by rw[D8,hp];rfl,s',.refl,rp⟩;obtain⟨_,_,_,ys,O,t⟩:=s'.obj _ _ _ (ar g.pre B) ok;have ly:ys.length=kvs.length:=by have:=u5 LY<|fy t;rwa [w4,w4]at this
  exact⟨⟨ys,O,by lia⟩,by rw[w4];lia⟩
 |_=>exact K.elim
theorem yU(a:(d==d6)=b9)(m:cN s.heap d es ep)(b:Q (.ref s.heap.objs.size) { s with heap:=s.heap.push { cls:=.type "dict_values",data:=.fields #[.ref d] } }):g9 (i3 prog w) A (call (.builtin "dict.values") [.ref d]) Q E s:=by refine Op PySem.F.slot_dict_values m.ty PySem.F.entry_dict_values (PySem.F.args_dict_values_1 _) (S:=λ_ R s'=>s'=s/\R (.ok<|.ret<|.ref s.heap.objs.size) { s with heap:=s.heap.push { cls:=.type "dict_values",data:=.fields #[.ref d] } }) (.of_wp ?_) ⟨rfl,b⟩;rintro A R s' ⟨rfl,h⟩;refine u7 ?_;unfold Builtin.Dict.noArgs;refine u7<|N9 m.ty<|u9 ?_;refine(show g9 (i3 prog w) _ (O3 d >>= _) _ _ s' from ?_);unfold O3;rw[a];exact u7<|u9<|u7<|J0<|u9 ⟨_,rfl,h⟩
theorem BR(c:s.heap.IsValuesView v d)(m:cN s.heap d es ep)(b:Q (.ref s.heap.objs.size) { s with heap:=s.heap.push { cls:=.type "dict_valueiterator",data:=.fields #[.ref d,.int 0 0,.int es.size 0,.int ep 0] } }):g9 (i3 prog w) A (j3<|.ref v) Q E s:=by obtain⟨g,e,h,f⟩:=id c;obtain⟨o,h1,h2,a⟩:=m;refine P4 c.typeIs F.slot_dict_values_iter<|J4 F.slot_dict_values_iter c.typeIs F.entry_dict_values_iter ?_<|F.args_dict_values_iter_1 _;unfold Builtin.«dict_values.__iter__»;refine u7<|u9<|u7 ?_;unfold RN;refine u7<|Nt e f (x:=.ref d) rfl<|u9<|u7 ?_;unfold RQ;refine u7<|MW h1 a<|u7<|Mp h1 a ?_;simp only[show Oe "dict_valueiterator" = b9 by decide,C5,u3];exact J0<|u9 ⟨_,rfl,"dict_valueiterator",_,⟨_,C0 _ rfl,rfl⟩,F.slot_dict_valueiterator_next.lookup,by simpa [j4]using b⟩
theorem BP(t:s.heap.IsValIter it d i es.size ep)(c:cN s.heap d es ep)(hi:i<es.size)(b:∀h',h'.IsValIter it d (i+1) es.size ep->K5 it s.heap h'->Q (a9 es[i].val) { s with heap:=h' }):g9 (i3 prog w) A (j1<|.ref it) Q E s:=by
 obtain⟨o,m,f,a⟩:=id t;obtain⟨j,D,C,k⟩:=id c;unfold j1;refine u7<|Nu<|MM (name:=v6 "__next__") t.typeIs F.slot_dict_valueiterator_next<|J4 F.slot_dict_valueiterator_next t.typeIs F.entry_dict_valueiterator_next ?_<|F.args_dict_valueiterator_next_1 _;refine u7<|u9<|u7<|u7 ?_
 first|refine u7 (QZ t.typeIs<|u9<|u7<|Mf m a ?_)|refine u7<|QR t.typeIs<|u9<|u7<|Mf m a ?_
 simp only[show Oe "dict_valueiterator" = b9 by decide,C5,u3];refine(show g9 (i3 prog w) _ (if (AAu d==ABv)=b8 then _ else _) _ _ s from ?_);rw[t6<|by exact MK];refine u7<|u9<|u7<|MW D k ?_;rw[t6<|by simp];refine u7<|u9<|u7<|Mp D k ?_;rw[t6<|by simp];refine u9 ?_;simp only[show ¬((i:Int)<0)from by lia,u3,LP,J1 hi];refine u7 ?_
 first|refine u7 (QZ t.typeIs<|u9 ?_)|refine u7<|QR t.typeIs<|u9 ?_
 refine u7<|Ro t.typeIs ?_;refine(show g9 (i3 prog w) _ (setField (.ref it) 1 (j4<|(i:Int)+1) >>= _) _ _ s from u7<|Ng m a (by simp) ?_);have h:(s.heap.update it (Os (·.setIfInBounds 1 (j4<|(i:Int)+1)))).IsValIter it d (i+1) es.size ep:=by refine⟨_,LQ _ m<|Obj.isFreed_of_fields<|QE a _,(Obj.cls_mapFields ..).trans f,?_⟩;rw[QE a];simp[j4]
 refine u7 (F3 (u7 (Ro (s:={ s with heap:=s.heap.update it (Os (·.setIfInBounds 1 (j4<|(i:Int)+1))) }) h.typeIs (u7 (Ro (s:={ s with heap:=s.heap.update it (Os (·.setIfInBounds 1 (j4<|(i:Int)+1))) }) h.typeIs ?_)))));refine(show g9 (i3 prog w) _ (pure es[i].val) _ _ _ from ?_);exact u9<|u9 ⟨_,rfl,u9<|b _ h<|Mh ..⟩
theorem EH(f:A.handled=b7)(t:s.heap.IsValIter it d es.size es.size ep)(g:cN s.heap d es ep)(e:∀h',Heap.ExtBut it s.heap h'->Q b7 { s with heap:=h' }):g9 (i3 prog w) A (j1<|.ref it) Q E s:=by
 obtain⟨o,c,i,h⟩:=id t;obtain⟨j,D,C,k⟩:=id g;unfold j1;refine u7<|Nu<|MM (name:=v6 "__next__") t.typeIs F.slot_dict_valueiterator_next<|J4 F.slot_dict_valueiterator_next t.typeIs F.entry_dict_valueiterator_next ?_<|F.args_dict_valueiterator_next_1 _;refine u7<|u9<|u7<|u7 ?_
 first|refine u7 (QZ t.typeIs<|u9<|u7<|Mf c h ?_)|refine u7<|QR t.typeIs<|u9<|u7<|Mf c h ?_
 simp only[show Oe "dict_valueiterator" = b9 by decide,C5,u3];refine(show g9 (i3 prog w) _ (if (AAu d==ABv)=b8 then _ else _) _ _ s from ?_);rw[t6<|by exact MK];refine u7<|u9<|u7<|MW D k ?_;rw[t6<|by simp];refine u7<|u9<|u7<|Mp D k ?_;rw[t6<|by simp];refine u9 ?_;simp only[show ¬((es.size:Int)<0)from by lia,u3,LP,O5<|x5 es.size];refine u7 ?_
 first|refine u7 (QZ t.typeIs<|u9 ?_)|refine u7<|QR t.typeIs<|u9 ?_
 refine(show g9 (i3 prog w) _ (setField (.ref it) 0 .none >>= _) _ _ s from u7<|Ng c h (by simp) ?_);refine(show g9 (i3 prog w) _ (newExc (.type "StopIteration") [] >>= _) _ _ _ from u7 ?_);simp only[newExc,newTuple];refine u7 (J0 ?_<|by size_fits);refine u7 (m:=r9 _ _)<|wpAny_of_eq (a:=ABv) (by first|rfl|(simp only[r9];rfl)) ?_;refine J0 ?_ (by size_fits);simp only[raiseNew];refine u7<|wpAny_handled ?_;rw[show A.in1.handled=b7 from f];refine u7<|u9<|wpAny_throw ?_;refine u7<|N6 (b:=b8) (T:="StopIteration") ⟨_,C0 _ rfl,rfl⟩ PL ?_;exact u9<|e _<|((Mh ..).extBut.push _).push _
noncomputable def Itv(a:c8)(n:Nat):It:=⟨λi H=>∃xs x v,H a=a9 (.ext<|dX a xs)/\xs.length=n/\xs[i]?=a9 x/\aN v x.2.2,λi H v H'=>H'=H/\∀xs,H a=a9 (.ext<|dX a xs)->∃x,xs[i]?=a9 x/\aN v x.2.2,λi H=>(∃xs,H a=a9 (.ext<|dX a xs)/\xs.length=n)/\i=n⟩
theorem zt{P:c7}{w:c6}{K:w9}{tg:h7}(a it:c8)(n:Nat):Turn P w K tg (Itv a n) [it] it (λi h=>h.IsValIter it a i n n) where
 mem:=by simp
 obj:=λi h st b f=>by
  obtain rfl:b=it:=by simpa using f
  obtain⟨o,e,c,d⟩:=st;exact⟨o,e,λv z=>by rw[d]at z;cases z⟩
 keep:=λi h h' st k=>st.at λo e=>k it (by simp) o e
 item:=by
  intro X L M G T i p s σ H E I m st R;subst L M G;obtain⟨xs,x,v,F,rfl,hx,V⟩:=R;obtain⟨es,J,l,S⟩:=eY I F;obtain⟨e,t,e2,N⟩:=S i x hx;obtain⟨u,y,f2,B,C,D⟩:=m it (by simp);have g:i<es.size:=(M7.mp t).1;have O:es[i]=e:=by rw[J1 g]at t;exact D2 t
  rw[<-l]at J st;refine BP st J g λh' j sb=>?_;rw[O,N];have Z:v4 X p σ H { s with heap:=h' }:=I.turned (t':=s.toks) (λb o f e=>(sb.2 b f).trans e) u y B C D;obtain⟨o,q1,q2,q3⟩:=id j;refine⟨_,rfl,wd (s:={ s with heap:=h' }) q1 q2 q3 (by decide) ⟨v,H,Z,V,⟨rfl,λys hy=>?_⟩,by rw[l]at j;exact j,λb f=>(m b f).1⟩⟩;obtain⟨ai,r,ag,q⟩:=eY I hy;obtain⟨rfl,ep⟩:=rF J r;have U:i<ys.length:=by lia
  obtain⟨e',W,_,Y⟩:=q i ys[i]<|A5 U;rw[J1 g,O]at W;obtain rfl:=D2 W;rw[N]at Y;exact⟨ys[i],A5 U,by rw[<-Y];exact V⟩
 done:=by intro X L M G T i p s σ H E I m st R;subst L M G;obtain⟨⟨xs,F,rfl⟩,rfl⟩:=R;obtain⟨es,J,l,S⟩:=eY I F;obtain⟨u,y,f2,B,C,D⟩:=m it (by simp);rw[<-l]at J st;exact EH (I.ok.hd T) st J λh' he=>⟨rfl,I.turned (t':=s.toks) (λb o f e=>he b o f e) u y B C D⟩
 self:=λA i s Q E st hQ=>wpAny_pyIter_valiter st hQ
def uH(e:A3):Mv:=λS M R=>e S M λd a=>match d with
 |.ref n=>∃kvs,a[n]?=a9 (.dkt kvs)/\(kvs.length<=sizeLine->R ⟨kvs.map (·.2),λM=>M[n]?=a9 (.dkt kvs)⟩ a)
 |_=>False
theorem EO(ho:DE X o to)(j:n5 o "values" X.env (eval o X.env)=eval o X.env:=by rfl)(l:(apos.endLine==cpos.line)=b8:=by rfl):DI X tg (.Call (.Attribute o "values" apos) [] [] cpos) (uH to):=by
 intro c s σ H R I h;obtain⟨S,M,ρ,Q,sm,sr,q,k⟩:=h;refine QP j l<|A2 (ho c s σ H _ I ⟨S,M,ρ,_,sm,sr,q,λv H' w=>w⟩) ?_;rintro u D ⟨v,G,K,C,d,L,U,E,g1,r1,q1⟩;cases r1 with
 |@ref n a J =>
  cases C;obtain⟨kvs,hM,q2⟩:=(show ∃kvs,L[n]?=a9 (.dkt kvs)/\(kvs.length<=sizeLine->Q ⟨kvs.map (·.2),λM=>M[n]?=a9 (.dkt kvs)⟩ L)from q1)
  obtain⟨xs,hH,r,Y,V,hz,hx,nd⟩:=jU K E J hM;obtain⟨es,Z,el,_⟩:=eY K hH;refine⟨"dict","dict.values",O8,PySem.F.slot_dict_values,PySem.F.type_dict_values,Y.typeIs,λb z=>?_,Oa rfl<|QK<|yU V Z ?_⟩;cases z;obtain⟨ob,_,_,h1,h2,_⟩:=Y;exact⟨ob,h1,h2.2.1⟩;have A:v4 X c σ G { D with heap:=D.heap.push { cls:=.type "dict_values",data:=.fields #[.ref a] } }:=K.kept (t':=D.toks) λb o e=>A1 _ e;have N:cN ({ D with heap:=D.heap.push { cls:=.type "dict_values",data:=.fields #[.ref a] } }:f8).heap a es xs.length:=Z.to λo e=>A1 _ e;refine BR (d:=a) ⟨_,C0 _ rfl,rfl,rfl⟩ N ?_;rw[el];have P:∀f:f8,v4 X c σ G f->Pt X c σ tg R (.ref f.heap.objs.size) { f with heap:=f.heap.push { cls:=.type "dict_valueiterator",data:=.fields #[.ref a,.int 0 0,.int xs.length 0,.int xs.length 0] } }:=λf A=>by
   refine⟨f.heap.objs.size,[f.heap.objs.size],_,_,G,rfl,A.kept (t':=f.toks) λb o e=>A1 _ e,zt a _ xs.length,⟨_,C0 _ rfl,rfl,rfl⟩,λb hb=>?_,k _ G ⟨⟨kvs.map (·.2),λM=>M[n]?=a9 (.dkt kvs)⟩,L,U,E,g1,?_,q2 hz⟩⟩;obtain rfl:b=f.heap.objs.size:=by simpa using hb
   exact A.fpOk (x5 _)<|A.hok.fresh<|x5 _;refine⟨λi m W H' s' g ok hi=>?_,λi m W H' x H2 s' g ok hi y=>?_,λm W H' s' g ok=>?_⟩;obtain⟨_,_,_,ys,O,t⟩:=s'.obj _ _ _ (ar g.pre J) ok;have ly:ys.length=kvs.length:=by have:=u5 LY<|fy t;rwa [w4,w4]at this
   rw[w4]at hi;have hj:i<ys.length:=by lia
   obtain⟨p,_,_,_,_,v,_,C⟩:=cU t<|A5 hj;exact⟨ys,ys[i],v,O,by lia,A5 hj,C⟩;obtain⟨rfl,B⟩:=y;obtain⟨_,_,_,ys,O,t⟩:=s'.obj _ _ _ (ar g.pre J) ok;obtain⟨z,T,rz⟩:=B ys O;obtain⟨p,hp,_,_,_,v,rp,C⟩:=cU t T;obtain rfl:x=v:=rz.inj C;exact⟨p.2,m,by rw[D8,hp];rfl,s',.refl,rp⟩;obtain⟨_,_,_,ys,O,t⟩:=s'.obj _ _ _ (ar g.pre J) ok;have ly:ys.length=kvs.length:=by have:=u5 LY<|fy t;rwa [w4,w4]at this
   exact⟨⟨ys,O,by lia⟩,by rw[w4];lia⟩
  exact P _ A
 |_=>exact q1.elim
def Gj:G2:=λx y M Q=>match x,y with
 |.tup ks,.ref n=>∃kvs,M[n]?=a9 (.dkt kvs)/\dm 8 (.tup ks)=b8/\Q (.bl (bb kvs<|.tup ks).isSome) M
 |_,_=>False
theorem JX(i:Room k X.A):G9 X (j7 .In) Gj:=by
 rintro p s σ H G J v u R I o z ⟨x,y,M,ρ,Q,m,j,l,q,C⟩;have F:=i.un;cases x with
 |tup c =>
  cases y with
  |ref n =>
   obtain⟨kvs,h,g,q⟩:=q;obtain⟨a,rfl,f⟩:=v9.inv_ref l;cases z;obtain⟨xs,B,r,d,V,D,E,_⟩:=jU I m f h;have t:=gu I 8 _ _ _ j o g;obtain⟨b,_,rfl,_⟩:=id t;refine wpAny_in_heap (knd:=cu X.prog X.w) (k:=.tup c) (by show X.A.units+1+8<j9;lia) t V d ?_;have e:(atKey xs<|.tup c).isSome=(bb kvs<|.tup c).isSome:=by rcases xz r (.tup c)with⟨z1,z2⟩|⟨_,_,_,z1,z2,_⟩<;>rw[z1,z2]<;>rfl
   rw[e];exact jg (I.tok _) m C q
  |_=>exact q.elim
 |_=>exact q.elim
def qh:v5:=λ_ _ _=>False
theorem EK{st:i6}:DS X st qh:=λp s σ H E I ⟨S,M,ρ,F,m,b,q,C⟩=>q.elim
theorem Ku:HE X (.Dict [] [] pos) rJ:=⟨Lv⟩
theorem Kv(r:Room k X.A)(m:HE X o to)(hi:HE X i ti)(hs:IN i:=by intro _ _;kernel_rfl):HE X (.Subscript o i pos) (ji to ti):=⟨Lw r m.ok hi.ok hs⟩
theorem Bk(r:Room k X.A)(m:HE X o to)(hi:HE X i ti)(c:HE X e te)(hs:i8 e (a9<|.Subscript o i pos') pos.line X.env=pure b9:=by kernel_rfl):HS X (.Assign [.Subscript o i pos'] e pos) (oj to ti te):=⟨Ii r m.ok hi.ok c.ok hs⟩
theorem Ho(i:Room k X.A)(m:HE X o to)(f:HA X (e::es) t)(h:n5 o "get" X.env (eval o X.env)=eval o X.env:=by kernel_rfl)(w:((i4 cpos<|i5 (e::es) X.env).all (λx=>!x.1)&&(n9 cpos<|o0 [] X.env).all (λx=>x.1.isSome) && decide ((e::es).length+([]:List o4).length+(if ([]:List o4).isEmpty then 0 else 1)<30))=b8:=by kernel_rfl)(a:(apos.endLine==cpos.line)=b8:=by kernel_rfl) (hs:i5 (e::es) X.env=(b9,eval e X.env)::i5 es X.env:=by kernel_rfl) (n:(i4 cpos<|i5 es X.env).any (·.1)=b9:=by kernel_rfl):HE X (.Call (.Attribute o "get" apos) (e::es) [] cpos) (Pl pR to t):=⟨d_mt O4 Rn (DB i) m.ok f.ok h w a hs n⟩
theorem Ee(h:HE X e te):HI X tg e (xL te):=⟨EQ h.ok⟩
theorem Ed(m:HE X o to)(e:n5 o "values" X.env (eval o X.env)=eval o X.env:=by kernel_rfl)(a:(apos.endLine==cpos.line)=b8:=by kernel_rfl):HI X tg (.Call (.Attribute o "values" apos) [] [] cpos) (uH to):=⟨EO m.ok e a⟩
theorem KL(i:Room k X.A):I0 X (j7 .In) Gj:=⟨JX i⟩
theorem xB{X:Cx}{st:i6}:HS X st qh:=⟨EK⟩
theorem xE{K:w9}{ρ:List c8}{H:Hp}:∀{ns:List Int}{ws:List V}{its:List c3},Reps K ρ H (ns.map D.int) ws->az ws its->IntsAre its ns
 | [],_,_,r,v=>by cases r;cases v;exact .nil
 |n::ns,_,_,r,v=>by
  rw[D5]at r
  first|have hzz:=Reps.inv_cons r|have hzz:=az.inv_cons r
  clear r;obtain⟨_,_,rfl,h,t⟩:=hzz;cases h;cases v with
  |cons q q'=>obtain⟨tk,rfl⟩:=q;exact .cons _ _<|xE t q'
def As:D6:=λds M Q=>match ds with
 | [.ref n]=>∃ns:List Int,aq M n (ns.map D.int)/\ns≠[]/\∀m,m∈ns->(∀a∈ns,a<=m)->Q (.int m) M
 |_=>False
theorem IB(B:X.calm=b8):kI X (.builtin "max") As:=by
 rintro v s σ H vs us R I P ⟨ds,M,ρ,Q,x,g,q,F⟩;unfold As at q;split at q;obtain⟨ns,L,d,q⟩:=q
 first|have f:=Reps.inv_cons g|have f:=az.inv_cons g
 clear g;obtain⟨_,_,rfl,K,g⟩:=f;cases g;obtain⟨u,rfl,y⟩:=az.one P;obtain⟨a,rfl,e⟩:=v9.inv_ref K;cases y;obtain⟨Z,E,r⟩:=aq.seq x L e;obtain⟨its,O,w,W⟩:=I.list E;obtain⟨m,n,V⟩:=I.loc;obtain⟨J,Y,c,C,j,h⟩:=id w;have k:a≠X.env.locals:=λz=>by subst z;obtain⟨o,es,U,e,D,_⟩:=n;rw[c]at e;cases e;rw[D]at h;cases h
 have p:∀b o,b≠X.env.locals->s.heap.get? b=a9 o->(b,o)∈[]++(a,J)::Att.ledger s.heap X.env.locals a:=λb o h1 h2=>by rw[G4,C3,Att.mem_ledger];by_cases l:b=a;subst l;rw[c]at h2;cases h2;exact .inl rfl;exact .inr ⟨h1,l,h2⟩
 refine max_list_N (I.ok.hd B) (Att.fr_all n) (Att.news_ledger k c) w.isList (xE r O) (List.length_pos_iff.mpr d) λh' i t S T N h1 h2=>?_;have G:∀b u,b≠X.env.locals->s.heap.get? b=a9 u->h'.get? b=a9 u:=λb u A e=>(N (b,u)<|p b u A e).1;exact⟨.int i,H,I.keptF (t':=S) G n T.ns,⟨t,rfl⟩,F _ _ ⟨.int i,M,ρ,x,.refl,.int i,q i h1 h2⟩⟩;exact q.elim
theorem LI:f6 "max" = a9 (.builtin "max"):=by decide +kernel
theorem HQ(f:X.calm=b8:=by kernel_rfl):HC X (.builtin "max") As:=⟨IB f⟩
end L2
namespace L2
open PySem PySem.Spec PyProof.Rows DL PySem.W PySem.Calls PyProof.V
def dh(h:d5)(it d:c8)(i n ep:Nat)(j x ok b:c3):Prop:=h.get? it=a9 { cls:=.type "dict_itemiterator",dict:=b7,data:=.fields #[j,x,.ref d,.int i 0,.int n 0,.int ep 0,ok,b],slots:=#[] }
def lh(h:d5)(it d S:c8)(i n ep:Nat):Prop:=∃j x ok b,dh h it d i n ep j x ok b/\((j=.none/\x=.bool b9)\/∃(a:c8) (f:Bool) (J:c9),j=j4 a/\x=.bool f/\h.get? a=a9 J/\a≠it/\a≠S)
theorem lh.to(x:lh h it d S i n ep)(k:∀b o,b≠S->h.get? b=a9 o->h'.get? b=a9 o)(I:it≠S):lh h' it d S i n ep:=by obtain⟨j,c,ok,v,p,q⟩:=x;refine⟨j,c,ok,v,k _ _ I p,q.imp id ?_⟩;rintro⟨a,f,oa,e0,e1,ha,hai,haS⟩;exact⟨a,f,oa,e0,e1,k _ _ haS ha,hai,haS⟩
theorem uA(a:(d==d6)=b9)(m:cN s.heap d es ep)(b:Q (.ref s.heap.objs.size) { s with heap:=s.heap.push { cls:=.type "dict_items",data:=.fields #[.ref d] } }):g9 (i3 prog w) A (call (.builtin "dict.items") [.ref d]) Q E s:=by refine Op Rw m.ty PySem.F.entry_dict_items (PySem.F.args_dict_items_1 _) (S:=λ_ R s'=>s'=s/\R (.ok<|.ret<|.ref s.heap.objs.size) { s with heap:=s.heap.push { cls:=.type "dict_items",data:=.fields #[.ref d] } }) (.of_wp ?_) ⟨rfl,b⟩;rintro A R s' ⟨rfl,h⟩;unfold Builtin.«dict.items»;refine u7 ?_;unfold Builtin.Dict.noArgs;refine u7<|N9 m.ty<|u9 ?_;refine(show g9 (i3 prog w) _ (O3 d >>= _) _ _ s' from ?_);unfold O3;rw[a];exact u7<|u9<|u7<|J0<|u9 ⟨_,rfl,h⟩
theorem uC(c:s.heap.IsItemsView v d)(m:cN s.heap d es ep)(b:Q (.ref s.heap.objs.size) { s with heap:=s.heap.push { cls:=.type "dict_itemiterator",data:=.fields #[.none,.bool b9,.ref d,.int 0 0,.int es.size 0,.int ep 0,.none,.none] } }):g9 (i3 prog w) A (j3<|.ref v) Q E s:=by obtain⟨g,e,h,f⟩:=id c;obtain⟨o,h1,h2,a⟩:=m;refine P4 c.typeIs F.slot_dict_items_iter<|J4 F.slot_dict_items_iter c.typeIs F.entry_dict_items_iter ?_<|F.args_dict_items_iter_1 _;unfold Builtin.«dict_items.__iter__»;refine u7<|u9<|u7 ?_;unfold RN;refine u7<|Nt e f (x:=.ref d) rfl<|u9<|u7 ?_;unfold RQ;refine u7<|MW h1 a<|u7<|Mp h1 a ?_;simp only[show Oe "dict_itemiterator" = b8 by decide,u4];exact J0 (u9 ⟨_,rfl,"dict_itemiterator",_,⟨_,C0 _ rfl,rfl⟩,F.slot_dict_itemiterator_next.lookup,by simpa [j4,RU]using b⟩)<|by simp only[sizeOk,RU,B5,B6,D7,D3,L8];lia
theorem uB(V:lh s.heap it d S i es.size ep)(hS:S<s.heap.objs.size)(hm:cN s.heap d es ep)(hi:i<es.size)(hQ:∀h',lh h' it d S (i+1) es.size ep->h'.get? s.heap.objs.size=a9 { cls:=.type "tuple",data:=.seq #[es[i].key,es[i].val] }->h'.objs.size=s.heap.objs.size+1 -> (∀b o,b≠it->s.heap.get? b=a9 o->h'.get? b=a9 o)->(∀ok ov,dh s.heap it d i es.size ep .none (.bool b9) ok ov->dh h' it d (i+1) es.size ep (j4 s.heap.objs.size) (.bool b9) es[i].key es[i].val)->Q (a9<|.ref s.heap.objs.size) { s with heap:=h' }):g9 (i3 prog w) A (j1<|.ref it) Q E s:=by
 obtain⟨hp,g,r,u,p⟩:=s;obtain⟨x0,x1,ok,ov,t,W⟩:=V;obtain⟨od,Z,k2,k3⟩:=id hm;have T:Nd ⟨hp,g,r,u,p⟩ (.ref it) "dict_itemiterator":=⟨_,t,rfl⟩
 unfold j1;refine u7<|Nu<|MM (name:=v6 "__next__") T Q4<|J4 Q4 T RV ?_<|RW _;refine u7<|u9<|u7<|u7 ?_
 first|refine u7 (Q2 T<|u9<|u7<|Mf t rfl ?_)|refine u7<|QV T<|u9<|u7<|Mf t rfl ?_
 simp only[show Oe "dict_itemiterator" = b8 by decide,u4];refine(show g9 (i3 prog w) _ (if (AAu d==ABv)=b8 then _ else _) _ _ _ from ?_);rw[t6<|by exact MK];refine u7<|u9<|u7<|MW Z k3 ?_;rw[t6<|by simp];refine u7<|u9<|u7<|Mp Z k3 ?_;rw[t6<|by simp];refine u9 ?_;simp only[show ¬((i:Int)<0)from by lia,u3,LP,J1 hi];refine u7 ?_
 first|refine u7 (Q2 T<|u9 ?_)|refine u7<|QV T<|u9 ?_
 refine u7<|Rr T ?_;refine(show g9 (i3 prog w) _ (setField (.ref it) 3 (j4<|(i:Int)+1) >>= _) _ _ ⟨hp,g,r,u,p⟩from u7<|OX t (by simp) λl he hs=>?_);have F:K5 it hp l:=hs;have D:dh l it d (i+1) es.size ep x0 x1 ok ov:=by unfold dh;rw[show ((i+1:Nat):Int)=(i:Int)+1 by lia];simpa [j4]using he
 have v:Nd ⟨l,g,r,u,p⟩ (.ref it) "dict_itemiterator":=⟨_,D,rfl⟩
 refine u7<|F3<|u7<|Rr v<|u7<|Rr v ?_;refine(show g9 (i3 prog w) _ (RR (.ref it) 6 es[i].key es[i].val) _ _ ⟨l,g,r,u,p⟩from ?_);unfold RR;refine u7<|wpAny_newTuple ?_;have B:dh (l.push { cls:=.type "tuple",data:=.seq #[es[i].key,es[i].val] }) it d (i+1) es.size ep x0 x1 ok ov:=A1 _ D;generalize O:l.push { cls:=.type "tuple",data:=.seq #[es[i].key,es[i].val] }=hB at B;have Y:l.objs.size=hp.objs.size:=F.1;have m:it<hp.objs.size:=A4 t;have tB:hB.get? hp.objs.size=a9 { cls:=.type "tuple",data:=.seq #[es[i].key,es[i].val] }:=by rw[<-O,<-Y];exact C0 _ rfl
 have zB:hB.objs.size=hp.objs.size+1:=by rw[<-O,Mo,Y]
 have kB:∀b o,b≠it->hp.get? b=a9 o->hB.get? b=a9 o:=λb o j e=>by rw[<-O];exact A1 _<|F.extBut b o j e
 refine(show g9 (i3 prog w) _ (RT (.ref it) >>= _) _ _ ⟨hB,g,r,u,p⟩from ?_);rw[Y];have n:∀C:d5,lh C it d S (i+1) es.size ep->K5 it hB C->(∀ok ov,dh hp it d i es.size ep .none (.bool b9) ok ov->dh C it d (i+1) es.size ep (j4 hp.objs.size) (.bool b9) es[i].key es[i].val)->Q (a9<|.ref hp.objs.size) ⟨C,g,r,u,p⟩:=λC st q =>
  hQ C st (q.extBut _ _ (LZ m) tB) (by show C.objs.size=hp.objs.size+1;rw[q.1,zB]) λb o j e=>q.extBut b o j<|kB b o j e
 refine u7 ?_;unfold RT;rcases W with⟨rfl,rfl⟩|⟨a,f,J,rfl,rfl,ga,h,y⟩
 refine u7<|Nt B rfl (x:=.none) rfl<|u9 ?_;simp only[u4];refine u7<|Nt B rfl (x:=ok) rfl<|u7<|Nt B rfl (x:=ov) rfl ?_;refine u7<|OX B (by simp) λk N X=>?_;refine u7<|OX (show dh k it d (i+1) es.size ep .none (.bool b9) es[i].key ov from N) (by simp) λR e4 s4=>?_;refine u7<|OX (show dh R it d (i+1) es.size ep .none (.bool b9) es[i].key es[i].val from e4) (by simp) λU e5 s5=>?_;refine u7<|OX (show dh U it d (i+1) es.size ep (j4 hp.objs.size) (.bool b9) es[i].key es[i].val from e5) (by simp) λM e6 s6=>?_;have p6:dh M it d (i+1) es.size ep (j4 hp.objs.size) (.bool b9) es[i].key es[i].val:=e6;have q:K5 it hB M:=by have c:K5 it hB k:=X;have I:K5 it k R:=s4;have K:K5 it R U:=s5;have L:K5 it U M:=s6;exact⟨by rw[L.1,K.1,I.1,c.1],λb j=>by rw[L.2 b j,K.2 b j,I.2 b j,c.2 b j]⟩
 exact u7<|wpAny_letGo<|u9<|u9 ⟨_,rfl,u9<|n M ⟨_,_,_,_,p6,.inr ⟨_,b9,_,rfl,rfl,q.extBut _ _ (LZ m) tB,LZ m,LZ hS⟩⟩ q λ_ _ _=>p6⟩;have P:hB.get? a=a9 J:=kB a J h ga;have no:∀{C:d5} (G H:c3),dh hp it d i es.size ep .none (.bool b9) G H->dh C it d (i+1) es.size ep (j4 hp.objs.size) (.bool b9) es[i].key es[i].val:=λG H z=>t7 (t.symm.trans z) (by simp[j4]);refine u7<|Nt B rfl (x:=j4 a) rfl ?_;refine(show g9 (i3 prog w) _ (loadIfAlive ((a:Int).toNat) >>= _) _ _ _ from ?_);rw[LP];refine u7<|kdx_alive P ?_;simp only[Option.isNone_some,C5,u3];refine u7<|Nt B rfl (x:=.bool f) rfl ?_;cases f with
 |true=>rw[t6<|show ¬((Nr b8 != Nr b8)=b8)from MK];refine u9 ?_;simp only[C5,u3];exact u9<|u9 ⟨_,rfl,u9<|n hB ⟨_,_,_,_,B,.inr ⟨a,b8,J,rfl,rfl,P,h,y⟩⟩ (Heap.SameBut.refl _ _) no⟩
 |false=>rw[t5<|show (Nr b9 != Nr b8)=b8 from rfl];refine u7<|OX B (by simp) λk N X=>?_;have p3:dh k it d (i+1) es.size ep (j4 a) (.bool b8) ok ov:=N;have c:K5 it hB k:=X;refine u9 ?_;simp only[C5,u3];exact u9<|u9 ⟨_,rfl,u9<|n k ⟨_,_,_,_,p3,.inr ⟨a,b8,J,rfl,rfl,c.extBut a J h P,h,y⟩⟩ c no⟩
theorem xJ(e:A.handled=b7)(c:lh s.heap it d S es.size es.size ep)(f:cN s.heap d es ep)(h:∀h',Heap.ExtBut it s.heap h'->Q b7 { s with heap:=h' }):g9 (i3 prog w) A (j1<|.ref it) Q E s:=by
 obtain⟨x,g,ok,v,t,W⟩:=c;obtain⟨j,D,C,k⟩:=id f;have o:s.TypeIs (.ref it) "dict_itemiterator":=⟨_,t,rfl⟩
 unfold j1;refine u7<|Nu<|MM (name:=v6 "__next__") o Q4<|J4 Q4 o RV ?_<|RW _;refine u7<|u9<|u7<|u7 ?_
 first|refine u7 (Q2 o<|u9<|u7<|Mf t rfl ?_)|refine u7<|QV o<|u9<|u7<|Mf t rfl ?_
 simp only[show Oe "dict_itemiterator" = b8 by decide,u4];refine(show g9 (i3 prog w) _ (if (AAu d==ABv)=b8 then _ else _) _ _ s from ?_);rw[t6<|by exact MK];refine u7<|u9<|u7<|MW D k ?_;rw[t6<|by simp];refine u7<|u9<|u7<|Mp D k ?_;rw[t6<|by simp];refine u9 ?_;simp only[show ¬((es.size:Int)<0)from by lia,u3,LP,O5<|x5 es.size];refine u7 ?_
 first|refine u7 (Q2 o<|u9 ?_)|refine u7<|QV o<|u9 ?_
 refine(show g9 (i3 prog w) _ (setField (.ref it) 2 .none >>= _) _ _ s from u7<|Ng t rfl (by simp) ?_);refine(show g9 (i3 prog w) _ (newExc (.type "StopIteration") [] >>= _) _ _ _ from u7 ?_);simp only[newExc,newTuple];refine u7 (J0 ?_<|by size_fits);refine u7 (m:=r9 _ _)<|wpAny_of_eq (a:=ABv) (by first|rfl|(simp only[r9];rfl)) ?_;refine J0 ?_ (by size_fits);simp only[raiseNew];refine u7<|wpAny_handled ?_;rw[show A.in1.handled=b7 from e];refine u7<|u9<|wpAny_throw ?_;refine u7<|N6 (b:=b8) (T:="StopIteration") ⟨_,C0 _ rfl,rfl⟩ PL ?_;exact u9<|h _<|((Mh ..).extBut.push _).push _
structure PairsAt(es:Array o6)(lo:c8)(h:d5)(as:List c8):Prop where
 nd:as.Nodup
 above:∀a∈as,lo<a
 tup:∀(j:Nat) (a:c8),as[j]?=a9 a->∃e,es[j]?=a9 e/\h.get? a=a9 { cls:=.type "tuple",data:=.seq #[e.key,e.val] }
theorem PairsAt.lt{es:Array o6}{lo:c8}{h:d5}{as:List c8}(g:PairsAt es lo h as){a:c8}(m:a∈as):a<h.objs.size:=by obtain⟨j,L⟩:=MB m;obtain⟨_,_,e⟩:=g.tup j a L;exact A4 e
theorem PairsAt.to{es:Array o6}{lo:c8}{h h':d5}{as:List c8}(g:PairsAt es lo h as)(k:∀b o,lo<b->h.get? b=a9 o->h'.get? b=a9 o):PairsAt es lo h' as:=⟨g.nd,g.above,λj a L=>by obtain⟨e,t,l⟩:=g.tup j a L;exact⟨e,t,k a _ (g.above a<|G1 L) l⟩⟩
theorem PairsAt.snoc{es:Array o6}{lo:c8}{h:d5}{as:List c8}{a:c8}{e:o6}(g:PairsAt es lo h as)(f:a∉as)(u:lo<a)(i:es[as.length]?=a9 e)(d:h.get? a=a9 { cls:=.type "tuple",data:=.seq #[e.key,e.val] }):PairsAt es lo h (as++[a]):=by
 refine⟨?_,?_,λj b L=>?_⟩;rw[OU];refine⟨g.nd,by simp,λx c y O=>?_⟩;rw[F0.mp O];rintro rfl;exact f c;intro x c;rcases Fn.mp c with c|c;exact g.above x c;rw[F0.mp c];exact u;rcases OW j as.length with h1|h1|h1;rw[LR h1]at L;exact g.tup j b L;subst h1;have:a=b:=by simpa using L
 subst this;exact⟨e,i,d⟩;rw[NK<|by simp;lia]at L;cases L
section
variable{prog:c7}{w:c6}{A:f7}{E:c3->f8->Prop}{s:f8}{d:c8}{es:Array o6}{ep:Nat}
theorem yN{R:Result->f8->Prop}{S I:c8}(K:A.handled=b7)(u:S<I)(C:d≠S)(B:d≠I)(O:es.size<=sizeLine)(res:c3){h0:d5}(Y:∀h' tk acc c as,(∀b o,b≠S->b≠I->h0.get? b=a9 o->h'.get? b=a9 o)->h'.get? S=a9 { cls:=.type "list",data:=.seq acc c }->as.length=es.size->PairsAt es I h' as->acc.toList=as.map AAu->R (.ok<|.ret res) { s with heap:=h',toks:=tk }):∀(k i:Nat) (h:d5) (tk c:Nat) (acc:Array c3) (as:List c8),es.size-i=k->i<=es.size->lh h I d S i es.size ep->cN h d es ep->(∀b o,b≠S->b≠I->h0.get? b=a9 o->h.get? b=a9 o) ->h.get? S=a9 { cls:=.type "list",data:=.seq acc c }->acc.toList=as.map AAu->as.length=i->PairsAt es I h as->I<h.objs.size ->k9 (i3 prog w) A (.builtin "list.extend.loop" ⟨[.ref S,.ref I,res],[]⟩) R { s with heap:=h,toks:=tk }:=by
 have f:S≠I:=A9 u;intro k;induction k with
 |zero =>
  intro i h tk c acc as L hi m D g q j l G a;obtain rfl:i=es.size:=by lia
  refine Mg PySem.F.entry_extend_loop ?_;rw[ML Qd _];refine(show g9 (i3 prog w) A.in1 (j1 (.ref I) >>= _) _ _ _ from ?_);refine u7<|xJ (s:={ s with heap:=h,toks:=tk }) (A:=A.in1) K m D λh' H=>?_;exact u9<|Y h' tk acc c as (λb o h1 h2 e=>H b o h2<|g b o h1 h2 e) (H S _ f q) l (G.to λb o n e=>H b o (LZ n) e) j
 |succ k N =>
  intro i h tk c acc as L hi m D g q j l G a;have t:i<es.size:=by lia
  have x:acc.size=i:=by rw[<-F5,j,w4,l]
  refine Mg PySem.F.entry_extend_loop ?_;rw[ML Qd _];refine(show g9 (i3 prog w) A.in1 (j1 (.ref I) >>= _) _ _ _ from ?_);refine u7<|uB (s:={ s with heap:=h,toks:=tk }) (S:=S) m (A4 q) D t λh' v J M p _=>?_
  try dsimp only at J M p ⊢
  have r:=p S _ f q;have E:S<h.objs.size:=A4 q;have y:∀b o,b≠S->h'.get? b=a9 o->(h'.update S (G6 (·.push (AAu h.objs.size)))).get? b=a9 o:=λb o n e=>(NL _ _<|D4 n).trans e;refine(show g9 (i3 prog w) A.in1 (updateSeq S (·.push (AAu h.objs.size)) >>= _) _ _ _ from u7 ?_);have T:(h'.update S (G6 (·.push (AAu h.objs.size)))).get? h.objs.size=a9 { cls:=.type "tuple",data:=.seq #[es[i].key,es[i].val] }:=y _ _ (LZ E) J;refine PR r rfl (u9 ⟨My Qd _,N (i+1) _ tk _ (acc.push<|AAu h.objs.size) (as++[h.objs.size]) (by lia) t (v.to y<|D4 f) (D.to λo e=>y d o C<|p d o B e) (λb o h1 h2 e=>y b o h1<|p b o h2<|g b o h1 h2 e) (LQ _ r rfl) (by rw[OV,j,J3];rfl) (by rw[B6,l];rfl) ?_<|ND a<|A4 T⟩) (by rw[x];lia) (by show (acc.push<|AAu h.objs.size).size<=sizeLine+1;rw[Array.size_push,x];lia);refine(G.to λb o n e=>y b o (LZ<|ND u n)<|p b o (LZ n) e).snoc (e:=es[i]) (λz=>G3 _<|G.lt z) a (by rw[l];exact J1 t) T
theorem uy{R:Result->f8->Prop}{r D:c8}{c0:Nat}(J:A.handled=b7)(v:s.heap.IsItemsView r d)(t:cN s.heap d es ep)(p:D≠r)(i:d≠D)(L:es.size<=sizeLine)(res:c3)(B:s.heap.get? D=a9 { cls:=.type "list",data:=.seq #[] c0 })(Y:∀h' tk acc c as,(∀b o,b≠D->s.heap.get? b=a9 o->h'.get? b=a9 o)->h'.get? D=a9 { cls:=.type "list",data:=.seq acc c }->as.length=es.size->PairsAt es s.heap.objs.size h' as->acc.toList=as.map AAu->R (.ok<|.ret res) { s with heap:=h',toks:=tk }):g9 (i3 prog w) A.in1 (Pc (.ref D) (.ref r) res)
   (λfin s'=>match fin with|.done f=>R (.ok f) s'|.again c'=>c'.quiet=b8/\k9 (i3 prog w) A c' R s') (λe s'=>R (.error e) s') s:=by
 have E:D<s.heap.objs.size:=A4 B;have N:d<s.heap.objs.size:=t.lt;have y:∀(h:d5) (m tk:Nat),(∀b o,b≠D->(s.heap.push { cls:=.type "dict_itemiterator",data:=.fields #[.none,.bool b9,.ref d,.int 0 0,.int es.size 0,.int ep 0,.none,.none] }).get? b=a9 o->h.get? b=a9 o) -> h.get? D=a9 { cls:=.type "list",data:=.seq #[] m }->k9 (i3 prog w) A (.builtin "list.extend.loop" ⟨[.ref D,.ref s.heap.objs.size,res],[]⟩) R { s with heap:=h,toks:=tk }:=λh m tk C l=>by have I:=C s.heap.objs.size _ (LZ E)<|C0 _ rfl;exact yN (h0:=s.heap) J E i (A9 N) L res (λh' u acc c as M q K H k=>Y h' u acc c as (λb o g e=>M b o g (A9<|A4 e) e) q K H k) es.size 0 h tk m #[] [] (Nat.sub_zero _) (A8 _) ⟨_,_,_,_,I,.inl ⟨rfl,rfl⟩⟩ (t.to λo e=>C d o i<|A1 _ e) (λb o g _ e=>C b o g<|A1 _ e) l rfl rfl ⟨N0,(λ_ z=>nomatch z),(λj a z=>by simp at z)⟩ (A4 I)
 unfold Pc;refine u7<|MH (T:="dict_items") v.typeIs ?_;have F:QT (.ref D) (.ref r)=b9:=by simp[QT,p]
 have G:(MG "dict_items" == MG "list")=b9:=by decide
 have Q:(MG "dict_items" == MG "tuple")=b9:=by decide
 simp only[F,G,Q,OR,C5,u3];refine u7<|uC v t ?_;have l:=A1 { cls:=.type "dict_itemiterator",data:=.fields #[.none,.bool b9,.ref d,.int 0 0,.int es.size 0,.int ep 0,.none,.none] } B;refine u7<|F3<|kdx_hint (let ⟨o,ho,hc,_⟩:=v;⟨o,A1 _ ho,hc⟩) ?_;refine Nh (λ_=>?_)<|λ_=>u9 ⟨My Qd _,y _ c0 _ (λb o _ e=>e) l⟩;refine u7 (K9 (u7 (show g9 (i3 prog w) _ (updateSeq D (·.push .none) >>= λ_=>updateSeq D (·.pop)) _ _ _ from u7<|PR l rfl ?_)));have n:=LQ (G6 (·.push ABv)) l rfl;refine PR (hz:=by seq_fits) n rfl ?_;have x:=LQ (G6 (·.pop)) n rfl;exact u9 ⟨My Qd _,y _ _ _ (λb o g e=>(NL _ _<|D4 g).trans<|(NL _ _<|D4 g).trans e) x⟩
theorem tz{Q:c3->f8->Prop}{r:c8}(I:A.handled=b7)(B:s.heap.IsItemsView r d)(t:cN s.heap d es ep)(hz:es.size<=sizeLine)(h:∀h' tk as,(∀b u,s.heap.get? b=a9 u->h'.get? b=a9 u)->as.length=es.size->PairsAt es s.heap.objs.size h' as -> g9 (i3 prog w) A.in1 (call (.builtin "list.sort") [.ref h'.objs.size]) (λ_ s'=>Q (.ref h'.objs.size) s') E { s with heap:=h'.push { cls:=.type "list",data:=.seq (as.map AAu).toArray },toks:=tk }):g9 (i3 prog w) A (call (.builtin "sorted") [.ref r]) Q E s:=by
 have J:r<s.heap.objs.size:=let ⟨_,ho,_⟩:=B;A4 ho
 refine call_function_entry kind_sorted plain_sorted entry_sorted (args_sorted1 _) ?_;unfold Builtin.«sorted»;refine u7 (m:=checkCount "sorted" 1 1 _)<|u9 ?_;unfold collect;refine u7<|u7<|wpAny_runValue<|Mg F.entry_proto_collect ?_;rw[ML F.plain_proto_collect _];refine(show g9 (i3 prog w) _ (newList [] >>= λl=>again<|.builtin "list.__iadd__" ⟨[l,.ref r],[]⟩) _ _ s from u7<|J0<|u9 ⟨My F.plain_list_iadd _,Mg F.entry_list_iadd ?_⟩);rw[ML F.plain_list_iadd _];have y:=uy (prog:=prog) (w:=w) (A:=A.in1) (d:=d) (es:=es) (ep:=ep) (r:=r) (s:={ s with heap:=s.heap.push { cls:=.type "list",data:=.seq ([]:List c3).toArray } }) (D:=s.heap.objs.size) (c0:=0) (res:=.ref s.heap.objs.size) (R:=λr s'=>∃h' tk acc c as,r=.ok (.ret<|.ref s.heap.objs.size)/\s'={ s with heap:=h',toks:=tk }/\(∀b u,s.heap.get? b=a9 u->h'.get? b=a9 u)/\h'.get? s.heap.objs.size=a9 { cls:=.type "list",data:=.seq acc c }/\as.length=es.size/\PairsAt es s.heap.objs.size h' as/\acc.toList=as.map AAu) (by simp[I]) (let ⟨o,ho,x⟩:=B;⟨o,A1 _ ho,x⟩) (t.to λo e=>A1 _ e) (LZ J) (A9 t.lt) hz (C0 _ rfl) λh' tk acc c as k g p G j=>⟨h',tk,acc,c,as,rfl,rfl,λb u e=>k b u (A9<|A4 e)<|A1 _ e,g,p,⟨G.nd,λa H=>Nat.lt_of_le_of_lt (by show s.heap.objs.size<=(s.heap.push _).objs.size;rw[Mo];exact Oo _)<|G.above a H,G.tup⟩,j⟩
 have i:∀h' tk (acc:Array c3) c as,(∀b u,s.heap.get? b=a9 u->h'.get? b=a9 u)->h'.get? s.heap.objs.size=a9 { cls:=.type "list",data:=.seq acc c }->as.length=es.size->PairsAt es s.heap.objs.size h' as->acc.toList=as.map AAu -> g9 (i3 prog w) A.in1 (do let ob <-load s.heap.objs.size;match ob.data with|.seq xs _=>pure xs.toList|_=>unsupported "internal:collect":Sem (List c3)) (λxs s'=>g9 (i3 prog w) A.in1 (do let l <-newList xs;let _ <-i7 [l] (call (.builtin "list.sort") [l] []);ret l) (λn s'=>∃v,n=Fin.done (Flow.ret v)/\Q v s') E s') E { s with heap:=h',toks:=tk }:=λh' tk acc c as C g p G j=>by refine u7 (wpAny_load g<|u9<|u7<|NY ?_<|by rw[j,w4];lia);rw[j];exact u7<|F3<|J2 (h h' tk as C p G) (λ_ s' q=>u9 ⟨_,rfl,q⟩) λ_ _ z=>z
 refine J2 y (λn s' x=>?_) λe s' ⟨_,_,_,_,_,z,_⟩=>by cases z
 cases n with
 |done f=>obtain⟨h',tk,acc,c,as,z,rfl,C,g,p,G,j⟩:=x;cases z;exact i h' tk acc c as C g p G j
 |again c'=>refine⟨x.1,Oq x.2 ?_⟩;rintro r K ⟨h',tk,acc,c,as,z,e,C,g,p,G,j⟩;subst z e;exact i h' tk acc c as C g p G j
end
noncomputable def uW(H:Hp)(s:List (c8×List V)):Hp:=λb=>match s.lookup b with
 |some vs=>a9<|.tup vs
 |none=>H b
theorem xy{s:List (c8×List V)}{b:c8}{vs:List V}(h:s.lookup b=a9 vs):(b,vs)∈s:=by
 induction s with
 |nil=>cases h
 |cons t s i =>
  rw[Ni]at h;cases e:(b==t.1) with
  |true =>
   rw[e]at h;have:b=t.1:=by simpa using e
   cases h;rw[this];simp
  |false=>rw[e]at h;exact C6 _<|i h
theorem xw:∀{as:List c8}{us:List (List V)}{j:Nat}{a:c8}{q:List V},as.Nodup->as[j]?=a9 a->us[j]?=a9 q->(as.zip us).lookup a=a9 q
 | [],_,_,_,_,_,h,_=>by simp at h
 |_::_,[],_,_,_,_,_,h=>by simp at h
 |b::as,u::us,0,a,q,_,h1,h2=>by simp at h1 h2;subst h1 h2;simp[NI,Ni]
 |b::as,u::us,j+1,a,q,nd,h1,h2=>by
  rw[Ma]at nd;have m:a∈as:=G1 (by simpa using h1);have ne:(a==b)=b9:=by rw[beq_eq_false_iff_ne];rintro rfl;exact nd.1 m
  rw[NI,Ni,ne];exact xw nd.2 (by simpa using h1)<|by simpa using h2
theorem qA{s:List (c8×List V)}{b:c8}(h:∀p∈s,p.1≠b):uW H s b=H b:=by
 unfold uW;cases e:s.lookup b with
 |none=>rfl
 |some vs=>exact t7 rfl<|h _<|xy e
theorem v4.laidT(I:v4 X pins σ H s)(k:∀b u,b≠X.env.locals->s.heap.get? b=a9 u->h'.get? b=a9 u)(t:s.heap.Ns X.env.locals m)(a:h'.Ns X.env.locals m)(i:∀p∈ts,s.heap.get? p.1=b7) (d:∀b vs,ts.lookup b=a9 vs->cA X.prog X.w (uW H ts) h' b (.tup vs)):v4 X pins σ (uW H ts) { s with heap:=h',toks:=t' }:=by
 have l:∀p∈ts,H p.1=b7:=λp hp=>E3.none I.hok<|i p hp;have g:∀b u,s.heap.get? b=a9 u->uW H ts b=H b:=λb u e=>qA λp hp z=>by rw[<-z,i p hp]at e;cases e
 have trk:∀b u,H b=a9 u->uW H ts b=a9 u:=λb u e=>by rw[qA λp hp z=>by rw[<-z,l p hp]at e;cases e];exact e
 refine I.step (g':=s.gens) (d':=s.drawn) (ch:=[]) (λ_ z=>nomatch z) (λb u h _ _ e _=>k b u h e) (λb u h _ _ e _=>⟨u.slots,k b u h e⟩) (λb u _ e n=>by rw[g b u e];exact n) (λb u _ e=>?_) (λb xs q=>trk b _ q) (λb u xs q=>trk b _ q) (λb ps q=>⟨#[],by rw[trk b _ q];simp⟩) (λA o=>?_) (λb w q=>?_) I.bare;by_cases j:b=X.env.locals;subst j;obtain⟨o',_,_,y,_⟩:=a;exact⟨o',y⟩;exact⟨u,k b u j e⟩;have:m=A:=funext λx=>t.agree o x;subst this;exact a;cases e:ts.lookup b with
 |some vs =>
  have:uW H ts b=a9 (.tup vs):=by unfold uW;rw[e]
  rw[this]at q;cases q;exact d b vs e
 |none =>
  have:uW H ts b=H b:=by unfold uW;rw[e]
  rw[this]at q;refine(I.hok b w q).stay (λc v f r=>k c v ?_ r) (λc z=>trk c _ z) λc xs z=>trk c _ z;rcases f with rfl|f;exact ah q I.free;exact ah f I.free
section
variable{K:w9}{ρ:List c8}{H H':Hp}{M:w6}
theorem Grow.more(g:∀b u,H b=a9 u->H' b=a9 u):Grow K ρ H ρ H':=⟨Mz,λa xs h=>by
 rcases h with h|h;rcases h with h|⟨o,h⟩
 exact .inl<|.inl<|g _ _ h;exact .inl<|.inr ⟨o,g _ _ h⟩;exact .inr h⟩
theorem z6.more(S:z6 K ρ M H)(g:∀b u,H b=a9 u->H' b=a9 u):z6 K ρ M H':=⟨S.nd,S.len,λn a m t l=>(S.obj n a m t l).grow (Grow.more g)<|by rcases S.tracked t with⟨o,h⟩|q;exact .inl<|(g _ _ h).trans h.symm;rw[l]at q;exact .inr q⟩
end
section
variable{X:Cx}{o:h7}{to:A3}{apos cpos p pos:Pos}{k:Nat}
noncomputable def bZ(kvs:List (D×D)):List D:=kvs.map λp=>.tup [p.1,p.2]
def hZ(e:A3):A3:=λS M Q=>e S M λd a=>match d with
 |.ref n=>∃kvs,a[n]?=a9 (.dkt kvs)/\SrtOk a (bZ kvs)/\∀ys,ys.Perm (bZ kvs)->xQ a ys->Q (.ref a.length) (a++[.lst ys])
 |_=>False
theorem GD{K:w9}{ρ:List c8}{H:Hp}{kvs:List (D×D)}{xs:List (D×c8×c3)}(r:Paired (zf K ρ H) kvs xs):∃us:List (List V),us.length=kvs.length/\∀(j:Nat) x,xs[j]?=a9 x->∃p v,kvs[j]?=a9 p/\us[j]?=a9 [.ref x.2.1,v]/\v9 K ρ H p.1 (.ref x.2.1)/\v9 K ρ H p.2 v/\aN v x.2.2:=by
 induction r with
 |nil=>exact⟨[],rfl,λj x e=>by simp at e⟩
 |@cons p q ps qs h t i =>
  obtain⟨us,g,u⟩:=i;obtain⟨_,_,a,v,d,k⟩:=h;refine⟨[.ref q.2.1,v]::us,by rw[D7,D7,g],λj x e=>?_⟩;cases j with
  |zero=>simp at e;subst e;exact⟨p,v,rfl,rfl,a,d,k⟩
  |succ j=>exact u j x<|by simpa using e
theorem An{K:w9}{ρ:List c8}{H:Hp}:∀(ds:List D) (as:List c8),ds.length=as.length->(∀(j:Nat) d a,ds[j]?=a9 d->as[j]?=a9 a->v9 K ρ H d (.ref a))->Reps K ρ H ds (as.map V.ref)
 | [],[],_,_=>.nil
 | [],_::_,e,_=>by simp at e
 |_::_,[],e,_=>by simp at e
 |d::ds,a::as,e,h=>.cons (h 0 d a rfl rfl)<|An ds as (by simpa using e) λj d' a' h1 h2=>h (j+1) d' a' (by simpa using h1)<|by simpa using h2
theorem oZ:∀as:List c8,az (as.map V.ref) (as.map AAu)
 | []=>.nil
 |a::as=>.cons rfl<|oZ as
theorem wm(hr:Room k X.A)(hc:X.calm=b8)(ho:DE X o to)(hm:X.mg "sorted" = b7)(hg:X.env.kindOf "sorted" = a9 .globalImplicit)(hs:i5 [NV (.Attribute o "items" apos) [] [] cpos] X.env=[(b9,eval (NV (.Attribute o "items" apos) [] [] cpos) X.env)])(C:n5 o "items" X.env (eval o X.env)=eval o X.env) (D:(apos.endLine==cpos.line)=b8):DE X (.Call (.Name "sorted" p) [.Call (.Attribute o "items" apos) [] [] cpos] [] pos) (hZ to):=by
 rintro c s σ H R I ⟨S,M,ρ,Q,sm,sr,q,kk⟩;refine O0<|nS I hg hm (by rfl) ?_;refine callWith_builtin1 ?_ (by rw[hs];rfl) rfl;rw[hs];refine QI<|QP C D<|A2 (ho c s σ H _ I ⟨S,M,ρ,_,sm,sr,q,λv H' w=>w⟩) ?_;rintro u i ⟨v,f,Z,rv,x,N,d,T,g1,r1,q1⟩;cases r1 with
 |@ref n a hn =>
  cases rv;obtain⟨kvs,hM,so,q2⟩:=(show ∃kvs,N[n]?=a9 (.dkt kvs)/\SrtOk N (bZ kvs)/\∀ys,ys.Perm (bZ kvs)->xQ N ys->Q (.ref N.length) (N++[.lst ys])from q1)
  obtain⟨xs,hH,r,dd,ai,hz,hx,nd⟩:=jU Z T hn hM;obtain⟨es,em,el,eg⟩:=eY Z hH;refine⟨"dict","dict.items",O8,Rw,PySem.F.type_dict_items,dd.typeIs,λb z=>?_,Oa rfl<|QK<|uA ai em ?_⟩;cases z;obtain⟨ob,_,_,h1,h2,_⟩:=dd;exact⟨ob,h1,h2.2.1⟩;refine QB ?_;have L:v4 X c σ f { i with heap:=i.heap.push { cls:=.type "dict_items",data:=.fields #[.ref a] } }:=Z.kept (t':=i.toks) λb o e=>A1 _ e;have O:cN ({ i with heap:=i.heap.push { cls:=.type "dict_items",data:=.fields #[.ref a] } }:f8).heap a es xs.length:=em.to λo e=>A1 _ e;have vw:({ i with heap:=i.heap.push { cls:=.type "dict_items",data:=.fields #[.ref a] } }:f8).heap.IsItemsView i.heap.objs.size a:=⟨_,C0 _ rfl,rfl,rfl⟩
  generalize ({ i with heap:=i.heap.push { cls:=.type "dict_items",data:=.fields #[.ref a] } }:f8)=Y at L O vw ⊢;refine tz (L.ok.hd hc) vw O (by lia) λl tk as kp hl hG=>?_;obtain⟨us,ul,hu⟩:=GD r;obtain⟨m,P,al⟩:=L.loc;have h:l.Ns X.env.locals m:=by obtain⟨o',B,y,e,aH⟩:=P;exact⟨o',B,y,kp _ _ e,aH⟩
  have fr:∀p∈as.zip us,Y.heap.get? p.1=b7:=λp hp=>by
   have lo:=hG.above p.1 (Qu hp).1;cases qq:Y.heap.get? p.1 with
   |none=>rfl
   |some o'=>exact t7 (ND (A4 qq) lo)<|G3 _
  have ag:∀b u,f b=a9 u->uW f (as.zip us) b=a9 u:=λb u e=>by rw[qA λp hp z=>by rw[<-z,E3.none L.hok<|fr p hp]at e;cases e];exact e
  have at_:∀(j:Nat) b,as[j]?=a9 b->∃G x t,kvs[j]?=a9 G/\xs[j]?=a9 x/\us[j]?=a9 [.ref x.2.1,t]/\v9 X.K d f G.1 (.ref x.2.1)/\v9 X.K d f G.2 t/\aN t x.2.2/\l.get? b=a9 { cls:=.type "tuple",data:=.seq #[.ref x.2.1,x.2.2] }:=λj b W=>by have lj:=(C2.mp W).1;have E:xs[j]?=a9 (xs[j]'(by lia)):=A5 (by lia);obtain⟨G,t,e1,J,e3,e4,e5⟩:=hu j _ E;obtain⟨e,f1,U⟩:=hG.tup j b W;obtain⟨e',f3,f4,f5⟩:=eg j _ E;rw[f1]at f3;obtain rfl:=D2 f3;rw[f4,f5]at U;exact⟨G,_,t,e1,E,J,e3,e4,e5,U⟩
  have I3:v4 X c σ (uW f<|as.zip us) { Y with heap:=l,toks:=tk }:=L.laidT (λb u _ e=>kp b u e) P h fr λb vs e=>by obtain⟨j,W⟩:=MB<|xy e;obtain⟨z1,z2⟩:=List.getElem?_zip_eq_some.mp W;obtain⟨G,x,t,_,_,J,_,_,e5,U⟩:=at_ j b z1;rw[show us[j]?=a9 vs from z2]at J;obtain rfl:=D2 J;exact⟨by show (2:Nat)<=sizeLine;rw[L8];lia,[.ref x.2.1,x.2.2],.cons rfl<|.cons e5 .nil,⟨_,U,rfl,⟨0,rfl⟩,rfl⟩⟩
  have gr:Grow X.K d f d (uW f<|as.zip us):=Grow.more ag;have aj:Reps X.K d (uW f<|as.zip us) (bZ kvs) (as.map V.ref):=An _ _ (by unfold bZ;rw[w4];lia) λj ak b h1 h2=>by obtain⟨G,x,t,e0,_,J,e3,e4,_,_⟩:=at_ j b h2;unfold bZ at h1;rw[D8,e0]at h1;obtain rfl:=D2 h1;refine .tup (C7.of<|show uW f (as.zip us) b=a9 (.tup [.ref x.2.1,t])from ?_)<|.cons (e3.grow gr)<|.cons (e4.grow gr) .nil;unfold uW;rw[xw hG.nd h2 J]
  have lL:X.env.locals<l.objs.size:=by obtain⟨o',_,_,e,_⟩:=h;exact A4 e
  have hD:l.get? l.objs.size=b7:=by
   cases qq:l.get? l.objs.size with
   |none=>rfl
   |some o'=>exact t7 (A4 qq)<|G3 _
  refine Ak (s:={ Y with heap:=l,toks:=tk }) (tk:=tk) (n:=0) hr (by show X.A.units+1<=X.A.units+4;lia) I3 (T.more ag) so.g aj (oZ as) h ?_ (λb u _ e=>A1 _ e) hD (LZ lL) (C0 _ rfl) λv H' z=>kk v H'<|VQ.trans (g1.trans gr)<|z Q q2;obtain⟨o',B,y,e,aH⟩:=h;exact⟨o',B,y,A1 _ e,aH⟩
 |_=>exact q1.elim
theorem wb(i:Room k X.A)(m:HE X o to)(d:X.mg "sorted" = b7)(f:X.calm=b8:=by kernel_rfl)(R:X.env.kindOf "sorted" = a9 .globalImplicit:=by kernel_rfl)(hs:i5 [NV (.Attribute o "items" apos) [] [] cpos] X.env=[(b9,eval (NV (.Attribute o "items" apos) [] [] cpos) X.env)]:=by kernel_rfl)(e:n5 o "items" X.env (eval o X.env)=eval o X.env:=by kernel_rfl) (a:(apos.endLine==cpos.line)=b8:=by kernel_rfl):HE X (.Call (.Name "sorted" p) [.Call (.Attribute o "items" apos) [] [] cpos] [] pos) (hZ to):=⟨wm i f m.ok d R hs e a⟩
end
end L2
namespace L2
open PySem PySem.Spec PyProof.Rows DL PySem.W
def Jm:G2:=λx y M Q=>match x,y with
 |.int i,.int j=>IR i j/\Q (.int<|i*2 ^ j.toNat) M
 |_,_=>False
theorem JU:G9 X (j6 .LShift) Jm:=by refine E5.imp JL ?_;rintro f g H R ⟨x,y,M,ρ,Q,m,r,n,q,k⟩;unfold Jm at q;split at q;cases r;cases n;exact⟨_,_,rfl,rfl,q.1,k _ H<|VQ.now m (.int _) q.2⟩;exact q.elim
theorem KH:I0 X (j6 .LShift) Jm:=⟨JU⟩
def At:D6:=λds M Q=>match ds with
 | [.int i,.int j]=>Q (.int<|if j > i then j else i) M
 |_=>False
theorem IC(f:X.calm=b8):kI X (.builtin "max") At:=by
 refine gP.imp (Ce f) ?_;rintro vs H R ⟨ds,M,ρ,Q,m,a,q,k⟩;unfold At at q;split at q
 first|have z:=Reps.inv_cons a|have z:=az.inv_cons a
 clear a;obtain⟨_,_,rfl,r,a⟩:=z
 first|have z:=Reps.inv_cons a|have z:=az.inv_cons a
 clear a;obtain⟨_,_,rfl,n,a⟩:=z;cases a;cases r;cases n;exact⟨_,_,rfl,k _ H<|VQ.now m (.int _) q⟩;exact q.elim
theorem HR(f:X.calm=b8:=by kernel_rfl):HC X (.builtin "max") At:=⟨IC f⟩
theorem yP(i:Room k X.A):HC X (.builtin "sorted") kh:=⟨Cc i⟩
noncomputable def dictOf(ps:List (D×D)):List (D×D):=ps.foldl (λkvs p=>fZ kvs p.1 p.2) []
theorem fE:dictOf (ps++[p])=fZ (dictOf ps) p.1 p.2:=by unfold dictOf;rw[List.foldl_append];rfl
theorem ux:∀(ps kvs:List (D×D)),(ps.foldl (λkvs p=>fZ kvs p.1 p.2) kvs).length<=kvs.length+ps.length
 | [],_=>x5 _
 |p::ps,kvs=>by have h1:=ux ps<|fZ kvs p.1 p.2;have h2:=dj (kvs:=kvs) (k:=p.1) (d:=p.2);rw[List.foldl_cons,D7];lia
theorem kD:(dictOf ps).length<=ps.length:=by have:=ux ps [];rw[D3,Nat.zero_add]at this;exact this
theorem jT:entryFor table "dict.update.loop" = a9 Builtin.«dict.update.loop»:=entryFor_of_tree<|by kernel_rfl
theorem cc:plainId "dict.update.loop" = b8:=by decide +kernel
theorem kx:typeLookup (.type "list") "__getattr__" = pure b7:=by rw[PU,Qb];kernel_rfl
theorem oQ:typeLookup (.type "list") "keys" = pure b7:=by rw[PU,Qb];kernel_rfl
section
variable{prog:c7}{w:c6}{A:f7}{E:c3->f8->Prop}{h:d5}{g:Array GenState}{d:Drawn}{t:Nat}{os:OsState}{a:c8}{o:c9}
theorem Ba(x:h.get? a=a9 o)(i:o.cls=.type "list")(j:o.dict=b7)(b:o.data=.seq its nn)(f:A.handled=b7)(q:∀h' tk e,Heap.NewAttrErr h h' e (.ref a) "keys"->R (.error<|.ref e) ⟨h',g,d,tk,os⟩):k9 (i3 prog w) A (.call (.builtin "list.__getattribute__") ⟨[.ref a,.str "keys" u],[]⟩) R ⟨h,g,d,t,os⟩:=by
 obtain⟨k,l,c,G⟩:=o;obtain rfl:k=.type "list":=i;obtain rfl:l=b7:=j;obtain rfl:c=.seq its nn:=b;have T:(⟨h,g,d,t,os⟩:f8).TypeIs (.ref a) "list":=⟨_,x,rfl⟩
 have m:=oQ;refine codeAny_call_builtin Q1.plain PySem.F.entry_list_ga<|Q1.check _ _ _ _ _ _ _ _ T (PySem.F.args_list_getattribute_2 _ _) ?_;unfold Builtin.«object.__getattribute__»
 repeat (any_goals (first|assumption|wp_step))
 refine wpAny_raiseAttrError (o:=.ref a) (name:="keys") (by first|exact f|simpa using f) q ?_;exact attrMsg_fits (by decide +kernel)<|by size_fits
theorem vQ(x:h.get? a=a9 o)(l:o.cls=.type "list")(j:o.dict=b7)(c:o.data=.seq its nn)(k:A.handled=b7)(q:∀h' tk,(∀b ob,h.get? b=a9 ob->h'.get? b=a9 ob)->Q b7 ⟨h',g,d,tk,os⟩):g9 (i3 prog w) A (getAttr? (.ref a) "keys") Q E ⟨h,g,d,t,os⟩:=by
 obtain⟨m,n,i,G⟩:=o;obtain rfl:m=.type "list":=l;obtain rfl:n=b7:=j;obtain rfl:i=.seq its nn:=c;have T:∀tk,(⟨h,g,d,tk,os⟩:f8).TypeIs (.ref a) "list":=λ_=>⟨_,x,rfl⟩
 have p:=sub_AttributeError;have M:=Q1.lookup;have r:=Q1.bind<|.ref a;have y:=kx;unfold getAttr? getAttrBy? getAttrBy
 repeat (any_goals (first|assumption|exact T _|wp_step))
 refine Ba x rfl rfl rfl (by first|exact k|simpa using k) λh' tk e f=>?_;obtain⟨t',u,s⟩:=f.there;unfold getattributeRaised
 repeat (any_goals (first|assumption|wp_step))
 exact q _ _ f.keeps
end
theorem dsetE(u:(cu prog w).room A)(t:(cu prog w).is s.heap k b)(x:s.heap.DictOfH (cu prog w) d xs) (y:dX d xs prog w s.heap) (hz:xs.length<=sizeLine)(n:∀h',dX d (storedH xs k b v) prog w h'->K5 d s.heap h'->Q () { s with heap:=h',toks:=s.toks+(cu prog w).draws k }):g9 (i3 prog w) A (dictSet d (.ref b) v) Q E s:=by
 obtain⟨_,_,_,_,_,_,_,g,f⟩:=x;obtain⟨o,es,m,r,h,c⟩:=y;have i:es.toList=xs.map (d7<|cu prog w):=c;unfold dictSet
 try with_reducible refine F3 ?_
 refine u7<|(cu prog w).pyHash u t ?_;unfold dictSetHashed
 try with_reducible refine F3 ?_
 have B:es.size=xs.length:=size_of_entries i;refine u7<|wpAny_dictFind_heap (s:={ s with toks:=s.toks+(cu prog w).draws k }) u t m h i g f (λa=>?_) λj p L=>?_;refine u7<|K9<|wpAny_updateDictKeys (hz:=by lia) (s:={ s with toks:=s.toks+(cu prog w).draws k }) m h<|n _ ⟨_,es.push ⟨(cu prog w).hash k,.ref b,v⟩,LQ _ m<|P9<|O1 h _,r.mapDictKeys _,?_,?_⟩<|Mh ..;rw[O1 h,storedH_new<|Qz a,B6];rfl;rw[storedH_new<|Qz a];rw[OV,i,J3];rfl;refine u7<|K9<|u7<|wpAny_updateDict (s:={ s with toks:=s.toks+(cu prog w).draws k }) m h<|wpAny_point<|n _ ⟨_,es.modify j λe=>{ e with val:=v },LQ _ m<|P9<|Qw h _,r.mapDict _,?_,?_⟩<|Mh ..;rw[Qw h,storedH_old<|atKey_of_get f L,w4];rw[storedH_old<|atKey_of_get f L];have q:=modify_map_putAt (d7<|cu prog w) (λe:o6=>{ e with val:=v }) k v (λ_ _=>rfl) f L;rw[<-i]at q;obtain⟨l⟩:=es;have z:(Array.modify ⟨l⟩ j λe:o6=>{ e with val:=v }).toList=(xs.map<|putAt k v).map (d7<|cu prog w):=by simpa using q
 exact z
structure DD(X:Cx)(ρ:List c8)(H:Hp)(h:d5)(a:c8)(kvs:List (D×D))(xs:List (D×c8×c3)):Prop where
 dx:dX a xs X.prog X.w h
 kv:Paired (zf X.K ρ H) kvs xs
 nd:(kvs.map (·.1)).Nodup
theorem DD.at(x:DD X ρ H h a kvs xs)(k:∀o,h.get? a=a9 o->h'.get? a=a9 o):DD X ρ H h' a kvs xs:=by obtain⟨⟨o,es,t,l,Q,I⟩,v,p⟩:=x;exact⟨⟨o,es,k _ t,l,Q,I⟩,v,p⟩
theorem DD.len(x:DD X ρ H h a kvs xs):xs.length=kvs.length:=by
 have:=u5 LY<|fy x.kv
 rwa [w4,w4]at this
theorem DD.of(I:v4 X pins σ H s)(x:DD X ρ H s.heap a kvs xs):s.heap.DictOfH (cu X.prog X.w) a xs:=by obtain⟨o,es,t,l,Q,e⟩:=x.dx;have k:=fy x.kv;refine⟨o,es,_,t,l,Q,e,λy O=>?_,by rw[k];exact x.nd⟩;obtain⟨i,hi⟩:=MB O;obtain⟨p,_,c,j,q,_⟩:=cU x.kv hi;rw[<-c];exact gu I 8 _ _ _ q rfl j
theorem BX(I:v4 X pins σ H s)(hu:A.units+20<j9)(W:Walks X.prog X.w A.in1 J fp wr m P Sx)(S:c8)(x:S∉fp)(N:s.heap.get? S=b7) (E:∀b∈wr,s.heap.get? b=b7) (ps:List (D×D)) (hm:ps.length=m) (C:∀i v,P i v->∃p,ps[i]?=a9 p/\(∃vv,v9 X.K ρ H (.tup [p.1,p.2]) vv/\aN vv v)/\dm 8 p.1=b8/\eX p.1=b8) (hb:m<=1000):∀(k i:Nat) (h:d5) (tk:Nat) (xs:List (D×c8×c3)) (j:Int) (t:Tok),m-i=k->i<=m->Sx i h->DD X ρ H h S (dictOf<|ps.take i) xs->(∀b u,s.heap.get? b=a9 u->h.get? b=a9 u) ->(∀h' tk xs',(∀b u,s.heap.get? b=a9 u->h'.get? b=a9 u)->DD X ρ H h' S (dictOf ps) xs'->R (.ok<|.ret .none) { s with heap:=h',toks:=tk }) ->k9 (i3 X.prog X.w) A (.builtin "dict.update.loop" ⟨[.ref S,.ref J,.int j t,.none],[]⟩) R { s with heap:=h,toks:=tk }:=by
 have y:S∉wr:=λh=>x<|W.sub _ h;intro k;induction k with
 |zero =>
  intro i h tk xs j t hk hi q G f Y;obtain rfl:i=m:=by lia
  refine Mg jT ?_;rw[ML cc _];refine(show g9 (i3 X.prog X.w) A.in1 (j1 (.ref J) >>= _) _ _ _ from u7<|W.done _ _ _ q λh' tk d=>?_);rw[<-hm,MA]at G;refine(show g9 (i3 X.prog X.w) A.in1 (Builtin.Dict.addKeywords S [] >>= _) _ _ _ from u7<|u9<|u9 ?_);exact Y h' tk xs (λb u e=>d b u (λz=>by rw[E b z]at e;cases e)<|f b u e)<|G.at λo e=>d S o y e
 |succ k ih =>
  intro i h tk xs j t hk hi q G f Y;refine Mg jT ?_;rw[ML cc _];refine(show g9 (i3 X.prog X.w) A.in1 (j1 (.ref J) >>= _) _ _ _ from u7<|W.item i _ _ _ (by lia) q λv h' tk hP B d=>?_);obtain⟨p,hp,⟨vv,r,rv⟩,kd,it⟩:=C i v hP;have n:∀b u,s.heap.get? b=a9 u->h'.get? b=a9 u:=λb u e=>d b u (λz=>by rw[E b z]at e;cases e)<|f b u e;have L:v4 X pins σ H { s with heap:=h',toks:=tk }:=I.kept n;have c:=G.at λo e=>d S o y e;have hl:=c.len;have dl:=kD (ps:=ps.take i);have dd:=c.of (s:={ s with heap:=h',toks:=tk }) L;obtain⟨a,vs,rfl,hq,l⟩:=v9.inv_tup r;cases rv
  first|have g:=Reps.inv_cons l|have g:=az.inv_cons l
  clear l;obtain⟨_,_,rfl,r1,l⟩:=g
  first|have g:=Reps.inv_cons l|have g:=az.inv_cons l
  clear l;obtain⟨_,_,rfl,r2,l⟩:=g;cases l;obtain⟨its,U,pl,hz⟩:=L.tuple hq;obtain⟨u1,u2,rfl,Z,e2⟩:=az.two U;obtain⟨k0,d0⟩:=p;cases k0 with
  |tup ks =>
   have F:=gu L 8 _ _ _ r1 Z kd;obtain⟨b,_,rfl,_⟩:=id F;obtain⟨_,_,rfl,Q,V⟩:=v9.inv_tup r1;cases Z;obtain⟨o,ho,hc,nn,hd⟩:=pl;have hT:({ s with heap:=h',toks:=tk }:f8).TypeIs (.ref a) "tuple":=⟨o,ho,hc⟩
   refine u7<|F3<|u7<|wpAny_tryCatch ?_;unfold Builtin.Dict.pairItems;refine u7<|MH hT ?_;rw[t5<|by decide];refine u7<|N3 ho hd<|u9 ?_;refine(show g9 (i3 X.prog X.w) _ (i7 [.ref b,u2]<|dictSet S (.ref b) u2) _ _ _ from F3 ?_);refine dsetE (k:=.tup ks) (s:={ s with heap:=h',toks:=tk }) (by show A.units+1+8<j9;lia) F dd c.dx (ao<|by rw[hl];rw[LO]at dl;lia) λh2 M sb=>?_;have k2:∀b u,b≠S->h'.get? b=a9 u->h2.get? b=a9 u:=λb u hb e=>(sb.2 b hb).trans e;have T:=FD c.kv kd (.tup Q V) r2 e2;have et:ps.take (i+1)=ps.take i++[(.tup ks,d0)]:=by rw[MJ,hp];rfl
   refine u9 ⟨My cc _,ih (i+1) h2 _ _ _ _ (by lia) (by lia) (W.frame _ h' h2 B λb' O o e=>k2 b' o (λz=>x<|z ▸ O) e) ⟨M,?_,?_⟩ (λb u e=>k2 b u (λz=>by rw[z,N]at e;cases e)<|n b u e) Y⟩;rw[et,fE];exact T;rw[et,fE];exact nj c.nd
  |_=>cases it
theorem IE(I:v4 X pins σ H s)(V:A.units+30<j9)(B:A.handled=b7)(C:s.heap.IsList l its)(f:s.heap.get? l=a9 ol)(j:ol.dict=b7)(ps:List (D×D))(P:ps.length=its.size)(y:∀(i:Nat) v,its[i]?=a9 v->∃p:D×D,ps[i]?=a9 p/\(∃vv,v9 X.K ρ H (.tup [p.1,p.2]) vv/\aN vv v)/\dm 8 p.1=b8/\eX p.1=b8) (O:its.size<=1000)(h:∀h' tk xs,(∀b u,s.heap.get? b=a9 u->h'.get? b=a9 u)->DD X ρ H h' s.heap.objs.size (dictOf ps) xs->Q (.ref s.heap.objs.size) { s with heap:=h',toks:=tk }):g9 (i3 X.prog X.w) A (call (.type "dict") [.ref l]) Q E s:=by
 refine callType_codes (Q₁:=λg s₁=>g=.ref s.heap.objs.size/\s₁={ s with heap:=s.heap.push { cls:=.type "dict",data:=.dict #[] } }) Rq (RH _) Rv (kt_code_dict_new _ ⟨rfl,rfl⟩) ?_;rintro g s₁ ⟨rfl,rfl⟩;have S:(s.heap.push { cls:=.type "dict",data:=.dict #[] }).get? s.heap.objs.size=a9 { cls:=.type "dict",data:=.dict #[] }:=C0 _ rfl;have z:Nd { s with heap:=s.heap.push { cls:=.type "dict",data:=.dict #[] } } (.ref s.heap.objs.size) "dict":=⟨_,S,rfl⟩
 obtain⟨a,N,r,Y,n⟩:=id C;obtain rfl:a=ol:=D2<|N.symm.trans f;have c:(s.heap.push { cls:=.type "dict",data:=.dict #[] }).get? l=a9 a:=A1 _ f;have L:Nd { s with heap:=s.heap.push { cls:=.type "dict",data:=.dict #[] } } (.ref l) "list":=⟨a,c,r⟩
 have U:l<s.heap.objs.size:=A4 f;refine⟨z,RB _ _,?_⟩;unfold Builtin.«dict.__init__»;refine u7 ?_;unfold RA;refine u7<|N9 z ?_;refine(show g9 _ _ (pure (s.heap.objs.size,[AAu l])) _ _ _ from u9 ?_);refine(show g9 _ _ (O7 "dict.__init__" s.heap.objs.size (.ref l) [] .none) _ _ _ from ?_);unfold O7;refine u7<|MH L ?_;rw[t5<|by decide];refine u7<|vQ c r j n (by simpa using B) λh1 x F=>?_;have k:∀b u,s.heap.get? b=a9 u->h1.get? b=a9 u:=λb u e=>F b u<|A1 _ e;rw[t5<|show (b7:Option c3).isNone=b8 from rfl];refine u7<|K9 ?_;obtain⟨Z,St,t,W,st⟩:=(TxSrc.list (prog:=X.prog) (w:=X.w) C).iter A.in1.in1 { s with heap:=h1,toks:=x } (by simpa using B) λo e=>k _ _ e;refine u7<|t _ _ ?_;have d:=F _ _ S;have J:s.heap.objs.size<h1.objs.size:=A4 d;have G:s.heap.get? s.heap.objs.size=b7:=by
  cases q:s.heap.get? s.heap.objs.size with
  |none=>rfl
  |some o=>exact t7 (A4 q)<|G3 _
 refine u9 ⟨My cc _,BX (A:=A.in1) (s:=s) I (by show A.units+1+20<j9;lia) W s.heap.objs.size ?_ G ?_ ps P y O its.size 0 _ _ [] _ _ rfl (A8 _) st ⟨⟨_,#[],A1 _ d,⟨rfl,rfl,rfl⟩,rfl,rfl⟩,.nil,N0⟩ (λb u e=>A1 _<|k b u e) λh2 T xs R M=>⟨rfl,h h2 T xs R M⟩⟩;simp only[C3,PZ,or_false,not_or];exact⟨A9 J,LZ U⟩;intro b m;rw[F0.mp m];cases q:s.heap.get? h1.objs.size with
 |none=>rfl
 |some o=>exact t7 (ND (A4 q) J)<|G3 _
def iN:D6:=λds M Q=>match ds with
 | [.ref n]=>∃ps:List (D×D),aq M n (ps.map λp=>.tup [p.1,p.2])/\(∀p∈ps,dm 8 p.1=b8/\eX p.1=b8)/\ps.length<=1000/\Q (.ref M.length) (M++[.dkt<|dictOf ps])
 |_=>False
theorem Cd(G:Room k X.A)(C:X.calm=b8):kI X (.type "dict") iN:=by
 rintro w s σ H vs us R I W ⟨ds,M,ρ,Q,n,b,q,K⟩;have un:=G.un;unfold iN at q;split at q;obtain⟨ps,L,E,hl,q⟩:=q
 first|have z:=Reps.inv_cons b|have z:=az.inv_cons b
 clear b;obtain⟨_,_,rfl,l,b⟩:=z;cases b;obtain⟨u,rfl,t⟩:=az.one W;obtain⟨a,rfl,e⟩:=v9.inv_ref l;cases t;obtain⟨ws,F,r⟩:=aq.seq n L e;obtain⟨its,y,x,hz⟩:=I.list F;obtain⟨oa,nn,g,D,j,h⟩:=id x;have O:=r.length;have li:=y.length;rw[w4]at O;have f:H s.heap.objs.size=b7:=I.hok.fresh<|x5 _;have B:(s.heap.objs.size==d6)=b9:=beq_eq_false_iff_ne.mpr<|D4<|A9 I.big;refine IE (A:=X.A) (ρ:=ρ) I (by lia) (I.ok.hd C) x.isList g j ps (by rw[B5];lia) (λi v J=>?_) (by rw[B5];lia) λh' Y xs N c=>?_;obtain⟨d,Z,t,l,m⟩:=lZ r y (i:=i) (u:=v) (by simpa using J);rw[D8]at t;obtain⟨p,hp,rfl⟩:=MZ.mp t;exact⟨p,hp,⟨Z,l,m⟩,E p<|G1 hp⟩;have dl:=kD (ps:=ps);refine⟨.ref s.heap.objs.size,_,I.laid (a:=s.heap.objs.size) (o:=.ext<|dX s.heap.objs.size xs) (t':=Y) N (x5 _)<|rC c.dx,rfl,?_⟩;exact K _ _ ⟨.ref M.length,M++[.dkt<|dictOf ps],ρ++[s.heap.objs.size],n.laidM (mo:=.dkt<|dictOf ps) f ⟨ao (by lia),B,c.nd,xs,aW,Paired.mapP c.kv λ_ _ ⟨P,S,T,v,U,V⟩=>⟨P,S,T.grow<|Grow.laidR f,v,U.grow<|Grow.laidR f,V⟩⟩,Grow.laidR f,.ref n.last,q⟩;exact q.elim
theorem BF(i:Room k X.A)(f:X.calm=b8:=by kernel_rfl):HC X (.type "dict") iN:=⟨Cd i f⟩
noncomputable abbrev EE(M:w6)(R:DK):DEnds:=⟨λ_ M'=>aZ M R .non M',aZ M R,λ_ _=>False,λ_ _=>False⟩
noncomputable def RJ(n:Nat)(ds:List D):SD:=ds.map a9++PN (n-ds.length) b7
abbrev C1(Pr:A7)(n:Nat)(t:v5):Prop:=∀ds M R,Pr ds M R->t (EE M R) (RJ n ds) M
abbrev cD(Pr:A7)(p:List c5):Prop:=∀ds M R,Pr ds M R->ds.length=p.length
abbrev DerT(P:c7)(w:c6)(K:w9)(mg:c5->Option c3)(base:d5)(k:Nat)(x:c5)(N:List c5)(st:i6)(t:v5):Prop:=∀(f:c8) (cdv:c3) (A:f7) (outer:List Env) (s:f8) (H:Hp) (E:XK),Room k (A.deeper<|PyProof.Rows.envOfC x (aB st) s.heap.objs.size f cdv)->HB (zi LV P w K mg base N x (aB st) f cdv A outer s H E).nox (cr st) t
def xK(c:H9)(t:v5):v5:=λE S M=>∃W:Nat->SD->w6->Prop,(∃m,W m S M)/\∀m S M,W m S M ->c S M λb e=>if b=b8 then t ⟨λd a=>∃j,j < m/\W j d a,E.rt,E.nx,λd a=>∃j,j < m/\W j d a⟩ S e else E.nx S e
theorem yE{K:w9}{c:H9}{o:v5}(E:Ends)(σ:St)(H:Hp)(h:lowS K (xK c o) E σ H):Fs (lowT K c) (lowS K o) E σ H:=by
 obtain⟨S,M,ρ,F,s,G,⟨W,⟨C,J⟩,t⟩,k⟩:=h;refine⟨λm τ i=>∃a M2 d,z6 K d M2 i/\Grow K ρ H d i/\SRep K d i a τ/\W m a M2,⟨C,S,M,ρ,s,.refl,G,J⟩,?_⟩;rintro m τ i ⟨a,M2,d,D,y,r,I⟩;refine⟨a,M2,d,_,D,r,t m a M2 I,?_⟩;rintro b p ⟨l,f,A,g3,q⟩;have g:=y.trans g3;cases b with
 |true =>
  have n:∀e V,SQ K f p (λw u=>∃j,j < m/\W j w u) e V->∃j,j < m/\∃a M2 d,z6 K d M2 V/\Grow K ρ H d V/\SRep K d V a e/\W j a M2:=λe V ⟨x,Z,O,s5,B,L,j,lt,N⟩=>⟨j,lt,x,Z,O,s5,g.trans B,L,N⟩
  refine dN ⟨_,λP H' z=>z,a,l,f,_,A,r.grow g3,(show o _ a l from q),?_⟩;exact⟨n,λv V z=>k.rt v V<|VQ.trans g z,λe V z=>k.nx e V<|SQ.trans g z,n⟩
 |false=>exact dg<|k.nx τ p ⟨a,l,f,A,g,r.grow g3,(show F.nx a l from q)⟩
theorem xA(f:HT X c tc)(d:HB X body tb)(hp:PassesOwn (i3 X.prog X.w) X.A X.env X.xe:=by exact PassesOwn.never):HS X (.While c body [] pos) (xK tc tb):=⟨PS.imp (Db hp f.ok d.ok) yE⟩
theorem qB:typeLookup (.type "tuple") "keys" = pure b7:=by rw[PU,Qb];kernel_rfl
section
variable{prog:c7}{w:c6}{A:f7}{E:c3->f8->Prop}{h:d5}{g:Array GenState}{d:Drawn}{t:Nat}{os:OsState}{a:c8}{o:c9}
theorem CI(x:h.get? a=a9 o)(i:o.cls=.type "tuple")(j:o.dict=b7)(b:o.data=.seq its nn)(f:A.handled=b7)(q:∀h' tk e,Heap.NewAttrErr h h' e (.ref a) "keys"->R (.error<|.ref e) ⟨h',g,d,tk,os⟩):k9 (i3 prog w) A (.call (.builtin "tuple.__getattribute__") ⟨[.ref a,.str "keys" u],[]⟩) R ⟨h,g,d,t,os⟩:=by
 obtain⟨k,l,c,G⟩:=o;obtain rfl:k=.type "tuple":=i;obtain rfl:l=b7:=j;obtain rfl:c=.seq its nn:=b;have T:(⟨h,g,d,t,os⟩:f8).TypeIs (.ref a) "tuple":=⟨_,x,rfl⟩
 have m:=qB;refine codeAny_call_builtin Q3.plain PySem.F.entry_tuple_ga<|Q3.check _ _ _ _ _ _ _ _ T (PySem.F.args_tuple_getattribute_2 _ _) ?_;unfold Builtin.«object.__getattribute__»
 repeat (any_goals (first|assumption|wp_step))
 refine wpAny_raiseAttrError (o:=.ref a) (name:="keys") (by first|exact f|simpa using f) q ?_;exact attrMsg_fits (by decide +kernel)<|by size_fits
theorem pc(x:h.get? a=a9 o)(l:o.cls=.type "tuple")(j:o.dict=b7)(c:o.data=.seq its nn)(k:A.handled=b7)(q:∀h' tk,(∀b ob,h.get? b=a9 ob->h'.get? b=a9 ob)->Q b7 ⟨h',g,d,tk,os⟩):g9 (i3 prog w) A (getAttr? (.ref a) "keys") Q E ⟨h,g,d,t,os⟩:=by
 obtain⟨m,n,i,G⟩:=o;obtain rfl:m=.type "tuple":=l;obtain rfl:n=b7:=j;obtain rfl:i=.seq its nn:=c;have T:∀tk,(⟨h,g,d,tk,os⟩:f8).TypeIs (.ref a) "tuple":=λ_=>⟨_,x,rfl⟩
 have p:=sub_AttributeError;have M:=Q3.lookup;have r:=Q3.bind<|.ref a;have y:=PySem.am_tuple_getattr_none;unfold getAttr? getAttrBy? getAttrBy
 repeat (any_goals (first|assumption|exact T _|wp_step))
 refine CI x rfl rfl rfl (by first|exact k|simpa using k) λh' tk e f=>?_;obtain⟨t',u,s⟩:=f.there;unfold getattributeRaised
 repeat (any_goals (first|assumption|wp_step))
 exact q _ _ f.keeps
end
theorem v4.tupN(I:v4 X pins σ H s)(h:C7 X.K H a xs):∃its:List c3,az xs its/\Fj s.heap a its.toArray/\xs.length<=sizeLine:=by
 rcases h with h|⟨o,its,n,k,f,d,hs,b,r⟩
 obtain⟨z,its,r,p⟩:=h.ok I.hok;exact⟨its,r,p,z⟩;refine⟨its.toList,r,⟨o,I.kIn a o k,f,⟨n,by simpa using hs⟩,d⟩,?_⟩;have e:=r.length;simp only[F5]at e;lia
theorem Ff(I:v4 X pins σ H s)(V:A.units+30<j9)(B:A.handled=b7)(C:s.heap.IsTuple l its)(f:s.heap.get? l=a9 ol)(j:ol.dict=b7)(ps:List (D×D))(P:ps.length=its.size)(y:∀(i:Nat) v,its[i]?=a9 v->∃p:D×D,ps[i]?=a9 p/\(∃vv,v9 X.K ρ H (.tup [p.1,p.2]) vv/\aN vv v)/\dm 8 p.1=b8/\eX p.1=b8) (O:its.size<=1000)(h:∀h' tk xs,(∀b u,s.heap.get? b=a9 u->h'.get? b=a9 u)->DD X ρ H h' s.heap.objs.size (dictOf ps) xs->Q (.ref s.heap.objs.size) { s with heap:=h',toks:=tk }):g9 (i3 X.prog X.w) A (call (.type "dict") [.ref l]) Q E s:=by
 refine callType_codes (Q₁:=λg s₁=>g=.ref s.heap.objs.size/\s₁={ s with heap:=s.heap.push { cls:=.type "dict",data:=.dict #[] } }) Rq (RH _) Rv (kt_code_dict_new _ ⟨rfl,rfl⟩) ?_;rintro g s₁ ⟨rfl,rfl⟩;have S:(s.heap.push { cls:=.type "dict",data:=.dict #[] }).get? s.heap.objs.size=a9 { cls:=.type "dict",data:=.dict #[] }:=C0 _ rfl;have z:Nd { s with heap:=s.heap.push { cls:=.type "dict",data:=.dict #[] } } (.ref s.heap.objs.size) "dict":=⟨_,S,rfl⟩
 obtain⟨a,N,r,Y,n⟩:=id C;obtain rfl:a=ol:=D2<|N.symm.trans f;have c:(s.heap.push { cls:=.type "dict",data:=.dict #[] }).get? l=a9 a:=A1 _ f;have L:Nd { s with heap:=s.heap.push { cls:=.type "dict",data:=.dict #[] } } (.ref l) "tuple":=⟨a,c,r⟩
 have U:l<s.heap.objs.size:=A4 f;refine⟨z,RB _ _,?_⟩;unfold Builtin.«dict.__init__»;refine u7 ?_;unfold RA;refine u7<|N9 z ?_;refine(show g9 _ _ (pure (s.heap.objs.size,[AAu l])) _ _ _ from u9 ?_);refine(show g9 _ _ (O7 "dict.__init__" s.heap.objs.size (.ref l) [] .none) _ _ _ from ?_);unfold O7;refine u7<|MH L ?_;rw[t5<|by decide];refine u7<|pc c r j n (by simpa using B) λh1 x F=>?_;have k:∀b u,s.heap.get? b=a9 u->h1.get? b=a9 u:=λb u e=>F b u<|A1 _ e;rw[t5<|show (b7:Option c3).isNone=b8 from rfl];refine u7<|K9 ?_;obtain⟨Z,St,t,W,st⟩:=(TxSrc.tuple (prog:=X.prog) (w:=X.w) C).iter A.in1.in1 { s with heap:=h1,toks:=x } (by simpa using B) λo e=>k _ _ e;refine u7<|t _ _ ?_;have d:=F _ _ S;have J:s.heap.objs.size<h1.objs.size:=A4 d;have G:s.heap.get? s.heap.objs.size=b7:=by
  cases q:s.heap.get? s.heap.objs.size with
  |none=>rfl
  |some o=>exact t7 (A4 q)<|G3 _
 refine u9 ⟨My cc _,BX (A:=A.in1) (s:=s) I (by show A.units+1+20<j9;lia) W s.heap.objs.size ?_ G ?_ ps P y O its.size 0 _ _ [] _ _ rfl (A8 _) st ⟨⟨_,#[],A1 _ d,⟨rfl,rfl,rfl⟩,rfl,rfl⟩,.nil,N0⟩ (λb u e=>A1 _<|k b u e) λh2 T xs R M=>⟨rfl,h h2 T xs R M⟩⟩;simp only[C3,PZ,or_false,not_or];exact⟨A9 J,LZ U⟩;intro b m;rw[F0.mp m];cases q:s.heap.get? h1.objs.size with
 |none=>rfl
 |some o=>exact t7 (ND (A4 q) J)<|G3 _
def tM:D6:=λds M Q=>match ds with
 | [.tup xs]=>∃ps:List (D×D),xs=ps.map (λp=>.tup [p.1,p.2])/\(∀p∈ps,dm 8 p.1=b8/\eX p.1=b8)/\ps.length<=1000/\Q (.ref M.length) (M++[.dkt<|dictOf ps])
 |_=>False
theorem Fc(F:Room k X.A)(B:X.calm=b8):kI X (.type "dict") tM:=by
 rintro l s σ H vs us R I V ⟨ds,M,ρ,Q,x,b,q,J⟩;have un:=F.un;unfold tM at q;split at q;obtain⟨ps,L,D,hl,q⟩:=q
 first|have z:=Reps.inv_cons b|have z:=az.inv_cons b
 clear b;obtain⟨_,_,rfl,g,b⟩:=z;cases b;obtain⟨u,rfl,t⟩:=az.one V;subst L;obtain⟨a,ws,rfl,E,r⟩:=v9.inv_tup g;cases t;obtain⟨its,w,n,hz⟩:=I.tupN E;obtain⟨oa,e,C,⟨nn,h⟩,j⟩:=id n;have N:=r.length;have li:=w.length;rw[w4]at N;have f:H s.heap.objs.size=b7:=I.hok.fresh<|x5 _;have y:(s.heap.objs.size==d6)=b9:=beq_eq_false_iff_ne.mpr<|D4<|A9 I.big;refine Ff (A:=X.A) (ρ:=ρ) I (by lia) (I.ok.hd B) n.tup e j ps (by rw[B5];lia) (λi v G=>?_) (by rw[B5];lia) λh' W xs K c=>?_;obtain⟨d,Y,t,g,m⟩:=lZ r w (i:=i) (u:=v) (by simpa using G);rw[D8]at t;obtain⟨p,hp,rfl⟩:=MZ.mp t;exact⟨p,hp,⟨Y,g,m⟩,D p<|G1 hp⟩;have Z:=kD (ps:=ps);refine⟨.ref s.heap.objs.size,_,I.laid (a:=s.heap.objs.size) (o:=.ext<|dX s.heap.objs.size xs) (t':=W) K (x5 _)<|rC c.dx,rfl,?_⟩;exact J _ _ ⟨.ref M.length,M++[.dkt<|dictOf ps],ρ++[s.heap.objs.size],x.laidM (mo:=.dkt<|dictOf ps) f ⟨ao (by lia),y,c.nd,xs,aW,Paired.mapP c.kv λ_ _ ⟨O,P,S,v,T,U⟩=>⟨O,P,S.grow<|Grow.laidR f,v,T.grow<|Grow.laidR f,U⟩⟩,Grow.laidR f,.ref x.last,q⟩;exact q.elim
theorem EA(i:Room k X.A)(f:X.calm=b8:=by kernel_rfl):HC X (.type "dict") tM:=⟨Fc i f⟩
inductive TopB(mg:c5->Option c3):List c5->List (c5×Int)->Prop
 |nil:TopB mg [] []
 |b {x:c5}{B:List c5}{C:List (c5×Int)} (h:mg x=b7) (t:TopB mg B C):TopB mg (x::B) C
 |c {x:c5}{i:Int}{C:List (c5×Int)} (h:∃t,mg x=a9 (.int i t)) (t:TopB mg [] C):TopB mg [] ((x,i)::C)
theorem TopB.no(h:TopB mg B C)(c:B.contains x=b8):mg x=b7:=by
 induction h with
 |nil=>simp at c
 |b h _ i=>simp only[List.contains_cons,Qr,t9]at c;rcases c with rfl|c;exact h;exact i c
 |c _ _ _=>simp at c
noncomputable def nodB:List c5->Bool
 | []=>b8
 |x::xs=>!xs.contains x&&nodB xs
theorem JZ:∀{l:List c5},nodB l=b8->l.Nodup
 | [],_=>N0
 |x::xs,h=>by simp only[nodB,G0,Bool.not_eq_true',List.contains_eq_mem,decide_eq_false_iff_not]at h;exact Ma.mpr ⟨h.1,JZ h.2⟩
noncomputable def tgN:h7->List c5
 |.Name x _=>[x]
 |.Tuple es _ _=>es.filterMap fun|.Name x _=>a9 x|_=>b7
 |_=>[]
noncomputable abbrev NN(N:List c5)(js:List Nat)(tg:h7):List c5:=tgN tg++js.map λj=>N.getD j ""
theorem k_lcN(hi:HI X tg iter di)(R:∀cl s0 H0 ex,HG (C8 X (NN X.N js tg) scope cl s0 H0 ex) tg g)(t:∀cl s0 H0 ex,OJ (C8 X (NN X.N js tg) scope cl s0 H0 ex) ifs tt)(i:∀cl s0 H0 ex,HE (C8 X (NN X.N js tg) scope cl s0 H0 ex) elt te)(B:ql X.env.scope.names X.N (NN X.N js tg) nt js scope=b8:=by kernel_rfl) (f:X.calm=b8:=by kernel_rfl) (hs:∀x,j5 iter X.env x=pure x:=by intro _;kernel_rfl):HE X (.ListComp elt [⟨tg,iter,ifs,0⟩] scope pos) (F6 nt js di g tt te):=k_lc hi R t i B f hs
theorem uu(a:X.N.Nodup)(hi:HI X tg iter di)(R:∀cl s0 H0 ex,HG (C8 X (NN X.N js tg) scope cl s0 H0 ex) tg g)(t:∀cl s0 H0 ex,OJ (C8 X (NN X.N js tg) scope cl s0 H0 ex) ifs tt)(e:∀cl s0 H0 ex,HE (C8 X (NN X.N js tg) scope cl s0 H0 ex) elt te)(B:ql X.env.scope.names X.N (NN X.N js tg) nt js scope=b8:=by kernel_rfl) (f:X.calm=b8:=by kernel_rfl) (hs:∀x,j5 iter X.env x=pure x:=by intro _;kernel_rfl) (w:i8 (.ListComp elt [⟨tg,iter,ifs,0⟩] scope pos) (a9<|.Name x pos') pos2.line X.env=pure b8:=by kernel_rfl)(h:X.N[i]?=a9 x:=by kernel_rfl) (c:IL X.env.scope x=b8:=by kernel_rfl) (b:X.fn x=b8:=by kernel_rfl):HS X (.Assign [.Name x pos'] (.ListComp elt [⟨tg,iter,ifs,0⟩] scope pos) pos2) (gK nt js di g tt te i):=Ea a hi R t e B f hs w h c b
theorem gA(h:HA X es t):HA X es t:=h
theorem gE(h:HE X e te):HE X e te:=h
theorem gCall(h:HE X (.Call a b c pos) te):HE X (.Call a b c pos) te:=h
theorem gIx(h:HE X (.Subscript a b pos) te):HE X (.Subscript a b pos) te:=h
theorem KW(h:HE X (.Constant a b pos) te):HE X (.Constant a b pos) te:=h
theorem gT(h:HT X e tt):HT X e tt:=h
theorem gS{st:i6}{t:v5}(h:HS X st t):HS X st t:=h
theorem gOp(h:I0 X f r):I0 X f r:=h
theorem gC(h:HC X f r):HC X f r:=h
theorem HU{b:List i6}{st:i6}{s:List i6}{t:v5}(h:b=st::s)(q:HB X (st::s) t):HB X b t:=h ▸ q
section
variable{P:c7}{w:c6}{K:w9}{mg:c5->Option c3}{base:d5}{x:c5}{st:i6}{N ps:List c5}{k:Nat}{Pr:A7}{B:List c5}{C:List (c5×Int)}{t:v5}
theorem x6.byD(T:TopB mg B C)(F:cB K mg x st ps)(i:FnScope N ps (aB st))(n:cD Pr ps)(r:TopB mg B C->N.Nodup->DerT P w K mg base k x N st t)(p:∀ds M R,Pr ds M R->t (EE M R) (fW N ds) M):x6 P w K mg base (k+1) x ps Pr:=x6.byH F i n (r T i.nd) p
theorem ED(T:TopB mg B C)(F:MQ K x x st f fd)(i:FnScope N ps (aB st))(n:cD Pr ps)(r:TopB mg B C->N.Nodup->DerT P w K mg base k x N st t)(p:∀ds M R,Pr ds M R->t (EE M R) (fW N ds) M):FnOk P w K mg base LV (k+1) f fd ps (MN K Pr):=EC F i n (r T i.nd) p
end
theorem wn(m:s.heap.get? l=a9 o)(f:o.cls=.type "list"\/o.cls=.type "tuple")(d:o.data=.seq vs.toArray n)(h:Q vs { s with heap:=(s.heap.push<|o8 "list" #[] 0).update s.heap.objs.size (G6 (· ++ vs.toArray)) }) (z:vs.length<=sizeLine):g9 (i3 prog w) A (collect<|.ref l) Q E s:=by
 rcases f with f|f;exact collect_list ⟨o,m,f,n,d⟩ h z;unfold collect;refine u7<|wpAny_runValue<|Mg entry_proto_collect' ?_;show g9 _ _ (do again (.builtin "list.__iadd__" ⟨[<-newList [],.ref l],[]⟩)) _ _ s;refine u7<|NY (u9 ⟨Code.quiet_builtin _ (by decide +kernel),Mg entry_list_iadd' ?_⟩)<|A8 _;show g9 _ _ (Pc (.ref s.heap.objs.size) (.ref l)<|.ref s.heap.objs.size) _ _ { s with heap:=s.heap.push (o8 "list" #[] 0) };unfold Pc;have a:(s.heap.push<|o8 "list" #[] 0).get? l=a9 o:=A1 _ m;refine u7<|MH (T:="tuple") ⟨o,a,f⟩ ?_;have B:(MG "tuple" == MG "tuple")=b8:=by rfl
 rw[t5<|by rw[B];simp];refine u7<|PC a d ?_;refine u7<|PC (xs:=#[]) (n:=0) (C0 _ rfl) rfl ?_;rw[t6<|by simp];refine u7 (Ot (xs:=#[]) (n:=0) (C0 _ rfl) rfl ?_ (A8 _)<|by show (#[]++vs.toArray).size<=sizeLine+1;simp only[Array.size_append,B5,D3];lia);refine u9 ?_;show g9 (i3 prog w) A (do
   let o <-load s.heap.objs.size
   match o.data with
   |.seq xs _=>pure xs.toList
   |_=>unsupported "internal:collect") Q E { s with heap:=(s.heap.push<|o8 "list" #[] 0).update s.heap.objs.size (G6 (· ++ vs.toArray)) }
 refine u7<|wpAny_load (Ox (C0 _ rfl) _) ?_;show g9 _ _ (pure ((#[]:Array c3)++vs.toArray).toList) Q E _;rw[show ((#[]:Array c3)++vs.toArray).toList=vs by simp];exact u9 h
structure RK(X:Cx)(pins:List (c8×c9))(H:Hp)(a:c8):Prop where
 un:H a=b7
 ne:a≠X.env.locals
 fs:a∉X.fs
 s0:X.s₀.heap.objs.size<=a
 cl:∀x c,X.env.cells.lookup x=a9 c->c≠a
 pn:∀p∈X.pn++pins,p.1≠a
structure KySt(X:Cx)(pins:List (c8×c9))(σ:St)(ρ:List c8)(M:w6)(m:c5->Option c3)(kS aD:c8)(e1:Nat)(H0 H:Hp)(s:f8)(ks:List c3)(e:Nat):Prop where
 inv:v4 X pins σ H s
 ns:s.heap.Ns X.env.locals m
 sm:z6 X.K ρ M H
 gr:Grow X.K ρ H0 ρ H
 hk:s.heap.get? kS=a9 (o8 "list" (PD ks) e)
 hd:s.heap.get? aD=a9 (o8 "list" #[] e1)
 ok:RK X pins H kS
 od:RK X pins H aD
 ne:aD≠kS
theorem fr_no(n:h.Ns L m):Fr (Att.noObjs h0) L h m:=⟨n,λb o e=>(by rw[Att.noObjs_get]at e;cases e),A8 _⟩
theorem GR(b:d≠L)(m:h.get? d=a9 od):News (Att.noObjs h0) L h ((d,od)::Att.ledger h L d):=by rintro⟨a,o⟩ hp;rcases C3.mp hp with e|hp;cases e;exact⟨m,b,Att.noObjs_get _ _⟩;obtain⟨n,p,e⟩:=Att.mem_ledger.mp hp;exact⟨e,n,Att.noObjs_get _ _⟩
theorem tX(N:News (Att.noObjs h0) L h' ((d,o)::Att.ledger h L d)):∀b u,b≠L->b≠d->h.get? b=a9 u->h'.get? b=a9 u:=λb u h1 h2 e=>(N (b,u)<|C6 _<|Att.mem_ledger.mpr ⟨h1,h2,e⟩).1
structure BlkScC(X:Cx)(N':List c5)(nt:Nat)(js:List Nat)(scope:f9):Prop where
 kind:scope.kind=.function
 kinds:∀y∈scope.names,scope.names.lookup y.1=a9 y.2
 free:∀y∈scope.names,y.2=.free->(X.env.kindOf y.1=a9 .cell\/X.env.kindOf y.1=a9 .free)
 len:N'.length=nt+js.length
 fr:∀(k j:Nat),js[k]?=a9 j->∃x,N'[nt+k]?=a9 x/\X.N[j]?=a9 x/\scope.names.lookup x=a9 .free/\(X.env.kindOf x=a9 .cell\/X.env.kindOf x=a9 .free)
structure CfOk(h:d5)(k:Nat)(names:List (c5×m3))(acc cs:List (c5×c8)):Prop where
 look:∀z c,cs.lookup z=a9 c->(acc.lookup z=a9 c/\(z,NZ)∉names)\/((z,NZ)∈names/\k<=c/\h.IsCell c b7)
 inj:∀y z c,cs.lookup y=a9 c->cs.lookup z=a9 c->y=z
 old:∀z c,acc.lookup z=a9 c->∃c',cs.lookup z=a9 c'
 new:∀z,(z,NZ)∈names->∃c,cs.lookup z=a9 c
def Iu(i:Nat):L6:=ap i
theorem ma{K:w9}{ρ:List c8}{H:Hp}:∀{kvs:List (c5×D)}{vs:List V},Reps K ρ H (kvs.map (·.2)) vs->gd kvs k=b7->wA (jo (kvs.map (·.1)) vs) (ABo k)=b7
 | [],_,_,_=>by rfl
 |(k',d')::kvs,_,.cons (v:=v) (vs:=vs) h t,e=>by
  have hk:k'≠k:=λz=>by subst z;simp[gd]at e
  have e':gd kvs k=b7:=by
   have:gd ((k',d')::kvs) k=gd kvs k:=by simp[gd,hk]
   rw[<-this];exact e
  have q:=ma t e';show wA ((ABo k',v)::jo (kvs.map (·.1)) vs) (ABo k)=b7;rw[qy<|λz=>hk<|by injection z];exact q
def Pm(r:Nat->D6)(e:A3)(t:I9):A3:=λS M Q=>e S M λx a=>match x with
 |.ref n=>(∃kvs,a[n]?=a9 (.dct kvs))/\t S a λds M2=>r n ds M2 Q
 |_=>False
theorem d_mk{X:Cx}{o:h7}{name:c5}{id:String}{e:h7}{es:List h7}{N:A3}{t:I9}{d c:Pos}(slot:Slot "dict" name id)(y:m9 (.builtin id)=pure (.type "method_descriptor"))(Y:K3 X id (kw X.K r))(Z:DE X o N)(W:DA X (e::es) t)(f:n5 o name X.env (eval o X.env)=eval o X.env:=by rfl)(i:((i4 c<|i5 (e::es) X.env).all (λx=>!x.1)&&(n9 c<|o0 [] X.env).all (λx=>x.1.isSome) && decide ((e::es).length+([]:List o4).length+(if ([]:List o4).isEmpty then 0 else 1)<30))=b8:=by rfl)(g:(d.endLine==c.line)=b8:=by rfl) (hs:i5 (e::es) X.env=(b9,eval e X.env)::i5 es X.env:=by rfl) (h:(i4 c<|i5 es X.env).any (·.1)=b9:=by rfl):DE X (.Call (.Attribute o name d) (e::es) [] c) (Pm r N t):=by
 rintro p s σ H R I ⟨S,M,ρ,Q,sm,L,q,kk⟩;refine QO f i g rfl<|A2 (Z p s σ H _ I ⟨S,M,ρ,_,sm,L,q,λv H' z=>z⟩) ?_;rintro u s1 ⟨v,O,D,rv,x,l,B,j,g1,r1,k⟩;cases r1 with
 |@ref n a J =>
  cases rv;obtain⟨⟨kvs,V⟩,k⟩:=(show (∃kvs,l[n]?=a9 (.dct kvs))/\t S l _ from k)
  obtain⟨ws,U,_⟩:=j.obj _ _ _ J V;obtain⟨z1,z2,ag,ai,E⟩:=Iq D.hok U;refine⟨"dict",id,O8,slot,y,E.typeIs,λb z=>?_,?_⟩;cases z;obtain⟨ob,_,_,h1,h2,_⟩:=E;exact⟨ob,h1,h2.2.1⟩;have G:=W c p s1 σ O _ D ⟨S,l,B,_,j,L.grow g1,k,λvs H' z=>z⟩;rw[hs]at G ⊢;refine Oa (by show (b9||(i4 c<|i5 es X.env).any (·.1))=b9;rw[h]<;>rfl)<|QL ?_;refine A2 G ?_;rintro us s2 ⟨vs,P,T,m,ds,M2,C,A,F,rr,q2⟩;exact Y p s2 σ P (.ref a) vs (.ref a) us R T rfl m ⟨n,a,ds,M2,C,Q,rfl,ar F.pre J,A,rr,q2,λv H' w=>kk v H'<|VQ.trans (g1.trans F) w⟩
 |_=>exact k.elim
def xk(n:Nat):D6:=λds M Q=>match ds with
 | [.str x,d]=>∃kvs,M[n]?=a9 (.dct kvs)/\Q ((gd kvs x).getD d) M
 |_=>False
theorem DN{X:Cx}:K3 X "dict.get" (kw X.K xk):=by
 rintro p s σ H x xs v us R I F E ⟨n,a,ds,M,ρ,Q,j,y,m,f,q,C⟩;unfold xk at q;split at q;rename_i x d;obtain⟨kvs,u,q⟩:=q;have z:=Reps.inv_cons f;clear f;obtain⟨_,_,rfl,B,f⟩:=z;have z:=Reps.inv_cons f;clear f;obtain⟨_,_,rfl,D,f⟩:=z;obtain rfl:=Reps.inv_nil f;obtain rfl:=v9.inv_str B;obtain⟨P,G,rfl,t,g⟩:=az.two E;subst j;obtain rfl:v=AAu a:=F;obtain⟨L,o,r⟩:=m.obj _ _ _ y u;obtain⟨N,J,A,l,e⟩:=Iq I.hok o;refine Op O4 e.typeIs Rs (Rx _ _ _) (meets_dict_get_default (bR X.prog X.w) a (Bu (k:=ABo x) t) J G) ⟨_,e.mapOf,?_⟩;cases c:gd kvs x with
 |none=>rw[c]at q;exact⟨_,H,I.tok _,(by have:=(l.val<|ABo x).getD g;rw[ma r c]at this;exact this),C _ _ ⟨d,M,ρ,m,.refl,D,q⟩⟩
 |some h=>rw[c]at q;obtain⟨Y,i,b⟩:=jw r c;exact⟨_,H,I.tok _,(by have:=(l.val<|ABo x).getD g;rw[i]at this;exact this),C _ _ ⟨h,M,ρ,m,.refl,b,q⟩⟩
 exact q.elim
def xj(n:Nat):D6:=λds M Q=>match ds with
 | [.str x,d]=>∃kvs,M[n]?=a9 (.dct kvs)/\kvs.length<sizeLine/\(∀y,gd kvs x=a9 y->Q y M)/\(gd kvs x=b7->Q d (M.set n<|.dct<|lJ kvs x d))
 |_=>False
theorem DM:K3 X "dict.setdefault" (kw X.K xj):=by
 rintro E s σ H x xs v us R I rx rs ⟨n,a,ds,M,ρ,Q,P,C,p,f,q,D⟩;unfold xj at q;split at q;rename_i x d;obtain⟨kvs,B,hl,W,Y⟩:=q;have z:=Reps.inv_cons f;clear f;obtain⟨_,_,rfl,Z,f⟩:=z;have z:=Reps.inv_cons f;clear f;obtain⟨_,vd,rfl,G,f⟩:=z;obtain rfl:=Reps.inv_nil f;obtain rfl:=v9.inv_str Z;obtain⟨u1,J,rfl,O,y⟩:=az.two rs;subst P;obtain rfl:v=AAu a:=rx;obtain⟨ws,m,r⟩:=p.obj _ _ _ C B;obtain⟨z1,N,A,l,u⟩:=Iq I.hok m;refine Op QY u.typeIs PySem.F.entry_dict_setdefault (PySem.F.args_dict_setdefault_3 _ _ _) (kt_meets_setdefault (bR X.prog X.w) a (Bu (k:=ABo x) O) N J) ⟨A,u,by rw[<-l.length];exact z1,λw' i=>?_,λi h' b sb=>?_⟩;cases c:gd kvs x with
 |none=>have:=l.val<|ABo x;rw[ma r c,i]at this;exact this.elim
 |some t=>obtain⟨w0,j,g⟩:=jw r c;have:=l.val<|ABo x;rw[j,i]at this;exact⟨_,H,I.tok _,this,D _ _ ⟨t,M,ρ,p,.refl,g,W _ c⟩⟩
 cases c:gd kvs x with
 |some t=>obtain⟨w0,j,g⟩:=jw r c;have:=l.val<|ABo x;rw[j,i]at this;exact this.elim
 |none =>
  obtain⟨h,S,e⟩:=Au (k:=x) G r;obtain⟨w1,L⟩:=p.writeD C B m e;have T:∃q,h'.get? a=a9 q:=let ⟨q,_,_,hq,_⟩:=b;⟨q,hq⟩
  have lw:=r.length;have o:KV (jo ((lJ kvs x d).map (·.1)) h) (stored A (ABo x) J):=by rw[<-S];exact l.put (ABo x) y
  have V:(jo ((lJ kvs x d).map (·.1)) h).length<=sizeLine:=by
   have U:=e.length;have l2:(lJ kvs x d).length<=kvs.length+1:=by unfold lJ;split<;>simp
   rw[w4]at U;rw[jo,w4,List.length_zip,w4];lia
  exact⟨_,_,wk I (by rw[m];exact True.intro) sb T<|FN V N o b,y,D _ _ ⟨d,_,ρ,w1,L,G.grow L,Y c⟩⟩
 exact q.elim
theorem Hu(m:HE X o to)(f:HA X (e::es) t)(h:n5 o "get" X.env (eval o X.env)=eval o X.env:=by kernel_rfl)(w:((i4 cpos<|i5 (e::es) X.env).all (λx=>!x.1)&&(n9 cpos<|o0 [] X.env).all (λx=>x.1.isSome) && decide ((e::es).length+([]:List o4).length+(if ([]:List o4).isEmpty then 0 else 1)<30))=b8:=by kernel_rfl)(a:(apos.endLine==cpos.line)=b8:=by kernel_rfl) (hs:i5 (e::es) X.env=(b9,eval e X.env)::i5 es X.env:=by kernel_rfl) (n:(i4 cpos<|i5 es X.env).any (·.1)=b9:=by kernel_rfl):HE X (.Call (.Attribute o "get" apos) (e::es) [] cpos) (Pm xk to t):=⟨d_mk O4 Rn DN m.ok f.ok h w a hs n⟩
theorem Hs(m:HE X o to)(f:HA X (e::es) t)(h:n5 o "setdefault" X.env (eval o X.env)=eval o X.env:=by kernel_rfl)(w:((i4 cpos<|i5 (e::es) X.env).all (λx=>!x.1)&&(n9 cpos<|o0 [] X.env).all (λx=>x.1.isSome) && decide ((e::es).length+([]:List o4).length+(if ([]:List o4).isEmpty then 0 else 1)<30))=b8:=by kernel_rfl)(a:(apos.endLine==cpos.line)=b8:=by kernel_rfl) (hs:i5 (e::es) X.env=(b9,eval e X.env)::i5 es X.env:=by kernel_rfl) (n:(i4 cpos<|i5 es X.env).any (·.1)=b9:=by kernel_rfl):HE X (.Call (.Attribute o "setdefault" apos) (e::es) [] cpos) (Pm xj to t):=⟨d_mk QY PySem.F.type_dict_setdefault DM m.ok f.ok h w a hs n⟩
noncomputable def jV(ps:List (c5×D)):List (c5×D):=ps.foldl (λkvs p=>lJ kvs p.1 p.2) []
theorem qf:jV (ps++[p])=lJ (jV ps) p.1 p.2:=by unfold jV;rw[List.foldl_append];rfl
theorem uF(ps:List (c5×D)):(jV ps).length<=ps.length:=by
 have:∀(ps acc:List (c5×D)),(ps.foldl (λkvs p=>lJ kvs p.1 p.2) acc).length<=acc.length+ps.length:=by
  intro ps;induction ps with
  |nil=>intro acc;exact x5 _
  |cons p ps i=>intro acc;have h1:=i<|lJ acc p.1 p.2;have h2:=xm (kvs:=acc) (k:=p.1) (d:=p.2);rw[List.foldl_cons,D7];lia
 have h:=this ps [];rw[D3]at h;unfold jV;lia
def OL(X:Cx)(ρ:List c8)(H:Hp)(h:d5)(a:c8)(kvs:List (c5×D)):Prop:=∃s us,Reps X.K ρ H (kvs.map (·.2)) s/\KV (jo (kvs.map (·.1)) s) us/\h.DictOf (bR X.prog X.w) a us
theorem OL.at(x:OL X ρ H h a kvs)(k:∀o,h.get? a=a9 o->h'.get? a=a9 o):OL X ρ H h' a kvs:=by obtain⟨s,us,r,l,o,es,i,t,aH⟩:=x;exact⟨s,us,r,l,o,es,i,k _ t,aH⟩
theorem FE{X:Cx}{H:Hp}{ρ:List c8}{kvs:List (c5×D)}{s:List V}{us:List (F7×c3)}(r:Reps X.K ρ H (kvs.map (·.2)) s)(l:KV (jo (kvs.map (·.1)) s) us):us.length=kvs.length/\(jo (kvs.map (·.1)) s).length=kvs.length:=by
 have t:=r.length;have e:=l.length;rw[w4]at t;have Q:(jo (kvs.map (·.1)) s).length=kvs.length:=by rw[jo,w4,List.length_zip,w4];lia
 lia
theorem Ij{X:Cx}{pins:List (c8×c9)}{σ:St}{H:Hp}{ρ:List c8}{A:f7}{s:f8}(I:v4 X pins σ H s)(hu:A.units+20<j9)(W:Walks X.prog X.w A.in1 J fp wr m P Sx)(S:c8)(l:S∉fp)(L:s.heap.get? S=b7) (B:∀b∈wr,s.heap.get? b=b7) (ps:List (c5×D)) (hm:ps.length=m) (y:∀i v,P i v->∃p:c5×D,ps[i]?=a9 p/\∃vv,v9 X.K ρ H (.tup [.str p.1,p.2]) vv/\aN vv v) (O:m<=1000):∀(k i:Nat) (h:d5) (tk:Nat) (j:Int) (t:Tok),m-i=k->i<=m->Sx i h->OL X ρ H h S (jV<|ps.take i)->(∀b u,s.heap.get? b=a9 u->h.get? b=a9 u) ->(∀h' tk,(∀b u,s.heap.get? b=a9 u->h'.get? b=a9 u)->OL X ρ H h' S (jV ps)->R (.ok<|.ret .none) { s with heap:=h',toks:=tk }) ->k9 (i3 X.prog X.w) A (.builtin "dict.update.loop" ⟨[.ref S,.ref J,.int j t,.none],[]⟩) R { s with heap:=h,toks:=tk }:=by
 have n:S∉wr:=λh=>l<|W.sub _ h;intro k;induction k with
 |zero =>
  intro i h tk j t hk hi g F c Y;obtain rfl:i=m:=by lia
  refine Mg jT ?_;rw[ML cc _];refine(show g9 (i3 X.prog X.w) A.in1 (j1 (.ref J) >>= _) _ _ _ from u7<|W.done _ _ _ g λh' tk d=>?_);rw[<-hm,MA]at F;refine(show g9 (i3 X.prog X.w) A.in1 (Builtin.Dict.addKeywords S [] >>= _) _ _ _ from u7<|u9<|u9 ?_);exact Y h' tk (λb u e=>d b u (λz=>by rw[B b z]at e;cases e)<|c b u e)<|F.at λo e=>d S o n e
 |succ k ih =>
  intro i h tk j t hk hi g F c Y;refine Mg jT ?_;rw[ML cc _];refine(show g9 (i3 X.prog X.w) A.in1 (j1 (.ref J) >>= _) _ _ _ from u7<|W.item i _ _ _ (by lia) g λv h' tk hP q d=>?_);obtain⟨p,hp,vv,r,rv⟩:=y i v hP;have f:∀b u,s.heap.get? b=a9 u->h'.get? b=a9 u:=λb u e=>d b u (λz=>by rw[B b z]at e;cases e)<|c b u e;have I':v4 X pins σ H { s with heap:=h',toks:=tk }:=I.kept f;obtain⟨ws,us,Z,C,dd⟩:=F.at λo e=>d S o n e;have hl:=(FE Z C).1;have dl:=uF<|ps.take i;rw[LO]at dl;obtain⟨a,vs,rfl,hq,E⟩:=v9.inv_tup r;obtain rfl:v=AAu a:=rv;obtain⟨_,_,rfl,r1,E⟩:=Reps.inv_cons E;obtain⟨_,vd,rfl,r2,E⟩:=Reps.inv_cons E;obtain rfl:=Reps.inv_nil E;obtain rfl:=v9.inv_str r1;obtain⟨its,U,pl,hz⟩:=I'.tuple hq;obtain⟨u1,u2,rfl,e1,e2⟩:=az.two U;obtain⟨x,d0⟩:=p;obtain⟨o,T,hc,nn,hd⟩:=pl;have hT:({ s with heap:=h',toks:=tk }:f8).TypeIs (.ref a) "tuple":=⟨o,T,hc⟩
  refine u7<|F3<|u7<|wpAny_tryCatch ?_;unfold Builtin.Dict.pairItems;refine u7<|MH hT ?_;rw[t5<|by decide];refine u7<|N3 T hd<|u9 ?_;refine(show g9 (i3 X.prog X.w) _ (i7 [u1,u2]<|dictSet S u1 u2) _ _ _ from F3 ?_);refine wpAny_dictSet_pairs (s:={ s with heap:=h',toks:=tk }) (Bu (k:=ABo x) e1) dd (λh2 G sb=>?_) (ao<|by lia);have V:∀b u,b≠S->h'.get? b=a9 u->h2.get? b=a9 u:=λb u O e=>(sb.2 b O).trans e;obtain⟨N,f1,Q⟩:=Au (k:=x) r2 Z;have et:ps.take (i+1)=ps.take i++[(x,d0)]:=by rw[MJ,hp];rfl
  refine u9 ⟨My cc _,ih (i+1) h2 _ _ _ (by lia) (by lia) (W.frame _ h' h2 q λb' M o e=>V b' o (λz=>l<|z ▸ M) e) ?_ (λb u e=>V b u (λz=>by rw[z,L]at e;cases e)<|f b u e) Y⟩;rw[et,qf];exact⟨N,_,Q,by rw[<-f1];exact C.put (ABo x) e2,G⟩
theorem Fe(I:v4 X pins σ H s)(Y:A.units+30<j9)(B:A.handled=b7)(C:s.heap.IsTuple l its)(f:s.heap.get? l=a9 ol)(j:ol.dict=b7)(ps:List (c5×D))(R:ps.length=its.size)(y:∀(i:Nat) v,its[i]?=a9 v->∃p:c5×D,ps[i]?=a9 p/\∃vv,v9 X.K ρ H (.tup [.str p.1,p.2]) vv/\aN vv v) (O:its.size<=1000)(h:∀h' tk,(∀b u,s.heap.get? b=a9 u->h'.get? b=a9 u)->OL X ρ H h' s.heap.objs.size (jV ps)->Q (.ref s.heap.objs.size) { s with heap:=h',toks:=tk }):g9 (i3 X.prog X.w) A (call (.type "dict") [.ref l]) Q E s:=by
 refine callType_codes (Q₁:=λg s₁=>g=.ref s.heap.objs.size/\s₁={ s with heap:=s.heap.push { cls:=.type "dict",data:=.dict #[] } }) Rq (RH _) Rv (kt_code_dict_new _ ⟨rfl,rfl⟩) ?_;rintro g s₁ ⟨rfl,rfl⟩;have S:(s.heap.push { cls:=.type "dict",data:=.dict #[] }).get? s.heap.objs.size=a9 { cls:=.type "dict",data:=.dict #[] }:=C0 _ rfl;have z:Nd { s with heap:=s.heap.push { cls:=.type "dict",data:=.dict #[] } } (.ref s.heap.objs.size) "dict":=⟨_,S,rfl⟩
 obtain⟨a,N,r,Z,n⟩:=id C;obtain rfl:a=ol:=D2<|N.symm.trans f;have c:(s.heap.push { cls:=.type "dict",data:=.dict #[] }).get? l=a9 a:=A1 _ f;have L:Nd { s with heap:=s.heap.push { cls:=.type "dict",data:=.dict #[] } } (.ref l) "tuple":=⟨a,c,r⟩
 have V:l<s.heap.objs.size:=A4 f;refine⟨z,RB _ _,?_⟩;unfold Builtin.«dict.__init__»;refine u7 ?_;unfold RA;refine u7<|N9 z ?_;refine(show g9 _ _ (pure (s.heap.objs.size,[AAu l])) _ _ _ from u9 ?_);refine(show g9 _ _ (O7 "dict.__init__" s.heap.objs.size (.ref l) [] .none) _ _ _ from ?_);unfold O7;refine u7<|MH L ?_;rw[t5<|by decide];refine u7<|pc c r j n (by simpa using B) λh1 x F=>?_;have k:∀b u,s.heap.get? b=a9 u->h1.get? b=a9 u:=λb u e=>F b u<|A1 _ e;rw[t5<|show (b7:Option c3).isNone=b8 from rfl];refine u7<|K9 ?_;obtain⟨oI,St,t,W,st⟩:=(TxSrc.tuple (prog:=X.prog) (w:=X.w) C).iter A.in1.in1 { s with heap:=h1,toks:=x } (by simpa using B) λo e=>k _ _ e;refine u7<|t _ _ ?_;have d:=F _ _ S;have J:s.heap.objs.size<h1.objs.size:=A4 d;have G:s.heap.get? s.heap.objs.size=b7:=by
  cases q:s.heap.get? s.heap.objs.size with
  |none=>rfl
  |some o=>exact t7 (A4 q)<|G3 _
 refine u9 ⟨My cc _,Ij (A:=A.in1) (s:=s) I (by show A.units+1+20<j9;lia) W s.heap.objs.size ?_ G ?_ ps R y O its.size 0 _ _ _ _ rfl (A8 _) st ⟨[],[],.nil,.nil,_,#[],_,A1 _ d,⟨rfl,rfl,rfl⟩,rfl,(λ_ P=>by simp at P),Pairs.nil,N0⟩ (λb u e=>A1 _<|k b u e) λh2 T U M=>⟨rfl,h h2 T U M⟩⟩;simp only[C3,PZ,or_false,not_or];exact⟨A9 J,LZ V⟩;intro b m;rw[F0.mp m];cases q:s.heap.get? h1.objs.size with
 |none=>rfl
 |some o=>exact t7 (ND (A4 q) J)<|G3 _
def xi:D6:=λds M Q=>match ds with
 | [.tup xs]=>∃ps:List (c5×D),xs=ps.map (λp=>.tup [.str p.1,p.2])/\ps.length<=1000/\Q (.ref M.length) (M++[.dct<|jV ps])
 |_=>False
theorem Fd(G:Room k X.A)(D:X.calm=b8):kI X (.type "dict") xi:=by rintro n s σ H vs us R I P ⟨ds,M,ρ,Q,B,b,q,K⟩;have un:=G.un;unfold xi at q;split at q;obtain⟨ps,L,W,q⟩:=q;have z:=Reps.inv_cons b;clear b;obtain⟨_,_,rfl,g,b⟩:=z;obtain rfl:=Reps.inv_nil b;obtain⟨u,rfl,t⟩:=az.one P;subst L;obtain⟨a,ws,rfl,F,r⟩:=v9.inv_tup g;cases t;obtain⟨its,y,x,Y⟩:=I.tupN F;obtain⟨oa,e,E,⟨nn,h⟩,j⟩:=id x;have O:=r.length;have li:=y.length;rw[w4]at O;have f:H s.heap.objs.size=b7:=I.hok.fresh<|x5 _;have C:(s.heap.objs.size==d6)=b9:=beq_eq_false_iff_ne.mpr<|D4<|A9 I.big;refine Fe (A:=X.A) (ρ:=ρ) I (by lia) (I.ok.hd D) x.tup e j ps (by rw[B5];lia) (λi v J=>?_) (by rw[B5];lia) λh' S N c=>?_;obtain⟨d,V,t,g,m⟩:=lZ r y (i:=i) (u:=v) (by simpa using J);rw[D8]at t;obtain⟨p,hp,rfl⟩:=MZ.mp t;exact⟨p,hp,V,g,m⟩;obtain⟨w,T,U,l,c⟩:=c;have Z:=uF ps;have ln:=(FE U l).2;refine⟨.ref s.heap.objs.size,_,I.laid (a:=s.heap.objs.size) (o:=.dK (jo ((jV ps).map (·.1)) w)) (t':=S) N (x5 _)<|FN (ao<|by lia) C l c,rfl,?_⟩;exact K _ _ ⟨.ref M.length,M++[.dct<|jV ps],ρ++[s.heap.objs.size],B.laidM (mo:=.dct<|jV ps) f ⟨w,aW,U.grow<|Grow.laidR f⟩,Grow.laidR f,.ref B.last,q⟩;exact q.elim
theorem EB(i:Room k X.A)(f:X.calm=b8:=by kernel_rfl):HC X (.type "dict") xi:=⟨Fd i f⟩
noncomputable def Itp(a:c8)(n:Nat):It:=⟨λi H=>∃xs x v,H a=a9 (.ext<|dX a xs)/\xs.length=n/\xs[i]?=a9 x/\aN v x.2.2,λi H v H'=>∃(T:c8) (x:D×c8×c3) (y:V),v=.ref T/\H T=b7/\H'=A6 H T (.tup [.ref x.2.1,y])/\aN y x.2.2/\∀xs,H a=a9 (.ext<|dX a xs)->∃z:D×c8×c3,xs[i]?=a9 z/\z.2=x.2,λi H=>(∃xs,H a=a9 (.ext<|dX a xs)/\xs.length=n)/\i=n⟩
def OutIt(h:d5)(it d:c8)(i n:Nat):Prop:=∃ok b,dh h it d i n n .none (.bool b9) ok b
theorem zu{P:c7}{w:c6}{K:w9}{j:List h7}{x1:Nat}{V:Pos}(a it:c8)(n:Nat):Turn P w K (.Tuple j x1 V) (Itp a n) [it] it (λi h=>OutIt h it a i n) where
 mem:=by simp
 obj:=λi h st b l=>by
  obtain rfl:b=it:=by simpa using l
  obtain⟨ok,g,e⟩:=st;exact⟨_,e,λv z=>by cases z⟩
 keep:=λi h h' ⟨ok,g,e⟩ k=>⟨ok,g,k it (by simp) _ e⟩
 item:=by
  rintro X N U M u i r s σ H E I y ⟨ok,g,st⟩ R;subst N U M;obtain⟨xs,x,v,L,rfl,hx,hv⟩:=R;obtain⟨es,J,t,eg⟩:=eY I L;obtain⟨e,C,W,Y⟩:=eg i x hx;obtain⟨G,f1,f2,f3,f4,f5⟩:=y it (by simp);have f:i<es.size:=(M7.mp C).1;have Z:es[i]=e:=by rw[J1 f]at C;exact D2 C
  rw[<-t]at J st;have m:it<s.heap.objs.size:=A4 st;refine uB (S:=it) ⟨_,_,_,_,st,.inl ⟨rfl,rfl⟩⟩ m J f λh' _ hT hz hk op=>?_;have o':=op _ _ st;rw[Z,W,Y]at hT o';refine⟨_,rfl,?_⟩;refine wpAny_letOwnedTupleGo_items (s:={ s with heap:=h' }) (show IsItemIterOut h' it a (i+1) es.size es.size (.ref x.2.1) x.2.2 s.heap.objs.size from o') λh2 q T=>?_;have d:K5 it h' h2:=T;have O:h2.get? s.heap.objs.size=a9 { cls:=.type "tuple",data:=.seq #[.ref x.2.1,x.2.2] }:=d.extBut _ _ (LZ m) hT;refine⟨.ref s.heap.objs.size,A6 H s.heap.objs.size<|.tup [.ref x.2.1,v],?_,rfl,⟨s.heap.objs.size,x,v,rfl,I.hok.fresh<|x5 _,rfl,hv,λys hy=>?_⟩,?_,λb l=>?_⟩;refine I.turnedT (t':=s.toks) y (λc o u e=>?_) (x5 _) ⟨by simp[L8],[.ref x.2.1,x.2.2],.cons rfl<|.cons hv .nil,⟨_,O,rfl,⟨0,rfl⟩,rfl⟩⟩;have p:c≠it:=by simpa using u
  exact d.extBut _ _ p<|hk _ _ p e;obtain⟨ai,F,ag,D⟩:=eY I hy;obtain⟨rfl,ep⟩:=rF J F;have hj:i<ys.length:=by lia
  obtain⟨e',z1,B,z2⟩:=D i ys[i]<|A5 hj;rw[J1 f,Z]at z1;obtain rfl:=D2 z1;rw[W]at B;rw[Y]at z2;injection B with B;exact⟨ys[i],A5 hj,Prod.ext B.symm z2.symm⟩;rw[t]at q;exact⟨_,_,q⟩;obtain rfl:b=it:=by simpa using l
  rw[ax<|A9 m];exact G
 done:=by rintro X N U M u i r s σ H E I y ⟨ok,g,st⟩ R;subst N U M;obtain⟨⟨xs,L,rfl⟩,rfl⟩:=R;obtain⟨es,J,t,eg⟩:=eY I L;obtain⟨G,f1,f2,f3,f4,f5⟩:=y it (by simp);rw[<-t]at J st;exact xJ (S:=it) (I.ok.hd u) ⟨_,_,_,_,st,.inl ⟨rfl,rfl⟩⟩ J λh' he=>⟨rfl,I.turned (t':=s.toks) (λb o l e=>he b o l e) G f1 f3 f4 f5⟩
 self:=λA i s Q E ⟨ok,g,st⟩ hQ=>kcp_self (show IsItemIter s.heap it a i n n ok g from st) hQ
def rK(e:A3):Mv:=λS M R=>e S M λd a=>match d with
 |.ref n=>∃kvs,a[n]?=a9 (.dkt kvs)/\(kvs.length<=sizeLine->R ⟨kvs.map<|λp=>.tup [p.1,p.2],λM=>M[n]?=a9 (.dkt kvs)⟩ a)
 |_=>False
theorem BV(ho:DE X o to)(j:n5 o "items" X.env (eval o X.env)=eval o X.env:=by rfl)(l:(apos.endLine==cpos.line)=b8:=by rfl):DI X (.Tuple elts x1 pos) (.Call (.Attribute o "items" apos) [] [] cpos) (rK to):=by
 intro c s σ H R I h;obtain⟨S,M,ρ,Q,sm,sr,q,k⟩:=h;refine QP j l<|A2 (ho c s σ H _ I ⟨S,M,ρ,_,sm,sr,q,λv H' w=>w⟩) ?_;rintro u D ⟨v,G,L,t,d,N,Y,E,g1,r1,q1⟩;cases r1 with
 |@ref n a K =>
  obtain rfl:u=AAu a:=t;obtain⟨kvs,hM,q2⟩:=(show ∃kvs,N[n]?=a9 (.dkt kvs)/\(kvs.length<=sizeLine->Q ⟨kvs.map<|λp=>.tup [p.1,p.2],λM=>M[n]?=a9 (.dkt kvs)⟩ N)from q1)
  obtain⟨xs,hH,r,dd,V,hz,hx,nd⟩:=jU L E K hM;obtain⟨es,em,el,_⟩:=eY L hH;refine⟨"dict","dict.items",O8,Rw,PySem.F.type_dict_items,dd.typeIs,λb z=>?_,Oa rfl<|QK<|uA V em ?_⟩;cases z;obtain⟨ob,_,_,h1,h2,_⟩:=dd;exact⟨ob,h1,h2.2.1⟩;have B:v4 X c σ G { D with heap:=D.heap.push { cls:=.type "dict_items",data:=.fields #[.ref a] } }:=L.kept (t':=D.toks) λb o e=>A1 _ e;have P:cN ({ D with heap:=D.heap.push { cls:=.type "dict_items",data:=.fields #[.ref a] } }:f8).heap a es xs.length:=em.to λo e=>A1 _ e;refine uC (d:=a) ⟨_,C0 _ rfl,rfl,rfl⟩ P ?_;rw[el];have U:∀f:f8,v4 X c σ G f->Pt X c σ (.Tuple elts x1 pos) R (.ref f.heap.objs.size) { f with heap:=f.heap.push { cls:=.type "dict_itemiterator",data:=.fields #[.none,.bool b9,.ref a,.int 0 0,.int xs.length 0,.int xs.length 0,.none,.none] } }:=λf B=>by
   refine⟨f.heap.objs.size,[f.heap.objs.size],_,_,G,rfl,B.kept (t':=f.toks) λb o e=>A1 _ e,zu a _ xs.length,⟨_,_,C0 _ rfl⟩,λb hb=>?_,k _ G ⟨⟨kvs.map<|λp=>.tup [p.1,p.2],λM=>M[n]?=a9 (.dkt kvs)⟩,N,Y,E,g1,?_,q2 hz⟩⟩;obtain rfl:b=f.heap.objs.size:=by simpa using hb
   exact B.fpOk (x5 _)<|B.hok.fresh<|x5 _;refine⟨λi m Z H' s' g ok hi=>?_,λi m Z H' x H2 s' g ok hi y=>?_,λm Z H' s' g ok=>?_⟩;obtain⟨_,_,_,ys,O,A⟩:=s'.obj _ _ _ (ar g.pre K) ok;have ly:ys.length=kvs.length:=by have:=u5 LY<|fy A;rwa [w4,w4]at this
   rw[w4]at hi;have hj:i<ys.length:=by lia
   obtain⟨p,_,_,_,_,v,_,t⟩:=cU A<|A5 hj;exact⟨ys,ys[i],v,O,by lia,A5 hj,t⟩;obtain⟨T,x0,y0,rfl,J,rfl,rz,C⟩:=y;obtain⟨_,_,_,ys,O,A⟩:=s'.obj _ _ _ (ar g.pre K) ok;obtain⟨z,W,ez⟩:=C ys O;obtain⟨p,hp,_,_,rk,v,rp,t⟩:=cU A W;rw[ez]at rk t;obtain rfl:y0=v:=rz.inj t;exact⟨.tup [p.1,p.2],m,by rw[D8,hp];rfl,s'.laid J,Grow.laid J,.tup (C7.of aW)<|.cons (rk.grow<|Grow.laid J)<|.cons (rp.grow<|Grow.laid J) .nil⟩;obtain⟨_,_,_,ys,O,A⟩:=s'.obj _ _ _ (ar g.pre K) ok;have ly:ys.length=kvs.length:=by have:=u5 LY<|fy A;rwa [w4,w4]at this
   exact⟨⟨ys,O,by lia⟩,by rw[w4];lia⟩
  exact U _ B
 |_=>exact q1.elim
theorem Bp(m:HE X o to)(e:n5 o "items" X.env (eval o X.env)=eval o X.env:=by kernel_rfl)(a:(apos.endLine==cpos.line)=b8:=by kernel_rfl):HI X (.Tuple elts x1 pos) (.Call (.Attribute o "items" apos) [] [] cpos) (rK to):=⟨BV m.ok e a⟩
end L2
namespace L2
open PySem PySem.Spec PyProof.Rows DL
def GtAt(A:f7)(s:f8)(x y:c3)(k:Bool):Prop:=∀(g:c7) (w:c6) (E:c3->f8->Prop) (Q:c3->f8->Prop),Q (.bool k) s->g9 (i3 g w) A (richCompare .Gt x y) Q E s
inductive GexAt(A:f7)(s:f8):List c3->List c3->Bool->Prop
 |nn:GexAt A s [] [] b9
 |nc {y:c3}{ys:List c3}:GexAt A s [] (y::ys) b9
 |cn {x:c3}{xs:List c3}:GexAt A s (x::xs) [] b8
 |eq {x y:c3}{xs ys:List c3}{k:Bool} (h:Mx A s x y b8) (t:GexAt A s xs ys k):GexAt A s (x::xs) (y::ys) k
 |ne {x y:c3}{xs ys:List c3}{k:Bool} (h:Mx A s x y b9) (t:GtAt A s x y k):GexAt A s (x::xs) (y::ys) k
section
variable{prog:c7}{w:c6}{A:f7}{E:c3->f8->Prop}{s:f8}{d:c8}{o:c9}{es:Array o6}{ep:Nat}{xs:List (D×c3×c3)}{k:D}{key:c3}{hs:D->Int}{Q:Option Nat->f8->Prop}
theorem rG(i:es.toList=xs.map (BS hs))(j:Nat):es[j]?=(xs[j]?).map (BS hs):=by rw[<-J5,i,D8]
def Cp(xs:List (D×c3×c3))(k:D)(i:Nat)(t:Option Nat):Prop:=(t=b7/\∀j p,j<i->xs[j]?≠a9 (k,p))\/∃j p,t=a9 j/\j<i/\xs[j]?=a9 (k,p)
noncomputable def pM(es:Array o6)(h:Int)(i:Nat):Bool:=(es[i]?.map (·.hash))==a9 h
theorem jx(e:es.toList=xs.map (BS hs))(a:∀j,i<=j->j<x->pM es (hs k) j=b9)(h:Cp xs k i hit)(c:i<=x):Cp xs k x hit:=by
 rcases h with⟨h0,o⟩|⟨j,p,h1,d,L⟩
 refine .inl ⟨h0,λj p b L=>?_⟩;rcases Mm j i with h|h;exact o j p h L;have:=a j h b;unfold pM at this;rw[rG e j,L]at this;simp[BS]at this;exact .inr ⟨j,p,h1,by lia,L⟩
theorem bW(h:Cp xs k x hit)(a:xs[x]?=a9 (k',p'))(e:¬k'=k):Cp xs k (x+1) hit:=by
 rcases h with⟨h0,o⟩|⟨j,p,h1,b,L⟩
 refine .inl ⟨h0,λj p b L=>?_⟩;rcases Mm j x with h|h;exact o j p h L;obtain rfl:j=x:=by lia
 rw[a]at L;exact e (by injection L with L;injection L);exact .inr ⟨j,p,h1,by lia,L⟩
theorem hV(f:(xs.map (·.1)).Nodup){i j:Nat}{p q:c3×c3}(hi:xs[i]?=a9 (k,p))(L:xs[j]?=a9 (k,q)):i=j:=by
 have h:(xs.map (·.1))[i]?=a9 k:=by rw[D8,hi];rfl
 have a:(xs.map (·.1))[j]?=a9 k:=by rw[D8,L];rfl
 exact(List.getElem?_inj (C2.mp h).1 f).mp<|h.trans a.symm
theorem qz(e:es.toList=xs.map (BS hs))(r:(NW i<|es.size-i).filter (pM es<|hs k)=[])(h:Cp xs k i hit):Cp xs k xs.length hit:=by
 have z:es.size=xs.length:=by rw[<-F5,e,w4]
 rcases Mm i xs.length with hi|hi;refine jx e (λj h1 h2=>?_) h<|MR hi;have:=List.filter_eq_nil_iff.mp r j<|List.mem_range'_1.mpr ⟨h1,by lia⟩;simpa using this;rcases h with⟨h0,o⟩|⟨j,p,h1,d,L⟩
 exact .inl ⟨h0,λj p L=>o j p<|by lia⟩;exact .inr ⟨j,p,h1,(C2.mp L).1,L⟩
theorem pe{d:List c3}{Q:Bool->f8->Prop}(k:∀(Q:Bool->f8->Prop) (E:c3->f8->Prop),Q b8 s->g9 (i3 prog w) A (s9 8 key) Q E s)(qs:∀v∈d,∀(Q:Bool->f8->Prop) (E:c3->f8->Prop),Q b8 s->g9 (i3 prog w) A (s9 8 v) Q E s) (h:Q b9 s):g9 (i3 prog w) A (tableMayTell key d) Q E s:=by unfold tableMayTell;split;exact u9 h;refine u7<|k _ _ ?_;simp only[MS,C5,u3];refine u7 ?_;refine MT _ (λaH r s'=>s'=s/\r=(b7,())/\∀v∈aH,v∈d) _ ?_ ?_ _ _ ⟨rfl,rfl,λ_ c=>c⟩;rintro x aH r s' ⟨rfl,rfl,i⟩;refine u7<|qs x (i x F4) _ _ ?_;simp only[MS,C5,u3];exact u9 ⟨rfl,rfl,λv c=>i v<|C6 _ c⟩;rintro r s' ⟨rfl,rfl,_⟩;exact u9 h
theorem EF(S:s.heap.get? d=a9 o)(N:o.data=.dict es ep)(I:es.toList=xs.map (BS hs))(hn:(xs.map (·.1)).Nodup)(kk:key=.none\/∃a,key=.ref a)(qk:∀(Q:Bool->f8->Prop) (E:c3->f8->Prop),Q b8 s->g9 (i3 prog w) A (s9 8 key) Q E s)(qx:∀x∈xs,∀(Q:Bool->f8->Prop) (E:c3->f8->Prop),Q b8 s->g9 (i3 prog w) A (s9 8 x.2.1) Q E s)(ai:∀x∈xs,x.2.1=key->x.1=k)(X:∀x∈xs,∀(Q:Bool->f8->Prop) (E:c3->f8->Prop),Q (decide<|x.1=k) s->g9 (i3 prog w) A (eqBool x.2.1 key) Q E s)(R:(∀(j:Nat) (p:c3×c3),xs[j]?≠a9 (k,p))->Q b7 s) (n:∀(j:Nat) (p:c3×c3),xs[j]?=a9 (k,p)->Q (a9 j) s):g9 (i3 prog w) A (dictFind d key<|hs k) Q E s:=by
 have ag:es.size=xs.length:=by rw[<-F5,I,w4]
 have K:∀e∈es,∃x∈xs,e=BS hs x:=by intro e P;have:e∈xs.map (BS hs):=I ▸ Array.mem_toList_iff.mpr P;obtain⟨x,T,rfl⟩:=A0.mp this;exact⟨x,T,rfl⟩
 have V:¬(es.any λe=>e.key==key&&e.hash != hs k)=b8:=by rw[<-Array.any_toList,MV];rintro⟨e,P,hc⟩;obtain⟨x,T,rfl⟩:=K e<|Array.mem_toList_iff.mp P;simp only[BS,G0,t9,bne_iff_ne,ne_eq]at hc;exact hc.2<|by rw[ai x T hc.1]
 have Z:∀v∈(t4 es.size (λi=>es[i]?.map (·.hash))<|hs k).filterMap (λi=>es[i]?.map (·.key)),∃x∈xs,v=x.2.1:=by
  intro v hv;obtain⟨i,_,hi⟩:=OE.mp hv;cases O:es[i]? with
  |none=>rw[O]at hi;cases hi
  |some e =>
   rw[O]at hi;obtain rfl:e.key=v:=by simpa using hi
   obtain⟨x,T,rfl⟩:=K e<|Array.mem_of_getElem? O;exact⟨x,T,rfl⟩
 have M:∀f,Cp xs k xs.length f->Q f s:=by rintro f (⟨rfl,hno⟩|⟨j,p,rfl,_,L⟩);exact R λj p L=>hno j p (C2.mp L).1 L;exact n j p L
 have start:t4 es.size (λi=>es[i]?.map (·.hash)) (hs k)=(NW 0<|es.size-0).filter (pM es<|hs k):=by rw[t4,List.range_eq_range',Nat.sub_zero];rfl
 have U:Cp xs k 0 b7:=.inl ⟨rfl,λ_ _ h=>t7 h<|Nv _⟩;have G:∀{x i:Nat}{aH:List Nat},x::aH=(NW i<|es.size-i).filter (pM es<|hs k)->i<=es.size->∃C u v,xs[x]?=a9 (C,u,v)/\es[x]?=a9 ⟨hs C,u,v⟩/\i<=x/\x+1<=es.size/\aH=(NW (x+1)<|es.size-(x+1)).filter (pM es<|hs k)/\∀j,i<=j->j<x->pM es (hs k) j=b9:=by
  intro x i aH B hi;obtain⟨r,ak,aj,m,t⟩:=filter_range'_cons _ _ _ _ _ B.symm;have l:x<es.size:=by lia
  obtain⟨⟨C,u,v⟩,c⟩:∃y,xs[x]?=a9 y:=⟨xs[x]'(by rw[<-ag];exact l),A5 _⟩
  exact⟨C,u,v,c,by rw[rG I x,c];rfl,r,l,by rw[t];congr 2;lia,m⟩
 unfold dictFind
 try with_reducible refine F3 ?_
 refine u7<|MW S N ?_;have W:∀v∈(t4 es.size (λi=>es[i]?.map (·.hash))<|hs k).filterMap (λi=>es[i]?.map (·.key)),∀(Q:Bool->f8->Prop) (E:c3->f8->Prop),Q b8 s->g9 (i3 prog w) A (s9 8 v) Q E s:=λv hv=>by obtain⟨x,T,rfl⟩:=Z v hv;exact qx x T
 rcases kk with rfl|⟨a,rfl⟩
 dsimp only;by_cases J:((ABv::(t4 es.size (λi=>es[i]?.map (·.hash))<|hs k).filterMap (λi=>es[i]?.map (·.key))).all carriedByValue)=b8;rw[t5 J];unfold dictWalkPlain;refine u7 ?_;rw[start];refine MT _ (λaH b s'=>s'=s/\b=(b7,())/\∃i,aH=(NW i<|es.size-i).filter (pM es<|hs k)/\i<=es.size/\Cp xs k i b7) _ ?_ ?_ _ _ ⟨rfl,rfl,0,rfl,A8 _,U⟩;rintro x aH b s' ⟨rfl,rfl,i,B,hi,H⟩;obtain⟨C,u,v,c,D,r,l,t,m⟩:=G B hi;have H:=jx I m H r;rw[D];dsimp only;by_cases F:(hs C==hs k)=b8;rw[t5 F];refine u7<|Mp S N<|u7<|X _ (G1 c) _ _<|u7<|Mp S N ?_;show g9 _ _ (if (ep != ep)=b8 then _ else _) _ E _;rw[t6<|by simp];by_cases g:C=k;rw[dT_ g];subst g;rw[t5 rfl];exact u7<|K9<|u9<|u9<|n x _ c;rw[dF_ g,t6<|by decide];exact u7<|K9<|u9 ⟨rfl,rfl,x+1,t,l,bW H c g⟩;rw[t6 F];exact u9 ⟨rfl,rfl,x+1,t,l,bW H c λe=>F<|by rw[e];simp⟩;rintro b s' ⟨rfl,rfl,i,B,hi,H⟩;exact u9<|M b7<|qz I B.symm H;rw[t6 J];by_cases q:(((t4 es.size (λi=>es[i]?.map (·.hash))<|hs k).filterMap (λi=>es[i]?.map (·.key)))==[ABv])=b8 <;>
 (first|rw[t5 q]|rw[t6 q])<;>(first|refine u7 (u9 ?_)|refine u7<|pe qk W ?_)<;>(
  rw[t6<|by simp];refine u7 ?_;rw[start];refine MT _ (λaH b s'=>s'=s/\∃i f,b=(b7,f)/\aH=(NW i<|es.size-i).filter (pM es<|hs k)/\i<=es.size/\Cp xs k i f) _ ?_ ?_ _ _ ⟨rfl,0,b7,rfl,rfl,A8 _,U⟩;rintro x aH b s' ⟨rfl,i,f,rfl,B,hi,H⟩;obtain⟨C,u,v,c,D,r,l,t,m⟩:=G B hi;have H:=jx I m H r;rw[D];dsimp only;by_cases F:(hs C==hs k)=b8;rw[t5 F];refine u7<|Mp S N<|u7<|X _ (G1 c) _ _<|u7<|Mp S N ?_;show g9 _ _ (if (ep != ep)=b8 then _ else _) _ E _;rw[t6<|by simp];by_cases g:C=k;rw[dT_ g];subst g;rcases H with⟨rfl,_⟩|⟨j,p,_,Y,L⟩
  first|rw[t5 rfl]|skip
  simp only[Option.isSome_none,C5,u3]
  first|refine u7 (u9 ?_)|skip
  refine u7<|K9 ?_;split;exact u9<|u9<|n x _ c;exact u9 ⟨rfl,x+1,a9 x,rfl,t,l,.inr ⟨x,_,rfl,L4 x,c⟩⟩;exact t7 (hV hn L c) (by lia);rw[dF_ g];simp only[C5,u3];refine u7<|K9 ?_
  first|rw[t6<|by simp]|skip
  first
   |exact u9 ⟨rfl,x+1,f,rfl,t,l,bW H c g⟩
   |exact u7 (u9 (u9 ⟨rfl,x+1,f,rfl,t,l,bW H c g⟩))
  rw[t6 F];exact u9 ⟨rfl,x+1,f,rfl,t,l,bW H c λe=>F<|by rw[e];simp⟩;rintro b s' ⟨rfl,i,f,rfl,B,hi,H⟩;have z:=M f<|qz I B.symm H;exact u9 z)
 dsimp only;rw[t6 (show ¬((AAu a::(t4 es.size (λi=>es[i]?.map (·.hash))<|hs k).filterMap (λi=>es[i]?.map (·.key))).all carriedByValue)=b8 by simp[carriedByValue]),t6 V];by_cases q:(((t4 es.size (λi=>es[i]?.map (·.hash))<|hs k).filterMap (λi=>es[i]?.map (·.key)))==[AAu a])=b8 <;>
 (first|rw[t5 q]|rw[t6 q])<;>(first|refine u7 (u9 ?_)|refine u7<|pe qk W ?_)<;>(
  rw[t6<|by simp];refine u7 ?_;rw[start];refine MT _ (λaH b s'=>s'=s/\∃i f,b=(b7,f)/\aH=(NW i<|es.size-i).filter (pM es<|hs k)/\i<=es.size/\Cp xs k i f) _ ?_ ?_ _ _ ⟨rfl,0,b7,rfl,rfl,A8 _,U⟩;rintro x aH b s' ⟨rfl,i,f,rfl,B,hi,H⟩;obtain⟨C,u,v,c,D,r,l,t,m⟩:=G B hi;have H:=jx I m H r;rw[D];dsimp only;by_cases F:(hs C==hs k)=b8;rw[t5 F];refine u7<|Mp S N<|u7<|X _ (G1 c) _ _<|u7<|Mp S N ?_;show g9 _ _ (if (ep != ep)=b8 then _ else _) _ E _;rw[t6<|by simp];by_cases g:C=k;rw[dT_ g];subst g;rcases H with⟨rfl,_⟩|⟨j,p,_,Y,L⟩
  first|rw[t5 rfl]|skip
  simp only[Option.isSome_none,C5,u3]
  first|refine u7 (u9 ?_)|skip
  refine u7<|K9 ?_;split;exact u9<|u9<|n x _ c;exact u9 ⟨rfl,x+1,a9 x,rfl,t,l,.inr ⟨x,_,rfl,L4 x,c⟩⟩;exact t7 (hV hn L c) (by lia);rw[dF_ g];simp only[C5,u3];refine u7<|K9 ?_
  first|rw[t6<|by simp]|skip
  first
   |exact u9 ⟨rfl,x+1,f,rfl,t,l,bW H c g⟩
   |exact u7 (u9 (u9 ⟨rfl,x+1,f,rfl,t,l,bW H c g⟩))
  rw[t6 F];exact u9 ⟨rfl,x+1,f,rfl,t,l,bW H c λe=>F<|by rw[e];simp⟩;rintro b s' ⟨rfl,i,f,rfl,B,hi,H⟩;have z:=M f<|qz I B.symm H;exact u9 z)
end
section
variable{X:Cx}{pins:List (c8×c9)}{σ:St}{H:Hp}{s:f8}{ρ:List c8}{M:w6}{kvs:List (D×D)}{xs:List (D×c3×c3)}
theorem Bq(h:yJ d=b8):x9 M 8 d=b8:=by
 cases d with
 |non=>rfl
 |tup s=>exact rj 8 _ h
 |_=>cases h
theorem nT(I:v4 X pins σ H s)(r:v9 X.K ρ H k u)(e:aN u key)(b:yJ k=b8):(k=.non/\key=.none)\/∃ks a,k=.tup ks/\key=.ref a/\gc s.heap 8 (.tup ks) (.ref a):=by
 cases k with
 |non=>obtain rfl:=v9.inv_non r;exact .inl ⟨rfl,e⟩
 |tup ks=>have t:=gu I 8 _ _ _ r e b;obtain⟨a,its,rfl,h⟩:=id t;exact .inr ⟨ks,a,rfl,rfl,t⟩
 |_=>cases b
theorem xF(I:v4 X pins σ H s)(g:A.units+8<j9)(r:v9 X.K ρ H k u)(e:aN u key)(b:yJ k=b8)(h:∀tk,Q (NO X.w k) { s with toks:=tk }):g9 (i3 X.prog X.w) A (pyHash key) Q E s:=by
 rcases nT I r e b with⟨rfl,rfl⟩|⟨c,a,rfl,rfl,t⟩
 exact PySem.W.pyHash_slot (T:="NoneType") rfl PySem.F.slot_NoneType_hash PySem.F.entry_NoneType_hash (PySem.F.args_NoneType_hash_1 _) (beq_builtin_none _) (.inr<|by lia)<|u7<|u9<|u7<|wpAny_mkInt<|u9 ⟨_,_,rfl,h _⟩;exact qc 8 _ _ _ _ _ _ g t<|h _
theorem La(I:v4 X pins σ H s)(m:z6 X.K ρ M H)(g:A.units+8<j9)(r:v9 X.K ρ H k u)(e:aN u key)(a:yJ k=b8)(r':v9 X.K ρ H k' u')(b:aN u' key')(d:yJ k'=b8):Mx A s key key' (decide<|k=k'):=by
 have h:=(kY I m 8 A k k' _ _ _ _ g r e r' b (Bq a)<|Bq d).1;have q:v8 M 8 k k'=decide (k=k'):=by
  cases k with
  |non=>cases k' with
   |non=>rw[dT_ rfl];rfl
   |tup _=>rw[dF_ λz=>by cases z];rfl
   |_=>cases d
  |tup f=>cases k' with
   |non=>rw[dF_ λz=>by cases z];rfl
   |tup c=>rw[Qs,jd 8 _ _ a d,t8]
   |_=>cases d
  |_=>cases a
 rw[q]at h;exact h
theorem tI(I:v4 X pins σ H s)(r:v9 X.K ρ H k u)(e:aN u key)(b:yJ k=b8)(h:Q b8 s):g9 (i3 X.prog X.w) A (s9 8 key) Q E s:=by
 rcases nT I r e b with⟨rfl,rfl⟩|⟨c,a,rfl,rfl,t⟩
 exact u9 h;exact nU 8 8 _ _ _ _ _ _ (x5 _) t h
theorem Dk:∀{kvs:List (D×D)}{xs:List (D×c3×c3)}{x:D×c3×c3},Paired (Ms X.K ρ H) kvs xs->x∈xs->∃p∈kvs,Ms X.K ρ H p x
 |_,_,x,.cons q t,h=>by rcases C3.mp h with rfl|h;exact⟨_,F4,q⟩;obtain⟨p,hp,z⟩:=Dk t h;exact⟨p,C6 _ hp,z⟩
theorem lN(r:Paired (Ms X.K ρ H) kvs xs):xs.map (·.1)=kvs.map (·.1):=by
 induction r with
 |nil=>rfl
 |cons h t i=>rw[D5,D5,i,h.1]
theorem rh(r:Paired (Ms X.K ρ H) kvs xs)(k:D):(bb kvs k=b7/\∀(j:Nat) (p:c3×c3),xs[j]?≠a9 (k,p))\/∃(d:D) (v:V) (j:Nat) (u u':c3),bb kvs k=a9 d/\xs[j]?=a9 (k,u,u')/\v9 X.K ρ H d v/\aN v u':=by
 unfold bb;induction r with
 |nil=>exact .inl ⟨rfl,λj p z=>by simp at z⟩
 |@cons p q ps qs h t i =>
  obtain⟨h1,_,_,v,a,b⟩:=h;rw[L9];by_cases e:p.1=k;rw[dT_ e];exact .inr ⟨_,v,0,q.2.1,q.2.2,rfl,by rw[Ru,<-e,h1],a,b⟩;rw[dF_ e];rcases i with⟨g,n⟩|⟨d,v,j,u,u',g,C,f,l⟩
  refine .inl ⟨g,λj c z=>?_⟩;cases j with
  |zero=>rw[Ru]at z;injection z with z;exact e<|by rw[h1,z]
  |succ j=>rw[Qc]at z;exact n j c z
  exact .inr ⟨d,v,j+1,u,u',g,by rw[Qc];exact C,f,l⟩
theorem BT(I:v4 X pins σ H s)(m:z6 X.K ρ M H){n:Nat}{a:c8}(e:ρ[n]?=a9 a)(u:M[n]?=a9 (.dkm kvs)):∃xs,H a=a9 (.ext<|dM a xs)/\Paired (Ms X.K ρ H) kvs xs/\dM a xs X.prog X.w s.heap/\(a==d6)=b9/\kvs.length<=sizeLine/\xs.length=kvs.length/\(kvs.map (·.1)).Nodup:=by
 obtain⟨h1,h2,b,xs,h,r⟩:=m.obj _ _ _ e u;refine⟨xs,h,r,(show cA X.prog X.w H s.heap a (.ext<|dM a xs)from I.hok a _ h).1,h2,h1,?_,b⟩;have:=u5 LY<|lN r
 rwa [w4,w4]at this
theorem BL(I:v4 X pins σ H s)(S:z6 X.K ρ M H)(L:A.units+8<j9)(r:Paired (Ms X.K ρ H) kvs xs)(P:(kvs.map (·.1)).Nodup)(G:s.heap.get? a=a9 o) (D:o.data=.dict es ep) (F:es.toList=xs.map (BS<|NO X.w)) (v:v9 X.K ρ H k u) (i:aN u key) (m:yJ k=b8)(R:(∀(j:Nat) (p:c3×c3),xs[j]?≠a9 (k,p))->Q b7 s) (n:∀(j:Nat) (p:c3×c3),xs[j]?=a9 (k,p)->Q (a9 j) s):g9 (i3 X.prog X.w) A (dictFind a key<|NO X.w k) Q E s:=by
 refine EF G D F (by rw[lN r];exact P) ?_ (λQ E h=>tI I v i m h) (λx c Q E h=>?_) (λx c e=>?_) (λx c Q E h=>?_) R n;rcases nT I v i m with⟨rfl,rfl⟩|⟨N,b,rfl,rfl,_⟩
 exact .inl rfl;exact .inr ⟨b,rfl⟩;obtain⟨p,_,t,q,⟨C,g,J⟩,_⟩:=Dk r c;exact tI I g J q h;obtain⟨p,_,t,q,⟨C,g,J⟩,_⟩:=Dk r c;rw[e]at J;rw[<-t];rcases nT I g J q with⟨y,l⟩|⟨N,b,y,l,B⟩<;>rcases nT I v i m with⟨z,f⟩|⟨O,T,z,f,d⟩
 rw[y,z];rw[l]at f;cases f;rw[l]at f;cases f;rw[l]at f;cases f;rw[y,z];exact nV 8 _ _ _ B d;obtain⟨p,_,t,q,⟨C,g,J⟩,_⟩:=Dk r c;rw[<-t]at h;exact La I S L g J q v i m _ _ _ _ h
theorem z6.writeM(S:z6 X.K ρ M H)(t:ρ[n]?=a9 a)(x:M[n]?=a9 (.dkm kvs))(w:H a=a9 (.ext<|dM a xs))(y:kvs'.length<=sizeLine)(hs:(a==d6)=b9)(A:(kvs'.map (·.1)).Nodup)(r:Paired (Ms X.K ρ H) kvs' xs'):z6 X.K ρ (M.set n<|.dkm kvs') (A6 H a<|.ext<|dM a xs')/\Grow X.K ρ H ρ (A6 H a<|.ext<|dM a xs'):=by
 have g:Grow X.K ρ H ρ (A6 H a<|.ext<|dM a xs'):=⟨Mz,λ_ _ h=>C7.writtenX w h⟩
 have k:∀m,m≠n->(M.set n<|.dkm kvs')[m]?=M[m]?:=λm e=>MY<|D4 e;have c:¬Mj M[n]?:=λ⟨_,z⟩=>by rw[x]at z;cases z
 refine⟨⟨λm j b i d f=>?_,by rw[N5];exact S.len,λm b p d f=>?_⟩,g⟩;have q:=S.nd m j b i d f;by_cases h1:m=n;subst h1;rw[k j<|D4 i];exact .inr<|q.resolve_left c;rw[k m h1];by_cases h2:j=n;subst h2;exact .inl<|q.resolve_right c;rw[k j h2];exact q;by_cases e:m=n;subst e;obtain rfl:b=a:=D2<|d.symm.trans t;rw[Nk<|by rw[<-S.len];exact(C2.mp t).1]at f;cases f;refine⟨y,hs,A,xs',aW,Paired.mapP r ?_⟩;rintro _ _ ⟨B,C,⟨u,D,l⟩,v,J,E⟩;exact⟨B,C,⟨u,D.grow g,l⟩,v,J.grow g,E⟩;rw[k m e]at f;by_cases o:b=a;subst o;have s:=(S.nd m n b e d t).resolve_right c;rw[f]at s;exact(S.obj m b p d f).grow g<|.inr s;exact(S.obj m b p d f).grow g<|.inl<|ax o
theorem xH(d:dM a xs P w h'):cA P w H' h' a (.ext<|dM a xs):=by obtain⟨o,es,t,l,Q,I⟩:=d;refine⟨⟨o,es,t,l,Q,I⟩,⟨o,t⟩,?_⟩;rintro h1 h2 ⟨o,es,t,l,Q,I⟩ k;exact⟨o,es,k _ t,l,Q,I⟩
theorem tN(h:bb kvs k=b7):fZ kvs k d=kvs++[(k,d)]:=by unfold fZ;rw[h];rfl
theorem AB(r:Paired (Ms X.K ρ H) kvs xs)(h:Ms X.K ρ H p q):Paired (Ms X.K ρ H) (kvs++[p]) (xs++[q]):=by
 induction r with
 |nil=>exact .cons h .nil
 |cons z _ i=>exact .cons z i
end
section
variable{X:Cx}{o i value:h7}{td ty tv:A3}{pos pos':Pos}{k:Nat}
def EW:A3:=λ_ M Q=>Q (.ref M.length)<|M++[.dkm []]
theorem Lx:DE X (.Dict [] [] pos) EW:=by rintro p s σ H R I ⟨S,M,ρ,Q,m,b,q,C⟩;have f:H s.heap.objs.size=b7:=I.hok.fresh<|x5 _;have d:(s.heap.objs.size==d6)=b9:=beq_eq_false_iff_ne.mpr<|D4<|A9 I.big;refine wpAny_Dict_empty ⟨.ref s.heap.objs.size,_,I.laid (a:=s.heap.objs.size) (o:=.ext<|dM s.heap.objs.size []) (t':=s.toks) (λ_ _ q=>A1 _ q) (x5 _)<|xH ⟨_,#[],C0 _ rfl,⟨rfl,rfl,rfl⟩,rfl,rfl⟩,rfl,?_⟩;exact C _ _ ⟨.ref M.length,M++[.dkm []],ρ++[s.heap.objs.size],m.laidM (mo:=.dkm []) f ⟨A8 _,d,N0,[],aW,.nil⟩,Grow.laidR f,.ref m.last,(show Q (.ref M.length) (M++[.dkm []])from q)⟩
def Oh(r:Nat->D6)(e:A3)(t:I9):A3:=λS M Q=>e S M λx a=>match x with
 |.ref n=>(∃kvs,a[n]?=a9 (.dkm kvs))/\t S a λds M2=>r n ds M2 Q
 |_=>False
variable{name:c5}{id:String}{e:h7}{es:List h7}{to:A3}{t:I9}{apos cpos:Pos}
theorem d_mm{r:Nat->D6}(slot:Slot "dict" name id)(y:m9 (.builtin id)=pure (.type "method_descriptor"))(T:K3 X id (kw X.K r))(U:DE X o to)(P:DA X (e::es) t)(c:n5 o name X.env (eval o X.env)=eval o X.env:=by rfl)(f:((i4 cpos<|i5 (e::es) X.env).all (λx=>!x.1)&&(n9 cpos<|o0 [] X.env).all (λx=>x.1.isSome) && decide ((e::es).length+([]:List o4).length+(if ([]:List o4).isEmpty then 0 else 1)<30))=b8:=by rfl)(d:(apos.endLine==cpos.line)=b8:=by rfl) (hs:i5 (e::es) X.env=(b9,eval e X.env)::i5 es X.env:=by rfl) (h:(i4 cpos<|i5 es X.env).any (·.1)=b9:=by rfl):DE X (.Call (.Attribute o name apos) (e::es) [] cpos) (Oh r to t):=by
 rintro p s σ H R I ⟨S,M,ρ,Q,sm,G,q,W⟩;refine QO c f d rfl<|A2 (U p s σ H _ I ⟨S,M,ρ,_,sm,G,q,λv H' z=>z⟩) ?_;rintro u s1 ⟨v,J,B,rv,x,i,m,j,g1,Z,g⟩;cases Z with
 |@ref n a E =>
  obtain rfl:u=AAu a:=rv;obtain⟨⟨kvs,O⟩,g⟩:=(show (∃kvs,i[n]?=a9 (.dkm kvs))/\t S i _ from g)
  obtain⟨xs,hH,r,⟨F,eb,h1,h2,h3,h4⟩,V,hl,hx,nd⟩:=BT B j E O;refine⟨"dict",id,O8,slot,y,⟨F,h1,h2.1⟩,λb z=>?_,?_⟩;cases z;exact⟨F,h1,h2.2.1⟩;have D:=P cpos p s1 σ J _ B ⟨S,i,m,_,j,G.grow g1,g,λvs H' z=>z⟩;rw[hs]at D ⊢;refine Oa (by show (b9||(i4 cpos<|i5 es X.env).any (·.1))=b9;rw[h]<;>rfl)<|QL ?_;refine A2 D ?_;rintro us s2 ⟨vs,L,N,k,ds,M2,A,l,C,rr,Y⟩;exact T p s2 σ L (.ref a) vs (.ref a) us R N rfl k ⟨n,a,ds,M2,A,Q,rfl,ar C.pre E,l,rr,Y,λv H' w=>W v H'<|VQ.trans (g1.trans C) w⟩
 |_=>exact g.elim
def pS(n:Nat):D6:=λds M Q=>match ds with
 | [k,d]=>∃kvs,M[n]?=a9 (.dkm kvs)/\yJ k=b8/\Q ((bb kvs k).getD d) M
 |_=>False
theorem DH(hr:Room k X.A):K3 X "dict.get" (kw X.K pS):=by
 rintro F s σ H x xs v us R I rx rs ⟨n,a,ds,M,ρ,Q,W,Z,m,f,q,D⟩;have un:=hr.un;unfold pS at q;split at q;rename_i k d;obtain⟨kvs,Y,C,q⟩:=q;have z:=Reps.inv_cons f;clear f;obtain⟨_,_,rfl,G,f⟩:=z;have z:=Reps.inv_cons f;clear f;obtain⟨_,_,rfl,r2,f⟩:=z;obtain rfl:=Reps.inv_nil f;obtain⟨P,N,rfl,t,U⟩:=az.two rs;subst W;obtain rfl:v=AAu a:=rx;obtain⟨ys,hH,r,⟨ob,eb,h1,h2,g,i⟩,V,hl,hx,E⟩:=BT I m Z Y;refine Op O4 ⟨ob,h1,h2.1⟩ Rs (Rx _ _ _) (.of_wp λA R s (h:g9 (i3 X.prog X.w) A.in1 (Builtin.«dict.get» ⟨[.ref a,P,N],[]⟩) (λb s'=>∃v,b=.done (.ret v)/\R (.ok<|.ret v) s') (λe s'=>R (.error e) s') s)=>h) ?_;show g9 _ _ (dictGet a P >>= _) _ _ s;unfold dictGet;refine u7 ?_
 try with_reducible refine F3 ?_
 refine u7<|xF I (by show X.A.units+1+8<j9;lia) G t C λJ=>?_;refine u7<|BL (I.tok J) m (by show X.A.units+1+8<j9;lia) r E h1 g i G t C (λo=>?_) λj p L=>?_;rcases rh r k with⟨B,_⟩|⟨c,O,j,u,l,B,y,S,T⟩
 rw[B]at q;refine u9 ?_;show g9 _ _ (Builtin.Dict.missed a P >>= _) _ _ _;exact u7<|wpAny_missed_other V<|u9 ⟨N,rfl,_,H,I.tok _,U,D _ _ ⟨d,M,ρ,m,.refl,r2,q⟩⟩;exact t7 y<|o j _;refine u7<|MW (s:={ s with toks:=J }) h1 g ?_;rcases rh r k with⟨_,o⟩|⟨c,O,j',u,l,B,y,S,T⟩
 exact t7 L<|o j p;have:j=j':=hV (by rw[lN r];exact E) L y;subst this;rw[L]at y;rw[rG i j,L];rw[B]at q;obtain rfl:p=(u,l):=by injection y with y;injection y
 exact u9<|u9 ⟨l,rfl,O,H,I.tok _,T,D _ _ ⟨c,M,ρ,m,.refl,S,q⟩⟩;exact q.elim
def tK(n:Nat):D6:=λds M Q=>match ds with
 | [k,d]=>∃kvs,M[n]?=a9 (.dkm kvs)/\yJ k=b8/\kvs.length<sizeLine/\(∀y,bb kvs k=a9 y->Q y M)/\(bb kvs k=b7->Q d (M.set n<|.dkm<|kvs++[(k,d)]))
 |_=>False
theorem DF(hr:Room k X.A):K3 X "dict.setdefault" (kw X.K tK):=by
 rintro ag s σ H x xs v us R I rx rs ⟨n,a,ds,M,ρ,Q,ez,W,m,f,q,Y⟩;have un:=hr.un;unfold tK at q;split at q;rename_i k d;obtain⟨kvs,U,o,kl,q1,q2⟩:=q;have z:=Reps.inv_cons f;clear f;obtain⟨_,_,rfl,E,f⟩:=z;have z:=Reps.inv_cons f;clear f;obtain⟨_,_,rfl,r2,f⟩:=z;obtain rfl:=Reps.inv_nil f;obtain⟨P,G,rfl,i,N⟩:=az.two rs;subst ez;obtain rfl:v=AAu a:=rx;obtain⟨ys,T,r,⟨Z,O,h1,h2,b,g⟩,V,hl,hx,B⟩:=BT I m W U;have ai:O.size=ys.length:=by rw[<-F5,g,w4]
 refine Op QY ⟨Z,h1,h2.1⟩ PySem.F.entry_dict_setdefault (PySem.F.args_dict_setdefault_3 _ _ _) (.of_wp λA R s (h:g9 (i3 X.prog X.w) A.in1 (Builtin.«dict.setdefault» ⟨[.ref a,P,G],[]⟩) (λl s'=>∃v,l=.done (.ret v)/\R (.ok<|.ret v) s') (λe s'=>R (.error e) s') s)=>h) ?_;unfold Builtin.«dict.setdefault»;refine u7 ?_;unfold Builtin.Dict.keyAndDefault;refine u7<|N9 (show s.TypeIs (.ref a) "dict" from⟨Z,h1,h2.1⟩) ?_;show g9 _ _ (pure (a,P,a9 G)) _ _ s;refine u9 ?_;show g9 _ _ (if (a==d6)=b8 then _ else(dictSetDefault a P G >>= _)) _ _ s;rw[t6<|by rw[V];exact MK];unfold dictSetDefault;refine u7 ?_
 try with_reducible refine F3 ?_
 refine u7<|xF I (by show X.A.units+1+8<j9;lia) E i o λt=>?_;refine u7<|BL (I.tok t) m (by show X.A.units+1+8<j9;lia) r B h1 b g E i o (λD=>?_) λj p L=>?_;have S:bb kvs k=b7:=by
  rcases rh r k with⟨J,_⟩|⟨_,_,j,_,_,_,y,_⟩
  exact J;exact t7 y<|D j _
 have C:((kvs++[(k,d)]).map (·.1)).Nodup:=by rw[<-tN S];exact nj B
 obtain⟨w1,w2⟩:=m.writeM (xs':=ys++[(k,P,G)]) W U T (by rw[B6,G5];lia) V C<|AB r ⟨rfl,o,⟨_,E,i⟩,_,r2,N⟩;have sb:K5 a s.heap (s.heap.update a<|Obj.mapDictKeys λe=>e.push ⟨NO X.w k,P,G⟩):=Mh ..;have c:dM a (ys++[(k,P,G)]) X.prog X.w (s.heap.update a<|Obj.mapDictKeys λe=>e.push ⟨NO X.w k,P,G⟩):=by refine⟨_,O.push ⟨NO X.w k,P,G⟩,LQ _ h1<|P9<|O1 b _,h2.mapDictKeys _,?_,?_⟩;rw[O1 b,B6];rfl;rw[OV,g,J3];rfl
 have he:∃q,(s.heap.update a<|Obj.mapDictKeys λe=>e.push ⟨NO X.w k,P,G⟩).get? a=a9 q:=let ⟨q,_,hq,_⟩:=c;⟨q,hq⟩
 refine u7<|K9<|u7<|wpAny_updateDictKeys (hz:=by lia) (s:={ s with toks:=t }) h1 b<|u9<|u9 ⟨G,rfl,?_⟩;exact⟨_,_,wk (I.tok t) (by rw[T];exact True.intro) sb he<|xH c,N,Y _ _ ⟨d,_,ρ,w1,w2,r2.grow w2,q2 S⟩⟩;refine u7<|MW (s:={ s with toks:=t }) h1 b ?_;rcases rh r k with⟨_,D⟩|⟨d',v',j',u,u',J,y,z3,z4⟩
 exact t7 L<|D j p;have:j=j':=hV (by rw[lN r];exact B) L y;subst this;rw[L]at y;rw[rG g j,L];obtain rfl:p=(u,u'):=by injection y with y;injection y
 exact u7<|K9<|u9<|u9 ⟨u',rfl,v',H,I.tok _,z4,Y _ _ ⟨d',M,ρ,m,.refl,z3,q1 _ J⟩⟩;exact q.elim
end
theorem Kx:HE X (.Dict [] [] pos) EW:=⟨Lx⟩
theorem Ky(i:Room k X.A)(m:HE X o to)(f:HA X (e::es) t)(h:n5 o "get" X.env (eval o X.env)=eval o X.env:=by kernel_rfl)(w:((i4 cpos<|i5 (e::es) X.env).all (λx=>!x.1)&&(n9 cpos<|o0 [] X.env).all (λx=>x.1.isSome) && decide ((e::es).length+([]:List o4).length+(if ([]:List o4).isEmpty then 0 else 1)<30))=b8:=by kernel_rfl)(a:(apos.endLine==cpos.line)=b8:=by kernel_rfl) (hs:i5 (e::es) X.env=(b9,eval e X.env)::i5 es X.env:=by kernel_rfl) (n:(i4 cpos<|i5 es X.env).any (·.1)=b9:=by kernel_rfl):HE X (.Call (.Attribute o "get" apos) (e::es) [] cpos) (Oh pS to t):=⟨d_mm O4 Rn (DH i) m.ok f.ok h w a hs n⟩
theorem Kw(i:Room k X.A)(m:HE X o to)(f:HA X (e::es) t)(h:n5 o "setdefault" X.env (eval o X.env)=eval o X.env:=by kernel_rfl)(w:((i4 cpos<|i5 (e::es) X.env).all (λx=>!x.1)&&(n9 cpos<|o0 [] X.env).all (λx=>x.1.isSome) && decide ((e::es).length+([]:List o4).length+(if ([]:List o4).isEmpty then 0 else 1)<30))=b8:=by kernel_rfl)(a:(apos.endLine==cpos.line)=b8:=by kernel_rfl) (hs:i5 (e::es) X.env=(b9,eval e X.env)::i5 es X.env:=by kernel_rfl) (n:(i4 cpos<|i5 es X.env).any (·.1)=b9:=by kernel_rfl):HE X (.Call (.Attribute o "setdefault" apos) (e::es) [] cpos) (Oh tK to t):=⟨d_mm QY PySem.F.type_dict_setdefault (DF i) m.ok f.ok h w a hs n⟩
def Jn(n:Nat):D6:=λds M Q=>match ds with
 | []=>∃xs d,M[n]?=a9 (.lst<|xs++[d])/\Q d (M.set n<|.lst xs)
 |_=>False
theorem GT:K3 X "list.pop" (kw X.K Jn):=by
 rintro p s σ H x xs v us R I l j ⟨n,a,ds,M,ρ,Q,c,f,m,g,q,k⟩;unfold Jn at q;split at q;obtain⟨ys,d,e,q⟩:=q;obtain rfl:=Reps.inv_nil g;obtain⟨vs,h,r⟩:=m.obj n a _ f e;have J:=r.length;rw[B6,G5]at J;obtain⟨y,O,o⟩:=r.get (i:=ys.length) (d:=d) (by simp);have b:Reps X.K ρ H ys vs.dropLast:=by have:=r.take ys.length;rw[List.take_left]at this;rw[List.dropLast_eq_take,<-J,QF];exact this
 obtain⟨t,w⟩:=m.write f e h b;exact Ka p s σ H x _ v us R I l j ⟨a,vs,y,c,rfl,h,by rw[<-J,QF];exact O,k _ _ ⟨d,_,ρ,t,w,o.grow w,q⟩⟩;exact q.elim
theorem KM:Px X "pop" Jn:=⟨_,PySem.F.slot_list_pop,PySem.F.type_list_pop,GT⟩
noncomputable def Itb(K:w9)(a:c8)(n:Nat):It:=⟨λi H=>i<n/\∃xs x,K2 K H a xs/\xs[n-1-i]?=a9 x,λi H x H'=>H'=H/\∀xs,K2 K H a xs->xs[n-1-i]?=a9 x,λi H=>i=n⟩
theorem CG{P:c7}{w:c6}{K:w9}{V:h7}(a it:c8)(n:Nat):Turn P w K V (Itb K a n) [it] it (λi h=>i<=n/\h.IsRevIter it a ((n:Int)-1-(i:Int))) where
 mem:=by simp
 obj:=λi h st b g=>by
  obtain rfl:b=it:=by simpa using g
  obtain⟨_,o,e,c,d⟩:=st;exact⟨o,e,λv z=>by rw[d]at z;cases z⟩
 keep:=λi h h' st k=>⟨st.1,st.2.at λo e=>k it (by simp) o e⟩
 item:=by intro X B C A D i f s σ H E I l st R;subst B C A;obtain⟨hi,xs,x,F,G⟩:=R;obtain⟨its,T,p,W⟩:=I.list F;obtain⟨u,N,Q⟩:=T.get G;obtain⟨m,q,M,r,t,y⟩:=l it (by simp);have S:=st.2;rw[show (n:Int)-1-(i:Int)=((n-1-i:Nat):Int) by lia]at S;refine wpAny_pyNext_rev_item S p.isList (x:=u) (by simpa using N) λh' j U=>?_;rw[show ((n-1-i:Nat):Int)-1=(n:Int)-1-((i+1:Nat):Int) by lia]at j;have J:v4 X f σ H { s with heap:=h' }:=I.turned (t':=s.toks) (λb o g e=>(U.2 b g).trans e) m q r t y;obtain⟨o,e,c,d⟩:=id j;exact⟨u,rfl,wd (s:={ s with heap:=h' }) e c d (by decide) ⟨x,H,J,Q,⟨rfl,λys O=>by rw[I.list_inj O F];exact G⟩,⟨hi,j⟩,λb g=>(l b g).1⟩⟩
 done:=by intro X B C A D i f s σ H E I l st R;subst B C A;obtain rfl:i=n:=R;obtain⟨m,q,M,r,t,y⟩:=l it (by simp);have S:=st.2;rw[show (i:Int)-1-(i:Int) = -1 by lia]at S;exact wpAny_pyNext_rev_end (I.ok.hd D) S λh' L=>⟨rfl,I.turned (t':=s.toks) (λb o g e=>L b o g e) m q r t y⟩
 self:=λ_ _ _ _ _ st h=>wpAny_pyIter_revIter st.2 h
theorem rM:f6 "reversed" = a9 (.type "reversed"):=by decide +kernel
def EU(t:I9):Mv:=λS M R=>t S M λds a=>match ds with
 | [.ref n]=>∃xs,aq a n xs/\(xs.length<=sizeLine->R ⟨xs.reverse,λM=>aq M n xs⟩ a)
 |_=>False
theorem Lp{a:h7}{G:I9}{p j:Pos}(W:X.mg "reversed" = b7)(O:DA X [a] G)(U:Gl X "reversed":=by rfl)(hs:i5 [a] X.env=[(b9,eval a X.env)]:=by rfl):DI X tg (.Call (.Name "reversed" p) [a] [] j) (EU G):=by
 intro f s σ H R I h;obtain⟨S,M,ρ,Q,sm,sr,Y,k⟩:=h;refine Call_<|nS I U W rM<|RI (A2 (O j f s σ H _ I ⟨S,M,ρ,_,sm,sr,Y,λv H' w=>w⟩) ?_) hs rfl;rintro us A ⟨vs,E,q,r1,ds,J,D,m,g1,z,t⟩
 try dsimp only at t
 split at t;rename_i n;obtain⟨xs,N,q2⟩:=t;have C:=Reps.inv_cons z;clear z;obtain⟨_,_,rfl,K,z⟩:=C;obtain rfl:=Reps.inv_nil z;obtain⟨u,rfl,L⟩:=az.one r1;obtain⟨a,rfl,B⟩:=v9.inv_ref K;obtain rfl:u=AAu a:=L;obtain⟨ws,Z,r⟩:=aq.seq m N B;obtain⟨its,rv,p,hz⟩:=q.list Z;have lr:=r.length;have lv:=rv.length;refine call_reversed_list p.isList ?_;refine wpAny_pyIter_revIter (l:=a) (i:=((its.toArray.size:Int)-1)) ⟨_,C0 _ rfl,rfl,rfl⟩ ?_;refine⟨A.heap.objs.size,[A.heap.objs.size],_,_,E,rfl,q.kept (t':=A.toks) λb o e=>A1 _ e,CG a _ xs.length,⟨A8 _,_,C0 _ rfl,rfl,?_⟩,λb P=>?_,k _ E ⟨⟨xs.reverse,λM=>aq M n xs⟩,J,D,m,g1,?_,q2<|by lia⟩⟩;show Data.fields #[.ref a,j4<|(its.toArray.size:Int)-1]=Data.fields #[.ref a,j4<|(xs.length:Int)-1-((0:Nat):Int)];rw[B5,<-lv,<-lr,show ((xs.length:Int)-1-((0:Nat):Int))=(xs.length:Int)-1 by lia];obtain rfl:b=A.heap.objs.size:=by simpa using P
 exact q.fpOk (x5 _)<|q.hok.fresh<|x5 _;refine⟨λi c F H' s' g ok hi=>?_,λi c F H' x H2 s' g ok hi y=>?_,λc F H' s' g ok=>?_⟩;rw[ADL]at hi;obtain⟨vs,h,r⟩:=aq.seq s' ok<|ar g.pre B;have V:xs.length-1-i<vs.length:=by rw[<-r.length];lia
 exact⟨hi,vs,vs[xs.length-1-i],h,A5 V⟩;rw[ADL]at hi;obtain⟨rfl,y⟩:=y;obtain⟨vs,h,r⟩:=aq.seq s' ok<|ar g.pre B;obtain⟨d,T,rd⟩:=r.getV<|y vs h;exact⟨d,c,by rw[List.getElem?_reverse hi];exact T,s',.refl,rd⟩;exact(ADL:xs.reverse.length=xs.length);exact t.elim
theorem Km(d:X.mg "reversed" = b7)(f:HA X [a] ta)(R:X.env.kindOf "reversed" = a9 .globalImplicit:=by kernel_rfl)(hs:i5 [a] X.env=[(b9,eval a X.env)]:=by kernel_rfl):HI X tg (.Call (.Name "reversed" p) [a] [] pos) (EU ta):=⟨Lp d f.ok R hs⟩
section
open PySem.W
structure ExcK(K:Frag)(D:c8):Prop where
 ga:findIn K (.ref D) "__getattribute__" = a9 (a9<|.builtin "BaseException.__getattribute__")
 gt:findIn K (.ref D) "__getattr__" = a9 b7
 mb:mroIn K D (.type "BaseException")=a9 b8
 mo:mroIn K D (.type "object")=a9 b8
 cl:findIn K (.ref D) "__class__" = a9 (a9<|.builtin "object.__class__")
end
inductive Fly(P:c7)(w:c6)(stk:List Env)(H:Hp)(h0:d5)(a:c8)(C:c3)(H1:Hp)(h:d5):Prop
 |mk (B:d5) (a0:c3) (fly:Heap.FlyingW B stk a C a0 h) (un:Un (K7 stk) [] H H1 h0 h) (hok:E3 P w H1 h)
  (old:∀b o,h0.get? b=a9 o->b∉K7 stk->∃o',B.get? b=a9 o'/\(H b=b7->o'=o)) (trk:∀b u,H1 b=a9 u->∃o,B.get? b=a9 o)
structure DefX(X:Cx):Prop where
 stk:X.stack=X.env::X.outer
 fr:X.env.frame=a9 X.env.locals
 ex:X.ex=[]
def CXe(P:c7)(w:c6):Nn:=λk H s E e s'=>∃a C b,e=.ref a/\s'.os=s.os/\ge s'.gens/\Fly P w k H s.heap a C b s'.heap/\E C b7 b
noncomputable abbrev vE:List c3:=[.type "ValueError",.type "Exception",.type "BaseException",.type "object"]
abbrev DX:=c5->w6->Prop
abbrev Rg:=DX->v5
abbrev DTEX:=DX->A3
abbrev DSpX:=List D->w6->DK->DX->Prop
inductive XQ(K:w9)(ρ:List c8)(H:Hp)(R:DX)(C:c3)(dx:Option c8)(H':Hp):Prop
 |mk (x:c5) (c:c8) (M':w6) (ρ':List c8) (e:C=.ref c) (hx:PySem.W.nsIn K d9 x=a9 (a9 (.ref c))) (s:z6 K ρ' M' H') (g:Grow K ρ H ρ' H') (q:R x M')
inductive lowX(K:w9)(E:XK)(t:Rg)(D:Ends)(σ:St)(H:Hp):Prop
 |mk (S:SD) (M:w6) (ρ:List c8) (F:DEnds) (R:DX) (s:z6 K ρ M H) (sr:SRep K ρ H S σ) (q:t R F S M) (k:Po K ρ H F D) (x:∀C dx H',XQ K ρ H R C dx H'->E C dx H')
inductive lowXE(K:w9)(E:XK)(t:DTEX)(σ:St)(H:Hp)(Q:VK):Prop
 |mk (S:SD) (M:w6) (ρ:List c8) (F:DK) (R:DX) (s:z6 K ρ M H) (sr:SRep K ρ H S σ) (q:t R S M F) (k:∀v H',VQ K ρ H F v H'->Q v H') (x:∀C dx H',XQ K ρ H R C dx H'->E C dx H')
structure XA(b:Bool)(X:Cx)(pins:List (c8×c9))(E:XK)(P:St->Prop)(Ex:c3->f8->Prop):Prop where
 on:∀σ H1 s1 e s',P σ->v4 X pins σ H1 s1->CXe X.prog X.w X.stack H1 s1 E e s'->Ex e s'
 all:b=b8->∀σ,P σ
 made:b=b8->∀σ H1 s1 h' e C vs,v4 X pins σ H1 s1->Heap.MadeExcOf s1.heap h' e C vs->E C b7 H1->Ex (.ref e) { s1 with heap:=h' }
structure HX(b:Bool)(X:Cx)(st:i6)(t:Rg):Prop where
 ok:∀(pins:List (c8×c9)) (s:f8) (σ:St) (H:Hp) (D:Ends) (E:XK) (P:St->Prop) (Ex:c3->f8->Prop),XA b X pins E P Ex->P σ->v4 X pins σ H s->lowX X.K E t D σ H->g9 (i3 X.prog X.w) X.A (exec st X.env) (SP X pins D) Ex s
structure HXs(b:Bool)(X:Cx)(st:List i6)(t:Rg):Prop where
 ok:∀(pins:List (c8×c9)) (s:f8) (σ:St) (H:Hp) (D:Ends) (E:XK) (P:St->Prop) (Ex:c3->f8->Prop),XA b X pins E P Ex->P σ->v4 X pins σ H s->lowX X.K E t D σ H->g9 (i3 X.prog X.w) X.A (execs st X.env) (SP X pins D) Ex s
structure HXE(b:Bool)(X:Cx)(e:h7)(t:DTEX):Prop where
 ok:∀(pins:List (c8×c9)) (s:f8) (σ:St) (H:Hp) (Q:VK) (E:XK) (P:St->Prop) (Ex:c3->f8->Prop),XA b X pins E P Ex->P σ->v4 X pins σ H s->lowXE X.K E t σ H Q->g9 (i3 X.prog X.w) X.A (eval e X.env) (EP X pins σ Q) Ex s
structure ClsX(K:w9)(x:c5)(C:c8):Prop where
 at_:PySem.W.nsIn K d9 x=a9 (a9<|.ref C)
 exc:PySem.W.excIn K C vE "ValueError.__new__" = b8
 own:ExcK K C
 val:PySem.W.kitOne K (.ref C) (.type "ValueError")=a9 b8
structure RoomH(k:Nat)(A:f7):Prop where
 dp:A.depth+3*k+5<recursionLimit
 un:A.units+16*k+200<j9
structure FnH(P:c7)(w:c6)(K:w9)(mg:c5->Option c3)(base:d5)(k:Nat)(f:c8)(fd:k5)(ps:List c5)(sp:Sp):Prop where
 len:∀vs H Q E,sp vs H Q E->vs.length=ps.length
 run:∀(A:f7) (outer:List Env) (s:f8) (H:Hp) (args:Args) (us:List c3) (vs:List V) (Q:VK) (E:XK),RoomH k A->Env0 P w K mg base A outer s H->BindsTo s fd args (ps.zip us)->az vs us->sp vs H Q E ->k9 (i3 P w) A (.call (.ref f) args) (CR LV outer P w H s Q E) s
end L2
namespace L2
open PySem PySem.Spec PyProof.Rows DL PySem.W
end L2
namespace L2
open PySem PySem.Spec PyProof.Rows DL
abbrev DTAX:=DX->I9
inductive lowXA(K:w9)(E:XK)(t:DTAX)(σ:St)(H:Hp)(Q:List V->Hp->Prop):Prop
 |mk (S:SD) (M:w6) (ρ:List c8) (F:List D->w6->Prop) (R:DX) (s:z6 K ρ M H) (sr:SRep K ρ H S σ) (q:t R S M F) (k:∀v H',AQ K ρ H F v H'->Q v H') (x:∀C dx H',XQ K ρ H R C dx H'->E C dx H')
structure HXA(b:Bool)(X:Cx)(es:List h7)(t:DTAX):Prop where
 ok:∀(pos:Pos) (pins:List (c8×c9)) (s:f8) (σ:St) (H:Hp) (Q:List V->Hp->Prop) (E:XK) (P:St->Prop) (Ex:c3->f8->Prop),XA b X pins E P Ex->P σ->v4 X pins σ H s->lowXA X.K E t σ H Q->g9 (i3 X.prog X.w) X.A (spliced<|i4 pos<|i5 es X.env) (AP X pins σ Q) Ex s
end L2
namespace L2
open PySem PySem.Spec PyProof.Rows DL PySem.W
theorem yj{l:c8}{o:c9}{n:Nat}{vs:List c3}{Q:c3->f8->Prop}(i:s.heap.get? l=a9 o)(d:o.cls=.type "tuple")(e:o.data=.seq vs.toArray n)(c:vs.length<=sizeLine)(h:∀g a,s.heap.objs.size<a->(∀b o,s.heap.get? b=a9 o->g.get? b=a9 o)->g.get? a=a9 (o8 "list" vs.toArray 0)->g9 (i3 prog w) A.in1.in1 (Builtin.«list.sort» ⟨[.ref a],[]⟩) (λf s'=>f=.done (.ret .none)/\Q (.ref a) s') (λ_ _=>False) { s with heap:=g }):g9 (i3 prog w) A (call (.builtin "sorted") [.ref l]) Q E s:=by
 refine Calls.call_function_entry kind_sorted plain_sorted entry_sorted (args_sorted1<|.ref l) ?_;unfold Builtin.«sorted»;refine u7 (m:=checkCount "sorted" 1 1 _)<|u9<|u7<|wn i (.inr d) e (u7<|NY ?_ c) c;generalize R:((s.heap.push<|o8 "list" #[] 0).update s.heap.objs.size (G6 (· ++ vs.toArray)))=g1;have z:g1.objs.size=s.heap.objs.size+1:=by rw[<-R,Heap.size_update,size_push']
 have D:∀b o,s.heap.get? b=a9 o->g1.get? b=a9 o:=λb o q=>by have t:=A4 q;rw[<-R,N8 _ _ _ _<|A9 t,Heap.get?_push_ne _ _ _<|A9 t];exact q
 show g9 _ _ _ _ _ { s with heap:=g1.push (o8 "list" vs.toArray 0) };have L:(g1.push<|o8 "list" vs.toArray 0).get? g1.objs.size=a9 (o8 "list" vs.toArray 0):=C0 _ rfl;refine u7<|F3<|J4 slot_list_sort (⟨_,L,rfl⟩) entry_list_sort ?body<|args_list_sort<|.ref _
 case body =>
  refine J2 (h _ g1.objs.size (by rw[z];exact L4 _) (λb o q=>A1 _<|D b o q) L) (λf s' q=>?_) λ_ _ x=>x.elim;obtain⟨rfl,q⟩:=q;exact⟨_,rfl,u9 ⟨_,rfl,q⟩⟩
theorem nP{a:c8}{vs:List c3}{P:PySem.Fin->f8->Prop}(L:s.heap.get? a=a9 (o8 "list" vs.toArray 0))(h2:vs.length<2)(h:∀h' n,(∀b o,b≠a->s.heap.get? b=a9 o->h'.get? b=a9 o)->h'.get? a=a9 { cls:=.type "list",data:=.seq vs.toArray n }->P (.done<|.ret .none) { s with heap:=h' }):g9 (i3 prog w) A (Builtin.«list.sort» ⟨[.ref a],[]⟩) P E s:=by
 have i:vs.length<=sizeLine:=by rw[L8];lia
 rw[list_sort_plain];refine u7<|PC L rfl ?_;refine u7<|Ot L rfl ?_ (by rw[B5,L8];lia)<|A8 _;obtain⟨f,e⟩:∃f,(s.heap.update a<|G6 λ_=>(#[]:Array c3)).get? a=a9 (o8 "list" #[] f):=⟨_,Ox L λ_=>#[]⟩
 refine u7<|OO e rfl<|u7<|wpAny_newTuple (u7<|NY (F3 ?_)<|A8 _) i;dsimp only;have g:vs.toArray.size<2:=by rw[B5];exact h2
 rw[t5 g,t5 g];refine u7<|u9 ?_;rw[StateT.run_pure];refine u7<|u9 ?_;dsimp only;generalize d:((s.heap.update a<|G6 λ_=>(#[]:Array c3)).push<|o8 "tuple" vs.toArray 0).push (o8 "list" #[] 0)=g3;have c:g3.get? a=a9 (o8 "list" #[] f):=by rw[<-d];exact A1 _<|A1 _ e
 refine u7<|OO c rfl ?_;have r:∀us:List c3,us.length<2->(us.toArray.zip us.toArray).map (·.2)=us.toArray:=λus hu=>by
  match us,hu with
  | [],_=>simp
  | [v],_=>simp
  |_::_::_,hu=>simp at hu;lia
 have t:(arrOf<|ON general' (vs.toArray.zip vs.toArray) #[] 7 b7).map (·.2)=vs.toArray:=r vs h2;rw[t];refine u7 (Ot c rfl ?_ (A8 _)<|by rw[B5,L8];lia);simp only[show failedOf (ON general' (vs.toArray.zip vs.toArray) #[] 7 b7)=b7 from rfl,bne_self_eq_false,C5,u3];obtain⟨j,k⟩:∃j,(g3.update a<|G6 λ_=>vs.toArray).get? a=a9 (o8 "list" vs.toArray j):=⟨_,Ox c λ_=>vs.toArray⟩
 refine u9<|h _ j (λb o l q=>?_) k;rw[N8 _ _ _ _ l,<-d];refine A1 _<|A1 _ ?_;rw[N8 _ _ _ _ l];exact q
def lH:D6:=λds M Q=>match ds with
 | [.tup xs]=>SrtG M xs/\∀ys,ys.Perm xs->xQ M ys->Q (.ref M.length) (M++[.lst ys])
 |_=>False
theorem za(hr:Room k X.A):kI X (.builtin "sorted") lH:=by
 rintro E s σ H vs us R I rv ⟨ds,M,ρ,Q,Z,Y,q,kk⟩;unfold lH at q;split at q;rename_i xs;obtain⟨so,q⟩:=q;obtain⟨v1,_,rfl,rx,Y⟩:=Reps.inv_cons Y;obtain rfl:=Reps.inv_nil Y;obtain⟨u,rfl,ru⟩:=az.one rv;obtain⟨l,ws,rfl,T,r⟩:=v9.inv_tup rx;cases ru;obtain⟨its,N,⟨o,ho,G,n,hd⟩,hz⟩:=I.tuple T;have lw:=r.length;have li:=N.length;have ag:=so.len;have O:its.length<=sizeLine:=by rw[L8];lia
 refine yj ho G hd O λg a F K w=>?_;have v:s.heap.get? a=b7:=Heap.get?_none_of_le<|MR F;obtain⟨m,J,hm⟩:=I.loc;have hL:X.env.locals<s.heap.objs.size:=by obtain⟨o',_,_,f,_⟩:=J;exact A4 f
 have B:a≠X.env.locals:=LZ<|ND hL F;have W:∀b u,s.heap.get? b=a9 u->b≠a:=λb u e z=>by rw[z,v]at e;cases e
 by_cases h2:its.length<2;refine nP (s:={ s with heap:=g }) w h2 λh' n V f=>⟨rfl,?_⟩
 refine⟨.ref a,_,I.laid (t':=s.toks) (o:=.lst ws) (λb u e=>V b u (W b u e)<|K b u e) (MR F) ⟨by lia,its,n,N,f⟩,rfl,kk _ _<|VQ.laidL Z .refl r (I.hok.fresh<|MR F)<|q xs (Ov _) ?_⟩;unfold xQ
 match xs,(show xs.length<2 by lia) with
 | [],_=>exact P5
 | [x],_=>exact O9 _ _
 |_::_::_,hx=>simp at hx;lia
 have y:2<=its.length:=by lia
 have S:g.Ns X.env.locals m:=by obtain⟨o',es,ep,f,aH⟩:=J;exact⟨o',es,ep,K _ _ f,aH⟩
 refine kat_list_sort (s:={ s with heap:=g }) (h₀:=Att.noObjs s.heap) (L:=X.env.locals) (m:=m) (news:=Att.ledger g X.env.locals a) (fr_no S) (λp hp=>GR B w p<|C6 _ hp) w B (Att.noObjs_get ..) (λp hp=>(Att.mem_ledger.mp hp).2.1) y (by lia) λe1 h' F' N'=>?_;have U:∀b u,b≠X.env.locals->s.heap.get? b=a9 u->h'.get? b=a9 u:=λb u P e=>tX N' b u P (W b u e)<|K b u e;have I':v4 X E σ H { s with heap:=h' }:=I.keptF (t':=s.toks) U J F'.ns;have hu:X.A.in1.in1.units+x3<j9:=by have:=hr.un;have:x3=30:=rfl;show X.A.units+1+1+x3<j9;lia
 refine J2 (mV I' Z so r N y hu) (λκ s' hk=>?_) λ_ _ x=>x;obtain⟨rfl,D⟩:=hk;refine Srt.wp_run (n:=its.length) (c:=λi j=>if i<xs.length then(if j<xs.length then D0 M x3 (xs.getD i default) (xs.getD j default)else b8)else b9) (λi j C hi hj G=>?_) _ (Srt.sort_bd<|by lia).1 ?_;refine D i j C hi hj ?_;rw[t5 (by lia),t5<|by lia]at G;exact G;have t:=Srt.All.run (c:=λi j=>if i<xs.length then(if j<xs.length then D0 M x3 (xs.getD i default) (xs.getD j default)else b8)else b9) _ (Srt.sort_bd (n:=its.length)<|by lia).2;obtain⟨o1,o2,o3⟩:=GI so;have d:=Srt.sort_list xs (by lia) o1 o2 o3
 try dsimp only at d
 rw[show xs.length=its.length by lia]at d t ⊢;generalize Srt.run _ (No its.length)=p at t d ⊢;have hi:∀i∈p.toList,i<xs.length:=λi h=>by have:=t.mem_iff.mp h;rw[K0]at this;lia
 refine KasFin.intro F' N' (UpdF.head λq T=>(Att.mem_ledger.mp T).2.1) λh2 c F2 N2=>?_;refine⟨rfl,.ref a,_,I.laidF (t':=s.toks) (o:=.lst<|p.toList.map λi=>ws.getD i .non) (λb u P e=>tX N2 b u P (W b u e)<|K b u e) J F2.ns v (E3.none I.hok v) ⟨?_,_,c,N.perm p.toList (λi h=>by have:=hi i h;lia),(N2 _ F4).1⟩,rfl,kk _ _<|VQ.laidL Z .refl (r.perm p.toList hi) (E3.none I.hok v)<|q _ d.1 d.2⟩;rw[w4];have:=d.1.length_eq;rw[w4]at this;lia;exact q.elim
theorem yO(i:Room k X.A):HC X (.builtin "sorted") lH:=⟨za i⟩
end L2
namespace LW
open PySem L2
local macro_rules | `(tactic| walk_at"sc")=>`(tactic| exact⟨rfl,rfl,rfl,by decide +kernel,rfl,by decide +kernel,by decide +kernel⟩)
local macro_rules | `(tactic| walk_at"dl")=>`(tactic| simp only[EE,aC,E4,LB,LD,NR,aG,v7,aa,ae,bB,yW,dOrV,EV,dIfE,F6,oH,br,ap,bt,aV,kF,lE,u8,uJ,dC,ab,dO,jp,NQ,oW,kE,OI,ME,bU,Fx,qAdd,aL,IJ,lu,aO,bY,M8,OH,Nl,Pg,tL,E8,Og,ir,IK,z5,Qg,cE,LC,ES,nZ,cq,og,dMl0,nh,fV,EX,EY,jW,rJ,ji,oj,Pl,pR,xL,uH,Gj,qh,As,At,EW,Oh,pS,tK,Jn,EU,Jm,kh,xK,Iu,iN,tM,hZ,SqAt,Fv,ng,gK,Oi,NS,Q9,mZ,tJ,tyD,RJ,fW,Ls,D5,PF,List.cons_append,G4,Ru,Qc,D7,D3,List.replicate_zero,List.replicate_succ,QD,QC,NC,Nat.reduceAdd,Nat.reduceSub,Option.join_some,u4,u3,C5])
noncomputable def top(i:Nat):i6:=PySem.Challenge.pw_talkmarks_k47_read_to_the_end.main.body.getD i<|.Pass ⟨0,0,0,0⟩
noncomputable abbrev B_:List c5:=["len","any","sorted","tuple","dict","set","reversed","range","max"]
noncomputable abbrev C_:List (c5×Int):=[]
noncomputable abbrev iT:List c5:=["sign"]
noncomputable abbrev cf:List c5:=["text","name"]
noncomputable abbrev kq:List c5:=["saying","name"]
noncomputable abbrev iU:List c5:=["pairs"]
noncomputable abbrev nB:List c5:=["house","thing"]
noncomputable abbrev ko:List c5:=["house","name"]
noncomputable abbrev gG:List c5:=["house","room"]
noncomputable abbrev kn:List c5:=["deed"]
noncomputable abbrev iQ:List c5:=["deed"]
noncomputable abbrev iS:List c5:=["deed","vector"]
noncomputable abbrev dJ:List c5:=["log","kind"]
noncomputable abbrev kr:List c5:=["log","kind","name"]
noncomputable abbrev fj:List c5:=["log","kind","name"]
noncomputable abbrev iP:List c5:=["log"]
noncomputable abbrev nw:List c5:=["say"]
noncomputable abbrev ki:List c5:=["say"]
noncomputable abbrev iW:List c5:=["house","say","elders"]
noncomputable abbrev cH:List c5:=["house","log"]
noncomputable abbrev eL:List c5:=["deed","says"]
noncomputable abbrev fi:List c5:=["log","kind","says"]
noncomputable abbrev eK:List c5:=["log","says"]
noncomputable abbrev bQ:List c5:=["log","says"]
noncomputable abbrev gD:List c5:=["say","changes"]
noncomputable abbrev gy:List c5:=["house","log"]
noncomputable abbrev cF:List c5:=["log","name"]
noncomputable abbrev nC:List c5:=["say","name","vectors","seen"]
noncomputable abbrev cG:List c5:=["house","log","name"]
noncomputable abbrev cW:List c5:=["says","room"]
noncomputable abbrev gH:List c5:=["depth","stamps"]
noncomputable abbrev eI:List c5:=["beneath"]
noncomputable abbrev nv:List c5:=["house","log","room"]
noncomputable abbrev eJ:List c5:=["house","log","name","room"]
noncomputable abbrev nA:List c5:=["house","log","name","room"]
noncomputable abbrev iR:List c5:=["house","log","name","room"]
noncomputable abbrev iV:List c5:=["house","log","name","room"]
noncomputable abbrev kj:List c5:=["house","log","name","room"]
noncomputable abbrev gx:List c5:=["house","log","name"]
noncomputable abbrev nE:List c5:=["_law_script","_law_k"]
noncomputable abbrev vC:List c5:=["_law_cell","_law_k"]
noncomputable abbrev AF:List c5:=["_law_cell","_law_k"]
noncomputable abbrev ny:List c5:=["_law_script","_law_start","_law_most"]
noncomputable abbrev vB:List c5:=["_law_number","_law_many"]
noncomputable abbrev vD:List c5:=["_law_cell"]
noncomputable abbrev vF:List c5:=["_law_house_here"]
noncomputable abbrev qI:List c5:=["_law_number","_law_names_here"]
noncomputable abbrev AD:List c5:=["_law_number","_law_says","_law_hands_here"]
noncomputable abbrev qH:List c5:=["_law_number","_law_hands_here","_law_counts"]
noncomputable abbrev AC:List c5:=["_law_number","_law_house_here","_law_says","_law_hands_here"]
noncomputable abbrev GH:List c5:=["_law_number","_law_house_here","_law_says","_law_hands_here","_law_counts"]
noncomputable abbrev GF:List c5:=["_law_house_here","_law_numbers_here","_law_hands_here"]
noncomputable abbrev AE:List c5:=["_law_house_here","_law_log_here","_law_act_here","_law_hand"]
noncomputable abbrev vA:List c5:=["_law_house_here","_law_log_here"]
noncomputable abbrev nD:List c5:=["_law_house_here","_law_log_here","_law_number"]
noncomputable abbrev GG:List c5:=["_law_script"]
structure Tops(P:c7)(w:c6)(K:w9)(mg:c5->Option c3)(base:d5):Prop where
 f_is_letter:cB K mg "is_letter" (top 4) iT
 f_begins_with_name:cB K mg "begins_with_name" (top 5) cf
 f_is_named:cB K mg "is_named" (top 6) kq
 f_firsts_of:cB K mg "firsts_of" (top 8) iU
 f_is_room:cB K mg "is_room" (top 9) nB
 f_rooms_of:cB K mg "rooms_of" (top 10) ko
 f_members_of:cB K mg "members_of" (top 11) gG
 f_stamp_of:cB K mg "stamp_of" (top 13) kn
 f_person_of:cB K mg "person_of" (top 14) iQ
 f_is_within:cB K mg "is_within" (top 15) iS
 f_deeds_of_kind:cB K mg "deeds_of_kind" (top 17) dJ
 f_deeds_by:cB K mg "deeds_by" (top 18) kr
 f_stamps_told:cB K mg "stamps_told" (top 19) fj
 f_vector_of:cB K mg "vector_of" (top 20) iP
 f_room_of:cB K mg "room_of" (top 22) nw
 f_under_of:cB K mg "under_of" (top 23) ki
 f_can_stand:cB K mg "can_stand" (top 24) iW
 f_says_that_count:cB K mg "says_that_count" (top 25) cH
 f_is_by_writer:cB K mg "is_by_writer" (top 26) eL
 f_writers_own:cB K mg "writers_own" (top 27) fi
 f_last_changes:cB K mg "last_changes" (top 28) eK
 f_stamps_taken_back:cB K mg "stamps_taken_back" (top 29) bQ
 f_message_of:cB K mg "message_of" (top 30) gD
 f_says_shown:cB K mg "says_shown" (top 31) gy
 f_vectors_by_room:cB K mg "vectors_by_room" (top 33) cF
 f_is_read:cB K mg "is_read" (top 34) nC
 f_unread_messages:cB K mg "unread_messages" (top 35) cG
 f_stamps_beneath:cB K mg "stamps_beneath" (top 37) cW
 f_last_first:cB K mg "last_first" (top 38) gH
 f_rows_of_tree:cB K mg "rows_of_tree" (top 39) eI
 f_rows_of:cB K mg "rows_of" (top 40) nv
 f_new_messages:cB K mg "new_messages" (top 42) eJ
 f_new_for:cB K mg "new_for" (top 43) nA
 f_named_for:cB K mg "named_for" (top 44) iR
 f_first_new:cB K mg "first_new" (top 45) iV
 f_total_of:cB K mg "total_of" (top 46) kj
 f_totals_for:cB K mg "totals_for" (top 47) gx
 f_cell_at:cB K mg "_law_cell_at" (top 49) nE
 f_mixed:cB K mg "_law_mixed" (top 50) vC
 f_free:cB K mg "_law_free" (top 51) AF
 f_numbers:cB K mg "_law_numbers" (top 52) ny
 f_names:cB K mg "_law_names" (top 53) vB
 f_house:cB K mg "_law_house" (top 54) vD
 f_hands:cB K mg "_law_hands" (top 55) vF
 f_saying:cB K mg "_law_saying" (top 56) qI
 f_told:cB K mg "_law_told" (top 57) AD
 f_vector:cB K mg "_law_vector" (top 58) qH
 f_what:cB K mg "_law_what" (top 59) AC
 f_act:cB K mg "_law_act" (top 60) GH
 f_log:cB K mg "_law_log" (top 61) GF
 f_more:cB K mg "_law_more" (top 62) AE
 f_state:cB K mg "_law_state" (top 63) vA
 f_further:cB K mg "_law_further" (top 64) nD
 f_law:cB K mg "law" (top 65) GG
 b:TopB mg B_ C_
local macro_rules | `(tactic| walk_at"bb")=>`(tactic| first|exact LK|exact IH|exact LJ|exact LI|exact Cj|exact Fg)
local macro_rules | `(tactic| walk_at"tb")=>`(tactic| exact TopB.no (by k_dflt assumption) (by kernel_rfl))
local macro_rules | `(tactic| walk_at"dvr")=>`(tactic| (repeat' (first|(with_reducible first|(refine gA ?_;first|exact Kt|refine Hn ?_ ?_)|exact k_var|(refine KW ?_;first|exact k_int|exact k_bl|exact k_non|exact k_str)|(refine gCall ?_;first|refine Hu ?_ ?_|refine Hs ?_ ?_|refine yM (by k_dflt assumption) ?_ (by walk_at"tb") (by walk_at"tb")|refine wb (by k_dflt assumption) ?_ (by walk_at"tb")|refine Hw ?_ (by walk_at"tb") (by walk_at"bb") ?_|refine Ej ?_ (by walk_at"tb") (by walk_at"bb") ?_|refine k_cal (by k_dflt assumption) (by k_dflt assumption) ?_|refine Ho (by k_dflt assumption) ?_ ?_|refine Ky (by k_dflt assumption) ?_ ?_|refine Kw (by k_dflt assumption) ?_ ?_|refine k_ms ?_ ?_ ?_|refine k_ml ?_ ?_ ?_|refine k_ml0 ?_ ?_)|(refine gIx ?_;first|refine Hq ?_ ?_ ?_|refine Kv (by k_dflt assumption) ?_ ?_ (hs:=by k_dflt (intro _ _;kernel_rfl))|refine KA (by k_dflt assumption) ?_ ?_ (hs:=by k_dflt (intro _ _;kernel_rfl))|refine k_ix ?_ ?_ (hs:=by k_dflt (intro _ _;kernel_rfl)))|(refine gT ?_;first|refine Kh ?_ ?_ ?_|refine Kg ?_|refine kw_t (FC ?_ ?_)|refine kw_t (Ke ?_ ?_)|refine Kf ?_)|(refine gE ?_;first|exact Kz|exact Ku|exact Kx|refine k_op ?_ ?_ ?_|refine k_not ?_|refine k_cmp ?_ ?_ ?_|refine Hv ?_ ?_ ?_ ?_ ?_|refine k_one ?_|refine k_and ?_ ?_|refine k_or ?_ ?_|refine Hr ?_ ?_ ?_|refine k_tup ?_|refine k_lst ?_|refine k_lcN ?_ (λ_ _ _ _=>?_) (λ_ _ _ _=>?_) (λ_ _ _ _=>?_))|(refine gS ?_;first|exact xB|refine Bl ?_|refine FG ?_|refine Kk ?_ ?_ ?_|refine uu (by k_dflt assumption) ?_ (λ_ _ _ _=>?_) (λ_ _ _ _=>?_) (λ_ _ _ _=>?_)|refine FF (by k_dflt assumption) ?_|refine FI ?_ ?_|refine Bk (by k_dflt assumption) ?_ ?_ ?_|refine FH ?_ ?_ ?_|refine xA ?_ ?_)|(refine gOp ?_;first|exact HK|exact ho_eq (by k_dflt assumption)|exact HJ|exact ho_gt|exact ho_in (by k_dflt assumption)|exact KL (by k_dflt assumption)|exact ho_is|exact Es|exact ho_le|exact ho_lt|exact KK|exact KJ|exact ho_ne (by k_dflt assumption)|exact Er (by k_dflt assumption)|exact KI|exact KH|exact KG)|(refine gC ?_;first|exact KQ|exact BF (by k_dflt assumption)|exact EB (by k_dflt assumption)|exact EA (by k_dflt assumption)|exact KP|exact HR|exact HQ|exact yP (by k_dflt assumption)|exact yO (by k_dflt assumption)|exact Ez)|exact Kj|exact Hg|exact Hk|exact Hl|refine Ki ?_|refine FC ?_ ?_|refine Ke ?_ ?_|refine Hb ?_|refine Kd ?_|refine Hf ?_|refine Hj ?_|refine Bo (by walk_at"tb") ?_|refine Km (by walk_at"tb") ?_|refine Ed ?_|refine Ee ?_|refine Bp ?_|refine Kl ?_|exact Hm (by k_dflt assumption)|exact Kp (JZ (by kernel_rfl))|refine Ef ?_ ?_|refine Kn ?_|refine Ko ?_ ?_|exact BC|exact BB|exact Eu|exact KM|exact Et|exact BA)|refine Hi ?_ ?_|refine Bl ?_|refine FG ?_|refine Kk ?_ ?_ ?_|refine uu (by k_dflt assumption) ?_ (λ_ _ _ _=>?_) (λ_ _ _ _=>?_) (λ_ _ _ _=>?_)|refine FF (by k_dflt assumption) ?_|refine FI ?_ ?_|refine Bk (by k_dflt assumption) ?_ ?_ ?_|refine FH ?_ ?_ ?_|refine xA ?_ ?_|exact xB)))
local macro_rules | `(tactic| walk_at"dv")=>`(tactic| (intro _ _ _ _ _ _ _ _ _ _;refine HU rfl ?_;walk_at"dvr"))
section
variable{P:c7}{w:c6}{K:w9}{mg:c5->Option c3}{base:d5}
noncomputable def iO(p:c5×Int):D:=.tup [.str p.1,.int p.2]
def Hd(d:D):Prop:=∃(x:c5) (k:Int),d=.tup [.str x,.int k]
theorem HP(f:Hd a)(d:Hd b):v8 M (n+1) a b=b8↔a=b:=by obtain⟨x,k,rfl⟩:=f;obtain⟨y,l,rfl⟩:=d;show (v8 M n (.str x) (.str y)&&(v8 M n (.int k) (.int l)&&b8))=b8↔_;rw[ck,jf];simp
theorem KO(f:Hd a):x9 M x3 a=b8:=by obtain⟨x,k,rfl⟩:=f;rfl
noncomputable def oG(hs:List (D×Int)):List D:=hs.map λp=>.tup [p.1,.int p.2]
noncomputable def cC(hs:List (D×Int))(d:D)(num:Int):Bool:=match hs.find? λp=>decide (p.1=d) with
 |some p=>decide<|num<p.2
 |none=>b9
noncomputable def Q8:Nat->D->Bool
 |n+1,.tup xs=>xs.all<|Q8 n
 | 0,.tup _=>b9
 |_,.ref _=>b9
 |_,.ty _=>b9
 |_,_=>b8
def G8(n:Nat)(d:D):Prop:=Q8 n d=b8
def lT(n:Nat)(ds:List D):Prop:=ds.all (Q8 n)=b8
theorem G8.non:G8 n .non:=by cases n<;>rfl
theorem G8.bl(b:Bool):G8 n (.bl b):=by cases n<;>rfl
theorem G8.int(i:Int):G8 n (.int i):=by cases n<;>rfl
theorem G8.str(x:c5):G8 n (.str x):=by cases n<;>rfl
theorem lT.nil:lT n []:=rfl
theorem lT.cons(h:G8 n d)(t:lT n ds):lT n (d::ds):=by unfold lT G8 at *;rw[Mn,h,t];rfl
theorem G8.tup(h:lT n ds):G8 (n+1) (.tup ds):=h
theorem lT.of(h:∀d∈ds,G8 n d):lT n ds:=G7.mpr h
theorem bK:∀(n:Nat) (d:D),G8 n d->E6 k d:=by
 intro n;induction n with
 |zero =>
  intro d h;cases d with
  |tup xs=>cases h
  |ref i=>cases h
  |ty t=>cases h
  |non=>exact .non
  |bl b=>exact .bl b
  |int i=>exact .int i
  |str x=>exact .str x
 |succ n c =>
  intro d h;cases d with
  |tup xs=>exact .tup<|Bels.of λx a=>c x<|G7.mp h x a
  |ref i=>cases h
  |ty t=>cases h
  |non=>exact .non
  |bl b=>exact .bl b
  |int i=>exact .int i
  |str x=>exact .str x
theorem rD:∀{xs:List D},(∀x∈xs,f x x=b8)->E9 f xs xs=b8
 | [],_=>rfl
 |x::xs,h=>by show (f x x&&E9 f xs xs)=b8;rw[h x (by simp),rD λy hy=>h y<|C6 _ hy];rfl
theorem xn:∀(n m:Nat) (d:D),n<=m->G8 n d->x9 M m d=b8/\v8 M m d d=b8:=by
 intro n;induction n with
 |zero =>
  intro m d _ h;cases d with
  |tup xs=>cases h
  |ref i=>cases h
  |ty t=>cases h
  |non=>exact⟨AL,by cases m<;>rfl⟩
  |bl b=>exact⟨Fz,by cases m<;>cases b<;>rfl⟩
  |int i=>exact⟨aJ,by rw[jf];exact u6 i⟩
  |str x=>exact⟨aP,by rw[ck];exact u6 x⟩
 |succ n c =>
  intro m d e h;cases m with
  |zero=>lia
  |succ m =>
   cases d with
   |tup xs=>exact⟨GL λx a=>(c m x (by lia)<|G7.mp h x a).1,rD λx a=>(c m x (by lia)<|G7.mp h x a).2⟩
   |ref i=>cases h
   |ty t=>cases h
   |non=>exact⟨AL,rfl⟩
   |bl b=>exact⟨Fz,by cases b<;>rfl⟩
   |int i=>exact⟨aJ,by rw[jf];exact u6 i⟩
   |str x=>exact⟨aP,by rw[ck];exact u6 x⟩
theorem HN(h:Hd d):G8 (n+1) d:=by obtain⟨x,i,rfl⟩:=h;exact .tup<|.cons (.str _)<|.cons (.int _) .nil
theorem FL(h:Hd d):E6 k d:=bK 1 d<|HN h
def Deed(d:D):Prop:=∃(t:Int) (h:D) (m:Int) (a:D),d=.tup [.int t,h,.int m,a]/\Hd h/\G8 5 a
noncomputable def aR:D->D
 |.tup (_::h::_)=>h
 |_=>.non
noncomputable def jn:D->Int
 |.tup (_::_::.int n::_)=>n
 |_=>0
noncomputable def many(log:List D)(h:D):Nat:=(log.filter λd=>decide<|aR d=h).length
def NA(kvs:List (D×D)):Prop:=∀p∈kvs,Hd p.1/\∃i:Int,p.2=.int i
theorem BD(h:NA kvs)(b:Hd k):NA (fZ kvs k<|.int i):=by unfold fZ;split;intro p hp;obtain⟨q,a,rfl⟩:=A0.mp hp;split;exact⟨(h q a).1,i,rfl⟩;exact h q a;intro p hp;rcases Fn.mp hp with hp|hp;exact h p hp;rw[F0.mp hp];exact⟨b,i,rfl⟩
theorem HL(h:NA kvs)(l:kvs.length<64):SrtOk M (bZ kvs):=by
 have at_:∀x∈bZ kvs,∃z i j,x=.tup [.tup [.str z,.int i],.int j]:=λx a=>by obtain⟨p,hp,rfl⟩:=A0.mp a;obtain⟨⟨z,i,t⟩,j,e⟩:=h p hp;rw[t,e];exact⟨z,i,j,rfl⟩
 refine⟨by unfold bZ;rw[w4];exact l,λx a=>?_,λx a y O=>?_,.inr<|.inr<|.inr<|.inr λx a=>?_⟩;obtain⟨z,i,j,rfl⟩:=at_ x a;rfl
 ·obtain⟨z,i,j,rfl⟩:=at_ x a
  obtain⟨F,i',w,rfl⟩:=at_ y O;show (if v8 M 29 (.tup [.str z,.int i]) (.tup [.str F,.int i'])=b8 then(if v8 M 29 (.int j) (.int w)=b8 then b8 else b8)else(if v8 M 28 (.str z) (.str F)=b8 then(if v8 M 28 (.int i) (.int i')=b8 then b8 else b8)else b8))=b8
  repeat' split
  all_goals rfl
 obtain⟨z,i,j,rfl⟩:=at_ x a;exact⟨_,_,rfl⟩
theorem KN(h:NA kvs)(b:x∈bZ kvs)(O:y∈bZ kvs):D0 M x3 x y=D0 M' x3 x y:=by obtain⟨p,hp,rfl⟩:=A0.mp b;obtain⟨q,a,rfl⟩:=A0.mp O;obtain⟨⟨z,i,t⟩,j,l⟩:=h p hp;obtain⟨⟨F,i',Q⟩,w,I⟩:=h q a;rw[t,l,Q,I];rfl
theorem HM(h:NA kvs)(p:ys.Perm (bZ kvs)):Bels k ys:=Bels.of λd a=>by obtain⟨q,b,rfl⟩:=A0.mp<|p.mem_iff.mp a;obtain⟨t,j,l⟩:=h q b;rw[l];exact .tup<|.cons (FL t)<|.cons (.int _) .nil
theorem dn:bb (fZ kvs k d) k=a9 d:=by
 unfold fZ;split;rename_i hs;unfold bb at hs ⊢;rw[Option.isSome_map]at hs;obtain⟨q,h⟩:=RE.mp hs;rw[Qm];have e:((λp:D×D=>decide<|p.1=k) ∘ λp:D×D=>if p.1=k then(p.1,d)else p)=λp=>decide (p.1=k):=by funext p;show decide ((if p.1=k then(p.1,d)else p).1=k)=decide (p.1=k);split<;>rfl
 rw[e,h];have a:q.1=k:=by have:=Ow h;exact oT_ this
 show a9 (if q.1=k then(q.1,d)else q).2=_;rw[t5 a];rename_i hs;unfold bb at hs ⊢;rw[Option.isSome_map,Option.not_isSome_iff_eq_none]at hs;rw[Qy,hs];simp
theorem cj(h:j≠k):bb (fZ kvs k d) j=bb kvs j:=by
 unfold fZ;split;unfold bb;rw[Qm];have e:((λp:D×D=>decide<|p.1=j) ∘ λp:D×D=>if p.1=k then(p.1,d)else p)=λp=>decide (p.1=j):=by funext p;show decide ((if p.1=k then(p.1,d)else p).1=j)=decide (p.1=j);split<;>rfl
 rw[e];cases f:kvs.find? λp=>decide (p.1=j) with
 |none=>rfl
 |some q =>
  have a:q.1=j:=by have:=Ow f;exact oT_ this
  show a9 (if q.1=k then(q.1,d)else q).2=a9 q.2;rw[t6<|by rw[a];exact h]
 unfold bb;rw[Qy];cases f:kvs.find? λp=>decide (p.1=j) with
 |none=>simp[D4 h]
 |some q=>rfl
theorem qR:∀{kvs:List (D×D)}{p:D×D},(kvs.map (·.1)).Nodup->p∈kvs->bb kvs p.1=a9 p.2
 |q::kvs,p,nd,h=>by rw[D5,Ma]at nd;unfold bb;rw[L9];rcases C3.mp h with rfl|h;rw[dT_ rfl];rfl;have:q.1≠p.1:=λz=>nd.1 (by rw[z];exact K1 h);rw[dF_ this];exact qR nd.2 h
theorem bv(h:bb kvs k=a9 d):(k,d)∈kvs:=by
 unfold bb at h;obtain⟨q,a,rfl⟩:=MZ.mp h;have e:q.1=k:=by have:=Ow a;exact oT_ this
 rw[<-e];exact RF a
theorem gU{α:Type}{P:List α->Prop}(h0:P [])(h1:∀l x,P l->P (l++[x]))(l:List α):P l:=by
 rw[<-List.reverse_reverse l];induction l.reverse with
 |nil=>exact h0
 |cons x xs i=>rw[List.reverse_cons];exact h1 _ _ i
theorem qP(h:aq M n xs)(ok:∀x∈xs,x9 (M++[MO.lst []]) 29 x=b8):(x9 (M++[MO.lst []]) x3 (.ref n)=b8/\x9 (M++[MO.lst []]) x3 (.ref M.length)=b8)/\v8 (M++[MO.lst []]) x3 (.ref n) (.ref M.length)=xs.isEmpty:=by have h1:aq (M++[MO.lst []]) n xs:=h.more _;have h2:aq (M++[MO.lst []]) M.length []:=ad;refine⟨⟨qO (n:=29) h1 ok,qO (n:=29) h2 λ_ z=>nomatch z⟩,?_⟩;exact(xI (n:=29) h1 h2).trans Ia
theorem AU(h:m≠n)(l:aq M m xs):aq (M.set n x) m xs:=by rcases l with l|l|l;exact .inl (by rw[MY<|D4 h];exact l);exact .inr (.inl<|by rw[MY<|D4 h];exact l);exact .inr<|.inr<|by rw[MY<|D4 h];exact l
theorem aT{M:w6}{m n:Nat}{x y:MO}(h:m≠n)(l:M[m]?=a9 y):(M.set n x)[m]?=a9 y:=by rw[MY<|D4 h];exact l
theorem bg{M:w6}{m:Nat}{y:MO}(l:M[m]?=a9 y):m<M.length:=(C2.mp l).1
theorem tZ(l:aq M m xs):m<M.length:=by rcases l with l|l|l<;>exact bg l
theorem ac{B:w6}{q:Nat}{x a:MO}(h:B[q]?=a9 x):(B++[a])[q]?=a9 x:=by rw[LR (C2.mp h).1];exact h
theorem ci{B:w6}{q:Nat}{x a:MO}(h:B[q]?=a9 x):(B.set q a)[q]?=a9 a:=Nk (C2.mp h).1
theorem bT(p:M <+: B)(l:aq M q xs):aq B q xs:=by obtain⟨L,rfl⟩:=p;exact l.more L
theorem aM{M B:w6}{q:Nat}{x:MO}(p:M <+: B)(l:M[q]?=a9 x):B[q]?=a9 x:=by obtain⟨L,rfl⟩:=p;rw[LR<|bg l];exact l
theorem xD(xs:List Int):Bels k (xs.map D.int):=Bels.of λd h=>by obtain⟨x,_,rfl⟩:=A0.mp h;exact .int x
theorem CM(xs:List c5):Bels k (xs.map D.str):=Bels.of λd h=>by obtain⟨x,_,rfl⟩:=A0.mp h;exact .str x
theorem ca{a b:Int}(h:0<b):0<=a % b:=Int.emod_nonneg _<|by lia
theorem cg{a b:Int}(h:0<b):a % b<b:=Int.emod_lt_of_pos _ h
theorem fY{α:Type}{xs:List α}{i:Int}(h:1<=xs.length):∃x∈xs,atI xs (i % (xs.length:Int))=a9 x:=by obtain⟨j,L,C,_⟩:=Cl (xs:=xs) (ca (a:=i) (b:=xs.length)<|by lia) (cg<|by lia);exact⟨xs[j],MU L,C⟩
theorem bP(p:M <+: B)(h:M.length<=q):M <+: B.set q x:=by obtain⟨L,rfl⟩:=p;rw[Rp _ _ h];exact Mc _ _
noncomputable def cZ(p:c5×Int):List D:=(ip 0 p.2.toNat).map λk=>.tup [.str p.1,k]
noncomputable def aE(ps:List (c5×Int)):List D:=ps.flatMap cZ
def Rf(ps:List (c5×Int)):Prop:=ps.length<=4/\∀p∈ps,0<=p.2/\p.2<=3
theorem je:(cZ p).length=p.2.toNat:=by simp[cZ,ip]
theorem qd(h:∀p∈ps,0<=p.2/\p.2<=3):(aE ps).length<=3*ps.length:=by
 induction ps with
 |nil=>simp[aE]
 |cons p ps i =>
  have:=i λq a=>h q<|C6 _ a;have h1:=h p F4;have e:(aE<|p::ps).length=p.2.toNat+(aE ps).length:=by rw[aE,List.flatMap_cons,B6,je];rfl
  rw[e,D7];lia
theorem hX:∀d∈aE ps,Hd d:=λd h=>by unfold aE at h;obtain⟨p,_,hp⟩:=List.mem_flatMap.mp h;unfold cZ ip at hp;simp only[E2,A0]at hp;obtain⟨i,_,rfl⟩:=hp;exact⟨_,_,rfl⟩
theorem yQ:Bels k (aE ps):=Bels.of λd h=>FL<|hX d h
noncomputable def eR(p:c5×List c5):D:=.tup [.str p.1,.tup<|p.2.map .str]
noncomputable def aA(ps:List (c5×Int))(rs:List (c5×List c5)):D:=.tup [.tup<|ps.map iO,.tup<|rs.map eR]
structure HouseF(ps:List (c5×Int))(rs:List (c5×List c5)):Prop where
 len:1<=ps.length/\ps.length<=4
 many:∀p∈ps,1<=p.2/\p.2<=3
 nm:∀p∈ps,p.1.length<=8
 rl:1<=rs.length/\rs.length<=4
 pnd:(ps.map (·.1)).Nodup
 rnd:(rs.map (·.1)).Nodup
 sb:∀r∈rs,r.2.Sublist (ps.map (·.1))
 rn8:∀r∈rs,r.1.length<=8
 ne:∀r∈rs,1<=r.2.length
theorem HouseF.rm(h:HouseF ps rs):∀r∈rs,r.2.length<=4:=λr i=>by have h1:=(h.sb r i).length_le;have h2:=h.len.2;rw[w4]at h1;lia
def St(d:D):Prop:=∃(t:Int) (z:c5) (k:Int),d=.tup [.int t,.tup [.str z,.int k]]
theorem St.key(h:St d):dm 8 d=b8:=by obtain⟨t,z,k,rfl⟩:=h;rfl
theorem St.ok(h:St d):x9 M x3 d=b8:=by obtain⟨t,z,k,rfl⟩:=h;rfl
theorem St.pl(h:St d):G8 (n+2) d:=by obtain⟨t,z,k,rfl⟩:=h;exact .tup<|.cons (.int _)<|.cons (.tup<|.cons (.str _)<|.cons (.int _) .nil) .nil
theorem St.eq(f:St a)(d:St b):v8 M (n+2) a b=decide (a=b):=by
 obtain⟨t,z,k,rfl⟩:=f;obtain⟨t',F,H,rfl⟩:=d;have e:v8 M (n+2) (.tup [.int t,.tup [.str z,.int k]]) (.tup [.int t',.tup [.str F,.int H]])=((t==t')&&(((z==F)&&((k==H)&&b8))&&b8)):=by show (v8 M (n+1) (.int t) (.int t')&&((v8 M n (.str z) (.str F)&&(v8 M n (.int k) (.int H)&&b8))&&b8))=_;rw[jf,ck,jf]
 rw[e];by_cases h:D.tup [.int t,.tup [.str z,.int k]]=.tup [.int t',.tup [.str F,.int H]];rw[dT_ h];simp only[D.tup.injEq,PY,D.int.injEq,D.str.injEq,and_true]at h;obtain⟨rfl,rfl,rfl⟩:=h;simp;rw[dF_ h];simp only[D.tup.injEq,PY,D.int.injEq,D.str.injEq,and_true]at h;refine Nj.mpr λq=>h ?_;simpa using q
theorem St.tup(h:St d):∃ks,d=.tup ks:=by obtain⟨t,z,k,rfl⟩:=h;exact⟨_,rfl⟩
def LL(d:D):Prop:=(∃x:c5,d=.tup [.str<|v6 "room",.str x])\/(∃x:c5,d=.tup [.str<|v6 "person",.str x])\/∃(t:Int) (z:c5) (k:Int),d=.tup [.str<|v6 "under",.tup [.int t,.tup [.str z,.int k]]]
theorem LL.pl4(h:LL d):G8 4 d:=by rcases h with⟨x,rfl⟩|⟨x,rfl⟩|⟨t,z,k,rfl⟩<;>rfl
def LM(vs:List D):Prop:=∃hs:List (D×Int),vs=oG hs/\(∀p∈hs,Hd p.1)/\hs.length<=12/\(hs.map (·.1)).Nodup
structure ActK(rs:List (c5×List c5))(x:c5)(ds:List D):Prop where
 say:x=v6 "say"->∃(r:c5) (u:D) (s:c5),ds=[.str r,u,.str s]/\r∈rs.map (·.1)/\(u=.non\/St u)
 change:x=v6 "change"->∃(m:D) (s:c5),ds=[m,.str s]/\St m
 back:x=v6 "back"->∃m:D,ds=[m]/\St m
 like:x=v6 "like"->∃(m:D) (s:c5) (b:Bool),ds=[m,.str s,.bl b]/\St m
 read:x=v6 "read"->∃(r:c5) (vs:List D),ds=[.str r,.tup vs]/\LM vs
 seen:x=v6 "seen"->∃m:D,ds=[m]/\St m
 rung:x=v6 "rung"->∃m:D,ds=[m]/\St m
 hush:x=v6 "hush"->∃(w:D) (b:Bool),ds=[w,.bl b]/\LL w
 lenS:x=v6 "say"->∀(r u:D) (s:c5),ds=[r,u,.str s]->s.length<=100
 lenC:x=v6 "change"->∀(m:D) (s:c5),ds=[m,.str s]->s.length<=100
section
variable{rs:List (c5×List c5)}
theorem bD{a b:c5}{P:Prop}(e:a=b)(h:(a==b)=b9:=by decide +kernel):P:=t7 e<|beq_eq_false_iff_ne.mp h
theorem ActK.mkSay(i:r∈rs.map (·.1))(g:u=.non\/St u)(l:s.length<=100):ActK rs (v6 "say") [.str r,u,.str s]:=⟨λ_=>⟨r,u,s,rfl,i,g⟩,(bD ·),(bD ·),(bD ·),(bD ·),(bD ·),(bD ·),(bD ·),λ_ _ _ _ e=>by cases e;exact l,(bD ·)⟩
theorem ActK.mkChange(h:St m)(l:s.length<=100):ActK rs (v6 "change") [m,.str s]:=⟨(bD ·),λ_=>⟨m,s,rfl,h⟩,(bD ·),(bD ·),(bD ·),(bD ·),(bD ·),(bD ·),(bD ·),λ_ _ _ e=>by cases e;exact l⟩
theorem ActK.mkBack(h:St m):ActK rs (v6 "back") [m]:=⟨(bD ·),(bD ·),λ_=>⟨m,rfl,h⟩,(bD ·),(bD ·),(bD ·),(bD ·),(bD ·),(bD ·),(bD ·)⟩
theorem ActK.mkLike(h:St m):ActK rs (v6 "like") [m,.str s,.bl b]:=⟨(bD ·),(bD ·),(bD ·),λ_=>⟨m,s,b,rfl,h⟩,(bD ·),(bD ·),(bD ·),(bD ·),(bD ·),(bD ·)⟩
theorem ActK.mkRead(h:LM vs):ActK rs (v6 "read") [.str r,.tup vs]:=⟨(bD ·),(bD ·),(bD ·),(bD ·),λ_=>⟨r,vs,rfl,h⟩,(bD ·),(bD ·),(bD ·),(bD ·),(bD ·)⟩
theorem ActK.mkSeen(h:St m):ActK rs (v6 "seen") [m]:=⟨(bD ·),(bD ·),(bD ·),(bD ·),(bD ·),λ_=>⟨m,rfl,h⟩,(bD ·),(bD ·),(bD ·),(bD ·)⟩
theorem ActK.mkRung(h:St m):ActK rs (v6 "rung") [m]:=⟨(bD ·),(bD ·),(bD ·),(bD ·),(bD ·),(bD ·),λ_=>⟨m,rfl,h⟩,(bD ·),(bD ·),(bD ·)⟩
theorem ActK.mkHush{w:D}{b:Bool}(h:LL w):ActK rs (v6 "hush") [w,.bl b]:=⟨(bD ·),(bD ·),(bD ·),(bD ·),(bD ·),(bD ·),(bD ·),λ_=>⟨w,b,rfl,h⟩,(bD ·),(bD ·)⟩
end
def aw(ps:List (c5×Int))(rs:List (c5×List c5))(d:D):Prop:=∃(t:Int) (z:c5) (k m:Int) (x:c5) (ds:List D),d=.tup [.int t,.tup [.str z,.int k],.int m,.tup<|.str x::ds]/\1<=t/\D.tup [.str z,.int k]∈aE ps/\lT 4 ds/\ActK rs x ds
section
variable{ps:List (c5×Int)}{rs:List (c5×List c5)}
theorem aw.pl(h:aw ps rs d):G8 6 d:=by obtain⟨t,z,k,m,x,ds,rfl,_,_,hp,_⟩:=h;exact .tup<|.cons (.int _)<|.cons (HN ⟨_,_,rfl⟩)<|.cons (.int _)<|.cons (.tup<|.cons (.str _) hp) .nil
theorem aw.bels(h:∀d∈ds,aw ps rs d):Bels k ds:=Bels.of λd a=>bK 6 d (h d a).pl
end
noncomputable def aY:D->c5
 |.tup [_,_,_,.tup<|.str x::_]=>x
 |_=>v6 ""
noncomputable def cY:D->c5
 |.tup (_::.tup (.str z::_)::_)=>z
 |_=>v6 ""
noncomputable def z9:D->D
 |.tup (t::h::_)=>.tup [t,h]
 |_=>.non
noncomputable def ba:D->c5
 |.tup [_,_,_,.tup<|_::.str r::_]=>r
 |_=>v6 ""
noncomputable def fK:D->D
 |.tup [_,_,_,.tup<|_::_::u::_]=>u
 |_=>.non
noncomputable def vL:D->D
 |.tup [_,_,_,.tup<|_::m::_]=>m
 |_=>.non
noncomputable def sayO:D->D
 |.tup [_,_,_,.tup<|_::_::_::s::_]=>s
 |_=>.non
noncomputable def oP(rs:List (c5×List c5))(r:c5):List c5:=((rs.find? λp=>decide<|p.1=r).map (·.2)).getD []
noncomputable def kinds(log:List D)(k:c5):List D:=log.filter λd=>decide<|aY d=k
section
variable{ps:List (c5×Int)}{rs:List (c5×List c5)}
theorem gl(h:aw ps rs d)(e:aY d=v6 "say"):∃(t:Int) (z:c5) (k num:Int) (r:c5) (u:D) (s:c5),d=.tup [.int t,.tup [.str z,.int k],.int num,.tup [.str<|v6 "say",.str r,u,.str s]]/\1<=t/\D.tup [.str z,.int k]∈aE ps/\r∈rs.map (·.1)/\(u=.non\/St u):=by obtain⟨t,z,k,num,x,ds,rfl,h1,h2,_,f⟩:=h;obtain rfl:x=v6 "say":=e;obtain⟨r,u,s,rfl,i,g⟩:=f.say rfl;exact⟨t,z,k,num,r,u,s,rfl,h1,h2,i,g⟩
theorem ou(h:aw ps rs d)(e:aY d=v6 "change"):∃(t:Int) (z:c5) (k num:Int) (m:D) (s:c5),d=.tup [.int t,.tup [.str z,.int k],.int num,.tup [.str<|v6 "change",m,.str s]]/\St m:=by obtain⟨t,z,k,num,x,ds,rfl,h1,h2,_,f⟩:=h;obtain rfl:x=v6 "change":=e;obtain⟨m,s,rfl,a⟩:=f.change rfl;exact⟨t,z,k,num,m,s,rfl,a⟩
theorem Ck(h:aw ps rs d)(e:aY d=v6 "back"):∃(t:Int) (z:c5) (k num:Int) (m:D),d=.tup [.int t,.tup [.str z,.int k],.int num,.tup [.str<|v6 "back",m]]/\St m:=by obtain⟨t,z,k,num,x,ds,rfl,h1,h2,_,f⟩:=h;obtain rfl:x=v6 "back":=e;obtain⟨m,rfl,a⟩:=f.back rfl;exact⟨t,z,k,num,m,rfl,a⟩
end
section
variable{ps:List (c5×Int)}{rs:List (c5×List c5)}
theorem Aq(h:aw ps rs d)(e:aY d=v6 "read"):∃(t:Int) (z:c5) (k num:Int) (r:c5) (hs:List (D×Int)),d=.tup [.int t,.tup [.str z,.int k],.int num,.tup [.str<|v6 "read",.str r,.tup<|oG hs]]/\(∀p∈hs,Hd p.1)/\hs.length<=12:=by obtain⟨t,z,k,num,x,ds,rfl,h1,h2,_,f⟩:=h;obtain rfl:x=v6 "read":=e;obtain⟨r,vs,rfl,hs,rfl,c,j,_⟩:=f.read rfl;exact⟨t,z,k,num,r,hs,rfl,c,j⟩
theorem Gd(h:aw ps rs d)(e:aY d=v6 "seen"\/aY d=v6 "rung"):∃(t:Int) (z:c5) (k num:Int) (x:c5) (m:D),d=.tup [.int t,.tup [.str z,.int k],.int num,.tup [.str x,m]]/\St m:=by obtain⟨t,z,k,num,x,ds,rfl,h1,h2,_,f⟩:=h;obtain⟨m,rfl,a⟩:∃m:D,ds=[m]/\St m:=e.elim (λe=>f.seen e) λe=>f.rung e;exact⟨t,z,k,num,x,m,rfl,a⟩
end
section
variable{ps:List (c5×Int)}{rs:List (c5×List c5)}
theorem Ge(h:aw ps rs d)(e:aY d=v6 "say"):∃s:c5,sayO d=.str s/\s.length<=100:=by obtain⟨t,z,k,m,x,ds,rfl,h1,h2,_,f⟩:=h;obtain rfl:x=v6 "say":=e;obtain⟨r,u,s,rfl,i,g⟩:=f.say rfl;exact⟨s,rfl,f.lenS rfl _ _ _ rfl⟩
theorem yZ(h:aw ps rs d)(e:aY d=v6 "change"):∃s:c5,fK d=.str s/\s.length<=100:=by obtain⟨t,z,k,n,x,ds,rfl,h1,h2,_,f⟩:=h;obtain rfl:x=v6 "change":=e;obtain⟨m,s,rfl,a⟩:=f.change rfl;exact⟨s,rfl,f.lenC rfl _ _ rfl⟩
end
local macro_rules | `(tactic| walk_at"ifs")=>`(tactic| simp only[Fx,C5,↓reduceIte,MS,Bool.not_false])
noncomputable def xf(rs:List (c5×List c5))(kvs:List (D×D))(d:D):Bool:=decide (cY d∈oP rs (ba d))&&(decide (fK d=.non)||match bb kvs (fK d) with
 |some e=>decide<|ba e=ba d
 |none=>b9)
noncomputable def CN(rs:List (c5×List c5))(kvs:List (D×D))(d:D):List (D×D):=if xf rs kvs d=b8 then fZ kvs (z9 d) d else kvs
noncomputable def fX(rs:List (c5×List c5))(l:List D):List (D×D):=l.foldl (CN rs) []
theorem oo:fX rs (l++[d])=CN rs (fX rs l) d:=by unfold fX;rw[List.foldl_append];rfl
noncomputable def ay(rs:List (c5×List c5))(log:List D):List (D×D):=fX rs<|kinds log<|v6 "say"
theorem qa:kinds (log++[d]) k=kinds log k++if aY d=k then[d]else[]:=by unfold kinds;rw[OD];congr 1;by_cases h:aY d=k;rw[Nw,dT_ h,t5 rfl,t5 h];rfl;rw[Nw,dF_ h,t6 (by decide),t6 h];rfl
theorem bq(h:d∈kinds log k):d∈log/\aY d=k:=⟨(E7.mp h).1,oT_ (E7.mp h).2⟩
theorem bL:(kinds log k).length<=log.length:=Mi _ _
structure TabK(l:List D)(kvs:List (D×D)):Prop where
 nd:(kvs.map (·.1)).Nodup
 en:∀p∈kvs,p.1=z9 p.2/\p.2∈l
 len:kvs.length<=l.length
theorem lI(h:p∈fZ kvs k d):p=(k,d)\/p∈kvs:=by unfold fZ at h;split at h;obtain⟨q,a,rfl⟩:=A0.mp h;split;rename_i e;rw[e];exact .inl rfl;exact .inr a;rcases Fn.mp h with h|h;exact .inr h;exact .inl<|by simpa using h
theorem Gn:(fZ kvs k d).length<=kvs.length+1:=by unfold fZ;split;rw[w4];lia;simp
theorem qj(l:List D):TabK l (fX rs l):=by
 refine gU (P:=λl=>TabK l<|fX rs l) ⟨.nil,(λ_ z=>nomatch z),x5 _⟩ (λl d i=>?_) l;rw[oo];unfold CN;have hs:∀p∈fX rs l,p.1=z9 p.2/\p.2∈l++[d]:=λp hp=>⟨(i.en p hp).1,MC _ (i.en p hp).2⟩
 have g:=i.len;split;refine⟨nj i.nd,λp hp=>?_,?_⟩;rcases lI hp with rfl|hp;exact⟨rfl,by simp⟩;exact hs p hp;have:=Gn (kvs:=fX rs l) (k:=z9 d) (d:=d);rw[B6,G5];lia;exact⟨i.nd,hs,by rw[B6,G5];lia⟩
theorem bE:TabK (kinds log<|v6 "say") (ay rs log):=qj _
noncomputable def Ml(kvs:List (D×D))(d:D):Bool:=match bb kvs (vL d) with
 |some e=>decide<|cY d=cY e
 |none=>b9
def Pv(d:D):Prop:=∃(a:D) (z:c5) (r n:List D),d=.tup (a::.tup (.str z::r)::n)
section
variable{ps:List (c5×Int)}{rs:List (c5×List c5)}
theorem aw.nm(h:aw ps rs d):Pv d:=by obtain⟨t,z,k,m,x,ds,rfl,_⟩:=h;exact⟨_,_,_,_,rfl⟩
theorem aw.st(h:aw ps rs d):St (z9 d):=by obtain⟨t,z,k,m,x,ds,rfl,_⟩:=h;exact⟨_,_,_,rfl⟩
theorem St.cm(f:St a)(d:St b):kG M x3 a b=b8:=by
 obtain⟨t,z,k,rfl⟩:=f;obtain⟨t',F,H,rfl⟩:=d;show (if v8 M 29 (.int t) (.int t')=b8 then(if v8 M 29 (.tup [.str z,.int k]) (.tup [.str F,.int H])=b8 then b8 else(if v8 M 28 (.str z) (.str F)=b8 then(if v8 M 28 (.int k) (.int H)=b8 then b8 else b8)else b8))else b8)=b8
 repeat' split
 all_goals rfl
theorem FZ(h:∀x∈xs,St x)(l:xs.length<64):SrtOk M xs:=by refine⟨l,λx a=>?_,λx a y O=>(h x a).cm<|h y O,.inr<|.inr<|.inr<|.inl λx a=>?_⟩;obtain⟨t,z,k,rfl⟩:=h x a;rfl;obtain⟨t,z,k,rfl⟩:=h x a;exact⟨_,_,rfl⟩
end
def bJ(kvs:List (D×D))(log:List D)(k:D):Prop:=∃d∈kinds log (v6 "back"),Ml kvs d=b8/\vL d=k
theorem CY(h:k∉kvs.map (·.1)):fZ kvs k d=kvs++[(k,d)]:=by unfold fZ;rw[t6];intro z;obtain⟨e,i⟩:=RE.mp z;exact h (K1 (f:=(·.1))<|bv i)
theorem nY(ps:List (D×D))(h:(ps.map (·.1)).Nodup):dictOf ps=ps:=by revert h;refine gU (P:=λps=>(ps.map (·.1)).Nodup->dictOf ps=ps) (λ_=>rfl) (λps p i h=>?_) ps;rw[J3]at h;have h':=OU.mp h;rw[fE,i h'.1,CY];intro z;exact h'.2.2 _ z _ (by simp) rfl
theorem rq{M:w6}{x:c5}{l:List c5}:Na M (.str x) (l.map .str)=decide (x∈l):=by unfold Na;rw[List.any_map];by_cases h:x∈l;rw[dT_ h];exact MV.mpr ⟨x,h,by show v8 M x3 (.str x) (.str x)=b8;rw[ck];exact u6 x⟩;rw[dF_ h];refine Nj.mpr λz=>?_;obtain⟨y,O,e⟩:=MV.mp z;have a:v8 M x3 (.str y) (.str x)=b8:=e;rw[ck]at a;exact h<|eq_of_beq a ▸ O
theorem qE{M:w6}{l:List c5}:(l.map D.str).all (x9 M x3)=b8:=G7.mpr λx h=>by obtain⟨y,_,rfl⟩:=A0.mp h;exact aP
noncomputable def aF(rs:List (c5×List c5))(log:List D):List (D×D):=(ay rs log).filter λp=>@decide (¬bJ (ay rs log) log p.1)<|K6 _
theorem gj:p∈aF rs log↔p∈ay rs log/\¬bJ (ay rs log) log p.1:=by unfold aF;rw[List.mem_filter];exact and_congr Iff.rfl<|@decide_eq_true_iff _<|K6 _
theorem xh:((aF rs log).map (·.1)).Nodup:=(QJ.map _).nodup bE.nd
noncomputable def aI(kvs:List (D×D))(log:List D):List (D×D):=dictOf<|((kinds log<|v6 "change").filter<|Ml kvs).map λd=>(vL d,fK d)
noncomputable def nM(ch:List (D×D))(d:D):D:=.tup [z9 d,.str<|ba d,fK d,.str<|cY d,(bb ch<|z9 d).getD<|sayO d,.bl (bb ch<|z9 d).isSome]
structure BackL(rs:List (c5×List c5))(log:List D)(ys:List D):Prop where
 st:∀x∈ys,St x
 mem:∀x,x∈ys↔bJ (ay rs log) log x
 nd:ys.Nodup
 up:ys.Pairwise λa b=>¬D1 x3 b<D1 x3 a
def Ps(l:List D):Prop:=l.Pairwise λa b=>D1 x3 (z9 a)<D1 x3 (z9 b)
theorem Ps.one(h:Ps l):∀a∈l,∀b∈l,z9 a=z9 b->a=b:=by
 induction l with
 |nil=>intro a d;cases d
 |cons x l j =>
  obtain⟨h1,h2⟩:=List.pairwise_cons.mp h;intro a d b i e;rcases C3.mp d with g|c<;>rcases C3.mp i with L|f
  rw[g,L];have:=h1 b f;rw[<-g,e]at this;exact t7 this<|MI _;have:=h1 a c;rw[<-L,e]at this;exact t7 this<|MI _;exact j h2 a c b f e
inductive Rb(rs:List (c5×List c5))(l:List D):D->Prop
 |top {d:D} (h:d∈l) (m:cY d∈oP rs (ba d)) (u:fK d=.non):Rb rs l d
 |sub {d e:D} (h:d∈l) (m:cY d∈oP rs (ba d)) (s:Rb rs l e) (u:fK d=z9 e) (o:D1 x3 (z9 e)<D1 x3 (z9 d)) (r:ba e=ba d):Rb rs l d
theorem zp:gd (lJ kvs k d) k=a9 d:=by
 unfold lJ;split;rename_i hs;obtain⟨p,hp,e⟩:=MV.mp hs;unfold gd;rw[Qm];have l:((λp:c5×D=>decide<|p.1=k) ∘ λp:c5×D=>if p.1=k then(p.1,d)else p)=λp=>decide (p.1=k):=by funext p;show decide ((if p.1=k then(p.1,d)else p).1=k)=decide (p.1=k);split<;>rfl
 rw[l];cases f:kvs.find? λp=>decide (p.1=k) with
 |none=>exact t7 e<|by simpa using List.find?_eq_none.mp f p hp
 |some q =>
  have h:q.1=k:=by have:=Ow f;exact oT_ this
  show a9 (if q.1=k then(q.1,d)else q).2=_;rw[t5 h]
 rename_i hs;unfold gd;have:kvs.find? (λp=>decide<|p.1=k)=b7:=List.find?_eq_none.mpr λp hp z=>hs<|MV.mpr ⟨p,hp,z⟩;rw[Qy,this];simp
theorem yd(h:j≠k):gd (lJ kvs k d) j=gd kvs j:=by
 unfold lJ;split;unfold gd;rw[Qm];have e:((λp:c5×D=>decide<|p.1=j) ∘ λp:c5×D=>if p.1=k then(p.1,d)else p)=λp=>decide (p.1=j):=by funext p;show decide ((if p.1=k then(p.1,d)else p).1=j)=decide (p.1=j);split<;>rfl
 rw[e];cases f:kvs.find? λp=>decide (p.1=j) with
 |none=>rfl
 |some q =>
  have a:q.1=j:=by have:=Ow f;exact oT_ this
  show a9 (if q.1=k then(q.1,d)else q).2=a9 q.2;rw[t6<|by rw[a];exact h]
 unfold gd;rw[Qy];cases f:kvs.find? λp=>decide (p.1=j) with
 |none=>simp[D4 h]
 |some q=>rfl
noncomputable def iu(log:List D)(k name:c5):List D:=(kinds log k).filter λd=>decide<|cY d=name
theorem nN(h:d∈iu log k name):d∈log/\aY d=k/\cY d=name:=⟨(bq (E7.mp h).1).1,(bq (E7.mp h).1).2,oT_ (E7.mp h).2⟩
theorem nO:(iu log k name).length<=log.length:=J7 (Mi _ _) bL
theorem yC:iu (log++[d]) k name=iu log k name++if aY d=k/\cY d=name then[d]else[]:=by unfold iu;rw[qa,OD];congr 1;by_cases h1:aY d=k;rw[t5 h1,Nw,OT];by_cases h2:cY d=name;rw[dT_ h2,t5 rfl,t5 ⟨h1,h2⟩];rw[dF_ h2,t6 (by decide),t6 λz=>h2 z.2];rw[t6 h1,t6 λz=>h1 z.1];rfl
noncomputable def iK(log:List D)(k name:c5):List D:=(iu log k name).map vL
noncomputable def LS:D->D×Int
 |.tup [h,.int c]=>(h,c)
 |_=>(.non,0)
noncomputable def Fk:D->List (D×Int)
 |.tup vs=>vs.map LS
 |_=>[]
theorem CB:Fk (.tup<|oG hs)=hs:=by show (oG hs).map LS=hs;unfold oG;rw[E2];exact NB _
noncomputable def lY(log:List D)(name r:c5):List D:=((iu log (v6 "read") name).filter λd=>decide<|ba d=r).map fK
structure VbAt(B:w6)(n:Nat)(tab:List (c5×D))(f:c5->List D):Prop where
 at_:B[n]?=a9 (.dct tab)
 got:∀k d,gd tab k=a9 d->∃m,d=.ref m/\n+1<m/\B[m]?=a9 (.lst<|f k)
 no:∀k,gd tab k=b7->f k=[]
 one:∀k k' m,gd tab k=a9 (.ref m)->gd tab k'=a9 (.ref m)->k=k'
theorem VbAt.pre(h:VbAt B n tab f)(p:B <+: B'):VbAt B' n tab f:=⟨aM p h.at_,λk d a=>let ⟨m,e,l,g⟩:=h.got k d a;⟨m,e,l,aM p g⟩,h.no,h.one⟩
theorem VbAt.kids(h:VbAt B n tab f)(a:B[q0]?=a9 (.lst [])):∃q,(gd tab k).getD (.ref q0)=.ref q/\B[q]?=a9 (.lst<|f k):=by
 cases e:gd tab k with
 |none=>exact⟨q0,rfl,by rw[h.no k e];exact a⟩
 |some d=>obtain⟨m,rfl,_,g⟩:=h.got k d e;exact⟨m,rfl,g⟩
noncomputable def iq(log:List D)(name:c5)(e:D):Bool:=decide (cY e=name)||(decide (z9 e∈iK log (v6 "seen") name)||(lY log name<|ba e).any λv=>cC (Fk v) (aR e)<|jn e)
noncomputable def begB(y n:c5):Bool:=Qo y n && !(!iM (Md y (a9 (n.length:Int))<|a9<|(n.length:Int)+1) "a" && !iM "z" (Md y (a9 (n.length:Int))<|a9<|(n.length:Int)+1))
noncomputable def iG(s:D)(name:c5):Bool:=match s with
 |.str x=>((LX x<|v6 "@").drop 1).any λy=>begB y name
 |_=>b9
noncomputable def Gf(rs:List (c5×List c5))(log:List D)(e:D):D:=(bb (aI (aF rs log) log)<|z9 e).getD<|sayO e
noncomputable def gp(rs:List (c5×List c5))(name:c5):List c5:=(rs.filter λp=>decide<|name∈p.2).map (·.1)
noncomputable def eF(rs:List (c5×List c5))(log:List D)(name:c5):List D:=((aF rs log).map (·.2)).filter λe=>!iq log name e
theorem CZ(h:k∉kvs.map (·.1)):lJ kvs k d=kvs++[(k,d)]:=by unfold lJ;rw[t6];intro z;obtain⟨p,hp,e⟩:=MV.mp z;exact h<|oT_ e ▸ K1 hp
noncomputable def aQ(r:c5)(es:List D)(k:D):List D:=(es.filter λe=>decide (ba e=r)&&decide (fK e=k)).map z9
theorem Bm:aQ r (es++[e]) k=if ba e=r/\fK e=k then aQ r es k++[z9 e]else aQ r es k:=by unfold aQ;rw[OD,J3,Nw,OT];by_cases h:ba e=r/\fK e=k;rw[t5 h,dT_ h.1,dT_ h.2];rfl;rw[t6 h,t6];simp;intro z;have:=(G0 _ _).mp z;exact h ⟨oT_ this.1,oT_ this.2⟩
structure TreeAt(B:w6)(n:Nat)(tab:List (D×D))(f:D->List D):Prop where
 at_:B[n]?=a9 (.dkm tab)
 got:∀k d,bb tab k=a9 d->∃m,d=.ref m/\n<m/\B[m]?=a9 (.lst<|f k)
 no:∀k,bb tab k=b7->f k=[]
 one:∀k k' m,bb tab k=a9 (.ref m)->bb tab k'=a9 (.ref m)->k=k'
noncomputable def cT(n:Int)(xs:List D):List D:=xs.reverse.map λx=>.tup [.int n,x]
inductive RunW(f:D->List D):List D->List D->List D->Prop
 |done {rows:List D}:RunW f rows [] rows
 |step {rows todo out:List D}{n:Int}{x:D} (h:RunW f (rows++[.tup [.int n,x]]) (todo++cT (n+1) (f x)) out):RunW f rows (todo++[.tup [.int n,x]]) out
theorem RunW.uni(h:RunW f rows todo out)(h':RunW f rows todo out'):out=out':=by
 induction h generalizing out' with
 |done =>
  generalize e:([]:List D)=t at h';cases h' with
  |done=>rfl
  |step h=>simp at e
 |@step rows todo out n x h i =>
  generalize e:todo++[.tup [.int n,x]]=t at h';cases h' with
  |done=>simp at e
  |@step _ a _ p b h2=>obtain⟨rfl,l⟩:=List.append_inj' e rfl;injection l with l;injection l with l;injection l with e3 e4;injection e3 with e3;injection e4 with e4;subst e3 e4;exact i h2
noncomputable def eZ:D->D
 |.tup [_,s]=>s
 |_=>.non
structure TreeW(r:c5)(es rows todo:List D):Prop where
 nd:((rows++todo).map eZ).Nodup
 ok:∀x∈rows++todo,∃(k:Int) (e:D),x=.tup [.int k,z9 e]/\e∈es/\ba e=r/\(fK e=.non\/fK e∈rows.map eZ)
theorem lO:x∈aQ r es k↔∃e∈es,z9 e=x/\ba e=r/\fK e=k:=by unfold aQ;rw[A0];constructor;rintro⟨e,he,rfl⟩;have h1:=E7.mp he;have h2:=(G0 _ _).mp h1.2;exact⟨e,h1.1,rfl,oT_ h2.1,oT_ h2.2⟩;rintro⟨e,he,rfl,h1,h2⟩;exact⟨e,E7.mpr ⟨he,by rw[dT_ h1,dT_ h2];rfl⟩,rfl⟩
theorem tG:x∈cT n xs↔∃s∈xs,x=.tup [.int n,s]:=by unfold cT;rw[A0];refine⟨λ⟨s,h,e⟩=>⟨s,List.mem_reverse.mp h,e.symm⟩,?_⟩;rintro⟨s,h,e⟩;exact⟨s,List.mem_reverse.mpr h,e.symm⟩
theorem mX:(cT n xs).map eZ=xs.reverse:=by unfold cT;rw[E2];exact NB _
section
variable{r:c5}{es rows todo:List D}
theorem Bn(h:(es.map z9).Nodup)(k:D):(aQ r es k).Nodup:=(QJ.map _).nodup h
theorem Af(h:(es.map z9).Nodup)(f:a∈es)(d:b∈es)(e:z9 a=z9 b):a=b:=by
 induction es with
 |nil=>cases f
 |cons x es i =>
  rw[D5,Ma]at h;rcases C3.mp f with f|f<;>rcases C3.mp d with d|d
  rw[f,d];rw[f]at e;exact t7 (e ▸ K1 d) h.1;rw[d]at e;exact t7 (e ▸ K1 f) h.1;exact i h.2 f d
theorem TreeW.start(h:(es.map z9).Nodup):TreeW r es [] (cT 0<|aQ r es .non):=by refine⟨?_,λx a=>?_⟩;rw[G4,mX];exact(List.reverse_perm _).nodup_iff.mpr<|Bn h _;obtain⟨s,hs,rfl⟩:=tG.mp a;obtain⟨e,i,rfl,h1,h2⟩:=lO.mp hs;exact⟨0,e,rfl,i,h1,.inl h2⟩
theorem TreeW.step(h:(es.map z9).Nodup)(S:∀e∈es,z9 e≠.non)(w:TreeW r es rows (todo++[.tup [.int k,s]])):TreeW r es (rows++[.tup [.int k,s]]) (todo++cT (k+1) (aQ r es s)):=by
 obtain⟨L,l,A,j,_⟩:=w.ok (.tup [.int k,s]) (by simp);have d:s=z9 l:=by injection A with q;injection q with _ q;injection q
 have F:s≠.non:=by rw[d];exact S l j
 have K:=w.nd;have G:s∉rows.map eZ:=λz=>by rw[J3]at K;have:=(OU.mp K).2.2 s z s (by rw[J3];exact J6 _<|by simp[eZ]);exact this rfl
 refine⟨?_,λx c=>?_⟩;have p:(rows++[D.tup [.int k,s]]++(todo++cT (k+1) (aQ r es s))).Perm (rows++(todo++[D.tup [.int k,s]])++cT (k+1) (aQ r es s)):=by rw[Ix,Ix];refine List.Perm.append_left _ ?_;rw[<-Ix];exact List.Perm.append_right _ List.perm_append_comm
 rw[(p.map eZ).nodup_iff,J3,OU];refine⟨K,by rw[mX];exact(List.reverse_perm _).nodup_iff.mpr<|Bn h _,λa v b m e=>?_⟩;subst e;rw[mX,List.mem_reverse]at m;obtain⟨e,i,o,_,M⟩:=lO.mp m;obtain⟨x,c,u⟩:=A0.mp v;obtain⟨H,n,rfl,f,_,t⟩:=w.ok x c;have:n=e:=Af h f i<|u.trans o.symm;subst this;rcases t with t|t;exact F<|M.symm.trans t;exact G<|M ▸ t;have I:∀y,y∈rows.map eZ->y∈(rows++[D.tup [.int k,s]]).map eZ:=λy O=>by rw[J3];exact MC _ O
 have g:∀x,x∈rows++(todo++[D.tup [.int k,s]])->∃(H:Int) (e:D),x=.tup [.int H,z9 e]/\e∈es/\ba e=r/\(fK e=.non\/fK e∈(rows++[D.tup [.int k,s]]).map eZ):=λx c=>by obtain⟨H,e,B,C,E,J⟩:=w.ok x c;exact⟨H,e,B,C,E,J.imp_right<|I _⟩
 rcases Fn.mp c with c|c;rcases Fn.mp c with c|c;exact g x<|MC _ c;exact g x<|J6 _<|J6 _ c;rcases Fn.mp c with c|c;exact g x<|J6 _<|MC _ c;obtain⟨y,O,rfl⟩:=tG.mp c;obtain⟨e,i,rfl,h1,h2⟩:=lO.mp O;exact⟨k+1,e,rfl,i,h1,.inr<|by rw[h2,J3];exact J6 _<|by simp[eZ]⟩
theorem AN{l l':List D}(d:l.Nodup)(h:∀x∈l,x∈l'):l.length<=l'.length:=by
 induction l generalizing l' with
 |nil=>exact A8 _
 |cons x l i =>
  obtain⟨n,p⟩:=Ma.mp d;obtain⟨s,t,rfl⟩:=List.append_of_mem (h x<|by simp);have:=i (l':=s++t) p λy O=>by have:=h y<|C6 _ O;rcases Fn.mp this with q|q;exact MC _ q;rcases C3.mp q with rfl|q;exact t7 O n;exact J6 _ q
  rw[B6]at this;rw[B6,D7,D7];lia
theorem TreeW.len(w:TreeW r es rows todo):rows.length+todo.length<=es.length:=by
 have:=AN w.nd (l':=es.map z9) λx h=>by obtain⟨y,O,rfl⟩:=A0.mp h;obtain⟨k,e,rfl,i,_⟩:=w.ok y O;exact K1 i
 rw[w4,w4,B6]at this;exact this
theorem Ec:(aQ r es k).length<=es.length:=by unfold aQ;rw[w4];exact Mi _ _
end
theorem TreeAt.pre(h:TreeAt B n tab f)(p:B <+: B'):TreeAt B' n tab f:=⟨aM p h.at_,λk d a=>let ⟨m,e,l,g⟩:=h.got k d a;⟨m,e,l,aM p g⟩,h.no,h.one⟩
theorem TreeAt.kids(h:TreeAt B n tab f)(a:B[q0]?=a9 (.lst [])):∃q,(bb tab k).getD (.ref q0)=.ref q/\B[q]?=a9 (.lst<|f k):=by
 cases e:bb tab k with
 |none=>exact⟨q0,rfl,by rw[h.no k e];exact a⟩
 |some d=>obtain⟨m,rfl,_,g⟩:=h.got k d e;exact⟨m,rfl,g⟩
noncomputable def NP:D->Int
 |.tup [.int k,_]=>k
 |_=>0
theorem RunW.tree(p:(es.map z9).Nodup)(S:∀e∈es,z9 e≠.non)(h:RunW (aQ r es) rows todo out):TreeW r es rows todo->TreeW r es out []:=by
 induction h with
 |done=>exact id
 |step h i=>exact λw=>i<|w.step p S
structure DepI(u:D->D)(rows todo:List D):Prop where
 to:∀T1 t T2,todo=T1++t::T2->∀A p B,rows=A++p::B->u (eZ t)=eZ p->NP t=NP p+1/\∀b∈B++T2,NP t<=NP b
 old:∀A p B x C,rows=A++p::(B++x::C)->u (eZ x)=eZ p->NP x=NP p+1/\∀b∈B,NP x<=NP b
noncomputable def Pj:D->D
 |.tup (x::_)=>x
 |d=>d
noncomputable def Dm(rs:List (c5×List c5))(log:List D)(r:c5):List D:=Classical.epsilon λout=>RunW (aQ r ((ay rs log).map (·.2))) [] (cT 0 (aQ r ((ay rs log).map (·.2)) .non)) out
theorem RunW.out{rs:List (c5×List c5)}{log out:List D}{r:c5}(h:RunW (aQ r ((ay rs log).map (·.2))) [] (cT 0 (aQ r ((ay rs log).map (·.2)) .non)) out):out=Dm rs log r:=h.uni (Classical.epsilon_spec (p:=λout=>RunW (aQ r ((ay rs log).map (·.2))) [] (cT 0 (aQ r ((ay rs log).map (·.2)) .non)) out) ⟨out,h⟩)
noncomputable def zh(rs:List (c5×List c5))(log:List D)(name:c5)(s:D):Option D:=(bb (aF rs log) s).filter λe=>!iq log name e
noncomputable def eN(rs:List (c5×List c5))(log:List D)(name r:c5):List D:=(Dm rs log r).filterMap λx=>zh rs log name<|eZ x
theorem AO(h:zh rs log name s=a9 e):bb (aF rs log) s=a9 e/\iq log name e=b9:=by obtain⟨h1,h2⟩:=Option.filter_eq_some_iff.mp h;exact⟨h1,by simpa using h2⟩
theorem jN(h:e∈eN rs log name r):∃s,s∈(Dm rs log r).map eZ/\bb (aF rs log) s=a9 e/\iq log name e=b9:=by obtain⟨x,a,t⟩:=OE.mp h;exact⟨_,K1 a,AO t⟩
noncomputable def uX(rs:List (c5×List c5))(log:List D)(name:c5):List (D×D):=(eF rs log name).map λe=>(z9 e,nM (aI (aF rs log) log) e)
theorem yR(o:∀q∈T,q.1=z9 q.2)(n:(T.map (·.1)).Nodup):bb (((T.map (·.2)).filter p).map λe=>(z9 e,f e)) s=((bb T s).filter p).map f:=by
 induction T with
 |nil=>rfl
 |cons q T i =>
  rw[D5,Ma]at n;have e:=o q F4;have i:=i (λq a=>o q<|C6 _ a) n.2;have g1:∀{k d:D}{L:List (D×D)},bb ((k,d)::L) s=if k=s then a9 d else bb L s:=λ{k d L}=>by unfold bb;rw[L9];by_cases h:k=s;rw[dT_ h,t5 h];rfl;rw[dF_ h,t6 h]
  obtain⟨k,d⟩:=q;dsimp only at e;subst e;rw[g1,D5,Nw];by_cases hs:z9 d=s;rw[t5 hs];have b:bb T s=b7:=by
   cases R:bb T s with
   |none=>rfl
   |some v=>exact t7 (hs ▸ K1 (f:=(·.1)) (bv R)) n.1
  rw[b]at i;cases hp:p d with
  |true=>rw[t5 rfl,D5,g1,t5 hs];show _=Option.map f (if p d=b8 then a9 d else b7);rw[hp];rfl
  |false=>rw[t6 (by simp),i];show _=Option.map f (if p d=b8 then a9 d else b7);rw[hp];rfl
  rw[t6 hs];cases hp:p d with
  |true=>rw[t5 rfl,D5,g1,t6 hs,i]
  |false=>rw[t6 (by simp),i]
noncomputable def jR(x:c5):Bool:=!iM x "a" && !iM "z" x
def dZ:A7:=λds M R=>∃x:c5,ds=[.str x]/\R (.bl<|jR x) M
theorem qX:cD dZ iT:=by rintro ds M R ⟨x,rfl,_⟩;rfl
def mH:v5:=bt<|uJ OH OH (dC<|.str "a") (ab 0)<|dC<|.str "z"
theorem rW:C1 dZ 1 mH:=by
 rintro ds M R ⟨x,rfl,h⟩;unfold mH;walk_at"dl";unfold jR at h;cases e:iM x "a" with
 |true=>rw[e]at h;exact dg<|aZ.now h
 |false=>rw[e]at h;exact dN<|aZ.now h
theorem tR(T:Tops P w K mg base):x6 P w K mg base 1 "is_letter" iT dZ:=x6.byD (N:=["sign"]) T.b T.f_is_letter (by walk_at"sc") qX (by walk_at"dv") rW
noncomputable def letC(c:Nat):Bool:=decide (97<=c)&&decide (c<=122)
theorem El(c:Nat):jR ⟨#[c]⟩=letC c:=by
 have l:∀a b:Nat,decide ([a] < [b])=decide (a<b):=λa b=>by rw[StrLaws.lt_cons_cons,StrLaws.lt_nil_nil];simp
 have t:iM ⟨#[c]⟩ "a" = decide (c<97):=l c 97;have e:iM "z" ⟨#[c]⟩=decide (122<c):=l 122 c;unfold jR letC;rw[t,e,Qs];simp only[G0,Bool.not_eq_true',decide_eq_false_iff_not,t8];lia
noncomputable def oA(t n:c5):Bool:=Qo t n && !jR (Md t (a9 (n.length:Int))<|a9<|(n.length:Int)+1)
def bw:A7:=λds M R=>∃t n:c5,ds=[.str t,.str n]/\t.length<=100/\n.length<=100/\R (.bl<|oA t n) M
theorem iw:cD bw cf:=by rintro ds M R ⟨t,n,rfl,_⟩;rfl
def da:v5:=bt<|yW (OI mZ (ab 0)<|aa (ab 1) ae)<|EV<|v7 dZ<|aa (ab 2) ae
def dS:v5:=aC (aV (NQ (ab 0) (oW<|v7 ir<|aa (ab 1) ae)<|oW<|u8 aL (v7 ir<|aa (ab 1) ae)<|dC<|.int 1) 2)<|da
theorem iJ:C1 bw 3 dS:=by
 rintro ds M R ⟨t,n,rfl,B,f,h⟩;simp only[dS,da];walk_at"dl";refine⟨ao (by lia),ao (by lia),ao (by lia),?_⟩;unfold oA at h;cases e:Qo t n with
 |false=>rw[e]at h;exact dg<|aZ.now h
 |true=>rw[e]at h;exact dN ⟨_,rfl,aZ.now h⟩
theorem iY(T:Tops P w K mg base):x6 P w K mg base 2 "begins_with_name" cf bw:=x6.byD (N:=["text","name","behind"]) T.b T.f_begins_with_name (by walk_at"sc") iw (by have:=tR T;walk_at"dv") iJ
def fJ:A7:=λds M R=>∃s n:c5,ds=[.str s,.str n]/\s.length<=100/\n.length<=100/\R (.bl<|iG (.str s) n) M
theorem ur:cD fJ kq:=by rintro ds M R ⟨t,n,rfl,_⟩;rfl
theorem Aj(x y:c5):(LX x y).length<=x.length+2:=by unfold LX;split;simp;split;simp;rw[length_partsBetween];have:=StrLaws.occ_length_le x y 0 x.length<|x.length+1;lia
theorem cut1:cutD xs (a9 1) b7=xs.drop 1:=by unfold cutD;rw[HT.sIx_none,show (1:Int)=((1:Nat):Int)from rfl,HT.sIx_nat];by_cases h:1<=xs.length;rw[Nat.min_eq_left h,O6<|by rw[Mb];exact x5 _];have:xs=[]:=List.eq_nil_of_length_eq_zero (by lia);subst this;rfl
def pK:v5:=bt<|v7 IK<|aa (F6 1 [1] (br<|NQ (OI tJ (ab 0)<|aa (dC<|.str "@") ae) (oW<|dC<|.int 1) kE) (ap 0) oH<|v7 bw<|aa (ab 0)<|aa (ab 1) ae) ae
theorem ve:C1 fJ 2 pK:=by
 rintro ds M R ⟨s,n,rfl,hs,l,h⟩;simp only[pK];walk_at"dl";have p:=Aj s<|v6 "@";refine⟨⟨by decide,ao (by lia),ao<|by lia⟩,_,ad,_,ad,λ_=>?_⟩;rw[cut1];refine bi (λd=>match d with|.str y=>.bl (oA y n)|_=>.non) (λS=>∃a,S=[a,a9<|.str n]) ad _ _ _ (λx b S ⟨a,c⟩=>?_) ⟨_,rfl⟩ ?_ ?_;rw[<-PH]at b;obtain⟨y,O,rfl⟩:=A0.mp b;subst c;refine⟨[a9<|.str y,a9<|.str n],⟨_,rfl⟩,λY e=>?_⟩;walk_at"dl";refine⟨y,n,rfl,?_,l,e⟩;obtain⟨k,i,j,_,_,rfl⟩:=(yi s 64 (by decide) y).mp O;rw[cI,StrLaws.strSub_toList,LO,Mb,<-cI];lia;rw[D3,Mb,w4];exact ao (by lia);refine⟨((LX s<|v6 "@").drop 1).map (oA · n),?_,?_⟩;have:([]++((List.map D.str<|LX s<|v6 "@").drop 1).map λd=>match d with|.str y=>D.bl (oA y n)|_=>.non)=bls (((LX s<|v6 "@").drop 1).map (oA · n)):=by rw[G4,<-PH,E2];unfold bls;rw[E2];rfl
 rw[this];exact ad;have:(((LX s<|v6 "@").drop 1).map (oA · n)).any id=iG (.str s) n:=by rw[List.any_map];rfl
 rw[this];exact aZ.bl h<|by rw[Ix,Ix];exact Mc _ _
theorem vJ(T:Tops P w K mg base):x6 P w K mg base 3 "is_named" kq fJ:=x6.byD (N:=["saying","name"]) T.b T.f_is_named (by walk_at"sc") ur (by have:=iY T;walk_at"dv") ve
noncomputable def iH:D->D
 |.tup (a::_)=>a
 |_=>.non
def eA:A7:=λds M R=>∃xs:List D,ds=[.tup xs]/\(∀x∈xs,∃a r,x=.tup (a::r))/\R (.ref M.length) (M++[.lst<|xs.map iH])
theorem qY:cD eA iU:=by rintro ds M R ⟨xs,rfl,_⟩;rfl
def mQ:v5:=bt<|F6 1 [] (br<|ab 0) (ap 0) oH<|u8 z5 (ab 0)<|dC<|.int 0
theorem rX:C1 eA 1 mQ:=by rintro ds M R ⟨xs,rfl,x,h⟩;simp only[mQ];walk_at"dl";intro g;refine bi iH (λS=>∃a,S=[a]) trivial _ _ _ ?_ ⟨_,rfl⟩ ?_ ?_;rintro y O S ⟨a,rfl⟩;obtain⟨b,r,rfl⟩:=x y O;refine⟨[a9<|.tup<|b::r],⟨_,rfl⟩,λY D=>?_⟩;walk_at"dl";exact D;simpa using g;exact .inl h
theorem tS(T:Tops P w K mg base):x6 P w K mg base 1 "firsts_of" iU eA:=x6.byD (N:=["pairs"]) T.b T.f_firsts_of (by walk_at"sc") qY (by walk_at"dv") rX
def ii:A7:=λds M R=>∃(ps:List (c5×Int)) (a:List (c5×List c5)) (r:c5),ds=[aA ps a,.str r]/\r∈a.map (·.1)/\R (.bl b8) M
theorem vV:cD ii nB:=by rintro ds M R ⟨ps,a,r,rfl,_⟩;rfl
def sM:v5:=bt<|u8 Ph (ab 1)<|v7 eA<|aa (u8 z5 (ab 0)<|dC<|.int 1) ae
theorem xW:C1 ii 2 sM:=by
 rintro ds M R ⟨ps,a,r,rfl,i,h⟩;simp only[sM,aA];walk_at"dl";refine⟨_,rfl,λx b=>?_,?_⟩;obtain⟨p,_,rfl⟩:=A0.mp b;exact⟨_,_,rfl⟩;have e:(a.map eR).map iH=(a.map (·.1)).map .str:=by rw[E2,E2];rfl
 rw[e];refine⟨_,ad,⟨aP,qE⟩,?_⟩;rw[rq,dT_ i];exact aZ.bl h bf
theorem yu(T:Tops P w K mg base):x6 P w K mg base 2 "is_room" nB ii:=x6.byD (N:=["house","thing"]) T.b T.f_is_room (by walk_at"sc") vV (by have:=tS T;walk_at"dv") xW
def fI:A7:=λds M R=>∃(ps:List (c5×Int)) (a:List (c5×List c5)) (e:c5),ds=[aA ps a,.str e]/\a.length<=1000/\R (.ref M.length) (M++[.lst<|(gp a e).map .str])
theorem um:cD fI ko:=by rintro ds M R ⟨ps,a,e,rfl,_⟩;rfl
def pJ:v5:=bt<|F6 1 [1] (br<|u8 z5 (ab 0)<|dC<|.int 1) (ap 0) (aG<|u8 Ph (ab 1)<|u8 z5 (ab 0)<|dC<|.int 1)<|u8 z5 (ab 0)<|dC<|.int 0
theorem vc:C1 fI 2 pJ:=by
 rintro ds M R ⟨ps,s,n,rfl,g,h⟩;simp only[pJ,aA];walk_at"dl";intro _;refine aK (λd=>match d with|.tup [_,.tup ms]=>decide (D.str n∈ms)|_=>b9) (λd=>match d with|.tup (x::_)=>x|_=>.non) (λS=>∃a,S=[a,a9<|.str n]) trivial _ _ _ ?_ ⟨_,rfl⟩ (by rw[D3,w4];exact ao<|by lia) ?_;rintro d m S ⟨a,rfl⟩;obtain⟨p,hp,rfl⟩:=A0.mp m;refine⟨[a9<|eR p,a9<|.str n],⟨_,rfl⟩,λY Z b=>?_⟩;have b:if decide (D.str n∈p.2.map D.str)=b8 then Y (.str p.1) [a9<|eR p,a9<|.str n] M else Z [a9<|eR p,a9<|.str n] M:=b
 have J:(D.str n∈p.2.map D.str)↔n∈p.2:=by constructor;intro z;obtain⟨y,O,e⟩:=A0.mp z;injection e with e;exact e ▸ O;exact λz=>K1 z
 unfold eR at b ⊢;walk_at"dl";refine⟨⟨aP,qE⟩,?_⟩;rw[rq];by_cases e:n∈p.2;rw[dT_ e];rw[dT_<|J.mpr e]at b;exact b;rw[dF_ e];rw[dF_<|λz=>e<|J.mp z]at b;exact b;rw[G4,List.filter_map,E2];have e:((s.filter<|(λd:D=>match d with|.tup [_,.tup ms]=>decide (D.str n∈ms)|_=>b9) ∘ eR).map<|(λd:D=>match d with|.tup (x::_)=>x|_=>.non) ∘ eR)=(gp s n).map .str:=by
  unfold gp;rw[E2];have:((λd:D=>match d with|.tup [_,.tup ms]=>decide (D.str n∈ms)|_=>b9) ∘ eR)=λp:c5×List c5=>decide (n∈p.2):=by funext p;show decide (D.str n∈p.2.map D.str)=decide (n∈p.2);rw[decide_eq_decide];constructor;intro z;obtain⟨y,O,e⟩:=A0.mp z;injection e with e;exact e ▸ O;exact λz=>K1 z
  rw[this];rfl
 rw[e];exact .inl h
theorem vI(T:Tops P w K mg base):x6 P w K mg base 1 "rooms_of" ko fI:=x6.byD (N:=["house","name"]) T.b T.f_rooms_of (by walk_at"sc") um (by walk_at"dv") vc
def cw:A7:=λds M R=>∃(ps:List (c5×Int)) (a:List (c5×List c5)) (r:c5),ds=[aA ps a,.str r]/\r∈a.map (·.1)/\R (.tup<|(oP a r).map .str) M
theorem oU:cD cw gG:=by rintro ds M R ⟨ps,a,r,rfl,_⟩;rfl
theorem tY:oP (p::rs) r=if p.1=r then p.2 else oP rs r:=by unfold oP;rw[L9];by_cases h:p.1=r;rw[dT_ h,t5 h];rfl;rw[dF_ h,t6 h]
def oM:v5:=qh
def kO:v5:=aC (lE (br<|u8 z5 (ab 0)<|dC<|.int 1) (nZ 2<|cq (ap 2)<|cq (ap 3) og)<|E4 (aG<|u8 E8 (ab 2)<|ab 1) (bt<|ab 3) bB)<|oM
theorem qu:C1 cw 4 kO:=by
 rintro ds M R ⟨ps,s,r,rfl,i,h⟩;simp only[kO,aA];walk_at"dl";intro _;refine ia (λys S c=>∃qs a b,ys=qs.map eR/\c=M/\S=[a9<|aA ps s,a9<|.str r,a,b]/\oP s r=oP qs r/\r∈qs.map (·.1)) ?_ ?_ _ _ _ ⟨s,_,_,rfl,rfl,rfl,rfl,i⟩;rintro S c ⟨qs,a,b,q,rfl,rfl,e,d⟩;have:qs=[]:=by cases qs<;>simp_all
 subst this;cases d;rintro x xs S c ⟨qs,a,b,q,rfl,rfl,e,d⟩ L f;cases qs with
 |nil=>cases q
 |cons p qs=>rw[D5]at q;injection q with h1 h2;subst h1;refine⟨trivial,?_⟩;unfold eR;walk_at"dl";refine⟨trivial,⟨aP,aP⟩,?_⟩;rw[ck];rw[tY]at e;by_cases q:p.1=r;rw[beq_iff_eq.mpr q];rw[t5 q]at e;refine dN<|aZ.now ?_;rw[<-e];exact h;rw[beq_eq_false_iff_ne.mpr q];rw[t6 q]at e;rw[D5,C3]at d;exact dg<|E1.now<|f _ _ ⟨qs,_,_,h2,rfl,rfl,e,d.resolve_left<|D4 q⟩
theorem jM(T:Tops P w K mg base):x6 P w K mg base 1 "members_of" gG cw:=x6.byD (N:=["house","room","told","members"]) T.b T.f_members_of (by walk_at"sc") oU (by walk_at"dv") qu
def bV:A7:=λds M R=>∃(a b:D) (r:List D),ds=[.tup<|a::b::r]/\R (.tup [a,b]) M
theorem uk:cD bV kn:=by rintro ds M R ⟨a,b,r,rfl,_⟩;rfl
def pA:v5:=bt<|dO<|aa (u8 z5 (ab 0)<|dC<|.int 0)<|aa (u8 z5 (ab 0)<|dC<|.int 1) ae
theorem va:C1 bV 1 pA:=by rintro ds M R ⟨a,b,r,rfl,h⟩;simp only[pA];walk_at"dl";exact⟨ao (by lia),aZ.now h⟩
theorem fu(T:Tops P w K mg base):x6 P w K mg base 1 "stamp_of" kn bV:=x6.byD (N:=["deed"]) T.b T.f_stamp_of (by walk_at"sc") uk (by walk_at"dv") va
def bm:A7:=λds M R=>∃(t x:D) (r n:List D),ds=[.tup<|t::.tup (x::r)::n]/\R x M
theorem qU:cD bm iQ:=by rintro ds M R ⟨t,x,r,n,rfl,_⟩;rfl
def mi:v5:=bt<|u8 z5 (u8 z5 (ab 0)<|dC<|.int 1)<|dC<|.int 0
theorem rT:C1 bm 1 mi:=by rintro ds M R ⟨t,x,r,n,rfl,h⟩;simp only[mi];walk_at"dl";exact aZ.now h
theorem cQ(T:Tops P w K mg base):x6 P w K mg base 1 "person_of" iQ bm:=x6.byD (N:=["deed"]) T.b T.f_person_of (by walk_at"sc") qU (by walk_at"dv") rT
def dY:A7:=λds M R=>∃(t d:D) (m:Int) (r:List D) (hs:List (D×Int)),ds=[.tup<|t::d::.int m::r,.tup<|oG hs]/\Hd d/\(∀p∈hs,Hd p.1)/\hs.length<=1000/\R (.bl<|cC hs d m) M
theorem qW:cD dY iS:=by rintro ds M R ⟨t,d,m,r,hs,rfl,_⟩;rfl
def jD:v5:=bt<|dC<|.bl b9
def mF:v5:=aC (lE (br<|ab 1) (nZ 2<|cq (ap 2)<|cq (ap 3) og)<|E4 (aG<|u8 E8 (ab 2)<|u8 z5 (ab 0)<|dC<|.int 1) (bt<|u8 M8 (u8 z5 (ab 0)<|dC<|.int 2)<|ab 3) bB)<|jD
theorem rV:C1 dY 4 mF:=by
 rintro ds M R ⟨t,d,m,r,hs,rfl,f,v,o,h⟩;simp only[mF];walk_at"dl";refine λ_=>?_;refine ia (λys S c=>c=M/\∃qs a b,ys=oG qs/\(∀p∈qs,Hd p.1)/\cC qs d m=cC hs d m/\S=[a9<|.tup<|t::d::.int m::r,a9<|.tup<|oG hs,a,b]) ?_ ?_ _ _ _ ⟨rfl,hs,_,_,rfl,v,rfl,rfl⟩;rintro S c ⟨rfl,qs,a,b,e,_,w,rfl⟩;obtain rfl:qs=[]:=by
  cases qs with
  |nil=>rfl
  |cons q qs=>cases e
 rw[<-w]at h;refine⟨trivial,?_⟩;simp only[jD];walk_at"dl";exact aZ.now h;rintro x xs S c ⟨rfl,qs,a,b,e,i,w,rfl⟩ G l;cases qs with
 |nil=>cases e
 |cons q qs =>
  have j:x=.tup [q.1,.int q.2]/\xs=oG qs:=by unfold oG at e ⊢;rw[D5]at e;injection e with e1 e2;exact⟨e1,e2⟩
  obtain⟨rfl,rfl⟩:=j;refine⟨trivial,?_⟩;have Q:=i q (by simp);walk_at"dl";refine⟨trivial,⟨KO Q,KO f⟩,?_⟩;cases g:v8 c x3 q.1 d with
  |true =>
   have e:=(HP (n:=29) Q f).mp g;have k:cC (q::qs) d m=decide (m<q.2):=by unfold cC;rw[L9,dT_ e]
   rw[<-w,k]at h;exact dN<|aZ.now h
  |false =>
   have e:q.1≠d:=λz=>by have:=(HP (M:=c) (n:=29) Q f).mpr z;rw[show v8 c (29+1) q.1 d=v8 c x3 q.1 d from rfl,g]at this;cases this
   refine dg<|E1.now<|l _ _ ⟨rfl,qs,_,_,rfl,λp hp=>i p<|C6 _ hp,?_,rfl⟩;rw[<-w];unfold cC;rw[L9,dF_ e]
theorem tQ(T:Tops P w K mg base):x6 P w K mg base 1 "is_within" iS dY:=x6.byD (N:=["deed","vector","hand","count"]) T.b T.f_is_within (by walk_at"sc") qW (by walk_at"dv") rV
def bd:A7:=λds M R=>∃(ps:List (c5×Int)) (a:List (c5×List c5)) (log:List D) (k:c5),ds=[.tup log,.str k]/\(∀d∈log,aw ps a d)/\log.length<=1000/\R (.ref M.length) (M++[.lst<|kinds log k])
theorem kz:cD bd dJ:=by rintro ds M R ⟨ps,a,log,k,rfl,_⟩;rfl
def gg:v5:=bt<|F6 1 [1] (br<|ab 0) (ap 0) (aG<|u8 E8 (u8 z5 (u8 z5 (ab 0)<|dC<|.int 3)<|dC<|.int 0)<|ab 1)<|ab 0
theorem ls:C1 bd 2 gg:=by rintro ds M R ⟨ps,s,log,k,rfl,f,l,h⟩;simp only[gg];walk_at"dl";intro _;refine aK (λd=>decide<|aY d=k) id (λS=>∃a,S=[a,a9<|.str k]) trivial _ _ _ ?_ ⟨_,rfl⟩ (by rw[D3];exact ao<|by lia) (by rw[G4,NB];exact .inl h);rintro d g S ⟨a,rfl⟩;obtain⟨t,z,H,m,x,ds,rfl,_⟩:=f d g;refine⟨[a9<|.tup [.int t,.tup [.str z,.int H],.int m,.tup<|.str x::ds],a9<|.str k],⟨_,rfl⟩,λY Z b=>?_⟩;walk_at"dl";have Q:atI [D.int t,.tup [.str z,.int H],.int m,.tup<|.str x::ds] 3=a9 (.tup<|.str x::ds):=au (j:=3) rfl;rw[Q];dsimp only;rw[Oi];refine⟨⟨aP,aP⟩,?_⟩;rw[ck];have c:aY (.tup [.int t,.tup [.str z,.int H],.int m,.tup<|.str x::ds])=x:=rfl;rw[c]at b;by_cases e:x=k;rw[beq_iff_eq.mpr e];rw[dT_ e]at b;exact dN b;rw[beq_eq_false_iff_ne.mpr e];rw[dF_ e]at b;exact dg b
theorem cX(T:Tops P w K mg base):x6 P w K mg base 1 "deeds_of_kind" dJ bd:=x6.byD (N:=["log","kind"]) T.b T.f_deeds_of_kind (by walk_at"sc") kz (by walk_at"dv") ls
def dL:A7:=λds M R=>∃(ps:List (c5×Int)) (a:List (c5×List c5)) (log:List D) (k e:c5),ds=[.tup log,.str k,.str e]/\(∀d∈log,aw ps a d)/\log.length<=1000/\R (.ref M.length) (M++[.lst<|iu log k e])
theorem ut:cD dL kr:=by rintro ds M R ⟨ps,a,log,k,e,rfl,_⟩;rfl
def pN:v5:=bt<|F6 1 [2] (br<|v7 bd<|aa (ab 0)<|aa (ab 1) ae) (ap 0) (aG<|u8 E8 (v7 bm<|aa (ab 0) ae)<|ab 1)<|ab 0
theorem vh:C1 dL 3 pN:=by rintro ds M R ⟨ps,rs,log,k,n,rfl,c,g,h⟩;simp only[pN];walk_at"dl";unfold iu at h;have f:∀d∈kinds log k,aw ps rs d:=λd q=>c d (E7.mp q).1;have l:(kinds log k).length<=1000:=J7 bL g;refine⟨ps,rs,log,k,rfl,c,g,?_⟩;generalize kinds log k=F at f l h;refine⟨F,ad,λ_=>?_⟩;refine aK (λd=>decide<|cY d=n) id (λS=>∃a,S=[a,a9<|.str n]) ad _ _ _ ?_ ⟨_,rfl⟩ (by rw[D3];exact ao<|by lia) ?_;rintro d j S ⟨a,rfl⟩;obtain⟨t,z,H,m,x,ds,rfl,_⟩:=f d j;refine⟨[a9<|.tup [.int t,.tup [.str z,.int H],.int m,.tup<|.str x::ds],a9<|.str n],⟨_,rfl⟩,λY Z b=>?_⟩;walk_at"dl";refine⟨_,_,_,_,rfl,⟨aP,aP⟩,?_⟩;rw[ck];have i:cY (.tup [.int t,.tup [.str z,.int H],.int m,.tup<|.str x::ds])=z:=rfl;rw[i]at b;by_cases e:z=n;rw[beq_iff_eq.mpr e];rw[dT_ e]at b;exact dN b;rw[beq_eq_false_iff_ne.mpr e];rw[dF_ e]at b;exact dg b;rw[G4,NB,Ix];exact aZ.lst h (by simp) (by simp)<|aw.bels (ps:=ps) (rs:=rs) λd q=>f d (E7.mp q).1
theorem nK(T:Tops P w K mg base):x6 P w K mg base 2 "deeds_by" kr dL:=x6.byD (N:=["log","kind","name"]) T.b T.f_deeds_by (by walk_at"sc") ut (by have:=cQ T;have:=cX T;walk_at"dv") vh
def cP:A7:=λds M R=>∃(ps:List (c5×Int)) (a:List (c5×List c5)) (log:List D) (k e:c5),ds=[.tup log,.str k,.str e]/\(∀d∈log,aw ps a d)/\log.length<=1000/\(k=v6 "seen"\/k=v6 "rung")/\((∀x∈iK log k e,St x)->R (.ref M.length) (M++[.lst<|iK log k e]))
theorem nR:cD cP fj:=by rintro ds M R ⟨ps,a,log,k,e,rfl,_⟩;rfl
def jC:v5:=bt<|F6 1 [] (br<|v7 dL<|aa (ab 0)<|aa (ab 1)<|aa (ab 2) ae) (ap 0) oH<|u8 z5 (u8 z5 (ab 0)<|dC<|.int 3)<|dC<|.int 1
theorem oK:C1 cP 3 jC:=by
 rintro ds M R ⟨ps,s,log,k,name,rfl,f,o,l,h⟩;simp only[jC];walk_at"dl";refine⟨ps,s,log,k,name,rfl,f,o,?_⟩;have r:=nO (log:=log) (k:=k) (name:=name);have i:∀d∈iu log k name,∃(t:Int) (z:c5) (k n:Int) (x:c5) (m:D),d=.tup [.int t,.tup [.str z,.int k],.int n,.tup [.str x,m]]/\St m:=λd b=>by obtain⟨h1,h2,_⟩:=nN b;exact Gd (f d h1)<|l.imp (λe=>h2.trans e) λe=>h2.trans e
 have T:iK log k name=(iu log k name).map vL:=rfl;rw[T]at h;generalize iu log k name=F at r i h;have c:∀x∈F.map vL,St x:=λx p=>by obtain⟨d,b,rfl⟩:=A0.mp p;obtain⟨t,z,k,n,x,m,rfl,hs⟩:=i d b;exact hs
 refine⟨F,ad,λ_=>?_⟩;refine bi vL (λS=>∃a,S=[a]) ad _ _ _ (λd b S c=>?_) ⟨_,rfl⟩ (by rw[D3];exact ao<|by lia) ?_;obtain⟨a,rfl⟩:=c;obtain⟨t,z,k,n,x,m,rfl,_⟩:=i d b;refine⟨[a9<|.tup [.int t,.tup [.str z,.int k],.int n,.tup [.str x,m]]],⟨_,rfl⟩,λY g=>?_⟩;walk_at"dl";have Q:atI [D.int t,.tup [.str z,.int k],.int n,.tup [.str x,m]] 3=a9 (.tup [.str x,m]):=au (j:=3) rfl;rw[Q];dsimp only;rw[NS];exact g;rw[G4,Ix];exact aZ.lst (h c) (by simp) (by simp)<|Bels.of λd q=>bK 2 d (c d q).pl
theorem oN(T:Tops P w K mg base):x6 P w K mg base 3 "stamps_told" fj cP:=x6.byD (N:=["log","kind","name"]) T.b T.f_stamps_told (by walk_at"sc") nR (by have:=nK T;walk_at"dv") oK
noncomputable def eG:List (D×D)->List D->List (D×D)
 |kvs,[]=>kvs
 |kvs,d::ds=>eG (fZ kvs (aR d)<|.int<|jn d+1) ds
def cR:A7:=λds M R=>∃log:List D,ds=[.tup log]/\(∀d∈log,Deed d)/\log.length<64/\∀ys,ys.Perm (bZ<|eG [] log)->xQ M ys->R (.tup ys) M
theorem qT:cD cR iP:=by rintro ds M R ⟨log,rfl,_⟩;rfl
def jA:v5:=bt<|v7 fV<|aa (hZ<|ab 1) ae
def jB:v5:=aC (lE (br<|ab 0) (ap 2)<|oj (ab 1) (u8 z5 (ab 2)<|dC<|.int 1)<|u8 aL (u8 z5 (ab 2)<|dC<|.int 2)<|dC<|.int 1)<|jA
def md:v5:=aC (aV (rJ) 1)<|jB
theorem rS:C1 cR 3 md:=by rintro ds M R ⟨log,rfl,l,u,h⟩;simp only[md,jB];walk_at"dl";refine λ_=>?_;refine ia (λys S M'=>∃kvs a,M'=M++[.dkt kvs]/\eG kvs ys=eG [] log/\(∀d∈ys,Deed d)/\kvs.length+ys.length<=log.length/\NA kvs/\S=[a9<|.tup log,a9<|.ref M.length,a]) ?_ ?_ _ _ _ ⟨[],_,rfl,rfl,l,by simp,(λ_ z=>nomatch z),rfl⟩;rintro S M' ⟨kvs,a,rfl,g,_,f,b,rfl⟩;refine⟨trivial,?_⟩;simp only[jA];walk_at"dl";have e:kvs=eG [] log:=g;rw[D3]at f;refine⟨kvs,af,HL b (by lia),λys hp p=>⟨ys,ad,?_⟩⟩;refine aZ.keep (h ys (by rw[<-e];exact hp) ?_) (.tup<|HM b hp)<|bf.trans bf;unfold xQ at p ⊢;refine(O2.mp p).imp λ{x y} ⟨mx,my,q⟩=>?_;rw[KN (M':=M++[.dkt kvs]) b (hp.mem_iff.mp my)<|hp.mem_iff.mp mx];exact q;rintro x xs S M' ⟨kvs,a,rfl,g,s,f,b,rfl⟩ G j;refine⟨trivial,?_⟩;obtain⟨t,n,m,c,rfl,o,_⟩:=s x (by simp);walk_at"dl";obtain⟨z,i,rfl⟩:=o;rw[D7]at f;have v:=dj (kvs:=kvs) (k:=.tup [.str z,.int i]) (d:=.int<|m+1);refine⟨kvs,af,rfl,av (by lia),E1.now<|j _ _ ⟨fZ kvs (.tup [.str z,.int i])<|.int<|m+1,_,?_,g,λd r=>s d<|C6 _ r,by lia,BD b ⟨_,_,rfl⟩,rfl⟩⟩;rw[kg]
theorem tP(T:Tops P w K mg base):x6 P w K mg base 1 "vector_of" iP cR:=x6.byD (N:=["log","counts","deed"]) T.b T.f_vector_of (by walk_at"sc") qT (by walk_at"dv") rS
def bG:A7:=λds M R=>∃(a b c x r:D) (l:List D),ds=[.tup [a,b,c,.tup<|x::r::l]]/\R r M
theorem vS:cD bG nw:=by rintro ds M R ⟨a,b,c,x,r,l,rfl,_⟩;rfl
def sw:v5:=bt<|u8 z5 (u8 z5 (ab 0)<|dC<|.int 3)<|dC<|.int 1
theorem xT:C1 bG 1 sw:=by rintro ds M R ⟨a,b,c,x,r,l,rfl,h⟩;simp only[sw];walk_at"dl";have Q:atI [a,b,c,.tup<|x::r::l] 3=a9 (.tup<|x::r::l):=au (j:=3) rfl;rw[Q];dsimp only;rw[NS];exact aZ.now h
theorem gY(T:Tops P w K mg base):x6 P w K mg base 1 "room_of" nw bG:=x6.byD (N:=["say"]) T.b T.f_room_of (by walk_at"sc") vS (by walk_at"dv") xT
def cK:A7:=λds M R=>∃(a b c x r u:D) (l:List D),ds=[.tup [a,b,c,.tup<|x::r::u::l]]/\R u M
theorem ui:cD cK ki:=by rintro ds M R ⟨a,b,c,x,r,u,l,rfl,_⟩;rfl
def py:v5:=bt<|u8 z5 (u8 z5 (ab 0)<|dC<|.int 3)<|dC<|.int 2
theorem uY:C1 cK 1 py:=by rintro ds M R ⟨a,b,c,x,r,u,l,rfl,h⟩;simp only[py];walk_at"dl";have Q:atI [a,b,c,.tup<|x::r::u::l] 3=a9 (.tup<|x::r::u::l):=au (j:=3) rfl;have e:atI (x::r::u::l) 2=a9 u:=au (j:=2) rfl;rw[Q];dsimp only;rw[e];exact aZ.now h
theorem iX(T:Tops P w K mg base):x6 P w K mg base 1 "under_of" ki cK:=x6.byD (N:=["say"]) T.b T.f_under_of (by walk_at"sc") ui (by walk_at"dv") uY
def eE:A7:=λds M R=>∃(ps:List (c5×Int)) (a:List (c5×List c5)) (d:D) (q:Nat) (kvs:List (D×D)),ds=[aA ps a,d,.ref q]/\aw ps a d/\aY d=v6 "say"/\M[q]?=a9 (.dkt kvs)/\(∀p∈kvs,aw ps a p.2/\aY p.2=v6 "say")/\R (.bl<|xf a kvs d) M
theorem re:cD eE iW:=by rintro ds M R ⟨ps,a,d,q,kvs,rfl,_⟩;rfl
def jF:v5:=bt<|dOrV (u8 Pg (ab 3)<|dC .non)<|yW (u8 Gj (ab 3)<|ab 2)<|u8 E8 (v7 bG<|aa (ji (ab 2)<|ab 3) ae)<|v7 bG<|aa (ab 1) ae
def jG:v5:=aC (aV (v7 cK<|aa (ab 1) ae) 3)<|jF
def mT:v5:=aC (E4 (aG<|u8 na (v7 bm<|aa (ab 1) ae)<|v7 cw<|aa (ab 0)<|aa (v7 bG<|aa (ab 1) ae) ae) (bt<|dC<|.bl b9) bB)<|jG
theorem rZ:C1 eE 4 mT:=by
 rintro ds M R ⟨ps,a,d,q,kvs,rfl,p,w,i,y,h⟩;obtain⟨t,z,k,m,r,u,s,rfl,_,_,x,c⟩:=gl p w;simp only[mT];walk_at"dl";refine⟨_,_,_,_,rfl,_,_,_,_,_,_,rfl,ps,a,r,rfl,x,⟨aP,qE⟩,?_⟩;rw[rq];have j:xf a kvs (.tup [.int t,.tup [.str z,.int k],.int m,.tup [.str<|v6 "say",.str r,u,.str s]])=(decide (z∈oP a r)&&(decide (u=.non)||match bb kvs u with
  |some e=>decide<|ba e=r
  |none=>b9)):=rfl
 rw[j]at h;by_cases f:z∈oP a r;rw[dT_ f]at h ⊢;refine dg ?_;simp only[jG,jF];walk_at"dl";refine⟨_,_,_,_,_,u,_,rfl,?_⟩;rcases c with rfl|c;walk_at"dl";refine aZ.now ?_;simpa using h;obtain⟨t',F,H,rfl⟩:=c;rw[dF_<|by intro e;cases e]at h;walk_at"dl";refine⟨kvs,i,rfl,?_⟩;cases g:bb kvs (.tup [.int t',.tup [.str F,.int H]]) with
 |none=>rw[g]at h;exact dg<|aZ.now h
 |some e =>
  rw[g]at h;obtain⟨v,b⟩:=y _<|bv g;obtain⟨S,D,C,A,n,G,B,l,_⟩:=gl v b;dsimp only at l;subst l;refine dN ⟨kvs,_,i,rfl,g,_,_,_,_,_,_,rfl,_,_,_,_,_,_,rfl,⟨aP,aP⟩,?_⟩;rw[ck];refine aZ.now ?_;have o:(n==r)=decide (n=r):=by by_cases e:n=r;rw[dT_ e];exact beq_iff_eq.mpr e;rw[dF_ e];exact beq_eq_false_iff_ne.mpr e
  rw[o];exact h
 rw[dF_ f]at h ⊢;exact dN<|aZ.now h
theorem tV(T:Tops P w K mg base):x6 P w K mg base 2 "can_stand" iW eE:=x6.byD (N:=["house","say","elders","under"]) T.b T.f_can_stand (by walk_at"sc") re (by have:=jM T;have:=cQ T;have:=gY T;have:=iX T;walk_at"dv") rZ
def bj:A7:=λds M R=>∃(ps:List (c5×Int)) (a:List (c5×List c5)) (log:List D),ds=[aA ps a,.tup log]/\(∀d∈log,aw ps a d)/\log.length<=1000/\∀n B,M <+: B->B[n]?=a9 (.dkt<|ay a log)->R (.ref n) B
theorem jc:cD bj cH:=by rintro ds M R ⟨ps,a,log,rfl,_⟩;rfl
theorem jy(h:∀d∈log,aw ps rs d)(g:∀d∈l,d∈kinds log (v6 "say"))(t:TabK l kvs):∀p∈kvs,aw ps rs p.2/\aY p.2=v6 "say":=λp hp=>by obtain⟨h1,h2⟩:=bq<|g _ (t.en p hp).2;exact⟨h _ h1,h2⟩
def dH:v5:=bt<|ab 2
def dI:v5:=aC (lE (br<|v7 bd<|aa (ab 1)<|aa (dC<|.str "say") ae) (ap 3)<|E4 (aG<|v7 eE<|aa (ab 0)<|aa (ab 3)<|aa (ab 2) ae) (oj (ab 2) (v7 bV<|aa (ab 3) ae)<|ab 3) bB)<|dH
def eQ:v5:=aC (aV (rJ) 2)<|dI
theorem jt:C1 bj 4 eQ:=by
 rintro ds M R ⟨ps,rs,log,rfl,e,o,h⟩;simp only[eQ,dI];walk_at"dl";refine⟨ps,rs,log,_,rfl,e,o,?_⟩;have r:=bL (log:=log) (k:=v6 "say");have m:∀d∈kinds log (v6 "say"),aw ps rs d/\aY d=v6 "say":=λd q=>⟨e d (bq q).1,(bq q).2⟩
 have g:fX rs (kinds log<|v6 "say")=ay rs log:=rfl;generalize A:kinds log (v6 "say")=K at r m g;refine⟨K,ad,λ_=>?_⟩;refine bh (λi S c=>∃a,c=M++[.dkt<|fX rs<|K.take i,.lst K]/\S=[a9<|aA ps rs,a9<|.tup log,a9<|.ref M.length,a]) ?_ ?_ ⟨_,by simp[fX],rfl⟩;rintro S c ⟨a,rfl,rfl⟩;rw[MA,g];refine⟨.inl ?_,?_⟩;have:(M++[MO.dkt []]).length=M.length+1:=by simp
 rw[this];exact lP;simp only[dH];walk_at"dl";exact .inl<|h _ _ (Mc _ _) cJ;rintro i y S c O ⟨a,rfl,rfl⟩ G b;have p:=G1 O;have n:K.take (i+1)=K.take i++[y]:=by rw[MJ,O];rfl
 rw[n,oo]at b;have j:=qj (rs:=rs)<|K.take i;have v:=jy e (λd q=>A ▸ List.mem_of_mem_take q) j;have l:=j.len;rw[LO]at l;generalize fX rs (K.take i)=kvs at b v l;obtain⟨f,s⟩:=m y p;refine⟨.inl ?_,?_⟩;have:(M++[MO.dkt []]).length=M.length+1:=by simp
 rw[this];exact lP;walk_at"dl";refine⟨ps,rs,y,_,kvs,rfl,f,s,cJ,v,?_⟩;unfold CN at b;cases hs:xf rs kvs y with
 |true=>rw[hs,t5 rfl]at b;refine dN ?_;obtain⟨t,z,k,u,x,ds,rfl,_⟩:=f;refine⟨_,_,_,rfl,kvs,cJ,rfl,av (by lia),?_⟩;rw[kg];exact E1.now<|b _ _ ⟨_,rfl,rfl⟩
 |false=>rw[hs,t6<|by decide]at b;exact dg<|E1.now<|b _ _ ⟨_,rfl,rfl⟩
theorem dU(T:Tops P w K mg base):x6 P w K mg base 3 "says_that_count" cH bj:=x6.byD (N:=["house","log","says","deed"]) T.b T.f_says_that_count (by walk_at"sc") jc (by have:=fu T;have:=cX T;have:=tV T;walk_at"dv") jt
def cz:A7:=λds M R=>∃(t:Int) (z:c5) (k n:Int) (x m:D) (l:List D) (q:Nat) (kvs:List (D×D)),ds=[.tup [.int t,.tup [.str z,.int k],.int n,.tup<|x::m::l],.ref q]/\St m/\M[q]?=a9 (.dkt kvs)/\(∀p∈kvs,Pv p.2)/\R (.bl<|Ml kvs<|.tup [.int t,.tup [.str z,.int k],.int n,.tup<|x::m::l]) M
theorem lB:cD cz eL:=by rintro ds M R ⟨t,z,k,n,x,m,l,q,kvs,rfl,_⟩;rfl
def fT:v5:=bt<|yW (u8 Gj (ab 2)<|ab 1)<|u8 E8 (v7 bm<|aa (ab 0) ae)<|v7 bm<|aa (ji (ab 1)<|ab 2) ae
def iE:v5:=aC (aV (u8 z5 (u8 z5 (ab 0)<|dC<|.int 3)<|dC<|.int 1) 2)<|fT
theorem lX:C1 cz 3 iE:=by
 rintro ds M R ⟨t,z,k,n,x,m,l,q,kvs,rfl,c,b,v,h⟩;simp only[iE,fT];obtain⟨t',F,H,rfl⟩:=c;walk_at"dl";have Q:atI [D.int t,.tup [.str z,.int k],.int n,.tup<|x::.tup [.int t',.tup [.str F,.int H]]::l] 3=a9 (.tup<|x::.tup [.int t',.tup [.str F,.int H]]::l):=au (j:=3) rfl;rw[Q];dsimp only;rw[NS];refine⟨kvs,b,rfl,?_⟩;have d:Ml kvs (.tup [.int t,.tup [.str z,.int k],.int n,.tup<|x::.tup [.int t',.tup [.str F,.int H]]::l])=match bb kvs (.tup [.int t',.tup [.str F,.int H]]) with
  |some e=>decide<|z=cY e
  |none=>b9:=rfl
 rw[d]at h;cases g:bb kvs (.tup [.int t',.tup [.str F,.int H]]) with
 |none=>rw[g]at h;exact dg<|aZ.now h
 |some e =>
  rw[g]at h;obtain⟨a,y,r,f,rfl⟩:=v _<|bv g;refine dN ⟨_,_,_,_,rfl,kvs,_,b,rfl,g,_,_,_,_,rfl,⟨aP,aP⟩,?_⟩;rw[ck];refine aZ.now ?_;have o:(z==y)=decide (z=y):=by by_cases e:z=y;rw[dT_ e];exact beq_iff_eq.mpr e;rw[dF_ e];exact beq_eq_false_iff_ne.mpr e
  rw[o];exact h
theorem nJ(T:Tops P w K mg base):x6 P w K mg base 2 "is_by_writer" eL cz:=x6.byD (N:=["deed","says","message"]) T.b T.f_is_by_writer (by walk_at"sc") lB (by have:=cQ T;walk_at"dv") lX
def bN:A7:=λds M R=>∃(ps:List (c5×Int)) (a:List (c5×List c5)) (log:List D) (k:c5) (q:Nat) (kvs:List (D×D)),ds=[.tup log,.str k,.ref q]/\(∀d∈log,aw ps a d)/\log.length<=1000/\(k=v6 "change"\/k=v6 "back")/\M[q]?=a9 (.dkt kvs)/\(∀p∈kvs,Pv p.2)/\R (.ref M.length) (M++[.lst<|(kinds log k).filter<|Ml kvs])
theorem nQ:cD bN fi:=by rintro ds M R ⟨ps,a,log,k,q,kvs,rfl,_⟩;rfl
theorem Kb(h:aw ps rs d)(e:aY d=k)(b:k=v6 "change"\/k=v6 "back"):∃(t:Int) (z:c5) (k num:Int) (x m:D) (l:List D),d=.tup [.int t,.tup [.str z,.int k],.int num,.tup<|x::m::l]/\St m:=by rcases b with rfl|rfl;obtain⟨t,z,k,num,m,s,rfl,a⟩:=ou h e;exact⟨t,z,k,num,_,m,_,rfl,a⟩;obtain⟨t,z,k,num,m,rfl,a⟩:=Ck h e;exact⟨t,z,k,num,_,m,_,rfl,a⟩
def jz:v5:=bt<|F6 1 [2] (br<|v7 bd<|aa (ab 0)<|aa (ab 1) ae) (ap 0) (aG<|v7 cz<|aa (ab 0)<|aa (ab 1) ae)<|ab 0
theorem oJ:C1 bN 3 jz:=by
 rintro ds M R ⟨ps,rs,log,k,q,kvs,rfl,c,g,f,j,v,h⟩;simp only[jz];walk_at"dl";refine⟨ps,rs,log,k,rfl,c,g,_,ad,λ_=>?_⟩;have o:=bL (log:=log) (k:=k);refine aK (Ml kvs) id (λS=>∃a,S=[a,a9<|.ref q]) ad _ _ _ ?_ ⟨_,rfl⟩ (by rw[D3];exact ao<|by lia) ?_;rintro d i S ⟨a,rfl⟩;obtain⟨h1,h2⟩:=bq i;obtain⟨t,z,H,n,x,m,l,rfl,hs⟩:=Kb (c d h1) h2 f;refine⟨[a9<|.tup [.int t,.tup [.str z,.int H],.int n,.tup<|x::m::l],a9<|.ref q],⟨_,rfl⟩,λY Z b=>?_⟩;walk_at"dl";refine⟨t,z,H,n,x,m,l,q,kvs,rfl,hs,ac j,v,?_⟩;cases e:Ml kvs (.tup [.int t,.tup [.str z,.int H],.int n,.tup<|x::m::l]) with
 |true=>rw[e]at b;exact dN b
 |false=>rw[e]at b;exact dg b
 rw[G4,NB,Ix];exact aZ.lst h (by simp) (by simp)<|aw.bels (ps:=ps) (rs:=rs) λd m=>c d (bq (E7.mp m).1).1
theorem iF(T:Tops P w K mg base):x6 P w K mg base 3 "writers_own" fi bN:=x6.byD (N:=["log","kind","says"]) T.b T.f_writers_own (by walk_at"sc") nQ (by have:=cX T;have:=nJ T;walk_at"dv") oJ
def cy:A7:=λds M R=>∃(ps:List (c5×Int)) (a:List (c5×List c5)) (log:List D) (q:Nat) (kvs:List (D×D)),ds=[.tup log,.ref q]/\(∀d∈log,aw ps a d)/\log.length<=1000/\M[q]?=a9 (.dkt kvs)/\(∀p∈kvs,Pv p.2)/\∀n B,M <+: B->B[n]?=a9 (.dkt<|aI kvs log)->R (.ref n) B
theorem lA:cD cy eK:=by rintro ds M R ⟨ps,a,log,q,kvs,rfl,_⟩;rfl
theorem qg(ps:List (D×D))(h:p∈dictOf ps):p∈ps:=by revert h;refine gU (P:=λps=>p∈dictOf ps->p∈ps) (λh=>h) (λps q i h=>?_) ps;rw[fE]at h;rcases lI h with rfl|h;simp;exact MC _<|i h
theorem oq(h:∀d∈log,aw ps rs d):∀p∈aI kvs log,∃s,p.2=.str s:=λp hp=>by obtain⟨d,a,rfl⟩:=A0.mp<|qg _ hp;obtain⟨h1,h2⟩:=bq (E7.mp a).1;obtain⟨t,z,k,n,m,s,rfl,hs⟩:=ou (h d h1) h2;exact⟨s,rfl⟩
def iD:v5:=bt<|v7 iN<|aa (F6 1 [] (br<|v7 bN<|aa (ab 0)<|aa (dC<|.str "change")<|aa (ab 1) ae) (ap 0) oH<|dO<|aa (u8 z5 (u8 z5 (ab 0)<|dC<|.int 3)<|dC<|.int 1)<|aa (u8 z5 (u8 z5 (ab 0)<|dC<|.int 3)<|dC<|.int 2) ae) ae
theorem lW:C1 cy 2 iD:=by
 rintro ds M R ⟨ps,y,log,q,kvs,rfl,g,u,v,w,h⟩;simp only[iD];walk_at"dl";refine⟨ps,y,log,_,q,kvs,rfl,g,u,.inl rfl,v,w,_,ad,λ_=>?_⟩;have A:=bL (log:=log) (k:=v6 "change");have i:=Mi (Ml kvs)<|kinds log<|v6 "change";have c:∀d∈(kinds log<|v6 "change").filter (Ml kvs),∃(t:Int) (z:c5) (k n:Int) (m:D) (s:c5),d=.tup [.int t,.tup [.str z,.int k],.int n,.tup [.str<|v6 "change",m,.str s]]/\St m:=λd m=>by obtain⟨h1,h2⟩:=bq (E7.mp m).1;exact ou (g d h1) h2
 have f:dictOf (((kinds log<|v6 "change").filter<|Ml kvs).map λd=>(vL d,fK d))=aI kvs log:=rfl;generalize (kinds log<|v6 "change").filter (Ml kvs)=F at i c f;refine bi (λd=>.tup [vL d,fK d]) (λS=>∃a,S=[a]) ad _ _ _ (λd b S o=>?_) ⟨_,rfl⟩ (by rw[D3];exact ao<|by lia) ?_;obtain⟨a,rfl⟩:=o;obtain⟨t,z,k,n,m,s,rfl,_⟩:=c d b;refine⟨[a9<|.tup [.int t,.tup [.str z,.int k],.int n,.tup [.str<|v6 "change",m,.str s]]],⟨_,rfl⟩,λY r=>?_⟩;walk_at"dl";have Q:atI [D.int t,.tup [.str z,.int k],.int n,.tup [.str<|v6 "change",m,.str s]] 3=a9 (.tup [.str<|v6 "change",m,.str s]):=au (j:=3) rfl;rw[Q];dsimp only;rw[NS];dsimp only;rw[Q9];exact⟨ao (by lia),r⟩;rw[G4];have l:F.map (λd=>D.tup [vL d,fK d])=(F.map λd=>(vL d,fK d)).map λp=>.tup [p.1,p.2]:=by rw[E2];rfl
 rw[l];refine⟨F.map λd=>(vL d,fK d),ad,λp b=>?_,by rw[w4];lia,?_⟩;obtain⟨d,x,rfl⟩:=A0.mp b;obtain⟨t,z,k,n,m,s,rfl,hs⟩:=c d x;obtain⟨B,e⟩:=hs.tup;exact⟨hs.key,by show eX m=b8;rw[e];rfl⟩;rw[f];exact .inl<|h _ _ ((bf.trans bf).trans bf) af
theorem nI(T:Tops P w K mg base):x6 P w K mg base 4 "last_changes" eK cy:=x6.byD (N:=["log","says"]) T.b T.f_last_changes (by walk_at"sc") lA (by have:=iF T;walk_at"dv") lW
def aU:A7:=λds M R=>∃(ps:List (c5×Int)) (s:List (c5×List c5)) (log:List D) (q:Nat) (kvs:List (D×D)),ds=[.tup log,.ref q]/\(∀d∈log,aw ps s d)/\log.length<64/\M[q]?=a9 (.dkt kvs)/\(∀p∈kvs,Pv p.2)/\∀ys,(∀x∈ys,St x)->(∀x,x∈ys↔bJ kvs log x)->ys.Nodup->(ys.Pairwise λa b=>¬D1 x3 b<D1 x3 a)->R (.ref M.length) (M++[.lst ys])
theorem gJ:cD aU bQ:=by rintro ds M R ⟨ps,a,log,q,kvs,rfl,_⟩;rfl
def dG:v5:=bt<|jW<|F6 1 [] (br<|v7 bN<|aa (ab 0)<|aa (dC<|.str "back")<|aa (ab 1) ae) (ap 0) oH<|u8 z5 (u8 z5 (ab 0)<|dC<|.int 3)<|dC<|.int 1
theorem io:C1 aU 2 dG:=by
 rintro ds M R ⟨ps,C,log,q,kvs,rfl,l,G,v,y,h⟩;simp only[dG];walk_at"dl";refine⟨ps,C,log,_,q,kvs,rfl,l,by lia,.inr rfl,v,y,_,ad,λ_=>?_⟩;have H:=bL (log:=log) (k:=v6 "back");have p:=Mi (Ml kvs)<|kinds log<|v6 "back";have i:∀d∈(kinds log<|v6 "back").filter (Ml kvs),∃(t:Int) (z:c5) (k n:Int) (m:D),d=.tup [.int t,.tup [.str z,.int k],.int n,.tup [.str<|v6 "back",m]]/\St m:=λd m=>by obtain⟨h1,h2⟩:=bq (E7.mp m).1;exact Ck (l d h1) h2
 have f:∀x,x∈((kinds log<|v6 "back").filter<|Ml kvs).map vL↔bJ kvs log x:=λx=>by constructor;intro c;obtain⟨d,m,rfl⟩:=A0.mp c;exact⟨d,(E7.mp m).1,(E7.mp m).2,rfl⟩;rintro⟨d,h1,h2,rfl⟩;exact K1<|E7.mpr ⟨h1,h2⟩
 generalize (kinds log<|v6 "back").filter (Ml kvs)=F at p i f;refine bi vL (λS=>∃a,S=[a]) ad _ _ _ (λd g S r=>?_) ⟨_,rfl⟩ (by rw[D3];exact ao<|by lia) ?_;obtain⟨a,rfl⟩:=r;obtain⟨t,z,k,n,m,rfl,_⟩:=i d g;refine⟨[a9<|.tup [.int t,.tup [.str z,.int k],.int n,.tup [.str<|v6 "back",m]]],⟨_,rfl⟩,λY u=>?_⟩;walk_at"dl";have Q:atI [D.int t,.tup [.str z,.int k],.int n,.tup [.str<|v6 "back",m]] 3=a9 (.tup [.str<|v6 "back",m]):=au (j:=3) rfl;rw[Q];dsimp only;rw[NS];exact u;rw[G4];have hs:∀x∈F.map vL,St x:=λx c=>by obtain⟨d,g,rfl⟩:=A0.mp c;obtain⟨t,z,k,n,m,rfl,hs⟩:=i d g;exact hs
 refine⟨8,_,x5 _,.inl ⟨_,rfl,ad⟩,by rw[w4];lia,λx c=>?_,FZ hs (by rw[w4];lia),λys A O w=>?_⟩;obtain⟨I,e⟩:=(hs x c).tup;exact⟨(hs x c).key,by rw[e];rfl⟩;have s:∀x∈ys,St x:=λx c=>hs x<|(O x).mp c;rw[Ix,Ix];have E:ys.Pairwise λa b=>¬D1 x3 b<D1 x3 a:=(O2.mp w).imp λ{a b} ⟨ha,f,q⟩=>by
  have o:=s a ha;have T:=s b f;have J:D9 x3 a=b8:=by obtain⟨t,z,k,e⟩:=o;rw[e];rfl
  have B:D9 x3 b=b8:=by obtain⟨t,z,k,e⟩:=T;rw[e];rfl
  rw[vO B J<|T.cm o]at q;exact of_decide_eq_false q
 exact aZ.lst (h ys s (λx=>(O x).trans<|f x) A E) (by simp) (by simp)<|Bels.of λd m=>bK 2 d (s d m).pl
theorem db(T:Tops P w K mg base):x6 P w K mg base 4 "stamps_taken_back" bQ aU:=x6.byD (N:=["log","says"]) T.b T.f_stamps_taken_back (by walk_at"sc") gJ (by have:=iF T;walk_at"dv") io
def dw:A7:=λds M R=>∃(ps:List (c5×Int)) (a:List (c5×List c5)) (d:D) (q:Nat) (b:List (D×D)),ds=[d,.ref q]/\aw ps a d/\aY d=v6 "say"/\M[q]?=a9 (.dkt b)/\R (nM b d) M
theorem oT:cD dw gD:=by rintro ds M R ⟨ps,a,d,q,b,rfl,_⟩;rfl
def iB:v5:=bt<|dO<|aa (ab 2)<|aa (v7 bG<|aa (ab 0) ae)<|aa (v7 cK<|aa (ab 0) ae)<|aa (v7 bm<|aa (ab 0) ae)<|aa (ab 3)<|aa (u8 Gj (ab 2)<|ab 1) ae
def iC:v5:=aC (aV (Pl pR (ab 1)<|aa (ab 2)<|aa (u8 z5 (u8 z5 (ab 0)<|dC<|.int 3)<|dC<|.int 3) ae) 3)<|iB
def kN:v5:=aC (aV (v7 bV<|aa (ab 0) ae) 2)<|iC
theorem qr:C1 dw 4 kN:=by rintro ds M R ⟨ps,f,d,q,b,rfl,c,e,a,h⟩;obtain⟨t,z,k,m,r,u,s,rfl,_⟩:=gl c e;simp only[kN,iC];walk_at"dl";refine⟨_,_,_,rfl,⟨_,a⟩,?_⟩;have Q:atI [D.int t,.tup [.str z,.int k],.int m,.tup [.str<|v6 "say",.str r,u,.str s]] 3=a9 (.tup [.str<|v6 "say",.str r,u,.str s]):=au (j:=3) rfl;have I:atI [.str<|v6 "say",.str r,u,.str s] 3=a9 (.str s):=au (j:=3) rfl;rw[Q];dsimp only;rw[I];refine⟨b,a,rfl,?_⟩;simp only[iB];walk_at"dl";refine⟨_,_,_,_,_,_,rfl,_,_,_,_,_,_,_,rfl,_,_,_,_,rfl,b,a,rfl,ao (by lia),aZ.now h⟩
theorem qL(T:Tops P w K mg base):x6 P w K mg base 2 "message_of" gD dw:=x6.byD (N:=["say","changes","stamp","saying"]) T.b T.f_message_of (by walk_at"sc") oT (by have:=fu T;have:=cQ T;have:=gY T;have:=iX T;walk_at"dv") qr
def du:A7:=λds M R=>∃(ps:List (c5×Int)) (a:List (c5×List c5)) (log:List D),ds=[aA ps a,.tup log]/\(∀d∈log,aw ps a d)/\log.length<64/\∀n B,M <+: B->B[n]?=a9 (.dkt<|aF a log)->R (.ref n) B
theorem oS:cD du gy:=by rintro ds M R ⟨ps,a,log,rfl,_⟩;rfl
theorem Ae{M:w6}{l:List D}(h:∀x∈l,St x):l.all (x9 M x3)=b8:=G7.mpr λx a=>(h x a).ok
theorem Bz(a:St x)(h:∀x∈l,St x):Na M x l=decide (x∈l):=by unfold Na;by_cases d:x∈l;rw[dT_ d];exact MV.mpr ⟨x,d,by rw[show x3=28+2 from rfl,a.eq a];exact dT_ rfl⟩;rw[dF_ d];refine Nj.mpr λz=>?_;obtain⟨y,O,e⟩:=MV.mp z;rw[show x3=28+2 from rfl,(h y O).eq a]at e;exact d<|oT_ e ▸ O
def ix:v5:=bt<|v7 iN<|aa (F6 1 [2,3] (xL<|ab 2) (ap 0) (aG<|u8 na (ab 0)<|ab 2)<|dO<|aa (ab 0)<|aa (ji (ab 1)<|ab 0) ae) ae
def iy:v5:=aC (aV (v7 aU<|aa (ab 1)<|aa (ab 2) ae) 3)<|ix
def kK:v5:=aC (aV (v7 bj<|aa (ab 0)<|aa (ab 1) ae) 2)<|iy
theorem qp:C1 du 4 kK:=by
 rintro ds M R ⟨ps,rs,log,rfl,j,A,h⟩;simp only[kK];walk_at"dl";refine⟨ps,rs,log,rfl,j,by lia,λn B E hB=>?_⟩;have t:=bE (rs:=rs) (log:=log);have G:=bL (log:=log) (k:=v6 "say");have v:=jy j (λ_ q=>q) t;have F:=t.len;have i:=t.nd;have o:=t.en;have g:aF rs log=(ay rs log).filter λp=>@decide (¬bJ (ay rs log) log p.1) (K6 _):=rfl;rw[g]at h;clear g;generalize ay rs log=kvs at h t F v i o hB;simp only[iy];walk_at"dl";refine⟨ps,rs,log,n,kvs,rfl,j,A,hB,λp hp=>(v p hp).1.nm,λys hs O _ _=>?_⟩;simp only[ix];walk_at"dl";have c:(B++[MO.lst ys])[n]?=a9 (.dkt kvs):=ac hB;refine⟨kvs,c,λ_=>?_⟩;have sp:∀p∈kvs,St p.1:=λp hp=>by rw[(o p hp).1];exact(v p hp).1.st
 refine aK (λk=>decide<|k∉ys) (λk=>.tup [k,(bb kvs k).getD .non]) (λS=>∃a,S=[a,a9<|.ref n,a9<|.ref B.length]) c _ _ _ ?_ ⟨_,rfl⟩ (by rw[D3,w4];exact ao<|by lia) ?_;rintro x C S ⟨a,rfl⟩;obtain⟨p,hp,rfl⟩:=A0.mp C;have s:=sp p hp;have l:=qR i hp;refine⟨[a9 p.1,a9<|.ref n,a9<|.ref B.length],⟨_,rfl⟩,λY Z b=>?_⟩;rw[l]at b;obtain⟨u,e⟩:=s.tup;have r:=s.key;rw[e]at b l r s ⊢;walk_at"dl";refine⟨ys,ad,⟨s.ok,Ae hs⟩,?_⟩;rw[Bz s hs];by_cases f:D.tup u∈ys;rw[dT_ f];rw[dF_<|λz=>z f]at b;exact dg b;rw[dF_ f];rw[dT_ f,t5 rfl]at b;exact dN ⟨kvs,_,c,r,l,ao (by lia),b⟩;rw[G4];have y:((kvs.map (·.1)).filter λk=>decide<|k∉ys).map (λk=>D.tup [k,(bb kvs k).getD .non])=(kvs.filter λp=>decide<|p.1∉ys).map λp=>.tup [p.1,p.2]:=by rw[List.filter_map,E2];refine Nx λp hp=>?_;show D.tup [p.1,(bb kvs p.1).getD .non]=_;rw[qR i (E7.mp hp).1];rfl
 rw[y];have m:((kvs.filter λp=>decide<|p.1∉ys).map (·.1)).Nodup:=(QJ.map _).nodup i;refine⟨_,ad,λp hp=>?_,?_,?_⟩;have s:=sp p (E7.mp hp).1;obtain⟨u,e⟩:=s.tup;exact⟨s.key,by rw[e];rfl⟩;have:=Mi (λp:D×D=>decide<|p.1∉ys) kvs;lia;rw[nY _ m];refine .inl<|h _ _ (((E.trans bf).trans bf).trans bf) ?_;have w:(kvs.filter λp=>decide<|p.1∉ys)=kvs.filter λp=>@decide (¬bJ kvs log p.1) (K6 _):=List.filter_congr λp _=>by by_cases d:bJ kvs log p.1;rw[dF_<|show ¬¬p.1∈ys from λz=>z<|(O _).mpr d,@decide_eq_false _ (K6 _)<|λz=>z d];rw[dT_<|show ¬p.1∈ys from λz=>d<|(O _).mp z,@decide_eq_true _ (K6 _) d]
 rw[<-w];exact af
theorem qK(T:Tops P w K mg base):x6 P w K mg base 5 "says_shown" gy du:=x6.byD (N:=["house","log","says","backs"]) T.b T.f_says_shown (by walk_at"sc") oS (by have:=dU T;have:=db T;walk_at"dv") qp
def bz:A7:=λds M R=>∃(ps:List (c5×Int)) (a:List (c5×List c5)) (log:List D) (e:c5),ds=[.tup log,.str e]/\(∀d∈log,aw ps a d)/\log.length<1000/\∀n B b,M <+: B->VbAt B n b (lY log e)->R (.ref n) B
theorem ja:cD bz cF:=by rintro ds M R ⟨ps,a,log,e,rfl,_⟩;rfl
def dz:v5:=bt<|ab 2
def dA:v5:=aC (lE (br<|v7 dL<|aa (ab 0)<|aa (dC<|.str "read")<|aa (ab 1) ae) (ap 3)<|kF<|ME cE (Pm xj (ab 2)<|aa (u8 z5 (u8 z5 (ab 3)<|dC<|.int 3)<|dC<|.int 1)<|aa (jp ae) ae)<|aa (u8 z5 (u8 z5 (ab 3)<|dC<|.int 3)<|dC<|.int 2) ae)<|dz
def eO:v5:=aC (aV (EX) 2)<|dA
theorem jq:C1 bz 4 eO:=by
 rintro ds M R ⟨ps,Y,log,name,rfl,b,Z,h⟩;simp only[eO,dA];walk_at"dl";refine⟨ps,Y,log,v6 "read",name,rfl,b,by lia,?_⟩;have X:=nO (log:=log) (k:=v6 "read") (name:=name);have J:∀d∈iu log (v6 "read") name,∃(t:Int) (z:c5) (k n:Int) (r:c5) (hs:List (D×Int)),d=.tup [.int t,.tup [.str z,.int k],.int n,.tup [.str<|v6 "read",.str r,.tup<|oG hs]]:=λd N=>by obtain⟨h1,h2,_⟩:=nN N;obtain⟨t,z,k,n,r,hs,e,_⟩:=Aq (b d h1) h2;exact⟨t,z,k,n,r,hs,e⟩
 have V:lY log name=λr=>((iu log (v6 "read") name).filter λd=>decide<|ba d=r).map fK:=rfl;rw[V]at h;generalize iu log (v6 "read") name=F at X J h;have l:(M++[MO.dct []]).length=M.length+1:=by simp
 have I:(M++[MO.dct []]++[MO.lst F])[M.length+1]?=a9 (.lst F):=by rw[<-l];exact af
 rw[l];refine⟨F,.inl I,λ_=>?_⟩;refine bh (λi S f=>∃(c:List (c5×D)) (a:Option D),M <+: f/\f[M.length+1]?=a9 (.lst F)/\VbAt f M.length c (λr=>((F.take i).filter λd=>decide<|ba d=r).map fK)/\c.length<=i/\S=[a9<|.tup log,a9<|.str name,a9<|.ref M.length,a]) ?_ ?_ ⟨[],_,bf.trans bf,I,⟨ac af,λk d z=>(by cases z),λk _=>rfl,λ_ _ _ z=>(by cases z)⟩,x5 _,rfl⟩;rintro S f ⟨c,a,pM,p,tr,_,rfl⟩;rw[MA]at tr;refine⟨.inl p,?_⟩;simp only[dz];walk_at"dl";exact .inl<|h _ _ _ pM tr;rintro i y S f O ⟨c,a,pM,p,tr,tl,rfl⟩ G x;have K:F.take (i+1)=F.take i++[y]:=by rw[MJ,O];rfl
 rw[K]at x;have hi:=(C2.mp O).1;obtain⟨t,z,k,n,r,hs,rfl⟩:=J y<|G1 O;have E:∀k,(((F.take i).filter λd=>decide<|ba d=k).map fK).length<=i:=λk=>by rw[w4];refine J7 (Mi _ _) ?_;rw[LO];lia
 generalize q:(λH=>(((F.take i++[D.tup [.int t,.tup [.str z,.int k],.int n,.tup [.str<|v6 "read",.str r,.tup<|oG hs]]]).filter λd=>decide<|ba d=H).map fK))=L at x;have v:∀H,L H=if r=H then(((F.take i).filter λd=>decide<|ba d=H).map fK)++[.tup<|oG hs]else(((F.take i).filter λd=>decide<|ba d=H).map fK):=λH=>by rw[<-q];dsimp only;rw[OD,J3,Nw,OT];by_cases e:r=H;rw[t5 e,show decide (ba (.tup [.int t,.tup [.str z,.int k],.int n,.tup [.str<|v6 "read",.str r,.tup<|oG hs]])=H)=b8 from dT_ e];rfl;rw[t6 e,show decide (ba (.tup [.int t,.tup [.str z,.int k],.int n,.tup [.str<|v6 "read",.str r,.tup<|oG hs]])=H)=b9 from dF_ e];exact Mq _
 clear q;refine⟨.inl p,?_⟩;walk_at"dl";have Q:atI [D.int t,.tup [.str z,.int k],.int n,.tup [.str<|v6 "read",.str r,.tup<|oG hs]] 3=a9 (.tup [.str<|v6 "read",.str r,.tup<|oG hs]):=au (j:=3) rfl;rw[Q];dsimp only;rw[Q9];dsimp only;show (∃kvs,f[M.length]?=a9 (MO.dct kvs))/\_;refine⟨⟨_,tr.at_⟩,?_⟩;walk_at"dl";rw[Q];dsimp only;rw[NS];dsimp only;refine⟨A8 _,c,ac tr.at_,av (by lia),λy O=>?_,λP=>?_⟩;obtain⟨m,rfl,nm,C⟩:=tr.got r y O;refine⟨⟨_,.inl<|ac C⟩,_,ac C,av (by have:=E r;lia),E1.now<|x _ _ ⟨c,_,bP (pM.trans bf) (by lia),aT (by lia)<|ac p,⟨aT (by lia)<|ac tr.at_,λH d b=>?_,λH b=>?_,tr.one⟩,by lia,rfl⟩⟩;obtain⟨s,rfl,o,g⟩:=tr.got H d b;refine⟨s,rfl,o,?_⟩;rw[v];by_cases e:r=H;subst e;rw[O]at b;obtain rfl:m=s:=by injection b with b;injection b
 rw[ci<|ac C,t5 rfl];rw[t6 e];exact aT (λz=>e<|tr.one _ _ _ (z ▸ O) b)<|ac g;have e:r≠H:=λz=>by rw[<-z,O]at b;cases b
 rw[v,t6 e];exact tr.no H b;have W:M.length+1<f.length:=bg p;have A:((f++[MO.lst []]).set M.length<|.dct<|lJ c r<|.ref f.length)[f.length]?=a9 (.lst []):=aT (by lia) af;have B:∀H,gd (lJ c r<|.ref f.length) H=if r=H then a9 (.ref f.length)else gd c H:=λH=>by by_cases e:r=H;rw[t5 e,<-e,zp];rw[t6 e,yd<|D4 e]
 refine⟨⟨_,.inl A⟩,_,A,av (by rw[D3];lia),E1.now<|x _ _ ⟨lJ c r<|.ref f.length,_,bP (bP (pM.trans bf)<|x5 _) (by lia),aT (by lia)<|aT (by lia)<|ac p,⟨aT (by lia)<|ci<|ac tr.at_,λH d b=>?_,λH b=>?_,λT U m h1 h2=>?_⟩,by have:=(xm (kvs:=c) (k:=r) (d:=.ref f.length)).1;lia,rfl⟩⟩;rw[B]at b;by_cases e:r=H;rw[t5 e]at b;subst e;exact⟨f.length,by injection b with b;exact b.symm,W,by rw[ci A,v,t5 rfl,tr.no _ P]⟩;rw[t6 e]at b;obtain⟨s,rfl,o,g⟩:=tr.got H d b;have:=bg g;exact⟨s,rfl,o,by rw[v,t6 e];exact aT (by lia)<|aT (by lia)<|ac g⟩;rw[B]at b;by_cases e:r=H;rw[t5 e]at b;cases b;rw[t6 e]at b;rw[v,t6 e];exact tr.no H b;rw[B]at h1 h2;have u:∀H m,gd c H=a9 (.ref m)->m<f.length:=λH m h'=>by obtain⟨s,e,_,g⟩:=tr.got H _ h';injection e with e;rw[e];exact bg g
 by_cases l:r=T<;>by_cases w:r=U;rw[<-l,<-w];rw[t5 l]at h1;rw[t6 w]at h2;have:=u _ _ h2;injection h1 with h1;injection h1 with h1;lia;rw[t6 l]at h1;rw[t5 w]at h2;have:=u _ _ h1;injection h2 with h2;injection h2 with h2;lia;rw[t6 l]at h1;rw[t6 w]at h2;exact tr.one _ _ _ h1 h2
theorem jK(T:Tops P w K mg base):x6 P w K mg base 3 "vectors_by_room" cF bz:=x6.byD (N:=["log","name","vectors","deed"]) T.b T.f_vectors_by_room (by walk_at"sc") ja (by have:=nK T;walk_at"dv") jq
def ij:A7:=λds M R=>∃(ps:List (c5×Int)) (a:List (c5×List c5)) (log:List D) (n:c5) (e:D) (v qs:Nat) (b:List (c5×D)),ds=[e,.str n,.ref v,.ref qs]/\(∀d∈log,aw ps a d)/\log.length<=1000/\aw ps a e/\aY e=v6 "say"/\VbAt M v b (lY log n)/\M[qs]?=a9 (.lst<|iK log (v6 "seen") n)/\(∀x∈iK log (v6 "seen") n,St x)/\R (.bl<|iq log n e) M
theorem vW:cD ij nC:=by rintro ds M R ⟨ps,a,log,n,e,v,qs,b,rfl,_⟩;rfl
theorem FV(h:∀d∈log,aw ps rs d):∀v∈lY log name r,∃hs:List (D×Int),v=.tup (oG hs)/\(∀p∈hs,Hd p.1)/\hs.length<=12:=λv c=>by obtain⟨d,m,rfl⟩:=A0.mp c;obtain⟨h1,h2,_⟩:=nN (E7.mp m).1;obtain⟨t,z,k,n,r,hs,rfl,q,j⟩:=Aq (h d h1) h2;exact⟨hs,rfl,q,j⟩
theorem CA:(lY log name r).length<=log.length:=by unfold lY;rw[w4];exact J7 (Mi _ _) nO
def mG:v5:=bt<|v7 IK<|aa (F6 1 [0] (br<|Pm xk (ab 2)<|aa (v7 bG<|aa (ab 0) ae)<|aa (jp ae) ae) (ap 0) oH<|v7 dY<|aa (ab 1)<|aa (ab 0) ae) ae
def sN:v5:=aC (E4 (NR (aG<|u8 E8 (v7 bm<|aa (ab 0) ae)<|ab 1)<|aG<|u8 Ph (v7 bV<|aa (ab 0) ae)<|ab 3) (bt<|dC<|.bl b8) bB)<|mG
theorem xX:C1 ij 4 sN:=by
 rintro ds M R ⟨ps,F,log,name,e,y,qs,d,rfl,p,E,j,x,f,n,hs,h⟩;obtain⟨t,z,k,m,r,u,s,rfl,_⟩:=gl j x;have c:St (.tup [.int t,.tup [.str z,.int k]]):=⟨_,_,_,rfl⟩
 simp only[sN];walk_at"dl";refine⟨_,_,_,_,rfl,⟨aP,aP⟩,?_⟩;rw[ck];unfold iq at h;rw[show cY (.tup [.int t,.tup [.str z,.int k],.int m,.tup [.str<|v6 "say",.str r,u,.str s]])=z from rfl,show z9 (.tup [.int t,.tup [.str z,.int k],.int m,.tup [.str<|v6 "say",.str r,u,.str s]])=.tup [.int t,.tup [.str z,.int k]]from rfl,show ba (.tup [.int t,.tup [.str z,.int k],.int m,.tup [.str<|v6 "say",.str r,u,.str s]])=r from rfl]at h;by_cases b:z=name;rw[beq_iff_eq.mpr b];rw[dT_ b]at h;exact dN<|aZ.now h;rw[beq_eq_false_iff_ne.mpr b];rw[dF_ b,Bool.false_or]at h;refine dg ⟨_,_,_,rfl,_,.inl n,⟨c.ok,Ae hs⟩,?_⟩;rw[Bz c hs];by_cases l:D.tup [.int t,.tup [.str z,.int k]]∈iK log (v6 "seen") name;rw[dT_ l];rw[dT_ l]at h;exact dN<|aZ.now h;rw[dF_ l];rw[dF_ l,Bool.false_or]at h;refine dg ?_;simp only[mG];walk_at"dl";show (∃kvs,M[y]?=a9 (MO.dct kvs))/\_;refine⟨⟨_,f.at_⟩,?_⟩;walk_at"dl";refine⟨_,_,_,_,_,_,rfl,A8 _,d,ac f.at_,?_⟩;obtain⟨q,X,g⟩:=(f.pre<|bf (mo:=MO.lst [])).kids (k:=r) af;rw[X];have pM:M <+: M++[MO.lst []]:=bf;generalize M++[MO.lst []]=B at g pM;have C:=CA (log:=log) (name:=name) (r:=r);have W:=FV (name:=name) (r:=r) p;generalize lY log name r=L at g h C W;refine⟨_,.inl g,λ_=>?_⟩;refine bi (λv=>.bl<|cC (Fk v) (.tup [.str z,.int k]) m) (λS=>∃a,S=[a,a9<|.tup [.int t,.tup [.str z,.int k],.int m,.tup [.str<|v6 "say",.str r,u,.str s]]]) (.inl g) _ _ _ (λv w S o=>?_) ⟨_,rfl⟩ (by rw[D3];exact ao<|by lia) ?_;obtain⟨a,rfl⟩:=o;obtain⟨hs,rfl,A,Q⟩:=W v w;refine⟨[a9<|.tup<|oG hs,a9<|.tup [.int t,.tup [.str z,.int k],.int m,.tup [.str<|v6 "say",.str r,u,.str s]]],⟨_,rfl⟩,λY i=>?_⟩;rw[CB]at i;walk_at"dl";exact⟨_,_,_,_,hs,rfl,⟨_,_,rfl⟩,A,by lia,i⟩;refine⟨L.map λv=>cC (Fk v) (.tup [.str z,.int k]) m,?_,?_⟩;rw[G4,show bls (L.map λv=>cC (Fk v) (.tup [.str z,.int k]) m)=L.map λv=>.bl (cC (Fk v) (.tup [.str z,.int k]) m) by unfold bls;rw[E2];rfl];exact ad;rw[List.any_map];exact aZ.bl h<|pM.trans bf
theorem yw(T:Tops P w K mg base):x6 P w K mg base 2 "is_read" nC ij:=x6.byD (N:=["say","name","vectors","seen"]) T.b T.f_is_read (by walk_at"sc") vW (by have:=fu T;have:=cQ T;have:=tQ T;have:=gY T;walk_at"dv") xX
def bA:A7:=λds M R=>∃(ps:List (c5×Int)) (a:List (c5×List c5)) (log:List D) (e:c5),ds=[aA ps a,.tup log,.str e]/\(∀d∈log,aw ps a d)/\log.length<64/\R (.ref M.length) (M++[.lst<|(eF a log e).map<|nM<|aI (aF a log) log])
theorem jb:cD bA cG:=by rintro ds M R ⟨ps,a,log,e,rfl,_⟩;rfl
theorem bX(h:∀d∈log,aw ps rs d):∀p∈aF rs log,p.1=z9 p.2/\aw ps rs p.2/\aY p.2=v6 "say":=λp hp=>by have h1:=(gj.mp hp).1;have b:=bE (rs:=rs) (log:=log);exact⟨(b.en p h1).1,jy h (λ_ q=>q) b p h1⟩
theorem xt(f:∀p∈ch,∃s,p.2=.str s)(h:aw ps rs d)(c:aY d=v6 "say"):E6 n (nM ch d):=by
 obtain⟨t,z,k,m,r,u,s,rfl,_,_,_,g⟩:=gl h c;have b:E6 n u:=by rcases g with rfl|g;exact .non;exact bK 2 u g.pl
 refine .tup<|.cons (bK 2 _<|St.pl (n:=0) ⟨t,z,k,rfl⟩)<|.cons (.str _)<|.cons b<|.cons (.str _)<|.cons ?_<|.cons (.bl _) .nil;cases e:bb ch (z9<|.tup [.int t,.tup [.str z,.int k],.int m,.tup [.str<|v6 "say",.str r,u,.str s]]) with
 |none=>exact .str _
 |some v=>obtain⟨s',a⟩:=f _<|bv e;dsimp only at a;rw[a];exact .str _
def dB:v5:=bt<|F6 1 [6,2,3,4] (uH<|ab 5) (ap 0) (LB<|aG<|v7 ij<|aa (ab 0)<|aa (ab 2)<|aa (ab 3)<|aa (ab 4) ae)<|v7 dw<|aa (ab 0)<|aa (ab 1) ae
def dD:v5:=aC (aV (v7 cy<|aa (ab 1)<|aa (ab 5) ae) 6)<|dB
def dE:v5:=aC (aV (v7 du<|aa (ab 0)<|aa (ab 1) ae) 5)<|dD
def dF:v5:=aC (aV (v7 cP<|aa (ab 1)<|aa (dC<|.str "seen")<|aa (ab 2) ae) 4)<|dE
def eP:v5:=aC (aV (v7 bz<|aa (ab 1)<|aa (ab 2) ae) 3)<|dF
theorem jr:C1 bA 7 eP:=by
 rintro ds M R ⟨ps,rs,log,b,rfl,g,C,h⟩;simp only[eP];walk_at"dl";refine⟨ps,rs,log,b,rfl,g,by lia,λn B t F G=>?_⟩;simp only[dF];walk_at"dl";refine⟨ps,rs,log,_,b,rfl,g,by lia,.inl rfl,λhs=>?_⟩;have v:=G.pre<|bf (mo:=MO.lst<|iK log (v6 "seen") b);have l:(B++[MO.lst<|iK log (v6 "seen") b])[B.length]?=a9 (.lst<|iK log (v6 "seen") b):=af;have A:=F.trans<|bf (mo:=MO.lst<|iK log (v6 "seen") b);generalize B++[MO.lst<|iK log (v6 "seen") b]=H at v l A;generalize B.length=qs at l;simp only[dE];walk_at"dl";refine⟨ps,rs,log,rfl,g,C,λD I i y=>?_⟩;have s:=bX (rs:=rs) g;have N:(aF rs log).length<=1000:=by have h1:=(bE (rs:=rs) (log:=log)).len;have h2:=bL (log:=log) (k:=v6 "say");have K:(aF rs log).length<=(ay rs log).length:=Mi _ _;lia
 simp only[dD];walk_at"dl";refine⟨ps,rs,log,D,aF rs log,rfl,g,by lia,y,λp hp=>(s p hp).2.1.nm,λr J f g3=>?_⟩;have u:=v.pre<|i.trans f;have m:=aM (i.trans f) l;have j:=aM f y;have E:=A.trans<|i.trans f;simp only[dB];walk_at"dl";refine⟨_,j,λ_=>?_⟩;refine aK (λe=>!iq log b e) (nM<|aI (aF rs log) log) (λS=>∃a,S=[a,a9<|.ref r,a9<|.str b,a9<|.ref n,a9<|.ref qs]) j _ _ _ ?_ ⟨_,rfl⟩ (by rw[D3,w4];exact ao<|by lia) ?_;rintro e o S ⟨a,rfl⟩;refine⟨[a9 e,a9<|.ref r,a9<|.str b,a9<|.ref n,a9<|.ref qs],⟨_,rfl⟩,λY Z c=>?_⟩;obtain⟨p,hp,rfl⟩:=A0.mp o;obtain⟨_,w,x⟩:=s p hp;walk_at"dl";refine⟨ps,rs,log,b,p.2,n,qs,t,rfl,g,by lia,w,x,u,m,hs,?_⟩;cases z:iq log b p.2 with
 |true=>rw[z]at c;exact c
 |false=>rw[z]at c;exact⟨ps,rs,p.2,r,_,rfl,w,x,g3,c⟩
 rw[G4];obtain⟨L,rfl⟩:=E;rw[Ix];have U:((aF rs log).map (·.2)).filter (λe=>!iq log b e)=eF rs log b:=rfl;rw[U];refine aZ.lst h (by simp) (by simp)<|Bels.of λd q=>?_;obtain⟨e,o,rfl⟩:=A0.mp q;obtain⟨p,hp,rfl⟩:=A0.mp (E7.mp o).1;exact xt (oq g) (s p hp).2.1 (s p hp).2.2
theorem jL(T:Tops P w K mg base):x6 P w K mg base 6 "unread_messages" cG bA:=x6.byD (N:=["house","log","name","vectors","seen","says","changes"]) T.b T.f_unread_messages (by walk_at"sc") jb (by have:=oN T;have:=nI T;have:=qL T;have:=qK T;have:=jK T;have:=yw T;walk_at"dv") jr
def bF:A7:=λds M R=>∃(ps:List (c5×Int)) (a:List (c5×List c5)) (q:Nat) (r:c5) (kvs:List (D×D)),ds=[.ref q,.str r]/\M[q]?=a9 (.dkt kvs)/\(∀p∈kvs,aw ps a p.2/\aY p.2=v6 "say")/\kvs.length<=1000/\∀n B b,M <+: B->TreeAt B n b (aQ r (kvs.map (·.2)))->R (.ref n) B
theorem jP:cD bF cW:=by rintro ds M R ⟨ps,a,q,r,kvs,rfl,_⟩;rfl
def dP:v5:=bt<|ab 2
def dR:v5:=aC (lE (uH<|ab 0) (ap 3)<|E4 (aG<|u8 E8 (v7 bG<|aa (ab 3) ae)<|ab 1) (kF<|ME cE (Oh tK (ab 2)<|aa (v7 cK<|aa (ab 3) ae)<|aa (jp ae) ae)<|aa (v7 bV<|aa (ab 3) ae) ae) bB)<|dP
def fL:v5:=aC (aV (EW) 2)<|dR
theorem ka:C1 bF 4 fL:=by
 rintro ds M R ⟨ps,rs,q,r,kvs,rfl,F,Y,kl,h⟩;simp only[fL,dR];walk_at"dl";refine⟨kvs,ac F,λ_=>?_⟩;have ag:=bg F;refine bh (λi S f=>∃(c:List (D×D)) (a:Option D),M <+: f/\TreeAt f M.length c (aQ r ((kvs.map (·.2)).take i))/\c.length<=i/\S=[a9<|.ref q,a9<|.str r,a9<|.ref M.length,a]) ?_ ?_ ⟨[],_,bf,⟨af,λk d z=>(by cases z),λk _=>rfl,λ_ _ _ z=>(by cases z)⟩,x5 _,rfl⟩;rintro S f ⟨c,a,pM,tr,_,rfl⟩;rw[MA]at tr;refine⟨aM pM F,?_⟩;simp only[dP];walk_at"dl";exact .inl<|h _ _ _ pM tr;rintro i e S f C ⟨c,a,pM,tr,tl,rfl⟩ G l;have T:(kvs.map (·.2)).take (i+1)=(kvs.map (·.2)).take i++[e]:=by rw[MJ,C];rfl
 rw[T]at l;have hi:=(C2.mp C).1;rw[w4]at hi;have Z:=G1 C;obtain⟨p,hp,rfl⟩:=A0.mp Z;obtain⟨Q,V⟩:=Y p hp;generalize p.2=e at C T l Q V;refine⟨aM pM F,?_⟩;walk_at"dl";have E:∀k,(aQ r ((kvs.map (·.2)).take i) k).length<=i:=λk=>by unfold aQ;rw[w4];refine J7 (Mi _ _) ?_;rw[LO];lia
 generalize (kvs.map (·.2)).take i=es at tr l E;obtain⟨t,z,k,v,r',u,s,rfl,_,_,_,hu⟩:=gl Q V;have K:∀H,aQ r (es++[.tup [.int t,.tup [.str z,.int k],.int v,.tup [.str<|v6 "say",.str r',u,.str s]]]) H=if r'=r/\u=H then aQ r es H++[.tup [.int t,.tup [.str z,.int k]]]else aQ r es H:=λH=>Bm
 generalize es++[.tup [.int t,.tup [.str z,.int k],.int v,.tup [.str<|v6 "say",.str r',u,.str s]]]=j at K l;have ku:yJ u=b8:=by
  rcases hu with rfl|⟨t',z',H,rfl⟩
  rfl;rfl
 refine⟨_,_,_,_,_,_,rfl,⟨aP,aP⟩,?_⟩;rw[ck];by_cases I:r'=r;rw[beq_iff_eq.mpr I];have X:aQ r j u=aQ r es u++[.tup [.int t,.tup [.str z,.int k]]]:=by rw[K,t5 ⟨I,rfl⟩]
 have J:∀H,H≠u->aQ r j H=aQ r es H:=λH ne=>by rw[K,t6 λw=>ne w.2.symm]
 refine dN ⟨⟨_,tr.at_⟩,_,_,_,_,_,_,_,rfl,A8 _,c,ac tr.at_,ku,av (by lia),λy O=>?_,λU=>?_⟩;obtain⟨m,rfl,nm,N⟩:=tr.got u y O;refine⟨⟨_,.inl<|ac N⟩,_,_,_,rfl,_,ac N,av (by have:=E u;lia),E1.now<|l _ _ ⟨c,_,bP (pM.trans bf)<|MR nm,⟨aT (by lia)<|ac tr.at_,λH d b=>?_,λH b=>?_,tr.one⟩,by lia,rfl⟩⟩;obtain⟨n,rfl,o,g⟩:=tr.got H d b;refine⟨n,rfl,o,?_⟩;by_cases e:H=u;subst e;rw[O]at b;obtain rfl:m=n:=by injection b with b;injection b
 rw[ci<|ac N,X];rw[J H e];exact aT (λz=>e<|tr.one _ _ _ (z ▸ b) O)<|ac g;have e:H≠u:=λz=>by rw[z,O]at b;cases b
 rw[J H e];exact tr.no H b;have lM:M.length<f.length:=bg tr.at_;have L:((f++[MO.lst []]).set M.length<|.dkm<|c++[(u,.ref f.length)])[f.length]?=a9 (.lst []):=aT (by lia) af;have P:∀H,bb (c++[(u,.ref f.length)]) H=if H=u then a9 (.ref f.length)else bb c H:=λH=>by rw[<-tN U];by_cases e:H=u;rw[t5 e,e,dn];rw[t6 e,cj e]
 refine⟨⟨_,.inl L⟩,_,_,_,rfl,_,L,av (by rw[D3];lia),E1.now<|l _ _ ⟨c++[(u,.ref f.length)],_,bP (bP (pM.trans bf)<|x5 _) (by lia),⟨aT (by lia)<|ci<|ac tr.at_,λH d b=>?_,λH b=>?_,λk1 k2 m h1 h2=>?_⟩,by rw[B6,G5];lia,rfl⟩⟩;rw[P]at b;by_cases e:H=u;rw[t5 e]at b;subst e;exact⟨f.length,by injection b with b;exact b.symm,lM,by rw[ci L,X,tr.no _ U]⟩;rw[t6 e]at b;obtain⟨n,rfl,o,g⟩:=tr.got H d b;have:=bg g;exact⟨n,rfl,o,by rw[J H e];exact aT (by lia)<|aT (by lia)<|ac g⟩;rw[P]at b;by_cases e:H=u;rw[t5 e]at b;cases b;rw[t6 e]at b;rw[J H e];exact tr.no H b;rw[P]at h1 h2;have x:∀H m,bb c H=a9 (.ref m)->m<f.length:=λH m h'=>by obtain⟨n,e,_,g⟩:=tr.got H _ h';injection e with e;rw[e];exact bg g
 by_cases A:k1=u<;>by_cases B:k2=u;rw[A,B];rw[t5 A]at h1;rw[t6 B]at h2;have:=x _ _ h2;injection h1 with h1;injection h1 with h1;lia;rw[t6 A]at h1;rw[t5 B]at h2;have:=x _ _ h1;injection h2 with h2;injection h2 with h2;lia;rw[t6 A]at h1;rw[t6 B]at h2;exact tr.one _ _ _ h1 h2;rw[beq_eq_false_iff_ne.mpr I];have W:∀H,aQ r j H=aQ r es H:=λH=>by rw[K,t6 λw=>I w.1]
 exact dg<|E1.now<|l _ _ ⟨c,_,pM,⟨tr.at_,λH d b=>by rw[W];exact tr.got H d b,λH b=>by rw[W];exact tr.no H b,tr.one⟩,by lia,rfl⟩
theorem kt(T:Tops P w K mg base):x6 P w K mg base 2 "stamps_beneath" cW bF:=x6.byD (N:=["says","room","beneath","say"]) T.b T.f_stamps_beneath (by walk_at"sc") jP (by have:=fu T;have:=gY T;have:=iX T;walk_at"dv") ka
def cx:A7:=λds M R=>∃(n:Int) (q:Nat) (xs:List D),ds=[.int n,.ref q]/\aq M q xs/\(∀x∈xs,St x)/\R (.ref M.length) (M++[.lst<|cT n xs])
theorem oV:cD cx gH:=by rintro ds M R ⟨n,q,xs,rfl,_⟩;rfl
def kP:v5:=bt<|F6 1 [0] (EU<|aa (ab 1) ae) (ap 0) oH<|dO<|aa (ab 1)<|aa (ab 0) ae
theorem qw:C1 cx 2 kP:=by rintro ds M R ⟨n,q,xs,rfl,L,hs,h⟩;simp only[kP];walk_at"dl";refine⟨xs,L,λg=>?_⟩;refine bi (λx=>.tup [.int n,x]) (λS=>∃a,S=[a,a9<|.int n]) L _ _ _ (λx c S b=>?_) ⟨_,rfl⟩ (by rw[D3,ADL];lia)<|.inl h;obtain⟨a,rfl⟩:=b;refine⟨[a9 x,a9<|.int n],⟨_,rfl⟩,λY D=>?_⟩;walk_at"dl";exact⟨ao (by lia),D⟩
theorem qN(T:Tops P w K mg base):x6 P w K mg base 1 "last_first" gH cx:=x6.byD (N:=["depth","stamps"]) T.b T.f_last_first (by walk_at"sc") oV (by walk_at"dv") qw
def cv:A7:=λds M R=>∃(n:Nat) (b:List (D×D)) (es:List D) (r:c5),ds=[.ref n]/\TreeAt M n b (aQ r es)/\(∀e∈es,St (z9 e)/\(fK e=.non\/St (fK e)))/\(es.map z9).Nodup/\es.length<=100/\∀out,RunW (aQ r es) [] (cT 0<|aQ r es .non) out->(∀x∈out,∃k s,x=.tup [.int k,s]/\St s)->out.length<=es.length->R (.ref M.length) (M++[.lst out])
theorem lx:cD cv eI:=by rintro ds M R ⟨n,b,es,r,rfl,_⟩;rfl
theorem ym(h:a<=1000):a<=sizeLine:=ao<|by lia
theorem iteT'{b:Bool}{A B:Prop}(e:b=b8)(h:A):if b=b8 then A else B:=by rw[t5 e];exact h
def fM:v5:=bt<|ab 1
def fN:v5:=kF<|ME nh (ab 2)<|aa (v7 cx<|aa (u8 aL (u8 z5 (ab 3)<|dC<|.int 0)<|dC<|.int 1)<|aa (Oh pS (ab 0)<|aa (u8 z5 (ab 3)<|dC<|.int 1)<|aa (jp ae) ae) ae) ae
def fO:v5:=aC (kF<|ME cE (ab 1)<|aa (ab 3) ae)<|fN
def fP:v5:=aC (xK (aG<|u8 Nl (v7 ir<|aa (ab 2) ae)<|dC<|.int 0)<|aC (aV (dMl0 Jn<|ab 2) 3)<|fO)<|fM
def fQ:v5:=aC (aV (v7 cx<|aa (dC<|.int 0)<|aa (Oh pS (ab 0)<|aa (dC .non)<|aa (jp ae) ae) ae) 2)<|fP
def iz:v5:=aC (aV (jp ae) 1)<|fQ
theorem lU:C1 cv 4 iz:=by
 rintro ds M R ⟨n,O,es,r,rfl,tr,hs,X,el,h⟩;have A:M <+: M++[MO.lst []]++[MO.lst []]:=bf.trans bf;have g0:(M++[MO.lst []]++[MO.lst []])[(M++[MO.lst []]).length]?=a9 (.lst []):=af;have E:(M++[MO.lst []]++[MO.lst []])[M.length]?=a9 (.lst []):=ac af;have V:∀k,∀x∈aQ r es k,St x:=λk x K=>by obtain⟨e,u,rfl,_⟩:=lO.mp K;exact(hs e u).1
 simp only[iz,fQ];walk_at"dl";refine⟨A8 _,⟨_,ac tr.at_⟩,A8 _,_,ac<|ac tr.at_,rfl,?_⟩;obtain⟨q,eq,gq⟩:=(tr.pre A).kids (k:=.non) g0;rw[eq];refine⟨0,q,_,rfl,.inl gq,V _,?_⟩;have W:M.length<(M++[MO.lst []]++[MO.lst []]).length:=by simp
 have J:(M++[MO.lst []]++[MO.lst []]++[MO.lst<|cT 0<|aQ r es .non])[(M++[MO.lst []]++[MO.lst []]).length]?=a9 (.lst<|cT 0<|aQ r es .non):=af;replace E:=ac (a:=MO.lst<|cT 0<|aQ r es .non) E;replace A:=A.trans<|bf (mo:=MO.lst<|cT 0<|aQ r es .non);generalize M++[MO.lst []]++[MO.lst []]++[MO.lst<|cT 0<|aQ r es .non]=B at J E A;generalize (M++[MO.lst []]++[MO.lst []]).length=N at J W;have eS:∀e∈es,z9 e≠.non:=λe u z=>by obtain⟨t,z',k,Q⟩:=(hs e u).1;rw[z]at Q;cases Q
 simp only[fP];walk_at"dl";refine⟨λm S j=>∃(b o:List D) (a:Option D),M <+: j/\j[M.length]?=a9 (.lst b)/\j[N]?=a9 (.lst o)/\TreeW r es b o/\(∀out,RunW (aQ r es) b o out->RunW (aQ r es) [] (cT 0<|aQ r es .non) out)/\m+b.length=es.length/\S=[a9<|.ref n,a9<|.ref M.length,a9<|.ref N,a],⟨es.length,[],_,_,A,E,J,.start X,λ_ z=>z,rfl,rfl⟩,?_⟩;rintro m S j ⟨b,o,a,pM,U,F,w,T,hm,rfl⟩;have wl:=w.len;walk_at"dl";refine⟨_,.inl F,?_⟩;have l:∀x∈b,∃k s,x=D.tup [.int k,s]/\St s:=λx K=>by obtain⟨k,e,q1,q2,_⟩:=w.ok x<|MC _ K;exact⟨k,_,q1,(hs e q2).1⟩
 rcases List.eq_nil_or_concat o with rfl|⟨c,x,rfl⟩
 refine dg ?_;simp only[fM];walk_at"dl";refine aZ.chgL .refl (h b (T _ .done) l<|by lia) (x5 _) U pM<|Bels.of λd hd=>?_;obtain⟨k,s,rfl,q⟩:=l d hd;exact .tup<|.cons (.int _)<|.cons (bK 2 _ q.pl) .nil;rw[List.concat_eq_append]at *;have wo:=w.ok x (by simp);obtain⟨k,e,rfl,u,_⟩:=wo;have Y:=w.step X eS;have P:=Y.len;have H:∀out,RunW (aQ r es) (b++[.tup [.int k,z9 e]]) (c++cT (k+1) (aQ r es<|z9 e)) out->RunW (aQ r es) [] (cT 0<|aQ r es .non) out:=λout z=>T out (by have:=RunW.step z;simpa using this);have ks:=Ec (r:=r) (es:=es) (k:=z9 e);have ke:yJ (z9 e)=b8:=by obtain⟨t,z,k,q⟩:=(hs e u).1;rw[q];rfl
 have L:=V<|z9 e;rw[B6,B6,G5]at P;generalize z9 e=s at *;rw[B6,G5]at wl;refine iteT' (dT_<|by rw[B6,G5];lia) ⟨⟨_,.inl F⟩,c,_,F,?_⟩;have C:=bP (x:=MO.lst c) pM<|MR W;have g:=aT (x:=MO.lst c) (A9 W) U;have y:=ci (a:=MO.lst c) F;generalize j.set N (MO.lst c)=Z at C g y;simp only[fO];walk_at"dl";refine⟨⟨_,.inl g⟩,_,g,av (by lia),?_⟩;have p:=bP (x:=MO.lst<|b++[.tup [.int k,s]]) C<|x5 _;have v:=ci (a:=MO.lst<|b++[.tup [.int k,s]]) g;have f:=aT (x:=MO.lst<|b++[.tup [.int k,s]]) (D4<|A9 W) y;generalize Z.set M.length (MO.lst<|b++[.tup [.int k,s]])=M2 at p v f;simp only[fN];walk_at"dl";have i:=tr.pre p;refine⟨⟨_,.inl f⟩,⟨_,i.at_⟩,A8 _,O,ac i.at_,ke,?_⟩;obtain⟨q',G,I⟩:=(i.pre<|bf (mo:=MO.lst [])).kids (k:=s) (q0:=M2.length) af;rw[G];refine⟨k+1,q',_,rfl,.inl I,L,?_⟩;have lq:=bg f;refine⟨_,_,ac<|ac f,af,by rw[B6];lia,ym (by unfold cT;rw[w4,ADL];lia),m-1,?_,b++[.tup [.int k,s]],_,_,bP ((p.trans bf).trans bf)<|MR W,aT (A9 W)<|ac<|ac v,ci<|ac<|ac f,Y,H,?_,rfl⟩;lia;rw[B6,G5];lia
theorem nH(T:Tops P w K mg base):x6 P w K mg base 2 "rows_of_tree" eI cv:=x6.byD (N:=["beneath","rows","to_do","row"]) T.b T.f_rows_of_tree (by walk_at"sc") lx (by have:=qN T;walk_at"dv") lU
def ie:A7:=λds M R=>∃(ps:List (c5×Int)) (a:List (c5×List c5)) (log:List D) (r:c5),ds=[aA ps a,.tup log,.str r]/\r∈a.map (·.1)/\(∀d∈log,aw ps a d)/\log.length<64/\∀out,RunW (aQ r ((ay a log).map (·.2))) [] (cT 0 (aQ r ((ay a log).map (·.2)) .non)) out->(∀x∈out,∃k s,x=.tup [.int k,s]/\St s)->out.length<=log.length->R (.ref M.length) (M++[.lst<|out.filter λx=>@decide (¬bJ (ay a log) log (eZ x))<|K6 _])
theorem vR:cD ie nv:=by rintro ds M R ⟨ps,a,log,r,rfl,_⟩;rfl
def me:v5:=bt<|F6 1 [4] (br<|v7 cv<|aa (v7 bF<|aa (ab 3)<|aa (ab 2) ae) ae) (ap 0) (aG<|u8 na (u8 z5 (ab 0)<|dC<|.int 1)<|ab 1)<|ab 0
def mf:v5:=aC (aV (v7 aU<|aa (ab 1)<|aa (ab 3) ae) 4)<|me
def mh:v5:=aC (aV (v7 bj<|aa (ab 0)<|aa (ab 1) ae) 3)<|mf
def su:v5:=aC (E4 (LB<|aG<|v7 ii<|aa (ab 0)<|aa (ab 2) ae) (qh) bB)<|mh
theorem xS:C1 ie 5 su:=by
 rintro ds M R ⟨ps,rs,log,r,rfl,J,l,H,h⟩;simp only[su];walk_at"dl";refine⟨ps,rs,r,rfl,J,dg ?_⟩;simp only[mh];walk_at"dl";refine⟨ps,rs,log,rfl,l,by lia,λn B E hB=>?_⟩;have f:=bE (rs:=rs) (log:=log);have y:=jy l (λ_ q=>q) f;have kl:=bL (log:=log) (k:=v6 "say");have tl:=f.len;simp only[mf];walk_at"dl";refine⟨ps,rs,log,n,ay rs log,rfl,l,H,hB,λp hp=>(y p hp).1.nm,λys c O W _=>?_⟩;have j:(B++[MO.lst ys])[B.length]?=a9 (.lst ys):=af;replace hB:=ac (a:=MO.lst ys) hB;replace E:=E.trans<|bf (mo:=MO.lst ys);generalize B++[MO.lst ys]=X at j hB E;generalize B.length=D at j;simp only[me];walk_at"dl";refine⟨ps,rs,n,r,ay rs log,rfl,hB,y,by lia,λQ I A C tr=>?_⟩;have F:∀e∈(ay rs log).map (·.2),St (z9 e)/\(fK e=.non\/St (fK e)):=λe G=>by obtain⟨p,hp,rfl⟩:=A0.mp G;obtain⟨h1,h2⟩:=y p hp;generalize p.2=e at h1 h2;obtain⟨t,z,k,U,r',u,s,rfl,_,_,_,K⟩:=gl h1 h2;exact⟨⟨t,z,k,rfl⟩,K⟩
 have T:(((ay rs log).map (·.2)).map z9).Nodup:=by
  have:((ay rs log).map (·.2)).map z9=(ay rs log).map (·.1):=by rw[E2];exact Nx λp hp=>(f.en p hp).1.symm
  rw[this];exact f.nd
 refine⟨Q,A,_,r,rfl,tr,F,T,by rw[w4];lia,λout N w V=>?_⟩;rw[w4]at V;have g:=ac (a:=MO.lst out)<|aM C j;have i:=(E.trans C).trans<|bf (mo:=MO.lst out);have o:(I++[MO.lst out])[I.length]?=a9 (.lst out):=af;generalize I++[MO.lst out]=B3 at g i o;refine⟨_,.inl o,λ_=>?_⟩;refine aK (λx=>@decide (¬bJ (ay rs log) log (eZ x))<|K6 _) id (λS=>∃a,S=[a,a9<|.ref D]) (.inl o) _ _ _ ?_ ⟨_,rfl⟩ (by rw[D3];exact ao<|by lia) ?_;rintro x P S ⟨a,rfl⟩;refine⟨[a9 x,a9<|.ref D],⟨_,rfl⟩,λY Z b=>?_⟩;obtain⟨k,s,rfl,hs⟩:=w x P;walk_at"dl";refine⟨_,.inl g,⟨hs.ok,Ae c⟩,?_⟩;rw[Bz hs c];by_cases m:s∈ys;rw[dT_ m];rw[show @decide (¬bJ (ay rs log) log (eZ<|.tup [.int k,s])) (K6 _)=b9 from @decide_eq_false _ (K6 _) λz=>z<|(O s).mp m]at b;exact b;rw[dF_ m];rw[show @decide (¬bJ (ay rs log) log (eZ<|.tup [.int k,s])) (K6 _)=b8 from @decide_eq_true _ (K6 _) λz=>m<|(O s).mpr z]at b;exact b;rw[G4,NB];refine aZ.chgL .refl (h out N w<|by lia) (by obtain⟨L,rfl⟩:=i;simp) af (i.trans bf)<|Bels.of λd v=>?_;obtain⟨k,s,rfl,q⟩:=w d (E7.mp v).1;exact .tup<|.cons (.int _)<|.cons (bK 2 _ q.pl) .nil
theorem yr(T:Tops P w K mg base):x6 P w K mg base 5 "rows_of" nv ie:=x6.byD (N:=["house","log","room","says","backs"]) T.b T.f_rows_of (by walk_at"sc") vR (by have:=yu T;have:=dU T;have:=db T;have:=kt T;have:=nH T;walk_at"dv") xS
def bC:A7:=λds M R=>∃(ps:List (c5×Int)) (a:List (c5×List c5)) (log:List D) (n r:c5),ds=[aA ps a,.tup log,.str n,.str r]/\r∈a.map (·.1)/\n∈oP a r/\(∀d∈log,aw ps a d)/\log.length<64/\((eN a log n r).length<=log.length->(∀e∈eN a log n r,ba e=r)->R (.ref M.length) (M++[.lst<|(eN a log n r).map<|nM<|aI (aF a log) log]))
theorem lz:cD bC eJ:=by rintro ds M R ⟨ps,a,log,e,r,rfl,_⟩;rfl
theorem zq(h:∀d∈log,aw ps rs d):∀e∈eF rs log name,aw ps rs e/\aY e=v6 "say":=λe i=>by obtain⟨p,hp,rfl⟩:=A0.mp (E7.mp i).1;exact(bX h p hp).2
theorem CF(h:∀d∈log,aw ps rs d):bb (uX rs log name) s=(zh rs log name s).map (nM<|aI (aF rs log) log):=yR (λq a=>(bX h q a).1) xh
theorem FX(h:∀d∈log,aw ps rs d):((uX rs log name).map (·.1)).Nodup:=by
 have e:(uX rs log name).map (·.1)=(eF rs log name).map z9:=by unfold uX;rw[E2];rfl
 have l:((aF rs log).map (·.2)).map z9=(aF rs log).map (·.1):=by rw[E2];exact Nx λp hp=>(bX h p hp).1.symm
 rw[e];refine(QJ.map _).nodup ?_;rw[l];exact xh
theorem xr{rs:List (c5×List c5)}{log:List D}{name:c5}{f:D->D}{g:D->Option D}(hg:∀s,g s=(zh rs log name s).map f):∀out:List D,(((out.filter λx=>@decide (¬bJ (ay rs log) log (eZ x))<|K6 _).filter λx=>(g<|eZ x).isSome).map λx=>(g<|eZ x).getD .non)=(out.filterMap λx=>zh rs log name<|eZ x).map f
 | []=>rfl
 |x::out=>by
  have ih:=xr hg out;rw[Nw,Ny];cases hn:zh rs log name (eZ x) with
  |none=>rw[<-ih];split;rw[Nw,hg,hn];rfl;rfl
  |some e =>
   have hb:=(gj.mp<|bv (AO hn).1).2;have hs:(g<|eZ x).isSome=b8:=by rw[hg,hn];rfl
   rw[@decide_eq_true _ (K6 _) hb,t5 rfl,Nw,t5 hs,D5,ih,hg,hn];rfl
theorem Dx(a:∀d∈log,aw ps rs d)(w:RunW (aQ r ((ay rs log).map (·.2))) [] (cT 0 (aQ r ((ay rs log).map (·.2)) .non)) (Dm rs log r)):∀e∈eN rs log name r,ba e=r:=λe i=>by
 have b:=bE (rs:=rs) (log:=log);have v:=jy a (λ_ q=>q) b;have m:(((ay rs log).map (·.2)).map z9).Nodup:=by
  have:((ay rs log).map (·.2)).map z9=(ay rs log).map (·.1):=by rw[E2];exact Nx λp hp=>(b.en p hp).1.symm
  rw[this];exact b.nd
 have F:∀e∈(ay rs log).map (·.2),z9 e≠.non:=λe i z=>by obtain⟨p,hp,rfl⟩:=A0.mp i;obtain⟨t,x,k,q⟩:=(v p hp).1.st;rw[z]at q;cases q
 have l:=w.tree m F<|TreeW.start m;obtain⟨s,hs,h1,_⟩:=jN i;obtain⟨x,j,rfl⟩:=A0.mp hs;obtain⟨k,c,rfl,h,g,_⟩:=l.ok x (by rw[Mq];exact j);have i:e∈(ay rs log).map (·.2):=K1 (f:=(·.2)) (gj.mp<|bv h1).1;have es:z9 c=z9 e:=(bX a _<|bv h1).1;rw[<-Af m h i es];exact g
def fR:v5:=bt<|F6 2 [4] (br<|v7 ie<|aa (ab 0)<|aa (ab 1)<|aa (ab 3) ae) (nZ 2<|cq (ap 0)<|cq (ap 1) og) (aG<|u8 Gj (ab 1)<|ab 2)<|ji (ab 2)<|ab 1
def fS:v5:=aC (aV (v7 iN<|aa (F6 1 [] (br<|v7 bA<|aa (ab 0)<|aa (ab 1)<|aa (ab 2) ae) (ap 0) oH<|dO<|aa (u8 z5 (ab 0)<|dC<|.int 0)<|aa (ab 0) ae) ae) 4)<|fR
def iA:v5:=aC (E4 (aG<|u8 na (ab 2)<|v7 cw<|aa (ab 0)<|aa (ab 3) ae) (qh) bB)<|fS
theorem lV:C1 bC 5 iA:=by
 rintro ds M R ⟨ps,rs,log,name,r,rfl,G,U,g,F,h⟩;simp only[iA];walk_at"dl";refine⟨ps,rs,r,rfl,G,⟨aP,qE⟩,?_⟩;rw[rq,dT_ U];refine dg ?_;simp only[fS];walk_at"dl";refine⟨ps,rs,log,name,rfl,g,F,_,ad,λ_=>?_⟩;have o:=zq (name:=name) g;have ul:(eF rs log name).length<=100:=by have h1:=(bE (rs:=rs) (log:=log)).len;have h2:=bL (log:=log) (k:=v6 "say");have h3:(aF rs log).length<=(ay rs log).length:=Mi _ _;have P:(eF rs log name).length<=((aF rs log).map (·.2)).length:=Mi _ _;rw[w4]at P;lia
 refine bi (λm=>.tup [iH m,m]) (λS=>∃a,S=[a]) ad _ _ _ (λm T S Q=>?_) ⟨_,rfl⟩ (by rw[D3,w4];exact ao<|by lia) ?_;obtain⟨a,rfl⟩:=Q;obtain⟨e,i,rfl⟩:=A0.mp T;refine⟨[a9<|nM (aI (aF rs log) log) e],⟨_,rfl⟩,λY C=>?_⟩;obtain⟨t,z,k,w,r',u,s,rfl,_⟩:=gl (o e i).1 (o e i).2;unfold nM at C ⊢;walk_at"dl";exact⟨ao (by decide),C⟩;rw[G4,E2];have O:(eF rs log name).map ((λm=>D.tup [iH m,m]) ∘ nM (aI (aF rs log) log))=(uX rs log name).map λp=>.tup [p.1,p.2]:=by unfold uX;rw[E2];refine Nx λe i=>?_;obtain⟨t,z,k,w,r',u,s,rfl,_⟩:=gl (o e i).1 (o e i).2;rfl
 rw[O];refine⟨_,ad,λp hp=>?_,by unfold uX;rw[w4];lia,?_⟩;obtain⟨e,i,rfl⟩:=A0.mp hp;have N:=(o e i).1.st;obtain⟨J,q⟩:=N.tup;exact⟨N.key,by show eX (z9 e)=b8;rw[q];rfl⟩;rw[nY _<|FX g];have E:=(bf (M:=M) (mo:=MO.lst<|(eF rs log name).map<|nM<|aI (aF rs log) log)).trans<|bf (mo:=MO.lst<|(uX rs log name).map λp=>D.tup [p.1,p.2]);generalize M++[MO.lst<|(eF rs log name).map<|nM<|aI (aF rs log) log]++[MO.lst<|(uX rs log name).map λp=>D.tup [p.1,p.2]]=B at E;have j:(B++[MO.dkt<|uX rs log name])[B.length]?=a9 (.dkt<|uX rs log name):=af;replace E:=E.trans<|bf (mo:=MO.dkt<|uX rs log name);generalize B++[MO.dkt<|uX rs log name]=H at j E;generalize B.length=K at j;simp only[fR];walk_at"dl";refine⟨ps,rs,log,r,rfl,G,g,F,λout I V ol=>?_⟩;have A:=I.out;have l:(H++[MO.lst<|out.filter λx=>@decide (¬bJ (ay rs log) log (eZ x))<|K6 _])[H.length]?=a9 (.lst<|out.filter λx=>@decide (¬bJ (ay rs log) log (eZ x))<|K6 _):=af;replace j:=ac (a:=MO.lst<|out.filter λx=>@decide (¬bJ (ay rs log) log (eZ x))<|K6 _) j;replace E:=E.trans<|bf (mo:=MO.lst<|out.filter λx=>@decide (¬bJ (ay rs log) log (eZ x))<|K6 _);have fl:=Mi (λx=>@decide (¬bJ (ay rs log) log (eZ x))<|K6 _) out;have nr:=xr (rs:=rs) (log:=log) (name:=name) (f:=nM<|aI (aF rs log) log) (λs=>CF (s:=s) g) out;generalize H++[MO.lst<|out.filter λx=>@decide (¬bJ (ay rs log) log (eZ x))<|K6 _]=B2 at l j E;generalize H.length=qo at l;refine⟨_,.inl l,λ_=>?_⟩;refine aK (λx=>(bb (uX rs log name)<|eZ x).isSome) (λx=>(bb (uX rs log name)<|eZ x).getD .non) (λS=>∃a b,S=[a,b,a9<|.ref K]) (.inl l) _ _ _ ?_ ⟨_,_,rfl⟩ (by rw[D3];exact ao<|by lia) ?_;rintro x W S ⟨a,b,rfl⟩;obtain⟨k,s,rfl,hs⟩:=V x (E7.mp W).1;refine⟨[a9<|.int k,a9 s,a9<|.ref K],⟨_,_,rfl⟩,λY Z c=>?_⟩;have v:=hs.key;obtain⟨J,e⟩:=hs.tup;have es:eZ (.tup [.int k,s])=s:=rfl;rw[es]at c;rw[e]at c v ⊢;walk_at"dl";refine⟨trivial,_,j,v,?_⟩;cases n:bb (uX rs log name) (.tup J) with
 |none=>rw[n]at c;exact c
 |some d=>rw[n]at c;exact⟨_,_,j,v,n,c⟩
 rw[G4,nr];have y:(out.filterMap λx=>zh rs log name<|eZ x)=eN rs log name r:=by unfold eN;rw[<-A]
 rw[y];have X:(eN rs log name r).length<=log.length:=by have:=List.length_filterMap_le (λx=>zh rs log name<|eZ x) out;rw[y]at this;lia
 refine aZ.chgL .refl (h X<|Dx g<|A ▸ I) (by obtain⟨L,rfl⟩:=E;simp) af (E.trans bf)<|Bels.of λd q=>?_;obtain⟨e,i,rfl⟩:=A0.mp q;obtain⟨s,_,h1,_⟩:=jN i;exact xt (oq g) (bX g _<|bv h1).2.1 (bX g _<|bv h1).2.2
theorem gI(T:Tops P w K mg base):x6 P w K mg base 7 "new_messages" eJ bC:=x6.byD (N:=["house","log","name","room","unread"]) T.b T.f_new_messages (by walk_at"sc") lz (by have:=jM T;have:=jL T;have:=yr T;walk_at"dv") lV
def cL:A7:=λds M R=>∃(ps:List (c5×Int)) (a:List (c5×List c5)) (log:List D) (n r:c5),ds=[aA ps a,.tup log,.str n,.str r]/\r∈a.map (·.1)/\n∈oP a r/\(∀d∈log,aw ps a d)/\log.length<64/\((eN a log n r).length<=log.length->(∀x∈(eN a log n r).map z9,St x)->(∀e∈eN a log n r,ba e=r)->R (.ref M.length) (M++[.lst<|(eN a log n r).map z9]))
theorem vU:cD cL nA:=by rintro ds M R ⟨ps,a,log,e,r,rfl,_⟩;rfl
theorem iZ(h:∀d∈log,aw ps rs d):∀e∈eN rs log name r,aw ps rs e/\aY e=v6 "say":=λe i=>by obtain⟨s,_,h1,_⟩:=jN i;exact(bX h _<|bv h1).2
def sB:v5:=bt<|F6 1 [] (br<|v7 bC<|aa (ab 0)<|aa (ab 1)<|aa (ab 2)<|aa (ab 3) ae) (ap 0) oH<|u8 z5 (ab 0)<|dC<|.int 0
theorem xV:C1 cL 4 sB:=by
 rintro ds M R ⟨ps,c,log,n,r,rfl,v,p,b,j,h⟩;simp only[sB];walk_at"dl";refine⟨ps,c,log,n,r,rfl,v,p,b,j,λX y=>⟨_,ad,λ_=>?_⟩⟩;refine bi iH (λS=>∃a,S=[a]) ad _ _ _ (λm o S g=>?_) ⟨_,rfl⟩ (by rw[D3,w4];exact ao<|by lia) ?_;obtain⟨a,rfl⟩:=g;obtain⟨e,i,rfl⟩:=A0.mp o;refine⟨[a9<|nM (aI (aF c log) log) e],⟨_,rfl⟩,λY D=>?_⟩;obtain⟨t,z,k,f,r',u,s,rfl,_⟩:=gl (iZ b e i).1 (iZ b e i).2;unfold nM at D ⊢;walk_at"dl";exact D;have l:((eN c log n r).map<|nM<|aI (aF c log) log).map iH=(eN c log n r).map z9:=by rw[E2];refine Nx λe i=>?_;obtain⟨t,z,k,f,r',u,s,rfl,_⟩:=gl (iZ b e i).1 (iZ b e i).2;rfl
 have hs:∀x∈(eN c log n r).map z9,St x:=λx w=>by obtain⟨e,i,rfl⟩:=A0.mp w;exact(iZ b e i).1.st
 rw[G4,l];exact aZ.chgL .refl (h X hs y) (by simp) af (bf.trans bf)<|Bels.of λd q=>bK 2 d (hs d q).pl
theorem gZ(T:Tops P w K mg base):x6 P w K mg base 8 "new_for" nA cL:=x6.byD (N:=["house","log","name","room"]) T.b T.f_new_for (by walk_at"sc") vU (by have:=gI T;walk_at"dv") xV
def cS:A7:=λds M R=>∃(ps:List (c5×Int)) (a:List (c5×List c5)) (log:List D) (n r:c5),ds=[aA ps a,.tup log,.str n,.str r]/\r∈a.map (·.1)/\n∈oP a r/\(∀d∈log,aw ps a d)/\log.length<64/\n.length<=100/\((eN a log n r).length<=log.length->R (.ref M.length) (M++[.lst<|((eN a log n r).filter λe=>iG (Gf a log e) n).map z9]))
theorem qV:cD cS iR:=by rintro ds M R ⟨ps,a,log,e,r,rfl,_⟩;rfl
noncomputable def fifD:D->D
 |.tup [_,_,_,_,s,_]=>s
 |_=>.non
theorem CT(h:∀d∈log,aw ps rs d)(j:aw ps rs e)(x:aY e=v6 "say"):∃s:c5,Gf rs log e=.str s/\s.length<=100:=by
 unfold Gf;cases R:bb (aI (aF rs log) log) (z9 e) with
 |none=>exact Ge j x
 |some v=>obtain⟨d,m,t⟩:=A0.mp<|qg _<|bv R;obtain⟨h1,h2⟩:=bq (E7.mp m).1;have:=yZ (h d h1) h2;injection t with _ e2;rw[<-e2];exact this
def mE:v5:=bt<|F6 1 [2] (br<|v7 bC<|aa (ab 0)<|aa (ab 1)<|aa (ab 2)<|aa (ab 3) ae) (ap 0) (aG<|v7 fJ<|aa (u8 z5 (ab 0)<|dC<|.int 4)<|aa (ab 1) ae)<|u8 z5 (ab 0)<|dC<|.int 0
theorem rU:C1 cS 4 mE:=by
 rintro ds M R ⟨ps,g,log,n,r,rfl,y,x,o,u,z,h⟩;simp only[mE];walk_at"dl";refine⟨ps,g,log,n,r,rfl,y,x,o,u,λX _=>⟨_,ad,λ_=>?_⟩⟩;have J:∀e∈eN g log n r,∃a b c d s f,nM (aI (aF g log) log) e=.tup [a,b,c,d,.str s,f]/\a=z9 e/\Gf g log e=.str s/\s.length<=100:=λe i=>by obtain⟨h1,h2⟩:=iZ o e i;obtain⟨s,t,l⟩:=CT o h1 h2;have Q:(bb (aI (aF g log) log)<|z9 e).getD (sayO e)=.str s:=t;exact⟨_,_,_,_,s,_,by unfold nM;rw[Q],rfl,t,l⟩
 refine aK (λm=>iG (fifD m) n) iH (λS=>∃a,S=[a,a9<|.str n]) ad _ _ _ ?_ ⟨_,rfl⟩ (by rw[D3,w4];exact ao<|by lia) ?_;rintro m v S ⟨a,rfl⟩;obtain⟨e,i,rfl⟩:=A0.mp v;refine⟨[a9<|nM (aI (aF g log) log) e,a9<|.str n],⟨_,rfl⟩,λY Z k=>?_⟩;obtain⟨a,b,c,d,s,f,t,l,Q,I⟩:=J e i;rw[t]at k ⊢;walk_at"dl";rw[show atI [a,b,c,d,D.str s,f] 4=a9 (.str s)from au (j:=4) rfl];refine⟨s,n,rfl,I,z,?_⟩;exact k;have p:(((eN g log n r).map<|nM<|aI (aF g log) log).filter λm=>iG (fifD m) n).map iH=((eN g log n r).filter λe=>iG (Gf g log e) n).map z9:=by
  rw[List.filter_map,E2];have w:(eN g log n r).filter ((λm=>iG (fifD m) n) ∘ nM (aI (aF g log) log))=(eN g log n r).filter λe=>iG (Gf g log e) n:=List.filter_congr λe i=>by obtain⟨a,b,c,d,s,f,t,l,Q,I⟩:=J e i;show iG (fifD<|nM (aI (aF g log) log) e) n=_;rw[t,Q];rfl
  rw[w];refine Nx λe i=>?_;obtain⟨a,b,c,d,s,f,t,l,Q,I⟩:=J e (E7.mp i).1;show iH (nM (aI (aF g log) log) e)=_;rw[t,<-l];rfl
 rw[G4,p];refine aZ.chgL .refl (h X) (by simp) af (bf.trans bf)<|Bels.of λd q=>?_;obtain⟨e,i,rfl⟩:=A0.mp q;exact bK 2 _ (iZ o e (E7.mp i).1).1.st.pl
theorem kW(T:Tops P w K mg base):x6 P w K mg base 8 "named_for" iR cS:=x6.byD (N:=["house","log","name","room"]) T.b T.f_named_for (by walk_at"sc") qV (by have:=vJ T;have:=gI T;walk_at"dv") rU
def eD:A7:=λds M R=>∃(ps:List (c5×Int)) (a:List (c5×List c5)) (log:List D) (e r:c5),ds=[aA ps a,.tup log,.str e,.str r]/\r∈a.map (·.1)/\e∈oP a r/\(∀d∈log,aw ps a d)/\log.length<64/\R (((eN a log e r).map z9).headD .non) M
theorem qZ:cD eD iV:=by rintro ds M R ⟨ps,a,log,e,r,rfl,_⟩;rfl
def jE:v5:=bt<|dIfE (aG<|u8 Nl (v7 ir<|aa (ab 4) ae)<|dC<|.int 0) (u8 z5 (ab 4)<|dC<|.int 0)<|dC .non
def mR:v5:=aC (aV (v7 cL<|aa (ab 0)<|aa (ab 1)<|aa (ab 2)<|aa (ab 3) ae) 4)<|jE
theorem rY:C1 eD 5 mR:=by
 rintro ds M R ⟨ps,a,log,e,r,rfl,i,f,d,g,h⟩;simp only[mR];walk_at"dl";refine⟨ps,a,log,e,r,rfl,i,f,d,g,λX hs _=>?_⟩;generalize (eN a log e r).map z9=xs at h hs;simp only[jE];walk_at"dl";refine⟨_,ad,?_⟩;cases xs with
 |nil=>exact aZ.non h bf
 |cons x xs=>have b:=hs x F4;have hp:decide ((0:Int)<((x::xs).length:Int))=b8:=dT_ (by rw[D7];lia);rw[hp];refine dN ⟨_,ad,?_⟩;rw[Oi];exact aZ.keep h (bK 2 x b.pl) bf
theorem tU(T:Tops P w K mg base):x6 P w K mg base 9 "first_new" iV eD:=x6.byD (N:=["house","log","name","room","new"]) T.b T.f_first_new (by walk_at"sc") qZ (by have:=gZ T;walk_at"dv") rY
noncomputable def Cs(rs:List (c5×List c5))(log:List D)(name r:c5):D:=.tup [.str r,.int ((eN rs log name r).length:Int),.int (((eN rs log name r).filter λe=>iG (Gf rs log e) name).length:Int)]
def fH:A7:=λds M R=>∃(ps:List (c5×Int)) (a:List (c5×List c5)) (log:List D) (e r:c5),ds=[aA ps a,.tup log,.str e,.str r]/\r∈a.map (·.1)/\e∈oP a r/\(∀d∈log,aw ps a d)/\log.length<64/\e.length<=100/\R (Cs a log e r) M
theorem uj:cD fH kj:=by rintro ds M R ⟨ps,a,log,e,r,rfl,_⟩;rfl
def pz:v5:=bt<|dO<|aa (ab 3)<|aa (v7 ir<|aa (v7 cL<|aa (ab 0)<|aa (ab 1)<|aa (ab 2)<|aa (ab 3) ae) ae)<|aa (v7 ir<|aa (v7 cS<|aa (ab 0)<|aa (ab 1)<|aa (ab 2)<|aa (ab 3) ae) ae) ae
theorem uZ:C1 fH 4 pz:=by rintro ds M R ⟨ps,a,log,e,r,rfl,i,f,d,g,n,h⟩;simp only[pz];walk_at"dl";refine⟨ps,a,log,e,r,rfl,i,f,d,g,λX _ _=>⟨_,ad,?_⟩⟩;refine⟨ps,a,log,e,r,rfl,i,f,d,g,n,λ_=>⟨_,ad,ao (by decide),?_⟩⟩;rw[w4,w4];exact aZ.keep h (.tup<|.cons (.str _)<|.cons (.int _)<|.cons (.int _) .nil)<|bf.trans bf
theorem vH(T:Tops P w K mg base):x6 P w K mg base 9 "total_of" kj fH:=x6.byD (N:=["house","log","name","room"]) T.b T.f_total_of (by walk_at"sc") uj (by have:=gZ T;have:=kW T;walk_at"dv") uZ
def dq:A7:=λds M R=>∃(ps:List (c5×Int)) (a:List (c5×List c5)) (log:List D) (e:c5),ds=[aA ps a,.tup log,.str e]/\HouseF ps a/\(∀d∈log,aw ps a d)/\log.length<64/\e.length<=100/\R (.ref M.length) (M++[.lst<|(gp a e).map<|Cs a log e])
theorem oR:cD dq gx:=by rintro ds M R ⟨ps,a,log,e,rfl,_⟩;rfl
noncomputable def strO:D->c5
 |.str x=>x
 |_=>v6 ""
theorem jO:∀{rs:List (c5×List c5)},(rs.map (·.1)).Nodup->r∈rs->oP rs r.1=r.2
 |p::rs,nd,h=>by rw[tY];rw[D5,Ma]at nd;rcases C3.mp h with rfl|h;rw[t5 rfl];have ne:p.1≠r.1:=λz=>nd.1 (by rw[z];exact K1 h);rw[t6 ne];exact jO nd.2 h
def kJ:v5:=bt<|F6 1 [0,1,2] (br<|v7 fI<|aa (ab 0)<|aa (ab 2) ae) (ap 0) oH<|v7 fH<|aa (ab 1)<|aa (ab 2)<|aa (ab 3)<|aa (ab 0) ae
theorem qm:C1 dq 3 kJ:=by
 rintro ds M R ⟨ps,s,log,e,rfl,f,g,l,n,h⟩;simp only[kJ];walk_at"dl";have k:=f.rl;have o:(gp s e).length<=4:=by have:=Mi (λp:c5×List c5=>decide<|e∈p.2) s;unfold gp;rw[w4];lia
 refine⟨ps,s,e,rfl,by lia,_,ad,λ_=>?_⟩;refine bi (λd=>Cs s log e<|strO d) (λS=>∃a,S=[a,a9<|aA ps s,a9<|.tup log,a9<|.str e]) ad _ _ _ (λd i S c=>?_) ⟨_,rfl⟩ (by rw[D3,w4];exact ao<|by lia) ?_;obtain⟨a,rfl⟩:=c;obtain⟨r,j,rfl⟩:=A0.mp i;obtain⟨b,m,rfl⟩:=A0.mp j;obtain⟨h1,h2⟩:=E7.mp m;refine⟨[a9<|.str b.1,a9<|aA ps s,a9<|.tup log,a9<|.str e],⟨_,rfl⟩,λY D=>?_⟩;walk_at"dl";exact⟨ps,s,log,e,b.1,rfl,K1 h1,by rw[jO f.rnd h1];exact oT_ h2,g,l,n,D⟩;rw[G4,E2];refine aZ.chgL .refl h (by simp) af (bf.trans bf)<|Bels.of λd q=>?_;obtain⟨r,_,rfl⟩:=A0.mp q;exact .tup<|.cons (.str _)<|.cons (.int _)<|.cons (.int _) .nil
theorem qJ(T:Tops P w K mg base):x6 P w K mg base 10 "totals_for" gx dq:=x6.byD (N:=["house","log","name"]) T.b T.f_totals_for (by walk_at"sc") oR (by have:=vI T;have:=vH T;walk_at"dv") qm
noncomputable def oz(ns:List Int)(k:Nat):Int:=ns.getD k 0
def bH:A7:=λds M R=>∃(n:Nat) (ns:List Int) (k:Nat),ds=[.ref n,.int k]/\aq M n (ns.map D.int)/\R (.int<|oz ns k) M
theorem vY:cD bH nE:=by rintro ds M R ⟨n,ns,k,rfl,_⟩;rfl
def mS:v5:=bt<|dC<|.int 0
def sZ:v5:=aC (E4 (aG<|u8 M8 (ab 1)<|v7 ir<|aa (ab 0) ae) (bt<|u8 z5 (ab 0)<|ab 1) bB)<|mS
theorem xZ:C1 bH 2 sZ:=by rintro ds M R ⟨n,ns,k,rfl,L,h⟩;simp only[sZ,mS];walk_at"dl";refine⟨_,L,?_⟩;unfold oz at h;by_cases a:k<ns.length;rw[dT_<|by simpa using a];refine dN ⟨_,L,?_⟩;rw[au (v:=.int ns[k])<|by rw[D8,A5 a];rfl];rw[L5,A5 a]at h;exact aZ.now h;rw[dF_<|by simpa using a];rw[L5,NK<|by lia]at h;exact dg<|aZ.now h
theorem pW(T:Tops P w K mg base):x6 P w K mg base 1 "_law_cell_at" nE bH:=x6.byD (N:=["_law_script","_law_k"]) T.b T.f_cell_at (by walk_at"sc") vY (by walk_at"dv") xZ
def dW:A7:=λds M R=>∃(c k:Int),ds=[.int c,.int k]/\(0<=k/\k<=1000)/\∀i:Int,R (.int i) M
theorem Be:cD dW vC:=by rintro ds M R ⟨c,k,rfl,_⟩;rfl
def sL:v5:=bt<|u8 bY (u8 aL (u8 aL (u8 lu (ab 2)<|dC<|.int 69621)<|u8 lu (u8 lu (dC<|.int 7919)<|ab 1)<|ab 1)<|dC<|.int 5)<|dC<|.int 1999999973
def zy:v5:=aC (aV (u8 bY (u8 lu (u8 aL (u8 aL (u8 bY (ab 0)<|dC<|.int 2147483629)<|u8 lu (dC<|.int 7919)<|ab 1)<|dC<|.int 11)<|dC<|.int 48271)<|dC<|.int 2147483587) 2)<|sL
theorem Cw:C1 dW 3 zy:=by rintro ds M R ⟨c,k,rfl,⟨L,D⟩,h⟩;simp only[zy,sL];walk_at"dl";exact⟨by decide,.inl ⟨by decide,by decide⟩,.inr ⟨by decide,by decide⟩,by decide,.inr ⟨by decide,by decide⟩,.inl ⟨by decide,by decide⟩,.inr ⟨by lia,by lia⟩,by decide,aZ.now<|h _⟩
theorem xo(T:Tops P w K mg base):x6 P w K mg base 1 "_law_mixed" vC dW:=x6.byD (N:=["_law_cell","_law_k","_law_number"]) T.b T.f_mixed (by walk_at"sc") Be (by walk_at"dv") Cw
def kH:A7:=λds M R=>∃(c k:Int),ds=[.int c,.int k]/\(0<=k/\k<=900)/\∀i:Int,R (.int i) M
theorem DY:cD kH AF:=by rintro ds M R ⟨c,k,rfl,_⟩;rfl
def wW:v5:=bt<|v7 dW<|aa (v7 dW<|aa (ab 0)<|aa (ab 1) ae)<|aa (u8 aL (ab 1)<|dC<|.int 9) ae
def Fq:v5:=aC (E4 (aG<|u8 E8 (u8 bY (ab 0)<|dC<|.int 2)<|dC<|.int 0) (bt<|u8 aO (ab 0)<|dC<|.int 2) bB)<|wW
theorem FU:C1 kH 2 Fq:=by
 rintro ds M R ⟨c,k,rfl,⟨L,D⟩,h⟩;simp only[Fq,wW];walk_at"dl";refine⟨by decide,⟨aJ,aJ⟩,?_⟩;cases v8 M x3 (.int<|c % 2) (.int 0) with
 |true=>exact dN ⟨⟨by decide,by decide⟩,aZ.now<|h _⟩
 |false=>exact dg ⟨c,k,rfl,⟨L,by lia⟩,λi=>⟨i,k+9,rfl,⟨by lia,by lia⟩,λj=>aZ.now<|h j⟩⟩
theorem AK(T:Tops P w K mg base):x6 P w K mg base 2 "_law_free" AF kH:=x6.byD (N:=["_law_cell","_law_k"]) T.b T.f_free (by walk_at"sc") DY (by have:=xo T;walk_at"dv") FU
def ig:A7:=λds M R=>∃(n:Nat) (ns:List Int) (a m:Nat),ds=[.ref n,.int a,.int m]/\aq M n (ns.map D.int)/\ns.length<=100/\a<=10/\m<=100/\∀xs:List Int,xs.length<=m->R (.ref M.length) (M++[.lst<|xs.map .int])
theorem vT:cD ig ny:=by rintro ds M R ⟨n,ns,a,m,rfl,_⟩;rfl
theorem Em{ns:List Int}{lo hi:Option Int}:∃l:List Int,cutD (ns.map D.int) lo hi=l.map D.int:=by unfold cutD;rw[<-PH,<-List.map_take];exact⟨_,rfl⟩
theorem EZ{xs:List D}{s m:Nat}:(cutD xs (a9<|(s:Int)+1)<|a9<|(s:Int)+1+(m:Int)).length<=m:=by unfold cutD;rw[LO,show ((s:Int)+1)=((s+1:Nat):Int) by lia,show (((s+1:Nat):Int)+(m:Int))=((s+1+m:Nat):Int) by lia,HT.sIx_nat,HT.sIx_nat];lia
def kL:v5:=bt<|ab 4
def kM:v5:=kF<|ME cE (ab 4)<|aa (u8 aL (u8 lu (ab 9)<|dC<|.int 1000003)<|v7 dW<|aa (ab 9)<|aa (u8 aL (ab 7)<|dC<|.int 5) ae) ae
def gf:v5:=aC (lE (bU<|aa (v7 ir<|aa (ab 8) ae) ae) (ap 7)<|aC (aV (v7 dW<|aa (v7 dW<|aa (u8 z5 (ab 8)<|ab 7)<|aa (ab 7) ae)<|aa (dC<|.int 3) ae) 9)<|kM)<|kL
def mj:v5:=aC (E4 (aG<|u8 E8 (ab 8)<|jp ae) (gK 1 [3] (bU<|aa (u8 bY (u8 aO (ab 3)<|dC<|.int 2)<|u8 aL (ab 2)<|dC<|.int 1) ae) (ap 0) oH (u8 aL (u8 aO (ab 1)<|dC<|.int 2)<|u8 lu (dC<|.int 7)<|ab 0) 8) bB)<|gf
def mn:v5:=aC (aV (NQ (ab 0) (oW<|u8 aL (ab 1)<|dC<|.int 1)<|oW<|u8 aL (u8 aL (ab 1)<|dC<|.int 1)<|ab 2) 8)<|mj
def mq:v5:=bt<|ab 4
def mv:v5:=aV (u8 aO (ab 5)<|u8 Fv (dC<|.int 10)<|dC<|.int 24) 5
def mw:v5:=aC (lE (bU<|aa (ab 6) ae) (ap 7)<|aC (kF<|ME cE (ab 4)<|aa (u8 bY (ab 5)<|u8 Fv (dC<|.int 10)<|dC<|.int 24) ae)<|mv)<|mq
def mz:v5:=aC (aV (u8 aO (ab 5)<|u8 aL (ab 2)<|dC<|.int 1) 5)<|mw
def mB:v5:=aC (aV (u8 bY (ab 5)<|u8 aL (ab 2)<|dC<|.int 1) 6)<|mz
def mC:v5:=aC (E4 (aG<|u8 E8 (u8 bY (ab 3)<|dC<|.int 2)<|dC<|.int 0) (aC (aV (u8 aO (ab 3)<|dC<|.int 2) 5)<|mB) bB)<|mn
def mD:v5:=aC (aV (jp ae) 4)<|mC
def sA:v5:=aC (aV (v7 bH<|aa (ab 0)<|aa (ab 1) ae) 3)<|mD
theorem pX{M L:w6}{R:DK}{cs:List Int}{c m:Nat}{r y1 j k l n t u:Option D}(g:aq (M++MO.lst []::L) c (cs.map D.int))(p:c≠M.length)(z:cs.length<=m)(U:m<=100)(h:∀xs:List Int,xs.length<=m->R (.ref M.length) (M++[.lst<|xs.map .int])):gf (EE M R) [r,y1,j,k,a9<|.ref M.length,l,n,t,a9<|.ref c,u] (M++MO.lst []::L):=by
 simp only[gf];walk_at"dl";refine⟨_,g,⟨by lia,by rw[w4];lia⟩,?_⟩;refine bh (λi S f=>∃(xs:List Int) (a b:Option D),xs.length=i/\(∃d,f=M++MO.lst (xs.map .int)::d)/\aq f c (cs.map D.int)/\S=[r,y1,j,k,a9<|.ref M.length,l,n,a,a9<|.ref c,b]) ?_ ?_ ⟨[],_,_,rfl,⟨L,rfl⟩,g,rfl⟩;rintro S f ⟨xs,a,b,x,⟨d,rfl⟩,O,rfl⟩;rw[aX,w4,LP]at x;refine⟨trivial,?_⟩;simp only[kL];walk_at"dl";exact aZ.lst (h xs<|by lia) (x5 _) cJ<|xD xs;rintro i y S f s ⟨xs,a,b,x,⟨d,rfl⟩,O,rfl⟩ G q;obtain⟨hi,rfl⟩:=bO.mp s;rw[w4,LP]at hi;refine⟨trivial,?_⟩;walk_at"dl";have e:atI (cs.map D.int) (0+(i:Int))=a9 (.int cs[i]):=by rw[NX];exact au<|by rw[D8,A5 hi];rfl
 refine⟨_,O,?_⟩;rw[e];refine⟨_,_,rfl,⟨by lia,by lia⟩,λv=>⟨v,3,rfl,⟨by decide,by decide⟩,λo=>?_⟩⟩;simp only[kM];walk_at"dl";refine⟨⟨_,.inl cJ⟩,.inr ⟨by decide,by decide⟩,o,_,rfl,⟨by lia,by lia⟩,λw=>⟨xs.map .int,cJ,by rw[w4];exact av (by lia),E1.now<|q _ _ ⟨xs++[o*1000003+w],_,_,by simp[x],⟨d,?_⟩,AU p O,rfl⟩⟩⟩;rw[kg];simp
theorem xU:C1 ig 10 sA:=by
 rintro ds M R ⟨n,ns,a,m,rfl,L,C,F,U,h⟩;simp only[sA];walk_at"dl";refine⟨n,ns,a,rfl,L,?_⟩;generalize oz ns a=c;simp only[mD,mC];walk_at"dl";refine⟨A8 _,by decide,⟨aJ,aJ⟩,?_⟩;have E:(0:Int)<(m:Int)+1:=by lia
 cases v8 (M++[MO.lst []]) x3 (.int<|c % 2) (.int 0) with
 |true=>refine dN ?_;simp only[mB,mz];walk_at"dl";have A:=ca (a:=c / 2) E;have B:=cg (a:=c / 2) E;refine⟨⟨by decide,by decide⟩,E,⟨E,by lia⟩,?_⟩;simp only[mw];walk_at"dl";refine⟨⟨by lia,by lia⟩,?_⟩;refine bh (λi S g=>∃(xs:List Int) (r:Int) (b:Option D),xs.length=i/\g=M++MO.lst (xs.map .int)::[]/\S=[a9<|.ref n,a9<|.int a,a9<|.int m,a9<|.int c,a9<|.ref M.length,a9<|.int r,a9<|.int<|c / 2 % ((m:Int)+1),b,b7,b7]) ?_ ?_ ⟨[],_,_,rfl,rfl,rfl⟩;rintro S g ⟨xs,r,b,f,rfl,rfl⟩;rw[aX]at f;refine⟨trivial,?_⟩;simp only[mq];walk_at"dl";exact aZ.lst (h xs<|by lia) (x5 _) cJ<|xD xs;rintro i y S g O ⟨xs,r,b,f,rfl,rfl⟩ G t;obtain⟨hi,rfl⟩:=bO.mp O;refine⟨trivial,?_⟩;simp only[mv];walk_at"dl";refine⟨⟨_,.inl cJ⟩,⟨by decide,by decide,by decide⟩,by decide,xs.map .int,cJ,by rw[w4];exact av (by lia),⟨by decide,by decide,by decide⟩,⟨by decide,by decide⟩,E1.now<|t _ _ ⟨xs++[r % 10 ^ Int.toNat 24],_,_,by simp[f],?_,rfl⟩⟩;rw[kg];simp
 |false =>
  refine dg ?_;simp only[mn];walk_at"dl";obtain⟨cs,e⟩:=Em (ns:=ns) (lo:=a9<|(a:Int)+1) (hi:=a9<|(a:Int)+1+(m:Int));have p:cs.length<=m:=by have:=EZ (xs:=ns.map D.int) (s:=a) (m:=m);rw[e,w4]at this;exact this
  refine⟨_,L.more _,?_⟩;rw[e,Ix];simp only[mj];walk_at"dl";have q:(M++[MO.lst []]).length=M.length+1:=by simp
  rw[q];have z:aq (M++MO.lst []::[MO.lst<|cs.map D.int]) (M.length+1) (cs.map D.int):=.inl lP;obtain⟨o,l⟩:=qP z λx f=>by obtain⟨i,_,rfl⟩:=A0.mp f;exact aJ
  refine⟨A8 _,o,?_⟩;rw[l];cases hs:(cs.map D.int).isEmpty with
  |true =>
   have A:=ca (a:=c / 2) E;have B:=cg (a:=c / 2) E;refine dN ⟨⟨by decide,by decide⟩,E,⟨by lia,by lia⟩,?_⟩;refine bi (λd=>match d with|.int k=>.int (c / 2+7*k)|_=>.non) (λS=>∃b,S=[b,a9<|.int c]) trivial _ _ _ (λk w S u=>?_) ⟨_,rfl⟩ ?_ ?_;obtain⟨b,rfl⟩:=u;obtain⟨i,hi⟩:=MB w;obtain⟨_,rfl⟩:=bO.mp hi;refine⟨[a9<|.int<|0+(i:Int),a9<|.int c],⟨_,rfl⟩,λY v=>?_⟩;walk_at"dl";exact⟨⟨by decide,by decide⟩,.inl ⟨by decide,by decide⟩,v⟩;rw[D3,aX];exact ao (by lia);obtain⟨ds,j,Z⟩:∃ds:List Int,(ip 0 (c / 2 % ((m:Int)+1)).toNat).map (λd=>match d with|.int k=>D.int (c / 2+7*k)|_=>.non)=ds.map D.int/\ds.length<=m:=by refine⟨(C9 (c / 2 % ((m:Int)+1)).toNat).map λ(i:Nat)=>c / 2+7*(0+(i:Int)),?_,by rw[w4,NH];lia⟩;unfold ip;rw[E2,E2];rfl
   rw[G4,j,Ix,Ix];refine pX (cs:=ds) ?_ ?_ Z U h;exact .inl (by simp);simp
  |false=>refine dg ?_;rw[Ix];exact pX (.inl lP) (by lia) p U h
theorem yt(T:Tops P w K mg base):x6 P w K mg base 2 "_law_numbers" ny ig:=x6.byD (N:=["_law_script","_law_start","_law_most","_law_head","_law_found","_law_rest","_law_many","_law_k","_law_cells","_law_one"]) T.b T.f_numbers (by walk_at"sc") vT (by have:=pW T;have:=xo T;walk_at"dv") xU
def jY:A7:=λds M R=>∃(c:Int) (m:Nat),ds=[.int c,.int m]/\1<=m/\m<=4/\∀xs:List c5,xs.length=m->(∀x∈xs,x.length<=8)->xs.Nodup->R (.ref M.length) (M++[.lst<|xs.map .str])
theorem Bc:cD jY vB:=by rintro ds M R ⟨c,m,rfl,_⟩;rfl
theorem En(u:Option Int)(n:Nat):Pb b7 u 1 n=Pb (a9 ((0:Nat):Int)) u 1 n:=by unfold Pb;simp only[show (1:Int) > 0 by decide,u4];congr 1
theorem KF(l:Option Int)(n:Nat):Pb l b7 1 n=Pb l (a9 ((n:Nat):Int)) 1 n:=by unfold Pb;simp only[show (1:Int) > 0 by decide,u4];congr 1;rw[t6<|by lia];lia
theorem xg(x:c5)(b:Nat):(Md x b7<|a9 (b:Int)).cps.toList=x.cps.toList.take b:=by have e:=tE x (a:=0) (b:=b)<|A8 _;rw[ff]at e ⊢;rw[En];rw[e];simp
theorem yo(x:c5)(a:Nat)(h:a<=x.length):(Md x (a9 (a:Int)) b7).cps.toList=x.cps.toList.drop a:=by have e:=tE x (a:=a) (b:=x.length) h;rw[ff]at e ⊢;rw[KF];rw[e];rw[O6];rw[Mb,cI];lia
theorem xP(h0:0<=i)(h1:i<26):∃c:Nat,atI (v6 "abcdefghijklmnopqrstuvwxyz").cps.toList i=a9 c/\(97<=c/\c<=122)/\c=97+i.toNat:=by
 have g:(v6 "abcdefghijklmnopqrstuvwxyz").cps.toList=(C9 26).map (· + 97):=by decide +kernel
 obtain⟨j,L,e,C⟩:=Cl (xs:=(v6 "abcdefghijklmnopqrstuvwxyz").cps.toList) h0 (by rw[g];simpa using h1);refine⟨_,e,?_⟩;have l:(v6 "abcdefghijklmnopqrstuvwxyz").cps.toList[j]?=a9 (j+97):=by rw[g,w4,NH]at L;rw[g,D8,List.getElem?_range L];rfl
 rw[A5 L]at l;have Q:=D2 l;have h:j<26:=by rw[g,w4,NH]at L;exact L
 rw[Q];lia
theorem BM{at_ s o:Nat}{a:List c5}(l:a.length<=4)(h:∀(j:Nat) z,a[j]?=a9 z->z.length=s/\z.cps.toList[at_]?=a9 (97+(o+j) % 26)):a.Nodup:=by rw[Oc,Qe];intro i j hi L b e;have h1:=(h i _<|A5 hi).2;have h2:=(h j _<|A5 L).2;rw[e,h2]at h1;have:=D2 h1;lia
theorem Fh(h:97<=ch/\ch<=122):∃(i:Nat) (aH:List Nat),Pa (v6 "abcdefghijklmnopqrstuvwxyz") ⟨#[ch]⟩ 0 (v6 "abcdefghijklmnopqrstuvwxyz").length 1=i::aH:=by
 have f:=StrLaws.found_one (v6 "abcdefghijklmnopqrstuvwxyz") ch;have g:(v6 "abcdefghijklmnopqrstuvwxyz").cps.toList=(C9 26).map (· + 97):=by decide +kernel
 have d:ch∈(v6 "abcdefghijklmnopqrstuvwxyz").cps.toList:=by rw[g];exact A0.mpr ⟨ch-97,K0.mpr (by lia),by lia⟩
 rw[dT_ d]at f;cases e:Pa (v6 "abcdefghijklmnopqrstuvwxyz") ⟨#[ch]⟩ 0 (v6 "abcdefghijklmnopqrstuvwxyz").length 1 with
 |nil=>rw[e]at f;cases f
 |cons i r=>exact⟨i,r,rfl⟩
def kb:v5:=bt<|v7 kh<|aa (ab 8) ae
def sC:v5:=aC (E4 (LD (aG<|u8 Nl (ab 1)<|dC<|.int 1)<|aG<|u8 E8 (u8 bY (ab 0)<|dC<|.int 3)<|dC<|.int 1) (LC (u8 aL (u8 z5 (ab 8)<|dC<|.int 0)<|dC<|.str "b")<|ES (ab 8)<|dC<|.int 1) bB)<|kb
def sD:v5:=aC (gK 1 [5,4,2,7] (bU<|aa (ab 1) ae) (ap 0) oH (u8 aL (u8 aL (NQ (ab 1) kE<|oW<|ab 2)<|u8 z5 (ab 3)<|u8 bY (u8 aL (ab 4)<|ab 0)<|dC<|.int 26)<|NQ (ab 1) (oW<|u8 aL (ab 2)<|dC<|.int 1) kE) 8)<|sC
def sE:v5:=aC (aV (OI ng (ab 2)<|aa (u8 z5 (ab 5)<|ab 4) ae) 7)<|sD
def sF:v5:=aV (u8 aO (ab 0)<|dC<|.int 26) 0
def sG:v5:=aC (lE (bU<|aa (ab 3) ae) (ap 6)<|aC (aV (u8 aL (ab 5)<|u8 z5 (ab 2)<|u8 bY (ab 0)<|dC<|.int 26) 5)<|sF)<|sE
def sH:v5:=aC (aV (dC<|.str "") 5)<|sG
def sI:v5:=aC (aV (u8 aO (ab 0)<|dC<|.int 49) 0)<|sH
def sJ:v5:=aC (aV (u8 bY (u8 aO (ab 0)<|dC<|.int 7)<|ab 3) 4)<|sI
def sK:v5:=aC (aV (u8 aL (dC<|.int 1)<|u8 bY (ab 0)<|dC<|.int 7) 3)<|sJ
def zx:v5:=aC (aV (dC<|.str "abcdefghijklmnopqrstuvwxyz") 2)<|sK
theorem qQ{M L:w6}{R:DK}{m:Nat}{xs:List c5}{r y1 j k y d n t:Option D}(e:m<=4)(l:xs.length=m)(c:∀x∈xs,x.length<=8)(p:xs.Nodup)(h:∀xs:List c5,xs.length=m->(∀x∈xs,x.length<=8)->xs.Nodup->R (.ref M.length) (M++[.lst<|xs.map .str])):kb (EE M R) [r,y1,j,k,y,d,n,t,a9<|.ref M.length] (M++MO.lst (xs.map .str)::L):=by simp only[kb];walk_at"dl";refine⟨xs.map .str,.inl cJ,(yh<|by lia).g,λys O _=>?_⟩;obtain⟨s,rfl,b⟩:=Ay O;rw[Ix];exact aZ.lst (h s (by rw[b.length_eq,l]) (λx a=>c x<|b.mem_iff.mp a)<|b.nodup_iff.mpr p) (by simp) (by simp)<|CM s
theorem Cv:C1 jY 9 zx:=by
 rintro ds M R ⟨c,m,rfl,m1,P,h⟩;have o:(v6 "abcdefghijklmnopqrstuvwxyz").length<=sizeLine:=by decide +kernel
 have s0:=ca (a:=c) (b:=7) (by decide);have s1:=cg (a:=c) (b:=7) (by decide);simp only[zx,sK,sJ];walk_at"dl";obtain⟨s,hs⟩:∃n:Nat,(n:Int)=1+c % 7:=⟨(1+c % 7).toNat,by lia⟩
 rw[<-hs];have z1:1<=s:=by lia
 have z7:s<=7:=by lia
 have a0:=ca (a:=c / 7) (b:=s) (by lia);have T:=cg (a:=c / 7) (b:=s) (by lia);obtain⟨at_,ha⟩:∃n:Nat,(n:Int)=c / 7 % (s:Int):=⟨(c / 7 % (s:Int)).toNat,by lia⟩
 refine⟨by decide,⟨by decide,by decide⟩,by lia,?_⟩;rw[<-ha]at T ⊢;simp only[sI,sH,sG];walk_at"dl";refine⟨⟨by decide,by decide⟩,⟨by lia,by lia⟩,?_⟩;refine bh (λi S E=>∃(x:c5) (r:Int) (b:Option D),E=M/\x.length=i/\(∀q∈x.cps.toList,97<=q/\q<=122)/\S=[a9<|.int r,a9<|.int m,a9<|.str<|v6 "abcdefghijklmnopqrstuvwxyz",a9<|.int s,a9<|.int at_,a9<|.str x,b,b7,b7]) ?_ ?_ ⟨v6 "",_,_,rfl,by decide +kernel,(λq v=>by rw[show (v6 "").cps.toList=[] by decide +kernel]at v;cases v),rfl⟩;rintro S E ⟨base,r,b,rfl,f,v,rfl⟩;rw[aX,LP]at f;refine⟨trivial,?_⟩;have ag:=cI (a:=base);have w:at_<base.cps.toList.length:=by lia
 have U:atI base.cps.toList (at_:Int)=a9 base.cps.toList[at_]:=au<|A5 w;have A:=v _<|MU w;simp only[sE];walk_at"dl";refine⟨ao (by lia),?_⟩;rw[U];generalize base.cps.toList[at_]=ch at A;obtain⟨H,t,ho⟩:=Fh A;refine⟨H,t,ho,?_⟩;simp only[sD];walk_at"dl";refine⟨⟨by lia,by lia⟩,?_⟩;have p:(Md base b7<|a9 (at_:Int)).length=at_:=by rw[cI,xg,LO];lia
 have C:(Md base (a9<|(at_:Int)+1) b7).length=s-(at_+1):=by have Q:=yo base (at_+1) (by lia);rw[show ((at_+1:Nat):Int)=(at_:Int)+1 by lia]at Q;rw[cI,Q,Mb];lia
 refine ib (λys acc S F=>∃(d:List c5) (a:Option D),acc=d.map .str/\(∀(j:Nat) z,d[j]?=a9 z->z.length=s/\z.cps.toList[at_]?=a9 (97+(H+j) % 26))/\d.length+ys.length=m/\ys=(ip 0 m).drop d.length/\F=E/\S=[a,a9<|.str base,a9<|.int at_,a9<|.str<|v6 "abcdefghijklmnopqrstuvwxyz",a9<|.int H]) ?_ ?_ _ _ _ _ ⟨[],_,rfl,(λj z o=>by simp at o),by rw[aX,LP];simp,by rw[LP];rfl,rfl,rfl⟩;rintro acc S F ⟨d,a,rfl,l,hl,_,rfl,rfl⟩;rw[D3,Nat.add_zero]at hl;refine⟨trivial,?_⟩;have z7':∀z∈d,z.length=s:=λz o=>by obtain⟨j,L⟩:=MB o;exact(l j z L).1
 have z8:∀z∈d,z.length<=8:=λz o=>by have:=z7' z o;lia
 have znd:d.Nodup:=BM (by lia) l;simp only[sC];walk_at"dl";by_cases Y:(1:Int)<m;rw[dT_ Y];refine dN ⟨by decide,⟨aJ,aJ⟩,?_⟩;cases v8 (F++[MO.lst<|d.map .str]) x3 (.int<|r % 3) (.int 1) with
 |true =>
  match d,hl,z7',z8,znd with
  |z0::z1::zr,hl,z7',z8,znd =>
   have l0:=z7' z0 (by simp);refine dN ⟨_,ad,?_⟩;rw[D5,Oi];refine⟨?_,_,1,af,?_,?_⟩;rw[show (v6 "b").length=1 by decide +kernel];exact ao (by lia);rw[D7,w4,D7];unfold M9;rw[t5<|by decide];simp;lia;rw[kg,D5,QC,QD];have lb:(z0++v6 "b").length=s+1:=by rw[bx,show (v6 "b").length=1 by decide +kernel,l0]
   refine qQ (xs:=z0::(z0++v6 "b")::zr) P (by simpa using hl) (λx f=>?_) ?_ h;rcases C3.mp f with rfl|f;lia;rcases C3.mp f with rfl|f;lia;exact z8 x (by simp[f]);rw[Ma,Ma]at znd ⊢;refine⟨λf=>?_,λf=>?_,znd.2.2⟩;rcases C3.mp f with e|f;rw[<-e]at lb;lia;exact znd.1<|C6 _ f;have:=z7' _<|C6 _<|C6 _ f;lia
  | [z0],hl,_,_,_=>exact t7 hl<|by simp only[G5];lia
  | [],hl,_,_,_=>exact t7 hl<|by simp only[D3];lia
 |false=>exact dg<|qQ P hl z8 znd h
 rw[dF_ Y];exact dg<|qQ P hl z8 znd h;rintro y ys acc S F ⟨d,a,rfl,l,hl,O,rfl,rfl⟩ K Z;have B:d.length<(ip 0 m).length:=by rw[D7]at hl;rw[aX];lia
 rw[Qf B]at O;obtain⟨rfl,rfl⟩:=PJ O;have W:(ip 0 m)[d.length]=.int (d.length:Int):=by have:=(bO (lo:=0) (n:=m) (i:=d.length) (x:=(ip 0 m)[d.length])).mp<|A5 B;rw[this.2];congr 1;lia
 rw[W];refine⟨trivial,?_⟩;rw[D7]at hl;walk_at"dl";obtain⟨u,I,_,V⟩:=xP (i:=((H:Int)+(d.length:Int)) % 26) (ca<|by decide) (cg<|by decide);refine⟨ao (by lia),by decide,o,?_⟩;rw[I];refine⟨by rw[fq,p];exact ao (by lia),ao (by lia),by rw[bx,fq,p,C];exact ao (by lia),by rw[w4];exact av (by lia),Z _ _ _ ⟨d++[Md base b7 (a9 (at_:Int))++⟨#[u]⟩++Md base (a9<|(at_:Int)+1) b7],_,by simp,λj z k=>?_,by rw[B6,G5];lia,by rw[B6,G5],rfl,rfl⟩⟩;by_cases L:j<d.length;rw[LR L]at k;exact l j z k;obtain⟨rfl,rfl⟩:j=d.length/\z=Md base b7 (a9 (at_:Int))++⟨#[u]⟩++Md base (a9<|(at_:Int)+1) b7:=by
  have N:=(C2.mp k).1;rw[B6,G5]at N;obtain rfl:j=d.length:=by lia
  rw[Mr<|x5 _,NC]at k;exact⟨rfl,(D2 k).symm⟩
 refine⟨by rw[bx,bx,fq,p,C];lia,?_⟩;have st:=xg base at_;have lt:(base.cps.toList.take at_).length=at_:=by rw[LO];lia
 rw[rN,rN,st,Ix,Mr (by lia),lt,NC];show a9 u=_;rw[V];congr 2;rintro i y S E O ⟨x,r,b,rfl,f,v,rfl⟩ G X;obtain⟨hi,rfl⟩:=bO.mp O;refine⟨trivial,?_⟩;simp only[sF];walk_at"dl";obtain⟨u,I,J⟩:=xP (i:=r % 26) (ca<|by decide) (cg<|by decide);refine⟨by decide,o,?_⟩;rw[I];refine⟨by rw[fq,f];exact ao (by lia),⟨by decide,by decide⟩,E1.now<|X _ _ ⟨x++⟨#[u]⟩,_,_,rfl,by rw[bx,fq,f],λq g=>?_,rfl⟩⟩;rw[rN]at g;rcases Fn.mp g with g|g;exact v q g;have:q=u:=by simpa using g
 rw[this];exact J.1
theorem Dr(T:Tops P w K mg base):x6 P w K mg base 1 "_law_names" vB jY:=x6.byD (N:=["_law_number","_law_many","_law_letters","_law_size","_law_at","_law_base","_law_j","_law_turned","_law_names_here"]) T.b T.f_names (by walk_at"sc") Bc (by walk_at"dv") Cv
def lR:A7:=λds M R=>∃(c:Int),ds=[.int c]/\∀ps a,HouseF ps a->R (aA ps a) M
theorem Bf:cD lR vD:=by rintro ds M R ⟨c,rfl,_⟩;rfl
theorem Eo:G8 4 (aA ps rs):=by refine .tup<|.cons (.tup<|lT.of λd h=>?_)<|.cons (.tup<|lT.of λd h=>?_) .nil;obtain⟨p,_,rfl⟩:=A0.mp h;exact .tup<|.cons (.str _)<|.cons (.int _) .nil;obtain⟨p,_,rfl⟩:=A0.mp h;refine .tup<|.cons (.str _)<|.cons (.tup<|lT.of λd h=>?_) .nil;obtain⟨q,_,rfl⟩:=A0.mp h;exact .str _
theorem BJ{a b c d:Int}{k:Nat}(h:k<4)(f:rQ 0 a)(e:rQ 0 b)(g:rQ 0 c)(i:rQ 0 d):∃z:Int,atI [D.int a,.int b,.int c,.int d] (0+(k:Int))=a9 (.int z)/\rQ 0 z:=by
 rw[NX]
 match k,h with
 | 0,_=>exact⟨a,au (j:=0) rfl,f⟩
 | 1,_=>exact⟨b,au (j:=1) rfl,e⟩
 | 2,_=>exact⟨c,au (j:=2) rfl,g⟩
 | 3,_=>exact⟨d,au (j:=3) rfl,i⟩
def pL:v5:=bt<|dO<|aa (v7 fV<|aa (ab 4) ae)<|aa (v7 fV<|aa (F6 1 [9,5] (bU<|aa (v7 ir<|aa (ab 5) ae) ae) (ap 0) oH<|dO<|aa (u8 z5 (ab 1)<|ab 0)<|aa (u8 z5 (ab 2)<|ab 0) ae) ae) ae
def gR:v5:=aC (aV (v7 jY<|aa (u8 aO (ab 1)<|dC<|.int 262144)<|aa (v7 ir<|aa (ab 5) ae) ae) 9)<|pL
def mI:v5:=kF<|ME cE (ab 5)<|aa (v7 fV<|aa (ab 8) ae) ae
def sO:v5:=aC (E4 (aG<|u8 E8 (ab 8)<|jp ae) (aV (jp<|aa (u8 z5 (ab 3)<|u8 bY (ab 7)<|ab 2) ae) 8) bB)<|mI
def sP:v5:=aC (gK 1 [3,7] (bU<|aa (ab 2) ae) (ap 0) (aG<|u8 E8 (u8 bY (u8 aO (ab 2)<|u8 Jm (dC<|.int 1)<|ab 0)<|dC<|.int 2)<|dC<|.int 1) (u8 z5 (ab 1)<|ab 0) 8)<|sO
def sQ:v5:=aC (lE (bU<|aa (u8 aL (dC<|.int 1)<|u8 bY (ab 1)<|dC<|.int 4) ae) (ap 6)<|aC (aV (u8 bY (u8 aO (ab 1)<|u8 z5 (jp<|aa (dC<|.int 4)<|aa (dC<|.int 64)<|aa (dC<|.int 1024)<|aa (dC<|.int 16384) ae)<|ab 6)<|dC<|.int 16) 7)<|sP)<|gR
def mJ:v5:=aC (aV (jp ae) 5)<|sQ
def sR:v5:=aC (aV (v7 kH<|aa (u8 aO (ab 0)<|dC<|.int 5)<|aa (dC<|.int 2) ae) 1)<|mJ
def sT:v5:=aC (gK 1 [3,1] (bU<|aa (ab 2) ae) (ap 0) oH (dO<|aa (u8 z5 (ab 1)<|ab 0)<|aa (u8 aL (dC<|.int 1)<|u8 bY (u8 aO (ab 2)<|u8 z5 (jp<|aa (dC<|.int 4)<|aa (dC<|.int 12)<|aa (dC<|.int 36)<|aa (dC<|.int 108) ae)<|ab 0)<|dC<|.int 3) ae) 4)<|sR
def sU:v5:=aC (aV (v7 jY<|aa (u8 aO (ab 1)<|dC<|.int 324)<|aa (ab 2) ae) 3)<|sT
def sV:v5:=aC (aV (u8 aL (dC<|.int 1)<|u8 bY (ab 1)<|dC<|.int 4) 2)<|sU
def zT:v5:=aC (aV (v7 kH<|aa (ab 0)<|aa (dC<|.int 1) ae) 1)<|sV
theorem Ep{M B:w6}{R:DK}{j:Nat}{ps:List (c5×Int)}{s:List (List c5)}{ns:List c5}{u:Int}{J:Nat}{T V W X Y Z:Option D}(L:M <+: B)(G:aq B J (ps.map iO))(n:aq B j (s.map λm=>.tup<|m.map .str))(I:∀m∈s,m.Sublist ns/\1<=m.length)(n4:ns.length<=4)(U:1<=s.length)(P:s.length<=4)(C:∀rs,1<=rs.length/\rs.length<=4->(rs.map (·.1)).Nodup->(∀r∈rs,r.2.Sublist ns/\1<=r.2.length)->(∀r∈rs,r.1.length<=8)->HouseF ps rs)(h:∀ps rs,HouseF ps rs->R (aA ps rs) M):gR (EE M R) [T,a9<|.int u,V,W,a9<|.ref J,a9<|.ref j,X,Y,Z,b7] B:=by
 simp only[gR];walk_at"dl";refine⟨⟨by decide,by decide⟩,_,n,?_⟩;rw[w4];refine⟨_,s.length,rfl,U,P,λxs xl Q x=>?_⟩;have p:M <+: B++[MO.lst<|xs.map .str]:=L.trans bf;have c:=G.more [MO.lst<|xs.map D.str];have l:=n.more [MO.lst<|xs.map D.str];have f:aq (B++[MO.lst<|xs.map .str]) B.length (xs.map .str):=ad;generalize B++[MO.lst<|xs.map .str]=H at p c l f;generalize B.length=N at f;simp only[pL];walk_at"dl";refine⟨_,c,_,l,⟨by lia,by rw[w4];lia⟩,?_⟩;rw[w4,LP];refine ib (λys acc S e=>∃(rs:List (c5×List c5)) (a:Option D) (i:Nat),acc=rs.map eR/\rs.length=i/\(rs.map (·.1)=xs.take i/\∀r∈rs,r.2.Sublist ns/\1<=r.2.length)/\ys=(ip 0 s.length).drop i/\i<=s.length/\e=H/\S=[a,a9<|.ref N,a9<|.ref j]) ?_ ?_ _ _ _ _ ⟨[],_,0,rfl,rfl,⟨rfl,λ_ z=>nomatch z⟩,by simp,A8 _,rfl,rfl⟩;rintro acc S e ⟨rs,a,i,rfl,o,⟨g,k⟩,d,F,rfl,rfl⟩;have hi:i=s.length:=by have:=u5 LY d;rw[D3,Mb,aX]at this;lia
 refine⟨trivial,_,ad,ao (by lia),aZ.keep (h ps rs<|C rs ⟨by lia,by lia⟩ (by rw[g];exact x.sublist<|P6 _ _) k λr E=>Q r.1<|List.take_subset _ _<|by rw[<-g];exact K1 E) (bK 4 _ Eo)<|p.trans bf⟩;rintro y ys acc S e ⟨rs,a,i,rfl,o,⟨g,k⟩,d,F,rfl,rfl⟩ K A;have hi:i<s.length:=by have:=u5 LY d;rw[D7,Mb,aX]at this;lia
 have O:(ip 0 s.length)[i]?=a9 y/\ys=(ip 0 s.length).drop (i+1):=by
  have t:i<(ip 0 s.length).length:=by rw[aX];exact hi
  rw[Qf t]at d;injection d with h1 h2;exact⟨by rw[A5 t,h1],h2⟩
 obtain⟨_,rfl⟩:=bO.mp O.1;refine⟨trivial,?_⟩;walk_at"dl";have w:atI (xs.map D.str) (0+(i:Int))=a9 (.str<|xs[i]'(by lia)):=by rw[NX];exact au<|by rw[D8,A5<|by lia];rfl
 have v:atI (s.map λm=>D.tup<|m.map .str) (0+(i:Int))=a9 (.tup<|(s[i]).map .str):=by rw[NX];exact au<|by rw[D8,A5 hi];rfl
 refine⟨_,f,?_⟩;rw[w];refine⟨_,l,?_⟩;rw[v];refine⟨ao (by lia),by rw[w4];exact av (by lia),A _ _ _ ⟨rs++[(xs[i]'(by lia),s[i])],_,i+1,by simp[eR],by simp[o],⟨by rw[J3,g,MJ,A5<|by lia];rfl,λq b=>?_⟩,O.2,hi,rfl,rfl⟩⟩;rcases Fn.mp b with b|b;exact k q b;rw[F0.mp b];exact I _<|MU _
theorem HH{M B:w6}{R:DK}{many:Nat}{ps:List (c5×Int)}{ns:List c5}{g:Int}{E J:Nat}{y0:Option D}(pB:M <+: B)(l3:aq B E (ns.map .str))(l4:aq B J (ps.map iO))(nl:ns.length=many)(n1:1<=many)(n4:many<=4)(hf:∀rs,1<=rs.length/\rs.length<=4->(rs.map (·.1)).Nodup->(∀r∈rs,r.2.Sublist ns/\1<=r.2.length)->(∀r∈rs,r.1.length<=8)->HouseF ps rs)(h:∀ps rs,HouseF ps rs->R (aA ps rs) M):mJ (EE M R) [y0,a9<|.int g,a9<|.int many,a9<|.ref E,a9<|.ref J,b7,b7,b7,b7,b7] B:=by
 have b3:=tZ l3;have b4:=tZ l4;simp only[mJ,sQ];walk_at"dl";have s0:=ca (a:=g) (b:=4) (by decide);have s1:=cg (a:=g) (b:=4) (by decide);refine⟨A8 _,by decide,⟨by lia,by lia⟩,?_⟩;obtain⟨rm,ag⟩:∃n:Nat,(n:Int)=1+g % 4:=⟨(1+g % 4).toNat,by lia⟩
 rw[<-ag,LP];refine bh (λi S f=>∃(A:List (List c5)) (a b d:Option D),A.length=i/\(∀m∈A,m.Sublist ns/\1<=m.length)/\M <+: f/\aq f E (ns.map .str)/\aq f J (ps.map iO)/\f[B.length]?=a9 (.lst<|A.map λm=>.tup<|m.map .str)/\S=[y0,a9<|.int g,a9<|.int many,a9<|.ref E,a9<|.ref J,a9<|.ref B.length,a,b,d,b7]) ?_ ?_ ⟨[],_,_,_,rfl,(λ_ z=>nomatch z),pB.trans bf,l3.more _,l4.more _,af,rfl⟩;rintro S f ⟨A,a,b,d,ml,mm,pM,k3,k4,X,rfl⟩;rw[aX]at ml;exact⟨trivial,Ep pM k4 (.inl X) mm (by lia) (by lia) (by lia) hf h⟩;rintro i y S f hy ⟨A,a,b,d,ml,mm,pM,k3,k4,X,rfl⟩ G hG;obtain⟨hi,rfl⟩:=bO.mp hy;have bM:=bg X;refine⟨trivial,?_⟩;walk_at"dl";obtain⟨z,ez,hz⟩:=BJ (a:=4) (b:=64) (c:=1024) (d:=16384) (k:=i) (by lia) ⟨by decide,by decide⟩ ⟨by decide,by decide⟩ ⟨by decide,by decide⟩ ⟨by decide,by decide⟩;refine⟨ao (by lia),_,ad,?_⟩;rw[ez];refine⟨hz,by decide,?_⟩;have b0:=ca (a:=g / z) (b:=16) (by decide);generalize g / z % 16=s at b0;have V:M <+: f++[MO.lst [D.int 4,D.int 64,D.int 1024,D.int 16384]]:=pM.trans bf;have u:=k3.more [MO.lst [D.int 4,D.int 64,D.int 1024,D.int 16384]];have U:=k4.more [MO.lst [D.int 4,D.int 64,D.int 1024,D.int 16384]];have I:=ac (a:=MO.lst [D.int 4,D.int 64,D.int 1024,D.int 16384]) X;generalize f++[MO.lst [D.int 4,D.int 64,D.int 1024,D.int 16384]]=M1 at V u U I;simp only[sP];walk_at"dl";refine⟨⟨by lia,by lia⟩,?_⟩;have H:∀(xs:List c5) (W:Nat) (M2:w6),xs.Sublist ns/\1<=xs.length->M <+: M2->aq M2 E (ns.map .str)->aq M2 J (ps.map iO)->M2[B.length]?=a9 (.lst<|A.map λm=>.tup<|m.map .str)->aq M2 W (xs.map .str) -> mI ⟨E1 (B++[MO.lst []]) G,aZ M R,λS f=>gR (EE M R) S f,E1 (B++[MO.lst []]) G⟩ [y0,a9<|.int g,a9<|.int many,a9<|.ref E,a9<|.ref J,a9<|.ref B.length,a9<|.int<|0+(i:Int),a9<|.int s,a9<|.ref W,b7] M2:=λxs W M2 x4 p2 ai aj l ak=>by simp only[mI];walk_at"dl";refine⟨⟨_,.inl l⟩,_,ak,_,l,by rw[w4];exact av (by lia),E1.now<|hG _ _ ⟨A++[xs],_,_,_,by simp[ml],λm O=>?_,?_,AU (by lia) ai,AU (by lia) aj,?_,rfl⟩⟩;rcases Fn.mp O with O|O;exact mm m O;rw[F0.mp O];exact x4;obtain⟨L,rfl⟩:=pB;obtain⟨L2,rfl⟩:=p2;rw[Rp _ _<|by simp];exact Mc _ _;rw[ci l];simp
 rw[LP];refine ib (λys acc S M2=>∃(xs:List c5) (a:Option D) (Y:Nat),acc=xs.map .str/\xs.Sublist (ns.take Y)/\ys=(ip 0 many).drop Y/\Y<=many/\M2=M1/\S=[a,a9<|.ref E,a9<|.int s]) ?_ ?_ _ _ _ _ ⟨[],_,0,rfl,List.nil_sublist _,rfl,A8 _,rfl,rfl⟩;rintro acc S M2 ⟨xs,a2,Y,rfl,T,_,_,rfl,rfl⟩;have T:=T.trans<|P6 _ _;refine⟨trivial,?_⟩;simp only[sO];walk_at"dl";have P:=u.more [MO.lst<|xs.map D.str];have w:=U.more [MO.lst<|xs.map D.str];have o:=ac (a:=MO.lst<|xs.map D.str) I;have C:M <+: M2++[MO.lst<|xs.map D.str]:=V.trans bf;have Z:aq (M2++[MO.lst<|xs.map D.str]) M2.length (xs.map .str):=ad;generalize M2++[MO.lst<|xs.map D.str]=M3 at P w o C Z;generalize M2.length=W at Z;obtain⟨al,F⟩:=qP Z λx q=>by obtain⟨i,_,rfl⟩:=A0.mp q;exact aP
 refine⟨A8 _,al,?_⟩;rw[F];have v:=P.more [MO.lst []];cases q:(xs.map D.str).isEmpty with
 |true =>
  have Q:∃x:c5,x∈ns/\atI (ns.map D.str) (s % (many:Int))=a9 (.str x):=by obtain⟨d,hd,e⟩:=fY (xs:=ns.map D.str) (i:=s) (by rw[w4];lia);rw[w4,nl]at e;obtain⟨x,q,rfl⟩:=A0.mp hd;exact⟨x,q,e⟩
  obtain⟨x,q,Q⟩:=Q;refine dN ⟨by lia,_,v,?_⟩;rw[Q];refine⟨ao (by lia),H [x] _ _ ⟨List.singleton_sublist.mpr q,x5 _⟩ ((C.trans bf).trans bf) (v.more _) ((w.more _).more _) (ac<|ac o) ad⟩
 |false=>exact dg<|H xs W _ ⟨T,by cases xs with|nil=>cases q|cons _ _=>exact Nat.succ_le_succ<|A8 _⟩ (C.trans bf) v (w.more _) (ac o)<|Z.more _
 rintro y' ys acc S M2 ⟨xs,a2,j,rfl,T,p,jm,rfl,rfl⟩ K hK;have hj:j<many:=by have:=u5 LY p;rw[D7,Mb,aX]at this;lia
 have t:(ip 0 many)[j]?=a9 y'/\ys=(ip 0 many).drop (j+1):=by
  have N:j<(ip 0 many).length:=by rw[aX];exact hj
  rw[Qf N]at p;injection p with h1 h2;exact⟨by rw[A5 N,h1],h2⟩
 obtain⟨_,rfl⟩:=bO.mp t.1;have et:ns.take (j+1)=ns.take j++[ns[j]'(by lia)]:=by rw[MJ,A5<|by lia];rfl
 have xl:xs.length<=4:=by have:=T.length_le;rw[LO]at this;lia
 refine⟨trivial,?_⟩;walk_at"dl";have Q:atI (ns.map D.str) (0+(j:Int))=a9 (.str<|ns[j]'(by lia)):=by rw[NX];exact au<|by rw[D8,A5<|by lia];rfl
 have pw:rQ s (1*2 ^ (0+(j:Int)).toNat):=by
  rw[NX,LP];have:j=0\/j=1\/j=2\/j=3:=by lia
  rcases this with rfl|rfl|rfl|rfl<;>exact⟨by decide,by decide⟩
 refine⟨⟨by lia,by lia,by decide⟩,pw,by decide,⟨aJ,aJ⟩,?_⟩;split;refine⟨_,u,?_⟩;rw[Q];exact⟨by rw[w4];exact av (by lia),hK _ _ _ ⟨xs++[_],_,j+1,by simp;rfl,by rw[et];exact T.append<|P2 _,t.2,hj,rfl,rfl⟩⟩;exact hK _ _ _ ⟨xs,_,j+1,rfl,by rw[et];exact T.trans<|List.sublist_append_left _ _,t.2,hj,rfl,rfl⟩
theorem Cy:C1 lR 10 zT:=by
 rintro ds M R ⟨c,rfl,h⟩;simp only[zT];walk_at"dl";refine⟨c,1,rfl,⟨by decide,by decide⟩,λm=>?_⟩;simp only[sV];walk_at"dl";have W:=ca (a:=m) (b:=4) (by decide);have N:=cg (a:=m) (b:=4) (by decide);refine⟨by decide,?_⟩;obtain⟨many,v⟩:∃n:Nat,(n:Int)=1+m % 4:=⟨(1+m % 4).toNat,by lia⟩
 rw[<-v];simp only[sU];walk_at"dl";refine⟨⟨by decide,by decide⟩,_,many,rfl,by lia,by lia,λns X C o=>?_⟩;have l:aq (M++[MO.lst<|ns.map .str]) M.length (ns.map .str):=ad;have E:M <+: M++[MO.lst<|ns.map D.str]:=bf;generalize M++[MO.lst<|ns.map .str]=B at l E;generalize M.length=G at l;simp only[sT];walk_at"dl";refine⟨⟨by lia,by lia⟩,?_⟩;rw[LP];refine ib (λys acc S j=>∃(ps:List (c5×Int)) (a:Option D) (i:Nat),acc=ps.map iO/\ps.length=i/\ps.map (·.1)=ns.take i/\(∀p∈ps,(1<=p.2/\p.2<=3)/\p.1.length<=8)/\ys=(ip 0 many).drop i/\i<=many/\B <+: j/\S=[a,a9<|.ref G,a9<|.int m]) ?_ ?_ _ _ _ _ ⟨[],_,0,rfl,rfl,rfl,(λ_ z=>nomatch z),by simp,A8 _,List.prefix_refl _,rfl⟩;rintro acc S j ⟨ps,a,i,rfl,r,g,hp,f,F,pM,rfl⟩;have hi:i=many:=by have:=u5 LY f;rw[D3,Mb,aX]at this;lia
 refine⟨trivial,?_⟩;simp only[sR];walk_at"dl";refine⟨⟨by decide,by decide⟩,_,2,rfl,⟨by decide,by decide⟩,λJ=>?_⟩;exact HH ((E.trans pM).trans bf) ((bT pM l).more _) ad X (by lia) (by lia) (λL w I s H=>⟨⟨by lia,by lia⟩,λp e=>(hp p e).1,λp e=>(hp p e).2,w,by rw[g];exact o.sublist<|P6 _ _,I,λq e=>by rw[g,hi,<-X,MA];exact(s q e).1,H,λq e=>(s q e).2⟩) h;rintro y ys acc S j ⟨ps,a,i,rfl,r,g,hp,f,F,pM,rfl⟩ K A;have hi:i<many:=by have:=u5 LY f;rw[D7,Mb,aX]at this;lia
 have O:(ip 0 many)[i]?=a9 y/\ys=(ip 0 many).drop (i+1):=by
  have t:i<(ip 0 many).length:=by rw[aX];exact hi
  rw[Qf t]at f;injection f with h1 h2;exact⟨by rw[A5 t,h1],h2⟩
 obtain⟨_,rfl⟩:=bO.mp O.1;refine⟨trivial,?_⟩;walk_at"dl";have Q:atI (ns.map D.str) (0+(i:Int))=a9 (.str<|ns[i]'(by lia)):=by rw[NX];exact au<|by rw[D8,A5<|by lia];rfl
 obtain⟨z,u,x⟩:=BJ (a:=4) (b:=12) (c:=36) (d:=108) (k:=i) (by lia) ⟨by decide,by decide⟩ ⟨by decide,by decide⟩ ⟨by decide,by decide⟩ ⟨by decide,by decide⟩;refine⟨_,bT pM l,?_⟩;rw[Q];refine⟨ao (by lia),_,ad,?_⟩;rw[u];have Z:=ca (a:=m / z) (b:=3) (by decide);have P:=cg (a:=m / z) (b:=3) (by decide);refine⟨x,by decide,ao (by lia),by rw[w4];exact av (by lia),A _ _ _ ⟨ps++[(ns[i]'(by lia),1+m / z % 3)],_,i+1,by simp[iO],by simp[r],by rw[J3,g,MJ,A5<|by lia];rfl,λp e=>?_,O.2,hi,pM.trans bf,rfl⟩⟩;rcases Fn.mp e with e|e;exact hp p e;rw[F0.mp e];exact⟨⟨by dsimp only;lia,by dsimp only;lia⟩,C _<|MU _⟩
theorem Ds(T:Tops P w K mg base):x6 P w K mg base 3 "_law_house" vD lR:=x6.byD (N:=["_law_cell","_law_number","_law_many","_law_names_here","_law_people","_law_rooms","_law_k","_law_bits","_law_members","_law_called"]) T.b T.f_house (by walk_at"sc") Bf (by have:=AK T;have:=Dr T;walk_at"dv") Cy
def jZ:A7:=λds M R=>∃(ps:List (c5×Int)) (r:List D),ds=[.tup<|.tup (ps.map iO)::r]/\Rf ps/\R (.ref M.length) (M++[.lst<|aE ps])
theorem Bg:cD jZ vF:=by rintro ds M R ⟨ps,r,rfl,_⟩;rfl
def sW:v5:=bt<|ab 1
def sX:v5:=aC (lE (br<|u8 z5 (ab 0)<|dC<|.int 0) (nZ 2<|cq (ap 2)<|cq (ap 3) og)<|aV (u8 aL (ab 1)<|F6 1 [2] (bU<|aa (ab 3) ae) (ap 0) oH<|dO<|aa (ab 1)<|aa (ab 0) ae) 1)<|sW
def zU:v5:=aC (aV (jp ae) 1)<|sX
theorem Cz:C1 jZ 4 zU:=by
 rintro ds M R ⟨ps,r,rfl,⟨n,f⟩,h⟩;simp only[zU,sX];walk_at"dl";refine⟨A8 _,λ_=>?_⟩;have m:∀qs:List (c5×Int),(∀p∈qs,p∈ps)->qs.length<=4->(aE qs).length<=12:=λqs h1 h2=>by have:=qd (ps:=qs) λp hp=>f p<|h1 p hp;lia
 refine ia (λys S d=>∃qs s a b q L,ps=qs++s/\ys=s.map iO/\d=M++L/\M.length<=q/\d[q]?=a9 (.lst<|aE qs)/\S=[a9<|.tup<|.tup (ps.map iO)::r,a9<|.ref q,a,b]) ?_ ?_ _ _ _ ⟨[],ps,_,_,_,[.lst []],rfl,rfl,rfl,x5 _,af,rfl⟩;rintro S d ⟨qs,s,a,b,q,L,e,c,rfl,i,g,rfl⟩;have:s=[]:=by cases s<;>simp_all
 subst this;rw[Mq]at e;subst e;refine⟨trivial,?_⟩;simp only[sW];walk_at"dl";exact aZ.lst h i g yQ;rintro x xs S d ⟨qs,s,a,b,q,L,e,c,rfl,i,g,rfl⟩ G j;cases s with
 |nil=>cases c
 |cons p s =>
  rw[D5]at c;injection c with e1 e2;subst e1;have hp:=f p (by rw[e];simp);refine⟨trivial,?_⟩;unfold iO;walk_at"dl";refine⟨trivial,⟨by lia,by lia⟩,?_⟩;refine bi (λk=>.tup [.str p.1,k]) (λS=>∃a,S=[a,a9<|.str p.1]) trivial _ _ _ (λk o S l=>?_) ⟨_,rfl⟩ ?_ ?_;obtain⟨a,rfl⟩:=l;refine⟨[a9 k,a9<|.str p.1],⟨_,rfl⟩,λY D=>?_⟩;walk_at"dl";exact⟨ao (by lia),D⟩;simp only[D3,aX];exact ao (by lia);have y:ps.length=qs.length+(s.length+1):=by rw[e];simp
  have t:=m qs (λq c=>by rw[e];simp[c]) (by lia);have u:(cZ p).length<=3:=by rw[je];lia
  rw[G4];refine⟨aE qs,cZ p,ac g,af,ao (by lia),?_⟩;refine E1.now<|j _ _ ⟨qs++[p],s,_,_,_,L++[.lst<|cZ p]++[.lst<|aE qs++cZ p],by rw[e];simp,e2,by simp[cZ],?_,?_,rfl⟩;simp only[B6,G5];lia;have:aE (qs++[p])=aE qs++cZ p:=by simp[aE]
  rw[this];exact af
theorem xp(T:Tops P w K mg base):x6 P w K mg base 1 "_law_hands" vF jZ:=x6.byD (N:=["_law_house_here","_law_hands_here","_law_name","_law_many"]) T.b T.f_hands (by walk_at"sc") Bg (by walk_at"dv") Cz
def gO:A7:=λds M R=>∃(c:Int) (q:Nat) (xs:List c5),ds=[.int c,.ref q]/\aq M q (xs.map .str)/\1<=xs.length/\xs.length<=1000/\(∀x∈xs,x.length<=8)/\∀x:c5,x.length<=100->R (.str x) M
theorem yH:cD gO qI:=by rintro ds M R ⟨c,q,xs,rfl,_⟩;rfl
def pC:v5:=bt<|ab 4
def pD:v5:=aV (u8 aO (ab 0)<|dC<|.int 3) 0
def pE:v5:=aC (lE (bU<|aa (u8 aL (dC<|.int 1)<|u8 bY (ab 0)<|dC<|.int 8) ae) (ap 5)<|aC (aV (u8 aL (ab 4)<|u8 z5 (u8 aL (u8 aL (dC<|.str " !@")<|ab 2)<|dC<|.str "abzAZ09.~")<|u8 bY (u8 aO (ab 0)<|dC<|.int 8)<|u8 aL (dC<|.int 12)<|v7 ir<|aa (ab 2) ae) 4)<|pD)<|pC
def pF:v5:=aC (aV (u8 lu (dC<|.str "@")<|u8 bY (ab 3)<|dC<|.int 2) 4)<|pE
def pG:v5:=aC (E4 (aG<|u8 M8 (ab 3)<|dC<|.int 8) (bt<|u8 z5 (jp<|aa (dC<|.str "hi")<|aa (u8 aL (dC<|.str "@")<|ab 2)<|aa (u8 aL (u8 aL (dC<|.str "x @")<|ab 2)<|dC<|.str "!")<|aa (u8 aL (u8 aL (dC<|.str "@")<|ab 2)<|dC<|.str "b")<|aa (u8 aL (dC<|.str "no @ ")<|ab 2)<|aa (u8 aL (dC<|.str "Hi @A@")<|ab 2)<|aa (ab 2)<|aa (dC<|.str "?") ae)<|ab 3) bB)<|pF
def pH:v5:=aC (aV (u8 aO (ab 0)<|dC<|.int 48) 0)<|pG
def pI:v5:=aC (aV (u8 bY (u8 aO (ab 0)<|dC<|.int 4)<|dC<|.int 12) 3)<|pH
def wG:v5:=aC (aV (u8 z5 (ab 1)<|u8 bY (ab 0)<|v7 ir<|aa (ab 1) ae) 2)<|pI
theorem zm:C1 gO 6 wG:=by
 rintro ds M R ⟨c,q,xs,rfl,L,I,Y,N,h⟩;simp only[wG];walk_at"dl";obtain⟨d,u,m⟩:=fY (xs:=xs.map D.str) (i:=c) (by rw[w4];exact I);obtain⟨z,v,rfl⟩:=A0.mp u;have z8:=N z v;refine⟨_,L,by rw[w4];lia,_,L,?_⟩;rw[m];simp only[pI,pH];walk_at"dl";have J:=ca (a:=c / 4) (b:=12) (by decide);have K:=cg (a:=c / 4) (b:=12) (by decide);refine⟨⟨by decide,by decide⟩,by decide,⟨by decide,by decide⟩,?_⟩;generalize c / 4 % 12=w at J K;generalize c / 48=r;simp only[pG];walk_at"dl";have o:(v6 "@").length=1:=by decide +kernel
 have s:(v6 "x @").length=3:=by decide +kernel
 have B:(v6 "!").length=1:=by decide +kernel
 have T:(v6 "b").length=1:=by decide +kernel
 have F:(v6 "no @ ").length=5:=by decide +kernel
 have C:(v6 "Hi @A@").length=6:=by decide +kernel
 by_cases g:w<8;rw[dT_ g];refine dN ⟨by rw[o];exact ao (by lia),by rw[s];exact ao (by lia),by rw[bx,s,B];exact ao (by lia),by rw[o];exact ao (by lia),by rw[bx,o,T];exact ao (by lia),by rw[F];exact ao (by lia),by rw[C];exact ao (by lia),ao (by lia),_,ad,?_⟩;have x:∃y:c5,y.length<=100/\atI [D.str<|v6 "hi",D.str<|v6 "@" ++ z,D.str<|v6 "x @" ++ z++v6 "!",D.str<|v6 "@" ++ z++v6 "b",D.str<|v6 "no @ " ++ z,D.str<|v6 "Hi @A@" ++ z,D.str z,D.str<|v6 "?"] w=a9 (.str y):=by
  have:w=0\/w=1\/w=2\/w=3\/w=4\/w=5\/w=6\/w=7:=by lia
  rcases this with rfl|rfl|rfl|rfl|rfl|rfl|rfl|rfl;exact⟨v6 "hi",by decide +kernel,au (j:=0) rfl⟩;exact⟨v6 "@" ++ z,by rw[bx];lia,au (j:=1) rfl⟩;exact⟨v6 "x @" ++ z++v6 "!",by rw[bx,bx];lia,au (j:=2) rfl⟩;exact⟨v6 "@" ++ z++v6 "b",by rw[bx,bx];lia,au (j:=3) rfl⟩;exact⟨v6 "no @ " ++ z,by rw[bx];lia,au (j:=4) rfl⟩;exact⟨v6 "Hi @A@" ++ z,by rw[bx];lia,au (j:=5) rfl⟩;exact⟨z,by lia,au (j:=6) rfl⟩;exact⟨v6 "?",by decide +kernel,au (j:=7) rfl⟩
 obtain⟨y,l,n⟩:=x;rw[n];exact aZ.str (h _ l) bf;rw[dF_ g];refine dg ?_;simp only[pF];walk_at"dl";have Z:=ca (a:=w) (b:=2) (by decide);have X:=cg (a:=w) (b:=2) (by decide);have A:(Txt.mul (v6 "@")<|w % 2).length<=1:=by
  have:w % 2=0\/w % 2=1:=by lia
  rcases this with e|e<;>rw[e]<;>decide +kernel
 refine⟨by decide,⟨Z,by lia,by rw[o];exact ao<|by lia⟩,?_⟩;generalize Txt.mul (v6 "@") (w % 2)=W at A;simp only[pE];walk_at"dl";have Q:=ca (a:=r) (b:=8) (by decide);have U:=cg (a:=r) (b:=8) (by decide);refine⟨by decide,⟨by lia,by lia⟩,?_⟩;refine bh (λi S f=>∃(y:c5) (r':Int) (b:Option D),y.length<=1+i/\f=M/\S=[a9<|.int r',a9<|.ref q,a9<|.str z,a9<|.int w,a9<|.str y,b]) ?_ ?_ ⟨W,_,_,by lia,rfl,rfl⟩;rintro S f ⟨y,r',b,l,rfl,rfl⟩;refine⟨trivial,?_⟩;simp only[pC];walk_at"dl";refine aZ.now<|h _ ?_;rw[aX]at l;lia;rintro i y' S f O ⟨y,r',b,l,rfl,rfl⟩ G p;obtain⟨hi,rfl⟩:=bO.mp O;refine⟨trivial,?_⟩;simp only[pD];walk_at"dl";have t:(v6 " !@").length=3:=by decide +kernel
 have k:(v6 "abzAZ09.~").length=9:=by decide +kernel
 have H:(v6 " !@" ++ z++v6 "abzAZ09.~").length=12+z.length:=by rw[bx,bx,t,k];lia
 refine⟨by rw[t];exact ao (by lia),by rw[bx,t,k];exact ao (by lia),⟨by decide,by decide⟩,ao (by lia),by lia,ao (by lia),?_⟩;have E:=cI (a:=v6 " !@" ++ z++v6 "abzAZ09.~");obtain⟨P,_,V⟩:=fY (xs:=(v6 " !@" ++ z++v6 "abzAZ09.~").cps.toList) (i:=r' / 8) (by lia);rw[<-E,H,show (((12+z.length:Nat)):Int)=12+(z.length:Int) by lia]at V;rw[V];exact⟨by rw[fq];exact ao (by lia),⟨by decide,by decide⟩,E1.now<|p _ _ ⟨_,_,_,by rw[bx,fq];lia,rfl,rfl⟩⟩
theorem AI(T:Tops P w K mg base):x6 P w K mg base 1 "_law_saying" qI gO:=x6.byD (N:=["_law_number","_law_names_here","_law_name","_law_way","_law_saying_here","_law_k"]) T.b T.f_saying (by walk_at"sc") yH (by walk_at"dv") zm
def NT(s:List D):Prop:=∀x∈s,∃(t:Int) (z:c5) (k:Int),x=.tup [.int t,.tup [.str z,.int k]]
def oE:A7:=λds M R=>∃(c:Int) (p q:Nat) (s hs:List D),ds=[.int c,.ref p,.ref q]/\aq M p s/\NT s/\s.length<=1000/\aq M q hs/\(∀x∈hs,Hd x)/\1<=hs.length/\hs.length<=1000/\∀(t:Int) (z:c5) (k:Int),R (.tup [.int t,.tup [.str z,.int k]]) M
theorem DU:cD oE AD:=by rintro ds M R ⟨c,p,q,s,hs,rfl,_⟩;rfl
theorem tq:E6 n (.tup [.int t,.tup [.str z,.int k]]):=bK 2 _ rfl
def qD:v5:=bt<|u8 z5 (ab 1)<|u8 IJ (u8 IJ (v7 ir<|aa (ab 1) ae)<|dC<|.int 1)<|u8 bY (u8 aO (ab 0)<|dC<|.int 8)<|v7 ir<|aa (ab 1) ae
def Fo:v5:=aC (E4 (NR (aG<|u8 E8 (ab 1)<|jp ae)<|aG<|u8 E8 (u8 bY (ab 0)<|dC<|.int 8)<|dC<|.int 7) (bt<|dO<|aa (u8 aL (dC<|.int 1)<|u8 bY (u8 aO (ab 0)<|dC<|.int 8)<|dC<|.int 50)<|aa (u8 z5 (ab 2)<|u8 bY (u8 aO (ab 0)<|dC<|.int 400)<|v7 ir<|aa (ab 2) ae) ae) bB)<|qD
theorem CJ(E:M <+: B)(a:aq B q hs)(e:∀x∈hs,Hd x)(h1:1<=hs.length)(g:hs.length<=1000)(h:∀(t:Int) (z:c5) (k:Int),R (.tup [.int t,.tup [.str z,.int k]]) M):(dO<|aa (u8 aL (dC<|.int 1)<|u8 bY (u8 aO (ab 0)<|dC<|.int 8)<|dC<|.int 50)<|aa (u8 z5 (ab 2)<|u8 bY (u8 aO (ab 0)<|dC<|.int 400)<|v7 ir<|aa (ab 2) ae) ae) [a9<|.int c,y1,a9<|.ref q] B (aZ M R):=by walk_at"dl";obtain⟨d,b,G⟩:=fY (xs:=hs) (i:=c / 400) h1;obtain⟨z,k,rfl⟩:=e d b;refine⟨⟨by decide,by decide⟩,by decide,⟨by decide,by decide⟩,_,a,by lia,_,a,?_⟩;rw[G];exact⟨ao (by lia),aZ.keep (h _ _ _) tq E⟩
theorem FS:C1 oE 3 Fo:=by
 rintro ds M R ⟨c,p,q,s,hs,rfl,hp,f,A,u,m,h1,r,h⟩;have e:Fo=aC (E4 (NR (aG<|u8 E8 (ab 1)<|jp ae)<|aG<|u8 E8 (u8 bY (ab 0)<|dC<|.int 8)<|dC<|.int 7) (bt<|dO<|aa (u8 aL (dC<|.int 1)<|u8 bY (u8 aO (ab 0)<|dC<|.int 8)<|dC<|.int 50)<|aa (u8 z5 (ab 2)<|u8 bY (u8 aO (ab 0)<|dC<|.int 400)<|v7 ir<|aa (ab 2) ae) ae) bB) qD:=rfl;have n:=CJ (M:=M) (B:=M++[MO.lst []]) (R:=R) (c:=c) (q:=q) (hs:=hs) (y1:=a9<|.ref p) bf (u.more _) m h1 r h;rw[e];generalize (dO<|aa (u8 aL (dC<|.int 1)<|u8 bY (u8 aO (ab 0)<|dC<|.int 8)<|dC<|.int 50)<|aa (u8 z5 (ab 2)<|u8 bY (u8 aO (ab 0)<|dC<|.int 400)<|v7 ir<|aa (ab 2) ae) ae)=tn at n;walk_at"dl";obtain⟨o,l⟩:=qP hp λx w=>by obtain⟨t,z,k,rfl⟩:=f x w;rfl
 refine⟨A8 _,o,?_⟩;rw[l];cases v:s.isEmpty with
 |true=>exact dN n
 |false =>
  refine dg ⟨by decide,⟨aJ,aJ⟩,?_⟩;cases v8 (M++[MO.lst []]) x3 (.int<|c % 8) (.int 7) with
  |true=>exact dN n
  |false =>
   refine dg ?_;have y:1<=s.length:=by cases s<;>simp_all
   simp only[qD];walk_at"dl";have d:=hp.more [MO.lst []];have E:=ca (a:=c / 8) (b:=s.length) (by lia);have U:=cg (a:=c / 8) (b:=s.length) (by lia);refine⟨_,d,⟨by decide,by decide⟩,_,d,by lia,_,d,?_⟩;obtain⟨j,L,C,_⟩:=Cl (xs:=s) (i:=(s.length:Int)-1-c / 8 % (s.length:Int)) (by lia) (by lia);rw[C];obtain⟨t,z,k,g⟩:=f _<|MU L;dsimp only;rw[g];exact aZ.keep (h _ _ _) tq bf
theorem AH(T:Tops P w K mg base):x6 P w K mg base 1 "_law_told" AD oE:=x6.byD (N:=["_law_number","_law_says","_law_hands_here"]) T.b T.f_told (by walk_at"sc") DU (by walk_at"dv") FS
def gM:A7:=λds M R=>∃(c:Int) (q n:Nat) (hs:List D) (t:List (D×D)),ds=[.int c,.ref q,.ref n]/\aq M q hs/\(∀x∈hs,Hd x)/\hs.Nodup/\hs.length<=12/\M[n]?=a9 (.dkt t)/\(∀x∈hs,∃i:Int,bb t x=a9 (.int i))/\∀vs:List D,lT 3 vs->LM vs->R (.tup vs) M
theorem yG:cD gM qH:=by rintro ds M R ⟨c,q,n,hs,t,rfl,_⟩;rfl
theorem lK{k:Nat}{vs:List (D×Int)}(h:∀p∈vs,Hd p.1):lT (k+2) (vs.map λp=>D.tup [p.1,.int p.2]):=lT.of λd a=>by obtain⟨p,hp,rfl⟩:=A0.mp a;exact .tup<|.cons (HN<|h p hp)<|.cons (.int _) .nil
def pf:v5:=bt<|v7 fV<|aa (ab 3) ae
def ph:v5:=aV (u8 aO (ab 0)<|dC<|.int 5) 0
def pj:v5:=aC (lE (br<|ab 1) (ap 4)<|aC (E4 (aG<|u8 E8 (u8 bY (ab 0)<|dC<|.int 2)<|dC<|.int 1) (kF<|ME cE (ab 3)<|aa (dO<|aa (ab 4)<|aa (u8 aL (dC<|.int 1)<|u8 bY (u8 aO (ab 0)<|dC<|.int 2)<|dC<|.int 6) ae) ae) bB)<|ph)<|pf
def pk:v5:=aC (aV (jp ae) 3)<|pj
def pq:v5:=aC (aV (u8 aO (ab 0)<|dC<|.int 2) 0)<|pk
def wF:v5:=aC (E4 (aG<|u8 E8 (u8 bY (ab 0)<|dC<|.int 2)<|dC<|.int 0) (bt<|v7 fV<|aa (F6 1 [2] (br<|ab 1) (ap 0) (aG<|u8 Nl (ji (ab 1)<|ab 0)<|dC<|.int 0)<|dO<|aa (ab 0)<|aa (ji (ab 1)<|ab 0) ae) ae) bB)<|pq
theorem zk:C1 gM 5 wF:=by
 rintro ds M R ⟨c,q,n,hs,t,rfl,d,m,e,x,o,u,h⟩;simp only[wF];walk_at"dl";refine⟨by decide,⟨aJ,aJ⟩,?_⟩;cases v8 M x3 (.int<|c % 2) (.int 0) with
 |true=>refine dN ⟨_,d,λ_=>?_⟩;refine ib (λys acc S b=>∃(vs:List (D×Int)) (a:Option D),acc=vs.map (λp=>.tup [p.1,.int p.2])/\(∀p∈vs,Hd p.1)/\vs.length+ys.length<=hs.length/\(∀y∈ys,y∈hs)/\(vs.map (·.1)++ys).Sublist hs/\b=M/\S=[a,a9<|.ref n]) ?_ ?_ _ _ _ _ ⟨[],_,rfl,(λ_ z=>nomatch z),by simp,λ_ z=>z,P2 _,rfl,rfl⟩;rintro acc S b ⟨vs,a,rfl,v,l,_,T,rfl,rfl⟩;exact⟨d,_,ad,aZ.keep (h _ (lK v) ⟨vs,rfl,v,by simp at l;lia,by rw[Mq]at T;exact T.nodup e⟩) (bK 4 _<|.tup<|lK v) bf⟩;rintro y ys acc S b ⟨vs,a,rfl,v,l,O,T,rfl,rfl⟩ K A;refine⟨d,?_⟩;obtain⟨i,hi⟩:=u y (O y<|by simp);obtain⟨z,k,rfl⟩:=m y (O y<|by simp);rw[D7]at l;walk_at"dl";refine⟨t,_,o,rfl,hi,?_⟩;walk_at"dl";split;refine⟨t,_,o,rfl,hi,ao (by lia),by rw[w4];exact av (by lia),A _ _ _ ⟨vs++[(.tup [.str z,.int k],i)],_,by simp,λp hp=>?_,by rw[B6,G5];lia,λj h'=>O j<|C6 _ h',by rw[J3,Ix];exact T,rfl,rfl⟩⟩;rcases Fn.mp hp with hp|hp;exact v p hp;rw[F0.mp hp];exact⟨_,_,rfl⟩;exact A _ _ _ ⟨vs,_,rfl,v,by lia,λj h'=>O j<|C6 _ h',((P2 _).append<|List.sublist_cons_self _ _).trans T,rfl,rfl⟩
 |false =>
  refine dg ?_;simp only[pq,pk,pj];walk_at"dl";refine⟨⟨by decide,by decide⟩,A8 _,_,d.more _,λ_=>?_⟩;refine bh (λi S b=>∃(vs:List (D×Int)) (r:Int) (a:Option D),vs.length<=i/\(∀p∈vs,Hd p.1)/\(vs.map (·.1)).Sublist (hs.take i)/\b=M++MO.lst (vs.map λp=>.tup [p.1,.int p.2])::[]/\S=[a9<|.int r,a9<|.ref q,a9<|.ref n,a9<|.ref M.length,a]) ?_ ?_ ⟨[],_,_,x5 _,(λ_ z=>nomatch z),P2 _,rfl,rfl⟩;rintro S b ⟨vs,r,a,l,v,T,rfl,rfl⟩;rw[MA]at T;refine⟨d.more _,?_⟩;simp only[pf];walk_at"dl";exact⟨_,.inl cJ,aZ.keep (h _ (lK v) ⟨vs,rfl,v,by lia,T.nodup e⟩) (bK 4 _<|.tup<|lK v) Gv⟩;rintro i y S b O ⟨vs,r,a,l,v,T,rfl,rfl⟩ G f;have s:hs.take (i+1)=hs.take i++[y]:=by rw[MJ,O];rfl
  rw[s]at f;have w:=(C2.mp O).1;have g:=m y<|G1 O;refine⟨d.more _,?_⟩;simp only[ph];walk_at"dl";refine⟨by decide,⟨aJ,aJ⟩,?_⟩;split;refine⟨⟨_,.inl cJ⟩,⟨by decide,by decide⟩,by decide,ao (by lia),_,cJ,by rw[w4];exact av (by lia),⟨by decide,by decide⟩,E1.now<|f _ _ ⟨vs++[(y,1+r / 2 % 6)],_,_,by rw[B6,G5];lia,λp hp=>?_,by rw[J3];exact T.append<|P2 _,by rw[kg];simp,rfl⟩⟩;rcases Fn.mp hp with hp|hp;exact v p hp;rw[F0.mp hp];exact g;exact⟨⟨by decide,by decide⟩,E1.now<|f _ _ ⟨vs,_,_,by lia,v,T.trans<|List.sublist_append_left _ _,rfl,rfl⟩⟩
theorem AG(T:Tops P w K mg base):x6 P w K mg base 1 "_law_vector" qH gM:=x6.byD (N:=["_law_number","_law_hands_here","_law_counts","_law_found","_law_hand"]) T.b T.f_vector (by walk_at"sc") yG (by walk_at"dv") zk
def rO:A7:=λds M R=>∃(c:Int) (ps:List (c5×Int)) (a:List (c5×List c5)) (p q:Nat) (s hs:List D),ds=[.int c,aA ps a,.ref p,.ref q]/\HouseF ps a/\aq M p s/\NT s/\s.length<=1000/\aq M q hs/\(∀x∈hs,Hd x)/\1<=hs.length/\hs.length<=1000/\∀w:D,LL w->R w M
theorem DR:cD rO AC:=by rintro ds M R ⟨c,ps,a,p,q,s,hs,rfl,_⟩;rfl
def wD:v5:=bt<|dO<|aa (dC<|.str "under")<|aa (v7 oE<|aa (u8 aO (ab 0)<|dC<|.int 3)<|aa (ab 2)<|aa (ab 3) ae) ae
def wE:v5:=aC (E4 (aG<|u8 E8 (u8 bY (ab 0)<|dC<|.int 3)<|dC<|.int 1) (bt<|dO<|aa (dC<|.str "person")<|aa (u8 z5 (u8 z5 (u8 z5 (ab 1)<|dC<|.int 0)<|u8 bY (u8 aO (ab 0)<|dC<|.int 3)<|v7 ir<|aa (u8 z5 (ab 1)<|dC<|.int 0) ae)<|dC<|.int 0) ae) bB)<|wD
def Fm:v5:=aC (E4 (aG<|u8 E8 (u8 bY (ab 0)<|dC<|.int 3)<|dC<|.int 0) (bt<|dO<|aa (dC<|.str "room")<|aa (u8 z5 (u8 z5 (u8 z5 (ab 1)<|dC<|.int 1)<|u8 bY (u8 aO (ab 0)<|dC<|.int 3)<|v7 ir<|aa (u8 z5 (ab 1)<|dC<|.int 1) ae)<|dC<|.int 0) ae) bB)<|wE
theorem FR:C1 rO 4 Fm:=by
 rintro ds M R ⟨c,ps,j,p,q,s,hs,rfl,f,hp,o,l,e,b,h1,g,h⟩;simp only[Fm,aA];walk_at"dl";refine⟨by decide,⟨aJ,aJ⟩,?_⟩;cases v8 M x3 (.int<|c % 3) (.int 0) with
 |true=>obtain⟨d,a,G⟩:=fY (xs:=j.map eR) (i:=c / 3) (by rw[w4];exact f.rl.1);obtain⟨r,_,rfl⟩:=A0.mp a;refine dN ⟨⟨by decide,by decide⟩,by rw[w4];have:=f.rl.1;lia,?_⟩;rw[G];unfold eR;walk_at"dl";exact⟨ao (by lia),aZ.now<|h _<|.inl ⟨_,rfl⟩⟩
 |false =>
  refine dg ?_;simp only[wE];walk_at"dl";refine⟨by decide,⟨aJ,aJ⟩,?_⟩;cases v8 M x3 (.int<|c % 3) (.int 1) with
  |true=>obtain⟨d,a,G⟩:=fY (xs:=ps.map iO) (i:=c / 3) (by rw[w4];exact f.len.1);obtain⟨r,_,rfl⟩:=A0.mp a;refine dN ⟨⟨by decide,by decide⟩,by rw[w4];have:=f.len.1;lia,?_⟩;rw[G];unfold iO;walk_at"dl";exact⟨ao (by lia),aZ.now<|h _<|.inr<|.inl ⟨_,rfl⟩⟩
  |false=>refine dg ?_;simp only[wD];walk_at"dl";exact⟨⟨by decide,by decide⟩,_,p,q,s,hs,rfl,hp,o,l,e,b,h1,g,λt z k=>⟨ao (by lia),aZ.now<|h _<|.inr<|.inr ⟨_,_,_,rfl⟩⟩⟩
theorem GK(T:Tops P w K mg base):x6 P w K mg base 2 "_law_what" AC rO:=x6.byD (N:=["_law_number","_law_house_here","_law_says","_law_hands_here"]) T.b T.f_what (by walk_at"sc") DR (by have:=AH T;walk_at"dv") FR
def uU:A7:=λds M R=>∃(c:Int) (ps:List (c5×Int)) (a:List (c5×List c5)) (p q n:Nat) (s hs:List D) (t:List (D×D)),ds=[.int c,aA ps a,.ref p,.ref q,.ref n]/\HouseF ps a/\aq M p s/\NT s/\s.length<=1000/\aq M q hs/\(∀x∈hs,Hd x)/\1<=hs.length/\hs.length<=12/\hs.Nodup/\M[n]?=a9 (.dkt t)/\(∀x∈hs,∃i:Int,bb t x=a9 (.int i)) /\∀(x:c5) (ds:List D),lT 4 ds->ActK a x ds->R (.tup<|.str x::ds) M
theorem GX:cD uU GH:=by rintro ds M R ⟨c,ps,a,p,q,n,s,hs,t,rfl,_⟩;rfl
theorem CO:G8 (n+2) (.tup [.int t,.tup [.str z,.int k]]):=.tup<|.cons (.int _)<|.cons (.tup<|.cons (.str _)<|.cons (.int _) .nil) .nil
def wX:v5:=bt<|u8 z5 (jp<|aa (dO<|aa (dC<|.str "rung")<|aa (ab 8) ae)<|aa (dO<|aa (dC<|.str "read")<|aa (ab 7)<|aa (v7 gM<|aa (u8 aO (ab 0)<|dC<|.int 4)<|aa (ab 3)<|aa (ab 4) ae) ae) ae)<|u8 bY (u8 aO (ab 0)<|dC<|.int 3)<|dC<|.int 2
def wY:v5:=aC (E4 (aG<|u8 E8 (ab 5)<|dC<|.int 14) (bt<|dO<|aa (dC<|.str "hush")<|aa (v7 rO<|aa (u8 aO (ab 0)<|dC<|.int 3)<|aa (ab 1)<|aa (ab 2)<|aa (ab 3) ae)<|aa (u8 Nl (u8 bY (ab 0)<|dC<|.int 3)<|dC<|.int 0) ae) bB)<|wX
def wZ:v5:=aC (E4 (aG<|u8 E8 (ab 5)<|dC<|.int 13) (bt<|dO<|aa (dC<|.str "seen")<|aa (ab 8) ae) bB)<|wY
def xa:v5:=aC (E4 (aG<|u8 E8 (ab 5)<|dC<|.int 12) (bt<|dO<|aa (dC<|.str "read")<|aa (ab 7)<|aa (v7 gM<|aa (u8 aO (ab 0)<|dC<|.int 4)<|aa (ab 3)<|aa (ab 4) ae) ae) bB)<|wZ
def xb:v5:=bt<|dO<|aa (dC<|.str "like")<|aa (ab 8)<|aa (u8 z5 (ab 10)<|u8 bY (u8 aO (ab 0)<|dC<|.int 2000)<|v7 ir<|aa (ab 10) ae)<|aa (u8 Nl (u8 bY (ab 0)<|dC<|.int 4)<|dC<|.int 0) ae
def zV:v5:=aC (E4 (aG<|u8 M8 (ab 5)<|dC<|.int 12) (aC (aV (u8 aL (ab 6)<|jp<|aa (dC<|.str "good") ae) 10)<|xb) bB)<|xa
def zW:v5:=aC (E4 (aG<|u8 E8 (ab 5)<|dC<|.int 8) (bt<|dO<|aa (dC<|.str "back")<|aa (ab 8) ae) bB)<|zV
def zX:v5:=aC (E4 (aG<|u8 M8 (ab 5)<|dC<|.int 8) (bt<|dO<|aa (dC<|.str "change")<|aa (ab 8)<|aa (v7 gO<|aa (u8 aO (ab 0)<|dC<|.int 12)<|aa (ab 6) ae) ae) bB)<|zW
def zY:v5:=bt<|dO<|aa (dC<|.str "say")<|aa (ab 7)<|aa (ab 9)<|aa (v7 gO<|aa (u8 aO (ab 0)<|dC<|.int 12)<|aa (ab 6) ae) ae
def vn:v5:=aC (E4 (aG<|u8 M8 (ab 5)<|dC<|.int 6) (aC (aV (u8 z5 (jp<|aa (dC .non)<|aa (ab 8)<|aa (ab 8) ae)<|u8 bY (u8 aO (ab 0)<|dC<|.int 4)<|dC<|.int 3) 9)<|zY) bB)<|zX
def zZ:v5:=aC (aV (v7 oE<|aa (u8 aO (ab 0)<|dC<|.int 4)<|aa (ab 2)<|aa (ab 3) ae) 8)<|vn
def Aa:v5:=aC (aV (u8 z5 (u8 z5 (u8 z5 (ab 1)<|dC<|.int 1)<|u8 bY (ab 0)<|v7 ir<|aa (u8 z5 (ab 1)<|dC<|.int 1) ae)<|dC<|.int 0) 7)<|zZ
def Ab:v5:=aC (gK 2 [] (br<|u8 z5 (ab 1)<|dC<|.int 0) (nZ 2<|cq (ap 0)<|cq (ap 1) og) oH (ab 0) 6)<|Aa
def Ac:v5:=aC (aV (u8 aO (ab 0)<|dC<|.int 16) 0)<|Ab
def IZ:v5:=aC (aV (u8 bY (ab 0)<|dC<|.int 16) 5)<|Ac
theorem gL(E:M <+: B)(h:∀(x:c5) (ds:List D),lT 4 ds->ActK rs x ds->R (.tup<|.str x::ds) M)(d:lT 4 ds)(a:ActK rs x ds):aZ M R (.tup<|.str x::ds) B:=aZ.keep (h x ds d a) (bK 5 _<|.tup<|.cons (.str _) d) E
theorem act_5{M B:w6}{R:DK}{c e:Int}{ps:List (c5×Int)}{rs:List (c5×List c5)}{p q n C:Nat}{s hs:List D}{f:List (D×D)}{m:c5}{t:Int}{z:c5}{k:Int}{ns:List c5}(E:M <+: B)(hf:HouseF ps rs)(hp:aq B p s)(so:NT s)(sl:s.length<=1000)(H:aq B q hs)(G:∀x∈hs,Hd x)(h1:1<=hs.length)(O:hs.length<=12)(l:hs.Nodup)(P:B[n]?=a9 (.dkt f))(N:∀x∈hs,∃i:Int,bb f x=a9 (.int i))(F:B[C]?=a9 (.lst<|ns.map .str))(V:1<=ns.length)(n4:ns.length<=4)(W:∀x∈ns,x.length<=8)(I:m∈rs.map (·.1))(h:∀(x:c5) (ds:List D),lT 4 ds->ActK rs x ds->R (.tup<|.str x::ds) M):vn (EE M R) [a9<|.int c,a9<|aA ps rs,a9<|.ref p,a9<|.ref q,a9<|.ref n,a9<|.int e,a9<|.ref C,a9<|.str m,a9<|.tup [.int t,.tup [.str z,.int k]],b7,b7] B:=by
 have sp:∀{j:Nat},G8 (j+2) (.tup [.int t,.tup [.str z,.int k]]):=CO;have S:St (.tup [.int t,.tup [.str z,.int k]]):=⟨_,_,_,rfl⟩
 generalize hS:D.tup [.int t,.tup [.str z,.int k]]=st at sp S;simp only[vn];walk_at"dl";by_cases T:e<6;rw[dT_ T];refine dN ?_;have Z:=ca (a:=c / 4) (b:=3) (by decide);have K:=cg (a:=c / 4) (b:=3) (by decide);refine⟨ao (by lia),⟨by decide,by decide⟩,by decide,_,ad,?_⟩;obtain⟨u,Y,pu,hu⟩:∃u,atI [D.non,st,st] (c / 4 % 3)=a9 u/\G8 4 u/\(u=.non\/St u):=by
  generalize c / 4 % 3=v at Z K;have:v=0\/v=1\/v=2:=by lia
  rcases this with rfl|rfl|rfl;exact⟨_,au (j:=0) rfl,.non,.inl rfl⟩;exact⟨_,au (j:=1) rfl,sp,.inr S⟩;exact⟨_,au (j:=2) rfl,sp,.inr S⟩
 rw[Y];simp only[zY];walk_at"dl";exact⟨⟨by decide,by decide⟩,_,C,ns,rfl,.inl<|ac F,V,by lia,W,λx L=>⟨ao (by lia),gL (E.trans bf) h (.cons (.str _)<|.cons pu<|.cons (.str _) .nil)<|.mkSay I hu L⟩⟩;rw[dF_ T];refine dg ?_;simp only[zX];walk_at"dl";by_cases U:e<8;rw[dT_ U];exact dN ⟨⟨by decide,by decide⟩,_,C,ns,rfl,.inl F,V,by lia,W,λx L=>⟨ao (by lia),gL E h (.cons sp<|.cons (.str _) .nil)<|.mkChange S L⟩⟩;rw[dF_ U];refine dg ?_;simp only[zW];walk_at"dl";refine⟨⟨aJ,aJ⟩,?_⟩;split;exact⟨ao (by lia),gL E h (.cons sp .nil)<|.mkBack S⟩;simp only[zV];walk_at"dl";by_cases o:e<12;rw[dT_ o];have J:(ns.map D.str++[D.str<|v6 "good"]).length=ns.length+1:=by simp
 refine dN ⟨ao (by lia),_,_,ac F,af,by rw[<-B6,J];exact ao (by lia),?_⟩;simp only[xb];walk_at"dl";obtain⟨d,g,X⟩:=fY (xs:=ns.map D.str++[D.str<|v6 "good"]) (i:=c / 2000) (by lia);obtain⟨y,rfl⟩:∃y:c5,d=.str y:=by rcases Fn.mp g with g|g;obtain⟨y,_,rfl⟩:=A0.mp g;exact⟨y,rfl⟩;exact⟨_,F0.mp g⟩
 refine⟨⟨by decide,by decide⟩,_,ad,by lia,_,ad,?_⟩;rw[X];exact⟨by decide,ao (by lia),gL ((E.trans bf).trans bf) h (.cons sp<|.cons (.str _)<|.cons (.bl _) .nil)<|.mkLike S⟩;rw[dF_ o];refine dg ?_;simp only[xa];walk_at"dl";refine⟨⟨aJ,aJ⟩,?_⟩;have r:∀{vs:List D}{B':w6},M <+: B'->lT 3 vs->LM vs->aZ M R (.tup [.str<|v6 "read",.str m,.tup vs]) B':=λpb pv A=>gL pb h (.cons (.str _)<|.cons (.tup pv) .nil)<|.mkRead A;split;exact⟨⟨by decide,by decide⟩,_,q,n,hs,f,rfl,H,G,l,O,P,N,λvs pv A=>⟨ao (by lia),r E pv A⟩⟩;simp only[wZ];walk_at"dl";refine⟨⟨aJ,aJ⟩,?_⟩;split;exact⟨ao (by lia),gL E h (.cons sp .nil)<|.mkSeen S⟩;simp only[wY];walk_at"dl";refine⟨⟨aJ,aJ⟩,?_⟩;split;exact⟨⟨by decide,by decide⟩,_,ps,rs,p,q,s,hs,rfl,hf,hp,so,sl,H,G,h1,by lia,λw Q=>⟨by decide,ao (by lia),gL E h (.cons Q.pl4<|.cons (.bl _) .nil)<|.mkHush Q⟩⟩;simp only[wX];walk_at"dl";have Z:=ca (a:=c / 3) (b:=2) (by decide);have K:=cg (a:=c / 3) (b:=2) (by decide);refine⟨ao (by lia),⟨by decide,by decide⟩,_,q,n,hs,f,rfl,H,G,l,O,P,N,λvs pv A=>⟨ao (by lia),ao (by lia),⟨by decide,by decide⟩,by decide,_,ad,?_⟩⟩;generalize c / 3 % 2=v at Z K;have:v=0\/v=1:=by lia
 rcases this with rfl|rfl;rw[Oi];exact gL (E.trans bf) h (.cons sp .nil)<|.mkRung S;rw[NS];exact r (E.trans bf) pv A
theorem IU:C1 uU 11 IZ:=by
 rintro ds M R ⟨c,ps,O,p,q,n,s,hs,C,rfl,f,hp,y,w,o,m,h1,K,g,L,J,h⟩;simp only[IZ,Ac];walk_at"dl";refine⟨by decide,⟨by decide,by decide⟩,?_⟩;generalize c % 16=v;generalize c / 16=A;simp only[Ab,aA];walk_at"dl";intro _;refine bi (λd=>match d with|.tup (x::_)=>x|_=>.non) (λS=>∃a b,S=[a,b]) trivial _ _ _ (λd e S H=>?_) ⟨_,_,rfl⟩ ?_ ?_;obtain⟨a,b,rfl⟩:=H;obtain⟨r,u,rfl⟩:=A0.mp e;refine⟨[a9<|.str r.1,a9<|.int r.2],⟨_,_,rfl⟩,λY I=>?_⟩;unfold iO;walk_at"dl";exact⟨trivial,I⟩;rw[D3,w4];have:=f.len.2;exact ao (by lia);have F:(ps.map iO).map (λd=>match d with|.tup (x::_)=>x|_=>.non)=(ps.map (·.1)).map D.str:=by rw[E2,E2];rfl
 rw[G4,F];have l:(M++[MO.lst ((ps.map (·.1)).map D.str)])[M.length]?=a9 (.lst ((ps.map (·.1)).map D.str)):=af;have E:M <+: M++[MO.lst ((ps.map (·.1)).map D.str)]:=bf;generalize M++[MO.lst ((ps.map (·.1)).map D.str)]=B at l E;generalize M.length=P at l;simp only[Aa];walk_at"dl";obtain⟨d,e,G⟩:=fY (xs:=O.map eR) (i:=A) (by rw[w4];exact f.rl.1);obtain⟨r,u,rfl⟩:=A0.mp e;refine⟨by rw[w4];have:=f.rl.1;lia,?_⟩;rw[G];rw[show eR r=.tup [.str r.1,.tup<|r.2.map .str]from rfl];walk_at"dl";simp only[zZ];walk_at"dl";refine⟨⟨by decide,by decide⟩,_,p,q,s,hs,rfl,bT E hp,y,w,bT E o,m,h1,by lia,λt z k=>?_⟩;exact act_5 (ns:=ps.map (·.1)) E f (bT E hp) y w (bT E o) m h1 K g (aM E L) J l (by rw[w4];exact f.len.1) (by rw[w4];exact f.len.2) (λx N=>by obtain⟨r',j,rfl⟩:=A0.mp N;exact f.nm r' j) (K1 u) h
theorem Fy(T:Tops P w K mg base):x6 P w K mg base 3 "_law_act" GH uU:=x6.byD (N:=["_law_number","_law_house_here","_law_says","_law_hands_here","_law_counts","_law_kind","_law_names_here","_law_room","_law_message","_law_under","_law_sorts"]) T.b T.f_act (by walk_at"sc") GX (by have:=AI T;have:=AH T;have:=AG T;have:=GK T;walk_at"dv") IU
noncomputable def bo:D->Int
 |.tup (.int t::_)=>t
 |_=>0
theorem uh:∀{xs:List D},(∀x∈xs,f x x=b8)->rR f g xs xs=b9
 | [],_=>rfl
 |x::xs,h=>by show (if f x x=b8 then rR f g xs xs else g x x)=b9;rw[t5<|h x<|by simp];exact uh λy hy=>h y<|C6 _ hy
theorem uL:∀{xs:List D},(∀x∈xs,f x x=b8)->yY f g xs xs=b8
 | [],_=>rfl
 |x::xs,h=>by show (if f x x=b8 then yY f g xs xs else g x x)=b8;rw[t5<|h x<|by simp];exact uL λy hy=>h y<|C6 _ hy
structure GenH(ps:List (c5×Int))(rs:List (c5×List c5))(hs deeds:List D)(cnt las:List (D×D))(g:Int):Prop where
 deed:∀d∈deeds,aw ps rs d
 up:deeds.Pairwise λa b=>aR a=aR b->bo a<bo b
 last:∀h∈hs,∃t:Int,bb las h=a9 (.int t)/\(0<=t/\t<=g)/\∀d∈deeds,aR d=h->bo d<=t
 cnt:∀h∈hs,∃i:Int,bb cnt h=a9 (.int i)/\0<=i/\∀d∈deeds,aR d=h->jn d<i
 nup:deeds.Pairwise λa b=>aR a=aR b->jn a<jn b
 nn:∀d∈deeds,0<=jn d
 le:∀d∈deeds,bo d<=g
theorem Gk{α:Type}{r:α->α->Prop}:∀{l:List α}{a b:α},l.Pairwise r->a∈l->b∈l->a≠b->r a b\/r b a
 |x::l,a,b,h,ha,hb,ne=>by rw[List.pairwise_cons]at h;rcases C3.mp ha with e1|h1;rcases C3.mp hb with e2|h2;exact t7 (e1.trans e2.symm) ne;rw[e1];exact .inl<|h.1 b h2;rcases C3.mp hb with e2|h2;rw[e2];exact .inr<|h.1 a h1;exact Gk h.2 h1 h2 ne
theorem GenH.step{ps:List (c5×Int)}{rs:List (c5×List c5)}{hs s:List D}{f j:List (D×D)}{g:Int}(G:GenH ps rs hs s f j g){z:c5}{k t T num:Int}{x:c5}{ds:List D}(n:D.tup [.str z,.int k]∈hs)(B:bb j (.tup [.str z,.int k])=a9 (.int t))(C:t<T)(w:bb f (.tup [.str z,.int k])=a9 (.int num))(A:lT 4 ds)(v:ActK rs x ds)(o:∀x∈hs,x∈aE ps):GenH ps rs hs (s++[.tup [.int T,.tup [.str z,.int k],.int num,.tup<|.str x::ds]]) (fZ f (.tup [.str z,.int k])<|.int<|num+1) (fZ j (.tup [.str z,.int k])<|.int T) (if T > g then T else g):=by
 obtain⟨y,p⟩:0<=num/\∀d∈s,aR d=.tup [.str z,.int k]->jn d<num:=by obtain⟨i,hi,h0,le⟩:=G.cnt _ n;rw[w]at hi;injection hi with hi;injection hi with hi;subst hi;exact⟨h0,le⟩
 have q:g<=(if T > g then T else g):=by split<;>lia
 have Tle:T<=(if T > g then T else g):=by split<;>lia
 refine⟨λd m=>?_,?_,λh m=>?_,λh m=>?_,?_,λd m=>?_,λd m=>?_⟩;rcases Fn.mp m with m|m;exact G.deed d m;rw[F0.mp m];exact⟨T,z,k,num,x,ds,rfl,by obtain⟨t',c,h0,_⟩:=G.last _ n;rw[B]at c;injection c with c;injection c with c;lia,o _ n,A,v⟩;refine Rm.mpr ⟨G.up,O9 _ _,λa r b u=>?_⟩;rw[F0.mp u];intro e;obtain⟨t',c,_,le⟩:=G.last _ n;rw[B]at c;injection c with c;injection c with c;have:=le a r e;show bo a<T;lia;by_cases e:h=.tup [.str z,.int k];subst e;refine⟨T,dn,⟨by obtain⟨t',c,h0,_⟩:=G.last _ n;rw[B]at c;injection c with c;injection c with c;lia,Tle⟩,λd m e=>?_⟩;rcases Fn.mp m with m|m;obtain⟨t',c,_,le⟩:=G.last _ n;rw[B]at c;injection c with c;injection c with c;have:=le d m e;lia;rw[F0.mp m];exact PB _;obtain⟨t',c,h1,le⟩:=G.last h m;refine⟨t',by rw[cj e];exact c,⟨h1.1,by have:=h1.2;lia⟩,λd m l=>?_⟩;rcases Fn.mp m with m|m;exact le d m l;rw[F0.mp m]at l;exact t7 l.symm e;by_cases e:h=.tup [.str z,.int k];subst e;refine⟨_,dn,by lia,λd m e=>?_⟩;rcases Fn.mp m with m|m;have:=p d m e;lia;rw[F0.mp m];show num<num+1;lia;rw[cj e];obtain⟨i,hi,h0,le⟩:=G.cnt h m;refine⟨i,hi,h0,λd m l=>?_⟩;rcases Fn.mp m with m|m;exact le d m l;rw[F0.mp m]at l;exact t7 l.symm e;refine Rm.mpr ⟨G.nup,O9 _ _,λa r b u=>?_⟩;rw[F0.mp u];exact p a r;rcases Fn.mp m with m|m;exact G.nn d m;rw[F0.mp m];exact y;rcases Fn.mp m with m|m;exact Int.le_trans (G.le d m) q;rw[F0.mp m];exact Tle
theorem oh(c:∀d∈deeds,aw ps rs d)(u:deeds.Pairwise λa b=>aR a=aR b->bo a<bo b)(l:deeds.length<64):SrtG M deeds/\∀a∈deeds,∀b∈deeds,D0 M x3 a b=decide (D1 x3 (z9 a)<D1 x3 (z9 b)):=by
 have s:∀d∈deeds,x9 M x3 d=b8/\v8 M x3 d d=b8:=λd r=>xn 6 x3 d (by decide) (c d r).pl;have p:∀{a:D}{xs:List D},a=.tup xs->G8 6 a->∀x∈xs,v8 M 29 x x=b8:=λ{a xs} e h x hx=>by subst e;exact(xn 5 29 x (by decide)<|G7.mp h x hx).2
 have g:∀{t z k n x ds t' F H j R ds'},D.tup [.int t,.tup [.str z,.int k],.int n,.tup<|.str x::ds]∈deeds->D.tup [.int t',.tup [.str F,.int H],.int j,.tup<|.str R::ds']∈deeds->D.tup [.int t,.tup [.str z,.int k],.int n,.tup<|.str x::ds]≠D.tup [.int t',.tup [.str F,.int H],.int j,.tup<|.str R::ds']->t=t'->v8 M 29 (.tup [.str z,.int k]) (.tup [.str F,.int H])=b9:=by intro t z k n x ds t' F H j R ds' f i E m;refine Nj.mpr λe=>?_;have T:=(HP (M:=M) (n:=28) (a:=.tup [.str z,.int k]) (b:=.tup [.str F,.int H]) ⟨_,_,rfl⟩ ⟨_,_,rfl⟩).mp e;rcases Gk u f i E with q|q;have:=q T;simp only[bo]at this;lia;have:=q T.symm;simp only[bo]at this;lia
 have lt:∀a∈deeds,∀b∈deeds,D0 M x3 a b=decide (D1 x3 (z9 a)<D1 x3 (z9 b)):=λa f b i=>by
  have st:∀{t t':Int}{z F:c5}{k H:Int},D0 M x3 (.tup [.int t,.tup [.str z,.int k]]) (.tup [.int t',.tup [.str F,.int H]])=decide (D1 x3 (.tup [.int t,.tup [.str z,.int k]])<D1 x3 (.tup [.int t',.tup [.str F,.int H]])):=λ{t t' z F k H}=>by
   refine vO rfl rfl ?_;show (if v8 M 29 (.int t) (.int t')=b8 then(if v8 M 29 (.tup [.str z,.int k]) (.tup [.str F,.int H])=b8 then b8 else(if v8 M 28 (.str z) (.str F)=b8 then(if v8 M 28 (.int k) (.int H)=b8 then b8 else b8)else b8))else b8)=b8
   repeat' split
   all_goals rfl
  by_cases e:a=b;subst e;obtain⟨t,z,k,n,x,ds,e,_⟩:=c a f;have:=p e (c a f).pl;rw[dF_<|MI _,e];exact uh this;obtain⟨t,z,k,n,x,ds,rfl,_⟩:=c a f;obtain⟨t',F,H,j,R,ds',rfl,_⟩:=c b i;have o:=g f i e;refine Eq.trans ?_ st;show (if v8 M 29 (.int t) (.int t')=b8 then(if v8 M 29 (.tup [.str z,.int k]) (.tup [.str F,.int H])=b8 then rR (v8 M 29) (D0 M 29) [.int n,.tup<|.str x::ds] [.int j,.tup<|.str R::ds']else D0 M 29 (.tup [.str z,.int k]) (.tup [.str F,.int H]))else D0 M 29 (.int t) (.int t'))=(if v8 M 29 (.int t) (.int t')=b8 then(if v8 M 29 (.tup [.str z,.int k]) (.tup [.str F,.int H])=b8 then b9 else D0 M 29 (.tup [.str z,.int k]) (.tup [.str F,.int H]))else D0 M 29 (.int t) (.int t'))
  rw[jf];by_cases m:t=t';rw[o m];rfl;rw[beq_eq_false_iff_ne.mpr m];rfl
 refine⟨⟨l,λd r=>(s d r).1,λa f b i=>?_,.inr<|.inr<|.inr<|.inl λa f=>?_,λd=>D1 x3<|z9 d,lt⟩,lt⟩
 ·by_cases e:a=b
  subst e;obtain⟨t,z,k,n,x,ds,e,_⟩:=c a f;have:=p e (c a f).pl;rw[e];exact uL this
  ·obtain⟨t,z,k,n,x,ds,rfl,_⟩:=c a f
   obtain⟨t',F,H,j,R,ds',rfl,_⟩:=c b i;have o:=g f i e;show (if v8 M 29 (.int t) (.int t')=b8 then(if v8 M 29 (.tup [.str z,.int k]) (.tup [.str F,.int H])=b8 then yY (v8 M 29) (kG M 29) [.int n,.tup<|.str x::ds] [.int j,.tup<|.str R::ds']else(if v8 M 28 (.str z) (.str F)=b8 then(if v8 M 28 (.int k) (.int H)=b8 then b8 else b8)else b8))else b8)=b8;rw[jf];by_cases m:t=t'
   ·rw[o m]
    repeat' split
    all_goals first|rfl|contradiction
   rw[beq_eq_false_iff_ne.mpr m];rfl
 obtain⟨t,z,k,n,x,ds,rfl,_⟩:=c a f;exact⟨_,_,rfl⟩
theorem uG(c:∀d∈deeds,aw ps rs d)(p:deeds.Pairwise λa b=>aR a=aR b->bo a<bo b)(l:deeds.length<64)(hp:ys.Perm deeds)(i:xQ M ys):Ps ys:=by
 have f:ys.Pairwise λa b=>z9 a≠z9 b:=by refine(hp.pairwise_iff λ{a b} h=>D4 h).mpr<|(O2.mp p).imp λ{a b} ⟨ha,hb,q⟩ e=>?_;obtain⟨t,z,k,n,x,ds,rfl,_⟩:=c a ha;obtain⟨t',F,H,j,R,ds',rfl,_⟩:=c b hb;simp only[z9,D.tup.injEq,PY,D.int.injEq,D.str.injEq,and_true]at e;obtain⟨rfl,rfl,rfl⟩:=e;have:=q rfl;simp only[bo]at this;lia
 refine(O2.mp<|i.and f).imp λ{a b} ⟨ha,hb,q,ne⟩=>?_;rw[(oh c p l).2 b (hp.mem_iff.mp hb) a<|hp.mem_iff.mp ha]at q;refine NM λh=>ne ?_;have s:=(c a<|hp.mem_iff.mp ha).st;have y:=(c b<|hp.mem_iff.mp hb).st;have o:D9 x3 (z9 a)=b8:=by obtain⟨t,z,k,e⟩:=s;rw[e];rfl
 have g:D9 x3 (z9 b)=b8:=by obtain⟨t,z,k,e⟩:=y;rw[e];rfl
 exact Ic (M:=[]) o g (s.cm y)<|List.le_antisymm (List.not_lt.mp<|of_decide_eq_false q)<|List.not_lt.mp h
theorem BW(G:GenH ps rs hs deeds cnt las g)(f:a∈deeds)(d:b∈deeds)(e:aR a=aR b)(h:bo a<bo b):jn a<jn b:=by
 have E:a≠b:=λz=>by rw[z]at h;lia
 rcases Gk (G.up.and G.nup) f d E with q|q;exact q.2 e;have:=q.1 e.symm;lia
def xR:A7:=λds M R=>∃(ps:List (c5×Int)) (s:List (c5×List c5)) (p q:Nat) (ns:List Int) (hs:List D),ds=[aA ps s,.ref p,.ref q]/\HouseF ps s/\aq M p (ns.map .int)/\ns.length<=40/\aq M q hs/\(∀x∈hs,x∈aE ps)/\1<=hs.length/\hs.length<=12/\hs.Nodup/\∀log:List D,(∀d∈log,aw ps s d)->(∀d∈log,bo d<=200)->(∀d∈log,0<=jn d)->log.length<=40->Ps log->(∀a∈log,∀b∈log,aR a=aR b->bo a<bo b->jn a<jn b)->R (.tup log) M
theorem GV:cD xR GF:=by rintro ds M R ⟨ps,a,p,q,ns,hs,rfl,_⟩;rfl
structure K8(M B:w6)(deeds sts:List D)(cnt las:List (D×D)):Prop where
 pre:M <+: B
 deeds:B[M.length]?=a9 (.lst deeds)
 sts:B[M.length+1]?=a9 (.lst sts)
 cnt:B[M.length+2]?=a9 (.dkt cnt)
 las:B[M.length+3]?=a9 (.dkt las)
section
variable{M B:w6}{deeds sts:List D}{cnt las:List (D×D)}
theorem K8.more{L:w6}(g:K8 M B deeds sts cnt las):K8 M (B++L) deeds sts cnt las:=⟨g.pre.trans<|Mc _ _,aM (Mc _ _) g.deeds,aM (Mc _ _) g.sts,aM (Mc _ _) g.cnt,aM (Mc _ _) g.las⟩
theorem K8.setDeeds(g:K8 M B deeds sts cnt las):K8 M (B.set M.length<|.lst deeds') deeds' sts cnt las:=⟨bP g.pre<|x5 _,ci g.deeds,aT (by lia) g.sts,aT (by lia) g.cnt,aT (by lia) g.las⟩
theorem K8.setSts(g:K8 M B deeds sts cnt las):K8 M (B.set (M.length+1)<|.lst sts') deeds sts' cnt las:=⟨bP g.pre (by lia),aT (by lia) g.deeds,ci g.sts,aT (by lia) g.cnt,aT (by lia) g.las⟩
theorem K8.setCnt(g:K8 M B deeds sts cnt las):K8 M (B.set (M.length+2)<|.dkt cnt') deeds sts cnt' las:=⟨bP g.pre (by lia),aT (by lia) g.deeds,aT (by lia) g.sts,ci g.cnt,aT (by lia) g.las⟩
theorem K8.setLas(g:K8 M B deeds sts cnt las):K8 M (B.set (M.length+3)<|.dkt las') deeds sts cnt las':=⟨bP g.pre (by lia),aT (by lia) g.deeds,aT (by lia) g.sts,aT (by lia) g.cnt,ci g.las⟩
end
def wJ:v5:=bt<|v7 fV<|aa (v7 kh<|aa (ab 3) ae) ae
def wK:v5:=E4 (aG<|u8 E8 (u8 z5 (ab 11)<|dC<|.int 0)<|dC<|.str "say") (kF<|ME cE (ab 4)<|aa (dO<|aa (ab 10)<|aa (ab 7) ae) ae) bB
def wL:v5:=aC (aV (v7 At<|aa (ab 8)<|aa (ab 10) ae) 8)<|wK
def wM:v5:=aC (oj (ab 6) (ab 7)<|ab 10)<|wL
def wN:v5:=aC (oj (ab 5) (ab 7)<|u8 aL (ji (ab 5)<|ab 7)<|dC<|.int 1)<|wM
def wO:v5:=aC (kF<|ME cE (ab 3)<|aa (dO<|aa (ab 10)<|aa (ab 7)<|aa (ji (ab 5)<|ab 7)<|aa (ab 11) ae) ae)<|wN
def wP:v5:=aC (aV (v7 uU<|aa (u8 aO (ab 9)<|dC<|.int 20)<|aa (ab 0)<|aa (ab 4)<|aa (ab 2)<|aa (ab 5) ae) 11)<|wO
def zC:v5:=aC (aV (u8 aL (u8 z5 (jp<|aa (ab 8)<|aa (ji (ab 6)<|ab 7)<|aa (u8 aL (ji (ab 6)<|ab 7)<|u8 bY (u8 aO (ab 9)<|dC<|.int 4)<|dC<|.int 5)<|aa (ab 8) ae)<|u8 bY (ab 9)<|dC<|.int 4)<|dC<|.int 1) 10)<|wP
def vm:v5:=aC (aV (u8 aO (ab 9)<|dC<|.int 12) 9)<|zC
def zD:v5:=aC (lE (br<|ab 1) (ap 9)<|aC (aV (u8 z5 (ab 2)<|u8 bY (ab 9)<|v7 ir<|aa (ab 2) ae) 7)<|vm)<|wJ
def zE:v5:=aC (aV (dC<|.int 0) 8)<|zD
def zF:v5:=oj (ab 6) (ab 7)<|dC<|.int 0
def zG:v5:=aC (lE (br<|ab 2) (ap 7)<|aC (oj (ab 5) (ab 7)<|dC<|.int 0)<|zF)<|zE
def zH:v5:=aC (aV (rJ) 6)<|zG
def zI:v5:=aC (aV (rJ) 5)<|zH
def zJ:v5:=aC (aV (jp ae) 4)<|zI
def IX:v5:=aC (aV (jp ae) 3)<|zJ
theorem DQ{M B:w6}{E:DEnds}{s f hs:List D}{e l:List (D×D)}{r num:Int}{ps:List (c5×Int)}{rs:List (c5×List c5)}{p q:Nat}{y7 P Q:Option D}{n:Nat}(g:K8 M B s f e l)(G:GenH ps rs hs s e l r)(hf:HouseF ps rs)(V:aq M q hs)(h:∀x∈hs,x∈aE ps)(h1:1<=hs.length)(hl:hs.length<=12)(I:hs.Nodup)(N:NT f)(sl:f.length<=n)(dl:s.length<=n)(cl:e.length<=12+n)(ll:l.length<=12+n)(ag:n<40)(gn:r<=5*(n:Int))(S:∀deeds' sts' cnt' las' gr' B' a b c d,K8 M B' deeds' sts' cnt' las'->GenH ps rs hs deeds' cnt' las' gr'->gr'<=5*((n:Int)+1)->NT sts'->sts'.length<=n+1->deeds'.length<=n+1->cnt'.length<=12+(n+1)->las'.length<=12+(n+1)->E.nx [a9<|aA ps rs,a9<|.ref p,a9<|.ref q,a9<|.ref M.length,a9<|.ref<|M.length+1,a9<|.ref<|M.length+2,a9<|.ref<|M.length+3,a,a9<|.int gr',b,c,d] B'):(aC (aV (u8 z5 (ab 2)<|u8 bY (ab 9)<|v7 ir<|aa (ab 2) ae) 7)<|vm) E [a9<|aA ps rs,a9<|.ref p,a9<|.ref q,a9<|.ref M.length,a9<|.ref<|M.length+1,a9<|.ref<|M.length+2,a9<|.ref<|M.length+3,y7,a9<|.int r,a9<|.int num,P,Q] B:=by
 have A:=bT g.pre V;have U:∀x∈hs,Hd x:=λx K=>hX x<|h x K;obtain⟨d,F,ed⟩:=fY (xs:=hs) (i:=num) h1;obtain⟨z,k,rfl⟩:=U d F;obtain⟨t,J,⟨_,X⟩,_⟩:=G.last _ F;walk_at"dl";refine⟨_,A,by lia,_,A,?_⟩;rw[ed];simp only[vm,zC];walk_at"dl";refine⟨⟨by decide,by decide⟩,l,_,g.las,rfl,J,l,_,g.las,rfl,J,⟨by decide,by decide⟩,by decide,ao (by lia),by decide,_,ad,?_⟩;generalize num / 12=c;have v0:=ca (a:=c) (b:=4) (by decide);have v1:=cg (a:=c) (b:=4) (by decide);have w0:=ca (a:=c / 4) (b:=5) (by decide);have w1:=cg (a:=c / 4) (b:=5) (by decide);obtain⟨u,eu,tu,ug⟩:∃u:Int,atI [D.int r,D.int t,D.int<|t+c / 4 % 5,D.int r] (c % 4)=a9 (.int u)/\t<=u/\u<=r+4:=by
  generalize c / 4 % 5=w at w0 w1;generalize c % 4=v at v0 v1;have:v=0\/v=1\/v=2\/v=3:=by lia
  rcases this with rfl|rfl|rfl|rfl;exact⟨_,au (j:=0) rfl,X,by lia⟩;exact⟨_,au (j:=1) rfl,PB _,by lia⟩;exact⟨_,au (j:=2) rfl,by lia,by lia⟩;exact⟨_,au (j:=3) rfl,X,by lia⟩
 rw[eu];walk_at"dl";have g1:=g.more (L:=[MO.lst [D.int r,D.int t,D.int<|t+c / 4 % 5,D.int r]]);generalize B++[MO.lst [D.int r,D.int t,D.int<|t+c / 4 % 5,D.int r]]=Y at g1;have W:t<u+1:=by lia
 have Tg:u+1<=r+5:=by lia
 generalize u+1=T at W Tg;obtain⟨i,hi,i0,_⟩:=G.cnt _ F;simp only[wP];walk_at"dl";refine⟨⟨by decide,by decide⟩,_,ps,rs,M.length+1,q,M.length+2,f,hs,e,rfl,hf,.inl g1.sts,N,by lia,bT g1.pre V,U,h1,hl,I,g1.cnt,λx K=>(G.cnt x K).imp λ_ q=>q.1,λx ds pl H=>?_⟩;simp only[wO];walk_at"dl";refine⟨⟨_,.inl g1.deeds⟩,e,_,g1.cnt,rfl,hi,ao (by lia),_,g1.deeds,av (by lia),?_⟩;have C:=g1.setDeeds (deeds':=s++[.tup [.int T,.tup [.str z,.int k],.int i,.tup<|.str x::ds]]);generalize Y.set M.length _=Z at C;simp only[wN];walk_at"dl";refine⟨e,_,C.cnt,rfl,hi,?_⟩;walk_at"dl";refine⟨e,C.cnt,rfl,av (by lia),?_⟩;have g3:=C.setCnt (cnt':=fZ e (.tup [.str z,.int k])<|.int<|i+1);generalize Z.set (M.length+2) _=B3 at g3;simp only[wM];walk_at"dl";refine⟨l,g3.las,rfl,av (by lia),?_⟩;have m:=g3.setLas (las':=fZ l (.tup [.str z,.int k])<|.int T);generalize B3.set (M.length+3) _=B4 at m;have R:=G.step (num:=i) F J W hi pl H h;have o:(if T > r then T else r)<=5*((n:Int)+1):=by split<;>lia
 have l1:=dj (kvs:=e) (k:=.tup [.str z,.int k]) (d:=.int<|i+1);have l2:=dj (kvs:=l) (k:=.tup [.str z,.int k]) (d:=.int T);simp only[wL];walk_at"dl";simp only[wK];walk_at"dl";refine⟨⟨aP,aP⟩,?_⟩;split;refine⟨⟨_,.inl m.sts⟩,ao (by lia),f,m.sts,av (by lia),S _ _ _ _ _ _ _ _ _ _ m.setSts R o (λy O=>?_) (by rw[B6,G5];lia) (by rw[B6,G5];lia) (by lia)<|by lia⟩;rcases Fn.mp O with O|O;exact N y O;exact⟨T,z,k,F0.mp O⟩;exact S _ _ _ _ _ _ _ _ _ _ m R o N (by lia) (by rw[B6,G5];lia) (by lia)<|by lia
theorem IS:C1 xR 12 IX:=by
 rintro ds M R ⟨ps,A,p,q,ns,hs,rfl,hf,hp,nl,v,o,h1,hl,J,h⟩;have hh:∀x∈hs,Hd x:=λx f=>hX x<|o x f;simp only[IX,zJ,zI,zH];walk_at"dl";refine⟨A8 _,A8 _,?_⟩;have N:(M++[MO.lst []]).length=M.length+1:=by simp
 have P:(M++[MO.lst []]++[MO.lst []]).length=M.length+2:=by simp
 have Q:(M++[MO.lst []]++[MO.lst []]++[MO.dkt []]).length=M.length+3:=by simp
 rw[N,P,Q];have B:K8 M (M++[MO.lst []]++[MO.lst []]++[MO.dkt []]++[MO.dkt []]) [] [] [] []:=by refine⟨((bf.trans bf).trans bf).trans bf,ac<|ac<|ac af,?_,?_,?_⟩;rw[<-N];exact ac<|ac af;rw[<-P];exact ac af;rw[<-Q];exact af
 generalize M++[MO.lst []]++[MO.lst []]++[MO.dkt []]++[MO.dkt []]=B0 at B;simp only[zG];walk_at"dl";refine⟨_,bT B.pre v,λ_=>?_⟩;refine bh (λi S n=>∃(t j:List (D×D)) (a:Option D),K8 M n [] [] t j/\(∀x∈hs.take i,bb t x=a9 (.int 0)/\bb j x=a9 (.int 0))/\t.length<=i/\j.length<=i/\S=[a9<|aA ps A,a9<|.ref p,a9<|.ref q,a9<|.ref M.length,a9<|.ref<|M.length+1,a9<|.ref<|M.length+2,a9<|.ref<|M.length+3,a,b7,b7,b7,b7]) ?_ ?_ ⟨[],[],_,B,(λ_ z=>nomatch z),x5 _,x5 _,rfl⟩;rintro S n ⟨t,j,a,g,r,u,w,rfl⟩;rw[MA]at r;refine⟨bT g.pre v,?_⟩;simp only[zE,zD];walk_at"dl";refine⟨_,bT g.pre hp,λ_=>?_⟩;refine bh (λi S n=>∃(s l:List D) (t j:List (D×D)) (E:Int) (a b c d:Option D),K8 M n s l t j/\GenH ps A hs s t j E/\E<=5*(i:Int)/\NT l/\l.length<=i/\s.length<=i/\t.length<=12+i/\j.length<=12+i/\S=[a9<|aA ps A,a9<|.ref p,a9<|.ref q,a9<|.ref M.length,a9<|.ref<|M.length+1,a9<|.ref<|M.length+2,a9<|.ref<|M.length+3,a,a9<|.int E,b,c,d]) ?_ ?_ ⟨[],[],t,j,0,_,_,_,_,g,⟨(λ_ z=>nomatch z),.nil,λx f=>⟨0,(r x f).2,⟨PB _,PB _⟩,(λ_ z=>nomatch z)⟩,λx f=>⟨0,(r x f).1,PB _,(λ_ z=>nomatch z)⟩,.nil,(λ_ z=>nomatch z),(λ_ z=>nomatch z)⟩,by lia,(λ_ z=>nomatch z),x5 _,x5 _,by lia,by lia,rfl⟩;rintro S n ⟨s,l,t,j,E,a,b,c,d,g,G,F,V,U,Z,u,w,rfl⟩;rw[w4]at Z F;refine⟨bT g.pre hp,?_⟩;simp only[wJ];walk_at"dl";refine⟨s,.inl g.deeds,(oh G.deed G.up<|by lia).1,λys O hr=>⟨ys,ad,?_⟩⟩;have T:∀d∈ys,aw ps A d:=λd m=>G.deed d<|O.mem_iff.mp m;exact aZ.keep (h ys T (λd m=>Int.le_trans (G.le d<|O.mem_iff.mp m)<|by lia) (λd m=>G.nn d<|O.mem_iff.mp m) (by rw[O.length_eq];lia) (uG G.deed G.up (by lia) O hr) λa Y b hb=>BW G (O.mem_iff.mp Y)<|O.mem_iff.mp hb) (.tup<|aw.bels T)<|g.pre.trans bf;rintro i y S n O ⟨s,l,t,j,E,a,b,c,d,g,G,F,V,U,Z,u,w,rfl⟩ K I;refine⟨bT g.pre hp,?_⟩;rw[D8]at O;obtain⟨ag,hn,rfl⟩:=MZ.mp O;have hi:=(C2.mp hn).1;simp only[ap,QD,QC];exact DQ g G hf v o h1 hl J V U Z u w (by lia) F λdeeds' sts' cnt' las' gr' B' a b c d X W H L s1 s2 s3 s4=>E1.now<|I _ _ ⟨deeds',sts',cnt',las',gr',_,_,_,_,X,W,H,L,s1,s2,s3,s4,rfl⟩;rintro i y S n O ⟨t,j,a,g,r,u,w,rfl⟩ K I;have hi:=(C2.mp O).1;refine⟨bT g.pre v,?_⟩;obtain⟨z,k,rfl⟩:=hh y<|G1 O;simp only[zF];walk_at"dl";refine⟨t,g.cnt,rfl,av (by lia),?_⟩;have C:=g.setCnt (cnt':=fZ t (.tup [.str z,.int k])<|.int 0);have l1:=dj (kvs:=t) (k:=.tup [.str z,.int k]) (d:=.int 0);have l2:=dj (kvs:=j) (k:=.tup [.str z,.int k]) (d:=.int 0);generalize n.set (M.length+2) _=B2 at C;refine⟨j,C.las,rfl,av (by lia),E1.now<|I _ _ ⟨_,_,_,C.setLas,λx f=>?_,by lia,by lia,rfl⟩⟩;rw[MJ,O]at f;by_cases e:x=.tup [.str z,.int k];subst e;exact⟨dn,dn⟩;rw[cj e,cj e];rcases Fn.mp f with f|f;exact r x f;exact t7 (by simpa using f) e
theorem JR(T:Tops P w K mg base):x6 P w K mg base 4 "_law_log" GF xR:=x6.byD (N:=["_law_house_here","_law_numbers_here","_law_hands_here","_law_log_here","_law_says","_law_counts","_law_last","_law_hand","_law_greatest","_law_number","_law_time","_law_act_here"]) T.b T.f_log (by walk_at"sc") GV (by have:=Fy T;walk_at"dv") IS
structure LogO(ps:List (c5×Int))(rs:List (c5×List c5))(log:List D):Prop where
 deed:∀d∈log,aw ps rs d
 ris:Ps log
 nn:∀d∈log,0<=jn d
def oF:A7:=λds M R=>∃(ps:List (c5×Int)) (a:List (c5×List c5)) (log:List D) (z:c5) (k:Int) (x:c5) (Z:List D),ds=[aA ps a,.tup log,.tup<|.str x::Z,.tup [.str z,.int k]]/\LogO ps a log/\log.length<=50/\D.tup [.str z,.int k]∈aE ps/\lT 4 Z/\ActK a x Z/\∀t m:Int,LogO ps a (log++[.tup [.int t,.tup [.str z,.int k],.int m,.tup<|.str x::Z]])->R (.tup<|log++[.tup [.int t,.tup [.str z,.int k],.int m,.tup<|.str x::Z]]) M
theorem DV:cD oF AE:=by rintro ds M R ⟨ps,a,log,z,k,x,Z,rfl,_⟩;rfl
theorem wC(f:aw ps rs a)(d:aw ps rs b)(h:bo a<bo b):D1 x3 (z9 a)<D1 x3 (z9 b):=by obtain⟨t,z,k,n,x,ds,rfl,_⟩:=f;obtain⟨t',F,H,c,R,ds',rfl,_⟩:=d;exact MD.mpr<|.inr ⟨rfl,MD.mpr<|.inr ⟨rfl,MD.mpr<|.inr ⟨rfl,MD.mpr<|.inl h⟩⟩⟩
theorem CV(f:aw ps rs a)(d:aw ps rs b)(e:aR a=aR b)(h:D1 x3 (z9 a)<D1 x3 (z9 b)):bo a<bo b:=by
 refine Int.not_le.mp λle=>?_;by_cases E:bo b<bo a;exact MI _<|List.lt_trans h<|wC d f E;obtain⟨t,z,k,n,x,ds,rfl,_⟩:=f;obtain⟨t',F,H,c,R,ds',rfl,_⟩:=d;have e:D.tup [.str z,.int k]=.tup [.str F,.int H]:=e;have le:t'<=t:=le;have E:¬t' < t:=E;have g:t=t':=by lia
 have h:D1 x3 (.tup [.int t,.tup [.str z,.int k]])<D1 x3 (.tup [.int t',.tup [.str F,.int H]]):=h;rw[e,g]at h;exact MI _ h
theorem LogO.up(L:LogO ps rs log):log.Pairwise λa b=>aR a=aR b->bo a<bo b:=(O2.mp L.ris).imp λ{a b} ⟨ha,hb,q⟩ e=>CV (L.deed a ha) (L.deed b hb) e q
theorem LogO.snoc(L:LogO ps rs log)(h:aw ps rs d)(n:0<=jn d)(B:∀e∈log,bo e<bo d):LogO ps rs (log++[d]):=by refine⟨λe i=>?_,Rm.mpr ⟨L.ris,O9 _ _,λa f b c=>?_⟩,λe i=>?_⟩;rcases Fn.mp i with i|i;exact L.deed e i;rw[F0.mp i];exact h;rw[F0.mp c];exact wC (L.deed a f) h<|B a f;rcases Fn.mp i with i|i;exact L.nn e i;rw[F0.mp i];exact n
theorem LogO.sorted(L:LogO ps rs log)(l:log.length<64)(hp:ys.Perm log)(i:xQ M ys):ys=log:=by have h:=uG L.deed L.up l hp i;exact List.Perm.eq_of_pairwise (le:=λa b=>D1 x3 (z9 a)<D1 x3 (z9 b)) (λa b _ _ h1 h2=>t7 (List.lt_trans h1 h2)<|MI _) h L.ris hp
def wH:v5:=bt<|v7 fV<|aa (v7 lH<|aa (u8 aL (ab 1)<|dO<|aa (dO<|aa (ab 4)<|aa (ab 3)<|aa (ab 5)<|aa (ab 2) ae) ae) ae) ae
def wI:v5:=aC (aV (v7 ir<|aa (F6 1 [3] (br<|ab 1) (ap 0) (aG<|u8 E8 (u8 z5 (ab 0)<|dC<|.int 1)<|ab 1)<|ab 0) ae) 5)<|wH
def Fp:v5:=aC (aV (u8 aL (v7 As<|aa (u8 aL (F6 1 [] (br<|ab 1) (ap 0) oH<|u8 z5 (ab 0)<|dC<|.int 0)<|jp<|aa (dC<|.int 0) ae) ae)<|dC<|.int 1) 4)<|wI
theorem FT:C1 oF 6 Fp:=by
 rintro ds M R ⟨ps,T,log,z,k,w,o,rfl,L,O,K,f,A,h⟩;have s:=L.deed;simp only[Fp];walk_at"dl";intro _;refine bi (λd=>.int<|bo d) (λS=>∃a,S=[a]) trivial _ _ _ (λd g S E=>?_) ⟨_,rfl⟩ (by rw[D3];exact ao<|by lia) ?_;obtain⟨a,rfl⟩:=E;obtain⟨t',F,H,n,x,ds,rfl,_⟩:=s d g;refine⟨[a9<|.tup [.int t',.tup [.str F,.int H],.int n,.tup<|.str x::ds]],⟨_,rfl⟩,λY G=>?_⟩;walk_at"dl";exact G;rw[G4];have J:log.map (λd=>D.int<|bo d)=(log.map bo).map D.int:=by rw[E2];rfl
 rw[J];have p:M <+: M++[MO.lst<|(log.map bo).map D.int]:=bf;have q:(M++[MO.lst<|(log.map bo).map D.int])[M.length]?=a9 (.lst<|(log.map bo).map D.int):=af;generalize M++[MO.lst<|(log.map bo).map D.int]=y at p q;refine⟨ao (by decide),_,_,ac q,af,ao (by rw[w4,w4,G5];lia),?_⟩;replace p:=p.trans<|bf (mo:=MO.lst [D.int 0]);generalize y++[MO.lst [D.int 0]]=B at p;have v:=p.trans<|bf (mo:=MO.lst<|(log.map bo).map D.int++[D.int 0]);have Q:(B++[MO.lst<|(log.map bo).map D.int++[D.int 0]])[B.length]?=a9 (.lst<|(log.map bo++[0]).map D.int):=by rw[af,J3];rfl
 generalize B++[MO.lst<|(log.map bo).map D.int++[D.int 0]]=I at v Q;refine⟨log.map bo++[0],.inl Q,by simp,λi U l=>?_⟩;have P:=l 0 (by simp);have j:∀d∈log,bo d<i+1:=λd e=>by have:=l (bo d)<|MC _<|K1 e;lia
 simp only[wI];walk_at"dl";intro _;refine aK (λd=>v8 I x3 (aR d)<|.tup [.str z,.int k]) id (λS=>∃a,S=[a,a9<|.tup [.str z,.int k]]) trivial _ _ _ ?_ ⟨_,rfl⟩ (by rw[D3];exact ao<|by lia) ?_;rintro d g S ⟨a,rfl⟩;obtain⟨t',F,H,n,x,ds,rfl,_⟩:=s d g;refine⟨[a9<|.tup [.int t',.tup [.str F,.int H],.int n,.tup<|.str x::ds],a9<|.tup [.str z,.int k]],⟨_,rfl⟩,λY Z b=>?_⟩;walk_at"dl";refine⟨⟨rfl,rfl⟩,?_⟩;have C:aR (.tup [.int t',.tup [.str F,.int H],.int n,.tup<|.str x::ds])=.tup [.str F,.int H]:=rfl;rw[C]at b;cases r:v8 I x3 (.tup [.str F,.int H]) (.tup [.str z,.int k]) with
 |true=>rw[r]at b;exact dN b
 |false=>rw[r]at b;exact dg b
 refine⟨_,ad,?_⟩;simp only[wH];walk_at"dl";have u:(0:Int)<=((List.map id<|List.filter (λd=>v8 I x3 (aR d)<|D.tup [D.str z,D.int k]) log).length:Int):=Int.natCast_nonneg _;generalize ((List.map id<|List.filter (λd=>v8 I x3 (aR d)<|D.tup [D.str z,D.int k]) log).length:Int)=m at u;have e:aw ps T (.tup [.int<|i+1,.tup [.str z,.int k],.int m,.tup<|.str w::o]):=⟨_,_,_,_,_,_,rfl,by lia,K,f,A⟩
 have c:=L.snoc e u j;have t:(log++[D.tup [.int<|i+1,.tup [.str z,.int k],.int m,.tup<|.str w::o]]).length<64:=by rw[B6,G5];lia
 refine⟨ao (by decide),ao (by decide),ao (by lia),(oh c.deed c.up t).1,λys hp N=>⟨ys,ad,?_⟩⟩;rw[c.sorted t hp N];exact aZ.keep (h _ _ c) (.tup<|aw.bels c.deed)<|(v.trans bf).trans bf
theorem AJ(T:Tops P w K mg base):x6 P w K mg base 1 "_law_more" AE oF:=x6.byD (N:=["_law_house_here","_law_log_here","_law_act_here","_law_hand","_law_time","_law_count"]) T.b T.f_more (by walk_at"sc") DV (by walk_at"dv") FT
def Nz(rs:List (c5×List c5))(log:List D)(B:w6)(n:Nat)(p:D×D):Prop:=∃(r m:c5) (q:Nat),n<q/\(r∈rs.map (·.1)/\m∈oP rs r)/\p=(.tup [.str r,.str m],.ref q)/\B[q]?=a9 (.lst<|(eN rs log m r).map z9)/\(eN rs log m r).length<=log.length/\(∀x∈(eN rs log m r).map z9,St x)/\∀e∈eN rs log m r,ba e=r
def jX:A7:=λds M R=>∃(ps:List (c5×Int)) (a:List (c5×List c5)) (log:List D),ds=[aA ps a,.tup log]/\HouseF ps a/\(∀d∈log,aw ps a d)/\log.length<64/\∀n B kvs,M <+: B->M.length<=n->B[n]?=a9 (.dkt kvs)->(∀p∈kvs,Nz a log B n p)->(∀r m,r∈a.map (·.1)->m∈oP a r->∃d,bb kvs (.tup [.str r,.str m])=a9 d)->kvs.length<=16->R (.ref n) B
theorem Bb:cD jX vA:=by rintro ds M R ⟨ps,a,log,rfl,_⟩;rfl
theorem Nz.more(h:Nz rs log B n p):Nz rs log (B++[x]) n p:=by obtain⟨r,m,q,h1,h2,a,d,k⟩:=h;exact⟨r,m,q,h1,h2,a,ac d,k⟩
theorem Nz.setN(h:Nz rs log B n p):Nz rs log (B.set n x) n p:=by obtain⟨r,m,q,h1,h2,a,d,k⟩:=h;exact⟨r,m,q,h1,h2,a,aT (by lia) d,k⟩
def sk:v5:=bt<|ab 2
def ss:v5:=aC (lE (br<|u8 z5 (ab 0)<|dC<|.int 1) (nZ 2<|cq (ap 3)<|cq (ap 4) og)<|lE (br<|ab 4) (ap 5)<|oj (ab 2) (dO<|aa (ab 3)<|aa (ab 5) ae)<|v7 cL<|aa (ab 0)<|aa (ab 1)<|aa (ab 5)<|aa (ab 3) ae)<|sk
def zw:v5:=aC (aV (rJ) 2)<|ss
theorem Cu:C1 jX 6 zw:=by
 rintro ds M R ⟨ps,s,log,rfl,B,N,Q,h⟩;simp only[zw];walk_at"dl";have H:M <+: M++[MO.dkt []]:=bf;have E:(M++[MO.dkt []])[M.length]?=a9 (.dkt []):=af;generalize M++[MO.dkt []]=V at H E;have rl:=B.rl;simp only[ss,aA];walk_at"dl";intro _;refine bh (λi S g=>∃(kvs:List (D×D)) (a b c:Option D),M <+: g/\g[M.length]?=a9 (.dkt kvs)/\(∀p∈kvs,Nz s log g M.length p)/\(∀f∈s.take i,∀m∈f.2,∃d,bb kvs (.tup [.str f.1,.str m])=a9 d)/\kvs.length<=4*i/\S=[a9<|aA ps s,a9<|.tup log,a9<|.ref M.length,a,b,c]) ?_ ?_ ⟨[],_,_,_,H,E,(λ_ z=>nomatch z),(λ_ z=>nomatch z),x5 _,rfl⟩;rintro S g ⟨kvs,a,b,c,pM,t,st,q,v,rfl⟩;rw[w4]at v q;rw[MA]at q;refine⟨trivial,?_⟩;simp only[sk];walk_at"dl";refine .inl (h _ _ kvs pM (x5 _) t st (λr m n l=>?_)<|by lia);obtain⟨f,A,rfl⟩:=A0.mp n;rw[jO B.rnd A]at l;exact q f A m l;rintro i y S Y O ⟨kvs,a,b,c,pM,t,st,q,v,rfl⟩ G x;rw[D8]at O;obtain⟨f,hi,rfl⟩:=MZ.mp O;have l:=G1 hi;have K:s.take (i+1)=s.take i++[f]:=by rw[MJ,hi];rfl
 have J:=jO B.rnd l;have n:f.1∈s.map (·.1):=K1 l;have ml:=B.rm f l;rw[K]at x;refine⟨trivial,?_⟩;unfold eR;walk_at"dl";refine⟨trivial,λ_=>?_⟩;refine bh (λj S g=>∃(kvs:List (D×D)) (c:Option D),M <+: g/\g[M.length]?=a9 (.dkt kvs)/\(∀p∈kvs,Nz s log g M.length p)/\(∀f∈s.take i,∀m∈f.2,∃d,bb kvs (.tup [.str f.1,.str m])=a9 d)/\(∀m∈f.2.take j,∃d,bb kvs (.tup [.str f.1,.str m])=a9 d)/\kvs.length<=4*i+j/\S=[a9<|aA ps s,a9<|.tup log,a9<|.ref M.length,a9<|.str f.1,a9<|.tup<|f.2.map .str,c]) ?_ ?_ ⟨kvs,_,pM,t,st,q,(λ_ z=>nomatch z),v,rfl⟩;rintro S g ⟨kvs,c,pM,t,st,q,w,v,rfl⟩;rw[w4]at v w;rw[MA]at w;refine⟨trivial,E1.now<|x _ _ ⟨kvs,_,_,_,pM,t,st,λr n m l=>?_,by lia,rfl⟩⟩;rcases Fn.mp n with n|n;exact q r n m l;rw[F0.mp n]at l ⊢;exact w m l;rintro j y S g O ⟨kvs,c,pM,t,st,q,w,v,rfl⟩ G x;rw[D8]at O;obtain⟨m,L,rfl⟩:=MZ.mp O;have C:=G1 L;have jl:j<f.2.length:=(C2.mp L).1;have Z:i<s.length:=(C2.mp hi).1;have I:f.2.take (j+1)=f.2.take j++[m]:=by rw[MJ,L];rfl
 have F:m∈oP s f.1:=by rw[J];exact C
 rw[I]at x;refine⟨trivial,?_⟩;walk_at"dl";refine⟨ps,s,log,m,f.1,rfl,n,F,N,Q,λX hs U=>⟨ao (by decide),kvs,ac t,rfl,av (by lia),?_⟩⟩;have W:=bg t;have pl:=dj (kvs:=kvs) (k:=.tup [.str f.1,.str m]) (d:=.ref g.length);have u:∀k:D,(∃d,bb kvs k=a9 d)->∃d,bb (fZ kvs (.tup [.str f.1,.str m])<|.ref g.length) k=a9 d:=λk ⟨d,P⟩=>by by_cases e:k=.tup [.str f.1,.str m];rw[e];exact⟨_,dn⟩;exact⟨d,by rw[cj e];exact P⟩
 refine E1.now<|x _ _ ⟨fZ kvs (.tup [.str f.1,.str m])<|.ref g.length,_,bP (pM.trans bf)<|x5 _,Nk (by simp;lia),λp hp=>?_,λr n m l=>u _<|q r n m l,λT o=>?_,by lia,rfl⟩;rcases lI hp with rfl|hp;exact⟨f.1,m,g.length,W,⟨n,F⟩,rfl,aT (by lia) af,X,hs,U⟩;exact(st p hp).more.setN;rcases Fn.mp o with o|o;exact u _<|w T o;rw[F0.mp o];exact⟨_,dn⟩
theorem Dq(T:Tops P w K mg base):x6 P w K mg base 9 "_law_state" vA jX:=x6.byD (N:=["_law_house_here","_law_log_here","_law_found","_law_room","_law_members","_law_name"]) T.b T.f_state (by walk_at"sc") Bb (by have:=gZ T;walk_at"dv") Cu
def ik:A7:=λds M R=>∃(ps:List (c5×Int)) (a:List (c5×List c5)) (log:List D) (c:Int),ds=[aA ps a,.tup log,.int c]/\HouseF ps a/\LogO ps a log/\log.length<=42/\∀more,LogO ps a (log++more)->more.length<=8->R (.tup<|log++more) M
theorem vX:cD ik nD:=by rintro ds M R ⟨ps,a,log,c,rfl,_⟩;rfl
theorem jS(hf:HouseF ps rs):Rf ps/\1<=(aE ps).length/\(aE ps).length<=12:=by
 have f:Rf ps:=⟨hf.len.2,λq h=>⟨by have:=hf.many q h;lia,(hf.many q h).2⟩⟩
 have n:=qd f.2;refine⟨f,?_,by have:=f.1;lia⟩
 match ps,hf with
 | [],hf=>have:=hf.len.1;simp at this
 |p::ps,hf=>have:=(hf.many p<|by simp).1;rw[aE,List.flatMap_cons,B6,je];lia
theorem xG(h:(ps.map (·.1)).Nodup):(aE ps).Nodup:=by unfold aE;rw[Oc,List.pairwise_flatMap];refine⟨λp _=>?_,?_⟩;unfold cZ ip;rw[E2,P3];refine(Oc.mp Qx).imp λ{a b} hne e=>hne ?_;have e:D.tup [.str p.1,.int<|0+(a:Int)]=.tup [.str p.1,.int<|0+(b:Int)]:=e;injection e with e;injection e with _ e;injection e with e;injection e with e;lia;refine(List.pairwise_map.mp<|Oc.mp h).imp λ{a b} hne x hx y hy e=>hne ?_;unfold cZ at hx hy;obtain⟨i,_,rfl⟩:=A0.mp hx;obtain⟨j,_,c⟩:=A0.mp hy;rw[<-c]at e;injection e with e;injection e with e _;injection e with e
def mK:v5:=bt<|ab 1
def mL:v5:=aV (v7 oF<|aa (ab 0)<|aa (ab 1)<|aa (ab 8)<|aa (u8 z5 (ab 3)<|u8 bY (ab 2)<|v7 ir<|aa (ab 3) ae) ae) 1
def mM:v5:=aC (aV (u8 aL (u8 aO (ab 2)<|u8 Fv (dC<|.int 10)<|dC<|.int 9)<|ab 4) 2)<|mL
def mN:v5:=aC (aV (v7 uU<|aa (u8 bY (ab 2)<|u8 Fv (dC<|.int 10)<|dC<|.int 9)<|aa (ab 0)<|aa (ab 5)<|aa (ab 3)<|aa (ab 6) ae) 8)<|mM
def mO:v5:=aC (lE (br<|ab 3) (ap 7)<|oj (ab 6) (ab 7)<|v7 ir<|aa (F6 1 [7] (br<|ab 1) (ap 0) (aG<|u8 E8 (u8 z5 (ab 0)<|dC<|.int 1)<|ab 1)<|ab 0) ae)<|mN
def iL:v5:=aC (aV (rJ) 6)<|mO
def mP:v5:=aC (lE (bU<|aa (dC<|.int 8) ae) (ap 4)<|aC (gK 1 [] (br<|ab 1) (ap 0) (aG<|u8 E8 (u8 z5 (u8 z5 (ab 0)<|dC<|.int 3)<|dC<|.int 0)<|dC<|.str "say") (dO<|aa (u8 z5 (ab 0)<|dC<|.int 0)<|aa (u8 z5 (ab 0)<|dC<|.int 1) ae) 5)<|iL)<|mK
def sY:v5:=aC (aV (v7 jZ<|aa (ab 0) ae) 3)<|mP
theorem uw(A:HouseF ps rs)(L:LogO ps rs log)(q:log.length<=50)(g3:B[q3]?=a9 (.lst<|aE ps))(pM:B <+: M')(hE:∀d c' a b e f M1,B <+: M1->LogO ps rs (log++[d])->E.nx [a9<|aA ps rs,a9<|.tup<|log++[d],a9<|.int c',a9<|.ref q3,a9<|.int k,a,b,e,f] M1):(aC (gK 1 [] (br<|ab 1) (ap 0) (aG<|u8 E8 (u8 z5 (u8 z5 (ab 0)<|dC<|.int 3)<|dC<|.int 0)<|dC<|.str "say") (dO<|aa (u8 z5 (ab 0)<|dC<|.int 0)<|aa (u8 z5 (ab 0)<|dC<|.int 1) ae) 5)<|iL) E [a9<|aA ps rs,a9<|.tup log,a9<|.int c,a9<|.ref q3,a9<|.int k,a5,a6,a7,a8] M':=by
 obtain⟨ag,Q,I⟩:=jS A;have w:=L.deed;walk_at"dl";intro _;refine aK (λd=>decide<|aY d=v6 "say") z9 (λS=>∃a,S=[a]) trivial _ _ _ ?_ ⟨_,rfl⟩ (by rw[D3];exact ao<|by lia) ?_;rintro d C S ⟨a,rfl⟩;obtain⟨t',F,H,n,x,ds,rfl,_⟩:=w d C;refine⟨[a9<|.tup [.int t',.tup [.str F,.int H],.int n,.tup<|.str x::ds]],⟨_,rfl⟩,λY Z h=>?_⟩;walk_at"dl";have X:atI [D.int t',.tup [.str F,.int H],.int n,.tup<|.str x::ds] 3=a9 (.tup<|.str x::ds):=au (j:=3) rfl;rw[X];dsimp only;rw[Oi];refine⟨⟨aP,aP⟩,?_⟩;rw[ck];have v:aY (.tup [.int t',.tup [.str F,.int H],.int n,.tup<|.str x::ds])=x:=rfl;rw[v]at h;by_cases l:x=v6 "say";rw[dT_ l]at h;rw[beq_iff_eq.mpr l];exact dN ⟨ao (by decide),h⟩;rw[dF_ l]at h;rw[beq_eq_false_iff_ne.mpr l];exact dg h;rw[G4];have T:NT ((log.filter λd=>decide<|aY d=v6 "say").map z9):=λx l=>by obtain⟨e,he,rfl⟩:=A0.mp l;exact(w e (E7.mp he).1).st
 have sl:((log.filter λd=>decide<|aY d=v6 "say").map z9).length<=50:=by rw[w4];exact J7 (Mi _ _) q
 generalize (log.filter λd=>decide<|aY d=v6 "say").map z9=s at T sl;have m:(M'++[MO.lst s])[M'.length]?=a9 (.lst s):=af;replace pM:=pM.trans<|bf (mo:=MO.lst s);generalize M'++[MO.lst s]=M1 at m pM;generalize M'.length=K at m;simp only[iL];walk_at"dl";have l1:M1.length<(M1++[MO.dkt []]).length:=by simp
 have o:(M1++[MO.dkt []])[M1.length]?=a9 (.dkt []):=af;have R:=pM.length_le;have M:=bg m;replace m:=ac (a:=MO.dkt []) m;replace pM:=pM.trans<|bf (mo:=MO.dkt []);generalize M1++[MO.dkt []]=M2 at m o pM;generalize M1.length=J at o R M;simp only[mO];walk_at"dl";refine⟨_,.inl<|aM pM g3,λ_=>?_⟩;refine bh (λi S M'=>∃(g:List (D×D)) (a7:Option D),B <+: M'/\M'[J]?=a9 (.dkt g)/\M'[K]?=a9 (.lst s)/\(∀x∈(aE ps).take i,∃j:Int,bb g x=a9 (.int j))/\g.length<=i/\S=[a9<|aA ps rs,a9<|.tup log,a9<|.int c,a9<|.ref q3,a9<|.int k,a9<|.ref K,a9<|.ref J,a7,a8]) ?_ ?_ ⟨[],_,pM,o,m,(λ_ z=>nomatch z),x5 _,rfl⟩;rintro S M' ⟨g,a7,pM,o,m,r,W,rfl⟩;rw[MA]at r;refine⟨.inl<|aM pM g3,?_⟩;simp only[mN];walk_at"dl";refine⟨by unfold IR;decide,by decide,_,ps,rs,K,q3,J,s,aE ps,g,rfl,A,.inl m,T,by lia,.inl<|aM pM g3,λx l=>hX x l,Q,I,xG A.pnd,o,r,λx ds u V=>?_⟩;simp only[mM,mL];walk_at"dl";have p:aq M' q3 (aE ps):=.inl<|aM pM g3;refine⟨by unfold IR;decide,by unfold rQ;decide,_,p,by lia,_,p,?_⟩;obtain⟨y,O,ey⟩:=fY (xs:=aE ps) (i:=c / 10 ^ Int.toNat 9+k) Q;rw[ey];obtain⟨z,j,rfl⟩:=hX y O;exact⟨ps,rs,log,z,j,x,ds,rfl,L,q,O,u,V,λt ai U=>hE _ _ _ _ _ _ _ pM U⟩;rintro i y S M' O ⟨g,a7,pM,o,m,r,W,rfl⟩ G N;have il:=(C2.mp O).1;have et:(aE ps).take (i+1)=(aE ps).take i++[y]:=by rw[MJ,O];rfl
 rw[et]at N;obtain⟨z,j,rfl⟩:=hX y<|G1 O;refine⟨.inl<|aM pM g3,?_⟩;walk_at"dl";intro _;refine aK (λd=>v8 M' x3 (aR d)<|.tup [.str z,.int j]) id (λS=>∃a,S=[a,a9<|.tup [.str z,.int j]]) trivial _ _ _ ?_ ⟨_,rfl⟩ (by rw[D3];exact ao<|by lia) ?_;rintro d C S ⟨a,rfl⟩;obtain⟨t',F,H,n,x,ds,rfl,_⟩:=w d C;refine⟨[a9<|.tup [.int t',.tup [.str F,.int H],.int n,.tup<|.str x::ds],a9<|.tup [.str z,.int j]],⟨_,rfl⟩,λY Z h=>?_⟩;walk_at"dl";refine⟨⟨rfl,rfl⟩,?_⟩;have v:aR (.tup [.int t',.tup [.str F,.int H],.int n,.tup<|.str x::ds])=.tup [.str F,.int H]:=rfl;rw[v]at h;cases P:v8 M' x3 (.tup [.str F,.int H]) (.tup [.str z,.int j]) with
 |true=>rw[P]at h;exact dN h
 |false=>rw[P]at h;exact dg h
 refine⟨_,ad,g,ac o,rfl,av (by lia),?_⟩;have u:=λd=>dj (kvs:=g) (k:=.tup [.str z,.int j]) (d:=d);refine E1.now<|N _ _ ⟨fZ g (.tup [.str z,.int j]) _,_,bP (pM.trans bf) R,Nk (by have:=bg o;simp;lia),aT (by lia)<|ac m,λx l=>?_,by have:=u;exact J7 (u _) (by lia),rfl⟩;by_cases e:x=.tup [.str z,.int j];rw[e];exact⟨_,dn⟩;rw[cj e];rcases Fn.mp l with l|l;exact r x l;exact t7 (F0.mp l) e
theorem xY:C1 ik 9 sY:=by rintro ds M R ⟨ps,s,log,c,rfl,k,L,n,h⟩;obtain⟨w,q,I⟩:=jS k;simp only[sY];walk_at"dl";refine⟨ps,_,rfl,w,?_⟩;have g3:(M++[MO.lst<|aE ps])[M.length]?=a9 (.lst<|aE ps):=af;have p:M <+: M++[MO.lst<|aE ps]:=bf;generalize M++[MO.lst<|aE ps]=B at g3 p;simp only[mP];walk_at"dl";refine⟨⟨by decide,by decide⟩,?_⟩;refine bh (λi S j=>∃(more:List D) (c:Int) (a b d e f:Option D),B <+: j/\LogO ps s (log++more)/\more.length<=i/\S=[a9<|aA ps s,a9<|.tup<|log++more,a9<|.int c,a9<|.ref M.length,a,b,d,e,f]) ?_ ?_ ⟨[],c,_,_,_,_,_,Mz,by rw[Mq];exact L,x5 _,by rw[Mq]⟩;rintro S j ⟨more,c,a,b,d,e,f,pM,g,r,rfl⟩;rw[aX]at r;refine⟨trivial,?_⟩;simp only[mK];walk_at"dl";exact aZ.keep (h more g r) (.tup<|aw.bels g.deed)<|p.trans pM;rintro i y S j O ⟨more,c,a,b,d,e,f,pM,g,r,rfl⟩ G m;obtain⟨hi,rfl⟩:=bO.mp O;have hi:i<8:=hi;refine⟨trivial,?_⟩;simp only[ap,QD,QC];exact uw k g (by rw[B6];lia) g3 pM λd U a b e f o C l=>E1.now<|m _ _ ⟨more++[d],U,_,_,_,_,_,C,by rw[<-Ix];exact l,by rw[B6,G5];lia,by rw[Ix]⟩
theorem yx(T:Tops P w K mg base):x6 P w K mg base 4 "_law_further" nD ik:=x6.byD (N:=["_law_house_here","_law_log_here","_law_number","_law_hands_here","_law_k","_law_says","_law_counts","_law_hand","_law_act_here"]) T.b T.f_further (by walk_at"sc") vX (by have:=xp T;have:=Fy T;have:=AJ T;walk_at"dv") xY
theorem GW:cD Ha GG:=by rintro ds M R ⟨ns,m,_,_,rfl,_⟩;rfl
theorem EN(ps:List (c5×D))(h:(ps.map (·.1)).Nodup):jV ps=ps:=by revert h;refine gU (P:=λps=>(ps.map (·.1)).Nodup->jV ps=ps) (λ_=>rfl) (λps p i h=>?_) ps;rw[J3]at h;have h':=OU.mp h;rw[qf,i h'.1,CZ];intro z;exact h'.2.2 _ z _ (by simp) rfl
theorem HV(hp:p∈ps)(h:1<=p.2):D.tup [.str p.1,.int<|i % p.2]∈aE ps:=by have Z:=ca (a:=i) (b:=p.2) (by lia);have e:=cg (a:=i) (b:=p.2) (by lia);refine List.mem_flatMap.mpr ⟨p,hp,A0.mpr ⟨.int<|i % p.2,G1 (i:=(i % p.2).toNat)<|bO.mpr ⟨by lia,?_⟩,rfl⟩⟩;rw[Int.toNat_of_nonneg Z,NX]
theorem gQ:∀{l:List D}{kvs:List (D×D)},eG kvs (l++[d])=fZ (eG kvs l) (aR d) (.int<|jn d+1)
 | [],_=>rfl
 |x::l,kvs=>gQ (l:=l)
theorem lF(h:∀d∈log,aw ps rs d):NA (eG [] log)/\((eG [] log).map (·.1)).Nodup/\∀p∈eG [] log,p.1∈aE ps:=by revert h;refine gU (P:=λlog=>(∀d∈log,aw ps rs d)->NA (eG [] log)/\((eG [] log).map (·.1)).Nodup/\∀p∈eG [] log,p.1∈aE ps) (λ_=>⟨(λ_ z=>nomatch z),.nil,(λ_ z=>nomatch z)⟩) (λl d c h=>?_) log;obtain⟨h1,h2,a⟩:=c λe i=>h e<|MC _ i;obtain⟨t,z,k,n,x,ds,rfl,_,b,_⟩:=h d (by simp);rw[gQ];refine⟨BD h1 ⟨z,k,rfl⟩,nj h2,λp hp=>?_⟩;rcases lI hp with rfl|hp;exact b;exact a p hp
theorem CK(p:log.Pairwise λa b=>aR a=aR b->jn a<jn b):∀e∈log,∃i:Int,bb (eG [] log) (aR e)=a9 (.int i)/\jn e<i:=by revert p;refine gU (P:=λlog=>log.Pairwise (λa b=>aR a=aR b->jn a<jn b)->∀e∈log,∃i:Int,bb (eG [] log) (aR e)=a9 (.int i)/\jn e<i) (λ_ _ z=>nomatch z) (λl d f p e h=>?_) log;obtain⟨h1,_,c⟩:=List.pairwise_append.mp p;rw[gQ];by_cases T:aR e=aR d;rw[T,dn];refine⟨_,rfl,?_⟩;rcases Fn.mp h with h|h;have:=c e h d (by simp) T;lia;rw[F0.mp h];lia;rw[cj T];rcases Fn.mp h with h|h;exact f h1 e h;exact t7 (by rw[F0.mp h]) T
theorem ju(k:NA kvs)(hp:ys.Perm (bZ kvs)):ys=oG (ys.map LS)/\((ys.map LS).map (·.1)).Perm (kvs.map (·.1))/\∀(h:D) (i:Int),(h,i)∈ys.map LS↔(h,.int i)∈kvs:=by
 have f:∀y∈ys,∃(h:D) (i:Int),y=.tup [h,.int i]/\(h,D.int i)∈kvs:=λy O=>by obtain⟨q,c,rfl⟩:=A0.mp<|hp.mem_iff.mp O;obtain⟨_,i,e⟩:=k q c;obtain⟨a,b⟩:=q;dsimp only at e;subst e;exact⟨a,i,rfl,c⟩
 refine⟨?_,?_,λh i=>⟨λm=>?_,λm=>?_⟩⟩;unfold oG;rw[E2];refine((Nx λy O=>?_).trans<|NB _).symm;obtain⟨h,i,rfl,_⟩:=f y O;rfl;have t:(ys.map LS).map (·.1)=ys.map λy=>(LS y).1:=by rw[E2];rfl
 have l:(bZ kvs).map (λy=>(LS y).1)=kvs.map (·.1):=by unfold bZ;rw[E2];refine Nx λq c=>?_;obtain⟨_,i,e⟩:=k q c;show (LS<|.tup [q.1,q.2]).1=q.1;rw[e];rfl
 rw[t,<-l];exact hp.map _;obtain⟨y,O,e⟩:=A0.mp m;obtain⟨h',i',rfl,d⟩:=f y O;have e:(h',i')=(h,i):=e;cases e;exact d;exact A0.mpr ⟨.tup [h,.int i],hp.mem_iff.mpr<|A0.mpr ⟨_,m,rfl⟩,rfl⟩
theorem zo(g:HouseF ps rs)(b:∀d∈log,aw ps rs d)(hp:ys.Perm (bZ<|eG [] log)):LM ys/\lT 3 ys:=by
 obtain⟨c,f,o⟩:=lF b;obtain⟨q,j,n⟩:=ju c hp;have a:∀p∈ys.map LS,Hd p.1:=λp m=>by obtain⟨h,i⟩:=p;exact(c _<|(n h i).mp m).1
 refine⟨⟨ys.map LS,q,a,?_,j.nodup_iff.mpr f⟩,G7.mpr λy O=>?_⟩;have h1:=j.length_eq;have h2:((eG [] log).map (·.1)).length<=(aE ps).length:=f.length_le_of_subset λx l=>by obtain⟨p,hp,rfl⟩:=A0.mp l;exact o p hp
 have r:=(jS g).2.2;rw[w4]at h1;lia;rw[q]at O;obtain⟨p,hp,rfl⟩:=A0.mp O;obtain⟨z,k,e⟩:=a p hp;rw[e];rfl
theorem BK:∀{hs:List (D×Int)},(hs.map (·.1)).Nodup->(h,i)∈hs->hs.find? (λp=>decide<|p.1=h)=a9 (h,i)
 |p::hs,nd,hm=>by rw[D5,Ma]at nd;rw[L9];rcases C3.mp hm with rfl|hm;rw[dT_ rfl];have ne:p.1≠h:=λz=>nd.1 (by rw[z];exact K1 (f:=(·.1)) hm);rw[dF_ ne];exact BK nd.2 hm
theorem sd(p:(hs.map (·.1)).Nodup)(d:(h,i)∈hs)(l:n<i):cC hs h n=b8:=by unfold cC;rw[BK p d];exact dT_ l
section
variable{rs:List (c5×List c5)}{log more:List D}{rd:D}
theorem kA(i:aY rd=v6 "read")(h:k≠v6 "read"):kinds (log++[rd]) k=kinds log k:=by rw[qa,i,t6 h.symm,Mq]
theorem qi(i:aY rd=v6 "read"):ay rs (log++[rd])=ay rs log:=by unfold ay;rw[kA i<|by decide +kernel]
theorem pQ(i:aY rd=v6 "read"):aF rs (log++[rd])=aF rs log:=by
 unfold aF;have:bJ (ay rs log) (log++[rd])=bJ (ay rs log) log:=by funext k;unfold bJ;rw[kA i<|by decide +kernel]
 rw[qi i,this]
theorem Dl(i:aY rd=v6 "read"):Dm rs (log++[rd]) r=Dm rs log r:=by unfold Dm;rw[qi i]
theorem zn(i:aY rd=v6 "read"):lY (log++[rd]) name r=lY log name r++if cY rd=name/\ba rd=r then[fK rd]else[]:=by unfold lY;rw[yC,OD,J3];congr 1;by_cases h1:cY rd=name;rw[t5 ⟨i,h1⟩,Nw,OT];by_cases h2:ba rd=r;rw[t5<|dT_ h2,t5 ⟨h1,h2⟩];rfl;rw[t6 (by simpa using h2),t6 λz=>h2 z.2];rfl;rw[t6 λz=>h1 z.2,t6 λz=>h1 z.1];rfl
theorem Ap(i:aY rd=v6 "read"):iq (log++[rd]) name e=(iq log name e||(decide (cY rd=name/\ba rd=ba e)&&cC (Fk<|fK rd) (aR e) (jn e))):=by
 have g:iK (log++[rd]) (v6 "seen") name=iK log (v6 "seen") name:=by unfold iK iu;rw[kA i<|by decide +kernel]
 unfold iq;rw[g,zn i,List.any_append];by_cases h:cY rd=name/\ba rd=ba e;rw[t5 h,dT_ h,PK,List.any_nil,OR,Bool.true_and,Bool.or_assoc,Bool.or_assoc];rw[t6 h,dF_ h,List.any_nil,OR,PQ,OR]
theorem Dz(i:aY rd=v6 "read")(m:∀e∈eN rs log name r,ba e=r)(E:¬(cY rd=name/\ba rd=r)):eN rs (log++[rd]) name r=eN rs log name r:=by
 have l:∀x∈Dm rs log r,zh rs (log++[rd]) name (eZ x)=zh rs log name (eZ x):=λx a=>by
  unfold zh;rw[pQ i];cases R:bb (aF rs log) (eZ x) with
  |none=>rfl
  |some e =>
   rw[Rk,Rk,Ap i];cases d:iq log name e with
   |true=>rfl
   |false=>have h:e∈eN rs log name r:=OE.mpr ⟨x,a,by unfold zh;rw[R,Rk,d];rfl⟩;rw[m e h,dF_ E];rfl
 unfold eN;rw[Dl i];revert l;generalize Dm rs log r=out;intro l;induction out with
 |nil=>rfl
 |cons x out b=>rw[Ny,Ny,l x (by simp),b λy O=>l y<|C6 _ O]
theorem pY(b:aY rd=v6 "read")(f:cY rd=name)(h:ba rd=r)(i:iq (log++[rd]++more) name e=b9)(a:ba e=r):cY e≠name/\cC (Fk<|fK rd) (aR e) (jn e)=b9:=by unfold iq at i;simp only[Bool.or_eq_false_iff,List.any_eq_false,decide_eq_false_iff_not]at i;refine⟨i.1,Nj.mpr ?_⟩;refine i.2.2 (fK rd) ?_;refine K1<|E7.mpr ⟨E7.mpr ⟨E7.mpr ⟨by simp,dT_ b⟩,dT_ f⟩,dT_<|h.trans a.symm⟩
theorem Dy(g:∀d∈log,aw ps rs d)(p:log.Pairwise λa b=>aR a=aR b->jn a<jn b)(hp:ys.Perm (bZ<|eG [] log))(f:aY rd=v6 "read")(n:cY rd=name)(h:ba rd=r)(u:fK rd=.tup ys)(m:∀e∈eN rs (log++[rd]) name r,ba e=r):eN rs (log++[rd]) name r=[]:=by refine List.eq_nil_iff_forall_not_mem.mpr λe c=>?_;obtain⟨s,_,h1,h2⟩:=jN c;rw[pQ f]at h1;have j:e∈log:=(bq ((bE (rs:=rs) (log:=log)).en _ (gj.mp<|bv h1).1).2).1;obtain⟨i,R,l⟩:=CK p e j;have ok:=lF g;obtain⟨_,q,k⟩:=ju ok.1 hp;have w:cC (ys.map LS) (aR e) (jn e)=b8:=sd (q.nodup_iff.mpr ok.2.1) ((k _ _).mpr<|bv R) l;have z:=(pY (more:=[]) f n h (by rw[Mq];exact h2)<|m e c).2;rw[u]at z;exact Bool.noConfusion<|z.symm.trans w
theorem GS(b:∀d∈log,aw ps rs d)(hp:ys.Perm (bZ<|eG [] log))(o:aY rd=v6 "read")(m:cY rd=name)(h:ba rd=r)(u:fK rd=.tup ys)(f:∃k:Int,aR rd=.tup [.str name,.int k])(G:aw ps rs e)(c:iq (log++[rd]++more) name e=b9)(a:ba e=r)(R:bb (eG []<|log++[rd]) (aR e)=a9 (.int i)):¬jn e<i:=λl=>by obtain⟨p,z⟩:=pY o m h c a;obtain⟨k,g⟩:=f;have E:aR e≠aR rd:=λq=>p (by obtain⟨t,y,j,n,x,ds,rfl,_⟩:=G;rw[g]at q;have q:D.tup [.str y,.int j]=.tup [.str name,.int k]:=q;injection q with q;injection q with q _;injection q with q);rw[gQ,cj E]at R;have ok:=lF b;obtain⟨_,s,v⟩:=ju ok.1 hp;have w:cC (ys.map LS) (aR e) (jn e)=b8:=sd (s.nodup_iff.mpr ok.2.1) ((v _ _).mpr<|bv R) l;rw[u]at z;exact Bool.noConfusion<|z.symm.trans w
end
theorem mY(hi:aq M i xs)(L:aq M j xs)(h:∀x∈xs,x9 M 29 x=b8/\v8 M 29 x x=b8):(x9 M x3 (.ref i)=b8/\x9 M x3 (.ref j)=b8)/\v8 M x3 (.ref i) (.ref j)=b8:=⟨⟨qO (n:=29) hi λx a=>(h x a).1,qO (n:=29) L λx a=>(h x a).1⟩,(xI (n:=29) hi L).trans<|rD λx a=>(h x a).2⟩
def wQ:v5:=bt<|dC<|.bl b8
def wR:v5:=E4 (aG<|u8 M8 (u8 z5 (ab 14)<|dC<|.int 2)<|Pl pR (ab 11)<|aa (u8 z5 (ab 14)<|dC<|.int 1)<|aa (dC<|.int 0) ae) (bt<|dC<|.bl b9) bB
def wS:v5:=aC (lE (br<|v7 cL<|aa (ab 1)<|aa (ab 12)<|aa (ab 5)<|aa (ab 3) ae) (ap 13)<|aC (aV (u8 z5 (F6 1 [13] (br<|ab 12) (ap 0) (aG<|u8 E8 (dO<|aa (u8 z5 (ab 0)<|dC<|.int 0)<|aa (u8 z5 (ab 0)<|dC<|.int 1) ae)<|ab 1)<|ab 0)<|dC<|.int 0) 14)<|wR)<|wQ
def wT:v5:=aC (aV (v7 ik<|aa (ab 1)<|aa (ab 2)<|aa (v7 kH<|aa (v7 bH<|aa (ab 0)<|aa (dC<|.int 2) ae)<|aa (dC<|.int 8) ae) ae) 12)<|wS
def wU:v5:=aC (aV (v7 tM<|aa (v7 cR<|aa (ab 2) ae) ae) 11)<|wT
def wV:v5:=aC (lE (rK<|ab 7) (nZ 2<|cq (ap 9)<|cq (ap 10) og)<|E4 (LD (aG<|u8 Og (ab 9)<|dO<|aa (ab 3)<|aa (ab 5) ae)<|aG<|u8 Og (ji (ab 8)<|ab 9)<|ab 10) (bt<|dC<|.bl b9) bB)<|wU
def zK:v5:=aC (E4 (NR (aG<|u8 Og (v7 cS<|aa (ab 1)<|aa (ab 2)<|aa (ab 5)<|aa (ab 3) ae)<|jp ae)<|aG<|u8 na (dO<|aa (ab 3)<|aa (dC<|.int 0)<|aa (dC<|.int 0) ae)<|v7 dq<|aa (ab 1)<|aa (ab 2)<|aa (ab 5) ae) (bt<|dC<|.bl b9) bB)<|wV
def zL:v5:=aC (E4 (NR (aG<|u8 Og (ji (ab 8)<|dO<|aa (ab 3)<|aa (ab 5) ae)<|jp ae)<|aG<|u8 tL (v7 eD<|aa (ab 1)<|aa (ab 2)<|aa (ab 5)<|aa (ab 3) ae)<|dC .non) (bt<|dC<|.bl b9) bB)<|zK
def zM:v5:=aC (aV (v7 jX<|aa (ab 1)<|aa (ab 2) ae) 8)<|zL
def zN:v5:=aC (aV (v7 oF<|aa (ab 1)<|aa (ab 2)<|aa (dO<|aa (dC<|.str "read")<|aa (ab 3)<|aa (v7 cR<|aa (ab 2) ae) ae)<|aa (ab 6) ae) 2)<|zM
def zO:v5:=aC (aV (v7 jX<|aa (ab 1)<|aa (ab 2) ae) 7)<|zN
def zP:v5:=aC (aV (dO<|aa (ab 5)<|aa (u8 bY (u8 aO (v7 bH<|aa (ab 0)<|aa (dC<|.int 1) ae)<|dC<|.int 12)<|EY (v7 xi<|aa (u8 z5 (ab 1)<|dC<|.int 0) ae)<|ab 5) ae) 6)<|zO
def zQ:v5:=aC (aV (u8 z5 (ab 4)<|u8 bY (u8 aO (v7 bH<|aa (ab 0)<|aa (dC<|.int 1) ae)<|dC<|.int 3)<|v7 ir<|aa (ab 4) ae) 5)<|zP
def zR:v5:=aC (LC (u8 z5 (u8 z5 (ab 1)<|dC<|.int 1)<|u8 bY (v7 bH<|aa (ab 0)<|aa (dC<|.int 1) ae)<|v7 ir<|aa (u8 z5 (ab 1)<|dC<|.int 1) ae)<|nZ 2<|cq (ap 3)<|cq (ap 4) og)<|zQ
def zS:v5:=aC (aV (v7 xR<|aa (ab 1)<|aa (v7 ig<|aa (ab 0)<|aa (dC<|.int 3)<|aa (dC<|.int 36) ae)<|aa (v7 jZ<|aa (ab 1) ae) ae) 2)<|zR
def IY:v5:=aC (aV (v7 lR<|aa (v7 bH<|aa (ab 0)<|aa (dC<|.int 0) ae) ae) 1)<|zS
theorem IT:C1 Ha 15 IY:=by
 rintro ds M R ⟨ns,mo,dr,⟨cp,co⟩,rfl,rfl,h⟩;have ag:aq [mo] 0 (ns.map D.int):=by have:=ua (M:=[mo]) (n:=0) (mo:=mo) rfl co;rw[cp]at this;exact this
 simp only[IY];walk_at"dl";refine⟨0,ns,0,rfl,ag,_,rfl,λps rs o=>?_⟩;obtain⟨cd,n1,aS⟩:=jS o;simp only[zS];walk_at"dl";refine⟨0,ns,3,36,rfl,ag,by lia,by decide,by decide,λxs xl=>⟨ps,_,rfl,cd,ps,rs,1,2,xs,aE ps,rfl,o,?_,by lia,?_,λ_ q=>q,n1,aS,xG o.pnd,λlog Q tm nn ll bs nu=>?_⟩⟩;exact .inl rfl;exact .inl rfl;have p0:[mo] <+: [mo]++[MO.lst<|xs.map D.int]++[MO.lst<|aE ps]:=by rw[Ix];exact Mc _ _
 generalize [mo]++[MO.lst<|xs.map D.int]++[MO.lst<|aE ps]=B0 at p0;have O:∀B,B0 <+: B->aq B 0 (ns.map D.int):=λB pB=>bT (p0.trans pB) ag;simp only[zR,aA];walk_at"dl";refine⟨0,ns,1,rfl,O _ Mz,?_⟩;obtain⟨d,ai,ed⟩:=fY (xs:=rs.map eR) (i:=oz ns 1) (by rw[w4];exact o.rl.1);obtain⟨rm,H,rfl⟩:=A0.mp ai;refine⟨by rw[w4];have:=o.rl.1;lia,?_⟩;rw[ed];have hr:rm.1∈rs.map (·.1):=K1 H;have er:=jO o.rnd H;have m1:=o.ne rm H;obtain⟨r,ms⟩:=rm;dsimp only at hr er m1;unfold eR;walk_at"dl";refine⟨trivial,?_⟩;simp only[zQ];walk_at"dl";refine⟨0,ns,1,rfl,O _ Mz,⟨by decide,by decide⟩,by rw[w4];lia,?_⟩;obtain⟨d,ai,ed⟩:=fY (xs:=ms.map D.str) (i:=oz ns 1 / 3) (by rw[w4];exact m1);rw[ed];obtain⟨g,hn,rfl⟩:=A0.mp ai;have F:g∈oP rs r:=by rw[er];exact hn
 simp only[zP,aA];walk_at"dl";obtain⟨p,am,rfl⟩:=A0.mp<|(o.sb _ H).subset hn;have bl:((ps.map λp=>(p.1,D.int p.2)).map (·.1)).Nodup:=by rw[E2];exact o.pnd
 refine⟨0,ns,1,rfl,O _ Mz,⟨by decide,by decide⟩,ps.map<|λp=>(p.1,.int p.2),by rw[E2];rfl,by rw[w4];have:=o.len;lia,?_⟩;rw[EN _ bl];obtain⟨d,hv,an⟩:=CC (kvs:=ps.map λp=>(p.1,D.int p.2)) (k:=p.1) (by rw[E2];exact K1 (f:=(·.1)) am);obtain⟨p',al,e⟩:=A0.mp an;have e1:p'.1=p.1:=u5 (·.1) e;have e2:D.int p'.2=d:=u5 (·.2) e;subst e2;have hm:=o.many p' al;have hh:D.tup [.str p.1,.int<|oz ns 1 / 12 % p'.2]∈aE ps:=by rw[<-e1];exact HV al hm.1
 refine⟨_,_,af,hv,by lia,ao (by decide),?_⟩;have n8:=o.nm p am;generalize p.1=g at hh hn F n8;generalize oz ns 1 / 12 % p'.2=k0 at hh;have bk:B0 <+: B0++[MO.dct<|ps.map λp=>(p.1,D.int p.2)]:=bf;generalize B0++[MO.dct<|ps.map λp=>(p.1,D.int p.2)]=B1 at bk;clear hv an e1 e bl;simp only[zO];walk_at"dl";refine⟨ps,rs,log,rfl,o,Q,by lia,λn7 B7 cM p7 l7 C s7 a7 k7=>?_⟩;replace p7:=bk.trans p7;simp only[zN];walk_at"dl";refine⟨log,rfl,λd hd=>?_,by lia,λys hp _=>⟨ao (by decide),ps,rs,log,g,k0,_,_,rfl,⟨Q,bs,nn⟩,by lia,hh,.cons (.str _)<|.cons (.tup (zo o Q hp).2) .nil,.mkRead (zo o Q hp).1,λt df K=>?_⟩⟩;obtain⟨t,z,k,n,x,ds,rfl,_,_,pl,_⟩:=Q d hd;exact⟨t,_,n,_,rfl,⟨z,k,rfl⟩,.tup<|.cons (.str _) pl⟩;have up:log.Pairwise λa b=>aR a=aR b->jn a<jn b:=(O2.mp<|LogO.up ⟨Q,bs,nn⟩).imp λ{a b} ⟨ha,hb,q⟩ e=>nu a ha b hb e<|q e;obtain⟨l,A⟩:∃l:D,l=.tup [.int t,.tup [.str g,.int k0],.int df,.tup [.str<|v6 "read",.str r,.tup ys]]:=⟨_,rfl⟩
 have r1:aY l=v6 "read":=by rw[A];rfl
 have r2:cY l=g:=by rw[A];rfl
 have r3:ba l=r:=by rw[A];rfl
 have r4:fK l=.tup ys:=by rw[A];rfl
 have r5:∃k:Int,aR l=.tup [.str g,.int k]:=⟨k0,by rw[A];rfl⟩
 rw[<-A]at K ⊢;have l1:(log++[l]).length<=41:=by rw[B6,G5];lia
 simp only[zM];walk_at"dl";refine⟨ps,rs,log++[l],rfl,o,K.deed,by lia,λn8 B8 aD p8 l8 V s8 a8 k8=>?_⟩;obtain⟨d8,ak⟩:=a8 r g hr F;obtain⟨r',m',q8,lq,_,e8,aj,_,_,dk⟩:=s8 _<|bv ak;cases e8;have s:=Dy Q up hp r1 r2 r3 r4 dk;rw[s]at aj;replace C:=aM p8 C;simp only[zL];walk_at"dl";have I:=mY (M:=B8++[MO.lst []]) (i:=q8) (j:=B8.length) (xs:=[]) (.inl<|ac aj) ad λx hx=>nomatch hx
 refine⟨ao (by decide),aD,_,V,rfl,ak,A8 _,I.1,?_⟩;rw[I.2];walk_at"ifs";refine⟨ps,rs,log++[l],g,r,rfl,hr,F,K.deed,by lia,?_⟩;rw[s];replace C:=ac (a:=MO.lst []) C;replace V:=ac (a:=MO.lst []) V;have p9:B8 <+: B8++[MO.lst []]:=bf;clear I;generalize B8++[MO.lst []]=B9 at C V p9;simp only[PF,List.headD_nil];simp only[zK];walk_at"dl";refine⟨ps,rs,log++[l],g,r,rfl,hr,F,K.deed,by lia,by lia,λ_=>⟨A8 _,?_⟩⟩;rw[s,OT,PF];have I:=mY (M:=B9++[MO.lst []]++[MO.lst []]) (i:=B9.length) (j:=(B9++[MO.lst []]).length) (xs:=[]) (.inl<|ac af) ad λx hx=>nomatch hx
 refine⟨I.1,?_⟩;rw[I.2];clear I;walk_at"ifs";refine⟨ao (by decide),ps,rs,log++[l],g,rfl,o,K.deed,by lia,by lia,_,ad,⟨rfl,?_⟩,?_⟩;refine G7.mpr λx hx=>?_;obtain⟨y,_,rfl⟩:=A0.mp hx;rfl;have dp:Cs rs (log++[l]) g r=.tup [.str r,.int 0,.int 0]:=by unfold Cs;rw[s];rfl
 have cm:∀M:w6,Na M (.tup [.str r,.int 0,.int 0]) ((gp rs g).map<|Cs rs (log++[l]) g)=b8:=λM=>by refine MV.mpr ⟨.tup [.str r,.int 0,.int 0],A0.mpr ⟨r,?_,dp⟩,(xn 2 x3 (.tup [.str r,.int 0,.int 0]) (by decide) rfl).2⟩;exact A0.mpr ⟨(r,ms),E7.mpr ⟨H,dT_ hn⟩,rfl⟩
 rw[cm];refine dg ?_;replace p9:=((p9.trans<|bf (mo:=MO.lst [])).trans<|bf (mo:=MO.lst [])).trans<|bf (mo:=MO.lst<|(gp rs g).map<|Cs rs (log++[l]) g);replace C:=ac (a:=MO.lst<|(gp rs g).map<|Cs rs (log++[l]) g)<|ac (a:=MO.lst [])<|ac (a:=MO.lst []) C;replace V:=ac (a:=MO.lst<|(gp rs g).map<|Cs rs (log++[l]) g)<|ac (a:=MO.lst [])<|ac (a:=MO.lst []) V;generalize B9++[MO.lst []]++[MO.lst []]++[MO.lst<|(gp rs g).map<|Cs rs (log++[l]) g]=bM at C V p9;simp only[wV];walk_at"dl";unfold rK;walk_at"dl";refine⟨cM,C,λ_=>?_⟩;refine bh (λi S u=>∃a b:Option D,bM <+: u/\S=[a9<|.ref 0,a9<|aA ps rs,a9<|.tup<|log++[l],a9<|.str r,a9<|.tup<|ms.map .str,a9<|.str g,a9<|.tup [.str g,.int k0],a9<|.ref n7,a9<|.ref n8,a,b,b7,b7,b7,b7]) ?_ ?_ ⟨_,_,Mz,rfl⟩;rintro S u ⟨a,b,pM,rfl⟩;refine⟨aM pM C,?_⟩;simp only[wU];walk_at"dl";have dK:∀d∈log++[l],Deed d:=λd hd=>by obtain⟨t,z,k,n,x,ds,rfl,_,_,pl,_⟩:=K.deed d hd;exact⟨t,_,n,_,rfl,⟨z,k,rfl⟩,.tup<|.cons (.str _) pl⟩
 refine⟨log++[l],rfl,dK,by lia,λzs hz _=>?_⟩;obtain⟨o1,o2,_⟩:=lF K.deed;obtain⟨q1,q2,q3⟩:=ju o1 hz;obtain⟨⟨hs,eh,_,ch,_⟩,_⟩:=zo o K.deed hz;have zl:zs.length<=12:=by rw[eh];unfold oG;rw[w4];exact ch
 have nd:(((zs.map LS).map λp=>(p.1,D.int p.2)).map (·.1)).Nodup:=by rw[E2];exact q2.nodup_iff.mpr o2
 refine⟨(zs.map LS).map λp=>(p.1,D.int p.2),?_,λp hp=>?_,by rw[w4,w4];lia,?_⟩;rw[E2];exact q1;obtain⟨⟨h,i⟩,hm,rfl⟩:=A0.mp hp;obtain⟨z,k,e⟩:=(o1 _<|(q3 h i).mp hm).1;have e:h=.tup [.str z,.int k]:=e;subst e;exact⟨rfl,rfl⟩;rw[nY _ nd];have E:∀h i,bb ((zs.map LS).map λp=>(p.1,D.int p.2)) h=a9 i->∃j:Int,i=.int j/\bb (eG []<|log++[l]) h=a9 (.int j):=λh i hg=>by obtain⟨⟨h',j⟩,hm,e⟩:=A0.mp<|bv hg;cases e;exact⟨j,rfl,qR (p:=(h',.int j)) o2<|(q3 h' j).mp hm⟩
 have w:(u++[MO.dkt<|(zs.map LS).map λp=>(p.1,D.int p.2)])[u.length]?=a9 (.dkt<|(zs.map LS).map λp=>(p.1,D.int p.2)):=af;generalize (zs.map LS).map (λp=>(p.1,D.int p.2))=T at w E;have pT:u <+: u++[MO.dkt T]:=bf;generalize u++[MO.dkt T]=J at w pT;generalize u.length=de at w;simp only[wT];walk_at"dl";refine⟨0,ns,2,rfl,O _<|(p7.trans p8).trans<|(p9.trans pM).trans pT,_,8,rfl,⟨by decide,by decide⟩,λc=>⟨ps,rs,log++[l],c,rfl,o,K,by lia,λmore L ml=>?_⟩⟩;simp only[wS];walk_at"dl";have l2:(log++[l]++more).length<=49:=by rw[B6];lia
 refine⟨ps,rs,log++[l]++more,g,r,rfl,hr,F,L.deed,by lia,λnl hs nr=>⟨_,ad,λ_=>?_⟩⟩;have N:(J++[MO.lst<|(eN rs (log++[l]++more) g r).map z9])[J.length]?=a9 (.lst<|(eN rs (log++[l]++more) g r).map z9):=af;replace w:=ac (a:=MO.lst<|(eN rs (log++[l]++more) g r).map z9) w;generalize J++[MO.lst<|(eN rs (log++[l]++more) g r).map z9]=bS at w N;generalize J.length=aS at N;refine bh (λi S u=>∃c d:Option D,bS <+: u/\S=[a9<|.ref 0,a9<|aA ps rs,a9<|.tup<|log++[l],a9<|.str r,a9<|.tup<|ms.map .str,a9<|.str g,a9<|.tup [.str g,.int k0],a9<|.ref n7,a9<|.ref n8,a,b,a9<|.ref de,a9<|.tup<|log++[l]++more,c,d]) ?_ ?_ ⟨_,_,Mz,rfl⟩;rintro S u ⟨c,d,pM,rfl⟩;refine⟨.inl<|aM pM N,?_⟩;simp only[wQ];walk_at"dl";exact .inl<|h _;rintro i y S u hy ⟨c,d,pM,rfl⟩ G hG;obtain⟨e,he,rfl⟩:=A0.mp<|G1 hy;have sy:=hs _<|G1 hy;have er:=nr e he;obtain⟨s0,_,h1,h2⟩:=jN he;have P:e∈log++[l]++more:=(bq ((bE (rs:=rs) (log:=log++[l]++more)).en _ (gj.mp<|bv h1).1).2).1;have ed:=L.deed e P;refine⟨.inl<|aM pM N,?_⟩;obtain⟨U,ec⟩:∃y,y=z9 e:=⟨_,rfl⟩
 rw[<-ec]at sy ⊢;walk_at"dl";intro _;refine aK (λd=>decide<|z9 d=U) id (λS=>∃a,S=[a,a9 U]) trivial _ _ _ ?_ ⟨_,rfl⟩ (by rw[D3];exact ao<|by lia) ?_;rintro d hm S ⟨a,rfl⟩;obtain⟨t',X,W,m,x,ds,rfl,_⟩:=L.deed d hm;refine⟨[a9<|.tup [.int t',.tup [.str X,.int W],.int m,.tup<|.str x::ds],a9 U],⟨_,rfl⟩,λY Z cl=>?_⟩;walk_at"dl";refine⟨ao (by decide),⟨rfl,sy.ok⟩,?_⟩;rw[show v8 u x3 (.tup [.int t',.tup [.str X,.int W]]) U=decide (_=U)from St.eq (n:=28) ⟨_,_,_,rfl⟩ sy];exact cl;obtain⟨aH,ef⟩:∃aH,(log++[l]++more).filter (λd=>decide<|z9 d=U)=e::aH:=by
  cases hq:(log++[l]++more).filter (λd=>decide<|z9 d=U) with
  |nil=>exact t7 (E7.mpr ⟨P,dT_ ec.symm⟩)<|by rw[hq];exact PZ
  |cons d aH=>have:=E7.mp (hq ▸ F4:d∈(log++[l]++more).filter λd=>decide<|z9 d=U);rw[L.ris.one d this.1 e P<|(oT_ this.2).trans ec];exact⟨aH,rfl⟩
 rw[G4,NB,ef];refine⟨_,ad,?_⟩;rw[Oi];have no:=λj=>GS (more:=more) (i:=j) Q hp r1 r2 r3 r4 r5 ed h2 er;have be:=L.nn e P;obtain⟨t',X,W,m,x,ds,rfl,_⟩:=ed;simp only[wR];walk_at"dl";have gT:=ac (a:=MO.lst<|D.tup [D.int t',D.tup [D.str X,D.int W],D.int m,D.tup<|D.str x::ds]::aH)<|aM pM w;replace pM:=pM.trans<|bf (mo:=MO.lst<|D.tup [D.int t',D.tup [D.str X,D.int W],D.int m,D.tup<|D.str x::ds]::aH);generalize u++[MO.lst<|D.tup [D.int t',D.tup [D.str X,D.int W],D.int m,D.tup<|D.str x::ds]::aH]=M2 at gT pM;have be:0<=m:=be;refine⟨⟨T,gT⟩,T,gT,rfl,?_⟩;obtain⟨j,ej,hj⟩:∃j:Int,(bb T<|.tup [.str X,.int W]).getD (.int 0)=.int j/\¬m < j:=by
  cases hg:bb T (.tup [.str X,.int W]) with
  |none=>exact⟨0,rfl,by lia⟩
  |some v=>obtain⟨j,rfl,hj⟩:=E _ _ hg;exact⟨j,rfl,no j hj⟩
 rw[ej];dsimp only;rw[dF_ hj];exact dg<|E1.now<|hG _ _ ⟨_,_,pM,rfl⟩;rintro i y S u hy ⟨a,b,pM,rfl⟩ G hG;rw[D8]at hy;obtain⟨p,hi,rfl⟩:=MZ.mp hy;obtain⟨r',m',q7,_,⟨ct,cn⟩,rfl,ce,_,dl,di⟩:=s7 p<|G1 hi;refine⟨aM pM C,?_⟩;walk_at"dl";have e7:=aM (p8.trans<|p9.trans pM) ce;refine⟨trivial,ao (by decide),⟨rfl,rfl⟩,?_⟩;have ee:v8 u x3 (.tup [.str r',.str m']) (.tup [.str r,.str g])=(r'==r&&(m'==g&&b8)):=rfl;rw[ee];by_cases e:r'=r/\m'=g;rw[beq_iff_eq.mpr e.1,beq_iff_eq.mpr e.2];exact dg<|E1.now<|hG _ _ ⟨_,_,pM,rfl⟩;have nb:(r'==r&&(m'==g&&b8))=b9:=by rw[Bool.and_true];by_cases q:r'=r;rw[beq_eq_false_iff_ne.mpr λz=>e ⟨q,z⟩,PM];rw[beq_eq_false_iff_ne.mpr q,PQ]
 rw[nb];obtain⟨d,hd⟩:=a8 r' m' ct cn;obtain⟨_,_,q,_,_,e8,gq,_⟩:=s8 _<|bv hd;cases e8;rw[Dz r1 di λz=>e ⟨z.2.symm.trans r3,z.1.symm.trans r2⟩]at gq;have I:=mY (M:=u) (i:=q) (j:=q7) (xs:=(eN rs log m' r').map z9) (.inl<|aM (p9.trans pM) gq) (.inl e7) λx hx=>xn 2 29 x (by decide) (dl x hx).pl;refine dN ⟨aD,_,aM pM V,rfl,hd,I.1,?_⟩;rw[I.2];exact dg<|E1.now<|hG _ _ ⟨_,_,pM,rfl⟩
theorem ok_law(T:Tops P w K mg base)(F:MQ K "law" "law" (top 65) f fd):FnOk P w K mg base LV 11 f fd GG (MN K Ha):=ED (N:=["_law_script","_law_house_here","_law_log_here","_law_room","_law_members","_law_name","_law_hand","_law_before","_law_after","_law_key","_law_fresh","_law_numbers_here","_law_further_here","_law_stamp","_law_deed"]) T.b F (by walk_at"sc") GW (by have:=tP T;have:=gZ T;have:=kW T;have:=tU T;have:=qJ T;have:=pW T;have:=AK T;have:=yt T;have:=Ds T;have:=xp T;have:=JR T;have:=AJ T;have:=Dq T;have:=yx T;walk_at"dv") IT
end
end LW
namespace PySem.W.Fast
def tw10046476611615101650:=Nat
def tw10294755485885675368:=Nat
def tw10300602790030930861:=Nat
def tw10323814667007340450:=Nat
def tw10386674158416779218:=Nat
def tw10479498154503140498:=Nat
def tw10479970737221632272:=Nat
def tw10661880891242842497:=Nat
def tw10676983902506517869:=Nat
def tw10681916736453703204:=Nat
def tw10770707320929734371:=Nat
def tw10811884584508240024:=Nat
def tw10814419670544695846:=Nat
def tw10857747117920320153:=Nat
def tw10874780050872605878:=Nat
def tw10975311039955102610:=Nat
def tw1102352738368848033:=Nat
def tw11087375892294394319:=Nat
def tw11242810711303442302:=Nat
def tw11261580744330175244:=Nat
def tw11265760207199224059:=Nat
def tw11366462708631833573:=Nat
def tw11379541968204986212:=Nat
def tw11410217480449520637:=Nat
def tw11469415136174609941:=Nat
def tw11517406633529630551:=Nat
def tw11560865596966305661:=Nat
def tw11571723643620740761:=Nat
def tw11603773892943066340:=Nat
def tw11688931944086604908:=Nat
def tw11690750322387944481:=Nat
def tw11717751011645786896:=Nat
def tw11734354608332781009:=Nat
def tw11838525231303466775:=Nat
def tw11846913712247302629:=Nat
def tw11908589332141247524:=Nat
def tw11921064579572710351:=Nat
def tw11985538466586003691:=Nat
def tw12044079044183919093:=Nat
def tw12077989480028346743:=Nat
def tw12080105293100252811:=Nat
def tw12095444574276448223:=Nat
def tw12098653733823351634:=Nat
def tw12119116807183122770:=Nat
def tw12182251442526023621:=Nat
def tw12216108018959628178:=Nat
def tw12280340911873423437:=Nat
def tw12447899505268033190:=Nat
def tw12461620475899342175:=Nat
def tw12508963558013594145:=Nat
def tw12604275975085400055:=Nat
def tw12627387531282465297:=Nat
def tw12714497837149970209:=Nat
def tw12778167446639732151:=Nat
def tw12806342237765251385:=Nat
def tw12848776795099777677:=Nat
def tw13029290747844147557:=Nat
def tw13227961814491083894:=Nat
def tw13243455606746589043:=Nat
def tw1326923503564205966:=Nat
def tw13278471461175229303:=Nat
def tw1332408251068367833:=Nat
def tw13327222277792302910:=Nat
def tw13451916413134110568:=Nat
def tw13452057216743776947:=Nat
def tw13453093324899659067:=Nat
def tw13505923867724114325:=Nat
def tw13607841832369547880:=Nat
def tw1370229377713183854:=Nat
def tw13818751921723412684:=Nat
def tw13827931013096586611:=Nat
def tw13966762354136124785:=Nat
def tw13986039992415509361:=Nat
def tw14047348266204326909:=Nat
def tw14063891953902643711:=Nat
def tw1407060746550800272:=Nat
def tw14164518399847818846:=Nat
def tw14175765708688792919:=Nat
def tw14225309836249173586:=Nat
def tw14277034628353072730:=Nat
def tw14327941615270079371:=Nat
def tw1452051955133001358:=Nat
def tw14552248888344434805:=Nat
def tw14605025029865179902:=Nat
def tw14618525353712394217:=Nat
def tw14631109385416467061:=Nat
def tw14649326198779614988:=Nat
def tw14679320298502970215:=Nat
def tw14684949394035989165:=Nat
def tw1481373141082636796:=Nat
def tw14860433285816851352:=Nat
def tw14914670026130169218:=Nat
def tw14938539104191758904:=Nat
def tw14986067558599361222:=Nat
def tw15088526107471751822:=Nat
def tw15192458076218053102:=Nat
def tw15200763573587358334:=Nat
def tw15210218475577396031:=Nat
def tw152363861201728045:=Nat
def tw15248112869805204510:=Nat
def tw15305430107978776152:=Nat
def tw15343914851165082357:=Nat
def tw15416446134122432622:=Nat
def tw15462112266860416316:=Nat
def tw15462599637224614394:=Nat
def tw15471793667497978561:=Nat
def tw15545462427946499441:=Nat
def tw15711722583082188138:=Nat
def tw15786511252869490328:=Nat
def tw157873784286708101:=Nat
def tw15834017268920548086:=Nat
def tw15882837239216033196:=Nat
def tw15979863026909728205:=Nat
def tw16005269979512281753:=Nat
def tw16119573390698190991:=Nat
def tw16280343161947348597:=Nat
def tw16341841840794064326:=Nat
def tw16371251251607782130:=Nat
def tw16416008900100187935:=Nat
def tw16558952007088004652:=Nat
def tw16561569909684939569:=Nat
def tw16581951182390074149:=Nat
def tw1658440978817803811:=Nat
def tw16672290517374890159:=Nat
def tw1667371047512474868:=Nat
def tw16683491958447104668:=Nat
def tw16701088283757767582:=Nat
def tw16721348043807144489:=Nat
def tw16722264434454691909:=Nat
def tw16723249521972531041:=Nat
def tw16757167555003221412:=Nat
def tw16779838569977871878:=Nat
def tw16800786295815394314:=Nat
def tw16805569873571884757:=Nat
def tw16929414217341690462:=Nat
def tw16953091330859929938:=Nat
def tw1701420500338950103:=Nat
def tw17084421296080150345:=Nat
def tw17087970072536349335:=Nat
def tw17119639519647856192:=Nat
def tw17138209401159690642:=Nat
def tw1713897584000273121:=Nat
def tw17220257464043654633:=Nat
def tw17284089019406833653:=Nat
def tw17314610908282657847:=Nat
def tw17411561453958467996:=Nat
def tw17431568922143645652:=Nat
def tw17454291929133566392:=Nat
def tw1751794840247703935:=Nat
def tw17604811889641578844:=Nat
def tw17607538507035176221:=Nat
def tw1763289851810934729:=Nat
def tw17645404273404473452:=Nat
def tw17671220772230704515:=Nat
def tw17712713625974479940:=Nat
def tw17757501142906893539:=Nat
def tw17828730873322828135:=Nat
def tw1788371228426635512:=Nat
def tw18000469869432643699:=Nat
def tw1815394317195038685:=Nat
def tw18247805023147199146:=Nat
def tw18251523844942605482:=Nat
def tw18266650451040291591:=Nat
def tw18281808255027359724:=Nat
def tw18284501028386500495:=Nat
def tw18370375729438310430:=Nat
def tw1850110966000050355:=Nat
def tw188396516477695396:=Nat
def tw1910497733307980100:=Nat
def tw1928874358924377962:=Nat
def tw2093954701678846587:=Nat
def tw2193624308693350485:=Nat
def tw22265503888707660:=Nat
def tw2240169029234242688:=Nat
def tw224043401599013473:=Nat
def tw2246688576637643842:=Nat
def tw2300452682022581084:=Nat
def tw2344828387291550246:=Nat
def tw242238953955895933:=Nat
def tw2442379622214300392:=Nat
def tw2511096845349323750:=Nat
def tw254254202801504888:=Nat
def tw2607539821959649294:=Nat
def tw2608029543584287736:=Nat
def tw262667496791357204:=Nat
def tw265199038714836487:=Nat
def tw2778849157934132791:=Nat
def tw2968532798396628600:=Nat
def tw3009097142609088660:=Nat
def tw3021909173339535221:=Nat
def tw3102683370103258628:=Nat
def tw3219988445744659606:=Nat
def tw3429769742724116268:=Nat
def tw3446265027158418450:=Nat
def tw3534180733854497816:=Nat
def tw383224065656698250:=Nat
def tw4046271773456237676:=Nat
def tw4088920686173928013:=Nat
def tw4134938812934650630:=Nat
def tw4144918692387779051:=Nat
def tw4204881531199568068:=Nat
def tw4262678998949876411:=Nat
def tw4271430217666563493:=Nat
def tw4357095046476164535:=Nat
def tw4357486328560579386:=Nat
def tw4369091148015266059:=Nat
def tw4420917166105772844:=Nat
def tw442853328793087065:=Nat
def tw4552659026116426806:=Nat
def tw462591416949770172:=Nat
def tw4677595977795608206:=Nat
def tw4697609508648316770:=Nat
def tw472843552425573019:=Nat
def tw4775553966958012566:=Nat
def tw4856755243359640655:=Nat
def tw4886708497765534909:=Nat
def tw4910034061715066499:=Nat
def tw492294288617529877:=Nat
def tw4929042662132184079:=Nat
def tw4929584228615910480:=Nat
def tw4995518011756456884:=Nat
def tw5154530522280883128:=Nat
def tw5156100347563237602:=Nat
def tw5157737046064630477:=Nat
def tw5185129864831911156:=Nat
def tw5187526031735075910:=Nat
def tw5204797521223307710:=Nat
def tw5236967442852201235:=Nat
def tw526784174235741842:=Nat
def tw527907087289043665:=Nat
def tw5310761445636249289:=Nat
def tw5330202124959212569:=Nat
def tw5338188917353735544:=Nat
def tw5368158120042189290:=Nat
def tw5372807896708633244:=Nat
def tw5390743663021224588:=Nat
def tw5418478827524244891:=Nat
def tw5454259730347633516:=Nat
def tw5473454498407600245:=Nat
def tw547410772191909035:=Nat
def tw5482448582553895469:=Nat
def tw5620519045290043404:=Nat
def tw5639146688926644525:=Nat
def tw5736423177628249516:=Nat
def tw5839812234478412791:=Nat
def tw5902581362927681528:=Nat
def tw5911557044624276242:=Nat
def tw5960604063522878292:=Nat
def tw5994619989956508915:=Nat
def tw6018895424027035930:=Nat
def tw6044286768813518577:=Nat
def tw6191542719400108632:=Nat
def tw6271296543782018514:=Nat
def tw6328544946187099770:=Nat
def tw6409109493311089217:=Nat
def tw6440007971784283949:=Nat
def tw6469526062886433248:=Nat
def tw6520293956652972705:=Nat
def tw6542417732273126742:=Nat
def tw6562486849788418370:=Nat
def tw6695163962864376119:=Nat
def tw6761112322747695149:=Nat
def tw6782170441581036281:=Nat
def tw6879685896349962561:=Nat
def tw6879713432446140508:=Nat
def tw6884185737870969904:=Nat
def tw6916537482429800343:=Nat
def tw7192839297579904621:=Nat
def tw7198937699727338356:=Nat
def tw7286079797183127802:=Nat
def tw7334604005472040568:=Nat
def tw7463514552500835689:=Nat
def tw754646145569643742:=Nat
def tw7561749192445058028:=Nat
def tw7616177389273370356:=Nat
def tw7629057628962064382:=Nat
def tw7643966156523955101:=Nat
def tw7651437849422628522:=Nat
def tw7669934534891374548:=Nat
def tw7689295558191120845:=Nat
def tw773554935664818432:=Nat
def tw7756342812636631480:=Nat
def tw7761917567987441292:=Nat
def tw791618990535899208:=Nat
def tw7924926894880672788:=Nat
def tw7954574622936156680:=Nat
def tw8042852351021238568:=Nat
def tw8052399024199515666:=Nat
def tw8136733971825405787:=Nat
def tw8238972692568523375:=Nat
def tw8333612421290543247:=Nat
def tw8355320059865950557:=Nat
def tw8360943429581551195:=Nat
def tw8371380728825659515:=Nat
def tw8397846653256835541:=Nat
def tw8458759600686048743:=Nat
def tw8472684874161095074:=Nat
def tw8486991001749976152:=Nat
def tw8488420817654340891:=Nat
def tw8540854226185839421:=Nat
def tw8597598566784623913:=Nat
def tw8755602796321167328:=Nat
def tw8816846302979204078:=Nat
def tw884693043394453696:=Nat
def tw8930280448368169058:=Nat
def tw8971201314466381996:=Nat
def tw8994461547734577760:=Nat
def tw9095110307083030025:=Nat
def tw9124792237815770526:=Nat
def tw9201188013676381195:=Nat
def tw9284455493774962615:=Nat
def tw9325755364252157450:=Nat
def tw9354720877155480323:=Nat
def tw9467460873294692738:=Nat
def tw9472069744226964458:=Nat
def tw9518976798617236273:=Nat
def tw9552251114743650785:=Nat
def tw9583365989923778863:=Nat
def tw9595335807991483146:=Nat
def tw9606369607675276078:=Nat
def tw9634304602279014845:=Nat
def tw9919175200330801521:=Nat
def tw9981127957693388967:=Nat
end PySem.W.Fast
theorem L2.us1{P:List ADM->Prop}(h:∀a0,P [a0]):∀us:List ADM,us.length=1->P us
 | [a0],_=>h a0
theorem L2.us2{P:List ADM->Prop}(h:∀a0 a1,P [a0,a1]):∀us:List ADM,us.length=2->P us
 | [a0,a1],_=>h a0 a1
theorem L2.us3{P:List ADM->Prop}(h:∀a0 a1 a2,P [a0,a1,a2]):∀us:List ADM,us.length=3->P us
 | [a0,a1,a2],_=>h a0 a1 a2
theorem L2.us4{P:List ADM->Prop}(h:∀a0 a1 a2 a3,P [a0,a1,a2,a3]):∀us:List ADM,us.length=4->P us
 | [a0,a1,a2,a3],_=>h a0 a1 a2 a3
theorem L2.us5{P:List ADM->Prop}(h:∀a0 a1 a2 a3 a4,P [a0,a1,a2,a3,a4]):∀us:List ADM,us.length=5->P us
 | [a0,a1,a2,a3,a4],_=>h a0 a1 a2 a3 a4
local macro_rules | `(tactic| walk_at"fk")=>`(tactic| ((case a=>k_is);(case l=>k_is);(case c=>k_is);(case k=>k_is)))
local macro_rules | `(tactic| walk_at"f1")=>`(tactic| (refine' L2.fnat_mk (by assumption) (by assumption) ?a ?l ?c ?k (λ_ _ _ _ _ _=>L2.us1 (λ_=>rfl));walk_at"fk"))
local macro_rules | `(tactic| walk_at"f2")=>`(tactic| (refine' L2.fnat_mk (by assumption) (by assumption) ?a ?l ?c ?k (λ_ _ _ _ _ _=>L2.us2 (λ_ _=>rfl));walk_at"fk"))
local macro_rules | `(tactic| walk_at"f3")=>`(tactic| (refine' L2.fnat_mk (by assumption) (by assumption) ?a ?l ?c ?k (λ_ _ _ _ _ _=>L2.us3 (λ_ _ _=>rfl));walk_at"fk"))
local macro_rules | `(tactic| walk_at"f4")=>`(tactic| (refine' L2.fnat_mk (by assumption) (by assumption) ?a ?l ?c ?k (λ_ _ _ _ _ _=>L2.us4 (λ_ _ _ _=>rfl));walk_at"fk"))
local macro_rules | `(tactic| walk_at"f5")=>`(tactic| (refine' L2.fnat_mk (by assumption) (by assumption) ?a ?l ?c ?k (λ_ _ _ _ _ _=>L2.us5 (λ_ _ _ _ _=>rfl));walk_at"fk"))
open PySem PySem.W PyProof.Rows
set_option maxRecDepth 100000 in
set_option maxHeartbeats 0 in
theorem PySem.Challenge.cw_talkmarks_k47_read_to_the_end_holds : PySem.Challenge.rw_talkmarks_k47_read_to_the_end.Holds := by
 w_on; o_law; k_head; (case hw=>w_witness2)
 k_fill
 refine L2.law_walk (l:=PySem.Challenge.rw_talkmarks_k47_read_to_the_end) (k:=11) (st:=LW.top 65) (x:="_law_script") rfl rfl rfl ⟨rfl,by decide,by decide⟩ (fun w h Y=>PySem.W.kIn_of Y) ?F<|fun _ _ _ _ _ _ _=>rfl
 case F =>
  intro w mg h X G;have T:∀ P base,LW.Tops P w (L2.KOf X) mg base:=by
   intro P base;dsimp only[L2.KOf];constructor;walk_at"f1";walk_at"f2";walk_at"f2";walk_at"f1";walk_at"f2";walk_at"f2";walk_at"f2";walk_at"f1";walk_at"f1";walk_at"f2";walk_at"f2";walk_at"f3";walk_at"f3";walk_at"f1";walk_at"f1";walk_at"f1";walk_at"f3";walk_at"f2";walk_at"f2";walk_at"f3";walk_at"f2";walk_at"f2";walk_at"f2";walk_at"f2";walk_at"f2";walk_at"f4";walk_at"f3";walk_at"f2";walk_at"f2";walk_at"f1";walk_at"f3";walk_at"f4";walk_at"f4";walk_at"f4";walk_at"f4";walk_at"f4";walk_at"f3";walk_at"f2";walk_at"f2";walk_at"f2";walk_at"f3";walk_at"f2";walk_at"f1";walk_at"f1";walk_at"f2";walk_at"f3";walk_at"f3";walk_at"f4";walk_at"f5";walk_at"f3";walk_at"f4";walk_at"f2";walk_at"f3";walk_at"f1"
   ·unfold LW.B_ LW.C_
    iterate 9 (refine' L2.TopB.b ?tq ?_; (case tq=>refine' PySem.W.mg_none_of X G ?tr; (case tr=>k_is)))
    exact .nil
  exact ⟨(T PySem.Challenge.pw_talkmarks_k47_read_to_the_end {}).f_law,fun base f d F=>LW.ok_law (T _ base) F⟩
