import PyProof.Rows.All
import Wide.All
import OpenK.AllK
import Wide.FinOn
import Lean
import PyProof.EqAt
import PyProof.EqKinds
import PyProof.TupleCall
import PyProof.CompFree
import PyProof.NeKinds
import KE.KSortTup
import KE.KRevSl
import KE.KDictSum
import KE.KEqDict
import PyProof.Conv_int_bool
import PyProof.AttrMissHeap
import KE.KLam
import KE.KRevIter
import KE.KTryMore
import PyProof.ExcArgsOwn
import PySem.Challenge.RW_talkmarks_k30_likes
open PySem renaming wpAny_bind->u8,wpAny_pure->v5,Spec->AAC,wpAny_holding->F8,wpAny_callSpecial?_slot->Mo,wpAny_call_entry->K4,wpAny_newObj_type->Lu,wpAny_mono->G4,wpAny_setState_of->ME,wpAny_setField_rec->MR,wpAny_seqItems->Mc,wpAny_field->Ls,codeAny_builtin->Mw,mem_of_lookup->NL,wpAny_rule->Lz,wpAny_fieldsOf->MN,wpAny_setField->Nc,sizeLine_eq->Mh,wpAny_attempt->MM,wpAny_ite_split->Nu,eqIsQuiet_byValue->N4,wpAny_dictEntries->N3,wpAny_specialOf->NH,wpAny_notOrdered_dict->OU,wpAny_typeNameOfWhole_itemiter->Q0,wpAny_Call_Name_kw->Os,wpAny_forIn_list->N1,wpAny_isInstance->N0,wpAny_typeNameOfWhole_keyiter->QY,codeAny_call_builtin->OT,plainId_quiet->Nr,codeAny_mono->Na,wpAny_truthy_bool->Op,wpAny_askSetting->On,wpAny_typeOf->Nq,builtinLookup_eq_fast->PP,wpAny_typeNameOf_itemiter->QU,wpAny_typeNameOf_keyiter->QS,wpAny_setEntries_of->PK,Value->ADB,wpAny_Call_method_late->QM,wpAny_callSpecialIfBoundUnlessNone?_slot->R9,wpAny_execs_nil->OO,wpAny_dictEpoch->OM,wpAny_pyHash_int->Pz,wpAny_pyHash_str->Py,wpAny_passesOwn->Pv,wpAny_loadPart'->R3,typeLookup_type->Pt,wpAny_isOneOf_itemiter->Rz,wpAny_pyIter_list->Qz,wpAny_storeSet_of->Qy,wpAny_pyIter_slot->Qv,atKey_none_of_get->Qu,isSubtype_stop->Pp,atKey_of_get->OG,wpAny_execs_cons->Qr,wpAny_onRaise->Pm,wpAny_of_eq->OE,putSet_of->NU
open PySem.Str renaming ofString->v6
open List renaming getElem?_eq_getElem->A4,length_map->x6,getElem?_eq_some_iff->B6,mem_cons_of_mem->D4,size_toArray->C8,mem_map->A6,length_append->E3,mem_cons->A9,getElem?_map->E1,mem_cons_self->F5,length_cons->E9,all_eq_true->F4,getElem?_append_left->LF,map_cons->D7,getD_eq_getElem?_getD->LV,mem_of_getElem?->K7,length_singleton->LD,getElem?_append_right->Mp,mem_append_right->LP,length_nil->G8,getElem?_set_self->L7,mem_filter->I9,getElem?_set_ne->LU,mem_append->J0,prefix_append->LM,mem_singleton->LL,range->E4,getElem?_of_mem->Mg,length_take->LC,nodup_iff_pairwise_ne->Nh,mem_range->K6,nil_append->LB,nodup_cons->LK,append_nil->LS,append_assoc->Mn,not_mem_nil->Me,map_map->K2,map_append->L6,getElem_mem->Mm,find?_cons->Md,mem_map_of_mem->MS,take_length->Mx,take_add_one->MD,cons_lt_cons_iff->Ny,length_filter_le->Nx,length_drop->MC,pairwise_map->MP,mem_append_left->NM,all_cons->Mi,getElem?_take_of_lt->Ou,getElem?_eq_none->N9,filter_cons->Nf,prefix_rfl->Nd,filterMap_cons->N8,length->Ma,filter_sublist->N7,length_set->Nv,lookup_cons->NK,any_eq_true->NJ,length_range->N5,pairwise_iff_getElem->PU,zip_cons_cons->Oq,lt_irrefl->NG,take_of_length_le->PQ,find?_eq_none->OR,replicate->NX,drop_eq_getElem_cons->QV,not_lt->M8,getElem?_replicate->QR,map_congr_left->PL,getElem?_cons_succ->QP,cons_append->OP,nodup_nil->Ol,length_replicate->QK,set_append_right->QJ,find?_some->ON,take_sublist->PD,foldl_append->PB,perm_ext_iff_of_nodup->RI,mem_filterMap->QH,forIn_cons->Pu,pairwise_singleton->RD,getElem?_drop->QD,eraseIdx_cons_succ->RC,filter_append->QC,find?_append->Qs,find?_map->Po,getElem?_toArray->Ry,getD->NE,mem_of_mem_take->Rw,of_mem_zip->Qp,getElem_of_mem->Rt,filter_eq_self->Rs,length_zip->Ql,map_nil->Pk,toArray->Pj
open PySem.Heap renaming get?_push_of_some->A3,get?_push_size->C7,lt_size->A5,get?_update_self->LO,SameBut->J3,size_push->LJ,get?_update_other->OW,get?_update_ne->PM,MadeExcOf->Qj
open PySem.W renaming Frag->v9,kitOne->Ml,keepIn->Nt,kas_desc->Lr,fnOf->M9,nsIn->Np,findIn->NY,kas_rev->L5,kas_place->MY,hideAll->Pw,excIn->OI,cellsFrom_some->RB,kas_asc->Mv,codeIn->Pq,kas_descPart->OH,of_hideAll->Rq,callWith_K->Ro,kas_sort->ND,exmOne->Qi,methodObj->Rm,mg_of->Qg
open Nat renaming le_refl->x9,ne_of_lt->A8,lt_of_lt_of_le->J1,zero_le->D6,lt_irrefl->J4,lt_succ_self->Mf,le_trans->K3,lt_succ_of_lt->N6,ne_of_gt->MJ,not_lt_zero->NI,lt_or_ge->MI,sub_self->No,not_lt->Nm,lt_trichotomy->PC,le_add_right->Px,le_of_ble_eq_true->Rx,le_succ->OF,le_of_lt->Pl
open Bool renaming false_eq_true->C4,and_eq_true->G7,eq_false_iff->MQ,false_ne_true->Nw,not_true->MK,false_and->Ps
open Option.some renaming inj->D0
open Array renaming getElem?_eq_getElem->K5,length_toList->G2,getElem?_toList->J5,getElem?_eq_some_iff->MU,getD_eq_getD_getElem?->Ob,getElem?_eq_none->OV,getD->MA,forIn_toList->OQ,toList_push->Qx
open PySem.SetTable renaming below->G6,runEnd->LA,grown->Mj,bits->Nb,leap->NF,Probe->NW,turns->OL,fits->OK,insertAt->Qw,sizeAbove->Rn,layClean->Rl,fill->Qf
open PySem.Heap.SameBut renaming update->LN,refl->Rk
open Int renaming toNat_natCast->Lv,zero_add->Oj
open Ne renaming symm->A7
open Option renaming map_eq_some_iff->MT,isSome_iff_exists->OX,isSome_map->Qt
open PySem.Value renaming ref->F6,none->K1,bool->Nn,builtin->OJ,type->Oi,isStrOf_shape->Ru,isStrOf->Qh
open Classical renaming byContradiction->NO,propDecidable->Ot
open PySem.Around renaming under_plainId->Ng
open PySem.Builtin.SmallTypes renaming nextOf->Oa,ownedTupleIsFree->Q3,ownedTupleHandOut->R7
open False renaming elim->J2
open PyProof.Rows renaming slot_tuple_getitem->OZ,callWith_type1->RJ,get?_update_seq->Qm,envOfC->Rr
open List.Pairwise renaming and_mem->NN,nil->QA,filter->Rv
open PySem.NameKind renaming free->Mb,cell->NV
open Sum renaming inr->ABd
open PySem.Builtin.Tuple renaming tupleHashOf->Ov,tupleItemsOf->QX,tupleExact->QT
open PySem.Builtin.Str renaming strSliceIndices->OY,occurrences->QQ
open PySem.F renaming slot_dict_itemiterator_next->Q2,slot_tuple_getattribute->Q1,slot_list_getattribute->QZ,plainAttrs_dict->QO,args_dict_itemiterator_next_1->R8,entry_dict_itemiterator_next->R6,args_tuple_add_2->RG,entry_tuple_add->RE,slot_tuple_add->RA
open PySem.Builtin.Dict_items renaming ownsTuple->PY,ownedTupleFields->R5,ownedTupleIsFree->R4,pairFromOwner->R1
open PySem.Shared renaming TypeIs->ML
open PySem.Obj renaming mapSeq->L9,data_mapDictKeys->OS,isFreed_of_dict->PJ,putSet->MZ,data_mapFields->QE,data_mapDict->Qq
open PySem.SetTable.below renaming go->Oo
open List.cons renaming injEq->NZ,inj->Pn
open PySem.Calls renaming callWith_builtin->PR,evalArgs_plain->PN,spliced_nil->QB,spliced_cons->Rp
open PySem.SeqAt renaming EqAt->MB
open PySem.Builtin.Slice renaming slicePlaces->QW,sliceAdjust->RH,sliceApplied->RW
open PySem.Builtin.Dict renaming updateFrom->QN,showsAll->QI,missedRemoval->RV
open PySem.Txt renaming slice->Mz
open True renaming intro->M7
open List.Perm renaming refl->Om,eq_of_pairwise->RF,cons->Qk
open PySem.SetTable.layClean renaming free->QL
open PySem.SeqAt.EqAt renaming int_str->PH,str_int->PF,int_int->QG,str_str->QF,same->Qn
open PySem.Builtin.Frozenset renaming updateFrom->R0
open ForInStep renaming yield->Qo
open PySem.Builtin.List renaming listLengthHint->RZ,listExtendWith->RY
open PySem.SetTable.probe renaming go->Rj
open Option renaming some->a7,none->a8
open Bool renaming true->a9,false->bt
open PySem renaming Value->b7,Str->c5,World->c6,Program->c7,Addr->c8,Obj->c9,Heap->d5,sysModules->d6,entryOfKey->d7,mainGlobals->d8,bootBuiltins->d9,Around->e7,Shared->e8,Scope->f6,wpAny->f8,Expr->f9,model->ge,Pos->i0,backTo->i3,starEach->i4,Stmt->i5,holding->i6,swapsWith->i7,assign->i8,assignEach->i9,pyNext->j0,letOwnedTupleGo->j3,pyIter->j4,rawInt->j5,foldedSetIterable->j6,binaryOp->j7,compareOp->j8,behindInMarks->j9,cLine->k7,FuncData->k9,codeAny->l7,wpAny_call->l8,Keyword->m3,NameKind->m5,IsPart->m6,getItem->m7,sliceBounds->m8,typeOf->m9,attributeBase->n0,backToKw->n5,keywordEach->n6,DictEntry->n9,atKey->o0,reduceHash->o4,Walks->o5,firstArgMember->o7,IsPair->o8,SetTable->p5,scanBound->r9,relayAll->t4,pickOrder->t5
open PyProof.Rows renaming envOfC->b9,AllBare->f7,seqObj->o6
set_option autoImplicit true
set_option relaxedAutoImplicit true
set_option compiler.extract_closed false
set_option Elab.async false
set_option linter.all false
set_option maxRecDepth 100000
def t6:=@if_pos
def t7:=@if_neg
def t8:=@absurd
def t9:=@decide_eq_true_eq
def u3:=@beq_iff_eq
def u4:=@if_false
def u5:=@if_true
def u6:=@congrArg
def u7:=@beq_self_eq_true
-- CHANGE: your row's module here,as the last of these rows
theorem dF_{p:Prop}[Decidable p](h:¬p):decide p=bt:=decide_eq_false h
theorem dT_{p:Prop}[Decidable p](h:p):decide p=a9:=decide_eq_true h
theorem oT_{p:Prop}[Decidable p](h:decide p=a9):p:=of_decide_eq_true h
namespace L2
open PySem PySem.Spec PyProof.Rows
noncomputable abbrev F3:=Sum Int c5
noncomputable def uD:F3->b7->Bool
 |.inl k,v=>Value.isInt k v
 |.inr x,v=>Qh x v
noncomputable def keyH(w:c6):F3->Int
 |.inl k=>hashInt k
 |.inr x=>hashStr w x
theorem ba:∀{k:F3}{v:b7},uD k v=a9->(∃i t,k=Sum.inl i/\v=Value.int i t)\/(∃x t,k=ABd x/\v=Value.str x t)
 |.inl i,v,h=>by obtain⟨t,e⟩:=Value.isInt_shape (k:=i) (v:=v) h;exact .inl ⟨i,t,rfl,e⟩
 |.inr x,v,h=>by obtain⟨t,e⟩:=Ru (x:=x) (v:=v) h;exact .inr ⟨x,t,rfl,e⟩
theorem Ah(i:Int)(t:Tok):uD (.inl i) (.int i t)=a9:=by simp[uD,Value.isInt]
theorem Ag(x:c5)(t:Tok):uD (.inr x) (.str x t)=a9:=by simp[uD,Qh]
theorem JK(a b:Int):decide ((Sum.inl a:F3)=Sum.inl b)=(a==b):=by by_cases e:a=b;subst e;simp;have h:¬(Sum.inl a:F3)=Sum.inl b:=λq=>e<|Sum.inl.inj q;rw[dF_ h];exact(beq_eq_false_iff_ne.mpr e).symm
theorem Ey(a b:c5):decide ((ABd a:F3)=ABd b)=decide (a=b):=by by_cases e:a=b;subst e;simp;have h:¬(ABd a:F3)=ABd b:=λq=>e<|Sum.inr.inj q;rw[dF_ h,dF_ e]
theorem JJ(a:Int)(b:c5):decide ((Sum.inl a:F3)=ABd b)=bt:=dF_<|λq=>nomatch q
theorem JI(a:c5)(b:Int):decide ((ABd a:F3)=Sum.inl b)=bt:=dF_<|λq=>nomatch q
noncomputable def bJ(prog:c7)(w:c6):PySem.KeyKind prog w F3 where
 is:=uD
 hash:=keyH w
 inj:=λv a b f d=>by
  rcases ba f with⟨i,t,rfl,rfl⟩|⟨x,t,rfl,rfl⟩
  rcases ba d with⟨j,u,rfl,e⟩|⟨y,u,rfl,e⟩
  injection e with e1 _;rw[e1];exact nomatch e
  rcases ba d with⟨j,u,rfl,e⟩|⟨y,u,rfl,e⟩
  exact nomatch e
  injection e with e1 _;rw[e1]
 byValue:=λk v h=>by rcases ba h with⟨i,t,rfl,rfl⟩|⟨x,t,rfl,rfl⟩<;>rfl
 pyHash:=λc h=>by
  rcases ba c with⟨i,t,rfl,rfl⟩|⟨x,t,rfl,rfl⟩
  exact Pz h;exact Py h
 eqBool:=λg c h=>by
  rcases ba g with⟨i,t,rfl,rfl⟩|⟨x,t,rfl,rfl⟩
  rcases ba c with⟨j,u,rfl,rfl⟩|⟨y,u,rfl,rfl⟩
  rw[JK]at h;exact wpAny_eqBool_int h;rw[JJ]at h;exact PH i t y u _ _ _ _ h;rcases ba c with⟨j,u,rfl,rfl⟩|⟨y,u,rfl,rfl⟩
  rw[JI]at h;exact PF x t j u _ _ _ _ h;rw[Ey]at h;exact wpAny_eqBool_str h
 «strs»:=λk x t v h=>by
  rcases ba h with⟨i,u,rfl,e⟩|⟨y,u,rfl,e⟩
  exact nomatch e
  injection e with e1 _;subst e1;cases v<;>rfl
theorem ur(prog:c7)(w:c6)(i:Int)(t:Tok):(bJ prog w).is (.inl i) (.int i t)=a9:=Ah i t
theorem uo(prog:c7)(w:c6)(x:c5)(t:Tok):(bJ prog w).is (.inr x) (.str x t)=a9:=Ag x t
inductive V where
 |non|bl (b:Bool)|int (i:Int)|str (x:c5)|byt (b:Array UInt8)|flt (b:UInt64)|ref (a:c8)|ty (n:String)
 deriving DecidableEq
def aL:V->b7->Prop
 |.non,u=>u=K1
 |.bl b,u=>u=Nn b
 |.int i,u=>∃t,u=Value.int i t
 |.str x,u=>∃t,u=Value.str x t
 |.byt b,u=>∃t,u=Value.bytes b t
 |.flt b,u=>∃t,u=Value.float b t
 |.ref a,u=>u=F6 a
 |.ty n,u=>u=Oi n
abbrev az:List V->List b7->Prop:=Paired aL
theorem az.length(r:az xs us):xs.length=us.length:=Paired.length r
theorem az.get:∀{xs:List V}{us:List b7}{i:Nat}{x:V},az xs us->xs[i]?=a7 x->∃u,us[i]?=a7 u/\aL x u
 |_,_,_,_,.nil,e=>by simp at e
 |_,_,0,_,.cons r _,e=>by simp at e;subst e;exact⟨_,rfl,r⟩
 |_,_,i+1,x,.cons _ t,e=>by obtain⟨u,h1,h2⟩:=az.get (i:=i) (x:=x) t (by simpa using e);exact⟨u,by simpa using h1,h2⟩
theorem az.set(r:aL x u):∀{xs:List V}{us:List b7} (i:Nat),az xs us->az (xs.set i x) (us.set i u)
 |_,_,_,.nil=>.nil
 |_,_,0,.cons _ t=>.cons r t
 |_,_,i+1,.cons q t=>.cons q<|az.set r i t
theorem az.append(h:az xs us)(s:az ys ws):az (xs++ys) (us++ws):=by
 induction h with
 |nil=>exact s
 |cons r t i=>exact .cons r i
theorem az.take:∀{xs:List V}{us:List b7} (n:Nat),az xs us->az (xs.take n) (us.take n)
 |_,_,0,_=>.nil
 |_,_,_+1,.nil=>.nil
 |_,_,n+1,.cons r t=>.cons r<|az.take n t
theorem az.drop:∀{xs:List V}{us:List b7} (n:Nat),az xs us->az (xs.drop n) (us.drop n)
 |_,_,0,r=>r
 |_,_,_+1,.nil=>.nil
 |_,_,n+1,.cons _ t=>az.drop n t
def EF:Option V->Option b7->Prop
 |some v,a7 u=>aL v u
 |none,a8=>True
 |_,_=>False
def KV{κ:Type}:List (κ×V)->List (κ×b7)->Prop:=Paired λ(p:κ×V) (q:κ×b7)=>p.1=q.1/\aL p.2 q.2
noncomputable def kV:F3->V
 |.inl i=>.int i
 |.inr x=>.str x
inductive HO where
 |lst (xs:List V)
 |tup (xs:List V)
 |dK (kvs:List (F3×V))|dT (kvs:List (List F3×V))
 |set (S:Int->Bool) (n:Nat)
 |ins (C dx:c8) (fs:List (c5×V))
 |own (x:c8)
 |xd (fs:List (c5×V))
 |met (f x:c8)
 |rng (lo hi:Int)
 |frz (o:c9) (u:HO)
 |tbl (ps:Array b7)
 |ext (φ:c7->c6->d5->Prop)
abbrev Hp:=c8->Option HO
noncomputable def A2(H:Hp)(a:c8)(o:HO):Hp:=λb=>if b=a then a7 o else H b
theorem aJ:A2 H a o a=a7 o:=by unfold A2;rw[t6 rfl]
theorem au(h:b≠a):A2 H a o b=H b:=by unfold A2;rw[t7 h]
theorem xm{H:Hp}{a b:c8}{o u:HO}(h:H a=a7 o)(h':H b=a7 u)(d:o≠u):a≠b:=by intro e;subst e;rw[h]at h';exact d<|D0 h'
theorem ad{H:Hp}{a b:c8}{o:HO}(h:H a=a7 o)(h':H b=a8):a≠b:=by intro e;subst e;rw[h]at h';cases h'
section
variable(P:c7)(w:c6)
def Ed(h:d5)(a:c8)(s:Array b7):Prop:=∃o,h.get? a=a7 o/\o.cls=.type "tuple"/\(∃n,o.data=.seq s n)/\o.dict=a8
theorem Ed.tup:Ed h a items->IsTup h a items:=λ⟨o,e,c,⟨n,d⟩,_⟩=>⟨o,e,c,n,d⟩
theorem Ed.new(h:d5)(s:Array b7):Ed (h.push { cls:=.type "tuple",data:=.seq s }) h.objs.size s:=⟨_,C7 _ rfl,rfl,⟨_,rfl⟩,rfl⟩
def bx(H:Hp)(h:d5)(a:c8):HO->Prop
 |.lst xs=>xs.length<=sizeLine/\∃(its:List b7) (n:Nat),az xs its/\h.get? a=a7 { cls:=.type "list",data:=.seq its.toArray n }
 |.tup xs=>xs.length<=sizeLine/\∃its:List b7,az xs its/\Ed h a its.toArray
 |.dK kvs=>kvs.length<=sizeLine/\(a==d6)=bt/\∃vs,KV kvs vs/\h.DictOf (bJ P w) a vs
 |.dT kvs=>kvs.length<=sizeLine/\(a==d6)=bt/\∃xs:List (List F3×c8×b7),Paired (λ(p:List F3×V) (q:List F3×c8×b7)=>p.1=q.1/\H q.2.1=a7 (.tup<|p.1.map kV)/\aL p.2 q.2.2) kvs xs /\∃o es ep,h.get? a=a7 o/\o.ExactDict/\o.data=.dict es ep/\es.toList=xs.map (d7<|tupleKind<|bJ P w)/\(xs.map (·.1)).Nodup
 |.set S n=>h.SetOf (intKind P w) a S n
 |.ins C dx fs=>H dx=a7 (.own a)/\fs.length<=1000/\dx≠a/\h.get? a=a7 (PySem.W.instObj C dx) /\∃mA,h.Ns1 dx mA/\(∀f,EF (fs.lookup f)<|mA f)/\PySem.Within mA (fs.map (·.1))
 |.own _=>∃o,h.get? a=a7 o
 |.xd fs=>∃mA,h.Ns1 a mA/\∀f,EF (fs.lookup f)<|mA f
 |.rng lo hi=>∃t u v,h.get? a=a7 { cls:=.type "range",data:=.fields #[.int lo t,.int hi u,.int 1 v] }
 |.frz o u=>h.get? a=a7 o/\bx H h a u
 |.tbl ps=>h.get? a=a7 { cls:=.none,data:=.fields ps }
 |.met f x=>h.get? a=a7 (Rm (.ref f)<|.ref x)
 |.ext φ=>φ P w h/\(∃o,h.get? a=a7 o)/\∀h1 h2:d5,φ P w h1->(∀o,h1.get? a=a7 o->h2.get? a=a7 o)->φ P w h2
def E6(H:Hp)(h:d5):Prop:=∀a o,H a=a7 o->bx P w H h a o
end
section
variable{P:c7}{w:c6}{H H':Hp}{h h':d5}{a:c8}{o:HO}
theorem bx.lt(x:bx P w H h a o):a<h.objs.size:=by
 cases o with
 |lst xs=>obtain⟨_,_,_,_,e⟩:=x;exact A5 e
 |tup xs=>obtain⟨_,_,_,p⟩:=x;exact p.tup.lt
 |dK kvs=>obtain⟨_,_,_,_,o,_,_,e,_⟩:=x;exact A5 e
 |dT kvs=>obtain⟨_,_,_,_,o,_,_,e,_⟩:=x;exact A5 e
 |set S n=>obtain⟨o,_,_,_,e,_⟩:=x;exact A5 e
 |ins C d s=>obtain⟨_,_,_,e,_⟩:=x;exact A5 e
 |own y=>obtain⟨_,e⟩:=x;exact A5 e
 |xd s=>obtain⟨_,⟨_,_,_,e,_⟩,_⟩:=x;exact A5 e
 |rng l hi=>obtain⟨_,_,_,e⟩:=x;exact A5 e
 |frz b u=>obtain⟨e,_⟩:=x;exact A5 e
 |tbl ps=>exact A5<|show h.get? a=a7 _ from x
 |met f y=>exact A5<|show h.get? a=a7 _ from x
 |ext φ=>obtain⟨_,⟨_,e⟩,_⟩:=x;exact A5 e
theorem Paired.mapP{α β:Type}{F G:α->β->Prop}:∀{l₁:List α}{l₂:List β},Paired F l₁ l₂->(∀a b,F a b->G a b)->Paired G l₁ l₂
 |_,_,.nil,_=>.nil
 |_,_,.cons r t,f=>.cons (f _ _ r)<|Paired.mapP t f
theorem bx.stay(x:bx P w H h a o)(k:∀b u,(b=a\/H b=a7 (.own a))->h.get? b=a7 u->h'.get? b=a7 u)(B:∀b,H b=a7 (.own a)->H' b=a7 (.own a)) (D:∀b xs,H b=a7 (.tup xs)->H' b=a7 (.tup xs)):bx P w H' h' a o:=by
 induction o with
 |lst xs=>obtain⟨z,its,n,r,e⟩:=x;exact⟨z,its,n,r,k _ _ (.inl rfl) e⟩
 |tup xs=>obtain⟨z,its,r,g,e,c⟩:=x;exact⟨z,its,r,g,k _ _ (.inl rfl) e,c⟩
 |dK kvs=>obtain⟨z,y,vs,r,g,es,i,e,c⟩:=x;exact⟨z,y,vs,r,g,es,i,k _ _ (.inl rfl) e,c⟩
 |dT kvs=>obtain⟨z,y,xs,r,g,es,i,e,c⟩:=x;exact⟨z,y,xs,Paired.mapP r λp q z=>⟨z.1,D _ _ z.2.1,z.2.2⟩,g,es,i,k _ _ (.inl rfl) e,c⟩
 |set S n=>obtain⟨g,es,i,t,e,c⟩:=x;exact⟨g,es,i,t,k _ _ (.inl rfl) e,c⟩
 |ins C G m=>obtain⟨d,z,F,e,A,⟨j,es,i,l,c⟩,r⟩:=x;exact⟨B _ d,z,F,k _ _ (.inl rfl) e,A,⟨j,es,i,k _ _ (.inr d) l,c⟩,r⟩
 |own y=>obtain⟨g,e⟩:=x;exact⟨g,k _ _ (.inl rfl) e⟩
 |xd m=>obtain⟨A,⟨j,es,i,e,c⟩,r⟩:=x;exact⟨A,⟨j,es,i,k _ _ (.inl rfl) e,c⟩,r⟩
 |rng I hi=>obtain⟨t,u,v,e⟩:=x;exact⟨t,u,v,k _ _ (.inl rfl) e⟩
 |frz g u E=>obtain⟨e,q⟩:=x;exact⟨k _ _ (.inl rfl) e,E q⟩
 |tbl ps=>have e:h.get? a=a7 { cls:=.none,data:=.fields ps }:=x;show h'.get? a=a7 { cls:=.none,data:=.fields ps };exact k a _ (.inl rfl) e
 |met f y=>have e:h.get? a=a7 (Rm (.ref f)<|.ref y):=x;show h'.get? a=a7 (Rm (.ref f)<|.ref y);exact k a _ (.inl rfl) e
 |ext φ=>obtain⟨p,⟨o,e⟩,s⟩:=x;exact⟨s _ _ p λo q=>k _ _ (.inl rfl) q,⟨o,k _ _ (.inl rfl) e⟩,s⟩
theorem E6.lt(x:E6 P w H h)(e:H a=a7 o):a<h.objs.size:=(x a o e).lt
theorem E6.fresh(x:E6 P w H h)(e:h.objs.size<=a):H a=a8:=by
 cases q:H a with
 |none=>rfl
 |some u=>exact t8 (J1 (x.lt q) e)<|J4 _
theorem E6.kept(x:E6 P w H h)(k:∀b u,h.get? b=a7 u->h'.get? b=a7 u):E6 P w H h':=λa o e =>
 (x a o e).stay (λb u _ q=>k b u q) (λ_ q=>q) λ_ _ q=>q
theorem E6.laid(x:E6 P w H h)(k:∀b u,h.get? b=a7 u->h'.get? b=a7 u)(hp:h.objs.size<=a)(n:bx P w (A2 H a o) h' a o):E6 P w (A2 H a o) h':=λb u e=>by have f:=x.fresh hp;by_cases d:b=a;subst d;rw[aJ]at e;cases e;exact n;rw[au d]at e;exact(x b u e).stay (λc v _ q=>k c v q) (λc q=>by rw[au<|ad q f];exact q) λc xs q=>by rw[au<|ad q f];exact q
end
def Rd(H:Hp)(a:c8)(u:HO):Prop:=H a=a7 u\/∃o,H a=a7 (.frz o u)
theorem Rd.ok(r:Rd H a u)(x:E6 P w H h):bx P w H h a u:=by
 rcases r with r|⟨o,r⟩
 exact x a u r;obtain⟨_,q⟩:=x a _ r;exact q
def Pf:Option HO->Prop
 |some (.lst _)=>True
 |some (.dK _)=>True
 |some (.dT _)=>True
 |some (.set _ _)=>True
 |some (.ins _ _ _)=>True
 |some (.ext _)=>True
 |_=>False
section
variable{P:c7}{w:c6}{H:Hp}{h h':d5}{x e:c8}{o':HO}
theorem E6.write(ok:E6 P w H h)(m:Pf (H x))(i:e=x\/H e=a7 (.own x))(k:∀b u,b≠e->h.get? b=a7 u->h'.get? b=a7 u)(o:∃u,h'.get? e=a7 u)(g:bx P w (A2 H x o') h' x o'):E6 P w (A2 H x o') h':=λb u q=>by
 have n:∀c y,H c=a7 (.own y)->c≠x:=λc y r z=>by subst z;rw[r]at m;exact m
 have p:∀c xs,H c=a7 (.tup xs)->c≠x:=λc xs r z=>by subst z;rw[r]at m;exact m
 by_cases d:b=x;subst d;rw[aJ]at q;cases q;exact g;rw[au d]at q;by_cases a:b=e;have j:H b=a7 (.own x):=by rcases i with z|z;exact t8 (a.trans z) d;rw[a];exact z
 rw[q]at j;cases j;obtain⟨v,l⟩:=o;exact⟨v,by rw[a];exact l⟩;refine(ok b u q).stay (λc v f r=>k c v ?_ r) (λc r=>by rw[au<|n c b r];exact r) λc xs r=>by rw[au<|p c xs r];exact r
 rcases f with rfl|f;exact a;rintro rfl;rcases i with z|z;exact n c b f z;rw[f]at z;cases z;exact d rfl
end
structure Un(fs ex:List c8)(H H':Hp)(h h':d5):Prop where
 keep:∀b o,h.get? b=a7 o->H b=a8->b∉fs->b∉ex->h'.get? b=a7 o
 slot:∀b o,h.get? b=a7 o->H b=a8->b∈fs->b∉ex->∃sl,h'.get? b=a7 { o with slots:=sl }
 free:∀b o,h.get? b=a7 o->H b=a8->b∉ex->H' b=a8
 there:∀b o,h.get? b=a7 o->b∉ex->∃o',h'.get? b=a7 o'
 tups:∀b xs,H b=a7 (.tup xs)->H' b=a7 (.tup xs)
 frzs:∀b o u,H b=a7 (.frz o u)->H' b=a7 (.frz o u)
 tbls:∀b ps,H b=a7 (.tbl ps)->∃more,H' b=a7 (.tbl<|ps++more)
section
variable{fs fs' ex ex':List c8}{H H1 H2:Hp}{h h1 h2 h':d5}{a x e:c8}{o:HO}
theorem Un.any(u:Un fs ex H H1 h h1)(q:h.get? b=a7 ob)(n:H b=a8)(x:b∉ex):∃sl,h1.get? b=a7 { ob with slots:=sl }:=by by_cases d:b∈fs;exact u.slot b ob q n d x;exact⟨ob.slots,u.keep b ob q n d x⟩
theorem Un.kept(k:∀b u,h.get? b=a7 u->h'.get? b=a7 u):Un fs ex H H h h':=⟨λb o q _ _ _=>k b o q,λb o q _ _ _=>⟨o.slots,k b o q⟩,λ_ _ _ n _=>n,λb o q _=>⟨o,k b o q⟩,λ_ _ q=>q,λ_ _ _ q=>q,λ_ ps q=>⟨#[],by rw[q];simp⟩⟩
theorem Un.refl:Un fs ex H H h h:=Un.kept λ_ _ q=>q
theorem Un.laid(k:∀b u,h.get? b=a7 u->h'.get? b=a7 u)(hp:h.objs.size<=a)(f:H a=a8):Un fs ex H (A2 H a o) h h' where
 keep:=λb u q _ _ _=>k b u q
 slot:=λb u q _ _ _=>⟨u.slots,k b u q⟩
 free:=λb u q n _=>by rw[au<|A8<|J1 (A5 q) hp];exact n
 there:=λb u q _=>⟨u,k b u q⟩
 tups:=λb xs q=>by rw[au<|ad q f];exact q
 frzs:=λb u xs q=>by rw[au<|ad q f];exact q
 tbls:=λb ps q=>⟨#[],by rw[au<|ad q f,q];simp⟩
theorem Un.write(m:Pf (H x))(i:e=x\/H e=a7 (.own x))(k:∀b u,b≠e->h.get? b=a7 u->h'.get? b=a7 u)(c:∃u,h'.get? e=a7 u):Un fs ex H (A2 H x o) h h':=by
 have g:∀b,H b=a8->b≠x:=λb n z=>by subst z;rw[n]at m;exact m
 have f:∀b,H b=a8->b≠e:=λb n z=>by subst z;rcases i with r|r;exact g b n r;rw[n]at r;cases r
 have d:∀b u,H b=a7 u->¬Pf (a7 u)->b≠x:=λb u q j z=>by subst z;rw[q]at m;exact j m
 refine⟨λb u q n _ _=>k b u (f b n) q,λb u q n _ _=>⟨u.slots,k b u (f b n) q⟩,λb u q n _=>by rw[au<|g b n];exact n,λb u q _=>?_,λb xs q=>by rw[au<|d b _ q λz=>z];exact q,λb u xs q=>by rw[au<|d b _ q λz=>z];exact q,λb ps q=>⟨#[],by rw[au<|d b _ q λz=>z,q];simp⟩⟩;by_cases a:b=e;subst a;exact c;exact⟨u,k b u a q⟩
end
noncomputable def trk(h:d5)(H:Hp):List c8:=(E4 h.objs.size).filter λa=>(H a).isSome
noncomputable def Dh(h:d5)(H:Hp):d5:=Pw h<|trk h H
theorem Aq(h:d5)(H:Hp):(Dh h H).objs.size=h.objs.size:=PySem.W.hideAll_size _ _
theorem Dg(e:h.get? b=a7 o)(n:H b=a8):(Dh h H).get? b=a7 o:=PySem.W.hideAll_get _ e λd=>by have q:(H b).isSome=a9:=(I9.mp d).2;rw[n]at q;simp at q
theorem FF(e:(Dh h H).get? b=a7 o):h.get? b=a7 o/\H b=a8:=by
 have a:h.get? b=a7 o:=Rq (trk h H) e;refine⟨a,?_⟩;cases q:H b with
 |none=>rfl
 |some x=>have d:b∈trk h H:=I9.mpr ⟨K6.mpr<|A5 a,by simp[q]⟩;have z:(Dh h H).get? b=a8:=PySem.W.hideAll_none (trk h H) d;rw[z]at e;cases e
noncomputable def Hr(g h:d5)(L:c8):List (c8×c9):=(E4 h.objs.size).filterMap λa=>if a=L\/(g.get? a).isSome=a9 then a8 else(h.get? a).map λo=>(a,o)
noncomputable def aM(g h:d5)(L d:c8):List (c8×c9):=(Hr g h L).filter λp=>decide<|p.1≠d
structure Mod(K:v9)(mg:c5->Option b7)(base:d5):Prop where
 kin:K.In base
 glob:base.Ns d8 mg
 blt:∃mb,base.Ns builtinsNs mb/\∀x:c5,x≠"__name__"->mb x=d9 x
 nolimit:base.NoLimit
/-- the context: a def's body (or a comprehension's block) running. base: fixed through the whole law;s₀,H₀: the entry;outer: the frames whose slots others may change (a def's callers);stack: all frames that run;
  ex: iterators that were made eQ of the entry and are walked here (a comprehension's);fn: the names whose cells were made at the entry (a def: all;a comprehension's block: its own);calm: not HJ an except suite;pn: pins that every state bears;xe: what is wanted of an exception that leaves the code -/
structure Cx where
 prog:c7
 w:c6
 K:v9
 mg:c5->Option b7
 base:d5
 A:e7
 N:List c5
 s₀:e8
 H₀:Hp
 env:Env
 outer:List Env
 stack:List Env
 ex:List c8
 fn:c5->Bool
 calm:Bool
 pn:List (c8×c9)
 xe:b7->e8->Prop
noncomputable def frs(l:List Env):List c8:=l.filterMap (·.frame)
noncomputable abbrev Cx.fs(X:Cx):List c8:=frs X.outer
def Od(c:f6)(x:c5):Prop:=c.names.lookup x=a7 .local\/c.names.lookup x=a7 .cell\/c.names.lookup x=a7 .free
def NT(c:f6)(x:c5):Prop:=c.names.lookup x=a7 .local\/c.names.lookup x=a7 .cell
def Look(env:Env)(h:d5)(m:c5->Option b7)(x:c5)(u:b7):Prop:=(env.kindOf x=a7 .local/\m x=a7 u)\/((env.kindOf x=a7 .cell\/env.kindOf x=a7 .free)/\∃c,env.cells.lookup x=a7 c/\h.IsCell c (a7 u))
structure Cx.Ok(X:Cx):Prop where
 mod:Mod X.K X.mg X.base
 kind:X.env.scope.kind=.function
 glob:X.env.globals=d8
 blt:X.env.builtins=builtinsNs
 above:X.s₀.heap.objs.size<=X.env.locals
 inj:∀x y c,X.env.cells.lookup x=a7 c->X.env.cells.lookup y=a7 c->x=y
 has:∀x,(X.env.kindOf x=a7 .cell\/X.env.kindOf x=a7 .free)->∃c,X.env.cells.lookup x=a7 c
 cab:∀x c,X.fn x=a9->X.env.cells.lookup x=a7 c->X.s₀.heap.objs.size<=c
 hd:X.calm=a9->X.A.handled=a8
 frames:X.A.frames=a7 X.stack
 stk:X.stack=X.outer\/(X.stack=X.env::X.outer/\X.env.frame=a7 X.env.locals)
 exf:∀b∈X.ex,b≠X.env.locals/\∀x c,X.env.cells.lookup x=a7 c->c≠b
 bs:∀b o,X.base.get? b=a7 o->X.s₀.heap.get? b=a7 o/\X.H₀ b=a8
 bsz:X.base.objs.size<=X.s₀.heap.objs.size
 noex:∀b o,X.base.get? b=a7 o->b∉X.ex
 exfs:∀b∈X.ex,b∉X.fs
 funs:X.s₀.heap.FunFrames X.base X.outer
 frf:∀b∈X.fs,X.H₀ b=a8
structure v4(X:Cx)(pins:List (c8×c9))(σ:List (Option V))(H:Hp)(s:e8):Prop where
 ok:X.Ok
 os:s.os=X.s₀.os
 bare:f7 s.gens
 base:Un X.fs X.ex X.H₀ H X.s₀.heap s.heap
 loc:∃m,s.heap.Ns X.env.locals m/\∀(i:Nat) (x:c5) (v:V),X.N[i]?=a7 x->σ[i]?=a7 (a7 v)->Od X.env.scope x->∃u,aL v u/\Look X.env s.heap m x u
 cell:∀x c,X.env.cells.lookup x=a7 c->∃v,s.heap.IsCell c v
 free:H X.env.locals=a8
 freeC:∀x c,X.env.cells.lookup x=a7 c->H c=a8
 pin:∀p∈X.pn++pins,s.heap.get? p.1=a7 p.2/\H p.1=a8/\p.1≠X.env.locals/\p.1∉X.fs/\∀v,p.2.data≠.cell v
 hok:E6 X.prog X.w H s.heap
 len:σ.length=X.N.length
section
variable{X:Cx}{pins:List (c8×c9)}{σ:List (Option V)}{H H':Hp}{s:e8}{h':d5}
theorem Cx.Ok.nofr(ok:X.Ok)(e:X.base.get? b=a7 o):b∉X.fs:=λd=>by have:=(ok.funs.mem d).1;rw[e]at this;cases this
theorem v4.bs(I:v4 X pins σ H s):∀b o,X.base.get? b=a7 o->s.heap.get? b=a7 o/\H b=a8:=λb o e =>
 ⟨I.base.keep b o (I.ok.bs b o e).1 (I.ok.bs b o e).2 (I.ok.nofr e)<|I.ok.noex b o e,I.base.free b o (I.ok.bs b o e).1 (I.ok.bs b o e).2<|I.ok.noex b o e⟩
theorem v4.bk(I:v4 X pins σ H s):∀b o,X.base.get? b=a7 o->s.heap.get? b=a7 o:=λb o e=>(I.bs b o e).1
theorem v4.mod(I:v4 X pins σ H s):Mod X.K X.mg X.base:=I.ok.mod
theorem v4.kIn(I:v4 X pins σ H s):X.K.In s.heap:=I.ok.mod.kin.keeps I.bk
theorem v4.lt(I:v4 X pins σ H s):X.env.locals<s.heap.objs.size:=let ⟨_,hn,_⟩:=I.loc;hn.lt
theorem v4.sz(I:v4 X pins σ H s):X.s₀.heap.objs.size<=s.heap.objs.size:=K3 I.ok.above<|Pl I.lt
theorem v4.nofs(I:v4 X pins σ H s)(h:s.heap.objs.size<=a):a∉X.fs:=λd=>by obtain⟨_,o,B,_⟩:=I.ok.funs.mem d;exact t8 (J1 (A5 B)<|K3 I.sz h)<|J4 _
theorem v4.cne(I:v4 X pins σ H s):∀x c,X.env.cells.lookup x=a7 c->c≠X.env.locals:=λx c e z=>by obtain⟨v,o,B,d⟩:=I.cell x c e;obtain⟨m,⟨o',es,i,a,h,_⟩,_⟩:=I.loc;rw[z,a]at B;cases B;rw[h]at d;cases d
theorem v4.funs(I:v4 X pins σ H s):s.heap.FunFrames X.base X.outer:=by
 have a:∀(l:List Env),(∀b∈frs l,b∈X.fs)->X.s₀.heap.FunFrames X.base l->s.heap.FunFrames X.base l:=by
  intro l;induction l with
  |nil=>intro _ _;trivial
  |cons env r j=>intro hs g;obtain⟨k,⟨L,o,f,n,B,c⟩,i⟩:=g;have h:L∈X.fs:=hs L (by unfold frs;rw[N8,f];exact F5);obtain⟨m,e⟩:=I.base.slot L o B (I.ok.frf L h) h λz=>I.ok.exfs L z h;exact⟨k,⟨L,_,f,n,e,c⟩,j (λb d=>hs b<|by unfold frs;rw[N8,f];exact D4 _ d) i⟩
 exact a X.outer (λ_ d=>d) I.ok.funs
theorem v4.stack(I:v4 X pins σ H s):s.heap.FunFrames X.base X.stack:=by
 rcases I.ok.stk with e|⟨e,f⟩
 rw[e];exact I.funs;rw[e];obtain⟨m,n,_⟩:=I.loc;refine .cons (by rw[I.ok.kind];decide) f n ?_ I.funs;exact Heap.get?_none_of_le<|K3 I.ok.bsz I.ok.above
theorem v4.stkSub(I:v4 X pins σ H s):∀b∈frs X.stack,b∈X.env.locals::X.fs:=λb d=>by
 rcases I.ok.stk with e|⟨e,f⟩
 rw[e]at d;exact D4 _ d;rw[e]at d;unfold frs at d;rw[N8,f]at d;exact d
theorem v4.stkFree(I:v4 X pins σ H s):∀b∈frs X.stack,H b=a8:=λb d=>by rcases A9.mp (I.stkSub b d)with e|d;rw[e];exact I.free;obtain⟨_,o,B,_⟩:=I.ok.funs.mem d;exact I.base.free b o B (I.ok.frf b d) λz=>I.ok.exfs b z d
theorem v4.step{g':Array GenState}{t':Nat}{d':Drawn}{ch:List c8}(I:v4 X pins σ H s)(a:∀b∈ch,(b∈X.ex\/X.s₀.heap.objs.size<=b)/\b≠X.env.locals/\(∀x c,X.env.cells.lookup x=a7 c->c≠b)/\∀p∈X.pn++pins,p.1≠b)(g:∀b o,b≠X.env.locals->b∉X.fs->b∉ch->s.heap.get? b=a7 o->H b=a8->h'.get? b=a7 o)(slot:∀b o,b≠X.env.locals->b∈X.fs->b∉ch->s.heap.get? b=a7 o->H b=a8->∃sl,h'.get? b=a7 { o with slots:=sl }) (f:∀b o,b∉ch->s.heap.get? b=a7 o->H b=a8->H' b=a8)(A:∀b o,b∉ch->s.heap.get? b=a7 o->∃o',h'.get? b=a7 o')(G:∀b xs,H b=a7 (.tup xs)->H' b=a7 (.tup xs)) (E:∀b o u,H b=a7 (.frz o u)->H' b=a7 (.frz o u)) (F:∀b ps,H b=a7 (.tbl ps)->∃more,H' b=a7 (.tbl<|ps++more))(ns:∀m,s.heap.Ns X.env.locals m->h'.Ns X.env.locals m) (K:E6 X.prog X.w H' h') (R:f7 g') :
  v4 X pins σ H' { s with heap:=h',gens:=g',drawn:=d',toks:=t' }:=by
 have L:∀b o,X.s₀.heap.get? b=a7 o->b≠X.env.locals:=λb o e=>A8<|J1 (A5 e) I.ok.above;have C:∀b o,X.s₀.heap.get? b=a7 o->b∉X.ex->b∉ch:=λb o e h y=>by rcases(a b y).1 with z|z;exact h z;exact t8 (J1 (A5 e) z)<|J4 _
 have cellK:∀x c,X.env.cells.lookup x=a7 c->∀v,s.heap.IsCell c v->h'.IsCell c v:=λx c e v ⟨o,B,J⟩=>by have j:c∉ch:=λz=>(a c z).2.2.1 x c e rfl;by_cases N:c∈X.fs;obtain⟨sl,q⟩:=slot c o (I.cne x c e) N j B<|I.freeC x c e;exact⟨_,q,J⟩;exact⟨o,g c o (I.cne x c e) N j B<|I.freeC x c e,J⟩
 refine⟨I.ok,I.os,R,⟨λb o e n y h=>?_,λb o e n y h=>?_,λb o e n h=>?_,λb o e h=>?_,λb xs e=>G b xs<|I.base.tups b xs e,λb o xs e=>E b o xs<|I.base.frzs b o xs e,λb ps e=>?_⟩,?_,λx c e=>?_,?_,λx c e=>?_,λp hp=>?_,K,I.len⟩;exact g b o (L b o e) y (C b o e h) (I.base.keep b o e n y h)<|I.base.free b o e n h;obtain⟨sl,t⟩:=I.base.slot b o e n y h;obtain⟨M,D⟩:=slot b _ (L b o e) y (C b o e h) t<|I.base.free b o e n h;exact⟨M,D⟩;obtain⟨o',t⟩:=I.base.there b o e h;exact f b o' (C b o e h) t<|I.base.free b o e n h;obtain⟨o',t⟩:=I.base.there b o e h;exact A b o' (C b o e h) t;obtain⟨U,t⟩:=I.base.tbls b ps e;obtain⟨V,D⟩:=F b _ t;exact⟨U++V,by rw[D,Array.append_assoc]⟩;obtain⟨m,T,S⟩:=I.loc;refine⟨m,ns m T,λi x v t D Q=>?_⟩;obtain⟨u,r,l⟩:=S i x v t D Q;refine⟨u,r,?_⟩;rcases l with l|⟨k,c,e,z⟩
 exact .inl l;exact .inr ⟨k,c,e,cellK x c e _ z⟩;obtain⟨v,z⟩:=I.cell x c e;exact⟨v,cellK x c e v z⟩;obtain⟨m,⟨o,_,_,B,_⟩,_⟩:=I.loc;exact f _ o (λz=>(a _ z).2.1 rfl) B I.free;obtain⟨v,o,B,J⟩:=I.cell x c e;exact f c o (λz=>(a c z).2.2.1 x c e rfl) B<|I.freeC x c e;obtain⟨e,n,O,P,d⟩:=I.pin p hp;have j:p.1∉ch:=λz=>(a p.1 z).2.2.2 p hp rfl;exact⟨g p.1 p.2 O P j e n,f p.1 p.2 j e n,O,P,d⟩
theorem v4.un{t':Nat}(I:v4 X pins σ H s)(u:Un X.fs [] H H' s.heap h')(K:E6 X.prog X.w H' h'):v4 X pins σ H' { s with heap:=h',toks:=t' }:=by obtain⟨m,⟨o,es,i,B,r⟩,_⟩:=id I.loc;obtain⟨l,L⟩:=u.any B I.free (by simp);exact I.step (g':=s.gens) (d':=s.drawn) (ch:=[]) (λ_ z=>nomatch z) (λb o _ h _ e n=>u.keep b o e n h<|by simp) (λb o _ h _ e n=>u.slot b o e n h<|by simp) (λb o _ e n=>u.free b o e n<|by simp) (λb o _ e=>u.there b o e<|by simp) u.tups u.frzs u.tbls (λg f=>by obtain⟨o',d,c,a,r'⟩:=f;rw[B]at a;cases a;exact⟨_,d,c,L,r'⟩) K I.bare
theorem v4.call{g':Array GenState}{t':Nat}{d':Drawn}{ch:List c8}(I:v4 X pins σ H s)(u:Un (frs X.stack) ch H H' s.heap h')(K:E6 X.prog X.w H' h')(R:f7 g')(a:∀b∈ch,(b∈X.ex\/X.s₀.heap.objs.size<=b)/\b≠X.env.locals/\(∀x c,X.env.cells.lookup x=a7 c->c≠b)/\∀p∈X.pn++pins,p.1≠b):v4 X pins σ H' { s with heap:=h',gens:=g',drawn:=d',toks:=t' }:=by obtain⟨m,⟨o,es,k,B,r⟩,_⟩:=id I.loc;obtain⟨q,L⟩:=u.any B I.free λz=>(a _ z).2.1 rfl;exact I.step (ch:=ch) a (λb o L i f e n=>u.keep b o e n (λz=>(A9.mp<|I.stkSub b z).elim L i) f) (λb o _ _ f e n=>u.any e n f) (λb o f e n=>u.free b o e n f) (λb o f e=>u.there b o e f) u.tups u.frzs u.tbls (λl j=>by obtain⟨o',g,d,h,r'⟩:=j;rw[B]at h;cases h;exact⟨_,g,d,L,r'⟩) K R
theorem v4.turned{t':Nat}{it:c8}(I:v4 X pins σ H s)(k:∀b o,b≠it->s.heap.get? b=a7 o->h'.get? b=a7 o)(j:H it=a8)(h:it≠X.env.locals)(h1:it∈X.ex\/X.s₀.heap.objs.size<=it) (h2:∀x c,X.env.cells.lookup x=a7 c->c≠it) (a:∀p∈X.pn++pins,p.1≠it):v4 X pins σ H { s with heap:=h',toks:=t' }:=by
 have t:∀b u,H b=a7 u->b≠it:=λb u e z=>by rw[z,j]at e;cases e
 refine I.step (g':=s.gens) (d':=s.drawn) (ch:=[it]) (λb d=>?_) (λb o _ _ f e _=>k b o (λz=>f<|by simp[z]) e) (λb o _ _ f e _=>⟨o.slots,k b o (λz=>f<|by simp[z]) e⟩) (λ_ _ _ _ n=>n) (λb o f e=>⟨o,k b o (λz=>f<|by simp[z]) e⟩) (λ_ _ e=>e) (λ_ _ _ e=>e) (λb ps e=>⟨#[],by rw[e];simp⟩) (λm g=>?_) (λb u e=>?_) I.bare;have e:b=it:=by simpa using d
 subst e;exact⟨h1,h,h2,a⟩;obtain⟨o,es,i,B,r⟩:=g;exact⟨o,es,i,k _ o (A7 h) B,r⟩;refine(I.hok b u e).stay (λc v f q=>k c v ?_ q) (λ_ q=>q) λ_ _ q=>q;rcases f with z|z;rw[z];exact t b u e;exact t c _ z
theorem v4.tok(I:v4 X pins σ H s)(t:Nat):v4 X pins σ H { s with toks:=t }:=I.un (h':=s.heap) (t':=t) Un.refl I.hok
theorem v4.kept(I:v4 X pins σ H s)(k:∀b u,s.heap.get? b=a7 u->h'.get? b=a7 u):v4 X pins σ H { s with heap:=h',toks:=t' }:=I.un (Un.kept k)<|I.hok.kept k
theorem v4.laid(I:v4 X pins σ H s)(k:∀b u,s.heap.get? b=a7 u->h'.get? b=a7 u)(hp:s.heap.objs.size<=a)(n:bx X.prog X.w (A2 H a o) h' a o):v4 X pins σ (A2 H a o) { s with heap:=h',toks:=t' }:=I.un (Un.laid k hp<|I.hok.fresh hp)<|I.hok.laid k hp n
theorem v4.write(I:v4 X pins σ H s)(m:Pf (H x))(i:e=x\/H e=a7 (.own x))(k:∀b u,b≠e->s.heap.get? b=a7 u->h'.get? b=a7 u)(h:∃u,h'.get? e=a7 u)(n:bx X.prog X.w (A2 H x o) h' x o):v4 X pins σ (A2 H x o) { s with heap:=h',toks:=t' }:=I.un (Un.write m i k h)<|I.hok.write m i k h n
theorem v4.pins_of(I:v4 X pins σ H s)(h:∀p∈pins',s.heap.get? p.1=a7 p.2/\H p.1=a8/\p.1≠X.env.locals/\p.1∉X.fs/\∀v,p.2.data≠.cell v):v4 X pins' σ H s:=⟨I.ok,I.os,I.bare,I.base,I.loc,I.cell,I.free,I.freeC,λp hp=>(J0.mp hp).elim (λz=>I.pin p<|NM _ z)<|h p,I.hok,I.len⟩
theorem oZ{N:List c5}(h:N.Nodup){i j:Nat}{x:c5}(a:N[i]?=a7 x)(b:N[j]?=a7 x):i=j:=by obtain⟨h1,t⟩:=B6.mp a;obtain⟨h2,l⟩:=B6.mp b;exact(List.getElem_inj h).mp<|t.trans l.symm
theorem yW{M:Model}{A:e7}{E:b7->e8->Prop}{i:Nat}{x:c5}{v:V}{u:b7}{Q:Unit->e8->Prop}(I:v4 X pins σ H s)(hN:X.N.Nodup)(hi:X.N[i]?=a7 x)(l:NT X.env.scope x)(r:aL v u)(h:∀s',v4 X pins (σ.set i<|a7 v) H s'->(∃a,J3 a s.heap s'.heap/\(a=X.env.locals\/X.env.cells.lookup x=a7 a))->Q () s') (hf:X.fn x=a9\/X.env.scope.names.lookup x=a7 .local:=by first|exact .inl rfl|exact .inr rfl|assumption):f8 M A (storeName X.env x u) Q E s:=by
 obtain⟨m,hn,hl⟩:=id I.loc;have R:(X.env.scope.kind==.class||(X.env.scope.kind==.module&&X.env.locals != X.env.globals))=bt:=by rw[I.ok.kind];rfl
 have D:i<σ.length:=by rw[I.len];exact(B6.mp hi).1
 have G:=I.cne;have f:∀{a:c8}{h':d5},(∃o,s.heap.get? a=a7 o/\H a=a8)->J3 a s.heap h'->E6 X.prog X.w H h':=λ{a h'} ha hs b ob e=>by obtain⟨_,_,B⟩:=ha;refine(I.hok b ob e).stay (λc Y g q=>(hs.2 c ?_).trans q) (λ_ q=>q) λ_ _ q=>q;rintro rfl;rcases g with rfl|g;rw[B]at e;cases e;rw[B]at g;cases g
 rcases l with F|F;refine wpAny_storeName_local F hn (λh' ab hs=>?_) R;obtain⟨oL,_,_,ai,_⟩:=id hn;refine h _ ⟨I.ok,I.os,I.bare,⟨λb o e n J l=>?_,λb o e n J l=>?_,I.base.free,λb o e l=>?_,I.base.tups,I.base.frzs,I.base.tbls⟩,⟨_,ab,λj y v' t C Z=>?_⟩,λy c e=>?_,I.free,I.freeC,λp hp=>?_,f ⟨oL,ai,I.free⟩ hs,by simpa using I.len⟩ ⟨_,hs,.inl rfl⟩;exact(hs.2 b<|A8<|J1 (A5 e) I.ok.above).trans<|I.base.keep b o e n J l;obtain⟨sl,t⟩:=I.base.slot b o e n J l;exact⟨sl,(hs.2 b<|A8<|J1 (A5 e) I.ok.above).trans t⟩;obtain⟨o',t⟩:=I.base.there b o e l;exact⟨o',(hs.2 b<|A8<|J1 (A5 e) I.ok.above).trans t⟩;by_cases L:j=i;subst L;rw[hi]at t;cases t;rw[L7 D]at C;cases C;exact⟨u,r,.inl ⟨F,by simp⟩⟩;rw[LU<|A7 L]at C;obtain⟨u',r',q⟩:=hl j y v' t C Z;refine⟨u',r',?_⟩;rcases q with⟨k,e⟩|⟨k,c,e,z⟩
 refine .inl ⟨k,?_⟩;have:y≠x:=λe=>L<|oZ hN t<|e ▸ hi;simp[this,e];exact .inr ⟨k,c,e,z.sameBut hs<|G y c e⟩;obtain⟨Y,z⟩:=I.cell y c e;exact⟨Y,z.sameBut hs<|G y c e⟩;obtain⟨e,n,W,nf,d⟩:=I.pin p hp;exact⟨(hs.2 p.1 W).trans e,n,W,nf,d⟩;have K:X.fn x=a9:=by rcases hf with z|z;exact z;rw[z]at F;cases F
 obtain⟨c,g⟩:=I.ok.has x<|.inl F;obtain⟨Y,z⟩:=I.cell x c g;refine wpAny_storeName_cell I.ok.kind F g z<|λh' O hs=>?_;obtain⟨oc,S,T⟩:=id z;refine h { s with heap:=h' } ⟨I.ok,I.os,I.bare,⟨λb o e n J l=>?_,λb o e n J l=>?_,I.base.free,λb o e l=>?_,I.base.tups,I.base.frzs,I.base.tbls⟩,⟨m,hn.sameBut hs<|A7<|G x c g,λj y v' t C Z=>?_⟩,λy U e=>?_,I.free,I.freeC,λp hp=>?_,f ⟨oc,S,I.freeC x c g⟩ hs,by simpa using I.len⟩ ⟨c,hs,.inr g⟩;exact(hs.2 b<|A8<|J1 (A5 e)<|I.ok.cab x c K g).trans<|I.base.keep b o e n J l;obtain⟨sl,t⟩:=I.base.slot b o e n J l;exact⟨sl,(hs.2 b<|A8<|J1 (A5 e)<|I.ok.cab x c K g).trans t⟩;obtain⟨o',t⟩:=I.base.there b o e l;exact⟨o',(hs.2 b<|A8<|J1 (A5 e)<|I.ok.cab x c K g).trans t⟩;by_cases L:j=i;subst L;rw[hi]at t;cases t;rw[L7 D]at C;cases C;exact⟨u,r,.inr ⟨.inl F,c,g,O⟩⟩;rw[LU<|A7 L]at C;obtain⟨u',r',q⟩:=hl j y v' t C Z;refine⟨u',r',?_⟩;rcases q with q|⟨k,U,e,z'⟩
 exact .inl q;refine .inr ⟨k,U,e,z'.sameBut hs ?_⟩;rintro rfl;exact L<|oZ hN t<|I.ok.inj _ _ _ e g ▸ hi;by_cases P:U=c;subst P;exact⟨_,O⟩;obtain⟨w2,z2⟩:=I.cell y U e;exact⟨w2,z2.sameBut hs P⟩;obtain⟨e,n,W,nf,d⟩:=I.pin p hp;refine⟨(hs.2 p.1 ?_).trans e,n,W,nf,d⟩;intro q;rw[q,S]at e;have q':oc=p.2:=D0 e;exact d Y<|by rw[<-q'];exact T
theorem ir(I:v4 X pins σ H s)(b:X.N.Nodup)(hi:X.N[i]?=a7 x)(c:NT X.env.scope x)(r:aL v u)(h:∀s',v4 X pins (σ.set i<|a7 v) H s'->Q () s') (f:X.fn x=a9\/X.env.scope.names.lookup x=a7 .local:=by first|exact .inl rfl|exact .inr rfl|assumption):f8 M A (storeName X.env x u) Q E s:=yW I b hi c r (λs' a _=>h s' a) f
theorem v4.call'(I:v4 X pins σ H s)(B:s'.os=s.os)(u:Un (frs X.stack) ch H H' s.heap s'.heap)(K:E6 X.prog X.w H' s'.heap)(R:f7 s'.gens)(a:∀b∈ch,(b∈X.ex\/X.s₀.heap.objs.size<=b)/\b≠X.env.locals/\(∀x c,X.env.cells.lookup x=a7 c->c≠b)/\∀p∈X.pn++pins,p.1≠b):v4 X pins σ H' s':=by obtain⟨h',g',d',t',o'⟩:=s';have e:o'=s.os:=B;subst e;exact I.call (g':=g') (t':=t') (d':=d') u K R a
end
abbrev XK:=b7->Option c8->Hp->Prop
noncomputable abbrev St:=List<|Option V
abbrev VK:=V->Hp->Prop
abbrev TE:=St->Hp->VK->Prop
abbrev TT:=St->Hp->(Bool->Hp->Prop)->Prop
abbrev TA:=St->Hp->(List V->Hp->Prop)->Prop
structure Ends where
 nx:St->Hp->Prop
 rt:VK
 bk:St->Hp->Prop:=λ_ _=>False
 ct:St->Hp->Prop:=λ_ _=>False
abbrev TS:=Ends->St->Hp->Prop
inductive EP(X:Cx)(pins:List (c8×c9))(σ:St)(Q:VK)(u:b7)(s':e8):Prop
 |mk (v:_) (H':_) (f0:v4 X pins σ H' s') (f1:aL v u) (f2:Q v H')
inductive TP(X:Cx)(pins:List (c8×c9))(σ:St)(Q:Bool->Hp->Prop)(b:Bool)(s':e8):Prop
 |mk (H':_) (f0:v4 X pins σ H' s') (f1:Q b H')
inductive AP(X:Cx)(pins:List (c8×c9))(σ:St)(Q:List V->Hp->Prop)(us:List b7)(s':e8):Prop
 |mk (vs:_) (H':_) (f0:v4 X pins σ H' s') (f1:az vs us) (f2:Q vs H')
def SP(X:Cx)(pins:List (c8×c9))(D:Ends)(f:Flow)(s':e8):Prop:=match f with
 |.next=>∃a H',v4 X pins a H' s'/\D.nx a H'
 |.brk=>∃a H',v4 X pins a H' s'/\D.bk a H'
 |.cont=>∃a H',v4 X pins a H' s'/\D.ct a H'
 |.ret u=>∃v a H',v4 X pins a H' s'/\aL v u/\D.rt v H'
def PE(X:Cx)(e:f9)(t:TE):Prop:=∀(p:List (c8×c9)) (s:e8) (σ:St) (H:Hp) (Q:VK),v4 X p σ H s->t σ H Q->f8 (ge X.prog X.w) X.A (eval e X.env) (EP X p σ Q) X.xe s
def PT(X:Cx)(e:f9)(t:TT):Prop:=∀(p:List (c8×c9)) (s:e8) (σ:St) (H:Hp) (Q:Bool->Hp->Prop),v4 X p σ H s->t σ H Q->f8 (ge X.prog X.w) X.A (isTrue e X.env<|eval e X.env) (TP X p σ Q) X.xe s
def PW(X:Cx)(e:f9)(t:TT):Prop:=∀(a:Sem b7) (p:List (c8×c9)) (s:e8) (σ:St) (H:Hp) (Q:Bool->Hp->Prop),v4 X p σ H s->t σ H Q->f8 (ge X.prog X.w) X.A (isTrue e X.env a) (TP X p σ Q) X.xe s
theorem PW.pt(h:PW X e t):PT X e t:=h _
def PA(X:Cx)(es:List f9)(t:TA):Prop:=∀(a:i0) (p:List (c8×c9)) (s:e8) (σ:St) (H:Hp) (Q:List V->Hp->Prop),v4 X p σ H s->t σ H Q->f8 (ge X.prog X.w) X.A (spliced<|i3 a<|i4 es X.env) (AP X p σ Q) X.xe s
def PS(X:Cx)(st:i5)(t:TS):Prop:=∀(p:List (c8×c9)) (s:e8) (σ:St) (H:Hp) (D:Ends),v4 X p σ H s->t D σ H->f8 (ge X.prog X.w) X.A (exec st X.env) (SP X p D) X.xe s
def Lw(X:Cx)(st:List i5)(t:TS):Prop:=∀(p:List (c8×c9)) (s:e8) (σ:St) (H:Hp) (D:Ends),v4 X p σ H s->t D σ H->f8 (ge X.prog X.w) X.A (execs st X.env) (SP X p D) X.xe s
theorem A1{α:Type}{t:Sem α}{Q Q':α->e8->Prop}{M:Model}{A:e7}{E:b7->e8->Prop}{s:e8}(h:f8 M A t Q E s)(b:∀a s,Q a s->Q' a s):f8 M A t Q' E s:=G4 h b λ_ _ x=>x
section
variable{X:Cx}
def tVar(i:Nat):TE:=λσ H Q=>∃v,σ[i]?=a7 (a7 v)/\Q v H
def tC(v:V):TE:=λ_ H Q=>Q v H
theorem Ej(g:X.N[i]?=a7 x)(t:Od X.env.scope x)(b:(x==("__debug__":c5))=bt:=by decide)(d:(x==("__classdict__":c5))=bt:=by decide):PE X (.Name x pos) (tVar i):=by
 intro p s σ H Q I h;obtain⟨v,e,h⟩:=h;obtain⟨m,q,j⟩:=I.loc;obtain⟨u,r,l⟩:=j i x v g e t;have n:EP X p σ Q u s:=⟨v,H,I,r,h⟩
 rcases l with⟨k,o⟩|⟨k,c,f,a⟩
 exact wpAny_Name (wpAny_loadName_local I.ok.kind k q o n) b;rcases k with k|k;exact wpAny_Name (wpAny_loadName_cell I.ok.kind k f a n) b;exact wpAny_Name (wpAny_loadName_free I.ok.kind k f a n d) b
theorem IN{i j pos}:PE X (.Constant (.int i) j pos) (tC<|.int i):=λ_ _ _ H _ I h=>wpAny_Constant_int ⟨.int i,H,I.tok _,⟨_,rfl⟩,h⟩
theorem pe_bl{b j pos}:PE X (.Constant (.bool b) j pos) (tC<|.bl b):=λ_ _ _ H _ I h=>Constant_bool ⟨.bl b,H,I,rfl,h⟩
theorem IL{j pos}:PE X (.Constant .none j pos) (tC .non):=λ_ _ _ H _ I h=>Constant_none ⟨.non,H,I,rfl,h⟩
theorem II{x j pos}:PE X (.Constant (.str x) j pos) (tC<|.str x):=λ_ _ _ H _ I h=>Calls.Constant_str ⟨.str x,H,I.tok _,⟨_,rfl⟩,h⟩
def Gl(X:Cx)(x:c5):Prop:=X.env.kindOf x=a7 .globalImplicit
theorem jn(I:v4 X pins σ H s)(R:Gl X x)(m:X.mg x=a7 u)(h:Q u s)(d:(x==("__debug__":c5))=bt:=by decide):f8 (ge X.prog X.w) X.A (eval (.Name x pos) X.env) Q E s:=Calls.Name_function_global I.ok.kind R (Calls.loadGlobal_global (by rw[I.ok.glob];exact I.mod.glob.keeps I.bk) m h) d
theorem mh(I:v4 X pins σ H s)(R:Gl X x)(m:X.mg x=a8)(c:d9 x=a7 u)(h:Q u s)(f:x≠"__name__":=by decide) (d:(x==("__debug__":c5))=bt:=by decide):f8 (ge X.prog X.w) X.A (eval (.Name x pos) X.env) Q E s:=by obtain⟨mb,h1,h2⟩:=I.mod.blt;exact Calls.Name_function_global I.ok.kind R (Calls.loadGlobal_builtin (by rw[I.ok.glob];exact I.mod.glob.keeps I.bk) m (by rw[I.ok.blt];exact h1.keeps I.bk) ((h2 x f).trans c) h) d
theorem Fq(R:Gl X x)(m:X.mg x=a7 u)(r:aL v u)(d:(x==("__debug__":c5))=bt:=by decide):PE X (.Name x pos) (tC v):=λ_ _ _ H _ I h=>jn I R m ⟨v,H,I,r,h⟩ d
theorem zm(R:Gl X x)(m:X.mg x=a8)(c:d9 x=a7 u)(r:aL v u)(f:x≠"__name__":=by decide)(d:(x==("__debug__":c5))=bt:=by decide):PE X (.Name x pos) (tC v):=λ_ _ _ H _ I h=>mh I R m c ⟨v,H,I,r,h⟩ f d
variable{a b:f9}{ta tb:TE}{pos:i0}
theorem aL.none_iff(r:aL x v):(v==K1)=decide (x=.non):=by
 cases x with
 |non=>cases r;rfl
 |bl _=>cases r;rfl
 |int _=>obtain⟨t,rfl⟩:=r;rfl
 |str _=>obtain⟨t,rfl⟩:=r;rfl
 |byt _=>obtain⟨t,rfl⟩:=r;rfl
 |flt _=>obtain⟨t,rfl⟩:=r;rfl
 |ref _=>cases r;rfl
 |ty _=>cases r;rfl
def tB(t:TE):TT:=λσ H Q=>t σ H λx H1=>∃c,x=.bl c/\Q c H1
theorem Iz(h:PE X e t)(i:∀whole,isTrue e X.env whole=(do let v <-whole;standAt e.pos;i6 [v] (truthy v)):=by intro _;rfl):PT X e (tB t):=by intro p s σ H Q I w;refine isTrue_plain (A1 (h p s σ H _ I w) ?_)<|i _;rintro v c ⟨x,H1,a,r,b⟩;obtain⟨d,rfl,q⟩:=b;cases r;exact Op ⟨H1,a,q⟩
variable{tA tB':TT}{aM:List f9}
def tAnd(t u:TT):TT:=λσ H Q=>t σ H λc H1=>if c=a9 then u σ H1 Q else Q bt H1
def tOr(t u:TT):TT:=λσ H Q=>t σ H λc H1=>if c=a9 then Q a9 H1 else u σ H1 Q
def tNot(t:TT):TT:=λσ H Q=>t σ H λc H1=>Q (!c) H1
theorem Fb(f:PT X a tA):PW X (.BoolOp .And [a] pos) tA:=by
 intro w p s σ H Q I h;refine isTrue_and<|A1 (f p s σ H Q I h) λc b e=>?_;cases c with
 |true=>exact isTrue_and_nil e
 |false=>exact e
theorem Iv(f:PT X a tA):PW X (.BoolOp .Or [a] pos) tA:=by
 intro w p s σ H Q I h;refine isTrue_or<|A1 (f p s σ H Q I h) λc b e=>?_;cases c with
 |false=>exact isTrue_or_nil e
 |true=>exact e
theorem Iy(f:PT X a tA)(e:PW X (.BoolOp .And (b::aM) pos) tB'):PW X (.BoolOp .And (a::b::aM) pos) (tAnd tA tB'):=by
 intro w p s σ H Q I h;refine isTrue_and<|A1 (f p s σ H _ I h) ?_;rintro c g ⟨H1,d,q⟩;cases c with
 |true=>exact e w p g σ H1 Q d q
 |false=>exact⟨H1,d,q⟩
theorem pw_or(f:PT X a tA)(e:PW X (.BoolOp .Or (b::aM) pos) tB'):PW X (.BoolOp .Or (a::b::aM) pos) (tOr tA tB'):=by
 intro w p s σ H Q I h;refine isTrue_or<|A1 (f p s σ H _ I h) ?_;rintro c g ⟨H1,d,q⟩;cases c with
 |true=>exact⟨H1,d,q⟩
 |false=>exact e w p g σ H1 Q d q
theorem IA(f:PT X a tA):PT X (.UnaryOp .Not a pos) (tNot tA):=by intro p s σ H Q I h;refine isTrue_not<|A1 (f p s σ H (λc H1=>Q (!c) H1) I h) ?_;rintro c d ⟨H1,b,q⟩;exact⟨H1,b,q⟩
def tAndV(a b:TE):TE:=λσ H Q=>a σ H λx H1=>∃c,x=.bl c/\if c=a9 then b σ H1 Q else Q (.bl bt) H1
def tOrV(a b:TE):TE:=λσ H Q=>a σ H λx H1=>∃c,x=.bl c/\if c=a9 then Q (.bl a9) H1 else b σ H1 Q
def tNotV(a:TE):TE:=λσ H Q=>a σ H λx H1=>∃c,x=.bl c/\Q (.bl<|!c) H1
theorem IJ{op}(h:PE X a t):PE X (.BoolOp op [a] pos) t:=λp s σ H Q I w=>BoolOp_one<|h p s σ H Q I w
theorem IR(f:PE X a ta)(e:PE X (.BoolOp .And (b::aM) pos) tb):PE X (.BoolOp .And (a::b::aM) pos) (tAndV ta tb):=by
 intro p s σ H Q I h;refine BoolOp_and<|A1 (f p s σ H _ I h) ?_;rintro v g ⟨x,H1,d,r,q⟩;obtain⟨c,rfl,q⟩:=q;cases r;refine Op ?_;cases c with
 |true=>exact e p g σ H1 Q d q
 |false=>exact⟨.bl bt,H1,d,rfl,q⟩
theorem pe_or(f:PE X a ta)(e:PE X (.BoolOp .Or (b::aM) pos) tb):PE X (.BoolOp .Or (a::b::aM) pos) (tOrV ta tb):=by
 intro p s σ H Q I h;refine BoolOp_or<|A1 (f p s σ H _ I h) ?_;rintro v g ⟨x,H1,d,r,q⟩;obtain⟨c,rfl,q⟩:=q;cases r;refine Op ?_;cases c with
 |false=>exact e p g σ H1 Q d q
 |true=>exact⟨.bl a9,H1,d,rfl,q⟩
theorem IK(f:PE X a ta):PE X (.UnaryOp .Not a pos) (tNotV ta):=by intro p s σ H Q I h;refine UnaryOp_<|A1 (f p s σ H _ I h) ?_;rintro v e ⟨x,H1,d,r,b⟩;obtain⟨c,rfl,b⟩:=b;cases r;exact not_of<|Op ⟨.bl<|!c,H1,d,rfl,b⟩
end
def J7(K:v9)(H:Hp)(a:c8)(xs:List V):Prop:=Rd H a (.lst xs) \/∃(o:c9) (its:Array b7) (n:Nat),K.lookup a=a7 o/\o.cls=.type "list"/\o.dict=a8/\o.data=.seq its n/\its.size<=sizeLine/\az xs its.toList
def C5(K:v9)(H:Hp)(a:c8)(xs:List V):Prop:=Rd H a (.tup xs) \/∃(o:c9) (its:Array b7) (n:Nat),K.lookup a=a7 o/\o.cls=.type "tuple"/\o.dict=a8/\o.data=.seq its n/\its.size<=sizeLine/\az xs its.toList
noncomputable def absV:b7->Option V
 |.none=>a7 .non
 |.bool b=>a7<|.bl b
 |.int i _=>a7<|.int i
 |.str x _=>a7<|.str x
 |.bytes b _=>a7<|.byt b
 |.float b _=>a7<|.flt b
 |.ref a=>a7<|.ref a
 |.type n=>a7<|.ty n
 |_=>a8
theorem aL.abs(r:aL x u):absV u=a7 x:=by
 cases x with
 |non=>cases r;rfl
 |bl _=>cases r;rfl
 |int _=>obtain⟨t,rfl⟩:=r;rfl
 |str _=>obtain⟨t,rfl⟩:=r;rfl
 |byt _=>obtain⟨t,rfl⟩:=r;rfl
 |flt _=>obtain⟨t,rfl⟩:=r;rfl
 |ref _=>cases r;rfl
 |ty _=>cases r;rfl
theorem aL.inj(r:aL x u)(q:aL y u):x=y:=D0<|r.abs.symm.trans q.abs
theorem az.inj(h:az xs us)(h':az ys us):xs=ys:=by
 induction h generalizing ys with
 |nil=>cases h';rfl
 |cons r t i=>cases h' with
  |cons r' t'=>rw[r.inj r',i t']
section
variable{X:Cx}{pins:List (c8×c9)}{σ:St}{H:Hp}{s:e8}{a:c8}{xs ys:List V}
theorem C5.of{K:v9}(h:H a=a7 (.tup xs)):C5 K H a xs:=.inl<|.inl h
theorem v4.list(I:v4 X pins σ H s)(h:J7 X.K H a xs):∃its:List b7,az xs its/\PlainL s.heap a its.toArray/\xs.length<=sizeLine:=by
 rcases h with h|⟨o,its,n,k,f,d,hs,b,r⟩
 obtain⟨z,its,n,r,e⟩:=h.ok I.hok;exact⟨its,r,⟨_,n,e,rfl,rfl,rfl⟩,z⟩;refine⟨its.toList,r,⟨o,n,I.kIn a o k,f,d,by simpa using hs⟩,?_⟩;have e:=r.length;simp only[G2]at e;lia
theorem v4.tuple(I:v4 X pins σ H s)(h:C5 X.K H a xs):∃its:List b7,az xs its/\IsTup s.heap a its.toArray/\xs.length<=sizeLine:=by
 rcases h with h|⟨o,its,n,k,f,_,hs,b,r⟩
 obtain⟨z,its,r,p⟩:=h.ok I.hok;exact⟨its,r,p.tup,z⟩;refine⟨its.toList,r,⟨o,I.kIn a o k,f,n,by simpa using hs⟩,?_⟩;have e:=r.length;simp only[G2]at e;lia
theorem v4.list_inj(I:v4 X pins σ H s)(h:J7 X.K H a xs)(h':J7 X.K H a ys):xs=ys:=by
 obtain⟨its,r,⟨o,n,e,_,_,d⟩,_⟩:=I.list h;obtain⟨i,r',⟨o',f,c,_,_,b⟩,_⟩:=I.list h';rw[e]at c;cases c;rw[d]at b;injection b with d1 _;have:its=i:=by simpa using u6 Array.toList d1
 subst this;exact r.inj r'
theorem v4.tuple_inj(I:v4 X pins σ H s)(h:C5 X.K H a xs)(h':C5 X.K H a ys):xs=ys:=by
 obtain⟨its,r,⟨o,e,_,n,d⟩,_⟩:=I.tuple h;obtain⟨i,r',⟨o',c,_,f,b⟩,_⟩:=I.tuple h';rw[e]at c;cases c;rw[d]at b;injection b with d1 _;have:its=i:=by simpa using u6 Array.toList d1
 subst this;exact r.inj r'
end
noncomputable abbrev Cx.wish(X:Cx)(E:b7->e8->Prop):Cx:={ X with xe:=E }
noncomputable abbrev Cx.nox(X:Cx):Cx:=X.wish λ_ _=>False
theorem Cx.Ok.wish{X:Cx}(ok:X.Ok)(E:b7->e8->Prop):(X.wish E).Ok:=⟨ok.mod,ok.kind,ok.glob,ok.blt,ok.above,ok.inj,ok.has,ok.cab,ok.hd,ok.frames,ok.stk,ok.exf,ok.bs,ok.bsz,ok.noex,ok.exfs,ok.funs,ok.frf⟩
theorem Cx.Ok.unwish{X:Cx}{E:b7->e8->Prop}(ok:(X.wish E).Ok):X.Ok:=⟨ok.mod,ok.kind,ok.glob,ok.blt,ok.above,ok.inj,ok.has,ok.cab,ok.hd,ok.frames,ok.stk,ok.exf,ok.bs,ok.bsz,ok.noex,ok.exfs,ok.funs,ok.frf⟩
section
variable{X:Cx}{pins:List (c8×c9)}{σ:St}{H:Hp}{s:e8}{E:b7->e8->Prop}
theorem v4.wish(I:v4 X pins σ H s)(E:b7->e8->Prop):v4 (X.wish E) pins σ H s:=⟨I.ok.wish E,I.os,I.bare,I.base,I.loc,I.cell,I.free,I.freeC,I.pin,I.hok,I.len⟩
theorem v4.unwish(I:v4 (X.wish E) pins σ H s):v4 X pins σ H s:=⟨I.ok.unwish,I.os,I.bare,I.base,I.loc,I.cell,I.free,I.freeC,I.pin,I.hok,I.len⟩
theorem SP.unwish(h:SP (X.wish E) pins D f s'):SP X pins D f s':=by
 cases f with
 |next=>obtain⟨a,H',I,q⟩:=h;exact⟨a,H',I.unwish,q⟩
 |brk=>obtain⟨a,H',I,q⟩:=h;exact⟨a,H',I.unwish,q⟩
 |cont=>obtain⟨a,H',I,q⟩:=h;exact⟨a,H',I.unwish,q⟩
 |ret u=>obtain⟨v,a,H',I,r,q⟩:=h;exact⟨v,a,H',I.unwish,r,q⟩
theorem Lw.nox{st:List i5}{t:TS}(h:Lw X.nox st t):Lw X st t:=λp s σ H D I w =>
 G4 (h p s σ H D (I.wish _) w) (λ_ _ q=>q.unwish) λ_ _ z=>J2 z
end
section
variable{X:Cx}{st:i5}{aM:List i5}{t u:TS}{e:f9}{te:TE}{pos:i0}
def tNext:TS:=λD σ H=>D.nx σ H
def tSeq(t u:TS):TS:=λD σ H=>t { D with nx:=u D } σ H
theorem Fg:Lw X [] tNext:=λ_ _ σ H _ I h=>OO ⟨σ,H,I,h⟩
theorem Ce(h1:PS X st t)(h2:Lw X aM u):Lw X (st::aM) (tSeq t u):=by
 intro p s σ H D I h;refine Qr<|A1 (h1 p s σ H { D with nx:=u D } I h) λf c q=>?_;cases f with
 |next=>obtain⟨a,H',b,q⟩:=q;exact h2 p c a H' D b q
 |ret v=>exact q
 |brk=>exact q
 |cont=>exact q
theorem Ff(h1:PS X st t):Lw X [st] t:=by
 intro p s σ H D I h;refine Qr<|A1 (h1 p s σ H D I h) λf c q=>?_;cases f with
 |next=>exact OO q
 |ret v=>exact q
 |brk=>exact q
 |cont=>exact q
theorem v4.quiet(I:v4 X pins σ H s):interactive X.env=bt:=by simp[interactive,I.ok.kind]
def tDrop(te:TE):TS:=λD σ H=>te σ H λ_ H1=>D.nx σ H1
theorem Fh(i:PE X e te)(hs:i7 e a8 pos.line X.env=pure bt:=by rfl):PS X (.Expr e pos) (tDrop te):=by intro p s σ H D I h;exact wpAny_Expr_any (A1 (i p s σ H _ I h) λv c ⟨x,H1,a,r,b⟩=>⟨σ,H1,a,b⟩) I.quiet hs
def tRet(te:TE):TS:=λD σ H=>te σ H D.rt
theorem IC(i:PE X e te):PS X (.Return (a7 e) pos) (tRet te):=by intro p s σ H D I h;refine wpAny_Return_some<|A1 (i p s σ H _ I h) ?_;rintro v c ⟨x,H1,a,r,b⟩;exact⟨x,σ,H1,a,r,b⟩
def tIfS(c:TT)(t u:TS):TS:=λD σ H=>c σ H λb H1=>if b=a9 then t D σ H1 else u D σ H1
theorem ps_if(j:PT X c tc)(g:Lw X a t)(i:Lw X b u):PS X (.If c a b pos) (tIfS tc t u):=by
 intro p s σ H D I h;refine wpAny_If<|A1 (j p s σ H _ I h) ?_;rintro d f ⟨H1,e,q⟩;cases d with
 |true=>exact g p f σ H1 D e q
 |false=>exact i p f σ H1 D e q
end
abbrev TG:=V->St->Hp->(St->Hp->Prop)->Prop
abbrev Pb:=List V->St->Hp->(St->Hp->Prop)->Prop
def PG(X:Cx)(a:f9)(t:TG):Prop:=∀(p:List (c8×c9)) (s:e8) (σ:St) (H:Hp) (v:V) (u:b7) (Q:St->Hp->Prop),v4 X p σ H s->aL v u->t v σ H Q ->f8 (ge X.prog X.w) X.A (i8 a X.env u) (λ_ s'=>∃b H',v4 X p b H' s'/\Q b H') X.xe s
def Pd(X:Cx)(b:List f9)(t:Pb):Prop:=∀(p:List (c8×c9)) (s:e8) (σ:St) (H:Hp) (vs:List V) (us:List b7) (Q:St->Hp->Prop),v4 X p σ H s->az vs us->t vs σ H Q ->f8 (ge X.prog X.w) X.A (assignInOrder ((i9 b X.env).map (·.2)) us) (λ_ s'=>∃a H',v4 X p a H' s'/\Q a H') X.xe s
abbrev TSet:=V->V->V->Hp->(Hp->Prop)->Prop
def PSet(X:Cx)(t:TSet):Prop:=∀(p:List (c8×c9)) (s:e8) (σ:St) (H:Hp) (o i v:V) (b a u:b7) (Q:Hp->Prop),v4 X p σ H s->aL o b->aL i a->aL v u->t o i v H Q ->f8 (ge X.prog X.w) X.A (setItem b a u) (λ_ s'=>∃H',v4 X p σ H' s'/\Q H') X.xe s
section
variable{X:Cx}{pos:i0}
def Kn(i:Nat):TG:=λv σ H Q=>Q (σ.set i<|a7 v) H
theorem Fp(b:X.N.Nodup)(hi:X.N[i]?=a7 x)(c:NT X.env.scope x)(f:X.fn x=a9\/X.env.scope.names.lookup x=a7 .local:=by first|exact .inl rfl|exact .inr rfl|assumption):PG X (.Name x pos) (Kn i):=by intro p s σ H v u Q I r h;exact wpAny_assign_Name<|ir I b hi c r (λs' a=>⟨_,H,a,h⟩) f
def gNil:Pb:=λvs σ H Q=>vs=[]/\Q σ H
def gCons(t:TG)(u:Pb):Pb:=λvs σ H Q=>∃v r,vs=v::r/\t v σ H λa H'=>u r a H' Q
theorem Fo:Pd X [] gNil:=by intro p s σ H vs us Q I r h;obtain⟨e,h⟩:=h;subst e;cases r;exact assignInOrder_nil ⟨σ,H,I,h⟩
theorem Ch(h1:PG X e t)(h2:Pd X es u)(hs:(i9 (e::es) X.env).map (·.2)=i8 e X.env::(i9 es X.env).map (·.2):=by rfl):Pd X (e::es) (gCons t u):=by
 intro p s σ H vs us Q I r h;obtain⟨v,g,c,h⟩:=h;subst c;cases r with
 |cons r d=>rw[hs];refine assignInOrder_cons<|A1 (h1 p s σ H _ _ _ I r h) ?_;rintro _ f ⟨a,H1,b,q⟩;exact h2 p f a H1 _ _ Q b d q
def gTup(K:v9)(n:Nat)(t:Pb):TG:=λv σ H Q=>∃a xs,v=.ref a/\C5 K H a xs/\xs.length=n/\t xs σ H Q
theorem IF(i:X.calm=a9)(h:Pd X es t)(j:(i9 es X.env).length=n:=by rfl) (c:(i9 es X.env).findIdx? (·.1)=a8:=by rfl):PG X (.Tuple es k pos) (gTup X.K n t):=by intro p s σ H v u Q I r w;obtain⟨a,xs,g,q,l,w⟩:=w;subst g;cases r;obtain⟨its,d,D,z⟩:=I.tuple q;refine assign_Tuple_tuple (I.ok.hd i) D (by simp[j,<-l,d.length]) c λh' x=>?_;have f:v4 X p σ H { s with heap:=h' }:=I.kept (t':=s.toks) λb o e=>x b o (A8<|A5 e) e;exact h p _ σ H xs _ Q f (by simpa using d) w
def gSub(d c:TE)(t:TSet):TG:=λv σ H Q=>d σ H λo H1=>c σ H1 λi a=>t o i v a λb=>Q σ b
theorem IG(B:PE X o to)(hi:PE X i ti)(hs:PSet X t)(f:∀v,i8 (.Subscript o i pos) X.env v=(do
   let ov <-i6 [v] (eval o X.env)
   let iv <-i6 [v,ov] (eval i X.env)
   standAt pos
   i6 [v,ov,iv] (setItem ov iv v)
   release [v,ov,iv] []):=by intro _;rfl):PG X (.Subscript o i pos) (gSub to ti t):=by intro p s σ H v u Q I r h;rw[f];refine u8<|F8<|A1 (B p s σ H _ I h) ?_;rintro ov m ⟨x,H1,c,k,q⟩;refine u8<|F8<|A1 (hi p m σ H1 _ c q) ?_;rintro iv n ⟨y,a,d,l,g⟩;refine u8<|wpAny_standAt<|u8<|F8<|A1 (hs p n σ a x y v ov iv u _ d k l r g) ?_;rintro _ w ⟨b,e,j⟩;exact wpAny_release ⟨σ,b,e,j⟩
def tAsg(te:TE)(g:TG):TS:=λD σ H=>te σ H λx H1=>g x σ H1 D.nx
theorem IE(i:PE X e te)(R:PG X tg g)(hs:swapsWithSole [tg] e pos.line X.env=pure bt:=by rfl)(w:swappedStores [tg] e X.env=pure a8:=by rfl)(h1:(i9 [tg] X.env).map (·.2)=[i8 tg X.env]:=by rfl):PS X (.Assign [tg] e pos) (tAsg te g):=by intro p s σ H D I h;refine wpAny_Assign_stores (A1 (i p s σ H _ I h) ?_) hs w;rintro v c ⟨x,H1,a,r,b⟩;rw[h1];exact A1 (R p c σ H1 x v _ a r b) λ_ n q=>q
theorem IB(b:X.N.Nodup)(hi:X.N[i]?=a7 x)(g:NT X.env.scope x)(c:PE X e te)(hs:i7 e (a7<|.Name x pos') pos.line X.env=pure bt:=by rfl)(f:X.fn x=a9\/X.env.scope.names.lookup x=a7 .local:=by first|exact .inl rfl|exact .inr rfl|assumption):PS X (.Assign [.Name x pos'] e pos) (tAsg te<|Kn i):=by intro p s σ H D I h;refine wpAny_Assign_Name (A1 (c p s σ H _ I h) ?_) hs;rintro v j ⟨y,H1,a,r,q⟩;exact ir a b hi g r (λn d=>⟨_,H1,d,q⟩) f
end
structure It where
 go:Nat->Hp->Prop
 yld:Nat->Hp->V->Hp->Prop
 stop:Nat->Hp->Prop
def wI(X:Cx)(pins:List (c8×c9))(H:Hp)(b:c8):Prop:=H b=a8/\b≠X.env.locals/\b∉X.fs/\(b∈X.ex\/X.s₀.heap.objs.size<=b)/\(∀x c,X.env.cells.lookup x=a7 c->c≠b)/\∀p∈X.pn++pins,p.1≠b
theorem v4.fpOk(I:v4 X pins σ H s)(d:s.heap.objs.size<=b)(f:H' b=a8):wI X pins H' b:=by refine⟨f,MJ<|J1 I.lt d,I.nofs d,.inr<|K3 I.sz d,λx c e z=>?_,λp hp z=>?_⟩;obtain⟨v,q⟩:=I.cell x c e;exact t8 (J1 q.lt<|by rw[z];exact d)<|J4 _;exact t8 (J1 (A5 (I.pin p hp).1)<|by rw[z];exact d)<|J4 _
structure Turn(P:c7)(w:c6)(K:v9)(tg:f9)(J:It)(fp:List c8)(it:c8)(tn:Nat->d5->Prop):Prop where
 mem:it∈fp
 obj:∀i h,tn i h->∀b∈fp,∃o,h.get? b=a7 o/\∀v,o.data≠.cell v
 keep:∀i h h',tn i h->(∀b∈fp,∀o,h.get? b=a7 o->h'.get? b=a7 o)->tn i h'
 item:∀(X:Cx),X.prog=P->X.w=w->X.K=K->X.calm=a9->∀(i:Nat) (pins:List (c8×c9)) (s:e8) (σ:St) (H:Hp) (E:b7->e8->Prop),v4 X pins σ H s->(∀b∈fp,wI X pins H b)->tn i s.heap->J.go i H ->f8 (ge P w) X.A (j0<|.ref it) (λr s1=>∃u,r=a7 u /\ f8 (ge P w) X.A (j3 tg (.ref it) u) (λ_ s2=>∃x H',v4 X pins σ H' s2/\aL x u/\J.yld i H x H'/\tn (i+1) s2.heap/\∀b∈fp,H' b=a8) E s1) E s
 done:∀(X:Cx),X.prog=P->X.w=w->X.K=K->X.calm=a9->∀(i:Nat) (pins:List (c8×c9)) (s:e8) (σ:St) (H:Hp) (E:b7->e8->Prop),v4 X pins σ H s->(∀b∈fp,wI X pins H b)->tn i s.heap->J.stop i H ->f8 (ge P w) X.A (j0<|.ref it) (λr s1=>r=a8/\v4 X pins σ H s1) E s
 self:∀(A:e7) (i:Nat) (s:e8) (Q:b7->e8->Prop) (E:b7->e8->Prop),tn i s.heap->Q (.ref it) s->f8 (ge P w) A (j4<|.ref it) Q E s
abbrev TI:=St->Hp->(It->Hp->Prop)->Prop
inductive Qb(X:Cx)(pins:List (c8×c9))(σ:St)(tg:f9)(R:It->Hp->Prop)(itv:b7)(s2:e8):Prop
 |mk (it:c8) (fp:List c8) (tn:Nat->d5->Prop) (J:It) (H':Hp) (f0:itv=.ref it) (f1:v4 X pins σ H' s2) (f2:Turn X.prog X.w X.K tg J fp it tn) (f3:tn 0 s2.heap) (f4:(∀b∈fp,wI X pins H' b)) (f5:R J H')
def PI(X:Cx)(g r:f9)(wi:TI):Prop:=∀(p:List (c8×c9)) (s:e8) (σ:St) (H:Hp) (R:It->Hp->Prop),v4 X p σ H s->wi σ H R ->f8 (ge X.prog X.w) X.A (eval r X.env) (λv c=>f8 (ge X.prog X.w) X.A (j4 v) (Qb X p σ g R) X.xe c) X.xe s
theorem xJ(B:s.heap.get? it=a7 o)(f:o.cls=.type n)(d:o.data=.fields vs)(a:["enumerate","zip","dict_itemiterator","dict_reverseitemiterator","odict_iterator","itertools.zip_longest","itertools.pairwise"].contains n=bt) (b:Q () s):f8 M A (j3 tg (.ref it) u) Q E s:=by
 unfold j3;cases tg<;>first
  |exact v5 b
  |(cases u<;>first
    |exact v5 b
    |(refine u8 (wpAny_load B ?_);rw[f,d];show f8 M A (if (["enumerate","zip","dict_itemiterator","dict_reverseitemiterator","odict_iterator","itertools.zip_longest","itertools.pairwise"].contains n&&vs[0]?==a7 (j5 _))=a9 then _ else _) Q E s;rw[t7 (by intro h;rw[a,Ps]at h;cases h)];exact v5 b))
noncomputable def RS(K:v9)(a:c8):It:=⟨λi H=>∃xs x,J7 K H a xs/\xs[i]?=a7 x,λi H x H'=>H'=H/\∀xs,J7 K H a xs->xs[i]?=a7 x,λi H=>∃xs,J7 K H a xs/\xs.length<=i⟩
noncomputable def RR(K:v9)(a:c8):It:=⟨λi H=>∃xs x,C5 K H a xs/\xs[i]?=a7 x,λi H x H'=>H'=H/\∀xs,C5 K H a xs->xs[i]?=a7 x,λi H=>∃xs,C5 K H a xs/\xs.length<=i⟩
noncomputable def Qd(lo:Int)(n:Nat):It:=⟨λi _=>i<n,λi H x H'=>H'=H/\x=.int (lo+i),λi _=>n<=i⟩
theorem yh{P:c7}{w:c6}{K:v9}{V:f9}(a it:c8):Turn P w K V (RS K a) [it] it (λi h=>h.IsListIter it a i) where
 mem:=by simp
 obj:=λi h t b g=>by
  have e:b=it:=by simpa using g
  subst e;obtain⟨o,e,c,d⟩:=t;exact⟨o,e,λv z=>by rw[d]at z;cases z⟩
 keep:=λi h h' t k=>t.at λo e=>k it (by simp) o e
 item:=by intro X C D B J i f s σ H E I l t R;subst C D B;obtain⟨xs,x,q,F⟩:=R;obtain⟨its,G,p,S⟩:=I.list q;obtain⟨u,O,T⟩:=G.get F;obtain⟨m,n,N,r,y,A⟩:=l it (by simp);refine wpAny_pyNext_list_item t p.isList (x:=u) (by simpa using O) λh' j U=>?_;have L:v4 X f σ H { s with heap:=h' }:=I.turned (t':=s.toks) (λb o g e=>(U.2 b g).trans e) m n r y A;obtain⟨o,e,c,d⟩:=id j;exact⟨u,rfl,xJ (s:={ s with heap:=h' }) e c d (by decide) ⟨x,H,L,T,⟨rfl,λys Q=>by rw[I.list_inj Q q];exact F⟩,j,λb g=>(l b g).1⟩⟩
 done:=by intro X C D B J i f s σ H E I l t R;subst C D B;obtain⟨xs,q,F⟩:=R;obtain⟨its,G,p,S⟩:=I.list q;obtain⟨m,n,N,r,y,A⟩:=l it (by simp);have W:=G.length;exact wpAny_pyNext_list_end (I.ok.hd J) t p.isList (by simp;lia) λh' M=>⟨rfl,I.turned (t':=s.toks) (λb o g e=>M b o g e) m n r y A⟩
 self:=λ_ _ _ _ _ t h=>wpAny_pyIter_listiter t h
theorem wT{P:c7}{w:c6}{K:v9}{V:f9}(a it:c8):Turn P w K V (RR K a) [it] it (λi h=>h.IsTupleIter it a i) where
 mem:=by simp
 obj:=λi h t b g=>by
  have e:b=it:=by simpa using g
  subst e;obtain⟨o,e,c,d⟩:=t;exact⟨o,e,λv z=>by rw[d]at z;cases z⟩
 keep:=λi h h' t k=>t.at λo e=>k it (by simp) o e
 item:=by intro X C D B J i f s σ H E I l t R;subst C D B;obtain⟨xs,x,q,F⟩:=R;obtain⟨its,G,p,S⟩:=I.tuple q;obtain⟨u,O,T⟩:=G.get F;obtain⟨m,n,N,r,y,A⟩:=l it (by simp);refine wpAny_pyNext_tuple_item t (show s.heap.IsTuple a its.toArray from p) (x:=u) (by simpa using O) λh' j U=>?_;have L:v4 X f σ H { s with heap:=h' }:=I.turned (t':=s.toks) (λb o g e=>(U.2 b g).trans e) m n r y A;obtain⟨o,e,c,d⟩:=id j;exact⟨u,rfl,xJ (s:={ s with heap:=h' }) e c d (by decide) ⟨x,H,L,T,⟨rfl,λys Q=>by rw[I.tuple_inj Q q];exact F⟩,j,λb g=>(l b g).1⟩⟩
 done:=by intro X C D B J i f s σ H E I l t R;subst C D B;obtain⟨xs,q,F⟩:=R;obtain⟨its,G,p,S⟩:=I.tuple q;obtain⟨m,n,N,r,y,A⟩:=l it (by simp);have W:=G.length;exact wpAny_pyNext_tuple_end (I.ok.hd J) t (show s.heap.IsTuple a its.toArray from p) (by simp;lia) λh' M=>⟨rfl,I.turned (t':=s.toks) (λb o g e=>M b o g e) m n r y A⟩
 self:=λ_ _ _ _ _ t h=>wpAny_pyIter_tupleiter t h
theorem wU{P:c7}{w:c6}{K:v9}{F:f9}(it:c8)(lo:Int)(n:Nat):Turn P w K F (Qd lo n) [it] it (λi h=>IsRangeIter h it (lo+(i:Nat)*1) ((n:Int)-(i:Nat)) 1) where
 mem:=by simp
 obj:=λi h a b d=>by
  have e:b=it:=by simpa using d
  subst e;exact⟨_,a,λv z=>by have G:Data.fields _=Data.cell v:=z;cases G⟩
 keep:=λi h h' a k=>k it (by simp) _ a
 item:=by intro X C l B g i p s σ H E I f a R;subst C l B;obtain⟨m,c,N,r,y,A⟩:=f it (by simp);have W:=Walks.range (prog:=X.prog) (w:=X.w) (I.ok.hd g) it lo 1 n;refine W.item i s _ _ R a λv h' q x j D=>?_;obtain⟨t,rfl⟩:=x;have u:v4 X p σ H { s with heap:=h',toks:=q }:=I.turned (λb o d e=>D b o (by simpa using d) e) m c r y A;refine⟨_,rfl,xJ (s:={ s with heap:=h',toks:=q }) (n:="range_iterator") j rfl rfl (by decide) ⟨.int<|lo+i,H,u,⟨t,?_⟩,⟨rfl,rfl⟩,j,λb d=>(f b d).1⟩⟩;rw[Int.mul_one]
 done:=by intro X C l B g i p s σ H E I f a R;subst C l B;obtain⟨m,c,N,r,y,A⟩:=f it (by simp);exact wpAny_pyNext_range_end (I.ok.hd g) a (by have:n<=i:=R;lia) λh' M=>⟨rfl,I.turned (t':=s.toks) (λb o d e=>M b o d e) m c r y A⟩
 self:=λ_ _ _ _ _ a h=>wpAny_pyIter_rangeiter a h
section
variable{X:Cx}{tg:f9}
theorem BZ{pins:List (c8×c9)}{σ:St}{H:Hp}{s:e8}{R:It->Hp->Prop}{E:b7->e8->Prop}{lo hi:Int}{t u v:Tok}{tk:Nat}(I:v4 X pins σ H s)(h1:-(2 ^ 62)<=lo)(h2:lo<2 ^ 62)(h:-(2 ^ 62)<=hi)(d:hi<2 ^ 62)(q:R (Qd lo (hi-lo).toNat) H):f8 (ge X.prog X.w) X.A (j4<|.ref s.heap.objs.size) (Qb X pins σ tg R) E { s with heap:=s.heap.push { cls:=.type "range",data:=.fields #[.int lo t,.int hi u,.int 1 v] },toks:=tk }:=by
 refine wpAny_pyIter_range (IsRange.new ..) (small_one h1 h2 h d) ?_;have a:v4 X pins σ H { s with heap:=s.heap.push { cls:=.type "range",data:=.fields #[.int lo t,.int hi u,.int 1 v] },toks:=tk }:=I.kept λb o e=>A3 _ e;refine⟨(s.heap.push { cls:=.type "range",data:=.fields #[.int lo t,.int hi u,.int 1 v] }).objs.size,[(s.heap.push { cls:=.type "range",data:=.fields #[.int lo t,.int hi u,.int 1 v] }).objs.size],_,_,H,rfl,a.kept (t':=tk) λb o e=>A3 _ e,wU _ lo (hi-lo).toNat,?_,λb f=>?_,q⟩;have c:lo+((0:Nat):Int)*1=lo:=by simp
 have l:(((hi-lo).toNat:Nat):Int)-((0:Nat):Int)=Builtin.Range.rangeSize lo hi 1:=by rw[rangeSize_one];split<;>lia
 show IsRangeIter _ _ (lo+((0:Nat):Int)*1) ((((hi-lo).toNat:Nat):Int)-((0:Nat):Int)) 1;rw[c,l];exact C7 _ rfl;have e:b=(s.heap.push { cls:=.type "range",data:=.fields #[.int lo t,.int hi u,.int 1 v] }).objs.size:=by simpa using f
 subst e;exact a.fpOk (x9 _)<|a.hok.fresh<|x9 _
def iRng1(a:TA):TI:=λσ H R=>a σ H λvs H1=>∃j:Int,vs=[.int j]/\-(2 ^ 62)<=j/\j<2 ^ 62/\R (Qd 0 j.toNat) H1
theorem zh{a:f9}{d:TA}{p pos:i0}(i:Gl X "range")(m:X.mg "range" = a8)(g:PA X [a] d)(hs:i4 [a] X.env=[(bt,eval a X.env)]:=by rfl):PI X tg (.Call (.Name "range" p) [a] [] pos) (iRng1 d):=by
 intro b s σ H R I h;refine Call_<|mh I i m boot_range<|RJ (A1 (g pos b s σ H _ I h) ?_) hs rfl;rintro us o ⟨vs,H1,f,l,c⟩;obtain⟨j,e,c,k,q⟩:=c;subst e;cases l with
 |cons r n=>cases n;obtain⟨t,rfl⟩:=r;exact call_range_1<|BZ f (by lia) (by lia) c k<|by simpa using q
def tFor(wi:TI)(g:TG)(t:TS):TS:=λD σ H=>wi σ H λJ H1=>∃W:Nat->Nat->St->Hp->Prop,(∃m,W 0 m σ H1)/\∀i m σ H,W i m σ H ->(J.stop i H/\D.nx σ H)\/(J.go i H/\∃N:St->Hp->Prop,(∀a H',N a H'->∃c,c < m/\W (i+1) c a H')/\∀x H',J.yld i H x H'->g x σ H' λb d=>t { D with nx:=N,ct:=N,bk:=D.nx } b d)
noncomputable def iB(fp:List c8)(h:d5):List (c8×c9):=fp.filterMap λb=>(h.get? b).map λo=>(b,o)
theorem fS(d:b∈fp)(e:h.get? b=a7 o):(b,o)∈iB fp h:=QH.mpr ⟨b,d,by rw[e];rfl⟩
theorem rP(hp:p∈iB fp h):p.1∈fp/\h.get? p.1=a7 p.2:=by
 obtain⟨b,d,e⟩:=List.mem_filterMap.mp hp;cases q:h.get? b with
 |none=>rw[q]at e;cases e
 |some o=>rw[q]at e;have a:(b,o)=p:=D0 e;subst a;exact⟨d,q⟩
theorem v4.pinned(I:v4 X pins σ H s)(f:∀b∈fp,wI X pins H b)(B:∀b∈fp,∃o,s.heap.get? b=a7 o/\∀v,o.data≠.cell v):v4 X (pins++iB fp s.heap) σ H s:=I.pins_of λp hp=>(J0.mp hp).elim (λz=>I.pin p<|LP _ z) λz=>by obtain⟨h,e⟩:=rP z;obtain⟨m,n,N,_⟩:=f p.1 h;obtain⟨o,a,d⟩:=B p.1 h;rw[e]at a;cases a;exact⟨e,m,n,N,d⟩
theorem v4.unpinned(I:v4 X (pins++pl) σ H s):v4 X pins σ H s:=I.pins_of λp hp=>I.pin p<|LP _<|NM _ hp
theorem ID(hp:PassesOwn (ge X.prog X.w) X.A X.env X.xe)(hc:X.calm=a9)(hi:PI X tg iter wi)(hg:PG X tg g)(l:Lw X body tb)(hs:∀x,j6 iter X.env x=pure x:=by intro _;rfl):PS X (.For tg iter body [] pos) (tFor wi g tb):=by
 intro p s σ H D I h;refine wpAny_For (A1 (hi p s σ H _ I h) λv s1 h1=>A1 h1 λab s2 h2=>?_) hs;obtain⟨it,C,tn,J,H2,e,I2,T,S,Z,W,⟨m0,w0⟩,L⟩:=h2;subst e
 -- what stays a9 of the iterator's objects through the loop
 have t:∀{H':Hp},(∀b∈C,H' b=a8)->∀b∈C,wI X p H' b:=λhn b l=>⟨hn b l,(Z b l).2⟩
 refine codeAny_forLoop_any (λn s'=>∃i q H',v4 X p q H' s'/\tn i s'.heap/\(∀b∈C,H' b=a8)/\W i n q H') ?_ m0 ⟨0,σ,H2,I2,S,λb l=>(Z b l).1,w0⟩;rintro n s3 ⟨i,y,M,Y,G,E,w3⟩;rcases L i n y M w3 with⟨stop,qn⟩|⟨go,N,hN,K⟩
 refine Pv hp<|A1 (T.done X rfl rfl rfl hc i p s3 y M X.xe Y (t E) G stop) ?_;rintro r s4 ⟨Q,I4⟩;subst Q;exact OO ⟨y,M,I4,qn⟩
 ·refine Pv hp (A1 (T.item X rfl rfl rfl hc i p s3 y M X.xe Y (t E) G go) ?_)
  rintro r s4 ⟨u,Q,h4⟩;subst Q;refine Pv hp<|A1 h4 ?_;rintro _ s5 ⟨x,V,I5,r5,y5,B,P⟩;have O:=I5.pinned (t P)<|T.obj _ _ B;refine Pv hp<|A1 (hg _ s5 y V x u _ O r5<|K x V y5) ?_;rintro _ s6 ⟨U,H6,I6,q6⟩;refine Pv hp<|A1 (l _ s6 U H6 _ I6 q6) λf R z=>?_;have k:∀{a:St}{c:Hp},v4 X (p++iB C s5.heap) a c R->N a c->∃m,m<n/\∃i q H',v4 X p q H' R/\tn i R.heap/\(∀b∈C,H' b=a8)/\W i m q H':=λ{a c} j F=>by obtain⟨m',hm,w7⟩:=hN a c F;refine⟨m',hm,i+1,a,c,j.unpinned,T.keep _ _ _ B λb l o e=>(j.pin (b,o)<|LP _<|LP _<|fS l e).1,λb l=>?_,w7⟩;obtain⟨o,e,d⟩:=T.obj _ _ B b l;exact(j.pin (b,o)<|LP _<|LP _<|fS l e).2.1
  cases f with
  |next=>obtain⟨a,c,j,F⟩:=z;exact k j F
  |cont=>obtain⟨a,c,j,F⟩:=z;exact k j F
  |brk=>obtain⟨a,c,j,z⟩:=z;exact⟨a,c,j.unpinned,z⟩
  |ret v=>obtain⟨x7,a,c,j,r7,z⟩:=z;exact⟨x7,a,c,j.unpinned,r7,z⟩
end
abbrev R2:=V->V->Hp->VK->Prop
def E8(X:Cx)(f:b7->b7->Sem b7)(r:R2):Prop:=∀(p:List (c8×c9)) (s:e8) (σ:St) (H:Hp) (x y:V) (v u:b7) (Q:VK),v4 X p σ H s->aL x v->aL y u->r x y H Q ->f8 (ge X.prog X.w) X.A (f v u) (EP X p σ Q) X.xe s
def UnR(X:Cx)(f:b7->Sem b7)(r:V->Hp->VK->Prop):Prop:=∀(p:List (c8×c9)) (s:e8) (σ:St) (H:Hp) (x:V) (v:b7) (Q:VK),v4 X p σ H s->aL x v->r x H Q ->f8 (ge X.prog X.w) X.A (f v) (EP X p σ Q) X.xe s
def dU(X:Cx)(f:b7)(r:List V->Hp->VK->Prop):Prop:=∀(p:List (c8×c9)) (s:e8) (σ:St) (H:Hp) (xs:List V) (us:List b7) (Q:VK),v4 X p σ H s->az xs us->r xs H Q ->f8 (ge X.prog X.w) X.A (call f us) (EP X p σ Q) X.xe s
def O2(r:R2)(t b:TE):TE:=λσ H Q=>t σ H λx H1=>b σ H1 λy a=>r x y a Q
def rI(C:Int->Int->Prop)(g:Int->Int->V):R2:=λx y H Q=>∃i j,x=.int i/\y=.int j/\C i j/\Q (g i j) H
def NP(g:Int->Int->V):R2:=λx y H Q=>∃i j,x=.int i/\y=.int j/\Q (g i j) H
section
variable{X:Cx}{a b c:f9}{ta tb tc:TE}{pos:i0}
theorem binT(e:PE X a ta)(g:PE X b tb){pins:List (c8×c9)}{s:e8}{σ:St}{H:Hp}{R:V->V->Hp->Prop}(I:v4 X pins σ H s)(h:ta σ H λx H1=>tb σ H1 λy H2=>R x y H2) {Q:b7->e8->Prop}{f:b7->b7->Sem b7}(i:∀v u s2 x y H2,v4 X pins σ H2 s2->aL x v->aL y u->R x y H2->f8 (ge X.prog X.w) X.A (f v u) Q X.xe s2):f8 (ge X.prog X.w) X.A (eval a X.env) (λv s₁=>f8 (ge X.prog X.w) X.A (eval b X.env) (λu s₂=>f8 (ge X.prog X.w) X.A (f v u) Q X.xe s₂) X.xe s₁) X.xe s:=by refine A1 (e pins s σ H _ I h) ?_;rintro v k ⟨x,H1,c,r,q⟩;refine A1 (g pins k σ H1 _ c q) ?_;rintro u s2 ⟨y,H2,d,l,j⟩;exact i v u s2 x y H2 d r l j
theorem pe_op{op:Operator}{r:R2}(B:E8 X (j7 op) r)(f:PE X a ta)(e:PE X b tb):PE X (.BinOp a op b pos) (O2 r ta tb):=by intro p s σ H Q I h;exact wpAny_BinOp<|binT f e I h λv u n x y c d g i q=>B p n σ c x y v u Q d g i q
theorem O5{f:b7->b7->Sem b7}{C:Int->Int->Prop}{g:Int->Int->Int}(e:∀(i j:Int) (t u:Tok) (s:e8) (Q:b7->e8->Prop) (E:b7->e8->Prop),C i j->Q (.int (g i j) s.toks) { s with toks:=s.toks+1 }->f8 (ge X.prog X.w) X.A (f (.int i t)<|.int j u) Q E s):E8 X f (rI C λi j=>.int<|g i j):=by intro p s σ H x y v u Q I r a h;obtain⟨i,j,rfl,rfl,c,q⟩:=h;obtain⟨t,rfl⟩:=r;obtain⟨t',rfl⟩:=a;exact e i j t t' s _ _ c ⟨.int<|g i j,H,I.tok _,⟨_,rfl⟩,q⟩
theorem opI0{f:b7->b7->Sem b7}{g:Int->Int->Int}(e:∀(i j:Int) (t u:Tok) (s:e8) (Q:b7->e8->Prop) (E:b7->e8->Prop),Q (.int (g i j) s.toks) { s with toks:=s.toks+1 }->f8 (ge X.prog X.w) X.A (f (.int i t)<|.int j u) Q E s):E8 X f (NP λi j=>.int<|g i j):=by intro p s σ H x y v u Q I r a h;obtain⟨i,j,rfl,rfl,q⟩:=h;obtain⟨t,rfl⟩:=r;obtain⟨t',rfl⟩:=a;exact e i j t t' s _ _ ⟨.int<|g i j,H,I.tok _,⟨_,rfl⟩,q⟩
theorem opB0{f:b7->b7->Sem b7}{g:Int->Int->Bool}(e:∀(i j:Int) (t u:Tok) (s:e8) (Q:b7->e8->Prop) (E:b7->e8->Prop),Q (.bool<|g i j) s->f8 (ge X.prog X.w) X.A (f (.int i t)<|.int j u) Q E s):E8 X f (NP λi j=>.bl<|g i j):=by intro p s σ H x y v u Q I r a h;obtain⟨i,j,rfl,rfl,q⟩:=h;obtain⟨t,rfl⟩:=r;obtain⟨t',rfl⟩:=a;exact e i j t t' s _ _ ⟨.bl<|g i j,H,I,rfl,q⟩
def CPow(i j:Int):Prop:=0<=j/\j<=1000000/\i.natAbs<2 ^ 64
def CMul(i j:Int):Prop:=(-(2 ^ 64)<i/\i<2 ^ 64)\/(-(2 ^ 64)<j/\j<2 ^ 64)
theorem CMul.ok(h:CMul i j):IntMulOk i j:=by
 rcases h with⟨h1,h2⟩|⟨h1,h2⟩
 exact .of_left<|intBits_le_64 h1 h2;exact .of_right<|intBits_le_64 h1 h2
theorem IZ:E8 X (j7 .Add) (NP λi j=>.int<|i+j):=opI0 λ_ _ _ _ _ _ _ q=>add_int q
theorem IT:E8 X (j7 .Sub) (NP λi j=>.int<|i-j):=opI0 λ_ _ _ _ _ _ _ q=>sub_int q
theorem IW:E8 X (j7 .Mult) (rI CMul λi j=>.int<|i*j):=O5 λ_ _ _ _ _ _ _ f q=>mul_int q f.ok
theorem IX:E8 X (j7 .Mod) (rI (λ_ j=>0<j) λi j=>.int<|i % j):=O5 λi j _ _ _ _ _ f q=>by have h1:(0:Int)<j:=f;exact mod_int' (by lia)<|by rw[Int.fmod_eq_emod_of_nonneg i<|by lia];exact q
theorem IV:E8 X (j7 .Pow) (rI CPow λi j=>.int<|i ^ j.toNat):=O5 λ_ _ _ _ _ _ _ f q=>pow_int_small f.1 f.2.1 f.2.2 q
theorem IU:E8 X (j7 .LShift) (rI CPow λi j=>.int<|i*2 ^ j.toNat):=O5 λ_ _ _ _ _ _ _ f q=>lshift_int_small f.1 f.2.1 f.2.2 q
end
section
variable{X:Cx}{a b c:f9}{ta tb tc:TE}{pos:i0}
theorem op_lt:E8 X (j8 .Lt) (NP λi j=>.bl<|decide<|i<j):=opB0 λ_ _ _ _ _ _ _ q=>lt_int q
theorem op_le:E8 X (j8 .LtE) (NP λi j=>.bl<|decide<|i<=j):=opB0 λ_ _ _ _ _ _ _ q=>le_int q
theorem op_gt:E8 X (j8 .Gt) (NP λi j=>.bl<|decide<|j<i):=opB0 λ_ _ _ _ _ _ _ q=>gt_int q
theorem op_ge:E8 X (j8 .GtE) (NP λi j=>.bl<|decide<|j<=i):=opB0 λ_ _ _ _ _ _ _ q=>ge_int q
theorem E8.or(h:E8 X f r)(h':E8 X f r'):E8 X f (λx y H Q=>r x y H Q\/r' x y H Q):=by intro p s σ H x y v u Q I g i q;rcases q with q|q;exact h p s σ H x y v u Q I g i q;exact h' p s σ H x y v u Q I g i q
theorem Fs(B:E8 X (j8 op) r)(f:PE X a ta)(e:PE X b tb)(m:j9 op b=bt):PE X (.Compare a [op] [b] pos) (O2 r ta tb):=by intro p s σ H Q I h;exact wpAny_Compare1 (binT f e I h λv u n x y c d g i q=>B p n σ c x y v u Q d g i q) m
def HZ(t:TE):TT:=λσ H Q=>t σ H λx H'=>∃k,x=.bl k/\Q k H'
theorem Fe(B:E8 X (j8 op) r)(l:PE X a ta)(m:PE X b tb)(n:j9 op b=bt):PT X (.Compare a [op] [b] pos) (HZ<|O2 r ta tb):=by
 intro p s σ H Q I h;refine wpAny_isTrue_Compare1 (A1 (l p s σ H _ I h) λv D ⟨x,H1,g,w,q⟩=>A1 (m p D σ H1 _ g q) λu E ⟨y,d,i,A,o⟩ =>
  A1 (B p E σ d x y v u _ i w A o) λc F ⟨z,f,j,C,k,e,t⟩=>?_) n
 subst e;cases C;exact Op ⟨f,j,t⟩
def Eh(r r':R2)(t d e:TE):TE:=λσ H Q=>t σ H λx H1=>d σ H1 λy a=>r x y a λz b=>∃k,z=.bl k /\(if k=a9 then e σ b λY c=>r' y Y c Q else Q (.bl bt) b)
theorem Ck(D:E8 X (j8 op) r)(f:E8 X (j8 op') r')(w:PE X a ta)(A:PE X b tb)(B:PE X c tc)(C:lastMarks [op,op'] [b,c]=bt:=by with_unfolding_all rfl):PE X (.Compare a [op,op'] [b,c] pos) (Eh r r' ta tb tc):=by
 intro p s σ H Q I h;refine Compare_chain (A1 (w p s σ H _ I h) λv M ⟨x,H1,o,J,E⟩=>chain_link (A1 (A p M σ H1 _ o E) λu N ⟨y,m,q,l,F⟩ =>
  A1 (D p N σ m x y v u _ q J l F) λd O ⟨z,g,i,K,k,e,j⟩=>?_)) C
 subst e;cases K;refine Op ?_;cases k with
 |false=>exact ite_ff ⟨.bl bt,g,i,rfl,j⟩
 |true=>exact ite_tt<|chain_last<|A1 (B p O σ g _ i j) λY P ⟨R,n,t,L,G⟩=>f p P σ n y R u Y Q t l L G
theorem nX:(sizeLine:Nat)<2 ^ 63:=by rw[Mh];decide
theorem xc:E8 X (j7 .Add) (λx y H Q=>∃i j,x=.str i/\y=.str j/\i.length+j.length<=sizeLine/\Q (.str<|i++j) H):=by intro p s σ H x y v u Q I g r h;obtain⟨i,j,rfl,rfl,b,q⟩:=h;obtain⟨t,rfl⟩:=g;obtain⟨t',rfl⟩:=r;exact add_str (λt' k=>⟨.str<|i++j,H,I.tok _,⟨_,rfl⟩,q⟩) b
theorem BG(r:az [x] us):∃u,us=[u]/\aL x u:=by
 cases r with
 |cons a l=>cases l;exact⟨_,rfl,a⟩
theorem vals2(r:az [x,y] us):∃u w',us=[u,w']/\aL x u/\aL y w':=by
 cases r with
 |cons a l =>
  cases l with
  |cons C L=>cases L;exact⟨_,_,rfl,a,C⟩
theorem Be(f:X.calm=a9):dU X (.builtin "max") (λxs H Q=>∃i j,xs=[.int i,.int j]/\Q (.int<|if j > i then j else i) H):=by
 intro p s σ H xs us Q I r h;obtain⟨i,j,rfl,q⟩:=h;obtain⟨u,Y,rfl,⟨t,rfl⟩,⟨t',rfl⟩⟩:=vals2 r;refine max_two_ints (I.ok.hd f) λh' a k=>⟨_,H,I.kept k,?_,q⟩
 by_cases L:j > i;rw[t6 L,t6 L];exact⟨_,rfl⟩;rw[t7 L,t7 L];exact⟨_,rfl⟩
end
structure ObjM(h:d5)(x dx C:c8)(mA:c5->Option b7):Prop where
 obj:h.get? x=a7 (PySem.W.instObj C dx)
 ns:h.Ns1 dx mA
 ne:dx≠x
theorem EF.some_of(r:EF (a7 v) o):∃u,o=a7 u/\aL v u:=by
 cases o with
 |none=>exact(show False from r).elim
 |some u=>exact⟨u,rfl,r⟩
structure Cls(K:v9)(C:c8):Prop where
 pg:PySem.W.plainGet K C Str.empty=a9
 hd:PySem.W.hasDictIn K C=a9
 po:PySem.W.plainOver K C=a9
 sa:NY K (.ref C) "__setattr__" = a7 (a7<|.builtin "object.__setattr__")
structure Con(K:v9)(C:c8)(f:c5)(v:V)(u:b7):Prop where
 at_:NY K (.ref C) f=a7 (a7 u)
 rel:aL v u
 get:PySem.W.specialIn K u "__get__" = a7 a8
 cp:PySem.W.copiedNames.contains f=bt
structure Meth(K:v9)(C:c8)(m:c5)(f:c8):Prop where
 at_:NY K (.ref C) m=a7 (a7<|.ref f)
 fn:PySem.W.isFn K (.ref f)=a9
 kp:Nt K (.ref f)=a9
section
variable{X:Cx}{pins:List (c8×c9)}{σ:St}{H:Hp}{s:e8}{A:e7}{E:b7->e8->Prop}{Q:b7->e8->Prop}{c:b7}{b:Bool}
inductive TyOf(K:v9)(H:Hp):V->b7->Prop where
 |non:TyOf K H .non (.type "NoneType")
 |bl (x:Bool):TyOf K H (.bl x) (.type "bool")
 |int (i:Int):TyOf K H (.int i) (.type "int")
 |str (x:c5):TyOf K H (.str x) (.type "str")
 |flt (x:UInt64):TyOf K H (.flt x) (.type "float")
 |lst {a:c8}{xs:List V} (e:H a=a7 (.lst xs)):TyOf K H (.ref a) (.type "list")
 |frz {a:c8}{o:c9}{xs:List V} (e:H a=a7 (.frz o (.lst xs))):TyOf K H (.ref a) (.type "list")
 |tup {a:c8}{xs:List V} (e:H a=a7 (.tup xs)):TyOf K H (.ref a) (.type "tuple")
 |dK {a:c8}{kvs:List (F3×V)} (e:H a=a7 (.dK kvs)):TyOf K H (.ref a) (.type "dict")
 |dT {a:c8}{kvs:List (List F3×V)} (e:H a=a7 (.dT kvs)):TyOf K H (.ref a) (.type "dict")
 |ins {a C dx:c8}{fs:List (c5×V)} (e:H a=a7 (.ins C dx fs)) (cl:Cls K C) (ha:NY K (.ref C) "__class__" = a7 (a7 (.builtin "object.__class__")))
   (hn:PySem.W.specialIn K (.builtin "object.__class__") "__get__" = a7 (a7<|.builtin "getset_descriptor.__get__")) (htk:PySem.W.takesIn K (.builtin "object.__class__")=a7 a9)
   (hm:PySem.W.mroIn K C (.type "object")=a7 a9):TyOf K H (.ref a) (.ref C)
end
structure Room(k:Nat)(A:e7):Prop where
 hd:A.handled=a8
 dp:A.depth+3*k+5<recursionLimit
 un:A.units+16*k+200<k7
theorem Room.mono(r:Room k A)(h:j<=k):Room j A:=⟨r.hd,by have:=r.dp;lia,by have:=r.un;lia⟩
theorem Room.deeper(r:Room (k+1) A)(env:Env):Room k (A.deeper env):=⟨r.hd,by have:=r.dp;show A.depth+1+3*k+5<_;lia,by have:=r.un;show A.units+3+16*k+200<_;lia⟩
theorem Room.depth(r:Room k A):A.depth<recursionLimit:=by have:=r.dp;lia
def tNil:TA:=λ_ H Q=>Q [] H
def tCons(t:TE)(tr:TA):TA:=λσ H Q=>t σ H λx H1=>tr σ H1 λxs a=>Q (x::xs) a
section
variable{X:Cx}{e:f9}{es:List f9}{te:TE}{t:TA}{pos:i0}
theorem zn:PA X [] tNil:=λ_ _ _ _ H Q I h=>QB ⟨[],H,I,.nil,h⟩
theorem lK(f:PE X e te)(i:PA X es t)(hs:i4 (e::es) X.env=(bt,eval e X.env)::i4 es X.env:=by rfl):PA X (e::es) (tCons te t):=by intro a p s σ H Q I h;rw[hs];show f8 _ _ (spliced<|(bt,eval e X.env)::i3 a (i4 es X.env)) _ _ s;refine Rp<|A1 (f p s σ H _ I h) ?_;rintro u j ⟨x,H1,c,r,q⟩;refine A1 (i a p j σ H1 _ c q) ?_;rintro us n ⟨xs,b,d,l,g⟩;exact⟨x::xs,b,d,.cons r l,g⟩
def tTup(t:TA):TE:=λσ H Q=>t σ H λxs H1=>xs.length<=sizeLine/\∀p,H1 p=a8->Q (.ref p) (A2 H1 p<|.tup xs)
def tLst(t:TA):TE:=λσ H Q=>t σ H λxs H1=>xs.length<=sizeLine/\∀p,H1 p=a8->Q (.ref p) (A2 H1 p<|.lst xs)
theorem IH{x1}(h:PA X es t):PE X (.Tuple es x1 pos) (tTup t):=by intro p s σ H Q I d;refine wpAny_Tuple_spliced<|A1 (h pos p s σ H _ I d) λus c ⟨xs,H1,a,r,z,q⟩=>⟨by rw[<-r.length];exact z,?_⟩;have f:H1 c.heap.objs.size=a8:=a.hok.fresh<|x9 _;refine⟨.ref c.heap.objs.size,A2 H1 c.heap.objs.size<|.tup xs,a.laid (t':=c.toks) (λb u e=>A3 _ e) (x9 _) ?_,rfl,q _ f⟩;exact⟨z,us,r,⟨_,C7 _ rfl,rfl,⟨_,rfl⟩,rfl⟩⟩
theorem IM(h:PA X es t):PE X (.List es pos) (tLst t):=by intro p s σ H Q I d;refine wpAny_List_spliced<|A1 (h pos p s σ H _ I d) λus c ⟨xs,H1,a,r,z,q⟩=>⟨by rw[<-r.length];exact z,?_⟩;have f:H1 c.heap.objs.size=a8:=a.hok.fresh<|x9 _;refine⟨.ref c.heap.objs.size,A2 H1 c.heap.objs.size<|.lst xs,a.laid (t':=c.toks) (λb u e=>A3 _ e) (x9 _) ?_,rfl,q _ f⟩;exact⟨z,us,0,r,C7 _ rfl⟩
end
abbrev Sp:=List V->Hp->VK->XK->Prop
abbrev My:=List Env->Hp->e8->XK->b7->e8->Prop
structure Env0(P:c7)(w:c6)(K:v9)(mg:c5->Option b7)(base:d5)(A:e7)(outer:List Env)(s:e8)(H:Hp):Prop where
 frames:A.frames=a7 outer
 mod:Mod K mg base
 bs:∀b o,base.get? b=a7 o->s.heap.get? b=a7 o/\H b=a8
 bsz:base.objs.size<=s.heap.objs.size
 funs:s.heap.FunFrames base outer
 frf:∀b∈frs outer,H b=a8
 hok:E6 P w H s.heap
 bare:f7 s.gens
inductive CE(outer:List Env)(P:c7)(w:c6)(H:Hp)(s:e8)(Q:VK)(u:b7)(s':e8):Prop
 |mk (v:_) (H':_) (f0:s'.os=s.os) (f1:f7 s'.gens) (f2:Un (frs outer) [] H H' s.heap s'.heap) (f3:E6 P w H' s'.heap) (f4:aL v u) (f5:Q v H')
def CR(CX:My)(o:List Env)(P:c7)(w:c6)(H:Hp)(s:e8)(Q:VK)(E:XK)(r:Result)(s':e8):Prop:=match r with
 |.ok (.ret u)=>CE o P w H s Q u s'
 |.ok _=>False
 |.error e=>CX o H s E e s'
structure FnOk(P:c7)(w:c6)(K:v9)(mg:c5->Option b7)(base:d5)(CX:My)(k:Nat)(f:c8)(fd:k9)(ps:List c5)(sp:Sp):Prop where
 len:∀vs H Q E,sp vs H Q E->vs.length=ps.length
 run:∀(A:e7) (outer:List Env) (s:e8) (H:Hp) (args:Args) (us:List b7) (vs:List V) (Q:VK) (E:XK),Room k A->Env0 P w K mg base A outer s H->BindsTo s fd args (ps.zip us)->az vs us->sp vs H Q E ->l7 (ge P w) A (.call (.ref f) args) (CR CX outer P w H s Q E) s
section
variable{X:Cx}{pins:List (c8×c9)}{σ:St}{H:Hp}{s s':e8}
theorem v4.env0(I:v4 X pins σ H s):Env0 X.prog X.w X.K X.mg X.base X.A X.stack s H:=⟨I.ok.frames,I.ok.mod,I.bs,K3 I.ok.bsz I.sz,I.stack,I.stkFree,I.hok,I.bare⟩
theorem v4.after(I:v4 X pins σ H s)(h:CE X.stack X.prog X.w H s Q u s'):EP X pins σ Q u s':=by obtain⟨v,H',c,e,n,K,r,q⟩:=h;obtain⟨a,g,d,t,o⟩:=s';obtain rfl:o=s.os:=c;exact⟨v,H',I.call (h':=a) (g':=g) (d':=d) (t':=t) (ch:=[]) n K e (λb z=>t8 z<|by simp),r,q⟩
end
def Ic(sp:Sp)(s:List V)(E:XK)(t:TA):TE:=λσ H Q=>t σ H λvs H1=>sp (vs++s) H1 Q E
def mX(K:v9)(d:k9)(ps:List c5)(ds:List b7):Prop:=∀(s:e8) (us:List b7),K.In s.heap->(us++ds).length=ps.length->BindsTo s d ⟨us,[]⟩ (ps.zip<|us++ds)
theorem mX.all{K:v9}{d:k9}{ps:List c5}(h:∀us:List b7,us.length=ps.length->bindArgs d ⟨us,[]⟩=pure (ps.zip us)):mX K d ps []:=λs us _ g=>by rw[LS]at g ⊢;exact .of_eq<|h us g
def wG(CX:My)(X:Cx)(E:XK):Prop:=∀(p:List (c8×c9)) (σ:St) (H:Hp) (s:e8) (e:b7) (s':e8),v4 X p σ H s->CX X.stack H s E e s'->X.xe e s'
section
variable{X:Cx}{CX:My}{k:Nat}{f C:c8}{fd:k9}{ps:List c5}{sp:Sp}{dvs:List V}{ds:List b7}{E:XK}{x m:c5}{p pos apos:i0}{e o:f9}{es:List f9}{ta:TE}{t:TA}
theorem Ip(F:FnOk X.prog X.w X.K X.mg X.base CX k f fd ps sp)(i:Room k X.A)(d:mX X.K fd ps ds)(b:az dvs ds)(x:wG CX X E)(I:v4 X pins σ H s) (r:az vs us) (h:sp (vs++dvs) H Q E):f8 (ge X.prog X.w) X.A (call (.ref f) us) (EP X pins σ Q) X.xe s:=by
 have l:az (vs++dvs) (us++ds):=r.append b;have g:(us++ds).length=ps.length:=by rw[<-l.length];exact F.len _ _ _ _ h
 refine l8<|Na (F.run X.A X.stack s H ⟨us,[]⟩ (us++ds) (vs++dvs) Q E i I.env0 (d s us I.kIn g) l h) λr s' q=>?_;cases r with
 |error e=>exact x pins σ H s e s' I q
 |ok a =>
  cases a with
  |ret u=>exact I.after q
  |next=>exact J2 q
  |brk=>exact J2 q
  |cont=>exact J2 q
theorem Ft(F:FnOk X.prog X.w X.K X.mg X.base CX k f fd ps sp)(o:Room k X.A)(R:Gl X x)(n:X.mg x=a7 (.ref f))(m:Nt X.K (.ref f)=a9)(g:mX X.K fd ps ds)(i:az dvs ds)(u:wG CX X E)(d:PA X (e::es) t) (b:(x==("__debug__":c5))=bt:=by decide) (j:i4 (e::es) X.env=(bt,eval e X.env)::i4 es X.env:=by rfl) (l:(i3 pos<|i4 es X.env).any (·.1)=bt:=by rfl):PE X (.Call (.Name x p) (e::es) [] pos) (Ic sp dvs E t):=by intro a s σ H Q I h;refine Os<|jn I R n ?_ b;refine Ro (h₀:=X.base) I.ok.mod.kin m (A1 (d pos a s σ H _ I h) λus v ⟨vs,H1,c,r,q⟩=>⟨c.kIn,?_⟩) j l;exact Ip F o g i u c r q
structure Mk(K:v9)(C f:c8):Prop where
 makes:PySem.W.makesIn K C=a9
 init:NY K (.ref C) "__init__" = a7 (a7<|.ref f)
 fn:PySem.W.isFn K (.ref f)=a9
 kp:Nt K (.ref C)=a9
end
section
variable{X:Cx}{CX:My}{k:Nat}{f C:c8}{fd:k9}{ps ks:List c5}{sp:Sp}{E:XK}{x m:c5}{p pos apos kpos:i0}{e o:f9}{es:List f9}{kws:List m3}{te ta:TE}{t tk:TA}{nm:Option c5}
structure KBinds(K:v9)(fd:k9)(ps ks:List c5)(g:List b7->List b7->List b7)(gV:List V->List V->List V):Prop where
 to:∀(s:e8) (us ws:List b7),K.In s.heap->(g us ws).length=ps.length->BindsTo s fd ⟨us,ks.zip ws⟩ (ps.zip<|g us ws)
 rel:∀{vs:List V}{us:List b7}{zs:List V}{ws:List b7},az vs us->az zs ws->az (gV vs zs) (g us ws)
variable{g:List b7->List b7->List b7}{gV:List V->List V->List V}
end
structure FnScope(N P:List c5)(sc:f6):Prop where
 kind:sc.kind=.function
 co:sc.isCoroutine=bt
 gen:sc.isGenerator=bt
 nd:N.Nodup
 pre:N.take P.length=P
 par:∀x∈P,sc.names.lookup x=a7 .local\/sc.names.lookup x=a7 .cell
 nofree:∀y∈sc.names,y.2≠.free
theorem sY{kindOf:c5->Option m5}{x:c5}:∀{binds:List (c5×b7)}{m:c5->Option b7},(∀v,(x,v)∉binds)->bindL kindOf binds m x=m x
 | [],_,_=>rfl
 |(n,v)::r,m,h=>by
  unfold bindL;rw[sY λw hw=>h w<|D4 _ hw];split;have:x≠n:=by rintro rfl;exact h v F5
  simp[this];rfl
theorem tj{kindOf:c5->Option m5}{x:c5}:∀{binds:List (c5×b7)}{m:c5->Option b7},(∀v,(x,v)∉binds)->bindC kindOf binds m x=m x
 | [],_,_=>rfl
 |(n,v)::r,m,h=>by
  unfold bindC;rw[tj λw hw=>h w<|D4 _ hw];split;rfl;have:x≠n:=by rintro rfl;exact h v F5
  simp[this]
theorem sZ{kindOf:c5->Option m5}{x:c5}{v:b7}:∀{P:List c5}{vs:List b7}{i:Nat}{m:c5->Option b7},P.Nodup->P[i]?=a7 x->vs[i]?=a7 v->kindOf x=a7 .local ->bindL kindOf (P.zip vs) m x=a7 v
 | [],_,_,_,_,h,_,_=>by simp at h
 |_::_,[],_,_,_,_,h,_=>by simp at h
 |p::P,w::vs,0,m,nd,h1,h2,hk=>by simp at h1 h2;subst h1;subst h2;show bindL kindOf ((p,w)::P.zip vs) m p=_;unfold bindL;rw[sY λv hv=>(LK.mp nd).1 (Qp hv).1,t6 hk];simp
 |p::P,w::vs,i+1,m,nd,h1,h2,hk=>by show bindL kindOf ((p,w)::P.zip vs) m x=_;unfold bindL;exact sZ (i:=i) (LK.mp nd).2 (by simpa using h1) (by simpa using h2) hk
theorem tq{kindOf:c5->Option m5}{x:c5}{v:b7}:∀{P:List c5}{vs:List b7}{i:Nat}{m:c5->Option b7},P.Nodup->P[i]?=a7 x->vs[i]?=a7 v->kindOf x≠a7 .local ->bindC kindOf (P.zip vs) m x=a7 v
 | [],_,_,_,_,h,_,_=>by simp at h
 |_::_,[],_,_,_,_,h,_=>by simp at h
 |p::P,w::vs,0,m,nd,h1,h2,hk=>by simp at h1 h2;subst h1;subst h2;show bindC kindOf ((p,w)::P.zip vs) m p=_;unfold bindC;rw[tj λv hv=>(LK.mp nd).1 (Qp hv).1,t7 hk];simp
 |p::P,w::vs,i+1,m,nd,h1,h2,hk=>by show bindC kindOf ((p,w)::P.zip vs) m x=_;unfold bindC;exact tq (i:=i) (LK.mp nd).2 (by simpa using h1) (by simpa using h2) hk
noncomputable def start(N:List c5)(vs:List V):St:=vs.map a7++NX (N.length-vs.length) a8
noncomputable def pL(CX:My)(P:c7)(w:c6)(K:v9)(mg:c5->Option b7)(base:d5)(N:List c5)(l:c5)(scope:f6)(f:c8)(d:b7)(A:e7)(outer:List Env)(s:e8)(H:Hp)(E:XK):Cx where
 prog:=P
 w:=w
 K:=K
 mg:=mg
 base:=base
 A:=A.deeper<|b9 l scope s.heap.objs.size f d
 N:=N
 s₀:=s
 H₀:=H
 env:=b9 l scope s.heap.objs.size f d
 outer:=outer
 stack:=b9 l scope s.heap.objs.size f d::outer
 ex:=[]
 calm:=a9
 fn:=λ_=>a9
 pn:=[]
 xe:=λe s'=>f8 (ge P w) (A.deeper<|b9 l scope s.heap.objs.size f d) (leaving (b9 l scope s.heap.objs.size f d) e) (λ_ a=>CX outer H s E e a) (λb a=>CX outer H s E b a) s'
theorem wy{s:f6}{n:Nat}{x:c5}(h:s.names.lookup x=a7 .cell):∃c,(cellsFrom n s.names []).lookup x=a7 c:=by have q:=RB s.names n []<|.inl h;exact OX.mp q
theorem sI{CX:My}{P:c7}{w:c6}{K:v9}{mg:c5->Option b7}{base:d5}{N ps:List c5}{l:c5}{scope:f6}{f:c8}{m:b7}{A:e7}{o:List Env}{s C:e8}{H:Hp}{E:XK}{us:List b7}{vs:List V}(S:FnScope N ps scope) (F:A.handled=a8) (d:Env0 P w K mg base A o s H) (L:vs.length=ps.length) (r:az vs us)(x:InCallC s s.heap.objs.size (bindL (b9 l scope s.heap.objs.size f m).kindOf (ps.zip us) λ_=>a8) (cellsFrom (s.heap.objs.size+1) scope.names []) (bindC (b9 l scope s.heap.objs.size f m).kindOf (ps.zip us) λ_=>a8) C):v4 (pL CX P w K mg base N l scope f m A o s H E) [] (start N vs) H C:=by
 have G:ps.length<=N.length:=by have:=u6 Ma S.pre;rw[LC]at this;lia
 obtain⟨h1,M,rfl,t⟩:=x.done;have g:∀b:c8,b∉(pL CX P w K mg base N l scope f m A o s H E).ex:=λb z=>t8 (show b∈([]:List c8)from z) (by simp);refine⟨⟨d.mod,S.kind,rfl,rfl,x9 _,λy z c h1 h2=>?_,λy Q=>?_,λy c _ h=>?_,λ_=>F,Around.frames_deeper d.frames,.inr ⟨rfl,rfl⟩,λb z=>t8 z<|g b,d.bs,d.bsz,λb _ _=>g b,λb z=>t8 z<|g b,d.funs,d.frf⟩,rfl,d.bare,Un.kept t,⟨_,x.toInCall.ns,λi y v h1 h2 J=>?_⟩,λy c h=>⟨_,x.cell y c h⟩,d.hok.fresh<|x9 _,λy c h=>?_,λp hp=>t8 (show p∈([]:List (c8×c9))from hp) (by simp),d.hok.kept t,?_⟩;exact name_of_addr x.apart (NL h1)<|NL h2;have Q:scope.names.lookup y=a7 .cell\/scope.names.lookup y=a7 .free:=Q;rcases Q with Q|Q;exact wy Q;exact t8 rfl<|S.nofree _<|NL Q;exact Pl<|x.above y c<|NL h;have hi:i<vs.length:=by unfold start at h2;by_cases hi:i<vs.length;exact hi;rw[Mp<|by simpa using hi]at h2;rw[QR]at h2;split at h2<;>cases h2
 have D:vs[i]?=a7 v:=by
  unfold start at h2;rw[LF (by simpa using hi),E1]at h2;cases e:vs[i]? with
  |none=>rw[e]at h2;cases h2
  |some a=>rw[e]at h2;cases h2;rfl
 obtain⟨u,B,I⟩:=r.get D;have hp:ps[i]?=a7 y:=by rw[<-S.pre,Ou<|by lia];exact h1
 have j:ps.Nodup:=by rw[<-S.pre];exact S.nd.sublist<|PD _ _
 refine⟨u,I,?_⟩;rcases S.par y (K7 hp)with k|k;exact .inl ⟨k,sZ j hp B k⟩;obtain⟨c,e⟩:=wy (n:=s.heap.objs.size+1) k;refine .inr ⟨.inl k,c,e,?_⟩;have q:=x.cell y c e;rw[tq j hp B<|by show scope.names.lookup y≠_;rw[k];decide]at q;exact q;exact d.hok.fresh<|Pl<|x.above y c<|NL h;unfold start;show _=N.length;rw[E3,x6,QK];lia
theorem Ks{CX:My}{P:c7}{w:c6}{K:v9}{mg:c5->Option b7}{base:d5}{k:Nat}{f:c8}{name l:c5}{p:Arguments}{a:List i5}{scope:f6}{T kV i U c R oc:b7}{M od:Option c8}{G:Array (Option b7)}{N ps:List c5}{sp:Sp} (lk:K.lookup f=a7 ⟨oc,od,.func<|M9 name l p a scope T kV i U M c R,G⟩) (C:Pq K c l=a9) (S:FnScope N ps scope)(B:∀vs H Q E,sp vs H Q E->vs.length=ps.length)(h:∀(A:e7) (outer:List Env) (s:e8) (H:Hp) (vs:List V) (Q:VK) (E:XK),Room k (A.deeper<|b9 l scope s.heap.objs.size f c)->sp vs H Q E -> ∃t,Lw (pL CX P w K mg base N l scope f c A outer s H E) a t/\t { nx:=λ_ H'=>Q .non H',rt:=Q } (start N vs) H):FnOk P w K mg base CX (k+1) f (M9 name l p a scope T kV i U M c R) ps sp:=by
 refine⟨B,λA outer s H O us vs Q E D j hb r z=>?_⟩;have hl:=B _ _ _ _ z;have X:K.In s.heap:=j.mod.kin.keeps λb o e=>(j.bs b o e).1;have F:s.heap.NoLimit:=j.mod.nolimit.keeps λb o e=>(j.bs b o e).1;have g:∀y∈ps.zip us,scope.names.lookup y.1=a7 .local\/(scope.names.lookup y.1=a7 .cell/\((cellsFrom (s.heap.objs.size+1) scope.names []).lookup y.1).isSome=a9):=λ⟨n,v⟩ hy=>by rcases S.par n (Qp hy).1 with q|q;exact .inl q;exact .inr ⟨q,RB _ _ _<|.inl q⟩
 refine codeAny_call_function D.depth (X _ _ lk) rfl S.co S.gen rfl (PySem.W.codeRec_of X C)<|hb _ _ _ _ ?_;refine wpAny_newFunctionEnv_cells S.kind g λenv he Y x=>?_;subst he;refine⟨F.keeps x.toInCall.keep,codeAny_func ?_⟩;obtain⟨t,ht,hq⟩:=h A outer s H vs Q E (D.deeper _) z;have I:v4 (pL CX P w K mg base N l scope f c A outer s H E) [] (start N vs) H Y:=sI S D.hd j hl r x;refine G4 (ht [] Y (start N vs) H _ I hq) (λZ s' hs=>?_) λe s' hs=>hs;have m:∀{d:St}{H':Hp}{v:V}{u:b7},v4 (pL CX P w K mg base N l scope f c A outer s H E) [] d H' s'->aL v u->Q v H'->CE outer P w H s Q u s':=λ{d H' v u} J L q=>⟨v,H',J.os,J.bare,J.base,J.hok,L,q⟩
 cases Z with
 |ret u=>obtain⟨v,d,H',J,L,q⟩:=hs;exact m J L q
 |next=>obtain⟨d,H',J,q⟩:=hs;exact m (v:=V.non) (u:=K1) J rfl q
 |brk=>obtain⟨_,_,_,q⟩:=hs;exact J2 q
 |cont=>obtain⟨_,_,_,q⟩:=hs;exact J2 q
section
variable{X:Cx}{x:c5}{p pos:i0}{e:f9}{es:List f9}{t:TA}{id T:String}{r:List V->Hp->VK->Prop}
def Q7(r:List V->Hp->VK->Prop)(t:TA):TE:=λσ H Q=>t σ H λvs H1=>r vs H1 Q
theorem oP(d:dU X (.builtin id) r)(R:Gl X x)(m:X.mg x=a8)(v:d9 x=a7 (.builtin id))(f:PA X (e::es) t)(n:x≠"__name__":=by decide)(b:(x==("__debug__":c5))=bt:=by decide)(i:i4 (e::es) X.env=(bt,eval e X.env)::i4 es X.env:=by rfl) (l:(i3 pos<|i4 es X.env).any (·.1)=bt:=by rfl):PE X (.Call (.Name x p) (e::es) [] pos) (Q7 r t):=by intro a s σ H Q I h;refine Os<|mh I R m v ?_ n b;exact PyProof.Rows.callWith_builtin1 (A1 (f pos a s σ H _ I h) λus j ⟨vs,H1,c,g,q⟩=>d a j σ H1 vs us Q c g q) i l
theorem zk(d:dU X (.type T) r)(R:Gl X x)(m:X.mg x=a8)(v:d9 x=a7 (.type T))(f:PA X (e::es) t)(n:x≠"__name__":=by decide)(b:(x==("__debug__":c5))=bt:=by decide)(i:i4 (e::es) X.env=(bt,eval e X.env)::i4 es X.env:=by rfl) (l:(i3 pos<|i4 es X.env).any (·.1)=bt:=by rfl):PE X (.Call (.Name x p) (e::es) [] pos) (Q7 r t):=by intro a s σ H Q I h;refine Os<|mh I R m v ?_ n b;exact RJ (A1 (f pos a s σ H _ I h) λus j ⟨vs,H1,c,g,q⟩=>d a j σ H1 vs us Q c g q) i l
end
end L2
namespace HT
open PySem PyProof.Rows
theorem rcLt_int(A:e7)(s:e8)(a:Int)(t:Tok)(c:Int)(u:Tok)(prog:c7)(w:c6)(E:b7->e8->Prop)(Q:b7->e8->Prop)(h:Q (.bool<|decide<|a<c) s):f8 (ge prog w) A (richCompare .Lt (.int a t)<|.int c u) Q E s:=(PyProof.Rows.lt_int h:f8 (ge prog w) A (j8 .Lt (.int a t)<|.int c u) Q E s)
section
variable{prog:c7}{w:c6}{A:e7}{E:b7->e8->Prop}{s:e8}
theorem cat_tup(D:IsTup s.heap t vs.toArray)(q:IsTup s.heap b ws.toArray)(v:vs≠[])(h1:ws=[]->Q (.ref t) s) (h2:ws≠[]->Q (.ref s.heap.objs.size) { s with heap:=s.heap.push { cls:=.type "tuple",data:=.seq (vs++ws).toArray } })(z:vs.length+ws.length<=sizeLine):f8 (ge prog w) A (j7 .Add (.ref t)<|.ref b) Q E s:=by
 obtain⟨⟨cls,k,data,p⟩,B,l,n,m⟩:=id D;obtain⟨⟨j,d,i,f⟩,h,a,o,c⟩:=id q;simp only at l m a c;subst l m a c;have e:vs.toArray++ws.toArray=(vs++ws).toArray:=by simp
 by_cases g:ws=[]
 exact concat_meets ⟨_,B,rfl⟩ ⟨_,h,rfl⟩ noFill_tuple_add seq_tuple_add RA RE (RG _ _) (tuple_addW1 t b vs.toArray ws.toArray n o k d p f (by simpa using v)<|by simp[g]) ⟨B,h,h1 g⟩;refine concat_meets ⟨_,B,rfl⟩ ⟨_,h,rfl⟩ noFill_tuple_add seq_tuple_add RA RE (RG _ _) (tuple_addW2 t b vs.toArray ws.toArray n o k d p f (by simpa using v) (by simpa using g)<|by rw[C8,C8];exact z) ⟨B,h,?_⟩;rw[e];exact h2 g
noncomputable def sIx(n d:Nat):Option Int->Nat
 |none=>d
 |some v=>if v<0 then(v+(n:Int)).toNat else min v.toNat n
theorem sIx_nat(n d k:Nat):sIx n d (a7 (k:Int))=min k n:=by show (if (k:Int)<0 then((k:Int)+(n:Int)).toNat else min (k:Int).toNat n)=min k n;rw[t7 (by lia),Lv]
theorem Im(n d:Nat)(h:d<=n)(o:Option Int):sIx n d o<=n:=by
 cases o with
 |none=>exact h
 |some v=>show (if v<0 then(v+(n:Int)).toNat else min v.toNat n)<=n;by_cases c:v<0;rw[t6 c];lia;rw[t7 c];exact Nat.min_le_right _ _
theorem AW(v:Int)(n d:Nat):(if v<0 then max (v+(n:Int)) 0 else min v (n:Int))=((sIx n d (a7 v):Nat):Int):=by
 show (if v<0 then max (v+(n:Int)) 0 else min v (n:Int))=(((if v<0 then(v+(n:Int)).toNat else min v.toNat n):Nat):Int)
 by_cases c:v<0;simp only[t6 c];lia;simp only[t7 c];lia
theorem xV(lo hi:Option Int)(n:Nat):RH lo hi 1 (n:Int)=(((sIx n 0 lo:Nat):Int),((sIx n n hi:Nat):Int)):=by
 have h1:¬((1:Int)<0):=by lia
 unfold RH;simp only[h1,u4];refine Prod.ext ?_ ?_;cases lo with
 |none=>rfl
 |some v=>exact AW v n 0
 cases hi with
 |none=>rfl
 |some v=>exact AW v n n
theorem xb(i j:Nat):QW (i:Int) (j:Int) 1=j-i:=by
 unfold QW;have h1:(1:Int) > 0:=by lia
 simp only[h1,u5,Int.ediv_one];split<;>lia
theorem nP(p:m6 v o)(h:Q o s):f8 (ge prog w) A (Builtin.Slice.slicePartIndex v) Q E s:=by
 cases p with
 |none=>exact slicePart_none h
 |int i t=>exact slicePart_int h
theorem eU{m:c8}{l u:b7}{lo hi:Option Int}{n:Nat}{Q:Int×Int×Nat->e8->Prop}(hs:s.heap.IsSliceOf m l u .none)(p:m6 l lo)(d:m6 u hi)(h:Q (((sIx n 0 lo:Nat):Int),1,sIx n n hi-sIx n 0 lo) s):f8 (ge prog w) A (RW (.ref m)<|pure (n:Int)) Q E s:=by obtain⟨o,b,c,a⟩:=id hs;unfold RW Builtin.Slice.sliceFields;refine u8<|u8<|Ls b a (x:=l) rfl<|u8<|Ls b a (x:=u) rfl<|u8<|Ls b a (x:=.none) rfl<|v5 ?_;refine u8<|slicePart_none ?_;show f8 _ _ (if ((1:Int)==0)=a9 then _ else _) _ _ s;rw[t7<|by decide];refine u8<|nP p<|u8<|nP d<|u8<|v5 ?_;show f8 _ _ (match RH lo hi 1 (n:Int)with|(lo,hi)=>pure (lo,(1:Int),QW lo hi 1)) _ _ s;rw[xV lo hi n];show f8 _ _ (pure (((sIx n 0 lo:Nat):Int),(1:Int),QW ((sIx n 0 lo:Nat):Int) ((sIx n n hi:Nat):Int) 1)) _ _ s;rw[xb];exact v5 h
theorem Cg(xs:Array b7)(i k:Nat):((E4 k).filterMap λ(m:Nat)=>xs[((i:Int)+(m:Int)*1).toNat]?).toArray=((xs.toList.drop i).take k).toArray:=by
 have e:(λ(m:Nat)=>xs[((i:Int)+(m:Int)*1).toNat]?)=λm=>xs[i+m]?:=by
  funext m;have:((i:Int)+(m:Int)*1).toNat=i+m:=by lia
  rw[this]
 rw[e];have:=pick_run xs i k;rw[List.filterMap_map]at this;have l:((λx=>xs[x]?) ∘ λx=>i+x)=λm=>xs[i+m]?:=rfl;rw[l]at this;rw[this]
theorem getItem_tuple_cut{t l:c8}{i:Array b7}{v u:b7}{lo hi:Option Int}{Q:b7->e8->Prop}(D:IsTup s.heap t i)(hs:s.heap.IsSliceOf l v u .none)(p:m6 v lo)(j:m6 u hi)(f:¬(sIx i.size 0 lo=0/\sIx i.size i.size hi=i.size))(h:Q (.ref s.heap.objs.size) { s with heap:=s.heap.push { cls:=.type "tuple",data:=.seq ((i.toList.drop<|sIx i.size 0 lo).take<|sIx i.size i.size hi-sIx i.size 0 lo).toArray } })(z:i.size<=sizeLine):f8 (ge prog w) A (m7 (.ref t)<|.ref l) Q E s:=by
 have e:sizeOk (.seq ((i.toList.drop<|sIx i.size 0 lo).take<|sIx i.size i.size hi-sIx i.size 0 lo).toArray):=by show ((i.toList.drop<|sIx i.size 0 lo).take<|sIx i.size i.size hi-sIx i.size 0 lo).toArray.size<=sizeLine;rw[C8,LC,MC,G2];lia
 have L:sIx i.size i.size hi<=i.size:=Im _ _ (x9 _) hi;obtain⟨g,b,c,d⟩:=id hs;have a:s.TypeIs (.ref l) "slice":=⟨g,b,c⟩
 unfold m7
 try with_reducible refine F8 ?_
 first|refine u8 (v5 ?_)|skip
 refine u8<|wpAny_sequenceKey D.typeIs (by decide) ?_;refine u8<|Mo (name:=v6 "__getitem__") D.typeIs OZ<|K4 OZ D.typeIs entry_tuple_getitem ?_<|args_tuple_getitem _ _;show f8 _ _ (QX (.ref t) >>= _) _ _ s;refine u8<|tupleItemsOf_ D ?_;refine u8<|Nq a ?_;rw[t6<|by decide];refine u8<|eU hs p j ?_;have o:¬((((sIx i.size 0 lo:Nat):Int)==0&&(1:Int)==1&&(sIx i.size i.size hi-sIx i.size 0 lo)==i.size)=a9):=by intro q;rw[G7,G7]at q;have k:((sIx i.size 0 lo:Nat):Int)=0:=eq_of_beq q.1.1;have n:sIx i.size i.size hi-sIx i.size 0 lo=i.size:=eq_of_beq q.2;exact f ⟨by lia,by lia⟩
 show f8 _ _ (if (((sIx i.size 0 lo:Nat):Int)==0&&(1:Int)==1&&(sIx i.size i.size hi-sIx i.size 0 lo)==i.size)=a9 then _ else _) _ _ s;rw[t7 o,Cg]
 first
  |exact u8 (m:=QT _) (Lu (v5 ⟨_,rfl,v5 h⟩) e)
  |exact u8 (m:=QT _) (Lu (u8 (v5 (v5 ⟨_,rfl,v5 h⟩))) e)
  |exact u8 (u8 (m:=QT _) (Lu (v5 (v5 ⟨_,rfl,v5 h⟩)) e))
  |exact u8 (u8 (m:=QT _) (Lu (v5 ⟨_,rfl,v5 h⟩) e))
end
end HT
namespace L2
open PySem PySem.Spec PyProof.Rows
abbrev TO:=St->Hp->(Option Int->Hp->Prop)->Prop
def PO(X:Cx)(e:Option f9)(t:TO):Prop:=∀(p:List (c8×c9)) (s:e8) (σ:St) (H:Hp) (Q:Option Int->Hp->Prop),v4 X p σ H s->t σ H Q ->f8 (ge X.prog X.w) X.A (evalPart e X.env) (λu s'=>∃o H',v4 X p σ H' s'/\m6 u o/\Q o H') X.xe s
def EQ:TO:=λ_ H Q=>Q a8 H
def tPart(t:TE):TO:=λσ H Q=>t σ H λx H1=>∃i,x=.int i/\Q (a7 i) H1
section
variable{X:Cx}{e:f9}{te:TE}{lo hi:Option f9}{tl th:TO}{pos p2:i0}
theorem Fm:PO X a8 EQ:=by intro p s σ H Q I h;rw[evalPart_none];exact v5 ⟨a8,H,I,.none,h⟩
theorem Fj(h:PE X e te):PO X (a7 e) (tPart te):=by intro p s σ H Q I w;rw[evalPart_some];refine A1 (h p s σ H _ I w) ?_;rintro u c ⟨x,H1,a,r,b⟩;obtain⟨i,rfl,q⟩:=b;obtain⟨t,rfl⟩:=r;exact⟨a7 i,H1,a,.int i t,q⟩
def Pc(X:Cx)(r:V->Option Int->Option Int->Hp->VK->Prop):Prop:=∀(p:List (c8×c9)) (s:e8) (σ:St) (H:Hp) (x:V) (v a u:b7) (l hi:Option Int) (m:c8) (Q:VK),v4 X p σ H s->aL x v->s.heap.IsSliceOf m a u .none->m6 a l->m6 u hi->r x l hi H Q ->∃T id,typeLookup (.type T) "__getitem__" = pure (a7<|.builtin id)/\s.TypeIs v T/\f8 (ge X.prog X.w) X.A (m7 v<|.ref m) (EP X p σ Q) X.xe s
def tSl(r:V->Option Int->Option Int->Hp->VK->Prop)(te:TE)(t h:TO):TE:=λσ H Q=>te σ H λx H1=>t σ H1 λl a=>h σ a λu b=>r x l u b Q
theorem Ci(y:Pc X r)(n:PE X e te)(o:PO X lo tl)(z:PO X hi th):PE X (.Subscript e (.Slice lo hi a8 p2) pos) (tSl r te tl th):=by intro p s σ H Q I h;refine Subscript_<|A1 (n p s σ H _ I h) ?_;rintro v K ⟨x,H1,i,J,E⟩;refine wpAny_Slice<|A1 (o p K σ H1 _ i E) ?_;rintro c L ⟨l,g,j,B,F⟩;refine A1 (z p L σ g _ j F) ?_;rintro d a ⟨u,f,k,C,G⟩;rw[evalPart_none];refine v5 ?_;have t:v4 X p σ f { a with heap:=a.heap.push { cls:=.type "slice",data:=.fields #[c,d,.none] } }:=k.kept (t':=a.toks) λb M q=>A3 _ q;obtain⟨T,id,m,D,R⟩:=y p { a with heap:=a.heap.push { cls:=.type "slice",data:=.fields #[c,d,.none] } } σ f x v c d l u a.heap.objs.size Q t J (Heap.IsSliceOf.new ..) B C G;show f8 (ge X.prog X.w) X.A (subscriptTail e (.Slice lo hi a8 p2) v<|.ref a.heap.objs.size) (EP X p σ Q) X.xe { a with heap:=a.heap.push { cls:=.type "slice",data:=.fields #[c,d,.none] } };exact tail_any (ops:=[.ref a.heap.objs.size,v]) D m R<|by with_unfolding_all rfl
noncomputable def EC(xs:List V)(lo hi:Option Int):List V:=(xs.drop<|HT.sIx xs.length 0 lo).take<|HT.sIx xs.length xs.length hi-HT.sIx xs.length 0 lo
theorem mB(xs:List V)(lo hi:Option Int):(EC xs lo hi).length<=xs.length:=by unfold EC;rw[LC,MC];lia
def rSlT(K:v9):V->Option Int->Option Int->Hp->VK->Prop:=λx l hi H Q=>∃a xs,x=.ref a/\C5 K H a xs /\¬(HT.sIx xs.length 0 l=0/\HT.sIx xs.length xs.length hi=xs.length)/\∀p,H p=a8->Q (.ref p) (A2 H p<|.tup<|EC xs l hi)
theorem Ij:Pc X (rSlT X.K):=by
 intro p s σ H x v f i l hi m Q I g hs d u h;obtain⟨a,xs,rfl,c,w,q⟩:=h;cases g;obtain⟨its,r,D,z⟩:=I.tuple c;have n:its.toArray.size=xs.length:=by rw[C8];exact r.length.symm
 refine⟨"tuple",_,OZ.lookup,D.typeIs,?_⟩;refine HT.getItem_tuple_cut D hs d u (by rw[n];exact w) ?_ (by rw[n];exact z);rw[n];refine⟨.ref s.heap.objs.size,_,I.laid (t':=s.toks) (o:=.tup<|EC xs l hi) (λb e q=>A3 _ q) (x9 _) ?_,rfl,q _<|I.hok.fresh<|x9 _⟩;exact⟨K3 (mB xs l hi) z,_,(r.drop<|HT.sIx xs.length 0 l).take<|HT.sIx xs.length xs.length hi-HT.sIx xs.length 0 l,Ed.new _ _⟩
def rCatT(K:v9):R2:=λx y H Q=>∃a b xs ys,x=.ref a/\y=.ref b/\C5 K H a xs/\C5 K H b ys/\xs≠[]/\xs.length+ys.length<=sizeLine /\(ys=[]->Q (.ref a) H)/\(ys≠[]->∀p,H p=a8->Q (.ref p) (A2 H p<|.tup<|xs++ys))
theorem az.nil_iff(r:az xs us):us=[]↔xs=[]:=by
 cases r with
 |nil=>simp
 |cons _ _=>simp
theorem FA:E8 X (j7 .Add) (rCatT X.K):=by intro p s σ H x y v u Q I n t h;obtain⟨a,b,xs,ys,rfl,rfl,f,d,e,c,k,m⟩:=h;cases n;cases t;obtain⟨its,r,g,_⟩:=I.tuple f;obtain⟨i,l,j,_⟩:=I.tuple d;refine HT.cat_tup g j (λz=>e<|r.nil_iff.mp z) (λz=>⟨.ref a,H,I,rfl,k<|l.nil_iff.mp z⟩) (λz=>?_) (by rw[<-r.length,<-l.length];exact c);refine⟨.ref s.heap.objs.size,_,I.laid (t':=s.toks) (o:=.tup<|xs++ys) (λb A q=>A3 _ q) (x9 _) ?_,rfl,m (λw=>z<|l.nil_iff.mpr w) _<|I.hok.fresh<|x9 _⟩;exact⟨by rw[E3];exact c,_,r.append l,Ed.new _ _⟩
end
noncomputable def MV(n:Nat)(i:Int):Option Nat:=if 0<=i then(if i<n then a7 i.toNat else a8)else if -(n:Int)<=i then a7 (i+n).toNat else a8
noncomputable def atI{α:Type}(xs:List α)(i:Int):Option α:=(MV xs.length i).bind λj=>xs[j]?
theorem Ak(h:MV n i=a7 j):seqIndex? i n=a7 j/\j<n/\-(n:Int)<=i/\i<n:=by unfold MV at h;by_cases a:0<=i;rw[t6 a]at h;by_cases h1:i<n;rw[t6 h1]at h;have e:i.toNat=j:=D0 h;exact⟨by rw[seqIndex_of a h1,e],by lia,by lia,h1⟩;rw[t7 h1]at h;cases h;rw[t7 a]at h;by_cases h1:-(n:Int)<=i;rw[t6 h1]at h;have e:(i+n).toNat=j:=D0 h;exact⟨by rw[seqIndex_neg (by lia) h1,e],by lia,h1,by lia⟩;rw[t7 h1]at h;cases h
theorem uU{α:Type}{xs:List α}{i:Int}{v:α}(h:atI xs i=a7 v):∃j,seqIndex? i xs.length=a7 j/\xs[j]?=a7 v/\j<xs.length/\-(xs.length:Int)<=i/\i<xs.length:=by
 unfold atI at h;cases e:MV xs.length i with
 |none=>rw[e]at h;cases h
 |some j=>rw[e]at h;obtain⟨h1,h2,a,d⟩:=Ak e;exact⟨j,h1,h,h2,a,d⟩
theorem ar{α:Type}{xs:List α}{j:Nat}{v:α}(h:xs[j]?=a7 v):atI xs (j:Int)=a7 v:=by
 have L:j<xs.length:=(B6.mp h).1;have e:MV xs.length (j:Int)=a7 j:=by unfold MV;rw[t6 (by lia),t6<|by lia];simp
 unfold atI;rw[e];exact h
def pS(b:f9):Prop:=∀o i,subscripted b bt o i=operate [o,i] (m7 o i)
def Mu(X:Cx)(r:R2):Prop:=∀(a e:f9) (p:List (c8×c9)) (s:e8) (σ:St) (H:Hp) (x y:V) (v u:b7) (Q:VK),v4 X p σ H s->aL x v->aL y u->r x y H Q ->subscripted e bt v u=operate [v,u] (m7 v u)->f8 (ge X.prog X.w) X.A (subscriptTail a e v u) (EP X p σ Q) X.xe s
def Mt(X:Cx)(id:String)(r:V->List V->Hp->VK->Prop):Prop:=∀(p:List (c8×c9)) (s:e8) (σ:St) (H:Hp) (x:V) (xs:List V) (v:b7) (us:List b7) (Q:VK),v4 X p σ H s->aL x v->az xs us->r x xs H Q ->f8 (ge X.prog X.w) X.A (call (.builtin id)<|v::us) (EP X p σ Q) X.xe s
section
variable{X:Cx}{a b:f9}{ta tb:TE}{pos:i0}
theorem Mu.or(h:Mu X r)(h':Mu X r'):Mu X (λx y H Q=>r x y H Q\/r' x y H Q):=by intro a e p s σ H x y v u Q I g i q hs;rcases q with q|q;exact h a e p s σ H x y v u Q I g i q hs;exact h' a e p s σ H x y v u Q I g i q hs
theorem pe_ix(i:Mu X r)(f:PE X a ta)(e:PE X b tb)(hs:pS b):PE X (.Subscript a b pos) (O2 r ta tb):=by intro p s σ H Q I h;exact Subscript_<|binT f e I h λv u n x y c d g j q=>i a b p n σ c x y v u Q d g j q<|hs _ _
def rIxL(K:v9):R2:=λx y H Q=>∃p xs i v,x=.ref p/\y=.int i/\J7 K H p xs/\atI xs i=a7 v/\Q v H
def rIxT(K:v9):R2:=λx y H Q=>∃p xs i v,x=.ref p/\y=.int i/\C5 K H p xs/\atI xs i=a7 v/\Q v H
def rIxS:R2:=λx y H Q=>∃z i c,x=.str z/\y=.int i/\z.length<=sizeLine/\atI z.cps.toList i=a7 c/\Q (.str ⟨#[c]⟩) H
theorem Gs:Mu X (rIxL X.K):=by
 intro c e a s σ H x y v u Q I B C h hs;obtain⟨p,xs,i,z,rfl,rfl,A,m,q⟩:=h;cases B;obtain⟨t,rfl⟩:=C;obtain⟨its,r,l,F⟩:=I.list A;obtain⟨j,h1,h2,D,g,k⟩:=uU m;obtain⟨w,d,b⟩:=r.get h2;have o:=r.length;have E:=nX;have n:EP X a σ Q w s:=⟨z,H,I,b,q⟩
 by_cases f:0<=i;have L:i.toNat=j:=by rw[seqIndex_of f k]at h1;exact D0 h1
 exact item_listR l.isList f (by lia) (by rw[L];simpa using d) n hs;have L:(i+(its.toArray.size:Int)).toNat=j:=by rw[seqIndex_neg (by lia) g]at h1;rw[C8,<-o];exact D0 h1
 exact subscriptTail_builtinR (x:=w) l.isList.typeIs slot_list_getitem.lookup (wpAny_getItem_list_neg (Q:=λr s'=>r=w/\EP X a σ Q r s') l.isList (by lia) (by rw[C8]<;>lia) (by lia) (by rw[L];simpa using d) ⟨rfl,n⟩) hs
theorem JW:Mu X (rIxT X.K):=by
 intro c e a s σ H x y v u Q I m o h hs;obtain⟨p,xs,i,z,rfl,rfl,k,f,q⟩:=h;cases m;obtain⟨t,rfl⟩:=o;obtain⟨its,r,l,E⟩:=I.tuple k;obtain⟨j,h1,h2,A,B,C⟩:=uU f;obtain⟨w,d,b⟩:=r.get h2;have g:=r.length;have D:=nX;have n:EP X a σ Q w s:=⟨z,H,I,b,q⟩
 exact subscriptTail_builtinR (x:=w) l.typeIs slot_tuple_getitem.lookup (getItem_tuple (j:=j) (Q:=λr s'=>r=w/\EP X a σ Q r s') l (by lia) (by lia) (by rw[C8,<-g];exact h1) (by simpa using d) ⟨rfl,n⟩) hs
theorem JX:Mu X rIxS:=by
 intro a e p s σ H x y v u Q I r m h hs;obtain⟨z,i,c,rfl,rfl,w,f,q⟩:=h;obtain⟨t,rfl⟩:=r;obtain⟨t',rfl⟩:=m;obtain⟨j,h1,h2,n,d,k⟩:=uU f;have g:z.cps.toList.length=z.length:=by simp[Str.length]
 rw[g]at h1 d k;have o:=nX;exact tail_any (typeIs_str s z t) slot_str_getitem.lookup (getItem_str (c:=c) (by have b:decide (i < -(2 ^ 63:Int))=bt:=dF_ (by lia);have l:decide (i ≥ 2 ^ 63)=bt:=dF_ (by lia);rw[b,l,Bool.or_false]) (by rw[h1];simpa using h2) ⟨.str ⟨#[c]⟩,H,I.tok _,⟨_,rfl⟩,q⟩) hs
def rIx(K:v9):R2:=λx y H Q=>rIxL K x y H Q\/rIxT K x y H Q\/rIxS x y H Q
theorem JY:Mu X (rIx X.K):=Gs.or<|JW.or JX
theorem xq(its:List b7)(n j:Nat)(u:b7):L9 (·.setIfInBounds j u) { cls:=.type "list",data:=.seq its.toArray n }={ cls:=.type "list",data:=.seq (its.set j u).toArray n }:=by simp[L9]
theorem v4.lst(I:v4 X pins σ H s)(h:H p=a7 (.lst xs)):∃(its:List b7) (n:Nat),az xs its/\s.heap.get? p=a7 { cls:=.type "list",data:=.seq its.toArray n }/\xs.length<=sizeLine:=by obtain⟨z,its,n,r,e⟩:=I.hok p _ h;exact⟨its,n,r,e,z⟩
theorem v4.lstUpd{pins:List (c8×c9)}{σ:St}{H:Hp}{s:e8}{p:c8}{xs ys:List V}{its its':List b7}{n a:Nat}{f:c9->c9}(I:v4 X pins σ H s)(h:H p=a7 (.lst xs))(B:s.heap.get? p=a7 { cls:=.type "list",data:=.seq its.toArray n }) (c:f { cls:=.type "list",data:=.seq its.toArray n }={ cls:=.type "list",data:=.seq its'.toArray a }) (r:az ys its') (hz:ys.length<=sizeLine) (t:Nat):v4 X pins σ (A2 H p<|.lst ys) { s with heap:=s.heap.update p f,toks:=t }:=by
 have e:(s.heap.update p f).get? p=a7 { cls:=.type "list",data:=.seq its'.toArray a }:=by rw[LO f B (by rw[c]<;>rfl),c]
 refine I.write (x:=p) (e:=p) (by rw[h];trivial) (.inl rfl) (λb u d q=>(OW _ _<|A7 d).trans q) ⟨_,e⟩ ?_;exact⟨hz,its',a,r,e⟩
def rSetL:V->V->V->Hp->(Hp->Prop)->Prop:=λo i v H Q=>∃p xs k j,o=.ref p/\i=.int k/\H p=a7 (.lst xs)/\MV xs.length k=a7 j/\Q (A2 H p<|.lst<|xs.set j v)
theorem BW:PSet X rSetL:=by
 intro a s σ H o i v A y u Q I m l w h;obtain⟨p,xs,k,j,rfl,rfl,hp,L,q⟩:=h;cases m;obtain⟨t,rfl⟩:=l;obtain⟨its,n,r,B,z⟩:=I.lst hp;obtain⟨h1,h2,e,f⟩:=Ak L;have g:=r.length;have x:=nX;have c:v4 X a σ (A2 H p<|.lst<|xs.set j v) { s with heap:=s.heap.update p (L9 (·.setIfInBounds j u)) }:=I.lstUpd hp B (xq its n j u) (r.set w j) (by rw[Nv];exact z) s.toks;by_cases d:0<=k;have b:k.toNat=j:=by rw[seqIndex_of d f]at h1;exact D0 h1
 exact PySem.W.ki_setAt B d (by lia) (by rw[C8,<-g];exact f) (by rw[b];exact⟨_,c,q⟩);have b:(k+(its.toArray.size:Int)).toNat=j:=by rw[seqIndex_neg (by lia) e]at h1;rw[C8,<-g];exact D0 h1
 exact PySem.W.ki_setBack B (by lia) (by rw[C8,<-g];exact e) (by lia)<|by rw[b];exact⟨_,c,q⟩
theorem rC(lo hi:Option Int)(n:Nat):(m8 lo hi a8 n).1=((HT.sIx n 0 lo:Nat):Int)/\(m8 lo hi a8 n).2.1=((HT.sIx n n hi:Nat):Int)/\(m8 lo hi a8 n).2.2=1:=by
 refine⟨?_,?_,rfl⟩;cases lo with
 |none=>simp[m8,HT.sIx]
 |some i=>simp only[m8,HT.sIx,Option.getD_none,show (1:Int) > 0 by decide,u5];by_cases h:i<0;simp only[h,u5]<;>lia;simp only[h,u4]<;>lia
 cases hi with
 |none=>simp[m8,HT.sIx]
 |some i=>simp only[m8,HT.sIx,Option.getD_none,show (1:Int) > 0 by decide,u5];by_cases h:i<0;simp only[h,u5]<;>lia;simp only[h,u4]<;>lia
theorem oK(its:List b7)(lo hi:Option Int):slicePick its.toArray lo hi a8=((its.drop<|HT.sIx its.length 0 lo).take<|HT.sIx its.length its.length hi-HT.sIx its.length 0 lo).toArray:=by obtain⟨h1,h2,a⟩:=rC lo hi its.toArray.size;unfold slicePick;rw[h1,h2,a];simp only[sliceRange_one,pick_run,C8]<;>rfl
def rSlL(K:v9):V->Option Int->Option Int->Hp->VK->Prop:=λx l hi H Q=>∃a xs,x=.ref a/\J7 K H a xs/\∀p,H p=a8->Q (.ref p) (A2 H p<|.lst<|EC xs l hi)
theorem EU:Pc X (rSlL X.K):=by intro p s σ H x v f i l hi m Q I g hs d u h;obtain⟨a,xs,rfl,c,q⟩:=h;cases g;obtain⟨its,r,D,z⟩:=I.list c;have n:=r.length;refine⟨"list",_,slot_list_getitem.lookup,D.isList.typeIs,?_⟩;refine wpAny_getItem_list_slice D.isList hs d u .none (by simp) ?_ (by rw[C8]<;>lia);rw[oK,<-n];refine⟨.ref s.heap.objs.size,_,I.laid (t':=s.toks) (o:=.lst<|EC xs l hi) (λb e q=>A3 _ q) (x9 _) ?_,rfl,q _<|I.hok.fresh<|x9 _⟩;exact⟨K3 (mB xs l hi) z,_,0,(r.drop<|HT.sIx xs.length 0 l).take<|HT.sIx xs.length xs.length hi-HT.sIx xs.length 0 l,C7 _ rfl⟩
theorem sX:dU X (.builtin "len") (λxs H Q=>∃p ys,xs=[.ref p]/\(J7 X.K H p ys\/C5 X.K H p ys)/\Q (.int ys.length) H):=by intro b s σ H xs us Q I r h;obtain⟨p,ys,rfl,a,q⟩:=h;obtain⟨u,rfl,g⟩:=BG r;cases g;have f:=nX;rcases a with a|a;obtain⟨its,r',l,z⟩:=I.list a;have n:=r'.length;exact Calls.call_len_list l.isList (by simp only[C8]<;>lia) ⟨.int ys.length,H,I.tok _,⟨s.toks+1,by rw[C8,n]⟩,q⟩;obtain⟨its,r',l,z⟩:=I.tuple a;have n:=r'.length;exact len_tuple l (by simp only[C8]<;>lia) ⟨.int ys.length,H,I.tok _,⟨s.toks+1,by rw[C8,n]⟩,q⟩
theorem sW:dU X (.builtin "len") (λxs H Q=>∃z,xs=[.str z]/\z.length<=sizeLine/\Q (.int z.length) H):=by intro p s σ H xs us Q I r h;obtain⟨z,rfl,b,q⟩:=h;obtain⟨u,rfl,t,rfl⟩:=BG r;have f:=nX;exact len_str (by lia) ⟨.int z.length,H,I.tok _,⟨_,rfl⟩,q⟩
theorem dU.or(h:dU X f r)(h':dU X f r'):dU X f (λxs H Q=>r xs H Q\/r' xs H Q):=by intro p s σ H xs us Q I a q;rcases q with q|q;exact h p s σ H xs us Q I a q;exact h' p s σ H xs us Q I a q
theorem sV:dU X (.type "list") (λxs H Q=>∃p ys,xs=[.ref p]/\(J7 X.K H p ys\/C5 X.K H p ys)/\∀l,H l=a8->Q (.ref l) (A2 H l<|.lst ys)):=by
 intro d s σ H xs us Q I r h;obtain⟨p,ys,rfl,c,q⟩:=h;obtain⟨u,rfl,x⟩:=BG r;cases x;have f:∀(its:List b7),az ys its->ys.length<=sizeLine->∀(h':d5) (U:Nat),(∀b o',s.heap.get? b=a7 o'->h'.get? b=a7 o') -> h'.get? s.heap.objs.size=a7 { cls:=.type "list",dict:=a8,data:=.seq its.toArray U,slots:=#[] }->EP X d σ Q (.ref s.heap.objs.size) { s with heap:=h' }:=λits r' z h' U k e =>
  ⟨.ref s.heap.objs.size,_,I.laid (t':=s.toks) k (x9 _)<|show bx X.prog X.w _ h' _ (.lst ys)from⟨z,its,U,r',e⟩,rfl,q _<|I.hok.fresh<|x9 _⟩
 rcases c with c|c;obtain⟨its,r',j,z⟩:=I.list c;have a:=r'.length;obtain⟨o,B,g,n,i⟩:=j.isList;exact call_list_seq p (.inl rfl) B g i (λh' U k e=>f its r' z h' U k e) (by simp only[C8]<;>lia);obtain⟨its,r',j,z⟩:=I.tuple c;have a:=r'.length;obtain⟨o,B,g,n,i⟩:=j;exact call_list_seq p (.inr rfl) B g i (λh' U k e=>f its r' z h' U k e)<|by simp only[C8]<;>lia
theorem pN:dU X (.type "tuple") (λxs H Q=>∃p ys,xs=[.ref p]/\((J7 X.K H p ys/\∀l,H l=a8->Q (.ref l) (A2 H l<|.tup ys))\/(C5 X.K H p ys/\Q (.ref p) H))):=by
 intro a s σ H xs us Q I r h;obtain⟨p,ys,rfl,h⟩:=h;obtain⟨u,rfl,x⟩:=BG r;cases x;rcases h with⟨c,q⟩|⟨c,q⟩
 obtain⟨its,r',d,z⟩:=I.list c;have n:=r'.length;refine call_tuple_list d.isList (λh' k=>?_) (by simp only[C8]<;>lia);have f:v4 X a σ H { s with heap:=h' }:=I.kept (t':=s.toks) k;have g:v4 X a σ (A2 H h'.objs.size<|.tup ys) { s with heap:=h'.push { cls:=.type "tuple",data:=.seq its.toArray } }:=f.laid (t':=s.toks) (λb o e=>A3 _ e) (x9 _)<|show bx X.prog X.w _ _ _ (.tup ys)from⟨z,its,r',Ed.new _ _⟩;exact⟨.ref h'.objs.size,_,g,rfl,q _<|f.hok.fresh<|x9 _⟩;obtain⟨its,r',d,z⟩:=I.tuple c;exact call_tuple_same d ⟨.ref p,H,I,rfl,q⟩
def RK(K:v9)(T:String)(x:V)(H:Hp):Prop:=match x with
 |.str _=>T = "str"
 |.int _=>T = "int"
 |.ref p=>(T = "list"/\∃xs,J7 K H p xs)\/(T = "tuple"/\∃o,K.lookup p=a7 o/\o.cls=.type "tuple"/\o.dict=a8) \/(T = "dict"/\((∃kvs,H p=a7 (.dK kvs))\/∃kvs,H p=a7 (.dT kvs)))\/(T = "set"/\∃S n,H p=a7 (.set S n))
 |_=>False
theorem HN(I:v4 X pins σ H s)(r:aL x v)(y:RK X.K T x H):s.TypeIs v T/\∀a,v=.ref a->∃ob,s.heap.get? a=a7 ob/\ob.dict=a8:=by
 cases x with
 |str z=>obtain⟨t,rfl⟩:=r;cases (show T = "str" from y);exact⟨typeIs_str s z t,λ_ e=>nomatch e⟩
 |int i=>obtain⟨t,rfl⟩:=r;cases (show T = "int" from y);exact⟨typeIs_int s i t,λ_ e=>nomatch e⟩
 |ref p =>
  cases r;rcases y with⟨rfl,xs,q⟩|⟨rfl,o,k,h,d⟩|⟨rfl,k⟩|⟨rfl,S,n,k⟩
  obtain⟨its,_,f,_⟩:=I.list q;refine⟨f.isList.typeIs,λa e=>?_⟩;cases e;obtain⟨o,n,e,c,d,_⟩:=f;exact⟨o,e,d⟩;refine⟨⟨o,I.kIn p o k,h⟩,λa e=>?_⟩;cases e;exact⟨o,I.kIn _ o k,d⟩;have z:∃o,s.heap.get? p=a7 o/\o.ExactDict:=by
   rcases k with⟨kvs,k⟩|⟨kvs,k⟩
   obtain⟨_,_,_,_,o,_,_,e,b,_⟩:=I.hok p _ k;exact⟨o,e,b⟩;obtain⟨_,_,_,_,o,_,_,e,b,_⟩:=I.hok p _ k;exact⟨o,e,b⟩
  obtain⟨o,e,b⟩:=z;refine⟨⟨o,e,b.1⟩,λa l=>?_⟩;cases l;exact⟨o,e,b.2.1⟩;obtain⟨o,_,_,_,e,b,_⟩:=I.hok p _ k;refine⟨⟨o,e,b.1⟩,λa l=>?_⟩;cases l;exact⟨o,e,b.2.1⟩
 |_=>exact J2 y
def tBM(K:v9)(T:String)(r:V->List V->Hp->VK->Prop)(d:TE)(t:TA):TE:=λσ H Q=>d σ H λx H1=>RK K T x H1/\t σ H1 λxs a=>r x xs a Q
variable{o e:f9}{es:List f9}{to:TE}{t:TA}{name:c5}{apos cpos:i0}{T id:String}{r:V->List V->Hp->VK->Prop}
theorem IP(l:PlainAttrs T)(slot:Slot T name id)(y:m9 (.builtin id)=pure (.type "method_descriptor"))(k:Mt X id r)(B:PE X o to)(j:PA X (e::es) t)(b:n0 o name X.env (eval o X.env)=eval o X.env:=by rfl)(w:((i3 cpos<|i4 (e::es) X.env).all (λx=>!x.1)&&(n5 cpos<|n6 [] X.env).all (λx=>x.1.isSome) && decide ((e::es).length+([]:List m3).length+(if ([]:List m3).isEmpty then 0 else 1)<30))=a9:=by rfl)(c:(apos.endLine==cpos.line)=a9:=by rfl) (hs:i4 (e::es) X.env=(bt,eval e X.env)::i4 es X.env:=by rfl) (n:(i3 cpos<|i4 es X.env).any (·.1)=bt:=by rfl):PE X (.Call (.Attribute o name apos) (e::es) [] cpos) (tBM X.K T r to t):=by intro p s σ H Q I h;refine QM b w c rfl<|A1 (B p s σ H _ I h) ?_;rintro v C ⟨x,H1,d,f,E,q⟩;obtain⟨h1,h2⟩:=HN d f E;refine⟨T,id,l,slot,y,h1,h2,?_⟩;have A:=j cpos p C σ H1 _ d q;rw[hs]at A ⊢;refine PR (by show (bt||(i3 cpos<|i4 es X.env).any (·.1))=bt;rw[n]<;>rfl)<|PN ?_;refine A1 A ?_;rintro us D ⟨vs,g,i,z,u⟩;exact k p D σ g x vs v us Q i f z u
/- xs.append(e),list.index on a module's tuple .. are Mt facts of 06m -/
end
def MtM(X:Cx)(id:String)(r:V->List V->Hp->VK->Prop):Prop:=∀(p:List (c8×c9)) (s:e8) (σ:St) (H:Hp) (x:V) (xs:List V) (v:b7) (us:List b7) (Q:VK),v4 X p σ H s->aL x v->az xs us->r x xs H Q ->f8 (ge X.prog X.w) X.A (call (.builtin id)<|v::us) (EP X p σ Q) X.xe s
theorem az.one(h:az [x] us):∃u,us=[u]/\aL x u:=by
 cases h with
 |cons r t=>cases t;exact⟨_,rfl,r⟩
theorem az.two(h:az [x,y] us):∃u v,us=[u,v]/\aL x u/\aL y v:=by
 cases h with
 |cons r t=>obtain⟨v,e,q⟩:=az.one t;subst e;exact⟨_,v,rfl,r,q⟩
section
variable{X:Cx}{pins:List (c8×c9)}{σ:St}{H:Hp}{s:e8}{l b:c8}{xs ys zs:List V}
theorem v4.lset{its its':List b7}{n:Nat}{f:Array b7->Array b7}{t':Nat}(I:v4 X pins σ H s)(h:H l=a7 (.lst xs))(e:s.heap.get? l=a7 { cls:=.type "list",data:=.seq its.toArray n }) (a:f its.toArray=its'.toArray) (c:az ys its') (hz:ys.length<=sizeLine):v4 X pins σ (A2 H l<|.lst ys) { s with heap:=s.heap.update l<|L9 f,toks:=t' }:=by have q:=PySem.IsL.update e f;rw[a]at q;refine I.write (x:=l) (e:=l) (by rw[h];exact trivial) (.inl rfl) (λb u d g=>(OW s.heap (L9 f)<|A7 d).trans g) ⟨_,q⟩ ?_;exact⟨hz,its',_,c,q⟩
theorem v4.lnew(I:v4 X pins σ H s)(c:az ys its)(hz:ys.length<=sizeLine):v4 X pins σ (A2 H s.heap.objs.size<|.lst ys) { s with heap:=s.heap.push { cls:=.type "list",data:=.seq its.toArray },toks:=t' }:=I.laid (λ_ _ q=>A3 _ q) (x9 _) ⟨hz,its,0,c,C7 _ rfl⟩
theorem v4.fresh(I:v4 X pins σ H s):H s.heap.objs.size=a8:=I.hok.fresh<|x9 _
theorem v4.lstM(I:v4 X pins σ H s)(h:H l=a7 (.lst xs)):xs.length<=sizeLine/\∃(its:List b7) (n:Nat),az xs its/\xs.length=its.length/\s.heap.get? l=a7 { cls:=.type "list",data:=.seq its.toArray n }:=by obtain⟨z,its,n,r,e⟩:=I.hok l _ h;exact⟨z,its,n,r,r.length,e⟩
end
section
variable{X:Cx}
def EZ:V->List V->Hp->VK->Prop:=λx vs H Q=>∃l xs y,x=.ref l/\vs=[y]/\H l=a7 (.lst xs)/\xs.length<sizeLine/\Q .non (A2 H l<|.lst<|xs++[y])
theorem zG:MtM X "list.append" EZ:=by intro p s σ H x vs v us Q I g d h;obtain⟨l,xs,y,rfl,rfl,a,c,q⟩:=h;cases g;obtain⟨u,rfl,T⟩:=d.one;obtain⟨z,its,n,r,b,e⟩:=I.lstM a;refine call_meets F.slot_list_append ⟨_,e,rfl⟩ F.entry_list_append (F.args_list_append_2 _ _) (PySem.list_append l its.toArray n u<|by rw[C8];lia) ⟨e,?_⟩;refine⟨.non,_,I.lset (its':=its++[u]) a e (by simp) (r.append<|.cons T .nil) ?_,rfl,q⟩;rw[E3,LD];lia
def rCat:R2:=λx y H Q=>∃l b xs s,x=.ref l/\y=.ref b/\H l=a7 (.lst xs)/\H b=a7 (.lst s)/\xs.length+s.length<=sizeLine/\∀p,H p=a8->Q (.ref p) (A2 H p<|.lst<|xs++s)
theorem IY:E8 X (j7 .Add) rCat:=by
 intro p s σ H x y v u Q I j k h;obtain⟨l,b,xs,A,rfl,rfl,d,hB,o,q⟩:=h;cases j;cases k;obtain⟨z,its,n,r,m,e⟩:=I.lstM d;obtain⟨w,i,t,g,f,a⟩:=I.lstM hB;refine PySem.P.add_list e a ?_ (by rw[C8,C8];lia);have c:its.toArray++i.toArray=(its++i).toArray:=by simp
 rw[c];exact⟨.ref _,_,I.lnew (t':=s.toks) (r.append g) (by rw[E3];lia),rfl,q _ I.fresh⟩
end
end L2
namespace Att
open PySem PySem.W PySem.Calls PyProof.Rows
theorem mj:∀(ns:List Int) (vs:List b7),WellAll P h vs (ns.map WData.int)->IntsAre vs ns:=by
 intro ns;induction ns with
 |nil=>intro vs w;rw[Pk]at w;cases w;exact .nil
 |cons n ns i =>
  intro vs w;rw[D7]at w;cases w with
  |cons a b=>cases a;exact .cons _ _<|i _ b
theorem zb{l:OpenLaw}{n:Nat}(o:l.most=a7 n){P:Params}{h:d5}{args:List WData}{s:List b7}(e:l.row.toRowW.claim.pre args=a9) (i:WellAll P h s args):∃a vs ns,s=[F6 a]/\args=[WData.list<|ns.map WData.int]/\h.get? a=a7 { cls:=.type "list",data:=.seq vs.toArray }/\IntsAre vs ns/\ns.length<=n:=by
 have g:WShape.hasAll [] args [.list .int]=a9:=(pre_splitW e).1;have j:l.pre.holds [] { args:=args }=a9:=(pre_splitW e).2;obtain⟨d,r,rfl,h1,h2⟩:=hasAllW_cons g;obtain rfl:=hasAllW_nil h2;obtain⟨xs,rfl,m⟩:=hasW_list h1;obtain⟨ns,rfl⟩:=items_int m;have c:ns.length<=n:=by
  unfold OpenLaw.pre at j;have f:(WTm.not<|.lt (.lit<|.int (n:Int))<|.len<|.arg 0).holds [] { args:=[.list<|ns.map .int] }=a9:=by have f:=(holds_andW j).1;rw[o]at f;exact f
  have k:=condW_of f<|w_not<|w_lt w_lit<|w_len_list<|w_arg rfl;rw[x6]at k;refine Nat.le_of_not_lt λq=>?_;have p:(n:Int)<((ns.length:Nat):Int):=by lia
  first
   |(rw[dT_ p]at k;exact t8 k (by decide))
   |(simp at k;lia)
 cases i with
 |cons w t =>
  cases t;cases w with
  |list B b=>exact⟨_,_,ns,rfl,rfl,B,mj ns _ b,c⟩
theorem zg(l:OpenLaw)(args:List WData):l.row.toRowW.claim.post args (.bool a9) args=a9:=postW_of (r:=l.row.toRowW) (X:=(a9==a9))
  (show WShape.has [] (.bool a9) .bool=a9 by first|rfl|decide|simp[WShape.has,WShape.arms,WShape.armsAll])
  (show (WTm.eq .res<|.lit<|.bool a9).value [] { args:=args,res:=a7<|.bool a9,after:=args }=a7 (.bool<|a9==a9)from w_eq_bool (w_res rfl) w_lit) rfl
theorem attach_call{l:OpenLaw}{n:Nat}{q:c7}{e:List c5}{P:(c5->Option b7)->d5->Prop}{YP:c6->d5->Prop}{d:DefRec}(A:l.most=a7 n) (i:d.params.defaults=[])(c:∀(w:c6) (s₀ s₁:e8) (mg mb:c5->Option b7) (fa:c8) (o:c9) (pm cd doc:b7) (a:c8) (vs:List b7) (ns:List Int),Ground q e [] P w s₀ mg mb s₁.heap->YP w s₁.heap -> s₁.heap.get? fa=a7 o->o.data=.func (docDef d.name d.params d.body d.scope pm cd doc)->s₁.heap.CodeRec cd d.name->mg d.name=a7 (.ref fa) ->s₁.heap.get? a=a7 { cls:=.type "list",data:=.seq vs.toArray }->IntsAre vs ns->ns.length<=n->s₁.gens = #[] ->l7 (ge l.prog w) callerA (.call (.ref fa) ⟨[.ref a],[]⟩) (λr s'=>r=.ok (.ret<|.bool a9)/\OldK s₁.heap s'.heap/\s'.os=s₁.os/\f7 s'.gens) s₁):WalkO q e P YP l.row.toRowW d [] (λf vs=>PySem.call f vs):=by intro w s₀ s₁ mg mb G Y fa o pm cd doc T kV B u g D k R O v F b y E m x;obtain rfl:T=.none:=Dflts.none D i;obtain rfl:kV=.none:=Dflts.noKw D;obtain⟨a,vs,ns,rfl,rfl,j,s,h⟩:=zb A b m;refine enter_call<|Na (c w s₀ s₁ mg mb fa o pm cd doc a vs ns G Y B (fd_plain u) g k j s h R) λr s' C=>?_;obtain⟨rfl,h2,p,t⟩:=C;exact⟨.inl ⟨.bool a9,.bool a9,[],rfl,λ_=>rfl,.bool a9,zg l _,λ_=>⟨QA,λ_ z=>(nomatch z)⟩⟩,h2,p,t⟩
section
variable{prog:c7}{w:c6}{A:e7}{E:b7->e8->Prop}{s:e8}{K:Frag}
noncomputable def vZ(h:d5):d5:={ h with objs:=#[] }
theorem je(h:d5)(b:c8):(vZ h).get? b=a8:=by
 cases e:(vZ h).get? b with
 |none=>rfl
 |some o=>exact t8 (A5 e)<|NI _
noncomputable def ledger(h:d5)(L d:c8):List (c8×c9):=(E4 h.objs.size).filterMap λa=>if a=L\/a=d then a8 else(h.get? a).map λo=>(a,o)
theorem mem_ledger:(a,o)∈ledger h L d↔a≠L/\a≠d/\h.get? a=a7 o:=by unfold ledger;rw[QH];constructor;rintro⟨b,_,e⟩;split at e;cases e;rename_i c;obtain⟨o',B,f⟩:=MT.mp e;cases f;exact⟨λq=>c<|.inl q,λq=>c<|.inr q,B⟩;rintro⟨n1,n2,B⟩;refine⟨a,K6.mpr<|A5 B,?_⟩;rw[t7<|show ¬(a=L\/a=d)from λq=>q.elim n1 n2,B]<;>rfl
theorem news_ledger(b:d≠L)(B:h.get? d=a7 od):News (vZ h) L h ([]++(d,od)::ledger h L d):=by rintro⟨a,o⟩ hp;rcases A9.mp hp with e|hp;cases e;exact⟨B,b,je _ _⟩;obtain⟨n,c,e⟩:=mem_ledger.mp hp;exact⟨e,n,je _ _⟩
theorem fr_all(n:h.Ns L m):Fr (vZ h) L h m:=⟨n,λb o e=>(by rw[je]at e;cases e),D6 _⟩
end
end Att
namespace L2
open PySem PySem.Spec PyProof.Rows
theorem qg:∀{vs:List b7}{ns:List Int},IntsAre vs ns->az (ns.map V.int) vs
 |_,_,.nil=>.nil
 |_,_,.cons n t h=>.cons ⟨t,rfl⟩<|qg h
def Only(H:Hp):Prop:=∀b,H b=a8\/∃o xs,H b=a7 (.frz o<|.lst xs)
theorem CJ{P:c7}{w:c6}{K:v9}{mg mb:c5->Option b7}{CX:My}{k:Nat}{I a:c8}{R:k9}{x:c5}{sp:Sp}{s₁:e8}{vs:List b7}{ns:List Int}(O:K.In s₁.heap) (y:s₁.heap.Ns d8 mg) (c:s₁.heap.Ns builtinsNs mb) (J:∀x:c5,x≠"__name__"->mb x=d9 x) (t:s₁.heap.NoLimit) (hg:s₁.gens = #[])(D:s₁.heap.get? a=a7 { cls:=.type "list",data:=.seq vs.toArray }) (hi:IntsAre vs ns) (U:ns.length<=sizeLine) (hr:Room k callerA)(F:∀base:d5,K.In base->base.Ns d8 mg->FnOk P w K mg base CX k I R [x] sp) (j:∀(s:e8) (u:b7),BindsTo s R ⟨[u],[]⟩ [(x,u)])(M:∀H:Hp,Only H->J7 K H a (ns.map V.int)->sp [.ref a] H (λv _=>v=.bl a9) λ_ _ _=>False)(X:∀H e s',CX [] H s₁ (λ_ _ _=>False) e s'->False):l7 (ge P w) callerA (.call (.ref I) ⟨[.ref a],[]⟩) (λr s'=>r=.ok (.ret<|.bool a9)/\OldK s₁.heap s'.heap/\s'.os=s₁.os/\f7 s'.gens) s₁:=by
 have W:=qg hi;have C:=hi.length
 -- from an abstract heap in which nothing but the script may be tracked
 have i:∀H:Hp,Only H->J7 K H a (ns.map V.int)->E6 P w H s₁.heap->(∀b,H b≠a8->b=a)->(H a≠a8->K.lookup a=a8) -> l7 (ge P w) callerA (.call (.ref I) ⟨[.ref a],[]⟩) (λr s'=>r=.ok (.ret<|.bool a9)/\OldK s₁.heap s'.heap/\s'.os=s₁.os/\f7 s'.gens) s₁:=by
  intro H T hS A S hK;have f:∀{b:c8}{o:c9},s₁.heap.get? b=a7 o->H b=a8->(Dh s₁.heap H).get? b=a7 o:=λe n=>Dg e n;have N:∀{b:c8}{o:c9}{es:Array n9}{ep:Nat},s₁.heap.get? b=a7 o->o.data=.dict es ep->H b=a8:=λ{b o es ep} e d=>by
   cases q:H b with
   |none=>rfl
   |some u=>have E:b=a:=S b (by rw[q];simp);subst E;rw[D]at e;cases e;have Z:Data.seq vs.toArray _=Data.dict es ep:=d;cases Z
  have g:∀{b:c8}{m:c5->Option b7},s₁.heap.Ns b m->(Dh s₁.heap H).Ns b m:=λ{b m} ⟨o,es,ep,e,d,r⟩=>⟨o,es,ep,f e<|N e d,d,r⟩
  have p:K.In (Dh s₁.heap H):=λb o e=>f (O b o e) (by
   cases q:H b with
   |none=>rfl
   |some u=>have E:b=a:=S b (by rw[q];simp);subst E;rw[hK<|by rw[q];simp]at e;cases e)
  have hM:Mod K mg (Dh s₁.heap H):=⟨p,g y,⟨mb,g c,J⟩,let ⟨mc,h1,h2⟩:=t;⟨mc,g h1,h2⟩⟩
  have e0:Env0 P w K mg (Dh s₁.heap H) callerA [] s₁ H:=⟨rfl,hM,λb o e=>FF e,Nat.le_of_eq<|Aq _ _,trivial,λb c=>t8 (show b∈([]:List c8)from c) (by simp),A,.of_eq hg⟩
  refine Na ((F _ p<|g y).run callerA [] s₁ H ⟨[.ref a],[]⟩ [.ref a] [.ref a] _ _ hr e0 (j s₁<|.ref a) (.cons rfl .nil)<|M H T hS) λr s' h=>?_;cases r with
  |error e=>exact(X H e s' h).elim
  |ok fl =>
   cases fl with
   |next=>exact J2 h
   |brk=>exact J2 h
   |cont=>exact J2 h
   |ret u =>
    obtain⟨v,H',os,l,Y,B,r',q⟩:=h;have q':v=.bl a9:=q;subst q';obtain rfl:u=Nn a9:=r';refine⟨rfl,OldK.of_keep λb o e=>?_,os,l⟩;cases q:H b with
    |none=>exact Y.keep b o e q (by intro z;exact t8 (show b∈([]:List c8)from z)<|by simp)<|by simp
    |some u =>
     rcases T b with z|⟨ob,xs,z⟩
     rw[q]at z;cases z;have z2:=Y.frzs b ob _ z;obtain⟨Q,_⟩:=A b _ z;obtain⟨e2,_⟩:=B b _ z2;rw[e]at Q;cases Q;exact e2
 cases L:K.lookup a with
 |some o =>
  -- the script is one of the module's own objects
  have e:=O a o L;rw[D]at e;cases e;refine i (λ_=>a8) (λ_=>.inl rfl) (.inr ⟨_,vs.toArray,_,L,rfl,rfl,rfl,by rw[C8,C];exact U,by simpa using W⟩) (λb u z=>by have G:(a8:Option HO)=a7 u:=z;cases G) (λb z=>t8 rfl z) λz=>t8 rfl z
 |none=>refine i (λb=>if b=a then a7 (.frz { cls:=.type "list",data:=.seq vs.toArray }<|.lst<|ns.map V.int)else a8) (λb=>?_) (.inl<|.inr ⟨{ cls:=.type "list",data:=.seq vs.toArray },t6 rfl⟩) (λb u z=>?_) (λb z=>?_) λ_=>L;by_cases c:b=a;exact .inr ⟨_,_,t6 c⟩;exact .inl<|t7 c;by_cases c:b=a;have G:=(t6 c).symm.trans z;cases G;subst c;exact⟨D,by rw[x6];exact U,vs,_,W,D⟩;have G:=(t7 c).symm.trans z;cases G;by_cases c:b=a;exact c;exact t8 (t7 c) z
noncomputable abbrev KOf{K:v9}{h:d5}(_:K.In h):v9:=K
theorem walk_of{l:PySem.W.OpenLaw}{n k:Nat}{q:c7}{j:List c5}{P:(c5->Option b7)->d5->Prop}{YP:c6->d5->Prop}{d:DefRec}{K:Params->v9}{CX:c6->My}{sp:c6->Sp}{x:c5}(J:l.most=a7 n) (t:n<=sizeLine) (p:d.params.defaults=[]) (L:Room k callerA)(D:∀(w:c6) (h:d5),YP w h->(K w.params).In h)(F:∀(w:c6) (mg:c5->Option b7) (fa:c8) (h:d5),(K w.params).In h->h.Ns d8 mg->mg d.name=a7 (.ref fa) -> ∃fd:k9,(∀(s:e8) (u:b7),BindsTo s fd ⟨[u],[]⟩ [(x,u)]) /\∀base:d5,(K w.params).In base->base.Ns d8 mg->FnOk l.prog w (K w.params) mg base (CX w) k fa fd [x] (sp w))(z:∀(w:c6) (H:Hp) (a:c8) (ns:List Int),ns.length<=n->Only H->J7 (K w.params) H a (ns.map V.int)->sp w [.ref a] H (λv _=>v=.bl a9) λ_ _ _=>False)(X:∀(w:c6) (H:Hp) (s:e8) (e:b7) (s':e8),CX w [] H s (λ_ _ _=>False) e s'->False):PySem.W.WalkO q j P YP l.row.toRowW d [] (λf vs=>PySem.call f vs):=by refine Att.attach_call J p λw A s₁ mg mb fa o U M B a vs ns G Y Q N I r m i c R=>?_;have y:=D w _ Y;obtain⟨fd,E,C⟩:=F w mg fa _ y G.T.g r;exact CJ y G.T.g G.T.b G.T.builtins G.T.nolimit R m i (K3 c t) L C E (λH O S=>z w H a ns c O S) λH e s'=>X w H s₁ e s'
noncomputable def hW(s:i5):Arguments:=match s with
 |.FunctionDef _ a _ _ _ _ _ _ _ _=>a
 |_=>{ posonlyargs:=[],args:=[],vararg:=a8,kwonlyargs:=[],kw_defaults:=[],kwarg:=a8,defaults:=[] }
noncomputable def bB(s:i5):List i5:=match s with
 |.FunctionDef _ _ b _ _ _ _ _ _ _=>b
 |_=>[]
noncomputable def av(s:i5):f6:=match s with
 |.FunctionDef _ _ _ _ _ _ sc _ _ _=>sc
 |_=>{ kind:=.function,names:=[],isGenerator:=bt,isCoroutine:=bt }
abbrev K9:My:=λ_ _ _ _ _ _=>False
abbrev E0:XK:=λ_ _ _=>False
theorem pass0:wG K9 X E0:=λ_ _ _ _ _ _ _ h=>h.elim
structure MH(K:v9)(x qual:c5)(st:i5)(f:c8)(fd:k9):Prop where
 ex:∃(oc:b7) (od:Option c8) (kV doc pm:b7) (an:Option c8) (cdv ct:b7) (osl:Array (Option b7)),fd=M9 x qual (hW st) (bB st) (av st) .none kV doc pm an cdv ct/\K.lookup f=a7 ⟨oc,od,.func fd,osl⟩/\Pq K cdv qual=a9
 kp:Nt K (.ref f)=a9
section
variable{P:c7}{w:c6}{K:v9}{mg:c5->Option b7}{base:d5}
theorem MH.ok{x l:c5}{st:i5}{f:c8}{a:k9}{N ps:List c5}{k:Nat}{sp:Sp}(F:MH K x l st f a)(S:FnScope N ps (av st))(B:∀vs H Q E,sp vs H Q E->vs.length=ps.length)(y:∀(cdv:b7) (A:e7) (outer:List Env) (s:e8) (H:Hp) (vs:List V) (Q:VK) (E:XK),Room k (A.deeper<|b9 l (av st) s.heap.objs.size f cdv)->sp vs H Q E -> ∃t,Lw (pL K9 P w K mg base N l (av st) f cdv A outer s H E).nox (bB st) t/\t { nx:=λ_ H'=>Q .non H',rt:=Q } (start N vs) H):FnOk P w K mg base K9 (k+1) f a ps sp:=by obtain⟨c,j,kV,i,U,M,cdv,R,G,rfl,b,d⟩:=F.ex;refine Ks b d S B λA outer s H vs Q E r z=>?_;obtain⟨t,h,q⟩:=y cdv A outer s H vs Q E r z;exact⟨t,h.nox,q⟩
theorem MH.binds{x l:c5}{st:i5}{f:c8}{d:k9}{ps:List c5}(F:MH K x l st f d)(h:∀(kV doc pm:b7) (an:Option c8) (cdv ct:b7) (us:List b7),us.length=ps.length->bindArgs (M9 x l (hW st) (bB st) (av st) .none kV doc pm an cdv ct) ⟨us,[]⟩=pure (ps.zip us)):mX K d ps []:=by obtain⟨c,j,kV,doc,pm,an,cdv,ct,G,rfl,b,a⟩:=F.ex;exact .all<|h kV doc pm an cdv ct
theorem Kp{x q:c5}{st:i5}{f:c8}{o:b7}{j M:Option c8}{G:Array (Option b7)}{kV i U v R:b7}(l:K.lookup f=a7 ⟨o,j,.func<|M9 x q (hW st) (bB st) (av st) .none kV i U M v R,G⟩)(c:Pq K v q=a9) (k:Nt K (.ref f)=a9):MH K x q st f (M9 x q (hW st) (bB st) (av st) .none kV i U M v R):=⟨⟨o,j,kV,i,U,M,v,R,G,rfl,l,c⟩,k⟩
end
theorem aw(h:n<=1000):n<sizeLine:=Nat.lt_of_le_of_lt h<|by decide
section
variable{X:Cx}
theorem pv(i:Nat)(h:X.N[i]?=a7 x:=by rfl)(c:Od X.env.scope x:=by first|exact Or.inl rfl|exact Or.inr (Or.inl rfl)|exact Or.inr<|Or.inr rfl)(a:(x==("__debug__":c5))=bt:=by decide)(d:(x==("__classdict__":c5))=bt:=by decide):PE X (.Name x pos) (tVar i):=Ej h c a d
end
theorem bN{A B:Prop}(h:B):if bt=a9 then A else B:=by rw[t7 Nw];exact h
theorem bL{A B:Prop}(h:A):if a9=a9 then A else B:=by rw[t6 rfl];exact h
section
variable{κ:Type}[DecidableEq κ]
noncomputable def vk(kvs:List (κ×V))(k:κ):Option V:=(kvs.find? λv=>decide<|v.1=k).map (·.2)
noncomputable def putK(kvs:List (κ×V))(k:κ)(v:V):List (κ×V):=if (kvs.any λa=>decide<|a.1=k)=a9 then kvs.map (λa=>if a.1=k then(a.1,v)else a)else kvs++[(k,v)]
theorem vj{p:κ×V}{r:List (κ×V)}{k:κ}(e:p.1=k):vk (p::r) k=a7 p.2:=by simp[vk,Md,e]
theorem oE{p:κ×V}{r:List (κ×V)}{k:κ}(e:¬p.1=k):vk (p::r) k=vk r k:=by simp[vk,Md,e]
theorem KV.val{kvs:List (κ×V)}{vs:List (κ×b7)}(r:KV kvs vs)(k:κ):EF (vk kvs k) (valueAt vs k):=by
 unfold KV at r;induction r with
 |nil=>exact M7
 |@cons p q ps qs h t i =>
  obtain⟨h1,h2⟩:=h;by_cases e:p.1=k;have a:q.1=k:=h1.symm.trans e;have b:valueAt (q::qs) k=a7 q.2:=by simp[valueAt,Md,a]
  rw[vj e,b];exact h2;have a:¬q.1=k:=λz=>e<|h1.trans z;have b:valueAt (q::qs) k=valueAt qs k:=by simp[valueAt,Md,a]
  rw[oE e,b];exact i
theorem KV.any(r:KV kvs vs)(k:κ):(kvs.any λkv=>decide<|kv.1=k)=vs.any λkv=>decide (kv.1=k):=by
 unfold KV at r;induction r with
 |nil=>rfl
 |cons h t i=>rw[List.any_cons,List.any_cons,i,h.1]
theorem KV.repl(r:KV kvs vs)(k:κ)(a:aL y u):KV (kvs.map λkv=>if kv.1=k then(kv.1,y)else kv) (vs.map λkv=>if kv.1=k then(kv.1,u)else kv):=by
 unfold KV at r ⊢;induction r with
 |nil=>exact .nil
 |@cons p q ps qs h t i=>rw[D7,D7];refine .cons ?_ i;obtain⟨h1,h2⟩:=h;by_cases e:p.1=k;rw[t6 e,t6<|h1.symm.trans e];exact⟨h1,a⟩;rw[t7 e,t7<|λz=>e<|h1.trans z];exact⟨h1,h2⟩
theorem KV.put(r:KV kvs vs)(k:κ)(i:aL y u):KV (putK kvs k y) (stored vs k u):=by unfold putK stored;rw[r.any k];by_cases e:(vs.any λv=>decide<|v.1=k)=a9;rw[t6 e,t6 e];exact r.repl k i;rw[t7 e,t7 e];exact Paired.snoc r ⟨rfl,i⟩
theorem KV.length(r:KV kvs vs):kvs.length=vs.length:=Paired.length r
end
theorem CW(r:aL (kV k) u):(bJ P w).is k u=a9:=by
 cases k with
 |inl i=>obtain⟨t,e⟩:=(show ∃t,u=Value.int i t from r);subst e;exact ur P w i t
 |inr x=>obtain⟨t,e⟩:=(show ∃t,u=Value.str x t from r);subst e;exact uo P w x t
theorem sH:∀{ks:List F3}{us:List b7},az (ks.map kV) us->ItemsAre (bJ P w) ks us
 | [],_,r=>by rw[Pk]at r;cases r;exact .nil
 |k::ks,_,r=>by
  rw[D7]at r;cases r with
  |cons h t=>exact .cons (CW h)<|sH t
abbrev KT(H:Hp):List (List F3×V)->List (List F3×c8×b7)->Prop:=Paired λp q=>p.1=q.1/\H q.2.1=a7 (.tup<|p.1.map kV)/\aL p.2 q.2.2
theorem KT.val{H:Hp}{kvs:List (List F3×V)}{xs:List (List F3×c8×b7)}(r:KT H kvs xs)(k:List F3):EF (vk kvs k) ((o0 xs k).map (·.2)):=by
 induction r with
 |nil=>exact M7
 |@cons p q ps qs h t i =>
  obtain⟨h1,_,h2⟩:=h;by_cases e:p.1=k;have a:q.1=k:=h1.symm.trans e;have b:o0 (q::qs) k=a7 q.2:=by simp[o0,Md,a]
  rw[vj e,b];exact h2;have a:¬q.1=k:=λz=>e<|h1.trans z;have b:o0 (q::qs) k=o0 qs k:=by simp[o0,Md,a]
  rw[oE e,b];exact i
section
variable{P:c7}{w:c6}{H:Hp}{h:d5}{a:c8}
theorem Iq(ok:E6 P w H h)(e:Rd H a u):bx P w H h a u:=e.ok ok
theorem GS(ok:E6 P w H h)(e:Rd H a (.dK kvs)):kvs.length<=sizeLine/\(a==d6)=bt/\∃vs,KV kvs vs/\h.DictOf (bJ P w) a vs:=show bx P w H h a (.dK kvs)from Iq ok e
theorem GT(ok:E6 P w H h)(e:H a=a7 (.dK kvs)):kvs.length<=sizeLine/\(a==d6)=bt/\∃vs,KV kvs vs/\h.DictOf (bJ P w) a vs:=GS ok<|.inl e
theorem Ez(ok:E6 P w H h)(e:H a=a7 (.tup<|ks.map kV)):(tupleKind<|bJ P w).is h ks a:=by
 obtain⟨_,its,r,o,h1,h2,⟨n,b⟩,_⟩:=(show bx P w H h a (.tup<|ks.map kV)from ok a _ e)
 exact⟨o,its.toArray,n,h1,h2,b,by simpa using sH r⟩
theorem Ky(ok:E6 P w H h)(e:Rd H a (.dT kvs)):kvs.length<=sizeLine/\(a==d6)=bt /\∃xs,KT H kvs xs/\h.DictOfH (tupleKind<|bJ P w) a xs:=by
 obtain⟨z,y,xs,r,o,es,i,h1,h2,f,g,k⟩:=(show bx P w H h a (.dT kvs)from Iq ok e)
 refine⟨z,y,xs,r,o,es,i,h1,h2,f,g,λx b=>?_,k⟩;have c:∀{l:List (List F3×V)}{m:List (List F3×c8×b7)},KT H l m->∀x∈m,(tupleKind<|bJ P w).is h x.1 x.2.1:=by
  intro l m q;induction q with
  |nil=>intro x b;exact nomatch b
  |@cons p q ps qs d t j=>intro x b;rcases A9.mp b with e|b;subst e;exact Ez ok (by rw[<-d.1];exact d.2.1);exact j x b
 exact c r x b
end
def DGet(H:Hp)(a:c8)(y:V)(r:Option V):Prop:=(∃kvs k,Rd H a (.dK kvs)/\y=kV k/\r=vk kvs k)\/∃kvs k b,Rd H a (.dT kvs)/\y=.ref b/\H b=a7 (.tup<|k.map kV)/\r=vk kvs k
section
variable{X:Cx}{pins:List (c8×c9)}{σ:St}{H:Hp}{s:e8}{a:c8}{y v:V}{u r:b7}{o:Option V}{A:e7}{E:b7->e8->Prop}
theorem v4.big(I:v4 X pins σ H s):d6<s.heap.objs.size:=by have h:d8<s.heap.objs.size:=(I.mod.glob.keeps I.bk).lt;exact Nat.lt_trans (by decide) h
theorem AR(q:A.units+1<k7)(I:v4 X pins σ H s)(g:DGet H a y (a7 v))(m:aL y u)(h:∀w' s',v4 X pins σ H s'->aL v w'->Q w' s'):f8 (ge X.prog X.w) A (m7 (.ref a) u) Q E s:=by
 rcases g with⟨kvs,k,e,f,l⟩|⟨kvs,k,b,e,f,M,l⟩
 subst f;obtain⟨z,n,vs,r,d⟩:=GS I.hok e;obtain⟨w',j,c⟩:=EF.some_of (v:=v) (o:=valueAt vs k) (by rw[l];exact r.val k);exact wpAny_getItem_of (CW m) d.mapOf j<|h w' _ (I.tok _) c;subst f;cases (show u=F6 b from m);obtain⟨z,n,xs,r,d⟩:=Ky I.hok e;obtain⟨w',j,c⟩:=EF.some_of (v:=v) (o:=(o0 xs k).map (·.2)) (by rw[l];exact r.val k);obtain⟨p,hp,i⟩:=MT.mp j;refine wpAny_getItem_heap (tupleKind_room_in1 q) (Ez I.hok M) d hp ?_;rw[i];exact h w' _ (I.tok _) c
theorem mw(I:v4 X pins σ H s)(m:Pf (H a))(hs:J3 a s.heap h')(i:∃q,h'.get? a=a7 q)(n:bx X.prog X.w (A2 H a ob) h' a ob):v4 X pins σ (A2 H a ob) { s with heap:=h',toks:=t' }:=I.write (x:=a) (e:=a) m (.inl rfl) (λb q d z=>(hs.2 b d).trans z) i n
theorem AH(z:kvs.length<=sizeLine)(d:(a==d6)=bt)(r:KV kvs vs)(dd:h'.DictOf (bJ P w) a vs):bx P w H' h' a (.dK kvs):=⟨z,d,vs,r,dd⟩
end
def EG(i:f9):Prop:=∀b a,subscripted i bt b a=operate [b,a] (m7 b a)
theorem yV{prog:c7}{w:c6}{A:e7}{E:b7->e8->Prop}{s:e8}{env:Env}{a e:f9}{pos:i0}{T id:String}{Q:b7->e8->Prop}(g:typeLookup (.type T) "__getitem__" = pure (a7<|.builtin id)) (hs:EG e)(h:f8 (ge prog w) A (eval a env) (λo s₁=>f8 (ge prog w) A (eval e env) (λi s₂=>s₂.TypeIs o T/\f8 (ge prog w) A (m7 o i) Q E s₂) E s₁) E s):f8 (ge prog w) A (eval (.Subscript a e pos) env) Q E s:=by
 refine Subscript_<|G4 h (λo s₁ d=>G4 d (λi s₂ b=>?_) λ_ _ x=>x) λ_ _ x=>x;obtain⟨m,b⟩:=b;unfold subscriptTail;refine u8 ?_;rw[getitemInPython_of_ne m.not_modules];refine u8<|NH m g ?_;have n:f8 (ge prog w) A (subscripted e bt o i) (λr c=>f8 (ge prog w) A (letTemporaryGo a o r >>= λ_=>pure r) Q E c) E s₂:=by rw[hs o i];exact wpAny_operating<|G4 b (λr c f=>u8<|wpAny_letTemporaryGo<|v5 f) λ_ _ x=>x
 first
  |exact v5 (u8 n)
  |exact u8 (v5 (u8 n))
  |exact u8 n
theorem uO(I:v4 X pins σ H s)(g:DGet H a y o):s.TypeIs (.ref a) "dict":=by
 rcases g with⟨kvs,k,e,_,_⟩|⟨kvs,k,b,e,_,_,_⟩
 obtain⟨_,_,vs,_,d⟩:=GS I.hok e;exact d.typeIs;obtain⟨_,_,xs,_,d⟩:=Ky I.hok e;exact d.typeIs
def tDGet(d t:TE):TE:=λσ H Q=>d σ H λx H1=>t σ H1 λy b=>∃a v,x=.ref a/\DGet b a y (a7 v)/\Q v b
section
variable{X:Cx}{o i e value:f9}{pos pos' tpos:i0}{td ty tv:TE}
theorem zj(k:X.A.units+1<k7)(B:PE X o td)(hi:PE X i ty)(hs:EG i):PE X (.Subscript o i pos) (tDGet td ty):=by intro p s σ H Q I h;refine yV PySem.F.slot_dict_getitem.lookup hs<|A1 (B p s σ H _ I h) ?_;rintro u n ⟨x,H1,e,r,q⟩;refine A1 (hi p n σ H1 _ e q) ?_;rintro t w ⟨y,c,d,m,a,v,j,g,l⟩;subst j;obtain rfl:u=F6 a:=r;exact⟨uO d g,AR k d g m λY z f b=>⟨v,c,f,b,l⟩⟩
end
theorem Dx(h:d5)(d:d6<h.objs.size):bx P w H (h.push { cls:=.type "dict",data:=.dict #[] }) h.objs.size (.dK []):=⟨D6 _,beq_eq_false_iff_ne.mpr<|A7<|A8 d,[],.nil,Heap.DictOf.new h⟩
def Ib:TE:=λ_ H Q=>∀p,H p=a8->Q (.ref p) (A2 H p<|.dK [])
section
variable{X:Cx}{pos:i0}
theorem Cj:PE X (.Dict [] [] pos) Ib:=λp s σ H Q I h =>
 wpAny_Dict_empty ⟨.ref s.heap.objs.size,_,I.laid (a:=s.heap.objs.size) (o:=.dK []) (t':=s.toks) (λ_ _ q=>A3 _ q) (x9 _)<|Dx s.heap I.big,rfl,h _<|I.hok.fresh<|x9 _⟩
end
end L2
namespace DL
open PySem
theorem ic(env:Env):∀(names:List (c5×m5)) (acc:List (c5×c8)),(∀p∈names,p.2=Mb->∃c,env.cells.lookup p.1=a7 c) ->∃cl,(forIn (m:=Sem) names acc λ(p:c5×m5) (r:List (c5×c8)) =>
    if (p.2==Mb)=a9 then(do let a <-cellOf env p.1;pure (Qo<|(p.1,a)::r))else pure (Qo r))=pure cl /\
   (∀z c,cl.lookup z=a7 c->acc.lookup z=a7 c\/env.cells.lookup z=a7 c) /\
   (∀z c,acc.lookup z=a7 c->∃c',cl.lookup z=a7 c') /\
   (∀p∈names,p.2=Mb->∃c,cl.lookup p.1=a7 c)
 | [],acc,_=>⟨acc,rfl,λ_ _ h=>.inl h,λz c h=>⟨c,h⟩,λ_ h=>nomatch h⟩
 |(n,k)::aM,acc,hyp=>by
  by_cases hk:k=Mb;subst hk;obtain⟨c0,hc0⟩:=hyp (n,.free) F5 rfl;obtain⟨cl,e,h1,h2,h3⟩:=ic env aM ((n,c0)::acc) λp hp=>hyp p<|D4 _ hp;have ce:cellOf env n=pure c0:=by unfold cellOf;rw[hc0]
  have own:∃c',cl.lookup n=a7 c':=h2 n c0 (by simp[NK]);refine⟨cl,?_,λz c hz=>?_,λz c hz=>?_,λp hp hf=>?_⟩;rw[Pu];simp only[u7,u5,ce,pure_bind];exact e;rcases h1 z c hz with q|q;rw[NK]at q;by_cases hz':(z==n)=a9;rw[hz']at q;have:z=n:=by simpa using hz'
  subst this;cases q;exact .inr hc0;have hz'':(z==n)=bt:=by simpa using hz'
  rw[hz'']at q;exact .inl q;exact .inr q;by_cases hz':z=n;subst hz';exact own;refine h2 z c ?_;rw[NK];have hz'':(z==n)=bt:=by simpa using hz'
  rw[hz''];exact hz;rcases A9.mp hp with rfl|hp;exact own;exact h3 p hp hf;have hb:(k==Mb)=bt:=by simpa using hk
  obtain⟨cl,e,h1,h2,h3⟩:=ic env aM acc λp hp=>hyp p<|D4 _ hp;refine⟨cl,?_,h1,h2,λp hp hf=>?_⟩;rw[Pu];simp only[hb,C4,u4,pure_bind];exact e;rcases A9.mp hp with rfl|hp;exact t8 hf hk;exact h3 p hp hf
theorem jQ(h:∀p∈scope.names,p.2=Mb->∃c,env.cells.lookup p.1=a7 c):∃cl,closureFor scope env=pure cl/\(∀z c,cl.lookup z=a7 c->env.cells.lookup z=a7 c)/\(∀p∈scope.names,p.2=Mb->∃c,cl.lookup p.1=a7 c):=by obtain⟨cl,e,h1,h2,a⟩:=ic env scope.names [] h;refine⟨cl,?_,λz c b=>?_,a⟩;unfold closureFor;simp only[bind_pure];exact e;rcases h1 z c b with q|q;simp at q;exact q
theorem fu{env:Env}:∀{names:List (c5×m5)}{x:c5}{k:m5},(names.map λ(p:c5×m5)=>if (p.2==Mb&&env.scope.kind==.function&&env.kindOf p.1==a7 .cell)=a9 then(p.1,NV)else(p.1,p.2)).lookup x=a7 k ->(names.lookup x=a7 k\/(k=NV/\names.lookup x=a7 .free))
 | [],_,_,h=>by simp at h
 |(n,j)::aM,x,k,h=>by
  have ih:=@fu env aM x k;rw[D7,NK]at h;by_cases hx:(x==n)=a9;have hl:List.lookup x ((n,j)::aM)=a7 j:=by rw[NK,hx]
  rw[hl];by_cases hc:(j==Mb&&env.scope.kind==.function&&env.kindOf n==a7 .cell)=a9;simp only[hc,u5,hx]at h;cases h;have:j=Mb:=by simp only[G7]at hc;simpa using hc.1.1
  exact .inr ⟨rfl,by rw[this]⟩;simp only[hc,C4,u4,hx]at h;exact .inl h;have hx':(x==n)=bt:=by simpa using hx
  have hl:List.lookup x ((n,j)::aM)=List.lookup x aM:=by rw[NK,hx']
  rw[hl];refine ih ?_;by_cases hc:(j==Mb&&env.scope.kind==.function&&env.kindOf n==a7 .cell)=a9;simp only[hc,u5,hx']at h;exact h;simp only[hc,C4,u4,hx']at h;exact h
section
variable{prog:c7}{w:c6}{A:e7}{R:Result->e8->Prop}{s:e8}
theorem oG(s:List f9)(env:Env):compTests s env =
  (forIn s a9 λc r=>if r=a9 then do let ok <-isTrue c env (eval c env);pure (Qo ok)else pure (Qo r)):=by unfold compTests;simp only[bind_pure]
theorem xP(J:Nat->e8->Prop)(F:b7->e8->Prop)(b:∀e s',F e s'->notedBy (ge prog w) A env (λe s'=>R (.error e) s') e s')(L:∀n s,J n s->f8 (ge prog w) A (j0 it) (λr s1=>match r with
   |none=>R (.ok .next) s1
   |some v=>f8 (ge prog w) A (j3 target it v) (λ_ s2=>f8 (ge prog w) A (i8 target env v) (λ_ s3 =>
     f8 (ge prog w) A (compTests ifs env) (λok s4 =>
      if ok=a9 then f8 (ge prog w) A (eval elt env) (λy s5=>f8 (ge prog w) A (call (.builtin "list.append") [acc,y]) (λ_ s6=>∃m,m<n/\J m s6) F s5) F s4
      else ∃m,m<n/\J m s4) F s3) F s2) F s1) F s)
  (n:Nat) (h:J n s):l7 (ge prog w) A (.compLoop (.ListComp elt [⟨target,iter,ifs,0⟩] scope pos) 0 it acc env) R s:=by
 refine codeAny_loop rfl J (λn s f=>?_) n h;show f8 _ A ((compTurn (.ListComp elt [⟨target,iter,ifs,0⟩] scope pos) 0 it acc env).onRaise<|λx=>do noteFrame x env;theTreesLotGoes x) _ _ s;refine wpAny_noted ?_;rw[compTurn_list];refine u8<|wpAny_standAt<|u8<|G4 (L n s f) (λr s1 h1=>?_) b;cases r with
 |none=>exact v5 h1
 |some v =>
  refine u8<|G4 h1 (λ_ s2 h2=>?_) b;refine u8<|G4 h2 (λ_ s3 a=>?_) b;rw[oG]at a;refine u8<|G4 a (λok s4 d=>?_) b;cases ok with
  |false=>exact v5 ⟨rfl,d⟩
  |true=>exact u8<|u8<|G4 d (λy s5 k=>u8<|G4 k (λ_ s6 c=>v5<|v5 ⟨rfl,c⟩) b) b
end
end DL
namespace L2
open PySem PySem.Spec PyProof.Rows DL
theorem jK{env:Env}:∀{names:List (c5×m5)}{x:c5},names.lookup x=a7 .free ->((names.map λ(p:c5×m5)=>if (p.2==Mb&&env.scope.kind==.function&&env.kindOf p.1==a7 .cell)=a9 then(p.1,NV)else(p.1,p.2)).lookup x=a7 .cell \/ (names.map λ(p:c5×m5)=>if (p.2==Mb&&env.scope.kind==.function&&env.kindOf p.1==a7 .cell)=a9 then(p.1,NV)else(p.1,p.2)).lookup x=a7 .free)
 | [],_,h=>by simp at h
 |(n,j)::aM,x,h=>by
  have ih:=@jK env aM x;rw[D7,NK];rw[NK]at h;by_cases hc:(j==Mb&&env.scope.kind==.function&&env.kindOf n==a7 .cell)=a9;by_cases hx:(x==n)=a9;simp[hc,hx];have hx':(x==n)=bt:=by simpa using hx
  rw[hx']at h;simp only[hc,u5,hx'];exact ih h;by_cases hx:(x==n)=a9;rw[hx]at h;cases h;right;simp only[hc,C4,u4,hx];have hx':(x==n)=bt:=by simpa using hx
  rw[hx']at h;simp only[hc,C4,u4,hx'];exact ih h
noncomputable def D5(X:Cx)(N':List c5)(scope:f6)(l:List (c5×c8))(s₀:e8)(H₀:Hp)(ex:List c8):Cx:={ X with N:=N',s₀:=s₀,H₀:=H₀,env:=compEnvC scope l s₀.heap.objs.size X.env,outer:=X.stack,ex:=ex,fn:=λx=>scope.names.lookup x==a7 .cell,pn:=[],xe:=λ_ _=>False }
structure BlkSc(X:Cx)(N':List c5)(nt:Nat)(js:List Nat)(scope:f6):Prop where
 kind:scope.kind=.function
 nocell:∀y∈scope.names,y.2≠.cell
 loc:∀y∈scope.names,y.2=.local->scope.names.lookup y.1=a7 .local
 free:∀y∈scope.names,y.2=.free->(X.env.kindOf y.1=a7 .cell\/X.env.kindOf y.1=a7 .free)
 len:N'.length=nt+js.length
 fr:∀(k j:Nat),js[k]?=a7 j->∃x,N'[nt+k]?=a7 x/\X.N[j]?=a7 x/\scope.names.lookup x=a7 .free/\(X.env.kindOf x=a7 .cell\/X.env.kindOf x=a7 .free)
noncomputable def bst(t:Nat)(s:List Nat)(σ:St):St:=NX t a8++s.map λj=>(σ[j]?).join
theorem Bi(t:Nat)(s:List Nat)(σ:St):(bst t s σ).length=t+s.length:=by simp[bst]
theorem Hl(h:(bst nt js σ)[i]?=a7 (a7 v)):∃k j,i=nt+k/\js[k]?=a7 j/\σ[j]?=a7 (a7 v):=by
 unfold bst at h;by_cases hi:i<nt;rw[LF (by simpa using hi),QR]at h;simp[hi]at h;rw[Mp (by simpa using Nm.mp hi),QK,E1]at h;cases e:js[i-nt]? with
 |none=>rw[e]at h;cases h
 |some j =>
  rw[e]at h;refine⟨i-nt,j,by lia,e,?_⟩;have h':(σ[j]?).join=a7 v:=by simpa using h
  cases q:σ[j]? with
  |none=>rw[q]at h';cases h'
  |some o=>rw[q]at h';exact u6 a7 h'
def Nk(X:Cx)(i:List f9)(t:TT):Prop:=∀(p:List (c8×c9)) (s:e8) (σ:St) (H:Hp) (Q:Bool->Hp->Prop),v4 X p σ H s->t σ H Q->f8 (ge X.prog X.w) X.A (compTests i X.env) (TP X p σ Q) X.xe s
def ttNil:TT:=λ_ H Q=>Q a9 H
theorem Fd:Nk X [] ttNil:=λp s σ H Q I h=>by rw[oG];exact wpAny_tests_nil ⟨H,I,h⟩
theorem Fc(h:PT X c t):Nk X [c] t:=λp s σ H Q I q=>by rw[oG];exact wpAny_tests_one<|h p s σ H Q I q
def Q6(t:Nat)(s:List Nat)(wi:TI)(g:TG)(tt:TT)(te:TE):TE:=λσ H Q=>wi σ H λJ H1=>∃W:Nat->Nat->List V->St->Hp->Prop,(∃m,W 0 m [] (bst t s σ) H1) /\∀i m vs τ H,W i m vs τ H->(J.stop i H/\∀p,H p=a8->Q (.ref p) (A2 H p<|.lst vs)) \/(J.go i H/\∀x H',J.yld i H x H'->g x τ H' λa e=>tt a e λb d=>if b=a9 then te a d λy f=>vs.length<sizeLine/\∃c,c < m/\W (i+1) c (vs++[y]) a f else ∃c,c < m/\W (i+1) c vs a d)
noncomputable abbrev cG(its:List b7)(k:Nat):c9:={ cls:=.type "list",data:=.seq its.toArray k }
section
variable{X:Cx}{pins:List (c8×c9)}{σ:St}{H:Hp}{s:e8}
theorem v4.blkOk(B:BlkSc X N' nt js scope)(I:v4 X pins σ H s)(a:∀z c,cl.lookup z=a7 c->X.env.cells.lookup z=a7 c) (f:∀p∈scope.names,p.2=Mb->∃c,cl.lookup p.1=a7 c) (i:∀b∈fp,wI X pins H b) (j:∀b∈fp,b<s.heap.objs.size):(D5 X N' scope cl { s with heap:=s.heap.push ob } H<|s.heap.objs.size::fp).Ok:=by
 have J:v4 X pins σ H { s with heap:=s.heap.push ob }:=I.kept (t':=s.toks) λb o e=>A3 _ e;have ltc:∀z c,cl.lookup z=a7 c->c<s.heap.objs.size:=λz c e=>by obtain⟨v,q⟩:=I.cell z c<|a z c e;exact q.lt
 have C:(s.heap.push ob).objs.size=s.heap.objs.size+1:=LJ ..;refine⟨I.ok.mod,B.kind,I.ok.glob,I.ok.blt,x9 _,λy z c h1 h2=>I.ok.inj y z c (a y c h1)<|a z c h2,λy Q=>?_,λy c h=>?_,I.ok.hd,I.ok.frames,.inl rfl,λb d=>?_,λb o e=>?_,?_,λb o e d=>?_,λb d=>?_,J.stack,I.stkFree⟩;have l:scope.names.lookup y=a7 .free:=by
  rcases Q with Q|Q;rcases fu (env:=X.env) (names:=scope.names) (x:=y) (k:=.cell) Q with q|⟨_,q⟩
  exact t8 rfl<|B.nocell _<|NL q;exact q;rcases fu (env:=X.env) (names:=scope.names) (x:=y) (k:=.free) Q with q|⟨q,_⟩
  exact q;cases q
 exact f (y,.free) (NL l) rfl;exact t8 rfl<|B.nocell _<|NL<|beq_iff_eq.mp<|show (scope.names.lookup y==a7 NV)=a9 from h;show b≠(s.heap.push ob).objs.size/\∀x c,cl.lookup x=a7 c->c≠b;rw[C];rcases A9.mp d with rfl|d;exact⟨A8<|Mf _,λx c e=>A8<|ltc x c e⟩;exact⟨A8<|N6<|j b d,λx c e=>(i b d).2.2.2.2.1 x c<|a x c e⟩;exact⟨A3 _ (I.bs b o e).1,(I.bs b o e).2⟩;show X.base.objs.size<=(s.heap.push ob).objs.size;rw[C];exact Nat.le_succ_of_le<|K3 I.ok.bsz I.sz;rcases A9.mp d with rfl|d;exact t8 (A5 (I.bs _ o e).1)<|J4 _;rcases(i b d).2.2.2.1 with z|z;exact I.ok.noex b o e z;exact t8 (J1 (A5 (I.ok.bs b o e).1) z)<|J4 _;intro m;have g:=I.stkSub b m;rcases A9.mp d with rfl|d;rcases A9.mp g with q|q;exact t8 I.lt (by rw[<-q];exact J4 _);exact I.nofs (x9 _) q;rcases A9.mp g with q|q;exact(i b d).2.1 q;exact(i b d).2.2.1 q
theorem v4.blkStart(B:BlkSc X N' nt js scope)(I:v4 X pins σ H s)(a:∀z c,cl.lookup z=a7 c->X.env.cells.lookup z=a7 c) (f:∀p∈scope.names,p.2=Mb->∃c,cl.lookup p.1=a7 c) (J:∀b∈fp,wI X pins H b) (m:∀b∈fp,b<s.heap.objs.size)(g:∀b o,(s.heap.push<|cG [] 0).get? b=a7 o->h1.get? b=a7 o) (K:h1.Ns (s.heap.push<|cG [] 0).objs.size mm):v4 (D5 X N' scope cl { s with heap:=s.heap.push (cG [] 0) } H<|s.heap.objs.size::fp) [(s.heap.objs.size,cG [] 0)] (bst nt js σ) H { s with heap:=h1,toks:=tk }:=by
 have d:∀b o,s.heap.get? b=a7 o->h1.get? b=a7 o:=λb o e=>g b o<|A3 _ e;have C:(s.heap.push<|cG [] 0).objs.size=s.heap.objs.size+1:=LJ ..;refine⟨I.blkOk B a f J m,rfl,I.bare,Un.kept g,⟨mm,K,λi x v D E S=>?_⟩,λx c e=>?_,?_,λx c e=>I.freeC x c<|a x c e,λp hp=>?_,I.hok.kept d,?_⟩;obtain⟨k,j,rfl,L,t⟩:=Hl E;obtain⟨R,P,Q,A,y⟩:=B.fr k j L;have F:x=R:=D0<|D.symm.trans P;subst F;obtain⟨V,M,n⟩:=I.loc;have w:Od X.env.scope x:=y.elim (λz=>.inr<|.inl z) λz=>.inr<|.inr z;obtain⟨u,r,h⟩:=n j x v Q t w;refine⟨u,r,?_⟩;rcases h with⟨q,_⟩|⟨q,c,G,l⟩
 rcases y with z|z<;>(rw[q]at z;cases z)
 obtain⟨U,O⟩:=f (x,.free) (NL A) rfl;have:U=c:=D0<|(a x U O).symm.trans G;subst this;exact .inr ⟨jK (env:=X.env) A,U,O,l.keeps d⟩;obtain⟨v,q⟩:=I.cell x c<|a x c e;exact⟨v,q.keeps d⟩;exact I.hok.fresh (by show s.heap.objs.size<=(s.heap.push<|cG [] 0).objs.size;rw[C];exact OF _);have e:p=(s.heap.objs.size,cG [] 0):=by simpa [D5]using hp
 subst e;refine⟨g _ _<|C7 _ rfl,I.hok.fresh<|x9 _,?_,?_,λv z=>by cases z⟩;show s.heap.objs.size≠(s.heap.push<|cG [] 0).objs.size;rw[C];exact A8<|Mf _;intro N;rcases A9.mp (I.stkSub _ N)with q|q;exact t8 I.lt (by rw[<-q];exact J4 _);exact I.nofs (x9 _) q;rw[Bi];exact B.len.symm
theorem v4.blkEnd(I:v4 X pins σ H s)(E:∀b∈fp,wI X pins H b)(t:v4 (D5 X N' scope cl { s with heap:=s.heap.push (cG [] 0) } H<|s.heap.objs.size::fp) [(s.heap.objs.size,cG its k)] τ H' s')(L:az vs its) (G:vs.length<=sizeLine) (U:J3 (s.heap.push<|cG [] 0).objs.size s'.heap h'):v4 X pins σ (A2 H' s.heap.objs.size<|.lst vs) { s' with heap:=h' }:=by
 have j:(s.heap.push<|cG [] 0).objs.size=s.heap.objs.size+1:=LJ ..;have C:s.heap.objs.size≠(s.heap.push<|cG [] 0).objs.size:=by rw[j];exact A8<|Mf _
 obtain⟨K,D,_⟩:=t.pin (s.heap.objs.size,cG its k) (by simp[D5]);have g:s'.heap.get? s.heap.objs.size=a7 (cG its k):=K;have f:H' s.heap.objs.size=a8:=D;have i:H' (s.heap.push<|cG [] 0).objs.size=a8:=t.free;have u:Un (frs X.stack) (s.heap.objs.size::fp) H H' (s.heap.push<|cG [] 0) s'.heap:=t.base;have F:∀b o,s.heap.get? b=a7 o->b≠s.heap.objs.size/\b≠(s.heap.push<|cG [] 0).objs.size:=λb o e=>by have:=A5 e;exact⟨A8 this,by rw[j];exact A8<|N6 this⟩
 have p:∀b o,s.heap.get? b=a7 o->(s.heap.push<|cG [] 0).get? b=a7 o:=λb o e=>A3 _ e;have a:∀b o,s.heap.get? b=a7 o->b∉fp->b∉s.heap.objs.size::fp:=λb o e x J=>by rcases A9.mp J with q|q;exact(F b o e).1 q;exact x q
 refine I.call' (s':={ s' with heap:=h' }) (ch:=fp) t.os ⟨λb o e n d x=>?_,λb o e n d x=>?_,λb o e n x=>?_,λb o e x=>?_,λb xs e=>?_,λb o w e=>?_,λb ps e=>?_⟩ (λb w q=>?_) t.bare λb d=>?_;exact(U.2 b (F b o e).2).trans<|u.keep b o (p b o e) n d<|a b o e x;obtain⟨M,z⟩:=u.slot b o (p b o e) n d<|a b o e x;exact⟨M,(U.2 b (F b o e).2).trans z⟩;rw[au (F b o e).1];exact u.free b o (p b o e) n<|a b o e x;obtain⟨o',z⟩:=u.there b o (p b o e)<|a b o e x;exact⟨o',(U.2 b (F b o e).2).trans z⟩;have z:=u.tups b xs e;rw[au<|ad z f];exact z;have z:=u.frzs b o w e;rw[au<|ad z f];exact z;obtain⟨m,z⟩:=u.tbls b ps e;exact⟨m,by rw[au<|ad z f];exact z⟩;by_cases d:b=s.heap.objs.size;subst d;rw[aJ]at q;cases q;exact⟨G,its,k,L,(U.2 _ C).trans g⟩;rw[au d]at q;refine(t.hok b w q).stay (λc v h r=>(U.2 c ?_).trans r) (λc z=>by rw[au<|ad z f];exact z) λc xs z=>by rw[au<|ad z f];exact z
 rcases h with rfl|h;exact ad q i;exact ad h i;obtain⟨_,l,_,y,A,B⟩:=E b d;exact⟨y,l,A,B⟩
theorem zU{s tg N:f9}{M:List f9}{scope:f6}{pos:i0}{N':List c5}{l:List (c5×c8)}{J:It}{fp:List c8}{it:c8}{tn:Nat->d5->Prop}{g:TG}{tt:TT}{te:TE}{Q:VK}{W:Nat->Nat->List V->St->Hp->Prop}{R:Result->e8->Prop}{s0:e8}{H0:Hp}{D:c8} (hc:X.calm=a9)(hg:PG (D5 X N' scope l s0 H0<|D::fp) tg g) (ht:Nk (D5 X N' scope l s0 H0<|D::fp) M tt) (he:PE (D5 X N' scope l s0 H0<|D::fp) s te)(T:Turn X.prog X.w X.K tg J fp it tn) (L:D∉fp)(S:∀i m vs τ H,W i m vs τ H->(J.stop i H/\∀p,H p=a8->Q (.ref p) (A2 H p<|.lst vs)) \/ (J.go i H/\∀x H',J.yld i H x H'->g x τ H' λτ2 H2=>tt τ2 H2 λb f=>if b=a9 then te τ2 f λy H4=>vs.length<sizeLine/\∃m',m' < m/\W (i+1) m' (vs++[y]) τ2 H4 else ∃m',m' < m/\W (i+1) m' vs τ2 f))(t:∀b∈fp,b≠s0.heap.objs.size/\b∉frs X.stack/\∀x c,l.lookup x=a7 c->c≠b) (I:D≠s0.heap.objs.size) (as:D∉frs X.stack) (an:∀x c,l.lookup x=a7 c->c≠D)(ai:∀τ H' s' vs its k,v4 (D5 X N' scope l s0 H0<|D::fp) [(D,cG its k)] τ H' s'->az vs its->vs.length<=sizeLine->Q (.ref D) (A2 H' D<|.lst vs)->R (.ok .next) s')
  (m0:Nat) {j:St}{s3:e8}{f:Hp} (I3:v4 (D5 X N' scope l s0 H0<|D::fp) [(D,cG [] 0)] j f s3) (bk:tn 0 s3.heap) (aj:∀b∈fp,f b=a8) (w0:W 0 m0 [] j f) :
  l7 (ge X.prog X.w) X.A (.compLoop (.ListComp s [⟨tg,N,M,0⟩] scope pos) 0 (.ref it) (.ref D)<|compEnvC scope l s0.heap.objs.size X.env) R s3:=by
 have h:∀{ob:c9}{H':Hp},(∀b∈fp,H' b=a8)->∀b∈fp,wI (D5 X N' scope l s0 H0<|D::fp) [(D,ob)] H' b:=λ{ob H'} hn b d=>by
  obtain⟨a1,a2,a3⟩:=t b d;refine⟨hn b d,a1,a2,.inl<|D4 _ d,a3,λp hp z=>?_⟩;have e:p=(D,ob):=by simpa [D5]using hp
  subst e;exact L<|by rw[show D=b from z];exact d
 refine xP (λn s'=>∃i τ H' vs its k,v4 (D5 X N' scope l s0 H0<|D::fp) [(D,cG its k)] τ H' s'/\tn i s'.heap/\(∀b∈fp,H' b=a8)/\az vs its/\vs.length<=sizeLine/\W i n vs τ H') (λ_ _=>False) (λ_ _ z=>z.elim) ?_ m0 ⟨0,j,f,[],[],0,I3,bk,aj,.nil,D6 _,w0⟩;rintro n s' ⟨i,τ,H',vs,its,k,I',O,E,Z,hl,w'⟩;rcases S i n vs τ H' w' with⟨stop,q⟩|⟨go,P⟩
 refine A1 (T.done (D5 X N' scope l s0 H0<|D::fp) rfl rfl rfl hc i _ s' τ H' (λ_ _=>False) I' (h E) O stop) ?_;rintro r s4 ⟨hr,I4⟩;subst hr;exact ai τ H' s4 vs its k I4 Z hl<|q D (I'.pin (D,cG its k)<|by simp[D5]).2.1;refine A1 (T.item (D5 X N' scope l s0 H0<|D::fp) rfl rfl rfl hc i _ s' τ H' (λ_ _=>False) I' (h E) O go) ?_;rintro r s4 ⟨u,hr,h4⟩;subst hr;refine A1 h4 ?_;rintro _ s5 ⟨x,H5,I5,r5,y5,B,al⟩;have ab:=I5.pinned (h al)<|T.obj _ _ B;refine A1 (hg _ s5 τ H5 x u _ ab r5<|P x H5 y5) ?_;rintro _ s6 ⟨a,H6,I6,q6⟩;refine A1 (ht _ s6 a H6 _ I6 q6) ?_;rintro ok s7 ⟨H7,Y,q7⟩;have F:∀{b:c8}{o:c9},b∈fp->s5.heap.get? b=a7 o->(b,o)∈(D5 X N' scope l s0 H0<|D::fp).pn++([(D,cG its k)]++iB fp s5.heap):=λd e=>LP _<|LP _<|fS d e;cases ok with
 |false =>
  obtain⟨m',hm,w7⟩:=(show ∃m',m' < n/\W (i+1) m' vs a H7 from q7)
  refine⟨m',hm,i+1,a,H7,vs,its,k,Y.unpinned,T.keep _ _ _ B λb d o e=>(Y.pin (b,o)<|F d e).1,λb d=>?_,Z,hl,w7⟩;obtain⟨o,e,_⟩:=T.obj _ _ B b d;exact(Y.pin (b,o)<|F d e).2.1
 |true =>
  refine A1 (he _ s7 a H7 _ Y q7) ?_;rintro yv s8 ⟨y,U,I8,r8,q8⟩;obtain⟨aS,m',hm,w8⟩:=q8;obtain⟨oD,fD,_⟩:=I8.pin (D,cG its k) (LP _<|NM _<|by simp);have C:U D=a8:=fD;refine append_at (its:=its.toArray) (n:=k) oD (λh9 be o9=>?_) (by rw[C8,<-Z.length];exact hl);have J8:v4 (D5 X N' scope l s0 H0<|D::fp) (iB fp s5.heap) a U s8:=I8.pins_of λp hp=>I8.pin p<|LP _<|LP _ hp;have J9:v4 (D5 X N' scope l s0 H0<|D::fp) (iB fp s5.heap) a U { s8 with heap:=h9 }:=J8.turned (t':=s8.toks) (it:=D) (λb o d e=>(be.2 b d).trans e) C I (.inl F5) an λp hp z=>by
   have aD:p∈iB fp s5.heap:=by simpa [D5]using hp
   exact L<|by rw[<-z];exact(rP aD).1
  have G:∀{b:c8}{o:c9},b∈fp->s5.heap.get? b=a7 o->(b,o)∈(D5 X N' scope l s0 H0<|D::fp).pn++iB fp s5.heap:=λd e=>LP _<|fS d e;refine⟨m',hm,i+1,a,U,vs++[y],its++[yv],k+1,J9.pins_of λp hp=>?_,T.keep _ _ _ B λb d o e=>(J9.pin (b,o)<|G d e).1,λb d=>?_,Z.append<|.cons r8 .nil,?_,w8⟩;have e:p=(D,cG (its++[yv])<|k+1):=by simpa using hp
  subst e;refine⟨?_,C,I,as,λv z=>by cases z⟩;rw[show cG (its++[yv]) (k+1)=({ cls:=.type "list",data:=.seq (its.toArray.push yv) (k+1) }:c9) by rw[List.push_toArray]];exact o9;obtain⟨o,e,_⟩:=T.obj _ _ B b d;exact(J9.pin (b,o)<|G d e).2.1;rw[E3];exact aS
end
section
variable{X:Cx}
theorem pe_lc{t K r:f9}{u:List f9}{scope:f6}{pos:i0}{N':List c5}{nt:Nat}{Z:List Nat}{wi:TI}{g:TG}{tt:TT}{te:TE}(B:BlkSc X N' nt Z scope)(hc:X.calm=a9)(hi:PI X K r wi)(hg:∀cl s0 H0 ex,PG (D5 X N' scope cl s0 H0 ex) K g) (ht:∀cl s0 H0 ex,Nk (D5 X N' scope cl s0 H0 ex) u tt) (he:∀cl s0 H0 ex,PE (D5 X N' scope cl s0 H0 ex) t te)(hs:∀x,j6 r X.env x=pure x:=by intro _;rfl):PE X (.ListComp t [⟨K,r,u,0⟩] scope pos) (Q6 nt Z wi g tt te):=by
 intro f s σ H Q I h;rw[eval_ListComp];obtain⟨cl,M,a,C⟩:=jQ (scope:=scope) (env:=X.env) λp hp hf=>I.ok.has p.1<|B.free p hp hf;refine wpAny_comprehension_free (use:=a8) rfl hs M B.kind B.loc ?_;refine A1 (hi f s σ H _ I h) λv s1 h1=>A1 h1 λab n h2=>?_;obtain⟨it,O,tn,J,H2,e,i,T,S,N,W,⟨m0,w0⟩,L⟩:=h2;subst e;refine Lu<|wpAny_newFunctionEnv B.nocell (by intro y hy;simp at hy) (λh1 D E=>?_) B.kind;have j:∀b∈O,b<n.heap.objs.size:=λb d=>by obtain⟨o,e,_⟩:=T.obj _ _ S b d;exact A5 e
 have Y:(n.heap.push<|cG [] 0).objs.size=n.heap.objs.size+1:=LJ ..;have F:∀b o,(n.heap.push<|cG [] 0).get? b=a7 o->h1.get? b=a7 o:=λb o e=>(E.2 b<|A8<|A5 e).trans<|A3 _ e;have I3:=i.blkStart (tk:=n.toks+([]:List (c5×b7)).length) B a C N j F D;have G:tn 0 h1:=T.keep _ _ _ S λb _ o e=>F b o<|A3 _ e;have R:n.heap.objs.size∉O:=λz=>J4 _<|j _ z;have U:n.heap.objs.size∉frs X.stack:=λz=>by rcases A9.mp (i.stkSub _ z)with q|q;exact t8 i.lt (by rw[<-q];exact J4 _);exact i.nofs (x9 _) q
 have P:n.heap.objs.size≠(n.heap.push<|cG [] 0).objs.size:=by rw[Y];exact A8<|Mf _
 have ltc:∀z c,cl.lookup z=a7 c->c<n.heap.objs.size:=λz c e=>by obtain⟨v,q⟩:=i.cell z c<|a z c e;exact q.lt
 have m:∀b∈O,b≠(n.heap.push<|cG [] 0).objs.size/\b∉frs X.stack/\∀x c,cl.lookup x=a7 c->c≠b:=λb d=>by refine⟨by rw[Y];exact A8<|N6<|j b d,λz=>?_,λx c e=>(N b d).2.2.2.2.1 x c<|a x c e⟩;rcases A9.mp (i.stkSub b z)with q|q;exact(N b d).2.1 q;exact(N b d).2.2.1 q
 have l:l7 (ge X.prog X.w) X.A (.compLoop (.ListComp t [⟨K,r,u,0⟩] scope pos) 0 (.ref it) (.ref n.heap.objs.size)<|compEnvC scope cl (n.heap.push<|cG [] 0).objs.size X.env) (compPost (ge X.prog X.w) X.A X.xe a8 (EP X f σ Q) (.ref n.heap.objs.size) (n.heap.push<|cG [] 0).objs.size) { n with heap:=h1,toks:=n.toks+([]:List (c5×b7)).length }:=by refine zU (s0:={ n with heap:=n.heap.push (cG [] 0) }) (H0:=H2) (N':=N') (Q:=Q) hc (hg _ _ _ _) (ht _ _ _ _) (he _ _ _ _) T R L m P U (λx c e=>A8<|ltc x c e) ?_ m0 I3 G (λb d=>(N b d).1) w0;intro τ H' s' vs its k V rv hl q;obtain⟨mm,hn,_⟩:=id V.loc;exact⟨mm,hn,λh' sb=>⟨.ref n.heap.objs.size,_,i.blkEnd N V rv hl sb,rfl,q⟩⟩
 exact codeAny_compStart_list l<|T.self _ 0 _ _ _ G l
end
section
inductive D where
 |non|bl (b:Bool)|int (i:Int)|str (x:c5)|ty (n:String)|tup (ds:List D)|ref (n:Nat)
inductive MO where
 |lst (xs:List D)
 |fz (xs:List D)
 |kl (xs:List D)
 |dct (kvs:List (c5×D))
 |dkt (kvs:List (D×D))
 |dkq (e:Nat) (kvs:List (D×D))
 |dkm (kvs:List (D×D))
 |fdc (o:c9) (kvs:List (c5×D))
 |tb (x:c5) (b:Bool)
 |exc (x:c5)
noncomputable abbrev v8:=List MO
noncomputable def MO.isL:MO->Bool
 |.dct _=>bt
 |.dkt _=>bt
 |.dkq _ _=>bt
 |.fdc _ _=>bt
 |.dkm _=>bt
 |.tb _ _=>bt
 |.exc _=>bt
 |_=>a9
noncomputable def eW(ks:List c5)(vs:List V):List (F3×V):=(ks.zip vs).map λp=>(ABd p.1,p.2)
mutual
inductive w5(K:v9)(ρ:List c8)(H:Hp):D->V->Prop
 |non:w5 K ρ H .non .non
 |bl (b:Bool):w5 K ρ H (.bl b) (.bl b)
 |int (i:Int):w5 K ρ H (.int i) (.int i)
 |str (x:c5):w5 K ρ H (.str x) (.str x)
 |ty (n:String):w5 K ρ H (.ty n) (.ty n)
 |tup {a:c8}{vs:List V}{ds:List D} (h:C5 K H a vs) (r:Reps K ρ H ds vs):w5 K ρ H (.tup ds) (.ref a)
 |ref {n:Nat}{a:c8} (h:ρ[n]?=a7 a):w5 K ρ H (.ref n) (.ref a)
inductive Reps(K:v9)(ρ:List c8)(H:Hp):List D->List V->Prop
 |nil:Reps K ρ H [] []
 |cons {d:D}{v:V}{ds:List D}{vs:List V} (h:w5 K ρ H d v) (t:Reps K ρ H ds vs):Reps K ρ H (d::ds) (v::vs)
end
def KList(K:v9)(a:c8)(xs:List V):Prop:=∃(o:c9) (its:Array b7) (n:Nat),K.lookup a=a7 o/\o.cls=.type "list"/\o.dict=a8/\o.data=.seq its n/\its.size<=sizeLine/\az xs its.toList
noncomputable def cz:Nat->D->Bool
 |_,.str _=>a9
 |_,.int _=>a9
 |n+1,.tup ds=>ds.all<|cz n
 |_,_=>bt
noncomputable def C1(w:c6):Nat->D->Int
 |_,.str x=>hashStr w x
 |_,.int i=>hashInt i
 |n+1,.tup ds=>o4<|Ov<|ds.map<|C1 w n
 |_,_=>0
def dX(a:c8)(xs:List (D×c8×b7)):c7->c6->d5->Prop:=λ_ w h =>
 ∃(o:c9) (es:Array n9),h.get? a=a7 o/\o.ExactDict/\o.data=.dict es xs.length/\es.toList=xs.map λx=>⟨C1 w 8 x.1,.ref x.2.1,x.2.2⟩
def dQ(a:c8)(e:Nat)(xs:List (D×c8×b7)):c7->c6->d5->Prop:=λ_ w h =>
 ∃(o:c9) (es:Array n9),h.get? a=a7 o/\o.ExactDict/\o.data=.dict es e/\es.toList=xs.map λx=>⟨C1 w 8 x.1,.ref x.2.1,x.2.2⟩
noncomputable def keyM:D->Bool
 |.non=>a9
 |.tup ks=>cz 8<|.tup ks
 |_=>bt
noncomputable def hkM(w:c6):D->Int
 |.non=>o4 0xFCA86420
 |d=>C1 w 8 d
noncomputable def entM(hs:D->Int)(x:D×b7×b7):n9:=⟨hs x.1,x.2.1,x.2.2⟩
def dM(a:c8)(xs:List (D×b7×b7)):c7->c6->d5->Prop:=λ_ w h =>
 ∃(o:c9) (es:Array n9),h.get? a=a7 o/\o.ExactDict/\o.data=.dict es xs.length/\es.toList=xs.map (entM<|hkM w)
def Qc(K:v9)(ρ:List c8)(H:Hp)(p:D×D)(q:D×b7×b7):Prop:=p.1=q.1/\keyM p.1=a9/\(∃u,w5 K ρ H p.1 u/\aL u q.2.1)/\∃v,w5 K ρ H p.2 v/\aL v q.2.2
def oo(K:v9)(ρ:List c8)(H:Hp)(p:D×D)(q:D×c8×b7):Prop:=p.1=q.1/\cz 8 p.1=a9/\w5 K ρ H p.1 (.ref q.2.1)/\∃v,w5 K ρ H p.2 v/\aL v q.2.2
def Hv(a:c8)(C:b7):c7->c6->d5->Prop:=λ_ _ h=>∃o vs,h.get? a=a7 o/\o.cls=C/\o.data=.fields vs
def ya(K:v9)(ρ:List c8)(H:Hp)(a:c8):MO->Prop
 |.lst ds=>∃vs,H a=a7 (.lst vs)/\Reps K ρ H ds vs
 |.fz ds=>∃o vs,H a=a7 (.frz o<|.lst vs)/\Reps K ρ H ds vs
 |.kl ds=>∃vs,KList K a vs/\Reps K ρ H ds vs
 |.dct kvs=>∃vs,H a=a7 (.dK (eW (kvs.map (·.1)) vs))/\Reps K ρ H (kvs.map (·.2)) vs
 |.dkt kvs=>kvs.length<=sizeLine/\(a==d6)=bt/\(kvs.map (·.1)).Nodup/\∃xs,H a=a7 (.ext<|dX a xs)/\Paired (oo K ρ H) kvs xs
 |.dkq e kvs=>kvs.length<=sizeLine/\(a==d6)=bt/\(kvs.map (·.1)).Nodup/\∃xs,H a=a7 (.ext<|dQ a e xs)/\Paired (oo K ρ H) kvs xs
 |.dkm kvs=>kvs.length<=sizeLine/\(a==d6)=bt/\(kvs.map (·.1)).Nodup/\∃xs,H a=a7 (.ext<|dM a xs)/\Paired (Qc K ρ H) kvs xs
 |.fdc o kvs=>∃vs,H a=a7 (.frz o (.dK (eW (kvs.map (·.1)) vs)))/\Reps K ρ H (kvs.map (·.2)) vs
 |.tb x b=>(∃c,PySem.W.tabIn K x=a7 (c,a)/\∀h:d5,K.In h->PySem.W.CodeHd h c a)/\∃ps,H a=a7 (.tbl ps)/\(b=bt->ps = #[])
 |.exc x=>∃C,Np K d8 x=a7 (a7<|.ref C)/\H a=a7 (.ext<|Hv a<|.ref C)
def LY(mo:Option MO):Prop:=∃ds,mo=a7 (.kl ds)
def ak(M:v8)(n:Nat)(xs:List D):Prop:=M[n]?=a7 (.lst xs)\/M[n]?=a7 (.fz xs)\/M[n]?=a7 (.kl xs)
structure z6(K:v9)(ρ:List c8)(M:v8)(H:Hp):Prop where
 nd:∀(n m:Nat) (a:c8),n≠m->ρ[n]?=a7 a->ρ[m]?=a7 a->LY M[n]?\/LY M[m]?
 len:ρ.length=M.length
 obj:∀(n:Nat) (a:c8) (mo:MO),ρ[n]?=a7 a->M[n]?=a7 mo->ya K ρ H a mo
structure Grow(K:v9)(ρ:List c8)(H:Hp)(ρ':List c8)(H':Hp):Prop where
 pre:ρ <+: ρ'
 tup:∀a xs,C5 K H a xs->C5 K H' a xs
theorem Grow.refl{K:v9}{ρ:List c8}{H:Hp}:Grow K ρ H ρ H:=⟨Nd,λ_ _ h=>h⟩
theorem Grow.trans{K:v9}{ρ c d:List c8}{H H1 e:Hp}(a:Grow K ρ H c H1)(b:Grow K c H1 d e):Grow K ρ H d e:=⟨a.pre.trans b.pre,λx xs h=>b.tup x xs<|a.tup x xs h⟩
theorem ap{α:Type}{l l':List α}(h:l <+: l'){n:Nat}{a:α}(e:l[n]?=a7 a):l'[n]?=a7 a:=by obtain⟨t,rfl⟩:=h;rw[LF (B6.mp e).1];exact e
theorem w5.grow{K:v9}{ρ ρ':List c8}{H H':Hp}(g:Grow K ρ H ρ' H'){d:D}{v:V}(h:w5 K ρ H d v):w5 K ρ' H' d v:=w5.rec (motive_1:=λd v _=>w5 K ρ' H' d v) (motive_2:=λds vs _=>Reps K ρ' H' ds vs) .non .bl .int .str .ty (λh _ r=>.tup (g.tup _ _ h) r) (λh=>.ref<|ap g.pre h) .nil (λ_ _ h t=>.cons h t) h
theorem Reps.grow{K:v9}{ρ ρ':List c8}{H H':Hp}(g:Grow K ρ H ρ' H'){ds:List D}{vs:List V}(h:Reps K ρ H ds vs):Reps K ρ' H' ds vs:=Reps.rec (motive_1:=λd v _=>w5 K ρ' H' d v) (motive_2:=λds vs _=>Reps K ρ' H' ds vs) .non .bl .int .str .ty (λh _ r=>.tup (g.tup _ _ h) r) (λh=>.ref<|ap g.pre h) .nil (λ_ _ h t=>.cons h t) h
section
variable{K:v9}{ρ ρ':List c8}{H H':Hp}{M:v8}
theorem Reps.length(h:Reps K ρ H ds vs):ds.length=vs.length:=Reps.rec (motive_1:=λ_ _ _=>True) (motive_2:=λds vs _=>ds.length=vs.length) trivial (λ_=>trivial) (λ_=>trivial) (λ_=>trivial) (λ_=>trivial) (λ_ _ _=>trivial) (λ_=>trivial) rfl (λ_ _ _ t=>u6 Nat.succ t) h
theorem Reps.append(h:Reps K ρ H ds vs)(s:Reps K ρ H es ws):Reps K ρ H (ds++es) (vs++ws):=Reps.rec (motive_1:=λ_ _ _=>True) (motive_2:=λds vs _=>Reps K ρ H (ds++es)<|vs++ws) trivial (λ_=>trivial) (λ_=>trivial) (λ_=>trivial) (λ_=>trivial) (λ_ _ _=>trivial) (λ_=>trivial) s (λh _ _ t=>.cons h t) h
theorem Reps.get:∀{ds:List D}{vs:List V}{i:Nat}{d:D},Reps K ρ H ds vs->ds[i]?=a7 d->∃v,vs[i]?=a7 v/\w5 K ρ H d v
 |_,_,_,_,.nil,e=>by simp at e
 |_,_,0,_,.cons r _,e=>by simp at e;subst e;exact⟨_,rfl,r⟩
 |_,_,i+1,d,.cons _ t,e=>by obtain⟨v,h1,h2⟩:=Reps.get (i:=i) (d:=d) t (by simpa using e);exact⟨v,by simpa using h1,h2⟩
theorem Reps.getV:∀{ds:List D}{vs:List V}{i:Nat}{v:V},Reps K ρ H ds vs->vs[i]?=a7 v->∃d,ds[i]?=a7 d/\w5 K ρ H d v
 |_,_,_,_,.nil,e=>by simp at e
 |_,_,0,_,.cons r _,e=>by simp at e;subst e;exact⟨_,rfl,r⟩
 |_,_,i+1,d,.cons _ t,e=>by obtain⟨v,h1,h2⟩:=Reps.getV (i:=i) (v:=d) t (by simpa using e);exact⟨v,by simpa using h1,h2⟩
theorem Reps.take:∀{ds:List D}{vs:List V} (n:Nat),Reps K ρ H ds vs->Reps K ρ H (ds.take n) (vs.take n)
 |_,_,0,_=>by simpa using .nil
 |_,_,_+1,.nil=>.nil
 |_,_,n+1,.cons r t=>.cons r<|Reps.take n t
theorem Reps.drop:∀{ds:List D}{vs:List V} (n:Nat),Reps K ρ H ds vs->Reps K ρ H (ds.drop n) (vs.drop n)
 |_,_,0,r=>r
 |_,_,_+1,.nil=>.nil
 |_,_,n+1,.cons _ t=>Reps.drop n t
theorem C5.laid(hp:H p=a8)(h:C5 K H a xs):C5 K (A2 H p o) a xs:=by
 rcases h with h|h;rcases h with h|⟨b,h⟩
 exact .inl (.inl<|by rw[au<|ad h hp];exact h);exact .inl<|.inr ⟨b,by rw[au<|ad h hp];exact h⟩;exact .inr h
theorem C5.written(hp:H p=a7 (.lst vs))(h:C5 K H a xs):C5 K (A2 H p o) a xs:=by
 rcases h with h|h;rcases h with h|⟨b,h⟩
 exact .inl (.inl<|by rw[au<|xm h hp<|by intro z;cases z];exact h);exact .inl<|.inr ⟨b,by rw[au<|xm h hp<|by intro z;cases z];exact h⟩;exact .inr h
theorem Grow.laid(hp:H p=a8):Grow K ρ H ρ (A2 H p o):=⟨Nd,λ_ _ h=>C5.laid hp h⟩
theorem Grow.laidR(hp:H p=a8):Grow K ρ H (ρ++[p]) (A2 H p o):=⟨LM _ _,λ_ _ h=>C5.laid hp h⟩
theorem z6.tracked(S:z6 K ρ M H){n:Nat}{a:c8}(e:ρ[n]?=a7 a):(∃o,H a=a7 o)\/LY M[n]?:=by
 have f:n<M.length:=by rw[<-S.len];exact(B6.mp e).1
 have d:M[n]?=a7 M[n]:=A4 f;have h:=S.obj n a _ e d;rw[d];cases c:M[n] with
 |lst ds=>rw[c]at h;obtain⟨vs,h,_⟩:=h;exact .inl ⟨_,h⟩
 |fz ds=>rw[c]at h;obtain⟨o,vs,h,_⟩:=h;exact .inl ⟨_,h⟩
 |kl ds=>exact .inr ⟨ds,rfl⟩
 |dct kvs=>rw[c]at h;obtain⟨vs,h,_⟩:=h;exact .inl ⟨_,h⟩
 |dkt kvs=>rw[c]at h;obtain⟨_,_,_,xs,h,_⟩:=h;exact .inl ⟨_,h⟩
 |dkq _ kvs=>rw[c]at h;obtain⟨_,_,_,xs,h,_⟩:=h;exact .inl ⟨_,h⟩
 |fdc o kvs=>rw[c]at h;obtain⟨vs,h,_⟩:=h;exact .inl ⟨_,h⟩
 |dkm kvs=>rw[c]at h;obtain⟨_,_,_,xs,h,_⟩:=h;exact .inl ⟨_,h⟩
 |tb x b=>rw[c]at h;obtain⟨_,ps,h,_⟩:=h;exact .inl ⟨_,h⟩
 |exc x=>rw[c]at h;obtain⟨_,_,h⟩:=h;exact .inl ⟨_,h⟩
theorem ya.grow(g:Grow K ρ H ρ' H')(hs:H' a=H a\/LY (a7 mo))(h:ya K ρ H a mo):ya K ρ' H' a mo:=by
 cases mo with
 |lst ds =>
  obtain⟨vs,e,r⟩:=h;rcases hs with hs|⟨_,z⟩
  exact⟨vs,by rw[hs];exact e,r.grow g⟩;cases z
 |fz ds =>
  obtain⟨o,vs,e,r⟩:=h;rcases hs with hs|⟨_,z⟩
  exact⟨o,vs,by rw[hs];exact e,r.grow g⟩;cases z
 |fdc o kvs =>
  obtain⟨vs,e,r⟩:=h;rcases hs with hs|⟨_,z⟩
  exact⟨vs,by rw[hs];exact e,r.grow g⟩;cases z
 |tb x b =>
  obtain⟨c,ps,e,q⟩:=h;rcases hs with hs|⟨_,z⟩
  exact⟨c,ps,by rw[hs];exact e,q⟩;cases z
 |exc x =>
  obtain⟨C,e,q⟩:=h;rcases hs with hs|⟨_,z⟩
  exact⟨C,e,by rw[hs];exact q⟩;cases z
 |kl ds=>obtain⟨vs,e,r⟩:=h;exact⟨vs,e,r.grow g⟩
 |dkm kvs =>
  obtain⟨h1,h2,d,xs,e,r⟩:=h;rcases hs with hs|⟨_,z⟩
  exact⟨h1,h2,d,xs,by rw[hs];exact e,Paired.mapP r λ_ _ ⟨f,i,⟨u,j,l⟩,v,G,k⟩=>⟨f,i,⟨u,j.grow g,l⟩,v,G.grow g,k⟩⟩;cases z
 |dct kvs =>
  obtain⟨vs,e,r⟩:=h;rcases hs with hs|⟨_,z⟩
  exact⟨vs,by rw[hs];exact e,r.grow g⟩;cases z
 |dkt kvs =>
  obtain⟨h1,h2,d,xs,e,r⟩:=h;rcases hs with hs|⟨_,z⟩
  exact⟨h1,h2,d,xs,by rw[hs];exact e,Paired.mapP r λ_ _ ⟨f,i,j,v,G,k⟩=>⟨f,i,j.grow g,v,G.grow g,k⟩⟩;cases z
 |dkq _ kvs =>
  obtain⟨h1,h2,d,xs,e,r⟩:=h;rcases hs with hs|⟨_,z⟩
  exact⟨h1,h2,d,xs,by rw[hs];exact e,Paired.mapP r λ_ _ ⟨f,i,j,v,G,k⟩=>⟨f,i,j.grow g,v,G.grow g,k⟩⟩;cases z
theorem z6.keeps{p:c8}{o:HO}(S:z6 K ρ M H)(hp:H p=a8){n:Nat}{a:c8}{mo:MO}(t:ρ[n]?=a7 a)(l:M[n]?=a7 mo):A2 H p o a=H a\/LY (a7 mo):=by rcases S.tracked t with⟨c,b⟩|q;exact .inl<|au<|ad b hp;rw[l]at q;exact .inr q
theorem z6.laid{p:c8}{o:HO}(S:z6 K ρ M H)(hp:H p=a8):z6 K ρ M (A2 H p o):=⟨S.nd,S.len,λn a m t l=>(S.obj n a m t l).grow (Grow.laid hp)<|S.keeps hp t l⟩
theorem aW{α:Type}{l:List α}{x y:α}{n:Nat}(h:(l++[x])[n]?=a7 y):l[n]?=a7 y\/(n=l.length/\y=x):=by
 by_cases f:n<l.length;rw[LF f]at h;exact .inl h;have a:n=l.length:=by have:=(B6.mp h).1;rw[E3,LD]at this;lia
 subst a;rw[Mp<|x9 _,No]at h;simp at h;exact .inr ⟨rfl,h.symm⟩
theorem LY.more{mo:MO}{n:Nat}(h:LY M[n]?):LY (M++[mo])[n]?:=by obtain⟨ds,e⟩:=h;exact⟨ds,by rw[LF (B6.mp e).1];exact e⟩
theorem z6.laidL{p:c8}{ds:List D}{vs:List V}(S:z6 K ρ M H)(hp:H p=a8)(r:Reps K ρ H ds vs):z6 K (ρ++[p]) (M++[.lst ds]) (A2 H p<|.lst vs):=by
 have g:Grow K ρ H (ρ++[p]) (A2 H p<|.lst vs):=Grow.laidR hp;have d:∀(n:Nat),ρ[n]?=a7 p->LY M[n]?:=λn e=>by rcases S.tracked e with⟨o,q⟩|q;rw[hp]at q;cases q;exact q
 refine⟨λn m a h t l=>?_,by rw[E3,E3,S.len];rfl,λn a i t l=>?_⟩;rcases aW t with f|⟨f,g1⟩
 rcases aW l with N|⟨N,b⟩
 exact(S.nd n m a h f N).elim (λz=>.inl z.more) λz=>.inr z.more;subst b;exact .inl (d n f).more;rcases aW l with N|⟨N,b⟩
 subst g1;exact .inr (d m N).more;exact t8 (f.trans N.symm) h;rcases aW t with f|⟨f,g1⟩
 have c:n<M.length:=by rw[<-S.len];exact(B6.mp f).1
 rw[LF c]at l;exact(S.obj n a i f l).grow g<|S.keeps hp f l;subst g1 f;rw[S.len,Mp<|x9 _,No]at l;simp at l;subst l;exact⟨vs,aJ,r.grow g⟩
theorem z6.last(S:z6 K ρ M H):(ρ++[p])[M.length]?=a7 p:=by rw[<-S.len,Mp<|x9 _,No];rfl
theorem z6.write(S:z6 K ρ M H)(t:ρ[n]?=a7 a)(s:M[n]?=a7 (.lst ds))(p:H a=a7 (.lst vs))(r:Reps K ρ H ds' vs'):z6 K ρ (M.set n<|.lst ds') (A2 H a<|.lst vs')/\Grow K ρ H ρ (A2 H a<|.lst vs'):=by
 have g:Grow K ρ H ρ (A2 H a<|.lst vs'):=⟨Nd,λ_ _ h=>C5.written p h⟩
 have k:∀m,m≠n->(M.set n<|.lst ds')[m]?=M[m]?:=λm d=>LU<|A7 d;have c:¬LY M[n]?:=λ⟨_,z⟩=>by rw[s]at z;cases z
 refine⟨⟨λm j b e f N=>?_,by rw[Nv];exact S.len,λm b o f N=>?_⟩,g⟩;have q:=S.nd m j b e f N;by_cases h1:m=n;subst h1;rw[k j<|A7 e];exact .inr<|q.resolve_left c;rw[k m h1];by_cases h2:j=n;subst h2;exact .inl<|q.resolve_right c;rw[k j h2];exact q;by_cases d:m=n;subst d;have i:b=a:=D0<|f.symm.trans t;subst i;rw[L7<|by rw[<-S.len];exact(B6.mp t).1]at N;cases N;exact⟨vs',aJ,r.grow g⟩;rw[k m d]at N;by_cases i:b=a;subst i;have q:=S.nd m n b d f t;have l:=q.resolve_right c;rw[N]at l;exact(S.obj m b o f N).grow g<|.inr l;exact(S.obj m b o f N).grow g<|.inl<|au i
theorem ak.seq(S:z6 K ρ M H)(h:ak M n xs)(e:ρ[n]?=a7 a):∃vs,J7 K H a vs/\Reps K ρ H xs vs:=by rcases h with h|h|h;obtain⟨vs,q,r⟩:=S.obj n a _ e h;exact⟨vs,.inl<|.inl q,r⟩;obtain⟨o,vs,q,r⟩:=S.obj n a _ e h;exact⟨vs,.inl<|.inr ⟨o,q⟩,r⟩;obtain⟨vs,q,r⟩:=S.obj n a _ e h;exact⟨vs,.inr q,r⟩
theorem z6.get(S:z6 K ρ M H){n:Nat}{mo:MO}(e:M[n]?=a7 mo):∃a,ρ[n]?=a7 a/\ya K ρ H a mo:=by
 have f:n<ρ.length:=by rw[S.len];exact(B6.mp e).1
 exact⟨ρ[n],A4 f,S.obj n _ mo (A4 f) e⟩
end
noncomputable abbrev SD:=List<|Option D
structure SRep(K:v9)(ρ:List c8)(H:Hp)(S:SD)(σ:St):Prop where
 len:S.length=σ.length
 get:∀(i:Nat) (d:D),S[i]?=a7 (a7 d)->∃v,σ[i]?=a7 (a7 v)/\w5 K ρ H d v
theorem SRep.grow{K:v9}{ρ ρ':List c8}{H H':Hp}{S:SD}{σ:St}(r:SRep K ρ H S σ)(g:Grow K ρ H ρ' H'):SRep K ρ' H' S σ:=⟨r.len,λi d e=>let ⟨v,h1,h2⟩:=r.get i d e;⟨v,h1,h2.grow g⟩⟩
theorem SRep.set{K:v9}{ρ:List c8}{H:Hp}{S:SD}{σ:St}(r:SRep K ρ H S σ)(i:Nat){d:D}{v:V}(h:w5 K ρ H d v):SRep K ρ H (S.set i<|a7 d) (σ.set i<|a7 v):=by refine⟨by rw[Nv,Nv];exact r.len,λj e L=>?_⟩;by_cases a:i=j;subst a;by_cases g:i<S.length;rw[L7 g]at L;cases L;exact⟨v,by rw[L7<|by rw[<-r.len];exact g],h⟩;rw[N9<|by rw[Nv];lia]at L;cases L;rw[LU a]at L;rw[LU a];exact r.get j e L
abbrev DK:=D->v8->Prop
abbrev A0:=SD->v8->DK->Prop
abbrev K0:=SD->v8->(Bool->v8->Prop)->Prop
abbrev G1:=SD->v8->(List D->v8->Prop)->Prop
structure DEnds where
 nx:SD->v8->Prop
 rt:DK
 bk:SD->v8->Prop:=λ_ _=>False
 ct:SD->v8->Prop:=λ_ _=>False
abbrev v7:=DEnds->SD->v8->Prop
abbrev Ly:=D->SD->v8->(SD->v8->Prop)->Prop
abbrev EH:=List D->SD->v8->(SD->v8->Prop)->Prop
abbrev G3:=D->D->v8->DK->Prop
abbrev Ri:=D->v8->DK->Prop
abbrev F7:=List D->v8->DK->Prop
section
variable(K:v9)
inductive VQ(ρ:List c8)(H:Hp)(Q:DK)(v:V)(H':Hp):Prop
 |mk (d:D) (M':v8) (ρ':List c8) (s:z6 K ρ' M' H') (g:Grow K ρ H ρ' H') (r:w5 K ρ' H' d v) (q:Q d M')
inductive BQ(ρ:List c8)(H:Hp)(Q:Bool->v8->Prop)(b:Bool)(H':Hp):Prop
 |mk (M':v8) (ρ':List c8) (s:z6 K ρ' M' H') (g:Grow K ρ H ρ' H') (q:Q b M')
inductive AQ(ρ:List c8)(H:Hp)(Q:List D->v8->Prop)(vs:List V)(H':Hp):Prop
 |mk (ds:List D) (M':v8) (ρ':List c8) (s:z6 K ρ' M' H') (g:Grow K ρ H ρ' H') (r:Reps K ρ' H' ds vs) (q:Q ds M')
inductive SQ(ρ:List c8)(H:Hp)(Q:SD->v8->Prop)(σ':St)(H':Hp):Prop
 |mk (S':SD) (M':v8) (ρ':List c8) (s:z6 K ρ' M' H') (g:Grow K ρ H ρ' H') (r:SRep K ρ' H' S' σ') (q:Q S' M')
structure Pa(ρ:List c8)(H:Hp)(F:DEnds)(E:Ends):Prop where
 nx:∀σ' H',SQ K ρ H F.nx σ' H'->E.nx σ' H'
 rt:∀v H',VQ K ρ H F.rt v H'->E.rt v H'
 bk:∀σ' H',SQ K ρ H F.bk σ' H'->E.bk σ' H'
 ct:∀σ' H',SQ K ρ H F.ct σ' H'->E.ct σ' H'
inductive lowE(t:A0)(σ:St)(H:Hp)(R:VK):Prop
 |mk (S:SD) (M:v8) (ρ:List c8) (Q:DK) (s:z6 K ρ M H) (sr:SRep K ρ H S σ) (q:t S M Q) (k:∀v H',VQ K ρ H Q v H'->R v H')
inductive lowT(t:K0)(σ:St)(H:Hp)(R:Bool->Hp->Prop):Prop
 |mk (S:SD) (M:v8) (ρ:List c8) (Q:Bool->v8->Prop) (s:z6 K ρ M H) (sr:SRep K ρ H S σ) (q:t S M Q) (k:∀v H',BQ K ρ H Q v H'->R v H')
inductive lowA(t:G1)(σ:St)(H:Hp)(R:List V->Hp->Prop):Prop
 |mk (S:SD) (M:v8) (ρ:List c8) (Q:List D->v8->Prop) (s:z6 K ρ M H) (sr:SRep K ρ H S σ) (q:t S M Q) (k:∀v H',AQ K ρ H Q v H'->R v H')
inductive lowS(t:v7)(E:Ends)(σ:St)(H:Hp):Prop
 |mk (S:SD) (M:v8) (ρ:List c8) (F:DEnds) (s:z6 K ρ M H) (sr:SRep K ρ H S σ) (q:t F S M) (k:Pa K ρ H F E)
inductive lowG(g:Ly)(v:V)(σ:St)(H:Hp)(R:St->Hp->Prop):Prop
 |mk (d:D) (S:SD) (M:v8) (ρ:List c8) (Q:SD->v8->Prop) (s:z6 K ρ M H) (sr:SRep K ρ H S σ) (r:w5 K ρ H d v) (q:g d S M Q) (k:∀σ' H',SQ K ρ H Q σ' H'->R σ' H')
inductive lowGs(g:EH)(vs:List V)(σ:St)(H:Hp)(R:St->Hp->Prop):Prop
 |mk (ds:List D) (S:SD) (M:v8) (ρ:List c8) (Q:SD->v8->Prop) (s:z6 K ρ M H) (sr:SRep K ρ H S σ) (r:Reps K ρ H ds vs) (q:g ds S M Q) (k:∀σ' H',SQ K ρ H Q σ' H'->R σ' H')
inductive lowR(r:G3)(vx vy:V)(H:Hp)(R:VK):Prop
 |mk (x y:D) (M:v8) (ρ:List c8) (Q:DK) (s:z6 K ρ M H) (r1:w5 K ρ H x vx) (r2:w5 K ρ H y vy) (q:r x y M Q) (k:∀v H',VQ K ρ H Q v H'->R v H')
inductive lowU(r:Ri)(vx:V)(H:Hp)(R:VK):Prop
 |mk (x:D) (M:v8) (ρ:List c8) (Q:DK) (s:z6 K ρ M H) (r1:w5 K ρ H x vx) (q:r x M Q) (k:∀v H',VQ K ρ H Q v H'->R v H')
inductive lowC(r:F7)(vs:List V)(H:Hp)(R:VK):Prop
 |mk (ds:List D) (M:v8) (ρ:List c8) (Q:DK) (s:z6 K ρ M H) (r1:Reps K ρ H ds vs) (q:r ds M Q) (k:∀v H',VQ K ρ H Q v H'->R v H')
end
def DE(X:Cx)(e:f9)(t:A0):Prop:=PE X e<|lowE X.K t
def DT(X:Cx)(e:f9)(t:K0):Prop:=PT X e<|lowT X.K t
def DW(X:Cx)(e:f9)(t:K0):Prop:=PW X e<|lowT X.K t
def DA(X:Cx)(es:List f9)(t:G1):Prop:=PA X es<|lowA X.K t
def DS(X:Cx)(st:i5)(t:v7):Prop:=PS X st<|lowS X.K t
def MX(X:Cx)(st:List i5)(t:v7):Prop:=Lw X st<|lowS X.K t
def DG(X:Cx)(t:f9)(g:Ly):Prop:=PG X t<|lowG X.K g
def Pi(X:Cx)(t:List f9)(g:EH):Prop:=Pd X t<|lowGs X.K g
def G9(X:Cx)(f:b7->b7->Sem b7)(r:G3):Prop:=E8 X f<|lowR X.K r
def UnD(X:Cx)(f:b7->Sem b7)(r:Ri):Prop:=UnR X f<|lowU X.K r
def jt(X:Cx)(f:b7)(r:F7):Prop:=dU X f<|lowC X.K r
section
variable{K:v9}{ρ ρ1:List c8}{H H1:Hp}
theorem VQ.trans(g:Grow K ρ H ρ1 H1)(h:VQ K ρ1 H1 Q v H'):VQ K ρ H Q v H':=by obtain⟨d,M',ρ',s,a,r,q⟩:=h;exact⟨d,M',ρ',s,g.trans a,r,q⟩
theorem BQ.trans(g:Grow K ρ H ρ1 H1)(h:BQ K ρ1 H1 Q v H'):BQ K ρ H Q v H':=by obtain⟨M',ρ',s,a,q⟩:=h;exact⟨M',ρ',s,g.trans a,q⟩
theorem SQ.trans(g:Grow K ρ H ρ1 H1)(h:SQ K ρ1 H1 Q v H'):SQ K ρ H Q v H':=by obtain⟨d,M',ρ',s,a,r,q⟩:=h;exact⟨d,M',ρ',s,g.trans a,r,q⟩
theorem Pa.trans(g:Grow K ρ H ρ1 H1)(h:Pa K ρ H F E):Pa K ρ1 H1 F E:=⟨λa H' q=>h.nx a H'<|SQ.trans g q,λv H' q=>h.rt v H'<|VQ.trans g q,λa H' q=>h.bk a H'<|SQ.trans g q,λa H' q=>h.ct a H'<|SQ.trans g q⟩
theorem VQ.now(s:z6 K ρ M H)(r:w5 K ρ H d v)(q:Q d M):VQ K ρ H Q v H:=⟨d,M,ρ,s,.refl,r,q⟩
end
section
variable{K:v9}{ρ:List c8}{H:Hp}{v:V}{vs:List V}
theorem w5.inv_non(h:w5 K ρ H .non v):v=.non:=by cases h;rfl
theorem w5.inv_bl(h:w5 K ρ H (.bl b) v):v=.bl b:=by cases h;rfl
theorem w5.inv_int(h:w5 K ρ H (.int i) v):v=.int i:=by cases h;rfl
theorem w5.inv_str(h:w5 K ρ H (.str x) v):v=.str x:=by cases h;rfl
theorem w5.inv_ty(h:w5 K ρ H (.ty n) v):v=.ty n:=by cases h;rfl
theorem w5.inv_tup(h:w5 K ρ H (.tup ds) v):∃a vs,v=.ref a/\C5 K H a vs/\Reps K ρ H ds vs:=by cases h with|tup h r=>exact⟨_,_,rfl,h,r⟩
theorem w5.inv_ref(h:w5 K ρ H (.ref n) v):∃a,v=.ref a/\ρ[n]?=a7 a:=by cases h with|ref h=>exact⟨_,rfl,h⟩
theorem az.inv_cons(h:az (x::vs) us):∃u ws,us=u::ws/\aL x u/\az vs ws:=by cases h with|cons h t=>exact⟨_,_,rfl,h,t⟩
theorem az.inv_nil(h:az [] us):us=[]:=by cases h;rfl
theorem Reps.inv_nil(h:Reps K ρ H [] vs):vs=[]:=by cases h;rfl
theorem Reps.inv_cons(h:Reps K ρ H (d::ds) vs):∃v ws,vs=v::ws/\w5 K ρ H d v/\Reps K ρ H ds ws:=by cases h with|cons h t=>exact⟨_,_,rfl,h,t⟩
end
end
theorem PE.imp(h:PE X e t')(i:∀σ H R,t σ H R->t' σ H R):PE X e t:=λp s σ H R I q=>h p s σ H R I<|i σ H R q
theorem PT.imp(h:PT X e t')(i:∀σ H R,t σ H R->t' σ H R):PT X e t:=λp s σ H R I q=>h p s σ H R I<|i σ H R q
theorem PW.imp(h:PW X e t')(i:∀σ H R,t σ H R->t' σ H R):PW X e t:=λw p s σ H R I q=>h w p s σ H R I<|i σ H R q
theorem PA.imp(h:PA X e t')(i:∀σ H R,t σ H R->t' σ H R):PA X e t:=λa p s σ H R I q=>h a p s σ H R I<|i σ H R q
theorem PS.imp(h:PS X e t')(i:∀E σ H,t E σ H->t' E σ H):PS X e t:=λp s σ H R I q=>h p s σ H R I<|i R σ H q
theorem Lw.imp(h:Lw X e t')(i:∀E σ H,t E σ H->t' E σ H):Lw X e t:=λp s σ H R I q=>h p s σ H R I<|i R σ H q
theorem E8.imp(h:E8 X f r')(i:∀x y H R,r x y H R->r' x y H R):E8 X f r:=λp s σ H x y v u R I a b q=>h p s σ H x y v u R I a b<|i x y H R q
theorem dU.imp(h:dU X f r')(i:∀xs H R,r xs H R->r' xs H R):dU X f r:=λp s σ H xs us R I a q=>h p s σ H xs us R I a<|i xs H R q
section
variable{X:Cx}{a b c:f9}{ta tb tc:A0}{pos:i0}
def ac(i:Nat):A0:=λS M Q=>match S[i]? with
 |some (a7 d)=>Q d M
 |_=>False
def dC(d:D):A0:=λ_ M Q=>Q d M
theorem CD{K:v9}{i:Nat}(σ:St)(H:Hp)(R:VK)(h:lowE K (ac i) σ H R):tVar i σ H R:=by
 obtain⟨S,M,ρ,Q,s,r,q,k⟩:=h;unfold ac at q;cases e:S[i]? with
 |none=>rw[e]at q;exact q.elim
 |some o =>
  cases o with
  |none=>rw[e]at q;exact q.elim
  |some d=>rw[e]at q;obtain⟨v,c,a⟩:=r.get i d e;exact⟨v,c,k v H<|VQ.now s a q⟩
theorem d_var(h:X.N[i]?=a7 x:=by rfl)(c:Od X.env.scope x:=by first|exact Or.inl rfl|exact Or.inr (Or.inl rfl)|exact Or.inr<|Or.inr rfl)(a:(x==("__debug__":c5))=bt:=by decide)(d:(x==("__classdict__":c5))=bt:=by decide):DE X (.Name x pos) (ac i):=PE.imp (Ej h c a d) CD
noncomputable def cV:D->Option V
 |.non=>a7 .non
 |.bl b=>a7<|.bl b
 |.int i=>a7<|.int i
 |.str x=>a7<|.str x
 |.ty n=>a7<|.ty n
 |_=>a8
theorem Bf{K:v9}{ρ:List c8}{H:Hp}{d:D}{v:V}(h:cV d=a7 v):w5 K ρ H d v:=by
 cases d with
 |non=>cases h;exact .non
 |bl b=>cases h;exact .bl b
 |int b=>cases h;exact .int b
 |str b=>cases h;exact .str b
 |ty b=>cases h;exact .ty b
 |tup b=>cases h
 |ref b=>cases h
theorem rY{K:v9}{d:D}{v:V}(a:cV d=a7 v)(σ:St)(H:Hp)(R:VK)(h:lowE K (dC d) σ H R):tC v σ H R:=by obtain⟨S,M,ρ,Q,s,r,q,k⟩:=h;exact k v H<|VQ.now s (Bf a) q
theorem d_int{i:Int}{j:Nat}:DE X (.Constant (.int i) j pos) (dC<|.int i):=PE.imp IN<|rY rfl
theorem d_bl{i:Bool}{j:Nat}:DE X (.Constant (.bool i) j pos) (dC<|.bl i):=PE.imp pe_bl<|rY rfl
theorem d_non{j:Nat}:DE X (.Constant .none j pos) (dC .non):=PE.imp IL<|rY rfl
theorem d_str{i:c5}{j:Nat}:DE X (.Constant (.str i) j pos) (dC<|.str i):=PE.imp II<|rY rfl
theorem KU{x:c5}{T:String}(m:X.mg x=a8)(c:d9 x=a7 (.type T))(R:Gl X x:=by rfl)(f:x≠"__name__":=by decide)(d:(x==("__debug__":c5))=bt:=by decide):DE X (.Name x pos) (dC<|.ty T):=PE.imp (zm (v:=.ty T) R m c rfl f d)<|rY rfl
theorem low2{K:v9}{S:SD}{M:v8}{ρ:List c8}{σ:St}{H:Hp}{P:D->D->v8->Prop}{G:V->V->Hp->Prop}(s:z6 K ρ M H)(r:SRep K ρ H S σ)(h:ta S M λx M1=>tb S M1 λy M2=>P x y M2)(k:∀x y vx vy M2 ρ2 H2,z6 K ρ2 M2 H2->Grow K ρ H ρ2 H2->w5 K ρ2 H2 x vx->w5 K ρ2 H2 y vy->P x y M2->G vx vy H2):lowE K ta σ H λvx H1=>lowE K tb σ H1 λvy H2=>G vx vy H2:=by refine⟨S,M,ρ,_,s,r,h,?_⟩;rintro vx H1 ⟨x,M1,c,d,g1,a,q⟩;refine⟨S,M1,c,_,d,r.grow g1,q,?_⟩;rintro vy H2 ⟨y,M2,ρ2,n,b,l,g⟩;exact k x y vx vy M2 ρ2 H2 n (g1.trans b) (a.grow b) l g
def u9(r:G3)(t b:A0):A0:=λS M Q=>t S M λx a=>b S a λy M2=>r x y M2 Q
theorem ph{K:v9}{r:G3}(σ:St)(H:Hp)(R:VK)(h:lowE K (u9 r ta tb) σ H R):O2 (lowR K r) (lowE K ta) (lowE K tb) σ H R:=by obtain⟨S,M,ρ,Q,s,c,q,k⟩:=h;exact low2 s c q λx y f i M2 d e n b a l g=>⟨x,y,M2,d,Q,n,a,l,g,λv H' w=>k v H'<|VQ.trans b w⟩
theorem d_op(B:G9 X (j7 op) r)(f:DE X a ta)(d:DE X b tb):DE X (.BinOp a op b pos) (u9 r ta tb):=PE.imp (pe_op B f d) ph
theorem d_cmp(B:G9 X (j8 op) r)(f:DE X a ta)(d:DE X b tb)(m:j9 op b=bt:=by with_unfolding_all rfl):DE X (.Compare a [op] [b] pos) (u9 r ta tb):=PE.imp (Fs B f d m) ph
def ax(t:A0):K0:=λS M Q=>t S M λx M'=>match x with
 |.bl b=>Q b M'
 |_=>False
theorem rX{K:v9}{t:A0}(σ:St)(H:Hp)(R:Bool->Hp->Prop)(h:lowT K (ax t) σ H R):HZ (lowE K t) σ H R:=by
 obtain⟨S,M,ρ,Q,s,c,q,k⟩:=h;refine⟨S,M,ρ,_,s,c,q,?_⟩;rintro v H' ⟨d,M',ρ',s',a,r',j⟩;cases r' with
 |bl b=>exact⟨b,rfl,k b H' ⟨M',ρ',s',a,j⟩⟩
 |_=>exact j.elim
theorem KA(B:G9 X (j8 op) r)(f:DE X a ta)(d:DE X b tb)(m:j9 op b=bt:=by with_unfolding_all rfl):DT X (.Compare a [op] [b] pos) (ax<|u9 r ta tb):=by refine PT.imp (Fe B f d m) λσ H R h=>?_;obtain⟨S,M,ρ,Q,s,c,q,k⟩:=rX σ H R h;exact ph σ H _ ⟨S,M,ρ,Q,s,c,q,k⟩
theorem Kx(h:DE X e t)(i:∀whole,isTrue e X.env whole=(do let v <-whole;standAt e.pos;i6 [v] (truthy v)):=by intro _;rfl):DT X e (ax t):=PT.imp (Iz h i) rX
def P7(z:D)(k:Bool->Prop):Prop:=match z with
 |.bl b=>k b
 |_=>False
theorem nT{b:Bool}{k:Bool->Prop}:P7 (.bl b) k=k b:=rfl
def sR(r r':G3)(t e f:A0):A0:=λS M Q=>t S M λx c=>e S c λy M2=>r x y M2 λz a=>P7 z λb=>if b=a9 then f S a λw d=>r' y w d Q else Q (.bl bt) a
theorem xr{K:v9}{r r':G3}(σ:St)(H:Hp)(R:VK)(h:lowE K (sR r r' ta tb tc) σ H R):Eh (lowR K r) (lowR K r') (lowE K ta) (lowE K tb) (lowE K tc) σ H R:=by
 obtain⟨S,M,ρ,Q,s,m,q,k⟩:=h;refine low2 s m q λx y E F M2 d A u g t l p=>⟨x,y,M2,d,_,u,t,l,p,?_⟩
 rintro I n ⟨z,c,a,i,g3,C,j⟩;cases C with
 |bl b =>
  cases b with
  |false=>exact⟨bt,rfl,bN<|k _ n ⟨_,c,a,i,g.trans g3,.bl bt,(show Q (.bl bt) c from j)⟩⟩
  |true=>refine⟨a9,rfl,bL ⟨S,c,a,_,i,m.grow<|g.trans g3,(show tc S c _ from j),?_⟩⟩;rintro D B ⟨w,o,e,P,f,L,G⟩;exact⟨y,w,o,e,Q,P,l.grow<|g3.trans f,L,G,λv H' Y=>k v H'<|VQ.trans ((g.trans g3).trans f) Y⟩
 |_=>exact j.elim
theorem Hc(B:G9 X (j8 op) r)(h:G9 X (j8 op') r')(f:DE X a ta)(d:DE X b tb)(e:DE X c tc)(m:lastMarks [op,op'] [b,c]=bt:=by with_unfolding_all rfl):DE X (.Compare a [op,op'] [b,c] pos) (sR r r' ta tb tc):=PE.imp (Ck B h f d e m) xr
variable{tA tB:K0}{aM:List f9}
def pK(t u:K0):K0:=λS M Q=>t S M λb a=>if b=a9 then u S a Q else Q bt a
def NS(t u:K0):K0:=λS M Q=>t S M λb a=>if b=a9 then Q a9 a else u S a Q
def DM(t:K0):K0:=λS M Q=>t S M λb a=>Q (!b) a
theorem GJ(f:DT X a tA):DW X (.BoolOp .And [a] pos) tA:=Fb f
theorem Kv(f:DT X a tA):DW X (.BoolOp .Or [a] pos) tA:=Iv f
theorem Kw(h:DT X a tA)(i:DW X (.BoolOp .And (b::aM) pos) tB):DW X (.BoolOp .And (a::b::aM) pos) (pK tA tB):=by
 refine PW.imp (Iy h i) ?_;rintro σ H R ⟨S,M,ρ,Q,s,r,q,k⟩;refine⟨S,M,ρ,_,s,r,q,?_⟩;rintro c H1 ⟨e,d,g,g1,f⟩;cases c with
 |true=>exact bL ⟨S,e,d,Q,g,r.grow g1,(show tB S e Q from f),λv H' w=>k v H'<|BQ.trans g1 w⟩
 |false=>exact bN<|k bt H1 ⟨e,d,g,g1,f⟩
theorem dw_or(h:DT X a tA)(i:DW X (.BoolOp .Or (b::aM) pos) tB):DW X (.BoolOp .Or (a::b::aM) pos) (NS tA tB):=by
 refine PW.imp (pw_or h i) ?_;rintro σ H R ⟨S,M,ρ,Q,s,r,q,k⟩;refine⟨S,M,ρ,_,s,r,q,?_⟩;rintro c H1 ⟨e,d,g,g1,f⟩;cases c with
 |false=>exact bN ⟨S,e,d,Q,g,r.grow g1,(show tB S e Q from f),λv H' w=>k v H'<|BQ.trans g1 w⟩
 |true=>exact bL<|k a9 H1 ⟨e,d,g,g1,f⟩
theorem dw_t(h:DW X e t):DT X e t:=PW.pt h
theorem Kz(f:DT X a tA):DT X (.UnaryOp .Not a pos) (DM tA):=by refine PT.imp (IA f) ?_;rintro σ H R ⟨S,M,ρ,Q,s,r,q,k⟩;refine⟨S,M,ρ,_,s,r,q,?_⟩;rintro c H1 ⟨d,b,g,g1,e⟩;exact k (!c) H1 ⟨d,b,g,g1,e⟩
def eY(t c:A0):A0:=λS M Q=>t S M λx a=>P7 x λb=>if b=a9 then c S a Q else Q (.bl bt) a
def dOrV(t c:A0):A0:=λS M Q=>t S M λx a=>P7 x λb=>if b=a9 then Q (.bl a9) a else c S a Q
def AT(t:A0):A0:=λS M Q=>t S M λx a=>match x with
 |.bl b=>Q (.bl<|!b) a
 |_=>False
theorem d_one{op}(h:DE X a ta):DE X (.BoolOp op [a] pos) ta:=IJ h
theorem d_and(i:DE X a ta)(j:DE X (.BoolOp .And (b::aM) pos) tb):DE X (.BoolOp .And (a::b::aM) pos) (eY ta tb):=by
 refine PE.imp (IR i j) ?_;rintro σ H R ⟨S,M,ρ,Q,s,r,q,k⟩;refine⟨S,M,ρ,_,s,r,q,?_⟩;rintro v H1 ⟨d,f,e,h,g1,l,g⟩;cases l with
 |bl c =>
  cases c with
  |true=>exact⟨a9,rfl,bL ⟨S,f,e,Q,h,r.grow g1,(show tb S f Q from g),λv H' w=>k v H'<|VQ.trans g1 w⟩⟩
  |false=>exact⟨bt,rfl,bN<|k _ H1 ⟨_,f,e,h,g1,.bl bt,(show Q (.bl bt) f from g)⟩⟩
 |_=>exact g.elim
theorem d_or(i:DE X a ta)(j:DE X (.BoolOp .Or (b::aM) pos) tb):DE X (.BoolOp .Or (a::b::aM) pos) (dOrV ta tb):=by
 refine PE.imp (pe_or i j) ?_;rintro σ H R ⟨S,M,ρ,Q,s,r,q,k⟩;refine⟨S,M,ρ,_,s,r,q,?_⟩;rintro v H1 ⟨d,f,e,h,g1,l,g⟩;cases l with
 |bl c =>
  cases c with
  |false=>exact⟨bt,rfl,bN ⟨S,f,e,Q,h,r.grow g1,(show tb S f Q from g),λv H' w=>k v H'<|VQ.trans g1 w⟩⟩
  |true=>exact⟨a9,rfl,bL<|k _ H1 ⟨_,f,e,h,g1,.bl a9,(show Q (.bl a9) f from g)⟩⟩
 |_=>exact g.elim
theorem d_not(h:DE X a ta):DE X (.UnaryOp .Not a pos) (AT ta):=by
 refine PE.imp (IK h) ?_;rintro σ H R ⟨S,M,ρ,Q,s,i,q,k⟩;refine⟨S,M,ρ,_,s,i,q,?_⟩;rintro v H1 ⟨d,f,b,g,g1,r,e⟩;cases r with
 |bl c=>exact⟨c,rfl,k _ H1 ⟨_,f,b,g,g1,.bl<|!c,e⟩⟩
 |_=>exact e.elim
variable{e:f9}{es:List f9}{te:A0}{t:G1}
def ag:G1:=λ_ M Q=>Q [] M
def aa(te:A0)(t:G1):G1:=λS M Q=>te S M λd a=>t S a λds M2=>Q (d::ds) M2
theorem KR:DA X [] ag:=by refine PA.imp zn ?_;rintro σ H R ⟨S,M,ρ,Q,s,c,q,k⟩;exact k [] H ⟨[],M,ρ,s,.refl,.nil,q⟩
theorem GZ(h:DE X e te)(i:DA X es t)(hs:i4 (e::es) X.env=(bt,eval e X.env)::i4 es X.env:=by rfl):DA X (e::es) (aa te t):=by refine PA.imp (lK h i hs) ?_;rintro σ H R ⟨S,M,ρ,Q,s,r,q,k⟩;refine⟨S,M,ρ,_,s,r,q,?_⟩;rintro v H1 ⟨d,g,c,o,g1,m,j⟩;refine⟨S,g,c,_,o,r.grow g1,j,?_⟩;rintro vs f ⟨ds,M2,a,p,b,n,l⟩;exact k _ f ⟨d::ds,M2,a,p,g1.trans b,.cons (m.grow b) n,l⟩
def cQ(t:G1):A0:=λS M Q=>t S M λds a=>ds.length<=sizeLine/\Q (.tup ds) a
def gM(t:G1):A0:=λS M Q=>t S M λds a=>ds.length<=sizeLine/\Q (.ref a.length) (a++[.lst ds])
theorem VQ.laidT{K:v9}{ρ c:List c8}{H H1:Hp}{a:v8}{ds:List D}{vs:List V}{Q:DK}{p:c8}(s:z6 K c a H1)(g1:Grow K ρ H c H1)(r:Reps K c H1 ds vs)(hp:H1 p=a8)(q:Q (.tup ds) a):VQ K ρ H Q (.ref p) (A2 H1 p<|.tup vs):=⟨.tup ds,a,c,s.laid hp,g1.trans<|Grow.laid hp,.tup (C5.of aJ)<|r.grow<|Grow.laid hp,q⟩
theorem VQ.laidL{K:v9}{ρ c:List c8}{H H1:Hp}{a:v8}{ds:List D}{vs:List V}{Q:DK}{p:c8}(s:z6 K c a H1)(g1:Grow K ρ H c H1)(r:Reps K c H1 ds vs)(hp:H1 p=a8)(q:Q (.ref a.length) (a++[.lst ds])):VQ K ρ H Q (.ref p) (A2 H1 p<|.lst vs):=⟨.ref a.length,a++[.lst ds],c++[p],s.laidL hp r,g1.trans<|Grow.laidR hp,.ref s.last,q⟩
theorem d_tup{x1}(h:DA X es t):DE X (.Tuple es x1 pos) (cQ t):=by refine PE.imp (IH h) ?_;rintro σ H R ⟨S,M,ρ,Q,s,a,q,k⟩;refine⟨S,M,ρ,_,s,a,q,?_⟩;rintro vs H1 ⟨ds,e,d,c,g1,r,z,b⟩;exact⟨by rw[<-r.length];exact z,λp hp=>k _ _<|VQ.laidT c g1 r hp b⟩
theorem d_lst(h:DA X es t):DE X (.List es pos) (gM t):=by refine PE.imp (IM h) ?_;rintro σ H R ⟨S,M,ρ,Q,s,a,q,k⟩;refine⟨S,M,ρ,_,s,a,q,?_⟩;rintro vs H1 ⟨ds,e,d,c,g1,r,z,b⟩;exact⟨by rw[<-r.length];exact z,λp hp=>k _ _<|VQ.laidL c g1 r hp b⟩
def w6(r:F7)(t:G1):A0:=λS M Q=>t S M λds a=>r ds a Q
theorem zJ{K:v9}{r:F7}(σ:St)(H:Hp)(R:VK)(h:lowE K (w6 r t) σ H R):Q7 (lowC K r) (lowA K t) σ H R:=by obtain⟨S,M,ρ,Q,s,f,q,k⟩:=h;refine⟨S,M,ρ,_,s,f,q,?_⟩;rintro vs H1 ⟨ds,a,c,e,g1,d,b⟩;exact⟨ds,a,c,Q,e,d,b,λv H' w=>k v H'<|VQ.trans g1 w⟩
theorem He{x:c5}{p:i0}{id:String}{r:F7}(c:jt X (.builtin id) r)(d:X.mg x=a8)(v:d9 x=a7 (.builtin id))(f:DA X (e::es) t)(R:Gl X x:=by rfl)(n:x≠"__name__":=by decide)(b:(x==("__debug__":c5))=bt:=by decide)(i:i4 (e::es) X.env=(bt,eval e X.env)::i4 es X.env:=by rfl) (l:(i3 pos<|i4 es X.env).any (·.1)=bt:=by rfl):DE X (.Call (.Name x p) (e::es) [] pos) (w6 r t):=PE.imp (oP c R d v f n b i l) zJ
theorem DJ(c:jt X (.type T) r)(d:X.mg x=a8)(v:d9 x=a7 (.type T))(f:DA X (e::es) t)(R:Gl X x:=by rfl)(n:x≠"__name__":=by decide)(b:(x==("__debug__":c5))=bt:=by decide)(i:i4 (e::es) X.env=(bt,eval e X.env)::i4 es X.env:=by rfl) (l:(i3 pos<|i4 es X.env).any (·.1)=bt:=by rfl):DE X (.Call (.Name x p) (e::es) [] pos) (w6 r t):=PE.imp (zk c R d v f n b i l) zJ
abbrev B5:=List D->v8->DK->Prop
def Mr(K:v9)(P:B5):Sp:=λvs H Q _=>∃ds M ρ R,z6 K ρ M H/\Reps K ρ H ds vs/\P ds M R/\∀v H',VQ K ρ H R v H'->Q v H'
theorem zH{K:v9}{P:B5}(σ:St)(H:Hp)(R:VK)(h:lowE K (w6 P t) σ H R):Ic (Mr K P) [] E0 (lowA K t) σ H R:=by obtain⟨S,M,ρ,Q,s,e,q,k⟩:=h;exact⟨S,M,ρ,_,s,e,q,λvs H1 ⟨ds,a,c,d,g1,r,b⟩=>⟨ds,a,c,Q,d,by rw[LS];exact r,b,λv H' w=>k v H'<|VQ.trans g1 w⟩⟩
theorem Lc(F:FnOk X.prog X.w X.K X.mg X.base K9 k f fd ps (Mr X.K P))(r:Room k X.A)(m:X.mg x=a7 (.ref f))(h:Nt X.K (.ref f)=a9)(d:mX X.K fd ps [])(a:DA X (e::es) t) (R:Gl X x:=by rfl) (b:(x==("__debug__":c5))=bt:=by decide) (i:i4 (e::es) X.env=(bt,eval e X.env)::i4 es X.env:=by rfl) (l:(i3 pos<|i4 es X.env).any (·.1)=bt:=by rfl):DE X (.Call (.Name x p) (e::es) [] pos) (w6 P t):=PE.imp (Ft F r R m h d .nil pass0 a b i l) zH
end
section
variable{X:Cx}{st:i5}{aM:List i5}{t u:v7}{e:f9}{te:A0}{pos:i0}
def aP:v7:=λE S M=>E.nx S M
def aB(t u:v7):v7:=λE S M=>t { E with nx:=λa M'=>u E a M' } S M
theorem KH:MX X [] aP:=by refine Lw.imp Fg ?_;rintro E σ H ⟨S,M,ρ,F,s,c,q,k⟩;exact k.nx σ H ⟨S,M,ρ,s,.refl,c,q⟩
theorem KG(h:DS X st t):MX X [st] t:=Ff h
theorem GP(h1:DS X st t)(h2:MX X aM u):MX X (st::aM) (aB t u):=by refine Lw.imp (Ce h1 h2) ?_;rintro E σ H ⟨S,M,ρ,F,s,c,q,k⟩;exact⟨S,M,ρ,_,s,c,q,⟨λd H' ⟨b,M',ρ',s',g,a,j⟩=>⟨b,M',ρ',F,s',a,j,k.trans g⟩,k.rt,k.bk,k.ct⟩⟩
def iM(te:A0):v7:=λE S M=>te S M λ_ a=>E.nx S a
theorem GO(i:DE X e te)(hs:i7 e a8 pos.line X.env=pure bt:=by rfl):DS X (.Expr e pos) (iM te):=by refine PS.imp (Fh i hs) ?_;rintro E σ H ⟨S,M,ρ,F,s,r,q,k⟩;refine⟨S,M,ρ,_,s,r,q,?_⟩;rintro v H1 ⟨d,a,c,f,g1,g,b⟩;exact k.nx σ H1 ⟨S,a,c,f,g1,r.grow g1,b⟩
def bp(te:A0):v7:=λE S M=>te S M E.rt
theorem KD(i:DE X e te):DS X (.Return (a7 e) pos) (bp te):=by refine PS.imp (IC i) ?_;rintro E σ H ⟨S,M,ρ,F,s,c,q,k⟩;exact⟨S,M,ρ,_,s,c,q,λv H1 w=>k.rt v H1 w⟩
def C9(c:K0)(t u:v7):v7:=λE S M=>c S M λb a=>if b=a9 then t E S a else u E S a
theorem ds_if(j:DT X c tc)(h:MX X a t)(i:MX X b u):DS X (.If c a b pos) (C9 tc t u):=by
 refine PS.imp (ps_if j h i) ?_;rintro E σ H ⟨S,M,ρ,F,s,r,q,k⟩;refine⟨S,M,ρ,_,s,r,q,?_⟩;rintro c H1 ⟨e,d,g,g1,f⟩;cases c with
 |true=>exact bL ⟨S,e,d,F,g,r.grow g1,(show t F S e from f),k.trans g1⟩
 |false=>exact bN ⟨S,e,d,F,g,r.grow g1,(show u F S e from f),k.trans g1⟩
def bd(te:A0)(i:Nat):v7:=λE S M=>te S M λd a=>E.nx (S.set i<|a7 d) a
theorem KC(h:X.N.Nodup)(b:DE X e te)(hi:X.N[i]?=a7 x:=by rfl)(g:NT X.env.scope x:=by first|exact Or.inl rfl|exact Or.inr rfl)(hs:i7 e (a7<|.Name x pos') pos.line X.env=pure bt:=by rfl)(f:X.fn x=a9\/X.env.scope.names.lookup x=a7 .local:=by first|exact .inl rfl|exact .inr rfl|assumption):DS X (.Assign [.Name x pos'] e pos) (bd te i):=by refine PS.imp (IB h hi g b hs f) ?_;rintro E σ H ⟨S,M,ρ,F,s,r,q,k⟩;refine⟨S,M,ρ,_,s,r,q,?_⟩;rintro v H1 ⟨d,a,c,m,g1,l,j⟩;exact k.nx _ H1 ⟨_,a,c,m,g1,(r.grow g1).set i l,j⟩
def af(i:Nat):Ly:=λd S M Q=>Q (S.set i<|a7 d) M
theorem uP(h:X.N.Nodup)(hi:X.N[i]?=a7 x:=by rfl)(a:NT X.env.scope x:=by first|exact Or.inl rfl|exact Or.inr rfl)(f:X.fn x=a9\/X.env.scope.names.lookup x=a7 .local:=by first|exact .inl rfl|exact .inr rfl|assumption):DG X (.Name x pos) (af i):=λp s σ H v u R I r ⟨d,S,M,ρ,Q,m,c,b,q,k⟩=>Fp h hi a f p s σ H v u R I r<|k _ H ⟨_,M,ρ,m,.refl,c.set i b,q⟩
end
theorem wS{P:c7}{w:c6}{K:v9}{tg:f9}(it:c8)(n:Nat)(N:Nat->b7->Prop)(PX:Nat->V->Prop)(Sx:Nat->d5->Prop)(W:∀A':e7,A'.handled=a8->o5 P w A' it [it] [it] n N Sx) (l:∀i v,N i v->∃x,aL x v/\PX i x)(j:∀i h,Sx i h->∃(o:c9) (nm:String) (vs:Array b7),h.get? it=a7 o/\o.cls=.type nm/\o.data=.fields vs/\["enumerate","zip","dict_itemiterator","dict_reverseitemiterator","odict_iterator","itertools.zip_longest","itertools.pairwise"].contains nm=bt)(a:∀(i:Nat) (h h':d5),Sx i h->(∀o,h.get? it=a7 o->h'.get? it=a7 o)->Sx i h')(g:∀(A:e7) (i:Nat) (s:e8) (Q:b7->e8->Prop) (E:b7->e8->Prop),Sx i s.heap->Q (.ref it) s->f8 (ge P w) A (j4<|.ref it) Q E s):Turn P w K tg ⟨λi _=>i<n,λi H x H'=>H'=H/\PX i x,λi _=>i=n⟩ [it] it Sx where
 mem:=by simp
 obj:=λi h t b f=>by
  have e:b=it:=by simpa using f
  subst e;obtain⟨o,nm,vs,e,_,d,_⟩:=j i h t;exact⟨o,e,λv z=>by rw[d]at z;cases z⟩
 keep:=λi h h' t k=>a i h h' t λo e=>k it (by simp) o e
 item:=by intro X F J D G i p s σ H E I q t R;subst F J D;obtain⟨r,u,S,y,B,C⟩:=q it (by simp);refine(W X.A<|I.ok.hd G).item i s _ _ R t λv h' M U m L=>?_;obtain⟨x,Z,Y⟩:=l i v U;have O:v4 X p σ H { s with heap:=h',toks:=M }:=I.turned (λb o f e=>L b o (by simpa using f) e) r u y B C;obtain⟨o,nm,vs,e,c,d,T⟩:=j _ _ m;exact⟨v,rfl,xJ (s:={ s with heap:=h',toks:=M }) e c d T ⟨x,H,O,Z,⟨rfl,Y⟩,m,λb f=>(q b f).1⟩⟩
 done:=by intro X F J D G i p s σ H E I q t R;subst F J D;obtain⟨r,u,S,y,B,C⟩:=q it (by simp);have hi:i=n:=R;subst hi;exact(W X.A<|I.ok.hd G).done s _ _ t λh' M L=>⟨rfl,I.turned (λb o f e=>L b o (by simpa using f) e) r u y B C⟩
 self:=g
noncomputable def za(x:c5):List D:=x.cps.toList.map λc=>.str ⟨#[c]⟩
structure Rg where
 items:List D
 ok:v8->Prop
abbrev L8:=SD->v8->(Rg->v8->Prop)->Prop
structure LZ(K:v9)(src:Rg)(ρ0:List c8)(H0:Hp)(J:It):Prop where
 go:∀(i:Nat) ρ M H,z6 K ρ M H->Grow K ρ0 H0 ρ H->src.ok M->i<src.items.length->J.go i H
 yld:∀(i:Nat) ρ M H x H',z6 K ρ M H->Grow K ρ0 H0 ρ H->src.ok M->i<src.items.length->J.yld i H x H'->∃d ρ',src.items[i]?=a7 d/\z6 K ρ' M H'/\Grow K ρ H ρ' H'/\w5 K ρ' H' d x
 stop:∀(ρ:List c8) M H,z6 K ρ M H->Grow K ρ0 H0 ρ H->src.ok M->J.stop src.items.length H
def IQ(K:v9)(ρ:List c8)(H:Hp)(Q:Rg->v8->Prop):It->Hp->Prop:=λJ H'=>∃src M' ρ',z6 K ρ' M' H'/\Grow K ρ H ρ' H'/\LZ K src ρ' H' J/\Q src M'
def lowI(K:v9)(i:L8):TI:=λσ H R=>∃S M ρ Q,z6 K ρ M H/\SRep K ρ H S σ/\i S M Q/\∀J H',IQ K ρ H Q J H'->R J H'
def DI(X:Cx)(g r:f9)(i:L8):Prop:=PI X g r<|lowI X.K i
theorem LZ.tup{K:v9}{ρ:List c8}{H:Hp}{a:c8}{vs:List V}{ds:List D}(h:C5 K H a vs)(r:Reps K ρ H ds vs)(q:∀ys,C5 K H a ys->ys=vs):LZ K ⟨ds,λ_=>True⟩ ρ H (RR K a) where
 go:=λi ρ' M H' s g _ hi=>by
  have l:i<vs.length:=by rw[<-r.length];exact hi
  exact⟨vs,vs[i],g.tup a vs h,A4 l⟩
 yld:=λi ρ' M H' x e s g _ hi y=>by obtain⟨rfl,y⟩:=y;obtain⟨d,b,c⟩:=(r.grow g).getV<|y vs<|g.tup a vs h;exact⟨d,ρ',b,s,.refl,c⟩
 stop:=λρ' M H' s g _=>⟨vs,g.tup a vs h,by rw[<-r.length];exact x9 _⟩
theorem LZ.lst{K:v9}{ρ:List c8}{H:Hp}{n:Nat}{a:c8}{ds:List D}(e:ρ[n]?=a7 a):LZ K ⟨ds,λM=>ak M n ds⟩ ρ H (RS K a) where
 go:=λi ρ' M H' s g ok hi=>by
  obtain⟨vs,h,r⟩:=ak.seq s ok<|ap g.pre e;have l:i<vs.length:=by rw[<-r.length];exact hi
  exact⟨vs,vs[i],h,A4 l⟩
 yld:=λi ρ' M H' x f s g ok hi y=>by obtain⟨rfl,y⟩:=y;obtain⟨vs,h,r⟩:=ak.seq s ok<|ap g.pre e;obtain⟨d,b,c⟩:=r.getV<|y vs h;exact⟨d,ρ',b,s,.refl,c⟩
 stop:=λρ' M H' s g ok=>by obtain⟨vs,h,r⟩:=ak.seq s ok<|ap g.pre e;exact⟨vs,h,by rw[<-r.length];exact x9 _⟩
theorem LZ.plain{K:v9}{ρ:List c8}{H:Hp}{ds:List D}{J:It}(R:∀i H,i<ds.length->J.go i H)(Q:∀i H x H',i<ds.length->J.yld i H x H'->H'=H/\∃d,ds[i]?=a7 d/\cV d=a7 x)(hs:∀H,J.stop ds.length H):LZ K ⟨ds,λ_=>True⟩ ρ H J where
 go:=λi ρ' M H' s g _ hi=>R i H' hi
 yld:=λi ρ' M H' x a s g _ hi y=>by obtain⟨rfl,d,h,c⟩:=Q i _ x a hi y;exact⟨d,ρ',h,s,.refl,Bf c⟩
 stop:=λρ' M H' s g _=>hs H'
section
variable{X:Cx}{tg:f9}
def cJ(te:A0):L8:=λS M R=>te S M λd a=>match d with
 |.tup ds=>ds.length<=sizeLine->R ⟨ds,λ_=>True⟩ a
 |.str x=>R ⟨za x,λ_=>True⟩ a
 |.ref n=>∃xs,ak a n xs/\(xs.length<=sizeLine->R ⟨xs,λM=>ak M n xs⟩ a)
 |_=>False
theorem KM(hl:DE X l tl):DI X tg l (cJ tl):=by
 intro y s σ H R I h;obtain⟨S,M,ρ,Q,sm,sr,q,k⟩:=h;refine A1 (hl y s σ H _ I ⟨S,M,ρ,_,sm,sr,q,λv H' w=>w⟩) ?_;rintro u f ⟨v,H1,g,U,d,F,D,j,g1,r1,C⟩;cases r1 with
 |non=>exact C.elim
 |bl b=>exact C.elim
 |int i=>exact C.elim
 |ty n=>exact C.elim
 |@tup a vs ds K r =>
  cases U;obtain⟨its,rr,p,T⟩:=g.tuple K;refine wpAny_pyIter_tuple (show f.heap.IsTuple a its.toArray from p) ?_;refine⟨f.heap.objs.size,[f.heap.objs.size],_,_,H1,rfl,g.kept (t':=f.toks) λb o e=>A3 _ e,wT a _,⟨_,C7 _ rfl,rfl,rfl⟩,λb J=>?_,k _ H1 ⟨⟨ds,λ_=>True⟩,F,D,j,g1,LZ.tup K r λys hy=>g.tuple_inj hy K,?_⟩⟩;have e:b=f.heap.objs.size:=by simpa using J
  subst e;exact g.fpOk (x9 _)<|g.hok.fresh<|x9 _;exact(show ds.length<=sizeLine->Q ⟨ds,λ_=>True⟩ F from C)<|by rw[r.length];exact T
 |@ref n a Y =>
  cases U;obtain⟨xs,hL,q2⟩:=(show ∃xs,ak F n xs/\(xs.length<=sizeLine->Q ⟨xs,λM=>ak M n xs⟩ F)from C)
  obtain⟨vs,K,r⟩:=ak.seq j hL Y;obtain⟨its,rr,p,T⟩:=g.list K;refine Qz p.isList ?_;refine⟨f.heap.objs.size,[f.heap.objs.size],_,_,H1,rfl,g.kept (t':=f.toks) λb o e=>A3 _ e,yh a _,⟨_,C7 _ rfl,rfl,rfl⟩,λb J=>?_,k _ H1 ⟨⟨xs,λM=>ak M n xs⟩,F,D,j,g1,LZ.lst Y,q2<|by rw[r.length];exact T⟩⟩;have e:b=f.heap.objs.size:=by simpa using J
  subst e;exact g.fpOk (x9 _)<|g.hok.fresh<|x9 _
 |str x =>
  obtain⟨t,rfl⟩:=U;have G:∀(B:String) (L:c9),(L.cls=.type B/\L.data=.fields #[.str x t,.int 0 0]) -> (∀N:e7,N.handled=a8->o5 X.prog X.w N f.heap.objs.size [f.heap.objs.size] [f.heap.objs.size] x.cps.size (SignAt x) (λi h=>h.IsStrIter f.heap.objs.size B x t i)) -> (∀(A:e7) (i:Nat) (s:e8) (Q:b7->e8->Prop) (E:b7->e8->Prop),s.heap.IsStrIter f.heap.objs.size B x t i->Q (.ref f.heap.objs.size) s->f8 (ge X.prog X.w) A (j4<|.ref f.heap.objs.size) Q E s) -> ["enumerate","zip","dict_itemiterator","dict_reverseitemiterator","odict_iterator","itertools.zip_longest","itertools.pairwise"].contains B=bt->(f.heap.push L).IsStrIter f.heap.objs.size B x t 0 -> Qb X y σ tg R (.ref f.heap.objs.size) { f with heap:=f.heap.push L }:=λB L ab W z P m=>by
   refine⟨f.heap.objs.size,[f.heap.objs.size],_,_,H1,rfl,g.kept (t':=f.toks) λb o e=>A3 _ e,wS (PX:=λi v=>∃c,x.cps[i]?=a7 c/\v=.str ⟨#[c]⟩) _ _ _ _ W (λi v ⟨c,u,Z,e2⟩=>⟨.str ⟨#[c]⟩,⟨u,e2⟩,c,Z,rfl⟩) (λi h m=>?_) (λi h h' m k=>?_) z,m,λb J=>?_,k _ H1 ⟨⟨za x,λ_=>True⟩,F,D,j,g1,LZ.plain ?_ ?_ ?_,C⟩⟩;obtain⟨o,e,c,d⟩:=m;exact⟨o,B,_,e,c,d,P⟩;obtain⟨o,e,r⟩:=m;exact⟨o,k o e,r⟩;have e:b=f.heap.objs.size:=by simpa using J
   subst e;exact g.fpOk (x9 _)<|g.hok.fresh<|x9 _;intro i _ hi;simpa [za]using hi;rintro i H x' H' _ ⟨rfl,c,e,rfl⟩;exact⟨rfl,.str ⟨#[c]⟩,by simp[za,e],rfl⟩;intro H;simp[za]
  cases V:x.cps.all (· < 128);exact wpAny_pyIter_wide V<|G _ _ ⟨rfl,rfl⟩ (λN O=>Walks.strWide O _ x t) (λ_ _ _ _ _ m h=>wpAny_pyIter_striter_wide m h) (by decide) ⟨_,C7 _ rfl,rfl,rfl⟩;exact wpAny_pyIter_ascii V<|G _ _ ⟨rfl,rfl⟩ (λN O=>Walks.strAscii O _ x t) (λ_ _ _ _ _ m h=>wpAny_pyIter_striter_ascii m h) (by decide) ⟨_,C7 _ rfl,rfl,rfl⟩
noncomputable def ie(lo:Int)(n:Nat):List D:=(E4 n).map λi=>.int<|lo+((i:Nat):Int)
theorem LZ.rng{K:v9}{ρ:List c8}{H:Hp}(lo:Int)(n:Nat):LZ K ⟨ie lo n,λ_=>True⟩ ρ H (Qd lo n):=by
 refine LZ.plain (λi _ hi=>?_) (λi H x H' hi y=>?_) λH=>?_;show i<n;simpa [ie]using hi;obtain⟨e,rfl⟩:=y;have h:i<n:=by simpa [ie]using hi
 exact⟨e,.int<|lo+i,by simp[ie,h],rfl⟩;show n<=(ie lo n).length;simp[ie]
def bK(t:G1):L8:=λS M R=>t S M λds a=>match ds with
 | [.int j]=>(-(2 ^ 62)<=j/\j<2 ^ 62)/\R ⟨ie 0 j.toNat,λ_=>True⟩ a
 |_=>False
theorem PI.imp(h:PI X tg iter t')(i:∀σ H R,t σ H R->t' σ H R):PI X tg iter t:=λp s σ H R I q=>h p s σ H R I<|i σ H R q
theorem AJ(m:X.mg "range" = a8)(f:DA X [a] ta)(g:Gl X "range":=by rfl)(hs:i4 [a] X.env=[(bt,eval a X.env)]:=by rfl):DI X tg (.Call (.Name "range" p) [a] [] pos) (bK ta):=by
 refine PI.imp (zh g m f hs) ?_;rintro σ H R ⟨S,M,ρ,Q,s,l,q,k⟩;refine⟨S,M,ρ,_,s,l,q,?_⟩;rintro vs H1 ⟨ds,e,d,i,g1,c,b⟩
 try dsimp only at b
 split at b;rename_i j;obtain⟨⟨h1,h2⟩,h⟩:=b
 first|have z:=Reps.inv_cons c|have z:=az.inv_cons c
 clear c;obtain⟨_,_,rfl,r,t⟩:=z;cases r;cases t;exact⟨j,rfl,h1,h2,k _ H1 ⟨_,e,d,i,g1,LZ.rng 0 j.toNat,h⟩⟩;exact b.elim
end
section
mutual
inductive E7(k:Nat):D->Prop
 |non:E7 k .non
 |bl (b:Bool):E7 k (.bl b)
 |int (i:Int):E7 k (.int i)
 |str (x:c5):E7 k (.str x)
 |ty (n:String):E7 k (.ty n)
 |tup {ds:List D} (h:Bels k ds):E7 k (.tup ds)
 |ref {n:Nat} (h:n<k):E7 k (.ref n)
inductive Bels(k:Nat):List D->Prop
 |nil:Bels k []
 |cons {d:D}{ds:List D} (h:E7 k d) (t:Bels k ds):Bels k (d::ds)
end
noncomputable def MO.items:MO->List D
 |.lst xs=>xs
 |.fz xs=>xs
 |.kl xs=>xs
 |.dct kvs=>kvs.map (·.2)
 |.dkt kvs=>kvs.map (·.2)
 |.dkq _ kvs=>kvs.map (·.2)
 |.fdc _ kvs=>kvs.map (·.2)
 |.dkm kvs=>kvs.map (·.2)
 |.tb _ _=>[]
 |.exc _=>[]
theorem w5.bel{K:v9}{ρ:List c8}{H:Hp}{d:D}{v:V}(h:w5 K ρ H d v):E7 ρ.length d:=w5.rec (motive_1:=λd v _=>E7 ρ.length d) (motive_2:=λds vs _=>Bels ρ.length ds) .non .bl .int .str .ty (λ_ _ r=>.tup r) (λh=>.ref (B6.mp h).1) .nil (λ_ _ h t=>.cons h t) h
theorem Reps.bel{K:v9}{ρ:List c8}{H:Hp}{ds:List D}{vs:List V}(h:Reps K ρ H ds vs):Bels ρ.length ds:=Reps.rec (motive_1:=λd v _=>E7 ρ.length d) (motive_2:=λds vs _=>Bels ρ.length ds) .non .bl .int .str .ty (λ_ _ r=>.tup r) (λh=>.ref (B6.mp h).1) .nil (λ_ _ h t=>.cons h t) h
theorem E7.inv(b:E7 k d):(∀ds,d=.tup ds->Bels k ds)/\∀n,d=.ref n->n<k:=by
 cases b with
 |tup b=>exact⟨(λ_ e=>by injection e with e;exact e ▸ b),(λ_ e=>by cases e)⟩
 |ref b=>exact⟨(λ_ e=>by cases e),(λ_ e=>by injection e with e;exact e ▸ b)⟩
 |_=>exact⟨(λ_ e=>by cases e),(λ_ e=>by cases e)⟩
theorem Bels.inv{k:Nat}{d:D}{ds:List D}(b:Bels k (d::ds)):E7 k d/\Bels k ds:=by
 cases b with
 |cons b c=>exact⟨b,c⟩
theorem w5.cut{K:v9}{ρ:List c8}{H:Hp}{k:Nat}{d:D}{v:V}(h:w5 K ρ H d v):E7 k d->w5 K (ρ.take k) H d v:=w5.rec (motive_1:=λd v _=>E7 k d->w5 K (ρ.take k) H d v) (motive_2:=λds vs _=>Bels k ds->Reps K (ρ.take k) H ds vs) (λ_=>.non) (λb _=>.bl b) (λb _=>.int b) (λb _=>.str b) (λb _=>.ty b) (λh _ r b=>.tup h<|r<|b.inv.1 _ rfl)
  (λh b=>.ref<|by rw[Ou<|b.inv.2 _ rfl];exact h) (λ_=>.nil) (λ_ _ h t b=>.cons (h b.inv.1)<|t b.inv.2) h
theorem Reps.cut{K:v9}{ρ:List c8}{H:Hp}{k:Nat}{ds:List D}{vs:List V}(h:Reps K ρ H ds vs):Bels k ds->Reps K (ρ.take k) H ds vs:=Reps.rec (motive_1:=λd v _=>E7 k d->w5 K (ρ.take k) H d v) (motive_2:=λds vs _=>Bels k ds->Reps K (ρ.take k) H ds vs) (λ_=>.non) (λb _=>.bl b) (λb _=>.int b) (λb _=>.str b) (λb _=>.ty b) (λh _ r b=>.tup h<|r<|b.inv.1 _ rfl)
  (λh b=>.ref<|by rw[Ou<|b.inv.2 _ rfl];exact h) (λ_=>.nil) (λ_ _ h t b=>.cons (h b.inv.1)<|t b.inv.2) h
theorem E7.mono{j k:Nat}(h:j<=k){d:D}(b:E7 j d):E7 k d:=E7.rec (motive_1:=λd _=>E7 k d) (motive_2:=λds _=>Bels k ds) .non .bl .int .str .ty (λ_ b=>.tup b) (λb=>.ref<|J1 b h) .nil (λ_ _ b c=>.cons b c) b
theorem Bels.mono{j k:Nat}(h:j<=k){ds:List D}(b:Bels j ds):Bels k ds:=Bels.rec (motive_1:=λd _=>E7 k d) (motive_2:=λds _=>Bels k ds) .non .bl .int .str .ty (λ_ b=>.tup b) (λb=>.ref<|J1 b h) .nil (λ_ _ b c=>.cons b c) b
theorem Bels.of:∀{xs:List D},(∀d∈xs,E7 k d)->Bels k xs
 | [],_=>.nil
 |d::ds,h=>.cons (h d F5)<|Bels.of λe he=>h e<|D4 _ he
section
variable{K:v9}{ρ ρ':List c8}{H H':Hp}{M M':v8}
theorem wl:∀(n:Nat) (d:D),cz n d=a9->E7 k d:=by
 intro n;induction n with
 |zero =>
  intro d h;cases d with
  |str x=>exact .str x
  |int x=>exact .int x
  |_=>cases h
 |succ n i =>
  intro d h;cases d with
  |str x=>exact .str x
  |int x=>exact .int x
  |tup ds=>exact .tup<|Bels.of λx a=>i x<|F4.mp (show ds.all (cz n)=a9 from h) x a
  |_=>cases h
theorem zY(r:Paired (oo K ρ H) kvs xs):Bels ρ.length (kvs.map (·.2)):=by
 induction r with
 |nil=>exact .nil
 |cons q _ i=>obtain⟨_,_,_,v,G,_⟩:=q;exact .cons G.bel i
theorem zX(r:Paired (oo K ρ H) kvs xs)(b:Bels k (kvs.map (·.2))):Paired (oo K (ρ.take k) H) kvs xs:=by
 induction r with
 |nil=>exact .nil
 |cons q _ i =>
  obtain⟨d,g,j,v,G,e⟩:=q;rw[D7]at b;cases b with
  |cons a c=>exact .cons ⟨d,g,j.cut<|wl _ _ g,v,G.cut a,e⟩<|i c
theorem CS:∀(d:D),keyM d=a9->E7 k d
 |.non,_=>.non
 |.tup ks,h=>wl 8 _ h
 |.bl _,h=>nomatch h
 |.int _,h=>nomatch h
 |.str _,h=>nomatch h
 |.ty _,h=>nomatch h
 |.ref _,h=>nomatch h
theorem FY(r:Paired (Qc K ρ H) kvs xs):Bels ρ.length (kvs.map (·.2)):=by
 induction r with
 |nil=>exact .nil
 |cons q _ i=>obtain⟨_,_,_,v,G,_⟩:=q;exact .cons G.bel i
theorem FX(r:Paired (Qc K ρ H) kvs xs)(b:Bels k (kvs.map (·.2))):Paired (Qc K (ρ.take k) H) kvs xs:=by
 induction r with
 |nil=>exact .nil
 |cons q _ i =>
  obtain⟨d,g,⟨u,j,l⟩,v,G,e⟩:=q;rw[D7]at b;cases b with
  |cons a c=>exact .cons ⟨d,g,⟨u,j.cut<|CS _ g,l⟩,v,G.cut a,e⟩<|i c
theorem ya.bels(h:ya K ρ H a mo):Bels ρ.length mo.items:=by
 cases mo with
 |lst ds=>obtain⟨vs,_,r⟩:=h;exact r.bel
 |fz ds=>obtain⟨o,vs,_,r⟩:=h;exact r.bel
 |kl ds=>obtain⟨vs,_,r⟩:=h;exact r.bel
 |dct kvs=>obtain⟨vs,_,r⟩:=h;exact r.bel
 |dkt kvs=>obtain⟨_,_,_,xs,_,r⟩:=h;exact zY r
 |dkq _ kvs=>obtain⟨_,_,_,xs,_,r⟩:=h;exact zY r
 |fdc o kvs=>obtain⟨vs,_,r⟩:=h;exact r.bel
 |dkm kvs=>obtain⟨_,_,_,xs,_,r⟩:=h;exact FY r
 |tb x b=>exact .nil
 |exc x=>exact .nil
theorem ya.cut(h:ya K ρ H a mo)(b:Bels k mo.items):ya K (ρ.take k) H a mo:=by
 cases mo with
 |lst ds=>obtain⟨vs,e,r⟩:=h;exact⟨vs,e,r.cut b⟩
 |fz ds=>obtain⟨o,vs,e,r⟩:=h;exact⟨o,vs,e,r.cut b⟩
 |kl ds=>obtain⟨vs,e,r⟩:=h;exact⟨vs,e,r.cut b⟩
 |dct kvs=>obtain⟨vs,e,r⟩:=h;exact⟨vs,e,r.cut b⟩
 |dkt kvs=>obtain⟨h1,h2,c,xs,e,r⟩:=h;exact⟨h1,h2,c,xs,e,zX r b⟩
 |dkq _ kvs=>obtain⟨h1,h2,c,xs,e,r⟩:=h;exact⟨h1,h2,c,xs,e,zX r b⟩
 |fdc o kvs=>obtain⟨vs,e,r⟩:=h;exact⟨vs,e,r.cut b⟩
 |dkm kvs=>obtain⟨h1,h2,c,xs,e,r⟩:=h;exact⟨h1,h2,c,xs,e,FX r b⟩
 |tb x b=>exact h
 |exc x=>exact h
theorem z6.bels(S:z6 K ρ M H){n:Nat}{mo:MO}(e:M[n]?=a7 mo):Bels M.length mo.items:=by obtain⟨a,_,h⟩:=S.get e;rw[<-S.len];exact h.bels
theorem z6.cut(S:z6 K ρ M H)(k:Nat)(d:∀(n:Nat) (mo:MO),n<k->M[n]?=a7 mo->Bels k mo.items):z6 K (ρ.take k) (M.take k) H:=by
 have lt:∀{n:Nat}{a:c8},(ρ.take k)[n]?=a7 a->n<k/\ρ[n]?=a7 a:=λ{n a} e=>by
  have h1:=(B6.mp e).1;rw[LC]at h1;have h2:n<k:=by lia
  rw[Ou h2]at e;exact⟨h2,e⟩
 refine⟨λn m a h t l=>?_,by rw[LC,LC,S.len],λn a mo t l=>?_⟩;obtain⟨b,f⟩:=lt t;obtain⟨c,N⟩:=lt l;rw[Ou b,Ou c];exact S.nd n m a h f N;obtain⟨b,f⟩:=lt t;rw[Ou b]at l;exact(S.obj n a mo f l).cut<|d n mo b l
theorem SRep.cut(r:SRep K ρ H S σ)(g:S'.length=S.length)(h:∀(i:Nat) d,S'[i]?=a7 (a7 d)->S[i]?=a7 (a7 d)/\E7 k d):SRep K (ρ.take k) H S' σ:=⟨g.trans r.len,λi d e=>let ⟨e',b⟩:=h i d e;let ⟨v,hv,rv⟩:=r.get i d e';⟨v,hv,rv.cut b⟩⟩
theorem Grow.cut(g:Grow K ρ H ρ' H')(h:ρ.length<=k):Grow K ρ H (ρ'.take k) H':=by refine⟨?_,g.tup⟩;obtain⟨t,rfl⟩:=g.pre;rw[List.take_append];rw[PQ h];exact LM _ _
end
inductive FgtS(k:Nat):SD->SD->Prop
 |nil:FgtS k [] []
 |keep {d:D}{S S':SD} (h:E7 k d) (t:FgtS k S S'):FgtS k (a7 d::S) (a7 d::S')
 |drop {o:Option D}{S S':SD} (t:FgtS k S S'):FgtS k (o::S) (a8::S')
theorem FgtS.len(h:FgtS k S S'):S'.length=S.length:=by
 induction h with
 |nil=>rfl
 |keep _ _ i=>rw[E9,E9,i]
 |drop _ i=>rw[E9,E9,i]
theorem FgtS.get(h:FgtS k S S'):∀(i:Nat) d,S'[i]?=a7 (a7 d)->S[i]?=a7 (a7 d)/\E7 k d:=by
 induction h with
 |nil=>intro i d e;simp at e
 |keep b _ a =>
  intro i d e;cases i with
  |zero=>simp at e;subst e;exact⟨rfl,b⟩
  |succ i=>exact a i d<|by simpa using e
 |drop _ a =>
  intro i d e;cases i with
  |zero=>simp at e
  |succ i=>exact a i d<|by simpa using e
def C6(b:v8)(P:SD->v8->Prop)(S:SD)(M:v8):Prop:=P S M\/(∃k a,b.length<=k/\FgtS k S a/\(∀(n:Nat) mo,n<k->M[n]?=a7 mo->Bels k mo.items)/\P a (M.take k))\/∃a,FgtS b.length S a/\b <+: M/\P a b
theorem BP{α:Type}{l l':List α}(h:l <+: l'):l'.take l.length=l:=by obtain⟨t,rfl⟩:=h;rw[List.take_append_of_le_length<|x9 _,Mx]
theorem SQ.fgt{K:v9}{ρ:List c8}{H:Hp}{b:v8}{P:SD->v8->Prop}{c:St}{H':Hp}(s0:z6 K ρ b H)(h:SQ K ρ H (C6 b P) c H'):SQ K ρ H P c H':=by
 have d:ρ.length<=b.length:=by rw[s0.len];exact x9 _
 obtain⟨S,M',ρ',s',g,a,j⟩:=h;rcases j with j|⟨k,S2,h1,h2,f,q⟩|⟨S2,h2,hp,q⟩
 exact⟨S,M',ρ',s',g,a,j⟩;exact⟨S2,M'.take k,ρ'.take k,s'.cut k f,g.cut<|K3 d h1,a.cut h2.len h2.get,q⟩;have s:=s'.cut b.length λn m i e=>by obtain⟨t,rfl⟩:=hp;rw[LF i]at e;exact s0.bels e
 rw[BP hp]at s;exact⟨S2,b,ρ'.take b.length,s,g.cut d,a.cut h2.len h2.get,q⟩
def sQ(ok:v8->Prop)(g:Ly)(tb:v7)(E:DEnds)(k0:v8):List D->SD->v8->Prop
 | [],S,M=>ok M/\E.nx S M
 |x::xs,S,M=>ok M/\g x S M λS2 M2=>tb ⟨C6 k0<|sQ ok g tb E k0 xs,E.rt,E.nx,C6 k0<|sQ ok g tb E k0 xs⟩ S2 M2
def jP(i:L8)(g:Ly)(b:v7):v7:=λE S M=>i S M λsrc a=>sQ src.ok g b E a src.items S a
theorem sN{α:Type}{l:List α}{i:Nat}{x:α}(h:l[i]?=a7 x):l.drop i=x::l.drop (i+1):=by obtain⟨hi,e⟩:=B6.mp h;rw[QV hi,e]
theorem CC{K:v9}{N:L8}{g:Ly}{r:v7}(E:Ends)(σ:St)(H:Hp)(h:lowS K (jP N g r) E σ H):tFor (lowI K N) (lowG K g) (lowS K r) E σ H:=by
 obtain⟨S,M,ρ,F,s,R,q,k⟩:=h;refine⟨S,M,ρ,_,s,R,q,?_⟩;rintro J H1 ⟨src,l,c,Q,g1,it,q1⟩;have B:=k.trans g1;refine⟨λi m τ f=>∃S2 M2 a,z6 K a M2 f/\Grow K c H1 a f/\SRep K a f S2 τ/\i<=src.items.length/\m=src.items.length-i/\sQ src.ok g r F l (src.items.drop i) S2 M2,⟨_,S,l,c,Q,.refl,R.grow g1,D6 _,rfl,q1⟩,?_⟩;rintro i m τ f ⟨S2,M2,a,A,o,p,hi,rfl,w⟩;by_cases t:i<src.items.length;have O:src.items[i]?=a7 src.items[i]:=A4 t;rw[sN O]at w;obtain⟨ok,C⟩:=(show src.ok M2/\g src.items[i] S2 M2 _ from w)
 refine .inr ⟨it.go i a M2 f A o ok t,_,λab H' z=>z,λx T y=>?_⟩;obtain⟨d,I,hd,s3,g3,r3⟩:=it.yld i a M2 f x T A o ok t y;have ed:d=src.items[i]:=D0<|hd.symm.trans O;subst ed;refine⟨_,S2,M2,I,_,s3,p.grow g3,r3,C,?_⟩;rintro ai U ⟨Y,W,u,s4,g4,D,q4⟩;have j:=(o.trans g3).trans g4;refine⟨Y,W,u,_,s4,D,q4,?_⟩;have n:∀b V,SQ K u U (C6 l<|sQ src.ok g r F l<|src.items.drop<|i+1) b V -> ∃P,P < src.items.length-i/\∃S2 M2 a,z6 K a M2 V/\Grow K c H1 a V/\SRep K a V S2 b/\i+1<=src.items.length/\P=src.items.length-(i+1)/\sQ src.ok g r F l (src.items.drop<|i+1) S2 M2:=λb V z=>by obtain⟨Z,X,L,s5,g5,G,q5⟩:=SQ.fgt (ρ:=c) (H:=H1) Q<|SQ.trans j z;exact⟨_,by lia,Z,X,L,s5,g5,G,t,rfl,q5⟩
 exact⟨n,λv V z=>B.rt v V<|VQ.trans j z,λb V z=>B.nx b V<|SQ.trans j z,n⟩;have e:i=src.items.length:=by lia
 subst e;rw[List.drop_of_length_le<|x9 _]at w;obtain⟨ok,C⟩:=(show src.ok M2/\F.nx S2 M2 from w)
 exact .inl ⟨it.stop a M2 f A o ok,B.nx τ f ⟨S2,M2,a,A,o,p,C⟩⟩
section
variable{X:Cx}
theorem KI(hi:DI X tg iter di)(R:DG X tg g)(d:MX X body tb)(hp:PassesOwn (ge X.prog X.w) X.A X.env X.xe:=by exact PassesOwn.never)(f:X.calm=a9:=by rfl)(hs:∀x,j6 iter X.env x=pure x:=by intro _;rfl):DS X (.For tg iter body [] pos) (jP di g tb):=PS.imp (ID hp f hi R d hs) CC
noncomputable def KQ(t:Nat)(s:List Nat)(S:SD):SD:=NX t a8++s.map λj=>(S[j]?).join
def mz(ok:v8->Prop)(g:Ly)(tt:K0)(te:A0)(Q:DK):List D->List D->SD->v8->Prop
 | [],acc,S,M=>ok M/\Q (.ref M.length) (M++[.lst acc])
 |x::xs,acc,S,M=>ok M/\g x S M λS2 M2=>tt S2 M2 λb M3=>if b=a9 then te S2 M3 λy M4=>acc.length<sizeLine/\mz ok g tt te Q xs (acc++[y]) S2 M4 else mz ok g tt te Q xs acc S2 M3
def LH(t:Nat)(s:List Nat)(i:L8)(g:Ly)(tt:K0)(te:A0):A0:=λS M Q=>i S M λsrc a=>mz src.ok g tt te Q src.items [] (KQ t s S) a
theorem SRep.bst{K:v9}{ρ:List c8}{H:Hp}{S:SD}{σ:St}(r:SRep K ρ H S σ)(t:Nat)(s:List Nat):SRep K ρ H (KQ t s S) (L2.bst t s σ):=by
 refine⟨by simp[KQ,Bi],λi d e=>?_⟩;unfold KQ at e;unfold L2.bst;by_cases hi:i<t;rw[LF (by simpa using hi),QR]at e;simp[hi]at e;rw[Mp (by simpa using Nm.mp hi),QK,E1]at e;rw[Mp (by simpa using Nm.mp hi),QK,E1];cases q:s[i-t]? with
 |none=>rw[q]at e;cases e
 |some j =>
  rw[q]at e;have a:(S[j]?).join=a7 d:=by simpa using e
  cases g:S[j]? with
  |none=>rw[g]at a;cases a
  |some o=>rw[g]at a;have l:o=a7 d:=a;subst l;obtain⟨v,c,b⟩:=r.get j d g;exact⟨v,by simp[c],b⟩
theorem zI{K:v9}{B:Nat}{A:List Nat}{O:L8}{g:Ly}{tt:K0}{te:A0}(σ:St)(H:Hp)(R:VK)(h:lowE K (LH B A O g tt te) σ H R):Q6 B A (lowI K O) (lowG K g) (lowT K tt) (lowE K te) σ H R:=by
 obtain⟨S,M,ρ,Q,s,U,q,k⟩:=h;refine⟨S,M,ρ,_,s,U,q,?_⟩;rintro J H1 ⟨src,W,n,s1,g1,it,q1⟩;refine⟨λi m vs τ c=>∃S2 M2 a acc,z6 K a M2 c/\Grow K n H1 a c/\SRep K a c S2 τ/\Reps K a c acc vs/\i<=src.items.length/\m=src.items.length-i/\mz src.ok g tt te Q (src.items.drop i) acc S2 M2,⟨_,_,W,n,[],s1,.refl,(U.grow g1).bst B A,.nil,D6 _,rfl,q1⟩,?_⟩;rintro i m vs τ c ⟨S2,M2,a,acc,u,l,F,r,hi,rfl,o⟩;by_cases t:i<src.items.length;have P:src.items[i]?=a7 src.items[i]:=A4 t;rw[sN P]at o;obtain⟨ok,C⟩:=(show src.ok M2/\g src.items[i] S2 M2 _ from o)
 refine .inr ⟨it.go i a M2 c u l ok t,λx V y=>?_⟩;obtain⟨d,G,hd,s3,g3,r3⟩:=it.yld i a M2 c x V u l ok t y;have ed:d=src.items[i]:=D0<|hd.symm.trans P;subst ed;refine⟨_,S2,M2,G,_,s3,F.grow g3,r3,C,?_⟩;rintro ab H4 ⟨Y,Z,I,s4,w,D,q4⟩;refine⟨Y,Z,I,_,s4,D,q4,?_⟩;rintro b H5 ⟨X,L,s5,f,T⟩;have j:=((l.trans g3).trans w).trans f;cases b with
 |false=>exact bN ⟨_,by lia,Y,X,L,acc,s5,j,D.grow f,r.grow<|(g3.trans w).trans f,t,rfl,(show mz src.ok g tt te Q (src.items.drop<|i+1) acc Y X from T)⟩
 |true=>refine bL ⟨Y,X,L,_,s5,D.grow f,(show te Y X _ from T),?_⟩;rintro v H6 ⟨y',M6,N,s6,z,r6,hl,q6⟩;have E:=r.grow<|((g3.trans w).trans f).trans z;exact⟨by rw[<-r.length];exact hl,_,by lia,Y,M6,N,acc++[y'],s6,j.trans z,D.grow<|f.trans z,E.append<|.cons r6 .nil,t,rfl,q6⟩
 have e:i=src.items.length:=by lia
 subst e;rw[List.drop_of_length_le<|x9 _]at o;obtain⟨ok,C⟩:=(show src.ok M2/\Q (.ref M2.length) (M2++[.lst acc])from o)
 exact .inl ⟨it.stop a M2 c u l ok,λp hp=>k _ _<|VQ.laidL u (g1.trans l) r hp C⟩
theorem d_lc(B:BlkSc X N' nt js scope)(hi:DI X tg iter di)(R:∀cl s0 H0 ex,DG (D5 X N' scope cl s0 H0 ex) tg g) (D:∀cl s0 H0 ex,Nk (D5 X N' scope cl s0 H0 ex) ifs<|lowT X.K tt) (i:∀cl s0 H0 ex,DE (D5 X N' scope cl s0 H0 ex) elt te) (f:X.calm=a9:=by rfl)(hs:∀x,j6 iter X.env x=pure x:=by intro _;rfl):DE X (.ListComp elt [⟨tg,iter,ifs,0⟩] scope pos) (LH nt js di g tt te):=PE.imp (pe_lc (g:=lowG X.K g) (tt:=lowT X.K tt) (te:=lowE X.K te) B f hi (λcl s0 H0 ex=>R cl s0 H0 ex) D (λcl s0 H0 ex=>i cl s0 H0 ex) hs) zI
def pV:K0:=λ_ M Q=>Q a9 M
theorem GL:Nk X [] (lowT X.K pV):=λp s σ H R I ⟨S,M,ρ,Q,m,c,q,k⟩=>Fd p s σ H R I<|k a9 H ⟨M,ρ,m,.refl,q⟩
theorem GK(h:DT X c t):Nk X [c] (lowT X.K t):=Fc h
end
def OD(M a:v8):Prop:=a.length=M.length/\∀(i:Nat) (m:MO),a[i]?=a7 m->M[i]?=a7 m\/Bels M.length m.items
theorem OD.refl:OD M M:=⟨rfl,λ_ _ h=>.inl h⟩
def aV(M:v8)(R:DK):DK:=λd M'=>R d M'\/(∃a,OD M a/\E7 M.length d/\a <+: M'/\R d a)\/∃a n xs,OD M a/\d=.ref n/\M.length<=n/\M'[n]?=a7 (.lst xs)/\a <+: M'/\Bels M.length xs/\R (.ref M.length) (a++[.lst xs])
theorem bC{α:Type}{l l':List α}(h:l <+: l'):l'.take l.length=l:=by obtain⟨t,rfl⟩:=h;rw[List.take_append_of_le_length<|x9 _,Mx]
theorem VQ.endq{K:v9}{ρ:List c8}{M:v8}{H:Hp}{R:DK}{v:V}{H':Hp}(s:z6 K ρ M H)(h:VQ K ρ H (aV M R) v H'):VQ K ρ H R v H':=by
 obtain⟨d,M',ρ',s',w,r',W⟩:=h;have k:ρ'.take M.length=ρ:=by rw[<-s.len];exact bC w.pre
 rcases W with q|⟨g,c,b,f,q⟩|⟨g,n,xs,c,rfl,T,e,f,b,q⟩
 exact⟨d,M',ρ',s',w,r',q⟩;have i:=s'.cut M.length λn r u e=>by
  have D:g[n]?=a7 r:=by obtain⟨t,rfl⟩:=f;rw[LF<|by rw[c.1];exact u]at e;exact e
  exact(c.2 n r D).elim (λz=>s.bels z) id
 have J:M'.take M.length=g:=by rw[<-c.1];exact bC f
 rw[k,J]at i;have B:=r'.cut b;rw[k]at B;exact⟨d,g,ρ,i,⟨Nd,w.tup⟩,B,q⟩;have i:=s'.cut M.length λn r u e=>by
  have D:g[n]?=a7 r:=by obtain⟨t,rfl⟩:=f;rw[LF<|by rw[c.1];exact u]at e;exact e
  exact(c.2 n r D).elim (λz=>s.bels z) id
 have J:M'.take M.length=g:=by rw[<-c.1];exact bC f
 rw[k,J]at i;obtain⟨a,rfl,u⟩:=w5.inv_ref r';obtain⟨vs,Q,X⟩:=s'.obj n a _ u e;have B:=X.cut b;rw[k]at B;have O:Grow K ρ H' (ρ++[a]) H':=⟨LM _ _,λ_ _ h=>h⟩
 have A:∀(m:Nat),ρ[m]?=a7 a->LY g[m]?:=λm F=>by
  have S:m≠n:=λz=>by
   have:m<M.length:=by rw[<-s.len];exact(B6.mp F).1
   lia
  have q:=s'.nd m n a S (ap w.pre F) u;have G:m<M.length:=by rw[<-s.len];exact(B6.mp F).1
  rcases q with⟨ds,z⟩|⟨ds,z⟩
  refine⟨ds,?_⟩;have o:m<g.length:=by rw[c.1];exact G
  have:=ap f<|A4 o;rw[z]at this;rw[A4 o];exact this.symm;rw[e]at z;cases z
 refine⟨.ref M.length,g++[.lst xs],ρ++[a],⟨λy U C x E l=>?_,by rw[E3,E3,i.len];rfl,λy C r E l=>?_⟩,⟨LM _ _,w.tup⟩,.ref (by have:=i.last (p:=a);rw[c.1]at this;exact this),q⟩;rcases aW E with j|⟨j,L⟩
 rcases aW l with N|⟨N,P⟩
 exact(i.nd y U C x j N).elim (λz=>.inl z.more) λz=>.inr z.more;subst P;exact .inl (A y j).more;rcases aW l with N|⟨N,P⟩
 subst L;exact .inr (A U N).more;exact t8 (j.trans N.symm) x;rcases aW E with j|⟨j,L⟩
 have I:y<g.length:=by rw[<-i.len];exact(B6.mp j).1
 rw[LF I]at l;exact(i.obj y C r j l).grow O<|.inl rfl;subst L j;rw[i.len,Mp<|x9 _,No]at l;simp at l;subst l;exact⟨vs,Q,B.grow O⟩
noncomputable def cc(N:List c5)(ds:List D):SD:=ds.map a7++NX (N.length-ds.length) a8
theorem SRep.start{K:v9}{ρ:List c8}{H:Hp}{ds:List D}{vs:List V}(r:Reps K ρ H ds vs)(N:List c5):SRep K ρ H (cc N ds) (L2.start N vs):=by
 refine⟨by simp[cc,L2.start,r.length],λi d e=>?_⟩;unfold cc at e;unfold L2.start;by_cases hi:i<ds.length;rw[LF (by simpa using hi),E1]at e;rw[LF (by simpa [<-r.length]using hi),E1];have a:ds[i]?=a7 d:=by rw[A4 hi]at e ⊢;simpa using e
 obtain⟨v,c,b⟩:=r.get a;exact⟨v,by rw[c];rfl,b⟩;rw[Mp (by simpa using Nm.mp hi),QR]at e;split at e<;>cases e
theorem d_fn{P:c7}{w:c6}{K:v9}{mg:c5->Option b7}{base:d5}{x l:c5}{st:i5}{f:c8}{d:k9}{N ps:List c5}{k:Nat}(c:B5)(F:MH K x l st f d)(e:FnScope N ps (av st))(B:∀ds M R,c ds M R->ds.length=ps.length)(y:∀(cdv:b7) (A:e7) (outer:List Env) (s:e8) (H:Hp) (E:XK),Room k (A.deeper<|b9 l (av st) s.heap.objs.size f cdv) -> ∃t,MX (pL K9 P w K mg base N l (av st) f cdv A outer s H E).nox (bB st) t/\∀ds M R,c ds M R->t ⟨λ_ M'=>aV M R .non M',aV M R,λ_ _=>False,λ_ _=>False⟩ (cc N ds) M):FnOk P w K mg base K9 (k+1) f d ps (Mr K c):=by refine F.ok e (λvs H Q E ⟨ds,M,ρ,R,s,r,q,_⟩=>by rw[<-r.length];exact B ds M R q) λcdv A outer s H vs Q E n h=>?_;obtain⟨ds,M,ρ,R,m,r,q,D⟩:=h;obtain⟨t,o,i⟩:=y cdv A outer s H E n;refine⟨lowS K t,o,cc N ds,M,ρ,_,m,SRep.start r N,i ds M R q,⟨λb H' ⟨S,M',ρ',s',g,a,j⟩=>?_,λv H' z=>D v H'<|VQ.endq m z,λb H' ⟨S,M',ρ',s',g,a,j⟩=>j.elim,λb H' ⟨S,M',ρ',s',g,a,j⟩=>j.elim⟩⟩;exact D .non H'<|VQ.endq m ⟨.non,M',ρ',s',g,.non,j⟩
end
section
variable{X:Cx}
theorem dfin(I:v4 X pins σ H s)(m:z6 X.K ρ M H)(k:∀v H',VQ X.K ρ H Q v H'->R v H')(c:cV d=a7 v)(r:aL v u)(q:Q d M):EP X pins σ R u s:=⟨v,H,I,r,k v H<|VQ.now m (Bf c) q⟩
theorem eN(I:v4 X pins σ H s)(m:z6 X.K ρ M H)(k:∀v H',VQ X.K ρ H Q v H'->R v H')(q:Q (.bl b) M):EP X pins σ R (.bool b) s:=⟨.bl b,H,I,rfl,k _ H<|VQ.now m (.bl b) q⟩
def qAdd:G3:=λx y M Q=>match x,y with
 |.int i,.int j=>Q (.int<|i+j) M
 |.str a,.str b=>a.length+b.length<=sizeLine/\Q (.str<|a++b) M
 |.ref n,.ref m=>∃xs ys,M[n]?=a7 (.lst xs)/\M[m]?=a7 (.lst ys)/\xs.length+ys.length<=sizeLine/\Q (.ref M.length) (M++[.lst<|xs++ys])
 |_,_=>False
theorem Jk:G9 X (j7 .Add) qAdd:=by refine E8.imp (IZ.or<|xc.or IY) ?_;rintro f i H R ⟨x,y,M,ρ,Q,m,r,l,q,k⟩;unfold qAdd at q;split at q;cases r;cases l;exact .inl ⟨_,_,rfl,rfl,k _ H<|VQ.now m (.int _) q⟩;cases r;cases l;exact .inr<|.inl ⟨_,_,rfl,rfl,q.1,k _ H<|VQ.now m (.str _) q.2⟩;obtain⟨xs,ys,t,e,g,q⟩:=q;obtain⟨_,rfl,h1⟩:=w5.inv_ref r;obtain⟨_,rfl,h2⟩:=w5.inv_ref l;obtain⟨vs,n,g1⟩:=m.obj _ _ _ h1 t;obtain⟨s,N,b⟩:=m.obj _ _ _ h2 e;exact .inr<|.inr ⟨_,_,vs,s,rfl,rfl,n,N,by rw[<-g1.length,<-b.length];exact g,λp hp=>k _ _<|VQ.laidL m .refl (g1.append b) hp q⟩;exact q.elim
def Hs:G3:=λx y M Q=>match x,y with
 |.int i,.int j=>Q (.int<|i-j) M
 |_,_=>False
theorem Jf:G9 X (j7 .Sub) Hs:=by refine E8.imp IT ?_;rintro f i H R ⟨x,y,M,ρ,Q,m,r,l,q,k⟩;unfold Hs at q;split at q;cases r;cases l;exact⟨_,_,rfl,rfl,k _ H<|VQ.now m (.int _) q⟩;exact q.elim
def tD(i j:Int):Prop:=0<j/\j<340282366920938463463374607431768211456
theorem Cl:E8 X (j7 .FloorDiv) (rI tD λi j=>.int<|i / j):=O5 λi j _ _ _ _ _ f q=>by have h1:(0:Int)<j:=f.1;have h2:j<340282366920938463463374607431768211456:=f.2;have a:j.natAbs.log2<128:=(Nat.log2_lt<|by lia).mpr (by rw[show (2:Nat) ^ 128=340282366920938463463374607431768211456 by decide];lia);exact floordiv_int (by lia) (by rw[Int.fdiv_eq_ediv_of_nonneg i<|by lia];exact q)<|.inl<|PyProof.noPylong_of_log2<|by lia
def aN:G3:=λx y M Q=>match x,y with
 |.int i,.int j=>tD i j/\Q (.int<|i / j) M
 |_,_=>False
theorem FH:G9 X (j7 .FloorDiv) aN:=by refine E8.imp Cl ?_;rintro f i H R ⟨x,y,M,ρ,Q,m,r,l,q,k⟩;unfold aN at q;split at q;cases r;cases l;exact⟨_,_,rfl,rfl,q.1,k _ H<|VQ.now m (.int _) q.2⟩;exact q.elim
def bY:G3:=λx y M Q=>match x,y with
 |.int i,.int j=>0<j/\Q (.int<|i % j) M
 |_,_=>False
theorem Ji:G9 X (j7 .Mod) bY:=by refine E8.imp IX ?_;rintro f i H R ⟨x,y,M,ρ,Q,m,r,l,q,k⟩;unfold bY at q;split at q;cases r;cases l;exact⟨_,_,rfl,rfl,q.1,k _ H<|VQ.now m (.int _) q.2⟩;exact q.elim
noncomputable def cf(a b:c5):Bool:=decide<|a.cps.toList<b.cps.toList
def Ni:G3:=λx y M Q=>match x,y with
 |.int i,.int j=>Q (.bl<|decide<|i<j) M
 |.str a,.str b=>Q (.bl<|cf a b) M
 |_,_=>False
def O3:G3:=λx y M Q=>match x,y with
 |.int i,.int j=>Q (.bl<|decide<|i<=j) M
 |.str a,.str b=>Q (.bl<|!cf b a) M
 |_,_=>False
def NQ:G3:=λx y M Q=>match x,y with
 |.int i,.int j=>Q (.bl<|decide<|j<i) M
 |.str a,.str b=>Q (.bl<|cf b a) M
 |_,_=>False
def O4:G3:=λx y M Q=>match x,y with
 |.int i,.int j=>Q (.bl<|decide<|j<=i) M
 |.str a,.str b=>Q (.bl<|!cf a b) M
 |_,_=>False
theorem od_lt:G9 X (j8 .Lt) Ni:=by rintro p s σ H f a v u R I g i ⟨x,y,M,ρ,Q,m,r,l,q,k⟩;unfold Ni at q;split at q;cases r;cases l;exact op_lt p s σ H _ _ v u R I g i ⟨_,_,rfl,rfl,k _ H<|VQ.now m (.bl _) q⟩;cases r;cases l;obtain⟨t,rfl⟩:=g;obtain⟨t',rfl⟩:=i;exact PySem.P.lt_str<|eN I m k q;exact q.elim
theorem od_le:G9 X (j8 .LtE) O3:=by rintro p s σ H f a v u R I g i ⟨x,y,M,ρ,Q,m,r,l,q,k⟩;unfold O3 at q;split at q;cases r;cases l;exact op_le p s σ H _ _ v u R I g i ⟨_,_,rfl,rfl,k _ H<|VQ.now m (.bl _) q⟩;cases r;cases l;obtain⟨t,rfl⟩:=g;obtain⟨t',rfl⟩:=i;exact PySem.P.le_str<|eN I m k q;exact q.elim
theorem od_gt:G9 X (j8 .Gt) NQ:=by rintro p s σ H f a v u R I g i ⟨x,y,M,ρ,Q,m,r,l,q,k⟩;unfold NQ at q;split at q;cases r;cases l;exact op_gt p s σ H _ _ v u R I g i ⟨_,_,rfl,rfl,k _ H<|VQ.now m (.bl _) q⟩;cases r;cases l;obtain⟨t,rfl⟩:=g;obtain⟨t',rfl⟩:=i;exact PySem.P.gt_str<|eN I m k q;exact q.elim
theorem od_ge:G9 X (j8 .GtE) O4:=by rintro p s σ H f a v u R I g i ⟨x,y,M,ρ,Q,m,r,l,q,k⟩;unfold O4 at q;split at q;cases r;cases l;exact op_ge p s σ H _ _ v u R I g i ⟨_,_,rfl,rfl,k _ H<|VQ.now m (.bl _) q⟩;cases r;cases l;obtain⟨t,rfl⟩:=g;obtain⟨t',rfl⟩:=i;exact PySem.P.ge_str<|eN I m k q;exact q.elim
def NA:G3:=λx y M Q=>match x,y with
 |.bl a,.bl b=>Q (.bl<|a==b) M
 |.non,.non=>Q (.bl a9) M
 |_,.non=>Q (.bl bt) M
 |_,_=>False
theorem EX{K:v9}{ρ:List c8}{H:Hp}{x:D}{v:V}(r:w5 K ρ H x v)(h:x≠.non):v≠.non:=by cases r<;>first|exact t8 rfl h|(intro z;cases z)
theorem od_is:G9 X (j8 .Is) NA:=by
 rintro p s σ H f a v u R I g i ⟨x,y,M,ρ,Q,m,r,l,q,k⟩;unfold NA at q;split at q;cases r;cases l;cases g;cases i;exact is_bool<|eN I m k q;cases r;cases l;cases g;cases i;exact is_none_gen<|dfin (d:=.bl a9) I m k rfl rfl q;rename_i h1 h2;cases l;cases i;refine is_none_gen<|dfin (d:=.bl bt) I m k rfl ?_ q;have:=EX r λz=>by subst z;exact h2 rfl
 rw[g.none_iff,dF_ this];rfl;exact q.elim
noncomputable def Fn(M:v8):D->String
 |.non=>"NoneType"
 |.bl _=>"bool"
 |.int _=>"int"
 |.str _=>"str"
 |.ty _=>"type"
 |.tup _=>"tuple"
 |.ref n=>match M[n]? with
  |some mo=>if mo.isL=a9 then "list" else "?"
  |none=>"?"
noncomputable def EB(t T:String):Bool:=t==T||(t == "bool" && T == "int")
noncomputable def tE:List String:=["NoneType","bool","int","str","list","tuple"]
noncomputable def HM:List String:=["bool","int","str","list","tuple"]
theorem Gf(K:v9)(D:t∈tE)(m:T∈HM):Ml K (.type t) (.type T)=a7 (EB t T):=by simp only[tE,HM,A9,Me,or_false]at D m;rcases D with rfl|rfl|rfl|rfl|rfl|rfl<;>rcases m with rfl|rfl|rfl|rfl|rfl<;>kernel_rfl
theorem EA(I:v4 X pins σ H s)(k:z6 X.K ρ M H)(r:w5 X.K ρ H d v)(g:aL v u)(j:Fn M d∈tE)(p:∀(Hx:d5->Prop),PySem.W.KitX X.K u (.type<|Fn M d) Hx->Hx s.heap->u≠.builtin "__main__.__loader__#opaque"->f8 (ge X.prog X.w) X.A (call (.builtin "isinstance") [u,c]) Q X.xe s):f8 (ge X.prog X.w) X.A (call (.builtin "isinstance") [u,c]) Q X.xe s:=by
 cases r with
 |non=>cases g;exact p _ PySem.W.kitx_none M7<|λz=>nomatch z
 |bl y=>cases g;exact p _ PySem.W.kitx_bool M7<|λz=>nomatch z
 |int i=>obtain⟨t,rfl⟩:=g;exact p _ PySem.W.kitx_int M7<|λz=>nomatch z
 |str i=>obtain⟨t,rfl⟩:=g;exact p _ PySem.W.kitx_str M7<|λz=>nomatch z
 |ty n=>exact t8 j<|by simp only[Fn];decide
 |tup h rr=>cases g;obtain⟨its,_,⟨o,h1,h2,_⟩,_⟩:=I.tuple h;exact p _ PySem.W.kitx_tuple ⟨o,h1,h2⟩<|λz=>nomatch z
 |@ref n a e =>
  cases g;have B:n<M.length:=by rw[<-k.len];exact(B6.mp e).1
  have m:M[n]?=a7 M[n]:=A4 B;have f:(match M[n]? with|some mo=>if mo.isL=a9 then "list" else "?" |none=>"?")∈tE:=j;rw[m]at f;have l:M[n].isL=a9:=by
   cases q:M[n].isL with
   |true=>rfl
   |false=>simp only[q,C4,u4]at f;exact t8 f<|by decide
  have L:ak M n M[n].items:=by
   cases q:M[n] with
   |lst xs=>exact .inl<|by rw[m,q];rfl
   |fz xs=>exact .inr<|.inl<|by rw[m,q];rfl
   |kl xs=>exact .inr<|.inr<|by rw[m,q];rfl
   |dct xs=>rw[q]at l;cases l
   |dkt xs=>rw[q]at l;cases l
   |dkq _ xs=>rw[q]at l;cases l
   |fdc o xs=>rw[q]at l;cases l
   |dkm xs=>rw[q]at l;cases l
   |tb x b=>rw[q]at l;cases l
   |exc x=>rw[q]at l;cases l
  obtain⟨vs,C,_⟩:=ak.seq k L e;obtain⟨its,_,⟨o,E,h1,h2,_⟩,_⟩:=I.list C;have D:Fn M (.ref n) = "list":=by
   show (match M[n]? with|some mo=>if mo.isL=a9 then "list" else "?" |none=>"?") = "list"
   rw[m];exact t6 l
  rw[D]at p;exact p _ PySem.W.kitx_list ⟨o,h1,h2⟩<|λz=>nomatch z
def tF:F7:=λds M Q=>match ds with
 | [d,.ty T]=>(Fn M d∈tE/\T∈HM)/\Q (.bl<|EB (Fn M d) T) M
 | [d,.tup [.ty T,.ty T']]=>(Fn M d∈tE/\T∈HM/\T'∈HM)/\Q (.bl<|EB (Fn M d) T||EB (Fn M d) T') M
 |_=>False
theorem Lg:jt X (.builtin "isinstance") tF:=by
 rintro i s σ H vs us R I v ⟨ds,M,ρ,Q,m,r,q,k⟩;unfold tF at q;split at q;rename_i d T;obtain⟨⟨h1,h2⟩,q⟩:=q
 first|have z:=Reps.inv_cons r|have z:=az.inv_cons r
 clear r;obtain⟨_,_,rfl,f,r⟩:=z
 first|have z:=Reps.inv_cons r|have z:=az.inv_cons r
 clear r;obtain⟨_,_,rfl,g,r⟩:=z;cases r;cases g;obtain⟨u,u',rfl,e,l⟩:=az.two v;cases l;refine EA I m f e h1 λHx Z p x=>?_;exact PySem.W.kia_one Z I.kIn p (Gf X.K h1 h2) x λh=>eN (I.tok h) m k q;rename_i d T c;obtain⟨⟨h1,h2,y⟩,q⟩:=q
 first|have z:=Reps.inv_cons r|have z:=az.inv_cons r
 clear r;obtain⟨_,_,rfl,f,r⟩:=z
 first|have z:=Reps.inv_cons r|have z:=az.inv_cons r
 clear r;obtain⟨_,_,rfl,g,r⟩:=z;cases r;obtain⟨u,u',rfl,e,l⟩:=az.two v;obtain⟨a,P,rfl,A,t⟩:=w5.inv_tup g;cases l;obtain⟨its,C,⟨o,g1,w,n,g3⟩,_⟩:=I.tuple A
 first|have z:=Reps.inv_cons t|have z:=az.inv_cons t
 clear t;obtain⟨_,_,rfl,D,t⟩:=z
 first|have z:=Reps.inv_cons t|have z:=az.inv_cons t
 clear t;obtain⟨_,_,rfl,E,t⟩:=z;cases t;cases D;cases E;obtain⟨L,O,rfl,j,N⟩:=az.two C;cases j;cases N;obtain⟨F,J,B,G⟩:=o;cases w;cases g3;refine EA I m f e h1 λHx Z p x=>?_;refine PySem.W.kia_tup Z I.kIn p g1 (b:=EB (Fn M d) T||EB (Fn M d) c) ?_ x λh=>eN (I.tok h) m k q;show (match Ml X.K (.type<|Fn M d) (.type T)with|some a9=>a7 a9|some bt=>PySem.W.kitAny X.K (.type<|Fn M d) [.type c]|none=>a8)=_;rw[Gf X.K h1 h2];cases EB (Fn M d) T with
 |true=>rfl
 |false=>show (match Ml X.K (.type<|Fn M d) (.type c)with|some a9=>a7 a9|some bt=>a7 bt|none=>a8)=_;rw[Gf X.K h1 y];cases EB (Fn M d) c<;>rfl
 exact q.elim
def jV:F7:=λds M Q=>match ds with
 | [.str x]=>x.length<=sizeLine/\Q (.int x.length) M
 | [.tup xs]=>Q (.int xs.length) M
 | [.ref n]=>∃xs,ak M n xs/\Q (.int xs.length) M
 |_=>False
theorem Lf:jt X (.builtin "len") jV:=by
 refine dU.imp (sX.or sW) ?_;rintro vs H R ⟨ds,M,ρ,Q,m,a,q,k⟩;unfold jV at q;split at q
 first|have z:=Reps.inv_cons a|have z:=az.inv_cons a
 clear a;obtain⟨_,_,rfl,b,a⟩:=z;cases a;cases b;exact .inr ⟨_,rfl,q.1,k _ H<|VQ.now m (.int _) q.2⟩
 first|have z:=Reps.inv_cons a|have z:=az.inv_cons a
 clear a;obtain⟨_,_,rfl,b,a⟩:=z;cases a;cases b with
 |tup h r=>exact .inl ⟨_,_,rfl,.inr h,k _ H<|VQ.now m (by rw[<-r.length];exact .int _) q⟩
 obtain⟨xs,L,q⟩:=q
 first|have z:=Reps.inv_cons a|have z:=az.inv_cons a
 clear a;obtain⟨_,_,rfl,b,a⟩:=z;cases a;obtain⟨_,rfl,e⟩:=w5.inv_ref b;obtain⟨s,c,r⟩:=ak.seq m L e;exact .inl ⟨_,_,rfl,.inl c,k _ H<|VQ.now m (by rw[<-r.length];exact .int _) q⟩;exact q.elim
noncomputable def bls(bs:List Bool):List D:=bs.map .bl
theorem Reps.bls{K:v9}{ρ:List c8}{H:Hp}:∀{bs:List Bool}{vs:List V},Reps K ρ H (L2.bls bs) vs->vs=bs.map V.bl
 | [],_,h=>by cases h;rfl
 |b::bs,_,h=>by
  cases h with
  |cons r t=>cases r;rw[Reps.bls t];rfl
theorem vh:∀{bs:List Bool}{us:List b7},az (bs.map V.bl) us->us=bs.map Nn
 | [],_,h=>by cases h;rfl
 |b::bs,_,h=>by
  cases h with
  |cons r t=>cases r;rw[vh t];rfl
theorem xT{pins:List (c8×c9)}{σ:St}{H:Hp}{s:e8}{a:c8}{bs:List Bool}{G:e8->Prop}(I:v4 X pins σ H s)(x:X.calm=a9)(z:J7 X.K H a (bs.map V.bl))(g:∀s',v4 X pins σ H s'->G s'):∀(E:b7->e8->Prop),f8 (ge X.prog X.w) X.A.in1 (j4<|.ref a) (λit s₂=>∃I fp wr n P St tr,it=F6 I/\o5 X.prog X.w X.A.in1 I fp wr n P St/\St 0 s₂.heap/\TruthOf X.prog X.w X.A.in1 P tr /\ (n=bs.length/\(∀i,i<bs.length->tr i=bs.getD i bt))/\∀h' tk,(∀b o,b∉wr->s₂.heap.get? b=a7 o->h'.get? b=a7 o)->G { s₂ with heap:=h',toks:=tk }) E s:=by
 intro E;obtain⟨its,B,p,J⟩:=I.list z;have c:=vh B;subst c;have l:=p.isList;have t:a<s.heap.objs.size:=by obtain⟨o,n,e,_⟩:=p;exact A5 e
 refine Qz l ?_;have j:v4 X pins σ H { s with heap:=s.heap.push { cls:=.type "list_iterator",data:=.fields #[.ref a,.int 0 0] } }:=I.kept (t':=s.toks) λb o e=>A3 _ e;refine⟨s.heap.objs.size,_,_,_,_,_,λi=>bs.getD i bt,rfl,Walks.list (A:=X.A.in1) (I.ok.hd x) s.heap.objs.size a (A8 t) (bs.map Nn).toArray,⟨⟨_,C7 _ rfl,rfl,rfl⟩,l.push _⟩,?_,⟨by simp,λi _=>rfl⟩,λh' tk D=>?_⟩;intro i v s' Q' F C Q;have h:(bs.map Nn).toArray[i]?=a7 v:=C;rw[Ry,E1]at h;cases e:bs[i]? with
 |none=>rw[e]at h;cases h
 |some b =>
  rw[e]at h;cases h;refine Op ?_;have:bs.getD i bt=b:=by rw[LV,e];rfl
  have d:Q' (bs.getD i bt) s':=Q;rw[this]at d;exact d
 have f:=I.fpOk (H':=H) (x9 _)<|I.hok.fresh<|x9 _;obtain⟨m,k,N,r,y,q⟩:=f;exact g _<|j.turned (t':=tk) (it:=s.heap.objs.size) (λb o u e=>D b o (by simpa using u) e) m k r y q
theorem Bp{bs:List Bool}{tr:Nat->Bool}(h:∀i,i<bs.length->tr i=bs.getD i bt):(E4 bs.length).all tr=bs.all id:=by rw[Bool.eq_iff_iff,F4,F4];constructor;intro g b d;obtain⟨i,hi,e⟩:=List.mem_iff_getElem.mp d;have:=g i<|K6.mpr hi;rw[h i hi,LV,A4 hi]at this;rw[<-e];exact this;intro g i hi;have a:=K6.mp hi;rw[h i a,LV,A4 a];exact g _<|Mm a
def Hu:F7:=λds M Q=>match ds with
 | [.ref n]=>∃s,ak M n (bls s)/\Q (.bl<|s.all id) M
 |_=>False
theorem Lh(i:X.calm=a9:=by rfl):jt X (.builtin "all") Hu:=by
 rintro p s σ H vs us R I v ⟨ds,M,ρ,Q,m,a,q,k⟩;unfold Hu at q;split at q;obtain⟨c,L,q⟩:=q
 first|have z:=Reps.inv_cons a|have z:=az.inv_cons a
 clear a;obtain⟨_,_,rfl,j,a⟩:=z;cases a;obtain⟨u,rfl,t⟩:=az.one v;obtain⟨_,rfl,e⟩:=w5.inv_ref j;cases t;obtain⟨y,h,r⟩:=ak.seq m L e;rw[r.bls]at h;refine call_all_walk<|A1 (xT (G:=λs'=>EP X p σ R (.bool<|c.all id) s') I i h (λs' b=>eN b m k q) _) ?_;rintro it x ⟨J,C,w,n,P,Sx,tr,t,W,l,T,⟨d,g⟩,f⟩;subst d;exact⟨J,C,w,_,P,Sx,tr,t,W,l,T,λh' o D=>by rw[Bp g];exact f h' o D⟩;exact q.elim
end
end L2
namespace L2
open PySem PySem.Spec PyProof.Rows DL _root_.HT
section
variable{prog:c7}{w:c6}{A:e7}{E:b7->e8->Prop}{s:e8}
theorem pC{t m:c8}{i:Array b7}{l u:b7}{lo hi:Option Int}{Q:b7->e8->Prop}(D:IsTup s.heap t i)(hs:s.heap.IsSliceOf m l u .none)(p:m6 l lo)(f:m6 u hi)(d:sIx i.size 0 lo=0/\sIx i.size i.size hi=i.size) (h:Q (.ref t) s):f8 (ge prog w) A (m7 (.ref t)<|.ref m) Q E s:=by
 obtain⟨o,b,c,e⟩:=id hs;have a:s.TypeIs (.ref m) "slice":=⟨o,b,c⟩
 unfold m7
 try with_reducible refine F8 ?_
 first|refine u8 (v5 ?_)|skip
 refine u8<|wpAny_sequenceKey D.typeIs (by decide)<|u8<|Mo (name:=v6 "__getitem__") D.typeIs OZ<|K4 OZ D.typeIs entry_tuple_getitem ?_<|args_tuple_getitem _ _;refine(show f8 (ge prog w) _ (QX (.ref t) >>= _) _ _ s from u8<|tupleItemsOf_ D<|u8<|Nq a ?_);rw[t6<|by decide];refine u8<|eU hs p f ?_;refine(show f8 (ge prog w) _ (if (((sIx i.size 0 lo:Nat):Int)==0&&(1:Int)==1&&(sIx i.size i.size hi-sIx i.size 0 lo)==i.size)=a9 then _ else _) _ _ s from ?_);rw[t6<|by rw[d.1,d.2];simp];unfold Builtin.Tuple.tupleIsExact;refine u8<|u8<|Nq D.typeIs<|v5 ?_;rw[t6<|by decide];exact u8<|Lz<|v5 ⟨_,rfl,v5 h⟩
end
end L2
namespace L2
open PySem PySem.Spec PyProof.Rows DL
section
variable{X:Cx}{a b:f9}{ta tb:A0}{pos:i0}
theorem Mu.imp(h:Mu X r')(i:∀x y H R,r x y H R->r' x y H R):Mu X r:=λa e p s σ H x y v u R I g b q hs=>h a e p s σ H x y v u R I g b (i x y H R q) hs
theorem Reps.atI{K:v9}{ρ:List c8}{H:Hp}{ds:List D}{vs:List V}{i:Int}{d:D}(r:Reps K ρ H ds vs)(h:L2.atI ds i=a7 d):∃v,L2.atI vs i=a7 v/\w5 K ρ H d v:=by
 unfold L2.atI at h ⊢;rw[r.length]at h;cases e:MV vs.length i with
 |none=>rw[e]at h;cases h
 |some j=>rw[e]at h;obtain⟨v,c,a⟩:=r.get<|show ds[j]?=a7 d from h;exact⟨v,c,a⟩
def w9:G3:=λx y M Q=>match x,y with
 |.tup xs,.int i=>match L2.atI xs i with
  |some d=>Q d M
  |none=>False
 |.str z,.int i=>z.length<=sizeLine/\match L2.atI z.cps.toList i with
  |some c=>Q (.str ⟨#[c]⟩) M
  |none=>False
 |.ref n,.int i=>∃xs,ak M n xs/\match L2.atI xs i with
  |some d=>Q d M
  |none=>False
 |_,_=>False
theorem Aj:Mu X (lowR X.K w9):=by refine Mu.imp JY ?_;rintro p s H R ⟨x,y,M,ρ,Q,m,b,l,q,k⟩;unfold w9 at q;split at q;rename_i xs i;split at q;rename_i d e;cases l;obtain⟨_,_,rfl,h,r⟩:=w5.inv_tup b;obtain⟨v,a,f⟩:=r.atI e;exact .inr<|.inl ⟨_,_,_,v,rfl,rfl,h,a,k _ H<|VQ.now m f q⟩;exact q.elim;rename_i z i;obtain⟨o,q⟩:=q;split at q;rename_i c e;cases l;cases b;exact .inr<|.inr ⟨z,i,c,rfl,rfl,o,e,k _ H<|VQ.now m (.str _) q⟩;exact q.elim;rename_i n i;obtain⟨xs,L,q⟩:=q;split at q;rename_i d e;cases l;obtain⟨_,rfl,g⟩:=w5.inv_ref b;obtain⟨vs,j,r⟩:=ak.seq m L g;obtain⟨v,a,f⟩:=r.atI e;exact .inl ⟨_,_,_,v,rfl,rfl,j,a,k _ H<|VQ.now m f q⟩;exact q.elim;exact q.elim
theorem d_ix(f:DE X a ta)(d:DE X b tb)(hs:pS b:=by intro _ _;rfl):DE X (.Subscript a b pos) (u9 w9 ta tb):=PE.imp (pe_ix Aj f d hs) ph
abbrev Og:=SD->v8->(Option Int->v8->Prop)->Prop
def Jq(K:v9)(t:Og):TO:=λσ H R=>∃S M ρ Q,z6 K ρ M H/\SRep K ρ H S σ/\t S M Q/\∀o H',(∃M' ρ',z6 K ρ' M' H'/\Grow K ρ H ρ' H'/\Q o M')->R o H'
def mx:Og:=λ_ M Q=>Q a8 M
def uQ(t:A0):Og:=λS M Q=>t S M λx a=>match x with
 |.int i=>Q (a7 i) a
 |_=>False
theorem PO.imp(h:PO X e t')(i:∀σ H R,t σ H R->t' σ H R):PO X e t:=λp s σ H R I q=>h p s σ H R I<|i σ H R q
theorem GR:PO X a8 (Jq X.K mx):=by refine PO.imp Fm ?_;rintro σ H R ⟨S,M,ρ,Q,s,c,q,k⟩;exact k a8 H ⟨M,ρ,s,.refl,q⟩
theorem GQ(h:DE X e te):PO X (a7 e) (Jq X.K<|uQ te):=by
 refine PO.imp (Fj h) ?_;rintro σ H R ⟨S,M,ρ,Q,s,g,q,k⟩;refine⟨S,M,ρ,_,s,g,q,?_⟩;rintro v H1 ⟨d,a,c,f,g1,r,b⟩;cases r with
 |int i=>exact⟨i,rfl,k _ H1 ⟨a,c,f,g1,b⟩⟩
 |_=>exact b.elim
theorem Ik:Pc X (λx lo hi H Q=>∃z,x=.str z/\z.length<=sizeLine/\Q (.str<|Mz z lo hi) H):=by
 intro b s σ H x v w y lo hi n Q I r hs f m h;obtain⟨z,rfl,d,q⟩:=h;obtain⟨t,rfl⟩:=r;have a:∀{v:b7}{o:Option Int},m6 v o->∃p:Option (Int×Tok),v=partValue p/\p.map (·.1)=o:=λh=>by
  cases h with
  |none=>exact⟨a8,rfl,rfl⟩
  |int i t=>exact⟨a7 (i,t),rfl,rfl⟩
 obtain⟨g,rfl,e⟩:=a f;obtain⟨j,rfl,c⟩:=a m;subst e c;refine⟨"str",_,slot_str_getitem.lookup,typeIs_str _ _ _,wpAny_getItem_str_slice (l:=g) (u:=j) (st:=a8) hs rfl ?_⟩;exact post_val_or_str ⟨K3 (Txt.slice_le z _ _) d,λt' k=>⟨.str _,H,I.tok k,⟨t',rfl⟩,q⟩⟩
noncomputable def cutD(xs:List D)(lo hi:Option Int):List D:=(xs.drop<|HT.sIx xs.length 0 lo).take<|HT.sIx xs.length xs.length hi-HT.sIx xs.length 0 lo
theorem Reps.cutD{K:v9}{ρ:List c8}{H:Hp}{ds:List D}{vs:List V}(r:Reps K ρ H ds vs)(lo hi:Option Int):Reps K ρ H (L2.cutD ds lo hi) (EC vs lo hi):=by unfold L2.cutD EC;rw[r.length];exact(r.drop _).take _
def P5:D->Option Int->Option Int->v8->DK->Prop:=λx l hi M Q=>match x with
 |.str z=>z.length<=sizeLine/\Q (.str<|Mz z l hi) M
 |.ref n=>∃xs,ak M n xs/\Q (.ref M.length) (M++[.lst<|cutD xs l hi])
 |.tup xs=>Q (.tup<|cutD xs l hi) M
 |_=>False
def lowSl(K:v9)(r:D->Option Int->Option Int->v8->DK->Prop):V->Option Int->Option Int->Hp->VK->Prop:=λf l hi H R=>∃x M ρ Q,z6 K ρ M H/\w5 K ρ H x f/\r x l hi M Q/\∀v H',VQ K ρ H Q v H'->R v H'
theorem sld:Pc X (lowSl X.K P5):=by
 rintro b s σ H x v j o l hi i R I g hs c u ⟨d,M,ρ,Q,m,f,q,k⟩;unfold P5 at q;split at q;cases f;exact Ik b s σ H _ v j o l hi i R I g hs c u ⟨_,rfl,q.1,k _ H<|VQ.now m (.str _) q.2⟩;obtain⟨xs,L,q⟩:=q;obtain⟨_,rfl,t⟩:=w5.inv_ref f;obtain⟨vs,y,r⟩:=ak.seq m L t;exact EU b s σ H _ v j o l hi i R I g hs c u ⟨_,vs,rfl,y,λp hp=>k _ _<|VQ.laidL m .refl (r.cutD l hi) hp q⟩;obtain⟨_,_,rfl,h,r⟩:=w5.inv_tup f;rename_i xs a vs;by_cases w:HT.sIx xs.length 0 l=0/\HT.sIx xs.length xs.length hi=xs.length;cases g;obtain⟨its,z,D,A⟩:=I.tuple h;have n:its.toArray.size=xs.length:=by rw[C8,r.length];exact z.length.symm
 have e:L2.cutD xs l hi=xs:=by unfold L2.cutD;rw[w.1,w.2,List.drop_zero,Nat.sub_zero,Mx]
 rw[e]at q;exact⟨"tuple",_,OZ.lookup,D.typeIs,pC D hs c u (by rw[n];exact w) ⟨.ref _,H,I,rfl,k _ H<|VQ.now m (.tup h r) q⟩⟩;exact Ij b s σ H _ v j o l hi i R I g hs c u ⟨_,_,rfl,h,by rw[<-r.length];exact w,λp hp=>k _ _<|VQ.laidT m .refl (r.cutD l hi) hp q⟩;exact q.elim
def Oy(te:A0)(t h:Og):A0:=λS M Q=>te S M λx a=>t S a λl M2=>h S M2 λu b=>P5 x l u b Q
theorem Hb{e:f9}{te:A0}{lo hi:Option f9}{t h:Og}{p:i0}(m:DE X e te)(n:PO X lo (Jq X.K t))(o:PO X hi (Jq X.K h)):DE X (.Subscript e (.Slice lo hi a8 p) pos) (Oy te t h):=by refine PE.imp (Ci sld m n o) ?_;rintro σ H R ⟨S,M,ρ,Q,s,c,q,k⟩;refine⟨S,M,ρ,_,s,c,q,?_⟩;rintro v H1 ⟨d,i,a,A,g1,z,r⟩;refine⟨S,i,a,_,A,c.grow g1,r,?_⟩;rintro l D ⟨M2,f,B,b,x⟩;refine⟨S,M2,f,_,B,c.grow<|g1.trans b,x,?_⟩;rintro u E ⟨j,g,C,g3,y⟩;exact⟨d,j,g,Q,C,z.grow<|b.trans g3,y,λv H' w=>k v H'<|VQ.trans ((g1.trans b).trans g3) w⟩
def jU:G3:=λx y M Q=>match x,y with
 |.int i,.int j=>CMul i j/\Q (.int<|i*j) M
 |.str z,.int n=>(0<=n/\n<2 ^ 63/\z.length*n.toNat<=sizeLine)/\Q (.str<|Txt.mul z n) M
 |_,_=>False
theorem um(b:0<=n)(h:z.length*n.toNat<=sizeLine)(f:n<2 ^ 63):MulOk z n:=by
 refine⟨?_,λh1 h2=>?_,λh1 h2=>?_⟩;have a:decide (n < -(2 ^ 63:Int))=bt:=dF_ (by lia);have l:decide (n ≥ 2 ^ 63)=bt:=dF_ (by lia);rw[a,l];rfl;have c:(z.length:Int)*n<=2 ^ 24:=by
  have e:((z.length*n.toNat:Nat):Int)=(z.length:Int)*n:=by rw[Int.natCast_mul,Int.toNat_of_nonneg b]
  have h':((z.length*n.toNat:Nat):Int)<=(2 ^ 24:Nat):=Int.ofNat_le.mpr h;rw[e]at h';exact h'
 have s:0<n:=by lia
 intro t;have:=Int.lt_of_lt_of_le (Int.lt_mul_of_ediv_lt s t) c;lia;unfold PySem.Builtin.Str.tooLong;simpa using h
theorem FG:G9 X (j7 .Mult) jU:=by
 rintro p s σ H f b v u R I g i ⟨x,y,M,ρ,Q,m,r,l,q,k⟩;unfold jU at q;split at q;cases r;cases l;exact IW p s σ H _ _ v u R I g i ⟨_,_,rfl,rfl,q.1,k _ H<|VQ.now m (.int _) q.2⟩;rename_i z n;cases r;cases l;obtain⟨t,rfl⟩:=g;obtain⟨t',rfl⟩:=i;obtain⟨⟨a,h2,h1⟩,q⟩:=q;exact PySem.SB.mul (um a h1 h2) λt' j=>⟨.str _,H,I.tok j,⟨t',rfl⟩,k _ H<|VQ.now m (.str _) q⟩
 exact q.elim
variable{o e:f9}{es:List f9}{to:A0}{t:G1}{name:c5}{apos cpos:i0}{id:String}
def FM(K:v9)(r:c5->F7):V->List V->Hp->VK->Prop:=λf vs H R=>∃z ds M ρ Q,f=.str z/\z6 K ρ M H/\Reps K ρ H ds vs/\r z ds M Q/\∀v H',VQ K ρ H Q v H'->R v H'
def pf(K:v9)(r:Nat->F7):V->List V->Hp->VK->Prop:=λf vs H R=>∃n a ds M ρ Q,f=.ref a/\ρ[n]?=a7 a/\z6 K ρ M H/\Reps K ρ H ds vs/\r n ds M Q/\∀v H',VQ K ρ H Q v H'->R v H'
def P9(r:c5->F7)(d:A0)(t:G1):A0:=λS M Q=>d S M λx a=>match x with
 |.str z=>t S a λds M2=>r z ds M2 Q
 |_=>False
def Ms(r:Nat->F7)(d:A0)(t:G1):A0:=λS M Q=>d S M λx a=>match x with
 |.ref n=>(∃xs,ak a n xs)/\t S a λds M2=>r n ds M2 Q
 |_=>False
theorem d_ms(slot:Slot "str" name id)(y:m9 (.builtin id)=pure (.type "method_descriptor"))(p:Mt X id (FM X.K r))(B:DE X o to)(m:DA X (e::es) t)(b:n0 o name X.env (eval o X.env)=eval o X.env:=by rfl)(h:((i3 cpos<|i4 (e::es) X.env).all (λx=>!x.1)&&(n5 cpos<|n6 [] X.env).all (λx=>x.1.isSome) && decide ((e::es).length+([]:List m3).length+(if ([]:List m3).isEmpty then 0 else 1)<30))=a9:=by rfl)(c:(apos.endLine==cpos.line)=a9:=by rfl) (hs:i4 (e::es) X.env=(bt,eval e X.env)::i4 es X.env:=by rfl) (n:(i3 cpos<|i4 es X.env).any (·.1)=bt:=by rfl):DE X (.Call (.Attribute o name apos) (e::es) [] cpos) (P9 r to t):=by
 refine PE.imp (IP PySem.F.plainAttrs_str slot y p B m b h c hs n) ?_;rintro σ H R ⟨S,M,ρ,Q,s,i,q,k⟩;refine⟨S,M,ρ,_,s,i,q,?_⟩;rintro v H1 ⟨d,j,a,D,g1,A,g⟩;cases A with
 |str z=>exact⟨rfl,S,j,a,_,D,i.grow g1,g,λvs G ⟨ds,M2,f,E,l,C,u⟩=>⟨z,ds,M2,f,Q,rfl,E,C,u,λv H' w=>k v H'<|VQ.trans (g1.trans l) w⟩⟩
 |_=>exact g.elim
theorem d_ml(slot:Slot "list" name id)(y:m9 (.builtin id)=pure (.type "method_descriptor"))(B:Mt X id (pf X.K r))(C:DE X o to)(A:DA X (e::es) t)(b:n0 o name X.env (eval o X.env)=eval o X.env:=by rfl)(f:((i3 cpos<|i4 (e::es) X.env).all (λx=>!x.1)&&(n5 cpos<|n6 [] X.env).all (λx=>x.1.isSome) && decide ((e::es).length+([]:List m3).length+(if ([]:List m3).isEmpty then 0 else 1)<30))=a9:=by rfl)(c:(apos.endLine==cpos.line)=a9:=by rfl) (hs:i4 (e::es) X.env=(bt,eval e X.env)::i4 es X.env:=by rfl) (h:(i3 cpos<|i4 es X.env).any (·.1)=bt:=by rfl):DE X (.Call (.Attribute o name apos) (e::es) [] cpos) (Ms r to t):=by
 refine PE.imp (IP PySem.F.plainAttrs_list slot y B C A b f c hs h) ?_;rintro σ H R ⟨S,M,ρ,Q,s,z,q,k⟩;refine⟨S,M,ρ,_,s,z,q,?_⟩;rintro v H1 ⟨d,i,j,u,g1,G,g⟩;cases G with
 |@ref n a p =>
  obtain⟨⟨xs,L⟩,g⟩:=(show (∃xs,ak i n xs)/\t S i _ from g)
  obtain⟨vs,D,_⟩:=ak.seq u L p;refine⟨.inl ⟨rfl,vs,D⟩,S,i,j,_,u,z.grow g1,g,?_⟩;rintro vs N ⟨ds,M2,l,J,m,I,E⟩;exact⟨n,a,ds,M2,l,Q,rfl,ap m.pre p,J,I,E,λv H' w=>k v H'<|VQ.trans (g1.trans m) w⟩
 |_=>exact g.elim
def bQ(n:Nat):F7:=λds M Q=>match ds with
 | [d]=>∃xs,M[n]?=a7 (.lst xs)/\xs.length<sizeLine/\Q .non (M.set n<|.lst<|xs++[d])
 |_=>False
theorem xn:Mt X "list.append" (pf X.K bQ):=by
 rintro p s σ H x xs v us R I l j ⟨n,a,ds,M,ρ,Q,c,f,m,b,q,k⟩;unfold bQ at q;split at q;rename_i d;obtain⟨ys,e,g,q⟩:=q
 first|have z:=Reps.inv_cons b|have z:=az.inv_cons b
 clear b;obtain⟨_,_,rfl,i,b⟩:=z;cases b;obtain⟨vs,h,r⟩:=m.obj n a _ f e;obtain⟨w,t⟩:=m.write f e h<|r.append<|.cons i .nil;exact zG p s σ H x _ v us R I l j ⟨a,vs,_,c,rfl,h,by rw[<-r.length];exact g,k _ _ ⟨.non,_,ρ,w,t,.non,q⟩⟩;exact q.elim
end
section
variable{X:Cx}{tg:f9}
noncomputable def qY(lo c:Int)(n:Nat):List D:=(E4 n).map λi=>.int<|lo+((i:Nat):Int)*c
end
def cy(K:v9)(mg:c5->Option b7)(x:c5)(st:i5)(ps:List c5):Prop:=∃f d,MH K x x st f d/\mg x=a7 (.ref f)/\mX K d ps []
def z9(P:c7)(w:c6)(K:v9)(mg:c5->Option b7)(base:d5)(k:Nat)(x:c5)(ps:List c5)(c:B5):Prop:=∃f d,FnOk P w K mg base K9 k f d ps (Mr K c)/\mg x=a7 (.ref f)/\Nt K (.ref f)=a9/\mX K d ps []
theorem fnat_mk{K:v9}{h:d5}{mg:c5->Option b7}{x:c5}{st:i5}{ps:List c5}{f:c8}{b:b7}{j M:Option c8}{o:Array (Option b7)}{kV i U v R:b7}(X:K.In h) (G:h.Ns d8 mg) (a:Np K d8 x=a7 (a7<|.ref f))(l:K.lookup f=a7 ⟨b,j,.func<|M9 x x (hW st) (bB st) (av st) .none kV i U M v R,o⟩)(c:Pq K v x=a9) (k:Nt K (.ref f)=a9)(h:∀(kV i U:b7) (M:Option c8) (v R:b7) (us:List b7),us.length=ps.length->bindArgs (M9 x x (hW st) (bB st) (av st) .none kV i U M v R) ⟨us,[]⟩=pure (ps.zip us)):cy K mg x st ps:=have F:=Kp (st:=st) l c k
 ⟨f,_,F,Qg X G a,F.binds h⟩
theorem z9.of{P:c7}{w:c6}{K:v9}{mg:c5->Option b7}{base:d5}{x:c5}{st:i5}{N ps:List c5}{k:Nat}{c:B5}(F:cy K mg x st ps)(e:FnScope N ps (av st))(B:∀ds M R,c ds M R->ds.length=ps.length) {t:v7}(r:∀(f:c8) (cdv:b7) (A:e7) (outer:List Env) (s:e8) (H:Hp) (E:XK),Room k (A.deeper<|b9 x (av st) s.heap.objs.size f cdv)->MX (pL K9 P w K mg base N x (av st) f cdv A outer s H E).nox (bB st) t)(p:∀ds M R,c ds M R->t ⟨λ_ M'=>aV M R .non M',aV M R,λ_ _=>False,λ_ _=>False⟩ (cc N ds) M):z9 P w K mg base (k+1) x ps c:=by obtain⟨f,d,a,m,b⟩:=F;exact⟨f,d,d_fn c a e B λcdv A outer s H E i=>⟨t,r f cdv A outer s H E i,p⟩,m,a.kp,b⟩
theorem GF{P:c7}{w:c6}{K:v9}{mg:c5->Option b7}{base:d5}{x:c5}{st:i5}{N ps:List c5}{k:Nat}{c:B5}{f:c8}{d:k9}(F:MH K x x st f d)(e:FnScope N ps (av st))(B:∀ds M R,c ds M R->ds.length=ps.length) {t:v7}(r:∀(f:c8) (cdv:b7) (A:e7) (outer:List Env) (s:e8) (H:Hp) (E:XK),Room k (A.deeper<|b9 x (av st) s.heap.objs.size f cdv)->MX (pL K9 P w K mg base N x (av st) f cdv A outer s H E).nox (bB st) t)(p:∀ds M R,c ds M R->t ⟨λ_ M'=>aV M R .non M',aV M R,λ_ _=>False,λ_ _=>False⟩ (cc N ds) M):FnOk P w K mg base K9 (k+1) f d ps (Mr K c):=d_fn c F e B λcdv A outer s H E i=>⟨t,r f cdv A outer s H E i,p⟩
theorem FnOk.more{P:c7}{w:c6}{K:v9}{mg:c5->Option b7}{base:d5}{CX:My}{j k:Nat}{f:c8}{d:k9}{ps:List c5}{sp:Sp}(F:FnOk P w K mg base CX j f d ps sp)(h:j<=k):FnOk P w K mg base CX k f d ps sp:=⟨F.len,λA o s H O us vs Q E i=>F.run A o s H O us vs Q E<|i.mono h⟩
section
variable{X:Cx}{e:f9}{es:List f9}{t:G1}{pos:i0}
theorem d_cal(C:z9 X.prog X.w X.K X.mg X.base j x ps P)(r:Room k X.A)(a:DA X (e::es) t)(hj:j<=k:=by decide)(R:Gl X x:=by rfl) (b:(x==("__debug__":c5))=bt:=by decide) (i:i4 (e::es) X.env=(bt,eval e X.env)::i4 es X.env:=by rfl) (l:(i3 pos<|i4 es X.env).any (·.1)=bt:=by rfl):DE X (.Call (.Name x p) (e::es) [] pos) (w6 P t):=by obtain⟨f,c,F,m,h,d⟩:=C;exact Lc F (r.mono hj) m h d a R b i l
end
def FU:B5:=λds M R=>∃(ns:List Int) (m:MO),ns.length<=63/\(m.items=ns.map D.int/\m.isL=a9)/\ds=[.ref 0]/\M=[m]/\∀M',R (.bl a9) M'
theorem rW(h:M[n]?=a7 mo)(g:mo.isL=a9):ak M n mo.items:=by
 cases mo with
 |lst xs=>exact .inl h
 |fz xs=>exact .inr<|.inl h
 |kl xs=>exact .inr<|.inr h
 |dct xs=>cases g
 |dkt xs=>cases g
 |dkq _ xs=>cases g
 |fdc o xs=>cases g
 |dkm xs=>cases g
 |tb x b=>cases g
 |exc x=>cases g
theorem iz{K:v9}{ρ:List c8}{H:Hp}:∀(ns:List Int),Reps K ρ H (ns.map D.int) (ns.map V.int)
 | []=>.nil
 |n::ns=>.cons (.int n)<|iz ns
theorem xC{K:v9}{H:Hp}{a:c8}{ns:List Int}(g:ns.length<=63)(S:J7 K H a (ns.map V.int)):Mr K FU [.ref a] H (λv _=>v=.bl a9) λ_ _ _=>False:=by
 have c:∀{mo:MO},mo.items=ns.map D.int/\mo.isL=a9->ya K [a] H a mo->Mr K FU [.ref a] H (λv _=>v=.bl a9) λ_ _ _=>False:=λ{mo} e ok=>by refine⟨[.ref 0],[mo],[a],λd _=>d=.bl a9,⟨λn m b f t l=>?_,rfl,λn b i t l=>?_⟩,.cons (.ref rfl) .nil,⟨ns,mo,g,e,rfl,rfl,λ_=>rfl⟩,λv H' ⟨d,M',ρ',_,_,r,q⟩=>?_⟩;have h1:=(B6.mp t).1;have h2:=(B6.mp l).1;simp at h1 h2;lia;have h1:=(B6.mp t).1;simp at h1;subst h1;simp at t l;subst t l;exact ok;have j:d=.bl a9:=q;subst j;cases r;rfl
 rcases S with(h|⟨o,h⟩)|h;exact c (mo:=.lst _) ⟨rfl,rfl⟩ ⟨_,h,iz ns⟩;exact c (mo:=.fz _) ⟨rfl,rfl⟩ ⟨o,_,h,iz ns⟩;exact c (mo:=.kl _) ⟨rfl,rfl⟩ ⟨_,h,iz ns⟩
theorem law_walk{l:PySem.W.OpenLaw}{q:c7}{b:List c5}{P:(c5->Option b7)->d5->Prop}{YP:c6->d5->Prop}{d:DefRec}{K:Params->v9}{k:Nat}{st:i5}{x:c5}(y:l.most=a7 63)(i:d.params.defaults=[])(p:d.name = "law")(A:Room k callerA)(D:∀(w:c6) (h:d5),YP w h->(K w.params).In h)(F:∀(w:c6) (mg:c5->Option b7) (h:d5),(K w.params).In h->h.Ns d8 mg->cy (K w.params) mg "law" st [x] /\ ∀(base:d5) (f:c8) (fd:k9),MH (K w.params) "law" "law" st f fd->FnOk l.prog w (K w.params) mg base K9 k f fd [x] (Mr (K w.params) FU))(m:∀(kV doc pm:b7) (an:Option c8) (cdv ct:b7) (u:b7),bindArgs (M9 "law" "law" (hW st) (bB st) (av st) .none kV doc pm an cdv ct) ⟨[u],[]⟩=pure [(x,u)]):PySem.W.WalkO q b P YP l.row.toRowW d [] (λf vs=>PySem.call f vs):=by refine L2.walk_of (n:=63) (k:=k) (x:=x) (CX:=λ_=>K9) (sp:=λw=>Mr (K w.params) FU) y (by decide) i A D (λw mg I h X G g=>?_) (λw H a ns r _ S=>xC r S) λ_ _ _ _ _ z=>z;rw[p]at g;obtain⟨⟨f,fd,c,t,_⟩,C⟩:=F w mg h X G;have e:=g.symm.trans t;cases e;have j:=λbase=>C base _ _ c;obtain⟨J,L,kV,doc,pm,an,cdv,ct,B,rfl,E,o⟩:=id c.ex;exact⟨_,λs v=>.of_eq<|m kV doc pm an cdv ct v,λbase _ _=>j base⟩
noncomputable def om(nm:List (c5×m5))(N N':List c5)(t:Nat)(s:List Nat)(c:f6):Bool:=c.kind==.function&&c.names.all (λy=>y.2 != .cell&&(y.2 != .local||c.names.lookup y.1==a7 .local)&&(y.2 != .free||(nm.lookup y.1==a7 .cell||nm.lookup y.1==a7 .free))) &&
 N'.length==t+s.length&&(E4 s.length).all λk=>match s[k]?,N'[t+k]? with
  |some j,a7 x=>N[j]?==a7 x&&c.names.lookup x==a7 .free&&(nm.lookup x==a7 .cell||nm.lookup x==a7 .free)
  |_,_=>bt
theorem BlkSc.chk(h:om X.env.scope.names X.N N' nt js scope=a9):BlkSc X N' nt js scope:=by
 unfold om at h;simp only[G7,F4,u3,Bool.or_eq_true,bne_iff_ne]at h;obtain⟨⟨⟨h1,h2⟩,a⟩,d⟩:=h;refine⟨h1,λy Q=>(h2 y Q).1.1,λy Q e=>((h2 y Q).1.2.resolve_left<|λz=>z e),λy Q e=>((h2 y Q).2.resolve_left<|λz=>z e),a,λk j e=>?_⟩;have b:k<js.length:=(B6.mp e).1;have q:=d k<|K6.mpr b;rw[e]at q;cases f:N'[nt+k]? with
 |none=>rw[f]at q;exact t8 q<|by simp
 |some x=>rw[f]at q;simp only[G7,u3,Bool.or_eq_true]at q;exact⟨x,rfl,q.1.1,q.1.2,q.2⟩
noncomputable def F0(f:D->D->Bool):List D->List D->Bool
 | [],[]=>a9
 |x::xs,y::ys=>f x y&&F0 f xs ys
 |_,_=>bt
noncomputable def w4(M:v8):Nat->D->D->Bool
 |_,.non,.non=>a9
 |_,.bl a,.bl b=>a==b
 |_,.bl a,.int b=>(if a then 1 else 0)==b
 |_,.int a,.bl b=>a==(if b then 1 else 0)
 |_,.int a,.int b=>a==b
 |_,.str a,.str b=>a==b
 |n+1,.tup xs,.tup ys=>F0 (w4 M n) xs ys
 |n+1,.ref i,.ref j=>match M[i]?,M[j]? with
  |some a,a7 b=>F0 (w4 M n) a.items b.items
  |_,_=>bt
 |_,_,_=>bt
noncomputable def z5(M:v8):Nat->D->Bool
 |_,.ty _=>bt
 |n+1,.tup xs=>xs.all<|z5 M n
 |n+1,.ref i=>match M[i]? with
  |some a=>a.isL&&a.items.all (z5 M n)
  |none=>bt
 | 0,.tup _=>bt
 | 0,.ref _=>bt
 |_,_=>a9
theorem AA:∀{xs ys:List D},F0 f xs ys=a9->xs.length=ys.length
 | [],[],_=>rfl
 | [],_::_,h=>by simp[F0]at h
 |_::_,[],h=>by simp[F0]at h
 |x::xs,y::ys,h=>by simp only[F0,G7]at h;rw[E9,E9,AA h.2]
theorem Bo(n:Nat)(e:Nat->Bool):(E4<|n+1).all e=(e 0&&(E4 n).all λj=>e<|j+1):=by rw[List.range_succ_eq_map,Mi,List.all_map];rfl
theorem mr:∀{xs ys:List D}{e:Nat->Bool},xs.length=ys.length->(∀(j:Nat) x y,xs[j]?=a7 x->ys[j]?=a7 y->e j=f x y)->(E4 xs.length).all e=F0 f xs ys
 | [],[],e,_,_=>by simp[F0]
 | [],_::_,_,h,_=>by simp at h
 |_::_,[],_,h,_=>by simp at h
 |x::xs,y::ys,e,h,he=>by rw[E9,Bo,F0,he 0 x y rfl rfl,mr (by simpa using h) λj x' y' h1 h2=>he (j+1) x' y' (by simpa using h1)<|by simpa using h2]
theorem Az(h:xs.length≠ys.length):F0 f xs ys=bt:=by
 cases q:F0 f xs ys with
 |false=>rfl
 |true=>exact t8 (AA q) h
theorem ii{vs:List V}{us:List b7}(h:az vs us){j:Nat}{v:V}(e:vs[j]?=a7 v):∃u,us[j]?=a7 u/\aL v u:=by
 induction h generalizing j with
 |nil=>simp at e
 |cons r _ i =>
  cases j with
  |zero=>simp at e;subst e;exact⟨_,rfl,r⟩
  |succ j=>exact i<|by simpa using e
section
variable{X:Cx}{pins:List (c8×c9)}{σ:St}{H:Hp}{s:e8}{ρ:List c8}{M:v8}
theorem lC(I:v4 X pins σ H s)(m:z6 X.K ρ M H){i:Nat}{a:c8}{mo:MO}(e:ρ[i]?=a7 a)(d:M[i]?=a7 mo)(g:mo.isL=a9):∃vs its,J7 X.K H a vs/\Reps X.K ρ H mo.items vs/\az vs its/\PlainL s.heap a its.toArray:=by obtain⟨vs,q,r⟩:=ak.seq m (rW d g) e;obtain⟨its,b,p,_⟩:=I.list q;exact⟨vs,its,q,r,b,p⟩
theorem dI(d:M[i]?=a7 mo)(o:z5 M (n+1) (.ref i)=a9):mo.isL=a9/\mo.items.all (z5 M n)=a9:=by have o':(match M[i]? with|some a=>a.isL&&a.items.all (z5 M n)|none=>bt)=a9:=o;rw[d]at o';exact(G7 _ _).mp o'
theorem Ds(I:v4 X pins σ H s)(m:z6 X.K ρ M H):∀(n:Nat) (x y:D) (v:V),w5 X.K ρ H x v->w5 X.K ρ H y v->z5 M n x=a9->z5 M n y=a9->w4 M n x y=a9:=by
 have l:∀(n:Nat),(∀(x y:D) (v:V),w5 X.K ρ H x v->w5 X.K ρ H y v->z5 M n x=a9->z5 M n y=a9->w4 M n x y=a9) -> ∀(xs ys:List D) (vs:List V),Reps X.K ρ H xs vs->Reps X.K ρ H ys vs->xs.all (z5 M n)=a9->ys.all (z5 M n)=a9->F0 (w4 M n) xs ys=a9:=by
  intro n p xs;induction xs with
  |nil=>intro ys vs h1 h2 _ _;cases h1;cases h2;rfl
  |cons x xs hi =>
   intro ys vs h1 h2 o1 o2;cases h1 with
   |cons G P =>
    cases h2 with
    |cons J Q=>rw[Mi,G7]at o1 o2;rw[F0,p _ _ _ G J o1.1 o2.1,hi _ _ P Q o1.2 o2.2];rfl
 intro n;induction n with
 |zero=>intro x y v h1 h2 o1 o2;cases h1<;>cases h2<;>first|(simp[z5]at o1;done)|rfl|simp[w4]
 |succ n p =>
  intro x y v h1 h2 o1 o2;cases h1 with
  |non=>cases h2;rfl
  |bl b=>cases h2;simp[w4]
  |int b=>cases h2;simp[w4]
  |str b=>cases h2;simp[w4]
  |ty b=>simp[z5]at o1
  |@tup a vs ds q r =>
   cases h2 with
   |tup h r'=>have e:=I.tuple_inj q h;subst e;exact l n p _ _ _ r r' (by simpa [z5]using o1)<|by simpa [z5]using o2
   |@ref i _ e =>
    exfalso;obtain⟨its,_,⟨o,t,u,_⟩,_⟩:=I.tuple q;have hi:i<M.length:=by rw[<-m.len];exact(B6.mp e).1
    obtain⟨g,d,_,_,_,⟨o',C,f,N,_⟩⟩:=lC I m e (A4 hi) (dI (A4 hi) o2).1;rw[t]at f;cases f;rw[u]at N;injection N with f3;exact t8 f3<|by decide
  |@ref i a e =>
   have hi:i<M.length:=by rw[<-m.len];exact(B6.mp e).1
   have k:=A4 hi;obtain⟨vs,its,q,r,R,E⟩:=lC I m e k (dI k o1).1;cases h2 with
   |tup h r'=>exfalso;obtain⟨d,_,⟨o,t,u,_⟩,_⟩:=I.tuple h;obtain⟨o',C,f,N,_⟩:=E;rw[t]at f;cases f;rw[u]at N;injection N with f3;exact t8 f3<|by decide
   |@ref j _ A =>
    have L:j<M.length:=by rw[<-m.len];exact(B6.mp A).1
    have c:=A4 L;obtain⟨g,d,h,r',O,F⟩:=lC I m A c (dI c o2).1;have B:vs=g:=I.list_inj q h;subst B;have w:=(dI k o1).2;have z:=(dI c o2).2;simp only[w4,k,c];exact l n p _ _ _ r r' w z
theorem mv(I:v4 X pins σ H s)(sm:z6 X.K ρ M H):∀(n:Nat) (A:e7) (x y:D) (vx vy:V) (u v:b7),A.units+n<k7->w5 X.K ρ H x vx->aL vx u->w5 X.K ρ H y vy->aL vy v->z5 M n x=a9->z5 M n y=a9 ->MB A s u v (w4 M n x y)/\SeqAt.RcAt A s u v (w4 M n x y)/\SeqAt.RcNeAt A s u v (!w4 M n x y):=by
 intro n;induction n with
 |zero =>
  intro A x y vx vy u v hu R w m l o1 o2;cases R with
  |ty b=>simp[z5]at o1
  |tup b=>simp[z5]at o1
  |ref b=>simp[z5]at o1
  |non =>
   cases w;cases m with
   |ty b=>simp[z5]at o2
   |tup b=>simp[z5]at o2
   |ref b=>simp[z5]at o2
   |non=>cases l;exact⟨Qn _,SeqAt.RcAt.none_none,SeqAt.RcNeAt.none_none⟩
   |bl b=>cases l;exact⟨SeqAt.EqAt.none_bool _,SeqAt.RcAt.none_bool _,SeqAt.RcNeAt.none_bool _⟩
   |int b=>obtain⟨t,rfl⟩:=l;exact⟨SeqAt.EqAt.none_int _ _,SeqAt.RcAt.none_int _ _,SeqAt.RcNeAt.none_int _ _⟩
   |str b=>obtain⟨t,rfl⟩:=l;exact⟨SeqAt.EqAt.none_str _ _,SeqAt.RcAt.none_str _ _,SeqAt.RcNeAt.none_str _ _⟩
  |bl a =>
   cases w;cases m with
   |ty b=>simp[z5]at o2
   |tup b=>simp[z5]at o2
   |ref b=>simp[z5]at o2
   |non=>cases l;exact⟨SeqAt.EqAt.bool_none _,SeqAt.RcAt.bool_none _,SeqAt.RcNeAt.bool_none _⟩
   |bl b=>cases l;exact⟨SeqAt.EqAt.bool_bool _ _,SeqAt.RcAt.bool_bool _ _,SeqAt.RcNeAt.bool_bool _ _⟩
   |int b=>obtain⟨t,rfl⟩:=l;exact⟨SeqAt.EqAt.bool_int _ _ _,SeqAt.RcAt.bool_int _ _ _,SeqAt.RcNeAt.bool_int _ _ _⟩
   |str b=>obtain⟨t,rfl⟩:=l;exact⟨SeqAt.EqAt.bool_str _ _ _,SeqAt.RcAt.bool_str _ _ _,SeqAt.RcNeAt.bool_str _ _ _⟩
  |int a =>
   obtain⟨t0,rfl⟩:=w;cases m with
   |ty b=>simp[z5]at o2
   |tup b=>simp[z5]at o2
   |ref b=>simp[z5]at o2
   |non=>cases l;exact⟨SeqAt.EqAt.int_none _ _,SeqAt.RcAt.int_none _ _,SeqAt.RcNeAt.int_none _ _⟩
   |bl b=>cases l;exact⟨SeqAt.EqAt.int_bool _ _ _,SeqAt.RcAt.int_bool _ _ _,SeqAt.RcNeAt.int_bool _ _ _⟩
   |int b=>obtain⟨t,rfl⟩:=l;exact⟨QG _ _ _ _,SeqAt.RcAt.int_int _ _ _ _,SeqAt.RcNeAt.int_int _ _ _ _⟩
   |str b=>obtain⟨t,rfl⟩:=l;exact⟨PH _ _ _ _,SeqAt.RcAt.int_str _ _ _ _,SeqAt.RcNeAt.int_str _ _ _ _⟩
  |str a =>
   obtain⟨t0,rfl⟩:=w;cases m with
   |ty b=>simp[z5]at o2
   |tup b=>simp[z5]at o2
   |ref b=>simp[z5]at o2
   |non=>cases l;exact⟨SeqAt.EqAt.str_none _ _,SeqAt.RcAt.str_none _ _,SeqAt.RcNeAt.str_none _ _⟩
   |bl b=>cases l;exact⟨SeqAt.EqAt.str_bool _ _ _,SeqAt.RcAt.str_bool _ _ _,SeqAt.RcNeAt.str_bool _ _ _⟩
   |int b=>obtain⟨t,rfl⟩:=l;exact⟨PF _ _ _ _,SeqAt.RcAt.str_int _ _ _ _,SeqAt.RcNeAt.str_int _ _ _ _⟩
   |str b=>obtain⟨t,rfl⟩:=l;exact⟨QF _ _ _ _,SeqAt.RcAt.str_str _ _ _ _,SeqAt.RcNeAt.str_str _ _ _ _⟩
 |succ n ih =>
  intro A x y vx vy u v hu R w m l o1 o2;have c:A.units<k7:=by lia
  have ab:A.in1.units+n<k7:=by show A.units+1+n<k7;lia
  -- what a list or a tuple is,as the heap has it
  have tupAt:∀{a:c8}{vs:List V}{ds:List D},C5 X.K H a vs->Reps X.K ρ H ds vs->∃its:List b7,az vs its/\s.heap.IsTuple a its.toArray/\ds.length=its.length:=λ{a vs ds} q r=>by obtain⟨its,g,p,_⟩:=I.tuple q;exact⟨its,g,p,r.length.trans g.length⟩
  have lstAt:∀{i:Nat}{a:c8},ρ[i]?=a7 a->z5 M (n+1) (.ref i)=a9->∃o,M[i]?=a7 o/\∃vs its,Reps X.K ρ H o.items vs/\az vs its/\s.heap.IsList a its.toArray/\o.items.length=its.length:=λ{i a} e ok=>by
   have hi:i<M.length:=by rw[<-sm.len];exact(B6.mp e).1
   have z:=A4 hi;obtain⟨vs,its,q,r,g,p⟩:=lC I sm e z (dI z ok).1;exact⟨_,z,vs,its,r,g,p.isList,r.length.trans g.length⟩
  have f:∀{xs ys:List D}{vs Y:List V}{its d:List b7},Reps X.K ρ H xs vs->az vs its->Reps X.K ρ H ys Y->az Y d->xs.all (z5 M n)=a9->ys.all (z5 M n)=a9 -> ∀(j:Nat) (h1:j<its.toArray.size) (h2:j<d.toArray.size),MB A.in1 s its.toArray[j] d.toArray[j] (w4 M n (xs.getD j .non)<|ys.getD j .non):=λ{xs ys vs Y its d} R q1 m q2 o1 o2 j h1 h2=>by
   have l1:j<xs.length:=by rw[R.length,q1.length];simpa using h1
   have l2:j<ys.length:=by rw[m.length,q2.length];simpa using h2
   obtain⟨v1,g1,p1⟩:=R.get<|A4 l1;obtain⟨v2,g2,p2⟩:=m.get<|A4 l2;obtain⟨u1,k1,m1⟩:=ii q1 g1;obtain⟨u2,k2,m2⟩:=ii q2 g2;have z1:its.toArray[j]=u1:=by have:=(B6.mp k1).2;simpa using this
   have z2:d.toArray[j]=u2:=by have:=(B6.mp k2).2;simpa using this
   rw[z1,z2];have y1:xs.getD j .non=xs[j]:=by simp[NE,A4 l1]
   have y2:ys.getD j .non=ys[j]:=by simp[NE,A4 l2]
   rw[y1,y2];exact(ih A.in1 _ _ _ _ _ _ ab p1 m1 p2 m2 (F4.mp o1 _<|Mm l1)<|F4.mp o2 _<|Mm l2).1
  have W:∀(xs ys:List D),xs.length=ys.length->(E4 xs.length).all (λj=>w4 M n (xs.getD j .non)<|ys.getD j .non)=F0 (w4 M n) xs ys:=λxs ys h=>mr h λj x y h1 h2=>by simp[NE,h1,h2]
  have N:∀{a b:c8}{k:Bool},w5 X.K ρ H x (.ref a)->w5 X.K ρ H y (.ref b)->w4 M (n+1) x y=k->SeqAt.RcAt A s (.ref a) (.ref b) k->SeqAt.RcNeAt A s (.ref a) (.ref b) (!k) -> MB A s (.ref a) (.ref b) (w4 M (n+1) x y)/\SeqAt.RcAt A s (.ref a) (.ref b) (w4 M (n+1) x y)/\SeqAt.RcNeAt A s (.ref a) (.ref b) (!w4 M (n+1) x y):=λ{a b k} p1 p2 Z h1 h2=>by subst Z;refine⟨?_,h1,h2⟩;by_cases S:a=b;subst S;rw[Ds I sm (n+1) x y _ p1 p2 o1 o2];exact Qn _;exact SeqAt.EqAt.of_refs S h1
  cases R with
  |ty b=>simp[z5]at o1
  |non =>
   cases w;cases m with
   |ty b=>simp[z5]at o2
   |tup q r=>cases l;obtain⟨its,g,p,_⟩:=tupAt q r;exact⟨SeqAt.EqAt.none_tuple p c,SeqAt.RcAt.none_tuple p c,SeqAt.RcNeAt.none_tuple p c⟩
   |ref e=>cases l;obtain⟨o,z,vs,its,r,g,p,_⟩:=lstAt e o2;exact⟨SeqAt.EqAt.none_list p c,SeqAt.RcAt.none_list p c,SeqAt.RcNeAt.none_list p c⟩
   |non=>cases l;exact⟨Qn _,SeqAt.RcAt.none_none,SeqAt.RcNeAt.none_none⟩
   |bl b=>cases l;exact⟨SeqAt.EqAt.none_bool _,SeqAt.RcAt.none_bool _,SeqAt.RcNeAt.none_bool _⟩
   |int b=>obtain⟨t,rfl⟩:=l;exact⟨SeqAt.EqAt.none_int _ _,SeqAt.RcAt.none_int _ _,SeqAt.RcNeAt.none_int _ _⟩
   |str b=>obtain⟨t,rfl⟩:=l;exact⟨SeqAt.EqAt.none_str _ _,SeqAt.RcAt.none_str _ _,SeqAt.RcNeAt.none_str _ _⟩
  |bl a =>
   cases w;cases m with
   |ty b=>simp[z5]at o2
   |tup q r=>cases l;obtain⟨its,g,p,_⟩:=tupAt q r;exact⟨SeqAt.EqAt.bool_tuple _ p c,SeqAt.RcAt.bool_tuple _ p c,SeqAt.RcNeAt.bool_tuple _ p c⟩
   |ref e=>cases l;obtain⟨o,z,vs,its,r,g,p,_⟩:=lstAt e o2;exact⟨SeqAt.EqAt.bool_list _ p c,SeqAt.RcAt.bool_list _ p c,SeqAt.RcNeAt.bool_list _ p c⟩
   |non=>cases l;exact⟨SeqAt.EqAt.bool_none _,SeqAt.RcAt.bool_none _,SeqAt.RcNeAt.bool_none _⟩
   |bl b=>cases l;exact⟨SeqAt.EqAt.bool_bool _ _,SeqAt.RcAt.bool_bool _ _,SeqAt.RcNeAt.bool_bool _ _⟩
   |int b=>obtain⟨t,rfl⟩:=l;exact⟨SeqAt.EqAt.bool_int _ _ _,SeqAt.RcAt.bool_int _ _ _,SeqAt.RcNeAt.bool_int _ _ _⟩
   |str b=>obtain⟨t,rfl⟩:=l;exact⟨SeqAt.EqAt.bool_str _ _ _,SeqAt.RcAt.bool_str _ _ _,SeqAt.RcNeAt.bool_str _ _ _⟩
  |int a =>
   obtain⟨t0,rfl⟩:=w;cases m with
   |ty b=>simp[z5]at o2
   |tup q r=>cases l;obtain⟨its,g,p,_⟩:=tupAt q r;exact⟨SeqAt.EqAt.int_tuple _ _ p c,SeqAt.RcAt.int_tuple _ _ p c,SeqAt.RcNeAt.int_tuple _ _ p c⟩
   |ref e=>cases l;obtain⟨o,z,vs,its,r,g,p,_⟩:=lstAt e o2;exact⟨SeqAt.EqAt.int_list _ _ p c,SeqAt.RcAt.int_list _ _ p c,SeqAt.RcNeAt.int_list _ _ p c⟩
   |non=>cases l;exact⟨SeqAt.EqAt.int_none _ _,SeqAt.RcAt.int_none _ _,SeqAt.RcNeAt.int_none _ _⟩
   |bl b=>cases l;exact⟨SeqAt.EqAt.int_bool _ _ _,SeqAt.RcAt.int_bool _ _ _,SeqAt.RcNeAt.int_bool _ _ _⟩
   |int b=>obtain⟨t,rfl⟩:=l;exact⟨QG _ _ _ _,SeqAt.RcAt.int_int _ _ _ _,SeqAt.RcNeAt.int_int _ _ _ _⟩
   |str b=>obtain⟨t,rfl⟩:=l;exact⟨PH _ _ _ _,SeqAt.RcAt.int_str _ _ _ _,SeqAt.RcNeAt.int_str _ _ _ _⟩
  |str a =>
   obtain⟨t0,rfl⟩:=w;cases m with
   |ty b=>simp[z5]at o2
   |tup q r=>cases l;obtain⟨its,g,p,_⟩:=tupAt q r;exact⟨SeqAt.EqAt.str_tuple _ _ p c,SeqAt.RcAt.str_tuple _ _ p c,SeqAt.RcNeAt.str_tuple _ _ p c⟩
   |ref e=>cases l;obtain⟨o,z,vs,its,r,g,p,_⟩:=lstAt e o2;exact⟨SeqAt.EqAt.str_list _ _ p c,SeqAt.RcAt.str_list _ _ p c,SeqAt.RcNeAt.str_list _ _ p c⟩
   |non=>cases l;exact⟨SeqAt.EqAt.str_none _ _,SeqAt.RcAt.str_none _ _,SeqAt.RcNeAt.str_none _ _⟩
   |bl b=>cases l;exact⟨SeqAt.EqAt.str_bool _ _ _,SeqAt.RcAt.str_bool _ _ _,SeqAt.RcNeAt.str_bool _ _ _⟩
   |int b=>obtain⟨t,rfl⟩:=l;exact⟨PF _ _ _ _,SeqAt.RcAt.str_int _ _ _ _,SeqAt.RcNeAt.str_int _ _ _ _⟩
   |str b=>obtain⟨t,rfl⟩:=l;exact⟨QF _ _ _ _,SeqAt.RcAt.str_str _ _ _ _,SeqAt.RcNeAt.str_str _ _ _ _⟩
  |@tup a vs ds q r =>
   cases w;obtain⟨its,g,p,Q⟩:=tupAt q r;cases m with
   |ty b=>simp[z5]at o2
   |non=>cases l;exact⟨SeqAt.EqAt.tuple_none p c,SeqAt.RcAt.tuple_none p c,SeqAt.RcNeAt.tuple_none p c⟩
   |bl b=>cases l;exact⟨SeqAt.EqAt.tuple_bool _ p c,SeqAt.RcAt.tuple_bool _ p c,SeqAt.RcNeAt.tuple_bool _ p c⟩
   |int b=>obtain⟨t,rfl⟩:=l;exact⟨SeqAt.EqAt.tuple_int _ _ p c,SeqAt.RcAt.tuple_int _ _ p c,SeqAt.RcNeAt.tuple_int _ _ p c⟩
   |str b=>obtain⟨t,rfl⟩:=l;exact⟨SeqAt.EqAt.tuple_str _ _ p c,SeqAt.RcAt.tuple_str _ _ p c,SeqAt.RcNeAt.tuple_str _ _ p c⟩
   |ref e=>cases l;obtain⟨o,z,aj,U,r',O,F,_⟩:=lstAt e o2;exact⟨SeqAt.EqAt.tuple_list p F c,SeqAt.RcAt.tuple_list p F c,SeqAt.RcNeAt.tuple_list p F c⟩
   |@tup b Y es L r' =>
    cases l;obtain⟨d,O,F,C⟩:=tupAt L r';have E:ds.all (z5 M n)=a9:=by simpa [z5]using o1
    have G:es.all (z5 M n)=a9:=by simpa [z5]using o2
    have ai:((E4<|min its.toArray.size d.toArray.size).all (λj=>w4 M n (ds.getD j .non)<|es.getD j .non)&&its.toArray.size==d.toArray.size)=F0 (w4 M n) ds es:=by rw[C8,C8];by_cases J:ds.length=es.length;rw[<-Q,<-C,<-J,Nat.min_self,W ds es J];simp;rw[Az J,<-Q,<-C];simp[J]
    have h1:=SeqAt.RcAt.tuples p F c<|f r g r' O E G;have h2:=SeqAt.RcNeAt.tuples p F c<|f r g r' O E G;rw[ai]at h1 h2;exact N (.tup q r) (.tup L r') rfl h1 h2
  |@ref i a e =>
   cases w;obtain⟨o,z,vs,its,r,g,p,Q⟩:=lstAt e o1;cases m with
   |ty b=>simp[z5]at o2
   |non=>cases l;exact⟨SeqAt.EqAt.list_none p c,SeqAt.RcAt.list_none p c,SeqAt.RcNeAt.list_none p c⟩
   |bl b=>cases l;exact⟨SeqAt.EqAt.list_bool _ p c,SeqAt.RcAt.list_bool _ p c,SeqAt.RcNeAt.list_bool _ p c⟩
   |int b=>obtain⟨t,rfl⟩:=l;exact⟨SeqAt.EqAt.list_int _ _ p c,SeqAt.RcAt.list_int _ _ p c,SeqAt.RcNeAt.list_int _ _ p c⟩
   |str b=>obtain⟨t,rfl⟩:=l;exact⟨SeqAt.EqAt.list_str _ _ p c,SeqAt.RcAt.list_str _ _ p c,SeqAt.RcNeAt.list_str _ _ p c⟩
   |tup L r'=>cases l;obtain⟨U,O,F,_⟩:=tupAt L r';exact⟨SeqAt.EqAt.list_tuple p F c,SeqAt.RcAt.list_tuple p F c,SeqAt.RcNeAt.list_tuple p F c⟩
   |@ref j b e' =>
    cases l;obtain⟨P,T,Y,d,r',O,F,C⟩:=lstAt e' o2;have E:o.items.all (z5 M n)=a9:=(dI z o1).2;have G:P.items.all (z5 M n)=a9:=(dI T o2).2;have Z:w4 M (n+1) (.ref i) (.ref j)=F0 (w4 M n) o.items P.items:=by simp only[w4,z,T]
    by_cases J:o.items.length=P.items.length;have B:its.toArray.size=d.toArray.size:=by rw[C8,C8,<-Q,<-C,J]
    have h1:=SeqAt.RcAt.lists p F B c<|f r g r' O E G;have h2:=SeqAt.RcNeAt.lists p F B c<|f r g r' O E G;rw[C8,<-Q,W _ _ J]at h1 h2;exact N (.ref e) (.ref e') Z h1 h2;have B:(its.toArray.size != d.toArray.size)=a9:=by rw[C8,C8,<-Q,<-C];simpa using J
    have h1:=SeqAt.RcAt.lists_lengths p F B c;have h2:=SeqAt.RcNeAt.lists_lengths p F B c;exact N (.ref e) (.ref e') (Z.trans<|Az J) h1 h2
noncomputable def x5:Nat:=30
def D3:G3:=λx y M Q=>(z5 M x5 x=a9/\z5 M x5 y=a9)/\Q (.bl<|w4 M x5 x y) M
def P6:G3:=λx y M Q=>(z5 M x5 x=a9/\z5 M x5 y=a9)/\Q (.bl<|!w4 M x5 x y) M
noncomputable def Nj(M:v8)(x:D)(ys:List D):Bool:=ys.any λy=>w4 M x5 y x
def Iu(g:Bool):G3:=λx y M Q=>match y with
 |.tup ys=>(z5 M x5 x=a9/\ys.all (z5 M x5)=a9)/\Q (.bl<|Nj M x ys != g) M
 |.ref n=>∃ys,ak M n ys/\(z5 M x5 x=a9/\ys.all (z5 M x5)=a9)/\Q (.bl<|Nj M x ys != g) M
 |.str z=>match x with
  |.str p=>Q (.bl<|(!(QQ z p 0 z.length 1).isEmpty) != g) M
  |_=>False
 |_=>False
abbrev Ox:G3:=Iu bt
abbrev vU:G3:=Iu a9
end
section
variable{X:Cx}
theorem vn(i:Room k A):A.units+x5<k7:=by have:=i.un;unfold x5;lia
theorem od_eq(i:Room k X.A):G9 X (j8 .Eq) D3:=by rintro p s σ H f b v u R I g a ⟨x,y,M,ρ,Q,m,r,l,⟨⟨o1,o2⟩,q⟩,k⟩;exact(mv I m x5 X.A x y f b v u (vn i) r g l a o1 o2).2.1 _ _ _ _<|eN I m k q
theorem od_ne(i:Room k X.A):G9 X (j8 .NotEq) P6:=by rintro p s σ H f b v u R I g a ⟨x,y,M,ρ,Q,m,r,l,⟨⟨o1,o2⟩,q⟩,k⟩;exact(mv I m x5 X.A x y f b v u (vn i) r g l a o1 o2).2.2 _ _ _ _<|eN I m k q
theorem sK{pins:List (c8×c9)}{σ:St}{H:Hp}{s:e8}{ρ:List c8}{M:v8}(I:v4 X pins σ H s)(m:z6 X.K ρ M H):∀(n:Nat) (x y z:D) (v:V),w5 X.K ρ H x v->w5 X.K ρ H y v->z5 M n x=a9->z5 M n y=a9->w4 M n x z=w4 M n y z:=by
 have l:∀(n:Nat),(∀(x y z:D) (v:V),w5 X.K ρ H x v->w5 X.K ρ H y v->z5 M n x=a9->z5 M n y=a9->w4 M n x z=w4 M n y z) -> ∀(xs ys d:List D) (vs:List V),Reps X.K ρ H xs vs->Reps X.K ρ H ys vs->xs.all (z5 M n)=a9->ys.all (z5 M n)=a9->F0 (w4 M n) xs d=F0 (w4 M n) ys d:=by
  intro n u xs;induction xs with
  |nil=>intro ys d vs h1 h2 _ _;cases h1;cases h2;rfl
  |cons x xs hi =>
   intro ys d vs h1 h2 o1 o2;cases h1 with
   |cons J Q =>
    cases h2 with
    |cons O R =>
     cases d with
     |nil=>rfl
     |cons z d=>rw[Mi,G7]at o1 o2;rw[F0,F0,u _ _ z _ J O o1.1 o2.1,hi _ d _ Q R o1.2 o2.2]
 intro n;induction n with
 |zero=>intro x y z v h1 h2 o1 o2;cases h1<;>cases h2<;>first|rfl|(cases z<;>rfl)
 |succ n u =>
  intro x y z v h1 h2 o1 o2;cases h1 with
  |non=>cases h2;rfl
  |bl b=>cases h2;rfl
  |int b=>cases h2;rfl
  |str b=>cases h2;rfl
  |ty b=>cases h2;rfl
  |@tup a vs ds t r =>
   cases h2 with
   |tup h r' =>
    have e:=I.tuple_inj t h;subst e;cases z with
    |tup d=>exact l n u _ _ d _ r r' o1 o2
    |_=>rfl
   |@ref i _ e =>
    exfalso;obtain⟨its,_,⟨o,w,A,_⟩,_⟩:=I.tuple t;have hi:i<M.length:=by rw[<-m.len];exact(B6.mp e).1
    obtain⟨p,f,_,_,_,⟨o',E,g,N,_⟩⟩:=lC I m e (A4 hi) (dI (A4 hi) o2).1;rw[w]at g;cases g;rw[A]at N;injection N with f3;exact t8 f3<|by decide
  |@ref i a e =>
   have hi:i<M.length:=by rw[<-m.len];exact(B6.mp e).1
   have q:=A4 hi;obtain⟨vs,its,t,r,T,F⟩:=lC I m e q (dI q o1).1;cases h2 with
   |tup h r'=>exfalso;obtain⟨f,_,⟨o,w,A,_⟩,_⟩:=I.tuple h;obtain⟨o',E,g,N,_⟩:=F;rw[w]at g;cases g;rw[A]at N;injection N with f3;exact t8 f3<|by decide
   |@ref j _ B =>
    have L:j<M.length:=by rw[<-m.len];exact(B6.mp B).1
    have c:=A4 L;obtain⟨p,f,h,r',P,G⟩:=lC I m B c (dI c o2).1;have C:vs=p:=I.list_inj t h;subst C;cases z with
    |ref k =>
     simp only[w4,q,c];cases M[k]? with
     |none=>rfl
     |some S=>exact l n u _ _ _ _ r r' (dI q o1).2 (dI c o2).2
    |_=>rfl
theorem Al{k:Nat}(E:Room k X.A){pins:List (c8×c9)}{σ:St}{H:Hp}{s:e8}{ρ:List c8}{M:v8}(I:v4 X pins σ H s)(m:z6 X.K ρ M H){x:D}{l:V}{v:b7}(G:w5 X.K ρ H x l)(J:aL l v)(o1:z5 M x5 x=a9):∀{ys:List D}{ws:List V}{its:List b7},Reps X.K ρ H ys ws->az ws its->ys.all (z5 M x5)=a9->∃e:b7->Bool,(∀u∈its,MB X.A.in1 s u v<|e u)/\its.any e=Nj M x ys:=by
 have w:X.A.in1.units+x5<k7:=by have:=E.un;show X.A.units+1+x5<k7;unfold x5;lia
 intro ys ws its i vs ok
 classical
 refine⟨λu=>if h:∃d a,w5 X.K ρ H d a/\aL a u/\z5 M x5 d=a9 then w4 M x5 h.choose x else bt,λu C=>?_,?_⟩;obtain⟨j,L,z⟩:=Rt C;have y:j<ws.length:=by rw[vs.length];exact L
 obtain⟨d,n,f⟩:=i.getV<|A4 y;obtain⟨u',b,T⟩:=ii vs<|A4 y;have:u'=u:=by rw[A4 L]at b;cases b;exact z
 subst this;have o:=F4.mp ok _<|K7 n;have h:∃d a,w5 X.K ρ H d a/\aL a u'/\z5 M x5 d=a9:=⟨d,_,f,T,o⟩
 show MB X.A.in1 s u' v (if h:_ then _ else _);rw[dif_pos h];obtain⟨a,g,p,c⟩:=h.choose_spec;have B:=aL.inj p T;subst B;rw[sK I m x5 _ d x _ g f c o];exact(mv I m x5 X.A.in1 d x _ l _ v w f T G J (F4.mp ok _<|K7 n) o1).1;clear w o1;unfold Nj;induction ys generalizing ws its with
 |nil=>cases i;cases vs;rfl
 |cons d ds F =>
  cases i with
  |cons r t =>
  cases vs with
  |cons q t' =>
   rename_i a N u us;rw[Mi,G7]at ok;have h:∃d a,w5 X.K ρ H d a/\aL a u/\z5 M x5 d=a9:=⟨d,_,r,q,ok.1⟩
   rw[List.any_cons,List.any_cons,F t t' ok.2,dif_pos h];obtain⟨O,g,p,c⟩:=h.choose_spec;have B:=aL.inj p q;subst B;rw[sK I m x5 _ d x _ g r c ok.1]
theorem El(g:Bool)(D:Room k X.A):G9 X (j8<|if g then .NotIn else .In) (Iu g):=by
 rintro E s σ H K N v u R I B C ⟨x,y,M,ρ,Q,m,n,G,q,k⟩;cases G with
 |non=>exact q.elim
 |bl b=>exact q.elim
 |int b=>exact q.elim
 |ty b=>exact q.elim
 |str z =>
  cases n with
  |str p =>
   obtain⟨t,rfl⟩:=B;obtain⟨t',rfl⟩:=C;cases g with
   |false=>exact in_str<|eN I m k<|by simpa [Iu]using q
   |true=>exact notIn_str<|eN I m k<|by simpa [Iu]using q
  |_=>exact q.elim
 |@tup a J ys j r =>
  cases C;obtain⟨⟨o1,o2⟩,q⟩:=(show (z5 M x5 x=a9/\_)/\_ from q)
  obtain⟨its,o,l,F⟩:=I.tuple j;obtain⟨e,i,f⟩:=Al D I m n B o1 r o o2;have d:its.toArray.any e=Nj M x ys:=by rw[<-f];simp
  cases g with
  |false=>exact SeqAt.in_tupleAt e l (λw c=>i w<|by simpa using c)<|by rw[d];exact eN I m k<|by simpa using q
  |true=>exact SeqAt.notIn_tupleAt e l (λw c=>i w<|by simpa using c)<|by rw[d];exact eN I m k<|by simpa using q
 |ref h =>
  cases C;obtain⟨ys,L,⟨o1,o2⟩,q⟩:=(show ∃ys,ak M _ ys/\(z5 M x5 x=a9/\_)/\_ from q)
  obtain⟨J,j,r⟩:=ak.seq m L h;obtain⟨its,o,l,F⟩:=I.list j;obtain⟨e,i,f⟩:=Al D I m n B o1 r o o2;have d:its.toArray.any e=Nj M x ys:=by rw[<-f];simp
  cases g with
  |false=>exact SeqAt.in_listAt e l.isList (λw c=>i w<|by simpa using c)<|by rw[d];exact eN I m k<|by simpa using q
  |true=>exact SeqAt.notIn_listAt e l.isList (λw c=>i w<|by simpa using c)<|by rw[d];exact eN I m k<|by simpa using q
theorem od_in(i:Room k X.A):G9 X (j8 .In) Ox:=El bt i
theorem Cs(i:Room k X.A):G9 X (j8 .NotIn) vU:=El a9 i
end
theorem Lk:d9 "len" = a7 (.builtin "len"):=by decide +kernel
theorem Lm:d9 "all" = a7 (.builtin "all"):=by decide +kernel
theorem eP:d9 "isinstance" = a7 (.builtin "isinstance"):=by decide +kernel
theorem Bk:d9 "sorted" = a7 (.builtin "sorted"):=by decide +kernel
theorem Ll:d9 "int" = a7 (.type "int"):=by decide +kernel
theorem Li:d9 "str" = a7 (.type "str"):=by decide +kernel
theorem Hq:d9 "bool" = a7 (.type "bool"):=by decide +kernel
theorem Hn:d9 "list" = a7 (.type "list"):=by decide +kernel
theorem Ea:d9 "tuple" = a7 (.type "tuple"):=by decide +kernel
theorem Ho:d9 "dict" = a7 (.type "dict"):=by decide +kernel
noncomputable def visB(c:f6)(x:c5):Bool:=match c.names.lookup x with
 |some .local=>a9
 |some .cell=>a9
 |some .free=>a9
 |_=>bt
theorem HK(h:visB sc x=a9):Od sc x:=by unfold visB at h;unfold Od;split at h;rename_i e;exact .inl e;rename_i e;exact .inr<|.inl e;rename_i e;exact .inr<|.inr e;cases h
noncomputable def FN(c:f6)(x:c5):Bool:=match c.names.lookup x with
 |some .local=>a9
 |some .cell=>a9
 |_=>bt
theorem we(h:FN sc x=a9):NT sc x:=by unfold FN at h;unfold NT;split at h;rename_i e;exact .inl e;rename_i e;exact .inr e;cases h
structure HE(X:Cx)(e:f9)(t:A0):Prop where
 ok:DE X e t
structure HT(X:Cx)(e:f9)(t:K0):Prop where
 ok:DT X e t
structure HW(X:Cx)(e:f9)(t:K0):Prop where
 ok:DW X e t
structure HA(X:Cx)(es:List f9)(t:G1):Prop where
 ok:DA X es t
structure HS(X:Cx)(e:i5)(t:v7):Prop where
 ok:DS X e t
structure HB(X:Cx)(e:List i5)(t:v7):Prop where
 ok:MX X e t
structure HG(X:Cx)(e:f9)(t:Ly):Prop where
 ok:DG X e t
structure HI(X:Cx)(tg e:f9)(t:L8):Prop where
 ok:DI X tg e t
structure OA(X:Cx)(e:List f9)(t:K0):Prop where
 ok:Nk X e (lowT X.K t)
structure HO'(X:Cx)(e:Option f9)(t:Og):Prop where
 ok:PO X e (Jq X.K t)
structure H9(X:Cx)(f:b7->b7->Sem b7)(r:G3):Prop where
 ok:G9 X f r
structure HUn(X:Cx)(f:b7->Sem b7)(r:Ri):Prop where
 ok:UnD X f r
structure HC(X:Cx)(f:b7)(r:F7):Prop where
 ok:jt X f r
structure RT(X:Cx)(name:c5)(r:c5->F7):Prop where
 ok:∃id,Slot "str" name id/\m9 (.builtin id)=pure (.type "method_descriptor")/\Mt X id (FM X.K r)
structure RU(X:Cx)(name:c5)(r:Nat->F7):Prop where
 ok:∃id,Slot "list" name id/\m9 (.builtin id)=pure (.type "method_descriptor")/\Mt X id (pf X.K r)
section
variable{X:Cx}{e a b c o:f9}{es aM:List f9}{te ta tb tc to:A0}{t:G1}{pos p:i0}{x:c5}{tA tB:K0}{k:Nat}
theorem k_var(h:X.N[i]?=a7 x:=by kernel_rfl)(c:visB X.env.scope x=a9:=by kernel_rfl)(a:(x==("__debug__":c5))=bt:=by kernel_rfl)(d:(x==("__classdict__":c5))=bt:=by kernel_rfl):HE X (.Name x pos) (ac i):=⟨d_var h (HK c) a d⟩
theorem k_int:HE X (.Constant (.int i) j pos) (dC<|.int i):=⟨d_int⟩
theorem k_bl:HE X (.Constant (.bool i) j pos) (dC<|.bl i):=⟨d_bl⟩
theorem k_non:HE X (.Constant .none j pos) (dC .non):=⟨d_non⟩
theorem k_str:HE X (.Constant (.str i) j pos) (dC<|.str i):=⟨d_str⟩
theorem JM(m:X.mg x=a8)(c:d9 x=a7 (.type T))(R:X.env.kindOf x=a7 .globalImplicit:=by kernel_rfl)(f:(x==("__name__":c5))=bt:=by kernel_rfl)(d:(x==("__debug__":c5))=bt:=by kernel_rfl):HE X (.Name x pos) (dC<|.ty T):=⟨KU m c R (by simpa using f) d⟩
theorem k_op(B:H9 X (j7 op) r)(f:HE X a ta)(d:HE X b tb):HE X (.BinOp a op b pos) (u9 r ta tb):=⟨d_op B.ok f.ok d.ok⟩
theorem k_cmp(B:H9 X (j8 op) r)(f:HE X a ta)(d:HE X b tb)(m:j9 op b=bt:=by kernel_rfl):HE X (.Compare a [op] [b] pos) (u9 r ta tb):=⟨d_cmp B.ok f.ok d.ok m⟩
theorem Jz(B:H9 X (j8 op) r)(f:HE X a ta)(d:HE X b tb)(m:j9 op b=bt:=by kernel_rfl):HT X (.Compare a [op] [b] pos) (ax<|u9 r ta tb):=⟨KA B.ok f.ok d.ok m⟩
theorem Gq(B:H9 X (j8 op) r)(h:H9 X (j8 op') r')(f:HE X a ta)(d:HE X b tb)(e:HE X c tc)(m:lastMarks [op,op'] [b,c]=bt:=by kernel_rfl):HE X (.Compare a [op,op'] [b,c] pos) (sR r r' ta tb tc):=⟨Hc B.ok h.ok f.ok d.ok e.ok m⟩
theorem Jx(h:HE X e te)(i:∀whole,isTrue e X.env whole=(do let v <-whole;standAt e.pos;i6 [v] (truthy v)):=by intro _;kernel_rfl):HT X e (ax te):=⟨Kx h.ok i⟩
theorem FW(f:HT X a tA):HW X (.BoolOp .And [a] pos) tA:=⟨GJ f.ok⟩
theorem Jv(f:HT X a tA):HW X (.BoolOp .Or [a] pos) tA:=⟨Kv f.ok⟩
theorem Ep(f:HT X a tA)(d:HW X (.BoolOp .And (b::aM) pos) tB):HW X (.BoolOp .And (a::b::aM) pos) (pK tA tB):=⟨Kw f.ok d.ok⟩
theorem Jw(f:HT X a tA)(d:HW X (.BoolOp .Or (b::aM) pos) tB):HW X (.BoolOp .Or (a::b::aM) pos) (NS tA tB):=⟨dw_or f.ok d.ok⟩
theorem kw_t(h:HW X e tA):HT X e tA:=⟨dw_t h.ok⟩
theorem Jy(f:HT X a tA):HT X (.UnaryOp .Not a pos) (DM tA):=⟨Kz f.ok⟩
theorem k_one{op}(h:HE X a ta):HE X (.BoolOp op [a] pos) ta:=⟨d_one h.ok⟩
theorem k_and(f:HE X a ta)(d:HE X (.BoolOp .And (b::aM) pos) tb):HE X (.BoolOp .And (a::b::aM) pos) (eY ta tb):=⟨d_and f.ok d.ok⟩
theorem k_or(f:HE X a ta)(d:HE X (.BoolOp .Or (b::aM) pos) tb):HE X (.BoolOp .Or (a::b::aM) pos) (dOrV ta tb):=⟨d_or f.ok d.ok⟩
theorem k_not(f:HE X a ta):HE X (.UnaryOp .Not a pos) (AT ta):=⟨d_not f.ok⟩
theorem JL:HA X [] ag:=⟨KR⟩
theorem Gk(f:HE X e te)(i:HA X es t)(hs:i4 (e::es) X.env=(bt,eval e X.env)::i4 es X.env:=by kernel_rfl):HA X (e::es) (aa te t):=⟨GZ f.ok i.ok hs⟩
theorem k_tup{x1}(h:HA X es t):HE X (.Tuple es x1 pos) (cQ t):=⟨d_tup h.ok⟩
theorem k_lst(h:HA X es t):HE X (.List es pos) (gM t):=⟨d_lst h.ok⟩
theorem Gr{id:String}{r:F7}(c:HC X (.builtin id) r)(d:X.mg x=a8)(v:d9 x=a7 (.builtin id))(f:HA X (e::es) t)(R:X.env.kindOf x=a7 .globalImplicit:=by kernel_rfl)(n:(x==("__name__":c5))=bt:=by kernel_rfl)(b:(x==("__debug__":c5))=bt:=by kernel_rfl)(i:i4 (e::es) X.env=(bt,eval e X.env)::i4 es X.env:=by kernel_rfl) (l:(i3 pos<|i4 es X.env).any (·.1)=bt:=by kernel_rfl):HE X (.Call (.Name x p) (e::es) [] pos) (w6 r t):=⟨He c.ok d v f.ok R (by simpa using n) b i l⟩
theorem CV(c:HC X (.type T) r)(d:X.mg x=a8)(v:d9 x=a7 (.type T))(f:HA X (e::es) t)(R:X.env.kindOf x=a7 .globalImplicit:=by kernel_rfl)(n:(x==("__name__":c5))=bt:=by kernel_rfl)(b:(x==("__debug__":c5))=bt:=by kernel_rfl)(i:i4 (e::es) X.env=(bt,eval e X.env)::i4 es X.env:=by kernel_rfl) (l:(i3 pos<|i4 es X.env).any (·.1)=bt:=by kernel_rfl):HE X (.Call (.Name x p) (e::es) [] pos) (w6 r t):=⟨DJ c.ok d v f.ok R (by simpa using n) b i l⟩
theorem k_cal(C:z9 X.prog X.w X.K X.mg X.base j x ps P)(r:Room k X.A)(f:HA X (e::es) t)(hj:Nat.ble j k=a9:=by kernel_rfl)(R:X.env.kindOf x=a7 .globalImplicit:=by kernel_rfl) (b:(x==("__debug__":c5))=bt:=by kernel_rfl) (i:i4 (e::es) X.env=(bt,eval e X.env)::i4 es X.env:=by kernel_rfl) (l:(i3 pos<|i4 es X.env).any (·.1)=bt:=by kernel_rfl):HE X (.Call (.Name x p) (e::es) [] pos) (w6 P t):=⟨d_cal C r f.ok (Rx hj) R b i l⟩
theorem k_ix(f:HE X a ta)(d:HE X b tb)(hs:pS b:=by intro _ _;kernel_rfl):HE X (.Subscript a b pos) (u9 w9 ta tb):=⟨d_ix f.ok d.ok hs⟩
theorem Ge:HO' X a8 mx:=⟨GR⟩
theorem Gd(h:HE X e te):HO' X (a7 e) (uQ te):=⟨GQ h.ok⟩
theorem Go{lo hi:Option f9}{t h:Og}{j:i0}(i:HE X e te)(g:HO' X lo t)(u:HO' X hi h):HE X (.Subscript e (.Slice lo hi a8 j) pos) (Oy te t h):=⟨Hb i.ok g.ok u.ok⟩
variable{name:c5}{apos cpos:i0}
theorem k_ms(d:RT X name r)(B:HE X o to)(f:HA X (e::es) t)(b:n0 o name X.env (eval o X.env)=eval o X.env:=by kernel_rfl)(w:((i3 cpos<|i4 (e::es) X.env).all (λx=>!x.1)&&(n5 cpos<|n6 [] X.env).all (λx=>x.1.isSome) && decide ((e::es).length+([]:List m3).length+(if ([]:List m3).isEmpty then 0 else 1)<30))=a9:=by kernel_rfl)(c:(apos.endLine==cpos.line)=a9:=by kernel_rfl) (hs:i4 (e::es) X.env=(bt,eval e X.env)::i4 es X.env:=by kernel_rfl) (n:(i3 cpos<|i4 es X.env).any (·.1)=bt:=by kernel_rfl):HE X (.Call (.Attribute o name apos) (e::es) [] cpos) (P9 r to t):=let ⟨_,h1,h2,h3⟩:=d.ok;⟨d_ms h1 h2 h3 B.ok f.ok b w c hs n⟩
theorem k_ml(d:RU X name r)(B:HE X o to)(f:HA X (e::es) t)(b:n0 o name X.env (eval o X.env)=eval o X.env:=by kernel_rfl)(w:((i3 cpos<|i4 (e::es) X.env).all (λx=>!x.1)&&(n5 cpos<|n6 [] X.env).all (λx=>x.1.isSome) && decide ((e::es).length+([]:List m3).length+(if ([]:List m3).isEmpty then 0 else 1)<30))=a9:=by kernel_rfl)(c:(apos.endLine==cpos.line)=a9:=by kernel_rfl) (hs:i4 (e::es) X.env=(bt,eval e X.env)::i4 es X.env:=by kernel_rfl) (n:(i3 cpos<|i4 es X.env).any (·.1)=bt:=by kernel_rfl):HE X (.Call (.Attribute o name apos) (e::es) [] cpos) (Ms r to t):=let ⟨_,h1,h2,h3⟩:=d.ok;⟨d_ml h1 h2 h3 B.ok f.ok b w c hs n⟩
variable{st:i5}{sts:List i5}{ts us:v7}{aS bS:List i5}
theorem JB:HB X [] aP:=⟨KH⟩
theorem JA(h:HS X st ts):HB X [st] ts:=⟨KG h.ok⟩
theorem Gc(h1:HS X st ts)(h2:HB X sts us):HB X (st::sts) (aB ts us):=⟨GP h1.ok h2.ok⟩
theorem Ab(i:HE X e te)(hs:i7 e a8 pos.line X.env=pure bt:=by kernel_rfl):HS X (.Expr e pos) (iM te):=⟨GO i.ok hs⟩
theorem Eu(i:HE X e te):HS X (.Return (a7 e) pos) (bp te):=⟨KD i.ok⟩
theorem JC(h:HT X c tA)(f:HB X aS ts)(d:HB X bS us):HS X (.If c aS bS pos) (C9 tA ts us):=⟨ds_if h.ok f.ok d.ok⟩
theorem Et(h:X.N.Nodup)(a:HE X e te)(hi:X.N[i]?=a7 x:=by kernel_rfl)(b:FN X.env.scope x=a9:=by kernel_rfl)(hs:i7 e (a7<|.Name x pos') pos.line X.env=pure bt:=by kernel_rfl)(f:X.fn x=a9:=by kernel_rfl):HS X (.Assign [.Name x pos'] e pos) (bd te i):=⟨KC h a.ok hi (we b) hs<|.inl f⟩
theorem Gh(h:X.N.Nodup)(hi:X.N[i]?=a7 x:=by kernel_rfl)(a:FN X.env.scope x=a9:=by kernel_rfl)(f:X.fn x=a9:=by kernel_rfl):HG X (.Name x pos) (af i):=⟨uP h hi (we a)<|.inl f⟩
theorem JH(h:X.N.Nodup)(hi:X.N[i]?=a7 x:=by kernel_rfl)(f:X.env.scope.names.lookup x=a7 .local:=by kernel_rfl):HG X (.Name x pos) (af i):=⟨uP h hi (.inl f)<|.inr f⟩
variable{tg iter:f9}{di:L8}{g:Ly}
theorem JE(h:HE X e te):HI X tg e (cJ te):=⟨KM h.ok⟩
theorem Ev{a:List i5}{b:v7}(hi:HI X tg iter di)(R:HG X tg g)(d:HB X a b)(hp:PassesOwn (ge X.prog X.w) X.A X.env X.xe:=by exact PassesOwn.never)(f:X.calm=a9:=by kernel_rfl)(hs:∀x,j6 iter X.env x=pure x:=by intro _;kernel_rfl):HS X (.For tg iter a [] pos) (jP di g b):=⟨KI hi.ok R.ok d.ok hp f hs⟩
theorem Ga:OA X [] pV:=⟨GL⟩
theorem FZ(h:HT X c tA):OA X [c] tA:=⟨GK h.ok⟩
theorem k_lc(hi:HI X tg iter di)(R:∀cl s0 H0 ex,HG (D5 X N' scope cl s0 H0 ex) tg g) (D:∀cl s0 H0 ex,OA (D5 X N' scope cl s0 H0 ex) ifs tt) (i:∀cl s0 H0 ex,HE (D5 X N' scope cl s0 H0 ex) elt te) (B:om X.env.scope.names X.N N' nt js scope=a9:=by kernel_rfl) (f:X.calm=a9:=by kernel_rfl)(hs:∀x,j6 iter X.env x=pure x:=by intro _;kernel_rfl):HE X (.ListComp elt [⟨tg,iter,ifs,0⟩] scope pos) (LH nt js di g tt te):=⟨d_lc (BlkSc.chk B) hi.ok (λcl s0 H0 ex=>(R cl s0 H0 ex).ok) (λcl s0 H0 ex=>(D cl s0 H0 ex).ok) (λcl s0 H0 ex=>(i cl s0 H0 ex).ok) f hs⟩
theorem Ad(d:X.mg "range" = a8)(f:HA X [a] t)(R:X.env.kindOf "range" = a7 .globalImplicit:=by kernel_rfl)(hs:i4 [a] X.env=[(bt,eval a X.env)]:=by kernel_rfl):HI X tg (.Call (.Name "range" p) [a] [] pos) (bK t):=⟨AJ d f.ok R hs⟩
theorem Kb:H9 X (j7 .Sub) Hs:=⟨Jf⟩
theorem Ke:H9 X (j7 .Mult) jU:=⟨FG⟩
theorem Gz:H9 X (j7 .FloorDiv) aN:=⟨FH⟩
theorem Kf:H9 X (j7 .Mod) bY:=⟨Ji⟩
theorem ho_lt:H9 X (j8 .Lt) Ni:=⟨od_lt⟩
theorem ho_le:H9 X (j8 .LtE) O3:=⟨od_le⟩
theorem ho_gt:H9 X (j8 .Gt) NQ:=⟨od_gt⟩
theorem ho_ge:H9 X (j8 .GtE) O4:=⟨od_ge⟩
theorem ho_is:H9 X (j8 .Is) NA:=⟨od_is⟩
theorem ho_eq(i:Room k X.A):H9 X (j8 .Eq) D3:=⟨od_eq i⟩
theorem ho_ne(i:Room k X.A):H9 X (j8 .NotEq) P6:=⟨od_ne i⟩
theorem ho_in(i:Room k X.A):H9 X (j8 .In) Ox:=⟨od_in i⟩
theorem Dd(i:Room k X.A):H9 X (j8 .NotIn) vU:=⟨Cs i⟩
theorem Ki:HC X (.builtin "len") jV:=⟨Lf⟩
theorem Kk(f:X.calm=a9:=by kernel_rfl):HC X (.builtin "all") Hu:=⟨Lh f⟩
theorem Kj:HC X (.builtin "isinstance") tF:=⟨Lg⟩
theorem Ap:RU X "append" bQ:=⟨_,PySem.F.slot_list_append,PySem.F.type_list_append,xn⟩
end
theorem z9.byH{P:c7}{w:c6}{K:v9}{mg:c5->Option b7}{base:d5}{x:c5}{st:i5}{N ps:List c5}{k:Nat}{c:B5}(F:cy K mg x st ps)(e:FnScope N ps (av st))(B:∀ds M R,c ds M R->ds.length=ps.length) {t:v7}(r:∀(f:c8) (cdv:b7) (A:e7) (outer:List Env) (s:e8) (H:Hp) (E:XK),Room k (A.deeper<|b9 x (av st) s.heap.objs.size f cdv)->HB (pL K9 P w K mg base N x (av st) f cdv A outer s H E).nox (bB st) t)(p:∀ds M R,c ds M R->t ⟨λ_ M'=>aV M R .non M',aV M R,λ_ _=>False,λ_ _=>False⟩ (cc N ds) M):z9 P w K mg base (k+1) x ps c:=z9.of F e B (λf cdv A outer s H E i=>(r f cdv A outer s H E i).ok) p
theorem Dm{P:c7}{w:c6}{K:v9}{mg:c5->Option b7}{base:d5}{x:c5}{st:i5}{N ps:List c5}{k:Nat}{c:B5}{f:c8}{d:k9}(F:MH K x x st f d)(e:FnScope N ps (av st))(B:∀ds M R,c ds M R->ds.length=ps.length) {t:v7}(r:∀(f:c8) (cdv:b7) (A:e7) (outer:List Env) (s:e8) (H:Hp) (E:XK),Room k (A.deeper<|b9 x (av st) s.heap.objs.size f cdv)->HB (pL K9 P w K mg base N x (av st) f cdv A outer s H E).nox (bB st) t)(p:∀ds M R,c ds M R->t ⟨λ_ M'=>aV M R .non M',aV M R,λ_ _=>False,λ_ _=>False⟩ (cc N ds) M):FnOk P w K mg base K9 (k+1) f d ps (Mr K c):=GF F e B (λf cdv A outer s H E i=>(r f cdv A outer s H E i).ok) p
section
variable{ok:v8->Prop}{g:Ly}{tb:v7}{E:DEnds}{k0:v8}
theorem fV(I:List D->SD->v8->Prop)(h0:∀S M,I [] S M->ok M/\E.nx S M)(h1:∀x xs S M,I (x::xs) S M->∀L:SD->v8->Prop,(∀S' M',I xs S' M'->L S' M')->ok M/\g x S M λS2 M2=>tb ⟨C6 k0 L,E.rt,E.nx,C6 k0 L⟩ S2 M2):∀xs S M,I xs S M->sQ ok g tb E k0 xs S M
 | [],S,M,h=>h0 S M h
 |x::xs,S,M,h=>h1 x xs S M h _<|fV I h0 h1 xs
theorem aT(I:Nat->SD->v8->Prop)(a:∀S M,I xs.length S M->ok M/\E.nx S M)(h1:∀i x S M,xs[i]?=a7 x->I i S M->∀L:SD->v8->Prop,(∀S' M',I (i+1) S' M'->L S' M')->ok M/\g x S M λS2 M2=>tb ⟨C6 k0 L,E.rt,E.nx,C6 k0 L⟩ S2 M2)(h:I 0 S M):sQ ok g tb E k0 xs S M:=by
 refine fV (λys S M=>∃i,xs.drop i=ys/\i+ys.length=xs.length/\I i S M) ?_ ?_ xs S M ⟨0,rfl,by simp,h⟩;rintro S M ⟨i,_,e,q⟩;have:i=xs.length:=by simpa using e
 subst this;exact a S M q;rintro x ys S M ⟨i,e,l,q⟩ L b;have c:xs[i]?=a7 x:=by
  have:(xs.drop i)[0]?=a7 x:=by rw[e];rfl
  simpa using this
 refine h1 i x S M c q L λS' M' j=>b S' M' ⟨i+1,?_,by simp at l;lia,j⟩;rw[<-List.drop_drop,e];rfl
theorem C6.now(h:P S M):C6 k0 P S M:=.inl h
theorem bP{lo:Int}{n i:Nat}{x:D}:(ie lo n)[i]?=a7 x↔i<n/\x=.int (lo+(i:Int)):=by unfold ie;rw[E1];by_cases h:i<n;simp[h,eq_comm];simp[h]
theorem bi{lo:Int}{n:Nat}:(ie lo n).length=n:=by simp[ie]
end
theorem ck(p:D->Bool)(f:D->D)(I:SD->Prop)(hok:ok M):∀(xs acc:List D) (S:SD),(∀x∈xs,∀S,I S->∃S',I S'/\∀(Y:D->SD->v8->Prop) (Z:SD->v8->Prop),(if p x=a9 then Y (f x) S' M else Z S' M) -> g x S M λS2 M2=>tt S2 M2 λb M3=>if b=a9 then te S2 M3 λy M4=>Y y S2 M4 else Z S2 M3) ->I S->acc.length+xs.length<=sizeLine->Q (.ref M.length) (M++[.lst<|acc++(xs.filter p).map f])->mz ok g tt te Q xs acc S M
 | [],acc,S,_,_,_,q=>⟨hok,by simpa using q⟩
 |x::xs,acc,S,step,hS,hl,q=>by obtain⟨S',hS',k⟩:=step x F5 S hS;refine⟨hok,k (λy S2 M4=>acc.length<sizeLine/\mz ok g tt te Q xs (acc++[y]) S2 M4) (λS2 M3=>mz ok g tt te Q xs acc S2 M3) ?_⟩;have step':=λy hy=>step y<|D4 _ hy;rw[E9]at hl;by_cases hp:p x=a9;rw[t6 hp];refine⟨by lia,ck p f I hok xs _ S' step' hS' (by rw[E3,LD];lia) ?_⟩;rw[List.filter_cons_of_pos hp,D7]at q;rw[Mn];exact q;rw[t7 hp];refine ck p f I hok xs acc S' step' hS' (by lia) ?_;rw[List.filter_cons_of_neg hp]at q;exact q
theorem bU(f:D->D)(I:SD->Prop)(c:ok M)(xs acc:List D) (S:SD) (K:∀x∈xs,∀S,I S->∃S',I S'/\∀(Y:D->SD->v8->Prop),Y (f x) S' M->g x S M λS2 M2=>te S2 M2 λy M4=>Y y S2 M4)(a:I S) (l:acc.length+xs.length<=sizeLine) (q:Q (.ref M.length) (M++[.lst<|acc++xs.map f])):mz ok g pV te Q xs acc S M:=by refine ck (λ_=>a9) f I c xs acc S (λx d S a=>?_) a l (by rw[Rs.mpr λ_ _=>rfl];exact q);obtain⟨S',b,k⟩:=K x d S a;refine⟨S',b,λY Z h=>?_⟩;rw[t6 rfl]at h;have:=k Y h;simp only[pV,u5];exact this
theorem ao:(M++[mo])[M.length]?=a7 mo:=by simp
theorem am:ak (M++[.lst xs]) M.length xs:=.inl ao
theorem ak.more(h:ak M n xs)(L:v8):ak (M++L) n xs:=by
 have l:∀{mo:MO},M[n]?=a7 mo->(M++L)[n]?=a7 mo:=λe=>by rw[LF (B6.mp e).1];exact e
 rcases h with h|h|h;exact .inl<|l h;exact .inr<|.inl<|l h;exact .inr<|.inr<|l h
theorem ak.ty(h:ak M n xs):Fn M (.ref n) = "list":=by
 show (match M[n]? with|some mo=>if mo.isL=a9 then "list" else "?" |none=>"?") = "list"
 rcases h with h|h|h<;>(rw[h];rfl)
theorem aV.keep(h:R d M)(b:E7 M.length d)(p:M <+: M'):aV M R d M':=.inr<|.inl ⟨M,.refl,b,p,h⟩
theorem aV.now(h:R d M):aV M R d M:=.inl h
theorem aV.bl(h:R (.bl b) M)(p:M <+: M'):aV M R (.bl b) M':=.keep h (.bl b) p
theorem aV.str(h:R (.str b) M)(p:M <+: M'):aV M R (.str b) M':=.keep h (.str b) p
theorem bD:M <+: M++[mo]:=LM _ _
theorem tV{a b:c5}(h:a.cps.toList=b.cps.toList):a=b:=by cases a;cases b;simp only[Array.toList_inj]at h;simpa using h
theorem eG{a:c5}:a.length=a.cps.toList.length:=by show a.cps.size=_;simp
theorem pQ{a b:c5}:(a++b).cps.toList=a.cps.toList++b.cps.toList:=by show (a.cps++b.cps).toList=_;simp
theorem da{a b:c5}:(a++b).length=a.length+b.length:=by rw[eG,eG,eG,pQ,E3]
theorem gW:(⟨#[c]⟩:c5).length=1:=rfl
theorem ah(h:n<=1000):n<=sizeLine:=Pl<|aw h
theorem Bm{α:Type}{xs:List α}{i:Int}(a:0<=i)(h1:i<xs.length):∃(j:Nat) (hj:j<xs.length),atI xs i=a7 xs[j]/\(j:Int)=i:=by
 have hj:i.toNat<xs.length:=by lia
 refine⟨i.toNat,hj,?_,by lia⟩;have e:i=((i.toNat:Nat):Int):=by lia
 have q:atI xs ((i.toNat:Nat):Int)=a7 xs[i.toNat]:=ar<|A4 hj;rw[<-e]at q;exact q
section
variable{M:v8}
theorem qi(h:Fn M (.ref n)∈tE):Fn M (.ref n) = "list":=by
 unfold Fn at h ⊢
 try dsimp only at h ⊢
 cases e:M[n]? with
 |some m =>
  rw[e]at h;cases q:m.isL with
  |true=>exact t6 q
  |false=>simp only[q,C4,u4]at h;exact t8 h<|by decide
 |none=>rw[e]at h;exact t8 h<|by decide
end
section
variable{M:v8}
theorem ak.get(h:ak M n xs):∃mo,M[n]?=a7 mo/\mo.items=xs/\mo.isL=a9:=by rcases h with h|h|h<;>exact⟨_,h,rfl,rfl⟩
theorem wt(h1:ak M i xs)(h2:ak M j ys):w4 M (n+1) (.ref i) (.ref j)=F0 (w4 M n) xs ys:=by obtain⟨a,f,rfl,h⟩:=h1.get;obtain⟨b,d,rfl,c⟩:=h2.get;simp only[w4,f,d]
theorem oY(h1:ak M i xs)(h:∀x∈xs,z5 M n x=a9):z5 M (n+1) (.ref i)=a9:=by obtain⟨a,f,rfl,b⟩:=h1.get;simp only[z5,f,b,Bool.true_and];exact F4.mpr h
theorem FE(h:∀x∈xs,z5 M n x=a9):z5 M (n+1) (.tup xs)=a9:=by simp only[z5];exact F4.mpr h
theorem aq:z5 M n (.str x)=a9:=by cases n<;>rfl
theorem aF:z5 M n (.int x)=a9:=by cases n<;>rfl
theorem Ek:z5 M n (.bl x)=a9:=by cases n<;>rfl
theorem zC:z5 M n .non=a9:=by cases n<;>rfl
theorem GG:F0 f xs []=xs.isEmpty:=by cases xs<;>rfl
theorem gZ:w4 M n (.int a) (.int b)=(a==b):=by cases n<;>rfl
theorem aO:w4 M n (.str a) (.str b)=(a==b):=by cases n<;>rfl
end
section
variable{X:Cx}{pos:i0}
def dN:EH:=λds S M Q=>match ds with
 | []=>Q S M
 |_=>False
def aA(t:Ly)(u:EH):EH:=λds S M Q=>match ds with
 |d::r=>t d S M λa M'=>u r a M' Q
 | []=>False
def dL(n:Nat)(t:EH):Ly:=λd S M Q=>match d with
 |.tup ds=>ds.length=n/\t ds S M Q
 |_=>False
theorem GU:Pi X [] dN:=by
 rintro p s σ H vs us R I r ⟨ds,S,M,ρ,Q,m,c,d,q,k⟩;cases d with
 |nil=>exact Fo p s σ H _ us R I r ⟨rfl,k σ H ⟨S,M,ρ,m,.refl,c,q⟩⟩
 |cons _ _=>exact q.elim
theorem DC(h1:DG X e t)(h2:Pi X es u)(hs:(i9 (e::es) X.env).map (·.2)=i8 e X.env::(i9 es X.env).map (·.2):=by rfl):Pi X (e::es) (aA t u):=by
 rintro p s σ H vs us R I r ⟨ds,S,M,ρ,Q,m,j,d,q,k⟩;cases d with
 |nil=>exact q.elim
 |cons h d=>refine Ch h1 h2 hs p s σ H _ us R I r ⟨_,_,rfl,_,S,M,ρ,_,m,j,h,q,?_⟩;rintro l H1 ⟨S1,f,c,i,g1,a,g⟩;exact⟨_,S1,f,c,Q,i,a,d.grow g1,g,λb H' w=>k b H'<|SQ.trans g1 w⟩
theorem KN(h:Pi X es t)(f:X.calm=a9:=by rfl)(b:(i9 es X.env).length=n:=by rfl) (c:(i9 es X.env).findIdx? (·.1)=a8:=by rfl):DG X (.Tuple es j pos) (dL n t):=by
 rintro p s σ H v u R I r ⟨d,S,M,ρ,Q,m,i,g,q,k⟩;cases g with
 |tup e a=>exact IF f h b c p s σ H _ u R I r ⟨_,_,rfl,e,by rw[<-a.length];exact q.1,_,S,M,ρ,Q,m,i,a,q.2,k⟩
 |_=>exact q.elim
def Ld(te:A0)(g:Ly):v7:=λE S M=>te S M λd a=>g d S a E.nx
theorem KJ(i:DE X e te)(R:DG X tg g)(hs:swapsWithSole [tg] e pos.line X.env=pure bt:=by rfl)(h:swappedStores [tg] e X.env=pure a8:=by rfl)(h1:(i9 [tg] X.env).map (·.2)=[i8 tg X.env]:=by rfl):DS X (.Assign [tg] e pos) (Ld te g):=by refine PS.imp (IE i R hs h h1) ?_;rintro E σ H ⟨S,M,ρ,F,s,r,q,k⟩;refine⟨S,M,ρ,_,s,r,q,?_⟩;rintro v H1 ⟨d,b,c,l,g1,j,f⟩;exact⟨d,S,b,c,_,l,r.grow g1,j,f,λa H' w=>k.nx a H'<|SQ.trans g1 w⟩
def qSet:D->D->D->v8->(v8->Prop)->Prop:=λo i v M Q=>match o,i with
 |.ref n,.int k=>∃xs j,M[n]?=a7 (.lst xs)/\MV xs.length k=a7 j/\Q (M.set n<|.lst<|xs.set j v)
 |_,_=>False
theorem Reps.set{K:v9}{ρ:List c8}{H:Hp}{d:D}{v:V}(r:w5 K ρ H d v):∀{ds:List D}{vs:List V} (i:Nat),Reps K ρ H ds vs->Reps K ρ H (ds.set i d) (vs.set i v)
 |_,_,_,.nil=>.nil
 |_,_,0,.cons _ t=>.cons r t
 |_,_,i+1,.cons q t=>.cons q<|Reps.set r i t
def AL(d c:A0):Ly:=λv S M Q=>d S M λo a=>c S a λi M2=>qSet o i v M2 λb=>Q S b
theorem KO(D:DE X o to)(hi:DE X i ti)(C:∀v,i8 (.Subscript o i pos) X.env v=(do
   let ov <-i6 [v] (eval o X.env)
   let iv <-i6 [v,ov] (eval i X.env)
   standAt pos
   i6 [v,ov,iv] (setItem ov iv v)
   release [v,ov,iv] []):=by intro _;rfl):DG X (.Subscript o i pos) (AL to ti):=by
 rintro p s σ H v u R I r ⟨d,S,M,ρ,Q,O,f,K,q,k⟩;refine IG D hi BW C p s σ H v u R I r ⟨S,M,ρ,_,O,f,q,?_⟩;rintro V H1 ⟨o',B,h,N,g1,G,E⟩;refine⟨S,B,h,_,N,f.grow g1,E,?_⟩;rintro U T ⟨i',M2,l,z,b,J,g⟩;have c:=G.grow b;cases c with
 |@ref n a t =>
  cases J with
  |int j =>
   obtain⟨xs,x,e,L,F⟩:=(show ∃xs w,M2[n]?=a7 (.lst xs)/\MV xs.length j=a7 w/\Q S (M2.set n<|.lst<|xs.set w d)from g)
   obtain⟨vs,m,y⟩:=z.obj n a _ t e;obtain⟨P,A⟩:=z.write t e m<|Reps.set (K.grow<|g1.trans b) x y;exact⟨a,vs,j,x,rfl,rfl,m,by rw[<-y.length];exact L,k σ _ ⟨S,_,l,P,(g1.trans b).trans A,f.grow<|(g1.trans b).trans A,F⟩⟩
  |_=>exact g.elim
 |_=>exact g.elim
def xa:F7:=λds M Q=>match ds with
 | [.ref n]=>∃xs,ak M n xs/\Q (.ref M.length) (M++[.lst xs])
 | [.tup xs]=>Q (.ref M.length)<|M++[.lst xs]
 |_=>False
theorem Hh:jt X (.type "list") xa:=by
 refine dU.imp sV ?_;rintro vs H R ⟨ds,M,ρ,Q,m,a,q,k⟩;unfold xa at q;split at q;obtain⟨xs,L,q⟩:=q
 first|have z:=Reps.inv_cons a|have z:=az.inv_cons a
 clear a;obtain⟨_,_,rfl,b,a⟩:=z;cases a;obtain⟨_,rfl,e⟩:=w5.inv_ref b;obtain⟨s,h,r⟩:=ak.seq m L e;exact⟨_,s,rfl,.inl h,λl g=>k _ _<|VQ.laidL m .refl r g q⟩
 first|have z:=Reps.inv_cons a|have z:=az.inv_cons a
 clear a;obtain⟨_,_,rfl,b,a⟩:=z;cases a;cases b with
 |tup h r=>exact⟨_,_,rfl,.inr h,λl g=>k _ _<|VQ.laidL m .refl r g q⟩
 exact q.elim
def eV:F7:=λds M Q=>match ds with
 | [.ref n]=>∃xs,ak M n xs/\Q (.tup xs) M
 | [.tup xs]=>Q (.tup xs) M
 |_=>False
theorem DR:jt X (.type "tuple") eV:=by
 refine dU.imp pN ?_;rintro vs H R ⟨ds,M,ρ,Q,m,a,q,k⟩;unfold eV at q;split at q;obtain⟨xs,L,q⟩:=q
 first|have z:=Reps.inv_cons a|have z:=az.inv_cons a
 clear a;obtain⟨_,_,rfl,b,a⟩:=z;cases a;obtain⟨_,rfl,e⟩:=w5.inv_ref b;obtain⟨s,h,r⟩:=ak.seq m L e;exact⟨_,s,rfl,.inl ⟨h,λl g=>k _ _<|VQ.laidT m .refl r g q⟩⟩
 first|have z:=Reps.inv_cons a|have z:=az.inv_cons a
 clear a;obtain⟨_,_,rfl,b,a⟩:=z;cases a;cases b with
 |tup h r=>exact⟨_,_,rfl,.inr ⟨h,k _ H<|VQ.now m (.tup h r) q⟩⟩
 exact q.elim
theorem Cm:E8 X (j7 .Add) (λx y H Q=>∃a b ys,x=.ref a/\y=.ref b/\C5 X.K H a []/\C5 X.K H b ys/\Q (.ref b) H):=by intro r s σ H x y v u Q I G J h;obtain⟨a,b,ys,rfl,rfl,z,A,q⟩:=h;cases G;cases J;obtain⟨its,F,D,_⟩:=I.tuple z;obtain⟨p,M,E,_⟩:=I.tuple A;have e:its=[]:=F.nil_iff.mpr rfl;subst e;obtain⟨⟨t,w,l,L⟩,B,m,n,o⟩:=id D;obtain⟨⟨k,g,i,j⟩,f,c,C,d⟩:=id E;simp only at m o c d;subst m o c d;exact concat_meets ⟨_,B,rfl⟩ ⟨_,f,rfl⟩ noFill_tuple_add seq_tuple_add RA RE (RG _ _) (tuple_addW0 a b _ _ n C w g L j<|by simp) ⟨B,f,⟨.ref b,H,I,rfl,q⟩⟩
def aK:G3:=λx y M Q=>match x,y with
 |.tup xs,.tup ys=>xs.length+ys.length<=sizeLine/\Q (.tup<|xs++ys) M
 |_,_=>qAdd x y M Q
theorem FI:G9 X (j7 .Add) aK:=by
 rintro c s σ H f h v u R I g i ⟨x,y,M,ρ,Q,m,r,e,q,k⟩;unfold aK at q;split at q;rename_i xs ys;obtain⟨a,vs,rfl,h1,D⟩:=w5.inv_tup r;obtain⟨b,w,rfl,h2,E⟩:=w5.inv_tup e;have l:=D.length;have d:=E.length;cases xs with
 |nil=>cases D;exact Cm c s σ H _ _ v u R I g i ⟨a,b,w,rfl,rfl,h1,h2,k _ H<|VQ.now m (.tup h2 E) q.2⟩
 |cons n j =>
  refine FA c s σ H _ _ v u R I g i ⟨a,b,vs,w,rfl,rfl,h1,h2,?_,by rw[<-l,<-d];exact q.1,λz=>?_,λ_ p hp=>k _ _<|VQ.laidT m .refl (D.append E) hp q.2⟩;intro z;subst z;simp at l;subst z;have:ys=[]:=by simpa using d
  subst this;rw[LS]at q;exact k _ H<|VQ.now m (.tup h1 D) q.2
 exact Jk c s σ H f h v u R I g i ⟨x,y,M,ρ,Q,m,r,e,q,k⟩
end
end L2
namespace Srt
open PySem PySem.W PyProof.Rows
noncomputable def run{α:Type}(c:Nat->Nat->Bool):KasT α->α
 |.ret a=>a
 |.ask i j k=>run c<|k<|c i j
theorem fP{α β:Type}{c:Nat->Nat->Bool}{f:α->KasT β}:∀t:KasT α,run c (t.bind f)=run c (f<|run c t)
 |.ret a=>rfl
 |.ask i j k=>fP<|k<|c i j
def Bd{α:Type}(n:Nat):KasT α->Prop
 |.ret _=>True
 |.ask i j k=>i<n/\j<n/\∀b,Bd n<|k b
def All{α:Type}(P:α->Prop):KasT α->Prop
 |.ret a=>P a
 |.ask _ _ k=>∀b,All P<|k b
theorem All.mono{α:Type}{P Q:α->Prop}(h:∀a,P a->Q a):∀t:KasT α,All P t->All Q t
 |.ret a,q=>h a q
 |.ask _ _ k,q=>λb=>All.mono h (k b)<|q b
theorem All.bind{α β:Type}{P:β->Prop}{f:α->KasT β}:∀t:KasT α,All (λa=>All P<|f a) t->All P (t.bind f)
 |.ret a,q=>q
 |.ask _ _ k,q=>λb=>All.bind (k b)<|q b
theorem Bd.bindA{α β:Type}{n:Nat}{f:α->KasT β}:∀t:KasT α,Bd n t->All (λa=>Bd n<|f a) t->Bd n (t.bind f)
 |.ret a,_,q=>q
 |.ask _ _ k,b,q=>⟨b.1,b.2.1,λx=>Bd.bindA (k x) (b.2.2 x)<|q x⟩
theorem All.run{α:Type}{P:α->Prop}{c:Nat->Nat->Bool}:∀t:KasT α,All P t->P (Srt.run c t)
 |.ret a,q=>q
 |.ask i j k,q=>All.run (k<|c i j)<|q _
theorem wp_run{α:Type}{cmp:Nat->Nat->(Bool->e8->Prop)->e8->Prop}{c:Nat->Nat->Bool}{n:Nat}{s:e8}{Q:α->e8->Prop}(hc:∀i j (C:Bool->e8->Prop),i<n->j<n->C (c i j) s->cmp i j C s):∀t:KasT α,Bd n t->Q (run c t) s->t.kasWp cmp Q s
 |.ret a,_,q=>q
 |.ask i j k,b,q=>hc i j _ b.1 b.2.1<|wp_run hc (k<|c i j) (b.2.2 _) q
structure LR(c:Nat->Nat->Bool):Prop where
 irr:∀a,c a a=bt
 tr:∀a b d,c a b=a9->c b d=a9->c a d=a9
 neg:∀a b d,c a d=a9->c a b=a9\/c b d=a9
section
variable{c:Nat->Nat->Bool}(O:LR c)
def le(c:Nat->Nat->Bool)(a b:Nat):Prop:=c b a=bt
theorem le_refl(O:LR c)(a:Nat):le c a a:=O.irr a
theorem le_trans(O:LR c)(h1:le c a b)(h2:le c b d):le c a d:=by
 unfold le at *;cases q:c d a with
 |false=>rfl
 |true=>rcases O.neg d b a q with h|h;rw[h2]at h;cases h;rw[h1]at h;cases h
theorem le_of_lt(O:LR c)(h:c a b=a9):le c a b:=by
 unfold le;cases q:c b a with
 |false=>rfl
 |true=>have:=O.tr a b a h q;rw[O.irr]at this;cases this
noncomputable abbrev at_(p:Array Nat)(k:Nat):Nat:=p.getD k 0
def Up(c:Nat->Nat->Bool)(p:Array Nat)(m:Nat):Prop:=∀i j,i<=j->j<m->le c (at_ p i) (at_ p j)
def Dn(c:Nat->Nat->Bool)(p:Array Nat)(m:Nat):Prop:=∀i j,i<=j->j<m->le c (at_ p j) (at_ p i)
def OB(c:Nat->Nat->Bool)(p:Array Nat)(a b:Nat):Prop:=∀i j,a<=i->i<b->a<=j->j<b->le c (at_ p i) (at_ p j)
theorem Up.one(O:LR c)(p:Array Nat):Up c p 1:=λi j a L=>by
 have:i=j:=by lia
 subst this;exact le_refl O _
theorem Up.snoc(O:LR c)(h:Up c p n)(h1:1<=n)(g:le c (at_ p<|n-1) (at_ p n)):Up c p (n+1):=λi j a L=>by
 by_cases b:j<n;exact h i j a b;have:j=n:=by lia
 subst this;by_cases hi:i=j;subst hi;exact le_refl O _;exact le_trans O (h i (j-1) (by lia)<|by lia) g
theorem Dn.snoc(O:LR c)(h:Dn c p n)(h1:1<=n)(g:le c (at_ p n) (at_ p<|n-1)):Dn c p (n+1):=λi j a L=>by
 by_cases b:j<n;exact h i j a b;have:j=n:=by lia
 subst this;by_cases hi:i=j;subst hi;exact le_refl O _;exact le_trans O g<|h i (j-1) (by lia)<|by lia
theorem gO(hj:j<=p.size)(k:Nat):at_ (L5 p i j) k=if i<=k/\k<j then at_ p (i+j-1-k)else at_ p k:=by have e:=getElem?_mirror_all (xs:=p) (i:=i) hj k;unfold at_ L5;rw[Ob,e];by_cases h:i<=k/\k<j;rw[t6 h,t6 h,Ob];rw[t7 h,t7 h,Ob]
theorem tz(b:k<p.size)(a:d<=k)(i:Nat):at_ (bubble p k d) i=if i=k-d then at_ p k else if k-d<i/\i<=k then at_ p (i-1)else at_ p i:=by have e:=getElem?_bubble (xs:=p) b d a i;unfold at_;rw[Ob,e];by_cases h:i=k-d;rw[t6 h,t6 h,Ob];rw[t7 h,t7 h];by_cases h':k-d<i/\i<=k;rw[t6 h',t6 h',Ob];rw[t7 h',t7 h',Ob]
theorem Dn.rev(h:Dn c p n)(f:n<=p.size):Up c (L5 p 0 n) n:=λi j a L=>by rw[gO f,gO f,t6 ⟨D6 _,by lia⟩,t6 ⟨D6 _,L⟩];exact h _ _ (by lia)<|by lia
theorem Dn.revEq(O:LR c)(h:Dn c p n)(f:n<=p.size)(e:OB c p a n):Dn c (L5 p a n) n:=λi j b L=>by rw[gO f,gO f];by_cases h1:a<=i/\i<n;by_cases h2:a<=j/\j<n;rw[t6 h1,t6 h2];exact e _ _ (by lia) (by lia) (by lia) (by lia);exact t8 ⟨by lia,L⟩ h2;by_cases h2:a<=j/\j<n;rw[t7 h1,t6 h2];exact h _ _ (by lia) (by lia);rw[t7 h1,t7 h2];exact h _ _ b L
theorem uV(O:LR c):∀(f n:Nat),1<=n->Up c p n->Up c p (run c<|Mv p f n)/\n<=run c (Mv p f n)/\run c (Mv p f n)<=n+f /\(run c (Mv p f n)<n+f->c (at_ p<|run c<|Mv p f n) (at_ p<|run c (Mv p f n)-1)=a9)
 | 0,n,_,h=>⟨h,x9 _,x9 _,λz=>t8 z<|J4 _⟩
 |f+1,n,h1,h=>by
  show Up c p (run c<|if c (at_ p n) (at_ p<|n-1)=a9 then .ret n else Mv p f (n+1))/\n<=run c (if c (at_ p n) (at_ p<|n-1)=a9 then .ret n else Mv p f (n+1)) /\ run c (if c (at_ p n) (at_ p<|n-1)=a9 then .ret n else Mv p f (n+1))<=n+(f+1)/\(run c (if c (at_ p n) (at_ p<|n-1)=a9 then .ret n else Mv p f (n+1))<n+(f+1) -> c (at_ p<|run c<|if c (at_ p n) (at_ p<|n-1)=a9 then .ret n else Mv p f (n+1)) (at_ p<|run c (if c (at_ p n) (at_ p<|n-1)=a9 then .ret n else Mv p f (n+1))-1)=a9)
  by_cases q:c (at_ p n) (at_ p<|n-1)=a9;rw[t6 q];exact⟨h,x9 _,Px _ _,λ_=>q⟩;rw[t7 q];obtain⟨a1,a2,a3,a4⟩:=uV O f (n+1) (by lia) (h.snoc O h1<|by unfold le;simpa using q);exact⟨a1,by lia,by lia,λz=>a4<|by lia⟩
theorem er:(L5 p i j).size=p.size:=mirror_size _ _ _ _
def Br(c:Nat->Nat->Bool)(z n m:Nat)(r:Array Nat×Nat×Nat):Prop:=r.1.size=z/\Dn c r.1 r.2.1/\n<=r.2.1/\r.2.1<=m/\r.2.2+1<=r.2.1/\OB c r.1 (r.2.1-(r.2.2+1)) r.2.1
def pT(c:Nat->Nat->Bool)(z nrem:Nat)(r:Nat×Array Nat):Prop:=r.2.size=z/\Up c r.2 r.1/\1<=r.1/\r.1<=nrem
def uX(c:Nat->Nat->Bool)(p:Array Nat)(k m:Nat):Prop:=m<=k/\(∀i,i<m->le c (at_ p i) (at_ p k))/\∀i,m<=i->i<k->c (at_ p k) (at_ p i)=a9
theorem kw(O:LR c):∀(f:Nat) (p:Array Nat) (n q:Nat),q+1<=n->n+f<=p.size->Dn c p n->OB c p (n-(q+1)) n ->Br c p.size n (n+f) (run c<|Lr f p n q)
 | 0,p,n,q,h1,h2,hd,he=>⟨rfl,hd,x9 _,x9 _,h1,he⟩
 |f+1,p,n,q,h1,h2,hd,he=>by
  have hn:n<=p.size:=by lia
  show Br c p.size n (n+(f+1)) (run c<|if c (at_ p n) (at_ p<|n-1)=a9 then(if q > 0 then Lr f (L5 p (n-(q+1)) n) (n+1) 0 else Lr f p (n+1) 0) else .ask (at_ p<|n-1) (at_ p n) λd=>if d=a9 then .ret (p,n,q)else Lr f p (n+1) (q+1));by_cases hc:c (at_ p n) (at_ p<|n-1)=a9;rw[t6 hc];by_cases hq:q > 0;rw[t6 hq];have hd':Dn c (L5 p (n-(q+1)) n) (n+1):=by refine(hd.revEq O hn he).snoc O (by lia) ?_;rw[gO hn,gO hn,t7 (by lia),t6 ⟨by lia,by lia⟩];exact le_trans O (le_of_lt O hc)<|he _ _ (by lia) (by lia) (by lia)<|by lia
  have r:=kw O f (L5 p (n-(q+1)) n) (n+1) 0 (by lia) (by rw[er];lia) hd' (λi j a1 a2 a3 a4=>by
   have:i=n:=by lia
   have:j=n:=by lia
   subst_vars
   exact le_refl O _)
  obtain⟨a1,a2,a3,a4,a5,a6⟩:=r;exact⟨a1.trans er,a2,by lia,by lia,a5,a6⟩;rw[t7 hq];have r:=kw O f p (n+1) 0 (by lia) (by lia) (hd.snoc O (by lia)<|le_of_lt O hc) (λi j a1 a2 a3 a4=>by
   have:i=n:=by lia
   have:j=n:=by lia
   subst_vars
   exact le_refl O _)
  obtain⟨a1,a2,a3,a4,a5,a6⟩:=r;exact⟨a1,a2,by lia,by lia,a5,a6⟩;rw[t7 hc];show Br c p.size n (n+(f+1)) (run c<|if c (at_ p<|n-1) (at_ p n)=a9 then .ret (p,n,q)else Lr f p (n+1) (q+1));by_cases hc':c (at_ p<|n-1) (at_ p n)=a9;rw[t6 hc'];exact⟨rfl,hd,x9 _,by show n<=_;lia,h1,he⟩;rw[t7 hc'];have l1:le c (at_ p n) (at_ p<|n-1):=by unfold le;simpa using hc'
  have l2:le c (at_ p<|n-1) (at_ p n):=by unfold le;simpa using hc
  have r:=kw O f p (n+1) (q+1) (by lia) (by lia) (hd.snoc O (by lia) l1) (λi j a1 a2 a3 a4=>by by_cases hi:i=n;by_cases hj:j=n;subst hi hj;exact le_refl O _;subst hi;exact le_trans O l1 (he _ _ (by lia) (by lia) (by lia)<|by lia);by_cases hj:j=n;subst hj;exact le_trans O (he _ _ (by lia) (by lia) (by lia)<|by lia) l2;exact he _ _ (by lia) (by lia) (by lia)<|by lia);obtain⟨a1,a2,a3,a4,a5,a6⟩:=r;exact⟨a1,a2,by lia,by lia,a5,a6⟩
theorem qk(O:LR c)(h1:1<=n)(f:n<=nrem)(hz:nrem<=p.size)(d:Dn c p n):pT c p.size nrem (run c<|kas_tail3 n nrem p):=by unfold kas_tail3;rw[fP];obtain⟨C,a,b,_⟩:=uV O (nrem-n) n h1 (d.rev<|by lia);exact⟨er,C,K3 h1 a,K3 b<|by lia⟩
theorem jO(O:LR c)(h1:1<=n)(x:n+1<=nrem)(hz:nrem<=p.size)(m:OB c p 0 n)(k:c (at_ p n) (at_ p<|n-1)=a9):pT c p.size nrem (run c<|OH n nrem p):=by
 have l:Dn c p (n+1):=by refine Dn.snoc O (λi j o L=>m _ _ (by lia) (by lia) (by lia)<|by lia) h1<|le_of_lt O k
 unfold OH;rw[fP];obtain⟨a,g,u,v,w,h⟩:=kw O (nrem-(n+1)) p (n+1) 0 (by lia) (by lia) l (λi j C r s t=>by
  have:i=n:=by lia
  have:j=n:=by lia
  subst_vars
  exact le_refl O _)
 by_cases q:(run c<|Lr (nrem-(n+1)) p (n+1) 0).2.2 > 0;rw[t6 q];obtain⟨d,b,e,f⟩:=qk O (p:=L5 (run c<|Lr (nrem-(n+1)) p (n+1) 0).1 ((run c<|Lr (nrem-(n+1)) p (n+1) 0).2.1-((run c<|Lr (nrem-(n+1)) p (n+1) 0).2.2+1)) (run c<|Lr (nrem-(n+1)) p (n+1) 0).2.1) (n:=(run c<|Lr (nrem-(n+1)) p (n+1) 0).2.1) (nrem:=nrem) (by lia) (by lia) (by rw[er,a];exact hz)<|g.revEq O (by rw[a];lia) h;exact⟨d.trans<|er.trans a,b,e,f⟩;rw[t7 q];obtain⟨d,b,e,f⟩:=qk O (p:=(run c<|Lr (nrem-(n+1)) p (n+1) 0).1) (n:=(run c<|Lr (nrem-(n+1)) p (n+1) 0).2.1) (nrem:=nrem) (by lia) (by lia) (by rw[a];exact hz) g;exact⟨d.trans a,b,e,f⟩
theorem AV(O:LR c)(h1:1<=nrem)(hz:nrem<=p.size):pT c p.size nrem (run c<|kas_count nrem p):=by
 unfold kas_count;rw[fP];obtain⟨C,a,o,l⟩:=uV O (nrem-1) 1 (x9 _)<|Up.one O p;generalize run c (Mv p (nrem-1) 1)=n at C a o l;by_cases k:(n==nrem)=a9;rw[t6 k];exact⟨rfl,C,a,by show n<=nrem;lia⟩;rw[t7 k];have x:n≠nrem:=by simpa using k
 have t:c (at_ p n) (at_ p<|n-1)=a9:=l (by lia);by_cases h2:n > 1;rw[t6 h2];show pT c p.size nrem (run c<|if c (at_ p 0) (at_ p<|n-1)=a9 then .ret (n,p)else OH n nrem (L5 p 0 n));by_cases f:c (at_ p 0) (at_ p<|n-1)=a9;rw[t6 f];exact⟨rfl,C,a,by show n<=nrem;lia⟩;rw[t7 f];have g:n<=p.size:=by lia
 have y:le c (at_ p<|n-1) (at_ p 0):=by unfold le;simpa using f
 have m:OB c p 0 n:=λi j b d u v=>le_trans O (C i (n-1) (by lia)<|by lia)<|le_trans O y<|C 0 j (by lia) v;have e:OB c (L5 p 0 n) 0 n:=λi j b d u v=>by rw[gO g,gO g,t6 ⟨b,d⟩,t6 ⟨u,v⟩];exact m _ _ (by lia) (by lia) (by lia)<|by lia
 have h:c (at_ (L5 p 0 n) n) (at_ (L5 p 0 n)<|n-1)=a9:=by rw[gO g,gO g,t7 (by lia),t6 ⟨by lia,by lia⟩];rcases O.neg _ (at_ p<|0+n-1-(n-1)) _ t with z|z;exact z;have:=m (n-1) (0+n-1-(n-1)) (by lia) (by lia) (by lia) (by lia);unfold le at this;rw[this]at z;cases z
 obtain⟨q,r,s,w⟩:=jO O (p:=L5 p 0 n) (n:=n) (nrem:=nrem) (by lia) (by lia) (by rw[er];exact hz) e h;exact⟨q.trans er,r,s,w⟩;rw[t7 h2];have:n=1:=by lia
 subst this;exact jO O (by lia) (by lia) hz (λi j b d u v=>by
  have:i=0:=by lia
  have:j=0:=by lia
  subst_vars
  exact le_refl O _) t
theorem lH(O:LR c)(hu:Up c p k):∀(f l r:Nat),l<=r->r<=k->r-l<=f->(∀i,i<l->le c (at_ p i) (at_ p k))->(∀i,r<=i->i<k->c (at_ p k) (at_ p i)=a9) ->uX c p k (run c<|MY p k f l r)
 | 0,l,r,h1,h2,h3,h4,h5=>⟨by show l<=k;lia,h4,λi a1 a2=>h5 i (by have a1':l<=i:=a1;lia) a2⟩
 |f+1,l,r,h1,h2,h3,h4,h5=>by
  show uX c p k (run c<|if l ≥ r then .ret l else .ask (at_ p k) (at_ p<|(l+r) / 2) λc=>if c=a9 then MY p k f l ((l+r) / 2)else MY p k f ((l+r) / 2+1) r);by_cases hl:l ≥ r;rw[t6 hl];exact⟨by show l<=k;lia,h4,λi a1 a2=>h5 i (by have a1':l<=i:=a1;lia) a2⟩;rw[t7 hl];show uX c p k (run c<|if c (at_ p k) (at_ p<|(l+r) / 2)=a9 then MY p k f l ((l+r) / 2)else MY p k f ((l+r) / 2+1) r);by_cases hc:c (at_ p k) (at_ p<|(l+r) / 2)=a9;rw[t6 hc];refine lH O hu f l ((l+r) / 2) (by lia) (by lia) (by lia) h4 λi a1 a2=>?_;rcases O.neg _ (at_ p i) _ hc with z|z;exact z;have:=hu ((l+r) / 2) i a1 a2;unfold le at this;rw[this]at z;cases z;rw[t7 hc];have lm:le c (at_ p<|(l+r) / 2) (at_ p k):=by unfold le;simpa using hc
  refine lH O hu f ((l+r) / 2+1) r (by lia) h2 (by lia) (λi hi=>?_) h5;exact le_trans O (hu i ((l+r) / 2) (by lia)<|by lia) lm
theorem Bh(O:LR c)(f:k<p.size)(g:Up c p k)(l:m<=k)(h1:∀i,i<m->le c (at_ p i) (at_ p k))(h2:∀i,m<=i->i<k->c (at_ p k) (at_ p i)=a9):Up c (bubble p k<|k-m) (k+1):=by
 intro i j d L;have e:k-(k-m)=m:=by lia
 rw[tz f (by lia),tz f (by lia),e];by_cases hi:i=m;rw[t6 hi];by_cases h:j=m;rw[t6 h];exact le_refl O _;rw[t7 h,t6 ⟨by lia,by lia⟩];exact le_of_lt O (h2 _ (by lia)<|by lia);rw[t7 hi];by_cases a:m<i/\i<=k;rw[t6 a,t7 (by lia),t6 ⟨by lia,by lia⟩];exact g _ _ (by lia) (by lia);rw[t7 a];by_cases h:j=m;rw[t6 h];exact h1 i (by lia);rw[t7 h];by_cases b:m<j/\j<=k;rw[t6 b];exact g _ _ (by lia) (by lia);rw[t7 b];exact g _ _ d<|by lia
theorem Bj(O:LR c):∀(f:Nat) (p:Array Nat) (k:Nat),k+f<=p.size->Up c p k->(run c<|kas_bin f p k).size=p.size/\Up c (run c<|kas_bin f p k) (k+f)
 | 0,p,k,_,h=>⟨rfl,h⟩
 |f+1,p,k,hz,h=>by show (run c<|(MY p k k 0 k).bind λl=>kas_bin f (bubble p k<|k-l)<|k+1).size=p.size/\Up c (run c<|(MY p k k 0 k).bind λl=>kas_bin f (bubble p k<|k-l)<|k+1) (k+(f+1));rw[fP];obtain⟨a1,a2,a3⟩:=lH O h k 0 k (D6 _) (x9 _) (by lia) (λi hi=>t8 hi<|NI _) λi a1 a2=>t8 a2 (by lia);obtain⟨b1,b2⟩:=Bj O f (bubble p k<|k-run c (MY p k k 0 k)) (k+1) (by rw[bubble_size];lia)<|Bh O (by lia) h a1 a2 a3;exact⟨b1.trans<|bubble_size _ _ _,by rw[show k+(f+1)=k+1+f by lia];exact b2⟩
theorem ET(O:LR c)(h1:1<=n):(run c<|ND n).size=n/\Up c (run c<|ND n) n:=by
 have hs:(Pj<|E4 n).size=n:=by simp
 unfold ND;rw[fP];obtain⟨C,a,b,t⟩:=AV O (p:=Pj<|E4 n) h1 (by rw[hs];exact x9 _);rw[hs]at C;generalize run c (kas_count n<|Pj<|E4 n)=r at C a b t;by_cases g:r.1<n;rw[t6 g];obtain⟨d,e⟩:=Bj O (n-max r.1 1) r.2 (max r.1 1) (by rw[C];lia) (by rw[show max r.1 1=r.1 by lia];exact a);exact⟨d.trans C,by rw[show n=max r.1 1+(n-max r.1 1) by lia];simpa using e⟩;rw[t7 g];have f:r.1=n:=by lia
 rw[f]at a;exact⟨C,a⟩
def G5(n:Nat)(p:Array Nat):Prop:=p.toList.Perm<|E4 n
theorem G5.lt(h:G5 n p)(a:0<n)(k:Nat):at_ p k<n:=by
 unfold at_;rw[Ob];cases e:p[k]? with
 |none=>simpa using a
 |some x =>
  have:x∈p.toList:=by rw[<-J5]at e;exact K7 e
  have:=h.mem_iff.mp this;simpa using this
theorem G5.rev(h:G5 n p):G5 n (L5 p i j):=(Array.perm_iff_toList_perm.mp<|mirror_perm p i j<|(j-i) / 2).trans h
theorem G5.bub(h:G5 n p):G5 n (bubble p i j):=(Array.perm_iff_toList_perm.mp<|bubble_perm p i j).trans h
section
variable{n:Nat}(h0:0<n)
theorem Bn(h0:0<n)(h:G5 n p):∀(f k:Nat),Bd n (Mv p f k)
 | 0,_=>trivial
 |f+1,k=>⟨h.lt h0 _,h.lt h0 _,λb=>by cases b with
  |true=>exact trivial
  |false=>exact Bn h0 h f<|k+1⟩
theorem pJ(h0:0<n):∀(f:Nat) (p:Array Nat) (k q:Nat),G5 n p->Bd n (Lr f p k q)/\All (λr=>G5 n r.1) (Lr f p k q)
 | 0,p,k,q,h=>⟨trivial,h⟩
 |f+1,p,k,q,h=>by
  have key:∀b,(Bd n<|if b=a9 then(if q > 0 then Lr f (L5 p (k-(q+1)) k) (k+1) 0 else Lr f p (k+1) 0) else KasT.ask (p.getD (k-1) 0) (p.getD k 0) λd=>if d=a9 then KasT.ret (p,k,q)else Lr f p (k+1) (q+1))/\All (λr=>G5 n r.1) (if b=a9 then(if q > 0 then Lr f (L5 p (k-(q+1)) k) (k+1) 0 else Lr f p (k+1) 0) else KasT.ask (p.getD (k-1) 0) (p.getD k 0) λd=>if d=a9 then KasT.ret (p,k,q)else Lr f p (k+1) (q+1)):=λb=>by
   cases b with
   |true=>rw[t6 rfl];by_cases hq:q > 0;rw[t6 hq];exact pJ h0 f _ _ _ h.rev;rw[t7 hq];exact pJ h0 f _ _ _ h
   |false =>
    rw[t7<|by simp];have a:=pJ h0 f p (k+1) (q+1) h;refine⟨⟨h.lt h0 _,h.lt h0 _,λb=>?_⟩,λb=>?_⟩;cases b with
    |true=>exact trivial
    |false=>exact a.1
    cases b with
    |true=>exact h
    |false=>exact a.2
  exact⟨⟨h.lt h0 _,h.lt h0 _,λb=>(key b).1⟩,λb=>(key b).2⟩
theorem kg(c:0<n)(h:G5 n p):Bd n (kas_tail3 k m p)/\All (λr=>G5 n r.2) (kas_tail3 k m p):=by
 have v:∀{t:KasT Nat}{Q:Prop},Q->All (λ_=>Q) t:=λ{t Q} q=>by
  induction t with
  |ret a=>exact q
  |ask i j k d=>exact λb=>d b
 unfold kas_tail3;exact⟨Bd.bindA _ (Bn c h.rev _ _)<|v trivial,All.bind _<|v h.rev⟩
theorem eO(a:0<n)(h:G5 n p):Bd n (OH k m p)/\All (λr=>G5 n r.2) (OH k m p):=by unfold OH;obtain⟨b,c⟩:=pJ a (m-(k+1)) p (k+1) 0 h;refine⟨Bd.bindA _ b<|c.mono<|λr i=>?_,All.bind _<|c.mono<|λr i=>?_⟩;by_cases q:r.2.2 > 0;rw[t6 q];exact(kg a i.rev).1;rw[t7 q];exact(kg a i).1;by_cases q:r.2.2 > 0;rw[t6 q];exact(kg a i.rev).2;rw[t7 q];exact(kg a i).2
theorem DP(c:0<n)(h:G5 n p):Bd n (kas_count m p)/\All (λr=>G5 n r.2) (kas_count m p):=by
 have v:∀{t:KasT Nat}{Q:Nat->Prop},(∀a,Q a)->All Q t:=λ{t Q} q=>by
  induction t with
  |ret a=>exact q a
  |ask i j k d=>exact λb=>d b
 unfold kas_count;refine⟨Bd.bindA _ (Bn c h _ _)<|v λk=>?_,All.bind _<|v λk=>?_⟩;by_cases h1:(k==m)=a9;rw[t6 h1];exact trivial;rw[t7 h1];by_cases h2:k > 1;rw[t6 h2];refine⟨h.lt c _,h.lt c _,λb=>?_⟩;cases b with
 |true=>exact trivial
 |false=>exact(eO c h.rev).1
 rw[t7 h2];exact(eO c h).1;by_cases h1:(k==m)=a9;rw[t6 h1];exact h;rw[t7 h1];by_cases h2:k > 1;rw[t6 h2];intro b;cases b with
 |true=>exact h
 |false=>exact(eO c h.rev).2
 rw[t7 h2];exact(eO c h).2
theorem oO(h0:0<n)(h:G5 n p):∀(f l r:Nat),Bd n (MY p k f l r)
 | 0,_,_=>trivial
 |f+1,l,r=>by
  show Bd n (if l ≥ r then KasT.ret l else KasT.ask (p.getD k 0) (p.getD ((l+r) / 2) 0) λc=>if c=a9 then MY p k f l ((l+r) / 2)else MY p k f ((l+r) / 2+1) r);by_cases hl:l ≥ r;rw[t6 hl];exact trivial;rw[t7 hl];refine⟨h.lt h0 _,h.lt h0 _,λb=>?_⟩;cases b with
  |true=>exact oO h0 h f _ _
  |false=>exact oO h0 h f _ _
theorem wA(h0:0<n):∀(f:Nat) (p:Array Nat) (k:Nat),G5 n p->Bd n (kas_bin f p k)/\All (λr=>G5 n r) (kas_bin f p k)
 | 0,p,k,h=>⟨trivial,h⟩
 |f+1,p,k,h=>by
  have triv:∀{t:KasT Nat}{Q:Nat->Prop},(∀a,Q a)->All Q t:=λ{t Q} q=>by
   induction t with
   |ret a=>exact q a
   |ask i j k ih=>exact λb=>ih b
  exact⟨Bd.bindA _ (oO h0 h _ _ _)<|triv λl=>(wA h0 f _ _ h.bub).1,All.bind _<|triv λl=>(wA h0 f _ _ h.bub).2⟩
theorem sort_bd(a:0<n):Bd n (ND n)/\All (λr=>G5 n r) (ND n):=by
 have h:G5 n (Pj<|E4 n):=by unfold G5;simp
 obtain⟨b,c⟩:=DP a (m:=n) h;unfold ND;refine⟨Bd.bindA _ b<|c.mono λr i=>?_,All.bind _<|c.mono λr i=>?_⟩;by_cases g:r.1<n;rw[t6 g];exact(wA a _ _ _ i).1;rw[t7 g];exact trivial;by_cases g:r.1<n;rw[t6 g];exact(wA a _ _ _ i).2;rw[t7 g];exact i
end
theorem sort_list{α:Type}[Inhabited α]{lt:α->α->Bool}(xs:List α)(h1:1<=xs.length)(r:∀a∈xs,lt a a=bt)(tr:∀a∈xs,∀b∈xs,∀d∈xs,lt a b=a9->lt b d=a9->lt a d=a9)(n:∀a∈xs,∀b∈xs,∀d∈xs,lt a d=a9->lt a b=a9\/lt b d=a9):let c:=λi j=>if i<xs.length then(if j<xs.length then lt (xs.getD i default) (xs.getD j default)else a9)else bt
  let p:=run c<|ND xs.length
  let ys:=p.toList.map λi=>xs.getD i default
  ys.Perm xs/\ys.Pairwise λa b=>lt b a=bt:=by
 intro c p ys;have m:∀i,i<xs.length->xs.getD i default∈xs:=λi hi=>by rw[LV,A4 hi];exact Mm hi
 have O:LR c:=by refine⟨λa=>?_,λa b d=>?_,λa b d=>?_⟩;show (if a<xs.length then(if a<xs.length then lt _ _ else a9)else bt)=bt;by_cases f:a<xs.length;rw[t6 f,t6 f];exact r _<|m a f;rw[t7 f];show (if a<xs.length then(if b<xs.length then lt _ _ else a9)else bt)=a9->(if b<xs.length then(if d<xs.length then lt _ _ else a9)else bt)=a9->(if a<xs.length then(if d<xs.length then lt _ _ else a9)else bt)=a9;by_cases f:a<xs.length;by_cases h:b<xs.length;by_cases g:d<xs.length;rw[t6 f,t6 h,t6 h,t6 g,t6 f,t6 g];exact tr _ (m a f) _ (m b h) _<|m d g;intro _ _;rw[t6 f,t7 g];rw[t7<|show ¬b<xs.length from h];intro _ z;rw[t7 h]at z;cases z;intro z;rw[t7 f]at z;cases z;show (if a<xs.length then(if d<xs.length then lt _ _ else a9)else bt)=a9->(if a<xs.length then(if b<xs.length then lt _ _ else a9)else bt)=a9\/(if b<xs.length then(if d<xs.length then lt _ _ else a9)else bt)=a9;by_cases f:a<xs.length;by_cases h:b<xs.length;by_cases g:d<xs.length;rw[t6 f,t6 g,t6 f,t6 h,t6 h,t6 g];exact n _ (m a f) _ (m b h) _<|m d g;intro _;right;rw[t6 h,t7 g];intro _;left;rw[t6 f,t7 h];intro z;rw[t7 f]at z;cases z
 have E:G5 xs.length p:=All.run _ (sort_bd<|by lia).2;obtain⟨hs,U⟩:=ET O h1;refine⟨?_,?_⟩;have e:(E4 xs.length).map (λi=>xs.getD i default)=xs:=by apply List.ext_getElem?;intro i;rw[E1];by_cases hi:i<xs.length;rw[List.getElem?_range hi];simp[LV,A4 hi];rw[N9 (by simpa using hi),N9<|by simpa using hi];rfl
 have:=E.map λi=>xs.getD i default;rw[e]at this;exact this;show (p.toList.map λi=>xs.getD i default).Pairwise λa b=>lt b a=bt;rw[PU];intro i j hi L t;rw[x6,G2]at hi L;have u:p.size=xs.length:=hs;have l:=U i j (by lia) (by lia);have o:∀k,at_ p k<xs.length:=λk=>E.lt (by lia) k;unfold le at l;have l':(if at_ p j<xs.length then(if at_ p i<xs.length then lt (xs.getD (at_ p j) default) (xs.getD (at_ p i) default)else a9)else bt)=bt:=l;rw[t6<|o j,t6<|o i]at l';have q:p.toList[i]=at_ p i:=by unfold at_;simp[MA,hi]
 have s:p.toList[j]=at_ p j:=by unfold at_;simp[MA,L]
 rw[List.getElem_map,List.getElem_map,q,s];exact l'
end
end Srt
namespace L2
open PySem PySem.Spec PyProof.Rows DL
def xW(A:e7)(s:e8)(x y:b7)(k:Bool):Prop:=∀(g:c7) (w:c6) (E:b7->e8->Prop) (Q:b7->e8->Prop),Q (.bool k) s->f8 (ge g w) A (richCompare .Lt x y) Q E s
inductive LexAt(A:e7)(s:e8):List b7->List b7->Bool->Prop
 |nn:LexAt A s [] [] bt
 |nc {y:b7}{ys:List b7}:LexAt A s [] (y::ys) a9
 |cn {x:b7}{xs:List b7}:LexAt A s (x::xs) [] bt
 |eq {x y:b7}{xs ys:List b7}{k:Bool} (h:MB A s x y a9) (t:LexAt A s xs ys k):LexAt A s (x::xs) (y::ys) k
 |ne {x y:b7}{xs ys:List b7}{k:Bool} (h:MB A s x y bt) (t:xW A s x y k):LexAt A s (x::xs) (y::ys) k
section
open PySem.SeqAt
open PySem.AutoSeq1 (wpAny_loadPart')
open PySem.MeetsSeq PySem.MeetsSeq2 PySem.MeetsSeq3
theorem qj(l b:c8)(a i:Array b7)(n B:Nat)(dd f:Option c8)(C o:Array (Option b7))(k:Bool):Meets (Builtin.«tuple.__lt__» ⟨[.ref l,.ref b],[]⟩)
   (λA R s=>s.heap.get? l=a7 (⟨.type "tuple",dd,.seq a n,C⟩:c9)/\s.heap.get? b=a7 { cls:=.type "tuple",dict:=f,data:=.seq i B,slots:=o } /\ LexAt A.in1 s a.toList i.toList k/\R (.ok<|.ret<|.bool k) s) :=
 .of_wp λp w A R s h=>by
  obtain⟨hp,g,d,r,q⟩:=s;obtain⟨v,u,c,h⟩:=h;have N:=AutoSeq1.sub_tuple_tuple
  wp_walk using R3 v,R3 u,N1 _ (λaM b s'=>b.1=a8/\s'=⟨hp,g,d,r,q⟩/\∃(vs e:List b7),aM=vs.zip e /\ LexAt A.in1 ⟨hp,g,d,r,q⟩ vs e k/\vs.length+i.size=e.length+a.size) _
  case turn =>
   rintro⟨y,x⟩ aM b s' ⟨hb',rfl,vs,e,hz,hlex,hlen⟩;cases hlex with
   |nn=>cases hz
   |nc=>cases hz
   |cn=>cases hz
   |eq j t =>
    rw[Oq]at hz;injection hz with hyx hrest;injection hyx with hy c;subst hy c;refine u8<|j p w _ _ ?_
    wp_walk
    exact⟨rfl,rfl,_,_,hrest,t,by simp only[E9]at hlen;lia⟩
   |ne j t =>
    rw[Oq]at hz;injection hz with hyx hrest;injection hyx with hy c;subst hy c;refine u8<|j p w _ _ ?_;have m:=t p w
    wp_walk using m
    exact⟨_,rfl,by simpa using h⟩
  case fin =>
   rintro⟨b1,b2⟩ s' ⟨hb',rfl,vs,e,hz,hlex,hlen⟩;simp only at hb';subst hb';have z:k=decide (a.size<i.size):=by
    cases hlex with
    |nn=>simp only[G8]at hlen;exact(dF_<|by lia).symm
    |nc=>simp only[G8,E9]at hlen;exact(dT_<|by lia).symm
    |cn=>simp only[G8,E9]at hlen;exact(dF_<|by lia).symm
    |eq _ _=>rw[Oq]at hz;cases hz
    |ne _ _=>rw[Oq]at hz;cases hz
   rw[z]at h
   wp_walk
   exact⟨_,rfl,by simpa [Builtin.Tuple.tupleCompareSizes]using h⟩
  case h =>
   exact⟨rfl,rfl,a.toList,i.toList,rfl,c,by simp;lia⟩
end
theorem xW.tuples(u:s.heap.IsTuple l items)(r:s.heap.IsTuple b items2)(v:A.units<k7)(y:LexAt A.in1 s items.toList items2.toList k):xW A s (.ref l) (.ref b) k:=λp w E Q h=>by obtain⟨⟨t,q,g,C⟩,B,m,n,o⟩:=id u;obtain⟨⟨j,e,i,f⟩,d,a,z,c⟩:=id r;simp only at m o a c;subst m o a c;exact richCompare_meets_room (op:=.Lt) ⟨_,B,rfl⟩ ⟨_,d,rfl⟩ PySem.F.slot_tuple_lt PySem.F.entry_tuple_lt (PySem.F.args_tuple_lt_2 _ _) (qj l b items items2 n z q e C f k) ⟨B,d,y,show Nn k≠Value.notImplemented/\Q (.bool k) s from⟨(λx=>nomatch x),h⟩⟩ v
noncomputable def pU(f g:D->D->Bool):List D->List D->Bool
 | [],[]=>bt
 | [],_::_=>a9
 |_::_,[]=>bt
 |x::xs,y::ys=>if f x y=a9 then pU f g xs ys else g x y
noncomputable def E2(M:v8):Nat->D->D->Bool
 |_,.int a,.int b=>decide<|a<b
 |_,.str a,.str b=>cf a b
 |n+1,.tup xs,.tup ys=>pU (w4 M n) (E2 M n) xs ys
 |_,_,_=>bt
noncomputable def xQ(f g:D->D->Bool):List D->List D->Bool
 |x::xs,y::ys=>if f x y=a9 then xQ f g xs ys else g x y
 |_,_=>a9
noncomputable def iN(M:v8):Nat->D->D->Bool
 |_,.int _,.int _=>a9
 |_,.str _,.str _=>a9
 |n+1,.tup xs,.tup ys=>xQ (w4 M n) (iN M n) xs ys
 |_,_,_=>bt
theorem xW.ints(A:e7)(s:e8)(a:Int)(t:Tok)(c:Int)(u:Tok):xW A s (.int a t) (.int c u) (decide<|a<c):=λg w E Q h=>HT.rcLt_int A s a t c u g w E Q h
theorem xW.texts(A:e7)(s:e8)(a:c5)(t:Tok)(c:c5)(u:Tok):xW A s (.str a t) (.str c u) (cf a c):=λg w E Q h =>
 (PySem.P.lt_str (show Q (.bool<|decide<|a.cps.toList<c.cps.toList) s from h):f8 (ge g w) A (j8 .Lt (.str a t)<|.str c u) Q E s)
section
variable{X:Cx}{pins:List (c8×c9)}{σ:St}{H:Hp}{s:e8}{ρ:List c8}{M:v8}
theorem Em(I:v4 X pins σ H s)(Z:z6 X.K ρ M H):∀(n:Nat) (A:e7) (x y:D) (vx vy:V) (u v:b7),A.units+n<k7->w5 X.K ρ H x vx->aL vx u->w5 X.K ρ H y vy->aL vy v->z5 M n x=a9->z5 M n y=a9->iN M n x y=a9 ->xW A s u v (E2 M n x y):=by
 intro n;induction n with
 |zero =>
  intro A x y vx vy u v T L c f l o1 o2 m;cases L with
  |int a =>
   cases f with
   |int b=>obtain⟨t,rfl⟩:=c;obtain⟨t',rfl⟩:=l;exact xW.ints A s a t b t'
   |_=>simp[iN]at m
  |str a =>
   cases f with
   |str b=>obtain⟨t,rfl⟩:=c;obtain⟨t',rfl⟩:=l;exact xW.texts A s a t b t'
   |_=>simp[iN]at m
  |_=>simp[iN]at m
 |succ n U =>
  intro A x y vx vy u v T L c f l o1 o2 m;have F:A.units<k7:=by lia
  have i:A.in1.units+n<k7:=by show A.units+1+n<k7;lia
  have G:∀(ds es:List D) (vs E:List V) (its j:List b7),Reps X.K ρ H ds vs->az vs its->Reps X.K ρ H es E->az E j->ds.all (z5 M n)=a9->es.all (z5 M n)=a9->xQ (w4 M n) (iN M n) ds es=a9 -> LexAt A.in1 s its j (pU (w4 M n) (E2 M n) ds es):=by
   intro ds;induction ds with
   |nil =>
    intro es vs E its j p w o g _ _ _;cases p;cases w;cases o with
    |nil=>cases g;exact .nn
    |cons _ _=>cases g;exact .nc
   |cons d ds hi =>
    intro es vs E its j p w o g B C k;cases p with
    |cons N p =>
     cases w with
     |cons Q w =>
      cases o with
      |nil=>cases g;exact .cn
      |@cons e _ S _ P o =>
       cases g with
       |cons R g=>rw[Mi,G7]at B C;have z:=(mv I Z n A.in1 d _ _ _ _ _ i N Q P R B.1 C.1).1;rw[pU];rw[xQ]at k;by_cases q:w4 M n d e=a9;rw[q]at z;rw[t6 q]at k ⊢;exact .eq z<|hi _ _ _ _ _ p w o g B.2 C.2 k;have h:=MQ.mpr q;rw[h]at z;rw[t7 q]at k ⊢;exact .ne z<|U A.in1 _ _ _ _ _ _ i N Q P R B.1 C.1 k
  cases L with
  |int a =>
   cases f with
   |int b=>obtain⟨t,rfl⟩:=c;obtain⟨t',rfl⟩:=l;exact xW.ints A s a t b t'
   |_=>simp[iN]at m
  |str a =>
   cases f with
   |str b=>obtain⟨t,rfl⟩:=c;obtain⟨t',rfl⟩:=l;exact xW.texts A s a t b t'
   |_=>simp[iN]at m
  |tup q r =>
   cases f with
   |tup h r'=>cases c;cases l;obtain⟨its,Y,W,_⟩:=I.tuple q;obtain⟨j,O,J,_⟩:=I.tuple h;refine xW.tuples W J F ?_;exact G _ _ _ _ _ _ r Y r' O (by simpa [z5]using o1) (by simpa [z5]using o2) m
   |_=>simp[iN]at m
  |_=>simp[iN]at m
end
noncomputable def E5:Nat->D->Bool
 |_,.int _=>a9
 |_,.str _=>a9
 |n+1,.tup xs=>xs.all<|E5 n
 |_,_=>bt
noncomputable def Hw(f:D->List Int):List D->List Int
 | []=>[0]
 |x::xs=>1::(f x++Hw f xs)
noncomputable def D8:Nat->D->List Int
 |_,.int i=>[0,i]
 |_,.str x=>1::(x.cps.toList.map (λ(c:Nat)=>(c:Int)+1)++[0])
 |n+1,.tup xs=>2::Hw (D8 n) xs
 |_,_=>[3]
def cv(x y:List Int):Prop:=∀a b,x++a<y++b
theorem cv.cons(i:Int)(h:cv x y):cv (i::x) (i::y):=λa b=>Ny.mpr<|.inr ⟨rfl,h a b⟩
theorem cv.head(x y:List Int)(h:i<j):cv (i::x) (j::y):=λa b=>Ny.mpr<|.inl h
theorem cv.lt(h:cv x y):x<y:=by have:=h [] [];simpa using this
theorem cv.pre(z:List Int)(h:cv x y):cv (z++x) (z++y):=by
 induction z with
 |nil=>exact h
 |cons i z a=>exact a.cons i
theorem cv.more(u v:List Int)(h:cv x y):cv (x++u) (y++v):=λa b=>by rw[Mn,Mn];exact h _ _
def Rf(x y:D)(n:Nat)(l:Bool)(r:Bool):Prop:=(x=y/\l=bt/\r=bt)\/(x≠y/\l=a9/\r=bt/\cv (D8 n x) (D8 n y))\/(x≠y/\l=bt/\r=a9/\cv (D8 n y) (D8 n x))
theorem sT:∀(x y:List Nat),(x=y)\/(x<y/\¬y<x/\cv (x.map (λ(c:Nat)=>(c:Int)+1)++[0]) (y.map (λ(c:Nat)=>(c:Int)+1)++[0]))\/(¬x<y/\y<x/\cv (y.map (λ(c:Nat)=>(c:Int)+1)++[0]) (x.map (λ(c:Nat)=>(c:Int)+1)++[0]))
 | [],[]=>.inl rfl
 | [],c::y=>.inr<|.inl ⟨List.nil_lt_cons _ _,List.not_lt_nil _,cv.head _ _<|by dsimp only;lia⟩
 |c::x,[]=>.inr<|.inr ⟨List.not_lt_nil _,List.nil_lt_cons _ _,cv.head _ _<|by dsimp only;lia⟩
 |c::x,e::y=>by
  rcases PC c e with h|h|h;refine .inr<|.inl ⟨Ny.mpr<|.inl h,λz=>?_,cv.head _ _<|by dsimp only;lia⟩;rcases Ny.mp z with z|⟨z,_⟩<;>lia
  subst h;rcases sT x y with q|⟨q1,q2,q3⟩|⟨q1,q2,q3⟩
  exact .inl (by rw[q]);refine .inr<|.inl ⟨Ny.mpr<|.inr ⟨rfl,q1⟩,λz=>?_,q3.cons _⟩;rcases Ny.mp z with z|⟨_,z⟩
  lia;exact q2 z;refine .inr<|.inr ⟨λz=>?_,Ny.mpr<|.inr ⟨rfl,q2⟩,q3.cons _⟩;rcases Ny.mp z with z|⟨_,z⟩
  lia;exact q1 z;refine .inr<|.inr ⟨λz=>?_,Ny.mpr<|.inl h,cv.head _ _<|by dsimp only;lia⟩;rcases Ny.mp z with z|⟨z,_⟩<;>lia
theorem Ku(M:v8):∀(n:Nat) (x y:D),E5 n x=a9->E5 n y=a9->(w4 M n x y=a9↔x=y):=by
 have l:∀(n:Nat),(∀(x y:D),E5 n x=a9->E5 n y=a9->(w4 M n x y=a9↔x=y))->∀(xs ys:List D),xs.all (E5 n)=a9->ys.all (E5 n)=a9->(F0 (w4 M n) xs ys=a9↔xs=ys):=by
  intro n i xs;induction xs with
  |nil=>intro ys _ _;cases ys<;>simp[F0]
  |cons x xs hi =>
   intro ys h1 h2;cases ys with
   |nil=>simp[F0]
   |cons y ys=>rw[Mi,G7]at h1 h2;rw[F0,G7,i x y h1.1 h2.1,hi ys h1.2 h2.2,NZ]
 intro n;induction n with
 |zero=>intro x y h1 h2;cases x<;>simp[E5]at h1<;>cases y<;>simp[E5]at h2<;>simp[w4]
 |succ n i =>
  intro x y h1 h2;cases x with
  |int a=>cases y<;>simp[E5]at h2<;>simp[w4]
  |str a=>cases y<;>simp[E5]at h2<;>simp[w4]
  |tup xs =>
   cases y with
   |tup ys=>simp only[w4,D.tup.injEq];exact l n i xs ys (by simpa [E5]using h1)<|by simpa [E5]using h2
   |int a=>simp[w4]
   |str a=>simp[w4]
   |_=>simp[E5]at h2
  |_=>simp[E5]at h1
theorem Je(M:v8):∀(n:Nat) (x:D),E5 n x=a9->z5 M n x=a9:=by
 intro n;induction n with
 |zero=>intro x h;cases x<;>simp[E5]at h<;>rfl
 |succ n i =>
  intro x h;cases x with
  |int a=>rfl
  |str a=>rfl
  |tup xs=>simp only[z5];rw[F4];intro y Q;exact i y<|F4.mp (show xs.all (E5 n)=a9 from h) y Q
  |_=>simp[E5]at h
theorem HQ(M:v8):∀(n:Nat) (x y:D),E5 n x=a9->E5 n y=a9->iN M n x y=a9->Rf x y n (E2 M n x y) (E2 M n y x):=by
 have base:∀(n:Nat) (a b:Int),Rf (.int a) (.int b) n (decide<|a<b) (decide<|b<a):=λn a b=>by
  have e:∀a,D8 n (.int a)=[0,a]:=λa=>by cases n<;>rfl
  rcases Int.lt_trichotomy a b with h|h|h;exact .inr<|.inl ⟨by simp;lia,dT_ h,dF_ (by lia),by rw[e,e];exact(cv.head [] [] h).cons 0⟩;subst h;exact .inl ⟨rfl,dF_ (by lia),dF_<|by lia⟩;exact .inr<|.inr ⟨by simp;lia,dF_ (by lia),dT_ h,by rw[e,e];exact(cv.head [] [] h).cons 0⟩
 have s:∀(n:Nat) (a b:c5),Rf (.str a) (.str b) n (cf a b) (cf b a):=λn a b=>by
  have e:∀a:c5,D8 n (.str a)=1::(a.cps.toList.map (λ(c:Nat)=>(c:Int)+1)++[0]):=λa=>by cases n<;>rfl
  unfold cf;rcases sT a.cps.toList b.cps.toList with h|⟨h1,h2,d⟩|⟨h1,h2,d⟩
  have:a=b:=tV h;subst this;exact .inl ⟨rfl,dF_<|NG _,dF_<|NG _⟩;exact .inr<|.inl ⟨λz=>by cases z;exact h2 h1,dT_ h1,dF_ h2,by rw[e,e];exact d.cons 1⟩;exact .inr<|.inr ⟨λz=>by cases z;exact h1 h2,dF_ h1,dT_ h2,by rw[e,e];exact d.cons 1⟩
 intro n;induction n with
 |zero=>intro x y h1 h2 d;cases x<;>simp[E5]at h1<;>cases y<;>simp[E5]at h2<;>first|exact base 0 _ _|exact s 0 _ _|simp[iN]at d
 |succ n m =>
  intro x y h1 h2 d;have l:∀(xs ys:List D),xs.all (E5 n)=a9->ys.all (E5 n)=a9->xQ (w4 M n) (iN M n) xs ys=a9 -> (xs=ys/\pU (w4 M n) (E2 M n) xs ys=bt/\pU (w4 M n) (E2 M n) ys xs=bt) \/ (xs≠ys/\pU (w4 M n) (E2 M n) xs ys=a9/\pU (w4 M n) (E2 M n) ys xs=bt/\cv (Hw (D8 n) xs) (Hw (D8 n) ys)) \/ (xs≠ys/\pU (w4 M n) (E2 M n) xs ys=bt/\pU (w4 M n) (E2 M n) ys xs=a9/\cv (Hw (D8 n) ys) (Hw (D8 n) xs)):=by
   intro xs;induction xs with
   |nil =>
    intro ys _ _ _;cases ys with
    |nil=>exact .inl ⟨rfl,rfl,rfl⟩
    |cons y ys=>exact .inr<|.inl ⟨by simp,rfl,rfl,cv.head _ _<|by decide⟩
   |cons x xs hi =>
    intro ys h1 h2 d;cases ys with
    |nil=>exact .inr<|.inr ⟨by simp,rfl,rfl,cv.head _ _<|by decide⟩
    |cons y ys =>
     rw[Mi,G7]at h1 h2;rw[xQ]at d;have i:=Ku M n x y h1.1 h2.1;have j:=Ku M n y x h2.1 h1.1;rw[pU,pU];by_cases q:x=y;subst q;rw[t6<|i.mpr rfl]at d;rw[t6<|i.mpr rfl,t6<|i.mpr rfl];rcases hi ys h1.2 h2.2 d with⟨C,f,g⟩|⟨C,f,g,t⟩|⟨C,f,g,t⟩
     exact .inl ⟨by rw[C],f,g⟩;exact .inr<|.inl ⟨λz=>C (Pn z).2,f,g,(t.pre<|D8 n x).cons 1⟩;exact .inr<|.inr ⟨λz=>C (Pn z).2,f,g,(t.pre<|D8 n x).cons 1⟩;have k:¬w4 M n x y=a9:=λz=>q<|i.mp z;have o:¬w4 M n y x=a9:=λz=>q (j.mp z).symm;rw[t7 k]at d;rw[t7 k,t7 o];rcases m x y h1.1 h2.1 d with⟨C,_⟩|⟨C,f,g,t⟩|⟨C,f,g,t⟩
     exact t8 C q;exact .inr<|.inl ⟨λz=>q (Pn z).1,f,g,(t.more _ _).cons 1⟩;exact .inr<|.inr ⟨λz=>q (Pn z).1,f,g,(t.more _ _).cons 1⟩
  cases x with
  |int a=>cases y<;>simp[E5]at h2<;>first|exact base (n+1) _ _|simp[iN]at d
  |str a=>cases y<;>simp[E5]at h2<;>first|exact s (n+1) _ _|simp[iN]at d
  |tup xs =>
   cases y with
   |tup ys =>
    rcases l xs ys (by simpa [E5]using h1) (by simpa [E5]using h2) d with⟨C,f,g⟩|⟨C,f,g,t⟩|⟨C,f,g,t⟩
    exact .inl ⟨by rw[C],f,g⟩;exact .inr<|.inl ⟨λz=>C<|D.tup.inj z,f,g,t.cons 2⟩;exact .inr<|.inr ⟨λz=>C<|D.tup.inj z,f,g,t.cons 2⟩
   |_=>simp[iN]at d
  |_=>simp[E5]at h1
theorem md(h1:E5 n x=a9)(h2:E5 n y=a9)(h:iN M n x y=a9):E2 M n x y=decide (D8 n x<D8 n y):=by
 rcases HQ M n x y h1 h2 h with⟨C,a,b⟩|⟨C,a,b,t⟩|⟨C,a,b,t⟩
 subst C;rw[a,dF_<|NG _];rw[a,dT_ t.lt];rw[a,dF_<|λz=>NG _<|List.lt_trans z t.lt]
theorem GI(h1:E5 n x=a9)(h2:E5 n y=a9)(a:iN M n x y=a9)(e:D8 n x=D8 n y):x=y:=by
 rcases HQ M n x y h1 h2 a with⟨C,_⟩|⟨_,_,_,t⟩|⟨_,_,_,t⟩
 exact C;have:=t.lt;rw[e]at this;exact t8 this<|NG _;have:=t.lt;rw[e]at this;exact t8 this<|NG _
end L2
namespace L2
open PySem PySem.Spec PyProof.Rows DL PySem.W
section
variable{X:Cx}{pins:List (c8×c9)}{σ:St}{H:Hp}{s:e8}
theorem v4.laidF(I:v4 X pins σ H s)(k:∀b u,b≠X.env.locals->s.heap.get? b=a7 u->h'.get? b=a7 u)(p:s.heap.Ns X.env.locals m)(h:h'.Ns X.env.locals m)(hp:s.heap.get? a=a8) (f:H a=a8) (j:bx X.prog X.w (A2 H a o) h' a o):v4 X pins σ (A2 H a o) { s with heap:=h',toks:=t' }:=by
 have i:∀b u,s.heap.get? b=a7 u->b≠a:=λb u e z=>by subst z;rw[hp]at e;cases e
 refine I.step (g':=s.gens) (d':=s.drawn) (ch:=[]) (λ_ z=>nomatch z) (λb u L _ _ e _=>k b u L e) (λb u L _ _ e _=>⟨u.slots,k b u L e⟩) (λb u _ e n=>by rw[au<|i b u e];exact n) (λb u _ e=>?_) (λb xs q=>by rw[au<|ad q f];exact q) (λb u xs q=>by rw[au<|ad q f];exact q) (λb ps q=>⟨#[],by rw[au<|ad q f,q];simp⟩) (λt l=>?_) (λb w q=>?_) I.bare;by_cases d:b=X.env.locals;subst d;obtain⟨o',_,_,B,_⟩:=h;exact⟨o',B⟩;exact⟨u,k b u d e⟩;have:m=t:=funext λx=>p.agree l x;subst this;exact h;by_cases d:b=a;subst d;rw[aJ]at q;cases q;exact j;rw[au d]at q;refine(I.hok b w q).stay (λc v g r=>k c v ?_ r) (λc z=>by rw[au<|ad z f];exact z) λc xs z=>by rw[au<|ad z f];exact z
 rcases g with rfl|g;exact ad q I.free;exact ad g I.free
theorem v4.keptF(I:v4 X pins σ H s)(k:∀b u,b≠X.env.locals->s.heap.get? b=a7 u->h'.get? b=a7 u)(i:s.heap.Ns X.env.locals m)(a:h'.Ns X.env.locals m):v4 X pins σ H { s with heap:=h',toks:=t' }:=by refine I.step (g':=s.gens) (d':=s.drawn) (ch:=[]) (λ_ z=>nomatch z) (λb u h _ _ e _=>k b u h e) (λb u h _ _ e _=>⟨u.slots,k b u h e⟩) (λb u _ e n=>n) (λb u _ e=>?_) (λb xs q=>q) (λb u xs q=>q) (λb ps q=>⟨#[],by rw[q];simp⟩) (λj g=>?_) (λb w q=>?_) I.bare;by_cases d:b=X.env.locals;subst d;obtain⟨o',_,_,B,_⟩:=a;exact⟨o',B⟩;exact⟨u,k b u d e⟩;have:m=j:=funext λx=>i.agree g x;subst this;exact a;refine(I.hok b w q).stay (λc v f r=>k c v ?_ r) (λc z=>z) λc xs z=>z;rcases f with rfl|f;exact ad q I.free;exact ad f I.free
end
section
variable{prog:c7}{w:c6}{A:e7}{E:b7->e8->Prop}{s:e8}
theorem rj{l:c8}{vs:List b7}{Q:b7->e8->Prop}(u:s.heap.IsList l vs.toArray)(h2:vs.length<2)(h:∀D h' n,s.heap.objs.size<=D->(∀b o,s.heap.get? b=a7 o->h'.get? b=a7 o)->h'.get? D=a7 { cls:=.type "list",data:=.seq vs.toArray n }->Q (.ref D) { s with heap:=h' }):f8 (ge prog w) A (call (.builtin "sorted")<|[F6 l]) Q E s:=by
 have f:vs.length<=sizeLine:=by rw[Mh];lia
 refine Calls.call_function_entry kind_sorted plain_sorted entry_sorted (args_sorted1<|.ref l) ?_;unfold Builtin.«sorted»;refine u8 (m:=checkCount "sorted" 1 1 _)<|v5<|u8<|collect_list u (u8<|wpAny_newList ?_ f) f;generalize R:((s.heap.push<|o6 "list" #[] 0).update s.heap.objs.size (L9 (· ++ vs.toArray)))=g1;have z:g1.objs.size=s.heap.objs.size+1:=by rw[<-R,Heap.size_update,size_push']
 have B:∀b o,s.heap.get? b=a7 o->g1.get? b=a7 o:=λb o q=>by have d:=A5 q;rw[<-R,PM _ _ _ _<|A8 d,Heap.get?_push_ne _ _ _<|A8 d];exact q
 show f8 _ _ _ _ _ { s with heap:=g1.push (o6 "list" vs.toArray 0) };have L:(g1.push<|o6 "list" vs.toArray 0).get? g1.objs.size=a7 (o6 "list" vs.toArray 0):=C7 _ rfl;refine u8<|F8<|K4 slot_list_sort (⟨_,L,rfl⟩) entry_list_sort ?body<|args_list_sort<|.ref _
 case body =>
  rw[list_sort_plain];refine u8<|listItems_at L rfl ?_;refine u8<|listUpdate_at L rfl ?_ (by rw[C8,Mh];lia)<|D6 _;obtain⟨k,e⟩:∃k,((g1.push<|o6 "list" vs.toArray 0).update g1.objs.size<|L9 λ_=>(#[]:Array b7)).get? g1.objs.size=a7 (o6 "list" #[] k):=⟨_,Qm L λ_=>#[]⟩
  refine u8<|seqEpoch_at e rfl<|u8<|wpAny_newTuple (u8<|wpAny_newList (F8 ?_)<|D6 _) f;dsimp only;have g:vs.toArray.size<2:=by rw[C8];exact h2
  rw[t6 g,t6 g];refine u8<|v5 ?_;rw[StateT.run_pure];refine u8<|v5 ?_;dsimp only;generalize c:(((g1.push<|o6 "list" vs.toArray 0).update g1.objs.size<|L9 λ_=>(#[]:Array b7)).push<|o6 "tuple" vs.toArray 0).push (o6 "list" #[] 0)=g3;have a:g3.get? g1.objs.size=a7 (o6 "list" #[] k):=by rw[<-c];exact A3 _<|A3 _ e
  have x:∀b o,b≠g1.objs.size->s.heap.get? b=a7 o->g3.get? b=a7 o:=λb o i q=>by have y:=B b o q;rw[<-c];refine A3 _<|A3 _ ?_;rw[PM _ _ _ _ i];exact A3 _ y
  refine u8<|seqEpoch_at a rfl ?_;have r:∀us:List b7,us.length<2->(us.toArray.zip us.toArray).map (·.2)=us.toArray:=λus hu=>by
   match us,hu with
   | [],_=>simp
   | [v],_=>simp
   |_::_::_,hu=>simp at hu;lia
  have t:(arrOf<|SortSt.mk' general' (vs.toArray.zip vs.toArray) #[] 7 a8).map (·.2)=vs.toArray:=r vs h2;rw[t];refine u8 (listUpdate_at a rfl ?_ (D6 _)<|by rw[C8,Mh];lia);simp only[show failedOf (SortSt.mk' general' (vs.toArray.zip vs.toArray) #[] 7 a8)=a8 from rfl,bne_self_eq_false,C4,u4];refine v5 ⟨_,rfl,v5 ⟨_,rfl,?_⟩⟩;obtain⟨j,p⟩:∃j,(g3.update g1.objs.size<|L9 λ_=>vs.toArray).get? g1.objs.size=a7 (o6 "list" vs.toArray j):=⟨_,Qm a λ_=>vs.toArray⟩
  refine h g1.objs.size _ j (by lia) (λb o q=>?_) p;have i:b≠g1.objs.size:=A8 (by rw[z];exact N6<|A5 q);rw[PM _ _ _ _ i];exact x b o i q
end
structure SrtOk(M:v8)(xs:List D):Prop where
 len:xs.length<64
 ok:∀x∈xs,E5 x5 x=a9
 cm:∀x∈xs,∀y∈xs,iN M x5 x y=a9
 kd:(∀x∈xs,∃z,x=.str z)\/(∀x∈xs,∃i,x=.int i)\/(∀x∈xs,∃z r,x=.tup (.str z::r))\/(∀x∈xs,∃i r,x=.tup (.int i::r))\/(∀x∈xs,∃z r,x=.tup (.tup z::r))
structure SrtG(M:v8)(xs:List D):Prop where
 len:xs.length<64
 okd:∀x∈xs,z5 M x5 x=a9
 cm:∀x∈xs,∀y∈xs,iN M x5 x y=a9
 kd:(∀x∈xs,∃z,x=.str z)\/(∀x∈xs,∃i,x=.int i)\/(∀x∈xs,∃z r,x=.tup (.str z::r))\/(∀x∈xs,∃i r,x=.tup (.int i::r))\/(∀x∈xs,∃z r,x=.tup (.tup z::r))
 od:∃en:D->List Int,∀a∈xs,∀b∈xs,E2 M x5 a b=decide (en a<en b)
theorem SrtOk.g(o:SrtOk M xs):SrtG M xs:=⟨o.len,λx h=>Je M _ _<|o.ok x h,o.cm,o.kd,D8 x5,λa f b d=>md (o.ok a f) (o.ok b d)<|o.cm a f b d⟩
def uW(M:v8)(ys:List D):Prop:=ys.Pairwise λa b=>E2 M x5 b a=bt
def gQ:F7:=λds M Q=>match ds with
 | [.ref n]=>∃xs,ak M n xs/\SrtG M xs/\∀ys,ys.Perm xs->uW M ys->Q (.ref M.length) (M++[.lst ys])
 |_=>False
theorem Reps.perm{K:v9}{ρ:List c8}{H:Hp}{ds:List D}{vs:List V}(r:Reps K ρ H ds vs)(is:List Nat)(hi:∀i∈is,i<ds.length):Reps K ρ H (is.map λi=>ds.getD i .non) (is.map λi=>vs.getD i .non):=by
 induction is with
 |nil=>exact .nil
 |cons i is a=>have h:=hi i F5;obtain⟨v,e,d⟩:=r.get<|A4 h;refine .cons ?_<|a λj L=>hi j<|D4 _ L;show w5 K ρ H (ds.getD i .non) (vs.getD i .non);rw[LV,LV,e,A4 h];exact d
theorem az.perm(r:az vs us)(is:List Nat)(hi:∀i∈is,i<vs.length):az (is.map λi=>vs.getD i .non) (is.map λi=>us.getD i .none):=by
 induction is with
 |nil=>exact .nil
 |cons i is a=>have h:=hi i F5;obtain⟨v,e,d⟩:=ii r<|A4 h;refine .cons ?_<|a λj L=>hi j<|D4 _ L;show aL (vs.getD i .non) (us.getD i .none);rw[LV,LV,e,A4 h];exact d
instance:Inhabited D:=⟨.non⟩
section
variable{X:Cx}{pins:List (c8×c9)}{σ:St}{H:Hp}{s:e8}{ρ:List c8}{M:v8}
theorem FJ(o:HO)(x:bx P w H h a o):∃u,h.get? a=a7 u:=by
 cases o with
 |lst _=>obtain⟨_,_,_,_,e⟩:=x;exact⟨_,e⟩
 |tup _=>obtain⟨_,_,_,o,e,_⟩:=x;exact⟨o,e⟩
 |dK _=>obtain⟨_,_,_,_,_,_,_,e,_⟩:=x;exact⟨_,e⟩
 |dT _=>obtain⟨_,_,_,_,o,_,_,e,_⟩:=x;exact⟨o,e⟩
 |set _ _=>obtain⟨o,_,_,_,e,_⟩:=x;exact⟨_,e⟩
 |ins _ _ _=>obtain⟨_,_,_,e,_⟩:=x;exact⟨_,e⟩
 |own _=>exact x
 |xd _=>obtain⟨_,⟨_,_,_,e,_⟩,_⟩:=x;exact⟨_,e⟩
 |rng _ _=>obtain⟨_,_,_,e⟩:=x;exact⟨_,e⟩
 |frz _ _=>obtain⟨e,_⟩:=x;exact⟨_,e⟩
 |tbl _=>exact⟨_,x⟩
 |met _ _=>exact⟨_,x⟩
 |ext _=>obtain⟨_,e,_⟩:=x;exact e
theorem E6.none(x:E6 P w H h)(e:h.get? a=a8):H a=a8:=by
 cases q:H a with
 |none=>rfl
 |some o=>exfalso;obtain⟨u,g⟩:=FJ o<|x a o q;rw[e]at g;cases g
theorem FO(I:v4 X pins σ H s)(m:z6 X.K ρ M H)(n:Nat)(A:e7)(u:A.units+n<k7):∀(ds es:List D) (vs ws:List V) (its jts:List b7),Reps X.K ρ H ds vs->az vs its->Reps X.K ρ H es ws->az ws jts->ds.all (z5 M n)=a9->es.all (z5 M n)=a9 ->xQ (w4 M n) (iN M n) ds es=a9->LexAt A s its jts (pU (w4 M n) (E2 M n) ds es):=by
 intro ds;induction ds with
 |nil =>
  intro es vs ws its jts p b j g _ _ _;cases p;cases b;cases j with
  |nil=>cases g;exact .nn
  |cons _ _=>cases g;exact .nc
 |cons d ds hi =>
  intro es vs ws its jts p b j g B C k;cases p with
  |cons a p =>
   cases b with
   |cons f b =>
    cases j with
    |nil=>cases g;exact .cn
    |@cons e _ o _ c j =>
     cases g with
     |cons l g=>rw[Mi,G7]at B C;have i:=(mv I m n A d _ _ _ _ _ u a f c l B.1 C.1).1;rw[pU];rw[xQ]at k;by_cases q:w4 M n d e=a9;rw[q]at i;rw[t6 q]at k ⊢;exact .eq i<|hi _ _ _ _ _ p b j g B.2 C.2 k;have h:=MQ.mpr q;rw[h]at i;rw[t7 q]at k ⊢;exact .ne i<|Em I m n A _ _ _ _ _ _ u a f c l B.1 C.1 k
end
section
variable{prog:c7}{w:c6}{A:e7}{s:e8}{b:Bool}{Q:Bool->e8->Prop}
theorem CU(h:LexAt A s its jts k):∀(i:Nat),(b&&i==0)=bt->(b&&i+1==0)=bt->Q k s->KatLex prog w A b (decide<|its.length<jts.length) Q (its.zip jts) i s:=by
 have n:∀i:Nat,(b&&i+1==0)=bt:=λi=>by cases b<;>simp
 induction h with
 |nn=>intro i _ _ q;exact q
 |nc=>intro i _ _ q;exact(show Q (decide<|0<_+1) s by rw[dT_<|Nat.succ_pos _];exact q)
 |cn=>intro i _ _ q;exact(show Q (decide<|_+1<0) s by rw[dF_<|NI _];exact q)
 |@eq x y xs ys k e t a=>intro i d _ q;refine kat_cons<|e prog w _ _<|kat_yes ?_;have:=a (i+1) (n i) (n<|i+1) q;rw[show decide ((x::xs).length<(y::ys).length)=decide (xs.length<ys.length) by simp];exact this
 |@ne x y xs ys k e t=>intro i d _ q;refine kat_cons<|e prog w _ _<|kat_no ?_;rw[d];exact kat_one _ _<|t prog w _ _ q
theorem Ai(i:MB A s p q e)(g:e=bt->∀Q':Bool->e8->Prop,Q' l s->f8 (ge prog w) A (oneLt' (b&&0==0) p q) Q' (λ_ _=>False) s)(D:e=a9->LexAt A s its jts k)(h:Q (if e=a9 then k else l) s):KatLex prog w A b (decide<|(p::its).length<(q::jts).length) Q ((p::its).zip<|q::jts) 0 s:=by
 refine kat_cons<|i prog w _ _ ?_;cases e with
 |true=>refine kat_yes ?_;rw[show decide ((p::its).length<(q::jts).length)=decide (its.length<jts.length) by simp];exact CU (D rfl) 1 (by cases b<;>rfl) (by cases b<;>rfl) h
 |false=>exact kat_no<|g rfl _ h
end
section
variable{X:Cx}{pins:List (c8×c9)}{σ:St}{H:Hp}{s:e8}{ρ:List c8}{M:v8}
theorem rZ{M:Model}{h:d5}{x:c5}{t:Tok}:Looks M h (m9<|.str x t) (.type "str"):=Looks.of_pure rfl
theorem sd{M:Model}{h:d5}{x:Int}{t:Tok}:Looks M h (m9<|.int x t) (.type "int"):=Looks.of_pure rfl
theorem Reps.getD'(r:Reps X.K ρ H ds vs)(d:az vs its)(h:i<ds.length):∃v,w5 X.K ρ H (ds.getD i default) v/\aL v (its.getD i .none)/\ds.getD i default∈ds:=by obtain⟨v,e,b⟩:=r.get<|A4 h;obtain⟨u,a,T⟩:=ii d e;refine⟨v,?_,?_,?_⟩;rw[LV,A4 h];exact b;rw[LV,a];exact T;rw[LV,A4 h];exact Mm h
theorem Reps.mem(r:Reps X.K ρ H ds vs)(b:az vs its)(h:u∈its):∃d v,d∈ds/\w5 X.K ρ H d v/\aL v u:=by
 induction ds generalizing vs its with
 |nil=>cases r;cases b;cases h
 |cons g ds i =>
  cases r with
  |cons f r =>
   cases b with
   |cons e q=>rcases(A9 (a:=u)).mp h with rfl|h;exact⟨_,_,F5,f,e⟩;obtain⟨d,v,h1,h2,c⟩:=i r q h;exact⟨d,v,D4 _ h1,h2,c⟩
theorem uH(I:v4 X pins σ H s)(r:Reps X.K ρ H xs ws)(b:az ws its)(a:∀x∈xs,∃f r,x=.tup (f::r)):∃fs,KatTups s.heap its fs/\fs.length=its.length/\∀u∈fs,∃d v,w5 X.K ρ H d v/\aL v u/\∃r,D.tup (d::r)∈xs:=by
 induction xs generalizing ws its with
 |nil=>cases r;cases b;exact⟨[],.nil,rfl,λ_ z=>nomatch z⟩
 |cons d ds w =>
  cases r with
  |cons E r =>
   cases b with
   |cons A q =>
    obtain⟨fs,h1,h2,j⟩:=w r q λx h=>a x<|D4 _ h;obtain⟨f,aM,rfl⟩:=a d F5;cases E with
    |tup p c =>
     cases A;obtain⟨its,e,y,F⟩:=I.tuple p;cases c with
     |cons C c =>
      cases e with
      |cons i e=>obtain⟨o,B,k,n,m⟩:=y;refine⟨_::fs,.cons B k m rfl h1,by simp[h2],λu g=>?_⟩;rcases A9.mp g with rfl|g;exact⟨_,_,C,i,_,F5⟩;obtain⟨d,v,t,l,r',Q⟩:=j u g;exact⟨d,v,t,l,r',D4 _ Q⟩
noncomputable def ltc(M:v8)(xs:List D)(i j:Nat):Bool:=E2 M x5 (xs.getD i default)<|xs.getD j default
theorem rq(I:v4 X pins σ H s)(sm:z6 X.K ρ M H){xs:List D}{ws:List V}{its:List b7}(so:SrtG M xs)(r:Reps X.K ρ H xs ws)(J:az ws its)(h2:2<=its.length){A:e7}(P:A.units+x5<k7):f8 (ge X.prog X.w) A (keyKind' its.toArray) (λκ s'=>s'=s/\∀i j (C:Bool->e8->Prop),i<its.length->j<its.length->C (ltc M xs i j) s->kas_ask X.prog X.w A κ its i j C s) (λ_ _=>False) s:=by
 have lw:=r.length;have li:=J.length;have le:xs.length=its.length:=by lia
 have O:∀(b:Bool),(∀x∈xs,∃f r,x=.tup (f::r))->(∀(f g:D) (vf vg:V) (p q:b7) (r r':List D),D.tup (f::r)∈xs->D.tup (g::r')∈xs->w5 X.K ρ H f vf->aL vf p->w5 X.K ρ H g vg->aL vg q -> (w4 M 29 f g=bt->∀Q':Bool->e8->Prop,Q' (E2 M 29 f g) s->f8 (ge X.prog X.w) A (oneLt' (b&&0==0) p q) Q' (λ_ _=>False) s)) -> ∀i j (C:Bool->e8->Prop),i<its.length->j<its.length->C (ltc M xs i j) s->kas_ask X.prog X.w A (tuples' b) its i j C s:=by
  intro b F ab i j C hi hj E;unfold kas_ask;obtain⟨v1,c,m,U⟩:=r.getD' J (show i<xs.length by lia);obtain⟨v2,G,L,B⟩:=r.getD' J (show j<xs.length by lia);unfold ltc at E;have k1:=so.okd _ U;have k2:=so.okd _ B;have k3:=so.cm _ U _ B;generalize xs.getD i default=x at *;generalize xs.getD j default=y at *;obtain⟨f,rf,rfl⟩:=F _ U;obtain⟨g,rg,rfl⟩:=F _ B;cases c with
  |tup S rs =>
   cases G with
   |tup aS Z =>
    generalize its.getD i .none=u1 at *;generalize its.getD j .none=u2 at *;cases m;cases L;obtain⟨as,ra,pa,_⟩:=I.tuple S;obtain⟨bs,rb,pb,_⟩:=I.tuple aS;obtain⟨o,ho,_,n,hd⟩:=pa;obtain⟨o',aD,_,n',an⟩:=pb;refine kat_lt ho hd aD an ?_;cases rs with
    |cons a1 rs =>
     cases ra with
     |@cons _ p _ la b1 ra =>
      cases Z with
      |cons a2 Z =>
       cases rb with
       |@cons _ q _ lb b2 rb =>
        have ai:A.units+29<k7:=by have:x5=30:=rfl;lia
        have z1:z5 M 29 f=a9/\rf.all (z5 M 29)=a9:=by
         have:(f::rf).all (z5 M 29)=a9:=k1
         rwa [Mi,G7]at this
        have z2:z5 M 29 g=a9/\rg.all (z5 M 29)=a9:=by
         have:(g::rg).all (z5 M 29)=a9:=k2
         rwa [Mi,G7]at this
        have z3:(if w4 M 29 f g=a9 then xQ (w4 M 29) (iN M 29) rf rg else iN M 29 f g)=a9:=k3;have he:=(mv I sm 29 A _ _ _ _ _ _ ai a1 b1 a2 b2 z1.1 z2.1).1;have R:C (if w4 M 29 f g=a9 then pU (w4 M 29) (E2 M 29) rf rg else E2 M 29 f g) s:=E;cases W:w4 M 29 f g with
        |true=>rw[W]at he R z3;have:=Ai (prog:=X.prog) (w:=X.w) (b:=b) (Q:=C) (l:=a9) he (λz=>nomatch z) (λ_=>FO I sm 29 A ai _ _ _ _ _ _ rs ra Z rb z1.2 z2.2 z3) R;simpa using this
        |false=>rw[W]at he R;have:=Ai (prog:=X.prog) (w:=X.w) (b:=b) (Q:=C) (l:=E2 M 29 f g) (its:=la) (jts:=lb) (k:=a9) he (λ_=>ab f g _ _ _ _ _ _ U B a1 b1 a2 b2 W) (λz=>nomatch z) R;simpa using this
 have N:∀(κ:SortKind),(∀i j (C:Bool->e8->Prop),i<its.length->j<its.length->C (ltc M xs i j) s->kas_ask X.prog X.w A κ its i j C s)->(s=s/\∀i j (C:Bool->e8->Prop),i<its.length->j<its.length->C (ltc M xs i j) s->kas_ask X.prog X.w A κ its i j C s):=λκ h=>⟨rfl,h⟩
 have al:A.units+29<k7:=by have:x5=30:=rfl;lia
 rcases so.kd with a|a|a|a|a;refine kas_kind (T:=.type "str") h2 (λu P=>?_) (by decide) (by decide)<|N _ λi j C hi hj E=>?_;obtain⟨d,v,U,c,m⟩:=r.mem J P;obtain⟨z,rfl⟩:=a d U;cases c;obtain⟨t,rfl⟩:=m;exact rZ;unfold kas_ask;obtain⟨v1,c,m,U⟩:=r.getD' J (show i<xs.length by lia);obtain⟨v2,G,L,B⟩:=r.getD' J (show j<xs.length by lia);unfold ltc at E;obtain⟨z,hz⟩:=a _ U;obtain⟨z',Y⟩:=a _ B;rw[hz]at c E;rw[Y]at G E;cases c;cases G;obtain⟨t,h1⟩:=m;obtain⟨t',h2⟩:=L;rw[h1,h2];exact kas_lt_str E;refine kas_kind (T:=.type "int") h2 (λu P=>?_) (by decide) (by decide)<|N _ λi j C hi hj E=>?_;obtain⟨d,v,U,c,m⟩:=r.mem J P;obtain⟨z,rfl⟩:=a d U;cases c;obtain⟨t,rfl⟩:=m;exact sd;unfold kas_ask;obtain⟨v1,c,m,U⟩:=r.getD' J (show i<xs.length by lia);obtain⟨v2,G,L,B⟩:=r.getD' J (show j<xs.length by lia);unfold ltc at E;obtain⟨z,hz⟩:=a _ U;obtain⟨z',Y⟩:=a _ B;rw[hz]at c E;rw[Y]at G E;cases c;cases G;obtain⟨t,h1⟩:=m;obtain⟨t',h2⟩:=L;rw[h1,h2];exact kat_lt_int E;obtain⟨fs,t1,t2,t3⟩:=uH I r J λx F=>(a x F).elim λz ⟨r,e⟩=>⟨_,_,e⟩
 refine kat_kind (T:=.type "str") t1 (by lia) (λu P=>?_) (by decide)<|N _<|O _ (λx F=>(a x F).elim λz ⟨r,e⟩=>⟨_,_,e⟩) λf g vf vg p q r r' U B c m G L S Q' h=>?_;obtain⟨d,v,c,m,r',U⟩:=t3 u P;obtain⟨z,aj,e⟩:=a _ U;cases e;cases c;obtain⟨t,rfl⟩:=m;exact rZ;obtain⟨z,_,e⟩:=a _ U;cases e;obtain⟨z',_,e'⟩:=a _ B;cases e';cases c;cases G;obtain⟨t,rfl⟩:=m;obtain⟨t',rfl⟩:=L;exact oneLt_str h;obtain⟨fs,t1,t2,t3⟩:=uH I r J λx F=>(a x F).elim λz ⟨r,e⟩=>⟨_,_,e⟩
 refine kat_kind (T:=.type "int") t1 (by lia) (λu P=>?_) (by decide)<|N _<|O _ (λx F=>(a x F).elim λz ⟨r,e⟩=>⟨_,_,e⟩) λf g vf vg p q r r' U B c m G L S Q' h=>?_;obtain⟨d,v,c,m,r',U⟩:=t3 u P;obtain⟨z,aj,e⟩:=a _ U;cases e;cases c;obtain⟨t,rfl⟩:=m;exact sd;obtain⟨z,_,e⟩:=a _ U;cases e;obtain⟨z',_,e'⟩:=a _ B;cases e';cases c;cases G;obtain⟨t,rfl⟩:=m;obtain⟨t',rfl⟩:=L;exact oneLt_int h;obtain⟨fs,t1,t2,t3⟩:=uH I r J λx F=>(a x F).elim λz ⟨r,e⟩=>⟨_,_,e⟩
 refine kat_kind (T:=.type "tuple") t1 (by lia) (λu P=>?_) (by decide)<|N _<|O _ (λx F=>(a x F).elim λz ⟨r,e⟩=>⟨_,_,e⟩) λf g vf vg p q r r' U B c m G L S Q' h=>?_;obtain⟨d,v,c,m,r',U⟩:=t3 u P;obtain⟨z,aj,e⟩:=a _ U;cases e;cases c with
 |tup S rs=>cases m;obtain⟨_,_,pl,_⟩:=I.tuple S;obtain⟨o,ho,E,_⟩:=pl;rw[<-E];exact(show Looks _ s.heap (m9<|.ref _) o.cls from(Looks.ld ho).andThen .now)
 have k1:z5 M 29 f=a9:=by have:(f::r).all (z5 M 29)=a9:=so.okd _ U;rw[Mi,G7]at this;exact this.1
 have k2:z5 M 29 g=a9:=by have:(g::r').all (z5 M 29)=a9:=so.okd _ B;rw[Mi,G7]at this;exact this.1
 have k3:(if w4 M 29 f g=a9 then xQ (w4 M 29) (iN M 29) r r' else iN M 29 f g)=a9:=so.cm _ U _ B;rw[S]at k3;exact kat_one _ _<|Em I sm 29 A _ _ _ _ _ _ al c m G L k1 k2 k3 _ _ _ _ h
end
section
variable{X:Cx}{pins:List (c8×c9)}{σ:St}{H:Hp}{s:e8}{ρ:List c8}{M:v8}
theorem IS(o:SrtG M xs):(∀a∈xs,E2 M x5 a a=bt)/\(∀a∈xs,∀b∈xs,∀d∈xs,E2 M x5 a b=a9->E2 M x5 b d=a9->E2 M x5 a d=a9)/\∀a∈xs,∀b∈xs,∀d∈xs,E2 M x5 a d=a9->E2 M x5 a b=a9\/E2 M x5 b d=a9:=by obtain⟨n,e⟩:=o.od;refine⟨λa f=>?_,λa f b c d g h1 h2=>?_,λa f b c d g h=>?_⟩;rw[e a f a f,dF_<|NG _];rw[e a f b c,t9]at h1;rw[e b c d g,t9]at h2;rw[e a f d g,t9];exact List.lt_trans h1 h2;rw[e a f d g,t9]at h;rw[e a f b c,e b c d g,t9,t9];by_cases z:n a<n b;exact .inl z;have G:n b<=n a:=z;exact .inr<|List.lt_of_le_of_lt G h
theorem BU{k:Nat}{l:c8}{xs:List D}{F:List V}{its:List b7}{R:VK}(hr:Room k X.A)(I:v4 X pins σ H s)(sm:z6 X.K ρ M H)(so:SrtG M xs)(r:Reps X.K ρ H xs F)(P:az F its)(Z:s.heap.IsList l its.toArray)(hz:F.length<=sizeLine)(h2:2<=its.length)(G:its.length<64)(E:l≠X.env.locals) (kk:∀v H',((∀Q:DK,(∀ys,ys.Perm xs->uW M ys->Q (.ref M.length) (M++[.lst ys]))->VQ X.K ρ H Q v H'))->R v H'):f8 (ge X.prog X.w) X.A (call (.builtin "sorted") [.ref l]) (EP X pins σ R) X.xe s:=by
 obtain⟨m,O,hm⟩:=I.loc;have lw:=r.length;have li:=P.length;obtain⟨ol,f,_⟩:=id Z;have g:∀a o,(a,o)∈[]++(l,ol)::Att.ledger s.heap X.env.locals l↔a≠X.env.locals/\s.heap.get? a=a7 o:=λa o=>by rw[LB,A9,Att.mem_ledger];constructor;rintro(h|⟨h1,_,h3⟩);cases h;exact⟨E,f⟩;exact⟨h1,h3⟩;rintro⟨h1,h2⟩;by_cases z:a=l;subst z;rw[f]at h2;cases h2;exact .inl rfl;exact .inr ⟨h1,z,h2⟩
 refine kat_sorted (Att.fr_all O) (Att.news_ledger E f) Z h2 G λD e1 h' T N lt=>?_;have kp:∀b u,b≠X.env.locals->s.heap.get? b=a7 u->h'.get? b=a7 u:=λb u J e=>(N (b,u)<|D4 _<|(g b u).mpr ⟨J,e⟩).1;have L:D≠X.env.locals:=(N _ F5).2.1;have W:s.heap.get? D=a8:=by
  cases q:s.heap.get? D with
  |none=>rfl
  |some o=>exact t8 (lt (D,o)<|(g D o).mpr ⟨L,q⟩)<|J4 _
 have I':v4 X pins σ H { s with heap:=h' }:=I.keptF (t':=s.toks) kp O T.ns;have hu:X.A.in1.in1.units+x5<k7:=by have:=hr.un;have:x5=30:=rfl;show X.A.units+1+1+x5<k7;lia
 refine G4 (rq I' sm so r P h2 hu) (λκ s' hk=>?_) λ_ _ x=>x;obtain⟨rfl,B⟩:=hk;refine Srt.wp_run (n:=its.length) (c:=λi j=>if i<xs.length then(if j<xs.length then E2 M x5 (xs.getD i default) (xs.getD j default)else a9)else bt) (λi j C hi hj Y=>?_) _ (Srt.sort_bd<|by lia).1 ?_;refine B i j C hi hj ?_;rw[t6 (by lia),t6<|by lia]at Y;exact Y;have t:=Srt.All.run (c:=λi j=>if i<xs.length then(if j<xs.length then E2 M x5 (xs.getD i default) (xs.getD j default)else a9)else bt) _ (Srt.sort_bd (n:=its.length)<|by lia).2;obtain⟨o1,o2,o3⟩:=IS so;have d:=Srt.sort_list xs (by lia) o1 o2 o3
 try dsimp only at d
 rw[show xs.length=its.length by lia]at d t ⊢;generalize Srt.run _ (ND its.length)=p at t d ⊢;have hi:∀i∈p.toList,i<xs.length:=λi h=>by have:=t.mem_iff.mp h;rw[K6]at this;lia
 refine KasFin.intro T N (UpdF.head λq hq=>A8<|lt q hq) λh2 c F2 U=>?_;have r':=r.perm p.toList hi;have S:=P.perm p.toList (λi h=>by have:=hi i h;lia);have y:H D=a8:=E6.none I.hok W;refine⟨.ref D,_,I.laidF (t':=s.toks) (o:=.lst<|p.toList.map λi=>F.getD i .non) (λb u J e=>(U (b,u)<|D4 _<|(g b u).mpr ⟨J,e⟩).1) O F2.ns W y ⟨?_,_,c,S,(U _ F5).1⟩,rfl,kk _ _ λQ hQ=>VQ.laidL sm .refl r' y<|hQ _ d.1 d.2⟩;rw[x6];have:=d.1.length_eq;rw[x6]at this;lia
end
theorem v4.sqL_ne(I:v4 X pins σ H s)(h:J7 X.K H a xs):a≠X.env.locals:=by
 rcases h with h|⟨o,its,n,k,_⟩
 rcases h with h|⟨_,h⟩
 exact ad h I.free;exact ad h I.free;have:=A5<|I.mod.kin a o k;exact A8<|J1 this<|K3 I.ok.bsz I.ok.above
section
variable{X:Cx}
theorem AZ(i:Room k X.A):jt X (.builtin "sorted") gQ:=by
 rintro p s σ H vs us R I j ⟨ds,M,ρ,Q,m,rs,q,c⟩;unfold gQ at q;split at q;obtain⟨xs,L,f,q⟩:=q;cases rs with
 |cons r1 rs =>
  cases rs;obtain⟨u,rfl,t⟩:=az.one j;cases r1 with
  |ref e =>
   cases t;obtain⟨w,b,r⟩:=ak.seq m L e;obtain⟨its,d,l,z⟩:=I.list b;have C:=r.length;have y:=d.length;by_cases h2:its.length<2;refine rj l.isList h2 λD h' n a g B=>?_;refine⟨.ref D,_,I.laid (t':=s.toks) (o:=.lst w) g a ⟨z,its,n,d,B⟩,rfl,c _ _<|VQ.laidL m .refl r (I.hok.fresh a)<|q xs (Om _) ?_⟩;unfold uW
   match xs,(show xs.length<2 by lia) with
   | [],_=>exact QA
   | [x],_=>exact RD _ _
   |_::_::_,hx=>simp at hx;lia
   have h:2<=its.length:=by lia
   have G:its.length<64:=by have:=f.len;lia
   exact BU i I m f r d l.isList z h G (I.sqL_ne b) λv H' x=>c v H'<|x Q q
 exact q.elim
end
section
variable{prog:c7}{w:c6}{A:e7}{E:b7->e8->Prop}{s:e8}
theorem rR(h:s.heap.IsTupleIter it t i)(D:s.heap.IsTuple t items)(a:items[i]?=a7 x)(b:∀h',h'.IsTupleIter it t (i+1)->J3 it s.heap h'->Q x { s with heap:=h' }):f8 (ge prog w) A (Oa<|.ref it) Q E s:=by obtain⟨o,B,c,d⟩:=id h;obtain⟨e,f,_,n,l⟩:=D;unfold Oa;refine u8<|Mo (name:=v6 "__next__") h.typeIs F.slot_tuple_iterator_next<|K4 F.slot_tuple_iterator_next h.typeIs F.entry_tuple_iterator_next ?_<|F.args_tuple_iterator_next_1<|.ref it;refine(show f8 (ge prog w) _ (field (.ref it) 0 >>= _) _ _ s from u8<|Ls B d (x:=.ref t) rfl ?_);refine(show f8 (ge prog w) _ (if (F6 t==K1)=a9 then _ else field (.ref it) 1 >>= _) _ _ s from ?_);rw[t7<|show ¬(F6 t==K1)=a9 from Nw];refine u8<|Ls B d (x:=.int i 0) rfl<|show f8 (ge prog w) _ (seqItems? (.ref t) >>= _) _ _ s from u8<|Mc f l ?_;simp only[Lv,a];refine u8<|Nc B d (by simp)<|v5 ⟨x,rfl,v5<|b _ ⟨_,LO _ B<|Obj.isFreed_of_fields<|QE d _,(Obj.cls_mapFields ..).trans c,?_⟩<|LN ..⟩;rw[QE d];simp[j5]
theorem jY(b:A.handled=a8)(h:s.heap.IsTupleIter it t i)(D:s.heap.IsTuple t items)(g:items[i]?=a8)(c:∀h' e,Heap.ExtBut it s.heap h'->(∃o,h'.get? e=a7 o/\o.cls=.type "StopIteration")->E (.ref e) { s with heap:=h' }):f8 (ge prog w) A (Oa<|.ref it) Q E s:=by
 obtain⟨o,B,j,d⟩:=id h;obtain⟨k,f,_,n,l⟩:=D;unfold Oa;refine u8<|Mo (name:=v6 "__next__") h.typeIs F.slot_tuple_iterator_next<|K4 F.slot_tuple_iterator_next h.typeIs F.entry_tuple_iterator_next ?_<|F.args_tuple_iterator_next_1<|.ref it;refine(show f8 (ge prog w) _ (field (.ref it) 0 >>= _) _ _ s from u8<|Ls B d (x:=.ref t) rfl ?_);refine(show f8 (ge prog w) _ (if (F6 t==K1)=a9 then _ else field (.ref it) 1 >>= _) _ _ s from ?_);rw[t7<|show ¬(F6 t==K1)=a9 from Nw];refine u8<|Ls B d (x:=.int i 0) rfl<|show f8 (ge prog w) _ (seqItems? (.ref t) >>= _) _ _ s from u8<|Mc f l ?_;simp only[Lv,g];refine u8<|Lz<|u8<|Nc B d (by simp)<|show f8 (ge prog w) _ (newExc (.type "StopIteration") [] >>= _) _ _ _ from u8 ?_;simp only[newExc,newTuple];refine u8 (Lu (u8 (m:=o7 _ _)<|OE (a:=K1) (by first|rfl|(simp only[o7];rfl))<|Lu ?_<|by size_fits)<|by size_fits);simp only[raiseNew];refine u8<|wpAny_handled ?_
 first|rw[show A.in1.handled=a8 from b]|rw[b]
 exact u8<|v5<|wpAny_throw<|c _ _ (((LN ..).extBut.push _).push _)<|⟨_,C7 _ rfl,rfl⟩
end
theorem uN(g:A.handled=a8)(it t:c8)(c:t≠it)(a:Array b7):Draws prog w A it [it,t] a.size (λi v=>a[i]?=a7 v) (λi h=>h.IsTupleIter it t i/\h.IsTuple t a) where
 live:=λ_ _ ⟨⟨o,B,_⟩,_⟩=>⟨o,B⟩
 frame:=λ_ _ _ ⟨h1,o,e,r⟩ k=>⟨h1.at λo e=>k it (F5) o e,o,k t (by simp) o e,r⟩
 item:=λi s Q E hi ⟨h1,h2⟩ f=>by refine rR h1 h2 (x:=a[i]) (K5 hi) λh' b u=>f _ h' s.toks (K5 hi) ⟨b,?_⟩ u;obtain⟨o,e,r⟩:=h2;exact⟨o,u.extBut _ _ c e,r⟩
 done:=λs Q E ⟨h1,h2⟩ d=>jY g h1 h2 (OV<|x9 _) d
structure ZA(z TI TO i1 i2:c8)(f1 f2:List c8):Prop where
 nd:[z,TI,TO,i1,i2].Nodup
 z1:z∉f1
 o1:TO∉f1
 y1:i2∉f1
 z2:z∉f2
 o2:TO∉f2
 x2:i1∉f2
theorem dJ{prog:c7}{w:c6}{A:e7}{it c:c8}{fp:List c8}{n k:Nat}{P:Nat->b7->Prop}{St:Nat->d5->Prop}{h h':d5}(D:Draws prog w A it fp n P St)(f:c∉fp)(hs:Heap.ExtBut c h h')(st:St k h):St k h':=D.frame k h h' st λb d o e=>hs b o (λq=>f<|q ▸ d) e
section
variable{prog:c7}{w:c6}{A:e7}{E:b7->e8->Prop}{s:e8}{z TI TO i1 i2:c8}{f1 f2:List c8}{n1 n2 k:Nat}{P1 P2:Nat->b7->Prop}{S1 S2:Nat->d5->Prop}{a b:b7}
theorem Bw{Q:b7->e8->Prop}(D:Draws prog w A i1 f1 n1 P1 S1)(p:Draws prog w A i2 f2 n2 P2 S2)(Z:ZA z TI TO i1 i2 f1 f2)(hz:IsZip s.heap z TI TO .none)(I:o8 s.heap TI (.ref i1) (.ref i2))(J:o8 s.heap TO a b)(L:S1 k s.heap) (S:S2 k s.heap) (l1:k<n1) (l2:k<n2)(hQ:∀h' tk x y T,P1 k x->P2 k y->s.heap.objs.size<=T->IsZip h' z TI TO (j5 T)->o8 h' TO x y->S1 (k+1) h'->S2 (k+1) h'->o8 h' T x y->(∀c o,c≠z->c≠TO->c≠i1->c≠i2->s.heap.get? c=a7 o->h'.get? c=a7 o)->Q (.ref T) { s with heap:=h',toks:=tk }):f8 (ge prog w) A (Builtin.«zip.__next__» ⟨[.ref z],[]⟩) (λfin s'=>∃v,fin=.done (.ret v)/\Q v s') E s:=by
 have X:=Z.nd;simp only[LK,A9,Me,or_false,not_or]at X;obtain⟨⟨ai,O,P,R⟩,⟨U,V,W⟩,⟨r,t⟩,ab,_⟩:=X;refine(show f8 (ge prog w) A (field (.ref z) 2 >>= _) _ _ _ from u8<|Ls hz rfl (x:=.bool bt) rfl ?_);refine(show f8 (ge prog w) A (field (.ref z) 3 >>= _) _ _ _ from u8<|Ls hz rfl (x:=.ref TI) rfl<|u8<|Mc I rfl ?_);refine(show f8 (ge prog w) A (Q3 (.ref z) >>= _) _ _ _ from u8 ?_);unfold Q3;refine u8<|Ls hz rfl (x:=K1) rfl<|v5 ?_;simp only[u5];refine u8<|Lz<|u8<|Ls hz rfl (x:=.ref TO) rfl<|u8<|MR hz (by simp) λh₁ (hz₁:IsZip h₁ z TI TO .ellipsis) hs₁=>u8 ?_;simp only[List.zipIdx_cons,List.zipIdx_nil,Pu,List.forIn_nil];refine u8<|u8<|Pm<|show f8 (ge prog w) A (Oa (.ref i1) >>= _) _ _ _ from u8 ?_;refine D.item k _ _ _ l1 (dJ D Z.z1 hs₁.extBut L) λx u M px m h=>v5 ?_;have f:o8 u TO a b:=h.extBut _ _ r<|hs₁.extBut _ _ (A7 O) J;refine u8<|Mc f rfl<|u8<|wpAny_updateSeq_pair f λh₃ (hTO₃:o8 h₃ TO x b) hs₃=>u8<|wpAny_letGo<|v5 ?_;refine u8<|u8<|Pm<|show f8 (ge prog w) A (Oa (.ref i2) >>= _) _ _ _ from u8 ?_;refine p.item k _ _ _ l2 (dJ p Z.o2 hs₃.extBut<|dJ p Z.x2 h.extBut<|dJ p Z.z2 hs₁.extBut S) λy B N py n d=>v5 ?_;have g:o8 B TO x b:=d.extBut _ _ t hTO₃;refine u8<|Mc g rfl<|u8<|wpAny_updateSeq_pair g λh₅ (hTO₅:o8 h₅ TO x y) hs₅=>u8<|wpAny_letGo<|v5<|v5 ?_;refine u8<|Mc hTO₅ rfl<|u8<|wpAny_newTuple ?_;have i:IsZip h₅ z TI TO .ellipsis:=hs₅.extBut _ _ O<|d.extBut _ _ R<|hs₃.extBut _ _ O<|h.extBut _ _ P hz₁;have kp:∀c o,c≠z->c≠TO->c≠i1->c≠i2->s.heap.get? c=a7 o->h₅.get? c=a7 o:=λc o j C G H e=>hs₅.extBut _ _ C<|d.extBut _ _ H<|hs₃.extBut _ _ C<|h.extBut _ _ G<|hs₁.extBut _ _ j e;have sz:h₅.objs.size=s.heap.objs.size:=by rw[hs₅.1,d.1,hs₃.1,h.1];exact hs₁.1
 have t1:=dJ D Z.o1 hs₅.extBut<|dJ D Z.y1 d.extBut<|dJ D Z.o1 hs₃.extBut m;have t2:=dJ p Z.o2 hs₅.extBut n;refine(show f8 (ge prog w) A (R7 (.ref z) (.ref h₅.objs.size) >>= _) _ _ _ from u8 ?_);unfold R7;have l:IsZip (h₅.push { cls:=.type "tuple",data:=.seq #[x,y] }) z TI TO .ellipsis:=A3 _ i;refine u8<|MR l (by simp) λh₇ (hz₇:IsZip h₇ z TI TO (j5 h₅.objs.size)) hs₇=>MR hz₇ (by simp) λh₈ (hz₈:IsZip h₈ z TI TO (j5 h₅.objs.size)) hs₈=>?_;have F:∀c o,c≠z->h₅.get? c=a7 o->h₈.get? c=a7 o:=λc o j e=>hs₈.extBut _ _ j<|hs₇.extBut _ _ j<|A3 _ e;have Y:h₅.objs.size≠z:=MJ<|A5 i;refine v5 ⟨_,rfl,hQ h₈ _ x y h₅.objs.size px py (Nat.le_of_eq sz.symm) hz₈ (F _ _ (A7 O) hTO₅) ?_ ?_ (hs₈.extBut _ _ Y<|hs₇.extBut _ _ Y<|C7 _ rfl) λc o j C G H e=>F c o j<|kp c o j C G H e⟩;exact D.frame _ _ _ t1 λc K o e=>F c o (λq=>Z.z1<|q ▸ K) e;exact p.frame _ _ _ t2 λc K o e=>F c o (λq=>Z.z2<|q ▸ K) e
theorem By{Q:Fin->e8->Prop}(D:Draws prog w A i1 f1 n1 P1 S1)(v:Draws prog w A i2 f2 n2 P2 S2)(Z:ZA z TI TO i1 i2 f1 f2)(hz:IsZip s.heap z TI TO .none)(I:o8 s.heap TI (.ref i1) (.ref i2))(J:o8 s.heap TO a b)(L:S1 k s.heap) (S:S2 k s.heap) (Y:k=n1\/(k<n1/\k=n2))(H:∀h' tk e,(∀c o,c≠z->c≠TO->c≠i1->c≠i2->s.heap.get? c=a7 o->h'.get? c=a7 o)->(∃o,h'.get? e=a7 o/\o.cls=.type "StopIteration")->E (.ref e) { s with heap:=h',toks:=tk }):f8 (ge prog w) A (Builtin.«zip.__next__» ⟨[.ref z],[]⟩) Q E s:=by
 have X:=Z.nd;simp only[LK,A9,Me,or_false,not_or]at X;obtain⟨⟨ai,O,P,R⟩,⟨U,V,W⟩,⟨T,F⟩,ab,_⟩:=X;refine(show f8 (ge prog w) A (field (.ref z) 2 >>= _) _ _ _ from u8<|Ls hz rfl (x:=.bool bt) rfl ?_);refine(show f8 (ge prog w) A (field (.ref z) 3 >>= _) _ _ _ from u8<|Ls hz rfl (x:=.ref TI) rfl<|u8<|Mc I rfl ?_);refine(show f8 (ge prog w) A (Q3 (.ref z) >>= _) _ _ _ from u8 ?_);unfold Q3;refine u8<|Ls hz rfl (x:=K1) rfl<|v5 ?_;simp only[u5];refine u8<|Lz<|u8<|Ls hz rfl (x:=.ref TO) rfl<|u8<|MR hz (by simp) λh₁ (hz₁:IsZip h₁ z TI TO .ellipsis) hs₁=>u8 ?_;simp only[List.zipIdx_cons,List.zipIdx_nil,Pu,List.forIn_nil];refine u8<|u8<|Pm<|show f8 (ge prog w) A (Oa (.ref i1) >>= _) _ _ _ from u8 ?_;rcases Y with rfl|⟨l1,rfl⟩
 refine D.done _ _ _ (dJ D Z.z1 hs₁.extBut L) ?_;rintro p e h ⟨y,f,i⟩;have m:IsZip p z TI TO .ellipsis:=h _ _ P hz₁;have t:e≠z:=λq=>by subst q;rw[m]at f;cases f;simp at i
 exact MR m (by simp) λr _ d=>H r _ e (λc o u _ G _ q=>d.extBut _ _ u<|h _ _ G<|hs₁.extBut _ _ u q) ⟨y,d.extBut _ _ t f,i⟩;refine D.item k _ _ _ l1 (dJ D Z.z1 hs₁.extBut L) λx p M px C h=>v5 ?_;have g:o8 p TO a b:=h.extBut _ _ T<|hs₁.extBut _ _ (A7 O) J;refine u8<|Mc g rfl<|u8<|wpAny_updateSeq_pair g λr (hTO₃:o8 r TO x b) d=>u8<|wpAny_letGo<|v5 ?_;refine u8<|u8<|Pm<|show f8 (ge prog w) A (Oa (.ref i2) >>= _) _ _ _ from u8 ?_;refine v.done _ _ _ (dJ v Z.o2 d.extBut<|dJ v Z.x2 h.extBut<|dJ v Z.z2 hs₁.extBut S) ?_;rintro B e j ⟨y,f,i⟩;have n:IsZip B z TI TO .ellipsis:=j _ _ R<|d.extBut _ _ O<|h.extBut _ _ P hz₁;have t:e≠z:=λq=>by subst q;rw[n]at f;cases f;simp at i
 exact MR n (by simp) λh₅ _ l=>H h₅ _ e (λc o u K G N q=>l.extBut _ _ u<|j _ _ N<|d.extBut _ _ K<|h.extBut _ _ G<|hs₁.extBut _ _ u q) ⟨y,l.extBut _ _ t f,i⟩
end
section
variable{X:Cx}{pins:List (c8×c9)}{σ:St}{H:Hp}{s:e8}{h':d5}
theorem v4.turnedL{t':Nat}{fp:List c8}(I:v4 X pins σ H s)(h:∀b∈fp,wI X pins H b)(k:∀b o,b∉fp->s.heap.get? b=a7 o->h'.get? b=a7 o):v4 X pins σ H { s with heap:=h',toks:=t' }:=by
 have p:∀b u,H b=a7 u->b∉fp:=λb u e z=>by rw[(h b z).1]at e;cases e
 refine I.step (g':=s.gens) (d':=s.drawn) (ch:=fp) (λb d=>⟨(h b d).2.2.2.1,(h b d).2.1,(h b d).2.2.2.2.1,(h b d).2.2.2.2.2⟩) (λb o _ _ f e _=>k b o f e) (λb o _ _ f e _=>⟨o.slots,k b o f e⟩) (λ_ _ _ _ n=>n) (λb o f e=>⟨o,k b o f e⟩) (λ_ _ e=>e) (λ_ _ _ e=>e) (λb ps e=>⟨#[],by rw[e];simp⟩) (λm a=>?_) (λb u e=>?_) I.bare;obtain⟨o,es,i,B,r⟩:=a;exact⟨o,es,i,k _ o (λz=>(h _ z).2.1 rfl) B,r⟩;refine(I.hok b u e).stay (λc v f q=>k c v ?_ q) (λ_ q=>q) λ_ _ q=>q;rcases f with rfl|z;exact p _ u e;exact p _ _ z
theorem v4.turnedT{t':Nat}{fp:List c8}{T:c8}{o:HO}(I:v4 X pins σ H s)(h:∀b∈fp,wI X pins H b)(k:∀b o,b∉fp->s.heap.get? b=a7 o->h'.get? b=a7 o)(j:s.heap.objs.size<=T)(i:bx X.prog X.w (A2 H T o) h' T o):v4 X pins σ (A2 H T o) { s with heap:=h',toks:=t' }:=by
 have a:H T=a8:=I.hok.fresh j;have g:∀b u,s.heap.get? b=a7 u->b≠T:=λb u e=>A8<|J1 (A5 e) j;have p:∀b u,H b=a7 u->b∉fp:=λb u e z=>by rw[(h b z).1]at e;cases e
 refine I.step (g':=s.gens) (d':=s.drawn) (ch:=fp) (λb d=>⟨(h b d).2.2.2.1,(h b d).2.1,(h b d).2.2.2.2.1,(h b d).2.2.2.2.2⟩) (λb o _ _ f e _=>k b o f e) (λb o _ _ f e _=>⟨o.slots,k b o f e⟩) (λb u _ e n=>by rw[au<|g b u e];exact n) (λb o f e=>⟨o,k b o f e⟩) (λb xs q=>by rw[au<|ad q a];exact q) (λb u xs q=>by rw[au<|ad q a];exact q) (λb ps q=>⟨#[],by rw[au<|ad q a,q];simp⟩) (λm t=>?_) (λb u e=>?_) I.bare;obtain⟨o,es,l,B,r⟩:=t;exact⟨o,es,l,k _ o (λz=>(h _ z).2.1 rfl) B,r⟩;by_cases d:b=T;subst d;rw[aJ]at e;cases e;exact i;rw[au d]at e;refine(I.hok b u e).stay (λc v f q=>k c v ?_ q) (λc q=>by rw[au<|ad q a];exact q) λc xs q=>by rw[au<|ad q a];exact q
 rcases f with rfl|z;exact p _ u e;exact p _ _ z
def Sq(t:Bool)(K:v9)(H:Hp)(a:c8)(xs:List V):Prop:=if t=a9 then C5 K H a xs else J7 K H a xs
def MW(t:Bool)(h:d5)(i l:c8)(k:Nat):Prop:=if t=a9 then h.IsTupleIter i l k else h.IsListIter i l k
def MF(t:Bool)(h:d5)(l:c8)(xs:Array b7):Prop:=if t=a9 then h.IsTuple l xs else h.IsList l xs
theorem MW.at(x:MW t h i l k)(e:∀o,h.get? i=a7 o->h'.get? i=a7 o):MW t h' i l k:=by
 cases t with
 |true=>exact(show h.IsTupleIter i l k from x).at e
 |false=>exact(show h.IsListIter i l k from x).at e
theorem MW.obj(x:MW t h i l k):∃o,h.get? i=a7 o/\∀v,o.data≠.cell v:=by
 cases t with
 |true =>
  obtain⟨o,e,c,d⟩:=(show h.IsTupleIter i l k from x)
  exact⟨o,e,λv z=>by rw[d]at z;cases z⟩
 |false =>
  obtain⟨o,e,c,d⟩:=(show h.IsListIter i l k from x)
  exact⟨o,e,λv z=>by rw[d]at z;cases z⟩
theorem Sq.is(I:v4 X pins σ H s)(h:Sq t X.K H a xs):∃its,az xs its/\MF t s.heap a its.toArray/\xs.length<=sizeLine:=by
 cases t with
 |true=>exact I.tuple<|show C5 X.K H a xs from h
 |false=>obtain⟨its,d,p,b⟩:=I.list<|show J7 X.K H a xs from h;exact⟨its,d,p.isList,b⟩
theorem Sq.inj(I:v4 X pins σ H s)(h:Sq t X.K H a xs)(h':Sq t X.K H a ys):xs=ys:=by
 cases t with
 |true=>exact I.tuple_inj h h'
 |false=>exact I.list_inj h h'
theorem Sq.ne(I:v4 X pins σ H s)(h:Sq t X.K H a xs)(f:wI X pins H b):a≠b:=by
 have c:∀o,X.K.lookup a=a7 o->a≠b:=λo k=>by have d:=I.mod.kin a o k;rcases f.2.2.2.1 with z|z;intro q;subst q;exact I.ok.noex a o d z;exact A8<|J1 (A5 d)<|K3 I.ok.bsz z
 cases t with
 |true =>
  rcases(show C5 X.K H a xs from h)with(h|⟨_,h⟩)|⟨o,its,n,k,_⟩
  exact ad h f.1;exact ad h f.1;exact c o k
 |false =>
  rcases(show J7 X.K H a xs from h)with(h|⟨_,h⟩)|⟨o,its,n,k,_⟩
  exact ad h f.1;exact ad h f.1;exact c o k
theorem iK(a:A.handled=a8)(t:Bool)(it l:c8)(b:l≠it)(s:Array b7):Draws prog w A it [it,l] s.size (λi v=>s[i]?=a7 v) (λi h=>MW t h it l i/\MF t h l s):=by
 cases t with
 |true=>exact uN a it l b s
 |false=>exact Draws.list a it l b s
noncomputable def RQ(K:v9)(t1 E:Bool)(b c:c8):It:=⟨λi H=>∃xs ys x y,Sq t1 K H b xs/\Sq E K H c ys/\xs[i]?=a7 x/\ys[i]?=a7 y,λi H v H'=>∃T x y,v=.ref T/\H T=a8/\H'=A2 H T (.tup [x,y])/\(∀xs,Sq t1 K H b xs->xs[i]?=a7 x)/\∀ys,Sq E K H c ys->ys[i]?=a7 y,λi H=>∃xs ys,Sq t1 K H b xs/\Sq E K H c ys/\(i=xs.length\/(i<xs.length/\i=ys.length))⟩
def RO(t1 E:Bool)(z TI TO c d l e:c8)(i:Nat)(h:d5):Prop:=IsZip h z TI TO .none/\o8 h TI (.ref c) (.ref d)/\(∃a b,o8 h TO a b)/\MW t1 h c l i/\MW E h d e i
theorem BK{P:c7}{w:c6}{K:v9}{Y:List f9}{x1:Nat}{pos:i0}{t1 t2:Bool}{z TI TO j l M G:c8}(nd:[z,TI,TO,j,l].Nodup):Turn P w K (.Tuple Y x1 pos) (RQ K t1 t2 M G) [z,TI,TO,j,l] z (RO t1 t2 z TI TO j l M G) where
 mem:=F5
 obj:=λi h ⟨u,g,⟨a,b,J⟩,h1,h2⟩ c d=>by simp only[A9,Me,or_false]at d;rcases d with rfl|rfl|rfl|rfl|rfl;exact⟨_,u,λv q=>nomatch q⟩;exact⟨_,g,λv q=>nomatch q⟩;exact⟨_,J,λv q=>nomatch q⟩;exact h1.obj;exact h2.obj
 keep:=λi h h' ⟨u,g,⟨a,b,J⟩,h1,h2⟩ k=>⟨k z (by simp) _ u,k TI (by simp) _ g,⟨a,b,k TO (by simp) _ J⟩,h1.at λo e=>k j (by simp) o e,h2.at λo e=>k l (by simp) o e⟩
 item:=by
  rintro X hP hw hK d i an s σ H E I S ⟨u,g,⟨a,b,J⟩,h1,h2⟩ ⟨xs,ys,x,y,n,p,hx,hy⟩;subst hP hw hK;obtain⟨us,ru,iu,bs⟩:=n.is I;obtain⟨vs,rv,iv,bM⟩:=p.is I;have lu:=ru.length;have lv:=rv.length;have f:=S;have C:=nd;simp only[LK,A9,Me,or_false,not_or]at C;obtain⟨⟨Q,as,L,R⟩,⟨U,V,W⟩,⟨r,t⟩,B,_⟩:=C;have a1:M≠j:=n.ne I (f j<|by simp);have a2:G≠l:=p.ne I (f l<|by simp);have Z:ZA z TI TO j l [j,M] [l,G]:=⟨nd,by simp[L,A7<|n.ne I<|f z<|by simp],by simp[r,A7<|n.ne I<|f TO<|by simp],by simp[A7 B,A7<|n.ne I<|f l<|by simp],by simp[R,A7<|p.ne I<|f z<|by simp],by simp[t,A7<|p.ne I<|f TO<|by simp],by simp[B,A7<|p.ne I<|f j<|by simp]⟩
  have ix:i<us.length:=by have:=(B6.mp hx).1;lia
  have iy:i<vs.length:=by have:=(B6.mp hy).1;lia
  have hT:s.TypeIs (.ref z) "zip":=⟨_,u,rfl⟩
  unfold j0;refine u8<|MM<|Mo (name:=v6 "__next__") hT F.slot_zip_next<|K4 F.slot_zip_next hT F.entry_zip_next ?_<|F.args_zip_next_1<|.ref z;refine Bw (k:=i) (iK (show X.A.in1.handled=a8 from I.ok.hd d) t1 j M a1 us.toArray) (iK (show X.A.in1.handled=a8 from I.ok.hd d) t2 l G a2 vs.toArray) Z u g J ⟨h1,iu⟩ ⟨h2,iv⟩ (by simpa using ix) (by simpa using iy) λh' tk px py T aj al D bl ab s1 s2 hp hk=>v5 ⟨_,rfl,?_⟩;refine wpAny_letOwnedTupleGo_zip bl λh2 bm m=>?_;have cd:T≠z:=λq=>by subst q;exact t8 (A5 u)<|Nat.not_lt_of_le D
  obtain⟨N,aD,bS⟩:=ru.get hx;obtain⟨O,aS,ca⟩:=rv.get hy;have e1:N=px:=by rw[Ry,aD]at aj;exact D0 aj
  have e2:O=py:=by rw[Ry,aS]at al;exact D0 al
  subst e1 e2;have bk:o8 h2 T N O:=m.extBut _ _ cd hp;refine⟨.ref T,A2 H T<|.tup [x,y],?_,rfl,⟨T,x,y,rfl,I.hok.fresh D,rfl,λzs hq=>by rw[hq.inj I n];exact hx,λzs hq=>by rw[hq.inj I p];exact hy⟩,⟨bm,m.extBut _ _ (A7 Q)<|hk _ _ (A7 Q) U V W g,⟨_,_,m.extBut _ _ (A7 as) ab⟩,s1.1.at λo e=>m.extBut _ _ (A7 L) e,s2.1.at λo e=>m.extBut _ _ (A7 R) e⟩,λc d=>?_⟩;refine I.turnedT (t':=tk) S (λc o d e=>?_) D ⟨by simp[Mh],[N,O],.cons bS<|.cons ca .nil,⟨_,bk,rfl,⟨0,rfl⟩,rfl⟩⟩;simp only[A9,Me,or_false,not_or]at d;exact m.extBut _ _ d.1<|hk _ _ d.1 d.2.2.1 d.2.2.2.1 d.2.2.2.2 e;obtain⟨oc,ec⟩:∃o,s.heap.get? c=a7 o:=by simp only[A9,Me,or_false]at d;rcases d with rfl|rfl|rfl|rfl|rfl;exact⟨_,u⟩;exact⟨_,g⟩;exact⟨_,J⟩;obtain⟨o,e,_⟩:=h1.obj;exact⟨o,e⟩;obtain⟨o,e,_⟩:=MW.obj ‹MW t2 s.heap _ G i›;exact⟨o,e⟩
  rw[au<|A8<|J1 (A5 ec) D];exact(S c d).1
 done:=by
  rintro X hP hw hK d i an s σ H E I S ⟨u,g,⟨a,b,J⟩,h1,h2⟩ ⟨xs,ys,n,p,ai⟩;subst hP hw hK;obtain⟨us,ru,iu,bs⟩:=n.is I;obtain⟨vs,rv,iv,bM⟩:=p.is I;have lu:=ru.length;have lv:=rv.length;have f:=S;have C:=nd;simp only[LK,A9,Me,or_false,not_or]at C;obtain⟨⟨Q,as,L,R⟩,⟨U,V,W⟩,⟨r,t⟩,B,_⟩:=C;have a1:M≠j:=n.ne I (f j<|by simp);have a2:G≠l:=p.ne I (f l<|by simp);have Z:ZA z TI TO j l [j,M] [l,G]:=⟨nd,by simp[L,A7<|n.ne I<|f z<|by simp],by simp[r,A7<|n.ne I<|f TO<|by simp],by simp[A7 B,A7<|n.ne I<|f l<|by simp],by simp[R,A7<|p.ne I<|f z<|by simp],by simp[t,A7<|p.ne I<|f TO<|by simp],by simp[B,A7<|p.ne I<|f j<|by simp]⟩
  have hT:s.TypeIs (.ref z) "zip":=⟨_,u,rfl⟩
  unfold j0;refine u8<|MM<|Mo (name:=v6 "__next__") hT F.slot_zip_next<|K4 F.slot_zip_next hT F.entry_zip_next ?_<|F.args_zip_next_1<|.ref z;refine By (k:=i) (iK (show X.A.in1.handled=a8 from I.ok.hd d) t1 j M a1 us.toArray) (iK (show X.A.in1.handled=a8 from I.ok.hd d) t2 l G a2 vs.toArray) Z u g J ⟨h1,iu⟩ ⟨h2,iv⟩ ?_ λh' tk e hk ⟨o,ho,be⟩=>?_;rw[C8,C8,<-lu,<-lv];exact ai;refine u8<|N0 (T:="StopIteration") (b:=a9) ⟨o,ho,be⟩ Pp<|v5 ⟨rfl,?_⟩;refine I.turnedL (t':=tk) S λc o d e=>?_;simp only[A9,Me,or_false,not_or]at d;exact hk _ _ d.1 d.2.2.1 d.2.2.2.1 d.2.2.2.2 e
 self:=λ_ _ _ _ _ st h=>wpAny_pyIter_zip st.1 h
end
noncomputable abbrev O6(t:Bool)(l:c8):c9:={ cls:=.type<|if t=a9 then "tuple_iterator" else "list_iterator",data:=.fields #[.ref l,.int 0 0] }
section
variable{prog:c7}{w:c6}{A:e7}{E:b7->e8->Prop}{s:e8}
theorem wm(h:MF t s.heap l xs)(q:Q (.ref s.heap.objs.size) { s with heap:=s.heap.push (O6 t l) }):f8 (ge prog w) A (j4<|.ref l) Q E s:=by
 cases t with
 |true=>exact wpAny_pyIter_tuple (show s.heap.IsTuple l xs from h) q
 |false=>exact Qz (show s.heap.IsList l xs from h) q
noncomputable abbrev P4(h:d5)(t1:Bool)(l1:c8):d5:=h.push<|O6 t1 l1
noncomputable abbrev P3(h:d5)(t1 t2:Bool)(l1 l2:c8):d5:=(P4 h t1 l1).push<|O6 t2 l2
noncomputable abbrev P0(h:d5)(t1 t2:Bool)(l1 l2:c8):d5:=(P3 h t1 t2 l1 l2).push { cls:=.type "tuple",data:=.seq #[.ref h.objs.size,.ref (P4 h t1 l1).objs.size] }
noncomputable abbrev PZ(h:d5)(t1 t2:Bool)(l1 l2:c8):d5:=(P0 h t1 t2 l1 l2).push { cls:=.type "tuple",data:=.seq #[.none,.none] }
noncomputable abbrev Ow(h:d5)(t1 t2:Bool)(l1 l2:c8):d5:=(PZ h t1 t2 l1 l2).push { cls:=.type "zip",data:=.fields #[.none,.bool bt,.bool bt,.ref (P3 h t1 t2 l1 l2).objs.size,.ref (P0 h t1 t2 l1 l2).objs.size] }
theorem MF.push(x:MF t h l xs)(o:c9):MF t (h.push o) l xs:=by
 cases t with
 |true=>obtain⟨u,e,r⟩:=(show h.IsTuple l xs from x);exact(show (h.push o).IsTuple l xs from⟨u,A3 _ e,r⟩)
 |false=>obtain⟨u,e,r⟩:=(show h.IsList l xs from x);exact(show (h.push o).IsList l xs from⟨u,A3 _ e,r⟩)
theorem Bx(t1 E:Bool)(b c:c8)(xs ys:Array b7):Meets (Builtin.«zip.__new__» ⟨[.type "zip",.ref b,.ref c],[]⟩) (λ_ R s=>MF t1 s.heap b xs/\MF E s.heap c ys/\R (.ok<|.ret<|.ref (PZ s.heap t1 E b c).objs.size) { s with heap:=Ow s.heap t1 E b c }):=.of_wp λp w A R s h=>by
  obtain⟨hp,g,d,q,o⟩:=s;obtain⟨a,f,h⟩:=h;have e:=sub_zip;have r:MF t1 (Shared.heap ⟨hp,g,d,q,o⟩) b xs:=a;have l:MF E (Shared.heap ⟨hp.push<|O6 t1 b,g,d,q,o⟩) c ys:=f.push _
  wp_walk using wm r,wm l
  exact⟨_,rfl,h⟩
theorem Bc(h1:MF t1 s.heap l1 xs)(h2:MF t2 s.heap l2 ys)(h:∀h',RO t1 t2 (s.heap.objs.size+4) (s.heap.objs.size+2) (s.heap.objs.size+3) s.heap.objs.size (s.heap.objs.size+1) l1 l2 0 h'->(∀c o,s.heap.get? c=a7 o->h'.get? c=a7 o)->Q (.ref<|s.heap.objs.size+4) { s with heap:=h' }):f8 (ge prog w) A (call (.type "zip") [.ref l1,.ref l2]) Q E s:=by
 refine callType_new F.called_zip (by decide) (F.typeCall_zip_2 _ _) (F.newCall_zip_2 _ _) (λj=>F.args_object_init_3 j _ _) F.entry_zip_new (Bx t1 t2 l1 l2 xs ys) ⟨h1,h2,?_⟩;have z:(P4 s.heap t1 l1).objs.size=s.heap.objs.size+1:=LJ ..;have b:(P3 s.heap t1 t2 l1 l2).objs.size=s.heap.objs.size+2:=by rw[LJ,z]
 have d:(P0 s.heap t1 t2 l1 l2).objs.size=s.heap.objs.size+3:=by rw[LJ,b]
 have m:(PZ s.heap t1 t2 l1 l2).objs.size=s.heap.objs.size+4:=by rw[LJ,d]
 have p:∀{h:d5}{c:c8}{o:c9} (u:c9),h.get? c=a7 o->(h.push u).get? c=a7 o:=λu e=>A3 _ e;have f:(Ow s.heap t1 t2 l1 l2).get? (PZ s.heap t1 t2 l1 l2).objs.size=a7 _:=C7 _ rfl;have i:(Ow s.heap t1 t2 l1 l2).get? (P0 s.heap t1 t2 l1 l2).objs.size=a7 _:=p _<|C7 _ rfl;have g3:(Ow s.heap t1 t2 l1 l2).get? (P3 s.heap t1 t2 l1 l2).objs.size=a7 _:=p _<|p _<|C7 _ rfl;have g:(Ow s.heap t1 t2 l1 l2).get? (P4 s.heap t1 l1).objs.size=a7 _:=p _<|p _<|p _<|C7 _ rfl;have g1:(Ow s.heap t1 t2 l1 l2).get? s.heap.objs.size=a7 _:=p _<|p _<|p _<|p _<|C7 _ rfl;have k:∀(t:Bool) (h:d5) (a l:c8),h.get? a=a7 (O6 t l)->MW t h a l 0:=λt h a l e=>by cases t<;>exact⟨_,e,rfl,rfl⟩
 show _/\_;rw[b,d,m]at f;rw[z,b]at g3;rw[d]at i;rw[z]at g;rw[m];exact⟨⟨_,f,rfl⟩,h _ ⟨f,g3,⟨_,_,i⟩,k _ _ _ _ g1,k _ _ _ _ g⟩ λc o q=>p _<|p _<|p _<|p _<|p _ q⟩
end
noncomputable def zipD(xs ys:List D):List D:=(xs.zip ys).map λp=>.tup [p.1,p.2]
def Bq(M:v8)(x:D)(xs:List D)(ok:v8->Prop):Prop:=match x with
 |.tup ds=>xs=ds/\ok=λ_=>True
 |.ref n=>ak M n xs/\ok=λM=>ak M n xs
 |_=>False
def dZip(t:G1):L8:=λS M R=>t S M λds a=>match ds with
 | [x,y]=>∃xs ys o1 o2,Bq a x xs o1/\Bq a y ys o2/\R ⟨zipD xs ys,λM=>o1 M/\o2 M⟩ a
 |_=>False
theorem DZ:d9 "zip" = a7 (.type "zip"):=by decide +kernel
section
variable{X:Cx}
theorem Bq.sq(m:z6 X.K ρ M H)(h:Bq M x xs ok)(r:w5 X.K ρ H x v)(e:aL v u):∃(t:Bool) (l:c8),u=.ref l/\ok M/\∀ρ' M' H',z6 X.K ρ' M' H'->Grow X.K ρ H ρ' H'->ok M'->∃vs,Sq t X.K H' l vs/\Reps X.K ρ' H' xs vs:=by
 unfold Bq at h;split at h;obtain⟨rfl,rfl⟩:=h;obtain⟨a,vs,rfl,q,r⟩:=w5.inv_tup r;cases e;exact⟨a9,a,rfl,trivial,λρ' M' H' s g _=>⟨vs,g.tup a vs q,r.grow g⟩⟩;obtain⟨h,rfl⟩:=h;cases r with
 |@ref n a f=>cases e;exact⟨bt,a,rfl,h,λρ' M' H' s g ok=>ak.seq s ok<|ap g.pre f⟩
 exact h.elim
theorem LZ.zip{ρ:List c8}{H:Hp}{xs ys:List D}{o1 o2:v8->Prop}{t1 E:Bool}{f j:c8}{K:v9}(h1:∀ρ' M' H',z6 K ρ' M' H'->Grow K ρ H ρ' H'->o1 M'->∃vs,Sq t1 K H' f vs/\Reps K ρ' H' xs vs) (h2:∀ρ' M' H',z6 K ρ' M' H'->Grow K ρ H ρ' H'->o2 M'->∃vs,Sq E K H' j vs/\Reps K ρ' H' ys vs):LZ K ⟨zipD xs ys,λM=>o1 M/\o2 M⟩ ρ H (RQ K t1 E f j) where
 go:=λi ρ' M' H' m g ok hi=>by
  obtain⟨vs,q,r⟩:=h1 ρ' M' H' m g ok.1;obtain⟨s,c,l⟩:=h2 ρ' M' H' m g ok.2;have v:i<xs.length/\i<ys.length:=by simpa [zipD,Nat.lt_min]using hi
  have t:=r.length;have k:=l.length;exact⟨vs,s,_,_,q,c,A4 (by lia),A4<|by lia⟩
 yld:=λi ρ' M' H' x A m g ok hi y=>by obtain⟨vs,q,r⟩:=h1 ρ' M' H' m g ok.1;obtain⟨s,c,l⟩:=h2 ρ' M' H' m g ok.2;obtain⟨T,a,b,rfl,h,rfl,n,o⟩:=y;obtain⟨d,p,w⟩:=r.getV<|n vs q;obtain⟨e,u,z⟩:=l.getV<|o s c;refine⟨.tup [d,e],ρ',?_,m.laid h,Grow.laid h,.tup (C5.of aJ)<|.cons (w.grow<|Grow.laid h)<|.cons (z.grow<|Grow.laid h) .nil⟩;show (zipD xs ys)[i]?=_;have:(xs.zip ys)[i]?=a7 (d,e):=List.getElem?_zip_eq_some.mpr ⟨p,u⟩;rw[zipD,E1,this];rfl
 stop:=λρ' M' H' m g ok=>by obtain⟨vs,q,r⟩:=h1 ρ' M' H' m g ok.1;obtain⟨s,c,l⟩:=h2 ρ' M' H' m g ok.2;have t:=r.length;have k:=l.length;refine⟨vs,s,q,c,?_⟩;show (zipD xs ys).length=_\/_;rw[zipD,x6,Ql];lia
theorem KL(E:X.mg "zip" = a8)(C:DA X [a,b] ta)(D:Gl X "zip":=by rfl)(hs:i4 [a,b] X.env=[(bt,eval a X.env),(bt,eval b X.env)]:=by rfl)(m:i4 [b] X.env=[(bt,eval b X.env)]:=by rfl):DI X (.Tuple elts x1 q) (.Call (.Name "zip" p) [a,b] [] pos) (dZip ta):=by
 intro i s σ H R I h;obtain⟨S,M,ρ,Q,Y,Z,F,k⟩:=h;refine Call_ (mh I D E DZ<|RJ (A1 (C pos i s σ H _ I ⟨S,M,ρ,_,Y,Z,F,λv H' w=>w⟩) ?_) (by rw[hs,m])<|by rw[m];rfl);rintro us e ⟨vs,H1,g,r,ds,n,f,j,g1,d,l⟩
 try dsimp only at l
 split at l;obtain⟨xs,ys,o1,o2,w1,w2,U⟩:=l
 first|have z:=Reps.inv_cons d|have z:=az.inv_cons d
 clear d;obtain⟨_,_,rfl,A,d⟩:=z
 first|have z:=Reps.inv_cons d|have z:=az.inv_cons d
 clear d;obtain⟨_,_,rfl,B,d⟩:=z;cases d
 first|have z:=Reps.inv_cons r|have z:=az.inv_cons r
 clear r;obtain⟨_,_,rfl,x,r⟩:=z
 first|have z:=Reps.inv_cons r|have z:=az.inv_cons r
 clear r;obtain⟨_,_,rfl,y,r⟩:=z;cases r;obtain⟨t1,l1,rfl,K,o⟩:=w1.sq j A x;obtain⟨t2,l2,rfl,L,N⟩:=w2.sq j B y;obtain⟨as,V,_⟩:=o f n H1 j .refl K;obtain⟨bs,W,_⟩:=N f n H1 j .refl L;obtain⟨is,_,G,_⟩:=V.is g;obtain⟨js,_,J,_⟩:=W.is g;refine Bc G J λh' u P=>?_;refine wpAny_pyIter_zip u.1 ?_;have T:[e.heap.objs.size+4,e.heap.objs.size+2,e.heap.objs.size+3,e.heap.objs.size,e.heap.objs.size+1].Nodup:=by simp
 refine⟨e.heap.objs.size+4,_,_,_,H1,rfl,g.kept (t':=e.toks) P,BK T,u,λc t=>?_,k _ H1 ⟨_,n,f,j,g1,LZ.zip o N,U⟩⟩;have O:e.heap.objs.size<=c:=by simp only[A9,Me,or_false]at t;rcases t with rfl|rfl|rfl|rfl|rfl<;>first|exact Px _ _|exact x9 _
 exact g.fpOk O<|g.hok.fresh O;exact l.elim
end
section
variable{X:Cx}
theorem rF{K:v9}{ρ:List c8}{H:Hp}:∀xs:List c5,Reps K ρ H (xs.map D.str) (xs.map V.str)
 | []=>.nil
 |x::xs=>.cons (.str x)<|rF xs
end
section
variable{prog:c7}{w:c6}{A:e7}{E:b7->e8->Prop}{s:e8}
theorem uu{D:c8}{vs:List b7}{n:Nat}{Q:b7->e8->Prop}(B:s.heap.get? D=a7 (o6 "list" vs.toArray n))(h2:vs.length<2)(h:∀h' c,(∀b o,b≠D->s.heap.get? b=a7 o->h'.get? b=a7 o)->h'.get? D=a7 (o6 "list" vs.toArray c)->Q .none { s with heap:=h' }):f8 (ge prog w) A (call (.builtin "list.sort") [.ref D]) Q E s:=by
 have f:vs.length<=sizeLine:=by rw[Mh];lia
 refine K4 slot_list_sort (⟨_,B,rfl⟩) entry_list_sort ?_<|args_list_sort<|.ref D;rw[list_sort_plain];refine u8<|listItems_at B rfl<|u8<|listUpdate_at B rfl ?_ (by rw[C8];exact f)<|D6 _;obtain⟨k,e⟩:∃k,(s.heap.update D<|L9 λ_=>(#[]:Array b7)).get? D=a7 (o6 "list" #[] k):=⟨_,Qm B λ_=>#[]⟩
 refine u8<|seqEpoch_at e rfl<|u8<|wpAny_newTuple (u8<|wpAny_newList (F8 ?_)<|D6 _) f;dsimp only;have g:vs.toArray.size<2:=by rw[C8];exact h2
 rw[t6 g,t6 g];refine u8<|v5 ?_;rw[StateT.run_pure];refine u8<|v5 ?_;dsimp only;generalize d:((s.heap.update D<|L9 λ_=>(#[]:Array b7)).push<|o6 "tuple" vs.toArray 0).push (o6 "list" #[] 0)=g3;have a:g3.get? D=a7 (o6 "list" #[] k):=by rw[<-d];exact A3 _<|A3 _ e
 have m:∀b o,b≠D->s.heap.get? b=a7 o->g3.get? b=a7 o:=λb o i q=>by rw[<-d];refine A3 _<|A3 _ ?_;rw[PM _ _ _ _ i];exact q
 refine u8<|seqEpoch_at a rfl ?_;have r:∀us:List b7,us.length<2->(us.toArray.zip us.toArray).map (·.2)=us.toArray:=λus hu=>by
  match us,hu with
  | [],_=>simp
  | [v],_=>simp
  |_::_::_,hu=>simp at hu;lia
 have t:(arrOf<|SortSt.mk' general' (vs.toArray.zip vs.toArray) #[] 7 a8).map (·.2)=vs.toArray:=r vs h2;rw[t];refine u8 (listUpdate_at a rfl ?_ (D6 _)<|by rw[C8];exact Nat.le_succ_of_le f);simp only[show failedOf (SortSt.mk' general' (vs.toArray.zip vs.toArray) #[] 7 a8)=a8 from rfl,bne_self_eq_false,C4,u4];obtain⟨j,l⟩:∃j,(g3.update D<|L9 λ_=>vs.toArray).get? D=a7 (o6 "list" vs.toArray j):=⟨_,Qm a λ_=>vs.toArray⟩
 refine v5 ⟨_,rfl,h _ j (λb o i q=>?_) l⟩;rw[PM _ _ _ _ i];exact m b o i q
end
section
variable{X:Cx}{pins:List (c8×c9)}{σ:St}{H:Hp}{s:e8}{ρ:List c8}{M:v8}
theorem tX{k:Nat}{D:c8}{xs:List L2.D}{P:List V}{its:List b7}{R:VK}{h1:d5}{tk n:Nat}{m:c5->Option b7}{A:e7}{E:b7->e8->Prop}(hr:Room k X.A)(hA:A.units<=X.A.units+4)(I:v4 X pins σ H s)(sm:z6 X.K ρ M H)(so:SrtG M xs)(r:Reps X.K ρ H xs P)(O:az P its)(T:s.heap.Ns X.env.locals m) (F:h1.Ns X.env.locals m) (l:∀b u,b≠X.env.locals->s.heap.get? b=a7 u->h1.get? b=a7 u) (L:s.heap.get? D=a8) (G:D≠X.env.locals) (ho:h1.get? D=a7 (o6 "list" its.toArray n))(kk:∀v H',((∀Q:DK,(∀ys,ys.Perm xs->uW M ys->Q (.ref M.length) (M++[.lst ys]))->VQ X.K ρ H Q v H'))->R v H'):f8 (ge X.prog X.w) A (call (.builtin "list.sort") [.ref D]) (λ_ s'=>EP X pins σ R (.ref D) s') E { s with heap:=h1,toks:=tk }:=by
 have lw:=r.length;have li:=O.length;have ab:=so.len;have N:H D=a8:=E6.none I.hok L;have y:∀b u,s.heap.get? b=a7 u->b≠D:=λb u e q=>by subst q;rw[L]at e;cases e
 by_cases h2:its.length<2;refine uu ho h2 λh' c J Y=>?_;have W:h'.Ns X.env.locals m:=by obtain⟨o,es,ep,e,aM⟩:=F;exact⟨o,es,ep,J _ _ (A7 G) e,aM⟩
 refine⟨.ref D,_,I.laidF (t':=tk) (o:=.lst P) (λb u g e=>J b u (y b u e)<|l b u g e) T W L N ⟨by rw[Mh];lia,its,c,O,Y⟩,rfl,kk _ _ λQ S=>VQ.laidL sm .refl r N<|S xs (Om _) ?_⟩;unfold uW
 match xs,(show xs.length<2 by lia) with
 | [],_=>exact QA
 | [x],_=>exact RD _ _
 |_::_::_,hx=>simp at hx;lia
 have z:2<=its.length:=by lia
 have f:∀a o,(a,o)∈Att.ledger h1 X.env.locals D↔a≠X.env.locals/\a≠D/\h1.get? a=a7 o:=λa o=>Att.mem_ledger;have U:UpdF D (o6 "list" its.toArray n) ([]++(D,o6 "list" its.toArray n)::Att.ledger h1 X.env.locals D) λo'=>(D,o')::Att.ledger h1 X.env.locals D:=UpdF.head λp hp=>((f p.1 p.2).mp hp).2.1;refine kat_lsort (s:={ s with heap:=h1,toks:=tk }) (vs:=its) (Att.fr_all F) (Att.news_ledger G ho) U rfl z (by lia) λe1 h' F' N'=>?_;have kp:∀b u,b≠X.env.locals->s.heap.get? b=a7 u->h'.get? b=a7 u:=λb u g e=>(N' (b,u)<|D4 _<|(f b u).mpr ⟨g,y b u e,l b u g e⟩).1;have I':v4 X pins σ H { s with heap:=h',toks:=tk }:=I.keptF (t':=tk) kp T F'.ns;have hu:A.in1.units+x5<k7:=by have:=hr.un;have:x5=30:=rfl;show A.units+1+x5<k7;lia
 refine G4 (rq I' sm so r O z hu) (λκ s' hk=>?_) λ_ _ x=>x;obtain⟨rfl,B⟩:=hk;refine Srt.wp_run (n:=its.length) (c:=λi j=>if i<xs.length then(if j<xs.length then E2 M x5 (xs.getD i default) (xs.getD j default)else a9)else bt) (λi j C hi hj hc=>?_) _ (Srt.sort_bd<|by lia).1 ?_;refine B i j C hi hj ?_;rw[t6 (by lia),t6<|by lia]at hc;exact hc;have t:=Srt.All.run (c:=λi j=>if i<xs.length then(if j<xs.length then E2 M x5 (xs.getD i default) (xs.getD j default)else a9)else bt) _ (Srt.sort_bd (n:=its.length)<|by lia).2;obtain⟨o1,o2,o3⟩:=IS so;have d:=Srt.sort_list xs (by lia) o1 o2 o3
 try dsimp only at d
 rw[show xs.length=its.length by lia]at d t ⊢;generalize Srt.run _ (ND its.length)=p at t d ⊢;have hi:∀i∈p.toList,i<xs.length:=λi h=>by have:=t.mem_iff.mp h;rw[K6]at this;lia
 refine KasFin.intro F' N' (UpdF.head λq hq=>((f q.1 q.2).mp hq).2.1) λh2 c F2 N2=>?_;have r':=r.perm p.toList hi;have Z:=O.perm p.toList (λi h=>by have:=hi i h;lia);refine⟨.ref D,_,I.laidF (t':=tk) (o:=.lst<|p.toList.map λi=>P.getD i .non) (λb u g e=>(N2 (b,u)<|D4 _<|(f b u).mpr ⟨g,y b u e,l b u g e⟩).1) T F2.ns L N ⟨?_,_,c,Z,(N2 _ F5).1⟩,rfl,kk _ _ λQ S=>VQ.laidL sm .refl r' N<|S _ d.1 d.2⟩;rw[x6];have:=d.1.length_eq;rw[x6]at this;rw[Mh];lia
end
section
variable{K:v9}{ρ:List c8}{H:Hp}{M:v8}
theorem z6.laidM(S:z6 K ρ M H)(hp:H p=a8)(ok:ya K (ρ++[p]) (A2 H p o) p mo):z6 K (ρ++[p]) (M++[mo]) (A2 H p o):=by
 have g:Grow K ρ H (ρ++[p]) (A2 H p o):=Grow.laidR hp;have d:∀(n:Nat),ρ[n]?=a7 p->LY M[n]?:=λn e=>by rcases S.tracked e with⟨o,q⟩|q;rw[hp]at q;cases q;exact q
 refine⟨λn m a h t l=>?_,by rw[E3,E3,S.len];rfl,λn a i t l=>?_⟩;rcases aW t with f|⟨f,g1⟩
 rcases aW l with N|⟨N,b⟩
 exact(S.nd n m a h f N).elim (λz=>.inl z.more) λz=>.inr z.more;subst b;exact .inl (d n f).more;rcases aW l with N|⟨N,b⟩
 subst g1;exact .inr (d m N).more;exact t8 (f.trans N.symm) h;rcases aW t with f|⟨f,g1⟩
 have c:n<M.length:=by rw[<-S.len];exact(B6.mp f).1
 rw[LF c]at l;exact(S.obj n a i f l).grow g<|S.keeps hp f l;subst g1 f;rw[S.len,Mp<|x9 _,No]at l;simp at l;subst l;exact ok
theorem C5.writtenD(hp:H p=a7 (.dK kv))(h:C5 K H a xs):C5 K (A2 H p o) a xs:=by
 rcases h with h|h;rcases h with h|⟨b,h⟩
 exact .inl (.inl<|by rw[au<|xm h hp<|by intro z;cases z];exact h);exact .inl<|.inr ⟨b,by rw[au<|xm h hp<|by intro z;cases z];exact h⟩;exact .inr h
theorem z6.writeD(S:z6 K ρ M H)(t:ρ[n]?=a7 a)(s:M[n]?=a7 (.dct kvs))(p:H a=a7 (.dK kv))(r:Reps K ρ H (kvs'.map (·.2)) vs'):z6 K ρ (M.set n<|.dct kvs') (A2 H a (.dK (eW (kvs'.map (·.1)) vs')))/\Grow K ρ H ρ (A2 H a (.dK (eW (kvs'.map (·.1)) vs'))):=by
 have g:Grow K ρ H ρ (A2 H a (.dK (eW (kvs'.map (·.1)) vs'))):=⟨Nd,λ_ _ h=>C5.writtenD p h⟩
 have k:∀m,m≠n->(M.set n<|.dct kvs')[m]?=M[m]?:=λm d=>LU<|A7 d;have c:¬LY M[n]?:=λ⟨_,z⟩=>by rw[s]at z;cases z
 refine⟨⟨λm j b e f N=>?_,by rw[Nv];exact S.len,λm b o f N=>?_⟩,g⟩;have q:=S.nd m j b e f N;by_cases h1:m=n;subst h1;rw[k j<|A7 e];exact .inr<|q.resolve_left c;rw[k m h1];by_cases h2:j=n;subst h2;exact .inl<|q.resolve_right c;rw[k j h2];exact q;by_cases d:m=n;subst d;have i:b=a:=D0<|f.symm.trans t;subst i;rw[L7<|by rw[<-S.len];exact(B6.mp t).1]at N;cases N;exact⟨vs',aJ,r.grow g⟩;rw[k m d]at N;by_cases i:b=a;subst i;have l:=(S.nd m n b d f t).resolve_right c;rw[N]at l;exact(S.obj m b o f N).grow g<|.inr l;exact(S.obj m b o f N).grow g<|.inl<|au i
noncomputable def dD(kvs:List (c5×D))(k:c5):Option D:=(kvs.find? λp=>decide<|p.1=k).map (·.2)
noncomputable def lG(kvs:List (c5×D))(k:c5)(d:D):List (c5×D):=if (kvs.any λp=>decide<|p.1=k)=a9 then kvs.map (λp=>if p.1=k then(p.1,d)else p)else kvs++[(k,d)]
theorem Gu(a b:c5):decide ((ABd a:F3)=ABd b)=decide (a=b):=Ey a b
theorem ij:∀{kvs:List (c5×D)}{vs:List V},Reps K ρ H (kvs.map (·.2)) vs->dD kvs k=a7 d->∃v,vk (eW (kvs.map (·.1)) vs) (ABd k)=a7 v/\w5 K ρ H d v
 | [],_,_,e=>by simp[dD]at e
 |(k',d')::kvs,_,.cons h t,e=>by
  by_cases q:k'=k;subst q;have:d'=d:=by simpa [dD]using e
  subst this;exact⟨_,by simp[eW,vk],h⟩;have e':dD kvs k=a7 d:=by simpa [dD,Md,q]using e
  obtain⟨v,h1,h2⟩:=ij t e';refine⟨v,?_,h2⟩;have:¬(ABd k':F3)=ABd k:=λz=>q<|Sum.inr.inj z;simpa [eW,vk,Md,this]using h1
theorem wB:∀{kvs:List (c5×D)}{vs:List V},Reps K ρ H (kvs.map (·.2)) vs->((eW (kvs.map (·.1)) vs).any λkv=>decide<|kv.1=ABd k)=kvs.any λp=>decide (p.1=k)
 | [],_,_=>rfl
 |(k',d')::kvs,_,.cons h t=>by
  have ih:=wB (k:=k) t;show (decide ((ABd k':F3)=ABd k)||(eW (kvs.map (·.1)) _).any _)=(decide (k'=k)||kvs.any _)
  rw[ih,Gu]
theorem wb(hd:w5 K ρ H d v):∀{kvs:List (c5×D)}{vs:List V},Reps K ρ H (kvs.map (·.2)) vs->∃vs',(eW (kvs.map (·.1)) vs).map (λkv=>if kv.1=ABd k then(kv.1,v)else kv)=eW ((kvs.map λp=>if p.1=k then(p.1,d)else p).map (·.1)) vs'/\Reps K ρ H ((kvs.map λp=>if p.1=k then(p.1,d)else p).map (·.2)) vs'
 | [],_,.nil=>⟨[],rfl,.nil⟩
 |(k',d')::kvs,_,.cons (v:=v') h t=>by obtain⟨vs',e,r⟩:=wb (k:=k) hd t;by_cases q:k'=k;subst q;refine⟨v::vs',?_,?_⟩;simp only[D7,u5,eW,Oq]at e ⊢;rw[e];simp only[D7,u5];exact .cons hd r;have q':¬(ABd k':F3)=ABd k:=λz=>q<|Sum.inr.inj z;refine⟨v'::vs',?_,?_⟩;simp only[D7,t7 q,t7 q',eW,Oq]at e ⊢;rw[e];simp only[D7,t7 q];exact .cons h r
theorem rA:∀{kvs:List (c5×D)}{vs:List V},Reps K ρ H (kvs.map (·.2)) vs->eW (kvs.map (·.1)) vs++[(ABd k,v)]=eW (kvs.map (·.1)++[k]) (vs++[v])
 | [],_,.nil=>rfl
 |(k',d')::kvs,_,.cons h t=>by have:=rA (k:=k) (v:=v) t;simp only[D7,eW,Oq,OP]at this ⊢;rw[this]
theorem ze(h:w5 K ρ H d v)(r:Reps K ρ H (kvs.map (·.2)) vs):∃vs',putK (eW (kvs.map (·.1)) vs) (ABd k) v=eW ((lG kvs k d).map (·.1)) vs'/\Reps K ρ H ((lG kvs k d).map (·.2)) vs':=by unfold putK lG;rw[wB r];by_cases q:(kvs.any λp=>decide<|p.1=k)=a9;rw[t6 q,t6 q];exact wb h r;rw[t7 q,t7 q];refine⟨vs++[v],?_,?_⟩;rw[rA r,L6];rfl;rw[L6];exact r.append<|.cons h .nil
end
section
variable{X:Cx}{o i value:f9}{td ty tv:A0}{pos pos':i0}
def DN:A0:=λ_ M Q=>Q (.ref M.length)<|M++[.dct []]
theorem La:DE X (.Dict [] [] pos) DN:=by refine PE.imp Cj ?_;rintro σ H R ⟨S,M,ρ,Q,s,c,q,k⟩;refine λp hp=>?_;have j:Q (.ref M.length) (M++[.dct []]):=q;exact k _ _ ⟨.ref M.length,M++[.dct []],ρ++[p],s.laidM (mo:=.dct []) hp ⟨[],aJ,.nil⟩,Grow.laidR hp,.ref s.last,j⟩
def xO(t b:A0):A0:=λS M Q=>t S M λx a=>b S a λy M2=>match x,y with
 |.ref n,.str k=>∃kvs d,M2[n]?=a7 (.dct kvs)/\dD kvs k=a7 d/\Q d M2
 |_,_=>False
theorem Lb(p:X.A.units+1<k7)(B:DE X o td)(hi:DE X i ty)(hs:EG i):DE X (.Subscript o i pos) (xO td ty):=by
 refine PE.imp (zj p B hi hs) ?_;rintro σ H R ⟨S,M,ρ,Q,s,r,q,k⟩;refine⟨S,M,ρ,_,s,r,q,?_⟩;rintro v H1 ⟨d,h,c,F,g1,C,y⟩;refine⟨S,h,c,_,F,r.grow g1,y,?_⟩;rintro u G ⟨e,M2,a,n,f,D,g⟩
 try dsimp only at g
 split at g;obtain⟨kvs,d,l,x,z⟩:=g;obtain⟨_,rfl,m⟩:=w5.inv_ref C;cases D;obtain⟨vs,j,E⟩:=n.obj _ _ _ (ap f.pre m) l;obtain⟨w,t,b⟩:=ij E x;exact⟨_,w,rfl,.inl ⟨_,ABd _,.inl j,rfl,t.symm⟩,k _ _ ⟨d,M2,a,n,g1.trans f,b,z⟩⟩;exact g.elim
theorem Af:∀{kvs:List (c5×D)}{vs:List V}{us:List (F3×b7)},kvs.length=vs.length->KV (eW (kvs.map (·.1)) vs) us->us.map (·.1)=kvs.map (λp=>(ABd p.1:F3))
 | [],_,_,_,h=>by cases h;rfl
 |_::_,[],_,e,_=>by simp at e
 |p::kvs,v::vs,_,e,h=>by
  have h':KV ((ABd p.1,v)::eW (kvs.map (·.1)) vs) _:=h;cases h' with
  |cons a t=>rw[D7,D7,<-a.1,Af (by simpa using e) t]
end
structure Qe(X:Cx)(es:List f9)(t:EH):Prop where
 ok:Pi X es t
section
variable{X:Cx}{e a b c o i tg:f9}{es aM:List f9}{te ta tb tc to ti:A0}{t:G1}{pos p p2 pos':i0}{x:c5}{k:Nat}{g:Ly}{u:EH}{name:c5}{apos cpos:i0}
theorem Gg:Qe X [] dN:=⟨GU⟩
theorem CQ(h1:HG X e g)(h2:Qe X es u)(hs:(i9 (e::es) X.env).map (·.2)=i8 e X.env::(i9 es X.env).map (·.2):=by kernel_rfl):Qe X (e::es) (aA g u):=⟨DC h1.ok h2.ok hs⟩
theorem JF(h:Qe X es u)(f:X.calm=a9:=by kernel_rfl)(a:(i9 es X.env).length=n:=by kernel_rfl)(c:(i9 es X.env).findIdx? (·.1)=a8:=by kernel_rfl):HG X (.Tuple es j pos) (dL n u):=⟨KN h.ok f a c⟩
theorem JG(B:HE X o to)(hi:HE X i ti)(f:∀v,i8 (.Subscript o i pos) X.env v=(do
   let ov <-i6 [v] (eval o X.env)
   let iv <-i6 [v,ov] (eval i X.env)
   standAt pos
   i6 [v,ov,iv] (setItem ov iv v)
   release [v,ov,iv] []):=by intro _;kernel_rfl):HG X (.Subscript o i pos) (AL to ti):=⟨KO B.ok hi.ok f⟩
theorem Ew(i:HE X e te)(R:HG X tg g)(hs:swapsWithSole [tg] e pos.line X.env=pure bt:=by kernel_rfl)(w:swappedStores [tg] e X.env=pure a8:=by kernel_rfl)(h1:(i9 [tg] X.env).map (·.2)=[i8 tg X.env]:=by kernel_rfl):HS X (.Assign [tg] e pos) (Ld te g):=⟨KJ i.ok R.ok hs w h1⟩
theorem JD(d:X.mg "zip" = a8)(f:HA X [a,b] t)(R:X.env.kindOf "zip" = a7 .globalImplicit:=by kernel_rfl)(hs:i4 [a,b] X.env=[(bt,eval a X.env),(bt,eval b X.env)]:=by kernel_rfl)(m:i4 [b] X.env=[(bt,eval b X.env)]:=by kernel_rfl):HI X (.Tuple es x1 q) (.Call (.Name "zip" p) [a,b] [] pos) (dZip t):=⟨KL d f.ok R hs m⟩
theorem GA:H9 X (j7 .Add) aK:=⟨FI⟩
theorem GC:HC X (.type "list") xa:=⟨Hh⟩
theorem Dj:HC X (.type "tuple") eV:=⟨DR⟩
theorem JT:HE X (.Dict [] [] pos) DN:=⟨La⟩
theorem vT(i:Room k X.A):X.A.units+1<k7:=by have:=i.un;lia
theorem JU(r:Room k X.A)(B:HE X o to)(hi:HE X i ti)(hs:EG i:=by intro _ _;kernel_rfl):HE X (.Subscript o i pos) (xO to ti):=⟨Lb (vT r) B.ok hi.ok hs⟩
end
theorem z9.never{P:c7}{w:c6}{K:v9}{mg:c5->Option b7}{base:d5}{k:Nat}{x:c5}{st:i5}{ps:List c5}{c:B5}(F:cy K mg x st ps)(h:∀ds M R,¬c ds M R):z9 P w K mg base k x ps c:=by obtain⟨f,d,a,m,b⟩:=F;refine⟨f,d,⟨λvs H Q E q=>?_,λA o s H O us vs Q E _ _ _ _ q=>?_⟩,m,a.kp,b⟩;obtain⟨ds,M,ρ,R,_,_,q,_⟩:=q;exact(h ds M R q).elim;obtain⟨ds,M,ρ,R,_,_,q,_⟩:=q;exact(h ds M R q).elim
section
variable{X:Cx}
def Ia(t:Nat)(s:List Nat)(wi:TI)(g:TG)(tt:TT)(te:TE)(N:TG):TS:=λD σ H=>Q6 t s wi g tt te σ H λv H1=>N v σ H1 D.nx
theorem Cf(B:BlkSc X N' nt js scope)(hc:X.calm=a9)(hi:PI X tg iter wi)(hg:∀cl s0 H0 ex,PG (D5 X N' scope cl s0 H0 ex) tg g) (ht:∀cl s0 H0 ex,Nk (D5 X N' scope cl s0 H0 ex) ifs tt) (he:∀cl s0 H0 ex,PE (D5 X N' scope cl s0 H0 ex) elt te) (hn:PG X (.Name x pos') gN)(hs:∀x,j6 iter X.env x=pure x) (al:i7 (.ListComp elt [⟨tg,iter,ifs,0⟩] scope pos) (a7<|.Name x pos') pos2.line X.env=pure a9):PS X (.Assign [.Name x pos'] (.ListComp elt [⟨tg,iter,ifs,0⟩] scope pos) pos2) (Ia nt js wi g tt te gN):=by
 intro a s σ H Dn I h;rw[exec_Assign_Name_used _ _ _ _ al];refine u8<|wpAny_standAt ?_;obtain⟨cl,U,i,D⟩:=jQ (scope:=scope) (env:=X.env) λp hp hf=>I.ok.has p.1<|B.free p hp hf;refine u8<|show f8 (ge X.prog X.w) X.A (comprehension (.ListComp elt [⟨tg,iter,ifs,0⟩] scope pos) scope X.env _ (newList []) bt (eval iter X.env) (a7<|i8 (.Name x pos') X.env) >>= λ_=>pure ()) _ _ _ from u8 ?_;refine wpAny_comprehension_free (use:=a7<|i8 (.Name x pos') X.env) (Q:=λ_ r=>f8 (ge X.prog X.w) X.A (pure ()) (λ_ s3=>f8 (ge X.prog X.w) X.A (pure Flow.next) (SP X a Dn) X.xe s3) X.xe r) rfl hs U B.kind B.loc ?_;refine A1 (hi a s σ H _ I h) λv s1 h1=>A1 h1 λas n h2=>?_;obtain⟨it,fp,tn,J,H2,e,j,T,S,N,W,⟨m0,w0⟩,L⟩:=h2;subst e;refine Lu<|wpAny_newFunctionEnv B.nocell (by intro y hy;simp at hy) (λh1 E F=>?_) B.kind;have m:∀b∈fp,b<n.heap.objs.size:=λb f=>by obtain⟨o,e,_⟩:=T.obj _ _ S b f;exact A5 e
 have hC:(n.heap.push<|cG [] 0).objs.size=n.heap.objs.size+1:=LJ ..;have G:∀b o,(n.heap.push<|cG [] 0).get? b=a7 o->h1.get? b=a7 o:=λb o e=>(F.2 b<|A8<|A5 e).trans<|A3 _ e;have I3:=j.blkStart (tk:=n.toks+([]:List (c5×b7)).length) B i D N m G E;have K:tn 0 h1:=T.keep _ _ _ S λb _ o e=>G b o<|A3 _ e;have ab:n.heap.objs.size∉fp:=λz=>J4 _<|m _ z;have ai:n.heap.objs.size∉frs X.stack:=λz=>by rcases A9.mp (j.stkSub _ z)with q|q;exact t8 j.lt (by rw[<-q];exact J4 _);exact j.nofs (x9 _) q
 have u:n.heap.objs.size≠(n.heap.push<|cG [] 0).objs.size:=by rw[hC];exact A8<|Mf _
 have ltc:∀z c,cl.lookup z=a7 c->c<n.heap.objs.size:=λz c e=>by obtain⟨v,q⟩:=j.cell z c<|i z c e;exact q.lt
 have t:∀b∈fp,b≠(n.heap.push<|cG [] 0).objs.size/\b∉frs X.stack/\∀x c,cl.lookup x=a7 c->c≠b:=λb f=>by refine⟨by rw[hC];exact A8<|N6<|m b f,λz=>?_,λx c e=>(N b f).2.2.2.2.1 x c<|i x c e⟩;rcases A9.mp (j.stkSub b z)with q|q;exact(N b f).2.1 q;exact(N b f).2.2.1 q
 have an:n.heap.objs.size<=(n.heap.push<|cG [] 0).objs.size:=by rw[hC];exact OF _
 have l:l7 (ge X.prog X.w) X.A (.compLoop (.ListComp elt [⟨tg,iter,ifs,0⟩] scope pos) 0 (.ref it) (.ref n.heap.objs.size)<|compEnvC scope cl (n.heap.push<|cG [] 0).objs.size X.env) (compPost (ge X.prog X.w) X.A X.xe (a7<|i8 (.Name x pos') X.env) (λ_ r=>f8 (ge X.prog X.w) X.A (pure ()) (λ_ s3=>f8 (ge X.prog X.w) X.A (pure Flow.next) (SP X a Dn) X.xe s3) X.xe r) (.ref n.heap.objs.size) (n.heap.push<|cG [] 0).objs.size) { n with heap:=h1,toks:=n.toks+([]:List (c5×b7)).length }:=by
  refine zU (s0:={ n with heap:=n.heap.push (cG [] 0) }) (H0:=H2) (N':=N') (Q:=λv H1=>gN v σ H1 Dn.nx) hc (hg _ _ _ _) (ht _ _ _ _) (he _ _ _ _) T ab L t u ai (λx c e=>A8<|ltc x c e) ?_ m0 I3 K (λb f=>(N b f).1) w0;intro τ H' s' vs its k P rv hl q;obtain⟨mm,aj,_⟩:=id P.loc;obtain⟨C,es,V,eC,aM⟩:=id aj;have I5:v4 X a σ (A2 H' n.heap.objs.size<|.lst vs) s':=j.blkEnd N P rv hl ⟨rfl,λ_ _=>rfl⟩;have Y:A2 H' n.heap.objs.size (.lst vs) (n.heap.push<|cG [] 0).objs.size=a8:=by rw[au<|A7 u];exact P.free
  have Z:∀Hx:Hp,Hx (n.heap.push<|cG [] 0).objs.size=a8->wI X a Hx (n.heap.push<|cG [] 0).objs.size:=λHx hx=>j.fpOk an hx;have dC:∀v,C.data≠.cell v:=λv z=>by
   have:∃es V,C.data=.dict es V:=by
    first
     |(obtain⟨d,_⟩:=aM;exact⟨_,_,d⟩)
     |(obtain⟨_,d,_⟩:=aM;exact⟨_,_,d⟩)
     |(obtain⟨_,_,d,_⟩:=aM;exact⟨_,_,d⟩)
   obtain⟨_,_,d⟩:=this;rw[d]at z;cases z
  have I6:v4 X (a++[((n.heap.push<|cG [] 0).objs.size,C)]) σ (A2 H' n.heap.objs.size<|.lst vs) s':=I5.pins_of λp hp=>by
   rcases J0.mp hp with hp|hp;exact I5.pin p<|LP _ hp;have:p=((n.heap.push<|cG [] 0).objs.size,C):=by simpa using hp
   subst this;exact⟨eC,Y,(Z _ Y).2.1,(Z _ Y).2.2.1,dC⟩
  refine A1 (hn _ s' σ _ (.ref n.heap.objs.size) (.ref n.heap.objs.size) _ I6 rfl q) ?_;rintro _ s7 ⟨M,O,R,q7⟩;obtain⟨p1,p2,_⟩:=R.pin ((n.heap.push<|cG [] 0).objs.size,C)<|LP _<|LP _ F5;refine⟨mm,⟨C,es,V,p1,aM⟩,λh' sb=>v5<|v5 ⟨M,O,?_,q7⟩⟩;have I8:v4 X a M O s7:=R.pins_of λp hp=>R.pin p<|LP _<|NM _ hp;refine I8.turnedL (t':=s7.toks) (fp:=[(n.heap.push<|cG [] 0).objs.size]) (λb f=>?_) λb o f e=>(sb.2 b<|by simpa using f).trans e;have:b=(n.heap.push<|cG [] 0).objs.size:=by simpa using f
  subst this;exact Z O p2
 exact codeAny_compStart_list l<|T.self _ 0 _ _ _ K l
def iL(t:Nat)(s:List Nat)(b:L8)(g:Ly)(tt:K0)(te:A0)(i:Nat):v7:=λE S M=>LH t s b g tt te S M λd a=>af i d S a E.nx
theorem Dv(B:BlkSc X N' nt js scope)(f:X.calm=a9)(hi:DI X tg iter di)(R:∀cl s0 H0 ex,DG (D5 X N' scope cl s0 H0 ex) tg g) (D:∀cl s0 H0 ex,Nk (D5 X N' scope cl s0 H0 ex) ifs<|lowT X.K tt) (e:∀cl s0 H0 ex,DE (D5 X N' scope cl s0 H0 ex) elt te) (n:DG X (.Name x pos') (af i))(hs:∀x,j6 iter X.env x=pure x) (h:i7 (.ListComp elt [⟨tg,iter,ifs,0⟩] scope pos) (a7<|.Name x pos') pos2.line X.env=pure a9):DS X (.Assign [.Name x pos'] (.ListComp elt [⟨tg,iter,ifs,0⟩] scope pos) pos2) (iL nt js di g tt te i):=PS.imp (Cf (g:=lowG X.K g) (tt:=lowT X.K tt) (te:=lowE X.K te) B f hi (λcl s0 H0 ex=>R cl s0 H0 ex) D (λcl s0 H0 ex=>e cl s0 H0 ex) n hs h) λE σ H ⟨S,M,ρ,F,s,r,q,k⟩ =>
  zI σ H _ ⟨S,M,ρ,_,s,r,q,λv H1 ⟨d,b,c,m,g1,l,j⟩=>⟨d,S,b,c,_,m,r.grow g1,l,j,λa H' w=>k.nx a H'<|SQ.trans g1 w⟩⟩
theorem CL(a:X.N.Nodup)(hi:HI X tg iter di)(R:∀cl s0 H0 ex,HG (D5 X N' scope cl s0 H0 ex) tg g) (D:∀cl s0 H0 ex,OA (D5 X N' scope cl s0 H0 ex) ifs tt) (e:∀cl s0 H0 ex,HE (D5 X N' scope cl s0 H0 ex) elt te) (B:om X.env.scope.names X.N N' nt js scope=a9:=by kernel_rfl) (f:X.calm=a9:=by kernel_rfl)(hs:∀x,j6 iter X.env x=pure x:=by intro _;kernel_rfl) (w:i7 (.ListComp elt [⟨tg,iter,ifs,0⟩] scope pos) (a7<|.Name x pos') pos2.line X.env=pure a9:=by kernel_rfl)(h:X.N[i]?=a7 x:=by kernel_rfl) (c:FN X.env.scope x=a9:=by kernel_rfl) (b:X.fn x=a9:=by kernel_rfl):HS X (.Assign [.Name x pos'] (.ListComp elt [⟨tg,iter,ifs,0⟩] scope pos) pos2) (iL nt js di g tt te i):=⟨Dv (BlkSc.chk B) f hi.ok (λcl s0 H0 ex=>(R cl s0 H0 ex).ok) (λcl s0 H0 ex=>(D cl s0 H0 ex).ok) (λcl s0 H0 ex=>(e cl s0 H0 ex).ok) (uP a h (we c)<|.inl b) hs w⟩
end
theorem Oz:atI (a::r) 0=a7 a:=by have:=ar (xs:=a::r) (j:=0) (v:=a) rfl;simpa using this
theorem Oc:atI (a::b::r) 1=a7 b:=by have:=ar (xs:=a::b::r) (j:=1) (v:=b) rfl;simpa using this
theorem Rc:atI (a::b::c::r) 2=a7 c:=by have:=ar (xs:=a::b::c::r) (j:=2) (v:=c) rfl;simpa using this
theorem aV.lst(h:R (.ref M.length) (M++[.lst xs]))(f:M.length<=n)(e:(M++L)[n]?=a7 (.lst xs))(b:Bels M.length xs):aV M R (.ref n) (M++L):=.inr<|.inr ⟨M,n,xs,.refl,rfl,f,e,LM _ _,b,h⟩
theorem aV.chgL(c:OD M M1)(h:R (.ref M.length) (M1++[.lst xs]))(f:M.length<=n)(e:M'[n]?=a7 (.lst xs))(p:M1 <+: M')(b:Bels M.length xs):aV M R (.ref n) M':=.inr<|.inr ⟨M1,n,xs,c,rfl,f,e,p,b,h⟩
theorem fq:(M++a::L).set M.length b=M++b::L:=by rw[QJ _ _<|x9 _];simp
theorem bo:(M++a::L)[M.length]?=a7 a:=by simp
theorem Fi:M <+: M++L:=LM _ _
theorem fW(I:List D->List D->SD->v8->Prop)(h0:∀acc S M,I [] acc S M->ok M/\Q (.ref M.length) (M++[.lst acc]))(h1:∀x xs acc S M,I (x::xs) acc S M->∀K:List D->SD->v8->Prop,(∀acc S M,I xs acc S M->K acc S M)->ok M/\g x S M λS2 M2=>tt S2 M2 λb M3=>if b=a9 then te S2 M3 λy M4=>acc.length<sizeLine/\K (acc++[y]) S2 M4 else K acc S2 M3):∀xs acc S M,I xs acc S M->mz ok g tt te Q xs acc S M
 | [],acc,S,M,h=>h0 acc S M h
 |x::xs,acc,S,M,h=>h1 x xs acc S M h _<|fW I h0 h1 xs
noncomputable def O1:D->c5
 |.str x=>x
 |_=>Str.empty
theorem rN{ys:List D}{ks:List c5}(h:ys.Perm (ks.map D.str)):∃ns:List c5,ys=ns.map D.str/\ns.Perm ks:=by
 refine⟨ys.map O1,?_,?_⟩;rw[K2];have:∀y∈ys,(D.str ∘ O1) y=y:=λy Q=>by obtain⟨x,_,rfl⟩:=A6.mp<|h.mem_iff.mp Q;rfl
 exact(PL this ▸ (List.map_id' ys).symm:ys=ys.map (D.str ∘ O1));have:=h.map O1;rw[K2]at this;have e:(O1 ∘ D.str)=id:=rfl
 rwa [e,List.map_id]at this
theorem nN{M:v8}{ks:List c5}(h:ks.length<64):SrtOk M (ks.map D.str):=by refine⟨by rw[x6];exact h,λx a=>?_,λx a y Q=>?_,.inl λx a=>?_⟩;obtain⟨z,_,rfl⟩:=A6.mp a;rfl;obtain⟨z,_,rfl⟩:=A6.mp a;obtain⟨G,_,rfl⟩:=A6.mp Q;rfl;obtain⟨z,_,rfl⟩:=A6.mp a;exact⟨z,rfl⟩
theorem Cd:(lG kvs k d).length<=kvs.length+1/\1<=(lG kvs k d).length:=by unfold lG;by_cases q:(kvs.any λp=>decide<|p.1=k)=a9;rw[t6 q,x6];obtain⟨p,hp,_⟩:=NJ.mp q;have:0<kvs.length:=List.length_pos_of_mem hp;lia;rw[t7 q,E3,LD];lia
theorem dn:(M++a::b::L)[M.length+1]?=a7 b:=by rw[Mp (by lia),show M.length+1-M.length=1 by lia];rfl
noncomputable def J6:b7->c5
 |.str x _=>x
 |_=>default
def mE(prog:c7)(w:c6)(h:d5)(a:c8)(ks:List c5):Prop:=∃(o:c9) (es:Array (Int×b7)) (i:Nat) (t:p5),h.get? a=a7 o/\o.ExactSet/\o.data=.set es i t/\ElemsOf (strKind prog w) es.toList/\ks=es.toList.map (λe=>J6 e.2)/\ks.Nodup /\es.size<r9/\t.fits es.size=a9/\(t.plain=a9->ks=[])/\t.led = !w.params.followText "set-order"
theorem xA(t:p5)(es:Array (Int×b7))(h:Int)(x:b7):(layNew t es h x).2.1.led=t.led:=by
 unfold layNew;split
 ·simp only[SetTable.orStandIn,SetTable.put]
  repeat' split
  all_goals simp[SetTable.standIn]
 rfl
theorem sC(t:p5)(es:Array (Int×b7))(h:Int)(x:b7)(e:t.plain=bt):(layNew t es h x).2.1.plain=bt:=by
 unfold layNew;split
 ·simp only[SetTable.orStandIn,SetTable.put]
  repeat' split
  all_goals simp[SetTable.standIn,e]
 rfl
theorem wg(e:SetTable.laid mask f m l p hs=a7 (t',ord)):t'.led=l/\t'.plain=p:=by
 unfold SetTable.laid at e;cases q:Rl mask hs with
 |none=>rw[q]at e;cases e
 |some ow=>rw[q]at e;injection e with e;injection e with e1 e2;rw[<-e1];exact⟨rfl,rfl⟩
theorem rG(t:p5)(es:Array (Int×b7))(d:Nat):(t4 t es d).2.1.led=t.led:=by unfold t4;split;rename_i t' o e;simp only;split;exact(wg e).1;rfl;rfl
theorem mM(t:p5)(es:Array (Int×b7))(d:Nat)(z:t.plain=bt):(t4 t es d).2.1.plain=bt:=by unfold t4;split;rename_i t' o e;simp only;split;exact(wg e).2.trans z;rfl;rfl
theorem sM(h:ElemsOf (strKind prog w) l)(i:e∈l):∃t,e.2=.str (J6 e.2) t:=by obtain⟨⟨k,a,_⟩,_⟩:=h e i;obtain⟨t,z⟩:=Ru a;exact⟨t,by rw[z];rfl⟩
section
variable{prog:c7}{w:c6}{A:e7}{E:b7->e8->Prop}{s:e8}
theorem wn(k:c5)(t:Tok):(strKind prog w).is k (.str k t)=a9:=by show Qh k (.str k t)=a9;simp[Qh]
theorem wq(h:ElemsOf (strKind prog w) l):(∃e∈l,(strKind prog w).is k e.2=a9)↔k∈l.map (λe=>J6 e.2):=by rw[A6];constructor;rintro⟨e,he,hk⟩;obtain⟨t,z⟩:=Ru hk;exact⟨e,he,by rw[z];rfl⟩;rintro⟨e,he,rfl⟩;obtain⟨t,z⟩:=sM h he;exact⟨e,he,by rw[z];exact wn _ _⟩
theorem yg{a:c8}{o:c9}{es c:Array (Int×b7)}{ep:Nat}{t t1:p5}{F:Bool}{R:Option Bool->e8->Prop}{g:Bool->Sem Unit}(D:∀(b:Bool) (s₁:e8) (Q':Unit->e8->Prop),Q' () s₁->f8 (ge prog w) A (g b) Q' E s₁)(B:s.heap.get? a=a7 o) (x:o.ExactSet) (m:o.data=.set es ep t) (l:ElemsOf (strKind prog w) c.toList) (X:(c.toList.map<|λe=>J6 e.2).Nodup) (k:c.size<r9) (C:t1.fits c.size=a9)(y:t1.plain=bt) (v:t1.led = !w.params.followText "set-order")(h:∀h' ks,J3 a s.heap h'->ks.Perm (c.toList.map<|λe=>J6 e.2)->mE prog w h' a ks->R (a7 a9) { s with heap:=h' }):f8 (ge prog w) A (do
    storeSet a c t1
    if (!F&&t1.tooFull)=a9 then do
      g (t4 t1 c<|Mj c.size).2.2
      storeSet a (t4 t1 c<|Mj c.size).1 (t4 t1 c<|Mj c.size).2.1
      pure (a7 a9)
     else pure (a7 a9)) R E s:=by
 refine u8<|Qy B m ?_<|fits_of_scanBound k;have f:(s.heap.update a<|MZ c t1).get? a=a7 { o with data:=.set c (ep+1) t1 }:=by
  have q:=LO (MZ c t1) B<|by rw[NU c t1 m];rfl
  rwa [NU c t1 m]at q
 split;have hp:=relayAll_perm t1 c<|Mj c.size;have u:=relayAll_fits t1 c<|Mj c.size;have n:=rG t1 c<|Mj c.size;have p:=mM t1 c (Mj c.size) y;generalize t4 t1 c (Mj c.size)=Z at hp u n p ⊢;obtain⟨d,i,G⟩:=Z
 try dsimp only at hp u n p ⊢
 have j:d.size=c.size:=by have:=hp.length_eq;simpa using this
 refine u8 (D _ _ _<|u8<|Qy f rfl ?_<|fits_of_scanBound<|by rw[j];exact k);have r:((s.heap.update a<|MZ c t1).update a<|MZ d i).get? a=a7 { o with data:=.set d (ep+1+1) i }:=by
  have q:=LO (MZ d i) f<|by rw[NU d i (es:=c) (ep:=ep+1) (t:=t1) rfl];rfl
  rwa [NU d i (es:=c) (ep:=ep+1) (t:=t1) rfl]at q
 refine v5<|h _ (d.toList.map<|λe=>J6 e.2) ((LN ..).trans<|LN ..) (hp.map _) ⟨_,d,_,i,r,x,rfl,l.perm hp,rfl,((hp.map _).nodup_iff).mpr X,by rw[j];exact k,u,λz=>?_,n.trans v⟩;rw[p]at z;cases z;refine v5<|h _ _ (LN ..) (Om _) ⟨_,c,_,t1,f,x,rfl,l,rfl,X,k,C,λz=>?_,v⟩;rw[y]at z;cases z
theorem HP(S:mE prog w s.heap a ks)(v:ks.length+1<r9)(h:∀b h' tk' ks',J3 a s.heap h'->ks'.Perm (if k∈ks then ks else k::ks)->mE prog w h' a ks'->Q b { s with heap:=h',toks:=tk' }):f8 (ge prog w) A (setAdd a<|.str k tk) Q E s:=by
 obtain⟨o,es,L,t,C,x,B,l,rfl,X,J,F,T,H⟩:=S;rw[x6,G2]at v;unfold setAdd;refine F8<|u8<|(strKind prog w).pyHash (wn k tk) ?_;have y:(Value.str k tk).scannable=a9:=rfl;unfold setAddHashed setAddHashedIn;refine F8<|u8<|ME (s:={ s with toks:=s.toks+1 }) C B F ?_;dsimp only;rw[byScan_of y J l,t6 rfl];unfold setAddByScan;refine u8<|u8<|Lz<|u8<|wpAny_setScan_of (wn k tk) C B F l ?_;cases K:List.findIdx? (λe=>(strKind prog w).is k e.2) es.toList with
 |some j=>obtain⟨O,G,_⟩:=List.findIdx?_eq_some_iff_getElem.mp K;have g:k∈es.toList.map (λe=>J6 e.2):=(wq l).mp ⟨_,Mm O,G⟩;refine v5<|v5<|h _ s.heap _ _ (Rk ..) (by rw[t6 g]) ⟨o,es,L,t,C,x,B,l,rfl,X,J,F,T,H⟩
 |none =>
  have g:k∉es.toList.map (λe=>J6 e.2):=λq=>by obtain⟨e,N,P⟩:=(wq l).mpr q;have:=List.findIdx?_eq_none_iff.mp K e N;rw[P]at this;cases this
  rw[t7 g]at h;dsimp only;have m:=layNew_perm t es ((strKind prog w).hash k)<|.str k tk;have c:=layNew_fits t es ((strKind prog w).hash k)<|.str k tk;have d:=xA t es ((strKind prog w).hash k)<|.str k tk;have n:=sC t es ((strKind prog w).hash k)<|.str k tk;generalize layNew t es ((strKind prog w).hash k) (.str k tk)=Z at m c d n ⊢;obtain⟨f,t1,W,V⟩:=Z
  try dsimp only at m c d n ⊢
  rw[Qx]at m;have i:ElemsOf (strKind prog w) f.toList:=(l.push (wn k tk) y).perm m;have u:(f.toList.map λe=>J6 e.2).Perm (k::es.toList.map λe=>J6 e.2):=by refine(m.map _).trans ?_;rw[L6];exact List.perm_append_comm
  have D:(f.toList.map λe=>J6 e.2).Nodup:=u.nodup_iff.mpr<|LK.mpr ⟨g,X⟩;have z:f.size<r9:=by have:=m.length_eq;simp at this;lia
  have M:∀(b:Bool) (s₁:e8) (Q':Unit->e8->Prop),Q' () s₁->f8 (ge prog w) A (match b with|true=>rule "set.scan.the-table-gave-way" |false=>pure ()) Q' E s₁:=λb s₁ Q' r=>by cases b;exact v5 r;exact Lz r
  refine u8<|M _ _ _ ?_;split;refine u8 ?_;rw[hashByValue_scannable 8 y];refine v5 ?_;refine yg (t1:={ t1 with plain:=bt }) (λb s₁ Q' r=>by cases b<;>first|exact v5 r|exact Lz r) C x B i D z (SetTable.fits_plain_off c) rfl (d.trans H) ?_;exact λh' ks' U p I=>v5<|h _ h' _ ks' U (p.trans u) I;rename_i R;refine u8<|v5 ?_;rw[t6 rfl];refine yg (λb s₁ Q' r=>by cases b<;>first|exact v5 r|exact Lz r) C x B i D z c (by simpa using R) (d.trans H) ?_;exact λh' ks' U p I=>v5<|h _ h' _ ks' U (p.trans u) I
end
theorem mE.at(x:mE prog w h a ks)(k:∀o,h.get? a=a7 o->h'.get? a=a7 o):mE prog w h' a ks:=by obtain⟨o,es,i,t,B,r⟩:=x;exact⟨o,es,i,t,k _ B,r⟩
section
variable{prog:c7}{w:c6}{A:e7}{E:b7->e8->Prop}{s:e8}
theorem EO{R:Result->e8->Prop}{I:c8}{fp N:List c8}{n:Nat}{P:Nat->b7->Prop}{St:Nat->d5->Prop}(W:o5 prog w A.in1 I fp N n P St)(S:c8)(r:S∉fp)(l:Nat->c5) (B:∀i v,P i v->∃t,v=.str (l i) t) (hb:n+1<r9):∀(k i:Nat) (s:e8) (ks:List c5),n-i=k->i<=n->St i s.heap->mE prog w s.heap S ks->(∀x,x∈ks↔∃j,j<i/\l j=x)->ks.length<=i ->(∀h' tk ks',(∀b o,b∉S::N->s.heap.get? b=a7 o->h'.get? b=a7 o)->mE prog w h' S ks'->(∀x,x∈ks'↔∃j,j<n/\l j=x)->R (.ok<|.ret .none) { s with heap:=h',toks:=tk }) ->l7 (ge prog w) A (.builtin "set.update.loop" ⟨[.ref S,.ref I],[]⟩) R s:=by
 have u:S∉N:=λh=>r<|W.sub _ h;intro k;induction k with
 |zero =>
  intro i s ks V hi f D m X C;obtain rfl:i=n:=by lia
  refine Mw F.entry_set_update_loop ?_;rw[Ng F.plain_set_update_loop _];refine(show f8 (ge prog w) A.in1 (j0 (.ref I) >>= _) _ _ s from u8<|W.done s _ _ f λh' tk c=>?_);refine v5<|C h' tk ks (λb o a e=>c b o (λz=>a<|D4 _ z) e) (D.at λo e=>c S o u e) m
 |succ k Y=>intro i s ks V hi f D m X C;refine Mw F.entry_set_update_loop ?_;rw[Ng F.plain_set_update_loop _];refine(show f8 (ge prog w) A.in1 (j0 (.ref I) >>= _) _ _ s from u8<|W.item i s _ _ (by lia) f λv h' tk T y c=>?_);obtain⟨t,rfl⟩:=B i v T;refine u8<|F8<|HP (s:={ s with heap:=h',toks:=tk }) (D.at λo e=>c S o u e) (by lia) λb h2 Z K U hp E=>?_;refine v5 ⟨Nr F.plain_set_update_loop _,Y (i+1) _ K (by lia) (by lia) (W.frame _ h' h2 y λp a o e=>(U.2 p<|λz=>r<|z ▸ a).trans e) E (λx=>?_) ?_ λQ M L H G J=>?_⟩;rw[hp.mem_iff];constructor;intro g;by_cases q:l i∈ks;rw[t6 q]at g;obtain⟨j,O,e⟩:=(m x).mp g;exact⟨j,by lia,e⟩;rw[t7 q]at g;rcases A9.mp g with e|g;exact⟨i,by lia,e.symm⟩;obtain⟨j,O,e⟩:=(m x).mp g;exact⟨j,by lia,e⟩;rintro⟨j,O,rfl⟩;by_cases q:l i∈ks;rw[t6 q];by_cases d:j=i;subst d;exact q;exact(m _).mpr ⟨j,by lia,rfl⟩;rw[t7 q];by_cases d:j=i;subst d;exact F5;exact D4 _<|(m _).mpr ⟨j,by lia,rfl⟩;have:=hp.length_eq;split at this;lia;rw[E9]at this;lia;refine C Q M L (λp o a e=>H p o a<|(U.2 p λz=>a<|by rw[z];exact F5).trans ?_) G J;exact c p o (λz=>a<|D4 _ z) e
noncomputable def ay(w:c6):c9:={ cls:=.type "set",dict:=a8,data:=.set #[] 0 (.fresh 0 0<|!w.params.followText "set-order") }
theorem BJ(e:h.get? a=a7 (ay w)):mE prog w h a []:=⟨_,#[],0,_,e,⟨rfl,rfl,rfl⟩,rfl,λe i=>by simp at i,rfl,Ol,by decide,rfl,λ_=>rfl,rfl⟩
theorem mC(a:b7)(h:Q₁ (.ref s.heap.objs.size) { s with heap:=s.heap.push (ay w) }):l7 (ge prog w) A (.call (.builtin "set.__new__") ⟨[.type "set",a],[]⟩) (wants Q₁ E) s:=by
 refine codeAny_of_tree<|show f8 (ge prog w) A.in1 (do checkBuiltinCall "set.__new__" ⟨[.type "set",a],[]⟩;again (.builtin "set.__new__" ⟨[.type "set",a],[]⟩)) _ _ s from ?_;refine u8<|OE (F.newCall_set_1 a)<|v5 ⟨Nr F.plain_set_new _,Mw F.entry_set_new ?_⟩;rw[Ng F.plain_set_new _];have e:=sub_set_self;obtain⟨hp,g,d,q,c⟩:=s;unfold Builtin.«set.__new__» Builtin.Frozenset.newClass;dsimp only
 wp_walk
 refine On<|v5 ?_;simp only[newObj];exact u8<|wpAny_alloc<|v5<|v5 h
end
structure TxSrc(prog:c7)(w:c6)(h:d5)(l:c8)(T:String)(n:Nat)(P:Nat->b7->Prop):Prop where
 obj:∃o,h.get? l=a7 o/\o.cls=.type T
 ns:isSubtype (.type T) (.type "set")=pure bt
 nf:isSubtype (.type T) (.type "frozenset")=pure bt
 nd:(Oi T==Oi "dict")=bt
 iter:∀(A:e7) (s':e8),A.handled=a8->(∀o,h.get? l=a7 o->s'.heap.get? l=a7 o)->∃(oI:c9) (St:Nat->d5->Prop),(∀(E:b7->e8->Prop) (Q:b7->e8->Prop),Q (.ref s'.heap.objs.size) { s' with heap:=s'.heap.push oI }->f8 (ge prog w) A (j4<|.ref l) Q E s') /\o5 prog w A s'.heap.objs.size [s'.heap.objs.size,l] [s'.heap.objs.size] n P St/\St 0 (s'.heap.push oI)
theorem tU:isSubtype (.type "tuple") (.type "set")=pure bt:=by rw[isSubtype_type];kernel_rfl
theorem qV:isSubtype (.type "tuple") (.type "frozenset")=pure bt:=by rw[isSubtype_type];kernel_rfl
theorem TxSrc.list(g:h.IsList l its):TxSrc prog w h l "list" its.size (λi v=>its[i]?=a7 v):=by
 refine⟨let ⟨o,e,c,_⟩:=g;⟨o,e,c⟩,F.sub_list_set,F.sub_list_frozenset,by decide,λA s' b k=>?_⟩;have a:s'.heap.IsList l its:=g.at k;have lt:l<s'.heap.objs.size:=let ⟨o,e,_⟩:=a;A5 e
 exact⟨_,_,λE Q q=>Qz a q,Walks.list b _ l (A8 lt) its,⟨_,C7 _ rfl,rfl,rfl⟩,a.push _⟩
theorem TxSrc.tuple(g:h.IsTuple l its):TxSrc prog w h l "tuple" its.size (λi v=>its[i]?=a7 v):=by
 refine⟨let ⟨o,e,c,_⟩:=g;⟨o,e,c⟩,tU,qV,by decide,λA s' b k=>?_⟩;have a:s'.heap.IsTuple l its:=let ⟨o,e,r⟩:=g;⟨o,k o e,r⟩
 have lt:l<s'.heap.objs.size:=let ⟨o,e,_⟩:=a;A5 e
 exact⟨_,_,λE Q q=>wpAny_pyIter_tuple a q,Walks.tuple b _ l (A8 lt) its,⟨_,C7 _ rfl,rfl,rfl⟩,let ⟨o,e,r⟩:=a;⟨o,A3 _ e,r⟩⟩
section
variable{prog:c7}{w:c6}{A:e7}{E:b7->e8->Prop}{s:e8}
theorem Gv{l:c8}{T:String}{n:Nat}{P:Nat->b7->Prop}{G:e8->Prop}(u:A.handled=a8)(K:TxSrc prog w s.heap l T n P)(a:Nat->c5)(B:∀i v,P i v->∃t,v=.str (a i) t)(q:n+1<r9)(h:∀h' tk ks,(∀b o,s.heap.get? b=a7 o->h'.get? b=a7 o)->mE prog w h' s.heap.objs.size ks->(∀x,x∈ks↔∃j,j<n/\a j=x)->G { s with heap:=h',toks:=tk }):f8 (ge prog w) A (Builtin.«set.__init__» ⟨[.ref s.heap.objs.size,.ref l],[]⟩) (λfin s'=>fin=.done (.ret .none)/\G s') E { s with heap:=s.heap.push (ay w) }:=by
 have S:(s.heap.push<|ay w).get? s.heap.objs.size=a7 (ay w):=C7 _ rfl;have F:ML { s with heap:=s.heap.push (ay w) } (.ref s.heap.objs.size) "set":=⟨_,S,rfl⟩
 obtain⟨m,f,d⟩:=K.obj;have c:(s.heap.push<|ay w).get? l=a7 m:=A3 _ f;have p:ML { s with heap:=s.heap.push (ay w) } (.ref l) T:=⟨m,c,d⟩
 have Q:l<s.heap.objs.size:=A5 f;have z:(s.heap.push<|ay w).objs.size=s.heap.objs.size+1:=LJ ..;obtain⟨J,St,g,W,D⟩:=K.iter A.in1 { s with heap:=s.heap.push (ay w) } u λo e=>A3 _ e;have ns:=K.ns;have H:=K.nf;have X:=K.nd;unfold Builtin.«set.__init__» noKeywords R0;generalize I:j4=PI
 wp_walk
 subst I;refine wpAny_of_in1<|g _ _ ?_;have r:s.heap.objs.size∉[(s.heap.push<|ay w).objs.size,l]:=by rw[z];simp only[A9,Me,or_false,not_or];exact⟨A8<|Mf _,MJ Q⟩
 refine u8<|wpAny_runValue<|EO W s.heap.objs.size r a B q n 0 _ [] rfl (D6 _) D (BJ<|A3 _ S) (λx=>by simp) (x9 _) λh' tk ks y k C=>?_;refine v5<|v5 ⟨rfl,h h' tk ks (λb o e=>y b o ?_<|A3 _<|A3 _ e) k C⟩;have lt:b<s.heap.objs.size:=A5 e;simp only[A9,Me,or_false,not_or,z];exact⟨A8 lt,A8<|N6 lt⟩
set_option maxHeartbeats 1000000 in
theorem Hi{l:c8}{T:String}{n:Nat}{P:Nat->b7->Prop}{Q:b7->e8->Prop}(p:A.handled=a8)(K:TxSrc prog w s.heap l T n P)(a:Nat->c5)(B:∀i v,P i v->∃t,v=.str (a i) t)(k:n+1<r9)(h:∀h' tk ks,(∀b o,s.heap.get? b=a7 o->h'.get? b=a7 o)->mE prog w h' s.heap.objs.size ks->(∀x,x∈ks↔∃j,j<n/\a j=x)->Q (.ref s.heap.objs.size) { s with heap:=h',toks:=tk }):f8 (ge prog w) A (call (.type "set") [.ref l]) Q E s:=by
 have H:=F.called_set.made;have L:=F.called_set.sub;have I:=F.called_set.notType;have C:=F.called_set.canCreate;have M:=F.typeCall_set_1<|.ref l;obtain⟨c,N,J⟩:=F.called_set.mro;refine l8<|codeAny_of_tree<|show f8 _ _ (callAny (.type "set") _) _ _ _ from v5 ⟨Code.quiet_builtin _ (by decide +kernel),Mw F.entry_type_call ?_⟩;rw[Around.under_plain (weight_type_call_type "set" [.ref l] []) rfl]
 repeat (any_goals (first|assumption|wp_step))
 refine Na (mC (.ref l) (E:=E) (Q₁:=λobj s₁=>obj=.ref s.heap.objs.size/\s₁={ s with heap:=s.heap.push (ay w) }) ⟨rfl,rfl⟩) λr s₁ hr=>?_
 match r,hr with
 |.error e,hr=>exact hr
 |.ok (.ret obj),⟨e1,e2⟩ =>
  subst e1 e2;have S:(s.heap.push<|ay w).get? s.heap.objs.size=a7 (ay w):=C7 _ rfl;have m:ML { s with heap:=s.heap.push (ay w) } (.ref s.heap.objs.size) "set":=⟨_,S,rfl⟩
  have D:=F.called_set.init.lookup;have y:=F.called_set.init.bind<|.ref s.heap.objs.size
  repeat (any_goals (first|assumption|wp_step))
  refine Na (OT (R:=wants (λr s₂=>r=.none/\Q (.ref s.heap.objs.size) s₂) E) F.called_set.init.plain F.entry_set_init<|check_set_init_1 m ?_) λd s₂ hr₂=>?_;refine G4 (Gv (G:=λu=>Q (.ref s.heap.objs.size) u) (by simp[p]) K a B k h) (λf s' ⟨e,g⟩=>?_) λ_ _ z=>z;subst e;exact⟨rfl,g⟩
  ·match d,hr₂ with
   |.error e,hr₂=>exact hr₂
   |.ok (.ret r),⟨e,q⟩ =>
    subst e
    repeat (any_goals (first|assumption|wp_step))
end
theorem bh:Slot "set_iterator" "__next__" "set_iterator.__next__":=.of (owner:="set_iterator") (n:="__next__") (by rw[Pt,PP];kernel_rfl) (by decide +kernel) (by decide +kernel) (by decide +kernel) (by first|exact .inl (by decide +kernel)|exact .inr<|by decide +kernel)<|by rw[isSubtype_type];kernel_rfl
theorem eK:entryFor table "set_iterator.__next__" = a7 Builtin.«set_iterator.__next__»:=entryFor_of_tree<|by kernel_rfl
theorem lR:Manifest.owners.lookup (String.ofList ['r','o','t','a','r','e','t','i','_','t','e','s'].reverse)=a7 Manifest.sig_set_iterator:=by kernel_rfl
theorem fX(a:b7):argsOk "set_iterator.__next__" ⟨[a],[]⟩:=by unfold argsOk;rw[signature?_of (id:="set_iterator.__next__") (n:=['_','_','t','x','e','n','_','_']) (o:=['r','o','t','a','r','e','t','i','_','t','e','s']) (by kernel_rfl) lR];kernel_rfl
theorem pE:entryFor table "set.__iter__" = a7 Builtin.«frozenset.__iter__»:=entryFor_alias (id':="frozenset.__iter__") (by kernel_rfl) rfl (by decide +kernel)<|by kernel_rfl
theorem jp{α:Type}:∀(l:List α) (i:Nat) (h:i<l.length),(l[i]::l.eraseIdx i).Perm l
 |x::l,0,_=>Om _
 |x::l,i+1,h=>by
  have h':i<l.length:=by simpa using h
  exact(List.Perm.swap x l[i]<|l.eraseIdx i).trans<|Qk x<|jp l i h'
theorem xU(f:n≠0)(h:∀i d,i<n->Q i { s with drawn:=d }):f8 M A (choose src n) Q E s:=by intro Γ p a;show Sem.wp M Γ (Sem.choose src n λi=>Sem.pure i) _ _ p s;rw[Sem.wp_choose];refine⟨f,?_⟩;rw[Sem.wp_pure];exact h _ _<|Nat.mod_lt _<|Nat.pos_of_ne_zero f
theorem sO{α:Type}{M:Model}{A:e7}{E:b7->e8->Prop}:∀(n:Nat) (xs:List α) (s:e8) (Q:List α->e8->Prop),xs.length=n->(∀ys d,ys.Perm xs->Q ys { s with drawn:=d })->f8 M A (drawOrder n xs) Q E s
 | 0,xs,s,Q,e,h=>by
  cases xs with
  |nil=>exact v5<|h [] s.drawn<|Om _
  |cons _ _=>cases e
 |n+1,[],s,Q,e,h=>by cases e
 |n+1,x::xs,s,Q,e,h=>by unfold drawOrder;refine u8<|xU (by simp) λi d hi=>?_;rw[A4 hi];refine u8<|sO n ((x::xs).eraseIdx i) { s with drawn:=d } _ (by rw[List.length_eraseIdx_of_lt hi];simp at e ⊢;lia) λys d' hp=>v5<|h _ d' ?_;exact(Qk _ hp).trans<|jp _ i hi
theorem lI{α:Type}(next:Nat->Nat)(xs:Array α):(t5 next xs).toList.Perm xs.toList:=by
 have o:∀(l k:Nat) (left:List α) (t:Array α),left.length=l->(pickOrder.go next l k left t).toList.Perm (t.toList++left):=by
  intro l;induction l with
  |zero =>
   intro k left t e;cases left with
   |nil=>simp[pickOrder.go]
   |cons _ _=>cases e
  |succ n i=>intro k left t e;have hi:next k % left.length<left.length:=Nat.mod_lt _ (by lia);unfold pickOrder.go;rw[A4 hi];dsimp only;refine(i (k+1) _ _<|by rw[List.length_eraseIdx_of_lt hi];lia).trans ?_;rw[Qx,Mn];exact List.Perm.append_left _<|jp _ _ hi
 have:=o xs.size 0 xs.toList #[] (by simp);simpa [t5]using this
noncomputable def eJ(first:b7)(i n:Nat)(a:c8)(ep:Nat):c9:={ cls:=.type "set_iterator",data:=.fields #[first,j5 i,.ref a,j5 n,j5 ep] }
structure SetAt(h:d5)(a:c8)(o:c9)(es:Array (Int×b7))(ep:Nat)(t:p5):Prop where
 ob:h.get? a=a7 o
 dt:o.data=.set es ep t
 ft:t.fits es.size=a9
section
variable{prog:c7}{w:c6}{A:e7}{E:b7->e8->Prop}{s:e8}{a it:c8}{o:c9}{es:Array (Int×b7)}{ep:Nat}{t:p5}
theorem nM(c:A.handled=a8)(h:∀h' e,(∀b o,s.heap.get? b=a7 o->h'.get? b=a7 o)->(∃o,h'.get? e=a7 o/\o.cls=.type "StopIteration")->F (.ref e) { s with heap:=h' }):f8 (ge prog w) A (do raiseNew (<-newExc (.type "StopIteration") []):Sem Fin) Q F s:=by refine u8 ?_;simp only[newExc,newTuple];refine u8 (Lu (u8 (m:=o7 _ _)<|OE (a:=K1) (by first|rfl|(simp only[o7];rfl))<|Lu ?_<|by size_fits)<|by size_fits);simp only[raiseNew];refine u8<|wpAny_handled ?_;rw[c];exact u8<|v5<|wpAny_throw<|h _ _ (λb o e=>A3 _<|A3 _ e) ⟨_,C7 _ rfl,rfl⟩
theorem ma{slot i next:Nat}{x:b7}{Q:Option b7->e8->Prop}(I:s.heap.get? it=a7 (eJ (j5 slot) i es.size a ep))(S:SetAt s.heap a o es ep t)(f:∀(A:e7) (E:b7->e8->Prop) (Q:Option (b7×Nat)->e8->Prop),Q (a7 (x,next)) s->f8 (ge prog w) A (setNext a slot i ep) Q E s)(b:∀h',h'.get? it=a7 (eJ (j5 next) (i+1) es.size a ep)->J3 it s.heap h'->Q (a7 x) { s with heap:=h' }):f8 (ge prog w) A (j0<|.ref it) Q E s:=by
 have m:s.TypeIs (.ref it) "set_iterator":=⟨_,I,rfl⟩
 unfold j0;refine u8<|MM<|Mo (name:=v6 "__next__") m bh<|K4 bh m eK ?_<|fX _;unfold Builtin.«set_iterator.__next__»;refine u8<|v5<|u8<|MN I rfl ?_;dsimp only[eJ,j5];refine u8<|PK S.ob S.dt S.ft ?_;rw[t7<|by simp];refine u8<|f _ _ _ ?_;dsimp only;refine u8<|Nc I rfl (by simp)<|u8<|Nc (LO _ I rfl) rfl (by simp)<|v5 ⟨x,rfl,v5<|b _ ?_<|(LN ..).trans<|LN ..⟩;refine(LO _ (LO _ I rfl) rfl).trans ?_;simp[eJ,Obj.mapFields,j5]
theorem eE{slot i:Nat}{Q:Option b7->e8->Prop}(g:A.handled=a8)(I:s.heap.get? it=a7 (eJ (j5 slot) i es.size a ep))(S:SetAt s.heap a o es ep t)(n:∀(A:e7) (E:b7->e8->Prop) (Q:Option (b7×Nat)->e8->Prop),Q a8 s->f8 (ge prog w) A (setNext a slot i ep) Q E s)(h:∀h',(∀b o,b≠it->s.heap.get? b=a7 o->h'.get? b=a7 o)->Q a8 { s with heap:=h' }):f8 (ge prog w) A (j0<|.ref it) Q E s:=by
 have m:s.TypeIs (.ref it) "set_iterator":=⟨_,I,rfl⟩
 unfold j0;refine u8<|MM<|Mo (name:=v6 "__next__") m bh<|K4 bh m eK ?_<|fX _;unfold Builtin.«set_iterator.__next__»;refine u8<|v5<|u8<|MN I rfl ?_;dsimp only[eJ,j5];refine u8<|PK S.ob S.dt S.ft ?_;rw[t7<|by simp];refine u8<|n _ _ _ ?_;dsimp only;refine u8<|Nc I rfl (by simp) ?_;refine nM (by simp[g]) ?_;rintro h' e k ⟨y,c,f⟩;refine u8<|N0 (T:="StopIteration") (b:=a9) ⟨y,c,f⟩ Pp<|v5<|h h' λb j d M=>k b j ?_;exact((LN ..).2 b d).trans M
theorem xk{tt:c8}{ps:List Nat}{i j:Nat}{e:Int×b7}{Q:Option b7->e8->Prop}(I:s.heap.get? it=a7 (eJ (.ref tt) i es.size a ep))(C:s.heap.IsTuple tt (ps.map λ(k:Nat)=>j5 k).toArray)(S:SetAt s.heap a o es ep t)(hj:ps[i]?=a7 j) (d:es[j]?=a7 e) (c:∀h',h'.get? it=a7 (eJ (.ref tt) (i+1) es.size a ep)->J3 it s.heap h'->Q (a7 e.2) { s with heap:=h' }):f8 (ge prog w) A (j0<|.ref it) Q E s:=by
 have m:s.TypeIs (.ref it) "set_iterator":=⟨_,I,rfl⟩
 obtain⟨f,b,_,n,h⟩:=C;unfold j0;refine u8<|MM<|Mo (name:=v6 "__next__") m bh<|K4 bh m eK ?_<|fX _;unfold Builtin.«set_iterator.__next__»;refine u8<|v5<|u8<|MN I rfl ?_;dsimp only[eJ,j5];refine u8<|PK S.ob S.dt S.ft ?_;rw[t7<|by simp];refine u8<|Mc b h ?_;have x:(ps.map λ(k:Nat)=>j5 k).toArray[i]?=a7 (.int j 0):=by simp[hj,j5]
 simp only[Lv,x];unfold setNextDrawn;refine u8<|u8<|ME S.ob S.dt S.ft ?_;simp only[bne_self_eq_false,C4,u4,d];refine v5<|u8<|Nc I rfl (by simp)<|v5 ⟨_,rfl,v5<|c _ ?_<|LN ..⟩;refine(LO _ I rfl).trans ?_;simp[eJ,Obj.mapFields,j5]
theorem mO{tt:c8}{ps:List Nat}{i:Nat}{Q:Option b7->e8->Prop}(l:A.handled=a8)(I:s.heap.get? it=a7 (eJ (.ref tt) i es.size a ep))(C:s.heap.IsTuple tt (ps.map λ(k:Nat)=>j5 k).toArray)(S:SetAt s.heap a o es ep t)(hj:ps[i]?=a8) (d:∀h',(∀b o,b≠it->s.heap.get? b=a7 o->h'.get? b=a7 o)->Q a8 { s with heap:=h' }):f8 (ge prog w) A (j0<|.ref it) Q E s:=by
 have m:s.TypeIs (.ref it) "set_iterator":=⟨_,I,rfl⟩
 obtain⟨r,c,_,q,h⟩:=C;unfold j0;refine u8<|MM<|Mo (name:=v6 "__next__") m bh<|K4 bh m eK ?_<|fX _;unfold Builtin.«set_iterator.__next__»;refine u8<|v5<|u8<|MN I rfl ?_;dsimp only[eJ,j5];refine u8<|PK S.ob S.dt S.ft ?_;rw[t7<|by simp];refine u8<|Mc c h ?_;have x:(ps.map λ(k:Nat)=>j5 k).toArray[i]?=a8:=by simpa using hj
 simp only[Lv,x];refine u8<|Nc I rfl (by simp)<|u8<|Nc (LO _ I rfl) rfl (by simp) ?_;refine nM (by simp[l]) ?_;rintro h' e n ⟨y,j,g⟩;refine u8<|N0 (T:="StopIteration") (b:=a9) ⟨y,j,g⟩ Pp<|v5<|d h' λb p f M=>n b p ?_;exact(((LN ..).trans<|LN ..).2 b f).trans M
end
end L2
namespace L2
theorem nodup_le{α:Type}[DecidableEq α]:∀(l xs:List α),l.Nodup->(∀x∈l,x∈xs)->l.length<=xs.length
 | [],xs,_,_=>D6 _
 |a::l,xs,nd,h=>by have ha:a∈xs:=h a F5;have nd':=LK.mp nd;have ih:=nodup_le l (xs.erase a) nd'.2 λx hx=>(List.mem_erase_of_ne<|show x≠a from λz=>nd'.1<|by rw[<-z];exact hx).mpr<|h x<|D4 _ hx;rw[List.length_erase_of_mem ha]at ih;have:0<xs.length:=List.length_pos_of_mem ha;rw[E9];lia
end L2
namespace Ht
open PySem
noncomputable def O9(m:Nat)(p:NW):NW:=if p.more > 0 then { p with j:=p.j+1,more:=p.more-1 } else
 { p with j:=(NF m p.i p.perturb).1,more:=LA m (NF m p.i p.perturb).1-(NF m p.i p.perturb).1,i:=(NF m p.i p.perturb).1,perturb:=(NF m p.i p.perturb).2 }
noncomputable def iV(m i t:Nat):NW:={ j:=i,more:=LA m i-i,i,perturb:=t,dummy:=a8 }
noncomputable def lB(m:Nat)(p:NW):Nat->NW
 | 0=>p
 |n+1=>O9 m<|lB m p n
noncomputable def sq(m:Nat)(h:Int)(n:Nat):NW:=lB m (iV m (Nb h % (m+1))<|Nb h) n
theorem qX(m:Nat)(p:NW)(a b:Nat):lB m p (a+b)=lB m (lB m p a) b:=by
 induction b with
 |zero=>rfl
 |succ b i=>rw[Nat.add_succ,lB,i];rfl
theorem Io(m i:Nat):LA m i-i<=9:=by unfold LA;split<;>lia
theorem Am(m i pt:Nat):∀k,k<=LA m i-i->lB m (iV m i pt) k={ j:=i+k,more:=LA m i-i-k,i,perturb:=pt,dummy:=a8 }
 | 0,_=>by simp[lB,iV]
 |k+1,h=>by rw[lB,Am m i pt k<|by lia];unfold O9;rw[t6<|show LA m i-i-k > 0 by lia];simp only[SetTable.Probe.mk.injEq,true_and,and_true];lia
theorem Ct(m i t:Nat):lB m (iV m i t) (LA m i-i+1)=iV m (NF m i t).1 (NF m i t).2:=by rw[lB,Am m i t _<|x9 _];unfold O9;rw[t7<|show ¬LA m i-i-(LA m i-i) > 0 by lia];rfl
noncomputable def dZ(m:Nat)(h:Int):Nat->Nat×Nat
 | 0=>(Nb h % (m+1),Nb h)
 |k+1=>NF m (dZ m h k).1 (dZ m h k).2
noncomputable def eQ(m:Nat)(h:Int):Nat->Nat
 | 0=>0
 |k+1=>eQ m h k+(LA m (dZ m h k).1-(dZ m h k).1+1)
theorem Ec(m:Nat)(h:Int)(k:Nat):eQ m h k<=10*k:=by
 induction k with
 |zero=>exact x9 _
 |succ k i=>have:=Io m (dZ m h k).1;unfold eQ;lia
theorem Ei(m:Nat)(h:Int)(k:Nat):sq m h (eQ m h k)=iV m (dZ m h k).1 (dZ m h k).2:=by
 induction k with
 |zero=>rfl
 |succ k i=>unfold sq at i ⊢;unfold eQ;rw[qX,i,Ct];rfl
theorem yZ(m:Nat)(h:Int)(k r:Nat)(i:r<=LA m (dZ m h k).1-(dZ m h k).1):(sq m h<|eQ m h k+r).j=(dZ m h k).1+r:=by have e:=Ei m h k;unfold sq at e ⊢;rw[qX,e,Am _ _ _ _ i]
theorem Hm(h:Int):Nb h<2 ^ 64:=by unfold Nb;have a:=Int.emod_nonneg h (show (2 ^ 64:Int)≠0 by decide);have h1:=Int.emod_lt_of_pos h (show (0:Int)<2 ^ 64 by decide);lia
theorem nS(m:Nat)(h:Int):∀k,(dZ m h k).2=Nb h / 32 ^ k
 | 0=>by simp[dZ]
 |k+1=>by show (dZ m h k).2 / 32=_;rw[nS m h k,Nat.div_div_eq_div_mul,<-Nat.pow_succ]
theorem rM(m:Nat)(h:Int)(k:Nat)(a:13<=k):(dZ m h k).2=0:=by
 rw[nS];apply Nat.div_eq_of_lt;have h1:=Hm h;have h2:32 ^ 13<=32 ^ k:=Nat.pow_le_pow_right (by decide) a;have b:(2:Nat) ^ 64<32 ^ 13:=by decide
 lia
noncomputable def uZ(m i:Nat):Nat:=(i*5+1) % (m+1)
noncomputable def bO(m i:Nat):Nat->Nat
 | 0=>i
 |k+1=>uZ m<|bO m i k
theorem dW(m i a b:Nat):bO m i (a+b)=bO m (bO m i a) b:=by
 induction b with
 |zero=>rfl
 |succ b h=>rw[Nat.add_succ,bO,h];rfl
theorem tY(m:Nat)(h:Int)(r:Nat):(dZ m h<|13+r).1=bO m (dZ m h 13).1 r:=by
 induction r with
 |zero=>rfl
 |succ r i=>show (NF m (dZ m h<|13+r).1 (dZ m h<|13+r).2).1=uZ m (bO m (dZ m h 13).1 r);rw[rM m h _ (by lia),i];rfl
theorem tZ(m:Nat)(h:Int):∀k,(dZ m h k).1<=m
 | 0=>Nat.lt_succ_iff.mp<|Nat.mod_lt _<|Nat.succ_pos _
 |k+1=>Nat.lt_succ_iff.mp<|Nat.mod_lt _<|Nat.succ_pos _
def Hy(m:Nat):Prop:=bO m 0 (m+1)=0/\∀s,s<=m->∃k,k<=m/\bO m 0 k=s
noncomputable def uj(m:Nat):Nat->Nat->List Nat
 | 0,_=>[]
 |n+1,i=>i::uj m n (uZ m i)
theorem lT(m:Nat):∀(n i k:Nat),k<n->(uj m n i)[k]?=a7 (bO m i k)
 | 0,_,_,h=>t8 h<|NI _
 |n+1,i,0,_=>rfl
 |n+1,i,k+1,h=>by rw[uj,QP,lT m n (uZ m i) k (by lia),<-show bO m (bO m i 1) k=bO m i (k+1)from by rw[<-dW,Nat.add_comm]];rfl
theorem uJ(m:Nat)(h:((uj m (m+2) 0)[m+1]?==a7 0&&(E4<|m+1).all λs=>(uj m (m+1) 0).contains s)=a9):Hy m:=by
 rw[G7,u3,F4]at h;refine⟨?_,λs hs=>?_⟩;have:=lT m (m+2) 0 (m+1) (by lia);rw[h.1]at this;exact(D0 this).symm;have:=h.2 s (K6.mpr<|by lia);rw[List.contains_iff_mem]at this;obtain⟨k,a⟩:=Mg this;have g:k<m+1:=by
  have:=(B6.mp a).1;have B:∀n i,(uj m n i).length=n:=by
   intro n;induction n with
   |zero=>intro i;rfl
   |succ n b=>intro i;simp[uj,b]
  rw[B]at this;exact this
 rw[lT m _ 0 k g]at a;exact⟨k,by lia,D0 a⟩
theorem full7:Hy 7:=uJ 7<|by decide +kernel
theorem Kq:Hy 31:=uJ 31<|by decide +kernel
theorem GE:Hy 127:=uJ 127<|by decide +kernel
theorem Av(F:Hy m)(hi:i<=m)(hs:s<=m):∃k,k<=m/\bO m i k=s:=by obtain⟨a,f,c⟩:=F.2 i hi;obtain⟨b,d,M⟩:=F.2 s hs;by_cases h:a<=b;refine⟨b-a,by lia,?_⟩;rw[<-c,<-dW,show a+(b-a)=b by lia];exact M;refine⟨m+1-a+b,by lia,?_⟩;rw[<-c,<-dW,show a+(m+1-a+b)=(m+1)+b by lia,dW,F.1];exact M
def mW(m:Nat):Prop:=m=7\/m=31\/m=127
theorem mW.full(h:mW m):Hy m:=by rcases h with rfl|rfl|rfl;exact full7;exact Kq;exact GE
theorem ED(d:mW m)(h:Int)(hs:s<=m):∃k,k<=m+13/\(dZ m h k).1=s:=by obtain⟨r,i,e⟩:=Av d.full (tZ m h 13) hs;exact⟨13+r,by lia,by rw[tY];exact e⟩
theorem EY(d:mW m)(h:Int)(hs:s<=m):∃n,n<10*(m+15)/\(sq m h n).j=s:=by obtain⟨k,a,e⟩:=ED d h hs;refine⟨eQ m h k,by have:=Ec m h k;lia,?_⟩;rw[Ei];exact e
theorem Ih(h:Int):∀n,∃k r,r<=LA m (dZ m h k).1-(dZ m h k).1/\n=eQ m h k+r
 | 0=>⟨0,0,D6 _,rfl⟩
 |n+1=>by obtain⟨k,r,hr,e⟩:=Ih (m:=m) h n;by_cases q:r<LA m (dZ m h k).1-(dZ m h k).1;exact⟨k,r+1,q,by lia⟩;exact⟨k+1,0,D6 _,by rw[eQ];lia⟩
theorem yY(h:Int)(n:Nat):(sq m h n).j<=m:=by obtain⟨k,r,i,e⟩:=Ih (m:=m) h n;rw[e,yZ m h k r i];have:=tZ m h k;unfold LA at i;split at i<;>lia
theorem below_spec(xs:Array Nat)(v:xs.toList.Pairwise (· < ·))(j:Nat):G6 xs j<=xs.size/\(∀k (h:k<xs.size),k<G6 xs j->xs[k]<j)/\∀k (h:k<xs.size),G6 xs j<=k->j<=xs[k]:=by
 have m:∀a b (g:a<xs.size) (i:b<xs.size),a<b->xs[a]<xs[b]:=λa b g i h=>by have:=PU.mp v a b (by simpa using g) (by simpa using i) h;simpa using this
 have r:∀(l o hi:Nat),o<=hi->hi<=xs.size->hi-o<=l->(∀k (h:k<xs.size),k<o->xs[k]<j)->(∀k (h:k<xs.size),hi<=k->j<=xs[k]) -> Oo xs j l o hi<=xs.size/\(∀k (h:k<xs.size),k<Oo xs j l o hi->xs[k]<j)/\∀k (h:k<xs.size),Oo xs j l o hi<=k->j<=xs[k]:=by
  intro l;induction l with
  |zero =>
   intro o hi h1 h2 s d c;have:o=hi:=by lia
   subst this;exact⟨h2,d,c⟩
  |succ l n =>
   intro o hi h1 h2 s d c;unfold Oo;by_cases h:o<hi;rw[t6 h];have f:(o+hi) / 2<xs.size:=by lia
   have p:xs.getD ((o+hi) / 2) j=xs[(o+hi) / 2]:=by simp[MA,f]
   simp only[p];by_cases q:xs[(o+hi) / 2]<j;rw[t6 q];refine n _ _ (by lia) h2 (by lia) (λk e u=>?_) c;rcases MI k ((o+hi) / 2)with z|z;exact Nat.lt_trans (m k _ e f z) q;have:k=(o+hi) / 2:=by lia
   subst this;exact q;rw[t7 q];refine n _ _ (by lia) (by lia) (by lia) d λk e t=>?_;rcases MI ((o+hi) / 2) k with z|z;exact K3 (Nm.mp q)<|Pl<|m _ k f e z;have:k=(o+hi) / 2:=by lia
   subst this;exact Nm.mp q;rw[t7 h];have:o=hi:=by lia
   subst this;exact⟨h2,d,c⟩
 exact r xs.size 0 xs.size (D6 _) (x9 _) (by lia) (λk _ h=>t8 h<|NI _) λk h h'=>t8 h<|Nm.mpr h'
theorem below_at(r:xs.toList.Pairwise (· < ·))(h:xs[i]?=a7 j):G6 xs j=i:=by
 obtain⟨hi,e⟩:=MU.mp h;obtain⟨g,c,u⟩:=below_spec xs r j;have m:∀a b (f:a<xs.size) (d:b<xs.size),a<b->xs[a]<xs[b]:=λa b f d h=>by have:=PU.mp r a b (by simpa using f) (by simpa using d) h;simpa using this
 rcases PC (G6 xs j) i with q|q|q;have d:G6 xs j<xs.size:=by lia
 have:=u _ d<|x9 _;have:=m _ i d hi q;lia;exact q;have:=c i hi q;lia
theorem slot_live{t:p5}(r:t.place.toList.Pairwise (· < ·)){i j:Nat}(h:t.place[i]?=a7 j):t.slot j=.live i:=by unfold SetTable.slot;simp only[below_at r h];rw[t6<|by rw[h];simp]
theorem wX{t:p5}(d:t.dummies = #[]){j:Nat}(h:j∉t.place.toList):t.slot j=.empty:=by
 unfold SetTable.slot;have e:¬(t.place[G6 t.place j]?==a7 j)=a9:=λz=>h (by rw[u3]at z;have:=Array.mem_of_getElem? z;simpa using this);have l:SetTable.has t.dummies j=bt:=by rw[d];rfl
 simp only[e,u4,l,C4]
theorem go_spec{t:p5}(r:t.place.toList.Pairwise (· < ·))(x:t.dummies = #[])(hashAt:Nat->Int)(h:Int):∀(fuel n N:Nat),n<=N->N<n+fuel->(sq t.mask h N).j∉t.place.toList->(∀k,n<=k->k<N->(sq t.mask h k).j∈t.place.toList) ->(∀k,(sq t.mask h k).dummy=a8) ->((∀k i,n<=k->k<N->t.place[i]?=a7 (sq t.mask h k).j->hashAt i≠h)/\Rj t hashAt h fuel (sq t.mask h n)=a7 (.empty (sq t.mask h N).j a8)) \/∃n' i,n<=n'/\n' < N/\t.place[i]?=a7 (sq t.mask h n').j/\hashAt i=h/\(∀k i,n<=k->k<n'->t.place[i]?=a7 (sq t.mask h k).j->hashAt i≠h)/\Rj t hashAt h fuel (sq t.mask h n)=a7 (.candidate (sq t.mask h n').j i<|sq t.mask h<|n'+1):=by
 intro fuel;induction fuel with
 |zero=>intro n N h1 h2;lia
 |succ fuel A =>
  intro n N h1 h2 g l m;unfold Rj;by_cases e:n=N;subst e;rw[wX x g];exact .inl ⟨λk i a b=>by lia,by rw[m]⟩;have y:=l n (x9 _) (by lia);obtain⟨i,hi⟩:=Mg y;have d:t.place[i]?=a7 (sq t.mask h n).j:=by rw[<-J5];exact hi
  rw[slot_live r d];dsimp only;have u:∀i',t.place[i']?=a7 (sq t.mask h n).j->i'=i:=λi' z=>by rw[<-below_at r z,below_at r d]
  by_cases q:hashAt i=h;simp only[u3,q,u5];exact .inr ⟨n,i,x9 _,by lia,d,q,λk i a b=>by lia,rfl⟩;simp only[u3,q,u4];rcases A (n+1) N (by lia) (by lia) g (λk a b=>l k (by lia) b) m with⟨B,C⟩|⟨n',i',D,o,p,s,v,w⟩
  refine .inl ⟨λk i' a b c=>?_,C⟩;rcases MI n k with z|z;exact B k i' z b c;have:k=n:=by lia
  subst this;rw[u i' c];exact q;refine .inr ⟨n',i',by lia,o,p,s,λk f a b c=>?_,w⟩;rcases MI n k with z|z;exact v k f z b c;have:k=n:=by lia
  subst this;rw[u f c];exact q
theorem sq_dummy(m:Nat)(h:Int):∀n,(sq m h n).dummy=a8
 | 0=>rfl
 |n+1=>by show (O9 m<|sq m h n).dummy=a8;unfold O9;split;exact sq_dummy m h n;exact sq_dummy m h n
structure TOk(t:p5)(hs:List Int):Prop where
 msk:mW t.mask
 len:t.place.size=hs.length
 nod:t.dummies = #[]
 ris:t.place.toList.Pairwise (· < ·)
 rng:∀j∈t.place.toList,j<=t.mask
 few:t.place.size*5<t.mask*3
 path:∀(i:Nat) (h:Int) (j:Nat),hs[i]?=a7 h->t.place[i]?=a7 j->∃n,(sq t.mask h n).j=j/\∀n',n' < n->(sq t.mask h n').j∈t.place.toList
theorem As{m:Nat}{l:List Nat}(n:l.Nodup)(i:∀j∈l,j<=m)(g:l.length<=m):∃j,j<=m/\j∉l:=by refine NO λf=>?_;have a:∀j∈E4 (m+1),j∈l:=λj L=>NO λh=>f ⟨j,by have:=K6.mp L;lia,h⟩;have:=L2.nodup_le (E4<|m+1) l List.nodup_range a;rw[N5]at this;lia
theorem uK{m:Nat}(f:mW m){l:List Nat}(i:l.Nodup)(r:∀j∈l,j<=m)(g:l.length<=m)(h:Int):∃N,N<10*(m+15)/\(sq m h N).j∉l/\∀k,k<N->(sq m h k).j∈l:=by
 obtain⟨s,hs,u⟩:=As i r g;obtain⟨n,I,t⟩:=EY f h hs;have:∀b n,n<b->(sq m h n).j∉l->∃N,N<=n/\(sq m h N).j∉l/\∀k,k<N->(sq m h k).j∈l:=by
  intro b;induction b with
  |zero=>intro n h;lia
  |succ b p=>intro n v o;by_cases q:∀k,k<n->(sq m h k).j∈l;exact⟨n,x9 _,o,q⟩;have:∃k,k<n/\(sq m h k).j∉l:=NO λz=>q λk e=>NO λG=>z ⟨k,e,G⟩;obtain⟨k,e,d⟩:=this;obtain⟨N,C,a,c⟩:=p k (by lia) d;exact⟨N,by lia,a,c⟩
 obtain⟨N,C,a,c⟩:=this (n+1) n (Mf _) (by rw[t];exact u);exact⟨N,by lia,a,c⟩
theorem TOk.empty{t:p5}{hs:List Int}(T:TOk t hs)(h:Int):∃N,N<10*(t.mask+15)/\(sq t.mask h N).j∉t.place.toList/\∀k,k<N->(sq t.mask h k).j∈t.place.toList:=by refine uK T.msk (T.ris.imp λh=>A8 h) T.rng ?_ h;have:=T.few;rw[G2];rcases T.msk with e|e|e<;>lia
theorem zf{t:p5}(r:t.place.toList.Pairwise (· < ·)){j:Nat}(hj:j∉t.place.toList):(t.put j).1.place.toList=t.place.toList.take (G6 t.place j)++j::t.place.toList.drop (G6 t.place j)/\(t.put j).1.place.toList.Pairwise (· < ·):=by
 obtain⟨o,m,u⟩:=below_spec t.place r j;have e:(t.put j).1.place.toList=t.place.toList.take (G6 t.place j)++j::t.place.toList.drop (G6 t.place j):=by show (Qw t.place (G6 t.place j) j).toList=_;rw[SetTable.toList_insertAt]
 refine⟨e,?_⟩;rw[e,List.pairwise_append];refine⟨r.sublist<|PD ..,List.pairwise_cons.mpr ⟨λx d=>?_,r.sublist<|List.drop_sublist ..⟩,λx d y Q=>?_⟩;obtain⟨k,h⟩:=Mg d;rw[QD]at h;have c:t.place[G6 t.place j+k]?=a7 x:=by rw[<-J5];exact h
 obtain⟨g,f⟩:=MU.mp c;have:=u _ g<|Px _ _;rw[f]at this;rcases MI j x with z|z;exact z;have:x=j:=by lia
 subst this;exact t8 (List.mem_of_mem_drop d) hj;obtain⟨k,h⟩:=Mg d;rw[List.getElem?_take]at h;split at h;rename_i l;have c:t.place[k]?=a7 x:=by rw[<-J5];exact h
 obtain⟨g,f⟩:=MU.mp c;have h1:=m k g l;rw[f]at h1;rcases A9.mp Q with rfl|Q;exact h1;obtain⟨C,a⟩:=Mg Q;rw[QD]at a;have b:t.place[G6 t.place j+C]?=a7 y:=by rw[<-J5];exact a
 obtain⟨i,n⟩:=MU.mp b;have:=u _ i<|Px _ _;rw[n]at this;lia;cases h
end Ht
namespace L2
open PySem PySem.Spec PyProof.Rows DL PySem.W
theorem fj:Slot "set_iterator" "__iter__" "set_iterator.__iter__":=.of (owner:="set_iterator") (n:="__iter__") (by rw[Pt,PP];kernel_rfl) (by decide +kernel) (by decide +kernel) (by decide +kernel) (by first|exact .inl (by decide +kernel)|exact .inr<|by decide +kernel)<|by rw[isSubtype_type];kernel_rfl
theorem kb:entryFor table "set_iterator.__iter__" = a7 Builtin.«dict_keyiterator.__iter__»:=entryFor_alias (id':="dict_keyiterator.__iter__") (by kernel_rfl) rfl (by decide +kernel)<|by kernel_rfl
theorem mD(a:b7):argsOk "set_iterator.__iter__" ⟨[a],[]⟩:=by unfold argsOk;rw[signature?_of (id:="set_iterator.__iter__") (n:=['_','_','r','e','t','i','_','_']) (o:=['r','o','t','a','r','e','t','i','_','t','e','s']) (by kernel_rfl) lR];kernel_rfl
section
variable{prog:c7}{w:c6}{A:e7}{E:b7->e8->Prop}{s:e8}{a it:c8}{o:c9}{es:Array (Int×b7)}{ep:Nat}{t:p5}
theorem fO(I:s.heap.get? it=a7 (eJ first i n a ep))(h:Q (.ref it) s):f8 (ge prog w) A (j4<|.ref it) Q E s:=by
 have m:s.TypeIs (.ref it) "set_iterator":=⟨_,I,rfl⟩
 refine Qv m fj<|K4 fj m kb (show f8 _ _ (ret<|.ref it) _ _ s from ?_)<|mD _;exact v5 ⟨_,rfl,"set_iterator",_,m,bh.lookup,h⟩
theorem SetAt.at(S:SetAt h a o es ep t)(k:∀o,h.get? a=a7 o->h'.get? a=a7 o):SetAt h' a o es ep t:=⟨k _ S.ob,S.dt,S.ft⟩
theorem jG(d:w.params.followText "set-order" = a9)(S:SetAt s.heap a o es ep t)(h:Q (((t5 (w.params.setOrder a ep) es)[i]?).map λe=>(e.2,0)) s):f8 (ge prog w) A (setNext a 0 i ep) Q E s:=by unfold setNext;refine u8<|ME S.ob S.dt S.ft ?_;unfold setsByText;refine u8<|u8<|On<|v5 ?_;simp only[ge,d,u5,bne_self_eq_false,C4,u4];unfold setWalk;refine u8<|u8<|ME S.ob S.dt S.ft ?_;unfold setsByText;refine u8<|u8<|On<|v5 ?_;simp only[ge,d,u5];exact u8<|On<|v5<|v5 h
theorem wP(d:w.params.followText "set-order" = a9)(n:A.handled=a8)(j:a≠it):o5 prog w A it [it,a] [it] es.size (λi v=>((t5 (w.params.setOrder a ep) es).toList.map (·.2))[i]?=a7 v) (λi h=>h.get? it=a7 (eJ (j5 0) i es.size a ep)/\SetAt h a o es ep t) where
 sub:=λb d=>by simp at d;simp[d]
 frame:=λ_ _ _ c m=>⟨m it (by simp) _ c.1,c.2.at λo e=>m a (by simp) o e⟩
 item:=λi s Q E hi c f=>by
  have g:(t5 (w.params.setOrder a ep) es).size=es.size:=by have:=(lI (w.params.setOrder a ep) es).length_eq;simpa using this
  obtain⟨e,l⟩:∃e,(t5 (w.params.setOrder a ep) es)[i]?=a7 e:=⟨_,K5<|by rw[g];exact hi⟩
  refine ma (slot:=0) (next:=0) (x:=e.2) c.1 c.2 (λA E Q q=>jG d c.2<|by rw[l];exact q) λh' h1 U=>f _ h' s.toks (by simp[l]) ⟨h1,c.2.at λo e=>(U.2 a j).trans e⟩ λb o d e=>(U.2 b<|by simpa using d).trans e
 done:=λs Q E c f=>by
  have g:(t5 (w.params.setOrder a ep) es).size=es.size:=by have:=(lI (w.params.setOrder a ep) es).length_eq;simpa using this
  refine eE (slot:=0) n c.1 c.2 (λA E Q q=>jG d c.2 ?_) λh' k=>f h' s.toks λb o d e=>k b o (by simpa using d) e;rw[OV<|by rw[g];exact x9 _];exact q
 self:=λ_ _ _ _ c f=>fO c.1 f
theorem tM{tt:c8}{ps:List Nat}(hp:ps.Perm (E4 es.size))(x:A.handled=a8)(n:a≠it)(p:tt≠it):o5 prog w A it [it,a,tt] [it] es.size (λi v=>(ps.filterMap λj=>(es[j]?).map (·.2))[i]?=a7 v) (λi h=>h.get? it=a7 (eJ (.ref tt) i es.size a ep)/\SetAt h a o es ep t/\h.IsTuple tt (ps.map λ(k:Nat)=>j5 k).toArray) where
 sub:=λb g=>by simp at g;simp[g]
 frame:=λ_ _ _ c m=>⟨m it (by simp) _ c.1,c.2.1.at λo e=>m a (by simp) o e,let ⟨o,e,r⟩:=c.2.2;⟨o,m tt (by simp) _ e,r⟩⟩
 item:=λi s Q E hi c f=>by
  have u:ps.length=es.size:=by have:=hp.length_eq;simpa using this
  have l:∀j∈ps,j<es.size:=λj L=>by have:=hp.mem_iff.mp L;simpa using this
  have L:ps[i]?=a7 ps[i]:=A4 (by lia);have d:ps[i]<es.size:=l _<|Mm _;have q:es[ps[i]]?=a7 es[ps[i]]:=K5 d;have H:(ps.filterMap λj=>(es[j]?).map (·.2))=ps.map λj=>(es.getD j default).2:=by
   clear L u hp hi c f q d;induction ps with
   |nil=>rfl
   |cons j r y=>have L:=l j F5;rw[N8,K5 L,D7,<-y λk m=>l k<|D4 _ m];simp[MA,L]
  refine xk c.1 c.2.2 c.2.1 L q λh' h1 U=>f _ h' s.toks ?_ ⟨h1,c.2.1.at λo e=>(U.2 a n).trans e,let ⟨o,e,r⟩:=c.2.2;⟨o,(U.2 tt p).trans e,r⟩⟩ λb o g e=>(U.2 b<|by simpa using g).trans e;rw[H,E1,L];simp[MA,d]
 done:=λs Q E c f=>by
  have u:ps.length=es.size:=by have:=hp.length_eq;simpa using this
  exact mO x c.1 c.2.2 c.2.1 (N9<|by lia) λh' k=>f h' s.toks λb o g e=>k b o (by simpa using g) e
 self:=λ_ _ _ _ c f=>fO c.1 f
theorem jH(b:w.params.followText "set-order" = bt)(d:t.led=a9)(c:es.size<=1)(S:SetAt s.heap a o es ep t)(h:Q (match es[G6 t.place slot]?,t.place[G6 t.place slot]? with|some (_,x),a7 j=>a7 (x,j+1)|_,_=>a8) s):f8 (ge prog w) A (setNext a slot i ep) Q E s:=by unfold setNext;refine u8<|ME S.ob S.dt S.ft ?_;unfold setsByText;refine u8<|u8<|On<|v5 ?_;simp only[ge,b,C4,u4];refine Nu (λz=>?_) λ_=>?_;have G:(!t.plain&&decide (es.size > 1))=a9:=z;simp at G;lia;refine u8<|show f8 (ge prog w) A (if (!t.led && !es.isEmpty)=a9 then unsupported _ else pure ()) _ _ s from ?_;rw[d];simp only[MK,Ps,C4,u4];exact v5<|v5 h
theorem tw(j k:Nat):G6 #[j] k=if j<k then 1 else 0:=by unfold G6;simp only[C8,E9,G8];unfold Oo;simp only[Nat.zero_lt_succ,u5];by_cases h:j<k;simp[h,Oo];simp[h,Oo]
theorem wQ(d:w.params.followText "set-order" = bt)(f:t.led=a9)(l:es.size<=1)(u:A.handled=a8)(m:a≠it):o5 prog w A it [it,a] [it] es.size (λi v=>(es.toList.map (·.2))[i]?=a7 v) (λi h=>h.get? it=a7 (eJ (j5 (if i=0 then 0 else t.place.getD 0 0+1:Nat)) i es.size a ep)/\SetAt h a o es ep t) where
 sub:=λb d=>by simp at d;simp[d]
 frame:=λ_ _ _ c p=>⟨p it (by simp) _ c.1,c.2.at λo e=>p a (by simp) o e⟩
 item:=λi s Q E hi c g=>by
  obtain rfl:i=0:=by lia
  have ps:t.place.size=1:=by have:=c.2.ft;simp[OK]at this;lia
  obtain⟨j,L⟩:∃j,t.place = #[j]:=⟨t.place[0],by apply Array.ext (by simpa using ps);intro i h1 h2;simp at h2;subst h2;rfl⟩
  have n:es[0]?=a7 es[0]:=K5 hi;refine ma (slot:=0) (next:=j+1) (x:=es[0].2) c.1 c.2 (λA E Q q=>jH d f l c.2 ?_) λh' h1 U=>g _ h' s.toks ?_ ⟨?_,c.2.at λo e=>(U.2 a m).trans e⟩ λb o d e=>(U.2 b<|by simpa using d).trans e;rw[L,tw,t7<|NI _,n];exact q;rw[E1,J5,n];rfl;simpa [L]using h1
 done:=λs Q E c g=>by
  refine eE (slot:=if es.size=0 then 0 else t.place.getD 0 0+1) u c.1 c.2 (λA E Q q=>jH d f l c.2 ?_) λh' k=>g h' s.toks λb o d e=>k b o (by simpa using d) e;have ps:t.place.size=es.size:=by have:=c.2.ft;simp[OK]at this;lia
  by_cases z:es.size=0;have:es = #[]:=Array.eq_empty_of_size_eq_zero z;subst this;simpa using q;obtain⟨j,L⟩:∃j,t.place = #[j]:=⟨t.place[0],by apply Array.ext (by simp;lia);intro i h1 h2;simp at h2;subst h2;rfl⟩
  have r:G6 t.place (if es.size=0 then 0 else t.place.getD 0 0+1)=1:=by rw[t7 z,L,tw];simp
  rw[r,OV<|by lia];exact q
 self:=λ_ _ _ _ c g=>fO c.1 g
theorem jI(c:w.params.followText "set-order" = bt)(d:t.led=a9)(b:(!t.plain&&decide (es.size > 1))=bt)(S:SetAt s.heap a o es ep t)(h:Q (match es[G6 t.place slot]?,t.place[G6 t.place slot]? with|some (_,x),a7 j=>a7 (x,j+1)|_,_=>a8) s):f8 (ge prog w) A (setNext a slot i ep) Q E s:=by unfold setNext;refine u8<|ME S.ob S.dt S.ft ?_;unfold setsByText;refine u8<|u8<|On<|v5 ?_;simp only[ge,c,C4,u4];refine Nu (λz=>?_) λ_=>?_;have G:(!t.plain&&decide (es.size > 1))=a9:=z;rw[b]at G;cases G;refine u8<|show f8 (ge prog w) A (if (!t.led && !es.isEmpty)=a9 then unsupported _ else pure ()) _ _ s from ?_;rw[d];simp only[MK,Ps,C4,u4];exact v5<|v5 h
theorem wR(d:w.params.followText "set-order" = bt)(f:t.led=a9)(m:(!t.plain&&decide (es.size > 1))=bt)(G:t.place.toList.Pairwise (· < ·))(I:A.handled=a8)(y:a≠it):o5 prog w A it [it,a] [it] es.size (λi v=>(es.toList.map (·.2))[i]?=a7 v) (λi h=>h.get? it=a7 (eJ (j5 (if i=0 then 0 else t.place.getD (i-1) 0+1:Nat)) i es.size a ep)/\SetAt h a o es ep t):=by
 have l:∀i,i<=t.place.size->G6 t.place (if i=0 then 0 else t.place.getD (i-1) 0+1)=i:=λi hi=>by
  obtain⟨p,g,u⟩:=Ht.below_spec t.place G<|if i=0 then 0 else t.place.getD (i-1) 0+1;have n:∀a b (C:a<t.place.size) (d:b<t.place.size),a<b->t.place[a]<t.place[b]:=λa b C d h=>by have:=PU.mp G a b (by simpa using C) (by simpa using d) h;simpa using this
  by_cases z:i=0;rw[t6 z]at p g u ⊢;rcases Nat.eq_zero_or_pos (G6 t.place 0)with q|q;rw[q,z];have:=g 0 (by lia) q;lia;rw[t7 z]at p g u ⊢;have r:i-1<t.place.size:=by lia
  have H:t.place.getD (i-1) 0=t.place[i-1]:=by simp[MA,r]
  rw[H]at p g u ⊢;rcases PC (G6 t.place<|t.place[i-1]+1) i with q|q|q;have:=u (i-1) r (by lia);lia;exact q;have:=g i (by lia) q;have:=n (i-1) i r (by lia) (by lia);lia
 exact {
  sub:=λb d=>by simp at d;simp[d]
  frame:=λ_ _ _ c F=>⟨F it (by simp) _ c.1,c.2.at λo e=>F a (by simp) o e⟩
  item:=λi s Q E hi c j=>by
   have ps:t.place.size=es.size:=by have:=c.2.ft;simp[OK]at this;lia
   have hp:i<t.place.size:=by lia
   have D:es[i]?=a7 es[i]:=K5 hi;have B:t.place[i]?=a7 t.place[i]:=K5 hp;refine ma (next:=t.place[i]+1) (x:=es[i].2) c.1 c.2 (λA E Q q=>jI d f m c.2 ?_) λh' h1 U=>j _ h' s.toks ?_ ⟨?_,c.2.at λo e=>(U.2 a y).trans e⟩ λb o d e=>(U.2 b<|by simpa using d).trans e;rw[l i (by lia),D,B];exact q;rw[E1,J5,D];rfl;rw[t7<|Nat.succ_ne_zero i,Nat.add_sub_cancel,show t.place.getD i 0=t.place[i] by simp[MA,hp]];exact h1
  done:=λs Q E c j=>by
   have ps:t.place.size=es.size:=by have:=c.2.ft;simp[OK]at this;lia
   refine eE I c.1 c.2 (λA E Q q=>jI d f m c.2 ?_) λh' k=>j h' s.toks λb o d e=>k b o (by simpa using d) e;rw[l es.size (by lia),OV<|x9 _];exact q
  self:=λ_ _ _ _ c j=>fO c.1 j }
end
section
variable{prog:c7}{w:c6}{A:e7}{E:b7->e8->Prop}{s:e8}{a:c8}{o:c9}{es:Array (Int×b7)}{ep:Nat}{t:p5}
theorem CY(S:SetAt s.heap a o es ep t)(y:o.cls=.type "set")(u:t.plain=a9->es.size<=1\/t.place.toList.Pairwise (· < ·))(g:t.led = !w.params.followText "set-order")(hz:es.size<=sizeLine)(h:∀(it:c8) (h':d5) (d:Drawn) (vs:List b7) (fp:List c8) (St:Nat->d5->Prop),(∀b o,s.heap.get? b=a7 o->h'.get? b=a7 o)->vs.Perm (es.toList.map (·.2))->s.heap.objs.size<=it->it<h'.objs.size->(∀b∈fp,b=a\/s.heap.objs.size<=b/\b<h'.objs.size) -> (∀A':e7,A'.handled=a8->o5 prog w A' it fp [it] es.size (λi v=>vs[i]?=a7 v) St)->St 0 h'->Q (.ref it) { s with heap:=h',drawn:=d }):f8 (ge prog w) A (j4<|.ref a) Q E s:=by
 have T:s.TypeIs (.ref a) "set":=⟨o,S.ob,y⟩
 have r:a<s.heap.objs.size:=A5 S.ob;refine Qv T F.slot_set_iter<|K4 F.slot_set_iter T pE ?_<|F.args_set_iter_1 _;unfold Builtin.«frozenset.__iter__»;refine u8<|show f8 (ge prog w) _ (pure a) _ _ s from v5 ?_;unfold Builtin.Frozenset.sizeOf;refine u8<|u8<|PK S.ob S.dt S.ft<|v5 ?_;unfold setDrawn;refine u8<|u8<|ME S.ob S.dt S.ft ?_;unfold setsByText;refine u8<|u8<|On<|v5<|v5 ?_;by_cases p:(!w.params.followText "set-order" && (!t.plain&&decide (es.size > 1)))=a9;refine Nu (λ_=>?_) λz=>t8 p z;refine u8<|sO _ _ _ _ (by simp) λps d hp=>?_;refine u8<|show f8 (ge prog w) _ (newObj (.type "tuple")<|.seq (ps.map λ(i:Nat)=>j5 i).toArray) _ _ _ from Lu ?_ (by have e:=hp.length_eq;rw[N5]at e;show (ps.map λ(i:Nat)=>j5 i).toArray.size<=sizeLine;rw[C8,x6,e];exact hz);have S1:=S.at (h':=s.heap.push { cls:=.type "tuple",data:=.seq (ps.map λ(i:Nat)=>j5 i).toArray }) λo e=>A3 _ e;refine u8<|wpAny_setEpoch_of (s:={ s with heap:=_,drawn:=d }) S1.ob S1.dt S1.ft ?_;refine u8 (show f8 (ge prog w) _ (newObj (.type "set_iterator")<|.fields #[.ref s.heap.objs.size,j5 0,.ref a,j5 es.size,j5 ep]) _ _ _ from Lu ?_<|by size_fits);refine v5 ⟨_,rfl,"set_iterator",_,⟨_,C7 _ rfl,rfl⟩,bh.lookup,?_⟩;have n:(s.heap.push { cls:=.type "tuple",data:=.seq (ps.map λ(i:Nat)=>j5 i).toArray }).objs.size=s.heap.objs.size+1:=LJ ..;refine h _ _ d (ps.filterMap λj=>(es[j]?).map (·.2)) _ _ (λb o e=>A3 _<|A3 _ e) ?_ (by show s.heap.objs.size<=(s.heap.push _).objs.size;rw[n];exact OF _) (by show _<((s.heap.push _).push _).objs.size;rw[LJ (h:=s.heap.push _)];exact Mf _) ?_ (λA' k=>tM (o:=o) (t:=t) (ep:=ep) hp k (A8<|by rw[n];exact N6 r)<|A8<|by rw[n];exact Mf _) ⟨C7 _ rfl,S1.at λo e=>A3 _ e,⟨_,A3 _<|C7 _ rfl,rfl,_,rfl⟩⟩;refine(hp.filterMap _).trans ?_;have x:(E4 es.size).filterMap (λj=>(es[j]?).map (·.2))=((E4 es.size).filterMap λj=>es[j]?).map (·.2):=by rw[List.map_filterMap]
 rw[x,filterMap_getElem?_range];intro b c;rw[LJ,n];rcases A9.mp c with rfl|c;exact .inr ⟨by rw[n];exact OF _,by rw[n];exact Mf _⟩;rcases A9.mp c with rfl|c;exact .inl rfl;rw[LL.mp c];exact .inr ⟨x9 _,N6<|Mf _⟩;refine Nu (λz=>t8 z p) λ_=>?_;refine u8<|v5<|u8<|wpAny_setEpoch_of S.ob S.dt S.ft ?_;refine u8 (show f8 (ge prog w) _ (newObj (.type "set_iterator")<|.fields #[j5 0,j5 0,.ref a,j5 es.size,j5 ep]) _ _ _ from Lu ?_<|by size_fits);refine v5 ⟨_,rfl,"set_iterator",_,⟨_,C7 _ rfl,rfl⟩,bh.lookup,?_⟩;have S1:=S.at (h':=s.heap.push<|eJ (j5 0) 0 es.size a ep) λo e=>A3 _ e;have l:∀b∈[s.heap.objs.size,a],b=a\/s.heap.objs.size<=b/\b<(s.heap.push<|eJ (j5 0) 0 es.size a ep).objs.size:=λb c=>by rcases A9.mp c with rfl|c;exact .inr ⟨x9 _,by rw[LJ];exact Mf _⟩;exact .inl<|LL.mp c
 by_cases c:w.params.followText "set-order" = a9;refine h _ _ s.drawn ((t5 (w.params.setOrder a ep) es).toList.map (·.2)) _ _ (λb o e=>A3 _ e) ((lI _ es).map _) (x9 _) (by rw[LJ];exact Mf _) l (λA' k=>wP (o:=o) (t:=t) (ep:=ep) c k<|A8 r) ⟨C7 _ rfl,S1⟩;have f:w.params.followText "set-order" = bt:=by simpa using c
 have m:(!t.plain&&decide (es.size > 1))=bt:=by rw[f]at p;simpa using p
 have ah:es.size<=1\/t.place.toList.Pairwise (· < ·):=by by_cases q:t.plain=a9;exact u q;simp[q]at m;exact .inl m
 rcases ah with h1|B;refine h _ _ s.drawn (es.toList.map (·.2)) _ _ (λb o e=>A3 _ e) (Om _) (x9 _) (by rw[LJ];exact Mf _) l (λA' k=>wQ (o:=o) (t:=t) (ep:=ep) f (by rw[g,f];rfl) h1 k<|A8 r) ⟨?_,S1⟩;rw[t6 rfl];exact C7 _ rfl;refine h _ _ s.drawn (es.toList.map (·.2)) _ _ (λb o e=>A3 _ e) (Om _) (x9 _) (by rw[LJ];exact Mf _) l (λA' k=>wR (o:=o) (t:=t) (ep:=ep) f (by rw[g,f];rfl) m B k<|A8 r) ⟨?_,S1⟩;rw[t6 rfl];exact C7 _ rfl
end
end L2
namespace L2
open PySem PySem.Spec PyProof.Rows DL PySem.W PySem.Calls PyProof.V
section
variable{prog:c7}{w:c6}{A:e7}{E:b7->e8->Prop}{s:e8}{a:c8}{o:c9}{es:Array (Int×b7)}{ep:Nat}{t:p5}
theorem Df(m:s.TypeIs (.ref a) "set")(h:Q bt s):f8 (ge prog w) A (RZ<|.ref a) Q E s:=by
 unfold RZ;refine u8<|NH m F.slot_set_len.lookup ?_;generalize hi:("set.__len__":String)=t
 wp_delta
 rw[show splitId t=a7 ("set","__len__") by rw[<-hi];decide +kernel];rw[<-hi];refine u8<|N0 (T:="set") (b:=a9) m sub_set_self<|Nu (λz=>t8 z<|by decide) λ_=>Nu (λ_=>u8<|Nq m<|v5 h) λz=>t8 (by decide +kernel) z
theorem xL{R:Result->e8->Prop}(N:A.handled=a8)(S:SetAt s.heap a o es ep t)(B:o.cls=.type "set")(G:t.plain=a9->es.size<=1\/t.place.toList.Pairwise (· < ·))(v:t.led = !w.params.followText "set-order")(hz:es.size<=sizeLine){D:c8}{c₀:Nat} (p:D≠a) (M:s.heap.get? D=a7 { cls:=.type "list",data:=.seq #[] c₀ }) (res:b7)(Z:∀h' tk d vs c,(∀b u,b≠D->s.heap.get? b=a7 u->h'.get? b=a7 u)->h'.get? D=a7 { cls:=.type "list",data:=.seq vs c }->vs.toList.Perm (es.toList.map (·.2))->R (.ok<|.ret res) { s with heap:=h',toks:=tk,drawn:=d }):f8 (ge prog w) A.in1 (RY (.ref D) (.ref a) res)
   (λfin s'=>match fin with|.done f=>R (.ok f) s'|.again c'=>c'.quiet=a9/\l7 (ge prog w) A c' R s') (λe s'=>R (.error e) s') s:=by
 have ld:D<s.heap.objs.size:=A5 M;have hT:s.TypeIs (.ref a) "set":=⟨o,S.ob,B⟩
 unfold RY;refine u8<|Nq hT ?_;have T:Builtin.List.listSameRef (.ref D) (.ref a)=bt:=by simp[Builtin.List.listSameRef,p]
 have U:(Oi "set" == Oi "list")=bt:=by decide
 have V:(Oi "set" == Oi "tuple")=bt:=by decide
 simp only[T,U,V,Bool.or_false,C4,u4];refine u8<|CY S B G v hz λit h1 d vs Y St H pv I ab C W P=>?_;have L:D∉Y:=λz=>by
  rcases C D z with e|⟨e,_⟩
  exact p e;exact t8 ld<|Nm.mpr e
 have lv:vs.length=es.size:=by have:=pv.length_eq;simpa using this
 have K:∀(h:d5) (g:Nat),St 0 h->(∀b u,b≠D->h1.get? b=a7 u->h.get? b=a7 u)->h.get? D=a7 { cls:=.type "list",data:=.seq #[] g } -> l7 (ge prog w) A (.builtin "list.extend.loop" ⟨[.ref D,.ref it,res],[]⟩) R { s with heap:=h,drawn:=d }:=λh g J kk y=>by
  refine codeAny_extend_loopS (W A.in1<|by simp[N]).toS hz D L res es.size 0 _ #[] g rfl (D6 _) J y (ItemsOf.nil _) λs' acc c' O m j=>?_;rw[Moved.eq_with O];have X:acc.toList=vs:=by
   apply List.ext_getElem?;intro i;by_cases hi:i<es.size;have E:i<acc.size:=by rw[j.1];exact hi
   have h1:acc[i]?=a7 acc[i]:=K5 E;rw[J5,h1];exact(j.2 i _ h1).symm;rw[N9 (by rw[G2,j.1];lia),N9<|by lia]
  refine Z s'.heap s'.toks d acc c' (λb u k e=>O.heap b u (λz=>?_)<|kk b u k<|H b u e) m (by rw[X];exact pv);rcases A9.mp z with Q|z;exact k Q;rw[LL.mp z]at e;exact t8 (A5 e)<|Nm.mpr I
 have l:=H _ _ M;refine u8<|F8<|Df (s:={ s with heap:=h1,drawn:=d }) ⟨o,H _ _ S.ob,B⟩ ?_;refine Nu (λz=>?_) λ_=>v5 ⟨Nr F.plain_extend_loop _,K h1 c₀ P (λ_ _ _ e=>e) l⟩;refine u8 (Lz (u8 (show f8 (ge prog w) _ (updateSeq D (·.push .none) >>= λ_=>updateSeq D (·.pop)) _ _ _ from u8<|wpAny_updateSeq l rfl ?_)));have n:=LO (L9 (·.push K1)) l rfl;refine wpAny_updateSeq (hz:=by seq_fits) n rfl ?_;have x:=LO (L9 (·.pop)) n rfl;have r:∀b,b≠D->((h1.update D (L9 (·.push K1))).update D (L9 (·.pop))).get? b=h1.get? b:=λb k=>by rw[OW _ _<|A7 k,OW _ _<|A7 k]
 refine v5 ⟨Nr F.plain_extend_loop _,K _ _ ((W A N).frame 0 _ _ P λb k u e=>(r b λq=>L<|q ▸ k).trans e) (λb u k e=>(r b k).trans e) x⟩
theorem nO{Q:b7->e8->Prop}(H:A.handled=a8)(S:SetAt s.heap a o es ep t)(G:o.cls=.type "set")(B:t.plain=a9->es.size<=1\/t.place.toList.Pairwise (· < ·))(y:t.led = !w.params.followText "set-order")(hz:es.size<=sizeLine)(h:∀h' tk d D (vs:List b7),(∀b u,s.heap.get? b=a7 u->h'.get? b=a7 u)->s.heap.get? D=a8->h'.get? D=a7 { cls:=.type "list",data:=.seq vs.toArray }->vs.Perm (es.toList.map (·.2)) -> f8 (ge prog w) A.in1 (call (.builtin "list.sort") [.ref D]) (λ_ s'=>Q (.ref D) s') E { s with heap:=h',toks:=tk,drawn:=d }):f8 (ge prog w) A (call (.builtin "sorted") [.ref a]) Q E s:=by
 have I:a<s.heap.objs.size:=A5 S.ob;refine call_function_entry kind_sorted plain_sorted entry_sorted (args_sorted1 _) ?_;unfold Builtin.«sorted»;refine u8 (m:=checkCount "sorted" 1 1 _)<|v5 ?_;unfold collect;refine u8<|u8<|wpAny_runValue<|Mw F.entry_proto_collect ?_;rw[Ng F.plain_proto_collect _];refine(show f8 (ge prog w) _ (newList [] >>= λl=>again<|.builtin "list.__iadd__" ⟨[l,.ref a],[]⟩) _ _ s from u8<|Lu<|v5 ⟨Nr F.plain_list_iadd _,Mw F.entry_list_iadd ?_⟩);rw[Ng F.plain_list_iadd _];have S1:=S.at (h':=s.heap.push { cls:=.type "list",data:=.seq ([]:List b7).toArray }) λo e=>A3 _ e;have C:=xL (prog:=prog) (A:=A.in1) (s:={ s with heap:=s.heap.push { cls:=.type "list",data:=.seq ([]:List b7).toArray } }) (D:=s.heap.objs.size) (c₀:=0) (res:=.ref s.heap.objs.size) (R:=λr s'=>∃h' tk d vs c,r=.ok (.ret<|.ref s.heap.objs.size)/\s'={ s with heap:=h',toks:=tk,drawn:=d }/\(∀b u,s.heap.get? b=a7 u->h'.get? b=a7 u)/\h'.get? s.heap.objs.size=a7 { cls:=.type "list",data:=.seq vs c }/\vs.toList.Perm (es.toList.map (·.2))) (by simp[H]) S1 G B y hz (MJ I) (C7 _ rfl) λh' tk d vs c k g p=>⟨h',tk,d,vs,c,rfl,rfl,λb u e=>k b u (A8<|A5 e)<|A3 _ e,g,p⟩
 have i:∀h' tk d (vs:Array b7) c,(∀b u,s.heap.get? b=a7 u->h'.get? b=a7 u)->h'.get? s.heap.objs.size=a7 { cls:=.type "list",data:=.seq vs c }->vs.toList.Perm (es.toList.map (·.2)) -> f8 (ge prog w) A.in1 (do let ob <-load s.heap.objs.size;match ob.data with|.seq xs _=>pure xs.toList|_=>unsupported "internal:collect":Sem (List b7)) (λxs s'=>f8 (ge prog w) A.in1 (do let l <-newList xs;let _ <-i6 [l] (call (.builtin "list.sort") [l] []);ret l) (λn s'=>∃v,n=Fin.done (Flow.ret v)/\Q v s') E s') E { s with heap:=h',toks:=tk,drawn:=d }:=λh' tk d vs c j g p=>by
  refine u8 (wpAny_load g<|v5<|u8<|wpAny_newList ?_<|by rw[p.length_eq];simpa using hz);have J:s.heap.objs.size<h'.objs.size:=A5 g;refine u8<|F8<|G4 (h (h'.push { cls:=.type "list",data:=.seq vs.toList.toArray }) tk d h'.objs.size vs.toList (λb u e=>A3 _<|j b u e) ?_ (C7 _ rfl) p) (λ_ s' q=>v5 ⟨_,rfl,q⟩) λ_ _ z=>z;cases q:s.heap.get? h'.objs.size with
  |none=>rfl
  |some o'=>exact t8 (A5<|j _ _ q)<|J4 _
 refine G4 C (λn s' x=>?_) λe s' ⟨_,_,_,_,_,z,_⟩=>by cases z
 cases n with
 |done f=>obtain⟨h',tk,d,vs,c,z,rfl,j,g,p⟩:=x;cases z;exact i h' tk d vs c j g p
 |again c'=>refine⟨x.1,Na x.2 ?_⟩;rintro r K ⟨h',tk,d,vs,c,z,e,j,g,p⟩;subst z e;exact i h' tk d vs c j g p
end
end L2
namespace L2
open PySem PySem.Spec PyProof.Rows DL PySem.W
def Ln(M:v8)(d:D)(xs:List c5):Prop:=(∃n,d=.ref n/\ak M n (xs.map .str))\/d=.tup (xs.map .str)
theorem vb:∀{vs:List b7},(∀v∈vs,∃t,v=.str (J6 v) t)->az ((vs.map J6).map V.str) vs
 | [],_=>.nil
 |v::vs,h=>.cons (let ⟨t,e⟩:=h v F5;⟨t,e⟩)<|vb λu hu=>h u<|D4 _ hu
section
variable{X:Cx}{e:f9}{te:A0}{p p' pos pos':i0}{k:Nat}
theorem v4.drew(I:v4 X pins σ H s):v4 X pins σ H { s with drawn:=d }:=⟨I.ok,I.os,I.bare,I.base,I.loc,I.cell,I.free,I.freeC,I.pin,I.hok,I.len⟩
theorem EN(I:v4 X pins σ H s)(m:z6 X.K ρ M H)(r:w5 X.K ρ H d v)(f:aL v u)(t:Ln M d xs):∃(a:c8) (T:String) (its:Array b7),u=.ref a/\TxSrc X.prog X.w s.heap a T its.size (λi v=>its[i]?=a7 v)/\az (xs.map V.str) its.toList:=by
 have b:∀ds vs,ds=xs.map D.str->Reps X.K ρ H ds vs->vs=xs.map V.str:=by
  intro ds vs e q;subst e;clear t;induction xs generalizing vs with
  |nil=>cases q;rfl
  |cons x xs j =>
   cases q with
   |cons h t=>cases h;rw[D7,j _ t]
 rcases t with⟨n,rfl,L⟩|rfl;obtain⟨a,rfl,g⟩:=w5.inv_ref r;cases f;obtain⟨vs,hs,c⟩:=L.seq m g;have B:=b _ _ rfl c;subst B;obtain⟨its,l,p,_⟩:=I.list hs;exact⟨a,_,its.toArray,rfl,TxSrc.list p.isList,by simpa using l⟩;obtain⟨a,vs,rfl,hs,c⟩:=w5.inv_tup r;cases f;have B:=b _ _ rfl c;subst B;obtain⟨its,l,p,_⟩:=I.tuple hs;exact⟨a,_,its.toArray,rfl,TxSrc.tuple p,by simpa using l⟩
theorem vc:∀{xs:List c5}{its:List b7}{i:Nat}{v:b7},az (xs.map V.str) its->its[i]?=a7 v->∃t,v=.str (xs.getD i default) t
 | [],_,i,v,h,e=>by cases h;simp at e
 |x::xs,_,0,v,h,e=>by
  cases h with
  |cons a _=>simp at e;subst e;exact a
 |x::xs,_,i+1,v,h,e=>by
  cases h with
  |cons _ b=>exact vc (xs:=xs) b<|by simpa using e
end
end L2
namespace L2
open PySem PySem.Spec PyProof.Rows DL PySem.Builtin PySem.Builtin.Str PySem.StrLaws
theorem AX(a b B:Nat):strSliceIndices (a7 (a:Int)) (a7 (b:Int)) 1 B=strSliceIndices (a7 ((min a B:Nat):Int)) (a7 ((min b B:Nat):Int)) 1 B:=by
 have e:∀i:Nat,max (0:Int) (min (i:Int) (B:Int))=max (0:Int) (min ((min i B:Nat):Int) (B:Int)):=λi=>by lia
 have n:∀i:Nat,¬((i:Int)<0):=λi=>by lia
 simp only[strSliceIndices,n,u4,show ((1:Int) > 0)=True by simp,u5];rw[e a,e b]
theorem dY(x:c5)(l u:Option Int):(Mz x l u).cps.toList=if (strSliceIndices l u 1 x.length).length=x.length then x.cps.toList else(strSliceIndices l u 1 x.length).filterMap (x.cps[·]?):=by unfold Mz;by_cases h:(strSliceIndices l u 1 x.length).length=x.length;rw[t6 (by simp[h]),t6 h];rw[t7 (by simp[h]),t7 h]
theorem rB(x:c5){a b:Nat}(S:a<=b):(Mz x (a7 (a:Int))<|a7 (b:Int)).cps.toList=(x.cps.toList.drop a).take (b-a):=by
 have d:min a x.length<=min b x.length:=by lia
 have l:(strSliceIndices (a7 ((min a x.length:Nat):Int)) (a7 ((min b x.length:Nat):Int)) 1 x.length).filterMap (x.cps[·]?)=(x.cps.toList.drop<|min a x.length).take (min b x.length-min a x.length):=sliced_plain x d<|Nat.min_le_right ..;have Q:=eG (a:=x);have n:(x.cps.toList.drop<|min a x.length).take (min b x.length-min a x.length)=(x.cps.toList.drop a).take (b-a):=by by_cases f:a<=x.length;rw[Nat.min_eq_left f];by_cases c:b<=x.length;rw[Nat.min_eq_left c];rw[Nat.min_eq_right (by lia),PQ (by rw[MC];lia),PQ<|by rw[MC];lia];rw[List.drop_eq_nil_of_le (i:=a) (by lia),List.drop_eq_nil_of_le (i:=min a x.length)<|by lia];simp
 rw[dY,AX,l,n];split;rename_i h;rw[strSliceIndices_plain d<|Nat.min_le_right ..]at h;simp only[x6,N5]at h;have e:min a x.length=0:=by lia
 by_cases g:x.length=0;have:x.cps.toList=[]:=List.eq_nil_of_length_eq_zero (by lia);rw[this];simp;have:a=0:=by lia
 subst this;rw[List.drop_zero,PQ<|by lia];rfl
end L2
namespace L2
open PySem PySem.Spec PyProof.Rows DL PySem.W
section
variable{X:Cx}
def Fa:G3:=λx y M Q=>match x,y with
 |.int i,.int j=>CPow i j/\Q (.int<|i ^ j.toNat) M
 |_,_=>False
theorem Jh:G9 X (j7 .Pow) Fa:=by refine E8.imp IV ?_;rintro f i H R ⟨x,y,M,ρ,Q,m,r,l,q,k⟩;unfold Fa at q;split at q;cases r;cases l;exact⟨_,_,rfl,rfl,q.1,k _ H<|VQ.now m (.int _) q.2⟩;exact q.elim
theorem Kd:H9 X (j7 .Pow) Fa:=⟨Jh⟩
def lE(z:c5):F7:=λds M Q=>match ds with
 | [.str y]=>∃i aM,QQ z y 0 z.length 1=i::aM/\Q (.int (i:Nat)) M
 |_=>False
theorem Cz:Mt X "str.index" (FM X.K lE):=by
 rintro p s σ H x xs v us R I g a ⟨z,ds,M,ρ,Q,c,m,d,q,k⟩;subst c;obtain⟨t,rfl⟩:=g;unfold lE at q;split at q;obtain⟨i,aM,B,q⟩:=q
 first|have h:=Reps.inv_cons d|have h:=az.inv_cons d
 clear d;obtain⟨_,_,rfl,r,d⟩:=h;cases d;cases r;obtain⟨u,rfl,t',rfl⟩:=az.one a;exact call_gives F.slot_str_index (typeIs_str _ _ _) F.entry_str_index (F.args_str_index_2 _ _) (gives_str_index _ _ _ _ i aM B) ⟨.int _,H,I.tok _,⟨_,rfl⟩,k _ H<|VQ.now m (.int _) q⟩;exact q.elim
theorem De:RT X "index" lE:=⟨_,PySem.F.slot_str_index,PySem.F.type_str_index,Cz⟩
end
end L2
namespace Ht
open PySem
def MG(ow:Array (Option Nat))(s:Nat):Prop:=∃i,ow[s]?=a7 (a7 i)
theorem getD_none(hs:s<ow.size):(ow.getD s<|a7 0).isNone=a9↔¬MG ow s:=by
 have e:ow[s]?=a7 ow[s]:=K5 hs;have l:ow.getD s (a7 0)=ow[s]:=by simp[MA,hs]
 rw[l];unfold MG;rw[e];cases ow[s]<;>simp
theorem Aw(hz:ow.size=m+1)(h:Int):∀(fuel k0 k:Nat),k0<=k->k<k0+fuel->¬MG ow (dZ m h k).1->(∀n,n<eQ m h k0->MG ow (sq m h n).j) ->∃N,QL m ow fuel (dZ m h k0).1 (dZ m h k0).2=a7 (sq m h N).j/\¬MG ow (sq m h N).j/\∀n,n<N->MG ow (sq m h n).j:=by
 intro fuel;induction fuel with
 |zero=>intro k0 k h1 h2;lia
 |succ fuel l =>
  intro k0 k h1 h2 c d;have p:=tZ m h k0;have u:LA m (dZ m h k0).1<=m/\(dZ m h k0).1<=LA m (dZ m h k0).1:=by unfold LA;split<;>lia
  unfold QL;cases f:(E4<|LA m (dZ m h k0).1+1-(dZ m h k0).1).find? λk=>(ow.getD ((dZ m h k0).1+k)<|a7 0).isNone with
  |some r =>
   have i:=ON f;have b:=List.mem_of_find?_eq_some f;rw[K6]at b;refine⟨eQ m h k0+r,by rw[yZ m h k0 r<|by lia],?_,λn g=>?_⟩;rw[yZ m h k0 r<|by lia];exact(getD_none<|by lia).mp i;rcases MI n (eQ m h k0)with q|q;exact d n q;obtain⟨r',rfl⟩:∃r',n=eQ m h k0+r':=⟨n-eQ m h k0,by lia⟩
   rw[yZ m h k0 r'<|by lia];refine NO λo=>?_;have t:r' < r:=by lia
   have z:=(getD_none (ow:=ow) (s:=(dZ m h k0).1+r')<|by lia).mpr o;have:=List.find?_range_eq_some.mp f;have:=this.2.2 r' t;rw[z]at this;exact t8 this<|by simp
  |none =>
   have a:∀r,r<=LA m (dZ m h k0).1-(dZ m h k0).1->MG ow ((dZ m h k0).1+r):=λr i=>by refine NO λo=>?_;have z:=(getD_none (ow:=ow) (s:=(dZ m h k0).1+r)<|by lia).mpr o;have:=OR.mp f r (K6.mpr<|by lia);exact this z
   have v:k0≠k:=λe=>by subst e;exact c<|a 0<|D6 _
   refine l (k0+1) k (by lia) (by lia) c λn g=>?_;unfold eQ at g;rcases MI n (eQ m h k0)with q|q;exact d n q;obtain⟨r',rfl⟩:∃r',n=eQ m h k0+r':=⟨n-eQ m h k0,by lia⟩
   rw[yZ m h k0 r'<|by lia];exact a r'<|by lia
structure Laid(m:Nat)(hs:List Int)(ow:Array (Option Nat))(k:Nat):Prop where
 sz:ow.size=m+1
 lt:∀s i:Nat,ow[s]?=a7 (a7 i)->i<k
 inj:∀s s' i:Nat,ow[s]?=a7 (a7 i)->ow[s']?=a7 (a7 i)->s=s'
 all:∀i:Nat,i<k->∃s:Nat,ow[s]?=a7 (a7 i)
 path:∀(s i:Nat) (h:Int),ow[s]?=a7 (a7 i)->hs[i]?=a7 h->∃n,(sq m h n).j=s/\∀n',n' < n->MG ow (sq m h n').j
theorem Laid.room(L:Laid m hs ow k)(q:k<=m):∃s,s<=m/\¬MG ow s:=by
 refine NO λo=>?_;have c:∀s,s<=m->MG ow s:=λs hs=>NO λz=>o ⟨s,hs,z⟩;have d:∀s,s∈E4 (m+1)->((ow.getD s a8).getD 0)∈E4 k:=λs u=>by
  obtain⟨i,e⟩:=c s (by have:=K6.mp u;lia);have:ow.getD s a8=a7 i:=by obtain⟨g,z⟩:=MU.mp e;simp[MA,g,z]
  rw[this];exact K6.mpr<|L.lt s i e
 have X:((E4<|m+1).map λs=>(ow.getD s a8).getD 0).Nodup:=by
  rw[Nh,MP];have base:=List.nodup_range (n:=m+1);rw[Nh]at base;refine base.imp_of_mem λ{a b} ha hb hne e=>hne ?_;obtain⟨i,f⟩:=c a (by have:=K6.mp ha;lia);obtain⟨j,h⟩:=c b (by have:=K6.mp hb;lia);have t:ow.getD a a8=a7 i:=by obtain⟨g,z⟩:=MU.mp f;simp[MA,g,z]
  have l:ow.getD b a8=a7 j:=by obtain⟨g,z⟩:=MU.mp h;simp[MA,g,z]
  rw[t,l]at e;have:i=j:=e;subst this;exact L.inj a b i f h
 have:=L2.nodup_le _ (E4 k) X λx p=>by obtain⟨s,u,rfl⟩:=A6.mp p;exact d s u
 rw[x6,N5,N5]at this;lia
theorem Laid.step(E:mW m)(L:Laid m hs ow k)(B:k<=m)(A:hs[k]?=a7 h):∃j,QL m ow (OL m) (Nb h % (m+1)) (Nb h)=a7 j/\Laid m hs (ow.setIfInBounds j<|a7 k) (k+1):=by
 obtain⟨s,g,l⟩:=L.room B;obtain⟨I,D,e⟩:=ED E h g;obtain⟨N,v,x,y⟩:=Aw L.sz h (OL m) 0 I (D6 _) (by unfold OL;lia) (by rw[e];exact l) λn F=>t8 F<|NI _;refine⟨(sq m h N).j,v,?_⟩;have H:(sq m h N).j<ow.size:=by have:=yY (m:=m) h N;rw[L.sz];lia
 have b:(ow.setIfInBounds (sq m h N).j<|a7 k)[(sq m h N).j]?=a7 (a7 k):=by rw[Array.getElem?_setIfInBounds_self_of_lt H]
 have r:∀s,s≠(sq m h N).j->(ow.setIfInBounds (sq m h N).j<|a7 k)[s]?=ow[s]?:=λs f=>Array.getElem?_setIfInBounds_ne<|A7 f;have w:∀s,MG ow s->MG (ow.setIfInBounds (sq m h N).j<|a7 k) s:=λs ⟨i,z⟩=>by by_cases q:s=(sq m h N).j;subst q;exact⟨k,b⟩;exact⟨i,by rw[r s q];exact z⟩
 have d:∀s i,(ow.setIfInBounds (sq m h N).j<|a7 k)[s]?=a7 (a7 i)->(s=(sq m h N).j/\i=k)\/(s≠(sq m h N).j/\ow[s]?=a7 (a7 i)):=λs i z=>by by_cases q:s=(sq m h N).j;subst q;rw[b]at z;cases z;exact .inl ⟨rfl,rfl⟩;rw[r s q]at z;exact .inr ⟨q,z⟩
 refine⟨by rw[Array.size_setIfInBounds];exact L.sz,λs i z=>?_,λs s' i z G=>?_,λi hi=>?_,λs i h' z a=>?_⟩;rcases d s i z with⟨_,e⟩|⟨_,z⟩
 lia;have:=L.lt s i z;lia;rcases d s i z with⟨t,p⟩|⟨_,z⟩
 rcases d s' i G with⟨Q,_⟩|⟨_,G⟩
 rw[t,Q];have:=L.lt s' i G;lia;rcases d s' i G with⟨_,J⟩|⟨_,G⟩
 have:=L.lt s i z;lia;exact L.inj s s' i z G;by_cases q:i=k;subst q;exact⟨_,b⟩;obtain⟨s,z⟩:=L.all i (by lia);refine⟨s,?_⟩;rw[r s λe=>x ⟨i,by rw[<-e];exact z⟩];exact z;rcases d s i z with⟨t,p⟩|⟨_,z⟩
 subst t p;rw[A]at a;cases a;exact⟨N,rfl,λo c=>w _<|y o c⟩;obtain⟨n,C,u⟩:=L.path s i h' z a;exact⟨n,C,λo c=>w _<|u o c⟩
theorem FT(l:mW m)(hs:List Int)(q:hs.length<=m):∃ow,Rl m hs.toArray=a7 ow/\Laid m hs ow hs.length:=by
 have start:Laid m hs (Array.replicate (m+1) a8) 0:=by
  have n:∀s i:Nat,(Array.replicate (m+1) (a8:Option Nat))[s]?≠a7 (a7 i):=λs i z=>by rw[Array.getElem?_replicate]at z;split at z<;>cases z
  exact⟨by simp,λs i z=>t8 z<|n s i,λs _ i z=>t8 z<|n s i,λi hi=>t8 hi<|NI _,λs i _ z=>t8 z<|n s i⟩
 have g:∀(aM:List Int) (k:Nat) (ow:Array (Option Nat)),hs.drop k=aM->k+aM.length=hs.length->Laid m hs ow k -> ∃o,aM.foldl (init:=a7 (ow,k)) (λacc h=>do
    let (owner,k) <-acc
    let j <-QL m owner (OL m) (Nb h % (m+1)) (Nb h)
    pure (owner.setIfInBounds j<|a7 k,k+1))=a7 (o,hs.length)/\Laid m hs o hs.length:=by
  intro aM;induction aM with
  |nil =>
   intro k ow e a L;have:k=hs.length:=by simpa using a
   subst this;exact⟨ow,rfl,L⟩
  |cons h aM p =>
   intro k ow e a L;have d:hs[k]?=a7 h:=by
    have:(hs.drop k)[0]?=a7 h:=by rw[e];rfl
    rw[QD]at this;simpa using this
   rw[E9]at a;obtain⟨j,f,c⟩:=L.step l (by lia) d;obtain⟨o,g1,b⟩:=p (k+1) (ow.setIfInBounds j<|a7 k) (by
    have:hs.drop (k+1)=(hs.drop k).drop 1:=by rw[List.drop_drop]
    rw[this,e];rfl) (by lia) c
   refine⟨o,?_,b⟩;rw[List.foldl_cons];simp only[Option.bind_eq_bind,Option.bind_some,f,Option.pure_def];exact g1
 obtain⟨ow,g1,b⟩:=g hs 0 _ rfl (by simp) start;refine⟨ow,?_,b⟩;unfold Rl;rw[<-Array.foldl_toList];have:hs.toArray.toList=hs:=by simp
 rw[this,g1];rfl
theorem lJ{α:Type}[DecidableEq α]:∀{l l':List α},l.Nodup->l'.Nodup->(∀x,x∈l↔x∈l')->l.Perm l'
 | [],l',_,_,h=>by have:l'=[]:=List.eq_nil_iff_forall_not_mem.mpr λx hx=>t8 ((h x).mpr hx) (by simp);rw[this]
 |x::l,l',n,n',h=>by have hx:x∈l':=(h x).mp F5;have n1:=LK.mp n;refine(Qk x<|lJ n1.2 (n'.erase x) λy=>?_).trans (List.perm_cons_erase hx).symm;by_cases e:y=x;subst e;constructor;intro z;exact t8 z n1.1;intro z;exact t8 z<|List.Nodup.not_mem_erase n';rw[List.mem_erase_of_ne e,<-h y,A9];exact⟨.inr,λz=>z.resolve_left e⟩
noncomputable def bz(m:Nat)(ow:Array (Option Nat)):List (Nat×Nat):=(E4<|m+1).filterMap λj=>(ow.getD j a8).map (j,·)
theorem eF(L:Laid m hs ow k):(s,i)∈bz m ow↔ow[s]?=a7 (a7 i):=by
 unfold bz;rw[QH];constructor;rintro⟨j,hj,e⟩;have h:j<ow.size:=by rw[L.sz];exact K6.mp hj
 have l:ow.getD j a8=ow[j]:=by simp[MA,h]
 rw[l]at e;cases q:ow[j] with
 |none=>rw[q]at e;cases e
 |some i'=>rw[q]at e;have:=D0 e;cases this;rw[K5 h,q]
 intro e;obtain⟨g,z⟩:=MU.mp e;refine⟨s,K6.mpr (by rw[<-L.sz];exact g),?_⟩;have l:ow.getD s a8=ow[s]:=by simp[MA,g]
 rw[l,z];rfl
theorem sf(m:Nat)(ow:Array (Option Nat)):((bz m ow).map (·.1)).Pairwise (· < ·):=by unfold bz;rw[MP];refine List.Pairwise.filterMap (R:=(· < ·)) _ (λa e h b d f c=>?_)<|List.pairwise_lt_range;obtain⟨x,_,rfl⟩:=MT.mp d;obtain⟨y,_,rfl⟩:=MT.mp c;exact h
theorem sg(L:Laid m hs ow hs.length):((bz m ow).map (·.2)).Perm (E4 hs.length):=by
 have D:(bz m ow).Nodup:=by have:=sf m ow;rw[MP]at this;exact this.imp λh e=>by rw[e]at h;exact J4 _ h
 have X:((bz m ow).map (·.2)).Nodup:=by rw[Nh,MP];rw[Nh]at D;refine D.imp_of_mem λ{a b} ha hb hne e=>hne ?_;obtain⟨s,i⟩:=a;obtain⟨s',i'⟩:=b;have c:i=i':=e;subst c;rw[L.inj s s' i ((eF L).mp ha)<|(eF L).mp hb]
 refine lJ X List.nodup_range λi=>?_;rw[K6,A6];constructor;rintro⟨⟨s,i'⟩,hm,rfl⟩;exact L.lt s i'<|(eF L).mp hm;intro hi;obtain⟨s,e⟩:=L.all i hi;exact⟨(s,i),(eF L).mpr e,rfl⟩
theorem pA{α:Type}{l:List α}{p:Nat}{x y:α}(hp:p<=l.length){i:Nat}(h:(l.take p++x::l.drop p)[i]?=a7 y):(i<p/\l[i]?=a7 y)\/(i=p/\y=x)\/(p<i/\l[i-1]?=a7 y):=by
 have lt:(l.take p).length=p:=by rw[LC];lia
 rcases PC i p with q|q|q;rw[LF (by lia),List.getElem?_take,t6 q]at h;exact .inl ⟨q,h⟩;subst q;rw[Mp (by lia),lt,No]at h;exact .inr<|.inl ⟨rfl,(D0 h).symm⟩;rw[Mp (by lia),lt]at h;obtain⟨r,a⟩:∃r,i-p=r+1:=⟨i-p-1,by lia⟩
 rw[a,QP,QD]at h;exact .inr<|.inr ⟨q,by rw[show i-1=p+r by lia];exact h⟩
structure TPre(t:p5)(hs:List Int):Prop where
 msk:mW t.mask
 len:t.place.size=hs.length
 nod:t.dummies = #[]
 ris:t.place.toList.Pairwise (· < ·)
 rng:∀j∈t.place.toList,j<=t.mask
 path:∀(i:Nat) (h:Int) (j:Nat),hs[i]?=a7 h->t.place[i]?=a7 j->∃n,(sq t.mask h n).j=j/\∀n',n' < n->(sq t.mask h n').j∈t.place.toList
theorem put_pre(T:TOk t hs)(h2:(sq t.mask h N).j∉t.place.toList)(u:∀k,k<N->(sq t.mask h k).j∈t.place.toList)(v:Bool):(t.put (sq t.mask h N).j).2<=hs.length/\TPre { (t.put (sq t.mask h N).j).1 with plain:=v } (hs.take (t.put (sq t.mask h N).j).2++h::hs.drop (t.put (sq t.mask h N).j).2):=by
 obtain⟨e,r⟩:=zf T.ris h2;obtain⟨g,_,_⟩:=below_spec t.place T.ris (sq t.mask h N).j;have l:G6 t.place (sq t.mask h N).j<=hs.length:=by rw[<-T.len];exact g
 refine⟨l,⟨T.msk,?_,?_,r,λj L=>?_,λi h' j d L=>?_⟩⟩;have:=u6 Ma e;rw[G2,E3,E9,LC,MC,G2]at this;show (t.put (sq t.mask h N).j).1.place.size=(hs.take (G6 t.place (sq t.mask h N).j)++h::hs.drop (G6 t.place (sq t.mask h N).j)).length;rw[this,E3,E9,LC,MC,T.len];show (if SetTable.has t.dummies (sq t.mask h N).j then SetTable.eraseAt t.dummies (G6 t.dummies (sq t.mask h N).j)else t.dummies) = #[];rw[T.nod];rfl;have a:j∈(t.put (sq t.mask h N).j).1.place.toList:=L;rw[e]at a;rcases J0.mp a with q|q;exact T.rng j<|Rw q;rcases A9.mp q with q|q;rw[q];exact yY h N;exact T.rng j<|List.mem_of_mem_drop q;have s:∀x,x∈t.place.toList->x∈(t.put (sq t.mask h N).j).1.place.toList:=λx m=>by rw[e];rw[<-List.take_append_drop (G6 t.place (sq t.mask h N).j) t.place.toList]at m;rcases J0.mp m with q|q;exact NM _ q;exact LP _<|D4 _ q
 have a:(t.put (sq t.mask h N).j).1.place.toList[i]?=a7 j:=by rw[J5];exact L
 rw[e]at a;have o:∀k,hs[k]?=a7 h'->t.place[k]?=a7 j->∃n,(sq t.mask h' n).j=j/\∀f,f < n->(sq t.mask h' f).j∈(t.put (sq t.mask h N).j).1.place.toList:=λk w y=>by obtain⟨n,C,p⟩:=T.path k h' j w y;exact⟨n,C,λf c=>s _<|p f c⟩
 rcases pA (by rw[G2];exact g) a with⟨q,z⟩|⟨q,z⟩|⟨q,z⟩
 rcases pA l d with⟨b,G⟩|⟨b,G⟩|⟨b,G⟩
 exact o i G (by rw[<-J5];exact z);lia;lia;rcases pA l d with⟨b,G⟩|⟨b,G⟩|⟨b,G⟩
 lia;subst z G;exact⟨N,rfl,λf c=>s _<|u f c⟩;lia;rcases pA l d with⟨b,G⟩|⟨b,G⟩|⟨b,G⟩
 lia;lia;exact o (i-1) G<|by rw[<-J5];exact z
theorem TPre.ok(T:TPre t hs)(h:t.tooFull=bt):TOk t hs:=by refine⟨T.msk,T.len,T.nod,T.ris,T.rng,?_,T.path⟩;unfold SetTable.tooFull Qf at h;rw[T.nod]at h;simp at h;simpa using h
theorem TPre.anew(T:TPre t hs)(h:t.tooFull=a9)(M:(hs.length-1)*5<t.mask*3)(E:hs.length<=64):Rn (Mj hs.length)<=sizeLine/\∃t2 ord,t.relaid hs.toArray (Mj hs.length)=a7 (t2,ord)/\ord.toList.Perm (E4 hs.length)/\TOk t2 (ord.toList.map λi=>hs.getD i 0)/\t2.led=t.led:=by
 have u:hs.length*5 ≥ t.mask*3:=by unfold SetTable.tooFull Qf at h;rw[T.nod,T.len]at h;simpa using h
 have D:∃m,Rn (Mj hs.length)=m+1/\mW m/\hs.length<=m/\hs.length*5<m*3:=by
  rcases T.msk with e|e|e;have:hs.length=5:=by lia
  rw[this];exact⟨31,by decide +kernel,.inr<|.inl rfl,by decide,by decide⟩;have:hs.length=19:=by lia
  rw[this];exact⟨127,by decide +kernel,.inr<|.inr rfl,by decide,by decide⟩;lia
 obtain⟨m,e,g,H,f⟩:=D;refine⟨by rw[e,Mh];rcases g with rfl|rfl|rfl<;>lia,?_⟩;obtain⟨ow,B,L⟩:=FT g hs H;unfold SetTable.relaid;rw[e,Nat.add_sub_cancel];unfold SetTable.laid;rw[B];refine⟨_,_,rfl,?_,?_,rfl⟩;show ((bz m ow).map (·.2)).toArray.toList.Perm _;simpa using sg L;have l:((bz m ow).map (·.1)).toArray.toList=(bz m ow).map (·.1):=by simp
 have K:((bz m ow).map (·.2)).toArray.toList=(bz m ow).map (·.2):=by simp
 have J:(bz m ow).length=hs.length:=by have:=(sg L).length_eq;simpa using this
 refine⟨g,?_,rfl,?_,λj d=>?_,?_,λi h' j F d=>?_⟩;show ((bz m ow).map (·.1)).toArray.size=(((bz m ow).map (·.2)).toArray.toList.map λi=>hs.getD i 0).length;simp;show ((bz m ow).map (·.1)).toArray.toList.Pairwise _;rw[l];exact sf m ow;have a:j∈((bz m ow).map (·.1)).toArray.toList:=d;rw[l]at a;obtain⟨⟨s,i⟩,o,rfl⟩:=A6.mp a;have:=(MU.mp<|(eF L).mp o).1;rw[L.sz]at this;show s<=m;lia;show ((bz m ow).map (·.1)).toArray.size*5<m*3;rw[C8,x6,J];exact f;have b:(((bz m ow).map (·.2)).map λi=>hs.getD i 0)[i]?=a7 h':=by rw[<-K];exact F
 have a:((bz m ow).map (·.1))[i]?=a7 j:=by rw[<-l,J5];exact d
 rw[K2,E1]at b;rw[E1]at a;cases q:(bz m ow)[i]? with
 |none=>rw[q]at a;cases a
 |some p =>
  obtain⟨s,k⟩:=p;rw[q]at b a;have y:s=j:=D0 a;have A:hs.getD k 0=h':=D0 b;subst y;have c:=(eF L).mp<|K7 q;have v:=L.lt s k c;have G:hs[k]?=a7 h':=by rw[A4 v];rw[<-A];simp[NE,v]
  obtain⟨n,C,x⟩:=L.path s k h' c G;refine⟨n,C,λw r=>?_⟩;obtain⟨I,z⟩:=x w r;show (sq m h' w).j∈((bz m ow).map (·.1)).toArray.toList;rw[l];exact A6.mpr ⟨(_,I),(eF L).mpr z,rfl⟩
end Ht
namespace L2
open PySem PySem.Spec PyProof.Rows DL PySem.W
theorem uE:∀(n:Nat) (d:D),cz n d=a9->z5 M n d=a9
 | 0,d,h=>by cases d<;>first|rfl|cases h
 |n+1,d,h=>by
  cases d with
  |tup ds=>have h':ds.all (cz n)=a9:=h;show ds.all (z5 M n)=a9;rw[F4]at h' ⊢;exact λx hx=>uE n x<|h' x hx
  |str x=>rfl
  |int i=>rfl
  |_=>cases h
theorem jo:∀(n:Nat) (x y:D),cz n x=a9->cz n y=a9->(w4 M n x y=a9↔x=y):=by
 intro n;induction n with
 |zero =>
  intro x y h1 h2;cases x with
  |str a =>
   cases y with
   |str b=>simp[w4]
   |int b=>simp[w4]
   |_=>cases h2
  |int a =>
   cases y with
   |str b=>simp[w4]
   |int b=>simp[w4]
   |_=>cases h2
  |_=>cases h1
 |succ n h =>
  have o:∀xs ys:List D,xs.all (cz n)=a9->ys.all (cz n)=a9->(F0 (w4 M n) xs ys=a9↔xs=ys):=by
   intro xs;induction xs with
   |nil=>intro ys _ _;cases ys<;>simp[F0]
   |cons x xs i =>
    intro ys C c;cases ys with
    |nil=>simp[F0]
    |cons y ys=>rw[Mi,G7]at C c;show (w4 M n x y&&F0 (w4 M n) xs ys)=a9↔_;rw[G7,h x y C.1 c.1,i ys C.2 c.2,NZ]
  intro x y h1 h2;cases x with
  |str a =>
   cases y with
   |str b=>simp[w4]
   |int b=>simp[w4]
   |tup ys=>simp[w4]
   |_=>cases h2
  |int a =>
   cases y with
   |str b=>simp[w4]
   |int b=>simp[w4]
   |tup ys=>simp[w4]
   |_=>cases h2
  |tup xs =>
   cases y with
   |str b=>simp[w4]
   |int b=>simp[w4]
   |tup ys=>rw[D.tup.injEq];exact o _ _ h1 h2
   |_=>cases h2
  |_=>cases h1
section
variable{X:Cx}{pins:List (c8×c9)}{σ:St}{H:Hp}{ρ:List c8}{M:v8}
theorem Kl(sm:z6 X.K ρ M H):∀(n:Nat) (A:e7) (s:e8) (d:D) (v:V) (u:b7) (E:b7->e8->Prop) (Q:Int->e8->Prop),A.units+n<k7->v4 X pins σ H s->w5 X.K ρ H d v->aL v u->cz n d=a9 ->(∀tk,Q (C1 X.w n d) { s with toks:=tk })->f8 (ge X.prog X.w) A (pyHash u) Q E s:=by
 intro n;induction n with
 |zero =>
  intro A s d v u E Q R I r f q h;cases r with
  |str x=>obtain⟨t,rfl⟩:=f;exact Py<|h _
  |int x=>obtain⟨t,rfl⟩:=f;exact Pz<|h _
  |_=>cases q
 |succ n S =>
  intro A s d v u E Q R I r f q h;cases r with
  |str x=>obtain⟨t,rfl⟩:=f;exact Py<|h _
  |int x=>obtain⟨t,rfl⟩:=f;exact Pz<|h _
  |@tup a vs ds P Y =>
   cases f;obtain⟨its,W,p,_⟩:=I.tuple P;obtain⟨o,C,N,nn,O⟩:=id p;have m:s.TypeIs (.ref a) "tuple":=⟨o,C,N⟩
   have B:ds.all (cz n)=a9:=q;unfold pyHash
   first|unfold pyHashByItsType|skip
   first|refine u8 (wpAny_cRoomFor_or (.inr<|by lia) ?_)|skip
   refine u8<|NH m F.slot_tuple_hash.lookup ?_;refine(show f8 (ge X.prog X.w) _ (if (a7 (OJ "tuple.__hash__")==a7 K1)=a9 then _ else _) Q E s from ?_);rw[t7<|by rw[beq_builtin_none];exact Nw];refine u8<|NH m F.slot_tuple_hash.lookup ?_;refine(show f8 (ge X.prog X.w) _ (callSpecialIfBoundUnlessNone? (.ref a) "__hash__" _ >>= _) Q E s from u8<|R9 m F.slot_tuple_hash<|K4 F.slot_tuple_hash m F.entry_tuple_hash ?_<|F.args_tuple_hash_1 _);refine(show f8 (ge X.prog X.w) _ (QX (.ref a) >>= _) _ _ s from u8<|wpAny_tupleItemsOf C O<|u8 ?_);rw[<-OQ];refine N1 _ (λaM (b:Array Int) s'=>∃done left y,ds=done++left/\Reps X.K ρ H left y/\az y aM/\b.toList=done.map (C1 X.w n)/\∃tk,s'={ s with toks:=tk }) _ ?_ ?_ _ _ ⟨[],ds,vs,rfl,Y,by simpa using W,rfl,s.toks,rfl⟩;rintro x aM b s' ⟨done,left,y,e,h1,h2,k,tk,rfl⟩;cases h2 with
   |@cons Z _ i _ T J =>
    cases h1 with
    |@cons j _ c _ U L =>
     refine u8<|S _ _ j Z x _ _ (by show A.units+1+n<k7;lia) (I.tok tk) U T ?_ λg=>?_;have:=F4.mp B j (by rw[e];simp);exact this
     first
      |exact v5 ⟨done++[j],c,i,by rw[e];simp,L,J,by simp[k],g,rfl⟩
      |exact u8 (v5 (v5 ⟨done++[j],c,i,by rw[e];simp,L,J,by simp[k],g,rfl⟩))
   rintro b s' ⟨done,left,y,e,h1,h2,k,tk,rfl⟩;cases h2;cases h1;rw[LS]at e;subst e;refine(show f8 (ge X.prog X.w) _ (retInt<|Ov b.toList) _ _ _ from ?_);rw[k];refine wpAny_ret_mkInt ?_;have l:C1 X.w (n+1) (.tup ds)=o4 (Ov<|ds.map<|C1 X.w n):=rfl;generalize Ov (ds.map<|C1 X.w n)=z at l;refine(show f8 (ge X.prog X.w) _ (if (decide (-(2:Int) ^ 63<=z)&&decide (z<2 ^ 63))=a9 then _ else _) Q E _ from ?_);unfold o4 at l;by_cases G:(decide (-(2:Int) ^ 63<=z)&&decide (z<2 ^ 63))=a9;rw[t6 G]at l ⊢;exact v5 (by rw[<-l];exact h _);rw[t7 G]at l ⊢;exact u8<|Lz<|v5<|by rw[<-l];exact h _
  |_=>cases q
end
section
variable{X:Cx}{pins:List (c8×c9)}{σ:St}{H:Hp}{ρ:List c8}{M:v8}
theorem hbv_D(T:z6 X.K ρ M H):∀(n k:Nat) (A:e7) (s:e8) (d:D) (v:V) (u:b7) (E:b7->e8->Prop) (Q:Bool->e8->Prop),n<=k->v4 X pins σ H s->w5 X.K ρ H d v->aL v u->cz n d=a9->(∀b,Q b s)->f8 (ge X.prog X.w) A (hashByValue k u) Q E s:=by
 intro n;induction n with
 |zero =>
  intro k A s d v u E Q z I r c e h;cases r with
  |str x=>obtain⟨t,rfl⟩:=c;cases k<;>exact v5<|h _
  |int x=>obtain⟨t,rfl⟩:=c;cases k<;>exact v5<|h _
  |_=>cases e
 |succ n J =>
  intro k A s d v u E Q z I r c e h;cases r with
  |str x=>obtain⟨t,rfl⟩:=c;cases k<;>exact v5<|h _
  |int x=>obtain⟨t,rfl⟩:=c;cases k<;>exact v5<|h _
  |@tup a vs ds C P =>
   cases c;obtain⟨k,rfl⟩:∃L,k=L+1:=⟨k-1,by lia⟩
   obtain⟨its,j,p,_⟩:=I.tuple C;obtain⟨o,B,q,S,y⟩:=id p;have m:s.TypeIs (.ref a) "tuple":=⟨o,B,q⟩
   have f:ds.all (cz n)=a9:=e;unfold hashByValue;refine u8<|NH m F.slot_tuple_hash.lookup ?_;dsimp only;refine u8<|Mc B y ?_;simp only[Option.getD_some];rw[<-OQ];refine u8 ?_;refine N1 _ (λaM r s'=>s'=s/\r.1=a8/\∃left g,(∀x∈left,cz n x=a9)/\Reps X.K ρ H left g/\az g aM) _ ?_ ?_ _ _ ⟨rfl,rfl,ds,vs,F4.mp f,P,by simpa using j⟩;rintro x aM r s' ⟨rfl,i,left,g,l,h1,h2⟩;cases h2 with
   |cons N O =>
    cases h1 with
    |cons U R =>
     refine u8<|J k _ _ _ _ x _ _ (by lia) I U N (l _ F5) λb=>?_;cases b with
     |false=>exact v5<|v5<|h _
     |true=>exact v5 ⟨rfl,rfl,_,_,λx G=>l x<|D4 _ G,R,O⟩
   rintro⟨r1,j⟩ s' ⟨rfl,i,_⟩;simp only at i;subst i;exact v5<|h _
  |_=>cases e
theorem zc(R:z6 X.K ρ M H):∀(n k:Nat) (A:e7) (s:e8) (d:D) (v:V) (u:b7) (E:b7->e8->Prop) (Q:Bool->e8->Prop),n<=k->v4 X pins σ H s->w5 X.K ρ H d v->aL v u->cz n d=a9->Q a9 s->f8 (ge X.prog X.w) A (eqIsQuiet k u) Q E s:=by
 intro n;induction n with
 |zero =>
  intro k A s d v u E Q y I r b e h;cases r with
  |str x=>obtain⟨t,rfl⟩:=b;rw[N4 k (v:=.str x t) rfl];exact v5 h
  |int x=>obtain⟨t,rfl⟩:=b;rw[N4 k (v:=.int x t) rfl];exact v5 h
  |_=>cases e
 |succ n G =>
  intro k A s d v u E Q y I r b e h;cases r with
  |str x=>obtain⟨t,rfl⟩:=b;rw[N4 k (v:=.str x t) rfl];exact v5 h
  |int x=>obtain⟨t,rfl⟩:=b;rw[N4 k (v:=.int x t) rfl];exact v5 h
  |@tup a vs ds z O =>
   cases b;obtain⟨k,rfl⟩:∃J,k=J+1:=⟨k-1,by lia⟩
   obtain⟨its,l,p,_⟩:=I.tuple z;obtain⟨o,B,j,S,q⟩:=id p;have m:s.TypeIs (.ref a) "tuple":=⟨o,B,j⟩
   have c:ds.all (cz n)=a9:=e;unfold eqIsQuiet;refine u8<|NH m F.slot_tuple_eq.lookup ?_;refine(show f8 (ge X.prog X.w) A (isInstance (.ref a) (.type "tuple") >>= _) _ _ s from u8<|N0 m isSubtype_tuple_tuple ?_);simp only[MK,C4,u4];refine u8<|Mc B q ?_;simp only[Option.getD_some];refine u8 ?_;rw[<-OQ];refine N1 _ (λaM r s'=>s'=s/\r.1=a8/\∃left f,(∀x∈left,cz n x=a9)/\Reps X.K ρ H left f/\az f aM) _ ?_ ?_ _ _ ⟨rfl,rfl,ds,vs,F4.mp c,O,by simpa using l⟩;rintro x aM r s' ⟨rfl,i,left,f,g,h1,h2⟩;cases h2 with
   |cons L N =>
    cases h1 with
    |cons U P=>refine u8<|G k _ _ _ _ x _ _ (by lia) I U L (g _ F5) ?_;simp only[MK,C4,u4];exact v5 ⟨rfl,rfl,_,_,λx C=>g x<|D4 _ C,P,N⟩
   rintro⟨r1,l⟩ s' ⟨rfl,i,_⟩;simp only at i;subst i;exact v5 h
  |_=>cases e
theorem Le(P:z6 X.K ρ M H):∀(n k:Nat) (A:e7) (s:e8) (d:D) (v:V) (u:b7) (E:b7->e8->Prop) (Q:Bool->e8->Prop),n<=k->v4 X pins σ H s->w5 X.K ρ H d v->aL v u->cz n d=a9->Q bt s->f8 (ge X.prog X.w) A (ofAClassStatement k u) Q E s:=by
 intro n;induction n with
 |zero =>
  intro k A s d v u E Q y I r b e h;cases r with
  |str x=>obtain⟨t,rfl⟩:=b;cases k<;>exact v5 h
  |int x=>obtain⟨t,rfl⟩:=b;cases k<;>exact v5 h
  |_=>cases e
 |succ n F =>
  intro k A s d v u E Q y I r b e h;cases r with
  |str x=>obtain⟨t,rfl⟩:=b;cases k<;>exact v5 h
  |int x=>obtain⟨t,rfl⟩:=b;cases k<;>exact v5 h
  |@tup a vs ds z N =>
   cases b;obtain⟨k,rfl⟩:∃G,k=G+1:=⟨k-1,by lia⟩
   obtain⟨its,l,p,_⟩:=I.tuple z;obtain⟨o,B,j,S,q⟩:=id p;have m:s.TypeIs (.ref a) "tuple":=⟨o,B,j⟩
   have c:ds.all (cz n)=a9:=e;unfold ofAClassStatement;refine u8<|Nq m ?_;dsimp only;simp only[u7,u5];refine u8<|v5 ?_;simp only[MK,C4,u4];refine u8<|Mc B q ?_;dsimp only;refine u8 ?_;rw[<-OQ];refine N1 _ (λaM r s'=>s'=s/\r.1=a8/\∃left f,(∀x∈left,cz n x=a9)/\Reps X.K ρ H left f/\az f aM) _ ?_ ?_ _ _ ⟨rfl,rfl,ds,vs,F4.mp c,N,by simpa using l⟩;rintro x aM r s' ⟨rfl,i,left,f,g,h1,h2⟩;cases h2 with
   |cons J L =>
    cases h1 with
    |cons U O=>refine u8<|F k _ _ _ _ x _ _ (by lia) I U J (g _ F5) ?_;simp only[C4,u4];exact v5 ⟨rfl,rfl,_,_,λx C=>g x<|D4 _ C,O,L⟩
   rintro⟨r1,l⟩ s' ⟨rfl,i,_⟩;simp only at i;subst i;exact v5 h
  |_=>cases e
end
noncomputable def gK:D->Bool
 |.tup _=>a9
 |_=>bt
def G5(X:Cx)(ρ:List c8)(H:Hp)(n:Nat)(d:D)(e:Int×b7):Prop:=(∃v,w5 X.K ρ H d v/\aL v e.2)/\e.1=C1 X.w n d/\cz n d=a9/\gK d=a9
structure KSet(X:Cx)(ρ:List c8)(H:Hp)(h:d5)(a:c8)(n:Nat)(ds:List D)(o:c9)(es:Array (Int×b7))(ep:Nat)(t:p5):Prop where
 ob:h.get? a=a7 o
 ex:o.ExactSet
 dt:o.data=.set es ep t
 en:Paired (G5 X ρ H n) ds es.toList
 nd:ds.Nodup
 tk:Ht.TOk t (es.toList.map (·.1))
 ld:t.led = !X.w.params.followText "set-order"
theorem cU{α β:Type}{R:α->β->Prop}:∀{xs:List α}{ys:List β}{i:Nat}{y:β},Paired R xs ys->ys[i]?=a7 y->∃x,xs[i]?=a7 x/\R x y
 |_,_,i,y,.nil,e=>by simp at e
 |_,_,0,y,.cons r _,e=>by simp at e;subst e;exact⟨_,rfl,r⟩
 |_,_,i+1,y,.cons _ t,e=>by obtain⟨x,h1,h2⟩:=cU (i:=i) t (by simpa using e);exact⟨x,by simpa using h1,h2⟩
theorem iC{α β:Type}{R:α->β->Prop}:∀{xs:List α}{ys:List β}{i:Nat}{x:α},Paired R xs ys->xs[i]?=a7 x->∃y,ys[i]?=a7 y/\R x y
 |_,_,i,y,.nil,e=>by simp at e
 |_,_,0,y,.cons r _,e=>by simp at e;subst e;exact⟨_,rfl,r⟩
 |_,_,i+1,y,.cons _ t,e=>by obtain⟨x,h1,h2⟩:=iC (i:=i) t (by simpa using e);exact⟨x,by simpa using h1,h2⟩
theorem KSet.fits(S:KSet X ρ H h a n ds o es ep t):t.fits es.size=a9:=by
 have h1:=S.tk.len;have h2:=S.tk.few;rw[x6,G2]at h1;unfold OK;have b:t.fill=t.place.size:=by unfold Qf;rw[S.tk.nod];rfl
 rw[b];simp only[G7,u3,t9];lia
section
variable{X:Cx}{pins:List (c8×c9)}{σ:St}{H:Hp}{ρ:List c8}{M:v8}{A:e7}{E:b7->e8->Prop}{s:e8}{a:c8}{n:Nat}{ds:List D}{o:c9}{es:Array (Int×b7)}{ep:Nat}{t:p5}
theorem BI(m:z6 X.K ρ M H)(I:v4 X pins σ H s)(f:n<=8)(r:w5 X.K ρ H d v)(g:aL v u)(e:cz n d=a9)(h:Q bt s):∀(l:List b7),(∀y∈l,∃d' v',w5 X.K ρ H d' v'/\aL v' y/\cz n d'=a9)->f8 (ge X.prog X.w) A (searchCouldBeSeen u l) Q E s:=by intro l j;unfold searchCouldBeSeen;refine u8 ?_;refine N1 _ (λaM r s'=>s'=s/\r.1=a8/\∀y∈aM,∃d' v',w5 X.K ρ H d' v'/\aL v' y/\cz n d'=a9) _ ?_ ?_ _ _ ⟨rfl,rfl,j⟩;rintro y aM r' s' ⟨rfl,i,c⟩;have t:∀z∈aM,∃d' v',w5 X.K ρ H d' v'/\aL v' z/\cz n d'=a9:=λz o=>c z<|D4 _ o;obtain⟨d',v',a,b,k⟩:=c y F5;dsimp only;refine Nu (λ_=>v5 ⟨rfl,rfl,t⟩) λ_=>?_;refine u8<|zc m n 8 A _ d v u _ _ f I r g e ?_;simp only[MK,C4,u4];refine u8<|zc m n 8 A _ d' v' y _ _ f I a b k ?_;simp only[MK,C4,u4];refine u8<|Le m n 8 A _ d v u _ _ f I r g e ?_;simp only[C4,u4];refine u8<|Le m n 8 A _ d' v' y _ _ f I a b k ?_;simp only[C4,u4];exact v5 ⟨rfl,rfl,t⟩;rintro⟨a,b⟩ s' ⟨rfl,i,_⟩;simp only at i;subst i;exact v5 h
theorem BX(sm:z6 X.K ρ M H)(I:v4 X pins σ H s)(hn:n<=8)(hu:A.units+n<k7)(S:KSet X ρ H s.heap a n ds o es ep t)(r:w5 X.K ρ H d v)(rv:aL v u)(F:cz n d=a9)(c:d∈ds->Q (.there a8) s) (be:N<10*(t.mask+15)) (G:(Ht.sq t.mask (C1 X.w n d) N).j∉t.place.toList) (ab:∀k,k<N->(Ht.sq t.mask (C1 X.w n d) k).j∈t.place.toList)(J:d∉ds->Q (.free (Ht.sq t.mask (C1 X.w n d) N).j bt) s):∀(fuel m:Nat) (stand:Option NW),m<=N->N<m+fuel->stand.getD (t.probeStart<|C1 X.w n d)=Ht.sq t.mask (C1 X.w n d) m->(∀k i:Nat,k<m->t.place[i]?=a7 (Ht.sq t.mask (C1 X.w n d) k).j->ds[i]?≠a7 d) ->f8 (ge X.prog X.w) A (setSearchFrom a u (C1 X.w n d) a9 fuel stand) Q E s:=by
 intro fuel;induction fuel with
 |zero=>intro m stand h1 h2;lia
 |succ fuel ih =>
  intro m stand h1 h2 hs hb;unfold setSearchFrom;refine u8<|ME S.ob S.dt S.fits ?_;dsimp only;have gw:t.gaveWay=bt:=by unfold SetTable.gaveWay;rcases S.tk.msk with e|e|e<;>rw[e]<;>rfl
  rw[gw];simp only[C4,u4];rw[hs];rcases Ht.go_spec S.tk.ris S.tk.nod (λi=>(es[i]?.map (·.1)).getD 0) (C1 X.w n d) (10*OL t.mask) m N h1 (by unfold OL;lia) G (λk _ hk=>ab k hk) (Ht.sq_dummy _ _)with⟨z1,z2⟩|⟨m',i,a1,a2,a3,a4,a5,a6⟩
  generalize L:SetTable.probe t _ (C1 X.w n d) (Ht.sq t.mask (C1 X.w n d) m)=pr;obtain rfl:pr=_:=L.symm.trans z2;dsimp only;refine v5<|J λhd=>?_;obtain⟨i,hi⟩:=Mg hd;obtain⟨e,D,_,U,_⟩:=iC S.en hi;have g:es[i]?=a7 e:=by rw[<-J5];exact D
  have hh:(es.toList.map (·.1))[i]?=a7 (C1 X.w n d):=by rw[E1,D];exact u6 a7 U
  have hl:i<t.place.size:=by rw[S.tk.len];exact(B6.mp hh).1
  obtain⟨P,b1,b2⟩:=S.tk.path i _ t.place[i] hh<|K5 hl;have al:P<N:=by rcases PC P N with q|q|q;exact q;subst q;exact t8 (show (Ht.sq t.mask (C1 X.w n d) P).j∈t.place.toList by rw[b1];simp) G;exact t8 (b2 N q) G
  have hp:t.place[i]?=a7 (Ht.sq t.mask (C1 X.w n d) P).j:=by rw[b1];exact K5 hl
  rcases MI P m with q|q;exact hb P i q hp hi;refine z1 P i q al hp ?_;rw[g];exact U;generalize L:SetTable.probe t _ (C1 X.w n d) (Ht.sq t.mask (C1 X.w n d) m)=pr;obtain rfl:pr=_:=L.symm.trans a6;dsimp only;have aj:i<es.size:=by have:=(MU.mp a3).1;rw[S.tk.len,x6,G2]at this;exact this
  have l:es[i]?=a7 es[i]:=K5 aj;obtain⟨p,B,⟨v0,r0,Y⟩,aS,O,an⟩:=cU S.en (i:=i) (y:=es[i]) (by rw[J5];exact l);have Z:∀(f:Bool->Sem SetFound),f8 (ge X.prog X.w) A (f bt) Q E s->f8 (ge X.prog X.w) A (searchCouldBeSeen u ((es.filter (·.1==C1 X.w n d)).toList.map (·.2)) >>= f) Q E s:=λf hf=>by
   refine u8<|BI sm I hn r rv F hf _ λy hy=>?_;obtain⟨e,D,rfl⟩:=A6.mp hy;have ai:e∈es.toList:=by
    have:e∈es.filter (·.1==C1 X.w n d):=by simpa using D
    simpa using(Array.mem_filter.mp this).1
   obtain⟨j,hj⟩:=Mg ai;obtain⟨d1,_,⟨v1,r1,aD⟩,_,as,_⟩:=cU S.en hj;exact⟨d1,v1,r1,aD,as⟩
  have x:∃b,es[i].2=F6 b:=by
   cases r0 with
   |tup _ _=>exact⟨_,Y⟩
   |_=>cases an
  obtain⟨b,x⟩:=x;have V:MB A s es[i].2 u (w4 M n p d):=(mv I sm n A p d v0 v es[i].2 u hu r0 Y r rv (uE n p O)<|uE n d F).1;refine Nu (λ_=>Z _ ?_) λ_=>?_;simp only[C4,u4];rw[l];dsimp only;refine u8<|F8<|V _ _ _ _<|u8<|ME S.ob S.dt S.fits ?_;dsimp only;by_cases C:w4 M n p d=a9;rw[C];simp only[Bool.and_self,u5];have:p=d:=(jo n p d O F).mp C;subst this;exact v5<|c<|K7 B;rw[MQ.mpr C];simp only[Bool.and_false,C4,u4];have T:t.sameMemory t.moves t.mask=a7 a9:=by unfold SetTable.sameMemory;simp
  rw[T];dsimp only;simp only[u5];rw[Ht.slot_live S.tk.ris a3];dsimp only;rw[l];have R:f8 (ge X.prog X.w) A (isSame es[i].2 es[i].2) (λb s'=>b=a9/\s'=s) E s:=by unfold isSame;rw[x];simp only[u7,u5];exact v5<|And.intro rfl rfl
  refine u8<|G4 R (λb s' ⟨e1,e2⟩=>?_) λ_ _ z=>z;subst e1 e2;refine u8<|v5 ?_;simp only[u5];refine ih (m'+1) _ (by lia) (by lia) rfl λk i' hk hp h=>?_;rcases MI k m with q|q;exact hb k i' q hp h;rcases MI k m' with W|W;refine a5 k i' q W hp ?_;obtain⟨e,D,_,U,_⟩:=iC S.en h;have g:es[i']?=a7 e:=by rw[<-J5];exact D
  rw[g];exact U;have:k=m':=by lia
  subst this;have:i'=i:=by rw[<-Ht.below_at S.tk.ris hp,Ht.below_at S.tk.ris a3]
  subst this;rw[B]at h;cases h;exact C<|(jo n d d F F).mpr rfl;rw[l];dsimp only;refine u8<|F8<|V _ _ _ _<|u8<|ME S.ob S.dt S.fits ?_;dsimp only;by_cases C:w4 M n p d=a9;rw[C];simp only[Bool.and_self,u5];have:p=d:=(jo n p d O F).mp C;subst this;exact v5<|c<|K7 B;rw[MQ.mpr C];simp only[Bool.and_false,C4,u4];have T:t.sameMemory t.moves t.mask=a7 a9:=by unfold SetTable.sameMemory;simp
  rw[T];dsimp only;simp only[u5];rw[Ht.slot_live S.tk.ris a3];dsimp only;rw[l];have R:f8 (ge X.prog X.w) A (isSame es[i].2 es[i].2) (λb s'=>b=a9/\s'=s) E s:=by unfold isSame;rw[x];simp only[u7,u5];exact v5<|And.intro rfl rfl
  refine u8<|G4 R (λb s' ⟨e1,e2⟩=>?_) λ_ _ z=>z;subst e1 e2;refine u8<|v5 ?_;simp only[u5];refine ih (m'+1) _ (by lia) (by lia) rfl λk i' hk hp h=>?_;rcases MI k m with q|q;exact hb k i' q hp h;rcases MI k m' with W|W;refine a5 k i' q W hp ?_;obtain⟨e,D,_,U,_⟩:=iC S.en h;have g:es[i']?=a7 e:=by rw[<-J5];exact D
  rw[g];exact U;have:k=m':=by lia
  subst this;have:i'=i:=by rw[<-Ht.below_at S.tk.ris hp,Ht.below_at S.tk.ris a3]
  subst this;rw[B]at h;cases h;exact C<|(jo n d d F F).mpr rfl
end
theorem Paired.ins{α β:Type}{R:α->β->Prop}{x:α}{y:β}(r:R x y):∀{xs:List α}{ys:List β} (p:Nat),Paired R xs ys->Paired R (xs.take p++x::xs.drop p) (ys.take p++y::ys.drop p)
 |_,_,0,h=>by simpa using .cons r h
 |_,_,p+1,.nil=>.cons r .nil
 |_,_,p+1,.cons h t=>.cons h<|Paired.ins r p t
theorem Paired.pick{α β:Type}{R:α->β->Prop}:∀{xs:List α}{ys:List β} (is:List Nat),Paired R xs ys->(∀i∈is,i<xs.length)->Paired R (is.filterMap (xs[·]?)) (is.filterMap (ys[·]?))
 |_,_,[],_,_=>.nil
 |xs,ys,i::is,h,hi=>by have hl:=hi i F5;have e:xs[i]?=a7 xs[i]:=A4 hl;obtain⟨y,hy,r⟩:=iC h e;rw[N8,N8,e,hy];exact .cons r<|Paired.pick is h λj hj=>hi j<|D4 _ hj
theorem nR{α:Type}{l:List α}{is:List Nat}(h:is.Perm (E4 l.length)):(is.filterMap (l[·]?)).Perm l:=by
 have:=h.filterMap (l[·]?)
 rwa [List.filterMap_getElem?_range_length]at this
section
variable{X:Cx}{pins:List (c8×c9)}{σ:St}{H:Hp}{ρ:List c8}{M:v8}{A:e7}{E:b7->e8->Prop}{s:e8}{a:c8}{n:Nat}{ds:List D}{o:c9}{es:Array (Int×b7)}{ep:Nat}{t:p5}
def KS(X:Cx)(ρ:List c8)(H:Hp)(h:d5)(a:c8)(n:Nat)(ds:List D):Prop:=∃o es i t,KSet X ρ H h a n ds o es i t
set_option maxHeartbeats 1000000 in
theorem add_D(sm:z6 X.K ρ M H)(I:v4 X pins σ H s)(hn:n<=8)(hu:A.units+n+1<k7)(S:KS X ρ H s.heap a n ds)(bk:ds.length+1<=64)(r:w5 X.K ρ H d v)(rv:aL v u)(kd:cz n d=a9)(it:gK d=a9)(h:∀b h' tk ds',(∀c u,c≠a->s.heap.get? c=a7 u->h'.get? c=a7 u)->KS X ρ H h' a n ds'->(∀x,x∈ds'↔x∈ds\/x=d)->ds'.length<=ds.length+1->Q b { s with heap:=h',toks:=tk }):f8 (ge X.prog X.w) A (setAdd a u) Q E s:=by
 obtain⟨o,es,ep,t,S⟩:=S;obtain⟨R,rfl⟩:∃R,u=F6 R:=by
  cases r with
  |tup _ _=>exact⟨_,rv⟩
  |_=>cases it
 unfold setAdd;refine F8<|u8<|Kl sm n A s d v _ _ _ (by lia) I r rv kd λtk=>?_;unfold setAddHashed setAddHashedIn;refine F8<|u8<|ME (s:={ s with toks:=tk }) S.ob S.dt S.fits ?_;dsimp only;have bs:byScan (.ref R) es=bt:=rfl;rw[bs];simp only[C4,u4];obtain⟨N,ab,ai,aj⟩:=S.tk.empty<|C1 X.w n d;have I1:v4 X pins σ H { s with toks:=tk }:=I.tok tk;unfold setSearch;refine u8<|BX (s:={ s with toks:=tk }) sm I1 hn (by lia) S r rv kd (λhd=>?_) ab ai aj (λhd=>?_) 100000 0 a8 (D6 _) ?_ rfl λk i hk=>t8 hk<|NI _;exact v5<|h _ s.heap tk ds (λ_ _ _ e=>e) ⟨o,es,ep,t,S⟩ (λx=>⟨.inl,λz=>z.elim id λe=>e ▸ hd⟩)<|OF _;dsimp only;refine u8<|ME (s:={ s with toks:=tk }) S.ob S.dt S.fits ?_;dsimp only;have J:=S.tk.len;rw[x6,G2]at J;have dl:ds.length=es.size:=by have:=Paired.length S.en;simpa using this
 have F:∀O:Bool,f8 (ge X.prog X.w) A (do
   storeSet a (Qw es (t.put (Ht.sq t.mask (C1 X.w n d) N).j).2 (C1 X.w n d,F6 R)) { (t.put (Ht.sq t.mask (C1 X.w n d) N).j).1 with plain:=O }
   if (!bt&&({ (t.put (Ht.sq t.mask (C1 X.w n d) N).j).1 with plain:=O }:p5).tooFull)=a9 then do
     setRelay a (Mj<|es.size+1)
     pure a9
    else pure a9) Q E { s with toks:=tk }:=λO=>by
  obtain⟨pb,T⟩:=Ht.put_pre S.tk ai aj O;have G:({ (t.put (Ht.sq t.mask (C1 X.w n d) N).j).1 with plain:=O }:p5).led=t.led:=rfl;have L:({ (t.put (Ht.sq t.mask (C1 X.w n d) N).j).1 with plain:=O }:p5).mask=t.mask:=rfl;generalize ({ (t.put (Ht.sq t.mask (C1 X.w n d) N).j).1 with plain:=O }:p5)=D at T G L;generalize (t.put (Ht.sq t.mask (C1 X.w n d) N).j).2=p at pb T;rw[x6,G2]at pb;have e1:(Qw es p (C1 X.w n d,F6 R)).toList=es.toList.take p++(C1 X.w n d,F6 R)::es.toList.drop p:=SetTable.toList_insertAt ..;generalize Qw es p (C1 X.w n d,F6 R)=f at e1;have aD:f.toList.map (·.1)=(es.toList.map (·.1)).take p++C1 X.w n d::(es.toList.map (·.1)).drop p:=by rw[e1,L6,D7,List.map_take,List.map_drop]
  rw[<-aD]at T;have C:f.size=es.size+1:=by have:=u6 Ma e1;rw[G2,E3,E9,LC,MC,G2]at this;lia
  have Y:Paired (G5 X ρ H n) (ds.take p++d::ds.drop p) f.toList:=by rw[e1];exact Paired.ins ⟨⟨v,r,rv⟩,rfl,kd,it⟩ p S.en
  have U:(ds.take p++d::ds.drop p).Perm (d::ds):=by refine List.perm_middle.trans<|Qk d ?_;rw[List.take_append_drop]
  have al:(ds.take p++d::ds.drop p).Nodup:=U.nodup_iff.mpr<|LK.mpr ⟨hd,S.nd⟩;have Z:D.fits f.size=a9:=by
   have l1:=T.len;rw[x6,G2]at l1;have h3:D.fill=D.place.size:=by unfold Qf;rw[T.nod];rfl
   have fw:=S.tk.few;unfold OK;rw[h3];simp only[G7,u3,t9];rw[J]at fw;rcases S.tk.msk with e|e|e<;>rw[L,e]<;>rw[e]at fw<;>lia
  have zz:f.size<=sizeLine:=by rw[Mh];lia
  refine u8<|Qy (s:={ s with toks:=tk }) S.ob S.dt ?_ zz;have B:(s.heap.update a<|MZ f D).get? a=a7 { o with data:=.set f (ep+1) D }:=by
   have q:=LO (MZ f D) S.ob<|by rw[NU f D S.dt];rfl
   rwa [NU f D S.dt]at q
  have an:∀c u,c≠a->s.heap.get? c=a7 u->(s.heap.update a<|MZ f D).get? c=a7 u:=λc u hc e=>(OW _ _<|A7 hc).trans e;by_cases tf:D.tooFull=a9;rw[tf];simp only[Bool.not_false,Bool.and_self,u5];have as:((f.toList.map (·.1)).length-1)*5<D.mask*3:=by have fw:=S.tk.few;rw[J]at fw;rw[x6,G2,C,L];simpa using fw
  obtain⟨zl,W,m,g1,g2,T2,aS⟩:=T.anew tf as (by rw[x6,G2];lia);rw[x6,G2]at g2 zl;have eg:Mj (es.size+1)=Mj (f.toList.map (·.1)).length:=by rw[x6,G2,C]
  unfold setRelay;refine u8<|u8<|ME (s:={ s with heap:=_,toks:=tk }) B rfl Z ?_;dsimp only;rw[eg];have nz:¬Rn (Mj (f.toList.map (·.1)).length) > sizeLine:=by rw[x6,G2];lia
  simp only[nz,u4];have ea:f.map (·.1)=(f.toList.map (·.1)).toArray:=by apply Array.ext';simp
  rw[ea,g1];have y:(m.filterMap (f[·]?)).toList=m.toList.filterMap (f.toList[·]?):=by rw[Array.toList_filterMap];congr 1;funext i;rw[J5]
  have V:(m.filterMap (f[·]?)).size=f.size:=by have:=(nR (l:=f.toList) (is:=m.toList)<|by rw[G2];exact g2).length_eq;rw[<-y,G2,G2]at this;exact this
  refine u8 (show f8 (ge X.prog X.w) A (if ((m.filterMap (f[·]?)).size != f.size)=a9 then _ else pure (m.filterMap (f[·]?),W)) _ _ _ from ?_);rw[t7<|by rw[V];simp];refine v5 ?_;generalize m.filterMap (f[·]?)=g at y V;have P:(m.toList.filterMap ((ds.take p++d::ds.drop p)[·]?)).Perm (ds.take p++d::ds.drop p):=nR (by
   have:(ds.take p++d::ds.drop p).length=f.size:=by rw[U.length_eq,E9,dl,C]
   rw[this];exact g2)
  refine Qy (s:={ s with heap:=_,toks:=tk }) B rfl ?_ (by rw[V];exact zz);have be:((s.heap.update a<|MZ f D).update a<|MZ g W).get? a=a7 { o with data:=.set g (ep+1+1) W }:=by
   have q:=LO (MZ g W) B<|by rw[NU g W (es:=f) (ep:=ep+1) (t:=D) rfl];rfl
   rwa [NU g W (es:=f) (ep:=ep+1) (t:=D) rfl]at q
  refine v5 (h _ _ tk (m.toList.filterMap ((ds.take p++d::ds.drop p)[·]?)) (λc u hc e=>(OW _ _<|A7 hc).trans<|an c u hc e) ⟨_,g,_,W,be,S.ex,rfl,?_,P.nodup_iff.mpr al,?_,aS.trans<|G.trans S.ld⟩ (λx=>?_) ?_);rw[y];refine Paired.pick _ Y λi hi=>?_;have:=g2.mem_iff.mp hi;rw[K6]at this;rw[U.length_eq,E9,dl,<-C];exact this;have e2:g.toList.map (·.1)=m.toList.map λi=>(f.toList.map (·.1)).getD i 0:=by
   rw[y];have:∀(is:List Nat),(∀i∈is,i<f.toList.length)->(is.filterMap (f.toList[·]?)).map (·.1)=is.map λi=>(f.toList.map (·.1)).getD i 0:=by
    intro is;induction is with
    |nil=>intro _;rfl
    |cons i is ih=>intro hi;have hl:=hi i F5;rw[N8,A4 hl,D7,D7,ih λj hj=>hi j<|D4 _ hj];congr 1;rw[LV,E1,A4 hl];rfl
   refine this _ λi hi=>?_;have:=g2.mem_iff.mp hi;rw[K6]at this;rw[G2];exact this
  rw[e2];exact T2;rw[P.mem_iff,U.mem_iff,A9];exact⟨λz=>z.symm,λz=>z.symm⟩;rw[P.length_eq,U.length_eq];exact x9 _;rw[MQ.mpr tf];simp only[Bool.and_false,C4,u4];refine v5<|h _ _ tk _ an ⟨_,f,_,D,B,S.ex,rfl,Y,al,T.ok<|MQ.mpr tf,G.trans S.ld⟩ (λx=>?_) ?_;rw[U.mem_iff,A9];exact⟨λz=>z.symm,λz=>z.symm⟩;rw[U.length_eq];exact x9 _
 refine Nu (λ_=>u8<|hbv_D sm n 8 A _ d v _ _ _ hn I1 r rv kd λb=>?_) λ_=>?_;cases b with
 |true=>exact F (t.put (Ht.sq t.mask (C1 X.w n d) N).j).1.plain
 |false=>exact F bt
 exact F (t.put (Ht.sq t.mask (C1 X.w n d) N).j).1.plain;have:=ab;rcases S.tk.msk with e|e|e<;>rw[e]at this<;>lia
end
section
variable{X:Cx}{pins:List (c8×c9)}{σ:St}{H:Hp}{ρ:List c8}{M:v8}{A:e7}{E:b7->e8->Prop}{s:e8}{n:Nat}
theorem KS.at(x:KS X ρ H h a n ds)(k:∀o,h.get? a=a7 o->h'.get? a=a7 o):KS X ρ H h' a n ds:=by obtain⟨o,es,i,t,S⟩:=x;exact⟨o,es,i,t,k _ S.ob,S.ex,S.dt,S.en,S.nd,S.tk,S.ld⟩
theorem Gb(sm:z6 X.K ρ M H)(I:v4 X pins σ H s)(hn:n<=8)(hu:A.units+n+2<k7)(W:o5 X.prog X.w A.in1 J fp wr m P Sx)(S:c8)(f:S∉fp)(L:s.heap.get? S=a8) (p:∀b∈wr,s.heap.get? b=a8) (l:Nat->D) (B:∀i v,P i v->∃vv,w5 X.K ρ H (l i) vv/\aL vv v/\cz n (l i)=a9/\gK (l i)=a9) (hb:m<=63):∀(k i:Nat) (h:d5) (tk:Nat) (ds:List D),m-i=k->i<=m->Sx i h->KS X ρ H h S n ds->(∀x,x∈ds↔∃j,j<i/\l j=x)->ds.length<=i->(∀b u,s.heap.get? b=a7 u->h.get? b=a7 u) ->(∀h' tk ds',(∀b u,s.heap.get? b=a7 u->h'.get? b=a7 u)->KS X ρ H h' S n ds'->(∀x,x∈ds'↔∃j,j<m/\l j=x)->ds'.length<=m->R (.ok<|.ret .none) { s with heap:=h',toks:=tk }) ->l7 (ge X.prog X.w) A (.builtin "set.update.loop" ⟨[.ref S,.ref J],[]⟩) R { s with heap:=h,toks:=tk }:=by
 have g:S∉wr:=λh=>f<|W.sub _ h;intro k;induction k with
 |zero =>
  intro i h tk ds hk hi t G Q U d E;obtain rfl:i=m:=by lia
  refine Mw F.entry_set_update_loop ?_;rw[Ng F.plain_set_update_loop _];refine(show f8 (ge X.prog X.w) A.in1 (j0 (.ref J) >>= _) _ _ _ from u8<|W.done _ _ _ t λh' tk c=>?_);refine v5<|E h' tk ds (λb u e=>c b u (λz=>by rw[p b z]at e;cases e)<|d b u e) (G.at λo e=>c S o g e) Q U
 |succ k ih=>intro i h tk ds hk hi t G Q U d E;refine Mw F.entry_set_update_loop ?_;rw[Ng F.plain_set_update_loop _];refine(show f8 (ge X.prog X.w) A.in1 (j0 (.ref J) >>= _) _ _ _ from u8<|W.item i _ _ _ (by lia) t λv h' tk hP y c=>?_);obtain⟨vv,r,rv,kd,it⟩:=B i v hP;have a:∀b u,s.heap.get? b=a7 u->h'.get? b=a7 u:=λb u e=>c b u (λz=>by rw[p b z]at e;cases e)<|d b u e;have Y:v4 X pins σ H { s with heap:=h',toks:=tk }:=I.kept a;refine u8<|F8<|add_D (s:={ s with heap:=h',toks:=tk }) sm Y hn (by show A.units+1+n+1<k7;lia) (G.at λo e=>c S o g e) (by lia) r rv kd it λb h2 Z C V N T ab=>?_;refine v5 ⟨Nr F.plain_set_update_loop _,ih (i+1) h2 Z C (by lia) (by lia) (W.frame _ h' h2 y λb' O o e=>V b' o (λz=>f<|z ▸ O) e) N (λx=>?_) (by lia) (λb u e=>V b u (λz=>by rw[z,L]at e;cases e)<|a b u e) E⟩;rw[T,Q];constructor;rintro(⟨j,hj,e⟩|rfl);exact⟨j,by lia,e⟩;exact⟨i,by lia,rfl⟩;rintro⟨j,hj,rfl⟩;by_cases q:j=i;subst q;exact .inr rfl;exact .inl ⟨j,by lia,rfl⟩
theorem CM(e:h.get? a=a7 (ay X.w)):KS X ρ H h a n []:=⟨_,#[],0,_,e,⟨rfl,rfl,rfl⟩,rfl,.nil,Ol,⟨.inl rfl,rfl,rfl,QA,λj L=>by simp[SetTable.fresh]at L,(by show 0*5<7*3;decide),λi h j b=>by simp at b⟩,rfl⟩
end
section
variable{X:Cx}{pins:List (c8×c9)}{σ:St}{H:Hp}{ρ:List c8}{M:v8}{A:e7}{E:b7->e8->Prop}{s:e8}{m:Nat}
theorem Gw(Y:z6 X.K ρ M H)(I:v4 X pins σ H s)(y:m<=8)(hu:A.units+m+3<k7){l:c8}{T:String}{n:Nat}{P:Nat->b7->Prop}{G:e8->Prop}(O:A.handled=a8)(K:TxSrc X.prog X.w s.heap l T n P)(a:Nat->D)(B:∀i v,P i v->∃vv,w5 X.K ρ H (a i) vv/\aL vv v/\cz m (a i)=a9/\gK (a i)=a9)(N:n<=63)(h:∀h' tk ds,(∀b o,s.heap.get? b=a7 o->h'.get? b=a7 o)->KS X ρ H h' s.heap.objs.size m ds->(∀x,x∈ds↔∃j,j<n/\a j=x)->ds.length<=n->G { s with heap:=h',toks:=tk }):f8 (ge X.prog X.w) A (Builtin.«set.__init__» ⟨[.ref s.heap.objs.size,.ref l],[]⟩) (λfin s'=>fin=.done (.ret .none)/\G s') E { s with heap:=s.heap.push (ay X.w) }:=by
 have S:(s.heap.push<|ay X.w).get? s.heap.objs.size=a7 (ay X.w):=C7 _ rfl;have hT:ML { s with heap:=s.heap.push (ay X.w) } (.ref s.heap.objs.size) "set":=⟨_,S,rfl⟩
 obtain⟨C,f,k⟩:=K.obj;have c:(s.heap.push<|ay X.w).get? l=a7 C:=A3 _ f;have J:ML { s with heap:=s.heap.push (ay X.w) } (.ref l) T:=⟨C,c,k⟩
 have V:l<s.heap.objs.size:=A5 f;have F:(s.heap.push<|ay X.w).objs.size=s.heap.objs.size+1:=LJ ..;obtain⟨oI,St,t,W,Z⟩:=K.iter A.in1 { s with heap:=s.heap.push (ay X.w) } O λo e=>A3 _ e;have ns:=K.ns;have nf:=K.nf;have nd:=K.nd;unfold Builtin.«set.__init__» noKeywords R0;generalize d:j4=PI
 wp_walk
 subst d;refine wpAny_of_in1<|t _ _ ?_;have r:s.heap.objs.size∉[(s.heap.push<|ay X.w).objs.size,l]:=by rw[F];simp only[A9,Me,or_false,not_or];exact⟨A8<|Mf _,MJ V⟩
 have L:s.heap.get? s.heap.objs.size=a8:=by
  cases q:s.heap.get? s.heap.objs.size with
  |none=>rfl
  |some o=>exact t8 (A5 q)<|J4 _
 have z:∀b∈[(s.heap.push<|ay X.w).objs.size],s.heap.get? b=a8:=λb g=>by
  rw[LL.mp g,F];cases q:s.heap.get? (s.heap.objs.size+1) with
  |none=>rfl
  |some o=>exact t8 (A5 q)<|Nm.mpr<|OF _
 refine u8<|wpAny_runValue<|Gb (s:=s) Y I y (by first|exact(show A.units+m+2<k7 by lia)|exact(show A.units+1+m+2<k7 by lia)) W s.heap.objs.size r L z a B N n 0 _ _ [] rfl (D6 _) Z (CM<|A3 _ S) (λx=>by simp) (x9 _) (λb u e=>A3 _<|A3 _ e) λh' tk ks Q p U R=>?_;exact v5<|v5 ⟨rfl,h h' tk ks Q p U R⟩
set_option maxHeartbeats 1000000 in
theorem Hj(C:z6 X.K ρ M H)(I:v4 X pins σ H s)(y:m<=8)(Z:A.units+m+20<k7){l:c8}{T:String}{n:Nat}{P:Nat->b7->Prop}{Q:b7->e8->Prop}(t:A.handled=a8)(K:TxSrc X.prog X.w s.heap l T n P)(a:Nat->D)(B:∀i v,P i v->∃vv,w5 X.K ρ H (a i) vv/\aL vv v/\cz m (a i)=a9/\gK (a i)=a9)(p:n<=63)(h:∀h' tk ds,(∀b o,s.heap.get? b=a7 o->h'.get? b=a7 o)->KS X ρ H h' s.heap.objs.size m ds->(∀x,x∈ds↔∃j,j<n/\a j=x)->ds.length<=n->Q (.ref s.heap.objs.size) { s with heap:=h',toks:=tk }):f8 (ge X.prog X.w) A (call (.type "set") [.ref l]) Q E s:=by
 have O:=F.called_set.made;have W:=F.called_set.sub;have U:=F.called_set.notType;have L:=F.called_set.canCreate;have Y:=F.typeCall_set_1<|.ref l;obtain⟨c,tl,V⟩:=F.called_set.mro;refine l8<|codeAny_of_tree<|show f8 _ _ (callAny (.type "set") _) _ _ _ from v5 ⟨Code.quiet_builtin _ (by decide +kernel),Mw F.entry_type_call ?_⟩;rw[Around.under_plain (weight_type_call_type "set" [.ref l] []) rfl]
 repeat (any_goals (first|assumption|wp_step))
 refine Na (mC (.ref l) (E:=E) (Q₁:=λobj s₁=>obj=.ref s.heap.objs.size/\s₁={ s with heap:=s.heap.push (ay X.w) }) ⟨rfl,rfl⟩) λr s₁ hr=>?_
 match r,hr with
 |.error e,hr=>exact hr
 |.ok (.ret obj),⟨e1,e2⟩ =>
  subst e1 e2;have S:(s.heap.push<|ay X.w).get? s.heap.objs.size=a7 (ay X.w):=C7 _ rfl;have k:ML { s with heap:=s.heap.push (ay X.w) } (.ref s.heap.objs.size) "set":=⟨_,S,rfl⟩
  have N:=F.called_set.init.lookup;have J:=F.called_set.init.bind<|.ref s.heap.objs.size
  repeat (any_goals (first|assumption|wp_step))
  refine Na (OT (R:=wants (λr s₂=>r=.none/\Q (.ref s.heap.objs.size) s₂) E) F.called_set.init.plain F.entry_set_init<|check_set_init_1 k ?_) λd s₂ hr₂=>?_;refine G4 (Gw (G:=λu=>Q (.ref s.heap.objs.size) u) C I y (by first|(show A.units+1+1+1+m+3<k7;lia)|(show A.units+1+1+m+3<k7;lia)|(show A.units+1+m+3<k7;lia)) (by simp[t]) K a B p h) (λf s' ⟨e,g⟩=>?_) λ_ _ z=>z;subst e;exact⟨rfl,g⟩
  ·match d,hr₂ with
   |.error e,hr₂=>exact hr₂
   |.ok (.ret r),⟨e,q⟩ =>
    subst e
    repeat (any_goals (first|assumption|wp_step))
end
def SqAt(M:v8)(d:D)(xs:List D):Prop:=(∃n,d=.ref n/\ak M n xs)\/d=.tup xs
theorem SrtOk.sub(h:SrtOk M xs)(s:∀y∈ys,y∈xs)(l:ys.length<64):SrtOk M ys:=by refine⟨l,λx a=>h.ok x<|s x a,λx a y Q=>h.cm x (s x a) y<|s y Q,?_⟩;rcases h.kd with k|k|k|k|k;exact .inl λx a=>k x<|s x a;exact .inr<|.inl λx a=>k x<|s x a;exact .inr<|.inr<|.inl λx a=>k x<|s x a;exact .inr<|.inr<|.inr<|.inl λx a=>k x<|s x a;exact .inr<|.inr<|.inr<|.inr λx a=>k x<|s x a
def fI(te:A0):A0:=λS M Q=>te S M λd a=>(∃xs,Ln a d xs/\xs.length<64/\∀ys:List c5,ys.Nodup->(∀x,x∈ys↔x∈xs)->uW a (ys.map .str)->Q (.ref a.length) (a++[.lst<|ys.map .str])) \/(∃n xs,n<=8/\SqAt a d xs/\xs.length<64/\(∀x∈xs,cz n x=a9/\gK x=a9)/\SrtOk a xs/\∀ys:List D,ys.Nodup->(∀x,x∈ys↔x∈xs)->uW a ys->Q (.ref a.length) (a++[.lst ys]))
section
variable{X:Cx}{e:f9}{te:A0}{p p' pos pos':i0}{k:Nat}
theorem Ig(I:v4 X pins σ H s)(m:z6 X.K ρ M H)(r:w5 X.K ρ H d v)(c:aL v u)(t:SqAt M d xs):∃(a:c8) (T:String) (its:Array b7) (vs:List V),u=.ref a/\TxSrc X.prog X.w s.heap a T its.size (λi v=>its[i]?=a7 v)/\Reps X.K ρ H xs vs/\az vs its.toList:=by
 rcases t with⟨n,rfl,h⟩|rfl;cases r with
 |@ref _ a f=>cases c;obtain⟨vs,hs,b⟩:=h.seq m f;obtain⟨its,l,p,_⟩:=I.list hs;exact⟨a,_,its.toArray,vs,rfl,TxSrc.list p.isList,b,by simpa using l⟩
 cases r with
 |@tup a vs _ hs b=>cases c;obtain⟨its,l,p,_⟩:=I.tuple hs;exact⟨a,_,its.toArray,vs,rfl,TxSrc.tuple p,b,by simpa using l⟩
theorem oB:∀{ds:List D}{vs:List V}{its:List b7}{i:Nat}{u:b7}{ρ:List c8}{H:Hp},Reps X.K ρ H ds vs->az vs its->its[i]?=a7 u->∃d v,ds[i]?=a7 d/\w5 X.K ρ H d v/\aL v u
 |_,_,_,i,u,_,_,.nil,h,e=>by cases h;simp at e
 |_,_,_,0,u,_,_,.cons r _,h,e=>by
  cases h with
  |cons a _=>simp at e;subst e;exact⟨_,_,rfl,r,a⟩
 |_,_,_,i+1,u,_,_,.cons _ t,h,e=>by
  cases h with
  |cons _ b=>obtain⟨d,v,e1,r,rv⟩:=oB (i:=i) t b (by simpa using e);exact⟨d,v,by simpa using e1,r,rv⟩
theorem ents:∀{ds:List D}{es:List (Int×b7)},Paired (G5 X ρ H n) ds es->∃vs,Reps X.K ρ H ds vs/\az vs (es.map (·.2))
 |_,_,.nil=>⟨[],.nil,.nil⟩
 |_,_,.cons ⟨⟨v,r,rv⟩,_⟩ t=>by obtain⟨vs,a,b⟩:=ents t;exact⟨v::vs,.cons r a,.cons rv b⟩
theorem zi(p:us'.Perm us):∀{ds:List D}{vs:List V},Reps X.K ρ H ds vs->az vs us->∃ds' vs',ds'.Perm ds/\Reps X.K ρ H ds' vs'/\az vs' us':=by
 induction p with
 |nil=>intro ds vs r h;exact⟨ds,vs,.refl _,r,h⟩
 |cons x _ o =>
  intro ds vs r h;cases h with
  |cons a b =>
   cases r with
   |cons c d=>obtain⟨ds',vs',h1,h2,e⟩:=o d b;exact⟨_,_,h1.cons _,.cons c h2,.cons a e⟩
 |swap x y l =>
  intro ds vs r h;cases h with
  |cons a b =>
   cases b with
   |cons g j =>
    cases r with
    |cons c d =>
     cases d with
     |cons k m=>exact⟨_,_,.swap _ _ _,.cons k<|.cons c m,.cons g<|.cons a j⟩
 |trans _ _ i f=>intro ds vs r h;obtain⟨ds',vs',h1,h2,e⟩:=f r h;obtain⟨C,v,g1,n,g3⟩:=i h2 e;exact⟨C,v,g1.trans h1,n,g3⟩
set_option maxHeartbeats 1000000 in
theorem xN(hr:Room k X.A)(hc:X.calm=a9)(he:DE X e te)(as:X.mg "sorted" = a8)(aD:X.mg "set" = a8)(al:X.env.kindOf "sorted" = a7 .globalImplicit)(an:X.env.kindOf "set" = a7 .globalImplicit)(h1:i4 [e] X.env=[(bt,eval e X.env)]) (h2:i4 [Expr.Call (.Name "set" p') [e] [] pos'] X.env=[(bt,eval (Expr.Call (.Name "set" p') [e] [] pos') X.env)]):DE X (.Call (.Name "sorted" p) [.Call (.Name "set" p') [e] [] pos'] [] pos) (fI te):=by
 rintro pins s σ H R I ⟨S,M,ρ,Q,sm,sr,q,kk⟩;refine Os<|mh I al as (by rfl) ?_;refine callWith_builtin1 ?_ (by rw[h2];rfl) rfl;rw[h2];refine Rp ?_;refine Os<|mh I an aD (by rfl) ?_;refine callWith_type1 ?_ (by rw[h1];rfl) rfl;rw[h1];refine Rp<|A1 (he pins s σ H _ I ⟨S,M,ρ,_,sm,sr,q,λv H' z=>z⟩) ?_;rintro u s1 ⟨v,H1,f,rv,d,M1,ch,c,g1,r1,cases⟩;refine QB ?_;rcases cases with⟨xs,tx,hl,w⟩|⟨n,xs,n8,sq,hl,hk,so,w⟩
 obtain⟨a,T,its,rfl,src,vx⟩:=EN f c r1 rv tx;have li:its.size=xs.length:=by have:=vx.length;simp at this;lia
 refine Hi (f.ok.hd hc) src (λi=>xs.getD i default) (λi v e=>vc vx<|by rw[J5];exact e) (by rw[li];unfold r9;lia) λh2 Z ks k2 ab F=>?_;refine QB ?_;have l:=f.kept (t':=Z) k2;obtain⟨o,es,ep,t,ho,aj,hd,ai,rfl,nd,hb,hf,pl,ld⟩:=ab;have O:es.size<=sizeLine:=fits_of_scanBound hb;refine nO (s:={ s1 with heap:=h2,toks:=Z }) (l.ok.hd hc) ⟨ho,hd,hf⟩ aj.1 (λz=>.inl (by have q:=u6 Ma<|pl z;rw[x6,G2,G8]at q;lia)) ld O λh3 bm dr D vs V B C pv=>?_;have h:∀x,x∈es.toList.map (λe=>J6 e.2)↔x∈xs:=λx=>by
  rw[F x,li];constructor;rintro⟨j,L,rfl⟩;have e:xs.getD j default=xs[j]:=by simp[NE,L]
  rw[e];exact Mm L;intro U;obtain⟨j,L,e⟩:=Rt U;exact⟨j,L,by rw[show xs.getD j default=xs[j] by simp[NE,L]];exact e⟩
 have bS:∀v∈vs,∃t,v=.str (J6 v) t:=λv hv=>by obtain⟨e,he,rfl⟩:=A6.mp<|pv.mem_iff.mp hv;exact sM ai he
 have pk:(vs.map J6).Perm (es.toList.map λe=>J6 e.2):=by
  have:=pv.map J6
  rwa [K2]at this
 have ln:(vs.map J6).length<=xs.length:=by have aS:(vs.map J6).Nodup:=pk.nodup_iff.mpr nd;have bl:∀x∈vs.map J6,x∈xs:=λx U=>(h x).mp<|pk.mem_iff.mp U;exact nodup_le _ _ aS bl
 obtain⟨m,G,_⟩:=l.loc;have E:D≠X.env.locals:=λz=>by obtain⟨oL,_,_,P,_⟩:=G;rw[z]at B;rw[B]at P;cases P
 have J:h3.Ns X.env.locals m:=G.at' λo e=>V _ _ e;refine tX (X:=X) (pins:=pins) (σ:=σ) (s:={ s1 with heap:=h2,toks:=Z,drawn:=dr }) (n:=0) hr (by show X.A.units+1<=X.A.units+4;lia) l.drew c (nN (ks:=vs.map J6)<|by lia).g (rF<|vs.map J6) (vb bS) G J (λb u _ e=>V b u e) B E C λv H' x=>?_;refine kk v H' ?_;have:=x (λd M'=>Q d M') λys hp N=>?_;obtain⟨d,M',ρ',a1,a2,a3,a4⟩:=this;exact⟨d,M',ρ',a1,g1.trans a2,a3,a4⟩;obtain⟨zs,rfl,O⟩:=rN hp;exact w zs ((O.trans pk).nodup_iff.mpr nd) (λx=>((O.trans pk).mem_iff).trans<|h x) N;obtain⟨a,T,its,ws,rfl,src,Y,vx⟩:=Ig f c r1 rv sq;have li:its.size=xs.length:=by have h1:=vx.length;have h2:=Y.length;simp at h1;lia
 have un:=hr.un;refine Hj c f n8 (by lia) (f.ok.hd hc) src (λi=>xs.getD i .non) (λi v e=>?_) (by lia) λh2 Z ds k2 W F ca=>?_;obtain⟨d,vv,e1,r,rv⟩:=oB Y vx (by rw[J5];exact e);have ed:xs.getD i .non=d:=by rw[LV,e1];rfl
 have:=hk d<|K7 e1;exact⟨vv,by rw[ed];exact r,rv,by rw[ed];exact this.1,by rw[ed];exact this.2⟩;refine QB ?_;have l:=f.kept (t':=Z) k2;obtain⟨o,es,ep,t,K⟩:=W;have cd:ds.length=es.size:=by have:=K.en.length;simpa using this
 have O:es.size<=sizeLine:=by rw[Mh];lia
 refine nO (s:={ s1 with heap:=h2,toks:=Z }) (l.ok.hd hc) ⟨K.ob,K.dt,K.fits⟩ K.ex.1 (λz=>.inr K.tk.ris) K.ld O λh3 bm dr D vs V B C pv=>?_;have h:∀x,x∈ds↔x∈xs:=λx=>by
  rw[F x,li];constructor;rintro⟨j,L,rfl⟩;have e:xs.getD j .non=xs[j]:=by simp[NE,L]
  rw[e];exact Mm L;intro U;obtain⟨j,L,e⟩:=Rt U;exact⟨j,L,by rw[show xs.getD j .non=xs[j] by simp[NE,L]];exact e⟩
 obtain⟨cg,be,bs⟩:=ents K.en;obtain⟨ds',ce,pd,bk,bM⟩:=zi pv be bs;obtain⟨m,G,_⟩:=l.loc;have E:D≠X.env.locals:=λz=>by obtain⟨oL,_,_,P,_⟩:=G;rw[z]at B;rw[B]at P;cases P
 have J:h3.Ns X.env.locals m:=G.at' λo e=>V _ _ e;refine tX (X:=X) (pins:=pins) (σ:=σ) (s:={ s1 with heap:=h2,toks:=Z,drawn:=dr }) (n:=0) hr (by show X.A.units+1<=X.A.units+4;lia) l.drew c (so.sub (ys:=ds') (λy hy=>(h y).mp<|pd.mem_iff.mp hy)<|by rw[pd.length_eq];lia).g bk bM G J (λb u _ e=>V b u e) B E C λv H' x=>?_;refine kk v H' ?_;have:=x (λd M'=>Q d M') λys hp N=>?_;obtain⟨d,M',ρ',a1,a2,a3,a4⟩:=this;exact⟨d,M',ρ',a1,g1.trans a2,a3,a4⟩;exact w ys ((hp.trans pd).nodup_iff.mpr K.nd) (λx=>((hp.trans pd).mem_iff).trans<|h x) N
theorem xF(r:Room k X.A)(i:HE X e te)(b:X.mg "sorted" = a8)(T:X.mg "set" = a8)(f:X.calm=a9:=by kernel_rfl)(h:X.env.kindOf "sorted" = a7 .globalImplicit:=by kernel_rfl)(a:X.env.kindOf "set" = a7 .globalImplicit:=by kernel_rfl)(h1:i4 [e] X.env=[(bt,eval e X.env)]:=by kernel_rfl) (h2:i4 [Expr.Call (.Name "set" p') [e] [] pos'] X.env=[(bt,eval (Expr.Call (.Name "set" p') [e] [] pos') X.env)]:=by kernel_rfl):HE X (.Call (.Name "sorted" p) [.Call (.Name "set" p') [e] [] pos'] [] pos) (fI te):=⟨xN r f i.ok b T h a h1 h2⟩
end
def fM(h:d5):Nat->D->b7->Prop
 |_,.str x,v=>∃t,v=.str x t
 |_,.int i,v=>∃t,v=.int i t
 |n+1,.tup ds,v=>∃a its,v=.ref a/\h.IsTuple a its/\Paired (fM h n) ds its.toList
 |_,_,_=>False
noncomputable def O7:Nat->D->Nat
 |n+1,.tup ds=>(ds.map<|O7 n).sum+1
 |_,_=>1
theorem iH:∀(n:Nat) (d:D) (v:b7),fM h n d v->cz n d=a9:=by
 intro n;induction n with
 |zero=>intro d v k;cases d<;>first|rfl|exact k.elim
 |succ n b =>
  intro d v k;cases d with
  |str x=>rfl
  |int x=>rfl
  |tup ds =>
   obtain⟨a,its,_,_,p⟩:=k;show ds.all (cz n)=a9;generalize its.toList=l at p;induction p with
   |nil=>rfl
   |cons r _ i=>rw[Mi,b _ _ r,i];rfl
  |_=>exact k.elim
theorem uI{h:d5}{a:c8}{xs ys:Array b7}(h1:h.IsTuple a xs)(h2:h.IsTuple a ys):xs=ys:=by obtain⟨o,t,_,n,d⟩:=h1;obtain⟨o',l,_,f,b⟩:=h2;obtain rfl:o=o':=D0<|t.symm.trans l;rw[d]at b;injection b
theorem sG{h:d5}:∀(n:Nat) (x y:D) (v:b7),fM h n x v->fM h n y v->x=y:=by
 intro n;induction n with
 |zero =>
  intro x y v B C;cases x with
  |str a =>
   obtain⟨t,rfl⟩:=B;cases y with
   |str b=>obtain⟨t',e⟩:=C;injection e with e;rw[e]
   |int b=>obtain⟨t',e⟩:=C;cases e
   |_=>exact C.elim
  |int a =>
   obtain⟨t,rfl⟩:=B;cases y with
   |str b=>obtain⟨t',e⟩:=C;cases e
   |int b=>obtain⟨t',e⟩:=C;injection e with e;rw[e]
   |_=>exact C.elim
  |_=>exact B.elim
 |succ n c =>
  intro x y v B C;cases x with
  |str a =>
   obtain⟨t,rfl⟩:=B;cases y with
   |str b=>obtain⟨t',e⟩:=C;injection e with e;rw[e]
   |int b=>obtain⟨t',e⟩:=C;cases e
   |tup b=>obtain⟨_,_,e,_⟩:=C;cases e
   |_=>exact C.elim
  |int a =>
   obtain⟨t,rfl⟩:=B;cases y with
   |str b=>obtain⟨t',e⟩:=C;cases e
   |int b=>obtain⟨t',e⟩:=C;injection e with e;rw[e]
   |tup b=>obtain⟨_,_,e,_⟩:=C;cases e
   |_=>exact C.elim
  |tup xs =>
   obtain⟨a,its,rfl,f,g⟩:=B;cases y with
   |str b=>obtain⟨t',e⟩:=C;cases e
   |int b=>obtain⟨t',e⟩:=C;cases e
   |tup ys =>
    obtain⟨_,i,e,E,j⟩:=C;cases e;obtain rfl:=uI f E;congr 1;generalize its.toList=l at g j;induction g generalizing ys with
    |nil=>cases j;rfl
    |cons r _ d=>cases j with
     |cons r' t'=>rw[c _ _ _ r r',d _ t']
   |_=>exact C.elim
  |_=>exact B.elim
theorem xD(k:∀a its,h.IsTuple a its->h'.IsTuple a its):∀(n:Nat) (d:D) (v:b7),fM h n d v->fM h' n d v:=by
 intro n;induction n with
 |zero=>intro d v q;cases d<;>first|exact q|exact q.elim
 |succ n i =>
  intro d v q;cases d with
  |str x=>exact q
  |int x=>exact q
  |tup ds=>obtain⟨a,its,e,t,p⟩:=q;exact⟨a,its,e,k _ _ t,Paired.mapP p λx y r=>i x y r⟩
  |_=>exact q.elim
theorem uG{es ep}(q:fM h n k v)(B:h.get? d=a7 o)(f:o.data=.dict es ep)(hs:J3 d h h'):fM h' n k v:=by
 refine xD (λa its ⟨o',e,c,m,t⟩=>?_) n k v q;have b:a≠d:=by rintro rfl;obtain rfl:o'=o:=D0<|e.symm.trans B;rw[f]at t;cases t
 exact⟨o',(hs.2 a b).trans e,c,m,t⟩
section
variable{prog:c7}{w:c6}
theorem xE:∀(n:Nat) (A:e7) (s:e8) (d:D) (u:b7) (E:b7->e8->Prop) (Q:Int->e8->Prop),A.units+n<k7->fM s.heap n d u ->Q (C1 w n d) { s with toks:=s.toks+O7 n d }->f8 (ge prog w) A (pyHash u) Q E s:=by
 intro n;induction n with
 |zero =>
  intro A s d u E Q r k h;cases d with
  |str x=>obtain⟨t,rfl⟩:=k;exact Py h
  |int x=>obtain⟨t,rfl⟩:=k;exact Pz h
  |_=>exact k.elim
 |succ n v =>
  intro A s d u E Q r k h;cases d with
  |str x=>obtain⟨t,rfl⟩:=k;exact Py h
  |int x=>obtain⟨t,rfl⟩:=k;exact Pz h
  |tup ds =>
   obtain⟨a,its,rfl,⟨o,B,j,S,q⟩,p⟩:=k;have m:s.TypeIs (.ref a) "tuple":=⟨o,B,j⟩
   unfold pyHash
   first|unfold pyHashByItsType|skip
   first|refine u8 (wpAny_cRoomFor_or (.inr<|by lia) ?_)|skip
   refine u8<|NH m F.slot_tuple_hash.lookup ?_;refine(show f8 (ge prog w) _ (if (a7 (OJ "tuple.__hash__")==a7 K1)=a9 then _ else _) Q E s from ?_);rw[t7<|by rw[beq_builtin_none];exact Nw];refine u8<|NH m F.slot_tuple_hash.lookup ?_;refine(show f8 (ge prog w) _ (callSpecialIfBoundUnlessNone? (.ref a) "__hash__" _ >>= _) Q E s from u8<|R9 m F.slot_tuple_hash<|K4 F.slot_tuple_hash m F.entry_tuple_hash ?_<|F.args_tuple_hash_1 _);refine(show f8 (ge prog w) _ (QX (.ref a) >>= _) _ _ s from u8<|wpAny_tupleItemsOf B q<|u8 ?_);rw[<-OQ];refine N1 _ (λaM (b:Array Int) s'=>∃done left,ds=done++left/\Paired (fM s.heap n) left aM/\b.toList=done.map (C1 w n)/\s'={ s with toks:=s.toks+(done.map<|O7 n).sum }) _ ?_ ?_ _ _ ⟨[],ds,rfl,p,rfl,rfl⟩;rintro x aM b s' ⟨done,left,e,h1,f,rfl⟩;cases h1 with
   |@cons g _ c _ U L =>
    refine u8<|v _ _ g x _ _ (by show A.units+1+n<k7;lia) U ?_
    first
     |exact v5 ⟨done++[g],c,by rw[e];simp,L,by simp[f],by simp[Nat.add_assoc]⟩
     |exact u8 (v5 (v5 ⟨done++[g],c,by rw[e];simp,L,by simp[f],by simp[Nat.add_assoc]⟩))
   rintro b s' ⟨done,left,e,h1,f,rfl⟩;cases h1;rw[LS]at e;subst e;refine(show f8 (ge prog w) _ (retInt<|Ov b.toList) _ _ _ from ?_);rw[f];refine wpAny_ret_mkInt ?_;have l:C1 w (n+1) (.tup ds)=o4 (Ov<|ds.map<|C1 w n):=rfl;have h':Q (C1 w (n+1)<|.tup ds) { s with toks:=s.toks+(ds.map<|O7 n).sum+1 }:=h;generalize Ov (ds.map<|C1 w n)=z at l;refine(show f8 (ge prog w) _ (if (decide (-(2:Int) ^ 63<=z)&&decide (z<2 ^ 63))=a9 then _ else _) Q E _ from ?_);unfold o4 at l;by_cases i:(decide (-(2:Int) ^ 63<=z)&&decide (z<2 ^ 63))=a9;rw[t6 i]at l ⊢;exact v5 (by rw[<-l];exact h');rw[t7 i]at l ⊢;exact u8<|Lz<|v5<|by rw[<-l];exact h'
  |_=>exact k.elim
theorem uF:∀(n k:Nat) (A:e7) (s:e8) (d:D) (u:b7) (E:b7->e8->Prop) (Q:Bool->e8->Prop),n<=k->fM s.heap n d u->Q a9 s->f8 (ge prog w) A (eqIsQuiet k u) Q E s:=by
 intro n;induction n with
 |zero =>
  intro k A s d u E Q c q h;cases d with
  |str x=>obtain⟨t,rfl⟩:=q;rw[N4 k (v:=.str x t) rfl];exact v5 h
  |int x=>obtain⟨t,rfl⟩:=q;rw[N4 k (v:=.int x t) rfl];exact v5 h
  |_=>exact q.elim
 |succ n e =>
  intro k A s d u E Q c q h;cases d with
  |str x=>obtain⟨t,rfl⟩:=q;rw[N4 k (v:=.str x t) rfl];exact v5 h
  |int x=>obtain⟨t,rfl⟩:=q;rw[N4 k (v:=.int x t) rfl];exact v5 h
  |tup ds =>
   obtain⟨a,its,rfl,⟨o,B,f,S,b⟩,p⟩:=q;obtain⟨k,rfl⟩:∃I,k=I+1:=⟨k-1,by lia⟩
   have m:s.TypeIs (.ref a) "tuple":=⟨o,B,f⟩
   unfold eqIsQuiet;refine u8<|NH m F.slot_tuple_eq.lookup ?_;refine(show f8 (ge prog w) A (isInstance (.ref a) (.type "tuple") >>= _) _ _ s from u8<|N0 m isSubtype_tuple_tuple ?_);simp only[MK,C4,u4];refine u8<|Mc B b ?_;simp only[Option.getD_some];refine u8 ?_;refine(show f8 (ge prog w) A (forIn its _ _) _ _ s from ?_);rw[<-OQ];refine N1 _ (λaM r s'=>r.1=a8/\s'=s/\∃left,Paired (fM s.heap n) left aM) _ ?_ ?_ _ _ ⟨rfl,rfl,ds,p⟩;rintro x aM r s' ⟨i,rfl,left,h1⟩;cases h1 with
   |cons U L=>refine u8<|e k _ _ _ x _ _ (by lia) U ?_;simp only[MK,C4,u4];exact v5 ⟨rfl,rfl,_,L⟩
   rintro⟨r1,r2⟩ s' ⟨i,rfl,_⟩;simp only at i;subst i;exact v5 h
  |_=>exact q.elim
theorem jM{h:d5}{n:Nat}{ds:List D}{its:Array b7}(p:Paired (fM h n) ds its.toList):ds.length=its.size:=by
 rw[<-G2];generalize its.toList=l at p;induction p with
 |nil=>rfl
 |cons _ _ i=>rw[E9,E9,i]
theorem CT:∀(n:Nat) (A:e7) (s:e8) (x y:D) (u v:b7),A.units+n<k7->fM s.heap n x u->fM s.heap n y v->MB A s u v (w4 [] n x y):=by
 intro n;induction n with
 |zero =>
  intro A s x y u v E B C;cases x with
  |str a =>
   obtain⟨t,rfl⟩:=B;cases y with
   |str b=>obtain⟨t',rfl⟩:=C;exact QF _ _ _ _
   |int b=>obtain⟨t',rfl⟩:=C;exact PF _ _ _ _
   |_=>exact C.elim
  |int a =>
   obtain⟨t,rfl⟩:=B;cases y with
   |str b=>obtain⟨t',rfl⟩:=C;exact PH _ _ _ _
   |int b=>obtain⟨t',rfl⟩:=C;exact QG _ _ _ _
   |_=>exact C.elim
  |_=>exact B.elim
 |succ n G =>
  intro A s x y u v E B C;have c:A.units<k7:=by lia
  have h:A.in1.units+n<k7:=by show A.units+1+n<k7;lia
  cases x with
  |str a =>
   obtain⟨t,rfl⟩:=B;cases y with
   |str b=>obtain⟨t',rfl⟩:=C;exact QF _ _ _ _
   |int b=>obtain⟨t',rfl⟩:=C;exact PF _ _ _ _
   |tup b=>obtain⟨_,_,rfl,p,_⟩:=C;exact SeqAt.EqAt.str_tuple _ _ p c
   |_=>exact C.elim
  |int a =>
   obtain⟨t,rfl⟩:=B;cases y with
   |str b=>obtain⟨t',rfl⟩:=C;exact PH _ _ _ _
   |int b=>obtain⟨t',rfl⟩:=C;exact QG _ _ _ _
   |tup b=>obtain⟨_,_,rfl,p,_⟩:=C;exact SeqAt.EqAt.int_tuple _ _ p c
   |_=>exact C.elim
  |tup xs =>
   obtain⟨a,its,rfl,p,m⟩:=id B;cases y with
   |str b=>obtain⟨t',rfl⟩:=C;exact SeqAt.EqAt.tuple_str _ _ p c
   |int b=>obtain⟨t',rfl⟩:=C;exact SeqAt.EqAt.tuple_int _ _ p c
   |tup ys =>
    obtain⟨b,d,rfl,F,o⟩:=id C;by_cases S:a=b;subst S;have e:=sG (n+1) _ _ _ B C;rw[e,(jo (M:=[]) (n+1) _ _ (iH _ _ _ C)<|iH _ _ _ C).mpr rfl];exact Qn _;have Q:=jM m;have l:=jM o;have f:∀(j:Nat) (h1:j<its.size) (h2:j<d.size),MB A.in1 s its[j] d[j] (w4 [] n (xs.getD j .non)<|ys.getD j .non):=λj h1 h2=>by
     obtain⟨q,w,H⟩:=cU m (i:=j) (y:=its[j]) (by rw[J5];exact K5 h1);obtain⟨r,z,I⟩:=cU o (i:=j) (y:=d[j]) (by rw[J5];exact K5 h2);have J:xs.getD j .non=q:=by rw[LV,w];rfl
     have K:ys.getD j .non=r:=by rw[LV,z];rfl
     rw[J,K];exact G A.in1 s q r _ _ h H I
    have k:((E4<|min its.size d.size).all (λj=>w4 [] n (xs.getD j .non)<|ys.getD j .non)&&its.size==d.size)=F0 (w4 [] n) xs ys:=by
     by_cases g:xs.length=ys.length;have W:(E4 xs.length).all (λj=>w4 [] n (xs.getD j .non)<|ys.getD j .non)=F0 (w4 [] n) xs ys:=mr g λj x y h1 h2=>by simp[NE,h1,h2]
     rw[<-Q,<-l,<-g,Nat.min_self,W];simp;rw[Az g,<-Q,<-l];simp[g]
    have h1:=SeqAt.RcAt.tuples p F c f;rw[k]at h1;exact SeqAt.EqAt.of_refs S h1
   |_=>exact C.elim
  |_=>exact B.elim
end
noncomputable instance decD:DecidableEq D:=λa b=>Ot<|a=b
noncomputable def aU(prog:c7)(w:c6):HeapKind prog w D where
 is:=λh d a=>fM h 8 d<|.ref a
 hash:=C1 w 8
 draws:=O7 8
 room:=λA=>A.units+8<k7
 inj:=λx y=>sG 8 _ _ _ x y
 keeps:=λx B c hs=>uG x B c hs
 pyHash:=λg k h=>xE 8 _ _ _ _ _ _ g k h
 eqBool:=λ{A E s x y a b Q} g k1 k2 h=>by
  refine CT 8 A s x y _ _ g k1 k2 _ _ _ _ ?_;have e:w4 [] 8 x y=decide (x=y):=by rw[Bool.eq_iff_iff,jo 8 x y (iH _ _ _ k1)<|iH _ _ _ k2,t9]
  rw[e];exact h
 quiet:=λk h=>uF 8 8 _ _ _ _ _ _ (x9 _) k h
noncomputable def aI(kvs:List (D×D))(k:D):Option D:=(kvs.find? λp=>decide<|p.1=k).map (·.2)
noncomputable def fR(kvs:List (D×D))(k d:D):List (D×D):=if (aI kvs k).isSome then kvs.map (λp=>if p.1=k then(p.1,d)else p)else kvs++[(k,d)]
section
variable{K:v9}{ρ:List c8}{H:Hp}{M:v8}{kvs:List (D×D)}{xs:List (D×c8×b7)}
theorem mi(r:Paired (oo K ρ H) kvs xs)(k:D):(aI kvs k=a8/\o0 xs k=a8)\/∃d p v,aI kvs k=a7 d/\o0 xs k=a7 p/\w5 K ρ H d v/\aL v p.2:=by
 unfold aI o0;induction r with
 |nil=>exact .inl ⟨rfl,rfl⟩
 |@cons p q ps qs h t i=>obtain⟨h1,_,_,v,a,b⟩:=h;rw[Md,Md];by_cases e:p.1=k;rw[dT_ e,dT_<|h1.symm.trans e];exact .inr ⟨_,_,v,rfl,rfl,a,b⟩;rw[dF_ e,dF_<|λz=>e<|h1.trans z];exact i
theorem Er(r:Paired (oo K ρ H) kvs xs)(n:cz 8 k=a9)(o:w5 K ρ H k (.ref b))(f:w5 K ρ H d v)(g:aL v u):Paired (oo K ρ H) (fR kvs k d) (storedH xs k b u):=by
 unfold fR storedH;have s:(aI kvs k).isSome=(o0 xs k).isSome:=by rcases mi r k with⟨a,l⟩|⟨_,_,_,a,l,_⟩<;>rw[a,l]<;>rfl
 rw[s];by_cases q:(o0 xs k).isSome=a9;rw[t6 q,t6 q];clear s q;induction r with
 |nil=>exact .nil
 |@cons p q ps qs h t i=>rw[D7,D7];refine .cons ?_ i;obtain⟨h1,h2,c,w,j,m⟩:=h;by_cases e:p.1=k;rw[t6 e,putAt,t6<|h1.symm.trans e];exact⟨h1,h2,c,v,f,g⟩;rw[t7 e,putAt,t7<|λz=>e<|h1.trans z];exact⟨h1,h2,c,w,j,m⟩
 rw[t7 q,t7 q];clear s q;induction r with
 |nil=>exact .cons ⟨rfl,n,o,v,f,g⟩ .nil
 |cons h t i=>exact .cons h i
theorem eI(r:Paired (oo K ρ H) kvs xs):xs.map (·.1)=kvs.map (·.1):=by
 induction r with
 |nil=>rfl
 |cons h t i=>rw[D7,D7,i,h.1]
theorem fQ:(fR kvs k d).length<=kvs.length+1:=by unfold fR;split;rw[x6];lia;rw[E3];exact x9 _
theorem C5.writtenX{a p:c8}{xs:List V}{φ:c7->c6->d5->Prop}{o:HO}(hp:H p=a7 (.ext φ))(h:C5 K H a xs):C5 K (A2 H p o) a xs:=by
 rcases h with h|h;rcases h with h|⟨b,h⟩
 exact .inl (.inl<|by rw[au<|xm h hp<|by intro z;cases z];exact h);exact .inl<|.inr ⟨b,by rw[au<|xm h hp<|by intro z;cases z];exact h⟩;exact .inr h
theorem z6.writeT(S:z6 K ρ M H)(t:ρ[n]?=a7 a)(s:M[n]?=a7 (.dkt kvs))(p:H a=a7 (.ext<|dX a xs))(u:kvs'.length<=sizeLine)(hs:(a==d6)=bt)(X:(kvs'.map (·.1)).Nodup)(r:Paired (oo K ρ H) kvs' xs'):z6 K ρ (M.set n<|.dkt kvs') (A2 H a<|.ext<|dX a xs')/\Grow K ρ H ρ (A2 H a<|.ext<|dX a xs'):=by
 have g:Grow K ρ H ρ (A2 H a<|.ext<|dX a xs'):=⟨Nd,λ_ _ h=>C5.writtenX p h⟩
 have k:∀m,m≠n->(M.set n<|.dkt kvs')[m]?=M[m]?:=λm d=>LU<|A7 d;have c:¬LY M[n]?:=λ⟨_,z⟩=>by rw[s]at z;cases z
 refine⟨⟨λm j b e f N=>?_,by rw[Nv];exact S.len,λm b o f N=>?_⟩,g⟩;have q:=S.nd m j b e f N;by_cases h1:m=n;subst h1;rw[k j<|A7 e];exact .inr<|q.resolve_left c;rw[k m h1];by_cases h2:j=n;subst h2;exact .inl<|q.resolve_right c;rw[k j h2];exact q;by_cases d:m=n;subst d;have i:b=a:=D0<|f.symm.trans t;subst i;rw[L7<|by rw[<-S.len];exact(B6.mp t).1]at N;cases N;refine⟨u,hs,X,xs',aJ,Paired.mapP r ?_⟩;rintro _ _ ⟨w,x,y,v,G,A⟩;exact⟨w,x,y.grow g,v,G.grow g,A⟩;rw[k m d]at N;by_cases i:b=a;subst i;have l:=(S.nd m n b d f t).resolve_right c;rw[N]at l;exact(S.obj m b o f N).grow g<|.inr l;exact(S.obj m b o f N).grow g<|.inl<|au i
end
section
variable{X:Cx}{pins:List (c8×c9)}{σ:St}{H:Hp}{s:e8}{ρ:List c8}{M:v8}
theorem cA(I:v4 X pins σ H s):∀(n:Nat) (d:D) (v:V) (u:b7),w5 X.K ρ H d v->aL v u->cz n d=a9->fM s.heap n d u:=by
 intro n;induction n with
 |zero =>
  intro d v u r b k;cases r with
  |str x=>exact b
  |int x=>exact b
  |_=>cases k
 |succ n f =>
  intro d v u r b k;cases r with
  |str x=>exact b
  |int x=>exact b
  |@tup a vs ds q c =>
   cases b;obtain⟨its,l,p,z⟩:=I.tuple q;have h:∀x∈ds,cz n x=a9:=F4.mp<|show ds.all (cz n)=a9 from k;refine⟨a,its.toArray,rfl,p,?_⟩;rw[List.toList_toArray];clear p q k z;induction l generalizing ds with
   |nil=>cases c;exact .nil
   |cons g j i =>
    cases c with
    |cons h1 t=>exact .cons (f _ _ _ h1 g<|h _ F5)<|i t λx e=>h x<|D4 _ e
  |_=>cases k
theorem gL(I:v4 X pins σ H s)(m:z6 X.K ρ M H){n:Nat}{a:c8}{kvs:List (D×D)}(e:ρ[n]?=a7 a)(c:M[n]?=a7 (.dkt kvs)):∃xs,H a=a7 (.ext<|dX a xs)/\Paired (oo X.K ρ H) kvs xs/\s.heap.DictOfH (aU X.prog X.w) a xs/\(a==d6)=bt/\kvs.length<=sizeLine/\xs.length=kvs.length/\(kvs.map (·.1)).Nodup:=by
 obtain⟨h1,h2,h,xs,b,r⟩:=m.obj _ _ _ e c;obtain⟨⟨o,es,t,l,Q,J⟩,_⟩:=(show bx X.prog X.w H s.heap a (.ext<|dX a xs)from I.hok a _ b)
 have Z:=eI r;refine⟨xs,b,r,⟨o,es,_,t,l,Q,J,λx d=>?_,by rw[Z];exact h⟩,h2,h1,?_,h⟩;obtain⟨i,hi⟩:=Mg d;obtain⟨p,_,q,g,j,_⟩:=cU r hi;rw[<-q];exact cA I 8 _ _ _ j rfl g;have:=u6 Ma Z
 rwa [x6,x6]at this
theorem mq(d:dX a xs P w h'):bx P w H' h' a (.ext<|dX a xs):=by obtain⟨o,es,t,l,Q,J⟩:=d;refine⟨⟨o,es,t,l,Q,J⟩,⟨o,t⟩,?_⟩;rintro h1 h2 ⟨o,es,t,l,Q,J⟩ k;exact⟨o,es,k _ t,l,Q,J⟩
theorem AF(I:v4 X pins σ H s)(h:H a=a7 (.ext<|dX a xs)):dX a xs X.prog X.w s.heap:=(show bx X.prog X.w H s.heap a (.ext<|dX a xs)from I.hok a _ h).1
end
theorem setE(x:(aU prog w).room A.in1)(t:(aU prog w).is s.heap k b)(u:s.heap.DictOfH (aU prog w) d xs) (y:dX d xs prog w s.heap) (hz:xs.length<=sizeLine)(n:∀h',dX d (storedH xs k b v) prog w h'->J3 d s.heap h'->Q () { s with heap:=h',toks:=s.toks+(aU prog w).draws k }):f8 (ge prog w) A (setItem (.ref d) (.ref b) v) Q E s:=by
 have m:=u.typeIs;obtain⟨_,_,_,_,_,_,_,g,f⟩:=u;obtain⟨o,es,B,r,h,c⟩:=y;have i:es.toList=xs.map (d7<|aU prog w):=c;unfold setItem
 try with_reducible refine F8 ?_
 refine u8<|wpAny_sequenceKey m (by decide)<|u8<|Mo (name:=v6 "__setitem__") m slot_dict_setitem<|K4 slot_dict_setitem m entry_dict_setitem ?_<|args_dict_setitem _ _ _;refine(show f8 (ge prog w) _ (Builtin.Dict.notOrdered "__setitem__" ⟨[.ref d,.ref b,v],[]⟩ >>= _) _ _ s from u8<|OU m ?_);refine(show f8 (ge prog w) _ (dictSet d (.ref b) v >>= _) _ _ s from u8 ?_);unfold dictSet
 try with_reducible refine F8 ?_
 refine u8<|(aU prog w).pyHash x t ?_;unfold dictSetHashed
 try with_reducible refine F8 ?_
 have C:es.size=xs.length:=size_of_entries i;refine u8<|wpAny_dictFind_heap (s:={ s with toks:=s.toks+(aU prog w).draws k }) x t B h i g f (λa=>?_) λj p L=>?_;refine u8<|Lz<|wpAny_updateDictKeys (hz:=by lia) (s:={ s with toks:=s.toks+(aU prog w).draws k }) B h<|v5 ⟨.none,rfl,v5<|n _ ⟨_,es.push ⟨(aU prog w).hash k,.ref b,v⟩,LO _ B<|PJ<|OS h _,r.mapDictKeys _,?_,?_⟩<|LN ..⟩;rw[OS h,storedH_new<|Qu a,E3];rfl;rw[storedH_new<|Qu a];rw[Qx,i,L6];rfl;refine u8<|Lz<|u8<|wpAny_updateDict (s:={ s with toks:=s.toks+(aU prog w).draws k }) B h<|wpAny_point<|v5 ⟨.none,rfl,v5<|n _ ⟨_,es.modify j λe=>{ e with val:=v },LO _ B<|PJ<|Qq h _,r.mapDict _,?_,?_⟩<|LN ..⟩;rw[Qq h,storedH_old<|OG f L,x6];rw[storedH_old<|OG f L];have q:=modify_map_putAt (d7<|aU prog w) (λe:n9=>{ e with val:=v }) k v (λ_ _=>rfl) f L;rw[<-i]at q;obtain⟨l⟩:=es;have z:(Array.modify ⟨l⟩ j λe:n9=>{ e with val:=v }).toList=(xs.map<|putAt k v).map (d7<|aU prog w):=by simpa using q
 exact z
section
variable{X:Cx}{o i value:f9}{td ty tv:A0}{pos pos':i0}{k:Nat}
def mV:A0:=λ_ M Q=>Q (.ref M.length)<|M++[.dkt []]
theorem KW:DE X (.Dict [] [] pos) mV:=by rintro p s σ H R I ⟨S,M,ρ,Q,m,c,q,D⟩;have f:H s.heap.objs.size=a8:=I.hok.fresh<|x9 _;have d:(s.heap.objs.size==d6)=bt:=beq_eq_false_iff_ne.mpr<|A7<|A8 I.big;refine wpAny_Dict_empty ⟨.ref s.heap.objs.size,_,I.laid (a:=s.heap.objs.size) (o:=.ext<|dX s.heap.objs.size []) (t':=s.toks) (λ_ _ q=>A3 _ q) (x9 _)<|mq ⟨_,#[],C7 _ rfl,⟨rfl,rfl,rfl⟩,rfl,rfl⟩,rfl,?_⟩;exact D _ _ ⟨.ref M.length,M++[.dkt []],ρ++[s.heap.objs.size],m.laidM (mo:=.dkt []) f ⟨D6 _,d,Ol,[],aJ,.nil⟩,Grow.laidR f,.ref m.last,(show Q (.ref M.length) (M++[.dkt []])from q)⟩
def dO(t b:A0):A0:=λS M Q=>t S M λx a=>b S a λy M2=>match x,y with
 |.ref n,.tup ks=>∃kvs d,M2[n]?=a7 (.dkt kvs)/\cz 8 (.tup ks)=a9/\aI kvs (.tup ks)=a7 d/\Q d M2
 |_,_=>False
theorem KY(P:Room k X.A)(O:DE X o td)(hi:DE X i ty)(hs:EG i):DE X (.Subscript o i pos) (dO td ty):=by
 rintro c s σ H R I ⟨S,M,ρ,Q,sm,E,q,V⟩;have un:=P.un;refine yV PySem.F.slot_dict_getitem.lookup hs<|A1 (O c s σ H _ I ⟨S,M,ρ,_,sm,E,q,λv H' z=>z⟩) ?_;rintro u s1 ⟨v,H1,J,rv,x,K,l,j,g1,Z,W⟩;refine A1 (hi c s1 σ H1 _ J ⟨S,K,l,_,j,E.grow g1,W,λv H' z=>z⟩) ?_;rintro iv s2 ⟨w,G,f,h,y,M2,m,e,C,r2,g⟩;cases x with
 |ref n =>
  cases y with
  |tup ks =>
   obtain⟨kvs,d,L,U,D,Y⟩:=g;obtain⟨a,rfl,N⟩:=w5.inv_ref Z;obtain rfl:u=F6 a:=rv;obtain⟨xs,hH,r,B,T,hl,hx,_⟩:=gL f e (ap C.pre N) L;have t:=cA f 8 _ _ _ r2 h U;rcases mi r (.tup ks)with⟨z,_⟩|⟨d',p,v',e1,e2,e3,e4⟩
   rw[D]at z;cases z;rw[D]at e1;cases e1;obtain⟨b,_,rfl,_⟩:=id t;refine⟨B.typeIs,wpAny_getItem_heap (knd:=aU X.prog X.w) (k:=.tup ks) (by show X.A.units+1+8<k7;lia) t B e2 ⟨v',G,f.tok _,e4,V _ _ ⟨d,M2,m,e,g1.trans C,e3,Y⟩⟩⟩
  |_=>exact g.elim
 |_=>exact g.elim
def jq(d c t:A0):v7:=λE S M=>t S M λv b=>d S b λx M2=>c S M2 λy a=>match x,y with
 |.ref n,.tup ks=>∃kvs,a[n]?=a7 (.dkt kvs)/\cz 8 (.tup ks)=a9/\kvs.length<sizeLine/\E.nx S (a.set n<|.dkt<|fR kvs (.tup ks) v)
 |_,_=>False
theorem lF(h:(kvs.map (·.1)).Nodup):((fR kvs y v).map (·.1)).Nodup:=by
 unfold fR;split;rw[K2];have:((λx:D×D=>x.1) ∘ λp:D×D=>if p.1=y then(p.1,v)else p)=λx=>x.1:=by funext p;show (if p.1=y then(p.1,v)else p).1=p.1;split<;>rfl
 rw[this];exact h;rename_i q;rw[L6,List.map_singleton,List.nodup_append];refine⟨h,by simp,λa f b d=>?_⟩;rw[LL.mp d];rintro rfl;obtain⟨p,hp,e⟩:=A6.mp f;refine q ?_;unfold aI;rw[Qt,List.find?_isSome];exact⟨p,hp,by simpa using e⟩
theorem GM(hr:Room k X.A)(ho:DE X o td)(hi:DE X i ty)(hv:DE X value tv)(hs:i7 value (a7<|.Subscript o i pos') pos.line X.env=pure bt):DS X (.Assign [.Subscript o i pos'] value pos) (jq td ty tv):=by
 rintro p s σ H E I ⟨S,M,ρ,F,sm,h,q,kk⟩;have un:=hr.un;refine wpAny_Assign_Subscript (A1 (hv p s σ H _ I ⟨S,M,ρ,_,sm,h,q,λv H' z=>z⟩) λr s1 ⟨v,H1,U,rv,Z,W,D,B,g1,r1,q1⟩=>A1 (ho p s1 σ H1 _ U ⟨S,W,D,_,B,h.grow g1,q1,λv H' z=>z⟩) λu s2 ⟨vx,R,V,rx,x,M2,G,C,g,r2,q2⟩=>A1 (hi p s2 σ R _ V ⟨S,M2,G,_,C,(h.grow g1).grow g,q2,λv H' z=>z⟩) ?_) hs;rintro iv s3 ⟨vy,H3,f,P,y,M3,K,e,g3,O,w⟩;cases x with
 |ref n =>
  cases y with
  |tup ks =>
   obtain⟨kvs,L,N,hl,q4⟩:=w;obtain⟨a,rfl,hn⟩:=w5.inv_ref r2;obtain rfl:u=F6 a:=rx;have J:=ap g3.pre hn;obtain⟨xs,j,r,Y,T,_,hx,nd⟩:=gL f e J L;have t:=cA f 8 _ _ _ O P N;obtain⟨b,_,rfl,_⟩:=id t;obtain⟨_,_,rfl,l,rr⟩:=w5.inv_tup O;cases P;have r':=Er r N (.tup l rr) ((r1.grow g).grow g3) rv;have pl:=fQ (kvs:=kvs) (k:=.tup ks) (d:=Z);obtain⟨w1,Q⟩:=e.writeT J L j (by have:=pl;lia) T (lF nd) r';refine setE (k:=.tup ks) (by show X.A.units+1+8<k7;lia) t Y (AF f j) (by lia) λh' c m=>?_;have he:∃q,h'.get? a=a7 q:=let ⟨q,_,l,_⟩:=c;⟨q,l⟩
   exact⟨σ,_,mw f (by rw[j];exact M7) m he<|mq c,kk.nx σ _<|SQ.trans ((g1.trans g).trans g3) ⟨S,_,K,w1,Q,(((h.grow g1).grow g).grow g3).grow Q,q4⟩⟩
  |_=>exact w.elim
 |_=>exact w.elim
def P8(r:Nat->F7)(d:A0)(t:G1):A0:=λS M Q=>d S M λx a=>match x with
 |.ref n=>(∃kvs,a[n]?=a7 (.dkt kvs))/\t S a λds M2=>r n ds M2 Q
 |_=>False
variable{name:c5}{id:String}{e:f9}{es:List f9}{to:A0}{t:G1}{apos cpos:i0}
theorem d_mt{r:Nat->F7}(slot:Slot "dict" name id)(y:m9 (.builtin id)=pure (.type "method_descriptor"))(P:Mt X id (pf X.K r))(T:DE X o to)(O:DA X (e::es) t)(c:n0 o name X.env (eval o X.env)=eval o X.env:=by rfl)(f:((i3 cpos<|i4 (e::es) X.env).all (λx=>!x.1)&&(n5 cpos<|n6 [] X.env).all (λx=>x.1.isSome) && decide ((e::es).length+([]:List m3).length+(if ([]:List m3).isEmpty then 0 else 1)<30))=a9:=by rfl)(d:(apos.endLine==cpos.line)=a9:=by rfl) (hs:i4 (e::es) X.env=(bt,eval e X.env)::i4 es X.env:=by rfl) (h:(i3 cpos<|i4 es X.env).any (·.1)=bt:=by rfl):DE X (.Call (.Attribute o name apos) (e::es) [] cpos) (P8 r to t):=by
 rintro p s σ H R I ⟨S,M,ρ,Q,sm,G,q,V⟩;refine QM c f d rfl<|A1 (T p s σ H _ I ⟨S,M,ρ,_,sm,G,q,λv H' z=>z⟩) ?_;rintro u s1 ⟨v,H1,B,rv,x,i,m,j,g1,Z,g⟩;cases Z with
 |@ref n a F =>
  cases rv;obtain⟨⟨kvs,N⟩,g⟩:=(show (∃kvs,i[n]?=a7 (.dkt kvs))/\t S i _ from g)
  obtain⟨xs,hH,r,C,U,hl,hx,nd⟩:=gL B j F N;refine⟨"dict",id,QO,slot,y,C.typeIs,λb z=>?_,?_⟩;cases z;obtain⟨W,_,_,h1,h2,_⟩:=C;exact⟨W,h1,h2.2.1⟩;have E:=O cpos p s1 σ H1 _ B ⟨S,i,m,_,j,G.grow g1,g,λvs H' z=>z⟩;rw[hs]at E ⊢;refine PR (by show (bt||(i3 cpos<|i4 es X.env).any (·.1))=bt;rw[h]<;>rfl)<|PN ?_;refine A1 E ?_;rintro us s2 ⟨vs,J,L,k,ds,M2,A,l,D,rr,Y⟩;exact P p s2 σ J (.ref a) vs (.ref a) us R L rfl k ⟨n,a,ds,M2,A,Q,rfl,ap D.pre F,l,rr,Y,λv H' w=>V v H'<|VQ.trans (g1.trans D) w⟩
 |_=>exact g.elim
def rJ(n:Nat):F7:=λds M Q=>match ds with
 | [.tup ks,d]=>∃kvs,M[n]?=a7 (.dkt kvs)/\cz 8 (.tup ks)=a9/\Q ((aI kvs<|.tup ks).getD d) M
 |_=>False
theorem Cy(o:Room k X.A):Mt X "dict.get" (pf X.K rJ):=by
 rintro f s σ H x xs v us R I E C ⟨n,a,ds,M,ρ,Q,h,j,m,c,q,D⟩;have S:=o.un;unfold rJ at q;split at q;rename_i ks d;obtain⟨kvs,i,u,q⟩:=q
 first|have z:=Reps.inv_cons c|have z:=az.inv_cons c
 clear c;obtain⟨_,_,rfl,y,c⟩:=z
 first|have z:=Reps.inv_cons c|have z:=az.inv_cons c
 clear c;obtain⟨_,_,rfl,B,c⟩:=z;cases c;obtain⟨P,G,rfl,g,l⟩:=az.two C;subst h;cases E;obtain⟨ys,J,r,e,T,L,N,O⟩:=gL I m j i;have t:=cA I 8 _ _ _ y g u;obtain⟨b,_,rfl,_⟩:=id t;refine call_meetsIn PySem.F.slot_dict_get e.typeIs PySem.F.entry_dict_get (PySem.F.args_dict_get_3 _ _ _) (meetsH_dict_get_default (aU X.prog X.w) a b T G) ⟨by show X.A.units+1+8<k7;lia,.tup ks,ys,t,e,?_⟩;rcases mi r (.tup ks)with⟨z1,z2⟩|⟨d',p,v',z1,z2,z3,z4⟩
 rw[z2];rw[z1]at q;exact⟨_,H,I.tok _,l,D _ _ ⟨d,M,ρ,m,.refl,B,q⟩⟩;rw[z2];rw[z1]at q;exact⟨_,H,I.tok _,z4,D _ _ ⟨d',M,ρ,m,.refl,z3,q⟩⟩;exact q.elim
end
def dh(h:d5)(d:c8)(es:Array n9)(ep:Nat):Prop:=∃o,h.get? d=a7 o/\o.ExactDict/\o.data=.dict es ep
theorem dh.ty{s:e8}{d:c8}{es:Array n9}{ep:Nat}(x:dh s.heap d es ep):s.TypeIs (.ref d) "dict":=by obtain⟨o,h1,h2,_⟩:=x;exact⟨o,h1,h2.1⟩
theorem dh.lt(x:dh h d es ep):d<h.objs.size:=by obtain⟨o,h1,_⟩:=x;exact A5 h1
theorem dh.to(x:dh h d es ep)(k:∀o,h.get? d=a7 o->h'.get? d=a7 o):dh h' d es ep:=by obtain⟨o,h1,h2⟩:=x;exact⟨o,k o h1,h2⟩
section
variable{prog:c7}{w:c6}{A:e7}{E:b7->e8->Prop}{s:e8}{d:c8}{es:Array n9}{ep:Nat}
theorem pH{Q:b7->e8->Prop}(c:(d==d6)=bt)(h:dh s.heap d es ep)(b:Q (.ref s.heap.objs.size) { s with heap:=s.heap.push { cls:=.type "dict_keyiterator",data:=.fields #[.ref d,.int 0 0,.int es.size 0,.int ep 0] } }):f8 (ge prog w) A (j4<|.ref d) Q E s:=by have m:=h.ty;obtain⟨o,h1,h2,a⟩:=h;refine Qv m F.slot_dict_iter<|K4 F.slot_dict_iter m F.entry_dict_iter ?_<|F.args_dict_iter_1 _;unfold Builtin.«dict.__iter__»;refine u8 ?_;unfold Builtin.Dict.dictSlotNone;refine u8<|OU m<|v5 ?_;refine(show f8 (ge prog w) _ (QI d >>= _) _ _ s from ?_);unfold QI;rw[c];refine u8<|v5<|u8<|N3 h1 a<|u8<|OM h1 a ?_;exact u8<|Lu<|v5 ⟨_,rfl,"dict_keyiterator",_,⟨_,C7 _ rfl,rfl⟩,F.slot_dict_keyiterator_next.lookup,by simpa [j5]using b⟩
theorem pG(h:s.heap.IsKeyIter it d i es.size ep)(m:dh s.heap d es ep)(hi:i<es.size)(e:∀h',h'.IsKeyIter it d (i+1) es.size ep->J3 it s.heap h'->Q (a7 es[i].key) { s with heap:=h' }):f8 (ge prog w) A (j0<|.ref it) Q E s:=by
 obtain⟨o,B,f,a⟩:=id h;obtain⟨j,k,C,c⟩:=id m;unfold j0;refine u8<|MM<|Mo (name:=v6 "__next__") h.typeIs F.slot_dict_keyiterator_next<|K4 F.slot_dict_keyiterator_next h.typeIs F.entry_dict_keyiterator_next ?_<|F.args_dict_keyiterator_next_1 _;refine u8<|v5<|u8<|u8 ?_
 first|refine u8 (QY h.typeIs<|v5<|u8<|MN B a ?_)|refine u8<|QS h.typeIs<|v5<|u8<|MN B a ?_
 simp only[show PY "dict_keyiterator" = bt by decide,C4,u4];refine(show f8 (ge prog w) _ (if (F6 d==K1)=a9 then _ else _) _ _ s from ?_);rw[t7<|by exact Nw];refine u8<|v5<|u8<|N3 k c ?_;rw[t7<|by simp];refine u8<|v5<|u8<|OM k c ?_;rw[t7<|by simp];refine v5 ?_;simp only[show ¬((i:Int)<0)from by lia,u4,Lv,K5 hi];refine u8 ?_
 first|refine u8 (QY h.typeIs<|v5 ?_)|refine u8<|QS h.typeIs<|v5 ?_
 refine u8<|wpAny_isOneOf_keyiter h.typeIs ?_;refine(show f8 (ge prog w) _ (setField (.ref it) 1 (j5<|(i:Int)+1) >>= _) _ _ s from u8<|Nc B a (by simp) ?_);have b:(s.heap.update it (Obj.mapFields (·.setIfInBounds 1 (j5<|(i:Int)+1)))).IsKeyIter it d (i+1) es.size ep:=by refine⟨_,LO _ B<|Obj.isFreed_of_fields<|QE a _,(Obj.cls_mapFields ..).trans f,?_⟩;rw[QE a];simp[j5]
 refine u8 (F8 (u8 (wpAny_isOneOf_keyiter (s:={ s with heap:=s.heap.update it (Obj.mapFields (·.setIfInBounds 1 (j5<|(i:Int)+1))) }) b.typeIs ?_)));refine(show f8 (ge prog w) _ (pure es[i].key) _ _ _ from ?_);exact v5<|v5 ⟨_,rfl,v5<|e _ b<|LN ..⟩
theorem uM(g:A.handled=a8)(h:s.heap.IsKeyIter it d es.size es.size ep)(i:dh s.heap d es ep)(f:∀h',Heap.ExtBut it s.heap h'->Q a8 { s with heap:=h' }):f8 (ge prog w) A (j0<|.ref it) Q E s:=by
 obtain⟨o,B,j,c⟩:=id h;obtain⟨l,k,C,e⟩:=id i;unfold j0;refine u8<|MM<|Mo (name:=v6 "__next__") h.typeIs F.slot_dict_keyiterator_next<|K4 F.slot_dict_keyiterator_next h.typeIs F.entry_dict_keyiterator_next ?_<|F.args_dict_keyiterator_next_1 _;refine u8<|v5<|u8<|u8 ?_
 first|refine u8 (QY h.typeIs<|v5<|u8<|MN B c ?_)|refine u8<|QS h.typeIs<|v5<|u8<|MN B c ?_
 simp only[show PY "dict_keyiterator" = bt by decide,C4,u4];refine(show f8 (ge prog w) _ (if (F6 d==K1)=a9 then _ else _) _ _ s from ?_);rw[t7<|by exact Nw];refine u8<|v5<|u8<|N3 k e ?_;rw[t7<|by simp];refine u8<|v5<|u8<|OM k e ?_;rw[t7<|by simp];refine v5 ?_;simp only[show ¬((es.size:Int)<0)from by lia,u4,Lv,OV<|x9 es.size];refine u8 ?_
 first|refine u8 (QY h.typeIs<|v5 ?_)|refine u8<|QS h.typeIs<|v5 ?_
 refine(show f8 (ge prog w) _ (setField (.ref it) 0 .none >>= _) _ _ s from u8<|Nc B c (by simp) ?_);refine(show f8 (ge prog w) _ (newExc (.type "StopIteration") [] >>= _) _ _ _ from u8 ?_);simp only[newExc,newTuple];refine u8 (Lu ?_<|by size_fits);refine u8 (m:=o7 _ _)<|OE (a:=K1) (by first|rfl|(simp only[o7];rfl)) ?_;refine Lu ?_ (by size_fits);simp only[raiseNew];refine u8<|wpAny_handled ?_;rw[show A.in1.handled=a8 from g];refine u8<|v5<|wpAny_throw ?_;refine u8<|N0 (b:=a9) (T:="StopIteration") ⟨_,C7 _ rfl,rfl⟩ Pp ?_;exact v5<|f _<|((LN ..).extBut.push _).push _
theorem AB(l:A.handled=a8)(I:c8)(j:d≠I):o5 prog w A I [I,d] [I] es.size (λi v=>∃e,es[i]?=a7 e/\v=e.key) (λi h=>h.IsKeyIter I d i es.size ep/\dh h d es ep) where
 sub:=λb a=>by simp at a;simp[a]
 frame:=λ_ _ _ t k=>⟨t.1.at λo e=>k I (by simp) o e,t.2.to λo e=>k d (by simp) o e⟩
 item:=λi s Q E hi t c=>pG t.1 t.2 hi λh' f u=>c _ h' s.toks ⟨es[i],by simp[hi],rfl⟩ ⟨f,t.2.to λo e=>u.extBut d o j e⟩ λb o a e=>u.extBut b o (λh=>a<|by simp[h]) e
 done:=λs Q E t c=>uM l t.1 t.2 λh' g=>c h' s.toks λb o a e=>g b o (λh=>a<|by simp[h]) e
 self:=λ_ _ _ _ t c=>wpAny_pyIter_keyiter t.1 c
theorem GH(lo:(d==d6)=bt):KdlSrc prog w "dict" d d es.size (λi v=>∃e,es[i]?=a7 e/\v=e.key) (λh=>dh h d es ep) where
 type:=λ_ m=>m.ty
 there:=λ_ m=>⟨m.lt,m.lt⟩
 keep:=λ_ _ m k=>m.to λo e=>k d (.inl rfl) o e
 notList:=by decide
 notTuple:=by decide
 hint:=λ_ _ _ _ m q=>kdl_hint_dict m.ty q
 iter:=λ_ _ a m=>⟨_,_,(λ_ _ q=>pH lo m q),AB a _<|A8 m.lt,⟨⟨_,C7 _ rfl,rfl,rfl⟩,m.to λo e=>A3 _ e⟩⟩
end
noncomputable def Ite(a:c8)(n:Nat):It:=⟨λi H=>∃xs,H a=a7 (.ext<|dX a xs)/\xs.length=n/\i<n,λi H v H'=>H'=H/\∀xs,H a=a7 (.ext<|dX a xs)->∃x,xs[i]?=a7 x/\v=.ref x.2.1,λi H=>(∃xs,H a=a7 (.ext<|dX a xs)/\xs.length=n)/\i=n⟩
section
variable{X:Cx}{pins:List (c8×c9)}{σ:St}{H:Hp}{s:e8}
theorem sL(I:v4 X pins σ H s)(b:H a=a7 (.ext<|dX a xs)):∃es,dh s.heap a es xs.length/\es.size=xs.length/\∀(i:Nat) x,xs[i]?=a7 x->∃e,es[i]?=a7 e/\e.key=.ref x.2.1/\e.val=x.2.2:=by
 obtain⟨o,es,h1,h2,h,d⟩:=AF I b;refine⟨es,⟨o,h1,h2,h⟩,?_,λi x c=>?_⟩;have:=u6 Ma d
 rwa [G2,x6]at this
 refine⟨⟨C1 X.w 8 x.1,.ref x.2.1,x.2.2⟩,?_,rfl,rfl⟩;rw[<-J5,d,E1,c];rfl
theorem wu(x:dh h a es ep)(y:dh h a es' ep'):es=es'/\ep=ep':=by obtain⟨o,h1,_,d⟩:=x;obtain⟨o',c,_,b⟩:=y;obtain rfl:o=o':=D0<|h1.symm.trans c;rw[d]at b;injection b with e1 e2;exact⟨e1,e2⟩
end
theorem BL{P:c7}{w:c6}{K:v9}{tg:f9}(a it:c8)(n:Nat):Turn P w K tg (Ite a n) [it] it (λi h=>h.IsKeyIter it a i n n) where
 mem:=by simp
 obj:=λi h t b f=>by
  obtain rfl:b=it:=by simpa using f
  obtain⟨o,e,c,d⟩:=t;exact⟨o,e,λv z=>by rw[d]at z;cases z⟩
 keep:=λi h h' t k=>t.at λo e=>k it (by simp) o e
 item:=by
  intro X L M J U i p s σ H E I m t R;subst L M J;obtain⟨xs,G,rfl,hi⟩:=R;obtain⟨es,F,l,T⟩:=sL I G;obtain⟨e,N,O,e3⟩:=T i xs[i]<|A4 hi;obtain⟨x,y,f2,B,C,D⟩:=m it (by simp);have g:i<es.size:=by lia
  have S:es[i]=e:=by rw[K5 g]at N;exact D0 N
  rw[<-l]at F t;refine pG t F g λh' j sb=>?_;rw[S,O];have Y:v4 X p σ H { s with heap:=h' }:=I.turned (t':=s.toks) (λb o f e=>(sb.2 b f).trans e) x y B C D;obtain⟨o,q1,q2,q3⟩:=id j;refine⟨_,rfl,xJ (s:={ s with heap:=h' }) q1 q2 q3 (by decide) ⟨.ref xs[i].2.1,H,Y,rfl,⟨rfl,λys hy=>?_⟩,by rw[l]at j;exact j,λb f=>(m b f).1⟩⟩;obtain⟨ab,u,Z,r⟩:=sL I hy;obtain⟨rfl,ep⟩:=wu F u;have V:i<ys.length:=by lia
  obtain⟨e',W,q,_⟩:=r i ys[i]<|A4 V;rw[K5 g,S]at W;obtain rfl:=D0 W;rw[O]at q;injection q with q;exact⟨ys[i],A4 V,by rw[q]⟩
 done:=by intro X L M J U i p s σ H E I m t R;subst L M J;obtain⟨⟨xs,G,rfl⟩,rfl⟩:=R;obtain⟨es,F,l,T⟩:=sL I G;obtain⟨x,y,f2,B,C,D⟩:=m it (by simp);rw[<-l]at F t;exact uM (I.ok.hd U) t F λh' he=>⟨rfl,I.turned (t':=s.toks) (λb o f e=>he b o f e) x y B C D⟩
 self:=λA i s Q E t hQ=>wpAny_pyIter_keyiter t hQ
section
variable{X:Cx}{tg:f9}
def oh(t:A0):L8:=λS M R=>t S M λd a=>match d with
 |.ref n=>∃kvs,a[n]?=a7 (.dkt kvs)/\(kvs.length<=sizeLine->R ⟨kvs.map (·.1),λM=>M[n]?=a7 (.dkt kvs)⟩ a)
 |_=>False
theorem Dz{l:f9}{J:A0}(U:DE X l J):DI X tg l (oh J):=by
 intro m s σ H R I h;obtain⟨S,M,ρ,Q,sm,sr,q,k⟩:=h;refine A1 (U m s σ H _ I ⟨S,M,ρ,_,sm,sr,q,λv H' w=>w⟩) ?_;rintro u C ⟨v,H1,c,rv,d,D,F,A,g1,Z,G⟩;cases Z with
 |@ref n a B =>
  cases rv;obtain⟨kvs,O,Y⟩:=(show ∃kvs,D[n]?=a7 (.dkt kvs)/\(kvs.length<=sizeLine->Q ⟨kvs.map (·.1),λM=>M[n]?=a7 (.dkt kvs)⟩ D)from G)
  obtain⟨xs,N,r,dd,T,V,hx,nd⟩:=gL c A B O;obtain⟨es,L,K,_⟩:=sL c N;refine pH T L ?_;rw[K];refine⟨C.heap.objs.size,[C.heap.objs.size],_,_,H1,rfl,c.kept (t':=C.toks) λb o e=>A3 _ e,BL a _ xs.length,⟨_,C7 _ rfl,rfl,rfl⟩,λb P=>?_,k _ H1 ⟨⟨kvs.map (·.1),λM=>M[n]?=a7 (.dkt kvs)⟩,D,F,A,g1,?_,Y V⟩⟩;obtain rfl:b=C.heap.objs.size:=by simpa using P
  exact c.fpOk (x9 _)<|c.hok.fresh<|x9 _;refine⟨λi ρ' M' H' s' g ok hi=>?_,λi ρ' M' H' x H2 s' g ok hi y=>?_,λρ' M' H' s' g ok=>?_⟩;obtain⟨_,_,_,ys,j,t⟩:=s'.obj _ _ _ (ap g.pre B) ok;have W:ys.length=kvs.length:=by have:=u6 Ma<|eI t;rwa [x6,x6]at this
  exact⟨ys,j,by lia,by rw[x6]at hi;lia⟩;obtain⟨rfl,f⟩:=y;obtain⟨_,_,_,ys,j,t⟩:=s'.obj _ _ _ (ap g.pre B) ok;obtain⟨z,E,rfl⟩:=f ys j;obtain⟨p,hp,_,_,rp,_⟩:=cU t E;exact⟨p.1,ρ',by rw[E1,hp];rfl,s',.refl,rp⟩;obtain⟨_,_,_,ys,j,t⟩:=s'.obj _ _ _ (ap g.pre B) ok;have W:ys.length=kvs.length:=by have:=u6 Ma<|eI t;rwa [x6,x6]at this
  exact⟨⟨ys,j,by lia⟩,by rw[x6];lia⟩
 |_=>exact G.elim
theorem wZ{K:v9}{ρ:List c8}{H:Hp}{kvs:List (D×D)}{xs:List (D×c8×b7)}(r:Paired (oo K ρ H) kvs xs):Reps K ρ H (kvs.map (·.1)) (xs.map λx=>V.ref x.2.1):=by
 induction r with
 |nil=>exact .nil
 |cons h t i=>exact .cons h.2.2.1 i
theorem qc:∀(xs:List (D×c8×b7)) (vs:List b7),vs.length=xs.length->(∀(j:Nat) (v:b7) x,vs[j]?=a7 v->xs[j]?=a7 x->v=.ref x.2.1)->az (xs.map λx=>V.ref x.2.1) vs
 | [],[],_,_=>.nil
 | [],_::_,e,_=>by simp at e
 |_::_,[],e,_=>by simp at e
 |x::xs,v::vs,e,h=>.cons (h 0 v x rfl rfl)<|qc xs vs (by simpa using e) λj u y h1 h2=>h (j+1) u y (by simpa using h1)<|by simpa using h2
def iA:F7:=λds M Q=>match ds with
 | [.ref n]=>∃kvs,M[n]?=a7 (.dkt kvs)/\SrtOk M (kvs.map (·.1))/\∀ys,ys.Perm (kvs.map (·.1))->uW M ys->Q (.ref M.length) (M++[.lst ys])
 |_=>False
theorem xS{k:Nat}(hr:Room k X.A)(W:X.calm=a9):jt X (.builtin "sorted") iA:=by
 rintro C s σ H vs us R I rv ⟨ds,M,ρ,Q,E,l,q,kk⟩;unfold iA at q;split at q;obtain⟨kvs,P,G,q⟩:=q
 first|have f:=Reps.inv_cons l|have f:=az.inv_cons l
 clear l;obtain⟨_,_,rfl,r1,l⟩:=f;cases l;obtain⟨u,rfl,J⟩:=az.one rv;obtain⟨a,rfl,e⟩:=w5.inv_ref r1;cases J;obtain⟨xs,y,r,dd,z2,hz,hx,nd⟩:=gL I E e P;obtain⟨es,F,el,K⟩:=sL I y;obtain⟨m,B,hm⟩:=I.loc;have d:a≠X.env.locals:=ad y I.free;obtain⟨oa,c,_⟩:=id F;have i:∀b o,(b,o)∈[]++(a,oa)::Att.ledger s.heap X.env.locals a↔b≠X.env.locals/\s.heap.get? b=a7 o:=λb o=>by rw[LB,A9,Att.mem_ledger];constructor;rintro(h|⟨h1,_,h3⟩);cases h;exact⟨d,c⟩;exact⟨h1,h3⟩;rintro⟨h1,h2⟩;by_cases z:b=a;subst z;rw[c]at h2;cases h2;exact .inl rfl;exact .inr ⟨h1,z,h2⟩
 have sl:=G.len;rw[x6]at sl;refine kdu_sorted (GH (es:=es) (ep:=xs.length) z2) (I.ok.hd W) (Att.fr_all B) (Att.news_ledger d c) F (by rw[Mh];lia) λD h' tk vs T N lt hl S=>?_;have kp:∀b u,b≠X.env.locals->s.heap.get? b=a7 u->h'.get? b=a7 u:=λb u U e=>(N (b,u)<|D4 _<|(i b u).mpr ⟨U,e⟩).1;have L:D≠X.env.locals:=(N _ F5).2.1;have O:s.heap.get? D=a8:=by
  cases q:s.heap.get? D with
  |none=>rfl
  |some o=>exact t8 (lt (D,o)<|(i D o).mpr ⟨L,q⟩)<|J4 _
 have t:az (xs.map λx=>V.ref x.2.1) vs:=by refine qc xs vs (by lia) λj v x Z p=>?_;obtain⟨e0,g1,rfl⟩:=S j v Z;obtain⟨e2,w,g3,_⟩:=K j x p;rw[g1]at w;obtain rfl:=D0 w;exact g3
 have Y:=wZ r;exact tX (n:=0) hr (by show X.A.units+1<=X.A.units+4;lia) I E G.g Y t B T.ns kp O L (N _ F5).1 λv H' x=>kk v H'<|x Q q;exact q.elim
end
section
variable{X:Cx}{o:f9}{to:A0}{apos cpos p pos:i0}{k:Nat}
def Bu:G3:=λx y M Q=>match x,y with
 |.tup ks,.ref n=>∃kvs,M[n]?=a7 (.dkt kvs)/\cz 8 (.tup ks)=a9/\Q (.bl (aI kvs<|.tup ks).isSome) M
 |_,_=>False
def oM:G3:=λx y M Q=>match x,y with
 |.tup ks,.ref n=>∃kvs,M[n]?=a7 (.dkt kvs)/\cz 8 (.tup ks)=a9/\Q (.bl<|!(aI kvs<|.tup ks).isSome) M
 |_,_=>False
theorem Jj(i:Room k X.A):G9 X (j8 .In) Bu:=by
 rintro p s σ H F G v u R I j o ⟨x,y,M,ρ,Q,m,g,l,q,D⟩;have E:=i.un;cases x with
 |tup ks =>
  cases y with
  |ref n =>
   obtain⟨kvs,h,c,q⟩:=q;obtain⟨a,rfl,f⟩:=w5.inv_ref l;cases o;obtain⟨xs,z,r,d,T,B,C,_⟩:=gL I m f h;have t:=cA I 8 _ _ _ g j c;obtain⟨b,_,rfl,_⟩:=id t;refine wpAny_in_heap (knd:=aU X.prog X.w) (k:=.tup ks) (by show X.A.units+1+8<k7;lia) t T d ?_;have e:(o0 xs<|.tup ks).isSome=(aI kvs<|.tup ks).isSome:=by rcases mi r (.tup ks)with⟨z1,z2⟩|⟨_,_,_,z1,z2,_⟩<;>rw[z1,z2]<;>rfl
   rw[e];exact eN (I.tok _) m D q
  |_=>exact q.elim
 |_=>exact q.elim
theorem zD(i:Room k X.A):G9 X (j8 .NotIn) oM:=by
 rintro p s σ H F G v u R I j o ⟨x,y,M,ρ,Q,m,g,l,q,D⟩;have E:=i.un;cases x with
 |tup ks =>
  cases y with
  |ref n =>
   obtain⟨kvs,h,c,q⟩:=q;obtain⟨a,rfl,f⟩:=w5.inv_ref l;cases o;obtain⟨xs,z,r,d,T,B,C,_⟩:=gL I m f h;have t:=cA I 8 _ _ _ g j c;obtain⟨b,_,rfl,_⟩:=id t;refine wpAny_notIn_heap (knd:=aU X.prog X.w) (k:=.tup ks) (by show X.A.units+1+8<k7;lia) t T d ?_;have e:(o0 xs<|.tup ks).isSome=(aI kvs<|.tup ks).isSome:=by rcases mi r (.tup ks)with⟨z1,z2⟩|⟨_,_,_,z1,z2,_⟩<;>rw[z1,z2]<;>rfl
   rw[e];exact eN (I.tok _) m D q
  |_=>exact q.elim
 |_=>exact q.elim
def ww:v7:=λ_ _ _=>False
theorem Du{st:i5}:DS X st ww:=λp s σ H E I ⟨S,M,ρ,F,m,c,q,D⟩=>q.elim
end
section
variable{X:Cx}{o i e:f9}{to ti te:A0}{pos pos' p apos cpos:i0}{k:Nat}{tg:f9}{es:List f9}{t:G1}{st:i5}
theorem JO:HE X (.Dict [] [] pos) mV:=⟨KW⟩
theorem JP(r:Room k X.A)(B:HE X o to)(hi:HE X i ti)(hs:EG i:=by intro _ _;kernel_rfl):HE X (.Subscript o i pos) (dO to ti):=⟨KY r B.ok hi.ok hs⟩
theorem Aa(r:Room k X.A)(B:HE X o to)(hi:HE X i ti)(c:HE X e te)(hs:i7 e (a7<|.Subscript o i pos') pos.line X.env=pure bt:=by kernel_rfl):HS X (.Assign [.Subscript o i pos'] e pos) (jq to ti te):=⟨GM r B.ok hi.ok c.ok hs⟩
theorem Gm(i:Room k X.A)(B:HE X o to)(f:HA X (e::es) t)(b:n0 o "get" X.env (eval o X.env)=eval o X.env:=by kernel_rfl)(w:((i3 cpos<|i4 (e::es) X.env).all (λx=>!x.1)&&(n5 cpos<|n6 [] X.env).all (λx=>x.1.isSome) && decide ((e::es).length+([]:List m3).length+(if ([]:List m3).isEmpty then 0 else 1)<30))=a9:=by kernel_rfl)(c:(apos.endLine==cpos.line)=a9:=by kernel_rfl) (hs:i4 (e::es) X.env=(bt,eval e X.env)::i4 es X.env:=by kernel_rfl) (n:(i3 cpos<|i4 es X.env).any (·.1)=bt:=by kernel_rfl):HE X (.Call (.Attribute o "get" apos) (e::es) [] cpos) (P8 rJ to t):=⟨d_mt PySem.F.slot_dict_get PySem.F.type_dict_get (Cy i) B.ok f.ok b w c hs n⟩
theorem CO(h:HE X e te):HI X tg e (oh te):=⟨Dz h.ok⟩
theorem xG(i:Room k X.A)(f:X.calm=a9:=by kernel_rfl):HC X (.builtin "sorted") iA:=⟨xS i f⟩
theorem Kg(i:Room k X.A):H9 X (j8 .In) Bu:=⟨Jj i⟩
theorem An(i:Room k X.A):H9 X (j8 .NotIn) oM:=⟨zD i⟩
theorem wk:HS X st ww:=⟨Du⟩
end
section
variable{X:Cx}{k:Nat}
theorem Lj:d9 "max" = a7 (.builtin "max"):=by decide +kernel
end
end L2
namespace L2
open PySem PySem.Spec PyProof.Rows DL PySem.W PySem.Calls PyProof.V
def cH(h:d5)(it d:c8)(i n ep:Nat)(x a ok b:b7):Prop:=h.get? it=a7 { cls:=.type "dict_itemiterator",dict:=a8,data:=.fields #[x,a,.ref d,.int i 0,.int n 0,.int ep 0,ok,b],slots:=#[] }
def wH(h:d5)(it d S:c8)(i n ep:Nat):Prop:=∃x b ok v,cH h it d i n ep x b ok v/\((x=.none/\b=.bool bt)\/∃(a:c8) (f:Bool) (o:c9),x=j5 a/\b=.bool f/\h.get? a=a7 o/\a≠it/\a≠S)
section
variable{prog:c7}{w:c6}{A:e7}{E:b7->e8->Prop}{s:e8}{d:c8}{es:Array n9}{ep:Nat}
theorem AC(a:(d==d6)=bt)(m:dh s.heap d es ep)(b:Q (.ref s.heap.objs.size) { s with heap:=s.heap.push { cls:=.type "dict_items",data:=.fields #[.ref d] } }):f8 (ge prog w) A (call (.builtin "dict.items") [.ref d]) Q E s:=by refine call_meetsIn PySem.F.slot_dict_items m.ty PySem.F.entry_dict_items (PySem.F.args_dict_items_1 _) (S:=λ_ R s'=>s'=s/\R (.ok<|.ret<|.ref s.heap.objs.size) { s with heap:=s.heap.push { cls:=.type "dict_items",data:=.fields #[.ref d] } }) (.of_wp ?_) ⟨rfl,b⟩;rintro A R s' ⟨rfl,h⟩;unfold Builtin.«dict.items»;refine u8 ?_;unfold Builtin.Dict.noArgs;refine u8<|OU m.ty<|v5 ?_;refine(show f8 (ge prog w) _ (QI d >>= _) _ _ s' from ?_);unfold QI;rw[a];exact u8<|v5<|u8<|Lu<|v5 ⟨_,rfl,h⟩
theorem AE(c:s.heap.IsItemsView v d)(m:dh s.heap d es ep)(b:Q (.ref s.heap.objs.size) { s with heap:=s.heap.push { cls:=.type "dict_itemiterator",data:=.fields #[.none,.bool bt,.ref d,.int 0 0,.int es.size 0,.int ep 0,.none,.none] } }):f8 (ge prog w) A (j4<|.ref v) Q E s:=by obtain⟨g,e,O,f⟩:=id c;obtain⟨o,h1,h2,a⟩:=m;refine Qv c.typeIs F.slot_dict_items_iter<|K4 F.slot_dict_items_iter c.typeIs F.entry_dict_items_iter ?_<|F.args_dict_items_iter_1 _;unfold Builtin.«dict_items.__iter__»;refine u8<|v5<|u8 ?_;unfold Builtin.Dict_items.dictOf;refine u8<|Ls e f (x:=.ref d) rfl<|v5<|u8 ?_;unfold Builtin.Dict_items.newIterator;refine u8<|N3 h1 a<|u8<|OM h1 a ?_;simp only[show PY "dict_itemiterator" = a9 by decide,u5];exact Lu (v5 ⟨_,rfl,"dict_itemiterator",_,⟨_,C7 _ rfl,rfl⟩,F.slot_dict_itemiterator_next.lookup,by simpa [j5,R5]using b⟩)<|by simp only[sizeOk,R5,C8,E3,E9,G8,Mh];lia
theorem AD(V:wH s.heap it d S i es.size ep)(hS:S<s.heap.objs.size)(hm:dh s.heap d es ep)(hi:i<es.size)(hQ:∀h',wH h' it d S (i+1) es.size ep->h'.get? s.heap.objs.size=a7 { cls:=.type "tuple",data:=.seq #[es[i].key,es[i].val] }->h'.objs.size=s.heap.objs.size+1 -> (∀b o,b≠it->s.heap.get? b=a7 o->h'.get? b=a7 o)->(∀ok ov,cH s.heap it d i es.size ep .none (.bool bt) ok ov->cH h' it d (i+1) es.size ep (j5 s.heap.objs.size) (.bool bt) es[i].key es[i].val)->Q (a7<|.ref s.heap.objs.size) { s with heap:=h' }):f8 (ge prog w) A (j0<|.ref it) Q E s:=by
 obtain⟨hp,g,r,u,t⟩:=s;obtain⟨x0,x1,ok,ov,h,W⟩:=V;obtain⟨od,Z,k2,k3⟩:=id hm;have m:ML ⟨hp,g,r,u,t⟩ (.ref it) "dict_itemiterator":=⟨_,h,rfl⟩
 unfold j0;refine u8<|MM<|Mo (name:=v6 "__next__") m Q2<|K4 Q2 m R6 ?_<|R8 _;refine u8<|v5<|u8<|u8 ?_
 first|refine u8 (Q0 m<|v5<|u8<|MN h rfl ?_)|refine u8<|QU m<|v5<|u8<|MN h rfl ?_
 simp only[show PY "dict_itemiterator" = a9 by decide,u5];refine(show f8 (ge prog w) _ (if (F6 d==K1)=a9 then _ else _) _ _ _ from ?_);rw[t7<|by exact Nw];refine u8<|v5<|u8<|N3 Z k3 ?_;rw[t7<|by simp];refine u8<|v5<|u8<|OM Z k3 ?_;rw[t7<|by simp];refine v5 ?_;simp only[show ¬((i:Int)<0)from by lia,u4,Lv,K5 hi];refine u8 ?_
 first|refine u8 (Q0 m<|v5 ?_)|refine u8<|QU m<|v5 ?_
 refine u8<|Rz m ?_;refine(show f8 (ge prog w) _ (setField (.ref it) 3 (j5<|(i:Int)+1) >>= _) _ _ ⟨hp,g,r,u,t⟩from u8<|MR h (by simp) λp he hs=>?_);have F:J3 it hp p:=hs;have D:cH p it d (i+1) es.size ep x0 x1 ok ov:=by unfold cH;rw[show ((i+1:Nat):Int)=(i:Int)+1 by lia];simpa [j5]using he
 have v:ML ⟨p,g,r,u,t⟩ (.ref it) "dict_itemiterator":=⟨_,D,rfl⟩
 refine u8<|F8<|u8<|Rz v<|u8<|Rz v ?_;refine(show f8 (ge prog w) _ (R1 (.ref it) 6 es[i].key es[i].val) _ _ ⟨p,g,r,u,t⟩from ?_);unfold R1;refine u8<|wpAny_newTuple ?_;have B:cH (p.push { cls:=.type "tuple",data:=.seq #[es[i].key,es[i].val] }) it d (i+1) es.size ep x0 x1 ok ov:=A3 _ D;generalize O:p.push { cls:=.type "tuple",data:=.seq #[es[i].key,es[i].val] }=hB at B;have Y:p.objs.size=hp.objs.size:=F.1;have q:it<hp.objs.size:=A5 h;have tB:hB.get? hp.objs.size=a7 { cls:=.type "tuple",data:=.seq #[es[i].key,es[i].val] }:=by rw[<-O,<-Y];exact C7 _ rfl
 have zB:hB.objs.size=hp.objs.size+1:=by rw[<-O,LJ,Y]
 have kB:∀b o,b≠it->hp.get? b=a7 o->hB.get? b=a7 o:=λb o k e=>by rw[<-O];exact A3 _<|F.extBut b o k e
 refine(show f8 (ge prog w) _ (R4 (.ref it) >>= _) _ _ ⟨hB,g,r,u,t⟩from ?_);rw[Y];have n:∀C:d5,wH C it d S (i+1) es.size ep->J3 it hB C->(∀ok ov,cH hp it d i es.size ep .none (.bool bt) ok ov->cH C it d (i+1) es.size ep (j5 hp.objs.size) (.bool bt) es[i].key es[i].val)->Q (a7<|.ref hp.objs.size) ⟨C,g,r,u,t⟩:=λC st U =>
  hQ C st (U.extBut _ _ (MJ q) tB) (by show C.objs.size=hp.objs.size+1;rw[U.1,zB]) λb o k e=>U.extBut b o k<|kB b o k e
 refine u8 ?_;unfold R4;rcases W with⟨rfl,rfl⟩|⟨a,f,G,rfl,rfl,ga,j,y⟩
 refine u8<|Ls B rfl (x:=.none) rfl<|v5 ?_;simp only[u5];refine u8<|Ls B rfl (x:=ok) rfl<|u8<|Ls B rfl (x:=ov) rfl ?_;refine u8<|MR B (by simp) λl N X=>?_;refine u8<|MR (show cH l it d (i+1) es.size ep .none (.bool bt) es[i].key ov from N) (by simp) λR e4 s4=>?_;refine u8<|MR (show cH R it d (i+1) es.size ep .none (.bool bt) es[i].key es[i].val from e4) (by simp) λT e5 s5=>?_;refine u8<|MR (show cH T it d (i+1) es.size ep (j5 hp.objs.size) (.bool bt) es[i].key es[i].val from e5) (by simp) λM e6 s6=>?_;have p6:cH M it d (i+1) es.size ep (j5 hp.objs.size) (.bool bt) es[i].key es[i].val:=e6;have U:J3 it hB M:=by have c:J3 it hB l:=X;have J:J3 it l R:=s4;have K:J3 it R T:=s5;have L:J3 it T M:=s6;exact⟨by rw[L.1,K.1,J.1,c.1],λb k=>by rw[L.2 b k,K.2 b k,J.2 b k,c.2 b k]⟩
 exact u8<|wpAny_letGo<|v5<|v5 ⟨_,rfl,v5<|n M ⟨_,_,_,_,p6,.inr ⟨_,bt,_,rfl,rfl,U.extBut _ _ (MJ q) tB,MJ q,MJ hS⟩⟩ U λ_ _ _=>p6⟩;have P:hB.get? a=a7 G:=kB a G j ga;have no:∀{C:d5} (H I:b7),cH hp it d i es.size ep .none (.bool bt) H I->cH C it d (i+1) es.size ep (j5 hp.objs.size) (.bool bt) es[i].key es[i].val:=λH I z=>t8 (h.symm.trans z) (by simp[j5]);refine u8<|Ls B rfl (x:=j5 a) rfl ?_;refine(show f8 (ge prog w) _ (loadIfAlive ((a:Int).toNat) >>= _) _ _ _ from ?_);rw[Lv];refine u8<|kdx_alive P ?_;simp only[Option.isNone_some,C4,u4];refine u8<|Ls B rfl (x:=.bool f) rfl ?_;cases f with
 |true=>rw[t7<|show ¬((Nn a9 != Nn a9)=a9)from Nw];refine v5 ?_;simp only[C4,u4];exact v5<|v5 ⟨_,rfl,v5<|n hB ⟨_,_,_,_,B,.inr ⟨a,a9,G,rfl,rfl,P,j,y⟩⟩ (Rk _ _) no⟩
 |false=>rw[t6<|show (Nn bt != Nn a9)=a9 from rfl];refine u8<|MR B (by simp) λl N X=>?_;have p3:cH l it d (i+1) es.size ep (j5 a) (.bool a9) ok ov:=N;have c:J3 it hB l:=X;refine v5 ?_;simp only[C4,u4];exact v5<|v5 ⟨_,rfl,v5<|n l ⟨_,_,_,_,p3,.inr ⟨a,a9,G,rfl,rfl,c.extBut a G j P,j,y⟩⟩ c no⟩
theorem Dt(f:A.handled=a8)(t:wH s.heap it d S es.size es.size ep)(g:dh s.heap d es ep)(e:∀h',Heap.ExtBut it s.heap h'->Q a8 { s with heap:=h' }):f8 (ge prog w) A (j0<|.ref it) Q E s:=by
 obtain⟨n,x,ok,v,h,W⟩:=t;obtain⟨j,B,C,k⟩:=id g;have c:s.TypeIs (.ref it) "dict_itemiterator":=⟨_,h,rfl⟩
 unfold j0;refine u8<|MM<|Mo (name:=v6 "__next__") c Q2<|K4 Q2 c R6 ?_<|R8 _;refine u8<|v5<|u8<|u8 ?_
 first|refine u8 (Q0 c<|v5<|u8<|MN h rfl ?_)|refine u8<|QU c<|v5<|u8<|MN h rfl ?_
 simp only[show PY "dict_itemiterator" = a9 by decide,u5];refine(show f8 (ge prog w) _ (if (F6 d==K1)=a9 then _ else _) _ _ s from ?_);rw[t7<|by exact Nw];refine u8<|v5<|u8<|N3 B k ?_;rw[t7<|by simp];refine u8<|v5<|u8<|OM B k ?_;rw[t7<|by simp];refine v5 ?_;simp only[show ¬((es.size:Int)<0)from by lia,u4,Lv,OV<|x9 es.size];refine u8 ?_
 first|refine u8 (Q0 c<|v5 ?_)|refine u8<|QU c<|v5 ?_
 refine(show f8 (ge prog w) _ (setField (.ref it) 2 .none >>= _) _ _ s from u8<|Nc h rfl (by simp) ?_);refine(show f8 (ge prog w) _ (newExc (.type "StopIteration") [] >>= _) _ _ _ from u8 ?_);simp only[newExc,newTuple];refine u8 (Lu ?_<|by size_fits);refine u8 (m:=o7 _ _)<|OE (a:=K1) (by first|rfl|(simp only[o7];rfl)) ?_;refine Lu ?_ (by size_fits);simp only[raiseNew];refine u8<|wpAny_handled ?_;rw[show A.in1.handled=a8 from f];refine u8<|v5<|wpAny_throw ?_;refine u8<|N0 (b:=a9) (T:="StopIteration") ⟨_,C7 _ rfl,rfl⟩ Pp ?_;exact v5<|e _<|((LN ..).extBut.push _).push _
end
structure PairsAt(es:Array n9)(lo:c8)(h:d5)(as:List c8):Prop where
 nd:as.Nodup
 above:∀a∈as,lo<a
 tup:∀(j:Nat) (a:c8),as[j]?=a7 a->∃e,es[j]?=a7 e/\h.get? a=a7 { cls:=.type "tuple",data:=.seq #[e.key,e.val] }
end L2
namespace L2
open PySem PySem.Spec PyProof.Rows DL PySem.W
section
variable{X:Cx}
def Ir:G3:=λx y M Q=>match x,y with
 |.int i,.int j=>CPow i j/\Q (.int<|i*2 ^ j.toNat) M
 |_,_=>False
theorem Jg:G9 X (j7 .LShift) Ir:=by refine E8.imp IU ?_;rintro f i H R ⟨x,y,M,ρ,Q,m,r,l,q,k⟩;unfold Ir at q;split at q;cases r;cases l;exact⟨_,_,rfl,rfl,q.1,k _ H<|VQ.now m (.int _) q.2⟩;exact q.elim
theorem Kc:H9 X (j7 .LShift) Ir:=⟨Jg⟩
def zd:F7:=λds M Q=>match ds with
 | [.int i,.int j]=>Q (.int<|if j > i then j else i) M
 |_=>False
theorem Hg(f:X.calm=a9):jt X (.builtin "max") zd:=by
 refine dU.imp (Be f) ?_;rintro vs H R ⟨ds,M,ρ,Q,m,a,q,k⟩;unfold zd at q;split at q
 first|have z:=Reps.inv_cons a|have z:=az.inv_cons a
 clear a;obtain⟨_,_,rfl,r,a⟩:=z
 first|have z:=Reps.inv_cons a|have z:=az.inv_cons a
 clear a;obtain⟨_,_,rfl,l,a⟩:=z;cases a;cases r;cases l;exact⟨_,_,rfl,k _ H<|VQ.now m (.int _) q⟩;exact q.elim
theorem GB(f:X.calm=a9:=by kernel_rfl):HC X (.builtin "max") zd:=⟨Hg f⟩
theorem xH(i:Room k X.A):HC X (.builtin "sorted") gQ:=⟨AZ i⟩
end
noncomputable def dictOf(ps:List (D×D)):List (D×D):=ps.foldl (λkvs p=>fR kvs p.1 p.2) []
theorem eL:dictOf (ps++[p])=fR (dictOf ps) p.1 p.2:=by unfold dictOf;rw[PB];rfl
theorem sJ:∀(ps kvs:List (D×D)),(ps.foldl (λkvs p=>fR kvs p.1 p.2) kvs).length<=kvs.length+ps.length
 | [],_=>x9 _
 |p::ps,kvs=>by have h1:=sJ ps<|fR kvs p.1 p.2;have h2:=fQ (kvs:=kvs) (k:=p.1) (d:=p.2);rw[List.foldl_cons,E9];lia
theorem og:(dictOf ps).length<=ps.length:=by have:=sJ ps [];rw[G8,Nat.zero_add]at this;exact this
theorem iJ:entryFor table "dict.update.loop" = a7 Builtin.«dict.update.loop»:=entryFor_of_tree<|by kernel_rfl
theorem cx:plainId "dict.update.loop" = a9:=by decide +kernel
theorem jf:typeLookup (.type "list") "__getattr__" = pure a8:=by rw[Pt,PP];kernel_rfl
theorem mP:typeLookup (.type "list") "keys" = pure a8:=by rw[Pt,PP];kernel_rfl
section
variable{prog:c7}{w:c6}{A:e7}{E:b7->e8->Prop}{h:d5}{g:Array GenState}{d:Drawn}{t:Nat}{os:OsState}{a:c8}{o:c9}
theorem zK(x:h.get? a=a7 o)(i:o.cls=.type "list")(b:o.dict=a8)(c:o.data=.seq its nn)(f:A.handled=a8)(q:∀h' tk e,Heap.NewAttrErr h h' e (.ref a) "keys"->R (.error<|.ref e) ⟨h',g,d,tk,os⟩):l7 (ge prog w) A (.call (.builtin "list.__getattribute__") ⟨[.ref a,.str "keys" u],[]⟩) R ⟨h,g,d,t,os⟩:=by
 obtain⟨j,k,B,G⟩:=o;obtain rfl:j=.type "list":=i;obtain rfl:k=a8:=b;obtain rfl:B=.seq its nn:=c;have m:(⟨h,g,d,t,os⟩:e8).TypeIs (.ref a) "list":=⟨_,x,rfl⟩
 have y:=mP;refine OT QZ.plain PySem.F.entry_list_ga<|QZ.check _ _ _ _ _ _ _ _ m (PySem.F.args_list_getattribute_2 _ _) ?_;unfold Builtin.«object.__getattribute__»
 repeat (any_goals (first|assumption|wp_step))
 refine wpAny_raiseAttrError (o:=.ref a) (name:="keys") (by first|exact f|simpa using f) q ?_;exact attrMsg_fits (by decide +kernel)<|by size_fits
theorem uw(x:h.get? a=a7 o)(k:o.cls=.type "list")(c:o.dict=a8)(f:o.data=.seq its nn)(j:A.handled=a8)(q:∀h' tk,(∀b ob,h.get? b=a7 ob->h'.get? b=a7 ob)->Q a8 ⟨h',g,d,tk,os⟩):f8 (ge prog w) A (getAttr? (.ref a) "keys") Q E ⟨h,g,d,t,os⟩:=by
 obtain⟨l,n,B,G⟩:=o;obtain rfl:l=.type "list":=k;obtain rfl:n=a8:=c;obtain rfl:B=.seq its nn:=f;have m:∀tk,(⟨h,g,d,tk,os⟩:e8).TypeIs (.ref a) "list":=λ_=>⟨_,x,rfl⟩
 have p:=sub_AttributeError;have N:=QZ.lookup;have r:=QZ.bind<|.ref a;have s:=jf;unfold getAttr? getAttrBy? getAttrBy
 repeat (any_goals (first|assumption|exact m _|wp_step))
 refine zK x rfl rfl rfl (by first|exact j|simpa using j) λh' tk e i=>?_;obtain⟨t',u',u⟩:=i.there;unfold getattributeRaised
 repeat (any_goals (first|assumption|wp_step))
 exact q _ _ i.keeps
end
theorem KB(u:(aU prog w).room A)(t:(aU prog w).is s.heap k b)(r:s.heap.DictOfH (aU prog w) d xs) (x:dX d xs prog w s.heap) (hz:xs.length<=sizeLine)(m:∀h',dX d (storedH xs k b v) prog w h'->J3 d s.heap h'->Q () { s with heap:=h',toks:=s.toks+(aU prog w).draws k }):f8 (ge prog w) A (dictSet d (.ref b) v) Q E s:=by
 obtain⟨_,_,_,_,_,_,_,g,f⟩:=r;obtain⟨o,es,B,n,h,c⟩:=x;have i:es.toList=xs.map (d7<|aU prog w):=c;unfold dictSet
 try with_reducible refine F8 ?_
 refine u8<|(aU prog w).pyHash u t ?_;unfold dictSetHashed
 try with_reducible refine F8 ?_
 have z:es.size=xs.length:=size_of_entries i;refine u8<|wpAny_dictFind_heap (s:={ s with toks:=s.toks+(aU prog w).draws k }) u t B h i g f (λa=>?_) λj p L=>?_;refine u8<|Lz<|wpAny_updateDictKeys (hz:=by lia) (s:={ s with toks:=s.toks+(aU prog w).draws k }) B h<|m _ ⟨_,es.push ⟨(aU prog w).hash k,.ref b,v⟩,LO _ B<|PJ<|OS h _,n.mapDictKeys _,?_,?_⟩<|LN ..;rw[OS h,storedH_new<|Qu a,E3];rfl;rw[storedH_new<|Qu a];rw[Qx,i,L6];rfl;refine u8<|Lz<|u8<|wpAny_updateDict (s:={ s with toks:=s.toks+(aU prog w).draws k }) B h<|wpAny_point<|m _ ⟨_,es.modify j λe=>{ e with val:=v },LO _ B<|PJ<|Qq h _,n.mapDict _,?_,?_⟩<|LN ..;rw[Qq h,storedH_old<|OG f L,x6];rw[storedH_old<|OG f L];have q:=modify_map_putAt (d7<|aU prog w) (λe:n9=>{ e with val:=v }) k v (λ_ _=>rfl) f L;rw[<-i]at q;obtain⟨l⟩:=es;have y:(Array.modify ⟨l⟩ j λe:n9=>{ e with val:=v }).toList=(xs.map<|putAt k v).map (d7<|aU prog w):=by simpa using q
 exact y
section
variable{X:Cx}{pins:List (c8×c9)}{σ:St}{H:Hp}{ρ:List c8}{M:v8}{A:e7}{E:b7->e8->Prop}{s:e8}
structure DD(X:Cx)(ρ:List c8)(H:Hp)(h:d5)(a:c8)(kvs:List (D×D))(xs:List (D×c8×b7)):Prop where
 dx:dX a xs X.prog X.w h
 kv:Paired (oo X.K ρ H) kvs xs
 nd:(kvs.map (·.1)).Nodup
theorem DD.at(x:DD X ρ H h a kvs xs)(k:∀o,h.get? a=a7 o->h'.get? a=a7 o):DD X ρ H h' a kvs xs:=by obtain⟨⟨o,es,t,l,Q,J⟩,v,d⟩:=x;exact⟨⟨o,es,k _ t,l,Q,J⟩,v,d⟩
theorem DD.len(x:DD X ρ H h a kvs xs):xs.length=kvs.length:=by
 have:=u6 Ma<|eI x.kv
 rwa [x6,x6]at this
theorem DD.of(I:v4 X pins σ H s)(x:DD X ρ H s.heap a kvs xs):s.heap.DictOfH (aU X.prog X.w) a xs:=by obtain⟨o,es,t,l,Q,J⟩:=x.dx;have Z:=eI x.kv;refine⟨o,es,_,t,l,Q,J,λy h=>?_,by rw[Z];exact x.nd⟩;obtain⟨i,hi⟩:=Mg h;obtain⟨p,_,b,g,j,_⟩:=cU x.kv hi;rw[<-b];exact cA I 8 _ _ _ j rfl g
theorem GY(I:v4 X pins σ H s)(hu:A.units+20<k7)(W:o5 X.prog X.w A.in1 J fp wr m P Sx)(S:c8)(x:S∉fp)(O:s.heap.get? S=a8) (E:∀b∈wr,s.heap.get? b=a8) (ps:List (D×D)) (hm:ps.length=m) (C:∀i v,P i v->∃p,ps[i]?=a7 p/\(∃vv,w5 X.K ρ H (.tup [p.1,p.2]) vv/\aL vv v)/\cz 8 p.1=a9/\gK p.1=a9) (hb:m<=1000):∀(k i:Nat) (h:d5) (tk:Nat) (xs:List (D×c8×b7)) (j:Int) (t:Tok),m-i=k->i<=m->Sx i h->DD X ρ H h S (dictOf<|ps.take i) xs->(∀b u,s.heap.get? b=a7 u->h.get? b=a7 u) ->(∀h' tk xs',(∀b u,s.heap.get? b=a7 u->h'.get? b=a7 u)->DD X ρ H h' S (dictOf ps) xs'->R (.ok<|.ret .none) { s with heap:=h',toks:=tk }) ->l7 (ge X.prog X.w) A (.builtin "dict.update.loop" ⟨[.ref S,.ref J,.int j t,.none],[]⟩) R { s with heap:=h,toks:=tk }:=by
 have y:S∉wr:=λh=>x<|W.sub _ h;intro k;induction k with
 |zero =>
  intro i h tk xs j t hk hi q G f N;obtain rfl:i=m:=by lia
  refine Mw iJ ?_;rw[Ng cx _];refine(show f8 (ge X.prog X.w) A.in1 (j0 (.ref J) >>= _) _ _ _ from u8<|W.done _ _ _ q λh' tk d=>?_);rw[<-hm,Mx]at G;refine(show f8 (ge X.prog X.w) A.in1 (Builtin.Dict.addKeywords S [] >>= _) _ _ _ from u8<|v5<|v5 ?_);exact N h' tk xs (λb u e=>d b u (λz=>by rw[E b z]at e;cases e)<|f b u e)<|G.at λo e=>d S o y e
 |succ k ih =>
  intro i h tk xs j t hk hi q G f N;refine Mw iJ ?_;rw[Ng cx _];refine(show f8 (ge X.prog X.w) A.in1 (j0 (.ref J) >>= _) _ _ _ from u8<|W.item i _ _ _ (by lia) q λv h' tk hP B d=>?_);obtain⟨p,hp,⟨vv,r,rv⟩,kd,it⟩:=C i v hP;have n:∀b u,s.heap.get? b=a7 u->h'.get? b=a7 u:=λb u e=>d b u (λz=>by rw[E b z]at e;cases e)<|f b u e;have L:v4 X pins σ H { s with heap:=h',toks:=tk }:=I.kept n;have c:=G.at λo e=>d S o y e;have hl:=c.len;have dl:=og (ps:=ps.take i);have dd:=c.of (s:={ s with heap:=h',toks:=tk }) L;obtain⟨a,vs,rfl,hq,l⟩:=w5.inv_tup r;cases rv
  first|have g:=Reps.inv_cons l|have g:=az.inv_cons l
  clear l;obtain⟨_,_,rfl,r1,l⟩:=g
  first|have g:=Reps.inv_cons l|have g:=az.inv_cons l
  clear l;obtain⟨_,_,rfl,r2,l⟩:=g;cases l;obtain⟨its,V,pl,hz⟩:=L.tuple hq;obtain⟨u1,u2,rfl,Z,e2⟩:=az.two V;obtain⟨k0,d0⟩:=p;cases k0 with
  |tup ks =>
   have F:=cA L 8 _ _ _ r1 Z kd;obtain⟨b,_,rfl,_⟩:=id F;obtain⟨_,_,rfl,T,Y⟩:=w5.inv_tup r1;cases Z;obtain⟨o,ho,hc,nn,hd⟩:=pl;have hT:({ s with heap:=h',toks:=tk }:e8).TypeIs (.ref a) "tuple":=⟨o,ho,hc⟩
   refine u8<|F8<|u8<|wpAny_tryCatch ?_;unfold Builtin.Dict.pairItems;refine u8<|Nq hT ?_;rw[t6<|by decide];refine u8<|Mc ho hd<|v5 ?_;refine(show f8 (ge X.prog X.w) _ (i6 [.ref b,u2]<|dictSet S (.ref b) u2) _ _ _ from F8 ?_);refine KB (k:=.tup ks) (s:={ s with heap:=h',toks:=tk }) (by show A.units+1+8<k7;lia) F dd c.dx (ah<|by rw[hl];rw[LC]at dl;lia) λh2 M sb=>?_;have k2:∀b u,b≠S->h'.get? b=a7 u->h2.get? b=a7 u:=λb u hb e=>(sb.2 b hb).trans e;have U:=Er c.kv kd (.tup T Y) r2 e2;have et:ps.take (i+1)=ps.take i++[(.tup ks,d0)]:=by rw[MD,hp];rfl
   refine v5 ⟨Nr cx _,ih (i+1) h2 _ _ _ _ (by lia) (by lia) (W.frame _ h' h2 B λb' Q o e=>k2 b' o (λz=>x<|z ▸ Q) e) ⟨M,?_,?_⟩ (λb u e=>k2 b u (λz=>by rw[z,O]at e;cases e)<|n b u e) N⟩;rw[et,eL];exact U;rw[et,eL];exact lF c.nd
  |_=>cases it
theorem Hk(I:v4 X pins σ H s)(Y:A.units+30<k7)(z:A.handled=a8)(C:s.heap.IsList l its)(f:s.heap.get? l=a7 ol)(t:ol.dict=a8)(ps:List (D×D))(P:ps.length=its.size)(B:∀(i:Nat) v,its[i]?=a7 v->∃p:D×D,ps[i]?=a7 p/\(∃vv,w5 X.K ρ H (.tup [p.1,p.2]) vv/\aL vv v)/\cz 8 p.1=a9/\gK p.1=a9) (O:its.size<=1000)(h:∀h' tk xs,(∀b u,s.heap.get? b=a7 u->h'.get? b=a7 u)->DD X ρ H h' s.heap.objs.size (dictOf ps) xs->Q (.ref s.heap.objs.size) { s with heap:=h',toks:=tk }):f8 (ge X.prog X.w) A (call (.type "dict") [.ref l]) Q E s:=by
 refine callType_codes (Q₁:=λj s₁=>j=.ref s.heap.objs.size/\s₁={ s with heap:=s.heap.push { cls:=.type "dict",data:=.dict #[] } }) PySem.F.kt_called_dict (PySem.F.kt_typeCall_dict_1 _) PySem.F.entry_dict_init (kt_code_dict_new _ ⟨rfl,rfl⟩) ?_;rintro j s₁ ⟨rfl,rfl⟩;have S:(s.heap.push { cls:=.type "dict",data:=.dict #[] }).get? s.heap.objs.size=a7 { cls:=.type "dict",data:=.dict #[] }:=C7 _ rfl;have T:ML { s with heap:=s.heap.push { cls:=.type "dict",data:=.dict #[] } } (.ref s.heap.objs.size) "dict":=⟨_,S,rfl⟩
 obtain⟨a,N,g,nn,r⟩:=id C;obtain rfl:a=ol:=D0<|N.symm.trans f;have c:(s.heap.push { cls:=.type "dict",data:=.dict #[] }).get? l=a7 a:=A3 _ f;have m:ML { s with heap:=s.heap.push { cls:=.type "dict",data:=.dict #[] } } (.ref l) "list":=⟨a,c,g⟩
 have U:l<s.heap.objs.size:=A5 f;refine⟨T,PySem.F.args_dict_init_2 _ _,?_⟩;unfold Builtin.«dict.__init__»;refine u8 ?_;unfold Builtin.Dict.selfAndRest;refine u8<|OU T ?_;refine(show f8 _ _ (pure (s.heap.objs.size,[F6 l])) _ _ _ from v5 ?_);refine(show f8 _ _ (QN "dict.__init__" s.heap.objs.size (.ref l) [] .none) _ _ _ from ?_);unfold QN;refine u8<|Nq m ?_;rw[t6<|by decide];refine u8<|uw c g t r (by simpa using z) λh1 y G=>?_;have k:∀b u,s.heap.get? b=a7 u->h1.get? b=a7 u:=λb u e=>G b u<|A3 _ e;rw[t6<|show (a8:Option b7).isNone=a9 from rfl];refine u8<|Lz ?_;obtain⟨oI,St,x,W,V⟩:=(TxSrc.list (prog:=X.prog) (w:=X.w) C).iter A.in1.in1 { s with heap:=h1,toks:=y } (by simpa using z) λo e=>k _ _ e;refine u8<|x _ _ ?_;have d:=G _ _ S;have J:s.heap.objs.size<h1.objs.size:=A5 d;have L:s.heap.get? s.heap.objs.size=a8:=by
  cases q:s.heap.get? s.heap.objs.size with
  |none=>rfl
  |some o=>exact t8 (A5 q)<|J4 _
 refine v5 ⟨Nr cx _,GY (A:=A.in1) (s:=s) I (by show A.units+1+20<k7;lia) W s.heap.objs.size ?_ L ?_ ps P B O its.size 0 _ _ [] _ _ rfl (D6 _) V ⟨⟨_,#[],A3 _ d,⟨rfl,rfl,rfl⟩,rfl,rfl⟩,.nil,Ol⟩ (λb u e=>A3 _<|k b u e) λh2 Z xs R M=>⟨rfl,h h2 Z xs R M⟩⟩;simp only[A9,Me,or_false,not_or];exact⟨A8 J,MJ U⟩;intro b n;rw[LL.mp n];cases q:s.heap.get? h1.objs.size with
 |none=>rfl
 |some o=>exact t8 (Nat.lt_trans (A5 q) J)<|J4 _
end
section
variable{X:Cx}{k:Nat}
def iX:F7:=λds M Q=>match ds with
 | [.ref n]=>∃ps:List (D×D),ak M n (ps.map λp=>.tup [p.1,p.2])/\(∀p∈ps,cz 8 p.1=a9/\gK p.1=a9)/\ps.length<=1000/\Q (.ref M.length) (M++[.dkt<|dictOf ps])
 |_=>False
theorem Ba(G:Room k X.A)(C:X.calm=a9):jt X (.type "dict") iX:=by
 rintro w s σ H vs us R I W ⟨ds,M,ρ,Q,n,c,q,K⟩;have un:=G.un;unfold iX at q;split at q;obtain⟨ps,L,E,hl,q⟩:=q
 first|have z:=Reps.inv_cons c|have z:=az.inv_cons c
 clear c;obtain⟨_,_,rfl,l,c⟩:=z;cases c;obtain⟨u,rfl,t⟩:=az.one W;obtain⟨a,rfl,e⟩:=w5.inv_ref l;cases t;obtain⟨ws,F,r⟩:=ak.seq n L e;obtain⟨its,y,x,hz⟩:=I.list F;obtain⟨oa,nn,j,D,b,h⟩:=id x;have O:=r.length;have li:=y.length;rw[x6]at O;have f:H s.heap.objs.size=a8:=I.hok.fresh<|x9 _;have B:(s.heap.objs.size==d6)=bt:=beq_eq_false_iff_ne.mpr<|A7<|A8 I.big;refine Hk (A:=X.A) (ρ:=ρ) I (by lia) (I.ok.hd C) x.isList j b ps (by rw[C8];lia) (λi v J=>?_) (by rw[C8];lia) λh' Y xs N g=>?_;obtain⟨d,Z,t,l,m⟩:=oB r y (i:=i) (u:=v) (by simpa using J);rw[E1]at t;obtain⟨p,hp,rfl⟩:=MT.mp t;exact⟨p,hp,⟨Z,l,m⟩,E p<|K7 hp⟩;have dl:=og (ps:=ps);refine⟨.ref s.heap.objs.size,_,I.laid (a:=s.heap.objs.size) (o:=.ext<|dX s.heap.objs.size xs) (t':=Y) N (x9 _)<|mq g.dx,rfl,?_⟩;exact K _ _ ⟨.ref M.length,M++[.dkt<|dictOf ps],ρ++[s.heap.objs.size],n.laidM (mo:=.dkt<|dictOf ps) f ⟨ah (by lia),B,g.nd,xs,aJ,Paired.mapP g.kv λ_ _ ⟨P,S,T,v,U,V⟩=>⟨P,S,T.grow<|Grow.laidR f,v,U.grow<|Grow.laidR f,V⟩⟩,Grow.laidR f,.ref n.last,q⟩;exact q.elim
theorem Ar(i:Room k X.A)(f:X.calm=a9:=by kernel_rfl):HC X (.type "dict") iX:=⟨Ba i f⟩
end
noncomputable abbrev EE(M:v8)(R:DK):DEnds:=⟨λ_ M'=>aV M R .non M',aV M R,λ_ _=>False,λ_ _=>False⟩
noncomputable def Ra(n:Nat)(ds:List D):SD:=ds.map a7++NX (n-ds.length) a8
abbrev D9(Pr:B5)(n:Nat)(t:v7):Prop:=∀ds M R,Pr ds M R->t (EE M R) (Ra n ds) M
abbrev dz(Pr:B5)(p:List c5):Prop:=∀ds M R,Pr ds M R->ds.length=p.length
abbrev DerT(P:c7)(w:c6)(K:v9)(mg:c5->Option b7)(base:d5)(k:Nat)(x:c5)(N:List c5)(st:i5)(t:v7):Prop:=∀(f:c8) (cdv:b7) (A:e7) (outer:List Env) (s:e8) (H:Hp) (E:XK),Room k (A.deeper<|Rr x (av st) s.heap.objs.size f cdv)->HB (pL K9 P w K mg base N x (av st) f cdv A outer s H E).nox (bB st) t
theorem oF:typeLookup (.type "tuple") "keys" = pure a8:=by rw[Pt,PP];kernel_rfl
section
variable{prog:c7}{w:c6}{A:e7}{E:b7->e8->Prop}{h:d5}{g:Array GenState}{d:Drawn}{t:Nat}{os:OsState}{a:c8}{o:c9}
theorem BM(x:h.get? a=a7 o)(i:o.cls=.type "tuple")(b:o.dict=a8)(c:o.data=.seq its nn)(f:A.handled=a8)(q:∀h' tk e,Heap.NewAttrErr h h' e (.ref a) "keys"->R (.error<|.ref e) ⟨h',g,d,tk,os⟩):l7 (ge prog w) A (.call (.builtin "tuple.__getattribute__") ⟨[.ref a,.str "keys" u],[]⟩) R ⟨h,g,d,t,os⟩:=by
 obtain⟨j,k,B,G⟩:=o;obtain rfl:j=.type "tuple":=i;obtain rfl:k=a8:=b;obtain rfl:B=.seq its nn:=c;have m:(⟨h,g,d,t,os⟩:e8).TypeIs (.ref a) "tuple":=⟨_,x,rfl⟩
 have y:=oF;refine OT Q1.plain PySem.F.entry_tuple_ga<|Q1.check _ _ _ _ _ _ _ _ m (PySem.F.args_tuple_getattribute_2 _ _) ?_;unfold Builtin.«object.__getattribute__»
 repeat (any_goals (first|assumption|wp_step))
 refine wpAny_raiseAttrError (o:=.ref a) (name:="keys") (by first|exact f|simpa using f) q ?_;exact attrMsg_fits (by decide +kernel)<|by size_fits
theorem wW(x:h.get? a=a7 o)(k:o.cls=.type "tuple")(c:o.dict=a8)(f:o.data=.seq its nn)(j:A.handled=a8)(q:∀h' tk,(∀b ob,h.get? b=a7 ob->h'.get? b=a7 ob)->Q a8 ⟨h',g,d,tk,os⟩):f8 (ge prog w) A (getAttr? (.ref a) "keys") Q E ⟨h,g,d,t,os⟩:=by
 obtain⟨l,n,B,G⟩:=o;obtain rfl:l=.type "tuple":=k;obtain rfl:n=a8:=c;obtain rfl:B=.seq its nn:=f;have m:∀tk,(⟨h,g,d,tk,os⟩:e8).TypeIs (.ref a) "tuple":=λ_=>⟨_,x,rfl⟩
 have p:=sub_AttributeError;have N:=Q1.lookup;have r:=Q1.bind<|.ref a;have s:=PySem.am_tuple_getattr_none;unfold getAttr? getAttrBy? getAttrBy
 repeat (any_goals (first|assumption|exact m _|wp_step))
 refine BM x rfl rfl rfl (by first|exact j|simpa using j) λh' tk e i=>?_;obtain⟨t',u',u⟩:=i.there;unfold getattributeRaised
 repeat (any_goals (first|assumption|wp_step))
 exact q _ _ i.keeps
end
section
variable{X:Cx}{pins:List (c8×c9)}{σ:St}{H:Hp}{ρ:List c8}{M:v8}{A:e7}{E:b7->e8->Prop}{s:e8}
theorem v4.tupN(I:v4 X pins σ H s)(h:C5 X.K H a xs):∃its:List b7,az xs its/\Ed s.heap a its.toArray/\xs.length<=sizeLine:=by
 rcases h with h|⟨o,its,n,k,f,d,hs,b,r⟩
 obtain⟨z,its,r,p⟩:=h.ok I.hok;exact⟨its,r,p,z⟩;refine⟨its.toList,r,⟨o,I.kIn a o k,f,⟨n,by simpa using hs⟩,d⟩,?_⟩;have e:=r.length;simp only[G2]at e;lia
end
inductive TopB(mg:c5->Option b7):List c5->List (c5×Int)->Prop
 |nil:TopB mg [] []
 |b {x:c5}{B:List c5}{C:List (c5×Int)} (h:mg x=a8) (t:TopB mg B C):TopB mg (x::B) C
 |c {x:c5}{i:Int}{C:List (c5×Int)} (h:∃t,mg x=a7 (.int i t)) (t:TopB mg [] C):TopB mg [] ((x,i)::C)
theorem TopB.no(h:TopB mg B C)(c:B.contains x=a9):mg x=a8:=by
 induction h with
 |nil=>simp at c
 |b h _ i=>simp only[List.contains_cons,Bool.or_eq_true,u3]at c;rcases c with rfl|c;exact h;exact i c
 |c _ _ _=>simp at c
noncomputable def nodB:List c5->Bool
 | []=>a9
 |x::xs=>!xs.contains x&&nodB xs
theorem Jl:∀{l:List c5},nodB l=a9->l.Nodup
 | [],_=>Ol
 |x::xs,h=>by simp only[nodB,G7,Bool.not_eq_true',List.contains_eq_mem,decide_eq_false_iff_not]at h;exact LK.mpr ⟨h.1,Jl h.2⟩
noncomputable def tgN:f9->List c5
 |.Name x _=>[x]
 |.Tuple es _ _=>es.filterMap fun|.Name x _=>a7 x|_=>a8
 |_=>[]
noncomputable abbrev NR(N:List c5)(js:List Nat)(tg:f9):List c5:=tgN tg++js.map λj=>N.getD j ""
section
variable{X:Cx}{tg iter elt:f9}{ifs:List f9}{scope:f6}{nt i:Nat}{js:List Nat}{di:L8}{g:Ly}{tt:K0}{te:A0}{pos pos' pos2:i0}{x:c5}
theorem k_lcN(hi:HI X tg iter di)(R:∀cl s0 H0 ex,HG (D5 X (NR X.N js tg) scope cl s0 H0 ex) tg g)(D:∀cl s0 H0 ex,OA (D5 X (NR X.N js tg) scope cl s0 H0 ex) ifs tt)(i:∀cl s0 H0 ex,HE (D5 X (NR X.N js tg) scope cl s0 H0 ex) elt te)(B:om X.env.scope.names X.N (NR X.N js tg) nt js scope=a9:=by kernel_rfl) (f:X.calm=a9:=by kernel_rfl) (hs:∀x,j6 iter X.env x=pure x:=by intro _;kernel_rfl):HE X (.ListComp elt [⟨tg,iter,ifs,0⟩] scope pos) (LH nt js di g tt te):=k_lc hi R D i B f hs
theorem sF(a:X.N.Nodup)(hi:HI X tg iter di)(R:∀cl s0 H0 ex,HG (D5 X (NR X.N js tg) scope cl s0 H0 ex) tg g)(D:∀cl s0 H0 ex,OA (D5 X (NR X.N js tg) scope cl s0 H0 ex) ifs tt)(e:∀cl s0 H0 ex,HE (D5 X (NR X.N js tg) scope cl s0 H0 ex) elt te)(B:om X.env.scope.names X.N (NR X.N js tg) nt js scope=a9:=by kernel_rfl) (f:X.calm=a9:=by kernel_rfl) (hs:∀x,j6 iter X.env x=pure x:=by intro _;kernel_rfl) (w:i7 (.ListComp elt [⟨tg,iter,ifs,0⟩] scope pos) (a7<|.Name x pos') pos2.line X.env=pure a9:=by kernel_rfl)(h:X.N[i]?=a7 x:=by kernel_rfl) (c:FN X.env.scope x=a9:=by kernel_rfl) (b:X.fn x=a9:=by kernel_rfl):HS X (.Assign [.Name x pos'] (.ListComp elt [⟨tg,iter,ifs,0⟩] scope pos) pos2) (iL nt js di g tt te i):=CL a hi R D e B f hs w h c b
theorem gA(h:HA X es t):HA X es t:=h
theorem gE(h:HE X e te):HE X e te:=h
theorem gCall(h:HE X (.Call a b c pos) te):HE X (.Call a b c pos) te:=h
theorem gIx(h:HE X (.Subscript a b pos) te):HE X (.Subscript a b pos) te:=h
theorem Ko(h:HE X (.Constant a b pos) te):HE X (.Constant a b pos) te:=h
theorem gT(h:HT X e tt):HT X e tt:=h
theorem gS{st:i5}{t:v7}(h:HS X st t):HS X st t:=h
theorem gOp(h:H9 X f r):H9 X f r:=h
theorem gC(h:HC X f r):HC X f r:=h
theorem GD{b:List i5}{st:i5}{s:List i5}{t:v7}(h:b=st::s)(q:HB X (st::s) t):HB X b t:=h ▸ q
end
section
variable{P:c7}{w:c6}{K:v9}{mg:c5->Option b7}{base:d5}{x:c5}{st:i5}{N ps:List c5}{k:Nat}{Pr:B5}{B:List c5}{C:List (c5×Int)}{t:v7}
theorem z9.byD(T:TopB mg B C)(F:cy K mg x st ps)(e:FnScope N ps (av st))(n:dz Pr ps)(r:TopB mg B C->N.Nodup->DerT P w K mg base k x N st t)(p:∀ds M R,Pr ds M R->t (EE M R) (cc N ds) M):z9 P w K mg base (k+1) x ps Pr:=z9.byH F e n (r T e.nd) p
theorem Do(T:TopB mg B C)(F:MH K x x st f fd)(e:FnScope N ps (av st))(n:dz Pr ps)(r:TopB mg B C->N.Nodup->DerT P w K mg base k x N st t)(p:∀ds M R,Pr ds M R->t (EE M R) (cc N ds) M):FnOk P w K mg base K9 (k+1) f fd ps (Mr K Pr):=Dm F e n (r T e.nd) p
end
section
variable{X:Cx}{pins:List (c8×c9)}{σ:St}{H:Hp}{s:e8}{a:c8}
structure RP(X:Cx)(pins:List (c8×c9))(H:Hp)(a:c8):Prop where
 un:H a=a8
 ne:a≠X.env.locals
 fs:a∉X.fs
 s0:X.s₀.heap.objs.size<=a
 cl:∀x c,X.env.cells.lookup x=a7 c->c≠a
 pn:∀p∈X.pn++pins,p.1≠a
end
section
variable{X:Cx}{pins:List (c8×c9)}{σ:St}{ρ:List c8}{M:v8}
structure KySt(X:Cx)(pins:List (c8×c9))(σ:St)(ρ:List c8)(M:v8)(m:c5->Option b7)(kS aD:c8)(e1:Nat)(H0 H:Hp)(s:e8)(ks:List b7)(e:Nat):Prop where
 inv:v4 X pins σ H s
 ns:s.heap.Ns X.env.locals m
 sm:z6 X.K ρ M H
 gr:Grow X.K ρ H0 ρ H
 hk:s.heap.get? kS=a7 (o6 "list" (Pj ks) e)
 hd:s.heap.get? aD=a7 (o6 "list" #[] e1)
 ok:RP X pins H kS
 od:RP X pins H aD
 ne:aD≠kS
end
structure BlkScC(X:Cx)(N':List c5)(nt:Nat)(js:List Nat)(scope:f6):Prop where
 kind:scope.kind=.function
 kinds:∀y∈scope.names,scope.names.lookup y.1=a7 y.2
 free:∀y∈scope.names,y.2=.free->(X.env.kindOf y.1=a7 .cell\/X.env.kindOf y.1=a7 .free)
 len:N'.length=nt+js.length
 fr:∀(k j:Nat),js[k]?=a7 j->∃x,N'[nt+k]?=a7 x/\X.N[j]?=a7 x/\scope.names.lookup x=a7 .free/\(X.env.kindOf x=a7 .cell\/X.env.kindOf x=a7 .free)
structure CfOk(h:d5)(k:Nat)(names:List (c5×m5))(acc cs:List (c5×c8)):Prop where
 look:∀z c,cs.lookup z=a7 c->(acc.lookup z=a7 c/\(z,NV)∉names)\/((z,NV)∈names/\k<=c/\h.IsCell c a8)
 inj:∀y z c,cs.lookup y=a7 c->cs.lookup z=a7 c->y=z
 old:∀z c,acc.lookup z=a7 c->∃c',cs.lookup z=a7 c'
 new:∀z,(z,NV)∈names->∃c,cs.lookup z=a7 c
def GV(i:Nat):Ly:=af i
noncomputable def GW(kvs:List (D×D))(k:D):List (D×D):=kvs.filter λp=>!decide (p.1=k)
def pW(M:v8)(n:Nat)(kvs:List (D×D)):Prop:=M[n]?=a7 (.dkt kvs)\/∃e,M[n]?=a7 (.dkq e kvs)
theorem jN{α:Type}(f:α->D)(k:D):∀(l:List α) (j:Nat) (x:α),(l.map f).Nodup->l[j]?=a7 x->f x=k->l.eraseIdx j=l.filter λy=>!decide (f y=k)
 | [],j,x,_,h,_=>by simp at h
 |y::l,0,x,nd,h,e=>by
  obtain rfl:y=x:=by simpa using h
  rw[D7,LK]at nd;rw[List.eraseIdx_cons_zero,Nf,t7<|by rw[e];simp];refine(Rs.mpr λz hz=>?_).symm;have:f z≠k:=λq=>nd.1 (by rw[e,<-q];exact MS hz);simp[this]
 |y::l,j+1,x,nd,h,e=>by
  rw[D7,LK]at nd;have hx:l[j]?=a7 x:=by simpa using h
  have:f y≠k:=λq=>nd.1 (by rw[q,<-e];exact MS<|K7 hx);rw[RC,Nf,t6 (by simp[this]),jN f k l j x nd.2 hx e]
theorem rU{α β:Type}(f:α->β):∀(l:List α) (j:Nat),(l.eraseIdx j).map f=(l.map f).eraseIdx j
 | [],_=>rfl
 |_::_,0=>rfl
 |x::l,j+1=>by rw[RC,D7,D7,RC,rU f l j]
theorem uL{α:Type}(f:α->D)(k:D)(l:List α)(h:∀x∈l,f x≠k):l.filter (λy=>!decide (f y=k))=l:=Rs.mpr λz b=>by simp[h z b]
theorem oQ{α β:Type}{R:α->β->Prop}{p:α->Bool}{q:β->Bool}{xs:List α}{ys:List β}(r:Paired R xs ys)(h:∀x y,R x y->p x=q y):Paired R (xs.filter p) (ys.filter q):=by
 induction r with
 |nil=>exact .nil
 |@cons x y xs ys h1 t i=>rw[Nf,Nf,h _ _ h1];cases q y;exact i;exact .cons h1 i
section
variable{prog:c7}{w:c6}{A:e7}{E:b7->e8->Prop}{s:e8}{d b:c8}{k:D}{xs:List (D×c8×b7)}{e:Nat}
theorem takeE(u:(aU prog w).room A)(t:(aU prog w).is s.heap k b)(q:s.heap.DictOfH (aU prog w) d xs) (x:dQ d e xs prog w s.heap) (hz:xs.length<=sizeLine)(a:(∀(j:Nat) (p:c8×b7),xs[j]?≠a7 (k,p))->Q a8 { s with toks:=s.toks+(aU prog w).draws k })(c:∀(j:Nat) (p:c8×b7),xs[j]?=a7 (k,p)->∀h',dQ d (e+1) (xs.eraseIdx j) prog w h'->J3 d s.heap h'->Q (a7 ⟨C1 w 8 k,.ref p.1,p.2⟩) { s with heap:=h',toks:=s.toks+(aU prog w).draws k }):f8 (ge prog w) A (Builtin.Dict.takeOut d<|.ref b) Q E s:=by
 obtain⟨_,_,_,_,_,_,_,g,r⟩:=q;obtain⟨o,es,B,n,f,h⟩:=x;have m:es.toList=xs.map (d7<|aU prog w):=h;have v:es.size=xs.length:=size_of_entries m;unfold Builtin.Dict.takeOut
 try with_reducible refine F8 ?_
 refine u8<|(aU prog w).pyHash u t ?_;refine u8<|wpAny_dictFind_heap (s:={ s with toks:=s.toks+(aU prog w).draws k }) u t B f m g r (λi=>v5<|a i) λj p L=>?_;refine u8<|N3 (s:={ s with toks:=s.toks+(aU prog w).draws k }) B f ?_;have z:es[j]?=a7 ⟨C1 w 8 k,.ref p.1,p.2⟩:=by rw[<-J5,h,E1,L];rfl
 rw[z];refine u8<|wpAny_updateDictKeys (hz:=by lia) (s:={ s with toks:=s.toks+(aU prog w).draws k }) B f<|v5<|c j p L _ ⟨_,es.eraseIdxIfInBounds j,LO _ B<|PJ<|OS f _,n.mapDictKeys _,OS f _,?_⟩<|LN ..;have:(es.eraseIdxIfInBounds j).toList=es.toList.eraseIdx j:=by obtain⟨l⟩:=es;simp
 rw[this,h];exact(rU _ _ _).symm
theorem xp(a b:c8)(hs:(a==d6)=bt)(d:b7):MeetsIn prog w (Builtin.«dict.pop» ⟨[.ref a,.ref b,d],[]⟩) (λA R s=>(aU prog w).room A.in1/\∃k xs e,(aU prog w).is s.heap k b/\s.heap.DictOfH (aU prog w) a xs/\dQ a e xs prog w s.heap/\xs.length<=sizeLine /\ ((∀(j:Nat) (p:c8×b7),xs[j]?≠a7 (k,p))->∀t,s.toks<=t->R (.ok<|.ret d) { s with toks:=t }) /\∀(j:Nat) (p:c8×b7),xs[j]?=a7 (k,p)->∀h',dQ a (e+1) (xs.eraseIdx j) prog w h'->J3 a s.heap h'->R (.ok<|.ret p.2) { s with heap:=h',toks:=s.toks+(aU prog w).draws k }):=.of_wp λA R s ⟨u,k,xs,e,c,f,x,z,h1,h2⟩=>by
  obtain⟨o,es,B,n,g,i⟩:=id x;unfold Builtin.«dict.pop»;refine u8 ?_;unfold Builtin.Dict.keyAndDefault;refine u8<|OU f.typeIs ?_;show f8 _ _ (pure (a,F6 b,a7 d)) _ _ s;refine v5 ?_;have hp:(keyPart<|F6 b).isSome=bt:=rfl;simp only[hp,C4,u4];refine u8<|N3 B g<|u8<|v5 ?_;cases m:es.isEmpty;simp only[C4,u4];refine u8<|takeE u c f x z (λh=>?_) λj p L h' q U=>?_;simp only[Option.isNone_none,u5];unfold RV;simp only[hs,C4,u4];exact u8<|v5<|u8<|Lz<|v5 ⟨d,rfl,h1 h _<|Px _ _⟩;simp only[Option.isNone_some,C4,u4];exact u8<|wpAny_letGo<|v5 ⟨p.2,rfl,h2 j p L h' q U⟩;simp only[u5];have h:∀(j:Nat) (p:c8×b7),xs[j]?≠a7 (k,p):=by
   intro j p L;have:es.toList=[]:=by
    obtain⟨l⟩:=es;cases l with
    |nil=>rfl
    |cons _ _=>cases m
   rw[i]at this;rw[List.map_eq_nil_iff.mp this]at L;simp at L
  refine u8<|Lz<|u8<|v5 ?_;simp only[Option.isNone_none,u5];unfold RV;simp only[hs,C4,u4];exact u8<|v5<|u8<|Lz<|v5 ⟨d,rfl,h1 h _<|x9 _⟩
end
section
variable{K:v9}{ρ:List c8}{H:Hp}{M:v8}{kvs:List (D×D)}{xs:List (D×c8×b7)}
theorem z6.writeQ(S:z6 K ρ M H)(t:ρ[n]?=a7 a)(s:pW M n kvs)(u:H a=a7 (.ext<|dQ a e xs))(w:kvs'.length<=sizeLine)(hs:(a==d6)=bt)(X:(kvs'.map (·.1)).Nodup)(r:Paired (oo K ρ H) kvs' xs'):z6 K ρ (M.set n<|.dkq e' kvs') (A2 H a<|.ext<|dQ a e' xs')/\Grow K ρ H ρ (A2 H a<|.ext<|dQ a e' xs'):=by
 have g:Grow K ρ H ρ (A2 H a<|.ext<|dQ a e' xs'):=⟨Nd,λ_ _ h=>C5.writtenX u h⟩
 have k:∀m,m≠n->(M.set n<|.dkq e' kvs')[m]?=M[m]?:=λm d=>LU<|A7 d;have c:¬LY M[n]?:=λ⟨_,z⟩=>by rcases s with s|⟨_,s⟩<;>(rw[s]at z;cases z)
 refine⟨⟨λm l b i f N=>?_,by rw[Nv];exact S.len,λm b o f N=>?_⟩,g⟩;have q:=S.nd m l b i f N;by_cases h1:m=n;subst h1;rw[k l<|A7 i];exact .inr<|q.resolve_left c;rw[k m h1];by_cases h2:l=n;subst h2;exact .inl<|q.resolve_right c;rw[k l h2];exact q;by_cases d:m=n;subst d;have j:b=a:=D0<|f.symm.trans t;subst j;rw[L7<|by rw[<-S.len];exact(B6.mp t).1]at N;cases N;refine⟨w,hs,X,xs',aJ,Paired.mapP r ?_⟩;rintro _ _ ⟨x,y,A,v,G,B⟩;exact⟨x,y,A.grow g,v,G.grow g,B⟩;rw[k m d]at N;by_cases j:b=a;subst j;have p:=(S.nd m n b d f t).resolve_right c;rw[N]at p;exact(S.obj m b o f N).grow g<|.inr p;exact(S.obj m b o f N).grow g<|.inl<|au j
theorem z6.asQ(S:z6 K ρ M H)(t:ρ[n]?=a7 a)(s:pW M n kvs):∃e,z6 K ρ (M.set n<|.dkq e kvs) H:=by
 have o:n<M.length:=by rw[<-S.len];exact(B6.mp t).1
 obtain⟨e,l⟩:∃e,kvs.length<=sizeLine/\(a==d6)=bt/\(kvs.map (·.1)).Nodup/\∃xs,H a=a7 (.ext<|dQ a e xs)/\Paired (oo K ρ H) kvs xs:=by
  rcases s with s|⟨e,s⟩
  obtain⟨h1,h2,i,xs,j,r⟩:=S.obj _ _ _ t s;exact⟨xs.length,h1,h2,i,xs,j,r⟩;exact⟨e,S.obj _ _ _ t s⟩
 have k:∀m,m≠n->(M.set n<|.dkq e kvs)[m]?=M[m]?:=λm d=>LU<|A7 d;have c:¬LY M[n]?:=λ⟨_,z⟩=>by rcases s with s|⟨_,s⟩<;>(rw[s]at z;cases z)
 refine⟨e,λm g b h f N=>?_,by rw[Nv];exact S.len,λm b p f N=>?_⟩;have q:=S.nd m g b h f N;by_cases h1:m=n;subst h1;rw[k g<|A7 h];exact .inr<|q.resolve_left c;rw[k m h1];by_cases h2:g=n;subst h2;exact .inl<|q.resolve_right c;rw[k g h2];exact q;by_cases d:m=n;subst d;rw[L7 o]at N;cases N;obtain rfl:b=a:=D0<|f.symm.trans t;exact l;rw[k m d]at N;exact S.obj m b p f N
end
section
variable{X:Cx}{pins:List (c8×c9)}{σ:St}{H:Hp}{s:e8}{ρ:List c8}{M:v8}
theorem wv(I:v4 X pins σ H s)(m:z6 X.K ρ M H)(e:ρ[n]?=a7 a)(h:pW M n kvs):∃xs ep,H a=a7 (.ext<|dQ a ep xs)/\Paired (oo X.K ρ H) kvs xs/\s.heap.DictOfH (aU X.prog X.w) a xs/\(a==d6)=bt/\kvs.length<=sizeLine/\xs.length=kvs.length/\(kvs.map (·.1)).Nodup:=by
 rcases h with h|⟨ep,h⟩
 obtain⟨xs,b,r⟩:=gL I m e h;exact⟨xs,xs.length,b,r⟩;obtain⟨h1,h2,c,xs,b,r⟩:=m.obj _ _ _ e h;obtain⟨⟨o,es,t,l,Q,J⟩,_⟩:=(show bx X.prog X.w H s.heap a (.ext<|dQ a ep xs)from I.hok a _ b)
 have Z:=eI r;refine⟨xs,ep,b,r,⟨o,es,_,t,l,Q,J,λx d=>?_,by rw[Z];exact c⟩,h2,h1,?_,c⟩;obtain⟨i,hi⟩:=Mg d;obtain⟨p,_,q,g,j,_⟩:=cU r hi;rw[<-q];exact cA I 8 _ _ _ j rfl g;have:=u6 Ma Z
 rwa [x6,x6]at this
theorem Dq(d:dQ a e xs P w h'):bx P w H' h' a (.ext<|dQ a e xs):=by obtain⟨o,es,t,l,Q,J⟩:=d;refine⟨⟨o,es,t,l,Q,J⟩,⟨o,t⟩,?_⟩;rintro h1 h2 ⟨o,es,t,l,Q,J⟩ k;exact⟨o,es,k _ t,l,Q,J⟩
theorem KK(I:v4 X pins σ H s)(h:H a=a7 (.ext<|dQ a e xs)):dQ a e xs X.prog X.w s.heap:=(show bx X.prog X.w H s.heap a (.ext<|dQ a e xs)from I.hok a _ h).1
end
section
variable{X:Cx}{o:f9}{pos:i0}{k:Nat}{name:c5}{id:String}{e:f9}{es:List f9}{to:A0}{t:G1}{apos cpos:i0}
def Rb(r:Nat->F7)(d:A0)(t:G1):A0:=λS M Q=>d S M λx a=>match x with
 |.ref n=>(∃kvs,pW a n kvs)/\t S a λds M2=>r n ds M2 Q
 |_=>False
theorem d_mq(slot:Slot "dict" name id)(y:m9 (.builtin id)=pure (.type "method_descriptor"))(P:Mt X id (pf X.K r))(T:DE X o to)(O:DA X (e::es) t)(c:n0 o name X.env (eval o X.env)=eval o X.env:=by rfl)(f:((i3 cpos<|i4 (e::es) X.env).all (λx=>!x.1)&&(n5 cpos<|n6 [] X.env).all (λx=>x.1.isSome) && decide ((e::es).length+([]:List m3).length+(if ([]:List m3).isEmpty then 0 else 1)<30))=a9:=by rfl)(d:(apos.endLine==cpos.line)=a9:=by rfl) (hs:i4 (e::es) X.env=(bt,eval e X.env)::i4 es X.env:=by rfl) (h:(i3 cpos<|i4 es X.env).any (·.1)=bt:=by rfl):DE X (.Call (.Attribute o name apos) (e::es) [] cpos) (Rb r to t):=by
 rintro p s σ H R I ⟨S,M,ρ,Q,sm,G,q,V⟩;refine QM c f d rfl<|A1 (T p s σ H _ I ⟨S,M,ρ,_,sm,G,q,λv H' z=>z⟩) ?_;rintro u s1 ⟨v,H1,B,rv,x,i,m,j,g1,Z,g⟩;cases Z with
 |@ref n a F =>
  cases rv;obtain⟨⟨kvs,N⟩,g⟩:=(show (∃kvs,pW i n kvs)/\t S i _ from g)
  obtain⟨xs,ep,hH,r,C,U,hl,hx,nd⟩:=wv B j F N;refine⟨"dict",id,QO,slot,y,C.typeIs,λb z=>?_,?_⟩;cases z;obtain⟨W,_,_,h1,h2,_⟩:=C;exact⟨W,h1,h2.2.1⟩;have E:=O cpos p s1 σ H1 _ B ⟨S,i,m,_,j,G.grow g1,g,λvs H' z=>z⟩;rw[hs]at E ⊢;refine PR (by show (bt||(i3 cpos<|i4 es X.env).any (·.1))=bt;rw[h]<;>rfl)<|PN ?_;refine A1 E ?_;rintro us s2 ⟨vs,J,L,k,ds,M2,A,l,D,rr,Y⟩;exact P p s2 σ J (.ref a) vs (.ref a) us R L rfl k ⟨n,a,ds,M2,A,Q,rfl,ap D.pre F,l,rr,Y,λv H' w=>V v H'<|VQ.trans (g1.trans D) w⟩
 |_=>exact g.elim
def Cb(n:Nat):F7:=λds M Q=>match ds with
 | [.tup ks,d]=>∃kvs,pW M n kvs/\cz 8 (.tup ks)=a9/\∀e,Q ((aI kvs<|.tup ks).getD d)<|M.set n<|.dkq e<|GW kvs<|.tup ks
 |_=>False
theorem FK(hr:Room k X.A):Mt X "dict.pop" (pf X.K Cb):=by
 rintro S s σ H x xs v us R I rx rs ⟨n,a,ds,M,ρ,Q,Z,o,G,c,q,O⟩;have un:=hr.un;unfold Cb at q;split at q;rename_i ks d;obtain⟨kvs,i,kd,q⟩:=q;have z:=Reps.inv_cons c;clear c;obtain⟨_,_,rfl,r1,c⟩:=z;have z:=Reps.inv_cons c;clear c;obtain⟨_,_,rfl,r2,c⟩:=z;obtain rfl:=Reps.inv_nil c;obtain⟨u1,u2,rfl,W,Y⟩:=az.two rs;subst Z;cases rx;obtain⟨ys,N,g,r,J,T,hl,hx,P⟩:=wv I G o i;have f:=cA I 8 _ _ _ r1 W kd;obtain⟨b,_,rfl,_⟩:=id f;have C:(ys.map (·.1)).Nodup:=by rw[eI r];exact P
 refine call_meetsIn PySem.F.slot_dict_pop J.typeIs PySem.F.entry_dict_pop (PySem.F.args_dict_pop_3 _ _ _) (xp a b T u2) ⟨by show X.A.units+1+8<k7;lia,.tup ks,ys,N,f,J,KK I g,by lia,λu t ht=>?_,λj p L h' U sb=>?_⟩;have h:∀x∈kvs,x.1≠D.tup ks:=by
  intro x m w;have l:D.tup ks∈ys.map (·.1):=by rw[eI r,<-w];exact MS m
  obtain⟨y,hy,E⟩:=A6.mp l;obtain⟨j,L⟩:=Mg hy;exact u j y.2<|by rw[L,<-E]
 have hg:aI kvs (.tup ks)=a8:=by unfold aI;rw[OR.mpr λx m=>by simp[h x m]];rfl
 rw[hg,show GW kvs (.tup ks)=kvs from uL _ _ _ h]at q;obtain⟨e,sq⟩:=G.asQ o i;exact⟨_,H,I.tok _,Y,O _ _ ⟨d,_,ρ,sq,.refl,r2,q e⟩⟩;rcases mi r (.tup ks)with⟨z1,z2⟩|⟨d',p',v',z1,z2,z3,z4⟩
 rw[OG C L]at z2;cases z2;rw[OG C L]at z2;cases z2;rw[z1]at q;have re:Paired (oo X.K ρ H) (GW kvs<|.tup ks) (ys.eraseIdx j):=by rw[jN (·.1) (.tup ks) ys j _ C L rfl];exact oQ r λx y B=>by rw[B.1]
 obtain⟨w1,V⟩:=G.writeQ (e':=N+1) o i g (K3 (Nx _ _) hl) T (P.sublist<|List.Sublist.map _ N7) re;have he:∃q,h'.get? a=a7 q:=let ⟨q,_,hq,_⟩:=U;⟨q,hq⟩
 exact⟨v',_,mw I (by rw[g];exact M7) sb he<|Dq U,z4,O _ _ ⟨d',_,ρ,w1,V,z3.grow V,q _⟩⟩;exact q.elim
theorem JN(i:Room k X.A)(B:HE X o to)(f:HA X (e::es) t)(b:n0 o "pop" X.env (eval o X.env)=eval o X.env:=by kernel_rfl)(w:((i3 cpos<|i4 (e::es) X.env).all (λx=>!x.1)&&(n5 cpos<|n6 [] X.env).all (λx=>x.1.isSome) && decide ((e::es).length+([]:List m3).length+(if ([]:List m3).isEmpty then 0 else 1)<30))=a9:=by kernel_rfl)(c:(apos.endLine==cpos.line)=a9:=by kernel_rfl) (hs:i4 (e::es) X.env=(bt,eval e X.env)::i4 es X.env:=by kernel_rfl) (n:(i3 cpos<|i4 es X.env).any (·.1)=bt:=by kernel_rfl):HE X (.Call (.Attribute o "pop" apos) (e::es) [] cpos) (Rb Cb to t):=⟨d_mq PySem.F.slot_dict_pop PySem.F.type_dict_pop (FK i) B.ok f.ok b w c hs n⟩
end
section
variable{X:Cx}{o i ke ve:f9}{td ty tk tv:A0}{pos:i0}{k:Nat}
def AS(tk t:A0):A0:=λS M Q=>tk S (M++[.dkt []]) λx a=>t S a λy M2=>match x with
 |.tup ks=>M2[M.length]?=a7 (.dkt [])/\cz 8 (.tup ks)=a9/\Q (.ref M.length) (M2.set M.length<|.dkt [(.tup ks,y)])
 |_=>False
theorem Ha(hr:Room k X.A)(hk:DE X ke tk)(hv:DE X ve tv):DE X (.Dict [a7 ke] [ve] pos) (AS tk tv):=by
 rintro p s σ H R I ⟨S,M,ρ,Q,V,W,q,kk⟩;have un:=hr.un;have l:H s.heap.objs.size=a8:=I.hok.fresh<|x9 _;have N:(s.heap.objs.size==d6)=bt:=beq_eq_false_iff_ne.mpr<|A7<|A8 I.big;refine wpAny_Dict_any rfl rfl (by simp) (by simp) ?_;have Y:v4 X p σ (A2 H s.heap.objs.size<|.ext<|dX s.heap.objs.size []) { s with heap:=s.heap.push { cls:=.type "dict",data:=.dict #[] } }:=I.laid (a:=s.heap.objs.size) (o:=.ext<|dX s.heap.objs.size []) (t':=s.toks) (λ_ _ q=>A3 _ q) (x9 _)<|mq ⟨_,#[],C7 _ rfl,⟨rfl,rfl,rfl⟩,rfl,rfl⟩;have C:z6 X.K (ρ++[s.heap.objs.size]) (M++[.dkt []]) (A2 H s.heap.objs.size<|.ext<|dX s.heap.objs.size []):=V.laidM (mo:=.dkt []) l ⟨D6 _,N,Ol,[],aJ,.nil⟩;have h:Grow X.K ρ H (ρ++[s.heap.objs.size]) (A2 H s.heap.objs.size<|.ext<|dX s.heap.objs.size []):=Grow.laidR l;have m:(ρ++[s.heap.objs.size])[M.length]?=a7 s.heap.objs.size:=V.last;generalize hA:s.heap.objs.size=a at *;clear hA l N;refine evalPairs_cons<|A1 (hk p _ σ _ _ Y ⟨S,_,_,_,C,W.grow h,q,λv H' z=>z⟩) ?_;rintro u s1 ⟨v,H1,Z,U,x,M1,F,E,g1,r1,q1⟩;refine u8<|A1 (hv p s1 σ H1 _ Z ⟨S,M1,F,_,E,(W.grow h).grow g1,q1,λv H' z=>z⟩) ?_;rintro u2 s2 ⟨v2,G,g,w,y,M2,d,f,i,r2,P⟩;refine u8<|wpAny_standAt<|v5 ?_;refine evalPairs_nil ?_;cases x with
 |tup ks =>
  obtain⟨L,O,q3⟩:=P;have t:=ap i.pre<|ap g1.pre m;obtain⟨xs,j,r,dd,T,hl,hx,nd⟩:=gL g f t L;cases r;have B:=r1.grow i;have e:=cA g 8 _ _ _ B U O;obtain⟨b,_,rfl,_⟩:=id e;have rk:w5 X.K d G (.tup ks) (.ref b):=by
   obtain⟨J,rfl⟩:∃J,v=.ref J:=by cases B<;>exact⟨_,rfl⟩
   cases U;exact B
  have r':Paired (oo X.K d G) [(D.tup ks,y)] [(D.tup ks,b,u2)]:=.cons ⟨rfl,O,rk,v2,r2,w⟩ .nil;obtain⟨w1,w2⟩:=f.writeT t L j (by rw[Mh];show 1<=16777216;lia) T (by simp) r';unfold storeAll;rw[Pu];refine u8<|u8<|KB (k:=.tup ks) (by show X.A.units+8<k7;lia) e dd (AF g j) (by lia) λh' c n=>v5 ?_;refine(show f8 _ _ (forIn [] PUnit.unit _) _ _ _ from ?_);rw[List.forIn_nil];refine v5 ?_;have he:∃q,h'.get? a=a7 q:=let ⟨q,_,hq,_⟩:=c;⟨q,hq⟩
  exact⟨.ref a,_,mw g (by rw[j];exact M7) n he<|mq c,rfl,kk _ _ ⟨.ref M.length,_,d,w1,((h.trans g1).trans i).trans w2,.ref t,q3⟩⟩
 |_=>exact P.elim
theorem pI(I:v4 X pins σ H s)(b:H a=a7 (.ext<|dQ a ep xs)):∃es,dh s.heap a es ep/\es.size=xs.length/\∀(i:Nat) x,xs[i]?=a7 x->∃e,es[i]?=a7 e/\e.key=.ref x.2.1/\e.val=x.2.2:=by
 obtain⟨o,es,h1,h2,h,d⟩:=KK I b;refine⟨es,⟨o,h1,h2,h⟩,?_,λi x c=>?_⟩;have:=u6 Ma d
 rwa [G2,x6]at this
 refine⟨⟨C1 X.w 8 x.1,.ref x.2.1,x.2.2⟩,?_,rfl,rfl⟩;rw[<-J5,d,E1,c];rfl
end
section
variable{X:Cx}{k:Nat}{o i:f9}{td ty tk tv:A0}{pos:i0}{ke ve:f9}
theorem Gn(i:Room k X.A)(h:HE X ke tk)(c:HE X ve tv):HE X (.Dict [a7 ke] [ve] pos) (AS tk tv):=⟨Ha i h.ok c.ok⟩
end
noncomputable def offD(kvs:List (c5×D))(k:c5):List (c5×D):=kvs.filter λp=>!decide (p.1=k)
section
variable{K:v9}{ρ:List c8}{H:Hp}
theorem qh:∀{kvs:List (c5×D)}{vs:List V},Reps K ρ H (kvs.map (·.2)) vs->dD kvs k=a8->vk (eW (kvs.map (·.1)) vs) (ABd k)=a8
 | [],_,_,_=>by rfl
 |(k',d')::kvs,_,.cons (v:=v) (vs:=vs) h t,e=>by
  have hk:k'≠k:=λz=>by subst z;simp[dD]at e
  have e':dD kvs k=a8:=by
   have:dD ((k',d')::kvs) k=dD kvs k:=by simp[dD,hk]
   rw[<-this];exact e
  have q:=qh t e';show vk ((ABd k',v)::eW (kvs.map (·.1)) vs) (ABd k)=a8;rw[oE<|λz=>hk<|by injection z];exact q
end
section
variable{X:Cx}{o:f9}{pos:i0}{k:Nat}{name:c5}{id:String}{e:f9}{es:List f9}{to:A0}{t:G1}{apos cpos:i0}
def O8(r:Nat->F7)(d:A0)(t:G1):A0:=λS M Q=>d S M λx a=>match x with
 |.ref n=>(∃kvs,a[n]?=a7 (.dct kvs))/\t S a λds M2=>r n ds M2 Q
 |_=>False
theorem d_mk(slot:Slot "dict" name id)(y:m9 (.builtin id)=pure (.type "method_descriptor"))(T:Mt X id (pf X.K r))(U:DE X o to)(P:DA X (e::es) t)(c:n0 o name X.env (eval o X.env)=eval o X.env:=by rfl)(f:((i3 cpos<|i4 (e::es) X.env).all (λx=>!x.1)&&(n5 cpos<|n6 [] X.env).all (λx=>x.1.isSome) && decide ((e::es).length+([]:List m3).length+(if ([]:List m3).isEmpty then 0 else 1)<30))=a9:=by rfl)(d:(apos.endLine==cpos.line)=a9:=by rfl) (hs:i4 (e::es) X.env=(bt,eval e X.env)::i4 es X.env:=by rfl) (h:(i3 cpos<|i4 es X.env).any (·.1)=bt:=by rfl):DE X (.Call (.Attribute o name apos) (e::es) [] cpos) (O8 r to t):=by
 rintro p s σ H R I ⟨S,M,ρ,Q,sm,G,q,V⟩;refine QM c f d rfl<|A1 (U p s σ H _ I ⟨S,M,ρ,_,sm,G,q,λv H' z=>z⟩) ?_;rintro u s1 ⟨v,H1,B,rv,x,i,m,j,g1,r1,g⟩;cases r1 with
 |@ref n a F =>
  cases rv;obtain⟨⟨kvs,O⟩,g⟩:=(show (∃kvs,i[n]?=a7 (.dct kvs))/\t S i _ from g)
  obtain⟨ws,N,_⟩:=j.obj _ _ _ F O;obtain⟨z1,z2,Y,ab,C⟩:=GT B.hok N;refine⟨"dict",id,QO,slot,y,C.typeIs,λb z=>?_,?_⟩;cases z;obtain⟨W,_,_,h1,h2,_⟩:=C;exact⟨W,h1,h2.2.1⟩;have E:=P cpos p s1 σ H1 _ B ⟨S,i,m,_,j,G.grow g1,g,λvs H' z=>z⟩;rw[hs]at E ⊢;refine PR (by show (bt||(i3 cpos<|i4 es X.env).any (·.1))=bt;rw[h]<;>rfl)<|PN ?_;refine A1 E ?_;rintro us s2 ⟨vs,J,L,k,ds,M2,A,l,D,rr,Z⟩;exact T p s2 σ J (.ref a) vs (.ref a) us R L rfl k ⟨n,a,ds,M2,A,Q,rfl,ap D.pre F,l,rr,Z,λv H' w=>V v H'<|VQ.trans (g1.trans D) w⟩
 |_=>exact g.elim
def rL(n:Nat):F7:=λds M Q=>match ds with
 | [.str x,d]=>∃kvs,M[n]?=a7 (.dct kvs)/\kvs.length<sizeLine/\(∀y,dD kvs x=a7 y->Q y M)/\(dD kvs x=a8->Q d (M.set n<|.dct<|lG kvs x d))
 |_=>False
theorem CA:Mt X "dict.setdefault" (pf X.K rL):=by
 rintro B s σ H x xs v us R I rx rs ⟨n,a,ds,M,ρ,Q,N,A,o,b,q,D⟩;unfold rL at q;split at q;rename_i x d;obtain⟨kvs,y,hl,V,W⟩:=q;have z:=Reps.inv_cons b;clear b;obtain⟨_,_,rfl,Z,b⟩:=z;have z:=Reps.inv_cons b;clear b;obtain⟨_,vd,rfl,C,b⟩:=z;obtain rfl:=Reps.inv_nil b;obtain rfl:=w5.inv_str Z;obtain⟨u1,G,rfl,L,u⟩:=az.two rs;subst N;obtain rfl:v=F6 a:=rx;obtain⟨ws,j,r⟩:=o.obj _ _ _ A y;obtain⟨z1,J,Y,l,t⟩:=GT I.hok j;refine call_meetsIn PySem.F.slot_dict_setdefault t.typeIs PySem.F.entry_dict_setdefault (PySem.F.args_dict_setdefault_3 _ _ _) (kt_meets_setdefault (bJ X.prog X.w) a (CW (k:=ABd x) L) J G) ⟨Y,t,by rw[<-l.length];exact z1,λw' h=>?_,λh h' e sb=>?_⟩;cases c:dD kvs x with
 |none=>have:=l.val<|ABd x;rw[qh r c,h]at this;exact this.elim
 |some p=>obtain⟨w0,i,f⟩:=ij r c;have:=l.val<|ABd x;rw[i,h]at this;exact⟨_,H,I.tok _,this,D _ _ ⟨p,M,ρ,o,.refl,f,V _ c⟩⟩
 cases c:dD kvs x with
 |some p=>obtain⟨w0,i,f⟩:=ij r c;have:=l.val<|ABd x;rw[i,h]at this;exact this.elim
 |none =>
  obtain⟨g,P,O⟩:=ze (k:=x) C r;obtain⟨w1,E⟩:=o.writeD A y j O;have S:∃q,h'.get? a=a7 q:=let ⟨q,_,_,hq,_⟩:=e;⟨q,hq⟩
  have lw:=r.length;have m:KV (eW ((lG kvs x d).map (·.1)) g) (stored Y (ABd x) G):=by rw[<-P];exact l.put (ABd x) u
  have U:(eW ((lG kvs x d).map (·.1)) g).length<=sizeLine:=by
   have T:=O.length;have l2:(lG kvs x d).length<=kvs.length+1:=by unfold lG;split<;>simp
   rw[x6]at T;rw[eW,x6,Ql,x6];lia
  exact⟨_,_,mw I (by rw[j];exact M7) sb S<|AH U J m e,u,D _ _ ⟨d,_,ρ,w1,E,C.grow E,W c⟩⟩
 exact q.elim
theorem Gp(B:HE X o to)(f:HA X (e::es) t)(b:n0 o "setdefault" X.env (eval o X.env)=eval o X.env:=by kernel_rfl)(w:((i3 cpos<|i4 (e::es) X.env).all (λx=>!x.1)&&(n5 cpos<|n6 [] X.env).all (λx=>x.1.isSome) && decide ((e::es).length+([]:List m3).length+(if ([]:List m3).isEmpty then 0 else 1)<30))=a9:=by kernel_rfl)(c:(apos.endLine==cpos.line)=a9:=by kernel_rfl) (hs:i4 (e::es) X.env=(bt,eval e X.env)::i4 es X.env:=by kernel_rfl) (n:(i3 cpos<|i4 es X.env).any (·.1)=bt:=by kernel_rfl):HE X (.Call (.Attribute o "setdefault" apos) (e::es) [] cpos) (O8 rL to t):=⟨d_mk PySem.F.slot_dict_setdefault PySem.F.type_dict_setdefault CA B.ok f.ok b w c hs n⟩
end
noncomputable def hV(ps:List (c5×D)):List (c5×D):=ps.foldl (λkvs p=>lG kvs p.1 p.2) []
theorem nZ:hV (ps++[p])=lG (hV ps) p.1 p.2:=by unfold hV;rw[PB];rfl
theorem sP(ps:List (c5×D)):(hV ps).length<=ps.length:=by
 have:∀(ps acc:List (c5×D)),(ps.foldl (λkvs p=>lG kvs p.1 p.2) acc).length<=acc.length+ps.length:=by
  intro ps;induction ps with
  |nil=>intro acc;exact x9 _
  |cons p ps i=>intro acc;have h1:=i<|lG acc p.1 p.2;have h2:=Cd (kvs:=acc) (k:=p.1) (d:=p.2);rw[List.foldl_cons,E9];lia
 have h:=this ps [];rw[G8]at h;unfold hV;lia
section
variable{X:Cx}{pins:List (c8×c9)}{σ:St}{H:Hp}{ρ:List c8}{M:v8}{A:e7}{E:b7->e8->Prop}{s:e8}
def OC(X:Cx)(ρ:List c8)(H:Hp)(h:d5)(a:c8)(kvs:List (c5×D)):Prop:=∃s us,Reps X.K ρ H (kvs.map (·.2)) s/\KV (eW (kvs.map (·.1)) s) us/\h.DictOf (bJ X.prog X.w) a us
theorem OC.at(x:OC X ρ H h a kvs)(k:∀o,h.get? a=a7 o->h'.get? a=a7 o):OC X ρ H h' a kvs:=by obtain⟨s,us,r,l,o,es,i,t,aM⟩:=x;exact⟨s,us,r,l,o,es,i,k _ t,aM⟩
theorem zZ{kvs:List (c5×D)}{s:List V}{us:List (F3×b7)}(r:Reps X.K ρ H (kvs.map (·.2)) s)(l:KV (eW (kvs.map (·.1)) s) us):us.length=kvs.length/\(eW (kvs.map (·.1)) s).length=kvs.length:=by
 have t:=r.length;have e:=l.length;rw[x6]at t;have Q:(eW (kvs.map (·.1)) s).length=kvs.length:=by rw[eW,x6,Ql,x6];lia
 lia
theorem GN(I:v4 X pins σ H s)(hu:A.units+20<k7)(W:o5 X.prog X.w A.in1 J fp wr m P Sx)(S:c8)(l:S∉fp)(M:s.heap.get? S=a8) (q:∀b∈wr,s.heap.get? b=a8) (ps:List (c5×D)) (hm:ps.length=m) (B:∀i v,P i v->∃p:c5×D,ps[i]?=a7 p/\∃vv,w5 X.K ρ H (.tup [.str p.1,p.2]) vv/\aL vv v) (T:m<=1000):∀(k i:Nat) (h:d5) (tk:Nat) (j:Int) (t:Tok),m-i=k->i<=m->Sx i h->OC X ρ H h S (hV<|ps.take i)->(∀b u,s.heap.get? b=a7 u->h.get? b=a7 u) ->(∀h' tk,(∀b u,s.heap.get? b=a7 u->h'.get? b=a7 u)->OC X ρ H h' S (hV ps)->R (.ok<|.ret .none) { s with heap:=h',toks:=tk }) ->l7 (ge X.prog X.w) A (.builtin "dict.update.loop" ⟨[.ref S,.ref J,.int j t,.none],[]⟩) R { s with heap:=h,toks:=tk }:=by
 have n:S∉wr:=λh=>l<|W.sub _ h;intro k;induction k with
 |zero =>
  intro i h tk j t hk hi g F d L;obtain rfl:i=m:=by lia
  refine Mw iJ ?_;rw[Ng cx _];refine(show f8 (ge X.prog X.w) A.in1 (j0 (.ref J) >>= _) _ _ _ from u8<|W.done _ _ _ g λh' tk c=>?_);rw[<-hm,Mx]at F;refine(show f8 (ge X.prog X.w) A.in1 (Builtin.Dict.addKeywords S [] >>= _) _ _ _ from u8<|v5<|v5 ?_);exact L h' tk (λb u e=>c b u (λz=>by rw[q b z]at e;cases e)<|d b u e)<|F.at λo e=>c S o n e
 |succ k ih =>
  intro i h tk j t hk hi g F d L;refine Mw iJ ?_;rw[Ng cx _];refine(show f8 (ge X.prog X.w) A.in1 (j0 (.ref J) >>= _) _ _ _ from u8<|W.item i _ _ _ (by lia) g λv h' tk hP y c=>?_);obtain⟨p,hp,vv,r,rv⟩:=B i v hP;have f:∀b u,s.heap.get? b=a7 u->h'.get? b=a7 u:=λb u e=>c b u (λz=>by rw[q b z]at e;cases e)<|d b u e;have I':v4 X pins σ H { s with heap:=h',toks:=tk }:=I.kept f;obtain⟨ws,us,Z,C,dd⟩:=F.at λo e=>c S o n e;have hl:=(zZ Z C).1;have dl:=sP<|ps.take i;rw[LC]at dl;obtain⟨a,vs,rfl,hq,E⟩:=w5.inv_tup r;obtain rfl:v=F6 a:=rv;obtain⟨_,_,rfl,r1,E⟩:=Reps.inv_cons E;obtain⟨_,vd,rfl,r2,E⟩:=Reps.inv_cons E;obtain rfl:=Reps.inv_nil E;obtain rfl:=w5.inv_str r1;obtain⟨its,V,pl,hz⟩:=I'.tuple hq;obtain⟨u1,u2,rfl,e1,e2⟩:=az.two V;obtain⟨x,d0⟩:=p;obtain⟨o,U,hc,nn,hd⟩:=pl;have hT:({ s with heap:=h',toks:=tk }:e8).TypeIs (.ref a) "tuple":=⟨o,U,hc⟩
  refine u8<|F8<|u8<|wpAny_tryCatch ?_;unfold Builtin.Dict.pairItems;refine u8<|Nq hT ?_;rw[t6<|by decide];refine u8<|Mc U hd<|v5 ?_;refine(show f8 (ge X.prog X.w) _ (i6 [u1,u2]<|dictSet S u1 u2) _ _ _ from F8 ?_);refine wpAny_dictSet_pairs (s:={ s with heap:=h',toks:=tk }) (CW (k:=ABd x) e1) dd (λh2 G sb=>?_) (ah<|by lia);have Y:∀b u,b≠S->h'.get? b=a7 u->h2.get? b=a7 u:=λb u T e=>(sb.2 b T).trans e;obtain⟨Q,f1,O⟩:=ze (k:=x) r2 Z;have et:ps.take (i+1)=ps.take i++[(x,d0)]:=by rw[MD,hp];rfl
  refine v5 ⟨Nr cx _,ih (i+1) h2 _ _ _ (by lia) (by lia) (W.frame _ h' h2 y λb' N o e=>Y b' o (λz=>l<|z ▸ N) e) ?_ (λb u e=>Y b u (λz=>by rw[z,M]at e;cases e)<|f b u e) L⟩;rw[et,nZ];exact⟨Q,_,O,by rw[<-f1];exact C.put (ABd x) e2,G⟩
theorem DV(I:v4 X pins σ H s)(hu:A.units+30<k7)(z:A.handled=a8)(C:s.heap.IsTuple l its)(f:s.heap.get? l=a7 ol)(t:ol.dict=a8)(ps:List (c5×D))(R:ps.length=its.size)(B:∀(i:Nat) v,its[i]?=a7 v->∃p:c5×D,ps[i]?=a7 p/\∃vv,w5 X.K ρ H (.tup [.str p.1,p.2]) vv/\aL vv v) (O:its.size<=1000)(h:∀h' tk,(∀b u,s.heap.get? b=a7 u->h'.get? b=a7 u)->OC X ρ H h' s.heap.objs.size (hV ps)->Q (.ref s.heap.objs.size) { s with heap:=h',toks:=tk }):f8 (ge X.prog X.w) A (call (.type "dict") [.ref l]) Q E s:=by
 refine callType_codes (Q₁:=λj s₁=>j=.ref s.heap.objs.size/\s₁={ s with heap:=s.heap.push { cls:=.type "dict",data:=.dict #[] } }) PySem.F.kt_called_dict (PySem.F.kt_typeCall_dict_1 _) PySem.F.entry_dict_init (kt_code_dict_new _ ⟨rfl,rfl⟩) ?_;rintro j s₁ ⟨rfl,rfl⟩;have S:(s.heap.push { cls:=.type "dict",data:=.dict #[] }).get? s.heap.objs.size=a7 { cls:=.type "dict",data:=.dict #[] }:=C7 _ rfl;have T:ML { s with heap:=s.heap.push { cls:=.type "dict",data:=.dict #[] } } (.ref s.heap.objs.size) "dict":=⟨_,S,rfl⟩
 obtain⟨a,N,g,nn,r⟩:=id C;obtain rfl:a=ol:=D0<|N.symm.trans f;have c:(s.heap.push { cls:=.type "dict",data:=.dict #[] }).get? l=a7 a:=A3 _ f;have m:ML { s with heap:=s.heap.push { cls:=.type "dict",data:=.dict #[] } } (.ref l) "tuple":=⟨a,c,g⟩
 have V:l<s.heap.objs.size:=A5 f;refine⟨T,PySem.F.args_dict_init_2 _ _,?_⟩;unfold Builtin.«dict.__init__»;refine u8 ?_;unfold Builtin.Dict.selfAndRest;refine u8<|OU T ?_;refine(show f8 _ _ (pure (s.heap.objs.size,[F6 l])) _ _ _ from v5 ?_);refine(show f8 _ _ (QN "dict.__init__" s.heap.objs.size (.ref l) [] .none) _ _ _ from ?_);unfold QN;refine u8<|Nq m ?_;rw[t6<|by decide];refine u8<|wW c g t r (by simpa using z) λh1 y G=>?_;have k:∀b u,s.heap.get? b=a7 u->h1.get? b=a7 u:=λb u e=>G b u<|A3 _ e;rw[t6<|show (a8:Option b7).isNone=a9 from rfl];refine u8<|Lz ?_;obtain⟨oI,St,x,W,Y⟩:=(TxSrc.tuple (prog:=X.prog) (w:=X.w) C).iter A.in1.in1 { s with heap:=h1,toks:=y } (by simpa using z) λo e=>k _ _ e;refine u8<|x _ _ ?_;have d:=G _ _ S;have J:s.heap.objs.size<h1.objs.size:=A5 d;have L:s.heap.get? s.heap.objs.size=a8:=by
  cases q:s.heap.get? s.heap.objs.size with
  |none=>rfl
  |some o=>exact t8 (A5 q)<|J4 _
 refine v5 ⟨Nr cx _,GN (A:=A.in1) (s:=s) I (by show A.units+1+20<k7;lia) W s.heap.objs.size ?_ L ?_ ps R B O its.size 0 _ _ _ _ rfl (D6 _) Y ⟨[],[],.nil,.nil,_,#[],_,A3 _ d,⟨rfl,rfl,rfl⟩,rfl,(λ_ P=>by simp at P),Pairs.nil,Ol⟩ (λb u e=>A3 _<|k b u e) λh2 Z U M=>⟨rfl,h h2 Z U M⟩⟩;simp only[A9,Me,or_false,not_or];exact⟨A8 J,MJ V⟩;intro b n;rw[LL.mp n];cases q:s.heap.get? h1.objs.size with
 |none=>rfl
 |some o=>exact t8 (Nat.lt_trans (A5 q) J)<|J4 _
end
section
variable{X:Cx}{k:Nat}
def rK:F7:=λds M Q=>match ds with
 | [.tup xs]=>∃ps:List (c5×D),xs=ps.map (λp=>.tup [.str p.1,p.2])/\ps.length<=1000/\Q (.ref M.length) (M++[.dct<|hV ps])
 |_=>False
theorem DU(G:Room k X.A)(D:X.calm=a9):jt X (.type "dict") rK:=by rintro n s σ H vs us R I P ⟨ds,M,ρ,Q,B,c,q,K⟩;have un:=G.un;unfold rK at q;split at q;obtain⟨ps,L,W,q⟩:=q;have z:=Reps.inv_cons c;clear c;obtain⟨_,_,rfl,j,c⟩:=z;obtain rfl:=Reps.inv_nil c;obtain⟨u,rfl,t⟩:=az.one P;subst L;obtain⟨a,ws,rfl,F,r⟩:=w5.inv_tup j;cases t;obtain⟨its,y,x,Y⟩:=I.tupN F;obtain⟨oa,g,E,⟨nn,h⟩,b⟩:=id x;have O:=r.length;have li:=y.length;rw[x6]at O;have f:H s.heap.objs.size=a8:=I.hok.fresh<|x9 _;have C:(s.heap.objs.size==d6)=bt:=beq_eq_false_iff_ne.mpr<|A7<|A8 I.big;refine DV (A:=X.A) (ρ:=ρ) I (by lia) (I.ok.hd D) x.tup g b ps (by rw[C8];lia) (λi v J=>?_) (by rw[C8];lia) λh' S N e=>?_;obtain⟨d,Z,t,j,m⟩:=oB r y (i:=i) (u:=v) (by simpa using J);rw[E1]at t;obtain⟨p,hp,rfl⟩:=MT.mp t;exact⟨p,hp,Z,j,m⟩;obtain⟨w,T,U,l,e⟩:=e;have V:=sP ps;have ln:=(zZ U l).2;refine⟨.ref s.heap.objs.size,_,I.laid (a:=s.heap.objs.size) (o:=.dK (eW ((hV ps).map (·.1)) w)) (t':=S) N (x9 _)<|AH (ah<|by lia) C l e,rfl,?_⟩;exact K _ _ ⟨.ref M.length,M++[.dct<|hV ps],ρ++[s.heap.objs.size],B.laidM (mo:=.dct<|hV ps) f ⟨w,aJ,U.grow<|Grow.laidR f⟩,Grow.laidR f,.ref B.last,q⟩;exact q.elim
theorem Dk(i:Room k X.A)(f:X.calm=a9:=by kernel_rfl):HC X (.type "dict") rK:=⟨DU i f⟩
end
section
variable{K:v9}{ρ:List c8}{H:Hp}{M:v8}
theorem z6.freeze(S:z6 K ρ M H)(t:ρ[n]?=a7 a)(u:M[n]?=a7 (.dct kvs))(s:H a=a7 (.dK (eW (kvs.map (·.1)) vs)))(r:Reps K ρ H (kvs.map (·.2)) vs):z6 K ρ (M.set n<|.fdc o kvs) (A2 H a (.frz o (.dK (eW (kvs.map (·.1)) vs))))/\Grow K ρ H ρ (A2 H a (.frz o (.dK (eW (kvs.map (·.1)) vs)))):=by
 have g:Grow K ρ H ρ (A2 H a (.frz o (.dK (eW (kvs.map (·.1)) vs)))):=⟨Nd,λ_ _ h=>C5.writtenD s h⟩
 have k:∀m,m≠n->(M.set n<|.fdc o kvs)[m]?=M[m]?:=λm d=>LU<|A7 d;have c:¬LY M[n]?:=λ⟨_,z⟩=>by rw[u]at z;cases z
 refine⟨⟨λm j b e f N=>?_,by rw[Nv];exact S.len,λm b l f N=>?_⟩,g⟩;have q:=S.nd m j b e f N;by_cases h1:m=n;subst h1;rw[k j<|A7 e];exact .inr<|q.resolve_left c;rw[k m h1];by_cases h2:j=n;subst h2;exact .inl<|q.resolve_right c;rw[k j h2];exact q;by_cases d:m=n;subst d;have i:b=a:=D0<|f.symm.trans t;subst i;rw[L7<|by rw[<-S.len];exact(B6.mp t).1]at N;cases N;exact⟨vs,aJ,r.grow g⟩;rw[k m d]at N;by_cases i:b=a;subst i;have p:=(S.nd m n b d f t).resolve_right c;rw[N]at p;exact(S.obj m b l f N).grow g<|.inr p;exact(S.obj m b l f N).grow g<|.inl<|au i
end
noncomputable def Itf(a:c8)(o:c9)(ks:List c5):It:=⟨λi H=>(∃k,H a=a7 (.frz o<|.dK k))/\i<ks.length,λi H v H'=>H'=H/\∃x,ks[i]?=a7 x/\v=.str x,λi H=>(∃k,H a=a7 (.frz o<|.dK k))/\i=ks.length⟩
theorem yi{P:c7}{w:c6}{K:v9}{tg:f9}(a it:c8)(o:c9)(es:Array n9)(ep:Nat)(ks:List c5)(N:o.ExactDict)(O:o.data=.dict es ep)(Y:es.size=ks.length)(W:∀(i:Nat) e,es[i]?=a7 e->∃x t,ks[i]?=a7 x/\e.key=.str x t):Turn P w K tg (Itf a o ks) [it] it (λi h=>h.IsKeyIter it a i es.size ep) where
 mem:=by simp
 obj:=λi h f b g=>by
  obtain rfl:b=it:=by simpa using g
  obtain⟨o,e,c,d⟩:=f;exact⟨o,e,λv z=>by rw[d]at z;cases z⟩
 keep:=λi h h' f k=>f.at λo e=>k it (by simp) o e
 item:=by
  intro X G L D l i p s σ H E I n f R;subst G L D;obtain⟨⟨M,C⟩,hi⟩:=R;have J:s.heap.get? a=a7 o:=(show bx X.prog X.w H s.heap a (.frz o<|.dK M)from I.hok a _ C).1;have F:dh s.heap a es ep:=⟨o,J,N,O⟩
  obtain⟨q,r,T,u,y,B⟩:=n it (by simp);have j:i<es.size:=by lia
  obtain⟨x,t,hx,Z⟩:=W i es[i]<|K5 j;refine pG f F j λh' m sb=>?_;rw[Z];have S:v4 X p σ H { s with heap:=h' }:=I.turned (t':=s.toks) (λb o g e=>(sb.2 b g).trans e) q r u y B;obtain⟨o2,q1,q2,q3⟩:=id m;exact⟨_,rfl,xJ (s:={ s with heap:=h' }) q1 q2 q3 (by decide) ⟨.str x,H,S,⟨t,rfl⟩,⟨rfl,x,hx,rfl⟩,m,λb g=>(n b g).1⟩⟩
 done:=by
  intro X G L D l i p s σ H E I n f R;subst G L D;obtain⟨⟨M,C⟩,rfl⟩:=R;have J:s.heap.get? a=a7 o:=(show bx X.prog X.w H s.heap a (.frz o<|.dK M)from I.hok a _ C).1;have F:dh s.heap a es ep:=⟨o,J,N,O⟩
  obtain⟨q,r,T,u,y,B⟩:=n it (by simp);rw[<-Y]at f;exact uM (I.ok.hd l) f F λh' V=>⟨rfl,I.turned (t':=s.toks) (λb o g e=>V b o g e) q r u y B⟩
 self:=λA i s Q E f U=>wpAny_pyIter_keyiter f U
section
variable{X:Cx}{tg:f9}{o i:f9}{td ty:A0}{pos:i0}{k:Nat}
def AU(t:A0):L8:=λS M R=>t S M λd a=>match d with
 |.ref n=>∃kvs,a[n]?=a7 (.dct kvs)/\∀b,(kvs.length<=sizeLine->R ⟨kvs.map<|λp=>.str p.1,λM=>M[n]?=a7 (.fdc b kvs)⟩ (a.set n<|.fdc b kvs))
 |_=>False
theorem DB{l:f9}{tl:A0}(hl:DE X l tl):DI X tg l (AU tl):=by
 intro m s σ H R I h;obtain⟨S,M,ρ,Q,sm,sr,q,k⟩:=h;refine A1 (hl m s σ H _ I ⟨S,M,ρ,_,sm,sr,q,λv H' w=>w⟩) ?_;rintro u D ⟨v,H1,T,rv,d,U,P,G,g1,r1,q1⟩;cases r1 with
 |@ref n a J =>
  obtain rfl:u=F6 a:=rv;obtain⟨kvs,W,q2⟩:=(show ∃kvs,U[n]?=a7 (.dct kvs)/\∀f,(kvs.length<=sizeLine->Q ⟨kvs.map<|λp=>.str p.1,λM=>M[n]?=a7 (.fdc f kvs)⟩ (U.set n<|.fdc f kvs))from q1)
  obtain⟨ws,L,r⟩:=G.obj _ _ _ J W;obtain⟨z1,z2,us,C,V⟩:=GT T.hok L;obtain⟨f,es,ep,N,Y,Z,hk,hp,ab⟩:=id V;have lk:=zZ r C;have ls:es.size=us.length:=by rw[<-hp.length];simp
  have ks:=Af (by have:=r.length;rwa [x6]at this) C;refine pH z2 ⟨f,N,Y,Z⟩ ?_;obtain⟨w1,w2⟩:=G.freeze (o:=f) J W L r;have K:v4 X m σ (A2 H1 a (.frz f (.dK (eW (kvs.map (·.1)) ws)))) D:=mw (t':=D.toks) T (by rw[L];exact M7) (Rk a D.heap) ⟨f,N⟩ ⟨N,AH z1 z2 C V⟩;refine⟨D.heap.objs.size,[D.heap.objs.size],_,_,_,rfl,K.kept (t':=D.toks) λb o e=>A3 _ e,yi a _ f es ep (kvs.map (·.1)) Y Z (by rw[x6];lia)<|λj e he=>?_,⟨_,C7 _ rfl,rfl,rfl⟩,λb hb=>?_,k _ _ ⟨⟨kvs.map<|λp=>.str p.1,λM=>M[n]?=a7 (.fdc f kvs)⟩,_,P,w1,g1.trans w2,?_,q2 f<|by lia⟩⟩;have hj:j<us.length:=by have:=(MU.mp he).1;lia
  obtain⟨h1,h2⟩:=hp.get? (e:=e) (by rw[<-he];simp)<|A4 hj;have c:(us.map (·.1))[j]?=(kvs.map λp=>(ABd p.1:F3))[j]?:=by rw[ks]
  rw[E1,E1,A4 hj]at c;cases B:kvs[j]? with
  |none=>rw[B]at c;cases c
  |some p =>
   rw[B]at c;have e1:us[j].1=ABd p.1:=D0 c;have E:(bJ X.prog X.w).is us[j].1 e.key=a9:=h1;rw[e1]at E;rcases ba (show uD (ABd p.1) e.key=a9 from E)with⟨i,t,z,_⟩|⟨x,t,z,ez⟩
   cases z;cases z;exact⟨p.1,t,by rw[E1,B];rfl,ez⟩
  obtain rfl:b=D.heap.objs.size:=by simpa using hb
  exact K.fpOk (x9 _)<|K.hok.fresh<|x9 _;refine⟨λi ρ' M' H' s' g ok hi=>?_,λi ρ' M' H' x H2 s' g ok hi y=>?_,λρ' M' H' s' g ok=>?_⟩;obtain⟨O,A,_⟩:=s'.obj _ _ _ (ap g.pre J) ok;exact⟨⟨_,A⟩,by simpa using hi⟩;obtain⟨rfl,z,F,rfl⟩:=y;rw[E1]at F;obtain⟨p,hp,rfl⟩:=MT.mp F;exact⟨.str p.1,ρ',by rw[E1,hp];rfl,s',.refl,.str p.1⟩;obtain⟨O,A,_⟩:=s'.obj _ _ _ (ap g.pre J) ok;exact⟨⟨_,A⟩,by rw[x6,x6]⟩
 |_=>exact q1.elim
theorem CP(h:HE X l tl):HI X tg l (AU tl):=⟨DB h.ok⟩
def Hf(t c:A0):A0:=λS M Q=>t S M λx a=>c S a λy M2=>match x,y with
 |.ref n,.str k=>∃b kvs d,M2[n]?=a7 (.fdc b kvs)/\dD kvs k=a7 d/\Q d M2
 |_,_=>False
theorem KZ(p:X.A.units+1<k7)(B:DE X o td)(hi:DE X i ty)(hs:EG i):DE X (.Subscript o i pos) (Hf td ty):=by
 refine PE.imp (zj p B hi hs) ?_;rintro σ H R ⟨S,M,ρ,Q,s,r,q,k⟩;refine⟨S,M,ρ,_,s,r,q,?_⟩;rintro v H1 ⟨d,h,c,G,g1,D,z⟩;refine⟨S,h,c,_,G,r.grow g1,z,?_⟩;rintro u I ⟨e,M2,a,n,f,E,g⟩
 try dsimp only at g
 split at g;obtain⟨y,kvs,d,l,x,C⟩:=g;obtain⟨_,rfl,m⟩:=w5.inv_ref D;obtain rfl:=w5.inv_str E;obtain⟨vs,j,F⟩:=n.obj _ _ _ (ap f.pre m) l;obtain⟨w,t,b⟩:=ij F x;exact⟨_,w,rfl,.inl ⟨_,ABd _,.inr ⟨y,j⟩,rfl,t.symm⟩,k _ _ ⟨d,M2,a,n,g1.trans f,b,C⟩⟩;exact g.elim
theorem JS(r:Room k X.A)(B:HE X o td)(hi:HE X i ty)(hs:EG i:=by intro _ _;kernel_rfl):HE X (.Subscript o i pos) (Hf td ty):=⟨KZ (vT r) B.ok hi.ok hs⟩
end
end L2
namespace L2
open PySem PySem.Spec PyProof.Rows DL
def GtAt(A:e7)(s:e8)(x y:b7)(k:Bool):Prop:=∀(g:c7) (w:c6) (E:b7->e8->Prop) (Q:b7->e8->Prop),Q (.bool k) s->f8 (ge g w) A (richCompare .Gt x y) Q E s
inductive GexAt(A:e7)(s:e8):List b7->List b7->Bool->Prop
 |nn:GexAt A s [] [] bt
 |nc {y:b7}{ys:List b7}:GexAt A s [] (y::ys) bt
 |cn {x:b7}{xs:List b7}:GexAt A s (x::xs) [] a9
 |eq {x y:b7}{xs ys:List b7}{k:Bool} (h:MB A s x y a9) (t:GexAt A s xs ys k):GexAt A s (x::xs) (y::ys) k
 |ne {x y:b7}{xs ys:List b7}{k:Bool} (h:MB A s x y bt) (t:GtAt A s x y k):GexAt A s (x::xs) (y::ys) k
section
variable{prog:c7}{w:c6}{A:e7}{E:b7->e8->Prop}{s:e8}{d:c8}{o:c9}{es:Array n9}{ep:Nat}{xs:List (D×b7×b7)}{k:D}{key:b7}{hs:D->Int}{Q:Option Nat->e8->Prop}
noncomputable def pM(es:Array n9)(h:Int)(i:Nat):Bool:=(es[i]?.map (·.hash))==a7 h
end
section
open PySem.W
variable{prog:c7}{w:c6}{A:e7}{E:b7->e8->Prop}{s:e8}{K:Frag}{x D:c8}{ox:c9}
structure ExcK(K:Frag)(D:c8):Prop where
 ga:findIn K (.ref D) "__getattribute__" = a7 (a7<|.builtin "BaseException.__getattribute__")
 gt:findIn K (.ref D) "__getattr__" = a7 a8
 mb:mroIn K D (.type "BaseException")=a7 a9
 mo:mroIn K D (.type "object")=a7 a9
 cl:findIn K (.ref D) "__class__" = a7 (a7<|.builtin "object.__class__")
def Lp(h:d5)(x D:c8):Prop:=∃o,h.get? x=a7 o/\o.cls=.ref D
theorem Lp.type(I:Lp h x D):Looks M h (m9<|.ref x) (.ref D):=by obtain⟨o,e,c⟩:=I;exact c ▸ (Looks.ld e).andThen .now
theorem uv(X:K.In h)(c:ExcK K D):Looks M h (Builtin.ObjectAttr.find (.ref x) (.ref D) "__class__") (.bind (.builtin "getset_descriptor.__get__")<|.builtin "object.__class__"):=by
 have t:typeIn K (.builtin "object.__class__")=a7 (.type "getset_descriptor"):=by kernel_rfl
 have h1:specialIn K (.builtin "object.__class__") "__get__" = a7 (a7<|.builtin "getset_descriptor.__get__"):=by unfold specialIn;rw[t];kernel_rfl
 have h2:takesIn K (.builtin "object.__class__")=a7 a9:=by unfold takesIn specialIn;rw[t];kernel_rfl
 have L:=looks_findIn (M:=M) X c.cl;have L2:Looks M h (Builtin.ObjectAttr.getOf<|a7<|.builtin "object.__class__") (a7<|.builtin "getset_descriptor.__get__"):=looks_specialIn X h1;have a:=looks_takesIn (M:=M) X h2;refine L.andThen<|L2.andThen ?_;exact(show Looks M h (Builtin.ObjectAttr.dataDescriptor? (a7<|.builtin "object.__class__")<|a7<|.builtin "getset_descriptor.__get__") (a7 (.builtin "getset_descriptor.__get__",.builtin "object.__class__"))from a.andThen .now).andThen<|Looks.tag .now
theorem Kt(X:K.In s.heap)(I:Lp s.heap x D)(d:mroIn K D (.type "object")=a7 a9)(h:R (.ok<|.ret<|.ref D) s):l7 (ge prog w) A (.call (.builtin "getset_descriptor.__get__") ⟨[.builtin "object.__class__",.ref x,tp],[]⟩) R s:=by
 obtain⟨b,g,r,t,c⟩:=s;have L:=I.type (M:=ge prog w);have a:=looks_mroIn (M:=ge prog w) X d;refine OT KF.slot_gs.plain KF.entry_gs<|KF.slot_gs.check _ _ _ _ _ _ _ _ KF.type_class (KF.args_gs _ _ _) ?_;unfold Builtin.«getset_descriptor.__get__» Builtin.Getset_descriptor.descrGet;rw[dga_obj];refine u8<|v5 ?_;unfold Builtin.Getset_descriptor.descrGetter Builtin.Getset_descriptor.descrCheckInstance Builtin.Getset_descriptor.descrNameAndClass isInstance;simp only[KF.owner_class]
 repeat lk
 refine⟨Code.quiet_builtin _ (by decide +kernel),Mw KF.entry_class ?_⟩;unfold Builtin.«object.__class__» shownTypeOf
 repeat lk
 exact h
theorem Dr(X:K.In s.heap)(c:ExcK K D)(I:Lp s.heap x D)(h:Q (a7<|.ref D) { s with toks:=s.toks+1 }):f8 (ge prog w) A (getAttr? (.ref x) "__class__") Q E s:=by
 obtain⟨j,g,d,t,p⟩:=s;have L:=I.type (M:=ge prog w);have k:=looks_findIn (M:=ge prog w) X c.ga;have L2:=looks_findIn (M:=ge prog w) X c.gt;have m:=looks_mroIn (M:=ge prog w) X c.mb;have l:=uv (M:=ge prog w) (x:=x) X c;have i:=F.excAttr_ValueError.ga;have r:=i.bind<|.ref x;have f:(OJ "BaseException.__getattribute__" == OJ "object.__getattribute__")=bt:=by decide +kernel
 have e:(onTheHeap (F6 D)&&OJ "BaseException.__getattribute__" == OJ "object.__getattribute__")=bt:=by rw[f];rfl
 unfold getAttr? getAttrBy? getAttrBy;refine u8<|wpAny_mkText<|u8<|MM<|F8<|u8<|L.at<|u8<|k.at ?_;dsimp only;rw[e];simp only[C4,u4];unfold getAttrByItsOwn hookBefore;rw[t6<|show onTheHeap (F6 D)=a9 from rfl];refine u8<|L2.at ?_;unfold callGetattribute;simp only[Ps,C4,u4];unfold boundAndCalled;refine u8<|MM<|F8<|u8<|OE r ?_;refine l8<|OT i.plain F.entry_bexc_ga ?_;have o:builtinKind "BaseException.__getattribute__" = a7 .slot:=by decide +kernel
 have a:splitId "BaseException.__getattribute__" = a7 ("BaseException","__getattribute__"):=by decide +kernel
 have b:=F.args_bexc_ga (.ref x)<|.str "__class__" t;simp only[checkBuiltinCall,o,a];have n:Looks (ge prog w) j (isInstance (.ref x)<|.type "BaseException") a9:=L.andThen m;refine u8<|n.at ?_
 repeat (first|with_reducible refine L.at ?_|with_reducible refine l.at ?_|wp_step)
 refine Kt (s:=⟨j,g,d,t+1,p⟩) X I c.mo ?_;exact v5<|handed_on rfl<|v5 h
theorem CN(c:ExcK K D):KitX K (.ref x) (.ref D) (λh=>Lp h x D) where
 ty:=λ_ _ _ I=>I.type
 it:=λ_ h X _=>by have:=c.mo;unfold mroIn clsIn at this;split at this;rename_i B;intro N Q' F s' k q;unfold isType loadHead;exact u8<|wpAny_loadPart (k _ _<|X _ _ B)<|v5 q;cases this
 ne:=λh t d its n m X p=>by refine MQ.mpr λq=>?_;have e:D=t:=Value.ref.inj<|beq_iff_eq.mp q;subst e;have:=c.mo;unfold mroIn clsIn at this;split at this;rename_i B;have z:=(X _ _ B).symm.trans p;cases z;cases this
 ca:=λX I k=>Dr X c I k
end
theorem bx.there(x:bx P w H h a o):∃u,h.get? a=a7 u:=by
 cases o with
 |lst xs=>obtain⟨_,_,_,_,e⟩:=x;exact⟨_,e⟩
 |tup xs=>obtain⟨_,_,_,b,e,_⟩:=x;exact⟨_,e⟩
 |dK kvs=>obtain⟨_,_,_,_,b,_,_,e,_⟩:=x;exact⟨_,e⟩
 |dT kvs=>obtain⟨_,_,_,_,b,_,_,e,_⟩:=x;exact⟨_,e⟩
 |set S n=>obtain⟨b,_,_,_,e,_⟩:=x;exact⟨_,e⟩
 |ins C d s=>obtain⟨_,_,_,e,_⟩:=x;exact⟨_,e⟩
 |own y=>exact x
 |xd s=>obtain⟨_,⟨j,_,_,e,_⟩,_⟩:=x;exact⟨_,e⟩
 |rng l hi=>obtain⟨_,_,_,e⟩:=x;exact⟨_,e⟩
 |frz b u=>exact⟨_,x.1⟩
 |tbl ps=>exact⟨_,x⟩
 |met f y=>exact⟨_,x⟩
 |ext φ=>exact x.2.1
inductive Of(P:c7)(w:c6)(stk:List Env)(H:Hp)(h0:d5)(a:c8)(C:b7)(H1:Hp)(h:d5):Prop
 |mk (B:d5) (a0:b7) (fly:Heap.FlyingW B stk a C a0 h) (un:Un (frs stk) [] H H1 h0 h) (hok:E6 P w H1 h)
  (old:∀b o,h0.get? b=a7 o->b∉frs stk->∃o',B.get? b=a7 o'/\(H b=a8->o'=o)) (trk:∀b u,H1 b=a7 u->∃o,B.get? b=a7 o)
section
variable{P:c7}{w:c6}{stk:List Env}{H H1:Hp}{h0 h h' B:d5}{a:c8}{C a0:b7}
theorem kt(K:E6 P w H1 h)(trk:∀b u,H1 b=a7 u->∃o,B.get? b=a7 o)(s:B.StaysIn h)(s':B.StaysIn h'):E6 P w H1 h':=λb u q=>by
 refine(K b u q).stay (λc v f r=>?_) (λ_ z=>z) λ_ _ z=>z;have O:∃u',H1 c=a7 u':=by rcases f with rfl|f;exact⟨u,q⟩;exact⟨_,f⟩
 obtain⟨u',O⟩:=O;obtain⟨o,a⟩:=trk c u' O;have:=s c o a;rw[r]at this;cases this;exact s' c _ a
theorem yf(u:Un (frs stk) [] H H1 h0 h)(g:∀b o,h0.get? b=a7 o->b∉frs stk->∃o',B.get? b=a7 o'/\(H b=a8->o'=o))(f:h.FunFrames B stk)(s':B.StaysIn h')(p:h.UpToSlots h'):Un (frs stk) [] H H1 h0 h':=by
 have r:∀b,b∈frs stk->∀o,h.get? b=a7 o->∃m,h'.get? b=a7 { o with slots:=m }:=λb d o e=>by obtain⟨_,o',a,P⟩:=f.mem d;rw[e]at a;cases a;exact p b o e P
 refine⟨λb o e n d x=>?_,λb o e n d x=>?_,u.free,λb o e x=>?_,u.tups,u.frzs,u.tbls⟩;obtain⟨o',a,q⟩:=g b o e d;rw[<-q n];exact s' b o' a;obtain⟨m,t⟩:=u.slot b o e n d x;obtain⟨M,l⟩:=r b d _ t;exact⟨M,l⟩;by_cases d:b∈frs stk;obtain⟨o',t⟩:=u.there b o e x;obtain⟨m,l⟩:=r b d _ t;exact⟨_,l⟩;obtain⟨o',a,_⟩:=g b o e d;exact⟨o',s' b o' a⟩
theorem rQ{α:Type}{x:α}:x∉([]:List α):=λh=>nomatch h
theorem Of.track(f:Un (frs stk) [] H H1 h0 h)(K:E6 P w H1 h)(p:∀b o,h0.get? b=a7 o->b∉frs stk->∃o',B.get? b=a7 o'/\(H b=a8->o'=o))(trk:∀b u,H1 b=a7 u->∃o,B.get? b=a7 o)(y:Heap.FlyingW B stk a C a0 h):Un (frs stk) [] H (A2 H1 a<|.ext<|Hv a C) h0 h/\E6 P w (A2 H1 a<|.ext<|Hv a C) h:=by
 obtain⟨t,vs,l,v,r,_⟩:=y.first
 have j:H1 a=a8:=by
  cases q:H1 a with
  |none=>rfl
  |some u=>obtain⟨o,s⟩:=trk a u q;rw[y.2.1]at s;cases s
 refine⟨⟨f.keep,f.slot,λb o e n x=>?_,f.there,λb xs e=>?_,λb o u e=>?_,λb ps e=>?_⟩,λb u q=>?_⟩;rw[au];exact f.free b o e n x;rintro rfl;by_cases i:b∈frs stk;obtain⟨_,o',g,A⟩:=y.2.2.1.mem i;rw[l]at g;cases g;exact A vs r;obtain⟨o',g,_⟩:=p b o e i;rw[y.2.1]at g;cases g;rw[au<|ad (f.tups b xs e) j];exact f.tups b xs e;rw[au<|ad (f.frzs b o u e) j];exact f.frzs b o u e;obtain⟨m,q⟩:=f.tbls b ps e;exact⟨m,by rw[au<|ad q j];exact q⟩;by_cases i:b=a;subst i;rw[aJ]at q;cases q;refine⟨⟨t,vs,l,v,r⟩,⟨t,l⟩,?_⟩;rintro h1 h2 ⟨o,D,e,c,d⟩ k;exact⟨o,D,k o e,c,d⟩;rw[au i]at q;exact(K b u q).stay (λ_ _ _ z=>z) (λc z=>by rw[au<|ad z j];exact z) λc xs z=>by rw[au<|ad z j];exact z
end
structure DefX(X:Cx):Prop where
 stk:X.stack=X.env::X.outer
 fr:X.env.frame=a7 X.env.locals
 ex:X.ex=[]
section
variable{X:Cx}{pins:List (c8×c9)}{σ:St}{H H1:Hp}{s s':e8}{h':d5}{e:c8}{C:b7}{vs:List b7}{M:Model}{Q:Unit->e8->Prop}{E':b7->e8->Prop}
theorem DefX.frs(d:DefX X):b∈frs X.stack↔b=X.env.locals\/b∈X.fs:=by rw[d.stk];unfold L2.frs;rw[N8,d.fr];exact A9
theorem v4.nloc(I:v4 X pins σ H s)(e:X.s₀.heap.get? b=a7 o):b≠X.env.locals:=λz=>by subst z;exact J4 _<|J1 (A5 e) I.ok.above
theorem xK(I:v4 X pins σ H1 s)(d:DefX X)(m:Qj s.heap h' e C vs)(h:∀h'',Of X.prog X.w X.outer X.H₀ X.s₀.heap e C H1 h''->Q () { s with heap:=h'' }):f8 M X.A (leaving X.env<|.ref e) Q E' { s with heap:=h' }:=by
 have r:X.A.frames=a7 (X.env::X.outer):=d.stk ▸ I.ok.frames;have D:s.heap.FunFrames X.base (X.env::X.outer):=d.stk ▸ I.stack;have i:∀{b o},s.heap.get? b=a7 o->b∉frs X.stack->(Pw s.heap<|frs X.stack).get? b=a7 o:=λq c=>PySem.W.hideAll_get _ q c;refine wpAny_leaves_madeW (base:=Pw s.heap<|frs X.stack) (h:=s.heap) r d.fr (λb o q=>Rq _ q) (PySem.W.funFrames_hide D λenv G b c=>by rw[d.stk];exact QH.mpr ⟨env,G,c⟩) m λh'' t y _ _ J=>h h'' ?_;have x:∀b:c8,b∉X.ex:=λb z=>by rw[d.ex]at z;cases z
 have g:∀b o,X.s₀.heap.get? b=a7 o->b∉X.fs->∃o',(Pw s.heap<|frs X.stack).get? b=a7 o'/\(X.H₀ b=a8->o'=o):=λb o q c=>by have p:b∉frs X.stack:=λz=>(d.frs.mp z).elim (λz=>I.nloc q z) c;obtain⟨o',F⟩:=I.base.there b o q<|x b;refine⟨o',i F p,λn=>?_⟩;have:=I.base.keep b o q n c<|x b;rw[F]at this;exact D0 this
 have trk:∀b u,H1 b=a7 u->∃o,(Pw s.heap<|frs X.stack).get? b=a7 o:=λb u q=>by obtain⟨o,H⟩:=(I.hok b u q).there;refine⟨o,i H λz=>?_⟩;rw[I.stkFree b z]at q;cases q
 have a:Un X.fs [] X.H₀ H1 X.s₀.heap s.heap:=d.ex ▸ I.base;refine⟨_,_,y,?_,kt I.hok trk (λb o q=>Rq _ q) y.1,g,trk⟩;have E:∀b,b∈X.fs->∀o,s.heap.get? b=a7 o->∃v,h''.get? b=a7 { o with slots:=v }:=λb c o q=>by obtain⟨_,o',f,P⟩:=D.mem (show b∈(X.env::X.outer).filterMap (·.frame)from d.stk ▸ d.frs.mpr (.inr c));rw[q]at f;cases f;exact J b o (m.keeps b o q) P
 refine⟨λb o q n c j=>?_,λb o q n c j=>?_,a.free,λb o q j=>?_,a.tups,a.frzs,a.tbls⟩;obtain⟨o',f,z⟩:=g b o q c;rw[<-z n];exact y.1 b o' f;obtain⟨v,k⟩:=a.slot b o q n c j;obtain⟨B,l⟩:=E b c _ k;exact⟨B,l⟩;by_cases c:b∈X.fs;obtain⟨o',k⟩:=a.there b o q j;obtain⟨v,l⟩:=E b c _ k;exact⟨_,l⟩;obtain⟨o',f,_⟩:=g b o q c;exact⟨o',y.1 b o' f⟩
theorem Dp(I:v4 X pins σ H s)(d:DefX X)(F:Of X.prog X.w X.stack H s.heap e C H1 s'.heap)(h:∀h'',Of X.prog X.w X.outer X.H₀ X.s₀.heap e C H1 h''->Q () { s' with heap:=h'' }):f8 M X.A (leaving X.env<|.ref e) Q E' s':=by
 obtain⟨B,J,y,j,K,D,trk⟩:=F;have v:X.A.frames=a7 (X.env::X.outer):=d.stk ▸ I.ok.frames;have O:∀b:c8,b∉X.ex:=λb z=>by rw[d.ex]at z;cases z
 have k:Heap.FlyingW B (X.env::X.outer) e C J s'.heap:=d.stk ▸ y;refine wpAny_leaves_onW v d.fr k λh'' f W=>h h'' ?_;have a:Un X.fs [] X.H₀ H X.s₀.heap s.heap:=d.ex ▸ I.base;have N:=y.2.2.1;have L:∀b,b∈X.fs->∀o,s'.heap.get? b=a7 o->∃E,h''.get? b=a7 { o with slots:=E }:=λb c o q=>by obtain⟨_,o',i,P⟩:=N.mem (show b∈X.stack.filterMap (·.frame)from d.frs.mpr<|.inr c);rw[q]at i;cases i;exact W b o q P
 have g:∀b o,X.s₀.heap.get? b=a7 o->b∉X.fs->∃o',B.get? b=a7 o'/\(X.H₀ b=a8->o'=o):=λb o q c=>by have r:b∉frs X.stack:=λz=>(d.frs.mp z).elim (λz=>I.nloc q z) c;obtain⟨o',m⟩:=a.there b o q rQ;obtain⟨o2,R,z⟩:=D b o' m r;refine⟨o2,R,λn=>?_⟩;rw[z<|a.free b o q n rQ];have:=a.keep b o q n c rQ;rw[m]at this;exact D0 this
 refine⟨B,J,f,?_,kt K trk y.1 f.1,g,trk⟩;have T:∀b o,X.s₀.heap.get? b=a7 o->X.H₀ b=a8->H1 b=a8:=λb o q n=>by obtain⟨o',m⟩:=a.there b o q rQ;exact j.free b o' m (a.free b o q n rQ) rQ
 refine⟨λb o q n c x=>?_,λb o q n c x=>?_,λb o q n x=>T b o q n,λb o q x=>?_,λb xs q=>j.tups b xs<|a.tups b xs q,λb o u q=>j.frzs b o u<|a.frzs b o u q,λb ps q=>?_⟩;obtain⟨o',i,z⟩:=g b o q c;rw[<-z n];exact f.1 b o' i;obtain⟨E,t⟩:=a.slot b o q n c x;obtain⟨S,l⟩:=j.slot b _ t (a.free b o q n x) (d.frs.mpr<|.inr c) x;obtain⟨G,p⟩:=L b c _ l;exact⟨G,p⟩;by_cases c:b∈X.fs;obtain⟨o',t⟩:=a.there b o q x;obtain⟨o2,l⟩:=j.there b o' t x;obtain⟨E,p⟩:=L b c _ l;exact⟨_,p⟩;obtain⟨o',i,_⟩:=g b o q c;exact⟨o',f.1 b o' i⟩;obtain⟨U,t⟩:=a.tbls b ps q;obtain⟨V,l⟩:=j.tbls b _ t;exact⟨U++V,by rw[l,Array.append_assoc]⟩
end
def Oh(P:c7)(w:c6):My:=λk H s E e s'=>∃a C H1,e=.ref a/\s'.os=s.os/\f7 s'.gens/\Of P w k H s.heap a C H1 s'.heap/\E C a8 H1
section
variable{P:c7}{w:c6}{K:v9}{mg:c5->Option b7}{base:d5}{N:List c5}{qual:c5}{scope:f6}{f:c8}{cd:b7}{A:e7}{outer:List Env}{s:e8}{H:Hp}{E:XK}
theorem AN:DefX (pL CX P w K mg base N qual scope f cd A outer s H E):=⟨rfl,rfl,rfl⟩
theorem Fu:wG (Oh P w) (pL (Oh P w) P w K mg base N qual scope f cd A outer s H E) E:=by rintro p σ H1 c e s' I ⟨a,C,b,rfl,B,d,F,q⟩;exact Dp I AN F λh T=>⟨a,C,b,rfl,B.trans I.os,d,T,q⟩
theorem FL(I:v4 (pL (Oh P w) P w K mg base N qual scope f cd A outer s H E) pins σ H1 s1)(m:Qj s1.heap h' e C vs)(q:E C a8 H1):(pL (Oh P w) P w K mg base N qual scope f cd A outer s H E).xe (.ref e) { s1 with heap:=h' }:=by exact xK I AN m λh T=>⟨e,C,H1,rfl,I.os,I.bare,T,q⟩
end
noncomputable abbrev vE:List b7:=[.type "ValueError",.type "Exception",.type "BaseException",.type "object"]
theorem Fz{K:v9}{h:d5}{C:c8}{B:List b7}{newId:String}(X:K.In h)(q:OI K C B newId=a9):∃bm N nm qn bs hdct sn sub ab col dd k0 k1 k2 k3 k5 mN,h.get? C=a7 (excClassObj nm qn C N bs bm hdct sn sub ab col dd k0 k1 k2 k3 k5 newId)/\h.Ns N mN/\mN "__init__" = a8/\OwnTail h B bm:=by
 unfold OI at q;split at q;rename_i dd c s o;split at q;rename_i j bm k0 k1 k2 k3 n k5 m hs;simp only[G7,u3,Bool.not_eq_true']at q;obtain⟨⟨⟨⟨⟨rfl,rfl⟩,a⟩,D⟩,k⟩,i⟩:=q;obtain⟨nm,bs,f,ns,qn,e,sn,sub,ab,col,b⟩:=c;dsimp only at m a k i;subst m a;have d:s = #[k0,k1,k2,k3,a7<|.builtin n,k5]:=by obtain⟨l⟩:=s;simp only at hs;rw[hs]
 subst d;exact⟨bm,ns,nm,qn,bs,e,sn,sub,ab,col,dd,k0,k1,k2,k3,k5,_,X _ _ o,.of_isNs<|PySem.W.isNs_of_in X k,PySem.W.nsMap_none_of_in X k i,PySem.W.tail_of_in X D⟩;cases q;cases q
section
variable{X:Cx}{x:c5}{C:c8}{np cpos pos:i0}{e₀:f9}{aM:List f9}{pins:List (c8×c9)}{σ:St}{H:Hp}{s:e8}{Ex:b7->e8->Prop}{Q:Flow->e8->Prop}
theorem Ca(I:v4 X pins σ H s)(m:X.mg x=a7 (.ref C))(q:OI X.K C vE "ValueError.__new__" = a9)(g:X.calm=a9)(w:f8 (ge X.prog X.w) X.A (spliced<|i3 cpos<|i4 (e₀::aM) X.env) (λus s₂=>us.length<=sizeLine/\(∀b o,X.base.get? b=a7 o->s₂.heap.get? b=a7 o)/\∀h' e,Qj s₂.heap h' e (.ref C) us->Ex (.ref e) { s₂ with heap:=h' }) Ex s) (R:Gl X x:=by rfl)(c:i4 (e₀::aM) X.env=(bt,eval e₀ X.env)::i4 aM X.env:=by rfl) (l:(i3 cpos<|i4 aM X.env).any (·.1)=bt:=by rfl) (h:(x==("__debug__":c5))=bt:=by decide):f8 (ge X.prog X.w) X.A (exec (.Raise (a7<|.Call (.Name x np) (e₀::aM) [] cpos) a8 pos) X.env) Q Ex s:=by obtain⟨t,N,nm,n,bs,hdct,sn,sub,ab,col,dd,k0,k1,k2,k3,k5,mN,d,f,i,T⟩:=Fz I.mod.kin q;have B:=F.excBase_ValueError;refine wpAny_Raise_call_subU (C:=C) (nm:=nm) (q:=n) (N:=N) (bs:=bs) (bm:=t) (hdct:=hdct) (sn:=sn) (sub:=sub) (ab:=ab) (col:=col) (dd:=dd) (k0:=k0) (k1:=k1) (k2:=k2) (k3:=k3) (k5:=k5) B B.hasB B (mN:=mN) (T.hasType B.hasBase) (I.ok.hd g) (by rw[c];show (bt||(i3 cpos<|i4 aM X.env).any (·.1))=bt;rw[l];rfl) i<|jn I R m ⟨rfl,?_⟩ h;rw[c]at w ⊢;exact PN<|G4 w (λus s₂ ⟨z,a,k⟩=>⟨rfl,z,a _ _ d,f.keeps a,T.keeps a,k⟩) λ_ _ y=>y
end
section
variable{X:Cx}{pins:List (c8×c9)}{σ:St}{H:Hp}{s:e8}
theorem ye(I:v4 X pins σ H s)(T:X.N.Nodup)(hi:X.N[i]?=a7 x)(C:X.env.scope.names.lookup x=a7 .local)(W:σ[i]?=a7 (a7 v))(h:∀s',v4 X pins (σ.set i a8) H s'->Q () s'):f8 M A (unbindName X.env x) Q E s:=by
 obtain⟨m,K,J⟩:=id I.loc;have R:(X.env.scope.kind==.class||(X.env.scope.kind==.module&&X.env.locals != X.env.globals))=bt:=by rw[I.ok.kind];rfl
 have D:i<σ.length:=by rw[I.len];exact(B6.mp hi).1
 have G:=I.cne;obtain⟨u,r,Z⟩:=J i x v hi W<|.inl C;have U:m x=a7 u:=by
  rcases Z with⟨_,e⟩|⟨k,_⟩
  exact e;rcases k with k|k<;>(have O:X.env.scope.names.lookup x=_:=k;rw[C]at O;cases O)
 refine wpAny_unbindName_local C K U R λh' u' F hs=>?_;obtain⟨oL,_,_,V,_⟩:=id K;have f:E6 X.prog X.w H h':=λb ob e=>by refine(I.hok b ob e).stay (λc Y g q=>(hs.2 c ?_).trans q) (λ_ q=>q) λ_ _ q=>q;rintro rfl;rcases g with rfl|g;rw[I.free]at e;cases e;rw[I.free]at g;cases g
 refine h _ ⟨I.ok,I.os,I.bare,⟨λb o e n B a=>?_,λb o e n B a=>?_,I.base.free,λb o e a=>?_,I.base.tups,I.base.frzs,I.base.tbls⟩,⟨_,F,λj y v' t l S=>?_⟩,λy c e=>?_,I.free,I.freeC,λp hp=>?_,f,by simpa using I.len⟩;exact(hs.2 b<|A8<|J1 (A5 e) I.ok.above).trans<|I.base.keep b o e n B a;obtain⟨sl,t⟩:=I.base.slot b o e n B a;exact⟨sl,(hs.2 b<|A8<|J1 (A5 e) I.ok.above).trans t⟩;obtain⟨o',t⟩:=I.base.there b o e a;exact⟨o',(hs.2 b<|A8<|J1 (A5 e) I.ok.above).trans t⟩;by_cases L:j=i;subst L;rw[L7 D]at l;cases l;rw[LU<|A7 L]at l;obtain⟨u',r',q⟩:=J j y v' t l S;refine⟨u',r',?_⟩;rcases q with⟨k,e⟩|⟨k,c,e,z⟩
 refine .inl ⟨k,?_⟩;have:y≠x:=λe=>L<|oZ T t<|e ▸ hi;simp[this,e];exact .inr ⟨k,c,e,z.sameBut hs<|G y c e⟩;obtain⟨Y,z⟩:=I.cell y c e;exact⟨Y,z.sameBut hs<|G y c e⟩;obtain⟨e,n,P,nf,d⟩:=I.pin p hp;exact⟨(hs.2 p.1 P).trans e,n,P,nf,d⟩
noncomputable abbrev Cx.held(X:Cx)(a:c8):Cx:={ X with A:=X.A.mark<|a7<|.ref a,calm:=bt,xe:=λ_ _=>False }
theorem v4.held(I:v4 X pins σ H s)(a:c8):v4 (X.held a) pins σ H s:=⟨⟨I.ok.mod,I.ok.kind,I.ok.glob,I.ok.blt,I.ok.above,I.ok.inj,I.ok.has,I.ok.cab,(λz=>Bool.noConfusion z),I.ok.frames,I.ok.stk,I.ok.exf,I.ok.bs,I.ok.bsz,I.ok.noex,I.ok.exfs,I.ok.funs,I.ok.frf⟩,I.os,I.bare,I.base,I.loc,I.cell,I.free,I.freeC,I.pin,I.hok,I.len⟩
theorem v4.unheld(ok:X.Ok)(I:v4 (X.held a) pins σ H s):v4 X pins σ H s:=⟨ok,I.os,I.bare,I.base,I.loc,I.cell,I.free,I.freeC,I.pin,I.hok,I.len⟩
theorem Bb{H1:Hp}{s':e8}{a C C':c8}{i:Nat}{n y:c5}{np pos:i0}{l:i5}{j:List i5}{aM:List ExceptHandler}{D:Ends}{tS:TS}{E:b7->e8->Prop}(I:v4 X pins σ H s)(d:DefX X)(ho:s'.os=s.os)(hb:f7 s'.gens)(F:Of X.prog X.w X.stack H s.heap a (.ref C) H1 s'.heap) (Y:X.N.Nodup) (hi:X.N[i]?=a7 n) (O:X.env.scope.names.lookup n=a7 .local) (hy:X.mg y=a7 (.ref C')) (hm:Qi X.K (.ref C) (.ref C')=a7 a9)(hs:Lw (X.held a) (l::j) tS) (q:tS ⟨λσ' H'=>D.nx (σ'.set i a8) H',λ_ _=>False,λ_ _=>False,λ_ _=>False⟩ (σ.set i<|a7<|.ref a) (A2 H1 a<|.ext<|Hv a<|.ref C))(hg:Gl X y:=by rfl) (Z:(y==("__debug__":c5))=bt:=by decide):f8 (ge X.prog X.w) X.A (noteFrame (.ref a) X.env) (λ_ s₂=>f8 (ge X.prog X.w) X.A (setFlight (.ref a) a8) (λ_ s₃ =>
   f8 (ge X.prog X.w) X.A (handleBy (.ref a) X.env<|.ExceptHandler (a7<|.Name y np) (a7 n) (l::j) pos::aM) (SP X pins D) E s₃) E s₂) E s':=by
 obtain⟨B,a0,p,un,aj,r,trk⟩:=F;have ab:X.A.frames=a7 (X.env::X.outer):=d.stk ▸ I.ok.frames;have M:Heap.FlyingW B (X.env::X.outer) a (.ref C) a0 s'.heap:=d.stk ▸ p;refine wpAny_looks_onW ab d.fr M λaD h t=>?_;refine wpAny_landsW h λh₅ c x=>?_;have T:=yf un r p.2.2.1 c.1 λb o e nf=>by obtain⟨sl,e1⟩:=t b o e nf;obtain⟨al,e2⟩:=x b _ e1 nf;exact⟨al,e2⟩
 have m:=kt aj trk p.1 c.1;have I5:v4 X pins σ H1 { s' with heap:=h₅ }:=I.call' (ch:=[]) ho T m hb λb z=>t8 z rQ;obtain⟨ob,ai,P⟩:=c.there;refine wpAny_handleBy_cons (codeAny_handlers_test<|jn (X:=X.held a) (I5.held a) hg hy ?_ Z) (by intro q;cases q);have LT:PySem.W.Looks (ge X.prog X.w) h₅ (m9<|.ref a) (.ref C):=P ▸ (PySem.W.Looks.ld ai).andThen .now;refine(PySem.W.exm_one I5.kIn LT hm).at ?_;refine codeAny_handlers_suite_as<|lands_againW c λS g G=>?_;have an:=yf T r (d.stk ▸ c.2.2.1) g.1 G;have Q:=kt m trk c.1 g.1;obtain⟨as,R⟩:=Of.track an Q r trk<|d.stk ▸ g;have I7:v4 X pins σ (A2 H1 a<|.ext<|Hv a<|.ref C) { s' with heap:=S }:=I.call' (ch:=[]) ho as R hb λb z=>t8 z rQ;refine ir (v:=.ref a) I7 Y hi (.inl O) rfl (λs8 I8=>?_)<|.inr O;refine G4 (hs pins s8 _ _ _ (I8.held a) q) (λf s9 U=>?_) λ_ _ z=>z.elim;cases f with
 |next =>
  obtain⟨σ',H',J,k⟩:=U;have J':=J.unheld I.ok;refine u8<|wpAny_bindName<|ir (v:=.non) (u:=.none) J' Y hi (.inl O) rfl (λaS V=>?_)<|.inr O;have hl:i<σ'.length:=by rw[J'.len];exact(B6.mp hi).1
  refine Pm<|ye (v:=.non) V Y hi O (L7 hl) λbe L=>?_;rw[List.set_set]at L;exact⟨_,_,L,k⟩
 |ret u=>obtain⟨_,_,_,_,_,z⟩:=U;exact z.elim
 |brk=>obtain⟨_,_,_,z⟩:=U;exact z.elim
 |cont=>obtain⟨_,_,_,z⟩:=U;exact z.elim
end
abbrev DX:=c5->v8->Prop
abbrev Ix:=DX->v7
abbrev Bv:=DX->A0
abbrev Bs:=List D->v8->DK->DX->Prop
inductive XQ(K:v9)(ρ:List c8)(H:Hp)(R:DX)(C:b7)(dx:Option c8)(H':Hp):Prop
 |mk (x:c5) (c:c8) (M':v8) (ρ':List c8) (e:C=.ref c) (hx:Np K d8 x=a7 (a7 (.ref c))) (s:z6 K ρ' M' H') (g:Grow K ρ H ρ' H') (q:R x M')
section
variable{K:v9}{ρ ρ1:List c8}{H H1 H':Hp}{R:DX}{C:b7}{dx:Option c8}{M:v8}
theorem XQ.trans(g:Grow K ρ H ρ1 H1)(h:XQ K ρ1 H1 R C dx H'):XQ K ρ H R C dx H':=by obtain⟨x,c,M',ρ',e,b,s,a,q⟩:=h;exact⟨x,c,M',ρ',e,b,s,g.trans a,q⟩
def XEnd(M:v8)(R:DX):DX:=λx M'=>R x M'\/∃a,OD M a/\a <+: M'/\R x a
theorem XQ.endq(s:z6 K ρ M H)(h:XQ K ρ H (XEnd M R) C dx H'):XQ K ρ H R C dx H':=by
 obtain⟨x,c,M',ρ',e,d,s',b,o⟩:=h;rcases o with q|⟨a,g,f,q⟩
 exact⟨x,c,M',ρ',e,d,s',b,q⟩;have k:ρ'.take M.length=ρ:=by rw[<-s.len];exact bC b.pre
 have i:=s'.cut M.length λn m l e=>by
  have j:a[n]?=a7 m:=by obtain⟨t,rfl⟩:=f;rw[LF<|by rw[g.1];exact l]at e;exact e
  exact(g.2 n m j).elim (λz=>s.bels z) id
 have p:M'.take M.length=a:=by rw[<-g.1];exact bC f
 rw[k,p]at i;exact⟨x,c,a,ρ,e,d,i,⟨Nd,b.tup⟩,q⟩
end
inductive lowX(K:v9)(E:XK)(t:Ix)(D:Ends)(σ:St)(H:Hp):Prop
 |mk (S:SD) (M:v8) (ρ:List c8) (F:DEnds) (R:DX) (s:z6 K ρ M H) (sr:SRep K ρ H S σ) (q:t R F S M) (k:Pa K ρ H F D) (x:∀C dx H',XQ K ρ H R C dx H'->E C dx H')
inductive lowXE(K:v9)(E:XK)(t:Bv)(σ:St)(H:Hp)(Q:VK):Prop
 |mk (S:SD) (M:v8) (ρ:List c8) (F:DK) (R:DX) (s:z6 K ρ M H) (sr:SRep K ρ H S σ) (q:t R S M F) (k:∀v H',VQ K ρ H F v H'->Q v H') (x:∀C dx H',XQ K ρ H R C dx H'->E C dx H')
structure XA(b:Bool)(X:Cx)(pins:List (c8×c9))(E:XK)(P:St->Prop)(Ex:b7->e8->Prop):Prop where
 on:∀σ H1 s1 e s',P σ->v4 X pins σ H1 s1->Oh X.prog X.w X.stack H1 s1 E e s'->Ex e s'
 all:b=a9->∀σ,P σ
 made:b=a9->∀σ H1 s1 h' e C vs,v4 X pins σ H1 s1->Qj s1.heap h' e C vs->E C a8 H1->Ex (.ref e) { s1 with heap:=h' }
structure HX(b:Bool)(X:Cx)(st:i5)(t:Ix):Prop where
 ok:∀(pins:List (c8×c9)) (s:e8) (σ:St) (H:Hp) (D:Ends) (E:XK) (P:St->Prop) (Ex:b7->e8->Prop),XA b X pins E P Ex->P σ->v4 X pins σ H s->lowX X.K E t D σ H->f8 (ge X.prog X.w) X.A (exec st X.env) (SP X pins D) Ex s
structure Nl(b:Bool)(X:Cx)(st:List i5)(t:Ix):Prop where
 ok:∀(pins:List (c8×c9)) (s:e8) (σ:St) (H:Hp) (D:Ends) (E:XK) (P:St->Prop) (Ex:b7->e8->Prop),XA b X pins E P Ex->P σ->v4 X pins σ H s->lowX X.K E t D σ H->f8 (ge X.prog X.w) X.A (execs st X.env) (SP X pins D) Ex s
structure Pg(b:Bool)(X:Cx)(e:f9)(t:Bv):Prop where
 ok:∀(pins:List (c8×c9)) (s:e8) (σ:St) (H:Hp) (Q:VK) (E:XK) (P:St->Prop) (Ex:b7->e8->Prop),XA b X pins E P Ex->P σ->v4 X pins σ H s->lowXE X.K E t σ H Q->f8 (ge X.prog X.w) X.A (eval e X.env) (EP X pins σ Q) Ex s
def Nz(t:v7):Ix:=λ_=>t
def EI(t u:Ix):Ix:=λR=>aB (t R)<|u R
def Q5(c:K0)(t u:Ix):Ix:=λR=>C9 c (t R)<|u R
def xSet(t:Bv)(i:Nat):Ix:=λR=>bd (t R) i
def EJ(t:Bv):Ix:=λR=>iM<|t R
def O0(P:Bs)(t:G1):Bv:=λR S M Q=>t S M λds a=>P ds a Q R
def uY(x:c5)(t:G1):Ix:=λR _ S M=>t S M λds a=>ds.length<=sizeLine/\R x a
theorem PA.nox(h:PA X.nox es t)(I:v4 X pins σ H s)(q:t σ H Q):f8 (ge X.prog X.w) X.A (spliced<|i3 pos<|i4 es X.env) (AP X pins σ Q) Ex s:=G4 (h pos pins s σ H Q (I.wish _) q) (λ_ _ ⟨v,H',a,r,z⟩=>⟨v,H',a.unwish,r,z⟩) λ_ _ z=>J2 z
section
variable{b:Bool}{X:Cx}{st:i5}{aM:List i5}{t u:Ix}{te:Bv}{e:f9}{es:List f9}{pos:i0}
theorem Js{t:v7}(h:HS X.nox st t):HX b X st (Nz t):=by refine⟨ ?_⟩;rintro a s σ H D E P Ex A p I ⟨S,M,ρ,F,R,m,c,q,k,x⟩;exact G4 (h.ok a s σ H D (I.wish _) ⟨S,M,ρ,F,m,c,q,k⟩) (λ_ _ z=>z.unwish) λ_ _ z=>J2 z
theorem FV:Nl b X [] (Nz aP):=by refine⟨ ?_⟩;rintro a s σ H D E P Ex A p I ⟨S,M,ρ,F,R,m,c,q,k,x⟩;exact OO ⟨σ,H,I,k.nx σ H ⟨S,M,ρ,m,.refl,c,q⟩⟩
theorem zV(h:HX b X st t):Nl b X [st] t:=⟨λa s σ H D E P Ex A p I q=>by
 refine Qr<|A1 (h.ok a s σ H D E P Ex A p I q) λf c q=>?_;cases f with
 |next=>exact OO q
 |ret v=>exact q
 |brk=>exact q
 |cont=>exact q⟩
theorem wj(h1:HX a9 X st t)(h2:Nl a9 X aM u):Nl a9 X (st::aM) (EI t u):=⟨λb s σ H D E P Ex A p I ⟨S,M,ρ,F,R,m,r,q,k,x⟩=>by
 refine Qr<|A1 (h1.ok b s σ H { D with nx:=λa H'=>SQ X.K ρ H (λc M'=>u R F c M') a H' } E P Ex A p I ⟨S,M,ρ,_,R,m,r,q,⟨λ_ _ z=>z,k.rt,k.bk,k.ct⟩,x⟩) λf l z=>?_;cases f with
 |next=>obtain⟨a,H',h,c,M',ρ',s',g,d,j⟩:=z;exact h2.ok b l a H' D E P Ex A (A.all rfl a) h ⟨c,M',ρ',F,R,s',d,j,k.trans g,λC i e w=>x C i e<|w.trans g⟩
 |ret v=>exact z
 |brk=>exact z
 |cont=>exact z⟩
theorem Ju(v:HT X.nox c tc)(o:Nl b X a t)(y:Nl b X d u):HX b X (.If c a d pos) (Q5 tc t u):=⟨λe s σ H D E P Ex A p I ⟨S,M,ρ,F,R,B,r,q,k,x⟩=>by
 refine wpAny_If<|G4 (v.ok e s σ H _ (I.wish _) ⟨S,M,ρ,_,B,r,q,λ_ _ z=>z⟩) (λc n ⟨H1,j,l,g,f,g1,m⟩=>?_) λ_ _ z=>J2 z;cases c with
 |true=>exact o.ok e n σ H1 D E P Ex A p j.unwish ⟨S,l,g,F,R,f,r.grow g1,m,k.trans g1,λC i h w=>x C i h<|w.trans g1⟩
 |false=>exact y.ok e n σ H1 D E P Ex A p j.unwish ⟨S,l,g,F,R,f,r.grow g1,m,k.trans g1,λC i h w=>x C i h<|w.trans g1⟩⟩
theorem zW(i:Pg b X e te)(hs:i7 e a8 pos.line X.env=pure bt:=by kernel_rfl):HX b X (.Expr e pos) (EJ te):=by refine⟨ ?_⟩;rintro a s σ H D E P Ex A p I ⟨S,M,ρ,F,R,m,r,q,k,x⟩;exact wpAny_Expr_any (A1 (i.ok a s σ H _ E P Ex A p I ⟨S,M,ρ,_,R,m,r,q,λ_ _ z=>z,x⟩) λv n ⟨y,H1,g,l,d,h,c,f,g1,r',j⟩=>⟨σ,H1,g,k.nx σ H1 ⟨S,h,c,f,g1,r.grow g1,j⟩⟩) I.quiet hs
theorem En(l:X.N.Nodup)(m:Pg b X e te)(hi:X.N[i]?=a7 x:=by kernel_rfl)(o:FN X.env.scope x=a9:=by kernel_rfl)(hs:i7 e (a7<|.Name x pos') pos.line X.env=pure bt:=by kernel_rfl)(n:X.fn x=a9:=by kernel_rfl):HX b X (.Assign [.Name x pos'] e pos) (xSet te i):=⟨by rintro a s σ H D E P Ex A p I ⟨S,M,ρ,F,R,w,r,q,k,B⟩;refine wpAny_Assign_Name (A1 (m.ok a s σ H _ E P Ex A p I ⟨S,M,ρ,_,R,w,r,q,λ_ _ z=>z,B⟩) ?_) hs;rintro v C ⟨y,H1,g,u,d,j,c,f,g1,r',t⟩;exact ir g l hi (we o) u (λG h=>⟨_,H1,h,k.nx _ H1 ⟨_,j,c,f,g1,(r.grow g1).set i r',t⟩⟩)<|.inl n⟩
theorem CK(o:X.mg x=a7 (.ref C))(t:Np X.K d8 x=a7 (a7<|.ref C))(q:OI X.K C vE "ValueError.__new__" = a9)(h:HA X.nox (e::es) ta)(i:X.calm=a9:=by kernel_rfl)(n:X.env.kindOf x=a7 .globalImplicit:=by kernel_rfl) (j:i4 (e::es) X.env=(bt,eval e X.env)::i4 es X.env:=by kernel_rfl) (l:(i3 cpos<|i4 es X.env).any (·.1)=bt:=by kernel_rfl) (b:(x==("__debug__":c5))=bt:=by kernel_rfl):HX a9 X (.Raise (a7<|.Call (.Name x np) (e::es) [] cpos) a8 pos) (uY x ta):=⟨λd s σ H D E P Ex A p I ⟨S,M,ρ,F,R,B,G,w,k,J⟩=>by refine Ca I o q i (G4 (h.ok.nox (Ex:=Ex) I ⟨S,M,ρ,_,B,G,w,λ_ _ z=>z⟩) (λus v ⟨vs,H1,a,r,ds,g,c,f,g1,u,z,y⟩=>?_) λ_ _ z=>z) n j l b;refine⟨by rw[<-r.length,<-u.length];exact z,a.bk,λh' e m=>A.made rfl σ H1 v h' e _ _ a m<|J _ _ _ ⟨x,C,g,c,rfl,t,f,g1,y⟩⟩⟩
end
def RL(K:v9)(P:Bs):Sp:=λvs H Q E=>∃ds M ρ R RX,z6 K ρ M H/\Reps K ρ H ds vs/\P ds M R RX/\(∀v H',VQ K ρ H R v H'->Q v H')/\∀C d H',XQ K ρ H RX C d H'->E C d H'
def Bt(P:c7)(w:c6)(K:v9)(mg:c5->Option b7)(base:d5)(k:Nat)(x:c5)(ps:List c5)(c:Bs):Prop:=∃f d,FnOk P w K mg base (Oh P w) k f d ps (RL K c)/\mg x=a7 (.ref f)/\Nt K (.ref f)=a9/\mX K d ps []
section
variable{b:Bool}{X:Cx}{e:f9}{es:List f9}{x:c5}{p pos:i0}{t:G1}
theorem Eo(C:Bt X.prog X.w X.K X.mg X.base j x ps P)(Z:Room k X.A)(N:HA X.nox (e::es) t)(hj:Nat.ble j k=a9:=by kernel_rfl)(U:X.env.kindOf x=a7 .globalImplicit:=by kernel_rfl)(d:(x==("__debug__":c5))=bt:=by kernel_rfl) (T:i4 (e::es) X.env=(bt,eval e X.env)::i4 es X.env:=by kernel_rfl) (l:(i3 pos<|i4 es X.env).any (·.1)=bt:=by kernel_rfl):Pg b X (.Call (.Name x p) (e::es) [] pos) (O0 P t):=⟨by
 rintro y s σ H Q E G Ex A g I ⟨S,M,ρ,F,R,sm,sr,q,k,xx⟩;obtain⟨f,fd,o,Y,V,O⟩:=C;refine Os<|jn I U Y ?_ d;refine Ro (h₀:=X.base) I.ok.mod.kin V (G4 (N.ok.nox (Ex:=Ex) (pos:=pos) I ⟨S,M,ρ,_,sm,sr,q,λ_ _ z=>z⟩) (λus i z=>?_) λ_ _ z=>z) T l;obtain⟨vs,H1,a,r,ds,D,n,m,g1,r1,q1⟩:=z;refine⟨a.kIn,?_⟩;have c:RL X.K P (vs++[]) H1 Q E:=⟨ds,D,n,F,R,m,by rw[LS];exact r1,q1,λv H' w=>k v H'<|VQ.trans g1 w,λC J H' w=>xx C J H'<|w.trans g1⟩
 have B:az (vs++[]) (us++[]):=by rw[LS,LS];exact r
 have W:(us++[]).length=ps.length:=by rw[<-B.length];exact o.len _ _ _ _ c
 refine l8<|Na ((o.more<|Rx hj).run X.A X.stack i H1 ⟨us,[]⟩ (us++[]) (vs++[]) Q E Z a.env0 (O i us a.kIn W) B c) λr s' h=>?_;cases r with
 |error e=>exact A.on σ H1 i e s' g a h
 |ok L =>
  cases L with
  |ret u=>exact a.after h
  |next=>exact J2 h
  |brk=>exact J2 h
  |cont=>exact J2 h⟩
end
abbrev LenX(Pr:Bs)(ps:List c5):Prop:=∀ds M R RX,Pr ds M R RX->ds.length=ps.length
abbrev DerX(P:c7)(w:c6)(K:v9)(mg:c5->Option b7)(base:d5)(k:Nat)(x:c5)(N:List c5)(st:i5)(t:Ix):Prop:=∀(f:c8) (cdv:b7) (A:e7) (outer:List Env) (s:e8) (H:Hp) (E:XK),Room k (A.deeper<|Rr x (av st) s.heap.objs.size f cdv)->Nl a9 (pL (Oh P w) P w K mg base N x (av st) f cdv A outer s H E) (bB st) t
section
variable{P:c7}{w:c6}{K:v9}{mg:c5->Option b7}{base:d5}{x:c5}{st:i5}{N ps:List c5}{k:Nat}{Pr:Bs}{B:List c5}{C:List (c5×Int)}{t:Ix}
theorem Bt.by(T:TopB mg B C)(F:cy K mg x st ps)(L:FnScope N ps (av st))(y:LenX Pr ps)(l:TopB mg B C->N.Nodup->DerX P w K mg base k x N st t)(wp:∀ds M R RX,Pr ds M R RX->t (XEnd M RX) (EE M R) (cc N ds) M):Bt P w K mg base (k+1) x ps Pr:=by obtain⟨f,X,G,Z,Y⟩:=F;refine⟨f,X,?_,Z,G.kp,Y⟩;obtain⟨oc,od,kV,V,pm,an,i,ct,ab,rfl,lk,u⟩:=G.ex;refine Ks lk u L (λvs H Q E ⟨ds,M,ρ,R,RX,s,r,q,_⟩=>by rw[<-r.length];exact y ds M R RX q) λA o s H vs Q E hr h=>?_;obtain⟨ds,M,ρ,R,RX,d,r,q,O,kx⟩:=h;refine⟨lowX K E t,λp s1 σ H1 D I z=>(l T L.nd f i A o s H E hr).ok p s1 σ H1 D E (λ_=>True) _ ⟨λa J U e s' _ g c=>Fu p a J U e s' g c,λ_ _=>trivial,λ_ a J U h' e C vs g m q=>FL g m q⟩ trivial I z,cc N ds,M,ρ,_,_,d,SRep.start r N,wp ds M R RX q,⟨λa H' ⟨S,M',ρ',s',n,b,j⟩=>?_,λv H' z=>O v H'<|VQ.endq d z,λa H' ⟨S,M',ρ',s',n,b,j⟩=>j.elim,λa H' ⟨S,M',ρ',s',n,b,j⟩=>j.elim⟩,λC W H' z=>kx C W H'<|XQ.endq d z⟩;exact O .non H'<|VQ.endq d ⟨.non,M',ρ',s',n,.non,j⟩
end
abbrev Re(Pr:Bs)(n:Nat)(t:Ix):Prop:=∀ds M R RX,Pr ds M R RX->t (XEnd M RX) (EE M R) (Ra n ds) M
abbrev Q8(Pr:Bs):B5:=λds M R=>Pr ds M R λ_ _=>False
theorem Bt.nev{P:c7}{w:c6}{K:v9}{mg:c5->Option b7}{base:d5}{x:c5}{ps:List c5}{k:Nat}{c:Bs}(h:Bt P w K mg base k x ps c):z9 P w K mg base k x ps (Q8 c):=by
 obtain⟨f,g,F,m,j,i⟩:=h;have n:∀{ρ:List c8}{H:Hp} (C:b7) (d:Option c8) (H':Hp),XQ K ρ H (λ_ _=>False) C d H'->E0 C d H':=λC d H' ⟨_,_,_,_,_,_,_,_,q⟩=>q;refine⟨f,g,⟨λvs H Q E ⟨ds,M,ρ,R,s,r,q,D⟩=>F.len vs H Q E0 ⟨ds,M,ρ,R,_,s,r,q,D,n⟩,λA o s H O us vs Q E p b a v ⟨ds,M,ρ,R,t,r,q,D⟩=>?_⟩,m,j,i⟩;refine Na (F.run A o s H O us vs Q E0 p b a v ⟨ds,M,ρ,R,_,t,r,q,D,n⟩) λr s' z=>?_;cases r with
 |error e=>obtain⟨_,_,_,_,_,_,_,z⟩:=z;exact z.elim
 |ok l=>cases l<;>exact z
theorem Gx{X:Cx}{c:Bool}{b:List i5}{st:i5}{s:List i5}{t:Ix}(h:b=st::s)(q:Nl c X (st::s) t):Nl c X b t:=h ▸ q
noncomputable abbrev xX:=List<|c5×List (c5×Bool)
noncomputable def xR(K:v9)(t:c5×List (c5×Bool)):Bool:=match Np K d8 t.1 with
 |some (a7<|.ref C)=>OI K C vE "ValueError.__new__" && NY K (.ref C) "__getattribute__" == a7 (a7<|.builtin "BaseException.__getattribute__")&&NY K (.ref C) "__getattr__" == a7 a8 &&
   PySem.W.mroIn K C (.type "BaseException")==a7 a9&&PySem.W.mroIn K C (.type "object")==a7 a9&&NY K (.ref C) "__class__" == a7 (a7<|.builtin "object.__class__")&&Ml K (.ref C) (.type "ValueError")==a7 a9 &&
   t.2.all λr=>match Np K d8 r.1 with
    |some (a7<|.ref C')=>Qi K (.ref C) (.ref C')==a7 r.2&&Ml K (.ref C) (.ref C')==a7 r.2&&Ml K (.type "NoneType") (.ref C')==a7 bt
    |_=>bt
 |_=>bt
noncomputable def dq(K:v9)(T:xX):Bool:=T.all<|xR K
noncomputable def mL(T:xX)(x y:c5):Option Bool:=(T.lookup x).bind (·.lookup y)
structure ClsX(K:v9)(x:c5)(C:c8):Prop where
 at_:Np K d8 x=a7 (a7<|.ref C)
 exc:OI K C vE "ValueError.__new__" = a9
 own:ExcK K C
 val:Ml K (.ref C) (.type "ValueError")=a7 a9
theorem xR.cls{K:v9}{x:c5}{w:List (c5×Bool)}(h:xR K (x,w)=a9):∃C,ClsX K x C/\∀y v,(y,v)∈w->∃C',Np K d8 y=a7 (a7<|.ref C')/\Qi K (.ref C) (.ref C')=a7 v/\Ml K (.ref C) (.ref C')=a7 v/\Ml K (.type "NoneType") (.ref C')=a7 bt:=by unfold xR at h;split at h;rename_i C e;simp only[G7,u3]at h;obtain⟨⟨⟨⟨⟨⟨⟨h1,h2⟩,b⟩,d⟩,k⟩,c⟩,f⟩,g⟩:=h;refine⟨C,⟨e,h1,⟨h2,b,d,k,c⟩,f⟩,λy v Q=>?_⟩;have:=F4.mp g (y,v) Q;dsimp only at this;split at this;rename_i C' a;simp only[G7,u3]at this;exact⟨C',a,this.1.1,this.1.2,this.2⟩;cases this;cases h
theorem fT{α β:Type}[BEq α][LawfulBEq α]{a:α}{v:β}:∀{l:List (α×β)},l.lookup a=a7 v->(a,v)∈l
 | [],h=>by cases h
 |(c,w)::l,h=>by rw[NK]at h;split at h;rename_i e;cases h;rw[beq_iff_eq.mp e];exact F5;exact D4 _<|fT h
theorem dq.cls{K:v9}{T:xX}{x:c5}(h:dq K T=a9)(b:(T.lookup x).isSome=a9):∃C,ClsX K x C/\∀y v,mL T x y=a7 v->∃C',Np K d8 y=a7 (a7<|.ref C')/\Qi K (.ref C) (.ref C')=a7 v/\Ml K (.ref C) (.ref C')=a7 v/\Ml K (.type "NoneType") (.ref C')=a7 bt:=by obtain⟨w,e⟩:=OX.mp b;obtain⟨C,c,r⟩:=xR.cls<|F4.mp h _<|fT e;refine⟨C,c,λy v a=>?_⟩;unfold mL at a;rw[e]at a;exact r y v<|fT a
theorem mL.has(h:mL T x y=a7 v):(T.lookup x).isSome=a9:=by
 unfold mL at h;cases q:T.lookup x with
 |none=>rw[q]at h;cases h
 |some _=>rfl
section
variable{b:Bool}{X:Cx}{e:f9}{es:List f9}{x:c5}{pos:i0}
theorem sE{n a:i0}{t:G1}{T:xX}(m:dq X.K T=a9)(f:HA X.nox (e::es) t)(g:(T.lookup x).isSome=a9:=by kernel_rfl)(d:X.calm=a9:=by kernel_rfl)(R:X.env.kindOf x=a7 .globalImplicit:=by kernel_rfl) (i:i4 (e::es) X.env=(bt,eval e X.env)::i4 es X.env:=by kernel_rfl) (l:(i3 a<|i4 es X.env).any (·.1)=bt:=by kernel_rfl) (h:(x==("__debug__":c5))=bt:=by kernel_rfl):HX a9 X (.Raise (a7<|.Call (.Name x n) (e::es) [] a) a8 pos) (uY x t):=⟨λb s σ H D E P Ex A p I z=>by obtain⟨C,c,_⟩:=dq.cls m g;exact(CK (Qg I.mod.kin I.mod.glob c.at_) c.at_ c.exc f d R i l h).ok b s σ H D E P Ex A p I z⟩
def dTry(T:xX)(y:c5)(i:Nat)(t:Ix)(s:v7):v7:=λF S M =>
 t (λx M'=>mL T x y=a7 a9/\s ⟨λb a=>F.nx (b.set i a8) a,λ_ _=>False,λ_ _=>False,λ_ _=>False⟩ (S.set i<|a7<|.ref M'.length) (M'++[.exc x])) F S M
theorem SRep.drop{K:v9}{ρ:List c8}{H:Hp}{S:SD}{σ:St}(r:SRep K ρ H S σ)(i:Nat):SRep K ρ H (S.set i a8) (σ.set i a8):=by refine⟨by simpa using r.len,λj d e=>?_⟩;by_cases h:i=j;subst h;by_cases g:i<S.length;rw[L7 g]at e;cases e;rw[N9<|by simpa using g]at e;cases e;rw[LU h]at e;obtain⟨v,c,a⟩:=r.get j d e;exact⟨v,by rw[LU h];exact c,a⟩
theorem Es{T:xX}{y n:c5}{i:Nat}{b:List i5}{l:i5}{j:List i5}{np g:i0}{Y:Ix}{Z:v7}(hT:dq X.K T=a9)(hN:X.N.Nodup)(hb:Nl bt X b Y)(hs:∀a,HB (X.held a) (l::j) Z)(d1:X.stack=X.env::X.outer:=by kernel_rfl) (d2:X.env.frame=a7 X.env.locals:=by kernel_rfl) (d3:X.ex=[]:=by kernel_rfl) (hi:X.N[i]?=a7 n:=by kernel_rfl) (hk:X.env.scope.names.lookup n=a7 .local:=by kernel_rfl)(hg:X.env.kindOf y=a7 .globalImplicit:=by kernel_rfl) (G:(y==("__debug__":c5))=bt:=by kernel_rfl):HS X (.Try b [.ExceptHandler (a7<|.Name y np) (a7 n) (l::j) g] [] [] pos) (dTry T y i Y Z):=⟨by
 rintro p s σ H D I ⟨S,M,ρ,F,sm,W,q,k⟩;refine wpAny_Try_except<|A1 (hb.ok p s σ H D (XQ X.K ρ H _) (λm=>m=σ) _ ⟨?_,λz=>(nomatch z),λz=>(nomatch z)⟩ rfl I ⟨S,M,ρ,F,_,sm,W,q,k,λ_ _ _ z=>z⟩) λf s1 z=>?_;rintro m H1 s1 e s' rfl I1 ⟨a,C,Q,rfl,r,E,P,x,c,M',ρ',rfl,U,V,R,h,q2⟩;obtain⟨t,c0,r0⟩:=dq.cls hT<|mL.has h;obtain⟨C',hy,hm,_⟩:=r0 y a9 h;have ec:t=c:=by have:=c0.at_.symm.trans U;cases this;rfl
 subst ec;have J:Q a=a8:=by
  obtain⟨B,a0,A,_,_,_,trk⟩:=P;cases q:Q a with
  |none=>rfl
  |some u=>obtain⟨o,r⟩:=trk a u q;rw[A.2.1]at r;cases r
 refine Bb (C:=t) (C':=C') (i:=i) I1 ⟨d1,d2,d3⟩ r E P hN hi hk (Qg I.mod.kin I.mod.glob hy) hm (hs a).ok ⟨S.set i<|a7<|.ref M'.length,M'++[.exc x],ρ'++[a],_,V.laidM (mo:=.exc x) J ⟨t,U,aJ⟩,(W.grow<|R.trans<|Grow.laidR J).set i<|.ref V.last,q2,⟨λab H3 w=>?_,λ_ _ w=>?_,λ_ _ w=>?_,λ_ _ w=>?_⟩⟩ hg G;obtain⟨S3,M3,O,s3,g3,L,d⟩:=w;exact k.nx _ H3 ⟨_,M3,O,s3,(R.trans<|Grow.laidR J).trans g3,L.drop i,d⟩;obtain⟨_,_,_,_,_,_,d⟩:=w;exact d;obtain⟨_,_,_,_,_,_,d⟩:=w;exact d;obtain⟨_,_,_,_,_,_,d⟩:=w;exact d
 ·cases f with
  |next=>exact OO z
  |ret v=>exact z
  |brk=>exact z
  |cont=>exact z⟩
noncomputable def subY(T:xX)(y:c5):Bool:=T.any λr=>(r.2.lookup y).isSome
theorem dq.any{K:v9}{T:xX}{y:c5}(h:dq K T=a9)(Q:subY T y=a9):∃C',Np K d8 y=a7 (a7<|.ref C')/\Ml K (.type "NoneType") (.ref C')=a7 bt:=by obtain⟨⟨x,w⟩,i,g⟩:=NJ.mp Q;obtain⟨v,c⟩:=OX.mp g;obtain⟨C,_,r⟩:=xR.cls<|F4.mp h _ i;obtain⟨C',h1,_,_,d⟩:=r y v<|fT c;exact⟨C',h1,d⟩
def wx(T:xX)(y:c5)(te:A0):A0:=λS M Q=>te S M λd a=>match d with
 |.ref n=>(match a[n]? with
  |some (.exc x)=>(match mL T x y with
   |some v=>Q (.bl v) a
   |none=>False)
  |_=>False)
 |.non=>Q (.bl bt) a
 |_=>False
def dIsV(T:xX)(te:A0):A0:=λS M Q=>te S M λd a=>match d with
 |.ref n=>(match a[n]? with
  |some (.exc x)=>(T.lookup x).isSome=a9/\Q (.bl a9) a
  |_=>False)
 |.non=>Q (.bl bt) a
 |_=>False
def rIsC(K:v9)(c:V)(u:b7):List V->Hp->VK->Prop:=λvs H Q=>∃e,vs=[e,c]/\((e=.non/\Ml K (.type "NoneType") u=a7 bt/\Q (.bl bt) H)\/∃a C v,e=.ref a/\H a=a7 (.ext<|Hv a<|.ref C)/\ExcK K C/\Ml K (.ref C) u=a7 v/\Q (.bl v) H)
theorem wz(i:∀u',aL c u'->u'=u):dU X (.builtin "isinstance") (rIsC X.K c u):=by
 rintro p s σ H vs us Q I d ⟨g,rfl,h⟩;obtain⟨P,G,rfl,r,b⟩:=az.two d;obtain rfl:=i G b;rcases h with⟨rfl,k,q⟩|⟨a,C,v,rfl,f,E,k,q⟩
 obtain rfl:P=K1:=r;exact PySem.W.kia_one PySem.W.kitx_none I.kIn trivial k (by intro z;cases z) λt=>⟨.bl bt,H,I.tok t,rfl,q⟩
 obtain rfl:P=F6 a:=r;obtain⟨⟨o,w,e,l,_⟩,_⟩:=I.hok a _ f;exact PySem.W.kia_one (CN E) I.kIn ⟨o,e,l⟩ k (by intro z;cases z) λt=>⟨.bl v,H,I.tok t,rfl,q⟩
theorem JQ{T:xX}{y:c5}{p f:i0}{te:A0}(F:dq X.K T=a9)(Z:X.mg "isinstance" = a8)(U:HE X e te)(Y:subY T y=a9:=by kernel_rfl)(V:X.env.kindOf "isinstance" = a7 .globalImplicit:=by kernel_rfl)(hy:X.env.kindOf y=a7 .globalImplicit:=by kernel_rfl)(o:(y==("__debug__":c5))=bt:=by kernel_rfl)(g:i4 [e,.Name y f] X.env=(bt,eval e X.env)::i4 [.Name y f] X.env:=by kernel_rfl) (A:i4 [.Name y f] X.env=(bt,eval (.Name y f) X.env)::i4 [] X.env:=by kernel_rfl) (z:(i3 pos<|i4 [.Name y f] X.env).any (·.1)=bt:=by kernel_rfl):HE X (.Call (.Name "isinstance" p) [e,.Name y f] [] pos) (wx T y te):=⟨by
 rintro i s σ H Q I ⟨S,M,ρ,R,sm,sr,q,k⟩;obtain⟨j,G,h⟩:=dq.any F Y;refine oP (wz (X:=X) (c:=.ref j) (u:=.ref j) λu' r=>r) V Z eP (lK U.ok (lK (Fq (v:=.ref j) hy (Qg I.mod.kin I.mod.glob G) rfl o) zn A) g) (by decide) (by decide) g z i s σ H Q I ?_;refine⟨S,M,ρ,_,sm,sr,q,?_⟩;rintro v H1 ⟨d,E,l,B,g1,L,b⟩;show rIsC X.K (.ref j) (.ref j) [v,.ref j] H1 Q;refine⟨v,rfl,?_⟩;cases d with
 |non=>obtain rfl:=w5.inv_non L;exact .inl ⟨rfl,h,k _ _ ⟨_,E,l,B,g1,.bl bt,b⟩⟩
 |ref n =>
  obtain⟨a,rfl,t⟩:=w5.inv_ref L;dsimp only at b;split at b;rename_i x hx;split at b;rename_i v J;obtain⟨C,c,r⟩:=dq.cls F<|mL.has J;obtain⟨N,w,_,W,_⟩:=r y v J;have m:N=j:=by have:=w.symm.trans G;cases this;rfl
  subst m;obtain⟨D,O,P⟩:=B.obj n a _ t hx;have m:D=C:=by have:=O.symm.trans c.at_;cases this;rfl
  subst m;exact .inr ⟨a,D,v,rfl,P,c.own,W,k _ _ ⟨_,E,l,B,g1,.bl v,b⟩⟩;exact b.elim;exact b.elim
 |_=>exact b.elim⟩
theorem pP:d9 "ValueError" = a7 (.type "ValueError"):=by decide +kernel
theorem Ac{K:v9}:Ml K (.type "NoneType") (.type "ValueError")=a7 bt:=by kernel_rfl
theorem JR{T:xX}{p f:i0}{te:A0}(A:dq X.K T=a9)(G:X.mg "isinstance" = a8)(J:X.mg "ValueError" = a8)(E:HE X e te)(F:X.env.kindOf "isinstance" = a7 .globalImplicit:=by kernel_rfl)(N:X.env.kindOf "ValueError" = a7 .globalImplicit:=by kernel_rfl)(g:i4 [e,.Name "ValueError" f] X.env=(bt,eval e X.env)::i4 [.Name "ValueError" f] X.env:=by kernel_rfl) (m:i4 [.Name "ValueError" f] X.env=(bt,eval (.Name "ValueError" f) X.env)::i4 [] X.env:=by kernel_rfl) (l:(i3 pos<|i4 [.Name "ValueError" f] X.env).any (·.1)=bt:=by kernel_rfl):HE X (.Call (.Name "isinstance" p) [e,.Name "ValueError" f] [] pos) (dIsV T te):=⟨by
 rintro h s σ H Q I ⟨S,M,ρ,R,O,P,q,k⟩;refine oP (wz (X:=X) (c:=.ty "ValueError") (u:=.type "ValueError") λu' r=>r) F G eP (lK E.ok (lK (zm (v:=.ty "ValueError") N J pP rfl) zn m) g) (by decide) (by decide) g l h s σ H Q I ?_;refine⟨S,M,ρ,_,O,P,q,?_⟩;rintro v H1 ⟨d,t,i,o,g1,w,b⟩;show rIsC X.K (.ty "ValueError") (.type "ValueError") [v,.ty "ValueError"] H1 Q;refine⟨v,rfl,?_⟩;cases d with
 |non=>obtain rfl:=w5.inv_non w;exact .inl ⟨rfl,Ac,k _ _ ⟨_,t,i,o,g1,.bl bt,b⟩⟩
 |ref n =>
  obtain⟨a,rfl,j⟩:=w5.inv_ref w;dsimp only at b;split at b;rename_i x L;obtain⟨C,c,_⟩:=dq.cls A b.1;obtain⟨D,z,B⟩:=o.obj n a _ j L;have y:D=C:=by have:=z.symm.trans c.at_;cases this;rfl
  subst y;exact .inr ⟨a,D,a9,rfl,B,c.own,c.val,k _ _ ⟨_,t,i,o,g1,.bl a9,b.2⟩⟩;exact b.elim
 |_=>exact b.elim⟩
end
structure RoomH(k:Nat)(A:e7):Prop where
 dp:A.depth+3*k+5<recursionLimit
 un:A.units+16*k+200<k7
theorem Room.held(r:Room k A)(h:Option b7):RoomH k (A.mark h):=⟨r.dp,r.un⟩
theorem RoomH.mono(r:RoomH k A)(h:j<=k):RoomH j A:=⟨by have:=r.dp;lia,by have:=r.un;lia⟩
theorem RoomH.deeper(r:RoomH (k+1) A)(env:Env):RoomH k (A.deeper env):=⟨by have:=r.dp;show A.depth+1+3*k+5<_;lia,by have:=r.un;show A.units+3+16*k+200<_;lia⟩
theorem RoomH.depth(r:RoomH k A):A.depth<recursionLimit:=by have:=r.dp;lia
noncomputable abbrev Qa(P:c7)(w:c6)(K:v9)(mg:c5->Option b7)(base:d5)(N:List c5)(qual:c5)(scope:f6)(f:c8)(cd:b7)(A:e7)(outer:List Env)(s:e8)(H:Hp)(E:XK):Cx:={ pL K9 P w K mg base N qual scope f cd A outer s H E with calm:=bt,xe:=λ_ _=>False }
structure Ph(P:c7)(w:c6)(K:v9)(mg:c5->Option b7)(base:d5)(k:Nat)(f:c8)(fd:k9)(ps:List c5)(sp:Sp):Prop where
 len:∀vs H Q E,sp vs H Q E->vs.length=ps.length
 run:∀(A:e7) (outer:List Env) (s:e8) (H:Hp) (args:Args) (us:List b7) (vs:List V) (Q:VK) (E:XK),RoomH k A->Env0 P w K mg base A outer s H->BindsTo s fd args (ps.zip us)->az vs us->sp vs H Q E ->l7 (ge P w) A (.call (.ref f) args) (CR K9 outer P w H s Q E) s
theorem Ph.more{P:c7}{w:c6}{K:v9}{mg:c5->Option b7}{base:d5}{j k:Nat}{f:c8}{d:k9}{ps:List c5}{sp:Sp}(F:Ph P w K mg base j f d ps sp)(h:j<=k):Ph P w K mg base k f d ps sp:=⟨F.len,λA o s H O us vs Q E i=>F.run A o s H O us vs Q E<|i.mono h⟩
theorem Kr{P:c7}{w:c6}{K:v9}{mg:c5->Option b7}{base:d5}{k:Nat}{f:c8}{name l:c5}{p:Arguments}{a:List i5}{scope:f6}{U kV j pm c T oc:b7}{O od:Option c8}{G:Array (Option b7)}{N ps:List c5}{sp:Sp} (lk:K.lookup f=a7 ⟨oc,od,.func<|M9 name l p a scope U kV j pm O c T,G⟩) (D:Pq K c l=a9) (S:FnScope N ps scope)(C:∀vs H Q E,sp vs H Q E->vs.length=ps.length)(h:∀(A:e7) (outer:List Env) (s:e8) (H:Hp) (vs:List V) (Q:VK) (E:XK),RoomH k (A.deeper<|b9 l scope s.heap.objs.size f c)->sp vs H Q E -> ∃t,Lw (Qa P w K mg base N l scope f c A outer s H E) a t/\t { nx:=λ_ H'=>Q .non H',rt:=Q } (start N vs) H):Ph P w K mg base (k+1) f (M9 name l p a scope U kV j pm O c T) ps sp:=by
 refine⟨C,λA outer s H R us vs Q E Z d hb r B=>?_⟩;have hl:=C _ _ _ _ B;have X:K.In s.heap:=d.mod.kin.keeps λb o e=>(d.bs b o e).1;have F:s.heap.NoLimit:=d.mod.nolimit.keeps λb o e=>(d.bs b o e).1;have i:∀y∈ps.zip us,scope.names.lookup y.1=a7 .local\/(scope.names.lookup y.1=a7 .cell/\((cellsFrom (s.heap.objs.size+1) scope.names []).lookup y.1).isSome=a9):=λ⟨n,v⟩ hy=>by rcases S.par n (Qp hy).1 with q|q;exact .inl q;exact .inr ⟨q,RB _ _ _<|.inl q⟩
 refine codeAny_call_function Z.depth (X _ _ lk) rfl S.co S.gen rfl (PySem.W.codeRec_of X D)<|hb _ _ _ _ ?_;refine wpAny_newFunctionEnv_cells S.kind i λenv he M x=>?_;subst he;refine⟨F.keeps x.toInCall.keep,codeAny_func ?_⟩;obtain⟨t,ht,hq⟩:=h A outer s H vs Q E (Z.deeper _) B;have e1:Env0 P w K mg base { A with handled:=a8 } outer s H:=⟨d.frames,d.mod,d.bs,d.bsz,d.funs,d.frf,d.hok,d.bare⟩
 have Y:v4 (pL K9 P w K mg base N l scope f c { A with handled:=a8 } outer s H E) [] (start N vs) H M:=sI S rfl e1 hl r x;have I:v4 (Qa P w K mg base N l scope f c A outer s H E) [] (start N vs) H M:=⟨⟨Y.ok.mod,Y.ok.kind,Y.ok.glob,Y.ok.blt,Y.ok.above,Y.ok.inj,Y.ok.has,Y.ok.cab,(λz=>Bool.noConfusion z),Around.frames_deeper d.frames,Y.ok.stk,Y.ok.exf,Y.ok.bs,Y.ok.bsz,Y.ok.noex,Y.ok.exfs,Y.ok.funs,Y.ok.frf⟩,Y.os,Y.bare,Y.base,Y.loc,Y.cell,Y.free,Y.freeC,Y.pin,Y.hok,Y.len⟩
 refine G4 (ht [] M (start N vs) H _ I hq) (λfl s' hs=>?_) λe s' hs=>hs.elim;have m:∀{g:St}{H':Hp}{v:V}{u:b7},v4 (Qa P w K mg base N l scope f c A outer s H E) [] g H' s'->aL v u->Q v H'->CE outer P w H s Q u s':=λ{g H' v u} J L q=>⟨v,H',J.os,J.bare,J.base,J.hok,L,q⟩
 cases fl with
 |ret u=>obtain⟨v,g,H',J,L,q⟩:=hs;exact m J L q
 |next=>obtain⟨g,H',J,q⟩:=hs;exact m (v:=V.non) (u:=K1) J rfl q
 |brk=>obtain⟨_,_,_,q⟩:=hs;exact J2 q
 |cont=>obtain⟨_,_,_,q⟩:=hs;exact J2 q
def Lq(P:c7)(w:c6)(K:v9)(mg:c5->Option b7)(base:d5)(k:Nat)(x:c5)(ps:List c5)(c:B5):Prop:=∃f d,Ph P w K mg base k f d ps (Mr K c)/\mg x=a7 (.ref f)/\Nt K (.ref f)=a9/\mX K d ps []
abbrev DerH(P:c7)(w:c6)(K:v9)(mg:c5->Option b7)(base:d5)(k:Nat)(x:c5)(N:List c5)(st:i5)(t:v7):Prop:=∀(f:c8) (cdv:b7) (A:e7) (outer:List Env) (s:e8) (H:Hp) (E:XK),RoomH k (A.deeper<|Rr x (av st) s.heap.objs.size f cdv)->HB (Qa P w K mg base N x (av st) f cdv A outer s H E) (bB st) t
section
variable{P:c7}{w:c6}{K:v9}{mg:c5->Option b7}{base:d5}{x:c5}{st:i5}{N ps:List c5}{k:Nat}{Pr:B5}{B:List c5}{C:List (c5×Int)}{t:v7}
theorem Lq.by(T:TopB mg B C)(F:cy K mg x st ps)(l:FnScope N ps (av st))(n:dz Pr ps)(d:TopB mg B C->N.Nodup->DerH P w K mg base k x N st t)(O:∀ds M R,Pr ds M R->t (EE M R) (cc N ds) M):Lq P w K mg base (k+1) x ps Pr:=by obtain⟨f,u,i,G,y⟩:=F;refine⟨f,u,?_,G,i.kp,y⟩;obtain⟨W,X,kV,p,Y,U,c,V,L,rfl,J,e⟩:=i.ex;refine Kr J e l (λvs H Q E ⟨ds,M,ρ,R,s,r,q,_⟩=>by rw[<-r.length];exact n ds M R q) λA o s H vs Q E I h=>?_;obtain⟨ds,M,ρ,R,m,r,q,D⟩:=h;refine⟨lowS K t,(d T l.nd f c A o s H E I).ok,cc N ds,M,ρ,_,m,SRep.start r N,O ds M R q,⟨λb H' ⟨S,M',ρ',s',g,a,j⟩=>?_,λv H' z=>D v H'<|VQ.endq m z,λb H' ⟨S,M',ρ',s',g,a,j⟩=>j.elim,λb H' ⟨S,M',ρ',s',g,a,j⟩=>j.elim⟩⟩;exact D .non H'<|VQ.endq m ⟨.non,M',ρ',s',g,.non,j⟩
end
section
variable{X:Cx}{a:c8}{e:f9}{es:List f9}{x:c5}{p pos:i0}{t:G1}
theorem JV(C:Lq X.prog X.w X.K X.mg X.base j x ps P)(T:Room k X.A)(E:HA (X.held a) (e::es) t)(hj:Nat.ble j k=a9:=by kernel_rfl)(R:X.env.kindOf x=a7 .globalImplicit:=by kernel_rfl)(g:(x==("__debug__":c5))=bt:=by kernel_rfl) (J:i4 (e::es) X.env=(bt,eval e X.env)::i4 es X.env:=by kernel_rfl) (l:(i3 pos<|i4 es X.env).any (·.1)=bt:=by kernel_rfl):HE (X.held a) (.Call (.Name x p) (e::es) [] pos) (w6 P t):=⟨by
 rintro c s σ H Q I ⟨S,M,ρ,F,W,Y,q,k⟩;obtain⟨f,Z,o,O,L,G⟩:=C;refine Os<|jn I R O ?_ g;refine Ro (h₀:=X.base) I.ok.mod.kin L (A1 (E.ok pos c s σ H _ I ⟨S,M,ρ,_,W,Y,q,λ_ _ z=>z⟩) λus y z=>?_) J l;obtain⟨vs,H1,d,r,ds,B,m,i,g1,V,U⟩:=z;refine⟨d.kIn,?_⟩;have b:Mr X.K P (vs++[]) H1 Q E0:=⟨ds,B,m,F,i,by rw[LS];exact V,U,λv H' w=>k v H'<|VQ.trans g1 w⟩
 have n:az (vs++[]) (us++[]):=by rw[LS,LS];exact r
 have N:(us++[]).length=ps.length:=by rw[<-n.length];exact o.len _ _ _ _ b
 refine l8<|Na ((o.more<|Rx hj).run (X.held a).A X.stack y H1 ⟨us,[]⟩ (us++[]) (vs++[]) Q E0 (T.held _) d.env0 (G y us d.kIn N) n b) λr s' h=>?_;cases r with
 |error e=>exact J2 h
 |ok D =>
  cases D with
  |ret u=>exact d.after h
  |next=>exact J2 h
  |brk=>exact J2 h
  |cont=>exact J2 h⟩
end
def Q4(r:G3)(a:Bv)(b:A0):Bv:=λR=>u9 r (a R) b
section
variable{b:Bool}{X:Cx}{a c:f9}{pos:i0}{ta:Bv}{tb:A0}
theorem Jt(D:Pg b X a ta)(G:HE X.nox c tb)(hs:pS c:=by intro _ _;kernel_rfl):Pg b X (.Subscript a c pos) (Q4 w9 ta tb):=⟨by rintro e s σ H Q E P Ex A p I ⟨S,M,ρ,F,R,U,l,q,k,x⟩;refine Subscript_<|A1 (D.ok e s σ H _ E P Ex A p I ⟨S,M,ρ,_,R,U,l,q,λ_ _ z=>z,x⟩) ?_;rintro v O ⟨y,H1,o,L,d,B,h,f,g1,r',J⟩;refine G4 (G.ok e O σ H1 _ (o.wish _) ⟨S,B,h,_,f,l.grow g1,J,λ_ _ z=>z⟩) (λu T ⟨W,m,t,N,C,M2,i,g,j,V,K⟩=>?_) λ_ _ z=>J2 z;refine G4 (Aj (X:=X.nox) a c e T σ m y W v u Q t L N ⟨d,C,M2,i,F,g,r'.grow j,V,K,λv H' w=>k v H'<|VQ.trans (g1.trans j) w⟩<|hs _ _) (λ_ _ ⟨y,H',n,r,q⟩=>⟨y,H',n.unwish,r,q⟩) λ_ _ z=>J2 z⟩
end
end L2
namespace L2
open PySem PySem.Spec PyProof.Rows DL PySem.W
noncomputable def Itq(a:c8)(n ep:Nat):It:=⟨λi H=>∃xs x v,H a=a7 (.ext<|dQ a ep xs)/\xs.length=n/\xs[i]?=a7 x/\aL v x.2.2,λi H v H'=>∃(T:c8) (x:D×c8×b7) (y:V),v=.ref T/\H T=a8/\H'=A2 H T (.tup [.ref x.2.1,y])/\aL y x.2.2/\∀xs,H a=a7 (.ext<|dQ a ep xs)->∃z:D×c8×b7,xs[i]?=a7 z/\z.2=x.2,λi H=>(∃xs,H a=a7 (.ext<|dQ a ep xs)/\xs.length=n)/\i=n⟩
def OutQ(h:d5)(it d:c8)(i n ep:Nat):Prop:=∃ok b,cH h it d i n ep .none (.bool bt) ok b
theorem wV{P:c7}{w:c6}{K:v9}{Y:List f9}{x1:Nat}{pos:i0}(a it:c8)(n ep:Nat):Turn P w K (.Tuple Y x1 pos) (Itq a n ep) [it] it (λi h=>OutQ h it a i n ep) where
 mem:=by simp
 obj:=λi h t b j=>by
  obtain rfl:b=it:=by simpa using j
  obtain⟨ok,g,e⟩:=t;exact⟨_,e,λv z=>by cases z⟩
 keep:=λi h h' ⟨ok,g,e⟩ k=>⟨ok,g,k it (by simp) _ e⟩
 item:=by
  rintro X N U M u i q s σ H E I y ⟨ok,g,t⟩ R;subst N U M;obtain⟨xs,x,v,L,rfl,hx,hv⟩:=R;obtain⟨es,F,r,eg⟩:=pI I L;obtain⟨e,C,V,W⟩:=eg i x hx;obtain⟨J,f1,f2,f3,f4,f5⟩:=y it (by simp);have f:i<es.size:=(MU.mp C).1;have Z:es[i]=e:=by rw[K5 f]at C;exact D0 C
  rw[<-r]at t;have l:it<s.heap.objs.size:=A5 t;refine AD (S:=it) ⟨_,_,_,_,t,.inl ⟨rfl,rfl⟩⟩ l F f λh' _ hT hz hk op=>?_;have o':=op _ _ t;rw[Z,V,W]at hT o';refine⟨_,rfl,?_⟩;refine wpAny_letOwnedTupleGo_items (s:={ s with heap:=h' }) (show IsItemIterOut h' it a (i+1) es.size ep (.ref x.2.1) x.2.2 s.heap.objs.size from o') λh2 p T=>?_;have d:J3 it h' h2:=T;have O:h2.get? s.heap.objs.size=a7 { cls:=.type "tuple",data:=.seq #[.ref x.2.1,x.2.2] }:=d.extBut _ _ (MJ l) hT;refine⟨.ref s.heap.objs.size,A2 H s.heap.objs.size<|.tup [.ref x.2.1,v],?_,rfl,⟨s.heap.objs.size,x,v,rfl,I.hok.fresh<|x9 _,rfl,hv,λys hy=>?_⟩,?_,λb j=>?_⟩;refine I.turnedT (t':=s.toks) y (λc o u e=>?_) (x9 _) ⟨by simp[Mh],[.ref x.2.1,x.2.2],.cons rfl<|.cons hv .nil,⟨_,O,rfl,⟨0,rfl⟩,rfl⟩⟩;have m:c≠it:=by simpa using u
  exact d.extBut _ _ m<|hk _ _ m e;obtain⟨ai,G,ab,D⟩:=pI I hy;obtain⟨rfl,_⟩:=wu F G;have hj:i<ys.length:=by lia
  obtain⟨e',z1,B,z2⟩:=D i ys[i]<|A4 hj;rw[K5 f,Z]at z1;obtain rfl:=D0 z1;rw[V]at B;rw[W]at z2;injection B with B;exact⟨ys[i],A4 hj,Prod.ext B.symm z2.symm⟩;rw[r]at p;exact⟨_,_,p⟩;obtain rfl:b=it:=by simpa using j
  rw[au<|A8 l];exact J
 done:=by rintro X N U M u i q s σ H E I y ⟨ok,g,t⟩ R;subst N U M;obtain⟨⟨xs,L,rfl⟩,rfl⟩:=R;obtain⟨es,F,r,eg⟩:=pI I L;obtain⟨J,f1,f2,f3,f4,f5⟩:=y it (by simp);rw[<-r]at t;exact Dt (S:=it) (I.ok.hd u) ⟨_,_,_,_,t,.inl ⟨rfl,rfl⟩⟩ F λh' he=>⟨rfl,I.turned (t':=s.toks) (λb o j e=>he b o j e) J f1 f3 f4 f5⟩
 self:=λA i s Q E ⟨ok,g,t⟩ hQ=>kcp_self (show IsItemIter s.heap it a i n ep ok g from t) hQ
theorem Dw{K:v9}{M:v8}{n:Nat}{a:c8}{kvs:List (D×D)}(s:pW M n kvs):∃ep,∀ρ' M' H',z6 K ρ' M' H'->ρ'[n]?=a7 a->M'[n]?=M[n]?->∃ys,H' a=a7 (.ext<|dQ a ep ys)/\Paired (oo K ρ' H') kvs ys/\ys.length=kvs.length:=by
 have B:∀{ρ':List c8}{H':Hp}{ys:List (D×c8×b7)},Paired (oo K ρ' H') kvs ys->ys.length=kvs.length:=λi=>by have:=u6 Ma<|eI i;rwa [x6,x6]at this
 rcases s with s|⟨ep,s⟩
 refine⟨kvs.length,λρ' M' H' s' f ok=>?_⟩;obtain⟨_,_,_,ys,Q,i⟩:=s'.obj _ _ _ f<|ok.trans s;refine⟨ys,?_,i,B i⟩;rw[<-B i];exact Q;refine⟨ep,λρ' M' H' s' f ok=>?_⟩;obtain⟨_,_,_,ys,Q,i⟩:=s'.obj _ _ _ f<|ok.trans s;exact⟨ys,Q,i,B i⟩
section
variable{X:Cx}{o:f9}{to:A0}{apos cpos:i0}{elts:List f9}{x1 k:Nat}{pos:i0}
def my(o:A0):L8:=λS M R=>o S M λd a=>match d with
 |.ref n=>∃kvs,pW a n kvs/\(kvs.length<=sizeLine->R ⟨kvs.map<|λp=>.tup [p.1,p.2],λM=>M[n]?=a[n]?⟩ a)
 |_=>False
theorem AK(ho:DE X o to)(l:n0 o "items" X.env (eval o X.env)=eval o X.env:=by rfl)(m:(apos.endLine==cpos.line)=a9:=by rfl):DI X (.Tuple elts x1 pos) (.Call (.Attribute o "items" apos) [] [] cpos) (my to):=by
 intro c s σ H R I h;obtain⟨S,M,ρ,Q,sm,sr,q,k⟩:=h;refine wpAny_Call_method0_late l m<|A1 (ho c s σ H _ I ⟨S,M,ρ,_,sm,sr,q,λv H' w=>w⟩) ?_;rintro u J ⟨v,H1,P,B,d,A,L,t,g1,r1,q1⟩;cases r1 with
 |@ref n a E =>
  obtain rfl:u=F6 a:=B;obtain⟨kvs,hM,q2⟩:=(show ∃kvs,pW A n kvs/\(kvs.length<=sizeLine->Q ⟨kvs.map<|λp=>.tup [p.1,p.2],λM=>M[n]?=A[n]?⟩ A)from q1)
  obtain⟨_,_,_,_,dd,Y,hz,_⟩:=wv P t E hM;obtain⟨V,f⟩:=Dw (K:=X.K) (a:=a) hM;obtain⟨xs,hH,r,hx⟩:=f L A H1 t E rfl;obtain⟨es,em,el,_⟩:=pI P hH;refine⟨"dict","dict.items",QO,PySem.F.slot_dict_items,PySem.F.type_dict_items,dd.typeIs,λb z=>?_,PR rfl<|PySem.evalArgs_none<|AC Y em ?_⟩;cases z;obtain⟨ob,_,_,h1,h2,_⟩:=dd;exact⟨ob,h1,h2.2.1⟩;have C:v4 X c σ H1 { J with heap:=J.heap.push { cls:=.type "dict_items",data:=.fields #[.ref a] } }:=P.kept (t':=J.toks) λb o e=>A3 _ e;have U:dh ({ J with heap:=J.heap.push { cls:=.type "dict_items",data:=.fields #[.ref a] } }:e8).heap a es V:=em.to λo e=>A3 _ e;refine AE (d:=a) ⟨_,C7 _ rfl,rfl,rfl⟩ U ?_;rw[el];have W:∀j:e8,v4 X c σ H1 j->Qb X c σ (.Tuple elts x1 pos) R (.ref j.heap.objs.size) { j with heap:=j.heap.push { cls:=.type "dict_itemiterator",data:=.fields #[.none,.bool bt,.ref a,.int 0 0,.int xs.length 0,.int V 0,.none,.none] } }:=λj C=>by
   refine⟨j.heap.objs.size,[j.heap.objs.size],_,_,H1,rfl,C.kept (t':=j.toks) λb o e=>A3 _ e,wV a _ xs.length V,⟨_,_,C7 _ rfl⟩,λb hb=>?_,k _ H1 ⟨⟨kvs.map<|λp=>.tup [p.1,p.2],λM=>M[n]?=A[n]?⟩,A,L,t,g1,?_,q2 hz⟩⟩;obtain rfl:b=j.heap.objs.size:=by simpa using hb
   exact C.fpOk (x9 _)<|C.hok.fresh<|x9 _;refine⟨λi ρ' M' H' s' g ok hi=>?_,λi ρ' M' H' x H2 s' g ok hi y=>?_,λρ' M' H' s' g ok=>?_⟩;obtain⟨ys,G,O,ly⟩:=f ρ' M' H' s' (ap g.pre E) ok;rw[x6]at hi;have hj:i<ys.length:=by lia
   obtain⟨p,_,_,_,_,v,_,B⟩:=cU O<|A4 hj;exact⟨ys,ys[i],v,G,by lia,A4 hj,B⟩;obtain⟨T,x0,y0,rfl,N,rfl,rz,D⟩:=y;obtain⟨ys,G,O,_⟩:=f ρ' M' H' s' (ap g.pre E) ok;obtain⟨z,Z,ez⟩:=D ys G;obtain⟨p,hp,_,_,rk,v,rp,B⟩:=cU O Z;rw[ez]at rk B;obtain rfl:y0=v:=rz.inj B;exact⟨.tup [p.1,p.2],ρ',by rw[E1,hp];rfl,s'.laid N,Grow.laid N,.tup (C5.of aJ)<|.cons (rk.grow<|Grow.laid N)<|.cons (rp.grow<|Grow.laid N) .nil⟩;obtain⟨ys,G,O,ly⟩:=f ρ' M' H' s' (ap g.pre E) ok;exact⟨⟨ys,G,by lia⟩,by rw[x6];lia⟩
  exact W _ C
 |_=>exact q1.elim
theorem Ae(B:HE X o to)(b:n0 o "items" X.env (eval o X.env)=eval o X.env:=by kernel_rfl)(c:(apos.endLine==cpos.line)=a9:=by kernel_rfl):HI X (.Tuple elts x1 pos) (.Call (.Attribute o "items" apos) [] [] cpos) (my to):=⟨AK B.ok b c⟩
def oN:G3:=λx y M Q=>match x,y with
 |.tup ks,.ref n=>∃kvs,pW M n kvs/\cz 8 (.tup ks)=a9/\Q (.bl<|!(aI kvs<|.tup ks).isSome) M
 |_,_=>False
theorem zE(i:Room k X.A):G9 X (j8 .NotIn) oN:=by
 rintro p s σ H F G v u R I j o ⟨x,y,M,ρ,Q,m,g,l,q,D⟩;have E:=i.un;cases x with
 |tup ks =>
  cases y with
  |ref n =>
   obtain⟨kvs,h,c,q⟩:=q;obtain⟨a,rfl,f⟩:=w5.inv_ref l;cases o;obtain⟨xs,_,z,r,d,T,B,C,_⟩:=wv I m f h;have t:=cA I 8 _ _ _ g j c;obtain⟨b,_,rfl,_⟩:=id t;refine wpAny_notIn_heap (knd:=aU X.prog X.w) (k:=.tup ks) (by show X.A.units+1+8<k7;lia) t T d ?_;have e:(o0 xs<|.tup ks).isSome=(aI kvs<|.tup ks).isSome:=by rcases mi r (.tup ks)with⟨z1,z2⟩|⟨_,_,_,z1,z2,_⟩<;>rw[z1,z2]<;>rfl
   rw[e];exact eN (I.tok _) m D q
  |_=>exact q.elim
 |_=>exact q.elim
theorem Ao(i:Room k X.A):H9 X (j8 .NotIn) oN:=⟨zE i⟩
end
end L2
namespace L2
open PySem PySem.Spec PyProof.Rows DL
abbrev DTAX:=DX->G1
inductive lowXA(K:v9)(E:XK)(t:DTAX)(σ:St)(H:Hp)(Q:List V->Hp->Prop):Prop
 |mk (S:SD) (M:v8) (ρ:List c8) (F:List D->v8->Prop) (R:DX) (s:z6 K ρ M H) (sr:SRep K ρ H S σ) (q:t R S M F) (k:∀v H',AQ K ρ H F v H'->Q v H') (x:∀C dx H',XQ K ρ H R C dx H'->E C dx H')
structure HXA(b:Bool)(X:Cx)(es:List f9)(t:DTAX):Prop where
 ok:∀(pos:i0) (pins:List (c8×c9)) (s:e8) (σ:St) (H:Hp) (Q:List V->Hp->Prop) (E:XK) (P:St->Prop) (Ex:b7->e8->Prop),XA b X pins E P Ex->P σ->v4 X pins σ H s->lowXA X.K E t σ H Q->f8 (ge X.prog X.w) X.A (spliced<|i3 pos<|i4 es X.env) (AP X pins σ Q) Ex s
end L2
namespace LW
open PySem L2
local macro_rules | `(tactic| walk_at"sc")=>`(tactic| exact⟨rfl,rfl,rfl,by decide +kernel,rfl,by decide +kernel,by decide +kernel⟩)
local macro_rules | `(tactic| walk_at"dl")=>`(tactic| simp only[EE,Nz,EI,Q5,xSet,EJ,O0,Q4,uY,dTry,wx,dIsV,aB,C9,DM,pK,NS,ax,w6,aa,ag,aP,eY,dOrV,AT,LH,pV,cJ,af,bp,bd,iM,jP,u9,sR,dC,ac,cQ,gM,Oy,uQ,mx,P9,Ms,bK,nT,qAdd,aK,Hs,jU,aN,bY,Ni,O3,NQ,O4,NA,D3,P6,tF,jV,Hu,w9,P5,bQ,Ld,AL,dL,aA,dN,dZip,xa,eV,DN,xO,fI,mV,dO,jq,P8,rJ,oh,Bu,oM,oN,my,iA,ww,zd,Ir,gQ,GV,iX,SqAt,Fa,lE,iL,Oz,Oc,Rc,Fn,Ra,cc,KQ,D7,Pk,OP,LB,List.getElem?_cons_zero,QP,E9,G8,List.replicate_zero,List.replicate_succ,List.set_cons_zero,List.set_cons_succ,No,Nat.reduceAdd,Nat.reduceSub,Option.join_some,u5,u4,C4])
noncomputable def top(i:Nat):i5:=PySem.Challenge.pw_talkmarks_k30_likes.main.body.getD i<|.Pass ⟨0,0,0,0⟩
noncomputable abbrev T_:xX:=[(v6 "NoMessage",[(v6 "NotYours",bt),(v6 "NoHouse",bt),(v6 "NoMessage",a9),(v6 "NoRoom",bt),(v6 "NoDeed",bt),(v6 "NoWhat",bt),(v6 "NoName",bt),(v6 "NoSaying",bt),(v6 "Gap",bt),(v6 "Clash",bt),(v6 "NoRow",bt),(v6 "Strange",bt),(v6 "TalkError",a9)])]
noncomputable abbrev B_:List c5:=["int","isinstance","bool","tuple","len","dict","sorted","set","range","max","str","list","zip","all","ValueError"]
noncomputable abbrev C_:List (c5×Int):=[]
noncomputable abbrev jb:List c5:=["thing"]
noncomputable abbrev cX:List c5:=["least","thing"]
noncomputable abbrev eD:List c5:=["many","thing"]
noncomputable abbrev lO:List c5:=["house","name"]
noncomputable abbrev lP:List c5:=["house","thing"]
noncomputable abbrev fA:List c5:=["house","room"]
noncomputable abbrev jc:List c5:=["house","thing"]
noncomputable abbrev iZ:List c5:=["deed"]
noncomputable abbrev gR:List c5:=["deed"]
noncomputable abbrev cY:List c5:=["log","kind"]
noncomputable abbrev lL:List c5:=["say"]
noncomputable abbrev iY:List c5:=["say"]
noncomputable abbrev gU:List c5:=["house","say","elders"]
noncomputable abbrev cj:List c5:=["house","log"]
noncomputable abbrev dB:List c5:=["deed","says"]
noncomputable abbrev eA:List c5:=["log","kind","says"]
noncomputable abbrev dA:List c5:=["log","says"]
noncomputable abbrev bI:List c5:=["log","says"]
noncomputable abbrev fx:List c5:=["say","changes"]
noncomputable abbrev fv:List c5:=["house","log"]
noncomputable abbrev oT:List c5:=["house","log","stamp"]
noncomputable abbrev fy:List c5:=["house","log","stamp"]
noncomputable abbrev fB:List c5:=["log","stamp","members"]
noncomputable abbrev cW:List c5:=["likes"]
noncomputable abbrev ja:List c5:=["house","log","stamp"]
noncomputable abbrev lQ:List c5:=["_law_script","_law_k"]
noncomputable abbrev ud:List c5:=["_law_cell","_law_k"]
noncomputable abbrev zq:List c5:=["_law_cell","_law_k"]
noncomputable abbrev lN:List c5:=["_law_script","_law_start","_law_most"]
noncomputable abbrev uc:List c5:=["_law_number","_law_many"]
noncomputable abbrev uf:List c5:=["_law_cell"]
noncomputable abbrev uh:List c5:=["_law_house_here"]
noncomputable abbrev oS:List c5:=["_law_number","_law_names_here"]
noncomputable abbrev zp:List c5:=["_law_number","_law_says","_law_hands_here"]
noncomputable abbrev oR:List c5:=["_law_number","_law_hands_here","_law_counts"]
noncomputable abbrev zo:List c5:=["_law_number","_law_house_here","_law_says","_law_hands_here"]
noncomputable abbrev Fy:List c5:=["_law_number","_law_house_here","_law_says","_law_hands_here","_law_counts"]
noncomputable abbrev Fv:List c5:=["_law_house_here","_law_numbers_here","_law_hands_here"]
noncomputable abbrev jd:List c5:=["_law_house_here","_law_log_here"]
noncomputable abbrev ub:List c5:=["_law_house_here","_law_log_here"]
noncomputable abbrev ui:List c5:=["_law_told_here","_law_due_here"]
noncomputable abbrev ue:List c5:=["_law_e"]
noncomputable abbrev Fx:List c5:=["_law_house_here","_law_log_here","_law_stamp","_law_room"]
noncomputable abbrev lM:List c5:=["_law_house_here","_law_log_here","_law_stamp"]
noncomputable abbrev Fw:List c5:=["_law_script"]
structure Tops(P:c7)(w:c6)(K:v9)(mg:c5->Option b7)(base:d5):Prop where
 f_is_whole:cy K mg "is_whole" (top 15) jb
 f_is_whole_from:cy K mg "is_whole_from" (top 16) cX
 f_is_tuple_of:cy K mg "is_tuple_of" (top 17) eD
 f_many_of:cy K mg "many_of" (top 19) lO
 f_is_hand:cy K mg "is_hand" (top 20) lP
 f_members_of:cy K mg "members_of" (top 21) fA
 f_is_stamp:cy K mg "is_stamp" (top 23) jc
 f_stamp_of:cy K mg "stamp_of" (top 24) iZ
 f_person_of:cy K mg "person_of" (top 25) gR
 f_deeds_of_kind:cy K mg "deeds_of_kind" (top 27) cY
 f_room_of:cy K mg "room_of" (top 29) lL
 f_under_of:cy K mg "under_of" (top 30) iY
 f_can_stand:cy K mg "can_stand" (top 31) gU
 f_says_that_count:cy K mg "says_that_count" (top 32) cj
 f_is_by_writer:cy K mg "is_by_writer" (top 33) dB
 f_writers_own:cy K mg "writers_own" (top 34) eA
 f_last_changes:cy K mg "last_changes" (top 35) dA
 f_stamps_taken_back:cy K mg "stamps_taken_back" (top 36) bI
 f_message_of:cy K mg "message_of" (top 37) fx
 f_says_shown:cy K mg "says_shown" (top 38) fv
 f_say_at:cy K mg "say_at" (top 39) oT
 f_message_at:cy K mg "message_at" (top 40) fy
 f_last_likes:cy K mg "last_likes" (top 42) fB
 f_names_by_sort:cy K mg "names_by_sort" (top 43) cW
 f_likes_of:cy K mg "likes_of" (top 44) ja
 f_cell_at:cy K mg "_law_cell_at" (top 46) lQ
 f_mixed:cy K mg "_law_mixed" (top 47) ud
 f_free:cy K mg "_law_free" (top 48) zq
 f_numbers:cy K mg "_law_numbers" (top 49) lN
 f_names:cy K mg "_law_names" (top 50) uc
 f_house:cy K mg "_law_house" (top 51) uf
 f_hands:cy K mg "_law_hands" (top 52) uh
 f_saying:cy K mg "_law_saying" (top 53) oS
 f_told:cy K mg "_law_told" (top 54) zp
 f_vector:cy K mg "_law_vector" (top 55) oR
 f_what:cy K mg "_law_what" (top 56) zo
 f_act:cy K mg "_law_act" (top 57) Fy
 f_log:cy K mg "_law_log" (top 58) Fv
 f_counting:cy K mg "_law_counting" (top 59) jd
 f_shown:cy K mg "_law_shown" (top 60) ub
 f_alike:cy K mg "_law_alike" (top 61) ui
 f_kinds:cy K mg "_law_kinds" (top 62) ue
 f_due:cy K mg "_law_due" (top 63) Fx
 f_refused:cy K mg "_law_refused" (top 64) lM
 f_law:cy K mg "law" (top 65) Fw
 b:TopB mg B_ C_
 cl:dq K T_=a9
local macro_rules | `(tactic| walk_at"bb")=>`(tactic| first|exact Lm|exact Hq|exact Ho|exact Ll|exact eP|exact Lk|exact Hn|exact Lj|exact Bk|exact Li|exact Ea)
local macro_rules | `(tactic| walk_at"tb")=>`(tactic| exact TopB.no (by k_dflt assumption) (by kernel_rfl))
local macro_rules | `(tactic| walk_at"dvr")=>`(tactic| (repeat' (first|(with_reducible first|(refine gA ?_;first|exact JL|refine Gk ?_ ?_)|exact k_var|(refine Ko ?_;first|exact k_int|exact k_bl|exact k_non|exact k_str)|(refine gCall ?_;first|refine JN (by k_dflt assumption) ?_ ?_|refine Gp ?_ ?_|refine xF (by k_dflt assumption) ?_ (by walk_at"tb") (by walk_at"tb")|refine Gr ?_ (by walk_at"tb") (by walk_at"bb") ?_|refine CV ?_ (by walk_at"tb") (by walk_at"bb") ?_|refine k_cal (by k_dflt assumption) (by k_dflt assumption) ?_ (hj:=Nat.ble_eq_true_of_le (by lia))|refine JV (by k_dflt assumption) (by k_dflt assumption) ?_|refine Gm (by k_dflt assumption) ?_ ?_|refine k_ms ?_ ?_ ?_|refine k_ml ?_ ?_ ?_)|(refine gIx ?_;first|refine Go ?_ ?_ ?_|refine JP (by k_dflt assumption) ?_ ?_ (hs:=by k_dflt (intro _ _;kernel_rfl))|refine JU (by k_dflt assumption) ?_ ?_ (hs:=by k_dflt (intro _ _;kernel_rfl))|refine JS (by k_dflt assumption) ?_ ?_ (hs:=by k_dflt (intro _ _;kernel_rfl))|refine k_ix ?_ ?_ (hs:=by k_dflt (intro _ _;kernel_rfl)))|(refine gT ?_;first|refine Jz ?_ ?_ ?_|refine Jy ?_|refine kw_t (Ep ?_ ?_)|refine kw_t (Jw ?_ ?_)|refine Jx ?_)|(refine gE ?_;first|exact JT|exact JO|exact JM (by walk_at"tb") (by walk_at"bb")|refine k_op ?_ ?_ ?_|refine k_not ?_|refine k_cmp ?_ ?_ ?_|refine Gq ?_ ?_ ?_ ?_ ?_|refine k_one ?_|refine k_and ?_ ?_|refine k_or ?_ ?_|refine k_tup ?_|refine k_lst ?_|refine Gn (by k_dflt assumption) ?_ ?_|refine k_lcN ?_ (λ_ _ _ _=>?_) (λ_ _ _ _=>?_) (λ_ _ _ _=>?_)|refine JQ (by k_dflt assumption) (by walk_at"tb") ?_|refine JR (by k_dflt assumption) (by walk_at"tb") (by walk_at"tb") ?_)|(refine gS ?_;first|exact wk|refine Ab ?_|refine Eu ?_|refine JC ?_ ?_ ?_|refine sF (by k_dflt assumption) ?_ (λ_ _ _ _=>?_) (λ_ _ _ _=>?_) (λ_ _ _ _=>?_)|refine Et (by k_dflt assumption) ?_|refine Ew ?_ ?_|refine Es (by k_dflt assumption) (by k_dflt assumption) ?_ (λ_=>?_)|refine Aa (by k_dflt assumption) ?_ ?_ ?_|refine Ev ?_ ?_ ?_)|(refine gOp ?_;first|exact GA|exact ho_eq (by k_dflt assumption)|exact Gz|exact ho_ge|exact ho_gt|exact ho_in (by k_dflt assumption)|exact Kg (by k_dflt assumption)|exact ho_is|exact ho_le|exact ho_lt|exact Kf|exact Ke|exact ho_ne (by k_dflt assumption)|exact Ao (by k_dflt assumption)|exact An (by k_dflt assumption)|exact Dd (by k_dflt assumption)|exact Kd|exact Kc|exact Kb)|(refine gC ?_;first|exact Kk|exact Ar (by k_dflt assumption)|exact Dk (by k_dflt assumption)|exact Kj|exact Ki|exact GC|exact GB|exact xH (by k_dflt assumption)|exact xG (by k_dflt assumption)|exact Dj)|exact JB|exact Ga|exact Ge|exact Gg|refine JA ?_|refine Ep ?_ ?_|refine Jw ?_ ?_|refine FW ?_|refine Jv ?_|refine FZ ?_|refine Gd ?_|refine Ad (by walk_at"tb") ?_|refine JD (by walk_at"tb") ?_|refine CO ?_|refine CP ?_|refine Ae ?_|refine JE ?_|exact Gh (by k_dflt assumption)|exact JH (Jl (by kernel_rfl))|refine CQ ?_ ?_|refine JF ?_|refine JG ?_ ?_|refine Eo (by k_dflt assumption) (by k_dflt assumption) ?_|refine Jt ?_ ?_ (hs:=by k_dflt (intro _ _;kernel_rfl))|refine Ju ?_ ?_ ?_|refine En (by k_dflt assumption) ?_|refine zW ?_|refine sE (by k_dflt assumption) ?_|refine Js ?_|exact FV|refine zV ?_|refine wj ?_ ?_|exact Ap|exact De)|refine Gc ?_ ?_|refine Ab ?_|refine Eu ?_|refine JC ?_ ?_ ?_|refine sF (by k_dflt assumption) ?_ (λ_ _ _ _=>?_) (λ_ _ _ _=>?_) (λ_ _ _ _=>?_)|refine Et (by k_dflt assumption) ?_|refine Ew ?_ ?_|refine Es (by k_dflt assumption) (by k_dflt assumption) ?_ (λ_=>?_)|refine JQ (by k_dflt assumption) (by walk_at"tb") ?_|refine JR (by k_dflt assumption) (by walk_at"tb") (by walk_at"tb") ?_|refine Eo (by k_dflt assumption) (by k_dflt assumption) ?_|refine Jt ?_ ?_ (hs:=by k_dflt (intro _ _;kernel_rfl))|refine Ju ?_ ?_ ?_|refine En (by k_dflt assumption) ?_|refine zW ?_|refine sE (by k_dflt assumption) ?_|refine Js ?_|refine zV ?_|refine wj ?_ ?_|refine Aa (by k_dflt assumption) ?_ ?_ ?_|refine Ev ?_ ?_ ?_|exact wk)))
local macro_rules | `(tactic| walk_at"dv")=>`(tactic| (intro _ _ _ _ _ _ _ _ _ _;refine GD rfl ?_;walk_at"dvr"))
local macro_rules | `(tactic| walk_at"dvx")=>`(tactic| (intro _ _ _ _ _ _ _ _ _ _;refine Gx rfl ?_;walk_at"dvr"))
section
variable{P:c7}{w:c6}{K:v9}{mg:c5->Option b7}{base:d5}
noncomputable def dj(p:c5×Int):D:=.tup [.str p.1,.int p.2]
def Hd(d:D):Prop:=∃(x:c5) (k:Int),d=.tup [.str x,.int k]
theorem hd_eq(f:Hd a)(d:Hd b):w4 M (n+1) a b=a9↔a=b:=by obtain⟨x,k,rfl⟩:=f;obtain⟨y,l,rfl⟩:=d;show (w4 M n (.str x) (.str y)&&(w4 M n (.int k) (.int l)&&a9))=a9↔_;rw[aO,gZ];simp
theorem hd_ok(f:Hd a):z5 M x5 a=a9:=by obtain⟨x,k,rfl⟩:=f;rfl
theorem hd_key(f:Hd a):cz 8 a=a9:=by obtain⟨x,k,rfl⟩:=f;rfl
noncomputable def vecD(hs:List (D×Int)):List D:=hs.map λp=>.tup [p.1,.int p.2]
noncomputable def HJ(hs:List (D×Int))(d:D)(num:Int):Bool:=match hs.find? λp=>decide (p.1=d) with
 |some p=>decide<|num<p.2
 |none=>bt
noncomputable def Q9:Nat->D->Bool
 |n+1,.tup xs=>xs.all<|Q9 n
 | 0,.tup _=>bt
 |_,.ref _=>bt
 |_,.ty _=>bt
 |_,_=>a9
def G0(n:Nat)(d:D):Prop:=Q9 n d=a9
def jr(n:Nat)(ds:List D):Prop:=ds.all (Q9 n)=a9
theorem G0.non:G0 n .non:=by cases n<;>rfl
theorem G0.bl(b:Bool):G0 n (.bl b):=by cases n<;>rfl
theorem G0.int(i:Int):G0 n (.int i):=by cases n<;>rfl
theorem G0.str(x:c5):G0 n (.str x):=by cases n<;>rfl
theorem jr.nil:jr n []:=rfl
theorem jr.cons(h:G0 n d)(t:jr n ds):jr n (d::ds):=by unfold jr G0 at *;rw[Mi,h,t];rfl
theorem G0.tup(h:jr n ds):G0 (n+1) (.tup ds):=h
theorem jr.of(h:∀d∈ds,G0 n d):jr n ds:=F4.mpr h
theorem cC:∀(n:Nat) (d:D),G0 n d->E7 k d:=by
 intro n;induction n with
 |zero =>
  intro d h;cases d with
  |tup xs=>cases h
  |ref i=>cases h
  |ty t=>cases h
  |non=>exact .non
  |bl b=>exact .bl b
  |int i=>exact .int i
  |str x=>exact .str x
 |succ n c =>
  intro d h;cases d with
  |tup xs=>exact .tup<|Bels.of λx a=>c x<|F4.mp h x a
  |ref i=>cases h
  |ty t=>cases h
  |non=>exact .non
  |bl b=>exact .bl b
  |int i=>exact .int i
  |str x=>exact .str x
theorem pD:∀{xs:List D},(∀x∈xs,f x x=a9)->F0 f xs xs=a9
 | [],_=>rfl
 |x::xs,h=>by show (f x x&&F0 f xs xs)=a9;rw[h x (by simp),pD λy hy=>h y<|D4 _ hy];rfl
theorem vW:∀(n m:Nat) (d:D),n<=m->G0 n d->z5 M m d=a9/\w4 M m d d=a9:=by
 intro n;induction n with
 |zero =>
  intro m d _ h;cases d with
  |tup xs=>cases h
  |ref i=>cases h
  |ty t=>cases h
  |non=>exact⟨zC,by cases m<;>rfl⟩
  |bl b=>exact⟨Ek,by cases m<;>cases b<;>rfl⟩
  |int i=>exact⟨aF,by rw[gZ];exact u7 i⟩
  |str x=>exact⟨aq,by rw[aO];exact u7 x⟩
 |succ n c =>
  intro m d e h;cases m with
  |zero=>lia
  |succ m =>
   cases d with
   |tup xs=>exact⟨FE λx a=>(c m x (by lia)<|F4.mp h x a).1,pD λx a=>(c m x (by lia)<|F4.mp h x a).2⟩
   |ref i=>cases h
   |ty t=>cases h
   |non=>exact⟨zC,rfl⟩
   |bl b=>exact⟨Ek,by cases b<;>rfl⟩
   |int i=>exact⟨aF,by rw[gZ];exact u7 i⟩
   |str x=>exact⟨aq,by rw[aO];exact u7 x⟩
theorem Di(h:Hd d):G0 (n+1) d:=by obtain⟨x,i,rfl⟩:=h;exact .tup<|.cons (.str _)<|.cons (.int _) .nil
theorem Kh(h:Hd d):E7 k d:=cC 1 d<|Di h
def Deed(d:D):Prop:=∃(t:Int) (h:D) (m:Int) (a:D),d=.tup [.int t,h,.int m,a]/\Hd h/\G0 5 a
theorem GX(h:Deed d):G0 6 d:=by obtain⟨t,c,m,a,rfl,b,f⟩:=h;exact .tup<|.cons (.int _)<|.cons (Di b)<|.cons (.int _)<|.cons f .nil
theorem DH(h:Deed d):E7 k d:=cC 6 d<|GX h
theorem KP(h:∀d∈ds,Deed d):Bels k ds:=Bels.of λd a=>DH<|h d a
noncomputable def Dl:D->D
 |.tup (_::h::_)=>h
 |_=>.non
noncomputable def numD:D->Int
 |.tup (_::_::.int n::_)=>n
 |_=>0
noncomputable def many(log:List D)(h:D):Nat:=(log.filter λd=>decide<|Dl d=h).length
theorem iI:aI (fR kvs k d) k=a7 d:=by
 unfold fR;split;rename_i hs;unfold aI at hs ⊢;rw[Qt]at hs;obtain⟨q,h⟩:=OX.mp hs;rw[Po];have e:((λp:D×D=>decide<|p.1=k) ∘ λp:D×D=>if p.1=k then(p.1,d)else p)=λp=>decide (p.1=k):=by funext p;show decide ((if p.1=k then(p.1,d)else p).1=k)=decide (p.1=k);split<;>rfl
 rw[e,h];have a:q.1=k:=by have:=ON h;exact oT_ this
 show a7 (if q.1=k then(q.1,d)else q).2=_;rw[t6 a];rename_i hs;unfold aI at hs ⊢;rw[Qt,Option.not_isSome_iff_eq_none]at hs;rw[Qs,hs];simp
theorem fH(h:j≠k):aI (fR kvs k d) j=aI kvs j:=by
 unfold fR;split;unfold aI;rw[Po];have e:((λp:D×D=>decide<|p.1=j) ∘ λp:D×D=>if p.1=k then(p.1,d)else p)=λp=>decide (p.1=j):=by funext p;show decide ((if p.1=k then(p.1,d)else p).1=j)=decide (p.1=j);split<;>rfl
 rw[e];cases f:kvs.find? λp=>decide (p.1=j) with
 |none=>rfl
 |some q =>
  have a:q.1=j:=by have:=ON f;exact oT_ this
  show a7 (if q.1=k then(q.1,d)else q).2=a7 q.2;rw[t7<|by rw[a];exact h]
 unfold aI;rw[Qs];cases f:kvs.find? λp=>decide (p.1=j) with
 |none=>simp[A7 h]
 |some q=>rfl
theorem fE:∀{kvs:List (D×D)}{p:D×D},(kvs.map (·.1)).Nodup->p∈kvs->aI kvs p.1=a7 p.2
 |q::kvs,p,nd,h=>by rw[D7,LK]at nd;unfold aI;rw[Md];rcases A9.mp h with rfl|h;rw[dT_ rfl];rfl;have:q.1≠p.1:=λz=>nd.1 (by rw[z];exact MS h);rw[dF_ this];exact fE nd.2 h
theorem bw(h:aI kvs k=a7 d):(k,d)∈kvs:=by
 unfold aI at h;obtain⟨q,a,rfl⟩:=MT.mp h;have e:q.1=k:=by have:=ON a;exact oT_ this
 rw[<-e];exact List.mem_of_find?_eq_some a
theorem cI{α:Type}{P:List α->Prop}(a:P [])(h1:∀l x,P l->P (l++[x]))(l:List α):P l:=by
 rw[<-List.reverse_reverse l];induction l.reverse with
 |nil=>exact a
 |cons x xs i=>rw[List.reverse_cons];exact h1 _ _ i
theorem pc(h:ak M n xs)(ok:∀x∈xs,z5 (M++[MO.lst []]) 29 x=a9):(z5 (M++[MO.lst []]) x5 (.ref n)=a9/\z5 (M++[MO.lst []]) x5 (.ref M.length)=a9)/\w4 (M++[MO.lst []]) x5 (.ref n) (.ref M.length)=xs.isEmpty:=by have h1:ak (M++[MO.lst []]) n xs:=h.more _;have h2:ak (M++[MO.lst []]) M.length []:=am;refine⟨⟨oY (n:=29) h1 ok,oY (n:=29) h2 λ_ z=>nomatch z⟩,?_⟩;exact(wt (n:=29) h1 h2).trans GG
theorem wc(h:m≠n)(l:ak M m xs):ak (M.set n x) m xs:=by rcases l with l|l|l;exact .inl (by rw[LU<|A7 h];exact l);exact .inr (.inl<|by rw[LU<|A7 h];exact l);exact .inr<|.inr<|by rw[LU<|A7 h];exact l
theorem bc{M:v8}{m n:Nat}{x y:MO}(h:m≠n)(l:M[m]?=a7 y):(M.set n x)[m]?=a7 y:=by rw[LU<|A7 h];exact l
theorem aE{M:v8}{m:Nat}{y:MO}(l:M[m]?=a7 y):m<M.length:=(B6.mp l).1
theorem rV(l:ak M m xs):m<M.length:=by rcases l with l|l|l<;>exact aE l
theorem ae{B:v8}{q:Nat}{x a:MO}(h:B[q]?=a7 x):(B++[a])[q]?=a7 x:=by rw[LF (B6.mp h).1];exact h
theorem cZ{B:v8}{q:Nat}{x a:MO}(h:B[q]?=a7 x):(B.set q a)[q]?=a7 a:=L7 (B6.mp h).1
theorem bT(p:M <+: B)(l:ak M q xs):ak B q xs:=by obtain⟨L,rfl⟩:=p;exact l.more L
theorem bA{M B:v8}{q:Nat}{x:MO}(p:M <+: B)(l:M[q]?=a7 x):B[q]?=a7 x:=by obtain⟨L,rfl⟩:=p;rw[LF<|aE l];exact l
theorem wo(xs:List Int):Bels k (xs.map D.int):=Bels.of λd h=>by obtain⟨x,_,rfl⟩:=A6.mp h;exact .int x
theorem vR(xs:List c5):Bels k (xs.map D.str):=Bels.of λd h=>by obtain⟨x,_,rfl⟩:=A6.mp h;exact .str x
theorem bR{a b:Int}(h:0<b):0<=a % b:=Int.emod_nonneg _<|by lia
theorem cb{a b:Int}(h:0<b):a % b<b:=Int.emod_lt_of_pos _ h
theorem gP{α:Type}{xs:List α}{i:Int}(h:1<=xs.length):∃x∈xs,atI xs (i % (xs.length:Int))=a7 x:=by obtain⟨j,L,z,_⟩:=Bm (xs:=xs) (bR (a:=i) (b:=xs.length)<|by lia) (cb<|by lia);exact⟨xs[j],Mm L,z⟩
theorem ci(p:M <+: B)(h:M.length<=q):M <+: B.set q x:=by obtain⟨L,rfl⟩:=p;rw[QJ _ _ h];exact LM _ _
noncomputable def cF(p:c5×Int):List D:=(ie 0 p.2.toNat).map λk=>.tup [.str p.1,k]
noncomputable def bb(ps:List (c5×Int)):List D:=ps.flatMap cF
def Rh(ps:List (c5×Int)):Prop:=ps.length<=4/\∀p∈ps,0<=p.2/\p.2<=3
theorem gY:(cF p).length=p.2.toNat:=by simp[cF,ie]
theorem nY(h:∀p∈ps,0<=p.2/\p.2<=3):(bb ps).length<=3*ps.length:=by
 induction ps with
 |nil=>simp[bb]
 |cons p ps i =>
  have:=i λq a=>h q<|D4 _ a;have h1:=h p F5;have e:(bb<|p::ps).length=p.2.toNat+(bb ps).length:=by rw[bb,List.flatMap_cons,E3,gY];rfl
  rw[e,E9];lia
theorem pq:∀d∈bb ps,Hd d:=λd h=>by unfold bb at h;obtain⟨p,_,hp⟩:=List.mem_flatMap.mp h;unfold cF ie at hp;simp only[K2,A6]at hp;obtain⟨i,_,rfl⟩:=hp;exact⟨_,_,rfl⟩
theorem xI:Bels k (bb ps):=Bels.of λd h=>Kh<|pq d h
noncomputable def lD(p:c5×List c5):D:=.tup [.str p.1,.tup<|p.2.map .str]
noncomputable def aC(ps:List (c5×Int))(rs:List (c5×List c5)):D:=.tup [.tup<|ps.map dj,.tup<|rs.map lD]
structure HouseF(ps:List (c5×Int))(rs:List (c5×List c5)):Prop where
 len:1<=ps.length/\ps.length<=4
 many:∀p∈ps,1<=p.2/\p.2<=3
 nm:∀p∈ps,p.1.length<=8
 rl:1<=rs.length/\rs.length<=4
 pnd:(ps.map (·.1)).Nodup
 rnd:(rs.map (·.1)).Nodup
 rm:∀r∈rs,r.2.length<=4
def St(d:D):Prop:=∃(t:Int) (z:c5) (k:Int),d=.tup [.int t,.tup [.str z,.int k]]
theorem St.key(h:St d):cz 8 d=a9:=by obtain⟨t,z,k,rfl⟩:=h;rfl
theorem St.ok(h:St d):z5 M x5 d=a9:=by obtain⟨t,z,k,rfl⟩:=h;rfl
theorem St.pl(h:St d):G0 (n+2) d:=by obtain⟨t,z,k,rfl⟩:=h;exact .tup<|.cons (.int _)<|.cons (.tup<|.cons (.str _)<|.cons (.int _) .nil) .nil
theorem St.eq(f:St a)(d:St b):w4 M (n+2) a b=decide (a=b):=by
 obtain⟨t,z,k,rfl⟩:=f;obtain⟨t',G,I,rfl⟩:=d;have e:w4 M (n+2) (.tup [.int t,.tup [.str z,.int k]]) (.tup [.int t',.tup [.str G,.int I]])=((t==t')&&(((z==G)&&((k==I)&&a9))&&a9)):=by show (w4 M (n+1) (.int t) (.int t')&&((w4 M n (.str z) (.str G)&&(w4 M n (.int k) (.int I)&&a9))&&a9))=_;rw[gZ,aO,gZ]
 rw[e];by_cases h:D.tup [.int t,.tup [.str z,.int k]]=.tup [.int t',.tup [.str G,.int I]];rw[dT_ h];simp only[D.tup.injEq,NZ,D.int.injEq,D.str.injEq,and_true]at h;obtain⟨rfl,rfl,rfl⟩:=h;simp;rw[dF_ h];simp only[D.tup.injEq,NZ,D.int.injEq,D.str.injEq,and_true]at h;refine MQ.mpr λq=>h ?_;simpa using q
theorem St.tup(h:St d):∃ks,d=.tup ks:=by obtain⟨t,z,k,rfl⟩:=h;exact⟨_,rfl⟩
structure ActK(rs:List (c5×List c5))(x:c5)(ds:List D):Prop where
 say:x=v6 "say"->∃(r:c5) (u:D) (s:c5),ds=[.str r,u,.str s]/\r∈rs.map (·.1)/\(u=.non\/St u)
 change:x=v6 "change"->∃(m:D) (s:c5),ds=[m,.str s]/\St m
 back:x=v6 "back"->∃m:D,ds=[m]/\St m
 like:x=v6 "like"->∃(m:D) (s:c5) (b:Bool),ds=[m,.str s,.bl b]/\St m
section
variable{rs:List (c5×List c5)}
theorem xZ:v6 "say"≠v6 "change"/\v6 "say"≠v6 "back"/\v6 "say"≠v6 "like"/\v6 "change"≠v6 "back"/\v6 "change"≠v6 "like"/\v6 "back"≠v6 "like":=by decide +kernel
theorem ActK.mkSay(i:r∈rs.map (·.1))(g:u=.non\/St u):ActK rs (v6 "say") [.str r,u,.str s]:=⟨λ_=>⟨r,u,s,rfl,i,g⟩,λe=>t8 e xZ.1,λe=>t8 e xZ.2.1,λe=>t8 e xZ.2.2.1⟩
theorem ActK.mkChange(h:St m):ActK rs (v6 "change") [m,.str s]:=⟨λe=>t8 e.symm xZ.1,λ_=>⟨m,s,rfl,h⟩,λe=>t8 e xZ.2.2.2.1,λe=>t8 e xZ.2.2.2.2.1⟩
theorem ActK.mkBack(h:St m):ActK rs (v6 "back") [m]:=⟨λe=>t8 e.symm xZ.2.1,λe=>t8 e.symm xZ.2.2.2.1,λ_=>⟨m,rfl,h⟩,λe=>t8 e xZ.2.2.2.2.2⟩
theorem ActK.mkLike(h:St m):ActK rs (v6 "like") [m,.str s,.bl b]:=⟨λe=>t8 e.symm xZ.2.2.1,λe=>t8 e.symm xZ.2.2.2.2.1,λe=>t8 e.symm xZ.2.2.2.2.2,λ_=>⟨m,s,b,rfl,h⟩⟩
theorem ActK.mkNone(h:x≠v6 "say"/\x≠v6 "change"/\x≠v6 "back"/\x≠v6 "like"):ActK rs x ds:=⟨λe=>t8 e h.1,λe=>t8 e h.2.1,λe=>t8 e h.2.2.1,λe=>t8 e h.2.2.2⟩
end
def aR(ps:List (c5×Int))(rs:List (c5×List c5))(d:D):Prop:=∃(t:Int) (z:c5) (k m:Int) (x:c5) (ds:List D),d=.tup [.int t,.tup [.str z,.int k],.int m,.tup<|.str x::ds]/\1<=t/\D.tup [.str z,.int k]∈bb ps/\jr 4 ds/\ActK rs x ds
section
variable{ps:List (c5×Int)}{rs:List (c5×List c5)}
theorem aR.pl(h:aR ps rs d):G0 6 d:=by obtain⟨t,z,k,m,x,ds,rfl,_,_,hp,_⟩:=h;exact .tup<|.cons (.int _)<|.cons (Di ⟨_,_,rfl⟩)<|.cons (.int _)<|.cons (.tup<|.cons (.str _) hp) .nil
theorem aR.bels(h:∀d∈ds,aR ps rs d):Bels k ds:=Bels.of λd a=>cC 6 d (h d a).pl
end
noncomputable def bZ:D->c5
 |.tup [_,_,_,.tup<|.str x::_]=>x
 |_=>v6 ""
noncomputable def gh:D->c5
 |.tup (_::.tup (.str z::_)::_)=>z
 |_=>v6 ""
noncomputable def LG:D->D
 |.tup (t::h::_)=>.tup [t,h]
 |_=>.non
noncomputable def cw:D->c5
 |.tup [_,_,_,.tup<|_::.str r::_]=>r
 |_=>v6 ""
noncomputable def xY:D->D
 |.tup [_,_,_,.tup<|_::_::u::_]=>u
 |_=>.non
noncomputable def xo:D->D
 |.tup [_,_,_,.tup<|_::m::_]=>m
 |_=>.non
noncomputable def Il:D->D
 |.tup [_,_,_,.tup<|_::_::_::s::_]=>s
 |_=>.non
noncomputable def numO:D->D
 |.tup [_,_,n,_]=>n
 |_=>.non
noncomputable def Ii:D->c5
 |.tup [_,_,_,.tup<|_::_::.str s::_]=>s
 |_=>v6 ""
noncomputable def RM:D->Bool
 |.tup [_,_,_,.tup<|_::_::_::.bl b::_]=>b
 |_=>bt
noncomputable def iS(rs:List (c5×List c5))(r:c5):List c5:=((rs.find? λp=>decide<|p.1=r).map (·.2)).getD []
noncomputable def kinds(log:List D)(k:c5):List D:=log.filter λd=>decide<|bZ d=k
section
variable{ps:List (c5×Int)}{rs:List (c5×List c5)}
theorem jJ(h:aR ps rs d)(e:bZ d=v6 "say"):∃(t:Int) (z:c5) (k num:Int) (r:c5) (u:D) (s:c5),d=.tup [.int t,.tup [.str z,.int k],.int num,.tup [.str<|v6 "say",.str r,u,.str s]]/\1<=t/\D.tup [.str z,.int k]∈bb ps/\r∈rs.map (·.1)/\(u=.non\/St u):=by obtain⟨t,z,k,num,x,ds,rfl,h1,h2,_,f⟩:=h;obtain rfl:x=v6 "say":=e;obtain⟨r,u,s,rfl,i,g⟩:=f.say rfl;exact⟨t,z,k,num,r,u,s,rfl,h1,h2,i,g⟩
theorem iP(h:aR ps rs d)(e:bZ d=v6 "change"):∃(t:Int) (z:c5) (k num:Int) (m:D) (s:c5),d=.tup [.int t,.tup [.str z,.int k],.int num,.tup [.str<|v6 "change",m,.str s]]/\St m:=by obtain⟨t,z,k,num,x,ds,rfl,h1,h2,_,f⟩:=h;obtain rfl:x=v6 "change":=e;obtain⟨m,s,rfl,a⟩:=f.change rfl;exact⟨t,z,k,num,m,s,rfl,a⟩
theorem uT(h:aR ps rs d)(e:bZ d=v6 "back"):∃(t:Int) (z:c5) (k num:Int) (m:D),d=.tup [.int t,.tup [.str z,.int k],.int num,.tup [.str<|v6 "back",m]]/\St m:=by obtain⟨t,z,k,num,x,ds,rfl,h1,h2,_,f⟩:=h;obtain rfl:x=v6 "back":=e;obtain⟨m,rfl,a⟩:=f.back rfl;exact⟨t,z,k,num,m,rfl,a⟩
theorem zM(h:aR ps rs d)(e:bZ d=v6 "like"):∃(t:Int) (z:c5) (k num:Int) (m:D) (s:c5) (b:Bool),d=.tup [.int t,.tup [.str z,.int k],.int num,.tup [.str<|v6 "like",m,.str s,.bl b]]/\St m:=by obtain⟨t,z,k,num,x,ds,rfl,h1,h2,_,f⟩:=h;obtain rfl:x=v6 "like":=e;obtain⟨m,s,b,rfl,a⟩:=f.like rfl;exact⟨t,z,k,num,m,s,b,rfl,a⟩
end
local macro_rules | `(tactic| walk_at"ifs")=>`(tactic| simp only[nT,C4,↓reduceIte,MK,Bool.not_false])
noncomputable def qZ(rs:List (c5×List c5))(kvs:List (D×D))(d:D):Bool:=decide (gh d∈iS rs (cw d))&&(decide (xY d=.non)||match aI kvs (xY d) with
 |some e=>decide<|cw e=cw d
 |none=>bt)
noncomputable def tW(rs:List (c5×List c5))(kvs:List (D×D))(d:D):List (D×D):=if qZ rs kvs d=a9 then fR kvs (LG d) d else kvs
noncomputable def dP(rs:List (c5×List c5))(l:List D):List (D×D):=l.foldl (tW rs) []
theorem hZ:dP rs (l++[d])=tW rs (dP rs l) d:=by unfold dP;rw[PB];rfl
noncomputable def bf(rs:List (c5×List c5))(log:List D):List (D×D):=dP rs<|kinds log<|v6 "say"
theorem fU:kinds (log++[d]) k=kinds log k++if bZ d=k then[d]else[]:=by unfold kinds;rw[QC];congr 1;by_cases h:bZ d=k;rw[Nf,dT_ h,t6 rfl,t6 h];rfl;rw[Nf,dF_ h,t7 (by decide),t7 h];rfl
theorem aQ(h:d∈kinds log k):d∈log/\bZ d=k:=⟨(I9.mp h).1,oT_ (I9.mp h).2⟩
theorem bj:(kinds log k).length<=log.length:=Nx _ _
structure TabK(l:List D)(kvs:List (D×D)):Prop where
 nd:(kvs.map (·.1)).Nodup
 en:∀p∈kvs,p.1=LG p.2/\p.2∈l
 len:kvs.length<=l.length
theorem ki(h:p∈fR kvs k d):p=(k,d)\/p∈kvs:=by unfold fR at h;split at h;obtain⟨q,a,rfl⟩:=A6.mp h;split;rename_i e;rw[e];exact .inl rfl;exact .inr a;rcases J0.mp h with h|h;exact .inr h;exact .inl<|by simpa using h
theorem ua:(fR kvs k d).length<=kvs.length+1:=by unfold fR;split;rw[x6];lia;simp
theorem oj(l:List D):TabK l (dP rs l):=by
 refine cI (P:=λl=>TabK l<|dP rs l) ⟨.nil,(λ_ z=>nomatch z),x9 _⟩ (λl d i=>?_) l;rw[hZ];unfold tW;have hs:∀p∈dP rs l,p.1=LG p.2/\p.2∈l++[d]:=λp hp=>⟨(i.en p hp).1,NM _ (i.en p hp).2⟩
 have g:=i.len;split;refine⟨lF i.nd,λp hp=>?_,?_⟩;rcases ki hp with rfl|hp;exact⟨rfl,by simp⟩;exact hs p hp;have:=ua (kvs:=dP rs l) (k:=LG d) (d:=d);rw[E3,LD];lia;exact⟨i.nd,hs,by rw[E3,LD];lia⟩
theorem bn:TabK (kinds log<|v6 "say") (bf rs log):=oj _
theorem Km(t:TabK l kvs)(h:aI kvs k=a7 e):k=LG e/\e∈l:=t.en _<|bw h
noncomputable def LQ(kvs:List (D×D))(d:D):Bool:=match aI kvs (xo d) with
 |some e=>decide<|gh d=gh e
 |none=>bt
def Pe(d:D):Prop:=∃(a:D) (z:c5) (r l:List D),d=.tup (a::.tup (.str z::r)::l)
section
variable{ps:List (c5×Int)}{rs:List (c5×List c5)}
theorem aR.nm(h:aR ps rs d):Pe d:=by obtain⟨t,z,k,m,x,ds,rfl,_⟩:=h;exact⟨_,_,_,_,rfl⟩
theorem aR.st(h:aR ps rs d):St (LG d):=by obtain⟨t,z,k,m,x,ds,rfl,_⟩:=h;exact⟨_,_,_,rfl⟩
theorem St.cm(f:St a)(d:St b):iN M x5 a b=a9:=by
 obtain⟨t,z,k,rfl⟩:=f;obtain⟨t',G,I,rfl⟩:=d;show (if w4 M 29 (.int t) (.int t')=a9 then(if w4 M 29 (.tup [.str z,.int k]) (.tup [.str G,.int I])=a9 then a9 else(if w4 M 28 (.str z) (.str G)=a9 then(if w4 M 28 (.int k) (.int I)=a9 then a9 else a9)else a9))else a9)=a9
 repeat' split
 all_goals rfl
theorem ER(h:∀x∈xs,St x)(l:xs.length<64):SrtOk M xs:=by refine⟨l,λx a=>?_,λx a y Q=>(h x a).cm<|h y Q,.inr<|.inr<|.inr<|.inl λx a=>?_⟩;obtain⟨t,z,k,rfl⟩:=h x a;rfl;obtain⟨t,z,k,rfl⟩:=h x a;exact⟨_,_,rfl⟩
end
def br(kvs:List (D×D))(log:List D)(k:D):Prop:=∃d∈kinds log (v6 "back"),LQ kvs d=a9/\xo d=k
theorem Cc(h:k∉kvs.map (·.1)):fR kvs k d=kvs++[(k,d)]:=by unfold fR;rw[t7];intro z;obtain⟨e,i⟩:=OX.mp z;exact h (MS (f:=(·.1))<|bw i)
theorem AI(ps:List (D×D))(h:(ps.map (·.1)).Nodup):dictOf ps=ps:=by revert h;refine cI (P:=λps=>(ps.map (·.1)).Nodup->dictOf ps=ps) (λ_=>rfl) (λps p i h=>?_) ps;rw[L6]at h;have h':=List.nodup_append.mp h;rw[eL,i h'.1,Cc];intro z;exact h'.2.2 _ z _ (by simp) rfl
theorem mn{M:v8}{x:c5}{l:List c5}:Nj M (.str x) (l.map .str)=decide (x∈l):=by unfold Nj;rw[List.any_map];by_cases h:x∈l;rw[dT_ h];exact NJ.mpr ⟨x,h,by show w4 M x5 (.str x) (.str x)=a9;rw[aO];exact u7 x⟩;rw[dF_ h];refine MQ.mpr λz=>?_;obtain⟨y,Q,e⟩:=NJ.mp z;have a:w4 M x5 (.str y) (.str x)=a9:=e;rw[aO]at a;exact h<|eq_of_beq a ▸ Q
theorem lA{M:v8}{l:List c5}:(l.map D.str).all (z5 M x5)=a9:=F4.mpr λx h=>by obtain⟨y,_,rfl⟩:=A6.mp h;exact aq
noncomputable def bu(rs:List (c5×List c5))(log:List D):List (D×D):=(bf rs log).filter λp=>@decide (¬br (bf rs log) log p.1)<|Ot _
theorem dH:p∈bu rs log↔p∈bf rs log/\¬br (bf rs log) log p.1:=by unfold bu;rw[I9];exact and_congr Iff.rfl<|@decide_eq_true_iff _<|Ot _
theorem BV:((bu rs log).map (·.1)).Nodup:=(N7.map _).nodup bn.nd
theorem rD(h:aI (bf rs log) k=a7 e)(d:¬br (bf rs log) log k):aI (bu rs log) k=a7 e:=fE (p:=(k,e)) BV<|dH.mpr ⟨bw h,d⟩
noncomputable def iO(kvs:List (D×D))(log:List D):List (D×D):=dictOf<|((kinds log<|v6 "change").filter<|LQ kvs).map λd=>(xo d,xY d)
noncomputable def Jo(ch:List (D×D))(d:D):D:=.tup [LG d,.str<|cw d,xY d,.str<|gh d,(aI ch<|LG d).getD<|Il d,.bl (aI ch<|LG d).isSome]
noncomputable def Jp(rs:List (c5×List c5))(log:List D):List D:=(bu rs log).map λp=>Jo (iO (bu rs log) log) p.2
structure BackL(rs:List (c5×List c5))(log:List D)(ys:List D):Prop where
 st:∀x∈ys,St x
 mem:∀x,x∈ys↔br (bf rs log) log x
 nd:ys.Nodup
 up:ys.Pairwise λa b=>¬D8 x5 b<D8 x5 a
theorem vm:dD kvs k=a8↔k∉kvs.map (·.1):=by unfold dD;rw[Option.map_eq_none_iff,OR];constructor;intro h z;obtain⟨p,hp,rfl⟩:=A6.mp z;exact h p hp<|dT_ rfl;intro h p hp z;exact h<|oT_ z ▸ MS hp
theorem vV(h:k∉kvs.map (·.1)):lG kvs k d=kvs++[(k,d)]:=by unfold lG;rw[t7];intro z;obtain⟨p,hp,e⟩:=NJ.mp z;exact h<|oT_ e ▸ MS hp
theorem kH:dD (lG kvs k d) k=a7 d:=by
 unfold lG;split;rename_i hs;obtain⟨p,hp,e⟩:=NJ.mp hs;unfold dD;rw[Po];have l:((λp:c5×D=>decide<|p.1=k) ∘ λp:c5×D=>if p.1=k then(p.1,d)else p)=λp=>decide (p.1=k):=by funext p;show decide ((if p.1=k then(p.1,d)else p).1=k)=decide (p.1=k);split<;>rfl
 rw[l];cases f:kvs.find? λp=>decide (p.1=k) with
 |none=>exact t8 e<|by simpa using OR.mp f p hp
 |some q =>
  have h:q.1=k:=by have:=ON f;exact oT_ this
  show a7 (if q.1=k then(q.1,d)else q).2=_;rw[t6 h]
 rename_i hs;unfold dD;have:kvs.find? (λp=>decide<|p.1=k)=a8:=OR.mpr λp hp z=>hs<|NJ.mpr ⟨p,hp,z⟩;rw[Qs,this];simp
theorem mY(h:j≠k):dD (lG kvs k d) j=dD kvs j:=by
 unfold lG;split;unfold dD;rw[Po];have e:((λp:c5×D=>decide<|p.1=j) ∘ λp:c5×D=>if p.1=k then(p.1,d)else p)=λp=>decide (p.1=j):=by funext p;show decide ((if p.1=k then(p.1,d)else p).1=j)=decide (p.1=j);split<;>rfl
 rw[e];cases f:kvs.find? λp=>decide (p.1=j) with
 |none=>rfl
 |some q =>
  have a:q.1=j:=by have:=ON f;exact oT_ this
  show a7 (if q.1=k then(q.1,d)else q).2=a7 q.2;rw[t7<|by rw[a];exact h]
 unfold dD;rw[Qs];cases f:kvs.find? λp=>decide (p.1=j) with
 |none=>simp[A7 h]
 |some q=>rfl
theorem valD_off(h:j≠k):dD (offD kvs k) j=dD kvs j:=by unfold dD offD;rw[List.find?_filter];congr 1;congr 1;funext p;by_cases e:p.1=j;have:¬p.1=k:=λz=>h<|e.symm.trans z;simp[e,h];simp[e]
theorem BH{α:Type}{f:c5->D}{k:c5}:∀{l:List c5},dD (l.map λs=>(s,f s)) k=if k∈l then a7 (f k)else a8
 | []=>by simp[dD]
 |s::l=>by
  have ih:=BH (f:=f) (k:=k) (l:=l) (α:=α);unfold dD at ih ⊢;rw[D7,Md];by_cases e:s=k;subst e;simp;rw[dF_ e];rw[ih];have:k∈s::l↔k∈l:=by rw[A9];exact⟨λz=>z.resolve_left<|A7 e,.inr⟩
  by_cases h:k∈l;rw[t6 h,t6<|this.mpr h];rw[t7 h,t7<|λz=>h<|this.mp z]
theorem BY(ok:∀x∈xs,E5 x5 x=a9)(m:∀B,∀x∈xs,∀y∈xs,iN B x5 x y=a9)(p:ys.Perm xs)(r:uW M xs)(l:uW N ys):ys=xs:=by have e:∀{B:v8}{a b:D},a∈xs->b∈xs->E2 B x5 a b=decide (D8 x5 a<D8 x5 b):=λ{B a b} f d=>md (ok a f) (ok b d)<|m B a f b d;have Q:∀y∈ys,y∈xs:=λy q=>p.mem_iff.mp q;refine RF (le:=λa b=>¬D8 x5 b<D8 x5 a) (λa b f d h1 h2=>?_) ?_ ?_ p;have w:=Q a f;refine GI (M:=[]) (ok a w) (ok b d) (m [] a w b d) ?_;exact List.le_antisymm (M8.mp h1)<|M8.mp h2;refine(NN.mp l).imp λ{a b} ⟨f,d,q⟩=>?_;rw[e (Q b d)<|Q a f]at q;exact of_decide_eq_false q;refine(NN.mp r).imp λ{a b} ⟨f,d,q⟩=>?_;rw[e d f]at q;exact of_decide_eq_false q
theorem rH(hi:ak M i xs)(hj:ak M j xs)(h:∀x∈xs,z5 M 29 x=a9/\w4 M 29 x x=a9):(z5 M x5 (.ref i)=a9/\z5 M x5 (.ref j)=a9)/\w4 M x5 (.ref i) (.ref j)=a9:=⟨⟨oY (n:=29) hi λx a=>(h x a).1,oY (n:=29) hj λx a=>(h x a).1⟩,(wt (n:=29) hi hj).trans<|pD λx a=>(h x a).2⟩
def Up(l:List c5):Prop:=l.Pairwise λa b=>cf b a=bt
theorem HL(u:Up l)(u':Up l')(p:l.Perm l'):l=l':=by refine RF (le:=λa b=>cf b a=bt) (λa b _ _ h1 h2=>?_) u u' p;have t:=of_decide_eq_false h1;have e:=of_decide_eq_false h2;exact tV<|List.le_antisymm (M8.mp t)<|M8.mp e
noncomputable def F9(s n:c5):D:=.tup [.str s,.str n]
noncomputable def qY(st:D)(mem:List c5)(kvs:List (D×D))(d:D):List (D×D):=if xo d=st/\gh d∈mem then fR kvs (F9 (Ii d)<|gh d) (.bl<|RM d)else kvs
noncomputable def jh(st:D)(mem:List c5)(l:List D):List (D×D):=l.foldl (qY st mem) []
noncomputable def eX(log:List D)(st:D)(mem:List c5):List (D×D):=jh st mem<|kinds log<|v6 "like"
section
variable{st:D}{mem:List c5}
theorem jg:jh st mem (l++[d])=qY st mem (jh st mem l) d:=by unfold jh;rw[PB];rfl
structure TabL(n:Nat)(kvs:List (D×D)):Prop where
 nd:(kvs.map (·.1)).Nodup
 en:∀p∈kvs,∃s m b,p=(F9 s m,.bl b)
 len:kvs.length<=n
theorem yX(h:TabL n kvs):TabL (n+1) (qY st mem kvs d):=by have g:=h.len;unfold qY;split;refine⟨lF h.nd,λp hp=>?_,?_⟩;rcases ki hp with rfl|hp;exact⟨_,_,_,rfl⟩;exact h.en p hp;have:=ua (kvs:=kvs) (k:=F9 (Ii d)<|gh d) (d:=.bl<|RM d);lia;exact⟨h.nd,h.en,by lia⟩
theorem fF(l:List D):TabL l.length (jh st mem l):=by refine cI (P:=λl=>TabL l.length<|jh st mem l) ⟨.nil,(λ_ z=>nomatch z),x9 _⟩ (λl d i=>?_) l;rw[jg,E3,LD];exact yX i
end
theorem xt(h:bZ d=v6 "like"):eX (log++[d]) st mem=qY st mem (eX log st mem) d:=by unfold eX;rw[fU,t6 h,jg]
structure NC(T:List (D×D))(l:List (c5×c5)):Prop where
 nd:l.Nodup
 on:∀s n,(s,n)∈l↔aI T (F9 s n)=a7 (.bl a9)
 r1:l.Pairwise λa b=>cf b.1 a.1=bt
 r2:l.Pairwise λa b=>a.1=b.1->cf b.2 a.2=bt
 len:l.length<=T.length
noncomputable def aG(l:List (c5×c5))(s:c5):List c5:=(l.filter λp=>decide<|p.1=s).map (·.2)
noncomputable def aH(l:List (c5×c5)):List c5:=l.foldl (λks p=>if p.1∈ks then ks else ks++[p.1]) []
section
variable{l:List (c5×c5)}{p:c5×c5}{s t n:c5}
theorem jL:aG (l++[p]) t=aG l t++if p.1=t then[p.2]else[]:=by unfold aG;rw[QC,L6];congr 1;by_cases h:p.1=t;rw[Nf,dT_ h,t6 rfl,t6 h];rfl;rw[Nf,dF_ h,t7 (by decide),t7 h];rfl
theorem aZ:aH (l++[p])=if p.1∈aH l then aH l else aH l++[p.1]:=by unfold aH;rw[PB];rfl
theorem iF:n∈aG l s↔(s,n)∈l:=by unfold aG;constructor;intro h;obtain⟨p,hp,rfl⟩:=A6.mp h;have:=I9.mp hp;have e:p.1=s:=oT_ this.2;rw[<-e];exact this.1;intro h;exact A6.mpr ⟨(s,n),I9.mpr ⟨h,dT_ rfl⟩,rfl⟩
theorem kq(l:List (c5×c5)):∀s,s∈aH l↔∃n,(s,n)∈l:=by
 refine cI (P:=λl=>∀s,s∈aH l↔∃n,(s,n)∈l) (λs=>⟨(λz=>nomatch z),λ⟨_,z⟩=>nomatch z⟩) (λl p i s=>?_) l;rw[aZ];have h1:(∃n,(s,n)∈l++[p])↔(∃n,(s,n)∈l)\/s=p.1:=by
  constructor;rintro⟨n,h⟩;rcases J0.mp h with h|h;exact .inl ⟨n,h⟩;have:(s,n)=p:=by simpa using h
  exact .inr (by rw[<-this]);rintro(⟨n,h⟩|rfl);exact⟨n,NM _ h⟩;exact⟨p.2,LP _<|by simp⟩
 rw[h1,<-i s];split;rename_i h;exact⟨.inl,λz=>z.elim id λe=>e ▸ h⟩;rw[List.mem_append];simp
theorem Gj(l:List (c5×c5)):(aH l).Nodup:=by refine cI (P:=λl=>(aH l).Nodup) .nil (λl p i=>?_) l;rw[aZ];split;exact i;rename_i h;exact List.nodup_append.mpr ⟨i,by simp,λa f b d e=>h<|by rw[show b=p.1 by simpa using d]at e;exact e ▸ f⟩
theorem kr(l:List (c5×c5)):(aH l).length<=l.length:=by refine cI (P:=λl=>(aH l).length<=l.length) (x9 _) (λl p i=>?_) l;rw[aZ,E3,LD];split;lia;rw[E3,LD];lia
theorem Gi(l:List (c5×c5)):(l.Pairwise λa b=>cf b.1 a.1=bt)->Up (aH l):=by refine cI (P:=λl=>(l.Pairwise λa b=>cf b.1 a.1=bt)->Up (aH l)) (λ_=>.nil) (λl p i h=>?_) l;obtain⟨h1,_,c⟩:=List.pairwise_append.mp h;rw[aZ];split;exact i h1;refine List.pairwise_append.mpr ⟨i h1,by simp,λa f b d=>?_⟩;obtain⟨n,e⟩:=(kq l a).mp f;rw[show b=p.1 by simpa using d];exact c _ e p<|by simp
theorem Cv(h:l.Pairwise λa b=>a.1=b.1->cf b.2 a.2=bt):Up (aG l s):=by unfold aG Up;rw[MP];refine((NN.mp<|Rv _ h)).imp λ{a b} ⟨ha,hb,q⟩=>?_;have t:a.1=s:=oT_ (I9.mp ha).2;have e:b.1=s:=oT_ (I9.mp hb).2;exact q<|t.trans e.symm
theorem Cw(h:l.Nodup):(aG l s).Nodup:=by unfold aG;rw[Nh,MP];refine(NN.mp<|Nh.mp<|(N7 (p:=λp:c5×c5=>decide<|p.1=s)).nodup h).imp λ{a b} ⟨ha,hb,q⟩ e=>q ?_;have t:a.1=s:=oT_ (I9.mp ha).2;have c:b.1=s:=oT_ (I9.mp hb).2;exact Prod.ext (t.trans c.symm) e
theorem rS:(aG l s).length<=l.length:=by unfold aG;rw[x6];exact Nx _ _
end
noncomputable def xv(l:List (c5×c5))(s:c5):D:=.tup [.str s,.tup<|(aG l s).map .str]
noncomputable def bv(l:List (c5×c5)):List D:=(aH l).map<|xv l
noncomputable def dicD(l:List (c5×c5)):List (c5×D):=(aH l).map λs=>(s,.tup<|(aG l s).map .str)
noncomputable def pZ:D->Bool
 |.int _=>a9
 |_=>bt
def dg:B5:=λds M R=>∃d,ds=[d]/\Fn M d∈tE/\R (.bl<|pZ d) M
theorem sy:dz dg jb:=by rintro ds M R ⟨d,rfl,_⟩;rfl
def nI:v7:=bp<|eY (w6 tF<|aa (ac 0)<|aa (dC<|.ty "int") ag)<|AT<|w6 tF<|aa (ac 0)<|aa (dC<|.ty "bool") ag
theorem tJ:D9 dg 1 nI:=by
 rintro ds M R ⟨d,rfl,D,h⟩;unfold nI;cases d with
 |ref n=>have e:=qi D;simp only[Fn]at e;walk_at"dl";simp only[e];exact⟨by decide,bN<|aV.now h⟩
 |ty n=>simp only[Fn]at D;exact t8 D<|by decide
 |int i=>walk_at"dl";exact⟨by decide,bL ⟨by decide,aV.now h⟩⟩
 |bl i=>walk_at"dl";exact⟨by decide,bL ⟨by decide,aV.now h⟩⟩
 |_=>walk_at"dl";exact⟨by decide,bN<|aV.now h⟩
theorem lY(T:Tops P w K mg base):z9 P w K mg base 1 "is_whole" jb dg:=z9.byD (N:=["thing"]) T.b T.f_is_whole (by walk_at"sc") sy (by walk_at"dv") tJ
noncomputable def kG(k:Int):D->Bool
 |.int i=>decide<|k<=i
 |_=>bt
def bH:B5:=λds M R=>∃(k:Int) (d:D),ds=[.int k,d]/\Fn M d∈tE/\R (.bl<|kG k d) M
theorem jk:dz bH cX:=by rintro ds M R ⟨k,d,rfl,_⟩;rfl
def fg:v7:=bp<|eY (w6 dg<|aa (ac 1) ag)<|u9 O4 (ac 1)<|ac 0
theorem jS:D9 bH 2 fg:=by
 rintro ds M R ⟨k,d,rfl,D,h⟩;unfold fg;walk_at"dl";refine⟨d,rfl,D,?_⟩;cases d with
 |int i=>simp only[pZ,↓reduceIte];exact aV.now h
 |_=>simp only[pZ,C4,↓reduceIte];exact aV.now h
theorem jX(T:Tops P w K mg base):z9 P w K mg base 2 "is_whole_from" cX bH:=z9.byD (N:=["least","thing"]) T.b T.f_is_whole_from (by walk_at"sc") jk (by have:=lY T;walk_at"dv") jS
noncomputable def BN(k:Int):D->Bool
 |.tup xs=>(xs.length:Int)==k
 |_=>bt
def bF:B5:=λds M R=>∃(k:Int) (d:D),ds=[.int k,d]/\Fn M d∈tE/\R (.bl<|BN k d) M
theorem mf:dz bF eD:=by rintro ds M R ⟨k,d,rfl,_⟩;rfl
def il:v7:=bp<|eY (w6 tF<|aa (ac 1)<|aa (dC<|.ty "tuple") ag)<|u9 D3 (w6 jV<|aa (ac 1) ag)<|ac 0
theorem mI:D9 bF 2 il:=by
 rintro ds M R ⟨k,d,rfl,D,h⟩;unfold il;cases d with
 |ref n=>have e:=qi D;simp only[Fn]at e;walk_at"dl";simp only[e];exact⟨by decide,bN<|aV.now h⟩
 |ty n=>simp only[Fn]at D;exact t8 D<|by decide
 |tup xs=>walk_at"dl";exact⟨by decide,bL ⟨⟨rfl,rfl⟩,aV.now h⟩⟩
 |_=>walk_at"dl";exact⟨by decide,bN<|aV.now h⟩
theorem gJ(T:Tops P w K mg base):z9 P w K mg base 1 "is_tuple_of" eD bF:=z9.byD (N:=["many","thing"]) T.b T.f_is_tuple_of (by walk_at"sc") mf (by walk_at"dv") mI
noncomputable def iG(ps:List (c5×Int)):D->Int
 |.str x=>((ps.find? λp=>decide<|p.1=x).map (·.2)).getD 0
 |_=>0
def fZ:B5:=λds M R=>∃(ps:List (c5×Int)) (r:List D) (d:D),ds=[.tup<|.tup (ps.map dj)::r,d]/\z5 M x5 d=a9/\R (.int<|iG ps d) M
theorem uA:dz fZ lO:=by rintro ds M R ⟨ps,r,d,rfl,_⟩;rfl
theorem ut(p:c5×Int)(ps:List (c5×Int))(d:D)(M:v8):iG (p::ps) d=if w4 M x5 (.str p.1) d=a9 then p.2 else iG ps d:=by
 cases d with
 |str x =>
  show ((List.find? _<|p::ps).map _).getD 0=if (p.1==x)=a9 then _ else _
  by_cases h:p.1=x;subst h;simp;rw[t7<|by simpa using h];simp[iG,Md,h]
 |_=>rfl
def kY:v7:=bp<|dC<|.int 0
def qG:v7:=aB (jP (cJ<|u9 w9 (ac 0)<|dC<|.int 0) (dL 2<|aA (af 2)<|aA (af 3) dN)<|C9 (ax<|u9 D3 (ac 2)<|ac 1) (bp<|ac 3) aP)<|kY
theorem wM:D9 fZ 4 qG:=by
 rintro ds M R ⟨ps,r,d,rfl,ok,h⟩;simp only[qG,kY];walk_at"dl";intro _;refine fV (λys S M'=>∃qs a b,ys=qs.map dj/\M'=M/\S=[a7<|.tup<|.tup (ps.map dj)::r,a7 d,a,b]/\iG ps d=iG qs d) ?_ ?_ _ _ _ ⟨ps,_,_,rfl,rfl,rfl,rfl⟩;rintro S M' ⟨qs,a,b,q,rfl,rfl,e⟩;have:qs=[]:=by cases qs<;>simp_all
 subst this;rw[e]at h;exact⟨trivial,aV.now<|by cases d<;>exact h⟩;rintro x xs S M' ⟨qs,a,b,q,rfl,rfl,e⟩ L c;cases qs with
 |nil=>cases q
 |cons p qs=>rw[D7]at q;injection q with h1 h2;subst h1;refine⟨trivial,?_⟩;unfold dj;walk_at"dl";refine⟨trivial,⟨rfl,ok⟩,?_⟩;rw[ut p qs d M']at e;by_cases q:w4 M' x5 (.str p.1) d=a9;rw[t6 q]at e;rw[q];refine bL<|aV.now ?_;rw[<-e];exact h;rw[t7 q]at e;rw[MQ.mpr q];exact bN<|C6.now<|c _ _ ⟨qs,_,_,h2,rfl,rfl,e⟩
theorem xi(T:Tops P w K mg base):z9 P w K mg base 1 "many_of" lO fZ:=z9.byD (N:=["house","name","person","many"]) T.b T.f_many_of (by walk_at"sc") uA (by walk_at"dv") wM
noncomputable def cE(ps:List (c5×Int)):D->Bool
 |.tup [a,.int k]=>decide (0<=k)&&decide (k<iG ps a)
 |_=>bt
def gb:B5:=λds M R=>∃(ps:List (c5×Int)) (r:List D) (d:D),ds=[.tup<|.tup (ps.map dj)::r,d]/\Fn M d∈tE/\(∀a b,d=.tup [a,b]->z5 M x5 a=a9/\Fn M b∈tE)/\R (.bl<|cE ps d) M
theorem uB:dz gb lP:=by rintro ds M R ⟨ps,r,d,rfl,_⟩;rfl
def qJ:v7:=bp<|eY (w6 bF<|aa (dC<|.int 2)<|aa (ac 1) ag)<|eY (w6 dg<|aa (u9 w9 (ac 1)<|dC<|.int 1) ag)<|sR O3 Ni (dC<|.int 0) (u9 w9 (ac 1)<|dC<|.int 1)<|w6 fZ<|aa (ac 0)<|aa (u9 w9 (ac 1)<|dC<|.int 0) ag
theorem wN:D9 gb 2 qJ:=by
 rintro ds M R ⟨ps,r,d,rfl,D,S,h⟩;simp only[qJ];simp only[bp,eY,w6,aa,ag,dC,ac,cc,D7,Pk,OP,LB,List.getElem?_cons_zero,QP,E9,G8,List.replicate_zero,No,Option.join_some];refine⟨2,d,rfl,D,?_⟩;by_cases c:∃a b,d=.tup [a,b];obtain⟨a,b,rfl⟩:=c;obtain⟨o,t⟩:=S a b rfl;walk_at"dl";refine bL ⟨b,rfl,t,?_⟩;cases b with
 |int k =>
  simp only[pZ,u5];by_cases f:0<=k;rw[dT_ f];simp only[nT,↓reduceIte];refine⟨ps,r,a,rfl,o,aV.now ?_⟩;have e:cE ps (.tup [a,.int k])=decide (k<iG ps a):=by simp[cE,f]
  rw[e]at h;exact h;rw[dF_ f];have e:cE ps (.tup [a,.int k])=bt:=by simp[cE,f]
  rw[e]at h;simp only[nT,↓reduceIte,C4];exact aV.now h
 |_=>simp only[pZ,C4,↓reduceIte];exact aV.now h
 have g:BN 2 d=bt:=by
  cases d with
  |tup xs =>
   match xs with
   | []=>rfl
   | [_]=>rfl
   | [a,b]=>exact t8 ⟨a,b,rfl⟩ c
   |_::_::_::_=>simp[BN];lia
  |_=>rfl
 have l:cE ps d=bt:=by unfold cE;split;exact t8 ⟨_,_,rfl⟩ c;rfl
 rw[g];rw[l]at h;simp only[nT,C4,↓reduceIte];exact aV.now h
theorem xj(T:Tops P w K mg base):z9 P w K mg base 2 "is_hand" lP gb:=z9.byD (N:=["house","thing"]) T.b T.f_is_hand (by walk_at"sc") uB (by have:=lY T;have:=gJ T;have:=xi T;walk_at"dv") wN
def bV:B5:=λds M R=>∃(ps:List (c5×Int)) (a:List (c5×List c5)) (r:c5),ds=[aC ps a,.str r]/\r∈a.map (·.1)/\R (.tup<|(iS a r).map .str) M
theorem mT:dz bV fA:=by rintro ds M R ⟨ps,a,r,rfl,_⟩;rfl
theorem rT:iS (p::rs) r=if p.1=r then p.2 else iS rs r:=by unfold iS;rw[Md];by_cases h:p.1=r;rw[dT_ h,t6 h];rfl;rw[dF_ h,t7 h]
def mK:v7:=ww
def jz:v7:=aB (jP (cJ<|u9 w9 (ac 0)<|dC<|.int 1) (dL 2<|aA (af 2)<|aA (af 3) dN)<|C9 (ax<|u9 D3 (ac 2)<|ac 1) (bp<|ac 3) aP)<|mK
theorem oz:D9 bV 4 jz:=by
 rintro ds M R ⟨ps,s,r,rfl,i,h⟩;simp only[jz,aC];walk_at"dl";intro _;refine fV (λys S M'=>∃qs a b,ys=qs.map lD/\M'=M/\S=[a7<|aC ps s,a7<|.str r,a,b]/\iS s r=iS qs r/\r∈qs.map (·.1)) ?_ ?_ _ _ _ ⟨s,_,_,rfl,rfl,rfl,rfl,i⟩;rintro S M' ⟨qs,a,b,q,rfl,rfl,e,d⟩;have:qs=[]:=by cases qs<;>simp_all
 subst this;cases d;rintro x xs S M' ⟨qs,a,b,q,rfl,rfl,e,d⟩ L c;cases qs with
 |nil=>cases q
 |cons p qs=>rw[D7]at q;injection q with h1 h2;subst h1;refine⟨trivial,?_⟩;unfold lD;walk_at"dl";refine⟨trivial,⟨aq,aq⟩,?_⟩;rw[aO];rw[rT]at e;by_cases q:p.1=r;rw[beq_iff_eq.mpr q];rw[t6 q]at e;refine bL<|aV.now ?_;rw[<-e];exact h;rw[beq_eq_false_iff_ne.mpr q];rw[t7 q]at e;rw[D7,A9]at d;exact bN<|C6.now<|c _ _ ⟨qs,_,_,h2,rfl,rfl,e,d.resolve_left<|A7 q⟩
theorem iE(T:Tops P w K mg base):z9 P w K mg base 1 "members_of" fA bV:=z9.byD (N:=["house","room","told","members"]) T.b T.f_members_of (by walk_at"sc") mT (by walk_at"dv") oz
def eR:B5:=λds M R=>∃(ps:List (c5×Int)) (a:List (c5×List c5)) (t:Int) (z:c5) (k:Int),ds=[aC ps a,.tup [.int t,.tup [.str z,.int k]]]/\R (.bl<|decide (1<=t)&&cE ps (.tup [.str z,.int k])) M
theorem sA:dz eR jc:=by rintro ds M R ⟨ps,a,t,z,k,rfl,_⟩;rfl
theorem Au:∀{ps:List (c5×Int)},(ps.map (·.1)).Nodup->D.tup [.str z,.int k]∈bb ps->0<=k/\k<iG ps (.str z)
 |p::ps,nd,h=>by
  rw[bb,List.flatMap_cons]at h;rw[D7,LK]at nd;have hm:∀q,D.tup [.str z,.int k]∈cF q->q.1=z/\0<=k/\k<q.2:=λq hq=>by unfold cF ie at hq;simp only[K2,A6,K6]at hq;obtain⟨i,hi,e⟩:=hq;simp only[Function.comp_apply,D.tup.injEq,NZ,D.str.injEq,D.int.injEq,and_true]at e;obtain⟨e1,e2⟩:=e;exact⟨e1,by lia,by lia⟩
  show 0<=k/\k<(((p::ps).find? λp=>decide<|p.1=z).map (·.2)).getD 0;rw[Md];rcases J0.mp h with h|h;obtain⟨e,h1,h2⟩:=hm p h;rw[dT_ e];exact⟨h1,h2⟩;have hz:p.1≠z:=λe=>by obtain⟨q,hq,hh⟩:=List.mem_flatMap.mp h;refine nd.1 ?_;rw[e,<-(hm q hh).1];exact MS hq
  rw[dF_ hz];exact Au nd.2 h
def nJ:v7:=bp<|eY (w6 bF<|aa (dC<|.int 2)<|aa (ac 1) ag)<|eY (w6 bH<|aa (dC<|.int 1)<|aa (u9 w9 (ac 1)<|dC<|.int 0) ag)<|w6 gb<|aa (ac 0)<|aa (u9 w9 (ac 1)<|dC<|.int 1) ag
theorem tK:D9 eR 2 nJ:=by rintro ds M R ⟨ps,s,t,z,k,rfl,h⟩;simp only[nJ];walk_at"dl";refine⟨2,_,rfl,by simp[Fn,tE],?_⟩;rw[show BN 2 (.tup [.int t,.tup [.str z,.int k]])=a9 from rfl];walk_at"ifs";refine⟨1,_,rfl,by simp[Fn,tE],?_⟩;rw[show kG 1 (.int t)=decide (1<=t)from by simp[kG]];by_cases h1:1<=t;rw[dT_ h1]at h ⊢;rw[Bool.true_and]at h;walk_at"ifs";refine⟨ps,_,_,rfl,by simp[Fn,tE],λa b e=>?_,aV.now h⟩;simp only[D.tup.injEq,NZ,and_true]at e;obtain⟨rfl,rfl⟩:=e;exact⟨aq,by simp[Fn,tE]⟩;rw[dF_ h1]at h ⊢;walk_at"ifs";exact aV.now h
theorem uk(T:Tops P w K mg base):z9 P w K mg base 3 "is_stamp" jc eR:=z9.byD (N:=["house","thing"]) T.b T.f_is_stamp (by walk_at"sc") sA (by have:=jX T;have:=gJ T;have:=xj T;walk_at"dv") tK
def dc:B5:=λds M R=>∃(a b:D) (r:List D),ds=[.tup<|a::b::r]/\R (.tup [a,b]) M
theorem sv:dz dc iZ:=by rintro ds M R ⟨a,b,r,rfl,_⟩;rfl
def nv:v7:=bp<|cQ<|aa (u9 w9 (ac 0)<|dC<|.int 0)<|aa (u9 w9 (ac 0)<|dC<|.int 1) ag
theorem tH:D9 dc 1 nv:=by rintro ds M R ⟨a,b,r,rfl,h⟩;simp only[nv];walk_at"dl";exact⟨ah (by lia),aV.now h⟩
theorem lV(T:Tops P w K mg base):z9 P w K mg base 1 "stamp_of" iZ dc:=z9.byD (N:=["deed"]) T.b T.f_stamp_of (by walk_at"sc") sv (by walk_at"dv") tH
def aY:B5:=λds M R=>∃(t x:D) (r l:List D),ds=[.tup<|t::.tup (x::r)::l]/\R x M
theorem pj:dz aY gR:=by rintro ds M R ⟨t,x,r,l,rfl,_⟩;rfl
def kM:v7:=bp<|u9 w9 (u9 w9 (ac 0)<|dC<|.int 1)<|dC<|.int 0
theorem pX:D9 aY 1 kM:=by rintro ds M R ⟨t,x,r,l,rfl,h⟩;simp only[kM];walk_at"dl";exact aV.now h
theorem dk(T:Tops P w K mg base):z9 P w K mg base 1 "person_of" gR aY:=z9.byD (N:=["deed"]) T.b T.f_person_of (by walk_at"sc") pj (by walk_at"dv") pX
def aX:B5:=λds M R=>∃(ps:List (c5×Int)) (a:List (c5×List c5)) (log:List D) (k:c5),ds=[.tup log,.str k]/\(∀d∈log,aR ps a d)/\log.length<=1000/\R (.ref M.length) (M++[.lst<|kinds log k])
theorem jm:dz aX cY:=by rintro ds M R ⟨ps,a,log,k,rfl,_⟩;rfl
def fh:v7:=bp<|LH 1 [1] (cJ<|ac 0) (af 0) (ax<|u9 D3 (u9 w9 (u9 w9 (ac 0)<|dC<|.int 3)<|dC<|.int 0)<|ac 1)<|ac 0
theorem jT:D9 aX 2 fh:=by rintro ds M R ⟨ps,s,log,k,rfl,f,l,h⟩;simp only[fh];walk_at"dl";intro _;refine ck (λd=>decide<|bZ d=k) id (λS=>∃a,S=[a,a7<|.str k]) trivial _ _ _ ?_ ⟨_,rfl⟩ (by rw[G8];exact ah<|by lia) (by rw[LB,List.map_id];exact .inl h);rintro d g S ⟨a,rfl⟩;obtain⟨t,z,I,m,x,ds,rfl,_⟩:=f d g;refine⟨[a7<|.tup [.int t,.tup [.str z,.int I],.int m,.tup<|.str x::ds],a7<|.str k],⟨_,rfl⟩,λY Z b=>?_⟩;walk_at"dl";have Q:atI [D.int t,.tup [.str z,.int I],.int m,.tup<|.str x::ds] 3=a7 (.tup<|.str x::ds):=ar (j:=3) rfl;rw[Q];dsimp only;rw[Oz];refine⟨⟨aq,aq⟩,?_⟩;rw[aO];have c:bZ (.tup [.int t,.tup [.str z,.int I],.int m,.tup<|.str x::ds])=x:=rfl;rw[c]at b;by_cases e:x=k;rw[beq_iff_eq.mpr e];rw[dT_ e]at b;exact bL b;rw[beq_eq_false_iff_ne.mpr e];rw[dF_ e]at b;exact bN b
theorem cD(T:Tops P w K mg base):z9 P w K mg base 1 "deeds_of_kind" cY aX:=z9.byD (N:=["log","kind"]) T.b T.f_deeds_of_kind (by walk_at"sc") jm (by walk_at"dv") jT
def cq:B5:=λds M R=>∃(a b c x r:D) (l:List D),ds=[.tup [a,b,c,.tup<|x::r::l]]/\R r M
theorem ux:dz cq lL:=by rintro ds M R ⟨a,b,c,x,r,l,rfl,_⟩;rfl
def qq:v7:=bp<|u9 w9 (u9 w9 (ac 0)<|dC<|.int 3)<|dC<|.int 1
theorem wJ:D9 cq 1 qq:=by rintro ds M R ⟨a,b,c,x,r,l,rfl,h⟩;simp only[qq];walk_at"dl";have Q:atI [a,b,c,.tup<|x::r::l] 3=a7 (.tup<|x::r::l):=ar (j:=3) rfl;rw[Q];dsimp only;rw[Oc];exact aV.now h
theorem nU(T:Tops P w K mg base):z9 P w K mg base 1 "room_of" lL cq:=z9.byD (N:=["say"]) T.b T.f_room_of (by walk_at"sc") ux (by walk_at"dv") wJ
def db:B5:=λds M R=>∃(a b c x r u:D) (l:List D),ds=[.tup [a,b,c,.tup<|x::r::u::l]]/\R u M
theorem su:dz db iY:=by rintro ds M R ⟨a,b,c,x,r,u,l,rfl,_⟩;rfl
def nu:v7:=bp<|u9 w9 (u9 w9 (ac 0)<|dC<|.int 3)<|dC<|.int 2
theorem tG:D9 db 1 nu:=by rintro ds M R ⟨a,b,c,x,r,u,l,rfl,h⟩;simp only[nu];walk_at"dl";have Q:atI [a,b,c,.tup<|x::r::u::l] 3=a7 (.tup<|x::r::u::l):=ar (j:=3) rfl;have e:atI (x::r::u::l) 2=a7 u:=ar (j:=2) rfl;rw[Q];dsimp only;rw[e];exact aV.now h
theorem lU(T:Tops P w K mg base):z9 P w K mg base 1 "under_of" iY db:=z9.byD (N:=["say"]) T.b T.f_under_of (by walk_at"sc") su (by walk_at"dv") tG
def dw:B5:=λds M R=>∃(ps:List (c5×Int)) (a:List (c5×List c5)) (d:D) (q:Nat) (kvs:List (D×D)),ds=[aC ps a,d,.ref q]/\aR ps a d/\bZ d=v6 "say"/\M[q]?=a7 (.dkt kvs)/\(∀p∈kvs,aR ps a p.2/\bZ p.2=v6 "say")/\R (.bl<|qZ a kvs d) M
theorem pp:dz dw gU:=by rintro ds M R ⟨ps,a,d,q,kvs,rfl,_⟩;rfl
def io:v7:=bp<|dOrV (u9 NA (ac 3)<|dC .non)<|eY (u9 Bu (ac 3)<|ac 2)<|u9 D3 (w6 cq<|aa (dO (ac 2)<|ac 3) ag)<|w6 cq<|aa (ac 1) ag
def ip:v7:=aB (bd (w6 db<|aa (ac 1) ag) 3)<|io
def lq:v7:=aB (C9 (ax<|u9 vU (w6 aY<|aa (ac 1) ag)<|w6 bV<|aa (ac 0)<|aa (w6 cq<|aa (ac 1) ag) ag) (bp<|dC<|.bl bt) aP)<|ip
theorem pY:D9 dw 4 lq:=by
 rintro ds M R ⟨ps,a,d,q,kvs,rfl,p,w,j,y,h⟩;obtain⟨t,z,k,m,r,u,s,rfl,_,_,x,c⟩:=jJ p w;simp only[lq];walk_at"dl";refine⟨_,_,_,_,rfl,_,_,_,_,_,_,rfl,ps,a,r,rfl,x,⟨aq,lA⟩,?_⟩;rw[mn];have n:qZ a kvs (.tup [.int t,.tup [.str z,.int k],.int m,.tup [.str<|v6 "say",.str r,u,.str s]])=(decide (z∈iS a r)&&(decide (u=.non)||match aI kvs u with
  |some e=>decide<|cw e=r
  |none=>bt)):=rfl
 rw[n]at h;by_cases i:z∈iS a r;rw[dT_ i]at h ⊢;refine bN ?_;simp only[ip,io];walk_at"dl";refine⟨_,_,_,_,_,u,_,rfl,?_⟩;rcases c with rfl|c;walk_at"dl";refine aV.now ?_;simpa using h;obtain⟨t',G,I,rfl⟩:=c;rw[dF_<|by intro e;cases e]at h;walk_at"dl";refine⟨kvs,j,rfl,?_⟩;cases g:aI kvs (.tup [.int t',.tup [.str G,.int I]]) with
 |none=>rw[g]at h;exact bN<|aV.now h
 |some e =>
  rw[g]at h;obtain⟨v,b⟩:=y _<|bw g;obtain⟨E,F,C,A,l,D,B,f,_⟩:=jJ v b;dsimp only at f;subst f;refine bL ⟨kvs,_,j,rfl,g,_,_,_,_,_,_,rfl,_,_,_,_,_,_,rfl,⟨aq,aq⟩,?_⟩;rw[aO];refine aV.now ?_;have o:(l==r)=decide (l=r):=by by_cases e:l=r;rw[dT_ e];exact beq_iff_eq.mpr e;rw[dF_ e];exact beq_eq_false_iff_ne.mpr e
  rw[o];exact h
 rw[dF_ i]at h ⊢;exact bL<|aV.now h
theorem rO(T:Tops P w K mg base):z9 P w K mg base 2 "can_stand" gU dw:=z9.byD (N:=["house","say","elders","under"]) T.b T.f_can_stand (by walk_at"sc") pp (by have:=iE T;have:=dk T;have:=nU T;have:=lU T;walk_at"dv") pY
def bq:B5:=λds M R=>∃(ps:List (c5×Int)) (a:List (c5×List c5)) (log:List D),ds=[aC ps a,.tup log]/\(∀d∈log,aR ps a d)/\log.length<=1000/\∀n B,M <+: B->B[n]?=a7 (.dkt<|bf a log)->R (.ref n) B
theorem gX:dz bq cj:=by rintro ds M R ⟨ps,a,log,rfl,_⟩;rfl
theorem kh(h:∀d∈log,aR ps rs d)(g:∀d∈l,d∈kinds log (v6 "say"))(t:TabK l kvs):∀p∈kvs,aR ps rs p.2/\bZ p.2=v6 "say":=λp hp=>by obtain⟨h1,h2⟩:=aQ<|g _ (t.en p hp).2;exact⟨h _ h1,h2⟩
def cS:v7:=bp<|ac 2
def cT:v7:=aB (jP (cJ<|w6 aX<|aa (ac 1)<|aa (dC<|.str "say") ag) (af 3)<|C9 (ax<|w6 dw<|aa (ac 0)<|aa (ac 3)<|aa (ac 2) ag) (jq (ac 2) (w6 dc<|aa (ac 3) ag)<|ac 3) aP)<|cS
def dE:v7:=aB (bd (mV) 2)<|cT
theorem ig:D9 bq 4 dE:=by
 rintro ds M R ⟨ps,rs,log,rfl,c,n,h⟩;simp only[dE,cT];walk_at"dl";refine⟨ps,rs,log,_,rfl,c,n,?_⟩;have p:=bj (log:=log) (k:=v6 "say");have m:∀d∈kinds log (v6 "say"),aR ps rs d/\bZ d=v6 "say":=λd q=>⟨c d (aQ q).1,(aQ q).2⟩
 have f:dP rs (kinds log<|v6 "say")=bf rs log:=rfl;generalize B:kinds log (v6 "say")=K at p m f;refine⟨K,am,λ_=>?_⟩;refine aT (λi S M'=>∃a,M'=M++[.dkt<|dP rs<|K.take i,.lst K]/\S=[a7<|aC ps rs,a7<|.tup log,a7<|.ref M.length,a]) ?_ ?_ ⟨_,by simp[dP],rfl⟩;rintro S M' ⟨a,rfl,rfl⟩;rw[Mx,f];refine⟨.inl ?_,?_⟩;have:(M++[MO.dkt []]).length=M.length+1:=by simp
 rw[this];exact dn;simp only[cS];walk_at"dl";exact .inl<|h _ _ (LM _ _) bo;rintro i y S M' Q ⟨a,rfl,rfl⟩ G b;have o:=K7 Q;have j:K.take (i+1)=K.take i++[y]:=by rw[MD,Q];rfl
 rw[j,hZ]at b;have g:=oj (rs:=rs)<|K.take i;have v:=kh c (λd q=>B ▸ Rw q) g;have l:=g.len;rw[LC]at l;generalize dP rs (K.take i)=kvs at b v l;obtain⟨e,r⟩:=m y o;refine⟨.inl ?_,?_⟩;have:(M++[MO.dkt []]).length=M.length+1:=by simp
 rw[this];exact dn;walk_at"dl";refine⟨ps,rs,y,_,kvs,rfl,e,r,bo,v,?_⟩;unfold tW at b;cases hs:qZ rs kvs y with
 |true=>rw[hs,t6 rfl]at b;refine bL ?_;obtain⟨t,z,k,s,x,ds,rfl,_⟩:=e;refine⟨_,_,_,rfl,kvs,bo,rfl,aw (by lia),?_⟩;rw[fq];exact C6.now<|b _ _ ⟨_,rfl,rfl⟩
 |false=>rw[hs,t7<|by decide]at b;exact bN<|C6.now<|b _ _ ⟨_,rfl,rfl⟩
theorem iD(T:Tops P w K mg base):z9 P w K mg base 3 "says_that_count" cj bq:=z9.byD (N:=["house","log","says","deed"]) T.b T.f_says_that_count (by walk_at"sc") gX (by have:=lV T;have:=cD T;have:=rO T;walk_at"dv") ig
def bX:B5:=λds M R=>∃(t:Int) (z:c5) (k n:Int) (x m:D) (l:List D) (q:Nat) (kvs:List (D×D)),ds=[.tup [.int t,.tup [.str z,.int k],.int n,.tup<|x::m::l],.ref q]/\St m/\M[q]?=a7 (.dkt kvs)/\(∀p∈kvs,Pe p.2)/\R (.bl<|LQ kvs<|.tup [.int t,.tup [.str z,.int k],.int n,.tup<|x::m::l]) M
theorem ka:dz bX dB:=by rintro ds M R ⟨t,z,k,n,x,m,l,q,kvs,rfl,_⟩;rfl
def eT:v7:=bp<|eY (u9 Bu (ac 2)<|ac 1)<|u9 D3 (w6 aY<|aa (ac 0) ag)<|w6 aY<|aa (dO (ac 1)<|ac 2) ag
def gH:v7:=aB (bd (u9 w9 (u9 w9 (ac 0)<|dC<|.int 3)<|dC<|.int 1) 2)<|eT
theorem kF:D9 bX 3 gH:=by
 rintro ds M R ⟨t,z,k,n,x,m,l,q,kvs,rfl,c,b,v,h⟩;simp only[gH,eT];obtain⟨t',G,I,rfl⟩:=c;walk_at"dl";have Q:atI [D.int t,.tup [.str z,.int k],.int n,.tup<|x::.tup [.int t',.tup [.str G,.int I]]::l] 3=a7 (.tup<|x::.tup [.int t',.tup [.str G,.int I]]::l):=ar (j:=3) rfl;rw[Q];dsimp only;rw[Oc];refine⟨kvs,b,rfl,?_⟩;have d:LQ kvs (.tup [.int t,.tup [.str z,.int k],.int n,.tup<|x::.tup [.int t',.tup [.str G,.int I]]::l])=match aI kvs (.tup [.int t',.tup [.str G,.int I]]) with
  |some e=>decide<|z=gh e
  |none=>bt:=rfl
 rw[d]at h;cases g:aI kvs (.tup [.int t',.tup [.str G,.int I]]) with
 |none=>rw[g]at h;exact bN<|aV.now h
 |some e =>
  rw[g]at h;obtain⟨a,y,r,f,rfl⟩:=v _<|bw g;refine bL ⟨_,_,_,_,rfl,kvs,_,b,rfl,g,_,_,_,_,rfl,⟨aq,aq⟩,?_⟩;rw[aO];refine aV.now ?_;have o:(z==y)=decide (z=y):=by by_cases e:z=y;rw[dT_ e];exact beq_iff_eq.mpr e;rw[dF_ e];exact beq_eq_false_iff_ne.mpr e
  rw[o];exact h
theorem lZ(T:Tops P w K mg base):z9 P w K mg base 2 "is_by_writer" dB bX:=z9.byD (N:=["deed","says","message"]) T.b T.f_is_by_writer (by walk_at"sc") ka (by have:=dk T;walk_at"dv") kF
def bE:B5:=λds M R=>∃(ps:List (c5×Int)) (a:List (c5×List c5)) (log:List D) (k:c5) (q:Nat) (kvs:List (D×D)),ds=[.tup log,.str k,.ref q]/\(∀d∈log,aR ps a d)/\log.length<=1000/\(k=v6 "change"\/k=v6 "back")/\M[q]?=a7 (.dkt kvs)/\(∀p∈kvs,Pe p.2)/\R (.ref M.length) (M++[.lst<|(kinds log k).filter<|LQ kvs])
theorem me:dz bE eA:=by rintro ds M R ⟨ps,a,log,k,q,kvs,rfl,_⟩;rfl
theorem Jn(h:aR ps rs d)(e:bZ d=k)(b:k=v6 "change"\/k=v6 "back"):∃(t:Int) (z:c5) (k num:Int) (x m:D) (l:List D),d=.tup [.int t,.tup [.str z,.int k],.int num,.tup<|x::m::l]/\St m:=by rcases b with rfl|rfl;obtain⟨t,z,k,num,m,s,rfl,a⟩:=iP h e;exact⟨t,z,k,num,_,m,_,rfl,a⟩;obtain⟨t,z,k,num,m,rfl,a⟩:=uT h e;exact⟨t,z,k,num,_,m,_,rfl,a⟩
def ik:v7:=bp<|LH 1 [2] (cJ<|w6 aX<|aa (ac 0)<|aa (ac 1) ag) (af 0) (ax<|w6 bX<|aa (ac 0)<|aa (ac 1) ag)<|ac 0
theorem mH:D9 bE 3 ik:=by
 rintro ds M R ⟨ps,rs,log,k,q,kvs,rfl,c,g,f,j,v,h⟩;simp only[ik];walk_at"dl";refine⟨ps,rs,log,k,rfl,c,g,_,am,λ_=>?_⟩;have o:=bj (log:=log) (k:=k);refine ck (LQ kvs) id (λS=>∃a,S=[a,a7<|.ref q]) am _ _ _ ?_ ⟨_,rfl⟩ (by rw[G8];exact ah<|by lia) ?_;rintro d i S ⟨a,rfl⟩;obtain⟨h1,h2⟩:=aQ i;obtain⟨t,z,I,n,x,m,l,rfl,hs⟩:=Jn (c d h1) h2 f;refine⟨[a7<|.tup [.int t,.tup [.str z,.int I],.int n,.tup<|x::m::l],a7<|.ref q],⟨_,rfl⟩,λY Z b=>?_⟩;walk_at"dl";refine⟨t,z,I,n,x,m,l,q,kvs,rfl,hs,ae j,v,?_⟩;cases e:LQ kvs (.tup [.int t,.tup [.str z,.int I],.int n,.tup<|x::m::l]) with
 |true=>rw[e]at b;exact bL b
 |false=>rw[e]at b;exact bN b
 rw[LB,List.map_id,Mn];exact aV.lst h (by simp) (by simp)<|aR.bels (ps:=ps) (rs:=rs) λd m=>c d (aQ (I9.mp m).1).1
theorem gI(T:Tops P w K mg base):z9 P w K mg base 3 "writers_own" eA bE:=z9.byD (N:=["log","kind","says"]) T.b T.f_writers_own (by walk_at"sc") me (by have:=cD T;have:=lZ T;walk_at"dv") mH
def bW:B5:=λds M R=>∃(ps:List (c5×Int)) (a:List (c5×List c5)) (log:List D) (q:Nat) (kvs:List (D×D)),ds=[.tup log,.ref q]/\(∀d∈log,aR ps a d)/\log.length<=1000/\M[q]?=a7 (.dkt kvs)/\(∀p∈kvs,Pe p.2)/\∀n B,M <+: B->B[n]?=a7 (.dkt<|iO kvs log)->R (.ref n) B
theorem jZ:dz bW dA:=by rintro ds M R ⟨ps,a,log,q,kvs,rfl,_⟩;rfl
theorem xM(ps:List (D×D))(h:p∈dictOf ps):p∈ps:=by revert h;refine cI (P:=λps=>p∈dictOf ps->p∈ps) (λh=>h) (λps q i h=>?_) ps;rw[eL]at h;rcases ki h with rfl|h;simp;exact NM _<|i h
theorem uS(h:∀d∈log,aR ps rs d):∀p∈iO kvs log,∃s,p.2=.str s:=λp hp=>by obtain⟨d,a,rfl⟩:=A6.mp<|xM _ hp;obtain⟨h1,h2⟩:=aQ (I9.mp a).1;obtain⟨t,z,k,n,m,s,rfl,hs⟩:=iP (h d h1) h2;exact⟨s,rfl⟩
def gG:v7:=bp<|w6 iX<|aa (LH 1 [] (cJ<|w6 bE<|aa (ac 0)<|aa (dC<|.str "change")<|aa (ac 1) ag) (af 0) pV<|cQ<|aa (u9 w9 (u9 w9 (ac 0)<|dC<|.int 3)<|dC<|.int 1)<|aa (u9 w9 (u9 w9 (ac 0)<|dC<|.int 3)<|dC<|.int 2) ag) ag
theorem kE:D9 bW 2 gG:=by
 rintro ds M R ⟨ps,y,log,q,kvs,rfl,g,u,v,w,h⟩;simp only[gG];walk_at"dl";refine⟨ps,y,log,_,q,kvs,rfl,g,u,.inl rfl,v,w,_,am,λ_=>?_⟩;have A:=bj (log:=log) (k:=v6 "change");have i:=Nx (LQ kvs)<|kinds log<|v6 "change";have c:∀d∈(kinds log<|v6 "change").filter (LQ kvs),∃(t:Int) (z:c5) (k n:Int) (m:D) (s:c5),d=.tup [.int t,.tup [.str z,.int k],.int n,.tup [.str<|v6 "change",m,.str s]]/\St m:=λd m=>by obtain⟨h1,h2⟩:=aQ (I9.mp m).1;exact iP (g d h1) h2
 have f:dictOf (((kinds log<|v6 "change").filter<|LQ kvs).map λd=>(xo d,xY d))=iO kvs log:=rfl;generalize (kinds log<|v6 "change").filter (LQ kvs)=F at i c f;refine bU (λd=>.tup [xo d,xY d]) (λS=>∃a,S=[a]) am _ _ _ (λd b S o=>?_) ⟨_,rfl⟩ (by rw[G8];exact ah<|by lia) ?_;obtain⟨a,rfl⟩:=o;obtain⟨t,z,k,n,m,s,rfl,_⟩:=c d b;refine⟨[a7<|.tup [.int t,.tup [.str z,.int k],.int n,.tup [.str<|v6 "change",m,.str s]]],⟨_,rfl⟩,λY r=>?_⟩;walk_at"dl";have Q:atI [D.int t,.tup [.str z,.int k],.int n,.tup [.str<|v6 "change",m,.str s]] 3=a7 (.tup [.str<|v6 "change",m,.str s]):=ar (j:=3) rfl;rw[Q];dsimp only;rw[Oc];dsimp only;rw[Rc];exact⟨ah (by lia),r⟩;rw[LB];have l:F.map (λd=>D.tup [xo d,xY d])=(F.map λd=>(xo d,xY d)).map λp=>.tup [p.1,p.2]:=by rw[K2];rfl
 rw[l];refine⟨F.map λd=>(xo d,xY d),am,λp b=>?_,by rw[x6];lia,?_⟩;obtain⟨d,x,rfl⟩:=A6.mp b;obtain⟨t,z,k,n,m,s,rfl,hs⟩:=c d x;obtain⟨ks,e⟩:=hs.tup;exact⟨hs.key,by show gK m=a9;rw[e];rfl⟩;rw[f];exact .inl<|h _ _ ((bD.trans bD).trans bD) ao
theorem lX(T:Tops P w K mg base):z9 P w K mg base 4 "last_changes" dA bW:=z9.byD (N:=["log","says"]) T.b T.f_last_changes (by walk_at"sc") jZ (by have:=gI T;walk_at"dv") kE
def bg:B5:=λds M R=>∃(ps:List (c5×Int)) (s:List (c5×List c5)) (log:List D) (q:Nat) (kvs:List (D×D)),ds=[.tup log,.ref q]/\(∀d∈log,aR ps s d)/\log.length<64/\M[q]?=a7 (.dkt kvs)/\(∀p∈kvs,Pe p.2)/\∀ys,(∀x∈ys,St x)->(∀x,x∈ys↔br kvs log x)->ys.Nodup->(ys.Pairwise λa b=>¬D8 x5 b<D8 x5 a)->R (.ref M.length) (M++[.lst ys])
theorem fG:dz bg bI:=by rintro ds M R ⟨ps,a,log,q,kvs,rfl,_⟩;rfl
def cR:v7:=bp<|fI<|LH 1 [] (cJ<|w6 bE<|aa (ac 0)<|aa (dC<|.str "back")<|aa (ac 1) ag) (af 0) pV<|u9 w9 (u9 w9 (ac 0)<|dC<|.int 3)<|dC<|.int 1
theorem gd:D9 bg 2 cR:=by
 rintro ds M R ⟨ps,E,log,q,kvs,rfl,l,H,w,A,h⟩;simp only[cR];walk_at"dl";refine⟨ps,E,log,_,q,kvs,rfl,l,by lia,.inr rfl,w,A,_,am,λ_=>?_⟩;have I:=bj (log:=log) (k:=v6 "back");have r:=Nx (LQ kvs)<|kinds log<|v6 "back";have i:∀d∈(kinds log<|v6 "back").filter (LQ kvs),∃(t:Int) (z:c5) (k n:Int) (m:D),d=.tup [.int t,.tup [.str z,.int k],.int n,.tup [.str<|v6 "back",m]]/\St m:=λd m=>by obtain⟨h1,h2⟩:=aQ (I9.mp m).1;exact uT (l d h1) h2
 have f:∀x,x∈((kinds log<|v6 "back").filter<|LQ kvs).map xo↔br kvs log x:=λx=>by constructor;intro c;obtain⟨d,m,rfl⟩:=A6.mp c;exact⟨d,(I9.mp m).1,(I9.mp m).2,rfl⟩;rintro⟨d,h1,h2,rfl⟩;exact MS<|I9.mpr ⟨h1,h2⟩
 generalize (kinds log<|v6 "back").filter (LQ kvs)=F at r i f;refine bU xo (λS=>∃a,S=[a]) am _ _ _ (λd g S u=>?_) ⟨_,rfl⟩ (by rw[G8];exact ah<|by lia) ?_;obtain⟨a,rfl⟩:=u;obtain⟨t,z,k,n,m,rfl,_⟩:=i d g;refine⟨[a7<|.tup [.int t,.tup [.str z,.int k],.int n,.tup [.str<|v6 "back",m]]],⟨_,rfl⟩,λY v=>?_⟩;walk_at"dl";have p:atI [D.int t,.tup [.str z,.int k],.int n,.tup [.str<|v6 "back",m]] 3=a7 (.tup [.str<|v6 "back",m]):=ar (j:=3) rfl;rw[p];dsimp only;rw[Oc];exact v;rw[LB];have hs:∀x∈F.map xo,St x:=λx c=>by obtain⟨d,g,rfl⟩:=A6.mp c;obtain⟨t,z,k,n,m,rfl,hs⟩:=i d g;exact hs
 refine .inr ⟨8,_,x9 _,.inl ⟨_,rfl,am⟩,by rw[x6];lia,λx c=>?_,ER hs (by rw[x6];lia),λys X Q y=>?_⟩;obtain⟨ks,e⟩:=(hs x c).tup;exact⟨(hs x c).key,by rw[e];rfl⟩;have s:∀x∈ys,St x:=λx c=>hs x<|(Q x).mp c;rw[Mn,Mn];have G:ys.Pairwise λa b=>¬D8 x5 b<D8 x5 a:=(NN.mp y).imp λ{a b} ⟨ha,f,q⟩=>by
  have o:=s a ha;have U:=s b f;have B:E5 x5 a=a9:=by obtain⟨t,z,k,e⟩:=o;rw[e];rfl
  have C:E5 x5 b=a9:=by obtain⟨t,z,k,e⟩:=U;rw[e];rfl
  rw[md C B<|U.cm o]at q;exact of_decide_eq_false q
 exact aV.lst (h ys s (λx=>(Q x).trans<|f x) X G) (by simp) (by simp)<|Bels.of λd m=>cC 2 d (s d m).pl
theorem gg(T:Tops P w K mg base):z9 P w K mg base 4 "stamps_taken_back" bI bg:=z9.byD (N:=["log","says"]) T.b T.f_stamps_taken_back (by walk_at"sc") fG (by have:=gI T;walk_at"dv") gd
def cL:B5:=λds M R=>∃(ps:List (c5×Int)) (a:List (c5×List c5)) (d:D) (q:Nat) (b:List (D×D)),ds=[d,.ref q]/\aR ps a d/\bZ d=v6 "say"/\M[q]?=a7 (.dkt b)/\R (Jo b d) M
theorem mR:dz cL fx:=by rintro ds M R ⟨ps,a,d,q,b,rfl,_⟩;rfl
def gs:v7:=bp<|cQ<|aa (ac 2)<|aa (w6 cq<|aa (ac 0) ag)<|aa (w6 db<|aa (ac 0) ag)<|aa (w6 aY<|aa (ac 0) ag)<|aa (ac 3)<|aa (u9 Bu (ac 2)<|ac 1) ag
def gu:v7:=aB (bd (P8 rJ (ac 1)<|aa (ac 2)<|aa (u9 w9 (u9 w9 (ac 0)<|dC<|.int 3)<|dC<|.int 3) ag) 3)<|gs
def jx:v7:=aB (bd (w6 dc<|aa (ac 0) ag) 2)<|gu
theorem ou:D9 cL 4 jx:=by rintro ds M R ⟨ps,f,d,q,b,rfl,c,e,a,h⟩;obtain⟨t,z,k,m,r,u,s,rfl,_⟩:=jJ c e;simp only[jx,gu];walk_at"dl";refine⟨_,_,_,rfl,⟨_,a⟩,?_⟩;have Q:atI [D.int t,.tup [.str z,.int k],.int m,.tup [.str<|v6 "say",.str r,u,.str s]] 3=a7 (.tup [.str<|v6 "say",.str r,u,.str s]):=ar (j:=3) rfl;have J:atI [.str<|v6 "say",.str r,u,.str s] 3=a7 (.str s):=ar (j:=3) rfl;rw[Q];dsimp only;rw[J];refine⟨b,a,rfl,?_⟩;simp only[gs];walk_at"dl";refine⟨_,_,_,_,_,_,rfl,_,_,_,_,_,_,_,rfl,_,_,_,_,rfl,b,a,rfl,ah (by lia),aV.now h⟩
theorem oV(T:Tops P w K mg base):z9 P w K mg base 2 "message_of" fx cL:=z9.byD (N:=["say","changes","stamp","saying"]) T.b T.f_message_of (by walk_at"sc") mR (by have:=lV T;have:=dk T;have:=nU T;have:=lU T;walk_at"dv") ou
def cK:B5:=λds M R=>∃(ps:List (c5×Int)) (a:List (c5×List c5)) (log:List D),ds=[aC ps a,.tup log]/\(∀d∈log,aR ps a d)/\log.length<64/\∀n B,M <+: B->B[n]?=a7 (.dkt<|bu a log)->R (.ref n) B
theorem mQ:dz cK fv:=by rintro ds M R ⟨ps,a,log,rfl,_⟩;rfl
theorem Ie{M:v8}{l:List D}(h:∀x∈l,St x):l.all (z5 M x5)=a9:=F4.mpr λx a=>(h x a).ok
theorem JZ(a:St x)(h:∀x∈l,St x):Nj M x l=decide (x∈l):=by unfold Nj;by_cases d:x∈l;rw[dT_ d];exact NJ.mpr ⟨x,d,by rw[show x5=28+2 from rfl,a.eq a];exact dT_ rfl⟩;rw[dF_ d];refine MQ.mpr λz=>?_;obtain⟨y,Q,e⟩:=NJ.mp z;rw[show x5=28+2 from rfl,(h y Q).eq a]at e;exact d<|oT_ e ▸ Q
def gi:v7:=bp<|w6 iX<|aa (LH 1 [2,3] (oh<|ac 2) (af 0) (ax<|u9 vU (ac 0)<|ac 2)<|cQ<|aa (ac 0)<|aa (dO (ac 1)<|ac 0) ag) ag
def gp:v7:=aB (bd (w6 bg<|aa (ac 1)<|aa (ac 2) ag) 3)<|gi
def ju:v7:=aB (bd (w6 bq<|aa (ac 0)<|aa (ac 1) ag) 2)<|gp
theorem oq:D9 cK 4 ju:=by
 rintro ds M R ⟨ps,rs,log,rfl,i,w,h⟩;simp only[ju];walk_at"dl";refine⟨ps,rs,log,rfl,i,by lia,λn B A hB=>?_⟩;have t:=bn (rs:=rs) (log:=log);have E:=bj (log:=log) (k:=v6 "say");have v:=kh i (λ_ q=>q) t;have C:=t.len;have X:=t.nd;have m:=t.en;have g:bu rs log=(bf rs log).filter λp=>@decide (¬br (bf rs log) log p.1) (Ot _):=rfl;rw[g]at h;clear g;generalize bf rs log=kvs at h t C v X m hB;simp only[gp];walk_at"dl";refine⟨ps,rs,log,n,kvs,rfl,i,w,hB,λp hp=>(v p hp).1.nm,λys hs Q _ _=>?_⟩;simp only[gi];walk_at"dl";have c:(B++[MO.lst ys])[n]?=a7 (.dkt kvs):=ae hB;refine⟨kvs,c,λ_=>?_⟩;have sp:∀p∈kvs,St p.1:=λp hp=>by rw[(m p hp).1];exact(v p hp).1.st
 refine ck (λk=>decide<|k∉ys) (λk=>.tup [k,(aI kvs k).getD .non]) (λS=>∃a,S=[a,a7<|.ref n,a7<|.ref B.length]) c _ _ _ ?_ ⟨_,rfl⟩ (by rw[G8,x6];exact ah<|by lia) ?_;rintro x y S ⟨a,rfl⟩;obtain⟨p,hp,rfl⟩:=A6.mp y;have s:=sp p hp;have j:=fE X hp;refine⟨[a7 p.1,a7<|.ref n,a7<|.ref B.length],⟨_,rfl⟩,λY Z b=>?_⟩;rw[j]at b;obtain⟨ks,e⟩:=s.tup;have o:=s.key;rw[e]at b j o s ⊢;walk_at"dl";refine⟨ys,am,⟨s.ok,Ie hs⟩,?_⟩;rw[JZ s hs];by_cases f:D.tup ks∈ys;rw[dT_ f];rw[dF_<|λz=>z f]at b;exact bN b;rw[dF_ f];rw[dT_ f,t6 rfl]at b;exact bL ⟨kvs,_,c,o,j,ah (by lia),b⟩;rw[LB];have u:((kvs.map (·.1)).filter λk=>decide<|k∉ys).map (λk=>D.tup [k,(aI kvs k).getD .non])=(kvs.filter λp=>decide<|p.1∉ys).map λp=>.tup [p.1,p.2]:=by rw[List.filter_map,K2];refine PL λp hp=>?_;show D.tup [p.1,(aI kvs p.1).getD .non]=_;rw[fE X (I9.mp hp).1];rfl
 rw[u];have l:((kvs.filter λp=>decide<|p.1∉ys).map (·.1)).Nodup:=(N7.map _).nodup X;refine⟨_,am,λp hp=>?_,?_,?_⟩;have s:=sp p (I9.mp hp).1;obtain⟨ks,e⟩:=s.tup;exact⟨s.key,by rw[e];rfl⟩;have:=Nx (λp:D×D=>decide<|p.1∉ys) kvs;lia;rw[AI _ l];refine .inl<|h _ _ (((A.trans bD).trans bD).trans bD) ?_;have r:(kvs.filter λp=>decide<|p.1∉ys)=kvs.filter λp=>@decide (¬br kvs log p.1) (Ot _):=List.filter_congr λp _=>by by_cases d:br kvs log p.1;rw[dF_<|show ¬¬p.1∈ys from λz=>z<|(Q _).mpr d,@decide_eq_false _ (Ot _)<|λz=>z d];rw[dT_<|show ¬p.1∈ys from λz=>d<|(Q _).mp z,@decide_eq_true _ (Ot _) d]
 rw[<-r];exact ao
theorem oU(T:Tops P w K mg base):z9 P w K mg base 5 "says_shown" fv cK:=z9.byD (N:=["house","log","says","backs"]) T.b T.f_says_shown (by walk_at"sc") mQ (by have:=iD T;have:=gg T;walk_at"dv") oq
def iQ:Bs:=λds M R RX=>∃(ps:List (c5×Int)) (a:List (c5×List c5)) (log:List D) (s:D),ds=[aC ps a,.tup log,s]/\St s/\(ps.map (·.1)).Nodup/\(∀d∈log,aR ps a d)/\log.length<64/\(aI (bu a log) s=a8->RX (v6 "NoMessage") M)/\∀e,aI (bu a log) s=a7 e->R e M
theorem xz:LenX iQ oT:=by rintro ds M R RX ⟨ps,a,log,s,rfl,_⟩;rfl
def nF:Ix:=Nz<|bp<|dO (ac 3)<|ac 2
def nG:Ix:=EI (Q5 (NS (DM<|ax<|w6 eR<|aa (ac 0)<|aa (ac 2) ag)<|ax<|u9 oM (ac 2)<|ac 3) (uY "NoMessage"<|aa (dC<|.str "there is no such message") ag)<|Nz aP)<|nF
def vB:Ix:=EI (Nz<|bd (w6 cK<|aa (ac 0)<|aa (ac 1) ag) 3)<|nG
theorem yd:Re iQ 4 vB:=by
 rintro ds M R RX ⟨ps,a,log,s,rfl,hs,d,f,q,X,h⟩;obtain⟨t,z,k,rfl⟩:=hs;simp only[vB];walk_at"dl";refine⟨ps,a,log,rfl,f,q,λn B A hB=>?_⟩;simp only[nG];walk_at"dl";refine⟨ps,a,t,z,k,rfl,?_⟩;have o:∀{b:Bool},aI (bu a log) (.tup [.int t,.tup [.str z,.int k]])=a8->1<=sizeLine/\XEnd M RX (v6 "NoMessage") B:=λg=>⟨ah (by decide),.inr ⟨M,.refl,A,X g⟩⟩
 cases g:aI (bu a log) (.tup [.int t,.tup [.str z,.int k]]) with
 |none =>
  cases decide (1<=t)&&cE ps (.tup [.str z,.int k]) with
  |false=>exact bL<|o (b:=a9) g
  |true=>refine bN ⟨_,hB,rfl,?_⟩;rw[g];exact bL<|o (b:=a9) g
 |some e=>have p:=(dH.mp<|bw g).1;obtain⟨h1,h2⟩:=bn.en _ p;have m:=aQ h2;have i:=f _ m.1;have c:D.tup [.int t,.tup [.str z,.int k]]=LG e:=h1;obtain⟨t',G,I,x,r,u,s,rfl,j,l,_⟩:=jJ i m.2;simp only[LG,D.tup.injEq,NZ,D.int.injEq,D.str.injEq,and_true]at c;obtain⟨rfl,rfl,rfl⟩:=c;obtain⟨v,w⟩:=Au d l;rw[show (decide (1<=t)&&cE ps (.tup [.str z,.int k]))=a9 from by rw[dT_ j,show cE ps (.tup [.str z,.int k])=a9 from by simp[cE,v,w]];rfl];refine bN ⟨_,hB,rfl,?_⟩;rw[g];refine bN ?_;simp only[nF];walk_at"dl";exact⟨_,_,hB,rfl,g,aV.keep (h _ g) (cC 6 _ i.pl) A⟩
theorem zy(T:Tops P w K mg base):Bt P w K mg base 6 "say_at" oT iQ:=Bt.by (N:=["house","log","stamp","says"]) T.b T.f_say_at (by walk_at"sc") xz (by have:=uk T;have:=oU T;have:=T.cl;walk_at"dvx") yd
def cN:Bs:=λds M R RX=>∃(ps:List (c5×Int)) (a:List (c5×List c5)) (log:List D) (s:D),ds=[aC ps a,.tup log,s]/\St s/\(ps.map (·.1)).Nodup/\(∀d∈log,aR ps a d)/\log.length<64/\(aI (bu a log) s=a8->RX (v6 "NoMessage") M)/\∀e,aI (bu a log) s=a7 e->R (Jo (iO [(s,e)] log) e) M
theorem mS:LenX cN fy:=by rintro ds M R RX ⟨ps,a,log,s,rfl,_⟩;rfl
theorem CB(f:∀p∈ch,∃s,p.2=.str s)(h:aR ps rs d)(c:bZ d=v6 "say"):E7 n (Jo ch d):=by
 obtain⟨t,z,k,m,r,u,s,rfl,_,_,_,g⟩:=jJ h c;have b:E7 n u:=by rcases g with rfl|g;exact .non;exact cC 2 u g.pl
 refine .tup<|.cons (cC 2 _<|St.pl (n:=0) ⟨t,z,k,rfl⟩)<|.cons (.str _)<|.cons b<|.cons (.str _)<|.cons ?_<|.cons (.bl _) .nil;cases e:aI ch (LG<|.tup [.int t,.tup [.str z,.int k],.int m,.tup [.str<|v6 "say",.str r,u,.str s]]) with
 |none=>exact .str _
 |some v=>obtain⟨s',a⟩:=f _<|bw e;dsimp only at a;rw[a];exact .str _
def gx:Ix:=Nz<|bp<|w6 cL<|aa (ac 3)<|aa (w6 bW<|aa (ac 1)<|aa (AS (ac 2)<|ac 3) ag) ag
def jy:Ix:=EI (xSet (O0 iQ<|aa (ac 0)<|aa (ac 1)<|aa (ac 2) ag) 3)<|gx
theorem oy:Re cN 4 jy:=by rintro ds M R RX ⟨ps,r,log,s,rfl,hs,a,d,l,X,h⟩;simp only[jy];walk_at"dl";refine⟨ps,r,log,s,rfl,hs,a,d,l,λg=>.inl<|X g,λe b=>?_⟩;have f:=(dH.mp<|bw b).1;obtain⟨h1,h2⟩:=bn.en _ f;have m:=aQ h2;have i:=d _ m.1;obtain⟨t,z,k,rfl⟩:=hs;simp only[gx];walk_at"dl";refine⟨ao,rfl,?_⟩;rw[fq];refine⟨ps,r,log,_,_,rfl,d,by lia,bo,λp hp=>?_,λn B A hB=>?_⟩;rw[show p=(D.tup [.int t,.tup [.str z,.int k]],e) by simpa using hp];exact i.nm;refine⟨ps,r,e,n,_,rfl,i,m.2,hB,?_⟩;refine aV.keep (h e b) ?_<|(LM _ _).trans A;exact CB (uS d) i m.2
theorem oW(T:Tops P w K mg base):Bt P w K mg base 7 "message_at" fy cN:=Bt.by (N:=["house","log","stamp","say"]) T.b T.f_message_at (by walk_at"sc") mS (by have:=lX T;have:=oV T;have:=zy T;walk_at"dvx") oy
def cO:B5:=λds M R=>∃(ps:List (c5×Int)) (a:List (c5×List c5)) (log:List D) (s:D) (m:List c5),ds=[.tup log,s,.tup<|m.map .str]/\(∀d∈log,aR ps a d)/\log.length<=1000/\St s/\∀n B,M <+: B->B[n]?=a7 (.dkt<|eX log s m)->R (.ref n) B
theorem mU:dz cO fB:=by rintro ds M R ⟨ps,a,log,s,m,rfl,_⟩;rfl
def gy:v7:=bp<|ac 3
def gD:v7:=aB (jP (cJ<|w6 aX<|aa (ac 0)<|aa (dC<|.str "like") ag) (af 4)<|C9 (pK (ax<|u9 D3 (u9 w9 (u9 w9 (ac 4)<|dC<|.int 3)<|dC<|.int 1)<|ac 1)<|ax<|u9 Ox (w6 aY<|aa (ac 4) ag)<|ac 2) (jq (ac 3) (cQ<|aa (u9 w9 (u9 w9 (ac 4)<|dC<|.int 3)<|dC<|.int 2)<|aa (w6 aY<|aa (ac 4) ag) ag)<|u9 w9 (u9 w9 (ac 4)<|dC<|.int 3)<|dC<|.int 3) aP)<|gy
def jC:v7:=aB (bd (mV) 3)<|gD
theorem oA:D9 cO 5 jC:=by
 rintro ds M R ⟨ps,r,log,st,mem,rfl,g,A,e,h⟩;simp only[jC,gD];walk_at"dl";refine⟨ps,r,log,_,rfl,g,A,?_⟩;have C:=bj (log:=log) (k:=v6 "like");have o:∀d∈kinds log (v6 "like"),aR ps r d/\bZ d=v6 "like":=λd q=>⟨g d (aQ q).1,(aQ q).2⟩
 have l:jh st mem (kinds log<|v6 "like")=eX log st mem:=rfl;generalize F:kinds log (v6 "like")=K at C o l;refine⟨K,am,λ_=>?_⟩;have f:(M++[MO.dkt []]).length=M.length+1:=by simp
 refine aT (λi S M'=>∃a,M'=M++[.dkt<|jh st mem<|K.take i,.lst K]/\S=[a7<|.tup log,a7 st,a7<|.tup<|mem.map .str,a7<|.ref M.length,a]) ?_ ?_ ⟨_,by simp[jh],rfl⟩;rintro S M' ⟨a,rfl,rfl⟩;rw[Mx,l];refine⟨.inl ?_,?_⟩;rw[f];exact dn;simp only[gy];walk_at"dl";exact .inl<|h _ _ (LM _ _) bo;rintro i y S M' Q ⟨a,rfl,rfl⟩ G c;have B:=K7 Q;have x:K.take (i+1)=K.take i++[y]:=by rw[MD,Q];rfl
 rw[x,jg]at c;have p:=(fF (st:=st) (mem:=mem)<|K.take i).len;rw[LC]at p;generalize jh st mem (K.take i)=kvs at c p;obtain⟨u,E⟩:=o y B;obtain⟨t,z,k,n,m,s,b,rfl,hs⟩:=zM u E;refine⟨.inl ?_,?_⟩;rw[f];exact dn;walk_at"dl";have w:atI [D.int t,.tup [.str z,.int k],.int n,.tup [.str<|v6 "like",m,.str s,.bl b]] 3=a7 (.tup [.str<|v6 "like",m,.str s,.bl b]):=ar (j:=3) rfl;have J:atI [.str<|v6 "like",m,.str s,.bl b] 3=a7 (.bl b):=ar (j:=3) rfl;simp only[w,J,Oc,Rc];refine⟨⟨hs.ok,e.ok⟩,?_⟩;rw[show x5=28+2 from rfl,hs.eq e];have v:qY st mem kvs (.tup [.int t,.tup [.str z,.int k],.int n,.tup [.str<|v6 "like",m,.str s,.bl b]])=if m=st/\z∈mem then fR kvs (F9 s z) (.bl b)else kvs:=rfl
 rw[v]at c;by_cases h1:m=st;rw[dT_ h1];refine bL ⟨_,_,_,_,rfl,⟨aq,lA⟩,?_⟩;rw[mn];by_cases h2:z∈mem;rw[dT_ h2];rw[t6 ⟨h1,h2⟩]at c;refine bL ⟨_,_,_,_,rfl,ah (by lia),kvs,bo,rfl,aw (by lia),?_⟩;rw[fq];exact C6.now<|c _ _ ⟨_,rfl,rfl⟩;rw[dF_ h2];rw[t7 λz=>h2 z.2]at c;exact bN<|C6.now<|c _ _ ⟨_,rfl,rfl⟩;rw[dF_ h1];rw[t7 λz=>h1 z.1]at c;exact bN<|C6.now<|c _ _ ⟨_,rfl,rfl⟩
theorem oX(T:Tops P w K mg base):z9 P w K mg base 2 "last_likes" fB cO:=z9.byD (N:=["log","stamp","members","likes","deed"]) T.b T.f_last_likes (by walk_at"sc") mU (by have:=dk T;have:=cD T;walk_at"dv") oA
structure NbAt(B:v8)(n lo:Nat)(tab:List (c5×D))(l:List (c5×c5)):Prop where
 at_:B[n]?=a7 (.dct tab)
 le:n<=lo
 ks:tab.map (·.1)=aH l
 va:∀s∈aH l,∃m,dD tab s=a7 (.ref m)/\lo<m/\B[m]?=a7 (.lst<|(aG l s).map .str)
 inj:∀a∈aH l,∀b∈aH l,dD tab a=dD tab b->a=b
def bG:B5:=λds M R=>∃(q N:Nat) (T:List (D×D)),ds=[.ref q]/\M[q]?=a7 (.dkt T)/\TabL N T/\N<64/\∀n o B b l,M <+: B->M.length<=n->NbAt B n o b l->NC T l->R (.ref n) B
theorem ji:dz bG cW:=by rintro ds M R ⟨q,N,T,rfl,_⟩;rfl
theorem lkK_inj(h:F9 a b=F9 c d):a=c/\b=d:=by unfold F9 at h;simpa using h
theorem lk_lt:E2 M x5 (F9 a b) (F9 c d)=if a=c then(if b=d then bt else cf b d)else cf a c:=by show (if w4 M 29 (.str a) (.str c)=a9 then(if w4 M 29 (.str b) (.str d)=a9 then bt else cf b d)else cf a c)=_;rw[aO,aO];by_cases h:a=c;rw[t6<|beq_iff_eq.mpr h,t6 h];by_cases h2:b=d;rw[t6<|beq_iff_eq.mpr h2,t6 h2];rw[t7<|λz=>h2<|eq_of_beq z,t7 h2];rw[t7<|λz=>h<|eq_of_beq z,t7 h]
theorem qW:cf a a=bt:=dF_<|NG _
theorem Jr(h:∀x∈xs,∃s n,x=F9 s n)(l:xs.length<64):SrtOk M xs:=by
 refine⟨l,λx a=>?_,λx a y Q=>?_,.inr<|.inr<|.inl λx a=>?_⟩;obtain⟨s,n,rfl⟩:=h x a;rfl
 ·obtain⟨s,n,rfl⟩:=h x a
  obtain⟨s',f,rfl⟩:=h y Q;show (if w4 M 29 (.str s) (.str s')=a9 then(if w4 M 29 (.str n) (.str f)=a9 then a9 else a9)else a9)=a9
  repeat' split
  all_goals rfl
 obtain⟨s,n,rfl⟩:=h x a;exact⟨_,_,rfl⟩
noncomputable def Mq:D->c5×c5
 |.tup [.str s,.str n]=>(s,n)
 |_=>(v6 "",v6 "")
theorem tN:Mq (F9 s n)=(s,n):=rfl
noncomputable def xf(T:List (D×D))(s:List D):List (c5×c5):=(s.filter λz=>decide<|aI T z=a7 (.bl a9)).map Mq
theorem zt:xf T (zs++[z])=xf T zs++if aI T z=a7 (.bl a9)then[Mq z]else[]:=by unfold xf;rw[QC,L6];congr 1;by_cases h:aI T z=a7 (.bl a9);rw[Nf,dT_ h,t6 rfl,t6 h];rfl;rw[Nf,dF_ h,t7 (by decide),t7 h];rfl
theorem zu(t:TabL N T)(p:zs.Perm (T.map (·.1)))(r:uW M zs):NC T (xf T zs):=by
 have d:∀z∈zs,∃s n,z=F9 s n:=λz d=>by obtain⟨q,k,rfl⟩:=A6.mp<|p.mem_iff.mp d;obtain⟨s,m,b,rfl⟩:=t.en q k;exact⟨s,m,rfl⟩
 have X:zs.Nodup:=p.nodup_iff.mpr t.nd;have c:∀z∈zs.filter (λz=>decide<|aI T z=a7 (.bl a9)),∃s n,z=F9 s n:=λz h=>d z (I9.mp h).1;have o:∀a b:D,(∃s n,a=F9 s n)->(∃s n,b=F9 s n)->E2 M x5 b a=bt->cf (Mq b).1 (Mq a).1=bt/\((Mq a).1=(Mq b).1->cf (Mq b).2 (Mq a).2=bt):=by rintro _ _ ⟨s,n,rfl⟩ ⟨s',g,rfl⟩ h;rw[lk_lt]at h;rw[tN,tN];dsimp only;by_cases e:s'=s;subst e;rw[t6 rfl]at h;refine⟨qW,λ_=>?_⟩;by_cases l:g=n;subst l;exact qW;rw[t7 l]at h;exact h;rw[t7 e]at h;exact⟨h,λz=>t8 z.symm e⟩
 have j:=NN.mp<|Rv (λz=>decide<|aI T z=a7 (.bl a9)) r;refine⟨?_,λs n=>?_,?_,?_,?_⟩;unfold xf;rw[Nh,MP];refine(NN.mp<|Nh.mp<|N7.nodup X).imp λ{a b} ⟨ha,hb,q⟩ e=>q ?_;obtain⟨s,n,rfl⟩:=c a ha;obtain⟨s',g,rfl⟩:=c b hb;rw[tN,tN]at e;obtain⟨rfl,rfl⟩:=Prod.mk.inj e;rfl;unfold xf;constructor;intro h;obtain⟨z,i,e⟩:=A6.mp h;obtain⟨s',g,rfl⟩:=c z i;rw[tN]at e;obtain⟨rfl,rfl⟩:=Prod.mk.inj e;exact oT_ (I9.mp i).2;intro h;refine A6.mpr ⟨F9 s n,I9.mpr ⟨?_,dT_ h⟩,rfl⟩;exact p.mem_iff.mpr (MS (f:=(·.1))<|bw h);unfold xf;rw[MP];exact j.imp λ{a b} ⟨ha,hb,q⟩=>(o a b (c a ha) (c b hb) q).1;unfold xf;rw[MP];exact j.imp λ{a b} ⟨ha,hb,q⟩=>(o a b (c a ha) (c b hb) q).2;unfold xf;rw[x6];refine K3 (Nx _ _) ?_;rw[p.length_eq,x6];exact x9 _
def dF:v7:=bp<|ac 1
def dG:v7:=aB (jP (cJ<|w6 iA<|aa (ac 0) ag) (dL 2<|aA (af 2)<|aA (af 3) dN)<|C9 (ax<|dO (ac 0)<|cQ<|aa (ac 2)<|aa (ac 3) ag) (iM<|Ms bQ (O8 rL (ac 1)<|aa (ac 2)<|aa (gM ag) ag)<|aa (ac 3) ag) aP)<|dF
def fe:v7:=aB (bd (DN) 1)<|dG
theorem Cu(g:NbAt B n lo tab l)(H:lo<B.length)(Z:l.length<1000)(E:S[1]?=a7 (a7<|.ref n)/\S[2]?=a7 (a7<|.str s)/\S[3]?=a7 (a7<|.str z))(R:M.length<=n) (O:M <+: B) (h:∀tab' B',NbAt B' n lo tab' (l++[(s,z)])->M <+: B'->(∀j x,j<=lo->j≠n->B[j]?=a7 x->B'[j]?=a7 x)->Q .non B'):(Ms bQ (O8 rL (ac 1)<|aa (ac 2)<|aa (gM ag) ag)<|aa (ac 3) ag) S B Q:=by
 have nb:=aE g.at_;have le:=g.le;have kl:=kr l;have tl:tab.length=(aH l).length:=by rw[<-g.ks,x6]
 simp only[Ms,O8,ac,aa,ag,gM,E.1,E.2.1,E.2.2,Option.join_some];refine⟨⟨tab,g.at_⟩,D6 _,?_⟩;refine⟨tab,ae g.at_,aw (by lia),λy u=>?_,λT=>?_⟩;have k:s∈aH l:=by rw[<-g.ks];refine NO λz=>?_;rw[vm.mpr z]at u;cases u
 obtain⟨m,I,Y,r⟩:=g.va s k;rw[I]at u;obtain rfl:=D0 u;have mb:=aE r;refine⟨⟨_,.inl<|ae r⟩,?_⟩;have nl:=rS (l:=l) (s:=s);refine⟨_,ae r,aw (by rw[x6];lia),h tab _ ⟨bc (by lia)<|ae g.at_,le,?_,λt D=>?_,?_⟩ (ci (O.trans bD)<|by lia) λj x V L q=>bc (by lia)<|ae q⟩;rw[aZ,t6 k];exact g.ks;rw[aZ,t6 k]at D;rw[jL];by_cases e:s=t;subst e;refine⟨m,I,Y,?_⟩;rw[t6 rfl,L6];exact cZ<|ae r;rw[t7 e,LS];obtain⟨p,d,i,c⟩:=g.va t D;refine⟨p,d,i,bc (λz=>e ?_)<|ae c⟩;subst z;exact g.inj s k t D<|I.trans d.symm;rw[aZ,t6 k];exact g.inj;have k:s∉aH l:=by rw[<-g.ks];exact vm.mp T
 have G:s∉tab.map (·.1):=by rw[g.ks];exact k
 have A:∀x,((B++[MO.lst []]).set n x)[B.length]?=a7 (.lst []):=λx=>bc (by lia) ao;refine⟨⟨_,.inl<|A _⟩,_,A _,aw (by simp),h (lG tab s<|.ref B.length) _ ⟨bc (by lia)<|cZ<|ae g.at_,le,?_,λt D=>?_,λa K b F e=>?_⟩ (ci (ci (O.trans bD) R)<|by lia) λj x V L q=>bc (by have:=aE q;lia)<|bc L<|ae q⟩;rw[aZ,t7 k,vV G,L6,g.ks];rfl;rw[aZ,t7 k]at D;rw[jL];by_cases e:s=t;subst e;have P:aG l s=[]:=by refine List.eq_nil_iff_forall_not_mem.mpr λz U=>?_;exact k<|(kq l s).mpr ⟨z,iF.mp U⟩
 refine⟨B.length,kH,H,?_⟩;rw[t6 rfl,P];exact cZ<|A _;have J:t∈aH l:=by rcases J0.mp D with D|D;exact D;exact t8 (show t=s by simpa using D).symm e
 rw[t7 e,LS];obtain⟨p,d,i,c⟩:=g.va t J;have:=aE c;refine⟨p,(mY<|A7 e).trans d,i,bc (by lia)<|bc (by lia)<|ae c⟩;rw[aZ,t7 k]at K F;have o:∀t,t∈aH l++[s]->t≠s->t∈aH l/\dD (lG tab s<|.ref B.length) t=dD tab t:=λt D e=>by rcases J0.mp D with D|D;exact⟨D,mY e⟩;exact t8 (by simpa using D) e
 have N:∀t∈aH l,dD tab t≠a7 (.ref B.length):=λt D z=>by
  obtain⟨p,d,i,c⟩:=g.va t D;have:=aE c;rw[d]at z;have:p=B.length:=by simpa using z
  lia
 by_cases w:a=s;by_cases f:b=s;rw[w,f];obtain⟨v,C⟩:=o b F f;rw[w,kH,C]at e;exact t8 e.symm<|N b v;obtain⟨v,C⟩:=o a K w;by_cases f:b=s;rw[f,kH,C]at e;exact t8 e<|N a v;obtain⟨W,X⟩:=o b F f;rw[C,X]at e;exact g.inj a v b W e
theorem jR:D9 bG 4 fe:=by
 rintro ds M R ⟨q,N,T,rfl,w,j,U,h⟩;have P:=j.len;have V:=aE w;simp only[fe,dG];walk_at"dl";have H:∀x∈T.map (·.1),∃s n,x=F9 s n:=λx J=>by obtain⟨p,hp,rfl⟩:=A6.mp J;obtain⟨s,m,b,rfl⟩:=j.en p hp;exact⟨s,m,rfl⟩
 refine⟨T,ae w,Jr H (by rw[x6];lia),λc p r=>?_⟩;have L:=(zu j p r)
 have W:c.length<=N:=by rw[p.length_eq,x6];exact P
 have v:(M++[MO.dct []]).length=M.length+1:=by simp
 refine⟨c,am,λ_=>?_⟩;refine aT (λi S M'=>∃(t:List (c5×D)) (a b:Option D),M <+: M'/\M'[M.length+1]?=a7 (.lst c)/\NbAt M' M.length (M.length+1) t (xf T<|c.take i)/\S=[a7<|.ref q,a7<|.ref M.length,a,b]) ?_ ?_ ⟨[],_,_,bD.trans bD,by rw[<-v];exact ao,⟨ae ao,by lia,rfl,(λ_ z=>nomatch z),(λ_ z=>nomatch z)⟩,rfl⟩;rintro S M' ⟨t,a,b,pM,f,g,rfl⟩;rw[Mx]at g;refine⟨.inl (by rw[v];exact f),?_⟩;simp only[dF];walk_at"dl";exact .inl<|h _ _ _ _ _ pM (x9 _) g L;rintro i y S M' B ⟨t,a,b,pM,f,g,rfl⟩ G d;have I:=K7 B;have E:c.take (i+1)=c.take i++[y]:=by rw[MD,B];rfl
 rw[E,zt]at d;have K:(xf T<|c.take i).length<=c.length:=by unfold xf;rw[x6];refine K3 (Nx _ _) ?_;rw[LC];lia
 generalize xf T (c.take i)=l at d g K;obtain⟨O,hp,e⟩:=A6.mp<|p.mem_iff.mp I;obtain⟨s,n,C,rfl⟩:=j.en O hp;obtain rfl:F9 s n=y:=e;have u:=fE j.nd hp;refine⟨.inl (by rw[v];exact f),?_⟩;unfold F9 at d u ⊢;dsimp only at u;walk_at"dl";refine⟨trivial,ah (by lia),T,_,bA pM w,rfl,u,?_⟩;rw[u]at d;cases C with
 |true=>rw[t6 rfl]at d;refine bL ?_;refine Cu (M:=M) (Q:=λ_ B'=>C6 (M++[MO.dct []]++[MO.lst c]) G [a7<|.ref q,a7<|.ref M.length,a7<|.str s,a7<|.str n] B') (n:=M.length) (s:=s) (z:=n) (S:=[a7<|.ref q,a7<|.ref M.length,a7<|.str s,a7<|.str n]) g (aE f) (by lia) ⟨rfl,rfl,rfl⟩ (x9 _) pM ?_;exact λo B' F A k=>C6.now<|d _ _ ⟨o,_,_,A,k _ _ (x9 _) (by lia) f,F,rfl⟩
 |false=>rw[t7 (by simp),LS]at d;exact bN<|C6.now<|d _ _ ⟨t,_,_,pM,f,g,rfl⟩
theorem jW(T:Tops P w K mg base):z9 P w K mg base 1 "names_by_sort" cW bG:=z9.byD (N:=["likes","names","sort","name"]) T.b T.f_names_by_sort (by walk_at"sc") ji (by walk_at"dv") jR
def cr:Bs:=λds M R RX=>∃(ps:List (c5×Int)) (a:List (c5×List c5)) (log:List D) (s:D),ds=[aC ps a,.tup log,s]/\St s/\(ps.map (·.1)).Nodup/\(∀d∈log,aR ps a d)/\log.length<64/\(aI (bu a log) s=a8->RX (v6 "NoMessage") M)/\∀e,aI (bu a log) s=a7 e->∀l,NC (eX log s<|iS a<|cw e) l->l.length<64->R (.ref M.length) (M++[.lst<|bv l])
theorem sw:LenX cr ja:=by rintro ds M R RX ⟨ps,a,log,s,rfl,_⟩;rfl
noncomputable def RN(l:List (c5×c5)):D->D
 |.str s=>xv l s
 |_=>.non
theorem sj:E7 k (xv l s):=.tup<|.cons (.str _)<|.cons (.tup<|vR _) .nil
def jA:Ix:=Nz<|bp<|LH 1 [4] (AU<|ac 4) (af 0) pV<|cQ<|aa (ac 0)<|aa (w6 eV<|aa (Hf (ac 1)<|ac 0) ag) ag
def jB:Ix:=EI (Nz<|bd (w6 bG<|aa (w6 cO<|aa (ac 1)<|aa (ac 2)<|aa (w6 bV<|aa (ac 0)<|aa (ac 3) ag) ag) ag) 4)<|jA
def nH:Ix:=EI (xSet (Q4 w9 (O0 cN<|aa (ac 0)<|aa (ac 1)<|aa (ac 2) ag)<|dC<|.int 1) 3)<|jB
theorem tI:Re cr 5 nH:=by
 rintro ds M R RX ⟨ps,c,log,st,rfl,hs,w,i,U,X,h⟩;simp only[nH];walk_at"dl";refine⟨ps,c,log,st,rfl,hs,w,i,U,λg=>.inl<|X g,λe C=>?_⟩;replace h:=h e C;have Q:=(dH.mp<|bw C).1;obtain⟨h1,h2⟩:=bn.en _ Q;have E:=aQ h2;have y:=i _ E.1;dsimp only at h1;subst h1;simp only[Jo];walk_at"dl";have v:cw e∈c.map (·.1):=by obtain⟨t,z,k,ab,r,u,s,rfl,_,_,v,_⟩:=jJ y E.2;exact v
 simp only[jB];walk_at"dl";refine⟨ps,c,cw e,rfl,v,ps,c,log,LG e,iS c<|cw e,rfl,i,by lia,y.st,λn B H P=>?_⟩;have j:=fF (st:=LG e) (mem:=iS c<|cw e)<|kinds log<|v6 "like";have kl:=bj (log:=log) (k:=v6 "like");rw[show jh (LG e) (iS c<|cw e) (kinds log<|v6 "like")=eX log (LG e) (iS c<|cw e)from rfl]at j;generalize eX log (LG e) (iS c<|cw e)=T at h P j;refine⟨n,_,T,rfl,P,j,by lia,λf lo B' b l A V g G=>?_⟩;have ll:l.length<64:=by have:=G.len;have:=j.len;lia
 have le:=g.le;have kn:=kr l;simp only[jA];walk_at"dl";refine⟨b,g.at_,λo _=>?_⟩;have q:(B'.set f<|.fdc o b)[f]?=a7 (.fdc o b):=cZ g.at_;have Z:b.map (λp=>D.str p.1)=(aH l).map .str:=by rw[<-g.ks,K2];rfl
 rw[Z];have I:M <+: B'.set f (.fdc o b):=ci (H.trans A)<|K3 H.length_le V;have J:∀s∈aH l,∃m,dD b s=a7 (.ref m)/\(B'.set f<|.fdc o b)[m]?=a7 (.lst<|(aG l s).map .str):=λs hs=>by obtain⟨m,h1,h2,K⟩:=g.va s hs;exact⟨m,h1,bc (by lia) K⟩
 generalize B'.set f (.fdc o b)=F at q I J;refine bU (RN l) (λS=>∃a,S=[a,a7<|.ref f]) q _ _ _ (λx W S N=>?_) ⟨_,rfl⟩ (by rw[G8,x6];exact ah<|by lia) ?_;obtain⟨a,rfl⟩:=N;obtain⟨s,hs,rfl⟩:=A6.mp W;refine⟨[a7<|.str s,a7<|.ref f],⟨_,rfl⟩,λY O=>?_⟩;obtain⟨m,h1,h2⟩:=J s hs;walk_at"dl";refine⟨o,b,_,q,h1,?_⟩;exact⟨_,.inl h2,ah (by lia),O⟩;rw[LB,K2];rw[show (aH l).map (RN l ∘ D.str)=bv l from rfl];obtain⟨L,rfl⟩:=I;rw[Mn];refine aV.lst (h l G ll) (by simp) (by simp)<|Bels.of λd i=>?_;obtain⟨s,_,rfl⟩:=A6.mp i;exact sj
theorem lW(T:Tops P w K mg base):Bt P w K mg base 8 "likes_of" ja cr:=Bt.by (N:=["house","log","stamp","room","names"]) T.b T.f_likes_of (by walk_at"sc") sw (by have:=iE T;have:=oW T;have:=oX T;have:=jW T;walk_at"dvx") tI
noncomputable def AY(ns:List Int)(k:Nat):Int:=ns.getD k 0
def dS:B5:=λds M R=>∃(n:Nat) (ns:List Int) (k:Nat),ds=[.ref n,.int k]/\ak M n (ns.map D.int)/\R (.int<|AY ns k) M
theorem uC:dz dS lQ:=by rintro ds M R ⟨n,ns,k,rfl,_⟩;rfl
def lh:v7:=bp<|dC<|.int 0
def qU:v7:=aB (C9 (ax<|u9 Ni (ac 1)<|w6 jV<|aa (ac 0) ag) (bp<|u9 w9 (ac 0)<|ac 1) aP)<|lh
theorem wO:D9 dS 2 qU:=by rintro ds M R ⟨n,ns,k,rfl,L,h⟩;simp only[qU,lh];walk_at"dl";refine⟨_,L,?_⟩;unfold AY at h;by_cases a:k<ns.length;rw[dT_<|by simpa using a];refine bL ⟨_,L,?_⟩;rw[ar (v:=.int ns[k])<|by rw[E1,A4 a];rfl];rw[LV,A4 a]at h;exact aV.now h;rw[dF_<|by simpa using a];rw[LV,N9<|by lia]at h;exact bN<|aV.now h
theorem nV(T:Tops P w K mg base):z9 P w K mg base 1 "_law_cell_at" lQ dS:=z9.byD (N:=["_law_script","_law_k"]) T.b T.f_cell_at (by walk_at"sc") uC (by walk_at"dv") wO
def du:B5:=λds M R=>∃(c k:Int),ds=[.int c,.int k]/\(0<=k/\k<=1000)/\∀i:Int,R (.int i) M
theorem zP:dz du ud:=by rintro ds M R ⟨c,k,rfl,_⟩;rfl
def qF:v7:=bp<|u9 bY (u9 aK (u9 aK (u9 jU (ac 2)<|dC<|.int 69621)<|u9 jU (u9 jU (dC<|.int 7919)<|ac 1)<|ac 1)<|dC<|.int 5)<|dC<|.int 1999999973
def ym:v7:=aB (bd (u9 bY (u9 jU (u9 aK (u9 aK (u9 bY (ac 0)<|dC<|.int 2147483629)<|u9 jU (dC<|.int 7919)<|ac 1)<|dC<|.int 11)<|dC<|.int 48271)<|dC<|.int 2147483587) 2)<|qF
theorem BB:D9 du 3 ym:=by rintro ds M R ⟨c,k,rfl,⟨v,B⟩,h⟩;simp only[ym,qF];walk_at"dl";exact⟨by decide,.inl ⟨by decide,by decide⟩,.inr ⟨by decide,by decide⟩,by decide,.inr ⟨by decide,by decide⟩,.inl ⟨by decide,by decide⟩,.inr ⟨by lia,by lia⟩,by decide,aV.now<|h _⟩
theorem vX(T:Tops P w K mg base):z9 P w K mg base 1 "_law_mixed" ud du:=z9.byD (N:=["_law_cell","_law_k","_law_number"]) T.b T.f_mixed (by walk_at"sc") zP (by walk_at"dv") BB
def mG:B5:=λds M R=>∃(c k:Int),ds=[.int c,.int k]/\(0<=k/\k<=900)/\∀i:Int,R (.int i) M
theorem CI:dz mG zq:=by rintro ds M R ⟨c,k,rfl,_⟩;rfl
def vL:v7:=bp<|w6 du<|aa (w6 du<|aa (ac 0)<|aa (ac 1) ag)<|aa (u9 aK (ac 1)<|dC<|.int 9) ag
def Eg:v7:=aB (C9 (ax<|u9 D3 (u9 bY (ac 0)<|dC<|.int 2)<|dC<|.int 0) (bp<|u9 aN (ac 0)<|dC<|.int 2) aP)<|vL
theorem EM:D9 mG 2 Eg:=by
 rintro ds M R ⟨c,k,rfl,⟨v,B⟩,h⟩;simp only[Eg,vL];walk_at"dl";refine⟨by decide,⟨aF,aF⟩,?_⟩;cases w4 M x5 (.int<|c % 2) (.int 0) with
 |true=>exact bL ⟨⟨by decide,by decide⟩,aV.now<|h _⟩
 |false=>exact bN ⟨c,k,rfl,⟨v,by lia⟩,λi=>⟨i,k+9,rfl,⟨by lia,by lia⟩,λj=>aV.now<|h j⟩⟩
theorem FD(T:Tops P w K mg base):z9 P w K mg base 2 "_law_free" zq mG:=z9.byD (N:=["_law_cell","_law_k"]) T.b T.f_free (by walk_at"sc") CI (by have:=vX T;walk_at"dv") EM
def fY:B5:=λds M R=>∃(n:Nat) (ns:List Int) (a m:Nat),ds=[.ref n,.int a,.int m]/\ak M n (ns.map D.int)/\ns.length<=100/\a<=10/\m<=100/\∀xs:List Int,xs.length<=m->R (.ref M.length) (M++[.lst<|xs.map .int])
theorem uz:dz fY lN:=by rintro ds M R ⟨n,ns,a,m,rfl,_⟩;rfl
theorem CZ{ns:List Int}{lo hi:Option Int}:∃l:List Int,cutD (ns.map D.int) lo hi=l.map D.int:=by unfold cutD;rw[<-List.map_drop,<-List.map_take];exact⟨_,rfl⟩
theorem DO{xs:List D}{s m:Nat}:(cutD xs (a7<|(s:Int)+1)<|a7<|(s:Int)+1+(m:Int)).length<=m:=by unfold cutD;rw[LC,show ((s:Int)+1)=((s+1:Nat):Int) by lia,show (((s+1:Nat):Int)+(m:Int))=((s+1+m:Nat):Int) by lia,HT.sIx_nat,HT.sIx_nat];lia
def jv:v7:=bp<|ac 4
def jw:v7:=iM<|Ms bQ (ac 4)<|aa (u9 aK (u9 jU (ac 9)<|dC<|.int 1000003)<|w6 du<|aa (ac 9)<|aa (u9 aK (ac 7)<|dC<|.int 5) ag) ag
def eZ:v7:=aB (jP (bK<|aa (w6 jV<|aa (ac 8) ag) ag) (af 7)<|aB (bd (w6 du<|aa (w6 du<|aa (u9 w9 (ac 8)<|ac 7)<|aa (ac 7) ag)<|aa (dC<|.int 3) ag) 9)<|jw)<|jv
def kN:v7:=aB (C9 (ax<|u9 D3 (ac 8)<|gM ag) (iL 1 [3] (bK<|aa (u9 bY (u9 aN (ac 3)<|dC<|.int 2)<|u9 aK (ac 2)<|dC<|.int 1) ag) (af 0) pV (u9 aK (u9 aN (ac 1)<|dC<|.int 2)<|u9 jU (dC<|.int 7)<|ac 0) 8) aP)<|eZ
def kO:v7:=aB (bd (Oy (ac 0) (uQ<|u9 aK (ac 1)<|dC<|.int 1)<|uQ<|u9 aK (u9 aK (ac 1)<|dC<|.int 1)<|ac 2) 8)<|kN
def kP:v7:=bp<|ac 4
def kQ:v7:=bd (u9 aN (ac 5)<|u9 Fa (dC<|.int 10)<|dC<|.int 24) 5
def kR:v7:=aB (jP (bK<|aa (ac 6) ag) (af 7)<|aB (iM<|Ms bQ (ac 4)<|aa (u9 bY (ac 5)<|u9 Fa (dC<|.int 10)<|dC<|.int 24) ag)<|kQ)<|kP
def kT:v7:=aB (bd (u9 aN (ac 5)<|u9 aK (ac 2)<|dC<|.int 1) 5)<|kR
def kU:v7:=aB (bd (u9 bY (ac 5)<|u9 aK (ac 2)<|dC<|.int 1) 6)<|kT
def kW:v7:=aB (C9 (ax<|u9 D3 (u9 bY (ac 3)<|dC<|.int 2)<|dC<|.int 0) (aB (bd (u9 aN (ac 3)<|dC<|.int 2) 5)<|kU) aP)<|kO
def kX:v7:=aB (bd (gM ag) 4)<|kW
def qt:v7:=aB (bd (w6 dS<|aa (ac 0)<|aa (ac 1) ag) 3)<|kX
theorem nW{M L:v8}{R:DK}{cs:List Int}{c m:Nat}{r y1 W g j k p q:Option D}(f:ak (M++MO.lst []::L) c (cs.map D.int))(l:c≠M.length)(s:cs.length<=m)(U:m<=100)(h:∀xs:List Int,xs.length<=m->R (.ref M.length) (M++[.lst<|xs.map .int])):eZ (EE M R) [r,y1,W,g,a7<|.ref M.length,j,k,p,a7<|.ref c,q] (M++MO.lst []::L):=by
 simp only[eZ];walk_at"dl";refine⟨_,f,⟨by lia,by rw[x6];lia⟩,?_⟩;refine aT (λi S M'=>∃(xs:List Int) (a b:Option D),xs.length=i/\(∃d,M'=M++MO.lst (xs.map .int)::d)/\ak M' c (cs.map D.int)/\S=[r,y1,W,g,a7<|.ref M.length,j,k,a,a7<|.ref c,b]) ?_ ?_ ⟨[],_,_,rfl,⟨L,rfl⟩,f,rfl⟩;rintro S M' ⟨xs,a,b,x,⟨d,rfl⟩,O,rfl⟩;rw[bi,x6,Lv]at x;refine⟨trivial,?_⟩;simp only[jv];walk_at"dl";exact aV.lst (h xs<|by lia) (x9 _) bo<|wo xs;rintro i y S M' Q ⟨xs,a,b,x,⟨d,rfl⟩,O,rfl⟩ G n;obtain⟨hi,rfl⟩:=bP.mp Q;rw[x6,Lv]at hi;refine⟨trivial,?_⟩;walk_at"dl";have e:atI (cs.map D.int) (0+(i:Int))=a7 (.int cs[i]):=by rw[Oj];exact ar<|by rw[E1,A4 hi];rfl
 refine⟨_,O,?_⟩;rw[e];refine⟨_,_,rfl,⟨by lia,by lia⟩,λv=>⟨v,3,rfl,⟨by decide,by decide⟩,λo=>?_⟩⟩;simp only[jw];walk_at"dl";refine⟨⟨_,.inl bo⟩,.inr ⟨by decide,by decide⟩,o,_,rfl,⟨by lia,by lia⟩,λw=>⟨xs.map .int,bo,by rw[x6];exact aw (by lia),C6.now<|n _ _ ⟨xs++[o*1000003+w],_,_,by simp[x],⟨d,?_⟩,wc l O,rfl⟩⟩⟩;rw[fq];simp
theorem wL:D9 fY 10 qt:=by
 rintro ds M R ⟨n,ns,a,m,rfl,L,E,C,U,h⟩;simp only[qt];walk_at"dl";refine⟨n,ns,a,rfl,L,?_⟩;generalize AY ns a=c;simp only[kX,kW];walk_at"dl";refine⟨D6 _,by decide,⟨aF,aF⟩,?_⟩;have e:(0:Int)<(m:Int)+1:=by lia
 cases w4 (M++[MO.lst []]) x5 (.int<|c % 2) (.int 0) with
 |true=>refine bL ?_;simp only[kU,kT];walk_at"dl";have A:=bR (a:=c / 2) e;have B:=cb (a:=c / 2) e;refine⟨⟨by decide,by decide⟩,e,⟨e,by lia⟩,?_⟩;simp only[kR];walk_at"dl";refine⟨⟨by lia,by lia⟩,?_⟩;refine aT (λi S M'=>∃(xs:List Int) (r:Int) (b:Option D),xs.length=i/\M'=M++MO.lst (xs.map .int)::[]/\S=[a7<|.ref n,a7<|.int a,a7<|.int m,a7<|.int c,a7<|.ref M.length,a7<|.int r,a7<|.int<|c / 2 % ((m:Int)+1),b,a8,a8]) ?_ ?_ ⟨[],_,_,rfl,rfl,rfl⟩;rintro S M' ⟨xs,r,b,g,rfl,rfl⟩;rw[bi]at g;refine⟨trivial,?_⟩;simp only[kP];walk_at"dl";exact aV.lst (h xs<|by lia) (x9 _) bo<|wo xs;rintro i y S M' Q ⟨xs,r,b,g,rfl,rfl⟩ G t;obtain⟨hi,rfl⟩:=bP.mp Q;refine⟨trivial,?_⟩;simp only[kQ];walk_at"dl";refine⟨⟨_,.inl bo⟩,⟨by decide,by decide,by decide⟩,by decide,xs.map .int,bo,by rw[x6];exact aw (by lia),⟨by decide,by decide,by decide⟩,⟨by decide,by decide⟩,C6.now<|t _ _ ⟨xs++[r % 10 ^ Int.toNat 24],_,_,by simp[g],?_,rfl⟩⟩;rw[fq];simp
 |false =>
  refine bN ?_;simp only[kO];walk_at"dl";obtain⟨cs,f⟩:=CZ (ns:=ns) (lo:=a7<|(a:Int)+1) (hi:=a7<|(a:Int)+1+(m:Int));have p:cs.length<=m:=by have:=DO (xs:=ns.map D.int) (s:=a) (m:=m);rw[f,x6]at this;exact this
  refine⟨_,L.more _,?_⟩;rw[f,Mn];simp only[kN];walk_at"dl";have q:(M++[MO.lst []]).length=M.length+1:=by simp
  rw[q];have z:ak (M++MO.lst []::[MO.lst<|cs.map D.int]) (M.length+1) (cs.map D.int):=.inl dn;obtain⟨o,l⟩:=pc z λx g=>by obtain⟨i,_,rfl⟩:=A6.mp g;exact aF
  refine⟨D6 _,o,?_⟩;rw[l];cases hs:(cs.map D.int).isEmpty with
  |true =>
   have A:=bR (a:=c / 2) e;have B:=cb (a:=c / 2) e;refine bL ⟨⟨by decide,by decide⟩,e,⟨by lia,by lia⟩,?_⟩;refine bU (λd=>match d with|.int k=>.int (c / 2+7*k)|_=>.non) (λS=>∃b,S=[b,a7<|.int c]) trivial _ _ _ (λk w S u=>?_) ⟨_,rfl⟩ ?_ ?_;obtain⟨b,rfl⟩:=u;obtain⟨i,hi⟩:=Mg w;obtain⟨_,rfl⟩:=bP.mp hi;refine⟨[a7<|.int<|0+(i:Int),a7<|.int c],⟨_,rfl⟩,λY v=>?_⟩;walk_at"dl";exact⟨⟨by decide,by decide⟩,.inl ⟨by decide,by decide⟩,v⟩;rw[G8,bi];exact ah (by lia);obtain⟨ds,j,V⟩:∃ds:List Int,(ie 0 (c / 2 % ((m:Int)+1)).toNat).map (λd=>match d with|.int k=>D.int (c / 2+7*k)|_=>.non)=ds.map D.int/\ds.length<=m:=by refine⟨(E4 (c / 2 % ((m:Int)+1)).toNat).map λ(i:Nat)=>c / 2+7*(0+(i:Int)),?_,by rw[x6,N5];lia⟩;unfold ie;rw[K2,K2];rfl
   rw[LB,j,Mn,Mn];refine nW (cs:=ds) ?_ ?_ V U h;exact .inl (by simp);simp
  |false=>refine bN ?_;rw[Mn];exact nW (.inl dn) (by lia) p U h
theorem xh(T:Tops P w K mg base):z9 P w K mg base 2 "_law_numbers" lN fY:=z9.byD (N:=["_law_script","_law_start","_law_most","_law_head","_law_found","_law_rest","_law_many","_law_k","_law_cells","_law_one"]) T.b T.f_numbers (by walk_at"sc") uz (by have:=nV T;have:=vX T;walk_at"dv") wL
def iR:B5:=λds M R=>∃(c:Int) (m:Nat),ds=[.int c,.int m]/\1<=m/\m<=4/\∀xs:List c5,xs.length=m->(∀x∈xs,x.length<=8)->xs.Nodup->R (.ref M.length) (M++[.lst<|xs.map .str])
theorem zO:dz iR uc:=by rintro ds M R ⟨c,m,rfl,_⟩;rfl
theorem Da(u:Option Int)(n:Nat):OY a8 u 1 n=OY (a7 ((0:Nat):Int)) u 1 n:=by unfold OY;simp only[show (1:Int) > 0 by decide,u5];congr 1
theorem Ka(l:Option Int)(n:Nat):OY l a8 1 n=OY l (a7 ((n:Nat):Int)) 1 n:=by unfold OY;simp only[show (1:Int) > 0 by decide,u5];congr 1;rw[t7<|by lia];lia
theorem vS(x:c5)(b:Nat):(Mz x a8<|a7 (b:Int)).cps.toList=x.cps.toList.take b:=by have e:=rB x (a:=0) (b:=b)<|D6 _;rw[dY]at e ⊢;rw[Da];rw[e];simp
theorem wY(x:c5)(a:Nat)(h:a<=x.length):(Mz x (a7 (a:Int)) a8).cps.toList=x.cps.toList.drop a:=by have e:=rB x (a:=a) (b:=x.length) h;rw[dY]at e ⊢;rw[Ka];rw[e];rw[PQ];rw[MC,eG];lia
theorem wC(a:0<=i)(h1:i<26):∃c:Nat,atI (v6 "abcdefghijklmnopqrstuvwxyz").cps.toList i=a7 c/\(97<=c/\c<=122)/\c=97+i.toNat:=by
 have g:(v6 "abcdefghijklmnopqrstuvwxyz").cps.toList=(E4 26).map (· + 97):=by decide +kernel
 obtain⟨j,L,e,z⟩:=Bm (xs:=(v6 "abcdefghijklmnopqrstuvwxyz").cps.toList) a (by rw[g];simpa using h1);refine⟨_,e,?_⟩;have l:(v6 "abcdefghijklmnopqrstuvwxyz").cps.toList[j]?=a7 (j+97):=by rw[g,x6,N5]at L;rw[g,E1,List.getElem?_range L];rfl
 rw[A4 L]at l;have Q:=D0 l;have h:j<26:=by rw[g,x6,N5]at L;exact L
 rw[Q];lia
theorem Ay{at_ s o:Nat}{a:List c5}(l:a.length<=4)(h:∀(j:Nat) z,a[j]?=a7 z->z.length=s/\z.cps.toList[at_]?=a7 (97+(o+j) % 26)):a.Nodup:=by rw[Nh,PU];intro i j hi L b e;have h1:=(h i _<|A4 hi).2;have h2:=(h j _<|A4 L).2;rw[e,h2]at h1;have:=D0 h1;lia
theorem Eb(h:97<=ch/\ch<=122):∃(i:Nat) (aM:List Nat),QQ (v6 "abcdefghijklmnopqrstuvwxyz") ⟨#[ch]⟩ 0 (v6 "abcdefghijklmnopqrstuvwxyz").length 1=i::aM:=by
 have f:=StrLaws.found_one (v6 "abcdefghijklmnopqrstuvwxyz") ch;have g:(v6 "abcdefghijklmnopqrstuvwxyz").cps.toList=(E4 26).map (· + 97):=by decide +kernel
 have d:ch∈(v6 "abcdefghijklmnopqrstuvwxyz").cps.toList:=by rw[g];exact A6.mpr ⟨ch-97,K6.mpr (by lia),by lia⟩
 rw[dT_ d]at f;cases e:QQ (v6 "abcdefghijklmnopqrstuvwxyz") ⟨#[ch]⟩ 0 (v6 "abcdefghijklmnopqrstuvwxyz").length 1 with
 |nil=>rw[e]at f;cases f
 |cons i r=>exact⟨i,r,rfl⟩
noncomputable def strD:D->c5
 |.str x=>x
 |_=>v6 ""
def iT:v7:=bp<|w6 gQ<|aa (ac 8) ag
def qu:v7:=aB (C9 (pK (ax<|u9 NQ (ac 1)<|dC<|.int 1)<|ax<|u9 D3 (u9 bY (ac 0)<|dC<|.int 3)<|dC<|.int 1) (Ld (u9 aK (u9 w9 (ac 8)<|dC<|.int 0)<|dC<|.str "b")<|AL (ac 8)<|dC<|.int 1) aP)<|iT
def qv:v7:=aB (iL 1 [5,4,2,7] (bK<|aa (ac 1) ag) (af 0) pV (u9 aK (u9 aK (Oy (ac 1) mx<|uQ<|ac 2)<|u9 w9 (ac 3)<|u9 bY (u9 aK (ac 4)<|ac 0)<|dC<|.int 26)<|Oy (ac 1) (uQ<|u9 aK (ac 2)<|dC<|.int 1) mx) 8)<|qu
def qw:v7:=aB (bd (P9 lE (ac 2)<|aa (u9 w9 (ac 5)<|ac 4) ag) 7)<|qv
def qy:v7:=bd (u9 aN (ac 0)<|dC<|.int 26) 0
def qz:v7:=aB (jP (bK<|aa (ac 3) ag) (af 6)<|aB (bd (u9 aK (ac 5)<|u9 w9 (ac 2)<|u9 bY (ac 0)<|dC<|.int 26) 5)<|qy)<|qw
def qA:v7:=aB (bd (dC<|.str "") 5)<|qz
def qC:v7:=aB (bd (u9 aN (ac 0)<|dC<|.int 49) 0)<|qA
def qD:v7:=aB (bd (u9 bY (u9 aN (ac 0)<|dC<|.int 7)<|ac 3) 4)<|qC
def qE:v7:=aB (bd (u9 aK (dC<|.int 1)<|u9 bY (ac 0)<|dC<|.int 7) 3)<|qD
def yk:v7:=aB (bd (dC<|.str "abcdefghijklmnopqrstuvwxyz") 2)<|qE
theorem pe{M L:v8}{R:DK}{m:Nat}{xs:List c5}{r y1 W y d j k p:Option D}(e:m<=4)(l:xs.length=m)(c:∀x∈xs,x.length<=8)(X:xs.Nodup)(h:∀xs:List c5,xs.length=m->(∀x∈xs,x.length<=8)->xs.Nodup->R (.ref M.length) (M++[.lst<|xs.map .str])):iT (EE M R) [r,y1,W,y,d,j,k,p,a7<|.ref M.length] (M++MO.lst (xs.map .str)::L):=by simp only[iT];walk_at"dl";refine⟨xs.map .str,.inl bo,(nN<|by lia).g,λys Q _=>?_⟩;obtain⟨s,rfl,b⟩:=rN Q;rw[Mn];exact aV.lst (h s (by rw[b.length_eq,l]) (λx a=>c x<|b.mem_iff.mp a)<|b.nodup_iff.mpr X) (by simp) (by simp)<|vR s
theorem BA:D9 iR 9 yk:=by
 rintro ds M R ⟨c,m,rfl,m1,O,h⟩;have o:(v6 "abcdefghijklmnopqrstuvwxyz").length<=sizeLine:=by decide +kernel
 have s0:=bR (a:=c) (b:=7) (by decide);have s1:=cb (a:=c) (b:=7) (by decide);simp only[yk,qE,qD];walk_at"dl";obtain⟨s,hs⟩:∃n:Nat,(n:Int)=1+c % 7:=⟨(1+c % 7).toNat,by lia⟩
 rw[<-hs];have z1:1<=s:=by lia
 have z7:s<=7:=by lia
 have a0:=bR (a:=c / 7) (b:=s) (by lia);have T:=cb (a:=c / 7) (b:=s) (by lia);obtain⟨at_,Z⟩:∃n:Nat,(n:Int)=c / 7 % (s:Int):=⟨(c / 7 % (s:Int)).toNat,by lia⟩
 refine⟨by decide,⟨by decide,by decide⟩,by lia,?_⟩;rw[<-Z]at T ⊢;simp only[qC,qA,qz];walk_at"dl";refine⟨⟨by decide,by decide⟩,⟨by lia,by lia⟩,?_⟩;refine aT (λi S M'=>∃(x:c5) (r:Int) (b:Option D),M'=M/\x.length=i/\(∀q∈x.cps.toList,97<=q/\q<=122)/\S=[a7<|.int r,a7<|.int m,a7<|.str<|v6 "abcdefghijklmnopqrstuvwxyz",a7<|.int s,a7<|.int at_,a7<|.str x,b,a8,a8]) ?_ ?_ ⟨v6 "",_,_,rfl,by decide +kernel,(λq u=>by rw[show (v6 "").cps.toList=[] by decide +kernel]at u;cases u),rfl⟩;rintro S M' ⟨base,r,b,rfl,f,u,rfl⟩;rw[bi,Lv]at f;refine⟨trivial,?_⟩;have ab:=eG (a:=base);have v:at_<base.cps.toList.length:=by lia
 have U:atI base.cps.toList (at_:Int)=a7 base.cps.toList[at_]:=ar<|A4 v;have w:=u _<|Mm v;simp only[qw];walk_at"dl";refine⟨ah (by lia),?_⟩;rw[U];generalize base.cps.toList[at_]=ch at w;obtain⟨F,t,ho⟩:=Eb w;refine⟨F,t,ho,?_⟩;simp only[qv];walk_at"dl";refine⟨⟨by lia,by lia⟩,?_⟩;have p:(Mz base a8<|a7 (at_:Int)).length=at_:=by rw[eG,vS,LC];lia
 have C:(Mz base (a7<|(at_:Int)+1) a8).length=s-(at_+1):=by have P:=wY base (at_+1) (by lia);rw[show ((at_+1:Nat):Int)=(at_:Int)+1 by lia]at P;rw[eG,P,MC];lia
 refine fW (λys acc S E=>∃(d:List c5) (a:Option D),acc=d.map .str/\(∀(j:Nat) z,d[j]?=a7 z->z.length=s/\z.cps.toList[at_]?=a7 (97+(F+j) % 26))/\d.length+ys.length=m/\ys=(ie 0 m).drop d.length/\E=M'/\S=[a,a7<|.str base,a7<|.int at_,a7<|.str<|v6 "abcdefghijklmnopqrstuvwxyz",a7<|.int F]) ?_ ?_ _ _ _ _ ⟨[],_,rfl,(λj z o=>by simp at o),by rw[bi,Lv];simp,by rw[Lv];rfl,rfl,rfl⟩;rintro acc S E ⟨d,a,rfl,l,hl,_,rfl,rfl⟩;rw[G8,Nat.add_zero]at hl;refine⟨trivial,?_⟩;have z7':∀z∈d,z.length=s:=λz o=>by obtain⟨j,L⟩:=Mg o;exact(l j z L).1
 have z8:∀z∈d,z.length<=8:=λz o=>by have:=z7' z o;lia
 have znd:d.Nodup:=Ay (by lia) l;simp only[qu];walk_at"dl";by_cases B:(1:Int)<m;rw[dT_ B];refine bL ⟨by decide,⟨aF,aF⟩,?_⟩;cases w4 (E++[MO.lst<|d.map .str]) x5 (.int<|r % 3) (.int 1) with
 |true =>
  match d,hl,z7',z8,znd with
  |z0::z1::zr,hl,z7',z8,znd =>
   have l0:=z7' z0 (by simp);refine bL ⟨_,am,?_⟩;rw[D7,Oz];refine⟨?_,_,1,ao,?_,?_⟩;rw[show (v6 "b").length=1 by decide +kernel];exact ah (by lia);rw[E9,x6,E9];unfold MV;rw[t6<|by decide];simp;lia;rw[fq,D7,List.set_cons_succ,List.set_cons_zero];have lb:(z0++v6 "b").length=s+1:=by rw[da,show (v6 "b").length=1 by decide +kernel,l0]
   refine pe (xs:=z0::(z0++v6 "b")::zr) O (by simpa using hl) (λx f=>?_) ?_ h;rcases A9.mp f with rfl|f;lia;rcases A9.mp f with rfl|f;lia;exact z8 x (by simp[f]);rw[LK,LK]at znd ⊢;refine⟨λf=>?_,λf=>?_,znd.2.2⟩;rcases A9.mp f with e|f;rw[<-e]at lb;lia;exact znd.1<|D4 _ f;have:=z7' _<|D4 _<|D4 _ f;lia
  | [z0],hl,_,_,_=>exact t8 hl<|by simp only[LD];lia
  | [],hl,_,_,_=>exact t8 hl<|by simp only[G8];lia
 |false=>exact bN<|pe O hl z8 znd h
 rw[dF_ B];exact bN<|pe O hl z8 znd h;rintro y ys acc S E ⟨d,a,rfl,l,hl,Q,rfl,rfl⟩ K Y;have A:d.length<(ie 0 m).length:=by rw[E9]at hl;rw[bi];lia
 rw[QV A]at Q;obtain⟨rfl,rfl⟩:=Pn Q;have W:(ie 0 m)[d.length]=.int (d.length:Int):=by have:=(bP (lo:=0) (n:=m) (i:=d.length) (x:=(ie 0 m)[d.length])).mp<|A4 A;rw[this.2];congr 1;lia
 rw[W];refine⟨trivial,?_⟩;rw[E9]at hl;walk_at"dl";obtain⟨H,J,_,V⟩:=wC (i:=((F:Int)+(d.length:Int)) % 26) (bR<|by decide) (cb<|by decide);refine⟨ah (by lia),by decide,o,?_⟩;rw[J];refine⟨by rw[gW,p];exact ah (by lia),ah (by lia),by rw[da,gW,p,C];exact ah (by lia),by rw[x6];exact aw (by lia),Y _ _ _ ⟨d++[Mz base a8 (a7 (at_:Int))++⟨#[H]⟩++Mz base (a7<|(at_:Int)+1) a8],_,by simp,λj z k=>?_,by rw[E3,LD];lia,by rw[E3,LD],rfl,rfl⟩⟩;by_cases L:j<d.length;rw[LF L]at k;exact l j z k;obtain⟨rfl,rfl⟩:j=d.length/\z=Mz base a8 (a7 (at_:Int))++⟨#[H]⟩++Mz base (a7<|(at_:Int)+1) a8:=by
  have N:=(B6.mp k).1;rw[E3,LD]at N;obtain rfl:j=d.length:=by lia
  rw[Mp<|x9 _,No]at k;exact⟨rfl,(D0 k).symm⟩
 refine⟨by rw[da,da,gW,p,C];lia,?_⟩;have st:=vS base at_;have lt:(base.cps.toList.take at_).length=at_:=by rw[LC];lia
 rw[pQ,pQ,st,Mn,Mp (by lia),lt,No];show a7 H=_;rw[V];congr 2;rintro i y S M' Q ⟨x,r,b,rfl,f,u,rfl⟩ G X;obtain⟨hi,rfl⟩:=bP.mp Q;refine⟨trivial,?_⟩;simp only[qy];walk_at"dl";obtain⟨H,J,I⟩:=wC (i:=r % 26) (bR<|by decide) (cb<|by decide);refine⟨by decide,o,?_⟩;rw[J];refine⟨by rw[gW,f];exact ah (by lia),⟨by decide,by decide⟩,C6.now<|X _ _ ⟨x++⟨#[H]⟩,_,_,rfl,by rw[da,gW,f],λq g=>?_,rfl⟩⟩;rw[pQ]at g;rcases J0.mp g with g|g;exact u q g;have:q=H:=by simpa using g
 rw[this];exact I.1
theorem Co(T:Tops P w K mg base):z9 P w K mg base 1 "_law_names" uc iR:=z9.byD (N:=["_law_number","_law_many","_law_letters","_law_size","_law_at","_law_base","_law_j","_law_turned","_law_names_here"]) T.b T.f_names (by walk_at"sc") zO (by walk_at"dv") BA
def kC:B5:=λds M R=>∃(c:Int),ds=[.int c]/\∀ps a,HouseF ps a->R (aC ps a) M
theorem zR:dz kC uf:=by rintro ds M R ⟨c,rfl,_⟩;rfl
theorem Db:G0 4 (aC ps rs):=by refine .tup<|.cons (.tup<|jr.of λd h=>?_)<|.cons (.tup<|jr.of λd h=>?_) .nil;obtain⟨p,_,rfl⟩:=A6.mp h;exact .tup<|.cons (.str _)<|.cons (.int _) .nil;obtain⟨p,_,rfl⟩:=A6.mp h;refine .tup<|.cons (.str _)<|.cons (.tup<|jr.of λd h=>?_) .nil;obtain⟨q,_,rfl⟩:=A6.mp h;exact .str _
theorem at_two{xs ys:List D}(h:i<n)(l:xs.length=n):∃d,xs[i]?=a7 d/\d∈xs:=⟨xs[i]'(by lia),A4 (by lia),Mm _⟩
theorem Ax{a b c d:Int}{k:Nat}(h:k<4)(f:tD 0 a)(e:tD 0 b)(g:tD 0 c)(i:tD 0 d):∃z:Int,atI [D.int a,.int b,.int c,.int d] (0+(k:Int))=a7 (.int z)/\tD 0 z:=by
 rw[Oj]
 match k,h with
 | 0,_=>exact⟨a,ar (j:=0) rfl,f⟩
 | 1,_=>exact⟨b,ar (j:=1) rfl,e⟩
 | 2,_=>exact⟨c,ar (j:=2) rfl,g⟩
 | 3,_=>exact⟨d,ar (j:=3) rfl,i⟩
def nK:v7:=bp<|cQ<|aa (w6 eV<|aa (ac 4) ag)<|aa (w6 eV<|aa (LH 1 [9,5] (bK<|aa (w6 jV<|aa (ac 5) ag) ag) (af 0) pV<|cQ<|aa (u9 w9 (ac 1)<|ac 0)<|aa (u9 w9 (ac 2)<|ac 0) ag) ag) ag
def fN:v7:=aB (bd (w6 iR<|aa (u9 aN (ac 1)<|dC<|.int 262144)<|aa (w6 jV<|aa (ac 5) ag) ag) 9)<|nK
def kZ:v7:=iM<|Ms bQ (ac 5)<|aa (w6 eV<|aa (ac 8) ag) ag
def qK:v7:=aB (C9 (ax<|u9 D3 (ac 8)<|gM ag) (bd (gM<|aa (u9 w9 (ac 3)<|u9 bY (ac 7)<|ac 2) ag) 8) aP)<|kZ
def qL:v7:=aB (iL 1 [3,7] (bK<|aa (ac 2) ag) (af 0) (ax<|u9 D3 (u9 bY (u9 aN (ac 2)<|u9 Ir (dC<|.int 1)<|ac 0)<|dC<|.int 2)<|dC<|.int 1) (u9 w9 (ac 1)<|ac 0) 8)<|qK
def qN:v7:=aB (jP (bK<|aa (u9 aK (dC<|.int 1)<|u9 bY (ac 1)<|dC<|.int 4) ag) (af 6)<|aB (bd (u9 bY (u9 aN (ac 1)<|u9 w9 (gM<|aa (dC<|.int 4)<|aa (dC<|.int 64)<|aa (dC<|.int 1024)<|aa (dC<|.int 16384) ag)<|ac 6)<|dC<|.int 16) 7)<|qL)<|fN
def lg:v7:=aB (bd (gM ag) 5)<|qN
def qO:v7:=aB (bd (w6 mG<|aa (u9 aN (ac 0)<|dC<|.int 5)<|aa (dC<|.int 2) ag) 1)<|lg
def qP:v7:=aB (iL 1 [3,1] (bK<|aa (ac 2) ag) (af 0) pV (cQ<|aa (u9 w9 (ac 1)<|ac 0)<|aa (u9 aK (dC<|.int 1)<|u9 bY (u9 aN (ac 2)<|u9 w9 (gM<|aa (dC<|.int 4)<|aa (dC<|.int 12)<|aa (dC<|.int 36)<|aa (dC<|.int 108) ag)<|ac 0)<|dC<|.int 3) ag) 4)<|qO
def qQ:v7:=aB (bd (w6 iR<|aa (u9 aN (ac 1)<|dC<|.int 324)<|aa (ac 2) ag) 3)<|qP
def qR:v7:=aB (bd (u9 aK (dC<|.int 1)<|u9 bY (ac 1)<|dC<|.int 4) 2)<|qQ
def yG:v7:=aB (bd (w6 mG<|aa (ac 0)<|aa (dC<|.int 1) ag) 1)<|qR
theorem Dc{M B:v8}{R:DK}{k:Nat}{ps:List (c5×Int)}{s:List (List c5)}{u:Int}{G:Nat}{N W P T V X:Option D}(I:M <+: B)(F:ak B G (ps.map dj))(j:ak B k (s.map λm=>.tup<|m.map .str))(H:∀m∈s,m.length<=4)(U:1<=s.length)(O:s.length<=4)(C:∀rs,1<=rs.length/\rs.length<=4->(rs.map (·.1)).Nodup->(∀r∈rs,r.2.length<=4)->HouseF ps rs)(h:∀ps rs,HouseF ps rs->R (aC ps rs) M):fN (EE M R) [N,a7<|.int u,W,P,a7<|.ref G,a7<|.ref k,T,V,X,a8] B:=by
 simp only[fN];walk_at"dl";refine⟨⟨by decide,by decide⟩,_,j,?_⟩;rw[x6];refine⟨_,s.length,rfl,U,O,λxs Z Y x=>?_⟩;have p:M <+: B++[MO.lst<|xs.map .str]:=I.trans bD;have c:=F.more [MO.lst<|xs.map D.str];have l:=j.more [MO.lst<|xs.map D.str];have f:ak (B++[MO.lst<|xs.map .str]) B.length (xs.map .str):=am;generalize B++[MO.lst<|xs.map .str]=o at p c l f;generalize B.length=J at f;simp only[nK];walk_at"dl";refine⟨_,c,_,l,⟨by lia,by rw[x6];lia⟩,?_⟩;rw[x6,Lv];refine fW (λys acc S e=>∃(rs:List (c5×List c5)) (a:Option D) (i:Nat),acc=rs.map lD/\rs.length=i/\(rs.map (·.1)=xs.take i/\∀r∈rs,r.2.length<=4)/\ys=(ie 0 s.length).drop i/\i<=s.length/\e=o/\S=[a,a7<|.ref J,a7<|.ref k]) ?_ ?_ _ _ _ _ ⟨[],_,0,rfl,rfl,⟨rfl,λ_ z=>nomatch z⟩,by simp,D6 _,rfl,rfl⟩;rintro acc S e ⟨rs,a,i,rfl,n,⟨g,L⟩,d,E,rfl,rfl⟩;have hi:i=s.length:=by have:=u6 Ma d;rw[G8,MC,bi]at this;lia
 refine⟨trivial,_,am,ah (by lia),aV.keep (h ps rs<|C rs ⟨by lia,by lia⟩ (by rw[g];exact x.sublist<|PD _ _) L) (cC 4 _ Db)<|p.trans bD⟩;rintro y ys acc S e ⟨rs,a,i,rfl,n,⟨g,L⟩,d,E,rfl,rfl⟩ K A;have hi:i<s.length:=by have:=u6 Ma d;rw[E9,MC,bi]at this;lia
 have Q:(ie 0 s.length)[i]?=a7 y/\ys=(ie 0 s.length).drop (i+1):=by
  have t:i<(ie 0 s.length).length:=by rw[bi];exact hi
  rw[QV t]at d;injection d with h1 h2;exact⟨by rw[A4 t,h1],h2⟩
 obtain⟨_,rfl⟩:=bP.mp Q.1;refine⟨trivial,?_⟩;walk_at"dl";have w:atI (xs.map D.str) (0+(i:Int))=a7 (.str<|xs[i]'(by lia)):=by rw[Oj];exact ar<|by rw[E1,A4<|by lia];rfl
 have v:atI (s.map λm=>D.tup<|m.map .str) (0+(i:Int))=a7 (.tup<|(s[i]).map .str):=by rw[Oj];exact ar<|by rw[E1,A4 hi];rfl
 refine⟨_,f,?_⟩;rw[w];refine⟨_,l,?_⟩;rw[v];refine⟨ah (by lia),by rw[x6];exact aw (by lia),A _ _ _ ⟨rs++[(xs[i]'(by lia),s[i])],_,i+1,by simp[lD],by simp[n],⟨by rw[L6,g,MD,A4<|by lia];rfl,λq b=>?_⟩,Q.2,hi,rfl,rfl⟩⟩;rcases J0.mp b with b|b;exact L q b;rw[LL.mp b];exact H _<|Mm _
theorem Gy{M B:v8}{R:DK}{many:Nat}{ps:List (c5×Int)}{ns:List c5}{g:Int}{A C:Nat}{y0:Option D}(pB:M <+: B)(l3:ak B A (ns.map .str))(l4:ak B C (ps.map dj))(nl:ns.length=many)(n1:1<=many)(n4:many<=4)(hf:∀rs,1<=rs.length/\rs.length<=4->(rs.map (·.1)).Nodup->(∀r∈rs,r.2.length<=4)->HouseF ps rs)(h:∀ps rs,HouseF ps rs->R (aC ps rs) M):lg (EE M R) [y0,a7<|.int g,a7<|.int many,a7<|.ref A,a7<|.ref C,a8,a8,a8,a8,a8] B:=by
 have b3:=rV l3;have b4:=rV l4;simp only[lg,qN];walk_at"dl";have s0:=bR (a:=g) (b:=4) (by decide);have s1:=cb (a:=g) (b:=4) (by decide);refine⟨D6 _,by decide,⟨by lia,by lia⟩,?_⟩;obtain⟨rm,X⟩:∃n:Nat,(n:Int)=1+g % 4:=⟨(1+g % 4).toNat,by lia⟩
 rw[<-X,Lv];refine aT (λi S M'=>∃(v:List (List c5)) (a b d:Option D),v.length=i/\(∀m∈v,m.length<=4)/\M <+: M'/\ak M' A (ns.map .str)/\ak M' C (ps.map dj)/\M'[B.length]?=a7 (.lst<|v.map λm=>.tup<|m.map .str)/\S=[y0,a7<|.int g,a7<|.int many,a7<|.ref A,a7<|.ref C,a7<|.ref B.length,a,b,d,a8]) ?_ ?_ ⟨[],_,_,_,rfl,(λ_ z=>nomatch z),pB.trans bD,l3.more _,l4.more _,ao,rfl⟩;rintro S M' ⟨v,a,b,d,ml,mm,pM,k3,Z,V,rfl⟩;rw[bi]at ml;exact⟨trivial,Dc pM Z (.inl V) mm (by lia) (by lia) hf h⟩;rintro i y S M' hy ⟨v,a,b,d,ml,mm,pM,k3,Z,V,rfl⟩ G hG;obtain⟨hi,rfl⟩:=bP.mp hy;have bM:=aE V;refine⟨trivial,?_⟩;walk_at"dl";obtain⟨z,ez,hz⟩:=Ax (a:=4) (b:=64) (c:=1024) (d:=16384) (k:=i) (by lia) ⟨by decide,by decide⟩ ⟨by decide,by decide⟩ ⟨by decide,by decide⟩ ⟨by decide,by decide⟩;refine⟨ah (by lia),_,am,?_⟩;rw[ez];refine⟨hz,by decide,?_⟩;have b0:=bR (a:=g / z) (b:=16) (by decide);generalize g / z % 16=s at b0;have P:M <+: M'++[MO.lst [D.int 4,D.int 64,D.int 1024,D.int 16384]]:=pM.trans bD;have q:=k3.more [MO.lst [D.int 4,D.int 64,D.int 1024,D.int 16384]];have O:=Z.more [MO.lst [D.int 4,D.int 64,D.int 1024,D.int 16384]];have H:=ae (a:=MO.lst [D.int 4,D.int 64,D.int 1024,D.int 16384]) V;generalize M'++[MO.lst [D.int 4,D.int 64,D.int 1024,D.int 16384]]=M1 at P q O H;simp only[qL];walk_at"dl";refine⟨⟨by lia,by lia⟩,?_⟩;have F:∀(xs:List c5) (T:Nat) (M2:v8),xs.length<=4->M <+: M2->ak M2 A (ns.map .str)->ak M2 C (ps.map dj)->M2[B.length]?=a7 (.lst<|v.map λm=>.tup<|m.map .str)->ak M2 T (xs.map .str) -> kZ ⟨C6 (B++[MO.lst []]) G,aV M R,λS M'=>fN (EE M R) S M',C6 (B++[MO.lst []]) G⟩ [y0,a7<|.int g,a7<|.int many,a7<|.ref A,a7<|.ref C,a7<|.ref B.length,a7<|.int<|0+(i:Int),a7<|.int s,a7<|.ref T,a8] M2:=λxs T M2 x4 p2 Y ab l ai=>by simp only[kZ];walk_at"dl";refine⟨⟨_,.inl l⟩,_,ai,_,l,by rw[x6];exact aw (by lia),C6.now<|hG _ _ ⟨v++[xs],_,_,_,by simp[ml],λm J=>?_,?_,wc (by lia) Y,wc (by lia) ab,?_,rfl⟩⟩;rcases J0.mp J with J|J;exact mm m J;rw[LL.mp J];exact x4;obtain⟨L,rfl⟩:=pB;obtain⟨L2,rfl⟩:=p2;rw[QJ _ _<|by simp];exact LM _ _;rw[cZ l];simp
 refine fW (λys acc S M2=>∃(xs:List c5) (a:Option D),acc=xs.map .str/\xs.length+ys.length<=4/\(∀y∈ys,∃j:Nat,y=.int (0+(j:Int))/\j<many)/\M2=M1/\S=[a,a7<|.ref A,a7<|.int s]) ?_ ?_ _ _ _ _ ⟨[],_,rfl,by rw[bi,Lv];simpa using n4,λy f=>?_,rfl,rfl⟩;rintro acc S M2 ⟨xs,a2,rfl,U,_,rfl,rfl⟩;rw[G8,Nat.add_zero]at U;refine⟨trivial,?_⟩;simp only[qK];walk_at"dl";have N:=q.more [MO.lst<|xs.map D.str];have u:=O.more [MO.lst<|xs.map D.str];have o:=ae (a:=MO.lst<|xs.map D.str) H;have w:M <+: M2++[MO.lst<|xs.map D.str]:=P.trans bD;have W:ak (M2++[MO.lst<|xs.map D.str]) M2.length (xs.map .str):=am;generalize M2++[MO.lst<|xs.map D.str]=M3 at N u o w W;generalize M2.length=T at W;obtain⟨aj,E⟩:=pc W λx hx=>by obtain⟨i,_,rfl⟩:=A6.mp hx;exact aq
 refine⟨D6 _,aj,?_⟩;rw[E];have t:=N.more [MO.lst []];cases (xs.map D.str).isEmpty with
 |true =>
  have Q:∃x:c5,atI (ns.map D.str) (s % (many:Int))=a7 (.str x):=by obtain⟨d,hd,e⟩:=gP (xs:=ns.map D.str) (i:=s) (by rw[x6];lia);rw[x6,nl]at e;obtain⟨x,_,rfl⟩:=A6.mp hd;exact⟨x,e⟩
  obtain⟨x,Q⟩:=Q;refine bL ⟨by lia,_,t,?_⟩;rw[Q];refine⟨ah (by lia),F [x] _ _ (by simp) ((w.trans bD).trans bD) (t.more _) ((u.more _).more _) (ae<|ae o) am⟩
 |false=>exact bN<|F xs T _ U (w.trans bD) t (u.more _) (ae o)<|W.more _
 rintro y' ys acc S M2 ⟨xs,a2,rfl,xl,f,rfl,rfl⟩ K hK;obtain⟨j,rfl,hj⟩:=f y' (by simp);rw[E9]at xl;refine⟨trivial,?_⟩;walk_at"dl";have Q:atI (ns.map D.str) (0+(j:Int))=a7 (.str<|ns[j]'(by lia)):=by rw[Oj];exact ar<|by rw[E1,A4<|by lia];rfl
 have pw:tD s (1*2 ^ (0+(j:Int)).toNat):=by
  rw[Oj,Lv];have:j=0\/j=1\/j=2\/j=3:=by lia
  rcases this with rfl|rfl|rfl|rfl<;>exact⟨by decide,by decide⟩
 refine⟨⟨by lia,by lia,by decide⟩,pw,by decide,⟨aF,aF⟩,?_⟩;split;refine⟨_,q,?_⟩;rw[Q];exact⟨by rw[x6];exact aw (by lia),hK _ _ _ ⟨xs++[_],_,by simp;rfl,by rw[E3,LD];lia,λz p=>f z<|D4 _ p,rfl,rfl⟩⟩;exact hK _ _ _ ⟨xs,_,rfl,by lia,λz p=>f z<|D4 _ p,rfl,rfl⟩;obtain⟨j,hj⟩:=Mg f;obtain⟨I,rfl⟩:=bP.mp hj;exact⟨j,rfl,by rw[Lv]at I;exact I⟩
theorem BD:D9 kC 10 yG:=by
 rintro ds M R ⟨c,rfl,h⟩;simp only[yG];walk_at"dl";refine⟨c,1,rfl,⟨by decide,by decide⟩,λj=>?_⟩;simp only[qR];walk_at"dl";have N:=bR (a:=j) (b:=4) (by decide);have O:=cb (a:=j) (b:=4) (by decide);refine⟨by decide,?_⟩;obtain⟨many,v⟩:∃n:Nat,(n:Int)=1+j % 4:=⟨(1+j % 4).toNat,by lia⟩
 rw[<-v];simp only[qQ];walk_at"dl";refine⟨⟨by decide,by decide⟩,_,many,rfl,by lia,by lia,λns F C g=>?_⟩;have l:ak (M++[MO.lst<|ns.map .str]) M.length (ns.map .str):=am;have A:M <+: M++[MO.lst<|ns.map D.str]:=bD;generalize M++[MO.lst<|ns.map .str]=B at l A;generalize M.length=G at l;simp only[qP];walk_at"dl";refine⟨⟨by lia,by lia⟩,?_⟩;rw[Lv];refine fW (λys acc S f=>∃(ps:List (c5×Int)) (a:Option D) (i:Nat),acc=ps.map dj/\ps.length=i/\ps.map (·.1)=ns.take i/\(∀p∈ps,(1<=p.2/\p.2<=3)/\p.1.length<=8)/\ys=(ie 0 many).drop i/\i<=many/\B <+: f/\S=[a,a7<|.ref G,a7<|.int j]) ?_ ?_ _ _ _ _ ⟨[],_,0,rfl,rfl,rfl,(λ_ z=>nomatch z),by simp,D6 _,List.prefix_refl _,rfl⟩;rintro acc S f ⟨ps,a,i,rfl,o,m,hp,e,E,pM,rfl⟩;have hi:i=many:=by have:=u6 Ma e;rw[G8,MC,bi]at this;lia
 refine⟨trivial,?_⟩;simp only[qO];walk_at"dl";refine⟨⟨by decide,by decide⟩,_,2,rfl,⟨by decide,by decide⟩,λI=>?_⟩;exact Gy ((A.trans pM).trans bD) ((bT pM l).more _) am F (by lia) (by lia) (λJ w H L=>⟨⟨by lia,by lia⟩,λp q=>(hp p q).1,λp q=>(hp p q).2,w,by rw[m];exact g.sublist<|PD _ _,H,L⟩) h;rintro y ys acc S f ⟨ps,a,i,rfl,o,m,hp,e,E,pM,rfl⟩ K u;have hi:i<many:=by have:=u6 Ma e;rw[E9,MC,bi]at this;lia
 have Q:(ie 0 many)[i]?=a7 y/\ys=(ie 0 many).drop (i+1):=by
  have t:i<(ie 0 many).length:=by rw[bi];exact hi
  rw[QV t]at e;injection e with h1 h2;exact⟨by rw[A4 t,h1],h2⟩
 obtain⟨_,rfl⟩:=bP.mp Q.1;refine⟨trivial,?_⟩;walk_at"dl";have r:atI (ns.map D.str) (0+(i:Int))=a7 (.str<|ns[i]'(by lia)):=by rw[Oj];exact ar<|by rw[E1,A4<|by lia];rfl
 obtain⟨z,s,x⟩:=Ax (a:=4) (b:=12) (c:=36) (d:=108) (k:=i) (by lia) ⟨by decide,by decide⟩ ⟨by decide,by decide⟩ ⟨by decide,by decide⟩ ⟨by decide,by decide⟩;refine⟨_,bT pM l,?_⟩;rw[r];refine⟨ah (by lia),_,am,?_⟩;rw[s];have Z:=bR (a:=j / z) (b:=3) (by decide);have P:=cb (a:=j / z) (b:=3) (by decide);refine⟨x,by decide,ah (by lia),by rw[x6];exact aw (by lia),u _ _ _ ⟨ps++[(ns[i]'(by lia),1+j / z % 3)],_,i+1,by simp[dj],by simp[o],by rw[L6,m,MD,A4<|by lia];rfl,λp q=>?_,Q.2,hi,pM.trans bD,rfl⟩⟩;rcases J0.mp q with q|q;exact hp p q;rw[LL.mp q];exact⟨⟨by dsimp only;lia,by dsimp only;lia⟩,C _<|Mm _⟩
theorem Cq(T:Tops P w K mg base):z9 P w K mg base 3 "_law_house" uf kC:=z9.byD (N:=["_law_cell","_law_number","_law_many","_law_names_here","_law_people","_law_rooms","_law_k","_law_bits","_law_members","_law_called"]) T.b T.f_house (by walk_at"sc") zR (by have:=FD T;have:=Co T;walk_at"dv") BD
def kD:B5:=λds M R=>∃(ps:List (c5×Int)) (r:List D),ds=[.tup<|.tup (ps.map dj)::r]/\Rh ps/\R (.ref M.length) (M++[.lst<|bb ps])
theorem zS:dz kD uh:=by rintro ds M R ⟨ps,r,rfl,_⟩;rfl
def qS:v7:=bp<|ac 1
def qT:v7:=aB (jP (cJ<|u9 w9 (ac 0)<|dC<|.int 0) (dL 2<|aA (af 2)<|aA (af 3) dN)<|bd (u9 aK (ac 1)<|LH 1 [2] (bK<|aa (ac 3) ag) (af 0) pV<|cQ<|aa (ac 1)<|aa (ac 0) ag) 1)<|qS
def yH:v7:=aB (bd (gM ag) 1)<|qT
theorem BE:D9 kD 4 yH:=by
 rintro ds M R ⟨ps,r,rfl,⟨m,d⟩,h⟩;simp only[yH,qT];walk_at"dl";refine⟨D6 _,λ_=>?_⟩;have l:∀qs:List (c5×Int),(∀p∈qs,p∈ps)->qs.length<=4->(bb qs).length<=12:=λqs h1 h2=>by have:=nY (ps:=qs) λp hp=>d p<|h1 p hp;lia
 refine fV (λys S M'=>∃qs s a b q L,ps=qs++s/\ys=s.map dj/\M'=M++L/\M.length<=q/\M'[q]?=a7 (.lst<|bb qs)/\S=[a7<|.tup<|.tup (ps.map dj)::r,a7<|.ref q,a,b]) ?_ ?_ _ _ _ ⟨[],ps,_,_,_,[.lst []],rfl,rfl,rfl,x9 _,ao,rfl⟩;rintro S M' ⟨qs,s,a,b,q,L,e,c,rfl,f,g,rfl⟩;have:s=[]:=by cases s<;>simp_all
 subst this;rw[LS]at e;subst e;refine⟨trivial,?_⟩;simp only[qS];walk_at"dl";exact aV.lst h f g xI;rintro x xs S M' ⟨qs,s,a,b,q,L,e,c,rfl,f,g,rfl⟩ G i;cases s with
 |nil=>cases c
 |cons p s =>
  rw[D7]at c;injection c with e1 e2;subst e1;have hp:=d p (by rw[e];simp);refine⟨trivial,?_⟩;unfold dj;walk_at"dl";refine⟨trivial,⟨by lia,by lia⟩,?_⟩;refine bU (λk=>.tup [.str p.1,k]) (λS=>∃a,S=[a,a7<|.str p.1]) trivial _ _ _ (λk n S j=>?_) ⟨_,rfl⟩ ?_ ?_;obtain⟨a,rfl⟩:=j;refine⟨[a7 k,a7<|.str p.1],⟨_,rfl⟩,λY D=>?_⟩;walk_at"dl";exact⟨ah (by lia),D⟩;simp only[G8,bi];exact ah (by lia);have y:ps.length=qs.length+(s.length+1):=by rw[e];simp
  have o:=l qs (λq c=>by rw[e];simp[c]) (by lia);have t:(cF p).length<=3:=by rw[gY];lia
  rw[LB];refine⟨bb qs,cF p,ae g,ao,ah (by lia),?_⟩;refine C6.now<|i _ _ ⟨qs++[p],s,_,_,_,L++[.lst<|cF p]++[.lst<|bb qs++cF p],by rw[e];simp,e2,by simp[cF],?_,?_,rfl⟩;simp only[E3,LD];lia;have:bb (qs++[p])=bb qs++cF p:=by simp[bb]
  rw[this];exact ao
theorem Cr(T:Tops P w K mg base):z9 P w K mg base 1 "_law_hands" uh kD:=z9.byD (N:=["_law_house_here","_law_hands_here","_law_name","_law_many"]) T.b T.f_hands (by walk_at"sc") zS (by walk_at"dv") BE
def fL:B5:=λds M R=>∃(c:Int) (q:Nat) (xs:List c5),ds=[.int c,.ref q]/\ak M q (xs.map .str)/\1<=xs.length/\xs.length<=1000/\(∀x∈xs,x.length<=8)/\∀x:c5,R (.str x) M
theorem xy:dz fL oS:=by rintro ds M R ⟨c,q,xs,rfl,_⟩;rfl
theorem at_any(h:1<=xs.length):∃x∈xs,atI xs (i % (xs.length:Int))=a7 x:=gP h
def nw:v7:=bp<|ac 4
def ny:v7:=bd (u9 aN (ac 0)<|dC<|.int 3) 0
def nA:v7:=aB (jP (bK<|aa (u9 aK (dC<|.int 1)<|u9 bY (ac 0)<|dC<|.int 8) ag) (af 5)<|aB (bd (u9 aK (ac 4)<|u9 w9 (u9 aK (u9 aK (dC<|.str " !@")<|ac 2)<|dC<|.str "abzAZ09.~")<|u9 bY (u9 aN (ac 0)<|dC<|.int 8)<|u9 aK (dC<|.int 12)<|w6 jV<|aa (ac 2) ag) 4)<|ny)<|nw
def nB:v7:=aB (bd (u9 jU (dC<|.str "@")<|u9 bY (ac 3)<|dC<|.int 2) 4)<|nA
def nC:v7:=aB (C9 (ax<|u9 Ni (ac 3)<|dC<|.int 8) (bp<|u9 w9 (gM<|aa (dC<|.str "hi")<|aa (u9 aK (dC<|.str "@")<|ac 2)<|aa (u9 aK (u9 aK (dC<|.str "x @")<|ac 2)<|dC<|.str "!")<|aa (u9 aK (u9 aK (dC<|.str "@")<|ac 2)<|dC<|.str "b")<|aa (u9 aK (dC<|.str "no @ ")<|ac 2)<|aa (u9 aK (dC<|.str "Hi @A@")<|ac 2)<|aa (ac 2)<|aa (dC<|.str "?") ag)<|ac 3) aP)<|nB
def nD:v7:=aB (bd (u9 aN (ac 0)<|dC<|.int 48) 0)<|nC
def nE:v7:=aB (bd (u9 bY (u9 aN (ac 0)<|dC<|.int 4)<|dC<|.int 12) 3)<|nD
def vA:v7:=aB (bd (u9 w9 (ac 1)<|u9 bY (ac 0)<|w6 jV<|aa (ac 1) ag) 2)<|nE
theorem yc:D9 fL 6 vA:=by
 rintro ds M R ⟨c,q,xs,rfl,L,J,W,K,h⟩;simp only[vA];walk_at"dl";obtain⟨d,n,f⟩:=gP (xs:=xs.map D.str) (i:=c) (by rw[x6];exact J);obtain⟨z,p,rfl⟩:=A6.mp n;have z8:=K z p;refine⟨_,L,by rw[x6];lia,_,L,?_⟩;rw[f];simp only[nE,nD];walk_at"dl";have H:=bR (a:=c / 4) (b:=12) (by decide);have I:=cb (a:=c / 4) (b:=12) (by decide);refine⟨⟨by decide,by decide⟩,by decide,⟨by decide,by decide⟩,?_⟩;generalize c / 4 % 12=w at H I;generalize c / 48=r;simp only[nC];walk_at"dl";have o:(v6 "@").length=1:=by decide +kernel
 have s:(v6 "x @").length=3:=by decide +kernel
 have v:(v6 "!").length=1:=by decide +kernel
 have U:(v6 "b").length=1:=by decide +kernel
 have B:(v6 "no @ ").length=5:=by decide +kernel
 have A:(v6 "Hi @A@").length=6:=by decide +kernel
 by_cases g:w<8;rw[dT_ g];refine bL ⟨by rw[o];exact ah (by lia),by rw[s];exact ah (by lia),by rw[da,s,v];exact ah (by lia),by rw[o];exact ah (by lia),by rw[da,o,U];exact ah (by lia),by rw[B];exact ah (by lia),by rw[A];exact ah (by lia),ah (by lia),_,am,?_⟩;have x:∃y:c5,atI [D.str<|v6 "hi",D.str<|v6 "@" ++ z,D.str<|v6 "x @" ++ z++v6 "!",D.str<|v6 "@" ++ z++v6 "b",D.str<|v6 "no @ " ++ z,D.str<|v6 "Hi @A@" ++ z,D.str z,D.str<|v6 "?"] w=a7 (.str y):=by
  have:w=0\/w=1\/w=2\/w=3\/w=4\/w=5\/w=6\/w=7:=by lia
  rcases this with rfl|rfl|rfl|rfl|rfl|rfl|rfl|rfl;exact⟨_,ar (j:=0) rfl⟩;exact⟨_,ar (j:=1) rfl⟩;exact⟨_,ar (j:=2) rfl⟩;exact⟨_,ar (j:=3) rfl⟩;exact⟨_,ar (j:=4) rfl⟩;exact⟨_,ar (j:=5) rfl⟩;exact⟨_,ar (j:=6) rfl⟩;exact⟨_,ar (j:=7) rfl⟩
 obtain⟨y,k⟩:=x;rw[k];exact aV.str (h _) bD;rw[dF_ g];refine bN ?_;simp only[nB];walk_at"dl";have Z:=bR (a:=w) (b:=2) (by decide);have V:=cb (a:=w) (b:=2) (by decide);have u:(Txt.mul (v6 "@")<|w % 2).length<=1:=by
  have:w % 2=0\/w % 2=1:=by lia
  rcases this with e|e<;>rw[e]<;>decide +kernel
 refine⟨by decide,⟨Z,by lia,by rw[o];exact ah<|by lia⟩,?_⟩;generalize Txt.mul (v6 "@") (w % 2)=N at u;simp only[nA];walk_at"dl";have P:=bR (a:=r) (b:=8) (by decide);have T:=cb (a:=r) (b:=8) (by decide);refine⟨by decide,⟨by lia,by lia⟩,?_⟩;refine aT (λi S M'=>∃(y:c5) (r':Int) (b:Option D),y.length<=1+i/\M'=M/\S=[a7<|.int r',a7<|.ref q,a7<|.str z,a7<|.int w,a7<|.str y,b]) ?_ ?_ ⟨N,_,_,by lia,rfl,rfl⟩;rintro S M' ⟨y,r',b,_,rfl,rfl⟩;refine⟨trivial,?_⟩;simp only[nw];walk_at"dl";exact aV.now<|h _;rintro i X S M' Q ⟨y,r',b,Y,rfl,rfl⟩ G l;obtain⟨hi,rfl⟩:=bP.mp Q;refine⟨trivial,?_⟩;simp only[ny];walk_at"dl";have t:(v6 " !@").length=3:=by decide +kernel
 have E:(v6 "abzAZ09.~").length=9:=by decide +kernel
 have F:(v6 " !@" ++ z++v6 "abzAZ09.~").length=12+z.length:=by rw[da,da,t,E];lia
 refine⟨by rw[t];exact ah (by lia),by rw[da,t,E];exact ah (by lia),⟨by decide,by decide⟩,ah (by lia),by lia,ah (by lia),?_⟩;have C:=eG (a:=v6 " !@" ++ z++v6 "abzAZ09.~");obtain⟨O,_,m⟩:=gP (xs:=(v6 " !@" ++ z++v6 "abzAZ09.~").cps.toList) (i:=r' / 8) (by lia);rw[<-C,F,show (((12+z.length:Nat)):Int)=12+(z.length:Int) by lia]at m;rw[m];exact⟨by rw[gW];exact ah (by lia),⟨by decide,by decide⟩,C6.now<|l _ _ ⟨_,_,_,by rw[da,gW];lia,rfl,rfl⟩⟩
theorem zx(T:Tops P w K mg base):z9 P w K mg base 1 "_law_saying" oS fL:=z9.byD (N:=["_law_number","_law_names_here","_law_name","_law_way","_law_saying_here","_law_k"]) T.b T.f_saying (by walk_at"sc") xy (by walk_at"dv") yc
def Oe(s:List D):Prop:=∀x∈s,∃(t:Int) (z:c5) (k:Int),x=.tup [.int t,.tup [.str z,.int k]]
def mF:B5:=λds M R=>∃(c:Int) (p q:Nat) (s hs:List D),ds=[.int c,.ref p,.ref q]/\ak M p s/\Oe s/\s.length<=1000/\ak M q hs/\(∀x∈hs,Hd x)/\1<=hs.length/\hs.length<=1000/\∀(t:Int) (z:c5) (k:Int),R (.tup [.int t,.tup [.str z,.int k]]) M
theorem CH:dz mF zp:=by rintro ds M R ⟨c,p,q,s,hs,rfl,_⟩;rfl
theorem rh:E7 n (.tup [.int t,.tup [.str z,.int k]]):=cC 2 _ rfl
def oH:v7:=bp<|u9 w9 (ac 1)<|u9 Hs (u9 Hs (w6 jV<|aa (ac 1) ag)<|dC<|.int 1)<|u9 bY (u9 aN (ac 0)<|dC<|.int 8)<|w6 jV<|aa (ac 1) ag
def Ef:v7:=aB (C9 (NS (ax<|u9 D3 (ac 1)<|gM ag)<|ax<|u9 D3 (u9 bY (ac 0)<|dC<|.int 8)<|dC<|.int 7) (bp<|cQ<|aa (u9 aK (dC<|.int 1)<|u9 bY (u9 aN (ac 0)<|dC<|.int 8)<|dC<|.int 50)<|aa (u9 w9 (ac 2)<|u9 bY (u9 aN (ac 0)<|dC<|.int 400)<|w6 jV<|aa (ac 2) ag) ag) aP)<|oH
theorem BO(A:M <+: B)(a:ak B q hs)(e:∀x∈hs,Hd x)(h1:1<=hs.length)(g:hs.length<=1000)(h:∀(t:Int) (z:c5) (k:Int),R (.tup [.int t,.tup [.str z,.int k]]) M):(cQ<|aa (u9 aK (dC<|.int 1)<|u9 bY (u9 aN (ac 0)<|dC<|.int 8)<|dC<|.int 50)<|aa (u9 w9 (ac 2)<|u9 bY (u9 aN (ac 0)<|dC<|.int 400)<|w6 jV<|aa (ac 2) ag) ag) [a7<|.int c,y1,a7<|.ref q] B (aV M R):=by walk_at"dl";obtain⟨d,b,f⟩:=gP (xs:=hs) (i:=c / 400) h1;obtain⟨z,k,rfl⟩:=e d b;refine⟨⟨by decide,by decide⟩,by decide,⟨by decide,by decide⟩,_,a,by lia,_,a,?_⟩;rw[f];exact⟨ah (by lia),aV.keep (h _ _ _) rh A⟩
theorem EL:D9 mF 3 Ef:=by
 rintro ds M R ⟨c,p,q,s,hs,rfl,hp,f,D,v,r,h1,u,h⟩;have e:Ef=aB (C9 (NS (ax<|u9 D3 (ac 1)<|gM ag)<|ax<|u9 D3 (u9 bY (ac 0)<|dC<|.int 8)<|dC<|.int 7) (bp<|cQ<|aa (u9 aK (dC<|.int 1)<|u9 bY (u9 aN (ac 0)<|dC<|.int 8)<|dC<|.int 50)<|aa (u9 w9 (ac 2)<|u9 bY (u9 aN (ac 0)<|dC<|.int 400)<|w6 jV<|aa (ac 2) ag) ag) aP) oH:=rfl;have n:=BO (M:=M) (B:=M++[MO.lst []]) (R:=R) (c:=c) (q:=q) (hs:=hs) (y1:=a7<|.ref p) bD (v.more _) r h1 u h;rw[e];generalize (cQ<|aa (u9 aK (dC<|.int 1)<|u9 bY (u9 aN (ac 0)<|dC<|.int 8)<|dC<|.int 50)<|aa (u9 w9 (ac 2)<|u9 bY (u9 aN (ac 0)<|dC<|.int 400)<|w6 jV<|aa (ac 2) ag) ag)=tn at n;walk_at"dl";obtain⟨o,l⟩:=pc hp λx y=>by obtain⟨t,z,k,rfl⟩:=f x y;rfl
 refine⟨D6 _,o,?_⟩;rw[l];cases w:s.isEmpty with
 |true=>exact bL n
 |false =>
  refine bN ⟨by decide,⟨aF,aF⟩,?_⟩;cases w4 (M++[MO.lst []]) x5 (.int<|c % 8) (.int 7) with
  |true=>exact bL n
  |false =>
   refine bN ?_;have C:1<=s.length:=by cases s<;>simp_all
   simp only[oH];walk_at"dl";have d:=hp.more [MO.lst []];have A:=bR (a:=c / 8) (b:=s.length) (by lia);have U:=cb (a:=c / 8) (b:=s.length) (by lia);refine⟨_,d,⟨by decide,by decide⟩,_,d,by lia,_,d,?_⟩;obtain⟨j,L,g,_⟩:=Bm (xs:=s) (i:=(s.length:Int)-1-c / 8 % (s.length:Int)) (by lia) (by lia);rw[g];obtain⟨t,z,k,m⟩:=f _<|Mm L;dsimp only;rw[m];exact aV.keep (h _ _ _) rh bD
theorem zw(T:Tops P w K mg base):z9 P w K mg base 1 "_law_told" zp mF:=z9.byD (N:=["_law_number","_law_says","_law_hands_here"]) T.b T.f_told (by walk_at"sc") CH (by walk_at"dv") EL
def fK:B5:=λds M R=>∃(c:Int) (q n:Nat) (hs:List D) (t:List (D×D)),ds=[.int c,.ref q,.ref n]/\ak M q hs/\(∀x∈hs,Hd x)/\hs.length<=1000/\M[n]?=a7 (.dkt t)/\(∀x∈hs,∃i:Int,aI t x=a7 (.int i))/\∀vs:List D,jr 3 vs->R (.tup vs) M
theorem xw:dz fK oR:=by rintro ds M R ⟨c,q,n,hs,t,rfl,_⟩;rfl
theorem kj{k:Nat}{vs:List (D×Int)}(h:∀p∈vs,Hd p.1):jr (k+2) (vs.map λp=>D.tup [p.1,.int p.2]):=jr.of λd a=>by obtain⟨p,hp,rfl⟩:=A6.mp a;exact .tup<|.cons (Di<|h p hp)<|.cons (.int _) .nil
def mZ:v7:=bp<|w6 eV<|aa (ac 3) ag
def ng:v7:=bd (u9 aN (ac 0)<|dC<|.int 5) 0
def nh:v7:=aB (jP (cJ<|ac 1) (af 4)<|aB (C9 (ax<|u9 D3 (u9 bY (ac 0)<|dC<|.int 2)<|dC<|.int 1) (iM<|Ms bQ (ac 3)<|aa (cQ<|aa (ac 4)<|aa (u9 aK (dC<|.int 1)<|u9 bY (u9 aN (ac 0)<|dC<|.int 2)<|dC<|.int 6) ag) ag) aP)<|ng)<|mZ
def nj:v7:=aB (bd (gM ag) 3)<|nh
def nr:v7:=aB (bd (u9 aN (ac 0)<|dC<|.int 2) 0)<|nj
def vt:v7:=aB (C9 (ax<|u9 D3 (u9 bY (ac 0)<|dC<|.int 2)<|dC<|.int 0) (bp<|w6 eV<|aa (LH 1 [2] (cJ<|ac 1) (af 0) (ax<|u9 NQ (dO (ac 1)<|ac 0)<|dC<|.int 0)<|cQ<|aa (ac 0)<|aa (dO (ac 1)<|ac 0) ag) ag) aP)<|nr
theorem yb:D9 fK 5 vt:=by
 rintro ds M R ⟨c,q,n,hs,t,rfl,b,f,o,g,j,h⟩;simp only[vt];walk_at"dl";refine⟨by decide,⟨aF,aF⟩,?_⟩;cases w4 M x5 (.int<|c % 2) (.int 0) with
 |true=>refine bL ⟨_,b,λ_=>?_⟩;refine fW (λys acc S M'=>∃(vs:List (D×Int)) (a:Option D),acc=vs.map (λp=>.tup [p.1,.int p.2])/\(∀p∈vs,Hd p.1)/\vs.length+ys.length<=hs.length/\(∀y∈ys,y∈hs)/\M'=M/\S=[a,a7<|.ref n]) ?_ ?_ _ _ _ _ ⟨[],_,rfl,(λ_ z=>nomatch z),by simp,λ_ z=>z,rfl,rfl⟩;rintro acc S M' ⟨vs,a,rfl,v,_,_,rfl,rfl⟩;exact⟨b,_,am,aV.keep (h _<|kj v) (cC 4 _<|.tup<|kj v) bD⟩;rintro y ys acc S M' ⟨vs,a,rfl,v,l,Q,rfl,rfl⟩ K B;refine⟨b,?_⟩;obtain⟨i,hi⟩:=j y (Q y<|by simp);obtain⟨z,k,rfl⟩:=f y (Q y<|by simp);rw[E9]at l;walk_at"dl";refine⟨t,_,g,rfl,hi,?_⟩;walk_at"dl";split;refine⟨t,_,g,rfl,hi,ah (by lia),by rw[x6];exact aw (by lia),B _ _ _ ⟨vs++[(.tup [.str z,.int k],i)],_,by simp,λp hp=>?_,by rw[E3,LD];lia,λX h'=>Q X<|D4 _ h',rfl,rfl⟩⟩;rcases J0.mp hp with hp|hp;exact v p hp;rw[LL.mp hp];exact⟨_,_,rfl⟩;exact B _ _ _ ⟨vs,_,rfl,v,by lia,λX h'=>Q X<|D4 _ h',rfl,rfl⟩
 |false=>refine bN ?_;simp only[nr,nj,nh];walk_at"dl";refine⟨⟨by decide,by decide⟩,D6 _,_,b.more _,λ_=>?_⟩;refine aT (λi S M'=>∃(vs:List (D×Int)) (r:Int) (a:Option D),vs.length<=i/\(∀p∈vs,Hd p.1)/\M'=M++MO.lst (vs.map λp=>.tup [p.1,.int p.2])::[]/\S=[a7<|.int r,a7<|.ref q,a7<|.ref n,a7<|.ref M.length,a]) ?_ ?_ ⟨[],_,_,x9 _,(λ_ z=>nomatch z),rfl,rfl⟩;rintro S M' ⟨vs,r,a,_,v,rfl,rfl⟩;refine⟨b.more _,?_⟩;simp only[mZ];walk_at"dl";exact⟨_,.inl bo,aV.keep (h _<|kj v) (cC 4 _<|.tup<|kj v) Fi⟩;rintro i y S M' Q ⟨vs,r,a,l,v,rfl,rfl⟩ G e;have m:=(B6.mp Q).1;have d:=f y<|K7 Q;refine⟨b.more _,?_⟩;simp only[ng];walk_at"dl";refine⟨by decide,⟨aF,aF⟩,?_⟩;split;refine⟨⟨_,.inl bo⟩,⟨by decide,by decide⟩,by decide,ah (by lia),_,bo,by rw[x6];exact aw (by lia),⟨by decide,by decide⟩,C6.now<|e _ _ ⟨vs++[(y,1+r / 2 % 6)],_,_,by rw[E3,LD];lia,λp hp=>?_,by rw[fq];simp,rfl⟩⟩;rcases J0.mp hp with hp|hp;exact v p hp;rw[LL.mp hp];exact d;exact⟨⟨by decide,by decide⟩,C6.now<|e _ _ ⟨vs,_,_,by lia,v,rfl,rfl⟩⟩
theorem zv(T:Tops P w K mg base):z9 P w K mg base 1 "_law_vector" oR fK:=z9.byD (N:=["_law_number","_law_hands_here","_law_counts","_law_found","_law_hand"]) T.b T.f_vector (by walk_at"sc") xw (by walk_at"dv") yb
def pR:B5:=λds M R=>∃(c:Int) (ps:List (c5×Int)) (a:List (c5×List c5)) (p q:Nat) (s hs:List D),ds=[.int c,aC ps a,.ref p,.ref q]/\HouseF ps a/\ak M p s/\Oe s/\s.length<=1000/\ak M q hs/\(∀x∈hs,Hd x)/\1<=hs.length/\hs.length<=1000/\∀w:D,G0 4 w->R w M
theorem CG:dz pR zo:=by rintro ds M R ⟨c,ps,a,p,q,s,hs,rfl,_⟩;rfl
def vp:v7:=bp<|cQ<|aa (dC<|.str "under")<|aa (w6 mF<|aa (u9 aN (ac 0)<|dC<|.int 3)<|aa (ac 2)<|aa (ac 3) ag) ag
def vq:v7:=aB (C9 (ax<|u9 D3 (u9 bY (ac 0)<|dC<|.int 3)<|dC<|.int 1) (bp<|cQ<|aa (dC<|.str "person")<|aa (u9 w9 (u9 w9 (u9 w9 (ac 1)<|dC<|.int 0)<|u9 bY (u9 aN (ac 0)<|dC<|.int 3)<|w6 jV<|aa (u9 w9 (ac 1)<|dC<|.int 0) ag)<|dC<|.int 0) ag) aP)<|vp
def Ee:v7:=aB (C9 (ax<|u9 D3 (u9 bY (ac 0)<|dC<|.int 3)<|dC<|.int 0) (bp<|cQ<|aa (dC<|.str "room")<|aa (u9 w9 (u9 w9 (u9 w9 (ac 1)<|dC<|.int 1)<|u9 bY (u9 aN (ac 0)<|dC<|.int 3)<|w6 jV<|aa (u9 w9 (ac 1)<|dC<|.int 1) ag)<|dC<|.int 0) ag) aP)<|vq
theorem EK:D9 pR 4 Ee:=by
 rintro ds M R ⟨c,ps,l,p,q,s,hs,rfl,f,hp,o,m,j,b,h1,g,h⟩;simp only[Ee,aC];walk_at"dl";refine⟨by decide,⟨aF,aF⟩,?_⟩;cases w4 M x5 (.int<|c % 3) (.int 0) with
 |true=>obtain⟨d,a,e⟩:=gP (xs:=l.map lD) (i:=c / 3) (by rw[x6];exact f.rl.1);obtain⟨r,_,rfl⟩:=A6.mp a;refine bL ⟨⟨by decide,by decide⟩,by rw[x6];have:=f.rl.1;lia,?_⟩;rw[e];unfold lD;walk_at"dl";exact⟨ah (by lia),aV.now<|h _ rfl⟩
 |false =>
  refine bN ?_;simp only[vq];walk_at"dl";refine⟨by decide,⟨aF,aF⟩,?_⟩;cases w4 M x5 (.int<|c % 3) (.int 1) with
  |true=>obtain⟨d,a,e⟩:=gP (xs:=ps.map dj) (i:=c / 3) (by rw[x6];exact f.len.1);obtain⟨r,_,rfl⟩:=A6.mp a;refine bL ⟨⟨by decide,by decide⟩,by rw[x6];have:=f.len.1;lia,?_⟩;rw[e];unfold dj;walk_at"dl";exact⟨ah (by lia),aV.now<|h _ rfl⟩
  |false=>refine bN ?_;simp only[vp];walk_at"dl";exact⟨⟨by decide,by decide⟩,_,p,q,s,hs,rfl,hp,o,m,j,b,h1,g,λt z k=>⟨ah (by lia),aV.now<|h _ rfl⟩⟩
theorem FC(T:Tops P w K mg base):z9 P w K mg base 2 "_law_what" zo pR:=z9.byD (N:=["_law_number","_law_house_here","_law_says","_law_hands_here"]) T.b T.f_what (by walk_at"sc") CG (by have:=zw T;walk_at"dv") EK
def wF:B5:=λds M R=>∃(c:Int) (ps:List (c5×Int)) (a:List (c5×List c5)) (p q n:Nat) (s hs:List D) (t:List (D×D)),ds=[.int c,aC ps a,.ref p,.ref q,.ref n]/\HouseF ps a/\ak M p s/\Oe s/\s.length<=1000/\ak M q hs/\(∀x∈hs,Hd x)/\1<=hs.length/\hs.length<=1000/\M[n]?=a7 (.dkt t)/\(∀x∈hs,∃i:Int,aI t x=a7 (.int i)) /\∀(x:c5) (ds:List D),jr 4 ds->ActK a x ds->R (.tup<|.str x::ds) M
theorem FS:dz wF Fy:=by rintro ds M R ⟨c,ps,a,p,q,n,s,hs,t,rfl,_⟩;rfl
theorem BT:G0 (n+2) (.tup [.int t,.tup [.str z,.int k]]):=.tup<|.cons (.int _)<|.cons (.tup<|.cons (.str _)<|.cons (.int _) .nil) .nil
theorem jr.up:∀{ds:List D},jr n ds->jr (n+1) ds:=by
 have c:∀(n:Nat) (d:D),G0 n d->G0 (n+1) d:=by
  intro n;induction n with
  |zero=>intro d h;cases d<;>first|rfl|cases h
  |succ n f =>
   intro d h;cases d with
   |tup xs=>exact G0.tup<|jr.of λx e=>f x<|F4.mp h x e
   |ref i=>cases h
   |ty t=>cases h
   |non=>rfl
   |bl b=>rfl
   |int i=>rfl
   |str x=>rfl
 intro ds h;exact jr.of λd a=>c n d<|F4.mp h d a
def vM:v7:=bp<|u9 w9 (gM<|aa (cQ<|aa (dC<|.str "rung")<|aa (ac 8) ag)<|aa (cQ<|aa (dC<|.str "read")<|aa (ac 7)<|aa (w6 fK<|aa (u9 aN (ac 0)<|dC<|.int 4)<|aa (ac 3)<|aa (ac 4) ag) ag) ag)<|u9 bY (u9 aN (ac 0)<|dC<|.int 3)<|dC<|.int 2
def vN:v7:=aB (C9 (ax<|u9 D3 (ac 5)<|dC<|.int 14) (bp<|cQ<|aa (dC<|.str "hush")<|aa (w6 pR<|aa (u9 aN (ac 0)<|dC<|.int 3)<|aa (ac 1)<|aa (ac 2)<|aa (ac 3) ag)<|aa (u9 NQ (u9 bY (ac 0)<|dC<|.int 3)<|dC<|.int 0) ag) aP)<|vM
def vO:v7:=aB (C9 (ax<|u9 D3 (ac 5)<|dC<|.int 13) (bp<|cQ<|aa (dC<|.str "seen")<|aa (ac 8) ag) aP)<|vN
def vP:v7:=aB (C9 (ax<|u9 D3 (ac 5)<|dC<|.int 12) (bp<|cQ<|aa (dC<|.str "read")<|aa (ac 7)<|aa (w6 fK<|aa (u9 aN (ac 0)<|dC<|.int 4)<|aa (ac 3)<|aa (ac 4) ag) ag) aP)<|vO
def vQ:v7:=bp<|cQ<|aa (dC<|.str "like")<|aa (ac 8)<|aa (u9 w9 (ac 10)<|u9 bY (u9 aN (ac 0)<|dC<|.int 2000)<|w6 jV<|aa (ac 10) ag)<|aa (u9 NQ (u9 bY (ac 0)<|dC<|.int 4)<|dC<|.int 0) ag
def yN:v7:=aB (C9 (ax<|u9 Ni (ac 5)<|dC<|.int 12) (aB (bd (u9 aK (ac 6)<|gM<|aa (dC<|.str "good") ag) 10)<|vQ) aP)<|vP
def yO:v7:=aB (C9 (ax<|u9 D3 (ac 5)<|dC<|.int 8) (bp<|cQ<|aa (dC<|.str "back")<|aa (ac 8) ag) aP)<|yN
def yP:v7:=aB (C9 (ax<|u9 Ni (ac 5)<|dC<|.int 8) (bp<|cQ<|aa (dC<|.str "change")<|aa (ac 8)<|aa (w6 fL<|aa (u9 aN (ac 0)<|dC<|.int 12)<|aa (ac 6) ag) ag) aP)<|yO
def yQ:v7:=bp<|cQ<|aa (dC<|.str "say")<|aa (ac 7)<|aa (ac 9)<|aa (w6 fL<|aa (u9 aN (ac 0)<|dC<|.int 12)<|aa (ac 6) ag) ag
def tR:v7:=aB (C9 (ax<|u9 Ni (ac 5)<|dC<|.int 6) (aB (bd (u9 w9 (gM<|aa (dC .non)<|aa (ac 8)<|aa (ac 8) ag)<|u9 bY (u9 aN (ac 0)<|dC<|.int 4)<|dC<|.int 3) 9)<|yQ) aP)<|yP
def yR:v7:=aB (bd (w6 mF<|aa (u9 aN (ac 0)<|dC<|.int 4)<|aa (ac 2)<|aa (ac 3) ag) 8)<|tR
def yS:v7:=aB (bd (u9 w9 (u9 w9 (u9 w9 (ac 1)<|dC<|.int 1)<|u9 bY (ac 0)<|w6 jV<|aa (u9 w9 (ac 1)<|dC<|.int 1) ag)<|dC<|.int 0) 7)<|yR
def yT:v7:=aB (iL 2 [] (cJ<|u9 w9 (ac 1)<|dC<|.int 0) (dL 2<|aA (af 0)<|aA (af 1) dN) pV (ac 0) 6)<|yS
def yU:v7:=aB (bd (u9 aN (ac 0)<|dC<|.int 16) 0)<|yT
def HY:v7:=aB (bd (u9 bY (ac 0)<|dC<|.int 16) 5)<|yU
theorem fJ(A:M <+: B)(h:∀(x:c5) (ds:List D),jr 4 ds->ActK rs x ds->R (.tup<|.str x::ds) M)(p:jr 4 ds)(a:ActK rs x ds):aV M R (.tup<|.str x::ds) B:=aV.keep (h x ds p a) (cC 5 _<|.tup<|.cons (.str _) p) A
theorem act_5{M B:v8}{R:DK}{c e:Int}{ps:List (c5×Int)}{rs:List (c5×List c5)}{p q n r:Nat}{s hs:List D}{f:List (D×D)}{m:c5}{t:Int}{z:c5}{k:Int}{ns:List c5}(A:M <+: B)(U:HouseF ps rs)(hp:ak B p s)(so:Oe s)(sl:s.length<=1000)(G:ak B q hs)(E:∀x∈hs,Hd x)(h1:1<=hs.length)(F:hs.length<=1000)(K:B[n]?=a7 (.dkt f))(J:∀x∈hs,∃i:Int,aI f x=a7 (.int i))(C:B[r]?=a7 (.lst<|ns.map .str))(N:1<=ns.length)(n4:ns.length<=4)(O:∀x∈ns,x.length<=8)(X:m∈rs.map (·.1))(h:∀(x:c5) (ds:List D),jr 4 ds->ActK rs x ds->R (.tup<|.str x::ds) M):tR (EE M R) [a7<|.int c,a7<|aC ps rs,a7<|.ref p,a7<|.ref q,a7<|.ref n,a7<|.int e,a7<|.ref r,a7<|.str m,a7<|.tup [.int t,.tup [.str z,.int k]],a8,a8] B:=by
 have sp:∀{j:Nat},G0 (j+2) (.tup [.int t,.tup [.str z,.int k]]):=BT;have S:St (.tup [.int t,.tup [.str z,.int k]]):=⟨_,_,_,rfl⟩
 generalize hS:D.tup [.int t,.tup [.str z,.int k]]=P at sp S;simp only[tR];walk_at"dl";by_cases L:e<6;rw[dT_ L];refine bL ?_;have Z:=bR (a:=c / 4) (b:=3) (by decide);have I:=cb (a:=c / 4) (b:=3) (by decide);refine⟨ah (by lia),⟨by decide,by decide⟩,by decide,_,am,?_⟩;obtain⟨u,T,pu,V⟩:∃u,atI [D.non,P,P] (c / 4 % 3)=a7 u/\G0 4 u/\(u=.non\/St u):=by
  generalize c / 4 % 3=v at Z I;have:v=0\/v=1\/v=2:=by lia
  rcases this with rfl|rfl|rfl;exact⟨_,ar (j:=0) rfl,.non,.inl rfl⟩;exact⟨_,ar (j:=1) rfl,sp,.inr S⟩;exact⟨_,ar (j:=2) rfl,sp,.inr S⟩
 rw[T];simp only[yQ];walk_at"dl";exact⟨⟨by decide,by decide⟩,_,r,ns,rfl,.inl<|ae C,N,by lia,O,λx=>⟨ah (by lia),fJ (A.trans bD) h (.cons (.str _)<|.cons pu<|.cons (.str _) .nil)<|.mkSay X V⟩⟩;rw[dF_ L];refine bN ?_;simp only[yP];walk_at"dl";by_cases W:e<8;rw[dT_ W];exact bL ⟨⟨by decide,by decide⟩,_,r,ns,rfl,.inl C,N,by lia,O,λx=>⟨ah (by lia),fJ A h (.cons sp<|.cons (.str _) .nil)<|.mkChange S⟩⟩;rw[dF_ W];refine bN ?_;simp only[yO];walk_at"dl";refine⟨⟨aF,aF⟩,?_⟩;split;exact⟨ah (by lia),fJ A h (.cons sp .nil)<|.mkBack S⟩;simp only[yN];walk_at"dl";by_cases l:e<12;rw[dT_ l];have H:(ns.map D.str++[D.str<|v6 "good"]).length=ns.length+1:=by simp
 refine bL ⟨ah (by lia),_,_,ae C,ao,by rw[<-E3,H];exact ah (by lia),?_⟩;simp only[vQ];walk_at"dl";obtain⟨d,g,Q⟩:=gP (xs:=ns.map D.str++[D.str<|v6 "good"]) (i:=c / 2000) (by lia);obtain⟨y,rfl⟩:∃y:c5,d=.str y:=by rcases J0.mp g with g|g;obtain⟨y,_,rfl⟩:=A6.mp g;exact⟨y,rfl⟩;exact⟨_,LL.mp g⟩
 refine⟨⟨by decide,by decide⟩,_,am,by lia,_,am,?_⟩;rw[Q];exact⟨by decide,ah (by lia),fJ ((A.trans bD).trans bD) h (.cons sp<|.cons (.str _)<|.cons (.bl _) .nil)<|.mkLike S⟩;rw[dF_ l];refine bN ?_;simp only[vP];walk_at"dl";refine⟨⟨aF,aF⟩,?_⟩;have o:∀{x:c5}{vs:List D}{B':v8},(x≠v6 "say"/\x≠v6 "change"/\x≠v6 "back"/\x≠v6 "like")->M <+: B'->jr 3 vs->aV M R (.tup [.str x,.str m,.tup vs]) B':=λhx pb pv=>fJ pb h (.cons (.str _)<|.cons (.tup pv) .nil)<|.mkNone hx;split;exact⟨⟨by decide,by decide⟩,_,q,n,hs,f,rfl,G,E,F,K,J,λvs pv=>⟨ah (by lia),o (by decide +kernel) A pv⟩⟩;simp only[vO];walk_at"dl";refine⟨⟨aF,aF⟩,?_⟩;split;exact⟨ah (by lia),fJ A h (.cons sp .nil)<|.mkNone<|by decide +kernel⟩;simp only[vN];walk_at"dl";refine⟨⟨aF,aF⟩,?_⟩;split;exact⟨⟨by decide,by decide⟩,_,ps,rs,p,q,s,hs,rfl,U,hp,so,sl,G,E,h1,F,λw Y=>⟨by decide,ah (by lia),fJ A h (.cons Y<|.cons (.bl _) .nil)<|.mkNone<|by decide +kernel⟩⟩;simp only[vM];walk_at"dl";have Z:=bR (a:=c / 3) (b:=2) (by decide);have I:=cb (a:=c / 3) (b:=2) (by decide);refine⟨ah (by lia),⟨by decide,by decide⟩,_,q,n,hs,f,rfl,G,E,F,K,J,λvs pv=>⟨ah (by lia),ah (by lia),⟨by decide,by decide⟩,by decide,_,am,?_⟩⟩;generalize c / 3 % 2=v at Z I;have:v=0\/v=1:=by lia
 rcases this with rfl|rfl;rw[Oz];exact fJ (A.trans bD) h (.cons sp .nil) (.mkNone<|by decide +kernel);rw[Oc];exact o (by decide +kernel) (A.trans bD) pv
theorem HH:D9 wF 11 HY:=by
 rintro ds M R ⟨c,ps,N,p,q,n,s,hs,E,rfl,f,hp,y,w,o,j,h1,m,K,J,h⟩;simp only[HY,yU];walk_at"dl";refine⟨by decide,⟨by decide,by decide⟩,?_⟩;generalize c % 16=v;generalize c / 16=C;simp only[yT,aC];walk_at"dl";intro _;refine bU (λd=>match d with|.tup (x::_)=>x|_=>.non) (λS=>∃a b,S=[a,b]) trivial _ _ _ (λd e S H=>?_) ⟨_,_,rfl⟩ ?_ ?_;obtain⟨a,b,rfl⟩:=H;obtain⟨r,u,rfl⟩:=A6.mp e;refine⟨[a7<|.str r.1,a7<|.int r.2],⟨_,_,rfl⟩,λY I=>?_⟩;unfold dj;walk_at"dl";exact⟨trivial,I⟩;rw[G8,x6];have:=f.len.2;exact ah (by lia);have G:(ps.map dj).map (λd=>match d with|.tup (x::_)=>x|_=>.non)=(ps.map (·.1)).map D.str:=by rw[K2,K2];rfl
 rw[LB,G];have l:(M++[MO.lst ((ps.map (·.1)).map D.str)])[M.length]?=a7 (.lst ((ps.map (·.1)).map D.str)):=ao;have A:M <+: M++[MO.lst ((ps.map (·.1)).map D.str)]:=bD;generalize M++[MO.lst ((ps.map (·.1)).map D.str)]=B at l A;generalize M.length=O at l;simp only[yS];walk_at"dl";obtain⟨d,e,F⟩:=gP (xs:=N.map lD) (i:=C) (by rw[x6];exact f.rl.1);obtain⟨r,u,rfl⟩:=A6.mp e;refine⟨by rw[x6];have:=f.rl.1;lia,?_⟩;rw[F];rw[show lD r=.tup [.str r.1,.tup<|r.2.map .str]from rfl];walk_at"dl";simp only[yR];walk_at"dl";refine⟨⟨by decide,by decide⟩,_,p,q,s,hs,rfl,bT A hp,y,w,bT A o,j,h1,m,λt z k=>?_⟩;exact act_5 (ns:=ps.map (·.1)) A f (bT A hp) y w (bT A o) j h1 m (bA A K) J l (by rw[x6];exact f.len.1) (by rw[x6];exact f.len.2) (λx L=>by obtain⟨r',g,rfl⟩:=A6.mp L;exact f.nm r' g) (MS u) h
theorem Jd(T:Tops P w K mg base):z9 P w K mg base 3 "_law_act" Fy wF:=z9.byD (N:=["_law_number","_law_house_here","_law_says","_law_hands_here","_law_counts","_law_kind","_law_names_here","_law_room","_law_message","_law_under","_law_sorts"]) T.b T.f_act (by walk_at"sc") FS (by have:=zx T;have:=zw T;have:=zv T;have:=FC T;walk_at"dv") HH
noncomputable def mJ:D->Int
 |.tup (.int t::_)=>t
 |_=>0
theorem sk:∀{xs:List D},(∀x∈xs,f x x=a9)->pU f g xs xs=bt
 | [],_=>rfl
 |x::xs,h=>by show (if f x x=a9 then pU f g xs xs else g x x)=bt;rw[t6<|h x<|by simp];exact sk λy hy=>h y<|D4 _ hy
theorem sU:∀{xs:List D},(∀x∈xs,f x x=a9)->xQ f g xs xs=a9
 | [],_=>rfl
 |x::xs,h=>by show (if f x x=a9 then xQ f g xs xs else g x x)=a9;rw[t6<|h x<|by simp];exact sU λy hy=>h y<|D4 _ hy
structure GenH(ps:List (c5×Int))(rs:List (c5×List c5))(hs deeds:List D)(cnt las:List (D×D))(g:Int):Prop where
 deed:∀d∈deeds,aR ps rs d
 up:deeds.Pairwise λa b=>Dl a=Dl b->mJ a<mJ b
 last:∀h∈hs,∃t:Int,aI las h=a7 (.int t)/\(0<=t/\t<=g)/\∀d∈deeds,Dl d=h->mJ d<=t
 cnt:∀h∈hs,∃i:Int,aI cnt h=a7 (.int i)
 le:∀d∈deeds,mJ d<=g
theorem Iw{α:Type}{r:α->α->Prop}:∀{l:List α}{a b:α},l.Pairwise r->a∈l->b∈l->a≠b->r a b\/r b a
 |x::l,a,b,h,ha,hb,ne=>by rw[List.pairwise_cons]at h;rcases A9.mp ha with e1|h1;rcases A9.mp hb with e2|h2;exact t8 (e1.trans e2.symm) ne;rw[e1];exact .inl<|h.1 b h2;rcases A9.mp hb with e2|h2;rw[e2];exact .inr<|h.1 a h1;exact Iw h.2 h1 h2 ne
theorem GenH.step{ps:List (c5×Int)}{rs:List (c5×List c5)}{hs s:List D}{f l:List (D×D)}{g:Int}(G:GenH ps rs hs s f l g){z:c5}{k t T num i:Int}{x:c5}{ds:List D}(j:D.tup [.str z,.int k]∈hs)(o:aI l (.tup [.str z,.int k])=a7 (.int t))(A:t<T)(y:jr 4 ds)(w:ActK rs x ds)(n:∀x∈hs,x∈bb ps):GenH ps rs hs (s++[.tup [.int T,.tup [.str z,.int k],.int num,.tup<|.str x::ds]]) (fR f (.tup [.str z,.int k])<|.int i) (fR l (.tup [.str z,.int k])<|.int T) (if T > g then T else g):=by
 have q:g<=(if T > g then T else g):=by split<;>lia
 have Tle:T<=(if T > g then T else g):=by split<;>lia
 refine⟨λd m=>?_,?_,λh m=>?_,λh m=>?_,λd m=>?_⟩;rcases J0.mp m with m|m;exact G.deed d m;rw[LL.mp m];exact⟨T,z,k,num,x,ds,rfl,by obtain⟨t',c,r,_⟩:=G.last _ j;rw[o]at c;injection c with c;injection c with c;lia,n _ j,y,w⟩;refine List.pairwise_append.mpr ⟨G.up,RD _ _,λa u b v=>?_⟩;rw[LL.mp v];intro e;obtain⟨t',c,_,le⟩:=G.last _ j;rw[o]at c;injection c with c;injection c with c;have:=le a u e;show mJ a<T;lia;by_cases e:h=.tup [.str z,.int k];subst e;refine⟨T,iI,⟨by obtain⟨t',c,r,_⟩:=G.last _ j;rw[o]at c;injection c with c;injection c with c;lia,Tle⟩,λd m e=>?_⟩;rcases J0.mp m with m|m;obtain⟨t',c,_,le⟩:=G.last _ j;rw[o]at c;injection c with c;injection c with c;have:=le d m e;lia;rw[LL.mp m];exact Int.le_refl _;obtain⟨t',c,h1,le⟩:=G.last h m;refine⟨t',by rw[fH e];exact c,⟨h1.1,by have:=h1.2;lia⟩,λd m p=>?_⟩;rcases J0.mp m with m|m;exact le d m p;rw[LL.mp m]at p;exact t8 p.symm e;by_cases e:h=.tup [.str z,.int k];subst e;exact⟨_,iI⟩;rw[fH e];exact G.cnt h m;rcases J0.mp m with m|m;exact Int.le_trans (G.le d m) q;rw[LL.mp m];exact Tle
theorem AO(G:GenH ps rs hs deeds cnt las g)(l:deeds.length<64):SrtG M deeds:=by
 have p:∀d∈deeds,z5 M x5 d=a9/\w4 M x5 d d=a9:=λd u=>vW 6 x5 d (by decide) (G.deed d u).pl;have s:∀{a:D}{xs:List D},a=.tup xs->G0 6 a->∀x∈xs,w4 M 29 x x=a9:=λ{a xs} e h x hx=>by subst e;exact(vW 5 29 x (by decide)<|F4.mp h x hx).2
 have i:∀{t z k n x ds t' c I m R ds'},D.tup [.int t,.tup [.str z,.int k],.int n,.tup<|.str x::ds]∈deeds->D.tup [.int t',.tup [.str c,.int I],.int m,.tup<|.str R::ds']∈deeds->D.tup [.int t,.tup [.str z,.int k],.int n,.tup<|.str x::ds]≠D.tup [.int t',.tup [.str c,.int I],.int m,.tup<|.str R::ds']->t=t'->w4 M 29 (.tup [.str z,.int k]) (.tup [.str c,.int I])=bt:=by intro t z k n x ds t' c I m R ds' f j F o;refine MQ.mpr λe=>?_;have U:=(hd_eq (M:=M) (n:=28) (a:=.tup [.str z,.int k]) (b:=.tup [.str c,.int I]) ⟨_,_,rfl⟩ ⟨_,_,rfl⟩).mp e;rcases Iw G.up f j F with q|q;have:=q U;simp only[mJ]at this;lia;have:=q U.symm;simp only[mJ]at this;lia
 refine⟨l,λd u=>(p d u).1,λa f b j=>?_,.inr<|.inr<|.inr<|.inl λa f=>?_,λd=>D8 x5<|LG d,λa f b j=>?_⟩
 ·by_cases e:a=b
  subst e;obtain⟨t,z,k,n,x,ds,e,_⟩:=G.deed a f;have:=s e (G.deed a f).pl;rw[e];exact sU this
  ·obtain⟨t,z,k,n,x,ds,rfl,_⟩:=G.deed a f
   obtain⟨t',c,I,m,R,ds',rfl,_⟩:=G.deed b j;have r:=i f j e;show (if w4 M 29 (.int t) (.int t')=a9 then(if w4 M 29 (.tup [.str z,.int k]) (.tup [.str c,.int I])=a9 then xQ (w4 M 29) (iN M 29) [.int n,.tup<|.str x::ds] [.int m,.tup<|.str R::ds']else(if w4 M 28 (.str z) (.str c)=a9 then(if w4 M 28 (.int k) (.int I)=a9 then a9 else a9)else a9))else a9)=a9;rw[gZ];by_cases o:t=t'
   ·rw[r o]
    repeat' split
    all_goals first|rfl|contradiction
   rw[beq_eq_false_iff_ne.mpr o];rfl
 obtain⟨t,z,k,n,x,ds,rfl,_⟩:=G.deed a f;exact⟨_,_,rfl⟩
 ·have v:∀{t t':Int}{z c:c5}{k I:Int},E2 M x5 (.tup [.int t,.tup [.str z,.int k]]) (.tup [.int t',.tup [.str c,.int I]])=decide (D8 x5 (.tup [.int t,.tup [.str z,.int k]])<D8 x5 (.tup [.int t',.tup [.str c,.int I]])):=λ{t t' z c k I}=>by
   refine md rfl rfl ?_;show (if w4 M 29 (.int t) (.int t')=a9 then(if w4 M 29 (.tup [.str z,.int k]) (.tup [.str c,.int I])=a9 then a9 else(if w4 M 28 (.str z) (.str c)=a9 then(if w4 M 28 (.int k) (.int I)=a9 then a9 else a9)else a9))else a9)=a9
   repeat' split
   all_goals rfl
  by_cases e:a=b;subst e;obtain⟨t,z,k,n,x,ds,e,_⟩:=G.deed a f;have:=s e (G.deed a f).pl;rw[dF_<|NG _,e];exact sk this;obtain⟨t,z,k,n,x,ds,rfl,_⟩:=G.deed a f;obtain⟨t',c,I,m,R,ds',rfl,_⟩:=G.deed b j;have r:=i f j e;refine Eq.trans ?_ v;show (if w4 M 29 (.int t) (.int t')=a9 then(if w4 M 29 (.tup [.str z,.int k]) (.tup [.str c,.int I])=a9 then pU (w4 M 29) (E2 M 29) [.int n,.tup<|.str x::ds] [.int m,.tup<|.str R::ds']else E2 M 29 (.tup [.str z,.int k]) (.tup [.str c,.int I]))else E2 M 29 (.int t) (.int t'))=(if w4 M 29 (.int t) (.int t')=a9 then(if w4 M 29 (.tup [.str z,.int k]) (.tup [.str c,.int I])=a9 then bt else E2 M 29 (.tup [.str z,.int k]) (.tup [.str c,.int I]))else E2 M 29 (.int t) (.int t'))
  rw[gZ];by_cases o:t=t';rw[r o];rfl;rw[beq_eq_false_iff_ne.mpr o];rfl
def wD:B5:=λds M R=>∃(ps:List (c5×Int)) (a:List (c5×List c5)) (p q:Nat) (ns:List Int) (hs:List D),ds=[aC ps a,.ref p,.ref q]/\HouseF ps a/\ak M p (ns.map .int)/\ns.length<=40/\ak M q hs/\(∀x∈hs,x∈bb ps)/\1<=hs.length/\hs.length<=12/\∀log:List D,(∀d∈log,aR ps a d)->(∀d∈log,mJ d<=200)->log.length<=40->R (.tup log) M
theorem FP:dz wD Fv:=by rintro ds M R ⟨ps,a,p,q,ns,hs,rfl,_⟩;rfl
structure Lx(M B:v8)(deeds sts:List D)(cnt las:List (D×D)):Prop where
 pre:M <+: B
 deeds:B[M.length]?=a7 (.lst deeds)
 sts:B[M.length+1]?=a7 (.lst sts)
 cnt:B[M.length+2]?=a7 (.dkt cnt)
 las:B[M.length+3]?=a7 (.dkt las)
section
variable{M B:v8}{deeds sts:List D}{cnt las:List (D×D)}
theorem Lx.more{L:v8}(g:Lx M B deeds sts cnt las):Lx M (B++L) deeds sts cnt las:=⟨g.pre.trans<|LM _ _,bA (LM _ _) g.deeds,bA (LM _ _) g.sts,bA (LM _ _) g.cnt,bA (LM _ _) g.las⟩
theorem Lx.setDeeds(g:Lx M B deeds sts cnt las):Lx M (B.set M.length<|.lst deeds') deeds' sts cnt las:=⟨ci g.pre<|x9 _,cZ g.deeds,bc (by lia) g.sts,bc (by lia) g.cnt,bc (by lia) g.las⟩
theorem Lx.setSts(g:Lx M B deeds sts cnt las):Lx M (B.set (M.length+1)<|.lst sts') deeds sts' cnt las:=⟨ci g.pre (by lia),bc (by lia) g.deeds,cZ g.sts,bc (by lia) g.cnt,bc (by lia) g.las⟩
theorem Lx.setCnt(g:Lx M B deeds sts cnt las):Lx M (B.set (M.length+2)<|.dkt cnt') deeds sts cnt' las:=⟨ci g.pre (by lia),bc (by lia) g.deeds,bc (by lia) g.sts,cZ g.cnt,bc (by lia) g.las⟩
theorem Lx.setLas(g:Lx M B deeds sts cnt las):Lx M (B.set (M.length+3)<|.dkt las') deeds sts cnt las':=⟨ci g.pre (by lia),bc (by lia) g.deeds,bc (by lia) g.sts,bc (by lia) g.cnt,cZ g.las⟩
end
def vC:v7:=bp<|w6 eV<|aa (w6 gQ<|aa (ac 3) ag) ag
def vD:v7:=C9 (ax<|u9 D3 (u9 w9 (ac 11)<|dC<|.int 0)<|dC<|.str "say") (iM<|Ms bQ (ac 4)<|aa (cQ<|aa (ac 10)<|aa (ac 7) ag) ag) aP
def vF:v7:=aB (bd (w6 zd<|aa (ac 8)<|aa (ac 10) ag) 8)<|vD
def vG:v7:=aB (jq (ac 6) (ac 7)<|ac 10)<|vF
def vH:v7:=aB (jq (ac 5) (ac 7)<|u9 aK (dO (ac 5)<|ac 7)<|dC<|.int 1)<|vG
def vI:v7:=aB (iM<|Ms bQ (ac 3)<|aa (cQ<|aa (ac 10)<|aa (ac 7)<|aa (dO (ac 5)<|ac 7)<|aa (ac 11) ag) ag)<|vH
def vJ:v7:=aB (bd (w6 wF<|aa (u9 aN (ac 9)<|dC<|.int 20)<|aa (ac 0)<|aa (ac 4)<|aa (ac 2)<|aa (ac 5) ag) 11)<|vI
def yn:v7:=aB (bd (u9 aK (u9 w9 (gM<|aa (ac 8)<|aa (dO (ac 6)<|ac 7)<|aa (u9 aK (dO (ac 6)<|ac 7)<|u9 bY (u9 aN (ac 9)<|dC<|.int 4)<|dC<|.int 5)<|aa (ac 8) ag)<|u9 bY (ac 9)<|dC<|.int 4)<|dC<|.int 1) 10)<|vJ
def tO:v7:=aB (bd (u9 aN (ac 9)<|dC<|.int 12) 9)<|yn
def yo:v7:=aB (jP (cJ<|ac 1) (af 9)<|aB (bd (u9 w9 (ac 2)<|u9 bY (ac 9)<|w6 jV<|aa (ac 2) ag) 7)<|tO)<|vC
def yp:v7:=aB (bd (dC<|.int 0) 8)<|yo
def yq:v7:=jq (ac 6) (ac 7)<|dC<|.int 0
def yr:v7:=aB (jP (cJ<|ac 2) (af 7)<|aB (jq (ac 5) (ac 7)<|dC<|.int 0)<|yq)<|yp
def yt:v7:=aB (bd (mV) 6)<|yr
def yu:v7:=aB (bd (mV) 5)<|yt
def yw:v7:=aB (bd (gM ag) 4)<|yu
def HR:v7:=aB (bd (gM ag) 3)<|yw
theorem CF{M B:v8}{E:DEnds}{s f hs:List D}{e l:List (D×D)}{r num:Int}{ps:List (c5×Int)}{rs:List (c5×List c5)}{p q:Nat}{y7 K N:Option D}{n:Nat}(g:Lx M B s f e l)(G:GenH ps rs hs s e l r)(hf:HouseF ps rs)(S:ak M q hs)(h:∀x∈hs,x∈bb ps)(h1:1<=hs.length)(hl:hs.length<=12)(J:Oe f)(sl:f.length<=n)(dl:s.length<=n)(cl:e.length<=12+n)(ll:l.length<=12+n)(ab:n<40)(gn:r<=5*(n:Int))(P:∀deeds' sts' cnt' las' gr' B' a b c d,Lx M B' deeds' sts' cnt' las'->GenH ps rs hs deeds' cnt' las' gr'->gr'<=5*((n:Int)+1)->Oe sts'->sts'.length<=n+1->deeds'.length<=n+1->cnt'.length<=12+(n+1)->las'.length<=12+(n+1)->E.nx [a7<|aC ps rs,a7<|.ref p,a7<|.ref q,a7<|.ref M.length,a7<|.ref<|M.length+1,a7<|.ref<|M.length+2,a7<|.ref<|M.length+3,a,a7<|.int gr',b,c,d] B'):(aB (bd (u9 w9 (ac 2)<|u9 bY (ac 9)<|w6 jV<|aa (ac 2) ag) 7)<|tO) E [a7<|aC ps rs,a7<|.ref p,a7<|.ref q,a7<|.ref M.length,a7<|.ref<|M.length+1,a7<|.ref<|M.length+2,a7<|.ref<|M.length+3,y7,a7<|.int r,a7<|.int num,K,N] B:=by
 have A:=bT g.pre S;have R:∀x∈hs,Hd x:=λx hx=>pq x<|h x hx;obtain⟨d,F,ed⟩:=gP (xs:=hs) (i:=num) h1;obtain⟨z,k,rfl⟩:=R d F;obtain⟨t,I,⟨_,V⟩,_⟩:=G.last _ F;walk_at"dl";refine⟨_,A,by lia,_,A,?_⟩;rw[ed];simp only[tO,yn];walk_at"dl";refine⟨⟨by decide,by decide⟩,l,_,g.las,rfl,I,l,_,g.las,rfl,I,⟨by decide,by decide⟩,by decide,ah (by lia),by decide,_,am,?_⟩;generalize num / 12=c;have v0:=bR (a:=c) (b:=4) (by decide);have v1:=cb (a:=c) (b:=4) (by decide);have w0:=bR (a:=c / 4) (b:=5) (by decide);have w1:=cb (a:=c / 4) (b:=5) (by decide);obtain⟨u,eu,tu,ug⟩:∃u:Int,atI [D.int r,D.int t,D.int<|t+c / 4 % 5,D.int r] (c % 4)=a7 (.int u)/\t<=u/\u<=r+4:=by
  generalize c / 4 % 5=w at w0 w1;generalize c % 4=v at v0 v1;have:v=0\/v=1\/v=2\/v=3:=by lia
  rcases this with rfl|rfl|rfl|rfl;exact⟨_,ar (j:=0) rfl,V,by lia⟩;exact⟨_,ar (j:=1) rfl,Int.le_refl _,by lia⟩;exact⟨_,ar (j:=2) rfl,by lia,by lia⟩;exact⟨_,ar (j:=3) rfl,V,by lia⟩
 rw[eu];walk_at"dl";have g1:=g.more (L:=[MO.lst [D.int r,D.int t,D.int<|t+c / 4 % 5,D.int r]]);generalize B++[MO.lst [D.int r,D.int t,D.int<|t+c / 4 % 5,D.int r]]=W at g1;have U:t<u+1:=by lia
 have Z:u+1<=r+5:=by lia
 generalize u+1=T at U Z;obtain⟨i,hi⟩:=G.cnt _ F;simp only[vJ];walk_at"dl";refine⟨⟨by decide,by decide⟩,_,ps,rs,M.length+1,q,M.length+2,f,hs,e,rfl,hf,.inl g1.sts,J,by lia,bT g1.pre S,R,h1,by lia,g1.cnt,G.cnt,λx ds pl H=>?_⟩;simp only[vI];walk_at"dl";refine⟨⟨_,.inl g1.deeds⟩,e,_,g1.cnt,rfl,hi,ah (by lia),_,g1.deeds,aw (by lia),?_⟩;have C:=g1.setDeeds (deeds':=s++[.tup [.int T,.tup [.str z,.int k],.int i,.tup<|.str x::ds]]);generalize W.set M.length _=X at C;simp only[vH];walk_at"dl";refine⟨e,_,C.cnt,rfl,hi,?_⟩;walk_at"dl";refine⟨e,C.cnt,rfl,aw (by lia),?_⟩;have g3:=C.setCnt (cnt':=fR e (.tup [.str z,.int k])<|.int<|i+1);generalize X.set (M.length+2) _=Y at g3;simp only[vG];walk_at"dl";refine⟨l,g3.las,rfl,aw (by lia),?_⟩;have m:=g3.setLas (las':=fR l (.tup [.str z,.int k])<|.int T);generalize Y.set (M.length+3) _=B4 at m;have O:=G.step (num:=i) (i:=i+1) F I U pl H h;have o:(if T > r then T else r)<=5*((n:Int)+1):=by split<;>lia
 have l1:=fQ (kvs:=e) (k:=.tup [.str z,.int k]) (d:=.int<|i+1);have l2:=fQ (kvs:=l) (k:=.tup [.str z,.int k]) (d:=.int T);simp only[vF];walk_at"dl";simp only[vD];walk_at"dl";refine⟨⟨aq,aq⟩,?_⟩;split;refine⟨⟨_,.inl m.sts⟩,ah (by lia),f,m.sts,aw (by lia),P _ _ _ _ _ _ _ _ _ _ m.setSts O o (λy Q=>?_) (by rw[E3,LD];lia) (by rw[E3,LD];lia) (by lia)<|by lia⟩;rcases J0.mp Q with Q|Q;exact J y Q;exact⟨T,z,k,LL.mp Q⟩;exact P _ _ _ _ _ _ _ _ _ _ m O o J (by lia) (by rw[E3,LD];lia) (by lia)<|by lia
theorem Hz:D9 wD 12 HR:=by
 rintro ds M R ⟨ps,A,p,q,ns,hs,rfl,X,hp,nl,v,n,h1,Z,h⟩;have Y:∀x∈hs,Hd x:=λx f=>pq x<|n x f;simp only[HR,yw,yu,yt];walk_at"dl";refine⟨D6 _,D6 _,?_⟩;have J:(M++[MO.lst []]).length=M.length+1:=by simp
 have L:(M++[MO.lst []]++[MO.lst []]).length=M.length+2:=by simp
 have N:(M++[MO.lst []]++[MO.lst []]++[MO.dkt []]).length=M.length+3:=by simp
 rw[J,L,N];have B:Lx M (M++[MO.lst []]++[MO.lst []]++[MO.dkt []]++[MO.dkt []]) [] [] [] []:=by refine⟨((bD.trans bD).trans bD).trans bD,ae<|ae<|ae ao,?_,?_,?_⟩;rw[<-J];exact ae<|ae ao;rw[<-L];exact ae ao;rw[<-N];exact ao
 generalize M++[MO.lst []]++[MO.lst []]++[MO.dkt []]++[MO.dkt []]=B0 at B;simp only[yr];walk_at"dl";refine⟨_,bT B.pre v,λ_=>?_⟩;refine aT (λi S M'=>∃(t l:List (D×D)) (a:Option D),Lx M M' [] [] t l/\(∀x∈hs.take i,aI t x=a7 (.int 0)/\aI l x=a7 (.int 0))/\t.length<=i/\l.length<=i/\S=[a7<|aC ps A,a7<|.ref p,a7<|.ref q,a7<|.ref M.length,a7<|.ref<|M.length+1,a7<|.ref<|M.length+2,a7<|.ref<|M.length+3,a,a8,a8,a8,a8]) ?_ ?_ ⟨[],[],_,B,(λ_ z=>nomatch z),x9 _,x9 _,rfl⟩;rintro S M' ⟨t,l,a,g,o,u,w,rfl⟩;rw[Mx]at o;refine⟨bT g.pre v,?_⟩;simp only[yp,yo];walk_at"dl";refine⟨_,bT g.pre hp,λ_=>?_⟩;refine aT (λi S M'=>∃(s j:List D) (t l:List (D×D)) (r:Int) (a b c d:Option D),Lx M M' s j t l/\GenH ps A hs s t l r/\r<=5*(i:Int)/\Oe j/\j.length<=i/\s.length<=i/\t.length<=12+i/\l.length<=12+i/\S=[a7<|aC ps A,a7<|.ref p,a7<|.ref q,a7<|.ref M.length,a7<|.ref<|M.length+1,a7<|.ref<|M.length+2,a7<|.ref<|M.length+3,a,a7<|.int r,b,c,d]) ?_ ?_ ⟨[],[],t,l,0,_,_,_,_,g,⟨(λ_ z=>nomatch z),.nil,λx f=>⟨0,(o x f).2,⟨Int.le_refl _,Int.le_refl _⟩,(λ_ z=>nomatch z)⟩,λx f=>⟨0,(o x f).1⟩,(λ_ z=>nomatch z)⟩,by lia,(λ_ z=>nomatch z),x9 _,x9 _,by lia,by lia,rfl⟩;rintro S M' ⟨s,j,t,l,r,a,b,c,d,g,G,E,T,P,V,u,w,rfl⟩;rw[x6]at V E;refine⟨bT g.pre hp,?_⟩;simp only[vC];walk_at"dl";refine⟨s,.inl g.deeds,AO G (by lia),λys Q _=>⟨ys,am,?_⟩⟩;have O:∀d∈ys,aR ps A d:=λd m=>G.deed d<|Q.mem_iff.mp m;exact aV.keep (h ys O (λd m=>Int.le_trans (G.le d<|Q.mem_iff.mp m)<|by lia)<|by rw[Q.length_eq];lia) (.tup<|aR.bels O)<|g.pre.trans bD;rintro i y S M' Q ⟨s,j,t,l,r,a,b,c,d,g,G,E,T,P,V,u,w,rfl⟩ K H;refine⟨bT g.pre hp,?_⟩;rw[E1]at Q;obtain⟨ab,hn,rfl⟩:=MT.mp Q;have hi:=(B6.mp hn).1;simp only[af,List.set_cons_zero,List.set_cons_succ];exact CF g G X v n h1 Z T P V u w (by lia) E λdeeds' sts' cnt' las' gr' B' a b c d W U F I s1 s2 s3 s4=>C6.now<|H _ _ ⟨deeds',sts',cnt',las',gr',_,_,_,_,W,U,F,I,s1,s2,s3,s4,rfl⟩;rintro i y S M' Q ⟨t,l,a,g,o,u,w,rfl⟩ K H;have hi:=(B6.mp Q).1;refine⟨bT g.pre v,?_⟩;obtain⟨z,k,rfl⟩:=Y y<|K7 Q;simp only[yq];walk_at"dl";refine⟨t,g.cnt,rfl,aw (by lia),?_⟩;have C:=g.setCnt (cnt':=fR t (.tup [.str z,.int k])<|.int 0);have l1:=fQ (kvs:=t) (k:=.tup [.str z,.int k]) (d:=.int 0);have l2:=fQ (kvs:=l) (k:=.tup [.str z,.int k]) (d:=.int 0);generalize M'.set (M.length+2) _=B2 at C;refine⟨l,C.las,rfl,aw (by lia),C6.now<|H _ _ ⟨_,_,_,C.setLas,λx f=>?_,by lia,by lia,rfl⟩⟩;rw[MD,Q]at f;by_cases e:x=.tup [.str z,.int k];subst e;exact⟨iI,iI⟩;rw[fH e,fH e];rcases J0.mp f with f|f;exact o x f;exact t8 (by simpa using f) e
theorem Jb(T:Tops P w K mg base):z9 P w K mg base 4 "_law_log" Fv wD:=z9.byD (N:=["_law_house_here","_law_numbers_here","_law_hands_here","_law_log_here","_law_says","_law_counts","_law_last","_law_hand","_law_greatest","_law_number","_law_time","_law_act_here"]) T.b T.f_log (by walk_at"sc") FP (by have:=Jd T;walk_at"dv") Hz
noncomputable def xB(e:D):D:=.tup [.str<|cw e,xY e,.str<|gh e,Il e,numO e]
noncomputable def sD(kvs:List (D×D)):List (D×D):=kvs.map λp=>(p.1,xB p.2)
def eS:B5:=λds M R=>∃(ps:List (c5×Int)) (a:List (c5×List c5)) (log:List D),ds=[aC ps a,.tup log]/\HouseF ps a/\(∀d∈log,aR ps a d)/\log.length<=1000/\∀n B,M <+: B->B[n]?=a7 (.dkt<|sD<|bf a log)->R (.ref n) B
theorem sB:dz eS jd:=by rintro ds M R ⟨ps,a,log,rfl,_⟩;rfl
theorem eH:aI (sD kvs) k=(aI kvs k).map xB:=by unfold aI sD;rw[Po,Option.map_map,Option.map_map];rfl
theorem wf:fR (sD kvs) k (xB d)=sD (fR kvs k d):=by
 unfold fR;rw[eH,Qt];split;unfold sD;rw[K2,K2];refine PL λp _=>?_;show (if p.1=k then(p.1,xB d)else(p.1,xB p.2))=((if p.1=k then(p.1,d)else p).1,xB (if p.1=k then(p.1,d)else p).2)
 split<;>rfl;unfold sD;rw[L6];rfl
theorem ko:(sD kvs).length=kvs.length:=by unfold sD;rw[x6]
theorem uR:bf rs (log++[d])=if bZ d=v6 "say" then tW rs (bf rs log) d else bf rs log:=by unfold bf;rw[fU];split;rw[hZ];rw[LS]
noncomputable def iW(r:c5×List c5):c5×D:=(r.1,.tup<|r.2.map .str)
theorem Dy(ps:List (c5×D))(h:(ps.map (·.1)).Nodup):hV ps=ps:=by revert h;refine cI (P:=λps=>(ps.map (·.1)).Nodup->hV ps=ps) (λ_=>rfl) (λps p i h=>?_) ps;rw[L6]at h;have h':=List.nodup_append.mp h;rw[nZ,i h'.1,vV];intro z;exact h'.2.2 _ z _ (by simp) rfl
theorem nQ{rs:List (c5×List c5)}(h:(rs.map (·.1)).Nodup):hV (rs.map iW)=rs.map iW:=Dy _<|by rw[K2];exact h
theorem iw:∀{rs:List (c5×List c5)},r∈rs.map (·.1)->dD (rs.map iW) r=a7 (.tup<|(iS rs r).map .str)
 |p::rs,h=>by rw[rT];unfold dD;rw[D7,Md];by_cases e:p.1=r;rw[t6 e,show decide ((iW p).1=r)=a9 from dT_ e];rfl;rw[t7 e,show decide ((iW p).1=r)=bt from dF_ e];rw[D7,A9]at h;exact iw<|h.resolve_left<|A7 e
theorem rE{rs:List (c5×List c5)}:rs.map lD=(rs.map iW).map λp=>.tup [.str p.1,p.2]:=by rw[K2];rfl
theorem pO{a b:c5}:(a==b)=decide (a=b):=by by_cases e:a=b;rw[dT_ e];exact beq_iff_eq.mpr e;rw[dF_ e];exact beq_eq_false_iff_ne.mpr e
def jD:v7:=bp<|ac 3
def jE:v7:=aB (jP (cJ<|ac 1) (dL 4<|aA (af 4)<|aA (af 5)<|aA (af 6)<|aA (af 7) dN)<|C9 (pK (ax<|u9 D3 (u9 w9 (ac 7)<|dC<|.int 0)<|dC<|.str "say")<|ax<|u9 Ox (u9 w9 (ac 5)<|dC<|.int 0)<|xO (ac 2)<|u9 w9 (ac 7)<|dC<|.int 1) (C9 (NS (ax<|u9 NA (u9 w9 (ac 7)<|dC<|.int 2)<|dC .non)<|pK (ax<|u9 Bu (u9 w9 (ac 7)<|dC<|.int 2)<|ac 3)<|ax<|u9 D3 (u9 w9 (dO (ac 3)<|u9 w9 (ac 7)<|dC<|.int 2)<|dC<|.int 0)<|u9 w9 (ac 7)<|dC<|.int 1) (jq (ac 3) (cQ<|aa (ac 4)<|aa (ac 5) ag)<|cQ<|aa (u9 w9 (ac 7)<|dC<|.int 1)<|aa (u9 w9 (ac 7)<|dC<|.int 2)<|aa (u9 w9 (ac 5)<|dC<|.int 0)<|aa (u9 w9 (ac 7)<|dC<|.int 3)<|aa (ac 6) ag) aP) aP)<|jD
def jF:v7:=aB (bd (mV) 3)<|jE
def nL:v7:=aB (bd (w6 rK<|aa (u9 w9 (ac 0)<|dC<|.int 1) ag) 2)<|jF
theorem DQ{B:v8}{E:DEnds}{ps:List (c5×Int)}{rs:List (c5×List c5)}{d:D}{kvs:List (D×D)}{C:Option D}{H J K L:Option D}{q n:Nat}(M:HouseF ps rs)(dd:aR ps rs d)(N:∀p∈kvs,aR ps rs p.2/\bZ p.2=v6 "say")(O:kvs.length<1000)(w:B[q]?=a7 (.dct<|rs.map iW))(i:B[n]?=a7 (.dkt<|sD kvs))(h:∀a b c d' B',B'=B.set n (.dkt<|sD<|if bZ d=v6 "say" then tW rs kvs d else kvs)->E.nx [a7<|aC ps rs,C,a7<|.ref q,a7<|.ref n,a,b,c,d'] B'):(dL 4<|aA (af 4)<|aA (af 5)<|aA (af 6)<|aA (af 7) dN) d [a7<|aC ps rs,C,a7<|.ref q,a7<|.ref n,H,J,K,L] B λS2 M2=>(C9 (pK (ax<|u9 D3 (u9 w9 (ac 7)<|dC<|.int 0)<|dC<|.str "say")<|ax<|u9 Ox (u9 w9 (ac 5)<|dC<|.int 0)<|xO (ac 2)<|u9 w9 (ac 7)<|dC<|.int 1) (C9 (NS (ax<|u9 NA (u9 w9 (ac 7)<|dC<|.int 2)<|dC .non)<|pK (ax<|u9 Bu (u9 w9 (ac 7)<|dC<|.int 2)<|ac 3)<|ax<|u9 D3 (u9 w9 (dO (ac 3)<|u9 w9 (ac 7)<|dC<|.int 2)<|dC<|.int 0)<|u9 w9 (ac 7)<|dC<|.int 1) (jq (ac 3) (cQ<|aa (ac 4)<|aa (ac 5) ag)<|cQ<|aa (u9 w9 (ac 7)<|dC<|.int 1)<|aa (u9 w9 (ac 7)<|dC<|.int 2)<|aa (u9 w9 (ac 5)<|dC<|.int 0)<|aa (u9 w9 (ac 7)<|dC<|.int 3)<|aa (ac 6) ag) aP) aP) E S2 M2:=by
 have g:B.set n (.dkt<|sD kvs)=B:=by refine List.ext_getElem? λj=>?_;by_cases e:n=j;subst e;rw[L7<|aE i,i];rw[LU e]
 by_cases o:bZ d=v6 "say";rw[t6 o]at h;obtain⟨t,z,k,l,r,u,s,rfl,_,_,y,F⟩:=jJ dd o;have f:qZ rs kvs (.tup [.int t,.tup [.str z,.int k],.int l,.tup [.str<|v6 "say",.str r,u,.str s]])=(decide (z∈iS rs r)&&(decide (u=.non)||match aI kvs u with
  |some e=>decide<|cw e=r
  |none=>bt)):=rfl
 have Q:∀a b c:D,atI [a,b,c,.str s] 3=a7 (.str s):=λa b c=>ar (j:=3) rfl;have A:(v6 "say" == v6 "say")=a9:=u7 _;unfold tW at h;rcases F with rfl|⟨t',G,I,rfl⟩
 rw[dT_ rfl,Bool.true_or,Bool.and_true]at f;rw[f]at h;walk_at"dl";refine⟨trivial,⟨aq,aq⟩,?_⟩;rw[aO,A];refine bL ⟨_,_,w,iw y,⟨aq,lA⟩,?_⟩;rw[mn];by_cases m:z∈iS rs r;rw[dT_ m]at h ⊢;rw[t6 rfl]at h;refine bL ?_;simp only[Q];refine⟨ah (by lia),ah (by lia),_,i,rfl,aw (by rw[ko];lia),h _ _ _ _ _ ?_⟩;rw[<-wf];rfl;rw[dF_ m]at h ⊢;rw[t7<|by decide]at h;exact bN<|h _ _ _ _ _ g.symm;rw[dF_ (p:=D.tup [.int t',.tup [.str G,.int I]]=.non) (by intro e;cases e),Bool.false_or]at f;walk_at"dl";refine⟨trivial,⟨aq,aq⟩,?_⟩;rw[aO,A];refine bL ⟨_,_,w,iw y,⟨aq,lA⟩,?_⟩;rw[mn];by_cases m:z∈iS rs r;rw[dT_ m,Bool.true_and]at f;rw[dT_ m];refine bL ⟨_,i,rfl,?_⟩;rw[eH];cases R:aI kvs (.tup [.int t',.tup [.str G,.int I]]) with
 |none=>rw[R]at f;dsimp only at f;rw[f,t7<|by decide]at h;exact bN<|h _ _ _ _ _ g.symm
 |some e=>rw[R]at f;dsimp only at f;refine bL ⟨_,xB e,i,rfl,by rw[eH,R];rfl,?_⟩;unfold xB;walk_at"dl";refine⟨⟨aq,aq⟩,?_⟩;rw[aO,pO];by_cases v:cw e=r;rw[dT_ v]at f ⊢;rw[f,t6 rfl]at h;refine bL ?_;simp only[Q];refine⟨ah (by lia),ah (by lia),_,i,rfl,aw (by rw[ko];lia),h _ _ _ _ _ ?_⟩;rw[<-wf];rfl;rw[dF_ v]at f ⊢;rw[f,t7<|by decide]at h;exact bN<|h _ _ _ _ _ g.symm
 rw[dF_ m,Ps]at f;rw[dF_ m];rw[f,t7<|by decide]at h;exact bN<|h _ _ _ _ _ g.symm;rw[t7 o]at h;obtain⟨t,z,k,l,x,ds,rfl,_⟩:=dd;walk_at"dl";refine⟨trivial,⟨aq,aq⟩,?_⟩;rw[aO,show (x==v6 "say")=bt from beq_eq_false_iff_ne.mpr o];refine bN ?_;exact h _ _ _ _ _ g.symm
theorem tL:D9 eS 8 nL:=by
 rintro ds M R ⟨ps,rs,log,rfl,f,g,r,h⟩;simp only[nL,aC];walk_at"dl";refine⟨rs.map iW,rE,by rw[x6];have:=f.rl.2;lia,?_⟩;rw[nQ f.rnd];simp only[jF,jE];walk_at"dl";intro _;have l:(M++[MO.dct<|rs.map iW]).length=M.length+1:=by simp
 refine aT (λi S M'=>∃a b c d,M'=M++[.dct<|rs.map iW,.dkt<|sD<|bf rs<|log.take i]/\S=[a7<|aC ps rs,a7<|.tup log,a7<|.ref M.length,a7<|.ref<|M.length+1,a,b,c,d]) ?_ ?_ ⟨_,_,_,_,by simp[sD,bf,kinds,dP],by rw[l];rfl⟩;rintro S M' ⟨a,b,c,d,rfl,rfl⟩;rw[Mx];refine⟨trivial,?_⟩;simp only[jD];walk_at"dl";exact .inl<|h _ _ (LM _ _) dn;rintro i y S M' Q ⟨a,b,c,d,rfl,rfl⟩ G e;have n:=K7 Q;have m:log.take (i+1)=log.take i++[y]:=by rw[MD,Q];rfl
 rw[m,uR]at e;have t:=bn (rs:=rs) (log:=log.take i);have j:∀d∈log.take i,aR ps rs d:=λd q=>g d<|Rw q;have v:=kh j (λ_ q=>q) t;have p:=t.len;have o:=bj (log:=log.take i) (k:=v6 "say");rw[LC]at o;have hi:=(B6.mp Q).1;generalize bf rs (log.take i)=kvs at e v p;refine⟨trivial,?_⟩;refine DQ f (g y n) v (by lia) bo dn ?_;rintro a b c d B' rfl;refine C6.now<|e _ _ ⟨a,b,c,d,?_,rfl⟩;rw[QJ _ _ (by lia),show M.length+1-M.length=1 by lia];rfl
theorem ul(T:Tops P w K mg base):z9 P w K mg base 1 "_law_counting" jd eS:=z9.byD (N:=["_law_house_here","_law_log_here","_law_members","_law_found","_law_time","_law_hand","_law_number","_law_act_here"]) T.b T.f_counting (by walk_at"sc") sB (by walk_at"dv") tL
def K8(C:List (D×D))(B:v8)(n:Nat)(p:D×D):Prop:=∃e m xs,p.2=.ref m/\n<m/\aI C p.1=a7 e/\B[m]?=a7 (.lst<|.str (cw e)::xs)/\xs.length=3
def kz:B5:=λds M R=>∃(ps:List (c5×Int)) (a:List (c5×List c5)) (log:List D),ds=[aC ps a,.tup log]/\HouseF ps a/\(∀d∈log,aR ps a d)/\log.length<=1000/\∀n B kvs,M <+: B->pW B n kvs->(∀p∈kvs,K8 (bf a log) B n p/\¬br (bf a log) log p.1)->(kvs.map (·.1)).Nodup->kvs.length<=log.length->(∀k e,aI (bf a log) k=a7 e->¬br (bf a log) log k->∃d,aI kvs k=a7 d)->R (.ref n) B
theorem zN:dz kz ub:=by rintro ds M R ⟨ps,a,log,rfl,_⟩;rfl
theorem DF:aI (GW kvs k) j=if j=k then a8 else aI kvs j:=by unfold aI GW;rw[List.find?_filter];split;rename_i e;subst e;rw[Option.map_eq_none_iff,OR];intro p _;by_cases e:p.1=j<;>simp[e];rename_i h;congr 1;congr 1;funext p;by_cases e:p.1=j;have:¬p.1=k:=λz=>h<|e.symm.trans z;simp[e,h];simp[e]
theorem Bg(R:aI C m=a7 e):LQ C (.tup [.int t,.tup [.str z,.int k],.int num,.tup<|x::m::l])=decide (z=gh e):=by
 show (match aI C m with
  |some e=>decide<|z=gh e
  |none=>bt)=_
 rw[R]
theorem DY(R:aI C m=a8):LQ C (.tup [.int t,.tup [.str z,.int k],.int num,.tup<|x::m::l])=bt:=by
 show (match aI C m with
  |some e=>decide<|z=gh e
  |none=>bt)=_
 rw[R]
theorem cu:br C (log++[d]) k↔br C log k\/(bZ d=v6 "back"/\LQ C d=a9/\xo d=k):=by
 unfold br;rw[fU];constructor;rintro⟨x,h,h1,h2⟩;rcases J0.mp h with h|h;exact .inl ⟨x,h,h1,h2⟩;split at h;rename_i a;obtain rfl:x=d:=by simpa using h
 exact .inr ⟨a,h1,h2⟩;cases h;rintro(⟨x,h,h1,h2⟩|⟨a,h1,h2⟩);exact⟨x,NM _ h,h1,h2⟩;exact⟨d,LP _ (by rw[t6 a];simp),h1,h2⟩
theorem K8.more(h:K8 C B n p):K8 C (B++[x]) n p:=by obtain⟨e,m,xs,h1,h2,a,d,k⟩:=h;exact⟨e,m,xs,h1,h2,a,ae d,k⟩
theorem K8.setN(h:K8 C B n p):K8 C (B.set n x) n p:=by obtain⟨e,m,xs,h1,h2,a,d,k⟩:=h;exact⟨e,m,xs,h1,h2,a,bc (by lia) d,k⟩
theorem K8.setM(h:K8 C B n p)(g:B[m']?=a7 (.lst<|r::xs))(l:ys.length=3):K8 C (B.set m'<|.lst<|r::ys) n p:=by
 obtain⟨e,m,s,h1,h2,a,d,k⟩:=h;by_cases q:m=m';subst q;rw[d]at g;have:r=.str (cw e):=by simp at g;exact g.1.symm
 subst this;exact⟨e,m,ys,h1,h2,a,cZ d,l⟩;exact⟨e,m,s,h1,h2,a,bc q d,k⟩
def qm:v7:=bp<|ac 3
def kI:v7:=aB (jP (cJ<|ac 1) (dL 4<|aA (af 6)<|aA (af 7)<|aA (af 8)<|aA (af 9) dN)<|C9 (pK (ax<|u9 D3 (u9 w9 (ac 9)<|dC<|.int 0)<|dC<|.str "back")<|pK (ax<|u9 Bu (u9 w9 (ac 9)<|dC<|.int 1)<|ac 2)<|ax<|u9 D3 (u9 w9 (dO (ac 2)<|u9 w9 (ac 9)<|dC<|.int 1)<|dC<|.int 2)<|u9 w9 (ac 7)<|dC<|.int 0) (iM<|Rb Cb (ac 3)<|aa (u9 w9 (ac 9)<|dC<|.int 1)<|aa (dC .non) ag) aP)<|qm
def kJ:v7:=aB (jP (cJ<|ac 1) (dL 4<|aA (af 6)<|aA (af 7)<|aA (af 8)<|aA (af 9) dN)<|C9 (pK (ax<|u9 D3 (u9 w9 (ac 9)<|dC<|.int 0)<|dC<|.str "change")<|pK (ax<|u9 Bu (u9 w9 (ac 9)<|dC<|.int 1)<|ac 2)<|ax<|u9 D3 (u9 w9 (dO (ac 2)<|u9 w9 (ac 9)<|dC<|.int 1)<|dC<|.int 2)<|u9 w9 (ac 7)<|dC<|.int 0) (Ld (u9 w9 (ac 9)<|dC<|.int 2)<|AL (dO (ac 3)<|u9 w9 (ac 9)<|dC<|.int 1)<|dC<|.int 2) aP)<|kI
def qo:v7:=aB (jP (my<|ac 2) (dL 2<|aA (af 4)<|aA (af 5) dN)<|jq (ac 3) (ac 4)<|gM<|aa (u9 w9 (ac 5)<|dC<|.int 0)<|aa (u9 w9 (ac 5)<|dC<|.int 2)<|aa (u9 w9 (ac 5)<|dC<|.int 3)<|aa (u9 w9 (ac 5)<|dC<|.int 4) ag)<|kJ
def qp:v7:=aB (bd (mV) 3)<|qo
def yj:v7:=aB (bd (w6 eS<|aa (ac 0)<|aa (ac 1) ag) 2)<|qp
section
variable{M B:v8}{R:DK}{ps:List (c5×Int)}{rs:List (c5×List c5)}{log:List D}{C kvs:List (D×D)}{c:Nat}
theorem EV(V:∀d∈log,aR ps rs d)(hl:log.length<=1000)(X:M <+: B)(hB:B[c]?=a7 (.dkt<|sD C))(A:∀p∈kvs,K8 C M' B.length p)(l:∀k e,aI C k=a7 e->∃d,aI kvs k=a7 d)(j:(kvs.map (·.1)).Nodup)(v:kvs.length<=log.length)(pM:B <+: M')(f:M'[B.length]?=a7 (.dkt kvs))(h:∀n B kvs,M <+: B->pW B n kvs->(∀p∈kvs,K8 C B n p/\¬br C log p.1)->(kvs.map (·.1)).Nodup->kvs.length<=log.length->(∀k e,aI C k=a7 e->¬br C log k->∃d,aI kvs k=a7 d)->R (.ref n) B):kI (EE M R) [a7<|aC ps rs,a7<|.tup log,a7<|.ref c,a7<|.ref B.length,a,b,y6,y7,y8,y9] M':=by
 have Y:=aE hB;simp only[kI];walk_at"dl";intro _;refine aT (λi S M'=>∃(kvs:List (D×D)) (y6 y7 y8 y9:Option D),B <+: M'/\pW M' B.length kvs/\(∀p∈kvs,K8 C M' B.length p/\¬br C (log.take i) p.1)/\(kvs.map (·.1)).Nodup/\kvs.length<=log.length/\(∀k e,aI C k=a7 e->¬br C (log.take i) k->∃d,aI kvs k=a7 d)/\S=[a7<|aC ps rs,a7<|.tup log,a7<|.ref c,a7<|.ref B.length,a,b,y6,y7,y8,y9]) ?_ ?_ ⟨kvs,_,_,_,_,pM,.inl f,λp hp=>⟨A p hp,λ⟨d,z,_⟩=>nomatch z⟩,j,v,λk e g _=>l k e g,rfl⟩;rintro S M' ⟨kvs,y6,y7,y8,y9,pM,f,A,j,v,l,rfl⟩;rw[Mx]at A l;refine⟨trivial,?_⟩;simp only[qm];walk_at"dl";exact .inl<|h _ _ _ (X.trans pM) f A j v l;rintro i y S M' Q ⟨kvs,y6,y7,y8,y9,pM,f,A,j,v,l,rfl⟩ G r;have o:∀k e,aI C k=a7 e->¬br C (log.take i++[y]) k->∃d,aI kvs k=a7 d:=λk e g q=>l k e g λw=>q<|cu.mpr<|.inl w;have W:=K7 Q;have P:log.take (i+1)=log.take i++[y]:=by rw[MD,Q];rfl
 rw[P]at r;have K:=V y W;have L:=bA pM hB;refine⟨trivial,?_⟩;by_cases F:bZ y=v6 "back";obtain⟨t,z,k,J,m,rfl,hs⟩:=uT K F;obtain⟨t',s,I,rfl⟩:=hs;walk_at"dl";refine⟨trivial,⟨aq,aq⟩,?_⟩;rw[aO,show (v6 "back" == v6 "back")=a9 from u7 _];refine bL ⟨_,L,rfl,?_⟩;rw[eH];cases E:aI C (.tup [.int t',.tup [.str s,.int I]]) with
 |none =>
  refine bN<|C6.now<|r _ _ ⟨kvs,_,_,_,_,pM,f,λp hp=>⟨(A p hp).1,λw=>?_⟩,j,v,o,rfl⟩;rcases cu.mp w with w|⟨_,w,_⟩
  exact(A p hp).2 w;rw[DY E]at w;cases w
 |some e =>
  refine bL ⟨_,xB e,L,rfl,by rw[eH,E];rfl,?_⟩;unfold xB;walk_at"dl";refine⟨⟨aq,aq⟩,?_⟩;rw[aO,pO];by_cases u:gh e=z;rw[dT_ u];refine bL ⟨⟨kvs,f⟩,kvs,f,rfl,λ_=>?_⟩;have H:∀p∈GW kvs (.tup [.int t',.tup [.str s,.int I]]),p∈kvs/\p.1≠.tup [.int t',.tup [.str s,.int I]]:=λp hp=>by have:=I9.mp hp;exact⟨this.1,λe=>by simp[e]at this⟩
  have U:B.length<M'.length:=by rcases f with f|⟨_,f⟩<;>exact aE f
  refine C6.now<|r _ _ ⟨GW kvs<|.tup [.int t',.tup [.str s,.int I]],_,_,_,_,ci pM<|x9 _,.inr ⟨_,L7 U⟩,λp hp=>⟨(A p (H p hp).1).1.setN,λw=>?_⟩,(N7.map _).nodup j,K3 (Nx _ _) v,λN O T q=>?_,rfl⟩;rcases cu.mp w with w|⟨_,_,w⟩
  exact(A p (H p hp).1).2 w;exact(H p hp).2 w.symm;rw[DF];by_cases Z:N=.tup [.int t',.tup [.str s,.int I]];exact t8 (cu.mpr<|.inr ⟨F,by rw[Bg E];exact dT_ u.symm,Z.symm⟩) q;rw[t7 Z];exact o N O T q;rw[dF_ u];refine bN<|C6.now<|r _ _ ⟨kvs,_,_,_,_,pM,f,λp hp=>⟨(A p hp).1,λw=>?_⟩,j,v,o,rfl⟩;rcases cu.mp w with w|⟨_,w,_⟩
  exact(A p hp).2 w;rw[Bg E]at w;exact u (oT_ w).symm
 have q:∀p,br C (log.take i++[y]) p->br C (log.take i) p:=λp w=>by
  rcases cu.mp w with w|⟨w,_,_⟩
  exact w;exact t8 w F
 obtain⟨t,z,k,J,x,ds,rfl,_⟩:=K;walk_at"dl";refine⟨trivial,⟨aq,aq⟩,?_⟩;rw[aO,show (x==v6 "back")=bt from beq_eq_false_iff_ne.mpr F];exact bN<|C6.now<|r _ _ ⟨kvs,_,_,_,_,pM,f,λp hp=>⟨(A p hp).1,λw=>(A p hp).2<|q _ w⟩,j,v,o,rfl⟩
theorem EW(v:∀d∈log,aR ps rs d)(I:log.length<=1000)(_:C.length<=log.length)(P:M <+: B)(hB:B[c]?=a7 (.dkt<|sD C))(A:∀p∈kvs,K8 C M' B.length p)(l:∀k e,aI C k=a7 e->∃d,aI kvs k=a7 d)(O:(kvs.map (·.1)).Nodup)(N:kvs.length<=log.length)(pM:B <+: M')(g:M'[B.length]?=a7 (.dkt kvs))(h:∀n B kvs,M <+: B->pW B n kvs->(∀p∈kvs,K8 C B n p/\¬br C log p.1)->(kvs.map (·.1)).Nodup->kvs.length<=log.length->(∀k e,aI C k=a7 e->¬br C log k->∃d,aI kvs k=a7 d)->R (.ref n) B):kJ (EE M R) [a7<|aC ps rs,a7<|.tup log,a7<|.ref c,a7<|.ref B.length,a,b,y6,y7,y8,y9] M':=by
 have Y:=aE hB;simp only[kJ];walk_at"dl";intro _;refine fV (λys S M'=>∃(y6 y7 y8 y9:Option D),(∀y∈ys,y∈log)/\B <+: M'/\M'[B.length]?=a7 (.dkt kvs)/\(∀p∈kvs,K8 C M' B.length p)/\S=[a7<|aC ps rs,a7<|.tup log,a7<|.ref c,a7<|.ref B.length,a,b,y6,y7,y8,y9]) ?_ ?_ _ _ _ ⟨_,_,_,_,λ_ q=>q,pM,g,A,rfl⟩;rintro S M' ⟨y6,y7,y8,y9,_,pM,g,A,rfl⟩;refine⟨trivial,?_⟩;exact EV v I P hB A l O N pM g h;rintro y ys S M' ⟨y6,y7,y8,y9,i,pM,g,A,rfl⟩ G j;have J:=i y (by simp);have r:=v y J;have L:=bA pM hB;have f:∀z∈ys,z∈log:=λz q=>i z<|D4 _ q;refine⟨trivial,?_⟩;by_cases E:bZ y=v6 "change";obtain⟨t,z,k,o,m,s,rfl,hs⟩:=iP r E;obtain⟨t',Q,K,rfl⟩:=hs;walk_at"dl";refine⟨trivial,⟨aq,aq⟩,?_⟩;rw[aO,show (v6 "change" == v6 "change")=a9 from u7 _];refine bL ⟨_,L,rfl,?_⟩;rw[eH];cases w:aI C (.tup [.int t',.tup [.str Q,.int K]]) with
 |none=>exact bN<|C6.now<|j _ _ ⟨_,_,_,_,f,pM,g,A,rfl⟩
 |some e =>
  refine bL ⟨_,xB e,L,rfl,by rw[eH,w];rfl,?_⟩;unfold xB;walk_at"dl";refine⟨⟨aq,aq⟩,?_⟩;rw[aO,pO];by_cases u:gh e=z;rw[dT_ u];obtain⟨d,g1⟩:=l _ _ w;obtain⟨T,U,xs,h1,h2,F,h4,H⟩:=A _<|bw g1;dsimp only at h1 F;subst h1
  match xs,H,h4 with
  | [x1,x2,x3],_,h4=>refine bL ⟨kvs,_,g,rfl,g1,_,2,h4,rfl,?_⟩;exact C6.now<|j _ _ ⟨_,_,_,_,f,ci pM (by lia),bc (by lia) g,λp hp=>(A p hp).setM h4 rfl,rfl⟩
  rw[dF_ u];exact bN<|C6.now<|j _ _ ⟨_,_,_,_,f,pM,g,A,rfl⟩
 obtain⟨t,z,k,o,x,ds,rfl,_⟩:=r;walk_at"dl";refine⟨trivial,⟨aq,aq⟩,?_⟩;rw[aO,show (x==v6 "change")=bt from beq_eq_false_iff_ne.mpr E];exact bN<|C6.now<|j _ _ ⟨_,_,_,_,f,pM,g,A,rfl⟩
end
theorem Bz:D9 kz 10 yj:=by
 rintro ds M R ⟨ps,rs,log,rfl,U,u,H,h⟩;simp only[yj];walk_at"dl";refine⟨ps,rs,log,rfl,U,u,H,λc B V hB=>?_⟩;have t:=bn (rs:=rs) (log:=log);have kl:=bj (log:=log) (k:=v6 "say");have J:=kh u (λ_ q=>q) t;have W:=t.len;have X:=t.nd;have w:=t.en;generalize bf rs log=C at h t W J X w hB;have sp:∀p∈C,St p.1:=λp hp=>by rw[(w p hp).1];exact(J p hp).1.st
 have Y:=aE hB;simp only[qp,qo];walk_at"dl";refine⟨_,.inl<|ae hB,λ_=>?_⟩;have r:∀M',B <+: M'->M'[c]?=(B++[MO.dkt []])[c]?:=λM' p=>(bA p hB).trans (ae hB).symm;refine aT (λi S M'=>∃(kvs:List (D×D)) (a b:Option D),B <+: M'/\M'[B.length]?=a7 (.dkt kvs)/\(∀p∈kvs,K8 C M' B.length p)/\(∀p∈C.take i,(aI kvs p.1).isSome)/\(kvs.map (·.1)).Nodup/\kvs.length<=i/\S=[a7<|aC ps rs,a7<|.tup log,a7<|.ref c,a7<|.ref B.length,a,b,a8,a8,a8,a8]) ?_ ?_ ⟨[],_,_,bD,ao,(λ_ z=>nomatch z),(λ_ z=>nomatch z),.nil,x9 _,rfl⟩;rintro S M' ⟨kvs,a,b,pM,n,A,l,v,o,rfl⟩;rw[x6,ko,Mx]at l;have K:kvs.length<=C.length:=by rw[<-ko (kvs:=C)];simpa using o
 have m:∀k e,aI C k=a7 e->∃d,aI kvs k=a7 d:=λk e g=>OX.mp<|l _<|bw g;refine⟨r _ pM,?_⟩;exact EW u H (by lia) V hB A m v (by lia) pM n h;rintro i y S M' Q ⟨kvs,a,b,pM,n,A,l,v,o,rfl⟩ G x;unfold sD at Q;rw[K2,E1]at Q;obtain⟨p,hp,rfl⟩:=MT.mp Q;have I:=K7 hp;have hi:=(B6.mp hp).1;have T:C.take (i+1)=C.take i++[p]:=by rw[MD,hp];rfl
 have L:=sp p I;have E:=fE X I;have N:=aE n;refine⟨r _ pM,?_⟩;rw[T]at x;obtain⟨ks,Z⟩:=L.tup;have F:=L.key;obtain⟨k,e⟩:=p;dsimp only at Z E F;subst Z;simp only[Function.comp_apply,xB];walk_at"dl";have O:atI [D.str<|cw e,xY e,.str<|gh e,Il e,numO e] 3=a7 (Il e):=ar (j:=3) rfl;have P:atI [D.str<|cw e,xY e,.str<|gh e,Il e,numO e] 4=a7 (numO e):=ar (j:=4) rfl;simp only[O,P];refine⟨trivial,ah (by lia),kvs,ae n,F,aw (by lia),?_⟩;refine C6.now<|x _ _ ⟨fR kvs (.tup ks)<|.ref M'.length,_,_,ci (pM.trans bD)<|x9 _,cZ<|ae n,λq f=>?_,λq f=>?_,lF v,?_,rfl⟩;rcases ki f with rfl|f;exact⟨e,M'.length,_,rfl,N,E,bc (by lia) ao,rfl⟩;exact(A q f).more.setN;by_cases s:q.1=.tup ks;rw[s,iI];rfl;rw[fH s];rcases J0.mp f with f|f;exact l q f;have:q=(.tup ks,e):=by simpa using f
 exact t8 (by rw[this]) s;have:=ua (kvs:=kvs) (k:=.tup ks) (d:=.ref M'.length);lia
theorem Cn(T:Tops P w K mg base):z9 P w K mg base 2 "_law_shown" ub kz:=z9.byD (N:=["_law_house_here","_law_log_here","_law_counting_here","_law_shown_here","_law_stamp","_law_told_here","_law_time","_law_hand","_law_number","_law_act_here"]) T.b T.f_shown (by walk_at"sc") zN (by have:=ul T;walk_at"dv") Bz
noncomputable def NB:Nat->D->Bool
 | 0,_=>bt
 |_+1,.int _=>a9
 |_+1,.str _=>a9
 |n+1,.tup xs=>decide (xs.length<=99)&&xs.all (NB n)
 |_,_=>bt
def Lo(M:v8)(n:Nat)(a b:D):Prop:=(a=b/\NB n a=a9)\/∃(i j m:Nat) (xs:List D),n=m+1/\a=.ref i/\b=.ref j/\ak M i xs/\ak M j xs/\xs.length<=1000/\xs.all (NB m)=a9
def cP:Nat->B5:=λn ds M R=>∃a b,ds=[a,b]/\Lo M n a b/\R (.bl a9) M
theorem zT:∀n ds M R,cP n ds M R->ds.length=["_law_told_here","_law_due_here"].length:=by rintro n ds M R ⟨a,b,rfl,_⟩;rfl
theorem zF:∀ds M R,¬cP 0 ds M R:=by
 rintro ds M R ⟨a,b,rfl,h,_⟩;rcases h with⟨rfl,h⟩|⟨i,j,m,xs,h,_⟩
 cases a<;>cases h;cases h
def lr(n:Nat):v7:=bp<|eY (u9 D3 (w6 jV<|aa (ac 0) ag)<|w6 jV<|aa (ac 1) ag)<|w6 Hu<|aa (LH 2 [] (dZip<|aa (ac 0)<|aa (ac 1) ag) (dL 2<|aA (af 0)<|aA (af 1) dN) pV<|w6 (cP n)<|aa (ac 0)<|aa (ac 1) ag) ag
def lx(n:Nat):v7:=aB (C9 (pK (ax<|w6 tF<|aa (ac 1)<|aa (dC<|.ty "tuple") ag)<|DM<|ax<|w6 tF<|aa (ac 0)<|aa (dC<|.ty "tuple") ag) (bp<|dC<|.bl bt) aP)<|lr n
def lz(n:Nat):v7:=aB (C9 (pK (ax<|w6 tF<|aa (ac 1)<|aa (dC<|.ty "list") ag)<|DM<|ax<|w6 tF<|aa (ac 0)<|aa (dC<|.ty "list") ag) (bp<|dC<|.bl bt) aP)<|lx n
def iq(n:Nat):v7:=aB (C9 (ax<|w6 tF<|aa (ac 1)<|aa (dC<|.ty "int") ag) (bp<|eY (w6 tF<|aa (ac 0)<|aa (dC<|.ty "int") ag)<|eY (AT<|w6 tF<|aa (ac 0)<|aa (dC<|.ty "bool") ag)<|u9 D3 (ac 0)<|ac 1) aP)<|lz n
def fi(n:Nat):v7:=aB (C9 (ax<|w6 tF<|aa (ac 1)<|aa (dC<|.ty "str") ag) (bp<|eY (w6 tF<|aa (ac 0)<|aa (dC<|.ty "str") ag)<|u9 D3 (ac 0)<|ac 1) aP)<|iq n
def iU(n:Nat):v7:=aB (C9 (ax<|u9 NA (ac 1)<|dC .non) (bp<|u9 NA (ac 0)<|dC .non) aP)<|fi n
theorem BF:∀n ds M R,cP (n+1) ds M R->iU n (EE M R) (cc ["_law_told_here","_law_due_here"] ds) M:=by
 rintro n ds M R ⟨a,b,rfl,hs,h⟩;have f:∀(xs:List D) (H:v8->Prop),H M->xs.length<=1000->xs.all (NB n)=a9->mz H (dL 2<|aA (af 0)<|aA (af 1) dN) pV (w6 (cP n)<|aa (ac 0)<|aa (ac 1) ag) (λd o=>Hu [d] o<|aV M R) (L2.zipD xs xs) [] [a8,a8] M:=by
  intro xs H B g ok;refine bU (λ_=>.bl a9) (λS=>∃c d,S=[c,d]) B _ _ _ (λy Q S q=>?_) ⟨_,_,rfl⟩ ?_ ?_;obtain⟨c,d,rfl⟩:=q;obtain⟨x,u,rfl⟩:∃x,x∈xs/\y=.tup [x,x]:=by
   obtain⟨i,hi⟩:=Mg Q;unfold L2.zipD at hi;rw[E1]at hi;cases e:(xs.zip xs)[i]? with
   |none=>rw[e]at hi;cases hi
   |some p=>rw[e]at hi;obtain⟨t,l⟩:=List.getElem?_zip_eq_some.mp e;have:p.1=p.2:=D0<|t.symm.trans l;refine⟨p.1,K7 t,?_⟩;rw[<-D0 hi];show D.tup [p.1,p.2]=_;rw[<-‹p.1=p.2›]
  refine⟨[a7 x,a7 x],⟨_,_,rfl⟩,λY r=>?_⟩;walk_at"dl";exact⟨trivial,x,x,rfl,.inl ⟨rfl,F4.mp ok x u⟩,r⟩;rw[G8];unfold L2.zipD;rw[x6,Ql];exact ah (by lia);rw[LB];obtain⟨k,s⟩:∃k,(L2.zipD xs xs).map (λ_=>D.bl a9)=(NX k a9).map D.bl:=⟨(L2.zipD xs xs).length,by rw[List.map_const',List.map_replicate]⟩
  rw[s];refine⟨NX k a9,am,?_⟩;rw[show (NX k a9).all id=a9 by simp];exact aV.bl h bD
 rcases hs with⟨rfl,ok⟩|⟨i,j,m,xs,e,rfl,rfl,hi,L,g,ok⟩
 cases a with
 |int k=>simp only[iU,fi,iq];walk_at"dl";simp(config:={ decide:=a9 }) only[and_self,true_and,↓reduceIte,w4,z5,u7];exact⟨rfl,aV.now h⟩
 |str k=>simp only[iU,fi];walk_at"dl";simp(config:={ decide:=a9 }) only[and_self,true_and,↓reduceIte,w4,z5,u7];exact⟨rfl,aV.now h⟩
 |tup xs=>have H:(decide (xs.length<=99)&&xs.all (NB n))=a9:=ok;rw[G7,t9]at H;simp only[iU,fi,iq,lz,lx,lr];walk_at"dl";simp(config:={ decide:=a9 }) only[and_self,true_and,↓reduceIte,z5,u7,show ∀k:Int,w4 M x5 (.int k) (.int k)=a9 from λk=>by simp[w4],MK,C4];exact⟨rfl,xs,xs,_,_,⟨rfl,rfl⟩,⟨rfl,rfl⟩,f xs _ ⟨trivial,trivial⟩ (by lia) H.2⟩
 |_=>cases ok
 have:m=n:=by lia
 subst this;simp only[iU,fi,iq,lz,lx,lr];have t:=hi.ty;have l:=L.ty;simp only[Fn]at t l;walk_at"dl";simp(config:={ decide:=a9 }) only[t,l,and_self,true_and,↓reduceIte];refine⟨xs,hi,xs,L,⟨rfl,rfl⟩,?_⟩;rw[show w4 M x5 (.int (xs.length:Int)) (.int (xs.length:Int))=a9 by simp[w4]];simp only[MK,C4,↓reduceIte];exact⟨xs,xs,_,_,⟨hi,rfl⟩,⟨L,rfl⟩,f xs _ ⟨hi,L⟩ g ok⟩
theorem AM(T:Tops P w K mg base)(n:Nat)(C:z9 P w K mg base (0+n) "_law_alike" ui (cP n)):TopB mg B_ C_->List.Nodup (["_law_told_here","_law_due_here"]:List c5)->DerT P w K mg base (0+n) "_law_alike" ["_law_told_here","_law_due_here"] (top 61) (iU n):=by walk_at"dv"
theorem vY(T:Tops P w K mg base):∀n,z9 P w K mg base (0+n) "_law_alike" ui (cP n)
 | 0=>z9.never T.f_alike zF
 |n+1=>z9.byD (N:=["_law_told_here","_law_due_here"]) T.b T.f_alike (by walk_at"sc") (zT<|n+1) (AM T n<|vY T n)<|BF n
noncomputable def LX:List D:=[.bl bt,.bl a9,.bl bt,.bl bt,.bl bt,.bl bt,.bl bt,.bl bt,.bl bt,.bl bt,.bl bt,.bl bt]
def kA:B5:=λds M R=>∃q,ds=[.ref q]/\M[q]?=a7 (.exc<|v6 "NoMessage")/\R (.ref M.length) (M++[.lst LX])
theorem zQ:dz kA ue:=by rintro ds M R ⟨q,rfl,_⟩;rfl
def qH:v7:=bp<|u9 aK (ac 1)<|gM<|aa (wx T_ "Strange"<|ac 0)<|aa (wx T_ "NoRow"<|ac 0)<|aa (wx T_ "Clash"<|ac 0)<|aa (wx T_ "Gap"<|ac 0) ag
def qI:v7:=aB (bd (u9 aK (ac 1)<|gM<|aa (wx T_ "NoSaying"<|ac 0)<|aa (wx T_ "NoName"<|ac 0)<|aa (wx T_ "NoWhat"<|ac 0)<|aa (wx T_ "NoDeed"<|ac 0) ag) 1)<|qH
def yF:v7:=aB (bd (gM<|aa (wx T_ "NoRoom"<|ac 0)<|aa (wx T_ "NoMessage"<|ac 0)<|aa (wx T_ "NoHouse"<|ac 0)<|aa (wx T_ "NotYours"<|ac 0) ag) 1)<|qI
theorem BC:D9 kA 2 yF:=by
 rintro ds M R ⟨q,rfl,g,h⟩;simp only[yF];walk_at"dl";have t:mL T_ (v6 "NoMessage") (v6 "NoRoom")=a7 bt:=by decide +kernel
 have l:mL T_ (v6 "NoMessage") (v6 "NoMessage")=a7 a9:=by decide +kernel
 have Q:mL T_ (v6 "NoMessage") (v6 "NoHouse")=a7 bt:=by decide +kernel
 have J:mL T_ (v6 "NoMessage") (v6 "NotYours")=a7 bt:=by decide +kernel
 simp only[g,t,l,Q,J];refine⟨ah (by decide),?_⟩;have b:=ae (a:=MO.lst [.bl bt,.bl a9,.bl bt,.bl bt]) g;have c:(M++[MO.lst [.bl bt,.bl a9,.bl bt,.bl bt]])[M.length]?=a7 (.lst [.bl bt,.bl a9,.bl bt,.bl bt]):=ao;have j:M <+: M++[MO.lst [.bl bt,.bl a9,.bl bt,.bl bt]]:=bD;generalize M++[MO.lst [.bl bt,.bl a9,.bl bt,.bl bt]]=X at b c j;generalize m:M.length=f at c;simp only[qI];walk_at"dl";have t:mL T_ (v6 "NoMessage") (v6 "NoSaying")=a7 bt:=by decide +kernel
 have l:mL T_ (v6 "NoMessage") (v6 "NoName")=a7 bt:=by decide +kernel
 have Q:mL T_ (v6 "NoMessage") (v6 "NoWhat")=a7 bt:=by decide +kernel
 have J:mL T_ (v6 "NoMessage") (v6 "NoDeed")=a7 bt:=by decide +kernel
 simp only[b,t,l,Q,J];refine⟨ah (by decide),_,_,ae c,ao,ah (by decide),?_⟩;simp only[OP,LB];have g3:=ae (a:=MO.lst [.bl bt,.bl a9,.bl bt,.bl bt,.bl bt,.bl bt,.bl bt,.bl bt])<|ae (a:=MO.lst [.bl bt,.bl bt,.bl bt,.bl bt]) b;have d:(X++[MO.lst [.bl bt,.bl bt,.bl bt,.bl bt]]++[MO.lst [.bl bt,.bl a9,.bl bt,.bl bt,.bl bt,.bl bt,.bl bt,.bl bt]])[(X++[MO.lst [.bl bt,.bl bt,.bl bt,.bl bt]]).length]?=a7 (.lst [.bl bt,.bl a9,.bl bt,.bl bt,.bl bt,.bl bt,.bl bt,.bl bt]):=ao;have p:=(j.trans<|bD (mo:=MO.lst [.bl bt,.bl bt,.bl bt,.bl bt])).trans<|bD (mo:=MO.lst [.bl bt,.bl a9,.bl bt,.bl bt,.bl bt,.bl bt,.bl bt,.bl bt]);generalize X++[MO.lst [.bl bt,.bl bt,.bl bt,.bl bt]]++[MO.lst [.bl bt,.bl a9,.bl bt,.bl bt,.bl bt,.bl bt,.bl bt,.bl bt]]=Y at g3 d p;generalize (X++[MO.lst [.bl bt,.bl bt,.bl bt,.bl bt]]).length=i at d;simp only[qH];walk_at"dl";have t:mL T_ (v6 "NoMessage") (v6 "Strange")=a7 bt:=by decide +kernel
 have l:mL T_ (v6 "NoMessage") (v6 "NoRow")=a7 bt:=by decide +kernel
 have Q:mL T_ (v6 "NoMessage") (v6 "Clash")=a7 bt:=by decide +kernel
 have J:mL T_ (v6 "NoMessage") (v6 "Gap")=a7 bt:=by decide +kernel
 simp only[g3,t,l,Q,J];refine⟨ah (by decide),_,_,ae d,ao,ah (by decide),?_⟩;simp only[OP,LB];have e:=(p.trans<|bD (mo:=MO.lst [.bl bt,.bl bt,.bl bt,.bl bt])).trans<|bD (mo:=MO.lst LX);exact aV.chgL .refl h (p.trans bD).length_le ao e<|.cons (.bl _)<|.cons (.bl _)<|.cons (.bl _)<|.cons (.bl _)<|.cons (.bl _)<|.cons (.bl _)<|.cons (.bl _)<|.cons (.bl _)<|.cons (.bl _)<|.cons (.bl _)<|.cons (.bl _)<|.cons (.bl _) .nil
theorem Cp(T:Tops P w K mg base):Lq P w K mg base 1 "_law_kinds" ue kA:=Lq.by (N:=["_law_e","_law_kinds_here"]) T.b T.f_kinds (by walk_at"sc") zQ (by have:=T.cl;walk_at"dv") BC
def wE:B5:=λds M R=>∃(ps:List (c5×Int)) (a:List (c5×List c5)) (log:List D) (s:D) (r:c5) (l:List (c5×c5)),ds=[aC ps a,.tup log,s,.str r]/\HouseF ps a/\St s/\(∀d∈log,aR ps a d)/\log.length<64/\r∈a.map (·.1)/\NC (eX log s<|iS a r) l/\R (.ref M.length) (M++[.lst<|bv l])
theorem FR:dz wE Fx:=by rintro ds M R ⟨ps,a,log,s,r,l,rfl,_⟩;rfl
theorem ES{n:Nat}{l:List c5}:G0 (n+1) (.tup<|l.map .str):=.tup (F4.mpr λx h=>by obtain⟨y,_,rfl⟩:=A6.mp h;exact G0.str y)
theorem BS{M:v8}{l:List c5}(h:l.length<64):SrtOk M (l.map .str):=⟨by rw[x6];exact h,λx c=>by obtain⟨y,_,rfl⟩:=A6.mp c;rfl,λx c y Q=>by obtain⟨a,_,rfl⟩:=A6.mp c;obtain⟨b,_,rfl⟩:=A6.mp Q;rfl,.inl λx c=>by obtain⟨y,_,rfl⟩:=A6.mp c;exact⟨y,rfl⟩⟩
theorem BR{M:v8}{l l':List c5}{ys:List D}(Q:ys.Perm (l.map .str))(r:uW M ys)(p:l.Perm l')(u:Up l'):ys=l'.map .str:=by refine BY (M:=M) (N:=M) (λx c=>by obtain⟨y,_,rfl⟩:=A6.mp c;rfl) (λB x c y Q=>by obtain⟨a,_,rfl⟩:=A6.mp c;obtain⟨b,_,rfl⟩:=A6.mp Q;rfl) (Q.trans<|p.map _) ?_ r;unfold uW;rw[MP];exact u.imp λh=>h
theorem xu(h:bZ d≠v6 "like"):eX (log++[d]) st mem=eX log st mem:=by unfold eX;rw[fU,t7 h,LS]
theorem Ja(o:NC T l)(o':NC T l'):l=l':=by have p:l.Perm l':=(RI o.nd o'.nd).mpr λ⟨s,n⟩=>(o.on s n).trans (o'.on s n).symm;have q:∀{a b:c5},cf b a=bt->cf a b=bt->a=b:=λh1 h2=>tV<|List.le_antisymm (M8.mp<|of_decide_eq_false h1)<|M8.mp<|of_decide_eq_false h2;refine RF (le:=λa b=>cf b.1 a.1=bt/\(a.1=b.1->cf b.2 a.2=bt)) (λa b _ _ h1 h2=>?_) (o.r1.and o.r2) (o'.r1.and o'.r2) p;have t:=q h1.1 h2.1;exact Prod.ext t<|q (h1.2 t)<|h2.2 t.symm
theorem lk_cm:iN M x5 (F9 a b) (F9 c d)=a9:=by
 show (if w4 M 29 (.str a) (.str c)=a9 then(if w4 M 29 (.str b) (.str d)=a9 then a9 else a9)else a9)=a9
 repeat' split
 all_goals rfl
theorem on_ex(t:TabL N T):∃l,NC T l:=by
 have hp:=List.mergeSort_perm (T.map (·.1))<|λa b=>decide<|¬D8 x5 b<D8 x5 a;have hs:=List.pairwise_mergeSort (le:=λa b=>decide<|¬D8 x5 b<D8 x5 a) (λa b c h1 h2=>dT_<|M8.mpr<|List.le_trans (M8.mp<|oT_ h1)<|M8.mp<|oT_ h2) (λa b=>by rcases List.le_total (D8 x5 a) (D8 x5 b)with h|h;rw[dT_<|M8.mpr h];rfl;rw[dT_ (p:=¬D8 x5 a<D8 x5 b)<|M8.mpr h,Bool.or_true]) (T.map (·.1));generalize (T.map (·.1)).mergeSort (λa b=>decide<|¬D8 x5 b<D8 x5 a)=z at hp hs;refine⟨_,zu (M:=[]) t hp ?_⟩;have k:∀x∈z,∃s n,x=F9 s n:=λx e=>by obtain⟨q,d,rfl⟩:=A6.mp<|hp.mem_iff.mp e;obtain⟨s,m,b,rfl⟩:=t.en q d;exact⟨s,m,rfl⟩
 unfold uW;refine(NN.mp hs).imp λ{a b} ⟨ha,hb,q⟩=>?_;obtain⟨s,n,rfl⟩:=k a ha;obtain⟨s',f,rfl⟩:=k b hb;rw[md rfl rfl lk_cm];exact dF_<|oT_ q
noncomputable def oJ:D->D
 |.tup [s,_]=>s
 |_=>.non
noncomputable def Jm:D->D
 |.tup [_,n]=>n
 |_=>.non
def yI:v7:=bp<|ac 10
def yJ:v7:=C9 (ax<|u9 P6 (ac 12)<|cQ ag) (iM<|Ms bQ (ac 10)<|aa (cQ<|aa (ac 11)<|aa (ac 12) ag) ag) aP
def yK:v7:=aB (jP (cJ<|fI<|LH 2 [] (oh<|ac 5) (dL 2<|aA (af 0)<|aA (af 1) dN) pV<|ac 0) (af 11)<|aB (bd (w6 eV<|aa (w6 gQ<|aa (LH 2 [11,5] (oh<|ac 5) (dL 2<|aA (af 0)<|aA (af 1) dN) (pK (ax<|u9 D3 (ac 0)<|ac 2)<|ax<|dO (ac 3)<|cQ<|aa (ac 0)<|aa (ac 1) ag)<|ac 1) ag) ag) 12)<|yJ)<|yI
def tQ:v7:=aB (bd (gM ag) 10)<|yK
def yL:v7:=aB (jP (cJ<|ac 1) (dL 4<|aA (af 6)<|aA (af 7)<|aA (af 8)<|aA (af 9) dN)<|C9 (pK (ax<|u9 D3 (u9 w9 (ac 9)<|dC<|.int 0)<|dC<|.str "like")<|pK (ax<|u9 D3 (u9 w9 (ac 9)<|dC<|.int 1)<|ac 2)<|ax<|u9 Ox (u9 w9 (ac 7)<|dC<|.int 0)<|ac 4) (jq (ac 5) (cQ<|aa (u9 w9 (ac 9)<|dC<|.int 2)<|aa (u9 w9 (ac 7)<|dC<|.int 0) ag)<|u9 w9 (ac 9)<|dC<|.int 3) aP)<|tQ
def yM:v7:=aB (bd (mV) 5)<|yL
def HV:v7:=aB (bd (xO (w6 rK<|aa (u9 w9 (ac 0)<|dC<|.int 1) ag)<|ac 3) 4)<|yM
theorem due_3(pB:M <+: B)(v:B[q]?=a7 (.dkt T))(J:TabL N T)(hN:N<64)(I:NC T l)(h:R (.ref M.length) (M++[.lst<|bv l])):tQ (EE M R) [a7 hs,a7<|.tup log,a7 st,a7<|.str r,y4,a7<|.ref q,y6,y7,y8,y9,a8,a8,a8] B:=by
 have tl:=J.len;have ai:=I.len;have qB:=aE v;simp only[tQ];walk_at"dl";refine⟨D6 _,?_⟩;have o:(B++[MO.lst []])[B.length]?=a7 (.lst []):=ao;have t:(B++[MO.lst []])[q]?=a7 (.dkt T):=ae v;have p1:M <+: B++[MO.lst []]:=pB.trans bD;have hM:M.length<=B.length:=pB.length_le;have nq:q≠B.length:=by lia
 generalize B++[MO.lst []]=u at o t p1;generalize B.length=W at o hM nq;simp only[yK];walk_at"dl";refine⟨T,t,λ_=>?_⟩;refine bU oJ (λS=>∃a b,S=[a,b]) t _ _ _ (λx H S hS=>?_) ⟨_,_,rfl⟩ (by rw[G8,x6];exact ah<|by lia) ?_;obtain⟨a,b,rfl⟩:=hS;obtain⟨p,hp,rfl⟩:=A6.mp H;obtain⟨s,m,b,rfl⟩:=J.en p hp;refine⟨[a7<|.str s,a7<|.str m],⟨_,_,rfl⟩,λY hY=>?_⟩;simp only[F9];walk_at"dl";exact⟨trivial,hY⟩;rw[LB];have es:(T.map (·.1)).map oJ=(T.map λp=>(Mq p.1).1).map D.str:=by rw[K2,K2];refine PL λp hp=>?_;obtain⟨s,m,b,rfl⟩:=J.en p hp;rfl
 rw[es];refine .inl ⟨_,.inl ⟨_,rfl,am⟩,by rw[x6];lia,λys nd hy V=>?_⟩;have up:Up ys:=by unfold uW at V;rw[MP]at V;exact V.imp λh=>h
 have ku:∀s,s∈aH l->s∈ys:=λs hs=>by obtain⟨n,c⟩:=(kq l s).mp hs;exact(hy s).mpr<|A6.mpr ⟨_,bw<|(I.on s n).mp c,rfl⟩
 have fk:ys.filter (λs=>decide<|s∈aH l)=aH l:=by refine HL (Rv _ up) (Gi l I.r1)<|(RI (N7.nodup nd)<|Gj l).mpr λs=>?_;rw[I9,t9];exact⟨λz=>z.2,λz=>⟨ku s z,z⟩⟩
 generalize (T.map λp=>(Mq p.1).1).map D.str=A;have P:(u++[MO.lst A]++[MO.lst<|ys.map .str])[W]?=a7 (.lst []):=ae<|ae o;have Q:(u++[MO.lst A]++[MO.lst<|ys.map .str])[q]?=a7 (.dkt T):=ae<|ae t;have U:ak (u++[MO.lst A]++[MO.lst<|ys.map .str]) (u++[MO.lst A]).length (ys.map .str):=am;have p2:M <+: u++[MO.lst A]++[MO.lst<|ys.map .str]:=(p1.trans bD).trans bD;have nl:(u++[MO.lst A]).length≠W:=by have:=aE o;simp;lia
 generalize (u++[MO.lst A]).length=ql at U nl;generalize u++[MO.lst A]++[MO.lst<|ys.map .str]=B2 at P Q U p2;refine⟨_,U,λ_=>?_⟩;have kl:=kr l;refine aT (λi S M'=>∃a b,M <+: M'/\M'[W]?=a7 (.lst<|((ys.take i).filter<|λs=>decide<|s∈aH l).map<|xv l)/\M'[q]?=a7 (.dkt T)/\ak M' ql (ys.map .str)/\S=[a7 hs,a7<|.tup log,a7 st,a7<|.str r,y4,a7<|.ref q,y6,y7,y8,y9,a7<|.ref W,a,b]) ?_ ?_ ⟨_,_,p2,P,Q,U,rfl⟩;rintro S M' ⟨a,b,pM,o,v,U,rfl⟩;rw[x6,Mx,fk]at o;refine⟨U,?_⟩;simp only[yI];walk_at"dl";exact aV.chgL .refl h hM o pM (Bels.of λd hd=>by obtain⟨s,_,rfl⟩:=A6.mp hd;exact sj);rintro i y S M' hy ⟨a,b,pM,o,v,U,rfl⟩ G E;rw[E1]at hy;obtain⟨s,hs,rfl⟩:=MT.mp hy;have et:ys.take (i+1)=ys.take i++[s]:=by rw[MD,hs];rfl
 have fl:((ys.take i).filter<|λs=>decide<|s∈aH l).length<=64:=by have h1:(((ys.take i).filter<|λs=>decide<|s∈aH l)).length<=(ys.filter<|λs=>decide<|s∈aH l).length:=((PD i ys).filter _).length_le;rw[fk]at h1;lia
 rw[et,QC,Nf,List.filter_nil]at E;generalize (ys.take i).filter (λs=>decide<|s∈aH l)=F at o E fl;refine⟨U,?_⟩;walk_at"dl";refine⟨T,v,λ_=>?_⟩;refine ck (λx=>decide<|oJ x=.str s/\aI T x=a7 (.bl a9)) Jm (λS=>∃a b,S=[a,b,a7<|.str s,a7<|.ref q]) v _ _ _ ?_ ⟨_,_,rfl⟩ (by rw[G8,x6];exact ah<|by lia) ?_;rintro x H S ⟨a,b,rfl⟩;obtain⟨p,hp,rfl⟩:=A6.mp H;obtain⟨s',m,b',rfl⟩:=J.en p hp;have L:aI T (F9 s' m)=a7 (.bl b'):=fE J.nd hp;refine⟨[a7<|.str s',a7<|.str m,a7<|.str s,a7<|.ref q],⟨_,_,rfl⟩,λY Z j=>?_⟩;simp only[F9];walk_at"dl";refine⟨trivial,⟨aq,aq⟩,?_⟩;rw[aO,pO];by_cases e:s'=s;rw[dT_ e];subst e;refine bL ⟨ah (by decide),_,_,v,rfl,L,?_⟩;cases b' with
 |true=>rw[t6<|dT_ ⟨rfl,L⟩]at j;exact bL j
 |false=>rw[t7 λz=>by have:=(oT_ z).2;rw[L]at this;cases this]at j;exact bN j
 rw[dF_ e];rw[t7 λz=>e (by have:=(oT_ z).1;simpa [oJ,F9]using this)]at j;exact bN j;rw[LB];have K:∀x,x∈(T.map (·.1)).filter (λx=>decide<|oJ x=.str s/\aI T x=a7 (.bl a9))↔∃n,x=F9 s n/\(s,n)∈l:=λx=>by
  rw[I9,t9];constructor;rintro⟨h1,h2,h3⟩;obtain⟨p,hp,rfl⟩:=A6.mp h1;obtain⟨s',m,b',rfl⟩:=J.en p hp;have e:s'=s:=by simpa [oJ,F9]using h2
  subst e;exact⟨m,rfl,(I.on _ _).mpr h3⟩;rintro⟨n,rfl,c⟩;have L:=(I.on s n).mp c;exact⟨MS (f:=(·.1))<|bw L,rfl,L⟩
 have O:((T.map (·.1)).filter<|λx=>decide<|oJ x=.str s/\aI T x=a7 (.bl a9)).Nodup:=N7.nodup J.nd;have ab:((T.map (·.1)).filter<|λx=>decide<|oJ x=.str s/\aI T x=a7 (.bl a9)).length<=63:=by refine K3 (Nx _ _) ?_;rw[x6];lia
 generalize (T.map (·.1)).filter (λx=>decide<|oJ x=.str s/\aI T x=a7 (.bl a9))=Z at K O ab;have ez:Z.map Jm=(Z.map λx=>(Mq x).2).map D.str:=by rw[K2];refine PL λx H=>?_;obtain⟨n,rfl,_⟩:=(K x).mp H;rfl
 have pz:(Z.map λx=>(Mq x).2).Perm (aG l s):=by refine(RI ?_<|Cw I.nd).mpr λn=>?_;rw[Nh,MP];refine(NN.mp<|Nh.mp O).imp λ{a b} ⟨ha,hb,q⟩ e=>q ?_;obtain⟨n,rfl,_⟩:=(K a).mp ha;obtain⟨n',rfl,_⟩:=(K b).mp hb;rw[tN,tN]at e;exact u6 _ e;rw[iF,A6];constructor;rintro⟨x,H,rfl⟩;obtain⟨n,rfl,c⟩:=(K x).mp H;exact c;exact λc=>⟨F9 s n,(K _).mpr ⟨n,rfl,c⟩,rfl⟩
 rw[ez];refine⟨_,am,(BS<|by rw[x6];lia).g,λzs hz V=>?_⟩;obtain rfl:=BR hz V pz<|Cv I.r2;refine⟨_,am,?_⟩;generalize (Z.map λx=>(Mq x).2).map D.str=X;have k:(M'++[MO.lst X]++[MO.lst<|(aG l s).map .str])[W]?=a7 (.lst<|F.map<|xv l):=ae<|ae o;have C:(M'++[MO.lst X]++[MO.lst<|(aG l s).map .str])[q]?=a7 (.dkt T):=ae<|ae v;have w:ak (M'++[MO.lst X]++[MO.lst<|(aG l s).map .str]) ql (ys.map .str):=(U.more _).more _;have p3:M <+: M'++[MO.lst X]++[MO.lst<|(aG l s).map .str]:=(pM.trans bD).trans bD;generalize M'++[MO.lst X]++[MO.lst<|(aG l s).map .str]=B3 at k C w p3;have kk:s∈aH l↔aG l s≠[]:=by rw[kq];constructor;rintro⟨n,c⟩ z;have:=iF.mpr c;rw[z]at this;cases this;intro z;obtain⟨n,c⟩:=List.exists_mem_of_ne_nil _ z;exact⟨n,iF.mp c⟩
 have lk:xv l s=.tup [.str s,.tup<|(aG l s).map .str]:=rfl;simp only[yJ];walk_at"dl";refine⟨D6 _,⟨(vW 3 x5 _ (by decide) ES).1,rfl⟩,?_⟩;by_cases c:aG l s=[]
 rw[t7<|λz=>kk.mp (oT_ z) c,LS]at E;rw[c];exact bN<|C6.now<|E _ _ ⟨_,_,p3,k,C,w,rfl⟩;rw[t6<|dT_<|kk.mpr c,L6,D7,Pk,lk]at E;obtain⟨n,N',en⟩:=List.exists_cons_of_ne_nil c;rw[en]at E ⊢;refine bL ⟨⟨_,.inl k⟩,ah (by decide),_,k,ah (by rw[x6];lia),?_⟩;exact C6.now<|E _ _ ⟨_,_,ci p3 hM,L7<|aE k,bc nq C,wc nl w,rfl⟩
theorem HF:D9 wE 13 HV:=by
 rintro ds M R ⟨ps,f,log,st,r,l,rfl,v,g,F,L,I,w,h⟩;simp only[HV,aC];walk_at"dl";refine⟨f.map iW,rE,by rw[x6];have:=v.rl.2;lia,?_⟩;rw[nQ v.rnd];refine⟨_,_,ao,iw I,?_⟩;have p:=fF (st:=st) (mem:=iS f r)<|kinds log<|v6 "like";have N:=bj (log:=log) (k:=v6 "like");rw[show jh st (iS f r) (kinds log<|v6 "like")=eX log st (iS f r)from rfl]at p;generalize iS f r=mem at w p;generalize D.tup [.tup<|ps.map dj,.tup<|f.map lD]=hs;have A:M <+: M++[MO.dct<|f.map iW]:=bD;generalize M++[MO.dct<|f.map iW]=B at A;simp only[yM,yL];walk_at"dl";intro _;refine aT (λi S M'=>∃a b c d,M'=B++[.dkt<|eX (log.take i) st mem]/\S=[a7 hs,a7<|.tup log,a7 st,a7<|.str r,a7<|.tup<|mem.map .str,a7<|.ref B.length,a,b,c,d,a8,a8,a8]) ?_ ?_ ⟨_,_,_,_,rfl,rfl⟩;rintro S M' ⟨a,b,c,d,rfl,rfl⟩;rw[Mx];refine⟨trivial,?_⟩;exact due_3 (A.trans bD) ao p (by lia) w h;rintro i y S M' Q ⟨a,b,c,d,rfl,rfl⟩ G e;have H:=K7 Q;have E:log.take (i+1)=log.take i++[y]:=by rw[MD,Q];rfl
 rw[E]at e;have q:=F y H;have K:(eX (log.take i) st mem).length<=63:=by have h1:=(fF (st:=st) (mem:=mem)<|kinds (log.take i)<|v6 "like").len;have h2:=bj (log:=log.take i) (k:=v6 "like");rw[LC]at h2;exact K3 h1<|by lia
 refine⟨trivial,?_⟩;by_cases o:bZ y=v6 "like";rw[xt o]at e;generalize eX (log.take i) st mem=kvs at e K;obtain⟨t,z,k,n,m,s,b,rfl,u⟩:=zM q o;have C:qY st mem kvs (.tup [.int t,.tup [.str z,.int k],.int n,.tup [.str<|v6 "like",m,.str s,.bl b]])=if m=st/\z∈mem then fR kvs (F9 s z) (.bl b)else kvs:=rfl
 rw[C]at e;have J:atI [.str<|v6 "like",m,.str s,.bl b] 3=a7 (.bl b):=ar (j:=3) rfl;walk_at"dl";refine⟨trivial,⟨aq,aq⟩,?_⟩;rw[aO,show (v6 "like" == v6 "like")=a9 from u7 _];refine bL ⟨⟨u.ok,g.ok⟩,?_⟩;rw[show x5=28+2 from rfl,u.eq g];by_cases h1:m=st;rw[dT_ h1];refine bL ⟨⟨aq,lA⟩,?_⟩;rw[mn];by_cases h2:z∈mem;rw[dT_ h2];rw[t6 ⟨h1,h2⟩]at e;simp only[J];refine bL ⟨ah (by decide),kvs,bo,rfl,aw (by lia),?_⟩;rw[fq];exact C6.now<|e _ _ ⟨_,_,_,_,rfl,rfl⟩;rw[dF_ h2];rw[t7 λz=>h2 z.2]at e;exact bN<|C6.now<|e _ _ ⟨_,_,_,_,rfl,rfl⟩;rw[dF_ h1];rw[t7 λz=>h1 z.1]at e;exact bN<|C6.now<|e _ _ ⟨_,_,_,_,rfl,rfl⟩;rw[xu o]at e;obtain⟨t,z,k,n,x,ds,rfl,_⟩:=q;walk_at"dl";refine⟨trivial,⟨aq,aq⟩,?_⟩;rw[aO,show (x==v6 "like")=bt from beq_eq_false_iff_ne.mpr o];exact bN<|C6.now<|e _ _ ⟨_,_,_,_,rfl,rfl⟩
theorem Jc(T:Tops P w K mg base):z9 P w K mg base 1 "_law_due" Fx wE:=z9.byD (N:=["_law_house_here","_law_log_here","_law_stamp","_law_room","_law_members","_law_last","_law_time","_law_hand","_law_number","_law_act_here","_law_found","_law_sort","_law_names_here"]) T.b T.f_due (by walk_at"sc") FR (by walk_at"dv") HF
def dR:B5:=λds M R=>∃(ps:List (c5×Int)) (a:List (c5×List c5)) (log:List D) (s:D),ds=[aC ps a,.tup log,s]/\(ps.map (·.1)).Nodup/\(∀d∈log,aR ps a d)/\log.length<64/\St s/\aI (bu a log) s=a8/\R (.bl a9) M
theorem uy:dz dR lM:=by rintro ds M R ⟨ps,a,log,s,rfl,_⟩;rfl
def kK:v7:=bp<|u9 D3 (ac 3)<|u9 aK (LH 1 [] (bK<|aa (dC<|.int 12) ag) (af 0) pV<|u9 D3 (ac 0)<|dC<|.int 1)<|gM<|aa (dC<|.bl a9) ag
def kL:v7:=aB (dTry T_ "TalkError" 4 (EJ<|O0 cr<|aa (ac 0)<|aa (ac 1)<|aa (ac 2) ag)<|bd (u9 aK (w6 kA<|aa (ac 4) ag)<|gM<|aa (dIsV T_<|ac 4) ag) 3)<|kK
def qr:v7:=aB (bd (gM ag) 3)<|kL
theorem wK:D9 dR 5 qr:=by
 rintro ds M R ⟨ps,E,log,s,rfl,n,y,z,hs,A,h⟩;simp only[qr];walk_at"dl";refine⟨D6 _,?_⟩;have q:M <+: M++[MO.lst []]:=bD;generalize M.length=F;generalize M++[MO.lst []]=c at q;simp only[kL];walk_at"dl";refine⟨ps,E,log,s,rfl,hs,n,y,z,λ_=>⟨by decide +kernel,?_⟩,λe o=>by rw[A]at o;cases o⟩;have g:(c++[MO.exc<|v6 "NoMessage"])[c.length]?=a7 (.exc<|v6 "NoMessage"):=ao;have p:M <+: c++[MO.exc<|v6 "NoMessage"]:=q.trans bD;generalize c++[MO.exc<|v6 "NoMessage"]=B at g p;generalize c.length=G at g;refine⟨_,rfl,g,?_⟩;have u:(List.lookup (v6 "NoMessage") T_).isSome=a9:=by decide +kernel
 simp only[ae g,u];refine⟨trivial,ah (by decide),_,_,ae ao,ao,ah (by decide),?_⟩;have m:(B++[MO.lst LX]++[MO.lst [.bl a9]]++[MO.lst<|LX++[.bl a9]])[(B++[MO.lst LX]++[MO.lst [.bl a9]]).length]?=a7 (.lst<|LX++[.bl a9]):=ao;have r:M <+: B++[MO.lst LX]++[MO.lst [.bl a9]]++[MO.lst<|LX++[.bl a9]]:=((p.trans bD).trans bD).trans bD;generalize B++[MO.lst LX]++[MO.lst [.bl a9]]++[MO.lst<|LX++[.bl a9]]=f at m r;generalize (B++[MO.lst LX]++[MO.lst [.bl a9]]).length=C at m;simp only[kK];walk_at"dl";refine⟨⟨by decide,by decide⟩,?_⟩;refine bU (λd=>.bl<|w4 f x5 d<|.int 1) (λS=>∃a,S=[a]) trivial _ _ _ (λx k S v=>?_) ⟨_,rfl⟩ (by rw[G8];exact ah<|by decide) ?_;obtain⟨a,rfl⟩:=v;obtain⟨i,hi⟩:=Mg k;obtain⟨_,rfl⟩:=bP.mp hi;refine⟨[a7<|.int<|0+(i:Int)],⟨_,rfl⟩,λY w=>?_⟩;walk_at"dl";exact⟨⟨rfl,rfl⟩,w⟩;rw[LB];have l:(ie 0<|Int.toNat 12).map (λd=>D.bl<|w4 f x5 d<|.int 1)=LX:=rfl;rw[l];refine⟨ah (by decide),_,_,ae ao,ao,ah (by decide),?_⟩;have t:=rH (M:=f++[MO.lst LX]++[MO.lst [.bl a9]]++[MO.lst<|LX++[.bl a9]]) (i:=C) (j:=(f++[MO.lst LX]++[MO.lst [.bl a9]]).length) (xs:=LX++[.bl a9]) (.inl<|ae<|ae<|ae m) am λx k=>by
  have:∃b,x=.bl b:=by simp only[LX,OP,LB,A9,Me,or_false]at k;rcases k with rfl|rfl|rfl|rfl|rfl|rfl|rfl|rfl|rfl|rfl|rfl|rfl|rfl<;>exact⟨_,rfl⟩
  obtain⟨b,rfl⟩:=this;exact⟨rfl,by cases b<;>rfl⟩
 refine⟨t.1,?_⟩;rw[t.2];exact aV.bl h<|((r.trans bD).trans bD).trans bD
theorem xg(T:Tops P w K mg base):z9 P w K mg base 9 "_law_refused" lM dR:=z9.byD (N:=["_law_house_here","_law_log_here","_law_stamp","_law_kinds_here","_law_e"]) T.b T.f_refused (by walk_at"sc") uy (by have:=lW T;have:=Cp T;have:=T.cl;walk_at"dv") wK
theorem FQ:dz FU Fw:=by rintro ds M R ⟨ns,m,_,_,rfl,_⟩;rfl
theorem At(hf:HouseF ps rs):Rh ps/\1<=(bb ps).length/\(bb ps).length<=12:=by
 have f:Rh ps:=⟨hf.len.2,λq h=>⟨by have:=hf.many q h;lia,(hf.many q h).2⟩⟩
 have n:=nY f.2;refine⟨f,?_,by have:=f.1;lia⟩
 match ps,hf with
 | [],hf=>have:=hf.len.1;simp at this
 |p::ps,hf=>have:=(hf.many p<|by simp).1;rw[bb,List.flatMap_cons,E3,gY];lia
theorem AG(p:M <+: B)(h:pW M n kvs):pW B n kvs:=by
 rcases h with h|⟨e,h⟩
 exact .inl<|bA p h;exact .inr ⟨e,bA p h⟩
theorem K8.pre(q:M <+: B)(h:K8 C M n p):K8 C B n p:=by obtain⟨e,m,xs,h1,h2,a,d,k⟩:=h;exact⟨e,m,xs,h1,h2,a,bA q d,k⟩
theorem zL(h:l.length<=64):(bv l).all (NB 4)=a9:=F4.mpr λx a=>by obtain⟨s,_,rfl⟩:=A6.mp a;have n:=rS (l:=l) (s:=s);show (decide (2<=99)&&(a9&&((decide (((aG l s).map D.str).length<=99)&&((aG l s).map D.str).all (NB 2))&&a9)))=a9;rw[dT_ (p:=((aG l s).map D.str).length<=99) (by rw[x6];lia),show ((aG l s).map D.str).all (NB 2)=a9 from F4.mpr λx a=>by obtain⟨y,_,rfl⟩:=A6.mp a;rfl];rfl
def vK:v7:=bp<|eY (w6 dR<|aa (ac 1)<|aa (ac 2)<|aa (cQ<|aa (u9 Fa (dC<|.int 10)<|dC<|.int 9)<|aa (cQ<|aa (u9 w9 (u9 w9 (u9 w9 (ac 1)<|dC<|.int 0)<|dC<|.int 0)<|dC<|.int 0)<|aa (dC<|.int 0) ag) ag) ag)<|u9 D3 (w6 xa<|aa (ac 2) ag)<|ac 4
def tP:v7:=aB (jP (cJ<|ac 2) (dL 4<|aA (af 9)<|aA (af 10)<|aA (af 11)<|aA (af 12) dN)<|C9 (pK (ax<|u9 oN (cQ<|aa (ac 9)<|aa (ac 10) ag)<|ac 3)<|DM<|ax<|w6 dR<|aa (ac 1)<|aa (ac 2)<|aa (cQ<|aa (ac 9)<|aa (ac 10) ag) ag) (bp<|dC<|.bl bt) aP)<|vK
def yx:v7:=C9 (DM<|ax<|w6 (cP 5)<|aa (w6 (Q8 cr)<|aa (ac 1)<|aa (ac 2)<|aa (ac 5) ag)<|aa (ac 7) ag) (bp<|dC<|.bl bt) aP
def yy:v7:=aB (iM<|Ms bQ (ac 8)<|aa (cQ<|aa (dC<|.str "good")<|aa (cQ ag) ag) ag)<|yx
def yz:v7:=aB (C9 (DM<|ax<|w6 (cP 5)<|aa (ac 8)<|aa (ac 7) ag) (bp<|dC<|.bl bt) aP)<|yy
def yA:v7:=aB (bd (w6 (Q8 cr)<|aa (ac 1)<|aa (ac 2)<|aa (ac 5) ag) 8)<|yz
def yB:v7:=aB (jP (my<|ac 3) (dL 2<|aA (af 5)<|aA (af 6) dN)<|aB (bd (w6 wE<|aa (ac 1)<|aa (ac 2)<|aa (ac 5)<|aa (u9 w9 (ac 6)<|dC<|.int 0) ag) 7)<|yA)<|tP
def yC:v7:=aB (bd (w6 xa<|aa (ac 2) ag) 4)<|yB
def yD:v7:=aB (bd (w6 kz<|aa (ac 1)<|aa (ac 2) ag) 3)<|yC
def yE:v7:=aB (bd (w6 wD<|aa (ac 1)<|aa (w6 fY<|aa (ac 0)<|aa (dC<|.int 1)<|aa (dC<|.int 40) ag)<|aa (w6 kD<|aa (ac 1) ag) ag) 2)<|yD
def HU:v7:=aB (bd (w6 kC<|aa (w6 dS<|aa (ac 0)<|aa (dC<|.int 0) ag) ag) 1)<|yE
theorem law_9(f:HouseF ps rs)(dd:∀d∈log,aR ps rs d)(I:∀d∈log,mJ d<=200)(J:log.length<=40)(mem:∀k,aI (bu rs log) k=a8↔aI kvs k=a8)(A:B[q4]?=a7 (.lst log))(C:pW B n3 kvs)(p:[mo] <+: B)(h:∀M',R (.bl a9) M'):tP ⟨λ_ M'=>aV [mo] R .non M',aV [mo] R,λ_ _=>False,λ_ _=>False⟩ [a7<|.ref 0,a7<|aC ps rs,a7<|.tup log,a7<|.ref n3,a7<|.ref q4,y5,y6,y7,y8,a8,a8,a8,a8] B:=by
 simp only[tP];walk_at"dl";intro _;refine aT (λi S M'=>∃a b c d,B <+: M'/\S=[a7<|.ref 0,a7<|aC ps rs,a7<|.tup log,a7<|.ref n3,a7<|.ref q4,y5,y6,y7,y8,a,b,c,d]) ?_ ?_ ⟨_,_,_,_,Nd,rfl⟩;rintro S M' ⟨a,b,c,d,pM,rfl⟩;refine⟨trivial,?_⟩;obtain⟨⟨z,n⟩,ps',rfl⟩:∃p ps',ps=p::ps':=by
  match ps,f.len.1 with
  |p::ps',_=>exact⟨p,ps',rfl⟩
 have g:aI (bu rs log) (.tup [.int<|10 ^ Int.toNat 9,.tup [.str z,.int 0]])=a8:=by
  cases l:aI (bu rs log) (.tup [.int<|10 ^ Int.toNat 9,.tup [.str z,.int 0]]) with
  |none=>rfl
  |some e=>have E:=dH.mp<|bw l;obtain⟨o,u⟩:=bn.en _ E.1;have r:=aQ u;have F:=I e r.1;obtain⟨t,K,k,m,x,ds,rfl,_⟩:=dd e r.1;simp only[LG,D.tup.injEq,NZ,D.int.injEq]at o;simp only[mJ]at F;have w:(10:Int) ^ Int.toNat 9=1000000000:=rfl;rw[w]at o;lia
 simp only[vK,aC];walk_at"dl";refine⟨⟨by decide,by decide,by decide⟩,?_⟩;simp only[dj,Oz];refine⟨ah (by decide),ah (by decide),(z,n)::ps',rs,log,_,rfl,f.pnd,dd,by lia,⟨_,_,_,rfl⟩,g,?_⟩;have s:=rH (M:=M'++[MO.lst log]) (i:=M'.length) (j:=q4) (xs:=log) am (.inl<|ae<|bA pM A) λx H=>vW 6 29 x (by decide) (dd x H).pl;simp only[nT,↓reduceIte];refine⟨s.1,?_⟩;rw[s.2];exact .inl<|h _;rintro i y S M' Q ⟨a,b,c,d,pM,rfl⟩ G q;obtain⟨t,z,k,m,x,ds,rfl,_⟩:=dd y<|K7 Q;refine⟨trivial,?_⟩;walk_at"dl";refine⟨trivial,ah (by decide),kvs,AG pM C,rfl,?_⟩;cases l:aI kvs (.tup [.int t,.tup [.str z,.int k]]) with
 |some v=>exact bN<|C6.now<|q _ _ ⟨_,_,_,_,pM,rfl⟩
 |none=>refine bL ⟨ah (by decide),ps,rs,log,_,rfl,f.pnd,dd,by lia,⟨_,_,_,rfl⟩,(mem _).mpr l,?_⟩;walk_at"ifs";exact C6.now<|q _ _ ⟨_,_,_,_,pM,rfl⟩
theorem HD:D9 FU 13 HU:=by
 rintro ds M R ⟨ns,mo,as,⟨aj,ai⟩,rfl,rfl,h⟩;have N:ak [mo] 0 (ns.map D.int):=by have:=rW (M:=[mo]) (n:=0) (mo:=mo) rfl ai;rw[aj]at this;exact this
 simp only[HU];walk_at"dl";refine⟨0,ns,0,rfl,N,_,rfl,λps f E=>?_⟩;obtain⟨ab,n1,an⟩:=At E;simp only[yE];walk_at"dl";refine⟨0,ns,1,40,rfl,N,by lia,by decide,by decide,λxs xl=>⟨ps,_,rfl,ab,ps,f,1,2,xs,bb ps,rfl,E,?_,xl,?_,λ_ q=>q,n1,an,λlog I tm ll=>?_⟩⟩;exact .inl rfl;exact .inl rfl;generalize L:[mo]++[MO.lst<|xs.map D.int]++[MO.lst<|bb ps]=B0;have p0:[mo] <+: B0:=by rw[<-L,Mn];exact LM _ _
 clear L;simp only[yD];walk_at"dl";refine⟨ps,f,log,rfl,E,I,by lia,λP Y kvs p3 gk sh nk kl al=>?_⟩;have mem:∀k,aI (bu f log) k=a8↔aI kvs k=a8:=λk=>by
  constructor;intro O;cases F:aI kvs k with
  |none=>rfl
  |some d=>obtain⟨⟨e,_,_,_,_,K,_⟩,Z⟩:=sh _<|bw F;rw[rD K Z]at O;cases O
  intro O;cases F:aI (bu f log) k with
  |none=>rfl
  |some e=>have hm:=dH.mp<|bw F;obtain⟨d,hd⟩:=al k e (fE bn.nd hm.1) hm.2;rw[hd]at O;cases O
 replace p3:=p0.trans p3;clear p0 al;simp only[yC];walk_at"dl";have g4:(Y++[MO.lst log])[Y.length]?=a7 (.lst log):=ao;have p4:[mo] <+: Y++[MO.lst log]:=p3.trans bD;have j:pW (Y++[MO.lst log]) P kvs:=AG bD gk;have V:∀p∈kvs,K8 (bf f log) (Y++[MO.lst log]) P p/\¬br (bf f log) log p.1:=λp hp=>⟨(sh p hp).1.more,(sh p hp).2⟩
 clear p3 gk sh;generalize Y++[MO.lst log]=o at g4 p4 j V;generalize Y.length=q4 at g4;have T:∀M',o <+: M'->M'[P]?=o[P]?:=λM' p=>by rcases j with g|⟨_,g⟩<;>(rw[g];exact bA p g)
 simp only[yB];walk_at"dl";refine⟨kvs,j,λ_=>?_⟩;refine aT (λi S M'=>∃a b c d,o <+: M'/\S=[a7<|.ref 0,a7<|aC ps f,a7<|.tup log,a7<|.ref P,a7<|.ref q4,a,b,c,d,a8,a8,a8,a8]) ?_ ?_ ⟨_,_,_,_,Nd,rfl⟩;rintro S M' ⟨a,b,c,d,pM,rfl⟩;refine⟨T _ pM,?_⟩;exact law_9 E I tm ll mem (bA pM g4) (AG pM j) (p4.trans pM) h;rintro i y S M' hy ⟨a,b,c,d,pM,rfl⟩ G hG;rw[E1]at hy;obtain⟨⟨k,v⟩,hp,rfl⟩:=MT.mp hy;obtain⟨⟨e,m,xs,h1,h2,K,h4,h5⟩,Z⟩:=V _<|K7 hp;dsimp only at h1 K Z;subst h1;have F:=rD K Z;obtain⟨e1,e2⟩:=Km bn K;have km:=aQ e2;have de:=I e km.1;have hs:St k:=by rw[e1];exact de.st
 have hr:cw e∈f.map (·.1):=by obtain⟨t,z,k,be,r,u,s,rfl,_,_,hr,_⟩:=jJ de km.2;exact hr
 have tb:=fF (st:=k) (mem:=iS f<|cw e)<|kinds log<|v6 "like";have kn:=bj (log:=log) (k:=v6 "like");rw[show jh k (iS f<|cw e) (kinds log<|v6 "like")=eX log k (iS f<|cw e)from rfl]at tb;obtain⟨l,ol⟩:=on_ex tb;have aS:l.length<=40:=by have:=ol.len;have:=tb.len;lia
 have U:(bv l).all (NB 4)=a9:=zL (by lia);have aD:(bv l).length<=40:=by unfold bv;rw[x6];have:=kr l;lia
 have W:∀w l',aI (bu f log) k=a7 w->NC (eX log k<|iS f<|cw w) l'->l'=l:=λw l' h1 h2=>by rw[F]at h1;cases h1;exact Ja h2 ol
 refine⟨T _ pM,?_⟩;dsimp only;walk_at"dl";refine⟨trivial,_,.inl<|bA pM h4,?_⟩;rw[Oz];refine⟨ps,f,log,k,cw e,l,rfl,E,hs,I,by lia,hr,ol,?_⟩;have X:(M'++[MO.lst<|bv l])[M'.length]?=a7 (.lst<|bv l):=ao;have p7:o <+: M'++[MO.lst<|bv l]:=pM.trans bD;generalize M'++[MO.lst<|bv l]=B at X p7;generalize M'.length=q7 at X;simp only[yA];walk_at"dl";refine⟨ps,f,log,k,rfl,hs,E.pnd,I,by lia,(λz=>by rw[F]at z;cases z),λw C l' H _=>?_⟩;rw[W w l' C H];have J:(B++[MO.lst<|bv l])[B.length]?=a7 (.lst<|bv l):=ao;have A:(B++[MO.lst<|bv l])[q7]?=a7 (.lst<|bv l):=ae X;have p8:o <+: B++[MO.lst<|bv l]:=p7.trans bD;have Q:q7≠B.length:=by have:=aE X;lia
 have b8:o.length<=B.length:=p7.length_le;generalize B++[MO.lst<|bv l]=B8 at J A p8;generalize B.length=q8 at J Q b8;simp only[yz];walk_at"dl";refine⟨_,_,rfl,.inr ⟨q8,q7,4,bv l,rfl,rfl,rfl,.inl J,.inl A,by lia,U⟩,?_⟩;walk_at"ifs";simp only[yy];walk_at"dl";refine⟨⟨_,.inl J⟩,D6 _,ah (by decide),_,J,ah (by lia),?_⟩;have g9:=bc (x:=.lst<|bv l++[D.tup [.str<|v6 "good",.tup []]]) Q A;have p9:o <+: B8.set q8 (.lst<|bv l++[D.tup [.str<|v6 "good",.tup []]]):=ci p8 b8;generalize B8.set q8 (.lst<|bv l++[D.tup [.str<|v6 "good",.tup []]])=B9 at g9 p9;simp only[yx];walk_at"dl";refine⟨ps,f,log,k,rfl,hs,E.pnd,I,by lia,(λz=>by rw[F]at z;cases z),λw C l' H _=>?_⟩;rw[W w l' C H];refine⟨_,_,rfl,.inr ⟨_,q7,4,bv l,rfl,rfl,rfl,am,.inl<|ae g9,by lia,U⟩,?_⟩;walk_at"ifs";exact C6.now<|hG _ _ ⟨_,_,_,_,p9.trans bD,rfl⟩
theorem ok_law(T:Tops P w K mg base)(F:MH K "law" "law" (top 65) f fd):FnOk P w K mg base K9 10 f fd Fw (Mr K FU):=Do (N:=["_law_script","_law_house_here","_law_log_here","_law_shown_here","_law_handed","_law_stamp","_law_told_here","_law_due_here","_law_found","_law_time","_law_hand","_law_number","_law_act_here"]) T.b F (by walk_at"sc") FQ (by have:=(lW T).nev;have:=nV T;have:=xh T;have:=Cq T;have:=Cr T;have:=Jb T;have:=Cn T;have:=vY T 5;have:=Jc T;have:=xg T;walk_at"dv") HD
end
end LW
namespace PySem.W.Fast
def tw10030082585711936310:=Nat
def tw10043417599857441104:=Nat
def tw10105827243358477935:=Nat
def tw101308463331285234:=Nat
def tw10140211040165006358:=Nat
def tw10189283813593253336:=Nat
def tw10210081065146028644:=Nat
def tw10216192206622818873:=Nat
def tw10283667178621654407:=Nat
def tw10299885579038968231:=Nat
def tw10331953772476872224:=Nat
def tw10368602257766811255:=Nat
def tw10443209640784556217:=Nat
def tw10452438686755237689:=Nat
def tw10532031419491665169:=Nat
def tw10536220937443855202:=Nat
def tw10540986942188315859:=Nat
def tw10547803811133729657:=Nat
def tw10556081448543715172:=Nat
def tw10671325900393511400:=Nat
def tw10710004947647877360:=Nat
def tw10846144620588254458:=Nat
def tw10884016961928149982:=Nat
def tw10907994696515581066:=Nat
def tw10912542240384637173:=Nat
def tw10924778056991346296:=Nat
def tw10955274206084664952:=Nat
def tw11071743142292484995:=Nat
def tw11081911394602933746:=Nat
def tw11095900198614857139:=Nat
def tw11121957537645873564:=Nat
def tw11179964218451387251:=Nat
def tw11403220389634750666:=Nat
def tw11406855565562869138:=Nat
def tw11447411309155924183:=Nat
def tw11472788451090054524:=Nat
def tw11515735736349811604:=Nat
def tw11543943729635365958:=Nat
def tw11598284148904483887:=Nat
def tw1167632186979829908:=Nat
def tw11721365057354948549:=Nat
def tw11733321130443745262:=Nat
def tw11746017317569068561:=Nat
def tw11776170557992077409:=Nat
def tw11836901693994217769:=Nat
def tw11838538061832089334:=Nat
def tw11977701917812804619:=Nat
def tw12052724785488114749:=Nat
def tw12138626043491920388:=Nat
def tw12175553547455885332:=Nat
def tw12262690376438636127:=Nat
def tw1226725014160017289:=Nat
def tw1234788160525273236:=Nat
def tw12361356804561113427:=Nat
def tw12389019007156495396:=Nat
def tw12407522931052723247:=Nat
def tw124173880713767820:=Nat
def tw12428183536830154054:=Nat
def tw12590763628128023686:=Nat
def tw12615886043909914265:=Nat
def tw12665339010432092637:=Nat
def tw12666617960322871331:=Nat
def tw12686282492873809669:=Nat
def tw12688844619495981051:=Nat
def tw12730537861760716140:=Nat
def tw12737022194152457364:=Nat
def tw12755075203758091719:=Nat
def tw1275916008302411842:=Nat
def tw12860600034175994901:=Nat
def tw12871667590904969636:=Nat
def tw12878935520200779779:=Nat
def tw12989190726769791407:=Nat
def tw13001710116808613211:=Nat
def tw13183579408836427086:=Nat
def tw13193103386822103267:=Nat
def tw13197552842236451777:=Nat
def tw13241413146246497584:=Nat
def tw13314109516019674618:=Nat
def tw13350720081841181306:=Nat
def tw13438515306284563805:=Nat
def tw13492260427122646866:=Nat
def tw13527241499735427243:=Nat
def tw13607421991790116847:=Nat
def tw13614302970092717169:=Nat
def tw13656478952506894876:=Nat
def tw13677072296210459479:=Nat
def tw13814758754703035:=Nat
def tw13854446864323382784:=Nat
def tw13881358320535743429:=Nat
def tw13936995931011374940:=Nat
def tw14040098032896594709:=Nat
def tw14085448944842500477:=Nat
def tw14225260296821289837:=Nat
def tw14230443965176724206:=Nat
def tw1430271915510026760:=Nat
def tw14315557956391672328:=Nat
def tw14374190395768107411:=Nat
def tw14402261406002816294:=Nat
def tw14437132319552808579:=Nat
def tw14441400840312121339:=Nat
def tw144989480546248283:=Nat
def tw14686484424926045773:=Nat
def tw14701192470961819269:=Nat
def tw14738423160234096230:=Nat
def tw14837202113916813392:=Nat
def tw1486530553295426568:=Nat
def tw14893991674491999284:=Nat
def tw14909651773589905221:=Nat
def tw14949715626045704971:=Nat
def tw14964610298280329376:=Nat
def tw15001631921283658615:=Nat
def tw15122148359976135067:=Nat
def tw15126312584076707916:=Nat
def tw15129445871968786877:=Nat
def tw15204614979829718331:=Nat
def tw1521097567385749969:=Nat
def tw15238061245433965142:=Nat
def tw15252107331334923388:=Nat
def tw15282478557031842349:=Nat
def tw15331161881932730123:=Nat
def tw15352994042560510567:=Nat
def tw15373448241288782605:=Nat
def tw15434759139883918244:=Nat
def tw15481595860107243963:=Nat
def tw15489150095951013980:=Nat
def tw15513400542132290868:=Nat
def tw15568233043762996456:=Nat
def tw15610209574621943869:=Nat
def tw15727770434634529672:=Nat
def tw15769876814604655035:=Nat
def tw15772619338720327009:=Nat
def tw15783813775768112149:=Nat
def tw15934188246520284718:=Nat
def tw15965766698228751723:=Nat
def tw16140747312546030550:=Nat
def tw16160289131830470138:=Nat
def tw16175396563544055161:=Nat
def tw1617647431641771624:=Nat
def tw16279021876746284026:=Nat
def tw16323226719634747704:=Nat
def tw16325287380073884779:=Nat
def tw16325865607541206860:=Nat
def tw16407814662858736351:=Nat
def tw1656104966852254739:=Nat
def tw16701344061107681708:=Nat
def tw1671401202948456549:=Nat
def tw16715330314192530240:=Nat
def tw16737015688850264947:=Nat
def tw16834895521256317378:=Nat
def tw16837035721465643110:=Nat
def tw16914792244026854915:=Nat
def tw17006263732982091728:=Nat
def tw17026264279549048341:=Nat
def tw17046615621638467666:=Nat
def tw17058427045446744415:=Nat
def tw17116501338726965679:=Nat
def tw17121293973920721862:=Nat
def tw17234113293252945888:=Nat
def tw17271310344776467878:=Nat
def tw17374343976127241401:=Nat
def tw17450761572848085484:=Nat
def tw17502525208584278023:=Nat
def tw17600210916125767387:=Nat
def tw17635446689266424843:=Nat
def tw17673686165453627865:=Nat
def tw17746036986626825336:=Nat
def tw17749749911002725441:=Nat
def tw17787150667257515620:=Nat
def tw1779116379278360307:=Nat
def tw17792248722307036211:=Nat
def tw17845522174933193245:=Nat
def tw17908229980937072337:=Nat
def tw17938869375482190749:=Nat
def tw17969395694583113318:=Nat
def tw17986979806272354621:=Nat
def tw18023885856187004358:=Nat
def tw18070549479255690320:=Nat
def tw18105700785252092709:=Nat
def tw18122888520234033177:=Nat
def tw18123979644485194590:=Nat
def tw18125947625938714412:=Nat
def tw18149666841472706173:=Nat
def tw18290722852458002057:=Nat
def tw18311638392627810574:=Nat
def tw18336406391070684890:=Nat
def tw18419198168910863708:=Nat
def tw1970255051224183139:=Nat
def tw1988206200573398696:=Nat
def tw2001084142694943591:=Nat
def tw2013528732164281587:=Nat
def tw201986989786780292:=Nat
def tw2140682621176857074:=Nat
def tw2151603530423420995:=Nat
def tw2180290744828641858:=Nat
def tw2217350015674023304:=Nat
def tw2259963454044758635:=Nat
def tw2280308288016144289:=Nat
def tw2323239475302601589:=Nat
def tw2450248210408433290:=Nat
def tw2514311020167027373:=Nat
def tw2534337963046208557:=Nat
def tw2535303919236888588:=Nat
def tw2669601242127234934:=Nat
def tw2672779484275977045:=Nat
def tw2951968657215971204:=Nat
def tw3131675272983491630:=Nat
def tw3136317992176271853:=Nat
def tw3137196127716841309:=Nat
def tw318727776600371326:=Nat
def tw3236698114280212008:=Nat
def tw3283088642711995813:=Nat
def tw3290284827931517985:=Nat
def tw3299389501539257488:=Nat
def tw3450377006999338373:=Nat
def tw3463221197404905032:=Nat
def tw353463495927960877:=Nat
def tw3577854627971615890:=Nat
def tw3600772635312161731:=Nat
def tw3653046398398697211:=Nat
def tw3719955149941965449:=Nat
def tw3780983713103523411:=Nat
def tw378814833984042985:=Nat
def tw3801524576580871010:=Nat
def tw3958131237022490241:=Nat
def tw4000369451692207202:=Nat
def tw4034338126499723673:=Nat
def tw4115122538407922015:=Nat
def tw4118963929976527175:=Nat
def tw4254875774554854078:=Nat
def tw4284928128674982569:=Nat
def tw4287337043474578888:=Nat
def tw4300635124998277899:=Nat
def tw4307498964846378456:=Nat
def tw4403156458663683254:=Nat
def tw4406479964634930269:=Nat
def tw4414153040435772430:=Nat
def tw4425542815514432951:=Nat
def tw4438279678339051960:=Nat
def tw4527138633365662981:=Nat
def tw4556642334992003672:=Nat
def tw4599614327027395533:=Nat
def tw4813811222746538733:=Nat
def tw4869028474920061485:=Nat
def tw4908237843341417555:=Nat
def tw5010363039789042504:=Nat
def tw5025851172434600535:=Nat
def tw5027228389153968378:=Nat
def tw514468332956774394:=Nat
def tw5170480255567360035:=Nat
def tw523980357914373324:=Nat
def tw5458794944881204328:=Nat
def tw5577101217613542957:=Nat
def tw564474754814323405:=Nat
def tw5685597413287514824:=Nat
def tw5716821707797083577:=Nat
def tw574569809318612500:=Nat
def tw574729736786345502:=Nat
def tw589500397662923517:=Nat
def tw5976608587174430837:=Nat
def tw5989934572270200044:=Nat
def tw6003620567839824989:=Nat
def tw6033418153653903533:=Nat
def tw6040615338063166022:=Nat
def tw6101391781981161097:=Nat
def tw6143247370904430189:=Nat
def tw6172923268430121462:=Nat
def tw6185267117442215058:=Nat
def tw6218687282792535089:=Nat
def tw6264622925713905578:=Nat
def tw6276608131401940227:=Nat
def tw6290893284378154047:=Nat
def tw6310410541018398535:=Nat
def tw6351409378600966958:=Nat
def tw6351959501898222998:=Nat
def tw6352463856274479786:=Nat
def tw6374958747535172540:=Nat
def tw6459917110363082824:=Nat
def tw6470895882073046475:=Nat
def tw6505888514794453142:=Nat
def tw6546728486370674956:=Nat
def tw6679726870007729336:=Nat
def tw6689376540898788163:=Nat
def tw6701439731205896225:=Nat
def tw6733085140836192845:=Nat
def tw6750499537200308900:=Nat
def tw6762589442819017458:=Nat
def tw6779404074067595325:=Nat
def tw6803454202632651097:=Nat
def tw6821014693706982554:=Nat
def tw6823792513714895423:=Nat
def tw6859582885499020595:=Nat
def tw6864606167434147515:=Nat
def tw6944690294394551726:=Nat
def tw6953858239690974879:=Nat
def tw6956891303982389011:=Nat
def tw7016345623155846425:=Nat
def tw7025504657064167150:=Nat
def tw7028137294755564797:=Nat
def tw7030309288555524909:=Nat
def tw7070276743714254858:=Nat
def tw7111820473473354549:=Nat
def tw7124592414784132735:=Nat
def tw7201252839131386752:=Nat
def tw7215349636769716862:=Nat
def tw7252559366766785614:=Nat
def tw7271830117451672387:=Nat
def tw7306601676581666646:=Nat
def tw7338507061593466662:=Nat
def tw7338894807459464210:=Nat
def tw7346923058515343340:=Nat
def tw735809645141493211:=Nat
def tw7404576617049595184:=Nat
def tw7491415514417388661:=Nat
def tw7496815049870445872:=Nat
def tw7596493118658235042:=Nat
def tw762171196966618390:=Nat
def tw7663209516112862242:=Nat
def tw7694910850397643861:=Nat
def tw7734457202771478866:=Nat
def tw775334080889571334:=Nat
def tw7757542038150282478:=Nat
def tw7835388606151694850:=Nat
def tw7871064876915960347:=Nat
def tw7935067930222386665:=Nat
def tw798574531647648256:=Nat
def tw8018579921139806635:=Nat
def tw8050895096481572378:=Nat
def tw8093045548706400627:=Nat
def tw8154220893629519349:=Nat
def tw8170910877029177379:=Nat
def tw8175503681687201233:=Nat
def tw8197606987359927898:=Nat
def tw8260452662093479720:=Nat
def tw8319384479216481538:=Nat
def tw8524592367906564938:=Nat
def tw8572158385444319707:=Nat
def tw8630206159559339783:=Nat
def tw8634756210344648057:=Nat
def tw8656466088057066491:=Nat
def tw8658865865632610194:=Nat
def tw8836343856190418402:=Nat
def tw8841794000981804630:=Nat
def tw8852731903681515023:=Nat
def tw892743051603229681:=Nat
def tw9013895935026955977:=Nat
def tw9026362359389071609:=Nat
def tw908066095917148483:=Nat
def tw9093929035936509061:=Nat
def tw9110529045730156653:=Nat
def tw9128930234872155373:=Nat
def tw9187535904904112374:=Nat
def tw9226095559019106430:=Nat
def tw92428135768648876:=Nat
def tw932620534867396687:=Nat
def tw9344188846914747582:=Nat
def tw9415051026900238651:=Nat
def tw9441058968056484326:=Nat
def tw9498898338002970020:=Nat
def tw9556364005463103085:=Nat
def tw9573795080619093952:=Nat
def tw9586423221795156917:=Nat
def tw9587312519699951376:=Nat
def tw9611620630185243677:=Nat
def tw9627146375296763880:=Nat
def tw9650593084087330708:=Nat
def tw9658497850097575137:=Nat
def tw968114739086272482:=Nat
def tw9721951448835202612:=Nat
def tw9849218690140587079:=Nat
def tw9947629669464222785:=Nat
end PySem.W.Fast
theorem L2.us1{P:List ADB->Prop}(h:∀a0,P [a0]):∀us:List ADB,us.length=1->P us
 | [a0],_=>h a0
theorem L2.us2{P:List ADB->Prop}(h:∀a0 a1,P [a0,a1]):∀us:List ADB,us.length=2->P us
 | [a0,a1],_=>h a0 a1
theorem L2.us3{P:List ADB->Prop}(h:∀a0 a1 a2,P [a0,a1,a2]):∀us:List ADB,us.length=3->P us
 | [a0,a1,a2],_=>h a0 a1 a2
theorem L2.us4{P:List ADB->Prop}(h:∀a0 a1 a2 a3,P [a0,a1,a2,a3]):∀us:List ADB,us.length=4->P us
 | [a0,a1,a2,a3],_=>h a0 a1 a2 a3
theorem L2.us5{P:List ADB->Prop}(h:∀a0 a1 a2 a3 a4,P [a0,a1,a2,a3,a4]):∀us:List ADB,us.length=5->P us
 | [a0,a1,a2,a3,a4],_=>h a0 a1 a2 a3 a4
local macro_rules | `(tactic| walk_at"fk")=>`(tactic| ((case a=>k_is);(case l=>k_is);(case c=>k_is);(case k=>k_is)))
local macro_rules | `(tactic| walk_at"f1")=>`(tactic| (refine' L2.fnat_mk (by assumption) (by assumption) ?a ?l ?c ?k (λ_ _ _ _ _ _=>L2.us1 (λ_=>rfl));walk_at"fk"))
local macro_rules | `(tactic| walk_at"f2")=>`(tactic| (refine' L2.fnat_mk (by assumption) (by assumption) ?a ?l ?c ?k (λ_ _ _ _ _ _=>L2.us2 (λ_ _=>rfl));walk_at"fk"))
local macro_rules | `(tactic| walk_at"f3")=>`(tactic| (refine' L2.fnat_mk (by assumption) (by assumption) ?a ?l ?c ?k (λ_ _ _ _ _ _=>L2.us3 (λ_ _ _=>rfl));walk_at"fk"))
local macro_rules | `(tactic| walk_at"f4")=>`(tactic| (refine' L2.fnat_mk (by assumption) (by assumption) ?a ?l ?c ?k (λ_ _ _ _ _ _=>L2.us4 (λ_ _ _ _=>rfl));walk_at"fk"))
local macro_rules | `(tactic| walk_at"f5")=>`(tactic| (refine' L2.fnat_mk (by assumption) (by assumption) ?a ?l ?c ?k (λ_ _ _ _ _ _=>L2.us5 (λ_ _ _ _ _=>rfl));walk_at"fk"))
open PySem PySem.W PyProof.Rows
set_option maxRecDepth 100000 in
set_option maxHeartbeats 0 in
theorem PySem.Challenge.cw_talkmarks_k30_likes_holds : PySem.Challenge.rw_talkmarks_k30_likes.Holds := by
 w_on; o_law; k_head; (case hw=>w_witness2)
 k_fill
 refine L2.law_walk (l:=PySem.Challenge.rw_talkmarks_k30_likes) (k:=10) (st:=LW.top 65) (x:="_law_script") rfl rfl rfl ⟨rfl,by decide,by decide⟩ (fun w h Y=>PySem.W.kIn_of Y) ?F<|fun _ _ _ _ _ _ _=>rfl
 case F =>
  intro w mg h X G;have T:∀ P base,LW.Tops P w (L2.KOf X) mg base:=by
   intro P base;dsimp only[L2.KOf];constructor;walk_at"f1";walk_at"f2";walk_at"f2";walk_at"f2";walk_at"f2";walk_at"f2";walk_at"f2";walk_at"f1";walk_at"f1";walk_at"f2";walk_at"f1";walk_at"f1";walk_at"f3";walk_at"f2";walk_at"f2";walk_at"f3";walk_at"f2";walk_at"f2";walk_at"f2";walk_at"f2";walk_at"f3";walk_at"f3";walk_at"f3";walk_at"f1";walk_at"f3";walk_at"f2";walk_at"f2";walk_at"f2";walk_at"f3";walk_at"f2";walk_at"f1";walk_at"f1";walk_at"f2";walk_at"f3";walk_at"f3";walk_at"f4";walk_at"f5";walk_at"f3";walk_at"f2";walk_at"f2";walk_at"f2";walk_at"f1";walk_at"f4";walk_at"f3";walk_at"f1"
   ·unfold LW.B_ LW.C_
    iterate 15 (refine' L2.TopB.b ?tq ?_; (case tq=>refine' PySem.W.mg_none_of X G ?tr; (case tr=>k_is)))
    exact .nil
   kernel_rfl
  exact ⟨(T PySem.Challenge.pw_talkmarks_k30_likes {}).f_law,fun base f d F=>LW.ok_law (T _ base) F⟩
