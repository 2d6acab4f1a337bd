import PyProof.Rows.All
import Wide.All
import OpenK.AllK
import Wide.FinOn
import Lean
import PyProof.EqAt
import PyProof.EqKinds
import PyProof.TupleCall
import PyProof.CompFree
import PyProof.NeKinds
import KE.KSortTup
import KE.KRevSl
import KE.KDictSum
import KE.KEqDict
import PyProof.Conv_int_bool
import PyProof.AttrMissHeap
import KE.KLam
import KE.KRevIter
import PySem.Challenge.RW_talkmarks_k54_whole_bells
open PySem.Str renaming ofString->AA0
open PySem renaming wpAny_bind->p8,wpAny_pure->t4,Spec->AAB,wpAny_holding->D7,wpAny_newObj_type->J5,wpAny_call_entry->K1,wpAny_callSpecial?_slot->Nh,wpAny_mono->E9,codeAny_builtin->Mp,wpAny_setState_of->MV,mem_of_lookup->NN,plainId_quiet->Mw,wpAny_fieldsOf->MT,wpAny_seqItems->Nd,wpAny_ite_split->Nn,wpAny_forIn_list->NL,wpAny_truthy_bool->N4,sizeLine_eq->Mu,eqIsQuiet_byValue->N1,wpAny_setField->Nm,wpAny_typeOf->MS,wpAny_specialOf->NK,wpAny_notOrdered_dict->O2,wpAny_Call_Name_kw->OC,wpAny_typeNameOfWhole_keyiter->Q2,wpAny_typeNameOfWhole_valiter->Q1,wpAny_askSetting->Ox,wpAny_isInstance->Ow,builtinLookup_eq_fast->P3,wpAny_attempt->NI,wpAny_passesOwn->Ov,wpAny_loadPart'->QW,wpAny_rule->MQ,wpAny_dictEntries->OZ,wpAny_typeNameOf_keyiter->QU,wpAny_typeNameOf_valiter->QT,wpAny_setEntries_of->PZ,Value->AD6,wpAny_callSpecialIfBoundUnlessNone?_slot->RY,wpAny_dictEpoch->OY,wpAny_newList->Om,wpAny_tryCatch->OV,wpAny_pyHash_int->PM,wpAny_pyHash_str->PL,codeAny_mono->Og,typeLookup_type->PH,wpAny_updateSeq->PF,wpAny_Call_method_late->Rs,wpAny_pyIter_list->Qy,wpAny_pyIter_slot->Qu,atKey_none_of_get->Qt,wpAny_isOneOf_valiter->Ro,wpAny_execs_nil->Qn
open PySem.Heap renaming get?_push_of_some->v5,get?_push_size->A1,lt_size->v9,get?_update_self->L1,get?_update_other->Nx,size_push->Mx,get?_update_ne->OD,SameBut->Nb
open List renaming length_map->u6,getElem?_eq_getElem->w9,getElem?_eq_some_iff->x9,mem_cons_of_mem->A5,size_toArray->z7,mem_map->v6,length_append->A3,mem_of_getElem?->D2,mem_cons_self->C5,getD_eq_getElem?_getD->G6,mem_filter->A7,getElem?_map->C8,mem_cons->A0,length_cons->C3,mem_append_right->F6,getElem?_append_left->J0,length_nil->C2,mem_append->D6,map_cons->C4,prefix_append->G3,all_eq_true->E5,length_singleton->K2,length_take->F5,getElem?_append_right->MB,nil_append->F4,map_append->F0,append_assoc->G7,length_filter_le->L6,mem_singleton->J6,range->A9,mem_append_left->L5,append_nil->G2,mem_map_of_mem->L0,getElem?_set_self->MA,mem_range->G4,take_length->K9,map_map->Fn,lt_irrefl->I9,length_set->J7,take_add_one->Mh,any_eq_true->L4,filterMap_cons->MJ,getElem_mem->Mg,nodup_iff_pairwise_ne->NO,getElem?_set_ne->MX,getElem?_of_mem->Ng,find?_cons->Mq,getElem?_eq_none->Nw,cons_lt_cons_iff->Nv,length_drop->MI,zip_cons_cons->Nf,all_cons->Me,getElem?_take_of_lt->OF,nodup_cons->MU,length->K8,filter_append->NM,filter_cons->Np,getElem?_drop->N6,toArray->MH,pairwise_iff_getElem->P6,prefix_rfl->NJ,lookup_cons->N0,pairwise_map->Oz,map_id->MR,take_of_length_le->P4,getElem_map->Oy,mem_filterMap->O1,drop_eq_getElem_cons->QX,mem_of_mem_take->P2,pairwise_append->P1,length_range->O0,find?_some->Os,getElem?_replicate->QS,getElem_of_mem->P0,eq_nil_of_length_eq_zero->RL,nodup_nil->On,drop_eq_nil_of_le->QP,length_replicate->QN,foldl_append->PQ,filter_congr->PN,mem_of_find?_eq_some->RG,not_mem_nil->PJ,filter_sublist->QI,filter_cons_of_neg->Ry,pairwise_singleton->Rx,getElem?_cons_succ->Rw,getElem?_take->QE,filter_map->PC,filterMap_nil->QC,filter_filter->QB,take_sublist->Qz,ext_getElem?->Qx,find?_append->Qs,nodup_append->Qr,replicate->Py,set_append_right->Rp,cons_append->Qq,nodup_range->Qp,any_cons->Px,lt_trans->Pv,map_drop->Pu,of_mem_zip->Qm,map_congr_left->Rl,map_nil->Ps,any_map->Pp,drop_zero->Qh,find?_map->Qf,getD->Od
open PySem.W renaming Frag->u4,kas_desc->Ix,keepIn->NX,fnOf->NF,kas_rev->L3,kas_place->M8,cellsFrom_some->Ru,kas_asc->Mt,findIn->PB,kas_sort->M7,kas_descPart->OR,codeIn->Qj,methodObj->Rj
open Nat renaming le_refl->u7,ne_of_lt->x6,zero_le->z5,lt_of_lt_of_le->G5,lt_irrefl->D5,le_trans->D4,lt_succ_self->K0,lt_succ_of_lt->Nq,lt_or_ge->Mv,not_lt_zero->No,lt_trichotomy->OB,not_lt->M9,sub_self->NU,le_add_right->PK,le_of_lt->Oh,min_eq_left->PD,le_succ->Of,ne_of_gt->OS,lt_trans->Pq
open Bool renaming false_eq_true->B9,and_eq_true->C9,eq_false_iff->My,false_ne_true->Nt,not_true->Nl,eq_iff_iff->NZ,or_eq_true->NY,false_and->Oq,not_eq_true'->PP,false_or->Oi,true_and->OU,and_false->Qi
open Option.some renaming inj->A8
open Classical renaming propDecidable->F9,byContradiction->Ny
open Array renaming getElem?_eq_getElem->G9,length_toList->E2,getElem?_toList->G8,getElem?_eq_some_iff->Ni,getD_eq_getD_getElem?->N8,forIn_toList->N5,getElem?_eq_none->O3,getD->MF,toList_push->Qw
open PySem.SetTable renaming below->E1,runEnd->J4,bits->Nc,leap->NH,Probe->NW,grown->Oo,turns->OW,fits->OT,insertAt->Qv,sizeAbove->Rk,fill->Qe
open Option renaming map_eq_some_iff->Mz,isSome_iff_exists->RF
open PySem.Heap.SameBut renaming update->Mr
open PySem.Around renaming under_plainId->MW
open PySem.Obj renaming mapSeq->F8,mapFields->Oj,data_mapDictKeys->QK,isFreed_of_dict->QJ,data_mapFields->QD,data_mapDict->Qo,putSet->OP
open List.Pairwise renaming filter->Nu,nil->PR,and_mem->Rn
open PyProof.Rows renaming slot_tuple_getitem->O5,get?_update_seq->Ot,callWith_type1->RK,listUpdate_at->Ol,listItems_at->OQ
open Ne renaming symm->B8
open PySem.Builtin.Str renaming strKind->N7,occurrences->QR,strSliceIndices->RJ
open PySem.NameKind renaming free->Mf,cell->NV
open PySem.Builtin.Tuple renaming tupleHashOf->OG,tupleItemsOf->QZ,tupleExact->QV,tupleCompareSizes->RX
open Sum renaming inr->ABe
open PySem.Value renaming ref->G1,none->Mo,type->NE,bool->Oe
open Int renaming toNat_natCast->Nr
open PySem.F renaming plain_max_loop->OE,slot_tuple_getattribute->Q4,slot_list_getattribute->Q3,plainAttrs_dict->QQ,slot_dict_get->QM,kt_typeCall_dict_1->RI,args_tuple_add_2->RE,slot_dict_values->RC,args_dict_init_2->RB,entry_tuple_add->Rz,entry_dict_init->Rv,slot_tuple_add->Rt,kt_called_dict->Rr,entry_max_loop->Rq
open PySem.Txt renaming split->I0,slice->K7,startswith->OX
open PySem.Builtin.Dict_items renaming ownsTuple->P7
open PySem.Builtin.Dict renaming updateFrom->O4,showsAll->QL,selfAndRest->RA
open PySem.SetTable.below renaming go->OA
open PySem.Builtin.List renaming listExtendWith->Q0,listTooLong->RD,listLengthHint->RW
open PySem.Calls renaming callWith_builtin->P5,spliced_cons->QH,spliced_nil->QA,evalArgs_plain->Rm
open PySem.SeqAt renaming EqAt->MG
open PySem.Shared renaming TypeIs->NG
open PySem.Builtin.Slice renaming slicePlaces->QY,sliceAdjust->RH,sliceApplied->RU
open List.cons renaming injEq->Ou,inj->Pw
open False renaming elim->Na
open List.Perm renaming refl->Op,cons->Qg
open PySem.SetTable.layClean renaming free->QO
open PySem.SeqAt.EqAt renaming int_str->PY,str_int->PU,int_int->QG,str_str->QF,same->Qk
open ForInStep renaming yield->Ql
open PySem.Expr renaming Call->NT
open PySem.Builtin.Builtins renaming bindParams->RV
open PySem.SetTable.probe renaming go->Ri
open Option renaming some->a7,none->a8
open Bool renaming true->a9,false->c5
open PySem renaming Value->c6,Str->c7,World->c8,Program->c9,Addr->d5,Obj->d6,Heap->d7,sysModules->d8,entryOfKey->d9,mainGlobals->e8,bootBuiltins->e9,Around->f6,Shared->f7,Scope->f8,wpAny->ge,Expr->h8,model->i3,backTo->i4,starEach->i5,Stmt->i6,holding->i7,swapsWith->i8,assign->i9,assignEach->j0,pyNext->j1,letOwnedTupleGo->j2,pyIter->j3,rawInt->j4,foldedSetIterable->j5,binaryOp->j6,compareOp->j7,behindInMarks->j8,cLine->j9,FuncData->k4,codeAny->k5,NameKind->k6,IsPart->k8,getItem->k9,typeIs_str->l3,sliceBounds->l5,attributeBase->l6,backToKw->l7,keywordEach->l8,Keyword->l9,atKey->m3,reduceHash->m5,DictEntry->m6,Walks->m7,pickOrder->m9,SetTable->n5,firstArgMember->n6
open PyProof.Rows renaming AllBare->f9,envOfC->k7,seqObj->m8
set_option autoImplicit true
set_option relaxedAutoImplicit true
set_option compiler.extract_closed false
set_option Elab.async false
set_option linter.all false
set_option maxRecDepth 100000
def n9:=@if_pos
def o0:=@if_neg
def o4:=@absurd
def o5:=@decide_eq_true_eq
def o6:=@decide_eq_true_iff
def o7:=@beq_iff_eq
def o8:=@if_false
def p5:=@if_true
def p6:=@congrArg
def p7:=@beq_self_eq_true
-- CHANGE: your row's module here,as the last of these r
theorem dF_{p:Prop}[Decidable p](h:¬p):decide p=c5:=decide_eq_false h
theorem dT_{p:Prop}[Decidable p](h:p):decide p=a9:=decide_eq_true h
theorem oT_{p:Prop}[Decidable p](h:decide p=a9):p:=of_decide_eq_true h
namespace L2
open PySem PySem.Spec PyProof.Rows
noncomputable abbrev D3:=Sum Int c7
noncomputable def yQ:D3->c6->Bool
 |.inl k,v=>Value.isInt k v
 |.inr x,v=>Value.isStrOf x v
noncomputable def keyH(w:c8):D3->Int
 |.inl k=>hashInt k
 |.inr x=>hashStr w x
theorem bB:∀{k:D3}{v:c6},yQ k v=a9->(∃i t,k=Sum.inl i/\v=Value.int i t)\/(∃x t,k=ABe x/\v=Value.str x t)
 |.inl i,v,h=>by obtain⟨t,e⟩:=Value.isInt_shape (k:=i) (v:=v) h;exact .inl ⟨i,t,rfl,e⟩
 |.inr x,v,h=>by obtain⟨t,e⟩:=Value.isStrOf_shape (x:=x) (v:=v) h;exact .inr ⟨x,t,rfl,e⟩
theorem BG(i:Int)(t:Tok):yQ (.inl i) (.int i t)=a9:=by simp[yQ,Value.isInt]
theorem BF(x:c7)(t:Tok):yQ (.inr x) (.str x t)=a9:=by simp[yQ,Value.isStrOf]
theorem KO(a b:Int):decide ((Sum.inl a:D3)=Sum.inl b)=(a==b):=by by_cases e:a=b;subst e;simp;have h:¬(Sum.inl a:D3)=Sum.inl b:=λq=>e<|Sum.inl.inj q;rw[dF_ h];exact(beq_eq_false_iff_ne.mpr e).symm
theorem FK(a b:c7):decide ((ABe a:D3)=ABe b)=decide (a=b):=by by_cases e:a=b;subst e;simp;have h:¬(ABe a:D3)=ABe b:=λq=>e<|Sum.inr.inj q;rw[dF_ h,dF_ e]
theorem KN(a:Int)(b:c7):decide ((Sum.inl a:D3)=ABe b)=c5:=dF_<|λq=>nomatch q
theorem KM(a:c7)(b:Int):decide ((ABe a:D3)=Sum.inl b)=c5:=dF_<|λq=>nomatch q
noncomputable def bU(p:c9)(w:c8):PySem.KeyKind p w D3 where
 is:=yQ
 hash:=keyH w
 inj:=λv a b f d=>by
  rcases bB f with⟨i,t,rfl,rfl⟩|⟨x,t,rfl,rfl⟩
  rcases bB d with⟨j,u,rfl,e⟩|⟨y,u,rfl,e⟩
  injection e with e1 _;rw[e1];exact nomatch e
  rcases bB d with⟨j,u,rfl,e⟩|⟨y,u,rfl,e⟩
  exact nomatch e
  injection e with e1 _;rw[e1]
 byValue:=λk v h=>by rcases bB h with⟨i,t,rfl,rfl⟩|⟨x,t,rfl,rfl⟩<;>rfl
 pyHash:=λc h=>by
  rcases bB c with⟨i,t,rfl,rfl⟩|⟨x,t,rfl,rfl⟩
  exact PM h;exact PL h
 eqBool:=λg c h=>by
  rcases bB g with⟨i,t,rfl,rfl⟩|⟨x,t,rfl,rfl⟩
  rcases bB c with⟨j,u,rfl,rfl⟩|⟨y,u,rfl,rfl⟩
  rw[KO]at h;exact wpAny_eqBool_int h;rw[KN]at h;exact PY i t y u _ _ _ _ h;rcases bB c with⟨j,u,rfl,rfl⟩|⟨y,u,rfl,rfl⟩
  rw[KM]at h;exact PU x t j u _ _ _ _ h;rw[FK]at h;exact wpAny_eqBool_str h
 «strs»:=λk x t v h=>by
  rcases bB h with⟨i,u,rfl,e⟩|⟨y,u,rfl,e⟩
  exact nomatch e
  injection e with e1 _;subst e1;cases v<;>rfl
theorem vR(p:c9)(w:c8)(i:Int)(t:Tok):(bU p w).is (.inl i) (.int i t)=a9:=BG i t
theorem vQ(p:c9)(w:c8)(x:c7)(t:Tok):(bU p w).is (.inr x) (.str x t)=a9:=BF x t
inductive V where
 |non|bl (b:Bool)|int (i:Int)|str (x:c7)|byt (b:Array UInt8)|flt (b:UInt64)|ref (a:d5)|ty (n:String)
 deriving DecidableEq
def aZ:V->c6->Prop
 |.non,u=>u=Mo
 |.bl b,u=>u=Oe b
 |.int i,u=>∃t,u=Value.int i t
 |.str x,u=>∃t,u=Value.str x t
 |.byt b,u=>∃t,u=Value.bytes b t
 |.flt b,u=>∃t,u=Value.float b t
 |.ref a,u=>u=G1 a
 |.ty n,u=>u=NE n
abbrev aB:List V->List c6->Prop:=Paired aZ
theorem aB.length(r:aB x u):x.length=u.length:=Paired.length r
theorem aB.get:∀{s:List V}{a:List c6}{i:Nat}{x:V},aB s a->s[i]?=a7 x->∃u,a[i]?=a7 u/\aZ x u
 |_,_,_,_,.nil,e=>by simp at e
 |_,_,0,_,.cons r _,e=>by simp at e;subst e;exact⟨_,rfl,r⟩
 |_,_,i+1,x,.cons _ t,e=>by obtain⟨u,h1,h2⟩:=aB.get (i:=i) (x:=x) t (by simpa using e);exact⟨u,by simpa using h1,h2⟩
theorem aB.set(r:aZ x u):∀{s:List V}{a:List c6} (i:Nat),aB s a->aB (s.set i x) (a.set i u)
 |_,_,_,.nil=>.nil
 |_,_,0,.cons _ t=>.cons r t
 |_,_,i+1,.cons q t=>.cons q<|aB.set r i t
theorem aB.append(h:aB x u)(s:aB y w):aB (x++y) (u++w):=by
 induction h with
 |nil=>exact s
 |cons r t i=>exact .cons r i
theorem aB.take:∀{x:List V}{u:List c6} (n:Nat),aB x u->aB (x.take n) (u.take n)
 |_,_,0,_=>.nil
 |_,_,_+1,.nil=>.nil
 |_,_,n+1,.cons r t=>.cons r<|aB.take n t
theorem aB.drop:∀{x:List V}{u:List c6} (n:Nat),aB x u->aB (x.drop n) (u.drop n)
 |_,_,0,r=>r
 |_,_,_+1,.nil=>.nil
 |_,_,n+1,.cons _ t=>aB.drop n t
def CI:Option V->Option c6->Prop
 |some v,a7 u=>aZ v u
 |none,a8=>True
 |_,_=>False
def KV{κ:Type}:List (κ×V)->List (κ×c6)->Prop:=Paired λ(p:κ×V) (q:κ×c6)=>p.1=q.1/\aZ p.2 q.2
noncomputable def kV:D3->V
 |.inl i=>.int i
 |.inr x=>.str x
inductive HO where
 |lst (xs:List V)
 |tup (xs:List V)
 |dK (kvs:List (D3×V))|dT (kvs:List (List D3×V))
 |set (S:Int->Bool) (n:Nat)
 |ins (C dx:d5) (fs:List (c7×V))
 |own (x:d5)
 |xd (fs:List (c7×V))
 |met (f x:d5)
 |rng (lo hi:Int)
 |frz (o:d6) (u:HO)
 |tbl (ps:Array c6)
 |ext (φ:c9->c8->d7->Prop)
abbrev Hp:=d5->Option HO
noncomputable def v7(H:Hp)(a:d5)(o:HO):Hp:=λb=>if b=a then a7 o else H b
theorem aR:v7 H a o a=a7 o:=by unfold v7;rw[n9 rfl]
theorem ao(h:b≠a):v7 H a o b=H b:=by unfold v7;rw[o0 h]
theorem yD{H:Hp}{a b:d5}{o u:HO}(h:H a=a7 o)(h':H b=a7 u)(d:o≠u):a≠b:=by intro e;subst e;rw[h]at h';exact d<|A8 h'
theorem ae{H:Hp}{a b:d5}{o:HO}(h:H a=a7 o)(h':H b=a8):a≠b:=by intro e;subst e;rw[h]at h';cases h'
section
variable(P:c9)(w:c8)
def Fj(h:d7)(a:d5)(items:Array c6):Prop:=∃o,h.get? a=a7 o/\o.cls=.type "tuple"/\(∃n,o.data=.seq items n)/\o.dict=a8
theorem Fj.tup:Fj h a items->IsTup h a items:=λ⟨o,e,c,⟨n,d⟩,_⟩=>⟨o,e,c,n,d⟩
theorem Fj.new(h:d7)(items:Array c6):Fj (h.push { cls:=.type "tuple",data:=.seq items }) h.objs.size items:=⟨_,A1 _ rfl,rfl,⟨_,rfl⟩,rfl⟩
def cM(H:Hp)(h:d7)(a:d5):HO->Prop
 |.lst s=>s.length<=sizeLine/\∃(i:List c6) (n:Nat),aB s i/\h.get? a=a7 { cls:=.type "list",data:=.seq i.toArray n }
 |.tup s=>s.length<=sizeLine/\∃i:List c6,aB s i/\Fj h a i.toArray
 |.dK k=>k.length<=sizeLine/\(a==d8)=c5/\∃b,KV k b/\h.DictOf (bU P w) a b
 |.dT k=>k.length<=sizeLine/\(a==d8)=c5/\∃s:List (List D3×d5×c6),Paired (λ(p:List D3×V) (q:List D3×d5×c6)=>p.1=q.1/\H q.2.1=a7 (.tup<|p.1.map kV)/\aZ p.2 q.2.2) k s /\∃o e ep,h.get? a=a7 o/\o.ExactDict/\o.data=.dict e ep/\e.toList=s.map (d9<|tupleKind<|bU P w)/\(s.map (·.1)).Nodup
 |.set S n=>h.SetOf (intKind P w) a S n
 |.ins C dx fs=>H dx=a7 (.own a)/\fs.length<=1000/\dx≠a/\h.get? a=a7 (PySem.W.instObj C dx) /\∃mA,h.Ns1 dx mA/\(∀f,CI (fs.lookup f)<|mA f)/\PySem.Within mA (fs.map (·.1))
 |.own _=>∃o,h.get? a=a7 o
 |.xd fs=>∃mA,h.Ns1 a mA/\∀f,CI (fs.lookup f)<|mA f
 |.rng lo hi=>∃t u v,h.get? a=a7 { cls:=.type "range",data:=.fields #[.int lo t,.int hi u,.int 1 v] }
 |.frz o u=>h.get? a=a7 o/\cM H h a u
 |.tbl c=>h.get? a=a7 { cls:=.none,data:=.fields c }
 |.met f x=>h.get? a=a7 (Rj (.ref f)<|.ref x)
 |.ext φ=>φ P w h/\(∃o,h.get? a=a7 o)/\∀h1 h2:d7,φ P w h1->(∀o,h1.get? a=a7 o->h2.get? a=a7 o)->φ P w h2
def D0(H:Hp)(h:d7):Prop:=∀a o,H a=a7 o->cM P w H h a o
end
theorem cM.lt(x:cM P w H h a o):a<h.objs.size:=by
 cases o with
 |lst g=>obtain⟨_,_,_,_,e⟩:=x;exact v9 e
 |tup g=>obtain⟨_,_,_,p⟩:=x;exact p.tup.lt
 |dK s=>obtain⟨_,_,_,_,o,_,_,e,_⟩:=x;exact v9 e
 |dT s=>obtain⟨_,_,_,_,o,_,_,e,_⟩:=x;exact v9 e
 |set S n=>obtain⟨o,_,_,_,e,_⟩:=x;exact v9 e
 |ins C d b=>obtain⟨_,_,_,e,_⟩:=x;exact v9 e
 |own y=>obtain⟨_,e⟩:=x;exact v9 e
 |xd b=>obtain⟨_,⟨_,_,_,e,_⟩,_⟩:=x;exact v9 e
 |rng l hi=>obtain⟨_,_,_,e⟩:=x;exact v9 e
 |frz c u=>obtain⟨e,_⟩:=x;exact v9 e
 |tbl i=>exact v9<|show h.get? a=a7 _ from x
 |met f y=>exact v9<|show h.get? a=a7 _ from x
 |ext φ=>obtain⟨_,⟨_,e⟩,_⟩:=x;exact v9 e
theorem Paired.mapP{α β:Type}{F G:α->β->Prop}:∀{l₁:List α}{l₂:List β},Paired F l₁ l₂->(∀a b,F a b->G a b)->Paired G l₁ l₂
 |_,_,.nil,_=>.nil
 |_,_,.cons r t,f=>.cons (f _ _ r)<|Paired.mapP t f
theorem cM.stay(x:cM P w H h a o)(k:∀b u,(b=a\/H b=a7 (.own a))->h.get? b=a7 u->h'.get? b=a7 u)(B:∀b,H b=a7 (.own a)->H' b=a7 (.own a)) (D:∀b xs,H b=a7 (.tup xs)->H' b=a7 (.tup xs)):cM P w H' h' a o:=by
 induction o with
 |lst xs=>obtain⟨z,its,n,r,e⟩:=x;exact⟨z,its,n,r,k _ _ (.inl rfl) e⟩
 |tup xs=>obtain⟨z,its,r,g,e,c⟩:=x;exact⟨z,its,r,g,k _ _ (.inl rfl) e,c⟩
 |dK s=>obtain⟨z,y,vs,r,g,es,i,e,c⟩:=x;exact⟨z,y,vs,r,g,es,i,k _ _ (.inl rfl) e,c⟩
 |dT s=>obtain⟨z,y,xs,r,g,es,i,e,c⟩:=x;exact⟨z,y,xs,Paired.mapP r λp q z=>⟨z.1,D _ _ z.2.1,z.2.2⟩,g,es,i,k _ _ (.inl rfl) e,c⟩
 |set S n=>obtain⟨g,es,i,t,e,c⟩:=x;exact⟨g,es,i,t,k _ _ (.inl rfl) e,c⟩
 |ins C G m=>obtain⟨d,z,F,e,A,⟨j,es,i,l,c⟩,r⟩:=x;exact⟨B _ d,z,F,k _ _ (.inl rfl) e,A,⟨j,es,i,k _ _ (.inr d) l,c⟩,r⟩
 |own y=>obtain⟨g,e⟩:=x;exact⟨g,k _ _ (.inl rfl) e⟩
 |xd m=>obtain⟨A,⟨j,es,i,e,c⟩,r⟩:=x;exact⟨A,⟨j,es,i,k _ _ (.inl rfl) e,c⟩,r⟩
 |rng I hi=>obtain⟨t,u,v,e⟩:=x;exact⟨t,u,v,k _ _ (.inl rfl) e⟩
 |frz g u E=>obtain⟨e,q⟩:=x;exact⟨k _ _ (.inl rfl) e,E q⟩
 |tbl ps=>have e:h.get? a=a7 { cls:=.none,data:=.fields ps }:=x;show h'.get? a=a7 { cls:=.none,data:=.fields ps };exact k a _ (.inl rfl) e
 |met f y=>have e:h.get? a=a7 (Rj (.ref f)<|.ref y):=x;show h'.get? a=a7 (Rj (.ref f)<|.ref y);exact k a _ (.inl rfl) e
 |ext φ=>obtain⟨p,⟨o,e⟩,st⟩:=x;exact⟨st _ _ p λo q=>k _ _ (.inl rfl) q,⟨o,k _ _ (.inl rfl) e⟩,st⟩
theorem D0.lt(x:D0 P w H h)(e:H a=a7 o):a<h.objs.size:=(x a o e).lt
theorem D0.fresh(x:D0 P w H h)(e:h.objs.size<=a):H a=a8:=by
 cases q:H a with
 |none=>rfl
 |some u=>exact o4 (G5 (x.lt q) e)<|D5 _
theorem D0.kept(x:D0 P w H h)(k:∀b u,h.get? b=a7 u->h'.get? b=a7 u):D0 P w H h':=λa o e =>
 (x a o e).stay (λb u _ q=>k b u q) (λ_ q=>q) λ_ _ q=>q
theorem D0.laid(x:D0 P w H h)(k:∀b u,h.get? b=a7 u->h'.get? b=a7 u)(p:h.objs.size<=a)(n:cM P w (v7 H a o) h' a o):D0 P w (v7 H a o) h':=λb u e=>by have f:=x.fresh p;by_cases d:b=a;subst d;rw[aR]at e;cases e;exact n;rw[ao d]at e;exact(x b u e).stay (λc v _ q=>k c v q) (λc q=>by rw[ao<|ae q f];exact q) λc s q=>by rw[ao<|ae q f];exact q
def Rd(H:Hp)(a:d5)(u:HO):Prop:=H a=a7 u\/∃o,H a=a7 (.frz o u)
theorem Rd.ok(r:Rd H a u)(x:D0 P w H h):cM P w H h a u:=by
 rcases r with r|⟨o,r⟩
 exact x a u r;obtain⟨_,q⟩:=x a _ r;exact q
def Pk:Option HO->Prop
 |some (.lst _)=>True
 |some (.dK _)=>True
 |some (.dT _)=>True
 |some (.set _ _)=>True
 |some (.ins _ _ _)=>True
 |some (.ext _)=>True
 |_=>False
theorem D0.write(ok:D0 P w H h)(m:Pk (H x))(i:e=x\/H e=a7 (.own x))(k:∀b u,b≠e->h.get? b=a7 u->h'.get? b=a7 u)(o:∃u,h'.get? e=a7 u)(g:cM P w (v7 H x o') h' x o'):D0 P w (v7 H x o') h':=λb u q=>by
 have n:∀c y,H c=a7 (.own y)->c≠x:=λc y r z=>by subst z;rw[r]at m;exact m
 have p:∀c s,H c=a7 (.tup s)->c≠x:=λc s r z=>by subst z;rw[r]at m;exact m
 by_cases d:b=x;subst d;rw[aR]at q;cases q;exact g;rw[ao d]at q;by_cases a:b=e;have j:H b=a7 (.own x):=by rcases i with z|z;exact o4 (a.trans z) d;rw[a];exact z
 rw[q]at j;cases j;obtain⟨v,l⟩:=o;exact⟨v,by rw[a];exact l⟩;refine(ok b u q).stay (λc v f r=>k c v ?_ r) (λc r=>by rw[ao<|n c b r];exact r) λc s r=>by rw[ao<|p c s r];exact r
 rcases f with rfl|f;exact a;rintro rfl;rcases i with z|z;exact n c b f z;rw[f]at z;cases z;exact d rfl
structure Un(fs ex:List d5)(H H':Hp)(h h':d7):Prop where
 keep:∀b o,h.get? b=a7 o->H b=a8->b∉fs->b∉ex->h'.get? b=a7 o
 slot:∀b o,h.get? b=a7 o->H b=a8->b∈fs->b∉ex->∃sl,h'.get? b=a7 { o with slots:=sl }
 free:∀b o,h.get? b=a7 o->H b=a8->b∉ex->H' b=a8
 there:∀b o,h.get? b=a7 o->b∉ex->∃o',h'.get? b=a7 o'
 tups:∀b xs,H b=a7 (.tup xs)->H' b=a7 (.tup xs)
 frzs:∀b o u,H b=a7 (.frz o u)->H' b=a7 (.frz o u)
 tbls:∀b ps,H b=a7 (.tbl ps)->∃more,H' b=a7 (.tbl<|ps++more)
theorem Un.any(u:Un fs ex H H1 h h1)(q:h.get? b=a7 ob)(n:H b=a8)(x:b∉ex):∃sl,h1.get? b=a7 { ob with slots:=sl }:=by by_cases d:b∈fs;exact u.slot b ob q n d x;exact⟨ob.slots,u.keep b ob q n d x⟩
theorem Un.kept(k:∀b u,h.get? b=a7 u->h'.get? b=a7 u):Un fs ex H H h h':=⟨λb c q _ _ _=>k b c q,λb c q _ _ _=>⟨c.slots,k b c q⟩,λ_ _ _ n _=>n,λb c q _=>⟨c,k b c q⟩,λ_ _ q=>q,λ_ _ _ q=>q,λ_ p q=>⟨#[],by rw[q];simp⟩⟩
theorem Un.refl:Un fs ex H H h h:=Un.kept λ_ _ q=>q
theorem Un.laid(k:∀b u,h.get? b=a7 u->h'.get? b=a7 u)(p:h.objs.size<=a)(f:H a=a8):Un fs ex H (v7 H a o) h h' where
 keep:=λb u q _ _ _=>k b u q
 slot:=λb u q _ _ _=>⟨u.slots,k b u q⟩
 free:=λb u q n _=>by rw[ao<|x6<|G5 (v9 q) p];exact n
 there:=λb u q _=>⟨u,k b u q⟩
 tups:=λb x q=>by rw[ao<|ae q f];exact q
 frzs:=λb u x q=>by rw[ao<|ae q f];exact q
 tbls:=λb s q=>⟨#[],by rw[ao<|ae q f,q];simp⟩
theorem Un.write(m:Pk (H x))(i:e=x\/H e=a7 (.own x))(k:∀b u,b≠e->h.get? b=a7 u->h'.get? b=a7 u)(c:∃u,h'.get? e=a7 u):Un fs ex H (v7 H x o) h h':=by
 have g:∀b,H b=a8->b≠x:=λb n z=>by subst z;rw[n]at m;exact m
 have f:∀b,H b=a8->b≠e:=λb n z=>by subst z;rcases i with r|r;exact g b n r;rw[n]at r;cases r
 have d:∀b u,H b=a7 u->¬Pk (a7 u)->b≠x:=λb u q j z=>by subst z;rw[q]at m;exact j m
 refine⟨λb u q n _ _=>k b u (f b n) q,λb u q n _ _=>⟨u.slots,k b u (f b n) q⟩,λb u q n _=>by rw[ao<|g b n];exact n,λb u q _=>?_,λb s q=>by rw[ao<|d b _ q λz=>z];exact q,λb u s q=>by rw[ao<|d b _ q λz=>z];exact q,λb p q=>⟨#[],by rw[ao<|d b _ q λz=>z,q];simp⟩⟩;by_cases a:b=e;subst a;exact c;exact⟨u,k b u a q⟩
noncomputable def trk(h:d7)(H:Hp):List d5:=(A9 h.objs.size).filter λa=>(H a).isSome
noncomputable def CG(h:d7)(H:Hp):d7:=PySem.W.hideAll h<|trk h H
theorem BW(h:d7)(H:Hp):(CG h H).objs.size=h.objs.size:=PySem.W.hideAll_size _ _
theorem EA(e:h.get? b=a7 o)(n:H b=a8):(CG h H).get? b=a7 o:=PySem.W.hideAll_get _ e λd=>by have q:(H b).isSome=a9:=(A7.mp d).2;rw[n]at q;simp at q
theorem GU(e:(CG h H).get? b=a7 o):h.get? b=a7 o/\H b=a8:=by
 have a:h.get? b=a7 o:=PySem.W.of_hideAll (trk h H) e;refine⟨a,?_⟩;cases q:H b with
 |none=>rfl
 |some x=>have d:b∈trk h H:=A7.mpr ⟨G4.mpr<|v9 a,by simp[q]⟩;have z:(CG h H).get? b=a8:=PySem.W.hideAll_none (trk h H) d;rw[z]at e;cases e
noncomputable def IU(g h:d7)(L:d5):List (d5×d6):=(A9 h.objs.size).filterMap λa=>if a=L\/(g.get? a).isSome=a9 then a8 else(h.get? a).map λo=>(a,o)
noncomputable def be(g h:d7)(L d:d5):List (d5×d6):=(IU g h L).filter λp=>decide<|p.1≠d
structure Mod(K:u4)(mg:c7->Option c6)(base:d7):Prop where
 kin:K.In base
 glob:base.Ns e8 mg
 blt:∃mb,base.Ns builtinsNs mb/\∀x:c7,x≠"__name__"->mb x=e9 x
 nolimit:base.NoLimit
/-- the context: a def's body (or a comprehension's block) running. base: fixed through the whole law;s₀,H₀: the entry;outer: the frames whose slots others may change (a def's callers);stack: all frames that run;
  ex: iterators that were made fQ of the entry and are walked here (a comprehension's);fn: the names whose cells were made at the entry (a def: all;a comprehension's block: its own);calm: not cu an except suite;pn: pins that every state bears;xe: what is wanted of an exception that leaves the code -/
structure Cx where
 prog:c9
 w:c8
 K:u4
 mg:c7->Option c6
 base:d7
 A:f6
 N:List c7
 s₀:f7
 H₀:Hp
 env:Env
 outer:List Env
 stack:List Env
 ex:List d5
 fn:c7->Bool
 calm:Bool
 pn:List (d5×d6)
 xe:c6->f7->Prop
noncomputable def J1(l:List Env):List d5:=l.filterMap (·.frame)
noncomputable abbrev Cx.fs(X:Cx):List d5:=J1 X.outer
def Oa(c:f8)(x:c7):Prop:=c.names.lookup x=a7 .local\/c.names.lookup x=a7 .cell\/c.names.lookup x=a7 .free
def NR(c:f8)(x:c7):Prop:=c.names.lookup x=a7 .local\/c.names.lookup x=a7 .cell
def Look(env:Env)(h:d7)(m:c7->Option c6)(x:c7)(u:c6):Prop:=(env.kindOf x=a7 .local/\m x=a7 u)\/((env.kindOf x=a7 .cell\/env.kindOf x=a7 .free)/\∃c,env.cells.lookup x=a7 c/\h.IsCell c (a7 u))
structure Cx.Ok(X:Cx):Prop where
 mod:Mod X.K X.mg X.base
 kind:X.env.scope.kind=.function
 glob:X.env.globals=e8
 blt:X.env.builtins=builtinsNs
 above:X.s₀.heap.objs.size<=X.env.locals
 inj:∀x y c,X.env.cells.lookup x=a7 c->X.env.cells.lookup y=a7 c->x=y
 has:∀x,(X.env.kindOf x=a7 .cell\/X.env.kindOf x=a7 .free)->∃c,X.env.cells.lookup x=a7 c
 cab:∀x c,X.fn x=a9->X.env.cells.lookup x=a7 c->X.s₀.heap.objs.size<=c
 hd:X.calm=a9->X.A.handled=a8
 frames:X.A.frames=a7 X.stack
 stk:X.stack=X.outer\/(X.stack=X.env::X.outer/\X.env.frame=a7 X.env.locals)
 exf:∀b∈X.ex,b≠X.env.locals/\∀x c,X.env.cells.lookup x=a7 c->c≠b
 bs:∀b o,X.base.get? b=a7 o->X.s₀.heap.get? b=a7 o/\X.H₀ b=a8
 bsz:X.base.objs.size<=X.s₀.heap.objs.size
 noex:∀b o,X.base.get? b=a7 o->b∉X.ex
 exfs:∀b∈X.ex,b∉X.fs
 funs:X.s₀.heap.FunFrames X.base X.outer
 frf:∀b∈X.fs,X.H₀ b=a8
structure r9(X:Cx)(pins:List (d5×d6))(σ:List (Option V))(H:Hp)(s:f7):Prop where
 ok:X.Ok
 os:s.os=X.s₀.os
 bare:f9 s.gens
 base:Un X.fs X.ex X.H₀ H X.s₀.heap s.heap
 loc:∃m,s.heap.Ns X.env.locals m/\∀(i:Nat) (x:c7) (v:V),X.N[i]?=a7 x->σ[i]?=a7 (a7 v)->Oa X.env.scope x->∃u,aZ v u/\Look X.env s.heap m x u
 cell:∀x c,X.env.cells.lookup x=a7 c->∃v,s.heap.IsCell c v
 free:H X.env.locals=a8
 freeC:∀x c,X.env.cells.lookup x=a7 c->H c=a8
 pin:∀p∈X.pn++pins,s.heap.get? p.1=a7 p.2/\H p.1=a8/\p.1≠X.env.locals/\p.1∉X.fs/\∀v,p.2.data≠.cell v
 hok:D0 X.prog X.w H s.heap
 len:σ.length=X.N.length
theorem Cx.Ok.nofr{X:Cx}(ok:X.Ok)(e:X.base.get? b=a7 o):b∉X.fs:=λd=>by have:=(ok.funs.mem d).1;rw[e]at this;cases this
theorem r9.bs{X:Cx}{p:List (d5×d6)}{σ:List (Option V)}{H:Hp}{s:f7}(I:r9 X p σ H s):∀b o,X.base.get? b=a7 o->s.heap.get? b=a7 o/\H b=a8:=λb o e =>
 ⟨I.base.keep b o (I.ok.bs b o e).1 (I.ok.bs b o e).2 (I.ok.nofr e)<|I.ok.noex b o e,I.base.free b o (I.ok.bs b o e).1 (I.ok.bs b o e).2<|I.ok.noex b o e⟩
theorem r9.bk(I:r9 X p σ H s):∀b o,X.base.get? b=a7 o->s.heap.get? b=a7 o:=λb o e=>(I.bs b o e).1
theorem r9.mod(I:r9 X p σ H s):Mod X.K X.mg X.base:=I.ok.mod
theorem r9.kIn(I:r9 X p σ H s):X.K.In s.heap:=I.ok.mod.kin.keeps I.bk
theorem r9.lt(I:r9 X p σ H s):X.env.locals<s.heap.objs.size:=let ⟨_,hn,_⟩:=I.loc;hn.lt
theorem r9.sz(I:r9 X p σ H s):X.s₀.heap.objs.size<=s.heap.objs.size:=D4 I.ok.above<|Oh I.lt
theorem r9.nofs(I:r9 X p σ H s)(h:s.heap.objs.size<=a):a∉X.fs:=λd=>by obtain⟨_,o,B,_⟩:=I.ok.funs.mem d;exact o4 (G5 (v9 B)<|D4 I.sz h)<|D5 _
theorem r9.cne(I:r9 X p σ H s):∀x c,X.env.cells.lookup x=a7 c->c≠X.env.locals:=λx c e z=>by obtain⟨v,o,B,d⟩:=I.cell x c e;obtain⟨m,⟨o',b,i,a,h,_⟩,_⟩:=I.loc;rw[z,a]at B;cases B;rw[h]at d;cases d
theorem r9.funs(I:r9 X q σ H s):s.heap.FunFrames X.base X.outer:=by
 have a:∀(l:List Env),(∀b∈J1 l,b∈X.fs)->X.s₀.heap.FunFrames X.base l->s.heap.FunFrames X.base l:=by
  intro l;induction l with
  |nil=>intro _ _;trivial
  |cons env r j=>intro p g;obtain⟨k,⟨L,o,f,n,B,c⟩,i⟩:=g;have h:L∈X.fs:=p L (by unfold J1;rw[MJ,f];exact C5);obtain⟨m,e⟩:=I.base.slot L o B (I.ok.frf L h) h λz=>I.ok.exfs L z h;exact⟨k,⟨L,_,f,n,e,c⟩,j (λb d=>p b<|by unfold J1;rw[MJ,f];exact A5 _ d) i⟩
 exact a X.outer (λ_ d=>d) I.ok.funs
theorem r9.stack(I:r9 X p σ H s):s.heap.FunFrames X.base X.stack:=by
 rcases I.ok.stk with e|⟨e,f⟩
 rw[e];exact I.funs;rw[e];obtain⟨m,n,_⟩:=I.loc;refine .cons (by rw[I.ok.kind];decide) f n ?_ I.funs;exact Heap.get?_none_of_le<|D4 I.ok.bsz I.ok.above
theorem r9.stkSub(I:r9 X p σ H s):∀b∈J1 X.stack,b∈X.env.locals::X.fs:=λb d=>by
 rcases I.ok.stk with e|⟨e,f⟩
 rw[e]at d;exact A5 _ d;rw[e]at d;unfold J1 at d;rw[MJ,f]at d;exact d
theorem r9.stkFree(I:r9 X p σ H s):∀b∈J1 X.stack,H b=a8:=λb d=>by rcases A0.mp (I.stkSub b d)with e|d;rw[e];exact I.free;obtain⟨_,o,B,_⟩:=I.ok.funs.mem d;exact I.base.free b o B (I.ok.frf b d) λz=>I.ok.exfs b z d
theorem r9.step{g':Array GenState}{t':Nat}{d':Drawn}{ch:List d5}(I:r9 X pins σ H s)(a:∀b∈ch,(b∈X.ex\/X.s₀.heap.objs.size<=b)/\b≠X.env.locals/\(∀x c,X.env.cells.lookup x=a7 c->c≠b)/\∀p∈X.pn++pins,p.1≠b)(g:∀b o,b≠X.env.locals->b∉X.fs->b∉ch->s.heap.get? b=a7 o->H b=a8->h'.get? b=a7 o)(slot:∀b o,b≠X.env.locals->b∈X.fs->b∉ch->s.heap.get? b=a7 o->H b=a8->∃sl,h'.get? b=a7 { o with slots:=sl }) (f:∀b o,b∉ch->s.heap.get? b=a7 o->H b=a8->H' b=a8)(A:∀b o,b∉ch->s.heap.get? b=a7 o->∃o',h'.get? b=a7 o')(G:∀b xs,H b=a7 (.tup xs)->H' b=a7 (.tup xs)) (E:∀b o u,H b=a7 (.frz o u)->H' b=a7 (.frz o u)) (F:∀b ps,H b=a7 (.tbl ps)->∃more,H' b=a7 (.tbl<|ps++more))(ns:∀m,s.heap.Ns X.env.locals m->h'.Ns X.env.locals m) (K:D0 X.prog X.w H' h') (S:f9 g') :
  r9 X pins σ H' { s with heap:=h',gens:=g',drawn:=d',toks:=t' }:=by
 have L:∀b o,X.s₀.heap.get? b=a7 o->b≠X.env.locals:=λb o e=>x6<|G5 (v9 e) I.ok.above;have C:∀b o,X.s₀.heap.get? b=a7 o->b∉X.ex->b∉ch:=λb o e h y=>by rcases(a b y).1 with z|z;exact h z;exact o4 (G5 (v9 e) z)<|D5 _
 have cellK:∀x c,X.env.cells.lookup x=a7 c->∀v,s.heap.IsCell c v->h'.IsCell c v:=λx c e v ⟨o,B,J⟩=>by have j:c∉ch:=λz=>(a c z).2.2.1 x c e rfl;by_cases N:c∈X.fs;obtain⟨sl,q⟩:=slot c o (I.cne x c e) N j B<|I.freeC x c e;exact⟨_,q,J⟩;exact⟨o,g c o (I.cne x c e) N j B<|I.freeC x c e,J⟩
 refine⟨I.ok,I.os,S,⟨λb o e n y h=>?_,λb o e n y h=>?_,λb o e n h=>?_,λb o e h=>?_,λb xs e=>G b xs<|I.base.tups b xs e,λb o xs e=>E b o xs<|I.base.frzs b o xs e,λb ps e=>?_⟩,?_,λx c e=>?_,?_,λx c e=>?_,λp O=>?_,K,I.len⟩;exact g b o (L b o e) y (C b o e h) (I.base.keep b o e n y h)<|I.base.free b o e n h;obtain⟨sl,t⟩:=I.base.slot b o e n y h;obtain⟨M,D⟩:=slot b _ (L b o e) y (C b o e h) t<|I.base.free b o e n h;exact⟨M,D⟩;obtain⟨o',t⟩:=I.base.there b o e h;exact f b o' (C b o e h) t<|I.base.free b o e n h;obtain⟨o',t⟩:=I.base.there b o e h;exact A b o' (C b o e h) t;obtain⟨V,t⟩:=I.base.tbls b ps e;obtain⟨W,D⟩:=F b _ t;exact⟨V++W,by rw[D,Array.append_assoc]⟩;obtain⟨m,U,T⟩:=I.loc;refine⟨m,ns m U,λi x v t D R=>?_⟩;obtain⟨u,r,l⟩:=T i x v t D R;refine⟨u,r,?_⟩;rcases l with l|⟨k,c,e,z⟩
 exact .inl l;exact .inr ⟨k,c,e,cellK x c e _ z⟩;obtain⟨v,z⟩:=I.cell x c e;exact⟨v,cellK x c e v z⟩;obtain⟨m,⟨o,_,_,B,_⟩,_⟩:=I.loc;exact f _ o (λz=>(a _ z).2.1 rfl) B I.free;obtain⟨v,o,B,J⟩:=I.cell x c e;exact f c o (λz=>(a c z).2.2.1 x c e rfl) B<|I.freeC x c e;obtain⟨e,n,P,Q,d⟩:=I.pin p O;have j:p.1∉ch:=λz=>(a p.1 z).2.2.2 p O rfl;exact⟨g p.1 p.2 P Q j e n,f p.1 p.2 j e n,P,Q,d⟩
theorem r9.un{t':Nat}(I:r9 X p σ H s)(u:Un X.fs [] H H' s.heap h')(K:D0 X.prog X.w H' h'):r9 X p σ H' { s with heap:=h',toks:=t' }:=by obtain⟨m,⟨o,j,i,B,r⟩,_⟩:=id I.loc;obtain⟨l,L⟩:=u.any B I.free (by simp);exact I.step (g':=s.gens) (d':=s.drawn) (ch:=[]) (λ_ z=>nomatch z) (λb o _ h _ e n=>u.keep b o e n h<|by simp) (λb o _ h _ e n=>u.slot b o e n h<|by simp) (λb o _ e n=>u.free b o e n<|by simp) (λb o _ e=>u.there b o e<|by simp) u.tups u.frzs u.tbls (λg f=>by obtain⟨o',d,c,a,r'⟩:=f;rw[B]at a;cases a;exact⟨_,d,c,L,r'⟩) K I.bare
theorem r9.call{g':Array GenState}{t':Nat}{d':Drawn}{ch:List d5}(I:r9 X t σ H s)(u:Un (J1 X.stack) ch H H' s.heap h')(K:D0 X.prog X.w H' h')(S:f9 g')(a:∀b∈ch,(b∈X.ex\/X.s₀.heap.objs.size<=b)/\b≠X.env.locals/\(∀x c,X.env.cells.lookup x=a7 c->c≠b)/\∀p∈X.pn++t,p.1≠b):r9 X t σ H' { s with heap:=h',gens:=g',drawn:=d',toks:=t' }:=by obtain⟨m,⟨o,v,k,B,r⟩,_⟩:=id I.loc;obtain⟨q,L⟩:=u.any B I.free λz=>(a _ z).2.1 rfl;exact I.step (ch:=ch) a (λb o L i f e n=>u.keep b o e n (λz=>(A0.mp<|I.stkSub b z).elim L i) f) (λb o _ _ f e n=>u.any e n f) (λb o f e n=>u.free b o e n f) (λb o f e=>u.there b o e f) u.tups u.frzs u.tbls (λl j=>by obtain⟨o',g,d,h,r'⟩:=j;rw[B]at h;cases h;exact⟨_,g,d,L,r'⟩) K S
theorem r9.turned{t':Nat}{it:d5}(I:r9 X l σ H s)(k:∀b o,b≠it->s.heap.get? b=a7 o->h'.get? b=a7 o)(j:H it=a8)(h:it≠X.env.locals)(h1:it∈X.ex\/X.s₀.heap.objs.size<=it) (h2:∀x c,X.env.cells.lookup x=a7 c->c≠it) (a:∀p∈X.pn++l,p.1≠it):r9 X l σ H { s with heap:=h',toks:=t' }:=by
 have t:∀b u,H b=a7 u->b≠it:=λb u e z=>by rw[z,j]at e;cases e
 refine I.step (g':=s.gens) (d':=s.drawn) (ch:=[it]) (λb d=>?_) (λb o _ _ f e _=>k b o (λz=>f<|by simp[z]) e) (λb o _ _ f e _=>⟨o.slots,k b o (λz=>f<|by simp[z]) e⟩) (λ_ _ _ _ n=>n) (λb o f e=>⟨o,k b o (λz=>f<|by simp[z]) e⟩) (λ_ _ e=>e) (λ_ _ _ e=>e) (λb y e=>⟨#[],by rw[e];simp⟩) (λm g=>?_) (λb u e=>?_) I.bare;have e:b=it:=by simpa using d
 subst e;exact⟨h1,h,h2,a⟩;obtain⟨o,w,i,B,r⟩:=g;exact⟨o,w,i,k _ o (B8 h) B,r⟩;refine(I.hok b u e).stay (λc v f q=>k c v ?_ q) (λ_ q=>q) λ_ _ q=>q;rcases f with z|z;rw[z];exact t b u e;exact t c _ z
theorem r9.tok(I:r9 X p σ H s)(t:Nat):r9 X p σ H { s with toks:=t }:=I.un (h':=s.heap) (t':=t) Un.refl I.hok
theorem r9.kept(I:r9 X p σ H s)(k:∀b u,s.heap.get? b=a7 u->h'.get? b=a7 u):r9 X p σ H { s with heap:=h',toks:=t' }:=I.un (Un.kept k)<|I.hok.kept k
theorem r9.laid(I:r9 X c σ H s)(k:∀b u,s.heap.get? b=a7 u->h'.get? b=a7 u)(p:s.heap.objs.size<=a)(n:cM X.prog X.w (v7 H a o) h' a o):r9 X c σ (v7 H a o) { s with heap:=h',toks:=t' }:=I.un (Un.laid k p<|I.hok.fresh p)<|I.hok.laid k p n
theorem r9.write(I:r9 X p σ H s)(m:Pk (H x))(i:e=x\/H e=a7 (.own x))(k:∀b u,b≠e->s.heap.get? b=a7 u->h'.get? b=a7 u)(h:∃u,h'.get? e=a7 u)(n:cM X.prog X.w (v7 H x o) h' x o):r9 X p σ (v7 H x o) { s with heap:=h',toks:=t' }:=I.un (Un.write m i k h)<|I.hok.write m i k h n
theorem r9.pins_of(I:r9 X b σ H s)(h:∀p∈pins',s.heap.get? p.1=a7 p.2/\H p.1=a8/\p.1≠X.env.locals/\p.1∉X.fs/\∀v,p.2.data≠.cell v):r9 X pins' σ H s:=⟨I.ok,I.os,I.bare,I.base,I.loc,I.cell,I.free,I.freeC,λp a=>(D6.mp a).elim (λz=>I.pin p<|L5 _ z)<|h p,I.hok,I.len⟩
theorem xB{N:List c7}(h:N.Nodup){i j:Nat}{x:c7}(a:N[i]?=a7 x)(b:N[j]?=a7 x):i=j:=by obtain⟨h1,t⟩:=x9.mp a;obtain⟨h2,l⟩:=x9.mp b;exact(List.getElem_inj h).mp<|t.trans l.symm
theorem Ak{M:Model}{A:f6}{E:c6->f7->Prop}{i:Nat}{x:c7}{v:V}{u:c6}{Q:Unit->f7->Prop}(I:r9 X pins σ H s)(hN:X.N.Nodup)(hi:X.N[i]?=a7 x)(l:NR X.env.scope x)(r:aZ v u)(h:∀s',r9 X pins (σ.set i<|a7 v) H s'->(∃a,Nb a s.heap s'.heap/\(a=X.env.locals\/X.env.cells.lookup x=a7 a))->Q () s') (hf:X.fn x=a9\/X.env.scope.names.lookup x=a7 .local:=by first|exact .inl rfl|exact .inr rfl|assumption):ge M A (storeName X.env x u) Q E s:=by
 obtain⟨m,hn,hl⟩:=id I.loc;have R:(X.env.scope.kind==.class||(X.env.scope.kind==.module&&X.env.locals != X.env.globals))=c5:=by rw[I.ok.kind];rfl
 have D:i<σ.length:=by rw[I.len];exact(x9.mp hi).1
 have G:=I.cne;have f:∀{a:d5}{h':d7},(∃o,s.heap.get? a=a7 o/\H a=a8)->Nb a s.heap h'->D0 X.prog X.w H h':=λ{a h'} ha hs b ob e=>by obtain⟨_,_,B⟩:=ha;refine(I.hok b ob e).stay (λc Y g q=>(hs.2 c ?_).trans q) (λ_ q=>q) λ_ _ q=>q;rintro rfl;rcases g with rfl|g;rw[B]at e;cases e;rw[B]at g;cases g
 rcases l with F|F;refine wpAny_storeName_local F hn (λh' ai hs=>?_) R;obtain⟨oL,_,_,aj,_⟩:=id hn;refine h _ ⟨I.ok,I.os,I.bare,⟨λb o e n J l=>?_,λb o e n J l=>?_,I.base.free,λb o e l=>?_,I.base.tups,I.base.frzs,I.base.tbls⟩,⟨_,ai,λj y v' t C Z=>?_⟩,λy c e=>?_,I.free,I.freeC,λp hp=>?_,f ⟨oL,aj,I.free⟩ hs,by simpa using I.len⟩ ⟨_,hs,.inl rfl⟩;exact(hs.2 b<|x6<|G5 (v9 e) I.ok.above).trans<|I.base.keep b o e n J l;obtain⟨sl,t⟩:=I.base.slot b o e n J l;exact⟨sl,(hs.2 b<|x6<|G5 (v9 e) I.ok.above).trans t⟩;obtain⟨o',t⟩:=I.base.there b o e l;exact⟨o',(hs.2 b<|x6<|G5 (v9 e) I.ok.above).trans t⟩;by_cases L:j=i;subst L;rw[hi]at t;cases t;rw[MA D]at C;cases C;exact⟨u,r,.inl ⟨F,by simp⟩⟩;rw[MX<|B8 L]at C;obtain⟨u',r',q⟩:=hl j y v' t C Z;refine⟨u',r',?_⟩;rcases q with⟨k,e⟩|⟨k,c,e,z⟩
 refine .inl ⟨k,?_⟩;have:y≠x:=λe=>L<|xB hN t<|e ▸ hi;simp[this,e];exact .inr ⟨k,c,e,z.sameBut hs<|G y c e⟩;obtain⟨Y,z⟩:=I.cell y c e;exact⟨Y,z.sameBut hs<|G y c e⟩;obtain⟨e,n,W,nf,d⟩:=I.pin p hp;exact⟨(hs.2 p.1 W).trans e,n,W,nf,d⟩;have K:X.fn x=a9:=by rcases hf with z|z;exact z;rw[z]at F;cases F
 obtain⟨c,g⟩:=I.ok.has x<|.inl F;obtain⟨Y,z⟩:=I.cell x c g;refine wpAny_storeName_cell I.ok.kind F g z<|λh' O hs=>?_;obtain⟨oc,S,T⟩:=id z;refine h { s with heap:=h' } ⟨I.ok,I.os,I.bare,⟨λb o e n J l=>?_,λb o e n J l=>?_,I.base.free,λb o e l=>?_,I.base.tups,I.base.frzs,I.base.tbls⟩,⟨m,hn.sameBut hs<|B8<|G x c g,λj y v' t C Z=>?_⟩,λy U e=>?_,I.free,I.freeC,λp hp=>?_,f ⟨oc,S,I.freeC x c g⟩ hs,by simpa using I.len⟩ ⟨c,hs,.inr g⟩;exact(hs.2 b<|x6<|G5 (v9 e)<|I.ok.cab x c K g).trans<|I.base.keep b o e n J l;obtain⟨sl,t⟩:=I.base.slot b o e n J l;exact⟨sl,(hs.2 b<|x6<|G5 (v9 e)<|I.ok.cab x c K g).trans t⟩;obtain⟨o',t⟩:=I.base.there b o e l;exact⟨o',(hs.2 b<|x6<|G5 (v9 e)<|I.ok.cab x c K g).trans t⟩;by_cases L:j=i;subst L;rw[hi]at t;cases t;rw[MA D]at C;cases C;exact⟨u,r,.inr ⟨.inl F,c,g,O⟩⟩;rw[MX<|B8 L]at C;obtain⟨u',r',q⟩:=hl j y v' t C Z;refine⟨u',r',?_⟩;rcases q with q|⟨k,U,e,z'⟩
 exact .inl q;refine .inr ⟨k,U,e,z'.sameBut hs ?_⟩;rintro rfl;exact L<|xB hN t<|I.ok.inj _ _ _ e g ▸ hi;by_cases P:U=c;subst P;exact⟨_,O⟩;obtain⟨w2,z2⟩:=I.cell y U e;exact⟨w2,z2.sameBut hs P⟩;obtain⟨e,n,W,nf,d⟩:=I.pin p hp;refine⟨(hs.2 p.1 ?_).trans e,n,W,nf,d⟩;intro q;rw[q,S]at e;have q':oc=p.2:=A8 e;exact d Y<|by rw[<-q'];exact T
theorem xr(I:r9 X p σ H s)(b:X.N.Nodup)(hi:X.N[i]?=a7 x)(c:NR X.env.scope x)(r:aZ v u)(h:∀s',r9 X p (σ.set i<|a7 v) H s'->Q () s') (f:X.fn x=a9\/X.env.scope.names.lookup x=a7 .local:=by first|exact .inl rfl|exact .inr rfl|assumption):ge M A (storeName X.env x u) Q E s:=Ak I b hi c r (λs' a _=>h s' a) f
theorem r9.call'(I:r9 X d σ H s)(B:s'.os=s.os)(u:Un (J1 X.stack) ch H H' s.heap s'.heap)(K:D0 X.prog X.w H' s'.heap)(S:f9 s'.gens)(a:∀b∈ch,(b∈X.ex\/X.s₀.heap.objs.size<=b)/\b≠X.env.locals/\(∀x c,X.env.cells.lookup x=a7 c->c≠b)/\∀p∈X.pn++d,p.1≠b):r9 X d σ H' s':=by obtain⟨h',g',d',t',o'⟩:=s';have e:o'=s.os:=B;subst e;exact I.call (g':=g') (t':=t') (d':=d') u K S a
abbrev XK:=c6->Option d5->Hp->Prop
noncomputable abbrev St:=List<|Option V
abbrev VK:=V->Hp->Prop
abbrev TE:=St->Hp->VK->Prop
abbrev TT:=St->Hp->(Bool->Hp->Prop)->Prop
abbrev TA:=St->Hp->(List V->Hp->Prop)->Prop
structure Ends where
 nx:St->Hp->Prop
 rt:VK
 bk:St->Hp->Prop:=λ_ _=>False
 ct:St->Hp->Prop:=λ_ _=>False
abbrev TS:=Ends->St->Hp->Prop
inductive EP(X:Cx)(pins:List (d5×d6))(σ:St)(Q:VK)(u:c6)(s':f7):Prop
 |mk (v:_) (H':_) (f0:r9 X pins σ H' s') (f1:aZ v u) (f2:Q v H')
inductive TP(X:Cx)(pins:List (d5×d6))(σ:St)(Q:Bool->Hp->Prop)(b:Bool)(s':f7):Prop
 |mk (H':_) (f0:r9 X pins σ H' s') (f1:Q b H')
inductive AP(X:Cx)(pins:List (d5×d6))(σ:St)(Q:List V->Hp->Prop)(us:List c6)(s':f7):Prop
 |mk (vs:_) (H':_) (f0:r9 X pins σ H' s') (f1:aB vs us) (f2:Q vs H')
def SP(X:Cx)(p:List (d5×d6))(D:Ends)(f:Flow)(s':f7):Prop:=match f with
 |.next=>∃a H',r9 X p a H' s'/\D.nx a H'
 |.brk=>∃a H',r9 X p a H' s'/\D.bk a H'
 |.cont=>∃a H',r9 X p a H' s'/\D.ct a H'
 |.ret u=>∃v a H',r9 X p a H' s'/\aZ v u/\D.rt v H'
def PE(X:Cx)(e:h8)(t:TE):Prop:=∀(p:List (d5×d6)) (s:f7) (σ:St) (H:Hp) (Q:VK),r9 X p σ H s->t σ H Q->ge (i3 X.prog X.w) X.A (eval e X.env) (EP X p σ Q) X.xe s
def PT(X:Cx)(e:h8)(t:TT):Prop:=∀(p:List (d5×d6)) (s:f7) (σ:St) (H:Hp) (Q:Bool->Hp->Prop),r9 X p σ H s->t σ H Q->ge (i3 X.prog X.w) X.A (isTrue e X.env<|eval e X.env) (TP X p σ Q) X.xe s
def PW(X:Cx)(e:h8)(t:TT):Prop:=∀(a:Sem c6) (p:List (d5×d6)) (s:f7) (σ:St) (H:Hp) (Q:Bool->Hp->Prop),r9 X p σ H s->t σ H Q->ge (i3 X.prog X.w) X.A (isTrue e X.env a) (TP X p σ Q) X.xe s
theorem PW.pt(h:PW X e t):PT X e t:=h _
def PA(X:Cx)(e:List h8)(t:TA):Prop:=∀(a:Pos) (p:List (d5×d6)) (s:f7) (σ:St) (H:Hp) (Q:List V->Hp->Prop),r9 X p σ H s->t σ H Q->ge (i3 X.prog X.w) X.A (spliced<|i4 a<|i5 e X.env) (AP X p σ Q) X.xe s
def PS(X:Cx)(st:i6)(t:TS):Prop:=∀(p:List (d5×d6)) (s:f7) (σ:St) (H:Hp) (D:Ends),r9 X p σ H s->t D σ H->ge (i3 X.prog X.w) X.A (exec st X.env) (SP X p D) X.xe s
def J3(X:Cx)(st:List i6)(t:TS):Prop:=∀(p:List (d5×d6)) (s:f7) (σ:St) (H:Hp) (D:Ends),r9 X p σ H s->t D σ H->ge (i3 X.prog X.w) X.A (execs st X.env) (SP X p D) X.xe s
theorem v4{α:Type}{t:Sem α}{Q Q':α->f7->Prop}{M:Model}{A:f6}{E:c6->f7->Prop}{s:f7}(h:ge M A t Q E s)(b:∀a s,Q a s->Q' a s):ge M A t Q' E s:=E9 h b λ_ _ x=>x
section
variable{X:Cx}
def tVar(i:Nat):TE:=λσ H Q=>∃v,σ[i]?=a7 (a7 v)/\Q v H
def tC(v:V):TE:=λ_ H Q=>Q v H
theorem Fx(g:X.N[i]?=a7 x)(t:Oa X.env.scope x)(b:(x==("__debug__":c7))=c5:=by decide)(d:(x==("__classdict__":c7))=c5:=by decide):PE X (.Name x pos) (tVar i):=by
 intro p s σ H Q I h;obtain⟨v,e,h⟩:=h;obtain⟨m,q,j⟩:=I.loc;obtain⟨u,r,l⟩:=j i x v g e t;have n:EP X p σ Q u s:=⟨v,H,I,r,h⟩
 rcases l with⟨k,o⟩|⟨k,c,f,a⟩
 exact wpAny_Name (wpAny_loadName_local I.ok.kind k q o n) b;rcases k with k|k;exact wpAny_Name (wpAny_loadName_cell I.ok.kind k f a n) b;exact wpAny_Name (wpAny_loadName_free I.ok.kind k f a n d) b
theorem JZ{i j pos}:PE X (.Constant (.int i) j pos) (tC<|.int i):=λ_ _ _ H _ I h=>wpAny_Constant_int ⟨.int i,H,I.tok _,⟨_,rfl⟩,h⟩
theorem pe_bl{b j pos}:PE X (.Constant (.bool b) j pos) (tC<|.bl b):=λ_ _ _ H _ I h=>Constant_bool ⟨.bl b,H,I,rfl,h⟩
theorem JX{j pos}:PE X (.Constant .none j pos) (tC .non):=λ_ _ _ H _ I h=>Constant_none ⟨.non,H,I,rfl,h⟩
theorem JU{x j pos}:PE X (.Constant (.str x) j pos) (tC<|.str x):=λ_ _ _ H _ I h=>Calls.Constant_str ⟨.str x,H,I.tok _,⟨_,rfl⟩,h⟩
def Gl(X:Cx)(x:c7):Prop:=X.env.kindOf x=a7 .globalImplicit
theorem Hj(I:r9 X p σ H s)(S:Gl X x)(m:X.mg x=a7 u)(h:Q u s)(d:(x==("__debug__":c7))=c5:=by decide):ge (i3 X.prog X.w) X.A (eval (.Name x pos) X.env) Q E s:=Calls.Name_function_global I.ok.kind S (Calls.loadGlobal_global (by rw[I.ok.glob];exact I.mod.glob.keeps I.bk) m h) d
theorem lP(I:r9 X p σ H s)(S:Gl X x)(m:X.mg x=a8)(c:e9 x=a7 u)(h:Q u s)(f:x≠"__name__":=by decide) (d:(x==("__debug__":c7))=c5:=by decide):ge (i3 X.prog X.w) X.A (eval (.Name x pos) X.env) Q E s:=by obtain⟨mb,h1,h2⟩:=I.mod.blt;exact Calls.Name_function_global I.ok.kind S (Calls.loadGlobal_builtin (by rw[I.ok.glob];exact I.mod.glob.keeps I.bk) m (by rw[I.ok.blt];exact h1.keeps I.bk) ((h2 x f).trans c) h) d
variable{a b:h8}{ta tb:TE}{pos:Pos}
theorem aZ.none_iff(r:aZ x v):(v==Mo)=decide (x=.non):=by
 cases x with
 |non=>cases r;rfl
 |bl _=>cases r;rfl
 |int _=>obtain⟨t,rfl⟩:=r;rfl
 |str _=>obtain⟨t,rfl⟩:=r;rfl
 |byt _=>obtain⟨t,rfl⟩:=r;rfl
 |flt _=>obtain⟨t,rfl⟩:=r;rfl
 |ref _=>cases r;rfl
 |ty _=>cases r;rfl
def tB(t:TE):TT:=λσ H Q=>t σ H λx a=>∃c,x=.bl c/\Q c a
theorem JL(h:PE X e t)(i:∀whole,isTrue e X.env whole=(do let v <-whole;standAt e.pos;i7 [v] (truthy v)):=by intro _;rfl):PT X e (tB t):=by intro p s σ H Q I w;refine isTrue_plain (v4 (h p s σ H _ I w) ?_)<|i _;rintro v f ⟨x,a,b,r,c⟩;obtain⟨d,rfl,q⟩:=c;cases r;exact N4 ⟨a,b,q⟩
variable{tA tB':TT}{be:List h8}
def tAnd(t u:TT):TT:=λσ H Q=>t σ H λc a=>if c=a9 then u σ a Q else Q c5 a
def tOr(t u:TT):TT:=λσ H Q=>t σ H λc a=>if c=a9 then Q a9 a else u σ a Q
def tNot(t:TT):TT:=λσ H Q=>t σ H λc a=>Q (!c) a
theorem Gv(f:PT X a tA):PW X (.BoolOp .And [a] pos) tA:=by
 intro w p s σ H Q I h;refine isTrue_and<|v4 (f p s σ H Q I h) λc b e=>?_;cases c with
 |true=>exact isTrue_and_nil e
 |false=>exact e
theorem JJ(f:PT X a tA):PW X (.BoolOp .Or [a] pos) tA:=by
 intro w p s σ H Q I h;refine isTrue_or<|v4 (f p s σ H Q I h) λc b e=>?_;cases c with
 |false=>exact isTrue_or_nil e
 |true=>exact e
theorem JK(f:PT X a tA)(g:PW X (.BoolOp .And (b::be) pos) tB'):PW X (.BoolOp .And (a::b::be) pos) (tAnd tA tB'):=by
 intro w p s σ H Q I h;refine isTrue_and<|v4 (f p s σ H _ I h) ?_;rintro c i ⟨d,e,q⟩;cases c with
 |true=>exact g w p i σ d Q e q
 |false=>exact⟨d,e,q⟩
theorem pw_or(f:PT X a tA)(g:PW X (.BoolOp .Or (b::be) pos) tB'):PW X (.BoolOp .Or (a::b::be) pos) (tOr tA tB'):=by
 intro w p s σ H Q I h;refine isTrue_or<|v4 (f p s σ H _ I h) ?_;rintro c i ⟨d,e,q⟩;cases c with
 |true=>exact⟨d,e,q⟩
 |false=>exact g w p i σ d Q e q
theorem JM(f:PT X a tA):PT X (.UnaryOp .Not a pos) (tNot tA):=by intro p s σ H Q I h;refine isTrue_not<|v4 (f p s σ H (λc b=>Q (!c) b) I h) ?_;rintro c e ⟨b,d,q⟩;exact⟨b,d,q⟩
def tAndV(t b:TE):TE:=λσ H Q=>t σ H λx a=>∃c,x=.bl c/\if c=a9 then b σ a Q else Q (.bl c5) a
def tOrV(t b:TE):TE:=λσ H Q=>t σ H λx a=>∃c,x=.bl c/\if c=a9 then Q (.bl a9) a else b σ a Q
def tNotV(t:TE):TE:=λσ H Q=>t σ H λx a=>∃c,x=.bl c/\Q (.bl<|!c) a
theorem JV{op}(h:PE X a t):PE X (.BoolOp op [a] pos) t:=λp s σ H Q I w=>BoolOp_one<|h p s σ H Q I w
theorem Kb(f:PE X a ta)(g:PE X (.BoolOp .And (b::be) pos) tb):PE X (.BoolOp .And (a::b::be) pos) (tAndV ta tb):=by
 intro p s σ H Q I h;refine BoolOp_and<|v4 (f p s σ H _ I h) ?_;rintro v i ⟨x,d,e,r,q⟩;obtain⟨c,rfl,q⟩:=q;cases r;refine N4 ?_;cases c with
 |true=>exact g p i σ d Q e q
 |false=>exact⟨.bl c5,d,e,rfl,q⟩
theorem pe_or(f:PE X a ta)(g:PE X (.BoolOp .Or (b::be) pos) tb):PE X (.BoolOp .Or (a::b::be) pos) (tOrV ta tb):=by
 intro p s σ H Q I h;refine BoolOp_or<|v4 (f p s σ H _ I h) ?_;rintro v i ⟨x,d,e,r,q⟩;obtain⟨c,rfl,q⟩:=q;cases r;refine N4 ?_;cases c with
 |false=>exact g p i σ d Q e q
 |true=>exact⟨.bl a9,d,e,rfl,q⟩
theorem JW(f:PE X a ta):PE X (.UnaryOp .Not a pos) (tNotV ta):=by intro p s σ H Q I h;refine UnaryOp_<|v4 (f p s σ H _ I h) ?_;rintro v e ⟨x,b,d,r,q⟩;obtain⟨c,rfl,q⟩:=q;cases r;exact not_of<|N4 ⟨.bl<|!c,b,d,rfl,q⟩
def tIf(t:TT)(b d:TE):TE:=λσ H Q=>t σ H λc a=>if c=a9 then b σ a Q else d σ a Q
theorem Ds(k:PT X c tA)(i:PE X a ta)(j:PE X b tb):PE X (.IfExp c a b pos) (tIf tA ta tb):=by
 intro p s σ H Q I h;refine wpAny_IfExp<|v4 (k p s σ H _ I h) ?_;rintro d g ⟨e,f,q⟩;cases d with
 |true=>exact i p g σ e Q f q
 |false=>exact j p g σ e Q f q
end
def K4(K:u4)(H:Hp)(a:d5)(x:List V):Prop:=Rd H a (.lst x) \/∃(o:d6) (i:Array c6) (n:Nat),K.lookup a=a7 o/\o.cls=.type "list"/\o.dict=a8/\o.data=.seq i n/\i.size<=sizeLine/\aB x i.toList
def A2(K:u4)(H:Hp)(a:d5)(x:List V):Prop:=Rd H a (.tup x) \/∃(o:d6) (i:Array c6) (n:Nat),K.lookup a=a7 o/\o.cls=.type "tuple"/\o.dict=a8/\o.data=.seq i n/\i.size<=sizeLine/\aB x i.toList
noncomputable def absV:c6->Option V
 |.none=>a7 .non
 |.bool b=>a7<|.bl b
 |.int i _=>a7<|.int i
 |.str x _=>a7<|.str x
 |.bytes b _=>a7<|.byt b
 |.float b _=>a7<|.flt b
 |.ref a=>a7<|.ref a
 |.type n=>a7<|.ty n
 |_=>a8
theorem aZ.abs(r:aZ x u):absV u=a7 x:=by
 cases x with
 |non=>cases r;rfl
 |bl _=>cases r;rfl
 |int _=>obtain⟨t,rfl⟩:=r;rfl
 |str _=>obtain⟨t,rfl⟩:=r;rfl
 |byt _=>obtain⟨t,rfl⟩:=r;rfl
 |flt _=>obtain⟨t,rfl⟩:=r;rfl
 |ref _=>cases r;rfl
 |ty _=>cases r;rfl
theorem aZ.inj(r:aZ x u)(q:aZ y u):x=y:=A8<|r.abs.symm.trans q.abs
theorem aB.inj(h:aB x u)(h':aB y u):x=y:=by
 induction h generalizing y with
 |nil=>cases h';rfl
 |cons r t i=>cases h' with
  |cons r' t'=>rw[r.inj r',i t']
theorem A2.of{K:u4}(h:H a=a7 (.tup x)):A2 K H a x:=.inl<|.inl h
theorem r9.list(I:r9 X p σ H s)(h:K4 X.K H a x):∃i:List c6,aB x i/\PlainL s.heap a i.toArray/\x.length<=sizeLine:=by
 rcases h with h|⟨o,i,n,k,f,d,c,b,r⟩
 obtain⟨z,i,n,r,e⟩:=h.ok I.hok;exact⟨i,r,⟨_,n,e,rfl,rfl,rfl⟩,z⟩;refine⟨i.toList,r,⟨o,n,I.kIn a o k,f,d,by simpa using c⟩,?_⟩;have e:=r.length;simp only[E2]at e;lia
theorem r9.tuple(I:r9 X c σ H s)(h:A2 X.K H a x):∃i:List c6,aB x i/\IsTup s.heap a i.toArray/\x.length<=sizeLine:=by
 rcases h with h|⟨o,i,n,k,f,_,d,b,r⟩
 obtain⟨z,i,r,p⟩:=h.ok I.hok;exact⟨i,r,p.tup,z⟩;refine⟨i.toList,r,⟨o,I.kIn a o k,f,n,by simpa using d⟩,?_⟩;have e:=r.length;simp only[E2]at e;lia
theorem r9.list_inj(I:r9 X p σ H s)(h:K4 X.K H a x)(h':K4 X.K H a y):x=y:=by
 obtain⟨g,r,⟨o,n,e,_,_,d⟩,_⟩:=I.list h;obtain⟨i,r',⟨o',f,c,_,_,b⟩,_⟩:=I.list h';rw[e]at c;cases c;rw[d]at b;injection b with d1 _;have:g=i:=by simpa using p6 Array.toList d1
 subst this;exact r.inj r'
theorem r9.tuple_inj(I:r9 X p σ H s)(h:A2 X.K H a x)(h':A2 X.K H a y):x=y:=by
 obtain⟨g,r,⟨o,e,_,n,d⟩,_⟩:=I.tuple h;obtain⟨i,r',⟨o',c,_,f,b⟩,_⟩:=I.tuple h';rw[e]at c;cases c;rw[d]at b;injection b with d1 _;have:g=i:=by simpa using p6 Array.toList d1
 subst this;exact r.inj r'
noncomputable abbrev Cx.wish(X:Cx)(E:c6->f7->Prop):Cx:={ X with xe:=E }
noncomputable abbrev Cx.nox(X:Cx):Cx:=X.wish λ_ _=>False
theorem Cx.Ok.wish{X:Cx}(ok:X.Ok)(E:c6->f7->Prop):(X.wish E).Ok:=⟨ok.mod,ok.kind,ok.glob,ok.blt,ok.above,ok.inj,ok.has,ok.cab,ok.hd,ok.frames,ok.stk,ok.exf,ok.bs,ok.bsz,ok.noex,ok.exfs,ok.funs,ok.frf⟩
theorem Cx.Ok.unwish{X:Cx}{E:c6->f7->Prop}(ok:(X.wish E).Ok):X.Ok:=⟨ok.mod,ok.kind,ok.glob,ok.blt,ok.above,ok.inj,ok.has,ok.cab,ok.hd,ok.frames,ok.stk,ok.exf,ok.bs,ok.bsz,ok.noex,ok.exfs,ok.funs,ok.frf⟩
theorem r9.wish(I:r9 X p σ H s)(E:c6->f7->Prop):r9 (X.wish E) p σ H s:=⟨I.ok.wish E,I.os,I.bare,I.base,I.loc,I.cell,I.free,I.freeC,I.pin,I.hok,I.len⟩
theorem r9.unwish(I:r9 (X.wish E) p σ H s):r9 X p σ H s:=⟨I.ok.unwish,I.os,I.bare,I.base,I.loc,I.cell,I.free,I.freeC,I.pin,I.hok,I.len⟩
theorem SP.unwish(h:SP (X.wish E) p D f s'):SP X p D f s':=by
 cases f with
 |next=>obtain⟨a,H',I,q⟩:=h;exact⟨a,H',I.unwish,q⟩
 |brk=>obtain⟨a,H',I,q⟩:=h;exact⟨a,H',I.unwish,q⟩
 |cont=>obtain⟨a,H',I,q⟩:=h;exact⟨a,H',I.unwish,q⟩
 |ret u=>obtain⟨v,a,H',I,r,q⟩:=h;exact⟨v,a,H',I.unwish,r,q⟩
theorem PE.nox(h:PE X.nox e t):PE X e t:=λp s σ H Q I w =>
 E9 (h p s σ H Q (I.wish _) w) (λ_ _ ⟨v,H',a,r,q⟩=>⟨v,H',a.unwish,r,q⟩) λ_ _ z=>Na z
theorem J3.nox{st:List i6}{t:TS}(h:J3 X.nox st t):J3 X st t:=λp s σ H D I w =>
 E9 (h p s σ H D (I.wish _) w) (λ_ _ q=>q.unwish) λ_ _ z=>Na z
def tNext:TS:=λD σ H=>D.nx σ H
def tSeq(t u:TS):TS:=λD σ H=>t { D with nx:=u D } σ H
theorem GA:J3 X [] tNext:=λ_ _ σ H _ I h=>Qn ⟨σ,H,I,h⟩
theorem Dk{X:Cx}{st:i6}{be:List i6}{t u:TS}(h1:PS X st t)(h2:J3 X be u):J3 X (st::be) (tSeq t u):=by
 intro p s σ H D I h;refine wpAny_execs_cons<|v4 (h1 p s σ H { D with nx:=u D } I h) λf c q=>?_;cases f with
 |next=>obtain⟨a,H',b,q⟩:=q;exact h2 p c a H' D b q
 |ret v=>exact q
 |brk=>exact q
 |cont=>exact q
theorem Gz{X:Cx}{st:i6}{t:TS}(h1:PS X st t):J3 X [st] t:=by
 intro p s σ H D I h;refine wpAny_execs_cons<|v4 (h1 p s σ H D I h) λf a q=>?_;cases f with
 |next=>exact Qn q
 |ret v=>exact q
 |brk=>exact q
 |cont=>exact q
theorem r9.quiet(I:r9 X p σ H s):interactive X.env=c5:=by simp[interactive,I.ok.kind]
def tDrop(te:TE):TS:=λD σ H=>te σ H λ_ a=>D.nx σ a
theorem GB(i:PE X e te)(d:i8 e a8 pos.line X.env=pure c5:=by rfl):PS X (.Expr e pos) (tDrop te):=by intro p s σ H D I h;exact wpAny_Expr_any (v4 (i p s σ H _ I h) λv f ⟨x,a,b,r,c⟩=>⟨σ,a,b,c⟩) I.quiet d
def tRet(te:TE):TS:=λD σ H=>te σ H D.rt
theorem JO(i:PE X e te):PS X (.Return (a7 e) pos) (tRet te):=by intro p s σ H D I h;refine wpAny_Return_some<|v4 (i p s σ H _ I h) ?_;rintro v f ⟨x,a,b,r,c⟩;exact⟨x,σ,a,b,r,c⟩
def tIfS(c:TT)(t u:TS):TS:=λD σ H=>c σ H λb a=>if b=a9 then t D σ a else u D σ a
theorem ps_if(k:PT X c tc)(i:J3 X a t)(j:J3 X b u):PS X (.If c a b pos) (tIfS tc t u):=by
 intro p s σ H D I h;refine wpAny_If<|v4 (k p s σ H _ I h) ?_;rintro d g ⟨e,f,q⟩;cases d with
 |true=>exact i p g σ e D f q
 |false=>exact j p g σ e D f q
abbrev TG:=V->St->Hp->(St->Hp->Prop)->Prop
abbrev Pg:=List V->St->Hp->(St->Hp->Prop)->Prop
def PG(X:Cx)(a:h8)(t:TG):Prop:=∀(p:List (d5×d6)) (s:f7) (σ:St) (H:Hp) (v:V) (u:c6) (Q:St->Hp->Prop),r9 X p σ H s->aZ v u->t v σ H Q ->ge (i3 X.prog X.w) X.A (i9 a X.env u) (λ_ s'=>∃b H',r9 X p b H' s'/\Q b H') X.xe s
def Pi(X:Cx)(b:List h8)(t:Pg):Prop:=∀(p:List (d5×d6)) (s:f7) (σ:St) (H:Hp) (v:List V) (u:List c6) (Q:St->Hp->Prop),r9 X p σ H s->aB v u->t v σ H Q ->ge (i3 X.prog X.w) X.A (assignInOrder ((j0 b X.env).map (·.2)) u) (λ_ s'=>∃a H',r9 X p a H' s'/\Q a H') X.xe s
abbrev TSet:=V->V->V->Hp->(Hp->Prop)->Prop
def PSet(X:Cx)(t:TSet):Prop:=∀(p:List (d5×d6)) (s:f7) (σ:St) (H:Hp) (o i v:V) (b a u:c6) (Q:Hp->Prop),r9 X p σ H s->aZ o b->aZ i a->aZ v u->t o i v H Q ->ge (i3 X.prog X.w) X.A (setItem b a u) (λ_ s'=>∃H',r9 X p σ H' s'/\Q H') X.xe s
def Ls(i:Nat):TG:=λv σ H Q=>Q (σ.set i<|a7 v) H
theorem GF(b:X.N.Nodup)(hi:X.N[i]?=a7 x)(c:NR X.env.scope x)(f:X.fn x=a9\/X.env.scope.names.lookup x=a7 .local:=by first|exact .inl rfl|exact .inr rfl|assumption):PG X (.Name x pos) (Ls i):=by intro p s σ H v u Q I r h;exact wpAny_assign_Name<|xr I b hi c r (λs' a=>⟨_,H,a,h⟩) f
def gNil:Pg:=λv σ H Q=>v=[]/\Q σ H
def gCons(t:TG)(u:Pg):Pg:=λs σ H Q=>∃v r,s=v::r/\t v σ H λa H'=>u r a H' Q
theorem GE:Pi X [] gNil:=by intro p s σ H v u Q I r h;obtain⟨e,h⟩:=h;subst e;cases r;exact assignInOrder_nil ⟨σ,H,I,h⟩
theorem Dp(h1:PG X e t)(h2:Pi X j u)(k:(j0 (e::j) X.env).map (·.2)=i9 e X.env::(j0 j X.env).map (·.2):=by rfl):Pi X (e::j) (gCons t u):=by
 intro p s σ H l m Q I r h;obtain⟨v,i,d,h⟩:=h;subst d;cases r with
 |cons r f=>rw[k];refine assignInOrder_cons<|v4 (h1 p s σ H _ _ _ I r h) ?_;rintro _ g ⟨a,b,c,q⟩;exact h2 p g a b _ _ Q c f q
def gTup(K:u4)(n:Nat)(t:Pg):TG:=λv σ H Q=>∃a x,v=.ref a/\A2 K H a x/\x.length=n/\t x σ H Q
theorem JR(i:X.calm=a9)(h:Pi X m t)(j:(j0 m X.env).length=n:=by rfl) (c:(j0 m X.env).findIdx? (·.1)=a8:=by rfl):PG X (.Tuple m k pos) (gTup X.K n t):=by intro p s σ H v u Q I r w;obtain⟨a,y,g,q,l,w⟩:=w;subst g;cases r;obtain⟨its,d,D,z⟩:=I.tuple q;refine assign_Tuple_tuple (I.ok.hd i) D (by simp[j,<-l,d.length]) c λh' x=>?_;have f:r9 X p σ H { s with heap:=h' }:=I.kept (t':=s.toks) λb o e=>x b o (x6<|v9 e) e;exact h p _ σ H y _ Q f (by simpa using d) w
def gSub(e d:TE)(t:TSet):TG:=λv σ H Q=>e σ H λo a=>d σ a λi b=>t o i v b λc=>Q σ c
theorem JS(B:PE X o to)(hi:PE X i ti)(hs:PSet X t)(g:∀v,i9 (.Subscript o i pos) X.env v=(do
   let ov <-i7 [v] (eval o X.env)
   let iv <-i7 [v,ov] (eval i X.env)
   standAt pos
   i7 [v,ov,iv] (setItem ov iv v)
   release [v,ov,iv] []):=by intro _;rfl):PG X (.Subscript o i pos) (gSub to ti t):=by intro p s σ H v u Q I r h;rw[g];refine p8<|D7<|v4 (B p s σ H _ I h) ?_;rintro ov n ⟨x,a,d,l,q⟩;refine p8<|D7<|v4 (hi p n σ a _ d q) ?_;rintro iv w ⟨y,b,e,m,j⟩;refine p8<|wpAny_standAt<|p8<|D7<|v4 (hs p w σ b x y v ov iv u _ e l m r j) ?_;rintro _ z ⟨c,f,k⟩;exact wpAny_release ⟨σ,c,f,k⟩
def tAsg(te:TE)(g:TG):TS:=λD σ H=>te σ H λx a=>g x σ a D.nx
theorem JQ(i:PE X e te)(S:PG X tg g)(j:swapsWithSole [tg] e pos.line X.env=pure c5:=by rfl)(w:swappedStores [tg] e X.env=pure a8:=by rfl)(h1:(j0 [tg] X.env).map (·.2)=[i9 tg X.env]:=by rfl):PS X (.Assign [tg] e pos) (tAsg te g):=by intro p s σ H D I h;refine wpAny_Assign_stores (v4 (i p s σ H _ I h) ?_) j w;rintro v f ⟨x,a,b,r,c⟩;rw[h1];exact v4 (S p f σ a x v _ b r c) λ_ d q=>q
theorem JN(d:X.N.Nodup)(hi:X.N[i]?=a7 x)(j:NR X.env.scope x)(f:PE X e te)(l:i8 e (a7<|.Name x pos') pos.line X.env=pure c5:=by rfl)(g:X.fn x=a9\/X.env.scope.names.lookup x=a7 .local:=by first|exact .inl rfl|exact .inr rfl|assumption):PS X (.Assign [.Name x pos'] e pos) (tAsg te<|Ls i):=by intro p s σ H D I h;refine wpAny_Assign_Name (v4 (f p s σ H _ I h) ?_) l;rintro v k ⟨y,a,b,r,q⟩;exact xr b d hi j r (λw c=>⟨_,a,c,q⟩) g
def Fu(c:TT)(t:TS):TS:=λD σ H=>∃W:Nat->St->Hp->Prop,(∃m,W m σ H)/\∀m σ H,W m σ H ->c σ H λb d=>if b=a9 then ∃N:St->Hp->Prop,(∀a H',N a H'->∃g,g < m/\W g a H')/\t { D with nx:=N,ct:=N,bk:=D.nx } σ d else D.nx σ d
theorem Dl(z:PassesOwn (i3 X.prog X.w) X.A X.env X.xe)(E:PT X c tc)(C:J3 X body tb):PS X (.While c body [] pos) (Fu tc tb):=by
 intro p s σ H D I h;obtain⟨W,⟨F,K⟩,t⟩:=h;refine wpAny_While<|codeAny_whileLoop (λn s'=>∃g H',r9 X p g H' s'/\W n g H') ?_ F ⟨σ,H,I,K⟩;rintro n G ⟨d,r,B,L⟩;refine Ov z<|v4 (E p G d r _ B<|t n d r L) ?_;rintro b J ⟨u,x,j⟩;cases b with
 |true =>
  obtain⟨N,y,j⟩:=j;rw[n9 rfl];refine Ov z<|v4 (C p J d u _ x j) λf M k=>?_;cases f with
  |next=>obtain⟨a,e,i,o⟩:=k;obtain⟨l,m,q⟩:=y a e o;exact⟨l,m,a,e,i,q⟩
  |cont=>obtain⟨a,e,i,o⟩:=k;obtain⟨l,m,q⟩:=y a e o;exact⟨l,m,a,e,i,q⟩
  |brk=>exact k
  |ret v=>exact k
 |false=>rw[o0 Nt];exact Qn ⟨d,u,x,j⟩
structure It where
 go:Nat->Hp->Prop
 yld:Nat->Hp->V->Hp->Prop
 stop:Nat->Hp->Prop
def zv(X:Cx)(s:List (d5×d6))(H:Hp)(b:d5):Prop:=H b=a8/\b≠X.env.locals/\b∉X.fs/\(b∈X.ex\/X.s₀.heap.objs.size<=b)/\(∀x c,X.env.cells.lookup x=a7 c->c≠b)/\∀p∈X.pn++s,p.1≠b
theorem r9.fpOk(I:r9 X a σ H s)(d:s.heap.objs.size<=b)(f:H' b=a8):zv X a H' b:=by refine⟨f,OS<|G5 I.lt d,I.nofs d,.inr<|D4 I.sz d,λx c e z=>?_,λp h z=>?_⟩;obtain⟨v,q⟩:=I.cell x c e;exact o4 (G5 q.lt<|by rw[z];exact d)<|D5 _;exact o4 (G5 (v9 (I.pin p h).1)<|by rw[z];exact d)<|D5 _
structure Turn(P:c9)(w:c8)(K:u4)(tg:h8)(J:It)(fp:List d5)(it:d5)(tn:Nat->d7->Prop):Prop where
 mem:it∈fp
 obj:∀i h,tn i h->∀b∈fp,∃o,h.get? b=a7 o/\∀v,o.data≠.cell v
 keep:∀i h h',tn i h->(∀b∈fp,∀o,h.get? b=a7 o->h'.get? b=a7 o)->tn i h'
 item:∀(X:Cx),X.prog=P->X.w=w->X.K=K->X.calm=a9->∀(i:Nat) (pins:List (d5×d6)) (s:f7) (σ:St) (H:Hp) (E:c6->f7->Prop),r9 X pins σ H s->(∀b∈fp,zv X pins H b)->tn i s.heap->J.go i H ->ge (i3 P w) X.A (j1<|.ref it) (λr s1=>∃u,r=a7 u /\ ge (i3 P w) X.A (j2 tg (.ref it) u) (λ_ s2=>∃x H',r9 X pins σ H' s2/\aZ x u/\J.yld i H x H'/\tn (i+1) s2.heap/\∀b∈fp,H' b=a8) E s1) E s
 done:∀(X:Cx),X.prog=P->X.w=w->X.K=K->X.calm=a9->∀(i:Nat) (pins:List (d5×d6)) (s:f7) (σ:St) (H:Hp) (E:c6->f7->Prop),r9 X pins σ H s->(∀b∈fp,zv X pins H b)->tn i s.heap->J.stop i H ->ge (i3 P w) X.A (j1<|.ref it) (λr s1=>r=a8/\r9 X pins σ H s1) E s
 self:∀(A:f6) (i:Nat) (s:f7) (Q:c6->f7->Prop) (E:c6->f7->Prop),tn i s.heap->Q (.ref it) s->ge (i3 P w) A (j3<|.ref it) Q E s
abbrev TI:=St->Hp->(It->Hp->Prop)->Prop
inductive Qb(X:Cx)(pins:List (d5×d6))(σ:St)(tg:h8)(R:It->Hp->Prop)(itv:c6)(s2:f7):Prop
 |mk (it:d5) (fp:List d5) (tn:Nat->d7->Prop) (J:It) (H':Hp) (f0:itv=.ref it) (f1:r9 X pins σ H' s2) (f2:Turn X.prog X.w X.K tg J fp it tn) (f3:tn 0 s2.heap) (f4:(∀b∈fp,zv X pins H' b)) (f5:R J H')
def PI(X:Cx)(g r:h8)(wi:TI):Prop:=∀(p:List (d5×d6)) (s:f7) (σ:St) (H:Hp) (R:It->Hp->Prop),r9 X p σ H s->wi σ H R ->ge (i3 X.prog X.w) X.A (eval r X.env) (λv f=>ge (i3 X.prog X.w) X.A (j3 v) (Qb X p σ g R) X.xe f) X.xe s
theorem za(B:s.heap.get? it=a7 o)(f:o.cls=.type n)(d:o.data=.fields v)(a:["enumerate","zip","dict_itemiterator","dict_reverseitemiterator","odict_iterator","itertools.zip_longest","itertools.pairwise"].contains n=c5) (b:Q () s):ge M A (j2 tg (.ref it) u) Q E s:=by
 unfold j2;cases tg<;>first
  |exact t4 b
  |(cases u<;>first
    |exact t4 b
    |(refine p8 (wpAny_load B ?_);rw[f,d];show ge M A (if (["enumerate","zip","dict_itemiterator","dict_reverseitemiterator","odict_iterator","itertools.zip_longest","itertools.pairwise"].contains n&&v[0]?==a7 (j4 _))=a9 then _ else _) Q E s;rw[o0 (by intro h;rw[a,Oq]at h;cases h)];exact t4 b))
noncomputable def RS(K:u4)(a:d5):It:=⟨λi H=>∃s x,K4 K H a s/\s[i]?=a7 x,λi H x H'=>H'=H/\∀s,K4 K H a s->s[i]?=a7 x,λi H=>∃s,K4 K H a s/\s.length<=i⟩
noncomputable def RR(K:u4)(a:d5):It:=⟨λi H=>∃s x,A2 K H a s/\s[i]?=a7 x,λi H x H'=>H'=H/\∀s,A2 K H a s->s[i]?=a7 x,λi H=>∃s,A2 K H a s/\s.length<=i⟩
noncomputable def Pl(l:Int)(n:Nat):It:=⟨λi _=>i<n,λi H x H'=>H'=H/\x=.int (l+i),λi _=>n<=i⟩
theorem zG{P:c9}{w:c8}{K:u4}{U:h8}(a it:d5):Turn P w K U (RS K a) [it] it (λi h=>h.IsListIter it a i) where
 mem:=by simp
 obj:=λi h st b g=>by
  have e:b=it:=by simpa using g
  subst e;obtain⟨o,e,c,d⟩:=st;exact⟨o,e,λv z=>by rw[d]at z;cases z⟩
 keep:=λi h h' st k=>st.at λo e=>k it (by simp) o e
 item:=by intro X B C A G i f s σ H E I l st S;subst B C A;obtain⟨xs,x,q,D⟩:=S;obtain⟨its,F,p,Q⟩:=I.list q;obtain⟨u,N,R⟩:=F.get D;obtain⟨m,n,M,r,t,y⟩:=l it (by simp);refine wpAny_pyNext_list_item st p.isList (x:=u) (by simpa using N) λh' j T=>?_;have J:r9 X f σ H { s with heap:=h' }:=I.turned (t':=s.toks) (λb o g e=>(T.2 b g).trans e) m n r t y;obtain⟨o,e,c,d⟩:=id j;exact⟨u,rfl,za (s:={ s with heap:=h' }) e c d (by decide) ⟨x,H,J,R,⟨rfl,λys O=>by rw[I.list_inj O q];exact D⟩,j,λb g=>(l b g).1⟩⟩
 done:=by intro X B C A G i f s σ H E I l st S;subst B C A;obtain⟨xs,q,D⟩:=S;obtain⟨its,F,p,Q⟩:=I.list q;obtain⟨m,n,M,r,t,y⟩:=l it (by simp);have V:=F.length;exact wpAny_pyNext_list_end (I.ok.hd G) st p.isList (by simp;lia) λh' L=>⟨rfl,I.turned (t':=s.toks) (λb o g e=>L b o g e) m n r t y⟩
 self:=λ_ _ _ _ _ st h=>wpAny_pyIter_listiter st h
theorem yp{P:c9}{w:c8}{K:u4}{U:h8}(a it:d5):Turn P w K U (RR K a) [it] it (λi h=>h.IsTupleIter it a i) where
 mem:=by simp
 obj:=λi h st b g=>by
  have e:b=it:=by simpa using g
  subst e;obtain⟨o,e,c,d⟩:=st;exact⟨o,e,λv z=>by rw[d]at z;cases z⟩
 keep:=λi h h' st k=>st.at λo e=>k it (by simp) o e
 item:=by intro X B C A G i f s σ H E I l st S;subst B C A;obtain⟨xs,x,q,D⟩:=S;obtain⟨its,F,p,Q⟩:=I.tuple q;obtain⟨u,N,R⟩:=F.get D;obtain⟨m,n,M,r,t,y⟩:=l it (by simp);refine wpAny_pyNext_tuple_item st (show s.heap.IsTuple a its.toArray from p) (x:=u) (by simpa using N) λh' j T=>?_;have J:r9 X f σ H { s with heap:=h' }:=I.turned (t':=s.toks) (λb o g e=>(T.2 b g).trans e) m n r t y;obtain⟨o,e,c,d⟩:=id j;exact⟨u,rfl,za (s:={ s with heap:=h' }) e c d (by decide) ⟨x,H,J,R,⟨rfl,λys O=>by rw[I.tuple_inj O q];exact D⟩,j,λb g=>(l b g).1⟩⟩
 done:=by intro X B C A G i f s σ H E I l st S;subst B C A;obtain⟨xs,q,D⟩:=S;obtain⟨its,F,p,Q⟩:=I.tuple q;obtain⟨m,n,M,r,t,y⟩:=l it (by simp);have V:=F.length;exact wpAny_pyNext_tuple_end (I.ok.hd G) st (show s.heap.IsTuple a its.toArray from p) (by simp;lia) λh' L=>⟨rfl,I.turned (t':=s.toks) (λb o g e=>L b o g e) m n r t y⟩
 self:=λ_ _ _ _ _ st h=>wpAny_pyIter_tupleiter st h
theorem yq{P:c9}{w:c8}{K:u4}{F:h8}(it:d5)(l:Int)(n:Nat):Turn P w K F (Pl l n) [it] it (λi h=>IsRangeIter h it (l+(i:Nat)*1) ((n:Int)-(i:Nat)) 1) where
 mem:=by simp
 obj:=λi h st b d=>by
  have e:b=it:=by simpa using d
  subst e;exact⟨_,st,λv z=>by have G:Data.fields _=Data.cell v:=z;cases G⟩
 keep:=λi h h' st k=>k it (by simp) _ st
 item:=by intro X B q A g i p s σ H E I f st S;subst B q A;obtain⟨m,a,M,r,c,y⟩:=f it (by simp);have W:=Walks.range (prog:=X.prog) (w:=X.w) (I.ok.hd g) it l 1 n;refine W.item i s _ _ S st λv h' u C j D=>?_;obtain⟨t,rfl⟩:=C;have x:r9 X p σ H { s with heap:=h',toks:=u }:=I.turned (λb o d e=>D b o (by simpa using d) e) m a r c y;refine⟨_,rfl,za (s:={ s with heap:=h',toks:=u }) (n:="range_iterator") j rfl rfl (by decide) ⟨.int<|l+i,H,x,⟨t,?_⟩,⟨rfl,rfl⟩,j,λb d=>(f b d).1⟩⟩;rw[Int.mul_one]
 done:=by intro X B q A g i p s σ H E I f st S;subst B q A;obtain⟨m,a,M,r,c,y⟩:=f it (by simp);exact wpAny_pyNext_range_end (I.ok.hd g) st (by have:n<=i:=S;lia) λh' L=>⟨rfl,I.turned (t':=s.toks) (λb o d e=>L b o d e) m a r c y⟩
 self:=λ_ _ _ _ _ st h=>wpAny_pyIter_rangeiter st h
theorem xx{p:List (d5×d6)}{σ:St}{H:Hp}{s:f7}{R:It->Hp->Prop}{E:c6->f7->Prop}{l hi:Int}{t u v:Tok}{tk:Nat}(I:r9 X p σ H s)(h1:-(2 ^ 62)<=l)(h2:l<2 ^ 62)(h:-(2 ^ 62)<=hi)(f:hi<2 ^ 62)(q:R (Pl l (hi-l).toNat) H):ge (i3 X.prog X.w) X.A (j3<|.ref s.heap.objs.size) (Qb X p σ tg R) E { s with heap:=s.heap.push { cls:=.type "range",data:=.fields #[.int l t,.int hi u,.int 1 v] },toks:=tk }:=by
 refine wpAny_pyIter_range (IsRange.new ..) (small_one h1 h2 h f) ?_;have a:r9 X p σ H { s with heap:=s.heap.push { cls:=.type "range",data:=.fields #[.int l t,.int hi u,.int 1 v] },toks:=tk }:=I.kept λb o e=>v5 _ e;refine⟨(s.heap.push { cls:=.type "range",data:=.fields #[.int l t,.int hi u,.int 1 v] }).objs.size,[(s.heap.push { cls:=.type "range",data:=.fields #[.int l t,.int hi u,.int 1 v] }).objs.size],_,_,H,rfl,a.kept (t':=tk) λb o e=>v5 _ e,yq _ l (hi-l).toNat,?_,λb g=>?_,q⟩;have c:l+((0:Nat):Int)*1=l:=by simp
 have d:(((hi-l).toNat:Nat):Int)-((0:Nat):Int)=Builtin.Range.rangeSize l hi 1:=by rw[rangeSize_one];split<;>lia
 show IsRangeIter _ _ (l+((0:Nat):Int)*1) ((((hi-l).toNat:Nat):Int)-((0:Nat):Int)) 1;rw[c,d];exact A1 _ rfl;have e:b=(s.heap.push { cls:=.type "range",data:=.fields #[.int l t,.int hi u,.int 1 v] }).objs.size:=by simpa using g
 subst e;exact a.fpOk (u7 _)<|a.hok.fresh<|u7 _
def iRng1(t:TA):TI:=λσ H R=>t σ H λv a=>∃j:Int,v=[.int j]/\-(2 ^ 62)<=j/\j<2 ^ 62/\R (Pl 0 j.toNat) a
def iRng2(t:TA):TI:=λσ H R=>t σ H λv a=>∃i j:Int,v=[.int i,.int j]/\(-(2 ^ 62)<=i/\i<2 ^ 62/\-(2 ^ 62)<=j/\j<2 ^ 62)/\R (Pl i (j-i).toNat) a
theorem AE{a:h8}{f:TA}{p c:Pos}(S:Gl X "range")(m:X.mg "range" = a8)(i:PA X [a] f)(v:i5 [a] X.env=[(c5,eval a X.env)]:=by rfl):PI X tg (.Call (.Name "range" p) [a] [] c) (iRng1 f):=by
 intro b s σ H R I h;refine Call_<|lP I S m boot_range<|RK (v4 (i c b s σ H _ I h) ?_) v rfl;rintro x u ⟨w,o,g,l,d⟩;obtain⟨j,e,d,k,q⟩:=d;subst e;cases l with
 |cons r n=>cases n;obtain⟨t,rfl⟩:=r;exact call_range_1<|xx g (by lia) (by lia) d k<|by simpa using q
theorem AD(S:Gl X "range")(m:X.mg "range" = a8)(l:PA X [a,b] ta)(y:i5 [a,b] X.env=[(c5,eval a X.env),(c5,eval b X.env)]:=by rfl)(c:i5 [b] X.env=[(c5,eval b X.env)]:=by rfl):PI X tg (.Call (.Name "range" p) [a,b] [] pos) (iRng2 ta):=by
 intro d s σ H R I h;refine Call_ (lP I S m boot_range<|RK (v4 (l pos d s σ H _ I h) ?_) (by rw[y,c])<|by rw[c];rfl);rintro us x ⟨z,w,k,v,f⟩;obtain⟨i,j,e,⟨f,n,o,u⟩,q⟩:=f;subst e;cases v with
 |cons r g =>
  cases g with
  |cons r' g=>cases g;obtain⟨t,rfl⟩:=r;obtain⟨t',rfl⟩:=r';exact call_range_2<|xx k f n o u q
def tFor(wi:TI)(g:TG)(t:TS):TS:=λD σ H=>wi σ H λJ d=>∃W:Nat->Nat->St->Hp->Prop,(∃m,W 0 m σ d)/\∀i m σ H,W i m σ H ->(J.stop i H/\D.nx σ H)\/(J.go i H/\∃N:St->Hp->Prop,(∀a H',N a H'->∃c,c < m/\W (i+1) c a H')/\∀x H',J.yld i H x H'->g x σ H' λb e=>t { D with nx:=N,ct:=N,bk:=D.nx } b e)
noncomputable def kb(fp:List d5)(h:d7):List (d5×d6):=fp.filterMap λb=>(h.get? b).map λo=>(b,o)
theorem ij(d:b∈fp)(e:h.get? b=a7 o):(b,o)∈kb fp h:=List.mem_filterMap.mpr ⟨b,d,by rw[e];rfl⟩
theorem tJ(c:p∈kb fp h):p.1∈fp/\h.get? p.1=a7 p.2:=by
 obtain⟨b,d,e⟩:=O1.mp c;cases q:h.get? b with
 |none=>rw[q]at e;cases e
 |some o=>rw[q]at e;have a:(b,o)=p:=A8 e;subst a;exact⟨d,q⟩
theorem r9.pinned(I:r9 X g σ H s)(f:∀b∈fp,zv X g H b)(B:∀b∈fp,∃o,s.heap.get? b=a7 o/\∀v,o.data≠.cell v):r9 X (g++kb fp s.heap) σ H s:=I.pins_of λp c=>(D6.mp c).elim (λz=>I.pin p<|F6 _ z) λz=>by obtain⟨h,e⟩:=tJ z;obtain⟨m,n,M,_⟩:=f p.1 h;obtain⟨o,a,d⟩:=B p.1 h;rw[e]at a;cases a;exact⟨e,m,n,M,d⟩
theorem r9.unpinned(I:r9 X (a++pl) σ H s):r9 X a σ H s:=I.pins_of λp h=>I.pin p<|F6 _<|L5 _ h
theorem JP(F:PassesOwn (i3 X.prog X.w) X.A X.env X.xe)(hc:X.calm=a9)(hi:PI X tg iter wi)(hg:PG X tg g)(l:J3 X body tb)(hs:∀x,j5 iter X.env x=pure x:=by intro _;rfl):PS X (.For tg iter body [] pos) (tFor wi g tb):=by
 intro p s σ H D I h;refine wpAny_For (v4 (hi p s σ H _ I h) λv s1 h1=>v4 h1 λai s2 h2=>?_) hs;obtain⟨it,C,tn,J,H2,e,I2,T,U,f2,W,⟨m0,w0⟩,M⟩:=h2;subst e
 -- what stays a9 of the iterator's objects through the loop
 have t:∀{H':Hp},(∀b∈C,H' b=a8)->∀b∈C,zv X p H' b:=λhn b l=>⟨hn b l,(f2 b l).2⟩
 refine codeAny_forLoop_any (λn s'=>∃i q H',r9 X p q H' s'/\tn i s'.heap/\(∀b∈C,H' b=a8)/\W i n q H') ?_ m0 ⟨0,σ,H2,I2,U,λb l=>(f2 b l).1,w0⟩;rintro n s3 ⟨i,y,O,Z,K,E,w3⟩;rcases M i n y O w3 with⟨stop,qn⟩|⟨go,N,hN,L⟩
 refine Ov F<|v4 (T.done X rfl rfl rfl hc i p s3 y O X.xe Z (t E) K stop) ?_;rintro r s4 ⟨R,I4⟩;subst R;exact Qn ⟨y,O,I4,qn⟩
 ·refine Ov F (v4 (T.item X rfl rfl rfl hc i p s3 y O X.xe Z (t E) K go) ?_)
  rintro r s4 ⟨u,R,h4⟩;subst R;refine Ov F<|v4 h4 ?_;rintro _ s5 ⟨x,Y,I5,r5,y5,B,Q⟩;have P:=I5.pinned (t Q)<|T.obj _ _ B;refine Ov F<|v4 (hg _ s5 y Y x u _ P r5<|L x Y y5) ?_;rintro _ s6 ⟨V,H6,I6,q6⟩;refine Ov F<|v4 (l _ s6 V H6 _ I6 q6) λf S z=>?_;have k:∀{a:St}{c:Hp},r9 X (p++kb C s5.heap) a c S->N a c->∃m,m<n/\∃i q H',r9 X p q H' S/\tn i S.heap/\(∀b∈C,H' b=a8)/\W i m q H':=λ{a c} j G=>by obtain⟨m',hm,w7⟩:=hN a c G;refine⟨m',hm,i+1,a,c,j.unpinned,T.keep _ _ _ B λb l o e=>(j.pin (b,o)<|F6 _<|F6 _<|ij l e).1,λb l=>?_,w7⟩;obtain⟨o,e,d⟩:=T.obj _ _ B b l;exact(j.pin (b,o)<|F6 _<|F6 _<|ij l e).2.1
  cases f with
  |next=>obtain⟨a,c,j,G⟩:=z;exact k j G
  |cont=>obtain⟨a,c,j,G⟩:=z;exact k j G
  |brk=>obtain⟨a,c,j,z⟩:=z;exact⟨a,c,j.unpinned,z⟩
  |ret v=>obtain⟨x7,a,c,j,r7,z⟩:=z;exact⟨x7,a,c,j.unpinned,r7,z⟩
abbrev R2:=V->V->Hp->VK->Prop
def C7(X:Cx)(f:c6->c6->Sem c6)(r:R2):Prop:=∀(p:List (d5×d6)) (s:f7) (σ:St) (H:Hp) (x y:V) (v u:c6) (Q:VK),r9 X p σ H s->aZ x v->aZ y u->r x y H Q ->ge (i3 X.prog X.w) X.A (f v u) (EP X p σ Q) X.xe s
def Qa(X:Cx)(f:c6->Sem c6)(r:V->Hp->VK->Prop):Prop:=∀(p:List (d5×d6)) (s:f7) (σ:St) (H:Hp) (x:V) (v:c6) (Q:VK),r9 X p σ H s->aZ x v->r x H Q ->ge (i3 X.prog X.w) X.A (f v) (EP X p σ Q) X.xe s
def jw(X:Cx)(f:c6)(r:List V->Hp->VK->Prop):Prop:=∀(p:List (d5×d6)) (s:f7) (σ:St) (H:Hp) (x:List V) (u:List c6) (Q:VK),r9 X p σ H s->aB x u->r x H Q ->ge (i3 X.prog X.w) X.A (call f u) (EP X p σ Q) X.xe s
def O6(r:R2)(t c:TE):TE:=λσ H Q=>t σ H λx a=>c σ a λy b=>r x y b Q
def tUn(r:V->Hp->VK->Prop)(t:TE):TE:=λσ H Q=>t σ H λx a=>r x a Q
def rI(C:Int->Int->Prop)(g:Int->Int->V):R2:=λx y H Q=>∃i j,x=.int i/\y=.int j/\C i j/\Q (g i j) H
def N9(g:Int->Int->V):R2:=λx y H Q=>∃i j,x=.int i/\y=.int j/\Q (g i j) H
def rU(g:Int->V):V->Hp->VK->Prop:=λx H Q=>∃i,x=.int i/\Q (g i) H
theorem binT(d:PE X a ta)(g:PE X b tb){p:List (d5×d6)}{s:f7}{σ:St}{H:Hp}{R:V->V->Hp->Prop}(I:r9 X p σ H s)(h:ta σ H λx H1=>tb σ H1 λy H2=>R x y H2) {Q:c6->f7->Prop}{f:c6->c6->Sem c6}(i:∀v u s2 x y H2,r9 X p σ H2 s2->aZ x v->aZ y u->R x y H2->ge (i3 X.prog X.w) X.A (f v u) Q X.xe s2):ge (i3 X.prog X.w) X.A (eval a X.env) (λv s₁=>ge (i3 X.prog X.w) X.A (eval b X.env) (λu s₂=>ge (i3 X.prog X.w) X.A (f v u) Q X.xe s₂) X.xe s₁) X.xe s:=by refine v4 (d p s σ H _ I h) ?_;rintro v k ⟨x,H1,c,r,q⟩;refine v4 (g p k σ H1 _ c q) ?_;rintro u s2 ⟨y,H2,e,m,j⟩;exact i v u s2 x y H2 e r m j
theorem pe_op{op:Operator}{r:R2}(B:C7 X (j6 op) r)(f:PE X a ta)(d:PE X b tb):PE X (.BinOp a op b pos) (O6 r ta tb):=by intro p s σ H Q I h;exact wpAny_BinOp<|binT f d I h λv u w x y c e g i q=>B p w σ c x y v u Q e g i q
theorem pe_un(B:Qa X (unaryOp op) r)(f:PE X a ta):PE X (.UnaryOp op a pos) (tUn r ta):=by intro p s σ H Q I h;refine UnaryOp_<|v4 (f p s σ H _ I h) ?_;rintro v e ⟨x,b,c,d,q⟩;exact B p e σ b x v Q c d q
theorem O8{f:c6->c6->Sem c6}{C:Int->Int->Prop}{g:Int->Int->Int}(e:∀(i j:Int) (t u:Tok) (s:f7) (Q:c6->f7->Prop) (E:c6->f7->Prop),C i j->Q (.int (g i j) s.toks) { s with toks:=s.toks+1 }->ge (i3 X.prog X.w) X.A (f (.int i t)<|.int j u) Q E s):C7 X f (rI C λi j=>.int<|g i j):=by intro p s σ H x y v u Q I r a h;obtain⟨i,j,rfl,rfl,c,q⟩:=h;obtain⟨t,rfl⟩:=r;obtain⟨t',rfl⟩:=a;exact e i j t t' s _ _ c ⟨.int<|g i j,H,I.tok _,⟨_,rfl⟩,q⟩
theorem opI0{f:c6->c6->Sem c6}{g:Int->Int->Int}(e:∀(i j:Int) (t u:Tok) (s:f7) (Q:c6->f7->Prop) (E:c6->f7->Prop),Q (.int (g i j) s.toks) { s with toks:=s.toks+1 }->ge (i3 X.prog X.w) X.A (f (.int i t)<|.int j u) Q E s):C7 X f (N9 λi j=>.int<|g i j):=by intro p s σ H x y v u Q I r a h;obtain⟨i,j,rfl,rfl,q⟩:=h;obtain⟨t,rfl⟩:=r;obtain⟨t',rfl⟩:=a;exact e i j t t' s _ _ ⟨.int<|g i j,H,I.tok _,⟨_,rfl⟩,q⟩
theorem opB0{f:c6->c6->Sem c6}{g:Int->Int->Bool}(e:∀(i j:Int) (t u:Tok) (s:f7) (Q:c6->f7->Prop) (E:c6->f7->Prop),Q (.bool<|g i j) s->ge (i3 X.prog X.w) X.A (f (.int i t)<|.int j u) Q E s):C7 X f (N9 λi j=>.bl<|g i j):=by intro p s σ H x y v u Q I r a h;obtain⟨i,j,rfl,rfl,q⟩:=h;obtain⟨t,rfl⟩:=r;obtain⟨t',rfl⟩:=a;exact e i j t t' s _ _ ⟨.bl<|g i j,H,I,rfl,q⟩
def CPow(i j:Int):Prop:=0<=j/\j<=1000000/\i.natAbs<2 ^ 64
def CMul(i j:Int):Prop:=(-(2 ^ 64)<i/\i<2 ^ 64)\/(-(2 ^ 64)<j/\j<2 ^ 64)
theorem CMul.ok(h:CMul i j):IntMulOk i j:=by
 rcases h with⟨h1,h2⟩|⟨h1,h2⟩
 exact .of_left<|intBits_le_64 h1 h2;exact .of_right<|intBits_le_64 h1 h2
theorem Kj:C7 X (j6 .Add) (N9 λi j=>.int<|i+j):=opI0 λ_ _ _ _ _ _ _ q=>add_int q
theorem Kd:C7 X (j6 .Sub) (N9 λi j=>.int<|i-j):=opI0 λ_ _ _ _ _ _ _ q=>sub_int q
theorem Kg:C7 X (j6 .Mult) (rI CMul λi j=>.int<|i*j):=O8 λ_ _ _ _ _ _ _ f q=>mul_int q f.ok
theorem Kh:C7 X (j6 .Mod) (rI (λ_ j=>0<j) λi j=>.int<|i % j):=O8 λi j _ _ _ _ _ f q=>by have h1:(0:Int)<j:=f;exact mod_int' (by lia)<|by rw[Int.fmod_eq_emod_of_nonneg i<|by lia];exact q
theorem Kf:C7 X (j6 .Pow) (rI CPow λi j=>.int<|i ^ j.toNat):=O8 λ_ _ _ _ _ _ _ f q=>pow_int_small f.1 f.2.1 f.2.2 q
theorem Ke:C7 X (j6 .LShift) (rI CPow λi j=>.int<|i*2 ^ j.toNat):=O8 λ_ _ _ _ _ _ _ f q=>lshift_int_small f.1 f.2.1 f.2.2 q
theorem unI{f:c6->Sem c6}{g:Int->Int}(e:∀(i:Int) (t:Tok) (s:f7) (Q:c6->f7->Prop) (E:c6->f7->Prop),Q (.int (g i) s.toks) { s with toks:=s.toks+1 }->ge (i3 X.prog X.w) X.A (f<|.int i t) Q E s):Qa X f (rU λi=>.int<|g i):=by intro p s σ H x v Q I r h;obtain⟨i,rfl,q⟩:=h;obtain⟨t,rfl⟩:=r;exact e i t s _ _ ⟨.int<|g i,H,I.tok _,⟨_,rfl⟩,q⟩
theorem Jk:Qa X (unaryOp .USub) (rU λi=>.int (-i)):=unI λ_ _ _ _ _ q=>neg_int q
theorem op_lt:C7 X (j7 .Lt) (N9 λi j=>.bl<|decide<|i<j):=opB0 λ_ _ _ _ _ _ _ q=>lt_int q
theorem op_le:C7 X (j7 .LtE) (N9 λi j=>.bl<|decide<|i<=j):=opB0 λ_ _ _ _ _ _ _ q=>le_int q
theorem op_gt:C7 X (j7 .Gt) (N9 λi j=>.bl<|decide<|j<i):=opB0 λ_ _ _ _ _ _ _ q=>gt_int q
theorem C7.or(h:C7 X f r)(h':C7 X f r'):C7 X f (λx y H Q=>r x y H Q\/r' x y H Q):=by intro p s σ H x y v u Q I g i q;rcases q with q|q;exact h p s σ H x y v u Q I g i q;exact h' p s σ H x y v u Q I g i q
theorem GH(B:C7 X (j7 op) r)(f:PE X a ta)(d:PE X b tb)(m:j8 op b=c5):PE X (.Compare a [op] [b] pos) (O6 r ta tb):=by intro p s σ H Q I h;exact wpAny_Compare1 (binT f d I h λv u w x y c e g i q=>B p w σ c x y v u Q e g i q) m
def Jt(t:TE):TT:=λσ H Q=>t σ H λx H'=>∃k,x=.bl k/\Q k H'
theorem Gy(B:C7 X (j7 op) r)(m:PE X a ta)(n:PE X b tb)(o:j8 op b=c5):PT X (.Compare a [op] [b] pos) (Jt<|O6 r ta tb):=by
 intro p s σ H Q I h;refine wpAny_isTrue_Compare1 (v4 (m p s σ H _ I h) λv E ⟨x,d,i,A,q⟩=>v4 (n p E σ d _ i q) λu F ⟨y,f,j,C,t⟩ =>
  v4 (B p F σ f x y v u _ j A C t) λc G ⟨z,g,l,D,k,e,w⟩=>?_) o
 subst e;cases D;exact N4 ⟨g,l,w⟩
def Fv(r r':R2)(t e f:TE):TE:=λσ H Q=>t σ H λx a=>e σ a λy b=>r x y b λz c=>∃k,z=.bl k /\(if k=a9 then f σ c λY d=>r' y Y d Q else Q (.bl c5) c)
theorem Du(E:C7 X (j7 op) r)(f:C7 X (j7 op') r')(A:PE X a ta)(B:PE X b tb)(C:PE X c tc)(D:lastMarks [op,op'] [b,c]=c5:=by with_unfolding_all rfl):PE X (.Compare a [op,op'] [b,c] pos) (Fv r r' ta tb tc):=by
 intro p s σ H Q I h;refine Compare_chain (v4 (A p s σ H _ I h) λv N ⟨x,j,o,K,F⟩=>chain_link (v4 (B p N σ j _ o F) λu O ⟨y,l,t,m,G⟩ =>
  v4 (E p O σ l x y v u _ t K m G) λd P ⟨z,g,i,L,k,e,q⟩=>?_)) D
 subst e;cases L;refine N4 ?_;cases k with
 |false=>exact ite_ff ⟨.bl c5,g,i,rfl,q⟩
 |true=>exact ite_tt<|chain_last<|v4 (C p P σ g _ i q) λY R ⟨S,n,w,M,J⟩=>f p R σ n y S u Y Q w m M J
theorem pN:(sizeLine:Nat)<2 ^ 63:=by rw[Mu];decide
theorem yz:C7 X (j6 .Add) (λx y H Q=>∃i j,x=.str i/\y=.str j/\i.length+j.length<=sizeLine/\Q (.str<|i++j) H):=by intro p s σ H x y v u Q I g r h;obtain⟨i,j,rfl,rfl,b,q⟩:=h;obtain⟨t,rfl⟩:=g;obtain⟨t',rfl⟩:=r;exact add_str (λt' k=>⟨.str<|i++j,H,I.tok _,⟨_,rfl⟩,q⟩) b
theorem Gc(r:aB [x] s):∃u,s=[u]/\aZ x u:=by
 cases r with
 |cons a m=>cases m;exact⟨_,rfl,a⟩
structure ObjM(h:d7)(x dx C:d5)(mA:c7->Option c6):Prop where
 obj:h.get? x=a7 (PySem.W.instObj C dx)
 ns:h.Ns1 dx mA
 ne:dx≠x
theorem CI.some_of(r:CI (a7 v) o):∃u,o=a7 u/\aZ v u:=by
 cases o with
 |none=>exact(show False from r).elim
 |some u=>exact⟨u,rfl,r⟩
structure Cls(K:u4)(C:d5):Prop where
 pg:PySem.W.plainGet K C Str.empty=a9
 hd:PySem.W.hasDictIn K C=a9
 po:PySem.W.plainOver K C=a9
 sa:PB K (.ref C) "__setattr__" = a7 (a7<|.builtin "object.__setattr__")
structure Con(K:u4)(C:d5)(f:c7)(v:V)(u:c6):Prop where
 at_:PB K (.ref C) f=a7 (a7 u)
 rel:aZ v u
 get:PySem.W.specialIn K u "__get__" = a7 a8
 cp:PySem.W.copiedNames.contains f=c5
structure Meth(K:u4)(C:d5)(m:c7)(f:d5):Prop where
 at_:PB K (.ref C) m=a7 (a7<|.ref f)
 fn:PySem.W.isFn K (.ref f)=a9
 kp:NX K (.ref f)=a9
inductive TyOf(K:u4)(H:Hp):V->c6->Prop where
 |non:TyOf K H .non (.type "NoneType")
 |bl (x:Bool):TyOf K H (.bl x) (.type "bool")
 |int (i:Int):TyOf K H (.int i) (.type "int")
 |str (x:c7):TyOf K H (.str x) (.type "str")
 |flt (x:UInt64):TyOf K H (.flt x) (.type "float")
 |lst {a:d5}{xs:List V} (e:H a=a7 (.lst xs)):TyOf K H (.ref a) (.type "list")
 |frz {a:d5}{o:d6}{xs:List V} (e:H a=a7 (.frz o (.lst xs))):TyOf K H (.ref a) (.type "list")
 |tup {a:d5}{xs:List V} (e:H a=a7 (.tup xs)):TyOf K H (.ref a) (.type "tuple")
 |dK {a:d5}{kvs:List (D3×V)} (e:H a=a7 (.dK kvs)):TyOf K H (.ref a) (.type "dict")
 |dT {a:d5}{kvs:List (List D3×V)} (e:H a=a7 (.dT kvs)):TyOf K H (.ref a) (.type "dict")
 |ins {a C dx:d5}{fs:List (c7×V)} (e:H a=a7 (.ins C dx fs)) (cl:Cls K C) (ha:PB K (.ref C) "__class__" = a7 (a7 (.builtin "object.__class__")))
   (hn:PySem.W.specialIn K (.builtin "object.__class__") "__get__" = a7 (a7<|.builtin "getset_descriptor.__get__")) (htk:PySem.W.takesIn K (.builtin "object.__class__")=a7 a9)
   (hm:PySem.W.mroIn K C (.type "object")=a7 a9):TyOf K H (.ref a) (.ref C)
structure Room(k:Nat)(A:f6):Prop where
 hd:A.handled=a8
 dp:A.depth+3*k+5<recursionLimit
 un:A.units+16*k+200<j9
theorem Room.mono(r:Room k A)(h:j<=k):Room j A:=⟨r.hd,by have:=r.dp;lia,by have:=r.un;lia⟩
theorem Room.deeper(r:Room (k+1) A)(env:Env):Room k (A.deeper env):=⟨r.hd,by have:=r.dp;show A.depth+1+3*k+5<_;lia,by have:=r.un;show A.units+3+16*k+200<_;lia⟩
theorem Room.in1(r:Room (k+1) A):Room k A.in1:=⟨r.hd,by have:=r.dp;show A.depth+3*k+5<_;lia,by have:=r.un;show A.units+1+16*k+200<_;lia⟩
theorem Room.depth(r:Room k A):A.depth<recursionLimit:=by have:=r.dp;lia
def tNil:TA:=λ_ H Q=>Q [] H
def tCons(t:TE)(tr:TA):TA:=λσ H Q=>t σ H λx a=>tr σ a λs b=>Q (x::s) b
theorem Kc:PA X [] tNil:=λ_ _ _ _ H Q I h=>QA ⟨[],H,I,.nil,h⟩
theorem GJ(g:PE X e te)(i:PA X l t)(o:i5 (e::l) X.env=(c5,eval e X.env)::i5 l X.env:=by rfl):PA X (e::l) (tCons te t):=by intro a p s σ H Q I h;rw[o];show ge _ _ (spliced<|(c5,eval e X.env)::i4 a (i5 l X.env)) _ _ s;refine QH<|v4 (g p s σ H _ I h) ?_;rintro u k ⟨x,b,d,r,q⟩;refine v4 (i a p k σ b _ d q) ?_;rintro v w ⟨n,c,f,m,j⟩;exact⟨x::n,c,f,.cons r m,j⟩
def tTup(t:TA):TE:=λσ H Q=>t σ H λx a=>x.length<=sizeLine/\∀p,a p=a8->Q (.ref p) (v7 a p<|.tup x)
def tLst(t:TA):TE:=λσ H Q=>t σ H λx a=>x.length<=sizeLine/\∀p,a p=a8->Q (.ref p) (v7 a p<|.lst x)
theorem JT{x1}(h:PA X i t):PE X (.Tuple i x1 pos) (tTup t):=by intro p s σ H Q I g;refine wpAny_Tuple_spliced<|v4 (h pos p s σ H _ I g) λj f ⟨x,a,c,r,z,q⟩=>⟨by rw[<-r.length];exact z,?_⟩;have d:a f.heap.objs.size=a8:=c.hok.fresh<|u7 _;refine⟨.ref f.heap.objs.size,v7 a f.heap.objs.size<|.tup x,c.laid (t':=f.toks) (λb u e=>v5 _ e) (u7 _) ?_,rfl,q _ d⟩;exact⟨z,j,r,⟨_,A1 _ rfl,rfl,⟨_,rfl⟩,rfl⟩⟩
theorem JY(h:PA X i t):PE X (.List i pos) (tLst t):=by intro p s σ H Q I g;refine wpAny_List_spliced<|v4 (h pos p s σ H _ I g) λj f ⟨x,a,c,r,z,q⟩=>⟨by rw[<-r.length];exact z,?_⟩;have d:a f.heap.objs.size=a8:=c.hok.fresh<|u7 _;refine⟨.ref f.heap.objs.size,v7 a f.heap.objs.size<|.lst x,c.laid (t':=f.toks) (λb u e=>v5 _ e) (u7 _) ?_,rfl,q _ d⟩;exact⟨z,j,0,r,A1 _ rfl⟩
abbrev Sp:=List V->Hp->VK->XK->Prop
abbrev NS:=List Env->Hp->f7->XK->c6->f7->Prop
structure Env0(P:c9)(w:c8)(K:u4)(mg:c7->Option c6)(base:d7)(A:f6)(outer:List Env)(s:f7)(H:Hp):Prop where
 frames:A.frames=a7 outer
 mod:Mod K mg base
 bs:∀b o,base.get? b=a7 o->s.heap.get? b=a7 o/\H b=a8
 bsz:base.objs.size<=s.heap.objs.size
 funs:s.heap.FunFrames base outer
 frf:∀b∈J1 outer,H b=a8
 hok:D0 P w H s.heap
 bare:f9 s.gens
inductive CE(outer:List Env)(P:c9)(w:c8)(H:Hp)(s:f7)(Q:VK)(u:c6)(s':f7):Prop
 |mk (v:_) (H':_) (f0:s'.os=s.os) (f1:f9 s'.gens) (f2:Un (J1 outer) [] H H' s.heap s'.heap) (f3:D0 P w H' s'.heap) (f4:aZ v u) (f5:Q v H')
def CR(CX:NS)(o:List Env)(P:c9)(w:c8)(H:Hp)(s:f7)(Q:VK)(E:XK)(r:Result)(s':f7):Prop:=match r with
 |.ok (.ret u)=>CE o P w H s Q u s'
 |.ok _=>False
 |.error e=>CX o H s E e s'
structure FnOk(P:c9)(w:c8)(K:u4)(mg:c7->Option c6)(base:d7)(CX:NS)(k:Nat)(f:d5)(fd:k4)(ps:List c7)(sp:Sp):Prop where
 len:∀vs H Q E,sp vs H Q E->vs.length=ps.length
 run:∀(A:f6) (outer:List Env) (s:f7) (H:Hp) (args:Args) (us:List c6) (vs:List V) (Q:VK) (E:XK),Room k A->Env0 P w K mg base A outer s H->BindsTo s fd args (ps.zip us)->aB vs us->sp vs H Q E ->k5 (i3 P w) A (.call (.ref f) args) (CR CX outer P w H s Q E) s
theorem Env0.in1{P:c9}{w:c8}{K:u4}{mg:c7->Option c6}{base:d7}{A:f6}{o:List Env}{s:f7}{H:Hp}(e:Env0 P w K mg base A o s H):Env0 P w K mg base A.in1 o s H:=⟨e.frames,e.mod,e.bs,e.bsz,e.funs,e.frf,e.hok,e.bare⟩
theorem r9.env0(I:r9 X p σ H s):Env0 X.prog X.w X.K X.mg X.base X.A X.stack s H:=⟨I.ok.frames,I.ok.mod,I.bs,D4 I.ok.bsz I.sz,I.stack,I.stkFree,I.hok,I.bare⟩
theorem r9.after(I:r9 X p σ H s)(h:CE X.stack X.prog X.w H s Q u s'):EP X p σ Q u s':=by obtain⟨v,H',c,e,n,K,r,q⟩:=h;obtain⟨a,g,d,t,o⟩:=s';obtain rfl:o=s.os:=c;exact⟨v,H',I.call (h':=a) (g':=g) (d':=d) (t':=t) (ch:=[]) n K e (λb z=>o4 z<|by simp),r,q⟩
def Jw(sp:Sp)(s:List V)(E:XK)(t:TA):TE:=λσ H Q=>t σ H λv a=>sp (v++s) a Q E
def uN(K:u4)(d:k4)(p:List c7)(a:List c6):Prop:=∀(s:f7) (us:List c6),K.In s.heap->(us++a).length=p.length->BindsTo s d ⟨us,[]⟩ (p.zip<|us++a)
theorem uN.all{K:u4}{d:k4}{p:List c7}(h:∀u:List c6,u.length=p.length->bindArgs d ⟨u,[]⟩=pure (p.zip u)):uN K d p []:=λs u _ g=>by rw[G2]at g ⊢;exact .of_eq<|h u g
def CD(CX:NS)(X:Cx)(E:XK):Prop:=∀(p:List (d5×d6)) (σ:St) (H:Hp) (s:f7) (e:c6) (s':f7),r9 X p σ H s->CX X.stack H s E e s'->X.xe e s'
theorem JE(F:FnOk X.prog X.w X.K X.mg X.base CX k f fd j sp)(i:Room k X.A)(d:uN X.K fd j c)(a:aB dvs c)(x:CD CX X E)(I:r9 X p σ H s) (r:aB v b) (h:sp (v++dvs) H Q E):ge (i3 X.prog X.w) X.A (call (.ref f) b) (EP X p σ Q) X.xe s:=by
 have m:aB (v++dvs) (b++c):=r.append a;have g:(b++c).length=j.length:=by rw[<-m.length];exact F.len _ _ _ _ h
 refine wpAny_call<|Og (F.run X.A X.stack s H ⟨b,[]⟩ (b++c) (v++dvs) Q E i I.env0 (d s b I.kIn g) m h) λr s' q=>?_;cases r with
 |error e=>exact x p σ H s e s' I q
 |ok l =>
  cases l with
  |ret u=>exact I.after q
  |next=>exact Na q
  |brk=>exact Na q
  |cont=>exact Na q
theorem GI(F:FnOk X.prog X.w X.K X.mg X.base CX k f fd ps sp)(o:Room k X.A)(S:Gl X x)(n:X.mg x=a7 (.ref f))(m:NX X.K (.ref f)=a9)(g:uN X.K fd ps ds)(i:aB dvs ds)(u:CD CX X E)(d:PA X (e::z) t) (b:(x==("__debug__":c7))=c5:=by decide) (j:i5 (e::z) X.env=(c5,eval e X.env)::i5 z X.env:=by rfl) (l:(i4 pos<|i5 z X.env).any (·.1)=c5:=by rfl):PE X (.Call (.Name x p) (e::z) [] pos) (Jw sp dvs E t):=by intro a s σ H Q I h;refine OC<|Hj I S n ?_ b;refine PySem.W.callWith_K (h₀:=X.base) I.ok.mod.kin m (v4 (d pos a s σ H _ I h) λus y ⟨vs,v,c,r,q⟩=>⟨c.kIn,?_⟩) j l;exact JE F o g i u c r q
structure Mk(K:u4)(C f:d5):Prop where
 makes:PySem.W.makesIn K C=a9
 init:PB K (.ref C) "__init__" = a7 (a7<|.ref f)
 fn:PySem.W.isFn K (.ref f)=a9
 kp:NX K (.ref C)=a9
structure KBinds(K:u4)(fd:k4)(ps ks:List c7)(g:List c6->List c6->List c6)(gV:List V->List V->List V):Prop where
 to:∀(s:f7) (us ws:List c6),K.In s.heap->(g us ws).length=ps.length->BindsTo s fd ⟨us,ks.zip ws⟩ (ps.zip<|g us ws)
 rel:∀{vs:List V}{us:List c6}{zs:List V}{ws:List c6},aB vs us->aB zs ws->aB (gV vs zs) (g us ws)
structure FnScope(N P:List c7)(sc:f8):Prop where
 kind:sc.kind=.function
 co:sc.isCoroutine=c5
 gen:sc.isGenerator=c5
 nd:N.Nodup
 pre:N.take P.length=P
 par:∀x∈P,sc.names.lookup x=a7 .local\/sc.names.lookup x=a7 .cell
 nofree:∀y∈sc.names,y.2≠.free
theorem uE{kindOf:c7->Option k6}{x:c7}:∀{binds:List (c7×c6)}{m:c7->Option c6},(∀v,(x,v)∉binds)->bindL kindOf binds m x=m x
 | [],_,_=>rfl
 |(n,v)::r,m,h=>by
  unfold bindL;rw[uE λw hw=>h w<|A5 _ hw];split;have:x≠n:=by rintro rfl;exact h v C5
  simp[this];rfl
theorem uG{kindOf:c7->Option k6}{x:c7}:∀{binds:List (c7×c6)}{m:c7->Option c6},(∀v,(x,v)∉binds)->bindC kindOf binds m x=m x
 | [],_,_=>rfl
 |(n,v)::r,m,h=>by
  unfold bindC;rw[uG λw hw=>h w<|A5 _ hw];split;rfl;have:x≠n:=by rintro rfl;exact h v C5
  simp[this]
theorem uF{kindOf:c7->Option k6}{x:c7}{v:c6}:∀{P:List c7}{s:List c6}{i:Nat}{m:c7->Option c6},P.Nodup->P[i]?=a7 x->s[i]?=a7 v->kindOf x=a7 .local ->bindL kindOf (P.zip s) m x=a7 v
 | [],_,_,_,_,h,_,_=>by simp at h
 |_::_,[],_,_,_,_,h,_=>by simp at h
 |p::P,w::s,0,m,nd,h1,h2,hk=>by simp at h1 h2;subst h1;subst h2;show bindL kindOf ((p,w)::P.zip s) m p=_;unfold bindL;rw[uE λv hv=>(MU.mp nd).1 (Qm hv).1,n9 hk];simp
 |p::P,w::s,i+1,m,nd,h1,h2,hk=>by show bindL kindOf ((p,w)::P.zip s) m x=_;unfold bindL;exact uF (i:=i) (MU.mp nd).2 (by simpa using h1) (by simpa using h2) hk
theorem uH{kindOf:c7->Option k6}{x:c7}{v:c6}:∀{P:List c7}{s:List c6}{i:Nat}{m:c7->Option c6},P.Nodup->P[i]?=a7 x->s[i]?=a7 v->kindOf x≠a7 .local ->bindC kindOf (P.zip s) m x=a7 v
 | [],_,_,_,_,h,_,_=>by simp at h
 |_::_,[],_,_,_,_,h,_=>by simp at h
 |p::P,w::s,0,m,nd,h1,h2,hk=>by simp at h1 h2;subst h1;subst h2;show bindC kindOf ((p,w)::P.zip s) m p=_;unfold bindC;rw[uG λv hv=>(MU.mp nd).1 (Qm hv).1,o0 hk];simp
 |p::P,w::s,i+1,m,nd,h1,h2,hk=>by show bindC kindOf ((p,w)::P.zip s) m x=_;unfold bindC;exact uH (i:=i) (MU.mp nd).2 (by simpa using h1) (by simpa using h2) hk
noncomputable def start(N:List c7)(v:List V):St:=v.map a7++Py (N.length-v.length) a8
noncomputable def uz(CX:NS)(P:c9)(w:c8)(K:u4)(mg:c7->Option c6)(base:d7)(N:List c7)(l:c7)(scope:f8)(f:d5)(d:c6)(A:f6)(outer:List Env)(s:f7)(H:Hp)(E:XK):Cx where
 prog:=P
 w:=w
 K:=K
 mg:=mg
 base:=base
 A:=A.deeper<|k7 l scope s.heap.objs.size f d
 N:=N
 s₀:=s
 H₀:=H
 env:=k7 l scope s.heap.objs.size f d
 outer:=outer
 stack:=k7 l scope s.heap.objs.size f d::outer
 ex:=[]
 calm:=a9
 fn:=λ_=>a9
 pn:=[]
 xe:=λe s'=>ge (i3 P w) (A.deeper<|k7 l scope s.heap.objs.size f d) (leaving (k7 l scope s.heap.objs.size f d) e) (λ_ a=>CX outer H s E e a) (λb a=>CX outer H s E b a) s'
theorem xW{s:f8}{n:Nat}{x:c7}(h:s.names.lookup x=a7 .cell):∃c,(cellsFrom n s.names []).lookup x=a7 c:=by have q:=Ru s.names n []<|.inl h;exact RF.mp q
theorem uc{CX:NS}{P:c9}{w:c8}{K:u4}{mg:c7->Option c6}{base:d7}{N ps:List c7}{l:c7}{scope:f8}{f:d5}{t:c6}{A:f6}{o:List Env}{s D:f7}{H:Hp}{E:XK}{us:List c6}{vs:List V}(S:FnScope N ps scope) (G:A.handled=a8) (d:Env0 P w K mg base A o s H) (M:vs.length=ps.length) (r:aB vs us)(x:InCallC s s.heap.objs.size (bindL (k7 l scope s.heap.objs.size f t).kindOf (ps.zip us) λ_=>a8) (cellsFrom (s.heap.objs.size+1) scope.names []) (bindC (k7 l scope s.heap.objs.size f t).kindOf (ps.zip us) λ_=>a8) D):r9 (uz CX P w K mg base N l scope f t A o s H E) [] (start N vs) H D:=by
 have I:ps.length<=N.length:=by have:=p6 K8 S.pre;rw[F5]at this;lia
 obtain⟨h1,Q,rfl,B⟩:=x.done;have g:∀b:d5,b∉(uz CX P w K mg base N l scope f t A o s H E).ex:=λb z=>o4 (show b∈([]:List d5)from z) (by simp);refine⟨⟨d.mod,S.kind,rfl,rfl,u7 _,λy z c h1 h2=>?_,λy O=>?_,λy c _ h=>?_,λ_=>G,Around.frames_deeper d.frames,.inr ⟨rfl,rfl⟩,λb z=>o4 z<|g b,d.bs,d.bsz,λb _ _=>g b,λb z=>o4 z<|g b,d.funs,d.frf⟩,rfl,d.bare,Un.kept B,⟨_,x.toInCall.ns,λi y v h1 h2 L=>?_⟩,λy c h=>⟨_,x.cell y c h⟩,d.hok.fresh<|u7 _,λy c h=>?_,λp j=>o4 (show p∈([]:List (d5×d6))from j) (by simp),d.hok.kept B,?_⟩;exact name_of_addr x.apart (NN h1)<|NN h2;have O:scope.names.lookup y=a7 .cell\/scope.names.lookup y=a7 .free:=O;rcases O with O|O;exact xW O;exact o4 rfl<|S.nofree _<|NN O;exact Oh<|x.above y c<|NN h;have hi:i<vs.length:=by unfold start at h2;by_cases hi:i<vs.length;exact hi;rw[MB<|by simpa using hi]at h2;rw[QS]at h2;split at h2<;>cases h2
 have F:vs[i]?=a7 v:=by
  unfold start at h2;rw[J0 (by simpa using hi),C8]at h2;cases e:vs[i]? with
  |none=>rw[e]at h2;cases h2
  |some a=>rw[e]at h2;cases h2;rfl
 obtain⟨u,C,J⟩:=r.get F;have j:ps[i]?=a7 y:=by rw[<-S.pre,OF<|by lia];exact h1
 have m:ps.Nodup:=by rw[<-S.pre];exact S.nd.sublist<|Qz _ _
 refine⟨u,J,?_⟩;rcases S.par y (D2 j)with k|k;exact .inl ⟨k,uF m j C k⟩;obtain⟨c,e⟩:=xW (n:=s.heap.objs.size+1) k;refine .inr ⟨.inl k,c,e,?_⟩;have q:=x.cell y c e;rw[uH m j C<|by show scope.names.lookup y≠_;rw[k];decide]at q;exact q;exact d.hok.fresh<|Oh<|x.above y c<|NN h;unfold start;show _=N.length;rw[A3,u6,QN];lia
theorem Lx{CX:NS}{P:c9}{w:c8}{K:u4}{mg:c7->Option c6}{base:d7}{k:Nat}{f:d5}{name l:c7}{p:Arguments}{a:List i6}{scope:f8}{T kV i U c R oc:c6}{M od:Option d5}{G:Array (Option c6)}{N ps:List c7}{sp:Sp} (lk:K.lookup f=a7 ⟨oc,od,.func<|NF name l p a scope T kV i U M c R,G⟩) (C:Qj K c l=a9) (S:FnScope N ps scope)(B:∀vs H Q E,sp vs H Q E->vs.length=ps.length)(h:∀(A:f6) (outer:List Env) (s:f7) (H:Hp) (vs:List V) (Q:VK) (E:XK),Room k (A.deeper<|k7 l scope s.heap.objs.size f c)->sp vs H Q E -> ∃t,J3 (uz CX P w K mg base N l scope f c A outer s H E) a t/\t { nx:=λ_ H'=>Q .non H',rt:=Q } (start N vs) H):FnOk P w K mg base CX (k+1) f (NF name l p a scope T kV i U M c R) ps sp:=by
 refine⟨B,λA outer s H O us vs Q E D j hb r z=>?_⟩;have hl:=B _ _ _ _ z;have X:K.In s.heap:=j.mod.kin.keeps λb o e=>(j.bs b o e).1;have F:s.heap.NoLimit:=j.mod.nolimit.keeps λb o e=>(j.bs b o e).1;have g:∀y∈ps.zip us,scope.names.lookup y.1=a7 .local\/(scope.names.lookup y.1=a7 .cell/\((cellsFrom (s.heap.objs.size+1) scope.names []).lookup y.1).isSome=a9):=λ⟨n,v⟩ hy=>by rcases S.par n (Qm hy).1 with q|q;exact .inl q;exact .inr ⟨q,Ru _ _ _<|.inl q⟩
 refine codeAny_call_function D.depth (X _ _ lk) rfl S.co S.gen rfl (PySem.W.codeRec_of X C)<|hb _ _ _ _ ?_;refine wpAny_newFunctionEnv_cells S.kind g λenv he Y x=>?_;subst he;refine⟨F.keeps x.toInCall.keep,codeAny_func ?_⟩;obtain⟨t,ht,hq⟩:=h A outer s H vs Q E (D.deeper _) z;have I:r9 (uz CX P w K mg base N l scope f c A outer s H E) [] (start N vs) H Y:=uc S D.hd j hl r x;refine E9 (ht [] Y (start N vs) H _ I hq) (λZ s' hs=>?_) λe s' hs=>hs;have m:∀{d:St}{H':Hp}{v:V}{u:c6},r9 (uz CX P w K mg base N l scope f c A outer s H E) [] d H' s'->aZ v u->Q v H'->CE outer P w H s Q u s':=λ{d H' v u} J L q=>⟨v,H',J.os,J.bare,J.base,J.hok,L,q⟩
 cases Z with
 |ret u=>obtain⟨v,d,H',J,L,q⟩:=hs;exact m J L q
 |next=>obtain⟨d,H',J,q⟩:=hs;exact m (v:=V.non) (u:=Mo) J rfl q
 |brk=>obtain⟨_,_,_,q⟩:=hs;exact Na q
 |cont=>obtain⟨_,_,_,q⟩:=hs;exact Na q
def Q6(r:List V->Hp->VK->Prop)(t:TA):TE:=λσ H Q=>t σ H λv a=>r v a Q
theorem Dv{X:Cx}{x:c7}{p b:Pos}{e:h8}{u:List h8}{t:TA}{id:String}{r:List V->Hp->VK->Prop}(i:jw X (.builtin id) r)(S:Gl X x)(m:X.mg x=a8)(v:e9 x=a7 (.builtin id))(g:PA X (e::u) t)(n:x≠"__name__":=by decide)(c:(x==("__debug__":c7))=c5:=by decide)(j:i5 (e::u) X.env=(c5,eval e X.env)::i5 u X.env:=by rfl) (l:(i4 b<|i5 u X.env).any (·.1)=c5:=by rfl):PE X (.Call (.Name x p) (e::u) [] b) (Q6 r t):=by intro a s σ H Q I h;refine OC<|lP I S m v ?_ n c;exact PyProof.Rows.callWith_builtin1 (v4 (g b a s σ H _ I h) λy o ⟨w,d,f,k,q⟩=>i a o σ d w y Q f k q) j l
theorem AG(g:jw X (.type T) r)(S:Gl X x)(m:X.mg x=a8)(v:e9 x=a7 (.type T))(f:PA X (e::o) t)(n:x≠"__name__":=by decide)(b:(x==("__debug__":c7))=c5:=by decide)(i:i5 (e::o) X.env=(c5,eval e X.env)::i5 o X.env:=by rfl) (l:(i4 pos<|i5 o X.env).any (·.1)=c5:=by rfl):PE X (.Call (.Name x p) (e::o) [] pos) (Q6 r t):=by intro a s σ H Q I h;refine OC<|lP I S m v ?_ n b;exact RK (v4 (f pos a s σ H _ I h) λw k ⟨u,c,d,j,q⟩=>g a k σ c u w Q d j q) i l
end L2
namespace HT
open PySem PyProof.Rows
theorem rcLt_int(A:f6)(s:f7)(a:Int)(t:Tok)(c:Int)(u:Tok)(p:c9)(w:c8)(E:c6->f7->Prop)(Q:c6->f7->Prop)(h:Q (.bool<|decide<|a<c) s):ge (i3 p w) A (richCompare .Lt (.int a t)<|.int c u) Q E s:=(PyProof.Rows.lt_int h:ge (i3 p w) A (j7 .Lt (.int a t)<|.int c u) Q E s)
theorem cat_tup(D:IsTup s.heap t u.toArray)(q:IsTup s.heap b r.toArray)(v:u≠[])(h1:r=[]->Q (.ref t) s) (h2:r≠[]->Q (.ref s.heap.objs.size) { s with heap:=s.heap.push { cls:=.type "tuple",data:=.seq (u++r).toArray } })(z:u.length+r.length<=sizeLine):ge (i3 x w) A (j6 .Add (.ref t)<|.ref b) Q E s:=by
 obtain⟨⟨cls,k,data,p⟩,B,l,n,m⟩:=id D;obtain⟨⟨j,d,i,f⟩,h,a,o,c⟩:=id q;simp only at l m a c;subst l m a c;have e:u.toArray++r.toArray=(u++r).toArray:=by simp
 by_cases g:r=[]
 exact concat_meets ⟨_,B,rfl⟩ ⟨_,h,rfl⟩ noFill_tuple_add seq_tuple_add Rt Rz (RE _ _) (tuple_addW1 t b u.toArray r.toArray n o k d p f (by simpa using v)<|by simp[g]) ⟨B,h,h1 g⟩;refine concat_meets ⟨_,B,rfl⟩ ⟨_,h,rfl⟩ noFill_tuple_add seq_tuple_add Rt Rz (RE _ _) (tuple_addW2 t b u.toArray r.toArray n o k d p f (by simpa using v) (by simpa using g)<|by rw[z7,z7];exact z) ⟨B,h,?_⟩;rw[e];exact h2 g
noncomputable def sIx(n d:Nat):Option Int->Nat
 |none=>d
 |some v=>if v<0 then(v+(n:Int)).toNat else min v.toNat n
theorem sIx_none(n d:Nat):sIx n d a8=d:=rfl
theorem sIx_nat(n d k:Nat):sIx n d (a7 (k:Int))=min k n:=by show (if (k:Int)<0 then((k:Int)+(n:Int)).toNat else min (k:Int).toNat n)=min k n;rw[o0 (by lia),Nr]
theorem JC(n d:Nat)(h:d<=n)(o:Option Int):sIx n d o<=n:=by
 cases o with
 |none=>exact h
 |some v=>show (if v<0 then(v+(n:Int)).toNat else min v.toNat n)<=n;by_cases c:v<0;rw[n9 c];lia;rw[o0 c];exact Nat.min_le_right _ _
theorem Cp(v:Int)(n d:Nat):(if v<0 then max (v+(n:Int)) 0 else min v (n:Int))=((sIx n d (a7 v):Nat):Int):=by
 show (if v<0 then max (v+(n:Int)) 0 else min v (n:Int))=(((if v<0 then(v+(n:Int)).toNat else min v.toNat n):Nat):Int)
 by_cases c:v<0;simp only[n9 c];lia;simp only[o0 c];lia
theorem zo(l hi:Option Int)(n:Nat):RH l hi 1 (n:Int)=(((sIx n 0 l:Nat):Int),((sIx n n hi:Nat):Int)):=by
 have h1:¬((1:Int)<0):=by lia
 unfold RH;simp only[h1,o8];refine Prod.ext ?_ ?_;cases l with
 |none=>rfl
 |some v=>exact Cp v n 0
 cases hi with
 |none=>rfl
 |some v=>exact Cp v n n
theorem yy(i j:Nat):QY (i:Int) (j:Int) 1=j-i:=by
 unfold QY;have h1:(1:Int) > 0:=by lia
 simp only[h1,p5,Int.ediv_one];split<;>lia
theorem pI(p:k8 v o)(h:Q o s):ge (i3 g w) A (Builtin.Slice.slicePartIndex v) Q E s:=by
 cases p with
 |none=>exact slicePart_none h
 |int i t=>exact slicePart_int h
theorem fX{m:d5}{v u:c6}{l hi:Option Int}{n:Nat}{Q:Int×Int×Nat->f7->Prop}(e:s.heap.IsSliceOf m v u .none)(p:k8 v l)(d:k8 u hi)(h:Q (((sIx n 0 l:Nat):Int),1,sIx n n hi-sIx n 0 l) s):ge (i3 g w) A (RU (.ref m)<|pure (n:Int)) Q E s:=by obtain⟨o,b,c,a⟩:=id e;unfold RU Builtin.Slice.sliceFields;refine p8<|p8<|wpAny_field b a (x:=v) rfl<|p8<|wpAny_field b a (x:=u) rfl<|p8<|wpAny_field b a (x:=.none) rfl<|t4 ?_;refine p8<|slicePart_none ?_;show ge _ _ (if ((1:Int)==0)=a9 then _ else _) _ _ s;rw[o0<|by decide];refine p8<|pI p<|p8<|pI d<|p8<|t4 ?_;show ge _ _ (match RH l hi 1 (n:Int)with|(l,hi)=>pure (l,(1:Int),QY l hi 1)) _ _ s;rw[zo l hi n];show ge _ _ (pure (((sIx n 0 l:Nat):Int),(1:Int),QY ((sIx n 0 l:Nat):Int) ((sIx n n hi:Nat):Int) 1)) _ _ s;rw[yy];exact t4 h
theorem Do(s:Array c6)(i k:Nat):((A9 k).filterMap λ(m:Nat)=>s[((i:Int)+(m:Int)*1).toNat]?).toArray=((s.toList.drop i).take k).toArray:=by
 have e:(λ(m:Nat)=>s[((i:Int)+(m:Int)*1).toNat]?)=λm=>s[i+m]?:=by
  funext m;have:((i:Int)+(m:Int)*1).toNat=i+m:=by lia
  rw[this]
 rw[e];have:=pick_run s i k;rw[List.filterMap_map]at this;have l:((λx=>s[x]?) ∘ λx=>i+x)=λm=>s[i+m]?:=rfl;rw[l]at this;rw[this]
theorem getItem_tuple_cut{t d:d5}{items:Array c6}{v u:c6}{l hi:Option Int}{Q:c6->f7->Prop}(D:IsTup s.heap t items)(x:s.heap.IsSliceOf d v u .none)(p:k8 v l)(j:k8 u hi)(g:¬(sIx items.size 0 l=0/\sIx items.size items.size hi=items.size))(h:Q (.ref s.heap.objs.size) { s with heap:=s.heap.push { cls:=.type "tuple",data:=.seq ((items.toList.drop<|sIx items.size 0 l).take<|sIx items.size items.size hi-sIx items.size 0 l).toArray } })(z:items.size<=sizeLine):ge (i3 y w) A (k9 (.ref t)<|.ref d) Q E s:=by
 have e:sizeOk (.seq ((items.toList.drop<|sIx items.size 0 l).take<|sIx items.size items.size hi-sIx items.size 0 l).toArray):=by show ((items.toList.drop<|sIx items.size 0 l).take<|sIx items.size items.size hi-sIx items.size 0 l).toArray.size<=sizeLine;rw[z7,F5,MI,E2];lia
 have L:sIx items.size items.size hi<=items.size:=JC _ _ (u7 _) hi;obtain⟨i,b,c,f⟩:=id x;have a:s.TypeIs (.ref d) "slice":=⟨i,b,c⟩
 unfold k9
 try with_reducible refine D7 ?_
 first|refine p8 (t4 ?_)|skip
 refine p8<|wpAny_sequenceKey D.typeIs (by decide) ?_;refine p8<|Nh (name:=AA0 "__getitem__") D.typeIs O5<|K1 O5 D.typeIs entry_tuple_getitem ?_<|args_tuple_getitem _ _;show ge _ _ (QZ (.ref t) >>= _) _ _ s;refine p8<|tupleItemsOf_ D ?_;refine p8<|MS a ?_;rw[n9<|by decide];refine p8<|fX x p j ?_;have o:¬((((sIx items.size 0 l:Nat):Int)==0&&(1:Int)==1&&(sIx items.size items.size hi-sIx items.size 0 l)==items.size)=a9):=by intro q;rw[C9,C9]at q;have k:((sIx items.size 0 l:Nat):Int)=0:=eq_of_beq q.1.1;have n:sIx items.size items.size hi-sIx items.size 0 l=items.size:=eq_of_beq q.2;exact g ⟨by lia,by lia⟩
 show ge _ _ (if (((sIx items.size 0 l:Nat):Int)==0&&(1:Int)==1&&(sIx items.size items.size hi-sIx items.size 0 l)==items.size)=a9 then _ else _) _ _ s;rw[o0 o,Do]
 first
  |exact p8 (m:=QV _) (J5 (t4 ⟨_,rfl,t4 h⟩) e)
  |exact p8 (m:=QV _) (J5 (p8 (t4 (t4 ⟨_,rfl,t4 h⟩))) e)
  |exact p8 (p8 (m:=QV _) (J5 (t4 (t4 ⟨_,rfl,t4 h⟩)) e))
  |exact p8 (p8 (m:=QV _) (J5 (t4 ⟨_,rfl,t4 h⟩) e))
end HT
namespace L2
open PySem PySem.Spec PyProof.Rows
abbrev TO:=St->Hp->(Option Int->Hp->Prop)->Prop
def PO(X:Cx)(e:Option h8)(t:TO):Prop:=∀(p:List (d5×d6)) (s:f7) (σ:St) (H:Hp) (Q:Option Int->Hp->Prop),r9 X p σ H s->t σ H Q ->ge (i3 X.prog X.w) X.A (evalPart e X.env) (λu s'=>∃o H',r9 X p σ H' s'/\k8 u o/\Q o H') X.xe s
def Gd:TO:=λ_ H Q=>Q a8 H
def tPart(t:TE):TO:=λσ H Q=>t σ H λx a=>∃i,x=.int i/\Q (a7 i) a
section
variable{X:Cx}{e:h8}{te:TE}{lo hi:Option h8}{tl th:TO}{pos p2:Pos}
theorem GD:PO X a8 Gd:=by intro p s σ H Q I h;rw[evalPart_none];exact t4 ⟨a8,H,I,.none,h⟩
theorem GC(h:PE X e te):PO X (a7 e) (tPart te):=by intro p s σ H Q I w;rw[evalPart_some];refine v4 (h p s σ H _ I w) ?_;rintro u f ⟨x,a,b,r,c⟩;obtain⟨i,rfl,q⟩:=c;obtain⟨t,rfl⟩:=r;exact⟨a7 i,a,b,.int i t,q⟩
def Ph(X:Cx)(r:V->Option Int->Option Int->Hp->VK->Prop):Prop:=∀(p:List (d5×d6)) (s:f7) (σ:St) (H:Hp) (x:V) (v a u:c6) (l hi:Option Int) (m:d5) (Q:VK),r9 X p σ H s->aZ x v->s.heap.IsSliceOf m a u .none->k8 a l->k8 u hi->r x l hi H Q ->∃T id,typeLookup (.type T) "__getitem__" = pure (a7<|.builtin id)/\s.TypeIs v T/\ge (i3 X.prog X.w) X.A (k9 v<|.ref m) (EP X p σ Q) X.xe s
def tSl(r:V->Option Int->Option Int->Hp->VK->Prop)(te:TE)(t h:TO):TE:=λσ H Q=>te σ H λx a=>t σ a λl b=>h σ b λu c=>r x l u c Q
theorem Dr(y:Ph X r)(o:PE X e te)(t:PO X lo tl)(B:PO X hi th):PE X (.Subscript e (.Slice lo hi a8 p2) pos) (tSl r te tl th):=by intro p s σ H Q I h;refine Subscript_<|v4 (o p s σ H _ I h) ?_;rintro v L ⟨x,f,i,K,F⟩;refine wpAny_Slice<|v4 (t p L σ f _ i F) ?_;rintro a M ⟨l,g,j,C,G⟩;refine v4 (B p M σ g _ j G) ?_;rintro c z ⟨u,d,k,E,J⟩;rw[evalPart_none];refine t4 ?_;have m:r9 X p σ d { z with heap:=z.heap.push { cls:=.type "slice",data:=.fields #[a,c,.none] } }:=k.kept (t':=z.toks) λb N q=>v5 _ q;obtain⟨T,id,n,D,S⟩:=y p { z with heap:=z.heap.push { cls:=.type "slice",data:=.fields #[a,c,.none] } } σ d x v a c l u z.heap.objs.size Q m K (Heap.IsSliceOf.new ..) C E J;show ge (i3 X.prog X.w) X.A (subscriptTail e (.Slice lo hi a8 p2) v<|.ref z.heap.objs.size) (EP X p σ Q) X.xe { z with heap:=z.heap.push { cls:=.type "slice",data:=.fields #[a,c,.none] } };exact tail_any (ops:=[.ref z.heap.objs.size,v]) D n S<|by with_unfolding_all rfl
noncomputable def FQ(x:List V)(l hi:Option Int):List V:=(x.drop<|HT.sIx x.length 0 l).take<|HT.sIx x.length x.length hi-HT.sIx x.length 0 l
theorem nS(x:List V)(l hi:Option Int):(FQ x l hi).length<=x.length:=by unfold FQ;rw[F5,MI];lia
def rSlT(K:u4):V->Option Int->Option Int->Hp->VK->Prop:=λx l hi H Q=>∃a s,x=.ref a/\A2 K H a s /\¬(HT.sIx s.length 0 l=0/\HT.sIx s.length s.length hi=s.length)/\∀p,H p=a8->Q (.ref p) (v7 H p<|.tup<|FQ s l hi)
theorem Jz:Ph X (rSlT X.K):=by
 intro p s σ H x v f i l hi m Q I g t d u h;obtain⟨a,j,rfl,c,w,q⟩:=h;cases g;obtain⟨k,r,D,z⟩:=I.tuple c;have n:k.toArray.size=j.length:=by rw[z7];exact r.length.symm
 refine⟨"tuple",_,O5.lookup,D.typeIs,?_⟩;refine HT.getItem_tuple_cut D t d u (by rw[n];exact w) ?_ (by rw[n];exact z);rw[n];refine⟨.ref s.heap.objs.size,_,I.laid (t':=s.toks) (o:=.tup<|FQ j l hi) (λb e q=>v5 _ q) (u7 _) ?_,rfl,q _<|I.hok.fresh<|u7 _⟩;exact⟨D4 (nS j l hi) z,_,(r.drop<|HT.sIx j.length 0 l).take<|HT.sIx j.length j.length hi-HT.sIx j.length 0 l,Fj.new _ _⟩
def rCatT(K:u4):R2:=λx y H Q=>∃a b xs s,x=.ref a/\y=.ref b/\A2 K H a xs/\A2 K H b s/\xs≠[]/\xs.length+s.length<=sizeLine /\(s=[]->Q (.ref a) H)/\(s≠[]->∀p,H p=a8->Q (.ref p) (v7 H p<|.tup<|xs++s))
theorem aB.nil_iff(r:aB x u):u=[]↔x=[]:=by
 cases r with
 |nil=>simp
 |cons _ _=>simp
theorem GP:C7 X (j6 .Add) (rCatT X.K):=by intro p s σ H x y v u Q I n t h;obtain⟨a,b,xs,ys,rfl,rfl,f,d,e,c,k,l⟩:=h;cases n;cases t;obtain⟨its,r,g,_⟩:=I.tuple f;obtain⟨i,m,j,_⟩:=I.tuple d;refine HT.cat_tup g j (λz=>e<|r.nil_iff.mp z) (λz=>⟨.ref a,H,I,rfl,k<|m.nil_iff.mp z⟩) (λz=>?_) (by rw[<-r.length,<-m.length];exact c);refine⟨.ref s.heap.objs.size,_,I.laid (t':=s.toks) (o:=.tup<|xs++ys) (λb A q=>v5 _ q) (u7 _) ?_,rfl,l (λw=>z<|m.nil_iff.mpr w) _<|I.hok.fresh<|u7 _⟩;exact⟨by rw[A3];exact c,_,r.append m,Fj.new _ _⟩
end
noncomputable def MK(n:Nat)(i:Int):Option Nat:=if 0<=i then(if i<n then a7 i.toNat else a8)else if -(n:Int)<=i then a7 (i+n).toNat else a8
noncomputable def atI{α:Type}(x:List α)(i:Int):Option α:=(MK x.length i).bind λj=>x[j]?
theorem BK(h:MK n i=a7 j):seqIndex? i n=a7 j/\j<n/\-(n:Int)<=i/\i<n:=by unfold MK at h;by_cases a:0<=i;rw[n9 a]at h;by_cases h1:i<n;rw[n9 h1]at h;have e:i.toNat=j:=A8 h;exact⟨by rw[seqIndex_of a h1,e],by lia,by lia,h1⟩;rw[o0 h1]at h;cases h;rw[o0 a]at h;by_cases h1:-(n:Int)<=i;rw[n9 h1]at h;have e:(i+n).toNat=j:=A8 h;exact⟨by rw[seqIndex_neg (by lia) h1,e],by lia,h1,by lia⟩;rw[o0 h1]at h;cases h
theorem wv{α:Type}{x:List α}{i:Int}{v:α}(h:atI x i=a7 v):∃j,seqIndex? i x.length=a7 j/\x[j]?=a7 v/\j<x.length/\-(x.length:Int)<=i/\i<x.length:=by
 unfold atI at h;cases e:MK x.length i with
 |none=>rw[e]at h;cases h
 |some j=>rw[e]at h;obtain⟨h1,h2,a,f⟩:=BK e;exact⟨j,h1,h,h2,a,f⟩
theorem aF{α:Type}{xs:List α}{j:Nat}{v:α}(h:xs[j]?=a7 v):atI xs (j:Int)=a7 v:=by
 have L:j<xs.length:=(x9.mp h).1;have e:MK xs.length (j:Int)=a7 j:=by unfold MK;rw[n9 (by lia),n9<|by lia];simp
 unfold atI;rw[e];exact h
theorem Fg{α:Type}(x:List α)(v:α):atI (x++[v]) (-1)=a7 v:=by
 have g:(x++[v]).length=x.length+1:=by simp
 have e:MK (x++[v]).length (-1)=a7 x.length:=by unfold MK;rw[g,o0 (by decide),n9<|by lia];congr 1;lia
 unfold atI;rw[e];show (x++[v])[x.length]?=a7 v;simp
def wy(b:h8):Prop:=∀o i,subscripted b c5 o i=operate [o,i] (k9 o i)
def Ms(X:Cx)(r:R2):Prop:=∀(a e:h8) (p:List (d5×d6)) (s:f7) (σ:St) (H:Hp) (x y:V) (v u:c6) (Q:VK),r9 X p σ H s->aZ x v->aZ y u->r x y H Q ->subscripted e c5 v u=operate [v,u] (k9 v u)->ge (i3 X.prog X.w) X.A (subscriptTail a e v u) (EP X p σ Q) X.xe s
def Mm(X:Cx)(id:String)(r:V->List V->Hp->VK->Prop):Prop:=∀(p:List (d5×d6)) (s:f7) (σ:St) (H:Hp) (x:V) (a:List V) (v:c6) (u:List c6) (Q:VK),r9 X p σ H s->aZ x v->aB a u->r x a H Q ->ge (i3 X.prog X.w) X.A (call (.builtin id)<|v::u) (EP X p σ Q) X.xe s
section
variable{X:Cx}{a b:h8}{ta tb:TE}{pos:Pos}
theorem Ms.or(h:Ms X r)(h':Ms X r'):Ms X (λx y H Q=>r x y H Q\/r' x y H Q):=by intro a e p s σ H x y v u Q I g i q c;rcases q with q|q;exact h a e p s σ H x y v u Q I g i q c;exact h' a e p s σ H x y v u Q I g i q c
theorem pe_ix(i:Ms X r)(f:PE X a ta)(d:PE X b tb)(hs:wy b):PE X (.Subscript a b pos) (O6 r ta tb):=by intro p s σ H Q I h;exact Subscript_<|binT f d I h λv u w x y c e g j q=>i a b p w σ c x y v u Q e g j q<|hs _ _
def rIxL(K:u4):R2:=λx y H Q=>∃p s i v,x=.ref p/\y=.int i/\K4 K H p s/\atI s i=a7 v/\Q v H
def rIxT(K:u4):R2:=λx y H Q=>∃p s i v,x=.ref p/\y=.int i/\A2 K H p s/\atI s i=a7 v/\Q v H
def rIxS:R2:=λx y H Q=>∃z i c,x=.str z/\y=.int i/\z.length<=sizeLine/\atI z.cps.toList i=a7 c/\Q (.str ⟨#[c]⟩) H
theorem HR:Ms X (rIxL X.K):=by
 intro c e a s σ H x y v u Q I B C h hs;obtain⟨p,xs,i,z,rfl,rfl,A,m,q⟩:=h;cases B;obtain⟨t,rfl⟩:=C;obtain⟨its,r,l,F⟩:=I.list A;obtain⟨j,h1,h2,D,g,k⟩:=wv m;obtain⟨w,d,b⟩:=r.get h2;have o:=r.length;have E:=pN;have n:EP X a σ Q w s:=⟨z,H,I,b,q⟩
 by_cases f:0<=i;have L:i.toNat=j:=by rw[seqIndex_of f k]at h1;exact A8 h1
 exact item_listR l.isList f (by lia) (by rw[L];simpa using d) n hs;have L:(i+(its.toArray.size:Int)).toNat=j:=by rw[seqIndex_neg (by lia) g]at h1;rw[z7,<-o];exact A8 h1
 exact subscriptTail_builtinR (x:=w) l.isList.typeIs slot_list_getitem.lookup (wpAny_getItem_list_neg (Q:=λr s'=>r=w/\EP X a σ Q r s') l.isList (by lia) (by rw[z7]<;>lia) (by lia) (by rw[L];simpa using d) ⟨rfl,n⟩) hs
theorem KY:Ms X (rIxT X.K):=by
 intro c e a s σ H x y v u Q I m o h hs;obtain⟨p,xs,i,z,rfl,rfl,k,f,q⟩:=h;cases m;obtain⟨t,rfl⟩:=o;obtain⟨its,r,l,E⟩:=I.tuple k;obtain⟨j,h1,h2,A,B,C⟩:=wv f;obtain⟨w,d,b⟩:=r.get h2;have g:=r.length;have D:=pN;have n:EP X a σ Q w s:=⟨z,H,I,b,q⟩
 exact subscriptTail_builtinR (x:=w) l.typeIs slot_tuple_getitem.lookup (getItem_tuple (j:=j) (Q:=λr s'=>r=w/\EP X a σ Q r s') l (by lia) (by lia) (by rw[z7,<-g];exact h1) (by simpa using d) ⟨rfl,n⟩) hs
theorem KZ:Ms X rIxS:=by
 intro a e p s σ H x y v u Q I r m h hs;obtain⟨z,i,c,rfl,rfl,w,d,q⟩:=h;obtain⟨t,rfl⟩:=r;obtain⟨t',rfl⟩:=m;obtain⟨j,h1,h2,n,f,k⟩:=wv d;have g:z.cps.toList.length=z.length:=by simp[Str.length]
 rw[g]at h1 f k;have o:=pN;exact tail_any (l3 s z t) slot_str_getitem.lookup (getItem_str (c:=c) (by have b:decide (i < -(2 ^ 63:Int))=c5:=dF_ (by lia);have l:decide (i ≥ 2 ^ 63)=c5:=dF_ (by lia);rw[b,l,Bool.or_false]) (by rw[h1];simpa using h2) ⟨.str ⟨#[c]⟩,H,I.tok _,⟨_,rfl⟩,q⟩) hs
def rIx(K:u4):R2:=λx y H Q=>rIxL K x y H Q\/rIxT K x y H Q\/rIxS x y H Q
theorem La:Ms X (rIx X.K):=HR.or<|KY.or KZ
theorem yH(i:List c6)(n j:Nat)(u:c6):F8 (·.setIfInBounds j u) { cls:=.type "list",data:=.seq i.toArray n }={ cls:=.type "list",data:=.seq (i.set j u).toArray n }:=by simp[F8]
theorem r9.lst(I:r9 X c σ H s)(h:H p=a7 (.lst x)):∃(i:List c6) (n:Nat),aB x i/\s.heap.get? p=a7 { cls:=.type "list",data:=.seq i.toArray n }/\x.length<=sizeLine:=by obtain⟨z,i,n,r,e⟩:=I.hok p _ h;exact⟨i,n,r,e,z⟩
theorem r9.lstUpd{g:List (d5×d6)}{σ:St}{H:Hp}{s:f7}{p:d5}{j y:List V}{i its':List c6}{n a:Nat}{f:d6->d6}(I:r9 X g σ H s)(h:H p=a7 (.lst j))(B:s.heap.get? p=a7 { cls:=.type "list",data:=.seq i.toArray n }) (c:f { cls:=.type "list",data:=.seq i.toArray n }={ cls:=.type "list",data:=.seq its'.toArray a }) (r:aB y its') (hz:y.length<=sizeLine) (t:Nat):r9 X g σ (v7 H p<|.lst y) { s with heap:=s.heap.update p f,toks:=t }:=by
 have e:(s.heap.update p f).get? p=a7 { cls:=.type "list",data:=.seq its'.toArray a }:=by rw[L1 f B (by rw[c]<;>rfl),c]
 refine I.write (x:=p) (e:=p) (by rw[h];trivial) (.inl rfl) (λb u d q=>(Nx _ _<|B8 d).trans q) ⟨_,e⟩ ?_;exact⟨hz,its',a,r,e⟩
def rSetL:V->V->V->Hp->(Hp->Prop)->Prop:=λo i v H Q=>∃p xs k j,o=.ref p/\i=.int k/\H p=a7 (.lst xs)/\MK xs.length k=a7 j/\Q (v7 H p<|.lst<|xs.set j v)
theorem Df:PSet X rSetL:=by
 intro a s σ H o i v C A u Q I w m x h;obtain⟨p,xs,k,j,rfl,rfl,l,L,q⟩:=h;cases w;obtain⟨t,rfl⟩:=m;obtain⟨its,n,r,B,z⟩:=I.lst l;obtain⟨h1,h2,e,f⟩:=BK L;have g:=r.length;have y:=pN;have c:r9 X a σ (v7 H p<|.lst<|xs.set j v) { s with heap:=s.heap.update p (F8 (·.setIfInBounds j u)) }:=I.lstUpd l B (yH its n j u) (r.set x j) (by rw[J7];exact z) s.toks;by_cases d:0<=k;have b:k.toNat=j:=by rw[seqIndex_of d f]at h1;exact A8 h1
 exact PySem.W.ki_setAt B d (by lia) (by rw[z7,<-g];exact f) (by rw[b];exact⟨_,c,q⟩);have b:(k+(its.toArray.size:Int)).toNat=j:=by rw[seqIndex_neg (by lia) e]at h1;rw[z7,<-g];exact A8 h1
 exact PySem.W.ki_setBack B (by lia) (by rw[z7,<-g];exact e) (by lia)<|by rw[b];exact⟨_,c,q⟩
theorem sT(l hi:Option Int)(n:Nat):(l5 l hi a8 n).1=((HT.sIx n 0 l:Nat):Int)/\(l5 l hi a8 n).2.1=((HT.sIx n n hi:Nat):Int)/\(l5 l hi a8 n).2.2=1:=by
 refine⟨?_,?_,rfl⟩;cases l with
 |none=>simp[l5,HT.sIx]
 |some i=>simp only[l5,HT.sIx,Option.getD_none,show (1:Int) > 0 by decide,p5];by_cases h:i<0;simp only[h,p5]<;>lia;simp only[h,o8]<;>lia
 cases hi with
 |none=>simp[l5,HT.sIx]
 |some i=>simp only[l5,HT.sIx,Option.getD_none,show (1:Int) > 0 by decide,p5];by_cases h:i<0;simp only[h,p5]<;>lia;simp only[h,o8]<;>lia
theorem qg(i:List c6)(l hi:Option Int):slicePick i.toArray l hi a8=((i.drop<|HT.sIx i.length 0 l).take<|HT.sIx i.length i.length hi-HT.sIx i.length 0 l).toArray:=by obtain⟨h1,h2,a⟩:=sT l hi i.toArray.size;unfold slicePick;rw[h1,h2,a];simp only[sliceRange_one,pick_run,z7]<;>rfl
def rSlL(K:u4):V->Option Int->Option Int->Hp->VK->Prop:=λx l hi H Q=>∃a s,x=.ref a/\K4 K H a s/\∀p,H p=a8->Q (.ref p) (v7 H p<|.lst<|FQ s l hi)
theorem Gg:Ph X (rSlL X.K):=by intro p s σ H x v f i l hi m Q I g k d u h;obtain⟨a,j,rfl,c,q⟩:=h;cases g;obtain⟨t,r,D,z⟩:=I.list c;have n:=r.length;refine⟨"list",_,slot_list_getitem.lookup,D.isList.typeIs,?_⟩;refine wpAny_getItem_list_slice D.isList k d u .none (by simp) ?_ (by rw[z7]<;>lia);rw[qg,<-n];refine⟨.ref s.heap.objs.size,_,I.laid (t':=s.toks) (o:=.lst<|FQ j l hi) (λb e q=>v5 _ q) (u7 _) ?_,rfl,q _<|I.hok.fresh<|u7 _⟩;exact⟨D4 (nS j l hi) z,_,0,(r.drop<|HT.sIx j.length 0 l).take<|HT.sIx j.length j.length hi-HT.sIx j.length 0 l,A1 _ rfl⟩
theorem uD:jw X (.builtin "len") (λx H Q=>∃p y,x=[.ref p]/\(K4 X.K H p y\/A2 X.K H p y)/\Q (.int y.length) H):=by intro b s σ H x c Q I r h;obtain⟨p,y,rfl,a,q⟩:=h;obtain⟨u,rfl,g⟩:=Gc r;cases g;have f:=pN;rcases a with a|a;obtain⟨i,r',l,z⟩:=I.list a;have n:=r'.length;exact Calls.call_len_list l.isList (by simp only[z7]<;>lia) ⟨.int y.length,H,I.tok _,⟨s.toks+1,by rw[z7,n]⟩,q⟩;obtain⟨i,r',l,z⟩:=I.tuple a;have n:=r'.length;exact len_tuple l (by simp only[z7]<;>lia) ⟨.int y.length,H,I.tok _,⟨s.toks+1,by rw[z7,n]⟩,q⟩
theorem uC:jw X (.builtin "len") (λx H Q=>∃z,x=[.str z]/\z.length<=sizeLine/\Q (.int z.length) H):=by intro p s σ H x c Q I r h;obtain⟨z,rfl,b,q⟩:=h;obtain⟨u,rfl,t,rfl⟩:=Gc r;have f:=pN;exact len_str (by lia) ⟨.int z.length,H,I.tok _,⟨_,rfl⟩,q⟩
theorem jw.or(h:jw X f r)(h':jw X f r'):jw X f (λx H Q=>r x H Q\/r' x H Q):=by intro p s σ H x u Q I a q;rcases q with q|q;exact h p s σ H x u Q I a q;exact h' p s σ H x u Q I a q
theorem rA:jw X (.type "tuple") (λj H Q=>∃p y,j=[.ref p]/\((K4 X.K H p y/\∀l,H l=a8->Q (.ref l) (v7 H l<|.tup y))\/(A2 X.K H p y/\Q (.ref p) H))):=by
 intro a s σ H j m Q I r h;obtain⟨p,y,rfl,h⟩:=h;obtain⟨u,rfl,x⟩:=Gc r;cases x;rcases h with⟨c,q⟩|⟨c,q⟩
 obtain⟨i,r',d,z⟩:=I.list c;have n:=r'.length;refine call_tuple_list d.isList (λh' k=>?_) (by simp only[z7]<;>lia);have f:r9 X a σ H { s with heap:=h' }:=I.kept (t':=s.toks) k;have g:r9 X a σ (v7 H h'.objs.size<|.tup y) { s with heap:=h'.push { cls:=.type "tuple",data:=.seq i.toArray } }:=f.laid (t':=s.toks) (λb o e=>v5 _ e) (u7 _)<|show cM X.prog X.w _ _ _ (.tup y)from⟨z,i,r',Fj.new _ _⟩;exact⟨.ref h'.objs.size,_,g,rfl,q _<|f.hok.fresh<|u7 _⟩;obtain⟨i,r',d,z⟩:=I.tuple c;exact call_tuple_same d ⟨.ref p,H,I,rfl,q⟩
def RN(K:u4)(T:String)(x:V)(H:Hp):Prop:=match x with
 |.str _=>T = "str"
 |.int _=>T = "int"
 |.ref p=>(T = "list"/\∃c,K4 K H p c)\/(T = "tuple"/\∃o,K.lookup p=a7 o/\o.cls=.type "tuple"/\o.dict=a8) \/(T = "dict"/\((∃s,H p=a7 (.dK s))\/∃s,H p=a7 (.dT s)))\/(T = "set"/\∃S n,H p=a7 (.set S n))
 |_=>False
theorem Jm(I:r9 X j σ H s)(r:aZ x v)(y:RN X.K T x H):s.TypeIs v T/\∀a,v=.ref a->∃ob,s.heap.get? a=a7 ob/\ob.dict=a8:=by
 cases x with
 |str z=>obtain⟨t,rfl⟩:=r;cases (show T = "str" from y);exact⟨l3 s z t,λ_ e=>nomatch e⟩
 |int i=>obtain⟨t,rfl⟩:=r;cases (show T = "int" from y);exact⟨typeIs_int s i t,λ_ e=>nomatch e⟩
 |ref p =>
  cases r;rcases y with⟨rfl,u,q⟩|⟨rfl,o,k,h,d⟩|⟨rfl,k⟩|⟨rfl,S,n,k⟩
  obtain⟨m,_,g,_⟩:=I.list q;refine⟨g.isList.typeIs,λa e=>?_⟩;cases e;obtain⟨o,n,e,c,d,_⟩:=g;exact⟨o,e,d⟩;refine⟨⟨o,I.kIn p o k,h⟩,λa e=>?_⟩;cases e;exact⟨o,I.kIn _ o k,d⟩;have z:∃o,s.heap.get? p=a7 o/\o.ExactDict:=by
   rcases k with⟨f,k⟩|⟨f,k⟩
   obtain⟨_,_,_,_,o,_,_,e,b,_⟩:=I.hok p _ k;exact⟨o,e,b⟩;obtain⟨_,_,_,_,o,_,_,e,b,_⟩:=I.hok p _ k;exact⟨o,e,b⟩
  obtain⟨o,e,b⟩:=z;refine⟨⟨o,e,b.1⟩,λa l=>?_⟩;cases l;exact⟨o,e,b.2.1⟩;obtain⟨o,_,_,_,e,b,_⟩:=I.hok p _ k;refine⟨⟨o,e,b.1⟩,λa l=>?_⟩;cases l;exact⟨o,e,b.2.1⟩
 |_=>exact Na y
def tBM(K:u4)(T:String)(r:V->List V->Hp->VK->Prop)(e:TE)(t:TA):TE:=λσ H Q=>e σ H λx a=>RN K T x a/\t σ a λs b=>r x s b Q
variable{o e:h8}{es:List h8}{to:TE}{t:TA}{name:c7}{apos cpos:Pos}{T id:String}{r:V->List V->Hp->VK->Prop}
theorem Ka(q:PlainAttrs T)(slot:Slot T name id)(y:typeOf (.builtin id)=pure (.type "method_descriptor"))(l:Mm X id r)(B:PE X o to)(k:PA X (e::es) t)(b:l6 o name X.env (eval o X.env)=eval o X.env:=by rfl)(w:((i4 cpos<|i5 (e::es) X.env).all (λx=>!x.1)&&(l7 cpos<|l8 [] X.env).all (λx=>x.1.isSome) && decide ((e::es).length+([]:List l9).length+(if ([]:List l9).isEmpty then 0 else 1)<30))=a9:=by rfl)(c:(apos.endLine==cpos.line)=a9:=by rfl) (hs:i5 (e::es) X.env=(c5,eval e X.env)::i5 es X.env:=by rfl) (n:(i4 cpos<|i5 es X.env).any (·.1)=c5:=by rfl):PE X (.Call (.Attribute o name apos) (e::es) [] cpos) (tBM X.K T r to t):=by intro p s σ H Q I h;refine Rs b w c rfl<|v4 (B p s σ H _ I h) ?_;rintro v D ⟨x,g,d,f,F,u⟩;obtain⟨h1,h2⟩:=Jm d f F;refine⟨T,id,q,slot,y,h1,h2,?_⟩;have A:=k cpos p D σ g _ d u;rw[hs]at A ⊢;refine P5 (by show (c5||(i4 cpos<|i5 es X.env).any (·.1))=c5;rw[n]<;>rfl)<|Rm ?_;refine v4 A ?_;rintro us E ⟨vs,i,j,C,z⟩;exact l p E σ i x vs v us Q j f C z
/- xs.append(e),list.index on a module's tuple .. are Mm facts of 06m -/
end
def RQ(X:Cx)(id:String)(r:V->List V->Hp->VK->Prop):Prop:=∀(p:List (d5×d6)) (s:f7) (σ:St) (H:Hp) (x:V) (a:List V) (v:c6) (u:List c6) (Q:VK),r9 X p σ H s->aZ x v->aB a u->r x a H Q ->ge (i3 X.prog X.w) X.A (call (.builtin id)<|v::u) (EP X p σ Q) X.xe s
theorem aB.one(h:aB [x] s):∃u,s=[u]/\aZ x u:=by
 cases h with
 |cons r t=>cases t;exact⟨_,rfl,r⟩
theorem aB.two(h:aB [x,y] s):∃u v,s=[u,v]/\aZ x u/\aZ y v:=by
 cases h with
 |cons r t=>obtain⟨v,e,q⟩:=aB.one t;subst e;exact⟨_,v,rfl,r,q⟩
theorem r9.lset{i its':List c6}{n:Nat}{f:Array c6->Array c6}{t':Nat}(I:r9 X p σ H s)(h:H l=a7 (.lst j))(e:s.heap.get? l=a7 { cls:=.type "list",data:=.seq i.toArray n }) (a:f i.toArray=its'.toArray) (c:aB y its') (hz:y.length<=sizeLine):r9 X p σ (v7 H l<|.lst y) { s with heap:=s.heap.update l<|F8 f,toks:=t' }:=by have q:=PySem.IsL.update e f;rw[a]at q;refine I.write (x:=l) (e:=l) (by rw[h];exact trivial) (.inl rfl) (λb u d g=>(Nx s.heap (F8 f)<|B8 d).trans g) ⟨_,q⟩ ?_;exact⟨hz,its',_,c,q⟩
theorem r9.lnew(I:r9 X p σ H s)(c:aB y i)(hz:y.length<=sizeLine):r9 X p σ (v7 H s.heap.objs.size<|.lst y) { s with heap:=s.heap.push { cls:=.type "list",data:=.seq i.toArray },toks:=t' }:=I.laid (λ_ _ q=>v5 _ q) (u7 _) ⟨hz,i,0,c,A1 _ rfl⟩
theorem r9.fresh(I:r9 X p σ H s):H s.heap.objs.size=a8:=I.hok.fresh<|u7 _
theorem r9.lstM(I:r9 X p σ H s)(h:H l=a7 (.lst x)):x.length<=sizeLine/\∃(i:List c6) (n:Nat),aB x i/\x.length=i.length/\s.heap.get? l=a7 { cls:=.type "list",data:=.seq i.toArray n }:=by obtain⟨z,i,n,r,e⟩:=I.hok l _ h;exact⟨z,i,n,r,r.length,e⟩
theorem DN(h:n<=sizeLine):RD n=c5:=by unfold RD;exact dF_<|by lia
def Gr:V->List V->Hp->VK->Prop:=λx v H Q=>∃l xs y,x=.ref l/\v=[y]/\H l=a7 (.lst xs)/\xs.length<sizeLine/\Q .non (v7 H l<|.lst<|xs++[y])
theorem Bh:RQ X "list.append" Gr:=by intro p s σ H x j v k Q I g d h;obtain⟨l,f,y,rfl,rfl,a,c,q⟩:=h;cases g;obtain⟨u,rfl,R⟩:=d.one;obtain⟨z,i,n,r,b,e⟩:=I.lstM a;refine call_meets F.slot_list_append ⟨_,e,rfl⟩ F.entry_list_append (F.args_list_append_2 _ _) (PySem.list_append l i.toArray n u<|by rw[z7];lia) ⟨e,?_⟩;refine⟨.non,_,I.lset (its':=i++[u]) a e (by simp) (r.append<|.cons R .nil) ?_,rfl,q⟩;rw[A3,K2];lia
def Gq:V->List V->Hp->VK->Prop:=λx v H Q=>∃l b xs s,x=.ref l/\v=[.ref b]/\H l=a7 (.lst xs)/\H b=a7 (.lst s)/\xs.length+s.length<=sizeLine/\Q .non (v7 H l<|.lst<|xs++s)
theorem Bg:RQ X "list.extend" Gq:=by
 intro p s σ H x vs v us Q I k j h;obtain⟨l,b,xs,A,rfl,rfl,c,B,w,q⟩:=h;cases k;obtain⟨u,rfl,R⟩:=j.one;cases R;obtain⟨z,its,n,r,t,e⟩:=I.lstM c;obtain⟨y,i,o,m,f,d⟩:=I.lstM B;have a:its.toArray.size+i.toArray.size<=sizeLine:=by rw[z7,z7];lia
 have g:¬(!its.toArray.isEmpty&&RD (its.toArray.size+i.toArray.size))=a9:=by rw[DN a,Qi];exact Nt
 refine call_meets F.slot_list_extend ⟨_,e,rfl⟩ F.entry_list_extend (F.args_list_extend_2 _ _) (AutoSeq1.list_extend_list_list_0 l its.toArray n b i.toArray o g (by rw[z7];lia)<|by lia) ⟨e,d,?_⟩;refine⟨.non,_,I.lset (its':=its++i) c e (by simp) (r.append m) ?_,rfl,q⟩;rw[A3];lia
def rCat:R2:=λx y H Q=>∃l b xs s,x=.ref l/\y=.ref b/\H l=a7 (.lst xs)/\H b=a7 (.lst s)/\xs.length+s.length<=sizeLine/\∀p,H p=a8->Q (.ref p) (v7 H p<|.lst<|xs++s)
theorem Ki:C7 X (j6 .Add) rCat:=by
 intro p s σ H x y v u Q I g j h;obtain⟨l,b,xs,A,rfl,rfl,d,B,o,q⟩:=h;cases g;cases j;obtain⟨z,its,n,r,k,e⟩:=I.lstM d;obtain⟨w,i,t,m,f,a⟩:=I.lstM B;refine PySem.P.add_list e a ?_ (by rw[z7,z7];lia);have c:its.toArray++i.toArray=(its++i).toArray:=by simp
 rw[c];exact⟨.ref _,_,I.lnew (t':=s.toks) (r.append m) (by rw[A3];lia),rfl,q _ I.fresh⟩
end L2
namespace Att
open PySem PySem.W PySem.Calls PyProof.Rows
theorem nO:∀(s:List Int) (v:List c6),WellAll P h v (s.map WData.int)->IntsAre v s:=by
 intro s;induction s with
 |nil=>intro v w;rw[Ps]at w;cases w;exact .nil
 |cons n s i =>
  intro v w;rw[C4]at w;cases w with
  |cons a b=>cases a;exact .cons _ _<|i _ b
theorem Ar{l:OpenLaw}{n:Nat}(o:l.most=a7 n){P:Params}{h:d7}{args:List WData}{s:List c6}(e:l.row.toRowW.claim.pre args=a9) (i:WellAll P h s args):∃a v ns,s=[G1 a]/\args=[WData.list<|ns.map WData.int]/\h.get? a=a7 { cls:=.type "list",data:=.seq v.toArray }/\IntsAre v ns/\ns.length<=n:=by
 have g:WShape.hasAll [] args [.list .int]=a9:=(pre_splitW e).1;have j:l.pre.holds [] { args:=args }=a9:=(pre_splitW e).2;obtain⟨d,r,rfl,h1,h2⟩:=hasAllW_cons g;obtain rfl:=hasAllW_nil h2;obtain⟨x,rfl,m⟩:=hasW_list h1;obtain⟨ns,rfl⟩:=items_int m;have c:ns.length<=n:=by
  unfold OpenLaw.pre at j;have f:(WTm.not<|.lt (.lit<|.int (n:Int))<|.len<|.arg 0).holds [] { args:=[.list<|ns.map .int] }=a9:=by have f:=(holds_andW j).1;rw[o]at f;exact f
  have k:=condW_of f<|w_not<|w_lt w_lit<|w_len_list<|w_arg rfl;rw[u6]at k;refine Nat.le_of_not_lt λq=>?_;have p:(n:Int)<((ns.length:Nat):Int):=by lia
  first
   |(rw[dT_ p]at k;exact o4 k (by decide))
   |(simp at k;lia)
 cases i with
 |cons L w =>
  cases w;cases L with
  |list B b=>exact⟨_,_,ns,rfl,rfl,B,nO ns _ b,c⟩
theorem AC(l:OpenLaw)(args:List WData):l.row.toRowW.claim.post args (.bool a9) args=a9:=postW_of (r:=l.row.toRowW) (X:=(a9==a9))
  (show WShape.has [] (.bool a9) .bool=a9 by first|rfl|decide|simp[WShape.has,WShape.arms,WShape.armsAll])
  (show (WTm.eq .res<|.lit<|.bool a9).value [] { args:=args,res:=a7<|.bool a9,after:=args }=a7 (.bool<|a9==a9)from w_eq_bool (w_res rfl) w_lit) rfl
theorem attach_call{l:OpenLaw}{n:Nat}{q:c9}{e:List c7}{P:(c7->Option c6)->d7->Prop}{YP:c8->d7->Prop}{d:DefRec}(A:l.most=a7 n) (i:d.params.defaults=[])(c:∀(w:c8) (s₀ s₁:f7) (mg mb:c7->Option c6) (fa:d5) (o:d6) (pm cd doc:c6) (a:d5) (vs:List c6) (ns:List Int),Ground q e [] P w s₀ mg mb s₁.heap->YP w s₁.heap -> s₁.heap.get? fa=a7 o->o.data=.func (docDef d.name d.params d.body d.scope pm cd doc)->s₁.heap.CodeRec cd d.name->mg d.name=a7 (.ref fa) ->s₁.heap.get? a=a7 { cls:=.type "list",data:=.seq vs.toArray }->IntsAre vs ns->ns.length<=n->s₁.gens = #[] ->k5 (i3 l.prog w) callerA (.call (.ref fa) ⟨[.ref a],[]⟩) (λr s'=>r=.ok (.ret<|.bool a9)/\OldK s₁.heap s'.heap/\s'.os=s₁.os/\f9 s'.gens) s₁):WalkO q e P YP l.row.toRowW d [] (λf vs=>PySem.call f vs):=by intro w s₀ s₁ mg mb G Y fa o pm cd doc T kV B u g D k S O v F b y E m x;obtain rfl:T=.none:=Dflts.none D i;obtain rfl:kV=.none:=Dflts.noKw D;obtain⟨a,vs,ns,rfl,rfl,j,s,h⟩:=Ar A b m;refine enter_call<|Og (c w s₀ s₁ mg mb fa o pm cd doc a vs ns G Y B (fd_plain u) g k j s h S) λr s' C=>?_;obtain⟨rfl,h2,p,t⟩:=C;exact⟨.inl ⟨.bool a9,.bool a9,[],rfl,λ_=>rfl,.bool a9,AC l _,λ_=>⟨PR,λ_ z=>(nomatch z)⟩⟩,h2,p,t⟩
noncomputable def noObjs(h:d7):d7:={ h with objs:=#[] }
theorem noObjs_get(h:d7)(b:d5):(noObjs h).get? b=a8:=by
 cases e:(noObjs h).get? b with
 |none=>rfl
 |some o=>exact o4 (v9 e)<|No _
noncomputable def ledger(h:d7)(L d:d5):List (d5×d6):=(A9 h.objs.size).filterMap λa=>if a=L\/a=d then a8 else(h.get? a).map λo=>(a,o)
theorem mem_ledger:(a,o)∈ledger h L d↔a≠L/\a≠d/\h.get? a=a7 o:=by unfold ledger;rw[O1];constructor;rintro⟨b,_,e⟩;split at e;cases e;rename_i c;obtain⟨o',B,f⟩:=Mz.mp e;cases f;exact⟨λq=>c<|.inl q,λq=>c<|.inr q,B⟩;rintro⟨n1,n2,B⟩;refine⟨a,G4.mpr<|v9 B,?_⟩;rw[o0<|show ¬(a=L\/a=d)from λq=>q.elim n1 n2,B]<;>rfl
theorem news_ledger(b:d≠L)(B:h.get? d=a7 od):News (noObjs h) L h ([]++(d,od)::ledger h L d):=by rintro⟨a,o⟩ p;rcases A0.mp p with e|p;cases e;exact⟨B,b,noObjs_get _ _⟩;obtain⟨n,c,e⟩:=mem_ledger.mp p;exact⟨e,n,noObjs_get _ _⟩
theorem fr_all(n:h.Ns L m):Fr (noObjs h) L h m:=⟨n,λb o e=>(by rw[noObjs_get]at e;cases e),z5 _⟩
end Att
namespace L2
open PySem PySem.Spec PyProof.Rows
theorem rR:∀{v:List c6}{s:List Int},IntsAre v s->aB (s.map V.int) v
 |_,_,.nil=>.nil
 |_,_,.cons n t h=>.cons ⟨t,rfl⟩<|rR h
noncomputable abbrev KOf{K:u4}{h:d7}(_:K.In h):u4:=K
noncomputable def ju(s:i6):Arguments:=match s with
 |.FunctionDef _ a _ _ _ _ _ _ _ _=>a
 |_=>{ posonlyargs:=[],args:=[],vararg:=a8,kwonlyargs:=[],kw_defaults:=[],kwarg:=a8,defaults:=[] }
noncomputable def bV(s:i6):List i6:=match s with
 |.FunctionDef _ _ b _ _ _ _ _ _ _=>b
 |_=>[]
noncomputable def av(s:i6):f8:=match s with
 |.FunctionDef _ _ _ _ _ _ sc _ _ _=>sc
 |_=>{ kind:=.function,names:=[],isGenerator:=c5,isCoroutine:=c5 }
abbrev E8:NS:=λ_ _ _ _ _ _=>False
abbrev E0:XK:=λ_ _ _=>False
theorem pass0:CD E8 X E0:=λ_ _ _ _ _ _ _ h=>h.elim
structure MN(K:u4)(x qual:c7)(st:i6)(f:d5)(fd:k4):Prop where
 ex:∃(oc:c6) (od:Option d5) (kV doc pm:c6) (an:Option d5) (cdv ct:c6) (osl:Array (Option c6)),fd=NF x qual (ju st) (bV st) (av st) .none kV doc pm an cdv ct/\K.lookup f=a7 ⟨oc,od,.func fd,osl⟩/\Qj K cdv qual=a9
 kp:NX K (.ref f)=a9
theorem MN.ok{P:c9}{w:c8}{K:u4}{mg:c7->Option c6}{base:d7}{x l:c7}{st:i6}{f:d5}{a:k4}{N p:List c7}{k:Nat}{sp:Sp}(F:MN K x l st f a)(S:FnScope N p (av st))(B:∀v H Q E,sp v H Q E->v.length=p.length)(y:∀(cdv:c6) (A:f6) (outer:List Env) (s:f7) (H:Hp) (v:List V) (Q:VK) (E:XK),Room k (A.deeper<|k7 l (av st) s.heap.objs.size f cdv)->sp v H Q E -> ∃t,J3 (uz E8 P w K mg base N l (av st) f cdv A outer s H E).nox (bV st) t/\t { nx:=λ_ H'=>Q .non H',rt:=Q } (start N v) H):FnOk P w K mg base E8 (k+1) f a p sp:=by obtain⟨oc,j,kV,i,U,M,cdv,R,G,rfl,b,d⟩:=F.ex;refine Lx b d S B λA outer s H v Q E r z=>?_;obtain⟨t,h,q⟩:=y cdv A outer s H v Q E r z;exact⟨t,h.nox,q⟩
theorem MN.binds{K:u4}{x l:c7}{st:i6}{f:d5}{d:k4}{p:List c7}(F:MN K x l st f d)(h:∀(kV doc pm:c6) (an:Option d5) (cdv ct:c6) (u:List c6),u.length=p.length->bindArgs (NF x l (ju st) (bV st) (av st) .none kV doc pm an cdv ct) ⟨u,[]⟩=pure (p.zip u)):uN K d p []:=by obtain⟨oc,j,kV,doc,pm,an,cdv,ct,G,rfl,b,a⟩:=F.ex;exact .all<|h kV doc pm an cdv ct
theorem Lv{K:u4}{x q:c7}{st:i6}{f:d5}{oc:c6}{j M:Option d5}{G:Array (Option c6)}{kV i U v R:c6}(l:K.lookup f=a7 ⟨oc,j,.func<|NF x q (ju st) (bV st) (av st) .none kV i U M v R,G⟩)(c:Qj K v q=a9) (k:NX K (.ref f)=a9):MN K x q st f (NF x q (ju st) (bV st) (av st) .none kV i U M v R):=⟨⟨oc,j,kV,i,U,M,v,R,G,rfl,l,c⟩,k⟩
theorem aH(h:n<=1000):n<sizeLine:=Nat.lt_of_le_of_lt h<|by decide
theorem pv(i:Nat)(h:X.N[i]?=a7 x:=by rfl)(c:Oa X.env.scope x:=by first|exact Or.inl rfl|exact Or.inr (Or.inl rfl)|exact Or.inr<|Or.inr rfl)(a:(x==("__debug__":c7))=c5:=by decide)(d:(x==("__classdict__":c7))=c5:=by decide):PE X (.Name x pos) (tVar i):=Fx h c a d
theorem bh{A B:Prop}(h:B):if c5=a9 then A else B:=by rw[o0 Nt];exact h
theorem bj{A B:Prop}(h:A):if a9=a9 then A else B:=by rw[n9 rfl];exact h
section
variable{κ:Type}[DecidableEq κ]
noncomputable def wF(s:List (κ×V))(k:κ):Option V:=(s.find? λv=>decide<|v.1=k).map (·.2)
noncomputable def putK(s:List (κ×V))(k:κ)(v:V):List (κ×V):=if (s.any λa=>decide<|a.1=k)=a9 then s.map (λa=>if a.1=k then(a.1,v)else a)else s++[(k,v)]
theorem wE{p:κ×V}{r:List (κ×V)}{k:κ}(e:p.1=k):wF (p::r) k=a7 p.2:=by simp[wF,Mq,e]
theorem pZ{p:κ×V}{r:List (κ×V)}{k:κ}(e:¬p.1=k):wF (p::r) k=wF r k:=by simp[wF,Mq,e]
theorem CI.getD(r:CI o u)(a:aZ d d'):aZ (o.getD d) (u.getD d'):=by
 cases o with
 |none=>cases u with
  |none=>exact a
  |some _=>exact(show False from r).elim
 |some _=>cases u with
  |none=>exact(show False from r).elim
  |some _=>exact r
theorem KV.val{s:List (κ×V)}{v:List (κ×c6)}(r:KV s v)(k:κ):CI (wF s k) (valueAt v k):=by
 unfold KV at r;induction r with
 |nil=>exact True.intro
 |@cons p q d c h t i =>
  obtain⟨h1,h2⟩:=h;by_cases e:p.1=k;have a:q.1=k:=h1.symm.trans e;have b:valueAt (q::c) k=a7 q.2:=by simp[valueAt,Mq,a]
  rw[wE e,b];exact h2;have a:¬q.1=k:=λz=>e<|h1.trans z;have b:valueAt (q::c) k=valueAt c k:=by simp[valueAt,Mq,a]
  rw[pZ e,b];exact i
theorem KV.any(r:KV s v)(k:κ):(s.any λkv=>decide<|kv.1=k)=v.any λkv=>decide (kv.1=k):=by
 unfold KV at r;induction r with
 |nil=>rfl
 |cons h t i=>rw[Px,Px,i,h.1]
theorem KV.repl(r:KV s v)(k:κ)(a:aZ y u):KV (s.map λkv=>if kv.1=k then(kv.1,y)else kv) (v.map λkv=>if kv.1=k then(kv.1,u)else kv):=by
 unfold KV at r ⊢;induction r with
 |nil=>exact .nil
 |@cons p q b c h t i=>rw[C4,C4];refine .cons ?_ i;obtain⟨h1,h2⟩:=h;by_cases e:p.1=k;rw[n9 e,n9<|h1.symm.trans e];exact⟨h1,a⟩;rw[o0 e,o0<|λz=>e<|h1.trans z];exact⟨h1,h2⟩
theorem KV.put(r:KV s a)(k:κ)(i:aZ y u):KV (putK s k y) (stored a k u):=by unfold putK stored;rw[r.any k];by_cases e:(a.any λv=>decide<|v.1=k)=a9;rw[n9 e,n9 e];exact r.repl k i;rw[o0 e,o0 e];exact Paired.snoc r ⟨rfl,i⟩
theorem KV.length(r:KV k v):k.length=v.length:=Paired.length r
end
theorem BJ(r:aZ (kV k) u):(bU P w).is k u=a9:=by
 cases k with
 |inl i=>obtain⟨t,e⟩:=(show ∃t,u=Value.int i t from r);subst e;exact vR P w i t
 |inr x=>obtain⟨t,e⟩:=(show ∃t,u=Value.str x t from r);subst e;exact vQ P w x t
theorem ub:∀{s:List D3}{u:List c6},aB (s.map kV) u->ItemsAre (bU P w) s u
 | [],_,r=>by rw[Ps]at r;cases r;exact .nil
 |k::s,_,r=>by
  rw[C4]at r;cases r with
  |cons h t=>exact .cons (BJ h)<|ub t
abbrev KT(H:Hp):List (List D3×V)->List (List D3×d5×c6)->Prop:=Paired λp q=>p.1=q.1/\H q.2.1=a7 (.tup<|p.1.map kV)/\aZ p.2 q.2.2
theorem KT.val{H:Hp}{s:List (List D3×V)}{x:List (List D3×d5×c6)}(r:KT H s x)(k:List D3):CI (wF s k) ((m3 x k).map (·.2)):=by
 induction r with
 |nil=>exact True.intro
 |@cons p q d c h t i =>
  obtain⟨h1,_,h2⟩:=h;by_cases e:p.1=k;have a:q.1=k:=h1.symm.trans e;have b:m3 (q::c) k=a7 q.2:=by simp[m3,Mq,a]
  rw[wE e,b];exact h2;have a:¬q.1=k:=λz=>e<|h1.trans z;have b:m3 (q::c) k=m3 c k:=by simp[m3,Mq,a]
  rw[pZ e,b];exact i
theorem JF(ok:D0 P w H h)(e:Rd H a u):cM P w H h a u:=e.ok ok
theorem Iz(ok:D0 P w H h)(e:Rd H a (.dK k)):k.length<=sizeLine/\(a==d8)=c5/\∃v,KV k v/\h.DictOf (bU P w) a v:=show cM P w H h a (.dK k)from JF ok e
theorem IA(ok:D0 P w H h)(e:H a=a7 (.dK k)):k.length<=sizeLine/\(a==d8)=c5/\∃v,KV k v/\h.DictOf (bU P w) a v:=Iz ok<|.inl e
theorem FL(ok:D0 P w H h)(e:H a=a7 (.tup<|ks.map kV)):(tupleKind<|bU P w).is h ks a:=by
 obtain⟨_,i,r,o,h1,h2,⟨n,b⟩,_⟩:=(show cM P w H h a (.tup<|ks.map kV)from ok a _ e)
 exact⟨o,i.toArray,n,h1,h2,b,by simpa using ub r⟩
theorem LC(ok:D0 P w H h)(e:Rd H a (.dT s)):s.length<=sizeLine/\(a==d8)=c5 /\∃n,KT H s n/\h.DictOfH (tupleKind<|bU P w) a n:=by
 obtain⟨z,y,n,r,o,u,i,h1,h2,f,g,k⟩:=(show cM P w H h a (.dT s)from JF ok e)
 refine⟨z,y,n,r,o,u,i,h1,h2,f,g,λx b=>?_,k⟩;have c:∀{l:List (List D3×V)}{m:List (List D3×d5×c6)},KT H l m->∀x∈m,(tupleKind<|bU P w).is h x.1 x.2.1:=by
  intro l m q;induction q with
  |nil=>intro x b;exact nomatch b
  |@cons p q v qs d t j=>intro x b;rcases A0.mp b with e|b;subst e;exact FL ok (by rw[<-d.1];exact d.2.1);exact j x b
 exact c r x b
def DGet(H:Hp)(a:d5)(y:V)(r:Option V):Prop:=(∃s k,Rd H a (.dK s)/\y=kV k/\r=wF s k)\/∃s k b,Rd H a (.dT s)/\y=.ref b/\H b=a7 (.tup<|k.map kV)/\r=wF s k
theorem r9.big(I:r9 X p σ H s):d8<s.heap.objs.size:=by have h:e8<s.heap.objs.size:=(I.mod.glob.keeps I.bk).lt;exact Pq (by decide) h
theorem Cm(x:A.units+1<j9)(I:r9 X pins σ H s)(g:DGet H a y (a7 v))(n:aZ y u)(h:∀w' s',r9 X pins σ H s'->aZ v w'->Q w' s'):ge (i3 X.prog X.w) A (k9 (.ref a) u) Q E s:=by
 rcases g with⟨m,k,e,f,l⟩|⟨m,k,b,e,f,L,l⟩
 subst f;obtain⟨z,q,vs,r,d⟩:=Iz I.hok e;obtain⟨w',j,c⟩:=CI.some_of (v:=v) (o:=valueAt vs k) (by rw[l];exact r.val k);exact wpAny_getItem_of (BJ n) d.mapOf j<|h w' _ (I.tok _) c;subst f;cases (show u=G1 b from n);obtain⟨z,q,xs,r,d⟩:=LC I.hok e;obtain⟨w',j,c⟩:=CI.some_of (v:=v) (o:=(m3 xs k).map (·.2)) (by rw[l];exact r.val k);obtain⟨p,t,i⟩:=Mz.mp j;refine wpAny_getItem_heap (tupleKind_room_in1 x) (FL I.hok L) d t ?_;rw[i];exact h w' _ (I.tok _) c
theorem Cl(I:r9 X p σ H s)(m:Pk (H a))(h:Nb a s.heap h')(i:∃q,h'.get? a=a7 q)(n:cM X.prog X.w (v7 H a ob) h' a ob):r9 X p σ (v7 H a ob) { s with heap:=h',toks:=t' }:=I.write (x:=a) (e:=a) m (.inl rfl) (λb q d z=>(h.2 b d).trans z) i n
theorem FP(z:s.length<=sizeLine)(d:(a==d8)=c5)(r:KV s v)(k:h'.DictOf (bU P w) a v):cM P w H' h' a (.dK s):=⟨z,d,v,r,k⟩
def Jd(i:h8):Prop:=∀b a,subscripted i c5 b a=operate [b,a] (k9 b a)
theorem Aj{j:c9}{w:c8}{A:f6}{E:c6->f7->Prop}{s:f7}{env:Env}{a e:h8}{p:Pos}{T id:String}{Q:c6->f7->Prop}(l:typeLookup (.type T) "__getitem__" = pure (a7<|.builtin id)) (k:Jd e)(h:ge (i3 j w) A (eval a env) (λo s₁=>ge (i3 j w) A (eval e env) (λi s₂=>s₂.TypeIs o T/\ge (i3 j w) A (k9 o i) Q E s₂) E s₁) E s):ge (i3 j w) A (eval (.Subscript a e p) env) Q E s:=by
 refine Subscript_<|E9 h (λo s₁ d=>E9 d (λi s₂ b=>?_) λ_ _ x=>x) λ_ _ x=>x;obtain⟨g,b⟩:=b;unfold subscriptTail;refine p8 ?_;rw[getitemInPython_of_ne g.not_modules];refine p8<|NK g l ?_;have n:ge (i3 j w) A (subscripted e c5 o i) (λr c=>ge (i3 j w) A (letTemporaryGo a o r >>= λ_=>pure r) Q E c) E s₂:=by rw[k o i];exact wpAny_operating<|E9 b (λr c f=>p8<|wpAny_letTemporaryGo<|t4 f) λ_ _ x=>x
 first
  |exact t4 (p8 n)
  |exact p8 (t4 (p8 n))
  |exact p8 n
theorem wk(I:r9 X p σ H s)(g:DGet H a y o):s.TypeIs (.ref a) "dict":=by
 rcases g with⟨c,k,e,_,_⟩|⟨c,k,b,e,_,_,_⟩
 obtain⟨_,_,v,_,d⟩:=Iz I.hok e;exact d.typeIs;obtain⟨_,_,x,_,d⟩:=LC I.hok e;exact d.typeIs
def tDGet(d t:TE):TE:=λσ H Q=>d σ H λx c=>t σ c λy b=>∃a v,x=.ref a/\DGet b a y (a7 v)/\Q v b
theorem GG(l:X.A.units+1<j9)(B:PE X o td)(hi:PE X i ty)(hs:Jd i):PE X (.Subscript o i pos) (tDGet td ty):=by intro p s σ H Q I h;refine Aj PySem.F.slot_dict_getitem.lookup hs<|v4 (B p s σ H _ I h) ?_;rintro u t ⟨x,c,f,r,q⟩;refine v4 (hi p t σ c _ f q) ?_;rintro w z ⟨y,d,e,n,a,v,k,g,m⟩;subst k;obtain rfl:u=G1 a:=r;exact⟨wk e g,Cm l e g n λY C j b=>⟨v,d,j,b,m⟩⟩
theorem EM(h:d7)(d:d8<h.objs.size):cM P w H (h.push { cls:=.type "dict",data:=.dict #[] }) h.objs.size (.dK []):=⟨z5 _,beq_eq_false_iff_ne.mpr<|B8<|x6 d,[],.nil,Heap.DictOf.new h⟩
def Jv:TE:=λ_ H Q=>∀p,H p=a8->Q (.ref p) (v7 H p<|.dK [])
theorem Dt:PE X (.Dict [] [] pos) Jv:=λp s σ H Q I h =>
 wpAny_Dict_empty ⟨.ref s.heap.objs.size,_,I.laid (a:=s.heap.objs.size) (o:=.dK []) (t':=s.toks) (λ_ _ q=>v5 _ q) (u7 _)<|EM s.heap I.big,rfl,h _<|I.hok.fresh<|u7 _⟩
end L2
namespace DL
open PySem
theorem jv(env:Env):∀(s:List (c7×k6)) (b:List (c7×d5)),(∀p∈s,p.2=Mf->∃c,env.cells.lookup p.1=a7 c) ->∃cl,(forIn (m:=Sem) s b λ(p:c7×k6) (r:List (c7×d5)) =>
    if (p.2==Mf)=a9 then(do let a <-cellOf env p.1;pure (Ql<|(p.1,a)::r))else pure (Ql r))=pure cl /\
   (∀z c,cl.lookup z=a7 c->b.lookup z=a7 c\/env.cells.lookup z=a7 c) /\
   (∀z c,b.lookup z=a7 c->∃c',cl.lookup z=a7 c') /\
   (∀p∈s,p.2=Mf->∃c,cl.lookup p.1=a7 c)
 | [],b,_=>⟨b,rfl,λ_ _ h=>.inl h,λz c h=>⟨c,h⟩,λ_ h=>nomatch h⟩
 |(n,k)::be,b,hyp=>by
  by_cases hk:k=Mf;subst hk;obtain⟨c0,hc0⟩:=hyp (n,.free) C5 rfl;obtain⟨cl,e,h1,h2,h3⟩:=jv env be ((n,c0)::b) λp hp=>hyp p<|A5 _ hp;have ce:cellOf env n=pure c0:=by unfold cellOf;rw[hc0]
  have own:∃c',cl.lookup n=a7 c':=h2 n c0 (by simp[N0]);refine⟨cl,?_,λz c hz=>?_,λz c hz=>?_,λp hp hf=>?_⟩;rw[List.forIn_cons];simp only[p7,p5,ce,pure_bind];exact e;rcases h1 z c hz with q|q;rw[N0]at q;by_cases hz':(z==n)=a9;rw[hz']at q;have:z=n:=by simpa using hz'
  subst this;cases q;exact .inr hc0;have hz'':(z==n)=c5:=by simpa using hz'
  rw[hz'']at q;exact .inl q;exact .inr q;by_cases hz':z=n;subst hz';exact own;refine h2 z c ?_;rw[N0];have hz'':(z==n)=c5:=by simpa using hz'
  rw[hz''];exact hz;rcases A0.mp hp with rfl|hp;exact own;exact h3 p hp hf;have hb:(k==Mf)=c5:=by simpa using hk
  obtain⟨cl,e,h1,h2,h3⟩:=jv env be b λp hp=>hyp p<|A5 _ hp;refine⟨cl,?_,h1,h2,λp hp hf=>?_⟩;rw[List.forIn_cons];simp only[hb,B9,o8,pure_bind];exact e;rcases A0.mp hp with rfl|hp;exact o4 hf hk;exact h3 p hp hf
theorem lW(h:∀p∈scope.names,p.2=Mf->∃c,env.cells.lookup p.1=a7 c):∃cl,closureFor scope env=pure cl/\(∀z c,cl.lookup z=a7 c->env.cells.lookup z=a7 c)/\(∀p∈scope.names,p.2=Mf->∃c,cl.lookup p.1=a7 c):=by obtain⟨cl,e,h1,h2,a⟩:=jv env scope.names [] h;refine⟨cl,?_,λz c b=>?_,a⟩;unfold closureFor;simp only[bind_pure];exact e;rcases h1 z c b with q|q;simp at q;exact q
theorem gO{env:Env}:∀{names:List (c7×k6)}{x:c7}{k:k6},(names.map λ(p:c7×k6)=>if (p.2==Mf&&env.scope.kind==.function&&env.kindOf p.1==a7 .cell)=a9 then(p.1,NV)else(p.1,p.2)).lookup x=a7 k ->(names.lookup x=a7 k\/(k=NV/\names.lookup x=a7 .free))
 | [],_,_,h=>by simp at h
 |(n,j)::be,x,k,h=>by
  have ih:=@gO env be x k;rw[C4,N0]at h;by_cases hx:(x==n)=a9;have hl:List.lookup x ((n,j)::be)=a7 j:=by rw[N0,hx]
  rw[hl];by_cases hc:(j==Mf&&env.scope.kind==.function&&env.kindOf n==a7 .cell)=a9;simp only[hc,p5,hx]at h;cases h;have:j=Mf:=by simp only[C9]at hc;simpa using hc.1.1
  exact .inr ⟨rfl,by rw[this]⟩;simp only[hc,B9,o8,hx]at h;exact .inl h;have hx':(x==n)=c5:=by simpa using hx
  have hl:List.lookup x ((n,j)::be)=List.lookup x be:=by rw[N0,hx']
  rw[hl];refine ih ?_;by_cases hc:(j==Mf&&env.scope.kind==.function&&env.kindOf n==a7 .cell)=a9;simp only[hc,p5,hx']at h;exact h;simp only[hc,B9,o8,hx']at h;exact h
theorem qc(s:List h8)(env:Env):compTests s env =
  (forIn s a9 λc r=>if r=a9 then do let ok <-isTrue c env (eval c env);pure (Ql ok)else pure (Ql r)):=by unfold compTests;simp only[bind_pure]
theorem zg(J:Nat->f7->Prop)(F:c6->f7->Prop)(b:∀e s',F e s'->notedBy (i3 p w) A env (λe s'=>R (.error e) s') e s')(t:∀n s,J n s->ge (i3 p w) A (j1 it) (λr s1=>match r with
   |none=>R (.ok .next) s1
   |some v=>ge (i3 p w) A (j2 target it v) (λ_ s2=>ge (i3 p w) A (i9 target env v) (λ_ s3 =>
     ge (i3 p w) A (compTests ifs env) (λok s4 =>
      if ok=a9 then ge (i3 p w) A (eval elt env) (λy s5=>ge (i3 p w) A (call (.builtin "list.append") [g,y]) (λ_ s6=>∃m,m<n/\J m s6) F s5) F s4
      else ∃m,m<n/\J m s4) F s3) F s2) F s1) F s)
  (n:Nat) (h:J n s):k5 (i3 p w) A (.compLoop (.ListComp elt [⟨target,iter,ifs,0⟩] scope pos) 0 it g env) R s:=by
 refine codeAny_loop rfl J (λn s d=>?_) n h;show ge _ A ((compTurn (.ListComp elt [⟨target,iter,ifs,0⟩] scope pos) 0 it g env).onRaise<|λx=>do noteFrame x env;theTreesLotGoes x) _ _ s;refine wpAny_noted ?_;rw[compTurn_list];refine p8<|wpAny_standAt<|p8<|E9 (t n s d) (λr s1 h1=>?_) b;cases r with
 |none=>exact t4 h1
 |some v =>
  refine p8<|E9 h1 (λ_ s2 h2=>?_) b;refine p8<|E9 h2 (λ_ s3 a=>?_) b;rw[qc]at a;refine p8<|E9 a (λok s4 f=>?_) b;cases ok with
  |false=>exact t4 ⟨rfl,f⟩
  |true=>exact p8<|p8<|E9 f (λy s5 k=>p8<|E9 k (λ_ s6 c=>t4<|t4 ⟨rfl,c⟩) b) b
end DL
namespace L2
open PySem PySem.Spec PyProof.Rows DL
theorem lO{env:Env}:∀{s:List (c7×k6)}{x:c7},s.lookup x=a7 .free ->((s.map λ(p:c7×k6)=>if (p.2==Mf&&env.scope.kind==.function&&env.kindOf p.1==a7 .cell)=a9 then(p.1,NV)else(p.1,p.2)).lookup x=a7 .cell \/ (s.map λ(p:c7×k6)=>if (p.2==Mf&&env.scope.kind==.function&&env.kindOf p.1==a7 .cell)=a9 then(p.1,NV)else(p.1,p.2)).lookup x=a7 .free)
 | [],_,h=>by simp at h
 |(n,j)::be,x,h=>by
  have ih:=@lO env be x;rw[C4,N0];rw[N0]at h;by_cases hc:(j==Mf&&env.scope.kind==.function&&env.kindOf n==a7 .cell)=a9;by_cases hx:(x==n)=a9;simp[hc,hx];have hx':(x==n)=c5:=by simpa using hx
  rw[hx']at h;simp only[hc,p5,hx'];exact ih h;by_cases hx:(x==n)=a9;rw[hx]at h;cases h;right;simp only[hc,B9,o8,hx];have hx':(x==n)=c5:=by simpa using hx
  rw[hx']at h;simp only[hc,B9,o8,hx'];exact ih h
noncomputable def A4(X:Cx)(N':List c7)(scope:f8)(l:List (c7×d5))(s₀:f7)(H₀:Hp)(ex:List d5):Cx:={ X with N:=N',s₀:=s₀,H₀:=H₀,env:=compEnvC scope l s₀.heap.objs.size X.env,outer:=X.stack,ex:=ex,fn:=λx=>scope.names.lookup x==a7 .cell,pn:=[],xe:=λ_ _=>False }
structure BlkSc(X:Cx)(N':List c7)(nt:Nat)(js:List Nat)(scope:f8):Prop where
 kind:scope.kind=.function
 nocell:∀y∈scope.names,y.2≠.cell
 loc:∀y∈scope.names,y.2=.local->scope.names.lookup y.1=a7 .local
 free:∀y∈scope.names,y.2=.free->(X.env.kindOf y.1=a7 .cell\/X.env.kindOf y.1=a7 .free)
 len:N'.length=nt+js.length
 fr:∀(k j:Nat),js[k]?=a7 j->∃x,N'[nt+k]?=a7 x/\X.N[j]?=a7 x/\scope.names.lookup x=a7 .free/\(X.env.kindOf x=a7 .cell\/X.env.kindOf x=a7 .free)
noncomputable def bst(t:Nat)(s:List Nat)(σ:St):St:=Py t a8++s.map λj=>(σ[j]?).join
theorem Cv(t:Nat)(s:List Nat)(σ:St):(bst t s σ).length=t+s.length:=by simp[bst]
theorem IP(h:(bst nt js σ)[i]?=a7 (a7 v)):∃k j,i=nt+k/\js[k]?=a7 j/\σ[j]?=a7 (a7 v):=by
 unfold bst at h;by_cases hi:i<nt;rw[J0 (by simpa using hi),QS]at h;simp[hi]at h;rw[MB (by simpa using M9.mp hi),QN,C8]at h;cases e:js[i-nt]? with
 |none=>rw[e]at h;cases h
 |some j =>
  rw[e]at h;refine⟨i-nt,j,by lia,e,?_⟩;have h':(σ[j]?).join=a7 v:=by simpa using h
  cases q:σ[j]? with
  |none=>rw[q]at h';cases h'
  |some o=>rw[q]at h';exact p6 a7 h'
def Nk(X:Cx)(i:List h8)(t:TT):Prop:=∀(p:List (d5×d6)) (s:f7) (σ:St) (H:Hp) (Q:Bool->Hp->Prop),r9 X p σ H s->t σ H Q->ge (i3 X.prog X.w) X.A (compTests i X.env) (TP X p σ Q) X.xe s
def ttNil:TT:=λ_ H Q=>Q a9 H
theorem Gx:Nk X [] ttNil:=λp s σ H Q I h=>by rw[qc];exact wpAny_tests_nil ⟨H,I,h⟩
theorem Gw(h:PT X c t):Nk X [c] t:=λp s σ H Q I q=>by rw[qc];exact wpAny_tests_one<|h p s σ H Q I q
def Q5(t:Nat)(s:List Nat)(wi:TI)(g:TG)(tt:TT)(te:TE):TE:=λσ H Q=>wi σ H λJ e=>∃W:Nat->Nat->List V->St->Hp->Prop,(∃m,W 0 m [] (bst t s σ) e) /\∀i m v τ H,W i m v τ H->(J.stop i H/\∀p,H p=a8->Q (.ref p) (v7 H p<|.lst v)) \/(J.go i H/\∀x H',J.yld i H x H'->g x τ H' λa f=>tt a f λb d=>if b=a9 then te a d λy h=>v.length<sizeLine/\∃c,c < m/\W (i+1) c (v++[y]) a h else ∃c,c < m/\W (i+1) c v a d)
noncomputable abbrev cU(its:List c6)(k:Nat):d6:={ cls:=.type "list",data:=.seq its.toArray k }
theorem r9.blkOk(B:BlkSc X N' nt js scope)(I:r9 X n σ H s)(a:∀z c,cl.lookup z=a7 c->X.env.cells.lookup z=a7 c) (f:∀p∈scope.names,p.2=Mf->∃c,cl.lookup p.1=a7 c) (i:∀b∈fp,zv X n H b) (j:∀b∈fp,b<s.heap.objs.size):(A4 X N' scope cl { s with heap:=s.heap.push ob } H<|s.heap.objs.size::fp).Ok:=by
 have J:r9 X n σ H { s with heap:=s.heap.push ob }:=I.kept (t':=s.toks) λb o e=>v5 _ e;have ltc:∀z c,cl.lookup z=a7 c->c<s.heap.objs.size:=λz c e=>by obtain⟨v,q⟩:=I.cell z c<|a z c e;exact q.lt
 have C:(s.heap.push ob).objs.size=s.heap.objs.size+1:=Mx ..;refine⟨I.ok.mod,B.kind,I.ok.glob,I.ok.blt,u7 _,λy z c h1 h2=>I.ok.inj y z c (a y c h1)<|a z c h2,λy O=>?_,λy c h=>?_,I.ok.hd,I.ok.frames,.inl rfl,λb d=>?_,λb o e=>?_,?_,λb o e d=>?_,λb d=>?_,J.stack,I.stkFree⟩;have l:scope.names.lookup y=a7 .free:=by
  rcases O with O|O;rcases gO (env:=X.env) (names:=scope.names) (x:=y) (k:=.cell) O with q|⟨_,q⟩
  exact o4 rfl<|B.nocell _<|NN q;exact q;rcases gO (env:=X.env) (names:=scope.names) (x:=y) (k:=.free) O with q|⟨q,_⟩
  exact q;cases q
 exact f (y,.free) (NN l) rfl;exact o4 rfl<|B.nocell _<|NN<|beq_iff_eq.mp<|show (scope.names.lookup y==a7 NV)=a9 from h;show b≠(s.heap.push ob).objs.size/\∀x c,cl.lookup x=a7 c->c≠b;rw[C];rcases A0.mp d with rfl|d;exact⟨x6<|K0 _,λx c e=>x6<|ltc x c e⟩;exact⟨x6<|Nq<|j b d,λx c e=>(i b d).2.2.2.2.1 x c<|a x c e⟩;exact⟨v5 _ (I.bs b o e).1,(I.bs b o e).2⟩;show X.base.objs.size<=(s.heap.push ob).objs.size;rw[C];exact Nat.le_succ_of_le<|D4 I.ok.bsz I.sz;rcases A0.mp d with rfl|d;exact o4 (v9 (I.bs _ o e).1)<|D5 _;rcases(i b d).2.2.2.1 with z|z;exact I.ok.noex b o e z;exact o4 (G5 (v9 (I.ok.bs b o e).1) z)<|D5 _;intro m;have g:=I.stkSub b m;rcases A0.mp d with rfl|d;rcases A0.mp g with q|q;exact o4 I.lt (by rw[<-q];exact D5 _);exact I.nofs (u7 _) q;rcases A0.mp g with q|q;exact(i b d).2.1 q;exact(i b d).2.2.1 q
theorem r9.blkStart(B:BlkSc X N' nt js scope)(I:r9 X pins σ H s)(a:∀z c,cl.lookup z=a7 c->X.env.cells.lookup z=a7 c) (f:∀p∈scope.names,p.2=Mf->∃c,cl.lookup p.1=a7 c) (J:∀b∈fp,zv X pins H b) (m:∀b∈fp,b<s.heap.objs.size)(g:∀b o,(s.heap.push<|cU [] 0).get? b=a7 o->h1.get? b=a7 o) (K:h1.Ns (s.heap.push<|cU [] 0).objs.size mm):r9 (A4 X N' scope cl { s with heap:=s.heap.push (cU [] 0) } H<|s.heap.objs.size::fp) [(s.heap.objs.size,cU [] 0)] (bst nt js σ) H { s with heap:=h1,toks:=tk }:=by
 have d:∀b o,s.heap.get? b=a7 o->h1.get? b=a7 o:=λb o e=>g b o<|v5 _ e;have C:(s.heap.push<|cU [] 0).objs.size=s.heap.objs.size+1:=Mx ..;refine⟨I.blkOk B a f J m,rfl,I.bare,Un.kept g,⟨mm,K,λi x v D E T=>?_⟩,λx c e=>?_,?_,λx c e=>I.freeC x c<|a x c e,λp N=>?_,I.hok.kept d,?_⟩;obtain⟨k,j,rfl,L,t⟩:=IP E;obtain⟨S,Q,R,A,y⟩:=B.fr k j L;have F:x=S:=A8<|D.symm.trans Q;subst F;obtain⟨W,M,n⟩:=I.loc;have w:Oa X.env.scope x:=y.elim (λz=>.inr<|.inl z) λz=>.inr<|.inr z;obtain⟨u,r,h⟩:=n j x v R t w;refine⟨u,r,?_⟩;rcases h with⟨q,_⟩|⟨q,c,G,l⟩
 rcases y with z|z<;>(rw[q]at z;cases z)
 obtain⟨U,O⟩:=f (x,.free) (NN A) rfl;have:U=c:=A8<|(a x U O).symm.trans G;subst this;exact .inr ⟨lO (env:=X.env) A,U,O,l.keeps d⟩;obtain⟨v,q⟩:=I.cell x c<|a x c e;exact⟨v,q.keeps d⟩;exact I.hok.fresh (by show s.heap.objs.size<=(s.heap.push<|cU [] 0).objs.size;rw[C];exact Of _);have e:p=(s.heap.objs.size,cU [] 0):=by simpa [A4]using N
 subst e;refine⟨g _ _<|A1 _ rfl,I.hok.fresh<|u7 _,?_,?_,λv z=>by cases z⟩;show s.heap.objs.size≠(s.heap.push<|cU [] 0).objs.size;rw[C];exact x6<|K0 _;intro P;rcases A0.mp (I.stkSub _ P)with q|q;exact o4 I.lt (by rw[<-q];exact D5 _);exact I.nofs (u7 _) q;rw[Cv];exact B.len.symm
theorem r9.blkEnd(I:r9 X pins σ H s)(E:∀b∈fp,zv X pins H b)(a:r9 (A4 X N' scope cl { s with heap:=s.heap.push (cU [] 0) } H<|s.heap.objs.size::fp) [(s.heap.objs.size,cU its k)] τ H' s')(L:aB vs its) (G:vs.length<=sizeLine) (T:Nb (s.heap.push<|cU [] 0).objs.size s'.heap h'):r9 X pins σ (v7 H' s.heap.objs.size<|.lst vs) { s' with heap:=h' }:=by
 have l:(s.heap.push<|cU [] 0).objs.size=s.heap.objs.size+1:=Mx ..;have C:s.heap.objs.size≠(s.heap.push<|cU [] 0).objs.size:=by rw[l];exact x6<|K0 _
 obtain⟨K,D,_⟩:=a.pin (s.heap.objs.size,cU its k) (by simp[A4]);have i:s'.heap.get? s.heap.objs.size=a7 (cU its k):=K;have f:H' s.heap.objs.size=a8:=D;have j:H' (s.heap.push<|cU [] 0).objs.size=a8:=a.free;have u:Un (J1 X.stack) (s.heap.objs.size::fp) H H' (s.heap.push<|cU [] 0) s'.heap:=a.base;have F:∀b o,s.heap.get? b=a7 o->b≠s.heap.objs.size/\b≠(s.heap.push<|cU [] 0).objs.size:=λb o e=>by have:=v9 e;exact⟨x6 this,by rw[l];exact x6<|Nq this⟩
 have p:∀b o,s.heap.get? b=a7 o->(s.heap.push<|cU [] 0).get? b=a7 o:=λb o e=>v5 _ e;have g:∀b o,s.heap.get? b=a7 o->b∉fp->b∉s.heap.objs.size::fp:=λb o e x J=>by rcases A0.mp J with q|q;exact(F b o e).1 q;exact x q
 refine I.call' (s':={ s' with heap:=h' }) (ch:=fp) a.os ⟨λb o e n d x=>?_,λb o e n d x=>?_,λb o e n x=>?_,λb o e x=>?_,λb xs e=>?_,λb o w e=>?_,λb ps e=>?_⟩ (λb w q=>?_) a.bare λb d=>?_;exact(T.2 b (F b o e).2).trans<|u.keep b o (p b o e) n d<|g b o e x;obtain⟨M,z⟩:=u.slot b o (p b o e) n d<|g b o e x;exact⟨M,(T.2 b (F b o e).2).trans z⟩;rw[ao (F b o e).1];exact u.free b o (p b o e) n<|g b o e x;obtain⟨o',z⟩:=u.there b o (p b o e)<|g b o e x;exact⟨o',(T.2 b (F b o e).2).trans z⟩;have z:=u.tups b xs e;rw[ao<|ae z f];exact z;have z:=u.frzs b o w e;rw[ao<|ae z f];exact z;obtain⟨m,z⟩:=u.tbls b ps e;exact⟨m,by rw[ao<|ae z f];exact z⟩;by_cases d:b=s.heap.objs.size;subst d;rw[aR]at q;cases q;exact⟨G,its,k,L,(T.2 _ C).trans i⟩;rw[ao d]at q;refine(a.hok b w q).stay (λc v h r=>(T.2 c ?_).trans r) (λc z=>by rw[ao<|ae z f];exact z) λc xs z=>by rw[ao<|ae z f];exact z
 rcases h with rfl|h;exact ae q j;exact ae h j;obtain⟨_,t,_,y,A,B⟩:=E b d;exact⟨y,t,A,B⟩
theorem Bw{C tg O:h8}{N:List h8}{scope:f8}{bk:Pos}{N':List c7}{l:List (c7×d5)}{J:It}{fp:List d5}{it:d5}{tn:Nat->d7->Prop}{g:TG}{tt:TT}{te:TE}{Q:VK}{W:Nat->Nat->List V->St->Hp->Prop}{R:Result->f7->Prop}{s0:f7}{H0:Hp}{D:d5} (hc:X.calm=a9)(hg:PG (A4 X N' scope l s0 H0<|D::fp) tg g) (ht:Nk (A4 X N' scope l s0 H0<|D::fp) N tt) (he:PE (A4 X N' scope l s0 H0<|D::fp) C te)(T:Turn X.prog X.w X.K tg J fp it tn) (M:D∉fp)(U:∀i m vs τ H,W i m vs τ H->(J.stop i H/\∀p,H p=a8->Q (.ref p) (v7 H p<|.lst vs)) \/ (J.go i H/\∀x H',J.yld i H x H'->g x τ H' λτ2 H2=>tt τ2 H2 λb f=>if b=a9 then te τ2 f λy H4=>vs.length<sizeLine/\∃m',m' < m/\W (i+1) m' (vs++[y]) τ2 H4 else ∃m',m' < m/\W (i+1) m' vs τ2 f))(t:∀b∈fp,b≠s0.heap.objs.size/\b∉J1 X.stack/\∀x c,l.lookup x=a7 c->c≠b) (L:D≠s0.heap.objs.size) (aD:D∉J1 X.stack) (as:∀x c,l.lookup x=a7 c->c≠D)(aj:∀τ H' s' vs its k,r9 (A4 X N' scope l s0 H0<|D::fp) [(D,cU its k)] τ H' s'->aB vs its->vs.length<=sizeLine->Q (.ref D) (v7 H' D<|.lst vs)->R (.ok .next) s')
  (m0:Nat) {s:St}{s3:f7}{f:Hp} (I3:r9 (A4 X N' scope l s0 H0<|D::fp) [(D,cU [] 0)] s f s3) (bm:tn 0 s3.heap) (al:∀b∈fp,f b=a8) (w0:W 0 m0 [] s f) :
  k5 (i3 X.prog X.w) X.A (.compLoop (.ListComp C [⟨tg,O,N,0⟩] scope bk) 0 (.ref it) (.ref D)<|compEnvC scope l s0.heap.objs.size X.env) R s3:=by
 have h:∀{ob:d6}{H':Hp},(∀b∈fp,H' b=a8)->∀b∈fp,zv (A4 X N' scope l s0 H0<|D::fp) [(D,ob)] H' b:=λ{ob H'} hn b d=>by
  obtain⟨a1,a2,a3⟩:=t b d;refine⟨hn b d,a1,a2,.inl<|A5 _ d,a3,λp j z=>?_⟩;have e:p=(D,ob):=by simpa [A4]using j
  subst e;exact M<|by rw[show D=b from z];exact d
 refine zg (λn s'=>∃i τ H' vs its k,r9 (A4 X N' scope l s0 H0<|D::fp) [(D,cU its k)] τ H' s'/\tn i s'.heap/\(∀b∈fp,H' b=a8)/\aB vs its/\vs.length<=sizeLine/\W i n vs τ H') (λ_ _=>False) (λ_ _ z=>z.elim) ?_ m0 ⟨0,s,f,[],[],0,I3,bm,al,.nil,z5 _,w0⟩;rintro n s' ⟨i,τ,H',vs,its,k,I',P,I,rv,hl,w'⟩;rcases U i n vs τ H' w' with⟨stop,q⟩|⟨go,S⟩
 refine v4 (T.done (A4 X N' scope l s0 H0<|D::fp) rfl rfl rfl hc i _ s' τ H' (λ_ _=>False) I' (h I) P stop) ?_;rintro r s4 ⟨hr,I4⟩;subst hr;exact aj τ H' s4 vs its k I4 rv hl<|q D (I'.pin (D,cU its k)<|by simp[A4]).2.1;refine v4 (T.item (A4 X N' scope l s0 H0<|D::fp) rfl rfl rfl hc i _ s' τ H' (λ_ _=>False) I' (h I) P go) ?_;rintro r s4 ⟨u,hr,h4⟩;subst hr;refine v4 h4 ?_;rintro _ s5 ⟨x,H5,I5,r5,y5,B,an⟩;have ai:=I5.pinned (h an)<|T.obj _ _ B;refine v4 (hg _ s5 τ H5 x u _ ai r5<|S x H5 y5) ?_;rintro _ s6 ⟨a,H6,I6,q6⟩;refine v4 (ht _ s6 a H6 _ I6 q6) ?_;rintro ok s7 ⟨H7,Z,q7⟩;have F:∀{b:d5}{o:d6},b∈fp->s5.heap.get? b=a7 o->(b,o)∈(A4 X N' scope l s0 H0<|D::fp).pn++([(D,cU its k)]++kb fp s5.heap):=λd e=>F6 _<|F6 _<|ij d e;cases ok with
 |false =>
  obtain⟨m',hm,w7⟩:=(show ∃m',m' < n/\W (i+1) m' vs a H7 from q7)
  refine⟨m',hm,i+1,a,H7,vs,its,k,Z.unpinned,T.keep _ _ _ B λb d o e=>(Z.pin (b,o)<|F d e).1,λb d=>?_,rv,hl,w7⟩;obtain⟨o,e,_⟩:=T.obj _ _ B b d;exact(Z.pin (b,o)<|F d e).2.1
 |true =>
  refine v4 (he _ s7 a H7 _ Z q7) ?_;rintro yv s8 ⟨y,Y,I8,r8,q8⟩;obtain⟨aS,m',hm,w8⟩:=q8;obtain⟨oD,fD,_⟩:=I8.pin (D,cU its k) (F6 _<|L5 _<|by simp);have E:Y D=a8:=fD;refine append_at (its:=its.toArray) (n:=k) oD (λh9 bl o9=>?_) (by rw[z7,<-rv.length];exact hl);have J8:r9 (A4 X N' scope l s0 H0<|D::fp) (kb fp s5.heap) a Y s8:=I8.pins_of λp j=>I8.pin p<|F6 _<|F6 _ j;have J9:r9 (A4 X N' scope l s0 H0<|D::fp) (kb fp s5.heap) a Y { s8 with heap:=h9 }:=J8.turned (t':=s8.toks) (it:=D) (λb o d e=>(bl.2 b d).trans e) E L (.inl C5) as λp j z=>by
   have aP:p∈kb fp s5.heap:=by simpa [A4]using j
   exact M<|by rw[<-z];exact(tJ aP).1
  have G:∀{b:d5}{o:d6},b∈fp->s5.heap.get? b=a7 o->(b,o)∈(A4 X N' scope l s0 H0<|D::fp).pn++kb fp s5.heap:=λd e=>F6 _<|ij d e;refine⟨m',hm,i+1,a,Y,vs++[y],its++[yv],k+1,J9.pins_of λp j=>?_,T.keep _ _ _ B λb d o e=>(J9.pin (b,o)<|G d e).1,λb d=>?_,rv.append<|.cons r8 .nil,?_,w8⟩;have e:p=(D,cU (its++[yv])<|k+1):=by simpa using j
  subst e;refine⟨?_,E,L,aD,λv z=>by cases z⟩;rw[show cU (its++[yv]) (k+1)=({ cls:=.type "list",data:=.seq (its.toArray.push yv) (k+1) }:d6) by rw[List.push_toArray]];exact o9;obtain⟨o,e,_⟩:=T.obj _ _ B b d;exact(J9.pin (b,o)<|G d e).2.1;rw[A3];exact aS
theorem pe_lc{C N r:h8}{n:List h8}{scope:f8}{G:Pos}{N':List c7}{nt:Nat}{js:List Nat}{wi:TI}{g:TG}{tt:TT}{te:TE}(B:BlkSc X N' nt js scope)(hc:X.calm=a9)(hi:PI X N r wi)(hg:∀cl s0 H0 ex,PG (A4 X N' scope cl s0 H0 ex) N g) (ht:∀cl s0 H0 ex,Nk (A4 X N' scope cl s0 H0 ex) n tt) (he:∀cl s0 H0 ex,PE (A4 X N' scope cl s0 H0 ex) C te)(hs:∀x,j5 r X.env x=pure x:=by intro _;rfl):PE X (.ListComp C [⟨N,r,n,0⟩] scope G) (Q5 nt js wi g tt te):=by
 intro i s σ H Q I h;rw[eval_ListComp];obtain⟨cl,O,d,u⟩:=lW (scope:=scope) (env:=X.env) λp hp hf=>I.ok.has p.1<|B.free p hp hf;refine wpAny_comprehension_free (use:=a8) rfl hs O B.kind B.loc ?_;refine v4 (hi i s σ H _ I h) λv s1 h1=>v4 h1 λai a h2=>?_;obtain⟨it,P,tn,J,H2,e,j,T,U,M,W,⟨m0,w0⟩,L⟩:=h2;subst e;refine J5<|wpAny_newFunctionEnv B.nocell (by intro y hy;simp at hy) (λh1 D E=>?_) B.kind;have m:∀b∈P,b<a.heap.objs.size:=λb f=>by obtain⟨o,e,_⟩:=T.obj _ _ U b f;exact v9 e
 have Z:(a.heap.push<|cU [] 0).objs.size=a.heap.objs.size+1:=Mx ..;have F:∀b o,(a.heap.push<|cU [] 0).get? b=a7 o->h1.get? b=a7 o:=λb o e=>(E.2 b<|x6<|v9 e).trans<|v5 _ e;have I3:=j.blkStart (tk:=a.toks+([]:List (c7×c6)).length) B d u M m F D;have K:tn 0 h1:=T.keep _ _ _ U λb _ o e=>F b o<|v5 _ e;have S:a.heap.objs.size∉P:=λz=>D5 _<|m _ z;have V:a.heap.objs.size∉J1 X.stack:=λz=>by rcases A0.mp (j.stkSub _ z)with q|q;exact o4 j.lt (by rw[<-q];exact D5 _);exact j.nofs (u7 _) q
 have R:a.heap.objs.size≠(a.heap.push<|cU [] 0).objs.size:=by rw[Z];exact x6<|K0 _
 have ltc:∀z c,cl.lookup z=a7 c->c<a.heap.objs.size:=λz c e=>by obtain⟨v,q⟩:=j.cell z c<|d z c e;exact q.lt
 have t:∀b∈P,b≠(a.heap.push<|cU [] 0).objs.size/\b∉J1 X.stack/\∀x c,cl.lookup x=a7 c->c≠b:=λb f=>by refine⟨by rw[Z];exact x6<|Nq<|m b f,λz=>?_,λx c e=>(M b f).2.2.2.2.1 x c<|d x c e⟩;rcases A0.mp (j.stkSub b z)with q|q;exact(M b f).2.1 q;exact(M b f).2.2.1 q
 have l:k5 (i3 X.prog X.w) X.A (.compLoop (.ListComp C [⟨N,r,n,0⟩] scope G) 0 (.ref it) (.ref a.heap.objs.size)<|compEnvC scope cl (a.heap.push<|cU [] 0).objs.size X.env) (compPost (i3 X.prog X.w) X.A X.xe a8 (EP X i σ Q) (.ref a.heap.objs.size) (a.heap.push<|cU [] 0).objs.size) { a with heap:=h1,toks:=a.toks+([]:List (c7×c6)).length }:=by refine Bw (s0:={ a with heap:=a.heap.push (cU [] 0) }) (H0:=H2) (N':=N') (Q:=Q) hc (hg _ _ _ _) (ht _ _ _ _) (he _ _ _ _) T S L t R V (λx c e=>x6<|ltc x c e) ?_ m0 I3 K (λb f=>(M b f).1) w0;intro τ H' s' vs its k Y rv hl q;obtain⟨mm,hn,_⟩:=id Y.loc;exact⟨mm,hn,λh' sb=>⟨.ref a.heap.objs.size,_,j.blkEnd M Y rv hl sb,rfl,q⟩⟩
 exact codeAny_compStart_list l<|T.self _ 0 _ _ _ K l
section
inductive D where
 |non|bl (b:Bool)|int (i:Int)|str (x:c7)|ty (n:String)|tup (ds:List D)|ref (n:Nat)
inductive MO where
 |lst (xs:List D)
 |fz (xs:List D)
 |kl (xs:List D)
 |dct (kvs:List (c7×D))
 |dkt (kvs:List (D×D))
 |dkq (e:Nat) (kvs:List (D×D))
 |dkm (kvs:List (D×D))
 |fdc (o:d6) (kvs:List (c7×D))
 |tb (x:c7) (b:Bool)
 |exc (x:c7)
noncomputable abbrev t8:=List MO
noncomputable def MO.isL:MO->Bool
 |.dct _=>c5
 |.dkt _=>c5
 |.dkq _ _=>c5
 |.fdc _ _=>c5
 |.dkm _=>c5
 |.tb _ _=>c5
 |.exc _=>c5
 |_=>a9
noncomputable def jx(s:List c7)(v:List V):List (D3×V):=(s.zip v).map λp=>(ABe p.1,p.2)
mutual
inductive t9(K:u4)(ρ:List d5)(H:Hp):D->V->Prop
 |non:t9 K ρ H .non .non
 |bl (b:Bool):t9 K ρ H (.bl b) (.bl b)
 |int (i:Int):t9 K ρ H (.int i) (.int i)
 |str (x:c7):t9 K ρ H (.str x) (.str x)
 |ty (n:String):t9 K ρ H (.ty n) (.ty n)
 |tup {a:d5}{vs:List V}{ds:List D} (h:A2 K H a vs) (r:Reps K ρ H ds vs):t9 K ρ H (.tup ds) (.ref a)
 |ref {n:Nat}{a:d5} (h:ρ[n]?=a7 a):t9 K ρ H (.ref n) (.ref a)
inductive Reps(K:u4)(ρ:List d5)(H:Hp):List D->List V->Prop
 |nil:Reps K ρ H [] []
 |cons {d:D}{v:V}{ds:List D}{vs:List V} (h:t9 K ρ H d v) (t:Reps K ρ H ds vs):Reps K ρ H (d::ds) (v::vs)
end
def KList(K:u4)(a:d5)(x:List V):Prop:=∃(o:d6) (i:Array c6) (n:Nat),K.lookup a=a7 o/\o.cls=.type "list"/\o.dict=a8/\o.data=.seq i n/\i.size<=sizeLine/\aB x i.toList
noncomputable def cS:Nat->D->Bool
 |_,.str _=>a9
 |_,.int _=>a9
 |n+1,.tup d=>d.all<|cS n
 |_,_=>c5
noncomputable def z9(w:c8):Nat->D->Int
 |_,.str x=>hashStr w x
 |_,.int i=>hashInt i
 |n+1,.tup ds=>m5<|OG<|ds.map<|z9 w n
 |_,_=>0
def dX(a:d5)(s:List (D×d5×c6)):c9->c8->d7->Prop:=λ_ w h =>
 ∃(o:d6) (e:Array m6),h.get? a=a7 o/\o.ExactDict/\o.data=.dict e s.length/\e.toList=s.map λx=>⟨z9 w 8 x.1,.ref x.2.1,x.2.2⟩
def dQ(a:d5)(e:Nat)(b:List (D×d5×c6)):c9->c8->d7->Prop:=λ_ w h =>
 ∃(o:d6) (s:Array m6),h.get? a=a7 o/\o.ExactDict/\o.data=.dict s e/\s.toList=b.map λx=>⟨z9 w 8 x.1,.ref x.2.1,x.2.2⟩
noncomputable def keyM:D->Bool
 |.non=>a9
 |.tup k=>cS 8<|.tup k
 |_=>c5
noncomputable def hkM(w:c8):D->Int
 |.non=>m5 0xFCA86420
 |d=>z9 w 8 d
noncomputable def entM(h:D->Int)(x:D×c6×c6):m6:=⟨h x.1,x.2.1,x.2.2⟩
def dM(a:d5)(x:List (D×c6×c6)):c9->c8->d7->Prop:=λ_ w h =>
 ∃(o:d6) (e:Array m6),h.get? a=a7 o/\o.ExactDict/\o.data=.dict e x.length/\e.toList=x.map (entM<|hkM w)
def Qc(K:u4)(ρ:List d5)(H:Hp)(p:D×D)(q:D×c6×c6):Prop:=p.1=q.1/\keyM p.1=a9/\(∃u,t9 K ρ H p.1 u/\aZ u q.2.1)/\∃v,t9 K ρ H p.2 v/\aZ v q.2.2
def yd(K:u4)(ρ:List d5)(H:Hp)(p:D×D)(q:D×d5×c6):Prop:=p.1=q.1/\cS 8 p.1=a9/\t9 K ρ H p.1 (.ref q.2.1)/\∃v,t9 K ρ H p.2 v/\aZ v q.2.2
def excO(a:d5)(C:c6):c9->c8->d7->Prop:=λ_ _ h=>∃o v,h.get? a=a7 o/\o.cls=C/\o.data=.fields v
def zu(K:u4)(ρ:List d5)(H:Hp)(a:d5):MO->Prop
 |.lst d=>∃v,H a=a7 (.lst v)/\Reps K ρ H d v
 |.fz d=>∃o v,H a=a7 (.frz o<|.lst v)/\Reps K ρ H d v
 |.kl d=>∃v,KList K a v/\Reps K ρ H d v
 |.dct k=>∃v,H a=a7 (.dK (jx (k.map (·.1)) v))/\Reps K ρ H (k.map (·.2)) v
 |.dkt k=>k.length<=sizeLine/\(a==d8)=c5/\(k.map (·.1)).Nodup/\∃s,H a=a7 (.ext<|dX a s)/\Paired (yd K ρ H) k s
 |.dkq e k=>k.length<=sizeLine/\(a==d8)=c5/\(k.map (·.1)).Nodup/\∃s,H a=a7 (.ext<|dQ a e s)/\Paired (yd K ρ H) k s
 |.dkm k=>k.length<=sizeLine/\(a==d8)=c5/\(k.map (·.1)).Nodup/\∃s,H a=a7 (.ext<|dM a s)/\Paired (Qc K ρ H) k s
 |.fdc o k=>∃v,H a=a7 (.frz o (.dK (jx (k.map (·.1)) v)))/\Reps K ρ H (k.map (·.2)) v
 |.tb x b=>(∃c,PySem.W.tabIn K x=a7 (c,a)/\∀h:d7,K.In h->PySem.W.CodeHd h c a)/\∃p,H a=a7 (.tbl p)/\(b=c5->p = #[])
 |.exc x=>∃C,PySem.W.nsIn K e8 x=a7 (a7<|.ref C)/\H a=a7 (.ext<|excO a<|.ref C)
def Mi(mo:Option MO):Prop:=∃d,mo=a7 (.kl d)
def aA(M:t8)(n:Nat)(x:List D):Prop:=M[n]?=a7 (.lst x)\/M[n]?=a7 (.fz x)\/M[n]?=a7 (.kl x)
structure u9(K:u4)(ρ:List d5)(M:t8)(H:Hp):Prop where
 nd:∀(n m:Nat) (a:d5),n≠m->ρ[n]?=a7 a->ρ[m]?=a7 a->Mi M[n]?\/Mi M[m]?
 len:ρ.length=M.length
 obj:∀(n:Nat) (a:d5) (mo:MO),ρ[n]?=a7 a->M[n]?=a7 mo->zu K ρ H a mo
structure Grow(K:u4)(ρ:List d5)(H:Hp)(ρ':List d5)(H':Hp):Prop where
 pre:ρ <+: ρ'
 tup:∀a xs,A2 K H a xs->A2 K H' a xs
theorem Grow.refl{K:u4}{ρ:List d5}{H:Hp}:Grow K ρ H ρ H:=⟨NJ,λ_ _ h=>h⟩
theorem Grow.trans{K:u4}{ρ c d:List d5}{H e f:Hp}(a:Grow K ρ H c e)(b:Grow K c e d f):Grow K ρ H d f:=⟨a.pre.trans b.pre,λx s h=>b.tup x s<|a.tup x s h⟩
theorem aK{α:Type}{l l':List α}(h:l <+: l'){n:Nat}{a:α}(e:l[n]?=a7 a):l'[n]?=a7 a:=by obtain⟨t,rfl⟩:=h;rw[J0 (x9.mp e).1];exact e
theorem t9.grow{K:u4}{ρ a:List d5}{H H':Hp}(g:Grow K ρ H a H'){d:D}{v:V}(h:t9 K ρ H d v):t9 K a H' d v:=t9.rec (motive_1:=λd v _=>t9 K a H' d v) (motive_2:=λs b _=>Reps K a H' s b) .non .bl .int .str .ty (λh _ r=>.tup (g.tup _ _ h) r) (λh=>.ref<|aK g.pre h) .nil (λ_ _ h t=>.cons h t) h
theorem Reps.grow{K:u4}{ρ a:List d5}{H H':Hp}(g:Grow K ρ H a H'){s:List D}{b:List V}(h:Reps K ρ H s b):Reps K a H' s b:=Reps.rec (motive_1:=λd v _=>t9 K a H' d v) (motive_2:=λs b _=>Reps K a H' s b) .non .bl .int .str .ty (λh _ r=>.tup (g.tup _ _ h) r) (λh=>.ref<|aK g.pre h) .nil (λ_ _ h t=>.cons h t) h
section
variable{K:u4}{ρ ρ':List d5}{H H':Hp}{M:t8}
theorem Reps.length(h:Reps K ρ H d v):d.length=v.length:=Reps.rec (motive_1:=λ_ _ _=>True) (motive_2:=λd v _=>d.length=v.length) trivial (λ_=>trivial) (λ_=>trivial) (λ_=>trivial) (λ_=>trivial) (λ_ _ _=>trivial) (λ_=>trivial) rfl (λ_ _ _ t=>p6 Nat.succ t) h
theorem Reps.append(h:Reps K ρ H d vs)(s:Reps K ρ H e w):Reps K ρ H (d++e) (vs++w):=Reps.rec (motive_1:=λ_ _ _=>True) (motive_2:=λd vs _=>Reps K ρ H (d++e)<|vs++w) trivial (λ_=>trivial) (λ_=>trivial) (λ_=>trivial) (λ_=>trivial) (λ_ _ _=>trivial) (λ_=>trivial) s (λh _ _ t=>.cons h t) h
theorem Reps.get:∀{s:List D}{a:List V}{i:Nat}{d:D},Reps K ρ H s a->s[i]?=a7 d->∃v,a[i]?=a7 v/\t9 K ρ H d v
 |_,_,_,_,.nil,e=>by simp at e
 |_,_,0,_,.cons r _,e=>by simp at e;subst e;exact⟨_,rfl,r⟩
 |_,_,i+1,d,.cons _ t,e=>by obtain⟨v,h1,h2⟩:=Reps.get (i:=i) (d:=d) t (by simpa using e);exact⟨v,by simpa using h1,h2⟩
theorem Reps.getV:∀{s:List D}{a:List V}{i:Nat}{v:V},Reps K ρ H s a->a[i]?=a7 v->∃d,s[i]?=a7 d/\t9 K ρ H d v
 |_,_,_,_,.nil,e=>by simp at e
 |_,_,0,_,.cons r _,e=>by simp at e;subst e;exact⟨_,rfl,r⟩
 |_,_,i+1,d,.cons _ t,e=>by obtain⟨v,h1,h2⟩:=Reps.getV (i:=i) (v:=d) t (by simpa using e);exact⟨v,by simpa using h1,h2⟩
theorem Reps.take:∀{d:List D}{v:List V} (n:Nat),Reps K ρ H d v->Reps K ρ H (d.take n) (v.take n)
 |_,_,0,_=>by simpa using .nil
 |_,_,_+1,.nil=>.nil
 |_,_,n+1,.cons r t=>.cons r<|Reps.take n t
theorem Reps.drop:∀{d:List D}{v:List V} (n:Nat),Reps K ρ H d v->Reps K ρ H (d.drop n) (v.drop n)
 |_,_,0,r=>r
 |_,_,_+1,.nil=>.nil
 |_,_,n+1,.cons _ t=>Reps.drop n t
theorem A2.laid(b:H p=a8)(h:A2 K H a x):A2 K (v7 H p o) a x:=by
 rcases h with h|h;rcases h with h|⟨c,h⟩
 exact .inl (.inl<|by rw[ao<|ae h b];exact h);exact .inl<|.inr ⟨c,by rw[ao<|ae h b];exact h⟩;exact .inr h
theorem A2.written(b:H p=a7 (.lst v))(h:A2 K H a x):A2 K (v7 H p o) a x:=by
 rcases h with h|h;rcases h with h|⟨c,h⟩
 exact .inl (.inl<|by rw[ao<|yD h b<|by intro z;cases z];exact h);exact .inl<|.inr ⟨c,by rw[ao<|yD h b<|by intro z;cases z];exact h⟩;exact .inr h
theorem Grow.laid(a:H p=a8):Grow K ρ H ρ (v7 H p o):=⟨NJ,λ_ _ h=>A2.laid a h⟩
theorem Grow.laidR(a:H p=a8):Grow K ρ H (ρ++[p]) (v7 H p o):=⟨G3 _ _,λ_ _ h=>A2.laid a h⟩
theorem u9.tracked(S:u9 K ρ M H){n:Nat}{a:d5}(e:ρ[n]?=a7 a):(∃o,H a=a7 o)\/Mi M[n]?:=by
 have f:n<M.length:=by rw[<-S.len];exact(x9.mp e).1
 have d:M[n]?=a7 M[n]:=w9 f;have h:=S.obj n a _ e d;rw[d];cases c:M[n] with
 |lst g=>rw[c]at h;obtain⟨v,h,_⟩:=h;exact .inl ⟨_,h⟩
 |fz g=>rw[c]at h;obtain⟨o,v,h,_⟩:=h;exact .inl ⟨_,h⟩
 |kl g=>exact .inr ⟨g,rfl⟩
 |dct s=>rw[c]at h;obtain⟨v,h,_⟩:=h;exact .inl ⟨_,h⟩
 |dkt s=>rw[c]at h;obtain⟨_,_,_,i,h,_⟩:=h;exact .inl ⟨_,h⟩
 |dkq _ s=>rw[c]at h;obtain⟨_,_,_,i,h,_⟩:=h;exact .inl ⟨_,h⟩
 |fdc o s=>rw[c]at h;obtain⟨v,h,_⟩:=h;exact .inl ⟨_,h⟩
 |dkm s=>rw[c]at h;obtain⟨_,_,_,i,h,_⟩:=h;exact .inl ⟨_,h⟩
 |tb x b=>rw[c]at h;obtain⟨_,p,h,_⟩:=h;exact .inl ⟨_,h⟩
 |exc x=>rw[c]at h;obtain⟨_,_,h⟩:=h;exact .inl ⟨_,h⟩
theorem zu.grow(g:Grow K ρ H ρ' H')(n:H' a=H a\/Mi (a7 mo))(h:zu K ρ H a mo):zu K ρ' H' a mo:=by
 cases mo with
 |lst w =>
  obtain⟨p,e,r⟩:=h;rcases n with n|⟨_,z⟩
  exact⟨p,by rw[n];exact e,r.grow g⟩;cases z
 |fz w =>
  obtain⟨o,p,e,r⟩:=h;rcases n with n|⟨_,z⟩
  exact⟨o,p,by rw[n];exact e,r.grow g⟩;cases z
 |fdc o s =>
  obtain⟨p,e,r⟩:=h;rcases n with n|⟨_,z⟩
  exact⟨p,by rw[n];exact e,r.grow g⟩;cases z
 |tb x b =>
  obtain⟨c,y,e,q⟩:=h;rcases n with n|⟨_,z⟩
  exact⟨c,y,by rw[n];exact e,q⟩;cases z
 |exc x =>
  obtain⟨C,e,q⟩:=h;rcases n with n|⟨_,z⟩
  exact⟨C,e,by rw[n];exact q⟩;cases z
 |kl w=>obtain⟨p,e,r⟩:=h;exact⟨p,e,r.grow g⟩
 |dkm s =>
  obtain⟨h1,h2,d,t,e,r⟩:=h;rcases n with n|⟨_,z⟩
  exact⟨h1,h2,d,t,by rw[n];exact e,Paired.mapP r λ_ _ ⟨f,j,⟨u,k,m⟩,v,i,l⟩=>⟨f,j,⟨u,k.grow g,m⟩,v,i.grow g,l⟩⟩;cases z
 |dct s =>
  obtain⟨p,e,r⟩:=h;rcases n with n|⟨_,z⟩
  exact⟨p,by rw[n];exact e,r.grow g⟩;cases z
 |dkt s =>
  obtain⟨h1,h2,d,t,e,r⟩:=h;rcases n with n|⟨_,z⟩
  exact⟨h1,h2,d,t,by rw[n];exact e,Paired.mapP r λ_ _ ⟨f,j,k,v,i,l⟩=>⟨f,j,k.grow g,v,i.grow g,l⟩⟩;cases z
 |dkq _ s =>
  obtain⟨h1,h2,d,t,e,r⟩:=h;rcases n with n|⟨_,z⟩
  exact⟨h1,h2,d,t,by rw[n];exact e,Paired.mapP r λ_ _ ⟨f,j,k,v,i,l⟩=>⟨f,j,k.grow g,v,i.grow g,l⟩⟩;cases z
theorem u9.keeps{p:d5}{o:HO}(S:u9 K ρ M H)(h:H p=a8){n:Nat}{a:d5}{mo:MO}(t:ρ[n]?=a7 a)(l:M[n]?=a7 mo):v7 H p o a=H a\/Mi (a7 mo):=by rcases S.tracked t with⟨c,b⟩|q;exact .inl<|ao<|ae b h;rw[l]at q;exact .inr q
theorem u9.laid{p:d5}{o:HO}(S:u9 K ρ M H)(h:H p=a8):u9 K ρ M (v7 H p o):=⟨S.nd,S.len,λn a m t l=>(S.obj n a m t l).grow (Grow.laid h)<|S.keeps h t l⟩
theorem bg{α:Type}{l:List α}{x y:α}{n:Nat}(h:(l++[x])[n]?=a7 y):l[n]?=a7 y\/(n=l.length/\y=x):=by
 by_cases f:n<l.length;rw[J0 f]at h;exact .inl h;have a:n=l.length:=by have:=(x9.mp h).1;rw[A3,K2]at this;lia
 subst a;rw[MB<|u7 _,NU]at h;simp at h;exact .inr ⟨rfl,h.symm⟩
theorem Mi.more{mo:MO}{n:Nat}(h:Mi M[n]?):Mi (M++[mo])[n]?:=by obtain⟨d,e⟩:=h;exact⟨d,by rw[J0 (x9.mp e).1];exact e⟩
theorem u9.laidL{p:d5}{s:List D}{v:List V}(S:u9 K ρ M H)(c:H p=a8)(r:Reps K ρ H s v):u9 K (ρ++[p]) (M++[.lst s]) (v7 H p<|.lst v):=by
 have g:Grow K ρ H (ρ++[p]) (v7 H p<|.lst v):=Grow.laidR c;have d:∀(n:Nat),ρ[n]?=a7 p->Mi M[n]?:=λn e=>by rcases S.tracked e with⟨o,q⟩|q;rw[c]at q;cases q;exact q
 refine⟨λn m a h t l=>?_,by rw[A3,A3,S.len];rfl,λn a k t l=>?_⟩;rcases bg t with f|⟨f,g1⟩
 rcases bg l with b|⟨b,i⟩
 exact(S.nd n m a h f b).elim (λz=>.inl z.more) λz=>.inr z.more;subst i;exact .inl (d n f).more;rcases bg l with b|⟨b,i⟩
 subst g1;exact .inr (d m b).more;exact o4 (f.trans b.symm) h;rcases bg t with f|⟨f,g1⟩
 have j:n<M.length:=by rw[<-S.len];exact(x9.mp f).1
 rw[J0 j]at l;exact(S.obj n a k f l).grow g<|S.keeps c f l;subst g1 f;rw[S.len,MB<|u7 _,NU]at l;simp at l;subst l;exact⟨v,aR,r.grow g⟩
theorem u9.last(S:u9 K ρ M H):(ρ++[p])[M.length]?=a7 p:=by rw[<-S.len,MB<|u7 _,NU];rfl
theorem u9.write(S:u9 K ρ M H)(t:ρ[n]?=a7 a)(u:M[n]?=a7 (.lst v))(s:H a=a7 (.lst w))(r:Reps K ρ H ds' vs'):u9 K ρ (M.set n<|.lst ds') (v7 H a<|.lst vs')/\Grow K ρ H ρ (v7 H a<|.lst vs'):=by
 have g:Grow K ρ H ρ (v7 H a<|.lst vs'):=⟨NJ,λ_ _ h=>A2.written s h⟩
 have k:∀m,m≠n->(M.set n<|.lst ds')[m]?=M[m]?:=λm e=>MX<|B8 e;have c:¬Mi M[n]?:=λ⟨_,z⟩=>by rw[u]at z;cases z
 refine⟨⟨λm l b i d f=>?_,by rw[J7];exact S.len,λm b o d f=>?_⟩,g⟩;have q:=S.nd m l b i d f;by_cases h1:m=n;subst h1;rw[k l<|B8 i];exact .inr<|q.resolve_left c;rw[k m h1];by_cases h2:l=n;subst h2;exact .inl<|q.resolve_right c;rw[k l h2];exact q;by_cases e:m=n;subst e;have j:b=a:=A8<|d.symm.trans t;subst j;rw[MA<|by rw[<-S.len];exact(x9.mp t).1]at f;cases f;exact⟨vs',aR,r.grow g⟩;rw[k m e]at f;by_cases j:b=a;subst j;have q:=S.nd m n b e d t;have p:=q.resolve_right c;rw[f]at p;exact(S.obj m b o d f).grow g<|.inr p;exact(S.obj m b o d f).grow g<|.inl<|ao j
theorem aA.seq(S:u9 K ρ M H)(h:aA M n x)(e:ρ[n]?=a7 a):∃v,K4 K H a v/\Reps K ρ H x v:=by rcases h with h|h|h;obtain⟨v,q,r⟩:=S.obj n a _ e h;exact⟨v,.inl<|.inl q,r⟩;obtain⟨o,v,q,r⟩:=S.obj n a _ e h;exact⟨v,.inl<|.inr ⟨o,q⟩,r⟩;obtain⟨v,q,r⟩:=S.obj n a _ e h;exact⟨v,.inr q,r⟩
theorem u9.get(S:u9 K ρ M H){n:Nat}{mo:MO}(e:M[n]?=a7 mo):∃a,ρ[n]?=a7 a/\zu K ρ H a mo:=by
 have f:n<ρ.length:=by rw[S.len];exact(x9.mp e).1
 exact⟨ρ[n],w9 f,S.obj n _ mo (w9 f) e⟩
end
noncomputable abbrev SD:=List<|Option D
structure SRep(K:u4)(ρ:List d5)(H:Hp)(S:SD)(σ:St):Prop where
 len:S.length=σ.length
 get:∀(i:Nat) (d:D),S[i]?=a7 (a7 d)->∃v,σ[i]?=a7 (a7 v)/\t9 K ρ H d v
theorem SRep.grow{K:u4}{ρ a:List d5}{H H':Hp}{S:SD}{σ:St}(r:SRep K ρ H S σ)(g:Grow K ρ H a H'):SRep K a H' S σ:=⟨r.len,λi d e=>let ⟨v,h1,h2⟩:=r.get i d e;⟨v,h1,h2.grow g⟩⟩
theorem SRep.set{K:u4}{ρ:List d5}{H:Hp}{S:SD}{σ:St}(r:SRep K ρ H S σ)(i:Nat){d:D}{v:V}(h:t9 K ρ H d v):SRep K ρ H (S.set i<|a7 d) (σ.set i<|a7 v):=by refine⟨by rw[J7,J7];exact r.len,λj e L=>?_⟩;by_cases a:i=j;subst a;by_cases g:i<S.length;rw[MA g]at L;cases L;exact⟨v,by rw[MA<|by rw[<-r.len];exact g],h⟩;rw[Nw<|by rw[J7];lia]at L;cases L;rw[MX a]at L;rw[MX a];exact r.get j e L
abbrev DK:=D->t8->Prop
abbrev v8:=SD->t8->DK->Prop
abbrev F7:=SD->t8->(Bool->t8->Prop)->Prop
abbrev H9:=SD->t8->(List D->t8->Prop)->Prop
structure DEnds where
 nx:SD->t8->Prop
 rt:DK
 bk:SD->t8->Prop:=λ_ _=>False
 ct:SD->t8->Prop:=λ_ _=>False
abbrev s9:=DEnds->SD->t8->Prop
abbrev L9:=D->SD->t8->(SD->t8->Prop)->Prop
abbrev IV:=List D->SD->t8->(SD->t8->Prop)->Prop
abbrev D9:=D->D->t8->DK->Prop
abbrev Pm:=D->t8->DK->Prop
abbrev D1:=List D->t8->DK->Prop
section
variable(K:u4)
inductive VQ(ρ:List d5)(H:Hp)(Q:DK)(v:V)(H':Hp):Prop
 |mk (d:D) (M':t8) (ρ':List d5) (s:u9 K ρ' M' H') (g:Grow K ρ H ρ' H') (r:t9 K ρ' H' d v) (q:Q d M')
inductive BQ(ρ:List d5)(H:Hp)(Q:Bool->t8->Prop)(b:Bool)(H':Hp):Prop
 |mk (M':t8) (ρ':List d5) (s:u9 K ρ' M' H') (g:Grow K ρ H ρ' H') (q:Q b M')
inductive AQ(ρ:List d5)(H:Hp)(Q:List D->t8->Prop)(vs:List V)(H':Hp):Prop
 |mk (ds:List D) (M':t8) (ρ':List d5) (s:u9 K ρ' M' H') (g:Grow K ρ H ρ' H') (r:Reps K ρ' H' ds vs) (q:Q ds M')
inductive SQ(ρ:List d5)(H:Hp)(Q:SD->t8->Prop)(σ':St)(H':Hp):Prop
 |mk (S':SD) (M':t8) (ρ':List d5) (s:u9 K ρ' M' H') (g:Grow K ρ H ρ' H') (r:SRep K ρ' H' S' σ') (q:Q S' M')
structure Pf(ρ:List d5)(H:Hp)(F:DEnds)(E:Ends):Prop where
 nx:∀σ' H',SQ K ρ H F.nx σ' H'->E.nx σ' H'
 rt:∀v H',VQ K ρ H F.rt v H'->E.rt v H'
 bk:∀σ' H',SQ K ρ H F.bk σ' H'->E.bk σ' H'
 ct:∀σ' H',SQ K ρ H F.ct σ' H'->E.ct σ' H'
inductive lowE(t:v8)(σ:St)(H:Hp)(R:VK):Prop
 |mk (S:SD) (M:t8) (ρ:List d5) (Q:DK) (s:u9 K ρ M H) (sr:SRep K ρ H S σ) (q:t S M Q) (k:∀v H',VQ K ρ H Q v H'->R v H')
inductive lowT(t:F7)(σ:St)(H:Hp)(R:Bool->Hp->Prop):Prop
 |mk (S:SD) (M:t8) (ρ:List d5) (Q:Bool->t8->Prop) (s:u9 K ρ M H) (sr:SRep K ρ H S σ) (q:t S M Q) (k:∀v H',BQ K ρ H Q v H'->R v H')
inductive lowA(t:H9)(σ:St)(H:Hp)(R:List V->Hp->Prop):Prop
 |mk (S:SD) (M:t8) (ρ:List d5) (Q:List D->t8->Prop) (s:u9 K ρ M H) (sr:SRep K ρ H S σ) (q:t S M Q) (k:∀v H',AQ K ρ H Q v H'->R v H')
inductive lowS(t:s9)(E:Ends)(σ:St)(H:Hp):Prop
 |mk (S:SD) (M:t8) (ρ:List d5) (F:DEnds) (s:u9 K ρ M H) (sr:SRep K ρ H S σ) (q:t F S M) (k:Pf K ρ H F E)
inductive lowG(g:L9)(v:V)(σ:St)(H:Hp)(R:St->Hp->Prop):Prop
 |mk (d:D) (S:SD) (M:t8) (ρ:List d5) (Q:SD->t8->Prop) (s:u9 K ρ M H) (sr:SRep K ρ H S σ) (r:t9 K ρ H d v) (q:g d S M Q) (k:∀σ' H',SQ K ρ H Q σ' H'->R σ' H')
inductive lowGs(g:IV)(vs:List V)(σ:St)(H:Hp)(R:St->Hp->Prop):Prop
 |mk (ds:List D) (S:SD) (M:t8) (ρ:List d5) (Q:SD->t8->Prop) (s:u9 K ρ M H) (sr:SRep K ρ H S σ) (r:Reps K ρ H ds vs) (q:g ds S M Q) (k:∀σ' H',SQ K ρ H Q σ' H'->R σ' H')
inductive lowR(r:D9)(vx vy:V)(H:Hp)(R:VK):Prop
 |mk (x y:D) (M:t8) (ρ:List d5) (Q:DK) (s:u9 K ρ M H) (r1:t9 K ρ H x vx) (r2:t9 K ρ H y vy) (q:r x y M Q) (k:∀v H',VQ K ρ H Q v H'->R v H')
inductive lowU(r:Pm)(vx:V)(H:Hp)(R:VK):Prop
 |mk (x:D) (M:t8) (ρ:List d5) (Q:DK) (s:u9 K ρ M H) (r1:t9 K ρ H x vx) (q:r x M Q) (k:∀v H',VQ K ρ H Q v H'->R v H')
inductive lowC(r:D1)(vs:List V)(H:Hp)(R:VK):Prop
 |mk (ds:List D) (M:t8) (ρ:List d5) (Q:DK) (s:u9 K ρ M H) (r1:Reps K ρ H ds vs) (q:r ds M Q) (k:∀v H',VQ K ρ H Q v H'->R v H')
end
def DE(X:Cx)(e:h8)(t:v8):Prop:=PE X e<|lowE X.K t
def DT(X:Cx)(e:h8)(t:F7):Prop:=PT X e<|lowT X.K t
def DW(X:Cx)(e:h8)(t:F7):Prop:=PW X e<|lowT X.K t
def DA(X:Cx)(e:List h8)(t:H9):Prop:=PA X e<|lowA X.K t
def DS(X:Cx)(st:i6)(t:s9):Prop:=PS X st<|lowS X.K t
def MZ(X:Cx)(st:List i6)(t:s9):Prop:=J3 X st<|lowS X.K t
def DG(X:Cx)(t:h8)(g:L9):Prop:=PG X t<|lowG X.K g
def Po(X:Cx)(t:List h8)(g:IV):Prop:=Pi X t<|lowGs X.K g
def E3(X:Cx)(f:c6->c6->Sem c6)(r:D9):Prop:=C7 X f<|lowR X.K r
def Q8(X:Cx)(f:c6->Sem c6)(r:Pm):Prop:=Qa X f<|lowU X.K r
def lq(X:Cx)(f:c6)(r:D1):Prop:=jw X f<|lowC X.K r
section
variable{K:u4}{ρ ρ1:List d5}{H H1:Hp}
theorem VQ.trans(g:Grow K ρ H ρ1 H1)(h:VQ K ρ1 H1 Q v H'):VQ K ρ H Q v H':=by obtain⟨d,M,a,s,b,r,q⟩:=h;exact⟨d,M,a,s,g.trans b,r,q⟩
theorem BQ.trans(g:Grow K ρ H ρ1 H1)(h:BQ K ρ1 H1 Q v H'):BQ K ρ H Q v H':=by obtain⟨M,a,s,b,q⟩:=h;exact⟨M,a,s,g.trans b,q⟩
theorem SQ.trans(g:Grow K ρ H ρ1 H1)(h:SQ K ρ1 H1 Q v H'):SQ K ρ H Q v H':=by obtain⟨d,M,a,s,b,r,q⟩:=h;exact⟨d,M,a,s,g.trans b,r,q⟩
theorem Pf.trans(g:Grow K ρ H ρ1 H1)(h:Pf K ρ H F E):Pf K ρ1 H1 F E:=⟨λa H' q=>h.nx a H'<|SQ.trans g q,λv H' q=>h.rt v H'<|VQ.trans g q,λa H' q=>h.bk a H'<|SQ.trans g q,λa H' q=>h.ct a H'<|SQ.trans g q⟩
theorem VQ.now(s:u9 K ρ M H)(r:t9 K ρ H d v)(q:Q d M):VQ K ρ H Q v H:=⟨d,M,ρ,s,.refl,r,q⟩
end
section
variable{K:u4}{ρ:List d5}{H:Hp}{v:V}{vs:List V}
theorem t9.inv_non(h:t9 K ρ H .non v):v=.non:=by cases h;rfl
theorem t9.inv_bl(h:t9 K ρ H (.bl b) v):v=.bl b:=by cases h;rfl
theorem t9.inv_int(h:t9 K ρ H (.int i) v):v=.int i:=by cases h;rfl
theorem t9.inv_str(h:t9 K ρ H (.str x) v):v=.str x:=by cases h;rfl
theorem t9.inv_ty(h:t9 K ρ H (.ty n) v):v=.ty n:=by cases h;rfl
theorem t9.inv_tup(h:t9 K ρ H (.tup d) v):∃a vs,v=.ref a/\A2 K H a vs/\Reps K ρ H d vs:=by cases h with|tup h r=>exact⟨_,_,rfl,h,r⟩
theorem t9.inv_ref(h:t9 K ρ H (.ref n) v):∃a,v=.ref a/\ρ[n]?=a7 a:=by cases h with|ref h=>exact⟨_,rfl,h⟩
theorem aB.inv_cons(h:aB (x::vs) s):∃u w,s=u::w/\aZ x u/\aB vs w:=by cases h with|cons h t=>exact⟨_,_,rfl,h,t⟩
theorem aB.inv_nil(h:aB [] u):u=[]:=by cases h;rfl
theorem Reps.inv_nil(h:Reps K ρ H [] vs):vs=[]:=by cases h;rfl
theorem Reps.inv_cons(h:Reps K ρ H (d::s) vs):∃v w,vs=v::w/\t9 K ρ H d v/\Reps K ρ H s w:=by cases h with|cons h t=>exact⟨_,_,rfl,h,t⟩
end
end
theorem PE.imp(h:PE X e t')(i:∀σ H R,t σ H R->t' σ H R):PE X e t:=λp s σ H R I q=>h p s σ H R I<|i σ H R q
theorem PT.imp(h:PT X e t')(i:∀σ H R,t σ H R->t' σ H R):PT X e t:=λp s σ H R I q=>h p s σ H R I<|i σ H R q
theorem PW.imp(h:PW X e t')(i:∀σ H R,t σ H R->t' σ H R):PW X e t:=λw p s σ H R I q=>h w p s σ H R I<|i σ H R q
theorem PA.imp(h:PA X e t')(i:∀σ H R,t σ H R->t' σ H R):PA X e t:=λa p s σ H R I q=>h a p s σ H R I<|i σ H R q
theorem PS.imp(h:PS X e t')(i:∀E σ H,t E σ H->t' E σ H):PS X e t:=λp s σ H R I q=>h p s σ H R I<|i R σ H q
theorem J3.imp(h:J3 X e t')(i:∀E σ H,t E σ H->t' E σ H):J3 X e t:=λp s σ H R I q=>h p s σ H R I<|i R σ H q
theorem C7.imp(h:C7 X f r')(i:∀x y H R,r x y H R->r' x y H R):C7 X f r:=λp s σ H x y v u R I a b q=>h p s σ H x y v u R I a b<|i x y H R q
theorem jw.imp(h:jw X f r')(i:∀x H R,r x H R->r' x H R):jw X f r:=λp s σ H x u R I a q=>h p s σ H x u R I a<|i x H R q
section
variable{X:Cx}{a b c:h8}{ta tb tc:v8}{pos:Pos}
def ab(i:Nat):v8:=λS M Q=>match S[i]? with
 |some (a7 d)=>Q d M
 |_=>False
def dC(d:D):v8:=λ_ M Q=>Q d M
theorem DZ{K:u4}{i:Nat}(σ:St)(H:Hp)(R:VK)(h:lowE K (ab i) σ H R):tVar i σ H R:=by
 obtain⟨S,M,ρ,Q,s,r,q,k⟩:=h;unfold ab at q;cases e:S[i]? with
 |none=>rw[e]at q;exact q.elim
 |some o =>
  cases o with
  |none=>rw[e]at q;exact q.elim
  |some d=>rw[e]at q;obtain⟨v,c,a⟩:=r.get i d e;exact⟨v,c,k v H<|VQ.now s a q⟩
theorem d_var(h:X.N[i]?=a7 x:=by rfl)(c:Oa X.env.scope x:=by first|exact Or.inl rfl|exact Or.inr (Or.inl rfl)|exact Or.inr<|Or.inr rfl)(a:(x==("__debug__":c7))=c5:=by decide)(d:(x==("__classdict__":c7))=c5:=by decide):DE X (.Name x pos) (ab i):=PE.imp (Fx h c a d) DZ
noncomputable def cV:D->Option V
 |.non=>a7 .non
 |.bl b=>a7<|.bl b
 |.int i=>a7<|.int i
 |.str x=>a7<|.str x
 |.ty n=>a7<|.ty n
 |_=>a8
theorem Ct{K:u4}{ρ:List d5}{H:Hp}{d:D}{v:V}(h:cV d=a7 v):t9 K ρ H d v:=by
 cases d with
 |non=>cases h;exact .non
 |bl b=>cases h;exact .bl b
 |int b=>cases h;exact .int b
 |str b=>cases h;exact .str b
 |ty b=>cases h;exact .ty b
 |tup b=>cases h
 |ref b=>cases h
theorem xE{K:u4}{d:D}{v:V}(a:cV d=a7 v)(σ:St)(H:Hp)(R:VK)(h:lowE K (dC d) σ H R):tC v σ H R:=by obtain⟨S,M,ρ,Q,s,r,q,k⟩:=h;exact k v H<|VQ.now s (Ct a) q
theorem d_int{i:Int}{j:Nat}:DE X (.Constant (.int i) j pos) (dC<|.int i):=PE.imp JZ<|xE rfl
theorem d_bl{i:Bool}{j:Nat}:DE X (.Constant (.bool i) j pos) (dC<|.bl i):=PE.imp pe_bl<|xE rfl
theorem d_non{j:Nat}:DE X (.Constant .none j pos) (dC .non):=PE.imp JX<|xE rfl
theorem d_str{i:c7}{j:Nat}:DE X (.Constant (.str i) j pos) (dC<|.str i):=PE.imp JU<|xE rfl
theorem low2{K:u4}{S:SD}{M:t8}{ρ:List d5}{σ:St}{H:Hp}{P:D->D->t8->Prop}{G:V->V->Hp->Prop}(s:u9 K ρ M H)(r:SRep K ρ H S σ)(h:ta S M λx M1=>tb S M1 λy M2=>P x y M2)(k:∀x y vx vy M2 ρ2 H2,u9 K ρ2 M2 H2->Grow K ρ H ρ2 H2->t9 K ρ2 H2 x vx->t9 K ρ2 H2 y vy->P x y M2->G vx vy H2):lowE K ta σ H λvx H1=>lowE K tb σ H1 λvy H2=>G vx vy H2:=by refine⟨S,M,ρ,_,s,r,h,?_⟩;rintro vx H1 ⟨x,M1,c,f,g1,a,q⟩;refine⟨S,M1,c,_,f,r.grow g1,q,?_⟩;rintro vy H2 ⟨y,M2,ρ2,w,i,m,j⟩;exact k x y vx vy M2 ρ2 H2 w (g1.trans i) (a.grow i) m j
def p9(r:D9)(t c:v8):v8:=λS M Q=>t S M λx a=>c S a λy b=>r x y b Q
theorem qH{K:u4}{r:D9}(σ:St)(H:Hp)(R:VK)(h:lowE K (p9 r ta tb) σ H R):O6 (lowR K r) (lowE K ta) (lowE K tb) σ H R:=by obtain⟨S,M,ρ,Q,s,e,q,k⟩:=h;exact low2 s e q λx y g l b d f c i a m j=>⟨x,y,b,d,Q,c,a,m,j,λv H' w=>k v H'<|VQ.trans i w⟩
theorem d_op(B:E3 X (j6 op) r)(f:DE X a ta)(d:DE X b tb):DE X (.BinOp a op b pos) (p9 r ta tb):=PE.imp (pe_op B f d) qH
theorem d_cmp(B:E3 X (j7 op) r)(f:DE X a ta)(d:DE X b tb)(m:j8 op b=c5:=by with_unfolding_all rfl):DE X (.Compare a [op] [b] pos) (p9 r ta tb):=PE.imp (GH B f d m) qH
def ap(t:v8):F7:=λS M Q=>t S M λx a=>match x with
 |.bl b=>Q b a
 |_=>False
theorem tL{K:u4}{t:v8}(σ:St)(H:Hp)(R:Bool->Hp->Prop)(h:lowT K (ap t) σ H R):Jt (lowE K t) σ H R:=by
 obtain⟨S,M,ρ,Q,s,e,q,k⟩:=h;refine⟨S,M,ρ,_,s,e,q,?_⟩;rintro v H' ⟨d,c,a,s',g,r',j⟩;cases r' with
 |bl b=>exact⟨b,rfl,k b H' ⟨c,a,s',g,j⟩⟩
 |_=>exact j.elim
theorem LF(B:E3 X (j7 op) r)(f:DE X a ta)(d:DE X b tb)(m:j8 op b=c5:=by with_unfolding_all rfl):DT X (.Compare a [op] [b] pos) (ap<|p9 r ta tb):=by refine PT.imp (Gy B f d m) λσ H R h=>?_;obtain⟨S,M,ρ,Q,s,e,q,k⟩:=tL σ H R h;exact qH σ H _ ⟨S,M,ρ,Q,s,e,q,k⟩
theorem LB(h:DE X e t)(i:∀whole,isTrue e X.env whole=(do let v <-whole;standAt e.pos;i7 [v] (truthy v)):=by intro _;rfl):DT X e (ap t):=PT.imp (JL h i) tL
def P9(z:D)(k:Bool->Prop):Prop:=match z with
 |.bl b=>k b
 |_=>False
theorem Fy{b:Bool}{k:Bool->Prop}:P9 (.bl b) k=k b:=rfl
def ux(r r':D9)(t e f:v8):v8:=λS M Q=>t S M λx a=>e S a λy c=>r x y c λz M3=>P9 z λb=>if b=a9 then f S M3 λw d=>r' y w d Q else Q (.bl c5) M3
theorem yJ{K:u4}{r r':D9}(σ:St)(H:Hp)(R:VK)(h:lowE K (ux r r' ta tb tc) σ H R):Fv (lowR K r) (lowR K r') (lowE K ta) (lowE K tb) (lowE K tc) σ H R:=by
 obtain⟨S,M,ρ,Q,s,j,q,k⟩:=h;refine low2 s j q λx y I J n d E B i t m p=>⟨x,y,n,d,_,B,t,m,p,?_⟩
 rintro L l ⟨z,M3,a,f,g3,D,c⟩;cases D with
 |bl b =>
  cases b with
  |false=>exact⟨c5,rfl,bh<|k _ l ⟨_,M3,a,f,i.trans g3,.bl c5,(show Q (.bl c5) M3 from c)⟩⟩
  |true=>refine⟨a9,rfl,bj ⟨S,M3,a,_,f,j.grow<|i.trans g3,(show tc S M3 _ from c),?_⟩⟩;rintro G F ⟨w,o,e,C,g,A,u⟩;exact⟨y,w,o,e,Q,C,m.grow<|g3.trans g,A,u,λv H' Y=>k v H'<|VQ.trans ((i.trans g3).trans g) Y⟩
 |_=>exact c.elim
theorem IG(B:E3 X (j7 op) r)(h:E3 X (j7 op') r')(f:DE X a ta)(d:DE X b tb)(e:DE X c tc)(m:lastMarks [op,op'] [b,c]=c5:=by with_unfolding_all rfl):DE X (.Compare a [op,op'] [b,c] pos) (ux r r' ta tb tc):=PE.imp (Du B h f d e m) yJ
variable{tA tB:F7}{be:List h8}
def rj(t u:F7):F7:=λS M Q=>t S M λb a=>if b=a9 then u S a Q else Q c5 a
def ML(t u:F7):F7:=λS M Q=>t S M λb a=>if b=a9 then Q a9 a else u S a Q
def EV(t:F7):F7:=λS M Q=>t S M λb a=>Q (!b) a
theorem Im(f:DT X a tA):DW X (.BoolOp .And [a] pos) tA:=Gv f
theorem Lz(f:DT X a tA):DW X (.BoolOp .Or [a] pos) tA:=JJ f
theorem LA(i:DT X a tA)(j:DW X (.BoolOp .And (b::be) pos) tB):DW X (.BoolOp .And (a::b::be) pos) (rj tA tB):=by
 refine PW.imp (JK i j) ?_;rintro σ H R ⟨S,M,ρ,Q,s,r,q,k⟩;refine⟨S,M,ρ,_,s,r,q,?_⟩;rintro c h ⟨e,d,g,g1,f⟩;cases c with
 |true=>exact bj ⟨S,e,d,Q,g,r.grow g1,(show tB S e Q from f),λv H' w=>k v H'<|BQ.trans g1 w⟩
 |false=>exact bh<|k c5 h ⟨e,d,g,g1,f⟩
theorem dw_or(i:DT X a tA)(j:DW X (.BoolOp .Or (b::be) pos) tB):DW X (.BoolOp .Or (a::b::be) pos) (ML tA tB):=by
 refine PW.imp (pw_or i j) ?_;rintro σ H R ⟨S,M,ρ,Q,s,r,q,k⟩;refine⟨S,M,ρ,_,s,r,q,?_⟩;rintro c h ⟨e,d,g,g1,f⟩;cases c with
 |false=>exact bh ⟨S,e,d,Q,g,r.grow g1,(show tB S e Q from f),λv H' w=>k v H'<|BQ.trans g1 w⟩
 |true=>exact bj<|k a9 h ⟨e,d,g,g1,f⟩
theorem dw_t(h:DW X e t):DT X e t:=PW.pt h
theorem LD(f:DT X a tA):DT X (.UnaryOp .Not a pos) (EV tA):=by refine PT.imp (JM f) ?_;rintro σ H R ⟨S,M,ρ,Q,s,r,q,k⟩;refine⟨S,M,ρ,_,s,r,q,?_⟩;rintro c d ⟨e,b,h,g1,g⟩;exact k (!c) d ⟨e,b,h,g1,g⟩
def uy(t c:v8):v8:=λS M Q=>t S M λx a=>P9 x λb=>if b=a9 then c S a Q else Q (.bl c5) a
def Jc(t c:v8):v8:=λS M Q=>t S M λx a=>P9 x λb=>if b=a9 then Q (.bl a9) a else c S a Q
def EU(t:v8):v8:=λS M Q=>t S M λx a=>match x with
 |.bl b=>Q (.bl<|!b) a
 |_=>False
theorem d_one{op}(h:DE X a ta):DE X (.BoolOp op [a] pos) ta:=JV h
theorem d_and(j:DE X a ta)(l:DE X (.BoolOp .And (b::be) pos) tb):DE X (.BoolOp .And (a::b::be) pos) (uy ta tb):=by
 refine PE.imp (Kb j l) ?_;rintro σ H R ⟨S,M,ρ,Q,s,r,q,k⟩;refine⟨S,M,ρ,_,s,r,q,?_⟩;rintro v i ⟨d,f,e,h,g1,m,g⟩;cases m with
 |bl c =>
  cases c with
  |true=>exact⟨a9,rfl,bj ⟨S,f,e,Q,h,r.grow g1,(show tb S f Q from g),λv H' w=>k v H'<|VQ.trans g1 w⟩⟩
  |false=>exact⟨c5,rfl,bh<|k _ i ⟨_,f,e,h,g1,.bl c5,(show Q (.bl c5) f from g)⟩⟩
 |_=>exact g.elim
theorem d_or(j:DE X a ta)(l:DE X (.BoolOp .Or (b::be) pos) tb):DE X (.BoolOp .Or (a::b::be) pos) (Jc ta tb):=by
 refine PE.imp (pe_or j l) ?_;rintro σ H R ⟨S,M,ρ,Q,s,r,q,k⟩;refine⟨S,M,ρ,_,s,r,q,?_⟩;rintro v i ⟨d,f,e,h,g1,m,g⟩;cases m with
 |bl c =>
  cases c with
  |false=>exact⟨c5,rfl,bh ⟨S,f,e,Q,h,r.grow g1,(show tb S f Q from g),λv H' w=>k v H'<|VQ.trans g1 w⟩⟩
  |true=>exact⟨a9,rfl,bj<|k _ i ⟨_,f,e,h,g1,.bl a9,(show Q (.bl a9) f from g)⟩⟩
 |_=>exact g.elim
theorem d_not(h:DE X a ta):DE X (.UnaryOp .Not a pos) (EU ta):=by
 refine PE.imp (JW h) ?_;rintro σ H R ⟨S,M,ρ,Q,s,j,q,k⟩;refine⟨S,M,ρ,_,s,j,q,?_⟩;rintro v f ⟨d,g,b,i,g1,r,e⟩;cases r with
 |bl c=>exact⟨c,rfl,k _ f ⟨_,g,b,i,g1,.bl<|!c,e⟩⟩
 |_=>exact e.elim
def dIfE(t:F7)(c d:v8):v8:=λS M Q=>t S M λb a=>if b=a9 then c S a Q else d S a Q
theorem IF(j:DT X t tA)(h:DE X a ta)(i:DE X b tb):DE X (.IfExp t a b pos) (dIfE tA ta tb):=by
 refine PE.imp (Ds j h i) ?_;rintro σ H R ⟨S,M,ρ,Q,s,r,q,k⟩;refine⟨S,M,ρ,_,s,r,q,?_⟩;rintro c l ⟨e,d,g,g1,f⟩;cases c with
 |true=>exact bj ⟨S,e,d,Q,g,r.grow g1,(show ta S e Q from f),λv H' w=>k v H'<|VQ.trans g1 w⟩
 |false=>exact bh ⟨S,e,d,Q,g,r.grow g1,(show tb S e Q from f),λv H' w=>k v H'<|VQ.trans g1 w⟩
variable{e:h8}{es:List h8}{te:v8}{t:H9}
def af:H9:=λ_ M Q=>Q [] M
def aa(te:v8)(t:H9):H9:=λS M Q=>te S M λd a=>t S a λs b=>Q (d::s) b
theorem LQ:DA X [] af:=by refine PA.imp Kc ?_;rintro σ H R ⟨S,M,ρ,Q,s,e,q,k⟩;exact k [] H ⟨[],M,ρ,s,.refl,.nil,q⟩
theorem ID(h:DE X e te)(j:DA X es t)(x:i5 (e::es) X.env=(c5,eval e X.env)::i5 es X.env:=by rfl):DA X (e::es) (aa te t):=by refine PA.imp (GJ h j x) ?_;rintro σ H R ⟨S,M,ρ,Q,s,r,q,k⟩;refine⟨S,M,ρ,_,s,r,q,?_⟩;rintro v u ⟨d,f,c,p,g1,n,l⟩;refine⟨S,f,c,_,p,r.grow g1,l,?_⟩;rintro z b ⟨y,g,a,w,i,o,m⟩;exact k _ b ⟨d::y,g,a,w,g1.trans i,.cons (n.grow i) o,m⟩
def dL(t:H9):v8:=λS M Q=>t S M λd a=>d.length<=sizeLine/\Q (.tup d) a
def iP(t:H9):v8:=λS M Q=>t S M λd a=>d.length<=sizeLine/\Q (.ref a.length) (a++[.lst d])
theorem VQ.laidT{K:u4}{ρ c:List d5}{H a:Hp}{M:t8}{d:List D}{v:List V}{Q:DK}{p:d5}(f:u9 K c M a)(g1:Grow K ρ H c a)(r:Reps K c a d v)(h:a p=a8)(q:Q (.tup d) M):VQ K ρ H Q (.ref p) (v7 a p<|.tup v):=⟨.tup d,M,c,f.laid h,g1.trans<|Grow.laid h,.tup (A2.of aR)<|r.grow<|Grow.laid h,q⟩
theorem VQ.laidL{K:u4}{ρ c:List d5}{H a:Hp}{M:t8}{d:List D}{v:List V}{Q:DK}{p:d5}(f:u9 K c M a)(g1:Grow K ρ H c a)(r:Reps K c a d v)(h:a p=a8)(q:Q (.ref M.length) (M++[.lst d])):VQ K ρ H Q (.ref p) (v7 a p<|.lst v):=⟨.ref M.length,M++[.lst d],c++[p],f.laidL h r,g1.trans<|Grow.laidR h,.ref f.last,q⟩
theorem d_tup{x1}(h:DA X es t):DE X (.Tuple es x1 pos) (dL t):=by refine PE.imp (JT h) ?_;rintro σ H R ⟨S,M,ρ,Q,s,e,q,k⟩;refine⟨S,M,ρ,_,s,e,q,?_⟩;rintro v d ⟨i,g,b,f,g1,r,z,c⟩;exact⟨by rw[<-r.length];exact z,λp a=>k _ _<|VQ.laidT f g1 r a c⟩
theorem d_lst(h:DA X es t):DE X (.List es pos) (iP t):=by refine PE.imp (JY h) ?_;rintro σ H R ⟨S,M,ρ,Q,s,e,q,k⟩;refine⟨S,M,ρ,_,s,e,q,?_⟩;rintro v d ⟨i,g,b,f,g1,r,z,c⟩;exact⟨by rw[<-r.length];exact z,λp a=>k _ _<|VQ.laidL f g1 r a c⟩
def t7(r:D1)(t:H9):v8:=λS M Q=>t S M λd a=>r d a Q
theorem Bn{K:u4}{r:D1}(σ:St)(H:Hp)(R:VK)(h:lowE K (t7 r t) σ H R):Q6 (lowC K r) (lowA K t) σ H R:=by obtain⟨S,M,ρ,Q,s,e,q,k⟩:=h;refine⟨S,M,ρ,_,s,e,q,?_⟩;rintro j g ⟨i,a,c,f,g1,d,b⟩;exact⟨i,a,c,Q,f,d,b,λv H' w=>k v H'<|VQ.trans g1 w⟩
theorem IH{x:c7}{p:Pos}{id:String}{r:D1}(c:lq X (.builtin id) r)(d:X.mg x=a8)(v:e9 x=a7 (.builtin id))(f:DA X (e::es) t)(S:Gl X x:=by rfl)(n:x≠"__name__":=by decide)(b:(x==("__debug__":c7))=c5:=by decide)(i:i5 (e::es) X.env=(c5,eval e X.env)::i5 es X.env:=by rfl) (l:(i4 pos<|i5 es X.env).any (·.1)=c5:=by rfl):DE X (.Call (.Name x p) (e::es) [] pos) (t7 r t):=PE.imp (Dv c S d v f n b i l) Bn
theorem ET(c:lq X (.type T) r)(d:X.mg x=a8)(v:e9 x=a7 (.type T))(f:DA X (e::es) t)(S:Gl X x:=by rfl)(n:x≠"__name__":=by decide)(b:(x==("__debug__":c7))=c5:=by decide)(i:i5 (e::es) X.env=(c5,eval e X.env)::i5 es X.env:=by rfl) (l:(i4 pos<|i5 es X.env).any (·.1)=c5:=by rfl):DE X (.Call (.Name x p) (e::es) [] pos) (t7 r t):=PE.imp (AG c S d v f n b i l) Bn
abbrev w6:=List D->t8->DK->Prop
def MY(K:u4)(P:w6):Sp:=λs H Q _=>∃d M ρ R,u9 K ρ M H/\Reps K ρ H d s/\P d M R/\∀v H',VQ K ρ H R v H'->Q v H'
theorem Bl{K:u4}{P:w6}(σ:St)(H:Hp)(R:VK)(h:lowE K (t7 P t) σ H R):Jw (MY K P) [] E0 (lowA K t) σ H R:=by obtain⟨S,M,ρ,Q,s,e,q,k⟩:=h;exact⟨S,M,ρ,_,s,e,q,λi d ⟨g,a,c,f,g1,r,b⟩=>⟨g,a,c,Q,f,by rw[G2];exact r,b,λv H' w=>k v H'<|VQ.trans g1 w⟩⟩
theorem LX(F:FnOk X.prog X.w X.K X.mg X.base E8 k f fd s (MY X.K P))(r:Room k X.A)(m:X.mg x=a7 (.ref f))(h:NX X.K (.ref f)=a9)(d:uN X.K fd s [])(a:DA X (e::es) t) (S:Gl X x:=by rfl) (b:(x==("__debug__":c7))=c5:=by decide) (i:i5 (e::es) X.env=(c5,eval e X.env)::i5 es X.env:=by rfl) (l:(i4 pos<|i5 es X.env).any (·.1)=c5:=by rfl):DE X (.Call (.Name x p) (e::es) [] pos) (t7 P t):=PE.imp (GI F r S m h d .nil pass0 a b i l) Bl
end
def aY:s9:=λE S M=>E.nx S M
def ay(t u:s9):s9:=λE S M=>t { E with nx:=λb a=>u E b a } S M
theorem LJ:MZ X [] aY:=by refine J3.imp GA ?_;rintro E σ H ⟨S,M,ρ,F,s,e,q,k⟩;exact k.nx σ H ⟨S,M,ρ,s,.refl,e,q⟩
theorem LI{X:Cx}{st:i6}{t:s9}(h:DS X st t):MZ X [st] t:=Gz h
theorem Iv{X:Cx}{st:i6}{be:List i6}{t u:s9}(h1:DS X st t)(h2:MZ X be u):MZ X (st::be) (ay t u):=by refine J3.imp (Dk h1 h2) ?_;rintro E σ H ⟨S,M,ρ,F,s,e,q,k⟩;exact⟨S,M,ρ,_,s,e,q,⟨λf H' ⟨d,c,b,s',g,a,j⟩=>⟨d,c,b,F,s',a,j,k.trans g⟩,k.rt,k.bk,k.ct⟩⟩
def gj(te:v8):s9:=λE S M=>te S M λ_ a=>E.nx S a
theorem Iu(i:DE X e te)(j:i8 e a8 pos.line X.env=pure c5:=by rfl):DS X (.Expr e pos) (gj te):=by refine PS.imp (GB i j) ?_;rintro E σ H ⟨S,M,ρ,F,s,r,q,k⟩;refine⟨S,M,ρ,_,s,r,q,?_⟩;rintro v a ⟨d,b,c,g,g1,h,f⟩;exact k.nx σ a ⟨S,b,c,g,g1,r.grow g1,f⟩
def bp(te:v8):s9:=λE S M=>te S M E.rt
theorem LH(i:DE X e te):DS X (.Return (a7 e) pos) (bp te):=by refine PS.imp (JO i) ?_;rintro E σ H ⟨S,M,ρ,F,s,r,q,k⟩;exact⟨S,M,ρ,_,s,r,q,λv a w=>k.rt v a w⟩
def z6(c:F7)(t u:s9):s9:=λE S M=>c S M λb a=>if b=a9 then t E S a else u E S a
theorem ds_if(j:DT X c tc)(h:MZ X a t)(i:MZ X b u):DS X (.If c a b pos) (z6 tc t u):=by
 refine PS.imp (ps_if j h i) ?_;rintro E σ H ⟨S,M,ρ,F,s,r,q,k⟩;refine⟨S,M,ρ,_,s,r,q,?_⟩;rintro c l ⟨e,d,g,g1,f⟩;cases c with
 |true=>exact bj ⟨S,e,d,F,g,r.grow g1,(show t F S e from f),k.trans g1⟩
 |false=>exact bh ⟨S,e,d,F,g,r.grow g1,(show u F S e from f),k.trans g1⟩
def ba(te:v8)(i:Nat):s9:=λE S M=>te S M λd a=>E.nx (S.set i<|a7 d) a
theorem LG(h:X.N.Nodup)(f:DE X e te)(hi:X.N[i]?=a7 x:=by rfl)(j:NR X.env.scope x:=by first|exact Or.inl rfl|exact Or.inr rfl)(o:i8 e (a7<|.Name x pos') pos.line X.env=pure c5:=by rfl)(g:X.fn x=a9\/X.env.scope.names.lookup x=a7 .local:=by first|exact .inl rfl|exact .inr rfl|assumption):DS X (.Assign [.Name x pos'] e pos) (ba te i):=by refine PS.imp (JN h hi j f o g) ?_;rintro E σ H ⟨S,M,ρ,F,s,r,q,k⟩;refine⟨S,M,ρ,_,s,r,q,?_⟩;rintro v a ⟨d,b,c,n,g1,m,l⟩;exact k.nx _ a ⟨_,b,c,n,g1,(r.grow g1).set i m,l⟩
def ag(i:Nat):L9:=λd S M Q=>Q (S.set i<|a7 d) M
theorem wm(h:X.N.Nodup)(hi:X.N[i]?=a7 x:=by rfl)(a:NR X.env.scope x:=by first|exact Or.inl rfl|exact Or.inr rfl)(f:X.fn x=a9\/X.env.scope.names.lookup x=a7 .local:=by first|exact .inl rfl|exact .inr rfl|assumption):DG X (.Name x pos) (ag i):=λp s σ H v u R I r ⟨d,S,M,ρ,Q,m,e,b,q,k⟩=>GF h hi a f p s σ H v u R I r<|k _ H ⟨_,M,ρ,m,.refl,e.set i b,q⟩
theorem yo{P:c9}{w:c8}{K:u4}{Z:h8}(it:d5)(n:Nat)(M:Nat->c6->Prop)(PX:Nat->V->Prop)(Sx:Nat->d7->Prop)(W:∀A':f6,A'.handled=a8->m7 P w A' it [it] [it] n M Sx) (l:∀i v,M i v->∃x,aZ x v/\PX i x)(j:∀i h,Sx i h->∃(o:d6) (nm:String) (vs:Array c6),h.get? it=a7 o/\o.cls=.type nm/\o.data=.fields vs/\["enumerate","zip","dict_itemiterator","dict_reverseitemiterator","odict_iterator","itertools.zip_longest","itertools.pairwise"].contains nm=c5)(a:∀(i:Nat) (h h':d7),Sx i h->(∀o,h.get? it=a7 o->h'.get? it=a7 o)->Sx i h')(g:∀(A:f6) (i:Nat) (s:f7) (Q:c6->f7->Prop) (E:c6->f7->Prop),Sx i s.heap->Q (.ref it) s->ge (i3 P w) A (j3<|.ref it) Q E s):Turn P w K Z ⟨λi _=>i<n,λi H x H'=>H'=H/\PX i x,λi _=>i=n⟩ [it] it Sx where
 mem:=by simp
 obj:=λi h st b f=>by
  have e:b=it:=by simpa using f
  subst e;obtain⟨o,nm,vs,e,_,d,_⟩:=j i h st;exact⟨o,e,λv z=>by rw[d]at z;cases z⟩
 keep:=λi h h' st k=>a i h h' st λo e=>k it (by simp) o e
 item:=by intro X D G C F i p s σ H E I q st S;subst D G C;obtain⟨r,t,O,u,y,B⟩:=q it (by simp);refine(W X.A<|I.ok.hd F).item i s _ _ S st λv h' L T m J=>?_;obtain⟨x,Y,U⟩:=l i v T;have N:r9 X p σ H { s with heap:=h',toks:=L }:=I.turned (λb o f e=>J b o (by simpa using f) e) r t u y B;obtain⟨o,nm,vs,e,c,d,R⟩:=j _ _ m;exact⟨v,rfl,za (s:={ s with heap:=h',toks:=L }) e c d R ⟨x,H,N,Y,⟨rfl,U⟩,m,λb f=>(q b f).1⟩⟩
 done:=by intro X D G C F i p s σ H E I q st S;subst D G C;obtain⟨r,t,O,u,y,B⟩:=q it (by simp);have hi:i=n:=S;subst hi;exact(W X.A<|I.ok.hd F).done s _ _ st λh' L J=>⟨rfl,I.turned (λb o f e=>J b o (by simpa using f) e) r t u y B⟩
 self:=g
noncomputable def Aq(x:c7):List D:=x.cps.toList.map λc=>.str ⟨#[c]⟩
structure Ra where
 items:List D
 ok:t8->Prop
abbrev ME:=SD->t8->(Ra->t8->Prop)->Prop
structure Mn(K:u4)(src:Ra)(ρ0:List d5)(H0:Hp)(J:It):Prop where
 go:∀(i:Nat) ρ M H,u9 K ρ M H->Grow K ρ0 H0 ρ H->src.ok M->i<src.items.length->J.go i H
 yld:∀(i:Nat) ρ M H x H',u9 K ρ M H->Grow K ρ0 H0 ρ H->src.ok M->i<src.items.length->J.yld i H x H'->∃d ρ',src.items[i]?=a7 d/\u9 K ρ' M H'/\Grow K ρ H ρ' H'/\t9 K ρ' H' d x
 stop:∀(ρ:List d5) M H,u9 K ρ M H->Grow K ρ0 H0 ρ H->src.ok M->J.stop src.items.length H
def IQ(K:u4)(ρ:List d5)(H:Hp)(Q:Ra->t8->Prop):It->Hp->Prop:=λJ H'=>∃src M a,u9 K a M H'/\Grow K ρ H a H'/\Mn K src a H' J/\Q src M
def lowI(K:u4)(i:ME):TI:=λσ H R=>∃S M ρ Q,u9 K ρ M H/\SRep K ρ H S σ/\i S M Q/\∀J H',IQ K ρ H Q J H'->R J H'
def DI(X:Cx)(g r:h8)(i:ME):Prop:=PI X g r<|lowI X.K i
theorem Mn.tup{K:u4}{ρ:List d5}{H:Hp}{a:d5}{v:List V}{k:List D}(h:A2 K H a v)(r:Reps K ρ H k v)(q:∀j,A2 K H a j->j=v):Mn K ⟨k,λ_=>True⟩ ρ H (RR K a) where
 go:=λi b M H' s g _ hi=>by
  have l:i<v.length:=by rw[<-r.length];exact hi
  exact⟨v,v[i],g.tup a v h,w9 l⟩
 yld:=λi b M H' x f s g _ hi y=>by obtain⟨rfl,y⟩:=y;obtain⟨d,c,e⟩:=(r.grow g).getV<|y v<|g.tup a v h;exact⟨d,b,c,s,.refl,e⟩
 stop:=λb M H' s g _=>⟨v,g.tup a v h,by rw[<-r.length];exact u7 _⟩
theorem Mn.lst{K:u4}{ρ:List d5}{H:Hp}{n:Nat}{a:d5}{k:List D}(e:ρ[n]?=a7 a):Mn K ⟨k,λM=>aA M n k⟩ ρ H (RS K a) where
 go:=λi b M H' s g ok hi=>by
  obtain⟨v,h,r⟩:=aA.seq s ok<|aK g.pre e;have l:i<v.length:=by rw[<-r.length];exact hi
  exact⟨v,v[i],h,w9 l⟩
 yld:=λi b M H' x j s g ok hi y=>by obtain⟨rfl,y⟩:=y;obtain⟨v,h,r⟩:=aA.seq s ok<|aK g.pre e;obtain⟨d,c,f⟩:=r.getV<|y v h;exact⟨d,b,c,s,.refl,f⟩
 stop:=λb M H' s g ok=>by obtain⟨v,h,r⟩:=aA.seq s ok<|aK g.pre e;exact⟨v,h,by rw[<-r.length];exact u7 _⟩
theorem Mn.plain{K:u4}{ρ:List d5}{H:Hp}{e:List D}{J:It}(S:∀i H,i<e.length->J.go i H)(O:∀i H x H',i<e.length->J.yld i H x H'->H'=H/\∃d,e[i]?=a7 d/\cV d=a7 x)(f:∀H,J.stop e.length H):Mn K ⟨e,λ_=>True⟩ ρ H J where
 go:=λi a M H' s g _ hi=>S i H' hi
 yld:=λi a M H' x b s g _ hi y=>by obtain⟨rfl,d,h,c⟩:=O i _ x b hi y;exact⟨d,a,h,s,.refl,Ct c⟩
 stop:=λa M H' s g _=>f H'
def bE(te:v8):ME:=λS M R=>te S M λd a=>match d with
 |.tup b=>b.length<=sizeLine->R ⟨b,λ_=>True⟩ a
 |.str x=>R ⟨Aq x,λ_=>True⟩ a
 |.ref n=>∃s,aA a n s/\(s.length<=sizeLine->R ⟨s,λM=>aA M n s⟩ a)
 |_=>False
theorem LM(hl:DE X l tl):DI X tg l (bE tl):=by
 intro m s σ H R I h;obtain⟨S,M,ρ,Q,sm,sr,q,k⟩:=h;refine v4 (hl m s σ H _ I ⟨S,M,ρ,_,sm,sr,q,λv H' w=>w⟩) ?_;rintro u f ⟨v,D,g,U,d,F,C,j,g1,r1,B⟩;cases r1 with
 |non=>exact B.elim
 |bl b=>exact B.elim
 |int i=>exact B.elim
 |ty n=>exact B.elim
 |@tup a vs ds K r =>
  cases U;obtain⟨its,rr,p,T⟩:=g.tuple K;refine wpAny_pyIter_tuple (show f.heap.IsTuple a its.toArray from p) ?_;refine⟨f.heap.objs.size,[f.heap.objs.size],_,_,D,rfl,g.kept (t':=f.toks) λb o e=>v5 _ e,yp a _,⟨_,A1 _ rfl,rfl,rfl⟩,λb J=>?_,k _ D ⟨⟨ds,λ_=>True⟩,F,C,j,g1,Mn.tup K r λys hy=>g.tuple_inj hy K,?_⟩⟩;have e:b=f.heap.objs.size:=by simpa using J
  subst e;exact g.fpOk (u7 _)<|g.hok.fresh<|u7 _;exact(show ds.length<=sizeLine->Q ⟨ds,λ_=>True⟩ F from B)<|by rw[r.length];exact T
 |@ref n a Y =>
  cases U;obtain⟨xs,hL,q2⟩:=(show ∃xs,aA F n xs/\(xs.length<=sizeLine->Q ⟨xs,λM=>aA M n xs⟩ F)from B)
  obtain⟨vs,K,r⟩:=aA.seq j hL Y;obtain⟨its,rr,p,T⟩:=g.list K;refine Qy p.isList ?_;refine⟨f.heap.objs.size,[f.heap.objs.size],_,_,D,rfl,g.kept (t':=f.toks) λb o e=>v5 _ e,zG a _,⟨_,A1 _ rfl,rfl,rfl⟩,λb J=>?_,k _ D ⟨⟨xs,λM=>aA M n xs⟩,F,C,j,g1,Mn.lst Y,q2<|by rw[r.length];exact T⟩⟩;have e:b=f.heap.objs.size:=by simpa using J
  subst e;exact g.fpOk (u7 _)<|g.hok.fresh<|u7 _
 |str x =>
  obtain⟨t,rfl⟩:=U;have G:∀(z:String) (L:d6),(L.cls=.type z/\L.data=.fields #[.str x t,.int 0 0]) -> (∀N:f6,N.handled=a8->m7 X.prog X.w N f.heap.objs.size [f.heap.objs.size] [f.heap.objs.size] x.cps.size (SignAt x) (λi h=>h.IsStrIter f.heap.objs.size z x t i)) -> (∀(A:f6) (i:Nat) (s:f7) (Q:c6->f7->Prop) (E:c6->f7->Prop),s.heap.IsStrIter f.heap.objs.size z x t i->Q (.ref f.heap.objs.size) s->ge (i3 X.prog X.w) A (j3<|.ref f.heap.objs.size) Q E s) -> ["enumerate","zip","dict_itemiterator","dict_reverseitemiterator","odict_iterator","itertools.zip_longest","itertools.pairwise"].contains z=c5->(f.heap.push L).IsStrIter f.heap.objs.size z x t 0 -> Qb X m σ tg R (.ref f.heap.objs.size) { f with heap:=f.heap.push L }:=λz L ai W y P st=>by
   refine⟨f.heap.objs.size,[f.heap.objs.size],_,_,D,rfl,g.kept (t':=f.toks) λb o e=>v5 _ e,yo (PX:=λi v=>∃c,x.cps[i]?=a7 c/\v=.str ⟨#[c]⟩) _ _ _ _ W (λi v ⟨c,u,Z,e2⟩=>⟨.str ⟨#[c]⟩,⟨u,e2⟩,c,Z,rfl⟩) (λi h st=>?_) (λi h h' st k=>?_) y,st,λb J=>?_,k _ D ⟨⟨Aq x,λ_=>True⟩,F,C,j,g1,Mn.plain ?_ ?_ ?_,B⟩⟩;obtain⟨o,e,c,d⟩:=st;exact⟨o,z,_,e,c,d,P⟩;obtain⟨o,e,r⟩:=st;exact⟨o,k o e,r⟩;have e:b=f.heap.objs.size:=by simpa using J
   subst e;exact g.fpOk (u7 _)<|g.hok.fresh<|u7 _;intro i _ hi;simpa [Aq]using hi;rintro i H x' H' _ ⟨rfl,c,e,rfl⟩;exact⟨rfl,.str ⟨#[c]⟩,by simp[Aq,e],rfl⟩;intro H;simp[Aq]
  cases V:x.cps.all (· < 128);exact wpAny_pyIter_wide V<|G _ _ ⟨rfl,rfl⟩ (λN O=>Walks.strWide O _ x t) (λ_ _ _ _ _ st h=>wpAny_pyIter_striter_wide st h) (by decide) ⟨_,A1 _ rfl,rfl,rfl⟩;exact wpAny_pyIter_ascii V<|G _ _ ⟨rfl,rfl⟩ (λN O=>Walks.strAscii O _ x t) (λ_ _ _ _ _ st h=>wpAny_pyIter_striter_ascii st h) (by decide) ⟨_,A1 _ rfl,rfl,rfl⟩
noncomputable def sW(l:Int)(n:Nat):List D:=(A9 n).map λi=>.int<|l+((i:Nat):Int)
theorem Mn.rng{K:u4}{ρ:List d5}{H:Hp}(l:Int)(n:Nat):Mn K ⟨sW l n,λ_=>True⟩ ρ H (Pl l n):=by
 refine Mn.plain (λi _ hi=>?_) (λi H x H' hi y=>?_) λH=>?_;show i<n;simpa [sW]using hi;obtain⟨e,rfl⟩:=y;have h:i<n:=by simpa [sW]using hi
 exact⟨e,.int<|l+i,by simp[sW,h],rfl⟩;show n<=(sW l n).length;simp[sW]
def eK(t:H9):ME:=λS M R=>t S M λd a=>match d with
 | [.int j]=>(-(2 ^ 62)<=j/\j<2 ^ 62)/\R ⟨sW 0 j.toNat,λ_=>True⟩ a
 |_=>False
def qZ(t:H9):ME:=λS M R=>t S M λd a=>match d with
 | [.int i,.int j]=>(-(2 ^ 62)<=i/\i<2 ^ 62/\-(2 ^ 62)<=j/\j<2 ^ 62)/\R ⟨sW i (j-i).toNat,λ_=>True⟩ a
 |_=>False
theorem PI.imp(h:PI X tg iter t')(i:∀σ H R,t σ H R->t' σ H R):PI X tg iter t:=λp s σ H R I q=>h p s σ H R I<|i σ H R q
theorem Cj(m:X.mg "range" = a8)(h:DA X [a] ta)(g:Gl X "range":=by rfl)(o:i5 [a] X.env=[(c5,eval a X.env)]:=by rfl):DI X tg (.Call (.Name "range" p) [a] [] pos) (eK ta):=by
 refine PI.imp (AE g m h o) ?_;rintro σ H R ⟨S,M,ρ,Q,s,n,q,k⟩;refine⟨S,M,ρ,_,s,n,q,?_⟩;rintro v e ⟨u,f,d,l,g1,b,c⟩
 try dsimp only at c
 split at c;rename_i j;obtain⟨⟨h1,h2⟩,i⟩:=c
 first|have z:=Reps.inv_cons b|have z:=aB.inv_cons b
 clear b;obtain⟨_,_,rfl,r,t⟩:=z;cases r;cases t;exact⟨j,rfl,h1,h2,k _ e ⟨_,f,d,l,g1,Mn.rng 0 j.toNat,i⟩⟩;exact c.elim
theorem Ci(o:X.mg "range" = a8)(m:DA X [a,b] ta)(n:Gl X "range":=by rfl)(x:i5 [a,b] X.env=[(c5,eval a X.env),(c5,eval b X.env)]:=by rfl)(d:i5 [b] X.env=[(c5,eval b X.env)]:=by rfl):DI X tg (.Call (.Name "range" p) [a,b] [] pos) (qZ ta):=by
 refine PI.imp (AD n o m x d) ?_;rintro σ H R ⟨S,M,ρ,Q,s,w,q,k⟩;refine⟨S,M,ρ,_,s,w,q,?_⟩;rintro vs g ⟨y,l,f,v,g1,e,c⟩
 try dsimp only at c
 split at c;rename_i i j;obtain⟨h,u⟩:=c
 first|have z:=Reps.inv_cons e|have z:=aB.inv_cons e
 clear e;obtain⟨_,_,rfl,r,t⟩:=z;cases r;cases t with
 |cons r t=>cases r;cases t;exact⟨i,j,rfl,h,k _ g ⟨_,l,f,v,g1,Mn.rng i (j-i).toNat,u⟩⟩
 exact c.elim
section
mutual
inductive C1(k:Nat):D->Prop
 |non:C1 k .non
 |bl (b:Bool):C1 k (.bl b)
 |int (i:Int):C1 k (.int i)
 |str (x:c7):C1 k (.str x)
 |ty (n:String):C1 k (.ty n)
 |tup {ds:List D} (h:Bels k ds):C1 k (.tup ds)
 |ref {n:Nat} (h:n<k):C1 k (.ref n)
inductive Bels(k:Nat):List D->Prop
 |nil:Bels k []
 |cons {d:D}{ds:List D} (h:C1 k d) (t:Bels k ds):Bels k (d::ds)
end
noncomputable def MO.items:MO->List D
 |.lst x=>x
 |.fz x=>x
 |.kl x=>x
 |.dct k=>k.map (·.2)
 |.dkt k=>k.map (·.2)
 |.dkq _ k=>k.map (·.2)
 |.fdc _ k=>k.map (·.2)
 |.dkm k=>k.map (·.2)
 |.tb _ _=>[]
 |.exc _=>[]
theorem t9.bel{K:u4}{ρ:List d5}{H:Hp}{d:D}{v:V}(h:t9 K ρ H d v):C1 ρ.length d:=t9.rec (motive_1:=λd v _=>C1 ρ.length d) (motive_2:=λs a _=>Bels ρ.length s) .non .bl .int .str .ty (λ_ _ r=>.tup r) (λh=>.ref (x9.mp h).1) .nil (λ_ _ h t=>.cons h t) h
theorem Reps.bel{K:u4}{ρ:List d5}{H:Hp}{s:List D}{a:List V}(h:Reps K ρ H s a):Bels ρ.length s:=Reps.rec (motive_1:=λd v _=>C1 ρ.length d) (motive_2:=λs a _=>Bels ρ.length s) .non .bl .int .str .ty (λ_ _ r=>.tup r) (λh=>.ref (x9.mp h).1) .nil (λ_ _ h t=>.cons h t) h
theorem C1.inv(b:C1 k d):(∀s,d=.tup s->Bels k s)/\∀n,d=.ref n->n<k:=by
 cases b with
 |tup b=>exact⟨(λ_ e=>by injection e with e;exact e ▸ b),(λ_ e=>by cases e)⟩
 |ref b=>exact⟨(λ_ e=>by cases e),(λ_ e=>by injection e with e;exact e ▸ b)⟩
 |_=>exact⟨(λ_ e=>by cases e),(λ_ e=>by cases e)⟩
theorem Bels.inv{k:Nat}{d:D}{s:List D}(b:Bels k (d::s)):C1 k d/\Bels k s:=by
 cases b with
 |cons b c=>exact⟨b,c⟩
theorem t9.cut{K:u4}{ρ:List d5}{H:Hp}{k:Nat}{d:D}{v:V}(h:t9 K ρ H d v):C1 k d->t9 K (ρ.take k) H d v:=t9.rec (motive_1:=λd v _=>C1 k d->t9 K (ρ.take k) H d v) (motive_2:=λs a _=>Bels k s->Reps K (ρ.take k) H s a) (λ_=>.non) (λb _=>.bl b) (λb _=>.int b) (λb _=>.str b) (λb _=>.ty b) (λh _ r b=>.tup h<|r<|b.inv.1 _ rfl)
  (λh b=>.ref<|by rw[OF<|b.inv.2 _ rfl];exact h) (λ_=>.nil) (λ_ _ h t b=>.cons (h b.inv.1)<|t b.inv.2) h
theorem Reps.cut{K:u4}{ρ:List d5}{H:Hp}{k:Nat}{s:List D}{a:List V}(h:Reps K ρ H s a):Bels k s->Reps K (ρ.take k) H s a:=Reps.rec (motive_1:=λd v _=>C1 k d->t9 K (ρ.take k) H d v) (motive_2:=λs a _=>Bels k s->Reps K (ρ.take k) H s a) (λ_=>.non) (λb _=>.bl b) (λb _=>.int b) (λb _=>.str b) (λb _=>.ty b) (λh _ r b=>.tup h<|r<|b.inv.1 _ rfl)
  (λh b=>.ref<|by rw[OF<|b.inv.2 _ rfl];exact h) (λ_=>.nil) (λ_ _ h t b=>.cons (h b.inv.1)<|t b.inv.2) h
theorem C1.mono{j k:Nat}(h:j<=k){d:D}(b:C1 j d):C1 k d:=C1.rec (motive_1:=λd _=>C1 k d) (motive_2:=λs _=>Bels k s) .non .bl .int .str .ty (λ_ b=>.tup b) (λb=>.ref<|G5 b h) .nil (λ_ _ b c=>.cons b c) b
theorem Bels.mono{j k:Nat}(h:j<=k){s:List D}(b:Bels j s):Bels k s:=Bels.rec (motive_1:=λd _=>C1 k d) (motive_2:=λs _=>Bels k s) .non .bl .int .str .ty (λ_ b=>.tup b) (λb=>.ref<|G5 b h) .nil (λ_ _ b c=>.cons b c) b
theorem Bels.of:∀{x:List D},(∀d∈x,C1 k d)->Bels k x
 | [],_=>.nil
 |d::s,h=>.cons (h d C5)<|Bels.of λe he=>h e<|A5 _ he
section
variable{K:u4}{ρ ρ':List d5}{H H':Hp}{M M':t8}
theorem xH:∀(n:Nat) (d:D),cS n d=a9->C1 k d:=by
 intro n;induction n with
 |zero =>
  intro d h;cases d with
  |str x=>exact .str x
  |int x=>exact .int x
  |_=>cases h
 |succ n i =>
  intro d h;cases d with
  |str x=>exact .str x
  |int x=>exact .int x
  |tup s=>exact .tup<|Bels.of λx a=>i x<|E5.mp (show s.all (cS n)=a9 from h) x a
  |_=>cases h
theorem BA(r:Paired (yd K ρ H) k x):Bels ρ.length (k.map (·.2)):=by
 induction r with
 |nil=>exact .nil
 |cons q _ i=>obtain⟨_,_,_,v,u,_⟩:=q;exact .cons u.bel i
theorem Bz(r:Paired (yd K ρ H) s x)(b:Bels k (s.map (·.2))):Paired (yd K (ρ.take k) H) s x:=by
 induction r with
 |nil=>exact .nil
 |cons q _ i =>
  obtain⟨d,j,e,v,u,l⟩:=q;rw[C4]at b;cases b with
  |cons a c=>exact .cons ⟨d,j,e.cut<|xH _ _ j,v,u.cut a,l⟩<|i c
theorem Eo:∀(d:D),keyM d=a9->C1 k d
 |.non,_=>.non
 |.tup s,h=>xH 8 _ h
 |.bl _,h=>nomatch h
 |.int _,h=>nomatch h
 |.str _,h=>nomatch h
 |.ty _,h=>nomatch h
 |.ref _,h=>nomatch h
theorem Hq(r:Paired (Qc K ρ H) k x):Bels ρ.length (k.map (·.2)):=by
 induction r with
 |nil=>exact .nil
 |cons q _ i=>obtain⟨_,_,_,v,u,_⟩:=q;exact .cons u.bel i
theorem Ho(r:Paired (Qc K ρ H) s x)(b:Bels k (s.map (·.2))):Paired (Qc K (ρ.take k) H) s x:=by
 induction r with
 |nil=>exact .nil
 |cons q _ i =>
  obtain⟨d,j,⟨u,e,m⟩,v,f,l⟩:=q;rw[C4]at b;cases b with
  |cons a c=>exact .cons ⟨d,j,⟨u,e.cut<|Eo _ j,m⟩,v,f.cut a,l⟩<|i c
theorem zu.bels(h:zu K ρ H a mo):Bels ρ.length mo.items:=by
 cases mo with
 |lst d=>obtain⟨v,_,r⟩:=h;exact r.bel
 |fz d=>obtain⟨o,v,_,r⟩:=h;exact r.bel
 |kl d=>obtain⟨v,_,r⟩:=h;exact r.bel
 |dct s=>obtain⟨v,_,r⟩:=h;exact r.bel
 |dkt s=>obtain⟨_,_,_,c,_,r⟩:=h;exact BA r
 |dkq _ s=>obtain⟨_,_,_,c,_,r⟩:=h;exact BA r
 |fdc o s=>obtain⟨v,_,r⟩:=h;exact r.bel
 |dkm s=>obtain⟨_,_,_,c,_,r⟩:=h;exact Hq r
 |tb x b=>exact .nil
 |exc x=>exact .nil
theorem zu.cut(h:zu K ρ H a mo)(b:Bels k mo.items):zu K (ρ.take k) H a mo:=by
 cases mo with
 |lst f=>obtain⟨v,e,r⟩:=h;exact⟨v,e,r.cut b⟩
 |fz f=>obtain⟨o,v,e,r⟩:=h;exact⟨o,v,e,r.cut b⟩
 |kl f=>obtain⟨v,e,r⟩:=h;exact⟨v,e,r.cut b⟩
 |dct s=>obtain⟨v,e,r⟩:=h;exact⟨v,e,r.cut b⟩
 |dkt s=>obtain⟨h1,h2,c,d,e,r⟩:=h;exact⟨h1,h2,c,d,e,Bz r b⟩
 |dkq _ s=>obtain⟨h1,h2,c,d,e,r⟩:=h;exact⟨h1,h2,c,d,e,Bz r b⟩
 |fdc o s=>obtain⟨v,e,r⟩:=h;exact⟨v,e,r.cut b⟩
 |dkm s=>obtain⟨h1,h2,c,d,e,r⟩:=h;exact⟨h1,h2,c,d,e,Ho r b⟩
 |tb x b=>exact h
 |exc x=>exact h
theorem u9.bels(S:u9 K ρ M H){n:Nat}{mo:MO}(e:M[n]?=a7 mo):Bels M.length mo.items:=by obtain⟨a,_,h⟩:=S.get e;rw[<-S.len];exact h.bels
theorem u9.cut(S:u9 K ρ M H)(k:Nat)(d:∀(n:Nat) (mo:MO),n<k->M[n]?=a7 mo->Bels k mo.items):u9 K (ρ.take k) (M.take k) H:=by
 have lt:∀{n:Nat}{a:d5},(ρ.take k)[n]?=a7 a->n<k/\ρ[n]?=a7 a:=λ{n a} e=>by
  have h1:=(x9.mp e).1;rw[F5]at h1;have h2:n<k:=by lia
  rw[OF h2]at e;exact⟨h2,e⟩
 refine⟨λn m a h t l=>?_,by rw[F5,F5,S.len],λn a mo t l=>?_⟩;obtain⟨b,f⟩:=lt t;obtain⟨g,c⟩:=lt l;rw[OF b,OF g];exact S.nd n m a h f c;obtain⟨b,f⟩:=lt t;rw[OF b]at l;exact(S.obj n a mo f l).cut<|d n mo b l
theorem SRep.cut(r:SRep K ρ H S σ)(g:S'.length=S.length)(h:∀(i:Nat) d,S'[i]?=a7 (a7 d)->S[i]?=a7 (a7 d)/\C1 k d):SRep K (ρ.take k) H S' σ:=⟨g.trans r.len,λi d e=>let ⟨e',b⟩:=h i d e;let ⟨v,hv,rv⟩:=r.get i d e';⟨v,hv,rv.cut b⟩⟩
theorem Grow.cut(g:Grow K ρ H ρ' H')(h:ρ.length<=k):Grow K ρ H (ρ'.take k) H':=by refine⟨?_,g.tup⟩;obtain⟨t,rfl⟩:=g.pre;rw[List.take_append];rw[P4 h];exact G3 _ _
end
inductive FgtS(k:Nat):SD->SD->Prop
 |nil:FgtS k [] []
 |keep {d:D}{S S':SD} (h:C1 k d) (t:FgtS k S S'):FgtS k (a7 d::S) (a7 d::S')
 |drop {o:Option D}{S S':SD} (t:FgtS k S S'):FgtS k (o::S) (a8::S')
theorem FgtS.len(h:FgtS k S S'):S'.length=S.length:=by
 induction h with
 |nil=>rfl
 |keep _ _ i=>rw[C3,C3,i]
 |drop _ i=>rw[C3,C3,i]
theorem FgtS.get(h:FgtS k S S'):∀(i:Nat) d,S'[i]?=a7 (a7 d)->S[i]?=a7 (a7 d)/\C1 k d:=by
 induction h with
 |nil=>intro i d e;simp at e
 |keep b _ a =>
  intro i d e;cases i with
  |zero=>simp at e;subst e;exact⟨rfl,b⟩
  |succ i=>exact a i d<|by simpa using e
 |drop _ a =>
  intro i d e;cases i with
  |zero=>simp at e
  |succ i=>exact a i d<|by simpa using e
def x5(a:t8)(P:SD->t8->Prop)(S:SD)(M:t8):Prop:=P S M\/(∃k b,a.length<=k/\FgtS k S b/\(∀(n:Nat) mo,n<k->M[n]?=a7 mo->Bels k mo.items)/\P b (M.take k))\/∃b,FgtS a.length S b/\a <+: M/\P b a
theorem CY{α:Type}{l l':List α}(h:l <+: l'):l'.take l.length=l:=by obtain⟨t,rfl⟩:=h;rw[List.take_append_of_le_length<|u7 _,K9]
theorem SQ.fgt{K:u4}{ρ:List d5}{H:Hp}{M:t8}{P:SD->t8->Prop}{c:St}{H':Hp}(s0:u9 K ρ M H)(h:SQ K ρ H (x5 M P) c H'):SQ K ρ H P c H':=by
 have f:ρ.length<=M.length:=by rw[s0.len];exact u7 _
 obtain⟨i,d,b,s',g,a,j⟩:=h;rcases j with j|⟨k,S,h1,h2,l,q⟩|⟨S,h2,p,q⟩
 exact⟨i,d,b,s',g,a,j⟩;exact⟨S,d.take k,b.take k,s'.cut k l,g.cut<|D4 f h1,a.cut h2.len h2.get,q⟩;have s:=s'.cut M.length λn o m e=>by obtain⟨t,rfl⟩:=p;rw[J0 m]at e;exact s0.bels e
 rw[CY p]at s;exact⟨S,M,b.take M.length,s,g.cut f,a.cut h2.len h2.get,q⟩
def uw(ok:t8->Prop)(g:L9)(tb:s9)(E:DEnds)(k0:t8):List D->SD->t8->Prop
 | [],S,M=>ok M/\E.nx S M
 |x::s,S,M=>ok M/\g x S M λS2 M2=>tb ⟨x5 k0<|uw ok g tb E k0 s,E.rt,E.nx,x5 k0<|uw ok g tb E k0 s⟩ S2 M2
def kt(i:ME)(g:L9)(b:s9):s9:=λE S M=>i S M λsrc a=>uw src.ok g b E a src.items S a
theorem uj{α:Type}{l:List α}{i:Nat}{x:α}(h:l[i]?=a7 x):l.drop i=x::l.drop (i+1):=by obtain⟨hi,e⟩:=x9.mp h;rw[QX hi,e]
theorem DV{K:u4}{Q:ME}{g:L9}{w:s9}(E:Ends)(σ:St)(H:Hp)(h:lowS K (kt Q g w) E σ H):tFor (lowI K Q) (lowG K g) (lowS K w) E σ H:=by
 obtain⟨S,M,ρ,F,s,V,q,k⟩:=h;refine⟨S,M,ρ,_,s,V,q,?_⟩;rintro J D ⟨src,p,j,U,g1,it,q1⟩;have G:=k.trans g1;refine⟨λi m τ l=>∃f b a,u9 K a b l/\Grow K j D a l/\SRep K a l f τ/\i<=src.items.length/\m=src.items.length-i/\uw src.ok g w F p (src.items.drop i) f b,⟨_,S,p,j,U,.refl,V.grow g1,z5 _,rfl,q1⟩,?_⟩;rintro i m τ l ⟨f,b,a,C,r,u,hi,rfl,B⟩;by_cases t:i<src.items.length;have R:src.items[i]?=a7 src.items[i]:=w9 t;rw[uj R]at B;obtain⟨ok,I⟩:=(show src.ok b/\g src.items[i] f b _ from B)
 refine .inr ⟨it.go i a b l C r ok t,_,λai H' z=>z,λx W y=>?_⟩;obtain⟨d,O,hd,s3,g3,r3⟩:=it.yld i a b l x W C r ok t y;have ed:d=src.items[i]:=A8<|hd.symm.trans R;subst ed;refine⟨_,f,b,O,_,s3,u.grow g3,r3,I,?_⟩;rintro aj X ⟨S4,Z,A,s4,g4,L,q4⟩;have o:=(r.trans g3).trans g4;refine⟨S4,Z,A,_,s4,L,q4,?_⟩;have n:∀c Y,SQ K A X (x5 p<|uw src.ok g w F p<|src.items.drop<|i+1) c Y -> ∃T,T < src.items.length-i/\∃f b a,u9 K a b Y/\Grow K j D a Y/\SRep K a Y f c/\i+1<=src.items.length/\T=src.items.length-(i+1)/\uw src.ok g w F p (src.items.drop<|i+1) f b:=λc Y z=>by obtain⟨S5,M5,P,s5,g5,N,q5⟩:=SQ.fgt (ρ:=j) (H:=D) U<|SQ.trans o z;exact⟨_,by lia,S5,M5,P,s5,g5,N,t,rfl,q5⟩
 exact⟨n,λv Y z=>G.rt v Y<|VQ.trans o z,λc Y z=>G.nx c Y<|SQ.trans o z,n⟩;have e:i=src.items.length:=by lia
 subst e;rw[List.drop_of_length_le<|u7 _]at B;obtain⟨ok,I⟩:=(show src.ok b/\F.nx f b from B)
 exact .inl ⟨it.stop a b l C r ok,G.nx τ l ⟨f,b,a,C,r,u,I⟩⟩
theorem LK(hi:DI X tg iter di)(S:DG X tg g)(d:MZ X b tb)(p:PassesOwn (i3 X.prog X.w) X.A X.env X.xe:=by exact PassesOwn.never)(f:X.calm=a9:=by rfl)(h:∀x,j5 iter X.env x=pure x:=by intro _;rfl):DS X (.For tg iter b [] pos) (kt di g tb):=PS.imp (JP p f hi S d h) DV
noncomputable def LP(t:Nat)(s:List Nat)(S:SD):SD:=Py t a8++s.map λj=>(S[j]?).join
def oB(ok:t8->Prop)(g:L9)(tt:F7)(te:v8)(Q:DK):List D->List D->SD->t8->Prop
 | [],a,S,M=>ok M/\Q (.ref M.length) (M++[.lst a])
 |x::s,a,S,M=>ok M/\g x S M λS2 M2=>tt S2 M2 λb M3=>if b=a9 then te S2 M3 λy M4=>a.length<sizeLine/\oB ok g tt te Q s (a++[y]) S2 M4 else oB ok g tt te Q s a S2 M3
def E6(t:Nat)(s:List Nat)(i:ME)(g:L9)(tt:F7)(te:v8):v8:=λS M Q=>i S M λsrc a=>oB src.ok g tt te Q src.items [] (LP t s S) a
theorem SRep.bst{K:u4}{ρ:List d5}{H:Hp}{S:SD}{σ:St}(r:SRep K ρ H S σ)(t:Nat)(s:List Nat):SRep K ρ H (LP t s S) (L2.bst t s σ):=by
 refine⟨by simp[LP,Cv],λi d e=>?_⟩;unfold LP at e;unfold L2.bst;by_cases hi:i<t;rw[J0 (by simpa using hi),QS]at e;simp[hi]at e;rw[MB (by simpa using M9.mp hi),QN,C8]at e;rw[MB (by simpa using M9.mp hi),QN,C8];cases q:s[i-t]? with
 |none=>rw[q]at e;cases e
 |some j =>
  rw[q]at e;have a:(S[j]?).join=a7 d:=by simpa using e
  cases b:S[j]? with
  |none=>rw[b]at a;cases a
  |some o=>rw[b]at a;have l:o=a7 d:=a;subst l;obtain⟨v,c,f⟩:=r.get j d b;exact⟨v,by simp[c],f⟩
theorem Bm{K:u4}{F:Nat}{E:List Nat}{V:ME}{g:L9}{tt:F7}{te:v8}(σ:St)(H:Hp)(R:VK)(h:lowE K (E6 F E V g tt te) σ H R):Q5 F E (lowI K V) (lowG K g) (lowT K tt) (lowE K te) σ H R:=by
 obtain⟨S,M,ρ,Q,s,Y,q,k⟩:=h;refine⟨S,M,ρ,_,s,Y,q,?_⟩;rintro J Z ⟨src,M1,u,s1,g1,it,q1⟩;refine⟨λi m vs τ f=>∃n c a acc,u9 K a c f/\Grow K u Z a f/\SRep K a f n τ/\Reps K a f acc vs/\i<=src.items.length/\m=src.items.length-i/\oB src.ok g tt te Q (src.items.drop i) acc n c,⟨_,_,M1,u,[],s1,.refl,(Y.grow g1).bst F E,.nil,z5 _,rfl,q1⟩,?_⟩;rintro i m vs τ f ⟨n,c,a,acc,B,r,N,A,hi,rfl,z⟩;by_cases t:i<src.items.length;have W:src.items[i]?=a7 src.items[i]:=w9 t;rw[uj W]at z;obtain⟨ok,G⟩:=(show src.ok c/\g src.items[i] n c _ from z)
 refine .inr ⟨it.go i a c f B r ok t,λx H3 y=>?_⟩;obtain⟨d,O,hd,s3,g3,r3⟩:=it.yld i a c f x H3 B r ok t y;have ed:d=src.items[i]:=A8<|hd.symm.trans W;subst ed;refine⟨_,n,c,O,_,s3,N.grow g3,r3,G,?_⟩;rintro ai H4 ⟨j,M4,T,s4,C,L,q4⟩;refine⟨j,M4,T,_,s4,L,q4,?_⟩;rintro b H5 ⟨w,P,s5,l,X⟩;have o:=((r.trans g3).trans C).trans l;cases b with
 |false=>exact bh ⟨_,by lia,j,w,P,acc,s5,o,L.grow l,A.grow<|(g3.trans C).trans l,t,rfl,(show oB src.ok g tt te Q (src.items.drop<|i+1) acc j w from X)⟩
 |true=>refine bj ⟨j,w,P,_,s5,L.grow l,(show te j w _ from X),?_⟩;rintro v H6 ⟨y',M6,U,s6,D,r6,hl,q6⟩;have I:=A.grow<|((g3.trans C).trans l).trans D;exact⟨by rw[<-A.length];exact hl,_,by lia,j,M6,U,acc++[y'],s6,o.trans D,L.grow<|l.trans D,I.append<|.cons r6 .nil,t,rfl,q6⟩
 have e:i=src.items.length:=by lia
 subst e;rw[List.drop_of_length_le<|u7 _]at z;obtain⟨ok,G⟩:=(show src.ok c/\Q (.ref c.length) (c++[.lst acc])from z)
 exact .inl ⟨it.stop a c f B r ok,λp hp=>k _ _<|VQ.laidL B (g1.trans r) A hp G⟩
theorem d_lc(B:BlkSc X N' nt js scope)(hi:DI X tg iter di)(S:∀cl s0 H0 ex,DG (A4 X N' scope cl s0 H0 ex) tg g) (D:∀cl s0 H0 ex,Nk (A4 X N' scope cl s0 H0 ex) ifs<|lowT X.K tt) (i:∀cl s0 H0 ex,DE (A4 X N' scope cl s0 H0 ex) elt te) (f:X.calm=a9:=by rfl)(h:∀x,j5 iter X.env x=pure x:=by intro _;rfl):DE X (.ListComp elt [⟨tg,iter,ifs,0⟩] scope pos) (E6 nt js di g tt te):=PE.imp (pe_lc (g:=lowG X.K g) (tt:=lowT X.K tt) (te:=lowE X.K te) B f hi (λcl s0 H0 ex=>S cl s0 H0 ex) D (λcl s0 H0 ex=>i cl s0 H0 ex) h) Bm
def xT:F7:=λ_ M Q=>Q a9 M
theorem Ip:Nk X [] (lowT X.K xT):=λp s σ H R I ⟨S,M,ρ,Q,m,e,q,k⟩=>Gx p s σ H R I<|k a9 H ⟨M,ρ,m,.refl,q⟩
theorem Io(h:DT X c t):Nk X [c] (lowT X.K t):=Gw h
def MP(M a:t8):Prop:=a.length=M.length/\∀(i:Nat) (m:MO),a[i]?=a7 m->M[i]?=a7 m\/Bels M.length m.items
theorem MP.refl:MP M M:=⟨rfl,λ_ _ h=>.inl h⟩
theorem MP.set(c:MP M M1)(b:Bels M.length mo.items):MP M (M1.set n mo):=by refine⟨by rw[J7];exact c.1,λi m h=>?_⟩;by_cases e:n=i;subst e;by_cases g:n<M1.length;rw[MA g]at h;cases h;exact .inr b;rw[Nw<|by rw[J7];lia]at h;cases h;rw[MX e]at h;exact c.2 i m h
def bb(M:t8)(R:DK):DK:=λd b=>R d b\/(∃a,MP M a/\C1 M.length d/\a <+: b/\R d a)\/∃a n x,MP M a/\d=.ref n/\M.length<=n/\b[n]?=a7 (.lst x)/\a <+: b/\Bels M.length x/\R (.ref M.length) (a++[.lst x])
theorem eG{α:Type}{l l':List α}(h:l <+: l'):l'.take l.length=l:=by obtain⟨t,rfl⟩:=h;rw[List.take_append_of_le_length<|u7 _,K9]
theorem VQ.endq{K:u4}{ρ:List d5}{M:t8}{H:Hp}{R:DK}{v:V}{H':Hp}(s:u9 K ρ M H)(h:VQ K ρ H (bb M R) v H'):VQ K ρ H R v H':=by
 obtain⟨d,E,D,s',x,r',Y⟩:=h;have k:D.take M.length=ρ:=by rw[<-s.len];exact eG x.pre
 rcases Y with q|⟨g,c,b,f,q⟩|⟨g,n,xs,c,rfl,X,e,f,b,q⟩
 exact⟨d,E,D,s',x,r',q⟩;have i:=s'.cut M.length λn r w e=>by
  have G:g[n]?=a7 r:=by obtain⟨t,rfl⟩:=f;rw[J0<|by rw[c.1];exact w]at e;exact e
  exact(c.2 n r G).elim (λz=>s.bels z) id
 have O:E.take M.length=g:=by rw[<-c.1];exact eG f
 rw[k,O]at i;have C:=r'.cut b;rw[k]at C;exact⟨d,g,ρ,i,⟨NJ,x.tup⟩,C,q⟩;have i:=s'.cut M.length λn r w e=>by
  have G:g[n]?=a7 r:=by obtain⟨t,rfl⟩:=f;rw[J0<|by rw[c.1];exact w]at e;exact e
  exact(c.2 n r G).elim (λz=>s.bels z) id
 have O:E.take M.length=g:=by rw[<-c.1];exact eG f
 rw[k,O]at i;obtain⟨a,rfl,w⟩:=t9.inv_ref r';obtain⟨vs,U,Z⟩:=s'.obj n a _ w e;have C:=Z.cut b;rw[k]at C;have Q:Grow K ρ H' (ρ++[a]) H':=⟨G3 _ _,λ_ _ h=>h⟩
 have B:∀(m:Nat),ρ[m]?=a7 a->Mi g[m]?:=λm J=>by
  have W:m≠n:=λz=>by
   have:m<M.length:=by rw[<-s.len];exact(x9.mp J).1
   lia
  have q:=s'.nd m n a W (aK x.pre J) w;have L:m<M.length:=by rw[<-s.len];exact(x9.mp J).1
  rcases q with⟨ds,z⟩|⟨ds,z⟩
  refine⟨ds,?_⟩;have o:m<g.length:=by rw[c.1];exact L
  have:=aK f<|w9 o;rw[z]at this;rw[w9 o];exact this.symm;rw[e]at z;cases z
 refine⟨.ref M.length,g++[.lst xs],ρ++[a],⟨λA S F y I l=>?_,by rw[A3,A3,i.len];rfl,λA F r I l=>?_⟩,⟨G3 _ _,x.tup⟩,.ref (by have:=i.last (p:=a);rw[c.1]at this;exact this),q⟩;rcases bg I with j|⟨j,P⟩
 rcases bg l with u|⟨u,T⟩
 exact(i.nd A S F y j u).elim (λz=>.inl z.more) λz=>.inr z.more;subst T;exact .inl (B A j).more;rcases bg l with u|⟨u,T⟩
 subst P;exact .inr (B S u).more;exact o4 (j.trans u.symm) y;rcases bg I with j|⟨j,P⟩
 have N:A<g.length:=by rw[<-i.len];exact(x9.mp j).1
 rw[J0 N]at l;exact(i.obj A F r j l).grow Q<|.inl rfl;subst P j;rw[i.len,MB<|u7 _,NU]at l;simp at l;subst l;exact⟨vs,U,C.grow Q⟩
noncomputable def cK(N:List c7)(d:List D):SD:=d.map a7++Py (N.length-d.length) a8
theorem SRep.start{K:u4}{ρ:List d5}{H:Hp}{s:List D}{f:List V}(r:Reps K ρ H s f)(N:List c7):SRep K ρ H (cK N s) (L2.start N f):=by
 refine⟨by simp[cK,L2.start,r.length],λi d e=>?_⟩;unfold cK at e;unfold L2.start;by_cases hi:i<s.length;rw[J0 (by simpa using hi),C8]at e;rw[J0 (by simpa [<-r.length]using hi),C8];have a:s[i]?=a7 d:=by rw[w9 hi]at e ⊢;simpa using e
 obtain⟨v,c,b⟩:=r.get a;exact⟨v,by rw[c];rfl,b⟩;rw[MB (by simpa using M9.mp hi),QS]at e;split at e<;>cases e
theorem d_fn{P:c9}{w:c8}{K:u4}{mg:c7->Option c6}{base:d7}{x l:c7}{st:i6}{f:d5}{e:k4}{N ps:List c7}{k:Nat}(d:w6)(F:MN K x l st f e)(i:FnScope N ps (av st))(B:∀u M R,d u M R->u.length=ps.length)(y:∀(cdv:c6) (A:f6) (outer:List Env) (s:f7) (H:Hp) (E:XK),Room k (A.deeper<|k7 l (av st) s.heap.objs.size f cdv) -> ∃t,MZ (uz E8 P w K mg base N l (av st) f cdv A outer s H E).nox (bV st) t/\∀u M R,d u M R->t ⟨λ_ M'=>bb M R .non M',bb M R,λ_ _=>False,λ_ _=>False⟩ (cK N u) M):FnOk P w K mg base E8 (k+1) f e ps (MY K d):=by refine F.ok i (λvs H Q E ⟨u,M,ρ,R,s,r,q,_⟩=>by rw[<-r.length];exact B u M R q) λcdv A outer s H vs Q E o h=>?_;obtain⟨u,M,ρ,R,m,r,q,D⟩:=h;obtain⟨t,p,n⟩:=y cdv A outer s H E o;refine⟨lowS K t,p,cK N u,M,ρ,_,m,SRep.start r N,n u M R q,⟨λc H' ⟨S,M',a,s',g,b,j⟩=>?_,λv H' z=>D v H'<|VQ.endq m z,λc H' ⟨S,M',a,s',g,b,j⟩=>j.elim,λc H' ⟨S,M',a,s',g,b,j⟩=>j.elim⟩⟩;exact D .non H'<|VQ.endq m ⟨.non,M',a,s',g,.non,j⟩
end
theorem dfin(I:r9 X p σ H s)(m:u9 X.K ρ M H)(k:∀v H',VQ X.K ρ H Q v H'->R v H')(c:cV d=a7 v)(r:aZ v u)(q:Q d M):EP X p σ R u s:=⟨v,H,I,r,k v H<|VQ.now m (Ct c) q⟩
theorem gY(I:r9 X p σ H s)(m:u9 X.K ρ M H)(k:∀v H',VQ X.K ρ H Q v H'->R v H')(q:Q (.bl b) M):EP X p σ R (.bool b) s:=⟨.bl b,H,I,rfl,k _ H<|VQ.now m (.bl b) q⟩
def qAdd:D9:=λx y M Q=>match x,y with
 |.int i,.int j=>Q (.int<|i+j) M
 |.str a,.str b=>a.length+b.length<=sizeLine/\Q (.str<|a++b) M
 |.ref n,.ref m=>∃xs s,M[n]?=a7 (.lst xs)/\M[m]?=a7 (.lst s)/\xs.length+s.length<=sizeLine/\Q (.ref M.length) (M++[.lst<|xs++s])
 |_,_=>False
theorem Kv:E3 X (j6 .Add) qAdd:=by refine C7.imp (Kj.or<|yz.or Ki) ?_;rintro v b H R ⟨x,y,M,ρ,Q,m,r,a,q,k⟩;unfold qAdd at q;split at q;cases r;cases a;exact .inl ⟨_,_,rfl,rfl,k _ H<|VQ.now m (.int _) q⟩;cases r;cases a;exact .inr<|.inl ⟨_,_,rfl,rfl,q.1,k _ H<|VQ.now m (.str _) q.2⟩;obtain⟨d,e,t,l,g,q⟩:=q;obtain⟨_,rfl,h1⟩:=t9.inv_ref r;obtain⟨_,rfl,h2⟩:=t9.inv_ref a;obtain⟨c,n,g1⟩:=m.obj _ _ _ h1 t;obtain⟨s,f,i⟩:=m.obj _ _ _ h2 l;exact .inr<|.inr ⟨_,_,c,s,rfl,rfl,n,f,by rw[<-g1.length,<-i.length];exact g,λp h=>k _ _<|VQ.laidL m .refl (g1.append i) h q⟩;exact q.elim
def JG:D9:=λx y M Q=>match x,y with
 |.int i,.int j=>Q (.int<|i-j) M
 |_,_=>False
theorem Ko:E3 X (j6 .Sub) JG:=by refine C7.imp Kd ?_;rintro g l H R ⟨x,y,M,ρ,Q,s,r,m,q,k⟩;unfold JG at q;split at q;cases r;cases m;exact⟨_,_,rfl,rfl,k _ H<|VQ.now s (.int _) q⟩;exact q.elim
def IW(i j:Int):Prop:=0<j/\j<340282366920938463463374607431768211456
theorem Dw:C7 X (j6 .FloorDiv) (rI IW λi j=>.int<|i / j):=O8 λi j _ _ _ _ _ f q=>by have h1:(0:Int)<j:=f.1;have h2:j<340282366920938463463374607431768211456:=f.2;have a:j.natAbs.log2<128:=(Nat.log2_lt<|by lia).mpr (by rw[show (2:Nat) ^ 128=340282366920938463463374607431768211456 by decide];lia);exact floordiv_int (by lia) (by rw[Int.fdiv_eq_ediv_of_nonneg i<|by lia];exact q)<|.inl<|PyProof.noPylong_of_log2<|by lia
def vB:D9:=λx y M Q=>match x,y with
 |.int i,.int j=>IW i j/\Q (.int<|i / j) M
 |_,_=>False
theorem GW:E3 X (j6 .FloorDiv) vB:=by refine C7.imp Dw ?_;rintro g l H R ⟨x,y,M,ρ,Q,s,r,m,q,k⟩;unfold vB at q;split at q;cases r;cases m;exact⟨_,_,rfl,rfl,q.1,k _ H<|VQ.now s (.int _) q.2⟩;exact q.elim
def Ax:D9:=λx y M Q=>match x,y with
 |.int i,.int j=>0<j/\Q (.int<|i % j) M
 |_,_=>False
theorem Kr:E3 X (j6 .Mod) Ax:=by refine C7.imp Kh ?_;rintro g l H R ⟨x,y,M,ρ,Q,s,r,m,q,k⟩;unfold Ax at q;split at q;cases r;cases m;exact⟨_,_,rfl,rfl,q.1,k _ H<|VQ.now s (.int _) q.2⟩;exact q.elim
noncomputable def eW(a b:c7):Bool:=decide<|a.cps.toList<b.cps.toList
def Nj:D9:=λx y M Q=>match x,y with
 |.int i,.int j=>Q (.bl<|decide<|i<j) M
 |.str a,.str b=>Q (.bl<|eW a b) M
 |_,_=>False
def OI:D9:=λx y M Q=>match x,y with
 |.int i,.int j=>Q (.bl<|decide<|i<=j) M
 |.str a,.str b=>Q (.bl<|!eW b a) M
 |_,_=>False
def NA:D9:=λx y M Q=>match x,y with
 |.int i,.int j=>Q (.bl<|decide<|j<i) M
 |.str a,.str b=>Q (.bl<|eW b a) M
 |_,_=>False
theorem Kt:E3 X (j7 .Lt) Nj:=by rintro p s σ H b l v u R I g i ⟨x,y,M,ρ,Q,a,r,m,q,k⟩;unfold Nj at q;split at q;cases r;cases m;exact op_lt p s σ H _ _ v u R I g i ⟨_,_,rfl,rfl,k _ H<|VQ.now a (.bl _) q⟩;cases r;cases m;obtain⟨t,rfl⟩:=g;obtain⟨t',rfl⟩:=i;exact PySem.P.lt_str<|gY I a k q;exact q.elim
theorem od_le:E3 X (j7 .LtE) OI:=by rintro p s σ H b l v u R I g i ⟨x,y,M,ρ,Q,a,r,m,q,k⟩;unfold OI at q;split at q;cases r;cases m;exact op_le p s σ H _ _ v u R I g i ⟨_,_,rfl,rfl,k _ H<|VQ.now a (.bl _) q⟩;cases r;cases m;obtain⟨t,rfl⟩:=g;obtain⟨t',rfl⟩:=i;exact PySem.P.le_str<|gY I a k q;exact q.elim
theorem od_gt:E3 X (j7 .Gt) NA:=by rintro p s σ H b l v u R I g i ⟨x,y,M,ρ,Q,a,r,m,q,k⟩;unfold NA at q;split at q;cases r;cases m;exact op_gt p s σ H _ _ v u R I g i ⟨_,_,rfl,rfl,k _ H<|VQ.now a (.bl _) q⟩;cases r;cases m;obtain⟨t,rfl⟩:=g;obtain⟨t',rfl⟩:=i;exact PySem.P.gt_str<|gY I a k q;exact q.elim
def O7:D9:=λx y M Q=>match x,y with
 |.bl a,.bl b=>Q (.bl<|a==b) M
 |.non,.non=>Q (.bl a9) M
 |_,.non=>Q (.bl c5) M
 |_,_=>False
def iJ:D9:=λx y M Q=>match x,y with
 |.bl a,.bl b=>Q (.bl<|a != b) M
 |.non,.non=>Q (.bl c5) M
 |_,.non=>Q (.bl a9) M
 |_,_=>False
theorem Au{K:u4}{ρ:List d5}{H:Hp}{x:D}{v:V}(r:t9 K ρ H x v)(h:x≠.non):v≠.non:=by cases r<;>first|exact o4 rfl h|(intro z;cases z)
theorem od_is:E3 X (j7 .Is) O7:=by
 rintro p s σ H b l v u R I g i ⟨x,y,M,ρ,Q,a,r,m,q,k⟩;unfold O7 at q;split at q;cases r;cases m;cases g;cases i;exact is_bool<|gY I a k q;cases r;cases m;cases g;cases i;exact is_none_gen<|dfin (d:=.bl a9) I a k rfl rfl q;rename_i h1 h2;cases m;cases i;refine is_none_gen<|dfin (d:=.bl c5) I a k rfl ?_ q;have:=Au r λz=>by subst z;exact h2 rfl
 rw[g.none_iff,dF_ this];rfl;exact q.elim
theorem DM:E3 X (j7 .IsNot) iJ:=by
 rintro p s σ H b l v u R I g i ⟨x,y,M,ρ,Q,a,r,m,q,k⟩;unfold iJ at q;split at q;cases r;cases m;cases g;cases i;exact isnot_bool<|gY I a k q;cases r;cases m;cases g;cases i;exact isnot_none_gen<|dfin (d:=.bl c5) I a k rfl rfl q;rename_i h1 h2;cases m;cases i;refine isnot_none_gen<|dfin (d:=.bl a9) I a k rfl ?_ q;have:=Au r λz=>by subst z;exact h2 rfl
 rw[g.none_iff,dF_ this];rfl;exact q.elim
noncomputable def tyD(M:t8):D->String
 |.non=>"NoneType"
 |.bl _=>"bool"
 |.int _=>"int"
 |.str _=>"str"
 |.ty _=>"type"
 |.tup _=>"tuple"
 |.ref n=>match M[n]? with
  |some mo=>if mo.isL=a9 then "list" else "?"
  |none=>"?"
def nj:D1:=λd M Q=>match d with
 | [.str x]=>x.length<=sizeLine/\Q (.int x.length) M
 | [.tup s]=>Q (.int s.length) M
 | [.ref n]=>∃s,aA M n s/\Q (.int s.length) M
 |_=>False
theorem LZ:lq X (.builtin "len") nj:=by
 refine jw.imp (uD.or uC) ?_;rintro v H R ⟨d,M,ρ,Q,m,a,q,k⟩;unfold nj at q;split at q
 first|have z:=Reps.inv_cons a|have z:=aB.inv_cons a
 clear a;obtain⟨_,_,rfl,b,a⟩:=z;cases a;cases b;exact .inr ⟨_,rfl,q.1,k _ H<|VQ.now m (.int _) q.2⟩
 first|have z:=Reps.inv_cons a|have z:=aB.inv_cons a
 clear a;obtain⟨_,_,rfl,b,a⟩:=z;cases a;cases b with
 |tup h r=>exact .inl ⟨_,_,rfl,.inr h,k _ H<|VQ.now m (by rw[<-r.length];exact .int _) q⟩
 obtain⟨x,L,q⟩:=q
 first|have z:=Reps.inv_cons a|have z:=aB.inv_cons a
 clear a;obtain⟨_,_,rfl,b,a⟩:=z;cases a;obtain⟨_,rfl,e⟩:=t9.inv_ref b;obtain⟨s,c,r⟩:=aA.seq m L e;exact .inl ⟨_,_,rfl,.inl c,k _ H<|VQ.now m (by rw[<-r.length];exact .int _) q⟩;exact q.elim
noncomputable def bls(s:List Bool):List D:=s.map .bl
theorem Reps.bls{K:u4}{ρ:List d5}{H:Hp}:∀{bs:List Bool}{v:List V},Reps K ρ H (L2.bls bs) v->v=bs.map V.bl
 | [],_,h=>by cases h;rfl
 |b::bs,_,h=>by
  cases h with
  |cons r t=>cases r;rw[Reps.bls t];rfl
theorem wD:∀{bs:List Bool}{u:List c6},aB (bs.map V.bl) u->u=bs.map Oe
 | [],_,h=>by cases h;rfl
 |b::bs,_,h=>by
  cases h with
  |cons r t=>cases r;rw[wD t];rfl
theorem zk{pins:List (d5×d6)}{σ:St}{H:Hp}{s:f7}{a:d5}{c:List Bool}{G:f7->Prop}(I:r9 X pins σ H s)(z:X.calm=a9)(C:K4 X.K H a (c.map V.bl))(j:∀s',r9 X pins σ H s'->G s'):∀(E:c6->f7->Prop),ge (i3 X.prog X.w) X.A.in1 (j3<|.ref a) (λit s₂=>∃I fp wr n P St tr,it=G1 I/\m7 X.prog X.w X.A.in1 I fp wr n P St/\St 0 s₂.heap/\TruthOf X.prog X.w X.A.in1 P tr /\ (n=c.length/\(∀i,i<c.length->tr i=c.getD i c5))/\∀h' tk,(∀b o,b∉wr->s₂.heap.get? b=a7 o->h'.get? b=a7 o)->G { s₂ with heap:=h',toks:=tk }) E s:=by
 intro E;obtain⟨its,F,p,L⟩:=I.list C;have d:=wD F;subst d;have l:=p.isList;have t:a<s.heap.objs.size:=by obtain⟨o,n,e,_⟩:=p;exact v9 e
 refine Qy l ?_;have k:r9 X pins σ H { s with heap:=s.heap.push { cls:=.type "list_iterator",data:=.fields #[.ref a,.int 0 0] } }:=I.kept (t':=s.toks) λb o e=>v5 _ e;refine⟨s.heap.objs.size,_,_,_,_,_,λi=>c.getD i c5,rfl,Walks.list (A:=X.A.in1) (I.ok.hd z) s.heap.objs.size a (x6 t) (c.map Oe).toArray,⟨⟨_,A1 _ rfl,rfl,rfl⟩,l.push _⟩,?_,⟨by simp,λi _=>rfl⟩,λh' tk D=>?_⟩;intro i v s' Q' J B Q;have h:(c.map Oe).toArray[i]?=a7 v:=B;rw[List.getElem?_toArray,C8]at h;cases e:c[i]? with
 |none=>rw[e]at h;cases h
 |some b =>
  rw[e]at h;cases h;refine N4 ?_;have:c.getD i c5=b:=by rw[G6,e];rfl
  have g:Q' (c.getD i c5) s':=Q;rw[this]at g;exact g
 have f:=I.fpOk (H':=H) (u7 _)<|I.hok.fresh<|u7 _;obtain⟨m,q,M,r,u,y⟩:=f;exact j _<|k.turned (t':=tk) (it:=s.heap.objs.size) (λb o x e=>D b o (by simpa using x) e) m q r u y
theorem CA{s:List Bool}{tr:Nat->Bool}(h:∀i,i<s.length->tr i=s.getD i c5):(A9 s.length).any tr=s.any id:=by rw[NZ,L4,L4];constructor;rintro⟨i,hi,g⟩;have a:=G4.mp hi;rw[h i a,G6,w9 a]at g;exact⟨_,Mg a,g⟩;rintro⟨b,hb,g⟩;obtain⟨i,hi,e⟩:=List.mem_iff_getElem.mp hb;refine⟨i,G4.mpr hi,?_⟩;rw[h i hi,G6,w9 hi,e];exact g
def IZ:D1:=λd M Q=>match d with
 | [.ref n]=>∃s,aA M n (bls s)/\Q (.bl<|s.any id) M
 |_=>False
theorem Ma(i:X.calm=a9:=by rfl):lq X (.builtin "any") IZ:=by
 rintro p s σ H vs us R I v ⟨y,M,ρ,Q,m,a,q,k⟩;unfold IZ at q;split at q;obtain⟨c,L,q⟩:=q
 first|have z:=Reps.inv_cons a|have z:=aB.inv_cons a
 clear a;obtain⟨_,_,rfl,j,a⟩:=z;cases a;obtain⟨u,rfl,t⟩:=aB.one v;obtain⟨_,rfl,e⟩:=t9.inv_ref j;cases t;obtain⟨x,h,r⟩:=aA.seq m L e;rw[r.bls]at h;refine call_any_walk<|v4 (zk (G:=λs'=>EP X p σ R (.bool<|c.any id) s') I i h (λs' b=>gY b m k q) _) ?_;rintro it o ⟨J,C,w,n,P,Sx,tr,t,W,st,T,⟨d,g⟩,f⟩;subst d;exact⟨J,C,w,_,P,Sx,tr,t,W,st,T,λh' l D=>by rw[CA g];exact f h' l D⟩;exact q.elim
end L2
namespace L2
open PySem PySem.Spec PyProof.Rows DL _root_.HT
theorem qT{t m:d5}{items:Array c6}{v u:c6}{l hi:Option Int}{Q:c6->f7->Prop}(D:IsTup s.heap t items)(i:s.heap.IsSliceOf m v u .none)(p:k8 v l)(f:k8 u hi)(d:sIx items.size 0 l=0/\sIx items.size items.size hi=items.size) (h:Q (.ref t) s):ge (i3 g w) A (k9 (.ref t)<|.ref m) Q E s:=by
 obtain⟨o,b,c,e⟩:=id i;have a:s.TypeIs (.ref m) "slice":=⟨o,b,c⟩
 unfold k9
 try with_reducible refine D7 ?_
 first|refine p8 (t4 ?_)|skip
 refine p8<|wpAny_sequenceKey D.typeIs (by decide)<|p8<|Nh (name:=AA0 "__getitem__") D.typeIs O5<|K1 O5 D.typeIs entry_tuple_getitem ?_<|args_tuple_getitem _ _;refine(show ge (i3 g w) _ (QZ (.ref t) >>= _) _ _ s from p8<|tupleItemsOf_ D<|p8<|MS a ?_);rw[n9<|by decide];refine p8<|fX i p f ?_;refine(show ge (i3 g w) _ (if (((sIx items.size 0 l:Nat):Int)==0&&(1:Int)==1&&(sIx items.size items.size hi-sIx items.size 0 l)==items.size)=a9 then _ else _) _ _ s from ?_);rw[n9<|by rw[d.1,d.2];simp];unfold Builtin.Tuple.tupleIsExact;refine p8<|p8<|MS D.typeIs<|t4 ?_;rw[n9<|by decide];exact p8<|MQ<|t4 ⟨_,rfl,t4 h⟩
end L2
namespace L2
open PySem PySem.Spec PyProof.Rows DL
section
variable{X:Cx}{a b:h8}{ta tb:v8}{pos:Pos}
theorem Ms.imp(h:Ms X r')(i:∀x y H R,r x y H R->r' x y H R):Ms X r:=λa e p s σ H x y v u R I g b q c=>h a e p s σ H x y v u R I g b (i x y H R q) c
theorem Reps.atI{K:u4}{ρ:List d5}{H:Hp}{s:List D}{f:List V}{i:Int}{d:D}(r:Reps K ρ H s f)(h:L2.atI s i=a7 d):∃v,L2.atI f i=a7 v/\t9 K ρ H d v:=by
 unfold L2.atI at h ⊢;rw[r.length]at h;cases e:MK f.length i with
 |none=>rw[e]at h;cases h
 |some j=>rw[e]at h;obtain⟨v,c,a⟩:=r.get<|show s[j]?=a7 d from h;exact⟨v,c,a⟩
def u3:D9:=λx y M Q=>match x,y with
 |.tup s,.int i=>match L2.atI s i with
  |some d=>Q d M
  |none=>False
 |.str z,.int i=>z.length<=sizeLine/\match L2.atI z.cps.toList i with
  |some c=>Q (.str ⟨#[c]⟩) M
  |none=>False
 |.ref n,.int i=>∃s,aA M n s/\match L2.atI s i with
  |some d=>Q d M
  |none=>False
 |_,_=>False
theorem HQ:Ms X (lowR X.K u3):=by refine Ms.imp La ?_;rintro p s H R ⟨x,y,M,ρ,Q,m,b,f,q,k⟩;unfold u3 at q;split at q;rename_i t i;split at q;rename_i d e;cases f;obtain⟨_,_,rfl,h,r⟩:=t9.inv_tup b;obtain⟨v,a,g⟩:=r.atI e;exact .inr<|.inl ⟨_,_,_,v,rfl,rfl,h,a,k _ H<|VQ.now m g q⟩;exact q.elim;rename_i z i;obtain⟨o,q⟩:=q;split at q;rename_i c e;cases f;cases b;exact .inr<|.inr ⟨z,i,c,rfl,rfl,o,e,k _ H<|VQ.now m (.str _) q⟩;exact q.elim;rename_i n i;obtain⟨t,L,q⟩:=q;split at q;rename_i d e;cases f;obtain⟨_,rfl,j⟩:=t9.inv_ref b;obtain⟨u,l,r⟩:=aA.seq m L j;obtain⟨v,a,g⟩:=r.atI e;exact .inl ⟨_,_,_,v,rfl,rfl,l,a,k _ H<|VQ.now m g q⟩;exact q.elim;exact q.elim
theorem d_ix(f:DE X a ta)(d:DE X b tb)(h:wy b:=by intro _ _;rfl):DE X (.Subscript a b pos) (p9 u3 ta tb):=PE.imp (pe_ix HQ f d h) qH
abbrev Oc:=SD->t8->(Option Int->t8->Prop)->Prop
def Ky(K:u4)(t:Oc):TO:=λσ H R=>∃S M ρ Q,u9 K ρ M H/\SRep K ρ H S σ/\t S M Q/\∀o H',(∃b a,u9 K a b H'/\Grow K ρ H a H'/\Q o b)->R o H'
def dF:Oc:=λ_ M Q=>Q a8 M
def fP(t:v8):Oc:=λS M Q=>t S M λx a=>match x with
 |.int i=>Q (a7 i) a
 |_=>False
theorem PO.imp(h:PO X e t')(i:∀σ H R,t σ H R->t' σ H R):PO X e t:=λp s σ H R I q=>h p s σ H R I<|i σ H R q
theorem Iy:PO X a8 (Ky X.K dF):=by refine PO.imp GD ?_;rintro σ H R ⟨S,M,ρ,Q,s,e,q,k⟩;exact k a8 H ⟨M,ρ,s,.refl,q⟩
theorem Iw(h:DE X e te):PO X (a7 e) (Ky X.K<|fP te):=by
 refine PO.imp (GC h) ?_;rintro σ H R ⟨S,M,ρ,Q,s,j,q,k⟩;refine⟨S,M,ρ,_,s,j,q,?_⟩;rintro v b ⟨d,f,c,g,g1,r,a⟩;cases r with
 |int i=>exact⟨i,rfl,k _ b ⟨f,c,g,g1,a⟩⟩
 |_=>exact a.elim
theorem JA:Ph X (λx lo hi H Q=>∃z,x=.str z/\z.length<=sizeLine/\Q (.str<|K7 z lo hi) H):=by
 intro b s σ H x v w y lo hi n Q I r hs f m h;obtain⟨z,rfl,d,q⟩:=h;obtain⟨t,rfl⟩:=r;have a:∀{v:c6}{o:Option Int},k8 v o->∃p:Option (Int×Tok),v=partValue p/\p.map (·.1)=o:=λh=>by
  cases h with
  |none=>exact⟨a8,rfl,rfl⟩
  |int i t=>exact⟨a7 (i,t),rfl,rfl⟩
 obtain⟨g,rfl,e⟩:=a f;obtain⟨j,rfl,c⟩:=a m;subst e c;refine⟨"str",_,slot_str_getitem.lookup,l3 _ _ _,wpAny_getItem_str_slice (l:=g) (u:=j) (st:=a8) hs rfl ?_⟩;exact post_val_or_str ⟨D4 (Txt.slice_le z _ _) d,λt' k=>⟨.str _,H,I.tok k,⟨t',rfl⟩,q⟩⟩
noncomputable def cutD(x:List D)(l hi:Option Int):List D:=(x.drop<|HT.sIx x.length 0 l).take<|HT.sIx x.length x.length hi-HT.sIx x.length 0 l
theorem Reps.cutD{K:u4}{ρ:List d5}{H:Hp}{d:List D}{v:List V}(r:Reps K ρ H d v)(l hi:Option Int):Reps K ρ H (L2.cutD d l hi) (FQ v l hi):=by unfold L2.cutD FQ;rw[r.length];exact(r.drop _).take _
def P8:D->Option Int->Option Int->t8->DK->Prop:=λx l hi M Q=>match x with
 |.str z=>z.length<=sizeLine/\Q (.str<|K7 z l hi) M
 |.ref n=>∃s,aA M n s/\Q (.ref M.length) (M++[.lst<|cutD s l hi])
 |.tup s=>Q (.tup<|cutD s l hi) M
 |_=>False
def lowSl(K:u4)(r:D->Option Int->Option Int->t8->DK->Prop):V->Option Int->Option Int->Hp->VK->Prop:=λg l hi H R=>∃x M ρ Q,u9 K ρ M H/\t9 K ρ H x g/\r x l hi M Q/\∀v H',VQ K ρ H Q v H'->R v H'
theorem sld:Ph X (lowSl X.K P8):=by
 rintro b s σ H x v o t l hi j R I g hs c u ⟨d,M,ρ,Q,m,i,q,k⟩;unfold P8 at q;split at q;cases i;exact JA b s σ H _ v o t l hi j R I g hs c u ⟨_,rfl,q.1,k _ H<|VQ.now m (.str _) q.2⟩;obtain⟨xs,L,q⟩:=q;obtain⟨_,rfl,y⟩:=t9.inv_ref i;obtain⟨vs,z,r⟩:=aA.seq m L y;exact Gg b s σ H _ v o t l hi j R I g hs c u ⟨_,vs,rfl,z,λp f=>k _ _<|VQ.laidL m .refl (r.cutD l hi) f q⟩;obtain⟨_,_,rfl,h,r⟩:=t9.inv_tup i;rename_i xs a vs;by_cases w:HT.sIx xs.length 0 l=0/\HT.sIx xs.length xs.length hi=xs.length;cases g;obtain⟨its,A,D,B⟩:=I.tuple h;have n:its.toArray.size=xs.length:=by rw[z7,r.length];exact A.length.symm
 have e:L2.cutD xs l hi=xs:=by unfold L2.cutD;rw[w.1,w.2,Qh,Nat.sub_zero,K9]
 rw[e]at q;exact⟨"tuple",_,O5.lookup,D.typeIs,qT D hs c u (by rw[n];exact w) ⟨.ref _,H,I,rfl,k _ H<|VQ.now m (.tup h r) q⟩⟩;exact Jz b s σ H _ v o t l hi j R I g hs c u ⟨_,_,rfl,h,by rw[<-r.length];exact w,λp f=>k _ _<|VQ.laidT m .refl (r.cutD l hi) f q⟩;exact q.elim
def Ml(te:v8)(t h:Oc):v8:=λS M Q=>te S M λx a=>t S a λl b=>h S b λu M3=>P8 x l u M3 Q
theorem IE{e:h8}{te:v8}{o hi:Option h8}{t h:Oc}{p:Pos}(j:DE X e te)(m:PO X o (Ky X.K t))(n:PO X hi (Ky X.K h)):DE X (.Subscript e (.Slice o hi a8 p) pos) (Ml te t h):=by refine PE.imp (Dr sld j m n) ?_;rintro σ H R ⟨S,M,ρ,Q,s,r,q,k⟩;refine⟨S,M,ρ,_,s,r,q,?_⟩;rintro v E ⟨d,f,c,B,g1,A,x⟩;refine⟨S,f,c,_,B,r.grow g1,x,?_⟩;rintro l F ⟨g,a,C,i,y⟩;refine⟨S,g,a,_,C,r.grow<|g1.trans i,y,?_⟩;rintro u G ⟨M3,b,D,g3,z⟩;exact⟨d,M3,b,Q,D,A.grow<|i.trans g3,z,λv H' w=>k v H'<|VQ.trans ((g1.trans i).trans g3) w⟩
def qj:D9:=λx y M Q=>match x,y with
 |.int i,.int j=>CMul i j/\Q (.int<|i*j) M
 |.str z,.int n=>(0<=n/\n<2 ^ 63/\z.length*n.toNat<=sizeLine)/\Q (.str<|Txt.mul z n) M
 |_,_=>False
theorem vP(b:0<=n)(h:z.length*n.toNat<=sizeLine)(f:n<2 ^ 63):MulOk z n:=by
 refine⟨?_,λh1 h2=>?_,λh1 h2=>?_⟩;have a:decide (n < -(2 ^ 63:Int))=c5:=dF_ (by lia);have l:decide (n ≥ 2 ^ 63)=c5:=dF_ (by lia);rw[a,l];rfl;have c:(z.length:Int)*n<=2 ^ 24:=by
  have e:((z.length*n.toNat:Nat):Int)=(z.length:Int)*n:=by rw[Int.natCast_mul,Int.toNat_of_nonneg b]
  have h':((z.length*n.toNat:Nat):Int)<=(2 ^ 24:Nat):=Int.ofNat_le.mpr h;rw[e]at h';exact h'
 have s:0<n:=by lia
 intro t;have:=Int.lt_of_lt_of_le (Int.lt_mul_of_ediv_lt s t) c;lia;unfold PySem.Builtin.Str.tooLong;simpa using h
theorem GV:E3 X (j6 .Mult) qj:=by
 rintro p s σ H b l v u R I g i ⟨x,y,M,ρ,Q,a,r,m,q,k⟩;unfold qj at q;split at q;cases r;cases m;exact Kg p s σ H _ _ v u R I g i ⟨_,_,rfl,rfl,q.1,k _ H<|VQ.now a (.int _) q.2⟩;rename_i z n;cases r;cases m;obtain⟨t,rfl⟩:=g;obtain⟨t',rfl⟩:=i;obtain⟨⟨h,h2,h1⟩,q⟩:=q;exact PySem.SB.mul (vP h h1 h2) λt' j=>⟨.str _,H,I.tok j,⟨t',rfl⟩,k _ H<|VQ.now a (.str _) q⟩
 exact q.elim
variable{o e:h8}{es:List h8}{to:v8}{t:H9}{name:c7}{apos cpos:Pos}{id:String}
def DY(K:u4)(r:c7->D1):V->List V->Hp->VK->Prop:=λg s H R=>∃z d M ρ Q,g=.str z/\u9 K ρ M H/\Reps K ρ H d s/\r z d M Q/\∀v H',VQ K ρ H Q v H'->R v H'
def qG(K:u4)(r:Nat->D1):V->List V->Hp->VK->Prop:=λg s H R=>∃n a d M ρ Q,g=.ref a/\ρ[n]?=a7 a/\u9 K ρ M H/\Reps K ρ H d s/\r n d M Q/\∀v H',VQ K ρ H Q v H'->R v H'
def Pb(r:c7->D1)(e:v8)(t:H9):v8:=λS M Q=>e S M λx a=>match x with
 |.str z=>t S a λd b=>r z d b Q
 |_=>False
def K3(r:Nat->D1)(e:v8)(t:H9):v8:=λS M Q=>e S M λx a=>match x with
 |.ref n=>(∃s,aA a n s)/\t S a λd b=>r n d b Q
 |_=>False
theorem d_ms(slot:Slot "str" name id)(y:typeOf (.builtin id)=pure (.type "method_descriptor"))(u:Mm X id (DY X.K r))(B:DE X o to)(p:DA X (e::es) t)(b:l6 o name X.env (eval o X.env)=eval o X.env:=by rfl)(h:((i4 cpos<|i5 (e::es) X.env).all (λx=>!x.1)&&(l7 cpos<|l8 [] X.env).all (λx=>x.1.isSome) && decide ((e::es).length+([]:List l9).length+(if ([]:List l9).isEmpty then 0 else 1)<30))=a9:=by rfl)(c:(apos.endLine==cpos.line)=a9:=by rfl) (hs:i5 (e::es) X.env=(c5,eval e X.env)::i5 es X.env:=by rfl) (n:(i4 cpos<|i5 es X.env).any (·.1)=c5:=by rfl):DE X (.Call (.Attribute o name apos) (e::es) [] cpos) (Pb r to t):=by
 refine PE.imp (Ka PySem.F.plainAttrs_str slot y u B p b h c hs n) ?_;rintro σ H R ⟨S,M,ρ,Q,s,i,q,k⟩;refine⟨S,M,ρ,_,s,i,q,?_⟩;rintro v I ⟨d,j,a,E,g1,C,g⟩;cases C with
 |str z=>exact⟨rfl,S,j,a,_,E,i.grow g1,g,λvs J ⟨ds,l,f,G,m,D,A⟩=>⟨z,ds,l,f,Q,rfl,G,D,A,λv H' w=>k v H'<|VQ.trans (g1.trans m) w⟩⟩
 |_=>exact g.elim
theorem d_ml(slot:Slot "list" name id)(y:typeOf (.builtin id)=pure (.type "method_descriptor"))(C:Mm X id (qG X.K r))(D:DE X o to)(B:DA X (e::es) t)(b:l6 o name X.env (eval o X.env)=eval o X.env:=by rfl)(f:((i4 cpos<|i5 (e::es) X.env).all (λx=>!x.1)&&(l7 cpos<|l8 [] X.env).all (λx=>x.1.isSome) && decide ((e::es).length+([]:List l9).length+(if ([]:List l9).isEmpty then 0 else 1)<30))=a9:=by rfl)(c:(apos.endLine==cpos.line)=a9:=by rfl) (hs:i5 (e::es) X.env=(c5,eval e X.env)::i5 es X.env:=by rfl) (h:(i4 cpos<|i5 es X.env).any (·.1)=c5:=by rfl):DE X (.Call (.Attribute o name apos) (e::es) [] cpos) (K3 r to t):=by
 refine PE.imp (Ka PySem.F.plainAttrs_list slot y C D B b f c hs h) ?_;rintro σ H R ⟨S,M,ρ,Q,s,z,q,k⟩;refine⟨S,M,ρ,_,s,z,q,?_⟩;rintro v O ⟨d,i,j,u,g1,I,g⟩;cases I with
 |@ref n a p =>
  obtain⟨⟨xs,L⟩,g⟩:=(show (∃xs,aA i n xs)/\t S i _ from g)
  obtain⟨vs,E,_⟩:=aA.seq u L p;refine⟨.inl ⟨rfl,vs,E⟩,S,i,j,_,u,z.grow g1,g,?_⟩;rintro vs P ⟨ds,A,l,N,m,J,G⟩;exact⟨n,a,ds,A,l,Q,rfl,aK m.pre p,N,J,G,λv H' w=>k v H'<|VQ.trans (g1.trans m) w⟩
 |_=>exact g.elim
def bF(n:Nat):D1:=λs M Q=>match s with
 | [d]=>∃xs,M[n]?=a7 (.lst xs)/\xs.length<sizeLine/\Q .non (M.set n<|.lst<|xs++[d])
 |_=>False
theorem yG:Mm X "list.append" (qG X.K bF):=by
 rintro p s σ H x xs v y R I l j ⟨n,a,ds,M,ρ,Q,c,b,m,f,q,k⟩;unfold bF at q;split at q;rename_i d;obtain⟨ys,e,g,q⟩:=q
 first|have z:=Reps.inv_cons f|have z:=aB.inv_cons f
 clear f;obtain⟨_,_,rfl,i,f⟩:=z;cases f;obtain⟨u,h,r⟩:=m.obj n a _ b e;obtain⟨L,w⟩:=m.write b e h<|r.append<|.cons i .nil;exact Bh p s σ H x _ v y R I l j ⟨a,u,_,c,rfl,h,by rw[<-r.length];exact g,k _ _ ⟨.non,_,ρ,L,w,.non,q⟩⟩;exact q.elim
end
def ca(K:u4)(mg:c7->Option c6)(x:c7)(st:i6)(p:List c7):Prop:=∃f d,MN K x x st f d/\mg x=a7 (.ref f)/\uN K d p []
def u8(P:c9)(w:c8)(K:u4)(mg:c7->Option c6)(base:d7)(k:Nat)(x:c7)(p:List c7)(r:w6):Prop:=∃f d,FnOk P w K mg base E8 k f d p (MY K r)/\mg x=a7 (.ref f)/\NX K (.ref f)=a9/\uN K d p []
theorem fnat_mk{K:u4}{h:d7}{mg:c7->Option c6}{x:c7}{st:i6}{p:List c7}{f:d5}{oc:c6}{j M:Option d5}{o:Array (Option c6)}{kV i U v R:c6}(X:K.In h) (G:h.Ns e8 mg) (a:PySem.W.nsIn K e8 x=a7 (a7<|.ref f))(l:K.lookup f=a7 ⟨oc,j,.func<|NF x x (ju st) (bV st) (av st) .none kV i U M v R,o⟩)(c:Qj K v x=a9) (k:NX K (.ref f)=a9)(h:∀(kV i U:c6) (M:Option d5) (v R:c6) (u:List c6),u.length=p.length->bindArgs (NF x x (ju st) (bV st) (av st) .none kV i U M v R) ⟨u,[]⟩=pure (p.zip u)):ca K mg x st p:=have F:=Lv (st:=st) l c k
 ⟨f,_,F,PySem.W.mg_of X G a,F.binds h⟩
theorem u8.of{P:c9}{w:c8}{K:u4}{mg:c7->Option c6}{base:d7}{x:c7}{st:i6}{N g:List c7}{k:Nat}{d:w6}(F:ca K mg x st g)(i:FnScope N g (av st))(B:∀e M R,d e M R->e.length=g.length) {t:s9}(r:∀(f:d5) (cdv:c6) (A:f6) (outer:List Env) (s:f7) (H:Hp) (E:XK),Room k (A.deeper<|k7 x (av st) s.heap.objs.size f cdv)->MZ (uz E8 P w K mg base N x (av st) f cdv A outer s H E).nox (bV st) t)(p:∀e M R,d e M R->t ⟨λ_ M'=>bb M R .non M',bb M R,λ_ _=>False,λ_ _=>False⟩ (cK N e) M):u8 P w K mg base (k+1) x g d:=by obtain⟨f,b,a,m,h⟩:=F;exact⟨f,b,d_fn d a i B λcdv A outer s H E c=>⟨t,r f cdv A outer s H E c,p⟩,m,a.kp,h⟩
theorem Ij{P:c9}{w:c8}{K:u4}{mg:c7->Option c6}{base:d7}{x:c7}{st:i6}{N c:List c7}{k:Nat}{d:w6}{f:d5}{a:k4}(F:MN K x x st f a)(i:FnScope N c (av st))(B:∀b M R,d b M R->b.length=c.length) {t:s9}(r:∀(f:d5) (cdv:c6) (A:f6) (outer:List Env) (s:f7) (H:Hp) (E:XK),Room k (A.deeper<|k7 x (av st) s.heap.objs.size f cdv)->MZ (uz E8 P w K mg base N x (av st) f cdv A outer s H E).nox (bV st) t)(p:∀b M R,d b M R->t ⟨λ_ M'=>bb M R .non M',bb M R,λ_ _=>False,λ_ _=>False⟩ (cK N b) M):FnOk P w K mg base E8 (k+1) f a c (MY K d):=d_fn d F i B λcdv A outer s H E h=>⟨t,r f cdv A outer s H E h,p⟩
theorem d_cal(C:u8 X.prog X.w X.K X.mg X.base j x g P)(r:Room k X.A)(a:DA X (e::s) t)(L:j<=k:=by decide)(S:Gl X x:=by rfl) (b:(x==("__debug__":c7))=c5:=by decide) (i:i5 (e::s) X.env=(c5,eval e X.env)::i5 s X.env:=by rfl) (l:(i4 pos<|i5 s X.env).any (·.1)=c5:=by rfl):DE X (.Call (.Name x p) (e::s) [] pos) (t7 P t):=by obtain⟨f,c,F,m,h,d⟩:=C;exact LX F (r.mono L) m h d a S b i l
theorem tK(h:M[n]?=a7 mo)(g:mo.isL=a9):aA M n mo.items:=by
 cases mo with
 |lst s=>exact .inl h
 |fz s=>exact .inr<|.inl h
 |kl s=>exact .inr<|.inr h
 |dct s=>cases g
 |dkt s=>cases g
 |dkq _ s=>cases g
 |fdc o s=>cases g
 |dkm s=>cases g
 |tb x b=>cases g
 |exc x=>cases g
theorem jY{K:u4}{ρ:List d5}{H:Hp}:∀(s:List Int),Reps K ρ H (s.map D.int) (s.map V.int)
 | []=>.nil
 |n::s=>.cons (.int n)<|jY s
noncomputable def pV(m:List (c7×k6))(N N':List c7)(t:Nat)(s:List Nat)(c:f8):Bool:=c.kind==.function&&c.names.all (λy=>y.2 != .cell&&(y.2 != .local||c.names.lookup y.1==a7 .local)&&(y.2 != .free||(m.lookup y.1==a7 .cell||m.lookup y.1==a7 .free))) &&
 N'.length==t+s.length&&(A9 s.length).all λk=>match s[k]?,N'[t+k]? with
  |some j,a7 x=>N[j]?==a7 x&&c.names.lookup x==a7 .free&&(m.lookup x==a7 .cell||m.lookup x==a7 .free)
  |_,_=>c5
theorem BlkSc.chk(h:pV X.env.scope.names X.N N' nt js scope=a9):BlkSc X N' nt js scope:=by
 unfold pV at h;simp only[C9,E5,o7,NY,bne_iff_ne]at h;obtain⟨⟨⟨h1,h2⟩,a⟩,b⟩:=h;refine⟨h1,λy O=>(h2 y O).1.1,λy O e=>((h2 y O).1.2.resolve_left<|λz=>z e),λy O e=>((h2 y O).2.resolve_left<|λz=>z e),a,λk j e=>?_⟩;have c:k<js.length:=(x9.mp e).1;have q:=b k<|G4.mpr c;rw[e]at q;cases f:N'[nt+k]? with
 |none=>rw[f]at q;exact o4 q<|by simp
 |some x=>rw[f]at q;simp only[C9,o7,NY]at q;exact⟨x,rfl,q.1.1,q.1.2,q.2⟩
def OK(r:Pm)(t:v8):v8:=λS M Q=>t S M λx a=>r x a Q
theorem d_un(B:Q8 X (unaryOp op) r)(f:DE X a ta):DE X (.UnaryOp op a pos) (OK r ta):=by refine PE.imp (pe_un B f) ?_;rintro σ H R ⟨S,M,ρ,Q,s,i,q,k⟩;refine⟨S,M,ρ,_,s,i,q,?_⟩;rintro v j ⟨d,b,c,h,g1,g,e⟩;exact⟨d,b,c,Q,h,g,e,λv H' w=>k v H'<|VQ.trans g1 w⟩
def Gu:Pm:=λx M Q=>match x with
 |.int i=>Q (.int (-i)) M
 |_=>False
theorem Jl:Q8 X (unaryOp .USub) Gu:=by rintro p s σ H a v R I g ⟨x,M,ρ,Q,m,r,q,k⟩;unfold Gu at q;split at q;cases r;exact Jk p s σ H _ v R I g ⟨_,rfl,k _ H<|VQ.now m (.int _) q⟩;exact q.elim
noncomputable def C6(f:D->D->Bool):List D->List D->Bool
 | [],[]=>a9
 |x::s,y::a=>f x y&&C6 f s a
 |_,_=>c5
noncomputable def t6(M:t8):Nat->D->D->Bool
 |_,.non,.non=>a9
 |_,.bl a,.bl b=>a==b
 |_,.bl a,.int b=>(if a then 1 else 0)==b
 |_,.int a,.bl b=>a==(if b then 1 else 0)
 |_,.int a,.int b=>a==b
 |_,.str a,.str b=>a==b
 |n+1,.tup x,.tup y=>C6 (t6 M n) x y
 |n+1,.ref i,.ref j=>match M[i]?,M[j]? with
  |some a,a7 b=>C6 (t6 M n) a.items b.items
  |_,_=>c5
 |_,_,_=>c5
noncomputable def u5(M:t8):Nat->D->Bool
 |_,.ty _=>c5
 |n+1,.tup x=>x.all<|u5 M n
 |n+1,.ref i=>match M[i]? with
  |some a=>a.isL&&a.items.all (u5 M n)
  |none=>c5
 | 0,.tup _=>c5
 | 0,.ref _=>c5
 |_,_=>a9
theorem Ce:∀{s a:List D},C6 f s a=a9->s.length=a.length
 | [],[],_=>rfl
 | [],_::_,h=>by simp[C6]at h
 |_::_,[],h=>by simp[C6]at h
 |x::s,y::a,h=>by simp only[C6,C9]at h;rw[C3,C3,Ce h.2]
theorem CC(n:Nat)(e:Nat->Bool):(A9<|n+1).all e=(e 0&&(A9 n).all λj=>e<|j+1):=by rw[List.range_succ_eq_map,Me,List.all_map];rfl
theorem nQ:∀{s a:List D}{e:Nat->Bool},s.length=a.length->(∀(j:Nat) x y,s[j]?=a7 x->a[j]?=a7 y->e j=f x y)->(A9 s.length).all e=C6 f s a
 | [],[],e,_,_=>by simp[C6]
 | [],_::_,_,h,_=>by simp at h
 |_::_,[],_,h,_=>by simp at h
 |x::s,y::a,e,h,he=>by rw[C3,CC,C6,he 0 x y rfl rfl,nQ (by simpa using h) λj x' y' h1 h2=>he (j+1) x' y' (by simpa using h1)<|by simpa using h2]
theorem Cd(h:x.length≠y.length):C6 f x y=c5:=by
 cases q:C6 f x y with
 |false=>rfl
 |true=>exact o4 (Ce q) h
theorem jB{s:List V}{a:List c6}(h:aB s a){j:Nat}{v:V}(e:s[j]?=a7 v):∃u,a[j]?=a7 u/\aZ v u:=by
 induction h generalizing j with
 |nil=>simp at e
 |cons r _ i =>
  cases j with
  |zero=>simp at e;subst e;exact⟨_,rfl,r⟩
  |succ j=>exact i<|by simpa using e
section
variable{X:Cx}{pins:List (d5×d6)}{σ:St}{H:Hp}{s:f7}{ρ:List d5}{M:t8}
theorem nb(I:r9 X pins σ H s)(m:u9 X.K ρ M H){i:Nat}{a:d5}{mo:MO}(e:ρ[i]?=a7 a)(d:M[i]?=a7 mo)(g:mo.isL=a9):∃v b,K4 X.K H a v/\Reps X.K ρ H mo.items v/\aB v b/\PlainL s.heap a b.toArray:=by obtain⟨v,q,r⟩:=aA.seq m (tK d g) e;obtain⟨b,f,p,_⟩:=I.list q;exact⟨v,b,q,r,f,p⟩
theorem eZ(d:M[i]?=a7 mo)(o:u5 M (n+1) (.ref i)=a9):mo.isL=a9/\mo.items.all (u5 M n)=a9:=by have o':(match M[i]? with|some a=>a.isL&&a.items.all (u5 M n)|none=>c5)=a9:=o;rw[d]at o';exact(C9 _ _).mp o'
theorem EI(I:r9 X pins σ H s)(m:u9 X.K ρ M H):∀(n:Nat) (x y:D) (v:V),t9 X.K ρ H x v->t9 X.K ρ H y v->u5 M n x=a9->u5 M n y=a9->t6 M n x y=a9:=by
 have l:∀(n:Nat),(∀(x y:D) (v:V),t9 X.K ρ H x v->t9 X.K ρ H y v->u5 M n x=a9->u5 M n y=a9->t6 M n x y=a9) -> ∀(xs ys:List D) (vs:List V),Reps X.K ρ H xs vs->Reps X.K ρ H ys vs->xs.all (u5 M n)=a9->ys.all (u5 M n)=a9->C6 (t6 M n) xs ys=a9:=by
  intro n w xs;induction xs with
  |nil=>intro ys vs h1 h2 _ _;cases h1;cases h2;rfl
  |cons x xs hi =>
   intro ys vs h1 h2 c f;cases h1 with
   |cons O R =>
    cases h2 with
    |cons P S=>rw[Me,C9]at c f;rw[C6,w _ _ _ O P c.1 f.1,hi _ _ R S c.2 f.2];rfl
 intro n;induction n with
 |zero=>intro x y v h1 h2 c f;cases h1<;>cases h2<;>first|(simp[u5]at c;done)|rfl|simp[t6]
 |succ n w =>
  intro x y v h1 h2 c f;cases h1 with
  |non=>cases h2;rfl
  |bl b=>cases h2;simp[t6]
  |int b=>cases h2;simp[t6]
  |str b=>cases h2;simp[t6]
  |ty b=>simp[u5]at c
  |@tup a vs ds u r =>
   cases h2 with
   |tup h r'=>have e:=I.tuple_inj u h;subst e;exact l n w _ _ _ r r' (by simpa [u5]using c)<|by simpa [u5]using f
   |@ref i _ e =>
    exfalso;obtain⟨its,_,⟨o,z,A,_⟩,_⟩:=I.tuple u;have hi:i<M.length:=by rw[<-m.len];exact(x9.mp e).1
    obtain⟨q,g,_,_,_,⟨o',G,k,p,_⟩⟩:=nb I m e (w9 hi) (eZ (w9 hi) f).1;rw[z]at k;cases k;rw[A]at p;injection p with f3;exact o4 f3<|by decide
  |@ref i a e =>
   have hi:i<M.length:=by rw[<-m.len];exact(x9.mp e).1
   have t:=w9 hi;obtain⟨vs,its,u,r,T,J⟩:=nb I m e t (eZ t c).1;cases h2 with
   |tup h r'=>exfalso;obtain⟨g,_,⟨o,z,A,_⟩,_⟩:=I.tuple h;obtain⟨o',G,k,p,_⟩:=J;rw[z]at k;cases k;rw[A]at p;injection p with f3;exact o4 f3<|by decide
   |@ref j _ E =>
    have L:j<M.length:=by rw[<-m.len];exact(x9.mp E).1
    have d:=w9 L;obtain⟨q,g,h,r',Q,N⟩:=nb I m E d (eZ d f).1;have F:vs=q:=I.list_inj u h;subst F;have B:=(eZ t c).2;have C:=(eZ d f).2;simp only[t6,t,d];exact l n w _ _ _ r r' B C
theorem lR(I:r9 X pins σ H s)(sm:u9 X.K ρ M H):∀(n:Nat) (A:f6) (x y:D) (vx vy:V) (u v:c6),A.units+n<j9->t9 X.K ρ H x vx->aZ vx u->t9 X.K ρ H y vy->aZ vy v->u5 M n x=a9->u5 M n y=a9 ->MG A s u v (t6 M n x y)/\SeqAt.RcAt A s u v (t6 M n x y)/\SeqAt.RcNeAt A s u v (!t6 M n x y):=by
 intro n;induction n with
 |zero =>
  intro A x y vx vy u v hu S w m l E f;cases S with
  |ty b=>simp[u5]at E
  |tup b=>simp[u5]at E
  |ref b=>simp[u5]at E
  |non =>
   cases w;cases m with
   |ty b=>simp[u5]at f
   |tup b=>simp[u5]at f
   |ref b=>simp[u5]at f
   |non=>cases l;exact⟨Qk _,SeqAt.RcAt.none_none,SeqAt.RcNeAt.none_none⟩
   |bl b=>cases l;exact⟨SeqAt.EqAt.none_bool _,SeqAt.RcAt.none_bool _,SeqAt.RcNeAt.none_bool _⟩
   |int b=>obtain⟨t,rfl⟩:=l;exact⟨SeqAt.EqAt.none_int _ _,SeqAt.RcAt.none_int _ _,SeqAt.RcNeAt.none_int _ _⟩
   |str b=>obtain⟨t,rfl⟩:=l;exact⟨SeqAt.EqAt.none_str _ _,SeqAt.RcAt.none_str _ _,SeqAt.RcNeAt.none_str _ _⟩
  |bl a =>
   cases w;cases m with
   |ty b=>simp[u5]at f
   |tup b=>simp[u5]at f
   |ref b=>simp[u5]at f
   |non=>cases l;exact⟨SeqAt.EqAt.bool_none _,SeqAt.RcAt.bool_none _,SeqAt.RcNeAt.bool_none _⟩
   |bl b=>cases l;exact⟨SeqAt.EqAt.bool_bool _ _,SeqAt.RcAt.bool_bool _ _,SeqAt.RcNeAt.bool_bool _ _⟩
   |int b=>obtain⟨t,rfl⟩:=l;exact⟨SeqAt.EqAt.bool_int _ _ _,SeqAt.RcAt.bool_int _ _ _,SeqAt.RcNeAt.bool_int _ _ _⟩
   |str b=>obtain⟨t,rfl⟩:=l;exact⟨SeqAt.EqAt.bool_str _ _ _,SeqAt.RcAt.bool_str _ _ _,SeqAt.RcNeAt.bool_str _ _ _⟩
  |int a =>
   obtain⟨t0,rfl⟩:=w;cases m with
   |ty b=>simp[u5]at f
   |tup b=>simp[u5]at f
   |ref b=>simp[u5]at f
   |non=>cases l;exact⟨SeqAt.EqAt.int_none _ _,SeqAt.RcAt.int_none _ _,SeqAt.RcNeAt.int_none _ _⟩
   |bl b=>cases l;exact⟨SeqAt.EqAt.int_bool _ _ _,SeqAt.RcAt.int_bool _ _ _,SeqAt.RcNeAt.int_bool _ _ _⟩
   |int b=>obtain⟨t,rfl⟩:=l;exact⟨QG _ _ _ _,SeqAt.RcAt.int_int _ _ _ _,SeqAt.RcNeAt.int_int _ _ _ _⟩
   |str b=>obtain⟨t,rfl⟩:=l;exact⟨PY _ _ _ _,SeqAt.RcAt.int_str _ _ _ _,SeqAt.RcNeAt.int_str _ _ _ _⟩
  |str a =>
   obtain⟨t0,rfl⟩:=w;cases m with
   |ty b=>simp[u5]at f
   |tup b=>simp[u5]at f
   |ref b=>simp[u5]at f
   |non=>cases l;exact⟨SeqAt.EqAt.str_none _ _,SeqAt.RcAt.str_none _ _,SeqAt.RcNeAt.str_none _ _⟩
   |bl b=>cases l;exact⟨SeqAt.EqAt.str_bool _ _ _,SeqAt.RcAt.str_bool _ _ _,SeqAt.RcNeAt.str_bool _ _ _⟩
   |int b=>obtain⟨t,rfl⟩:=l;exact⟨PU _ _ _ _,SeqAt.RcAt.str_int _ _ _ _,SeqAt.RcNeAt.str_int _ _ _ _⟩
   |str b=>obtain⟨t,rfl⟩:=l;exact⟨QF _ _ _ _,SeqAt.RcAt.str_str _ _ _ _,SeqAt.RcNeAt.str_str _ _ _ _⟩
 |succ n ih =>
  intro A x y vx vy u v hu S w m l E f;have c:A.units<j9:=by lia
  have ai:A.in1.units+n<j9:=by show A.units+1+n<j9;lia
  -- what a list or a tuple is,as the heap has it
  have tupAt:∀{a:d5}{vs:List V}{ds:List D},A2 X.K H a vs->Reps X.K ρ H ds vs->∃its:List c6,aB vs its/\s.heap.IsTuple a its.toArray/\ds.length=its.length:=λ{a vs ds} q r=>by obtain⟨its,g,p,_⟩:=I.tuple q;exact⟨its,g,p,r.length.trans g.length⟩
  have lstAt:∀{i:Nat}{a:d5},ρ[i]?=a7 a->u5 M (n+1) (.ref i)=a9->∃o,M[i]?=a7 o/\∃vs its,Reps X.K ρ H o.items vs/\aB vs its/\s.heap.IsList a its.toArray/\o.items.length=its.length:=λ{i a} e ok=>by
   have hi:i<M.length:=by rw[<-sm.len];exact(x9.mp e).1
   have z:=w9 hi;obtain⟨vs,its,q,r,g,p⟩:=nb I sm e z (eZ z ok).1;exact⟨_,z,vs,its,r,g,p.isList,r.length.trans g.length⟩
  have items:∀{xs ys:List D}{vs Z:List V}{its d:List c6},Reps X.K ρ H xs vs->aB vs its->Reps X.K ρ H ys Z->aB Z d->xs.all (u5 M n)=a9->ys.all (u5 M n)=a9 -> ∀(j:Nat) (h1:j<its.toArray.size) (h2:j<d.toArray.size),MG A.in1 s its.toArray[j] d.toArray[j] (t6 M n (xs.getD j .non)<|ys.getD j .non):=λ{xs ys vs Z its d} S q1 m q2 E f j h1 h2=>by
   have l1:j<xs.length:=by rw[S.length,q1.length];simpa using h1
   have l2:j<ys.length:=by rw[m.length,q2.length];simpa using h2
   obtain⟨v1,g1,p1⟩:=S.get<|w9 l1;obtain⟨v2,g2,p2⟩:=m.get<|w9 l2;obtain⟨u1,k1,m1⟩:=jB q1 g1;obtain⟨u2,k2,m2⟩:=jB q2 g2;have z1:its.toArray[j]=u1:=by have:=(x9.mp k1).2;simpa using this
   have z2:d.toArray[j]=u2:=by have:=(x9.mp k2).2;simpa using this
   rw[z1,z2];have y1:xs.getD j .non=xs[j]:=by simp[Od,w9 l1]
   have y2:ys.getD j .non=ys[j]:=by simp[Od,w9 l2]
   rw[y1,y2];exact(ih A.in1 _ _ _ _ _ _ ai p1 m1 p2 m2 (E5.mp E _<|Mg l1)<|E5.mp f _<|Mg l2).1
  have Y:∀(xs ys:List D),xs.length=ys.length->(A9 xs.length).all (λj=>t6 M n (xs.getD j .non)<|ys.getD j .non)=C6 (t6 M n) xs ys:=λxs ys h=>nQ h λj x y h1 h2=>by simp[Od,h1,h2]
  have O:∀{a b:d5}{k:Bool},t9 X.K ρ H x (.ref a)->t9 X.K ρ H y (.ref b)->t6 M (n+1) x y=k->SeqAt.RcAt A s (.ref a) (.ref b) k->SeqAt.RcNeAt A s (.ref a) (.ref b) (!k) -> MG A s (.ref a) (.ref b) (t6 M (n+1) x y)/\SeqAt.RcAt A s (.ref a) (.ref b) (t6 M (n+1) x y)/\SeqAt.RcNeAt A s (.ref a) (.ref b) (!t6 M (n+1) x y):=λ{a b k} p1 p2 ek h1 h2=>by subst ek;refine⟨?_,h1,h2⟩;by_cases T:a=b;subst T;rw[EI I sm (n+1) x y _ p1 p2 E f];exact Qk _;exact SeqAt.EqAt.of_refs T h1
  cases S with
  |ty b=>simp[u5]at E
  |non =>
   cases w;cases m with
   |ty b=>simp[u5]at f
   |tup q r=>cases l;obtain⟨its,g,p,_⟩:=tupAt q r;exact⟨SeqAt.EqAt.none_tuple p c,SeqAt.RcAt.none_tuple p c,SeqAt.RcNeAt.none_tuple p c⟩
   |ref e=>cases l;obtain⟨o,z,vs,its,r,g,p,_⟩:=lstAt e f;exact⟨SeqAt.EqAt.none_list p c,SeqAt.RcAt.none_list p c,SeqAt.RcNeAt.none_list p c⟩
   |non=>cases l;exact⟨Qk _,SeqAt.RcAt.none_none,SeqAt.RcNeAt.none_none⟩
   |bl b=>cases l;exact⟨SeqAt.EqAt.none_bool _,SeqAt.RcAt.none_bool _,SeqAt.RcNeAt.none_bool _⟩
   |int b=>obtain⟨t,rfl⟩:=l;exact⟨SeqAt.EqAt.none_int _ _,SeqAt.RcAt.none_int _ _,SeqAt.RcNeAt.none_int _ _⟩
   |str b=>obtain⟨t,rfl⟩:=l;exact⟨SeqAt.EqAt.none_str _ _,SeqAt.RcAt.none_str _ _,SeqAt.RcNeAt.none_str _ _⟩
  |bl a =>
   cases w;cases m with
   |ty b=>simp[u5]at f
   |tup q r=>cases l;obtain⟨its,g,p,_⟩:=tupAt q r;exact⟨SeqAt.EqAt.bool_tuple _ p c,SeqAt.RcAt.bool_tuple _ p c,SeqAt.RcNeAt.bool_tuple _ p c⟩
   |ref e=>cases l;obtain⟨o,z,vs,its,r,g,p,_⟩:=lstAt e f;exact⟨SeqAt.EqAt.bool_list _ p c,SeqAt.RcAt.bool_list _ p c,SeqAt.RcNeAt.bool_list _ p c⟩
   |non=>cases l;exact⟨SeqAt.EqAt.bool_none _,SeqAt.RcAt.bool_none _,SeqAt.RcNeAt.bool_none _⟩
   |bl b=>cases l;exact⟨SeqAt.EqAt.bool_bool _ _,SeqAt.RcAt.bool_bool _ _,SeqAt.RcNeAt.bool_bool _ _⟩
   |int b=>obtain⟨t,rfl⟩:=l;exact⟨SeqAt.EqAt.bool_int _ _ _,SeqAt.RcAt.bool_int _ _ _,SeqAt.RcNeAt.bool_int _ _ _⟩
   |str b=>obtain⟨t,rfl⟩:=l;exact⟨SeqAt.EqAt.bool_str _ _ _,SeqAt.RcAt.bool_str _ _ _,SeqAt.RcNeAt.bool_str _ _ _⟩
  |int a =>
   obtain⟨t0,rfl⟩:=w;cases m with
   |ty b=>simp[u5]at f
   |tup q r=>cases l;obtain⟨its,g,p,_⟩:=tupAt q r;exact⟨SeqAt.EqAt.int_tuple _ _ p c,SeqAt.RcAt.int_tuple _ _ p c,SeqAt.RcNeAt.int_tuple _ _ p c⟩
   |ref e=>cases l;obtain⟨o,z,vs,its,r,g,p,_⟩:=lstAt e f;exact⟨SeqAt.EqAt.int_list _ _ p c,SeqAt.RcAt.int_list _ _ p c,SeqAt.RcNeAt.int_list _ _ p c⟩
   |non=>cases l;exact⟨SeqAt.EqAt.int_none _ _,SeqAt.RcAt.int_none _ _,SeqAt.RcNeAt.int_none _ _⟩
   |bl b=>cases l;exact⟨SeqAt.EqAt.int_bool _ _ _,SeqAt.RcAt.int_bool _ _ _,SeqAt.RcNeAt.int_bool _ _ _⟩
   |int b=>obtain⟨t,rfl⟩:=l;exact⟨QG _ _ _ _,SeqAt.RcAt.int_int _ _ _ _,SeqAt.RcNeAt.int_int _ _ _ _⟩
   |str b=>obtain⟨t,rfl⟩:=l;exact⟨PY _ _ _ _,SeqAt.RcAt.int_str _ _ _ _,SeqAt.RcNeAt.int_str _ _ _ _⟩
  |str a =>
   obtain⟨t0,rfl⟩:=w;cases m with
   |ty b=>simp[u5]at f
   |tup q r=>cases l;obtain⟨its,g,p,_⟩:=tupAt q r;exact⟨SeqAt.EqAt.str_tuple _ _ p c,SeqAt.RcAt.str_tuple _ _ p c,SeqAt.RcNeAt.str_tuple _ _ p c⟩
   |ref e=>cases l;obtain⟨o,z,vs,its,r,g,p,_⟩:=lstAt e f;exact⟨SeqAt.EqAt.str_list _ _ p c,SeqAt.RcAt.str_list _ _ p c,SeqAt.RcNeAt.str_list _ _ p c⟩
   |non=>cases l;exact⟨SeqAt.EqAt.str_none _ _,SeqAt.RcAt.str_none _ _,SeqAt.RcNeAt.str_none _ _⟩
   |bl b=>cases l;exact⟨SeqAt.EqAt.str_bool _ _ _,SeqAt.RcAt.str_bool _ _ _,SeqAt.RcNeAt.str_bool _ _ _⟩
   |int b=>obtain⟨t,rfl⟩:=l;exact⟨PU _ _ _ _,SeqAt.RcAt.str_int _ _ _ _,SeqAt.RcNeAt.str_int _ _ _ _⟩
   |str b=>obtain⟨t,rfl⟩:=l;exact⟨QF _ _ _ _,SeqAt.RcAt.str_str _ _ _ _,SeqAt.RcNeAt.str_str _ _ _ _⟩
  |@tup a vs ds q r =>
   cases w;obtain⟨its,g,p,R⟩:=tupAt q r;cases m with
   |ty b=>simp[u5]at f
   |non=>cases l;exact⟨SeqAt.EqAt.tuple_none p c,SeqAt.RcAt.tuple_none p c,SeqAt.RcNeAt.tuple_none p c⟩
   |bl b=>cases l;exact⟨SeqAt.EqAt.tuple_bool _ p c,SeqAt.RcAt.tuple_bool _ p c,SeqAt.RcNeAt.tuple_bool _ p c⟩
   |int b=>obtain⟨t,rfl⟩:=l;exact⟨SeqAt.EqAt.tuple_int _ _ p c,SeqAt.RcAt.tuple_int _ _ p c,SeqAt.RcNeAt.tuple_int _ _ p c⟩
   |str b=>obtain⟨t,rfl⟩:=l;exact⟨SeqAt.EqAt.tuple_str _ _ p c,SeqAt.RcAt.tuple_str _ _ p c,SeqAt.RcNeAt.tuple_str _ _ p c⟩
   |ref e=>cases l;obtain⟨o,z,al,W,r',Q,N,_⟩:=lstAt e f;exact⟨SeqAt.EqAt.tuple_list p N c,SeqAt.RcAt.tuple_list p N c,SeqAt.RcNeAt.tuple_list p N c⟩
   |@tup b Z es L r' =>
    cases l;obtain⟨d,Q,N,C⟩:=tupAt L r';have F:ds.all (u5 M n)=a9:=by simpa [u5]using E
    have G:es.all (u5 M n)=a9:=by simpa [u5]using f
    have aj:((A9<|min its.toArray.size d.toArray.size).all (λj=>t6 M n (ds.getD j .non)<|es.getD j .non)&&its.toArray.size==d.toArray.size)=C6 (t6 M n) ds es:=by rw[z7,z7];by_cases J:ds.length=es.length;rw[<-R,<-C,<-J,Nat.min_self,Y ds es J];simp;rw[Cd J,<-R,<-C];simp[J]
    have h1:=SeqAt.RcAt.tuples p N c<|items r g r' Q F G;have h2:=SeqAt.RcNeAt.tuples p N c<|items r g r' Q F G;rw[aj]at h1 h2;exact O (.tup q r) (.tup L r') rfl h1 h2
  |@ref i a e =>
   cases w;obtain⟨o,z,vs,its,r,g,p,R⟩:=lstAt e E;cases m with
   |ty b=>simp[u5]at f
   |non=>cases l;exact⟨SeqAt.EqAt.list_none p c,SeqAt.RcAt.list_none p c,SeqAt.RcNeAt.list_none p c⟩
   |bl b=>cases l;exact⟨SeqAt.EqAt.list_bool _ p c,SeqAt.RcAt.list_bool _ p c,SeqAt.RcNeAt.list_bool _ p c⟩
   |int b=>obtain⟨t,rfl⟩:=l;exact⟨SeqAt.EqAt.list_int _ _ p c,SeqAt.RcAt.list_int _ _ p c,SeqAt.RcNeAt.list_int _ _ p c⟩
   |str b=>obtain⟨t,rfl⟩:=l;exact⟨SeqAt.EqAt.list_str _ _ p c,SeqAt.RcAt.list_str _ _ p c,SeqAt.RcNeAt.list_str _ _ p c⟩
   |tup L r'=>cases l;obtain⟨W,Q,N,_⟩:=tupAt L r';exact⟨SeqAt.EqAt.list_tuple p N c,SeqAt.RcAt.list_tuple p N c,SeqAt.RcNeAt.list_tuple p N c⟩
   |@ref j b e' =>
    cases l;obtain⟨P,U,Z,d,r',Q,N,C⟩:=lstAt e' f;have F:o.items.all (u5 M n)=a9:=(eZ z E).2;have G:P.items.all (u5 M n)=a9:=(eZ U f).2;have ek:t6 M (n+1) (.ref i) (.ref j)=C6 (t6 M n) o.items P.items:=by simp only[t6,z,U]
    by_cases J:o.items.length=P.items.length;have B:its.toArray.size=d.toArray.size:=by rw[z7,z7,<-R,<-C,J]
    have h1:=SeqAt.RcAt.lists p N B c<|items r g r' Q F G;have h2:=SeqAt.RcNeAt.lists p N B c<|items r g r' Q F G;rw[z7,<-R,Y _ _ J]at h1 h2;exact O (.ref e) (.ref e') ek h1 h2;have B:(its.toArray.size != d.toArray.size)=a9:=by rw[z7,z7,<-R,<-C];simpa using J
    have h1:=SeqAt.RcAt.lists_lengths p N B c;have h2:=SeqAt.RcNeAt.lists_lengths p N B c;exact O (.ref e) (.ref e') (ek.trans<|Cd J) h1 h2
noncomputable def t5:Nat:=30
def z8:D9:=λx y M Q=>(u5 M t5 x=a9/\u5 M t5 y=a9)/\Q (.bl<|t6 M t5 x y) M
def Nz:D9:=λx y M Q=>(u5 M t5 x=a9/\u5 M t5 y=a9)/\Q (.bl<|!t6 M t5 x y) M
noncomputable def Mj(M:t8)(x:D)(a:List D):Bool:=a.any λy=>t6 M t5 y x
def JI(g:Bool):D9:=λx y M Q=>match y with
 |.tup a=>(u5 M t5 x=a9/\a.all (u5 M t5)=a9)/\Q (.bl<|Mj M x a != g) M
 |.ref n=>∃a,aA M n a/\(u5 M t5 x=a9/\a.all (u5 M t5)=a9)/\Q (.bl<|Mj M x a != g) M
 |.str z=>match x with
  |.str p=>Q (.bl<|(!(QR z p 0 z.length 1).isEmpty) != g) M
  |_=>False
 |_=>False
abbrev L7:D9:=JI c5
abbrev ka:D9:=JI a9
end
theorem qa(i:Room k A):A.units+t5<j9:=by have:=i.un;unfold t5;lia
theorem od_eq{X:Cx}(i:Room k X.A):E3 X (j7 .Eq) z8:=by rintro p s σ H d l v u R I g b ⟨x,y,M,ρ,Q,m,r,a,⟨⟨c,f⟩,q⟩,k⟩;exact(lR I m t5 X.A x y d l v u (qa i) r g a b c f).2.1 _ _ _ _<|gY I m k q
theorem od_ne{X:Cx}(i:Room k X.A):E3 X (j7 .NotEq) Nz:=by rintro p s σ H d l v u R I g b ⟨x,y,M,ρ,Q,m,r,a,⟨⟨c,f⟩,q⟩,k⟩;exact(lR I m t5 X.A x y d l v u (qa i) r g a b c f).2.2 _ _ _ _<|gY I m k q
theorem ug{pins:List (d5×d6)}{σ:St}{H:Hp}{s:f7}{ρ:List d5}{M:t8}(I:r9 X pins σ H s)(m:u9 X.K ρ M H):∀(n:Nat) (x y z:D) (v:V),t9 X.K ρ H x v->t9 X.K ρ H y v->u5 M n x=a9->u5 M n y=a9->t6 M n x z=t6 M n y z:=by
 have p:∀(n:Nat),(∀(x y z:D) (v:V),t9 X.K ρ H x v->t9 X.K ρ H y v->u5 M n x=a9->u5 M n y=a9->t6 M n x z=t6 M n y z) -> ∀(xs ys c:List D) (vs:List V),Reps X.K ρ H xs vs->Reps X.K ρ H ys vs->xs.all (u5 M n)=a9->ys.all (u5 M n)=a9->C6 (t6 M n) xs c=C6 (t6 M n) ys c:=by
  intro n B xs;induction xs with
  |nil=>intro ys c vs h1 h2 _ _;cases h1;cases h2;rfl
  |cons x xs hi =>
   intro ys c vs h1 h2 l f;cases h1 with
   |cons P S =>
    cases h2 with
    |cons Q T =>
     cases c with
     |nil=>rfl
     |cons z c=>rw[Me,C9]at l f;rw[C6,C6,B _ _ z _ P Q l.1 f.1,hi _ c _ S T l.2 f.2]
 intro n;induction n with
 |zero=>intro x y z v h1 h2 l f;cases h1<;>cases h2<;>first|rfl|(cases z<;>rfl)
 |succ n B =>
  intro x y z v h1 h2 l f;cases h1 with
  |non=>cases h2;rfl
  |bl b=>cases h2;rfl
  |int b=>cases h2;rfl
  |str b=>cases h2;rfl
  |ty b=>cases h2;rfl
  |@tup a vs ds A r =>
   cases h2 with
   |tup h r' =>
    have e:=I.tuple_inj A h;subst e;cases z with
    |tup c=>exact p n B _ _ c _ r r' l f
    |_=>rfl
   |@ref i _ e =>
    exfalso;obtain⟨its,_,⟨o,C,E,_⟩,_⟩:=I.tuple A;have hi:i<M.length:=by rw[<-m.len];exact(x9.mp e).1
    obtain⟨u,g,_,_,_,⟨o',J,q,t,_⟩⟩:=nb I m e (w9 hi) (eZ (w9 hi) f).1;rw[C]at q;cases q;rw[E]at t;injection t with f3;exact o4 f3<|by decide
  |@ref i a e =>
   have hi:i<M.length:=by rw[<-m.len];exact(x9.mp e).1
   have w:=w9 hi;obtain⟨vs,its,A,r,W,N⟩:=nb I m e w (eZ w l).1;cases h2 with
   |tup h r'=>exfalso;obtain⟨g,_,⟨o,C,E,_⟩,_⟩:=I.tuple h;obtain⟨o',J,q,t,_⟩:=N;rw[C]at q;cases q;rw[E]at t;injection t with f3;exact o4 f3<|by decide
   |@ref j _ F =>
    have L:j<M.length:=by rw[<-m.len];exact(x9.mp F).1
    have d:=w9 L;obtain⟨u,g,h,r',R,O⟩:=nb I m F d (eZ d f).1;have G:vs=u:=I.list_inj A h;subst G;cases z with
    |ref k =>
     simp only[t6,w,d];cases M[k]? with
     |none=>rfl
     |some U=>exact p n B _ _ _ _ r r' (eZ w l).2 (eZ d f).2
    |_=>rfl
theorem BL{k:Nat}(G:Room k X.A){pins:List (d5×d6)}{σ:St}{H:Hp}{s:f7}{ρ:List d5}{M:t8}(I:r9 X pins σ H s)(m:u9 X.K ρ M H){x:D}{n:V}{v:c6}(N:t9 X.K ρ H x n)(O:aZ n v)(B:u5 M t5 x=a9):∀{ys:List D}{ws:List V}{its:List c6},Reps X.K ρ H ys ws->aB ws its->ys.all (u5 M t5)=a9->∃e:c6->Bool,(∀u∈its,MG X.A.in1 s u v<|e u)/\its.any e=Mj M x ys:=by
 have y:X.A.in1.units+t5<j9:=by have:=G.un;show X.A.units+1+t5<j9;unfold t5;lia
 intro ys ws its i vs ok
 classical
 refine⟨λu=>if h:∃d a,t9 X.K ρ H d a/\aZ a u/\u5 M t5 d=a9 then t6 M t5 h.choose x else c5,λu E=>?_,?_⟩;obtain⟨j,L,C⟩:=P0 E;have z:j<ws.length:=by rw[vs.length];exact L
 obtain⟨d,w,f⟩:=i.getV<|w9 z;obtain⟨l,b,R⟩:=jB vs<|w9 z;have:l=u:=by rw[w9 L]at b;cases b;exact C
 subst this;have o:=E5.mp ok _<|D2 w;have h:∃d a,t9 X.K ρ H d a/\aZ a l/\u5 M t5 d=a9:=⟨d,_,f,R,o⟩
 show MG X.A.in1 s l v (if h:_ then _ else _);rw[dif_pos h];obtain⟨a,g,p,c⟩:=h.choose_spec;have F:=aZ.inj p R;subst F;rw[ug I m t5 _ d x _ g f c o];exact(lR I m t5 X.A.in1 d x _ n _ v y f R N O (E5.mp ok _<|D2 w) B).1;clear y B;unfold Mj;induction ys generalizing ws its with
 |nil=>cases i;cases vs;rfl
 |cons d ds J =>
  cases i with
  |cons r t =>
  cases vs with
  |cons q t' =>
   rename_i a P u us;rw[Me,C9]at ok;have h:∃d a,t9 X.K ρ H d a/\aZ a u/\u5 M t5 d=a9:=⟨d,_,r,q,ok.1⟩
   rw[Px,Px,J t t' ok.2,dif_pos h];obtain⟨Q,g,p,c⟩:=h.choose_spec;have F:=aZ.inj p q;subst F;rw[ug I m t5 _ d x _ g r c ok.1]
theorem FA{X:Cx}(g:Bool)(F:Room k X.A):E3 X (j7<|if g then .NotIn else .In) (JI g):=by
 rintro G s σ H O P v u R I D E ⟨x,y,M,ρ,Q,m,B,K,q,k⟩;cases K with
 |non=>exact q.elim
 |bl b=>exact q.elim
 |int b=>exact q.elim
 |ty b=>exact q.elim
 |str z =>
  cases B with
  |str p =>
   obtain⟨t,rfl⟩:=D;obtain⟨t',rfl⟩:=E;cases g with
   |false=>exact in_str<|gY I m k<|by simpa [JI]using q
   |true=>exact notIn_str<|gY I m k<|by simpa [JI]using q
  |_=>exact q.elim
 |@tup a N ys j r =>
  cases E;obtain⟨⟨o,n⟩,q⟩:=(show (u5 M t5 x=a9/\_)/\_ from q)
  obtain⟨its,C,l,J⟩:=I.tuple j;obtain⟨e,i,f⟩:=BL F I m B D o r C n;have d:its.toArray.any e=Mj M x ys:=by rw[<-f];simp
  cases g with
  |false=>exact SeqAt.in_tupleAt e l (λw c=>i w<|by simpa using c)<|by rw[d];exact gY I m k<|by simpa using q
  |true=>exact SeqAt.notIn_tupleAt e l (λw c=>i w<|by simpa using c)<|by rw[d];exact gY I m k<|by simpa using q
 |ref h =>
  cases E;obtain⟨ys,L,⟨o,n⟩,q⟩:=(show ∃ys,aA M _ ys/\(u5 M t5 x=a9/\_)/\_ from q)
  obtain⟨N,j,r⟩:=aA.seq m L h;obtain⟨its,C,l,J⟩:=I.list j;obtain⟨e,i,f⟩:=BL F I m B D o r C n;have d:its.toArray.any e=Mj M x ys:=by rw[<-f];simp
  cases g with
  |false=>exact SeqAt.in_listAt e l.isList (λw c=>i w<|by simpa using c)<|by rw[d];exact gY I m k<|by simpa using q
  |true=>exact SeqAt.notIn_listAt e l.isList (λw c=>i w<|by simpa using c)<|by rw[d];exact gY I m k<|by simpa using q
theorem od_in(i:Room k X.A):E3 X (j7 .In) L7:=FA c5 i
theorem DJ(i:Room k X.A):E3 X (j7 .NotIn) ka:=FA a9 i
theorem Mc:e9 "len" = a7 (.builtin "len"):=by decide +kernel
theorem Md:e9 "any" = a7 (.builtin "any"):=by decide +kernel
theorem uL:e9 "sorted" = a7 (.builtin "sorted"):=by decide +kernel
theorem Ff:e9 "tuple" = a7 (.type "tuple"):=by decide +kernel
theorem IS:e9 "dict" = a7 (.type "dict"):=by decide +kernel
noncomputable def visB(c:f8)(x:c7):Bool:=match c.names.lookup x with
 |some .local=>a9
 |some .cell=>a9
 |some .free=>a9
 |_=>c5
theorem Jj(h:visB sc x=a9):Oa sc x:=by unfold visB at h;unfold Oa;split at h;rename_i e;exact .inl e;rename_i e;exact .inr<|.inl e;rename_i e;exact .inr<|.inr e;cases h
noncomputable def Ja(c:f8)(x:c7):Bool:=match c.names.lookup x with
 |some .local=>a9
 |some .cell=>a9
 |_=>c5
theorem Bo(h:Ja sc x=a9):NR sc x:=by unfold Ja at h;unfold NR;split at h;rename_i e;exact .inl e;rename_i e;exact .inr e;cases h
structure HE(X:Cx)(e:h8)(t:v8):Prop where
 ok:DE X e t
structure HT(X:Cx)(e:h8)(t:F7):Prop where
 ok:DT X e t
structure HW(X:Cx)(e:h8)(t:F7):Prop where
 ok:DW X e t
structure HA(X:Cx)(es:List h8)(t:H9):Prop where
 ok:DA X es t
structure HS(X:Cx)(e:i6)(t:s9):Prop where
 ok:DS X e t
structure HB(X:Cx)(e:List i6)(t:s9):Prop where
 ok:MZ X e t
structure HG(X:Cx)(e:h8)(t:L9):Prop where
 ok:DG X e t
structure HI(X:Cx)(tg e:h8)(t:ME):Prop where
 ok:DI X tg e t
structure OL(X:Cx)(e:List h8)(t:F7):Prop where
 ok:Nk X e (lowT X.K t)
structure HO'(X:Cx)(e:Option h8)(t:Oc):Prop where
 ok:PO X e (Ky X.K t)
structure E7(X:Cx)(f:c6->c6->Sem c6)(r:D9):Prop where
 ok:E3 X f r
structure RT(X:Cx)(f:c6->Sem c6)(r:Pm):Prop where
 ok:Q8 X f r
structure HC(X:Cx)(f:c6)(r:D1):Prop where
 ok:lq X f r
structure Rc(X:Cx)(name:c7)(r:c7->D1):Prop where
 ok:∃id,Slot "str" name id/\typeOf (.builtin id)=pure (.type "method_descriptor")/\Mm X id (DY X.K r)
structure Re(X:Cx)(name:c7)(r:Nat->D1):Prop where
 ok:∃id,Slot "list" name id/\typeOf (.builtin id)=pure (.type "method_descriptor")/\Mm X id (qG X.K r)
theorem k_var(h:X.N[i]?=a7 x:=by kernel_rfl)(c:visB X.env.scope x=a9:=by kernel_rfl)(a:(x==("__debug__":c7))=c5:=by kernel_rfl)(d:(x==("__classdict__":c7))=c5:=by kernel_rfl):HE X (.Name x pos) (ab i):=⟨d_var h (Jj c) a d⟩
theorem k_int:HE X (.Constant (.int i) j pos) (dC<|.int i):=⟨d_int⟩
theorem k_bl:HE X (.Constant (.bool i) j pos) (dC<|.bl i):=⟨d_bl⟩
theorem k_non:HE X (.Constant .none j pos) (dC .non):=⟨d_non⟩
theorem k_str:HE X (.Constant (.str i) j pos) (dC<|.str i):=⟨d_str⟩
theorem k_op(B:E7 X (j6 op) r)(f:HE X a ta)(d:HE X b tb):HE X (.BinOp a op b pos) (p9 r ta tb):=⟨d_op B.ok f.ok d.ok⟩
theorem k_un(B:RT X (unaryOp op) r)(f:HE X a ta):HE X (.UnaryOp op a pos) (OK r ta):=⟨d_un B.ok f.ok⟩
theorem k_cmp(B:E7 X (j7 op) r)(f:HE X a ta)(d:HE X b tb)(m:j8 op b=c5:=by kernel_rfl):HE X (.Compare a [op] [b] pos) (p9 r ta tb):=⟨d_cmp B.ok f.ok d.ok m⟩
theorem KD(B:E7 X (j7 op) r)(f:HE X a ta)(d:HE X b tb)(m:j8 op b=c5:=by kernel_rfl):HT X (.Compare a [op] [b] pos) (ap<|p9 r ta tb):=⟨LF B.ok f.ok d.ok m⟩
theorem HN(B:E7 X (j7 op) r)(h:E7 X (j7 op') r')(f:HE X a ta)(d:HE X b tb)(e:HE X c tc)(m:lastMarks [op,op'] [b,c]=c5:=by kernel_rfl):HE X (.Compare a [op,op'] [b,c] pos) (ux r r' ta tb tc):=⟨IG B.ok h.ok f.ok d.ok e.ok m⟩
theorem KB(h:HE X e te)(i:∀whole,isTrue e X.env whole=(do let v <-whole;standAt e.pos;i7 [v] (truthy v)):=by intro _;kernel_rfl):HT X e (ap te):=⟨LB h.ok i⟩
theorem Hn(f:HT X a tA):HW X (.BoolOp .And [a] pos) tA:=⟨Im f.ok⟩
theorem Kz(f:HT X a tA):HW X (.BoolOp .Or [a] pos) tA:=⟨Lz f.ok⟩
theorem FD{X:Cx}{a b:h8}{be:List h8}{s:Pos}{A tB:F7}(f:HT X a A)(d:HW X (.BoolOp .And (b::be) s) tB):HW X (.BoolOp .And (a::b::be) s) (rj A tB):=⟨LA f.ok d.ok⟩
theorem KA{X:Cx}{a b:h8}{be:List h8}{s:Pos}{A tB:F7}(f:HT X a A)(d:HW X (.BoolOp .Or (b::be) s) tB):HW X (.BoolOp .Or (a::b::be) s) (ML A tB):=⟨dw_or f.ok d.ok⟩
theorem kw_t(h:HW X e tA):HT X e tA:=⟨dw_t h.ok⟩
theorem KC(f:HT X a tA):HT X (.UnaryOp .Not a pos) (EV tA):=⟨LD f.ok⟩
theorem k_one{op}(h:HE X a ta):HE X (.BoolOp op [a] pos) ta:=⟨d_one h.ok⟩
theorem k_and{X:Cx}{a b:h8}{be:List h8}{t c:v8}{s:Pos}(f:HE X a t)(d:HE X (.BoolOp .And (b::be) s) c):HE X (.BoolOp .And (a::b::be) s) (uy t c):=⟨d_and f.ok d.ok⟩
theorem k_or{X:Cx}{a b:h8}{be:List h8}{t c:v8}{s:Pos}(f:HE X a t)(d:HE X (.BoolOp .Or (b::be) s) c):HE X (.BoolOp .Or (a::b::be) s) (Jc t c):=⟨d_or f.ok d.ok⟩
theorem k_not(f:HE X a ta):HE X (.UnaryOp .Not a pos) (EU ta):=⟨d_not f.ok⟩
theorem HK(h:HT X c tA)(f:HE X a ta)(d:HE X b tb):HE X (.IfExp c a b pos) (dIfE tA ta tb):=⟨IF h.ok f.ok d.ok⟩
theorem KP:HA X [] af:=⟨LQ⟩
theorem HF(f:HE X e te)(i:HA X s t)(h:i5 (e::s) X.env=(c5,eval e X.env)::i5 s X.env:=by kernel_rfl):HA X (e::s) (aa te t):=⟨ID f.ok i.ok h⟩
theorem k_tup{x1}(h:HA X e t):HE X (.Tuple e x1 pos) (dL t):=⟨d_tup h.ok⟩
theorem k_lst(h:HA X e t):HE X (.List e pos) (iP t):=⟨d_lst h.ok⟩
theorem HP{id:String}{r:D1}(c:HC X (.builtin id) r)(d:X.mg x=a8)(v:e9 x=a7 (.builtin id))(f:HA X (e::s) t)(S:X.env.kindOf x=a7 .globalImplicit:=by kernel_rfl)(n:(x==("__name__":c7))=c5:=by kernel_rfl)(b:(x==("__debug__":c7))=c5:=by kernel_rfl)(i:i5 (e::s) X.env=(c5,eval e X.env)::i5 s X.env:=by kernel_rfl) (l:(i4 pos<|i5 s X.env).any (·.1)=c5:=by kernel_rfl):HE X (.Call (.Name x p) (e::s) [] pos) (t7 r t):=⟨IH c.ok d v f.ok S (by simpa using n) b i l⟩
theorem Es(c:HC X (.type T) r)(d:X.mg x=a8)(v:e9 x=a7 (.type T))(f:HA X (e::s) t)(S:X.env.kindOf x=a7 .globalImplicit:=by kernel_rfl)(n:(x==("__name__":c7))=c5:=by kernel_rfl)(b:(x==("__debug__":c7))=c5:=by kernel_rfl)(i:i5 (e::s) X.env=(c5,eval e X.env)::i5 s X.env:=by kernel_rfl) (l:(i4 pos<|i5 s X.env).any (·.1)=c5:=by kernel_rfl):HE X (.Call (.Name x p) (e::s) [] pos) (t7 r t):=⟨ET c.ok d v f.ok S (by simpa using n) b i l⟩
theorem k_cal(C:u8 X.prog X.w X.K X.mg X.base j x a P)(r:Room k X.A)(f:HA X (e::s) t)(L:Nat.ble j k=a9:=by kernel_rfl)(S:X.env.kindOf x=a7 .globalImplicit:=by kernel_rfl) (b:(x==("__debug__":c7))=c5:=by kernel_rfl) (i:i5 (e::s) X.env=(c5,eval e X.env)::i5 s X.env:=by kernel_rfl) (l:(i4 pos<|i5 s X.env).any (·.1)=c5:=by kernel_rfl):HE X (.Call (.Name x p) (e::s) [] pos) (t7 P t):=⟨d_cal C r f.ok (Nat.le_of_ble_eq_true L) S b i l⟩
theorem k_ix(f:HE X a ta)(d:HE X b tb)(hs:wy b:=by intro _ _;kernel_rfl):HE X (.Subscript a b pos) (p9 u3 ta tb):=⟨d_ix f.ok d.ok hs⟩
theorem Hy:HO' X a8 dF:=⟨Iy⟩
theorem Hw(h:HE X e te):HO' X (a7 e) (fP te):=⟨Iw h.ok⟩
theorem HJ{l hi:Option h8}{t h:Oc}{j:Pos}(i:HE X e te)(g:HO' X l t)(u:HO' X hi h):HE X (.Subscript e (.Slice l hi a8 j) pos) (Ml te t h):=⟨IE i.ok g.ok u.ok⟩
theorem k_ms(d:Rc X a r)(B:HE X o to)(f:HA X (e::s) t)(b:l6 o a X.env (eval o X.env)=eval o X.env:=by kernel_rfl)(w:((i4 cpos<|i5 (e::s) X.env).all (λx=>!x.1)&&(l7 cpos<|l8 [] X.env).all (λx=>x.1.isSome) && decide ((e::s).length+([]:List l9).length+(if ([]:List l9).isEmpty then 0 else 1)<30))=a9:=by kernel_rfl)(c:(apos.endLine==cpos.line)=a9:=by kernel_rfl) (h:i5 (e::s) X.env=(c5,eval e X.env)::i5 s X.env:=by kernel_rfl) (n:(i4 cpos<|i5 s X.env).any (·.1)=c5:=by kernel_rfl):HE X (.Call (.Attribute o a apos) (e::s) [] cpos) (Pb r to t):=let ⟨_,h1,h2,h3⟩:=d.ok;⟨d_ms h1 h2 h3 B.ok f.ok b w c h n⟩
theorem k_ml(d:Re X a r)(B:HE X o to)(f:HA X (e::s) t)(b:l6 o a X.env (eval o X.env)=eval o X.env:=by kernel_rfl)(w:((i4 cpos<|i5 (e::s) X.env).all (λx=>!x.1)&&(l7 cpos<|l8 [] X.env).all (λx=>x.1.isSome) && decide ((e::s).length+([]:List l9).length+(if ([]:List l9).isEmpty then 0 else 1)<30))=a9:=by kernel_rfl)(c:(apos.endLine==cpos.line)=a9:=by kernel_rfl) (h:i5 (e::s) X.env=(c5,eval e X.env)::i5 s X.env:=by kernel_rfl) (n:(i4 cpos<|i5 s X.env).any (·.1)=c5:=by kernel_rfl):HE X (.Call (.Attribute o a apos) (e::s) [] cpos) (K3 r to t):=let ⟨_,h1,h2,h3⟩:=d.ok;⟨d_ml h1 h2 h3 B.ok f.ok b w c h n⟩
theorem KG:HB X [] aY:=⟨LJ⟩
theorem KF{X:Cx}{st:i6}{b:s9}(h:HS X st b):HB X [st] b:=⟨LI h.ok⟩
theorem Hv{X:Cx}{st:i6}{s:List i6}{b u:s9}(h1:HS X st b)(h2:HB X s u):HB X (st::s) (ay b u):=⟨Iv h1.ok h2.ok⟩
theorem BC(i:HE X e te)(h:i8 e a8 pos.line X.env=pure c5:=by kernel_rfl):HS X (.Expr e pos) (gj te):=⟨Iu i.ok h⟩
theorem FH(i:HE X e te):HS X (.Return (a7 e) pos) (bp te):=⟨LH i.ok⟩
theorem KH(h:HT X c tA)(f:HB X aS t)(d:HB X bS u):HS X (.If c aS bS pos) (z6 tA t u):=⟨ds_if h.ok f.ok d.ok⟩
theorem FG(h:X.N.Nodup)(a:HE X e te)(hi:X.N[i]?=a7 x:=by kernel_rfl)(b:Ja X.env.scope x=a9:=by kernel_rfl)(s:i8 e (a7<|.Name x pos') pos.line X.env=pure c5:=by kernel_rfl)(f:X.fn x=a9:=by kernel_rfl):HS X (.Assign [.Name x pos'] e pos) (ba te i):=⟨LG h a.ok hi (Bo b) s<|.inl f⟩
theorem HD(h:X.N.Nodup)(hi:X.N[i]?=a7 x:=by kernel_rfl)(a:Ja X.env.scope x=a9:=by kernel_rfl)(f:X.fn x=a9:=by kernel_rfl):HG X (.Name x pos) (ag i):=⟨wm h hi (Bo a)<|.inl f⟩
theorem KL(h:X.N.Nodup)(hi:X.N[i]?=a7 x:=by kernel_rfl)(f:X.env.scope.names.lookup x=a7 .local:=by kernel_rfl):HG X (.Name x pos) (ag i):=⟨wm h hi (.inl f)<|.inr f⟩
theorem KI(h:HE X e te):HI X tg e (bE te):=⟨LM h.ok⟩
theorem FI{a:List i6}{b:s9}(hi:HI X tg iter di)(S:HG X tg g)(d:HB X a b)(p:PassesOwn (i3 X.prog X.w) X.A X.env X.xe:=by exact PassesOwn.never)(f:X.calm=a9:=by kernel_rfl)(h:∀x,j5 iter X.env x=pure x:=by intro _;kernel_rfl):HS X (.For tg iter a [] pos) (kt di g b):=⟨LK hi.ok S.ok d.ok p f h⟩
theorem Hs:OL X [] xT:=⟨Ip⟩
theorem Hr(h:HT X c tA):OL X [c] tA:=⟨Io h.ok⟩
theorem k_lc(hi:HI X tg iter di)(S:∀cl s0 H0 ex,HG (A4 X N' scope cl s0 H0 ex) tg g) (D:∀cl s0 H0 ex,OL (A4 X N' scope cl s0 H0 ex) ifs tt) (i:∀cl s0 H0 ex,HE (A4 X N' scope cl s0 H0 ex) elt te) (B:pV X.env.scope.names X.N N' nt js scope=a9:=by kernel_rfl) (f:X.calm=a9:=by kernel_rfl)(h:∀x,j5 iter X.env x=pure x:=by intro _;kernel_rfl):HE X (.ListComp elt [⟨tg,iter,ifs,0⟩] scope pos) (E6 nt js di g tt te):=⟨d_lc (BlkSc.chk B) hi.ok (λcl s0 H0 ex=>(S cl s0 H0 ex).ok) (λcl s0 H0 ex=>(D cl s0 H0 ex).ok) (λcl s0 H0 ex=>(i cl s0 H0 ex).ok) f h⟩
theorem BE(d:X.mg "range" = a8)(f:HA X [a] t)(S:X.env.kindOf "range" = a7 .globalImplicit:=by kernel_rfl)(h:i5 [a] X.env=[(c5,eval a X.env)]:=by kernel_rfl):HI X tg (.Call (.Name "range" p) [a] [] pos) (eK t):=⟨Cj d f.ok S h⟩
theorem BD(d:X.mg "range" = a8)(f:HA X [a,b] t)(S:X.env.kindOf "range" = a7 .globalImplicit:=by kernel_rfl)(h:i5 [a,b] X.env=[(c5,eval a X.env),(c5,eval b X.env)]:=by kernel_rfl)(c:i5 [b] X.env=[(c5,eval b X.env)]:=by kernel_rfl):HI X tg (.Call (.Name "range" p) [a,b] [] pos) (qZ t):=⟨Ci d f.ok S h c⟩
theorem Ld:E7 X (j6 .Sub) JG:=⟨Ko⟩
theorem Lg:E7 X (j6 .Mult) qj:=⟨GV⟩
theorem Ia:E7 X (j6 .FloorDiv) vB:=⟨GW⟩
theorem Lh:E7 X (j6 .Mod) Ax:=⟨Kr⟩
theorem ho_lt:E7 X (j7 .Lt) Nj:=⟨Kt⟩
theorem ho_le:E7 X (j7 .LtE) OI:=⟨od_le⟩
theorem ho_gt:E7 X (j7 .Gt) NA:=⟨od_gt⟩
theorem ho_is:E7 X (j7 .Is) O7:=⟨od_is⟩
theorem Ew:E7 X (j7 .IsNot) iJ:=⟨DM⟩
theorem ho_eq(i:Room k X.A):E7 X (j7 .Eq) z8:=⟨od_eq i⟩
theorem ho_ne(i:Room k X.A):E7 X (j7 .NotEq) Nz:=⟨od_ne i⟩
theorem ho_in(i:Room k X.A):E7 X (j7 .In) L7:=⟨od_in i⟩
theorem Ev(i:Room k X.A):E7 X (j7 .NotIn) ka:=⟨DJ i⟩
theorem Lc:RT X (unaryOp .USub) Gu:=⟨Jl⟩
theorem Ln:HC X (.builtin "len") nj:=⟨LZ⟩
theorem Lo(f:X.calm=a9:=by kernel_rfl):HC X (.builtin "any") IZ:=⟨Ma f⟩
theorem BV:Re X "append" bF:=⟨_,PySem.F.slot_list_append,PySem.F.type_list_append,yG⟩
theorem u8.byH{P:c9}{w:c8}{K:u4}{mg:c7->Option c6}{base:d7}{x:c7}{st:i6}{N b:List c7}{k:Nat}{d:w6}(F:ca K mg x st b)(i:FnScope N b (av st))(B:∀a M R,d a M R->a.length=b.length) {t:s9}(r:∀(f:d5) (cdv:c6) (A:f6) (outer:List Env) (s:f7) (H:Hp) (E:XK),Room k (A.deeper<|k7 x (av st) s.heap.objs.size f cdv)->HB (uz E8 P w K mg base N x (av st) f cdv A outer s H E).nox (bV st) t)(p:∀a M R,d a M R->t ⟨λ_ M'=>bb M R .non M',bb M R,λ_ _=>False,λ_ _=>False⟩ (cK N a) M):u8 P w K mg base (k+1) x b d:=u8.of F i B (λf cdv A outer s H E h=>(r f cdv A outer s H E h).ok) p
theorem EF{P:c9}{w:c8}{K:u4}{mg:c7->Option c6}{base:d7}{x:c7}{st:i6}{N c:List c7}{k:Nat}{d:w6}{f:d5}{a:k4}(F:MN K x x st f a)(i:FnScope N c (av st))(B:∀b M R,d b M R->b.length=c.length) {t:s9}(r:∀(f:d5) (cdv:c6) (A:f6) (outer:List Env) (s:f7) (H:Hp) (E:XK),Room k (A.deeper<|k7 x (av st) s.heap.objs.size f cdv)->HB (uz E8 P w K mg base N x (av st) f cdv A outer s H E).nox (bV st) t)(p:∀b M R,d b M R->t ⟨λ_ M'=>bb M R .non M',bb M R,λ_ _=>False,λ_ _=>False⟩ (cK N b) M):FnOk P w K mg base E8 (k+1) f a c (MY K d):=Ij F i B (λf cdv A outer s H E h=>(r f cdv A outer s H E h).ok) p
theorem kq(I:List D->SD->t8->Prop)(h0:∀S M,I [] S M->ok M/\E.nx S M)(h1:∀x s S M,I (x::s) S M->∀L:SD->t8->Prop,(∀S' M',I s S' M'->L S' M')->ok M/\g x S M λS2 M2=>tb ⟨x5 k0 L,E.rt,E.nx,x5 k0 L⟩ S2 M2):∀s S M,I s S M->uw ok g tb E k0 s S M
 | [],S,M,h=>h0 S M h
 |x::s,S,M,h=>h1 x s S M h _<|kq I h0 h1 s
theorem aT(I:Nat->SD->t8->Prop)(a:∀S M,I s.length S M->ok M/\E.nx S M)(h1:∀i x S M,s[i]?=a7 x->I i S M->∀L:SD->t8->Prop,(∀S' M',I (i+1) S' M'->L S' M')->ok M/\g x S M λS2 M2=>tb ⟨x5 k0 L,E.rt,E.nx,x5 k0 L⟩ S2 M2)(h:I 0 S M):uw ok g tb E k0 s S M:=by
 refine kq (λy S M=>∃i,s.drop i=y/\i+y.length=s.length/\I i S M) ?_ ?_ s S M ⟨0,rfl,by simp,h⟩;rintro S M ⟨i,_,e,q⟩;have:i=s.length:=by simpa using e
 subst this;exact a S M q;rintro x y S M ⟨i,e,l,q⟩ L b;have c:s[i]?=a7 x:=by
  have:(s.drop i)[0]?=a7 x:=by rw[e];rfl
  simpa using this
 refine h1 i x S M c q L λS' M' j=>b S' M' ⟨i+1,?_,by simp at l;lia,j⟩;rw[<-List.drop_drop,e];rfl
theorem x5.now(h:P S M):x5 k0 P S M:=.inl h
theorem fB{l:Int}{n i:Nat}{x:D}:(sW l n)[i]?=a7 x↔i<n/\x=.int (l+(i:Int)):=by unfold sW;rw[C8];by_cases h:i<n;simp[h,eq_comm];simp[h]
theorem fA{l:Int}{n:Nat}:(sW l n).length=n:=by simp[sW]
theorem aQ(p:D->Bool)(f:D->D)(I:SD->Prop)(hok:ok M):∀(s acc:List D) (S:SD),(∀x∈s,∀S,I S->∃S',I S'/\∀(Y:D->SD->t8->Prop) (Z:SD->t8->Prop),(if p x=a9 then Y (f x) S' M else Z S' M) -> g x S M λS2 M2=>tt S2 M2 λb M3=>if b=a9 then te S2 M3 λy M4=>Y y S2 M4 else Z S2 M3) ->I S->acc.length+s.length<=sizeLine->Q (.ref M.length) (M++[.lst<|acc++(s.filter p).map f])->oB ok g tt te Q s acc S M
 | [],acc,S,_,_,_,q=>⟨hok,by simpa using q⟩
 |x::s,acc,S,step,hS,hl,q=>by obtain⟨S',hS',k⟩:=step x C5 S hS;refine⟨hok,k (λy S2 M4=>acc.length<sizeLine/\oB ok g tt te Q s (acc++[y]) S2 M4) (λS2 M3=>oB ok g tt te Q s acc S2 M3) ?_⟩;have step':=λy hy=>step y<|A5 _ hy;rw[C3]at hl;by_cases hp:p x=a9;rw[n9 hp];refine⟨by lia,aQ p f I hok s _ S' step' hS' (by rw[A3,K2];lia) ?_⟩;rw[List.filter_cons_of_pos hp,C4]at q;rw[G7];exact q;rw[o0 hp];refine aQ p f I hok s acc S' step' hS' (by lia) ?_;rw[Ry hp]at q;exact q
theorem cL(f:D->D)(I:SD->Prop)(K:ok M)(s acc:List D) (S:SD) (L:∀x∈s,∀S,I S->∃S',I S'/\∀(Y:D->SD->t8->Prop),Y (f x) S' M->g x S M λS2 M2=>te S2 M2 λy M4=>Y y S2 M4)(a:I S) (l:acc.length+s.length<=sizeLine) (q:Q (.ref M.length) (M++[.lst<|acc++s.map f])):oB ok g xT te Q s acc S M:=by refine aQ (λ_=>a9) f I K s acc S (λx c S a=>?_) a l (by rw[List.filter_eq_self.mpr λ_ _=>rfl];exact q);obtain⟨S',b,k⟩:=L x c S a;refine⟨S',b,λY Z h=>?_⟩;rw[n9 rfl]at h;have:=k Y h;simp only[xT,p5];exact this
theorem ad:(M++[mo])[M.length]?=a7 mo:=by simp
theorem aw:aA (M++[.lst x]) M.length x:=.inl ad
theorem aA.more(h:aA M n x)(L:t8):aA (M++L) n x:=by
 have l:∀{mo:MO},M[n]?=a7 mo->(M++L)[n]?=a7 mo:=λe=>by rw[J0 (x9.mp e).1];exact e
 rcases h with h|h|h;exact .inl<|l h;exact .inr<|.inl<|l h;exact .inr<|.inr<|l h
theorem bb.keep(h:R d M)(b:C1 M.length d)(p:M <+: M'):bb M R d M':=.inr<|.inl ⟨M,.refl,b,p,h⟩
theorem bb.now(h:R d M):bb M R d M:=.inl h
theorem bb.bl(h:R (.bl b) M)(p:M <+: M'):bb M R (.bl b) M':=.keep h (.bl b) p
theorem bb.str(h:R (.str b) M)(p:M <+: M'):bb M R (.str b) M':=.keep h (.str b) p
theorem bb.non(h:R .non M)(p:M <+: M'):bb M R .non M':=.keep h .non p
theorem cG:M <+: M++[mo]:=G3 _ _
theorem kF{a b:c7}(h:a.cps.toList=b.cps.toList):a=b:=by cases a;cases b;simp only[Array.toList_inj]at h;simpa using h
theorem cj{a:c7}:a.length=a.cps.toList.length:=by show a.cps.size=_;simp
theorem IT{a b:c7}:(a++b).cps.toList=a.cps.toList++b.cps.toList:=by show (a.cps++b.cps).toList=_;simp
theorem cA{a b:c7}:(a++b).length=a.length+b.length:=by rw[cj,cj,cj,IT,A3]
theorem AR:(⟨#[c]⟩:c7).length=1:=rfl
theorem am(h:n<=1000):n<=sizeLine:=Oh<|aH h
theorem ku{α:Type}{xs:List α}{i:Int}(a:0<=i)(h1:i<xs.length):∃(j:Nat) (hj:j<xs.length),atI xs i=a7 xs[j]/\(j:Int)=i:=by
 have hj:i.toNat<xs.length:=by lia
 refine⟨i.toNat,hj,?_,by lia⟩;have e:i=((i.toNat:Nat):Int):=by lia
 have q:atI xs ((i.toNat:Nat):Int)=a7 xs[i.toNat]:=aF<|w9 hj;rw[<-e]at q;exact q
theorem aA.get(h:aA M n x):∃mo,M[n]?=a7 mo/\mo.items=x/\mo.isL=a9:=by rcases h with h|h|h<;>exact⟨_,h,rfl,rfl⟩
theorem xO(h1:aA M i x)(h2:aA M j y):t6 M (n+1) (.ref i) (.ref j)=C6 (t6 M n) x y:=by obtain⟨a,f,rfl,h⟩:=h1.get;obtain⟨b,d,rfl,c⟩:=h2.get;simp only[t6,f,d]
theorem qC(h1:aA M i s)(h:∀x∈s,u5 M n x=a9):u5 M (n+1) (.ref i)=a9:=by obtain⟨a,f,rfl,b⟩:=h1.get;simp only[u5,f,b,OU];exact E5.mpr h
theorem GT(h:∀x∈s,u5 M n x=a9):u5 M (n+1) (.tup s)=a9:=by simp only[u5];exact E5.mpr h
theorem ah:u5 M n (.str x)=a9:=by cases n<;>rfl
theorem qD:u5 M n (.int x)=a9:=by cases n<;>rfl
theorem Fz:u5 M n (.bl x)=a9:=by cases n<;>rfl
theorem AZ:u5 M n .non=a9:=by cases n<;>rfl
theorem Ik:C6 f x []=x.isEmpty:=by cases x<;>rfl
theorem dE:t6 M n (.int a) (.int b)=(a==b):=by cases n<;>rfl
theorem ax:t6 M n (.str a) (.str b)=(a==b):=by cases n<;>rfl
def jt:IV:=λd S M Q=>match d with
 | []=>Q S M
 |_=>False
def aO(t:L9)(u:IV):IV:=λs S M Q=>match s with
 |d::r=>t d S M λb a=>u r b a Q
 | []=>False
def jr(n:Nat)(t:IV):L9:=λd S M Q=>match d with
 |.tup s=>s.length=n/\t s S M Q
 |_=>False
theorem IB:Po X [] jt:=by
 rintro p s σ H v u R I r ⟨d,S,M,ρ,Q,m,e,f,q,k⟩;cases f with
 |nil=>exact GE p s σ H _ u R I r ⟨rfl,k σ H ⟨S,M,ρ,m,.refl,e,q⟩⟩
 |cons _ _=>exact q.elim
theorem ER(h1:DG X e t)(h2:Po X v u)(x:(j0 (e::v) X.env).map (·.2)=i9 e X.env::(j0 v X.env).map (·.2):=by rfl):Po X (e::v) (aO t u):=by
 rintro p s σ H vs y R I r ⟨z,S,M,ρ,Q,m,l,f,q,k⟩;cases f with
 |nil=>exact q.elim
 |cons i f=>refine Dp h1 h2 x p s σ H _ y R I r ⟨_,_,rfl,_,S,M,ρ,_,m,l,i,q,?_⟩;rintro n o ⟨g,d,c,j,g1,a,h⟩;exact⟨_,g,d,c,Q,j,a,f.grow g1,h,λb H' w=>k b H'<|SQ.trans g1 w⟩
theorem LN(h:Po X l t)(a:X.calm=a9:=by rfl)(b:(j0 l X.env).length=n:=by rfl) (c:(j0 l X.env).findIdx? (·.1)=a8:=by rfl):DG X (.Tuple l j pos) (jr n t):=by
 rintro p s σ H v u R I r ⟨d,S,M,ρ,Q,m,i,g,q,k⟩;cases g with
 |tup e f=>exact JR a h b c p s σ H _ u R I r ⟨_,_,rfl,e,by rw[<-f.length];exact q.1,_,S,M,ρ,Q,m,i,f,q.2,k⟩
 |_=>exact q.elim
def II(te:v8)(g:L9):s9:=λE S M=>te S M λd a=>g d S a E.nx
theorem LL(i:DE X e te)(h:DG X tg g)(o:swapsWithSole [tg] e pos.line X.env=pure c5:=by rfl)(f:swappedStores [tg] e X.env=pure a8:=by rfl)(h1:(j0 [tg] X.env).map (·.2)=[i9 tg X.env]:=by rfl):DS X (.Assign [tg] e pos) (II te g):=by refine PS.imp (JQ i h o f h1) ?_;rintro E σ H ⟨S,M,ρ,F,s,r,q,k⟩;refine⟨S,M,ρ,_,s,r,q,?_⟩;rintro v n ⟨d,b,c,m,g1,l,j⟩;exact⟨d,S,b,c,_,m,r.grow g1,l,j,λa H' w=>k.nx a H'<|SQ.trans g1 w⟩
def qSet:D->D->D->t8->(t8->Prop)->Prop:=λo i v M Q=>match o,i with
 |.ref n,.int k=>∃xs j,M[n]?=a7 (.lst xs)/\MK xs.length k=a7 j/\Q (M.set n<|.lst<|xs.set j v)
 |_,_=>False
theorem Reps.set{K:u4}{ρ:List d5}{H:Hp}{d:D}{v:V}(r:t9 K ρ H d v):∀{s:List D}{a:List V} (i:Nat),Reps K ρ H s a->Reps K ρ H (s.set i d) (a.set i v)
 |_,_,_,.nil=>.nil
 |_,_,0,.cons _ t=>.cons r t
 |_,_,i+1,.cons q t=>.cons q<|Reps.set r i t
def ES(e d:v8):L9:=λv S M Q=>e S M λo a=>d S a λi b=>qSet o i v b λM3=>Q S M3
theorem LO(E:DE X o to)(hi:DE X i ti)(D:∀v,i9 (.Subscript o i pos) X.env v=(do
   let ov <-i7 [v] (eval o X.env)
   let iv <-i7 [v,ov] (eval i X.env)
   standAt pos
   i7 [v,ov,iv] (setItem ov iv v)
   release [v,ov,iv] []):=by intro _;rfl):DG X (.Subscript o i pos) (ES to ti):=by
 rintro p s σ H v u R I r ⟨d,S,M,ρ,Q,P,f,N,q,k⟩;refine JS E hi Df D p s σ H v u R I r ⟨S,M,ρ,_,P,f,q,?_⟩;rintro Y U ⟨o',C,h,O,g1,J,F⟩;refine⟨S,C,h,_,O,f.grow g1,F,?_⟩;rintro W V ⟨i',m,l,A,g,K,b⟩;have c:=J.grow g;cases c with
 |@ref n a w =>
  cases K with
  |int j =>
   obtain⟨xs,y,e,L,G⟩:=(show ∃xs x,m[n]?=a7 (.lst xs)/\MK xs.length j=a7 x/\Q S (m.set n<|.lst<|xs.set x d)from b)
   obtain⟨vs,t,z⟩:=A.obj n a _ w e;obtain⟨T,B⟩:=A.write w e t<|Reps.set (N.grow<|g1.trans g) y z;exact⟨a,vs,j,y,rfl,rfl,t,by rw[<-z.length];exact L,k σ _ ⟨S,_,l,T,(g1.trans g).trans B,f.grow<|(g1.trans g).trans B,G⟩⟩
  |_=>exact b.elim
 |_=>exact b.elim
def iH:D1:=λd M Q=>match d with
 | [.ref n]=>∃x,aA M n x/\Q (.tup x) M
 | [.tup x]=>Q (.tup x) M
 |_=>False
theorem EZ:lq X (.type "tuple") iH:=by
 refine jw.imp rA ?_;rintro v H R ⟨d,M,ρ,Q,m,a,q,k⟩;unfold iH at q;split at q;obtain⟨x,L,q⟩:=q
 first|have z:=Reps.inv_cons a|have z:=aB.inv_cons a
 clear a;obtain⟨_,_,rfl,b,a⟩:=z;cases a;obtain⟨_,rfl,e⟩:=t9.inv_ref b;obtain⟨s,h,r⟩:=aA.seq m L e;exact⟨_,s,rfl,.inl ⟨h,λl g=>k _ _<|VQ.laidT m .refl r g q⟩⟩
 first|have z:=Reps.inv_cons a|have z:=aB.inv_cons a
 clear a;obtain⟨_,_,rfl,b,a⟩:=z;cases a;cases b with
 |tup h r=>exact⟨_,_,rfl,.inr ⟨h,k _ H<|VQ.now m (.tup h r) q⟩⟩
 exact q.elim
theorem Dx:C7 X (j6 .Add) (λx y H Q=>∃a b ys,x=.ref a/\y=.ref b/\A2 X.K H a []/\A2 X.K H b ys/\Q (.ref b) H):=by intro r s σ H x y v u Q I G J h;obtain⟨a,b,ys,rfl,rfl,z,A,q⟩:=h;cases G;cases J;obtain⟨its,F,D,_⟩:=I.tuple z;obtain⟨p,M,E,_⟩:=I.tuple A;have e:its=[]:=F.nil_iff.mpr rfl;subst e;obtain⟨⟨t,w,l,L⟩,B,m,n,o⟩:=id D;obtain⟨⟨k,g,i,j⟩,f,c,C,d⟩:=id E;simp only at m o c d;subst m o c d;exact concat_meets ⟨_,B,rfl⟩ ⟨_,f,rfl⟩ noFill_tuple_add seq_tuple_add Rt Rz (RE _ _) (tuple_addW0 a b _ _ n C w g L j<|by simp) ⟨B,f,⟨.ref b,H,I,rfl,q⟩⟩
def br:D9:=λx y M Q=>match x,y with
 |.tup xs,.tup s=>xs.length+s.length<=sizeLine/\Q (.tup<|xs++s) M
 |_,_=>qAdd x y M Q
theorem GX:E3 X (j6 .Add) br:=by
 rintro c s σ H f j v u R I g i ⟨x,y,M,ρ,Q,m,r,e,q,k⟩;unfold br at q;split at q;rename_i xs ys;obtain⟨a,vs,rfl,h1,t⟩:=t9.inv_tup r;obtain⟨b,w,rfl,h2,S⟩:=t9.inv_tup e;have l:=t.length;have d:=S.length;cases xs with
 |nil=>cases t;exact Dx c s σ H _ _ v u R I g i ⟨a,b,w,rfl,rfl,h1,h2,k _ H<|VQ.now m (.tup h2 S) q.2⟩
 |cons o n =>
  refine GP c s σ H _ _ v u R I g i ⟨a,b,vs,w,rfl,rfl,h1,h2,?_,by rw[<-l,<-d];exact q.1,λz=>?_,λ_ p h=>k _ _<|VQ.laidT m .refl (t.append S) h q.2⟩;intro z;subst z;simp at l;subst z;have:ys=[]:=by simpa using d
  subst this;rw[G2]at q;exact k _ H<|VQ.now m (.tup h1 t) q.2
 exact Kv c s σ H f j v u R I g i ⟨x,y,M,ρ,Q,m,r,e,q,k⟩
def np(n:Nat):D1:=λd M Q=>match d with
 | [.ref m]=>∃xs y,M[n]?=a7 (.lst xs)/\M[m]?=a7 (.lst y)/\n≠m/\xs.length+y.length<=sizeLine/\Q .non (M.set n<|.lst<|xs++y)
 |_=>False
theorem yF:Mm X "list.extend" (qG X.K np):=by
 rintro p s σ H x xs v us R I A y ⟨n,a,ds,M,ρ,Q,j,g,c,f,q,k⟩;unfold np at q;split at q;rename_i m;obtain⟨ys,D,e,l,u,o,q⟩:=q
 first|have z:=Reps.inv_cons f|have z:=aB.inv_cons f
 clear f;obtain⟨_,_,rfl,w,f⟩:=z;cases f;obtain⟨b,rfl,t⟩:=t9.inv_ref w;obtain⟨vs,d,r⟩:=c.obj n a _ g e;obtain⟨C,h,i⟩:=c.obj m b _ t l;obtain⟨L,B⟩:=c.write g e d<|r.append i;exact Bg p s σ H x _ v us R I A y ⟨a,b,vs,C,j,rfl,d,h,by rw[<-r.length,<-i.length];exact o,k _ _ ⟨.non,_,ρ,L,B,.non,q⟩⟩;exact q.elim
end L2
namespace Srt
open PySem PySem.W PyProof.Rows
noncomputable def run{α:Type}(c:Nat->Nat->Bool):KasT α->α
 |.ret a=>a
 |.ask i j k=>run c<|k<|c i j
theorem ie{α β:Type}{c:Nat->Nat->Bool}{f:α->KasT β}:∀t:KasT α,run c (t.bind f)=run c (f<|run c t)
 |.ret a=>rfl
 |.ask i j k=>ie<|k<|c i j
def Bd{α:Type}(n:Nat):KasT α->Prop
 |.ret _=>True
 |.ask i j k=>i<n/\j<n/\∀b,Bd n<|k b
def All{α:Type}(P:α->Prop):KasT α->Prop
 |.ret a=>P a
 |.ask _ _ k=>∀b,All P<|k b
theorem All.mono{α:Type}{P Q:α->Prop}(h:∀a,P a->Q a):∀t:KasT α,All P t->All Q t
 |.ret a,q=>h a q
 |.ask _ _ k,q=>λb=>All.mono h (k b)<|q b
theorem All.bind{α β:Type}{P:β->Prop}{f:α->KasT β}:∀t:KasT α,All (λa=>All P<|f a) t->All P (t.bind f)
 |.ret a,q=>q
 |.ask _ _ k,q=>λb=>All.bind (k b)<|q b
theorem Bd.bindA{α β:Type}{n:Nat}{f:α->KasT β}:∀t:KasT α,Bd n t->All (λa=>Bd n<|f a) t->Bd n (t.bind f)
 |.ret a,_,q=>q
 |.ask _ _ k,b,q=>⟨b.1,b.2.1,λx=>Bd.bindA (k x) (b.2.2 x)<|q x⟩
theorem All.run{α:Type}{P:α->Prop}{c:Nat->Nat->Bool}:∀t:KasT α,All P t->P (Srt.run c t)
 |.ret a,q=>q
 |.ask i j k,q=>All.run (k<|c i j)<|q _
theorem wp_run{α:Type}{cmp:Nat->Nat->(Bool->f7->Prop)->f7->Prop}{c:Nat->Nat->Bool}{n:Nat}{s:f7}{Q:α->f7->Prop}(hc:∀i j (C:Bool->f7->Prop),i<n->j<n->C (c i j) s->cmp i j C s):∀t:KasT α,Bd n t->Q (run c t) s->t.kasWp cmp Q s
 |.ret a,_,q=>q
 |.ask i j k,b,q=>hc i j _ b.1 b.2.1<|wp_run hc (k<|c i j) (b.2.2 _) q
structure K6(c:Nat->Nat->Bool):Prop where
 irr:∀a,c a a=c5
 tr:∀a b d,c a b=a9->c b d=a9->c a d=a9
 neg:∀a b d,c a d=a9->c a b=a9\/c b d=a9
section
variable{c:Nat->Nat->Bool}(O:K6 c)
def le(c:Nat->Nat->Bool)(a b:Nat):Prop:=c b a=c5
theorem le_refl(O:K6 c)(a:Nat):le c a a:=O.irr a
theorem le_trans(O:K6 c)(h1:le c a b)(h2:le c b d):le c a d:=by
 unfold le at *;cases q:c d a with
 |false=>rfl
 |true=>rcases O.neg d b a q with h|h;rw[h2]at h;cases h;rw[h1]at h;cases h
theorem le_of_lt(O:K6 c)(h:c a b=a9):le c a b:=by
 unfold le;cases q:c b a with
 |false=>rfl
 |true=>have:=O.tr a b a h q;rw[O.irr]at this;cases this
noncomputable abbrev at_(p:Array Nat)(k:Nat):Nat:=p.getD k 0
def Up(c:Nat->Nat->Bool)(p:Array Nat)(m:Nat):Prop:=∀i j,i<=j->j<m->le c (at_ p i) (at_ p j)
def Dn(c:Nat->Nat->Bool)(p:Array Nat)(m:Nat):Prop:=∀i j,i<=j->j<m->le c (at_ p j) (at_ p i)
def OM(c:Nat->Nat->Bool)(p:Array Nat)(a b:Nat):Prop:=∀i j,a<=i->i<b->a<=j->j<b->le c (at_ p i) (at_ p j)
theorem Up.one(O:K6 c)(p:Array Nat):Up c p 1:=λi j a L=>by
 have:i=j:=by lia
 subst this;exact le_refl O _
theorem Up.snoc(O:K6 c)(h:Up c p n)(h1:1<=n)(g:le c (at_ p<|n-1) (at_ p n)):Up c p (n+1):=λi j a L=>by
 by_cases b:j<n;exact h i j a b;have:j=n:=by lia
 subst this;by_cases hi:i=j;subst hi;exact le_refl O _;exact le_trans O (h i (j-1) (by lia)<|by lia) g
theorem Dn.snoc(O:K6 c)(h:Dn c p n)(h1:1<=n)(g:le c (at_ p n) (at_ p<|n-1)):Dn c p (n+1):=λi j a L=>by
 by_cases b:j<n;exact h i j a b;have:j=n:=by lia
 subst this;by_cases hi:i=j;subst hi;exact le_refl O _;exact le_trans O g<|h i (j-1) (by lia)<|by lia
theorem iQ(L:j<=p.size)(k:Nat):at_ (L3 p i j) k=if i<=k/\k<j then at_ p (i+j-1-k)else at_ p k:=by have e:=getElem?_mirror_all (xs:=p) (i:=i) L k;unfold at_ L3;rw[N8,e];by_cases h:i<=k/\k<j;rw[n9 h,n9 h,N8];rw[o0 h,o0 h,N8]
theorem uM(b:k<p.size)(a:d<=k)(i:Nat):at_ (bubble p k d) i=if i=k-d then at_ p k else if k-d<i/\i<=k then at_ p (i-1)else at_ p i:=by have e:=getElem?_bubble (xs:=p) b d a i;unfold at_;rw[N8,e];by_cases h:i=k-d;rw[n9 h,n9 h,N8];rw[o0 h,o0 h];by_cases h':k-d<i/\i<=k;rw[n9 h',n9 h',N8];rw[o0 h',o0 h',N8]
theorem Dn.rev(h:Dn c p n)(f:n<=p.size):Up c (L3 p 0 n) n:=λi j a L=>by rw[iQ f,iQ f,n9 ⟨z5 _,by lia⟩,n9 ⟨z5 _,L⟩];exact h _ _ (by lia)<|by lia
theorem Dn.revEq(O:K6 c)(h:Dn c p n)(f:n<=p.size)(e:OM c p a n):Dn c (L3 p a n) n:=λi j b L=>by rw[iQ f,iQ f];by_cases h1:a<=i/\i<n;by_cases h2:a<=j/\j<n;rw[n9 h1,n9 h2];exact e _ _ (by lia) (by lia) (by lia) (by lia);exact o4 ⟨by lia,L⟩ h2;by_cases h2:a<=j/\j<n;rw[o0 h1,n9 h2];exact h _ _ (by lia) (by lia);rw[o0 h1,o0 h2];exact h _ _ b L
theorem ww(O:K6 c):∀(f n:Nat),1<=n->Up c p n->Up c p (run c<|Mt p f n)/\n<=run c (Mt p f n)/\run c (Mt p f n)<=n+f /\(run c (Mt p f n)<n+f->c (at_ p<|run c<|Mt p f n) (at_ p<|run c (Mt p f n)-1)=a9)
 | 0,n,_,h=>⟨h,u7 _,u7 _,λz=>o4 z<|D5 _⟩
 |f+1,n,h1,h=>by
  show Up c p (run c<|if c (at_ p n) (at_ p<|n-1)=a9 then .ret n else Mt p f (n+1))/\n<=run c (if c (at_ p n) (at_ p<|n-1)=a9 then .ret n else Mt p f (n+1)) /\ run c (if c (at_ p n) (at_ p<|n-1)=a9 then .ret n else Mt p f (n+1))<=n+(f+1)/\(run c (if c (at_ p n) (at_ p<|n-1)=a9 then .ret n else Mt p f (n+1))<n+(f+1) -> c (at_ p<|run c<|if c (at_ p n) (at_ p<|n-1)=a9 then .ret n else Mt p f (n+1)) (at_ p<|run c (if c (at_ p n) (at_ p<|n-1)=a9 then .ret n else Mt p f (n+1))-1)=a9)
  by_cases q:c (at_ p n) (at_ p<|n-1)=a9;rw[n9 q];exact⟨h,u7 _,PK _ _,λ_=>q⟩;rw[o0 q];obtain⟨a1,a2,a3,a4⟩:=ww O f (n+1) (by lia) (h.snoc O h1<|by unfold le;simpa using q);exact⟨a1,by lia,by lia,λz=>a4<|by lia⟩
theorem fE:(L3 p i j).size=p.size:=mirror_size _ _ _ _
def CF(c:Nat->Nat->Bool)(z n m:Nat)(r:Array Nat×Nat×Nat):Prop:=r.1.size=z/\Dn c r.1 r.2.1/\n<=r.2.1/\r.2.1<=m/\r.2.2+1<=r.2.1/\OM c r.1 (r.2.1-(r.2.2+1)) r.2.1
def rE(c:Nat->Nat->Bool)(z nrem:Nat)(r:Nat×Array Nat):Prop:=r.2.size=z/\Up c r.2 r.1/\1<=r.1/\r.1<=nrem
def wz(c:Nat->Nat->Bool)(p:Array Nat)(k m:Nat):Prop:=m<=k/\(∀i,i<m->le c (at_ p i) (at_ p k))/\∀i,m<=i->i<k->c (at_ p k) (at_ p i)=a9
theorem my(O:K6 c):∀(f:Nat) (p:Array Nat) (n q:Nat),q+1<=n->n+f<=p.size->Dn c p n->OM c p (n-(q+1)) n ->CF c p.size n (n+f) (run c<|Ix f p n q)
 | 0,p,n,q,h1,h2,hd,he=>⟨rfl,hd,u7 _,u7 _,h1,he⟩
 |f+1,p,n,q,h1,h2,hd,he=>by
  have hn:n<=p.size:=by lia
  show CF c p.size n (n+(f+1)) (run c<|if c (at_ p n) (at_ p<|n-1)=a9 then(if q > 0 then Ix f (L3 p (n-(q+1)) n) (n+1) 0 else Ix f p (n+1) 0) else .ask (at_ p<|n-1) (at_ p n) λd=>if d=a9 then .ret (p,n,q)else Ix f p (n+1) (q+1));by_cases hc:c (at_ p n) (at_ p<|n-1)=a9;rw[n9 hc];by_cases hq:q > 0;rw[n9 hq];have hd':Dn c (L3 p (n-(q+1)) n) (n+1):=by refine(hd.revEq O hn he).snoc O (by lia) ?_;rw[iQ hn,iQ hn,o0 (by lia),n9 ⟨by lia,by lia⟩];exact le_trans O (le_of_lt O hc)<|he _ _ (by lia) (by lia) (by lia)<|by lia
  have r:=my O f (L3 p (n-(q+1)) n) (n+1) 0 (by lia) (by rw[fE];lia) hd' (λi j a1 a2 a3 a4=>by
   have:i=n:=by lia
   have:j=n:=by lia
   subst_vars
   exact le_refl O _)
  obtain⟨a1,a2,a3,a4,a5,a6⟩:=r;exact⟨a1.trans fE,a2,by lia,by lia,a5,a6⟩;rw[o0 hq];have r:=my O f p (n+1) 0 (by lia) (by lia) (hd.snoc O (by lia)<|le_of_lt O hc) (λi j a1 a2 a3 a4=>by
   have:i=n:=by lia
   have:j=n:=by lia
   subst_vars
   exact le_refl O _)
  obtain⟨a1,a2,a3,a4,a5,a6⟩:=r;exact⟨a1,a2,by lia,by lia,a5,a6⟩;rw[o0 hc];show CF c p.size n (n+(f+1)) (run c<|if c (at_ p<|n-1) (at_ p n)=a9 then .ret (p,n,q)else Ix f p (n+1) (q+1));by_cases hc':c (at_ p<|n-1) (at_ p n)=a9;rw[n9 hc'];exact⟨rfl,hd,u7 _,by show n<=_;lia,h1,he⟩;rw[o0 hc'];have l1:le c (at_ p n) (at_ p<|n-1):=by unfold le;simpa using hc'
  have l2:le c (at_ p<|n-1) (at_ p n):=by unfold le;simpa using hc
  have r:=my O f p (n+1) (q+1) (by lia) (by lia) (hd.snoc O (by lia) l1) (λi j a1 a2 a3 a4=>by by_cases hi:i=n;by_cases hj:j=n;subst hi hj;exact le_refl O _;subst hi;exact le_trans O l1 (he _ _ (by lia) (by lia) (by lia)<|by lia);by_cases hj:j=n;subst hj;exact le_trans O (he _ _ (by lia) (by lia) (by lia)<|by lia) l2;exact he _ _ (by lia) (by lia) (by lia)<|by lia);obtain⟨a1,a2,a3,a4,a5,a6⟩:=r;exact⟨a1,a2,by lia,by lia,a5,a6⟩
theorem rW(O:K6 c)(h1:1<=n)(f:n<=nrem)(hz:nrem<=p.size)(d:Dn c p n):rE c p.size nrem (run c<|kas_tail3 n nrem p):=by unfold kas_tail3;rw[ie];obtain⟨F,a,b,_⟩:=ww O (nrem-n) n h1 (d.rev<|by lia);exact⟨fE,F,D4 h1 a,D4 b<|by lia⟩
theorem lT(O:K6 c)(h1:1<=n)(x:n+1<=nrem)(hz:nrem<=p.size)(m:OM c p 0 n)(k:c (at_ p n) (at_ p<|n-1)=a9):rE c p.size nrem (run c<|OR n nrem p):=by
 have l:Dn c p (n+1):=by refine Dn.snoc O (λi j o L=>m _ _ (by lia) (by lia) (by lia)<|by lia) h1<|le_of_lt O k
 unfold OR;rw[ie];obtain⟨a,g,u,v,w,h⟩:=my O (nrem-(n+1)) p (n+1) 0 (by lia) (by lia) l (λi j F r s t=>by
  have:i=n:=by lia
  have:j=n:=by lia
  subst_vars
  exact le_refl O _)
 by_cases q:(run c<|Ix (nrem-(n+1)) p (n+1) 0).2.2 > 0;rw[n9 q];obtain⟨d,b,e,f⟩:=rW O (p:=L3 (run c<|Ix (nrem-(n+1)) p (n+1) 0).1 ((run c<|Ix (nrem-(n+1)) p (n+1) 0).2.1-((run c<|Ix (nrem-(n+1)) p (n+1) 0).2.2+1)) (run c<|Ix (nrem-(n+1)) p (n+1) 0).2.1) (n:=(run c<|Ix (nrem-(n+1)) p (n+1) 0).2.1) (nrem:=nrem) (by lia) (by lia) (by rw[fE,a];exact hz)<|g.revEq O (by rw[a];lia) h;exact⟨d.trans<|fE.trans a,b,e,f⟩;rw[o0 q];obtain⟨d,b,e,f⟩:=rW O (p:=(run c<|Ix (nrem-(n+1)) p (n+1) 0).1) (n:=(run c<|Ix (nrem-(n+1)) p (n+1) 0).2.1) (nrem:=nrem) (by lia) (by lia) (by rw[a];exact hz) g;exact⟨d.trans a,b,e,f⟩
theorem Co(O:K6 c)(h1:1<=nrem)(hz:nrem<=p.size):rE c p.size nrem (run c<|kas_count nrem p):=by
 unfold kas_count;rw[ie];obtain⟨F,a,o,l⟩:=ww O (nrem-1) 1 (u7 _)<|Up.one O p;generalize run c (Mt p (nrem-1) 1)=n at F a o l;by_cases k:(n==nrem)=a9;rw[n9 k];exact⟨rfl,F,a,by show n<=nrem;lia⟩;rw[o0 k];have x:n≠nrem:=by simpa using k
 have t:c (at_ p n) (at_ p<|n-1)=a9:=l (by lia);by_cases h2:n > 1;rw[n9 h2];show rE c p.size nrem (run c<|if c (at_ p 0) (at_ p<|n-1)=a9 then .ret (n,p)else OR n nrem (L3 p 0 n));by_cases f:c (at_ p 0) (at_ p<|n-1)=a9;rw[n9 f];exact⟨rfl,F,a,by show n<=nrem;lia⟩;rw[o0 f];have g:n<=p.size:=by lia
 have y:le c (at_ p<|n-1) (at_ p 0):=by unfold le;simpa using f
 have m:OM c p 0 n:=λi j b d u v=>le_trans O (F i (n-1) (by lia)<|by lia)<|le_trans O y<|F 0 j (by lia) v;have e:OM c (L3 p 0 n) 0 n:=λi j b d u v=>by rw[iQ g,iQ g,n9 ⟨b,d⟩,n9 ⟨u,v⟩];exact m _ _ (by lia) (by lia) (by lia)<|by lia
 have h:c (at_ (L3 p 0 n) n) (at_ (L3 p 0 n)<|n-1)=a9:=by rw[iQ g,iQ g,o0 (by lia),n9 ⟨by lia,by lia⟩];rcases O.neg _ (at_ p<|0+n-1-(n-1)) _ t with z|z;exact z;have:=m (n-1) (0+n-1-(n-1)) (by lia) (by lia) (by lia) (by lia);unfold le at this;rw[this]at z;cases z
 obtain⟨q,r,s,w⟩:=lT O (p:=L3 p 0 n) (n:=n) (nrem:=nrem) (by lia) (by lia) (by rw[fE];exact hz) e h;exact⟨q.trans fE,r,s,w⟩;rw[o0 h2];have:n=1:=by lia
 subst this;exact lT O (by lia) (by lia) hz (λi j b d u v=>by
  have:i=0:=by lia
  have:j=0:=by lia
  subst_vars
  exact le_refl O _) t
theorem nr(O:K6 c)(hu:Up c p k):∀(f l r:Nat),l<=r->r<=k->r-l<=f->(∀i,i<l->le c (at_ p i) (at_ p k))->(∀i,r<=i->i<k->c (at_ p k) (at_ p i)=a9) ->wz c p k (run c<|M8 p k f l r)
 | 0,l,r,h1,h2,h3,h4,h5=>⟨by show l<=k;lia,h4,λi a1 a2=>h5 i (by have a1':l<=i:=a1;lia) a2⟩
 |f+1,l,r,h1,h2,h3,h4,h5=>by
  show wz c p k (run c<|if l ≥ r then .ret l else .ask (at_ p k) (at_ p<|(l+r) / 2) λc=>if c=a9 then M8 p k f l ((l+r) / 2)else M8 p k f ((l+r) / 2+1) r);by_cases hl:l ≥ r;rw[n9 hl];exact⟨by show l<=k;lia,h4,λi a1 a2=>h5 i (by have a1':l<=i:=a1;lia) a2⟩;rw[o0 hl];show wz c p k (run c<|if c (at_ p k) (at_ p<|(l+r) / 2)=a9 then M8 p k f l ((l+r) / 2)else M8 p k f ((l+r) / 2+1) r);by_cases hc:c (at_ p k) (at_ p<|(l+r) / 2)=a9;rw[n9 hc];refine nr O hu f l ((l+r) / 2) (by lia) (by lia) (by lia) h4 λi a1 a2=>?_;rcases O.neg _ (at_ p i) _ hc with z|z;exact z;have:=hu ((l+r) / 2) i a1 a2;unfold le at this;rw[this]at z;cases z;rw[o0 hc];have lm:le c (at_ p<|(l+r) / 2) (at_ p k):=by unfold le;simpa using hc
  refine nr O hu f ((l+r) / 2+1) r (by lia) h2 (by lia) (λi hi=>?_) h5;exact le_trans O (hu i ((l+r) / 2) (by lia)<|by lia) lm
theorem Cu(O:K6 c)(f:k<p.size)(g:Up c p k)(l:m<=k)(h1:∀i,i<m->le c (at_ p i) (at_ p k))(h2:∀i,m<=i->i<k->c (at_ p k) (at_ p i)=a9):Up c (bubble p k<|k-m) (k+1):=by
 intro i j d L;have e:k-(k-m)=m:=by lia
 rw[uM f (by lia),uM f (by lia),e];by_cases hi:i=m;rw[n9 hi];by_cases h:j=m;rw[n9 h];exact le_refl O _;rw[o0 h,n9 ⟨by lia,by lia⟩];exact le_of_lt O (h2 _ (by lia)<|by lia);rw[o0 hi];by_cases a:m<i/\i<=k;rw[n9 a,o0 (by lia),n9 ⟨by lia,by lia⟩];exact g _ _ (by lia) (by lia);rw[o0 a];by_cases h:j=m;rw[n9 h];exact h1 i (by lia);rw[o0 h];by_cases b:m<j/\j<=k;rw[n9 b];exact g _ _ (by lia) (by lia);rw[o0 b];exact g _ _ d<|by lia
theorem Cw(O:K6 c):∀(f:Nat) (p:Array Nat) (k:Nat),k+f<=p.size->Up c p k->(run c<|kas_bin f p k).size=p.size/\Up c (run c<|kas_bin f p k) (k+f)
 | 0,p,k,_,h=>⟨rfl,h⟩
 |f+1,p,k,hz,h=>by show (run c<|(M8 p k k 0 k).bind λl=>kas_bin f (bubble p k<|k-l)<|k+1).size=p.size/\Up c (run c<|(M8 p k k 0 k).bind λl=>kas_bin f (bubble p k<|k-l)<|k+1) (k+(f+1));rw[ie];obtain⟨a1,a2,a3⟩:=nr O h k 0 k (z5 _) (u7 _) (by lia) (λi hi=>o4 hi<|No _) λi a1 a2=>o4 a2 (by lia);obtain⟨b1,b2⟩:=Cw O f (bubble p k<|k-run c (M8 p k k 0 k)) (k+1) (by rw[bubble_size];lia)<|Cu O (by lia) h a1 a2 a3;exact⟨b1.trans<|bubble_size _ _ _,by rw[show k+(f+1)=k+1+f by lia];exact b2⟩
theorem Gf(O:K6 c)(h1:1<=n):(run c<|M7 n).size=n/\Up c (run c<|M7 n) n:=by
 have h:(MH<|A9 n).size=n:=by simp
 unfold M7;rw[ie];obtain⟨F,a,b,t⟩:=Co O (p:=MH<|A9 n) h1 (by rw[h];exact u7 _);rw[h]at F;generalize run c (kas_count n<|MH<|A9 n)=r at F a b t;by_cases g:r.1<n;rw[n9 g];obtain⟨d,e⟩:=Cw O (n-max r.1 1) r.2 (max r.1 1) (by rw[F];lia) (by rw[show max r.1 1=r.1 by lia];exact a);exact⟨d.trans F,by rw[show n=max r.1 1+(n-max r.1 1) by lia];simpa using e⟩;rw[o0 g];have f:r.1=n:=by lia
 rw[f]at a;exact⟨F,a⟩
def D8(n:Nat)(p:Array Nat):Prop:=p.toList.Perm<|A9 n
theorem D8.lt(h:D8 n p)(a:0<n)(k:Nat):at_ p k<n:=by
 unfold at_;rw[N8];cases e:p[k]? with
 |none=>simpa using a
 |some x =>
  have:x∈p.toList:=by rw[<-G8]at e;exact D2 e
  have:=h.mem_iff.mp this;simpa using this
theorem D8.rev(h:D8 n p):D8 n (L3 p i j):=(Array.perm_iff_toList_perm.mp<|mirror_perm p i j<|(j-i) / 2).trans h
theorem D8.bub(h:D8 n p):D8 n (bubble p i j):=(Array.perm_iff_toList_perm.mp<|bubble_perm p i j).trans h
section
variable{n:Nat}(h0:0<n)
theorem Cz(h0:0<n)(h:D8 n p):∀(f k:Nat),Bd n (Mt p f k)
 | 0,_=>trivial
 |f+1,k=>⟨h.lt h0 _,h.lt h0 _,λb=>by cases b with
  |true=>exact trivial
  |false=>exact Cz h0 h f<|k+1⟩
theorem qX(h0:0<n):∀(f:Nat) (p:Array Nat) (k q:Nat),D8 n p->Bd n (Ix f p k q)/\All (λr=>D8 n r.1) (Ix f p k q)
 | 0,p,k,q,h=>⟨trivial,h⟩
 |f+1,p,k,q,h=>by
  have key:∀b,(Bd n<|if b=a9 then(if q > 0 then Ix f (L3 p (k-(q+1)) k) (k+1) 0 else Ix f p (k+1) 0) else KasT.ask (p.getD (k-1) 0) (p.getD k 0) λd=>if d=a9 then KasT.ret (p,k,q)else Ix f p (k+1) (q+1))/\All (λr=>D8 n r.1) (if b=a9 then(if q > 0 then Ix f (L3 p (k-(q+1)) k) (k+1) 0 else Ix f p (k+1) 0) else KasT.ask (p.getD (k-1) 0) (p.getD k 0) λd=>if d=a9 then KasT.ret (p,k,q)else Ix f p (k+1) (q+1)):=λb=>by
   cases b with
   |true=>rw[n9 rfl];by_cases hq:q > 0;rw[n9 hq];exact qX h0 f _ _ _ h.rev;rw[o0 hq];exact qX h0 f _ _ _ h
   |false =>
    rw[o0<|by simp];have a:=qX h0 f p (k+1) (q+1) h;refine⟨⟨h.lt h0 _,h.lt h0 _,λb=>?_⟩,λb=>?_⟩;cases b with
    |true=>exact trivial
    |false=>exact a.1
    cases b with
    |true=>exact h
    |false=>exact a.2
  exact⟨⟨h.lt h0 _,h.lt h0 _,λb=>(key b).1⟩,λb=>(key b).2⟩
theorem mq(c:0<n)(h:D8 n p):Bd n (kas_tail3 k m p)/\All (λr=>D8 n r.2) (kas_tail3 k m p):=by
 have v:∀{t:KasT Nat}{Q:Prop},Q->All (λ_=>Q) t:=λ{t Q} q=>by
  induction t with
  |ret a=>exact q
  |ask i j k d=>exact λb=>d b
 unfold kas_tail3;exact⟨Bd.bindA _ (Cz c h.rev _ _)<|v trivial,All.bind _<|v h.rev⟩
theorem fO(a:0<n)(h:D8 n p):Bd n (OR k m p)/\All (λr=>D8 n r.2) (OR k m p):=by unfold OR;obtain⟨b,c⟩:=qX a (m-(k+1)) p (k+1) 0 h;refine⟨Bd.bindA _ b<|c.mono<|λr i=>?_,All.bind _<|c.mono<|λr i=>?_⟩;by_cases q:r.2.2 > 0;rw[n9 q];exact(mq a i.rev).1;rw[o0 q];exact(mq a i).1;by_cases q:r.2.2 > 0;rw[n9 q];exact(mq a i.rev).2;rw[o0 q];exact(mq a i).2
theorem EX(c:0<n)(h:D8 n p):Bd n (kas_count m p)/\All (λr=>D8 n r.2) (kas_count m p):=by
 have v:∀{t:KasT Nat}{Q:Nat->Prop},(∀a,Q a)->All Q t:=λ{t Q} q=>by
  induction t with
  |ret a=>exact q a
  |ask i j k d=>exact λb=>d b
 unfold kas_count;refine⟨Bd.bindA _ (Cz c h _ _)<|v λk=>?_,All.bind _<|v λk=>?_⟩;by_cases h1:(k==m)=a9;rw[n9 h1];exact trivial;rw[o0 h1];by_cases h2:k > 1;rw[n9 h2];refine⟨h.lt c _,h.lt c _,λb=>?_⟩;cases b with
 |true=>exact trivial
 |false=>exact(fO c h.rev).1
 rw[o0 h2];exact(fO c h).1;by_cases h1:(k==m)=a9;rw[n9 h1];exact h;rw[o0 h1];by_cases h2:k > 1;rw[n9 h2];intro b;cases b with
 |true=>exact h
 |false=>exact(fO c h.rev).2
 rw[o0 h2];exact(fO c h).2
theorem qp(h0:0<n)(h:D8 n p):∀(f l r:Nat),Bd n (M8 p k f l r)
 | 0,_,_=>trivial
 |f+1,l,r=>by
  show Bd n (if l ≥ r then KasT.ret l else KasT.ask (p.getD k 0) (p.getD ((l+r) / 2) 0) λc=>if c=a9 then M8 p k f l ((l+r) / 2)else M8 p k f ((l+r) / 2+1) r);by_cases hl:l ≥ r;rw[n9 hl];exact trivial;rw[o0 hl];refine⟨h.lt h0 _,h.lt h0 _,λb=>?_⟩;cases b with
  |true=>exact qp h0 h f _ _
  |false=>exact qp h0 h f _ _
theorem xX(h0:0<n):∀(f:Nat) (p:Array Nat) (k:Nat),D8 n p->Bd n (kas_bin f p k)/\All (λr=>D8 n r) (kas_bin f p k)
 | 0,p,k,h=>⟨trivial,h⟩
 |f+1,p,k,h=>by
  have triv:∀{t:KasT Nat}{Q:Nat->Prop},(∀a,Q a)->All Q t:=λ{t Q} q=>by
   induction t with
   |ret a=>exact q a
   |ask i j k ih=>exact λb=>ih b
  exact⟨Bd.bindA _ (qp h0 h _ _ _)<|triv λl=>(xX h0 f _ _ h.bub).1,All.bind _<|triv λl=>(xX h0 f _ _ h.bub).2⟩
theorem sort_bd(a:0<n):Bd n (M7 n)/\All (λr=>D8 n r) (M7 n):=by
 have h:D8 n (MH<|A9 n):=by unfold D8;simp
 obtain⟨b,c⟩:=EX a (m:=n) h;unfold M7;refine⟨Bd.bindA _ b<|c.mono λr i=>?_,All.bind _<|c.mono λr i=>?_⟩;by_cases g:r.1<n;rw[n9 g];exact(xX a _ _ _ i).1;rw[o0 g];exact trivial;by_cases g:r.1<n;rw[n9 g];exact(xX a _ _ _ i).2;rw[o0 g];exact i
end
theorem sort_list{α:Type}[Inhabited α]{lt:α->α->Bool}(x:List α)(h1:1<=x.length)(r:∀a∈x,lt a a=c5)(tr:∀a∈x,∀b∈x,∀d∈x,lt a b=a9->lt b d=a9->lt a d=a9)(n:∀a∈x,∀b∈x,∀d∈x,lt a d=a9->lt a b=a9\/lt b d=a9):let c:=λi j=>if i<x.length then(if j<x.length then lt (x.getD i default) (x.getD j default)else a9)else c5
  let p:=run c<|M7 x.length
  let y:=p.toList.map λi=>x.getD i default
  y.Perm x/\y.Pairwise λa b=>lt b a=c5:=by
 intro c p y;have m:∀i,i<x.length->x.getD i default∈x:=λi hi=>by rw[G6,w9 hi];exact Mg hi
 have O:K6 c:=by refine⟨λa=>?_,λa b d=>?_,λa b d=>?_⟩;show (if a<x.length then(if a<x.length then lt _ _ else a9)else c5)=c5;by_cases f:a<x.length;rw[n9 f,n9 f];exact r _<|m a f;rw[o0 f];show (if a<x.length then(if b<x.length then lt _ _ else a9)else c5)=a9->(if b<x.length then(if d<x.length then lt _ _ else a9)else c5)=a9->(if a<x.length then(if d<x.length then lt _ _ else a9)else c5)=a9;by_cases f:a<x.length;by_cases h:b<x.length;by_cases g:d<x.length;rw[n9 f,n9 h,n9 h,n9 g,n9 f,n9 g];exact tr _ (m a f) _ (m b h) _<|m d g;intro _ _;rw[n9 f,o0 g];rw[o0<|show ¬b<x.length from h];intro _ z;rw[o0 h]at z;cases z;intro z;rw[o0 f]at z;cases z;show (if a<x.length then(if d<x.length then lt _ _ else a9)else c5)=a9->(if a<x.length then(if b<x.length then lt _ _ else a9)else c5)=a9\/(if b<x.length then(if d<x.length then lt _ _ else a9)else c5)=a9;by_cases f:a<x.length;by_cases h:b<x.length;by_cases g:d<x.length;rw[n9 f,n9 g,n9 f,n9 h,n9 h,n9 g];exact n _ (m a f) _ (m b h) _<|m d g;intro _;right;rw[n9 h,o0 g];intro _;left;rw[n9 f,o0 h];intro z;rw[o0 f]at z;cases z
 have E:D8 x.length p:=All.run _ (sort_bd<|by lia).2;obtain⟨v,U⟩:=Gf O h1;refine⟨?_,?_⟩;have e:(A9 x.length).map (λi=>x.getD i default)=x:=by apply Qx;intro i;rw[C8];by_cases hi:i<x.length;rw[List.getElem?_range hi];simp[G6,w9 hi];rw[Nw (by simpa using hi),Nw<|by simpa using hi];rfl
 have:=E.map λi=>x.getD i default;rw[e]at this;exact this;show (p.toList.map λi=>x.getD i default).Pairwise λa b=>lt b a=c5;rw[List.pairwise_iff_getElem];intro i j hi L t;rw[u6,E2]at hi L;have u:p.size=x.length:=v;have l:=U i j (by lia) (by lia);have o:∀k,at_ p k<x.length:=λk=>E.lt (by lia) k;unfold le at l;have l':(if at_ p j<x.length then(if at_ p i<x.length then lt (x.getD (at_ p j) default) (x.getD (at_ p i) default)else a9)else c5)=c5:=l;rw[n9<|o j,n9<|o i]at l';have q:p.toList[i]=at_ p i:=by unfold at_;simp[MF,hi]
 have s:p.toList[j]=at_ p j:=by unfold at_;simp[MF,L]
 rw[Oy,Oy,q,s];exact l'
end
end Srt
namespace L2
open PySem PySem.Spec PyProof.Rows DL
def zq(A:f6)(s:f7)(x y:c6)(k:Bool):Prop:=∀(g:c9) (w:c8) (E:c6->f7->Prop) (Q:c6->f7->Prop),Q (.bool k) s->ge (i3 g w) A (richCompare .Lt x y) Q E s
inductive LexAt(A:f6)(s:f7):List c6->List c6->Bool->Prop
 |nn:LexAt A s [] [] c5
 |nc {y:c6}{ys:List c6}:LexAt A s [] (y::ys) a9
 |cn {x:c6}{xs:List c6}:LexAt A s (x::xs) [] c5
 |eq {x y:c6}{xs ys:List c6}{k:Bool} (h:MG A s x y a9) (t:LexAt A s xs ys k):LexAt A s (x::xs) (y::ys) k
 |ne {x y:c6}{xs ys:List c6}{k:Bool} (h:MG A s x y c5) (t:zq A s x y k):LexAt A s (x::xs) (y::ys) k
section
open PySem.SeqAt
open PySem.AutoSeq1 (wpAny_loadPart')
open PySem.MeetsSeq PySem.MeetsSeq2 PySem.MeetsSeq3
theorem rS(l b:d5)(items i:Array c6)(n C:Nat)(r e:Option d5)(D m:Array (Option c6))(k:Bool):Meets (Builtin.«tuple.__lt__» ⟨[.ref l,.ref b],[]⟩)
   (λA R s=>s.heap.get? l=a7 (⟨.type "tuple",r,.seq items n,D⟩:d6)/\s.heap.get? b=a7 { cls:=.type "tuple",dict:=e,data:=.seq i C,slots:=m } /\ LexAt A.in1 s items.toList i.toList k/\R (.ok<|.ret<|.bool k) s) :=
 .of_wp λp w A R s h=>by
  obtain⟨o,g,d,u,q⟩:=s;obtain⟨z,v,a,h⟩:=h;have M:=AutoSeq1.sub_tuple_tuple
  wp_walk using QW z,QW v,NL _ (λbe b s'=>b.1=a8/\s'=⟨o,g,d,u,q⟩/\∃(vs c:List c6),be=vs.zip c /\ LexAt A.in1 ⟨o,g,d,u,q⟩ vs c k/\vs.length+i.size=c.length+items.size) _
  case turn =>
   rintro⟨y,x⟩ be b s' ⟨hb',rfl,vs,c,hz,hlex,hlen⟩;cases hlex with
   |nn=>cases hz
   |nc=>cases hz
   |cn=>cases hz
   |eq f t =>
    rw[Nf]at hz;injection hz with hyx hrest;injection hyx with hy a;subst hy a;refine p8<|f p w _ _ ?_
    wp_walk
    exact⟨rfl,rfl,_,_,hrest,t,by simp only[C3]at hlen;lia⟩
   |ne f t =>
    rw[Nf]at hz;injection hz with hyx hrest;injection hyx with hy a;subst hy a;refine p8<|f p w _ _ ?_;have j:=t p w
    wp_walk using j
    exact⟨_,rfl,by simpa using h⟩
  case fin =>
   rintro⟨b1,b2⟩ s' ⟨hb',rfl,vs,c,hz,hlex,hlen⟩;simp only at hb';subst hb';have B:k=decide (items.size<i.size):=by
    cases hlex with
    |nn=>simp only[C2]at hlen;exact(dF_<|by lia).symm
    |nc=>simp only[C2,C3]at hlen;exact(dT_<|by lia).symm
    |cn=>simp only[C2,C3]at hlen;exact(dF_<|by lia).symm
    |eq _ _=>rw[Nf]at hz;cases hz
    |ne _ _=>rw[Nf]at hz;cases hz
   rw[B]at h
   wp_walk
   exact⟨_,rfl,by simpa [RX]using h⟩
  case h =>
   exact⟨rfl,rfl,items.toList,i.toList,rfl,a,by simp;lia⟩
end
theorem zq.tuples(u:s.heap.IsTuple l items)(r:s.heap.IsTuple b items2)(v:A.units<j9)(y:LexAt A.in1 s items.toList items2.toList k):zq A s (.ref l) (.ref b) k:=λp w E Q h=>by obtain⟨⟨t,q,g,C⟩,B,m,n,o⟩:=id u;obtain⟨⟨j,e,i,f⟩,d,a,z,c⟩:=id r;simp only at m o a c;subst m o a c;exact richCompare_meets_room (op:=.Lt) ⟨_,B,rfl⟩ ⟨_,d,rfl⟩ PySem.F.slot_tuple_lt PySem.F.entry_tuple_lt (PySem.F.args_tuple_lt_2 _ _) (rS l b items items2 n z q e C f k) ⟨B,d,y,show Oe k≠Value.notImplemented/\Q (.bool k) s from⟨(λx=>nomatch x),h⟩⟩ v
noncomputable def vV(f g:D->D->Bool):List D->List D->Bool
 | [],[]=>c5
 | [],_::_=>a9
 |_::_,[]=>c5
 |x::s,y::a=>if f x y=a9 then vV f g s a else g x y
noncomputable def B7(M:t8):Nat->D->D->Bool
 |_,.int a,.int b=>decide<|a<b
 |_,.str a,.str b=>eW a b
 |n+1,.tup x,.tup y=>vV (t6 M n) (B7 M n) x y
 |_,_,_=>c5
noncomputable def zh(f g:D->D->Bool):List D->List D->Bool
 |x::s,y::a=>if f x y=a9 then zh f g s a else g x y
 |_,_=>a9
noncomputable def dS(M:t8):Nat->D->D->Bool
 |_,.int _,.int _=>a9
 |_,.str _,.str _=>a9
 |n+1,.tup x,.tup y=>zh (t6 M n) (dS M n) x y
 |_,_,_=>c5
theorem zq.ints(A:f6)(s:f7)(a:Int)(t:Tok)(c:Int)(u:Tok):zq A s (.int a t) (.int c u) (decide<|a<c):=λg w E Q h=>HT.rcLt_int A s a t c u g w E Q h
theorem zq.texts(A:f6)(s:f7)(a:c7)(t:Tok)(c:c7)(u:Tok):zq A s (.str a t) (.str c u) (eW a c):=λg w E Q h =>
 (PySem.P.lt_str (show Q (.bool<|decide<|a.cps.toList<c.cps.toList) s from h):ge (i3 g w) A (j7 .Lt (.str a t)<|.str c u) Q E s)
theorem Bk(I:r9 X pins σ H s)(sm:u9 X.K ρ M H):∀(n:Nat) (A:f6) (x y:D) (vx vy:V) (u v:c6),A.units+n<j9->t9 X.K ρ H x vx->aZ vx u->t9 X.K ρ H y vy->aZ vy v->u5 M n x=a9->u5 M n y=a9->dS M n x y=a9 ->zq A s u v (B7 M n x y):=by
 intro n;induction n with
 |zero =>
  intro A x y vx vy u v W J c g l S T m;cases J with
  |int a =>
   cases g with
   |int b=>obtain⟨t,rfl⟩:=c;obtain⟨t',rfl⟩:=l;exact zq.ints A s a t b t'
   |_=>simp[dS]at m
  |str a =>
   cases g with
   |str b=>obtain⟨t,rfl⟩:=c;obtain⟨t',rfl⟩:=l;exact zq.texts A s a t b t'
   |_=>simp[dS]at m
  |_=>simp[dS]at m
 |succ n Y =>
  intro A x y vx vy u v W J c g l S T m;have E:A.units<j9:=by lia
  have i:A.in1.units+n<j9:=by show A.units+1+n<j9;lia
  have F:∀(ds es:List D) (vs C:List V) (its j:List c6),Reps X.K ρ H ds vs->aB vs its->Reps X.K ρ H es C->aB C j->ds.all (u5 M n)=a9->es.all (u5 M n)=a9->zh (t6 M n) (dS M n) ds es=a9 -> LexAt A.in1 s its j (vV (t6 M n) (B7 M n) ds es):=by
   intro ds;induction ds with
   |nil =>
    intro es vs C its j p w o q _ _ _;cases p;cases w;cases o with
    |nil=>cases q;exact .nn
    |cons _ _=>cases q;exact .nc
   |cons d ds hi =>
    intro es vs C its j p w o q G B k;cases p with
    |cons L p =>
     cases w with
     |cons P w =>
      cases o with
      |nil=>cases q;exact .cn
      |@cons e _ U _ O o =>
       cases q with
       |cons R q=>rw[Me,C9]at G B;have z:=(lR I sm n A.in1 d _ _ _ _ _ i L P O R G.1 B.1).1;rw[vV];rw[zh]at k;by_cases f:t6 M n d e=a9;rw[f]at z;rw[n9 f]at k ⊢;exact .eq z<|hi _ _ _ _ _ p w o q G.2 B.2 k;have h:=My.mpr f;rw[h]at z;rw[o0 f]at k ⊢;exact .ne z<|Y A.in1 _ _ _ _ _ _ i L P O R G.1 B.1 k
  cases J with
  |int a =>
   cases g with
   |int b=>obtain⟨t,rfl⟩:=c;obtain⟨t',rfl⟩:=l;exact zq.ints A s a t b t'
   |_=>simp[dS]at m
  |str a =>
   cases g with
   |str b=>obtain⟨t,rfl⟩:=c;obtain⟨t',rfl⟩:=l;exact zq.texts A s a t b t'
   |_=>simp[dS]at m
  |tup f r =>
   cases g with
   |tup h r'=>cases c;cases l;obtain⟨its,rr,Z,_⟩:=I.tuple f;obtain⟨j,Q,N,_⟩:=I.tuple h;refine zq.tuples Z N E ?_;exact F _ _ _ _ _ _ r rr r' Q (by simpa [u5]using S) (by simpa [u5]using T) m
   |_=>simp[dS]at m
  |_=>simp[dS]at m
def JH:D9:=λx y M Q=>match x,y with
 |.tup s,.tup a=>(u5 M t5 (.tup s)=a9/\u5 M t5 (.tup a)=a9/\dS M t5 (.tup s) (.tup a)=a9)/\Q (.bl<|B7 M t5 (.tup s)<|.tup a) M
 |_,_=>Nj x y M Q
theorem Ks(h:Room k X.A):E3 X (j7 .Lt) JH:=by rintro p s σ H b l v u R I g i ⟨x,y,M,ρ,Q,m,r,a,q,k⟩;unfold JH at q;split at q;obtain⟨⟨c,f,o⟩,q⟩:=q;exact Bk I m t5 X.A _ _ b l v u (qa h) r g a i c f o _ _ _ _<|gY I m k q;exact Kt p s σ H b l v u R I g i ⟨x,y,M,ρ,Q,m,r,a,q,k⟩
noncomputable def A6:Nat->D->Bool
 |_,.int _=>a9
 |_,.str _=>a9
 |n+1,.tup x=>x.all<|A6 n
 |_,_=>c5
noncomputable def Jb(f:D->List Int):List D->List Int
 | []=>[0]
 |x::s=>1::(f x++Jb f s)
noncomputable def y4:Nat->D->List Int
 |_,.int i=>[0,i]
 |_,.str x=>1::(x.cps.toList.map (λ(c:Nat)=>(c:Int)+1)++[0])
 |n+1,.tup s=>2::Jb (y4 n) s
 |_,_=>[3]
def cF(x y:List Int):Prop:=∀a b,x++a<y++b
theorem cF.cons(i:Int)(h:cF x y):cF (i::x) (i::y):=λa b=>Nv.mpr<|.inr ⟨rfl,h a b⟩
theorem cF.head(x y:List Int)(h:i<j):cF (i::x) (j::y):=λa b=>Nv.mpr<|.inl h
theorem cF.lt(h:cF x y):x<y:=by have:=h [] [];simpa using this
theorem cF.pre(z:List Int)(h:cF x y):cF (z++x) (z++y):=by
 induction z with
 |nil=>exact h
 |cons i z a=>exact a.cons i
theorem cF.more(u v:List Int)(h:cF x y):cF (x++u) (y++v):=λa b=>by rw[G7,G7];exact h _ _
def Q9(x y:D)(n:Nat)(l:Bool)(r:Bool):Prop:=(x=y/\l=c5/\r=c5)\/(x≠y/\l=a9/\r=c5/\cF (y4 n x) (y4 n y))\/(x≠y/\l=c5/\r=a9/\cF (y4 n y) (y4 n x))
theorem uA:∀(x y:List Nat),(x=y)\/(x<y/\¬y<x/\cF (x.map (λ(c:Nat)=>(c:Int)+1)++[0]) (y.map (λ(c:Nat)=>(c:Int)+1)++[0]))\/(¬x<y/\y<x/\cF (y.map (λ(c:Nat)=>(c:Int)+1)++[0]) (x.map (λ(c:Nat)=>(c:Int)+1)++[0]))
 | [],[]=>.inl rfl
 | [],c::y=>.inr<|.inl ⟨List.nil_lt_cons _ _,List.not_lt_nil _,cF.head _ _<|by dsimp only;lia⟩
 |c::x,[]=>.inr<|.inr ⟨List.not_lt_nil _,List.nil_lt_cons _ _,cF.head _ _<|by dsimp only;lia⟩
 |c::x,e::y=>by
  rcases OB c e with h|h|h;refine .inr<|.inl ⟨Nv.mpr<|.inl h,λz=>?_,cF.head _ _<|by dsimp only;lia⟩;rcases Nv.mp z with z|⟨z,_⟩<;>lia
  subst h;rcases uA x y with q|⟨q1,q2,q3⟩|⟨q1,q2,q3⟩
  exact .inl (by rw[q]);refine .inr<|.inl ⟨Nv.mpr<|.inr ⟨rfl,q1⟩,λz=>?_,q3.cons _⟩;rcases Nv.mp z with z|⟨_,z⟩
  lia;exact q2 z;refine .inr<|.inr ⟨λz=>?_,Nv.mpr<|.inr ⟨rfl,q2⟩,q3.cons _⟩;rcases Nv.mp z with z|⟨_,z⟩
  lia;exact q1 z;refine .inr<|.inr ⟨λz=>?_,Nv.mpr<|.inl h,cF.head _ _<|by dsimp only;lia⟩;rcases Nv.mp z with z|⟨z,_⟩<;>lia
theorem Ly(M:t8):∀(n:Nat) (x y:D),A6 n x=a9->A6 n y=a9->(t6 M n x y=a9↔x=y):=by
 have l:∀(n:Nat),(∀(x y:D),A6 n x=a9->A6 n y=a9->(t6 M n x y=a9↔x=y))->∀(b s:List D),b.all (A6 n)=a9->s.all (A6 n)=a9->(C6 (t6 M n) b s=a9↔b=s):=by
  intro n i b;induction b with
  |nil=>intro s _ _;cases s<;>simp[C6]
  |cons x b hi =>
   intro s h1 h2;cases s with
   |nil=>simp[C6]
   |cons y s=>rw[Me,C9]at h1 h2;rw[C6,C9,i x y h1.1 h2.1,hi s h1.2 h2.2,Ou]
 intro n;induction n with
 |zero=>intro x y h1 h2;cases x<;>simp[A6]at h1<;>cases y<;>simp[A6]at h2<;>simp[t6]
 |succ n i =>
  intro x y h1 h2;cases x with
  |int a=>cases y<;>simp[A6]at h2<;>simp[t6]
  |str a=>cases y<;>simp[A6]at h2<;>simp[t6]
  |tup b =>
   cases y with
   |tup s=>simp only[t6,D.tup.injEq];exact l n i b s (by simpa [A6]using h1)<|by simpa [A6]using h2
   |int a=>simp[t6]
   |str a=>simp[t6]
   |_=>simp[A6]at h2
  |_=>simp[A6]at h1
theorem Kn(M:t8):∀(n:Nat) (x:D),A6 n x=a9->u5 M n x=a9:=by
 intro n;induction n with
 |zero=>intro x h;cases x<;>simp[A6]at h<;>rfl
 |succ n i =>
  intro x h;cases x with
  |int a=>rfl
  |str a=>rfl
  |tup s=>simp only[u5];rw[E5];intro y O;exact i y<|E5.mp (show s.all (A6 n)=a9 from h) y O
  |_=>simp[A6]at h
theorem Jn(M:t8):∀(n:Nat) (x y:D),A6 n x=a9->A6 n y=a9->dS M n x y=a9->Q9 x y n (B7 M n x y) (B7 M n y x):=by
 have base:∀(n:Nat) (a b:Int),Q9 (.int a) (.int b) n (decide<|a<b) (decide<|b<a):=λn a b=>by
  have e:∀a,y4 n (.int a)=[0,a]:=λa=>by cases n<;>rfl
  rcases Int.lt_trichotomy a b with h|h|h;exact .inr<|.inl ⟨by simp;lia,dT_ h,dF_ (by lia),by rw[e,e];exact(cF.head [] [] h).cons 0⟩;subst h;exact .inl ⟨rfl,dF_ (by lia),dF_<|by lia⟩;exact .inr<|.inr ⟨by simp;lia,dF_ (by lia),dT_ h,by rw[e,e];exact(cF.head [] [] h).cons 0⟩
 have s:∀(n:Nat) (a b:c7),Q9 (.str a) (.str b) n (eW a b) (eW b a):=λn a b=>by
  have e:∀a:c7,y4 n (.str a)=1::(a.cps.toList.map (λ(c:Nat)=>(c:Int)+1)++[0]):=λa=>by cases n<;>rfl
  unfold eW;rcases uA a.cps.toList b.cps.toList with h|⟨h1,h2,d⟩|⟨h1,h2,d⟩
  have:a=b:=kF h;subst this;exact .inl ⟨rfl,dF_<|I9 _,dF_<|I9 _⟩;exact .inr<|.inl ⟨λz=>by cases z;exact h2 h1,dT_ h1,dF_ h2,by rw[e,e];exact d.cons 1⟩;exact .inr<|.inr ⟨λz=>by cases z;exact h1 h2,dF_ h1,dT_ h2,by rw[e,e];exact d.cons 1⟩
 intro n;induction n with
 |zero=>intro x y h1 h2 d;cases x<;>simp[A6]at h1<;>cases y<;>simp[A6]at h2<;>first|exact base 0 _ _|exact s 0 _ _|simp[dS]at d
 |succ n m =>
  intro x y h1 h2 d;have l:∀(r p:List D),r.all (A6 n)=a9->p.all (A6 n)=a9->zh (t6 M n) (dS M n) r p=a9 -> (r=p/\vV (t6 M n) (B7 M n) r p=c5/\vV (t6 M n) (B7 M n) p r=c5) \/ (r≠p/\vV (t6 M n) (B7 M n) r p=a9/\vV (t6 M n) (B7 M n) p r=c5/\cF (Jb (y4 n) r) (Jb (y4 n) p)) \/ (r≠p/\vV (t6 M n) (B7 M n) r p=c5/\vV (t6 M n) (B7 M n) p r=a9/\cF (Jb (y4 n) p) (Jb (y4 n) r)):=by
   intro r;induction r with
   |nil =>
    intro p _ _ _;cases p with
    |nil=>exact .inl ⟨rfl,rfl,rfl⟩
    |cons y p=>exact .inr<|.inl ⟨by simp,rfl,rfl,cF.head _ _<|by decide⟩
   |cons x r hi =>
    intro p h1 h2 d;cases p with
    |nil=>exact .inr<|.inr ⟨by simp,rfl,rfl,cF.head _ _<|by decide⟩
    |cons y p =>
     rw[Me,C9]at h1 h2;rw[zh]at d;have i:=Ly M n x y h1.1 h2.1;have j:=Ly M n y x h2.1 h1.1;rw[vV,vV];by_cases q:x=y;subst q;rw[n9<|i.mpr rfl]at d;rw[n9<|i.mpr rfl,n9<|i.mpr rfl];rcases hi p h1.2 h2.2 d with⟨F,f,g⟩|⟨F,f,g,t⟩|⟨F,f,g,t⟩
     exact .inl ⟨by rw[F],f,g⟩;exact .inr<|.inl ⟨λz=>F (Pw z).2,f,g,(t.pre<|y4 n x).cons 1⟩;exact .inr<|.inr ⟨λz=>F (Pw z).2,f,g,(t.pre<|y4 n x).cons 1⟩;have k:¬t6 M n x y=a9:=λz=>q<|i.mp z;have o:¬t6 M n y x=a9:=λz=>q (j.mp z).symm;rw[o0 k]at d;rw[o0 k,o0 o];rcases m x y h1.1 h2.1 d with⟨F,_⟩|⟨F,f,g,t⟩|⟨F,f,g,t⟩
     exact o4 F q;exact .inr<|.inl ⟨λz=>q (Pw z).1,f,g,(t.more _ _).cons 1⟩;exact .inr<|.inr ⟨λz=>q (Pw z).1,f,g,(t.more _ _).cons 1⟩
  cases x with
  |int a=>cases y<;>simp[A6]at h2<;>first|exact base (n+1) _ _|simp[dS]at d
  |str a=>cases y<;>simp[A6]at h2<;>first|exact s (n+1) _ _|simp[dS]at d
  |tup r =>
   cases y with
   |tup p =>
    rcases l r p (by simpa [A6]using h1) (by simpa [A6]using h2) d with⟨F,f,g⟩|⟨F,f,g,t⟩|⟨F,f,g,t⟩
    exact .inl ⟨by rw[F],f,g⟩;exact .inr<|.inl ⟨λz=>F<|D.tup.inj z,f,g,t.cons 2⟩;exact .inr<|.inr ⟨λz=>F<|D.tup.inj z,f,g,t.cons 2⟩
   |_=>simp[dS]at d
  |_=>simp[A6]at h1
theorem qE(h1:A6 n x=a9)(h2:A6 n y=a9)(h:dS M n x y=a9):B7 M n x y=decide (y4 n x<y4 n y):=by
 rcases Jn M n x y h1 h2 h with⟨F,a,b⟩|⟨F,a,b,t⟩|⟨F,a,b,t⟩
 subst F;rw[a,dF_<|I9 _];rw[a,dT_ t.lt];rw[a,dF_<|λz=>I9 _<|Pv z t.lt]
theorem Ch(h1:A6 n x=a9)(h2:A6 n y=a9)(a:dS M n x y=a9)(e:y4 n x=y4 n y):x=y:=by
 rcases Jn M n x y h1 h2 a with⟨F,_⟩|⟨_,_,_,t⟩|⟨_,_,_,t⟩
 exact F;have:=t.lt;rw[e]at this;exact o4 this<|I9 _;have:=t.lt;rw[e]at this;exact o4 this<|I9 _
end L2
namespace L2
open PySem PySem.Spec PyProof.Rows DL PySem.W
theorem r9.laidF(I:r9 X pins σ H s)(k:∀b u,b≠X.env.locals->s.heap.get? b=a7 u->h'.get? b=a7 u)(p:s.heap.Ns X.env.locals m)(h:h'.Ns X.env.locals m)(t:s.heap.get? a=a8) (f:H a=a8) (j:cM X.prog X.w (v7 H a o) h' a o):r9 X pins σ (v7 H a o) { s with heap:=h',toks:=t' }:=by
 have i:∀b u,s.heap.get? b=a7 u->b≠a:=λb u e z=>by subst z;rw[t]at e;cases e
 refine I.step (g':=s.gens) (d':=s.drawn) (ch:=[]) (λ_ z=>nomatch z) (λb u L _ _ e _=>k b u L e) (λb u L _ _ e _=>⟨u.slots,k b u L e⟩) (λb u _ e n=>by rw[ao<|i b u e];exact n) (λb u _ e=>?_) (λb xs q=>by rw[ao<|ae q f];exact q) (λb u xs q=>by rw[ao<|ae q f];exact q) (λb ps q=>⟨#[],by rw[ao<|ae q f,q];simp⟩) (λy l=>?_) (λb w q=>?_) I.bare;by_cases d:b=X.env.locals;subst d;obtain⟨o',_,_,B,_⟩:=h;exact⟨o',B⟩;exact⟨u,k b u d e⟩;have:m=y:=funext λx=>p.agree l x;subst this;exact h;by_cases d:b=a;subst d;rw[aR]at q;cases q;exact j;rw[ao d]at q;refine(I.hok b w q).stay (λc v g r=>k c v ?_ r) (λc z=>by rw[ao<|ae z f];exact z) λc xs z=>by rw[ao<|ae z f];exact z
 rcases g with rfl|g;exact ae q I.free;exact ae g I.free
theorem r9.keptF(I:r9 X p σ H s)(k:∀b u,b≠X.env.locals->s.heap.get? b=a7 u->h'.get? b=a7 u)(i:s.heap.Ns X.env.locals m)(a:h'.Ns X.env.locals m):r9 X p σ H { s with heap:=h',toks:=t' }:=by refine I.step (g':=s.gens) (d':=s.drawn) (ch:=[]) (λ_ z=>nomatch z) (λb u h _ _ e _=>k b u h e) (λb u h _ _ e _=>⟨u.slots,k b u h e⟩) (λb u _ e n=>n) (λb u _ e=>?_) (λb l q=>q) (λb u l q=>q) (λb o q=>⟨#[],by rw[q];simp⟩) (λj g=>?_) (λb w q=>?_) I.bare;by_cases d:b=X.env.locals;subst d;obtain⟨o',_,_,B,_⟩:=a;exact⟨o',B⟩;exact⟨u,k b u d e⟩;have:m=j:=funext λx=>i.agree g x;subst this;exact a;refine(I.hok b w q).stay (λc v f r=>k c v ?_ r) (λc z=>z) λc l z=>z;rcases f with rfl|f;exact ae q I.free;exact ae f I.free
theorem sR{prog:c9}{w:c8}{A:f6}{E:c6->f7->Prop}{s:f7}{l:d5}{vs:List c6}{Q:c6->f7->Prop}(u:s.heap.IsList l vs.toArray)(h2:vs.length<2)(h:∀D h' n,s.heap.objs.size<=D->(∀b o,s.heap.get? b=a7 o->h'.get? b=a7 o)->h'.get? D=a7 { cls:=.type "list",data:=.seq vs.toArray n }->Q (.ref D) { s with heap:=h' }):ge (i3 prog w) A (call (.builtin "sorted")<|[G1 l]) Q E s:=by
 have f:vs.length<=sizeLine:=by rw[Mu];lia
 refine Calls.call_function_entry kind_sorted plain_sorted entry_sorted (args_sorted1<|.ref l) ?_;unfold Builtin.«sorted»;refine p8 (m:=checkCount "sorted" 1 1 _)<|t4<|p8<|collect_list u (p8<|Om ?_ f) f;generalize S:((s.heap.push<|m8 "list" #[] 0).update s.heap.objs.size (F8 (· ++ vs.toArray)))=g1;have z:g1.objs.size=s.heap.objs.size+1:=by rw[<-S,Heap.size_update,size_push']
 have G:∀b o,s.heap.get? b=a7 o->g1.get? b=a7 o:=λb o q=>by have d:=v9 q;rw[<-S,OD _ _ _ _<|x6 d,Heap.get?_push_ne _ _ _<|x6 d];exact q
 show ge _ _ _ _ _ { s with heap:=g1.push (m8 "list" vs.toArray 0) };have L:(g1.push<|m8 "list" vs.toArray 0).get? g1.objs.size=a7 (m8 "list" vs.toArray 0):=A1 _ rfl;refine p8<|D7<|K1 slot_list_sort (⟨_,L,rfl⟩) entry_list_sort ?body<|args_list_sort<|.ref _
 case body =>
  rw[list_sort_plain];refine p8<|OQ L rfl ?_;refine p8<|Ol L rfl ?_ (by rw[z7,Mu];lia)<|z5 _;obtain⟨k,e⟩:∃k,((g1.push<|m8 "list" vs.toArray 0).update g1.objs.size<|F8 λ_=>(#[]:Array c6)).get? g1.objs.size=a7 (m8 "list" #[] k):=⟨_,Ot L λ_=>#[]⟩
  refine p8<|seqEpoch_at e rfl<|p8<|wpAny_newTuple (p8<|Om (D7 ?_)<|z5 _) f;dsimp only;have g:vs.toArray.size<2:=by rw[z7];exact h2
  rw[n9 g,n9 g];refine p8<|t4 ?_;rw[StateT.run_pure];refine p8<|t4 ?_;dsimp only;generalize c:(((g1.push<|m8 "list" vs.toArray 0).update g1.objs.size<|F8 λ_=>(#[]:Array c6)).push<|m8 "tuple" vs.toArray 0).push (m8 "list" #[] 0)=g3;have a:g3.get? g1.objs.size=a7 (m8 "list" #[] k):=by rw[<-c];exact v5 _<|v5 _ e
  have x:∀b o,b≠g1.objs.size->s.heap.get? b=a7 o->g3.get? b=a7 o:=λb o i q=>by have y:=G b o q;rw[<-c];refine v5 _<|v5 _ ?_;rw[OD _ _ _ _ i];exact v5 _ y
  refine p8<|seqEpoch_at a rfl ?_;have r:∀us:List c6,us.length<2->(us.toArray.zip us.toArray).map (·.2)=us.toArray:=λus hu=>by
   match us,hu with
   | [],_=>simp
   | [v],_=>simp
   |_::_::_,hu=>simp at hu;lia
  have t:(arrOf<|SortSt.mk' general' (vs.toArray.zip vs.toArray) #[] 7 a8).map (·.2)=vs.toArray:=r vs h2;rw[t];refine p8 (Ol a rfl ?_ (z5 _)<|by rw[z7,Mu];lia);simp only[show failedOf (SortSt.mk' general' (vs.toArray.zip vs.toArray) #[] 7 a8)=a8 from rfl,bne_self_eq_false,B9,o8];refine t4 ⟨_,rfl,t4 ⟨_,rfl,?_⟩⟩;obtain⟨j,p⟩:∃j,(g3.update g1.objs.size<|F8 λ_=>vs.toArray).get? g1.objs.size=a7 (m8 "list" vs.toArray j):=⟨_,Ot a λ_=>vs.toArray⟩
  refine h g1.objs.size _ j (by lia) (λb o q=>?_) p;have i:b≠g1.objs.size:=x6 (by rw[z];exact Nq<|v9 q);rw[OD _ _ _ _ i];exact x b o i q
structure SrtOk(M:t8)(xs:List D):Prop where
 len:xs.length<64
 ok:∀x∈xs,A6 t5 x=a9
 cm:∀x∈xs,∀y∈xs,dS M t5 x y=a9
 kd:(∀x∈xs,∃z,x=.str z)\/(∀x∈xs,∃i,x=.int i)\/(∀x∈xs,∃z r,x=.tup (.str z::r))\/(∀x∈xs,∃i r,x=.tup (.int i::r))\/(∀x∈xs,∃z r,x=.tup (.tup z::r))
structure SrtG(M:t8)(xs:List D):Prop where
 len:xs.length<64
 okd:∀x∈xs,u5 M t5 x=a9
 cm:∀x∈xs,∀y∈xs,dS M t5 x y=a9
 kd:(∀x∈xs,∃z,x=.str z)\/(∀x∈xs,∃i,x=.int i)\/(∀x∈xs,∃z r,x=.tup (.str z::r))\/(∀x∈xs,∃i r,x=.tup (.int i::r))\/(∀x∈xs,∃z r,x=.tup (.tup z::r))
 od:∃en:D->List Int,∀a∈xs,∀b∈xs,B7 M t5 a b=decide (en a<en b)
theorem SrtOk.g(o:SrtOk M s):SrtG M s:=⟨o.len,λx h=>Kn M _ _<|o.ok x h,o.cm,o.kd,y4 t5,λa f b d=>qE (o.ok a f) (o.ok b d)<|o.cm a f b d⟩
def FT(M:t8)(y:List D):Prop:=y.Pairwise λa b=>B7 M t5 b a=c5
def kI:D1:=λd M Q=>match d with
 | [.ref n]=>∃x,aA M n x/\SrtG M x/\∀y,y.Perm x->FT M y->Q (.ref M.length) (M++[.lst y])
 |_=>False
theorem Reps.perm{K:u4}{ρ:List d5}{H:Hp}{s:List D}{b:List V}(r:Reps K ρ H s b)(is:List Nat)(hi:∀i∈is,i<s.length):Reps K ρ H (is.map λi=>s.getD i .non) (is.map λi=>b.getD i .non):=by
 induction is with
 |nil=>exact .nil
 |cons i is a=>have h:=hi i C5;obtain⟨v,e,d⟩:=r.get<|w9 h;refine .cons ?_<|a λj L=>hi j<|A5 _ L;show t9 K ρ H (s.getD i .non) (b.getD i .non);rw[G6,G6,e,w9 h];exact d
theorem aB.perm(r:aB s u)(is:List Nat)(hi:∀i∈is,i<s.length):aB (is.map λi=>s.getD i .non) (is.map λi=>u.getD i .none):=by
 induction is with
 |nil=>exact .nil
 |cons i is a=>have h:=hi i C5;obtain⟨v,e,d⟩:=jB r<|w9 h;refine .cons ?_<|a λj L=>hi j<|A5 _ L;show aZ (s.getD i .non) (u.getD i .none);rw[G6,G6,e,w9 h];exact d
instance:Inhabited D:=⟨.non⟩
theorem GY(o:HO)(x:cM P w H h a o):∃u,h.get? a=a7 u:=by
 cases o with
 |lst _=>obtain⟨_,_,_,_,e⟩:=x;exact⟨_,e⟩
 |tup _=>obtain⟨_,_,_,o,e,_⟩:=x;exact⟨o,e⟩
 |dK _=>obtain⟨_,_,_,_,_,_,_,e,_⟩:=x;exact⟨_,e⟩
 |dT _=>obtain⟨_,_,_,_,o,_,_,e,_⟩:=x;exact⟨o,e⟩
 |set _ _=>obtain⟨o,_,_,_,e,_⟩:=x;exact⟨_,e⟩
 |ins _ _ _=>obtain⟨_,_,_,e,_⟩:=x;exact⟨_,e⟩
 |own _=>exact x
 |xd _=>obtain⟨_,⟨_,_,_,e,_⟩,_⟩:=x;exact⟨_,e⟩
 |rng _ _=>obtain⟨_,_,_,e⟩:=x;exact⟨_,e⟩
 |frz _ _=>obtain⟨e,_⟩:=x;exact⟨_,e⟩
 |tbl _=>exact⟨_,x⟩
 |met _ _=>exact⟨_,x⟩
 |ext _=>obtain⟨_,e,_⟩:=x;exact e
theorem D0.none(x:D0 P w H h)(e:h.get? a=a8):H a=a8:=by
 cases q:H a with
 |none=>rfl
 |some o=>exfalso;obtain⟨u,g⟩:=GY o<|x a o q;rw[e]at g;cases g
theorem Hc(I:r9 X x σ H s)(m:u9 X.K ρ M H)(n:Nat)(A:f6)(u:A.units+n<j9):∀(r t:List D) (v w:List V) (o jts:List c6),Reps X.K ρ H r v->aB v o->Reps X.K ρ H t w->aB w jts->r.all (u5 M n)=a9->t.all (u5 M n)=a9 ->zh (t6 M n) (dS M n) r t=a9->LexAt A s o jts (vV (t6 M n) (B7 M n) r t):=by
 intro r;induction r with
 |nil =>
  intro t v w o jts g c p j _ _ _;cases g;cases c;cases p with
  |nil=>cases j;exact .nn
  |cons _ _=>cases j;exact .nc
 |cons d r hi =>
  intro t v w o jts g c p j G B k;cases g with
  |cons F g =>
   cases c with
   |cons b c =>
    cases p with
    |nil=>cases j;exact .cn
    |@cons e _ l _ a p =>
     cases j with
     |cons f j=>rw[Me,C9]at G B;have i:=(lR I m n A d _ _ _ _ _ u F b a f G.1 B.1).1;rw[vV];rw[zh]at k;by_cases q:t6 M n d e=a9;rw[q]at i;rw[n9 q]at k ⊢;exact .eq i<|hi _ _ _ _ _ g c p j G.2 B.2 k;have h:=My.mpr q;rw[h]at i;rw[o0 q]at k ⊢;exact .ne i<|Bk I m n A _ _ _ _ _ _ u F b a f G.1 B.1 k
theorem Er(h:LexAt A s its jts k):∀(i:Nat),(b&&i==0)=c5->(b&&i+1==0)=c5->Q k s->KatLex p w A b (decide<|its.length<jts.length) Q (its.zip jts) i s:=by
 have n:∀i:Nat,(b&&i+1==0)=c5:=λi=>by cases b<;>simp
 induction h with
 |nn=>intro i _ _ q;exact q
 |nc=>intro i _ _ q;exact(show Q (decide<|0<_+1) s by rw[dT_<|Nat.succ_pos _];exact q)
 |cn=>intro i _ _ q;exact(show Q (decide<|_+1<0) s by rw[dF_<|No _];exact q)
 |@eq x y c f k e t a=>intro i d _ q;refine kat_cons<|e p w _ _<|kat_yes ?_;have:=a (i+1) (n i) (n<|i+1) q;rw[show decide ((x::c).length<(y::f).length)=decide (c.length<f.length) by simp];exact this
 |@ne x y c f k e t=>intro i d _ q;refine kat_cons<|e p w _ _<|kat_no ?_;rw[d];exact kat_one _ _<|t p w _ _ q
theorem BH(i:MG A s p q e)(g:e=c5->∀Q':Bool->f7->Prop,Q' l s->ge (i3 prog w) A (oneLt' (b&&0==0) p q) Q' (λ_ _=>False) s)(D:e=a9->LexAt A s its jts k)(h:Q (if e=a9 then k else l) s):KatLex prog w A b (decide<|(p::its).length<(q::jts).length) Q ((p::its).zip<|q::jts) 0 s:=by
 refine kat_cons<|i prog w _ _ ?_;cases e with
 |true=>refine kat_yes ?_;rw[show decide ((p::its).length<(q::jts).length)=decide (its.length<jts.length) by simp];exact Er (D rfl) 1 (by cases b<;>rfl) (by cases b<;>rfl) h
 |false=>exact kat_no<|g rfl _ h
section
variable{X:Cx}{pins:List (d5×d6)}{σ:St}{H:Hp}{s:f7}{ρ:List d5}{M:t8}
theorem tM{M:Model}{h:d7}{x:c7}{t:Tok}:Looks M h (typeOf<|.str x t) (.type "str"):=Looks.of_pure rfl
theorem tN{M:Model}{h:d7}{x:Int}{t:Tok}:Looks M h (typeOf<|.int x t) (.type "int"):=Looks.of_pure rfl
theorem Reps.getD'(r:Reps X.K ρ H b g)(f:aB g c)(h:i<b.length):∃v,t9 X.K ρ H (b.getD i default) v/\aZ v (c.getD i .none)/\b.getD i default∈b:=by obtain⟨v,e,d⟩:=r.get<|w9 h;obtain⟨u,a,R⟩:=jB f e;refine⟨v,?_,?_,?_⟩;rw[G6,w9 h];exact d;rw[G6,a];exact R;rw[G6,w9 h];exact Mg h
theorem Reps.mem(r:Reps X.K ρ H k l)(f:aB l j)(h:u∈j):∃d v,d∈k/\t9 X.K ρ H d v/\aZ v u:=by
 induction k generalizing l j with
 |nil=>cases r;cases f;cases h
 |cons g k i =>
  cases r with
  |cons e r =>
   cases f with
   |cons c q=>rcases(A0 (a:=u)).mp h with rfl|h;exact⟨_,_,C5,e,c⟩;obtain⟨d,v,h1,h2,b⟩:=i r q h;exact⟨d,v,A5 _ h1,h2,b⟩
theorem wd(I:r9 X pins σ H s)(r:Reps X.K ρ H xs ws)(b:aB ws its)(a:∀x∈xs,∃f r,x=.tup (f::r)):∃fs,KatTups s.heap its fs/\fs.length=its.length/\∀u∈fs,∃d v,t9 X.K ρ H d v/\aZ v u/\∃r,D.tup (d::r)∈xs:=by
 induction xs generalizing ws its with
 |nil=>cases r;cases b;exact⟨[],.nil,rfl,λ_ z=>nomatch z⟩
 |cons d ds w =>
  cases r with
  |cons C r =>
   cases b with
   |cons A q =>
    obtain⟨fs,h1,h2,j⟩:=w r q λx h=>a x<|A5 _ h;obtain⟨f,be,rfl⟩:=a d C5;cases C with
    |tup p c =>
     cases A;obtain⟨its,e,y,E⟩:=I.tuple p;cases c with
     |cons F c =>
      cases e with
      |cons i e=>obtain⟨o,B,k,n,m⟩:=y;refine⟨_::fs,.cons B k m rfl h1,by simp[h2],λu g=>?_⟩;rcases A0.mp g with rfl|g;exact⟨_,_,F,i,_,C5⟩;obtain⟨d,v,t,l,r',R⟩:=j u g;exact⟨d,v,t,l,r',A5 _ R⟩
noncomputable def ltc(M:t8)(xs:List D)(i j:Nat):Bool:=B7 M t5 (xs.getD i default)<|xs.getD j default
theorem mZ(I:r9 X pins σ H s)(sm:u9 X.K ρ M H){xs:List D}{ws:List V}{its:List c6}(so:SrtG M xs)(r:Reps X.K ρ H xs ws)(J:aB ws its)(h2:2<=its.length){A:f6}(P:A.units+t5<j9):ge (i3 X.prog X.w) A (keyKind' its.toArray) (λκ s'=>s'=s/\∀i j (C:Bool->f7->Prop),i<its.length->j<its.length->C (ltc M xs i j) s->kas_ask X.prog X.w A κ its i j C s) (λ_ _=>False) s:=by
 have lw:=r.length;have li:=J.length;have le:xs.length=its.length:=by lia
 have O:∀(b:Bool),(∀x∈xs,∃f r,x=.tup (f::r))->(∀(f g:D) (vf vg:V) (p q:c6) (r r':List D),D.tup (f::r)∈xs->D.tup (g::r')∈xs->t9 X.K ρ H f vf->aZ vf p->t9 X.K ρ H g vg->aZ vg q -> (t6 M 29 f g=c5->∀Q':Bool->f7->Prop,Q' (B7 M 29 f g) s->ge (i3 X.prog X.w) A (oneLt' (b&&0==0) p q) Q' (λ_ _=>False) s)) -> ∀i j (C:Bool->f7->Prop),i<its.length->j<its.length->C (ltc M xs i j) s->kas_ask X.prog X.w A (tuples' b) its i j C s:=by
  intro b F ai i j C hi hj E;unfold kas_ask;obtain⟨v1,c,B,m⟩:=r.getD' J (show i<xs.length by lia);obtain⟨v2,G,L,W⟩:=r.getD' J (show j<xs.length by lia);unfold ltc at E;have k1:=so.okd _ m;have k2:=so.okd _ W;have k3:=so.cm _ m _ W;generalize xs.getD i default=x at *;generalize xs.getD j default=y at *;obtain⟨f,rf,rfl⟩:=F _ m;obtain⟨g,rg,rfl⟩:=F _ W;cases c with
  |tup S rs =>
   cases G with
   |tup aS Z =>
    generalize its.getD i .none=u1 at *;generalize its.getD j .none=u2 at *;cases B;cases L;obtain⟨as,ra,pa,_⟩:=I.tuple S;obtain⟨bs,rb,pb,_⟩:=I.tuple aS;obtain⟨o,ho,_,n,hd⟩:=pa;obtain⟨o',aP,_,n',aD⟩:=pb;refine kat_lt ho hd aP aD ?_;cases rs with
    |cons a1 rs =>
     cases ra with
     |@cons _ p _ la b1 ra =>
      cases Z with
      |cons a2 Z =>
       cases rb with
       |@cons _ q _ lb b2 rb =>
        have aj:A.units+29<j9:=by have:t5=30:=rfl;lia
        have z1:u5 M 29 f=a9/\rf.all (u5 M 29)=a9:=by
         have:(f::rf).all (u5 M 29)=a9:=k1
         rwa [Me,C9]at this
        have z2:u5 M 29 g=a9/\rg.all (u5 M 29)=a9:=by
         have:(g::rg).all (u5 M 29)=a9:=k2
         rwa [Me,C9]at this
        have z3:(if t6 M 29 f g=a9 then zh (t6 M 29) (dS M 29) rf rg else dS M 29 f g)=a9:=k3;have he:=(lR I sm 29 A _ _ _ _ _ _ aj a1 b1 a2 b2 z1.1 z2.1).1;have R:C (if t6 M 29 f g=a9 then vV (t6 M 29) (B7 M 29) rf rg else B7 M 29 f g) s:=E;cases U:t6 M 29 f g with
        |true=>rw[U]at he R z3;have:=BH (prog:=X.prog) (w:=X.w) (b:=b) (Q:=C) (l:=a9) he (λz=>nomatch z) (λ_=>Hc I sm 29 A aj _ _ _ _ _ _ rs ra Z rb z1.2 z2.2 z3) R;simpa using this
        |false=>rw[U]at he R;have:=BH (prog:=X.prog) (w:=X.w) (b:=b) (Q:=C) (l:=B7 M 29 f g) (its:=la) (jts:=lb) (k:=a9) he (λ_=>ai f g _ _ _ _ _ _ m W a1 b1 a2 b2 U) (λz=>nomatch z) R;simpa using this
 have N:∀(κ:SortKind),(∀i j (C:Bool->f7->Prop),i<its.length->j<its.length->C (ltc M xs i j) s->kas_ask X.prog X.w A κ its i j C s)->(s=s/\∀i j (C:Bool->f7->Prop),i<its.length->j<its.length->C (ltc M xs i j) s->kas_ask X.prog X.w A κ its i j C s):=λκ h=>⟨rfl,h⟩
 have an:A.units+29<j9:=by have:t5=30:=rfl;lia
 rcases so.kd with a|a|a|a|a;refine kas_kind (T:=.type "str") h2 (λu P=>?_) (by decide) (by decide)<|N _ λi j C hi hj E=>?_;obtain⟨d,v,m,c,B⟩:=r.mem J P;obtain⟨z,rfl⟩:=a d m;cases c;obtain⟨t,rfl⟩:=B;exact tM;unfold kas_ask;obtain⟨v1,c,B,m⟩:=r.getD' J (show i<xs.length by lia);obtain⟨v2,G,L,W⟩:=r.getD' J (show j<xs.length by lia);unfold ltc at E;obtain⟨z,hz⟩:=a _ m;obtain⟨z',Y⟩:=a _ W;rw[hz]at c E;rw[Y]at G E;cases c;cases G;obtain⟨t,h1⟩:=B;obtain⟨t',h2⟩:=L;rw[h1,h2];exact kas_lt_str E;refine kas_kind (T:=.type "int") h2 (λu P=>?_) (by decide) (by decide)<|N _ λi j C hi hj E=>?_;obtain⟨d,v,m,c,B⟩:=r.mem J P;obtain⟨z,rfl⟩:=a d m;cases c;obtain⟨t,rfl⟩:=B;exact tN;unfold kas_ask;obtain⟨v1,c,B,m⟩:=r.getD' J (show i<xs.length by lia);obtain⟨v2,G,L,W⟩:=r.getD' J (show j<xs.length by lia);unfold ltc at E;obtain⟨z,hz⟩:=a _ m;obtain⟨z',Y⟩:=a _ W;rw[hz]at c E;rw[Y]at G E;cases c;cases G;obtain⟨t,h1⟩:=B;obtain⟨t',h2⟩:=L;rw[h1,h2];exact kat_lt_int E;obtain⟨fs,t1,t2,t3⟩:=wd I r J λx F=>(a x F).elim λz ⟨r,e⟩=>⟨_,_,e⟩
 refine kat_kind (T:=.type "str") t1 (by lia) (λu P=>?_) (by decide)<|N _<|O _ (λx F=>(a x F).elim λz ⟨r,e⟩=>⟨_,_,e⟩) λf g vf vg p q r r' m W c B G L S Q' h=>?_;obtain⟨d,v,c,B,r',m⟩:=t3 u P;obtain⟨z,al,e⟩:=a _ m;cases e;cases c;obtain⟨t,rfl⟩:=B;exact tM;obtain⟨z,_,e⟩:=a _ m;cases e;obtain⟨z',_,e'⟩:=a _ W;cases e';cases c;cases G;obtain⟨t,rfl⟩:=B;obtain⟨t',rfl⟩:=L;exact oneLt_str h;obtain⟨fs,t1,t2,t3⟩:=wd I r J λx F=>(a x F).elim λz ⟨r,e⟩=>⟨_,_,e⟩
 refine kat_kind (T:=.type "int") t1 (by lia) (λu P=>?_) (by decide)<|N _<|O _ (λx F=>(a x F).elim λz ⟨r,e⟩=>⟨_,_,e⟩) λf g vf vg p q r r' m W c B G L S Q' h=>?_;obtain⟨d,v,c,B,r',m⟩:=t3 u P;obtain⟨z,al,e⟩:=a _ m;cases e;cases c;obtain⟨t,rfl⟩:=B;exact tN;obtain⟨z,_,e⟩:=a _ m;cases e;obtain⟨z',_,e'⟩:=a _ W;cases e';cases c;cases G;obtain⟨t,rfl⟩:=B;obtain⟨t',rfl⟩:=L;exact oneLt_int h;obtain⟨fs,t1,t2,t3⟩:=wd I r J λx F=>(a x F).elim λz ⟨r,e⟩=>⟨_,_,e⟩
 refine kat_kind (T:=.type "tuple") t1 (by lia) (λu P=>?_) (by decide)<|N _<|O _ (λx F=>(a x F).elim λz ⟨r,e⟩=>⟨_,_,e⟩) λf g vf vg p q r r' m W c B G L S Q' h=>?_;obtain⟨d,v,c,B,r',m⟩:=t3 u P;obtain⟨z,al,e⟩:=a _ m;cases e;cases c with
 |tup S rs=>cases B;obtain⟨_,_,pl,_⟩:=I.tuple S;obtain⟨o,ho,E,_⟩:=pl;rw[<-E];exact(show Looks _ s.heap (typeOf<|.ref _) o.cls from(Looks.ld ho).andThen .now)
 have k1:u5 M 29 f=a9:=by have:(f::r).all (u5 M 29)=a9:=so.okd _ m;rw[Me,C9]at this;exact this.1
 have k2:u5 M 29 g=a9:=by have:(g::r').all (u5 M 29)=a9:=so.okd _ W;rw[Me,C9]at this;exact this.1
 have k3:(if t6 M 29 f g=a9 then zh (t6 M 29) (dS M 29) r r' else dS M 29 f g)=a9:=so.cm _ m _ W;rw[S]at k3;exact kat_one _ _<|Bk I sm 29 A _ _ _ _ _ _ an c B G L k1 k2 k3 _ _ _ _ h
end
theorem GO(o:SrtG M x):(∀a∈x,B7 M t5 a a=c5)/\(∀a∈x,∀b∈x,∀d∈x,B7 M t5 a b=a9->B7 M t5 b d=a9->B7 M t5 a d=a9)/\∀a∈x,∀b∈x,∀d∈x,B7 M t5 a d=a9->B7 M t5 a b=a9\/B7 M t5 b d=a9:=by obtain⟨n,e⟩:=o.od;refine⟨λa f=>?_,λa f b c d g h1 h2=>?_,λa f b c d g h=>?_⟩;rw[e a f a f,dF_<|I9 _];rw[e a f b c,o5]at h1;rw[e b c d g,o5]at h2;rw[e a f d g,o5];exact Pv h1 h2;rw[e a f d g,o5]at h;rw[e a f b c,e b c d g,o5,o5];by_cases z:n a<n b;exact .inl z;have G:n b<=n a:=z;exact .inr<|List.lt_of_le_of_lt G h
theorem Db{k:Nat}{l:d5}{xs:List D}{F:List V}{its:List c6}{R:VK}(hr:Room k X.A)(I:r9 X pins σ H s)(sm:u9 X.K ρ M H)(so:SrtG M xs)(r:Reps X.K ρ H xs F)(P:aB F its)(Z:s.heap.IsList l its.toArray)(hz:F.length<=sizeLine)(h2:2<=its.length)(G:its.length<64)(E:l≠X.env.locals) (kk:∀v H',((∀Q:DK,(∀ys,ys.Perm xs->FT M ys->Q (.ref M.length) (M++[.lst ys]))->VQ X.K ρ H Q v H'))->R v H'):ge (i3 X.prog X.w) X.A (call (.builtin "sorted") [.ref l]) (EP X pins σ R) X.xe s:=by
 obtain⟨m,O,hm⟩:=I.loc;have lw:=r.length;have li:=P.length;obtain⟨ol,f,_⟩:=id Z;have g:∀a o,(a,o)∈[]++(l,ol)::Att.ledger s.heap X.env.locals l↔a≠X.env.locals/\s.heap.get? a=a7 o:=λa o=>by rw[F4,A0,Att.mem_ledger];constructor;rintro(h|⟨h1,_,h3⟩);cases h;exact⟨E,f⟩;exact⟨h1,h3⟩;rintro⟨h1,h2⟩;by_cases z:a=l;subst z;rw[f]at h2;cases h2;exact .inl rfl;exact .inr ⟨h1,z,h2⟩
 refine kat_sorted (Att.fr_all O) (Att.news_ledger E f) Z h2 G λD e1 h' T N lt=>?_;have kp:∀b u,b≠X.env.locals->s.heap.get? b=a7 u->h'.get? b=a7 u:=λb u J e=>(N (b,u)<|A5 _<|(g b u).mpr ⟨J,e⟩).1;have L:D≠X.env.locals:=(N _ C5).2.1;have W:s.heap.get? D=a8:=by
  cases q:s.heap.get? D with
  |none=>rfl
  |some o=>exact o4 (lt (D,o)<|(g D o).mpr ⟨L,q⟩)<|D5 _
 have I':r9 X pins σ H { s with heap:=h' }:=I.keptF (t':=s.toks) kp O T.ns;have hu:X.A.in1.in1.units+t5<j9:=by have:=hr.un;have:t5=30:=rfl;show X.A.units+1+1+t5<j9;lia
 refine E9 (mZ I' sm so r P h2 hu) (λκ s' hk=>?_) λ_ _ x=>x;obtain⟨rfl,B⟩:=hk;refine Srt.wp_run (n:=its.length) (c:=λi j=>if i<xs.length then(if j<xs.length then B7 M t5 (xs.getD i default) (xs.getD j default)else a9)else c5) (λi j C hi hj Y=>?_) _ (Srt.sort_bd<|by lia).1 ?_;refine B i j C hi hj ?_;rw[n9 (by lia),n9<|by lia]at Y;exact Y;have t:=Srt.All.run (c:=λi j=>if i<xs.length then(if j<xs.length then B7 M t5 (xs.getD i default) (xs.getD j default)else a9)else c5) _ (Srt.sort_bd (n:=its.length)<|by lia).2;obtain⟨o1,o2,o3⟩:=GO so;have d:=Srt.sort_list xs (by lia) o1 o2 o3
 try dsimp only at d
 rw[show xs.length=its.length by lia]at d t ⊢;generalize Srt.run _ (M7 its.length)=p at t d ⊢;have hi:∀i∈p.toList,i<xs.length:=λi h=>by have:=t.mem_iff.mp h;rw[G4]at this;lia
 refine KasFin.intro T N (UpdF.head λq hq=>x6<|lt q hq) λh2 c F2 U=>?_;have r':=r.perm p.toList hi;have S:=P.perm p.toList (λi h=>by have:=hi i h;lia);have y:H D=a8:=D0.none I.hok W;refine⟨.ref D,_,I.laidF (t':=s.toks) (o:=.lst<|p.toList.map λi=>F.getD i .non) (λb u J e=>(U (b,u)<|A5 _<|(g b u).mpr ⟨J,e⟩).1) O F2.ns W y ⟨?_,_,c,S,(U _ C5).1⟩,rfl,kk _ _ λQ hQ=>VQ.laidL sm .refl r' y<|hQ _ d.1 d.2⟩;rw[u6];have:=d.1.length_eq;rw[u6]at this;lia
theorem r9.sqL_ne(I:r9 X p σ H s)(h:K4 X.K H a x):a≠X.env.locals:=by
 rcases h with h|⟨o,i,n,k,_⟩
 rcases h with h|⟨_,h⟩
 exact ae h I.free;exact ae h I.free;have:=v9<|I.mod.kin a o k;exact x6<|G5 this<|D4 I.ok.bsz I.ok.above
theorem Cr(i:Room k X.A):lq X (.builtin "sorted") kI:=by
 rintro p s σ H vs us R I j ⟨ds,M,ρ,Q,m,rs,q,c⟩;unfold kI at q;split at q;obtain⟨xs,L,d,q⟩:=q;cases rs with
 |cons r1 rs =>
  cases rs;obtain⟨u,rfl,t⟩:=aB.one j;cases r1 with
  |ref e =>
   cases t;obtain⟨w,b,r⟩:=aA.seq m L e;obtain⟨its,f,l,z⟩:=I.list b;have C:=r.length;have y:=f.length;by_cases h2:its.length<2;refine sR l.isList h2 λD h' n a g B=>?_;refine⟨.ref D,_,I.laid (t':=s.toks) (o:=.lst w) g a ⟨z,its,n,f,B⟩,rfl,c _ _<|VQ.laidL m .refl r (I.hok.fresh a)<|q xs (Op _) ?_⟩;unfold FT
   match xs,(show xs.length<2 by lia) with
   | [],_=>exact PR
   | [x],_=>exact Rx _ _
   |_::_::_,hx=>simp at hx;lia
   have h:2<=its.length:=by lia
   have G:its.length<64:=by have:=d.len;lia
   exact Db i I m d r f l.isList z h G (I.sqL_ne b) λv H' x=>c v H'<|x Q q
 exact q.elim
structure ZA(z TI TO i1 i2:d5)(f1 f2:List d5):Prop where
 nd:[z,TI,TO,i1,i2].Nodup
 z1:z∉f1
 o1:TO∉f1
 y1:i2∉f1
 z2:z∉f2
 o2:TO∉f2
 x2:i1∉f2
theorem r9.turnedL{t':Nat}{fp:List d5}(I:r9 X g σ H s)(h:∀b∈fp,zv X g H b)(k:∀b o,b∉fp->s.heap.get? b=a7 o->h'.get? b=a7 o):r9 X g σ H { s with heap:=h',toks:=t' }:=by
 have p:∀b u,H b=a7 u->b∉fp:=λb u e z=>by rw[(h b z).1]at e;cases e
 refine I.step (g':=s.gens) (d':=s.drawn) (ch:=fp) (λb d=>⟨(h b d).2.2.2.1,(h b d).2.1,(h b d).2.2.2.2.1,(h b d).2.2.2.2.2⟩) (λb o _ _ f e _=>k b o f e) (λb o _ _ f e _=>⟨o.slots,k b o f e⟩) (λ_ _ _ _ n=>n) (λb o f e=>⟨o,k b o f e⟩) (λ_ _ e=>e) (λ_ _ _ e=>e) (λb l e=>⟨#[],by rw[e];simp⟩) (λm a=>?_) (λb u e=>?_) I.bare;obtain⟨o,j,i,B,r⟩:=a;exact⟨o,j,i,k _ o (λz=>(h _ z).2.1 rfl) B,r⟩;refine(I.hok b u e).stay (λc v f q=>k c v ?_ q) (λ_ q=>q) λ_ _ q=>q;rcases f with rfl|z;exact p _ u e;exact p _ _ z
def nh(z:c7):D1:=λd M Q=>match d with
 | [.str y]=>Q (.bl<|OX z y) M
 |_=>False
theorem Bf:Mm X "str.startswith" (DY X.K nh):=by
 rintro p s σ H x b v e R I g a ⟨z,d,M,ρ,Q,c,m,f,q,k⟩;subst c;obtain⟨t,rfl⟩:=g;unfold nh at q;split at q
 first|have h:=Reps.inv_cons f|have h:=aB.inv_cons f
 clear f;obtain⟨_,_,rfl,r,f⟩:=h;cases f;cases r;obtain⟨u,rfl,t',rfl⟩:=aB.one a;exact PySem.SC.startswith ⟨.bl _,H,I,rfl,k _ H<|VQ.now m (.bl _) q⟩
 exact q.elim
def sY(z:c7):D1:=λd M Q=>match d with
 | [.str y]=>(y.length≠0/\z.length<=sizeLine/\(I0 z y).length<=sizeLine)/\Q (.ref M.length) (M++[.lst<|(I0 z y).map .str])
 |_=>False
theorem rP:∀(tk:Nat) (s:List c7),aB (s.map V.str) (strsFrom tk s)
 |_,[]=>.nil
 |tk,x::s=>.cons ⟨_,rfl⟩<|rP (tk+1) s
theorem sX{K:u4}{ρ:List d5}{H:Hp}:∀s:List c7,Reps K ρ H (s.map D.str) (s.map V.str)
 | []=>.nil
 |x::s=>.cons (.str x)<|sX s
theorem DQ:Mm X "str.split" (DY X.K sY):=by
 rintro c s σ H x xs v us R I A w ⟨z,ds,M,ρ,Q,j,B,f,q,k⟩;subst j;obtain⟨t,rfl⟩:=A;unfold sY at q;split at q;rename_i y;obtain⟨⟨O,l,i⟩,q⟩:=q
 first|have a:=Reps.inv_cons f|have a:=aB.inv_cons f
 clear f;obtain⟨_,_,rfl,m,f⟩:=a;cases f;cases m;obtain⟨u,rfl,t',rfl⟩:=aB.one w;have n:∀(p:List c7) (us:List c6) (g:Nat),I0 z y=p->aB (p.map V.str) us->EP X c σ R (.ref s.heap.objs.size) { s with toks:=g,heap:=s.heap.push { cls:=.type "list",data:=.seq us.toArray } }:=λp us g e r=>by subst e;exact⟨.ref _,_,I.laid (t':=g) (o:=.lst<|(I0 z y).map V.str) (λb C q=>v5 _ q) (u7 _) ⟨by rw[u6];exact i,us,0,r,A1 _ rfl⟩,rfl,k _ _<|VQ.laidL B .refl (sX _) (I.hok.fresh<|u7 _) q⟩
 have h:(y.length==0)=c5:=by simpa using O
 cases h1:(decide (z.length<y.length)||decide (N7 z<N7 y));cases d:(QR z y 0 z.length<|z.length+1).isEmpty;have e:I0 z y=Builtin.Str.partsBetween z (QR z y 0 z.length<|z.length+1) y.length:=by unfold I0;rw[h1,d];rfl
 exact call_meets F.slot_str_split (l3 _ _ _) F.entry_str_split (F.args_str_split_2 _ _) (meets_str_split_sep z y t t' h1 h d l<|by rw[<-e];exact i)<|n _ _ _ e<|rP _ _;have e:I0 z y=[z]:=by unfold I0;rw[h1,d];rfl
 exact call_meets F.slot_str_split (l3 _ _ _) F.entry_str_split (F.args_str_split_2 _ _) (meets_str_split_not_found z y t t' h1 h d)<|n _ [.str z t] s.toks e<|.cons ⟨_,rfl⟩ .nil;have e:I0 z y=[z]:=by unfold I0;rw[h1];rfl
 exact call_meets F.slot_str_split (l3 _ _ _) F.entry_str_split (F.args_str_split_2 _ _) (meets_str_split_cannot_occur z y t t' h1)<|n _ [.str z t] s.toks e<|.cons ⟨_,rfl⟩ .nil;exact q.elim
theorem vT{D:d5}{p:List c6}{n:Nat}{Q:c6->f7->Prop}(B:s.heap.get? D=a7 (m8 "list" p.toArray n))(h2:p.length<2)(h:∀h' c,(∀b o,b≠D->s.heap.get? b=a7 o->h'.get? b=a7 o)->h'.get? D=a7 (m8 "list" p.toArray c)->Q .none { s with heap:=h' }):ge (i3 x w) A (call (.builtin "list.sort") [.ref D]) Q E s:=by
 have f:p.length<=sizeLine:=by rw[Mu];lia
 refine K1 slot_list_sort (⟨_,B,rfl⟩) entry_list_sort ?_<|args_list_sort<|.ref D;rw[list_sort_plain];refine p8<|OQ B rfl<|p8<|Ol B rfl ?_ (by rw[z7];exact f)<|z5 _;obtain⟨k,e⟩:∃k,(s.heap.update D<|F8 λ_=>(#[]:Array c6)).get? D=a7 (m8 "list" #[] k):=⟨_,Ot B λ_=>#[]⟩
 refine p8<|seqEpoch_at e rfl<|p8<|wpAny_newTuple (p8<|Om (D7 ?_)<|z5 _) f;dsimp only;have g:p.toArray.size<2:=by rw[z7];exact h2
 rw[n9 g,n9 g];refine p8<|t4 ?_;rw[StateT.run_pure];refine p8<|t4 ?_;dsimp only;generalize d:((s.heap.update D<|F8 λ_=>(#[]:Array c6)).push<|m8 "tuple" p.toArray 0).push (m8 "list" #[] 0)=g3;have a:g3.get? D=a7 (m8 "list" #[] k):=by rw[<-d];exact v5 _<|v5 _ e
 have m:∀b o,b≠D->s.heap.get? b=a7 o->g3.get? b=a7 o:=λb o i q=>by rw[<-d];refine v5 _<|v5 _ ?_;rw[OD _ _ _ _ i];exact q
 refine p8<|seqEpoch_at a rfl ?_;have r:∀u:List c6,u.length<2->(u.toArray.zip u.toArray).map (·.2)=u.toArray:=λu hu=>by
  match u,hu with
  | [],_=>simp
  | [v],_=>simp
  |_::_::_,hu=>simp at hu;lia
 have t:(arrOf<|SortSt.mk' general' (p.toArray.zip p.toArray) #[] 7 a8).map (·.2)=p.toArray:=r p h2;rw[t];refine p8 (Ol a rfl ?_ (z5 _)<|by rw[z7];exact Nat.le_succ_of_le f);simp only[show failedOf (SortSt.mk' general' (p.toArray.zip p.toArray) #[] 7 a8)=a8 from rfl,bne_self_eq_false,B9,o8];obtain⟨j,l⟩:∃j,(g3.update D<|F8 λ_=>p.toArray).get? D=a7 (m8 "list" p.toArray j):=⟨_,Ot a λ_=>p.toArray⟩
 refine t4 ⟨_,rfl,h _ j (λb o i q=>?_) l⟩;rw[OD _ _ _ _ i];exact m b o i q
theorem Ap{k:Nat}{D:d5}{xs:List L2.D}{P:List V}{its:List c6}{R:VK}{h1:d7}{tk n:Nat}{m:c7->Option c6}{A:f6}{E:c6->f7->Prop}(hr:Room k X.A)(hA:A.units<=X.A.units+4)(I:r9 X pins σ H s)(sm:u9 X.K ρ M H)(so:SrtG M xs)(r:Reps X.K ρ H xs P)(O:aB P its)(T:s.heap.Ns X.env.locals m) (N:h1.Ns X.env.locals m) (l:∀b u,b≠X.env.locals->s.heap.get? b=a7 u->h1.get? b=a7 u) (J:s.heap.get? D=a8) (F:D≠X.env.locals) (ho:h1.get? D=a7 (m8 "list" its.toArray n))(kk:∀v H',((∀Q:DK,(∀ys,ys.Perm xs->FT M ys->Q (.ref M.length) (M++[.lst ys]))->VQ X.K ρ H Q v H'))->R v H'):ge (i3 X.prog X.w) A (call (.builtin "list.sort") [.ref D]) (λ_ s'=>EP X pins σ R (.ref D) s') E { s with heap:=h1,toks:=tk }:=by
 have lw:=r.length;have li:=O.length;have ai:=so.len;have L:H D=a8:=D0.none I.hok J;have y:∀b u,s.heap.get? b=a7 u->b≠D:=λb u e q=>by subst q;rw[J]at e;cases e
 by_cases h2:its.length<2;refine vT ho h2 λh' c G Y=>?_;have W:h'.Ns X.env.locals m:=by obtain⟨o,es,ep,e,be⟩:=N;exact⟨o,es,ep,G _ _ (B8 F) e,be⟩
 refine⟨.ref D,_,I.laidF (t':=tk) (o:=.lst P) (λb u g e=>G b u (y b u e)<|l b u g e) T W J L ⟨by rw[Mu];lia,its,c,O,Y⟩,rfl,kk _ _ λQ S=>VQ.laidL sm .refl r L<|S xs (Op _) ?_⟩;unfold FT
 match xs,(show xs.length<2 by lia) with
 | [],_=>exact PR
 | [x],_=>exact Rx _ _
 |_::_::_,hx=>simp at hx;lia
 have z:2<=its.length:=by lia
 have f:∀a o,(a,o)∈Att.ledger h1 X.env.locals D↔a≠X.env.locals/\a≠D/\h1.get? a=a7 o:=λa o=>Att.mem_ledger;have U:UpdF D (m8 "list" its.toArray n) ([]++(D,m8 "list" its.toArray n)::Att.ledger h1 X.env.locals D) λo'=>(D,o')::Att.ledger h1 X.env.locals D:=UpdF.head λp hp=>((f p.1 p.2).mp hp).2.1;refine kat_lsort (s:={ s with heap:=h1,toks:=tk }) (vs:=its) (Att.fr_all N) (Att.news_ledger F ho) U rfl z (by lia) λe1 h' F' N'=>?_;have kp:∀b u,b≠X.env.locals->s.heap.get? b=a7 u->h'.get? b=a7 u:=λb u g e=>(N' (b,u)<|A5 _<|(f b u).mpr ⟨g,y b u e,l b u g e⟩).1;have I':r9 X pins σ H { s with heap:=h',toks:=tk }:=I.keptF (t':=tk) kp T F'.ns;have hu:A.in1.units+t5<j9:=by have:=hr.un;have:t5=30:=rfl;show A.units+1+t5<j9;lia
 refine E9 (mZ I' sm so r O z hu) (λκ s' hk=>?_) λ_ _ x=>x;obtain⟨rfl,B⟩:=hk;refine Srt.wp_run (n:=its.length) (c:=λi j=>if i<xs.length then(if j<xs.length then B7 M t5 (xs.getD i default) (xs.getD j default)else a9)else c5) (λi j C hi hj hc=>?_) _ (Srt.sort_bd<|by lia).1 ?_;refine B i j C hi hj ?_;rw[n9 (by lia),n9<|by lia]at hc;exact hc;have t:=Srt.All.run (c:=λi j=>if i<xs.length then(if j<xs.length then B7 M t5 (xs.getD i default) (xs.getD j default)else a9)else c5) _ (Srt.sort_bd (n:=its.length)<|by lia).2;obtain⟨o1,o2,o3⟩:=GO so;have d:=Srt.sort_list xs (by lia) o1 o2 o3
 try dsimp only at d
 rw[show xs.length=its.length by lia]at d t ⊢;generalize Srt.run _ (M7 its.length)=p at t d ⊢;have hi:∀i∈p.toList,i<xs.length:=λi h=>by have:=t.mem_iff.mp h;rw[G4]at this;lia
 refine KasFin.intro F' N' (UpdF.head λq hq=>((f q.1 q.2).mp hq).2.1) λh2 c F2 N2=>?_;have r':=r.perm p.toList hi;have Z:=O.perm p.toList (λi h=>by have:=hi i h;lia);refine⟨.ref D,_,I.laidF (t':=tk) (o:=.lst<|p.toList.map λi=>P.getD i .non) (λb u g e=>(N2 (b,u)<|A5 _<|(f b u).mpr ⟨g,y b u e,l b u g e⟩).1) T F2.ns J L ⟨?_,_,c,Z,(N2 _ C5).1⟩,rfl,kk _ _ λQ S=>VQ.laidL sm .refl r' L<|S _ d.1 d.2⟩;rw[u6];have:=d.1.length_eq;rw[u6]at this;rw[Mu];lia
section
variable{K:u4}{ρ:List d5}{H:Hp}{M:t8}
theorem u9.laidM(S:u9 K ρ M H)(c:H p=a8)(ok:zu K (ρ++[p]) (v7 H p o) p mo):u9 K (ρ++[p]) (M++[mo]) (v7 H p o):=by
 have g:Grow K ρ H (ρ++[p]) (v7 H p o):=Grow.laidR c;have d:∀(n:Nat),ρ[n]?=a7 p->Mi M[n]?:=λn e=>by rcases S.tracked e with⟨o,q⟩|q;rw[c]at q;cases q;exact q
 refine⟨λn m a h t l=>?_,by rw[A3,A3,S.len];rfl,λn a i t l=>?_⟩;rcases bg t with f|⟨f,g1⟩
 rcases bg l with b|⟨b,j⟩
 exact(S.nd n m a h f b).elim (λz=>.inl z.more) λz=>.inr z.more;subst j;exact .inl (d n f).more;rcases bg l with b|⟨b,j⟩
 subst g1;exact .inr (d m b).more;exact o4 (f.trans b.symm) h;rcases bg t with f|⟨f,g1⟩
 have k:n<M.length:=by rw[<-S.len];exact(x9.mp f).1
 rw[J0 k]at l;exact(S.obj n a i f l).grow g<|S.keeps c f l;subst g1 f;rw[S.len,MB<|u7 _,NU]at l;simp at l;subst l;exact ok
theorem A2.writtenD(b:H p=a7 (.dK kv))(h:A2 K H a x):A2 K (v7 H p o) a x:=by
 rcases h with h|h;rcases h with h|⟨c,h⟩
 exact .inl (.inl<|by rw[ao<|yD h b<|by intro z;cases z];exact h);exact .inl<|.inr ⟨c,by rw[ao<|yD h b<|by intro z;cases z];exact h⟩;exact .inr h
theorem u9.writeD(S:u9 K ρ M H)(t:ρ[n]?=a7 a)(u:M[n]?=a7 (.dct v))(s:H a=a7 (.dK kv))(r:Reps K ρ H (kvs'.map (·.2)) vs'):u9 K ρ (M.set n<|.dct kvs') (v7 H a (.dK (jx (kvs'.map (·.1)) vs')))/\Grow K ρ H ρ (v7 H a (.dK (jx (kvs'.map (·.1)) vs'))):=by
 have g:Grow K ρ H ρ (v7 H a (.dK (jx (kvs'.map (·.1)) vs'))):=⟨NJ,λ_ _ h=>A2.writtenD s h⟩
 have k:∀m,m≠n->(M.set n<|.dct kvs')[m]?=M[m]?:=λm e=>MX<|B8 e;have c:¬Mi M[n]?:=λ⟨_,z⟩=>by rw[u]at z;cases z
 refine⟨⟨λm l b i d f=>?_,by rw[J7];exact S.len,λm b o d f=>?_⟩,g⟩;have q:=S.nd m l b i d f;by_cases h1:m=n;subst h1;rw[k l<|B8 i];exact .inr<|q.resolve_left c;rw[k m h1];by_cases h2:l=n;subst h2;exact .inl<|q.resolve_right c;rw[k l h2];exact q;by_cases e:m=n;subst e;have j:b=a:=A8<|d.symm.trans t;subst j;rw[MA<|by rw[<-S.len];exact(x9.mp t).1]at f;cases f;exact⟨vs',aR,r.grow g⟩;rw[k m e]at f;by_cases j:b=a;subst j;have p:=(S.nd m n b e d t).resolve_right c;rw[f]at p;exact(S.obj m b o d f).grow g<|.inr p;exact(S.obj m b o d f).grow g<|.inl<|ao j
noncomputable def gB(s:List (c7×D))(k:c7):Option D:=(s.find? λp=>decide<|p.1=k).map (·.2)
noncomputable def nq(s:List (c7×D))(k:c7)(d:D):List (c7×D):=if (s.any λp=>decide<|p.1=k)=a9 then s.map (λp=>if p.1=k then(p.1,d)else p)else s++[(k,d)]
theorem HV(a b:c7):decide ((ABe a:D3)=ABe b)=decide (a=b):=FK a b
theorem jC:∀{s:List (c7×D)}{a:List V},Reps K ρ H (s.map (·.2)) a->gB s k=a7 d->∃v,wF (jx (s.map (·.1)) a) (ABe k)=a7 v/\t9 K ρ H d v
 | [],_,_,e=>by simp[gB]at e
 |(k',d')::s,_,.cons h t,e=>by
  by_cases q:k'=k;subst q;have:d'=d:=by simpa [gB]using e
  subst this;exact⟨_,by simp[jx,wF],h⟩;have e':gB s k=a7 d:=by simpa [gB,Mq,q]using e
  obtain⟨v,h1,h2⟩:=jC t e';refine⟨v,?_,h2⟩;have:¬(ABe k':D3)=ABe k:=λz=>q<|Sum.inr.inj z;simpa [jx,wF,Mq,this]using h1
theorem xZ:∀{kvs:List (c7×D)}{v:List V},Reps K ρ H (kvs.map (·.2)) v->((jx (kvs.map (·.1)) v).any λkv=>decide<|kv.1=ABe k)=kvs.any λp=>decide (p.1=k)
 | [],_,_=>rfl
 |(k',d')::kvs,_,.cons h t=>by
  have ih:=xZ (k:=k) t;show (decide ((ABe k':D3)=ABe k)||(jx (kvs.map (·.1)) _).any _)=(decide (k'=k)||kvs.any _)
  rw[ih,HV]
theorem xD(hd:t9 K ρ H d v):∀{s:List (c7×D)}{a:List V},Reps K ρ H (s.map (·.2)) a->∃vs',(jx (s.map (·.1)) a).map (λkv=>if kv.1=ABe k then(kv.1,v)else kv)=jx ((s.map λp=>if p.1=k then(p.1,d)else p).map (·.1)) vs'/\Reps K ρ H ((s.map λp=>if p.1=k then(p.1,d)else p).map (·.2)) vs'
 | [],_,.nil=>⟨[],rfl,.nil⟩
 |(k',d')::s,_,.cons (v:=v') h t=>by obtain⟨vs',e,r⟩:=xD (k:=k) hd t;by_cases q:k'=k;subst q;refine⟨v::vs',?_,?_⟩;simp only[C4,p5,jx,Nf]at e ⊢;rw[e];simp only[C4,p5];exact .cons hd r;have q':¬(ABe k':D3)=ABe k:=λz=>q<|Sum.inr.inj z;refine⟨v'::vs',?_,?_⟩;simp only[C4,o0 q,o0 q',jx,Nf]at e ⊢;rw[e];simp only[C4,o0 q];exact .cons h r
theorem sS:∀{s:List (c7×D)}{a:List V},Reps K ρ H (s.map (·.2)) a->jx (s.map (·.1)) a++[(ABe k,v)]=jx (s.map (·.1)++[k]) (a++[v])
 | [],_,.nil=>rfl
 |(k',d')::s,_,.cons h t=>by have:=sS (k:=k) (v:=v) t;simp only[C4,jx,Nf,Qq]at this ⊢;rw[this]
theorem AA(h:t9 K ρ H d v)(r:Reps K ρ H (s.map (·.2)) a):∃vs',putK (jx (s.map (·.1)) a) (ABe k) v=jx ((nq s k d).map (·.1)) vs'/\Reps K ρ H ((nq s k d).map (·.2)) vs':=by unfold putK nq;rw[xZ r];by_cases q:(s.any λp=>decide<|p.1=k)=a9;rw[n9 q,n9 q];exact xD h r;rw[o0 q,o0 q];refine⟨a++[v],?_,?_⟩;rw[sS r,F0];rfl;rw[F0];exact r.append<|.cons h .nil
end
def EW:v8:=λ_ M Q=>Q (.ref M.length)<|M++[.dct []]
theorem LU:DE X (.Dict [] [] pos) EW:=by refine PE.imp Dt ?_;rintro σ H R ⟨S,M,ρ,Q,s,e,q,k⟩;refine λp h=>?_;have j:Q (.ref M.length) (M++[.dct []]):=q;exact k _ _ ⟨.ref M.length,M++[.dct []],ρ++[p],s.laidM (mo:=.dct []) h ⟨[],aR,.nil⟩,Grow.laidR h,.ref s.last,j⟩
def Cn(t c:v8):v8:=λS M Q=>t S M λx a=>c S a λy b=>match x,y with
 |.ref n,.str k=>∃s d,b[n]?=a7 (.dct s)/\gB s k=a7 d/\Q d b
 |_,_=>False
theorem LV{X:Cx}{o i:h8}{t y:v8}{a:Pos}(C:X.A.units+1<j9)(B:DE X o t)(hi:DE X i y)(hs:Jd i):DE X (.Subscript o i a) (Cn t y):=by
 refine PE.imp (GG C B hi hs) ?_;rintro σ H R ⟨S,M,ρ,Q,s,r,q,k⟩;refine⟨S,M,ρ,_,s,r,q,?_⟩;rintro v N ⟨d,l,c,L,g1,I,F⟩;refine⟨S,l,c,_,L,r.grow g1,F,?_⟩;rintro u O ⟨e,m,f,h,g,J,j⟩
 try dsimp only at j
 split at j;obtain⟨E,d,x,D,G⟩:=j;obtain⟨_,rfl,z⟩:=t9.inv_ref I;cases J;obtain⟨vs,p,K⟩:=h.obj _ _ _ (aK g.pre z) x;obtain⟨w,n,b⟩:=jC K D;exact⟨_,w,rfl,.inl ⟨_,ABe _,.inl p,rfl,n.symm⟩,k _ _ ⟨d,m,f,h,g1.trans g,b,G⟩⟩;exact j.elim
structure Qd(X:Cx)(es:List h8)(t:IV):Prop where
 ok:Po X es t
theorem Hz:Qd X [] jt:=⟨IB⟩
theorem En(h1:HG X e g)(h2:Qd X s u)(h:(j0 (e::s) X.env).map (·.2)=i9 e X.env::(j0 s X.env).map (·.2):=by kernel_rfl):Qd X (e::s) (aO g u):=⟨ER h1.ok h2.ok h⟩
theorem KJ(h:Qd X e u)(f:X.calm=a9:=by kernel_rfl)(a:(j0 e X.env).length=n:=by kernel_rfl)(c:(j0 e X.env).findIdx? (·.1)=a8:=by kernel_rfl):HG X (.Tuple e j pos) (jr n u):=⟨LN h.ok f a c⟩
theorem KK(B:HE X o to)(hi:HE X i ti)(f:∀v,i9 (.Subscript o i pos) X.env v=(do
   let ov <-i7 [v] (eval o X.env)
   let iv <-i7 [v,ov] (eval i X.env)
   standAt pos
   i7 [v,ov,iv] (setItem ov iv v)
   release [v,ov,iv] []):=by intro _;kernel_rfl):HG X (.Subscript o i pos) (ES to ti):=⟨LO B.ok hi.ok f⟩
theorem FJ(i:HE X e te)(S:HG X tg g)(h:swapsWithSole [tg] e pos.line X.env=pure c5:=by kernel_rfl)(w:swappedStores [tg] e X.env=pure a8:=by kernel_rfl)(h1:(j0 [tg] X.env).map (·.2)=[i9 tg X.env]:=by kernel_rfl):HS X (.Assign [tg] e pos) (II te g):=⟨LL i.ok S.ok h w h1⟩
theorem Ib:E7 X (j6 .Add) br:=⟨GX⟩
theorem Li(i:Room k X.A):E7 X (j7 .Lt) JH:=⟨Ks i⟩
theorem EB:HC X (.type "tuple") iH:=⟨EZ⟩
theorem BT:Rc X "startswith" nh:=⟨_,PySem.F.slot_str_startswith,PySem.F.type_str_startswith,Bf⟩
theorem Ey:Rc X "split" sY:=⟨_,PySem.F.slot_str_split,PySem.F.type_str_split,DQ⟩
theorem BU:Re X "extend" np:=⟨_,PySem.F.slot_list_extend,PySem.F.type_list_extend,yF⟩
theorem KU:HE X (.Dict [] [] pos) EW:=⟨LU⟩
theorem Di{X:Cx}{k:Nat}(i:Room k X.A):X.A.units+1<j9:=by have:=i.un;lia
theorem KW(r:Room k X.A)(B:HE X o to)(hi:HE X i ti)(hs:Jd i:=by intro _ _;kernel_rfl):HE X (.Subscript o i pos) (Cn to ti):=⟨LV (Di r) B.ok hi.ok hs⟩
def Ju(t:Nat)(s:List Nat)(wi:TI)(g:TG)(tt:TT)(te:TE)(N:TG):TS:=λD σ H=>Q5 t s wi g tt te σ H λv a=>N v σ a D.nx
theorem Dm(B:BlkSc X N' nt js scope)(hc:X.calm=a9)(hi:PI X tg iter wi)(hg:∀cl s0 H0 ex,PG (A4 X N' scope cl s0 H0 ex) tg g) (ht:∀cl s0 H0 ex,Nk (A4 X N' scope cl s0 H0 ex) ifs tt) (he:∀cl s0 H0 ex,PE (A4 X N' scope cl s0 H0 ex) elt te) (hn:PG X (.Name x pos') gN)(hs:∀x,j5 iter X.env x=pure x) (an:i8 (.ListComp elt [⟨tg,iter,ifs,0⟩] scope pos) (a7<|.Name x pos') pos2.line X.env=pure a9):PS X (.Assign [.Name x pos'] (.ListComp elt [⟨tg,iter,ifs,0⟩] scope pos) pos2) (Ju nt js wi g tt te gN):=by
 intro f s σ H Dn I h;rw[exec_Assign_Name_used _ _ _ _ an];refine p8<|wpAny_standAt ?_;obtain⟨cl,Y,j,E⟩:=lW (scope:=scope) (env:=X.env) λp l hf=>I.ok.has p.1<|B.free p l hf;refine p8<|show ge (i3 X.prog X.w) X.A (comprehension (.ListComp elt [⟨tg,iter,ifs,0⟩] scope pos) scope X.env _ (newList []) c5 (eval iter X.env) (a7<|i9 (.Name x pos') X.env) >>= λ_=>pure ()) _ _ _ from p8 ?_;refine wpAny_comprehension_free (use:=a7<|i9 (.Name x pos') X.env) (Q:=λ_ u=>ge (i3 X.prog X.w) X.A (pure ()) (λ_ s3=>ge (i3 X.prog X.w) X.A (pure Flow.next) (SP X f Dn) X.xe s3) X.xe u) rfl hs Y B.kind B.loc ?_;refine v4 (hi f s σ H _ I h) λv s1 h1=>v4 h1 λaD a h2=>?_;obtain⟨it,fp,tn,J,H2,e,m,T,U,M,W,⟨m0,w0⟩,N⟩:=h2;subst e;refine J5<|wpAny_newFunctionEnv B.nocell (by intro y hy;simp at hy) (λh1 F G=>?_) B.kind;have r:∀b∈fp,b<a.heap.objs.size:=λb i=>by obtain⟨o,e,_⟩:=T.obj _ _ U b i;exact v9 e
 have hC:(a.heap.push<|cU [] 0).objs.size=a.heap.objs.size+1:=Mx ..;have K:∀b o,(a.heap.push<|cU [] 0).get? b=a7 o->h1.get? b=a7 o:=λb o e=>(G.2 b<|x6<|v9 e).trans<|v5 _ e;have I3:=m.blkStart (tk:=a.toks+([]:List (c7×c6)).length) B j E M r K F;have L:tn 0 h1:=T.keep _ _ _ U λb _ o e=>K b o<|v5 _ e;have ai:a.heap.objs.size∉fp:=λz=>D5 _<|r _ z;have aj:a.heap.objs.size∉J1 X.stack:=λz=>by rcases A0.mp (m.stkSub _ z)with q|q;exact o4 m.lt (by rw[<-q];exact D5 _);exact m.nofs (u7 _) q
 have D:a.heap.objs.size≠(a.heap.push<|cU [] 0).objs.size:=by rw[hC];exact x6<|K0 _
 have ltc:∀z c,cl.lookup z=a7 c->c<a.heap.objs.size:=λz c e=>by obtain⟨v,q⟩:=m.cell z c<|j z c e;exact q.lt
 have t:∀b∈fp,b≠(a.heap.push<|cU [] 0).objs.size/\b∉J1 X.stack/\∀x c,cl.lookup x=a7 c->c≠b:=λb i=>by refine⟨by rw[hC];exact x6<|Nq<|r b i,λz=>?_,λx c e=>(M b i).2.2.2.2.1 x c<|j x c e⟩;rcases A0.mp (m.stkSub b z)with q|q;exact(M b i).2.1 q;exact(M b i).2.2.1 q
 have as:a.heap.objs.size<=(a.heap.push<|cU [] 0).objs.size:=by rw[hC];exact Of _
 have n:k5 (i3 X.prog X.w) X.A (.compLoop (.ListComp elt [⟨tg,iter,ifs,0⟩] scope pos) 0 (.ref it) (.ref a.heap.objs.size)<|compEnvC scope cl (a.heap.push<|cU [] 0).objs.size X.env) (compPost (i3 X.prog X.w) X.A X.xe (a7<|i9 (.Name x pos') X.env) (λ_ u=>ge (i3 X.prog X.w) X.A (pure ()) (λ_ s3=>ge (i3 X.prog X.w) X.A (pure Flow.next) (SP X f Dn) X.xe s3) X.xe u) (.ref a.heap.objs.size) (a.heap.push<|cU [] 0).objs.size) { a with heap:=h1,toks:=a.toks+([]:List (c7×c6)).length }:=by
  refine Bw (s0:={ a with heap:=a.heap.push (cU [] 0) }) (H0:=H2) (N':=N') (Q:=λv H1=>gN v σ H1 Dn.nx) hc (hg _ _ _ _) (ht _ _ _ _) (he _ _ _ _) T ai N t D aj (λx c e=>x6<|ltc x c e) ?_ m0 I3 L (λb i=>(M b i).1) w0;intro τ H' s' vs its k S rv hl q;obtain⟨mm,al,_⟩:=id S.loc;obtain⟨C,es,Z,eC,be⟩:=id al;have I5:r9 X f σ (v7 H' a.heap.objs.size<|.lst vs) s':=m.blkEnd M S rv hl ⟨rfl,λ_ _=>rfl⟩;have fC:v7 H' a.heap.objs.size (.lst vs) (a.heap.push<|cU [] 0).objs.size=a8:=by rw[ao<|B8 D];exact S.free
  have fk:∀R:Hp,R (a.heap.push<|cU [] 0).objs.size=a8->zv X f R (a.heap.push<|cU [] 0).objs.size:=λR hx=>m.fpOk as hx;have dC:∀v,C.data≠.cell v:=λv z=>by
   have:∃es Z,C.data=.dict es Z:=by
    first
     |(obtain⟨d,_⟩:=be;exact⟨_,_,d⟩)
     |(obtain⟨_,d,_⟩:=be;exact⟨_,_,d⟩)
     |(obtain⟨_,_,d,_⟩:=be;exact⟨_,_,d⟩)
   obtain⟨_,_,d⟩:=this;rw[d]at z;cases z
  have I6:r9 X (f++[((a.heap.push<|cU [] 0).objs.size,C)]) σ (v7 H' a.heap.objs.size<|.lst vs) s':=I5.pins_of λp l=>by
   rcases D6.mp l with l|l;exact I5.pin p<|F6 _ l;have:p=((a.heap.push<|cU [] 0).objs.size,C):=by simpa using l
   subst this;exact⟨eC,fC,(fk _ fC).2.1,(fk _ fC).2.2.1,dC⟩
  refine v4 (hn _ s' σ _ (.ref a.heap.objs.size) (.ref a.heap.objs.size) _ I6 rfl q) ?_;rintro _ s7 ⟨O,P,V,q7⟩;obtain⟨p1,p2,_⟩:=V.pin ((a.heap.push<|cU [] 0).objs.size,C)<|F6 _<|F6 _ C5;refine⟨mm,⟨C,es,Z,p1,be⟩,λh' sb=>t4<|t4 ⟨O,P,?_,q7⟩⟩;have I8:r9 X f O P s7:=V.pins_of λp l=>V.pin p<|F6 _<|L5 _ l;refine I8.turnedL (t':=s7.toks) (fp:=[(a.heap.push<|cU [] 0).objs.size]) (λb i=>?_) λb o i e=>(sb.2 b<|by simpa using i).trans e;have:b=(a.heap.push<|cU [] 0).objs.size:=by simpa using i
  subst this;exact fk P p2
 exact codeAny_compStart_list n<|T.self _ 0 _ _ _ L n
def lU(t:Nat)(s:List Nat)(b:ME)(g:L9)(tt:F7)(te:v8)(i:Nat):s9:=λE S M=>E6 t s b g tt te S M λd a=>ag i d S a E.nx
theorem EL(B:BlkSc X N' nt js scope)(f:X.calm=a9)(hi:DI X tg iter di)(l:∀cl s0 H0 ex,DG (A4 X N' scope cl s0 H0 ex) tg g) (D:∀cl s0 H0 ex,Nk (A4 X N' scope cl s0 H0 ex) ifs<|lowT X.K tt) (j:∀cl s0 H0 ex,DE (A4 X N' scope cl s0 H0 ex) elt te) (n:DG X (.Name x pos') (ag i))(t:∀x,j5 iter X.env x=pure x) (h:i8 (.ListComp elt [⟨tg,iter,ifs,0⟩] scope pos) (a7<|.Name x pos') pos2.line X.env=pure a9):DS X (.Assign [.Name x pos'] (.ListComp elt [⟨tg,iter,ifs,0⟩] scope pos) pos2) (lU nt js di g tt te i):=PS.imp (Dm (g:=lowG X.K g) (tt:=lowT X.K tt) (te:=lowE X.K te) B f hi (λcl s0 H0 ex=>l cl s0 H0 ex) D (λcl s0 H0 ex=>j cl s0 H0 ex) n t h) λE σ H ⟨S,M,ρ,F,s,e,q,k⟩ =>
  Bm σ H _ ⟨S,M,ρ,_,s,e,q,λv p ⟨d,b,c,o,g1,r,m⟩=>⟨d,S,b,c,_,o,e.grow g1,r,m,λa H' w=>k.nx a H'<|SQ.trans g1 w⟩⟩
theorem Ej(a:X.N.Nodup)(hi:HI X tg iter di)(S:∀cl s0 H0 ex,HG (A4 X N' scope cl s0 H0 ex) tg g) (D:∀cl s0 H0 ex,OL (A4 X N' scope cl s0 H0 ex) ifs tt) (e:∀cl s0 H0 ex,HE (A4 X N' scope cl s0 H0 ex) elt te) (B:pV X.env.scope.names X.N N' nt js scope=a9:=by kernel_rfl) (f:X.calm=a9:=by kernel_rfl)(s:∀x,j5 iter X.env x=pure x:=by intro _;kernel_rfl) (w:i8 (.ListComp elt [⟨tg,iter,ifs,0⟩] scope pos) (a7<|.Name x pos') pos2.line X.env=pure a9:=by kernel_rfl)(h:X.N[i]?=a7 x:=by kernel_rfl) (c:Ja X.env.scope x=a9:=by kernel_rfl) (b:X.fn x=a9:=by kernel_rfl):HS X (.Assign [.Name x pos'] (.ListComp elt [⟨tg,iter,ifs,0⟩] scope pos) pos2) (lU nt js di g tt te i):=⟨EL (BlkSc.chk B) f hi.ok (λcl s0 H0 ex=>(S cl s0 H0 ex).ok) (λcl s0 H0 ex=>(D cl s0 H0 ex).ok) (λcl s0 H0 ex=>(e cl s0 H0 ex).ok) (wm a h (Bo c)<|.inl b) s w⟩
theorem Pd:atI (a::r) 0=a7 a:=by have:=aF (xs:=a::r) (j:=0) (v:=a) rfl;simpa using this
theorem MC:atI (a::b::r) 1=a7 b:=by have:=aF (xs:=a::b::r) (j:=1) (v:=b) rfl;simpa using this
theorem NQ:atI (a::b::c::r) 2=a7 c:=by have:=aF (xs:=a::b::c::r) (j:=2) (v:=c) rfl;simpa using this
theorem bb.lst(h:R (.ref M.length) (M++[.lst x]))(f:M.length<=n)(e:(M++L)[n]?=a7 (.lst x))(b:Bels M.length x):bb M R (.ref n) (M++L):=.inr<|.inr ⟨M,n,x,.refl,rfl,f,e,G3 _ _,b,h⟩
theorem bb.chg(c:MP M M1)(h:R d M1)(b:C1 M.length d)(p:M1 <+: M'):bb M R d M':=.inr<|.inl ⟨M1,c,b,p,h⟩
theorem bb.chgL(c:MP M M1)(h:R (.ref M.length) (M1++[.lst x]))(f:M.length<=n)(e:M'[n]?=a7 (.lst x))(p:M1 <+: M')(b:Bels M.length x):bb M R (.ref n) M':=.inr<|.inr ⟨M1,n,x,c,rfl,f,e,p,b,h⟩
theorem iT:(M++a::L).set M.length b=M++b::L:=by rw[Rp _ _<|u7 _];simp
theorem lc:(M++a::L)[M.length]?=a7 a:=by simp
theorem rh(I:List D->List D->SD->t8->Prop)(h0:∀a S M,I [] a S M->ok M/\Q (.ref M.length) (M++[.lst a]))(h1:∀x s a S M,I (x::s) a S M->∀K:List D->SD->t8->Prop,(∀a S M,I s a S M->K a S M)->ok M/\g x S M λS2 M2=>tt S2 M2 λb M3=>if b=a9 then te S2 M3 λy M4=>a.length<sizeLine/\K (a++[y]) S2 M4 else K a S2 M3):∀s a S M,I s a S M->oB ok g tt te Q s a S M
 | [],a,S,M,h=>h0 a S M h
 |x::s,a,S,M,h=>h1 x s a S M h _<|rh I h0 h1 s
noncomputable def OH:D->c7
 |.str x=>x
 |_=>Str.empty
theorem tu{a:List D}{s:List c7}(h:a.Perm (s.map D.str)):∃n:List c7,a=n.map D.str/\n.Perm s:=by
 refine⟨a.map OH,?_,?_⟩;rw[Fn];have:∀y∈a,(D.str ∘ OH) y=y:=λy O=>by obtain⟨x,_,rfl⟩:=v6.mp<|h.mem_iff.mp O;rfl
 exact(Rl this ▸ (List.map_id' a).symm:a=a.map (D.str ∘ OH));have:=h.map OH;rw[Fn]at this;have e:(OH ∘ D.str)=id:=rfl
 rwa [e,MR]at this
theorem xA:(nq kvs k d).length<=kvs.length+1/\1<=(nq kvs k d).length:=by unfold nq;by_cases q:(kvs.any λp=>decide<|p.1=k)=a9;rw[n9 q,u6];obtain⟨p,h,_⟩:=L4.mp q;have:0<kvs.length:=List.length_pos_of_mem h;lia;rw[o0 q,A3,K2];lia
theorem xL:(M++a::b::L)[M.length+1]?=a7 b:=by rw[MB (by lia),show M.length+1-M.length=1 by lia];rfl
theorem Dq{α:Type}(f:α->D)(g:D->α)(S:∀a,g (f a)=a){s:List D}{l:List α}(h:s.Perm (l.map f)):∃l':List α,s=l'.map f/\l'.Perm l:=by
 refine⟨s.map g,?_,?_⟩;rw[Fn];have:∀y∈s,(f ∘ g) y=y:=λy O=>by obtain⟨x,_,rfl⟩:=v6.mp<|h.mem_iff.mp O;show f (g<|f x)=f x;rw[S]
 exact(Rl this ▸ (List.map_id' s).symm:s=s.map (f ∘ g));have:=h.map g;rw[Fn]at this;have e:(g ∘ f)=id:=funext S
 rwa [e,MR]at this
noncomputable def bv(w:c8):d6:={ cls:=.type "set",dict:=a8,data:=.set #[] 0 (.fresh 0 0<|!w.params.followText "set-order") }
theorem wt(a:c6)(h:Q₁ (.ref s.heap.objs.size) { s with heap:=s.heap.push (bv w) }):k5 (i3 e w) A (.call (.builtin "set.__new__") ⟨[.type "set",a],[]⟩) (wants Q₁ E) s:=by
 refine codeAny_of_tree<|show ge (i3 e w) A.in1 (do checkBuiltinCall "set.__new__" ⟨[.type "set",a],[]⟩;again (.builtin "set.__new__" ⟨[.type "set",a],[]⟩)) _ _ s from ?_;refine p8<|wpAny_of_eq (F.newCall_set_1 a)<|t4 ⟨Mw F.plain_set_new _,Mp F.entry_set_new ?_⟩;rw[MW F.plain_set_new _];have b:=sub_set_self;obtain⟨p,g,d,u,c⟩:=s;unfold Builtin.«set.__new__» Builtin.Frozenset.newClass;dsimp only
 wp_walk
 refine Ox<|t4 ?_;simp only[newObj];exact p8<|wpAny_alloc<|t4<|t4 h
structure TxSrc(prog:c9)(w:c8)(h:d7)(l:d5)(T:String)(n:Nat)(P:Nat->c6->Prop):Prop where
 obj:∃o,h.get? l=a7 o/\o.cls=.type T
 ns:isSubtype (.type T) (.type "set")=pure c5
 nf:isSubtype (.type T) (.type "frozenset")=pure c5
 nd:(NE T==NE "dict")=c5
 iter:∀(A:f6) (s':f7),A.handled=a8->(∀o,h.get? l=a7 o->s'.heap.get? l=a7 o)->∃(oI:d6) (St:Nat->d7->Prop),(∀(E:c6->f7->Prop) (Q:c6->f7->Prop),Q (.ref s'.heap.objs.size) { s' with heap:=s'.heap.push oI }->ge (i3 prog w) A (j3<|.ref l) Q E s') /\m7 prog w A s'.heap.objs.size [s'.heap.objs.size,l] [s'.heap.objs.size] n P St/\St 0 (s'.heap.push oI)
theorem vh:isSubtype (.type "tuple") (.type "set")=pure c5:=by rw[isSubtype_type];kernel_rfl
theorem sO:isSubtype (.type "tuple") (.type "frozenset")=pure c5:=by rw[isSubtype_type];kernel_rfl
theorem TxSrc.list(g:h.IsList l s):TxSrc prog w h l "list" s.size (λi v=>s[i]?=a7 v):=by
 refine⟨let ⟨o,e,c,_⟩:=g;⟨o,e,c⟩,F.sub_list_set,F.sub_list_frozenset,by decide,λA s' b k=>?_⟩;have a:s'.heap.IsList l s:=g.at k;have lt:l<s'.heap.objs.size:=let ⟨o,e,_⟩:=a;v9 e
 exact⟨_,_,λE Q q=>Qy a q,Walks.list b _ l (x6 lt) s,⟨_,A1 _ rfl,rfl,rfl⟩,a.push _⟩
theorem TxSrc.tuple(g:h.IsTuple l s):TxSrc prog w h l "tuple" s.size (λi v=>s[i]?=a7 v):=by
 refine⟨let ⟨o,e,c,_⟩:=g;⟨o,e,c⟩,vh,sO,by decide,λA s' b k=>?_⟩;have a:s'.heap.IsTuple l s:=let ⟨o,e,r⟩:=g;⟨o,k o e,r⟩
 have lt:l<s'.heap.objs.size:=let ⟨o,e,_⟩:=a;v9 e
 exact⟨_,_,λE Q q=>wpAny_pyIter_tuple a q,Walks.tuple b _ l (x6 lt) s,⟨_,A1 _ rfl,rfl,rfl⟩,let ⟨o,e,r⟩:=a;⟨o,v5 _ e,r⟩⟩
theorem bz:Slot "set_iterator" "__next__" "set_iterator.__next__":=.of (owner:="set_iterator") (n:="__next__") (by rw[PH,P3];kernel_rfl) (by decide +kernel) (by decide +kernel) (by decide +kernel) (by first|exact .inl (by decide +kernel)|exact .inr<|by decide +kernel)<|by rw[isSubtype_type];kernel_rfl
theorem fN:entryFor table "set_iterator.__next__" = a7 Builtin.«set_iterator.__next__»:=entryFor_of_tree<|by kernel_rfl
theorem nE:Manifest.owners.lookup (String.ofList ['r','o','t','a','r','e','t','i','_','t','e','s'].reverse)=a7 Manifest.sig_set_iterator:=by kernel_rfl
theorem ip(a:c6):argsOk "set_iterator.__next__" ⟨[a],[]⟩:=by unfold argsOk;rw[signature?_of (id:="set_iterator.__next__") (n:=['_','_','t','x','e','n','_','_']) (o:=['r','o','t','a','r','e','t','i','_','t','e','s']) (by kernel_rfl) nE];kernel_rfl
theorem qW:entryFor table "set.__iter__" = a7 Builtin.«frozenset.__iter__»:=entryFor_alias (id':="frozenset.__iter__") (by kernel_rfl) rfl (by decide +kernel)<|by kernel_rfl
theorem lg{α:Type}:∀(l:List α) (i:Nat) (h:i<l.length),(l[i]::l.eraseIdx i).Perm l
 |x::l,0,_=>Op _
 |x::l,i+1,h=>by
  have h':i<l.length:=by simpa using h
  exact(List.Perm.swap x l[i]<|l.eraseIdx i).trans<|Qg x<|lg l i h'
theorem zn(f:n≠0)(h:∀i d,i<n->Q i { s with drawn:=d }):ge M A (choose src n) Q E s:=by intro Γ p a;show Sem.wp M Γ (Sem.choose src n λi=>Sem.pure i) _ _ p s;rw[Sem.wp_choose];refine⟨f,?_⟩;rw[Sem.wp_pure];exact h _ _<|Nat.mod_lt _<|Nat.pos_of_ne_zero f
theorem uk{α:Type}{M:Model}{A:f6}{E:c6->f7->Prop}:∀(n:Nat) (a:List α) (s:f7) (Q:List α->f7->Prop),a.length=n->(∀y d,y.Perm a->Q y { s with drawn:=d })->ge M A (drawOrder n a) Q E s
 | 0,a,s,Q,e,h=>by
  cases a with
  |nil=>exact t4<|h [] s.drawn<|Op _
  |cons _ _=>cases e
 |n+1,[],s,Q,e,h=>by cases e
 |n+1,x::a,s,Q,e,h=>by unfold drawOrder;refine p8<|zn (by simp) λi d hi=>?_;rw[w9 hi];refine p8<|uk n ((x::a).eraseIdx i) { s with drawn:=d } _ (by rw[List.length_eraseIdx_of_lt hi];simp at e ⊢;lia) λy d' hp=>t4<|h _ d' ?_;exact(Qg _ hp).trans<|lg _ i hi
theorem nw{α:Type}(next:Nat->Nat)(x:Array α):(m9 next x).toList.Perm x.toList:=by
 have o:∀(l k:Nat) (left:List α) (t:Array α),left.length=l->(pickOrder.go next l k left t).toList.Perm (t.toList++left):=by
  intro l;induction l with
  |zero =>
   intro k left t e;cases left with
   |nil=>simp[pickOrder.go]
   |cons _ _=>cases e
  |succ n i=>intro k left t e;have hi:next k % left.length<left.length:=Nat.mod_lt _ (by lia);unfold pickOrder.go;rw[w9 hi];dsimp only;refine(i (k+1) _ _<|by rw[List.length_eraseIdx_of_lt hi];lia).trans ?_;rw[Qw,G7];exact List.Perm.append_left _<|lg _ _ hi
 have:=o x.size 0 x.toList #[] (by simp);simpa [m9]using this
noncomputable def fK(first:c6)(i n:Nat)(a:d5)(ep:Nat):d6:={ cls:=.type "set_iterator",data:=.fields #[first,j4 i,.ref a,j4 n,j4 ep] }
structure SetAt(h:d7)(a:d5)(o:d6)(es:Array (Int×c6))(ep:Nat)(t:n5):Prop where
 ob:h.get? a=a7 o
 dt:o.data=.set es ep t
 ft:t.fits es.size=a9
theorem pH(c:A.handled=a8)(h:∀h' e,(∀b o,s.heap.get? b=a7 o->h'.get? b=a7 o)->(∃o,h'.get? e=a7 o/\o.cls=.type "StopIteration")->F (.ref e) { s with heap:=h' }):ge (i3 p w) A (do raiseNew (<-newExc (.type "StopIteration") []):Sem Fin) Q F s:=by refine p8 ?_;simp only[newExc,newTuple];refine p8 (J5 (p8 (m:=n6 _ _)<|wpAny_of_eq (a:=Mo) (by first|rfl|(simp only[n6];rfl))<|J5 ?_<|by size_fits)<|by size_fits);simp only[raiseNew];refine p8<|wpAny_handled ?_;rw[c];exact p8<|t4<|wpAny_throw<|h _ _ (λb o e=>v5 _<|v5 _ e) ⟨_,A1 _ rfl,rfl⟩
theorem nI{slot i next:Nat}{x:c6}{Q:Option c6->f7->Prop}(I:s.heap.get? it=a7 (fK (j4 slot) i c.size a ep))(S:SetAt s.heap a o c ep t)(f:∀(A:f6) (E:c6->f7->Prop) (Q:Option (c6×Nat)->f7->Prop),Q (a7 (x,next)) s->ge (i3 p w) A (setNext a slot i ep) Q E s)(b:∀h',h'.get? it=a7 (fK (j4 next) (i+1) c.size a ep)->Nb it s.heap h'->Q (a7 x) { s with heap:=h' }):ge (i3 p w) A (j1<|.ref it) Q E s:=by
 have n:s.TypeIs (.ref it) "set_iterator":=⟨_,I,rfl⟩
 unfold j1;refine p8<|NI<|Nh (name:=AA0 "__next__") n bz<|K1 bz n fN ?_<|ip _;unfold Builtin.«set_iterator.__next__»;refine p8<|t4<|p8<|MT I rfl ?_;dsimp only[fK,j4];refine p8<|PZ S.ob S.dt S.ft ?_;rw[o0<|by simp];refine p8<|f _ _ _ ?_;dsimp only;refine p8<|Nm I rfl (by simp)<|p8<|Nm (L1 _ I rfl) rfl (by simp)<|t4 ⟨x,rfl,t4<|b _ ?_<|(Mr ..).trans<|Mr ..⟩;refine(L1 _ (L1 _ I rfl) rfl).trans ?_;simp[fK,Oj,j4]
theorem fI{slot i:Nat}{Q:Option c6->f7->Prop}(g:A.handled=a8)(I:s.heap.get? it=a7 (fK (j4 slot) i r.size a ep))(S:SetAt s.heap a o r ep t)(j:∀(A:f6) (E:c6->f7->Prop) (Q:Option (c6×Nat)->f7->Prop),Q a8 s->ge (i3 p w) A (setNext a slot i ep) Q E s)(h:∀h',(∀b o,b≠it->s.heap.get? b=a7 o->h'.get? b=a7 o)->Q a8 { s with heap:=h' }):ge (i3 p w) A (j1<|.ref it) Q E s:=by
 have n:s.TypeIs (.ref it) "set_iterator":=⟨_,I,rfl⟩
 unfold j1;refine p8<|NI<|Nh (name:=AA0 "__next__") n bz<|K1 bz n fN ?_<|ip _;unfold Builtin.«set_iterator.__next__»;refine p8<|t4<|p8<|MT I rfl ?_;dsimp only[fK,j4];refine p8<|PZ S.ob S.dt S.ft ?_;rw[o0<|by simp];refine p8<|j _ _ _ ?_;dsimp only;refine p8<|Nm I rfl (by simp) ?_;refine pH (by simp[g]) ?_;rintro h' e k ⟨m,c,f⟩;refine p8<|Ow (T:="StopIteration") (b:=a9) ⟨m,c,f⟩ isSubtype_stop<|t4<|h h' λb l d L=>k b l ?_;exact((Mr ..).2 b d).trans L
theorem yC{tt:d5}{p:List Nat}{i j:Nat}{e:Int×c6}{Q:Option c6->f7->Prop}(I:s.heap.get? it=a7 (fK (.ref tt) i l.size a ep))(B:s.heap.IsTuple tt (p.map λ(k:Nat)=>j4 k).toArray)(S:SetAt s.heap a o l ep t)(L:p[i]?=a7 j) (d:l[j]?=a7 e) (c:∀h',h'.get? it=a7 (fK (.ref tt) (i+1) l.size a ep)->Nb it s.heap h'->Q (a7 e.2) { s with heap:=h' }):ge (i3 q w) A (j1<|.ref it) Q E s:=by
 have n:s.TypeIs (.ref it) "set_iterator":=⟨_,I,rfl⟩
 obtain⟨g,b,_,f,h⟩:=B;unfold j1;refine p8<|NI<|Nh (name:=AA0 "__next__") n bz<|K1 bz n fN ?_<|ip _;unfold Builtin.«set_iterator.__next__»;refine p8<|t4<|p8<|MT I rfl ?_;dsimp only[fK,j4];refine p8<|PZ S.ob S.dt S.ft ?_;rw[o0<|by simp];refine p8<|Nd b h ?_;have x:(p.map λ(k:Nat)=>j4 k).toArray[i]?=a7 (.int j 0):=by simp[L,j4]
 simp only[Nr,x];unfold setNextDrawn;refine p8<|p8<|MV S.ob S.dt S.ft ?_;simp only[bne_self_eq_false,B9,o8,d];refine t4<|p8<|Nm I rfl (by simp)<|t4 ⟨_,rfl,t4<|c _ ?_<|Mr ..⟩;refine(L1 _ I rfl).trans ?_;simp[fK,Oj,j4]
theorem om{tt:d5}{y:List Nat}{i:Nat}{Q:Option c6->f7->Prop}(l:A.handled=a8)(I:s.heap.get? it=a7 (fK (.ref tt) i es.size a ep))(B:s.heap.IsTuple tt (y.map λ(k:Nat)=>j4 k).toArray)(S:SetAt s.heap a o es ep t)(m:y[i]?=a8) (d:∀h',(∀b o,b≠it->s.heap.get? b=a7 o->h'.get? b=a7 o)->Q a8 { s with heap:=h' }):ge (i3 prog w) A (j1<|.ref it) Q E s:=by
 have n:s.TypeIs (.ref it) "set_iterator":=⟨_,I,rfl⟩
 obtain⟨v,c,_,u,h⟩:=B;unfold j1;refine p8<|NI<|Nh (name:=AA0 "__next__") n bz<|K1 bz n fN ?_<|ip _;unfold Builtin.«set_iterator.__next__»;refine p8<|t4<|p8<|MT I rfl ?_;dsimp only[fK,j4];refine p8<|PZ S.ob S.dt S.ft ?_;rw[o0<|by simp];refine p8<|Nd c h ?_;have x:(y.map λ(k:Nat)=>j4 k).toArray[i]?=a8:=by simpa using m
 simp only[Nr,x];refine p8<|Nm I rfl (by simp)<|p8<|Nm (L1 _ I rfl) rfl (by simp) ?_;refine pH (by simp[l]) ?_;rintro h' e p ⟨r,j,g⟩;refine p8<|Ow (T:="StopIteration") (b:=a9) ⟨r,j,g⟩ isSubtype_stop<|t4<|d h' λb q f L=>p b q ?_;exact(((Mr ..).trans<|Mr ..).2 b f).trans L
end L2
namespace L2
theorem nodup_le{α:Type}[DecidableEq α]:∀(l s:List α),l.Nodup->(∀x∈l,x∈s)->l.length<=s.length
 | [],s,_,_=>z5 _
 |a::l,s,nd,h=>by have ha:a∈s:=h a C5;have nd':=MU.mp nd;have ih:=nodup_le l (s.erase a) nd'.2 λx hx=>(List.mem_erase_of_ne<|show x≠a from λz=>nd'.1<|by rw[<-z];exact hx).mpr<|h x<|A5 _ hx;rw[List.length_erase_of_mem ha]at ih;have:0<s.length:=List.length_pos_of_mem ha;rw[C3];lia
end L2
namespace Ht
open PySem
noncomputable def Pe(m:Nat)(p:NW):NW:=if p.more > 0 then { p with j:=p.j+1,more:=p.more-1 } else
 { p with j:=(NH m p.i p.perturb).1,more:=J4 m (NH m p.i p.perturb).1-(NH m p.i p.perturb).1,i:=(NH m p.i p.perturb).1,perturb:=(NH m p.i p.perturb).2 }
noncomputable def kG(m i t:Nat):NW:={ j:=i,more:=J4 m i-i,i,perturb:=t,dummy:=a8 }
noncomputable def mY(m:Nat)(p:NW):Nat->NW
 | 0=>p
 |n+1=>Pe m<|mY m p n
noncomputable def sq(m:Nat)(h:Int)(n:Nat):NW:=mY m (kG m (Nc h % (m+1))<|Nc h) n
theorem sP(m:Nat)(p:NW)(a b:Nat):mY m p (a+b)=mY m (mY m p a) b:=by
 induction b with
 |zero=>rfl
 |succ b i=>rw[Nat.add_succ,mY,i];rfl
theorem JD(m i:Nat):J4 m i-i<=9:=by unfold J4;split<;>lia
theorem BN(m i pt:Nat):∀k,k<=J4 m i-i->mY m (kG m i pt) k={ j:=i+k,more:=J4 m i-i-k,i,perturb:=pt,dummy:=a8 }
 | 0,_=>by simp[mY,kG]
 |k+1,h=>by rw[mY,BN m i pt k<|by lia];unfold Pe;rw[n9<|show J4 m i-i-k > 0 by lia];simp only[SetTable.Probe.mk.injEq,true_and,and_true];lia
theorem DO(m i t:Nat):mY m (kG m i t) (J4 m i-i+1)=kG m (NH m i t).1 (NH m i t).2:=by rw[mY,BN m i t _<|u7 _];unfold Pe;rw[o0<|show ¬J4 m i-i-(J4 m i-i) > 0 by lia];rfl
noncomputable def fx(m:Nat)(h:Int):Nat->Nat×Nat
 | 0=>(Nc h % (m+1),Nc h)
 |k+1=>NH m (fx m h k).1 (fx m h k).2
noncomputable def fQ(m:Nat)(h:Int):Nat->Nat
 | 0=>0
 |k+1=>fQ m h k+(J4 m (fx m h k).1-(fx m h k).1+1)
theorem Fi(m:Nat)(h:Int)(k:Nat):fQ m h k<=10*k:=by
 induction k with
 |zero=>exact u7 _
 |succ k i=>have:=JD m (fx m h k).1;unfold fQ;lia
theorem Fw(m:Nat)(h:Int)(k:Nat):sq m h (fQ m h k)=kG m (fx m h k).1 (fx m h k).2:=by
 induction k with
 |zero=>rfl
 |succ k i=>unfold sq at i ⊢;unfold fQ;rw[sP,i,DO];rfl
theorem An(m:Nat)(h:Int)(k r:Nat)(i:r<=J4 m (fx m h k).1-(fx m h k).1):(sq m h<|fQ m h k+r).j=(fx m h k).1+r:=by have e:=Fw m h k;unfold sq at e ⊢;rw[sP,e,BN _ _ _ _ i]
theorem IR(h:Int):Nc h<2 ^ 64:=by unfold Nc;have a:=Int.emod_nonneg h (show (2 ^ 64:Int)≠0 by decide);have h1:=Int.emod_lt_of_pos h (show (0:Int)<2 ^ 64 by decide);lia
theorem pL(m:Nat)(h:Int):∀k,(fx m h k).2=Nc h / 32 ^ k
 | 0=>by simp[fx]
 |k+1=>by show (fx m h k).2 / 32=_;rw[pL m h k,Nat.div_div_eq_div_mul,<-Nat.pow_succ]
theorem tp(m:Nat)(h:Int)(k:Nat)(a:13<=k):(fx m h k).2=0:=by
 rw[pL];apply Nat.div_eq_of_lt;have h1:=IR h;have h2:32 ^ 13<=32 ^ k:=Nat.pow_le_pow_right (by decide) a;have b:(2:Nat) ^ 64<32 ^ 13:=by decide
 lia
noncomputable def wB(m i:Nat):Nat:=(i*5+1) % (m+1)
noncomputable def cb(m i:Nat):Nat->Nat
 | 0=>i
 |k+1=>wB m<|cb m i k
theorem fq(m i a b:Nat):cb m i (a+b)=cb m (cb m i a) b:=by
 induction b with
 |zero=>rfl
 |succ b h=>rw[Nat.add_succ,cb,h];rfl
theorem vq(m:Nat)(h:Int)(r:Nat):(fx m h<|13+r).1=cb m (fx m h 13).1 r:=by
 induction r with
 |zero=>rfl
 |succ r i=>show (NH m (fx m h<|13+r).1 (fx m h<|13+r).2).1=wB m (cb m (fx m h 13).1 r);rw[tp m h _ (by lia),i];rfl
theorem vt(m:Nat)(h:Int):∀k,(fx m h k).1<=m
 | 0=>Nat.lt_succ_iff.mp<|Nat.mod_lt _<|Nat.succ_pos _
 |k+1=>Nat.lt_succ_iff.mp<|Nat.mod_lt _<|Nat.succ_pos _
def Je(m:Nat):Prop:=cb m 0 (m+1)=0/\∀s,s<=m->∃k,k<=m/\cb m 0 k=s
noncomputable def vI(m:Nat):Nat->Nat->List Nat
 | 0,_=>[]
 |n+1,i=>i::vI m n (wB m i)
theorem nF(m:Nat):∀(n i k:Nat),k<n->(vI m n i)[k]?=a7 (cb m i k)
 | 0,_,_,h=>o4 h<|No _
 |n+1,i,0,_=>rfl
 |n+1,i,k+1,h=>by rw[vI,Rw,nF m n (wB m i) k (by lia),<-show cb m (cb m i 1) k=cb m i (k+1)from by rw[<-fq,Nat.add_comm]];rfl
theorem wg(m:Nat)(h:((vI m (m+2) 0)[m+1]?==a7 0&&(A9<|m+1).all λs=>(vI m (m+1) 0).contains s)=a9):Je m:=by
 rw[C9,o7,E5]at h;refine⟨?_,λs c=>?_⟩;have:=nF m (m+2) 0 (m+1) (by lia);rw[h.1]at this;exact(A8 this).symm;have:=h.2 s (G4.mpr<|by lia);rw[List.contains_iff_mem]at this;obtain⟨k,a⟩:=Ng this;have g:k<m+1:=by
  have:=(x9.mp a).1;have B:∀n i,(vI m n i).length=n:=by
   intro n;induction n with
   |zero=>intro i;rfl
   |succ n b=>intro i;simp[vI,b]
  rw[B]at this;exact this
 rw[nF m _ 0 k g]at a;exact⟨k,by lia,A8 a⟩
theorem full7:Je 7:=wg 7<|by decide +kernel
theorem Lw:Je 31:=wg 31<|by decide +kernel
theorem Ih:Je 127:=wg 127<|by decide +kernel
theorem Ca(F:Je m)(hi:i<=m)(e:s<=m):∃k,k<=m/\cb m i k=s:=by obtain⟨a,f,c⟩:=F.2 i hi;obtain⟨b,d,L⟩:=F.2 s e;by_cases h:a<=b;refine⟨b-a,by lia,?_⟩;rw[<-c,<-fq,show a+(b-a)=b by lia];exact L;refine⟨m+1-a+b,by lia,?_⟩;rw[<-c,<-fq,show a+(m+1-a+b)=(m+1)+b by lia,fq,F.1];exact L
def oE(m:Nat):Prop:=m=7\/m=31\/m=127
theorem oE.full(h:oE m):Je m:=by rcases h with rfl|rfl|rfl;exact full7;exact Lw;exact Ih
theorem FR(d:oE m)(h:Int)(a:s<=m):∃k,k<=m+13/\(fx m h k).1=s:=by obtain⟨r,i,e⟩:=Ca d.full (vt m h 13) a;exact⟨13+r,by lia,by rw[vq];exact e⟩
theorem Gp(d:oE m)(h:Int)(b:s<=m):∃n,n<10*(m+15)/\(sq m h n).j=s:=by obtain⟨k,a,e⟩:=FR d h b;refine⟨fQ m h k,by have:=Fi m h k;lia,?_⟩;rw[Fw];exact e
theorem Jy(h:Int):∀n,∃k r,r<=J4 m (fx m h k).1-(fx m h k).1/\n=fQ m h k+r
 | 0=>⟨0,0,z5 _,rfl⟩
 |n+1=>by obtain⟨k,r,hr,e⟩:=Jy (m:=m) h n;by_cases q:r<J4 m (fx m h k).1-(fx m h k).1;exact⟨k,r+1,q,by lia⟩;exact⟨k+1,0,z5 _,by rw[fQ];lia⟩
theorem Am(h:Int)(n:Nat):(sq m h n).j<=m:=by obtain⟨k,r,i,e⟩:=Jy (m:=m) h n;rw[e,An m h k r i];have:=vt m h k;unfold J4 at i;split at i<;>lia
theorem below_spec(x:Array Nat)(v:x.toList.Pairwise (· < ·))(j:Nat):E1 x j<=x.size/\(∀k (h:k<x.size),k<E1 x j->x[k]<j)/\∀k (h:k<x.size),E1 x j<=k->j<=x[k]:=by
 have m:∀a b (g:a<x.size) (i:b<x.size),a<b->x[a]<x[b]:=λa b g i h=>by have:=P6.mp v a b (by simpa using g) (by simpa using i) h;simpa using this
 have r:∀(l o hi:Nat),o<=hi->hi<=x.size->hi-o<=l->(∀k (h:k<x.size),k<o->x[k]<j)->(∀k (h:k<x.size),hi<=k->j<=x[k]) -> OA x j l o hi<=x.size/\(∀k (h:k<x.size),k<OA x j l o hi->x[k]<j)/\∀k (h:k<x.size),OA x j l o hi<=k->j<=x[k]:=by
  intro l;induction l with
  |zero =>
   intro o hi h1 h2 s f c;have:o=hi:=by lia
   subst this;exact⟨h2,f,c⟩
  |succ l n =>
   intro o hi h1 h2 s f c;unfold OA;by_cases h:o<hi;rw[n9 h];have e:(o+hi) / 2<x.size:=by lia
   have p:x.getD ((o+hi) / 2) j=x[(o+hi) / 2]:=by simp[MF,e]
   simp only[p];by_cases q:x[(o+hi) / 2]<j;rw[n9 q];refine n _ _ (by lia) h2 (by lia) (λk d u=>?_) c;rcases Mv k ((o+hi) / 2)with z|z;exact Pq (m k _ d e z) q;have:k=(o+hi) / 2:=by lia
   subst this;exact q;rw[o0 q];refine n _ _ (by lia) (by lia) (by lia) f λk d t=>?_;rcases Mv ((o+hi) / 2) k with z|z;exact D4 (M9.mp q)<|Oh<|m _ k e d z;have:k=(o+hi) / 2:=by lia
   subst this;exact M9.mp q;rw[o0 h];have:o=hi:=by lia
   subst this;exact⟨h2,f,c⟩
 exact r x.size 0 x.size (z5 _) (u7 _) (by lia) (λk _ h=>o4 h<|No _) λk h h'=>o4 h<|M9.mpr h'
theorem below_at(r:x.toList.Pairwise (· < ·))(h:x[i]?=a7 j):E1 x j=i:=by
 obtain⟨hi,e⟩:=Ni.mp h;obtain⟨g,c,u⟩:=below_spec x r j;have m:∀a b (f:a<x.size) (d:b<x.size),a<b->x[a]<x[b]:=λa b f d h=>by have:=P6.mp r a b (by simpa using f) (by simpa using d) h;simpa using this
 rcases OB (E1 x j) i with q|q|q;have d:E1 x j<x.size:=by lia
 have:=u _ d<|u7 _;have:=m _ i d hi q;lia;exact q;have:=c i hi q;lia
theorem slot_live{t:n5}(r:t.place.toList.Pairwise (· < ·)){i j:Nat}(h:t.place[i]?=a7 j):t.slot j=.live i:=by unfold SetTable.slot;simp only[below_at r h];rw[n9<|by rw[h];simp]
theorem yu{t:n5}(d:t.dummies = #[]){j:Nat}(h:j∉t.place.toList):t.slot j=.empty:=by
 unfold SetTable.slot;have e:¬(t.place[E1 t.place j]?==a7 j)=a9:=λz=>h (by rw[o7]at z;have:=Array.mem_of_getElem? z;simpa using this);have l:SetTable.has t.dummies j=c5:=by rw[d];rfl
 simp only[e,o8,l,B9]
theorem go_spec{t:n5}(r:t.place.toList.Pairwise (· < ·))(x:t.dummies = #[])(hashAt:Nat->Int)(h:Int):∀(fuel n N:Nat),n<=N->N<n+fuel->(sq t.mask h N).j∉t.place.toList->(∀k,n<=k->k<N->(sq t.mask h k).j∈t.place.toList) ->(∀k,(sq t.mask h k).dummy=a8) ->((∀k i,n<=k->k<N->t.place[i]?=a7 (sq t.mask h k).j->hashAt i≠h)/\Ri t hashAt h fuel (sq t.mask h n)=a7 (.empty (sq t.mask h N).j a8)) \/∃n' i,n<=n'/\n' < N/\t.place[i]?=a7 (sq t.mask h n').j/\hashAt i=h/\(∀k i,n<=k->k<n'->t.place[i]?=a7 (sq t.mask h k).j->hashAt i≠h)/\Ri t hashAt h fuel (sq t.mask h n)=a7 (.candidate (sq t.mask h n').j i<|sq t.mask h<|n'+1):=by
 intro fuel;induction fuel with
 |zero=>intro n N h1 h2;lia
 |succ fuel A =>
  intro n N h1 h2 g l m;unfold Ri;by_cases e:n=N;subst e;rw[yu x g];exact .inl ⟨λk i a b=>by lia,by rw[m]⟩;have y:=l n (u7 _) (by lia);obtain⟨i,hi⟩:=Ng y;have d:t.place[i]?=a7 (sq t.mask h n).j:=by rw[<-G8];exact hi
  rw[slot_live r d];dsimp only;have u:∀i',t.place[i']?=a7 (sq t.mask h n).j->i'=i:=λi' z=>by rw[<-below_at r z,below_at r d]
  by_cases q:hashAt i=h;simp only[o7,q,p5];exact .inr ⟨n,i,u7 _,by lia,d,q,λk i a b=>by lia,rfl⟩;simp only[o7,q,o8];rcases A (n+1) N (by lia) (by lia) g (λk a b=>l k (by lia) b) m with⟨B,C⟩|⟨n',i',F,o,p,s,v,w⟩
  refine .inl ⟨λk i' a b c=>?_,C⟩;rcases Mv n k with z|z;exact B k i' z b c;have:k=n:=by lia
  subst this;rw[u i' c];exact q;refine .inr ⟨n',i',by lia,o,p,s,λk f a b c=>?_,w⟩;rcases Mv n k with z|z;exact v k f z b c;have:k=n:=by lia
  subst this;rw[u f c];exact q
theorem sq_dummy(m:Nat)(h:Int):∀n,(sq m h n).dummy=a8
 | 0=>rfl
 |n+1=>by show (Pe m<|sq m h n).dummy=a8;unfold Pe;split;exact sq_dummy m h n;exact sq_dummy m h n
structure TOk(t:n5)(hs:List Int):Prop where
 msk:oE t.mask
 len:t.place.size=hs.length
 nod:t.dummies = #[]
 ris:t.place.toList.Pairwise (· < ·)
 rng:∀j∈t.place.toList,j<=t.mask
 few:t.place.size*5<t.mask*3
 path:∀(i:Nat) (h:Int) (j:Nat),hs[i]?=a7 h->t.place[i]?=a7 j->∃n,(sq t.mask h n).j=j/\∀n',n' < n->(sq t.mask h n').j∈t.place.toList
theorem BZ{m:Nat}{l:List Nat}(n:l.Nodup)(i:∀j∈l,j<=m)(g:l.length<=m):∃j,j<=m/\j∉l:=by refine Ny λf=>?_;have a:∀j∈A9 (m+1),j∈l:=λj L=>Ny λh=>f ⟨j,by have:=G4.mp L;lia,h⟩;have:=L2.nodup_le (A9<|m+1) l Qp a;rw[O0]at this;lia
theorem wj{m:Nat}(f:oE m){l:List Nat}(i:l.Nodup)(r:∀j∈l,j<=m)(g:l.length<=m)(h:Int):∃N,N<10*(m+15)/\(sq m h N).j∉l/\∀k,k<N->(sq m h k).j∈l:=by
 obtain⟨s,w,u⟩:=BZ i r g;obtain⟨n,o,M⟩:=Gp f h w;have:∀b n,n<b->(sq m h n).j∉l->∃N,N<=n/\(sq m h N).j∉l/\∀k,k<N->(sq m h k).j∈l:=by
  intro b;induction b with
  |zero=>intro n h;lia
  |succ b t=>intro n v p;by_cases q:∀k,k<n->(sq m h k).j∈l;exact⟨n,u7 _,p,q⟩;have:∃k,k<n/\(sq m h k).j∉l:=Ny λz=>q λk e=>Ny λG=>z ⟨k,e,G⟩;obtain⟨k,e,d⟩:=this;obtain⟨N,F,a,c⟩:=t k (by lia) d;exact⟨N,by lia,a,c⟩
 obtain⟨N,F,a,c⟩:=this (n+1) n (K0 _) (by rw[M];exact u);exact⟨N,by lia,a,c⟩
theorem TOk.empty{t:n5}{s:List Int}(T:TOk t s)(h:Int):∃N,N<10*(t.mask+15)/\(sq t.mask h N).j∉t.place.toList/\∀k,k<N->(sq t.mask h k).j∈t.place.toList:=by refine wj T.msk (T.ris.imp λh=>x6 h) T.rng ?_ h;have:=T.few;rw[E2];rcases T.msk with e|e|e<;>lia
theorem AB{t:n5}(r:t.place.toList.Pairwise (· < ·)){j:Nat}(L:j∉t.place.toList):(t.put j).1.place.toList=t.place.toList.take (E1 t.place j)++j::t.place.toList.drop (E1 t.place j)/\(t.put j).1.place.toList.Pairwise (· < ·):=by
 obtain⟨o,m,u⟩:=below_spec t.place r j;have e:(t.put j).1.place.toList=t.place.toList.take (E1 t.place j)++j::t.place.toList.drop (E1 t.place j):=by show (Qv t.place (E1 t.place j) j).toList=_;rw[SetTable.toList_insertAt]
 refine⟨e,?_⟩;rw[e,List.pairwise_append];refine⟨r.sublist<|Qz ..,List.pairwise_cons.mpr ⟨λx c=>?_,r.sublist<|List.drop_sublist ..⟩,λx c y O=>?_⟩;obtain⟨k,h⟩:=Ng c;rw[N6]at h;have d:t.place[E1 t.place j+k]?=a7 x:=by rw[<-G8];exact h
 obtain⟨g,f⟩:=Ni.mp d;have:=u _ g<|PK _ _;rw[f]at this;rcases Mv j x with z|z;exact z;have:x=j:=by lia
 subst this;exact o4 (List.mem_of_mem_drop c) L;obtain⟨k,h⟩:=Ng c;rw[QE]at h;split at h;rename_i l;have d:t.place[k]?=a7 x:=by rw[<-G8];exact h
 obtain⟨g,f⟩:=Ni.mp d;have h1:=m k g l;rw[f]at h1;rcases A0.mp O with rfl|O;exact h1;obtain⟨B,a⟩:=Ng O;rw[N6]at a;have b:t.place[E1 t.place j+B]?=a7 y:=by rw[<-G8];exact a
 obtain⟨i,n⟩:=Ni.mp b;have:=u _ i<|PK _ _;rw[n]at this;lia;cases h
end Ht
namespace L2
open PySem PySem.Spec PyProof.Rows DL PySem.W
theorem gK:Slot "set_iterator" "__iter__" "set_iterator.__iter__":=.of (owner:="set_iterator") (n:="__iter__") (by rw[PH,P3];kernel_rfl) (by decide +kernel) (by decide +kernel) (by decide +kernel) (by first|exact .inl (by decide +kernel)|exact .inr<|by decide +kernel)<|by rw[isSubtype_type];kernel_rfl
theorem mj:entryFor table "set_iterator.__iter__" = a7 Builtin.«dict_keyiterator.__iter__»:=entryFor_alias (id':="dict_keyiterator.__iter__") (by kernel_rfl) rfl (by decide +kernel)<|by kernel_rfl
theorem nV(a:c6):argsOk "set_iterator.__iter__" ⟨[a],[]⟩:=by unfold argsOk;rw[signature?_of (id:="set_iterator.__iter__") (n:=['_','_','r','e','t','i','_','_']) (o:=['r','o','t','a','r','e','t','i','_','t','e','s']) (by kernel_rfl) nE];kernel_rfl
theorem ic(I:s.heap.get? it=a7 (fK first i n a ep))(h:Q (.ref it) s):ge (i3 p w) A (j3<|.ref it) Q E s:=by
 have T:s.TypeIs (.ref it) "set_iterator":=⟨_,I,rfl⟩
 refine Qu T gK<|K1 gK T mj (show ge _ _ (ret<|.ref it) _ _ s from ?_)<|nV _;exact t4 ⟨_,rfl,"set_iterator",_,T,bz.lookup,h⟩
theorem SetAt.at(S:SetAt h a o e ep t)(k:∀o,h.get? a=a7 o->h'.get? a=a7 o):SetAt h' a o e ep t:=⟨k _ S.ob,S.dt,S.ft⟩
theorem lK(d:w.params.followText "set-order" = a9)(S:SetAt s.heap a o b ep t)(h:Q (((m9 (w.params.setOrder a ep) b)[i]?).map λe=>(e.2,0)) s):ge (i3 p w) A (setNext a 0 i ep) Q E s:=by unfold setNext;refine p8<|MV S.ob S.dt S.ft ?_;unfold setsByText;refine p8<|p8<|Ox<|t4 ?_;simp only[i3,d,p5,bne_self_eq_false,B9,o8];unfold setWalk;refine p8<|p8<|MV S.ob S.dt S.ft ?_;unfold setsByText;refine p8<|p8<|Ox<|t4 ?_;simp only[i3,d,p5];exact p8<|Ox<|t4<|t4 h
theorem yi(d:w.params.followText "set-order" = a9)(m:A.handled=a8)(f:a≠it):m7 p w A it [it,a] [it] n.size (λi v=>((m9 (w.params.setOrder a ep) n).toList.map (·.2))[i]?=a7 v) (λi h=>h.get? it=a7 (fK (j4 0) i n.size a ep)/\SetAt h a o n ep t) where
 sub:=λb d=>by simp at d;simp[d]
 frame:=λ_ _ _ st l=>⟨l it (by simp) _ st.1,st.2.at λo e=>l a (by simp) o e⟩
 item:=λi s Q E hi st c=>by
  have g:(m9 (w.params.setOrder a ep) n).size=n.size:=by have:=(nw (w.params.setOrder a ep) n).length_eq;simpa using this
  obtain⟨e,j⟩:∃e,(m9 (w.params.setOrder a ep) n)[i]?=a7 e:=⟨_,G9<|by rw[g];exact hi⟩
  refine nI (slot:=0) (next:=0) (x:=e.2) st.1 st.2 (λA E Q q=>lK d st.2<|by rw[j];exact q) λh' h1 T=>c _ h' s.toks (by simp[j]) ⟨h1,st.2.at λo e=>(T.2 a f).trans e⟩ λb o d e=>(T.2 b<|by simpa using d).trans e
 done:=λs Q E st c=>by
  have g:(m9 (w.params.setOrder a ep) n).size=n.size:=by have:=(nw (w.params.setOrder a ep) n).length_eq;simpa using this
  refine fI (slot:=0) m st.1 st.2 (λA E Q q=>lK d st.2 ?_) λh' k=>c h' s.toks λb o d e=>k b o (by simpa using d) e;rw[O3<|by rw[g];exact u7 _];exact q
 self:=λ_ _ _ _ st c=>ic st.1 c
theorem uW{tt:d5}{ps:List Nat}(p:ps.Perm (A9 es.size))(y:A.handled=a8)(m:a≠it)(n:tt≠it):m7 prog w A it [it,a,tt] [it] es.size (λi v=>(ps.filterMap λj=>(es[j]?).map (·.2))[i]?=a7 v) (λi h=>h.get? it=a7 (fK (.ref tt) i es.size a ep)/\SetAt h a o es ep t/\h.IsTuple tt (ps.map λ(k:Nat)=>j4 k).toArray) where
 sub:=λb f=>by simp at f;simp[f]
 frame:=λ_ _ _ st g=>⟨g it (by simp) _ st.1,st.2.1.at λo e=>g a (by simp) o e,let ⟨o,e,r⟩:=st.2.2;⟨o,g tt (by simp) _ e,r⟩⟩
 item:=λi s Q E hi st d=>by
  have u:ps.length=es.size:=by have:=p.length_eq;simpa using this
  have l:∀j∈ps,j<es.size:=λj L=>by have:=p.mem_iff.mp L;simpa using this
  have L:ps[i]?=a7 ps[i]:=w9 (by lia);have c:ps[i]<es.size:=l _<|Mg _;have q:es[ps[i]]?=a7 es[ps[i]]:=G9 c;have x:(ps.filterMap λj=>(es[j]?).map (·.2))=ps.map λj=>(es.getD j default).2:=by
   clear L u p hi st d q c;induction ps with
   |nil=>rfl
   |cons j r z=>have L:=l j C5;rw[MJ,G9 L,C4,<-z λk g=>l k<|A5 _ g];simp[MF,L]
  refine yC st.1 st.2.2 st.2.1 L q λh' h1 T=>d _ h' s.toks ?_ ⟨h1,st.2.1.at λo e=>(T.2 a m).trans e,let ⟨o,e,r⟩:=st.2.2;⟨o,(T.2 tt n).trans e,r⟩⟩ λb o f e=>(T.2 b<|by simpa using f).trans e;rw[x,C8,L];simp[MF,c]
 done:=λs Q E st d=>by
  have u:ps.length=es.size:=by have:=p.length_eq;simpa using this
  exact om y st.1 st.2.2 st.2.1 (Nw<|by lia) λh' k=>d h' s.toks λb o f e=>k b o (by simpa using f) e
 self:=λ_ _ _ _ st d=>ic st.1 d
theorem lL(b:w.params.followText "set-order" = c5)(d:t.led=a9)(c:e.size<=1)(S:SetAt s.heap a o e ep t)(h:Q (match e[E1 t.place slot]?,t.place[E1 t.place slot]? with|some (_,x),a7 j=>a7 (x,j+1)|_,_=>a8) s):ge (i3 p w) A (setNext a slot i ep) Q E s:=by unfold setNext;refine p8<|MV S.ob S.dt S.ft ?_;unfold setsByText;refine p8<|p8<|Ox<|t4 ?_;simp only[i3,b,B9,o8];refine Nn (λz=>?_) λ_=>?_;have G:(!t.plain&&decide (e.size > 1))=a9:=z;simp at G;lia;refine p8<|show ge (i3 p w) A (if (!t.led && !e.isEmpty)=a9 then unsupported _ else pure ()) _ _ s from ?_;rw[d];simp only[Nl,Oq,B9,o8];exact t4<|t4 h
theorem uJ(j k:Nat):E1 #[j] k=if j<k then 1 else 0:=by unfold E1;simp only[z7,C3,C2];unfold OA;simp only[Nat.zero_lt_succ,p5];by_cases h:j<k;simp[h,OA];simp[h,OA]
theorem yj(d:w.params.followText "set-order" = c5)(c:t.led=a9)(g:u.size<=1)(r:A.handled=a8)(l:a≠it):m7 prog w A it [it,a] [it] u.size (λi v=>(u.toList.map (·.2))[i]?=a7 v) (λi h=>h.get? it=a7 (fK (j4 (if i=0 then 0 else t.place.getD 0 0+1:Nat)) i u.size a ep)/\SetAt h a o u ep t) where
 sub:=λb d=>by simp at d;simp[d]
 frame:=λ_ _ _ st n=>⟨n it (by simp) _ st.1,st.2.at λo e=>n a (by simp) o e⟩
 item:=λi s Q E hi st f=>by
  obtain rfl:i=0:=by lia
  have y:t.place.size=1:=by have:=st.2.ft;simp[OT]at this;lia
  obtain⟨j,L⟩:∃j,t.place = #[j]:=⟨t.place[0],by apply Array.ext (by simpa using y);intro i h1 h2;simp at h2;subst h2;rfl⟩
  have m:u[0]?=a7 u[0]:=G9 hi;refine nI (slot:=0) (next:=j+1) (x:=u[0].2) st.1 st.2 (λA E Q q=>lL d c g st.2 ?_) λh' h1 T=>f _ h' s.toks ?_ ⟨?_,st.2.at λo e=>(T.2 a l).trans e⟩ λb o d e=>(T.2 b<|by simpa using d).trans e;rw[L,uJ,o0<|No _,m];exact q;rw[C8,G8,m];rfl;simpa [L]using h1
 done:=λs Q E st f=>by
  refine fI (slot:=if u.size=0 then 0 else t.place.getD 0 0+1) r st.1 st.2 (λA E Q q=>lL d c g st.2 ?_) λh' k=>f h' s.toks λb o d e=>k b o (by simpa using d) e;have y:t.place.size=u.size:=by have:=st.2.ft;simp[OT]at this;lia
  by_cases z:u.size=0;have:u = #[]:=Array.eq_empty_of_size_eq_zero z;subst this;simpa using q;obtain⟨j,L⟩:∃j,t.place = #[j]:=⟨t.place[0],by apply Array.ext (by simp;lia);intro i h1 h2;simp at h2;subst h2;rfl⟩
  have p:E1 t.place (if u.size=0 then 0 else t.place.getD 0 0+1)=1:=by rw[o0 z,L,uJ];simp
  rw[p,O3<|by lia];exact q
 self:=λ_ _ _ _ st f=>ic st.1 f
theorem lN(c:w.params.followText "set-order" = c5)(d:t.led=a9)(b:(!t.plain&&decide (e.size > 1))=c5)(S:SetAt s.heap a o e ep t)(h:Q (match e[E1 t.place slot]?,t.place[E1 t.place slot]? with|some (_,x),a7 j=>a7 (x,j+1)|_,_=>a8) s):ge (i3 p w) A (setNext a slot i ep) Q E s:=by unfold setNext;refine p8<|MV S.ob S.dt S.ft ?_;unfold setsByText;refine p8<|p8<|Ox<|t4 ?_;simp only[i3,c,B9,o8];refine Nn (λz=>?_) λ_=>?_;have G:(!t.plain&&decide (e.size > 1))=a9:=z;rw[b]at G;cases G;refine p8<|show ge (i3 p w) A (if (!t.led && !e.isEmpty)=a9 then unsupported _ else pure ()) _ _ s from ?_;rw[d];simp only[Nl,Oq,B9,o8];exact t4<|t4 h
theorem yk(d:w.params.followText "set-order" = c5)(c:t.led=a9)(j:(!t.plain&&decide (es.size > 1))=c5)(G:t.place.toList.Pairwise (· < ·))(I:A.handled=a8)(r:a≠it):m7 prog w A it [it,a] [it] es.size (λi v=>(es.toList.map (·.2))[i]?=a7 v) (λi h=>h.get? it=a7 (fK (j4 (if i=0 then 0 else t.place.getD (i-1) 0+1:Nat)) i es.size a ep)/\SetAt h a o es ep t):=by
 have l:∀i,i<=t.place.size->E1 t.place (if i=0 then 0 else t.place.getD (i-1) 0+1)=i:=λi hi=>by
  obtain⟨n,f,u⟩:=Ht.below_spec t.place G<|if i=0 then 0 else t.place.getD (i-1) 0+1;have m:∀a b (B:a<t.place.size) (d:b<t.place.size),a<b->t.place[a]<t.place[b]:=λa b B d h=>by have:=P6.mp G a b (by simpa using B) (by simpa using d) h;simpa using this
  by_cases z:i=0;rw[n9 z]at n f u ⊢;rcases Nat.eq_zero_or_pos (E1 t.place 0)with q|q;rw[q,z];have:=f 0 (by lia) q;lia;rw[o0 z]at n f u ⊢;have p:i-1<t.place.size:=by lia
  have H:t.place.getD (i-1) 0=t.place[i-1]:=by simp[MF,p]
  rw[H]at n f u ⊢;rcases OB (E1 t.place<|t.place[i-1]+1) i with q|q|q;have:=u (i-1) p (by lia);lia;exact q;have:=f i (by lia) q;have:=m (i-1) i p (by lia) (by lia);lia
 exact {
  sub:=λb d=>by simp at d;simp[d]
  frame:=λ_ _ _ st D=>⟨D it (by simp) _ st.1,st.2.at λo e=>D a (by simp) o e⟩
  item:=λi s Q E hi st g=>by
   have ps:t.place.size=es.size:=by have:=st.2.ft;simp[OT]at this;lia
   have F:i<t.place.size:=by lia
   have C:es[i]?=a7 es[i]:=G9 hi;have y:t.place[i]?=a7 t.place[i]:=G9 F;refine nI (next:=t.place[i]+1) (x:=es[i].2) st.1 st.2 (λA E Q q=>lN d c j st.2 ?_) λh' h1 T=>g _ h' s.toks ?_ ⟨?_,st.2.at λo e=>(T.2 a r).trans e⟩ λb o d e=>(T.2 b<|by simpa using d).trans e;rw[l i (by lia),C,y];exact q;rw[C8,G8,C];rfl;rw[o0<|Nat.succ_ne_zero i,Nat.add_sub_cancel,show t.place.getD i 0=t.place[i] by simp[MF,F]];exact h1
  done:=λs Q E st g=>by
   have ps:t.place.size=es.size:=by have:=st.2.ft;simp[OT]at this;lia
   refine fI I st.1 st.2 (λA E Q q=>lN d c j st.2 ?_) λh' k=>g h' s.toks λb o d e=>k b o (by simpa using d) e;rw[l es.size (by lia),O3<|u7 _];exact q
  self:=λ_ _ _ _ st g=>ic st.1 g }
theorem Et(S:SetAt s.heap a o es ep t)(C:o.cls=.type "set")(y:t.plain=a9->es.size<=1\/t.place.toList.Pairwise (· < ·))(k:t.led = !w.params.followText "set-order")(hz:es.size<=sizeLine)(h:∀(it:d5) (h':d7) (d:Drawn) (vs:List c6) (fp:List d5) (St:Nat->d7->Prop),(∀b o,s.heap.get? b=a7 o->h'.get? b=a7 o)->vs.Perm (es.toList.map (·.2))->s.heap.objs.size<=it->it<h'.objs.size->(∀b∈fp,b=a\/s.heap.objs.size<=b/\b<h'.objs.size) -> (∀A':f6,A'.handled=a8->m7 prog w A' it fp [it] es.size (λi v=>vs[i]?=a7 v) St)->St 0 h'->Q (.ref it) { s with heap:=h',drawn:=d }):ge (i3 prog w) A (j3<|.ref a) Q E s:=by
 have T:s.TypeIs (.ref a) "set":=⟨o,S.ob,C⟩
 have u:a<s.heap.objs.size:=v9 S.ob;refine Qu T F.slot_set_iter<|K1 F.slot_set_iter T qW ?_<|F.args_set_iter_1 _;unfold Builtin.«frozenset.__iter__»;refine p8<|show ge (i3 prog w) _ (pure a) _ _ s from t4 ?_;unfold Builtin.Frozenset.sizeOf;refine p8<|p8<|PZ S.ob S.dt S.ft<|t4 ?_;unfold setDrawn;refine p8<|p8<|MV S.ob S.dt S.ft ?_;unfold setsByText;refine p8<|p8<|Ox<|t4<|t4 ?_;by_cases r:(!w.params.followText "set-order" && (!t.plain&&decide (es.size > 1)))=a9;refine Nn (λ_=>?_) λz=>o4 r z;refine p8<|uk _ _ _ _ (by simp) λps d x=>?_;refine p8<|show ge (i3 prog w) _ (newObj (.type "tuple")<|.seq (ps.map λ(i:Nat)=>j4 i).toArray) _ _ _ from J5 ?_ (by have e:=x.length_eq;rw[O0]at e;show (ps.map λ(i:Nat)=>j4 i).toArray.size<=sizeLine;rw[z7,u6,e];exact hz);have g:=S.at (h':=s.heap.push { cls:=.type "tuple",data:=.seq (ps.map λ(i:Nat)=>j4 i).toArray }) λo e=>v5 _ e;refine p8<|wpAny_setEpoch_of (s:={ s with heap:=_,drawn:=d }) g.ob g.dt g.ft ?_;refine p8 (show ge (i3 prog w) _ (newObj (.type "set_iterator")<|.fields #[.ref s.heap.objs.size,j4 0,.ref a,j4 es.size,j4 ep]) _ _ _ from J5 ?_<|by size_fits);refine t4 ⟨_,rfl,"set_iterator",_,⟨_,A1 _ rfl,rfl⟩,bz.lookup,?_⟩;have p:(s.heap.push { cls:=.type "tuple",data:=.seq (ps.map λ(i:Nat)=>j4 i).toArray }).objs.size=s.heap.objs.size+1:=Mx ..;refine h _ _ d (ps.filterMap λj=>(es[j]?).map (·.2)) _ _ (λb o e=>v5 _<|v5 _ e) ?_ (by show s.heap.objs.size<=(s.heap.push _).objs.size;rw[p];exact Of _) (by show _<((s.heap.push _).push _).objs.size;rw[Mx (h:=s.heap.push _)];exact K0 _) ?_ (λA' m=>uW (o:=o) (t:=t) (ep:=ep) x m (x6<|by rw[p];exact Nq u)<|x6<|by rw[p];exact K0 _) ⟨A1 _ rfl,g.at λo e=>v5 _ e,⟨_,v5 _<|A1 _ rfl,rfl,_,rfl⟩⟩;refine(x.filterMap _).trans ?_;have B:(A9 es.size).filterMap (λj=>(es[j]?).map (·.2))=((A9 es.size).filterMap λj=>es[j]?).map (·.2):=by rw[List.map_filterMap]
 rw[B,filterMap_getElem?_range];intro b c;rw[Mx,p];rcases A0.mp c with rfl|c;exact .inr ⟨by rw[p];exact Of _,by rw[p];exact K0 _⟩;rcases A0.mp c with rfl|c;exact .inl rfl;rw[J6.mp c];exact .inr ⟨u7 _,Nq<|K0 _⟩;refine Nn (λz=>o4 z r) λ_=>?_;refine p8<|t4<|p8<|wpAny_setEpoch_of S.ob S.dt S.ft ?_;refine p8 (show ge (i3 prog w) _ (newObj (.type "set_iterator")<|.fields #[j4 0,j4 0,.ref a,j4 es.size,j4 ep]) _ _ _ from J5 ?_<|by size_fits);refine t4 ⟨_,rfl,"set_iterator",_,⟨_,A1 _ rfl,rfl⟩,bz.lookup,?_⟩;have g:=S.at (h':=s.heap.push<|fK (j4 0) 0 es.size a ep) λo e=>v5 _ e;have l:∀b∈[s.heap.objs.size,a],b=a\/s.heap.objs.size<=b/\b<(s.heap.push<|fK (j4 0) 0 es.size a ep).objs.size:=λb c=>by rcases A0.mp c with rfl|c;exact .inr ⟨u7 _,by rw[Mx];exact K0 _⟩;exact .inl<|J6.mp c
 by_cases c:w.params.followText "set-order" = a9;refine h _ _ s.drawn ((m9 (w.params.setOrder a ep) es).toList.map (·.2)) _ _ (λb o e=>v5 _ e) ((nw _ es).map _) (u7 _) (by rw[Mx];exact K0 _) l (λA' m=>yi (o:=o) (t:=t) (ep:=ep) c m<|x6 u) ⟨A1 _ rfl,g⟩;have f:w.params.followText "set-order" = c5:=by simpa using c
 have n:(!t.plain&&decide (es.size > 1))=c5:=by rw[f]at r;simpa using r
 have am:es.size<=1\/t.place.toList.Pairwise (· < ·):=by by_cases q:t.plain=a9;exact y q;simp[q]at n;exact .inl n
 rcases am with h1|D;refine h _ _ s.drawn (es.toList.map (·.2)) _ _ (λb o e=>v5 _ e) (Op _) (u7 _) (by rw[Mx];exact K0 _) l (λA' m=>yj (o:=o) (t:=t) (ep:=ep) f (by rw[k,f];rfl) h1 m<|x6 u) ⟨?_,g⟩;rw[n9 rfl];exact A1 _ rfl;refine h _ _ s.drawn (es.toList.map (·.2)) _ _ (λb o e=>v5 _ e) (Op _) (u7 _) (by rw[Mx];exact K0 _) l (λA' m=>yk (o:=o) (t:=t) (ep:=ep) f (by rw[k,f];rfl) n D m<|x6 u) ⟨?_,g⟩;rw[n9 rfl];exact A1 _ rfl
end L2
namespace L2
open PySem PySem.Spec PyProof.Rows DL PySem.W PySem.Calls PyProof.V
theorem Ez(n:s.TypeIs (.ref a) "set")(h:Q c5 s):ge (i3 p w) A (RW<|.ref a) Q E s:=by
 unfold RW;refine p8<|NK n F.slot_set_len.lookup ?_;generalize hi:("set.__len__":String)=t
 wp_delta
 rw[show splitId t=a7 ("set","__len__") by rw[<-hi];decide +kernel];rw[<-hi];refine p8<|Ow (T:="set") (b:=a9) n sub_set_self<|Nn (λz=>o4 z<|by decide) λ_=>Nn (λ_=>p8<|MS n<|t4 h) λz=>o4 (by decide +kernel) z
theorem zb{R:Result->f7->Prop}(N:A.handled=a8)(S:SetAt s.heap a o es ep t)(B:o.cls=.type "set")(G:t.plain=a9->es.size<=1\/t.place.toList.Pairwise (· < ·))(v:t.led = !w.params.followText "set-order")(hz:es.size<=sizeLine){D:d5}{c₀:Nat} (p:D≠a) (L:s.heap.get? D=a7 { cls:=.type "list",data:=.seq #[] c₀ }) (res:c6)(Y:∀h' tk d vs c,(∀b u,b≠D->s.heap.get? b=a7 u->h'.get? b=a7 u)->h'.get? D=a7 { cls:=.type "list",data:=.seq vs c }->vs.toList.Perm (es.toList.map (·.2))->R (.ok<|.ret res) { s with heap:=h',toks:=tk,drawn:=d }):ge (i3 prog w) A.in1 (Q0 (.ref D) (.ref a) res)
   (λfin s'=>match fin with|.done f=>R (.ok f) s'|.again c'=>c'.quiet=a9/\k5 (i3 prog w) A c' R s') (λe s'=>R (.error e) s') s:=by
 have ld:D<s.heap.objs.size:=v9 L;have Z:s.TypeIs (.ref a) "set":=⟨o,S.ob,B⟩
 unfold Q0;refine p8<|MS Z ?_;have Q:Builtin.List.listSameRef (.ref D) (.ref a)=c5:=by simp[Builtin.List.listSameRef,p]
 have T:(NE "set" == NE "list")=c5:=by decide
 have U:(NE "set" == NE "tuple")=c5:=by decide
 simp only[Q,T,U,Bool.or_false,B9,o8];refine p8<|Et S B G v hz λit h1 d vs X St H pv I ai C W st=>?_;have M:D∉X:=λz=>by
  rcases C D z with e|⟨e,_⟩
  exact p e;exact o4 ld<|M9.mpr e
 have lv:vs.length=es.size:=by have:=pv.length_eq;simpa using this
 have K:∀(h:d7) (g:Nat),St 0 h->(∀b u,b≠D->h1.get? b=a7 u->h.get? b=a7 u)->h.get? D=a7 { cls:=.type "list",data:=.seq #[] g } -> k5 (i3 prog w) A (.builtin "list.extend.loop" ⟨[.ref D,.ref it,res],[]⟩) R { s with heap:=h,drawn:=d }:=λh g J kk y=>by
  refine codeAny_extend_loopS (W A.in1<|by simp[N]).toS hz D M res es.size 0 _ #[] g rfl (z5 _) J y (ItemsOf.nil _) λs' acc c' O m j=>?_;rw[Moved.eq_with O];have V:acc.toList=vs:=by
   apply Qx;intro i;by_cases hi:i<es.size;have E:i<acc.size:=by rw[j.1];exact hi
   have h1:acc[i]?=a7 acc[i]:=G9 E;rw[G8,h1];exact(j.2 i _ h1).symm;rw[Nw (by rw[E2,j.1];lia),Nw<|by lia]
  refine Y s'.heap s'.toks d acc c' (λb u k e=>O.heap b u (λz=>?_)<|kk b u k<|H b u e) m (by rw[V];exact pv);rcases A0.mp z with P|z;exact k P;rw[J6.mp z]at e;exact o4 (v9 e)<|M9.mpr I
 have l:=H _ _ L;refine p8<|D7<|Ez (s:={ s with heap:=h1,drawn:=d }) ⟨o,H _ _ S.ob,B⟩ ?_;refine Nn (λz=>?_) λ_=>t4 ⟨Mw F.plain_extend_loop _,K h1 c₀ st (λ_ _ _ e=>e) l⟩;refine p8 (MQ (p8 (show ge (i3 prog w) _ (updateSeq D (·.push .none) >>= λ_=>updateSeq D (·.pop)) _ _ _ from p8<|PF l rfl ?_)));have n:=L1 (F8 (·.push Mo)) l rfl;refine PF (hz:=by seq_fits) n rfl ?_;have x:=L1 (F8 (·.pop)) n rfl;have r:∀b,b≠D->((h1.update D (F8 (·.push Mo))).update D (F8 (·.pop))).get? b=h1.get? b:=λb k=>by rw[Nx _ _<|B8 k,Nx _ _<|B8 k]
 refine t4 ⟨Mw F.plain_extend_loop _,K _ _ ((W A N).frame 0 _ _ st λb k u e=>(r b λq=>M<|q ▸ k).trans e) (λb u k e=>(r b k).trans e) x⟩
theorem yt{Q:c6->f7->Prop}(I:A.handled=a8)(S:SetAt s.heap a o es ep t)(H:o.cls=.type "set")(B:t.plain=a9->es.size<=1\/t.place.toList.Pairwise (· < ·))(y:t.led = !w.params.followText "set-order")(hz:es.size<=sizeLine)(h:∀h' tk d D (vs:List c6),(∀b u,s.heap.get? b=a7 u->h'.get? b=a7 u)->s.heap.get? D=a8->h'.get? D=a7 { cls:=.type "list",data:=.seq vs.toArray }->vs.Perm (es.toList.map (·.2)) -> ge (i3 prog w) A.in1 (call (.builtin "list.sort") [.ref D]) (λ_ s'=>Q (.ref D) s') E { s with heap:=h',toks:=tk,drawn:=d }):ge (i3 prog w) A (call (.builtin "sorted") [.ref a]) Q E s:=by
 have J:a<s.heap.objs.size:=v9 S.ob;refine call_function_entry kind_sorted plain_sorted entry_sorted (args_sorted1 _) ?_;unfold Builtin.«sorted»;refine p8 (m:=checkCount "sorted" 1 1 _)<|t4 ?_;unfold collect;refine p8<|p8<|wpAny_runValue<|Mp F.entry_proto_collect ?_;rw[MW F.plain_proto_collect _];refine(show ge (i3 prog w) _ (newList [] >>= λl=>again<|.builtin "list.__iadd__" ⟨[l,.ref a],[]⟩) _ _ s from p8<|J5<|t4 ⟨Mw F.plain_list_iadd _,Mp F.entry_list_iadd ?_⟩);rw[MW F.plain_list_iadd _];have G:=S.at (h':=s.heap.push { cls:=.type "list",data:=.seq ([]:List c6).toArray }) λo e=>v5 _ e;have C:=zb (prog:=prog) (A:=A.in1) (s:={ s with heap:=s.heap.push { cls:=.type "list",data:=.seq ([]:List c6).toArray } }) (D:=s.heap.objs.size) (c₀:=0) (res:=.ref s.heap.objs.size) (R:=λr s'=>∃h' tk d vs c,r=.ok (.ret<|.ref s.heap.objs.size)/\s'={ s with heap:=h',toks:=tk,drawn:=d }/\(∀b u,s.heap.get? b=a7 u->h'.get? b=a7 u)/\h'.get? s.heap.objs.size=a7 { cls:=.type "list",data:=.seq vs c }/\vs.toList.Perm (es.toList.map (·.2))) (by simp[I]) G H B y hz (OS J) (A1 _ rfl) λh' tk d vs c k g p=>⟨h',tk,d,vs,c,rfl,rfl,λb u e=>k b u (x6<|v9 e)<|v5 _ e,g,p⟩
 have i:∀h' tk d (vs:Array c6) c,(∀b u,s.heap.get? b=a7 u->h'.get? b=a7 u)->h'.get? s.heap.objs.size=a7 { cls:=.type "list",data:=.seq vs c }->vs.toList.Perm (es.toList.map (·.2)) -> ge (i3 prog w) A.in1 (do let ob <-load s.heap.objs.size;match ob.data with|.seq xs _=>pure xs.toList|_=>unsupported "internal:collect":Sem (List c6)) (λxs s'=>ge (i3 prog w) A.in1 (do let l <-newList xs;let _ <-i7 [l] (call (.builtin "list.sort") [l] []);ret l) (λn s'=>∃v,n=Fin.done (Flow.ret v)/\Q v s') E s') E { s with heap:=h',toks:=tk,drawn:=d }:=λh' tk d vs c j g p=>by
  refine p8 (wpAny_load g<|t4<|p8<|Om ?_<|by rw[p.length_eq];simpa using hz);have K:s.heap.objs.size<h'.objs.size:=v9 g;refine p8<|D7<|E9 (h (h'.push { cls:=.type "list",data:=.seq vs.toList.toArray }) tk d h'.objs.size vs.toList (λb u e=>v5 _<|j b u e) ?_ (A1 _ rfl) p) (λ_ s' q=>t4 ⟨_,rfl,q⟩) λ_ _ z=>z;cases q:s.heap.get? h'.objs.size with
  |none=>rfl
  |some o'=>exact o4 (v9<|j _ _ q)<|D5 _
 refine E9 C (λn s' x=>?_) λe s' ⟨_,_,_,_,_,z,_⟩=>by cases z
 cases n with
 |done f=>obtain⟨h',tk,d,vs,c,z,rfl,j,g,p⟩:=x;cases z;exact i h' tk d vs c j g p
 |again c'=>refine⟨x.1,Og x.2 ?_⟩;rintro r L ⟨h',tk,d,vs,c,z,e,j,g,p⟩;subst z e;exact i h' tk d vs c j g p
end L2
namespace L2
open PySem PySem.Spec PyProof.Rows DL PySem.W
theorem r9.drew(I:r9 X p σ H s):r9 X p σ H { s with drawn:=d }:=⟨I.ok,I.os,I.bare,I.base,I.loc,I.cell,I.free,I.freeC,I.pin,I.hok,I.len⟩
end L2
namespace L2
open PySem PySem.Spec PyProof.Rows DL PySem.Builtin PySem.Builtin.Str PySem.StrLaws
theorem Cq(a b B:Nat):strSliceIndices (a7 (a:Int)) (a7 (b:Int)) 1 B=strSliceIndices (a7 ((min a B:Nat):Int)) (a7 ((min b B:Nat):Int)) 1 B:=by
 have e:∀i:Nat,max (0:Int) (min (i:Int) (B:Int))=max (0:Int) (min ((min i B:Nat):Int) (B:Int)):=λi=>by lia
 have n:∀i:Nat,¬((i:Int)<0):=λi=>by lia
 simp only[strSliceIndices,n,o8,show ((1:Int) > 0)=True by simp,p5];rw[e a,e b]
theorem jX(x:c7)(l u:Option Int):(K7 x l u).cps.toList=if (strSliceIndices l u 1 x.length).length=x.length then x.cps.toList else(strSliceIndices l u 1 x.length).filterMap (x.cps[·]?):=by unfold K7;by_cases h:(strSliceIndices l u 1 x.length).length=x.length;rw[n9 (by simp[h]),n9 h];rw[o0 (by simp[h]),o0 h]
theorem jW(x:c7){a b:Nat}(T:a<=b):(K7 x (a7 (a:Int))<|a7 (b:Int)).cps.toList=(x.cps.toList.drop a).take (b-a):=by
 have d:min a x.length<=min b x.length:=by lia
 have l:(strSliceIndices (a7 ((min a x.length:Nat):Int)) (a7 ((min b x.length:Nat):Int)) 1 x.length).filterMap (x.cps[·]?)=(x.cps.toList.drop<|min a x.length).take (min b x.length-min a x.length):=sliced_plain x d<|Nat.min_le_right ..;have R:=cj (a:=x);have n:(x.cps.toList.drop<|min a x.length).take (min b x.length-min a x.length)=(x.cps.toList.drop a).take (b-a):=by by_cases f:a<=x.length;rw[PD f];by_cases c:b<=x.length;rw[PD c];rw[Nat.min_eq_right (by lia),P4 (by rw[MI];lia),P4<|by rw[MI];lia];rw[QP (i:=a) (by lia),QP (i:=min a x.length)<|by lia];simp
 rw[jX,Cq,l,n];split;rename_i h;rw[strSliceIndices_plain d<|Nat.min_le_right ..]at h;simp only[u6,O0]at h;have e:min a x.length=0:=by lia
 by_cases g:x.length=0;have:x.cps.toList=[]:=RL (by lia);rw[this];simp;have:a=0:=by lia
 subst this;rw[Qh,P4<|by lia];rfl
theorem Al(x y:c7):OX x y=decide (x.cps.toList.take y.length=y.cps.toList):=by unfold OX;rw[subAt_eq,Qh,Nat.zero_add,NZ];have b:=cj (a:=x);have g:=cj (a:=y);simp only[C9,o5,o7];constructor;exact λh=>h.2;intro h;refine⟨?_,h⟩;have:=p6 K8 h;rw[F5]at this;lia
noncomputable def bY(l:List Nat)(c:Nat):List Nat:=(A9 l.length).filter λi=>l[i]?==a7 c
theorem Bb(x:c7)(c:Nat):occurrences x ⟨#[c]⟩ 0 x.length (x.length+1)=bY x.cps.toList c:=by
 have R:=cj (a:=x);rw[occ_eq];have o:∀(k m:Nat) (st:Array Nat×Nat),m+k=x.length+1->st.1.toList=(A9 m).filter (λi=>x.cps.toList[i]?==a7 c)->st.2<=m -> (forIn (List.range' m k) st<|occBody x ⟨#[c]⟩ x.length<|x.length+1).run.fst.toList=(A9<|m+k).filter (λi=>x.cps.toList[i]?==a7 c):=by
  intro k;induction k with
  |zero=>intro m st e h1 h2;exact h1
  |succ k b =>
   intro m st e h1 h2;rw[List.range'_succ,List.forIn_cons];unfold occBody;have s:st.1.size<=m:=by have:=p6 K8 h1;rw[E2]at this;have l:=L6 (λi=>x.cps.toList[i]?==a7 c)<|A9 m;rw[O0]at l;lia
   have y:=subAt_one x c m;have r:(A9<|m+1).filter (λi=>x.cps.toList[i]?==a7 c)=(A9 m).filter (λi=>x.cps.toList[i]?==a7 c)++if x.cps.toList[m]?=a7 c then[m]else[]:=by rw[List.range_succ,NM];congr 1;by_cases z:x.cps.toList[m]?=a7 c;rw[List.filter_cons_of_pos (by rw[o7];exact z),n9 z];rfl;rw[Ry (by rw[o7];exact z),o0 z];rfl
   by_cases z:x.cps.toList[m]?=a7 c;obtain⟨G,B⟩:=y.mpr z;rw[n9 ⟨⟨⟨by lia,h2⟩,G⟩,B⟩];rw[n9 z]at r;have:=b (m+1) (st.1.push m,m+(⟨#[c]⟩:c7).length) (by lia) (by rw[Qw,h1,r])<|show m+1<=m+1 from u7 _;rw[show m+(k+1)=m+1+k by lia];exact this;rw[o0 λh=>z<|y.mp ⟨h.1.2,h.2⟩];rw[o0 z,G2]at r;have:=b (m+1) (st.1,st.2) (by lia) (by rw[h1,r]) (by show st.2<=m+1;lia);rw[show m+(k+1)=m+1+k by lia];exact this
 have:=o (x.length+1) 0 (#[],0) (by lia) rfl<|u7 _;rw[show x.length+1-0=x.length+1 by lia,this];unfold bY;rw[<-R,Nat.zero_add,List.range_succ,NM];have:x.cps.toList[x.length]?=a8:=Nw (by lia);rw[Ry (by rw[o7,this];simp),List.filter_nil,G2]
theorem eX:i∈bY l c↔l[i]?=a7 c:=by unfold bY;rw[A7,G4,o7];exact⟨λh=>h.2,λh=>⟨(x9.mp h).1,h⟩⟩
theorem yr(l:List Nat)(c:Nat):(bY l c).Pairwise (· < ·):=Nu _<|List.pairwise_lt_range
theorem sQ(hi:(bY l c)[k]?=a7 i)(L:((bY l c)++[l.length])[k+1]?=a7 j):i<j/\j<=l.length/\(j=l.length\/l[j]?=a7 c)/\∀m,i<m->m<j->l[m]?≠a7 c:=by
 have w:=yr l c;have y:i<l.length:=(x9.mp<|eX.mp<|D2 hi).1;obtain⟨r,u⟩:=x9.mp hi;have f:∀a b (o:a<(bY l c).length) (p:b<(bY l c).length),a<b->(bY l c)[a]<(bY l c)[b]:=λa b o p h=>P6.mp w a b o p h;by_cases g:k+1<(bY l c).length;rw[J0 g]at L;obtain⟨_,C⟩:=x9.mp L;have d:=eX.mp<|D2 L;refine⟨by rw[<-u,<-C];exact f _ _ _ _<|K0 _,Oh (x9.mp d).1,.inr d,λm h1 h2 n=>?_⟩;obtain⟨t,D,v⟩:=P0<|eX.mpr n;rcases OB t k with q|q|q;have:=f t k D r q;lia;subst q;lia;rcases Mv (k+1) t with s|s;have:=f (k+1) t g D s;lia;have:t=k+1:=by lia
 subst this;lia;have e:k+1=(bY l c).length:=by lia
 rw[MB (by lia),e,NU]at L;simp at L;subst L;refine⟨y,u7 _,.inl rfl,λm h1 h2 n=>?_⟩;obtain⟨t,D,v⟩:=P0<|eX.mpr n;rcases OB t k with q|q|q;have:=f t k D r q;lia;subst q;lia;lia
theorem kH(x:c7)(c:Nat)(f:c<256):∀y,y∈(I0 x ⟨#[c]⟩).drop 1↔∃k i j,(bY x.cps.toList c)[k]?=a7 i/\(bY x.cps.toList c++[x.cps.toList.length])[k+1]?=a7 j/\y=strSub x (i+1) j:=by
 intro y;have R:=cj (a:=x);unfold I0;have a8:bY x.cps.toList c=[]->(y∈([x]:List c7).drop 1↔∃k i j,(bY x.cps.toList c)[k]?=a7 i/\(bY x.cps.toList c++[x.cps.toList.length])[k+1]?=a7 j/\y=strSub x (i+1) j):=λe=>by rw[e];simp
 by_cases h1:(decide (x.length<(⟨#[c]⟩:c7).length)||decide (N7 x<N7 ⟨#[c]⟩))=a9;rw[n9 h1];apply a8;rw[AR]at h1;have G:N7 (⟨#[c]⟩:c7)=1:=by simp[N7,f]
 have B:1<=N7 x:=by unfold N7;split<;>(try split)<;>lia
 have:x.length=0:=by rw[G]at h1;simp only[NY,o5]at h1;lia
 unfold bY;rw[<-R,this];rfl;rw[o0 h1,Bb];by_cases h2:(bY x.cps.toList c).isEmpty=a9;rw[n9 h2];exact a8<|List.isEmpty_iff.mp h2;rw[o0 h2];unfold partsBetween;rw[AR,<-Pu];have e:((0::(bY x.cps.toList c).map (· + 1)).zip<|bY x.cps.toList c++[x.length]).drop 1=((bY x.cps.toList c).map (· + 1)).zip ((bY x.cps.toList c++[x.cps.toList.length]).drop 1):=by
  cases q:bY x.cps.toList c with
  |nil=>rw[q]at h2;exact o4 rfl h2
  |cons a r=>rw[R];rfl
 rw[e,v6];constructor;rintro⟨⟨i,j⟩,hm,rfl⟩;obtain⟨k,h⟩:=Ng hm;obtain⟨F,b⟩:=List.getElem?_zip_eq_some.mp h;rw[C8]at F;cases q:(bY x.cps.toList c)[k]? with
 |none=>rw[q]at F;cases F
 |some i'=>rw[q]at F;have:i'+1=i:=A8 F;subst this;rw[N6,Nat.add_comm]at b;exact⟨k,i',j,q,b,rfl⟩
 rintro⟨k,i,j,h1,h2,rfl⟩;refine⟨(i+1,j),?_,rfl⟩;have:(((bY x.cps.toList c).map (· + 1)).zip<|(bY x.cps.toList c++[x.cps.toList.length]).drop 1)[k]?=a7 (i+1,j):=by rw[List.getElem?_zip_eq_some];refine⟨by rw[C8,h1];rfl,?_⟩;rw[N6,Nat.add_comm];exact h2
 exact D2 this
end L2
namespace L2
open PySem PySem.Spec PyProof.Rows DL PySem.W
def Gs:D9:=λx y M Q=>match x,y with
 |.int i,.int j=>CPow i j/\Q (.int<|i ^ j.toNat) M
 |_,_=>False
theorem Kq:E3 X (j6 .Pow) Gs:=by refine C7.imp Kf ?_;rintro g l H R ⟨x,y,M,ρ,Q,s,r,m,q,k⟩;unfold Gs at q;split at q;cases r;cases m;exact⟨_,_,rfl,rfl,q.1,k _ H<|VQ.now s (.int _) q.2⟩;exact q.elim
theorem Lf:E7 X (j6 .Pow) Gs:=⟨Kq⟩
end L2
namespace Ht
open PySem
def MM(ow:Array (Option Nat))(s:Nat):Prop:=∃i,ow[s]?=a7 (a7 i)
theorem getD_none(h:s<ow.size):(ow.getD s<|a7 0).isNone=a9↔¬MM ow s:=by
 have e:ow[s]?=a7 ow[s]:=G9 h;have l:ow.getD s (a7 0)=ow[s]:=by simp[MF,h]
 rw[l];unfold MM;rw[e];cases ow[s]<;>simp
theorem Cb(hz:ow.size=m+1)(h:Int):∀(fuel k0 k:Nat),k0<=k->k<k0+fuel->¬MM ow (fx m h k).1->(∀n,n<fQ m h k0->MM ow (sq m h n).j) ->∃N,QO m ow fuel (fx m h k0).1 (fx m h k0).2=a7 (sq m h N).j/\¬MM ow (sq m h N).j/\∀n,n<N->MM ow (sq m h n).j:=by
 intro fuel;induction fuel with
 |zero=>intro k0 k h1 h2;lia
 |succ fuel l =>
  intro k0 k h1 h2 c d;have p:=vt m h k0;have u:J4 m (fx m h k0).1<=m/\(fx m h k0).1<=J4 m (fx m h k0).1:=by unfold J4;split<;>lia
  unfold QO;cases f:(A9<|J4 m (fx m h k0).1+1-(fx m h k0).1).find? λk=>(ow.getD ((fx m h k0).1+k)<|a7 0).isNone with
  |some r =>
   have i:=Os f;have b:=RG f;rw[G4]at b;refine⟨fQ m h k0+r,by rw[An m h k0 r<|by lia],?_,λn g=>?_⟩;rw[An m h k0 r<|by lia];exact(getD_none<|by lia).mp i;rcases Mv n (fQ m h k0)with q|q;exact d n q;obtain⟨r',rfl⟩:∃r',n=fQ m h k0+r':=⟨n-fQ m h k0,by lia⟩
   rw[An m h k0 r'<|by lia];refine Ny λo=>?_;have t:r' < r:=by lia
   have z:=(getD_none (ow:=ow) (s:=(fx m h k0).1+r')<|by lia).mpr o;have:=List.find?_range_eq_some.mp f;have:=this.2.2 r' t;rw[z]at this;exact o4 this<|by simp
  |none =>
   have a:∀r,r<=J4 m (fx m h k0).1-(fx m h k0).1->MM ow ((fx m h k0).1+r):=λr i=>by refine Ny λo=>?_;have z:=(getD_none (ow:=ow) (s:=(fx m h k0).1+r)<|by lia).mpr o;have:=List.find?_eq_none.mp f r (G4.mpr<|by lia);exact this z
   have v:k0≠k:=λe=>by subst e;exact c<|a 0<|z5 _
   refine l (k0+1) k (by lia) (by lia) c λn g=>?_;unfold fQ at g;rcases Mv n (fQ m h k0)with q|q;exact d n q;obtain⟨r',rfl⟩:∃r',n=fQ m h k0+r':=⟨n-fQ m h k0,by lia⟩
   rw[An m h k0 r'<|by lia];exact a r'<|by lia
structure Laid(m:Nat)(hs:List Int)(ow:Array (Option Nat))(k:Nat):Prop where
 sz:ow.size=m+1
 lt:∀s i:Nat,ow[s]?=a7 (a7 i)->i<k
 inj:∀s s' i:Nat,ow[s]?=a7 (a7 i)->ow[s']?=a7 (a7 i)->s=s'
 all:∀i:Nat,i<k->∃s:Nat,ow[s]?=a7 (a7 i)
 path:∀(s i:Nat) (h:Int),ow[s]?=a7 (a7 i)->hs[i]?=a7 h->∃n,(sq m h n).j=s/\∀n',n' < n->MM ow (sq m h n').j
theorem Laid.room(L:Laid m r ow k)(q:k<=m):∃s,s<=m/\¬MM ow s:=by
 refine Ny λh=>?_;have c:∀s,s<=m->MM ow s:=λs r=>Ny λz=>h ⟨s,r,z⟩;have d:∀s,s∈A9 (m+1)->((ow.getD s a8).getD 0)∈A9 k:=λs u=>by
  obtain⟨i,e⟩:=c s (by have:=G4.mp u;lia);have:ow.getD s a8=a7 i:=by obtain⟨g,z⟩:=Ni.mp e;simp[MF,g,z]
  rw[this];exact G4.mpr<|L.lt s i e
 have p:((A9<|m+1).map λs=>(ow.getD s a8).getD 0).Nodup:=by
  rw[NO,Oz];have base:=Qp (n:=m+1);rw[NO]at base;refine base.imp_of_mem λ{a b} ha hb hne e=>hne ?_;obtain⟨i,f⟩:=c a (by have:=G4.mp ha;lia);obtain⟨j,C⟩:=c b (by have:=G4.mp hb;lia);have t:ow.getD a a8=a7 i:=by obtain⟨g,z⟩:=Ni.mp f;simp[MF,g,z]
  have l:ow.getD b a8=a7 j:=by obtain⟨g,z⟩:=Ni.mp C;simp[MF,g,z]
  rw[t,l]at e;have:i=j:=e;subst this;exact L.inj a b i f C
 have:=L2.nodup_le _ (A9 k) p λx o=>by obtain⟨s,u,rfl⟩:=v6.mp o;exact d s u
 rw[u6,O0,O0]at this;lia
theorem Laid.step(C:oE m)(L:Laid m hs ow k)(A:k<=m)(y:hs[k]?=a7 h):∃j,QO m ow (OW m) (Nc h % (m+1)) (Nc h)=a7 j/\Laid m hs (ow.setIfInBounds j<|a7 k) (k+1):=by
 obtain⟨s,g,l⟩:=L.room A;obtain⟨H,B,e⟩:=FR C h g;obtain⟨N,v,M,x⟩:=Cb L.sz h (OW m) 0 H (z5 _) (by unfold OW;lia) (by rw[e];exact l) λn D=>o4 D<|No _;refine⟨(sq m h N).j,v,?_⟩;have E:(sq m h N).j<ow.size:=by have:=Am (m:=m) h N;rw[L.sz];lia
 have a:(ow.setIfInBounds (sq m h N).j<|a7 k)[(sq m h N).j]?=a7 (a7 k):=by rw[Array.getElem?_setIfInBounds_self_of_lt E]
 have r:∀s,s≠(sq m h N).j->(ow.setIfInBounds (sq m h N).j<|a7 k)[s]?=ow[s]?:=λs f=>Array.getElem?_setIfInBounds_ne<|B8 f;have w:∀s,MM ow s->MM (ow.setIfInBounds (sq m h N).j<|a7 k) s:=λs ⟨i,z⟩=>by by_cases q:s=(sq m h N).j;subst q;exact⟨k,a⟩;exact⟨i,by rw[r s q];exact z⟩
 have d:∀s i,(ow.setIfInBounds (sq m h N).j<|a7 k)[s]?=a7 (a7 i)->(s=(sq m h N).j/\i=k)\/(s≠(sq m h N).j/\ow[s]?=a7 (a7 i)):=λs i z=>by by_cases q:s=(sq m h N).j;subst q;rw[a]at z;cases z;exact .inl ⟨rfl,rfl⟩;rw[r s q]at z;exact .inr ⟨q,z⟩
 refine⟨by rw[Array.size_setIfInBounds];exact L.sz,λs i z=>?_,λs s' i z G=>?_,λi hi=>?_,λs i h' z b=>?_⟩;rcases d s i z with⟨_,e⟩|⟨_,z⟩
 lia;have:=L.lt s i z;lia;rcases d s i z with⟨t,p⟩|⟨_,z⟩
 rcases d s' i G with⟨R,_⟩|⟨_,G⟩
 rw[t,R];have:=L.lt s' i G;lia;rcases d s' i G with⟨_,I⟩|⟨_,G⟩
 have:=L.lt s i z;lia;exact L.inj s s' i z G;by_cases q:i=k;subst q;exact⟨_,a⟩;obtain⟨s,z⟩:=L.all i (by lia);refine⟨s,?_⟩;rw[r s λe=>M ⟨i,by rw[<-e];exact z⟩];exact z;rcases d s i z with⟨t,p⟩|⟨_,z⟩
 subst t p;rw[y]at b;cases b;exact⟨N,rfl,λo c=>w _<|x o c⟩;obtain⟨n,F,u⟩:=L.path s i h' z b;exact⟨n,F,λo c=>w _<|u o c⟩
theorem Hk(l:oE m)(r:List Int)(q:r.length<=m):∃ow,SetTable.layClean m r.toArray=a7 ow/\Laid m r ow r.length:=by
 have start:Laid m r (Array.replicate (m+1) a8) 0:=by
  have n:∀s i:Nat,(Array.replicate (m+1) (a8:Option Nat))[s]?≠a7 (a7 i):=λs i z=>by rw[Array.getElem?_replicate]at z;split at z<;>cases z
  exact⟨by simp,λs i z=>o4 z<|n s i,λs _ i z=>o4 z<|n s i,λi hi=>o4 hi<|No _,λs i _ z=>o4 z<|n s i⟩
 have c:∀(be:List Int) (k:Nat) (ow:Array (Option Nat)),r.drop k=be->k+be.length=r.length->Laid m r ow k -> ∃o,be.foldl (init:=a7 (ow,k)) (λt h=>do
    let (owner,k) <-t
    let j <-QO m owner (OW m) (Nc h % (m+1)) (Nc h)
    pure (owner.setIfInBounds j<|a7 k,k+1))=a7 (o,r.length)/\Laid m r o r.length:=by
  intro be;induction be with
  |nil =>
   intro k ow e a L;have:k=r.length:=by simpa using a
   subst this;exact⟨ow,rfl,L⟩
  |cons h be p =>
   intro k ow e a L;have d:r[k]?=a7 h:=by
    have:(r.drop k)[0]?=a7 h:=by rw[e];rfl
    rw[N6]at this;simpa using this
   rw[C3]at a;obtain⟨j,f,b⟩:=L.step l (by lia) d;obtain⟨o,g1,g⟩:=p (k+1) (ow.setIfInBounds j<|a7 k) (by
    have:r.drop (k+1)=(r.drop k).drop 1:=by rw[List.drop_drop]
    rw[this,e];rfl) (by lia) b
   refine⟨o,?_,g⟩;rw[List.foldl_cons];simp only[Option.bind_eq_bind,Option.bind_some,f,Option.pure_def];exact g1
 obtain⟨ow,g1,g⟩:=c r 0 _ rfl (by simp) start;refine⟨ow,?_,g⟩;unfold SetTable.layClean;rw[<-Array.foldl_toList];have:r.toArray.toList=r:=by simp
 rw[this,g1];rfl
theorem ny{α:Type}[DecidableEq α]:∀{l l':List α},l.Nodup->l'.Nodup->(∀x,x∈l↔x∈l')->l.Perm l'
 | [],l',_,_,h=>by have:l'=[]:=List.eq_nil_iff_forall_not_mem.mpr λx hx=>o4 ((h x).mpr hx) (by simp);rw[this]
 |x::l,l',n,n',h=>by have hx:x∈l':=(h x).mp C5;have n1:=MU.mp n;refine(Qg x<|ny n1.2 (n'.erase x) λy=>?_).trans (List.perm_cons_erase hx).symm;by_cases e:y=x;subst e;constructor;intro z;exact o4 z n1.1;intro z;exact o4 z<|List.Nodup.not_mem_erase n';rw[List.mem_erase_of_ne e,<-h y,A0];exact⟨.inr,λz=>z.resolve_left e⟩
noncomputable def bN(m:Nat)(ow:Array (Option Nat)):List (Nat×Nat):=(A9<|m+1).filterMap λj=>(ow.getD j a8).map (j,·)
theorem fJ(L:Laid m a ow k):(s,i)∈bN m ow↔ow[s]?=a7 (a7 i):=by
 unfold bN;rw[O1];constructor;rintro⟨j,hj,e⟩;have h:j<ow.size:=by rw[L.sz];exact G4.mp hj
 have l:ow.getD j a8=ow[j]:=by simp[MF,h]
 rw[l]at e;cases q:ow[j] with
 |none=>rw[q]at e;cases e
 |some i'=>rw[q]at e;have:=A8 e;cases this;rw[G9 h,q]
 intro e;obtain⟨g,z⟩:=Ni.mp e;refine⟨s,G4.mpr (by rw[<-L.sz];exact g),?_⟩;have l:ow.getD s a8=ow[s]:=by simp[MF,g]
 rw[l,z];rfl
theorem tO(m:Nat)(ow:Array (Option Nat)):((bN m ow).map (·.1)).Pairwise (· < ·):=by unfold bN;rw[Oz];refine List.Pairwise.filterMap (R:=(· < ·)) _ (λa c h b d e f=>?_)<|List.pairwise_lt_range;obtain⟨x,_,rfl⟩:=Mz.mp d;obtain⟨y,_,rfl⟩:=Mz.mp f;exact h
theorem tP(L:Laid m d ow d.length):((bN m ow).map (·.2)).Perm (A9 d.length):=by
 have n:(bN m ow).Nodup:=by have:=tO m ow;rw[Oz]at this;exact this.imp λh e=>by rw[e]at h;exact D5 _ h
 have p:((bN m ow).map (·.2)).Nodup:=by rw[NO,Oz];rw[NO]at n;refine n.imp_of_mem λ{a b} ha hb hne e=>hne ?_;obtain⟨s,i⟩:=a;obtain⟨s',i'⟩:=b;have c:i=i':=e;subst c;rw[L.inj s s' i ((fJ L).mp ha)<|(fJ L).mp hb]
 refine ny p Qp λi=>?_;rw[G4,v6];constructor;rintro⟨⟨s,i'⟩,hm,rfl⟩;exact L.lt s i'<|(fJ L).mp hm;intro hi;obtain⟨s,e⟩:=L.all i hi;exact⟨(s,i),(fJ L).mpr e,rfl⟩
theorem qS{α:Type}{l:List α}{p:Nat}{x y:α}(b:p<=l.length){i:Nat}(h:(l.take p++x::l.drop p)[i]?=a7 y):(i<p/\l[i]?=a7 y)\/(i=p/\y=x)\/(p<i/\l[i-1]?=a7 y):=by
 have lt:(l.take p).length=p:=by rw[F5];lia
 rcases OB i p with q|q|q;rw[J0 (by lia),QE,n9 q]at h;exact .inl ⟨q,h⟩;subst q;rw[MB (by lia),lt,NU]at h;exact .inr<|.inl ⟨rfl,(A8 h).symm⟩;rw[MB (by lia),lt]at h;obtain⟨r,a⟩:∃r,i-p=r+1:=⟨i-p-1,by lia⟩
 rw[a,Rw,N6]at h;exact .inr<|.inr ⟨q,by rw[show i-1=p+r by lia];exact h⟩
structure TPre(t:n5)(hs:List Int):Prop where
 msk:oE t.mask
 len:t.place.size=hs.length
 nod:t.dummies = #[]
 ris:t.place.toList.Pairwise (· < ·)
 rng:∀j∈t.place.toList,j<=t.mask
 path:∀(i:Nat) (h:Int) (j:Nat),hs[i]?=a7 h->t.place[i]?=a7 j->∃n,(sq t.mask h n).j=j/\∀n',n' < n->(sq t.mask h n').j∈t.place.toList
theorem put_pre(T:TOk t w)(h2:(sq t.mask h N).j∉t.place.toList)(u:∀k,k<N->(sq t.mask h k).j∈t.place.toList)(v:Bool):(t.put (sq t.mask h N).j).2<=w.length/\TPre { (t.put (sq t.mask h N).j).1 with plain:=v } (w.take (t.put (sq t.mask h N).j).2++h::w.drop (t.put (sq t.mask h N).j).2):=by
 obtain⟨e,r⟩:=AB T.ris h2;obtain⟨g,_,_⟩:=below_spec t.place T.ris (sq t.mask h N).j;have l:E1 t.place (sq t.mask h N).j<=w.length:=by rw[<-T.len];exact g
 refine⟨l,⟨T.msk,?_,?_,r,λj L=>?_,λi h' j d L=>?_⟩⟩;have:=p6 K8 e;rw[E2,A3,C3,F5,MI,E2]at this;show (t.put (sq t.mask h N).j).1.place.size=(w.take (E1 t.place (sq t.mask h N).j)++h::w.drop (E1 t.place (sq t.mask h N).j)).length;rw[this,A3,C3,F5,MI,T.len];show (if SetTable.has t.dummies (sq t.mask h N).j then SetTable.eraseAt t.dummies (E1 t.dummies (sq t.mask h N).j)else t.dummies) = #[];rw[T.nod];rfl;have a:j∈(t.put (sq t.mask h N).j).1.place.toList:=L;rw[e]at a;rcases D6.mp a with q|q;exact T.rng j<|P2 q;rcases A0.mp q with q|q;rw[q];exact Am h N;exact T.rng j<|List.mem_of_mem_drop q;have s:∀x,x∈t.place.toList->x∈(t.put (sq t.mask h N).j).1.place.toList:=λx m=>by rw[e];rw[<-List.take_append_drop (E1 t.place (sq t.mask h N).j) t.place.toList]at m;rcases D6.mp m with q|q;exact L5 _ q;exact F6 _<|A5 _ q
 have a:(t.put (sq t.mask h N).j).1.place.toList[i]?=a7 j:=by rw[G8];exact L
 rw[e]at a;have o:∀k,w[k]?=a7 h'->t.place[k]?=a7 j->∃n,(sq t.mask h' n).j=j/\∀f,f < n->(sq t.mask h' f).j∈(t.put (sq t.mask h N).j).1.place.toList:=λk B y=>by obtain⟨n,F,p⟩:=T.path k h' j B y;exact⟨n,F,λf c=>s _<|p f c⟩
 rcases qS (by rw[E2];exact g) a with⟨q,z⟩|⟨q,z⟩|⟨q,z⟩
 rcases qS l d with⟨b,G⟩|⟨b,G⟩|⟨b,G⟩
 exact o i G (by rw[<-G8];exact z);lia;lia;rcases qS l d with⟨b,G⟩|⟨b,G⟩|⟨b,G⟩
 lia;subst z G;exact⟨N,rfl,λf c=>s _<|u f c⟩;lia;rcases qS l d with⟨b,G⟩|⟨b,G⟩|⟨b,G⟩
 lia;lia;exact o (i-1) G<|by rw[<-G8];exact z
theorem TPre.ok(T:TPre t s)(h:t.tooFull=c5):TOk t s:=by refine⟨T.msk,T.len,T.nod,T.ris,T.rng,?_,T.path⟩;unfold SetTable.tooFull Qe at h;rw[T.nod]at h;simp at h;simpa using h
theorem TPre.anew(T:TPre t hs)(h:t.tooFull=a9)(M:(hs.length-1)*5<t.mask*3)(D:hs.length<=64):Rk (Oo hs.length)<=sizeLine/\∃t2 ord,t.relaid hs.toArray (Oo hs.length)=a7 (t2,ord)/\ord.toList.Perm (A9 hs.length)/\TOk t2 (ord.toList.map λi=>hs.getD i 0)/\t2.led=t.led:=by
 have u:hs.length*5 ≥ t.mask*3:=by unfold SetTable.tooFull Qe at h;rw[T.nod,T.len]at h;simpa using h
 have C:∃m,Rk (Oo hs.length)=m+1/\oE m/\hs.length<=m/\hs.length*5<m*3:=by
  rcases T.msk with e|e|e;have:hs.length=5:=by lia
  rw[this];exact⟨31,by decide +kernel,.inr<|.inl rfl,by decide,by decide⟩;have:hs.length=19:=by lia
  rw[this];exact⟨127,by decide +kernel,.inr<|.inr rfl,by decide,by decide⟩;lia
 obtain⟨m,e,g,H,f⟩:=C;refine⟨by rw[e,Mu];rcases g with rfl|rfl|rfl<;>lia,?_⟩;obtain⟨ow,B,L⟩:=Hk g hs H;unfold SetTable.relaid;rw[e,Nat.add_sub_cancel];unfold SetTable.laid;rw[B];refine⟨_,_,rfl,?_,?_,rfl⟩;show ((bN m ow).map (·.2)).toArray.toList.Perm _;simpa using tP L;have l:((bN m ow).map (·.1)).toArray.toList=(bN m ow).map (·.1):=by simp
 have K:((bN m ow).map (·.2)).toArray.toList=(bN m ow).map (·.2):=by simp
 have J:(bN m ow).length=hs.length:=by have:=(tP L).length_eq;simpa using this
 refine⟨g,?_,rfl,?_,λj d=>?_,?_,λi h' j E d=>?_⟩;show ((bN m ow).map (·.1)).toArray.size=(((bN m ow).map (·.2)).toArray.toList.map λi=>hs.getD i 0).length;simp;show ((bN m ow).map (·.1)).toArray.toList.Pairwise _;rw[l];exact tO m ow;have a:j∈((bN m ow).map (·.1)).toArray.toList:=d;rw[l]at a;obtain⟨⟨s,i⟩,o,rfl⟩:=v6.mp a;have:=(Ni.mp<|(fJ L).mp o).1;rw[L.sz]at this;show s<=m;lia;show ((bN m ow).map (·.1)).toArray.size*5<m*3;rw[z7,u6,J];exact f;have b:(((bN m ow).map (·.2)).map λi=>hs.getD i 0)[i]?=a7 h':=by rw[<-K];exact E
 have a:((bN m ow).map (·.1))[i]?=a7 j:=by rw[<-l,G8];exact d
 rw[Fn,C8]at b;rw[C8]at a;cases q:(bN m ow)[i]? with
 |none=>rw[q]at a;cases a
 |some p =>
  obtain⟨s,k⟩:=p;rw[q]at b a;have y:s=j:=A8 a;have A:hs.getD k 0=h':=A8 b;subst y;have c:=(fJ L).mp<|D2 q;have v:=L.lt s k c;have G:hs[k]?=a7 h':=by rw[w9 v];rw[<-A];simp[Od,v]
  obtain⟨n,F,x⟩:=L.path s k h' c G;refine⟨n,F,λw r=>?_⟩;obtain⟨I,z⟩:=x w r;show (sq m h' w).j∈((bN m ow).map (·.1)).toArray.toList;rw[l];exact v6.mpr ⟨(_,I),(fJ L).mpr z,rfl⟩
end Ht
namespace L2
open PySem PySem.Spec PyProof.Rows DL PySem.W
theorem wa:∀(n:Nat) (d:D),cS n d=a9->u5 M n d=a9
 | 0,d,h=>by cases d<;>first|rfl|cases h
 |n+1,d,h=>by
  cases d with
  |tup s=>have h':s.all (cS n)=a9:=h;show s.all (u5 M n)=a9;rw[E5]at h' ⊢;exact λx hx=>wa n x<|h' x hx
  |str x=>rfl
  |int i=>rfl
  |_=>cases h
theorem kY:∀(n:Nat) (x y:D),cS n x=a9->cS n y=a9->(t6 M n x y=a9↔x=y):=by
 intro n;induction n with
 |zero =>
  intro x y h1 h2;cases x with
  |str a =>
   cases y with
   |str b=>simp[t6]
   |int b=>simp[t6]
   |_=>cases h2
  |int a =>
   cases y with
   |str b=>simp[t6]
   |int b=>simp[t6]
   |_=>cases h2
  |_=>cases h1
 |succ n h =>
  have o:∀d s:List D,d.all (cS n)=a9->s.all (cS n)=a9->(C6 (t6 M n) d s=a9↔d=s):=by
   intro d;induction d with
   |nil=>intro s _ _;cases s<;>simp[C6]
   |cons x d i =>
    intro s F c;cases s with
    |nil=>simp[C6]
    |cons y s=>rw[Me,C9]at F c;show (t6 M n x y&&C6 (t6 M n) d s)=a9↔_;rw[C9,h x y F.1 c.1,i s F.2 c.2,Ou]
  intro x y h1 h2;cases x with
  |str a =>
   cases y with
   |str b=>simp[t6]
   |int b=>simp[t6]
   |tup s=>simp[t6]
   |_=>cases h2
  |int a =>
   cases y with
   |str b=>simp[t6]
   |int b=>simp[t6]
   |tup s=>simp[t6]
   |_=>cases h2
  |tup d =>
   cases y with
   |str b=>simp[t6]
   |int b=>simp[t6]
   |tup s=>rw[D.tup.injEq];exact o _ _ h1 h2
   |_=>cases h2
  |_=>cases h1
theorem Lp(sm:u9 X.K ρ M H):∀(n:Nat) (A:f6) (s:f7) (d:D) (v:V) (u:c6) (E:c6->f7->Prop) (Q:Int->f7->Prop),A.units+n<j9->r9 X pins σ H s->t9 X.K ρ H d v->aZ v u->cS n d=a9 ->(∀tk,Q (z9 X.w n d) { s with toks:=tk })->ge (i3 X.prog X.w) A (pyHash u) Q E s:=by
 intro n;induction n with
 |zero =>
  intro A s d v u E Q P I r f m h;cases r with
  |str x=>obtain⟨t,rfl⟩:=f;exact PL<|h _
  |int x=>obtain⟨t,rfl⟩:=f;exact PM<|h _
  |_=>cases m
 |succ n R =>
  intro A s d v u E Q P I r f m h;cases r with
  |str x=>obtain⟨t,rfl⟩:=f;exact PL<|h _
  |int x=>obtain⟨t,rfl⟩:=f;exact PM<|h _
  |@tup a vs ds O Y =>
   cases f;obtain⟨its,W,p,_⟩:=I.tuple O;obtain⟨o,B,L,nn,N⟩:=id p;have T:s.TypeIs (.ref a) "tuple":=⟨o,B,L⟩
   have y:ds.all (cS n)=a9:=m;unfold pyHash
   first|unfold pyHashByItsType|skip
   first|refine p8 (wpAny_cRoomFor_or (.inr<|by lia) ?_)|skip
   refine p8<|NK T F.slot_tuple_hash.lookup ?_;refine(show ge (i3 X.prog X.w) _ (if (a7 (Value.builtin "tuple.__hash__")==a7 Mo)=a9 then _ else _) Q E s from ?_);rw[o0<|by rw[beq_builtin_none];exact Nt];refine p8<|NK T F.slot_tuple_hash.lookup ?_;refine(show ge (i3 X.prog X.w) _ (callSpecialIfBoundUnlessNone? (.ref a) "__hash__" _ >>= _) Q E s from p8<|RY T F.slot_tuple_hash<|K1 F.slot_tuple_hash T F.entry_tuple_hash ?_<|F.args_tuple_hash_1 _);refine(show ge (i3 X.prog X.w) _ (QZ (.ref a) >>= _) _ _ s from p8<|wpAny_tupleItemsOf B N<|p8 ?_);rw[<-N5];refine NL _ (λbe (b:Array Int) s'=>∃done left q,ds=done++left/\Reps X.K ρ H left q/\aB q be/\b.toList=done.map (z9 X.w n)/\∃tk,s'={ s with toks:=tk }) _ ?_ ?_ _ _ ⟨[],ds,vs,rfl,Y,by simpa using W,rfl,s.toks,rfl⟩;rintro x be b s' ⟨done,left,q,e,h1,h2,k,tk,rfl⟩;cases h2 with
   |@cons Z _ i _ S G =>
    cases h1 with
    |@cons j _ c _ U J =>
     refine p8<|R _ _ j Z x _ _ (by show A.units+1+n<j9;lia) (I.tok tk) U S ?_ λg=>?_;have:=E5.mp y j (by rw[e];simp);exact this
     first
      |exact t4 ⟨done++[j],c,i,by rw[e];simp,J,G,by simp[k],g,rfl⟩
      |exact p8 (t4 (t4 ⟨done++[j],c,i,by rw[e];simp,J,G,by simp[k],g,rfl⟩))
   rintro b s' ⟨done,left,q,e,h1,h2,k,tk,rfl⟩;cases h2;cases h1;rw[G2]at e;subst e;refine(show ge (i3 X.prog X.w) _ (retInt<|OG b.toList) _ _ _ from ?_);rw[k];refine wpAny_ret_mkInt ?_;have l:z9 X.w (n+1) (.tup ds)=m5 (OG<|ds.map<|z9 X.w n):=rfl;generalize OG (ds.map<|z9 X.w n)=z at l;refine(show ge (i3 X.prog X.w) _ (if (decide (-(2:Int) ^ 63<=z)&&decide (z<2 ^ 63))=a9 then _ else _) Q E _ from ?_);unfold m5 at l;by_cases C:(decide (-(2:Int) ^ 63<=z)&&decide (z<2 ^ 63))=a9;rw[n9 C]at l ⊢;exact t4 (by rw[<-l];exact h _);rw[o0 C]at l ⊢;exact p8<|MQ<|t4<|by rw[<-l];exact h _
  |_=>cases m
theorem hbv_D(S:u9 X.K ρ M H):∀(n k:Nat) (A:f6) (s:f7) (d:D) (v:V) (u:c6) (E:c6->f7->Prop) (Q:Bool->f7->Prop),n<=k->r9 X pins σ H s->t9 X.K ρ H d v->aZ v u->cS n d=a9->(∀b,Q b s)->ge (i3 X.prog X.w) A (hashByValue k u) Q E s:=by
 intro n;induction n with
 |zero =>
  intro k A s d v u E Q q I r c e h;cases r with
  |str x=>obtain⟨t,rfl⟩:=c;cases k<;>exact t4<|h _
  |int x=>obtain⟨t,rfl⟩:=c;cases k<;>exact t4<|h _
  |_=>cases e
 |succ n G =>
  intro k A s d v u E Q q I r c e h;cases r with
  |str x=>obtain⟨t,rfl⟩:=c;cases k<;>exact t4<|h _
  |int x=>obtain⟨t,rfl⟩:=c;cases k<;>exact t4<|h _
  |@tup a vs ds z O =>
   cases c;obtain⟨k,rfl⟩:∃J,k=J+1:=⟨k-1,by lia⟩
   obtain⟨its,m,p,_⟩:=I.tuple z;obtain⟨o,B,j,R,l⟩:=id p;have T:s.TypeIs (.ref a) "tuple":=⟨o,B,j⟩
   have y:ds.all (cS n)=a9:=e;unfold hashByValue;refine p8<|NK T F.slot_tuple_hash.lookup ?_;dsimp only;refine p8<|Nd B l ?_;simp only[Option.getD_some];rw[<-N5];refine p8 ?_;refine NL _ (λbe r s'=>s'=s/\r.1=a8/\∃left f,(∀x∈left,cS n x=a9)/\Reps X.K ρ H left f/\aB f be) _ ?_ ?_ _ _ ⟨rfl,rfl,ds,vs,E5.mp y,O,by simpa using m⟩;rintro x be r s' ⟨rfl,i,left,f,g,h1,h2⟩;cases h2 with
   |cons L N =>
    cases h1 with
    |cons U P =>
     refine p8<|G k _ _ _ _ x _ _ (by lia) I U L (g _ C5) λb=>?_;cases b with
     |false=>exact t4<|t4<|h _
     |true=>exact t4 ⟨rfl,rfl,_,_,λx C=>g x<|A5 _ C,P,N⟩
   rintro⟨r1,m⟩ s' ⟨rfl,i,_⟩;simp only at i;subst i;exact t4<|h _
  |_=>cases e
theorem Aw(P:u9 X.K ρ M H):∀(n k:Nat) (A:f6) (s:f7) (d:D) (v:V) (u:c6) (E:c6->f7->Prop) (Q:Bool->f7->Prop),n<=k->r9 X pins σ H s->t9 X.K ρ H d v->aZ v u->cS n d=a9->Q a9 s->ge (i3 X.prog X.w) A (eqIsQuiet k u) Q E s:=by
 intro n;induction n with
 |zero =>
  intro k A s d v u E Q l I r b e h;cases r with
  |str x=>obtain⟨t,rfl⟩:=b;rw[N1 k (v:=.str x t) rfl];exact t4 h
  |int x=>obtain⟨t,rfl⟩:=b;rw[N1 k (v:=.int x t) rfl];exact t4 h
  |_=>cases e
 |succ n C =>
  intro k A s d v u E Q l I r b e h;cases r with
  |str x=>obtain⟨t,rfl⟩:=b;rw[N1 k (v:=.str x t) rfl];exact t4 h
  |int x=>obtain⟨t,rfl⟩:=b;rw[N1 k (v:=.int x t) rfl];exact t4 h
  |@tup a vs ds q N =>
   cases b;obtain⟨k,rfl⟩:∃G,k=G+1:=⟨k-1,by lia⟩
   obtain⟨its,m,p,_⟩:=I.tuple q;obtain⟨o,B,f,R,j⟩:=id p;have T:s.TypeIs (.ref a) "tuple":=⟨o,B,f⟩
   have y:ds.all (cS n)=a9:=e;unfold eqIsQuiet;refine p8<|NK T F.slot_tuple_eq.lookup ?_;refine(show ge (i3 X.prog X.w) A (isInstance (.ref a) (.type "tuple") >>= _) _ _ s from p8<|Ow T isSubtype_tuple_tuple ?_);simp only[Nl,B9,o8];refine p8<|Nd B j ?_;simp only[Option.getD_some];refine p8 ?_;rw[<-N5];refine NL _ (λbe r s'=>s'=s/\r.1=a8/\∃left c,(∀x∈left,cS n x=a9)/\Reps X.K ρ H left c/\aB c be) _ ?_ ?_ _ _ ⟨rfl,rfl,ds,vs,E5.mp y,N,by simpa using m⟩;rintro x be r s' ⟨rfl,i,left,c,g,h1,h2⟩;cases h2 with
   |cons J L =>
    cases h1 with
    |cons U O=>refine p8<|C k _ _ _ _ x _ _ (by lia) I U J (g _ C5) ?_;simp only[Nl,B9,o8];exact t4 ⟨rfl,rfl,_,_,λx z=>g x<|A5 _ z,O,L⟩
   rintro⟨r1,m⟩ s' ⟨rfl,i,_⟩;simp only at i;subst i;exact t4 h
  |_=>cases e
theorem LY(O:u9 X.K ρ M H):∀(n k:Nat) (A:f6) (s:f7) (d:D) (v:V) (u:c6) (E:c6->f7->Prop) (Q:Bool->f7->Prop),n<=k->r9 X pins σ H s->t9 X.K ρ H d v->aZ v u->cS n d=a9->Q c5 s->ge (i3 X.prog X.w) A (ofAClassStatement k u) Q E s:=by
 intro n;induction n with
 |zero =>
  intro k A s d v u E Q l I r b e h;cases r with
  |str x=>obtain⟨t,rfl⟩:=b;cases k<;>exact t4 h
  |int x=>obtain⟨t,rfl⟩:=b;cases k<;>exact t4 h
  |_=>cases e
 |succ n C =>
  intro k A s d v u E Q l I r b e h;cases r with
  |str x=>obtain⟨t,rfl⟩:=b;cases k<;>exact t4 h
  |int x=>obtain⟨t,rfl⟩:=b;cases k<;>exact t4 h
  |@tup a vs ds q L =>
   cases b;obtain⟨k,rfl⟩:∃F,k=F+1:=⟨k-1,by lia⟩
   obtain⟨its,m,p,_⟩:=I.tuple q;obtain⟨o,B,f,R,j⟩:=id p;have T:s.TypeIs (.ref a) "tuple":=⟨o,B,f⟩
   have y:ds.all (cS n)=a9:=e;unfold ofAClassStatement;refine p8<|MS T ?_;dsimp only;simp only[p7,p5];refine p8<|t4 ?_;simp only[Nl,B9,o8];refine p8<|Nd B j ?_;dsimp only;refine p8 ?_;rw[<-N5];refine NL _ (λbe r s'=>s'=s/\r.1=a8/\∃left c,(∀x∈left,cS n x=a9)/\Reps X.K ρ H left c/\aB c be) _ ?_ ?_ _ _ ⟨rfl,rfl,ds,vs,E5.mp y,L,by simpa using m⟩;rintro x be r s' ⟨rfl,i,left,c,g,h1,h2⟩;cases h2 with
   |cons G J =>
    cases h1 with
    |cons U N=>refine p8<|C k _ _ _ _ x _ _ (by lia) I U G (g _ C5) ?_;simp only[B9,o8];exact t4 ⟨rfl,rfl,_,_,λx z=>g x<|A5 _ z,N,J⟩
   rintro⟨r1,m⟩ s' ⟨rfl,i,_⟩;simp only at i;subst i;exact t4 h
  |_=>cases e
noncomputable def fY:D->Bool
 |.tup _=>a9
 |_=>c5
def D8(X:Cx)(ρ:List d5)(H:Hp)(n:Nat)(d:D)(e:Int×c6):Prop:=(∃v,t9 X.K ρ H d v/\aZ v e.2)/\e.1=z9 X.w n d/\cS n d=a9/\fY d=a9
structure KSet(X:Cx)(ρ:List d5)(H:Hp)(h:d7)(a:d5)(n:Nat)(ds:List D)(o:d6)(es:Array (Int×c6))(ep:Nat)(t:n5):Prop where
 ob:h.get? a=a7 o
 ex:o.ExactSet
 dt:o.data=.set es ep t
 en:Paired (D8 X ρ H n) ds es.toList
 nd:ds.Nodup
 tk:Ht.TOk t (es.toList.map (·.1))
 ld:t.led = !X.w.params.followText "set-order"
theorem eH{α β:Type}{R:α->β->Prop}:∀{s:List α}{a:List β}{i:Nat}{y:β},Paired R s a->a[i]?=a7 y->∃x,s[i]?=a7 x/\R x y
 |_,_,i,y,.nil,e=>by simp at e
 |_,_,0,y,.cons r _,e=>by simp at e;subst e;exact⟨_,rfl,r⟩
 |_,_,i+1,y,.cons _ t,e=>by obtain⟨x,h1,h2⟩:=eH (i:=i) t (by simpa using e);exact⟨x,by simpa using h1,h2⟩
theorem kc{α β:Type}{R:α->β->Prop}:∀{s:List α}{a:List β}{i:Nat}{x:α},Paired R s a->s[i]?=a7 x->∃y,a[i]?=a7 y/\R x y
 |_,_,i,y,.nil,e=>by simp at e
 |_,_,0,y,.cons r _,e=>by simp at e;subst e;exact⟨_,rfl,r⟩
 |_,_,i+1,y,.cons _ t,e=>by obtain⟨x,h1,h2⟩:=kc (i:=i) t (by simpa using e);exact⟨x,by simpa using h1,h2⟩
theorem KSet.fits(S:KSet X ρ H h a n d o e ep t):t.fits e.size=a9:=by
 have h1:=S.tk.len;have h2:=S.tk.few;rw[u6,E2]at h1;unfold OT;have b:t.fill=t.place.size:=by unfold Qe;rw[S.tk.nod];rfl
 rw[b];simp only[C9,o7,o5];lia
theorem CU(m:u9 X.K ρ M H)(I:r9 X p σ H s)(f:n<=8)(r:t9 X.K ρ H d v)(c:aZ v u)(e:cS n d=a9)(h:Q c5 s):∀(l:List c6),(∀y∈l,∃d' v',t9 X.K ρ H d' v'/\aZ v' y/\cS n d'=a9)->ge (i3 X.prog X.w) A (searchCouldBeSeen u l) Q E s:=by intro l g;unfold searchCouldBeSeen;refine p8 ?_;refine NL _ (λbe r s'=>s'=s/\r.1=a8/\∀y∈be,∃d' v',t9 X.K ρ H d' v'/\aZ v' y/\cS n d'=a9) _ ?_ ?_ _ _ ⟨rfl,rfl,g⟩;rintro y be r' s' ⟨rfl,i,O⟩;have t:∀z∈be,∃d' v',t9 X.K ρ H d' v'/\aZ v' z/\cS n d'=a9:=λz j=>O z<|A5 _ j;obtain⟨d',v',a,b,k⟩:=O y C5;dsimp only;refine Nn (λ_=>t4 ⟨rfl,rfl,t⟩) λ_=>?_;refine p8<|Aw m n 8 A _ d v u _ _ f I r c e ?_;simp only[Nl,B9,o8];refine p8<|Aw m n 8 A _ d' v' y _ _ f I a b k ?_;simp only[Nl,B9,o8];refine p8<|LY m n 8 A _ d v u _ _ f I r c e ?_;simp only[B9,o8];refine p8<|LY m n 8 A _ d' v' y _ _ f I a b k ?_;simp only[B9,o8];exact t4 ⟨rfl,rfl,t⟩;rintro⟨a,b⟩ s' ⟨rfl,i,_⟩;simp only at i;subst i;exact t4 h
theorem Dg(sm:u9 X.K ρ M H)(I:r9 X pins σ H s)(hn:n<=8)(hu:A.units+n<j9)(S:KSet X ρ H s.heap a n ds o es ep t)(r:t9 X.K ρ H d v)(rv:aZ v u)(F:cS n d=a9)(c:d∈ds->Q (.there a8) s) (bk:N<10*(t.mask+15)) (G:(Ht.sq t.mask (z9 X.w n d) N).j∉t.place.toList) (ai:∀k,k<N->(Ht.sq t.mask (z9 X.w n d) k).j∈t.place.toList)(J:d∉ds->Q (.free (Ht.sq t.mask (z9 X.w n d) N).j c5) s):∀(fuel m:Nat) (stand:Option NW),m<=N->N<m+fuel->stand.getD (t.probeStart<|z9 X.w n d)=Ht.sq t.mask (z9 X.w n d) m->(∀k i:Nat,k<m->t.place[i]?=a7 (Ht.sq t.mask (z9 X.w n d) k).j->ds[i]?≠a7 d) ->ge (i3 X.prog X.w) A (setSearchFrom a u (z9 X.w n d) a9 fuel stand) Q E s:=by
 intro fuel;induction fuel with
 |zero=>intro m stand h1 h2;lia
 |succ fuel ih =>
  intro m stand h1 h2 hs hb;unfold setSearchFrom;refine p8<|MV S.ob S.dt S.fits ?_;dsimp only;have gw:t.gaveWay=c5:=by unfold SetTable.gaveWay;rcases S.tk.msk with e|e|e<;>rw[e]<;>rfl
  rw[gw];simp only[B9,o8];rw[hs];rcases Ht.go_spec S.tk.ris S.tk.nod (λi=>(es[i]?.map (·.1)).getD 0) (z9 X.w n d) (10*OW t.mask) m N h1 (by unfold OW;lia) G (λk _ hk=>ai k hk) (Ht.sq_dummy _ _)with⟨z1,z2⟩|⟨m',i,a1,a2,a3,a4,a5,a6⟩
  generalize L:SetTable.probe t _ (z9 X.w n d) (Ht.sq t.mask (z9 X.w n d) m)=pr;obtain rfl:pr=_:=L.symm.trans z2;dsimp only;refine t4<|J λhd=>?_;obtain⟨i,hi⟩:=Ng hd;obtain⟨e,D,_,U,_⟩:=kc S.en hi;have g:es[i]?=a7 e:=by rw[<-G8];exact D
  have hh:(es.toList.map (·.1))[i]?=a7 (z9 X.w n d):=by rw[C8,D];exact p6 a7 U
  have hl:i<t.place.size:=by rw[S.tk.len];exact(x9.mp hh).1
  obtain⟨P,b1,b2⟩:=S.tk.path i _ t.place[i] hh<|G9 hl;have an:P<N:=by rcases OB P N with q|q|q;exact q;subst q;exact o4 (show (Ht.sq t.mask (z9 X.w n d) P).j∈t.place.toList by rw[b1];simp) G;exact o4 (b2 N q) G
  have p:t.place[i]?=a7 (Ht.sq t.mask (z9 X.w n d) P).j:=by rw[b1];exact G9 hl
  rcases Mv P m with q|q;exact hb P i q p hi;refine z1 P i q an p ?_;rw[g];exact U;generalize L:SetTable.probe t _ (z9 X.w n d) (Ht.sq t.mask (z9 X.w n d) m)=pr;obtain rfl:pr=_:=L.symm.trans a6;dsimp only;have al:i<es.size:=by have:=(Ni.mp a3).1;rw[S.tk.len,u6,E2]at this;exact this
  have l:es[i]?=a7 es[i]:=G9 al;obtain⟨x,hd0,⟨v0,r0,Y⟩,aS,O,as⟩:=eH S.en (i:=i) (y:=es[i]) (by rw[G8];exact l);have Z:∀(f:Bool->Sem SetFound),ge (i3 X.prog X.w) A (f c5) Q E s->ge (i3 X.prog X.w) A (searchCouldBeSeen u ((es.filter (·.1==z9 X.w n d)).toList.map (·.2)) >>= f) Q E s:=λf hf=>by
   refine p8<|CU sm I hn r rv F hf _ λy hy=>?_;obtain⟨e,D,rfl⟩:=v6.mp hy;have aj:e∈es.toList:=by
    have:e∈es.filter (·.1==z9 X.w n d):=by simpa using D
    simpa using(Array.mem_filter.mp this).1
   obtain⟨j,hj⟩:=Ng aj;obtain⟨d1,_,⟨v1,r1,aP⟩,_,aD,_⟩:=eH S.en hj;exact⟨d1,v1,r1,aP,aD⟩
  have B:∃b,es[i].2=G1 b:=by
   cases r0 with
   |tup _ _=>exact⟨_,Y⟩
   |_=>cases as
  obtain⟨b,B⟩:=B;have V:MG A s es[i].2 u (t6 M n x d):=(lR I sm n A x d v0 v es[i].2 u hu r0 Y r rv (wa n x O)<|wa n d F).1;refine Nn (λ_=>Z _ ?_) λ_=>?_;simp only[B9,o8];rw[l];dsimp only;refine p8<|D7<|V _ _ _ _<|p8<|MV S.ob S.dt S.fits ?_;dsimp only;by_cases C:t6 M n x d=a9;rw[C];simp only[Bool.and_self,p5];have:x=d:=(kY n x d O F).mp C;subst this;exact t4<|c<|D2 hd0;rw[My.mpr C];simp only[Qi,B9,o8];have T:t.sameMemory t.moves t.mask=a7 a9:=by unfold SetTable.sameMemory;simp
  rw[T];dsimp only;simp only[p5];rw[Ht.slot_live S.tk.ris a3];dsimp only;rw[l];have R:ge (i3 X.prog X.w) A (isSame es[i].2 es[i].2) (λb s'=>b=a9/\s'=s) E s:=by unfold isSame;rw[B];simp only[p7,p5];exact t4<|And.intro rfl rfl
  refine p8<|E9 R (λb s' ⟨e1,e2⟩=>?_) λ_ _ z=>z;subst e1 e2;refine p8<|t4 ?_;simp only[p5];refine ih (m'+1) _ (by lia) (by lia) rfl λk i' hk p h=>?_;rcases Mv k m with q|q;exact hb k i' q p h;rcases Mv k m' with W|W;refine a5 k i' q W p ?_;obtain⟨e,D,_,U,_⟩:=kc S.en h;have g:es[i']?=a7 e:=by rw[<-G8];exact D
  rw[g];exact U;have:k=m':=by lia
  subst this;have:i'=i:=by rw[<-Ht.below_at S.tk.ris p,Ht.below_at S.tk.ris a3]
  subst this;rw[hd0]at h;cases h;exact C<|(kY n d d F F).mpr rfl;rw[l];dsimp only;refine p8<|D7<|V _ _ _ _<|p8<|MV S.ob S.dt S.fits ?_;dsimp only;by_cases C:t6 M n x d=a9;rw[C];simp only[Bool.and_self,p5];have:x=d:=(kY n x d O F).mp C;subst this;exact t4<|c<|D2 hd0;rw[My.mpr C];simp only[Qi,B9,o8];have T:t.sameMemory t.moves t.mask=a7 a9:=by unfold SetTable.sameMemory;simp
  rw[T];dsimp only;simp only[p5];rw[Ht.slot_live S.tk.ris a3];dsimp only;rw[l];have R:ge (i3 X.prog X.w) A (isSame es[i].2 es[i].2) (λb s'=>b=a9/\s'=s) E s:=by unfold isSame;rw[B];simp only[p7,p5];exact t4<|And.intro rfl rfl
  refine p8<|E9 R (λb s' ⟨e1,e2⟩=>?_) λ_ _ z=>z;subst e1 e2;refine p8<|t4 ?_;simp only[p5];refine ih (m'+1) _ (by lia) (by lia) rfl λk i' hk p h=>?_;rcases Mv k m with q|q;exact hb k i' q p h;rcases Mv k m' with W|W;refine a5 k i' q W p ?_;obtain⟨e,D,_,U,_⟩:=kc S.en h;have g:es[i']?=a7 e:=by rw[<-G8];exact D
  rw[g];exact U;have:k=m':=by lia
  subst this;have:i'=i:=by rw[<-Ht.below_at S.tk.ris p,Ht.below_at S.tk.ris a3]
  subst this;rw[hd0]at h;cases h;exact C<|(kY n d d F F).mpr rfl
theorem Paired.ins{α β:Type}{R:α->β->Prop}{x:α}{y:β}(r:R x y):∀{s:List α}{a:List β} (p:Nat),Paired R s a->Paired R (s.take p++x::s.drop p) (a.take p++y::a.drop p)
 |_,_,0,h=>by simpa using .cons r h
 |_,_,p+1,.nil=>.cons r .nil
 |_,_,p+1,.cons h t=>.cons h<|Paired.ins r p t
theorem Paired.pick{α β:Type}{R:α->β->Prop}:∀{xs:List α}{s:List β} (is:List Nat),Paired R xs s->(∀i∈is,i<xs.length)->Paired R (is.filterMap (xs[·]?)) (is.filterMap (s[·]?))
 |_,_,[],_,_=>.nil
 |xs,s,i::is,h,hi=>by have hl:=hi i C5;have e:xs[i]?=a7 xs[i]:=w9 hl;obtain⟨y,hy,r⟩:=kc h e;rw[MJ,MJ,e,hy];exact .cons r<|Paired.pick is h λj hj=>hi j<|A5 _ hj
theorem pK{α:Type}{l:List α}{is:List Nat}(h:is.Perm (A9 l.length)):(is.filterMap (l[·]?)).Perm l:=by
 have:=h.filterMap (l[·]?)
 rwa [List.filterMap_getElem?_range_length]at this
section
variable{X:Cx}{pins:List (d5×d6)}{σ:St}{H:Hp}{ρ:List d5}{M:t8}{A:f6}{E:c6->f7->Prop}{s:f7}{a:d5}{n:Nat}{ds:List D}{o:d6}{es:Array (Int×c6)}{ep:Nat}{t:n5}
def KS(X:Cx)(ρ:List d5)(H:Hp)(h:d7)(a:d5)(n:Nat)(ds:List D):Prop:=∃o es i t,KSet X ρ H h a n ds o es i t
set_option maxHeartbeats 1000000 in
theorem add_D(sm:u9 X.K ρ M H)(I:r9 X pins σ H s)(hn:n<=8)(hu:A.units+n+1<j9)(S:KS X ρ H s.heap a n ds)(bl:ds.length+1<=64)(r:t9 X.K ρ H d v)(rv:aZ v u)(kd:cS n d=a9)(it:fY d=a9)(h:∀b h' tk ds',(∀c u,c≠a->s.heap.get? c=a7 u->h'.get? c=a7 u)->KS X ρ H h' a n ds'->(∀x,x∈ds'↔x∈ds\/x=d)->ds'.length<=ds.length+1->Q b { s with heap:=h',toks:=tk }):ge (i3 X.prog X.w) A (setAdd a u) Q E s:=by
 obtain⟨o,es,ep,t,S⟩:=S;obtain⟨P,rfl⟩:∃P,u=G1 P:=by
  cases r with
  |tup _ _=>exact⟨_,rv⟩
  |_=>cases it
 unfold setAdd;refine D7<|p8<|Lp sm n A s d v _ _ _ (by lia) I r rv kd λtk=>?_;unfold setAddHashed setAddHashedIn;refine D7<|p8<|MV (s:={ s with toks:=tk }) S.ob S.dt S.fits ?_;dsimp only;have bs:byScan (.ref P) es=c5:=rfl;rw[bs];simp only[B9,o8];obtain⟨N,ai,aj,al⟩:=S.tk.empty<|z9 X.w n d;have I1:r9 X pins σ H { s with toks:=tk }:=I.tok tk;unfold setSearch;refine p8<|Dg (s:={ s with toks:=tk }) sm I1 hn (by lia) S r rv kd (λhd=>?_) ai aj al (λhd=>?_) 100000 0 a8 (z5 _) ?_ rfl λk i hk=>o4 hk<|No _;exact t4<|h _ s.heap tk ds (λ_ _ _ e=>e) ⟨o,es,ep,t,S⟩ (λx=>⟨.inl,λz=>z.elim id λe=>e ▸ hd⟩)<|Of _;dsimp only;refine p8<|MV (s:={ s with toks:=tk }) S.ob S.dt S.fits ?_;dsimp only;have G:=S.tk.len;rw[u6,E2]at G;have dl:ds.length=es.size:=by have:=Paired.length S.en;simpa using this
 have D:∀L:Bool,ge (i3 X.prog X.w) A (do
   storeSet a (Qv es (t.put (Ht.sq t.mask (z9 X.w n d) N).j).2 (z9 X.w n d,G1 P)) { (t.put (Ht.sq t.mask (z9 X.w n d) N).j).1 with plain:=L }
   if (!c5&&({ (t.put (Ht.sq t.mask (z9 X.w n d) N).j).1 with plain:=L }:n5).tooFull)=a9 then do
     setRelay a (Oo<|es.size+1)
     pure a9
    else pure a9) Q E { s with toks:=tk }:=λL=>by
  obtain⟨pb,T⟩:=Ht.put_pre S.tk aj al L;have F:({ (t.put (Ht.sq t.mask (z9 X.w n d) N).j).1 with plain:=L }:n5).led=t.led:=rfl;have J:({ (t.put (Ht.sq t.mask (z9 X.w n d) N).j).1 with plain:=L }:n5).mask=t.mask:=rfl;generalize ({ (t.put (Ht.sq t.mask (z9 X.w n d) N).j).1 with plain:=L }:n5)=R at T F J;generalize (t.put (Ht.sq t.mask (z9 X.w n d) N).j).2=p at pb T;rw[u6,E2]at pb;have e1:(Qv es p (z9 X.w n d,G1 P)).toList=es.toList.take p++(z9 X.w n d,G1 P)::es.toList.drop p:=SetTable.toList_insertAt ..;generalize Qv es p (z9 X.w n d,G1 P)=f at e1;have aP:f.toList.map (·.1)=(es.toList.map (·.1)).take p++z9 X.w n d::(es.toList.map (·.1)).drop p:=by rw[e1,F0,C4,List.map_take,Pu]
  rw[<-aP]at T;have C:f.size=es.size+1:=by have:=p6 K8 e1;rw[E2,A3,C3,F5,MI,E2]at this;lia
  have Y:Paired (D8 X ρ H n) (ds.take p++d::ds.drop p) f.toList:=by rw[e1];exact Paired.ins ⟨⟨v,r,rv⟩,rfl,kd,it⟩ p S.en
  have U:(ds.take p++d::ds.drop p).Perm (d::ds):=by refine List.perm_middle.trans<|Qg d ?_;rw[List.take_append_drop]
  have an:(ds.take p++d::ds.drop p).Nodup:=U.nodup_iff.mpr<|MU.mpr ⟨hd,S.nd⟩;have Z:R.fits f.size=a9:=by
   have l1:=T.len;rw[u6,E2]at l1;have h3:R.fill=R.place.size:=by unfold Qe;rw[T.nod];rfl
   have fw:=S.tk.few;unfold OT;rw[h3];simp only[C9,o7,o5];rw[G]at fw;rcases S.tk.msk with e|e|e<;>rw[J,e]<;>rw[e]at fw<;>lia
  have zz:f.size<=sizeLine:=by rw[Mu];lia
  refine p8<|wpAny_storeSet_of (s:={ s with toks:=tk }) S.ob S.dt ?_ zz;have B:(s.heap.update a<|OP f R).get? a=a7 { o with data:=.set f (ep+1) R }:=by
   have q:=L1 (OP f R) S.ob<|by rw[putSet_of f R S.dt];rfl
   rwa [putSet_of f R S.dt]at q
  have as:∀c u,c≠a->s.heap.get? c=a7 u->(s.heap.update a<|OP f R).get? c=a7 u:=λc u hc e=>(Nx _ _<|B8 hc).trans e;by_cases tf:R.tooFull=a9;rw[tf];simp only[Bool.not_false,Bool.and_self,p5];have aD:((f.toList.map (·.1)).length-1)*5<R.mask*3:=by have fw:=S.tk.few;rw[G]at fw;rw[u6,E2,C,J];simpa using fw
  obtain⟨zl,W,m,g1,g2,T2,aS⟩:=T.anew tf aD (by rw[u6,E2];lia);rw[u6,E2]at g2 zl;have eg:Oo (es.size+1)=Oo (f.toList.map (·.1)).length:=by rw[u6,E2,C]
  unfold setRelay;refine p8<|p8<|MV (s:={ s with heap:=_,toks:=tk }) B rfl Z ?_;dsimp only;rw[eg];have nz:¬Rk (Oo (f.toList.map (·.1)).length) > sizeLine:=by rw[u6,E2];lia
  simp only[nz,o8];have ea:f.map (·.1)=(f.toList.map (·.1)).toArray:=by apply Array.ext';simp
  rw[ea,g1];have y:(m.filterMap (f[·]?)).toList=m.toList.filterMap (f.toList[·]?):=by rw[Array.toList_filterMap];congr 1;funext i;rw[G8]
  have V:(m.filterMap (f[·]?)).size=f.size:=by have:=(pK (l:=f.toList) (is:=m.toList)<|by rw[E2];exact g2).length_eq;rw[<-y,E2,E2]at this;exact this
  refine p8 (show ge (i3 X.prog X.w) A (if ((m.filterMap (f[·]?)).size != f.size)=a9 then _ else pure (m.filterMap (f[·]?),W)) _ _ _ from ?_);rw[o0<|by rw[V];simp];refine t4 ?_;generalize m.filterMap (f[·]?)=g at y V;have O:(m.toList.filterMap ((ds.take p++d::ds.drop p)[·]?)).Perm (ds.take p++d::ds.drop p):=pK (by
   have:(ds.take p++d::ds.drop p).length=f.size:=by rw[U.length_eq,C3,dl,C]
   rw[this];exact g2)
  refine wpAny_storeSet_of (s:={ s with heap:=_,toks:=tk }) B rfl ?_ (by rw[V];exact zz);have bk:((s.heap.update a<|OP f R).update a<|OP g W).get? a=a7 { o with data:=.set g (ep+1+1) W }:=by
   have q:=L1 (OP g W) B<|by rw[putSet_of g W (es:=f) (ep:=ep+1) (t:=R) rfl];rfl
   rwa [putSet_of g W (es:=f) (ep:=ep+1) (t:=R) rfl]at q
  refine t4 (h _ _ tk (m.toList.filterMap ((ds.take p++d::ds.drop p)[·]?)) (λc u hc e=>(Nx _ _<|B8 hc).trans<|as c u hc e) ⟨_,g,_,W,bk,S.ex,rfl,?_,O.nodup_iff.mpr an,?_,aS.trans<|F.trans S.ld⟩ (λx=>?_) ?_);rw[y];refine Paired.pick _ Y λi hi=>?_;have:=g2.mem_iff.mp hi;rw[G4]at this;rw[U.length_eq,C3,dl,<-C];exact this;have e2:g.toList.map (·.1)=m.toList.map λi=>(f.toList.map (·.1)).getD i 0:=by
   rw[y];have:∀(is:List Nat),(∀i∈is,i<f.toList.length)->(is.filterMap (f.toList[·]?)).map (·.1)=is.map λi=>(f.toList.map (·.1)).getD i 0:=by
    intro is;induction is with
    |nil=>intro _;rfl
    |cons i is ih=>intro hi;have hl:=hi i C5;rw[MJ,w9 hl,C4,C4,ih λj hj=>hi j<|A5 _ hj];congr 1;rw[G6,C8,w9 hl];rfl
   refine this _ λi hi=>?_;have:=g2.mem_iff.mp hi;rw[G4]at this;rw[E2];exact this
  rw[e2];exact T2;rw[O.mem_iff,U.mem_iff,A0];exact⟨λz=>z.symm,λz=>z.symm⟩;rw[O.length_eq,U.length_eq];exact u7 _;rw[My.mpr tf];simp only[Qi,B9,o8];refine t4<|h _ _ tk _ as ⟨_,f,_,R,B,S.ex,rfl,Y,an,T.ok<|My.mpr tf,F.trans S.ld⟩ (λx=>?_) ?_;rw[U.mem_iff,A0];exact⟨λz=>z.symm,λz=>z.symm⟩;rw[U.length_eq];exact u7 _
 refine Nn (λ_=>p8<|hbv_D sm n 8 A _ d v _ _ _ hn I1 r rv kd λb=>?_) λ_=>?_;cases b with
 |true=>exact D (t.put (Ht.sq t.mask (z9 X.w n d) N).j).1.plain
 |false=>exact D c5
 exact D (t.put (Ht.sq t.mask (z9 X.w n d) N).j).1.plain;have:=ai;rcases S.tk.msk with e|e|e<;>rw[e]at this<;>lia
end
theorem KS.at(x:KS X ρ H h a n d)(k:∀o,h.get? a=a7 o->h'.get? a=a7 o):KS X ρ H h' a n d:=by obtain⟨o,e,i,t,S⟩:=x;exact⟨o,e,i,t,k _ S.ob,S.ex,S.dt,S.en,S.nd,S.tk,S.ld⟩
theorem Hu(sm:u9 X.K ρ M H)(I:r9 X pins σ H s)(hn:n<=8)(hu:A.units+n+2<j9)(W:m7 X.prog X.w A.in1 J fp wr m P Sx)(S:d5)(f:S∉fp)(G:s.heap.get? S=a8) (B:∀b∈wr,s.heap.get? b=a8) (l:Nat->D) (y:∀i v,P i v->∃vv,t9 X.K ρ H (l i) vv/\aZ vv v/\cS n (l i)=a9/\fY (l i)=a9) (hb:m<=63):∀(k i:Nat) (h:d7) (tk:Nat) (ds:List D),m-i=k->i<=m->Sx i h->KS X ρ H h S n ds->(∀x,x∈ds↔∃j,j<i/\l j=x)->ds.length<=i->(∀b u,s.heap.get? b=a7 u->h.get? b=a7 u) ->(∀h' tk ds',(∀b u,s.heap.get? b=a7 u->h'.get? b=a7 u)->KS X ρ H h' S n ds'->(∀x,x∈ds'↔∃j,j<m/\l j=x)->ds'.length<=m->R (.ok<|.ret .none) { s with heap:=h',toks:=tk }) ->k5 (i3 X.prog X.w) A (.builtin "set.update.loop" ⟨[.ref S,.ref J],[]⟩) R { s with heap:=h,toks:=tk }:=by
 have g:S∉wr:=λh=>f<|W.sub _ h;intro k;induction k with
 |zero =>
  intro i h tk ds hk hi t E O U a Y;obtain rfl:i=m:=by lia
  refine Mp F.entry_set_update_loop ?_;rw[MW F.plain_set_update_loop _];refine(show ge (i3 X.prog X.w) A.in1 (j1 (.ref J) >>= _) _ _ _ from p8<|W.done _ _ _ t λh' tk d=>?_);refine t4<|Y h' tk ds (λb u e=>d b u (λz=>by rw[B b z]at e;cases e)<|a b u e) (E.at λo e=>d S o g e) O U
 |succ k ih=>intro i h tk ds hk hi t E O U a Y;refine Mp F.entry_set_update_loop ?_;rw[MW F.plain_set_update_loop _];refine(show ge (i3 X.prog X.w) A.in1 (j1 (.ref J) >>= _) _ _ _ from p8<|W.item i _ _ _ (by lia) t λv h' tk hP p d=>?_);obtain⟨vv,r,rv,kd,it⟩:=y i v hP;have c:∀b u,s.heap.get? b=a7 u->h'.get? b=a7 u:=λb u e=>d b u (λz=>by rw[B b z]at e;cases e)<|a b u e;have Z:r9 X pins σ H { s with heap:=h',toks:=tk }:=I.kept c;refine p8<|D7<|add_D (s:={ s with heap:=h',toks:=tk }) sm Z hn (by show A.units+1+n+1<j9;lia) (E.at λo e=>d S o g e) (by lia) r rv kd it λb h2 T C V L Q ai=>?_;refine t4 ⟨Mw F.plain_set_update_loop _,ih (i+1) h2 T C (by lia) (by lia) (W.frame _ h' h2 p λb' N o e=>V b' o (λz=>f<|z ▸ N) e) L (λx=>?_) (by lia) (λb u e=>V b u (λz=>by rw[z,G]at e;cases e)<|c b u e) Y⟩;rw[Q,O];constructor;rintro(⟨j,hj,e⟩|rfl);exact⟨j,by lia,e⟩;exact⟨i,by lia,rfl⟩;rintro⟨j,hj,rfl⟩;by_cases q:j=i;subst q;exact .inr rfl;exact .inl ⟨j,by lia,rfl⟩
theorem Ek(e:h.get? a=a7 (bv X.w)):KS X ρ H h a n []:=⟨_,#[],0,_,e,⟨rfl,rfl,rfl⟩,rfl,.nil,On,⟨.inl rfl,rfl,rfl,PR,λj L=>by simp[SetTable.fresh]at L,(by show 0*5<7*3;decide),λi h j b=>by simp at b⟩,rfl⟩
section
theorem HY(Z:u9 X.K ρ M H)(I:r9 X pins σ H s)(B:m<=8)(hu:A.units+m+3<j9){l:d5}{T:String}{n:Nat}{P:Nat->c6->Prop}{G:f7->Prop}(O:A.handled=a8)(K:TxSrc X.prog X.w s.heap l T n P)(a:Nat->D)(y:∀i v,P i v->∃vv,t9 X.K ρ H (a i) vv/\aZ vv v/\cS m (a i)=a9/\fY (a i)=a9)(N:n<=63)(h:∀h' tk ds,(∀b o,s.heap.get? b=a7 o->h'.get? b=a7 o)->KS X ρ H h' s.heap.objs.size m ds->(∀x,x∈ds↔∃j,j<n/\a j=x)->ds.length<=n->G { s with heap:=h',toks:=tk }):ge (i3 X.prog X.w) A (Builtin.«set.__init__» ⟨[.ref s.heap.objs.size,.ref l],[]⟩) (λfin s'=>fin=.done (.ret .none)/\G s') E { s with heap:=s.heap.push (bv X.w) }:=by
 have S:(s.heap.push<|bv X.w).get? s.heap.objs.size=a7 (bv X.w):=A1 _ rfl;have hT:NG { s with heap:=s.heap.push (bv X.w) } (.ref s.heap.objs.size) "set":=⟨_,S,rfl⟩
 obtain⟨F,f,r⟩:=K.obj;have c:(s.heap.push<|bv X.w).get? l=a7 F:=v5 _ f;have L:NG { s with heap:=s.heap.push (bv X.w) } (.ref l) T:=⟨F,c,r⟩
 have Y:l<s.heap.objs.size:=v9 f;have J:(s.heap.push<|bv X.w).objs.size=s.heap.objs.size+1:=Mx ..;obtain⟨oI,St,t,W,st⟩:=K.iter A.in1 { s with heap:=s.heap.push (bv X.w) } O λo e=>v5 _ e;have ns:=K.ns;have nf:=K.nf;have nd:=K.nd;unfold Builtin.«set.__init__» noKeywords Builtin.Frozenset.updateFrom;generalize d:j3=PI
 wp_walk
 subst d;refine wpAny_of_in1<|t _ _ ?_;have k:s.heap.objs.size∉[(s.heap.push<|bv X.w).objs.size,l]:=by rw[J];simp only[A0,PJ,or_false,not_or];exact⟨x6<|K0 _,OS Y⟩
 have g:s.heap.get? s.heap.objs.size=a8:=by
  cases q:s.heap.get? s.heap.objs.size with
  |none=>rfl
  |some o=>exact o4 (v9 q)<|D5 _
 have C:∀b∈[(s.heap.push<|bv X.w).objs.size],s.heap.get? b=a8:=λb p=>by
  rw[J6.mp p,J];cases q:s.heap.get? (s.heap.objs.size+1) with
  |none=>rfl
  |some o=>exact o4 (v9 q)<|M9.mpr<|Of _
 refine p8<|wpAny_runValue<|Hu (s:=s) Z I B (by first|exact(show A.units+m+2<j9 by lia)|exact(show A.units+1+m+2<j9 by lia)) W s.heap.objs.size k g C a y N n 0 _ _ [] rfl (z5 _) st (Ek<|v5 _ S) (λx=>by simp) (u7 _) (λb u e=>v5 _<|v5 _ e) λh' tk V Q z U R=>?_;exact t4<|t4 ⟨rfl,h h' tk V Q z U R⟩
set_option maxHeartbeats 1000000 in
theorem IM(C:u9 X.K ρ M H)(I:r9 X pins σ H s)(B:m<=8)(Z:A.units+m+20<j9){l:d5}{T:String}{n:Nat}{P:Nat->c6->Prop}{Q:c6->f7->Prop}(t:A.handled=a8)(K:TxSrc X.prog X.w s.heap l T n P)(a:Nat->D)(y:∀i v,P i v->∃vv,t9 X.K ρ H (a i) vv/\aZ vv v/\cS m (a i)=a9/\fY (a i)=a9)(p:n<=63)(h:∀h' tk ds,(∀b o,s.heap.get? b=a7 o->h'.get? b=a7 o)->KS X ρ H h' s.heap.objs.size m ds->(∀x,x∈ds↔∃j,j<n/\a j=x)->ds.length<=n->Q (.ref s.heap.objs.size) { s with heap:=h',toks:=tk }):ge (i3 X.prog X.w) A (call (.type "set") [.ref l]) Q E s:=by
 have O:=F.called_set.made;have W:=F.called_set.sub;have U:=F.called_set.notType;have L:=F.called_set.canCreate;have Y:=F.typeCall_set_1<|.ref l;obtain⟨c,tl,V⟩:=F.called_set.mro;refine wpAny_call<|codeAny_of_tree<|show ge _ _ (callAny (.type "set") _) _ _ _ from t4 ⟨Code.quiet_builtin _ (by decide +kernel),Mp F.entry_type_call ?_⟩;rw[Around.under_plain (weight_type_call_type "set" [.ref l] []) rfl]
 repeat (any_goals (first|assumption|wp_step))
 refine Og (wt (.ref l) (E:=E) (Q₁:=λobj s₁=>obj=.ref s.heap.objs.size/\s₁={ s with heap:=s.heap.push (bv X.w) }) ⟨rfl,rfl⟩) λr s₁ hr=>?_
 match r,hr with
 |.error e,hr=>exact hr
 |.ok (.ret obj),⟨e1,e2⟩ =>
  subst e1 e2;have S:(s.heap.push<|bv X.w).get? s.heap.objs.size=a7 (bv X.w):=A1 _ rfl;have k:NG { s with heap:=s.heap.push (bv X.w) } (.ref s.heap.objs.size) "set":=⟨_,S,rfl⟩
  have N:=F.called_set.init.lookup;have J:=F.called_set.init.bind<|.ref s.heap.objs.size
  repeat (any_goals (first|assumption|wp_step))
  refine Og (codeAny_call_builtin (R:=wants (λr s₂=>r=.none/\Q (.ref s.heap.objs.size) s₂) E) F.called_set.init.plain F.entry_set_init<|check_set_init_1 k ?_) λd s₂ hr₂=>?_;refine E9 (HY (G:=λu=>Q (.ref s.heap.objs.size) u) C I B (by first|(show A.units+1+1+1+m+3<j9;lia)|(show A.units+1+1+m+3<j9;lia)|(show A.units+1+m+3<j9;lia)) (by simp[t]) K a y p h) (λf s' ⟨e,g⟩=>?_) λ_ _ z=>z;subst e;exact⟨rfl,g⟩
  ·match d,hr₂ with
   |.error e,hr₂=>exact hr₂
   |.ok (.ret r),⟨e,q⟩ =>
    subst e
    repeat (any_goals (first|assumption|wp_step))
end
def SqAt(M:t8)(d:D)(x:List D):Prop:=(∃n,d=.ref n/\aA M n x)\/d=.tup x
theorem SrtOk.sub(h:SrtOk M b)(s:∀y∈ys,y∈b)(l:ys.length<64):SrtOk M ys:=by refine⟨l,λx a=>h.ok x<|s x a,λx a y O=>h.cm x (s x a) y<|s y O,?_⟩;rcases h.kd with k|k|k|k|k;exact .inl λx a=>k x<|s x a;exact .inr<|.inl λx a=>k x<|s x a;exact .inr<|.inr<|.inl λx a=>k x<|s x a;exact .inr<|.inr<|.inr<|.inl λx a=>k x<|s x a;exact .inr<|.inr<|.inr<|.inr λx a=>k x<|s x a
theorem Jx(I:r9 X l σ H s)(e:u9 X.K ρ M H)(r:t9 X.K ρ H d v)(b:aZ v u)(t:SqAt M d x):∃(a:d5) (T:String) (g:Array c6) (j:List V),u=.ref a/\TxSrc X.prog X.w s.heap a T g.size (λi v=>g[i]?=a7 v)/\Reps X.K ρ H x j/\aB j g.toList:=by
 rcases t with⟨n,rfl,h⟩|rfl;cases r with
 |@ref _ a c=>cases b;obtain⟨j,k,f⟩:=h.seq e c;obtain⟨g,m,p,_⟩:=I.list k;exact⟨a,_,g.toArray,j,rfl,TxSrc.list p.isList,f,by simpa using m⟩
 cases r with
 |@tup a j _ k f=>cases b;obtain⟨g,m,p,_⟩:=I.tuple k;exact⟨a,_,g.toArray,j,rfl,TxSrc.tuple p,f,by simpa using m⟩
theorem gD{X:Cx}:∀{c:List D}{f:List V}{s:List c6}{i:Nat}{u:c6}{ρ:List d5}{H:Hp},Reps X.K ρ H c f->aB f s->s[i]?=a7 u->∃d v,c[i]?=a7 d/\t9 X.K ρ H d v/\aZ v u
 |_,_,_,i,u,_,_,.nil,h,e=>by cases h;simp at e
 |_,_,_,0,u,_,_,.cons r _,h,e=>by
  cases h with
  |cons a _=>simp at e;subst e;exact⟨_,_,rfl,r,a⟩
 |_,_,_,i+1,u,_,_,.cons _ t,h,e=>by
  cases h with
  |cons _ b=>obtain⟨d,v,e1,r,rv⟩:=gD (i:=i) t b (by simpa using e);exact⟨d,v,by simpa using e1,r,rv⟩
theorem ents:∀{d:List D}{e:List (Int×c6)},Paired (D8 X ρ H n) d e->∃s,Reps X.K ρ H d s/\aB s (e.map (·.2))
 |_,_,.nil=>⟨[],.nil,.nil⟩
 |_,_,.cons ⟨⟨v,r,rv⟩,_⟩ t=>by obtain⟨s,a,b⟩:=ents t;exact⟨v::s,.cons r a,.cons rv b⟩
theorem AF{X:Cx}(p:us'.Perm u):∀{s:List D}{q:List V},Reps X.K ρ H s q->aB q u->∃ds' vs',ds'.Perm s/\Reps X.K ρ H ds' vs'/\aB vs' us':=by
 induction p with
 |nil=>intro s q r h;exact⟨s,q,.refl _,r,h⟩
 |cons x _ o =>
  intro s q r h;cases h with
  |cons a b =>
   cases r with
   |cons c d=>obtain⟨ds',vs',h1,h2,e⟩:=o d b;exact⟨_,_,h1.cons _,.cons c h2,.cons a e⟩
 |swap x y l =>
  intro s q r h;cases h with
  |cons a b =>
   cases b with
   |cons g j =>
    cases r with
    |cons c d =>
     cases d with
     |cons k m=>exact⟨_,_,.swap _ _ _,.cons k<|.cons c m,.cons g<|.cons a j⟩
 |trans _ _ i f=>intro s q r h;obtain⟨ds',vs',h1,h2,e⟩:=f r h;obtain⟨C,v,g1,n,g3⟩:=i h2 e;exact⟨C,v,g1.trans h1,n,g3⟩
def ko(te:v8):v8:=λS M Q=>te S M λd a=>∃n s,n<=8/\SqAt a d s/\s.length<64/\(∀x∈s,cS n x=a9/\fY x=a9)/\SrtOk a s/\∀y:List D,y.Nodup->(∀x,x∈y↔x∈s)->FT a y->Q (.ref a.length) (a++[.lst y])
section
set_option maxHeartbeats 1000000 in
theorem ze(hr:Room k X.A)(hc:X.calm=a9)(he:DE X e te)(Y:X.mg "sorted" = a8)(Z:X.mg "set" = a8)(U:X.env.kindOf "sorted" = a7 .globalImplicit)(V:X.env.kindOf "set" = a7 .globalImplicit)(h1:i5 [e] X.env=[(c5,eval e X.env)]) (h2:i5 [NT (.Name "set" p') [e] [] pos'] X.env=[(c5,eval (NT (.Name "set" p') [e] [] pos') X.env)]):DE X (.Call (.Name "sorted" p) [.Call (.Name "set" p') [e] [] pos'] [] pos) (ko te):=by
 rintro pins s σ H R I ⟨S,M,ρ,Q,sm,sr,q,kk⟩;refine OC<|lP I U Y (by rfl) ?_;refine callWith_builtin1 ?_ (by rw[h2];rfl) rfl;rw[h2];refine QH ?_;refine OC<|lP I V Z (by rfl) ?_;refine callWith_type1 ?_ (by rw[h1];rfl) rfl;rw[h1];refine QH<|v4 (he pins s σ H _ I ⟨S,M,ρ,_,sm,sr,q,λv H' z=>z⟩) ?_;rintro u s1 ⟨v,H1,B,rv,d,M1,bs,c,g1,r1,cases⟩;refine QA ?_;obtain⟨n,xs,n8,sq,hl,hk,so,J⟩:=cases;obtain⟨a,T,its,ws,rfl,src,w,vx⟩:=Jx B c r1 rv sq;have li:its.size=xs.length:=by have h1:=vx.length;have h2:=w.length;simp at h1;lia
 have un:=hr.un;refine IM c B n8 (by lia) (B.ok.hd hc) src (λi=>xs.getD i .non) (λi v e=>?_) (by lia) λh2 f ds k2 l W aS=>?_;obtain⟨d,vv,e1,r,rv⟩:=gD w vx (by rw[G8];exact e);have G:xs.getD i .non=d:=by rw[G6,e1];rfl
 have:=hk d<|D2 e1;exact⟨vv,by rw[G];exact r,rv,by rw[G];exact this.1,by rw[G];exact this.2⟩;refine QA ?_;have E:=B.kept (t':=f) k2;obtain⟨o,es,ep,t,K⟩:=l;have bk:ds.length=es.size:=by have:=K.en.length;simpa using this
 have hz:es.size<=sizeLine:=by rw[Mu];lia
 refine yt (s:={ s1 with heap:=h2,toks:=f }) (E.ok.hd hc) ⟨K.ob,K.dt,K.fits⟩ K.ex.1 (λz=>.inr K.tk.ris) K.ld hz λh3 bl dr D vs k3 N O pv=>?_;have h:∀x,x∈ds↔x∈xs:=λx=>by
  rw[W x,li];constructor;rintro⟨j,L,rfl⟩;have e:xs.getD j .non=xs[j]:=by simp[Od,L]
  rw[e];exact Mg L;intro hx;obtain⟨j,L,e⟩:=P0 hx;exact⟨j,L,by rw[show xs.getD j .non=xs[j] by simp[Od,L]];exact e⟩
 obtain⟨bo,al,as⟩:=ents K.en;obtain⟨ds',bm,C,an,aD⟩:=AF pv al as;obtain⟨m,hn,_⟩:=E.loc;have P:D≠X.env.locals:=λz=>by obtain⟨oL,_,_,hL,_⟩:=hn;rw[z]at N;rw[N]at hL;cases hL
 have ai:h3.Ns X.env.locals m:=hn.at' λo e=>k3 _ _ e;refine Ap (X:=X) (pins:=pins) (σ:=σ) (s:={ s1 with heap:=h2,toks:=f,drawn:=dr }) (n:=0) hr (by show X.A.units+1<=X.A.units+4;lia) E.drew c (so.sub (ys:=ds') (λy hy=>(h y).mp<|C.mem_iff.mp hy)<|by rw[C.length_eq];lia).g an aD hn ai (λb u _ e=>k3 b u e) N P O λv H' x=>?_;refine kk v H' ?_;have:=x (λd F=>Q d F) λys hp aj=>?_;obtain⟨d,F,aP,a1,a2,a3,a4⟩:=this;exact⟨d,F,aP,a1,g1.trans a2,a3,a4⟩;exact J ys ((hp.trans C).nodup_iff.mpr K.nd) (λx=>((hp.trans C).mem_iff).trans<|h x) aj
theorem yT(r:Room k X.A)(i:HE X e te)(Y:X.mg "sorted" = a8)(Q:X.mg "set" = a8)(f:X.calm=a9:=by kernel_rfl)(U:X.env.kindOf "sorted" = a7 .globalImplicit:=by kernel_rfl)(V:X.env.kindOf "set" = a7 .globalImplicit:=by kernel_rfl)(h1:i5 [e] X.env=[(c5,eval e X.env)]:=by kernel_rfl) (h2:i5 [NT (.Name "set" p') [e] [] pos'] X.env=[(c5,eval (NT (.Name "set" p') [e] [] pos') X.env)]:=by kernel_rfl):HE X (.Call (.Name "sorted" p) [.Call (.Name "set" p') [e] [] pos'] [] pos) (ko te):=⟨ze r f i.ok Y Q U V h1 h2⟩
end
def hZ(h:d7):Nat->D->c6->Prop
 |_,.str x,v=>∃t,v=.str x t
 |_,.int i,v=>∃t,v=.int i t
 |n+1,.tup d,v=>∃a s,v=.ref a/\h.IsTuple a s/\Paired (hZ h n) d s.toList
 |_,_,_=>False
noncomputable def O9:Nat->D->Nat
 |n+1,.tup d=>(d.map<|O9 n).sum+1
 |_,_=>1
theorem ki:∀(n:Nat) (d:D) (v:c6),hZ h n d v->cS n d=a9:=by
 intro n;induction n with
 |zero=>intro d v k;cases d<;>first|rfl|exact k.elim
 |succ n b =>
  intro d v k;cases d with
  |str x=>rfl
  |int x=>rfl
  |tup c =>
   obtain⟨a,s,_,_,p⟩:=k;show c.all (cS n)=a9;generalize s.toList=l at p;induction p with
   |nil=>rfl
   |cons r _ i=>rw[Me,b _ _ r,i];rfl
  |_=>exact k.elim
theorem we{h:d7}{a:d5}{x y:Array c6}(h1:h.IsTuple a x)(h2:h.IsTuple a y):x=y:=by obtain⟨o,t,_,n,d⟩:=h1;obtain⟨o',l,_,f,b⟩:=h2;obtain rfl:o=o':=A8<|t.symm.trans l;rw[d]at b;injection b
theorem ua{h:d7}:∀(n:Nat) (x y:D) (v:c6),hZ h n x v->hZ h n y v->x=y:=by
 intro n;induction n with
 |zero =>
  intro x y v G B;cases x with
  |str a =>
   obtain⟨t,rfl⟩:=G;cases y with
   |str b=>obtain⟨t',e⟩:=B;injection e with e;rw[e]
   |int b=>obtain⟨t',e⟩:=B;cases e
   |_=>exact B.elim
  |int a =>
   obtain⟨t,rfl⟩:=G;cases y with
   |str b=>obtain⟨t',e⟩:=B;cases e
   |int b=>obtain⟨t',e⟩:=B;injection e with e;rw[e]
   |_=>exact B.elim
  |_=>exact G.elim
 |succ n d =>
  intro x y v G B;cases x with
  |str a =>
   obtain⟨t,rfl⟩:=G;cases y with
   |str b=>obtain⟨t',e⟩:=B;injection e with e;rw[e]
   |int b=>obtain⟨t',e⟩:=B;cases e
   |tup b=>obtain⟨_,_,e,_⟩:=B;cases e
   |_=>exact B.elim
  |int a =>
   obtain⟨t,rfl⟩:=G;cases y with
   |str b=>obtain⟨t',e⟩:=B;cases e
   |int b=>obtain⟨t',e⟩:=B;injection e with e;rw[e]
   |tup b=>obtain⟨_,_,e,_⟩:=B;cases e
   |_=>exact B.elim
  |tup k =>
   obtain⟨a,s,rfl,R,g⟩:=G;cases y with
   |str b=>obtain⟨t',e⟩:=B;cases e
   |int b=>obtain⟨t',e⟩:=B;cases e
   |tup f =>
    obtain⟨_,i,e,S,j⟩:=B;cases e;obtain rfl:=we R S;congr 1;generalize s.toList=l at g j;induction g generalizing f with
    |nil=>cases j;rfl
    |cons r _ c=>cases j with
     |cons r' t'=>rw[d _ _ _ r r',c _ t']
   |_=>exact B.elim
  |_=>exact G.elim
theorem yR(k:∀a s,h.IsTuple a s->h'.IsTuple a s):∀(n:Nat) (d:D) (v:c6),hZ h n d v->hZ h' n d v:=by
 intro n;induction n with
 |zero=>intro d v q;cases d<;>first|exact q|exact q.elim
 |succ n i =>
  intro d v q;cases d with
  |str x=>exact q
  |int x=>exact q
  |tup b=>obtain⟨a,s,e,t,p⟩:=q;exact⟨a,s,e,k _ _ t,Paired.mapP p λx y r=>i x y r⟩
  |_=>exact q.elim
theorem wc{g ep}(q:hZ h n k v)(B:h.get? d=a7 o)(f:o.data=.dict g ep)(s:Nb d h h'):hZ h' n k v:=by
 refine yR (λa i ⟨o',e,c,m,t⟩=>?_) n k v q;have b:a≠d:=by rintro rfl;obtain rfl:o'=o:=A8<|e.symm.trans B;rw[f]at t;cases t
 exact⟨o',(s.2 a b).trans e,c,m,t⟩
theorem yS:∀(n:Nat) (A:f6) (s:f7) (d:D) (u:c6) (E:c6->f7->Prop) (Q:Int->f7->Prop),A.units+n<j9->hZ s.heap n d u ->Q (z9 w n d) { s with toks:=s.toks+O9 n d }->ge (i3 v w) A (pyHash u) Q E s:=by
 intro n;induction n with
 |zero =>
  intro A s d u E Q q k h;cases d with
  |str x=>obtain⟨t,rfl⟩:=k;exact PL h
  |int x=>obtain⟨t,rfl⟩:=k;exact PM h
  |_=>exact k.elim
 |succ n r =>
  intro A s d u E Q q k h;cases d with
  |str x=>obtain⟨t,rfl⟩:=k;exact PL h
  |int x=>obtain⟨t,rfl⟩:=k;exact PM h
  |tup ds =>
   obtain⟨a,y,rfl,⟨o,B,j,R,m⟩,p⟩:=k;have T:s.TypeIs (.ref a) "tuple":=⟨o,B,j⟩
   unfold pyHash
   first|unfold pyHashByItsType|skip
   first|refine p8 (wpAny_cRoomFor_or (.inr<|by lia) ?_)|skip
   refine p8<|NK T F.slot_tuple_hash.lookup ?_;refine(show ge (i3 v w) _ (if (a7 (Value.builtin "tuple.__hash__")==a7 Mo)=a9 then _ else _) Q E s from ?_);rw[o0<|by rw[beq_builtin_none];exact Nt];refine p8<|NK T F.slot_tuple_hash.lookup ?_;refine(show ge (i3 v w) _ (callSpecialIfBoundUnlessNone? (.ref a) "__hash__" _ >>= _) Q E s from p8<|RY T F.slot_tuple_hash<|K1 F.slot_tuple_hash T F.entry_tuple_hash ?_<|F.args_tuple_hash_1 _);refine(show ge (i3 v w) _ (QZ (.ref a) >>= _) _ _ s from p8<|wpAny_tupleItemsOf B m<|p8 ?_);rw[<-N5];refine NL _ (λbe (b:Array Int) s'=>∃done left,ds=done++left/\Paired (hZ s.heap n) left be/\b.toList=done.map (z9 w n)/\s'={ s with toks:=s.toks+(done.map<|O9 n).sum }) _ ?_ ?_ _ _ ⟨[],ds,rfl,p,rfl,rfl⟩;rintro x be b s' ⟨done,left,e,h1,f,rfl⟩;cases h1 with
   |@cons g _ c _ U J =>
    refine p8<|r _ _ g x _ _ (by show A.units+1+n<j9;lia) U ?_
    first
     |exact t4 ⟨done++[g],c,by rw[e];simp,J,by simp[f],by simp[Nat.add_assoc]⟩
     |exact p8 (t4 (t4 ⟨done++[g],c,by rw[e];simp,J,by simp[f],by simp[Nat.add_assoc]⟩))
   rintro b s' ⟨done,left,e,h1,f,rfl⟩;cases h1;rw[G2]at e;subst e;refine(show ge (i3 v w) _ (retInt<|OG b.toList) _ _ _ from ?_);rw[f];refine wpAny_ret_mkInt ?_;have l:z9 w (n+1) (.tup ds)=m5 (OG<|ds.map<|z9 w n):=rfl;have h':Q (z9 w (n+1)<|.tup ds) { s with toks:=s.toks+(ds.map<|O9 n).sum+1 }:=h;generalize OG (ds.map<|z9 w n)=z at l;refine(show ge (i3 v w) _ (if (decide (-(2:Int) ^ 63<=z)&&decide (z<2 ^ 63))=a9 then _ else _) Q E _ from ?_);unfold m5 at l;by_cases i:(decide (-(2:Int) ^ 63<=z)&&decide (z<2 ^ 63))=a9;rw[n9 i]at l ⊢;exact t4 (by rw[<-l];exact h');rw[o0 i]at l ⊢;exact p8<|MQ<|t4<|by rw[<-l];exact h'
  |_=>exact k.elim
theorem wb:∀(n k:Nat) (A:f6) (s:f7) (d:D) (u:c6) (E:c6->f7->Prop) (Q:Bool->f7->Prop),n<=k->hZ s.heap n d u->Q a9 s->ge (i3 g w) A (eqIsQuiet k u) Q E s:=by
 intro n;induction n with
 |zero =>
  intro k A s d u E Q c q h;cases d with
  |str x=>obtain⟨t,rfl⟩:=q;rw[N1 k (v:=.str x t) rfl];exact t4 h
  |int x=>obtain⟨t,rfl⟩:=q;rw[N1 k (v:=.int x t) rfl];exact t4 h
  |_=>exact q.elim
 |succ n e =>
  intro k A s d u E Q c q h;cases d with
  |str x=>obtain⟨t,rfl⟩:=q;rw[N1 k (v:=.str x t) rfl];exact t4 h
  |int x=>obtain⟨t,rfl⟩:=q;rw[N1 k (v:=.int x t) rfl];exact t4 h
  |tup l =>
   obtain⟨a,j,rfl,⟨o,B,f,R,b⟩,p⟩:=q;obtain⟨k,rfl⟩:∃H,k=H+1:=⟨k-1,by lia⟩
   have T:s.TypeIs (.ref a) "tuple":=⟨o,B,f⟩
   unfold eqIsQuiet;refine p8<|NK T F.slot_tuple_eq.lookup ?_;refine(show ge (i3 g w) A (isInstance (.ref a) (.type "tuple") >>= _) _ _ s from p8<|Ow T isSubtype_tuple_tuple ?_);simp only[Nl,B9,o8];refine p8<|Nd B b ?_;simp only[Option.getD_some];refine p8 ?_;refine(show ge (i3 g w) A (forIn j _ _) _ _ s from ?_);rw[<-N5];refine NL _ (λbe r s'=>r.1=a8/\s'=s/\∃left,Paired (hZ s.heap n) left be) _ ?_ ?_ _ _ ⟨rfl,rfl,l,p⟩;rintro x be r s' ⟨i,rfl,left,h1⟩;cases h1 with
   |cons U J=>refine p8<|e k _ _ _ x _ _ (by lia) U ?_;simp only[Nl,B9,o8];exact t4 ⟨rfl,rfl,_,J⟩
   rintro⟨r1,r2⟩ s' ⟨i,rfl,_⟩;simp only at i;subst i;exact t4 h
  |_=>exact q.elim
theorem lQ{h:d7}{n:Nat}{d:List D}{s:Array c6}(p:Paired (hZ h n) d s.toList):d.length=s.size:=by
 rw[<-E2];generalize s.toList=l at p;induction p with
 |nil=>rfl
 |cons _ _ i=>rw[C3,C3,i]
theorem Ep:∀(n:Nat) (A:f6) (s:f7) (x y:D) (u v:c6),A.units+n<j9->hZ s.heap n x u->hZ s.heap n y v->MG A s u v (t6 [] n x y):=by
 intro n;induction n with
 |zero =>
  intro A s x y u v w G B;cases x with
  |str a =>
   obtain⟨t,rfl⟩:=G;cases y with
   |str b=>obtain⟨t',rfl⟩:=B;exact QF _ _ _ _
   |int b=>obtain⟨t',rfl⟩:=B;exact PU _ _ _ _
   |_=>exact B.elim
  |int a =>
   obtain⟨t,rfl⟩:=G;cases y with
   |str b=>obtain⟨t',rfl⟩:=B;exact PY _ _ _ _
   |int b=>obtain⟨t',rfl⟩:=B;exact QG _ _ _ _
   |_=>exact B.elim
  |_=>exact G.elim
 |succ n z =>
  intro A s x y u v w G B;have c:A.units<j9:=by lia
  have h:A.in1.units+n<j9:=by show A.units+1+n<j9;lia
  cases x with
  |str a =>
   obtain⟨t,rfl⟩:=G;cases y with
   |str b=>obtain⟨t',rfl⟩:=B;exact QF _ _ _ _
   |int b=>obtain⟨t',rfl⟩:=B;exact PU _ _ _ _
   |tup b=>obtain⟨_,_,rfl,p,_⟩:=B;exact SeqAt.EqAt.str_tuple _ _ p c
   |_=>exact B.elim
  |int a =>
   obtain⟨t,rfl⟩:=G;cases y with
   |str b=>obtain⟨t',rfl⟩:=B;exact PY _ _ _ _
   |int b=>obtain⟨t',rfl⟩:=B;exact QG _ _ _ _
   |tup b=>obtain⟨_,_,rfl,p,_⟩:=B;exact SeqAt.EqAt.int_tuple _ _ p c
   |_=>exact B.elim
  |tup xs =>
   obtain⟨a,its,rfl,p,f⟩:=id G;cases y with
   |str b=>obtain⟨t',rfl⟩:=B;exact SeqAt.EqAt.tuple_str _ _ p c
   |int b=>obtain⟨t',rfl⟩:=B;exact SeqAt.EqAt.tuple_int _ _ p c
   |tup ys =>
    obtain⟨b,d,rfl,N,k⟩:=id B;by_cases T:a=b;subst T;have e:=ua (n+1) _ _ _ G B;rw[e,(kY (M:=[]) (n+1) _ _ (ki _ _ _ B)<|ki _ _ _ B).mpr rfl];exact Qk _;have R:=lQ f;have C:=lQ k;have items:∀(j:Nat) (h1:j<its.size) (h2:j<d.size),MG A.in1 s its[j] d[j] (t6 [] n (xs.getD j .non)<|ys.getD j .non):=λj h1 h2=>by
     obtain⟨o,q,E⟩:=eH f (i:=j) (y:=its[j]) (by rw[G8];exact G9 h1);obtain⟨m,r,F⟩:=eH k (i:=j) (y:=d[j]) (by rw[G8];exact G9 h2);have H:xs.getD j .non=o:=by rw[G6,q];rfl
     have I:ys.getD j .non=m:=by rw[G6,r];rfl
     rw[H,I];exact z A.in1 s o m _ _ h E F
    have l:((A9<|min its.size d.size).all (λj=>t6 [] n (xs.getD j .non)<|ys.getD j .non)&&its.size==d.size)=C6 (t6 [] n) xs ys:=by
     by_cases g:xs.length=ys.length;have Y:(A9 xs.length).all (λj=>t6 [] n (xs.getD j .non)<|ys.getD j .non)=C6 (t6 [] n) xs ys:=nQ g λj x y h1 h2=>by simp[Od,h1,h2]
     rw[<-R,<-C,<-g,Nat.min_self,Y];simp;rw[Cd g,<-R,<-C];simp[g]
    have h1:=SeqAt.RcAt.tuples p N c items;rw[l]at h1;exact SeqAt.EqAt.of_refs T h1
   |_=>exact B.elim
  |_=>exact G.elim
noncomputable instance decD:DecidableEq D:=λa b=>F9<|a=b
noncomputable def bZ(p:c9)(w:c8):HeapKind p w D where
 is:=λh d a=>hZ h 8 d<|.ref a
 hash:=z9 w 8
 draws:=O9 8
 room:=λA=>A.units+8<j9
 inj:=λx y=>ua 8 _ _ _ x y
 keeps:=λx B c f=>wc x B c f
 pyHash:=λg k h=>yS 8 _ _ _ _ _ _ g k h
 eqBool:=λ{A E s x y a b Q} g k1 k2 h=>by
  refine Ep 8 A s x y _ _ g k1 k2 _ _ _ _ ?_;have e:t6 [] 8 x y=decide (x=y):=by rw[NZ,kY 8 x y (ki _ _ _ k1)<|ki _ _ _ k2,o5]
  rw[e];exact h
 quiet:=λk h=>wb 8 8 _ _ _ _ _ _ (u7 _) k h
noncomputable def aV(s:List (D×D))(k:D):Option D:=(s.find? λp=>decide<|p.1=k).map (·.2)
noncomputable def iK(s:List (D×D))(k d:D):List (D×D):=if (aV s k).isSome then s.map (λp=>if p.1=k then(p.1,d)else p)else s++[(k,d)]
section
variable{K:u4}{ρ:List d5}{H:Hp}{M:t8}{kvs:List (D×D)}{xs:List (D×d5×c6)}
theorem tY(r:Paired (yd K ρ H) kvs xs)(k:D):(aV kvs k=a8/\m3 xs k=a8)\/∃d p v,aV kvs k=a7 d/\m3 xs k=a7 p/\t9 K ρ H d v/\aZ v p.2:=by
 unfold aV m3;induction r with
 |nil=>exact .inl ⟨rfl,rfl⟩
 |@cons p q s b h t i=>obtain⟨h1,_,_,v,f,a⟩:=h;rw[Mq,Mq];by_cases e:p.1=k;rw[dT_ e,dT_<|h1.symm.trans e];exact .inr ⟨_,_,v,rfl,rfl,f,a⟩;rw[dF_ e,dF_<|λz=>e<|h1.trans z];exact i
theorem FE(r:Paired (yd K ρ H) kvs xs)(n:cS 8 k=a9)(o:t9 K ρ H k (.ref b))(f:t9 K ρ H d v)(g:aZ v u):Paired (yd K ρ H) (iK kvs k d) (storedH xs k b u):=by
 unfold iK storedH;have s:(aV kvs k).isSome=(m3 xs k).isSome:=by rcases tY r k with⟨a,l⟩|⟨_,_,_,a,l,_⟩<;>rw[a,l]<;>rfl
 rw[s];by_cases q:(m3 xs k).isSome=a9;rw[n9 q,n9 q];clear s q;induction r with
 |nil=>exact .nil
 |@cons p q x y h t i=>rw[C4,C4];refine .cons ?_ i;obtain⟨h1,h2,c,w,j,m⟩:=h;by_cases e:p.1=k;rw[n9 e,putAt,n9<|h1.symm.trans e];exact⟨h1,h2,c,v,f,g⟩;rw[o0 e,putAt,o0<|λz=>e<|h1.trans z];exact⟨h1,h2,c,w,j,m⟩
 rw[o0 q,o0 q];clear s q;induction r with
 |nil=>exact .cons ⟨rfl,n,o,v,f,g⟩ .nil
 |cons h t i=>exact .cons h i
theorem jo(r:Paired (yd K ρ H) kvs xs):xs.map (·.1)=kvs.map (·.1):=by
 induction r with
 |nil=>rfl
 |cons h t i=>rw[C4,C4,i,h.1]
theorem qm:(iK kvs k d).length<=kvs.length+1:=by unfold iK;split;rw[u6];lia;rw[A3];exact u7 _
theorem A2.writtenX{a p:d5}{xs:List V}{φ:c9->c8->d7->Prop}{o:HO}(b:H p=a7 (.ext φ))(h:A2 K H a xs):A2 K (v7 H p o) a xs:=by
 rcases h with h|h;rcases h with h|⟨c,h⟩
 exact .inl (.inl<|by rw[ao<|yD h b<|by intro z;cases z];exact h);exact .inl<|.inr ⟨c,by rw[ao<|yD h b<|by intro z;cases z];exact h⟩;exact .inr h
theorem u9.writeT(S:u9 K ρ M H)(t:ρ[n]?=a7 a)(u:M[n]?=a7 (.dkt kvs))(s:H a=a7 (.ext<|dX a xs))(w:kvs'.length<=sizeLine)(hs:(a==d8)=c5)(x:(kvs'.map (·.1)).Nodup)(r:Paired (yd K ρ H) kvs' xs'):u9 K ρ (M.set n<|.dkt kvs') (v7 H a<|.ext<|dX a xs')/\Grow K ρ H ρ (v7 H a<|.ext<|dX a xs'):=by
 have g:Grow K ρ H ρ (v7 H a<|.ext<|dX a xs'):=⟨NJ,λ_ _ h=>A2.writtenX s h⟩
 have k:∀m,m≠n->(M.set n<|.dkt kvs')[m]?=M[m]?:=λm e=>MX<|B8 e;have c:¬Mi M[n]?:=λ⟨_,z⟩=>by rw[u]at z;cases z
 refine⟨⟨λm l b i d f=>?_,by rw[J7];exact S.len,λm b o d f=>?_⟩,g⟩;have q:=S.nd m l b i d f;by_cases h1:m=n;subst h1;rw[k l<|B8 i];exact .inr<|q.resolve_left c;rw[k m h1];by_cases h2:l=n;subst h2;exact .inl<|q.resolve_right c;rw[k l h2];exact q;by_cases e:m=n;subst e;have j:b=a:=A8<|d.symm.trans t;subst j;rw[MA<|by rw[<-S.len];exact(x9.mp t).1]at f;cases f;refine⟨w,hs,x,xs',aR,Paired.mapP r ?_⟩;rintro _ _ ⟨y,A,B,v,C,D⟩;exact⟨y,A,B.grow g,v,C.grow g,D⟩;rw[k m e]at f;by_cases j:b=a;subst j;have p:=(S.nd m n b e d t).resolve_right c;rw[f]at p;exact(S.obj m b o d f).grow g<|.inr p;exact(S.obj m b o d f).grow g<|.inl<|ao j
end
theorem gM(I:r9 X t σ H s):∀(n:Nat) (d:D) (v:V) (u:c6),t9 X.K ρ H d v->aZ v u->cS n d=a9->hZ s.heap n d u:=by
 intro n;induction n with
 |zero =>
  intro d v u r b k;cases r with
  |str x=>exact b
  |int x=>exact b
  |_=>cases k
 |succ n e =>
  intro d v u r b k;cases r with
  |str x=>exact b
  |int x=>exact b
  |@tup a w l q f =>
   cases b;obtain⟨o,m,p,z⟩:=I.tuple q;have h:∀x∈l,cS n x=a9:=E5.mp<|show l.all (cS n)=a9 from k;refine⟨a,o.toArray,rfl,p,?_⟩;rw[List.toList_toArray];clear p q k z;induction m generalizing l with
   |nil=>cases f;exact .nil
   |cons g j i =>
    cases f with
    |cons h1 R=>exact .cons (e _ _ _ h1 g<|h _ C5)<|i R λx c=>h x<|A5 _ c
  |_=>cases k
theorem iO{X:Cx}{y:List (d5×d6)}{σ:St}{H:Hp}{s:f7}{ρ:List d5}{M:t8}(I:r9 X y σ H s)(m:u9 X.K ρ M H){n:Nat}{a:d5}{g:List (D×D)}(e:ρ[n]?=a7 a)(u:M[n]?=a7 (.dkt g)):∃v,H a=a7 (.ext<|dX a v)/\Paired (yd X.K ρ H) g v/\s.heap.DictOfH (bZ X.prog X.w) a v/\(a==d8)=c5/\g.length<=sizeLine/\v.length=g.length/\(g.map (·.1)).Nodup:=by
 obtain⟨h1,h2,h,v,b,r⟩:=m.obj _ _ _ e u;obtain⟨⟨o,z,t,l,R,c⟩,_⟩:=(show cM X.prog X.w H s.heap a (.ext<|dX a v)from I.hok a _ b)
 have k:=jo r;refine⟨v,b,r,⟨o,z,_,t,l,R,c,λx d=>?_,by rw[k];exact h⟩,h2,h1,?_,h⟩;obtain⟨i,hi⟩:=Ng d;obtain⟨p,_,q,j,f,_⟩:=eH r hi;rw[<-q];exact gM I 8 _ _ _ f rfl j;have:=p6 K8 k
 rwa [u6,u6]at this
theorem qU(d:dX a x P w h'):cM P w H' h' a (.ext<|dX a x):=by obtain⟨o,e,t,l,R,I⟩:=d;refine⟨⟨o,e,t,l,R,I⟩,⟨o,t⟩,?_⟩;rintro h1 h2 ⟨o,e,t,l,R,I⟩ k;exact⟨o,e,k _ t,l,R,I⟩
theorem FO(I:r9 X p σ H s)(h:H a=a7 (.ext<|dX a x)):dX a x X.prog X.w s.heap:=(show cM X.prog X.w H s.heap a (.ext<|dX a x)from I.hok a _ h).1
theorem setE(x:(bZ prog w).room A.in1)(t:(bZ prog w).is s.heap k b)(u:s.heap.DictOfH (bZ prog w) d xs) (y:dX d xs prog w s.heap) (hz:xs.length<=sizeLine)(m:∀h',dX d (storedH xs k b v) prog w h'->Nb d s.heap h'->Q () { s with heap:=h',toks:=s.toks+(bZ prog w).draws k }):ge (i3 prog w) A (setItem (.ref d) (.ref b) v) Q E s:=by
 have n:=u.typeIs;obtain⟨_,_,_,_,_,_,_,g,f⟩:=u;obtain⟨o,es,B,r,h,c⟩:=y;have i:es.toList=xs.map (d9<|bZ prog w):=c;unfold setItem
 try with_reducible refine D7 ?_
 refine p8<|wpAny_sequenceKey n (by decide)<|p8<|Nh (name:=AA0 "__setitem__") n slot_dict_setitem<|K1 slot_dict_setitem n entry_dict_setitem ?_<|args_dict_setitem _ _ _;refine(show ge (i3 prog w) _ (Builtin.Dict.notOrdered "__setitem__" ⟨[.ref d,.ref b,v],[]⟩ >>= _) _ _ s from p8<|O2 n ?_);refine(show ge (i3 prog w) _ (dictSet d (.ref b) v >>= _) _ _ s from p8 ?_);unfold dictSet
 try with_reducible refine D7 ?_
 refine p8<|(bZ prog w).pyHash x t ?_;unfold dictSetHashed
 try with_reducible refine D7 ?_
 have C:es.size=xs.length:=size_of_entries i;refine p8<|wpAny_dictFind_heap (s:={ s with toks:=s.toks+(bZ prog w).draws k }) x t B h i g f (λa=>?_) λj p L=>?_;refine p8<|MQ<|wpAny_updateDictKeys (hz:=by lia) (s:={ s with toks:=s.toks+(bZ prog w).draws k }) B h<|t4 ⟨.none,rfl,t4<|m _ ⟨_,es.push ⟨(bZ prog w).hash k,.ref b,v⟩,L1 _ B<|QJ<|QK h _,r.mapDictKeys _,?_,?_⟩<|Mr ..⟩;rw[QK h,storedH_new<|Qt a,A3];rfl;rw[storedH_new<|Qt a];rw[Qw,i,F0];rfl;refine p8<|MQ<|p8<|wpAny_updateDict (s:={ s with toks:=s.toks+(bZ prog w).draws k }) B h<|wpAny_point<|t4 ⟨.none,rfl,t4<|m _ ⟨_,es.modify j λe=>{ e with val:=v },L1 _ B<|QJ<|Qo h _,r.mapDict _,?_,?_⟩<|Mr ..⟩;rw[Qo h,storedH_old<|atKey_of_get f L,u6];rw[storedH_old<|atKey_of_get f L];have q:=modify_map_putAt (d9<|bZ prog w) (λe:m6=>{ e with val:=v }) k v (λ_ _=>rfl) f L;rw[<-i]at q;obtain⟨l⟩:=es;have z:(Array.modify ⟨l⟩ j λe:m6=>{ e with val:=v }).toList=(xs.map<|putAt k v).map (d9<|bZ prog w):=by simpa using q
 exact z
section
variable{X:Cx}{o i value:h8}{td ty tv:v8}{pos pos':Pos}{k:Nat}
def re:v8:=λ_ M Q=>Q (.ref M.length)<|M++[.dkt []]
theorem LR:DE X (.Dict [] [] pos) re:=by rintro p s σ H R I ⟨S,M,ρ,Q,m,e,q,D⟩;have f:H s.heap.objs.size=a8:=I.hok.fresh<|u7 _;have d:(s.heap.objs.size==d8)=c5:=beq_eq_false_iff_ne.mpr<|B8<|x6 I.big;refine wpAny_Dict_empty ⟨.ref s.heap.objs.size,_,I.laid (a:=s.heap.objs.size) (o:=.ext<|dX s.heap.objs.size []) (t':=s.toks) (λ_ _ q=>v5 _ q) (u7 _)<|qU ⟨_,#[],A1 _ rfl,⟨rfl,rfl,rfl⟩,rfl,rfl⟩,rfl,?_⟩;exact D _ _ ⟨.ref M.length,M++[.dkt []],ρ++[s.heap.objs.size],m.laidM (mo:=.dkt []) f ⟨z5 _,d,On,[],aR,.nil⟩,Grow.laidR f,.ref m.last,(show Q (.ref M.length) (M++[.dkt []])from q)⟩
def gZ(t c:v8):v8:=λS M Q=>t S M λx a=>c S a λy b=>match x,y with
 |.ref n,.tup e=>∃s d,b[n]?=a7 (.dkt s)/\cS 8 (.tup e)=a9/\aV s (.tup e)=a7 d/\Q d b
 |_,_=>False
theorem LS(V:Room k X.A)(U:DE X o td)(hi:DE X i ty)(hs:Jd i):DE X (.Subscript o i pos) (gZ td ty):=by
 rintro c s σ H R I ⟨S,M,ρ,Q,sm,G,q,Z⟩;have un:=V.un;refine Aj PySem.F.slot_dict_getitem.lookup hs<|v4 (U c s σ H _ I ⟨S,M,ρ,_,sm,G,q,λv H' z=>z⟩) ?_;rintro u s1 ⟨v,J,L,rv,x,N,l,h,g1,r1,q1⟩;refine v4 (hi c s1 σ J _ L ⟨S,N,l,_,h,G.grow g1,q1,λv H' z=>z⟩) ?_;rintro iv s2 ⟨w,K,f,g,y,O,m,e,C,r2,j⟩;cases x with
 |ref n =>
  cases y with
  |tup E =>
   obtain⟨ai,d,P,Y,D,q3⟩:=j;obtain⟨a,rfl,T⟩:=t9.inv_ref r1;obtain rfl:u=G1 a:=rv;obtain⟨xs,hH,r,B,W,hl,hx,_⟩:=iO f e (aK C.pre T) P;have t:=gM f 8 _ _ _ r2 g Y;rcases tY r (.tup E)with⟨z,_⟩|⟨d',p,v',e1,e2,e3,e4⟩
   rw[D]at z;cases z;rw[D]at e1;cases e1;obtain⟨b,_,rfl,_⟩:=id t;refine⟨B.typeIs,wpAny_getItem_heap (knd:=bZ X.prog X.w) (k:=.tup E) (by show X.A.units+1+8<j9;lia) t B e2 ⟨v',K,f.tok _,e4,Z _ _ ⟨d,O,m,e,g1.trans C,e3,q3⟩⟩⟩
  |_=>exact j.elim
 |_=>exact j.elim
def qY(d c t:v8):s9:=λE S M=>t S M λv a=>d S a λx b=>c S b λy M3=>match x,y with
 |.ref n,.tup e=>∃s,M3[n]?=a7 (.dkt s)/\cS 8 (.tup e)=a9/\s.length<sizeLine/\E.nx S (M3.set n<|.dkt<|iK s (.tup e) v)
 |_,_=>False
theorem qk(h:(s.map (·.1)).Nodup):((iK s y v).map (·.1)).Nodup:=by
 unfold iK;split;rw[Fn];have:((λx:D×D=>x.1) ∘ λp:D×D=>if p.1=y then(p.1,v)else p)=λx=>x.1:=by funext p;show (if p.1=y then(p.1,v)else p).1=p.1;split<;>rfl
 rw[this];exact h;rename_i q;rw[F0,List.map_singleton,List.nodup_append];refine⟨h,by simp,λa f b d=>?_⟩;rw[J6.mp d];rintro rfl;obtain⟨p,c,e⟩:=v6.mp f;refine q ?_;unfold aV;rw[Option.isSome_map,List.find?_isSome];exact⟨p,c,by simpa using e⟩
theorem Iq(hr:Room k X.A)(ho:DE X o td)(hi:DE X i ty)(hv:DE X value tv)(hs:i8 value (a7<|.Subscript o i pos') pos.line X.env=pure c5):DS X (.Assign [.Subscript o i pos'] value pos) (qY td ty tv):=by
 rintro p s σ H E I ⟨S,M,ρ,F,sm,j,q,kk⟩;have un:=hr.un;refine wpAny_Assign_Subscript (v4 (hv p s σ H _ I ⟨S,M,ρ,_,sm,j,q,λv H' z=>z⟩) λr s1 ⟨v,T,V,rv,dv,Z,G,C,g1,r1,q1⟩=>v4 (ho p s1 σ T _ V ⟨S,Z,G,_,C,j.grow g1,q1,λv H' z=>z⟩) λu s2 ⟨vx,U,Y,rx,x,M2,J,D,g,r2,q2⟩=>v4 (hi p s2 σ U _ Y ⟨S,M2,J,_,D,(j.grow g1).grow g,q2,λv H' z=>z⟩) ?_) hs;rintro iv s3 ⟨vy,H3,f,Q,y,M3,K,e,g3,P,B⟩;cases x with
 |ref n =>
  cases y with
  |tup O =>
   obtain⟨kvs,L,N,hl,q4⟩:=B;obtain⟨a,rfl,hn⟩:=t9.inv_ref r2;obtain rfl:u=G1 a:=rx;have h:=aK g3.pre hn;obtain⟨xs,l,r,dd,W,_,hx,nd⟩:=iO f e h L;have t:=gM f 8 _ _ _ P Q N;obtain⟨b,_,rfl,_⟩:=id t;obtain⟨_,_,rfl,m,rr⟩:=t9.inv_tup P;cases Q;have r':=FE r N (.tup m rr) ((r1.grow g).grow g3) rv;have pl:=qm (kvs:=kvs) (k:=.tup O) (d:=dv);obtain⟨w1,R⟩:=e.writeT h L l (by have:=pl;lia) W (qk nd) r';refine setE (k:=.tup O) (by show X.A.units+1+8<j9;lia) t dd (FO f l) (by lia) λh' c w=>?_;have he:∃q,h'.get? a=a7 q:=let ⟨q,_,m,_⟩:=c;⟨q,m⟩
   exact⟨σ,_,Cl f (by rw[l];exact True.intro) w he<|qU c,kk.nx σ _<|SQ.trans ((g1.trans g).trans g3) ⟨S,_,K,w1,R,(((j.grow g1).grow g).grow g3).grow R,q4⟩⟩
  |_=>exact B.elim
 |_=>exact B.elim
def ND(r:Nat->D1)(e:v8)(t:H9):v8:=λS M Q=>e S M λx a=>match x with
 |.ref n=>(∃s,a[n]?=a7 (.dkt s))/\t S a λd b=>r n d b Q
 |_=>False
variable{name:c7}{id:String}{e:h8}{es:List h8}{to:v8}{t:H9}{apos cpos:Pos}
theorem d_mt{r:Nat->D1}(slot:Slot "dict" name id)(y:typeOf (.builtin id)=pure (.type "method_descriptor"))(V:Mm X id (qG X.K r))(W:DE X o to)(U:DA X (e::es) t)(c:l6 o name X.env (eval o X.env)=eval o X.env:=by rfl)(f:((i4 cpos<|i5 (e::es) X.env).all (λx=>!x.1)&&(l7 cpos<|l8 [] X.env).all (λx=>x.1.isSome) && decide ((e::es).length+([]:List l9).length+(if ([]:List l9).isEmpty then 0 else 1)<30))=a9:=by rfl)(d:(apos.endLine==cpos.line)=a9:=by rfl) (hs:i5 (e::es) X.env=(c5,eval e X.env)::i5 es X.env:=by rfl) (h:(i4 cpos<|i5 es X.env).any (·.1)=c5:=by rfl):DE X (.Call (.Attribute o name apos) (e::es) [] cpos) (ND r to t):=by
 rintro p s σ H R I ⟨S,M,ρ,Q,sm,J,q,Z⟩;refine Rs c f d rfl<|v4 (W p s σ H _ I ⟨S,M,ρ,_,sm,J,q,λv H' z=>z⟩) ?_;rintro u s1 ⟨v,L,C,rv,x,i,A,j,g1,r1,g⟩;cases r1 with
 |@ref n a G =>
  cases rv;obtain⟨⟨k,T⟩,g⟩:=(show (∃k,i[n]?=a7 (.dkt k))/\t S i _ from g)
  obtain⟨xs,hH,r,D,Y,hl,hx,nd⟩:=iO C j G T;refine⟨"dict",id,QQ,slot,y,D.typeIs,λb z=>?_,?_⟩;cases z;obtain⟨ob,_,_,h1,h2,_⟩:=D;exact⟨ob,h1,h2.2.1⟩;have F:=U cpos p s1 σ L _ C ⟨S,i,A,_,j,J.grow g1,g,λvs H' z=>z⟩;rw[hs]at F ⊢;refine P5 (by show (c5||(i4 cpos<|i5 es X.env).any (·.1))=c5;rw[h]<;>rfl)<|Rm ?_;refine v4 F ?_;rintro us s2 ⟨vs,N,O,l,ds,P,B,m,E,rr,q2⟩;exact V p s2 σ N (.ref a) vs (.ref a) us R O rfl l ⟨n,a,ds,P,B,Q,rfl,aK E.pre G,m,rr,q2,λv H' w=>Z v H'<|VQ.trans (g1.trans E) w⟩
 |_=>exact g.elim
def iI(n:Nat):D1:=λb M Q=>match b with
 | [.tup a,d]=>∃s,M[n]?=a7 (.dkt s)/\cS 8 (.tup a)=a9/\Q ((aV s<|.tup a).getD d) M
 |_=>False
theorem DP(o:Room k X.A):Mm X "dict.get" (qG X.K iI):=by
 rintro g s σ H x xs v us R I J G ⟨n,a,ds,M,ρ,Q,i,j,m,f,q,D⟩;have U:=o.un;unfold iI at q;split at q;rename_i e d;obtain⟨B,u,y,q⟩:=q
 first|have z:=Reps.inv_cons f|have z:=aB.inv_cons f
 clear f;obtain⟨_,_,rfl,C,f⟩:=z
 first|have z:=Reps.inv_cons f|have z:=aB.inv_cons f
 clear f;obtain⟨_,_,rfl,E,f⟩:=z;cases f;obtain⟨T,L,rfl,h,l⟩:=aB.two G;subst i;cases J;obtain⟨ys,N,r,c,W,O,P,S⟩:=iO I m j u;have t:=gM I 8 _ _ _ C h y;obtain⟨b,_,rfl,_⟩:=id t;refine call_meetsIn QM c.typeIs PySem.F.entry_dict_get (PySem.F.args_dict_get_3 _ _ _) (meetsH_dict_get_default (bZ X.prog X.w) a b W L) ⟨by show X.A.units+1+8<j9;lia,.tup e,ys,t,c,?_⟩;rcases tY r (.tup e)with⟨z1,z2⟩|⟨d',p,v',z1,z2,z3,z4⟩
 rw[z2];rw[z1]at q;exact⟨_,H,I.tok _,l,D _ _ ⟨d,M,ρ,m,.refl,E,q⟩⟩;rw[z2];rw[z1]at q;exact⟨_,H,I.tok _,z4,D _ _ ⟨d',M,ρ,m,.refl,z3,q⟩⟩;exact q.elim
end
def dI(h:d7)(d:d5)(e:Array m6)(ep:Nat):Prop:=∃o,h.get? d=a7 o/\o.ExactDict/\o.data=.dict e ep
theorem dI.ty{s:f7}{d:d5}{e:Array m6}{ep:Nat}(x:dI s.heap d e ep):s.TypeIs (.ref d) "dict":=by obtain⟨o,h1,h2,_⟩:=x;exact⟨o,h1,h2.1⟩
theorem dI.lt(x:dI h d e ep):d<h.objs.size:=by obtain⟨o,h1,_⟩:=x;exact v9 h1
theorem dI.to(x:dI h d e ep)(k:∀o,h.get? d=a7 o->h'.get? d=a7 o):dI h' d e ep:=by obtain⟨o,h1,h2⟩:=x;exact⟨o,k o h1,h2⟩
theorem xS{Q:c6->f7->Prop}(h:(d==d8)=c5)(m:dI s.heap d e ep)(b:Q (.ref s.heap.objs.size) { s with heap:=s.heap.push { cls:=.type "dict_keyiterator",data:=.fields #[.ref d,.int 0 0,.int e.size 0,.int ep 0] } }):ge (i3 p w) A (j3<|.ref d) Q E s:=by have n:=m.ty;obtain⟨o,h1,h2,a⟩:=m;refine Qu n F.slot_dict_iter<|K1 F.slot_dict_iter n F.entry_dict_iter ?_<|F.args_dict_iter_1 _;unfold Builtin.«dict.__iter__»;refine p8 ?_;unfold Builtin.Dict.dictSlotNone;refine p8<|O2 n<|t4 ?_;refine(show ge (i3 p w) _ (QL d >>= _) _ _ s from ?_);unfold QL;rw[h];refine p8<|t4<|p8<|OZ h1 a<|p8<|OY h1 a ?_;exact p8<|J5<|t4 ⟨_,rfl,"dict_keyiterator",_,⟨_,A1 _ rfl,rfl⟩,F.slot_dict_keyiterator_next.lookup,by simpa [j4]using b⟩
theorem xR(t:s.heap.IsKeyIter it d i e.size ep)(m:dI s.heap d e ep)(hi:i<e.size)(b:∀h',h'.IsKeyIter it d (i+1) e.size ep->Nb it s.heap h'->Q (a7 e[i].key) { s with heap:=h' }):ge (i3 p w) A (j1<|.ref it) Q E s:=by
 obtain⟨o,B,f,a⟩:=id t;obtain⟨j,G,c,k⟩:=id m;unfold j1;refine p8<|NI<|Nh (name:=AA0 "__next__") t.typeIs F.slot_dict_keyiterator_next<|K1 F.slot_dict_keyiterator_next t.typeIs F.entry_dict_keyiterator_next ?_<|F.args_dict_keyiterator_next_1 _;refine p8<|t4<|p8<|p8 ?_
 first|refine p8 (Q2 t.typeIs<|t4<|p8<|MT B a ?_)|refine p8<|QU t.typeIs<|t4<|p8<|MT B a ?_
 simp only[show P7 "dict_keyiterator" = c5 by decide,B9,o8];refine(show ge (i3 p w) _ (if (G1 d==Mo)=a9 then _ else _) _ _ s from ?_);rw[o0<|by exact Nt];refine p8<|t4<|p8<|OZ G k ?_;rw[o0<|by simp];refine p8<|t4<|p8<|OY G k ?_;rw[o0<|by simp];refine t4 ?_;simp only[show ¬((i:Int)<0)from by lia,o8,Nr,G9 hi];refine p8 ?_
 first|refine p8 (Q2 t.typeIs<|t4 ?_)|refine p8<|QU t.typeIs<|t4 ?_
 refine p8<|wpAny_isOneOf_keyiter t.typeIs ?_;refine(show ge (i3 p w) _ (setField (.ref it) 1 (j4<|(i:Int)+1) >>= _) _ _ s from p8<|Nm B a (by simp) ?_);have h:(s.heap.update it (Oj (·.setIfInBounds 1 (j4<|(i:Int)+1)))).IsKeyIter it d (i+1) e.size ep:=by refine⟨_,L1 _ B<|Obj.isFreed_of_fields<|QD a _,(Obj.cls_mapFields ..).trans f,?_⟩;rw[QD a];simp[j4]
 refine p8 (D7 (p8 (wpAny_isOneOf_keyiter (s:={ s with heap:=s.heap.update it (Oj (·.setIfInBounds 1 (j4<|(i:Int)+1))) }) h.typeIs ?_)));refine(show ge (i3 p w) _ (pure e[i].key) _ _ _ from ?_);exact t4<|t4 ⟨_,rfl,t4<|b _ h<|Mr ..⟩
theorem Cg(e:A.handled=a8)(t:s.heap.IsKeyIter it d l.size l.size ep)(f:dI s.heap d l ep)(c:∀h',Heap.ExtBut it s.heap h'->Q a8 { s with heap:=h' }):ge (i3 p w) A (j1<|.ref it) Q E s:=by
 obtain⟨o,B,g,h⟩:=id t;obtain⟨j,G,i,k⟩:=id f;unfold j1;refine p8<|NI<|Nh (name:=AA0 "__next__") t.typeIs F.slot_dict_keyiterator_next<|K1 F.slot_dict_keyiterator_next t.typeIs F.entry_dict_keyiterator_next ?_<|F.args_dict_keyiterator_next_1 _;refine p8<|t4<|p8<|p8 ?_
 first|refine p8 (Q2 t.typeIs<|t4<|p8<|MT B h ?_)|refine p8<|QU t.typeIs<|t4<|p8<|MT B h ?_
 simp only[show P7 "dict_keyiterator" = c5 by decide,B9,o8];refine(show ge (i3 p w) _ (if (G1 d==Mo)=a9 then _ else _) _ _ s from ?_);rw[o0<|by exact Nt];refine p8<|t4<|p8<|OZ G k ?_;rw[o0<|by simp];refine p8<|t4<|p8<|OY G k ?_;rw[o0<|by simp];refine t4 ?_;simp only[show ¬((l.size:Int)<0)from by lia,o8,Nr,O3<|u7 l.size];refine p8 ?_
 first|refine p8 (Q2 t.typeIs<|t4 ?_)|refine p8<|QU t.typeIs<|t4 ?_
 refine(show ge (i3 p w) _ (setField (.ref it) 0 .none >>= _) _ _ s from p8<|Nm B h (by simp) ?_);refine(show ge (i3 p w) _ (newExc (.type "StopIteration") [] >>= _) _ _ _ from p8 ?_);simp only[newExc,newTuple];refine p8 (J5 ?_<|by size_fits);refine p8 (m:=n6 _ _)<|wpAny_of_eq (a:=Mo) (by first|rfl|(simp only[n6];rfl)) ?_;refine J5 ?_ (by size_fits);simp only[raiseNew];refine p8<|wpAny_handled ?_;rw[show A.in1.handled=a8 from e];refine p8<|t4<|wpAny_throw ?_;refine p8<|Ow (b:=a9) (T:="StopIteration") ⟨_,A1 _ rfl,rfl⟩ isSubtype_stop ?_;exact t4<|c _<|((Mr ..).extBut.push _).push _
theorem Cf(l:A.handled=a8)(I:d5)(j:d≠I):m7 p w A I [I,d] [I] m.size (λi v=>∃e,m[i]?=a7 e/\v=e.key) (λi h=>h.IsKeyIter I d i m.size ep/\dI h d m ep) where
 sub:=λb a=>by simp at a;simp[a]
 frame:=λ_ _ _ st k=>⟨st.1.at λo e=>k I (by simp) o e,st.2.to λo e=>k d (by simp) o e⟩
 item:=λi s Q E hi st c=>xR st.1 st.2 hi λh' f u=>c _ h' s.toks ⟨m[i],by simp[hi],rfl⟩ ⟨f,st.2.to λo e=>u.extBut d o j e⟩ λb o a e=>u.extBut b o (λh=>a<|by simp[h]) e
 done:=λs Q E st c=>Cg l st.1 st.2 λh' g=>c h' s.toks λb o a e=>g b o (λh=>a<|by simp[h]) e
 self:=λ_ _ _ _ st c=>wpAny_pyIter_keyiter st.1 c
theorem Il(l:(d==d8)=c5):KdlSrc p w "dict" d d es.size (λi v=>∃e,es[i]?=a7 e/\v=e.key) (λh=>dI h d es ep) where
 type:=λ_ m=>m.ty
 there:=λ_ m=>⟨m.lt,m.lt⟩
 keep:=λ_ _ m k=>m.to λo e=>k d (.inl rfl) o e
 notList:=by decide
 notTuple:=by decide
 hint:=λ_ _ _ _ m q=>kdl_hint_dict m.ty q
 iter:=λ_ _ a m=>⟨_,_,(λ_ _ q=>xS l m q),Cf a _<|x6 m.lt,⟨⟨_,A1 _ rfl,rfl,rfl⟩,m.to λo e=>v5 _ e⟩⟩
noncomputable def Ite(a:d5)(n:Nat):It:=⟨λi H=>∃s,H a=a7 (.ext<|dX a s)/\s.length=n/\i<n,λi H v H'=>H'=H/\∀s,H a=a7 (.ext<|dX a s)->∃x,s[i]?=a7 x/\v=.ref x.2.1,λi H=>(∃s,H a=a7 (.ext<|dX a s)/\s.length=n)/\i=n⟩
theorem iN(I:r9 X p σ H s)(b:H a=a7 (.ext<|dX a g)):∃d,dI s.heap a d g.length/\d.size=g.length/\∀(i:Nat) x,g[i]?=a7 x->∃e,d[i]?=a7 e/\e.key=.ref x.2.1/\e.val=x.2.2:=by
 obtain⟨o,d,h1,h2,h,f⟩:=FO I b;refine⟨d,⟨o,h1,h2,h⟩,?_,λi x c=>?_⟩;have:=p6 K8 f
 rwa [E2,u6]at this
 refine⟨⟨z9 X.w 8 x.1,.ref x.2.1,x.2.2⟩,?_,rfl,rfl⟩;rw[<-G8,f,C8,c];rfl
theorem xQ(x:dI h a e ep)(y:dI h a es' ep'):e=es'/\ep=ep':=by obtain⟨o,h1,_,d⟩:=x;obtain⟨o',c,_,b⟩:=y;obtain rfl:o=o':=A8<|h1.symm.trans c;rw[d]at b;injection b with e1 e2;exact⟨e1,e2⟩
theorem CV{P:c9}{w:c8}{K:u4}{tg:h8}(a it:d5)(n:Nat):Turn P w K tg (Ite a n) [it] it (λi h=>h.IsKeyIter it a i n n) where
 mem:=by simp
 obj:=λi h st b f=>by
  obtain rfl:b=it:=by simpa using f
  obtain⟨o,e,c,d⟩:=st;exact⟨o,e,λv z=>by rw[d]at z;cases z⟩
 keep:=λi h h' st k=>st.at λo e=>k it (by simp) o e
 item:=by
  intro X G L F T i p s σ H E I m st S;subst G L F;obtain⟨xs,D,rfl,hi⟩:=S;obtain⟨es,J,l,R⟩:=iN I D;obtain⟨e,M,N,e3⟩:=R i xs[i]<|w9 hi;obtain⟨t,u,f2,x,B,C⟩:=m it (by simp);have g:i<es.size:=by lia
  have O:es[i]=e:=by rw[G9 g]at M;exact A8 M
  rw[<-l]at J st;refine xR st J g λh' j sb=>?_;rw[O,N];have W:r9 X p σ H { s with heap:=h' }:=I.turned (t':=s.toks) (λb o f e=>(sb.2 b f).trans e) t u x B C;obtain⟨o,q1,q2,q3⟩:=id j;refine⟨_,rfl,za (s:={ s with heap:=h' }) q1 q2 q3 (by decide) ⟨.ref xs[i].2.1,H,W,rfl,⟨rfl,λys hy=>?_⟩,by rw[l]at j;exact j,λb f=>(m b f).1⟩⟩;obtain⟨Z,r,Y,q⟩:=iN I hy;obtain⟨rfl,ep⟩:=xQ J r;have U:i<ys.length:=by lia
  obtain⟨e',V,y,_⟩:=q i ys[i]<|w9 U;rw[G9 g,O]at V;obtain rfl:=A8 V;rw[N]at y;injection y with y;exact⟨ys[i],w9 U,by rw[y]⟩
 done:=by intro X G L F T i p s σ H E I m st S;subst G L F;obtain⟨⟨xs,D,rfl⟩,rfl⟩:=S;obtain⟨es,J,l,R⟩:=iN I D;obtain⟨t,u,f2,x,B,C⟩:=m it (by simp);rw[<-l]at J st;exact Cg (I.ok.hd T) st J λh' he=>⟨rfl,I.turned (t':=s.toks) (λb o f e=>he b o f e) t u x B C⟩
 self:=λA i s Q E st hQ=>wpAny_pyIter_keyiter st hQ
def lV(t:v8):ME:=λS M R=>t S M λd a=>match d with
 |.ref n=>∃s,a[n]?=a7 (.dkt s)/\(s.length<=sizeLine->R ⟨s.map (·.1),λM=>M[n]?=a7 (.dkt s)⟩ a)
 |_=>False
theorem EQ{l:h8}{N:v8}(Z:DE X l N):DI X tg l (lV N):=by
 intro t s σ H R I h;obtain⟨S,M,ρ,Q,sm,sr,q,k⟩:=h;refine v4 (Z t s σ H _ I ⟨S,M,ρ,_,sm,sr,q,λv H' w=>w⟩) ?_;rintro u D ⟨v,J,j,rv,d,E,G,B,g1,r1,L⟩;cases r1 with
 |@ref n a C =>
  cases rv;obtain⟨c,V,q2⟩:=(show ∃c,E[n]?=a7 (.dkt c)/\(c.length<=sizeLine->Q ⟨c.map (·.1),λM=>M[n]?=a7 (.dkt c)⟩ E)from L)
  obtain⟨xs,U,r,dd,W,hz,hx,nd⟩:=iO j B C V;obtain⟨es,T,P,_⟩:=iN j U;refine xS W T ?_;rw[P];refine⟨D.heap.objs.size,[D.heap.objs.size],_,_,J,rfl,j.kept (t':=D.toks) λb o e=>v5 _ e,CV a _ xs.length,⟨_,A1 _ rfl,rfl,rfl⟩,λb Y=>?_,k _ J ⟨⟨c.map (·.1),λM=>M[n]?=a7 (.dkt c)⟩,E,G,B,g1,?_,q2 hz⟩⟩;obtain rfl:b=D.heap.objs.size:=by simpa using Y
  exact j.fpOk (u7 _)<|j.hok.fresh<|u7 _;refine⟨λi f K H' s' g ok hi=>?_,λi f K H' x H2 s' g ok hi y=>?_,λf K H' s' g ok=>?_⟩;obtain⟨_,_,_,ys,O,A⟩:=s'.obj _ _ _ (aK g.pre C) ok;have ly:ys.length=c.length:=by have:=p6 K8<|jo A;rwa [u6,u6]at this
  exact⟨ys,O,by lia,by rw[u6]at hi;lia⟩;obtain⟨rfl,m⟩:=y;obtain⟨_,_,_,ys,O,A⟩:=s'.obj _ _ _ (aK g.pre C) ok;obtain⟨z,F,rfl⟩:=m ys O;obtain⟨p,hp,_,_,rp,_⟩:=eH A F;exact⟨p.1,f,by rw[C8,hp];rfl,s',.refl,rp⟩;obtain⟨_,_,_,ys,O,A⟩:=s'.obj _ _ _ (aK g.pre C) ok;have ly:ys.length=c.length:=by have:=p6 K8<|jo A;rwa [u6,u6]at this
  exact⟨⟨ys,O,by lia⟩,by rw[u6];lia⟩
 |_=>exact L.elim
theorem yx{K:u4}{ρ:List d5}{H:Hp}{k:List (D×D)}{s:List (D×d5×c6)}(r:Paired (yd K ρ H) k s):Reps K ρ H (k.map (·.1)) (s.map λx=>V.ref x.2.1):=by
 induction r with
 |nil=>exact .nil
 |cons h t i=>exact .cons h.2.2.1 i
theorem rQ:∀(s:List (D×d5×c6)) (a:List c6),a.length=s.length->(∀(j:Nat) (v:c6) x,a[j]?=a7 v->s[j]?=a7 x->v=.ref x.2.1)->aB (s.map λx=>V.ref x.2.1) a
 | [],[],_,_=>.nil
 | [],_::_,e,_=>by simp at e
 |_::_,[],e,_=>by simp at e
 |x::s,v::a,e,h=>.cons (h 0 v x rfl rfl)<|rQ s a (by simpa using e) λj u y h1 h2=>h (j+1) u y (by simpa using h1)<|by simpa using h2
def jZ:D1:=λd M Q=>match d with
 | [.ref n]=>∃s,M[n]?=a7 (.dkt s)/\SrtOk M (s.map (·.1))/\∀y,y.Perm (s.map (·.1))->FT M y->Q (.ref M.length) (M++[.lst y])
 |_=>False
theorem zj{k:Nat}(hr:Room k X.A)(Y:X.calm=a9):lq X (.builtin "sorted") jZ:=by
 rintro E s σ H vs us R I rv ⟨ds,M,ρ,Q,F,l,q,kk⟩;unfold jZ at q;split at q;obtain⟨ai,S,G,q⟩:=q
 first|have f:=Reps.inv_cons l|have f:=aB.inv_cons l
 clear l;obtain⟨_,_,rfl,r1,l⟩:=f;cases l;obtain⟨u,rfl,K⟩:=aB.one rv;obtain⟨a,rfl,e⟩:=t9.inv_ref r1;cases K;obtain⟨xs,B,r,dd,z2,hz,hx,nd⟩:=iO I F e S;obtain⟨es,J,el,O⟩:=iN I B;obtain⟨m,C,hm⟩:=I.loc;have d:a≠X.env.locals:=ae B I.free;obtain⟨oa,c,_⟩:=id J;have i:∀b o,(b,o)∈[]++(a,oa)::Att.ledger s.heap X.env.locals a↔b≠X.env.locals/\s.heap.get? b=a7 o:=λb o=>by rw[F4,A0,Att.mem_ledger];constructor;rintro(h|⟨h1,_,h3⟩);cases h;exact⟨d,c⟩;exact⟨h1,h3⟩;rintro⟨h1,h2⟩;by_cases z:b=a;subst z;rw[c]at h2;cases h2;exact .inl rfl;exact .inr ⟨h1,z,h2⟩
 have sl:=G.len;rw[u6]at sl;refine kdu_sorted (Il (es:=es) (ep:=xs.length) z2) (I.ok.hd Y) (Att.fr_all C) (Att.news_ledger d c) J (by rw[Mu];lia) λD h' tk vs T N lt hl U=>?_;have kp:∀b u,b≠X.env.locals->s.heap.get? b=a7 u->h'.get? b=a7 u:=λb u W e=>(N (b,u)<|A5 _<|(i b u).mpr ⟨W,e⟩).1;have L:D≠X.env.locals:=(N _ C5).2.1;have P:s.heap.get? D=a8:=by
  cases q:s.heap.get? D with
  |none=>rfl
  |some o=>exact o4 (lt (D,o)<|(i D o).mpr ⟨L,q⟩)<|D5 _
 have t:aB (xs.map λx=>V.ref x.2.1) vs:=by refine rQ xs vs (by lia) λj v x Z p=>?_;obtain⟨e0,g1,rfl⟩:=U j v Z;obtain⟨e2,y,g3,_⟩:=O j x p;rw[g1]at y;obtain rfl:=A8 y;exact g3
 have w:=yx r;exact Ap (n:=0) hr (by show X.A.units+1<=X.A.units+4;lia) I F G.g w t C T.ns kp P L (N _ C5).1 λv H' x=>kk v H'<|x Q q;exact q.elim
theorem pR(a:(d==d8)=c5)(m:dI s.heap d e ep)(b:Q (.ref s.heap.objs.size) { s with heap:=s.heap.push { cls:=.type "dict_values",data:=.fields #[.ref d] } }):ge (i3 p w) A (call (.builtin "dict.values") [.ref d]) Q E s:=by refine call_meetsIn RC m.ty PySem.F.entry_dict_values (PySem.F.args_dict_values_1 _) (S:=λ_ R s'=>s'=s/\R (.ok<|.ret<|.ref s.heap.objs.size) { s with heap:=s.heap.push { cls:=.type "dict_values",data:=.fields #[.ref d] } }) (.of_wp ?_) ⟨rfl,b⟩;rintro A R s' ⟨rfl,h⟩;refine p8 ?_;unfold Builtin.Dict.noArgs;refine p8<|O2 m.ty<|t4 ?_;refine(show ge (i3 p w) _ (QL d >>= _) _ _ s' from ?_);unfold QL;rw[a];exact p8<|t4<|p8<|J5<|t4 ⟨_,rfl,h⟩
theorem ui(c:s.heap.IsValuesView v d)(m:dI s.heap d i ep)(b:Q (.ref s.heap.objs.size) { s with heap:=s.heap.push { cls:=.type "dict_valueiterator",data:=.fields #[.ref d,.int 0 0,.int i.size 0,.int ep 0] } }):ge (i3 p w) A (j3<|.ref v) Q E s:=by obtain⟨g,e,h,f⟩:=id c;obtain⟨o,h1,h2,a⟩:=m;refine Qu c.typeIs F.slot_dict_values_iter<|K1 F.slot_dict_values_iter c.typeIs F.entry_dict_values_iter ?_<|F.args_dict_values_iter_1 _;unfold Builtin.«dict_values.__iter__»;refine p8<|t4<|p8 ?_;unfold Builtin.Dict_items.dictOf;refine p8<|wpAny_field e f (x:=.ref d) rfl<|t4<|p8 ?_;unfold Builtin.Dict_items.newIterator;refine p8<|OZ h1 a<|p8<|OY h1 a ?_;simp only[show P7 "dict_valueiterator" = c5 by decide,B9,o8];exact J5<|t4 ⟨_,rfl,"dict_valueiterator",_,⟨_,A1 _ rfl,rfl⟩,F.slot_dict_valueiterator_next.lookup,by simpa [j4]using b⟩
theorem uh(t:s.heap.IsValIter it d i e.size ep)(m:dI s.heap d e ep)(hi:i<e.size)(b:∀h',h'.IsValIter it d (i+1) e.size ep->Nb it s.heap h'->Q (a7 e[i].val) { s with heap:=h' }):ge (i3 p w) A (j1<|.ref it) Q E s:=by
 obtain⟨o,B,f,a⟩:=id t;obtain⟨j,G,c,k⟩:=id m;unfold j1;refine p8<|NI<|Nh (name:=AA0 "__next__") t.typeIs F.slot_dict_valueiterator_next<|K1 F.slot_dict_valueiterator_next t.typeIs F.entry_dict_valueiterator_next ?_<|F.args_dict_valueiterator_next_1 _;refine p8<|t4<|p8<|p8 ?_
 first|refine p8 (Q1 t.typeIs<|t4<|p8<|MT B a ?_)|refine p8<|QT t.typeIs<|t4<|p8<|MT B a ?_
 simp only[show P7 "dict_valueiterator" = c5 by decide,B9,o8];refine(show ge (i3 p w) _ (if (G1 d==Mo)=a9 then _ else _) _ _ s from ?_);rw[o0<|by exact Nt];refine p8<|t4<|p8<|OZ G k ?_;rw[o0<|by simp];refine p8<|t4<|p8<|OY G k ?_;rw[o0<|by simp];refine t4 ?_;simp only[show ¬((i:Int)<0)from by lia,o8,Nr,G9 hi];refine p8 ?_
 first|refine p8 (Q1 t.typeIs<|t4 ?_)|refine p8<|QT t.typeIs<|t4 ?_
 refine p8<|Ro t.typeIs ?_;refine(show ge (i3 p w) _ (setField (.ref it) 1 (j4<|(i:Int)+1) >>= _) _ _ s from p8<|Nm B a (by simp) ?_);have h:(s.heap.update it (Oj (·.setIfInBounds 1 (j4<|(i:Int)+1)))).IsValIter it d (i+1) e.size ep:=by refine⟨_,L1 _ B<|Obj.isFreed_of_fields<|QD a _,(Obj.cls_mapFields ..).trans f,?_⟩;rw[QD a];simp[j4]
 refine p8 (D7 (p8 (Ro (s:={ s with heap:=s.heap.update it (Oj (·.setIfInBounds 1 (j4<|(i:Int)+1))) }) h.typeIs (p8 (Ro (s:={ s with heap:=s.heap.update it (Oj (·.setIfInBounds 1 (j4<|(i:Int)+1))) }) h.typeIs ?_)))));refine(show ge (i3 p w) _ (pure e[i].val) _ _ _ from ?_);exact t4<|t4 ⟨_,rfl,t4<|b _ h<|Mr ..⟩
theorem xP(e:A.handled=a8)(t:s.heap.IsValIter it d l.size l.size ep)(f:dI s.heap d l ep)(c:∀h',Heap.ExtBut it s.heap h'->Q a8 { s with heap:=h' }):ge (i3 p w) A (j1<|.ref it) Q E s:=by
 obtain⟨o,B,g,h⟩:=id t;obtain⟨j,G,i,k⟩:=id f;unfold j1;refine p8<|NI<|Nh (name:=AA0 "__next__") t.typeIs F.slot_dict_valueiterator_next<|K1 F.slot_dict_valueiterator_next t.typeIs F.entry_dict_valueiterator_next ?_<|F.args_dict_valueiterator_next_1 _;refine p8<|t4<|p8<|p8 ?_
 first|refine p8 (Q1 t.typeIs<|t4<|p8<|MT B h ?_)|refine p8<|QT t.typeIs<|t4<|p8<|MT B h ?_
 simp only[show P7 "dict_valueiterator" = c5 by decide,B9,o8];refine(show ge (i3 p w) _ (if (G1 d==Mo)=a9 then _ else _) _ _ s from ?_);rw[o0<|by exact Nt];refine p8<|t4<|p8<|OZ G k ?_;rw[o0<|by simp];refine p8<|t4<|p8<|OY G k ?_;rw[o0<|by simp];refine t4 ?_;simp only[show ¬((l.size:Int)<0)from by lia,o8,Nr,O3<|u7 l.size];refine p8 ?_
 first|refine p8 (Q1 t.typeIs<|t4 ?_)|refine p8<|QT t.typeIs<|t4 ?_
 refine(show ge (i3 p w) _ (setField (.ref it) 0 .none >>= _) _ _ s from p8<|Nm B h (by simp) ?_);refine(show ge (i3 p w) _ (newExc (.type "StopIteration") [] >>= _) _ _ _ from p8 ?_);simp only[newExc,newTuple];refine p8 (J5 ?_<|by size_fits);refine p8 (m:=n6 _ _)<|wpAny_of_eq (a:=Mo) (by first|rfl|(simp only[n6];rfl)) ?_;refine J5 ?_ (by size_fits);simp only[raiseNew];refine p8<|wpAny_handled ?_;rw[show A.in1.handled=a8 from e];refine p8<|t4<|wpAny_throw ?_;refine p8<|Ow (b:=a9) (T:="StopIteration") ⟨_,A1 _ rfl,rfl⟩ isSubtype_stop ?_;exact t4<|c _<|((Mr ..).extBut.push _).push _
theorem zc(l:A.handled=a8)(I:d5)(j:d≠I):m7 p w A I [I,d] [I] m.size (λi v=>∃e,m[i]?=a7 e/\v=e.val) (λi h=>h.IsValIter I d i m.size ep/\dI h d m ep) where
 sub:=λb a=>by simp at a;simp[a]
 frame:=λ_ _ _ st k=>⟨st.1.at λo e=>k I (by simp) o e,st.2.to λo e=>k d (by simp) o e⟩
 item:=λi s Q E hi st c=>uh st.1 st.2 hi λh' f u=>c _ h' s.toks ⟨m[i],by simp[hi],rfl⟩ ⟨f,st.2.to λo e=>u.extBut d o j e⟩ λb o a e=>u.extBut b o (λh=>a<|by simp[h]) e
 done:=λs Q E st c=>xP l st.1 st.2 λh' g=>c h' s.toks λb o a e=>g b o (λh=>a<|by simp[h]) e
 self:=λ_ _ _ _ st c=>wpAny_pyIter_valiter st.1 c
noncomputable def Itv(a:d5)(n:Nat):It:=⟨λi H=>∃s x v,H a=a7 (.ext<|dX a s)/\s.length=n/\s[i]?=a7 x/\aZ v x.2.2,λi H v H'=>H'=H/\∀s,H a=a7 (.ext<|dX a s)->∃x,s[i]?=a7 x/\aZ v x.2.2,λi H=>(∃s,H a=a7 (.ext<|dX a s)/\s.length=n)/\i=n⟩
theorem zF{P:c9}{w:c8}{K:u4}{tg:h8}(a it:d5)(n:Nat):Turn P w K tg (Itv a n) [it] it (λi h=>h.IsValIter it a i n n) where
 mem:=by simp
 obj:=λi h st b f=>by
  obtain rfl:b=it:=by simpa using f
  obtain⟨o,e,c,d⟩:=st;exact⟨o,e,λv z=>by rw[d]at z;cases z⟩
 keep:=λi h h' st k=>st.at λo e=>k it (by simp) o e
 item:=by
  intro X L M G T i p s σ H E I m st S;subst L M G;obtain⟨xs,x,v,F,rfl,hx,V⟩:=S;obtain⟨es,J,l,O⟩:=iN I F;obtain⟨e,t,e2,R⟩:=O i x hx;obtain⟨u,y,f2,B,C,D⟩:=m it (by simp);have g:i<es.size:=(Ni.mp t).1;have N:es[i]=e:=by rw[G9 g]at t;exact A8 t
  rw[<-l]at J st;refine uh st J g λh' j sb=>?_;rw[N,R];have Z:r9 X p σ H { s with heap:=h' }:=I.turned (t':=s.toks) (λb o f e=>(sb.2 b f).trans e) u y B C D;obtain⟨o,q1,q2,q3⟩:=id j;refine⟨_,rfl,za (s:={ s with heap:=h' }) q1 q2 q3 (by decide) ⟨v,H,Z,V,⟨rfl,λys hy=>?_⟩,by rw[l]at j;exact j,λb f=>(m b f).1⟩⟩;obtain⟨aj,r,ai,q⟩:=iN I hy;obtain⟨rfl,ep⟩:=xQ J r;have U:i<ys.length:=by lia
  obtain⟨e',W,_,Y⟩:=q i ys[i]<|w9 U;rw[G9 g,N]at W;obtain rfl:=A8 W;rw[R]at Y;exact⟨ys[i],w9 U,by rw[<-Y];exact V⟩
 done:=by intro X L M G T i p s σ H E I m st S;subst L M G;obtain⟨⟨xs,F,rfl⟩,rfl⟩:=S;obtain⟨es,J,l,O⟩:=iN I F;obtain⟨u,y,f2,B,C,D⟩:=m it (by simp);rw[<-l]at J st;exact xP (I.ok.hd T) st J λh' he=>⟨rfl,I.turned (t':=s.toks) (λb o f e=>he b o f e) u y B C D⟩
 self:=λA i s Q E st hQ=>wpAny_pyIter_valiter st hQ
def xU(e:v8):ME:=λS M R=>e S M λd a=>match d with
 |.ref n=>∃s,a[n]?=a7 (.dkt s)/\(s.length<=sizeLine->R ⟨s.map (·.2),λM=>M[n]?=a7 (.dkt s)⟩ a)
 |_=>False
theorem EO(ho:DE X o to)(l:l6 o "values" X.env (eval o X.env)=eval o X.env:=by rfl)(m:(apos.endLine==cpos.line)=a9:=by rfl):DI X tg (.Call (.Attribute o "values" apos) [] [] cpos) (xU to):=by
 intro f s σ H R I h;obtain⟨S,M,ρ,Q,sm,sr,q,k⟩:=h;refine wpAny_Call_method0_late l m<|v4 (ho f s σ H _ I ⟨S,M,ρ,_,sm,sr,q,λv H' w=>w⟩) ?_;rintro u E ⟨v,J,L,D,d,N,V,G,g1,r1,q1⟩;cases r1 with
 |@ref n a K =>
  cases D;obtain⟨c,hM,q2⟩:=(show ∃c,N[n]?=a7 (.dkt c)/\(c.length<=sizeLine->Q ⟨c.map (·.2),λM=>M[n]?=a7 (.dkt c)⟩ N)from q1)
  obtain⟨xs,hH,r,Z,W,hz,hx,nd⟩:=iO L G K hM;obtain⟨es,em,el,_⟩:=iN L hH;refine⟨"dict","dict.values",QQ,RC,PySem.F.type_dict_values,Z.typeIs,λb z=>?_,P5 rfl<|PySem.evalArgs_none<|pR W em ?_⟩;cases z;obtain⟨ob,_,_,h1,h2,_⟩:=Z;exact⟨ob,h1,h2.2.1⟩;have B:r9 X f σ J { E with heap:=E.heap.push { cls:=.type "dict_values",data:=.fields #[.ref a] } }:=L.kept (t':=E.toks) λb o e=>v5 _ e;have P:dI ({ E with heap:=E.heap.push { cls:=.type "dict_values",data:=.fields #[.ref a] } }:f7).heap a es xs.length:=em.to λo e=>v5 _ e;refine ui (d:=a) ⟨_,A1 _ rfl,rfl,rfl⟩ P ?_;rw[el];have T:∀j:f7,r9 X f σ J j->Qb X f σ tg R (.ref j.heap.objs.size) { j with heap:=j.heap.push { cls:=.type "dict_valueiterator",data:=.fields #[.ref a,.int 0 0,.int xs.length 0,.int xs.length 0] } }:=λj B=>by
   refine⟨j.heap.objs.size,[j.heap.objs.size],_,_,J,rfl,B.kept (t':=j.toks) λb o e=>v5 _ e,zF a _ xs.length,⟨_,A1 _ rfl,rfl,rfl⟩,λb hb=>?_,k _ J ⟨⟨c.map (·.2),λM=>M[n]?=a7 (.dkt c)⟩,N,V,G,g1,?_,q2 hz⟩⟩;obtain rfl:b=j.heap.objs.size:=by simpa using hb
   exact B.fpOk (u7 _)<|B.hok.fresh<|u7 _;refine⟨λi t Y H' s' g ok hi=>?_,λi t Y H' x H2 s' g ok hi y=>?_,λt Y H' s' g ok=>?_⟩;obtain⟨_,_,_,ys,O,A⟩:=s'.obj _ _ _ (aK g.pre K) ok;have ly:ys.length=c.length:=by have:=p6 K8<|jo A;rwa [u6,u6]at this
   rw[u6]at hi;have hj:i<ys.length:=by lia
   obtain⟨p,_,_,_,_,v,_,D⟩:=eH A<|w9 hj;exact⟨ys,ys[i],v,O,by lia,w9 hj,D⟩;obtain⟨rfl,C⟩:=y;obtain⟨_,_,_,ys,O,A⟩:=s'.obj _ _ _ (aK g.pre K) ok;obtain⟨z,U,rz⟩:=C ys O;obtain⟨p,hp,_,_,_,v,rp,D⟩:=eH A U;obtain rfl:x=v:=rz.inj D;exact⟨p.2,t,by rw[C8,hp];rfl,s',.refl,rp⟩;obtain⟨_,_,_,ys,O,A⟩:=s'.obj _ _ _ (aK g.pre K) ok;have ly:ys.length=c.length:=by have:=p6 K8<|jo A;rwa [u6,u6]at this
   exact⟨⟨ys,O,by lia⟩,by rw[u6];lia⟩
  exact T _ B
 |_=>exact q1.elim
theorem EJ:KdlSrc p w "dict_values" r d es.size (λi v=>∃e,es[i]?=a7 e/\v=e.val) (λh=>h.IsValuesView r d/\dI h d es ep) where
 type:=λ_ m=>m.1.typeIs
 there:=λ_ m=>⟨let ⟨_,ho,_⟩:=m.1;v9 ho,m.2.lt⟩
 keep:=λ_ _ m k=>⟨let ⟨o,ho,x⟩:=m.1;⟨o,k r (.inl rfl) o ho,x⟩,m.2.to λo e=>k d (.inr rfl) o e⟩
 notList:=by decide
 notTuple:=by decide
 hint:=λ_ _ _ _ m q=>kdl_hint_values m.1.typeIs q
 iter:=λ_ _ a m=>⟨_,_,(λ_ _ q=>ui m.1 m.2 q),zc a _<|x6 m.2.lt,⟨⟨_,A1 _ rfl,rfl,rfl⟩,m.2.to λo e=>v5 _ e⟩⟩
theorem zD{K:u4}{ρ:List d5}{H:Hp}{k:List (D×D)}{s:List (D×d5×c6)}(r:Paired (yd K ρ H) k s):∃w,Reps K ρ H (k.map (·.2)) w/\aB w (s.map λx=>x.2.2):=by
 induction r with
 |nil=>exact⟨[],.nil,.nil⟩
 |cons h t i=>obtain⟨_,_,_,v,c,j⟩:=h;obtain⟨w,h1,h2⟩:=i;exact⟨v::w,.cons c h1,.cons j h2⟩
def kr(e:v8):v8:=λS M Q=>e S M λd a=>match d with
 |.ref n=>∃s,a[n]?=a7 (.dkt s)/\Q (.ref a.length) (a++[.lst (s.map (·.2))])
 |_=>False
theorem zf(hc:X.calm=a9)(ho:DE X o to)(hm:X.mg "list" = a8)(hg:X.env.kindOf "list" = a7 .globalImplicit)(hs:i5 [NT (.Attribute o "values" apos) [] [] cpos] X.env=[(c5,eval (NT (.Attribute o "values" apos) [] [] cpos) X.env)])(i:l6 o "values" X.env (eval o X.env)=eval o X.env) (k:(apos.endLine==cpos.line)=a9):DE X (.Call (.Name "list" p) [.Call (.Attribute o "values" apos) [] [] cpos] [] pos) (kr to):=by
 rintro g s σ H R I ⟨S,M,ρ,Q,sm,sr,q,kk⟩;refine OC<|lP I hg hm (by rfl) ?_;refine callWith_type1 ?_ (by rw[hs];rfl) rfl;rw[hs];refine QH<|wpAny_Call_method0_late i k<|v4 (ho g s σ H _ I ⟨S,M,ρ,_,sm,sr,q,λv H' w=>w⟩) ?_;rintro u f ⟨v,C,y,rv,x,A,aj,m,g1,r1,E⟩;cases r1 with
 |@ref n a hn =>
  cases rv;obtain⟨l,hM,q2⟩:=(show ∃l,A[n]?=a7 (.dkt l)/\Q (.ref A.length) (A++[.lst (l.map (·.2))])from E)
  obtain⟨xs,Z,r,D,W,hz,hx,nd⟩:=iO y m hn hM;obtain⟨es,J,el,T⟩:=iN y Z;refine⟨"dict","dict.values",QQ,RC,PySem.F.type_dict_values,D.typeIs,λb z=>?_,P5 rfl<|PySem.evalArgs_none<|pR W J ?_⟩;cases z;obtain⟨ob,_,_,h1,h2,_⟩:=D;exact⟨ob,h1,h2.2.1⟩;refine QA ?_;have t:r9 X g σ C { f with heap:=f.heap.push { cls:=.type "dict_values",data:=.fields #[.ref a] } }:=y.kept (t':=f.toks) λb o e=>v5 _ e;have P:dI ({ f with heap:=f.heap.push { cls:=.type "dict_values",data:=.fields #[.ref a] } }:f7).heap a es xs.length:=J.to λo e=>v5 _ e;have G:({ f with heap:=f.heap.push { cls:=.type "dict_values",data:=.fields #[.ref a] } }:f7).heap.IsValuesView f.heap.objs.size a:=⟨_,A1 _ rfl,rfl,rfl⟩
  generalize ({ f with heap:=f.heap.push { cls:=.type "dict_values",data:=.fields #[.ref a] } }:f7)=B at t P G ⊢;refine kdl_call (EJ (es:=es) (ep:=xs.length)) (t.ok.hd hc) ⟨G,P⟩ (by lia) λh' tk c U hk Y h=>?_;obtain⟨ws,K,w2⟩:=zD r;have O:c.toList=xs.map λx=>x.2.2:=by
   refine Qx λj=>?_;rw[G8,C8];cases L:xs[j]? with
   |none =>
    have:xs.length<=j:=by rw[List.getElem?_eq_none_iff]at L;exact L
    rw[O3 (by have:=h.1;lia)];rfl
   |some x =>
    have ai:=(x9.mp L).1;have d:j<c.size:=by have:=h.1;lia
    obtain⟨e,g1,V⟩:=h.2 j c[j]<|G9 d;obtain⟨e',N,_,z2⟩:=T j x L;rw[g1]at N;obtain rfl:=A8 N;rw[G9 d,V,z2];rfl
  have hf:C B.heap.objs.size=a8:=t.hok.fresh<|u7 _;refine⟨.ref B.heap.objs.size,_,t.laid (a:=B.heap.objs.size) (o:=.lst ws) (t':=tk) hk (u7 _) ⟨by rw[<-K.length,u6];exact hz,c.toList,U,by rw[O];exact w2,by simpa using Y⟩,rfl,kk _ _<|VQ.laidL m g1 K hf q2⟩
 |_=>exact E.elim
def IY:D9:=λx y M Q=>match x,y with
 |.tup k,.ref n=>∃s,M[n]?=a7 (.dkt s)/\cS 8 (.tup k)=a9/\Q (.bl (aV s<|.tup k).isSome) M
 |_,_=>False
def qi:D9:=λx y M Q=>match x,y with
 |.tup k,.ref n=>∃s,M[n]?=a7 (.dkt s)/\cS 8 (.tup k)=a9/\Q (.bl<|!(aV s<|.tup k).isSome) M
 |_,_=>False
theorem Ku(i:Room k X.A):E3 X (j7 .In) IY:=by
 rintro p s σ H J K v u R I z B ⟨x,y,M,ρ,Q,m,l,o,q,D⟩;have G:=i.un;cases x with
 |tup c =>
  cases y with
  |ref n =>
   obtain⟨d,h,j,q⟩:=q;obtain⟨a,rfl,g⟩:=t9.inv_ref o;cases B;obtain⟨xs,C,r,f,W,E,F,_⟩:=iO I m g h;have t:=gM I 8 _ _ _ l z j;obtain⟨b,_,rfl,_⟩:=id t;refine wpAny_in_heap (knd:=bZ X.prog X.w) (k:=.tup c) (by show X.A.units+1+8<j9;lia) t W f ?_;have e:(m3 xs<|.tup c).isSome=(aV d<|.tup c).isSome:=by rcases tY r (.tup c)with⟨z1,z2⟩|⟨_,_,_,z1,z2,_⟩<;>rw[z1,z2]<;>rfl
   rw[e];exact gY (I.tok _) m D q
  |_=>exact q.elim
 |_=>exact q.elim
theorem Ba(i:Room k X.A):E3 X (j7 .NotIn) qi:=by
 rintro p s σ H J K v u R I z B ⟨x,y,M,ρ,Q,m,l,o,q,D⟩;have G:=i.un;cases x with
 |tup c =>
  cases y with
  |ref n =>
   obtain⟨d,h,j,q⟩:=q;obtain⟨a,rfl,g⟩:=t9.inv_ref o;cases B;obtain⟨xs,C,r,f,W,E,F,_⟩:=iO I m g h;have t:=gM I 8 _ _ _ l z j;obtain⟨b,_,rfl,_⟩:=id t;refine wpAny_notIn_heap (knd:=bZ X.prog X.w) (k:=.tup c) (by show X.A.units+1+8<j9;lia) t W f ?_;have e:(m3 xs<|.tup c).isSome=(aV d<|.tup c).isSome:=by rcases tY r (.tup c)with⟨z1,z2⟩|⟨_,_,_,z1,z2,_⟩<;>rw[z1,z2]<;>rfl
   rw[e];exact gY (I.tok _) m D q
  |_=>exact q.elim
 |_=>exact q.elim
def xV:s9:=λ_ _ _=>False
theorem EK{st:i6}:DS X st xV:=λp s σ H E I ⟨S,M,ρ,F,m,e,q,D⟩=>q.elim
theorem KQ:HE X (.Dict [] [] pos) re:=⟨LR⟩
theorem KR(r:Room k X.A)(B:HE X o to)(hi:HE X i ti)(hs:Jd i:=by intro _ _;kernel_rfl):HE X (.Subscript o i pos) (gZ to ti):=⟨LS r B.ok hi.ok hs⟩
theorem BB(r:Room k X.A)(B:HE X o to)(hi:HE X i ti)(c:HE X e te)(h:i8 e (a7<|.Subscript o i pos') pos.line X.env=pure c5:=by kernel_rfl):HS X (.Assign [.Subscript o i pos'] e pos) (qY to ti te):=⟨Iq r B.ok hi.ok c.ok h⟩
theorem HH(i:Room k X.A)(B:HE X o to)(f:HA X (e::s) t)(b:l6 o "get" X.env (eval o X.env)=eval o X.env:=by kernel_rfl)(w:((i4 cpos<|i5 (e::s) X.env).all (λx=>!x.1)&&(l7 cpos<|l8 [] X.env).all (λx=>x.1.isSome) && decide ((e::s).length+([]:List l9).length+(if ([]:List l9).isEmpty then 0 else 1)<30))=a9:=by kernel_rfl)(c:(apos.endLine==cpos.line)=a9:=by kernel_rfl) (h:i5 (e::s) X.env=(c5,eval e X.env)::i5 s X.env:=by kernel_rfl) (n:(i4 cpos<|i5 s X.env).any (·.1)=c5:=by kernel_rfl):HE X (.Call (.Attribute o "get" apos) (e::s) [] cpos) (ND iI to t):=⟨d_mt QM PySem.F.type_dict_get (DP i) B.ok f.ok b w c h n⟩
theorem Em(h:HE X e te):HI X tg e (lV te):=⟨EQ h.ok⟩
theorem El(B:HE X o to)(b:l6 o "values" X.env (eval o X.env)=eval o X.env:=by kernel_rfl)(c:(apos.endLine==cpos.line)=a9:=by kernel_rfl):HI X tg (.Call (.Attribute o "values" apos) [] [] cpos) (xU to):=⟨EO B.ok b c⟩
theorem yU(B:HE X o to)(d:X.mg "list" = a8)(f:X.calm=a9:=by kernel_rfl)(S:X.env.kindOf "list" = a7 .globalImplicit:=by kernel_rfl)(h:i5 [NT (.Attribute o "values" apos) [] [] cpos] X.env=[(c5,eval (NT (.Attribute o "values" apos) [] [] cpos) X.env)]:=by kernel_rfl)(b:l6 o "values" X.env (eval o X.env)=eval o X.env:=by kernel_rfl) (c:(apos.endLine==cpos.line)=a9:=by kernel_rfl):HE X (.Call (.Name "list" p) [.Call (.Attribute o "values" apos) [] [] cpos] [] pos) (kr to):=⟨zf f B.ok d S h b c⟩
theorem yW(i:Room k X.A)(f:X.calm=a9:=by kernel_rfl):HC X (.builtin "sorted") jZ:=⟨zj i f⟩
theorem Lj(i:Room k X.A):E7 X (j7 .In) IY:=⟨Ku i⟩
theorem BS(i:Room k X.A):E7 X (j7 .NotIn) qi:=⟨Ba i⟩
theorem xG{X:Cx}{st:i6}:HS X st xV:=⟨EK⟩
theorem xI{K:u4}{ρ:List d5}{H:Hp}:∀{s:List Int}{w:List V}{i:List c6},Reps K ρ H (s.map D.int) w->aB w i->IntsAre i s
 | [],_,_,r,v=>by cases r;cases v;exact .nil
 |n::s,_,_,r,v=>by
  rw[C4]at r
  first|have hzz:=Reps.inv_cons r|have hzz:=aB.inv_cons r
  clear r;obtain⟨_,_,rfl,h,t⟩:=hzz;cases h;cases v with
  |cons q q'=>obtain⟨tk,rfl⟩:=q;exact .cons _ _<|xI t q'
def Ay:D1:=λd M Q=>match d with
 | [.ref n]=>∃s:List Int,aA M n (s.map D.int)/\s≠[]/\∀m,m∈s->(∀a∈s,a<=m)->Q (.int m) M
 |_=>False
theorem IK(B:X.calm=a9):lq X (.builtin "max") Ay:=by
 rintro v s σ H vs us R I P ⟨ds,M,ρ,Q,x,g,q,F⟩;unfold Ay at q;split at q;obtain⟨ns,L,d,q⟩:=q
 first|have f:=Reps.inv_cons g|have f:=aB.inv_cons g
 clear g;obtain⟨_,_,rfl,K,g⟩:=f;cases g;obtain⟨u,rfl,y⟩:=aB.one P;obtain⟨a,rfl,e⟩:=t9.inv_ref K;cases y;obtain⟨Z,E,r⟩:=aA.seq x L e;obtain⟨its,O,w,W⟩:=I.list E;obtain⟨m,n,V⟩:=I.loc;obtain⟨J,Y,c,C,j,h⟩:=id w;have k:a≠X.env.locals:=λz=>by subst z;obtain⟨o,es,U,e,D,_⟩:=n;rw[c]at e;cases e;rw[D]at h;cases h
 have p:∀b o,b≠X.env.locals->s.heap.get? b=a7 o->(b,o)∈[]++(a,J)::Att.ledger s.heap X.env.locals a:=λb o h1 h2=>by rw[F4,A0,Att.mem_ledger];by_cases l:b=a;subst l;rw[c]at h2;cases h2;exact .inl rfl;exact .inr ⟨h1,l,h2⟩
 refine max_list_N (I.ok.hd B) (Att.fr_all n) (Att.news_ledger k c) w.isList (xI r O) (List.length_pos_iff.mpr d) λh' i t S T N h1 h2=>?_;have G:∀b u,b≠X.env.locals->s.heap.get? b=a7 u->h'.get? b=a7 u:=λb u A e=>(N (b,u)<|p b u A e).1;exact⟨.int i,H,I.keptF (t':=S) G n T.ns,⟨t,rfl⟩,F _ _ ⟨.int i,M,ρ,x,.refl,.int i,q i h1 h2⟩⟩;exact q.elim
theorem Mb:e9 "max" = a7 (.builtin "max"):=by decide +kernel
theorem Ie(f:X.calm=a9:=by kernel_rfl):HC X (.builtin "max") Ay:=⟨IK f⟩
end L2
namespace L2
open PySem PySem.Spec PyProof.Rows DL PySem.W PySem.Calls PyProof.V
structure PairsAt(es:Array m6)(lo:d5)(h:d7)(as:List d5):Prop where
 nd:as.Nodup
 above:∀a∈as,lo<a
 tup:∀(j:Nat) (a:d5),as[j]?=a7 a->∃e,es[j]?=a7 e/\h.get? a=a7 { cls:=.type "tuple",data:=.seq #[e.key,e.val] }
end L2
namespace L2
open PySem PySem.Spec PyProof.Rows DL PySem.W
def IX:D9:=λx y M Q=>match x,y with
 |.int i,.int j=>CPow i j/\Q (.int<|i*2 ^ j.toNat) M
 |_,_=>False
theorem Kp:E3 X (j6 .LShift) IX:=by refine C7.imp Ke ?_;rintro g l H R ⟨x,y,M,ρ,Q,s,r,m,q,k⟩;unfold IX at q;split at q;cases r;cases m;exact⟨_,_,rfl,rfl,q.1,k _ H<|VQ.now s (.int _) q.2⟩;exact q.elim
theorem Le:E7 X (j6 .LShift) IX:=⟨Kp⟩
theorem yX(i:Room k X.A):HC X (.builtin "sorted") kI:=⟨Cr i⟩
noncomputable def dictOf(a:List (D×D)):List (D×D):=a.foldl (λs p=>iK s p.1 p.2) []
theorem bL:dictOf (s++[p])=iK (dictOf s) p.1 p.2:=by unfold dictOf;rw[PQ];rfl
theorem uf:∀(a s:List (D×D)),(a.foldl (λs p=>iK s p.1 p.2) s).length<=s.length+a.length
 | [],_=>u7 _
 |p::a,s=>by have h1:=uf a<|iK s p.1 p.2;have h2:=qm (kvs:=s) (k:=p.1) (d:=p.2);rw[List.foldl_cons,C3];lia
theorem da:(dictOf ps).length<=ps.length:=by have:=uf ps [];rw[C2,Nat.zero_add]at this;exact this
theorem kn:entryFor table "dict.update.loop" = a7 Builtin.«dict.update.loop»:=entryFor_of_tree<|by kernel_rfl
theorem cf:plainId "dict.update.loop" = a9:=by decide +kernel
theorem kU:typeLookup (.type "list") "__getattr__" = pure a8:=by rw[PH,P3];kernel_rfl
theorem oo:typeLookup (.type "list") "keys" = pure a8:=by rw[PH,P3];kernel_rfl
section
variable{prog:c9}{w:c8}{A:f6}{E:c6->f7->Prop}{h:d7}{g:Array GenState}{d:Drawn}{t:Nat}{os:OsState}{a:d5}{o:d6}
theorem Bp(x:h.get? a=a7 o)(i:o.cls=.type "list")(j:o.dict=a8)(b:o.data=.seq s nn)(f:A.handled=a8)(q:∀h' tk e,Heap.NewAttrErr h h' e (.ref a) "keys"->R (.error<|.ref e) ⟨h',g,d,tk,os⟩):k5 (i3 prog w) A (.call (.builtin "list.__getattribute__") ⟨[.ref a,.str "keys" u],[]⟩) R ⟨h,g,d,t,os⟩:=by
 obtain⟨oc,k,c,G⟩:=o;obtain rfl:oc=.type "list":=i;obtain rfl:k=a8:=j;obtain rfl:c=.seq s nn:=b;have n:(⟨h,g,d,t,os⟩:f7).TypeIs (.ref a) "list":=⟨_,x,rfl⟩
 have l:=oo;refine codeAny_call_builtin Q3.plain PySem.F.entry_list_ga<|Q3.check _ _ _ _ _ _ _ _ n (PySem.F.args_list_getattribute_2 _ _) ?_;unfold Builtin.«object.__getattribute__»
 repeat (any_goals (first|assumption|wp_step))
 refine wpAny_raiseAttrError (o:=.ref a) (name:="keys") (by first|exact f|simpa using f) q ?_;exact attrMsg_fits (by decide +kernel)<|by size_fits
theorem vU(x:h.get? a=a7 o)(l:o.cls=.type "list")(j:o.dict=a8)(c:o.data=.seq v nn)(k:A.handled=a8)(q:∀h' tk,(∀b ob,h.get? b=a7 ob->h'.get? b=a7 ob)->Q a8 ⟨h',g,d,tk,os⟩):ge (i3 prog w) A (getAttr? (.ref a) "keys") Q E ⟨h,g,d,t,os⟩:=by
 obtain⟨oc,m,i,G⟩:=o;obtain rfl:oc=.type "list":=l;obtain rfl:m=a8:=j;obtain rfl:i=.seq v nn:=c;have n:∀tk,(⟨h,g,d,tk,os⟩:f7).TypeIs (.ref a) "list":=λ_=>⟨_,x,rfl⟩
 have p:=sub_AttributeError;have M:=Q3.lookup;have r:=Q3.bind<|.ref a;have y:=kU;unfold getAttr? getAttrBy? getAttrBy
 repeat (any_goals (first|assumption|exact n _|wp_step))
 refine Bp x rfl rfl rfl (by first|exact k|simpa using k) λh' tk e f=>?_;obtain⟨t',u,s⟩:=f.there;unfold getattributeRaised
 repeat (any_goals (first|assumption|wp_step))
 exact q _ _ f.keeps
end
theorem dsetE(u:(bZ prog w).room A)(t:(bZ prog w).is s.heap k b)(r:s.heap.DictOfH (bZ prog w) d xs) (x:dX d xs prog w s.heap) (hz:xs.length<=sizeLine)(m:∀h',dX d (storedH xs k b v) prog w h'->Nb d s.heap h'->Q () { s with heap:=h',toks:=s.toks+(bZ prog w).draws k }):ge (i3 prog w) A (dictSet d (.ref b) v) Q E s:=by
 obtain⟨_,_,_,_,_,_,_,g,f⟩:=r;obtain⟨o,es,B,n,h,c⟩:=x;have i:es.toList=xs.map (d9<|bZ prog w):=c;unfold dictSet
 try with_reducible refine D7 ?_
 refine p8<|(bZ prog w).pyHash u t ?_;unfold dictSetHashed
 try with_reducible refine D7 ?_
 have z:es.size=xs.length:=size_of_entries i;refine p8<|wpAny_dictFind_heap (s:={ s with toks:=s.toks+(bZ prog w).draws k }) u t B h i g f (λa=>?_) λj p L=>?_;refine p8<|MQ<|wpAny_updateDictKeys (hz:=by lia) (s:={ s with toks:=s.toks+(bZ prog w).draws k }) B h<|m _ ⟨_,es.push ⟨(bZ prog w).hash k,.ref b,v⟩,L1 _ B<|QJ<|QK h _,n.mapDictKeys _,?_,?_⟩<|Mr ..;rw[QK h,storedH_new<|Qt a,A3];rfl;rw[storedH_new<|Qt a];rw[Qw,i,F0];rfl;refine p8<|MQ<|p8<|wpAny_updateDict (s:={ s with toks:=s.toks+(bZ prog w).draws k }) B h<|wpAny_point<|m _ ⟨_,es.modify j λe=>{ e with val:=v },L1 _ B<|QJ<|Qo h _,n.mapDict _,?_,?_⟩<|Mr ..;rw[Qo h,storedH_old<|atKey_of_get f L,u6];rw[storedH_old<|atKey_of_get f L];have q:=modify_map_putAt (d9<|bZ prog w) (λe:m6=>{ e with val:=v }) k v (λ_ _=>rfl) f L;rw[<-i]at q;obtain⟨l⟩:=es;have y:(Array.modify ⟨l⟩ j λe:m6=>{ e with val:=v }).toList=(xs.map<|putAt k v).map (d9<|bZ prog w):=by simpa using q
 exact y
structure DD(X:Cx)(ρ:List d5)(H:Hp)(h:d7)(a:d5)(kvs:List (D×D))(xs:List (D×d5×c6)):Prop where
 dx:dX a xs X.prog X.w h
 kv:Paired (yd X.K ρ H) kvs xs
 nd:(kvs.map (·.1)).Nodup
theorem DD.at(x:DD X ρ H h a s b)(k:∀o,h.get? a=a7 o->h'.get? a=a7 o):DD X ρ H h' a s b:=by obtain⟨⟨o,e,t,l,R,I⟩,v,p⟩:=x;exact⟨⟨o,e,k _ t,l,R,I⟩,v,p⟩
theorem DD.len(x:DD X ρ H h a k s):s.length=k.length:=by
 have:=p6 K8<|jo x.kv
 rwa [u6,u6]at this
theorem DD.of(I:r9 X b σ H s)(x:DD X ρ H s.heap a f d):s.heap.DictOfH (bZ X.prog X.w) a d:=by obtain⟨o,g,t,l,R,e⟩:=x.dx;have k:=jo x.kv;refine⟨o,g,_,t,l,R,e,λy O=>?_,by rw[k];exact x.nd⟩;obtain⟨i,hi⟩:=Ng O;obtain⟨p,_,c,j,q,_⟩:=eH x.kv hi;rw[<-c];exact gM I 8 _ _ _ q rfl j
theorem Ck(I:r9 X pins σ H s)(hu:A.units+20<j9)(W:m7 X.prog X.w A.in1 J fp wr m P Sx)(S:d5)(x:S∉fp)(N:s.heap.get? S=a8) (E:∀b∈wr,s.heap.get? b=a8) (ps:List (D×D)) (hm:ps.length=m) (C:∀i v,P i v->∃p,ps[i]?=a7 p/\(∃vv,t9 X.K ρ H (.tup [p.1,p.2]) vv/\aZ vv v)/\cS 8 p.1=a9/\fY p.1=a9) (hb:m<=1000):∀(k i:Nat) (h:d7) (tk:Nat) (xs:List (D×d5×c6)) (j:Int) (t:Tok),m-i=k->i<=m->Sx i h->DD X ρ H h S (dictOf<|ps.take i) xs->(∀b u,s.heap.get? b=a7 u->h.get? b=a7 u) ->(∀h' tk xs',(∀b u,s.heap.get? b=a7 u->h'.get? b=a7 u)->DD X ρ H h' S (dictOf ps) xs'->R (.ok<|.ret .none) { s with heap:=h',toks:=tk }) ->k5 (i3 X.prog X.w) A (.builtin "dict.update.loop" ⟨[.ref S,.ref J,.int j t,.none],[]⟩) R { s with heap:=h,toks:=tk }:=by
 have y:S∉wr:=λh=>x<|W.sub _ h;intro k;induction k with
 |zero =>
  intro i h tk xs j t hk hi q G f Y;obtain rfl:i=m:=by lia
  refine Mp kn ?_;rw[MW cf _];refine(show ge (i3 X.prog X.w) A.in1 (j1 (.ref J) >>= _) _ _ _ from p8<|W.done _ _ _ q λh' tk d=>?_);rw[<-hm,K9]at G;refine(show ge (i3 X.prog X.w) A.in1 (Builtin.Dict.addKeywords S [] >>= _) _ _ _ from p8<|t4<|t4 ?_);exact Y h' tk xs (λb u e=>d b u (λz=>by rw[E b z]at e;cases e)<|f b u e)<|G.at λo e=>d S o y e
 |succ k ih =>
  intro i h tk xs j t hk hi q G f Y;refine Mp kn ?_;rw[MW cf _];refine(show ge (i3 X.prog X.w) A.in1 (j1 (.ref J) >>= _) _ _ _ from p8<|W.item i _ _ _ (by lia) q λv h' tk hP B d=>?_);obtain⟨p,hp,⟨vv,r,rv⟩,kd,it⟩:=C i v hP;have n:∀b u,s.heap.get? b=a7 u->h'.get? b=a7 u:=λb u e=>d b u (λz=>by rw[E b z]at e;cases e)<|f b u e;have L:r9 X pins σ H { s with heap:=h',toks:=tk }:=I.kept n;have c:=G.at λo e=>d S o y e;have hl:=c.len;have dl:=da (ps:=ps.take i);have dd:=c.of (s:={ s with heap:=h',toks:=tk }) L;obtain⟨a,vs,rfl,hq,l⟩:=t9.inv_tup r;cases rv
  first|have g:=Reps.inv_cons l|have g:=aB.inv_cons l
  clear l;obtain⟨_,_,rfl,r1,l⟩:=g
  first|have g:=Reps.inv_cons l|have g:=aB.inv_cons l
  clear l;obtain⟨_,_,rfl,r2,l⟩:=g;cases l;obtain⟨its,U,pl,hz⟩:=L.tuple hq;obtain⟨u1,u2,rfl,Z,e2⟩:=aB.two U;obtain⟨k0,d0⟩:=p;cases k0 with
  |tup ks =>
   have F:=gM L 8 _ _ _ r1 Z kd;obtain⟨b,_,rfl,_⟩:=id F;obtain⟨_,_,rfl,Q,V⟩:=t9.inv_tup r1;cases Z;obtain⟨o,ho,hc,nn,hd⟩:=pl;have hT:({ s with heap:=h',toks:=tk }:f7).TypeIs (.ref a) "tuple":=⟨o,ho,hc⟩
   refine p8<|D7<|p8<|OV ?_;unfold Builtin.Dict.pairItems;refine p8<|MS hT ?_;rw[n9<|by decide];refine p8<|Nd ho hd<|t4 ?_;refine(show ge (i3 X.prog X.w) _ (i7 [.ref b,u2]<|dictSet S (.ref b) u2) _ _ _ from D7 ?_);refine dsetE (k:=.tup ks) (s:={ s with heap:=h',toks:=tk }) (by show A.units+1+8<j9;lia) F dd c.dx (am<|by rw[hl];rw[F5]at dl;lia) λh2 M sb=>?_;have k2:∀b u,b≠S->h'.get? b=a7 u->h2.get? b=a7 u:=λb u hb e=>(sb.2 b hb).trans e;have T:=FE c.kv kd (.tup Q V) r2 e2;have et:ps.take (i+1)=ps.take i++[(.tup ks,d0)]:=by rw[Mh,hp];rfl
   refine t4 ⟨Mw cf _,ih (i+1) h2 _ _ _ _ (by lia) (by lia) (W.frame _ h' h2 B λb' O o e=>k2 b' o (λz=>x<|z ▸ O) e) ⟨M,?_,?_⟩ (λb u e=>k2 b u (λz=>by rw[z,N]at e;cases e)<|n b u e) Y⟩;rw[et,bL];exact T;rw[et,bL];exact qk c.nd
  |_=>cases it
theorem IN(I:r9 X pins σ H s)(V:A.units+30<j9)(B:A.handled=a8)(C:s.heap.IsList l its)(f:s.heap.get? l=a7 ol)(j:ol.dict=a8)(ps:List (D×D))(P:ps.length=its.size)(y:∀(i:Nat) v,its[i]?=a7 v->∃p:D×D,ps[i]?=a7 p/\(∃vv,t9 X.K ρ H (.tup [p.1,p.2]) vv/\aZ vv v)/\cS 8 p.1=a9/\fY p.1=a9) (O:its.size<=1000)(h:∀h' tk xs,(∀b u,s.heap.get? b=a7 u->h'.get? b=a7 u)->DD X ρ H h' s.heap.objs.size (dictOf ps) xs->Q (.ref s.heap.objs.size) { s with heap:=h',toks:=tk }):ge (i3 X.prog X.w) A (call (.type "dict") [.ref l]) Q E s:=by
 refine callType_codes (Q₁:=λg s₁=>g=.ref s.heap.objs.size/\s₁={ s with heap:=s.heap.push { cls:=.type "dict",data:=.dict #[] } }) Rr (RI _) Rv (kt_code_dict_new _ ⟨rfl,rfl⟩) ?_;rintro g s₁ ⟨rfl,rfl⟩;have S:(s.heap.push { cls:=.type "dict",data:=.dict #[] }).get? s.heap.objs.size=a7 { cls:=.type "dict",data:=.dict #[] }:=A1 _ rfl;have z:NG { s with heap:=s.heap.push { cls:=.type "dict",data:=.dict #[] } } (.ref s.heap.objs.size) "dict":=⟨_,S,rfl⟩
 obtain⟨a,N,r,Y,n⟩:=id C;obtain rfl:a=ol:=A8<|N.symm.trans f;have c:(s.heap.push { cls:=.type "dict",data:=.dict #[] }).get? l=a7 a:=v5 _ f;have L:NG { s with heap:=s.heap.push { cls:=.type "dict",data:=.dict #[] } } (.ref l) "list":=⟨a,c,r⟩
 have U:l<s.heap.objs.size:=v9 f;refine⟨z,RB _ _,?_⟩;unfold Builtin.«dict.__init__»;refine p8 ?_;unfold RA;refine p8<|O2 z ?_;refine(show ge _ _ (pure (s.heap.objs.size,[G1 l])) _ _ _ from t4 ?_);refine(show ge _ _ (O4 "dict.__init__" s.heap.objs.size (.ref l) [] .none) _ _ _ from ?_);unfold O4;refine p8<|MS L ?_;rw[n9<|by decide];refine p8<|vU c r j n (by simpa using B) λh1 x F=>?_;have k:∀b u,s.heap.get? b=a7 u->h1.get? b=a7 u:=λb u e=>F b u<|v5 _ e;rw[n9<|show (a8:Option c6).isNone=a9 from rfl];refine p8<|MQ ?_;obtain⟨Z,St,t,W,st⟩:=(TxSrc.list (prog:=X.prog) (w:=X.w) C).iter A.in1.in1 { s with heap:=h1,toks:=x } (by simpa using B) λo e=>k _ _ e;refine p8<|t _ _ ?_;have d:=F _ _ S;have J:s.heap.objs.size<h1.objs.size:=v9 d;have G:s.heap.get? s.heap.objs.size=a8:=by
  cases q:s.heap.get? s.heap.objs.size with
  |none=>rfl
  |some o=>exact o4 (v9 q)<|D5 _
 refine t4 ⟨Mw cf _,Ck (A:=A.in1) (s:=s) I (by show A.units+1+20<j9;lia) W s.heap.objs.size ?_ G ?_ ps P y O its.size 0 _ _ [] _ _ rfl (z5 _) st ⟨⟨_,#[],v5 _ d,⟨rfl,rfl,rfl⟩,rfl,rfl⟩,.nil,On⟩ (λb u e=>v5 _<|k b u e) λh2 T xs R M=>⟨rfl,h h2 T xs R M⟩⟩;simp only[A0,PJ,or_false,not_or];exact⟨x6 J,OS U⟩;intro b m;rw[J6.mp m];cases q:s.heap.get? h1.objs.size with
 |none=>rfl
 |some o=>exact o4 (Pq (v9 q) J)<|D5 _
def iV:D1:=λd M Q=>match d with
 | [.ref n]=>∃s:List (D×D),aA M n (s.map λp=>.tup [p.1,p.2])/\(∀p∈s,cS 8 p.1=a9/\fY p.1=a9)/\s.length<=1000/\Q (.ref M.length) (M++[.dkt<|dictOf s])
 |_=>False
theorem Cs(J:Room k X.A)(D:X.calm=a9):lq X (.type "dict") iV:=by
 rintro x s σ H vs us R I Y ⟨ds,M,ρ,Q,n,b,q,N⟩;have un:=J.un;unfold iV at q;split at q;obtain⟨ps,L,F,hl,q⟩:=q
 first|have z:=Reps.inv_cons b|have z:=aB.inv_cons b
 clear b;obtain⟨_,_,rfl,l,b⟩:=z;cases b;obtain⟨u,rfl,t⟩:=aB.one Y;obtain⟨a,rfl,e⟩:=t9.inv_ref l;cases t;obtain⟨ws,G,r⟩:=aA.seq n L e;obtain⟨its,B,y,hz⟩:=I.list G;obtain⟨oa,nn,g,E,j,h⟩:=id y;have P:=r.length;have li:=B.length;rw[u6]at P;have f:H s.heap.objs.size=a8:=I.hok.fresh<|u7 _;have C:(s.heap.objs.size==d8)=c5:=beq_eq_false_iff_ne.mpr<|B8<|x6 I.big;refine IN (A:=X.A) (ρ:=ρ) I (by lia) (I.ok.hd D) y.isList g j ps (by rw[z7];lia) (λi v K=>?_) (by rw[z7];lia) λh' Z xs O c=>?_;obtain⟨d,vv,t,l,m⟩:=gD r B (i:=i) (u:=v) (by simpa using K);rw[C8]at t;obtain⟨p,w,rfl⟩:=Mz.mp t;exact⟨p,w,⟨vv,l,m⟩,F p<|D2 w⟩;have dl:=da (ps:=ps);refine⟨.ref s.heap.objs.size,_,I.laid (a:=s.heap.objs.size) (o:=.ext<|dX s.heap.objs.size xs) (t':=Z) O (u7 _)<|qU c.dx,rfl,?_⟩;exact N _ _ ⟨.ref M.length,M++[.dkt<|dictOf ps],ρ++[s.heap.objs.size],n.laidM (mo:=.dkt<|dictOf ps) f ⟨am (by lia),C,c.nd,xs,aR,Paired.mapP c.kv λ_ _ ⟨S,T,U,v,V,W⟩=>⟨S,T,U.grow<|Grow.laidR f,v,V.grow<|Grow.laidR f,W⟩⟩,Grow.laidR f,.ref n.last,q⟩;exact q.elim
theorem BX(i:Room k X.A)(f:X.calm=a9:=by kernel_rfl):HC X (.type "dict") iV:=⟨Cs i f⟩
noncomputable abbrev EE(M:t8)(R:DK):DEnds:=⟨λ_ M'=>bb M R .non M',bb M R,λ_ _=>False,λ_ _=>False⟩
noncomputable def RP(n:Nat)(d:List D):SD:=d.map a7++Py (n-d.length) a8
abbrev z0(Pr:w6)(n:Nat)(t:s9):Prop:=∀ds M R,Pr ds M R->t (EE M R) (RP n ds) M
abbrev cr(Pr:w6)(p:List c7):Prop:=∀ds M R,Pr ds M R->ds.length=p.length
abbrev DerT(P:c9)(w:c8)(K:u4)(mg:c7->Option c6)(base:d7)(k:Nat)(x:c7)(N:List c7)(st:i6)(t:s9):Prop:=∀(f:d5) (cdv:c6) (A:f6) (outer:List Env) (s:f7) (H:Hp) (E:XK),Room k (A.deeper<|PyProof.Rows.envOfC x (av st) s.heap.objs.size f cdv)->HB (uz E8 P w K mg base N x (av st) f cdv A outer s H E).nox (bV st) t
def uv(c:F7)(t:s9):s9:=λE S M=>∃W:Nat->SD->t8->Prop,(∃m,W m S M)/\∀m S M,W m S M ->c S M λb e=>if b=a9 then t ⟨λd a=>∃g,g < m/\W g d a,E.rt,E.nx,λd a=>∃g,g < m/\W g d a⟩ S e else E.nx S e
theorem yI{K:u4}{c:F7}{o:s9}(E:Ends)(σ:St)(H:Hp)(h:lowS K (uv c o) E σ H):Fu (lowT K c) (lowS K o) E σ H:=by
 obtain⟨S,M,ρ,F,s,I,⟨W,⟨D,J⟩,t⟩,k⟩:=h;refine⟨λm τ l=>∃a f d,u9 K d f l/\Grow K ρ H d l/\SRep K d l a τ/\W m a f,⟨D,S,M,ρ,s,.refl,I,J⟩,?_⟩;rintro m τ l ⟨a,f,d,G,B,u,L⟩;refine⟨a,f,d,_,G,u,t m a f L,?_⟩;rintro b p ⟨M3,j,r,g3,q⟩;have g:=B.trans g3;cases b with
 |true =>
  have n:∀e Y,SQ K j p (λy w=>∃i,i < m/\W i y w) e Y->∃i,i < m/\∃a f d,u9 K d f Y/\Grow K ρ H d Y/\SRep K d Y a e/\W i a f:=λe Y ⟨A,x,P,s5,C,N,i,lt,O⟩=>⟨i,lt,A,x,P,s5,g.trans C,N,O⟩
  refine bj ⟨_,λQ H' z=>z,a,M3,j,_,r,u.grow g3,(show o _ a M3 from q),?_⟩;exact⟨n,λv Y z=>k.rt v Y<|VQ.trans g z,λe Y z=>k.nx e Y<|SQ.trans g z,n⟩
 |false=>exact bh<|k.nx τ p ⟨a,M3,j,r,g,u.grow g3,(show F.nx a M3 from q)⟩
theorem xF(f:HT X c tc)(d:HB X b tb)(p:PassesOwn (i3 X.prog X.w) X.A X.env X.xe:=by exact PassesOwn.never):HS X (.While c b [] pos) (uv tc tb):=⟨PS.imp (Dl p f.ok d.ok) yI⟩
theorem qb:typeLookup (.type "tuple") "keys" = pure a8:=by rw[PH,P3];kernel_rfl
section
variable{prog:c9}{w:c8}{A:f6}{E:c6->f7->Prop}{h:d7}{g:Array GenState}{d:Drawn}{t:Nat}{os:OsState}{a:d5}{o:d6}
theorem CW(x:h.get? a=a7 o)(i:o.cls=.type "tuple")(j:o.dict=a8)(b:o.data=.seq s nn)(f:A.handled=a8)(q:∀h' tk e,Heap.NewAttrErr h h' e (.ref a) "keys"->R (.error<|.ref e) ⟨h',g,d,tk,os⟩):k5 (i3 prog w) A (.call (.builtin "tuple.__getattribute__") ⟨[.ref a,.str "keys" u],[]⟩) R ⟨h,g,d,t,os⟩:=by
 obtain⟨oc,k,c,G⟩:=o;obtain rfl:oc=.type "tuple":=i;obtain rfl:k=a8:=j;obtain rfl:c=.seq s nn:=b;have n:(⟨h,g,d,t,os⟩:f7).TypeIs (.ref a) "tuple":=⟨_,x,rfl⟩
 have l:=qb;refine codeAny_call_builtin Q4.plain PySem.F.entry_tuple_ga<|Q4.check _ _ _ _ _ _ _ _ n (PySem.F.args_tuple_getattribute_2 _ _) ?_;unfold Builtin.«object.__getattribute__»
 repeat (any_goals (first|assumption|wp_step))
 refine wpAny_raiseAttrError (o:=.ref a) (name:="keys") (by first|exact f|simpa using f) q ?_;exact attrMsg_fits (by decide +kernel)<|by size_fits
theorem oF(x:h.get? a=a7 o)(l:o.cls=.type "tuple")(j:o.dict=a8)(c:o.data=.seq v nn)(k:A.handled=a8)(q:∀h' tk,(∀b ob,h.get? b=a7 ob->h'.get? b=a7 ob)->Q a8 ⟨h',g,d,tk,os⟩):ge (i3 prog w) A (getAttr? (.ref a) "keys") Q E ⟨h,g,d,t,os⟩:=by
 obtain⟨oc,m,i,G⟩:=o;obtain rfl:oc=.type "tuple":=l;obtain rfl:m=a8:=j;obtain rfl:i=.seq v nn:=c;have n:∀tk,(⟨h,g,d,tk,os⟩:f7).TypeIs (.ref a) "tuple":=λ_=>⟨_,x,rfl⟩
 have p:=sub_AttributeError;have M:=Q4.lookup;have r:=Q4.bind<|.ref a;have y:=PySem.am_tuple_getattr_none;unfold getAttr? getAttrBy? getAttrBy
 repeat (any_goals (first|assumption|exact n _|wp_step))
 refine CW x rfl rfl rfl (by first|exact k|simpa using k) λh' tk e f=>?_;obtain⟨t',u,s⟩:=f.there;unfold getattributeRaised
 repeat (any_goals (first|assumption|wp_step))
 exact q _ _ f.keeps
end
theorem r9.tupN(I:r9 X c σ H s)(h:A2 X.K H a x):∃i:List c6,aB x i/\Fj s.heap a i.toArray/\x.length<=sizeLine:=by
 rcases h with h|⟨o,i,n,k,f,d,g,b,r⟩
 obtain⟨z,i,r,p⟩:=h.ok I.hok;exact⟨i,r,p,z⟩;refine⟨i.toList,r,⟨o,I.kIn a o k,f,⟨n,by simpa using g⟩,d⟩,?_⟩;have e:=r.length;simp only[E2]at e;lia
theorem Fd(I:r9 X pins σ H s)(V:A.units+30<j9)(B:A.handled=a8)(C:s.heap.IsTuple l its)(f:s.heap.get? l=a7 ol)(j:ol.dict=a8)(ps:List (D×D))(P:ps.length=its.size)(y:∀(i:Nat) v,its[i]?=a7 v->∃p:D×D,ps[i]?=a7 p/\(∃vv,t9 X.K ρ H (.tup [p.1,p.2]) vv/\aZ vv v)/\cS 8 p.1=a9/\fY p.1=a9) (O:its.size<=1000)(h:∀h' tk xs,(∀b u,s.heap.get? b=a7 u->h'.get? b=a7 u)->DD X ρ H h' s.heap.objs.size (dictOf ps) xs->Q (.ref s.heap.objs.size) { s with heap:=h',toks:=tk }):ge (i3 X.prog X.w) A (call (.type "dict") [.ref l]) Q E s:=by
 refine callType_codes (Q₁:=λg s₁=>g=.ref s.heap.objs.size/\s₁={ s with heap:=s.heap.push { cls:=.type "dict",data:=.dict #[] } }) Rr (RI _) Rv (kt_code_dict_new _ ⟨rfl,rfl⟩) ?_;rintro g s₁ ⟨rfl,rfl⟩;have S:(s.heap.push { cls:=.type "dict",data:=.dict #[] }).get? s.heap.objs.size=a7 { cls:=.type "dict",data:=.dict #[] }:=A1 _ rfl;have z:NG { s with heap:=s.heap.push { cls:=.type "dict",data:=.dict #[] } } (.ref s.heap.objs.size) "dict":=⟨_,S,rfl⟩
 obtain⟨a,N,r,Y,n⟩:=id C;obtain rfl:a=ol:=A8<|N.symm.trans f;have c:(s.heap.push { cls:=.type "dict",data:=.dict #[] }).get? l=a7 a:=v5 _ f;have L:NG { s with heap:=s.heap.push { cls:=.type "dict",data:=.dict #[] } } (.ref l) "tuple":=⟨a,c,r⟩
 have U:l<s.heap.objs.size:=v9 f;refine⟨z,RB _ _,?_⟩;unfold Builtin.«dict.__init__»;refine p8 ?_;unfold RA;refine p8<|O2 z ?_;refine(show ge _ _ (pure (s.heap.objs.size,[G1 l])) _ _ _ from t4 ?_);refine(show ge _ _ (O4 "dict.__init__" s.heap.objs.size (.ref l) [] .none) _ _ _ from ?_);unfold O4;refine p8<|MS L ?_;rw[n9<|by decide];refine p8<|oF c r j n (by simpa using B) λh1 x F=>?_;have k:∀b u,s.heap.get? b=a7 u->h1.get? b=a7 u:=λb u e=>F b u<|v5 _ e;rw[n9<|show (a8:Option c6).isNone=a9 from rfl];refine p8<|MQ ?_;obtain⟨Z,St,t,W,st⟩:=(TxSrc.tuple (prog:=X.prog) (w:=X.w) C).iter A.in1.in1 { s with heap:=h1,toks:=x } (by simpa using B) λo e=>k _ _ e;refine p8<|t _ _ ?_;have d:=F _ _ S;have J:s.heap.objs.size<h1.objs.size:=v9 d;have G:s.heap.get? s.heap.objs.size=a8:=by
  cases q:s.heap.get? s.heap.objs.size with
  |none=>rfl
  |some o=>exact o4 (v9 q)<|D5 _
 refine t4 ⟨Mw cf _,Ck (A:=A.in1) (s:=s) I (by show A.units+1+20<j9;lia) W s.heap.objs.size ?_ G ?_ ps P y O its.size 0 _ _ [] _ _ rfl (z5 _) st ⟨⟨_,#[],v5 _ d,⟨rfl,rfl,rfl⟩,rfl,rfl⟩,.nil,On⟩ (λb u e=>v5 _<|k b u e) λh2 T xs R M=>⟨rfl,h h2 T xs R M⟩⟩;simp only[A0,PJ,or_false,not_or];exact⟨x6 J,OS U⟩;intro b m;rw[J6.mp m];cases q:s.heap.get? h1.objs.size with
 |none=>rfl
 |some o=>exact o4 (Pq (v9 q) J)<|D5 _
def sZ:D1:=λd M Q=>match d with
 | [.tup x]=>∃s:List (D×D),x=s.map (λp=>.tup [p.1,p.2])/\(∀p∈s,cS 8 p.1=a9/\fY p.1=a9)/\s.length<=1000/\Q (.ref M.length) (M++[.dkt<|dictOf s])
 |_=>False
theorem Fa(G:Room k X.A)(C:X.calm=a9):lq X (.type "dict") sZ:=by
 rintro n s σ H vs us R I W ⟨ds,M,ρ,Q,y,b,q,K⟩;have un:=G.un;unfold sZ at q;split at q;obtain⟨ps,L,E,hl,q⟩:=q
 first|have z:=Reps.inv_cons b|have z:=aB.inv_cons b
 clear b;obtain⟨_,_,rfl,g,b⟩:=z;cases b;obtain⟨u,rfl,t⟩:=aB.one W;subst L;obtain⟨a,ws,rfl,F,r⟩:=t9.inv_tup g;cases t;obtain⟨its,x,w,hz⟩:=I.tupN F;obtain⟨oa,e,D,⟨nn,h⟩,j⟩:=id w;have O:=r.length;have li:=x.length;rw[u6]at O;have f:H s.heap.objs.size=a8:=I.hok.fresh<|u7 _;have B:(s.heap.objs.size==d8)=c5:=beq_eq_false_iff_ne.mpr<|B8<|x6 I.big;refine Fd (A:=X.A) (ρ:=ρ) I (by lia) (I.ok.hd C) w.tup e j ps (by rw[z7];lia) (λi v J=>?_) (by rw[z7];lia) λh' Y xs N c=>?_;obtain⟨d,Z,t,g,m⟩:=gD r x (i:=i) (u:=v) (by simpa using J);rw[C8]at t;obtain⟨p,l,rfl⟩:=Mz.mp t;exact⟨p,l,⟨Z,g,m⟩,E p<|D2 l⟩;have dl:=da (ps:=ps);refine⟨.ref s.heap.objs.size,_,I.laid (a:=s.heap.objs.size) (o:=.ext<|dX s.heap.objs.size xs) (t':=Y) N (u7 _)<|qU c.dx,rfl,?_⟩;exact K _ _ ⟨.ref M.length,M++[.dkt<|dictOf ps],ρ++[s.heap.objs.size],y.laidM (mo:=.dkt<|dictOf ps) f ⟨am (by lia),B,c.nd,xs,aR,Paired.mapP c.kv λ_ _ ⟨P,S,T,v,U,V⟩=>⟨P,S,T.grow<|Grow.laidR f,v,U.grow<|Grow.laidR f,V⟩⟩,Grow.laidR f,.ref y.last,q⟩;exact q.elim
theorem EC(i:Room k X.A)(f:X.calm=a9:=by kernel_rfl):HC X (.type "dict") sZ:=⟨Fa i f⟩
inductive TopB(mg:c7->Option c6):List c7->List (c7×Int)->Prop
 |nil:TopB mg [] []
 |b {x:c7}{B:List c7}{C:List (c7×Int)} (h:mg x=a8) (t:TopB mg B C):TopB mg (x::B) C
 |c {x:c7}{i:Int}{C:List (c7×Int)} (h:∃t,mg x=a7 (.int i t)) (t:TopB mg [] C):TopB mg [] ((x,i)::C)
theorem TopB.no(h:TopB mg B C)(c:B.contains x=a9):mg x=a8:=by
 induction h with
 |nil=>simp at c
 |b h _ i=>simp only[List.contains_cons,NY,o7]at c;rcases c with rfl|c;exact h;exact i c
 |c _ _ _=>simp at c
noncomputable def nodB:List c7->Bool
 | []=>a9
 |x::s=>!s.contains x&&nodB s
theorem Kw:∀{l:List c7},nodB l=a9->l.Nodup
 | [],_=>On
 |x::s,h=>by simp only[nodB,C9,PP,List.contains_eq_mem,decide_eq_false_iff_not]at h;exact MU.mpr ⟨h.1,Kw h.2⟩
noncomputable def tgN:h8->List c7
 |.Name x _=>[x]
 |.Tuple e _ _=>e.filterMap fun|.Name x _=>a7 x|_=>a8
 |_=>[]
noncomputable abbrev NP(N:List c7)(js:List Nat)(tg:h8):List c7:=tgN tg++js.map λj=>N.getD j ""
theorem k_lcN(hi:HI X tg iter di)(S:∀cl s0 H0 ex,HG (A4 X (NP X.N js tg) scope cl s0 H0 ex) tg g)(D:∀cl s0 H0 ex,OL (A4 X (NP X.N js tg) scope cl s0 H0 ex) ifs tt)(i:∀cl s0 H0 ex,HE (A4 X (NP X.N js tg) scope cl s0 H0 ex) elt te)(B:pV X.env.scope.names X.N (NP X.N js tg) nt js scope=a9:=by kernel_rfl) (f:X.calm=a9:=by kernel_rfl) (h:∀x,j5 iter X.env x=pure x:=by intro _;kernel_rfl):HE X (.ListComp elt [⟨tg,iter,ifs,0⟩] scope pos) (E6 nt js di g tt te):=k_lc hi S D i B f h
theorem tZ(a:X.N.Nodup)(hi:HI X tg iter di)(S:∀cl s0 H0 ex,HG (A4 X (NP X.N js tg) scope cl s0 H0 ex) tg g)(D:∀cl s0 H0 ex,OL (A4 X (NP X.N js tg) scope cl s0 H0 ex) ifs tt)(e:∀cl s0 H0 ex,HE (A4 X (NP X.N js tg) scope cl s0 H0 ex) elt te)(B:pV X.env.scope.names X.N (NP X.N js tg) nt js scope=a9:=by kernel_rfl) (f:X.calm=a9:=by kernel_rfl) (s:∀x,j5 iter X.env x=pure x:=by intro _;kernel_rfl) (w:i8 (.ListComp elt [⟨tg,iter,ifs,0⟩] scope pos) (a7<|.Name x pos') pos2.line X.env=pure a9:=by kernel_rfl)(h:X.N[i]?=a7 x:=by kernel_rfl) (c:Ja X.env.scope x=a9:=by kernel_rfl) (b:X.fn x=a9:=by kernel_rfl):HS X (.Assign [.Name x pos'] (.ListComp elt [⟨tg,iter,ifs,0⟩] scope pos) pos2) (lU nt js di g tt te i):=Ej a hi S D e B f s w h c b
theorem gA(h:HA X e t):HA X e t:=h
theorem gE(h:HE X e te):HE X e te:=h
theorem gCall(h:HE X (.Call a b c pos) te):HE X (.Call a b c pos) te:=h
theorem gIx(h:HE X (.Subscript a b pos) te):HE X (.Subscript a b pos) te:=h
theorem Lu(h:HE X (.Constant a b pos) te):HE X (.Constant a b pos) te:=h
theorem gT(h:HT X e tt):HT X e tt:=h
theorem gS{st:i6}{t:s9}(h:HS X st t):HS X st t:=h
theorem gOp(h:E7 X f r):E7 X f r:=h
theorem gC(h:HC X f r):HC X f r:=h
theorem BY{b:List i6}{st:i6}{s:List i6}{t:s9}(h:b=st::s)(q:HB X (st::s) t):HB X b t:=h ▸ q
section
variable{P:c9}{w:c8}{K:u4}{mg:c7->Option c6}{base:d7}{x:c7}{st:i6}{N ps:List c7}{k:Nat}{Pr:w6}{B:List c7}{C:List (c7×Int)}{t:s9}
theorem u8.byD(T:TopB mg B C)(F:ca K mg x st ps)(i:FnScope N ps (av st))(n:cr Pr ps)(r:TopB mg B C->N.Nodup->DerT P w K mg base k x N st t)(p:∀d M R,Pr d M R->t (EE M R) (cK N d) M):u8 P w K mg base (k+1) x ps Pr:=u8.byH F i n (r T i.nd) p
theorem EG(T:TopB mg B C)(F:MN K x x st f fd)(i:FnScope N ps (av st))(n:cr Pr ps)(r:TopB mg B C->N.Nodup->DerT P w K mg base k x N st t)(p:∀d M R,Pr d M R->t (EE M R) (cK N d) M):FnOk P w K mg base E8 (k+1) f fd ps (MY K Pr):=EF F i n (r T i.nd) p
end
theorem wo(B:s.heap.get? l=a7 o)(f:o.cls=.type "list"\/o.cls=.type "tuple")(d:o.data=.seq v.toArray n)(h:Q v { s with heap:=(s.heap.push<|m8 "list" #[] 0).update s.heap.objs.size (F8 (· ++ v.toArray)) }) (z:v.length<=sizeLine):ge (i3 p w) A (collect<|.ref l) Q E s:=by
 rcases f with f|f;exact collect_list ⟨o,B,f,n,d⟩ h z;unfold collect;refine p8<|wpAny_runValue<|Mp entry_proto_collect' ?_;show ge _ _ (do again (.builtin "list.__iadd__" ⟨[<-newList [],.ref l],[]⟩)) _ _ s;refine p8<|Om (t4 ⟨Code.quiet_builtin _ (by decide +kernel),Mp entry_list_iadd' ?_⟩)<|z5 _;show ge _ _ (Q0 (.ref s.heap.objs.size) (.ref l)<|.ref s.heap.objs.size) _ _ { s with heap:=s.heap.push (m8 "list" #[] 0) };unfold Q0;have a:(s.heap.push<|m8 "list" #[] 0).get? l=a7 o:=v5 _ B;refine p8<|MS (T:="tuple") ⟨o,a,f⟩ ?_;have D:(NE "tuple" == NE "tuple")=a9:=by rfl
 rw[n9<|by rw[D];simp];refine p8<|OQ a d ?_;refine p8<|OQ (xs:=#[]) (n:=0) (A1 _ rfl) rfl ?_;rw[o0<|by simp];refine p8 (Ol (xs:=#[]) (n:=0) (A1 _ rfl) rfl ?_ (z5 _)<|by show (#[]++v.toArray).size<=sizeLine+1;simp only[Array.size_append,z7,C2];lia);refine t4 ?_;show ge (i3 p w) A (do
   let o <-load s.heap.objs.size
   match o.data with
   |.seq x _=>pure x.toList
   |_=>unsupported "internal:collect") Q E { s with heap:=(s.heap.push<|m8 "list" #[] 0).update s.heap.objs.size (F8 (· ++ v.toArray)) }
 refine p8<|wpAny_load (Ot (A1 _ rfl) _) ?_;show ge _ _ (pure ((#[]:Array c6)++v.toArray).toList) Q E _;rw[show ((#[]:Array c6)++v.toArray).toList=v by simp];exact t4 h
theorem Gj(hl:c.length=b.length)(h2:b.length<2)(h:KatFin h₀ L m kS a c e e1 b (λs3=>P (.done<|.ret .none) s3) s):ge (i3 p w) A (ksk_end a c5 b.toArray e1 (.ref kS)<|MH c) P E s:=by
 have M:b.toArray.size<2:=by rw[z7];exact h2
 unfold ksk_end;dsimp only;simp only[B9,o8];rw[n9 M,n9 M];refine p8<|t4 ?_;rw[StateT.run_pure];refine p8<|t4 ?_;dsimp only;refine kat_tail (out:=b) ?_ (by lia) (by lia) rfl h;show ((MH c).zip b.toArray).map (·.2)=b.toArray
 match c,b,hl,h2 with
 | [],[],_,_=>simp
 | [k],[v],_,_=>simp
 | [],_::_,hl,_=>simp at hl
 |_::_,[],hl,_=>simp at hl
 |_::_::_,[_],hl,_=>simp at hl
 |_,_::_::_,_,h2=>simp at h2;lia
theorem Gh{f:c6}{t:Nat}{P:PySem.Fin->f7->Prop}{Fin:List c6->Nat->f7->Prop}(o:s.heap.get? kS=a7 (m8 "list" #[] 0))(G:vs.length<64)(d:∀ks e s',ks.length=vs.length->Fin ks e s'->ge (i3 prog w) A (ksk_end a c5 vs.toArray t (.ref kS)<|MH ks) P E s') (h:KatKeys prog w A h₀ L m kS f Fin vs [] 0 s):ge (i3 prog w) A (ksk_rest a f c5 vs.toArray t<|.ref kS) P E s:=by
 unfold ksk_rest;refine p8<|MQ ?_
 first
  |rw[List.forIn_toArray]
  |(rw[<-N5];simp only[List.toList_toArray])
  |rw[<-N5]
 refine p8<|E9 (kat_fold G (λx ks e s' C K D=>?_) vs [] 0 s (by simp) o h) (λ_ s' z=>?_) λ_ _ x=>x;refine p8<|NI<|E9 D (λk i o=>?_) λ_ _ F=>F.elim;obtain⟨q,g,T,N,U,c⟩:=o;obtain⟨H,r,v,S,I,J⟩:=U.split;rw[v]at N;have n:=N (kS,m8 "list" (MH ks) e)<|F6 _<|.head _;have u:=Mr i.heap kS (F8 (·.push k));have y:(MH ks).push k=MH (ks++[k]):=by simp
 obtain⟨j,b⟩:∃j,(i.heap.update kS (F8 (·.push k))).get? kS=a7 (m8 "list" (MH<|ks++[k]) j):=⟨_,by rw[<-y];exact Ot n.1 (·.push k)⟩
 try dsimp only
 refine p8 (Ol n.1 rfl ?_ (by rw[z7,Mu];lia)<|D4 (Nat.le_of_eq<|Array.size_push ..)<|by rw[z7,Mu];lia);exact t4 ⟨rfl,k,j,b,c _ j (kas_fr T u n.2.1 n.2.2)<|by rw[S];exact news_set N I J u b⟩;obtain⟨ks,e,p,B,l⟩:=z
 try dsimp only
 exact p8<|OQ p rfl<|d ks e s' B l
structure Ob(X:Cx)(pins:List (d5×d6))(H:Hp)(a:d5):Prop where
 un:H a=a8
 ne:a≠X.env.locals
 fs:a∉X.fs
 s0:X.s₀.heap.objs.size<=a
 cl:∀x c,X.env.cells.lookup x=a7 c->c≠a
 pn:∀p∈X.pn++pins,p.1≠a
theorem r9.own(I:r9 X d σ H s)(h:s.heap.objs.size<=a):Ob X d H a:=⟨I.hok.fresh h,λe=>by rw[e]at h;exact o4 (G5 I.lt h)<|D5 _,I.nofs h,D4 I.sz h,λx c e z=>by obtain⟨v,o,B,_⟩:=I.cell x c e;rw[z]at B;exact o4 (G5 (v9 B) h)<|D5 _,λp b e=>by have:=v9 (I.pin p b).1;rw[e]at this;exact o4 (G5 this h)<|D5 _⟩
theorem r9.turnF(I:r9 X p σ H s)(w:Ob X p H a)(k:∀b u,b≠X.env.locals->b≠a->s.heap.get? b=a7 u->h'.get? b=a7 u)(j:s.heap.Ns X.env.locals m)(h:h'.Ns X.env.locals m):r9 X p σ H { s with heap:=h' }:=by
 have g:∀b u,H b=a7 u->b≠a:=λb u e=>ae e w.un;refine I.step (g':=s.gens) (d':=s.drawn) (t':=s.toks) (ch:=[a]) (λb d=>?_) (λb u L _ f e _=>k b u L (by simpa using f) e) (λb u L _ f e _=>⟨u.slots,k b u L (by simpa using f) e⟩) (λb u _ e n=>n) (λb u f e=>?_) (λb o q=>q) (λb u o q=>q) (λb t q=>⟨#[],by rw[q];simp⟩) (λl i=>?_) (λb u q=>?_) I.bare;obtain rfl:b=a:=by simpa using d
 exact⟨.inr w.s0,w.ne,w.cl,w.pn⟩;by_cases d:b=X.env.locals;subst d;obtain⟨o',_,_,B,_⟩:=h;exact⟨o',B⟩;exact⟨u,k b u d (by simpa using f) e⟩;have:m=l:=funext λx=>j.agree i x;subst this;exact h;refine(I.hok b u q).stay (λc v f r=>k c v ?_ ?_ r) (λc z=>z) λc o z=>z;rcases f with rfl|f;exact ae q I.free;exact ae f I.free;rcases f with rfl|f;exact g _ _ q;exact g _ _ f
theorem r9.adoptF(I:r9 X t σ H s)(w:Ob X t H a)(k:∀b u,b≠X.env.locals->b≠a->s.heap.get? b=a7 u->h'.get? b=a7 u)(l:s.heap.Ns X.env.locals m)(g:h'.Ns X.env.locals m)(i:cM X.prog X.w (v7 H a o) h' a o):r9 X t σ (v7 H a o) { s with heap:=h' }:=by
 have d:=w.un;refine I.step (g':=s.gens) (d':=s.drawn) (t':=s.toks) (ch:=[a]) (λb h=>?_) (λb u L _ f e _=>k b u L (by simpa using f) e) (λb u L _ f e _=>⟨u.slots,k b u L (by simpa using f) e⟩) (λb u f e n=>by rw[ao<|by simpa using f];exact n) (λb u f e=>?_) (λb y q=>by rw[ao<|ae q d];exact q) (λb u y q=>by rw[ao<|ae q d];exact q) (λb ps q=>⟨#[],by rw[ao<|ae q d,q];simp⟩) (λp j=>?_) (λb u q=>?_) I.bare;obtain rfl:b=a:=by simpa using h
 exact⟨.inr w.s0,w.ne,w.cl,w.pn⟩;by_cases h:b=X.env.locals;subst h;obtain⟨o',_,_,B,_⟩:=g;exact⟨o',B⟩;exact⟨u,k b u h (by simpa using f) e⟩;have:m=p:=funext λx=>l.agree j x;subst this;exact g;by_cases h:b=a;subst h;rw[aR]at q;cases q;exact i;rw[ao h]at q;refine(I.hok b u q).stay (λc v f r=>k c v ?_ ?_ r) (λc z=>by rw[ao<|ae z d];exact z) λc y z=>by rw[ao<|ae z d];exact z
 rcases f with rfl|f;exact ae q I.free;exact ae f I.free;rcases f with rfl|f;exact ae q d;exact ae f d
structure KySt(X:Cx)(pins:List (d5×d6))(σ:St)(ρ:List d5)(M:t8)(m:c7->Option c6)(kS aD:d5)(e1:Nat)(H0 H:Hp)(s:f7)(ks:List c6)(e:Nat):Prop where
 inv:r9 X pins σ H s
 ns:s.heap.Ns X.env.locals m
 sm:u9 X.K ρ M H
 gr:Grow X.K ρ H0 ρ H
 hk:s.heap.get? kS=a7 (m8 "list" (MH ks) e)
 hd:s.heap.get? aD=a7 (m8 "list" #[] e1)
 ok:Ob X pins H kS
 od:Ob X pins H aD
 ne:aD≠kS
theorem Ii(n:h.Ns L m):Fr (Att.noObjs h0) L h m:=⟨n,λb o e=>(by rw[Att.noObjs_get]at e;cases e),z5 _⟩
theorem vO(b:d≠L)(B:h.get? d=a7 od):News (Att.noObjs h0) L h ((d,od)::Att.ledger h L d):=by rintro⟨a,o⟩ p;rcases A0.mp p with e|p;cases e;exact⟨B,b,Att.noObjs_get _ _⟩;obtain⟨n,c,e⟩:=Att.mem_ledger.mp p;exact⟨e,n,Att.noObjs_get _ _⟩
theorem nJ(N:News (Att.noObjs h0) L h' ((d,o)::Att.ledger h L d)):∀b u,b≠L->b≠d->h.get? b=a7 u->h'.get? b=a7 u:=λb u h1 h2 e=>(N (b,u)<|A5 _<|Att.mem_ledger.mpr ⟨h1,h2,e⟩).1
abbrev KeyG(X:Cx)(pins:List (d5×d6))(σ:St)(ρ:List d5)(M:t8)(f:d5)(key:D->D)(xs:List D):Prop:=∀(s:f7) (H:Hp) (d:D) (v:V) (u:c6),d∈xs->r9 X pins σ H s->u9 X.K ρ M H->t9 X.K ρ H d v->aZ v u ->k5 (i3 X.prog X.w) X.A.in1.in1 (.call (.ref f) ⟨[u],[]⟩) (CR E8 X.stack X.prog X.w H s (λv' H'=>VQ X.K ρ H (λx M'=>x=key d/\M'=M) v' H') E0) s
theorem Gi{f:d5}{l:D->D}{xs:List D}(G:KeyG X pins σ ρ M f l xs){h0:d7}{m:c7->Option c6}{j S:d5}{N:Nat}{H0:Hp}{Fin:List c6->Nat->f7->Prop}{k:List D} (P:∀H s kvs ks e,KySt X pins σ ρ M m S j N H0 H s ks e->Reps X.K ρ H k kvs->aB kvs ks->Fin ks e s):∀(r:List D) (ws:List V) (its:List c6) (done:List D) (kvs:List V) (ks:List c6) (e:Nat) (H:Hp) (s:f7),KySt X pins σ ρ M m S j N H0 H s ks e->Reps X.K ρ H r ws->aB ws its->Reps X.K ρ H done kvs->aB kvs ks ->done++r.map l=k->(∀d∈r,d∈xs)->KatKeys X.prog X.w X.A.in1.in1 (Att.noObjs h0) X.env.locals m S (.ref f) Fin its ks e s:=by
 intro r;induction r with
 |nil=>intro ws its done kvs ks e H s g r v Y vd R _;obtain rfl:=Reps.inv_nil r;obtain rfl:=aB.inv_nil v;refine KatKeys.nil<|P H s kvs ks e g ?_ vd;rw[<-R,Ps,G2];exact Y
 |cons d r ih =>
  intro ws its done kvs ks e H s g rr v Y vd R hP;obtain⟨ai,ws,rfl,r1,rr⟩:=Reps.inv_cons rr;obtain⟨u,its,rfl,ru,v⟩:=aB.inv_cons v;have I:=g.inv;refine KatKeys.cons<|wpAny_call<|Og (G s H d ai u (hP d C5) I g.sm r1 ru) λZ s' y=>?_;cases Z with
  |error e=>exact y.elim
  |ok fl =>
   cases fl with
   |next=>exact y.elim
   |brk=>exact y.elim
   |cont=>exact y.elim
   |ret u' =>
    obtain⟨v',H',os,n,un,T,rv,q⟩:=y;obtain⟨F,Q,L,tk,U⟩:=s';obtain rfl:U=s.os:=os;obtain⟨_,_,aj,s1,g1,W,rfl,rfl⟩:=q;have O:aj=ρ:=by obtain⟨t,rfl⟩:=g1.pre;have h1:=s1.len;have h2:=g.sm.len;rw[A3]at h1;rw[RL (show t.length=0 by lia),G2]
    subst O;have J:r9 X ((S,m8 "list" (MH ks) e)::(j,m8 "list" #[] N)::pins) σ H s:=I.pins_of λp a=>by rcases A0.mp a with rfl|a;exact⟨g.hk,g.ok.un,g.ok.ne,g.ok.fs,λ_ z=>nomatch z⟩;rcases A0.mp a with rfl|a;exact⟨g.hd,g.od.un,g.od.ne,g.od.fs,λ_ z=>nomatch z⟩;exact I.pin p<|F6 _ a
    have E:=J.call (h':=F) (g':=Q) (d':=L) (t':=tk) (ch:=[]) un T n (λb z=>o4 z<|by simp);have pk:=E.pin (S,_)<|F6 _ C5;have pd:=E.pin (j,_)<|F6 _<|A5 _ C5;have I':r9 X pins σ H' ⟨F,Q,L,tk,s.os⟩:=E.pins_of λp a=>E.pin p<|F6 _<|A5 _<|A5 _ a;have B:F.Ns X.env.locals m:=by obtain⟨o,es,ep,ho,be⟩:=g.ns;obtain⟨sl,hL⟩:=un.any ho I.free (by simp);exact⟨_,es,ep,hL,be⟩
    have i:Ob X pins H' S:=⟨pk.2.1,g.ok.ne,g.ok.fs,g.ok.s0,g.ok.cl,g.ok.pn⟩
    have C:Ob X pins H' j:=⟨pd.2.1,g.od.ne,g.od.fs,g.od.s0,g.od.cl,g.od.pn⟩
    refine KatBack.intro (s:=⟨F,Q,L,tk,s.os⟩) (Ii B) (vO i.ne pk.1) (UpdF.head λp a=>(Att.mem_ledger.mp a).2.1) λh2 c F2 N2=>?_;have kp:=nJ N2;refine ih ws its (done++[l d]) (kvs++[v']) (ks++[u']) c H' _ ⟨I'.turnF i kp B F2.ns,F2.ns,s1,⟨g.gr.pre,λx xs h=>g1.tup x xs<|g.gr.tup x xs h⟩,(N2 _ C5).1,kp j _ C.ne g.ne pd.1,i,C,g.ne⟩ (rr.grow g1) v ((Y.grow g1).append<|.cons W .nil) (vd.append<|.cons rv .nil) (by rw[<-R,C4,G7];rfl) λx hx=>hP x<|A5 _ hx
theorem xt{k n:Nat}{f l:d5}{o:d6}{s:f7}{H:Hp}{xs:List D}{ws:List V}{its:List c6}{y:D->D}{R:VK}(G:KeyG X pins σ ρ M f y xs)(hr:Room (k+2) X.A)(I:r9 X pins σ H s) (sm:u9 X.K ρ M H) (r:Reps X.K ρ H xs ws) (rr:aB ws its) (ho:s.heap.get? l=a7 o) (hc:o.cls=.type "list"\/o.cls=.type "tuple") (hd:o.data=.seq its.toArray n) (aj:its.length<64) (so:SrtG M (xs.map y)) (kk:∀v H',(∀Q:DK,(∀ys,ys.Perm xs->ys.Pairwise (λa b=>B7 M t5 (y b) (y a)=c5)->Q (.ref M.length) (M++[.lst ys]))->VQ X.K ρ H Q v H')->R v H'):ge (i3 X.prog X.w) X.A (call (.builtin "sorted") [.ref l] [(AA0 "key",.ref f)]) (EP X pins σ R) X.xe s:=by
 have lw:=r.length;have li:=rr.length;have u:its.length<=sizeLine:=by rw[Mu];lia
 refine call_function_entry_kw kind_sorted plain_sorted entry_sorted (ksk_s1 _ _) ?_;unfold Builtin.«sorted»;refine p8 (m:=checkCount "sorted" 1 1 _)<|t4<|p8<|wo ho hc hd (p8<|Om ?_ u) u;generalize hg:((s.heap.push<|m8 "list" #[] 0).update s.heap.objs.size (F8 (· ++ its.toArray)))=g1;have P:g1.objs.size=s.heap.objs.size+1:=by rw[<-hg,Heap.size_update,size_push']
 have k1:∀b o,s.heap.get? b=a7 o->g1.get? b=a7 o:=λb o q=>by have an:=v9 q;rw[<-hg,OD _ _ _ _<|x6 an,Heap.get?_push_ne _ _ _<|x6 an];exact q
 show ge _ _ _ _ _ { s with heap:=g1.push (m8 "list" its.toArray 0) };have O:(g1.push<|m8 "list" its.toArray 0).get? g1.objs.size=a7 (m8 "list" its.toArray 0):=A1 _ rfl;refine p8<|D7<|wpAny_call_entry_kw slot_list_sort (⟨_,O,rfl⟩) entry_list_sort ?body<|ksk_l1 _ _
 case body =>
  show ge (i3 X.prog X.w) X.A.in1.in1 (Builtin.«list.sort» ⟨[.ref g1.objs.size],[(AA0 "key",.ref f)]⟩) _ _ _;rw[ksk_t1];unfold ksk_tree;refine p8<|OQ O rfl<|p8<|Ol O rfl ?_ (by rw[z7];exact u)<|z5 _;obtain⟨e1,N⟩:∃e1,((g1.push<|m8 "list" its.toArray 0).update g1.objs.size<|F8 λ_=>(#[]:Array c6)).get? g1.objs.size=a7 (m8 "list" #[] e1):=⟨_,Ot O λ_=>#[]⟩
  refine p8<|seqEpoch_at N rfl<|p8<|wpAny_newTuple (p8<|Om (D7 ?_)<|z5 _) u;have k2:∀b o,s.heap.get? b=a7 o->((g1.push<|m8 "list" its.toArray 0).update g1.objs.size<|F8 λ_=>(#[]:Array c6)).get? b=a7 o:=λb o q=>by rw[OD _ _ _ _<|x6<|by rw[P];exact Nq<|v9 q];exact v5 _<|k1 b o q
  have t:((g1.push<|m8 "list" its.toArray 0).update g1.objs.size<|F8 λ_=>(#[]:Array c6)).objs.size=g1.objs.size+1:=by rw[Heap.size_update,size_push']
  generalize ((g1.push<|m8 "list" its.toArray 0).update g1.objs.size<|F8 λ_=>(#[]:Array c6))=T at N k2 t ⊢;dsimp only;have k3:∀b o,T.get? b=a7 o->((T.push<|m8 "tuple" its.toArray 0).push<|m8 "list" #[] 0).get? b=a7 o:=λb o q=>v5 _<|v5 _ q;have J:((T.push<|m8 "tuple" its.toArray 0).push<|m8 "list" #[] 0).get? (T.push<|m8 "tuple" its.toArray 0).objs.size=a7 (m8 "list" #[] 0):=A1 _ rfl;have E:(T.push<|m8 "tuple" its.toArray 0).objs.size=T.objs.size+1:=size_push' _ _;generalize (T.push<|m8 "tuple" its.toArray 0).objs.size=kS at J E ⊢;generalize ((T.push<|m8 "tuple" its.toArray 0).push<|m8 "list" #[] 0)=g3 at J k3 ⊢;generalize g1.objs.size=Y at N P t ⊢;obtain⟨m,hn,_⟩:=I.loc;have st:KySt X pins σ ρ M m kS Y e1 H H { s with heap:=g3 } [] 0:=⟨I.kept (t':=s.toks) λb o q=>k3 b o<|k2 b o q,(by obtain⟨o',es,ep,aP,be⟩:=hn;exact⟨o',es,ep,k3 _ _<|k2 _ _ aP,be⟩),sm,.refl,J,k3 _ _ N,I.own (by rw[E,t,P];exact PK _ 3),I.own (by rw[P];exact PK _ 1),by rw[E,t];exact x6<|Nat.lt_add_of_pos_right (by decide:0<2)⟩
  have aS:Room k X.A.in1.in1:=(Room.in1 (k:=k+1) hr).in1;refine Gh (h₀:=Att.noObjs s.heap) (L:=X.env.locals) (m:=m) (Fin:=λW e s'=>∃H' F,KySt X pins σ ρ M m kS Y e1 H H' s' W e/\Reps X.K ρ H' (xs.map y) F/\aB F W) J aj (λW e s' hl ⟨H',F,g,rk,vk⟩=>?_)<|Gi G (λH' s' F W e g r v=>⟨H',F,g,r,v⟩) xs ws its [] [] [] 0 H _ st r rr .nil .nil rfl λ_ q=>q;have ai:∀ys zs S,Reps X.K ρ H' ys zs->aB zs S->ys.Perm xs->ys.Pairwise (λa b=>B7 M t5 (y b) (y a)=c5)->KatFin (Att.noObjs s.heap) X.env.locals m kS Y W e e1 S (λs4=>EP X pins σ R (.ref Y) s4) s':=λys zs S ry vy hp hw=>by refine KatFin.intro (Ii g.ns) (vO g.ok.ne g.hk) (UpdF.head λp hp=>(Att.mem_ledger.mp hp).2.1) λh2 c F2 N2=>?_;have kp:=nJ N2;refine KasFin.intro (s:={ s' with heap:=h2 }) (Ii F2.ns) (vO g.od.ne<|kp Y _ g.od.ne g.ne g.hd) (UpdF.head λp hp=>(Att.mem_ledger.mp hp).2.1) λh3 c3 F3 N3=>?_;refine⟨.ref Y,_,(g.inv.turnF g.ok kp g.ns F2.ns).adoptF (o:=.lst zs) g.od (nJ N3) F2.ns F3.ns ⟨?_,S,c3,vy,(N3 _ C5).1⟩,rfl,kk _ _ λQ hQ=>VQ.laidL g.sm g.gr ry g.od.un<|hQ ys hp hw⟩;rw[<-ry.length,hp.length_eq,lw,li];exact u
  by_cases h2:its.length<2;refine Gj (hl) h2<|(ai xs ws its (r.grow g.gr) rr (Op _) ?_).mono λs4 hq=>⟨_,rfl,t4 ⟨_,rfl,hq⟩⟩
  match xs,(show xs.length<2 by lia) with
  | [],_=>exact PR
  | [x],_=>exact Rx _ _
  |_::_::_,hx=>simp at hx;lia
  have as:2<=its.length:=by lia
  refine kat_end (b:=c5) (h₀:=Att.noObjs s.heap) (L:=X.env.locals) (m:=m) (e:=e) hl as aj ?_;have hu:X.A.in1.in1.units+t5<j9:=by have:=hr.un;have:t5=30:=rfl;show X.A.units+1+1+t5<j9;lia
  have kl:W.length=xs.length:=by lia
  refine E9 (mZ g.inv g.sm so rk vk (by lia) hu) (λκ bk hk=>?_) λ_ _ x=>x;obtain⟨rfl,al⟩:=hk;show (M7 its.length).kasWp (kas_ask X.prog X.w X.A.in1.in1 κ W) (λp s3=>KatFin (Att.noObjs s.heap) X.env.locals m kS Y W e e1 (p.toList.map λi=>its.getD i Mo) _ s3) _;have U:∀i,i<xs.length->(xs.map y).getD i default=y (xs.getD i default):=λi hi=>by rw[G6,G6,C8,w9 hi];rfl
  refine Srt.wp_run (n:=its.length) (c:=λi j=>if i<xs.length then(if j<xs.length then B7 M t5 (y<|xs.getD i default) (y<|xs.getD j default)else a9)else c5) (λi j C hi hj hc=>?_) _ (Srt.sort_bd<|by lia).1 ?_;refine al i j C (by lia) (by lia) ?_;rw[n9 (by lia),n9<|by lia]at hc;unfold ltc;rw[U i (by lia),U j<|by lia];exact hc;have z:=Srt.All.run (c:=λi j=>if i<xs.length then(if j<xs.length then B7 M t5 (y<|xs.getD i default) (y<|xs.getD j default)else a9)else c5) _ (Srt.sort_bd (n:=its.length)<|by lia).2;obtain⟨o1,o2,o3⟩:=GO so;have Z:∀x∈xs,y x∈xs.map y:=λx hx=>L0 hx;have B:=Srt.sort_list (lt:=λa b=>B7 M t5 (y a)<|y b) xs (by lia) (λa ha=>o1 _<|Z a ha) (λa ha b hb d hd=>o2 _ (Z a ha) _ (Z b hb) _<|Z d hd)<|λa ha b hb d hd=>o3 _ (Z a ha) _ (Z b hb) _<|Z d hd
  try dsimp only at B
  rw[show xs.length=its.length by lia]at B z ⊢;generalize Srt.run _ (M7 its.length)=p at z B ⊢;have hi:∀i∈p.toList,i<xs.length:=λi h=>by have:=z.mem_iff.mp h;rw[G4]at this;lia
  exact(ai _ _ _ ((r.grow g.gr).perm p.toList hi) (rr.perm p.toList λi h=>by have:=hi i h;lia) B.1 B.2).mono λs4 hq=>⟨_,rfl,t4 ⟨_,rfl,hq⟩⟩
structure BlkScC(X:Cx)(N':List c7)(nt:Nat)(js:List Nat)(scope:f8):Prop where
 kind:scope.kind=.function
 kinds:∀y∈scope.names,scope.names.lookup y.1=a7 y.2
 free:∀y∈scope.names,y.2=.free->(X.env.kindOf y.1=a7 .cell\/X.env.kindOf y.1=a7 .free)
 len:N'.length=nt+js.length
 fr:∀(k j:Nat),js[k]?=a7 j->∃x,N'[nt+k]?=a7 x/\X.N[j]?=a7 x/\scope.names.lookup x=a7 .free/\(X.env.kindOf x=a7 .cell\/X.env.kindOf x=a7 .free)
structure CfOk(h:d7)(k:Nat)(names:List (c7×k6))(acc cs:List (c7×d5)):Prop where
 look:∀z c,cs.lookup z=a7 c->(acc.lookup z=a7 c/\(z,NV)∉names)\/((z,NV)∈names/\k<=c/\h.IsCell c a8)
 inj:∀y z c,cs.lookup y=a7 c->cs.lookup z=a7 c->y=z
 old:∀z c,acc.lookup z=a7 c->∃c',cs.lookup z=a7 c'
 new:∀z,(z,NV)∈names->∃c,cs.lookup z=a7 c
def IC(i:Nat):L9:=ag i
theorem mH{K:u4}{ρ:List d5}{H:Hp}:∀{s:List (c7×D)}{a:List V},Reps K ρ H (s.map (·.2)) a->gB s k=a8->wF (jx (s.map (·.1)) a) (ABe k)=a8
 | [],_,_,_=>by rfl
 |(k',d')::s,_,.cons (v:=v) (vs:=a) h t,e=>by
  have hk:k'≠k:=λz=>by subst z;simp[gB]at e
  have e':gB s k=a8:=by
   have:gB ((k',d')::s) k=gB s k:=by simp[gB,hk]
   rw[<-this];exact e
  have q:=mH t e';show wF ((ABe k',v)::jx (s.map (·.1)) a) (ABe k)=a8;rw[pZ<|λz=>hk<|by injection z];exact q
def Pc(r:Nat->D1)(e:v8)(t:H9):v8:=λS M Q=>e S M λx a=>match x with
 |.ref n=>(∃s,a[n]?=a7 (.dct s))/\t S a λd b=>r n d b Q
 |_=>False
theorem d_mk{X:Cx}{o:h8}{name:c7}{id:String}{e:h8}{es:List h8}{O:v8}{t:H9}{d c:Pos}(slot:Slot "dict" name id)(y:typeOf (.builtin id)=pure (.type "method_descriptor"))(hm:Mm X id (qG X.K r))(ho:DE X o O)(Z:DA X (e::es) t)(f:l6 o name X.env (eval o X.env)=eval o X.env:=by rfl)(i:((i4 c<|i5 (e::es) X.env).all (λx=>!x.1)&&(l7 c<|l8 [] X.env).all (λx=>x.1.isSome) && decide ((e::es).length+([]:List l9).length+(if ([]:List l9).isEmpty then 0 else 1)<30))=a9:=by rfl)(g:(d.endLine==c.line)=a9:=by rfl) (hs:i5 (e::es) X.env=(c5,eval e X.env)::i5 es X.env:=by rfl) (h:(i4 c<|i5 es X.env).any (·.1)=c5:=by rfl):DE X (.Call (.Attribute o name d) (e::es) [] c) (Pc r O t):=by
 rintro p s σ H R I ⟨S,M,ρ,Q,sm,N,q,kk⟩;refine Rs f i g rfl<|v4 (ho p s σ H _ I ⟨S,M,ρ,_,sm,N,q,λv H' z=>z⟩) ?_;rintro u s1 ⟨v,P,E,rv,x,m,C,j,g1,r1,l⟩;cases r1 with
 |@ref n a L =>
  cases rv;obtain⟨⟨k,Y⟩,l⟩:=(show (∃k,m[n]?=a7 (.dct k))/\t S m _ from l)
  obtain⟨ws,W,_⟩:=j.obj _ _ _ L Y;obtain⟨z1,z2,ai,aj,F⟩:=IA E.hok W;refine⟨"dict",id,QQ,slot,y,F.typeIs,λb z=>?_,?_⟩;cases z;obtain⟨ob,_,_,h1,h2,_⟩:=F;exact⟨ob,h1,h2.2.1⟩;have J:=Z c p s1 σ P _ E ⟨S,m,C,_,j,N.grow g1,l,λvs H' z=>z⟩;rw[hs]at J ⊢;refine P5 (by show (c5||(i4 c<|i5 es X.env).any (·.1))=c5;rw[h]<;>rfl)<|Rm ?_;refine v4 J ?_;rintro us s2 ⟨vs,T,U,A,ds,V,D,B,G,rr,q2⟩;exact hm p s2 σ T (.ref a) vs (.ref a) us R U rfl A ⟨n,a,ds,V,D,Q,rfl,aK G.pre L,B,rr,q2,λv H' w=>kk v H'<|VQ.trans (g1.trans G) w⟩
 |_=>exact l.elim
def xz(n:Nat):D1:=λa M Q=>match a with
 | [.str x,d]=>∃s,M[n]?=a7 (.dct s)/\Q ((gB s x).getD d) M
 |_=>False
theorem DU{X:Cx}:Mm X "dict.get" (qG X.K xz):=by
 rintro p s σ H x xs v us R I J G ⟨n,a,ds,M,ρ,Q,o,A,m,f,q,D⟩;unfold xz at q;split at q;rename_i x d;obtain⟨b,y,q⟩:=q;have z:=Reps.inv_cons f;clear f;obtain⟨_,_,rfl,C,f⟩:=z;have z:=Reps.inv_cons f;clear f;obtain⟨_,_,rfl,E,f⟩:=z;obtain rfl:=Reps.inv_nil f;obtain rfl:=t9.inv_str C;obtain⟨T,L,rfl,t,h⟩:=aB.two G;subst o;obtain rfl:v=G1 a:=J;obtain⟨O,u,r⟩:=m.obj _ _ _ A y;obtain⟨P,N,B,l,g⟩:=IA I.hok u;refine call_meetsIn QM g.typeIs PySem.F.entry_dict_get (PySem.F.args_dict_get_3 _ _ _) (meets_dict_get_default (bU X.prog X.w) a (BJ (k:=ABe x) t) N L) ⟨_,g.mapOf,?_⟩;cases c:gB b x with
 |none=>rw[c]at q;exact⟨_,H,I.tok _,(by have:=(l.val<|ABe x).getD h;rw[mH r c]at this;exact this),D _ _ ⟨d,M,ρ,m,.refl,E,q⟩⟩
 |some i=>rw[c]at q;obtain⟨Y,j,e⟩:=jC r c;exact⟨_,H,I.tok _,(by have:=(l.val<|ABe x).getD h;rw[j]at this;exact this),D _ _ ⟨i,M,ρ,m,.refl,e,q⟩⟩
 exact q.elim
def xy(n:Nat):D1:=λa M Q=>match a with
 | [.str x,d]=>∃s,M[n]?=a7 (.dct s)/\s.length<sizeLine/\(∀y,gB s x=a7 y->Q y M)/\(gB s x=a8->Q d (M.set n<|.dct<|nq s x d))
 |_=>False
theorem DR:Mm X "dict.setdefault" (qG X.K xy):=by
 rintro G s σ H x xs v us R I rx rs ⟨n,a,ds,M,ρ,Q,S,D,t,f,q,E⟩;unfold xy at q;split at q;rename_i x d;obtain⟨b,C,hl,Y,Z⟩:=q;have z:=Reps.inv_cons f;clear f;obtain⟨_,_,rfl,r1,f⟩:=z;have z:=Reps.inv_cons f;clear f;obtain⟨_,vd,rfl,J,f⟩:=z;obtain rfl:=Reps.inv_nil f;obtain rfl:=t9.inv_str r1;obtain⟨u1,L,rfl,P,A⟩:=aB.two rs;subst S;obtain rfl:v=G1 a:=rx;obtain⟨ws,o,r⟩:=t.obj _ _ _ D C;obtain⟨z1,O,B,l,y⟩:=IA I.hok o;refine call_meetsIn PySem.F.slot_dict_setdefault y.typeIs PySem.F.entry_dict_setdefault (PySem.F.args_dict_setdefault_3 _ _ _) (kt_meets_setdefault (bU X.prog X.w) a (BJ (k:=ABe x) P) O L) ⟨B,y,by rw[<-l.length];exact z1,λw' j=>?_,λj h' e sb=>?_⟩;cases c:gB b x with
 |none=>have:=l.val<|ABe x;rw[mH r c,j]at this;exact this.elim
 |some u=>obtain⟨w0,m,h⟩:=jC r c;have:=l.val<|ABe x;rw[m,j]at this;exact⟨_,H,I.tok _,this,E _ _ ⟨u,M,ρ,t,.refl,h,Y _ c⟩⟩
 cases c:gB b x with
 |some u=>obtain⟨w0,m,h⟩:=jC r c;have:=l.val<|ABe x;rw[m,j]at this;exact this.elim
 |none =>
  obtain⟨i,T,g⟩:=AA (k:=x) J r;obtain⟨w1,N⟩:=t.writeD D C o g;have U:∃q,h'.get? a=a7 q:=let ⟨q,_,_,hq,_⟩:=e;⟨q,hq⟩
  have lw:=r.length;have p:KV (jx ((nq b x d).map (·.1)) i) (stored B (ABe x) L):=by rw[<-T];exact l.put (ABe x) A
  have W:(jx ((nq b x d).map (·.1)) i).length<=sizeLine:=by
   have V:=g.length;have l2:(nq b x d).length<=b.length+1:=by unfold nq;split<;>simp
   rw[u6]at V;rw[jx,u6,List.length_zip,u6];lia
  exact⟨_,_,Cl I (by rw[o];exact True.intro) sb U<|FP W O p e,A,E _ _ ⟨d,_,ρ,w1,N,J.grow N,Z c⟩⟩
 exact q.elim
theorem HM(B:HE X o to)(f:HA X (e::s) t)(b:l6 o "get" X.env (eval o X.env)=eval o X.env:=by kernel_rfl)(w:((i4 cpos<|i5 (e::s) X.env).all (λx=>!x.1)&&(l7 cpos<|l8 [] X.env).all (λx=>x.1.isSome) && decide ((e::s).length+([]:List l9).length+(if ([]:List l9).isEmpty then 0 else 1)<30))=a9:=by kernel_rfl)(c:(apos.endLine==cpos.line)=a9:=by kernel_rfl) (h:i5 (e::s) X.env=(c5,eval e X.env)::i5 s X.env:=by kernel_rfl) (n:(i4 cpos<|i5 s X.env).any (·.1)=c5:=by kernel_rfl):HE X (.Call (.Attribute o "get" apos) (e::s) [] cpos) (Pc xz to t):=⟨d_mk QM PySem.F.type_dict_get DU B.ok f.ok b w c h n⟩
theorem HL(B:HE X o to)(f:HA X (e::s) t)(b:l6 o "setdefault" X.env (eval o X.env)=eval o X.env:=by kernel_rfl)(w:((i4 cpos<|i5 (e::s) X.env).all (λx=>!x.1)&&(l7 cpos<|l8 [] X.env).all (λx=>x.1.isSome) && decide ((e::s).length+([]:List l9).length+(if ([]:List l9).isEmpty then 0 else 1)<30))=a9:=by kernel_rfl)(c:(apos.endLine==cpos.line)=a9:=by kernel_rfl) (h:i5 (e::s) X.env=(c5,eval e X.env)::i5 s X.env:=by kernel_rfl) (n:(i4 cpos<|i5 s X.env).any (·.1)=c5:=by kernel_rfl):HE X (.Call (.Attribute o "setdefault" apos) (e::s) [] cpos) (Pc xy to t):=⟨d_mk PySem.F.slot_dict_setdefault PySem.F.type_dict_setdefault DR B.ok f.ok b w c h n⟩
noncomputable def jq(a:List (c7×D)):List (c7×D):=a.foldl (λs p=>nq s p.1 p.2) []
theorem pS:jq (s++[p])=nq (jq s) p.1 p.2:=by unfold jq;rw[PQ];rfl
theorem um(s:List (c7×D)):(jq s).length<=s.length:=by
 have:∀(s a:List (c7×D)),(s.foldl (λb p=>nq b p.1 p.2) a).length<=a.length+s.length:=by
  intro s;induction s with
  |nil=>intro a;exact u7 _
  |cons p s i=>intro a;have h1:=i<|nq a p.1 p.2;have h2:=xA (kvs:=a) (k:=p.1) (d:=p.2);rw[List.foldl_cons,C3];lia
 have h:=this s [];rw[C2]at h;unfold jq;lia
def ON(X:Cx)(ρ:List d5)(H:Hp)(h:d7)(a:d5)(k:List (c7×D)):Prop:=∃s u,Reps X.K ρ H (k.map (·.2)) s/\KV (jx (k.map (·.1)) s) u/\h.DictOf (bU X.prog X.w) a u
theorem ON.at(x:ON X ρ H h a b)(k:∀o,h.get? a=a7 o->h'.get? a=a7 o):ON X ρ H h' a b:=by obtain⟨s,u,r,l,o,e,i,t,be⟩:=x;exact⟨s,u,r,l,o,e,i,k _ t,be⟩
theorem FF{X:Cx}{H:Hp}{ρ:List d5}{k:List (c7×D)}{s:List V}{u:List (D3×c6)}(r:Reps X.K ρ H (k.map (·.2)) s)(l:KV (jx (k.map (·.1)) s) u):u.length=k.length/\(jx (k.map (·.1)) s).length=k.length:=by
 have t:=r.length;have e:=l.length;rw[u6]at t;have R:(jx (k.map (·.1)) s).length=k.length:=by rw[jx,u6,List.length_zip,u6];lia
 lia
theorem Ir{X:Cx}{pins:List (d5×d6)}{σ:St}{H:Hp}{ρ:List d5}{A:f6}{s:f7}(I:r9 X pins σ H s)(hu:A.units+20<j9)(W:m7 X.prog X.w A.in1 J fp wr m P Sx)(S:d5)(l:S∉fp)(L:s.heap.get? S=a8) (B:∀b∈wr,s.heap.get? b=a8) (ps:List (c7×D)) (hm:ps.length=m) (y:∀i v,P i v->∃p:c7×D,ps[i]?=a7 p/\∃vv,t9 X.K ρ H (.tup [.str p.1,p.2]) vv/\aZ vv v) (O:m<=1000):∀(k i:Nat) (h:d7) (tk:Nat) (j:Int) (t:Tok),m-i=k->i<=m->Sx i h->ON X ρ H h S (jq<|ps.take i)->(∀b u,s.heap.get? b=a7 u->h.get? b=a7 u) ->(∀h' tk,(∀b u,s.heap.get? b=a7 u->h'.get? b=a7 u)->ON X ρ H h' S (jq ps)->R (.ok<|.ret .none) { s with heap:=h',toks:=tk }) ->k5 (i3 X.prog X.w) A (.builtin "dict.update.loop" ⟨[.ref S,.ref J,.int j t,.none],[]⟩) R { s with heap:=h,toks:=tk }:=by
 have n:S∉wr:=λh=>l<|W.sub _ h;intro k;induction k with
 |zero =>
  intro i h tk j t hk hi g F c Y;obtain rfl:i=m:=by lia
  refine Mp kn ?_;rw[MW cf _];refine(show ge (i3 X.prog X.w) A.in1 (j1 (.ref J) >>= _) _ _ _ from p8<|W.done _ _ _ g λh' tk d=>?_);rw[<-hm,K9]at F;refine(show ge (i3 X.prog X.w) A.in1 (Builtin.Dict.addKeywords S [] >>= _) _ _ _ from p8<|t4<|t4 ?_);exact Y h' tk (λb u e=>d b u (λz=>by rw[B b z]at e;cases e)<|c b u e)<|F.at λo e=>d S o n e
 |succ k ih =>
  intro i h tk j t hk hi g F c Y;refine Mp kn ?_;rw[MW cf _];refine(show ge (i3 X.prog X.w) A.in1 (j1 (.ref J) >>= _) _ _ _ from p8<|W.item i _ _ _ (by lia) g λv h' tk hP q d=>?_);obtain⟨p,hp,vv,r,rv⟩:=y i v hP;have f:∀b u,s.heap.get? b=a7 u->h'.get? b=a7 u:=λb u e=>d b u (λz=>by rw[B b z]at e;cases e)<|c b u e;have I':r9 X pins σ H { s with heap:=h',toks:=tk }:=I.kept f;obtain⟨ws,us,Z,C,dd⟩:=F.at λo e=>d S o n e;have hl:=(FF Z C).1;have dl:=um<|ps.take i;rw[F5]at dl;obtain⟨a,vs,rfl,hq,E⟩:=t9.inv_tup r;obtain rfl:v=G1 a:=rv;obtain⟨_,_,rfl,r1,E⟩:=Reps.inv_cons E;obtain⟨_,vd,rfl,r2,E⟩:=Reps.inv_cons E;obtain rfl:=Reps.inv_nil E;obtain rfl:=t9.inv_str r1;obtain⟨its,U,pl,hz⟩:=I'.tuple hq;obtain⟨u1,u2,rfl,e1,e2⟩:=aB.two U;obtain⟨x,d0⟩:=p;obtain⟨o,T,hc,nn,hd⟩:=pl;have hT:({ s with heap:=h',toks:=tk }:f7).TypeIs (.ref a) "tuple":=⟨o,T,hc⟩
  refine p8<|D7<|p8<|OV ?_;unfold Builtin.Dict.pairItems;refine p8<|MS hT ?_;rw[n9<|by decide];refine p8<|Nd T hd<|t4 ?_;refine(show ge (i3 X.prog X.w) _ (i7 [u1,u2]<|dictSet S u1 u2) _ _ _ from D7 ?_);refine wpAny_dictSet_pairs (s:={ s with heap:=h',toks:=tk }) (BJ (k:=ABe x) e1) dd (λh2 G sb=>?_) (am<|by lia);have V:∀b u,b≠S->h'.get? b=a7 u->h2.get? b=a7 u:=λb u O e=>(sb.2 b O).trans e;obtain⟨N,f1,Q⟩:=AA (k:=x) r2 Z;have et:ps.take (i+1)=ps.take i++[(x,d0)]:=by rw[Mh,hp];rfl
  refine t4 ⟨Mw cf _,ih (i+1) h2 _ _ _ (by lia) (by lia) (W.frame _ h' h2 q λb' M o e=>V b' o (λz=>l<|z ▸ M) e) ?_ (λb u e=>V b u (λz=>by rw[z,L]at e;cases e)<|f b u e) Y⟩;rw[et,pS];exact⟨N,_,Q,by rw[<-f1];exact C.put (ABe x) e2,G⟩
theorem Fc(I:r9 X pins σ H s)(Y:A.units+30<j9)(B:A.handled=a8)(C:s.heap.IsTuple l its)(f:s.heap.get? l=a7 ol)(j:ol.dict=a8)(ps:List (c7×D))(R:ps.length=its.size)(y:∀(i:Nat) v,its[i]?=a7 v->∃p:c7×D,ps[i]?=a7 p/\∃vv,t9 X.K ρ H (.tup [.str p.1,p.2]) vv/\aZ vv v) (O:its.size<=1000)(h:∀h' tk,(∀b u,s.heap.get? b=a7 u->h'.get? b=a7 u)->ON X ρ H h' s.heap.objs.size (jq ps)->Q (.ref s.heap.objs.size) { s with heap:=h',toks:=tk }):ge (i3 X.prog X.w) A (call (.type "dict") [.ref l]) Q E s:=by
 refine callType_codes (Q₁:=λg s₁=>g=.ref s.heap.objs.size/\s₁={ s with heap:=s.heap.push { cls:=.type "dict",data:=.dict #[] } }) Rr (RI _) Rv (kt_code_dict_new _ ⟨rfl,rfl⟩) ?_;rintro g s₁ ⟨rfl,rfl⟩;have S:(s.heap.push { cls:=.type "dict",data:=.dict #[] }).get? s.heap.objs.size=a7 { cls:=.type "dict",data:=.dict #[] }:=A1 _ rfl;have z:NG { s with heap:=s.heap.push { cls:=.type "dict",data:=.dict #[] } } (.ref s.heap.objs.size) "dict":=⟨_,S,rfl⟩
 obtain⟨a,N,r,Z,n⟩:=id C;obtain rfl:a=ol:=A8<|N.symm.trans f;have c:(s.heap.push { cls:=.type "dict",data:=.dict #[] }).get? l=a7 a:=v5 _ f;have L:NG { s with heap:=s.heap.push { cls:=.type "dict",data:=.dict #[] } } (.ref l) "tuple":=⟨a,c,r⟩
 have V:l<s.heap.objs.size:=v9 f;refine⟨z,RB _ _,?_⟩;unfold Builtin.«dict.__init__»;refine p8 ?_;unfold RA;refine p8<|O2 z ?_;refine(show ge _ _ (pure (s.heap.objs.size,[G1 l])) _ _ _ from t4 ?_);refine(show ge _ _ (O4 "dict.__init__" s.heap.objs.size (.ref l) [] .none) _ _ _ from ?_);unfold O4;refine p8<|MS L ?_;rw[n9<|by decide];refine p8<|oF c r j n (by simpa using B) λh1 x F=>?_;have k:∀b u,s.heap.get? b=a7 u->h1.get? b=a7 u:=λb u e=>F b u<|v5 _ e;rw[n9<|show (a8:Option c6).isNone=a9 from rfl];refine p8<|MQ ?_;obtain⟨oI,St,t,W,st⟩:=(TxSrc.tuple (prog:=X.prog) (w:=X.w) C).iter A.in1.in1 { s with heap:=h1,toks:=x } (by simpa using B) λo e=>k _ _ e;refine p8<|t _ _ ?_;have d:=F _ _ S;have J:s.heap.objs.size<h1.objs.size:=v9 d;have G:s.heap.get? s.heap.objs.size=a8:=by
  cases q:s.heap.get? s.heap.objs.size with
  |none=>rfl
  |some o=>exact o4 (v9 q)<|D5 _
 refine t4 ⟨Mw cf _,Ir (A:=A.in1) (s:=s) I (by show A.units+1+20<j9;lia) W s.heap.objs.size ?_ G ?_ ps R y O its.size 0 _ _ _ _ rfl (z5 _) st ⟨[],[],.nil,.nil,_,#[],_,v5 _ d,⟨rfl,rfl,rfl⟩,rfl,(λ_ P=>by simp at P),Pairs.nil,On⟩ (λb u e=>v5 _<|k b u e) λh2 T U M=>⟨rfl,h h2 T U M⟩⟩;simp only[A0,PJ,or_false,not_or];exact⟨x6 J,OS V⟩;intro b m;rw[J6.mp m];cases q:s.heap.get? h1.objs.size with
 |none=>rfl
 |some o=>exact o4 (Pq (v9 q) J)<|D5 _
def tj:D1:=λd M Q=>match d with
 | [.tup x]=>∃s:List (c7×D),x=s.map (λp=>.tup [.str p.1,p.2])/\s.length<=1000/\Q (.ref M.length) (M++[.dct<|jq s])
 |_=>False
theorem Fb(J:Room k X.A)(D:X.calm=a9):lq X (.type "dict") tj:=by rintro n s σ H vs us R I S ⟨ds,M,ρ,Q,B,b,q,N⟩;have un:=J.un;unfold tj at q;split at q;obtain⟨ps,L,Y,q⟩:=q;have z:=Reps.inv_cons b;clear b;obtain⟨_,_,rfl,g,b⟩:=z;obtain rfl:=Reps.inv_nil b;obtain⟨u,rfl,t⟩:=aB.one S;subst L;obtain⟨a,ws,rfl,G,r⟩:=t9.inv_tup g;cases t;obtain⟨its,y,x,hz⟩:=I.tupN G;obtain⟨oa,e,E,⟨nn,h⟩,j⟩:=id x;have P:=r.length;have li:=y.length;rw[u6]at P;have f:H s.heap.objs.size=a8:=I.hok.fresh<|u7 _;have C:(s.heap.objs.size==d8)=c5:=beq_eq_false_iff_ne.mpr<|B8<|x6 I.big;refine Fc (A:=X.A) (ρ:=ρ) I (by lia) (I.ok.hd D) x.tup e j ps (by rw[z7];lia) (λi v K=>?_) (by rw[z7];lia) λh' T O c=>?_;obtain⟨d,Z,t,g,m⟩:=gD r y (i:=i) (u:=v) (by simpa using K);rw[C8]at t;obtain⟨p,F,rfl⟩:=Mz.mp t;exact⟨p,F,Z,g,m⟩;obtain⟨w,V,U,l,c⟩:=c;have W:=um ps;have ln:=(FF U l).2;refine⟨.ref s.heap.objs.size,_,I.laid (a:=s.heap.objs.size) (o:=.dK (jx ((jq ps).map (·.1)) w)) (t':=T) O (u7 _)<|FP (am<|by lia) C l c,rfl,?_⟩;exact N _ _ ⟨.ref M.length,M++[.dct<|jq ps],ρ++[s.heap.objs.size],B.laidM (mo:=.dct<|jq ps) f ⟨w,aR,U.grow<|Grow.laidR f⟩,Grow.laidR f,.ref B.last,q⟩;exact q.elim
theorem ED(i:Room k X.A)(f:X.calm=a9:=by kernel_rfl):HC X (.type "dict") tj:=⟨Fb i f⟩
def BMain(mg:c7->Option c6)(base:d7):Prop:=∃m o,mg "__builtins__" = a7 (.ref m)/\m≠builtinsNs/\m≠e8/\base.get? m=a7 o/\o.cls=.type "module"/\o.dict=a7 builtinsNs/\o.data=.plain
def Self(X:Cx)(x:c7):Prop:=∃(f:d5) (oc:c6) (j:Option d5) (d:k4) (m:Array (Option c6)),X.mg x=a7 (.ref f)/\X.K.lookup f=a7 ⟨oc,j,.func d,m⟩/\X.env.code=d.code
theorem Self.code(S:Self X x)(I:r9 X p σ H s)(h:tabIn X.K x=a7 (c,P)):X.env.code=.ref c:=by obtain⟨f,oc,j,g,m,h1,h2,a⟩:=S;unfold tabIn at h;split at h;rename_i e d;have t:=mg_of I.mod.kin I.mod.glob d;rw[h1]at t;cases t;split at h;rename_i l;rw[h2]at l;cases l;split at h;rename_i U b;split at h;split at h;cases h;rw[a,b];cases h;cases h;cases h;cases h;cases h
theorem A2.writtenB{K:u4}{H:Hp}(b:H p=a7 (.tbl s))(h:A2 K H a x):A2 K (v7 H p o) a x:=by
 have F:∀u,H a=a7 u->(∀q,u≠.tbl q)->a≠p:=λu e q z=>by rw[z,b]at e;exact q s (A8 e).symm
 rcases h with h|h;rcases h with h|⟨c,h⟩
 exact .inl (.inl<|by rw[ao<|F _ h λ_ z=>by cases z];exact h);exact .inl<|.inr ⟨c,by rw[ao<|F _ h λ_ z=>by cases z];exact h⟩;exact .inr h
theorem u9.writeB{K:u4}{ρ:List d5}{M:t8}{H:Hp}(S:u9 K ρ M H)(t:ρ[n]?=a7 a)(u:M[n]?=a7 (.tb x b))(s:H a=a7 (.tbl v)):u9 K ρ (M.set n<|.tb x a9) (v7 H a<|.tbl ps')/\Grow K ρ H ρ (v7 H a<|.tbl ps'):=by
 have g:Grow K ρ H ρ (v7 H a<|.tbl ps'):=⟨NJ,λ_ _ h=>A2.writtenB s h⟩
 have l:∀m,m≠n->(M.set n<|.tb x a9)[m]?=M[m]?:=λm i=>MX<|B8 i;have c:¬Mi M[n]?:=λ⟨_,z⟩=>by rw[u]at z;cases z
 refine⟨⟨λm o b j e f=>?_,by rw[J7];exact S.len,λm d p e f=>?_⟩,g⟩;have q:=S.nd m o b j e f;by_cases h1:m=n;subst h1;rw[l o<|B8 j];exact .inr<|q.resolve_left c;rw[l m h1];by_cases h2:o=n;subst h2;exact .inl<|q.resolve_right c;rw[l o h2];exact q;by_cases i:m=n;subst i;have k:d=a:=A8<|e.symm.trans t;subst k;rw[MA<|by rw[<-S.len];exact(x9.mp t).1]at f;cases f;exact⟨(S.obj m d _ t u).1,ps',aR,λz=>by cases z⟩;rw[l m i]at f;by_cases k:d=a;subst k;have r:=(S.nd m n d i e t).resolve_right c;rw[f]at r;exact(S.obj m d p e f).grow g<|.inr r;exact(S.obj m d p e f).grow g<|.inl<|ao k
theorem Hm{P:c9}{w:c8}{K:u4}{mg:c7->Option c6}{base:d7}{A:f6}{a:List Env}{s:f7}{H:Hp}{k:Nat}{f U:d5}{B l:c7}{p:Arguments}{c:h8}{scope:f8}{C h:c6}{N ps:List c7}{te:v8}{ρ:List d5}{M:t8}{d:D}{v:V}{u:c6}{R:DK} (j:Env0 P w K mg base A a s H) (X:s.heap.get? f=a7 (kla_obj B l p c scope [] C U h)) (m:s.heap.CodeRec (.ref U) l) (S:FnScope N ps scope) (t:Room (k+1) A)(Q:BindsTo s (kla_fn B l p c scope [] C (.ref U) h) ⟨[u],[]⟩ (ps.zip [u])) (W:1=ps.length) (i:∀E,Room k (A.deeper<|k7 l scope s.heap.objs.size f<|.ref U)->DE (uz E8 P w K mg base N l scope f (.ref U) A a s H E).nox c te)(L:u9 K ρ M H) (r:t9 K ρ H d v) (ru:aZ v u) (Y:te (cK N [d]) M (bb M R)):k5 (i3 P w) A (.call (.ref f) ⟨[u],[]⟩) (CR E8 a P w H s (λv' H'=>VQ K ρ H R v' H') E0) s:=by
 have F:s.heap.NoLimit:=j.mod.nolimit.keeps λb o e=>(j.bs b o e).1;have g:∀y∈ps.zip [u],scope.names.lookup y.1=a7 .local\/(scope.names.lookup y.1=a7 .cell/\((cellsFrom (s.heap.objs.size+1) scope.names []).lookup y.1).isSome=a9):=λ⟨n,v⟩ Z=>by rcases S.par n (Qm Z).1 with q|q;exact .inl q;exact .inr ⟨q,Ru _ _ _<|.inl q⟩
 refine kla_callFunE t.depth X rfl S.co S.gen rfl m<|Q _ _ _ _ ?_;refine wpAny_newFunctionEnv_cells S.kind g λenv T G x=>?_;subst T;refine⟨F.keeps x.toInCall.keep,kla_codeExpr ?_⟩;have I:r9 (uz E8 P w K mg base N l scope f (.ref U) A a s H E0) [] (start N [v]) H G:=uc S t.hd j W (.cons ru .nil) x;have O:=PE.nox<|i E0<|t.deeper _;refine E9 (O [] G (start N [v]) H (λv' H'=>VQ K ρ H (bb M R) v' H') I ⟨cK N [d],M,ρ,_,L,SRep.start (.cons r .nil) N,Y,λ_ _ z=>z⟩) (λu' s' hs=>?_) λe s' hs=>hs;obtain⟨v',H',J,rv,q⟩:=hs;exact⟨v',H',J.os,J.bare,J.base,J.hok,rv,VQ.endq L q⟩
theorem r9.writeB(I:r9 X p σ H s)(h:H P=a7 (.tbl ps))(k:∀b u,b≠P->s.heap.get? b=a7 u->h'.get? b=a7 u)(B:h'.get? P=a7 (tabObj<|ps++more)):r9 X p σ (v7 H P<|.tbl<|ps++more) { s with heap:=h',toks:=t' }:=by
 have R:∀b,H b=a8->b≠P:=λb n z=>by rw[z,h]at n;cases n
 have F:∀b u,H b=a7 u->(∀q,u≠.tbl q)->b≠P:=λb u e q z=>by rw[z,h]at e;exact q ps (A8 e).symm
 refine I.un ⟨λb u q n _ _=>k b u (R b n) q,λb u q n _ _=>⟨u.slots,k b u (R b n) q⟩,λb u q n _=>by rw[ao<|R b n];exact n,λb u q _=>?_,λb x q=>by rw[ao<|F b _ q λ_ z=>by cases z];exact q,λb u x q=>by rw[ao<|F b _ q λ_ z=>by cases z];exact q,λb a q=>?_⟩ λb u q=>?_;by_cases d:b=P;subst d;exact⟨_,B⟩;exact⟨u,k b u d q⟩;by_cases d:b=P;subst d;rw[h]at q;cases q;exact⟨more,aR⟩;exact⟨#[],by rw[ao d,q];simp⟩;by_cases d:b=P;subst d;rw[aR]at q;cases q;exact B;rw[ao d]at q;refine(I.hok b u q).stay (λc v f r=>k c v ?_ r) (λc r=>by rw[ao<|F c _ r λ_ z=>by cases z];exact r) λc x r=>by rw[ao<|F c _ r λ_ z=>by cases z];exact r
 rcases f with rfl|f;exact d;exact F c _ f λ_ z=>by cases z
theorem Ei(I:r9 X pins σ H s)(r:H P=a7 (.tbl #[]))(C:∀h:d7,X.K.In h->CodeHd h c P)(g:X.env.code=.ref c)(B:BMain X.mg X.base)(x:closureFor scope X.env=pure []) (k:defaultsOf params X.env=([],[]))(h:∀f c' oc vs t ctv ps' s',r9 X ((f,kla_obj "<lambda>" (X.env.qual ++ "<lambda>") params body scope [] ((X.mg "__name__").getD .none) c' ctv)::(c',oc)::pins) σ (v7 H P<|.tbl ps') s'->oc.data=.fields vs->vs[1]?=a7 (.str (X.env.qual ++ "<lambda>") t)->Q (.ref f) s'):ge (i3 X.prog X.w) A (eval (.Lambda params body scope pos) X.env) Q E s:=by
 have L:s.heap.get? P=a7 (tabObj #[]):=I.hok P _ r;have hg:s.heap.Ns e8 X.mg:=I.mod.glob.keeps I.bk;have N:∀b o,X.base.get? b=a7 o->b≠P:=λb o e z=>by have:=(I.bs b o e).2;rw[z,r]at this;cases this
 obtain⟨W,ob,R,T,U,G,V⟩:=B;have y:e8≠P:=by obtain⟨o,es,ep,e,_⟩:=I.mod.glob;exact N _ _ e
 refine kla_eval k<|kla_makeFunction x I.ok.glob hg g (C _ I.kIn) L trivial rfl y ⟨W,ob,R,T,U,N _ _ G,I.bk _ _ G,V⟩ λc' ctv h' tk hx d D m i=>?_;obtain⟨c2,oc,vs,t,Z,S,M,hv⟩:=m;cases Z;have O:P≠h'.objs.size:=λz=>by rw[z]at i;exact o4 (v9 i)<|D5 _
 have hs:s.heap.objs.size<=h'.objs.size:=D4 d<|Oh D;have J:r9 X pins σ (v7 H P<|.tbl<|#[] ++ #[j4 pos.line,j4 pos.col,.ref c']) { s with heap:=h'.push<|kla_obj "<lambda>" (X.env.qual ++ "<lambda>") params body scope [] ((X.mg "__name__").getD .none) c' ctv,toks:=tk }:=by exact I.writeB r (λb u j e=>v5 _<|hx b u j e)<|v5 _ i
 have a:∀b,s.heap.objs.size<=b->b≠P->v7 H P (.tbl<|#[] ++ #[j4 pos.line,j4 pos.col,.ref c']) b=a8/\b≠X.env.locals/\b∉X.fs:=λb j hn=>by refine⟨by rw[ao hn];exact I.hok.fresh j,λz=>?_,I.nofs j⟩;rw[z]at j;exact o4 (G5 I.lt j)<|D5 _
 have Y:c'≠P:=λz=>by rw[z]at d;exact o4 (G5 (v9 L) d)<|D5 _
 refine h h'.objs.size c' oc vs t ctv _ _ (J.pins_of λp l=>?_) M hv;rcases A0.mp l with rfl|l;obtain⟨F,n,q⟩:=a h'.objs.size hs<|B8 O;exact⟨A1 _ rfl,F,n,q,λv z=>by cases z⟩;rcases A0.mp l with rfl|l;obtain⟨F,n,q⟩:=a c' d Y;exact⟨v5 _ S,F,n,q,λv z=>by rw[M]at z;cases z⟩;exact J.pin p<|F6 _ l
noncomputable def lamB(c:f8)(y:c7):Bool:=decide (c.kind=.function) && !c.isCoroutine && !c.isGenerator&&decide (c.names.lookup y=a7 .local)&&c.names.all λp=>decide<|p.2≠.free
theorem By(h:lamB sc y=a9):FnScope [y] [y] sc:=by
 simp only[lamB,C9,o5,PP,E5]at h;obtain⟨⟨⟨⟨h1,h2⟩,a⟩,f⟩,k⟩:=h;refine⟨h1,h2,a,MU.mpr ⟨PJ,On⟩,rfl,λx c=>?_,λp b=>k p b⟩;obtain rfl:x=y:=by simpa using c
 exact .inl f
def mz(x:c7)(N:List c7)(te:v8)(t:H9):v8:=λS M Q=>t S M λg c=>match g with
 | [y]=>∃q s l,c[q]?=a7 (.tb x c5)/\(y=.tup s\/∃n,y=.ref n/\aA (c.set q<|.tb x a9) n s)/\(∀d∈s,te (cK N [d]) (c.set q<|.tb x a9)<|bb (c.set q<|.tb x a9) λz e=>z=l d/\e=c.set q (.tb x a9))/\SrtG (c.set q<|.tb x a9) (s.map l) /\∀f,f.Perm s->f.Pairwise (λa b=>B7 (c.set q<|.tb x a9) t5 (l b) (l a)=c5)->Q (.ref c.length) (c.set q (.tb x a9)++[.lst f])
 |_=>False
theorem BI(Sf:Self X x)(B:BMain X.mg X.base)(hr:Room (k+3) X.A)(he:HA X [e] t)(hm:X.mg "sorted" = a8)(ai:∀(s:f7) (H:Hp) (f:d5) (cdv:c6) (A:f6) (outer:List Env) (E:XK),Room k (A.deeper<|k7 (X.env.qual ++ "<lambda>") scope s.heap.objs.size f cdv)->HE (uz E8 X.prog X.w X.K X.mg X.base [y] (X.env.qual ++ "<lambda>") scope f cdv A outer s H E).nox body te)(Sc:FnScope [y] [y] scope) (aj:closureFor scope X.env=pure []) (P:defaultsOf params X.env=([],[]))(hb:∀(pm ctv:c6) (c':d5) (u:c6),bindArgs (kla_fn "<lambda>" (X.env.qual ++ "<lambda>") params body scope [] pm (.ref c') ctv) ⟨[u],[]⟩=pure [(y,u)])(al:X.env.kindOf "sorted" = a7 .globalImplicit:=by kernel_rfl) (hs:i5 [e] X.env=[(c5,eval e X.env)]:=by kernel_rfl):HE X (.Call (.Name "sorted" p) [e] [⟨a7 "key",.Lambda params body scope lpos,kpos⟩] pos) (mz x [y] te t):=by
 refine⟨λg s σ H R I h=>?_⟩;obtain⟨S,M,ρ,Q,sm,sr,q,kk⟩:=h;refine OC (lP I al hm uL ?_ (by decide)<|by decide);unfold mz at q;refine callWith_kw (v4 (he.ok pos g s σ H (λvs H1=>AQ X.K ρ H _ vs H1) I ⟨S,M,ρ,_,sm,sr,q,λ_ _ z=>z⟩) ?_) (by rw[hs];rfl) (by rw[hs];rfl);rintro us s1 ⟨vs,H1,I1,r1,T⟩;obtain⟨ds,M1,as,V,g1,rs,T⟩:=T;split at T;rename_i y0;obtain⟨qn,xs,L,hq,hx,hP,so,O⟩:=T;obtain⟨v1,_,rfl,rx,rs⟩:=Reps.inv_cons rs;obtain rfl:=Reps.inv_nil rs;obtain⟨u,rfl,Z⟩:=aB.one r1;obtain⟨Pa,ep,mo⟩:=V.get hq;obtain⟨⟨c,tc,C⟩,ps,hH,h0⟩:=mo;obtain rfl:=h0 rfl;refine kws_cons<|Ei I1 hH C (Sf.code I1 tc) B aj P λf c' oc vs t' ctv ps' s2 N hd hv=>kws_nil ?_;obtain⟨i,Y⟩:=V.writeB (ps':=ps') ep hq hH;show ge _ _ (call (.builtin "sorted") [u] [(AA0 "key",.ref f)]) _ _ _;have an:=so.len;rw[u6]at an;have F:Room (k+1+2) X.A:=hr;generalize v7 H1 Pa (.tbl ps')=H2 at i Y N;have ml:(M1.set qn<|.tb x a9).length=M1.length:=J7 ..;generalize M1.set qn (.tb x a9)=W at i hP so O hx ml;have G:KeyG X ((f,kla_obj "<lambda>" (X.env.qual ++ "<lambda>") params body scope [] ((X.mg "__name__").getD .none) c' ctv)::(c',oc)::g) σ as W f L xs:=λs H d v u hm I sm r Z=>by have p1:=(I.pin _<|F6 _ C5).1;have p2:=(I.pin (c',oc)<|F6 _<|A5 _ C5).1;exact Hm (k:=k) I.env0.in1.in1 p1 ⟨c',oc,vs,t',rfl,p2,hd,hv⟩ Sc (Room.in1 (k:=k+2) F).in1 (.of_eq<|hb _ _ _ _) rfl (λE hr=>(ai s H f _ _ _ E hr).ok) sm r Z<|hP d hm
 have j:∀{v:c6}{s':f7},EP X ((f,kla_obj "<lambda>" (X.env.qual ++ "<lambda>") params body scope [] ((X.mg "__name__").getD .none) c' ctv)::(c',oc)::g) σ R v s'->EP X g σ R v s':=λ{v s'} ⟨v',H',J,rv,q⟩=>⟨v',H',J.pins_of λp hp=>J.pin p<|F6 _<|A5 _<|A5 _ hp,rv,q⟩
 have l:∀ys,ys.Perm xs->ys.Pairwise (λa b=>B7 W t5 (L b) (L a)=c5)->Q (.ref W.length) (W++[.lst ys]):=λys h1 h2=>by rw[ml];exact O ys h1 h2
 rcases hx with rfl|⟨n,rfl,hL⟩
 obtain⟨a,vs,rfl,D,r⟩:=t9.inv_tup<|rx.grow Y;cases Z;obtain⟨its,U,⟨o,ho,hc,n,m⟩,_⟩:=N.tuple D;have h1:=r.length;have h2:=U.length;exact E9 (xt G F N i r U ho (.inr hc) m (by lia) so λv H' z=>kk v H'<|VQ.trans g1<|VQ.trans Y<|z Q l) (λ_ _ z=>j z) λ_ _ z=>z;obtain⟨a,rfl,en⟩:=t9.inv_ref rx;cases Z;obtain⟨vs,D,r⟩:=aA.seq i hL en;obtain⟨its,U,⟨o,n,ho,hc,_,m⟩,_⟩:=N.list D;have h1:=r.length;have h2:=U.length;exact E9 (xt G F N i r U ho (.inl hc) m (by lia) so λv H' z=>kk v H'<|VQ.trans g1<|VQ.trans Y<|z Q l) (λ_ _ z=>j z) λ_ _ z=>z;exact T.elim
abbrev DerL(P:c9)(w:c8)(K:u4)(mg:c7->Option c6)(base:d7)(k:Nat)(x:c7)(N:List c7)(st:i6)(t:s9):Prop:=∀(f:d5) (cdv:c6) (A:f6) (outer:List Env) (s:f7) (H:Hp) (E:XK),Room k (A.deeper<|PyProof.Rows.envOfC x (av st) s.heap.objs.size f cdv)->Self (uz E8 P w K mg base N x (av st) f cdv A outer s H E).nox x->HB (uz E8 P w K mg base N x (av st) f cdv A outer s H E).nox (bV st) t
theorem u8.byL{P:c9}{w:c8}{K:u4}{mg:c7->Option c6}{base:d7}{x:c7}{st:i6}{N ps:List c7}{k:Nat}{e:w6}{B:List c7}{C:List (c7×Int)}{t:s9}(T:TopB mg B C)(F:ca K mg x st ps)(y:FnScope N ps (av st))(n:cr e ps)(i:TopB mg B C->N.Nodup->DerL P w K mg base k x N st t)(Y:∀ds M R,e ds M R->t (EE M R) (cK N ds) M):u8 P w K mg base (k+1) x ps e:=by obtain⟨f,O,u,D,U⟩:=F;refine⟨f,O,?_,D,u.kp,U⟩;obtain⟨oc,X,kV,L,pm,Z,g,ct,G,rfl,J,m⟩:=u.ex;refine Lx J m y (λvs H Q E ⟨ds,M,ρ,R,s,r,q,_⟩=>by rw[<-r.length];exact n ds M R q) λA o s H vs Q E V h=>?_;obtain⟨ds,M,ρ,R,p,r,q,I⟩:=h;have W:=i T y.nd f g A o s H E V ⟨f,oc,X,_,G,D,J,rfl⟩;refine⟨lowS K t,J3.nox W.ok,cK N ds,M,ρ,_,p,SRep.start r N,Y ds M R q,⟨λc H' ⟨S,d,a,s',l,b,j⟩=>?_,λv H' z=>I v H'<|VQ.endq p z,λc H' ⟨S,d,a,s',l,b,j⟩=>j.elim,λc H' ⟨S,d,a,s',l,b,j⟩=>j.elim⟩⟩;exact I .non H'<|VQ.endq p ⟨.non,d,a,s',l,.non,j⟩
def yP(z:c7):w6:=λd M R=>∃(n:List Int) (m:MO),n.length<=63/\(m.items=n.map D.int/\m.isL=a9)/\d=[.ref 0]/\M=[m,.tb z c5]/\∀a,R (.bl a9) a
theorem vZ{K:u4}{H:Hp}{a t c:d5}{z:c7}{s:List Int}(l:s.length<=63)(S:K4 K H a (s.map V.int))(B:H t=a7 (.tbl #[]))(k:tabIn K z=a7 (c,t))(C:∀h:d7,K.In h->CodeHd h c t)(F:a≠t):MY K (yP z) [.ref a] H (λv _=>v=.bl a9) λ_ _ _=>False:=by
 have f:∀{mo:MO},mo.items=s.map D.int/\mo.isL=a9->zu K [a,t] H a mo->MY K (yP z) [.ref a] H (λv _=>v=.bl a9) λ_ _ _=>False:=λ{mo} e ok=>by
  refine⟨[.ref 0],[mo,.tb z c5],[a,t],λd _=>d=.bl a9,⟨λn m b g e1 e2=>?_,rfl,λn b i e1 e2=>?_⟩,.cons (.ref rfl) .nil,⟨s,mo,l,e,rfl,rfl,λ_=>rfl⟩,λv H' ⟨d,M,p,_,_,r,q⟩=>?_⟩
  match n,m,e1,e2 with
  | 0,0,_,_=>exact o4 rfl g
  | 1,1,_,_=>exact o4 rfl g
  | 0,1,e1,e2=>simp at e1 e2;exact o4 (e1.trans e2.symm) F
  | 1,0,e1,e2=>simp at e1 e2;exact o4 (e2.trans e1.symm) F
  |n+2,_,e1,_=>simp at e1
  |_,m+2,_,e2=>simp at e2
  match n,e1,e2 with
  | 0,e1,e2=>simp at e1 e2;subst e1 e2;exact ok
  | 1,e1,e2=>simp at e1 e2;subst e1 e2;exact⟨⟨c,k,C⟩,#[],B,λ_=>rfl⟩
  |n+2,e1,_=>simp at e1
  have j:d=.bl a9:=q;subst j;obtain rfl:=t9.inv_bl r;rfl
 rcases S with(h|⟨o,h⟩)|h;exact f (mo:=.lst _) ⟨rfl,rfl⟩ ⟨_,h,jY s⟩;exact f (mo:=.fz _) ⟨rfl,rfl⟩ ⟨o,_,h,jY s⟩;exact f (mo:=.kl _) ⟨rfl,rfl⟩ ⟨_,h,jY s⟩
theorem Bx{P:c9}{w:c8}{K:u4}{mg mb:c7->Option c6}{k:Nat}{S a t:d5}{fd:k4}{x:c7}{sp:Sp}{s₁:f7}{vs:List c6}{ns:List Int}(X:K.In s₁.heap) (L:s₁.heap.Ns e8 mg) (c:s₁.heap.Ns builtinsNs mb) (U:∀x:c7,x≠"__name__"->mb x=e9 x) (J:s₁.heap.NoLimit) (hg:s₁.gens = #[])(A:s₁.heap.get? a=a7 { cls:=.type "list",data:=.seq vs.toArray }) (hi:IntsAre vs ns) (hl:ns.length<=sizeLine) (hr:Room k callerA) (nt:noTabs K=a9) (B:s₁.heap.get? t=a7 (tabObj #[])) (Z:isCodeTable s₁.heap t) (BM:BMain mg s₁.heap)(F:∀base:d7,K.In base->base.Ns e8 mg->BMain mg base->FnOk P w K mg base E8 k S fd [x] sp) (p:∀(s:f7) (u:c6),BindsTo s fd ⟨[u],[]⟩ [(x,u)])(Y:∀H:Hp,K4 K H a (ns.map V.int)->H t=a7 (.tbl #[])->sp [.ref a] H (λv _=>v=.bl a9) λ_ _ _=>False):k5 (i3 P w) callerA (.call (.ref S) ⟨[.ref a],[]⟩) (λr s'=>r=.ok (.ret<|.bool a9)/\OldK s₁.heap s'.heap/\s'.os=s₁.os/\f9 s'.gens) s₁:=by
 have rv:=rR hi;have N:=hi.length;have aP:a≠t:=λe=>by rw[e,B]at A;cases A
 have i:∀H:Hp,(∀b,b≠t->H b=a8\/∃o xs,H b=a7 (.frz o<|.lst xs))->K4 K H a (ns.map V.int)->H t=a7 (.tbl #[])->D0 P w H s₁.heap->(∀b,H b≠a8->b=a\/b=t)->(H a≠a8->K.lookup a=a8) -> k5 (i3 P w) callerA (.call (.ref S) ⟨[.ref a],[]⟩) (λr s'=>r=.ok (.ret<|.bool a9)/\OldK s₁.heap s'.heap/\s'.os=s₁.os/\f9 s'.gens) s₁:=by
  intro H hO hS hT M hA hK;have f:∀{b:d5}{o:d6},s₁.heap.get? b=a7 o->H b=a8->(CG s₁.heap H).get? b=a7 o:=λe n=>EA e n;have O:∀{b:d5}{o:d6},s₁.heap.get? b=a7 o->o.cls≠.type "list"\/(∀v n,o.data≠.seq v n)->o≠tabObj #[]->H b=a8:=λ{b o} e E d2=>by
   cases q:H b with
   |none=>rfl
   |some u=>rcases hA b (by rw[q];simp)with e'|e';subst e';rw[A]at e;cases e;rcases E with E|E;exact o4 rfl E;exact o4 rfl<|E _ _;subst e';rw[B]at e;cases e;exact o4 rfl d2
  have g:∀{b:d5}{m:c7->Option c6},s₁.heap.Ns b m->(CG s₁.heap H).Ns b m:=λ{b m} ⟨o,es,ep,e,d,r⟩=>⟨o,es,ep,f e (O e (.inr λv n z=>by rw[d]at z;cases z) λz=>by rw[z]at d;cases d),d,r⟩
  have G:K.In (CG s₁.heap H):=λb o e=>f (X b o e) (by
   cases q:H b with
   |none=>rfl
   |some u=>rcases hA b (by rw[q];simp)with e'|e';subst e';rw[hK<|by rw[q];simp]at e;cases e;subst e';have h2:=E5.mp nt (b,o)<|mem_of_lookupK e;have h3:=X b o e;rw[B]at h3;cases h3;exact o4 (show c5=a9 from h2) Nt)
  have hM:Mod K mg (CG s₁.heap H):=⟨G,g L,⟨mb,g c,U⟩,let ⟨mc,h1,h2⟩:=J;⟨mc,g h1,h2⟩⟩
  have e0:Env0 P w K mg (CG s₁.heap H) callerA [] s₁ H:=⟨rfl,hM,λb o e=>GU e,Nat.le_of_eq<|BW _ _,trivial,λb c=>o4 (show b∈([]:List d5)from c) (by simp),M,.of_eq hg⟩
  have R:BMain mg (CG s₁.heap H):=by obtain⟨R,ob,b1,b2,b3,b4,C,b6⟩:=BM;exact⟨R,ob,b1,b2,b3,f b4 (O b4 (.inl λz=>by rw[z]at C;injection C with h;exact o4 h<|by decide) λz=>by rw[z]at C;cases C),C,b6⟩
  refine Og ((F _ G (g L) R).run callerA [] s₁ H ⟨[.ref a],[]⟩ [.ref a] [.ref a] _ _ hr e0 (p s₁<|.ref a) (.cons rfl .nil)<|Y H hS hT) λr s' h=>?_;cases r with
  |error e=>exact h.elim
  |ok fl =>
   cases fl with
   |next=>exact Na h
   |brk=>exact Na h
   |cont=>exact Na h
   |ret u =>
    obtain⟨v,H',os,D,un,j,r',q⟩:=h;have q':v=.bl a9:=q;subst q';obtain rfl:u=Oe a9:=r';obtain⟨l,T⟩:=un.tbls t _ hT;have I:s'.heap.get? t=a7 (tabObj<|#[]++l):=j t _ T;have Q:∀b o,b≠t->s₁.heap.get? b=a7 o->s'.heap.get? b=a7 o:=λb o c e=>by
     cases q:H b with
     |none=>exact un.keep b o e q (by intro z;exact o4 (show b∈([]:List d5)from z)<|by simp)<|by simp
     |some u =>
      rcases hO b c with z|⟨ob,xs,z⟩
      rw[q]at z;cases z;have z2:=un.frzs b ob _ z;obtain⟨e1,_⟩:=M b _ z;obtain⟨e2,_⟩:=j b _ z2;rw[e]at e1;cases e1;exact e2
    refine⟨rfl,⟨λb o e=>?_,λb o e=>?_⟩,os,D⟩;by_cases c:b=t;subst c;rw[B]at e;cases e;exact .inr<|.inl ⟨Z,rfl,#[],l,rfl,I⟩;exact .inl<|Q b o c e;by_cases c:b=t;subst c;exact⟨_,I⟩;exact⟨o,Q b o c e⟩
 cases W:K.lookup a with
 |some o=>have e:=X a o W;rw[A]at e;cases e;refine i (v7 (λ_=>a8) t<|.tbl #[]) (λb c=>.inl<|ao c) (.inr ⟨_,vs.toArray,_,W,rfl,rfl,rfl,by rw[z7,N];exact hl,by simpa using rv⟩) aR (λb u z=>?_) (λb z=>?_) λz=>o4 (ao aP) z;by_cases c:b=t;subst c;rw[aR]at z;cases z;exact B;rw[ao c]at z;cases z;by_cases c:b=t;exact .inr c;exact o4 (ao c) z
 |none=>refine i (v7 (λb=>if b=a then a7 (.frz { cls:=.type "list",data:=.seq vs.toArray }<|.lst<|ns.map V.int)else a8) t<|.tbl #[]) (λb y=>?_) (.inl<|.inr ⟨{ cls:=.type "list",data:=.seq vs.toArray },(ao aP).trans<|n9 rfl⟩) aR (λb u z=>?_) (λb z=>?_) λ_=>W;rw[ao y];by_cases c:b=a;exact .inr ⟨_,_,n9 c⟩;exact .inl<|o0 c;by_cases y:b=t;subst y;rw[aR]at z;cases z;exact B;rw[ao y]at z;by_cases c:b=a;have z':=(n9 c).symm.trans z;cases z';subst c;exact⟨A,by rw[u6];exact hl,vs,_,rv,A⟩;have z':=(o0 c).symm.trans z;cases z';by_cases y:b=t;exact .inr y;rw[ao y]at z;by_cases c:b=a;exact .inl c;exact o4 (o0 c) z
theorem CZ{K:u4}{x:c7}{c P:d5}(h:tabIn K x=a7 (c,P)):∃o,K.lookup c=a7 o:=by unfold tabIn at h;split at h;split at h;split at h;rename_i U _;split at h;rename_i e;split at h;cases h;exact⟨_,e⟩;cases h;cases h;cases h;cases h;cases h
theorem law_walkL{l:PySem.W.OpenLaw}{q:c9}{m:List c7}{XP:(c7->Option c6)->d7->Prop}{YP:c8->d7->Prop}{d dz:DefRec}{K:Params->u4}{k:Nat}{st:i6}{x z:c7}{cz P:Params->d5}(hn:l.most=a7 63)(O:d.params.defaults=[])(hd:d.name = "law")(hr:Room k callerA)(hY:∀(w:c8) (h:d7),YP w h->(K w.params).In h) (nt:∀p,noTabs (K p)=a9) (hz:(recsOf q).find? (λe=>e.name==z)=a7 dz) (S:∀p,tabIn (K p) z=a7 (cz p,P p))(F:∀(w:c8) (mg:c7->Option c6) (h:d7),(K w.params).In h->h.Ns e8 mg->ca (K w.params) mg "law" st [x] /\ ∀(base:d7) (f:d5) (fd:k4),BMain mg base->MN (K w.params) "law" "law" st f fd->FnOk l.prog w (K w.params) mg base E8 k f fd [x] (MY (K w.params)<|yP z))(hb:∀(kV doc pm:c6) (an:Option d5) (cdv ct:c6) (u:c6),bindArgs (NF "law" "law" (ju st) (bV st) (av st) .none kV doc pm an cdv ct) ⟨[u],[]⟩=pure [(x,u)]):PySem.W.WalkO q m XP YP l.row.toRowW d [] (λf vs=>PySem.call f vs):=by
 refine Att.attach_call hn O λw aj s₁ mg mb fa o pm cd doc a vs ns G Y ho as al D j i n hg=>?_;have I:=hY w _ Y;rw[hd]at D;obtain⟨⟨f,fd,Z,hm,_⟩,C⟩:=F w mg _ I G.T.g;have e:=D.symm.trans hm;cases e;obtain⟨V,N⟩:=tab_of G.T I hz<|S w.params;obtain⟨aD,A⟩:=CZ<|S w.params;have CK:∀h:d7,(K w.params).In h->CodeHd h (cz w.params) (P w.params):=λh X=>by obtain⟨o2,U,y,tf,c,tg,Q,E,tt,e1,r⟩:=V;have e2:=I _ _ A;rw[e1]at e2;cases e2;exact⟨_,U,y,tf,c,tg,Q,E,tt,X _ _ A,r⟩
 have M:BMain mg s₁.heap:=by obtain⟨bm,ob,b1,b2,J,b4,b5,L⟩:=G.T.bmain;refine⟨bm,ob,b1,b2,λz=>?_,J,b4,b5,L⟩;obtain⟨og,es,ep,eg,dg,_⟩:=G.T.g;rw[z,eg]at J;cases J;rw[dg]at L;cases L
 have aP:a≠P w.params:=λe=>by rw[e,N]at j;cases j
 obtain⟨oc,od,kV,t,R,an,cdv,ct,aS,rfl,lk,ai⟩:=id Z.ex;exact Bx I G.T.g G.T.b G.T.builtins G.T.nolimit hg j i (D4 n<|by decide) hr (nt _) N (V.tab N).isCodeTable M (λbase _ _ B=>C base _ _ B Z) (λs v=>.of_eq<|hb kV t R an cdv ct v) λH hS hT=>vZ n hS hT (S w.params) CK aP
end L2
namespace L2
open PySem PySem.Spec PyProof.Rows DL
def wA(A:f6)(s:f7)(x y:c6)(k:Bool):Prop:=∀(g:c9) (w:c8) (E:c6->f7->Prop) (Q:c6->f7->Prop),Q (.bool k) s->ge (i3 g w) A (richCompare .Gt x y) Q E s
inductive GexAt(A:f6)(s:f7):List c6->List c6->Bool->Prop
 |nn:GexAt A s [] [] c5
 |nc {y:c6}{ys:List c6}:GexAt A s [] (y::ys) c5
 |cn {x:c6}{xs:List c6}:GexAt A s (x::xs) [] a9
 |eq {x y:c6}{xs ys:List c6}{k:Bool} (h:MG A s x y a9) (t:GexAt A s xs ys k):GexAt A s (x::xs) (y::ys) k
 |ne {x y:c6}{xs ys:List c6}{k:Bool} (h:MG A s x y c5) (t:wA A s x y k):GexAt A s (x::xs) (y::ys) k
section
open PySem.SeqAt
open PySem.AutoSeq1 (wpAny_loadPart')
open PySem.MeetsSeq PySem.MeetsSeq2 PySem.MeetsSeq3
theorem rT(l b:d5)(items i:Array c6)(n C:Nat)(r e:Option d5)(D m:Array (Option c6))(k:Bool):Meets (Builtin.«tuple.__gt__» ⟨[.ref l,.ref b],[]⟩)
   (λA R s=>s.heap.get? l=a7 (⟨.type "tuple",r,.seq items n,D⟩:d6)/\s.heap.get? b=a7 { cls:=.type "tuple",dict:=e,data:=.seq i C,slots:=m } /\ GexAt A.in1 s items.toList i.toList k/\R (.ok<|.ret<|.bool k) s) :=
 .of_wp λp w A R s h=>by
  obtain⟨o,g,d,u,q⟩:=s;obtain⟨z,v,a,h⟩:=h;have M:=AutoSeq1.sub_tuple_tuple
  wp_walk using QW z,QW v,NL _ (λbe b s'=>b.1=a8/\s'=⟨o,g,d,u,q⟩/\∃(vs c:List c6),be=vs.zip c /\ GexAt A.in1 ⟨o,g,d,u,q⟩ vs c k/\vs.length+i.size=c.length+items.size) _
  case turn =>
   rintro⟨y,x⟩ be b s' ⟨hb',rfl,vs,c,hz,hlex,hlen⟩;cases hlex with
   |nn=>cases hz
   |nc=>cases hz
   |cn=>cases hz
   |eq f t =>
    rw[Nf]at hz;injection hz with hyx hrest;injection hyx with hy a;subst hy a;refine p8<|f p w _ _ ?_
    wp_walk
    exact⟨rfl,rfl,_,_,hrest,t,by simp only[C3]at hlen;lia⟩
   |ne f t =>
    rw[Nf]at hz;injection hz with hyx hrest;injection hyx with hy a;subst hy a;refine p8<|f p w _ _ ?_;have j:=t p w
    wp_walk using j
    exact⟨_,rfl,by simpa using h⟩
  case fin =>
   rintro⟨b1,b2⟩ s' ⟨hb',rfl,vs,c,hz,hlex,hlen⟩;simp only at hb';subst hb';have B:k=decide (items.size > i.size):=by
    cases hlex with
    |nn=>simp only[C2]at hlen;exact(dF_<|by lia).symm
    |nc=>simp only[C2,C3]at hlen;exact(dF_<|by lia).symm
    |cn=>simp only[C2,C3]at hlen;exact(dT_<|by lia).symm
    |eq _ _=>rw[Nf]at hz;cases hz
    |ne _ _=>rw[Nf]at hz;cases hz
   rw[B]at h
   wp_walk
   exact⟨_,rfl,by simpa [RX]using h⟩
  case h =>
   exact⟨rfl,rfl,items.toList,i.toList,rfl,a,by simp;lia⟩
end
theorem wA.tuples(u:s.heap.IsTuple l items)(r:s.heap.IsTuple b items2)(v:A.units<j9)(y:GexAt A.in1 s items.toList items2.toList k):wA A s (.ref l) (.ref b) k:=λp w E Q h=>by obtain⟨⟨t,q,g,C⟩,B,m,n,o⟩:=id u;obtain⟨⟨j,e,i,f⟩,d,a,z,c⟩:=id r;simp only at m o a c;subst m o a c;exact richCompare_meets_room (op:=.Gt) ⟨_,B,rfl⟩ ⟨_,d,rfl⟩ PySem.F.slot_tuple_gt PySem.F.entry_tuple_gt (PySem.F.args_tuple_gt_2 _ _) (rT l b items items2 n z q e C f k) ⟨B,d,y,show Oe k≠Value.notImplemented/\Q (.bool k) s from⟨(λx=>nomatch x),h⟩⟩ v
noncomputable def Lr(f g:D->D->Bool):List D->List D->Bool
 | [],[]=>c5
 | [],_::_=>c5
 |_::_,[]=>a9
 |x::s,y::a=>if f x y=a9 then Lr f g s a else g x y
noncomputable def NC(M:t8):Nat->D->D->Bool
 |_,.int a,.int b=>decide<|b<a
 |_,.str a,.str b=>eW b a
 |n+1,.tup x,.tup y=>Lr (t6 M n) (NC M n) x y
 |_,_,_=>c5
theorem wA.ints(A:f6)(s:f7)(a:Int)(t:Tok)(c:Int)(u:Tok):wA A s (.int a t) (.int c u) (decide<|c<a):=λg w E Q h=>(PyProof.Rows.gt_int h:ge (i3 g w) A (j7 .Gt (.int a t)<|.int c u) Q E s)
theorem wA.texts(A:f6)(s:f7)(a:c7)(t:Tok)(c:c7)(u:Tok):wA A s (.str a t) (.str c u) (eW c a):=λg w E Q h =>
 (PySem.P.gt_str (show Q (.bool<|decide<|c.cps.toList<a.cps.toList) s from h):ge (i3 g w) A (j7 .Gt (.str a t)<|.str c u) Q E s)
theorem Lq(I:r9 X pins σ H s)(sm:u9 X.K ρ M H):∀(n:Nat) (A:f6) (x y:D) (vx vy:V) (u v:c6),A.units+n<j9->t9 X.K ρ H x vx->aZ vx u->t9 X.K ρ H y vy->aZ vy v->u5 M n x=a9->u5 M n y=a9->dS M n x y=a9 ->wA A s u v (NC M n x y):=by
 intro n;induction n with
 |zero =>
  intro A x y vx vy u v U E c f l R S m;cases E with
  |int a =>
   cases f with
   |int b=>obtain⟨t,rfl⟩:=c;obtain⟨t',rfl⟩:=l;exact wA.ints A s a t b t'
   |_=>simp[dS]at m
  |str a =>
   cases f with
   |str b=>obtain⟨t,rfl⟩:=c;obtain⟨t',rfl⟩:=l;exact wA.texts A s a t b t'
   |_=>simp[dS]at m
  |_=>simp[dS]at m
 |succ n W =>
  intro A x y vx vy u v U E c f l R S m;have i:A.in1.units+n<j9:=by show A.units+1+n<j9;lia
  have F:∀(ds es:List D) (vs z:List V) (its j:List c6),Reps X.K ρ H ds vs->aB vs its->Reps X.K ρ H es z->aB z j->ds.all (u5 M n)=a9->es.all (u5 M n)=a9->zh (t6 M n) (dS M n) ds es=a9 -> GexAt A.in1 s its j (Lr (t6 M n) (NC M n) ds es):=by
   intro ds;induction ds with
   |nil =>
    intro es vs z its j g o p q _ _ _;cases g;cases o;cases p with
    |nil=>cases q;exact .nn
    |cons _ _=>cases q;exact .nc
   |cons d ds hi =>
    intro es vs z its j g o p q G B k;cases g with
    |cons J g =>
     cases o with
     |cons O o =>
      cases p with
      |nil=>cases q;exact .cn
      |@cons e _ T _ L p =>
       cases q with
       |cons P q=>rw[Me,C9]at G B;have w:=(lR I sm n A.in1 d _ _ _ _ _ i J O L P G.1 B.1).1;rw[Lr];rw[zh]at k;by_cases h:t6 M n d e=a9;rw[h]at w;rw[n9 h]at k ⊢;exact .eq w<|hi _ _ _ _ _ g o p q G.2 B.2 k;rw[My.mpr h]at w;rw[o0 h]at k ⊢;exact .ne w<|W A.in1 _ _ _ _ _ _ i J O L P G.1 B.1 k
  cases E with
  |int a =>
   cases f with
   |int b=>obtain⟨t,rfl⟩:=c;obtain⟨t',rfl⟩:=l;exact wA.ints A s a t b t'
   |_=>simp[dS]at m
  |str a =>
   cases f with
   |str b=>obtain⟨t,rfl⟩:=c;obtain⟨t',rfl⟩:=l;exact wA.texts A s a t b t'
   |_=>simp[dS]at m
  |tup h r =>
   cases f with
   |tup C r'=>cases c;cases l;obtain⟨its,Z,Y,_⟩:=I.tuple h;obtain⟨j,Q,N,_⟩:=I.tuple C;refine wA.tuples Y N (by lia) ?_;exact F _ _ _ _ _ _ r Z r' Q (by simpa [u5]using R) (by simpa [u5]using S) m
   |_=>simp[dS]at m
  |_=>simp[dS]at m
def zt(s:f7)(h:d7):Prop:=∀b o,s.heap.get? b=a7 o->h.get? b=a7 o
theorem GZ(N:A.handled=a8)(H:l≠I)(m:S≠I)(J:l≠S)(L:s.heap.get? I=a8)(G:s.heap.get? S=a8)(M:∀(h:d7) (tk:Nat) i j vi vj,items[i]?=a7 vi->items[j]?=a7 vj->zt s h->wA A.in1 { s with heap:=h,toks:=tk } vi vj (bt i j)):∀(k j:Nat) (h:d7) (tk:Nat) (vb:c6) (c:Nat),items.size-(j+1)=k->j+1<=items.size->h.IsListIter I l (j+1)->h.IsList l items->zt s h->items[argBest bt j]?=a7 vb ->h.get? S=a7 { cls:=.type "list",dict:=a8,data:=.seq #[vb,vb] c,slots:=#[] } ->(∀v h' tk',items[argBest bt<|items.size-1]?=a7 v->zt s h'->R (.ok<|.ret v) { s with heap:=h',toks:=tk' })->k5 (i3 prog w) A (.builtin "max.loop" ⟨[.ref I,.none,.ref S],[]⟩) R { s with heap:=h,toks:=tk }:=by
 have W:=Walks.list (prog:=prog) (w:=w) (A:=A.in1) N I l H items;have f:(toString "max" ++ toString ".loop":String) = "max.loop":=by decide
 have C:∀{h h':d7},zt s h->(∀b o,b∉[I]->h.get? b=a7 o->h'.get? b=a7 o)->zt s h':=λB E b o e=>E b o (λz=>by rw[J6.mp z,L]at e;cases e)<|B b o e;have g:∀{h:d7}{x:d6->d6},zt s h->zt s (h.update S x):=λB b o e=>(Nx _ _<|λz=>by rw[<-z,G]at e;cases e).trans<|B b o e;intro k;induction k with
 |zero =>
  intro j h tk vb c E O t F B D r Y;have y:j+1=items.size:=by lia
  refine Mp Rq ?_;rw[MW OE _];show ge _ A.in1 (seqItems? (.ref S) >>= _) _ _ _;refine p8<|Nd r rfl ?_;show ge _ A.in1 (tryCatch (j1<|.ref I) _ >>= _) _ _ _;refine p8<|OV<|W.done _ _ _ (y ▸ ⟨t,F⟩) λh' tk d=>?_;have a:=d S _ (by simpa using m) r;show ge _ A.in1 (updateSeq S (λ_=>#[]) >>= _) _ _ _;refine p8 ?_;refine PF a rfl<|p8<|wpAny_letGo<|t4 ?_;exact Y vb _ tk (by rw[<-y];exact D)<|g<|C B d
 |succ k K =>
  intro j h tk vb c E O t F B D r Y;have n:j+1<items.size:=by lia
  refine Mp Rq ?_;rw[MW OE _];show ge _ A.in1 (seqItems? (.ref S) >>= _) _ _ _;refine p8<|Nd r rfl ?_;show ge _ A.in1 (tryCatch (j1<|.ref I) _ >>= _) _ _ _;refine p8<|OV<|W.item (j+1) _ _ _ n ⟨t,F⟩ λv h' tk P p d=>?_;have a:=d S _ (by simpa using m) r;have q:=C B d;show ge _ A.in1 (tryCatch (i7 [v,v]<|richCompare .Gt v vb >>= _) _ >>= _) _ _ _;refine p8<|OV<|D7<|p8<|M h' tk (j+1) (argBest bt j) v vb P D q _ _ _ _ ?_;refine p8<|D7<|N4 ?_;refine p8<|wpAny_letGo<|t4 ?_;cases u:bt (j+1) (argBest bt j) with
  |true=>simp only[p5];refine p8 ?_;refine PF a rfl<|p8<|wpAny_letGo ?_;rw[f];refine t4 ⟨Mw OE _,K (j+1) _ _ v _ (by lia) n (p.1.at λo e=>(Nx _ _ m).trans e) (p.2.at λo e=>(Nx _ _<|B8 J).trans e) (g q) (by simp only[argBest,u,p5];exact P) (L1 _ a rfl) Y⟩
  |false=>simp only[B9,o8];refine p8<|wpAny_letGo ?_;rw[f];exact t4 ⟨Mw OE _,K (j+1) _ _ vb c (by lia) n p.1 p.2 q (by simp only[argBest,u,B9,o8];exact D) a Y⟩
theorem Ha(B:A.handled=a8)(u:s.heap.IsList l items)(q:0<items.size)(J:∀(h:d7) (tk:Nat) i j vi vj,items[i]?=a7 vi->items[j]?=a7 vj->zt s h->wA A.in1 { s with heap:=h,toks:=tk } vi vj (bt i j))(H:∀v h' tk,items[argBest bt<|items.size-1]?=a7 v->zt s h'->Q v { s with heap:=h',toks:=tk }):ge (i3 prog w) A (call (.builtin "max") [.ref l]) Q E s:=by
 have f:(toString "max" ++ toString ".loop":String) = "max.loop":=by decide
 have a:l<s.heap.objs.size:=by obtain⟨_,e,_⟩:=u;exact v9 e
 have t:∀{b:d5},s.heap.objs.size<=b->s.heap.get? b=a8:=λ{b} r=>by
  cases e:s.heap.get? b with
  |none=>rfl
  |some o=>exact o4 (v9 e)<|M9.mpr r
 refine call_function_tree PySem.F.kind_max PySem.F.plain_max PySem.F.entry_max (PySem.F.args_max1 _) ?_;show ge _ A.in1 (RV "max" ["key","default"] 0 ⟨[],[]⟩ >>= _) _ _ s;refine p8<|wpAny_of_eq (show RV "max" ["key","default"] 0 ⟨[],[]⟩=pure [a8,a8]from rfl) ?_;refine p8<|t4 ?_;refine p8<|Qy u ?_;generalize y:s.heap.objs.size=I at a t;generalize c:s.heap.push { cls:=.type "list_iterator",data:=.fields #[.ref l,.int 0 0] }=h1;have K:h1.IsListIter I l 0:=by rw[<-c,<-y];exact⟨_,A1 _ rfl,rfl,rfl⟩
 have M:h1.IsList l items:=by rw[<-c];exact u.push _
 have O:zt s h1:=λb o e=>by rw[<-c];exact v5 _ e
 have D:h1.objs.size=I+1:=by rw[<-c,<-y,Mx]
 refine p8<|J5 ?_;rw[f];refine t4 ⟨Mw OE _,?_⟩;generalize d:h1.push { cls:=.type "list",data:=.seq #[] }=h2;have L:h2.IsListIter I l 0:=by rw[<-d];exact K.at λo e=>v5 _ e
 have N:h2.IsList l items:=by rw[<-d];exact M.push _
 have R:zt s h2:=λb o e=>by rw[<-d];exact v5 _<|O b o e
 have C:h2.get? (I+1)=a7 { cls:=.type "list",dict:=a8,data:=.seq #[] 0,slots:=#[] }:=by rw[<-d,<-D];exact A1 _ rfl
 show k5 (i3 prog w) A (.builtin "max.loop" ⟨[.ref I,.none,.ref h1.objs.size],[]⟩) _ { s with heap:=h2,toks:=s.toks };rw[D];have W:=Walks.list (prog:=prog) (w:=w) (A:=A.in1) B I l (x6 a) items;have k:s.heap.get? I=a8:=t<|u7 _;have G:s.heap.get? (I+1)=a8:=t<|Of _;refine Mp Rq ?_;rw[MW OE _];show ge _ A.in1 (seqItems? (.ref<|I+1) >>= _) _ _ _;refine p8<|Nd C rfl ?_;show ge _ A.in1 (tryCatch (j1<|.ref I) _ >>= _) _ _ _;refine p8<|OV<|W.item 0 _ _ _ q ⟨L,N⟩ λv h' tk P p n=>?_;have m:=n (I+1) _ (by simp) C;show ge _ A.in1 (updateSeq (I+1) (λ_=>#[v,v]) >>= _) _ _ _;refine p8 ?_;refine PF m rfl ?_;rw[f];have g:∀{b:d5}{o:d6}{x:d6->d6},b≠I+1->h'.get? b=a7 o->(h'.update (I+1) x).get? b=a7 o:=λr e=>(Nx _ _<|B8 r).trans e;refine t4 ⟨Mw OE _,GZ (S:=I+1) B (x6 a) (Nat.succ_ne_self _) (x6<|Nq a) k G J _ 0 _ tk v _ rfl q (p.1.at λo e=>g (x6<|K0 _) e) (p.2.at λo e=>g (x6<|Nq a) e) (λb o e=>g (λz=>?_)<|n b o (λz=>?_)<|R b o e) P (L1 _ m rfl) H⟩;rw[z,G]at e;cases e;rw[J6.mp z,k]at e;cases e
def Az:D1:=λd M Q=>match d with
 | [.ref n]=>∃xs,aA M n xs/\xs≠[]/\(∀x∈xs,u5 M t5 x=a9)/\(∀x∈xs,∀y∈xs,dS M t5 x y=a9)/\∀m,xs[argBest (λi j=>NC M t5 (xs.getD i .non)<|xs.getD j .non)<|xs.length-1]?=a7 m->Q m M
 |_=>False
theorem IL(Y:Room k X.A)(U:X.calm=a9):lq X (.builtin "max") Az:=by
 rintro p s σ H vs us R I rv ⟨ds,M,ρ,Q,y,l,q,Z⟩;unfold Az at q;split at q;obtain⟨xs,T,f,g,P,q⟩:=q
 first|have z:=Reps.inv_cons l|have z:=aB.inv_cons l
 clear l;obtain⟨_,_,rfl,r1,l⟩:=z;obtain rfl:=Reps.inv_nil l;obtain⟨u,rfl,S⟩:=aB.one rv;obtain⟨a,rfl,e⟩:=t9.inv_ref r1;cases S;obtain⟨ws,W,r⟩:=aA.seq y T e;obtain⟨its,n,pl,hz⟩:=I.list W;obtain⟨m,L,hm⟩:=I.loc;have lw:=r.length;have li:=n.length;have n0:0<xs.length:=List.length_pos_iff.mpr f;have O:∀{h':d7}{C:Nat},zt s h'->r9 X p σ H { s with heap:=h',toks:=C }:=λB=>I.keptF (λb u _ e=>B b u e) L<|Heap.Ns.at' L λo e=>B _ o e;have K:∀{i:Nat}{d:D},xs[i]?=a7 d->xs.getD i .non=d:=λe=>by rw[G6,e];rfl
 refine Ha (bt:=λi j=>NC M t5 (xs.getD i .non)<|xs.getD j .non) (I.ok.hd U) pl.isList (by simp;lia) (λh C i j vi vj hi V B=>?_) λv h' C N B=>?_;obtain⟨d,x,G,t,E⟩:=gD r n (by simpa using hi);obtain⟨J,x',c,w,F⟩:=gD r n (by simpa using V);rw[K G,K c];exact Lq (O B) y t5 X.A.in1 _ _ x x' _ _ (by have:=Y.un;show X.A.units+1+t5<j9;unfold t5;lia) t E w F (g d<|D2 G) (g J<|D2 c)<|P d (D2 G) J<|D2 c;rw[show its.toArray.size=xs.length by simp;lia]at N;obtain⟨d,x,G,t,E⟩:=gD r n (by simpa using N);exact⟨x,H,O B,E,Z _ _ ⟨d,M,ρ,y,.refl,t,q d G⟩⟩;exact q.elim
theorem Ig(i:Room k X.A)(f:X.calm=a9:=by kernel_rfl):HC X (.builtin "max") Az:=⟨IL i f⟩
noncomputable def pM(e:Array m6)(h:Int)(i:Nat):Bool:=(e[i]?.map (·.hash))==a7 h
section
open PySem.W
structure ExcK(K:Frag)(D:d5):Prop where
 ga:findIn K (.ref D) "__getattribute__" = a7 (a7<|.builtin "BaseException.__getattribute__")
 gt:findIn K (.ref D) "__getattr__" = a7 a8
 mb:mroIn K D (.type "BaseException")=a7 a9
 mo:mroIn K D (.type "object")=a7 a9
 cl:findIn K (.ref D) "__class__" = a7 (a7<|.builtin "object.__class__")
end
inductive Fly(P:c9)(w:c8)(stk:List Env)(H:Hp)(h0:d7)(a:d5)(C:c6)(H1:Hp)(h:d7):Prop
 |mk (B:d7) (a0:c6) (fly:Heap.FlyingW B stk a C a0 h) (un:Un (J1 stk) [] H H1 h0 h) (hok:D0 P w H1 h)
  (old:∀b o,h0.get? b=a7 o->b∉J1 stk->∃o',B.get? b=a7 o'/\(H b=a8->o'=o)) (trk:∀b u,H1 b=a7 u->∃o,B.get? b=a7 o)
structure DefX(X:Cx):Prop where
 stk:X.stack=X.env::X.outer
 fr:X.env.frame=a7 X.env.locals
 ex:X.ex=[]
def CXe(P:c9)(w:c8):NS:=λk H s E e s'=>∃a C b,e=.ref a/\s'.os=s.os/\f9 s'.gens/\Fly P w k H s.heap a C b s'.heap/\E C a8 b
noncomputable abbrev vE:List c6:=[.type "ValueError",.type "Exception",.type "BaseException",.type "object"]
abbrev DX:=c7->t8->Prop
abbrev Rh:=DX->s9
abbrev DTEX:=DX->v8
abbrev DSpX:=List D->t8->DK->DX->Prop
inductive XQ(K:u4)(ρ:List d5)(H:Hp)(R:DX)(C:c6)(dx:Option d5)(H':Hp):Prop
 |mk (x:c7) (c:d5) (M':t8) (ρ':List d5) (e:C=.ref c) (hx:PySem.W.nsIn K e8 x=a7 (a7 (.ref c))) (s:u9 K ρ' M' H') (g:Grow K ρ H ρ' H') (q:R x M')
inductive lowX(K:u4)(E:XK)(t:Rh)(D:Ends)(σ:St)(H:Hp):Prop
 |mk (S:SD) (M:t8) (ρ:List d5) (F:DEnds) (R:DX) (s:u9 K ρ M H) (sr:SRep K ρ H S σ) (q:t R F S M) (k:Pf K ρ H F D) (x:∀C dx H',XQ K ρ H R C dx H'->E C dx H')
inductive lowXE(K:u4)(E:XK)(t:DTEX)(σ:St)(H:Hp)(Q:VK):Prop
 |mk (S:SD) (M:t8) (ρ:List d5) (F:DK) (R:DX) (s:u9 K ρ M H) (sr:SRep K ρ H S σ) (q:t R S M F) (k:∀v H',VQ K ρ H F v H'->Q v H') (x:∀C dx H',XQ K ρ H R C dx H'->E C dx H')
structure XA(b:Bool)(X:Cx)(pins:List (d5×d6))(E:XK)(P:St->Prop)(Ex:c6->f7->Prop):Prop where
 on:∀σ H1 s1 e s',P σ->r9 X pins σ H1 s1->CXe X.prog X.w X.stack H1 s1 E e s'->Ex e s'
 all:b=a9->∀σ,P σ
 made:b=a9->∀σ H1 s1 h' e C vs,r9 X pins σ H1 s1->Heap.MadeExcOf s1.heap h' e C vs->E C a8 H1->Ex (.ref e) { s1 with heap:=h' }
structure HX(b:Bool)(X:Cx)(st:i6)(t:Rh):Prop where
 ok:∀(pins:List (d5×d6)) (s:f7) (σ:St) (H:Hp) (D:Ends) (E:XK) (P:St->Prop) (Ex:c6->f7->Prop),XA b X pins E P Ex->P σ->r9 X pins σ H s->lowX X.K E t D σ H->ge (i3 X.prog X.w) X.A (exec st X.env) (SP X pins D) Ex s
structure HXs(b:Bool)(X:Cx)(st:List i6)(t:Rh):Prop where
 ok:∀(pins:List (d5×d6)) (s:f7) (σ:St) (H:Hp) (D:Ends) (E:XK) (P:St->Prop) (Ex:c6->f7->Prop),XA b X pins E P Ex->P σ->r9 X pins σ H s->lowX X.K E t D σ H->ge (i3 X.prog X.w) X.A (execs st X.env) (SP X pins D) Ex s
structure HXE(b:Bool)(X:Cx)(e:h8)(t:DTEX):Prop where
 ok:∀(pins:List (d5×d6)) (s:f7) (σ:St) (H:Hp) (Q:VK) (E:XK) (P:St->Prop) (Ex:c6->f7->Prop),XA b X pins E P Ex->P σ->r9 X pins σ H s->lowXE X.K E t σ H Q->ge (i3 X.prog X.w) X.A (eval e X.env) (EP X pins σ Q) Ex s
structure ClsX(K:u4)(x:c7)(C:d5):Prop where
 at_:PySem.W.nsIn K e8 x=a7 (a7<|.ref C)
 exc:PySem.W.excIn K C vE "ValueError.__new__" = a9
 own:ExcK K C
 val:PySem.W.kitOne K (.ref C) (.type "ValueError")=a7 a9
structure RoomH(k:Nat)(A:f6):Prop where
 dp:A.depth+3*k+5<recursionLimit
 un:A.units+16*k+200<j9
structure FnH(P:c9)(w:c8)(K:u4)(mg:c7->Option c6)(base:d7)(k:Nat)(f:d5)(fd:k4)(ps:List c7)(sp:Sp):Prop where
 len:∀vs H Q E,sp vs H Q E->vs.length=ps.length
 run:∀(A:f6) (outer:List Env) (s:f7) (H:Hp) (args:Args) (us:List c6) (vs:List V) (Q:VK) (E:XK),RoomH k A->Env0 P w K mg base A outer s H->BindsTo s fd args (ps.zip us)->aB vs us->sp vs H Q E ->k5 (i3 P w) A (.call (.ref f) args) (CR E8 outer P w H s Q E) s
end L2
namespace L2
open PySem PySem.Spec PyProof.Rows DL PySem.W
end L2
namespace L2
open PySem PySem.Spec PyProof.Rows DL
abbrev DTAX:=DX->H9
inductive lowXA(K:u4)(E:XK)(t:DTAX)(σ:St)(H:Hp)(Q:List V->Hp->Prop):Prop
 |mk (S:SD) (M:t8) (ρ:List d5) (F:List D->t8->Prop) (R:DX) (s:u9 K ρ M H) (sr:SRep K ρ H S σ) (q:t R S M F) (k:∀v H',AQ K ρ H F v H'->Q v H') (x:∀C dx H',XQ K ρ H R C dx H'->E C dx H')
structure HXA(b:Bool)(X:Cx)(es:List h8)(t:DTAX):Prop where
 ok:∀(pos:Pos) (pins:List (d5×d6)) (s:f7) (σ:St) (H:Hp) (Q:List V->Hp->Prop) (E:XK) (P:St->Prop) (Ex:c6->f7->Prop),XA b X pins E P Ex->P σ->r9 X pins σ H s->lowXA X.K E t σ H Q->ge (i3 X.prog X.w) X.A (spliced<|i4 pos<|i5 es X.env) (AP X pins σ Q) Ex s
end L2
namespace LW
open PySem L2
local macro_rules | `(tactic| walk_at"sc")=>`(tactic| exact⟨rfl,rfl,rfl,by decide +kernel,rfl,by decide +kernel,by decide +kernel⟩)
local macro_rules | `(tactic| walk_at"dl")=>`(tactic| simp only[EE,ay,z6,EV,rj,ML,ap,t7,aa,af,aY,uy,Jc,EU,dIfE,E6,xT,bE,ag,bp,ba,gj,kt,p9,OK,ux,dC,ab,dL,iP,Ml,fP,dF,Pb,K3,eK,qZ,Fy,qAdd,br,JG,qj,vB,Ax,Gu,Nj,JH,OI,NA,O7,iJ,z8,Nz,nj,IZ,u3,P8,bF,II,ES,jr,aO,jt,np,iH,EW,Cn,ko,re,gZ,qY,ND,iI,lV,xU,kr,IY,qi,jZ,xV,Ay,Az,IX,kI,mz,uv,IC,iV,sZ,SqAt,Gs,lU,Pd,MC,NQ,nh,sY,tyD,RP,cK,LP,C4,Ps,Qq,F4,List.getElem?_cons_zero,Rw,C3,C2,List.replicate_zero,List.replicate_succ,List.set_cons_zero,List.set_cons_succ,NU,Nat.reduceAdd,Nat.reduceSub,Option.join_some,p5,o8,B9])
noncomputable def top(i:Nat):i6:=PySem.Challenge.pw_talkmarks_k54_whole_bells.main.body.getD i<|.Pass ⟨0,0,0,0⟩
noncomputable abbrev B_:List c7:=["len","any","dict","sorted","set","range","tuple","list","max"]
noncomputable abbrev C_:List (c7×Int):=[]
noncomputable abbrev ja:List c7:=["sign"]
noncomputable abbrev cg:List c7:=["text","name"]
noncomputable abbrev kO:List c7:=["saying","name"]
noncomputable abbrev kL:List c7:=["house","name"]
noncomputable abbrev gR:List c7:=["house","room"]
noncomputable abbrev kK:List c7:=["deed"]
noncomputable abbrev iY:List c7:=["deed"]
noncomputable abbrev iZ:List c7:=["deed","vector"]
noncomputable abbrev dB:List c7:=["log","kind"]
noncomputable abbrev kP:List c7:=["log","kind","name"]
noncomputable abbrev fG:List c7:=["log","kind","name"]
noncomputable abbrev jb:List c7:=["log","name"]
noncomputable abbrev nA:List c7:=["say"]
noncomputable abbrev kJ:List c7:=["say"]
noncomputable abbrev jd:List c7:=["house","say","elders"]
noncomputable abbrev cy:List c7:=["house","log"]
noncomputable abbrev eJ:List c7:=["deed","says"]
noncomputable abbrev fF:List c7:=["log","kind","says"]
noncomputable abbrev eI:List c7:=["log","says"]
noncomputable abbrev bT:List c7:=["log","says"]
noncomputable abbrev gQ:List c7:=["say","changes"]
noncomputable abbrev gP:List c7:=["house","log"]
noncomputable abbrev cw:List c7:=["log","name"]
noncomputable abbrev nC:List c7:=["say","name","vectors","seen"]
noncomputable abbrev cx:List c7:=["house","log","name"]
noncomputable abbrev dA:List c7:=["says","hushes"]
noncomputable abbrev iX:List c7:=["says","name"]
noncomputable abbrev kQ:List c7:=["message","rooms","rung","hushes"]
noncomputable abbrev qr:List c7:=["message","name","own","quiet"]
noncomputable abbrev je:List c7:=["house","log","name"]
noncomputable abbrev nD:List c7:=["_law_script","_law_k"]
noncomputable abbrev qx:List c7:=["_law_cell"]
noncomputable abbrev AI:List c7:=["_law_held","_law_many"]
noncomputable abbrev AM:List c7:=["_law_held"]
noncomputable abbrev vF:List c7:=["_law_held","_law_many"]
noncomputable abbrev vG:List c7:=["_law_cell"]
noncomputable abbrev qw:List c7:=["_law_held","_law_names_here"]
noncomputable abbrev AL:List c7:=["_law_held","_law_hands_here","_law_says"]
noncomputable abbrev qt:List c7:=["_law_held","_law_hands_here","_law_done"]
noncomputable abbrev AH:List c7:=["_law_held","_law_house_here","_law_hands_here","_law_says"]
noncomputable abbrev GN:List c7:=["_law_held","_law_house_here","_law_hands_here","_law_says","_law_done"]
noncomputable abbrev vH:List c7:=["_law_house_here"]
noncomputable abbrev GL:List c7:=["_law_cells","_law_house_here"]
noncomputable abbrev AJ:List c7:=["_law_log_here"]
noncomputable abbrev qu:List c7:=["_law_house_here","_law_said_here","_law_stamp"]
noncomputable abbrev AN:List c7:=["_law_log_here","_law_stamp"]
noncomputable abbrev kN:List c7:=["_law_house_here","_law_log_here"]
noncomputable abbrev vD:List c7:=["_law_log_here","_law_name_here"]
noncomputable abbrev AK:List c7:=["_law_log_here","_law_name_here","_law_message","_law_vectors","_law_seen"]
noncomputable abbrev kM:List c7:=["_law_saying_here","_law_name_here"]
noncomputable abbrev GK:List c7:=["_law_said_here","_law_message","_law_name_here","_law_hushed"]
noncomputable abbrev jc:List c7:=["_law_house_here","_law_log_here","_law_name_here","_law_messages_here"]
noncomputable abbrev vC:List c7:=["_law_house_here","_law_log_here"]
noncomputable abbrev GM:List c7:=["_law_script"]
structure Tops(P:c9)(w:c8)(K:u4)(mg:c7->Option c6)(base:d7):Prop where
 f_is_letter:ca K mg "is_letter" (top 4) ja
 f_begins_with_name:ca K mg "begins_with_name" (top 5) cg
 f_is_named:ca K mg "is_named" (top 6) kO
 f_rooms_of:ca K mg "rooms_of" (top 8) kL
 f_members_of:ca K mg "members_of" (top 9) gR
 f_stamp_of:ca K mg "stamp_of" (top 11) kK
 f_person_of:ca K mg "person_of" (top 12) iY
 f_is_within:ca K mg "is_within" (top 13) iZ
 f_deeds_of_kind:ca K mg "deeds_of_kind" (top 15) dB
 f_deeds_by:ca K mg "deeds_by" (top 16) kP
 f_stamps_told:ca K mg "stamps_told" (top 17) fG
 f_hushes_of:ca K mg "hushes_of" (top 19) jb
 f_room_of:ca K mg "room_of" (top 21) nA
 f_under_of:ca K mg "under_of" (top 22) kJ
 f_can_stand:ca K mg "can_stand" (top 23) jd
 f_says_that_count:ca K mg "says_that_count" (top 24) cy
 f_is_by_writer:ca K mg "is_by_writer" (top 25) eJ
 f_writers_own:ca K mg "writers_own" (top 26) fF
 f_last_changes:ca K mg "last_changes" (top 27) eI
 f_stamps_taken_back:ca K mg "stamps_taken_back" (top 28) bT
 f_message_of:ca K mg "message_of" (top 29) gQ
 f_says_shown:ca K mg "says_shown" (top 30) gP
 f_vectors_by_room:ca K mg "vectors_by_room" (top 32) cw
 f_is_read:ca K mg "is_read" (top 33) nC
 f_unread_messages:ca K mg "unread_messages" (top 34) cx
 f_stamps_hushed:ca K mg "stamps_hushed" (top 36) dA
 f_stamps_by:ca K mg "stamps_by" (top 37) iX
 f_can_ring:ca K mg "can_ring" (top 38) kQ
 f_why_of:ca K mg "why_of" (top 39) qr
 f_bells_for:ca K mg "bells_for" (top 40) je
 f_cell_at:ca K mg "_law_cell_at" (top 42) nD
 f_digits:ca K mg "_law_digits" (top 43) qx
 f_take:ca K mg "_law_take" (top 44) AI
 f_name:ca K mg "_law_name" (top 45) AM
 f_names:ca K mg "_law_names" (top 46) vF
 f_house:ca K mg "_law_house" (top 47) vG
 f_saying:ca K mg "_law_saying" (top 48) qw
 f_pick:ca K mg "_law_pick" (top 49) AL
 f_vector:ca K mg "_law_vector" (top 50) qt
 f_what:ca K mg "_law_what" (top 51) AH
 f_act:ca K mg "_law_act" (top 52) GN
 f_hands:ca K mg "_law_hands" (top 53) vH
 f_log:ca K mg "_law_log" (top 54) GL
 f_said:ca K mg "_law_said" (top 55) AJ
 f_stands:ca K mg "_law_stands" (top 56) qu
 f_gone:ca K mg "_law_gone" (top 57) AN
 f_messages:ca K mg "_law_messages" (top 58) kN
 f_reads:ca K mg "_law_reads" (top 59) vD
 f_read:ca K mg "_law_read" (top 60) AK
 f_names_in:ca K mg "_law_names_in" (top 61) kM
 f_why:ca K mg "_law_why" (top 62) GK
 f_due_bells:ca K mg "_law_due_bells" (top 63) jc
 f_right:ca K mg "_law_right" (top 64) vC
 f_law:ca K mg "law" (top 65) GM
 b:TopB mg B_ C_
 bm:BMain mg base
local macro_rules | `(tactic| walk_at"bb")=>`(tactic| first|exact Md|exact IS|exact Mc|exact Mb|exact uL|exact Ff)
local macro_rules | `(tactic| walk_at"tb")=>`(tactic| exact TopB.no (by k_dflt assumption) (by kernel_rfl))
local macro_rules | `(tactic| walk_at"dvr")=>`(tactic| (repeat' (first|(with_reducible first|(refine gA ?_;first|exact KP|refine HF ?_ ?_)|exact k_var|(refine Lu ?_;first|exact k_int|exact k_bl|exact k_non|exact k_str)|(refine gCall ?_;first|refine HM ?_ ?_|refine HL ?_ ?_|refine yT (by k_dflt assumption) ?_ (by walk_at"tb") (by walk_at"tb")|refine yU ?_ (by walk_at"tb")|refine BI (by k_dflt assumption) (by k_dflt assumption) (by k_dflt assumption) ?_ (by walk_at"tb") (λ_ _ _ _ _ _ _ _=>?_) (by k_dflt (exact By (by kernel_rfl))) (by k_dflt kernel_rfl) (by k_dflt kernel_rfl) (by k_dflt (intro _ _ _ _;kernel_rfl))|refine HP ?_ (by walk_at"tb") (by walk_at"bb") ?_|refine Es ?_ (by walk_at"tb") (by walk_at"bb") ?_|refine k_cal (by k_dflt assumption) (by k_dflt assumption) ?_|refine HH (by k_dflt assumption) ?_ ?_|refine k_ms ?_ ?_ ?_|refine k_ml ?_ ?_ ?_)|(refine gIx ?_;first|refine HJ ?_ ?_ ?_|refine KR (by k_dflt assumption) ?_ ?_ (hs:=by k_dflt (intro _ _;kernel_rfl))|refine KW (by k_dflt assumption) ?_ ?_ (hs:=by k_dflt (intro _ _;kernel_rfl))|refine k_ix ?_ ?_ (hs:=by k_dflt (intro _ _;kernel_rfl)))|(refine gT ?_;first|refine KD ?_ ?_ ?_|refine KC ?_|refine kw_t (FD ?_ ?_)|refine kw_t (KA ?_ ?_)|refine KB ?_)|(refine gE ?_;first|exact KU|exact KQ|refine k_op ?_ ?_ ?_|refine k_un Lc ?_|refine k_not ?_|refine k_cmp ?_ ?_ ?_|refine HN ?_ ?_ ?_ ?_ ?_|refine k_one ?_|refine k_and ?_ ?_|refine k_or ?_ ?_|refine HK ?_ ?_ ?_|refine k_tup ?_|refine k_lst ?_|refine k_lcN ?_ (λ_ _ _ _=>?_) (λ_ _ _ _=>?_) (λ_ _ _ _=>?_))|(refine gS ?_;first|exact xG|refine BC ?_|refine FH ?_|refine KH ?_ ?_ ?_|refine tZ (by k_dflt assumption) ?_ (λ_ _ _ _=>?_) (λ_ _ _ _=>?_) (λ_ _ _ _=>?_)|refine FG (by k_dflt assumption) ?_|refine FJ ?_ ?_|refine BB (by k_dflt assumption) ?_ ?_ ?_|refine FI ?_ ?_ ?_|refine xF ?_ ?_)|(refine gOp ?_;first|exact Ib|exact ho_eq (by k_dflt assumption)|exact Ia|exact ho_gt|exact ho_in (by k_dflt assumption)|exact Lj (by k_dflt assumption)|exact ho_is|exact Ew|exact ho_le|exact ho_lt|exact Li (by k_dflt assumption)|exact Lh|exact Lg|exact ho_ne (by k_dflt assumption)|exact BS (by k_dflt assumption)|exact Ev (by k_dflt assumption)|exact Lf|exact Le|exact Ld)|(refine gC ?_;first|exact Lo|exact BX (by k_dflt assumption)|exact ED (by k_dflt assumption)|exact EC (by k_dflt assumption)|exact Ln|exact Ig (by k_dflt assumption)|exact Ie|exact yX (by k_dflt assumption)|exact yW (by k_dflt assumption)|exact EB)|exact KG|exact Hs|exact Hy|exact Hz|refine KF ?_|refine FD ?_ ?_|refine KA ?_ ?_|refine Hn ?_|refine Kz ?_|refine Hr ?_|refine Hw ?_|refine BE (by walk_at"tb") ?_|refine BD (by walk_at"tb") ?_|refine El ?_|refine Em ?_|refine KI ?_|exact HD (by k_dflt assumption)|exact KL (Kw (by kernel_rfl))|refine En ?_ ?_|refine KJ ?_|refine KK ?_ ?_|exact BV|exact BU|exact Ey|exact BT)|refine Hv ?_ ?_|refine BC ?_|refine FH ?_|refine KH ?_ ?_ ?_|refine tZ (by k_dflt assumption) ?_ (λ_ _ _ _=>?_) (λ_ _ _ _=>?_) (λ_ _ _ _=>?_)|refine FG (by k_dflt assumption) ?_|refine FJ ?_ ?_|refine BB (by k_dflt assumption) ?_ ?_ ?_|refine FI ?_ ?_ ?_|refine xF ?_ ?_|exact xG)))
local macro_rules | `(tactic| walk_at"dv")=>`(tactic| (intro _ _ _ _ _ _ _ _ _ _;refine BY rfl ?_;walk_at"dvr"))
local macro_rules | `(tactic| walk_at"dvl")=>`(tactic| (intro _ _ _ _ _ _ _ _ _ _ _;refine BY rfl ?_;walk_at"dvr"))
section
variable{P:c9}{w:c8}{K:u4}{mg:c7->Option c6}{base:d7}
noncomputable def iW(p:c7×Int):D:=.tup [.str p.1,.int p.2]
def Hd(d:D):Prop:=∃(x:c7) (k:Int),d=.tup [.str x,.int k]
theorem Ll(f:Hd a)(d:Hd b):t6 M (n+1) a b=a9↔a=b:=by obtain⟨x,k,rfl⟩:=f;obtain⟨y,l,rfl⟩:=d;show (t6 M n (.str x) (.str y)&&(t6 M n (.int k) (.int l)&&a9))=a9↔_;rw[ax,dE];simp
theorem Lk(f:Hd a):u5 M t5 a=a9:=by obtain⟨x,k,rfl⟩:=f;rfl
noncomputable def kC(h:List (D×Int)):List D:=h.map λp=>.tup [p.1,.int p.2]
noncomputable def cu(h:List (D×Int))(d:D)(m:Int):Bool:=match h.find? λp=>decide (p.1=d) with
 |some p=>decide<|m<p.2
 |none=>c5
noncomputable def Q7:Nat->D->Bool
 |n+1,.tup x=>x.all<|Q7 n
 | 0,.tup _=>c5
 |_,.ref _=>c5
 |_,.ty _=>c5
 |_,_=>a9
def G0(n:Nat)(d:D):Prop:=Q7 n d=a9
def nY(n:Nat)(d:List D):Prop:=d.all (Q7 n)=a9
theorem G0.non:G0 n .non:=by cases n<;>rfl
theorem G0.bl(b:Bool):G0 n (.bl b):=by cases n<;>rfl
theorem G0.int(i:Int):G0 n (.int i):=by cases n<;>rfl
theorem G0.str(x:c7):G0 n (.str x):=by cases n<;>rfl
theorem nY.nil:nY n []:=rfl
theorem nY.cons(h:G0 n d)(t:nY n s):nY n (d::s):=by unfold nY G0 at *;rw[Me,h,t];rfl
theorem G0.tup(h:nY n d):G0 (n+1) (.tup d):=h
theorem nY.of(h:∀d∈s,G0 n d):nY n s:=E5.mpr h
theorem cO:∀(n:Nat) (d:D),G0 n d->C1 k d:=by
 intro n;induction n with
 |zero =>
  intro d h;cases d with
  |tup s=>cases h
  |ref i=>cases h
  |ty t=>cases h
  |non=>exact .non
  |bl b=>exact .bl b
  |int i=>exact .int i
  |str x=>exact .str x
 |succ n c =>
  intro d h;cases d with
  |tup s=>exact .tup<|Bels.of λx a=>c x<|E5.mp h x a
  |ref i=>cases h
  |ty t=>cases h
  |non=>exact .non
  |bl b=>exact .bl b
  |int i=>exact .int i
  |str x=>exact .str x
theorem qV:∀{s:List D},(∀x∈s,f x x=a9)->C6 f s s=a9
 | [],_=>rfl
 |x::s,h=>by show (f x x&&C6 f s s)=a9;rw[h x (by simp),qV λy hy=>h y<|A5 _ hy];rfl
theorem dP:∀(n m:Nat) (d:D),n<=m->G0 n d->u5 M m d=a9/\t6 M m d d=a9:=by
 intro n;induction n with
 |zero =>
  intro m d _ h;cases d with
  |tup s=>cases h
  |ref i=>cases h
  |ty t=>cases h
  |non=>exact⟨AZ,by cases m<;>rfl⟩
  |bl b=>exact⟨Fz,by cases m<;>cases b<;>rfl⟩
  |int i=>exact⟨qD,by rw[dE];exact p7 i⟩
  |str x=>exact⟨ah,by rw[ax];exact p7 x⟩
 |succ n c =>
  intro m d e h;cases m with
  |zero=>lia
  |succ m =>
   cases d with
   |tup s=>exact⟨GT λx a=>(c m x (by lia)<|E5.mp h x a).1,qV λx a=>(c m x (by lia)<|E5.mp h x a).2⟩
   |ref i=>cases h
   |ty t=>cases h
   |non=>exact⟨AZ,rfl⟩
   |bl b=>exact⟨Fz,by cases b<;>rfl⟩
   |int i=>exact⟨qD,by rw[dE];exact p7 i⟩
   |str x=>exact⟨ah,by rw[ax];exact p7 x⟩
theorem Ic(h:Hd d):G0 (n+1) d:=by obtain⟨x,i,rfl⟩:=h;exact .tup<|.cons (.str _)<|.cons (.int _) .nil
theorem Lm(h:Hd d):C1 k d:=cO 1 d<|Ic h
noncomputable def yZ:D->D
 |.tup (_::h::_)=>h
 |_=>.non
noncomputable def FB:D->Int
 |.tup (_::_::.int n::_)=>n
 |_=>0
noncomputable def many(l:List D)(h:D):Nat:=(l.filter λd=>decide<|yZ d=h).length
theorem fM:aV (iK b k d) k=a7 d:=by
 unfold iK;split;rename_i s;unfold aV at s ⊢;rw[Option.isSome_map]at s;obtain⟨q,h⟩:=RF.mp s;rw[Qf];have e:((λp:D×D=>decide<|p.1=k) ∘ λp:D×D=>if p.1=k then(p.1,d)else p)=λp=>decide (p.1=k):=by funext p;show decide ((if p.1=k then(p.1,d)else p).1=k)=decide (p.1=k);split<;>rfl
 rw[e,h];have a:q.1=k:=by have:=Os h;exact oT_ this
 show a7 (if q.1=k then(q.1,d)else q).2=_;rw[n9 a];rename_i s;unfold aV at s ⊢;rw[Option.isSome_map,Option.not_isSome_iff_eq_none]at s;rw[Qs,s];simp
theorem gW(h:j≠k):aV (iK s k d) j=aV s j:=by
 unfold iK;split;unfold aV;rw[Qf];have e:((λp:D×D=>decide<|p.1=j) ∘ λp:D×D=>if p.1=k then(p.1,d)else p)=λp=>decide (p.1=j):=by funext p;show decide ((if p.1=k then(p.1,d)else p).1=j)=decide (p.1=j);split<;>rfl
 rw[e];cases f:s.find? λp=>decide (p.1=j) with
 |none=>rfl
 |some q =>
  have a:q.1=j:=by have:=Os f;exact oT_ this
  show a7 (if q.1=k then(q.1,d)else q).2=a7 q.2;rw[o0<|by rw[a];exact h]
 unfold aV;rw[Qs];cases f:s.find? λp=>decide (p.1=j) with
 |none=>simp[B8 h]
 |some q=>rfl
theorem cR:∀{k:List (D×D)}{p:D×D},(k.map (·.1)).Nodup->p∈k->aV k p.1=a7 p.2
 |q::k,p,nd,h=>by rw[C4,MU]at nd;unfold aV;rw[Mq];rcases A0.mp h with rfl|h;rw[dT_ rfl];rfl;have:q.1≠p.1:=λz=>nd.1 (by rw[z];exact L0 h);rw[dF_ this];exact cR nd.2 h
theorem bC(h:aV s k=a7 d):(k,d)∈s:=by
 unfold aV at h;obtain⟨q,a,rfl⟩:=Mz.mp h;have e:q.1=k:=by have:=Os a;exact oT_ this
 rw[<-e];exact RG a
theorem bu{α:Type}{P:List α->Prop}(a:P [])(h1:∀l x,P l->P (l++[x]))(l:List α):P l:=by
 rw[<-List.reverse_reverse l];induction l.reverse with
 |nil=>exact a
 |cons x s i=>rw[List.reverse_cons];exact h1 _ _ i
theorem ii(h:aA M n s)(ok:∀x∈s,u5 (M++[MO.lst []]) 29 x=a9):(u5 (M++[MO.lst []]) t5 (.ref n)=a9/\u5 (M++[MO.lst []]) t5 (.ref M.length)=a9)/\t6 (M++[MO.lst []]) t5 (.ref n) (.ref M.length)=s.isEmpty:=by have h1:aA (M++[MO.lst []]) n s:=h.more _;have h2:aA (M++[MO.lst []]) M.length []:=aw;refine⟨⟨qC (n:=29) h1 ok,qC (n:=29) h2 λ_ z=>nomatch z⟩,?_⟩;exact(xO (n:=29) h1 h2).trans Ik
theorem ar{M:t8}{m n:Nat}{x y:MO}(h:m≠n)(l:M[m]?=a7 y):(M.set n x)[m]?=a7 y:=by rw[MX<|B8 h];exact l
theorem aX{M:t8}{m:Nat}{y:MO}(l:M[m]?=a7 y):m<M.length:=(x9.mp l).1
theorem ac{B:t8}{q:Nat}{x a:MO}(h:B[q]?=a7 x):(B++[a])[q]?=a7 x:=by rw[J0 (x9.mp h).1];exact h
theorem bK{B:t8}{q:Nat}{x a:MO}(h:B[q]?=a7 x):(B.set q a)[q]?=a7 a:=MA (x9.mp h).1
theorem vS(p:M <+: B)(l:aA M q x):aA B q x:=by obtain⟨L,rfl⟩:=p;exact l.more L
theorem aI{M B:t8}{q:Nat}{x:MO}(p:M <+: B)(l:M[q]?=a7 x):B[q]?=a7 x:=by obtain⟨L,rfl⟩:=p;rw[J0<|aX l];exact l
theorem xq(s:List c7):Bels k (s.map D.str):=Bels.of λd h=>by obtain⟨x,_,rfl⟩:=v6.mp h;exact .str x
theorem Bi{a b:Int}(h:0<b):0<=a % b:=Int.emod_nonneg _<|by lia
theorem Bj{a b:Int}(h:0<b):a % b<b:=Int.emod_lt_of_pos _ h
theorem bJ(p:M <+: B)(h:M.length<=q):M <+: B.set q x:=by obtain⟨L,rfl⟩:=p;rw[Rp _ _ h];exact G3 _ _
noncomputable def dD(p:c7×Int):List D:=(sW 0 p.2.toNat).map λk=>.tup [.str p.1,k]
noncomputable def aW(p:List (c7×Int)):List D:=p.flatMap dD
def Rf(s:List (c7×Int)):Prop:=s.length<=4/\∀p∈s,0<=p.2/\p.2<=3
theorem jp:(dD p).length=p.2.toNat:=by simp[dD,sW]
theorem pQ(h:∀p∈ps,0<=p.2/\p.2<=3):(aW ps).length<=3*ps.length:=by
 induction ps with
 |nil=>simp[aW]
 |cons p ps i =>
  have:=i λq a=>h q<|A5 _ a;have h1:=h p C5;have e:(aW<|p::ps).length=p.2.toNat+(aW ps).length:=by rw[aW,List.flatMap_cons,A3,jp];rfl
  rw[e,C3];lia
theorem xK:∀d∈aW s,Hd d:=λd a=>by unfold aW at a;obtain⟨p,_,h⟩:=List.mem_flatMap.mp a;unfold dD sW at h;simp only[Fn,v6]at h;obtain⟨i,_,rfl⟩:=h;exact⟨_,_,rfl⟩
theorem yY:Bels k (aW p):=Bels.of λd h=>Lm<|xK d h
noncomputable def gL(p:c7×List c7):D:=.tup [.str p.1,.tup<|p.2.map .str]
noncomputable def az(ps:List (c7×Int))(rs:List (c7×List c7)):D:=.tup [.tup<|ps.map iW,.tup<|rs.map gL]
def eM(x:c7):Prop:=∀c∈x.cps.toList,97<=c/\c<=122
theorem eM.app(h1:eM a)(h2:eM b):eM (a++b):=λx h=>by
 have e:(a++b).cps.toList=a.cps.toList++b.cps.toList:=by show (a.cps++b.cps).toList=_;simp
 rw[e]at h;exact(D6.mp h).elim (h1 x)<|h2 x
structure HouseF(ps:List (c7×Int))(rs:List (c7×List c7)):Prop where
 len:1<=ps.length/\ps.length<=4
 many:∀p∈ps,1<=p.2/\p.2<=3
 nm:∀p∈ps,p.1.length<=8
 rl:1<=rs.length/\rs.length<=4
 pnd:(ps.map (·.1)).Nodup
 rnd:(rs.map (·.1)).Nodup
 rm:∀r∈rs,r.2.length<=4
 sm:∀p∈ps,eM p.1
def St(d:D):Prop:=∃(t:Int) (z:c7) (k:Int),d=.tup [.int t,.tup [.str z,.int k]]
theorem St.key(h:St d):cS 8 d=a9:=by obtain⟨t,z,k,rfl⟩:=h;rfl
theorem St.ok(h:St d):u5 M t5 d=a9:=by obtain⟨t,z,k,rfl⟩:=h;rfl
theorem St.pl(h:St d):G0 (n+2) d:=by obtain⟨t,z,k,rfl⟩:=h;exact .tup<|.cons (.int _)<|.cons (.tup<|.cons (.str _)<|.cons (.int _) .nil) .nil
theorem St.eq(f:St a)(d:St b):t6 M (n+2) a b=decide (a=b):=by
 obtain⟨t,z,k,rfl⟩:=f;obtain⟨t',G,H,rfl⟩:=d;have e:t6 M (n+2) (.tup [.int t,.tup [.str z,.int k]]) (.tup [.int t',.tup [.str G,.int H]])=((t==t')&&(((z==G)&&((k==H)&&a9))&&a9)):=by show (t6 M (n+1) (.int t) (.int t')&&((t6 M n (.str z) (.str G)&&(t6 M n (.int k) (.int H)&&a9))&&a9))=_;rw[dE,ax,dE]
 rw[e];by_cases h:D.tup [.int t,.tup [.str z,.int k]]=.tup [.int t',.tup [.str G,.int H]];rw[dT_ h];simp only[D.tup.injEq,Ou,D.int.injEq,D.str.injEq,and_true]at h;obtain⟨rfl,rfl,rfl⟩:=h;simp;rw[dF_ h];simp only[D.tup.injEq,Ou,D.int.injEq,D.str.injEq,and_true]at h;refine My.mpr λq=>h ?_;simpa using q
theorem St.tup(h:St d):∃s,d=.tup s:=by obtain⟨t,z,k,rfl⟩:=h;exact⟨_,rfl⟩
def eL(d:D):Prop:=(∃x:c7,d=.tup [.str<|AA0 "room",.str x])\/(∃x:c7,d=.tup [.str<|AA0 "person",.str x])\/∃(t:Int) (z:c7) (k:Int),d=.tup [.str<|AA0 "under",.tup [.int t,.tup [.str z,.int k]]]
theorem eL.tup(h:eL d):∃s,d=.tup s:=by rcases h with⟨x,rfl⟩|⟨x,rfl⟩|⟨t,z,k,rfl⟩<;>exact⟨_,rfl⟩
theorem eL.key(h:eL d):cS 8 d=a9:=by rcases h with⟨x,rfl⟩|⟨x,rfl⟩|⟨t,z,k,rfl⟩<;>rfl
theorem eL.ok(h:eL d):A6 t5 d=a9:=by rcases h with⟨x,rfl⟩|⟨x,rfl⟩|⟨t,z,k,rfl⟩<;>rfl
theorem eL.pl(h:eL d):G0 3 d:=by rcases h with⟨x,rfl⟩|⟨x,rfl⟩|⟨t,z,k,rfl⟩<;>rfl
theorem eL.pl4(h:eL d):G0 4 d:=by rcases h with⟨x,rfl⟩|⟨x,rfl⟩|⟨t,z,k,rfl⟩<;>rfl
theorem eL.str(h:eL d):∃z r,d=.tup (.str z::r):=by rcases h with⟨x,rfl⟩|⟨x,rfl⟩|⟨t,z,k,rfl⟩<;>exact⟨_,_,rfl⟩
theorem eL.cm(f:eL a)(d:eL b):dS M t5 a b=a9:=by
 have c:(AA0 "room" == AA0 "person")=c5:=by decide +kernel
 have R:(AA0 "room" == AA0 "under")=c5:=by decide +kernel
 have p:(AA0 "person" == AA0 "room")=c5:=by decide +kernel
 have u:(AA0 "person" == AA0 "under")=c5:=by decide +kernel
 have g:(AA0 "under" == AA0 "room")=c5:=by decide +kernel
 have e:(AA0 "under" == AA0 "person")=c5:=by decide +kernel
 have F:∀{x y:c7}{r r':List D},(x==y)=c5->dS M t5 (.tup<|.str x::r) (.tup<|.str y::r')=a9:=λ{x y r r'} h=>by show (if t6 M 29 (.str x) (.str y)=a9 then zh (t6 M 29) (dS M 29) r r' else dS M 29 (.str x) (.str y))=a9;rw[ax,h];rfl
 have s:∀{x y:c7}{z:c7},dS M t5 (.tup [.str z,.str x]) (.tup [.str z,.str y])=a9:=λ{x y z}=>by
  show (if t6 M 29 (.str z) (.str z)=a9 then(if t6 M 29 (.str x) (.str y)=a9 then a9 else a9)else a9)=a9
  repeat' split
  all_goals rfl
 rcases f with⟨x,rfl⟩|⟨x,rfl⟩|⟨t,z,k,rfl⟩<;>rcases d with⟨y,rfl⟩|⟨y,rfl⟩|⟨t',G,H,rfl⟩
 exact s;exact F c;exact F R;exact F p;exact s;exact F u;exact F g;exact F e
 ·show (if t6 M 29 (.str<|AA0 "under") (.str<|AA0 "under")=a9 then(if t6 M 29 (.tup [.int t,.tup [.str z,.int k]]) (.tup [.int t',.tup [.str G,.int H]])=a9 then a9 else(if t6 M 28 (.int t) (.int t')=a9 then(if t6 M 28 (.tup [.str z,.int k]) (.tup [.str G,.int H])=a9 then a9 else(if t6 M 27 (.str z) (.str G)=a9 then(if t6 M 27 (.int k) (.int H)=a9 then a9 else a9)else a9))else a9))else a9)=a9
  repeat' split
  all_goals rfl
theorem zC(h:∀x∈s,eL x)(l:s.length<64):SrtG M s:=SrtOk.g ⟨l,λx a=>(h x a).ok,λx a y O=>(h x a).cm<|h y O,.inr<|.inr<|.inl λx a=>(h x a).str⟩
def VecK(v:List D):Prop:=∃h:List (D×Int),v=kC h/\(∀p∈h,Hd p.1)/\h.length<=12/\(h.map (·.1)).Nodup
structure ActK(rs:List (c7×List c7))(x:c7)(ds:List D):Prop where
 say:x=AA0 "say"->∃(r:c7) (u:D) (s:c7),ds=[.str r,u,.str s]/\r∈rs.map (·.1)/\(u=.non\/St u)
 change:x=AA0 "change"->∃(m:D) (s:c7),ds=[m,.str s]/\St m
 back:x=AA0 "back"->∃m:D,ds=[m]/\St m
 like:x=AA0 "like"->∃(m:D) (s:c7) (b:Bool),ds=[m,.str s,.bl b]/\St m
 read:x=AA0 "read"->∃(r:c7) (vs:List D),ds=[.str r,.tup vs]/\VecK vs
 seen:x=AA0 "seen"->∃m:D,ds=[m]/\St m
 rung:x=AA0 "rung"->∃m:D,ds=[m]/\St m
 hush:x=AA0 "hush"->∃(w:D) (b:Bool),ds=[w,.bl b]/\eL w
 lenS:x=AA0 "say"->∀(r u:D) (s:c7),ds=[r,u,.str s]->s.length<=100
 lenC:x=AA0 "change"->∀(m:D) (s:c7),ds=[m,.str s]->s.length<=100
section
variable{rs:List (c7×List c7)}
theorem bM{a b:c7}{P:Prop}(e:a=b)(h:(a==b)=c5:=by decide +kernel):P:=o4 e<|beq_eq_false_iff_ne.mp h
theorem ActK.mkSay(i:r∈rs.map (·.1))(g:u=.non\/St u)(l:s.length<=100):ActK rs (AA0 "say") [.str r,u,.str s]:=⟨λ_=>⟨r,u,s,rfl,i,g⟩,(bM ·),(bM ·),(bM ·),(bM ·),(bM ·),(bM ·),(bM ·),λ_ _ _ _ e=>by cases e;exact l,(bM ·)⟩
theorem ActK.mkChange(h:St m)(l:s.length<=100):ActK rs (AA0 "change") [m,.str s]:=⟨(bM ·),λ_=>⟨m,s,rfl,h⟩,(bM ·),(bM ·),(bM ·),(bM ·),(bM ·),(bM ·),(bM ·),λ_ _ _ e=>by cases e;exact l⟩
theorem ActK.mkBack(h:St m):ActK rs (AA0 "back") [m]:=⟨(bM ·),(bM ·),λ_=>⟨m,rfl,h⟩,(bM ·),(bM ·),(bM ·),(bM ·),(bM ·),(bM ·),(bM ·)⟩
theorem ActK.mkLike(h:St m):ActK rs (AA0 "like") [m,.str s,.bl b]:=⟨(bM ·),(bM ·),(bM ·),λ_=>⟨m,s,b,rfl,h⟩,(bM ·),(bM ·),(bM ·),(bM ·),(bM ·),(bM ·)⟩
theorem ActK.mkRead(h:VecK v):ActK rs (AA0 "read") [.str r,.tup v]:=⟨(bM ·),(bM ·),(bM ·),(bM ·),λ_=>⟨r,v,rfl,h⟩,(bM ·),(bM ·),(bM ·),(bM ·),(bM ·)⟩
theorem ActK.mkSeen(h:St m):ActK rs (AA0 "seen") [m]:=⟨(bM ·),(bM ·),(bM ·),(bM ·),(bM ·),λ_=>⟨m,rfl,h⟩,(bM ·),(bM ·),(bM ·),(bM ·)⟩
theorem ActK.mkRung(h:St m):ActK rs (AA0 "rung") [m]:=⟨(bM ·),(bM ·),(bM ·),(bM ·),(bM ·),(bM ·),λ_=>⟨m,rfl,h⟩,(bM ·),(bM ·),(bM ·)⟩
theorem ActK.mkHush{w:D}{b:Bool}(h:eL w):ActK rs (AA0 "hush") [w,.bl b]:=⟨(bM ·),(bM ·),(bM ·),(bM ·),(bM ·),(bM ·),(bM ·),λ_=>⟨w,b,rfl,h⟩,(bM ·),(bM ·)⟩
end
def aM(p:List (c7×Int))(r:List (c7×List c7))(d:D):Prop:=∃(t:Int) (z:c7) (k m:Int) (x:c7) (s:List D),d=.tup [.int t,.tup [.str z,.int k],.int m,.tup<|.str x::s]/\1<=t/\D.tup [.str z,.int k]∈aW p/\nY 4 s/\ActK r x s
section
variable{ps:List (c7×Int)}{rs:List (c7×List c7)}
theorem aM.pl(h:aM ps rs d):G0 6 d:=by obtain⟨t,z,k,m,x,s,rfl,_,_,p,_⟩:=h;exact .tup<|.cons (.int _)<|.cons (Ic ⟨_,_,rfl⟩)<|.cons (.int _)<|.cons (.tup<|.cons (.str _) p) .nil
theorem aM.bels(h:∀d∈s,aM ps rs d):Bels k s:=Bels.of λd a=>cO 6 d (h d a).pl
end
noncomputable def aU:D->c7
 |.tup [_,_,_,.tup<|.str x::_]=>x
 |_=>AA0 ""
noncomputable def aC:D->c7
 |.tup (_::.tup (.str z::_)::_)=>z
 |_=>AA0 ""
noncomputable def q9:D->D
 |.tup (t::h::_)=>.tup [t,h]
 |_=>.non
noncomputable def au:D->c7
 |.tup [_,_,_,.tup<|_::.str r::_]=>r
 |_=>AA0 ""
noncomputable def aL:D->D
 |.tup [_,_,_,.tup<|_::_::u::_]=>u
 |_=>.non
noncomputable def fe:D->D
 |.tup [_,_,_,.tup<|_::m::_]=>m
 |_=>.non
noncomputable def sayO:D->D
 |.tup [_,_,_,.tup<|_::_::_::s::_]=>s
 |_=>.non
noncomputable def numO:D->D
 |.tup [_,_,n,_]=>n
 |_=>.non
noncomputable def nX(s:List (c7×List c7))(r:c7):List c7:=((s.find? λp=>decide<|p.1=r).map (·.2)).getD []
noncomputable def kinds(l:List D)(k:c7):List D:=l.filter λd=>decide<|aU d=k
section
variable{ps:List (c7×Int)}{rs:List (c7×List c7)}
theorem cH(h:aM ps rs d)(e:aU d=AA0 "say"):∃(t:Int) (z:c7) (k num:Int) (r:c7) (u:D) (s:c7),d=.tup [.int t,.tup [.str z,.int k],.int num,.tup [.str<|AA0 "say",.str r,u,.str s]]/\1<=t/\D.tup [.str z,.int k]∈aW ps/\r∈rs.map (·.1)/\(u=.non\/St u):=by obtain⟨t,z,k,num,x,a,rfl,h1,h2,_,f⟩:=h;obtain rfl:x=AA0 "say":=e;obtain⟨r,u,s,rfl,i,g⟩:=f.say rfl;exact⟨t,z,k,num,r,u,s,rfl,h1,h2,i,g⟩
theorem fi(h:aM ps rs d)(e:aU d=AA0 "change"):∃(t:Int) (z:c7) (k num:Int) (m:D) (s:c7),d=.tup [.int t,.tup [.str z,.int k],.int num,.tup [.str<|AA0 "change",m,.str s]]/\St m:=by obtain⟨t,z,k,num,x,b,rfl,h1,h2,_,f⟩:=h;obtain rfl:x=AA0 "change":=e;obtain⟨m,s,rfl,a⟩:=f.change rfl;exact⟨t,z,k,num,m,s,rfl,a⟩
theorem wu(h:aM ps rs d)(e:aU d=AA0 "back"):∃(t:Int) (z:c7) (k num:Int) (m:D),d=.tup [.int t,.tup [.str z,.int k],.int num,.tup [.str<|AA0 "back",m]]/\St m:=by obtain⟨t,z,k,num,x,s,rfl,h1,h2,_,f⟩:=h;obtain rfl:x=AA0 "back":=e;obtain⟨m,rfl,a⟩:=f.back rfl;exact⟨t,z,k,num,m,rfl,a⟩
end
section
variable{ps:List (c7×Int)}{rs:List (c7×List c7)}
theorem vA(h:aM ps rs d)(e:aU d=AA0 "read"):∃(t:Int) (z:c7) (k num:Int) (r:c7) (s:List (D×Int)),d=.tup [.int t,.tup [.str z,.int k],.int num,.tup [.str<|AA0 "read",.str r,.tup<|kC s]]/\(∀p∈s,Hd p.1)/\s.length<=12:=by obtain⟨t,z,k,num,x,a,rfl,h1,h2,_,f⟩:=h;obtain rfl:x=AA0 "read":=e;obtain⟨r,v,rfl,s,rfl,c,j,_⟩:=f.read rfl;exact⟨t,z,k,num,r,s,rfl,c,j⟩
theorem Go(h:aM ps rs (.tup [.int t,.tup [.str z,.int k],.int num,.tup [.str<|AA0 "read",.str r,.tup<|kC s]])):(s.map (·.1)).Nodup:=by
 obtain⟨t',G,H,n,x,o,e,h1,h2,_,g⟩:=h;simp only[D.tup.injEq,Ou,D.int.injEq,D.str.injEq,and_true]at e;obtain⟨rfl,⟨rfl,rfl⟩,rfl,rfl,rfl⟩:=e;obtain⟨r',v,e,u,c,d,m,i⟩:=g.read rfl;injection e with _ e;injection e with e;injection e with e;rw[<-e]at c;have j:∀(a b:List (D×Int)),kC a=kC b->a=b:=λa b q=>by
  refine List.map_inj_right (f:=λp:D×Int=>D.tup [p.1,.int p.2]) (λp l q=>?_) |>.mp q
  injection q with q;injection q with d q;injection q with q _;injection q with q;exact Prod.ext d q
 rw[j _ _ c];exact i
theorem vp(h:aM ps rs d)(e:aU d=AA0 "seen"\/aU d=AA0 "rung"):∃(t:Int) (z:c7) (k num:Int) (x:c7) (m:D),d=.tup [.int t,.tup [.str z,.int k],.int num,.tup [.str x,m]]/\St m:=by obtain⟨t,z,k,num,x,s,rfl,h1,h2,_,f⟩:=h;obtain⟨m,rfl,a⟩:∃m:D,s=[m]/\St m:=e.elim (λe=>f.seen e) λe=>f.rung e;exact⟨t,z,k,num,x,m,rfl,a⟩
theorem BO(h:aM ps rs d)(e:aU d=AA0 "hush"):∃(t:Int) (z:c7) (k num:Int) (w:D) (b:Bool),d=.tup [.int t,.tup [.str z,.int k],.int num,.tup [.str<|AA0 "hush",w,.bl b]]/\eL w:=by obtain⟨t,z,k,num,x,s,rfl,h1,h2,_,f⟩:=h;obtain rfl:x=AA0 "hush":=e;obtain⟨w,b,rfl,a⟩:=f.hush rfl;exact⟨t,z,k,num,w,b,rfl,a⟩
theorem Gm(h:aM ps rs d)(e:aU d=AA0 "say"):∃s:c7,sayO d=.str s/\s.length<=100:=by obtain⟨t,z,k,m,x,a,rfl,h1,h2,_,f⟩:=h;obtain rfl:x=AA0 "say":=e;obtain⟨r,u,s,rfl,i,g⟩:=f.say rfl;exact⟨s,rfl,f.lenS rfl _ _ _ rfl⟩
theorem zi(h:aM ps rs d)(e:aU d=AA0 "change"):∃s:c7,aL d=.str s/\s.length<=100:=by obtain⟨t,z,k,n,x,b,rfl,h1,h2,_,f⟩:=h;obtain rfl:x=AA0 "change":=e;obtain⟨m,s,rfl,a⟩:=f.change rfl;exact⟨s,rfl,f.lenC rfl _ _ rfl⟩
end
local macro_rules | `(tactic| walk_at"ifs")=>`(tactic| simp only[Fy,B9,↓reduceIte,Nl,Bool.not_false])
noncomputable def iG(r:List (c7×List c7))(k:List (D×D))(d:D):Bool:=decide (aC d∈nX r (au d))&&(decide (aL d=.non)||match aV k (aL d) with
 |some e=>decide<|au e=au d
 |none=>c5)
noncomputable def vn(r:List (c7×List c7))(k:List (D×D))(d:D):List (D×D):=if iG r k d=a9 then iK k (q9 d) d else k
noncomputable def aE(r:List (c7×List c7))(l:List D):List (D×D):=l.foldl (vn r) []
theorem dG:aE r (l++[d])=vn r (aE r l) d:=by unfold aE;rw[PQ];rfl
noncomputable def ak(r:List (c7×List c7))(l:List D):List (D×D):=aE r<|kinds l<|AA0 "say"
theorem pO:kinds (l++[d]) k=kinds l k++if aU d=k then[d]else[]:=by unfold kinds;rw[NM];congr 1;by_cases h:aU d=k;rw[Np,dT_ h,n9 rfl,n9 h];rfl;rw[Np,dF_ h,o0 (by decide),o0 h];rfl
theorem aq(h:d∈kinds l k):d∈l/\aU d=k:=⟨(A7.mp h).1,oT_ (A7.mp h).2⟩
theorem bA:(kinds log k).length<=log.length:=L6 _ _
structure TabK(l:List D)(kvs:List (D×D)):Prop where
 nd:(kvs.map (·.1)).Nodup
 en:∀p∈kvs,p.1=q9 p.2/\p.2∈l
 len:kvs.length<=l.length
theorem ig(h:p∈iK s k d):p=(k,d)\/p∈s:=by unfold iK at h;split at h;obtain⟨q,a,rfl⟩:=v6.mp h;split;rename_i e;rw[e];exact .inl rfl;exact .inr a;rcases D6.mp h with h|h;exact .inr h;exact .inl<|by simpa using h
theorem qo:(iK kvs k d).length<=kvs.length+1:=by unfold iK;split;rw[u6];lia;simp
theorem fh(l:List D):TabK l (aE rs l):=by
 refine bu (P:=λl=>TabK l<|aE rs l) ⟨.nil,(λ_ z=>nomatch z),u7 _⟩ (λl d i=>?_) l;rw[dG];unfold vn;have s:∀p∈aE rs l,p.1=q9 p.2/\p.2∈l++[d]:=λp h=>⟨(i.en p h).1,L5 _ (i.en p h).2⟩
 have g:=i.len;split;refine⟨qk i.nd,λp h=>?_,?_⟩;rcases ig h with rfl|h;exact⟨rfl,by simp⟩;exact s p h;have:=qo (kvs:=aE rs l) (k:=q9 d) (d:=d);rw[A3,K2];lia;exact⟨i.nd,s,by rw[A3,K2];lia⟩
theorem bd:TabK (kinds log<|AA0 "say") (ak rs log):=fh _
theorem xM(t:TabK l s)(h:aV s k=a7 e):k=q9 e/\e∈l:=t.en _<|bC h
noncomputable def J2(k:List (D×D))(d:D):Bool:=match aV k (fe d) with
 |some e=>decide<|aC d=aC e
 |none=>c5
def Pj(d:D):Prop:=∃(a:D) (z:c7) (r m:List D),d=.tup (a::.tup (.str z::r)::m)
section
variable{ps:List (c7×Int)}{rs:List (c7×List c7)}
theorem aM.nm(h:aM ps rs d):Pj d:=by obtain⟨t,z,k,m,x,s,rfl,_⟩:=h;exact⟨_,_,_,_,rfl⟩
theorem aM.st(h:aM ps rs d):St (q9 d):=by obtain⟨t,z,k,m,x,s,rfl,_⟩:=h;exact⟨_,_,_,rfl⟩
theorem St.cm(f:St a)(d:St b):dS M t5 a b=a9:=by
 obtain⟨t,z,k,rfl⟩:=f;obtain⟨t',G,H,rfl⟩:=d;show (if t6 M 29 (.int t) (.int t')=a9 then(if t6 M 29 (.tup [.str z,.int k]) (.tup [.str G,.int H])=a9 then a9 else(if t6 M 28 (.str z) (.str G)=a9 then(if t6 M 28 (.int k) (.int H)=a9 then a9 else a9)else a9))else a9)=a9
 repeat' split
 all_goals rfl
theorem vm(h:∀x∈s,St x)(l:s.length<64):SrtOk M s:=by refine⟨l,λx a=>?_,λx a y O=>(h x a).cm<|h y O,.inr<|.inr<|.inr<|.inl λx a=>?_⟩;obtain⟨t,z,k,rfl⟩:=h x a;rfl;obtain⟨t,z,k,rfl⟩:=h x a;exact⟨_,_,rfl⟩
end
def iR(s:List (D×D))(l:List D)(k:D):Prop:=∃d∈kinds l (AA0 "back"),J2 s d=a9/\fe d=k
theorem mw(h:k∉s.map (·.1)):iK s k d=s++[(k,d)]:=by unfold iK;rw[o0];intro z;obtain⟨e,i⟩:=RF.mp z;exact h (L0 (f:=(·.1))<|bC i)
theorem ut(s:List (D×D))(h:(s.map (·.1)).Nodup):dictOf s=s:=by revert h;refine bu (P:=λs=>(s.map (·.1)).Nodup->dictOf s=s) (λ_=>rfl) (λs p i h=>?_) s;rw[F0]at h;have h':=Qr.mp h;rw[bL,i h'.1,mw];intro z;exact h'.2.2 _ z _ (by simp) rfl
theorem kZ{M:t8}{x:c7}{l:List c7}:Mj M (.str x) (l.map .str)=decide (x∈l):=by unfold Mj;rw[Pp];by_cases h:x∈l;rw[dT_ h];exact L4.mpr ⟨x,h,by show t6 M t5 (.str x) (.str x)=a9;rw[ax];exact p7 x⟩;rw[dF_ h];refine My.mpr λz=>?_;obtain⟨y,O,e⟩:=L4.mp z;have a:t6 M t5 (.str y) (.str x)=a9:=e;rw[ax]at a;exact h<|eq_of_beq a ▸ O
theorem kE{M:t8}{l:List c7}:(l.map D.str).all (u5 M t5)=a9:=E5.mpr λx h=>by obtain⟨y,_,rfl⟩:=v6.mp h;exact ah
noncomputable def aJ(r:List (c7×List c7))(l:List D):List (D×D):=(ak r l).filter λp=>@decide (¬iR (ak r l) l p.1)<|F9 _
theorem sU:p∈aJ r l↔p∈ak r l/\¬iR (ak r l) l p.1:=by unfold aJ;rw[A7];exact and_congr Iff.rfl<|@o6 _<|F9 _
theorem Dd:((aJ r l).map (·.1)).Nodup:=(QI.map _).nodup bd.nd
noncomputable def aN(k:List (D×D))(l:List D):List (D×D):=dictOf<|((kinds l<|AA0 "change").filter<|J2 k).map λd=>(fe d,aL d)
noncomputable def zr(ch:List (D×D))(d:D):D:=.tup [q9 d,.str<|au d,aL d,.str<|aC d,(aV ch<|q9 d).getD<|sayO d,.bl (aV ch<|q9 d).isSome]
noncomputable def bO(r:List (c7×List c7))(l:List D):List D:=(aJ r l).map λp=>zr (aN (aJ r l) l) p.2
structure BackL(rs:List (c7×List c7))(log:List D)(ys:List D):Prop where
 st:∀x∈ys,St x
 mem:∀x,x∈ys↔iR (ak rs log) log x
 nd:ys.Nodup
 up:ys.Pairwise λa b=>¬y4 t5 b<y4 t5 a
noncomputable def zp:D->D
 |.tup [_,_,_,a]=>a
 |_=>.non
noncomputable def iU(l:List D):List (D×D):=l.foldl (λs d=>iK s (q9 d)<|zp d) []
noncomputable def iw(l:List D):List (D×D):=iU<|kinds l<|AA0 "say"
theorem eY:iU (l++[d])=iK (iU l) (q9 d) (zp d):=by unfold iU;rw[PQ];rfl
theorem yw:iw (l++[d])=if aU d=AA0 "say" then iK (iw l) (q9 d) (zp d)else iw l:=by unfold iw;rw[pO];split;rw[eY];rw[G2]
theorem Gn(l:List D):∀p∈iU l,∃d∈l,p=(q9 d,zp d):=by refine bu (P:=λl=>∀p∈iU l,∃d∈l,p=(q9 d,zp d)) (λ_ z=>nomatch z) (λl d a p h=>?_) l;rw[eY]at h;rcases ig h with rfl|h;exact⟨d,by simp,rfl⟩;obtain⟨e,i,r⟩:=a p h;exact⟨e,L5 _ i,r⟩
theorem Dh(l:List D):(iU l).length<=l.length:=by refine bu (P:=λl=>(iU l).length<=l.length) (u7 _) (λl d i=>?_) l;rw[eY,A3,K2];have:=qo (kvs:=iU l) (k:=q9 d) (d:=zp d);lia
def K5(l:List D):Prop:=l.Pairwise λa b=>y4 t5 (q9 a)<y4 t5 (q9 b)
theorem K5.one(h:K5 l):∀a∈l,∀b∈l,q9 a=q9 b->a=b:=by
 induction l with
 |nil=>intro a d;cases d
 |cons x l j =>
  obtain⟨h1,h2⟩:=List.pairwise_cons.mp h;intro a d b i e;rcases A0.mp d with g|c<;>rcases A0.mp i with L|f
  rw[g,L];have:=h1 b f;rw[<-g,e]at this;exact o4 this<|I9 _;have:=h1 a c;rw[<-L,e]at this;exact o4 this<|I9 _;exact j h2 a c b f e
theorem qh(h:K5 l):∀d∈l,aV (iU l) (q9 d)=a7 (zp d):=by revert h;refine bu (P:=λl=>K5 l->∀d∈l,aV (iU l) (q9 d)=a7 (zp d)) (λ_ _ z=>nomatch z) (λl x i h d a=>?_) l;obtain⟨h1,_,b⟩:=P1.mp h;rw[eY];rcases D6.mp a with a|a;have:=b d a x (by simp);rw[gW<|λe=>by rw[e]at this;exact I9 _ this];exact i h1 d a;rw[show d=x by simpa using a,fM]
inductive C0(rs:List (c7×List c7))(l:List D):D->Prop
 |top {d:D} (h:d∈l) (m:aC d∈nX rs (au d)) (u:aL d=.non):C0 rs l d
 |sub {d e:D} (h:d∈l) (m:aC d∈nX rs (au d)) (s:C0 rs l e) (u:aL d=q9 e) (o:y4 t5 (q9 e)<y4 t5 (q9 d)) (r:au e=au d):C0 rs l d
theorem C0.mem(h:C0 r l d):d∈l:=by cases h<;>assumption
theorem C0.nm(h:C0 r l d):aC d∈nX r (au d):=by cases h<;>assumption
theorem C0.more(h:C0 s l d):C0 s (l++l') d:=by
 induction h with
 |top h m u=>exact .top (L5 _ h) m u
 |sub h m _ u o r i=>exact .sub (L5 _ h) m i u o r
theorem C0.less(g:∀y∈l,y4 t5 (q9 y)<y4 t5 (q9 x))(h:C0 c (l++[x]) d):d∈l->C0 c l d:=by
 induction h with
 |top h m u=>exact λa=>.top a m u
 |sub h m s u o r b=>intro a;rename_i d e;rcases D6.mp s.mem with i|i;exact .sub a m (b i) u o r;rw[show e=x by simpa using i]at o;exact o4 (Pv o<|g d a)<|I9 _
theorem uB(j:∀d∈l,aL d=.non\/St (aL d))(S:∀d∈l,St<|q9 d)(h:K5 l):∀d∈l,aV (aE rs l) (q9 d)=a7 d↔C0 rs l d:=by
 revert h j S;refine bu (P:=λl=>(∀d∈l,aL d=.non\/St (aL d))->(∀d∈l,St<|q9 d)->K5 l->∀d∈l,aV (aE rs l) (q9 d)=a7 d↔C0 rs l d) (λ_ _ _ _ z=>nomatch z) (λl x p j S h d a=>?_) l;obtain⟨h1,_,n⟩:=P1.mp h;have c:∀y∈l,y4 t5 (q9 y)<y4 t5 (q9 x):=λy O=>n y O x (by simp);have i:=p (λd a=>j d<|L5 _ a) (λd a=>S d<|L5 _ a) h1;have k:=fh (rs:=rs) l;have q:aV (aE rs l) (q9 x)=a8:=by
  cases e:aV (aE rs l) (q9 x) with
  |none=>rfl
  |some f=>obtain⟨t,g⟩:=xM k e;have:=c f g;rw[<-t]at this;exact o4 this<|I9 _
 rw[dG];unfold vn;rcases D6.mp a with a|a;have F:q9 d≠q9 x:=λe=>by have:=c d a;rw[e]at this;exact I9 _ this
 have:aV (if iG rs (aE rs l) x=a9 then iK (aE rs l) (q9 x) x else aE rs l) (q9 d)=aV (aE rs l) (q9 d):=by split;exact gW F;rfl
 rw[this,i d a];exact⟨C0.more,λz=>z.less c a⟩;obtain rfl:d=x:=by simpa using a
 have T:aV (if iG rs (aE rs l) d=a9 then iK (aE rs l) (q9 d) d else aE rs l) (q9 d)=a7 d↔iG rs (aE rs l) d=a9:=by split;rename_i e;rw[fM];exact⟨λ_=>e,λ_=>rfl⟩;rename_i e;rw[q];exact⟨λz=>(by cases z),λz=>o4 z e⟩
 rw[T];unfold iG;rw[C9,NY,o5,o5];constructor;rintro⟨m,u|u⟩;exact .top (by simp) m u;cases e:aV (aE rs l) (aL d) with
 |none=>rw[e]at u;cases u
 |some f=>rw[e]at u;obtain⟨t,g⟩:=xM k e;rw[t]at e;exact .sub (by simp) m ((i f g).mp e).more t (c f g)<|oT_ u
 intro s;cases s with
 |top _ m u=>exact⟨m,.inl u⟩
 |@sub _ e _ m s u o r =>
  have b:e∈l:=by rcases D6.mp s.mem with b|b;exact b;rw[show e=d by simpa using b]at o;exact o4 o<|I9 _
  refine⟨m,.inr ?_⟩;rw[u,(i e b).mpr<|s.less c b];exact dT_ r
theorem Cc{α:Type}{p q:α->Bool}{x:α}(hpq:∀y,p y=a9->q y=a9)(hq:q x=a9)(hp:p x=c5):∀{l:List α},x∈l->(l.filter p).length<(l.filter q).length
 |y::l,h=>by
  have mono:∀l:List α,(l.filter p).length<=(l.filter q).length:=λl=>by
   induction l with
   |nil=>exact u7 _
   |cons z l ih =>
    rw[Np,Np];cases e:p z with
    |true=>rw[hpq z e,n9 rfl,n9 rfl,C3,C3];lia
    |false=>rw[o0<|by decide];split;rw[C3];lia;exact ih
  rw[Np,Np];rcases A0.mp h with rfl|h;rw[hp,hq,o0 (by decide),n9 rfl,C3];have:=mono l;lia;have ih:=Cc hpq hq hp h;cases e:p y with
  |true=>rw[hpq y e,n9 rfl,n9 rfl,C3,C3];lia
  |false=>rw[o0<|by decide];split;rw[C3];lia;exact ih
def L8(M:t8)(q:Nat):Prop:=∃n:Int,M[q]?=a7 (.lst [.int n])
def Hl(M B:t8)(q:Nat):Prop:=∃(n:Int) (L:t8),B=M.set q (.lst [.int n])++L
section
variable{M B:t8}{q m i:Nat}{n:Int}{x:MO}
theorem De(h:M[q]?=a7 x):M.set q x=M:=by refine Qx λj=>?_;by_cases e:q=j;subst e;rw[MA<|aX h,h];rw[MX e]
theorem L8.lt(h:L8 M q):q<M.length:=by obtain⟨n,h⟩:=h;exact aX h
theorem L8.start(h:L8 M q):Hl M M q:=by obtain⟨n,h⟩:=h;exact⟨n,[],by rw[G2,De h]⟩
theorem Hl.len(h:Hl M B q):M.length<=B.length:=by obtain⟨n,L,rfl⟩:=h;rw[A3,J7];lia
theorem Hl.hd(a:q<M.length)(h:Hl M B q):L8 B q:=by obtain⟨n,L,rfl⟩:=h;exact⟨n,by rw[J0 (by rw[J7];exact a),MA a]⟩
theorem Hl.set(a:q<M.length)(h:Hl M B q):Hl M (B.set q<|.lst [.int n]) q:=by obtain⟨f,L,rfl⟩:=h;exact⟨n,L,by rw[List.set_append_left _ _ (by rw[J7];exact a),List.set_set]⟩
theorem Hl.more(h:Hl M B q):Hl M (B++L) q:=by obtain⟨f,b,rfl⟩:=h;exact⟨f,b++L,by rw[G7]⟩
theorem Hl.setO(h:Hl M B q)(d:M.length<=m):Hl M (B.set m x) q:=by obtain⟨f,L,rfl⟩:=h;exact⟨f,L.set (m-M.length) x,by rw[Rp _ _ (by rw[J7];exact d),J7]⟩
theorem Hl.old(h:Hl M B q)(hi:i≠q)(e:M[i]?=a7 x):B[i]?=a7 x:=by obtain⟨f,L,rfl⟩:=h;rw[J0 (by rw[J7];exact aX e),MX<|B8 hi];exact e
theorem Hl.oldL(h:Hl M B q)(hi:i≠q)(e:aA M i s):aA B i s:=by rcases e with e|e|e;exact .inl<|h.old hi e;exact .inr<|.inl<|h.old hi e;exact .inr<|.inr<|h.old hi e
theorem Hl.fin(h:Hl M B q)(b:C1 M.length d)(k:∀n:Int,R d<|M.set q<|.lst [.int n]):bb M R d B:=by obtain⟨f,L,rfl⟩:=h;exact bb.chg (MP.set .refl<|.cons (.int _) .nil) (k f) b<|G3 _ _
theorem Hl.finL(h:Hl M B q)(d:M.length<=m)(e:B[m]?=a7 (.lst s))(b:Bels M.length s)(k:∀n:Int,R (.ref M.length)<|M.set q (.lst [.int n])++[.lst s]):bb M R (.ref m) B:=by obtain⟨f,L,rfl⟩:=h;exact bb.chgL (MP.set .refl<|.cons (.int _) .nil) (k f) d e (G3 _ _) b
end
theorem Eu(u:Option Int)(n:Nat):RJ a8 u 1 n=RJ (a7 ((0:Nat):Int)) u 1 n:=by unfold RJ;simp only[show (1:Int) > 0 by decide,p5];congr 1
theorem xu(x:c7)(b:Nat):(K7 x a8<|a7 (b:Int)).cps.toList=x.cps.toList.take b:=by have e:=jW x (a:=0) (b:=b)<|z5 _;rw[jX]at e ⊢;rw[Eu];rw[e];simp
theorem Dc(x:c7)(b:Nat):(K7 x a8<|a7 (b:Int)).length<=b:=by rw[cj,xu,F5];lia
theorem Da{M:t8}{l:List c7}(h:l.length<64):SrtOk M (l.map .str):=⟨by rw[u6];exact h,λx c=>by obtain⟨y,_,rfl⟩:=v6.mp c;rfl,λx c y O=>by obtain⟨a,_,rfl⟩:=v6.mp c;obtain⟨b,_,rfl⟩:=v6.mp O;rfl,.inl λx c=>by obtain⟨y,_,rfl⟩:=v6.mp c;exact⟨y,rfl⟩⟩
theorem tu{y:List D}{x:List c7}(h:y.Perm (x.map .str)):∃z:List c7,y=z.map .str/\z.Perm x:=Dq D.str OH (λ_=>rfl) h
theorem zE:gB (nq s k d) k=a7 d:=by
 unfold nq;split;rename_i b;obtain⟨p,h,e⟩:=L4.mp b;unfold gB;rw[Qf];have l:((λp:c7×D=>decide<|p.1=k) ∘ λp:c7×D=>if p.1=k then(p.1,d)else p)=λp=>decide (p.1=k):=by funext p;show decide ((if p.1=k then(p.1,d)else p).1=k)=decide (p.1=k);split<;>rfl
 rw[l];cases f:s.find? λp=>decide (p.1=k) with
 |none=>exact o4 e<|by simpa using List.find?_eq_none.mp f p h
 |some q =>
  have a:q.1=k:=by have:=Os f;exact oT_ this
  show a7 (if q.1=k then(q.1,d)else q).2=_;rw[n9 a]
 rename_i b;unfold gB;have:s.find? (λp=>decide<|p.1=k)=a8:=List.find?_eq_none.mpr λp h z=>b<|L4.mpr ⟨p,h,z⟩;rw[Qs,this];simp
theorem yn(h:j≠k):gB (nq s k d) j=gB s j:=by
 unfold nq;split;unfold gB;rw[Qf];have e:((λp:c7×D=>decide<|p.1=j) ∘ λp:c7×D=>if p.1=k then(p.1,d)else p)=λp=>decide (p.1=j):=by funext p;show decide ((if p.1=k then(p.1,d)else p).1=j)=decide (p.1=j);split<;>rfl
 rw[e];cases f:s.find? λp=>decide (p.1=j) with
 |none=>rfl
 |some q =>
  have a:q.1=j:=by have:=Os f;exact oT_ this
  show a7 (if q.1=k then(q.1,d)else q).2=a7 q.2;rw[o0<|by rw[a];exact h]
 unfold gB;rw[Qs];cases f:s.find? λp=>decide (p.1=j) with
 |none=>simp[B8 h]
 |some q=>rfl
noncomputable def dJ(l:List D)(k n:c7):List D:=(kinds l k).filter λd=>decide<|aC d=n
theorem cJ(h:d∈dJ l k n):d∈l/\aU d=k/\aC d=n:=⟨(aq (A7.mp h).1).1,(aq (A7.mp h).1).2,oT_ (A7.mp h).2⟩
theorem ff:(dJ log k name).length<=log.length:=D4 (L6 _ _) bA
theorem kT:dJ (l++[d]) k n=dJ l k n++if aU d=k/\aC d=n then[d]else[]:=by unfold dJ;rw[pO,NM];congr 1;by_cases h1:aU d=k;rw[n9 h1,Np,List.filter_nil];by_cases h2:aC d=n;rw[dT_ h2,n9 rfl,n9 ⟨h1,h2⟩];rw[dF_ h2,o0 (by decide),o0 λz=>h2 z.2];rw[o0 h1,o0 λz=>h1 z.1];rfl
noncomputable def bq(l:List D)(k n:c7):List D:=(dJ l k n).map fe
noncomputable def RM:D->D×Int
 |.tup [h,.int c]=>(h,c)
 |_=>(.non,0)
noncomputable def CT:D->List (D×Int)
 |.tup v=>v.map RM
 |_=>[]
theorem wC:CT (.tup<|kC h)=h:=by show (kC h).map RM=h;unfold kC;rw[Fn];exact MR _
noncomputable def oi(l:List D)(n r:c7):List D:=((dJ l (AA0 "read") n).filter λd=>decide<|au d=r).map aL
structure VbAt(B:t8)(n:Nat)(tab:List (c7×D))(f:c7->List D):Prop where
 at_:B[n]?=a7 (.dct tab)
 got:∀k d,gB tab k=a7 d->∃m,d=.ref m/\n+1<m/\B[m]?=a7 (.lst<|f k)
 no:∀k,gB tab k=a8->f k=[]
 one:∀k k' m,gB tab k=a7 (.ref m)->gB tab k'=a7 (.ref m)->k=k'
theorem VbAt.pre(h:VbAt B n tab f)(p:B <+: B'):VbAt B' n tab f:=⟨aI p h.at_,λk d a=>let ⟨m,e,l,g⟩:=h.got k d a;⟨m,e,l,aI p g⟩,h.no,h.one⟩
theorem VbAt.kids(h:VbAt B n tab f)(a:B[q0]?=a7 (.lst [])):∃q,(gB tab k).getD (.ref q0)=.ref q/\B[q]?=a7 (.lst<|f k):=by
 cases e:gB tab k with
 |none=>exact⟨q0,rfl,by rw[h.no k e];exact a⟩
 |some d=>obtain⟨m,rfl,_,g⟩:=h.got k d e;exact⟨m,rfl,g⟩
noncomputable def lZ(l:List D)(n:c7)(e:D):Bool:=decide (aC e=n)||(decide (q9 e∈bq l (AA0 "seen") n)||(oi l n<|au e).any λv=>cu (CT v) (yZ e)<|FB e)
noncomputable def gh(l:List D)(n:c7):List (D×D):=dictOf<|(dJ l (AA0 "hush") n).map λd=>(fe d,aL d)
noncomputable def bI(l:List D)(n:c7)(w:D):Bool:=decide<|aV (gh l n) w=a7 (.bl a9)
noncomputable def bf(H:D->Bool)(k:List (D×D)):List D:=k.foldl (λa p=>if (H p.1||decide (aL p.2∈a))=a9 then a++[p.1]else a) []
theorem fg:bf H (k++[p])=if (H p.1||decide (aL p.2∈bf H k))=a9 then bf H k++[p.1]else bf H k:=by unfold bf;rw[PQ];rfl
theorem kj:∀x∈bf H k,x∈k.map (·.1):=by refine bu (P:=λk=>∀x∈bf H k,x∈k.map (·.1)) (λx h=>nomatch h) (λk p i x h=>?_) k;rw[fg]at h;rw[F0,D6];split at h;rcases D6.mp h with h|h;exact .inl<|i x h;exact .inr h;exact .inl<|i x h
theorem BP:(bf H kvs).length<=kvs.length:=by refine bu (P:=λkvs=>(bf H kvs).length<=kvs.length) (u7 _) (λkvs p i=>?_) kvs;rw[fg,A3,K2];split;rw[A3,K2];lia;lia
noncomputable def begB(y n:c7):Bool:=OX y n && !(!eW (K7 y (a7 (n.length:Int))<|a7<|(n.length:Int)+1) "a" && !eW "z" (K7 y (a7 (n.length:Int))<|a7<|(n.length:Int)+1))
noncomputable def cI(s:D)(n:c7):Bool:=match s with
 |.str x=>((I0 x<|AA0 "@").drop 1).any λy=>begB y n
 |_=>c5
noncomputable def JB(r:List (c7×List c7))(l:List D)(e:D):D:=(aV (aN (aJ r l) l)<|q9 e).getD<|sayO e
noncomputable def dO(r:List (c7×List c7))(name:c7):List c7:=(r.filter λp=>decide<|name∈p.2).map (·.1)
noncomputable def ma(k:List (D×D))(n:c7):List D:=(k.map (·.1)).filter λs=>decide<|aC ((aV k s).getD .non)=n
noncomputable def CP(r:List (c7×List c7))(l:List D)(n:c7)(e:D):Option c7:=if cI (JB r l e) n=a9 then a7 (AA0 "named")
 else if aL e∈ma (ak r l) n then a7 (AA0 "answered")
 else if (bI l n (.tup [.str<|AA0 "room",.str<|au e])||decide (q9 e∈bf (λs=>bI l n<|.tup [.str<|AA0 "under",s]) (ak r l)))=a9 then a8 else a7 (AA0 "heard")
noncomputable def At(r:List (c7×List c7))(l:List D)(n:c7)(e:D):Bool:=decide (au e∈dO r n)&&(!decide (q9 e∈bq l (AA0 "rung") n) && !bI l n (.tup [.str<|AA0 "person",.str<|aC e]))
noncomputable def mn(r:List (c7×List c7))(l:List D)(n:c7)(e:D):Option D:=if At r l n e=a9 then(CP r l n e).map λw=>.tup [q9 e,.str w]else a8
noncomputable def cN(r:List (c7×List c7))(l:List D)(n:c7):List D:=((aJ r l).map (·.2)).filter λe=>!lZ l n e
noncomputable def nU(r:List (c7×List c7))(l:List D)(n:c7):List D:=(cN r l n).filterMap<|mn r l n
theorem eL.eq(f:eL a)(e:eL b):t6 M t5 a b=decide (a=b):=by
 have l:∀{x y:c7}{c d:D},t6 M t5 (.tup [.str x,c]) (.tup [.str y,d])=((x==y)&&(t6 M 29 c d&&a9)):=λ{x y c d}=>by show (t6 M 29 (.str x) (.str y)&&(t6 M 29 c d&&a9))=_;rw[ax]
 have k:∀{x y:c7}{c d:D},t6 M 29 c d=decide (c=d)->t6 M t5 (.tup [.str x,c]) (.tup [.str y,d])=decide (D.tup [.str x,c]=.tup [.str y,d]):=λ{x y c d} h=>by rw[l,h,NZ];simp
 have s:∀{x y:c7},t6 M 29 (.str x) (.str y)=decide (D.str x=.str y):=λ{x y}=>by rw[ax,NZ];simp
 rcases f with⟨x,rfl⟩|⟨x,rfl⟩|⟨t,z,n,rfl⟩<;>rcases e with⟨y,rfl⟩|⟨y,rfl⟩|⟨t',G,g,rfl⟩
 exact k s;exact k s;exact k<|Eq.trans (b:=c5) rfl (dF_<|λz=>nomatch z).symm;exact k s;exact k s;exact k<|Eq.trans (b:=c5) rfl (dF_<|λz=>nomatch z).symm;exact k<|Eq.trans (b:=c5) rfl (dF_<|λz=>nomatch z).symm;exact k<|Eq.trans (b:=c5) rfl (dF_<|λz=>nomatch z).symm;exact k<|St.eq (n:=27) ⟨_,_,_,rfl⟩ ⟨_,_,_,rfl⟩
theorem ia{M:t8}{l:List D}(h:∀x∈l,eL x):l.all (u5 M t5)=a9:=E5.mpr λx a=>(dP 3 t5 x (by decide) (h x a).pl).1
theorem ik(a:eL x)(h:∀x∈l,eL x):Mj M x l=decide (x∈l):=by unfold Mj;by_cases d:x∈l;rw[dT_ d];exact L4.mpr ⟨x,d,by rw[a.eq a];exact dT_ rfl⟩;rw[dF_ d];refine My.mpr λz=>?_;obtain⟨y,O,e⟩:=L4.mp z;rw[(h y O).eq a]at e;exact d<|oT_ e ▸ O
theorem Lb(a:x=.non\/St x)(h:∀x∈l,St x):Mj M x l=decide (x∈l):=by
 rcases a with rfl|a;unfold Mj;have:D.non∉l:=λz=>by obtain⟨t,z,k,e⟩:=h _ z;cases e
 rw[dF_ this];refine My.mpr λz=>?_;obtain⟨y,O,e⟩:=L4.mp z;obtain⟨t,z,k,rfl⟩:=h y O;cases e;unfold Mj;by_cases d:x∈l;rw[dT_ d];exact L4.mpr ⟨x,d,by rw[show t5=28+2 from rfl,a.eq a];exact dT_ rfl⟩;rw[dF_ d];refine My.mpr λz=>?_;obtain⟨y,O,e⟩:=L4.mp z;rw[show t5=28+2 from rfl,(h y O).eq a]at e;exact d<|oT_ e ▸ O
noncomputable def fL(x:c7):Bool:=!eW x "a" && !eW "z" x
def dY:w6:=λd M R=>∃x:c7,d=[.str x]/\R (.bl<|fL x) M
theorem qL:cr dY ja:=by rintro d M R ⟨x,rfl,_⟩;rfl
def mR:s9:=bp<|ux OI OI (dC<|.str "a") (ab 0)<|dC<|.str "z"
theorem rJ:z0 dY 1 mR:=by
 rintro d M R ⟨x,rfl,h⟩;unfold mR;walk_at"dl";unfold fL at h;cases e:eW x "a" with
 |true=>rw[e]at h;exact bh<|bb.now h
 |false=>rw[e]at h;exact bj<|bb.now h
theorem tD(T:Tops P w K mg base):u8 P w K mg base 1 "is_letter" ja dY:=u8.byD (N:=["sign"]) T.b T.f_is_letter (by walk_at"sc") qL (by walk_at"dv") rJ
noncomputable def Bq(c:Nat):Bool:=decide (97<=c)&&decide (c<=122)
theorem qR(c:Nat):fL ⟨#[c]⟩=Bq c:=by
 have l:∀a b:Nat,decide ([a] < [b])=decide (a<b):=λa b=>by rw[StrLaws.lt_cons_cons,StrLaws.lt_nil_nil];simp
 have t:eW ⟨#[c]⟩ "a" = decide (c<97):=l c 97;have e:eW "z" ⟨#[c]⟩=decide (122<c):=l 122 c;unfold fL Bq;rw[t,e,NZ];simp only[C9,PP,decide_eq_false_iff_not,o5];lia
theorem oA(x:c7)(h:x.cps.toList=[]):fL x=c5:=by have:x=⟨#[]⟩:=kF h;subst this;unfold fL;have:eW (⟨#[]⟩:c7) "a" = a9:=StrLaws.lt_nil_cons 97 [];rw[this];rfl
noncomputable def hV(t n:c7):Bool:=OX t n && !fL (K7 t (a7 (n.length:Int))<|a7<|(n.length:Int)+1)
def bD:w6:=λd M R=>∃t n:c7,d=[.str t,.str n]/\t.length<=100/\n.length<=100/\R (.bl<|hV t n) M
theorem iy:cr bD cg:=by rintro d M R ⟨t,n,rfl,_⟩;rfl
def cT:s9:=bp<|uy (Pb nh (ab 0)<|aa (ab 1) af)<|EU<|t7 dY<|aa (ab 2) af
def dN:s9:=ay (ba (Ml (ab 0) (fP<|t7 nj<|aa (ab 1) af)<|fP<|p9 br (t7 nj<|aa (ab 1) af)<|dC<|.int 1) 2)<|cT
theorem iS:z0 bD 3 dN:=by
 rintro d M R ⟨t,n,rfl,D,f,h⟩;simp only[dN,cT];walk_at"dl";refine⟨am (by lia),am (by lia),am (by lia),?_⟩;unfold hV at h;cases e:OX t n with
 |false=>rw[e]at h;exact bh<|bb.now h
 |true=>rw[e]at h;exact bj ⟨_,rfl,bb.now h⟩
theorem ji(T:Tops P w K mg base):u8 P w K mg base 2 "begins_with_name" cg bD:=u8.byD (N:=["text","name","behind"]) T.b T.f_begins_with_name (by walk_at"sc") iy (by have:=tD T;walk_at"dv") iS
def fU:w6:=λd M R=>∃s n:c7,d=[.str s,.str n]/\s.length<=100/\n.length<=100/\R (.bl<|cI (.str s) n) M
theorem tV:cr fU kO:=by rintro d M R ⟨t,n,rfl,_⟩;rfl
theorem Ao(x y:c7):(I0 x y).length<=x.length+2:=by unfold I0;split;simp;split;simp;rw[length_partsBetween];have:=StrLaws.occ_length_le x y 0 x.length<|x.length+1;lia
theorem cut1:cutD x (a7 1) a8=x.drop 1:=by unfold cutD;rw[HT.sIx_none,show (1:Int)=((1:Nat):Int)from rfl,HT.sIx_nat];by_cases h:1<=x.length;rw[PD h,P4<|by rw[MI];exact u7 _];have:x=[]:=RL (by lia);subst this;rfl
def pj:s9:=bp<|t7 IZ<|aa (E6 1 [1] (bE<|Ml (Pb sY (ab 0)<|aa (dC<|.str "@") af) (fP<|dC<|.int 1) dF) (ag 0) xT<|t7 bD<|aa (ab 0)<|aa (ab 1) af) af
theorem uT:z0 fU 2 pj:=by
 rintro g M R ⟨s,n,rfl,f,l,h⟩;simp only[pj];walk_at"dl";have m:=Ao s<|AA0 "@";refine⟨⟨by decide,am (by lia),am<|by lia⟩,_,aw,_,aw,λ_=>?_⟩;rw[cut1];refine cL (λd=>match d with|.str y=>.bl (hV y n)|_=>.non) (λS=>∃a,S=[a,a7<|.str n]) aw _ _ _ (λx b S ⟨a,c⟩=>?_) ⟨_,rfl⟩ ?_ ?_;rw[<-Pu]at b;obtain⟨y,O,rfl⟩:=v6.mp b;subst c;refine⟨[a7<|.str y,a7<|.str n],⟨_,rfl⟩,λY e=>?_⟩;walk_at"dl";refine⟨y,n,rfl,?_,l,e⟩;obtain⟨k,i,j,_,_,rfl⟩:=(kH s 64 (by decide) y).mp O;rw[cj,StrLaws.strSub_toList,F5,MI,<-cj];lia;rw[C2,MI,u6];exact am (by lia);refine⟨((I0 s<|AA0 "@").drop 1).map (hV · n),?_,?_⟩;have:([]++((List.map D.str<|I0 s<|AA0 "@").drop 1).map λd=>match d with|.str y=>D.bl (hV y n)|_=>.non)=bls (((I0 s<|AA0 "@").drop 1).map (hV · n)):=by rw[F4,<-Pu,Fn];unfold bls;rw[Fn];rfl
 rw[this];exact aw;have:(((I0 s<|AA0 "@").drop 1).map (hV · n)).any id=cI (.str s) n:=by rw[Pp];rfl
 rw[this];exact bb.bl h<|by rw[G7,G7];exact G3 _ _
theorem vM(T:Tops P w K mg base):u8 P w K mg base 3 "is_named" kO fU:=u8.byD (N:=["saying","name"]) T.b T.f_is_named (by walk_at"sc") tV (by have:=ji T;walk_at"dv") uT
def fR:w6:=λd M R=>∃(p:List (c7×Int)) (a:List (c7×List c7)) (e:c7),d=[az p a,.str e]/\a.length<=1000/\R (.ref M.length) (M++[.lst<|(dO a e).map .str])
theorem tS:cr fR kL:=by rintro d M R ⟨p,a,e,rfl,_⟩;rfl
def pe:s9:=bp<|E6 1 [1] (bE<|p9 u3 (ab 0)<|dC<|.int 1) (ag 0) (ap<|p9 L7 (ab 1)<|p9 u3 (ab 0)<|dC<|.int 1)<|p9 u3 (ab 0)<|dC<|.int 0
theorem uQ:z0 fR 2 pe:=by
 rintro i M R ⟨f,s,n,rfl,g,h⟩;simp only[pe,az];walk_at"dl";intro _;refine aQ (λd=>match d with|.tup [_,.tup ms]=>decide (D.str n∈ms)|_=>c5) (λd=>match d with|.tup (x::_)=>x|_=>.non) (λS=>∃a,S=[a,a7<|.str n]) trivial _ _ _ ?_ ⟨_,rfl⟩ (by rw[C2,u6];exact am<|by lia) ?_;rintro d m S ⟨a,rfl⟩;obtain⟨p,c,rfl⟩:=v6.mp m;refine⟨[a7<|gL p,a7<|.str n],⟨_,rfl⟩,λY Z b=>?_⟩;have b:if decide (D.str n∈p.2.map D.str)=a9 then Y (.str p.1) [a7<|gL p,a7<|.str n] M else Z [a7<|gL p,a7<|.str n] M:=b
 have J:(D.str n∈p.2.map D.str)↔n∈p.2:=by constructor;intro z;obtain⟨y,O,e⟩:=v6.mp z;injection e with e;exact e ▸ O;exact λz=>L0 z
 unfold gL at b ⊢;walk_at"dl";refine⟨⟨ah,kE⟩,?_⟩;rw[kZ];by_cases e:n∈p.2;rw[dT_ e];rw[dT_<|J.mpr e]at b;exact b;rw[dF_ e];rw[dF_<|λz=>e<|J.mp z]at b;exact b;rw[F4,PC,Fn];have e:((s.filter<|(λd:D=>match d with|.tup [_,.tup ms]=>decide (D.str n∈ms)|_=>c5) ∘ gL).map<|(λd:D=>match d with|.tup (x::_)=>x|_=>.non) ∘ gL)=(dO s n).map .str:=by
  unfold dO;rw[Fn];have:((λd:D=>match d with|.tup [_,.tup ms]=>decide (D.str n∈ms)|_=>c5) ∘ gL)=λp:c7×List c7=>decide (n∈p.2):=by funext p;show decide (D.str n∈p.2.map D.str)=decide (n∈p.2);rw[decide_eq_decide];constructor;intro z;obtain⟨y,O,e⟩:=v6.mp z;injection e with e;exact e ▸ O;exact λz=>L0 z
  rw[this];rfl
 rw[e];exact .inl h
theorem vJ(T:Tops P w K mg base):u8 P w K mg base 1 "rooms_of" kL fR:=u8.byD (N:=["house","name"]) T.b T.f_rooms_of (by walk_at"sc") tS (by walk_at"dv") uQ
def cZ:w6:=λd M R=>∃(p:List (c7×Int)) (a:List (c7×List c7)) (r:c7),d=[az p a,.str r]/\r∈a.map (·.1)/\R (.tup<|(nX a r).map .str) M
theorem oz:cr cZ gR:=by rintro d M R ⟨p,a,r,rfl,_⟩;rfl
theorem nL:nX (p::s) r=if p.1=r then p.2 else nX s r:=by unfold nX;rw[Mq];by_cases h:p.1=r;rw[dT_ h,n9 h];rfl;rw[dF_ h,o0 h]
def oj:s9:=xV
def lI:s9:=ay (kt (bE<|p9 u3 (ab 0)<|dC<|.int 1) (jr 2<|aO (ag 2)<|aO (ag 3) jt)<|z6 (ap<|p9 z8 (ab 2)<|ab 1) (bp<|ab 3) aY)<|oj
theorem pY:z0 cZ 4 lI:=by
 rintro l M R ⟨j,s,r,rfl,i,h⟩;simp only[lI,az];walk_at"dl";intro _;refine kq (λy S c=>∃g a b,y=g.map gL/\c=M/\S=[a7<|az j s,a7<|.str r,a,b]/\nX s r=nX g r/\r∈g.map (·.1)) ?_ ?_ _ _ _ ⟨s,_,_,rfl,rfl,rfl,rfl,i⟩;rintro S c ⟨g,a,b,q,rfl,rfl,e,d⟩;have:g=[]:=by cases g<;>simp_all
 subst this;cases d;rintro x k S c ⟨g,a,b,q,rfl,rfl,e,d⟩ L f;cases g with
 |nil=>cases q
 |cons p g=>rw[C4]at q;injection q with h1 h2;subst h1;refine⟨trivial,?_⟩;unfold gL;walk_at"dl";refine⟨trivial,⟨ah,ah⟩,?_⟩;rw[ax];rw[nL]at e;by_cases q:p.1=r;rw[beq_iff_eq.mpr q];rw[n9 q]at e;refine bj<|bb.now ?_;rw[<-e];exact h;rw[beq_eq_false_iff_ne.mpr q];rw[o0 q]at e;rw[C4,A0]at d;exact bh<|x5.now<|f _ _ ⟨g,_,_,h2,rfl,rfl,e,d.resolve_left<|B8 q⟩
theorem qA(T:Tops P w K mg base):u8 P w K mg base 1 "members_of" gR cZ:=u8.byD (N:=["house","room","told","members"]) T.b T.f_members_of (by walk_at"sc") oz (by walk_at"dv") pY
def cD:w6:=λd M R=>∃(a b:D) (r:List D),d=[.tup<|a::b::r]/\R (.tup [a,b]) M
theorem tR:cr cD kK:=by rintro d M R ⟨a,b,r,rfl,_⟩;rfl
def oT:s9:=bp<|dL<|aa (p9 u3 (ab 0)<|dC<|.int 0)<|aa (p9 u3 (ab 0)<|dC<|.int 1) af
theorem uP:z0 cD 1 oT:=by rintro d M R ⟨a,b,r,rfl,h⟩;simp only[oT];walk_at"dl";exact⟨am (by lia),bb.now h⟩
theorem jg(T:Tops P w K mg base):u8 P w K mg base 1 "stamp_of" kK cD:=u8.byD (N:=["deed"]) T.b T.f_stamp_of (by walk_at"sc") tR (by walk_at"dv") uP
def bc:w6:=λd M R=>∃(t x:D) (r m:List D),d=[.tup<|t::.tup (x::r)::m]/\R x M
theorem qJ:cr bc iY:=by rintro d M R ⟨t,x,r,m,rfl,_⟩;rfl
def mM:s9:=bp<|p9 u3 (p9 u3 (ab 0)<|dC<|.int 1)<|dC<|.int 0
theorem rG:z0 bc 1 mM:=by rintro d M R ⟨t,x,r,m,rfl,h⟩;simp only[mM];walk_at"dl";exact bb.now h
theorem bW(T:Tops P w K mg base):u8 P w K mg base 1 "person_of" iY bc:=u8.byD (N:=["deed"]) T.b T.f_person_of (by walk_at"sc") qJ (by walk_at"dv") rG
def dW:w6:=λs M R=>∃(t d:D) (m:Int) (r:List D) (h:List (D×Int)),s=[.tup<|t::d::.int m::r,.tup<|kC h]/\Hd d/\(∀p∈h,Hd p.1)/\h.length<=1000/\R (.bl<|cu h d m) M
theorem qK:cr dW iZ:=by rintro s M R ⟨t,d,m,r,h,rfl,_⟩;rfl
def jF:s9:=bp<|dC<|.bl c5
def mP:s9:=ay (kt (bE<|ab 1) (jr 2<|aO (ag 2)<|aO (ag 3) jt)<|z6 (ap<|p9 z8 (ab 2)<|p9 u3 (ab 0)<|dC<|.int 1) (bp<|p9 Nj (p9 u3 (ab 0)<|dC<|.int 2)<|ab 3) aY)<|jF
theorem rH:z0 dW 4 mP:=by
 rintro ds M R ⟨t,d,m,r,y,rfl,f,v,s,h⟩;simp only[mP];walk_at"dl";refine λ_=>?_;refine kq (λys S c=>c=M/\∃u a b,ys=kC u/\(∀p∈u,Hd p.1)/\cu u d m=cu y d m/\S=[a7<|.tup<|t::d::.int m::r,a7<|.tup<|kC y,a,b]) ?_ ?_ _ _ _ ⟨rfl,y,_,_,rfl,v,rfl,rfl⟩;rintro S c ⟨rfl,u,a,b,e,_,w,rfl⟩;obtain rfl:u=[]:=by
  cases u with
  |nil=>rfl
  |cons q u=>cases e
 rw[<-w]at h;refine⟨trivial,?_⟩;simp only[jF];walk_at"dl";exact bb.now h;rintro x xs S c ⟨rfl,u,a,b,e,i,w,rfl⟩ G l;cases u with
 |nil=>cases e
 |cons q u =>
  have j:x=.tup [q.1,.int q.2]/\xs=kC u:=by unfold kC at e ⊢;rw[C4]at e;injection e with e1 e2;exact⟨e1,e2⟩
  obtain⟨rfl,rfl⟩:=j;refine⟨trivial,?_⟩;have Q:=i q (by simp);walk_at"dl";refine⟨trivial,⟨Lk Q,Lk f⟩,?_⟩;cases g:t6 c t5 q.1 d with
  |true =>
   have e:=(Ll (n:=29) Q f).mp g;have k:cu (q::u) d m=decide (m<q.2):=by unfold cu;rw[Mq,dT_ e]
   rw[<-w,k]at h;exact bj<|bb.now h
  |false =>
   have e:q.1≠d:=λz=>by have:=(Ll (M:=c) (n:=29) Q f).mpr z;rw[show t6 c (29+1) q.1 d=t6 c t5 q.1 d from rfl,g]at this;cases this
   refine bh<|x5.now<|l _ _ ⟨rfl,u,_,_,rfl,λp o=>i p<|A5 _ o,?_,rfl⟩;rw[<-w];unfold cu;rw[Mq,dF_ e]
theorem tx(T:Tops P w K mg base):u8 P w K mg base 1 "is_within" iZ dW:=u8.byD (N:=["deed","vector","hand","count"]) T.b T.f_is_within (by walk_at"sc") qK (by walk_at"dv") rH
def bi:w6:=λs M R=>∃(p:List (c7×Int)) (a:List (c7×List c7)) (l:List D) (k:c7),s=[.tup l,.str k]/\(∀d∈l,aM p a d)/\l.length<=1000/\R (.ref M.length) (M++[.lst<|kinds l k])
theorem kX:cr bi dB:=by rintro d M R ⟨p,a,l,k,rfl,_⟩;rfl
def gJ:s9:=bp<|E6 1 [1] (bE<|ab 0) (ag 0) (ap<|p9 z8 (p9 u3 (p9 u3 (ab 0)<|dC<|.int 3)<|dC<|.int 0)<|ab 1)<|ab 0
theorem lY:z0 bi 2 gJ:=by rintro n M R ⟨p,s,o,k,rfl,g,l,h⟩;simp only[gJ];walk_at"dl";intro _;refine aQ (λd=>decide<|aU d=k) id (λS=>∃a,S=[a,a7<|.str k]) trivial _ _ _ ?_ ⟨_,rfl⟩ (by rw[C2];exact am<|by lia) (by rw[F4,MR];exact .inl h);rintro d i S ⟨a,rfl⟩;obtain⟨t,z,H,m,x,n,rfl,_⟩:=g d i;refine⟨[a7<|.tup [.int t,.tup [.str z,.int H],.int m,.tup<|.str x::n],a7<|.str k],⟨_,rfl⟩,λY Z b=>?_⟩;walk_at"dl";have f:atI [D.int t,.tup [.str z,.int H],.int m,.tup<|.str x::n] 3=a7 (.tup<|.str x::n):=aF (j:=3) rfl;rw[f];dsimp only;rw[Pd];refine⟨⟨ah,ah⟩,?_⟩;rw[ax];have c:aU (.tup [.int t,.tup [.str z,.int H],.int m,.tup<|.str x::n])=x:=rfl;rw[c]at b;by_cases e:x=k;rw[beq_iff_eq.mpr e];rw[dT_ e]at b;exact bj b;rw[beq_eq_false_iff_ne.mpr e];rw[dF_ e]at b;exact bh b
theorem cQ(T:Tops P w K mg base):u8 P w K mg base 1 "deeds_of_kind" dB bi:=u8.byD (N:=["log","kind"]) T.b T.f_deeds_of_kind (by walk_at"sc") kX (by walk_at"dv") lY
def cE:w6:=λs M R=>∃(p:List (c7×Int)) (a:List (c7×List c7)) (l:List D) (k e:c7),s=[.tup l,.str k,.str e]/\(∀d∈l,aM p a d)/\l.length<=1000/\R (.ref M.length) (M++[.lst<|dJ l k e])
theorem tW:cr cE kP:=by rintro d M R ⟨p,a,l,k,e,rfl,_⟩;rfl
def pF:s9:=bp<|E6 1 [2] (bE<|t7 bi<|aa (ab 0)<|aa (ab 1) af) (ag 0) (ap<|p9 z8 (t7 bc<|aa (ab 0) af)<|ab 1)<|ab 0
theorem uU:z0 cE 3 pF:=by rintro s M R ⟨p,r,o,k,n,rfl,c,g,h⟩;simp only[pF];walk_at"dl";unfold dJ at h;have f:∀d∈kinds o k,aM p r d:=λd q=>c d (A7.mp q).1;have l:(kinds o k).length<=1000:=D4 bA g;refine⟨p,r,o,k,rfl,c,g,?_⟩;generalize kinds o k=F at f l h;refine⟨F,aw,λ_=>?_⟩;refine aQ (λd=>decide<|aC d=n) id (λS=>∃a,S=[a,a7<|.str n]) aw _ _ _ ?_ ⟨_,rfl⟩ (by rw[C2];exact am<|by lia) ?_;rintro d j S ⟨a,rfl⟩;obtain⟨t,z,H,m,x,s,rfl,_⟩:=f d j;refine⟨[a7<|.tup [.int t,.tup [.str z,.int H],.int m,.tup<|.str x::s],a7<|.str n],⟨_,rfl⟩,λY Z b=>?_⟩;walk_at"dl";refine⟨_,_,_,_,rfl,⟨ah,ah⟩,?_⟩;rw[ax];have i:aC (.tup [.int t,.tup [.str z,.int H],.int m,.tup<|.str x::s])=z:=rfl;rw[i]at b;by_cases e:z=n;rw[beq_iff_eq.mpr e];rw[dT_ e]at b;exact bj b;rw[beq_eq_false_iff_ne.mpr e];rw[dF_ e]at b;exact bh b;rw[F4,MR,G7];exact bb.lst h (by simp) (by simp)<|aM.bels (ps:=p) (rs:=r) λd q=>f d (A7.mp q).1
theorem jh(T:Tops P w K mg base):u8 P w K mg base 2 "deeds_by" kP cE:=u8.byD (N:=["log","kind","name"]) T.b T.f_deeds_by (by walk_at"sc") tW (by have:=bW T;have:=cQ T;walk_at"dv") uU
def bQ:w6:=λs M R=>∃(p:List (c7×Int)) (a:List (c7×List c7)) (l:List D) (k e:c7),s=[.tup l,.str k,.str e]/\(∀d∈l,aM p a d)/\l.length<=1000/\(k=AA0 "seen"\/k=AA0 "rung")/\((∀x∈bq l k e,St x)->R (.ref M.length) (M++[.lst<|bq l k e]))
theorem nN:cr bQ fG:=by rintro d M R ⟨p,a,l,k,e,rfl,_⟩;rfl
def jE:s9:=bp<|E6 1 [] (bE<|t7 cE<|aa (ab 0)<|aa (ab 1)<|aa (ab 2) af) (ag 0) xT<|p9 u3 (p9 u3 (ab 0)<|dC<|.int 3)<|dC<|.int 1
theorem oh:z0 bQ 3 jE:=by
 rintro ds M R ⟨ps,u,y,k,v,rfl,f,p,o,h⟩;simp only[jE];walk_at"dl";refine⟨ps,u,y,k,v,rfl,f,p,?_⟩;have s:=ff (log:=y) (k:=k) (name:=v);have i:∀d∈dJ y k v,∃(t:Int) (z:c7) (k n:Int) (x:c7) (m:D),d=.tup [.int t,.tup [.str z,.int k],.int n,.tup [.str x,m]]/\St m:=λd b=>by obtain⟨h1,h2,_⟩:=cJ b;exact vp (f d h1)<|o.imp (λe=>h2.trans e) λe=>h2.trans e
 have T:bq y k v=(dJ y k v).map fe:=rfl;rw[T]at h;generalize dJ y k v=F at s i h;have c:∀x∈F.map fe,St x:=λx r=>by obtain⟨d,b,rfl⟩:=v6.mp r;obtain⟨t,z,k,n,x,m,rfl,hs⟩:=i d b;exact hs
 refine⟨F,aw,λ_=>?_⟩;refine cL fe (λS=>∃a,S=[a]) aw _ _ _ (λd b S c=>?_) ⟨_,rfl⟩ (by rw[C2];exact am<|by lia) ?_;obtain⟨a,rfl⟩:=c;obtain⟨t,z,k,n,x,m,rfl,_⟩:=i d b;refine⟨[a7<|.tup [.int t,.tup [.str z,.int k],.int n,.tup [.str x,m]]],⟨_,rfl⟩,λY l=>?_⟩;walk_at"dl";have g:atI [D.int t,.tup [.str z,.int k],.int n,.tup [.str x,m]] 3=a7 (.tup [.str x,m]):=aF (j:=3) rfl;rw[g];dsimp only;rw[MC];exact l;rw[F4,G7];exact bb.lst (h c) (by simp) (by simp)<|Bels.of λd q=>cO 2 d (c d q).pl
theorem iM(T:Tops P w K mg base):u8 P w K mg base 3 "stamps_told" fG bQ:=u8.byD (N:=["log","kind","name"]) T.b T.f_stamps_told (by walk_at"sc") nN (by have:=jh T;walk_at"dv") oh
def dZ:w6:=λs M R=>∃(p:List (c7×Int)) (a:List (c7×List c7)) (l:List D) (e:c7),s=[.tup l,.str e]/\(∀d∈l,aM p a d)/\(dJ l (AA0 "hush") e).length<64/\l.length<=1000/\∀y:List D,(∀w∈y,eL w)->(∀w,w∈y↔aV (gh l e) w=a7 (.bl a9))->R (.ref M.length) (M++[.lst y])
theorem qN:cr dZ jb:=by rintro d M R ⟨p,a,l,e,rfl,_⟩;rfl
theorem uu(s:List (D×D))(h:p∈dictOf s):p∈s:=by revert h;refine bu (P:=λs=>p∈dictOf s->p∈s) (λh=>h) (λs q i h=>?_) s;rw[bL]at h;rcases ig h with rfl|h;simp;exact L5 _<|i h
theorem nR(l:List (D×D)):((dictOf l).map (·.1)).Nodup:=by refine bu (P:=λl=>((dictOf l).map (·.1)).Nodup) .nil (λl p i=>?_) l;rw[bL];exact qk i
def jG:s9:=bp<|t7 kI<|aa (E6 1 [2] (lV<|ab 2) (ag 0) (ap<|gZ (ab 1)<|ab 0)<|ab 0) af
def mS:s9:=ay (ba (t7 iV<|aa (E6 1 [] (bE<|t7 cE<|aa (ab 0)<|aa (dC<|.str "hush")<|aa (ab 1) af) (ag 0) xT<|dL<|aa (p9 u3 (p9 u3 (ab 0)<|dC<|.int 3)<|dC<|.int 1)<|aa (p9 u3 (p9 u3 (ab 0)<|dC<|.int 3)<|dC<|.int 2) af) af) 2)<|jG
theorem rK:z0 dZ 3 mS:=by
 rintro ds M R ⟨ps,rs,log,name,rfl,v,G,V,h⟩;simp only[mS];walk_at"dl";refine⟨ps,rs,log,AA0 "hush",name,rfl,v,V,?_⟩;have ml:=ff (log:=log) (k:=AA0 "hush") (name:=name);have C:∀d∈dJ log (AA0 "hush") name,∃(t:Int) (z:c7) (k n:Int) (w:D) (b:Bool),d=.tup [.int t,.tup [.str z,.int k],.int n,.tup [.str<|AA0 "hush",w,.bl b]]/\eL w:=λd m=>by obtain⟨h1,h2,_⟩:=cJ m;exact BO (v d h1) h2
 have T:gh log name=dictOf ((dJ log (AA0 "hush") name).map λd=>(fe d,aL d)):=rfl;rw[T]at h;generalize dJ log (AA0 "hush") name=F at ml C h G;refine⟨F,aw,λ_=>?_⟩;refine cL (λd=>.tup [fe d,aL d]) (λS=>∃a,S=[a]) aw _ _ _ (λd m S Q=>?_) ⟨_,rfl⟩ (by rw[C2];exact am<|by lia) ?_;obtain⟨a,rfl⟩:=Q;obtain⟨t,z,k,n,w,b,rfl,_⟩:=C d m;refine⟨[a7<|.tup [.int t,.tup [.str z,.int k],.int n,.tup [.str<|AA0 "hush",w,.bl b]]],⟨_,rfl⟩,λY U=>?_⟩;walk_at"dl";have J:atI [D.int t,.tup [.str z,.int k],.int n,.tup [.str<|AA0 "hush",w,.bl b]] 3=a7 (.tup [.str<|AA0 "hush",w,.bl b]):=aF (j:=3) rfl;rw[J];dsimp only;rw[MC];dsimp only;rw[NQ];exact⟨am (by lia),U⟩;rw[F4];have N:F.map (λd=>D.tup [fe d,aL d])=(F.map λd=>(fe d,aL d)).map λp=>.tup [p.1,p.2]:=by rw[Fn];rfl
 rw[N];have l:∀p∈F.map λd=>(fe d,aL d),eL p.1/\∃b,p.2=.bl b:=λp m=>by obtain⟨d,X,rfl⟩:=v6.mp m;obtain⟨t,z,k,n,w,b,rfl,i⟩:=C d X;exact⟨i,b,rfl⟩
 have pl:(F.map λd=>(fe d,aL d)).length=F.length:=u6 _;generalize (F.map λd=>(fe d,aL d))=qs at h l pl;refine⟨qs,aw,λp m=>?_,by lia,?_⟩;obtain⟨ks,e⟩:=(l p m).1.tup;exact⟨(l p m).1.key,by rw[e];rfl⟩;simp only[jG];walk_at"dl";have I:=nR qs;have A:∀p∈dictOf qs,eL p.1/\∃b,p.2=.bl b:=λp m=>l p<|uu _ m;have W:=da (ps:=qs);generalize dictOf qs=c at h I A W;refine⟨c,ad,λ_=>?_⟩;generalize P:M++[MO.lst F]++[MO.lst<|qs.map λp=>.tup [p.1,p.2]]=B;have pB:M <+: B:=by rw[<-P,G7];exact G3 _ _
 refine aQ (λw=>decide<|aV c w=a7 (.bl a9)) id (λS=>∃a,S=[a,a7<|.ref B.length]) ad _ _ _ ?_ ⟨_,rfl⟩ (by rw[C2,u6];exact am<|by lia) ?_;rintro x m S ⟨a,rfl⟩;obtain⟨q,o,rfl⟩:=v6.mp m;have y:=cR I o;obtain⟨s,b,K⟩:=A q o;refine⟨[a7 q.1,a7<|.ref B.length],⟨_,rfl⟩,λY Z g=>?_⟩;rw[K]at y;rw[y]at g;obtain⟨ks,e⟩:=s.tup;have E:=s.key;rw[e]at g y E ⊢;walk_at"dl";refine⟨c,_,ad,E,y,?_⟩;cases b with
 |true=>rw[dT_ rfl]at g;exact bj g
 |false=>rw[dF_<|by simp]at g;exact bh g
 rw[F4,MR];have m:∀w,w∈(c.map (·.1)).filter (λw=>decide<|aV c w=a7 (.bl a9))↔aV c w=a7 (.bl a9):=λw=>by rw[A7,o6];exact⟨λz=>z.2,λz=>⟨L0 (f:=(·.1))<|bC z,z⟩⟩
 have i:∀w∈(c.map (·.1)).filter (λw=>decide<|aV c w=a7 (.bl a9)),eL w:=λw i=>by obtain⟨p,l,rfl⟩:=v6.mp (A7.mp i).1;exact(A p l).1
 have H:((c.map (·.1)).filter<|λw=>decide<|aV c w=a7 (.bl a9)).length<64:=by have:=L6 (λw=>decide<|aV c w=a7 (.bl a9)) (c.map (·.1));rw[u6]at this;lia
 generalize (c.map (·.1)).filter (λw=>decide<|aV c w=a7 (.bl a9))=L at m i H;refine⟨L,aw,zC i H,λys O hr=>?_⟩;obtain⟨u,rfl⟩:∃u,B=M++u:=by obtain⟨u,e⟩:=pB;exact⟨u,e.symm⟩
 have r:∀w∈ys,eL w:=λw q=>i w<|O.mem_iff.mp q;rw[G7,G7,G7];exact bb.lst (h ys r λw=>O.mem_iff.trans<|m w) (by simp) (by simp)<|Bels.of λd v=>cO 3 d (r d v).pl
theorem tE(T:Tops P w K mg base):u8 P w K mg base 3 "hushes_of" jb dZ:=u8.byD (N:=["log","name","hushes"]) T.b T.f_hushes_of (by walk_at"sc") qN (by have:=jh T;walk_at"dv") rK
def bX:w6:=λd M R=>∃(a b c x r:D) (l:List D),d=[.tup [a,b,c,.tup<|x::r::l]]/\R r M
theorem vW:cr bX nA:=by rintro d M R ⟨a,b,c,x,r,l,rfl,_⟩;rfl
def rX:s9:=bp<|p9 u3 (p9 u3 (ab 0)<|dC<|.int 3)<|dC<|.int 1
theorem ye:z0 bX 1 rX:=by rintro d M R ⟨a,b,c,x,r,l,rfl,h⟩;simp only[rX];walk_at"dl";have e:atI [a,b,c,.tup<|x::r::l] 3=a7 (.tup<|x::r::l):=aF (j:=3) rfl;rw[e];dsimp only;rw[MC];exact bb.now h
theorem kR(T:Tops P w K mg base):u8 P w K mg base 1 "room_of" nA bX:=u8.byD (N:=["say"]) T.b T.f_room_of (by walk_at"sc") vW (by walk_at"dv") ye
def cC:w6:=λd M R=>∃(a b c x r u:D) (l:List D),d=[.tup [a,b,c,.tup<|x::r::u::l]]/\R u M
theorem tQ:cr cC kJ:=by rintro d M R ⟨a,b,c,x,r,u,l,rfl,_⟩;rfl
def oN:s9:=bp<|p9 u3 (p9 u3 (ab 0)<|dC<|.int 3)<|dC<|.int 2
theorem uO:z0 cC 1 oN:=by rintro s M R ⟨a,b,c,x,r,u,l,rfl,h⟩;simp only[oN];walk_at"dl";have d:atI [a,b,c,.tup<|x::r::u::l] 3=a7 (.tup<|x::r::u::l):=aF (j:=3) rfl;have e:atI (x::r::u::l) 2=a7 u:=aF (j:=2) rfl;rw[d];dsimp only;rw[e];exact bb.now h
theorem jf(T:Tops P w K mg base):u8 P w K mg base 1 "under_of" kJ cC:=u8.byD (N:=["say"]) T.b T.f_under_of (by walk_at"sc") tQ (by walk_at"dv") uO
def eD:w6:=λc M R=>∃(b:List (c7×Int)) (a:List (c7×List c7)) (d:D) (q:Nat) (s:List (D×D)),c=[az b a,d,.ref q]/\aM b a d/\aU d=AA0 "say"/\M[q]?=a7 (.dkt s)/\(∀p∈s,aM b a p.2/\aU p.2=AA0 "say")/\R (.bl<|iG a s d) M
theorem qP:cr eD jd:=by rintro b M R ⟨p,a,d,q,s,rfl,_⟩;rfl
def jM:s9:=bp<|Jc (p9 O7 (ab 3)<|dC .non)<|uy (p9 IY (ab 3)<|ab 2)<|p9 z8 (t7 bX<|aa (gZ (ab 2)<|ab 3) af)<|t7 bX<|aa (ab 1) af
def jN:s9:=ay (ba (t7 cC<|aa (ab 1) af) 3)<|jM
def mW:s9:=ay (z6 (ap<|p9 ka (t7 bc<|aa (ab 1) af)<|t7 cZ<|aa (ab 0)<|aa (t7 bX<|aa (ab 1) af) af) (bp<|dC<|.bl c5) aY)<|jN
theorem rN:z0 eD 4 mW:=by
 rintro ds M R ⟨ps,b,d,q,a,rfl,p,w,j,y,h⟩;obtain⟨t,z,k,m,r,u,s,rfl,_,_,x,g⟩:=cH p w;simp only[mW];walk_at"dl";refine⟨_,_,_,_,rfl,_,_,_,_,_,_,rfl,ps,b,r,rfl,x,⟨ah,kE⟩,?_⟩;rw[kZ];have n:iG b a (.tup [.int t,.tup [.str z,.int k],.int m,.tup [.str<|AA0 "say",.str r,u,.str s]])=(decide (z∈nX b r)&&(decide (u=.non)||match aV a u with
  |some e=>decide<|au e=r
  |none=>c5)):=rfl
 rw[n]at h;by_cases i:z∈nX b r;rw[dT_ i]at h ⊢;refine bh ?_;simp only[jN,jM];walk_at"dl";refine⟨_,_,_,_,_,u,_,rfl,?_⟩;rcases g with rfl|g;walk_at"dl";refine bb.now ?_;simpa using h;obtain⟨t',G,H,rfl⟩:=g;rw[dF_<|by intro e;cases e]at h;walk_at"dl";refine⟨a,j,rfl,?_⟩;cases S:aV a (.tup [.int t',.tup [.str G,.int H]]) with
 |none=>rw[S]at h;exact bh<|bb.now h
 |some e =>
  rw[S]at h;obtain⟨v,c⟩:=y _<|bC S;obtain⟨D,E,B,A,f,L,C,l,_⟩:=cH v c;dsimp only at l;subst l;refine bj ⟨a,_,j,rfl,S,_,_,_,_,_,_,rfl,_,_,_,_,_,_,rfl,⟨ah,ah⟩,?_⟩;rw[ax];refine bb.now ?_;have o:(f==r)=decide (f=r):=by by_cases e:f=r;rw[dT_ e];exact beq_iff_eq.mpr e;rw[dF_ e];exact beq_eq_false_iff_ne.mpr e
  rw[o];exact h
 rw[dF_ i]at h ⊢;exact bj<|bb.now h
theorem tH(T:Tops P w K mg base):u8 P w K mg base 2 "can_stand" jd eD:=u8.byD (N:=["house","say","elders","under"]) T.b T.f_can_stand (by walk_at"sc") qP (by have:=qA T;have:=bW T;have:=kR T;have:=jf T;walk_at"dv") rN
def bn:w6:=λs M R=>∃(p:List (c7×Int)) (a:List (c7×List c7)) (l:List D),s=[az p a,.tup l]/\(∀d∈l,aM p a d)/\l.length<=1000/\∀n B,M <+: B->B[n]?=a7 (.dkt<|ak a l)->R (.ref n) B
theorem jn:cr bn cy:=by rintro d M R ⟨p,a,l,rfl,_⟩;rfl
theorem mv(h:∀d∈b,aM s r d)(g:∀d∈l,d∈kinds b (AA0 "say"))(t:TabK l k):∀p∈k,aM s r p.2/\aU p.2=AA0 "say":=λp a=>by obtain⟨h1,h2⟩:=aq<|g _ (t.en p a).2;exact⟨h _ h1,h2⟩
def du:s9:=bp<|ab 2
def dw:s9:=ay (kt (bE<|t7 bi<|aa (ab 1)<|aa (dC<|.str "say") af) (ag 3)<|z6 (ap<|t7 eD<|aa (ab 0)<|aa (ab 3)<|aa (ab 2) af) (qY (ab 2) (t7 cD<|aa (ab 3) af)<|ab 3) aY)<|du
def eS:s9:=ay (ba (re) 2)<|dw
theorem jA:z0 bn 4 eS:=by
 rintro ds M R ⟨ps,rs,log,rfl,c,o,h⟩;simp only[eS,dw];walk_at"dl";refine⟨ps,rs,log,_,rfl,c,o,?_⟩;have r:=bA (log:=log) (k:=AA0 "say");have m:∀d∈kinds log (AA0 "say"),aM ps rs d/\aU d=AA0 "say":=λd q=>⟨c d (aq q).1,(aq q).2⟩
 have f:aE rs (kinds log<|AA0 "say")=ak rs log:=rfl;generalize A:kinds log (AA0 "say")=K at r m f;refine⟨K,aw,λ_=>?_⟩;refine aT (λi S b=>∃a,b=M++[.dkt<|aE rs<|K.take i,.lst K]/\S=[a7<|az ps rs,a7<|.tup log,a7<|.ref M.length,a]) ?_ ?_ ⟨_,by simp[aE],rfl⟩;rintro S b ⟨a,rfl,rfl⟩;rw[K9,f];refine⟨.inl ?_,?_⟩;have:(M++[MO.dkt []]).length=M.length+1:=by simp
 rw[this];exact xL;simp only[du];walk_at"dl";exact .inl<|h _ _ (G3 _ _) lc;rintro i y S b O ⟨a,rfl,rfl⟩ G l;have p:=D2 O;have n:K.take (i+1)=K.take i++[y]:=by rw[Mh,O];rfl
 rw[n,dG]at l;have g:=fh (rs:=rs)<|K.take i;have v:=mv c (λd q=>A ▸ P2 q) g;have j:=g.len;rw[F5]at j;generalize aE rs (K.take i)=s at l v j;obtain⟨e,u⟩:=m y p;refine⟨.inl ?_,?_⟩;have:(M++[MO.dkt []]).length=M.length+1:=by simp
 rw[this];exact xL;walk_at"dl";refine⟨ps,rs,y,_,s,rfl,e,u,lc,v,?_⟩;unfold vn at l;cases hs:iG rs s y with
 |true=>rw[hs,n9 rfl]at l;refine bj ?_;obtain⟨t,z,k,w,x,ds,rfl,_⟩:=e;refine⟨_,_,_,rfl,s,lc,rfl,aH (by lia),?_⟩;rw[iT];exact x5.now<|l _ _ ⟨_,rfl,rfl⟩
 |false=>rw[hs,o0<|by decide]at l;exact bh<|x5.now<|l _ _ ⟨_,rfl,rfl⟩
theorem dR(T:Tops P w K mg base):u8 P w K mg base 3 "says_that_count" cy bn:=u8.byD (N:=["house","log","says","deed"]) T.b T.f_says_that_count (by walk_at"sc") jn (by have:=jg T;have:=cQ T;have:=tH T;walk_at"dv") jA
def cq:w6:=λd M R=>∃(t:Int) (z:c7) (k n:Int) (x m:D) (l:List D) (q:Nat) (s:List (D×D)),d=[.tup [.int t,.tup [.str z,.int k],.int n,.tup<|x::m::l],.ref q]/\St m/\M[q]?=a7 (.dkt s)/\(∀p∈s,Pj p.2)/\R (.bl<|J2 s<|.tup [.int t,.tup [.str z,.int k],.int n,.tup<|x::m::l]) M
theorem mf:cr cq eJ:=by rintro d M R ⟨t,z,k,n,x,m,l,q,s,rfl,_⟩;rfl
def fW:s9:=bp<|uy (p9 IY (ab 2)<|ab 1)<|p9 z8 (t7 bc<|aa (ab 0) af)<|t7 bc<|aa (gZ (ab 1)<|ab 2) af
def iE:s9:=ay (ba (p9 u3 (p9 u3 (ab 0)<|dC<|.int 3)<|dC<|.int 1) 2)<|fW
theorem mG:z0 cq 3 iE:=by
 rintro i M R ⟨t,z,k,n,x,m,l,q,s,rfl,f,b,v,h⟩;simp only[iE,fW];obtain⟨t',G,H,rfl⟩:=f;walk_at"dl";have c:atI [D.int t,.tup [.str z,.int k],.int n,.tup<|x::.tup [.int t',.tup [.str G,.int H]]::l] 3=a7 (.tup<|x::.tup [.int t',.tup [.str G,.int H]]::l):=aF (j:=3) rfl;rw[c];dsimp only;rw[MC];refine⟨s,b,rfl,?_⟩;have d:J2 s (.tup [.int t,.tup [.str z,.int k],.int n,.tup<|x::.tup [.int t',.tup [.str G,.int H]]::l])=match aV s (.tup [.int t',.tup [.str G,.int H]]) with
  |some e=>decide<|z=aC e
  |none=>c5:=rfl
 rw[d]at h;cases S:aV s (.tup [.int t',.tup [.str G,.int H]]) with
 |none=>rw[S]at h;exact bh<|bb.now h
 |some e =>
  rw[S]at h;obtain⟨a,y,r,g,rfl⟩:=v _<|bC S;refine bj ⟨_,_,_,_,rfl,s,_,b,rfl,S,_,_,_,_,rfl,⟨ah,ah⟩,?_⟩;rw[ax];refine bb.now ?_;have o:(z==y)=decide (z=y):=by by_cases e:z=y;rw[dT_ e];exact beq_iff_eq.mpr e;rw[dF_ e];exact beq_eq_false_iff_ne.mpr e
  rw[o];exact h
theorem nH(T:Tops P w K mg base):u8 P w K mg base 2 "is_by_writer" eJ cq:=u8.byD (N:=["deed","says","message"]) T.b T.f_is_by_writer (by walk_at"sc") mf (by have:=bW T;walk_at"dv") mG
def bP:w6:=λc M R=>∃(b:List (c7×Int)) (a:List (c7×List c7)) (l:List D) (k:c7) (q:Nat) (s:List (D×D)),c=[.tup l,.str k,.ref q]/\(∀d∈l,aM b a d)/\l.length<=1000/\(k=AA0 "change"\/k=AA0 "back")/\M[q]?=a7 (.dkt s)/\(∀p∈s,Pj p.2)/\R (.ref M.length) (M++[.lst<|(kinds l k).filter<|J2 s])
theorem nM:cr bP fF:=by rintro d M R ⟨p,a,l,k,q,s,rfl,_⟩;rfl
theorem Kx(h:aM p r d)(e:aU d=k)(b:k=AA0 "change"\/k=AA0 "back"):∃(t:Int) (z:c7) (k num:Int) (x m:D) (l:List D),d=.tup [.int t,.tup [.str z,.int k],.int num,.tup<|x::m::l]/\St m:=by rcases b with rfl|rfl;obtain⟨t,z,k,num,m,s,rfl,a⟩:=fi h e;exact⟨t,z,k,num,_,m,_,rfl,a⟩;obtain⟨t,z,k,num,m,rfl,a⟩:=wu h e;exact⟨t,z,k,num,_,m,_,rfl,a⟩
def jD:s9:=bp<|E6 1 [2] (bE<|t7 bi<|aa (ab 0)<|aa (ab 1) af) (ag 0) (ap<|t7 cq<|aa (ab 0)<|aa (ab 1) af)<|ab 0
theorem nZ:z0 bP 3 jD:=by
 rintro ds M R ⟨r,u,p,k,q,s,rfl,c,g,f,j,v,h⟩;simp only[jD];walk_at"dl";refine⟨r,u,p,k,rfl,c,g,_,aw,λ_=>?_⟩;have o:=bA (log:=p) (k:=k);refine aQ (J2 s) id (λS=>∃a,S=[a,a7<|.ref q]) aw _ _ _ ?_ ⟨_,rfl⟩ (by rw[C2];exact am<|by lia) ?_;rintro d i S ⟨a,rfl⟩;obtain⟨h1,h2⟩:=aq i;obtain⟨t,z,H,n,x,m,l,rfl,y⟩:=Kx (c d h1) h2 f;refine⟨[a7<|.tup [.int t,.tup [.str z,.int H],.int n,.tup<|x::m::l],a7<|.ref q],⟨_,rfl⟩,λY Z b=>?_⟩;walk_at"dl";refine⟨t,z,H,n,x,m,l,q,s,rfl,y,ac j,v,?_⟩;cases e:J2 s (.tup [.int t,.tup [.str z,.int H],.int n,.tup<|x::m::l]) with
 |true=>rw[e]at b;exact bj b
 |false=>rw[e]at b;exact bh b
 rw[F4,MR,G7];exact bb.lst h (by simp) (by simp)<|aM.bels (ps:=r) (rs:=u) λd m=>c d (aq (A7.mp m).1).1
theorem iL(T:Tops P w K mg base):u8 P w K mg base 3 "writers_own" fF bP:=u8.byD (N:=["log","kind","says"]) T.b T.f_writers_own (by walk_at"sc") nM (by have:=cQ T;have:=nH T;walk_at"dv") nZ
def ck:w6:=λc M R=>∃(b:List (c7×Int)) (a:List (c7×List c7)) (l:List D) (q:Nat) (s:List (D×D)),c=[.tup l,.ref q]/\(∀d∈l,aM b a d)/\l.length<=1000/\M[q]?=a7 (.dkt s)/\(∀p∈s,Pj p.2)/\∀n B,M <+: B->B[n]?=a7 (.dkt<|aN s l)->R (.ref n) B
theorem me:cr ck eI:=by rintro d M R ⟨p,a,l,q,s,rfl,_⟩;rfl
theorem pT(s:List (D×D))(h:p∈dictOf s):p∈s:=by revert h;refine bu (P:=λs=>p∈dictOf s->p∈s) (λh=>h) (λs q i h=>?_) s;rw[bL]at h;rcases ig h with rfl|h;simp;exact L5 _<|i h
theorem nT(h:∀d∈l,aM e r d):∀p∈aN c l,∃s,p.2=.str s:=λp b=>by obtain⟨d,a,rfl⟩:=v6.mp<|pT _ b;obtain⟨h1,h2⟩:=aq (A7.mp a).1;obtain⟨t,z,k,n,m,s,rfl,f⟩:=fi (h d h1) h2;exact⟨s,rfl⟩
def iD:s9:=bp<|t7 iV<|aa (E6 1 [] (bE<|t7 bP<|aa (ab 0)<|aa (dC<|.str "change")<|aa (ab 1) af) (ag 0) xT<|dL<|aa (p9 u3 (p9 u3 (ab 0)<|dC<|.int 3)<|dC<|.int 1)<|aa (p9 u3 (p9 u3 (ab 0)<|dC<|.int 3)<|dC<|.int 2) af) af
theorem mF:z0 ck 2 iD:=by
 rintro ds M R ⟨ps,B,log,q,b,rfl,i,w,x,y,h⟩;simp only[iD];walk_at"dl";refine⟨ps,B,log,_,q,b,rfl,i,w,.inl rfl,x,y,_,aw,λ_=>?_⟩;have C:=bA (log:=log) (k:=AA0 "change");have r:=L6 (J2 b)<|kinds log<|AA0 "change";have f:∀d∈(kinds log<|AA0 "change").filter (J2 b),∃(t:Int) (z:c7) (k n:Int) (m:D) (s:c7),d=.tup [.int t,.tup [.str z,.int k],.int n,.tup [.str<|AA0 "change",m,.str s]]/\St m:=λd m=>by obtain⟨h1,h2⟩:=aq (A7.mp m).1;exact fi (i d h1) h2
 have g:dictOf (((kinds log<|AA0 "change").filter<|J2 b).map λd=>(fe d,aL d))=aN b log:=rfl;generalize (kinds log<|AA0 "change").filter (J2 b)=F at r f g;refine cL (λd=>.tup [fe d,aL d]) (λS=>∃a,S=[a]) aw _ _ _ (λd c S u=>?_) ⟨_,rfl⟩ (by rw[C2];exact am<|by lia) ?_;obtain⟨a,rfl⟩:=u;obtain⟨t,z,k,n,m,s,rfl,_⟩:=f d c;refine⟨[a7<|.tup [.int t,.tup [.str z,.int k],.int n,.tup [.str<|AA0 "change",m,.str s]]],⟨_,rfl⟩,λY v=>?_⟩;walk_at"dl";have l:atI [D.int t,.tup [.str z,.int k],.int n,.tup [.str<|AA0 "change",m,.str s]] 3=a7 (.tup [.str<|AA0 "change",m,.str s]):=aF (j:=3) rfl;rw[l];dsimp only;rw[MC];dsimp only;rw[NQ];exact⟨am (by lia),v⟩;rw[F4];have o:F.map (λd=>D.tup [fe d,aL d])=(F.map λd=>(fe d,aL d)).map λp=>.tup [p.1,p.2]:=by rw[Fn];rfl
 rw[o];refine⟨F.map λd=>(fe d,aL d),aw,λp c=>?_,by rw[u6];lia,?_⟩;obtain⟨d,A,rfl⟩:=v6.mp c;obtain⟨t,z,k,n,m,s,rfl,hs⟩:=f d A;obtain⟨E,e⟩:=hs.tup;exact⟨hs.key,by show fY m=a9;rw[e];rfl⟩;rw[g];exact .inl<|h _ _ ((cG.trans cG).trans cG) ad
theorem nG(T:Tops P w K mg base):u8 P w K mg base 4 "last_changes" eI ck:=u8.byD (N:=["log","says"]) T.b T.f_last_changes (by walk_at"sc") me (by have:=iL T;walk_at"dv") mF
def bx:w6:=λe M R=>∃(c:List (c7×Int)) (r:List (c7×List c7)) (l:List D) (q:Nat) (s:List (D×D)),e=[.tup l,.ref q]/\(∀d∈l,aM c r d)/\l.length<64/\M[q]?=a7 (.dkt s)/\(∀p∈s,Pj p.2)/\∀y,(∀x∈y,St x)->(∀x,x∈y↔iR s l x)->y.Nodup->(y.Pairwise λa b=>¬y4 t5 b<y4 t5 a)->R (.ref M.length) (M++[.lst y])
theorem gU:cr bx bT:=by rintro d M R ⟨p,a,l,q,s,rfl,_⟩;rfl
def dq:s9:=bp<|ko<|E6 1 [] (bE<|t7 bP<|aa (ab 0)<|aa (dC<|.str "back")<|aa (ab 1) af) (ag 0) xT<|p9 u3 (p9 u3 (ab 0)<|dC<|.int 3)<|dC<|.int 1
theorem iu:z0 bx 2 dq:=by
 rintro ds M R ⟨ps,G,log,q,s,rfl,o,I,y,B,h⟩;simp only[dq];walk_at"dl";refine⟨ps,G,log,_,q,s,rfl,o,by lia,.inr rfl,y,B,_,aw,λ_=>?_⟩;have K:=bA (log:=log) (k:=AA0 "back");have u:=L6 (J2 s)<|kinds log<|AA0 "back";have l:∀d∈(kinds log<|AA0 "back").filter (J2 s),∃(t:Int) (z:c7) (k n:Int) (m:D),d=.tup [.int t,.tup [.str z,.int k],.int n,.tup [.str<|AA0 "back",m]]/\St m:=λd m=>by obtain⟨h1,h2⟩:=aq (A7.mp m).1;exact wu (o d h1) h2
 have g:∀x,x∈((kinds log<|AA0 "back").filter<|J2 s).map fe↔iR s log x:=λx=>by constructor;intro f;obtain⟨d,m,rfl⟩:=v6.mp f;exact⟨d,(A7.mp m).1,(A7.mp m).2,rfl⟩;rintro⟨d,h1,h2,rfl⟩;exact L0<|A7.mpr ⟨h1,h2⟩
 generalize (kinds log<|AA0 "back").filter (J2 s)=F at u l g;refine cL fe (λS=>∃a,S=[a]) aw _ _ _ (λd i S v=>?_) ⟨_,rfl⟩ (by rw[C2];exact am<|by lia) ?_;obtain⟨a,rfl⟩:=v;obtain⟨t,z,k,n,m,rfl,_⟩:=l d i;refine⟨[a7<|.tup [.int t,.tup [.str z,.int k],.int n,.tup [.str<|AA0 "back",m]]],⟨_,rfl⟩,λY w=>?_⟩;walk_at"dl";have r:atI [D.int t,.tup [.str z,.int k],.int n,.tup [.str<|AA0 "back",m]] 3=a7 (.tup [.str<|AA0 "back",m]):=aF (j:=3) rfl;rw[r];dsimp only;rw[MC];exact w;rw[F4];have hs:∀x∈F.map fe,St x:=λx f=>by obtain⟨d,i,rfl⟩:=v6.mp f;obtain⟨t,z,k,n,m,rfl,hs⟩:=l d i;exact hs
 refine⟨8,_,u7 _,.inl ⟨_,rfl,aw⟩,by rw[u6];lia,λx f=>?_,vm hs (by rw[u6];lia),λys C O A=>?_⟩;obtain⟨L,e⟩:=(hs x f).tup;exact⟨(hs x f).key,by rw[e];rfl⟩;have c:∀x∈ys,St x:=λx f=>hs x<|(O x).mp f;rw[G7,G7];have H:ys.Pairwise λa b=>¬y4 t5 b<y4 t5 a:=(Rn.mp A).imp λ{a b} ⟨ha,g,q⟩=>by
  have p:=c a ha;have T:=c b g;have J:A6 t5 a=a9:=by obtain⟨t,z,k,e⟩:=p;rw[e];rfl
  have E:A6 t5 b=a9:=by obtain⟨t,z,k,e⟩:=T;rw[e];rfl
  rw[qE E J<|T.cm p]at q;exact of_decide_eq_false q
 exact bb.lst (h ys c (λx=>(O x).trans<|g x) C H) (by simp) (by simp)<|Bels.of λd m=>cO 2 d (c d m).pl
theorem ix(T:Tops P w K mg base):u8 P w K mg base 4 "stamps_taken_back" bT bx:=u8.byD (N:=["log","says"]) T.b T.f_stamps_taken_back (by walk_at"sc") gU (by have:=iL T;walk_at"dv") iu
def cY:w6:=λs M R=>∃(p:List (c7×Int)) (a:List (c7×List c7)) (d:D) (q:Nat) (c:List (D×D)),s=[d,.ref q]/\aM p a d/\aU d=AA0 "say"/\M[q]?=a7 (.dkt c)/\R (zr c d) M
theorem ou:cr cY gQ:=by rintro s M R ⟨p,a,d,q,c,rfl,_⟩;rfl
def iB:s9:=bp<|dL<|aa (ab 2)<|aa (t7 bX<|aa (ab 0) af)<|aa (t7 cC<|aa (ab 0) af)<|aa (t7 bc<|aa (ab 0) af)<|aa (ab 3)<|aa (p9 IY (ab 2)<|ab 1) af
def iC:s9:=ay (ba (ND iI (ab 1)<|aa (ab 2)<|aa (p9 u3 (p9 u3 (ab 0)<|dC<|.int 3)<|dC<|.int 3) af) 3)<|iB
def lH:s9:=ay (ba (t7 cD<|aa (ab 0) af) 2)<|iC
theorem pX:z0 cY 4 lH:=by rintro i M R ⟨p,g,d,q,c,rfl,b,f,a,h⟩;obtain⟨t,z,k,m,r,u,s,rfl,_⟩:=cH b f;simp only[lH,iC];walk_at"dl";refine⟨_,_,_,rfl,⟨_,a⟩,?_⟩;have e:atI [D.int t,.tup [.str z,.int k],.int m,.tup [.str<|AA0 "say",.str r,u,.str s]] 3=a7 (.tup [.str<|AA0 "say",.str r,u,.str s]):=aF (j:=3) rfl;have I:atI [.str<|AA0 "say",.str r,u,.str s] 3=a7 (.str s):=aF (j:=3) rfl;rw[e];dsimp only;rw[I];refine⟨c,a,rfl,?_⟩;simp only[iB];walk_at"dl";refine⟨_,_,_,_,_,_,rfl,_,_,_,_,_,_,_,rfl,_,_,_,_,rfl,c,a,rfl,am (by lia),bb.now h⟩
theorem qz(T:Tops P w K mg base):u8 P w K mg base 2 "message_of" gQ cY:=u8.byD (N:=["say","changes","stamp","saying"]) T.b T.f_message_of (by walk_at"sc") ou (by have:=jg T;have:=bW T;have:=kR T;have:=jf T;walk_at"dv") pX
def cX:w6:=λs M R=>∃(p:List (c7×Int)) (a:List (c7×List c7)) (l:List D),s=[az p a,.tup l]/\(∀d∈l,aM p a d)/\l.length<64/\∀n B,M <+: B->B[n]?=a7 (.dkt<|aJ a l)->R (.ref n) B
theorem oq:cr cX gP:=by rintro d M R ⟨p,a,l,rfl,_⟩;rfl
theorem lJ{M:t8}{l:List D}(h:∀x∈l,St x):l.all (u5 M t5)=a9:=E5.mpr λx a=>(h x a).ok
theorem pP(a:St x)(h:∀x∈l,St x):Mj M x l=decide (x∈l):=by unfold Mj;by_cases d:x∈l;rw[dT_ d];exact L4.mpr ⟨x,d,by rw[show t5=28+2 from rfl,a.eq a];exact dT_ rfl⟩;rw[dF_ d];refine My.mpr λz=>?_;obtain⟨y,O,e⟩:=L4.mp z;rw[show t5=28+2 from rfl,(h y O).eq a]at e;exact d<|oT_ e ▸ O
def iz:s9:=bp<|t7 iV<|aa (E6 1 [2,3] (lV<|ab 2) (ag 0) (ap<|p9 ka (ab 0)<|ab 2)<|dL<|aa (ab 0)<|aa (gZ (ab 1)<|ab 0) af) af
def iA:s9:=ay (ba (t7 bx<|aa (ab 1)<|aa (ab 2) af) 3)<|iz
def lr:s9:=ay (ba (t7 bn<|aa (ab 0)<|aa (ab 1) af) 2)<|iA
theorem pW:z0 cX 4 lr:=by
 rintro ds M R ⟨ps,rs,log,rfl,o,F,h⟩;simp only[lr];walk_at"dl";refine⟨ps,rs,log,rfl,o,by lia,λn B H m=>?_⟩;have t:=bd (rs:=rs) (log:=log);have J:=bA (log:=log) (k:=AA0 "say");have v:=mv o (λ_ q=>q) t;have I:=t.len;have l:=t.nd;have w:=t.en;have g:aJ rs log=(ak rs log).filter λp=>@decide (¬iR (ak rs log) log p.1) (F9 _):=rfl;rw[g]at h;clear g;generalize ak rs log=s at h t I v l w m;simp only[iA];walk_at"dl";refine⟨ps,rs,log,n,s,rfl,o,F,m,λp c=>(v p c).1.nm,λys hs O _ _=>?_⟩;simp only[iz];walk_at"dl";have f:(B++[MO.lst ys])[n]?=a7 (.dkt s):=ac m;refine⟨s,f,λ_=>?_⟩;have sp:∀p∈s,St p.1:=λp c=>by rw[(w p c).1];exact(v p c).1.st
 refine aQ (λk=>decide<|k∉ys) (λk=>.tup [k,(aV s k).getD .non]) (λS=>∃a,S=[a,a7<|.ref n,a7<|.ref B.length]) f _ _ _ ?_ ⟨_,rfl⟩ (by rw[C2,u6];exact am<|by lia) ?_;rintro x G S ⟨a,rfl⟩;obtain⟨p,c,rfl⟩:=v6.mp G;have d:=sp p c;have r:=cR l c;refine⟨[a7 p.1,a7<|.ref n,a7<|.ref B.length],⟨_,rfl⟩,λY Z b=>?_⟩;rw[r]at b;obtain⟨A,e⟩:=d.tup;have y:=d.key;rw[e]at b r y d ⊢;walk_at"dl";refine⟨ys,aw,⟨d.ok,lJ hs⟩,?_⟩;rw[pP d hs];by_cases j:D.tup A∈ys;rw[dT_ j];rw[dF_<|λz=>z j]at b;exact bh b;rw[dF_ j];rw[dT_ j,n9 rfl]at b;exact bj ⟨s,_,f,y,r,am (by lia),b⟩;rw[F4];have E:((s.map (·.1)).filter λk=>decide<|k∉ys).map (λk=>D.tup [k,(aV s k).getD .non])=(s.filter λp=>decide<|p.1∉ys).map λp=>.tup [p.1,p.2]:=by rw[PC,Fn];refine Rl λp c=>?_;show D.tup [p.1,(aV s p.1).getD .non]=_;rw[cR l (A7.mp c).1];rfl
 rw[E];have u:((s.filter λp=>decide<|p.1∉ys).map (·.1)).Nodup:=(QI.map _).nodup l;refine⟨_,aw,λp c=>?_,?_,?_⟩;have d:=sp p (A7.mp c).1;obtain⟨A,e⟩:=d.tup;exact⟨d.key,by rw[e];rfl⟩;have:=L6 (λp:D×D=>decide<|p.1∉ys) s;lia;rw[ut _ u];refine .inl<|h _ _ (((H.trans cG).trans cG).trans cG) ?_;have C:(s.filter λp=>decide<|p.1∉ys)=s.filter λp=>@decide (¬iR s log p.1) (F9 _):=PN λp _=>by by_cases i:iR s log p.1;rw[dF_<|show ¬¬p.1∈ys from λz=>z<|(O _).mpr i,@decide_eq_false _ (F9 _)<|λz=>z i];rw[dT_<|show ¬p.1∈ys from λz=>i<|(O _).mp z,@decide_eq_true _ (F9 _) i]
 rw[<-C];exact ad
theorem qy(T:Tops P w K mg base):u8 P w K mg base 5 "says_shown" gP cX:=u8.byD (N:=["house","log","says","backs"]) T.b T.f_says_shown (by walk_at"sc") oq (by have:=dR T;have:=ix T;walk_at"dv") pW
def bG:w6:=λs M R=>∃(p:List (c7×Int)) (a:List (c7×List c7)) (l:List D) (e:c7),s=[.tup l,.str e]/\(∀d∈l,aM p a d)/\l.length<1000/\∀n B c,M <+: B->VbAt B n c (oi l e)->R (.ref n) B
theorem jk:cr bG cw:=by rintro d M R ⟨p,a,l,e,rfl,_⟩;rfl
def db:s9:=bp<|ab 2
def df:s9:=ay (kt (bE<|t7 cE<|aa (ab 0)<|aa (dC<|.str "read")<|aa (ab 1) af) (ag 3)<|gj<|K3 bF (Pc xy (ab 2)<|aa (p9 u3 (p9 u3 (ab 3)<|dC<|.int 3)<|dC<|.int 1)<|aa (iP af) af)<|aa (p9 u3 (p9 u3 (ab 3)<|dC<|.int 3)<|dC<|.int 2) af)<|db
def eN:s9:=ay (ba (EW) 2)<|df
theorem jy:z0 bG 4 eN:=by
 rintro ds M R ⟨ps,Y,log,name,rfl,b,Z,h⟩;simp only[eN,df];walk_at"dl";refine⟨ps,Y,log,AA0 "read",name,rfl,b,by lia,?_⟩;have X:=ff (log:=log) (k:=AA0 "read") (name:=name);have K:∀d∈dJ log (AA0 "read") name,∃(t:Int) (z:c7) (k n:Int) (r:c7) (hs:List (D×Int)),d=.tup [.int t,.tup [.str z,.int k],.int n,.tup [.str<|AA0 "read",.str r,.tup<|kC hs]]:=λd P=>by obtain⟨h1,h2,_⟩:=cJ P;obtain⟨t,z,k,n,r,hs,e,_⟩:=vA (b d h1) h2;exact⟨t,z,k,n,r,hs,e⟩
 have V:oi log name=λr=>((dJ log (AA0 "read") name).filter λd=>decide<|au d=r).map aL:=rfl;rw[V]at h;generalize dJ log (AA0 "read") name=F at X K h;have l:(M++[MO.dct []]).length=M.length+1:=by simp
 have J:(M++[MO.dct []]++[MO.lst F])[M.length+1]?=a7 (.lst F):=by rw[<-l];exact ad
 rw[l];refine⟨F,.inl J,λ_=>?_⟩;refine aT (λi S f=>∃(c:List (c7×D)) (a:Option D),M <+: f/\f[M.length+1]?=a7 (.lst F)/\VbAt f M.length c (λr=>((F.take i).filter λd=>decide<|au d=r).map aL)/\c.length<=i/\S=[a7<|.tup log,a7<|.str name,a7<|.ref M.length,a]) ?_ ?_ ⟨[],_,cG.trans cG,J,⟨ac ad,λk d z=>(by cases z),λk _=>rfl,λ_ _ _ z=>(by cases z)⟩,u7 _,rfl⟩;rintro S f ⟨c,a,pM,p,tr,_,rfl⟩;rw[K9]at tr;refine⟨.inl p,?_⟩;simp only[db];walk_at"dl";exact .inl<|h _ _ _ pM tr;rintro i y S f O ⟨c,a,pM,p,tr,tl,rfl⟩ G x;have L:F.take (i+1)=F.take i++[y]:=by rw[Mh,O];rfl
 rw[L]at x;have hi:=(x9.mp O).1;obtain⟨t,z,k,n,r,hs,rfl⟩:=K y<|D2 O;have E:∀k,(((F.take i).filter λd=>decide<|au d=k).map aL).length<=i:=λk=>by rw[u6];refine D4 (L6 _ _) ?_;rw[F5];lia
 generalize q:(λH=>(((F.take i++[D.tup [.int t,.tup [.str z,.int k],.int n,.tup [.str<|AA0 "read",.str r,.tup<|kC hs]]]).filter λd=>decide<|au d=H).map aL))=N at x;have v:∀H,N H=if r=H then(((F.take i).filter λd=>decide<|au d=H).map aL)++[.tup<|kC hs]else(((F.take i).filter λd=>decide<|au d=H).map aL):=λH=>by rw[<-q];dsimp only;rw[NM,F0,Np,List.filter_nil];by_cases e:r=H;rw[n9 e,show decide (au (.tup [.int t,.tup [.str z,.int k],.int n,.tup [.str<|AA0 "read",.str r,.tup<|kC hs]])=H)=a9 from dT_ e];rfl;rw[o0 e,show decide (au (.tup [.int t,.tup [.str z,.int k],.int n,.tup [.str<|AA0 "read",.str r,.tup<|kC hs]])=H)=c5 from dF_ e];exact G2 _
 clear q;refine⟨.inl p,?_⟩;walk_at"dl";have I:atI [D.int t,.tup [.str z,.int k],.int n,.tup [.str<|AA0 "read",.str r,.tup<|kC hs]] 3=a7 (.tup [.str<|AA0 "read",.str r,.tup<|kC hs]):=aF (j:=3) rfl;rw[I];dsimp only;rw[NQ];dsimp only;show (∃kvs,f[M.length]?=a7 (MO.dct kvs))/\_;refine⟨⟨_,tr.at_⟩,?_⟩;walk_at"dl";rw[I];dsimp only;rw[MC];dsimp only;refine⟨z5 _,c,ac tr.at_,aH (by lia),λy O=>?_,λQ=>?_⟩;obtain⟨m,rfl,nm,C⟩:=tr.got r y O;refine⟨⟨_,.inl<|ac C⟩,_,ac C,aH (by have:=E r;lia),x5.now<|x _ _ ⟨c,_,bJ (pM.trans cG) (by lia),ar (by lia)<|ac p,⟨ar (by lia)<|ac tr.at_,λH d b=>?_,λH b=>?_,tr.one⟩,by lia,rfl⟩⟩;obtain⟨s,rfl,o,g⟩:=tr.got H d b;refine⟨s,rfl,o,?_⟩;rw[v];by_cases e:r=H;subst e;rw[O]at b;obtain rfl:m=s:=by injection b with b;injection b
 rw[bK<|ac C,n9 rfl];rw[o0 e];exact ar (λz=>e<|tr.one _ _ _ (z ▸ O) b)<|ac g;have e:r≠H:=λz=>by rw[<-z,O]at b;cases b
 rw[v,o0 e];exact tr.no H b;have W:M.length+1<f.length:=aX p;have A:((f++[MO.lst []]).set M.length<|.dct<|nq c r<|.ref f.length)[f.length]?=a7 (.lst []):=ar (by lia) ad;have B:∀H,gB (nq c r<|.ref f.length) H=if r=H then a7 (.ref f.length)else gB c H:=λH=>by by_cases e:r=H;rw[n9 e,<-e,zE];rw[o0 e,yn<|B8 e]
 refine⟨⟨_,.inl A⟩,_,A,aH (by rw[C2];lia),x5.now<|x _ _ ⟨nq c r<|.ref f.length,_,bJ (bJ (pM.trans cG)<|u7 _) (by lia),ar (by lia)<|ar (by lia)<|ac p,⟨ar (by lia)<|bK<|ac tr.at_,λH d b=>?_,λH b=>?_,λT U m h1 h2=>?_⟩,by have:=(xA (kvs:=c) (k:=r) (d:=.ref f.length)).1;lia,rfl⟩⟩;rw[B]at b;by_cases e:r=H;rw[n9 e]at b;subst e;exact⟨f.length,by injection b with b;exact b.symm,W,by rw[bK A,v,n9 rfl,tr.no _ Q]⟩;rw[o0 e]at b;obtain⟨s,rfl,o,g⟩:=tr.got H d b;have:=aX g;exact⟨s,rfl,o,by rw[v,o0 e];exact ar (by lia)<|ar (by lia)<|ac g⟩;rw[B]at b;by_cases e:r=H;rw[n9 e]at b;cases b;rw[o0 e]at b;rw[v,o0 e];exact tr.no H b;rw[B]at h1 h2;have u:∀H m,gB c H=a7 (.ref m)->m<f.length:=λH m h'=>by obtain⟨s,e,_,g⟩:=tr.got H _ h';injection e with e;rw[e];exact aX g
 by_cases l:r=T<;>by_cases w:r=U;rw[<-l,<-w];rw[n9 l]at h1;rw[o0 w]at h2;have:=u _ _ h2;injection h1 with h1;injection h1 with h1;lia;rw[o0 l]at h1;rw[n9 w]at h2;have:=u _ _ h1;injection h2 with h2;injection h2 with h2;lia;rw[o0 l]at h1;rw[o0 w]at h2;exact tr.one _ _ _ h1 h2
theorem kg(T:Tops P w K mg base):u8 P w K mg base 3 "vectors_by_room" cw bG:=u8.byD (N:=["log","name","vectors","deed"]) T.b T.f_vectors_by_room (by walk_at"sc") jk (by have:=jh T;walk_at"dv") jy
def iq:w6:=λs M R=>∃(p:List (c7×Int)) (a:List (c7×List c7)) (l:List D) (n:c7) (e:D) (v q:Nat) (c:List (c7×D)),s=[e,.str n,.ref v,.ref q]/\(∀d∈l,aM p a d)/\l.length<=1000/\aM p a e/\aU e=AA0 "say"/\VbAt M v c (oi l n)/\M[q]?=a7 (.lst<|bq l (AA0 "seen") n)/\(∀x∈bq l (AA0 "seen") n,St x)/\R (.bl<|lZ l n e) M
theorem vX:cr iq nC:=by rintro d M R ⟨p,a,l,n,e,v,q,c,rfl,_⟩;rfl
theorem Gb(h:∀d∈l,aM a b d):∀v∈oi l name r,∃s:List (D×Int),v=.tup (kC s)/\(∀p∈s,Hd p.1)/\s.length<=12:=λv c=>by obtain⟨d,m,rfl⟩:=v6.mp c;obtain⟨h1,h2,_⟩:=cJ (A7.mp m).1;obtain⟨t,z,k,n,r,s,rfl,q,j⟩:=vA (h d h1) h2;exact⟨s,rfl,q,j⟩
theorem CQ:(oi log name r).length<=log.length:=by unfold oi;rw[u6];exact D4 (L6 _ _) ff
def mQ:s9:=bp<|t7 IZ<|aa (E6 1 [0] (bE<|Pc xz (ab 2)<|aa (t7 bX<|aa (ab 0) af)<|aa (iP af) af) (ag 0) xT<|t7 dW<|aa (ab 1)<|aa (ab 0) af) af
def sE:s9:=ay (z6 (ML (ap<|p9 z8 (t7 bc<|aa (ab 0) af)<|ab 1)<|ap<|p9 L7 (t7 cD<|aa (ab 0) af)<|ab 3) (bp<|dC<|.bl a9) aY)<|mQ
theorem yf:z0 iq 4 sE:=by
 rintro ds M R ⟨ps,I,log,name,e,E,qs,f,rfl,y,H,n,C,i,w,hs,h⟩;obtain⟨t,z,k,m,r,u,s,rfl,_⟩:=cH n C;have c:St (.tup [.int t,.tup [.str z,.int k]]):=⟨_,_,_,rfl⟩
 simp only[sE];walk_at"dl";refine⟨_,_,_,_,rfl,⟨ah,ah⟩,?_⟩;rw[ax];unfold lZ at h;rw[show aC (.tup [.int t,.tup [.str z,.int k],.int m,.tup [.str<|AA0 "say",.str r,u,.str s]])=z from rfl,show q9 (.tup [.int t,.tup [.str z,.int k],.int m,.tup [.str<|AA0 "say",.str r,u,.str s]])=.tup [.int t,.tup [.str z,.int k]]from rfl,show au (.tup [.int t,.tup [.str z,.int k],.int m,.tup [.str<|AA0 "say",.str r,u,.str s]])=r from rfl]at h;by_cases b:z=name;rw[beq_iff_eq.mpr b];rw[dT_ b]at h;exact bj<|bb.now h;rw[beq_eq_false_iff_ne.mpr b];rw[dF_ b,Oi]at h;refine bh ⟨_,_,_,rfl,_,.inl w,⟨c.ok,lJ hs⟩,?_⟩;rw[pP c hs];by_cases l:D.tup [.int t,.tup [.str z,.int k]]∈bq log (AA0 "seen") name;rw[dT_ l];rw[dT_ l]at h;exact bj<|bb.now h;rw[dF_ l];rw[dF_ l,Oi]at h;refine bh ?_;simp only[mQ];walk_at"dl";show (∃d,M[E]?=a7 (MO.dct d))/\_;refine⟨⟨_,i.at_⟩,?_⟩;walk_at"dl";refine⟨_,_,_,_,_,_,rfl,z5 _,f,ac i.at_,?_⟩;obtain⟨q,p,g⟩:=(i.pre<|cG (mo:=MO.lst [])).kids (k:=r) ad;rw[p];have pM:M <+: M++[MO.lst []]:=cG;generalize M++[MO.lst []]=B at g pM;have G:=CQ (log:=log) (name:=name) (r:=r);have o:=Gb (name:=name) (r:=r) y;generalize oi log name r=L at g h G o;refine⟨_,.inl g,λ_=>?_⟩;refine cL (λv=>.bl<|cu (CT v) (.tup [.str z,.int k]) m) (λS=>∃a,S=[a,a7<|.tup [.int t,.tup [.str z,.int k],.int m,.tup [.str<|AA0 "say",.str r,u,.str s]]]) (.inl g) _ _ _ (λv A S x=>?_) ⟨_,rfl⟩ (by rw[C2];exact am<|by lia) ?_;obtain⟨a,rfl⟩:=x;obtain⟨hs,rfl,F,Q⟩:=o v A;refine⟨[a7<|.tup<|kC hs,a7<|.tup [.int t,.tup [.str z,.int k],.int m,.tup [.str<|AA0 "say",.str r,u,.str s]]],⟨_,rfl⟩,λY j=>?_⟩;rw[wC]at j;walk_at"dl";exact⟨_,_,_,_,hs,rfl,⟨_,_,rfl⟩,F,by lia,j⟩;refine⟨L.map λv=>cu (CT v) (.tup [.str z,.int k]) m,?_,?_⟩;rw[F4,show bls (L.map λv=>cu (CT v) (.tup [.str z,.int k]) m)=L.map λv=>.bl (cu (CT v) (.tup [.str z,.int k]) m) by unfold bls;rw[Fn];rfl];exact aw;rw[Pp];exact bb.bl h<|pM.trans cG
theorem yA(T:Tops P w K mg base):u8 P w K mg base 2 "is_read" nC iq:=u8.byD (N:=["say","name","vectors","seen"]) T.b T.f_is_read (by walk_at"sc") vX (by have:=jg T;have:=bW T;have:=tx T;have:=kR T;walk_at"dv") yf
def bH:w6:=λs M R=>∃(p:List (c7×Int)) (a:List (c7×List c7)) (l:List D) (e:c7),s=[az p a,.tup l,.str e]/\(∀d∈l,aM p a d)/\l.length<64/\R (.ref M.length) (M++[.lst<|(cN a l e).map<|zr<|aN (aJ a l) l])
theorem jm:cr bH cx:=by rintro d M R ⟨p,a,l,e,rfl,_⟩;rfl
theorem ib(h:∀d∈l,aM s rs d):∀p∈aJ rs l,p.1=q9 p.2/\aM s rs p.2/\aU p.2=AA0 "say":=λp a=>by have h1:=(sU.mp a).1;have b:=bd (rs:=rs) (log:=l);exact⟨(b.en p h1).1,mv h (λ_ q=>q) b p h1⟩
theorem xC(f:∀p∈ch,∃s,p.2=.str s)(h:aM i j d)(c:aU d=AA0 "say"):C1 n (zr ch d):=by
 obtain⟨t,z,k,m,r,u,s,rfl,_,_,_,g⟩:=cH h c;have b:C1 n u:=by rcases g with rfl|g;exact .non;exact cO 2 u g.pl
 refine .tup<|.cons (cO 2 _<|St.pl (n:=0) ⟨t,z,k,rfl⟩)<|.cons (.str _)<|.cons b<|.cons (.str _)<|.cons ?_<|.cons (.bl _) .nil;cases e:aV ch (q9<|.tup [.int t,.tup [.str z,.int k],.int m,.tup [.str<|AA0 "say",.str r,u,.str s]]) with
 |none=>exact .str _
 |some v=>obtain⟨s',a⟩:=f _<|bC e;dsimp only at a;rw[a];exact .str _
def dh:s9:=bp<|E6 1 [6,2,3,4] (xU<|ab 5) (ag 0) (EV<|ap<|t7 iq<|aa (ab 0)<|aa (ab 2)<|aa (ab 3)<|aa (ab 4) af)<|t7 cY<|aa (ab 0)<|aa (ab 1) af
def dj:s9:=ay (ba (t7 ck<|aa (ab 1)<|aa (ab 5) af) 6)<|dh
def dm:s9:=ay (ba (t7 cX<|aa (ab 0)<|aa (ab 1) af) 5)<|dj
def dn:s9:=ay (ba (t7 bQ<|aa (ab 1)<|aa (dC<|.str "seen")<|aa (ab 2) af) 4)<|dm
def eO:s9:=ay (ba (t7 bG<|aa (ab 1)<|aa (ab 2) af) 3)<|dn
theorem jz:z0 bH 7 eO:=by
 rintro ds M R ⟨ps,rs,log,b,rfl,g,D,h⟩;simp only[eO];walk_at"dl";refine⟨ps,rs,log,b,rfl,g,by lia,λn B t H G=>?_⟩;simp only[dn];walk_at"dl";refine⟨ps,rs,log,_,b,rfl,g,by lia,.inl rfl,λhs=>?_⟩;have v:=G.pre<|cG (mo:=MO.lst<|bq log (AA0 "seen") b);have w:(B++[MO.lst<|bq log (AA0 "seen") b])[B.length]?=a7 (.lst<|bq log (AA0 "seen") b):=ad;have C:=H.trans<|cG (mo:=MO.lst<|bq log (AA0 "seen") b);generalize B++[MO.lst<|bq log (AA0 "seen") b]=I at v w C;generalize B.length=qs at w;simp only[dm];walk_at"dl";refine⟨ps,rs,log,rfl,g,D,λE J i z=>?_⟩;have s:=ib (rs:=rs) g;have O:(aJ rs log).length<=1000:=by have h1:=(bd (rs:=rs) (log:=log)).len;have h2:=bA (log:=log) (k:=AA0 "say");have N:(aJ rs log).length<=(ak rs log).length:=L6 _ _;lia
 simp only[dj];walk_at"dl";refine⟨ps,rs,log,E,aJ rs log,rfl,g,by lia,z,λp j=>(s p j).2.1.nm,λr K f g3=>?_⟩;have u:=v.pre<|i.trans f;have m:=aI (i.trans f) w;have l:=aI f z;have F:=C.trans<|i.trans f;simp only[dh];walk_at"dl";refine⟨_,l,λ_=>?_⟩;refine aQ (λe=>!lZ log b e) (zr<|aN (aJ rs log) log) (λS=>∃a,S=[a,a7<|.ref r,a7<|.str b,a7<|.ref n,a7<|.ref qs]) l _ _ _ ?_ ⟨_,rfl⟩ (by rw[C2,u6];exact am<|by lia) ?_;rintro e o S ⟨a,rfl⟩;refine⟨[a7 e,a7<|.ref r,a7<|.str b,a7<|.ref n,a7<|.ref qs],⟨_,rfl⟩,λY Z c=>?_⟩;obtain⟨p,j,rfl⟩:=v6.mp o;obtain⟨_,x,y⟩:=s p j;walk_at"dl";refine⟨ps,rs,log,b,p.2,n,qs,t,rfl,g,by lia,x,y,u,m,hs,?_⟩;cases A:lZ log b p.2 with
 |true=>rw[A]at c;exact c
 |false=>rw[A]at c;exact⟨ps,rs,p.2,r,_,rfl,x,y,g3,c⟩
 rw[F4];obtain⟨L,rfl⟩:=F;rw[G7];have U:((aJ rs log).map (·.2)).filter (λe=>!lZ log b e)=cN rs log b:=rfl;rw[U];refine bb.lst h (by simp) (by simp)<|Bels.of λd q=>?_;obtain⟨e,o,rfl⟩:=v6.mp q;obtain⟨p,j,rfl⟩:=v6.mp (A7.mp o).1;exact xC (nT g) (s p j).2.1 (s p j).2.2
theorem kh(T:Tops P w K mg base):u8 P w K mg base 6 "unread_messages" cx bH:=u8.byD (N:=["house","log","name","vectors","seen","says","changes"]) T.b T.f_unread_messages (by walk_at"sc") jm (by have:=iM T;have:=nG T;have:=qz T;have:=qy T;have:=kg T;have:=yA T;walk_at"dv") jz
def bR:w6:=λd M R=>∃(b:List (c7×Int)) (a:List (c7×List c7)) (k:List (D×D)) (y:List D) (q p:Nat) (H:D->Bool),d=[.ref q,.ref p]/\M[q]?=a7 (.dkt k)/\M[p]?=a7 (.lst y)/\(k.map (·.1)).Nodup/\(∀x∈k,x.1=q9 x.2/\aM b a x.2/\aU x.2=AA0 "say")/\k.length<1000/\(∀w∈y,eL w)/\(∀s,D.tup [.str<|AA0 "under",s]∈y↔H s=a9)/\R (.ref M.length) (M++[.lst<|bf H k])
theorem kW:cr bR dA:=by rintro d M R ⟨b,a,s,y,q,p,H,rfl,_⟩;rfl
def eP:s9:=bp<|ab 2
def eQ:s9:=ay (kt (lV<|ab 0) (ag 3)<|z6 (ML (ap<|p9 L7 (dL<|aa (dC<|.str "under")<|aa (ab 3) af)<|ab 1)<|ap<|p9 L7 (t7 cC<|aa (gZ (ab 0)<|ab 3) af)<|ab 2) (gj<|K3 bF (ab 2)<|aa (ab 3) af) aY)<|eP
def gG:s9:=ay (ba (iP af) 2)<|eQ
theorem lX:z0 bR 4 gG:=by
 rintro ds M R ⟨ps,rs,kvs,ys,q,p,H,rfl,m,Q,nd,N,kl,U,O,h⟩;simp only[gG,eQ];walk_at"dl";have ql:=aX m;have pl:=aX Q;refine⟨z5 _,kvs,ac m,λ_=>?_⟩;refine aT (λi S g=>∃a:Option D,g=M++[.lst<|bf H<|kvs.take i]/\S=[a7<|.ref q,a7<|.ref p,a7<|.ref M.length,a]) ?_ ?_ ⟨_,rfl,rfl⟩;rintro S g ⟨a,rfl,rfl⟩;rw[u6,K9];refine⟨ac m,?_⟩;simp only[eP];walk_at"dl";exact .inl h;rintro i y S g V ⟨a,rfl,rfl⟩ G l;rw[C8]at V;obtain⟨x,J,rfl⟩:=Mz.mp V;have hi:=(x9.mp J).1;have Y:kvs.take (i+1)=kvs.take i++[x]:=by rw[Mh,J];rfl
 rw[Y,fg]at l;have P:=D2 J;obtain⟨ex,C,W⟩:=N x P;have E:∀s∈bf H (kvs.take i),St s:=λs hs=>by obtain⟨z,hz,rfl⟩:=v6.mp<|kj s hs;obtain⟨e,d,_⟩:=N z<|P2 hz;rw[e];exact d.st
 have X:=BP (H:=H) (kvs:=kvs.take i);rw[F5]at X;generalize bf H (kvs.take i)=F at l E X;have I:=cR nd P;have c:St x.1:=by rw[ex];exact C.st
 generalize x.2=e at l I C W;generalize x.1=s at l I c;obtain⟨t',f,b,rfl⟩:=c;obtain⟨t,z,k,K,r,u,s,rfl,_,_,_,T⟩:=cH C W;have c:St (.tup [.int t',.tup [.str f,.int b]]):=⟨_,_,_,rfl⟩
 have n:eL (.tup [.str<|AA0 "under",.tup [.int t',.tup [.str f,.int b]]]):=.inr<|.inr ⟨_,_,_,rfl⟩;have uo:∀B,u5 B t5 u=a9:=λB=>by rcases T with rfl|q;rfl;exact q.ok
 have Z:aL (.tup [.int t,.tup [.str z,.int k],.int K,.tup [.str<|AA0 "say",.str r,u,.str s]])=u:=rfl;rw[Z]at l;refine⟨ac m,?_⟩;walk_at"dl";refine⟨am (by lia),_,.inl<|ac Q,⟨(dP 3 t5 _ (by decide) n.pl).1,ia U⟩,?_⟩;rw[ik n U];have w:(M++[MO.lst F])[M.length]?=a7 (.lst F):=ad;have j:(∀L g,(∃a:Option D,g=M++[.lst<|F++[.tup [.int t',.tup [.str f,.int b]]]]/\L=[a7<|.ref q,a7<|.ref p,a7<|.ref M.length,a])->G L g)->∃xs,(M++[MO.lst F])[M.length]?=a7 (.lst xs)/\xs.length<sizeLine/\x5 (M++[MO.lst []]) G [a7<|.ref q,a7<|.ref p,a7<|.ref M.length,a7<|.tup [.int t',.tup [.str f,.int b]]] ((M++[MO.lst F]).set M.length<|MO.lst<|xs++[.tup [.int t',.tup [.str f,.int b]]]):=λl=>by refine⟨F,w,aH (by lia),?_⟩;rw[iT];exact x5.now<|l _ _ ⟨_,rfl,rfl⟩
 by_cases o:D.tup [.str<|AA0 "under",.tup [.int t',.tup [.str f,.int b]]]∈ys;rw[dT_ o];rw[(O _).mp o,Bool.true_or,n9 rfl]at l;exact bj ⟨⟨_,.inl w⟩,j l⟩;rw[dF_ o];have A:H (.tup [.int t',.tup [.str f,.int b]])=c5:=My.mpr λz=>o<|(O _).mpr z;rw[A,Oi]at l;refine bh ⟨_,_,ac m,rfl,I,_,_,_,_,_,_,_,rfl,_,.inl w,⟨uo _,lJ E⟩,?_⟩;rw[Lb T E];by_cases v:u∈F;rw[dT_ v];rw[dT_ v,n9 rfl]at l;exact bj ⟨⟨_,.inl w⟩,j l⟩;rw[dF_ v];rw[dF_ v,o0<|by decide]at l;exact bh<|x5.now<|l _ _ ⟨_,rfl,rfl⟩
theorem md(T:Tops P w K mg base):u8 P w K mg base 2 "stamps_hushed" dA bR:=u8.byD (N:=["says","hushes","hushed","stamp"]) T.b T.f_stamps_hushed (by walk_at"sc") kW (by have:=jf T;walk_at"dv") lX
def dU:w6:=λd M R=>∃(p:List (c7×Int)) (a:List (c7×List c7)) (s:List (D×D)) (q:Nat) (e:c7),d=[.ref q,.str e]/\M[q]?=a7 (.dkt s)/\(s.map (·.1)).Nodup/\(∀x∈s,x.1=q9 x.2/\aM p a x.2)/\s.length<1000/\R (.ref M.length) (M++[.lst<|ma s e])
theorem qI:cr dU iX:=by rintro d M R ⟨p,a,s,q,e,rfl,_⟩;rfl
def mI:s9:=bp<|E6 1 [0,1] (lV<|ab 0) (ag 0) (ap<|p9 z8 (t7 bc<|aa (gZ (ab 1)<|ab 0) af)<|ab 2)<|ab 0
theorem rF:z0 dU 2 mI:=by
 rintro u M R ⟨ps,r,d,q,n,rfl,i,p,l,v,h⟩;simp only[mI];walk_at"dl";refine⟨d,i,λ_=>?_⟩;refine aQ (λs=>decide<|aC ((aV d s).getD .non)=n) id (λS=>∃a,S=[a,a7<|.ref q,a7<|.str n]) i _ _ _ ?_ ⟨_,rfl⟩ (by rw[C2,u6];exact am<|by lia) ?_;rintro y O S ⟨a,rfl⟩;obtain⟨x,j,rfl⟩:=v6.mp O;obtain⟨m,f⟩:=l x j;have g:=cR p j;have c:St x.1:=by rw[m];exact f.st
 refine⟨[a7 x.1,a7<|.ref q,a7<|.str n],⟨_,rfl⟩,λY Z b=>?_⟩;rw[g]at b;generalize x.2=e at g f b;generalize x.1=s at g c b;obtain⟨t',G,H,rfl⟩:=c;obtain⟨t,z,k,o,w,u,rfl,_⟩:=f;walk_at"dl";refine⟨_,_,i,rfl,g,_,_,_,_,rfl,⟨ah,ah⟩,?_⟩;rw[ax];have b:if decide (z=n)=a9 then Y (.tup [.int t',.tup [.str G,.int H]]) [a7<|.tup [.int t',.tup [.str G,.int H]],a7<|.ref q,a7<|.str n] M else Z [a7<|.tup [.int t',.tup [.str G,.int H]],a7<|.ref q,a7<|.str n] M:=b
 by_cases e:z=n;rw[beq_iff_eq.mpr e];rw[dT_ e]at b;exact b;rw[beq_eq_false_iff_ne.mpr e];rw[dF_ e]at b;exact b;rw[F4,MR];exact .inl h
theorem tw(T:Tops P w K mg base):u8 P w K mg base 2 "stamps_by" iX dU:=u8.byD (N:=["says","name"]) T.b T.f_stamps_by (by walk_at"sc") qI (by have:=bW T;walk_at"dv") rF
def fV:w6:=λd M R=>∃(s u v w:D) (r z:c7) (a:List c7) (g y:List D) (c j k:Nat),d=[.tup [s,.str r,u,.str z,v,w],.ref c,.ref j,.ref k]/\M[c]?=a7 (.lst<|a.map .str)/\M[j]?=a7 (.lst g)/\M[k]?=a7 (.lst y)/\St s/\(∀x∈g,St x)/\(∀x∈y,eL x)/\R (.bl<|decide (r∈a)&&(!decide (s∈g) && !decide (D.tup [.str<|AA0 "person",.str z]∈y))) M
theorem tX:cr fV kQ:=by rintro d M R ⟨s,u,v,w,r,z,a,g,y,c,j,k,rfl,_⟩;rfl
def pG:s9:=bp<|uy (p9 L7 (p9 u3 (ab 0)<|dC<|.int 1)<|ab 1)<|uy (p9 ka (p9 u3 (ab 0)<|dC<|.int 0)<|ab 2)<|p9 ka (dL<|aa (dC<|.str "person")<|aa (p9 u3 (ab 0)<|dC<|.int 3) af)<|ab 3
theorem uV:z0 fV 4 pG:=by
 rintro e M R ⟨s,u,v,w,r,z,a,g,y,q,j,k,rfl,g1,c,g3,d,i,b,h⟩;have p:eL (.tup [.str<|AA0 "person",.str z]):=.inr<|.inl ⟨_,rfl⟩;simp only[pG];walk_at"dl";refine⟨_,.inl g1,⟨ah,kE⟩,?_⟩;rw[kZ];cases t:decide (r∈a) with
 |false=>rw[t]at h;exact bb.now h
 |true =>
  rw[t,OU]at h;show ∃x,aA M j x/\_;refine⟨_,.inl c,⟨d.ok,lJ i⟩,?_⟩;rw[pP d i];cases l:decide (s∈g) with
  |true=>rw[l]at h;exact bb.now h
  |false=>rw[l]at h;show 2<=sizeLine/\∃x,aA M k x/\_;refine⟨am (by lia),_,.inl g3,⟨(dP 3 t5 _ (by decide) p.pl).1,ia b⟩,?_⟩;rw[ik p b];rw[show (!c5 && !decide (D.tup [.str<|AA0 "person",.str z]∈y))=(decide (D.tup [.str<|AA0 "person",.str z]∈y) != a9) by cases decide (D.tup [.str<|AA0 "person",.str z]∈y)<;>rfl]at h;exact bb.now h
theorem vN(T:Tops P w K mg base):u8 P w K mg base 1 "can_ring" kQ fV:=u8.byD (N:=["message","rooms","rung","hushes"]) T.b T.f_can_ring (by walk_at"sc") tX (by walk_at"dv") uV
def kw:w6:=λc M R=>∃(a b u d w:D) (s e:c7) (n:List D) (q:Nat) (quiet:Bool),c=[.tup [a,b,u,d,.str s,w],.str e,.ref q,.bl quiet]/\M[q]?=a7 (.lst n)/\(∀x∈n,St x)/\(u=.non\/St u)/\s.length<=100/\e.length<=100/\R (if cI (.str s) e=a9 then .str (AA0 "named")else if u∈n then .str (AA0 "answered")else if quiet=a9 then .non else .str (AA0 "heard")) M
theorem yK:cr kw qr:=by rintro c M R ⟨a,b,u,d,w,s,e,n,q,quiet,rfl,_⟩;rfl
def oG:s9:=bp<|dIfE (ap<|ab 3) (dC .non)<|dC<|.str "heard"
def oH:s9:=ay (z6 (ap<|p9 L7 (p9 u3 (ab 0)<|dC<|.int 2)<|ab 2) (bp<|dC<|.str "answered") aY)<|oG
def wG:s9:=ay (z6 (ap<|t7 fU<|aa (p9 u3 (ab 0)<|dC<|.int 4)<|aa (ab 1) af) (bp<|dC<|.str "named") aY)<|oH
theorem zw:z0 kw 4 wG:=by
 rintro k M R ⟨a,b,u,d,w,s,e,n,q,quiet,rfl,g,B,c,i,f,h⟩;have o:u5 M t5 u=a9:=by rcases c with rfl|q;rfl;exact q.ok
 have I:atI [a,b,u,d,.str s,w] 4=a7 (.str s):=aF (j:=4) rfl;simp only[wG];walk_at"dl";rw[I];refine⟨s,e,rfl,i,f,?_⟩;cases t:cI (.str s) e with
 |true=>rw[t,n9 rfl]at h;exact bj<|bb.now h
 |false =>
  rw[t,o0<|by decide]at h;refine bh ?_;simp only[oH];walk_at"dl";refine⟨_,.inl g,⟨o,lJ B⟩,?_⟩;rw[Lb c B];by_cases l:u∈n;rw[dT_ l];rw[n9 l]at h;exact bj<|bb.now h;rw[dF_ l];rw[o0 l]at h;refine bh ?_;simp only[oG];walk_at"dl";cases quiet with
  |true=>rw[n9 rfl]at h;exact bj<|bb.now h
  |false=>rw[o0<|by decide]at h;exact bh<|bb.now h
theorem AS(T:Tops P w K mg base):u8 P w K mg base 4 "why_of" qr kw:=u8.byD (N:=["message","name","own","quiet"]) T.b T.f_why_of (by walk_at"sc") yK (by have:=vM T;walk_at"dv") zw
def eF:w6:=λs M R=>∃(p:List (c7×Int)) (a:List (c7×List c7)) (l:List D) (e:c7),s=[az p a,.tup l,.str e]/\(∀d∈l,aM p a d)/\l.length<64/\a.length<=4/\e.length<=100/\R (.ref M.length) (M++[.lst<|nU a l e])
theorem qQ:cr eF je:=by rintro d M R ⟨p,a,l,e,rfl,_⟩;rfl
theorem xv(h:∀d∈l,aM p r d)(n:aM p r e)(C:aU e=AA0 "say"):∃s:c7,JB r l e=.str s/\s.length<=100:=by
 unfold JB;cases S:aV (aN (aJ r l) l) (q9 e) with
 |none=>exact Gm n C
 |some v=>obtain⟨d,m,t⟩:=v6.mp<|pT _<|bC S;obtain⟨h1,h2⟩:=aq (A7.mp m).1;have:=zi (h d h1) h2;injection t with _ e2;rw[<-e2];exact this
def iF:s9:=bp<|ab 9
def jO:s9:=z6 (rj (ap<|p9 iJ (ab 12)<|dC .non)<|ap<|t7 fV<|aa (ab 10)<|aa (ab 3)<|aa (ab 4)<|aa (ab 5) af) (gj<|K3 bF (ab 9)<|aa (dL<|aa (p9 u3 (ab 10)<|dC<|.int 0)<|aa (ab 12) af) af) aY
def fv:s9:=ay (ba (t7 kw<|aa (ab 10)<|aa (ab 2)<|aa (ab 7)<|aa (ab 11) af) 12)<|jO
def jP:s9:=ay (kt (bE<|t7 bH<|aa (ab 0)<|aa (ab 1)<|aa (ab 2) af) (ag 10)<|ay (ba (Jc (p9 L7 (dL<|aa (dC<|.str "room")<|aa (p9 u3 (ab 10)<|dC<|.int 1) af)<|ab 5)<|p9 L7 (p9 u3 (ab 10)<|dC<|.int 0)<|ab 8) 11)<|fv)<|iF
def jQ:s9:=ay (ba (iP af) 9)<|jP
def jR:s9:=ay (ba (t7 bR<|aa (ab 6)<|aa (ab 5) af) 8)<|jQ
def jS:s9:=ay (ba (t7 dU<|aa (ab 6)<|aa (ab 2) af) 7)<|jR
def jT:s9:=ay (ba (t7 bn<|aa (ab 0)<|aa (ab 1) af) 6)<|jS
def jU:s9:=ay (ba (t7 dZ<|aa (ab 1)<|aa (ab 2) af) 5)<|jT
def jV:s9:=ay (ba (t7 bQ<|aa (ab 1)<|aa (dC<|.str "rung")<|aa (ab 2) af) 4)<|jU
def mX:s9:=ay (ba (t7 fR<|aa (ab 0)<|aa (ab 2) af) 3)<|jV
theorem rO:z0 eF 13 mX:=by
 rintro ds M R ⟨ps,rs,log,n,rfl,I,hl,rl,nl,h⟩;have A:=bd (rs:=rs) (log:=log);have hv:=mv I (λ_ q=>q) A;have kl:=bA (log:=log) (k:=AA0 "say");have tl:=A.len;have sv:=ib (rs:=rs) I;simp only[mX];walk_at"dl";refine⟨ps,rs,n,rfl,by lia,?_⟩;have g3:(M++[MO.lst<|(dO rs n).map .str])[M.length]?=a7 (.lst<|(dO rs n).map .str):=ad;have H:M <+: M++[MO.lst<|(dO rs n).map .str]:=cG;generalize M++[MO.lst<|(dO rs n).map .str]=B1 at g3 H;generalize M.length=q3 at g3;simp only[jV];walk_at"dl";refine⟨ps,rs,log,_,n,rfl,I,by lia,.inr rfl,λbo=>?_⟩;have g:(B1++[MO.lst<|bq log (AA0 "rung") n])[B1.length]?=a7 (.lst<|bq log (AA0 "rung") n):=ad;replace g3:=ac (a:=MO.lst<|bq log (AA0 "rung") n) g3;replace H:=H.trans<|cG (mo:=MO.lst<|bq log (AA0 "rung") n);dsimp only;generalize B1++[MO.lst<|bq log (AA0 "rung") n]=B2 at g3 g H;generalize B1.length=q4 at g;simp only[jU];walk_at"dl";refine⟨ps,rs,log,n,rfl,I,Nat.lt_of_le_of_lt ff hl,by lia,λys hw hy=>?_⟩;have l:(B2++[MO.lst ys])[B2.length]?=a7 (.lst ys):=ad;replace g3:=ac (a:=MO.lst ys) g3;replace g:=ac (a:=MO.lst ys) g;replace H:=H.trans<|cG (mo:=MO.lst ys);dsimp only;generalize B2++[MO.lst ys]=B3 at g3 g l H;generalize B2.length=O at l;have K:∀w,decide (w∈ys)=bI log n w:=λw=>decide_eq_decide.mpr<|hy w;simp only[jT];walk_at"dl";refine⟨ps,rs,log,rfl,I,by lia,λP B4 p4 T=>?_⟩;replace g3:=aI p4 g3;replace g:=aI p4 g;replace l:=aI p4 l;replace H:=H.trans p4;dsimp only;simp only[jS];walk_at"dl";refine⟨ps,rs,ak rs log,P,n,rfl,T,A.nd,λx f=>⟨(A.en x f).1,(hv x f).1⟩,by lia,?_⟩;have ow:∀x∈ma (ak rs log) n,St x:=λx f=>by obtain⟨p,v,rfl⟩:=v6.mp (A7.mp f).1;rw[(A.en p v).1];exact(hv p v).1.st
 have N:(B4++[MO.lst<|ma (ak rs log) n])[B4.length]?=a7 (.lst<|ma (ak rs log) n):=ad;replace g3:=ac (a:=MO.lst<|ma (ak rs log) n) g3;replace g:=ac (a:=MO.lst<|ma (ak rs log) n) g;replace l:=ac (a:=MO.lst<|ma (ak rs log) n) l;replace T:=ac (a:=MO.lst<|ma (ak rs log) n) T;replace H:=H.trans<|cG (mo:=MO.lst<|ma (ak rs log) n);generalize B4++[MO.lst<|ma (ak rs log) n]=B5 at g3 g l T N H;generalize B4.length=q7 at N;simp only[jR];walk_at"dl";refine⟨ps,rs,ak rs log,ys,P,O,λs=>bI log n<|.tup [.str<|AA0 "under",s],rfl,T,l,A.nd,λx f=>⟨(A.en x f).1,hv x f⟩,by lia,hw,λs=>(by show _↔bI log n _=a9;rw[<-K,o6]),?_⟩;generalize hF:bf (λs=>bI log n<|.tup [.str<|AA0 "under",s]) (ak rs log)=F;have W:∀x∈F,St x:=λx f=>by rw[<-hF]at f;obtain⟨p,v,rfl⟩:=v6.mp<|kj x f;rw[(A.en p v).1];exact(hv p v).1.st
 have g8:(B5++[MO.lst F])[B5.length]?=a7 (.lst F):=ad;replace g3:=ac (a:=MO.lst F) g3;replace g:=ac (a:=MO.lst F) g;replace l:=ac (a:=MO.lst F) l;replace N:=ac (a:=MO.lst F) N;replace H:=H.trans<|cG (mo:=MO.lst F);generalize B5++[MO.lst F]=B at g3 g l N g8 H;generalize B5.length=q8 at g8;simp only[jQ];walk_at"dl";refine⟨z5 _,?_⟩;simp only[jP];walk_at"dl";refine⟨ps,rs,log,n,rfl,I,hl,?_⟩;generalize hU:(cN rs log n).map (zr<|aN (aJ rs log) log)=U;have ul:U.length<=1000:=by rw[<-hU,u6];refine D4 (L6 _ _) ?_;rw[u6];have:(aJ rs log).length<=(ak rs log).length:=L6 _ _;lia
 have g9:(B++[MO.lst []]++[MO.lst U])[B.length]?=a7 (.lst []):=ac ad;have C:(B++[MO.lst []]++[MO.lst U])[(B++[MO.lst []]).length]?=a7 (.lst U):=ad;have al:(B++[MO.lst []]).length=B.length+1:=by simp
 rw[al]at C ⊢;refine⟨_,.inl C,λ_=>?_⟩;have bl:∀i,(((cN rs log n).take i).filterMap<|mn rs log n).length<=i:=λi=>by refine D4 (List.length_filterMap_le _ _) ?_;rw[F5];lia
 refine aT (λi S j=>∃(a b c:Option D),B <+: j/\j[B.length]?=a7 (.lst<|((cN rs log n).take i).filterMap<|mn rs log n)/\j[B.length+1]?=a7 (.lst U)/\S=[a7<|az ps rs,a7<|.tup log,a7<|.str n,a7<|.ref q3,a7<|.ref q4,a7<|.ref O,a7<|.ref P,a7<|.ref q7,a7<|.ref q8,a7<|.ref B.length,a,b,c]) ?_ ?_ ⟨_,_,_,cG.trans cG,g9,C,rfl⟩;rintro S j ⟨a,b,c,pM,m,V,rfl⟩;have eU:U.length=(cN rs log n).length:=by rw[<-hU,u6]
 rw[eU,K9]at m;refine⟨.inl V,?_⟩;simp only[iF];walk_at"dl";obtain⟨L,rfl⟩:∃L,B=M++L:=by obtain⟨L,e⟩:=H;exact⟨L,e.symm⟩
 have ed:(cN rs log n).filterMap (mn rs log n)=nU rs log n:=rfl;rw[ed]at m;refine bb.chgL .refl h (by simp) m ((G3 _ _).trans pM)<|Bels.of λd bm=>?_;obtain⟨e,Y,eo⟩:=O1.mp bm;unfold mn at eo;split at eo;obtain⟨w,_,rfl⟩:=Mz.mp eo;obtain⟨p,v,rfl⟩:=v6.mp (A7.mp Y).1;exact .tup<|.cons (cO 2 _ (sv p v).2.1.st.pl)<|.cons (.str _) .nil;cases eo;rintro i y S j hy ⟨a,b,c,pM,m,V,rfl⟩ G hG;rw[<-hU,C8]at hy;obtain⟨e,Y,rfl⟩:=Mz.mp hy;have et:(cN rs log n).take (i+1)=(cN rs log n).take i++[e]:=by rw[Mh,Y];rfl
 have hi:=(x9.mp Y).1;rw[et,List.filterMap_append]at hG;have an:=bl i;obtain⟨p,v,ep⟩:=v6.mp (A7.mp<|D2 Y).1;obtain⟨_,de,ke⟩:=sv p v;have ep:p.2=e:=ep;rw[ep]at de ke;generalize ((cN rs log n).take i).filterMap (mn rs log n)=bs at m hG an;have il:i<1000:=by rw[<-hU,u6]at ul;lia
 have aD:=aI pM g3;have aP:=aI pM g;have Q:=aI pM l;have aS:=aI pM N;have bk:=aI pM g8;refine⟨.inl V,?_⟩;obtain⟨s,es,sl⟩:=xv I de ke;have em:zr (aN (aJ rs log) log) e=.tup [q9 e,.str<|au e,aL e,.str<|aC e,.str s,.bl (aV (aN (aJ rs log) log)<|q9 e).isSome]:=by rw[<-es];rfl
 have J:=de.st;have hu:aL e=.non\/St (aL e):=by obtain⟨t,z,k,bw,r,u,s,rfl,_,_,_,hu⟩:=cH de ke;exact hu
 have ai:eL (.tup [.str<|AA0 "room",.str<|au e]):=.inl ⟨_,rfl⟩;have o:mn rs log n e=(if At rs log n e=a9 then(CP rs log n e).map λw=>.tup [q9 e,.str w]else a8):=rfl;have as:CP rs log n e=(if cI (.str s) n=a9 then a7 (AA0 "named")else if aL e∈ma (ak rs log) n then a7 (AA0 "answered")else if (bI log n (.tup [.str<|AA0 "room",.str<|au e])||decide (q9 e∈F))=a9 then a8 else a7 (AA0 "heard")):=by unfold CP;rw[es,hF]
 have aj:∀(E:DEnds) (quiet:Bool),E.nx=x5 (B++[MO.lst []]++[MO.lst U]) G->quiet=(bI log n (.tup [.str<|AA0 "room",.str<|au e])||decide (q9 e∈F))->fv E [a7<|az ps rs,a7<|.tup log,a7<|.str n,a7<|.ref q3,a7<|.ref q4,a7<|.ref O,a7<|.ref P,a7<|.ref q7,a7<|.ref q8,a7<|.ref B.length,a7<|.tup [q9 e,.str<|au e,aL e,.str<|aC e,.str s,.bl (aV (aN (aJ rs log) log)<|q9 e).isSome],a7<|.bl quiet,c] j:=λE quiet eE eq=>by
  have ev:(if cI (.str s) n=a9 then D.str (AA0 "named")else if aL e∈ma (ak rs log) n then .str (AA0 "answered")else if quiet=a9 then .non else .str (AA0 "heard"))=(match CP rs log n e with|some w=>.str w|none=>.non):=by rw[as,eq];by_cases c1:cI (.str s) n=a9;rw[n9 c1,n9 c1];rw[o0 c1,o0 c1];by_cases c2:aL e∈ma (ak rs log) n;rw[n9 c2,n9 c2];rw[o0 c2,o0 c2];by_cases c3:(bI log n (.tup [.str<|AA0 "room",.str<|au e])||decide (q9 e∈F))=a9;rw[n9 c3,n9 c3];rw[o0 c3,o0 c3]
  have e4:E.nx [a7<|az ps rs,a7<|.tup log,a7<|.str n,a7<|.ref q3,a7<|.ref q4,a7<|.ref O,a7<|.ref P,a7<|.ref q7,a7<|.ref q8,a7<|.ref B.length,a7<|.tup [q9 e,.str<|au e,aL e,.str<|aC e,.str s,.bl (aV (aN (aJ rs log) log)<|q9 e).isSome],a7<|.bl quiet,a7 (match CP rs log n e with|some w=>.str w|none=>.non)] (j.set B.length<|.lst<|bs++List.filterMap (mn rs log n) [e]):=by rw[eE];exact x5.now<|hG _ _ ⟨_,_,_,bJ pM<|u7 _,bK m,ar (by lia) V,rfl⟩
  have no:mn rs log n e=a8->E.nx [a7<|az ps rs,a7<|.tup log,a7<|.str n,a7<|.ref q3,a7<|.ref q4,a7<|.ref O,a7<|.ref P,a7<|.ref q7,a7<|.ref q8,a7<|.ref B.length,a7<|.tup [q9 e,.str<|au e,aL e,.str<|aC e,.str s,.bl (aV (aN (aJ rs log) log)<|q9 e).isSome],a7<|.bl quiet,a7 (match CP rs log n e with|some w=>.str w|none=>.non)] j:=λz=>by rw[eE];refine x5.now<|hG _ _ ⟨_,_,_,pM,?_,V,rfl⟩;rw[MJ,z,QC,G2];exact m
  simp only[fv];walk_at"dl";refine⟨_,_,_,_,_,s,n,ma (ak rs log) n,q7,quiet,rfl,aS,ow,hu,sl,nl,?_⟩;rw[ev];simp only[jO];cases Z:CP rs log n e with
  |none=>rw[Z]at no o;walk_at"dl";refine no ?_;rw[o];split<;>rfl
  |some w =>
   rw[Z]at no o e4;walk_at"dl";refine⟨_,_,_,_,_,_,dO rs n,bq log (AA0 "rung") n,ys,q3,q4,O,rfl,aD,aP,Q,J,bo,hw,?_⟩;have er:(decide (au e∈dO rs n)&&(!decide (q9 e∈bq log (AA0 "rung") n) && !decide (D.tup [.str<|AA0 "person",.str<|aC e]∈ys)))=At rs log n e:=by rw[K];rfl
   rw[er];cases hb:At rs log n e with
   |false=>rw[hb,o0<|by decide]at o;exact bh<|no o
   |true=>rw[hb,n9 rfl]at o;refine bj ⟨⟨_,.inl m⟩,am (by lia),_,m,aH (by lia),?_⟩;rw[MJ,o,QC]at e4;exact e4
 rw[em];walk_at"dl";refine⟨am (by lia),_,.inl Q,⟨(dP 3 t5 _ (by decide) ai.pl).1,ia hw⟩,?_⟩;rw[ik ai hw,K];cases X:bI log n (.tup [.str<|AA0 "room",.str<|au e]) with
 |true=>exact aj _ a9 rfl<|by rw[X];rfl
 |false=>show ∃xs,aA j q8 xs/\_;refine⟨_,.inl bk,⟨J.ok,lJ W⟩,?_⟩;rw[pP J W];exact aj _ _ rfl<|by rw[X];cases decide (q9 e∈F)<;>rfl
theorem tI(T:Tops P w K mg base):u8 P w K mg base 7 "bells_for" je eF:=u8.byD (N:=["house","log","name","rooms","rung","hushes","says","own","hushed","bells","message","quiet","why"]) T.b T.f_bells_for (by walk_at"sc") qQ (by have:=vJ T;have:=iM T;have:=tE T;have:=dR T;have:=kh T;have:=md T;have:=tw T;have:=vN T;have:=AS T;walk_at"dv") rO
noncomputable def FS(n:List Int)(k:Nat):Int:=n.getD k 0
def ir:w6:=λd M R=>∃(n:Nat) (s:List Int) (k:Nat),d=[.ref n,.int k]/\aA M n (s.map D.int)/\R (.int<|FS s k) M
theorem vY:cr ir nD:=by rintro d M R ⟨n,s,k,rfl,_⟩;rfl
def mV:s9:=bp<|dC<|.int 0
def sN:s9:=ay (z6 (ap<|p9 Nj (ab 1)<|t7 nj<|aa (ab 0) af) (bp<|p9 u3 (ab 0)<|ab 1) aY)<|mV
theorem yg:z0 ir 2 sN:=by rintro d M R ⟨n,s,k,rfl,L,h⟩;simp only[sN,mV];walk_at"dl";refine⟨_,L,?_⟩;unfold FS at h;by_cases a:k<s.length;rw[dT_<|by simpa using a];refine bj ⟨_,L,?_⟩;rw[aF (v:=.int s[k])<|by rw[C8,w9 a];rfl];rw[G6,w9 a]at h;exact bb.now h;rw[dF_<|by simpa using a];rw[G6,Nw<|by lia]at h;exact bh<|bb.now h
theorem yB(T:Tops P w K mg base):u8 P w K mg base 1 "_law_cell_at" nD ir:=u8.byD (N:=["_law_script","_law_k"]) T.b T.f_cell_at (by walk_at"sc") vY (by walk_at"dv") yg
def fj:w6:=λd M R=>∃(c:Int),d=[.int c]/\∀n:Int,R (.ref M.length)<|M++[.lst [.int n]]
theorem yO:cr fj qx:=by rintro d M R ⟨c,rfl,_⟩;rfl
def pp:s9:=bp<|iP<|aa (ab 3) af
def py:s9:=ba (p9 br (p9 qj (ab 3)<|dC<|.int 2147483587)<|p9 Ax (p9 qj (ab 5)<|dC<|.int 69621)<|dC<|.int 2147483587) 3
def pz:s9:=ay (ba (p9 Ax (p9 qj (ab 2)<|ab 2)<|dC<|.int 2147483629) 5)<|py
def pA:s9:=ay (kt (eK<|aa (dC<|.int 16) af) (ag 4)<|ay (ba (p9 Ax (p9 br (p9 br (p9 qj (ab 2)<|dC<|.int 48271)<|p9 qj (dC<|.int 7919)<|ab 4)<|dC<|.int 11)<|dC<|.int 2147483647) 2)<|pz)<|pp
def pC:s9:=ay (ba (dC<|.int 0) 3)<|pA
def pD:s9:=ay (ba (p9 Ax (ab 1)<|dC<|.int 2147483647) 2)<|pC
def pE:s9:=ay (z6 (ap<|p9 z8 (p9 Ax (ab 0)<|dC<|.int 2)<|dC<|.int 0) (bp<|iP<|aa (ab 1) af) aY)<|pD
def xk:s9:=ay (ba (p9 vB (ab 0)<|dC<|.int 2) 1)<|pE
theorem zB:z0 fj 6 xk:=by
 rintro s M R ⟨c,rfl,h⟩;simp only[xk,pE];walk_at"dl";refine⟨⟨by decide,by decide⟩,by decide,⟨rfl,rfl⟩,?_⟩;generalize g:t6 M t5 (.int<|c % 2) (.int 0)=b;cases b with
 |true=>exact bj ⟨am (by lia),.inl<|h _⟩
 |false=>refine bh ?_;simp only[pD,pC,pA];walk_at"dl";have U:=Bi (a:=c / 2) (b:=2147483647) (by decide);have r:=Bj (a:=c / 2) (b:=2147483647) (by decide);refine⟨by decide,⟨by decide,by decide⟩,?_⟩;refine aT (λi S d=>d=M/\∃(u e:Int) (a b:Option D),0<=u/\u<2147483647/\S=[a7<|.int c,a7<|.int<|c / 2,a7<|.int u,a7<|.int e,a,b]) ?_ ?_ ⟨rfl,_,_,_,_,U,r,rfl⟩;rintro S d ⟨rfl,u,e,a,b,_,_,rfl⟩;refine⟨trivial,?_⟩;simp only[pp];walk_at"dl";exact⟨am (by lia),.inl<|h _⟩;rintro i y S d O ⟨rfl,u,e,a,b,n,j,rfl⟩ G l;obtain⟨hi,rfl⟩:=fB.mp O;refine⟨trivial,?_⟩;walk_at"dl";refine⟨.inr ⟨by decide,by decide⟩,.inl ⟨by decide,by decide⟩,by decide,?_⟩;have f:=Bi (a:=u*48271+7919*(0+(i:Int))+11) (b:=2147483647) (by decide);have F:=Bj (a:=u*48271+7919*(0+(i:Int))+11) (b:=2147483647) (by decide);generalize (u*48271+7919*(0+(i:Int))+11) % 2147483647=v at f F;simp only[pz,py];walk_at"dl";refine⟨.inl ⟨by lia,by lia⟩,by decide,.inr ⟨by decide,by decide⟩,.inr ⟨by decide,by decide⟩,by decide,?_⟩;exact x5.now<|l _ _ ⟨rfl,_,_,_,_,f,F,rfl⟩
theorem tG(T:Tops P w K mg base):u8 P w K mg base 1 "_law_digits" qx fj:=u8.byD (N:=["_law_cell","_law_rest","_law_number","_law_total","_law_k","_law_other"]) T.b T.f_digits (by walk_at"sc") yO (by walk_at"dv") zB
def aG:w6:=λd M R=>∃(q:Nat) (m:Int),d=[.ref q,.int m]/\L8 M q/\0<m/\m<100000000000/\∀i n:Int,0<=i->i<m->R (.int i) (M.set q<|.lst [.int n])
theorem Ec:cr aG AI:=by rintro d M R ⟨q,m,rfl,_⟩;rfl
def wL:s9:=bp<|ab 2
def wN:s9:=ay (II (p9 vB (p9 u3 (ab 0)<|dC<|.int 0)<|ab 1)<|ES (ab 0)<|dC<|.int 0)<|wL
def Fm:s9:=ay (ba (p9 Ax (p9 u3 (ab 0)<|dC<|.int 0)<|ab 1) 2)<|wN
theorem FV:z0 aG 3 Fm:=by rintro d M R ⟨q,m,rfl,⟨n,a⟩,F,V,h⟩;simp only[Fm,wN,wL];walk_at"dl";refine⟨_,.inl a,?_⟩;rw[Pd];refine⟨F,_,.inl a,?_⟩;rw[Pd];exact⟨⟨F,by lia⟩,_,0,a,rfl,.inl<|h _ _ (Bi F)<|Bj F⟩
theorem fH(T:Tops P w K mg base):u8 P w K mg base 1 "_law_take" AI aG:=u8.byD (N:=["_law_held","_law_many","_law_digit"]) T.b T.f_take (by walk_at"sc") Ec (by walk_at"dv") FV
def lp:w6:=λd M R=>∃(q:Nat),d=[.ref q]/\L8 M q/\∀(z:c7) (n:Int),z.length<=8->eM z->R (.str z) (M.set q<|.lst [.int n])
theorem Eg:cr lp AM:=by rintro d M R ⟨q,rfl,_⟩;rfl
theorem wx:∀c∈(AA0 "abcdefghijklmnopqrstuvwxyz").cps.toList,97<=c/\c<=122:=by decide +kernel
theorem eM.nil:eM (AA0 ""):=λc f=>by rw[show (AA0 "").cps.toList=[] by decide +kernel]at f;cases f
def wZ:s9:=bp<|ab 2
def xa:s9:=ay (kt (eK<|aa (p9 br (dC<|.int 1)<|t7 aG<|aa (ab 0)<|aa (dC<|.int 8) af) af) (ag 3)<|ba (p9 br (ab 2)<|p9 u3 (ab 1)<|t7 aG<|aa (ab 0)<|aa (dC<|.int 26) af) 2)<|wZ
def xb:s9:=ay (ba (dC<|.str "") 2)<|xa
def Fs:s9:=ay (ba (dC<|.str "abcdefghijklmnopqrstuvwxyz") 1)<|xb
theorem FZ:z0 lp 4 Fs:=by
 rintro ds M R ⟨q,rfl,e,h⟩;have l:=e.lt;simp only[Fs,xb,xa];walk_at"dl";refine⟨q,8,rfl,e,by decide,by decide,λi n x K=>?_⟩;have m:=e.start.set (n:=n) l;generalize M.set q (.lst [.int n])=B at m;walk_at"dl";refine⟨⟨by lia,by lia⟩,?_⟩;refine aT (λj S b=>Hl M b q/\∃(z:c7) (a:Option D),z.length=j/\eM z/\S=[a7<|.ref q,a7<|.str<|AA0 "abcdefghijklmnopqrstuvwxyz",a7<|.str z,a]) ?_ ?_ ⟨m,AA0 "",_,by decide +kernel,.nil,rfl⟩;rintro S b ⟨g,z,a,f,s,rfl⟩;refine⟨trivial,?_⟩;simp only[wZ];walk_at"dl";rw[fA]at f;exact g.fin (.str _) λn=>h z n (by lia) s;rintro j y S b O ⟨g,z,a,f,s,rfl⟩ G p;have L:=(fB.mp O).1;refine⟨trivial,?_⟩;walk_at"dl";refine⟨q,26,rfl,g.hd l,by decide,by decide,λk n v w=>?_⟩;have g1:=g.set (n:=n) l;generalize b.set q (.lst [.int n])=I at g1;walk_at"dl";have t:(AA0 "abcdefghijklmnopqrstuvwxyz").cps.toList.length=26:=by decide +kernel
 have u:(AA0 "abcdefghijklmnopqrstuvwxyz").length=26:=by decide +kernel
 obtain⟨A,d,C,_⟩:=ku (xs:=(AA0 "abcdefghijklmnopqrstuvwxyz").cps.toList) v (by rw[t];exact w);refine⟨by rw[u];exact am (by lia),?_⟩;rw[C];have o:∀c:Nat,(⟨#[c]⟩:c7).length=1:=λ_=>rfl;refine⟨by rw[o];exact am (by lia),x5.now<|p _ _ ⟨g1,_,_,?_,s.app λc r=>?_,rfl⟩⟩;rw[cA,o,f];rw[show c=_ from J6.mp r];exact wx _<|Mg d
theorem AY(T:Tops P w K mg base):u8 P w K mg base 2 "_law_name" AM lp:=u8.byD (N:=["_law_held","_law_letters","_law_name_here","_law_k"]) T.b T.f_name (by walk_at"sc") Eg (by have:=fH T;walk_at"dv") FZ
def kB:w6:=λd M R=>∃(q:Nat) (m:Int),d=[.ref q,.int m]/\L8 M q/\1<=m/\m<=4/\∀(xs:List c7) (n:Int),xs.Nodup->1<=xs.length->xs.length<=4->(∀x∈xs,x.length<=8/\eM x)->R (.ref M.length) (M.set q (.lst [.int n])++[.lst<|xs.map .str])
theorem Bt:cr kB vF:=by rintro d M R ⟨q,m,rfl,_⟩;rfl
theorem eM.cut(h:eM x)(b:Nat):eM (K7 x a8<|a7 (b:Int)):=λc f=>by rw[xu]at f;exact h c<|P2 f
def mN:s9:=bp<|t7 kI<|aa (ab 4) af
def mO:s9:=z6 (ap<|p9 ka (ab 6)<|ab 4) (gj<|K3 bF (ab 4)<|aa (ab 6) af) aY
def sA:s9:=ay (z6 (ap<|ab 2) (ba (Ml (Ml (p9 br (Ml (ab 3) dF<|fP<|dC<|.int 7)<|ab 6) dF<|fP<|p9 br (t7 nj<|aa (ab 3) af)<|ab 5) dF<|fP<|dC<|.int 8) 6) aY)<|mO
def sB:s9:=ay (kt (qZ<|aa (dC<|.int 1)<|aa (ab 1) af) (ag 5)<|ay (ba (t7 lp<|aa (ab 0) af) 6)<|sA)<|mN
def sC:s9:=ay (ba (iP<|aa (ab 3) af) 4)<|sB
def sD:s9:=ay (ba (t7 lp<|aa (ab 0) af) 3)<|sC
def zN:s9:=ay (ba (p9 z8 (t7 aG<|aa (ab 0)<|aa (dC<|.int 2) af)<|dC<|.int 1) 2)<|sD
theorem CM:z0 kB 7 zN:=by
 rintro ds M R ⟨q,m,rfl,C,m1,m4,h⟩;have r:=C.lt;simp only[zN];walk_at"dl";refine⟨q,2,rfl,C,by decide,by decide,λi n _ _=>?_⟩;have w:=C.start.set (n:=n) r;generalize M.set q (.lst [.int n])=F at w;refine⟨⟨rfl,rfl⟩,?_⟩;generalize t6 F t5 (.int i) (.int 1)=v;simp only[sD];walk_at"dl";refine⟨q,rfl,w.hd r,λz n Z s=>?_⟩;have g1:=w.set (n:=n) r;generalize F.set q (.lst [.int n])=I at g1;simp only[sC];walk_at"dl";refine⟨am (by lia),?_⟩;have K:Hl M (I++[MO.lst [D.str z]]) q:=g1.more;have k:(I++[MO.lst [D.str z]])[I.length]?=a7 (.lst<|[z].map D.str):=ad;have pM:=g1.len;generalize I++[MO.lst [D.str z]]=J at K k;generalize I.length=p at k pM;simp only[sB];walk_at"dl";refine⟨⟨by decide,by decide,by lia,by lia⟩,?_⟩;refine aT (λj S f=>Hl M f q/\∃(xs:List c7) (a b:Option D),xs.Nodup/\1<=xs.length/\xs.length<=1+j/\(∀x∈xs,x.length<=8/\eM x)/\f[p]?=a7 (.lst<|xs.map .str)/\S=[a7<|.ref q,a7<|.int m,a7<|.bl v,a7<|.str z,a7<|.ref p,a,b]) ?_ ?_ ⟨K,[z],_,_,by simp,by simp,by simp,by simpa using⟨Z,s⟩,k,rfl⟩;rintro S f ⟨g,xs,a,b,t,P,Q,u,k,rfl⟩;rw[fA]at Q;refine⟨trivial,?_⟩;simp only[mN];walk_at"dl";refine⟨_,.inl k,(Da<|by lia).g,λys O _=>?_⟩;obtain⟨T,rfl,B⟩:=tu O;have hl:=B.length_eq;exact(g.more (L:=[.lst<|T.map .str])).finL g.len ad (xq _) λn=>h T n (B.nodup_iff.mpr t) (by lia) (by lia) λx l=>u x<|B.mem_iff.mp l;rintro j y S f O ⟨g,xs,a,b,t,P,Q,u,k,rfl⟩ G N;obtain⟨hj,rfl⟩:=fB.mp O;refine⟨trivial,?_⟩;walk_at"dl";refine⟨q,rfl,g.hd r,λy n E d=>?_⟩;have g3:=g.set (n:=n) r;have c:(f.set q<|.lst [.int n])[p]?=a7 (.lst<|xs.map .str):=ar (by lia) k;generalize f.set q (.lst [.int n])=U at g3 c;have o:∀y:c7,y.length<=8->eM y->mO ⟨x5 J G,bb M R,λV f=>mN (EE M R) V f,x5 J G⟩ [a7<|.ref q,a7<|.int m,a7<|.bl v,a7<|.str z,a7<|.ref p,a7<|.int<|1+(j:Int),a7<|.str y] U:=λy E d=>by simp only[mO];walk_at"dl";refine⟨_,.inl c,⟨ah,kE⟩,?_⟩;rw[kZ];by_cases A:y∈xs;rw[dT_ A];exact bh<|x5.now<|N _ _ ⟨g3,xs,_,_,t,P,by lia,u,c,rfl⟩;rw[dF_ A];refine bj ⟨⟨_,.inl c⟩,_,c,aH (by rw[u6];lia),?_⟩;refine x5.now<|N _ _ ⟨g3.setO pM,xs++[y],_,_,?_,?_,?_,λx l=>?_,?_,rfl⟩;exact Qr.mpr ⟨t,by simp,λa W b X e=>A<|by rw[show b=y by simpa using X]at e;exact e ▸ W⟩;rw[A3];lia;rw[A3,K2];lia;rcases D6.mp l with l|l;exact u x l;rw[show x=y by simpa using l];exact⟨E,d⟩;rw[F0];exact bK c
 simp only[sA];walk_at"dl";cases v with
 |false=>exact bh<|o y E d
 |true=>have s1:=Txt.slice_le z a8<|a7 7;have Y:=Txt.slice_le (K7 z a8 (a7 7)++y) a8<|a7<|(z.length:Int)+(1+(j:Int));rw[cA]at Y;refine bj ⟨am (by lia),am (by lia),am (by lia),by rw[cA];exact am (by lia),am (by lia),?_⟩;have H:=((s.cut 7).app d).cut<|z.length+(1+j);rw[show ((z.length+(1+j):Nat):Int)=(z.length:Int)+(1+(j:Int)) by lia]at H;exact o _ (Dc _ 8)<|H.cut 8
theorem DC(T:Tops P w K mg base):u8 P w K mg base 3 "_law_names" vF kB:=u8.byD (N:=["_law_held","_law_many","_law_alike","_law_base","_law_names_here","_law_k","_law_name_here"]) T.b T.f_names (by walk_at"sc") Bt (by have:=fH T;have:=AY T;walk_at"dv") CM
def mD:w6:=λd M R=>∃(c:Int),d=[.int c]/\∀p a,HouseF p a->R (az p a) M
theorem Bu:cr mD vG:=by rintro d M R ⟨c,rfl,_⟩;rfl
structure MD(M B:t8)(q p:Nat)(ns:List c7):Prop where
 pre:M <+: B
 qM:M.length<=q
 hd:L8 B q
 ne:p≠q
 nm:B[p]?=a7 (.lst<|ns.map .str)
section
variable{M B:t8}{q p m:Nat}{ns:List c7}{n:Int}{x:MO}
theorem MD.set(g:MD M B q p ns):MD M (B.set q<|.lst [.int n]) q p ns:=⟨bJ g.pre g.qM,g.qM,⟨n,MA g.hd.lt⟩,g.ne,ar g.ne g.nm⟩
theorem MD.more(g:MD M B q p ns):MD M (B++L) q p ns:=⟨g.pre.trans<|G3 _ _,g.qM,by obtain⟨n,h⟩:=g.hd;exact⟨n,aI (G3 _ _) h⟩,g.ne,aI (G3 _ _) g.nm⟩
theorem MD.setO(g:MD M B q p ns)(h1:M.length<=m)(h2:q≠m)(a:p≠m):MD M (B.set m x) q p ns:=⟨bJ g.pre h1,g.qM,by obtain⟨n,h⟩:=g.hd;exact⟨n,ar h2 h⟩,g.ne,ar a g.nm⟩
end
def sF:s9:=bp<|dL<|aa (ab 3)<|aa (t7 iH<|aa (ab 4) af) af
def sG:s9:=gj<|K3 bF (ab 4)<|aa (dL<|aa (ab 5)<|aa (t7 iH<|aa (ab 7) af) af) af
def sH:s9:=ay (lU 1 [2,6] (eK<|aa (t7 nj<|aa (ab 2) af) af) (ag 0) (ap<|p9 z8 (p9 Ax (p9 vB (ab 2)<|p9 IX (dC<|.int 1)<|ab 0)<|dC<|.int 2)<|dC<|.int 1) (p9 u3 (ab 1)<|ab 0) 7)<|sG
def mT:s9:=ay (kt (bE<|t7 kB<|aa (ab 1)<|aa (p9 br (dC<|.int 1)<|t7 aG<|aa (ab 1)<|aa (dC<|.int 4) af) af) (ag 5)<|ay (ba (p9 br (dC<|.int 1)<|t7 aG<|aa (ab 1)<|aa (p9 JG (p9 IX (dC<|.int 1)<|t7 nj<|aa (ab 2) af)<|dC<|.int 1) af) 6)<|sH)<|sF
def sI:s9:=ay (ba (iP af) 4)<|mT
def sJ:s9:=ay (ba (t7 iH<|aa (E6 1 [1] (bE<|ab 2) (ag 0) xT<|dL<|aa (ab 0)<|aa (p9 br (dC<|.int 1)<|t7 aG<|aa (ab 1)<|aa (dC<|.int 3) af) af) af) 3)<|sI
def sK:s9:=ay (ba (t7 kB<|aa (ab 1)<|aa (p9 br (dC<|.int 1)<|t7 aG<|aa (ab 1)<|aa (dC<|.int 4) af) af) 2)<|sJ
def Ab:s9:=ay (ba (t7 fj<|aa (ab 0) af) 1)<|sK
theorem HZ(g:MD M B q p ns)(n1:1<=ns.length)(n4:ns.length<=4)(rM:M.length<=r)(O:r≠q)(rp:r≠p)(C:B[r]?=a7 (.lst []))(h:∀rs:List (c7×List c7),1<=rs.length/\rs.length<=4->(rs.map (·.1)).Nodup->(∀r∈rs,r.2.length<=4)->R (az ps rs) M):mT (EE M R) [y0,a7<|.ref q,a7<|.ref p,a7<|.tup<|ps.map iW,a7<|.ref r,y5,y6,y7] B:=by
 simp only[mT];walk_at"dl";refine⟨q,4,rfl,g.hd,by decide,by decide,λi n i0 i1=>?_⟩;have A:=g.set (n:=n);have t:(B.set q<|.lst [.int n])[r]?=a7 (.lst []):=ar O C;generalize B.set q (.lst [.int n])=f at A t;refine⟨q,1+i,rfl,A.hd,by lia,by lia,λl n wn w1 w4 w8=>?_⟩;have g1:=A.set (n:=n);have T:(f.set q<|.lst [.int n])[r]?=a7 (.lst []):=ar O t;have bl:(f.set q<|.lst [.int n]).length=f.length:=J7 ..;have g2:=g1.more (L:=[.lst<|l.map .str]);have E:=ac (a:=.lst<|l.map .str) T;have m:(f.set q (.lst [.int n])++[.lst<|l.map .str])[f.length]?=a7 (.lst<|l.map .str):=by rw[<-bl];exact ad
 have wM:M.length<=f.length:=A.pre.length_le;have wq:f.length≠q:=by have:=A.hd.lt;lia
 have wp:f.length≠p:=by have:=aX A.nm;lia
 have wr:f.length≠r:=by have:=aX t;lia
 generalize f.set q (.lst [.int n])++[.lst<|l.map .str]=B2 at g2 E m;generalize f.length=w at m wM wq wp wr;refine⟨_,.inl m,λ_=>?_⟩;refine aT (λj S o=>∃(rs:List (c7×List c7)) (a b c:Option D),MD M o q p ns/\o[r]?=a7 (.lst<|rs.map gL)/\o[w]?=a7 (.lst<|l.map .str)/\rs.map (·.1)=l.take j/\rs.length=j/\(∀x∈rs,x.2.length<=4)/\S=[y0,a7<|.ref q,a7<|.ref p,a7<|.tup<|ps.map iW,a7<|.ref r,a,b,c]) ?_ ?_ ⟨[],_,_,_,g2,E,m,rfl,rfl,(λ_ z=>nomatch z),rfl⟩;rintro S o ⟨rs,a,b,c,g,C,m,I,X,Z,rfl⟩;rw[u6]at I X;rw[K9]at I;refine⟨.inl m,?_⟩;simp only[sF];walk_at"dl";refine⟨_,.inl C,am (by lia),?_⟩;refine bb.keep (h rs ⟨by lia,by lia⟩ (by rw[I];exact wn) Z) ?_ g.pre;refine .tup<|.cons (.tup<|Bels.of λd V=>?_)<|.cons (.tup<|Bels.of λd V=>?_) .nil;obtain⟨x,_,rfl⟩:=v6.mp V;exact .tup<|.cons (.str _)<|.cons (.int _) .nil;obtain⟨x,_,rfl⟩:=v6.mp V;exact .tup<|.cons (.str _)<|.cons (.tup<|xq _) .nil;rintro j y S o hy ⟨rs,a,b,c,g,C,m,I,X,Z,rfl⟩ G hG;rw[C8]at hy;obtain⟨s,hs,rfl⟩:=Mz.mp hy;have W:=(x9.mp hs).1;have et:l.take (j+1)=l.take j++[s]:=by rw[Mh,hs];rfl
 refine⟨.inl m,?_⟩;walk_at"dl";have pw:0<(1:Int)*2 ^ ns.length-1/\(1:Int)*2 ^ ns.length-1<100:=by
  have:ns.length=1\/ns.length=2\/ns.length=3\/ns.length=4:=by lia
  rcases this with e|e|e|e<;>rw[e]<;>decide
 refine⟨_,.inl g.nm,⟨by lia,by rw[u6];lia,by decide⟩,?_⟩;rw[u6,Nr];refine⟨q,_,rfl,g.hd,pw.1,by lia,λi n i0 i1=>?_⟩;have g3:=g.set (n:=n);have F:(o.set q<|.lst [.int n])[r]?=a7 (.lst<|rs.map gL):=ar O C;have H:(o.set q<|.lst [.int n])[w]?=a7 (.lst<|l.map .str):=ar wq m;generalize o.set q (.lst [.int n])=B3 at g3 F H;simp only[sH];walk_at"dl";refine⟨_,.inl g3.nm,⟨by lia,by rw[u6];lia⟩,?_⟩;rw[u6,Nr];refine rh (λys acc S P=>∃(xs:List c7) (Q:Option D),acc=xs.map D.str/\xs.length+ys.length<=4/\(∀y∈ys,∃j:Nat,y=.int (0+(j:Int))/\j<ns.length)/\P=B3/\S=[Q,a7<|.ref p,a7<|.int<|1+i]) ?_ ?_ _ _ _ _ ⟨[],_,rfl,by rw[C2,fA];lia,λy' k=>?_,rfl,rfl⟩;rintro acc S P ⟨xs,Q,rfl,N,_,rfl,rfl⟩;rw[C2,Nat.add_zero]at N;refine⟨trivial,?_⟩;simp only[sG];walk_at"dl";have g4:=g3.more (L:=[.lst<|xs.map .str]);have u:=ac (a:=.lst<|xs.map .str) F;have U:=ac (a:=.lst<|xs.map .str) H;refine⟨⟨_,.inl u⟩,_,aw,am (by lia),_,u,aH (by rw[u6];lia),?_⟩;refine x5.now<|hG _ _ ⟨rs++[(s,xs)],_,_,_,g4.setO rM (B8 O)<|B8 rp,?_,ar wr U,?_,?_,λx J=>?_,rfl⟩;rw[F0];exact bK u;rw[F0,I,et];rfl;rw[A3,X];rfl;rcases D6.mp J with J|J;exact Z x J;rw[show x=(s,xs) by simpa using J];exact N;rintro y' ys acc S P ⟨xs,Q,rfl,xl,k,rfl,rfl⟩ K hK;obtain⟨j,rfl,W⟩:=k y' (by simp);rw[C3]at xl;refine⟨trivial,?_⟩;walk_at"dl";have e3:atI (ns.map D.str) (0+(j:Int))=a7 (.str<|ns[j]'(by lia)):=by rw[Int.zero_add];exact aF<|by rw[C8,w9<|by lia];rfl
 have pw:IW (1+i) (1*2 ^ (0+(j:Int)).toNat):=by
  rw[Int.zero_add,Nr];have:j=0\/j=1\/j=2\/j=3:=by lia
  rcases this with rfl|rfl|rfl|rfl<;>exact⟨by decide,by decide⟩
 refine⟨⟨by lia,by lia,by decide⟩,pw,by decide,⟨qD,qD⟩,?_⟩;split;refine⟨_,.inl g3.nm,?_⟩;rw[e3];exact⟨by rw[u6];exact aH (by lia),hK _ _ _ ⟨xs++[_],_,by simp;rfl,by rw[A3,K2];lia,λz v=>k z<|A5 _ v,rfl,rfl⟩⟩;exact hK _ _ _ ⟨xs,_,rfl,by lia,λz v=>k z<|A5 _ v,rfl,rfl⟩;obtain⟨j,W⟩:=Ng k;obtain⟨Y,rfl⟩:=fB.mp W;exact⟨j,rfl,Y⟩
theorem CN:z0 mD 8 Ab:=by
 rintro ds M R ⟨c,rfl,h⟩;simp only[Ab];walk_at"dl";refine⟨c,rfl,λn=>?_⟩;simp only[sK];walk_at"dl";refine⟨M.length,4,rfl,⟨n,ad⟩,by decide,by decide,λi f P Q=>?_⟩;rw[iT];refine⟨M.length,1+i,rfl,⟨f,ad⟩,by lia,by lia,λns f F w C E=>?_⟩;rw[iT];have r:(M++[MO.lst [D.int f]]).length=M.length+1:=by simp
 have g:MD M (M++[MO.lst [D.int f]]++[MO.lst<|ns.map .str]) M.length (M.length+1) ns:=⟨cG.trans cG,u7 _,⟨f,ac ad⟩,by lia,by rw[<-r];exact ad⟩
 have s:∀n:Int,(M++[MO.lst [D.int n]]).length=M.length+1:=λn=>by simp
 rw[s];generalize M++[MO.lst [D.int f]]++[MO.lst<|ns.map .str]=B at g;generalize O:M.length=q at g;generalize q+1=p at g;simp only[sJ];walk_at"dl";refine⟨_,.inl g.nm,λ_=>?_⟩;refine rh (λys acc S d=>∃(ps:List (c7×Int)) (a:Option D) (i:Nat),MD M d q p ns/\acc=ps.map iW/\ps.length=i/\ps.map (·.1)=ns.take i/\(∀x∈ps,(1<=x.2/\x.2<=3)/\(x.1.length<=8/\eM x.1))/\ys=(ns.map D.str).drop i/\i<=ns.length/\S=[a,a7<|.ref q]) ?_ ?_ _ _ _ _ ⟨[],_,0,g,rfl,rfl,rfl,(λ_ z=>nomatch z),by simp,z5 _,rfl⟩;rintro acc S d ⟨ps,a,i,g,rfl,o,m,j,e,v,rfl⟩;have hi:i=ns.length:=by have:=p6 K8 e;rw[C2,MI,u6]at this;lia
 refine⟨.inl g.nm,_,aw,?_⟩;simp only[sI];walk_at"dl";refine⟨z5 _,?_⟩;have u:=(g.more (L:=[.lst<|ps.map iW])).more (L:=[.lst []]);have V:=g.pre.length_le;have W:=g.hd.lt;have G:=aX g.nm;have l:(d++[MO.lst<|ps.map iW]).length=d.length+1:=by simp
 refine HZ u w C (by rw[l];lia) (by rw[l];lia) (by rw[l];lia) ad λN H J I=>h ps N ⟨⟨by lia,by lia⟩,λx b=>(j x b).1,λx b=>(j x b).2.1,H,by rw[m];exact F.sublist<|Qz _ _,J,I,λx b=>(j x b).2.2⟩;rintro y ys acc S d ⟨ps,a,i,g,rfl,o,m,j,e,v,rfl⟩ K A;have hi:i<ns.length:=by have:=p6 K8 e;rw[C3,MI,u6]at this;lia
 have t:i<(ns.map D.str).length:=by rw[u6];exact hi
 rw[QX t]at e;injection e with h1 h2;rw[Oy]at h1;subst h1;refine⟨.inl g.nm,?_⟩;walk_at"dl";refine⟨q,3,rfl,g.hd,by decide,by decide,λk f T U=>?_⟩;refine⟨am (by lia),by rw[u6];exact aH (by lia),A _ _ _ ⟨ps++[(ns[i],1+k)],_,i+1,g.set,by rw[F0];rfl,by rw[A3,o];rfl,?_,λx b=>?_,h2,by lia,rfl⟩⟩;rw[F0,m,Mh,w9 hi];rfl;rcases D6.mp b with b|b;exact j x b;rw[show x=(ns[i],1+k) by simpa using b];exact⟨⟨by show 1<=1+k;lia,by show 1+k<=3;lia⟩,E _<|Mg hi⟩
theorem DF(T:Tops P w K mg base):u8 P w K mg base 4 "_law_house" vG mD:=u8.byD (N:=["_law_cell","_law_held","_law_names_here","_law_people","_law_rooms","_law_room","_law_bits","_law_members"]) T.b T.f_house (by walk_at"sc") Bu (by have:=tG T;have:=fH T;have:=DC T;walk_at"dv") CN
def hX:w6:=λd M R=>∃(q p:Nat) (s:List c7),d=[.ref q,.ref p]/\L8 M q/\p≠q/\aA M p (s.map .str)/\1<=s.length/\s.length<=1000/\(∀x∈s,x.length<=8)/\∀(x:c7) (n:Int),x.length<=100->R (.str x) (M.set q<|.lst [.int n])
theorem yN:cr hX qw:=by rintro d M R ⟨q,p,x,rfl,_⟩;rfl
def oU:s9:=bp<|Ml (ab 3) dF<|fP<|dC<|.int 60
def oV:s9:=ba (p9 br (ab 3)<|p9 u3 (ab 6)<|t7 aG<|aa (ab 0)<|aa (dC<|.int 7) af) 3
def oW:s9:=ay (ba (iP<|aa (p9 br (dC<|.str "@")<|ab 5)<|aa (p9 br (p9 br (dC<|.str "@")<|ab 5)<|dC<|.str " ")<|aa (p9 br (p9 br (dC<|.str "@")<|ab 5)<|dC<|.str "x")<|aa (ab 5)<|aa (dC<|.str "hi ")<|aa (dC<|.str "@")<|aa (p9 br (dC<|.str "@")<|ab 5) af) 6)<|oV
def oX:s9:=ay (kt (eK<|aa (p9 br (dC<|.int 1)<|t7 aG<|aa (ab 0)<|aa (dC<|.int 4) af) af) (ag 4)<|ay (ba (p9 u3 (ab 1)<|t7 aG<|aa (ab 0)<|aa (t7 nj<|aa (ab 1) af) af) 5)<|oW)<|oU
def oY:s9:=bp<|ab 3
def oZ:s9:=ay (z6 (ap<|p9 z8 (t7 aG<|aa (ab 0)<|aa (dC<|.int 3) af)<|dC<|.int 0) (ay (kt (eK<|aa (p9 br (dC<|.int 1)<|t7 aG<|aa (ab 0)<|aa (dC<|.int 60) af) af) (ag 4)<|ba (p9 br (ab 3)<|p9 u3 (ab 2)<|t7 aG<|aa (ab 0)<|aa (dC<|.int 94) af) 3)<|oY) aY)<|oX
def pc:s9:=ay (ba (dC<|.str "") 3)<|oZ
def wP:s9:=ay (ba (dC<|.str " !\"#$&'()*+,-./0123456789:;<=>?@ABCDEFGHIJKLMNOPQRSTUVWXYZ[\\]^_`abcdefghijklmnopqrstuvwxyz{|}~") 2)<|pc
theorem zA:z0 hX 7 wP:=by
 rintro ds M R ⟨q,p,xs,rfl,E,P,F,x1,xl,x8,h⟩;have l:=E.lt;have H:(AA0 " !\"#$&'()*+,-./0123456789:;<=>?@ABCDEFGHIJKLMNOPQRSTUVWXYZ[\\]^_`abcdefghijklmnopqrstuvwxyz{|}~").cps.toList.length=94:=by decide +kernel
 have I:(AA0 " !\"#$&'()*+,-./0123456789:;<=>?@ABCDEFGHIJKLMNOPQRSTUVWXYZ[\\]^_`abcdefghijklmnopqrstuvwxyz{|}~").length=94:=by decide +kernel
 simp only[wP,pc,oZ];generalize AA0 " !\"#$&'()*+,-./0123456789:;<=>?@ABCDEFGHIJKLMNOPQRSTUVWXYZ[\\]^_`abcdefghijklmnopqrstuvwxyz{|}~" = sg at H I;walk_at"dl";refine⟨q,3,rfl,E,by decide,by decide,λi n _ _=>?_⟩;have r:=E.start.set (n:=n) l;generalize M.set q (.lst [.int n])=B at r;refine⟨⟨rfl,rfl⟩,?_⟩;generalize t6 B t5 (.int i) (.int 0)=b;have N:∀c:Nat,(⟨#[c]⟩:c7).length=1:=λ_=>rfl;cases b with
 |true=>refine bj ⟨q,60,rfl,r.hd l,by decide,by decide,λi n Y Z=>?_⟩;have g1:=r.set (n:=n) l;generalize B.set q (.lst [.int n])=U at g1;walk_at"dl";refine⟨⟨by lia,by lia⟩,?_⟩;refine aT (λj S f=>Hl M f q/\∃(z:c7) (a:Option D),z.length=j/\S=[a7<|.ref q,a7<|.ref p,a7<|.str sg,a7<|.str z,a,a8,a8]) ?_ ?_ ⟨g1,AA0 "",_,by decide +kernel,rfl⟩;rintro S f ⟨g,z,a,o,rfl⟩;refine⟨trivial,?_⟩;simp only[oY];walk_at"dl";exact g.fin (.str _) λn=>h z n (by rw[fA]at o;lia);rintro j y S f O ⟨g,z,a,o,rfl⟩ G x;have X:=(fB.mp O).1;refine⟨trivial,?_⟩;walk_at"dl";refine⟨q,94,rfl,g.hd l,by decide,by decide,λk n v u=>?_⟩;have m:=g.set (n:=n) l;generalize f.set q (.lst [.int n])=J at m;obtain⟨K,d,C,_⟩:=ku (xs:=sg.cps.toList) v (by rw[H];exact u);refine⟨by rw[I];exact am (by lia),?_⟩;rw[C];refine⟨by rw[N];exact am (by lia),x5.now<|x _ _ ⟨m,_,_,?_,rfl⟩⟩;rw[cA,N,o]
 |false =>
  refine bh ?_;simp only[oX];walk_at"dl";refine⟨q,4,rfl,r.hd l,by decide,by decide,λi n Y Z=>?_⟩;have g1:=r.set (n:=n) l;generalize B.set q (.lst [.int n])=U at g1;walk_at"dl";refine⟨⟨by lia,by lia⟩,?_⟩;refine aT (λj S f=>Hl M f q/\∃(z:c7) (a b c:Option D),z.length<=20*j/\S=[a7<|.ref q,a7<|.ref p,a7<|.str sg,a7<|.str z,a,b,c]) ?_ ?_ ⟨g1,AA0 "",_,_,_,by decide +kernel,rfl⟩;rintro S f ⟨g,z,a,b,c,o,rfl⟩;rw[fA]at o;refine⟨trivial,?_⟩;simp only[oU];walk_at"dl";exact⟨am (by lia),g.fin (.str _) λn=>h _ n (by have:=Txt.slice_le z a8<|a7 60;lia)⟩;rintro j y S f O ⟨g,z,a,b,c,o,rfl⟩ G x;have X:=(fB.mp O).1;have A:=g.oldL P F;refine⟨trivial,?_⟩;walk_at"dl";refine⟨_,A,q,_,rfl,g.hd l,by rw[u6];lia,by rw[u6];lia,λk n v u=>?_⟩;have m:=g.set (n:=n) l;have t:=m.oldL P F;generalize f.set q (.lst [.int n])=J at m t;obtain⟨K,d,C,_⟩:=ku (xs:=xs.map D.str) v u;rw[Oy]at C;have w8:=x8 _ (Mg<|by rw[u6]at d;exact d);refine⟨_,t,?_⟩;rw[C];generalize xs[K]'(by rw[u6]at d;exact d)=w at w8;have e:(AA0 "@").length=1:=by decide +kernel
  have T:(AA0 " ").length=1:=by decide +kernel
  have Q:(AA0 "x").length=1:=by decide +kernel
  have sh:(AA0 "hi ").length=3:=by decide +kernel
  simp only[oW];walk_at"dl";refine⟨by rw[e];exact am (by lia),by rw[e];exact am (by lia),by rw[cA,e,T];exact am (by lia),by rw[e];exact am (by lia),by rw[cA,e,Q];exact am (by lia),by rw[e];exact am (by lia),am (by lia),?_⟩;simp only[oV];walk_at"dl";refine⟨q,7,rfl,(m.more).hd l,by decide,by decide,λk n v u=>?_⟩;have g3:=(m.more (L:=[.lst [.str<|AA0 "@" ++ w,.str<|AA0 "@" ++ w++AA0 " ",.str<|AA0 "@" ++ w++AA0 "x",.str w,.str<|AA0 "hi ",.str<|AA0 "@",.str<|AA0 "@" ++ w]])).set (n:=n) l;have W:((J++[MO.lst [.str<|AA0 "@" ++ w,.str<|AA0 "@" ++ w++AA0 " ",.str<|AA0 "@" ++ w++AA0 "x",.str w,.str<|AA0 "hi ",.str<|AA0 "@",.str<|AA0 "@" ++ w]]).set q<|.lst [.int n])[J.length]?=a7 (.lst [.str<|AA0 "@" ++ w,.str<|AA0 "@" ++ w++AA0 " ",.str<|AA0 "@" ++ w++AA0 "x",.str w,.str<|AA0 "hi ",.str<|AA0 "@",.str<|AA0 "@" ++ w]):=ar (by have:=m.len;lia) ad;have V:∃s:c7,atI [D.str<|AA0 "@" ++ w,.str<|AA0 "@" ++ w++AA0 " ",.str<|AA0 "@" ++ w++AA0 "x",.str w,.str<|AA0 "hi ",.str<|AA0 "@",.str<|AA0 "@" ++ w] k=a7 (.str s)/\s.length<=20:=by
   have:k=0\/k=1\/k=2\/k=3\/k=4\/k=5\/k=6:=by lia
   rcases this with rfl|rfl|rfl|rfl|rfl|rfl|rfl;exact⟨_,aF (j:=0) rfl,by rw[cA,e];lia⟩;exact⟨_,aF (j:=1) rfl,by rw[cA,cA,e,T];lia⟩;exact⟨_,aF (j:=2) rfl,by rw[cA,cA,e,Q];lia⟩;exact⟨_,aF (j:=3) rfl,by lia⟩;exact⟨_,aF (j:=4) rfl,by rw[sh];lia⟩;exact⟨_,aF (j:=5) rfl,by rw[e];lia⟩;exact⟨_,aF (j:=6) rfl,by rw[cA,e];lia⟩
  obtain⟨s,es,sl⟩:=V;refine⟨_,.inl W,?_⟩;rw[es];refine⟨am (by lia),x5.now<|x _ _ ⟨g3,_,_,_,_,?_,rfl⟩⟩;rw[cA];lia
theorem AV(T:Tops P w K mg base):u8 P w K mg base 2 "_law_saying" qw hX:=u8.byD (N:=["_law_held","_law_names_here","_law_signs","_law_saying_here","_law_k","_law_name_here","_law_pieces"]) T.b T.f_saying (by walk_at"sc") yN (by have:=fH T;walk_at"dv") zA
def dH:w6:=λb M R=>∃(q p s:Nat) (h a:List D),b=[.ref q,.ref p,.ref s]/\L8 M q/\p≠q/\s≠q/\aA M p h/\(∀x∈h,Hd x)/\1<=h.length/\h.length<=12/\aA M s a/\(∀x∈a,St x)/\a.length<=1000/\∀(d:D) (n:Int),St d->R d (M.set q<|.lst [.int n])
theorem Ef:cr dH AL:=by rintro d M R ⟨q,p,s,h,a,rfl,_⟩;rfl
theorem St.bel(h:St d):C1 k d:=cO 2 d h.pl
def wW:s9:=bp<|p9 u3 (ab 2)<|t7 aG<|aa (ab 0)<|aa (t7 nj<|aa (ab 2) af) af
def wX:s9:=ay (z6 (ap<|p9 z8 (ab 3)<|dC<|.int 1) (bp<|dL<|aa (p9 br (dC<|.int 1)<|t7 aG<|aa (ab 0)<|aa (p9 Gs (dC<|.int 10)<|dC<|.int 9) af)<|aa (p9 u3 (ab 1)<|t7 aG<|aa (ab 0)<|aa (t7 nj<|aa (ab 1) af) af) af) aY)<|wW
def wY:s9:=ay (z6 (ML (ap<|p9 z8 (ab 3)<|dC<|.int 0)<|ap<|p9 z8 (ab 2)<|iP af) (bp<|dL<|aa (p9 br (dC<|.int 1)<|t7 aG<|aa (ab 0)<|aa (dC<|.int 70) af)<|aa (p9 u3 (ab 1)<|t7 aG<|aa (ab 0)<|aa (t7 nj<|aa (ab 1) af) af) af) aY)<|wX
def Fq:s9:=ay (ba (t7 aG<|aa (ab 0)<|aa (dC<|.int 8) af) 3)<|wY
theorem qq(l:q<M.length)(P:p≠q)(b:aA M p s)(f:∀x∈s,Hd x)(h1:1<=s.length)(e:s.length<=12)(h:∀(d:D) (n:Int),St d->R d (M.set q<|.lst [.int n]))(g:Hl M B q)(t:∀S B Q,Q (.int m) B->tm S B Q)(F:0<m)(V:m<100000000000):(bp<|dL<|aa (p9 br (dC<|.int 1)<|t7 aG<|aa (ab 0)<|aa tm af)<|aa (p9 u3 (ab 1)<|t7 aG<|aa (ab 0)<|aa (t7 nj<|aa (ab 1) af) af) af) (EE M R) [a7<|.ref q,a7<|.ref p,y2,y3] B:=by
 walk_at"dl";refine t _ _ _ ?_;refine⟨q,m,rfl,g.hd l,F,V,λi n r K=>?_⟩;have g1:=g.set (n:=n) l;generalize B.set q (.lst [.int n])=I at g1;refine⟨s,g1.oldL P b,q,_,rfl,g1.hd l,by lia,by lia,λk n v G=>?_⟩;have a:=g1.set (n:=n) l;generalize I.set q (.lst [.int n])=J at a;obtain⟨j,L,C,_⟩:=ku (xs:=s) v G;obtain⟨z,o,c⟩:=f _<|Mg L;refine⟨s,a.oldL P b,?_⟩;rw[C];have:St (.tup [.int<|1+i,s[j]]):=⟨1+i,z,o,by rw[c]⟩
 exact⟨am (by lia),a.fin this.bel λn=>h _ n this⟩
theorem FY:z0 dH 4 Fq:=by
 rintro ds M R ⟨q,p,s,hs,a,rfl,v,P,sq,r,f,h1,e,u,c,O,h⟩;have l:=v.lt;have o:∀{B:t8},∀x∈a,u5 B 29 x=a9:=λ{B} x b=>by obtain⟨t,z,k,rfl⟩:=c x b;rfl
 simp only[Fq];walk_at"dl";refine⟨q,8,rfl,v,by decide,by decide,λi n _ _=>?_⟩;have g:=v.start.set (n:=n) l;generalize M.set q (.lst [.int n])=y at g;simp only[wY];walk_at"dl";refine⟨⟨rfl,rfl⟩,?_⟩;generalize t6 y t5 (.int i) (.int 0)=A;cases A with
 |true=>exact bj<|qq (m:=70) (tm:=dC<|.int 70) (y2:=a7<|.ref s) (y3:=a7<|.int i) l P r f h1 e h g (λ_ _ _ q=>q) (by decide)<|by decide
 |false =>
  refine bh ?_;obtain⟨w,D⟩:=ii (g.oldL sq u) o;refine⟨z5 _,w,?_⟩;rw[D];have g1:=g.more (L:=[.lst []]);generalize y++[MO.lst []]=I at g1;cases F:a.isEmpty with
  |true=>exact bj<|qq (m:=70) (tm:=dC<|.int 70) (y2:=a7<|.ref s) (y3:=a7<|.int i) l P r f h1 e h g1 (λ_ _ _ q=>q) (by decide)<|by decide
  |false =>
   refine bh ?_;simp only[wX];walk_at"dl";refine⟨⟨rfl,rfl⟩,?_⟩;generalize t6 I t5 (.int i) (.int 1)=C;cases C with
   |true=>exact bj<|qq (m:=10 ^ Int.toNat 9) (tm:=p9 Gs (dC<|.int 10)<|dC<|.int 9) (y2:=a7<|.ref s) (y3:=a7<|.int i) l P r f h1 e h g1 (λ_ _ _ q=>⟨⟨by decide,by decide,by decide⟩,q⟩) (by decide)<|by decide
   |false =>
    refine bh ?_;simp only[wW];walk_at"dl";have N:1<=a.length:=by
     cases a with
     |nil=>cases F
     |cons x xs=>simp
    refine⟨a,g1.oldL sq u,q,_,rfl,g1.hd l,by lia,by lia,λk n H J=>?_⟩;have d:=g1.set (n:=n) l;generalize I.set q (.lst [.int n])=K at d;obtain⟨j,G,E,_⟩:=ku (xs:=a) H J;refine⟨a,d.oldL sq u,?_⟩;rw[E];have b:=c _<|Mg G;exact d.fin b.bel λn=>h _ n b
theorem AX(T:Tops P w K mg base):u8 P w K mg base 2 "_law_pick" AL dH:=u8.byD (N:=["_law_held","_law_hands_here","_law_says","_law_way"]) T.b T.f_pick (by walk_at"sc") Ef (by have:=fH T;walk_at"dv") FY
def kz:w6:=λd M R=>∃(q p t:Nat) (h:List D) (s:List (D×D)),d=[.ref q,.ref p,.ref t]/\L8 M q/\p≠q/\t≠q/\aA M p h/\(∀x∈h,Hd x)/\h.Nodup/\h.length<=12/\M[t]?=a7 (.dkt s)/\(∀x∈s,∃v:Int,x.2=.int v/\0<=v/\v<=1000)/\∀(a:List D) (n:Int),nY 3 a->VecK a->R (.tup a) (M.set q<|.lst [.int n])
theorem yL:cr kz qt:=by rintro d M R ⟨q,p,t,h,s,rfl,_⟩;rfl
theorem nY.snoc(h:nY n s)(t:G0 n d):nY n (s++[d]):=by unfold nY at h ⊢;rw[List.all_append,h];simpa [G0]using t
def oJ:s9:=bp<|t7 iH<|aa (ab 3) af
def oK:s9:=z6 (ap<|p9 NA (ab 5)<|dC<|.int 0) (gj<|K3 bF (ab 3)<|aa (dL<|aa (ab 4)<|aa (ab 5) af) af) aY
def oM:s9:=ay (kt (bE<|ab 1) (ag 4)<|ay (ba (t7 aG<|aa (ab 0)<|aa (p9 br (ND iI (ab 2)<|aa (ab 4)<|aa (dC<|.int 0) af)<|dC<|.int 3) af) 5)<|oK)<|oJ
def wK:s9:=ay (ba (iP af) 3)<|oM
theorem zx:z0 kz 6 wK:=by
 rintro ds M R ⟨q,p,t,hs,m,rfl,C,P,U,j,L,x,J,N,Q,h⟩;have E:=C.lt;simp only[wK,oM];walk_at"dl";refine⟨z5 _,_,j.more _,λ_=>?_⟩;have I:Hl M (M++[MO.lst []]) q:=C.start.more;refine aT (λi S l=>∃(vs:List D) (a b:Option D),Hl M l q/\l[M.length]?=a7 (.lst vs)/\nY 3 vs/\(∃s:List (D×Int),vs=kC s/\(∀p∈s,Hd p.1)/\s.length<=i/\(s.map (·.1)).Sublist (hs.take i))/\vs.length<=i/\S=[a7<|.ref q,a7<|.ref p,a7<|.ref t,a7<|.ref M.length,a,b]) ?_ ?_ ⟨[],_,_,I,ad,.nil,⟨[],rfl,(λ_ z=>nomatch z),u7 _,List.Sublist.refl _⟩,u7 _,rfl⟩;rintro S l ⟨vs,a,b,g,r,pv,⟨s,w,o,W,T⟩,V,rfl⟩;refine⟨g.oldL P j,?_⟩;simp only[oJ];walk_at"dl";exact⟨_,.inl r,g.fin (cO 4 _<|.tup pv) λn=>h vs n pv ⟨s,w,o,by lia,by rw[K9]at T;exact T.nodup x⟩⟩;rintro i y S l O ⟨vs,a,b,g,r,pv,⟨s,w,o,W,T⟩,V,rfl⟩ G u;have hi:=(x9.mp O).1;have F:hs.take (i+1)=hs.take i++[y]:=by rw[Mh,O];rfl
 rw[F]at u;obtain⟨z,k,rfl⟩:=L y<|D2 O;refine⟨g.oldL P j,?_⟩;walk_at"dl";have B:=g.old U N;refine⟨⟨_,B⟩,_,B,rfl,?_⟩;have K:∃v:Int,(aV m<|.tup [.str z,.int k]).getD (.int 0)=.int v/\0<=v/\v<=1000:=by
  cases e:aV m (.tup [.str z,.int k]) with
  |none=>exact⟨0,rfl,by decide,by decide⟩
  |some d=>exact Q _<|bC e
 obtain⟨v,H,v0,v1⟩:=K;rw[H];refine⟨q,v+3,rfl,g.hd E,by lia,by lia,λc n Y Z=>?_⟩;have g1:=g.set (n:=n) E;have f:(l.set q<|.lst [.int n])[M.length]?=a7 (.lst vs):=ar (by lia) r;generalize l.set q (.lst [.int n])=X at g1 f;simp only[oK];walk_at"dl";by_cases A:c > 0;rw[dT_ A];refine bj ⟨⟨_,.inl f⟩,am (by lia),_,f,aH (by lia),?_⟩;exact x5.now<|u _ _ ⟨_,_,_,g1.setO<|u7 _,bK f,pv.snoc<|.tup<|.cons (Ic ⟨_,_,rfl⟩)<|.cons (.int _) .nil,⟨s++[(.tup [.str z,.int k],c)],by rw[w];unfold kC;rw[F0];rfl,λp j=>by rcases D6.mp j with j|j;exact o p j;rw[J6.mp j];exact⟨_,_,rfl⟩,by rw[A3,K2];lia,by rw[F0];exact T.append<|List.Sublist.refl _⟩,by rw[A3,K2];lia,rfl⟩;rw[dF_ A];exact bh<|x5.now<|u _ _ ⟨vs,_,_,g1,f,pv,⟨s,w,o,by lia,T.trans<|List.sublist_append_left _ _⟩,by lia,rfl⟩
theorem AT(T:Tops P w K mg base):u8 P w K mg base 2 "_law_vector" qt kz:=u8.byD (N:=["_law_held","_law_hands_here","_law_done","_law_found","_law_hand","_law_count"]) T.b T.f_vector (by walk_at"sc") yL (by have:=fH T;walk_at"dv") zx
def rB:w6:=λc M R=>∃(q p s:Nat) (b:List (c7×Int)) (r:List (c7×List c7)) (h a:List D),c=[.ref q,az b r,.ref p,.ref s]/\L8 M q/\HouseF b r/\p≠q/\s≠q/\aA M p h/\(∀x∈h,Hd x)/\1<=h.length/\h.length<=12/\aA M s a/\(∀x∈a,St x)/\a.length<=1000/\∀(d:D) (n:Int),eL d->R d (M.set q<|.lst [.int n])
theorem Eb:cr rB AH:=by rintro d M R ⟨q,p,s,b,r,h,a,rfl,_⟩;rfl
def wH:s9:=bp<|dL<|aa (dC<|.str "under")<|aa (t7 dH<|aa (ab 0)<|aa (ab 2)<|aa (ab 3) af) af
def wI:s9:=ay (z6 (ap<|p9 z8 (ab 4)<|dC<|.int 1) (bp<|dL<|aa (dC<|.str "person")<|aa (p9 u3 (p9 u3 (p9 u3 (ab 1)<|dC<|.int 0)<|t7 aG<|aa (ab 0)<|aa (t7 nj<|aa (p9 u3 (ab 1)<|dC<|.int 0) af) af)<|dC<|.int 0) af) aY)<|wH
def wJ:s9:=ay (z6 (ap<|p9 z8 (ab 4)<|dC<|.int 0) (bp<|dL<|aa (dC<|.str "room")<|aa (p9 u3 (p9 u3 (p9 u3 (ab 1)<|dC<|.int 1)<|t7 aG<|aa (ab 0)<|aa (t7 nj<|aa (p9 u3 (ab 1)<|dC<|.int 1) af) af)<|dC<|.int 0) af) aY)<|wI
def Fl:s9:=ay (ba (t7 aG<|aa (ab 0)<|aa (dC<|.int 3) af) 4)<|wJ
theorem FU:z0 rB 5 Fl:=by
 rintro ds M R ⟨q,p,s,ps,x,hs,f,rfl,b,m,P,sq,w,r,h1,e,u,c,y,h⟩;have l:=b.lt;have D:=m.len;have E:=m.rl;simp only[Fl,az];walk_at"dl";refine⟨q,3,rfl,b,by decide,by decide,λi n _ _=>?_⟩;have a:=b.start.set (n:=n) l;generalize M.set q (.lst [.int n])=B at a;simp only[wJ];walk_at"dl";refine⟨⟨rfl,rfl⟩,?_⟩;generalize t6 B t5 (.int i) (.int 0)=A;cases A with
 |true=>refine bj ⟨q,_,rfl,a.hd l,by rw[u6];lia,by rw[u6];lia,λk n v G=>?_⟩;have g1:=a.set (n:=n) l;generalize B.set q (.lst [.int n])=I at g1;obtain⟨j,L,C,_⟩:=ku (xs:=x.map gL) v G;rw[Oy]at C;walk_at"dl";rw[C];unfold gL;walk_at"dl";refine⟨am (by lia),g1.fin (.tup<|.cons (.str _)<|.cons (.str _) .nil) λn=>h _ n<|.inl ⟨_,rfl⟩⟩
 |false =>
  refine bh ?_;simp only[wI];walk_at"dl";refine⟨⟨rfl,rfl⟩,?_⟩;generalize t6 B t5 (.int i) (.int 1)=o;cases o with
  |true=>refine bj ⟨q,_,rfl,a.hd l,by rw[u6];lia,by rw[u6];lia,λk n v G=>?_⟩;have g1:=a.set (n:=n) l;generalize B.set q (.lst [.int n])=I at g1;obtain⟨j,L,C,_⟩:=ku (xs:=ps.map iW) v G;rw[Oy]at C;walk_at"dl";rw[C];unfold iW;walk_at"dl";refine⟨am (by lia),g1.fin (.tup<|.cons (.str _)<|.cons (.str _) .nil) λn=>h _ n<|.inr<|.inl ⟨_,rfl⟩⟩
  |false=>refine bh ?_;simp only[wH];walk_at"dl";refine⟨q,p,s,hs,f,rfl,a.hd l,P,sq,a.oldL P w,r,h1,e,a.oldL sq u,c,y,λd n g=>?_⟩;have g1:=a.set (n:=n) l;generalize B.set q (.lst [.int n])=I at g1;exact⟨am (by lia),g1.fin (.tup<|.cons (.str _)<|.cons g.bel .nil) λn=>h _ n<|.inr<|.inr (by obtain⟨t,z,k,rfl⟩:=g;exact⟨t,z,k,rfl⟩)⟩
theorem GQ(T:Tops P w K mg base):u8 P w K mg base 3 "_law_what" AH rB:=u8.byD (N:=["_law_held","_law_house_here","_law_hands_here","_law_says","_law_way"]) T.b T.f_what (by walk_at"sc") Eb (by have:=fH T;have:=AX T;walk_at"dv") FU
def yc:w6:=λd M R=>∃(q p s t:Nat) (b:List (c7×Int)) (r:List (c7×List c7)) (h a:List D) (k:List (D×D)),d=[.ref q,az b r,.ref p,.ref s,.ref t]/\L8 M q/\HouseF b r/\(p≠q/\s≠q/\t≠q)/\aA M p h/\(∀x∈h,Hd x)/\h.Nodup/\1<=h.length/\h.length<=12/\aA M s a/\(∀x∈a,St x)/\a.length<=1000/\M[t]?=a7 (.dkt k)/\(∀x∈k,∃v:Int,x.2=.int v/\0<=v/\v<=1000)/\∀(x:c7) (W:List D) (n:Int),nY 4 W->ActK r x W->R (.tup<|.str x::W) (M.set q<|.lst [.int n])
theorem Hi:cr yc GN:=by rintro d M R ⟨q,p,s,t,b,r,h,a,k,rfl,_⟩;rfl
theorem hW(g:Hl M B q)(h:∀(x:c7) (dl:List D) (n:Int),nY 4 dl->ActK r x dl->R (.tup<|.str x::dl) (M.set q<|.lst [.int n]))(p:nY 4 dl)(f:ActK r x dl):bb M R (.tup<|.str x::dl) B:=g.fin (cO 5 _<|.tup<|.cons (.str _) p) λn=>h x dl n p f
def xm:s9:=bp<|dL<|aa (dC<|.str "rung")<|aa (t7 dH<|aa (ab 0)<|aa (ab 2)<|aa (ab 3) af) af
def xn:s9:=ay (z6 (ap<|p9 z8 (ab 5)<|dC<|.int 9) (bp<|dL<|aa (dC<|.str "hush")<|aa (t7 rB<|aa (ab 0)<|aa (ab 1)<|aa (ab 2)<|aa (ab 3) af)<|aa (p9 NA (t7 aG<|aa (ab 0)<|aa (dC<|.int 3) af)<|dC<|.int 0) af) aY)<|xm
def xo:s9:=ay (z6 (ap<|p9 z8 (ab 5)<|dC<|.int 8) (bp<|dL<|aa (dC<|.str "seen")<|aa (t7 dH<|aa (ab 0)<|aa (ab 2)<|aa (ab 3) af) af) aY)<|xn
def xp:s9:=ay (z6 (ap<|p9 z8 (ab 5)<|dC<|.int 7) (bp<|dL<|aa (dC<|.str "read")<|aa (ab 7)<|aa (t7 kz<|aa (ab 0)<|aa (ab 2)<|aa (ab 4) af) af) aY)<|xo
def Ad:s9:=bp<|dL<|aa (dC<|.str "like")<|aa (t7 dH<|aa (ab 0)<|aa (ab 2)<|aa (ab 3) af)<|aa (ab 9)<|aa (p9 NA (t7 aG<|aa (ab 0)<|aa (dC<|.int 3) af)<|dC<|.int 0) af
def Ae:s9:=ay (z6 (ap<|p9 z8 (ab 5)<|dC<|.int 6) (ay (ba (p9 u3 (iP<|aa (dC<|.str "good")<|aa (dC<|.str "no")<|aa (t7 lp<|aa (ab 0) af) af)<|t7 aG<|aa (ab 0)<|aa (dC<|.int 3) af) 9)<|Ad) aY)<|xp
def Af:s9:=ay (z6 (ap<|p9 z8 (ab 5)<|dC<|.int 5) (bp<|dL<|aa (dC<|.str "back")<|aa (t7 dH<|aa (ab 0)<|aa (ab 2)<|aa (ab 3) af) af) aY)<|Ae
def qf:s9:=ay (z6 (ap<|p9 z8 (ab 5)<|dC<|.int 4) (bp<|dL<|aa (dC<|.str "change")<|aa (t7 dH<|aa (ab 0)<|aa (ab 2)<|aa (ab 3) af)<|aa (t7 hX<|aa (ab 0)<|aa (ab 6) af) af) aY)<|Af
def vc:s9:=bp<|dL<|aa (dC<|.str "say")<|aa (ab 7)<|aa (ab 8)<|aa (t7 hX<|aa (ab 0)<|aa (ab 6) af) af
def ve:s9:=ay (z6 (rj (ap<|p9 NA (t7 aG<|aa (ab 0)<|aa (dC<|.int 3) af)<|dC<|.int 0)<|ap<|p9 Nz (ab 3)<|iP af) (ba (t7 dH<|aa (ab 0)<|aa (ab 2)<|aa (ab 3) af) 8) aY)<|vc
def Ag:s9:=ay (z6 (ML (ap<|p9 Nj (ab 5)<|dC<|.int 4)<|rj (ap<|p9 z8 (ab 3)<|iP af)<|ap<|p9 Nj (ab 5)<|dC<|.int 7) (ay (ba (dC .non) 8)<|ve) aY)<|qf
def Ah:s9:=ay (ba (p9 u3 (p9 u3 (p9 u3 (ab 1)<|dC<|.int 1)<|t7 aG<|aa (ab 0)<|aa (t7 nj<|aa (p9 u3 (ab 1)<|dC<|.int 1) af) af)<|dC<|.int 0) 7)<|Ag
def Ai:s9:=ay (lU 2 [] (bE<|p9 u3 (ab 1)<|dC<|.int 0) (jr 2<|aO (ag 0)<|aO (ag 1) jt) xT (ab 0) 6)<|Ah
def Js:s9:=ay (ba (t7 aG<|aa (ab 0)<|aa (dC<|.int 11) af) 5)<|Ai
section
variable{M B:t8}{R:DK}{q p s t w:Nat}{ps:List (c7×Int)}{rs:List (c7×List c7)}{hs sts:List D}{kvs:List (D×D)}{kind:Int}{xs:List c7}{room:c7}{y8 y9:Option D}
theorem act_6(l:q<M.length)(X:HouseF ps rs)(F:p≠q/\s≠q/\t≠q)(r:aA M p hs)(m:∀x∈hs,Hd x)(o:hs.Nodup)(h1:1<=hs.length)(b:hs.length<=12)(u:aA M s sts)(c:∀x∈sts,St x)(H:sts.length<=1000)(Y:M[t]?=a7 (.dkt kvs))(Z:∀x∈kvs,∃v:Int,x.2=.int v/\0<=v/\v<=1000)(g:Hl M B q) (wM:M.length<=w) (V:B[w]?=a7 (.lst<|xs.map .str)) (x1:1<=xs.length) (x4:xs.length<=4) (x8:∀x∈xs,x.length<=8)(h:∀(x:c7) (dl:List D) (n:Int),nY 4 dl->ActK rs x dl->R (.tup<|.str x::dl) (M.set q<|.lst [.int n])):qf (EE M R) [a7<|.ref q,a7<|az ps rs,a7<|.ref p,a7<|.ref s,a7<|.ref t,a7<|.int kind,a7<|.ref w,a7<|.str room,y8,y9] B:=by
 have i:∀{B:t8}{Q:DK},Hl M B q->(∀(d:D) (B':t8),St d->Hl M B' q->(∀j x,M.length<=j->B[j]?=a7 x->B'[j]?=a7 x)->Q d B')->dH [.ref q,.ref p,.ref s] B Q:=λ{B Q} g k =>
  ⟨q,p,s,hs,sts,rfl,g.hd l,F.1,F.2.1,g.oldL F.1 r,m,h1,b,g.oldL F.2.1 u,c,H,λd n a=>k d _ a (g.set l) λj x hj e=>ar (by lia) e⟩
 simp only[qf];walk_at"dl";refine⟨⟨rfl,rfl⟩,?_⟩;generalize t6 B t5 (.int kind) (.int 4)=K;cases K with
 |true=>refine bj<|i g λd I a g1 f=>?_;refine⟨q,w,xs,rfl,g1.hd l,by lia,.inl<|f _ _ wM V,x1,by lia,x8,λz n J=>?_⟩;exact⟨am (by lia),hW (g1.set l) h (.cons a.pl<|.cons (.str _) .nil)<|.mkChange a J⟩
 |false =>
 refine bh ?_;simp only[Af];walk_at"dl";refine⟨⟨rfl,rfl⟩,?_⟩;generalize t6 B t5 (.int kind) (.int 5)=N;cases N with
 |true=>exact bj<|i g λd I a g1 f=>⟨am (by lia),hW g1 h (.cons a.pl .nil)<|.mkBack a⟩
 |false =>
 refine bh ?_;simp only[Ae];walk_at"dl";refine⟨⟨rfl,rfl⟩,?_⟩;generalize t6 B t5 (.int kind) (.int 6)=O;cases O with
 |true =>
  refine bj ⟨q,rfl,g.hd l,λz n J _=>?_⟩;have g1:=g.set (n:=n) l;generalize B.set q (.lst [.int n])=I at g1;refine⟨am (by lia),q,3,rfl,(g1.more).hd l,by decide,by decide,λk n E G=>?_⟩;have C:=(g1.more (L:=[.lst [.str<|AA0 "good",.str<|AA0 "no",.str z]])).set (n:=n) l;have W:((I++[MO.lst [.str<|AA0 "good",.str<|AA0 "no",.str z]]).set q<|.lst [.int n])[I.length]?=a7 (.lst [.str<|AA0 "good",.str<|AA0 "no",.str z]):=ar (by have:=g1.len;lia) ad;generalize (I++[MO.lst [.str<|AA0 "good",.str<|AA0 "no",.str z]]).set q (.lst [.int n])=B2 at C W;have U:∃s:c7,atI [D.str<|AA0 "good",.str<|AA0 "no",.str z] k=a7 (.str s):=by
   have:k=0\/k=1\/k=2:=by lia
   rcases this with rfl|rfl|rfl;exact⟨_,aF (j:=0) rfl⟩;exact⟨_,aF (j:=1) rfl⟩;exact⟨_,aF (j:=2) rfl⟩
  obtain⟨so,es⟩:=U;refine⟨_,.inl W,?_⟩;rw[es];simp only[Ad];walk_at"dl";refine i C λd B3 a g3 f=>?_;refine⟨q,3,rfl,g3.hd l,by decide,by decide,λk n E G=>?_⟩;exact⟨am (by lia),hW (g3.set l) h (.cons a.pl<|.cons (.str _)<|.cons (.bl _) .nil)<|.mkLike a⟩
 |false =>
 refine bh ?_;simp only[xp];walk_at"dl";refine⟨⟨rfl,rfl⟩,?_⟩;generalize t6 B t5 (.int kind) (.int 7)=P;cases P with
 |true=>refine bj ⟨q,p,t,hs,kvs,rfl,g.hd l,F.1,F.2.2,g.oldL F.1 r,m,o,b,g.old F.2.2 Y,Z,λvs n A y=>?_⟩;exact⟨am (by lia),hW (g.set l) h (.cons (.str _)<|.cons (.tup A) .nil)<|.mkRead y⟩
 |false =>
 refine bh ?_;simp only[xo];walk_at"dl";refine⟨⟨rfl,rfl⟩,?_⟩;generalize t6 B t5 (.int kind) (.int 8)=S;cases S with
 |true=>exact bj<|i g λd I a g1 f=>⟨am (by lia),hW g1 h (.cons a.pl .nil)<|.mkSeen a⟩
 |false =>
 refine bh ?_;simp only[xn];walk_at"dl";refine⟨⟨rfl,rfl⟩,?_⟩;generalize t6 B t5 (.int kind) (.int 9)=T;cases T with
 |true=>refine bj ⟨q,p,s,ps,rs,hs,sts,rfl,g.hd l,X,F.1,F.2.1,g.oldL F.1 r,m,h1,b,g.oldL F.2.1 u,c,H,λd n a=>?_⟩;have g1:=g.set (n:=n) l;generalize B.set q (.lst [.int n])=I at g1;refine⟨q,3,rfl,g1.hd l,by decide,by decide,λk n E G=>?_⟩;exact⟨am (by lia),hW (g1.set l) h (.cons a.pl4<|.cons (.bl _) .nil)<|.mkHush a⟩
 |false =>
 refine bh ?_;simp only[xm];walk_at"dl";exact i g λd I a g1 f=>⟨am (by lia),hW g1 h (.cons a.pl .nil)<|.mkRung a⟩
end
theorem Ji:z0 yc 10 Js:=by
 rintro ds M R ⟨q,p,s,t,ps,C,hs,r,aj,rfl,hq,V,J,hp,hh,ai,h1,N,o,I,sl,ht,hv,h⟩;have l:=hq.lt;have l1:=V.len;have l2:=V.rl;simp only[Js];walk_at"dl";refine⟨q,11,rfl,hq,by decide,by decide,λc n _ _=>?_⟩;have Z:=hq.start.set (n:=n) l;generalize M.set q (.lst [.int n])=Q at Z;simp only[Ai,az];walk_at"dl";intro _;refine cL (λd=>(match d with|.tup (x::_)=>x|_=>.non)) (λS=>∃a b,S=[a,b]) trivial _ _ _ (λx O S hS=>?_) ⟨_,_,rfl⟩ (by rw[C2,u6];exact am<|by lia) ?_;obtain⟨a,b,rfl⟩:=hS;obtain⟨y,_,rfl⟩:=v6.mp O;refine⟨[a7<|.str y.1,a7<|.int y.2],⟨_,_,rfl⟩,λY hY=>?_⟩;unfold iW;walk_at"dl";exact⟨trivial,hY⟩;rw[F4];have en:(ps.map iW).map (λd=>(match d with|.tup (x::_)=>x|_=>.non))=(ps.map (·.1)).map D.str:=by rw[Fn,Fn];rfl
 rw[en];have g1:=Z.more (L:=[.lst ((ps.map (·.1)).map D.str)]);have i:(Q++[MO.lst ((ps.map (·.1)).map D.str)])[Q.length]?=a7 (.lst ((ps.map (·.1)).map D.str)):=ad;have wM:=Z.len;have x8:∀x∈ps.map (·.1),x.length<=8:=λx O=>by obtain⟨y,hy,rfl⟩:=v6.mp O;exact V.nm y hy
 have xl:(ps.map (·.1)).length=ps.length:=u6 _;generalize Q++[MO.lst ((ps.map (·.1)).map D.str)]=B1 at g1 i;generalize Q.length=w at i wM;generalize ps.map (·.1)=xs at i x8 xl;simp only[Ah];walk_at"dl";refine⟨q,_,rfl,g1.hd l,by rw[u6];lia,by rw[u6];lia,λk n k0 k1=>?_⟩;have T:=g1.set (n:=n) l;have F:(B1.set q<|.lst [.int n])[w]?=a7 (.lst<|xs.map .str):=ar (by lia) i;generalize B1.set q (.lst [.int n])=B2 at T F;obtain⟨j,hj,ej,_⟩:=ku (xs:=C.map gL) k0 k1;rw[Oy]at ej;have G:j<C.length:=by rw[u6]at hj;exact hj
 have hr:(C[j]'G).1∈C.map (·.1):=L0<|Mg G;walk_at"dl";rw[ej];unfold gL;walk_at"dl";generalize (C[j]'G).1=m at hr;have A:∀{B:t8},∀x∈r,u5 B 29 x=a9:=λ{B} x O=>by obtain⟨t,z,k,rfl⟩:=I x O;rfl
 have P:∀{B:t8}{y8 y9:Option D},Hl M B q->B[w]?=a7 (.lst<|xs.map .str)->qf (EE M R) [a7<|.ref q,a7<|az ps C,a7<|.ref p,a7<|.ref s,a7<|.ref t,a7<|.int c,a7<|.ref w,a7<|.str m,y8,y9] B:=λg i=>act_6 l V J hp hh ai h1 N o I sl ht hv g wM i (by lia) (by lia) x8 h;have v:∀{E:DEnds}{B:t8}{y9:Option D},E.rt=bb M R->Hl M B q->B[w]?=a7 (.lst<|xs.map .str)->ve E [a7<|.ref q,a7<|az ps C,a7<|.ref p,a7<|.ref s,a7<|.ref t,a7<|.int c,a7<|.ref w,a7<|.str m,a7 .non,y9] B:=λ{E B y9} eR g i=>by
  have e:∀{B:t8}{u:D},Hl M B q->B[w]?=a7 (.lst<|xs.map .str)->(u=.non\/St u)->vc E [a7<|.ref q,a7<|az ps C,a7<|.ref p,a7<|.ref s,a7<|.ref t,a7<|.int c,a7<|.ref w,a7<|.str m,a7 u,y9] B:=λ{B u} g i W=>by
   simp only[vc];walk_at"dl";refine⟨q,w,xs,rfl,g.hd l,by lia,.inl i,by lia,by lia,x8,λz n zl=>?_⟩;have up:G0 4 u:=by rcases W with rfl|W;exact .non;exact W.pl
   refine⟨am (by lia),?_⟩;rw[eR];exact hW (g.set l) h (.cons (.str _)<|.cons up<|.cons (.str _) .nil)<|.mkSay hr W zl
  simp only[ve];walk_at"dl";refine⟨q,3,rfl,g.hd l,by decide,by decide,λk n k0 k1=>?_⟩;have g3:=g.set (n:=n) l;have H:(B.set q<|.lst [.int n])[w]?=a7 (.lst<|xs.map .str):=ar (by lia) i;generalize B.set q (.lst [.int n])=B3 at g3 H;walk_at"dl";by_cases hk:k > 0;rw[dT_ hk];obtain⟨K,X⟩:=ii (g3.oldL J.2.1 o) A;refine bj ⟨z5 _,K,?_⟩;rw[X];have f:=g3.more (L:=[.lst []]);have U:=ac (a:=.lst []) H;generalize B3++[MO.lst []]=B4 at f U;cases he:r.isEmpty with
  |true=>exact bh<|e f U<|.inl rfl
  |false=>refine bj ⟨q,p,s,hs,r,rfl,f.hd l,J.1,J.2.1,f.oldL J.1 hp,hh,h1,N,f.oldL J.2.1 o,I,sl,λd n hd=>?_⟩;exact e (f.set l) (ar (by lia) U)<|.inr hd
  rw[dF_ hk];exact bh<|e g3 H<|.inl rfl
 simp only[Ag];walk_at"dl";by_cases h4:c<4;rw[dT_ h4];exact bj<|v rfl T F;rw[dF_ h4];obtain⟨K,X⟩:=ii (T.oldL J.2.1 o) A;refine bh ⟨z5 _,K,?_⟩;rw[X];have f:=T.more (L:=[.lst []]);have U:=ac (a:=.lst []) F;generalize B2++[MO.lst []]=B4 at f U;cases he:r.isEmpty with
 |true=>refine bj ?_;by_cases h7:c<7;rw[dT_ h7];exact bj<|v rfl f U;rw[dF_ h7];exact bh<|P f U
 |false=>exact bh<|P f U
theorem Km(T:Tops P w K mg base):u8 P w K mg base 4 "_law_act" GN yc:=u8.byD (N:=["_law_held","_law_house_here","_law_hands_here","_law_says","_law_done","_law_kind","_law_names_here","_law_room","_law_under","_law_sort"]) T.b T.f_act (by walk_at"sc") Hi (by have:=fH T;have:=AY T;have:=AV T;have:=AX T;have:=AT T;have:=GQ T;walk_at"dv") Ji
def mE:w6:=λd M R=>∃(p:List (c7×Int)) (r:List D),d=[.tup<|.tup (p.map iW)::r]/\Rf p/\R (.ref M.length) (M++[.lst<|aW p])
theorem Bv:cr mE vH:=by rintro d M R ⟨p,r,rfl,_⟩;rfl
def sL:s9:=bp<|ab 1
def sM:s9:=ay (kt (bE<|p9 u3 (ab 0)<|dC<|.int 0) (jr 2<|aO (ag 2)<|aO (ag 3) jt)<|gj<|K3 np (ab 1)<|aa (E6 1 [2] (eK<|aa (ab 3) af) (ag 0) xT<|dL<|aa (ab 1)<|aa (ab 0) af) af)<|sL
def Ac:s9:=ay (ba (iP af) 1)<|sM
theorem CO:z0 mE 4 Ac:=by
 rintro ds M R ⟨y,r,rfl,⟨n,d⟩,h⟩;simp only[Ac,sM];walk_at"dl";refine⟨z5 _,λ_=>?_⟩;have j:∀v:List (c7×Int),(∀p∈v,p∈y)->v.length<=4->(aW v).length<=12:=λv h1 h2=>by have:=pQ (ps:=v) λp f=>d p<|h1 p f;lia
 refine kq (λys S c=>∃v s a b L,y=v++s/\ys=s.map iW/\c=M++.lst (aW v)::L/\S=[a7<|.tup<|.tup (y.map iW)::r,a7<|.ref M.length,a,b]) ?_ ?_ _ _ _ ⟨[],y,_,_,[],rfl,rfl,rfl,rfl⟩;rintro S c ⟨v,s,a,b,L,e,q,rfl,rfl⟩;have:s=[]:=by cases s<;>simp_all
 subst this;rw[G2]at e;subst e;refine⟨trivial,?_⟩;simp only[sL];walk_at"dl";exact bb.lst h (u7 _) lc yY;rintro x xs S c ⟨v,s,a,b,L,e,q,rfl,rfl⟩ G l;cases s with
 |nil=>cases q
 |cons p s =>
  rw[C4]at q;injection q with e1 e2;subst e1;have f:=d p (by rw[e];simp);refine⟨trivial,?_⟩;unfold iW;walk_at"dl";refine⟨trivial,⟨_,.inl lc⟩,⟨by lia,by lia⟩,?_⟩;refine cL (λk=>.tup [.str p.1,k]) (λS=>∃a,S=[a,a7<|.str p.1]) trivial _ _ _ (λk o S g=>?_) ⟨_,rfl⟩ ?_ ?_;obtain⟨a,rfl⟩:=g;refine⟨[a7 k,a7<|.str p.1],⟨_,rfl⟩,λY i=>?_⟩;walk_at"dl";exact⟨am (by lia),i⟩;simp only[C2,fA];exact am (by lia);rw[F4];have U:(sW 0 p.2.toNat).map (λk=>D.tup [.str p.1,k])=dD p:=rfl;rw[U];have t:=j v (λz m=>by rw[e];exact L5 _ m) (by have:=p6 K8 e;rw[A3]at this;lia);have u:(dD p).length<=3:=by rw[jp];lia
  rw[G7,Qq];refine⟨_,dD p,lc,?_,?_,am (by lia),?_⟩;rw[<-Qq,<-G7];exact ad;rw[A3,C3];lia;rw[iT];refine x5.now<|l _ _ ⟨v++[p],s,_,_,L++[.lst<|dD p],by rw[G7];exact e,e2,?_,rfl⟩;rw[show aW (v++[p])=aW v++dD p by simp[aW]]
theorem DH(T:Tops P w K mg base):u8 P w K mg base 1 "_law_hands" vH mE:=u8.byD (N:=["_law_house_here","_law_found","_law_name_here","_law_many"]) T.b T.f_hands (by walk_at"sc") Bv (by walk_at"dv") CO
structure LogS(ps:List (c7×Int))(rs:List (c7×List c7))(log:List D):Prop where
 dk:∀d∈log,aM ps rs d
 up:log.Pairwise λa b=>y4 t5 (q9 a)<y4 t5 (q9 b)
 len:log.length<=60
 nn:∀d∈log,0<=FB d
def yb:w6:=λd M R=>∃(s:List (c7×Int)) (a:List (c7×List c7)) (p U:Nat) (cs:List Int),d=[.ref p,az s a]/\HouseF s a/\aA M p (cs.map .int)/\p≠U/\cs.length<=60/\M[U]?=a7 (.tb (AA0 "_law_log") c5)/\∀l,LogS s a l->l.length<=cs.length->R (.tup l) (M.set U<|.tb (AA0 "_law_log") a9)
theorem Hf:cr yb GL:=by rintro d M R ⟨s,a,p,U,cs,rfl,_⟩;rfl
noncomputable def Jo:D->Int
 |.tup (.int t::_)=>t
 |_=>0
noncomputable def RO:D->D
 |.tup (_::h::_)=>h
 |_=>.non
theorem ue(hf:HouseF s r):Rf s/\1<=(aW s).length/\(aW s).length<=12:=by
 have f:Rf s:=⟨hf.len.2,λq h=>⟨by have:=hf.many q h;lia,(hf.many q h).2⟩⟩
 have n:=pQ f.2;refine⟨f,?_,by have:=f.1;lia⟩
 match s,hf with
 | [],hf=>have:=hf.len.1;simp at this
 |p::s,hf=>have:=(hf.many p<|by simp).1;rw[aW,List.flatMap_cons,A3,jp];lia
theorem xJ(h:(s.map (·.1)).Nodup):(aW s).Nodup:=by unfold aW;rw[NO,List.pairwise_flatMap];refine⟨λp _=>?_,?_⟩;unfold dD sW;rw[Fn,Oz];refine(NO.mp Qp).imp λ{a b} hne e=>hne ?_;have e:D.tup [.str p.1,.int<|0+(a:Int)]=.tup [.str p.1,.int<|0+(b:Int)]:=e;injection e with e;injection e with _ e;injection e with e;injection e with e;lia;refine(Oz.mp<|NO.mp h).imp λ{a b} hne x hx y hy e=>hne ?_;unfold dD at hx hy;obtain⟨i,_,rfl⟩:=v6.mp hx;obtain⟨j,_,c⟩:=v6.mp hy;rw[<-c]at e;injection e with e;injection e with e _;injection e with e
structure GenD(ps:List (c7×Int))(rs:List (c7×List c7))(deeds sts:List D)(las cnt:List (D×D))(n:Nat):Prop where
 dk:∀d∈deeds,aM ps rs d
 nd:(deeds.map q9).Nodup
 nn:∀d∈deeds,0<=FB d
 la:∀d∈deeds,∃v:Int,aV las (RO d)=a7 (.int v)/\Jo d<=v
 lv:∀x∈las,∃v:Int,x.2=.int v/\0<=v
 cv:∀x∈cnt,∃v:Int,x.2=.int v/\0<=v/\v<=n
 so:∀x∈sts,St x
 dl:deeds.length<=n
 sl:sts.length<=n
 ll:las.length<=n
 cl:cnt.length<=n
theorem GenD.next{ps:List (c7×Int)}{rs:List (c7×List c7)}{s q f:List D}{l i:List (D×D)}{n:Nat}{t o:Int}{z x:c7}{k c:Int}{W:List D}(g:GenD ps rs s q l i n)(B:D.tup [.str z,.int k]∈aW ps)(R:1<=t)(u:∀v:Int,aV l (.tup [.str z,.int k])=a7 (.int v)->v<t)(Y:0<=c)(G:c<=n)(C:0<=o)(A:nY 4 W)(p:ActK rs x W)(E:∀x∈f,St x) (F:f.length<=n+1):GenD ps rs (s++[.tup [.int t,.tup [.str z,.int k],.int o,.tup<|.str x::W]]) f (iK l (.tup [.str z,.int k])<|.int t) (iK i (.tup [.str z,.int k])<|.int<|c+1) (n+1):=by have h1:=g.dl;have h2:=g.ll;have I:=g.cl;refine⟨λd h=>?_,?_,λd h=>?_,λd h=>?_,λy O=>?_,λy O=>?_,E,by rw[A3,K2];lia,F,?_,?_⟩;rcases D6.mp h with h|h;exact g.dk d h;rw[show d=_ from by simpa using h];exact⟨_,_,_,_,_,_,rfl,R,B,A,p⟩;rw[F0];refine Qr.mpr ⟨g.nd,by simp,λa p b w e=>?_⟩;obtain⟨d,h,rfl⟩:=v6.mp p;rw[show b=_ from by simpa using w]at e;obtain⟨t',K,J,r,S,ds',rfl,_⟩:=g.dk d h;obtain⟨v,j,m⟩:=g.la _ h;simp only[q9,D.tup.injEq,Ou,D.int.injEq,D.str.injEq,and_true]at e;obtain⟨rfl,rfl,rfl⟩:=e;have:=u v j;simp only[Jo]at m;lia;rcases D6.mp h with h|h;exact g.nn d h;rw[show d=_ from by simpa using h];exact C;rcases D6.mp h with h|h;obtain⟨v,j,m⟩:=g.la d h;by_cases e:RO d=.tup [.str z,.int k];rw[e]at j ⊢;exact⟨t,fM,by have:=u v j;lia⟩;exact⟨v,by rw[gW e];exact j,m⟩;rw[show d=_ from by simpa using h];exact⟨t,fM,Int.le_refl _⟩;rcases ig O with rfl|O;exact⟨t,rfl,by lia⟩;exact g.lv y O;rcases ig O with rfl|O;exact⟨c+1,rfl,by lia,by lia⟩;obtain⟨v,j,m,H⟩:=g.cv y O;exact⟨v,j,m,by lia⟩;have:=qo (kvs:=l) (k:=.tup [.str z,.int k]) (d:=.int t);lia;have:=qo (kvs:=i) (k:=.tup [.str z,.int k]) (d:=.int<|c+1);lia
structure E4(M B:t8)(hs deeds sts:List D)(las cnt:List (D×D)):Prop where
 pre:M <+: B
 hs:B[M.length]?=a7 (.lst hs)
 las:B[M.length+1]?=a7 (.dkt las)
 cnt:B[M.length+2]?=a7 (.dkt cnt)
 sts:B[M.length+3]?=a7 (.lst sts)
 deeds:B[M.length+4]?=a7 (.lst deeds)
section
variable{M B:t8}{hs deeds sts:List D}{las cnt:List (D×D)}{q:Nat}{x:MO}
theorem E4.more(g:E4 M B hs deeds sts las cnt):E4 M (B++L) hs deeds sts las cnt:=⟨g.pre.trans<|G3 _ _,aI (G3 _ _) g.hs,aI (G3 _ _) g.las,aI (G3 _ _) g.cnt,aI (G3 _ _) g.sts,aI (G3 _ _) g.deeds⟩
theorem E4.lt(g:E4 M B hs deeds sts las cnt):M.length+5<=B.length:=aX g.deeds
theorem E4.set(g:E4 M B hs deeds sts las cnt)(h:M.length+5<=q):E4 M (B.set q x) hs deeds sts las cnt:=⟨bJ g.pre (by lia),ar (by lia) g.hs,ar (by lia) g.las,ar (by lia) g.cnt,ar (by lia) g.sts,ar (by lia) g.deeds⟩
theorem E4.setD(g:E4 M B hs deeds sts las cnt):E4 M (B.set (M.length+4)<|.lst ds') hs ds' sts las cnt:=⟨bJ g.pre (by lia),ar (by lia) g.hs,ar (by lia) g.las,ar (by lia) g.cnt,ar (by lia) g.sts,bK g.deeds⟩
theorem E4.setS(g:E4 M B hs deeds sts las cnt):E4 M (B.set (M.length+3)<|.lst ds') hs deeds ds' las cnt:=⟨bJ g.pre (by lia),ar (by lia) g.hs,ar (by lia) g.las,ar (by lia) g.cnt,bK g.sts,ar (by lia) g.deeds⟩
theorem E4.setC(g:E4 M B hs deeds sts las cnt):E4 M (B.set (M.length+2)<|.dkt kvs) hs deeds sts las kvs:=⟨bJ g.pre (by lia),ar (by lia) g.hs,ar (by lia) g.las,bK g.cnt,ar (by lia) g.sts,ar (by lia) g.deeds⟩
theorem E4.setL(g:E4 M B hs deeds sts las cnt):E4 M (B.set (M.length+1)<|.dkt kvs) hs deeds sts kvs cnt:=⟨bJ g.pre (by lia),ar (by lia) g.hs,bK g.las,ar (by lia) g.cnt,ar (by lia) g.sts,ar (by lia) g.deeds⟩
end
theorem HU{k:List (D×D)}(h:∀x∈k,∃v:Int,x.2=.int v/\0<=v):∃s:List Int,k.map (·.2)=s.map D.int:=by
 induction k with
 |nil=>exact⟨[],rfl⟩
 |cons p k i=>obtain⟨v,e,_⟩:=h p (by simp);obtain⟨s,l⟩:=i λx a=>h x<|A5 _ a;exact⟨v::s,by rw[C4,C4,e,l]⟩
def xc:s9:=bp<|t7 iH<|aa (mz "_law_log" ["_law_deed"] (Ml (ab 0) dF<|fP<|dC<|.int 2)<|aa (ab 6) af) af
def xf:s9:=z6 (ap<|p9 z8 (p9 u3 (ab 12)<|dC<|.int 0)<|dC<|.str "say") (gj<|K3 bF (ab 5)<|aa (dL<|aa (ab 11)<|aa (ab 9) af) af) aY
def xg:s9:=ay (qY (ab 4) (ab 9)<|p9 br (ND iI (ab 4)<|aa (ab 9)<|aa (dC<|.int 0) af)<|dC<|.int 1)<|xf
def xh:s9:=ay (qY (ab 3) (ab 9)<|ab 11)<|xg
def xi:s9:=ay (gj<|K3 bF (ab 6)<|aa (dL<|aa (ab 11)<|aa (ab 9)<|aa (ND iI (ab 4)<|aa (ab 9)<|aa (dC<|.int 0) af)<|aa (ab 12) af) af)<|xh
def qd:s9:=ay (ba (t7 yc<|aa (ab 8)<|aa (ab 1)<|aa (ab 2)<|aa (ab 5)<|aa (ab 4) af) 12)<|xi
def zO:s9:=ay (z6 (ap<|p9 z8 (ab 10)<|dC<|.int 3) (ba (p9 br (dC<|.int 1)<|t7 Ay<|aa (p9 br (iP<|aa (dC<|.int 0) af)<|kr<|ab 3) af) 11) aY)<|qd
def zP:s9:=ay (ba (p9 br (p9 br (ND iI (ab 3)<|aa (ab 9)<|aa (dC<|.int 0) af)<|dC<|.int 1)<|t7 aG<|aa (ab 8)<|aa (p9 u3 (iP<|aa (dC<|.int 3)<|aa (dC<|.int 6)<|aa (p9 Gs (dC<|.int 10)<|dC<|.int 7)<|aa (dC<|.int 1) af)<|ab 10) af) 11)<|zO
def zQ:s9:=ay (ba (t7 aG<|aa (ab 8)<|aa (dC<|.int 4) af) 10)<|zP
def uZ:s9:=ay (ba (p9 u3 (ab 2)<|t7 aG<|aa (ab 8)<|aa (t7 nj<|aa (ab 2) af) af) 9)<|zQ
def zR:s9:=ay (kt (bE<|ab 0) (ag 7)<|ay (ba (t7 fj<|aa (ab 7) af) 8)<|uZ)<|xc
def zS:s9:=ay (ba (iP af) 6)<|zR
def zT:s9:=ay (ba (iP af) 5)<|zS
def zU:s9:=ay (ba (re) 4)<|zT
def zV:s9:=ay (ba (re) 3)<|zU
def Jq:s9:=ay (ba (t7 mE<|aa (ab 1) af) 2)<|zV
theorem FC{M B:t8}{E:DEnds}{s a hs:List D}{l i:List (D×D)}{n q:Nat}{t w:Int}{z:c7}{k:Int}{ps:List (c7×Int)}{rs:List (c7×List c7)}{J K p:Option D}(g:E4 M B hs s a l i)(G:GenD ps rs s a l i n)(W:HouseF ps rs)(Z:∀x∈hs,Hd x)(o:hs.Nodup)(h1:1<=hs.length)(m:hs.length<=12)(ai:n<60)(V:L8 B q)(qM:M.length+5<=q)(h:D.tup [.str z,.int k]∈aW ps)(R:1<=t)(I:∀v:Int,aV l (.tup [.str z,.int k])=a7 (.int v)->v<t)(A:∀deeds' sts' las' cnt' B' y,E4 M B' hs deeds' sts' las' cnt'->GenD ps rs deeds' sts' las' cnt' (n+1)->E.nx [J,a7<|az ps rs,a7<|.ref M.length,a7<|.ref<|M.length+1,a7<|.ref<|M.length+2,a7<|.ref<|M.length+3,a7<|.ref<|M.length+4,K,a7<|.ref q,a7<|.tup [.str z,.int k],a7<|.int w,a7<|.int t,y] B'):qd E [J,a7<|az ps rs,a7<|.ref M.length,a7<|.ref<|M.length+1,a7<|.ref<|M.length+2,a7<|.ref<|M.length+3,a7<|.ref<|M.length+4,K,a7<|.ref q,a7<|.tup [.str z,.int k],a7<|.int w,a7<|.int t,p] B:=by
 have dl:=G.dl;have sl:=G.sl;have ll:=G.ll;have cl:=G.cl;simp only[qd];walk_at"dl";refine⟨q,_,_,_,ps,rs,hs,a,i,rfl,V,W,⟨by lia,by lia,by lia⟩,.inl g.hs,Z,o,h1,m,.inl g.sts,G.so,by lia,g.cnt,λx h=>by obtain⟨v,T,U,e3⟩:=G.cv x h;exact⟨v,T,U,by lia⟩,λx f H F C=>?_⟩;have g1:=g.set (x:=.lst [.int H]) qM;generalize B.set q (.lst [.int H])=L at g1;have X:∃c:Int,(aV i<|.tup [.str z,.int k]).getD (.int 0)=.int c/\0<=c/\c<=n:=by
  cases e:aV i (.tup [.str z,.int k]) with
  |none=>exact⟨0,rfl,by decide,by lia⟩
  |some d=>exact G.cv _<|bC e
 obtain⟨c,u,Y,r⟩:=X;simp only[xi];walk_at"dl";refine⟨⟨_,.inl g1.deeds⟩,⟨_,g1.cnt⟩,_,g1.cnt,rfl,?_⟩;rw[u];refine⟨am (by lia),_,g1.deeds,aH (by lia),?_⟩;have j:=g1.setD (ds':=s++[.tup [.int t,.tup [.str z,.int k],.int c,.tup<|.str x::f]]);generalize L.set (M.length+4) _=N at j;simp only[xh];walk_at"dl";refine⟨_,j.las,rfl,aH (by lia),?_⟩;have g3:=j.setL (kvs:=iK l (.tup [.str z,.int k])<|.int t);generalize N.set (M.length+1) _=P at g3;simp only[xg];walk_at"dl";refine⟨⟨_,g3.cnt⟩,_,g3.cnt,rfl,?_⟩;rw[u];refine⟨_,g3.cnt,rfl,aH (by lia),?_⟩;have b:=g3.setC (kvs:=iK i (.tup [.str z,.int k])<|.int<|c+1);generalize P.set (M.length+2) _=Q at b;simp only[xf];walk_at"dl";refine⟨⟨ah,ah⟩,?_⟩;generalize t6 Q t5 (.str x) (.str<|AA0 "say")=S;cases S with
 |true=>refine bj ⟨⟨_,.inl b.sts⟩,am (by lia),_,b.sts,aH (by lia),?_⟩;refine A _ _ _ _ _ _ b.setS (G.next h R I Y r Y F C (λy O=>?_)<|by rw[A3,K2];lia);rcases D6.mp O with O|O;exact G.so y O;rw[show y=_ from by simpa using O];exact⟨_,_,_,rfl⟩
 |false=>exact bh<|A _ _ _ _ _ _ b<|G.next h R I Y r Y F C G.so<|by lia
theorem Ea{M B:t8}{E:DEnds}{s I:List D}{l A:List (D×D)}{n:Nat}{r:Int}{ps:List (c7×Int)}{rs:List (c7×List c7)}{y0 y8 y9 al an as:Option D}(g:E4 M B (aW ps) s I l A)(G:GenD ps rs s I l A n)(J:HouseF ps rs)(O:n<60)(hE:∀deeds' sts' las' cnt' B' a b c d y,E4 M B' (aW ps) deeds' sts' las' cnt'->GenD ps rs deeds' sts' las' cnt' (n+1)->E.nx [y0,a7<|az ps rs,a7<|.ref M.length,a7<|.ref<|M.length+1,a7<|.ref<|M.length+2,a7<|.ref<|M.length+3,a7<|.ref<|M.length+4,a7<|.int r,a,b,c,d,y] B'):(ay (ba (t7 fj<|aa (ab 7) af) 8)<|uZ) E [y0,a7<|az ps rs,a7<|.ref M.length,a7<|.ref<|M.length+1,a7<|.ref<|M.length+2,a7<|.ref<|M.length+3,a7<|.ref<|M.length+4,a7<|.int r,y8,y9,al,an,as] B:=by
 obtain⟨aD,n1,N⟩:=ue J;have hh:∀x∈aW ps,Hd x:=xK;have ll:=G.ll;walk_at"dl";refine⟨r,rfl,λT=>?_⟩;have hd0:L8 (B++[MO.lst [.int T]]) B.length:=⟨T,ad⟩
 have g0:=g.more (L:=[.lst [.int T]]);have U:=g.lt;generalize B++[MO.lst [D.int T]]=B0 at g0 hd0;generalize B.length=q at hd0 U;have H:=hd0.lt;have ai:=hd0.start;have p:∀{C:t8},Hl B0 C q->E4 M C (aW ps) s I l A:=λ{C} h=>by obtain⟨n2,L,rfl⟩:=h;exact(g0.set (x:=.lst [.int n2]) U).more
 simp only[uZ];walk_at"dl";refine⟨_,.inl g0.hs,q,_,rfl,hd0,by lia,by lia,λi m i0 i1=>?_⟩;have h1:=ai.set (n:=m) H;generalize B0.set q (.lst [.int m])=B1 at h1;obtain⟨j,hj,ej,_⟩:=ku (xs:=aW ps) i0 i1;have S:=Mg hj;refine⟨_,.inl (p h1).hs,?_⟩;rw[ej];obtain⟨z,k,ez⟩:=hh _ S;rw[ez]at S ⊢;simp only[zQ];walk_at"dl";refine⟨q,4,rfl,h1.hd H,by decide,by decide,λo m w0 w1=>?_⟩;have h2:=h1.set (n:=m) H;generalize B1.set q (.lst [.int m])=B2 at h2;have hl:∃v:Int,(aV l<|.tup [.str z,.int k]).getD (.int 0)=.int v/\0<=v/\∀u:Int,aV l (.tup [.str z,.int k])=a7 (.int u)->u=v:=by
  cases e:aV l (.tup [.str z,.int k]) with
  |none=>exact⟨0,rfl,by decide,λu w=>by cases w⟩
  |some d=>obtain⟨v,P,v0⟩:=G.lv _<|bC e;exact⟨v,P,v0,λu w=>by rw[show d=.int v from P]at w;cases w;rfl⟩
 obtain⟨v,P,v0,vu⟩:=hl;simp only[zP];walk_at"dl";refine⟨⟨_,(p h2).las⟩,_,(p h2).las,rfl,?_⟩;rw[P];have ex:∃m:Int,atI [D.int 3,.int 6,.int<|10 ^ Int.toNat 7,.int 1] o=a7 (.int m)/\0<m/\m<100000000000:=by
  have:o=0\/o=1\/o=2\/o=3:=by lia
  rcases this with rfl|rfl|rfl|rfl;exact⟨_,aF (j:=0) rfl,by decide,by decide⟩;exact⟨_,aF (j:=1) rfl,by decide,by decide⟩;exact⟨_,aF (j:=2) rfl,by decide,by decide⟩;exact⟨_,aF (j:=3) rfl,by decide,by decide⟩
 obtain⟨m0,em,mp,ml⟩:=ex;refine⟨⟨by decide,by decide,by decide⟩,am (by lia),_,aw,?_⟩;rw[em];refine⟨q,m0,rfl,(h2.more).hd H,mp,ml,λa m a0 a1=>?_⟩;have R:=(h2.more (L:=[.lst [D.int 3,.int 6,.int<|10 ^ Int.toNat 7,.int 1]])).set (n:=m) H;generalize (B2++[MO.lst [D.int 3,.int 6,.int<|10 ^ Int.toNat 7,.int 1]]).set q (.lst [.int m])=K at R;simp only[zO];walk_at"dl";refine⟨⟨rfl,rfl⟩,?_⟩;generalize t6 K t5 (.int o) (.int 3)=b3;cases b3 with
 |false=>refine bh ?_;exact FC (p R) G J hh (xJ J.pnd) n1 N O (R.hd H) U S (by lia) (λu w=>by rw[vu u w];lia) λd' s' l' c' B' y Z W=>hE _ _ _ _ _ _ _ _ _ _ Z W
 |true =>
  obtain⟨vs,F⟩:=HU G.lv;have vl:vs.length=l.length:=by have:=p6 K8 F;rw[u6,u6]at this;exact this.symm
  have h4:=R.more (L:=[.lst [.int 0]]);have g4:=p h4;have X:(K++[MO.lst [D.int 0]])[K.length]?=a7 (.lst [.int 0]):=ad;generalize K++[MO.lst [D.int 0]]=Q at h4 g4 X;generalize K.length=r4 at X;refine bj ⟨am (by lia),_,g4.las,?_⟩;rw[F];have h5:=h4.more (L:=[.lst<|vs.map .int]);have e5:=ac (a:=.lst<|vs.map .int) X;have Y:(Q++[MO.lst<|vs.map .int])[Q.length]?=a7 (.lst<|vs.map .int):=ad;generalize Q++[MO.lst<|vs.map .int]=V at h5 e5 Y;generalize Q.length=r5 at Y;refine⟨_,_,e5,Y,am (by rw[u6,K2];lia),?_⟩;have h6:=h5.more (L:=[.lst<|[.int 0]++vs.map .int]);have e7:(V++[MO.lst<|[D.int 0]++vs.map .int])[V.length]?=a7 (.lst<|(0::vs).map .int):=ad;generalize V++[MO.lst<|[D.int 0]++vs.map .int]=B6 at h6 e7;refine⟨0::vs,.inl e7,by simp,λmx mm t=>?_⟩;have aP:=t 0 (by simp);refine FC (p h6) G J hh (xJ J.pnd) n1 N O (h6.hd H) U S (by lia) (λu w=>?_) λd' s' l' c' B' y Z W=>hE _ _ _ _ _ _ _ _ _ _ Z W;have hu:D.int u∈l.map (·.2):=L0 (f:=(·.2))<|bC w;rw[F]at hu;obtain⟨u',aj,eu⟩:=v6.mp hu;cases eu;have:=t u<|A5 _ aj;lia
theorem Jg:z0 yb 13 Jq:=by
 rintro ds M R ⟨ps,r,p,U,cs,rfl,H,v,pt,cl,J,h⟩;obtain⟨w,n1,ai⟩:=ue H;simp only[Jq,az];walk_at"dl";refine⟨ps,_,rfl,w,?_⟩;simp only[zV,zU,zT,zS];walk_at"dl";refine⟨z5 _,z5 _,?_⟩;have C:(M++[MO.lst<|aW ps]).length=M.length+1:=by simp
 have E:(M++[MO.lst<|aW ps]++[MO.dkt []]).length=M.length+2:=by simp
 have F:(M++[MO.lst<|aW ps]++[MO.dkt []]++[MO.dkt []]).length=M.length+3:=by simp
 have I:(M++[MO.lst<|aW ps]++[MO.dkt []]++[MO.dkt []]++[MO.lst []]).length=M.length+4:=by simp
 rw[C,E,F,I];have u:E4 M (M++[MO.lst<|aW ps]++[MO.dkt []]++[MO.dkt []]++[MO.lst []]++[MO.lst []]) (aW ps) [] [] [] []:=by refine⟨(((cG.trans cG).trans cG).trans cG).trans cG,ac<|ac<|ac<|ac ad,?_,?_,?_,?_⟩;rw[<-C];exact ac<|ac<|ac ad;rw[<-E];exact ac<|ac ad;rw[<-F];exact ac ad;rw[<-I];exact ad
 generalize M++[MO.lst<|aW ps]++[MO.dkt []]++[MO.dkt []]++[MO.lst []]++[MO.lst []]=B0 at u;simp only[zR];walk_at"dl";refine⟨_,vS u.pre v,λ_=>?_⟩;refine aT (λi S n=>∃(s m:List D) (l j:List (D×D)) (a b c d e f:Option D),E4 M n (aW ps) s m l j/\GenD ps r s m l j i/\S=[a7<|.ref p,a7<|az ps r,a7<|.ref M.length,a7<|.ref<|M.length+1,a7<|.ref<|M.length+2,a7<|.ref<|M.length+3,a7<|.ref<|M.length+4,a,b,c,d,e,f]) ?_ ?_ ⟨[],[],[],[],_,_,_,_,_,_,u,⟨(λ_ z=>nomatch z),.nil,(λ_ z=>nomatch z),(λ_ z=>nomatch z),(λ_ z=>nomatch z),(λ_ z=>nomatch z),(λ_ z=>nomatch z),u7 _,u7 _,u7 _,u7 _⟩,rfl⟩;rintro S n ⟨s,m,l,j,a,b,c,d,e,f,g,G,rfl⟩;rw[u6]at G;have dl:=G.dl;refine⟨vS g.pre v,?_⟩;simp only[xc];walk_at"dl";have tl:=aX J;have Z:(n.set U<|.tb (AA0 "_law_log") a9)[M.length+4]?=a7 (.lst s):=ar (by lia) g.deeds;have hS:∀x∈s.map q9,St x:=λx hx=>by obtain⟨d,o,rfl⟩:=v6.mp hx;exact(G.dk d o).st
 refine⟨U,s,q9,aI g.pre J,.inr ⟨_,rfl,.inl Z⟩,λd o=>?_,(vm hS<|by rw[u6];lia).g,λys O hr=>?_⟩;obtain⟨t,z,k,aj,x,ds,rfl,_⟩:=G.dk d o;walk_at"dl";exact .inl ⟨rfl,rfl⟩;have ml:n.length=(n.set U<|.tb (AA0 "_law_log") a9).length:=(J7 ..).symm;refine⟨ys,by rw[ml];exact aw,?_⟩;have q:∀d∈ys,aM ps r d:=λd o=>G.dk d<|O.mem_iff.mp o;have nd:(ys.map q9).Nodup:=(O.map _).nodup_iff.mpr G.nd;have ls:LogS ps r ys:=by
  refine⟨q,?_,by rw[O.length_eq];lia,λd o=>G.nn d<|O.mem_iff.mp o⟩;have n2:ys.Pairwise λa b=>q9 a≠q9 b:=Oz.mp<|NO.mp nd;refine(Rn.mp<|hr.and n2).imp λ{a b} ⟨ha,hb,q1,q2⟩=>?_;have A:=(q a ha).st;have T:=(q b hb).st;have N:A6 t5 (q9 a)=a9:=by obtain⟨t,z,k,e⟩:=A;rw[e];rfl
  have P:A6 t5 (q9 b)=a9:=by obtain⟨t,z,k,e⟩:=T;rw[e];rfl
  rw[qE P N<|T.cm A]at q1;have q3:=of_decide_eq_false q1;refine Ny λq4=>q2 ?_;exact Ch (M:=[]) N P (A.cm T)<|List.le_antisymm (List.not_lt.mp q3)<|List.not_lt.mp q4
 obtain⟨L,hL⟩:=g.pre;have X:n.set U (.tb (AA0 "_law_log") a9)=M.set U (.tb (AA0 "_law_log") a9)++L:=by rw[<-hL,List.set_append_left _ _ tl]
 rw[X];refine bb.chg (MP.set .refl .nil) (h ys ls<|by rw[O.length_eq];lia) (.tup<|aM.bels q) ?_;rw[G7];exact G3 _ _;rintro i y S n O ⟨s,m,l,j,a,b,c,d,e,f,g,G,rfl⟩ K hK;rw[C8]at O;obtain⟨B,hc,rfl⟩:=Mz.mp O;have hi:=(x9.mp hc).1;refine⟨vS g.pre v,?_⟩;simp only[ag,List.set_cons_zero,List.set_cons_succ];exact Ea g G H (by lia) λV s' l' Q B' a b c d y Y W=>x5.now<|hK _ _ ⟨V,s',l',Q,_,_,_,_,_,_,Y,W,rfl⟩
theorem Kl(T:Tops P w K mg base):u8 P w K mg base 8 "_law_log" GL yb:=u8.byL (N:=["_law_cells","_law_house_here","_law_hands_here","_law_last","_law_done","_law_says","_law_deeds","_law_cell","_law_held","_law_hand","_law_way","_law_time","_law_act_here"]) T.b T.f_log (by walk_at"sc") Hf (by have:=T.bm;have:=tG T;have:=fH T;have:=Km T;have:=DH T;walk_at"dvl") Jg
def nW:w6:=λs M R=>∃(p:List (c7×Int)) (a:List (c7×List c7)) (l:List D),s=[.tup l]/\(∀d∈l,aM p a d)/\l.length<=1000/\∀n B,M <+: B->B[n]?=a7 (.dkt<|iw l)->R (.ref n) B
theorem Ed:cr nW AJ:=by rintro d M R ⟨p,a,l,rfl,_⟩;rfl
def wQ:s9:=bp<|ab 1
def wR:s9:=ay (kt (bE<|ab 0) (jr 4<|aO (ag 2)<|aO (ag 3)<|aO (ag 4)<|aO (ag 5) jt)<|z6 (ap<|p9 z8 (p9 u3 (ab 5)<|dC<|.int 0)<|dC<|.str "say") (qY (ab 1) (dL<|aa (ab 2)<|aa (ab 3) af)<|ab 5) aY)<|wQ
def Fo:s9:=ay (ba (re) 1)<|wR
theorem FW:z0 nW 6 Fo:=by
 rintro u M R ⟨ps,r,log,rfl,n,q,h⟩;simp only[Fo,wR];walk_at"dl";intro _;refine aT (λi S f=>∃a b c d,f=M++[.dkt<|iw<|log.take i]/\S=[a7<|.tup log,a7<|.ref M.length,a,b,c,d]) ?_ ?_ ⟨_,_,_,_,rfl,rfl⟩;rintro S f ⟨a,b,c,d,rfl,rfl⟩;rw[K9];refine⟨trivial,?_⟩;simp only[wQ];walk_at"dl";exact .inl<|h _ _ cG ad;rintro i y S f O ⟨a,b,c,d,rfl,rfl⟩ G l;have o:=D2 O;have hi:=(x9.mp O).1;have j:log.take (i+1)=log.take i++[y]:=by rw[Mh,O];rfl
 rw[j,yw]at l;have s:=Dh<|kinds (log.take i)<|AA0 "say";have v:=bA (log:=log.take i) (k:=AA0 "say");rw[F5]at v;rw[show iU (kinds (log.take i)<|AA0 "say")=iw (log.take i)from rfl]at s;generalize iw (log.take i)=p at l s;obtain⟨t,z,k,m,x,u,rfl,_⟩:=n y o;refine⟨trivial,?_⟩;walk_at"dl";refine⟨trivial,⟨ah,ah⟩,?_⟩;rw[ax];have g:aU (.tup [.int t,.tup [.str z,.int k],.int m,.tup<|.str x::u])=x:=rfl;rw[g]at l;by_cases e:x=AA0 "say";rw[beq_iff_eq.mpr e];rw[n9 e]at l;refine bj ⟨am (by lia),_,ad,rfl,aH (by lia),?_⟩;rw[iT];exact x5.now<|l _ _ ⟨_,_,_,_,rfl,rfl⟩;rw[beq_eq_false_iff_ne.mpr e];rw[o0 e]at l;exact bh<|x5.now<|l _ _ ⟨_,_,_,_,rfl,rfl⟩
theorem AW(T:Tops P w K mg base):u8 P w K mg base 1 "_law_said" AJ nW:=u8.byD (N:=["_law_log_here","_law_found","_law_time","_law_hand","_law_number","_law_act_here"]) T.b T.f_said (by walk_at"sc") Ed (by walk_at"dv") FW
def kA:w6:=λs M R=>∃(p:List (c7×Int)) (a:List (c7×List c7)) (l:List D) (n:Nat) (e:D),s=[az p a,.ref n,q9 e]/\HouseF p a/\(∀d∈l,aM p a d)/\K5 l/\M[n]?=a7 (.dkt<|iw l)/\e∈kinds l (AA0 "say")/\∀b:Bool,(b=a9↔C0 a (kinds l<|AA0 "say") e)->R (.bl b) M
theorem yM:cr kA qu:=by rintro d M R ⟨p,a,l,n,e,rfl,_⟩;rfl
noncomputable def fy(r:c7×List c7):c7×D:=(r.1,.tup<|r.2.map .str)
theorem EN(s:List (c7×D))(h:(s.map (·.1)).Nodup):jq s=s:=by revert h;refine bu (P:=λs=>(s.map (·.1)).Nodup->jq s=s) (λ_=>rfl) (λs p i h=>?_) s;rw[F0]at h;have h':=Qr.mp h;rw[pS,i h'.1];unfold nq;rw[o0];intro z;obtain⟨q,a,e⟩:=L4.mp z;exact h'.2.2 _ (L0 a) p.1 (by simp)<|oT_ e
theorem pJ{r:List (c7×List c7)}(h:(r.map (·.1)).Nodup):jq (r.map fy)=r.map fy:=EN _<|by rw[Fn];exact h
theorem ng:∀{s:List (c7×List c7)},r∈s.map (·.1)->gB (s.map fy) r=a7 (.tup<|(nX s r).map .str)
 |p::s,h=>by rw[nL];unfold gB;rw[C4,Mq];by_cases e:p.1=r;rw[n9 e,show decide ((fy p).1=r)=a9 from dT_ e];rfl;rw[o0 e,show decide ((fy p).1=r)=c5 from dF_ e];rw[C4,A0]at h;exact ng<|h.resolve_left<|B8 e
theorem sV{r:List (c7×List c7)}:r.map gL=(r.map fy).map λp=>.tup [.str p.1,p.2]:=by rw[Fn];rfl
noncomputable def FN(l:List D)(k:D):Nat:=(l.filter λx=>decide<|y4 t5 (q9 x)<y4 t5 k).length
theorem FM(a:x∈l)(h:y4 t5 (q9 x)<y4 t5 k):FN l (q9 x)<FN l k:=Cc (p:=λy=>decide<|y4 t5 (q9 y)<y4 t5 (q9 x)) (q:=λy=>decide<|y4 t5 (q9 y)<y4 t5 k) (x:=x) (λy O=>dT_<|Pv (oT_ O) h) (dT_ h) (dF_<|I9 _) a
def Rb(r:List (c7×List c7))(l:List D)(m:c7)(u:D):Prop:=u=.non\/∃e,q9 e=u/\C0 r l e/\au e=m
theorem Hb(f:St a)(d:St b):(u5 M t5 a=a9/\u5 M t5 b=a9/\dS M t5 a b=a9)/\B7 M t5 a b=decide (y4 t5 a<y4 t5 b):=by
 have J:A6 t5 a=a9:=by obtain⟨t,z,k,e⟩:=f;rw[e];rfl
 have c:A6 t5 b=a9:=by obtain⟨t,z,k,e⟩:=d;rw[e];rfl
 exact⟨⟨f.ok,d.ok,f.cm d⟩,qE J c<|f.cm d⟩
def oO:s9:=bp<|dC<|.bl a9
def kD:s9:=ba (ab 5) 2
def oP:s9:=ay (z6 (rj (ap<|p9 iJ (ab 5)<|dC .non)<|EV<|ap<|p9 JH (ab 5)<|ab 2) (bp<|dC<|.bl c5) aY)<|kD
def oQ:s9:=ay (ba (p9 u3 (gZ (ab 1)<|ab 2)<|dC<|.int 2) 5)<|oP
def oR:s9:=ay (uv (ap<|p9 iJ (ab 2)<|dC .non)<|ay (z6 (ML (ap<|p9 qi (ab 2)<|ab 1)<|ML (ap<|p9 Nz (p9 u3 (gZ (ab 1)<|ab 2)<|dC<|.int 1)<|ab 3)<|ap<|p9 ka (p9 u3 (p9 u3 (ab 2)<|dC<|.int 1)<|dC<|.int 0)<|ab 4) (bp<|dC<|.bl c5) aY)<|oQ)<|oO
def oS:s9:=ay (ba (Cn (t7 tj<|aa (p9 u3 (ab 0)<|dC<|.int 1) af)<|ab 3) 4)<|oR
def wO:s9:=ay (ba (p9 u3 (gZ (ab 1)<|ab 2)<|dC<|.int 1) 3)<|oS
theorem zy:z0 kA 6 wO:=by
 rintro ds M R ⟨ps,b,log,n,e,rfl,hf,Y,hr,hn,K,h⟩;have P:K5 (kinds log<|AA0 "say"):=Nu _ hr;have w:∀d∈kinds log (AA0 "say"),aM ps b d/\aU d=AA0 "say":=λd q=>⟨Y d (aq q).1,(aq q).2⟩
 have U:∀d∈kinds log (AA0 "say"),aV (iw log) (q9 d)=a7 (zp d):=qh P;have se:∀k a,aV (iw log) k=a7 a->∃d∈kinds log (AA0 "say"),k=q9 d/\a=zp d:=λk a q=>by obtain⟨d,Y,e⟩:=Gn _ _<|bC q;cases e;exact⟨d,Y,rfl,rfl⟩
 generalize kinds log (AA0 "say")=l at P w K h U se;generalize iw log=T at hn U se;obtain⟨C,ke⟩:=w e K;have ai:au e∈b.map (·.1):=by obtain⟨t,z,k,al,r,u,s,rfl,_,_,hr,_⟩:=cH C ke;exact hr
 obtain⟨ks,E⟩:=C.st.tup;have F:=C.st.key;have e0:=U e K;have X:∃u s,zp e=.tup [.str<|AA0 "say",.str<|au e,u,s]:=by obtain⟨t,z,k,al,r,u,s,rfl,_⟩:=cH C ke;exact⟨u,.str s,rfl⟩
 obtain⟨u0,s0,X⟩:=X;rw[X,E]at e0;rw[E]at F;simp only[wO,az];rw[E];walk_at"dl";refine⟨T,_,hn,F,e0,?_⟩;walk_at"dl";simp only[oS];walk_at"dl";refine⟨b.map fy,sV,by rw[u6];have:=hf.rl.2;lia,?_⟩;rw[pJ hf.rnd];refine⟨_,_,ad,ng ai,?_⟩;have g:=ac (a:=.dct<|b.map fy) hn;have pB:M <+: M++[MO.dct<|b.map fy]:=cG;generalize M++[MO.dct<|b.map fy]=B at g pB;simp only[oR];refine⟨λm S J=>∃(u:D) (y:Option D),J=B/\(u=.non\/St u)/\(∀x∈l,q9 x=u->FN l (q9 x)<m)/\(C0 b l e↔Rb b l (au e) u)/\S=[a7<|az ps b,a7<|.ref n,a7 u,a7<|.str<|au e,a7<|.tup<|(nX b<|au e).map .str,y],⟨FN l (q9 e)+1,q9 e,a8,rfl,.inr C.st,λx _ q=>by rw[q];lia,⟨λs=>.inr ⟨e,rfl,s,rfl⟩,?_⟩,by rw[E];rfl⟩,?_⟩;rintro(z|⟨x,c,j,_⟩);rw[E]at z;cases z;rw[<-P.one x j.mem e K c];exact j;rintro m S J ⟨u,y,rfl,N,hm,hi,rfl⟩;have O:¬Rb b l (au e) u->bb M R (.bl c5) J:=λq=>bb.bl (h c5 ⟨λz=>(by cases z),λs=>o4 (hi.mp s) q⟩) pB;rcases N with rfl|N;walk_at"dl";simp only[oO];walk_at"dl";exact bb.bl (h a9 ⟨λ_=>hi.mpr<|.inl rfl,λ_=>rfl⟩) pB
 ·have aj:=N
  obtain⟨t',G,H,rfl⟩:=N;walk_at"dl";refine⟨T,g,rfl,?_⟩;cases Z:aV T (.tup [.int t',.tup [.str G,.int H]]) with
  |none=>refine bj<|O ?_;rintro(z|⟨x,c,j,_⟩);cases z;have:=U x j.mem;rw[c,Z]at this;cases this
  |some a =>
   obtain⟨x,A,c,rfl⟩:=se _ _ Z;have only:∀y,q9 y=.tup [.int t',.tup [.str G,.int H]]->C0 b l y->y=x:=λy q s=>P.one y s.mem x A<|q.trans c;obtain⟨t2,z2,k2,v,I,L,s2,ex,_,_,_,f⟩:=cH (w x A).1 (w x A).2;subst ex;simp only[q9,D.tup.injEq,Ou,D.int.injEq,D.str.injEq,and_true]at c;obtain⟨rfl,rfl,rfl⟩:=c;have V:aV T (.tup [.int t',.tup [.str G,.int H]])=a7 (.tup [.str<|AA0 "say",.str I,L,.str s2]):=Z;refine bh ⟨T,_,g,rfl,V,?_⟩;walk_at"dl";refine⟨⟨ah,ah⟩,?_⟩;rw[ax];by_cases p:I=au e
   ·rw[beq_iff_eq.mpr p]
    refine bh ⟨⟨ah,kE⟩,?_⟩;rw[kZ];by_cases Q:G∈nX b (au e)
    ·rw[dT_ Q]
     refine bh ?_;have mx:aC (.tup [.int t',.tup [.str G,.int H],.int v,.tup [.str<|AA0 "say",.str I,L,.str s2]])∈nX b (au<|.tup [.int t',.tup [.str G,.int H],.int v,.tup [.str<|AA0 "say",.str I,L,.str s2]]):=by show G∈nX b I;rw[p];exact Q
     have next:(L=.non\/y4 t5 L<y4 t5 (.tup [.int t',.tup [.str G,.int H]]))->∃m',m' < m/\∃(u:D) (y:Option D),True/\(u=.non\/St u)/\(∀x∈l,q9 x=u->FN l (q9 x)<m')/\(C0 b l e↔Rb b l (au e) u)/\[a7<|az ps b,a7<|.ref n,a7 L,a7<|.str<|au e,a7<|.tup<|(nX b<|au e).map .str,a7 L]=[a7<|az ps b,a7<|.ref n,a7 u,a7<|.str<|au e,a7<|.tup<|(nX b<|au e).map .str,y]:=λlt=>by
      refine⟨_,hm _ A rfl,L,_,trivial,f,λy hy q=>?_,?_,rfl⟩;rcases lt with rfl|lt;obtain⟨_,W⟩:=(w y hy).1.st.tup;rw[W]at q;cases q;refine FM hy ?_;rw[q];exact lt;constructor;intro s;rcases hi.mp s with z|⟨y,c,j,i⟩
      cases z;have ey:=only y c j;rw[ey]at j i;cases j with
      |top _ _ u=>exact .inl u
      |@sub _ e2 _ _ s u o r=>exact .inr ⟨e2,u.symm,s,r.trans i⟩
      rintro(rfl|⟨y,c,j,i⟩);exact hi.mpr<|.inr ⟨_,rfl,.top A mx rfl,p⟩;rcases lt with rfl|lt;obtain⟨_,W⟩:=(w y j.mem).1.st.tup;rw[W]at c;cases c;refine hi.mpr<|.inr ⟨_,rfl,.sub A mx j c.symm ?_<|i.trans p.symm,p⟩;rw[c];exact lt
     simp only[oQ];walk_at"dl";refine⟨T,_,g,rfl,V,?_⟩;walk_at"dl";simp only[oP];rcases f with rfl|f
     ·walk_at"dl"
      simp only[kD];walk_at"dl";exact next<|.inl rfl
     ·obtain⟨an,el⟩:=Hb (M:=J) f aj
      have as:=f;obtain⟨t3,z3,k3,rfl⟩:=f;walk_at"dl";refine⟨an,?_⟩;rw[el];by_cases lt:y4 t5 (.tup [.int t3,.tup [.str z3,.int k3]])<y4 t5 (.tup [.int t',.tup [.str G,.int H]])
      ·rw[dT_ lt]
       refine bh ?_;simp only[kD];walk_at"dl";exact next<|.inr lt
      rw[dF_ lt];refine bj<|O ?_;rintro(z|⟨y,c,j,i⟩);cases z;rw[only y c j]at j;cases j with
      |top _ _ u=>cases u
      |@sub _ e2 _ _ s u o r=>rw[<-u]at o;exact lt o
    rw[dF_ Q];refine bj<|O ?_;rintro(z|⟨y,c,j,i⟩);cases z;rw[only y c j]at j;have:=j.nm;exact Q<|p ▸ this
   rw[beq_eq_false_iff_ne.mpr p];refine bj<|O ?_;rintro(z|⟨y,c,j,i⟩);cases z;rw[only y c j]at i;exact p i
theorem AU(T:Tops P w K mg base):u8 P w K mg base 1 "_law_stands" qu kA:=u8.byD (N:=["_law_house_here","_law_said_here","_law_stamp","_law_room","_law_members","_law_under"]) T.b T.f_stands (by walk_at"sc") yM (by walk_at"dv") zy
def rD:w6:=λs M R=>∃(p:List (c7×Int)) (a:List (c7×List c7)) (l:List D) (st:D),s=[.tup l,st]/\(∀d∈l,aM p a d)/\l.length<=1000/\St st/\∀b:Bool,(b=a9↔∃d∈kinds l (AA0 "back"),fe d=st/\aC d=aC st)->R (.bl b) M
theorem Eh:cr rD AN:=by rintro d M R ⟨p,a,l,st,rfl,_⟩;rfl
def xj:s9:=bp<|dC<|.bl c5
def Ft:s9:=ay (kt (bE<|ab 0) (jr 4<|aO (ag 2)<|aO (ag 3)<|aO (ag 4)<|aO (ag 5) jt)<|z6 (rj (ap<|p9 z8 (p9 u3 (ab 5)<|dC<|.int 0)<|dC<|.str "back")<|rj (ap<|p9 z8 (p9 u3 (ab 5)<|dC<|.int 1)<|ab 1)<|ap<|p9 z8 (p9 u3 (ab 3)<|dC<|.int 0)<|p9 u3 (p9 u3 (ab 1)<|dC<|.int 1)<|dC<|.int 0) (bp<|dC<|.bl a9) aY)<|xj
theorem Ga:z0 rD 6 Ft:=by
 rintro ds M R ⟨ps,J,log,st,rfl,F,I,j,h⟩;have p:=j;obtain⟨t',f,H,rfl⟩:=j;simp only[Ft];walk_at"dl";intro _;refine aT (λi S g=>g=M/\(∀d∈log.take i,¬(aU d=AA0 "back"/\fe d=.tup [.int t',.tup [.str f,.int H]]/\aC d=f))/\∃a b c d,S=[a7<|.tup log,a7<|.tup [.int t',.tup [.str f,.int H]],a,b,c,d]) ?_ ?_ ⟨rfl,(λ_ z=>nomatch z),_,_,_,_,rfl⟩;rintro S g ⟨rfl,o,a,b,c,d,rfl⟩;rw[K9]at o;refine⟨trivial,?_⟩;simp only[xj];walk_at"dl";refine .inl<|h c5 ⟨λz=>(by cases z),?_⟩;rintro⟨d,h1,h2,h3⟩;exact o4 ⟨(aq h1).2,h2,h3⟩<|o d (aq h1).1;rintro i y S g O ⟨rfl,o,a,b,c,d,rfl⟩ G B;have e:=D2 O;have E:log.take (i+1)=log.take i++[y]:=by rw[Mh,O];rfl
 rw[E]at B;have A:=F y e;have skip:∀{a b c d:Option D},¬(aU y=AA0 "back"/\fe y=.tup [.int t',.tup [.str f,.int H]]/\aC y=f)->G [a7<|.tup log,a7<|.tup [.int t',.tup [.str f,.int H]],a,b,c,d] g:=λq =>
  B _ _ ⟨rfl,λd u=>by rcases D6.mp u with h1|h1;exact o d h1;rw[show d=y by simpa using h1];exact q,_,_,_,_,rfl⟩
 refine⟨trivial,?_⟩;by_cases l:aU y=AA0 "back";obtain⟨t,z,k,v,m,rfl,C⟩:=wu A l;walk_at"dl";refine⟨trivial,⟨ah,ah⟩,?_⟩;rw[ax,show (AA0 "back" == AA0 "back")=a9 from p7 _];refine bj ⟨⟨C.ok,p.ok⟩,?_⟩;rw[show t6 g t5 m _=_ from C.eq (n:=28) p];by_cases r:m=.tup [.int t',.tup [.str f,.int H]];rw[dT_ r];refine bj ⟨⟨ah,ah⟩,?_⟩;rw[ax];by_cases s:z=f;rw[beq_iff_eq.mpr s];exact bj<|.inl<|h a9 ⟨λ_=>⟨_,A7.mpr ⟨e,dT_ l⟩,r,s⟩,λ_=>rfl⟩;rw[beq_eq_false_iff_ne.mpr s];exact bh<|x5.now<|skip λw=>s w.2.2;rw[dF_ r];exact bh<|x5.now<|skip λw=>r w.2.1;obtain⟨t,z,k,v,x,ds,rfl,_⟩:=A;walk_at"dl";refine⟨trivial,⟨ah,ah⟩,?_⟩;rw[ax,show (x==AA0 "back")=c5 from beq_eq_false_iff_ne.mpr l];exact bh<|x5.now<|skip λw=>l w.1
theorem GS(T:Tops P w K mg base):u8 P w K mg base 1 "_law_gone" AN rD:=u8.byD (N:=["_law_log_here","_law_stamp","_law_time","_law_hand","_law_number","_law_act_here"]) T.b T.f_gone (by walk_at"sc") Eh (by walk_at"dv") Ga
def fT:w6:=λd M R=>∃(p:List (c7×Int)) (a:List (c7×List c7)) (l:List D),d=[az p a,.tup l]/\HouseF p a/\LogS p a l/\R (.ref M.length) (M++[.lst<|bO a l])
theorem tU:cr fT kN:=by rintro d M R ⟨p,a,l,rfl,_⟩;rfl
theorem io{α:Type}{p:α->Bool}{x:α}:[x].filter p=if p x=a9 then[x]else[]:=by rw[Np];rfl
theorem pU(g:∀d∈l,aL d=.non\/St (aL d))(S:∀d∈l,St<|q9 d)(h:K5 l):aE s l=(l.filter λd=>@decide (C0 s l d)<|F9 _).map λd=>(q9 d,d):=by
 revert h g S;refine bu (P:=λl=>(∀d∈l,aL d=.non\/St (aL d))->(∀d∈l,St<|q9 d)->K5 l->aE s l=(l.filter λd=>@decide (C0 s l d)<|F9 _).map λd=>(q9 d,d)) (λ_ _ _=>rfl) (λl x r g S h=>?_) l;obtain⟨h1,_,o⟩:=P1.mp h;have c:∀y∈l,y4 t5 (q9 y)<y4 t5 (q9 x):=λy O=>o y O x (by simp);have b:=r (λd a=>g d<|L5 _ a) (λd a=>S d<|L5 _ a) h1;have i:=uB (rs:=s) g S h x (by simp);have n:q9 x∉(aE s l).map (·.1):=λz=>by obtain⟨p,q,e⟩:=v6.mp z;obtain⟨t,k⟩:=(fh (rs:=s) l).en p q;have:=c p.2 k;rw[<-t,e]at this;exact I9 _ this
 have C:(l.filter λd=>@decide (C0 s (l++[x]) d)<|F9 _)=l.filter λd=>@decide (C0 s l d) (F9 _):=PN λd a=>(@decide_eq_decide _ _ (F9 _)<|F9 _).mpr ⟨λz=>z.less c a,C0.more⟩;rw[NM,F0,C,<-b,io];rw[dG]at i ⊢;unfold vn at i ⊢;split at i;rename_i e;rw[fM]at i;rw[n9 e,mw n,@decide_eq_true _ (F9 _)<|i.mp rfl];rfl;rename_i e;have m:aV (aE s l) (q9 x)=a8:=by
  cases j:aV (aE s l) (q9 x) with
  |none=>rfl
  |some v=>exact o4 (L0 (f:=(·.1))<|bC j) n
 rw[m]at i;rw[o0 e,@decide_eq_false _ (F9 _) λz=>by cases i.mpr z];exact(G2 _).symm
theorem zd(s:List (D×D)):aV (dictOf s) k=((s.filter λp=>decide<|p.1=k).getLast?).map (·.2):=by refine bu (P:=λs=>aV (dictOf s) k=((s.filter λp=>decide<|p.1=k).getLast?).map (·.2)) rfl (λs p i=>?_) s;rw[bL,NM,io];by_cases e:p.1=k;rw[dT_ e,<-e,fM];simp;rw[dF_ e,gW<|B8 e,i];simp
def SelM(r:List (c7×List c7))(l:List D)(d:D):Prop:=C0 r (kinds l<|AA0 "say") d/\¬iR (ak r l) l (q9 d)
noncomputable def Gk(r:List (c7×List c7))(l:List D)(d:D):Bool:=@decide (SelM r l d)<|F9 _
noncomputable def EY(d c:D):Bool:=decide (aU c=AA0 "change")&&(decide (fe c=q9 d)&&decide (aC c=aC d))
section
variable{ps:List (c7×Int)}{rs:List (c7×List c7)}{log:List D}
theorem LogS.cl(g:LogS ps rs log):ak rs log=((kinds log<|AA0 "say").filter λd=>@decide (C0 rs (kinds log<|AA0 "say") d)<|F9 _).map λd=>(q9 d,d):=by
 have h:∀d∈kinds log (AA0 "say"),aM ps rs d/\aU d=AA0 "say":=λd q=>⟨g.dk d (aq q).1,(aq q).2⟩
 refine pU (λd q=>?_) (λd q=>(h d q).1.st)<|Nu _ g.up;obtain⟨t,z,k,m,r,u,s,rfl,_,_,_,a⟩:=cH (h d q).1 (h d q).2;exact a
theorem LogS.sh(g:LogS ps rs log):aJ rs log=((kinds log<|AA0 "say").filter<|Gk rs log).map λd=>(q9 d,d):=by
 have:∀B:D->Prop,(ak rs log).filter (λp=>@decide (¬B p.1)<|F9 _)=((kinds log<|AA0 "say").filter λd=>@decide (C0 rs (kinds log<|AA0 "say") d/\¬B (q9 d))<|F9 _).map λd=>(q9 d,d):=λB=>by rw[g.cl,PC,QB];congr 1;refine PN λd _=>?_;by_cases h1:C0 rs (kinds log<|AA0 "say") d<;>by_cases h2:B (q9 d)<;>simp[h1,h2]
 exact this _
theorem LogS.ms(g:LogS ps rs log):bO rs log=((kinds log<|AA0 "say").filter<|Gk rs log).map (zr<|aN (aJ rs log) log):=by unfold bO;generalize aN (aJ rs log) log=h;rw[g.sh,Fn];rfl
theorem LogS.ch(g:LogS ps rs log)(h:d∈kinds log (AA0 "say"))(s:SelM rs log d):aV (aN (aJ rs log) log) (q9 d)=((log.filter<|EY d).getLast?).map aL:=by
 have w:aV (aJ rs log) (q9 d)=a7 d:=cR (p:=(q9 d,d)) Dd (by rw[g.sh];exact L0 (f:=λd=>(q9 d,d))<|A7.mpr ⟨h,@decide_eq_true _ (F9 _) s⟩);unfold aN;rw[zd,PC,List.getLast?_map,Option.map_map];unfold kinds;rw[QB,QB];congr 2;refine PN λc _=>?_;show ((decide (fe c=q9 d)&&J2 (aJ rs log) c)&&decide (aU c=AA0 "change"))=EY d c;unfold EY;by_cases h2:fe c=q9 d;have:J2 (aJ rs log) c=decide (aC c=aC d):=by unfold J2;rw[h2,w]
 rw[this];cases decide (aU c=AA0 "change")<;>cases decide (aC c=aC d)<;>simp;simp[h2]
theorem Be(h:aM ps rs d):aC (q9 d)=aC d:=by obtain⟨t,z,k,m,x,s,rfl,_⟩:=h;rfl
theorem LogS.gone(g:LogS ps rs log)(c:d∈kinds log (AA0 "say"))(j:C0 rs (kinds log<|AA0 "say") d):iR (ak rs log) log (q9 d)↔∃b∈kinds log (AA0 "back"),fe b=q9 d/\aC b=aC (q9 d):=by
 have h:∀d∈kinds log (AA0 "say"),aM ps rs d/\aU d=AA0 "say":=λd q=>⟨g.dk d (aq q).1,(aq q).2⟩
 have f:aV (ak rs log) (q9 d)=a7 d:=(uB (rs:=rs) (λd q=>by obtain⟨t,z,k,m,r,u,s,rfl,_,_,_,i⟩:=cH (h d q).1 (h d q).2;exact i) (λd q=>(h d q).1.st) (Nu _ g.up) d c).mpr j;have w:∀b,fe b=q9 d->J2 (ak rs log) b=decide (aC b=aC d):=λb e=>by unfold J2;rw[e,f]
 rw[Be (h d c).1];refine⟨λ⟨b,h1,h2,a⟩=>⟨b,h1,a,oT_<|w b a ▸ h2⟩,?_⟩;rintro⟨b,h1,h2,a⟩;exact⟨b,h1,(w b h2).trans<|dT_ a,h2⟩
end
theorem cut2(x:List D):cutD x a8 (a7 2)=x.take 2:=by unfold cutD;rw[show (a7 2:Option Int)=a7 ((2:Nat):Int)from rfl,HT.sIx_none,HT.sIx_nat,Qh,Nat.sub_zero,<-List.take_eq_take_min]
noncomputable def hd0:D->D
 |.tup (x::_)=>x
 |d=>d
def OO(x:D):Prop:=∃(t:Int) (z:c7) (k:Int) (s:c7),x=.tup [.tup [.int t,.tup [.str z,.int k]],.str s]
theorem OO.pl(h:OO x):G0 3 x:=by obtain⟨t,z,k,s,rfl⟩:=h;exact .tup<|.cons (St.pl (n:=0) ⟨t,z,k,rfl⟩)<|.cons (.str _) .nil
theorem OO.cm(f:OO a)(d:OO b):dS M t5 a b=a9:=by
 obtain⟨t,z,k,s,rfl⟩:=f;obtain⟨t',G,H,s',rfl⟩:=d;show (if t6 M 29 (.tup [.int t,.tup [.str z,.int k]]) (.tup [.int t',.tup [.str G,.int H]])=a9 then(if t6 M 29 (.str s) (.str s')=a9 then a9 else a9)else(if t6 M 28 (.int t) (.int t')=a9 then(if t6 M 28 (.tup [.str z,.int k]) (.tup [.str G,.int H])=a9 then a9 else(if t6 M 27 (.str z) (.str G)=a9 then(if t6 M 27 (.int k) (.int H)=a9 then a9 else a9)else a9))else a9))=a9
 repeat' split
 all_goals rfl
theorem uI(h:∀k,k+1<n->bt (k+1) k=a9):∀k,k<n->PySem.argBest bt k=k
 | 0,_=>rfl
 |k+1,hk=>by have:=uI h k (by lia);unfold PySem.argBest;rw[this,h k hk];rfl
theorem gt_st(f:St a)(d:St b):NC M 29 a b=B7 M t5 b a:=by
 obtain⟨t,z,k,rfl⟩:=f;obtain⟨t',G,H,rfl⟩:=d;show (if t6 M 28 (.int t) (.int t')=a9 then(if t6 M 28 (.tup [.str z,.int k]) (.tup [.str G,.int H])=a9 then c5 else(if t6 M 27 (.str z) (.str G)=a9 then(if t6 M 27 (.int k) (.int H)=a9 then c5 else decide (H < k))else eW G z))else decide (t' < t))=(if t6 M 29 (.int t') (.int t)=a9 then(if t6 M 29 (.tup [.str G,.int H]) (.tup [.str z,.int k])=a9 then c5 else(if t6 M 28 (.str G) (.str z)=a9 then(if t6 M 28 (.int H) (.int k)=a9 then c5 else decide (H < k))else eW G z))else decide (t' < t))
 have U:∀n,t6 M (n+1) (.tup [.str z,.int k]) (.tup [.str G,.int H])=((z==G)&&((k==H)&&a9)):=λn=>by show (t6 M n (.str z) (.str G)&&(t6 M n (.int k) (.int H)&&a9))=_;rw[ax,dE]
 have e:∀n,t6 M (n+1) (.tup [.str G,.int H]) (.tup [.str z,.int k])=((G==z)&&((H==k)&&a9)):=λn=>by show (t6 M n (.str G) (.str z)&&(t6 M n (.int H) (.int k)&&a9))=_;rw[ax,dE]
 rw[U,e,dE,dE,ax,ax,dE,dE,Bool.beq_comm (a:=t),Bool.beq_comm (a:=z),Bool.beq_comm (a:=k)]
theorem As(h:K5 l):(iU l).map (·.1)=l.map q9:=by
 revert h;refine bu (P:=λl=>K5 l->(iU l).map (·.1)=l.map q9) (λ_=>rfl) (λl x b h=>?_) l;obtain⟨h1,_,a⟩:=P1.mp h;have i:=b h1;have g:q9 x∉(iU l).map (·.1):=λz=>by rw[i]at z;obtain⟨y,O,e⟩:=v6.mp z;have:=a y O x (by simp);rw[e]at this;exact I9 _ this
 rw[eY,mw g,F0,F0,i];rfl
theorem Ge(h:K5 l)(S:∀d∈l,St<|q9 d)(p:n.Perm (l.map q9))(i:FT M n):n=l.map q9:=by
 have m:∀x∈l.map q9,St x:=λx c=>by obtain⟨d,g,rfl⟩:=v6.mp c;exact S d g
 have s:∀x∈n,St x:=λx c=>m x<|p.mem_iff.mp c;refine List.Perm.eq_of_pairwise (le:=λa b=>¬y4 t5 b<y4 t5 a) (λx y c O h1 h2=>?_) ?_ ?_ p;have f:=s x c;have s:=m y O;have o:A6 t5 x=a9:=by obtain⟨t,z,k,e⟩:=f;rw[e];rfl
 have j:A6 t5 y=a9:=by obtain⟨t,z,k,e⟩:=s;rw[e];rfl
 exact Ch (M:=[]) o j (f.cm s)<|List.le_antisymm (List.not_lt.mp h1)<|List.not_lt.mp h2;refine(Rn.mp i).imp λ{a b} ⟨ha,hb,q⟩=>?_;rw[(Hb (s b hb)<|s a ha).2]at q;exact of_decide_eq_false q;exact List.pairwise_map.mpr<|h.imp λq z=>I9 _<|Pv q z
theorem ch_gt(h:St (q9 c))(h':St (q9 c'))(lt:y4 t5 (q9 c)<y4 t5 (q9 c')):NC M t5 (.tup [q9 c',aL c']) (.tup [q9 c,aL c])=a9:=by show (if t6 M 29 (q9 c') (q9 c)=a9 then Lr (t6 M 29) (NC M 29) [aL c'] [aL c]else NC M 29 (q9 c') (q9 c))=a9;rw[h'.eq (n:=27) h,dF_ λe=>by rw[e]at lt;exact I9 _ lt,o0 (by decide),gt_st h' h,(Hb h h').2];exact dT_ lt
theorem iteT'{b:Bool}{A B:Prop}(e:b=a9)(h:A):if b=a9 then A else B:=by rw[n9 e];exact h
def gH:s9:=bp<|ab 3
def gI:s9:=gj<|K3 bF (ab 3)<|aa (dL<|aa (ab 4)<|aa (ab 6)<|aa (ab 7)<|aa (ab 9)<|aa (ab 8)<|aa (p9 Nz (ab 10)<|iP af) af) af
def lA:s9:=ay (z6 (ap<|p9 Nz (ab 10)<|iP af) (ba (p9 u3 (t7 Az<|aa (ab 10) af)<|dC<|.int 1) 8) aY)<|gI
def lB:s9:=ay (lU 1 [9] (bE<|ab 10) (ag 0) (ap<|p9 z8 (p9 u3 (p9 u3 (p9 u3 (ab 0)<|dC<|.int 0)<|dC<|.int 1)<|dC<|.int 0)<|ab 1) (ab 0) 10)<|lA
def lC:s9:=z6 (rj (ap<|t7 kA<|aa (ab 0)<|aa (ab 2)<|aa (ab 4) af)<|EV<|ap<|t7 rD<|aa (ab 1)<|aa (ab 4) af) (ay (lU 1 [4] (bE<|ab 1) (ag 0) (ap<|p9 z8 (Ml (p9 u3 (ab 0)<|dC<|.int 3) dF<|fP<|dC<|.int 2)<|dL<|aa (dC<|.str "change")<|aa (ab 1) af) (dL<|aa (dL<|aa (p9 u3 (ab 0)<|dC<|.int 0)<|aa (p9 u3 (ab 0)<|dC<|.int 1) af)<|aa (p9 u3 (p9 u3 (ab 0)<|dC<|.int 3)<|dC<|.int 2) af) 10)<|lB) aY
def lD:s9:=ay (ba (p9 u3 (p9 u3 (ab 4)<|dC<|.int 1)<|dC<|.int 0) 9)<|lC
def lE:s9:=ay (kt (bE<|t7 jZ<|aa (ab 2) af) (ag 4)<|ay (II (gZ (ab 2)<|ab 4)<|jr 4<|aO (ag 5)<|aO (ag 6)<|aO (ag 7)<|aO (ag 8) jt)<|lD)<|gH
def lG:s9:=ay (ba (iP af) 3)<|lE
def ph:s9:=ay (ba (t7 nW<|aa (ab 1) af) 2)<|lG
theorem uS:z0 fT 11 ph:=by
 rintro ds M R ⟨ps,H,log,rfl,hf,E,h⟩;have dd:=E.len;simp only[ph];walk_at"dl";refine⟨ps,H,log,rfl,E.dk,by lia,λn B pB hB=>?_⟩;have rl:K5 (kinds log<|AA0 "say"):=Nu _ E.up;have hk:∀d∈kinds log (AA0 "say"),aM ps H d/\aU d=AA0 "say":=λd q=>⟨E.dk d (aq q).1,(aq q).2⟩
 have kl:=bA (log:=log) (k:=AA0 "say");have sg:∀d∈kinds log (AA0 "say"),aV (iw log) (q9 d)=a7 (zp d):=qh rl;have sk:(iw log).map (·.1)=(kinds log<|AA0 "say").map q9:=As rl;simp only[lG];walk_at"dl";refine⟨z5 _,?_⟩;have aD:=ac (a:=MO.lst []) hB;have g3:(B++[MO.lst []])[B.length]?=a7 (.lst []):=ad;have p1:B <+: B++[MO.lst []]:=cG;have l1:(B++[MO.lst []]).length=B.length+1:=by simp
 generalize B++[MO.lst []]=B1 at aD g3 p1 l1;simp only[lE];walk_at"dl";rw[l1];refine⟨_,aD,?_⟩;rw[sk];refine⟨vm (λx U=>?_) (by rw[u6];lia),λys hy hr=>?_⟩;obtain⟨d,P,rfl⟩:=v6.mp U;exact(hk d P).1.st;obtain rfl:ys=(kinds log<|AA0 "say").map q9:=Ge rl (λd P=>(hk d P).1.st) hy hr;have dt:=ac (a:=MO.lst<|(kinds log<|AA0 "say").map q9) aD;have bS:=ac (a:=MO.lst<|(kinds log<|AA0 "say").map q9) g3;have g4:(B1++[MO.lst<|(kinds log<|AA0 "say").map q9])[B.length+1]?=a7 (.lst<|(kinds log<|AA0 "say").map q9):=by rw[<-l1];exact ad
 have p2:=p1.trans<|cG (mo:=MO.lst<|(kinds log<|AA0 "say").map q9);generalize B1++[MO.lst<|(kinds log<|AA0 "say").map q9]=B2 at dt bS g4 p2;have nB:n<B.length:=aX hB;generalize hK:kinds log (AA0 "say")=K at *;generalize hc:aN (aJ H log) log=ch;refine⟨_,.inl g4,λ_=>?_⟩;refine aT (λi S w=>∃(a b c d e f g:Option D),B <+: w/\w[B.length]?=a7 (.lst<|((K.take i).filter<|Gk H log).map<|zr ch)/\w[B.length+1]?=a7 (.lst<|K.map q9)/\S=[a7<|az ps H,a7<|.tup log,a7<|.ref n,a7<|.ref B.length,a,b,c,d,e,f,g]) ?_ ?_ ⟨_,_,_,_,_,_,_,p2,bS,g4,rfl⟩;rintro S w ⟨a,b,c,d,e,f,g,pM,gf,gk,rfl⟩;rw[u6,K9]at gf;refine⟨.inl gk,?_⟩;simp only[gH];walk_at"dl";have em:=E.ms;rw[hK,hc]at em;rw[em]at h;refine bb.chgL .refl h (by obtain⟨L,rfl⟩:=pB;simp) gf (pB.trans pM)<|Bels.of λx U=>?_;obtain⟨y,hy,rfl⟩:=v6.mp U;have aj:=(A7.mp hy).1;rw[<-hc];exact xC (nT E.dk) (hk y aj).1 (hk y aj).2;rintro i y S w hy ⟨a,b,c,d,e,f,g,pM,gf,gk,rfl⟩ G hG;rw[C8]at hy;cases P:K[i]? with
 |none=>rw[P]at hy;cases hy
 |some d =>
 rw[P]at hy;obtain rfl:q9 d=y:=A8 hy;have hm:=D2 P;have hi:=(x9.mp P).1;have et:K.take (i+1)=K.take i++[d]:=by rw[Mh,P];rfl
 rw[et]at hG;have gn:=aI pM hB;have sd:=sg d hm;have al:=LogS.ch E (d:=d) (by rw[hK];exact hm);rw[hc]at al;refine⟨.inl gk,?_⟩;have cP:=(hk d hm).1.st;obtain⟨t,z,k,A,r,u,s,rfl,_,_,_,hu⟩:=cH (hk d hm).1 (hk d hm).2;simp only[zp,q9]at sd;have T:St (.tup [.int t,.tup [.str z,.int k]]):=cP;simp only[q9,lD];walk_at"dl";refine⟨_,_,gn,rfl,sd,?_⟩;simp only[lC];walk_at"dl";have skip:∀{a b c d e f g:Option D},¬SelM H log (.tup [.int t,.tup [.str z,.int k],.int A,.tup [.str<|AA0 "say",.str r,u,.str s]])->G [a7<|az ps H,a7<|.tup log,a7<|.ref n,a7<|.ref B.length,a,b,c,d,e,f,g] w:=λq =>
  hG _ _ ⟨_,_,_,_,_,_,_,pM,by rw[NM,io,show Gk H log _=c5 from @decide_eq_false _ (F9 _) q,o0 (by decide),G2];exact gf,gk,rfl⟩
 have gi:=E.gone (by rw[hK];exact hm);refine⟨trivial,ps,H,log,n,_,rfl,hf,E.dk,E.up,gn,by rw[hK];exact hm,λb1 cn=>?_⟩;cases b1 with
 |false=>exact x5.now (skip λq=>by have:=cn.mpr q.1;cases this)
 |true =>
 have cv:=cn.mp rfl;have gi:=gi cv;refine bj ⟨ps,H,log,_,rfl,E.dk,by lia,cP,λb2 co=>?_⟩;cases b2 with
 |true=>exact x5.now<|skip λq=>q.2<|gi.mpr<|co.mp rfl
 |false =>
 have cz:SelM H log (.tup [.int t,.tup [.str z,.int k],.int A,.tup [.str<|AA0 "say",.str r,u,.str s]]):=⟨cv,λq=>by have:=co.mpr<|gi.mp q;cases this⟩
 have al:=al cz;refine bj λ_=>?_;refine aQ (λc=>decide (aU c=AA0 "change")&&decide (fe c=.tup [.int t,.tup [.str z,.int k]])) (λc=>.tup [q9 c,aL c]) (λS=>∃a,S=[a,a7<|.tup [.int t,.tup [.str z,.int k]]]) trivial _ _ _ ?_ ⟨_,rfl⟩ (by rw[C2];exact am<|by lia) ?_;rintro c o S ⟨a,rfl⟩;refine⟨[a7 c,a7<|.tup [.int t,.tup [.str z,.int k]]],⟨_,rfl⟩,λY Z l=>?_⟩;have dc:=E.dk c o;by_cases ai:aU c=AA0 "change";obtain⟨N,I,J,n1,m,V,rfl,ct⟩:=fi dc ai;have e0:(decide (aU (.tup [.int N,.tup [.str I,.int J],.int n1,.tup [.str<|AA0 "change",m,.str V]])=AA0 "change")&&decide (fe (.tup [.int N,.tup [.str I,.int J],.int n1,.tup [.str<|AA0 "change",m,.str V]])=.tup [.int t,.tup [.str z,.int k]]))=decide (m=.tup [.int t,.tup [.str z,.int k]]):=by rw[dT_ ai];rfl
 rw[e0]at l;have e3:∀x1 x2 x3:D,atI [x1,x2,x3,.tup [.str<|AA0 "change",m,.str V]] 3=a7 (.tup [.str<|AA0 "change",m,.str V]):=λ_ _ _=>aF (j:=3) rfl;walk_at"dl";simp only[e3,cut2,NQ,List.take];have e1:t6 w t5 (.tup [.str<|AA0 "change",m]) (.tup [.str<|AA0 "change",.tup [.int t,.tup [.str z,.int k]]])=decide (m=.tup [.int t,.tup [.str z,.int k]]):=by show (t6 w 29 (.str<|AA0 "change") (.str<|AA0 "change")&&(t6 w 29 m (.tup [.int t,.tup [.str z,.int k]])&&a9))=_;rw[ax,ct.eq (n:=27) T,p7,OU,Bool.and_true]
 refine⟨am (by lia),⟨(dP 3 t5 _ (by decide)<|.tup<|.cons (.str _)<|.cons ct.pl .nil).1,(dP 3 t5 _ (by decide)<|.tup<|.cons (.str _)<|.cons T.pl .nil).1⟩,?_⟩;rw[e1];by_cases q:m=.tup [.int t,.tup [.str z,.int k]];rw[dT_ q]at l ⊢;exact bj ⟨am (by lia),am (by lia),l⟩;rw[dF_ q]at l ⊢;exact bh l;obtain⟨N,I,J,n1,x1,O,rfl,_,_,dv,_⟩:=dc;have e3:∀y1 y2 y3:D,atI [y1,y2,y3,.tup<|.str x1::O] 3=a7 (.tup<|.str x1::O):=λ_ _ _=>aF (j:=3) rfl;walk_at"dl";simp only[e3,cut2,List.take];rw[show decide (aU (.tup [.int N,.tup [.str I,.int J],.int n1,.tup<|.str x1::O])=AA0 "change")=c5 from dF_ ai,Oq]at l;refine⟨am (by lia),⟨(dP 5 t5 _ (by decide)<|.tup<|.cons (.str _)<|nY.of λd P=>E5.mp dv d<|P2 P).1,(dP 3 t5 _ (by decide)<|.tup<|.cons (.str _)<|.cons T.pl .nil).1⟩,?_⟩;have e1:t6 w t5 (.tup<|.str x1::List.take 1 O) (.tup [.str<|AA0 "change",.tup [.int t,.tup [.str z,.int k]]])=c5:=by show (t6 w 29 (.str x1) (.str<|AA0 "change")&&C6 (t6 w 29) (List.take 1 O) [.tup [.int t,.tup [.str z,.int k]]])=c5;rw[ax,show (x1==AA0 "change")=c5 from beq_eq_false_iff_ne.mpr ai,Oq]
 rw[e1];exact bh l;rw[F4];generalize bk:(log.filter λc=>decide (aU c=AA0 "change")&&decide (fe c=.tup [.int t,.tup [.str z,.int k]]))=p;have cl:=ac (a:=MO.lst<|p.map λc=>D.tup [q9 c,aL c]) gn;have cc:=ac (a:=MO.lst<|p.map λc=>D.tup [q9 c,aL c]) gf;have ce:=ac (a:=MO.lst<|p.map λc=>D.tup [q9 c,aL c]) gk;have de:=pM.trans<|cG (mo:=MO.lst<|p.map λc=>D.tup [q9 c,aL c]);have gx:(w++[MO.lst<|p.map λc=>D.tup [q9 c,aL c]])[w.length]?=a7 (.lst<|p.map λc=>D.tup [q9 c,aL c]):=ad;generalize w++[MO.lst<|p.map λc=>D.tup [q9 c,aL c]]=M1 at cl cc ce de gx;have dx:p.length<=60:=by rw[<-bk];exact D4 (L6 _ _) dd
 have di:∀c∈p,c∈log/\aU c=AA0 "change":=λc X=>by rw[<-bk]at X;have:=A7.mp X;have h2:=(C9 _ _).mp this.2;exact⟨this.1,oT_ h2.1⟩
 simp only[lB];walk_at"dl";refine⟨_,.inl gx,λ_=>?_⟩;refine aQ (λx=>decide<|aC (hd0 x)=z) id (λS=>∃a,S=[a,a7<|.str z]) (.inl gx) _ _ _ ?_ ⟨_,rfl⟩ (by rw[C2,u6];exact am<|by lia) ?_;rintro x U S ⟨a,rfl⟩;obtain⟨c,o,rfl⟩:=v6.mp U;obtain⟨N,I,J,n1,m,V,rfl,_⟩:=fi (E.dk c (di c o).1) (di c o).2;refine⟨[a7<|.tup [.tup [.int N,.tup [.str I,.int J]],.str V],a7<|.str z],⟨_,rfl⟩,λY Z l=>?_⟩;change (if decide (I=z)=a9 then Y (.tup [.tup [.int N,.tup [.str I,.int J]],.str V]) [a7<|.tup [.tup [.int N,.tup [.str I,.int J]],.str V],a7<|.str z] M1 else Z [a7<|.tup [.tup [.int N,.tup [.str I,.int J]],.str V],a7<|.str z] M1)at l;simp only[q9,aL];walk_at"dl";refine⟨⟨ah,ah⟩,?_⟩;rw[ax];by_cases q:I=z;rw[beq_iff_eq.mpr q];rw[dT_ q]at l;exact bj l;rw[beq_eq_false_iff_ne.mpr q];rw[dF_ q]at l;exact bh l;have el:[]++List.map id (List.filter (λx=>decide<|aC (hd0 x)=z)<|p.map λc=>D.tup [q9 c,aL c])=(log.filter<|EY<|.tup [.int t,.tup [.str z,.int k],.int A,.tup [.str<|AA0 "say",.str r,u,.str s]]).map λc=>D.tup [q9 c,aL c]:=by
  rw[F4,MR,PC,<-bk,QB];congr 1;refine PN λc o=>?_;show (decide (aC (q9 c)=z)&&(decide (aU c=AA0 "change")&&decide (fe c=.tup [.int t,.tup [.str z,.int k]])))=(decide (aU c=AA0 "change")&&(decide (fe c=.tup [.int t,.tup [.str z,.int k]])&&decide (aC c=z)))
  rw[Be<|E.dk c o];cases decide (aC c=z)<;>simp
 rw[el];have dp:((log.filter<|EY<|.tup [.int t,.tup [.str z,.int k],.int A,.tup [.str<|AA0 "say",.str r,u,.str s]]).map λc=>D.tup [q9 c,aL c]).length<=60:=by rw[u6];exact D4 (L6 _ _) dd
 have bo:K5 (log.filter<|EY<|.tup [.int t,.tup [.str z,.int k],.int A,.tup [.str<|AA0 "say",.str r,u,.str s]]):=Nu _ E.up;have F:∀c∈log.filter (EY<|.tup [.int t,.tup [.str z,.int k],.int A,.tup [.str<|AA0 "say",.str r,u,.str s]]),OO (.tup [q9 c,aL c])/\St (q9 c):=λc X=>by have h1:=A7.mp X;have dc:=E.dk c h1.1;obtain⟨N,I,J,n1,m,V,rfl,_⟩:=fi dc<|oT_ ((C9 _ _).mp h1.2).1;exact⟨⟨N,I,J,V,rfl⟩,N,I,J,rfl⟩
 have C:aV ch (.tup [.int t,.tup [.str z,.int k]])=(((log.filter<|EY<|.tup [.int t,.tup [.str z,.int k],.int A,.tup [.str<|AA0 "say",.str r,u,.str s]])).getLast?).map aL:=al;generalize log.filter (EY<|.tup [.int t,.tup [.str z,.int k],.int A,.tup [.str<|AA0 "say",.str r,u,.str s]])=cs at dp bo F C;have dr:=ac (a:=MO.lst<|cs.map λc=>D.tup [q9 c,aL c]) cl;have cd:=ac (a:=MO.lst<|cs.map λc=>D.tup [q9 c,aL c]) cc;have ci:=ac (a:=MO.lst<|cs.map λc=>D.tup [q9 c,aL c]) ce;have dg:=de.trans<|cG (mo:=MO.lst<|cs.map λc=>D.tup [q9 c,aL c]);have gc:(M1++[MO.lst<|cs.map λc=>D.tup [q9 c,aL c]])[M1.length]?=a7 (.lst<|cs.map λc=>D.tup [q9 c,aL c]):=ad;generalize M1++[MO.lst<|cs.map λc=>D.tup [q9 c,aL c]]=M2 at dr cd ci dg gc;generalize M1.length=q at gc;have bs:∀{M:t8},∀x∈cs.map λc=>D.tup [q9 c,aL c],u5 M 29 x=a9:=λx U=>by obtain⟨c,o,rfl⟩:=v6.mp U;exact(dP 3 29 _ (by decide) (F c o).1.pl).1
 have eb:(!(cs.map λc=>D.tup [q9 c,aL c]).isEmpty)=(aV ch<|.tup [.int t,.tup [.str z,.int k]]).isSome:=by rw[C];cases cs<;>simp
 have bw:∀(v:D) (M3:t8),B <+: M3->M3[B.length]?=a7 (.lst<|((K.take i).filter<|Gk H log).map<|zr ch)->M3[B.length+1]?=a7 (.lst<|K.map q9)->M3[q]?=a7 (.lst<|cs.map λc=>D.tup [q9 c,aL c])->v=(aV ch<|.tup [.int t,.tup [.str z,.int k]]).getD (.str s)->gI ⟨x5 B2 G,bb M R,λS' w=>gH ⟨λ_ w=>bb M R D.non w,bb M R,λ_ _=>False,λ_ _=>False⟩ S' w,x5 B2 G⟩ [a7<|az ps H,a7<|D.tup log,a7<|D.ref n,a7<|D.ref B.length,a7<|D.tup [D.int t,D.tup [D.str z,D.int k]],a7<|D.str<|AA0 "say",a7<|D.str r,a7 u,a7 v,a7<|D.str z,a7<|D.ref q] M3:=by intro v M3 p3 f3 k3 c3 ev;simp only[gI];walk_at"dl";obtain⟨bl,en⟩:=ii (M:=M3) (.inl c3) bs;refine⟨⟨_,.inl f3⟩,z5 _,bl,am (by lia),_,ac f3,aH (by rw[u6];have:=L6 (Gk H log)<|K.take i;rw[F5]at this;lia),?_⟩;rw[en,eb,ev];refine x5.now<|hG _ _ ⟨_,_,_,_,_,_,_,bJ (p3.trans cG)<|u7 _,?_,ar (by lia)<|ac k3,rfl⟩;rw[bK<|ac f3,NM,io,show Gk H log _=a9 from @decide_eq_true _ (F9 _) cz,n9 rfl,F0];rfl
 obtain⟨bl,en⟩:=ii (M:=M2) (.inl gc) bs;simp only[lA];walk_at"dl";refine⟨z5 _,bl,?_⟩;rw[en];have an:=ac (a:=MO.lst []) cd;have as:=ac (a:=MO.lst []) ci;have W:=ac (a:=MO.lst []) gc;have bm:=dg.trans<|cG (mo:=MO.lst []);generalize M2++[MO.lst []]=M3 at an as W bm;cases cs with
 |nil=>exact bh<|bw (.str s) M3 bm an as W<|by rw[C];rfl
 |cons c0 dl =>
 generalize aP:c0::dl=cs at *;have c1:1<=cs.length:=by rw[<-aP];simp
 refine iteT' (by rw[<-aP];rfl) ⟨_,.inl W,by rw[<-aP];simp,λx U=>?_,λx U y aj=>?_,λm Q=>?_⟩;obtain⟨c,o,rfl⟩:=v6.mp U;exact(dP 3 t5 _ (by decide) (F c o).1.pl).1;obtain⟨c,o,rfl⟩:=v6.mp U;obtain⟨c',cp,rfl⟩:=v6.mp aj;exact(F c o).1.cm (F c' cp).1;rw[uI (n:=(cs.map λc=>D.tup [q9 c,aL c]).length) (λk aS=>?_) _ (by rw[u6];lia),<-List.getLast?_eq_getElem?,List.getLast?_map]at Q;cases ec:cs.getLast? with
 |none=>rw[ec]at Q;cases Q
 |some c=>rw[ec]at Q C;obtain rfl:D.tup [q9 c,aL c]=m:=A8 Q;simp only[MC];exact bw (aL c) M3 bm an as W<|by rw[C];rfl
 rw[u6]at aS;have e1:(cs.map λc=>D.tup [q9 c,aL c]).getD (k+1) .non=.tup [q9 cs[k+1],aL cs[k+1]]:=by rw[G6,C8,w9 aS];rfl
 have e2:(cs.map λc=>D.tup [q9 c,aL c]).getD k .non=.tup [q9 cs[k],aL cs[k]]:=by rw[G6,C8,w9<|by lia];rfl
 rw[e1,e2];exact ch_gt (F _<|Mg _).2 (F _<|Mg _).2<|P6.mp bo k (k+1) (by lia) aS<|K0 _
theorem vL(T:Tops P w K mg base):u8 P w K mg base 2 "_law_messages" kN fT:=u8.byD (N:=["_law_house_here","_law_log_here","_law_said_here","_law_found","_law_stamp","_law_word","_law_room","_law_under","_law_saying_here","_law_writer","_law_changes"]) T.b T.f_messages (by walk_at"sc") tU (by have:=AW T;have:=AU T;have:=GS T;walk_at"dv") uS
noncomputable def fZ(l:List D)(n:c7):List D:=(dJ l (AA0 "read") n).map λd=>.tup [.str<|au d,aL d]
def mC:w6:=λb M R=>∃(p:List (c7×Int)) (s:List (c7×List c7)) (l:List D) (e:c7),b=[.tup l,.str e]/\(∀d∈l,aM p s d)/\l.length<=60/\∀(n o a C:Nat) (B:t8) (h:List D),M <+: B->B[n]?=a7 (.lst<|fZ l e)->B[o]?=a7 (.lst<|bq l (AA0 "seen") e)->B[a]?=a7 (.lst<|bq l (AA0 "rung") e)->B[C]?=a7 (.lst h)->(∀w∈h,eL w)->(∀w,w∈h↔aV (gh l e) w=a7 (.bl a9))->R (.tup [.ref n,.ref o,.ref a,.ref C]) B
theorem Bs:cr mC vD:=by rintro d M R ⟨p,a,l,e,rfl,_⟩;rfl
theorem rV:bq (l++[d]) k n=bq l k n++if aU d=k/\aC d=n then[fe d]else[]:=by unfold bq;rw[kT,F0];split<;>rfl
theorem ym:fZ (l++[d]) n=fZ l n++if aU d=AA0 "read"/\aC d=n then[.tup [.str<|au d,aL d]]else[]:=by unfold fZ;rw[kT,F0];split<;>rfl
theorem yV:gh (l++[d]) n=if aU d=AA0 "hush"/\aC d=n then iK (gh l n) (fe d) (aL d)else gh l n:=by unfold gh;rw[kT,F0];split;rw[List.map_singleton,bL];rw[Ps,G2]
theorem wf(h:∀d∈l,aM s r d):∀p∈gh l name,eL p.1/\∃b,p.2=.bl b:=λp a=>by obtain⟨d,m,rfl⟩:=v6.mp<|uu _ a;obtain⟨h1,h2,_⟩:=cJ m;obtain⟨t,z,k,n,w,b,rfl,c⟩:=BO (h d h1) h2;exact⟨c,b,rfl⟩
theorem nK(h:l.length<=n):(dJ l k e).length<=n:=D4 ff h
def sf:s9:=bp<|dL<|aa (ab 2)<|aa (ab 3)<|aa (ab 4)<|aa (E6 1 [5] (lV<|ab 5) (ag 0) (ap<|gZ (ab 1)<|ab 0)<|ab 0) af
def mJ:s9:=z6 (rj (ap<|p9 z8 (p9 u3 (ab 7)<|dC<|.int 0)<|ab 1)<|ap<|p9 z8 (p9 u3 (ab 9)<|dC<|.int 0)<|dC<|.str "hush") (qY (ab 5) (p9 u3 (ab 9)<|dC<|.int 1)<|p9 u3 (ab 9)<|dC<|.int 2) aY
def mK:s9:=ay (z6 (rj (ap<|p9 z8 (p9 u3 (ab 7)<|dC<|.int 0)<|ab 1)<|ap<|p9 z8 (p9 u3 (ab 9)<|dC<|.int 0)<|dC<|.str "rung") (gj<|K3 bF (ab 4)<|aa (p9 u3 (ab 9)<|dC<|.int 1) af) aY)<|mJ
def mL:s9:=ay (z6 (rj (ap<|p9 z8 (p9 u3 (ab 7)<|dC<|.int 0)<|ab 1)<|ap<|p9 z8 (p9 u3 (ab 9)<|dC<|.int 0)<|dC<|.str "seen") (gj<|K3 bF (ab 3)<|aa (p9 u3 (ab 9)<|dC<|.int 1) af) aY)<|mK
def si:s9:=ay (kt (bE<|ab 0) (jr 4<|aO (ag 6)<|aO (ag 7)<|aO (ag 8)<|aO (ag 9) jt)<|ay (z6 (rj (ap<|p9 z8 (p9 u3 (ab 7)<|dC<|.int 0)<|ab 1)<|ap<|p9 z8 (p9 u3 (ab 9)<|dC<|.int 0)<|dC<|.str "read") (gj<|K3 bF (ab 2)<|aa (dL<|aa (p9 u3 (ab 9)<|dC<|.int 1)<|aa (p9 u3 (ab 9)<|dC<|.int 2) af) af) aY)<|mL)<|sf
def sj:s9:=ay (ba (re) 5)<|si
def su:s9:=ay (ba (iP af) 4)<|sj
def sw:s9:=ay (ba (iP af) 3)<|su
def zM:s9:=ay (ba (iP af) 2)<|sw
theorem CL:z0 mC 10 zM:=by
 rintro ds M R ⟨ps,rs,log,name,rfl,hd,ll,h⟩;simp only[zM,sw,su,sj];walk_at"dl";refine⟨z5 _,z5 _,z5 _,?_⟩;have e1:(M++[MO.lst []]).length=M.length+1:=by simp
 have e2:(M++[MO.lst []]++[MO.lst []]).length=M.length+2:=by simp
 have e3:(M++[MO.lst []]++[MO.lst []]++[MO.lst []]).length=M.length+3:=by simp
 rw[e1,e2,e3];have p0:M <+: M++[MO.lst []]++[MO.lst []]++[MO.lst []]++[MO.dkt []]:=((cG.trans cG).trans cG).trans cG;have g1:(M++[MO.lst []]++[MO.lst []]++[MO.lst []]++[MO.dkt []])[M.length]?=a7 (.lst []):=ac<|ac<|ac ad;have l:(M++[MO.lst []]++[MO.lst []]++[MO.lst []]++[MO.dkt []])[M.length+1]?=a7 (.lst []):=by rw[<-e1];exact ac<|ac ad
 have g3:(M++[MO.lst []]++[MO.lst []]++[MO.lst []]++[MO.dkt []])[M.length+2]?=a7 (.lst []):=by rw[<-e2];exact ac ad
 have j:(M++[MO.lst []]++[MO.lst []]++[MO.lst []]++[MO.dkt []])[M.length+3]?=a7 (.dkt []):=by rw[<-e3];exact ad
 generalize M++[MO.lst []]++[MO.lst []]++[MO.lst []]++[MO.dkt []]=P at p0 g1 l g3 j;simp only[si];walk_at"dl";intro _;refine aT (λi S v=>∃(a b c d:Option D),M <+: v/\v[M.length]?=a7 (.lst<|fZ (log.take i) name)/\v[M.length+1]?=a7 (.lst<|bq (log.take i) (AA0 "seen") name)/\v[M.length+2]?=a7 (.lst<|bq (log.take i) (AA0 "rung") name)/\v[M.length+3]?=a7 (.dkt<|gh (log.take i) name)/\S=[a7<|.tup log,a7<|.str name,a7<|.ref M.length,a7<|.ref<|M.length+1,a7<|.ref<|M.length+2,a7<|.ref<|M.length+3,a,b,c,d]) ?_ ?_ ⟨_,_,_,_,p0,g1,l,g3,j,rfl⟩;rintro S v ⟨a,b,c,d,pM,g1,l,g3,j,rfl⟩;rw[K9]at g1 l g3 j;have hq:=wf (name:=name) hd;have n1:((gh log name).map (·.1)).Nodup:=nR _;have hl:(gh log name).length<=60:=by unfold gh;refine D4 da ?_;rw[u6];exact nK ll
 refine⟨trivial,?_⟩;simp only[sf];walk_at"dl";refine⟨_,j,λ_=>?_⟩;refine aQ (λw=>decide<|aV (gh log name) w=a7 (.bl a9)) id (λS=>∃a,S=[a,a7<|.ref<|M.length+3]) j _ _ _ ?_ ⟨_,rfl⟩ (by rw[C2,u6];exact am<|by lia) ?_;rintro x L S ⟨a,rfl⟩;obtain⟨p,N,rfl⟩:=v6.mp L;have K:=cR n1 N;obtain⟨H,b,eb⟩:=hq p N;refine⟨[a7 p.1,a7<|.ref<|M.length+3],⟨_,rfl⟩,λY Z s=>?_⟩;rw[eb]at K;rw[K]at s;obtain⟨ks,e⟩:=H.tup;have g:=H.key;rw[e]at s K g ⊢;walk_at"dl";refine⟨_,_,j,g,K,?_⟩;cases b with
 |true=>rw[dT_ rfl]at s;exact bj s
 |false=>rw[dF_<|by simp]at s;exact bh s
 rw[F4,MR];refine⟨am (by lia),.inl<|h _ _ _ _ _ _ (pM.trans cG) (ac g1) (ac l) (ac g3) ad (λw O=>?_) λw=>?_⟩;obtain⟨p,N,rfl⟩:=v6.mp (A7.mp O).1;exact(hq p N).1;rw[A7,o6];exact⟨λz=>z.2,λz=>⟨L0 (f:=(·.1))<|bC z,z⟩⟩;rintro i y S v X ⟨a,b,c,d,pM,g1,l,g3,j,rfl⟩ G u;have hi:=(x9.mp X).1;have et:log.take (i+1)=log.take i++[y]:=by rw[Mh,X];rfl
 rw[et,ym,rV,rV,yV]at u;have tl:(log.take i).length<=60:=by rw[F5];lia
 have l1:(fZ (log.take i) name).length<=60:=by unfold fZ;rw[u6];exact nK tl
 have l2:∀k,(bq (log.take i) k name).length<=60:=λk=>by unfold bq;rw[u6];exact nK tl
 have l4:(gh (log.take i) name).length<=60:=by unfold gh;refine D4 da ?_;rw[u6];exact nK tl
 have ai:=l2<|AA0 "seen";have aj:=l2<|AA0 "rung";generalize fZ (log.take i) name=V at g1 u l1;generalize bq (log.take i) (AA0 "seen") name=U at l u ai;generalize bq (log.take i) (AA0 "rung") name=T at g3 u aj;generalize gh (log.take i) name=Q at j u l4;have dy:=hd y<|D2 X;obtain⟨t,z,k,n,x,ds,rfl,_,_,_,J⟩:=dy;have e5:aU (.tup [.int t,.tup [.str z,.int k],.int n,.tup<|.str x::ds])=x:=rfl;have e6:aC (.tup [.int t,.tup [.str z,.int k],.int n,.tup<|.str x::ds])=z:=rfl;rw[e5,e6]at u;have F:∀{E:DEnds}{B:t8},E.nx=x5 P G->M <+: B->B[M.length]?=a7 (.lst<|V++(if x=AA0 "read"/\z=name then[.tup [.str<|au<|.tup [.int t,.tup [.str z,.int k],.int n,.tup<|.str x::ds],aL<|.tup [.int t,.tup [.str z,.int k],.int n,.tup<|.str x::ds]]]else[]))->B[M.length+1]?=a7 (.lst<|U++(if x=AA0 "seen"/\z=name then[fe<|.tup [.int t,.tup [.str z,.int k],.int n,.tup<|.str x::ds]]else[]))->B[M.length+2]?=a7 (.lst<|T++(if x=AA0 "rung"/\z=name then[fe<|.tup [.int t,.tup [.str z,.int k],.int n,.tup<|.str x::ds]]else[]))->B[M.length+3]?=a7 (.dkt Q)->mJ E [a7<|.tup log,a7<|.str name,a7<|.ref M.length,a7<|.ref<|M.length+1,a7<|.ref<|M.length+2,a7<|.ref<|M.length+3,a7<|.int t,a7<|.tup [.str z,.int k],a7<|.int n,a7<|.tup<|.str x::ds] B:=λ{E B} eE pM g1 l g3 j=>by
  simp only[mJ];walk_at"dl";refine⟨⟨ah,ah⟩,?_⟩;rw[ax];have no:¬(x=AA0 "hush"/\z=name)->E.nx [a7<|.tup log,a7<|.str name,a7<|.ref M.length,a7<|.ref<|M.length+1,a7<|.ref<|M.length+2,a7<|.ref<|M.length+3,a7<|.int t,a7<|.tup [.str z,.int k],a7<|.int n,a7<|.tup<|.str x::ds] B:=λq=>by rw[eE];refine x5.now<|u _ _ ⟨_,_,_,_,pM,g1,l,g3,?_,rfl⟩;rw[o0 q];exact j
  by_cases o:z=name;rw[beq_iff_eq.mpr o];refine bj ⟨⟨ah,ah⟩,?_⟩;rw[ax];by_cases g:x=AA0 "hush";rw[beq_iff_eq.mpr g];obtain⟨w,b,rfl,O⟩:=J.hush g;obtain⟨ks,W⟩:=O.tup;have I:=O.key;rw[W]at I;rw[NQ];dsimp only;rw[MC,W];refine bj ⟨_,j,I,aH (by lia),?_⟩;rw[eE];refine x5.now<|u _ _ ⟨_,_,_,_,bJ pM (by lia),ar (by lia) g1,ar (by lia) l,ar (by lia) g3,?_,rfl⟩;rw[n9 ⟨g,o⟩,bK j,<-W];rfl;rw[beq_eq_false_iff_ne.mpr g];exact bh<|no λq=>g q.1;rw[beq_eq_false_iff_ne.mpr o];exact bh<|no λq=>o q.2
 have C:∀{E:DEnds}{B:t8},E.nx=x5 P G->M <+: B->B[M.length]?=a7 (.lst<|V++(if x=AA0 "read"/\z=name then[.tup [.str<|au<|.tup [.int t,.tup [.str z,.int k],.int n,.tup<|.str x::ds],aL<|.tup [.int t,.tup [.str z,.int k],.int n,.tup<|.str x::ds]]]else[]))->B[M.length+1]?=a7 (.lst<|U++(if x=AA0 "seen"/\z=name then[fe<|.tup [.int t,.tup [.str z,.int k],.int n,.tup<|.str x::ds]]else[]))->B[M.length+2]?=a7 (.lst T)->B[M.length+3]?=a7 (.dkt Q)->mK E [a7<|.tup log,a7<|.str name,a7<|.ref M.length,a7<|.ref<|M.length+1,a7<|.ref<|M.length+2,a7<|.ref<|M.length+3,a7<|.int t,a7<|.tup [.str z,.int k],a7<|.int n,a7<|.tup<|.str x::ds] B:=λ{E B} eE pM g1 l g3 j=>by simp only[mK];walk_at"dl";refine⟨⟨ah,ah⟩,?_⟩;rw[ax];by_cases o:z=name;rw[beq_iff_eq.mpr o];refine bj ⟨⟨ah,ah⟩,?_⟩;rw[ax];by_cases g:x=AA0 "rung";rw[beq_iff_eq.mpr g];obtain⟨m,rfl,L⟩:=J.rung g;rw[MC];refine bj ⟨⟨_,.inl g3⟩,_,g3,aH (by lia),?_⟩;refine F eE (bJ pM<|by lia) (ar (by lia) g1) (ar (by lia) l) ?_<|ar (by lia) j;rw[n9 ⟨g,o⟩,bK g3];rfl;rw[beq_eq_false_iff_ne.mpr g];exact bh<|F eE pM g1 l (by rw[o0 λq=>g q.1,G2];exact g3) j;rw[beq_eq_false_iff_ne.mpr o];exact bh<|F eE pM g1 l (by rw[o0 λq=>o q.2,G2];exact g3) j
 have A:∀{E:DEnds}{B:t8},E.nx=x5 P G->M <+: B->B[M.length]?=a7 (.lst<|V++(if x=AA0 "read"/\z=name then[.tup [.str<|au<|.tup [.int t,.tup [.str z,.int k],.int n,.tup<|.str x::ds],aL<|.tup [.int t,.tup [.str z,.int k],.int n,.tup<|.str x::ds]]]else[]))->B[M.length+1]?=a7 (.lst U)->B[M.length+2]?=a7 (.lst T)->B[M.length+3]?=a7 (.dkt Q)->mL E [a7<|.tup log,a7<|.str name,a7<|.ref M.length,a7<|.ref<|M.length+1,a7<|.ref<|M.length+2,a7<|.ref<|M.length+3,a7<|.int t,a7<|.tup [.str z,.int k],a7<|.int n,a7<|.tup<|.str x::ds] B:=λ{E B} eE pM g1 l g3 j=>by simp only[mL];walk_at"dl";refine⟨⟨ah,ah⟩,?_⟩;rw[ax];by_cases o:z=name;rw[beq_iff_eq.mpr o];refine bj ⟨⟨ah,ah⟩,?_⟩;rw[ax];by_cases g:x=AA0 "seen";rw[beq_iff_eq.mpr g];obtain⟨m,rfl,L⟩:=J.seen g;rw[MC];refine bj ⟨⟨_,.inl l⟩,_,l,aH (by lia),?_⟩;refine C eE (bJ pM<|by lia) (ar (by lia) g1) ?_ (ar (by lia) g3)<|ar (by lia) j;rw[n9 ⟨g,o⟩,bK l];rfl;rw[beq_eq_false_iff_ne.mpr g];exact bh<|C eE pM g1 (by rw[o0 λq=>g q.1,G2];exact l) g3 j;rw[beq_eq_false_iff_ne.mpr o];exact bh<|C eE pM g1 (by rw[o0 λq=>o q.2,G2];exact l) g3 j
 refine⟨trivial,?_⟩;walk_at"dl";refine⟨trivial,⟨ah,ah⟩,?_⟩;rw[ax];by_cases o:z=name;rw[beq_iff_eq.mpr o];refine bj ⟨⟨ah,ah⟩,?_⟩;rw[ax];by_cases g:x=AA0 "read";rw[beq_iff_eq.mpr g];obtain⟨r,vs,rfl,L⟩:=J.read g;rw[MC];dsimp only;rw[NQ];refine bj ⟨⟨_,.inl g1⟩,am (by lia),_,g1,aH (by lia),?_⟩;refine A rfl (bJ pM<|by lia) ?_ (ar (by lia) l) (ar (by lia) g3)<|ar (by lia) j;rw[n9 ⟨g,o⟩,bK g1];rfl;rw[beq_eq_false_iff_ne.mpr g];exact bh<|A rfl pM (by rw[o0 λq=>g q.1,G2];exact g1) l g3 j;rw[beq_eq_false_iff_ne.mpr o];exact bh<|A rfl pM (by rw[o0 λq=>o q.2,G2];exact g1) l g3 j
theorem DB(T:Tops P w K mg base):u8 P w K mg base 1 "_law_reads" vD mC:=u8.byD (N:=["_law_log_here","_law_name_here","_law_vectors","_law_seen","_law_rung","_law_hushed","_law_time","_law_hand","_law_number","_law_act_here"]) T.b T.f_reads (by walk_at"sc") Bs (by walk_at"dv") CL
def rC:w6:=λd M R=>∃(p:List (c7×Int)) (a:List (c7×List c7)) (l:List D) (n:c7) (e v f:D) (k u:Nat),d=[.tup l,.str n,.tup [q9 e,.str<|au e,aL e,.str<|aC e,v,f],.ref k,.ref u]/\LogS p a l/\e∈l/\aU e=AA0 "say"/\M[k]?=a7 (.lst<|fZ l n)/\M[u]?=a7 (.lst<|bq l (AA0 "seen") n)/\R (.bl<|lZ l n e) M
theorem Ee:cr rC AK:=by rintro d M R ⟨p,a,l,n,e,v,f,k,u,rfl,_⟩;rfl
theorem yh(d:(ws.map (·.1)).Nodup)(g:0<=num):∃c:Int,(aV (dictOf<|ws.map λp=>(p.1,D.int p.2)) h).getD (.int 0)=.int c/\cu ws h num=decide (c > num):=by
 have n:((ws.map λp=>(p.1,D.int p.2)).map (·.1)).Nodup:=by rw[Fn];exact d
 rw[ut _ n];unfold cu;cases a:ws.find? λp=>decide (p.1=h) with
 |none =>
  refine⟨0,?_,(dF_<|by lia).symm⟩;cases S:aV (ws.map λp=>(p.1,D.int p.2)) h with
  |none=>rfl
  |some v=>obtain⟨p,b,e⟩:=v6.mp<|bC S;have:=List.find?_eq_none.mp a p b;injection e with e _;exact o4 (dT_ e) this
 |some p =>
  have b:=RG a;have e:p.1=h:=by have:=Os a;exact oT_ this
  have:=cR n<|L0 (f:=λp=>(p.1,D.int p.2)) b;dsimp only at this;rw[<-e,this];exact⟨p.2,rfl,rfl⟩
theorem Dy(r:K5 l)(i:e∈l):(l.filter λd=>decide<|q9 d=q9 e)=[e]:=by
 have nd:(l.filter λd=>decide<|q9 d=q9 e).Nodup:=by refine List.Nodup.sublist QI<|NO.mpr<|r.imp λq z=>?_;rw[z]at q;exact I9 _ q
 have hm:∀d∈l.filter λd=>decide<|q9 d=q9 e,d=e:=λd h=>r.one d (A7.mp h).1 e i<|oT_ (A7.mp h).2;have hi:e∈l.filter λd=>decide (q9 d=q9 e):=A7.mpr ⟨i,dT_ rfl⟩;generalize l.filter (λd=>decide<|q9 d=q9 e)=m at nd hm hi
 match m,nd,hm,hi with
 | [a],_,hm,_=>rw[hm a<|by simp]
 |a::b::m,nd,hm,_=>rw[MU]at nd;exact o4 (by rw[hm a (by simp),<-hm b (by simp)];simp) nd.1
theorem CS(h:∀d∈l,aM b e d):∀v∈fZ l name,∃(r:c7) (s:List (D×Int)),v=.tup [.str r,.tup<|kC s]/\(∀p∈s,Hd p.1)/\s.length<=12/\(s.map (·.1)).Nodup:=λv c=>by obtain⟨d,m,rfl⟩:=v6.mp c;obtain⟨h1,h2,_⟩:=cJ m;have a:=h d h1;obtain⟨t,z,k,n,r,s,rfl,q,j⟩:=vA a h2;exact⟨r,s,rfl,q,j,Go a⟩
noncomputable def OJ(r:c7)(h:D)(m:Int)(v:D):Bool:=match v with
 |.tup [.str r',u]=>decide (r'=r)&&cu (CT u) h m
 |_=>c5
theorem Fh:(oi l n r).any (λv=>cu (CT v) h num)=(fZ l n).any (OJ r h num):=by unfold oi fZ;rw[Pp,Pp,List.any_filter];rfl
def wS:s9:=bp<|dC<|.bl c5
def wT:s9:=ay (kt (bE<|ab 3) (jr 2<|aO (ag 7)<|aO (ag 8) jt)<|z6 (rj (ap<|p9 z8 (ab 7)<|p9 u3 (ab 2)<|dC<|.int 1)<|ap<|p9 NA (ND iI (t7 sZ<|aa (ab 8) af)<|aa (p9 u3 (ab 5)<|dC<|.int 1)<|aa (dC<|.int 0) af)<|ab 6) (bp<|dC<|.bl a9) aY)<|wS
def wU:s9:=ay (ba (p9 u3 (E6 1 [5] (bE<|ab 0) (ag 0) (ap<|p9 z8 (dL<|aa (p9 u3 (ab 0)<|dC<|.int 0)<|aa (p9 u3 (ab 0)<|dC<|.int 1) af)<|ab 1)<|p9 u3 (ab 0)<|dC<|.int 2)<|dC<|.int 0) 6)<|wT
def wV:s9:=ay (z6 (ML (ap<|p9 z8 (p9 u3 (ab 2)<|dC<|.int 3)<|ab 1)<|ap<|p9 L7 (ab 5)<|ab 4) (bp<|dC<|.bl a9) aY)<|wU
def Fp:s9:=ay (ba (p9 u3 (ab 2)<|dC<|.int 0) 5)<|wV
theorem FX:z0 rC 9 Fp:=by
 rintro ds M R ⟨ps,rs,log,name,e,v,f,q3,q4,rfl,l,L,ke,g3,g4,h⟩;have U:=l.len;have c:=(l.dk e L).st;have X:∀x∈bq log (AA0 "seen") name,St x:=λx hx=>by obtain⟨d,o,rfl⟩:=v6.mp hx;obtain⟨h1,h2,_⟩:=cJ o;obtain⟨t,z,k,n,x,m,rfl,hs⟩:=vp (l.dk d h1)<|.inl h2;exact hs
 have vl:(fZ log name).length<=60:=by unfold fZ;rw[u6];exact nK U
 have vo:=CS (name:=name) l.dk;have nn:=l.nn e L;unfold lZ at h;rw[Fh]at h;have P:atI [q9 e,.str<|au e,aL e,.str<|aC e,v,f] 3=a7 (.str<|aC e):=aF (j:=3) rfl;simp only[Fp];walk_at"dl";simp only[wV];walk_at"dl";rw[P];refine⟨⟨ah,ah⟩,?_⟩;rw[ax];by_cases F:aC e=name;rw[beq_iff_eq.mpr F];rw[dT_ F,Bool.true_or]at h;exact bj<|bb.now h;rw[beq_eq_false_iff_ne.mpr F];rw[dF_ F,Oi]at h;refine bh ⟨_,.inl g4,⟨c.ok,lJ X⟩,?_⟩;rw[pP c X];by_cases I:q9 e∈bq log (AA0 "seen") name;rw[dT_ I];rw[dT_ I,Bool.true_or]at h;exact bj<|bb.now h;rw[dF_ I];rw[dF_ I,Oi]at h;refine bh ?_;simp only[wU];walk_at"dl";intro _;refine aQ (λd=>decide<|q9 d=q9 e) (λd=>.int<|FB d) (λS=>∃a,S=[a,a7<|q9 e]) trivial _ _ _ ?_ ⟨_,rfl⟩ (by rw[C2];exact am<|by lia) ?_;rintro d o S ⟨a,rfl⟩;obtain⟨t,z,k,n,x,ds,rfl,_⟩:=l.dk d o;refine⟨[a7<|.tup [.int t,.tup [.str z,.int k],.int n,.tup<|.str x::ds],a7<|q9 e],⟨_,rfl⟩,λY Z Q=>?_⟩;walk_at"dl";have E:St (.tup [.int t,.tup [.str z,.int k]]):=⟨_,_,_,rfl⟩
 refine⟨am (by lia),⟨E.ok,c.ok⟩,?_⟩;rw[show t5=28+2 from rfl,E.eq c];exact Q;rw[F4,Dy l.up L,List.map_singleton];refine⟨_,aw,?_⟩;rw[Pd];replace g3:=ac (a:=MO.lst [D.int<|FB e]) g3;have pM:M <+: M++[MO.lst [D.int<|FB e]]:=cG;generalize M++[MO.lst [D.int<|FB e]]=B at g3 pM;obtain⟨t,z,k,n,r,u,s,V,_⟩:=cH (l.dk e L) ke;have e1:q9 e=.tup [.int t,.tup [.str z,.int k]]:=by rw[V];rfl
 have e2:yZ e=.tup [.str z,.int k]:=by rw[V];rfl
 rw[e2]at h;simp only[wT];walk_at"dl";refine⟨_,.inl g3,λ_=>?_⟩;rw[e1];generalize FB e=n at nn h;refine aT (λi S O=>∃a b,B <+: O/\((fZ log name).take i).any (OJ (au e) (.tup [.str z,.int k]) n)=c5/\S=[a7<|.tup log,a7<|.str name,a7<|.tup [.tup [.int t,.tup [.str z,.int k]],.str<|au e,aL e,.str<|aC e,v,f],a7<|.ref q3,a7<|.ref q4,a7<|.tup [.int t,.tup [.str z,.int k]],a7<|.int n,a,b]) ?_ ?_ ⟨_,_,List.prefix_refl _,rfl,rfl⟩;rintro S O ⟨a,b,H,N,rfl⟩;rw[K9]at N;rw[N]at h;refine⟨.inl<|aI H g3,?_⟩;simp only[wS];walk_at"dl";exact bb.bl h<|pM.trans H;rintro i y S O hy ⟨a,b,H,N,rfl⟩ G W;have et:(fZ log name).take (i+1)=(fZ log name).take i++[y]:=by rw[Mh,hy];rfl
 have o:=D2 hy;have g:OJ (au e) (.tup [.str z,.int k]) n y=a9->R (.bl a9) M:=λq=>by rw[L4.mpr ⟨y,o,q⟩]at h;exact h
 have A:OJ (au e) (.tup [.str z,.int k]) n y=c5->((fZ log name).take<|i+1).any (OJ (au e) (.tup [.str z,.int k]) n)=c5:=λq=>by rw[et,List.any_append,N,Px,q];rfl
 obtain⟨r',hs,rfl,v1,v2,v3⟩:=vo y o;have ei:OJ (au e) (.tup [.str z,.int k]) n (.tup [.str r',.tup<|kC hs])=(decide (r'=au e)&&cu hs (.tup [.str z,.int k]) n):=by show (decide (r'=au e)&&cu (CT<|.tup<|kC hs) (.tup [.str z,.int k]) n)=_;rw[wC]
 rw[ei]at g A;obtain⟨C,q1,q2⟩:=yh (h:=.tup [.str z,.int k]) v3 nn;refine⟨.inl<|aI H g3,?_⟩;walk_at"dl";refine⟨trivial,⟨ah,ah⟩,?_⟩;rw[ax];by_cases J:r'=au e;rw[beq_iff_eq.mpr J];rw[dT_ J,OU,q2]at g A;refine bj ⟨hs.map λp=>(p.1,.int p.2),by unfold kC;rw[Fn];rfl,λp hp=>?_,by rw[u6];lia,⟨_,ad⟩,_,ad,rfl,?_⟩;obtain⟨w,T,rfl⟩:=v6.mp hp;obtain⟨x,y,P⟩:=v1 w T;dsimp only;rw[P];exact⟨rfl,rfl⟩;rw[q1];by_cases K:C > n;rw[dT_ K]at g;show if decide (n<C)=a9 then _ else _
 rw[dT_<|show n<C from K];exact bj<|bb.bl (g rfl)<|(pM.trans H).trans cG;rw[dF_ K]at A;show if decide (n<C)=a9 then _ else _
 rw[dF_<|show ¬n<C from K];exact bh<|x5.now<|W _ _ ⟨_,_,H.trans cG,A rfl,rfl⟩;rw[beq_eq_false_iff_ne.mpr J];rw[dF_ J]at A;exact bh<|x5.now<|W _ _ ⟨_,_,H,A rfl,rfl⟩
theorem GR(T:Tops P w K mg base):u8 P w K mg base 1 "_law_read" AK rC:=u8.byD (N:=["_law_log_here","_law_name_here","_law_message","_law_vectors","_law_seen","_law_stamp","_law_number","_law_room","_law_vector_here"]) T.b T.f_read (by walk_at"sc") Ee (by walk_at"dv") FX
def Fk(l n:List Nat):Prop:=∃i,l[i]?=a7 64/\(l.drop<|i+1).take n.length=n/\∀c,l[i+1+n.length]?=a7 c->Bq c=c5
theorem zm(t n:c7):hV t n=a9↔t.cps.toList.take n.cps.toList.length=n.cps.toList/\∀c,t.cps.toList[n.cps.toList.length]?=a7 c->Bq c=c5:=by
 unfold hV;rw[Al,C9,o5,PP,<-cj];refine and_congr Iff.rfl ?_;have e:(K7 t (a7 (n.length:Int))<|a7<|(n.length:Int)+1).cps.toList=(t.cps.toList.drop n.length).take 1:=by have:=jW t (a:=n.length) (b:=n.length+1) (by lia);rw[show ((n.length+1:Nat):Int)=(n.length:Int)+1 by lia,show n.length+1-n.length=1 by lia]at this;exact this
 cases q:t.cps.toList[n.length]? with
 |none=>rw[QP<|List.getElem?_eq_none_iff.mp q]at e;rw[oA _<|by rw[e];rfl];simp
 |some c=>obtain⟨g,f⟩:=x9.mp q;rw[QX g,f]at e;have:K7 t (a7 (n.length:Int)) (a7<|(n.length:Int)+1)=⟨#[c]⟩:=kF (by rw[e];rfl);rw[this,qR];simp
theorem Bc(s n:c7)(G:eM n):(∃y,y∈(I0 s "@").drop 1/\hV y n=a9)↔Fk s.cps.toList n.cps.toList:=by
 have w:("@":c7)=⟨#[64]⟩:=rfl;have a:∀k,n.cps.toList[k]?≠a7 64:=λk e=>by have:=G 64<|D2 e;lia
 generalize p:s.cps.toList=l;generalize E:n.cps.toList=m at a;have o:∀i j:Nat,i<j->j<=l.length->(j=l.length\/l[j]?=a7 64)->(∀k,i<k->k<j->l[k]?≠a7 64) -> (hV (Builtin.Str.strSub s (i+1) j) n=a9↔(l.drop<|i+1).take m.length=m/\∀c,l[i+1+m.length]?=a7 c->Bq c=c5):=by
  intro i j A L d x;rw[zm,StrLaws.strSub_toList,p,E,List.take_take];have B:∀k,((l.drop<|i+1).take<|j-(i+1))[k]?=if k<j-(i+1)then l[i+1+k]? else a8:=λk=>by rw[QE];split;rw[N6];rfl
  have b:(l.drop<|i+1).take m.length=m->i+1+m.length<=j:=λe=>by
   refine Ny λD=>?_;have g:m[j-(i+1)]?=l[j]?:=by rw[<-e,QE,n9 (by lia),N6];congr 1;lia
   rcases d with z|z;have R:=p6 K8 e;rw[F5,MI]at R;lia;rw[z]at g;exact a _ g
  constructor;rintro⟨e1,g⟩;have t:m.length<=j-(i+1):=by have:=p6 K8 e1;rw[F5]at this;lia
  rw[PD t]at e1;refine⟨e1,λc f=>?_⟩;by_cases q:m.length<j-(i+1);exact g c (by rw[B,n9 q];exact f);have:i+1+m.length=j:=by lia
  rw[this]at f;rcases d with z|z;rw[Nw<|by lia]at f;cases f;rw[z]at f;cases f;rfl;rintro⟨e1,g⟩;have t:=b e1;rw[PD<|by lia];refine⟨e1,λc f=>?_⟩;rw[B]at f;split at f;exact g c f;cases f
 unfold Fk;rw[w];constructor;rintro⟨y,hy,hb⟩;obtain⟨k,i,j,h1,h2,rfl⟩:=(kH s 64 (by decide) y).mp hy;rw[p]at h1 h2;obtain⟨F,r,u,v⟩:=sQ h1 h2;exact⟨i,eX.mp<|D2 h1,(o i j F r u v).mp hb⟩;rintro⟨i,h1,h2⟩;obtain⟨k,C,e⟩:=P0<|eX.mpr h1;have h:(bY l 64)[k]?=a7 i:=by rw[w9 C,e]
 obtain⟨j,L⟩:∃j,(bY l 64++[l.length])[k+1]?=a7 j:=⟨_,w9<|by rw[A3];simp;lia⟩
 obtain⟨F,r,u,v⟩:=sQ h L;exact⟨_,(kH s 64 (by decide) _).mpr ⟨k,i,j,by rw[p];exact h,by rw[p];exact L,rfl⟩,(o i j F r u v).mpr h2⟩
theorem CB(c:Nat):decide (c∈(AA0 "abcdefghijklmnopqrstuvwxyz").cps.toList)=Bq c:=by
 have g:(AA0 "abcdefghijklmnopqrstuvwxyz").cps.toList=(A9 26).map (· + 97):=by decide +kernel
 rw[g,NZ];unfold Bq;simp only[v6,G4,o5,C9];constructor;rintro⟨a,ha,rfl⟩;lia;rintro⟨h1,h2⟩;exact⟨c-97,by lia,by lia⟩
def fS:w6:=λd M R=>∃s n:c7,d=[.str s,.str n]/\s.length<=100/\n.length<=100/\eM n/\R (.bl<|cI (.str s) n) M
theorem tT:cr fS kM:=by rintro d M R ⟨t,n,rfl,_⟩;rfl
theorem yE(f:eM n):cI (.str s) n=a9↔Fk s.cps.toList n.cps.toList:=by rw[<-Bc s n f];show ((I0 s<|AA0 "@").drop 1).any (λy=>begB y n)=a9↔_;rw[L4];exact Iff.rfl
def lu:s9:=bp<|dC<|.bl c5
def lz:s9:=z6 (ML (ap<|p9 z8 (ab 3)<|dC<|.str "")<|ap<|p9 ka (ab 3)<|dC<|.str "abcdefghijklmnopqrstuvwxyz") (bp<|dC<|.bl a9) aY
def pf:s9:=ay (kt (eK<|aa (t7 nj<|aa (ab 0) af) af) (ag 2)<|z6 (rj (ap<|p9 z8 (p9 u3 (ab 0)<|ab 2)<|dC<|.str "@")<|ap<|p9 z8 (Ml (ab 0) (fP<|p9 br (ab 2)<|dC<|.int 1)<|fP<|p9 br (p9 br (ab 2)<|dC<|.int 1)<|t7 nj<|aa (ab 1) af)<|ab 1) (ay (ba (Ml (ab 0) (fP<|p9 br (p9 br (ab 2)<|dC<|.int 1)<|t7 nj<|aa (ab 1) af)<|fP<|p9 br (p9 br (ab 2)<|dC<|.int 2)<|t7 nj<|aa (ab 1) af) 3)<|lz) aY)<|lu
theorem uR:z0 fS 4 pf:=by
 rintro ds M R ⟨s,n,rfl,hs,H,F,h⟩;have I:=cj (a:=s);have J:=cj (a:=n);have h':∀b:Bool,(b=a9↔Fk s.cps.toList n.cps.toList)->R (.bl b) M:=λb E=>by rw[show b=cI (.str s) n from Bool.eq_iff_iff.mpr<|E.trans (yE F).symm];exact h
 simp only[pf];walk_at"dl";refine⟨am (by lia),⟨by lia,by lia⟩,?_⟩;refine aT (λi S d=>d=M/\(∃a b,S=[a7<|.str s,a7<|.str n,a,b])/\∀j,j<i->¬(s.cps.toList[j]?=a7 64/\(s.cps.toList.drop<|j+1).take n.cps.toList.length=n.cps.toList/\∀c,s.cps.toList[j+1+n.cps.toList.length]?=a7 c->Bq c=c5)) ?_ ?_ ⟨rfl,⟨_,_,rfl⟩,λj L=>o4 L<|No _⟩;rintro S d ⟨rfl,⟨a,b,rfl⟩,o⟩;refine⟨trivial,?_⟩;simp only[lu];walk_at"dl";rw[fA]at o;refine bb.now<|h' c5 ⟨(λz=>by cases z),?_⟩;rintro⟨i,h1,h2⟩;exact o4 ⟨h1,h2⟩<|o i (by have:=(x9.mp h1).1;lia);rintro i y S d O ⟨rfl,⟨a,b,rfl⟩,o⟩ G C;obtain⟨hi,rfl⟩:=fB.mp O;refine⟨trivial,?_⟩;walk_at"dl";simp only[Int.zero_add];have m:∀{x:Option D},¬(s.cps.toList[i]?=a7 64/\(s.cps.toList.drop<|i+1).take n.cps.toList.length=n.cps.toList/\∀c,s.cps.toList[i+1+n.cps.toList.length]?=a7 c->Bq c=c5) -> x5 d G [a7<|D.str s,a7<|D.str n,a7<|D.int i,x] d:=λ{x} f=>x5.now (C _ _ ⟨rfl,⟨_,_,rfl⟩,λj L=>by
  rcases Mv j i with q|q;exact o j q;have:j=i:=by lia
  subst this;exact f⟩)
 have g:(s.cps.toList[i]?=a7 64/\(s.cps.toList.drop<|i+1).take n.cps.toList.length=n.cps.toList/\∀c,s.cps.toList[i+1+n.cps.toList.length]?=a7 c->Bq c=c5)->bb d R (D.bl a9) d:=λf =>
  bb.now (h' a9 ⟨λ_=>⟨i,f⟩,λ_=>rfl⟩)
 have r:i<s.cps.toList.length:=by lia
 have u:s.cps.toList[i]?=a7 s.cps.toList[i]:=w9 r;refine⟨am (by lia),?_⟩;rw[aF u];refine⟨⟨rfl,rfl⟩,?_⟩;generalize s.cps.toList[i]=c at u;have k:(K7 s (a7<|(i:Int)+1)<|a7<|(i:Int)+1+(n.length:Int)).cps.toList=(s.cps.toList.drop<|i+1).take n.cps.toList.length:=by have:=jW s (a:=i+1) (b:=i+1+n.length) (by lia);rw[show ((i+1+n.length:Nat):Int)=(i:Int)+1+(n.length:Int) by lia,show ((i+1:Nat):Int)=(i:Int)+1 by lia,show i+1+n.length-(i+1)=n.cps.toList.length by lia]at this;exact this
 have e:(K7 s (a7<|(i:Int)+1+(n.length:Int))<|a7<|(i:Int)+2+(n.length:Int)).cps.toList=(s.cps.toList.drop<|i+1+n.cps.toList.length).take 1:=by have:=jW s (a:=i+1+n.length) (b:=i+2+n.length) (by lia);rw[show ((i+1+n.length:Nat):Int)=(i:Int)+1+(n.length:Int) by lia,show ((i+2+n.length:Nat):Int)=(i:Int)+2+(n.length:Int) by lia,show i+2+n.length-(i+1+n.length)=1 by lia]at this;rw[<-J];exact this
 by_cases f:c=64;subst f;rw[show t6 d t5 (D.str ⟨#[64]⟩) (D.str<|AA0 "@")=a9 from rfl];refine bj ⟨am (by lia),am (by lia),⟨rfl,rfl⟩,?_⟩;generalize K7 s (a7<|(i:Int)+1) (a7<|(i:Int)+1+(n.length:Int))=z at k;by_cases v:z=n;subst v;rw[show t6 d t5 (D.str z) (D.str z)=a9 by simp[t6]];refine bj ⟨am (by lia),am (by lia),am (by lia),?_⟩;generalize K7 s (a7<|(i:Int)+1+(z.length:Int)) (a7<|(i:Int)+2+(z.length:Int))=w at e;simp only[lz];walk_at"dl";refine⟨⟨ah,ah⟩,?_⟩;rw[ax];cases l:s.cps.toList[i+1+z.cps.toList.length]? with
 |none=>rw[QP<|List.getElem?_eq_none_iff.mp l]at e;have p:w=AA0 "":=kF (by rw[e];decide +kernel);rw[beq_iff_eq.mpr p];exact bj<|g ⟨u,k.symm,λc f=>by rw[l]at f;cases f⟩
 |some c =>
  obtain⟨t,f⟩:=x9.mp l;rw[QX t,f]at e;have p:w=⟨#[c]⟩:=kF e;rw[p,beq_eq_false_iff_ne.mpr (λz=>by have:=p6 (λx:c7=>x.cps.toList) z;cases this)];refine bh ?_;show if ((!(QR (AA0 "abcdefghijklmnopqrstuvwxyz") ⟨#[c]⟩ 0 (AA0 "abcdefghijklmnopqrstuvwxyz").length 1).isEmpty) != a9)=a9 then _ else _
  rw[StrLaws.found_one,CB];cases A:Bq c with
  |true=>exact bh<|m λ⟨_,_,B⟩=>by rw[B c l]at A;cases A
  |false=>exact bj<|g ⟨u,k.symm,λU h'=>by rw[l]at h';cases h';exact A⟩
 rw[show t6 d t5 (D.str z) (D.str n)=c5 by simp[t6,v]];refine bh<|m ?_;rintro⟨_,h2,_⟩;refine v<|kF ?_;rw[k];exact h2;rw[show t6 d t5 (D.str ⟨#[c]⟩) (D.str<|AA0 "@")=c5 by have:(⟨#[c]⟩:c7)≠AA0 "@":=λz=>f (by have:=p6 (λx:c7=>x.cps.toList) z;exact(Pw this).1);simp[t6,this]];refine bh<|m ?_;rintro⟨h1,_⟩;rw[u]at h1;exact f<|A8 h1
theorem vK(T:Tops P w K mg base):u8 P w K mg base 1 "_law_names_in" kM fS:=u8.byD (N:=["_law_saying_here","_law_name_here","_law_at","_law_behind"]) T.b T.f_names_in (by walk_at"sc") tT (by walk_at"dv") uR
def ya:w6:=λd M R=>∃(p:List (c7×Int)) (a:List (c7×List c7)) (l:List D) (n:c7) (e f:D) (s:c7) (h:List D) (q k:Nat),d=[.ref q,.tup [q9 e,.str<|au e,aL e,.str<|aC e,.str s,f],.str n,.ref k]/\LogS p a l/\aV (ak a l) (q9 e)=a7 e/\M[q]?=a7 (.dkt<|iw l)/\M[k]?=a7 (.lst h)/\(∀w∈h,eL w)/\(∀w,w∈h↔aV (gh l n) w=a7 (.bl a9))/\s.length<=100/\n.length<=100/\eM n/\R (if cI (.str s) n=a9 then .str (AA0 "named")else if aL e∈ma (ak a l) n then .str (AA0 "answered")else if (bI l n (.tup [.str<|AA0 "room",.str<|au e])||decide (q9 e∈bf (λs=>bI l n<|.tup [.str<|AA0 "under",s]) (ak a l)))=a9 then .non else .str (AA0 "heard")) M
theorem He:cr ya GK:=by rintro d M R ⟨p,a,l,n,e,f,s,h,q,k,rfl,_⟩;rfl
section
variable{ps:List (c7×Int)}{rs:List (c7×List c7)}{log:List D}
theorem LogS.es(g:LogS ps rs log):ak rs log=((kinds log<|AA0 "say").filter λd=>@decide (C0 rs (kinds log<|AA0 "say") d)<|F9 _).map λd=>(q9 d,d):=by
 have h:∀d∈kinds log (AA0 "say"),aM ps rs d/\aU d=AA0 "say":=λd q=>⟨g.dk d (aq q).1,(aq q).2⟩
 refine pU (λd q=>?_) (λd q=>(h d q).1.st)<|Nu _ g.up;obtain⟨t,z,k,m,r,u,s,rfl,_,_,_,a⟩:=cH (h d q).1 (h d q).2;exact a
theorem LogS.mem(g:LogS ps rs log):e∈(ak rs log).map (·.2)↔C0 rs (kinds log<|AA0 "say") e:=by rw[g.es,Fn];constructor;intro h;obtain⟨d,a,rfl⟩:=v6.mp h;exact @of_decide_eq_true _ (F9 _) (A7.mp a).2;intro h;exact v6.mpr ⟨e,A7.mpr ⟨h.mem,@decide_eq_true _ (F9 _) h⟩,rfl⟩
theorem LogS.get(g:LogS ps rs log):aV (ak rs log) k=a7 e↔k=q9 e/\C0 rs (kinds log<|AA0 "say") e:=by constructor;intro h;exact⟨(xM bd h).1,g.mem.mp (L0 (f:=(·.2))<|bC h)⟩;rintro⟨rfl,h⟩;obtain⟨q,a,t⟩:=v6.mp<|g.mem.mpr h;obtain⟨h1,_⟩:=bd.en q a;have:=cR bd.nd a;rw[h1,t]at this;exact this
end
theorem ud(r:K5 l)(S:∀d∈l,St<|q9 d):(∀p∈aE rs l,aL p.2=.non\/aL p.2∈(aE rs l).map (·.1))/\∀p∈aE rs l,(p.1∈bf H (aE rs l)↔H p.1=a9\/aL p.2∈bf H (aE rs l)):=by
 revert r S;refine bu (P:=λl=>K5 l->(∀d∈l,St<|q9 d)->(∀p∈aE rs l,aL p.2=.non\/aL p.2∈(aE rs l).map (·.1))/\∀p∈aE rs l,(p.1∈bf H (aE rs l)↔H p.1=a9\/aL p.2∈bf H (aE rs l))) (λ_ _=>⟨(λ_ z=>nomatch z),(λ_ z=>nomatch z)⟩) (λl x B r S=>?_) l;obtain⟨h1,_,y⟩:=P1.mp r;obtain⟨i,j⟩:=B h1 λd A=>S d<|L5 _ A;have D:=fh (rs:=rs) l;have b:q9 x∉(aE rs l).map (·.1):=λz=>by obtain⟨p,h,e⟩:=v6.mp z;obtain⟨v,w⟩:=D.en p h;have:=y p.2 w x (by simp);rw[<-v,e]at this;exact I9 _ this
 have xs:q9 x≠.non:=λz=>by obtain⟨t,n,k,e⟩:=S x (by simp);rw[e]at z;cases z
 rw[dG];unfold vn;by_cases hs:iG rs (aE rs l) x=a9;have a:aL x=.non\/aL x∈(aE rs l).map (·.1):=by
  unfold iG at hs;rw[C9,NY]at hs;rcases hs.2 with q|q;exact .inl<|oT_ q;cases o:aV (aE rs l) (aL x) with
  |none=>rw[o]at q;cases q
  |some e=>exact .inr (L0 (f:=(·.1))<|bC o)
 rw[n9 hs,mw b];generalize aE rs l=K at i j b a;have s:∀u,(u=.non\/u∈K.map (·.1))->u≠q9 x:=λu g e=>by rcases g with g|g;exact xs<|e.symm.trans g;exact b<|e ▸ g
 have m:∀u,u≠q9 x->(u∈bf H (K++[(q9 x,x)])↔u∈bf H K):=λu g=>by rw[fg];split;rw[D6,J6];exact⟨λz=>z.resolve_right g,.inl⟩;exact Iff.rfl
 refine⟨λp h=>?_,λp h=>?_⟩;rw[F0,D6];rcases D6.mp h with h|h;exact(i p h).imp id .inl;rw[J6.mp h];exact a.imp id .inl;rcases D6.mp h with h|h;rw[m p.1 λe=>b (e ▸ L0 (f:=(·.1)) h),m _<|s _<|i p h];exact j p h;rw[J6.mp h];show q9 x∈_↔H (q9 x)=a9\/aL x∈_;rw[m _<|s _ a,fg];have C:q9 x∉bf H K:=λz=>b<|kj _ z;by_cases c:(H (q9 x)||decide (aL x∈bf H K))=a9;rw[n9 c];rw[NY,o6]at c;exact⟨λ_=>c,λ_=>by simp⟩;rw[o0 c];rw[NY,o6]at c;exact⟨λz=>o4 z C,λz=>o4 z c⟩;rw[o0 hs];exact⟨i,j⟩
theorem LogS.hush(g:LogS p r l)(S:aV (ak r l) (q9 e)=a7 e):q9 e∈bf H (ak r l)↔H (q9 e)=a9\/aL e∈bf H (ak r l):=(ud (H:=H) (Nu _ g.up) λd h=>(g.dk d (aq h).1).st).2 (q9 e,e)<|bC S
theorem xw(g:LogS p c l)(S:aV (ak c l) (q9 e)=a7 e):∃(t:Int) (z:c7) (k:Int) (s:D),q9 e=.tup [.int t,.tup [.str z,.int k]]/\aC e=z/\aV (iw l) (q9 e)=a7 (.tup [.str<|AA0 "say",.str<|au e,aL e,s])/\(aL e=.non\/St (aL e)):=by obtain⟨_,b⟩:=g.get.mp S;obtain⟨V,W⟩:=aq b.mem;have a:=qh (Nu _ g.up) e b.mem;obtain⟨t,z,k,m,r,u,s,rfl,_,_,_,h⟩:=cH (g.dk e V) W;exact⟨t,z,k,.str s,rfl,rfl,a,h⟩
theorem AO:x∈ma k n↔x∈k.map (·.1)/\aC ((aV k x).getD .non)=n:=by unfold ma;rw[A7,o6]
theorem BR(h:C0 a l e)(g:∀(H:D->Bool) (e:D),C0 a l e->(q9 e∈bf H (aE a l)↔H (q9 e)=a9\/aL e∈bf H (aE a l)))(R:∀H:D->Bool,D.non∉bf H (aE a l)):q9 e∈bf H (aE a l)↔∃s,H s=a9/\q9 e∈bf (λx=>decide<|x=s) (aE a l):=by
 induction h with
 |@top d h m u=>have b:C0 a l d:=.top h m u;rw[g _ _ b,u];constructor;rintro(z|z);exact⟨_,z,(g _ _ b).mpr<|.inl<|dT_ rfl⟩;exact o4 z<|R _;rintro⟨s,z,y⟩;rcases(g _ _ b).mp y with y|y;exact .inl<|oT_ y ▸ z;rw[u]at y;exact o4 y<|R _
 |@sub d e h m s u o r i=>have b:C0 a l d:=.sub h m s u o r;rw[g _ _ b,u,i];constructor;rintro(z|⟨x,z,y⟩);exact⟨_,z,(g _ _ b).mpr<|.inl<|dT_ rfl⟩;exact⟨x,z,(g _ _ b).mpr<|.inr<|u ▸ y⟩;rintro⟨x,z,y⟩;rcases(g _ _ b).mp y with y|y;exact .inl<|oT_ y ▸ z;exact .inr ⟨x,z,u ▸ y⟩
theorem LogS.nonF(g:LogS s r l)(H:D->Bool):D.non∉bf H (ak r l):=λz=>by obtain⟨p,h,d⟩:=v6.mp<|kj _ z;obtain⟨c,j⟩:=bd.en p h;obtain⟨t,n,k,R⟩:=(g.dk p.2 (aq j).1).st;rw[<-c,d]at R;cases R
theorem LogS.any(g:LogS p r l)(S:aV (ak r l) (q9 e)=a7 e):q9 e∈bf H (ak r l)↔∃s,H s=a9/\q9 e∈bf (λx=>decide<|x=s) (ak r l):=BR (g.get.mp S).2 (λH e i=>g.hush<|g.get.mpr ⟨rfl,i⟩) g.nonF
theorem LogS.own(g:LogS s r l)(S:aV (ak r l) (q9 e)=a7 e):(aL e=.non/\aL e∉ma (ak r l) name)\/∃(t:Int) (z:c7) (k:Int),aL e=.tup [.int t,.tup [.str z,.int k]]/\(aL e∈ma (ak r l) name↔z=name):=by have K:=(ud (rs:=r) (H:=λ_=>c5) (Nu _ g.up) λd f=>(g.dk d (aq f).1).st).1 (q9 e,e)<|bC S;have K:aL e=.non\/aL e∈(ak r l).map (·.1):=K;rcases K with z|z;refine .inl ⟨z,λy=>?_⟩;rw[z,AO]at y;obtain⟨p,h,a⟩:=v6.mp y.1;obtain⟨c,j⟩:=bd.en p h;obtain⟨t,n,k,R⟩:=(g.dk p.2 (aq j).1).st;rw[<-c,a]at R;cases R;obtain⟨p,h,a⟩:=v6.mp z;obtain⟨c,j⟩:=bd.en p h;have b:=cR bd.nd h;obtain⟨t,n,k,m,x,i,R,_⟩:=g.dk p.2 (aq j).1;refine .inr ⟨t,n,k,by rw[<-a,c,R];rfl,?_⟩;rw[AO,<-a,b,R];exact⟨λy=>y.2,λy=>⟨a ▸ z,y⟩⟩
def zH:s9:=bp<|dC<|.str "heard"
def uX:s9:=ay (z6 (ML (ap<|p9 L7 (dL<|aa (dC<|.str "room")<|aa (ab 5) af)<|ab 3)<|ap<|p9 Nz (E6 1 [3] (bE<|ab 10) (ag 0) (ap<|p9 L7 (dL<|aa (dC<|.str "under")<|aa (ab 0) af)<|ab 1)<|ab 0)<|iP af) (bp<|dC .non) aY)<|zH
def zI:s9:=ay (uv (ap<|p9 iJ (p9 u3 (gZ (ab 0)<|p9 u3 (ab 10)<|OK Gu<|dC<|.int 1)<|dC<|.int 2)<|dC .non)<|gj<|K3 bF (ab 10)<|aa (p9 u3 (gZ (ab 0)<|p9 u3 (ab 10)<|OK Gu<|dC<|.int 1)<|dC<|.int 2) af)<|uX
def uY:s9:=ay (ba (iP<|aa (ab 4) af) 10)<|zI
def zJ:s9:=ay (z6 (rj (ap<|p9 iJ (ab 6)<|dC .non)<|ap<|p9 z8 (p9 u3 (p9 u3 (ab 6)<|dC<|.int 1)<|dC<|.int 0)<|ab 2) (bp<|dC<|.str "answered") aY)<|uY
def zK:s9:=ay (z6 (ap<|t7 fS<|aa (ab 8)<|aa (ab 2) af) (bp<|dC<|.str "named") aY)<|zJ
def Jp:s9:=ay (II (ab 1)<|jr 6<|aO (ag 4)<|aO (ag 5)<|aO (ag 6)<|aO (ag 7)<|aO (ag 8)<|aO (ag 9) jt)<|zK
theorem Jf:z0 ya 11 Jp:=by
 rintro ds M R ⟨ps,d,log,name,e,f,s,hs,q0,U,rfl,j,W,h0,h3,X,hy,sl,nl,sn,h⟩;have aD:=j.len;have kl:=bA (log:=log) (k:=AA0 "say");have Q:∀w,decide (w∈hs)=bI log name w:=λw=>decide_eq_decide.mpr<|hy w;have as:St (q9 e):=by obtain⟨t,z,k,_,es,_⟩:=xw j W;exact⟨t,z,k,es⟩
 simp only[Jp];walk_at"dl";refine⟨trivial,?_⟩;simp only[zK];walk_at"dl";refine⟨s,name,rfl,sl,nl,sn,?_⟩;cases c1:cI (.str s) name with
 |true=>rw[c1,n9 rfl]at h;exact bj<|bb.now h
 |false =>
 rw[c1,o0<|by decide]at h;refine bh ?_;have v:∀{E:DEnds},E.rt=bb M R->aL e∉ma (ak d log) name->uY E [a7<|.ref q0,a7<|.tup [q9 e,.str<|au e,aL e,.str<|aC e,.str s,f],a7<|.str name,a7<|.ref U,a7<|q9 e,a7<|.str<|au e,a7<|aL e,a7<|.str<|aC e,a7<|.str s,a7 f,a8] M:=λ{E} eE I=>by
  rw[o0 I]at h;simp only[uY];walk_at"dl";refine⟨am (by lia),?_⟩;have K:∀{ys:List D},(∀x∈ys,St x)->(∀s,s∈ys↔q9 e∈bf (λx=>decide<|x=s) (ak d log))->ys.length<=100->uX E [a7<|.ref q0,a7<|.tup [q9 e,.str<|au e,aL e,.str<|aC e,.str s,f],a7<|.str name,a7<|.ref U,a7<|q9 e,a7<|.str<|au e,a7<|aL e,a7<|.str<|aC e,a7<|.str s,a7 f,a7<|.ref M.length] (M++[.lst ys]):=λ{ys} i hi yl=>by
   have O:eL (.tup [.str<|AA0 "room",.str<|au e]):=.inl ⟨_,rfl⟩;have A:=ac (a:=MO.lst ys) h3;have gy:(M++[MO.lst ys])[M.length]?=a7 (.lst ys):=ad;have pM:M <+: M++[MO.lst ys]:=cG;generalize M++[MO.lst ys]=B at A gy pM;simp only[uX];walk_at"dl";refine⟨am (by lia),_,.inl A,⟨(dP 3 t5 _ (by decide) O.pl).1,ia X⟩,?_⟩;rw[ik O X,Q];cases c3:bI log name (.tup [.str<|AA0 "room",.str<|au e]) with
   |true=>rw[c3,Bool.true_or,n9 rfl]at h;show E.rt .non B;rw[eE];exact bb.non h pM
   |false =>
    rw[c3,Oi]at h;show ∃xs,aA B M.length xs/\_;refine⟨_,.inl gy,λ_=>?_⟩;refine aQ (λx=>bI log name<|.tup [.str<|AA0 "under",x]) id (λS=>∃a,S=[a,a7<|.ref U]) (.inl gy) _ _ _ ?_ ⟨_,rfl⟩ (by rw[C2];exact am<|by lia) ?_;rintro x c S ⟨a,rfl⟩;refine⟨[a7 x,a7<|.ref U],⟨_,rfl⟩,λY Z p=>?_⟩;obtain⟨t,z,k,rfl⟩:=i x c;have P:eL (.tup [.str<|AA0 "under",.tup [.int t,.tup [.str z,.int k]]]):=.inr<|.inr ⟨_,_,_,rfl⟩;walk_at"dl";refine⟨am (by lia),_,.inl A,⟨(dP 3 t5 _ (by decide) P.pl).1,ia X⟩,?_⟩;rw[ik P X,Q];cases hb:bI log name (.tup [.str<|AA0 "under",.tup [.int t,.tup [.str z,.int k]]]) with
    |true=>rw[hb]at p;exact p
    |false=>rw[hb]at p;exact p
    rw[F4,MR];have hm:=j.any (H:=λs=>bI log name<|.tup [.str<|AA0 "under",s]) W;have T:∀{B:t8},∀x∈ys.filter (λx=>bI log name<|.tup [.str<|AA0 "under",x]),u5 B 29 x=a9:=λ{B} x c=>by obtain⟨t,z,k,rfl⟩:=i x (A7.mp c).1;rfl
    have J:(ys.filter<|λx=>bI log name<|.tup [.str<|AA0 "under",x]).isEmpty = !decide (q9 e∈bf (λs=>bI log name<|.tup [.str<|AA0 "under",s]) (ak d log)):=by rw[NZ,List.isEmpty_iff,List.filter_eq_nil_iff,PP,decide_eq_false_iff_not,hm];constructor;rintro q ⟨s,q1,q2⟩;exact q s ((hi s).mpr q2) q1;exact λq s hs q1=>q ⟨s,q1,(hi s).mp hs⟩
    generalize ys.filter (λx=>bI log name<|.tup [.str<|AA0 "under",x])=F at T J;have gF:(B++[MO.lst F])[B.length]?=a7 (.lst F):=ad;replace pM:=pM.trans<|cG (mo:=MO.lst F);generalize B++[MO.lst F]=B' at gF pM;generalize B.length=qF at gF;obtain⟨an,en⟩:=ii (M:=B') (.inl gF) T;refine⟨z5 _,an,?_⟩;rw[en,J,Bool.not_not];cases c4:decide (q9 e∈bf (λs=>bI log name<|.tup [.str<|AA0 "under",s]) (ak d log)) with
    |true=>rw[c4,n9 rfl]at h;rw[eE];exact bj<|bb.non h<|pM.trans cG
    |false=>rw[c4,o0<|by decide]at h;refine bh ?_;simp only[zH];walk_at"dl";rw[eE];exact bb.str h<|pM.trans cG
  simp only[zI];walk_at"dl";refine⟨λm S M'=>∃(ys:List D) (b:D),M'=M++[.lst<|ys++[q9 b]]/\aV (ak d log) (q9 b)=a7 b/\(∀x∈ys,St x)/\ys.length+FN (kinds log<|AA0 "say") (q9 b)<=60/\FN (kinds log<|AA0 "say") (q9 b)<m/\(∀s,q9 e∈bf (λx=>decide<|x=s) (ak d log)↔s∈ys\/q9 b∈bf (λx=>decide<|x=s) (ak d log))/\S=[a7<|.ref q0,a7<|.tup [q9 e,.str<|au e,aL e,.str<|aC e,.str s,f],a7<|.str name,a7<|.ref U,a7<|q9 e,a7<|.str<|au e,a7<|aL e,a7<|.str<|aC e,a7<|.str s,a7 f,a7<|.ref M.length],⟨_,[],e,rfl,W,(λ_ z=>nomatch z),?_,K0 _,λs=>⟨.inr,λz=>z.resolve_left<|λy=>nomatch y⟩,rfl⟩,?_⟩;have:FN (kinds log<|AA0 "say") (q9 e)<=(kinds log<|AA0 "say").length:=L6 _ _;rw[C2];lia;rintro m S M' ⟨ys,b,rfl,C,i,yl,J,hi,rfl⟩;obtain⟨t,z,k,s',es,_,ha,hu⟩:=xw j C;have L:(M++[MO.lst<|ys++[q9 b]])[M.length]?=a7 (.lst<|ys++[q9 b]):=ad;have el:atI (ys++[q9 b]) (-1)=a7 (q9 b):=Fg _ _;have G:=ac (a:=MO.lst<|ys++[q9 b]) h0;have go:∀s,q9 b∈bf (λx=>decide<|x=s) (ak d log)↔q9 b=s\/aL b∈bf (λx=>decide<|x=s) (ak d log):=λs=>by rw[j.hush C,o6]
  rw[es]at ha el L G;have e2:atI [.str<|AA0 "say",.str<|au b,aL b,s'] 2=a7 (aL b):=NQ;rw[es];walk_at"dl";refine⟨_,.inl L,?_⟩;rw[el];dsimp only;refine⟨_,_,G,rfl,ha,?_⟩;dsimp only;rw[e2];obtain⟨_,N⟩:=j.get.mp C;cases N with
  |top m1 m2 u=>rw[u];walk_at"dl";refine K (λx c=>?_) (λs=>?_) (by rw[A3,K2];lia);rcases D6.mp c with c|c;exact i x c;rw[J6.mp c];exact⟨_,_,_,rfl⟩;rw[hi s,go s,D6,J6,u,es];exact⟨λz=>z.imp id λz=>.inl z.symm,λz=>z.imp id λz=>z.elim (λz=>z.symm) λz=>o4 z<|j.nonF _⟩
  |@sub _ g m1 m2 s2 u o r =>
   have aj:aV (ak d log) (q9 g)=a7 g:=j.get.mpr ⟨rfl,s2⟩;have lt:=FM (l:=kinds log<|AA0 "say") s2.mem o;have al:St (aL b):=hu.resolve_left λz=>by obtain⟨t,n,k,e3⟩:=(j.dk g (aq s2.mem).1).st;rw[z,e3]at u;cases u
   obtain⟨t',z',k',e5⟩:=al;have ai:∀s,q9 e∈bf (λx=>decide<|x=s) (ak d log)↔s∈ys++[.tup [.int t,.tup [.str z,.int k]]]\/q9 g∈bf (λx=>decide<|x=s) (ak d log):=λs=>by rw[hi s,go s,u,D6,J6,es];constructor;rintro(z|z|z);exact .inl<|.inl z;exact .inl<|.inr z.symm;exact .inr z;rintro((z|z)|z);exact .inl z;exact .inr<|.inl z.symm;exact .inr<|.inr z
   rw[e5];walk_at"dl";refine⟨⟨_,.inl L⟩,_,.inl L,?_⟩;rw[el];dsimp only;refine⟨_,_,G,rfl,ha,?_⟩;dsimp only;rw[e2,e5];dsimp only;refine⟨_,L,aH (by rw[A3,K2];lia),?_⟩;rw[iT];rw[es]at yl J lt;refine⟨_,J,ys++[.tup [.int t,.tup [.str z,.int k]]],g,by rw[<-u,e5],aj,λx c=>?_,by rw[A3,K2];lia,lt,ai,trivial⟩;rcases D6.mp c with c|c;exact i x c;rw[J6.mp c];exact⟨_,_,_,rfl⟩
 simp only[zJ];rcases j.own (name:=name) W with⟨V,u1⟩|⟨t,z,k,V,u1⟩
 rw[V]at v ⊢;walk_at"dl";exact v rfl<|V ▸ u1;rw[V]at v ⊢;walk_at"dl";refine⟨⟨ah,ah⟩,?_⟩;rw[ax];by_cases I:z=name;rw[beq_iff_eq.mpr I];rw[n9<|u1.mpr I]at h;exact bj<|bb.now h;rw[beq_eq_false_iff_ne.mpr I];exact bh<|v rfl λy=>I<|u1.mp<|V ▸ y
theorem Kk(T:Tops P w K mg base):u8 P w K mg base 2 "_law_why" GK ya:=u8.byD (N:=["_law_said_here","_law_message","_law_name_here","_law_hushed","_law_stamp","_law_room","_law_under","_law_writer","_law_saying_here","_law_changed","_law_chain"]) T.b T.f_why (by walk_at"sc") He (by have:=vK T;walk_at"dv") Jf
def eA:w6:=λd M R=>∃(p:List (c7×Int)) (a:List (c7×List c7)) (l:List D) (e:c7) (k:Nat),d=[az p a,.tup l,.str e,.ref k]/\HouseF p a/\LogS p a l/\M[k]?=a7 (.lst<|bO a l)/\e.length<=100/\eM e/\R (.ref M.length) (M++[.lst<|nU a l e])
theorem qO:cr eA jc:=by rintro d M R ⟨p,a,l,e,k,rfl,_⟩;rfl
noncomputable def uK(c p j M q:Bool)(s:D):Option D:=if (c && !p)=a9 then(if j=a9 then a7 (.tup [s,.str<|AA0 "named"])else if M=a9 then a7 (.tup [s,.str<|AA0 "answered"])else if q=a9 then a8 else a7 (.tup [s,.str<|AA0 "heard"]))else a8
section
variable{rs:List (c7×List c7)}{log:List D}{d e s:D}{name:c7}
noncomputable def cB(rs:List (c7×List c7))(log:List D)(name:c7)(e:D):Bool:=decide (au e∈dO rs name) && !decide (q9 e∈bq log (AA0 "rung") name)
noncomputable def qB(rs:List (c7×List c7))(log:List D)(name:c7)(e:D):Bool:=bI log name (.tup [.str<|AA0 "room",.str<|au e])||decide (q9 e∈bf (λs=>bI log name<|.tup [.str<|AA0 "under",s]) (ak rs log))
theorem Cy:mn rs log name e=uK (cB rs log name e) (bI log name<|.tup [.str<|AA0 "person",.str<|aC e]) (cI (JB rs log e) name) (decide<|aL e∈ma (ak rs log) name) (qB rs log name e) (q9 e):=by unfold mn At CP uK cB;have p:(bI log name (.tup [.str<|AA0 "room",.str<|au e])||decide (q9 e∈bf (λs=>bI log name<|.tup [.str<|AA0 "under",s]) (ak rs log)))=qB rs log name e:=rfl;rw[p,<-Bool.and_assoc];generalize ((decide (au e∈dO rs name) && !decide (q9 e∈bq log (AA0 "rung") name)) && !bI log name (.tup [.str<|AA0 "person",.str<|aC e]))=a;generalize cI (JB rs log e) name=b;generalize qB rs log name e=q;by_cases h:aL e∈ma (ak rs log) name;rw[n9 h,dT_ h];cases a<;>cases b<;>rfl;rw[o0 h,dF_ h];cases a<;>cases b<;>cases q<;>rfl
theorem G_tup:∀b,uK c pr nm an q s=a7 b->∃w,b=.tup [s,.str w]:=λb h=>by
 unfold uK at h
 repeat' split at h
 all_goals first|exact⟨_,(A8 h).symm⟩|cases h
theorem EH{f g:D->Option D}{l:List D}(h:∀x∈l,f x=g x):l.filterMap f=l.filterMap g:=by
 induction l with
 |nil=>rfl
 |cons x l i=>rw[MJ,MJ,h x (by simp),i λy O=>h y<|A5 _ O]
noncomputable def mi(rs:List (c7×List c7))(log:List D)(name:c7)(e:D):Option D:=if lZ log name e=a9 then a8 else mn rs log name e
theorem lh:nU rs log name=((aJ rs log).map (·.2)).filterMap (mi rs log name):=by unfold nU cN;rw[List.filterMap_filter];refine EH λe _=>?_;unfold mi;cases lZ log name e<;>rfl
theorem xN:∀b,mi rs log name e=a7 b->∃w,b=.tup [q9 e,.str w]:=λb h=>by unfold mi at h;split at h;cases h;rw[Cy]at h;exact G_tup b h
theorem xY(h:(c && !pr)=c5):uK c pr nm an q s=a8:=by unfold uK;rw[h];rfl
theorem Dj(d:(rs.map (·.1)).Nodup)(i:r∈rs.map (·.1)):r∈dO rs name↔name∈nX rs r:=by
 induction rs with
 |nil=>cases i
 |cons q rs a=>rw[nL];rw[C4,MU]at d;unfold dO at a ⊢;rw[Np];by_cases c:q.1=r;rw[n9 c];have n:r∉(rs.filter λp=>decide<|name∈p.2).map (·.1):=λz=>d.1 (by rw[c];obtain⟨p,b,e⟩:=v6.mp z;rw[<-e];exact L0 (f:=(·.1)) (A7.mp b).1);by_cases j:name∈q.2;rw[n9<|dT_ j,C4,c];exact⟨λ_=>j,λ_=>C5⟩;rw[o0<|by rw[dF_ j];decide];exact⟨λz=>o4 z n,λz=>o4 z j⟩;rw[o0 c];have h:r∈rs.map (·.1):=(A0.mp i).resolve_left<|B8 c;rw[<-a d.2 h];split;rw[C4,A0];exact⟨λz=>z.resolve_left<|B8 c,.inr⟩;exact Iff.rfl
end
def jH:s9:=bp<|ab 9
def cW:s9:=z6 (ap<|p9 iJ (ab 13)<|dC .non) (gj<|K3 bF (ab 9)<|aa (dL<|aa (p9 u3 (ab 10)<|dC<|.int 0)<|aa (ab 13) af) af) aY
def fu:s9:=z6 (rj (ap<|ab 11)<|rj (EV<|ap<|ab 12)<|EV<|ap<|t7 rC<|aa (ab 1)<|aa (ab 2)<|aa (ab 10)<|aa (ab 5)<|aa (ab 6) af) (ay (ba (t7 ya<|aa (ab 4)<|aa (ab 10)<|aa (ab 2)<|aa (ab 8) af) 13)<|cW) aY
def jI:s9:=ay (ba (Jc (p9 L7 (p9 u3 (ab 10)<|dC<|.int 0)<|ab 7)<|p9 L7 (dL<|aa (dC<|.str "person")<|aa (p9 u3 (ab 10)<|dC<|.int 3) af)<|ab 8) 12)<|fu
def jJ:s9:=ay (kt (bE<|ab 3) (ag 10)<|ay (ba (p9 L7 (ab 2)<|Cn (t7 tj<|aa (p9 u3 (ab 0)<|dC<|.int 1) af)<|p9 u3 (ab 10)<|dC<|.int 1) 11)<|jI)<|jH
def jK:s9:=ay (ba (iP af) 9)<|jJ
def jL:s9:=ay (II (t7 mC<|aa (ab 1)<|aa (ab 2) af)<|jr 4<|aO (ag 5)<|aO (ag 6)<|aO (ag 7)<|aO (ag 8) jt)<|jK
def mU:s9:=ay (ba (t7 nW<|aa (ab 1) af) 4)<|jL
theorem rL:z0 eA 14 mU:=by
 rintro ds M R ⟨ps,rs,log,n,q3,rfl,hf,B,g3,nl,sn,h⟩;have bk:=B.len;have kl:=bA (log:=log) (k:=AA0 "say");have tb:=bd (rs:=rs) (log:=log);have tl:=tb.len;have sv:=ib (rs:=rs) B.dk;have bS:(aJ rs log).length<=(ak rs log).length:=L6 _ _;simp only[mU];walk_at"dl";refine⟨ps,rs,log,rfl,B.dk,by lia,λO B1 p1 g4=>?_⟩;replace g3:=aI p1 g3;dsimp only;simp only[jL];walk_at"dl";refine⟨ps,rs,log,n,rfl,B.dk,bk,λK N n3 F J hs p2 h1 h2 h3 h4 hw hy=>⟨rfl,?_⟩⟩;replace g3:=aI p2 g3;replace g4:=aI p2 g4;have pB:=p1.trans p2;have aS:∀w,decide (w∈hs)=bI log n w:=λw=>decide_eq_decide.mpr<|hy w;have Y:∀x∈bq log (AA0 "rung") n,St x:=λx hx=>by obtain⟨d,hm,rfl⟩:=v6.mp hx;obtain⟨q1,q2,_⟩:=cJ hm;obtain⟨t,z,k,bo,x,m,rfl,hs⟩:=vp (B.dk d q1)<|.inr q2;exact hs
 simp only[jK];walk_at"dl";refine⟨z5 _,?_⟩;simp only[jJ];walk_at"dl";refine⟨_,.inl<|ac g3,λ_=>?_⟩;have hM:bO rs log=((aJ rs log).map (·.2)).map (zr<|aN (aJ rs log) log):=by unfold bO;rw[Fn];rfl
 have bw:=aX g3;have bl:∀i,((((aJ rs log).map (·.2)).take i).filterMap<|mi rs log n).length<=i:=λi=>by refine D4 (List.length_filterMap_le _ _) ?_;rw[F5];lia
 refine aT (λi S Q=>∃(a b c d:Option D),J <+: Q/\Q[J.length]?=a7 (.lst ((((aJ rs log).map (·.2)).take i).filterMap<|mi rs log n))/\S=[a7<|az ps rs,a7<|.tup log,a7<|.str n,a7<|.ref q3,a7<|.ref O,a7<|.ref K,a7<|.ref N,a7<|.ref n3,a7<|.ref F,a7<|.ref J.length,a,b,c,d]) ?_ ?_ ⟨_,_,_,_,cG,ad,rfl⟩;rintro S Q ⟨a,b,c,d,pM,g,rfl⟩;rw[hM,u6,K9,<-lh]at g;refine⟨.inl<|aI pM g3,?_⟩;simp only[jH];walk_at"dl";obtain⟨L,rfl⟩:∃L,J=M++L:=by obtain⟨L,e⟩:=pB;exact⟨L,e.symm⟩
 refine bb.chgL .refl h (by simp) g ((G3 _ _).trans pM)<|Bels.of λd T=>?_;rw[lh]at T;obtain⟨e,U,eo⟩:=O1.mp T;obtain⟨w,rfl⟩:=xN d eo;obtain⟨p,hp,rfl⟩:=v6.mp U;exact .tup<|.cons (cO 2 _ (sv p hp).2.1.st.pl)<|.cons (.str _) .nil;rintro i y S Q aj ⟨a,b,c,d,pM,g,rfl⟩ G hG;rw[hM,C8]at aj;obtain⟨e,U,rfl⟩:=Mz.mp aj;have et:((aJ rs log).map (·.2)).take (i+1)=((aJ rs log).map (·.2)).take i++[e]:=by rw[Mh,U];rfl
 have hi:=(x9.mp U).1;rw[u6]at hi;rw[et,List.filterMap_append]at hG;have as:=bl i;obtain⟨p,hp,ep⟩:=v6.mp<|D2 U;have ep:p.2=e:=ep;obtain⟨e0,de,ke⟩:=sv p hp;have hg:=cR tb.nd (sU.mp hp).1;rw[e0]at hg;rw[ep]at de ke hg;have aP:e∈log:=(aq (xM tb hg).2).1;generalize (((aJ rs log).map (·.2)).take i).filterMap (mi rs log n)=bs at g hG as;have q:=aI pM h1;have v:=aI pM h2;have A:=aI pM h3;have j:=aI pM h4;have l:=aI pM g4;have aD:=aI pM g3;obtain⟨s,es,sl⟩:=xv B.dk de ke;have em:zr (aN (aJ rs log) log) e=(.tup [q9 e,.str<|au e,aL e,.str<|aC e,.str s,.bl (aV (aN (aJ rs log) log)<|q9 e).isSome]):=by rw[<-es];rfl
 have Z:=de.st;have V:au e∈rs.map (·.1):=by obtain⟨t,z,k,bo,r,u,s,rfl,_,_,hr,_⟩:=cH de ke;exact hr
 have ai:eL (.tup [.str<|AA0 "person",.str<|aC e]):=.inr<|.inl ⟨_,rfl⟩;have f:mi rs log n e=if lZ log n e=a9 then a8 else uK (cB rs log n e) (bI log n<|.tup [.str<|AA0 "person",.str<|aC e]) (cI (.str s) n) (decide<|aL e∈ma (ak rs log) n) (qB rs log n e) (q9 e):=by unfold mi;rw[Cy,es]
 have C:cB rs log n e=(decide (n∈nX rs (au e)) && !decide (q9 e∈bq log (AA0 "rung") n)):=by unfold cB;rw[decide_eq_decide.mpr<|Dj hf.rnd V]
 refine⟨.inl aD,?_⟩;rw[em];simp only[az];walk_at"dl";refine⟨rs.map fy,sV,by rw[u6];have:=hf.rl.2;lia,?_⟩;rw[pJ hf.rnd];refine⟨_,_,ad,ng V,⟨ah,kE⟩,?_⟩;rw[kZ];have H:=pM.trans<|cG (mo:=MO.dct<|rs.map fy);replace g:=ac (a:=MO.dct<|rs.map fy) g;replace q:=ac (a:=MO.dct<|rs.map fy) q;replace v:=ac (a:=MO.dct<|rs.map fy) v;replace A:=ac (a:=MO.dct<|rs.map fy) A;replace j:=ac (a:=MO.dct<|rs.map fy) j;replace l:=ac (a:=MO.dct<|rs.map fy) l;generalize Q++[MO.dct<|rs.map fy]=P at H g q v A j l;have no:∀{E:DEnds}{x:Option D}{m o:Bool},E.nx=x5 (J++[MO.lst []]) G->mi rs log n e=a8->E.nx [a7<|az ps rs,a7<|.tup log,a7<|.str n,a7<|.ref q3,a7<|.ref O,a7<|.ref K,a7<|.ref N,a7<|.ref n3,a7<|.ref F,a7<|.ref J.length,a7<|.tup [q9 e,.str<|au e,aL e,.str<|aC e,.str s,.bl (aV (aN (aJ rs log) log)<|q9 e).isSome],a7<|.bl m,a7<|.bl o,x] P:=λ{E x m o} eE z=>by rw[eE];refine x5.now<|hG _ _ ⟨_,_,_,_,H,?_,rfl⟩;rw[MJ,z,QC,G2];exact g
 have al:∀{E:DEnds}{m o:Bool},E.nx=x5 (J++[MO.lst []]) G->m=decide (n∈nX rs (au e))->o=(decide (q9 e∈bq log (AA0 "rung") n)||bI log n (.tup [.str<|AA0 "person",.str<|aC e]))->fu E [a7<|az ps rs,a7<|.tup log,a7<|.str n,a7<|.ref q3,a7<|.ref O,a7<|.ref K,a7<|.ref N,a7<|.ref n3,a7<|.ref F,a7<|.ref J.length,a7<|.tup [q9 e,.str<|au e,aL e,.str<|aC e,.str s,.bl (aV (aN (aJ rs log) log)<|q9 e).isSome],a7<|.bl m,a7<|.bl o,d] P:=λ{E m o} eE em' eo=>by
  simp only[fu];walk_at"dl";cases m with
  |false=>refine bh<|no eE ?_;rw[f,C,<-em'];rw[xY<|by rw[Oq,Oq]];split<;>rfl
  |true =>
   refine bj ?_;cases o with
   |true =>
    refine bh<|no eE ?_;rw[f,C,<-em'];have:((a9 && !decide (q9 e∈bq log (AA0 "rung") n)) && !bI log n (.tup [.str<|AA0 "person",.str<|aC e]))=c5:=by rw[OU,<-Bool.not_or,<-eo];rfl
    rw[xY this];split<;>rfl
   |false =>
    refine bj ⟨ps,rs,log,n,e,_,_,K,N,rfl,B,aP,ke,q,v,?_⟩;cases X:lZ log n e with
    |true=>rw[X,n9 rfl]at f;exact bh<|no eE f
    |false =>
     rw[X,o0 (by decide),C,<-em']at f;have:((a9 && !decide (q9 e∈bq log (AA0 "rung") n)) && !bI log n (.tup [.str<|AA0 "person",.str<|aC e]))=a9:=by rw[OU,<-Bool.not_or,<-eo];rfl
     unfold uK at f;rw[this,n9 rfl]at f;refine bj ⟨ps,rs,log,n,e,_,s,hs,O,F,rfl,B,hg,l,j,hw,hy,sl,nl,sn,?_⟩;have an:∀w:c7,mi rs log n e=a7 (.tup [q9 e,.str w])->E.nx [a7<|az ps rs,a7<|.tup log,a7<|.str n,a7<|.ref q3,a7<|.ref O,a7<|.ref K,a7<|.ref N,a7<|.ref n3,a7<|.ref F,a7<|.ref J.length,a7<|.tup [q9 e,.str<|au e,aL e,.str<|aC e,.str s,.bl (aV (aN (aJ rs log) log)<|q9 e).isSome],a7<|.bl a9,a7<|.bl c5,a7<|.str w] (P.set J.length<|.lst<|bs++[.tup [q9 e,.str w]]):=λw z=>by rw[eE];refine x5.now<|hG _ _ ⟨_,_,_,_,bJ H<|u7 _,?_,rfl⟩;rw[MJ,z,QC];exact bK g
     have I:∀w:c7,mi rs log n e=a7 (.tup [q9 e,.str w])->cW E [a7<|az ps rs,a7<|.tup log,a7<|.str n,a7<|.ref q3,a7<|.ref O,a7<|.ref K,a7<|.ref N,a7<|.ref n3,a7<|.ref F,a7<|.ref J.length,a7<|.tup [q9 e,.str<|au e,aL e,.str<|aC e,.str s,.bl (aV (aN (aJ rs log) log)<|q9 e).isSome],a7<|.bl a9,a7<|.bl c5,a7<|.str w] P:=λw z=>by simp only[cW];walk_at"dl";exact⟨⟨_,.inl g⟩,am (by lia),_,g,aH (by lia),an w z⟩
     by_cases c1:cI (.str s) n=a9;rw[n9 c1];rw[n9 c1]at f;exact I _ f;rw[o0 c1];rw[o0 c1]at f;by_cases c2:aL e∈ma (ak rs log) n;rw[n9 c2];rw[n9<|dT_ c2]at f;exact I _ f;rw[o0 c2];rw[o0<|by rw[dF_ c2];decide]at f;have eq:(bI log n (.tup [.str<|AA0 "room",.str<|au e])||decide (q9 e∈bf (λs=>bI log n<|.tup [.str<|AA0 "under",s]) (ak rs log)))=qB rs log n e:=rfl;rw[eq];by_cases c3:qB rs log n e=a9;rw[n9 c3];rw[n9 c3]at f;simp only[cW];walk_at"dl";exact no eE f;rw[o0 c3];rw[o0 c3]at f;exact I _ f
 simp only[jI];walk_at"dl";refine⟨_,.inl A,⟨Z.ok,lJ Y⟩,?_⟩;rw[pP Z Y];have bm:∀b:Bool,(b != c5)=b:=λb=>by cases b<;>rfl
 cases W:decide (q9 e∈bq log (AA0 "rung") n) with
 |true=>exact al rfl (bm _)<|by rw[W];rfl
 |false=>show 2<=sizeLine/\∃xs,aA P F xs/\_;refine⟨am (by lia),_,.inl j,⟨(dP 3 t5 _ (by decide) ai.pl).1,ia hw⟩,?_⟩;rw[ik ai hw,aS];exact al rfl (bm _)<|by rw[W,Oi];exact bm _
theorem tF(T:Tops P w K mg base):u8 P w K mg base 3 "_law_due_bells" jc eA:=u8.byD (N:=["_law_house_here","_law_log_here","_law_name_here","_law_messages_here","_law_said_here","_law_vectors","_law_seen","_law_rung","_law_hushed","_law_found","_law_message","_law_member","_law_out","_law_why_here"]) T.b T.f_due_bells (by walk_at"sc") qO (by have:=AW T;have:=DB T;have:=GR T;have:=Kk T;walk_at"dv") rL
def mB:w6:=λd M R=>∃(p:List (c7×Int)) (a:List (c7×List c7)) (l:List D),d=[az p a,.tup l]/\HouseF p a/\LogS p a l/\R (.bl a9) M
theorem Br:cr mB vC:=by rintro d M R ⟨p,a,l,rfl,_⟩;rfl
theorem Fe(a:∀d∈l,aM c rs d):∀x∈nU rs l name,∃(s:D) (w:c7),x=.tup [s,.str w]/\St s:=λx h=>by rw[lh]at h;obtain⟨e,i,r⟩:=O1.mp h;obtain⟨w,rfl⟩:=xN x r;obtain⟨p,b,rfl⟩:=v6.mp i;exact⟨_,w,rfl,(ib a p b).2.1.st⟩
theorem Av(hi:aA M i xs)(L:aA M j xs)(h:∀x∈xs,u5 M 29 x=a9/\t6 M 29 x x=a9):(u5 M t5 (.ref i)=a9/\u5 M t5 (.ref j)=a9)/\t6 M t5 (.ref i) (.ref j)=a9:=⟨⟨qC (n:=29) hi λx a=>(h x a).1,qC (n:=29) L λx a=>(h x a).1⟩,(xO (n:=29) hi L).trans<|qV λx a=>(h x a).2⟩
def rY:s9:=bp<|dC<|.bl a9
def rZ:s9:=ay (kt (bE<|p9 u3 (ab 0)<|dC<|.int 0) (jr 2<|aO (ag 3)<|aO (ag 4) jt)<|z6 (ap<|p9 Nz (t7 eF<|aa (ab 0)<|aa (ab 1)<|aa (ab 3) af)<|t7 eA<|aa (ab 0)<|aa (ab 1)<|aa (ab 3)<|aa (ab 2) af) (bp<|dC<|.bl c5) aY)<|rY
def zL:s9:=ay (ba (t7 fT<|aa (ab 0)<|aa (ab 1) af) 2)<|rZ
theorem CJ:z0 mB 5 zL:=by
 rintro ds M R ⟨u,t,q,rfl,f,g,h⟩;have U:=g.len;simp only[zL];walk_at"dl";refine⟨u,t,q,rfl,f,g,?_⟩;have g3:(M++[MO.lst<|bO t q])[M.length]?=a7 (.lst<|bO t q):=ad;have d:M <+: M++[MO.lst<|bO t q]:=cG;generalize M++[MO.lst<|bO t q]=B at g3 d;generalize M.length=k at g3;simp only[rZ,az];walk_at"dl";intro _;refine aT (λi S c=>∃(a b:Option D),B <+: c/\S=[a7<|az u t,a7<|.tup q,a7<|.ref k,a,b]) ?_ ?_ ⟨_,_,NJ,rfl⟩;rintro S c ⟨a,b,pM,rfl⟩;refine⟨trivial,?_⟩;simp only[rY];walk_at"dl";exact bb.bl h<|d.trans pM;rintro i y S c O ⟨a,b,pM,rfl⟩ G m;obtain⟨p,r,rfl⟩:=v6.mp<|D2 O;have l:p.1.length<=100:=by have:=f.nm p r;lia
 have o:=Fe (rs:=t) (name:=p.1) g.dk;refine⟨trivial,?_⟩;unfold iW;walk_at"dl";refine⟨trivial,u,t,q,p.1,rfl,g.dk,by lia,f.rl.2,l,?_⟩;refine⟨u,t,q,p.1,k,rfl,f,g,ac<|aI pM g3,l,f.sm p r,?_⟩;generalize nU t q p.1=L at o;have e:=Av (M:=c++[MO.lst L]++[MO.lst L]) (i:=c.length) (j:=(c++[MO.lst L]).length) (xs:=L) (.inl<|ac ad) aw λx n=>by obtain⟨s,w,rfl,z⟩:=o x n;exact dP 3 29 _ (by decide)<|.tup<|.cons z.pl<|.cons (.str _) .nil
 refine⟨e.1,?_⟩;rw[e.2];exact bh<|x5.now<|m _ _ ⟨_,_,(pM.trans cG).trans cG,rfl⟩
theorem Dz(T:Tops P w K mg base):u8 P w K mg base 8 "_law_right" vC mB:=u8.byD (N:=["_law_house_here","_law_log_here","_law_messages_here","_law_name_here","_law_many"]) T.b T.f_right (by walk_at"sc") Br (by have:=tI T;have:=vL T;have:=tF T;walk_at"dv") CJ
theorem Hg:cr (yP<|AA0 "_law_log") GM:=by rintro d M R ⟨n,m,_,_,rfl,_⟩;rfl
theorem LogS.sub(g:LogS p r b)(h:l.Sublist b):LogS p r l:=⟨λd a=>g.dk d<|h.subset a,g.up.sublist h,D4 h.length_le g.len,λd a=>g.nn d<|h.subset a⟩
theorem IJ:(cutD x a b).Sublist x:=(Qz _ _).trans<|List.drop_sublist _ _
noncomputable def NB(i:List (D×D))(d:D):Bool:=match d,aV i (yZ d) with
 |.tup [_,_,.int n,_],a7 (.int c)=>decide<|n<c
 |_,_=>c5
def zW:s9:=bp<|dC<|.bl a9
def zX:s9:=ay (kt (bE<|ab 5) (ag 6)<|z6 (EV<|ap<|t7 mB<|aa (ab 1)<|aa (ab 6) af) (bp<|dC<|.bl c5) aY)<|zW
def zY:s9:=ay (ba (iP<|aa (ab 2)<|aa (Ml (ab 2) dF<|fP<|OK Gu<|dC<|.int 1)<|aa (t7 iH<|aa (E6 1 [3] (bE<|ab 2) (ag 0) (ap<|p9 Nj (p9 u3 (ab 0)<|dC<|.int 2)<|gZ (ab 1)<|p9 u3 (ab 0)<|dC<|.int 1)<|ab 0) af) af) 5)<|zX
def zZ:s9:=ay (kt (bE<|ab 2) (ag 4)<|qY (ab 3) (p9 u3 (ab 4)<|dC<|.int 1)<|p9 u3 (ab 4)<|dC<|.int 2)<|zY
def va:s9:=ay (ba (re) 3)<|zZ
def Aa:s9:=ay (ba (t7 yb<|aa (Ml (ab 0) (fP<|dC<|.int 1)<|fP<|dC<|.int 61)<|aa (ab 1) af) 2)<|va
def Jr:s9:=ay (ba (t7 mD<|aa (t7 ir<|aa (ab 0)<|aa (dC<|.int 0) af) af) 1)<|Aa
theorem Jh:z0 (yP<|AA0 "_law_log") 7 Jr:=by
 rintro ds M R ⟨ns,mo,V,⟨I,H⟩,rfl,rfl,h⟩;have r:aA [mo,.tb (AA0 "_law_log") c5] 0 (ns.map D.int):=by have:=tK (M:=[mo,.tb (AA0 "_law_log") c5]) (n:=0) (mo:=mo) rfl H;rw[I]at this;exact this
 simp only[Jr];walk_at"dl";refine⟨0,ns,0,rfl,r,_,rfl,λps w K=>?_⟩;simp only[Aa];walk_at"dl";refine⟨_,r,?_⟩;have u:∃cs:List Int,cutD (ns.map D.int) (a7 1) (a7 61)=cs.map D.int/\cs.length<=60:=by unfold cutD;refine⟨(ns.drop<|HT.sIx (ns.map D.int).length 0<|a7 1).take<|HT.sIx (ns.map D.int).length (ns.map D.int).length (a7 61)-HT.sIx (ns.map D.int).length 0 (a7 1),by rw[List.map_take,Pu],?_⟩;rw[F5];unfold HT.sIx;simp;lia
 obtain⟨cs,u,E⟩:=u;rw[u];refine⟨ps,w,2,1,cs,rfl,K,.inl rfl,by decide,E,rfl,λlog o _=>?_⟩;have W:=o.len;show va _ _ ([mo,.tb (AA0 "_law_log") a9,.lst<|cs.map D.int]:t8);generalize ([mo,.tb (AA0 "_law_log") a9,.lst<|cs.map D.int]:t8)=A;simp only[va];walk_at"dl";have g3:(A++[MO.dkt []])[A.length]?=a7 (.dkt []):=ad;generalize A++[MO.dkt []]=B at g3;generalize A.length=v at g3;simp only[zZ];walk_at"dl";intro _;refine aT (λi S m=>∃f a,m[v]?=a7 (.dkt f)/\(∀d∈log.take i,∃c:Int,aV f (yZ d)=a7 (.int c))/\f.length<=i/\S=[a7<|.ref 0,a7<|az ps w,a7<|.tup log,a7<|.ref v,a,a8,a8]) ?_ ?_ ⟨[],_,g3,(λ_ z=>nomatch z),u7 _,rfl⟩
 case refine_2 =>
  rintro i y S m O ⟨f,a,g,C,E,rfl⟩ L F;have hi:=(x9.mp O).1;obtain⟨t,z,k,J,x,ds,rfl,_⟩:=o.dk y<|D2 O;refine⟨trivial,?_⟩;walk_at"dl";have l1:=qm (kvs:=f) (k:=.tup [.str z,.int k]) (d:=.int J);refine⟨f,g,rfl,am (by lia),x5.now<|F _ _ ⟨_,_,MA<|aX g,λd j=>?_,by lia,rfl⟩⟩;rw[Mh,O]at j;by_cases e:yZ d=.tup [.str z,.int k];rw[e];exact⟨_,fM⟩;rw[gW e];rcases D6.mp j with j|j;exact C d j;refine o4 ?_ e;rw[show d=_ from by simpa using j];rfl
 rintro S m ⟨f,a,g,C,E,rfl⟩;rw[K9]at C;refine⟨trivial,?_⟩;simp only[zY];walk_at"dl";intro _;refine aQ (NB f) id (λS=>∃a,S=[a,a7<|.ref v]) trivial _ _ _ ?_ ⟨_,rfl⟩ (by rw[C2];exact am<|by lia) ?_;rintro d N S ⟨a,rfl⟩;refine⟨[a7 d,a7<|.ref v],⟨_,rfl⟩,λY Z s=>?_⟩;obtain⟨U,u⟩:=C d N;obtain⟨t,z,k,n,x,ds,rfl,_⟩:=o.dk d N;have T:NB f (.tup [.int t,.tup [.str z,.int k],.int n,.tup<|.str x::ds])=decide (n<U):=by unfold NB;rw[u]
 rw[T]at s;walk_at"dl";exact⟨_,_,g,rfl,u,s⟩;rw[F4,MR];refine⟨_,aw,am (by decide),?_⟩;have p:∀d∈[D.tup log,.tup<|cutD log a8<|a7 (-1),.tup<|log.filter<|NB f],∃l,d=.tup l/\LogS ps w l:=λd j=>by rcases A0.mp j with rfl|j;exact⟨_,rfl,o⟩;rcases A0.mp j with rfl|j;exact⟨_,rfl,o.sub IJ⟩;rw[J6.mp j];exact⟨_,rfl,o.sub QI⟩
 generalize [D.tup log,.tup<|cutD log a8<|a7 (-1),.tup<|log.filter<|NB f]=X at p;have q:(m++[MO.lst<|log.filter<|NB f]++[MO.lst X])[(m++[MO.lst<|log.filter<|NB f]).length]?=a7 (.lst X):=ad;generalize m++[MO.lst<|log.filter<|NB f]++[MO.lst X]=P at q;generalize (m++[MO.lst<|log.filter<|NB f]).length=q5 at q;simp only[zX];walk_at"dl";refine⟨_,.inl q,λ_=>?_⟩;refine aT (λi S m=>∃b,P <+: m/\S=[a7<|.ref 0,a7<|az ps w,a7<|.tup log,a7<|.ref v,a,a7<|.ref q5,b]) ?_ ?_ ⟨_,NJ,rfl⟩;rintro S Q ⟨b,pM,rfl⟩;refine⟨.inl<|aI pM q,?_⟩;simp only[zW];walk_at"dl";exact .inl<|h _;rintro i y S Q O ⟨b,pM,rfl⟩ L F;obtain⟨l,rfl,G⟩:=p y<|D2 O;refine⟨.inl<|aI pM q,?_⟩;walk_at"dl";refine⟨ps,w,l,rfl,K,G,?_⟩;walk_at"ifs";exact x5.now<|F _ _ ⟨_,pM,rfl⟩
theorem ok_law(T:Tops P w K mg base)(F:MN K "law" "law" (top 65) f fd):FnOk P w K mg base E8 9 f fd GM (MY K<|yP "_law_log"):=EG (N:=["_law_script","_law_house_here","_law_log_here","_law_many","_law_deed","_law_parts","_law_part"]) T.b F (by walk_at"sc") Hg (by have:=yB T;have:=DF T;have:=Kl T;have:=Dz T;walk_at"dv") Jh
end
end LW
namespace PySem.W.Fast
def tw10378323502177913592:=Nat
def tw10390105617057794799:=Nat
def tw10420946622908146238:=Nat
def tw10563025442182939216:=Nat
def tw1067423416547574852:=Nat
def tw10719591682630901775:=Nat
def tw10734843899605507297:=Nat
def tw10826025445693987489:=Nat
def tw10873037705391305682:=Nat
def tw11242468609762818260:=Nat
def tw11285617766772803318:=Nat
def tw11369694979683170579:=Nat
def tw11411022617487612944:=Nat
def tw11442140320060280170:=Nat
def tw11512587383590525109:=Nat
def tw11529204604404656527:=Nat
def tw11539883072279926268:=Nat
def tw11541288835652525028:=Nat
def tw11587240888479618656:=Nat
def tw11604653200526201413:=Nat
def tw11626314366742337190:=Nat
def tw11697345125918118415:=Nat
def tw11703965253709328140:=Nat
def tw11807742450940705915:=Nat
def tw11917871212912250691:=Nat
def tw11972679074162313808:=Nat
def tw11988597209856825158:=Nat
def tw12033996891378461326:=Nat
def tw12310413379923219844:=Nat
def tw12341831904570222570:=Nat
def tw12523289432473631218:=Nat
def tw12608326473834829453:=Nat
def tw12757423301480187314:=Nat
def tw12954912250043348117:=Nat
def tw12972297523269392289:=Nat
def tw13004389231075905060:=Nat
def tw13083205664939485749:=Nat
def tw13219465425368029348:=Nat
def tw1333901570575260714:=Nat
def tw13353335421794258242:=Nat
def tw13367973384404080305:=Nat
def tw13439307614997972755:=Nat
def tw13440024520425472193:=Nat
def tw13462957258920825621:=Nat
def tw13475458865362077521:=Nat
def tw13554237273002483433:=Nat
def tw13557261882932042547:=Nat
def tw13572001147867693650:=Nat
def tw1360949172716980865:=Nat
def tw13651220421956751978:=Nat
def tw13688399925597226643:=Nat
def tw13706445745998342477:=Nat
def tw13721315856342432009:=Nat
def tw13723652522517898059:=Nat
def tw13723964694160777806:=Nat
def tw13763485076866016174:=Nat
def tw13799375744138964335:=Nat
def tw13804666413552987063:=Nat
def tw14025414695213754329:=Nat
def tw14557148316832202920:=Nat
def tw15110507002572655740:=Nat
def tw15215604934272121012:=Nat
def tw15260720858001498128:=Nat
def tw1541360202897146951:=Nat
def tw15461259747022812333:=Nat
def tw15466388237937572345:=Nat
def tw15510534979022425777:=Nat
def tw15569150210980627582:=Nat
def tw15604352712351220430:=Nat
def tw15617940052359767741:=Nat
def tw15678963408085171777:=Nat
def tw15709639692283983985:=Nat
def tw15917458149878109399:=Nat
def tw15995784150193023814:=Nat
def tw16049774366929612711:=Nat
def tw16148544501918164612:=Nat
def tw16174616751079928353:=Nat
def tw16236512525117866271:=Nat
def tw16261679432473021454:=Nat
def tw16293846688758093077:=Nat
def tw16304437650147599480:=Nat
def tw16344006597114507836:=Nat
def tw1649359658997761712:=Nat
def tw16510511397475725149:=Nat
def tw16696269808782539593:=Nat
def tw16714282564189927654:=Nat
def tw16719376747337605039:=Nat
def tw17001036633692523845:=Nat
def tw17013868026946226986:=Nat
def tw17024404271648332348:=Nat
def tw17143643370137461683:=Nat
def tw17186109339022018093:=Nat
def tw17266676133800269228:=Nat
def tw17313163702599823760:=Nat
def tw17340396015779411988:=Nat
def tw17359356126364364816:=Nat
def tw17498765603516313:=Nat
def tw1756204999393181551:=Nat
def tw17579620962037795050:=Nat
def tw17598210091567044840:=Nat
def tw17606774572138753732:=Nat
def tw17618596972507226125:=Nat
def tw18031284365419584811:=Nat
def tw18103207175448381172:=Nat
def tw18142340142841764079:=Nat
def tw18164588626696629852:=Nat
def tw18166328170738060554:=Nat
def tw18222123804946677429:=Nat
def tw1827246386923165299:=Nat
def tw18275685241421205075:=Nat
def tw18293207853623305456:=Nat
def tw18406488366552908242:=Nat
def tw18422671501777891668:=Nat
def tw1879614045423752862:=Nat
def tw1924103395408251171:=Nat
def tw1928474867518069509:=Nat
def tw1972342647561665005:=Nat
def tw2199849382177008887:=Nat
def tw2228055655153804687:=Nat
def tw2246559163669450853:=Nat
def tw2338168351405138214:=Nat
def tw2347550374566495296:=Nat
def tw2379555757310148361:=Nat
def tw2552780517324066533:=Nat
def tw2604662746209536762:=Nat
def tw2618734311509958140:=Nat
def tw2620189289715118618:=Nat
def tw2625543886807047274:=Nat
def tw2627013134695283910:=Nat
def tw2646368511489828358:=Nat
def tw2685742312169799056:=Nat
def tw2727199133553242459:=Nat
def tw2799190181621683159:=Nat
def tw2865174069097510635:=Nat
def tw2880856518719285668:=Nat
def tw2996444422836022115:=Nat
def tw3036447963443433091:=Nat
def tw3115307222191768612:=Nat
def tw3120840091785559552:=Nat
def tw3278806938075311211:=Nat
def tw3287018043032918918:=Nat
def tw3295136859601673303:=Nat
def tw3322168395561420130:=Nat
def tw3352894811705402436:=Nat
def tw3360565315725353949:=Nat
def tw3424946054424624228:=Nat
def tw343291523849424410:=Nat
def tw3469351791132973418:=Nat
def tw3470001054109072906:=Nat
def tw3547342209554348347:=Nat
def tw3708655716147611449:=Nat
def tw3765377424960048768:=Nat
def tw3785793237186302813:=Nat
def tw3803262674039994725:=Nat
def tw3877801583723179396:=Nat
def tw3887491641753037065:=Nat
def tw3910242682403139684:=Nat
def tw3927850874670193911:=Nat
def tw3931372259240525229:=Nat
def tw4019279665834939997:=Nat
def tw402498298202809442:=Nat
def tw4129965827363797746:=Nat
def tw4199279516285583324:=Nat
def tw4254047955119552265:=Nat
def tw4302927780211031006:=Nat
def tw4338944950089291295:=Nat
def tw4433918625041788656:=Nat
def tw4479948268490864762:=Nat
def tw4504811859111469196:=Nat
def tw4515422843856970706:=Nat
def tw4520314359434140593:=Nat
def tw4623375189338470948:=Nat
def tw4649992871734962813:=Nat
def tw4706844688283010685:=Nat
def tw4722858953268699163:=Nat
def tw4746252715656631313:=Nat
def tw4806180700247059344:=Nat
def tw4872343062811569549:=Nat
def tw4910721757514584555:=Nat
def tw5068787526827906560:=Nat
def tw5144100830452074184:=Nat
def tw5176503094933005910:=Nat
def tw520365370658492848:=Nat
def tw5219558623686672830:=Nat
def tw5241055411773030681:=Nat
def tw5246338569529205488:=Nat
def tw5261201909905490200:=Nat
def tw5293236709782902174:=Nat
def tw5315909136714904850:=Nat
def tw5341515106117166197:=Nat
def tw5395086166503829055:=Nat
def tw5418066941390016559:=Nat
def tw5619504816603081830:=Nat
def tw5628557632116610564:=Nat
def tw5665653977551421263:=Nat
def tw5758213790255579524:=Nat
def tw5762243337880960371:=Nat
def tw5789835371870852445:=Nat
def tw5792209335416690127:=Nat
def tw5796606488595730294:=Nat
def tw5864892234509763934:=Nat
def tw5866124741319598149:=Nat
def tw5892889058965449130:=Nat
def tw5893863124893540357:=Nat
def tw5926279723562663889:=Nat
def tw6007344462807421730:=Nat
def tw6007372309212779789:=Nat
def tw6008825272666133455:=Nat
def tw6067074249220785564:=Nat
def tw6108172108869529863:=Nat
def tw6113613319373707101:=Nat
def tw6147008744500899769:=Nat
def tw6180494437707597804:=Nat
def tw6206681199339149374:=Nat
def tw6339342529256583901:=Nat
def tw639147333312633756:=Nat
def tw6460174877989362651:=Nat
def tw6477853211772428906:=Nat
def tw6515753808311632042:=Nat
def tw6580246459927291738:=Nat
def tw6595195599012224357:=Nat
def tw6605302945224400176:=Nat
def tw6608232021619701353:=Nat
def tw6640673999883388560:=Nat
def tw6694126553684842455:=Nat
def tw670791149119496237:=Nat
def tw6714532452099566815:=Nat
def tw6720307889323853401:=Nat
def tw6772315367155632835:=Nat
def tw6926141809551053641:=Nat
def tw6938096799258454273:=Nat
def tw7095337531087084055:=Nat
def tw7098598490601327300:=Nat
def tw710039456980835382:=Nat
def tw7113361288451455366:=Nat
def tw7158163330131399230:=Nat
def tw7159902323515353591:=Nat
def tw7181590450579884267:=Nat
def tw7198881278343376480:=Nat
def tw735738805923773775:=Nat
def tw7403224744785123500:=Nat
def tw7534692358969677868:=Nat
def tw7537100297034598318:=Nat
def tw7558876857575172650:=Nat
def tw760192443578840146:=Nat
def tw7647990867963640410:=Nat
def tw7652081186971399286:=Nat
def tw7703179858339211306:=Nat
def tw7837921580718734438:=Nat
def tw7878237889230975928:=Nat
def tw7912977169506544384:=Nat
def tw7974376583446897405:=Nat
def tw8066724890940970425:=Nat
def tw8121582610020163306:=Nat
def tw8169165283293465990:=Nat
def tw8252397713206701961:=Nat
def tw8291245764093182284:=Nat
def tw8318773740975761526:=Nat
def tw836876524669135395:=Nat
def tw8404384030335177871:=Nat
def tw8426132763066488790:=Nat
def tw8493195475664590357:=Nat
def tw851893356425851892:=Nat
def tw8527334024129578884:=Nat
def tw8541601295173033089:=Nat
def tw8575618689450554044:=Nat
def tw8610581221216059153:=Nat
def tw8610583202514918358:=Nat
def tw8637532649479773780:=Nat
def tw8648097729035603130:=Nat
def tw8667931246678115029:=Nat
def tw8672019573299663951:=Nat
def tw869375533716524381:=Nat
def tw875957609243708716:=Nat
def tw8770461270883125083:=Nat
def tw8853062580840547054:=Nat
def tw8883135160078110880:=Nat
def tw8936975078812078580:=Nat
def tw9102319274245919992:=Nat
def tw9121941267266490681:=Nat
def tw9227479907341391354:=Nat
def tw9274467849948121299:=Nat
def tw928592996563429063:=Nat
def tw9329110689192976965:=Nat
def tw9460441873940536363:=Nat
def tw966668062708025430:=Nat
def tw9720981150725227959:=Nat
def tw9752636550911490407:=Nat
def tw9771632071188487632:=Nat
def tw9780161496775100647:=Nat
def tw9846386158968410423:=Nat
def tw9888749846002806772:=Nat
def tw9948830185894787164:=Nat
def tw9977364213529217365:=Nat
def tw9997247774139940092:=Nat
end PySem.W.Fast
theorem L2.us1{P:List AD6->Prop}(h:∀a0,P [a0]):∀u:List AD6,u.length=1->P u
 | [a0],_=>h a0
theorem L2.us2{P:List AD6->Prop}(h:∀a0 a1,P [a0,a1]):∀u:List AD6,u.length=2->P u
 | [a0,a1],_=>h a0 a1
theorem L2.us3{P:List AD6->Prop}(h:∀a0 a1 a2,P [a0,a1,a2]):∀u:List AD6,u.length=3->P u
 | [a0,a1,a2],_=>h a0 a1 a2
theorem L2.us4{P:List AD6->Prop}(h:∀a0 a1 a2 a3,P [a0,a1,a2,a3]):∀u:List AD6,u.length=4->P u
 | [a0,a1,a2,a3],_=>h a0 a1 a2 a3
theorem L2.us5{P:List AD6->Prop}(h:∀a0 a1 a2 a3 a4,P [a0,a1,a2,a3,a4]):∀u:List AD6,u.length=5->P u
 | [a0,a1,a2,a3,a4],_=>h a0 a1 a2 a3 a4
local macro_rules | `(tactic| walk_at"fk")=>`(tactic| ((case a=>k_is);(case l=>k_is);(case c=>k_is);(case k=>k_is)))
local macro_rules | `(tactic| walk_at"f1")=>`(tactic| (refine' L2.fnat_mk (by assumption) (by assumption) ?a ?l ?c ?k (λ_ _ _ _ _ _=>L2.us1 (λ_=>rfl));walk_at"fk"))
local macro_rules | `(tactic| walk_at"f2")=>`(tactic| (refine' L2.fnat_mk (by assumption) (by assumption) ?a ?l ?c ?k (λ_ _ _ _ _ _=>L2.us2 (λ_ _=>rfl));walk_at"fk"))
local macro_rules | `(tactic| walk_at"f3")=>`(tactic| (refine' L2.fnat_mk (by assumption) (by assumption) ?a ?l ?c ?k (λ_ _ _ _ _ _=>L2.us3 (λ_ _ _=>rfl));walk_at"fk"))
local macro_rules | `(tactic| walk_at"f4")=>`(tactic| (refine' L2.fnat_mk (by assumption) (by assumption) ?a ?l ?c ?k (λ_ _ _ _ _ _=>L2.us4 (λ_ _ _ _=>rfl));walk_at"fk"))
local macro_rules | `(tactic| walk_at"f5")=>`(tactic| (refine' L2.fnat_mk (by assumption) (by assumption) ?a ?l ?c ?k (λ_ _ _ _ _ _=>L2.us5 (λ_ _ _ _ _=>rfl));walk_at"fk"))
open PySem PySem.W PyProof.Rows
set_option maxRecDepth 100000 in
set_option maxHeartbeats 0 in
theorem PySem.Challenge.cw_talkmarks_k54_whole_bells_holds : PySem.Challenge.rw_talkmarks_k54_whole_bells.Holds := by
 w_on; o_law; k_head; (case hw=>w_witness2)
 k_fill
 refine L2.law_walkL (z:="_law_log") (l:=PySem.Challenge.rw_talkmarks_k54_whole_bells) (k:=9) (st:=LW.top 65) (x:="_law_script") rfl rfl rfl ⟨rfl,by decide,by decide⟩ (fun w h Y=>PySem.W.km_in_of Y) (fun _=>by kernel_rfl) rfl (fun _=>rfl) ?F<|fun _ _ _ _ _ _ _=>rfl
 case F =>
  intro w mg h X G;have T:∀ P base,L2.BMain mg base→LW.Tops P w (L2.KOf X) mg base:=by
   intro P base m;dsimp only[L2.KOf];constructor;walk_at"f1";walk_at"f2";walk_at"f2";walk_at"f2";walk_at"f2";walk_at"f1";walk_at"f1";walk_at"f2";walk_at"f2";walk_at"f3";walk_at"f3";walk_at"f2";walk_at"f1";walk_at"f1";walk_at"f3";walk_at"f2";walk_at"f2";walk_at"f3";walk_at"f2";walk_at"f2";walk_at"f2";walk_at"f2";walk_at"f2";walk_at"f4";walk_at"f3";walk_at"f2";walk_at"f2";walk_at"f4";walk_at"f4";walk_at"f3";walk_at"f2";walk_at"f1";walk_at"f2";walk_at"f1";walk_at"f2";walk_at"f1";walk_at"f2";walk_at"f3";walk_at"f3";walk_at"f4";walk_at"f5";walk_at"f1";walk_at"f2";walk_at"f1";walk_at"f3";walk_at"f2";walk_at"f2";walk_at"f2";walk_at"f5";walk_at"f2";walk_at"f4";walk_at"f4";walk_at"f2";walk_at"f1"
   ·unfold LW.B_ LW.C_
    iterate 9 (refine' L2.TopB.b ?tq ?_; (case tq=>refine' PySem.W.mg_none_of X G ?tr; (case tr=>k_is)))
    exact .nil
   exact m
  refine ⟨?_,fun base f d m F=>LW.ok_law (T _ base m) F⟩
  try dsimp only[L2.KOf]
  walk_at"f1"
