import PyProof.Rows.All
import Wide.All
import OpenK.AllK
import Wide.FinOn
import Lean
import PyProof.EqAt
import PyProof.EqKinds
import PyProof.TupleCall
import PyProof.CompFree
import PyProof.NeKinds
import KE.KSortTup
import KE.KRevSl
import KE.KDictSum
import KE.KEqDict
import PyProof.Conv_int_bool
import PyProof.AttrMissHeap
import KE.KLam
import KE.KRevIter
import KE.KTryMore
import PyProof.ExcArgsOwn
import PySem.Challenge.RW_talkmarks_k40_who_has_read
open PySem renaming wpAny_bind->u4,wpAny_pure->u8,Spec->AAB,wpAny_callSpecial?_slot->LS,wpAny_call_entry->J4,wpAny_newObj_type->K3,wpAny_holding->F7,wpAny_mono->G3,wpAny_setField_rec->Mo,wpAny_seqItems->LB,wpAny_field->K2,wpAny_setState_of->Mn,mem_of_lookup->Nb,codeAny_builtin->MB,wpAny_fieldsOf->Mj,wpAny_notOrdered_dict->NR,wpAny_setField->MA,wpAny_Call_Name_kw->Nt,wpAny_attempt->Mi,wpAny_ite_split->MN,wpAny_rule->Lq,eqIsQuiet_byValue->Nq,wpAny_dictEntries->Np,wpAny_specialOf->M7,wpAny_typeNameOfWhole_itemiter->QM,sizeLine_eq->Mb,wpAny_forIn_list->No,wpAny_isInstance->Nn,wpAny_typeNameOfWhole_keyiter->QK,plainId_quiet->ML,wpAny_typeOf->Mw,wpAny_truthy_bool->NO,wpAny_askSetting->NL,codeAny_mono->MK,builtinLookup_eq_fast->Pp,wpAny_typeNameOf_itemiter->QH,codeAny_call_builtin->Pn,wpAny_typeNameOf_keyiter->QF,wpAny_setEntries_of->Pl,Value->AD6,wpAny_Call_method_late->QA,wpAny_callSpecialIfBoundUnlessNone?_slot->RO,wpAny_execs_nil->On,wpAny_dictEpoch->Ol,wpAny_pyHash_int->Pc,wpAny_pyHash_str->Pb,wpAny_passesOwn->O8,wpAny_loadPart'->RI,typeLookup_type->O6,wpAny_isOneOf_itemiter->Re,wpAny_pyIter_list->Qk,wpAny_pyIter_slot->Qi,atKey_none_of_get->Qh,isSubtype_stop->O3,atKey_of_get->Oa,wpAny_execs_cons->Qd,wpAny_onRaise->OY,wpAny_of_eq->N8,call_meetsIn->OT
open PySem.Str renaming ofString->u7
open List renaming getElem?_eq_getElem->z9,length_map->x3,getElem?_eq_some_iff->A5,size_toArray->B7,mem_cons_of_mem->D0,length_append->D5,mem_cons->A4,getElem?_map->D8,mem_cons_self->Fn,getD_eq_getElem?_getD->Lf,length_cons->E5,all_eq_true->E7,getElem?_append_left->Le,mem_map->C1,map_cons->C9,mem_of_getElem?->J7,getElem?_append_right->LU,length_nil->G0,mem_append_right->Lm,length_singleton->Ll,mem_singleton->K4,getElem?_set_self->LF,getElem?_set_ne->Lv,mem_append->I9,range->D3,mem_range->Ix,length_take->Lc,prefix_append->Lu,getElem?_of_mem->LR,any_eq_true->Lh,append_nil->Lb,nodup_cons->La,nil_append->K9,append_assoc->Ls,mem_filter->Lk,map_map->J3,find?_cons->Lr,take_add_one->L6,take_length->LO,not_mem_nil->LN,map_append->LC,nodup_iff_pairwise_ne->Ny,length_drop->L5,getElem_mem->LZ,cons_lt_cons_iff->MT,length_filter_le->MS,mem_map_of_mem->MR,filter_cons->Mm,all_cons->LL,getElem?_take_of_lt->NT,prefix_rfl->Ml,getElem?_eq_none->Nv,filterMap_cons->Nu,length->Lz,mem_append_left->NQ,lookup_cons->Na,length_range->Nr,drop_eq_getElem_cons->Pu,pairwise_iff_getElem->Pt,mem_of_find?_eq_some->Ps,length_set->M9,zip_cons_cons->NP,take_of_length_le->Pq,replicate->Nl,find?_some->NK,getElem?_replicate->QE,getElem?_cons_succ->QC,cons_append->Oo,find?_eq_none->Ph,length_replicate->Qy,set_append_right->Qw,take_sublist->Pg,pairwise_map->Pe,lt_irrefl->Oj,nodup_nil->Og,mem_filterMap->Qt,pairwise_singleton->Rj,getElem?_drop->Qn,eraseIdx_cons_succ->Rh,filter_append->Qm,foldl_append->Qf,find?_append->Qe,find?_map->O1,map_nil->Oc,getElem?_toArray->Rb,nodup_range->Qc,mem_of_mem_take->Ra,any_cons->O0,of_mem_zip->Qa,forIn_cons->P8,filter_eq_self->Q9,length_zip->P5,map_congr_left->Q8,map_id->N7,filter_sublist->Q6,toArray->OU,getD->NF
open PySem.W renaming Frag->v6,kitOne->LM,keepIn->MM,kas_desc->K1,fnOf->Mx,nsIn->MJ,findIn->Nm,kas_rev->Lp,kas_place->Mv,hideAll->O9,callWith_K->Qr,excIn->Od,cellsFrom_some->Rg,kas_asc->LY,codeIn->O4,kas_descPart->Ob,of_hideAll->Q5,kas_sort->MX,exmOne->P0,methodObj->Q3,mg_of->PZ
open PySem.Heap renaming get?_push_of_some->z6,get?_push_size->C5,lt_size->A0,get?_update_self->Lw,SameBut->J6,size_push->Lj,get?_update_other->Ou,get?_update_ne->Pm,MadeExcOf->P3
open Nat renaming le_refl->w5,ne_of_lt->A3,lt_of_lt_of_le->G9,zero_le->C4,lt_irrefl->G8,le_trans->H9,lt_succ_self->LP,ne_of_gt->Mg,not_lt_zero->M8,lt_or_ge->Mf,lt_succ_of_lt->NN,sub_self->MI,le_of_ble_eq_true->Qx,not_lt->MG,lt_trichotomy->Pf,le_add_right->Pa,le_succ->N9,le_of_lt->OW,lt_trans->OV
open Bool renaming false_eq_true->A8,and_eq_true->F3,eq_false_iff->LQ,false_ne_true->MQ,not_true->Mh,eq_iff_iff->Om,true_and->NI,or_eq_true->O7,false_and->O5,and_false->O2,false_or->OX
open Option.some renaming inj->C7
open Array renaming getElem?_eq_getElem->KY,length_toList->F9,getElem?_toList->J5,getElem?_eq_some_iff->MC,getD_eq_getD_getElem?->Nz,getElem?_eq_none->Os,getD->L9,forIn_toList->Op
open PySem.SetTable renaming below->F8,runEnd->K8,bits->Mz,leap->MZ,Probe->Nk,grown->NJ,turns->Oh,fits->Of,insertAt->Qj,sizeAbove->Q4,fill->PY
open Int renaming toNat_natCast->Ld,zero_add->NH,le_refl->OS
open PySem.Heap.SameBut renaming update->LD
open Ne renaming symm->A1
open Option renaming map_eq_some_iff->Mp,isSome_iff_exists->Ow,isSome_map->Qg
open PySem.Value renaming ref->E6,none->J2,bool->MH,builtin->Oe,type->NG
open False renaming elim->G5
open PySem.Builtin.SmallTypes renaming nextOf->Nx,ownedTupleIsFree->QP,ownedTupleHandOut->RM
open Classical renaming byContradiction->Nw,propDecidable->NS
open PyProof.Rows renaming slot_tuple_getitem->Oy,callWith_type1->Rq,get?_update_seq->P6,envOfC->Q7
open PySem.NameKind renaming free->LA,cell->Nj
open PySem.Builtin.Tuple renaming tupleHashOf->NU,tupleItemsOf->QJ,tupleExact->QG
open PySem.Around renaming under_plainId->Nc
open Sum renaming inr->ABf
open PySem.Builtin.Str renaming strSliceIndices->Ox,occurrences->QD
open PySem.F renaming slot_dict_itemiterator_next->QO,slot_tuple_getattribute->QN,slot_list_getattribute->QL,plainAttrs_dict->QB,slot_dict_get->Qv,kt_typeCall_dict_1->Rp,args_dict_itemiterator_next_1->RN,entry_dict_itemiterator_next->RL,args_tuple_add_2->Rn,args_dict_init_2->Rm,entry_tuple_add->Rk,entry_dict_init->Ri,slot_tuple_add->Rf,kt_called_dict->Rc
open PySem.Builtin.Dict_items renaming ownsTuple->Pv,ownedTupleFields->RK,ownedTupleIsFree->RJ,pairFromOwner->RH
open List.cons renaming injEq->MP,inj->OZ
open PySem.Builtin.Dict renaming updateFrom->Ov,showsAll->Qu,selfAndRest->Rl,missedRemoval->RD
open PySem.Calls renaming callWith_builtin->Ot,evalArgs_plain->Po,spliced_cons->Qs
open PySem.Obj renaming mapSeq->Ly,data_mapDictKeys->Oq,isFreed_of_dict->Pk,data_mapFields->Qo,data_mapDict->Qb,putSet->N6
open PySem.Shared renaming TypeIs->My
open PySem.SetTable.below renaming go->NM
open PySem.SeqAt renaming EqAt->Ma
open PySem.Txt renaming slice->LK
open PySem.Builtin.Slice renaming slicePlaces->QI,sliceAdjust->Ro,sliceApplied->RE
open PySem.SetTable.layClean renaming free->Qz
open PySem.SeqAt.EqAt renaming int_str->Pj,str_int->Pi,int_int->Qq,str_str->Qp,same->P7
open List.Sublist renaming refl->Pd
open List.Perm renaming refl->Oi,cons->P4
open True renaming intro->MY
open List.Pairwise renaming nil->Ql
open ForInStep renaming yield->P9
open PySem.Builtin.List renaming listLengthHint->RG,listExtendWith->RF
open PySem.SetTable.probe renaming go->Q2
open Option renaming some->a7,none->a8
open Bool renaming true->a9,false->bt
open PySem renaming Value->b7,Str->c7,World->c8,Program->c9,Addr->d5,Obj->d6,Heap->d7,sysModules->d8,entryOfKey->d9,mainGlobals->e7,bootBuiltins->e8,Around->f6,Shared->f7,Scope->f8,wpAny->ge,Expr->g7,model->g9,Pos->i3,backTo->i4,starEach->i5,Stmt->i6,holding->i7,swapsWith->i8,assign->i9,assignEach->j0,pyNext->j1,letOwnedTupleGo->j2,pyIter->j3,rawInt->j4,foldedSetIterable->j5,binaryOp->j6,compareOp->j7,behindInMarks->j8,cLine->j9,FuncData->k7,codeAny->k9,wpAny_call->l7,Keyword->l8,NameKind->m3,IsPart->m5,getItem->m6,sliceBounds->m7,typeOf->m8,attributeBase->m9,backToKw->n5,keywordEach->n6,DictEntry->n9,atKey->o0,reduceHash->o4,firstArgMember->o6,IsPair->o7,pickOrder->o8,SetTable->p7
open PyProof.Rows renaming envOfC->b9,AllBare->f9,seqObj->o5
set_option autoImplicit true
set_option relaxedAutoImplicit true
set_option compiler.extract_closed false
set_option Elab.async false
set_option linter.all false
set_option maxRecDepth 100000
def p9:=@if_pos
def r9:=@if_neg
def t4:=@absurd
def t5:=@decide_eq_true_eq
def t6:=@beq_iff_eq
def t7:=@if_false
def t8:=@if_true
def t9:=@congrArg
def u3:=@beq_self_eq_true
-- CHANGE: your row's module here,as the last of these rows
theorem dF_{p:Prop}[Decidable p](h:¬p):decide p=bt:=decide_eq_false h
theorem dT_{p:Prop}[Decidable p](h:p):decide p=a9:=decide_eq_true h
theorem oT_{p:Prop}[Decidable p](h:decide p=a9):p:=of_decide_eq_true h
namespace L2
open PySem PySem.Spec PyProof.Rows
noncomputable abbrev E9:=Sum Int c7
noncomputable def xk:E9->b7->Bool
 |.inl k,v=>Value.isInt k v
 |.inr x,v=>Value.isStrOf x v
noncomputable def keyH(w:c8):E9->Int
 |.inl k=>hashInt k
 |.inr x=>hashStr w x
theorem bi:∀{k:E9}{v:b7},xk k v=a9->(∃i t,k=Sum.inl i/\v=Value.int i t)\/(∃x t,k=ABf x/\v=Value.str x t)
 |.inl i,v,h=>by obtain⟨t,e⟩:=Value.isInt_shape (k:=i) (v:=v) h;exact .inl ⟨i,t,rfl,e⟩
 |.inr x,v,h=>by obtain⟨t,e⟩:=Value.isStrOf_shape (x:=x) (v:=v) h;exact .inr ⟨x,t,rfl,e⟩
theorem zD(i:Int)(t:Tok):xk (.inl i) (.int i t)=a9:=by simp[xk,Value.isInt]
theorem zC(x:c7)(t:Tok):xk (.inr x) (.str x t)=a9:=by simp[xk,Value.isStrOf]
theorem Jn(a b:Int):decide ((Sum.inl a:E9)=Sum.inl b)=(a==b):=by by_cases e:a=b;subst e;simp;have h:¬(Sum.inl a:E9)=Sum.inl b:=λq=>e<|Sum.inl.inj q;rw[dF_ h];exact(beq_eq_false_iff_ne.mpr e).symm
theorem Ea(a b:c7):decide ((ABf a:E9)=ABf b)=decide (a=b):=by by_cases e:a=b;subst e;simp;have h:¬(ABf a:E9)=ABf b:=λq=>e<|Sum.inr.inj q;rw[dF_ h,dF_ e]
theorem Jm(a:Int)(b:c7):decide ((Sum.inl a:E9)=ABf b)=bt:=dF_<|λq=>nomatch q
theorem Jl(a:c7)(b:Int):decide ((ABf a:E9)=Sum.inl b)=bt:=dF_<|λq=>nomatch q
noncomputable def bI(prog:c9)(w:c8):PySem.KeyKind prog w E9 where
 is:=xk
 hash:=keyH w
 inj:=λv a b f d=>by
  rcases bi f with⟨i,t,rfl,rfl⟩|⟨x,t,rfl,rfl⟩
  rcases bi d with⟨j,u,rfl,e⟩|⟨y,u,rfl,e⟩
  injection e with e1 _;rw[e1];exact nomatch e
  rcases bi d with⟨j,u,rfl,e⟩|⟨y,u,rfl,e⟩
  exact nomatch e
  injection e with e1 _;rw[e1]
 byValue:=λk v h=>by rcases bi h with⟨i,t,rfl,rfl⟩|⟨x,t,rfl,rfl⟩<;>rfl
 pyHash:=λc h=>by
  rcases bi c with⟨i,t,rfl,rfl⟩|⟨x,t,rfl,rfl⟩
  exact Pc h;exact Pb h
 eqBool:=λg c h=>by
  rcases bi g with⟨i,t,rfl,rfl⟩|⟨x,t,rfl,rfl⟩
  rcases bi c with⟨j,u,rfl,rfl⟩|⟨y,u,rfl,rfl⟩
  rw[Jn]at h;exact wpAny_eqBool_int h;rw[Jm]at h;exact Pj i t y u _ _ _ _ h;rcases bi c with⟨j,u,rfl,rfl⟩|⟨y,u,rfl,rfl⟩
  rw[Jl]at h;exact Pi x t j u _ _ _ _ h;rw[Ea]at h;exact wpAny_eqBool_str h
 «strs»:=λk x t v h=>by
  rcases bi h with⟨i,u,rfl,e⟩|⟨y,u,rfl,e⟩
  exact nomatch e
  injection e with e1 _;subst e1;cases v<;>rfl
theorem tQ(prog:c9)(w:c8)(i:Int)(t:Tok):(bI prog w).is (.inl i) (.int i t)=a9:=zD i t
theorem tP(prog:c9)(w:c8)(x:c7)(t:Tok):(bI prog w).is (.inr x) (.str x t)=a9:=zC x t
inductive V where
 |non|bl (b:Bool)|int (i:Int)|str (x:c7)|byt (b:Array UInt8)|flt (b:UInt64)|ref (a:d5)|ty (n:String)
 deriving DecidableEq
def aJ:V->b7->Prop
 |.non,u=>u=J2
 |.bl b,u=>u=MH b
 |.int i,u=>∃t,u=Value.int i t
 |.str x,u=>∃t,u=Value.str x t
 |.byt b,u=>∃t,u=Value.bytes b t
 |.flt b,u=>∃t,u=Value.float b t
 |.ref a,u=>u=E6 a
 |.ty n,u=>u=NG n
abbrev aw:List V->List b7->Prop:=Paired aJ
theorem aw.length(r:aw xs us):xs.length=us.length:=Paired.length r
theorem aw.get:∀{xs:List V}{us:List b7}{i:Nat}{x:V},aw xs us->xs[i]?=a7 x->∃u,us[i]?=a7 u/\aJ x u
 |_,_,_,_,.nil,e=>by simp at e
 |_,_,0,_,.cons r _,e=>by simp at e;subst e;exact⟨_,rfl,r⟩
 |_,_,i+1,x,.cons _ t,e=>by obtain⟨u,h1,h2⟩:=aw.get (i:=i) (x:=x) t (by simpa using e);exact⟨u,by simpa using h1,h2⟩
theorem aw.set(r:aJ x u):∀{xs:List V}{us:List b7} (i:Nat),aw xs us->aw (xs.set i x) (us.set i u)
 |_,_,_,.nil=>.nil
 |_,_,0,.cons _ t=>.cons r t
 |_,_,i+1,.cons q t=>.cons q<|aw.set r i t
theorem aw.append(h:aw xs us)(s:aw ys ws):aw (xs++ys) (us++ws):=by
 induction h with
 |nil=>exact s
 |cons r t i=>exact .cons r i
theorem aw.take:∀{xs:List V}{us:List b7} (n:Nat),aw xs us->aw (xs.take n) (us.take n)
 |_,_,0,_=>.nil
 |_,_,_+1,.nil=>.nil
 |_,_,n+1,.cons r t=>.cons r<|aw.take n t
theorem aw.drop:∀{xs:List V}{us:List b7} (n:Nat),aw xs us->aw (xs.drop n) (us.drop n)
 |_,_,0,r=>r
 |_,_,_+1,.nil=>.nil
 |_,_,n+1,.cons _ t=>aw.drop n t
def AK:Option V->Option b7->Prop
 |some v,a7 u=>aJ v u
 |none,a8=>True
 |_,_=>False
def KV{κ:Type}:List (κ×V)->List (κ×b7)->Prop:=Paired λ(p:κ×V) (q:κ×b7)=>p.1=q.1/\aJ p.2 q.2
noncomputable def kV:E9->V
 |.inl i=>.int i
 |.inr x=>.str x
inductive HO where
 |lst (xs:List V)
 |tup (xs:List V)
 |dK (kvs:List (E9×V))|dT (kvs:List (List E9×V))
 |set (S:Int->Bool) (n:Nat)
 |ins (C dx:d5) (fs:List (c7×V))
 |own (x:d5)
 |xd (fs:List (c7×V))
 |met (f x:d5)
 |rng (lo hi:Int)
 |frz (o:d6) (u:HO)
 |tbl (ps:Array b7)
 |ext (φ:c9->c8->d7->Prop)
abbrev Hp:=d5->Option HO
noncomputable def z5(H:Hp)(a:d5)(o:HO):Hp:=λb=>if b=a then a7 o else H b
theorem aK:z5 H a o a=a7 o:=by unfold z5;rw[p9 rfl]
theorem ar(h:b≠a):z5 H a o b=H b:=by unfold z5;rw[r9 h]
theorem wY{H:Hp}{a b:d5}{o u:HO}(h:H a=a7 o)(h':H b=a7 u)(d:o≠u):a≠b:=by intro e;subst e;rw[h]at h';exact d<|C7 h'
theorem ad{H:Hp}{a b:d5}{o:HO}(h:H a=a7 o)(h':H b=a8):a≠b:=by intro e;subst e;rw[h]at h';cases h'
section
variable(P:c9)(w:c8)
def Dr(h:d7)(a:d5)(s:Array b7):Prop:=∃o,h.get? a=a7 o/\o.cls=.type "tuple"/\(∃n,o.data=.seq s n)/\o.dict=a8
theorem Dr.tup:Dr h a items->IsTup h a items:=λ⟨o,e,c,⟨n,d⟩,_⟩=>⟨o,e,c,n,d⟩
theorem Dr.new(h:d7)(s:Array b7):Dr (h.push { cls:=.type "tuple",data:=.seq s }) h.objs.size s:=⟨_,C5 _ rfl,rfl,⟨_,rfl⟩,rfl⟩
def bE(H:Hp)(h:d7)(a:d5):HO->Prop
 |.lst xs=>xs.length<=sizeLine/\∃(its:List b7) (n:Nat),aw xs its/\h.get? a=a7 { cls:=.type "list",data:=.seq its.toArray n }
 |.tup xs=>xs.length<=sizeLine/\∃its:List b7,aw xs its/\Dr h a its.toArray
 |.dK kvs=>kvs.length<=sizeLine/\(a==d8)=bt/\∃vs,KV kvs vs/\h.DictOf (bI P w) a vs
 |.dT kvs=>kvs.length<=sizeLine/\(a==d8)=bt/\∃xs:List (List E9×d5×b7),Paired (λ(p:List E9×V) (q:List E9×d5×b7)=>p.1=q.1/\H q.2.1=a7 (.tup<|p.1.map kV)/\aJ p.2 q.2.2) kvs xs /\∃o es ep,h.get? a=a7 o/\o.ExactDict/\o.data=.dict es ep/\es.toList=xs.map (d9<|tupleKind<|bI P w)/\(xs.map (·.1)).Nodup
 |.set S n=>h.SetOf (intKind P w) a S n
 |.ins C dx fs=>H dx=a7 (.own a)/\fs.length<=1000/\dx≠a/\h.get? a=a7 (PySem.W.instObj C dx) /\∃mA,h.Ns1 dx mA/\(∀f,AK (fs.lookup f)<|mA f)/\PySem.Within mA (fs.map (·.1))
 |.own _=>∃o,h.get? a=a7 o
 |.xd fs=>∃mA,h.Ns1 a mA/\∀f,AK (fs.lookup f)<|mA f
 |.rng lo hi=>∃t u v,h.get? a=a7 { cls:=.type "range",data:=.fields #[.int lo t,.int hi u,.int 1 v] }
 |.frz o u=>h.get? a=a7 o/\bE H h a u
 |.tbl ps=>h.get? a=a7 { cls:=.none,data:=.fields ps }
 |.met f x=>h.get? a=a7 (Q3 (.ref f)<|.ref x)
 |.ext φ=>φ P w h/\(∃o,h.get? a=a7 o)/\∀h1 h2:d7,φ P w h1->(∀o,h1.get? a=a7 o->h2.get? a=a7 o)->φ P w h2
def D4(H:Hp)(h:d7):Prop:=∀a o,H a=a7 o->bE P w H h a o
end
section
variable{P:c9}{w:c8}{H H':Hp}{h h':d7}{a:d5}{o:HO}
theorem bE.lt(x:bE P w H h a o):a<h.objs.size:=by
 cases o with
 |lst xs=>obtain⟨_,_,_,_,e⟩:=x;exact A0 e
 |tup xs=>obtain⟨_,_,_,p⟩:=x;exact p.tup.lt
 |dK kvs=>obtain⟨_,_,_,_,o,_,_,e,_⟩:=x;exact A0 e
 |dT kvs=>obtain⟨_,_,_,_,o,_,_,e,_⟩:=x;exact A0 e
 |set S n=>obtain⟨o,_,_,_,e,_⟩:=x;exact A0 e
 |ins C d s=>obtain⟨_,_,_,e,_⟩:=x;exact A0 e
 |own y=>obtain⟨_,e⟩:=x;exact A0 e
 |xd s=>obtain⟨_,⟨_,_,_,e,_⟩,_⟩:=x;exact A0 e
 |rng l hi=>obtain⟨_,_,_,e⟩:=x;exact A0 e
 |frz b u=>obtain⟨e,_⟩:=x;exact A0 e
 |tbl ps=>exact A0<|show h.get? a=a7 _ from x
 |met f y=>exact A0<|show h.get? a=a7 _ from x
 |ext φ=>obtain⟨_,⟨_,e⟩,_⟩:=x;exact A0 e
theorem Paired.mapP{α β:Type}{F G:α->β->Prop}:∀{l₁:List α}{l₂:List β},Paired F l₁ l₂->(∀a b,F a b->G a b)->Paired G l₁ l₂
 |_,_,.nil,_=>.nil
 |_,_,.cons r t,f=>.cons (f _ _ r)<|Paired.mapP t f
theorem bE.stay(x:bE P w H h a o)(k:∀b u,(b=a\/H b=a7 (.own a))->h.get? b=a7 u->h'.get? b=a7 u)(B:∀b,H b=a7 (.own a)->H' b=a7 (.own a)) (D:∀b xs,H b=a7 (.tup xs)->H' b=a7 (.tup xs)):bE P w H' h' a o:=by
 induction o with
 |lst xs=>obtain⟨z,its,n,r,e⟩:=x;exact⟨z,its,n,r,k _ _ (.inl rfl) e⟩
 |tup xs=>obtain⟨z,its,r,g,e,c⟩:=x;exact⟨z,its,r,g,k _ _ (.inl rfl) e,c⟩
 |dK kvs=>obtain⟨z,y,vs,r,g,es,i,e,c⟩:=x;exact⟨z,y,vs,r,g,es,i,k _ _ (.inl rfl) e,c⟩
 |dT kvs=>obtain⟨z,y,xs,r,g,es,i,e,c⟩:=x;exact⟨z,y,xs,Paired.mapP r λp q z=>⟨z.1,D _ _ z.2.1,z.2.2⟩,g,es,i,k _ _ (.inl rfl) e,c⟩
 |set S n=>obtain⟨g,es,i,t,e,c⟩:=x;exact⟨g,es,i,t,k _ _ (.inl rfl) e,c⟩
 |ins C G m=>obtain⟨d,z,F,e,A,⟨j,es,i,l,c⟩,r⟩:=x;exact⟨B _ d,z,F,k _ _ (.inl rfl) e,A,⟨j,es,i,k _ _ (.inr d) l,c⟩,r⟩
 |own y=>obtain⟨g,e⟩:=x;exact⟨g,k _ _ (.inl rfl) e⟩
 |xd m=>obtain⟨A,⟨j,es,i,e,c⟩,r⟩:=x;exact⟨A,⟨j,es,i,k _ _ (.inl rfl) e,c⟩,r⟩
 |rng I hi=>obtain⟨t,u,v,e⟩:=x;exact⟨t,u,v,k _ _ (.inl rfl) e⟩
 |frz g u E=>obtain⟨e,q⟩:=x;exact⟨k _ _ (.inl rfl) e,E q⟩
 |tbl ps=>have e:h.get? a=a7 { cls:=.none,data:=.fields ps }:=x;show h'.get? a=a7 { cls:=.none,data:=.fields ps };exact k a _ (.inl rfl) e
 |met f y=>have e:h.get? a=a7 (Q3 (.ref f)<|.ref y):=x;show h'.get? a=a7 (Q3 (.ref f)<|.ref y);exact k a _ (.inl rfl) e
 |ext φ=>obtain⟨p,⟨o,e⟩,s⟩:=x;exact⟨s _ _ p λo q=>k _ _ (.inl rfl) q,⟨o,k _ _ (.inl rfl) e⟩,s⟩
theorem D4.lt(x:D4 P w H h)(e:H a=a7 o):a<h.objs.size:=(x a o e).lt
theorem D4.fresh(x:D4 P w H h)(e:h.objs.size<=a):H a=a8:=by
 cases q:H a with
 |none=>rfl
 |some u=>exact t4 (G9 (x.lt q) e)<|G8 _
theorem D4.kept(x:D4 P w H h)(k:∀b u,h.get? b=a7 u->h'.get? b=a7 u):D4 P w H h':=λa o e =>
 (x a o e).stay (λb u _ q=>k b u q) (λ_ q=>q) λ_ _ q=>q
theorem D4.laid(x:D4 P w H h)(k:∀b u,h.get? b=a7 u->h'.get? b=a7 u)(hp:h.objs.size<=a)(n:bE P w (z5 H a o) h' a o):D4 P w (z5 H a o) h':=λb u e=>by have f:=x.fresh hp;by_cases d:b=a;subst d;rw[aK]at e;cases e;exact n;rw[ar d]at e;exact(x b u e).stay (λc v _ q=>k c v q) (λc q=>by rw[ar<|ad q f];exact q) λc xs q=>by rw[ar<|ad q f];exact q
end
def Rd(H:Hp)(a:d5)(u:HO):Prop:=H a=a7 u\/∃o,H a=a7 (.frz o u)
theorem Rd.ok(r:Rd H a u)(x:D4 P w H h):bE P w H h a u:=by
 rcases r with r|⟨o,r⟩
 exact x a u r;obtain⟨_,q⟩:=x a _ r;exact q
def ON:Option HO->Prop
 |some (.lst _)=>True
 |some (.dK _)=>True
 |some (.dT _)=>True
 |some (.set _ _)=>True
 |some (.ins _ _ _)=>True
 |some (.ext _)=>True
 |_=>False
section
variable{P:c9}{w:c8}{H:Hp}{h h':d7}{x e:d5}{o':HO}
theorem D4.write(ok:D4 P w H h)(m:ON (H x))(i:e=x\/H e=a7 (.own x))(k:∀b u,b≠e->h.get? b=a7 u->h'.get? b=a7 u)(o:∃u,h'.get? e=a7 u)(g:bE P w (z5 H x o') h' x o'):D4 P w (z5 H x o') h':=λb u q=>by
 have n:∀c y,H c=a7 (.own y)->c≠x:=λc y r z=>by subst z;rw[r]at m;exact m
 have p:∀c xs,H c=a7 (.tup xs)->c≠x:=λc xs r z=>by subst z;rw[r]at m;exact m
 by_cases d:b=x;subst d;rw[aK]at q;cases q;exact g;rw[ar d]at q;by_cases a:b=e;have j:H b=a7 (.own x):=by rcases i with z|z;exact t4 (a.trans z) d;rw[a];exact z
 rw[q]at j;cases j;obtain⟨v,l⟩:=o;exact⟨v,by rw[a];exact l⟩;refine(ok b u q).stay (λc v f r=>k c v ?_ r) (λc r=>by rw[ar<|n c b r];exact r) λc xs r=>by rw[ar<|p c xs r];exact r
 rcases f with rfl|f;exact a;rintro rfl;rcases i with z|z;exact n c b f z;rw[f]at z;cases z;exact d rfl
end
structure Un(fs ex:List d5)(H H':Hp)(h h':d7):Prop where
 keep:∀b o,h.get? b=a7 o->H b=a8->b∉fs->b∉ex->h'.get? b=a7 o
 slot:∀b o,h.get? b=a7 o->H b=a8->b∈fs->b∉ex->∃sl,h'.get? b=a7 { o with slots:=sl }
 free:∀b o,h.get? b=a7 o->H b=a8->b∉ex->H' b=a8
 there:∀b o,h.get? b=a7 o->b∉ex->∃o',h'.get? b=a7 o'
 tups:∀b xs,H b=a7 (.tup xs)->H' b=a7 (.tup xs)
 frzs:∀b o u,H b=a7 (.frz o u)->H' b=a7 (.frz o u)
 tbls:∀b ps,H b=a7 (.tbl ps)->∃more,H' b=a7 (.tbl<|ps++more)
section
variable{fs fs' ex ex':List d5}{H H1 H2:Hp}{h h1 h2 h':d7}{a x e:d5}{o:HO}
theorem Un.any(u:Un fs ex H H1 h h1)(q:h.get? b=a7 ob)(n:H b=a8)(x:b∉ex):∃sl,h1.get? b=a7 { ob with slots:=sl }:=by by_cases d:b∈fs;exact u.slot b ob q n d x;exact⟨ob.slots,u.keep b ob q n d x⟩
theorem Un.kept(k:∀b u,h.get? b=a7 u->h'.get? b=a7 u):Un fs ex H H h h':=⟨λb o q _ _ _=>k b o q,λb o q _ _ _=>⟨o.slots,k b o q⟩,λ_ _ _ n _=>n,λb o q _=>⟨o,k b o q⟩,λ_ _ q=>q,λ_ _ _ q=>q,λ_ ps q=>⟨#[],by rw[q];simp⟩⟩
theorem Un.refl:Un fs ex H H h h:=Un.kept λ_ _ q=>q
theorem Un.laid(k:∀b u,h.get? b=a7 u->h'.get? b=a7 u)(hp:h.objs.size<=a)(f:H a=a8):Un fs ex H (z5 H a o) h h' where
 keep:=λb u q _ _ _=>k b u q
 slot:=λb u q _ _ _=>⟨u.slots,k b u q⟩
 free:=λb u q n _=>by rw[ar<|A3<|G9 (A0 q) hp];exact n
 there:=λb u q _=>⟨u,k b u q⟩
 tups:=λb xs q=>by rw[ar<|ad q f];exact q
 frzs:=λb u xs q=>by rw[ar<|ad q f];exact q
 tbls:=λb ps q=>⟨#[],by rw[ar<|ad q f,q];simp⟩
theorem Un.write(m:ON (H x))(i:e=x\/H e=a7 (.own x))(k:∀b u,b≠e->h.get? b=a7 u->h'.get? b=a7 u)(c:∃u,h'.get? e=a7 u):Un fs ex H (z5 H x o) h h':=by
 have g:∀b,H b=a8->b≠x:=λb n z=>by subst z;rw[n]at m;exact m
 have f:∀b,H b=a8->b≠e:=λb n z=>by subst z;rcases i with r|r;exact g b n r;rw[n]at r;cases r
 have d:∀b u,H b=a7 u->¬ON (a7 u)->b≠x:=λb u q j z=>by subst z;rw[q]at m;exact j m
 refine⟨λb u q n _ _=>k b u (f b n) q,λb u q n _ _=>⟨u.slots,k b u (f b n) q⟩,λb u q n _=>by rw[ar<|g b n];exact n,λb u q _=>?_,λb xs q=>by rw[ar<|d b _ q λz=>z];exact q,λb u xs q=>by rw[ar<|d b _ q λz=>z];exact q,λb ps q=>⟨#[],by rw[ar<|d b _ q λz=>z,q];simp⟩⟩;by_cases a:b=e;subst a;exact c;exact⟨u,k b u a q⟩
end
noncomputable def trk(h:d7)(H:Hp):List d5:=(D3 h.objs.size).filter λa=>(H a).isSome
noncomputable def Cy(h:d7)(H:Hp):d7:=O9 h<|trk h H
theorem zM(h:d7)(H:Hp):(Cy h H).objs.size=h.objs.size:=PySem.W.hideAll_size _ _
theorem Cw(e:h.get? b=a7 o)(n:H b=a8):(Cy h H).get? b=a7 o:=PySem.W.hideAll_get _ e λd=>by have q:(H b).isSome=a9:=(Lk.mp d).2;rw[n]at q;simp at q
theorem Fh(e:(Cy h H).get? b=a7 o):h.get? b=a7 o/\H b=a8:=by
 have a:h.get? b=a7 o:=Q5 (trk h H) e;refine⟨a,?_⟩;cases q:H b with
 |none=>rfl
 |some x=>have d:b∈trk h H:=Lk.mpr ⟨Ix.mpr<|A0 a,by simp[q]⟩;have z:(Cy h H).get? b=a8:=PySem.W.hideAll_none (trk h H) d;rw[z]at e;cases e
noncomputable def GS(g h:d7)(L:d5):List (d5×d6):=(D3 h.objs.size).filterMap λa=>if a=L\/(g.get? a).isSome=a9 then a8 else(h.get? a).map λo=>(a,o)
noncomputable def aL(g h:d7)(L d:d5):List (d5×d6):=(GS g h L).filter λp=>decide<|p.1≠d
structure Mod(K:v6)(mg:c7->Option b7)(base:d7):Prop where
 kin:K.In base
 glob:base.Ns e7 mg
 blt:∃mb,base.Ns builtinsNs mb/\∀x:c7,x≠"__name__"->mb x=e8 x
 nolimit:base.NoLimit
/-- the context: a def's body (or a comprehension's block) running. base: fixed through the whole law;s₀,H₀: the entry;outer: the frames whose slots others may change (a def's callers);stack: all frames that run;
  ex: iterators that were made eI of the entry and are walked here (a comprehension's);fn: the names whose cells were made at the entry (a def: all;a comprehension's block: its own);calm: not cb an except suite;pn: pins that every state bears;xe: what is wanted of an exception that leaves the code -/
structure Cx where
 prog:c9
 w:c8
 K:v6
 mg:c7->Option b7
 base:d7
 A:f6
 N:List c7
 s₀:f7
 H₀:Hp
 env:Env
 outer:List Env
 stack:List Env
 ex:List d5
 fn:c7->Bool
 calm:Bool
 pn:List (d5×d6)
 xe:b7->f7->Prop
noncomputable def frs(l:List Env):List d5:=l.filterMap (·.frame)
noncomputable abbrev Cx.fs(X:Cx):List d5:=frs X.outer
def NA(c:f8)(x:c7):Prop:=c.names.lookup x=a7 .local\/c.names.lookup x=a7 .cell\/c.names.lookup x=a7 .free
def Ni(c:f8)(x:c7):Prop:=c.names.lookup x=a7 .local\/c.names.lookup x=a7 .cell
def Look(env:Env)(h:d7)(m:c7->Option b7)(x:c7)(u:b7):Prop:=(env.kindOf x=a7 .local/\m x=a7 u)\/((env.kindOf x=a7 .cell\/env.kindOf x=a7 .free)/\∃c,env.cells.lookup x=a7 c/\h.IsCell c (a7 u))
structure Cx.Ok(X:Cx):Prop where
 mod:Mod X.K X.mg X.base
 kind:X.env.scope.kind=.function
 glob:X.env.globals=e7
 blt:X.env.builtins=builtinsNs
 above:X.s₀.heap.objs.size<=X.env.locals
 inj:∀x y c,X.env.cells.lookup x=a7 c->X.env.cells.lookup y=a7 c->x=y
 has:∀x,(X.env.kindOf x=a7 .cell\/X.env.kindOf x=a7 .free)->∃c,X.env.cells.lookup x=a7 c
 cab:∀x c,X.fn x=a9->X.env.cells.lookup x=a7 c->X.s₀.heap.objs.size<=c
 hd:X.calm=a9->X.A.handled=a8
 frames:X.A.frames=a7 X.stack
 stk:X.stack=X.outer\/(X.stack=X.env::X.outer/\X.env.frame=a7 X.env.locals)
 exf:∀b∈X.ex,b≠X.env.locals/\∀x c,X.env.cells.lookup x=a7 c->c≠b
 bs:∀b o,X.base.get? b=a7 o->X.s₀.heap.get? b=a7 o/\X.H₀ b=a8
 bsz:X.base.objs.size<=X.s₀.heap.objs.size
 noex:∀b o,X.base.get? b=a7 o->b∉X.ex
 exfs:∀b∈X.ex,b∉X.fs
 funs:X.s₀.heap.FunFrames X.base X.outer
 frf:∀b∈X.fs,X.H₀ b=a8
structure u6(X:Cx)(pins:List (d5×d6))(σ:List (Option V))(H:Hp)(s:f7):Prop where
 ok:X.Ok
 os:s.os=X.s₀.os
 bare:f9 s.gens
 base:Un X.fs X.ex X.H₀ H X.s₀.heap s.heap
 loc:∃m,s.heap.Ns X.env.locals m/\∀(i:Nat) (x:c7) (v:V),X.N[i]?=a7 x->σ[i]?=a7 (a7 v)->NA X.env.scope x->∃u,aJ v u/\Look X.env s.heap m x u
 cell:∀x c,X.env.cells.lookup x=a7 c->∃v,s.heap.IsCell c v
 free:H X.env.locals=a8
 freeC:∀x c,X.env.cells.lookup x=a7 c->H c=a8
 pin:∀p∈X.pn++pins,s.heap.get? p.1=a7 p.2/\H p.1=a8/\p.1≠X.env.locals/\p.1∉X.fs/\∀v,p.2.data≠.cell v
 hok:D4 X.prog X.w H s.heap
 len:σ.length=X.N.length
section
variable{X:Cx}{pins:List (d5×d6)}{σ:List (Option V)}{H H':Hp}{s:f7}{h':d7}
theorem Cx.Ok.nofr(ok:X.Ok)(e:X.base.get? b=a7 o):b∉X.fs:=λd=>by have:=(ok.funs.mem d).1;rw[e]at this;cases this
theorem u6.bs(I:u6 X pins σ H s):∀b o,X.base.get? b=a7 o->s.heap.get? b=a7 o/\H b=a8:=λb o e =>
 ⟨I.base.keep b o (I.ok.bs b o e).1 (I.ok.bs b o e).2 (I.ok.nofr e)<|I.ok.noex b o e,I.base.free b o (I.ok.bs b o e).1 (I.ok.bs b o e).2<|I.ok.noex b o e⟩
theorem u6.bk(I:u6 X pins σ H s):∀b o,X.base.get? b=a7 o->s.heap.get? b=a7 o:=λb o e=>(I.bs b o e).1
theorem u6.mod(I:u6 X pins σ H s):Mod X.K X.mg X.base:=I.ok.mod
theorem u6.kIn(I:u6 X pins σ H s):X.K.In s.heap:=I.ok.mod.kin.keeps I.bk
theorem u6.lt(I:u6 X pins σ H s):X.env.locals<s.heap.objs.size:=let ⟨_,hn,_⟩:=I.loc;hn.lt
theorem u6.sz(I:u6 X pins σ H s):X.s₀.heap.objs.size<=s.heap.objs.size:=H9 I.ok.above<|OW I.lt
theorem u6.nofs(I:u6 X pins σ H s)(h:s.heap.objs.size<=a):a∉X.fs:=λd=>by obtain⟨_,o,B,_⟩:=I.ok.funs.mem d;exact t4 (G9 (A0 B)<|H9 I.sz h)<|G8 _
theorem u6.cne(I:u6 X pins σ H s):∀x c,X.env.cells.lookup x=a7 c->c≠X.env.locals:=λx c e z=>by obtain⟨v,o,B,d⟩:=I.cell x c e;obtain⟨m,⟨o',es,i,a,h,_⟩,_⟩:=I.loc;rw[z,a]at B;cases B;rw[h]at d;cases d
theorem u6.funs(I:u6 X pins σ H s):s.heap.FunFrames X.base X.outer:=by
 have a:∀(l:List Env),(∀b∈frs l,b∈X.fs)->X.s₀.heap.FunFrames X.base l->s.heap.FunFrames X.base l:=by
  intro l;induction l with
  |nil=>intro _ _;trivial
  |cons env r j=>intro hs g;obtain⟨k,⟨L,o,f,n,B,c⟩,i⟩:=g;have h:L∈X.fs:=hs L (by unfold frs;rw[Nu,f];exact Fn);obtain⟨m,e⟩:=I.base.slot L o B (I.ok.frf L h) h λz=>I.ok.exfs L z h;exact⟨k,⟨L,_,f,n,e,c⟩,j (λb d=>hs b<|by unfold frs;rw[Nu,f];exact D0 _ d) i⟩
 exact a X.outer (λ_ d=>d) I.ok.funs
theorem u6.stack(I:u6 X pins σ H s):s.heap.FunFrames X.base X.stack:=by
 rcases I.ok.stk with e|⟨e,f⟩
 rw[e];exact I.funs;rw[e];obtain⟨m,n,_⟩:=I.loc;refine .cons (by rw[I.ok.kind];decide) f n ?_ I.funs;exact Heap.get?_none_of_le<|H9 I.ok.bsz I.ok.above
theorem u6.stkSub(I:u6 X pins σ H s):∀b∈frs X.stack,b∈X.env.locals::X.fs:=λb d=>by
 rcases I.ok.stk with e|⟨e,f⟩
 rw[e]at d;exact D0 _ d;rw[e]at d;unfold frs at d;rw[Nu,f]at d;exact d
theorem u6.stkFree(I:u6 X pins σ H s):∀b∈frs X.stack,H b=a8:=λb d=>by rcases A4.mp (I.stkSub b d)with e|d;rw[e];exact I.free;obtain⟨_,o,B,_⟩:=I.ok.funs.mem d;exact I.base.free b o B (I.ok.frf b d) λz=>I.ok.exfs b z d
theorem u6.step{g':Array GenState}{t':Nat}{d':Drawn}{ch:List d5}(I:u6 X pins σ H s)(a:∀b∈ch,(b∈X.ex\/X.s₀.heap.objs.size<=b)/\b≠X.env.locals/\(∀x c,X.env.cells.lookup x=a7 c->c≠b)/\∀p∈X.pn++pins,p.1≠b)(g:∀b o,b≠X.env.locals->b∉X.fs->b∉ch->s.heap.get? b=a7 o->H b=a8->h'.get? b=a7 o)(slot:∀b o,b≠X.env.locals->b∈X.fs->b∉ch->s.heap.get? b=a7 o->H b=a8->∃sl,h'.get? b=a7 { o with slots:=sl }) (f:∀b o,b∉ch->s.heap.get? b=a7 o->H b=a8->H' b=a8)(A:∀b o,b∉ch->s.heap.get? b=a7 o->∃o',h'.get? b=a7 o')(G:∀b xs,H b=a7 (.tup xs)->H' b=a7 (.tup xs)) (E:∀b o u,H b=a7 (.frz o u)->H' b=a7 (.frz o u)) (F:∀b ps,H b=a7 (.tbl ps)->∃more,H' b=a7 (.tbl<|ps++more))(ns:∀m,s.heap.Ns X.env.locals m->h'.Ns X.env.locals m) (K:D4 X.prog X.w H' h') (R:f9 g') :
  u6 X pins σ H' { s with heap:=h',gens:=g',drawn:=d',toks:=t' }:=by
 have L:∀b o,X.s₀.heap.get? b=a7 o->b≠X.env.locals:=λb o e=>A3<|G9 (A0 e) I.ok.above;have C:∀b o,X.s₀.heap.get? b=a7 o->b∉X.ex->b∉ch:=λb o e h y=>by rcases(a b y).1 with z|z;exact h z;exact t4 (G9 (A0 e) z)<|G8 _
 have cellK:∀x c,X.env.cells.lookup x=a7 c->∀v,s.heap.IsCell c v->h'.IsCell c v:=λx c e v ⟨o,B,J⟩=>by have j:c∉ch:=λz=>(a c z).2.2.1 x c e rfl;by_cases N:c∈X.fs;obtain⟨sl,q⟩:=slot c o (I.cne x c e) N j B<|I.freeC x c e;exact⟨_,q,J⟩;exact⟨o,g c o (I.cne x c e) N j B<|I.freeC x c e,J⟩
 refine⟨I.ok,I.os,R,⟨λb o e n y h=>?_,λb o e n y h=>?_,λb o e n h=>?_,λb o e h=>?_,λb xs e=>G b xs<|I.base.tups b xs e,λb o xs e=>E b o xs<|I.base.frzs b o xs e,λb ps e=>?_⟩,?_,λx c e=>?_,?_,λx c e=>?_,λp hp=>?_,K,I.len⟩;exact g b o (L b o e) y (C b o e h) (I.base.keep b o e n y h)<|I.base.free b o e n h;obtain⟨sl,t⟩:=I.base.slot b o e n y h;obtain⟨M,D⟩:=slot b _ (L b o e) y (C b o e h) t<|I.base.free b o e n h;exact⟨M,D⟩;obtain⟨o',t⟩:=I.base.there b o e h;exact f b o' (C b o e h) t<|I.base.free b o e n h;obtain⟨o',t⟩:=I.base.there b o e h;exact A b o' (C b o e h) t;obtain⟨U,t⟩:=I.base.tbls b ps e;obtain⟨V,D⟩:=F b _ t;exact⟨U++V,by rw[D,Array.append_assoc]⟩;obtain⟨m,T,S⟩:=I.loc;refine⟨m,ns m T,λi x v t D Q=>?_⟩;obtain⟨u,r,l⟩:=S i x v t D Q;refine⟨u,r,?_⟩;rcases l with l|⟨k,c,e,z⟩
 exact .inl l;exact .inr ⟨k,c,e,cellK x c e _ z⟩;obtain⟨v,z⟩:=I.cell x c e;exact⟨v,cellK x c e v z⟩;obtain⟨m,⟨o,_,_,B,_⟩,_⟩:=I.loc;exact f _ o (λz=>(a _ z).2.1 rfl) B I.free;obtain⟨v,o,B,J⟩:=I.cell x c e;exact f c o (λz=>(a c z).2.2.1 x c e rfl) B<|I.freeC x c e;obtain⟨e,n,O,P,d⟩:=I.pin p hp;have j:p.1∉ch:=λz=>(a p.1 z).2.2.2 p hp rfl;exact⟨g p.1 p.2 O P j e n,f p.1 p.2 j e n,O,P,d⟩
theorem u6.un{t':Nat}(I:u6 X pins σ H s)(u:Un X.fs [] H H' s.heap h')(K:D4 X.prog X.w H' h'):u6 X pins σ H' { s with heap:=h',toks:=t' }:=by obtain⟨m,⟨o,es,i,B,r⟩,_⟩:=id I.loc;obtain⟨l,L⟩:=u.any B I.free (by simp);exact I.step (g':=s.gens) (d':=s.drawn) (ch:=[]) (λ_ z=>nomatch z) (λb o _ h _ e n=>u.keep b o e n h<|by simp) (λb o _ h _ e n=>u.slot b o e n h<|by simp) (λb o _ e n=>u.free b o e n<|by simp) (λb o _ e=>u.there b o e<|by simp) u.tups u.frzs u.tbls (λg f=>by obtain⟨o',d,c,a,r'⟩:=f;rw[B]at a;cases a;exact⟨_,d,c,L,r'⟩) K I.bare
theorem u6.call{g':Array GenState}{t':Nat}{d':Drawn}{ch:List d5}(I:u6 X pins σ H s)(u:Un (frs X.stack) ch H H' s.heap h')(K:D4 X.prog X.w H' h')(R:f9 g')(a:∀b∈ch,(b∈X.ex\/X.s₀.heap.objs.size<=b)/\b≠X.env.locals/\(∀x c,X.env.cells.lookup x=a7 c->c≠b)/\∀p∈X.pn++pins,p.1≠b):u6 X pins σ H' { s with heap:=h',gens:=g',drawn:=d',toks:=t' }:=by obtain⟨m,⟨o,es,k,B,r⟩,_⟩:=id I.loc;obtain⟨q,L⟩:=u.any B I.free λz=>(a _ z).2.1 rfl;exact I.step (ch:=ch) a (λb o L i f e n=>u.keep b o e n (λz=>(A4.mp<|I.stkSub b z).elim L i) f) (λb o _ _ f e n=>u.any e n f) (λb o f e n=>u.free b o e n f) (λb o f e=>u.there b o e f) u.tups u.frzs u.tbls (λl j=>by obtain⟨o',g,d,h,r'⟩:=j;rw[B]at h;cases h;exact⟨_,g,d,L,r'⟩) K R
theorem u6.turned{t':Nat}{it:d5}(I:u6 X pins σ H s)(k:∀b o,b≠it->s.heap.get? b=a7 o->h'.get? b=a7 o)(j:H it=a8)(h:it≠X.env.locals)(h1:it∈X.ex\/X.s₀.heap.objs.size<=it) (h2:∀x c,X.env.cells.lookup x=a7 c->c≠it) (a:∀p∈X.pn++pins,p.1≠it):u6 X pins σ H { s with heap:=h',toks:=t' }:=by
 have t:∀b u,H b=a7 u->b≠it:=λb u e z=>by rw[z,j]at e;cases e
 refine I.step (g':=s.gens) (d':=s.drawn) (ch:=[it]) (λb d=>?_) (λb o _ _ f e _=>k b o (λz=>f<|by simp[z]) e) (λb o _ _ f e _=>⟨o.slots,k b o (λz=>f<|by simp[z]) e⟩) (λ_ _ _ _ n=>n) (λb o f e=>⟨o,k b o (λz=>f<|by simp[z]) e⟩) (λ_ _ e=>e) (λ_ _ _ e=>e) (λb ps e=>⟨#[],by rw[e];simp⟩) (λm g=>?_) (λb u e=>?_) I.bare;have e:b=it:=by simpa using d
 subst e;exact⟨h1,h,h2,a⟩;obtain⟨o,es,i,B,r⟩:=g;exact⟨o,es,i,k _ o (A1 h) B,r⟩;refine(I.hok b u e).stay (λc v f q=>k c v ?_ q) (λ_ q=>q) λ_ _ q=>q;rcases f with z|z;rw[z];exact t b u e;exact t c _ z
theorem u6.tok(I:u6 X pins σ H s)(t:Nat):u6 X pins σ H { s with toks:=t }:=I.un (h':=s.heap) (t':=t) Un.refl I.hok
theorem u6.kept(I:u6 X pins σ H s)(k:∀b u,s.heap.get? b=a7 u->h'.get? b=a7 u):u6 X pins σ H { s with heap:=h',toks:=t' }:=I.un (Un.kept k)<|I.hok.kept k
theorem u6.laid(I:u6 X pins σ H s)(k:∀b u,s.heap.get? b=a7 u->h'.get? b=a7 u)(hp:s.heap.objs.size<=a)(n:bE X.prog X.w (z5 H a o) h' a o):u6 X pins σ (z5 H a o) { s with heap:=h',toks:=t' }:=I.un (Un.laid k hp<|I.hok.fresh hp)<|I.hok.laid k hp n
theorem u6.write(I:u6 X pins σ H s)(m:ON (H x))(i:e=x\/H e=a7 (.own x))(k:∀b u,b≠e->s.heap.get? b=a7 u->h'.get? b=a7 u)(h:∃u,h'.get? e=a7 u)(n:bE X.prog X.w (z5 H x o) h' x o):u6 X pins σ (z5 H x o) { s with heap:=h',toks:=t' }:=I.un (Un.write m i k h)<|I.hok.write m i k h n
theorem u6.pins_of(I:u6 X pins σ H s)(h:∀p∈pins',s.heap.get? p.1=a7 p.2/\H p.1=a8/\p.1≠X.env.locals/\p.1∉X.fs/\∀v,p.2.data≠.cell v):u6 X pins' σ H s:=⟨I.ok,I.os,I.bare,I.base,I.loc,I.cell,I.free,I.freeC,λp hp=>(I9.mp hp).elim (λz=>I.pin p<|NQ _ z)<|h p,I.hok,I.len⟩
theorem oN{N:List c7}(h:N.Nodup){i j:Nat}{x:c7}(a:N[i]?=a7 x)(b:N[j]?=a7 x):i=j:=by obtain⟨h1,t⟩:=A5.mp a;obtain⟨h2,l⟩:=A5.mp b;exact(List.getElem_inj h).mp<|t.trans l.symm
theorem yr{M:Model}{A:f6}{E:b7->f7->Prop}{i:Nat}{x:c7}{v:V}{u:b7}{Q:Unit->f7->Prop}(I:u6 X pins σ H s)(hN:X.N.Nodup)(hi:X.N[i]?=a7 x)(l:Ni X.env.scope x)(r:aJ v u)(h:∀s',u6 X pins (σ.set i<|a7 v) H s'->(∃a,J6 a s.heap s'.heap/\(a=X.env.locals\/X.env.cells.lookup x=a7 a))->Q () s') (hf:X.fn x=a9\/X.env.scope.names.lookup x=a7 .local:=by first|exact .inl rfl|exact .inr rfl|assumption):ge M A (storeName X.env x u) Q E s:=by
 obtain⟨m,hn,hl⟩:=id I.loc;have R:(X.env.scope.kind==.class||(X.env.scope.kind==.module&&X.env.locals != X.env.globals))=bt:=by rw[I.ok.kind];rfl
 have D:i<σ.length:=by rw[I.len];exact(A5.mp hi).1
 have G:=I.cne;have f:∀{a:d5}{h':d7},(∃o,s.heap.get? a=a7 o/\H a=a8)->J6 a s.heap h'->D4 X.prog X.w H h':=λ{a h'} ha hs b ob e=>by obtain⟨_,_,B⟩:=ha;refine(I.hok b ob e).stay (λc Y g q=>(hs.2 c ?_).trans q) (λ_ q=>q) λ_ _ q=>q;rintro rfl;rcases g with rfl|g;rw[B]at e;cases e;rw[B]at g;cases g
 rcases l with F|F;refine wpAny_storeName_local F hn (λh' ab hs=>?_) R;obtain⟨oL,_,_,ai,_⟩:=id hn;refine h _ ⟨I.ok,I.os,I.bare,⟨λb o e n J l=>?_,λb o e n J l=>?_,I.base.free,λb o e l=>?_,I.base.tups,I.base.frzs,I.base.tbls⟩,⟨_,ab,λj y v' t C Z=>?_⟩,λy c e=>?_,I.free,I.freeC,λp hp=>?_,f ⟨oL,ai,I.free⟩ hs,by simpa using I.len⟩ ⟨_,hs,.inl rfl⟩;exact(hs.2 b<|A3<|G9 (A0 e) I.ok.above).trans<|I.base.keep b o e n J l;obtain⟨sl,t⟩:=I.base.slot b o e n J l;exact⟨sl,(hs.2 b<|A3<|G9 (A0 e) I.ok.above).trans t⟩;obtain⟨o',t⟩:=I.base.there b o e l;exact⟨o',(hs.2 b<|A3<|G9 (A0 e) I.ok.above).trans t⟩;by_cases L:j=i;subst L;rw[hi]at t;cases t;rw[LF D]at C;cases C;exact⟨u,r,.inl ⟨F,by simp⟩⟩;rw[Lv<|A1 L]at C;obtain⟨u',r',q⟩:=hl j y v' t C Z;refine⟨u',r',?_⟩;rcases q with⟨k,e⟩|⟨k,c,e,z⟩
 refine .inl ⟨k,?_⟩;have:y≠x:=λe=>L<|oN hN t<|e ▸ hi;simp[this,e];exact .inr ⟨k,c,e,z.sameBut hs<|G y c e⟩;obtain⟨Y,z⟩:=I.cell y c e;exact⟨Y,z.sameBut hs<|G y c e⟩;obtain⟨e,n,W,nf,d⟩:=I.pin p hp;exact⟨(hs.2 p.1 W).trans e,n,W,nf,d⟩;have K:X.fn x=a9:=by rcases hf with z|z;exact z;rw[z]at F;cases F
 obtain⟨c,g⟩:=I.ok.has x<|.inl F;obtain⟨Y,z⟩:=I.cell x c g;refine wpAny_storeName_cell I.ok.kind F g z<|λh' O hs=>?_;obtain⟨oc,S,T⟩:=id z;refine h { s with heap:=h' } ⟨I.ok,I.os,I.bare,⟨λb o e n J l=>?_,λb o e n J l=>?_,I.base.free,λb o e l=>?_,I.base.tups,I.base.frzs,I.base.tbls⟩,⟨m,hn.sameBut hs<|A1<|G x c g,λj y v' t C Z=>?_⟩,λy U e=>?_,I.free,I.freeC,λp hp=>?_,f ⟨oc,S,I.freeC x c g⟩ hs,by simpa using I.len⟩ ⟨c,hs,.inr g⟩;exact(hs.2 b<|A3<|G9 (A0 e)<|I.ok.cab x c K g).trans<|I.base.keep b o e n J l;obtain⟨sl,t⟩:=I.base.slot b o e n J l;exact⟨sl,(hs.2 b<|A3<|G9 (A0 e)<|I.ok.cab x c K g).trans t⟩;obtain⟨o',t⟩:=I.base.there b o e l;exact⟨o',(hs.2 b<|A3<|G9 (A0 e)<|I.ok.cab x c K g).trans t⟩;by_cases L:j=i;subst L;rw[hi]at t;cases t;rw[LF D]at C;cases C;exact⟨u,r,.inr ⟨.inl F,c,g,O⟩⟩;rw[Lv<|A1 L]at C;obtain⟨u',r',q⟩:=hl j y v' t C Z;refine⟨u',r',?_⟩;rcases q with q|⟨k,U,e,z'⟩
 exact .inl q;refine .inr ⟨k,U,e,z'.sameBut hs ?_⟩;rintro rfl;exact L<|oN hN t<|I.ok.inj _ _ _ e g ▸ hi;by_cases P:U=c;subst P;exact⟨_,O⟩;obtain⟨w2,z2⟩:=I.cell y U e;exact⟨w2,z2.sameBut hs P⟩;obtain⟨e,n,W,nf,d⟩:=I.pin p hp;refine⟨(hs.2 p.1 ?_).trans e,n,W,nf,d⟩;intro q;rw[q,S]at e;have q':oc=p.2:=C7 e;exact d Y<|by rw[<-q'];exact T
theorem iq(I:u6 X pins σ H s)(b:X.N.Nodup)(hi:X.N[i]?=a7 x)(c:Ni X.env.scope x)(r:aJ v u)(h:∀s',u6 X pins (σ.set i<|a7 v) H s'->Q () s') (f:X.fn x=a9\/X.env.scope.names.lookup x=a7 .local:=by first|exact .inl rfl|exact .inr rfl|assumption):ge M A (storeName X.env x u) Q E s:=yr I b hi c r (λs' a _=>h s' a) f
theorem u6.call'(I:u6 X pins σ H s)(B:s'.os=s.os)(u:Un (frs X.stack) ch H H' s.heap s'.heap)(K:D4 X.prog X.w H' s'.heap)(R:f9 s'.gens)(a:∀b∈ch,(b∈X.ex\/X.s₀.heap.objs.size<=b)/\b≠X.env.locals/\(∀x c,X.env.cells.lookup x=a7 c->c≠b)/\∀p∈X.pn++pins,p.1≠b):u6 X pins σ H' s':=by obtain⟨h',g',d',t',o'⟩:=s';have e:o'=s.os:=B;subst e;exact I.call (g':=g') (t':=t') (d':=d') u K R a
end
abbrev XK:=b7->Option d5->Hp->Prop
noncomputable abbrev St:=List<|Option V
abbrev VK:=V->Hp->Prop
abbrev TE:=St->Hp->VK->Prop
abbrev TT:=St->Hp->(Bool->Hp->Prop)->Prop
abbrev TA:=St->Hp->(List V->Hp->Prop)->Prop
structure Ends where
 nx:St->Hp->Prop
 rt:VK
 bk:St->Hp->Prop:=λ_ _=>False
 ct:St->Hp->Prop:=λ_ _=>False
abbrev TS:=Ends->St->Hp->Prop
inductive EP(X:Cx)(pins:List (d5×d6))(σ:St)(Q:VK)(u:b7)(s':f7):Prop
 |mk (v:_) (H':_) (f0:u6 X pins σ H' s') (f1:aJ v u) (f2:Q v H')
inductive TP(X:Cx)(pins:List (d5×d6))(σ:St)(Q:Bool->Hp->Prop)(b:Bool)(s':f7):Prop
 |mk (H':_) (f0:u6 X pins σ H' s') (f1:Q b H')
inductive AP(X:Cx)(pins:List (d5×d6))(σ:St)(Q:List V->Hp->Prop)(us:List b7)(s':f7):Prop
 |mk (vs:_) (H':_) (f0:u6 X pins σ H' s') (f1:aw vs us) (f2:Q vs H')
def SP(X:Cx)(pins:List (d5×d6))(D:Ends)(f:Flow)(s':f7):Prop:=match f with
 |.next=>∃a H',u6 X pins a H' s'/\D.nx a H'
 |.brk=>∃a H',u6 X pins a H' s'/\D.bk a H'
 |.cont=>∃a H',u6 X pins a H' s'/\D.ct a H'
 |.ret u=>∃v a H',u6 X pins a H' s'/\aJ v u/\D.rt v H'
def PE(X:Cx)(e:g7)(t:TE):Prop:=∀(p:List (d5×d6)) (s:f7) (σ:St) (H:Hp) (Q:VK),u6 X p σ H s->t σ H Q->ge (g9 X.prog X.w) X.A (eval e X.env) (EP X p σ Q) X.xe s
def PT(X:Cx)(e:g7)(t:TT):Prop:=∀(p:List (d5×d6)) (s:f7) (σ:St) (H:Hp) (Q:Bool->Hp->Prop),u6 X p σ H s->t σ H Q->ge (g9 X.prog X.w) X.A (isTrue e X.env<|eval e X.env) (TP X p σ Q) X.xe s
def PW(X:Cx)(e:g7)(t:TT):Prop:=∀(a:Sem b7) (p:List (d5×d6)) (s:f7) (σ:St) (H:Hp) (Q:Bool->Hp->Prop),u6 X p σ H s->t σ H Q->ge (g9 X.prog X.w) X.A (isTrue e X.env a) (TP X p σ Q) X.xe s
theorem PW.pt(h:PW X e t):PT X e t:=h _
def PA(X:Cx)(es:List g7)(t:TA):Prop:=∀(a:i3) (p:List (d5×d6)) (s:f7) (σ:St) (H:Hp) (Q:List V->Hp->Prop),u6 X p σ H s->t σ H Q->ge (g9 X.prog X.w) X.A (spliced<|i4 a<|i5 es X.env) (AP X p σ Q) X.xe s
def PS(X:Cx)(st:i6)(t:TS):Prop:=∀(p:List (d5×d6)) (s:f7) (σ:St) (H:Hp) (D:Ends),u6 X p σ H s->t D σ H->ge (g9 X.prog X.w) X.A (exec st X.env) (SP X p D) X.xe s
def K5(X:Cx)(st:List i6)(t:TS):Prop:=∀(p:List (d5×d6)) (s:f7) (σ:St) (H:Hp) (D:Ends),u6 X p σ H s->t D σ H->ge (g9 X.prog X.w) X.A (execs st X.env) (SP X p D) X.xe s
theorem x6{α:Type}{t:Sem α}{Q Q':α->f7->Prop}{M:Model}{A:f6}{E:b7->f7->Prop}{s:f7}(h:ge M A t Q E s)(b:∀a s,Q a s->Q' a s):ge M A t Q' E s:=G3 h b λ_ _ x=>x
section
variable{X:Cx}
def tVar(i:Nat):TE:=λσ H Q=>∃v,σ[i]?=a7 (a7 v)/\Q v H
def tC(v:V):TE:=λ_ H Q=>Q v H
theorem DB(g:X.N[i]?=a7 x)(t:NA X.env.scope x)(b:(x==("__debug__":c7))=bt:=by decide)(d:(x==("__classdict__":c7))=bt:=by decide):PE X (.Name x pos) (tVar i):=by
 intro p s σ H Q I h;obtain⟨v,e,h⟩:=h;obtain⟨m,q,j⟩:=I.loc;obtain⟨u,r,l⟩:=j i x v g e t;have n:EP X p σ Q u s:=⟨v,H,I,r,h⟩
 rcases l with⟨k,o⟩|⟨k,c,f,a⟩
 exact wpAny_Name (wpAny_loadName_local I.ok.kind k q o n) b;rcases k with k|k;exact wpAny_Name (wpAny_loadName_cell I.ok.kind k f a n) b;exact wpAny_Name (wpAny_loadName_free I.ok.kind k f a n d) b
theorem Ip{i j pos}:PE X (.Constant (.int i) j pos) (tC<|.int i):=λ_ _ _ H _ I h=>wpAny_Constant_int ⟨.int i,H,I.tok _,⟨_,rfl⟩,h⟩
theorem pe_bl{b j pos}:PE X (.Constant (.bool b) j pos) (tC<|.bl b):=λ_ _ _ H _ I h=>Constant_bool ⟨.bl b,H,I,rfl,h⟩
theorem Im{j pos}:PE X (.Constant .none j pos) (tC .non):=λ_ _ _ H _ I h=>Constant_none ⟨.non,H,I,rfl,h⟩
theorem Ij{x j pos}:PE X (.Constant (.str x) j pos) (tC<|.str x):=λ_ _ _ H _ I h=>Calls.Constant_str ⟨.str x,H,I.tok _,⟨_,rfl⟩,h⟩
def Gl(X:Cx)(x:c7):Prop:=X.env.kindOf x=a7 .globalImplicit
theorem gM(I:u6 X pins σ H s)(R:Gl X x)(m:X.mg x=a7 u)(h:Q u s)(d:(x==("__debug__":c7))=bt:=by decide):ge (g9 X.prog X.w) X.A (eval (.Name x pos) X.env) Q E s:=Calls.Name_function_global I.ok.kind R (Calls.loadGlobal_global (by rw[I.ok.glob];exact I.mod.glob.keeps I.bk) m h) d
theorem lV(I:u6 X pins σ H s)(R:Gl X x)(m:X.mg x=a8)(c:e8 x=a7 u)(h:Q u s)(f:x≠"__name__":=by decide) (d:(x==("__debug__":c7))=bt:=by decide):ge (g9 X.prog X.w) X.A (eval (.Name x pos) X.env) Q E s:=by obtain⟨mb,h1,h2⟩:=I.mod.blt;exact Calls.Name_function_global I.ok.kind R (Calls.loadGlobal_builtin (by rw[I.ok.glob];exact I.mod.glob.keeps I.bk) m (by rw[I.ok.blt];exact h1.keeps I.bk) ((h2 x f).trans c) h) d
theorem ET(R:Gl X x)(m:X.mg x=a7 u)(r:aJ v u)(d:(x==("__debug__":c7))=bt:=by decide):PE X (.Name x pos) (tC v):=λ_ _ _ H _ I h=>gM I R m ⟨v,H,I,r,h⟩ d
theorem yJ(R:Gl X x)(m:X.mg x=a8)(c:e8 x=a7 u)(r:aJ v u)(f:x≠"__name__":=by decide)(d:(x==("__debug__":c7))=bt:=by decide):PE X (.Name x pos) (tC v):=λ_ _ _ H _ I h=>lV I R m c ⟨v,H,I,r,h⟩ f d
variable{a b:g7}{ta tb:TE}{pos:i3}
theorem aJ.none_iff(r:aJ x v):(v==J2)=decide (x=.non):=by
 cases x with
 |non=>cases r;rfl
 |bl _=>cases r;rfl
 |int _=>obtain⟨t,rfl⟩:=r;rfl
 |str _=>obtain⟨t,rfl⟩:=r;rfl
 |byt _=>obtain⟨t,rfl⟩:=r;rfl
 |flt _=>obtain⟨t,rfl⟩:=r;rfl
 |ref _=>cases r;rfl
 |ty _=>cases r;rfl
def tB(t:TE):TT:=λσ H Q=>t σ H λx H1=>∃c,x=.bl c/\Q c H1
theorem HY(h:PE X e t)(i:∀whole,isTrue e X.env whole=(do let v <-whole;standAt e.pos;i7 [v] (truthy v)):=by intro _;rfl):PT X e (tB t):=by intro p s σ H Q I w;refine isTrue_plain (x6 (h p s σ H _ I w) ?_)<|i _;rintro v c ⟨x,H1,a,r,b⟩;obtain⟨d,rfl,q⟩:=b;cases r;exact NO ⟨H1,a,q⟩
variable{tA tB':TT}{aL:List g7}
def tAnd(t u:TT):TT:=λσ H Q=>t σ H λc H1=>if c=a9 then u σ H1 Q else Q bt H1
def tOr(t u:TT):TT:=λσ H Q=>t σ H λc H1=>if c=a9 then Q a9 H1 else u σ H1 Q
def tNot(t:TT):TT:=λσ H Q=>t σ H λc H1=>Q (!c) H1
theorem EG(f:PT X a tA):PW X (.BoolOp .And [a] pos) tA:=by
 intro w p s σ H Q I h;refine isTrue_and<|x6 (f p s σ H Q I h) λc b e=>?_;cases c with
 |true=>exact isTrue_and_nil e
 |false=>exact e
theorem HR(f:PT X a tA):PW X (.BoolOp .Or [a] pos) tA:=by
 intro w p s σ H Q I h;refine isTrue_or<|x6 (f p s σ H Q I h) λc b e=>?_;cases c with
 |false=>exact isTrue_or_nil e
 |true=>exact e
theorem HV(f:PT X a tA)(e:PW X (.BoolOp .And (b::aL) pos) tB'):PW X (.BoolOp .And (a::b::aL) pos) (tAnd tA tB'):=by
 intro w p s σ H Q I h;refine isTrue_and<|x6 (f p s σ H _ I h) ?_;rintro c g ⟨H1,d,q⟩;cases c with
 |true=>exact e w p g σ H1 Q d q
 |false=>exact⟨H1,d,q⟩
theorem pw_or(f:PT X a tA)(e:PW X (.BoolOp .Or (b::aL) pos) tB'):PW X (.BoolOp .Or (a::b::aL) pos) (tOr tA tB'):=by
 intro w p s σ H Q I h;refine isTrue_or<|x6 (f p s σ H _ I h) ?_;rintro c g ⟨H1,d,q⟩;cases c with
 |true=>exact⟨H1,d,q⟩
 |false=>exact e w p g σ H1 Q d q
theorem HZ(f:PT X a tA):PT X (.UnaryOp .Not a pos) (tNot tA):=by intro p s σ H Q I h;refine isTrue_not<|x6 (f p s σ H (λc H1=>Q (!c) H1) I h) ?_;rintro c d ⟨H1,b,q⟩;exact⟨H1,b,q⟩
def tAndV(a b:TE):TE:=λσ H Q=>a σ H λx H1=>∃c,x=.bl c/\if c=a9 then b σ H1 Q else Q (.bl bt) H1
def tOrV(a b:TE):TE:=λσ H Q=>a σ H λx H1=>∃c,x=.bl c/\if c=a9 then Q (.bl a9) H1 else b σ H1 Q
def tNotV(a:TE):TE:=λσ H Q=>a σ H λx H1=>∃c,x=.bl c/\Q (.bl<|!c) H1
theorem Ik{op}(h:PE X a t):PE X (.BoolOp op [a] pos) t:=λp s σ H Q I w=>BoolOp_one<|h p s σ H Q I w
theorem Iu(f:PE X a ta)(e:PE X (.BoolOp .And (b::aL) pos) tb):PE X (.BoolOp .And (a::b::aL) pos) (tAndV ta tb):=by
 intro p s σ H Q I h;refine BoolOp_and<|x6 (f p s σ H _ I h) ?_;rintro v g ⟨x,H1,d,r,q⟩;obtain⟨c,rfl,q⟩:=q;cases r;refine NO ?_;cases c with
 |true=>exact e p g σ H1 Q d q
 |false=>exact⟨.bl bt,H1,d,rfl,q⟩
theorem pe_or(f:PE X a ta)(e:PE X (.BoolOp .Or (b::aL) pos) tb):PE X (.BoolOp .Or (a::b::aL) pos) (tOrV ta tb):=by
 intro p s σ H Q I h;refine BoolOp_or<|x6 (f p s σ H _ I h) ?_;rintro v g ⟨x,H1,d,r,q⟩;obtain⟨c,rfl,q⟩:=q;cases r;refine NO ?_;cases c with
 |false=>exact e p g σ H1 Q d q
 |true=>exact⟨.bl a9,H1,d,rfl,q⟩
theorem Il(f:PE X a ta):PE X (.UnaryOp .Not a pos) (tNotV ta):=by intro p s σ H Q I h;refine UnaryOp_<|x6 (f p s σ H _ I h) ?_;rintro v e ⟨x,H1,d,r,b⟩;obtain⟨c,rfl,b⟩:=b;cases r;exact not_of<|NO ⟨.bl<|!c,H1,d,rfl,b⟩
end
def J0(K:v6)(H:Hp)(a:d5)(xs:List V):Prop:=Rd H a (.lst xs) \/∃(o:d6) (its:Array b7) (n:Nat),K.lookup a=a7 o/\o.cls=.type "list"/\o.dict=a8/\o.data=.seq its n/\its.size<=sizeLine/\aw xs its.toList
def B9(K:v6)(H:Hp)(a:d5)(xs:List V):Prop:=Rd H a (.tup xs) \/∃(o:d6) (its:Array b7) (n:Nat),K.lookup a=a7 o/\o.cls=.type "tuple"/\o.dict=a8/\o.data=.seq its n/\its.size<=sizeLine/\aw xs its.toList
noncomputable def absV:b7->Option V
 |.none=>a7 .non
 |.bool b=>a7<|.bl b
 |.int i _=>a7<|.int i
 |.str x _=>a7<|.str x
 |.bytes b _=>a7<|.byt b
 |.float b _=>a7<|.flt b
 |.ref a=>a7<|.ref a
 |.type n=>a7<|.ty n
 |_=>a8
theorem aJ.abs(r:aJ x u):absV u=a7 x:=by
 cases x with
 |non=>cases r;rfl
 |bl _=>cases r;rfl
 |int _=>obtain⟨t,rfl⟩:=r;rfl
 |str _=>obtain⟨t,rfl⟩:=r;rfl
 |byt _=>obtain⟨t,rfl⟩:=r;rfl
 |flt _=>obtain⟨t,rfl⟩:=r;rfl
 |ref _=>cases r;rfl
 |ty _=>cases r;rfl
theorem aJ.inj(r:aJ x u)(q:aJ y u):x=y:=C7<|r.abs.symm.trans q.abs
theorem aw.inj(h:aw xs us)(h':aw ys us):xs=ys:=by
 induction h generalizing ys with
 |nil=>cases h';rfl
 |cons r t i=>cases h' with
  |cons r' t'=>rw[r.inj r',i t']
section
variable{X:Cx}{pins:List (d5×d6)}{σ:St}{H:Hp}{s:f7}{a:d5}{xs ys:List V}
theorem B9.of{K:v6}(h:H a=a7 (.tup xs)):B9 K H a xs:=.inl<|.inl h
theorem u6.list(I:u6 X pins σ H s)(h:J0 X.K H a xs):∃its:List b7,aw xs its/\PlainL s.heap a its.toArray/\xs.length<=sizeLine:=by
 rcases h with h|⟨o,its,n,k,f,d,hs,b,r⟩
 obtain⟨z,its,n,r,e⟩:=h.ok I.hok;exact⟨its,r,⟨_,n,e,rfl,rfl,rfl⟩,z⟩;refine⟨its.toList,r,⟨o,n,I.kIn a o k,f,d,by simpa using hs⟩,?_⟩;have e:=r.length;simp only[F9]at e;lia
theorem u6.tuple(I:u6 X pins σ H s)(h:B9 X.K H a xs):∃its:List b7,aw xs its/\IsTup s.heap a its.toArray/\xs.length<=sizeLine:=by
 rcases h with h|⟨o,its,n,k,f,_,hs,b,r⟩
 obtain⟨z,its,r,p⟩:=h.ok I.hok;exact⟨its,r,p.tup,z⟩;refine⟨its.toList,r,⟨o,I.kIn a o k,f,n,by simpa using hs⟩,?_⟩;have e:=r.length;simp only[F9]at e;lia
theorem u6.list_inj(I:u6 X pins σ H s)(h:J0 X.K H a xs)(h':J0 X.K H a ys):xs=ys:=by
 obtain⟨its,r,⟨o,n,e,_,_,d⟩,_⟩:=I.list h;obtain⟨i,r',⟨o',f,c,_,_,b⟩,_⟩:=I.list h';rw[e]at c;cases c;rw[d]at b;injection b with d1 _;have:its=i:=by simpa using t9 Array.toList d1
 subst this;exact r.inj r'
theorem u6.tuple_inj(I:u6 X pins σ H s)(h:B9 X.K H a xs)(h':B9 X.K H a ys):xs=ys:=by
 obtain⟨its,r,⟨o,e,_,n,d⟩,_⟩:=I.tuple h;obtain⟨i,r',⟨o',c,_,f,b⟩,_⟩:=I.tuple h';rw[e]at c;cases c;rw[d]at b;injection b with d1 _;have:its=i:=by simpa using t9 Array.toList d1
 subst this;exact r.inj r'
end
noncomputable abbrev Cx.wish(X:Cx)(E:b7->f7->Prop):Cx:={ X with xe:=E }
noncomputable abbrev Cx.nox(X:Cx):Cx:=X.wish λ_ _=>False
theorem Cx.Ok.wish{X:Cx}(ok:X.Ok)(E:b7->f7->Prop):(X.wish E).Ok:=⟨ok.mod,ok.kind,ok.glob,ok.blt,ok.above,ok.inj,ok.has,ok.cab,ok.hd,ok.frames,ok.stk,ok.exf,ok.bs,ok.bsz,ok.noex,ok.exfs,ok.funs,ok.frf⟩
theorem Cx.Ok.unwish{X:Cx}{E:b7->f7->Prop}(ok:(X.wish E).Ok):X.Ok:=⟨ok.mod,ok.kind,ok.glob,ok.blt,ok.above,ok.inj,ok.has,ok.cab,ok.hd,ok.frames,ok.stk,ok.exf,ok.bs,ok.bsz,ok.noex,ok.exfs,ok.funs,ok.frf⟩
section
variable{X:Cx}{pins:List (d5×d6)}{σ:St}{H:Hp}{s:f7}{E:b7->f7->Prop}
theorem u6.wish(I:u6 X pins σ H s)(E:b7->f7->Prop):u6 (X.wish E) pins σ H s:=⟨I.ok.wish E,I.os,I.bare,I.base,I.loc,I.cell,I.free,I.freeC,I.pin,I.hok,I.len⟩
theorem u6.unwish(I:u6 (X.wish E) pins σ H s):u6 X pins σ H s:=⟨I.ok.unwish,I.os,I.bare,I.base,I.loc,I.cell,I.free,I.freeC,I.pin,I.hok,I.len⟩
theorem SP.unwish(h:SP (X.wish E) pins D f s'):SP X pins D f s':=by
 cases f with
 |next=>obtain⟨a,H',I,q⟩:=h;exact⟨a,H',I.unwish,q⟩
 |brk=>obtain⟨a,H',I,q⟩:=h;exact⟨a,H',I.unwish,q⟩
 |cont=>obtain⟨a,H',I,q⟩:=h;exact⟨a,H',I.unwish,q⟩
 |ret u=>obtain⟨v,a,H',I,r,q⟩:=h;exact⟨v,a,H',I.unwish,r,q⟩
theorem K5.nox{st:List i6}{t:TS}(h:K5 X.nox st t):K5 X st t:=λp s σ H D I w =>
 G3 (h p s σ H D (I.wish _) w) (λ_ _ q=>q.unwish) λ_ _ z=>G5 z
end
section
variable{X:Cx}{st:i6}{aL:List i6}{t u:TS}{e:g7}{te:TE}{pos:i3}
def tNext:TS:=λD σ H=>D.nx σ H
def tSeq(t u:TS):TS:=λD σ H=>t { D with nx:=u D } σ H
theorem EL:K5 X [] tNext:=λ_ _ σ H _ I h=>On ⟨σ,H,I,h⟩
theorem By(h1:PS X st t)(h2:K5 X aL u):K5 X (st::aL) (tSeq t u):=by
 intro p s σ H D I h;refine Qd<|x6 (h1 p s σ H { D with nx:=u D } I h) λf c q=>?_;cases f with
 |next=>obtain⟨a,H',b,q⟩:=q;exact h2 p c a H' D b q
 |ret v=>exact q
 |brk=>exact q
 |cont=>exact q
theorem EK(h1:PS X st t):K5 X [st] t:=by
 intro p s σ H D I h;refine Qd<|x6 (h1 p s σ H D I h) λf c q=>?_;cases f with
 |next=>exact On q
 |ret v=>exact q
 |brk=>exact q
 |cont=>exact q
theorem u6.quiet(I:u6 X pins σ H s):interactive X.env=bt:=by simp[interactive,I.ok.kind]
def tDrop(te:TE):TS:=λD σ H=>te σ H λ_ H1=>D.nx σ H1
theorem EM(i:PE X e te)(hs:i8 e a8 pos.line X.env=pure bt:=by rfl):PS X (.Expr e pos) (tDrop te):=by intro p s σ H D I h;exact wpAny_Expr_any (x6 (i p s σ H _ I h) λv c ⟨x,H1,a,r,b⟩=>⟨σ,H1,a,b⟩) I.quiet hs
def tRet(te:TE):TS:=λD σ H=>te σ H D.rt
theorem Ib(i:PE X e te):PS X (.Return (a7 e) pos) (tRet te):=by intro p s σ H D I h;refine wpAny_Return_some<|x6 (i p s σ H _ I h) ?_;rintro v c ⟨x,H1,a,r,b⟩;exact⟨x,σ,H1,a,r,b⟩
def tIfS(c:TT)(t u:TS):TS:=λD σ H=>c σ H λb H1=>if b=a9 then t D σ H1 else u D σ H1
theorem ps_if(j:PT X c tc)(g:K5 X a t)(i:K5 X b u):PS X (.If c a b pos) (tIfS tc t u):=by
 intro p s σ H D I h;refine wpAny_If<|x6 (j p s σ H _ I h) ?_;rintro d f ⟨H1,e,q⟩;cases d with
 |true=>exact g p f σ H1 D e q
 |false=>exact i p f σ H1 D e q
end
abbrev TG:=V->St->Hp->(St->Hp->Prop)->Prop
abbrev OK:=List V->St->Hp->(St->Hp->Prop)->Prop
def PG(X:Cx)(a:g7)(t:TG):Prop:=∀(p:List (d5×d6)) (s:f7) (σ:St) (H:Hp) (v:V) (u:b7) (Q:St->Hp->Prop),u6 X p σ H s->aJ v u->t v σ H Q ->ge (g9 X.prog X.w) X.A (i9 a X.env u) (λ_ s'=>∃b H',u6 X p b H' s'/\Q b H') X.xe s
def OM(X:Cx)(b:List g7)(t:OK):Prop:=∀(p:List (d5×d6)) (s:f7) (σ:St) (H:Hp) (vs:List V) (us:List b7) (Q:St->Hp->Prop),u6 X p σ H s->aw vs us->t vs σ H Q ->ge (g9 X.prog X.w) X.A (assignInOrder ((j0 b X.env).map (·.2)) us) (λ_ s'=>∃a H',u6 X p a H' s'/\Q a H') X.xe s
abbrev TSet:=V->V->V->Hp->(Hp->Prop)->Prop
def PSet(X:Cx)(t:TSet):Prop:=∀(p:List (d5×d6)) (s:f7) (σ:St) (H:Hp) (o i v:V) (b a u:b7) (Q:Hp->Prop),u6 X p σ H s->aJ o b->aJ i a->aJ v u->t o i v H Q ->ge (g9 X.prog X.w) X.A (setItem b a u) (λ_ s'=>∃H',u6 X p σ H' s'/\Q H') X.xe s
section
variable{X:Cx}{pos:i3}
def JU(i:Nat):TG:=λv σ H Q=>Q (σ.set i<|a7 v) H
theorem ES(b:X.N.Nodup)(hi:X.N[i]?=a7 x)(c:Ni X.env.scope x)(f:X.fn x=a9\/X.env.scope.names.lookup x=a7 .local:=by first|exact .inl rfl|exact .inr rfl|assumption):PG X (.Name x pos) (JU i):=by intro p s σ H v u Q I r h;exact wpAny_assign_Name<|iq I b hi c r (λs' a=>⟨_,H,a,h⟩) f
def gNil:OK:=λvs σ H Q=>vs=[]/\Q σ H
def gCons(t:TG)(u:OK):OK:=λvs σ H Q=>∃v r,vs=v::r/\t v σ H λa H'=>u r a H' Q
theorem ER:OM X [] gNil:=by intro p s σ H vs us Q I r h;obtain⟨e,h⟩:=h;subst e;cases r;exact assignInOrder_nil ⟨σ,H,I,h⟩
theorem BB(h1:PG X e t)(h2:OM X es u)(hs:(j0 (e::es) X.env).map (·.2)=i9 e X.env::(j0 es X.env).map (·.2):=by rfl):OM X (e::es) (gCons t u):=by
 intro p s σ H vs us Q I r h;obtain⟨v,g,c,h⟩:=h;subst c;cases r with
 |cons r d=>rw[hs];refine assignInOrder_cons<|x6 (h1 p s σ H _ _ _ I r h) ?_;rintro _ f ⟨a,H1,b,q⟩;exact h2 p f a H1 _ _ Q b d q
def gTup(K:v6)(n:Nat)(t:OK):TG:=λv σ H Q=>∃a xs,v=.ref a/\B9 K H a xs/\xs.length=n/\t xs σ H Q
theorem Ig(i:X.calm=a9)(h:OM X es t)(j:(j0 es X.env).length=n:=by rfl) (c:(j0 es X.env).findIdx? (·.1)=a8:=by rfl):PG X (.Tuple es k pos) (gTup X.K n t):=by intro p s σ H v u Q I r w;obtain⟨a,xs,g,q,l,w⟩:=w;subst g;cases r;obtain⟨its,d,D,z⟩:=I.tuple q;refine assign_Tuple_tuple (I.ok.hd i) D (by simp[j,<-l,d.length]) c λh' x=>?_;have f:u6 X p σ H { s with heap:=h' }:=I.kept (t':=s.toks) λb o e=>x b o (A3<|A0 e) e;exact h p _ σ H xs _ Q f (by simpa using d) w
def gSub(d c:TE)(t:TSet):TG:=λv σ H Q=>d σ H λo H1=>c σ H1 λi a=>t o i v a λb=>Q σ b
theorem Ih(B:PE X o to)(hi:PE X i ti)(hs:PSet X t)(f:∀v,i9 (.Subscript o i pos) X.env v=(do
   let ov <-i7 [v] (eval o X.env)
   let iv <-i7 [v,ov] (eval i X.env)
   standAt pos
   i7 [v,ov,iv] (setItem ov iv v)
   release [v,ov,iv] []):=by intro _;rfl):PG X (.Subscript o i pos) (gSub to ti t):=by intro p s σ H v u Q I r h;rw[f];refine u4<|F7<|x6 (B p s σ H _ I h) ?_;rintro ov m ⟨x,H1,c,k,q⟩;refine u4<|F7<|x6 (hi p m σ H1 _ c q) ?_;rintro iv n ⟨y,a,d,l,g⟩;refine u4<|wpAny_standAt<|u4<|F7<|x6 (hs p n σ a x y v ov iv u _ d k l r g) ?_;rintro _ w ⟨b,e,j⟩;exact wpAny_release ⟨σ,b,e,j⟩
def tAsg(te:TE)(g:TG):TS:=λD σ H=>te σ H λx H1=>g x σ H1 D.nx
theorem Ie(i:PE X e te)(R:PG X tg g)(hs:swapsWithSole [tg] e pos.line X.env=pure bt:=by rfl)(w:swappedStores [tg] e X.env=pure a8:=by rfl)(h1:(j0 [tg] X.env).map (·.2)=[i9 tg X.env]:=by rfl):PS X (.Assign [tg] e pos) (tAsg te g):=by intro p s σ H D I h;refine wpAny_Assign_stores (x6 (i p s σ H _ I h) ?_) hs w;rintro v c ⟨x,H1,a,r,b⟩;rw[h1];exact x6 (R p c σ H1 x v _ a r b) λ_ n q=>q
theorem Ia(b:X.N.Nodup)(hi:X.N[i]?=a7 x)(g:Ni X.env.scope x)(c:PE X e te)(hs:i8 e (a7<|.Name x pos') pos.line X.env=pure bt:=by rfl)(f:X.fn x=a9\/X.env.scope.names.lookup x=a7 .local:=by first|exact .inl rfl|exact .inr rfl|assumption):PS X (.Assign [.Name x pos'] e pos) (tAsg te<|JU i):=by intro p s σ H D I h;refine wpAny_Assign_Name (x6 (c p s σ H _ I h) ?_) hs;rintro v j ⟨y,H1,a,r,q⟩;exact iq a b hi g r (λn d=>⟨_,H1,d,q⟩) f
end
structure It where
 go:Nat->Hp->Prop
 yld:Nat->Hp->V->Hp->Prop
 stop:Nat->Hp->Prop
def wt(X:Cx)(pins:List (d5×d6))(H:Hp)(b:d5):Prop:=H b=a8/\b≠X.env.locals/\b∉X.fs/\(b∈X.ex\/X.s₀.heap.objs.size<=b)/\(∀x c,X.env.cells.lookup x=a7 c->c≠b)/\∀p∈X.pn++pins,p.1≠b
theorem u6.fpOk(I:u6 X pins σ H s)(d:s.heap.objs.size<=b)(f:H' b=a8):wt X pins H' b:=by refine⟨f,Mg<|G9 I.lt d,I.nofs d,.inr<|H9 I.sz d,λx c e z=>?_,λp hp z=>?_⟩;obtain⟨v,q⟩:=I.cell x c e;exact t4 (G9 q.lt<|by rw[z];exact d)<|G8 _;exact t4 (G9 (A0 (I.pin p hp).1)<|by rw[z];exact d)<|G8 _
structure Turn(P:c9)(w:c8)(K:v6)(tg:g7)(J:It)(fp:List d5)(it:d5)(tn:Nat->d7->Prop):Prop where
 mem:it∈fp
 obj:∀i h,tn i h->∀b∈fp,∃o,h.get? b=a7 o/\∀v,o.data≠.cell v
 keep:∀i h h',tn i h->(∀b∈fp,∀o,h.get? b=a7 o->h'.get? b=a7 o)->tn i h'
 item:∀(X:Cx),X.prog=P->X.w=w->X.K=K->X.calm=a9->∀(i:Nat) (pins:List (d5×d6)) (s:f7) (σ:St) (H:Hp) (E:b7->f7->Prop),u6 X pins σ H s->(∀b∈fp,wt X pins H b)->tn i s.heap->J.go i H ->ge (g9 P w) X.A (j1<|.ref it) (λr s1=>∃u,r=a7 u /\ ge (g9 P w) X.A (j2 tg (.ref it) u) (λ_ s2=>∃x H',u6 X pins σ H' s2/\aJ x u/\J.yld i H x H'/\tn (i+1) s2.heap/\∀b∈fp,H' b=a8) E s1) E s
 done:∀(X:Cx),X.prog=P->X.w=w->X.K=K->X.calm=a9->∀(i:Nat) (pins:List (d5×d6)) (s:f7) (σ:St) (H:Hp) (E:b7->f7->Prop),u6 X pins σ H s->(∀b∈fp,wt X pins H b)->tn i s.heap->J.stop i H ->ge (g9 P w) X.A (j1<|.ref it) (λr s1=>r=a8/\u6 X pins σ H s1) E s
 self:∀(A:f6) (i:Nat) (s:f7) (Q:b7->f7->Prop) (E:b7->f7->Prop),tn i s.heap->Q (.ref it) s->ge (g9 P w) A (j3<|.ref it) Q E s
abbrev TI:=St->Hp->(It->Hp->Prop)->Prop
inductive PM(X:Cx)(pins:List (d5×d6))(σ:St)(tg:g7)(R:It->Hp->Prop)(itv:b7)(s2:f7):Prop
 |mk (it:d5) (fp:List d5) (tn:Nat->d7->Prop) (J:It) (H':Hp) (f0:itv=.ref it) (f1:u6 X pins σ H' s2) (f2:Turn X.prog X.w X.K tg J fp it tn) (f3:tn 0 s2.heap) (f4:(∀b∈fp,wt X pins H' b)) (f5:R J H')
def PI(X:Cx)(g r:g7)(wi:TI):Prop:=∀(p:List (d5×d6)) (s:f7) (σ:St) (H:Hp) (R:It->Hp->Prop),u6 X p σ H s->wi σ H R ->ge (g9 X.prog X.w) X.A (eval r X.env) (λv c=>ge (g9 X.prog X.w) X.A (j3 v) (PM X p σ g R) X.xe c) X.xe s
theorem zR(B:s.heap.get? it=a7 o)(f:o.cls=.type n)(d:o.data=.fields vs)(a:["enumerate","zip","dict_itemiterator","dict_reverseitemiterator","odict_iterator","itertools.zip_longest","itertools.pairwise"].contains n=bt) (b:Q () s):ge M A (j2 tg (.ref it) u) Q E s:=by
 unfold j2;cases tg<;>first
  |exact u8 b
  |(cases u<;>first
    |exact u8 b
    |(refine u4 (wpAny_load B ?_);rw[f,d];show ge M A (if (["enumerate","zip","dict_itemiterator","dict_reverseitemiterator","odict_iterator","itertools.zip_longest","itertools.pairwise"].contains n&&vs[0]?==a7 (j4 _))=a9 then _ else _) Q E s;rw[r9 (by intro h;rw[a,O5]at h;cases h)];exact u8 b))
noncomputable def Rz(K:v6)(a:d5):It:=⟨λi H=>∃xs x,J0 K H a xs/\xs[i]?=a7 x,λi H x H'=>H'=H/\∀xs,J0 K H a xs->xs[i]?=a7 x,λi H=>∃xs,J0 K H a xs/\xs.length<=i⟩
noncomputable def Ry(K:v6)(a:d5):It:=⟨λi H=>∃xs x,B9 K H a xs/\xs[i]?=a7 x,λi H x H'=>H'=H/\∀xs,B9 K H a xs->xs[i]?=a7 x,λi H=>∃xs,B9 K H a xs/\xs.length<=i⟩
noncomputable def PQ(lo:Int)(n:Nat):It:=⟨λi _=>i<n,λi H x H'=>H'=H/\x=.int (lo+i),λi _=>n<=i⟩
theorem xK{P:c9}{w:c8}{K:v6}{V:g7}(a it:d5):Turn P w K V (Rz K a) [it] it (λi h=>h.IsListIter it a i) where
 mem:=by simp
 obj:=λi h t b g=>by
  have e:b=it:=by simpa using g
  subst e;obtain⟨o,e,c,d⟩:=t;exact⟨o,e,λv z=>by rw[d]at z;cases z⟩
 keep:=λi h h' t k=>t.at λo e=>k it (by simp) o e
 item:=by intro X C D B J i f s σ H E I l t R;subst C D B;obtain⟨xs,x,q,F⟩:=R;obtain⟨its,G,p,S⟩:=I.list q;obtain⟨u,O,T⟩:=G.get F;obtain⟨m,n,N,r,y,A⟩:=l it (by simp);refine wpAny_pyNext_list_item t p.isList (x:=u) (by simpa using O) λh' j U=>?_;have L:u6 X f σ H { s with heap:=h' }:=I.turned (t':=s.toks) (λb o g e=>(U.2 b g).trans e) m n r y A;obtain⟨o,e,c,d⟩:=id j;exact⟨u,rfl,zR (s:={ s with heap:=h' }) e c d (by decide) ⟨x,H,L,T,⟨rfl,λys Q=>by rw[I.list_inj Q q];exact F⟩,j,λb g=>(l b g).1⟩⟩
 done:=by intro X C D B J i f s σ H E I l t R;subst C D B;obtain⟨xs,q,F⟩:=R;obtain⟨its,G,p,S⟩:=I.list q;obtain⟨m,n,N,r,y,A⟩:=l it (by simp);have W:=G.length;exact wpAny_pyNext_list_end (I.ok.hd J) t p.isList (by simp;lia) λh' M=>⟨rfl,I.turned (t':=s.toks) (λb o g e=>M b o g e) m n r y A⟩
 self:=λ_ _ _ _ _ t h=>wpAny_pyIter_listiter t h
theorem wH{P:c9}{w:c8}{K:v6}{V:g7}(a it:d5):Turn P w K V (Ry K a) [it] it (λi h=>h.IsTupleIter it a i) where
 mem:=by simp
 obj:=λi h t b g=>by
  have e:b=it:=by simpa using g
  subst e;obtain⟨o,e,c,d⟩:=t;exact⟨o,e,λv z=>by rw[d]at z;cases z⟩
 keep:=λi h h' t k=>t.at λo e=>k it (by simp) o e
 item:=by intro X C D B J i f s σ H E I l t R;subst C D B;obtain⟨xs,x,q,F⟩:=R;obtain⟨its,G,p,S⟩:=I.tuple q;obtain⟨u,O,T⟩:=G.get F;obtain⟨m,n,N,r,y,A⟩:=l it (by simp);refine wpAny_pyNext_tuple_item t (show s.heap.IsTuple a its.toArray from p) (x:=u) (by simpa using O) λh' j U=>?_;have L:u6 X f σ H { s with heap:=h' }:=I.turned (t':=s.toks) (λb o g e=>(U.2 b g).trans e) m n r y A;obtain⟨o,e,c,d⟩:=id j;exact⟨u,rfl,zR (s:={ s with heap:=h' }) e c d (by decide) ⟨x,H,L,T,⟨rfl,λys Q=>by rw[I.tuple_inj Q q];exact F⟩,j,λb g=>(l b g).1⟩⟩
 done:=by intro X C D B J i f s σ H E I l t R;subst C D B;obtain⟨xs,q,F⟩:=R;obtain⟨its,G,p,S⟩:=I.tuple q;obtain⟨m,n,N,r,y,A⟩:=l it (by simp);have W:=G.length;exact wpAny_pyNext_tuple_end (I.ok.hd J) t (show s.heap.IsTuple a its.toArray from p) (by simp;lia) λh' M=>⟨rfl,I.turned (t':=s.toks) (λb o g e=>M b o g e) m n r y A⟩
 self:=λ_ _ _ _ _ t h=>wpAny_pyIter_tupleiter t h
theorem wI{P:c9}{w:c8}{K:v6}{F:g7}(it:d5)(lo:Int)(n:Nat):Turn P w K F (PQ lo n) [it] it (λi h=>IsRangeIter h it (lo+(i:Nat)*1) ((n:Int)-(i:Nat)) 1) where
 mem:=by simp
 obj:=λi h a b d=>by
  have e:b=it:=by simpa using d
  subst e;exact⟨_,a,λv z=>by have G:Data.fields _=Data.cell v:=z;cases G⟩
 keep:=λi h h' a k=>k it (by simp) _ a
 item:=by intro X C l B g i p s σ H E I f a R;subst C l B;obtain⟨m,c,N,r,y,A⟩:=f it (by simp);have W:=Walks.range (prog:=X.prog) (w:=X.w) (I.ok.hd g) it lo 1 n;refine W.item i s _ _ R a λv h' q x j D=>?_;obtain⟨t,rfl⟩:=x;have u:u6 X p σ H { s with heap:=h',toks:=q }:=I.turned (λb o d e=>D b o (by simpa using d) e) m c r y A;refine⟨_,rfl,zR (s:={ s with heap:=h',toks:=q }) (n:="range_iterator") j rfl rfl (by decide) ⟨.int<|lo+i,H,u,⟨t,?_⟩,⟨rfl,rfl⟩,j,λb d=>(f b d).1⟩⟩;rw[Int.mul_one]
 done:=by intro X C l B g i p s σ H E I f a R;subst C l B;obtain⟨m,c,N,r,y,A⟩:=f it (by simp);exact wpAny_pyNext_range_end (I.ok.hd g) a (by have:n<=i:=R;lia) λh' M=>⟨rfl,I.turned (t':=s.toks) (λb o d e=>M b o d e) m c r y A⟩
 self:=λ_ _ _ _ _ a h=>wpAny_pyIter_rangeiter a h
section
variable{X:Cx}{tg:g7}
theorem Bs{pins:List (d5×d6)}{σ:St}{H:Hp}{s:f7}{R:It->Hp->Prop}{E:b7->f7->Prop}{lo hi:Int}{t u v:Tok}{tk:Nat}(I:u6 X pins σ H s)(h1:-(2 ^ 62)<=lo)(h2:lo<2 ^ 62)(h:-(2 ^ 62)<=hi)(d:hi<2 ^ 62)(q:R (PQ lo (hi-lo).toNat) H):ge (g9 X.prog X.w) X.A (j3<|.ref s.heap.objs.size) (PM X pins σ tg R) E { s with heap:=s.heap.push { cls:=.type "range",data:=.fields #[.int lo t,.int hi u,.int 1 v] },toks:=tk }:=by
 refine wpAny_pyIter_range (IsRange.new ..) (small_one h1 h2 h d) ?_;have a:u6 X pins σ H { s with heap:=s.heap.push { cls:=.type "range",data:=.fields #[.int lo t,.int hi u,.int 1 v] },toks:=tk }:=I.kept λb o e=>z6 _ e;refine⟨(s.heap.push { cls:=.type "range",data:=.fields #[.int lo t,.int hi u,.int 1 v] }).objs.size,[(s.heap.push { cls:=.type "range",data:=.fields #[.int lo t,.int hi u,.int 1 v] }).objs.size],_,_,H,rfl,a.kept (t':=tk) λb o e=>z6 _ e,wI _ lo (hi-lo).toNat,?_,λb f=>?_,q⟩;have c:lo+((0:Nat):Int)*1=lo:=by simp
 have l:(((hi-lo).toNat:Nat):Int)-((0:Nat):Int)=Builtin.Range.rangeSize lo hi 1:=by rw[rangeSize_one];split<;>lia
 show IsRangeIter _ _ (lo+((0:Nat):Int)*1) ((((hi-lo).toNat:Nat):Int)-((0:Nat):Int)) 1;rw[c,l];exact C5 _ rfl;have e:b=(s.heap.push { cls:=.type "range",data:=.fields #[.int lo t,.int hi u,.int 1 v] }).objs.size:=by simpa using f
 subst e;exact a.fpOk (w5 _)<|a.hok.fresh<|w5 _
def iRng1(a:TA):TI:=λσ H R=>a σ H λvs H1=>∃j:Int,vs=[.int j]/\-(2 ^ 62)<=j/\j<2 ^ 62/\R (PQ 0 j.toNat) H1
theorem yF{a:g7}{d:TA}{p pos:i3}(i:Gl X "range")(m:X.mg "range" = a8)(g:PA X [a] d)(hs:i5 [a] X.env=[(bt,eval a X.env)]:=by rfl):PI X tg (.Call (.Name "range" p) [a] [] pos) (iRng1 d):=by
 intro b s σ H R I h;refine Call_<|lV I i m boot_range<|Rq (x6 (g pos b s σ H _ I h) ?_) hs rfl;rintro us o ⟨vs,H1,f,l,c⟩;obtain⟨j,e,c,k,q⟩:=c;subst e;cases l with
 |cons r n=>cases n;obtain⟨t,rfl⟩:=r;exact call_range_1<|Bs f (by lia) (by lia) c k<|by simpa using q
def tFor(wi:TI)(g:TG)(t:TS):TS:=λD σ H=>wi σ H λJ H1=>∃W:Nat->Nat->St->Hp->Prop,(∃m,W 0 m σ H1)/\∀i m σ H,W i m σ H ->(J.stop i H/\D.nx σ H)\/(J.go i H/\∃N:St->Hp->Prop,(∀a H',N a H'->∃c,c < m/\W (i+1) c a H')/\∀x H',J.yld i H x H'->g x σ H' λb d=>t { D with nx:=N,ct:=N,bk:=D.nx } b d)
noncomputable def iA(fp:List d5)(h:d7):List (d5×d6):=fp.filterMap λb=>(h.get? b).map λo=>(b,o)
theorem fN(d:b∈fp)(e:h.get? b=a7 o):(b,o)∈iA fp h:=Qt.mpr ⟨b,d,by rw[e];rfl⟩
theorem qY(hp:p∈iA fp h):p.1∈fp/\h.get? p.1=a7 p.2:=by
 obtain⟨b,d,e⟩:=List.mem_filterMap.mp hp;cases q:h.get? b with
 |none=>rw[q]at e;cases e
 |some o=>rw[q]at e;have a:(b,o)=p:=C7 e;subst a;exact⟨d,q⟩
theorem u6.pinned(I:u6 X pins σ H s)(f:∀b∈fp,wt X pins H b)(B:∀b∈fp,∃o,s.heap.get? b=a7 o/\∀v,o.data≠.cell v):u6 X (pins++iA fp s.heap) σ H s:=I.pins_of λp hp=>(I9.mp hp).elim (λz=>I.pin p<|Lm _ z) λz=>by obtain⟨h,e⟩:=qY z;obtain⟨m,n,N,_⟩:=f p.1 h;obtain⟨o,a,d⟩:=B p.1 h;rw[e]at a;cases a;exact⟨e,m,n,N,d⟩
theorem u6.unpinned(I:u6 X (pins++pl) σ H s):u6 X pins σ H s:=I.pins_of λp hp=>I.pin p<|Lm _<|NQ _ hp
theorem Ic(hp:PassesOwn (g9 X.prog X.w) X.A X.env X.xe)(hc:X.calm=a9)(hi:PI X tg iter wi)(hg:PG X tg g)(l:K5 X body tb)(hs:∀x,j5 iter X.env x=pure x:=by intro _;rfl):PS X (.For tg iter body [] pos) (tFor wi g tb):=by
 intro p s σ H D I h;refine wpAny_For (x6 (hi p s σ H _ I h) λv s1 h1=>x6 h1 λab s2 h2=>?_) hs;obtain⟨it,C,tn,J,H2,e,I2,T,S,Z,W,⟨m0,w0⟩,L⟩:=h2;subst e
 -- what stays a9 of the iterator's objects through the loop
 have t:∀{H':Hp},(∀b∈C,H' b=a8)->∀b∈C,wt X p H' b:=λhn b l=>⟨hn b l,(Z b l).2⟩
 refine codeAny_forLoop_any (λn s'=>∃i q H',u6 X p q H' s'/\tn i s'.heap/\(∀b∈C,H' b=a8)/\W i n q H') ?_ m0 ⟨0,σ,H2,I2,S,λb l=>(Z b l).1,w0⟩;rintro n s3 ⟨i,y,M,Y,G,E,w3⟩;rcases L i n y M w3 with⟨stop,qn⟩|⟨go,N,hN,K⟩
 refine O8 hp<|x6 (T.done X rfl rfl rfl hc i p s3 y M X.xe Y (t E) G stop) ?_;rintro r s4 ⟨Q,I4⟩;subst Q;exact On ⟨y,M,I4,qn⟩
 ·refine O8 hp (x6 (T.item X rfl rfl rfl hc i p s3 y M X.xe Y (t E) G go) ?_)
  rintro r s4 ⟨u,Q,h4⟩;subst Q;refine O8 hp<|x6 h4 ?_;rintro _ s5 ⟨x,V,I5,r5,y5,B,P⟩;have O:=I5.pinned (t P)<|T.obj _ _ B;refine O8 hp<|x6 (hg _ s5 y V x u _ O r5<|K x V y5) ?_;rintro _ s6 ⟨U,H6,I6,q6⟩;refine O8 hp<|x6 (l _ s6 U H6 _ I6 q6) λf R z=>?_;have k:∀{a:St}{c:Hp},u6 X (p++iA C s5.heap) a c R->N a c->∃m,m<n/\∃i q H',u6 X p q H' R/\tn i R.heap/\(∀b∈C,H' b=a8)/\W i m q H':=λ{a c} j F=>by obtain⟨m',hm,w7⟩:=hN a c F;refine⟨m',hm,i+1,a,c,j.unpinned,T.keep _ _ _ B λb l o e=>(j.pin (b,o)<|Lm _<|Lm _<|fN l e).1,λb l=>?_,w7⟩;obtain⟨o,e,d⟩:=T.obj _ _ B b l;exact(j.pin (b,o)<|Lm _<|Lm _<|fN l e).2.1
  cases f with
  |next=>obtain⟨a,c,j,F⟩:=z;exact k j F
  |cont=>obtain⟨a,c,j,F⟩:=z;exact k j F
  |brk=>obtain⟨a,c,j,z⟩:=z;exact⟨a,c,j.unpinned,z⟩
  |ret v=>obtain⟨x7,a,c,j,r7,z⟩:=z;exact⟨x7,a,c,j.unpinned,r7,z⟩
end
abbrev R2:=V->V->Hp->VK->Prop
def D7(X:Cx)(f:b7->b7->Sem b7)(r:R2):Prop:=∀(p:List (d5×d6)) (s:f7) (σ:St) (H:Hp) (x y:V) (v u:b7) (Q:VK),u6 X p σ H s->aJ x v->aJ y u->r x y H Q ->ge (g9 X.prog X.w) X.A (f v u) (EP X p σ Q) X.xe s
def PL(X:Cx)(f:b7->Sem b7)(r:V->Hp->VK->Prop):Prop:=∀(p:List (d5×d6)) (s:f7) (σ:St) (H:Hp) (x:V) (v:b7) (Q:VK),u6 X p σ H s->aJ x v->r x H Q ->ge (g9 X.prog X.w) X.A (f v) (EP X p σ Q) X.xe s
def dH(X:Cx)(f:b7)(r:List V->Hp->VK->Prop):Prop:=∀(p:List (d5×d6)) (s:f7) (σ:St) (H:Hp) (xs:List V) (us:List b7) (Q:VK),u6 X p σ H s->aw xs us->r xs H Q ->ge (g9 X.prog X.w) X.A (call f us) (EP X p σ Q) X.xe s
def OA(r:R2)(t b:TE):TE:=λσ H Q=>t σ H λx H1=>b σ H1 λy a=>r x y a Q
def tUn(r:V->Hp->VK->Prop)(a:TE):TE:=λσ H Q=>a σ H λx H1=>r x H1 Q
def rI(C:Int->Int->Prop)(g:Int->Int->V):R2:=λx y H Q=>∃i j,x=.int i/\y=.int j/\C i j/\Q (g i j) H
def Nf(g:Int->Int->V):R2:=λx y H Q=>∃i j,x=.int i/\y=.int j/\Q (g i j) H
def rU(g:Int->V):V->Hp->VK->Prop:=λx H Q=>∃i,x=.int i/\Q (g i) H
section
variable{X:Cx}{a b c:g7}{ta tb tc:TE}{pos:i3}
theorem binT(e:PE X a ta)(g:PE X b tb){pins:List (d5×d6)}{s:f7}{σ:St}{H:Hp}{R:V->V->Hp->Prop}(I:u6 X pins σ H s)(h:ta σ H λx H1=>tb σ H1 λy H2=>R x y H2) {Q:b7->f7->Prop}{f:b7->b7->Sem b7}(i:∀v u s2 x y H2,u6 X pins σ H2 s2->aJ x v->aJ y u->R x y H2->ge (g9 X.prog X.w) X.A (f v u) Q X.xe s2):ge (g9 X.prog X.w) X.A (eval a X.env) (λv s₁=>ge (g9 X.prog X.w) X.A (eval b X.env) (λu s₂=>ge (g9 X.prog X.w) X.A (f v u) Q X.xe s₂) X.xe s₁) X.xe s:=by refine x6 (e pins s σ H _ I h) ?_;rintro v k ⟨x,H1,c,r,q⟩;refine x6 (g pins k σ H1 _ c q) ?_;rintro u s2 ⟨y,H2,d,l,j⟩;exact i v u s2 x y H2 d r l j
theorem pe_op{op:Operator}{r:R2}(B:D7 X (j6 op) r)(f:PE X a ta)(e:PE X b tb):PE X (.BinOp a op b pos) (OA r ta tb):=by intro p s σ H Q I h;exact wpAny_BinOp<|binT f e I h λv u n x y c d g i q=>B p n σ c x y v u Q d g i q
theorem pe_un(B:PL X (unaryOp op) r)(f:PE X a ta):PE X (.UnaryOp op a pos) (tUn r ta):=by intro p s σ H Q I h;refine UnaryOp_<|x6 (f p s σ H _ I h) ?_;rintro v d ⟨x,H1,b,c,q⟩;exact B p d σ H1 x v Q b c q
theorem OE{f:b7->b7->Sem b7}{C:Int->Int->Prop}{g:Int->Int->Int}(e:∀(i j:Int) (t u:Tok) (s:f7) (Q:b7->f7->Prop) (E:b7->f7->Prop),C i j->Q (.int (g i j) s.toks) { s with toks:=s.toks+1 }->ge (g9 X.prog X.w) X.A (f (.int i t)<|.int j u) Q E s):D7 X f (rI C λi j=>.int<|g i j):=by intro p s σ H x y v u Q I r a h;obtain⟨i,j,rfl,rfl,c,q⟩:=h;obtain⟨t,rfl⟩:=r;obtain⟨t',rfl⟩:=a;exact e i j t t' s _ _ c ⟨.int<|g i j,H,I.tok _,⟨_,rfl⟩,q⟩
theorem opI0{f:b7->b7->Sem b7}{g:Int->Int->Int}(e:∀(i j:Int) (t u:Tok) (s:f7) (Q:b7->f7->Prop) (E:b7->f7->Prop),Q (.int (g i j) s.toks) { s with toks:=s.toks+1 }->ge (g9 X.prog X.w) X.A (f (.int i t)<|.int j u) Q E s):D7 X f (Nf λi j=>.int<|g i j):=by intro p s σ H x y v u Q I r a h;obtain⟨i,j,rfl,rfl,q⟩:=h;obtain⟨t,rfl⟩:=r;obtain⟨t',rfl⟩:=a;exact e i j t t' s _ _ ⟨.int<|g i j,H,I.tok _,⟨_,rfl⟩,q⟩
theorem opB0{f:b7->b7->Sem b7}{g:Int->Int->Bool}(e:∀(i j:Int) (t u:Tok) (s:f7) (Q:b7->f7->Prop) (E:b7->f7->Prop),Q (.bool<|g i j) s->ge (g9 X.prog X.w) X.A (f (.int i t)<|.int j u) Q E s):D7 X f (Nf λi j=>.bl<|g i j):=by intro p s σ H x y v u Q I r a h;obtain⟨i,j,rfl,rfl,q⟩:=h;obtain⟨t,rfl⟩:=r;obtain⟨t',rfl⟩:=a;exact e i j t t' s _ _ ⟨.bl<|g i j,H,I,rfl,q⟩
def CPow(i j:Int):Prop:=0<=j/\j<=1000000/\i.natAbs<2 ^ 64
def CMul(i j:Int):Prop:=(-(2 ^ 64)<i/\i<2 ^ 64)\/(-(2 ^ 64)<j/\j<2 ^ 64)
theorem CMul.ok(h:CMul i j):IntMulOk i j:=by
 rcases h with⟨h1,h2⟩|⟨h1,h2⟩
 exact .of_left<|intBits_le_64 h1 h2;exact .of_right<|intBits_le_64 h1 h2
theorem ID:D7 X (j6 .Add) (Nf λi j=>.int<|i+j):=opI0 λ_ _ _ _ _ _ _ q=>add_int q
theorem Iw:D7 X (j6 .Sub) (Nf λi j=>.int<|i-j):=opI0 λ_ _ _ _ _ _ _ q=>sub_int q
theorem IA:D7 X (j6 .Mult) (rI CMul λi j=>.int<|i*j):=OE λ_ _ _ _ _ _ _ f q=>mul_int q f.ok
theorem IB:D7 X (j6 .Mod) (rI (λ_ j=>0<j) λi j=>.int<|i % j):=OE λi j _ _ _ _ _ f q=>by have h1:(0:Int)<j:=f;exact mod_int' (by lia)<|by rw[Int.fmod_eq_emod_of_nonneg i<|by lia];exact q
theorem Iz:D7 X (j6 .Pow) (rI CPow λi j=>.int<|i ^ j.toNat):=OE λ_ _ _ _ _ _ _ f q=>pow_int_small f.1 f.2.1 f.2.2 q
theorem Iy:D7 X (j6 .LShift) (rI CPow λi j=>.int<|i*2 ^ j.toNat):=OE λ_ _ _ _ _ _ _ f q=>lshift_int_small f.1 f.2.1 f.2.2 q
theorem unI{f:b7->Sem b7}{g:Int->Int}(e:∀(i:Int) (t:Tok) (s:f7) (Q:b7->f7->Prop) (E:b7->f7->Prop),Q (.int (g i) s.toks) { s with toks:=s.toks+1 }->ge (g9 X.prog X.w) X.A (f<|.int i t) Q E s):PL X f (rU λi=>.int<|g i):=by intro p s σ H x v Q I r h;obtain⟨i,rfl,q⟩:=h;obtain⟨t,rfl⟩:=r;exact e i t s _ _ ⟨.int<|g i,H,I.tok _,⟨_,rfl⟩,q⟩
theorem Hk:PL X (unaryOp .USub) (rU λi=>.int (-i)):=unI λ_ _ _ _ _ q=>neg_int q
end
section
variable{X:Cx}{a b c:g7}{ta tb tc:TE}{pos:i3}
theorem op_lt:D7 X (j7 .Lt) (Nf λi j=>.bl<|decide<|i<j):=opB0 λ_ _ _ _ _ _ _ q=>lt_int q
theorem op_le:D7 X (j7 .LtE) (Nf λi j=>.bl<|decide<|i<=j):=opB0 λ_ _ _ _ _ _ _ q=>le_int q
theorem op_gt:D7 X (j7 .Gt) (Nf λi j=>.bl<|decide<|j<i):=opB0 λ_ _ _ _ _ _ _ q=>gt_int q
theorem op_ge:D7 X (j7 .GtE) (Nf λi j=>.bl<|decide<|j<=i):=opB0 λ_ _ _ _ _ _ _ q=>ge_int q
theorem D7.or(h:D7 X f r)(h':D7 X f r'):D7 X f (λx y H Q=>r x y H Q\/r' x y H Q):=by intro p s σ H x y v u Q I g i q;rcases q with q|q;exact h p s σ H x y v u Q I g i q;exact h' p s σ H x y v u Q I g i q
theorem EV(B:D7 X (j7 op) r)(f:PE X a ta)(e:PE X b tb)(m:j8 op b=bt):PE X (.Compare a [op] [b] pos) (OA r ta tb):=by intro p s σ H Q I h;exact wpAny_Compare1 (binT f e I h λv u n x y c d g i q=>B p n σ c x y v u Q d g i q) m
def Hq(t:TE):TT:=λσ H Q=>t σ H λx H'=>∃k,x=.bl k/\Q k H'
theorem EJ(B:D7 X (j7 op) r)(l:PE X a ta)(m:PE X b tb)(n:j8 op b=bt):PT X (.Compare a [op] [b] pos) (Hq<|OA r ta tb):=by
 intro p s σ H Q I h;refine wpAny_isTrue_Compare1 (x6 (l p s σ H _ I h) λv D ⟨x,H1,g,w,q⟩=>x6 (m p D σ H1 _ g q) λu E ⟨y,d,i,A,o⟩ =>
  x6 (B p E σ d x y v u _ i w A o) λc F ⟨z,f,j,C,k,e,t⟩=>?_) n
 subst e;cases C;exact NO ⟨f,j,t⟩
def Dx(r r':R2)(t d e:TE):TE:=λσ H Q=>t σ H λx H1=>d σ H1 λy a=>r x y a λz b=>∃k,z=.bl k /\(if k=a9 then e σ b λY c=>r' y Y c Q else Q (.bl bt) b)
theorem BE(D:D7 X (j7 op) r)(f:D7 X (j7 op') r')(w:PE X a ta)(A:PE X b tb)(B:PE X c tc)(C:lastMarks [op,op'] [b,c]=bt:=by with_unfolding_all rfl):PE X (.Compare a [op,op'] [b,c] pos) (Dx r r' ta tb tc):=by
 intro p s σ H Q I h;refine Compare_chain (x6 (w p s σ H _ I h) λv M ⟨x,H1,o,J,E⟩=>chain_link (x6 (A p M σ H1 _ o E) λu N ⟨y,m,q,l,F⟩ =>
  x6 (D p N σ m x y v u _ q J l F) λd O ⟨z,g,i,K,k,e,j⟩=>?_)) C
 subst e;cases K;refine NO ?_;cases k with
 |false=>exact ite_ff ⟨.bl bt,g,i,rfl,j⟩
 |true=>exact ite_tt<|chain_last<|x6 (B p O σ g _ i j) λY P ⟨R,n,t,L,G⟩=>f p P σ n y R u Y Q t l L G
theorem nL:(sizeLine:Nat)<2 ^ 63:=by rw[Mb];decide
theorem wR:D7 X (j6 .Add) (λx y H Q=>∃i j,x=.str i/\y=.str j/\i.length+j.length<=sizeLine/\Q (.str<|i++j) H):=by intro p s σ H x y v u Q I g r h;obtain⟨i,j,rfl,rfl,b,q⟩:=h;obtain⟨t,rfl⟩:=g;obtain⟨t',rfl⟩:=r;exact add_str (λt' k=>⟨.str<|i++j,H,I.tok _,⟨_,rfl⟩,q⟩) b
theorem Bb(r:aw [x] us):∃u,us=[u]/\aJ x u:=by
 cases r with
 |cons a l=>cases l;exact⟨_,rfl,a⟩
theorem vals2(r:aw [x,y] us):∃u w',us=[u,w']/\aJ x u/\aJ y w':=by
 cases r with
 |cons a l =>
  cases l with
  |cons C L=>cases L;exact⟨_,_,rfl,a,C⟩
theorem At(f:X.calm=a9):dH X (.builtin "max") (λxs H Q=>∃i j,xs=[.int i,.int j]/\Q (.int<|if j > i then j else i) H):=by
 intro p s σ H xs us Q I r h;obtain⟨i,j,rfl,q⟩:=h;obtain⟨u,Y,rfl,⟨t,rfl⟩,⟨t',rfl⟩⟩:=vals2 r;refine max_two_ints (I.ok.hd f) λh' a k=>⟨_,H,I.kept k,?_,q⟩
 by_cases L:j > i;rw[p9 L,p9 L];exact⟨_,rfl⟩;rw[r9 L,r9 L];exact⟨_,rfl⟩
end
structure ObjM(h:d7)(x dx C:d5)(mA:c7->Option b7):Prop where
 obj:h.get? x=a7 (PySem.W.instObj C dx)
 ns:h.Ns1 dx mA
 ne:dx≠x
theorem AK.some_of(r:AK (a7 v) o):∃u,o=a7 u/\aJ v u:=by
 cases o with
 |none=>exact(show False from r).elim
 |some u=>exact⟨u,rfl,r⟩
structure Cls(K:v6)(C:d5):Prop where
 pg:PySem.W.plainGet K C Str.empty=a9
 hd:PySem.W.hasDictIn K C=a9
 po:PySem.W.plainOver K C=a9
 sa:Nm K (.ref C) "__setattr__" = a7 (a7<|.builtin "object.__setattr__")
structure Con(K:v6)(C:d5)(f:c7)(v:V)(u:b7):Prop where
 at_:Nm K (.ref C) f=a7 (a7 u)
 rel:aJ v u
 get:PySem.W.specialIn K u "__get__" = a7 a8
 cp:PySem.W.copiedNames.contains f=bt
structure Meth(K:v6)(C:d5)(m:c7)(f:d5):Prop where
 at_:Nm K (.ref C) m=a7 (a7<|.ref f)
 fn:PySem.W.isFn K (.ref f)=a9
 kp:MM K (.ref f)=a9
section
variable{X:Cx}{pins:List (d5×d6)}{σ:St}{H:Hp}{s:f7}{A:f6}{E:b7->f7->Prop}{Q:b7->f7->Prop}{c:b7}{b:Bool}
inductive TyOf(K:v6)(H:Hp):V->b7->Prop where
 |non:TyOf K H .non (.type "NoneType")
 |bl (x:Bool):TyOf K H (.bl x) (.type "bool")
 |int (i:Int):TyOf K H (.int i) (.type "int")
 |str (x:c7):TyOf K H (.str x) (.type "str")
 |flt (x:UInt64):TyOf K H (.flt x) (.type "float")
 |lst {a:d5}{xs:List V} (e:H a=a7 (.lst xs)):TyOf K H (.ref a) (.type "list")
 |frz {a:d5}{o:d6}{xs:List V} (e:H a=a7 (.frz o (.lst xs))):TyOf K H (.ref a) (.type "list")
 |tup {a:d5}{xs:List V} (e:H a=a7 (.tup xs)):TyOf K H (.ref a) (.type "tuple")
 |dK {a:d5}{kvs:List (E9×V)} (e:H a=a7 (.dK kvs)):TyOf K H (.ref a) (.type "dict")
 |dT {a:d5}{kvs:List (List E9×V)} (e:H a=a7 (.dT kvs)):TyOf K H (.ref a) (.type "dict")
 |ins {a C dx:d5}{fs:List (c7×V)} (e:H a=a7 (.ins C dx fs)) (cl:Cls K C) (ha:Nm K (.ref C) "__class__" = a7 (a7 (.builtin "object.__class__")))
   (hn:PySem.W.specialIn K (.builtin "object.__class__") "__get__" = a7 (a7<|.builtin "getset_descriptor.__get__")) (htk:PySem.W.takesIn K (.builtin "object.__class__")=a7 a9)
   (hm:PySem.W.mroIn K C (.type "object")=a7 a9):TyOf K H (.ref a) (.ref C)
end
structure Room(k:Nat)(A:f6):Prop where
 hd:A.handled=a8
 dp:A.depth+3*k+5<recursionLimit
 un:A.units+16*k+200<j9
theorem Room.mono(r:Room k A)(h:j<=k):Room j A:=⟨r.hd,by have:=r.dp;lia,by have:=r.un;lia⟩
theorem Room.deeper(r:Room (k+1) A)(env:Env):Room k (A.deeper env):=⟨r.hd,by have:=r.dp;show A.depth+1+3*k+5<_;lia,by have:=r.un;show A.units+3+16*k+200<_;lia⟩
theorem Room.depth(r:Room k A):A.depth<recursionLimit:=by have:=r.dp;lia
def tNil:TA:=λ_ H Q=>Q [] H
def tCons(t:TE)(tr:TA):TA:=λσ H Q=>t σ H λx H1=>tr σ H1 λxs a=>Q (x::xs) a
section
variable{X:Cx}{e:g7}{es:List g7}{te:TE}{t:TA}{pos:i3}
theorem yK:PA X [] tNil:=λ_ _ _ _ H Q I h=>Calls.spliced_nil ⟨[],H,I,.nil,h⟩
theorem lx(f:PE X e te)(i:PA X es t)(hs:i5 (e::es) X.env=(bt,eval e X.env)::i5 es X.env:=by rfl):PA X (e::es) (tCons te t):=by intro a p s σ H Q I h;rw[hs];show ge _ _ (spliced<|(bt,eval e X.env)::i4 a (i5 es X.env)) _ _ s;refine Qs<|x6 (f p s σ H _ I h) ?_;rintro u j ⟨x,H1,c,r,q⟩;refine x6 (i a p j σ H1 _ c q) ?_;rintro us n ⟨xs,b,d,l,g⟩;exact⟨x::xs,b,d,.cons r l,g⟩
def tTup(t:TA):TE:=λσ H Q=>t σ H λxs H1=>xs.length<=sizeLine/\∀p,H1 p=a8->Q (.ref p) (z5 H1 p<|.tup xs)
def tLst(t:TA):TE:=λσ H Q=>t σ H λxs H1=>xs.length<=sizeLine/\∀p,H1 p=a8->Q (.ref p) (z5 H1 p<|.lst xs)
theorem Ii{x1}(h:PA X es t):PE X (.Tuple es x1 pos) (tTup t):=by intro p s σ H Q I d;refine wpAny_Tuple_spliced<|x6 (h pos p s σ H _ I d) λus c ⟨xs,H1,a,r,z,q⟩=>⟨by rw[<-r.length];exact z,?_⟩;have f:H1 c.heap.objs.size=a8:=a.hok.fresh<|w5 _;refine⟨.ref c.heap.objs.size,z5 H1 c.heap.objs.size<|.tup xs,a.laid (t':=c.toks) (λb u e=>z6 _ e) (w5 _) ?_,rfl,q _ f⟩;exact⟨z,us,r,⟨_,C5 _ rfl,rfl,⟨_,rfl⟩,rfl⟩⟩
theorem Io(h:PA X es t):PE X (.List es pos) (tLst t):=by intro p s σ H Q I d;refine wpAny_List_spliced<|x6 (h pos p s σ H _ I d) λus c ⟨xs,H1,a,r,z,q⟩=>⟨by rw[<-r.length];exact z,?_⟩;have f:H1 c.heap.objs.size=a8:=a.hok.fresh<|w5 _;refine⟨.ref c.heap.objs.size,z5 H1 c.heap.objs.size<|.lst xs,a.laid (t':=c.toks) (λb u e=>z6 _ e) (w5 _) ?_,rfl,q _ f⟩;exact⟨z,us,0,r,C5 _ rfl⟩
end
abbrev Sp:=List V->Hp->VK->XK->Prop
abbrev L8:=List Env->Hp->f7->XK->b7->f7->Prop
structure Env0(P:c9)(w:c8)(K:v6)(mg:c7->Option b7)(base:d7)(A:f6)(outer:List Env)(s:f7)(H:Hp):Prop where
 frames:A.frames=a7 outer
 mod:Mod K mg base
 bs:∀b o,base.get? b=a7 o->s.heap.get? b=a7 o/\H b=a8
 bsz:base.objs.size<=s.heap.objs.size
 funs:s.heap.FunFrames base outer
 frf:∀b∈frs outer,H b=a8
 hok:D4 P w H s.heap
 bare:f9 s.gens
inductive CE(outer:List Env)(P:c9)(w:c8)(H:Hp)(s:f7)(Q:VK)(u:b7)(s':f7):Prop
 |mk (v:_) (H':_) (f0:s'.os=s.os) (f1:f9 s'.gens) (f2:Un (frs outer) [] H H' s.heap s'.heap) (f3:D4 P w H' s'.heap) (f4:aJ v u) (f5:Q v H')
def CR(CX:L8)(o:List Env)(P:c9)(w:c8)(H:Hp)(s:f7)(Q:VK)(E:XK)(r:Result)(s':f7):Prop:=match r with
 |.ok (.ret u)=>CE o P w H s Q u s'
 |.ok _=>False
 |.error e=>CX o H s E e s'
structure FnOk(P:c9)(w:c8)(K:v6)(mg:c7->Option b7)(base:d7)(CX:L8)(k:Nat)(f:d5)(fd:k7)(ps:List c7)(sp:Sp):Prop where
 len:∀vs H Q E,sp vs H Q E->vs.length=ps.length
 run:∀(A:f6) (outer:List Env) (s:f7) (H:Hp) (args:Args) (us:List b7) (vs:List V) (Q:VK) (E:XK),Room k A->Env0 P w K mg base A outer s H->BindsTo s fd args (ps.zip us)->aw vs us->sp vs H Q E ->k9 (g9 P w) A (.call (.ref f) args) (CR CX outer P w H s Q E) s
section
variable{X:Cx}{pins:List (d5×d6)}{σ:St}{H:Hp}{s s':f7}
theorem u6.env0(I:u6 X pins σ H s):Env0 X.prog X.w X.K X.mg X.base X.A X.stack s H:=⟨I.ok.frames,I.ok.mod,I.bs,H9 I.ok.bsz I.sz,I.stack,I.stkFree,I.hok,I.bare⟩
theorem u6.after(I:u6 X pins σ H s)(h:CE X.stack X.prog X.w H s Q u s'):EP X pins σ Q u s':=by obtain⟨v,H',c,e,n,K,r,q⟩:=h;obtain⟨a,g,d,t,o⟩:=s';obtain rfl:o=s.os:=c;exact⟨v,H',I.call (h':=a) (g':=g) (d':=d) (t':=t) (ch:=[]) n K e (λb z=>t4 z<|by simp),r,q⟩
end
def Hu(sp:Sp)(s:List V)(E:XK)(t:TA):TE:=λσ H Q=>t σ H λvs H1=>sp (vs++s) H1 Q E
def mM(K:v6)(d:k7)(ps:List c7)(ds:List b7):Prop:=∀(s:f7) (us:List b7),K.In s.heap->(us++ds).length=ps.length->BindsTo s d ⟨us,[]⟩ (ps.zip<|us++ds)
theorem mM.all{K:v6}{d:k7}{ps:List c7}(h:∀us:List b7,us.length=ps.length->bindArgs d ⟨us,[]⟩=pure (ps.zip us)):mM K d ps []:=λs us _ g=>by rw[Lb]at g ⊢;exact .of_eq<|h us g
def wo(CX:L8)(X:Cx)(E:XK):Prop:=∀(p:List (d5×d6)) (σ:St) (H:Hp) (s:f7) (e:b7) (s':f7),u6 X p σ H s->CX X.stack H s E e s'->X.xe e s'
section
variable{X:Cx}{CX:L8}{k:Nat}{f C:d5}{fd:k7}{ps:List c7}{sp:Sp}{dvs:List V}{ds:List b7}{E:XK}{x m:c7}{p pos apos:i3}{e o:g7}{es:List g7}{ta:TE}{t:TA}
theorem HH(F:FnOk X.prog X.w X.K X.mg X.base CX k f fd ps sp)(i:Room k X.A)(d:mM X.K fd ps ds)(b:aw dvs ds)(x:wo CX X E)(I:u6 X pins σ H s) (r:aw vs us) (h:sp (vs++dvs) H Q E):ge (g9 X.prog X.w) X.A (call (.ref f) us) (EP X pins σ Q) X.xe s:=by
 have l:aw (vs++dvs) (us++ds):=r.append b;have g:(us++ds).length=ps.length:=by rw[<-l.length];exact F.len _ _ _ _ h
 refine l7<|MK (F.run X.A X.stack s H ⟨us,[]⟩ (us++ds) (vs++dvs) Q E i I.env0 (d s us I.kIn g) l h) λr s' q=>?_;cases r with
 |error e=>exact x pins σ H s e s' I q
 |ok a =>
  cases a with
  |ret u=>exact I.after q
  |next=>exact G5 q
  |brk=>exact G5 q
  |cont=>exact G5 q
theorem EW(F:FnOk X.prog X.w X.K X.mg X.base CX k f fd ps sp)(o:Room k X.A)(R:Gl X x)(n:X.mg x=a7 (.ref f))(m:MM X.K (.ref f)=a9)(g:mM X.K fd ps ds)(i:aw dvs ds)(u:wo CX X E)(d:PA X (e::es) t) (b:(x==("__debug__":c7))=bt:=by decide) (j:i5 (e::es) X.env=(bt,eval e X.env)::i5 es X.env:=by rfl) (l:(i4 pos<|i5 es X.env).any (·.1)=bt:=by rfl):PE X (.Call (.Name x p) (e::es) [] pos) (Hu sp dvs E t):=by intro a s σ H Q I h;refine Nt<|gM I R n ?_ b;refine Qr (h₀:=X.base) I.ok.mod.kin m (x6 (d pos a s σ H _ I h) λus v ⟨vs,H1,c,r,q⟩=>⟨c.kIn,?_⟩) j l;exact HH F o g i u c r q
structure Mk(K:v6)(C f:d5):Prop where
 makes:PySem.W.makesIn K C=a9
 init:Nm K (.ref C) "__init__" = a7 (a7<|.ref f)
 fn:PySem.W.isFn K (.ref f)=a9
 kp:MM K (.ref C)=a9
end
section
variable{X:Cx}{CX:L8}{k:Nat}{f C:d5}{fd:k7}{ps ks:List c7}{sp:Sp}{E:XK}{x m:c7}{p pos apos kpos:i3}{e o:g7}{es:List g7}{kws:List l8}{te ta:TE}{t tk:TA}{nm:Option c7}
structure KBinds(K:v6)(fd:k7)(ps ks:List c7)(g:List b7->List b7->List b7)(gV:List V->List V->List V):Prop where
 to:∀(s:f7) (us ws:List b7),K.In s.heap->(g us ws).length=ps.length->BindsTo s fd ⟨us,ks.zip ws⟩ (ps.zip<|g us ws)
 rel:∀{vs:List V}{us:List b7}{zs:List V}{ws:List b7},aw vs us->aw zs ws->aw (gV vs zs) (g us ws)
variable{g:List b7->List b7->List b7}{gV:List V->List V->List V}
end
structure FnScope(N P:List c7)(sc:f8):Prop where
 kind:sc.kind=.function
 co:sc.isCoroutine=bt
 gen:sc.isGenerator=bt
 nd:N.Nodup
 pre:N.take P.length=P
 par:∀x∈P,sc.names.lookup x=a7 .local\/sc.names.lookup x=a7 .cell
 nofree:∀y∈sc.names,y.2≠.free
theorem sF{kindOf:c7->Option m3}{x:c7}:∀{binds:List (c7×b7)}{m:c7->Option b7},(∀v,(x,v)∉binds)->bindL kindOf binds m x=m x
 | [],_,_=>rfl
 |(n,v)::r,m,h=>by
  unfold bindL;rw[sF λw hw=>h w<|D0 _ hw];split;have:x≠n:=by rintro rfl;exact h v Fn
  simp[this];rfl
theorem sH{kindOf:c7->Option m3}{x:c7}:∀{binds:List (c7×b7)}{m:c7->Option b7},(∀v,(x,v)∉binds)->bindC kindOf binds m x=m x
 | [],_,_=>rfl
 |(n,v)::r,m,h=>by
  unfold bindC;rw[sH λw hw=>h w<|D0 _ hw];split;rfl;have:x≠n:=by rintro rfl;exact h v Fn
  simp[this]
theorem sG{kindOf:c7->Option m3}{x:c7}{v:b7}:∀{P:List c7}{vs:List b7}{i:Nat}{m:c7->Option b7},P.Nodup->P[i]?=a7 x->vs[i]?=a7 v->kindOf x=a7 .local ->bindL kindOf (P.zip vs) m x=a7 v
 | [],_,_,_,_,h,_,_=>by simp at h
 |_::_,[],_,_,_,_,h,_=>by simp at h
 |p::P,w::vs,0,m,nd,h1,h2,hk=>by simp at h1 h2;subst h1;subst h2;show bindL kindOf ((p,w)::P.zip vs) m p=_;unfold bindL;rw[sF λv hv=>(La.mp nd).1 (Qa hv).1,p9 hk];simp
 |p::P,w::vs,i+1,m,nd,h1,h2,hk=>by show bindL kindOf ((p,w)::P.zip vs) m x=_;unfold bindL;exact sG (i:=i) (La.mp nd).2 (by simpa using h1) (by simpa using h2) hk
theorem sI{kindOf:c7->Option m3}{x:c7}{v:b7}:∀{P:List c7}{vs:List b7}{i:Nat}{m:c7->Option b7},P.Nodup->P[i]?=a7 x->vs[i]?=a7 v->kindOf x≠a7 .local ->bindC kindOf (P.zip vs) m x=a7 v
 | [],_,_,_,_,h,_,_=>by simp at h
 |_::_,[],_,_,_,_,h,_=>by simp at h
 |p::P,w::vs,0,m,nd,h1,h2,hk=>by simp at h1 h2;subst h1;subst h2;show bindC kindOf ((p,w)::P.zip vs) m p=_;unfold bindC;rw[sH λv hv=>(La.mp nd).1 (Qa hv).1,r9 hk];simp
 |p::P,w::vs,i+1,m,nd,h1,h2,hk=>by show bindC kindOf ((p,w)::P.zip vs) m x=_;unfold bindC;exact sI (i:=i) (La.mp nd).2 (by simpa using h1) (by simpa using h2) hk
noncomputable def start(N:List c7)(vs:List V):St:=vs.map a7++Nl (N.length-vs.length) a8
noncomputable def ph(CX:L8)(P:c9)(w:c8)(K:v6)(mg:c7->Option b7)(base:d7)(N:List c7)(l:c7)(scope:f8)(f:d5)(d:b7)(A:f6)(outer:List Env)(s:f7)(H:Hp)(E:XK):Cx where
 prog:=P
 w:=w
 K:=K
 mg:=mg
 base:=base
 A:=A.deeper<|b9 l scope s.heap.objs.size f d
 N:=N
 s₀:=s
 H₀:=H
 env:=b9 l scope s.heap.objs.size f d
 outer:=outer
 stack:=b9 l scope s.heap.objs.size f d::outer
 ex:=[]
 calm:=a9
 fn:=λ_=>a9
 pn:=[]
 xe:=λe s'=>ge (g9 P w) (A.deeper<|b9 l scope s.heap.objs.size f d) (leaving (b9 l scope s.heap.objs.size f d) e) (λ_ a=>CX outer H s E e a) (λb a=>CX outer H s E b a) s'
theorem wf{s:f8}{n:Nat}{x:c7}(h:s.names.lookup x=a7 .cell):∃c,(cellsFrom n s.names []).lookup x=a7 c:=by have q:=Rg s.names n []<|.inl h;exact Ow.mp q
theorem rY{CX:L8}{P:c9}{w:c8}{K:v6}{mg:c7->Option b7}{base:d7}{N ps:List c7}{l:c7}{scope:f8}{f:d5}{m:b7}{A:f6}{o:List Env}{s C:f7}{H:Hp}{E:XK}{us:List b7}{vs:List V}(S:FnScope N ps scope) (F:A.handled=a8) (d:Env0 P w K mg base A o s H) (L:vs.length=ps.length) (r:aw vs us)(x:InCallC s s.heap.objs.size (bindL (b9 l scope s.heap.objs.size f m).kindOf (ps.zip us) λ_=>a8) (cellsFrom (s.heap.objs.size+1) scope.names []) (bindC (b9 l scope s.heap.objs.size f m).kindOf (ps.zip us) λ_=>a8) C):u6 (ph CX P w K mg base N l scope f m A o s H E) [] (start N vs) H C:=by
 have G:ps.length<=N.length:=by have:=t9 Lz S.pre;rw[Lc]at this;lia
 obtain⟨h1,M,rfl,t⟩:=x.done;have g:∀b:d5,b∉(ph CX P w K mg base N l scope f m A o s H E).ex:=λb z=>t4 (show b∈([]:List d5)from z) (by simp);refine⟨⟨d.mod,S.kind,rfl,rfl,w5 _,λy z c h1 h2=>?_,λy Q=>?_,λy c _ h=>?_,λ_=>F,Around.frames_deeper d.frames,.inr ⟨rfl,rfl⟩,λb z=>t4 z<|g b,d.bs,d.bsz,λb _ _=>g b,λb z=>t4 z<|g b,d.funs,d.frf⟩,rfl,d.bare,Un.kept t,⟨_,x.toInCall.ns,λi y v h1 h2 J=>?_⟩,λy c h=>⟨_,x.cell y c h⟩,d.hok.fresh<|w5 _,λy c h=>?_,λp hp=>t4 (show p∈([]:List (d5×d6))from hp) (by simp),d.hok.kept t,?_⟩;exact name_of_addr x.apart (Nb h1)<|Nb h2;have Q:scope.names.lookup y=a7 .cell\/scope.names.lookup y=a7 .free:=Q;rcases Q with Q|Q;exact wf Q;exact t4 rfl<|S.nofree _<|Nb Q;exact OW<|x.above y c<|Nb h;have hi:i<vs.length:=by unfold start at h2;by_cases hi:i<vs.length;exact hi;rw[LU<|by simpa using hi]at h2;rw[QE]at h2;split at h2<;>cases h2
 have D:vs[i]?=a7 v:=by
  unfold start at h2;rw[Le (by simpa using hi),D8]at h2;cases e:vs[i]? with
  |none=>rw[e]at h2;cases h2
  |some a=>rw[e]at h2;cases h2;rfl
 obtain⟨u,B,I⟩:=r.get D;have hp:ps[i]?=a7 y:=by rw[<-S.pre,NT<|by lia];exact h1
 have j:ps.Nodup:=by rw[<-S.pre];exact S.nd.sublist<|Pg _ _
 refine⟨u,I,?_⟩;rcases S.par y (J7 hp)with k|k;exact .inl ⟨k,sG j hp B k⟩;obtain⟨c,e⟩:=wf (n:=s.heap.objs.size+1) k;refine .inr ⟨.inl k,c,e,?_⟩;have q:=x.cell y c e;rw[sI j hp B<|by show scope.names.lookup y≠_;rw[k];decide]at q;exact q;exact d.hok.fresh<|OW<|x.above y c<|Nb h;unfold start;show _=N.length;rw[D5,x3,Qy];lia
theorem JZ{CX:L8}{P:c9}{w:c8}{K:v6}{mg:c7->Option b7}{base:d7}{k:Nat}{f:d5}{name l:c7}{p:Arguments}{a:List i6}{scope:f8}{T kV i U c R oc:b7}{M od:Option d5}{G:Array (Option b7)}{N ps:List c7}{sp:Sp} (lk:K.lookup f=a7 ⟨oc,od,.func<|Mx name l p a scope T kV i U M c R,G⟩) (C:O4 K c l=a9) (S:FnScope N ps scope)(B:∀vs H Q E,sp vs H Q E->vs.length=ps.length)(h:∀(A:f6) (outer:List Env) (s:f7) (H:Hp) (vs:List V) (Q:VK) (E:XK),Room k (A.deeper<|b9 l scope s.heap.objs.size f c)->sp vs H Q E -> ∃t,K5 (ph CX P w K mg base N l scope f c A outer s H E) a t/\t { nx:=λ_ H'=>Q .non H',rt:=Q } (start N vs) H):FnOk P w K mg base CX (k+1) f (Mx name l p a scope T kV i U M c R) ps sp:=by
 refine⟨B,λA outer s H O us vs Q E D j hb r z=>?_⟩;have hl:=B _ _ _ _ z;have X:K.In s.heap:=j.mod.kin.keeps λb o e=>(j.bs b o e).1;have F:s.heap.NoLimit:=j.mod.nolimit.keeps λb o e=>(j.bs b o e).1;have g:∀y∈ps.zip us,scope.names.lookup y.1=a7 .local\/(scope.names.lookup y.1=a7 .cell/\((cellsFrom (s.heap.objs.size+1) scope.names []).lookup y.1).isSome=a9):=λ⟨n,v⟩ hy=>by rcases S.par n (Qa hy).1 with q|q;exact .inl q;exact .inr ⟨q,Rg _ _ _<|.inl q⟩
 refine codeAny_call_function D.depth (X _ _ lk) rfl S.co S.gen rfl (PySem.W.codeRec_of X C)<|hb _ _ _ _ ?_;refine wpAny_newFunctionEnv_cells S.kind g λenv he Y x=>?_;subst he;refine⟨F.keeps x.toInCall.keep,codeAny_func ?_⟩;obtain⟨t,ht,hq⟩:=h A outer s H vs Q E (D.deeper _) z;have I:u6 (ph CX P w K mg base N l scope f c A outer s H E) [] (start N vs) H Y:=rY S D.hd j hl r x;refine G3 (ht [] Y (start N vs) H _ I hq) (λZ s' hs=>?_) λe s' hs=>hs;have m:∀{d:St}{H':Hp}{v:V}{u:b7},u6 (ph CX P w K mg base N l scope f c A outer s H E) [] d H' s'->aJ v u->Q v H'->CE outer P w H s Q u s':=λ{d H' v u} J L q=>⟨v,H',J.os,J.bare,J.base,J.hok,L,q⟩
 cases Z with
 |ret u=>obtain⟨v,d,H',J,L,q⟩:=hs;exact m J L q
 |next=>obtain⟨d,H',J,q⟩:=hs;exact m (v:=V.non) (u:=J2) J rfl q
 |brk=>obtain⟨_,_,_,q⟩:=hs;exact G5 q
 |cont=>obtain⟨_,_,_,q⟩:=hs;exact G5 q
section
variable{X:Cx}{x:c7}{p pos:i3}{e:g7}{es:List g7}{t:TA}{id T:String}{r:List V->Hp->VK->Prop}
def QS(r:List V->Hp->VK->Prop)(t:TA):TE:=λσ H Q=>t σ H λvs H1=>r vs H1 Q
theorem oE(d:dH X (.builtin id) r)(R:Gl X x)(m:X.mg x=a8)(v:e8 x=a7 (.builtin id))(f:PA X (e::es) t)(n:x≠"__name__":=by decide)(b:(x==("__debug__":c7))=bt:=by decide)(i:i5 (e::es) X.env=(bt,eval e X.env)::i5 es X.env:=by rfl) (l:(i4 pos<|i5 es X.env).any (·.1)=bt:=by rfl):PE X (.Call (.Name x p) (e::es) [] pos) (QS r t):=by intro a s σ H Q I h;refine Nt<|lV I R m v ?_ n b;exact PyProof.Rows.callWith_builtin1 (x6 (f pos a s σ H _ I h) λus j ⟨vs,H1,c,g,q⟩=>d a j σ H1 vs us Q c g q) i l
theorem yI(d:dH X (.type T) r)(R:Gl X x)(m:X.mg x=a8)(v:e8 x=a7 (.type T))(f:PA X (e::es) t)(n:x≠"__name__":=by decide)(b:(x==("__debug__":c7))=bt:=by decide)(i:i5 (e::es) X.env=(bt,eval e X.env)::i5 es X.env:=by rfl) (l:(i4 pos<|i5 es X.env).any (·.1)=bt:=by rfl):PE X (.Call (.Name x p) (e::es) [] pos) (QS r t):=by intro a s σ H Q I h;refine Nt<|lV I R m v ?_ n b;exact Rq (x6 (f pos a s σ H _ I h) λus j ⟨vs,H1,c,g,q⟩=>d a j σ H1 vs us Q c g q) i l
end
end L2
namespace HT
open PySem PyProof.Rows
theorem rcLt_int(A:f6)(s:f7)(a:Int)(t:Tok)(c:Int)(u:Tok)(prog:c9)(w:c8)(E:b7->f7->Prop)(Q:b7->f7->Prop)(h:Q (.bool<|decide<|a<c) s):ge (g9 prog w) A (richCompare .Lt (.int a t)<|.int c u) Q E s:=(PyProof.Rows.lt_int h:ge (g9 prog w) A (j7 .Lt (.int a t)<|.int c u) Q E s)
section
variable{prog:c9}{w:c8}{A:f6}{E:b7->f7->Prop}{s:f7}
theorem cat_tup(D:IsTup s.heap t vs.toArray)(q:IsTup s.heap b ws.toArray)(v:vs≠[])(h1:ws=[]->Q (.ref t) s) (h2:ws≠[]->Q (.ref s.heap.objs.size) { s with heap:=s.heap.push { cls:=.type "tuple",data:=.seq (vs++ws).toArray } })(z:vs.length+ws.length<=sizeLine):ge (g9 prog w) A (j6 .Add (.ref t)<|.ref b) Q E s:=by
 obtain⟨⟨cls,k,data,p⟩,B,l,n,m⟩:=id D;obtain⟨⟨j,d,i,f⟩,h,a,o,c⟩:=id q;simp only at l m a c;subst l m a c;have e:vs.toArray++ws.toArray=(vs++ws).toArray:=by simp
 by_cases g:ws=[]
 exact concat_meets ⟨_,B,rfl⟩ ⟨_,h,rfl⟩ noFill_tuple_add seq_tuple_add Rf Rk (Rn _ _) (tuple_addW1 t b vs.toArray ws.toArray n o k d p f (by simpa using v)<|by simp[g]) ⟨B,h,h1 g⟩;refine concat_meets ⟨_,B,rfl⟩ ⟨_,h,rfl⟩ noFill_tuple_add seq_tuple_add Rf Rk (Rn _ _) (tuple_addW2 t b vs.toArray ws.toArray n o k d p f (by simpa using v) (by simpa using g)<|by rw[B7,B7];exact z) ⟨B,h,?_⟩;rw[e];exact h2 g
noncomputable def sIx(n d:Nat):Option Int->Nat
 |none=>d
 |some v=>if v<0 then(v+(n:Int)).toNat else min v.toNat n
theorem sIx_nat(n d k:Nat):sIx n d (a7 (k:Int))=min k n:=by show (if (k:Int)<0 then((k:Int)+(n:Int)).toNat else min (k:Int).toNat n)=min k n;rw[r9 (by lia),Ld]
theorem HD(n d:Nat)(h:d<=n)(o:Option Int):sIx n d o<=n:=by
 cases o with
 |none=>exact h
 |some v=>show (if v<0 then(v+(n:Int)).toNat else min v.toNat n)<=n;by_cases c:v<0;rw[p9 c];lia;rw[r9 c];exact Nat.min_le_right _ _
theorem Am(v:Int)(n d:Nat):(if v<0 then max (v+(n:Int)) 0 else min v (n:Int))=((sIx n d (a7 v):Nat):Int):=by
 show (if v<0 then max (v+(n:Int)) 0 else min v (n:Int))=(((if v<0 then(v+(n:Int)).toNat else min v.toNat n):Nat):Int)
 by_cases c:v<0;simp only[p9 c];lia;simp only[r9 c];lia
theorem xA(lo hi:Option Int)(n:Nat):Ro lo hi 1 (n:Int)=(((sIx n 0 lo:Nat):Int),((sIx n n hi:Nat):Int)):=by
 have h1:¬((1:Int)<0):=by lia
 unfold Ro;simp only[h1,t7];refine Prod.ext ?_ ?_;cases lo with
 |none=>rfl
 |some v=>exact Am v n 0
 cases hi with
 |none=>rfl
 |some v=>exact Am v n n
theorem wQ(i j:Nat):QI (i:Int) (j:Int) 1=j-i:=by
 unfold QI;have h1:(1:Int) > 0:=by lia
 simp only[h1,t8,Int.ediv_one];split<;>lia
theorem nE(p:m5 v o)(h:Q o s):ge (g9 prog w) A (Builtin.Slice.slicePartIndex v) Q E s:=by
 cases p with
 |none=>exact slicePart_none h
 |int i t=>exact slicePart_int h
theorem eO{m:d5}{l u:b7}{lo hi:Option Int}{n:Nat}{Q:Int×Int×Nat->f7->Prop}(hs:s.heap.IsSliceOf m l u .none)(p:m5 l lo)(d:m5 u hi)(h:Q (((sIx n 0 lo:Nat):Int),1,sIx n n hi-sIx n 0 lo) s):ge (g9 prog w) A (RE (.ref m)<|pure (n:Int)) Q E s:=by obtain⟨o,b,c,a⟩:=id hs;unfold RE Builtin.Slice.sliceFields;refine u4<|u4<|K2 b a (x:=l) rfl<|u4<|K2 b a (x:=u) rfl<|u4<|K2 b a (x:=.none) rfl<|u8 ?_;refine u4<|slicePart_none ?_;show ge _ _ (if ((1:Int)==0)=a9 then _ else _) _ _ s;rw[r9<|by decide];refine u4<|nE p<|u4<|nE d<|u4<|u8 ?_;show ge _ _ (match Ro lo hi 1 (n:Int)with|(lo,hi)=>pure (lo,(1:Int),QI lo hi 1)) _ _ s;rw[xA lo hi n];show ge _ _ (pure (((sIx n 0 lo:Nat):Int),(1:Int),QI ((sIx n 0 lo:Nat):Int) ((sIx n n hi:Nat):Int) 1)) _ _ s;rw[wQ];exact u8 h
theorem BA(xs:Array b7)(i k:Nat):((D3 k).filterMap λ(m:Nat)=>xs[((i:Int)+(m:Int)*1).toNat]?).toArray=((xs.toList.drop i).take k).toArray:=by
 have e:(λ(m:Nat)=>xs[((i:Int)+(m:Int)*1).toNat]?)=λm=>xs[i+m]?:=by
  funext m;have:((i:Int)+(m:Int)*1).toNat=i+m:=by lia
  rw[this]
 rw[e];have:=pick_run xs i k;rw[List.filterMap_map]at this;have l:((λx=>xs[x]?) ∘ λx=>i+x)=λm=>xs[i+m]?:=rfl;rw[l]at this;rw[this]
theorem getItem_tuple_cut{t l:d5}{i:Array b7}{v u:b7}{lo hi:Option Int}{Q:b7->f7->Prop}(D:IsTup s.heap t i)(hs:s.heap.IsSliceOf l v u .none)(p:m5 v lo)(j:m5 u hi)(f:¬(sIx i.size 0 lo=0/\sIx i.size i.size hi=i.size))(h:Q (.ref s.heap.objs.size) { s with heap:=s.heap.push { cls:=.type "tuple",data:=.seq ((i.toList.drop<|sIx i.size 0 lo).take<|sIx i.size i.size hi-sIx i.size 0 lo).toArray } })(z:i.size<=sizeLine):ge (g9 prog w) A (m6 (.ref t)<|.ref l) Q E s:=by
 have e:sizeOk (.seq ((i.toList.drop<|sIx i.size 0 lo).take<|sIx i.size i.size hi-sIx i.size 0 lo).toArray):=by show ((i.toList.drop<|sIx i.size 0 lo).take<|sIx i.size i.size hi-sIx i.size 0 lo).toArray.size<=sizeLine;rw[B7,Lc,L5,F9];lia
 have L:sIx i.size i.size hi<=i.size:=HD _ _ (w5 _) hi;obtain⟨g,b,c,d⟩:=id hs;have a:s.TypeIs (.ref l) "slice":=⟨g,b,c⟩
 unfold m6
 try with_reducible refine F7 ?_
 first|refine u4 (u8 ?_)|skip
 refine u4<|wpAny_sequenceKey D.typeIs (by decide) ?_;refine u4<|LS (name:=u7 "__getitem__") D.typeIs Oy<|J4 Oy D.typeIs entry_tuple_getitem ?_<|args_tuple_getitem _ _;show ge _ _ (QJ (.ref t) >>= _) _ _ s;refine u4<|tupleItemsOf_ D ?_;refine u4<|Mw a ?_;rw[p9<|by decide];refine u4<|eO hs p j ?_;have o:¬((((sIx i.size 0 lo:Nat):Int)==0&&(1:Int)==1&&(sIx i.size i.size hi-sIx i.size 0 lo)==i.size)=a9):=by intro q;rw[F3,F3]at q;have k:((sIx i.size 0 lo:Nat):Int)=0:=eq_of_beq q.1.1;have n:sIx i.size i.size hi-sIx i.size 0 lo=i.size:=eq_of_beq q.2;exact f ⟨by lia,by lia⟩
 show ge _ _ (if (((sIx i.size 0 lo:Nat):Int)==0&&(1:Int)==1&&(sIx i.size i.size hi-sIx i.size 0 lo)==i.size)=a9 then _ else _) _ _ s;rw[r9 o,BA]
 first
  |exact u4 (m:=QG _) (K3 (u8 ⟨_,rfl,u8 h⟩) e)
  |exact u4 (m:=QG _) (K3 (u4 (u8 (u8 ⟨_,rfl,u8 h⟩))) e)
  |exact u4 (u4 (m:=QG _) (K3 (u8 (u8 ⟨_,rfl,u8 h⟩)) e))
  |exact u4 (u4 (m:=QG _) (K3 (u8 ⟨_,rfl,u8 h⟩) e))
end
end HT
namespace L2
open PySem PySem.Spec PyProof.Rows
abbrev TO:=St->Hp->(Option Int->Hp->Prop)->Prop
def PO(X:Cx)(e:Option g7)(t:TO):Prop:=∀(p:List (d5×d6)) (s:f7) (σ:St) (H:Hp) (Q:Option Int->Hp->Prop),u6 X p σ H s->t σ H Q ->ge (g9 X.prog X.w) X.A (evalPart e X.env) (λu s'=>∃o H',u6 X p σ H' s'/\m5 u o/\Q o H') X.xe s
def Er:TO:=λ_ H Q=>Q a8 H
def tPart(t:TE):TO:=λσ H Q=>t σ H λx H1=>∃i,x=.int i/\Q (a7 i) H1
section
variable{X:Cx}{e:g7}{te:TE}{lo hi:Option g7}{tl th:TO}{pos p2:i3}
theorem EQ:PO X a8 Er:=by intro p s σ H Q I h;rw[evalPart_none];exact u8 ⟨a8,H,I,.none,h⟩
theorem EO(h:PE X e te):PO X (a7 e) (tPart te):=by intro p s σ H Q I w;rw[evalPart_some];refine x6 (h p s σ H _ I w) ?_;rintro u c ⟨x,H1,a,r,b⟩;obtain⟨i,rfl,q⟩:=b;obtain⟨t,rfl⟩:=r;exact⟨a7 i,H1,a,.int i t,q⟩
def OL(X:Cx)(r:V->Option Int->Option Int->Hp->VK->Prop):Prop:=∀(p:List (d5×d6)) (s:f7) (σ:St) (H:Hp) (x:V) (v a u:b7) (l hi:Option Int) (m:d5) (Q:VK),u6 X p σ H s->aJ x v->s.heap.IsSliceOf m a u .none->m5 a l->m5 u hi->r x l hi H Q ->∃T id,typeLookup (.type T) "__getitem__" = pure (a7<|.builtin id)/\s.TypeIs v T/\ge (g9 X.prog X.w) X.A (m6 v<|.ref m) (EP X p σ Q) X.xe s
def tSl(r:V->Option Int->Option Int->Hp->VK->Prop)(te:TE)(t h:TO):TE:=λσ H Q=>te σ H λx H1=>t σ H1 λl a=>h σ a λu b=>r x l u b Q
theorem BC(y:OL X r)(n:PE X e te)(o:PO X lo tl)(z:PO X hi th):PE X (.Subscript e (.Slice lo hi a8 p2) pos) (tSl r te tl th):=by intro p s σ H Q I h;refine Subscript_<|x6 (n p s σ H _ I h) ?_;rintro v K ⟨x,H1,i,J,E⟩;refine wpAny_Slice<|x6 (o p K σ H1 _ i E) ?_;rintro c L ⟨l,g,j,B,F⟩;refine x6 (z p L σ g _ j F) ?_;rintro d a ⟨u,f,k,C,G⟩;rw[evalPart_none];refine u8 ?_;have t:u6 X p σ f { a with heap:=a.heap.push { cls:=.type "slice",data:=.fields #[c,d,.none] } }:=k.kept (t':=a.toks) λb M q=>z6 _ q;obtain⟨T,id,m,D,R⟩:=y p { a with heap:=a.heap.push { cls:=.type "slice",data:=.fields #[c,d,.none] } } σ f x v c d l u a.heap.objs.size Q t J (Heap.IsSliceOf.new ..) B C G;show ge (g9 X.prog X.w) X.A (subscriptTail e (.Slice lo hi a8 p2) v<|.ref a.heap.objs.size) (EP X p σ Q) X.xe { a with heap:=a.heap.push { cls:=.type "slice",data:=.fields #[c,d,.none] } };exact tail_any (ops:=[.ref a.heap.objs.size,v]) D m R<|by with_unfolding_all rfl
noncomputable def Eg(xs:List V)(lo hi:Option Int):List V:=(xs.drop<|HT.sIx xs.length 0 lo).take<|HT.sIx xs.length xs.length hi-HT.sIx xs.length 0 lo
theorem mi(xs:List V)(lo hi:Option Int):(Eg xs lo hi).length<=xs.length:=by unfold Eg;rw[Lc,L5];lia
def rSlT(K:v6):V->Option Int->Option Int->Hp->VK->Prop:=λx l hi H Q=>∃a xs,x=.ref a/\B9 K H a xs /\¬(HT.sIx xs.length 0 l=0/\HT.sIx xs.length xs.length hi=xs.length)/\∀p,H p=a8->Q (.ref p) (z5 H p<|.tup<|Eg xs l hi)
theorem Hy:OL X (rSlT X.K):=by
 intro p s σ H x v f i l hi m Q I g hs d u h;obtain⟨a,xs,rfl,c,w,q⟩:=h;cases g;obtain⟨its,r,D,z⟩:=I.tuple c;have n:its.toArray.size=xs.length:=by rw[B7];exact r.length.symm
 refine⟨"tuple",_,Oy.lookup,D.typeIs,?_⟩;refine HT.getItem_tuple_cut D hs d u (by rw[n];exact w) ?_ (by rw[n];exact z);rw[n];refine⟨.ref s.heap.objs.size,_,I.laid (t':=s.toks) (o:=.tup<|Eg xs l hi) (λb e q=>z6 _ q) (w5 _) ?_,rfl,q _<|I.hok.fresh<|w5 _⟩;exact⟨H9 (mi xs l hi) z,_,(r.drop<|HT.sIx xs.length 0 l).take<|HT.sIx xs.length xs.length hi-HT.sIx xs.length 0 l,Dr.new _ _⟩
def rCatT(K:v6):R2:=λx y H Q=>∃a b xs ys,x=.ref a/\y=.ref b/\B9 K H a xs/\B9 K H b ys/\xs≠[]/\xs.length+ys.length<=sizeLine /\(ys=[]->Q (.ref a) H)/\(ys≠[]->∀p,H p=a8->Q (.ref p) (z5 H p<|.tup<|xs++ys))
theorem aw.nil_iff(r:aw xs us):us=[]↔xs=[]:=by
 cases r with
 |nil=>simp
 |cons _ _=>simp
theorem Fc:D7 X (j6 .Add) (rCatT X.K):=by intro p s σ H x y v u Q I n t h;obtain⟨a,b,xs,ys,rfl,rfl,f,d,e,c,k,m⟩:=h;cases n;cases t;obtain⟨its,r,g,_⟩:=I.tuple f;obtain⟨i,l,j,_⟩:=I.tuple d;refine HT.cat_tup g j (λz=>e<|r.nil_iff.mp z) (λz=>⟨.ref a,H,I,rfl,k<|l.nil_iff.mp z⟩) (λz=>?_) (by rw[<-r.length,<-l.length];exact c);refine⟨.ref s.heap.objs.size,_,I.laid (t':=s.toks) (o:=.tup<|xs++ys) (λb A q=>z6 _ q) (w5 _) ?_,rfl,m (λw=>z<|l.nil_iff.mpr w) _<|I.hok.fresh<|w5 _⟩;exact⟨by rw[D5];exact c,_,r.append l,Dr.new _ _⟩
end
noncomputable def L7(n:Nat)(i:Int):Option Nat:=if 0<=i then(if i<n then a7 i.toNat else a8)else if -(n:Int)<=i then a7 (i+n).toNat else a8
noncomputable def atI{α:Type}(xs:List α)(i:Int):Option α:=(L7 xs.length i).bind λj=>xs[j]?
theorem zG(h:L7 n i=a7 j):seqIndex? i n=a7 j/\j<n/\-(n:Int)<=i/\i<n:=by unfold L7 at h;by_cases a:0<=i;rw[p9 a]at h;by_cases h1:i<n;rw[p9 h1]at h;have e:i.toNat=j:=C7 h;exact⟨by rw[seqIndex_of a h1,e],by lia,by lia,h1⟩;rw[r9 h1]at h;cases h;rw[r9 a]at h;by_cases h1:-(n:Int)<=i;rw[p9 h1]at h;have e:(i+n).toNat=j:=C7 h;exact⟨by rw[seqIndex_neg (by lia) h1,e],by lia,h1,by lia⟩;rw[r9 h1]at h;cases h
theorem uB{α:Type}{xs:List α}{i:Int}{v:α}(h:atI xs i=a7 v):∃j,seqIndex? i xs.length=a7 j/\xs[j]?=a7 v/\j<xs.length/\-(xs.length:Int)<=i/\i<xs.length:=by
 unfold atI at h;cases e:L7 xs.length i with
 |none=>rw[e]at h;cases h
 |some j=>rw[e]at h;obtain⟨h1,h2,a,d⟩:=zG e;exact⟨j,h1,h,h2,a,d⟩
theorem av{α:Type}{xs:List α}{j:Nat}{v:α}(h:xs[j]?=a7 v):atI xs (j:Int)=a7 v:=by
 have L:j<xs.length:=(A5.mp h).1;have e:L7 xs.length (j:Int)=a7 j:=by unfold L7;rw[p9 (by lia),p9<|by lia];simp
 unfold atI;rw[e];exact h
theorem Do{α:Type}(xs:List α)(v:α):atI (xs++[v]) (-1)=a7 v:=by
 have g:(xs++[v]).length=xs.length+1:=by simp
 have e:L7 (xs++[v]).length (-1)=a7 xs.length:=by unfold L7;rw[g,r9 (by decide),p9<|by lia];congr 1;lia
 unfold atI;rw[e];show (xs++[v])[xs.length]?=a7 v;simp
def uD(b:g7):Prop:=∀o i,subscripted b bt o i=operate [o,i] (m6 o i)
def LX(X:Cx)(r:R2):Prop:=∀(a e:g7) (p:List (d5×d6)) (s:f7) (σ:St) (H:Hp) (x y:V) (v u:b7) (Q:VK),u6 X p σ H s->aJ x v->aJ y u->r x y H Q ->subscripted e bt v u=operate [v,u] (m6 v u)->ge (g9 X.prog X.w) X.A (subscriptTail a e v u) (EP X p σ Q) X.xe s
def Ln(X:Cx)(id:String)(r:V->List V->Hp->VK->Prop):Prop:=∀(p:List (d5×d6)) (s:f7) (σ:St) (H:Hp) (x:V) (xs:List V) (v:b7) (us:List b7) (Q:VK),u6 X p σ H s->aJ x v->aw xs us->r x xs H Q ->ge (g9 X.prog X.w) X.A (call (.builtin id)<|v::us) (EP X p σ Q) X.xe s
section
variable{X:Cx}{a b:g7}{ta tb:TE}{pos:i3}
theorem LX.or(h:LX X r)(h':LX X r'):LX X (λx y H Q=>r x y H Q\/r' x y H Q):=by intro a e p s σ H x y v u Q I g i q hs;rcases q with q|q;exact h a e p s σ H x y v u Q I g i q hs;exact h' a e p s σ H x y v u Q I g i q hs
theorem pe_ix(i:LX X r)(f:PE X a ta)(e:PE X b tb)(hs:uD b):PE X (.Subscript a b pos) (OA r ta tb):=by intro p s σ H Q I h;exact Subscript_<|binT f e I h λv u n x y c d g j q=>i a b p n σ c x y v u Q d g j q<|hs _ _
def rIxL(K:v6):R2:=λx y H Q=>∃p xs i v,x=.ref p/\y=.int i/\J0 K H p xs/\atI xs i=a7 v/\Q v H
def rIxT(K:v6):R2:=λx y H Q=>∃p xs i v,x=.ref p/\y=.int i/\B9 K H p xs/\atI xs i=a7 v/\Q v H
def rIxS:R2:=λx y H Q=>∃z i c,x=.str z/\y=.int i/\z.length<=sizeLine/\atI z.cps.toList i=a7 c/\Q (.str ⟨#[c]⟩) H
theorem FX:LX X (rIxL X.K):=by
 intro c e a s σ H x y v u Q I B C h hs;obtain⟨p,xs,i,z,rfl,rfl,A,m,q⟩:=h;cases B;obtain⟨t,rfl⟩:=C;obtain⟨its,r,l,F⟩:=I.list A;obtain⟨j,h1,h2,D,g,k⟩:=uB m;obtain⟨w,d,b⟩:=r.get h2;have o:=r.length;have E:=nL;have n:EP X a σ Q w s:=⟨z,H,I,b,q⟩
 by_cases f:0<=i;have L:i.toNat=j:=by rw[seqIndex_of f k]at h1;exact C7 h1
 exact item_listR l.isList f (by lia) (by rw[L];simpa using d) n hs;have L:(i+(its.toArray.size:Int)).toNat=j:=by rw[seqIndex_neg (by lia) g]at h1;rw[B7,<-o];exact C7 h1
 exact subscriptTail_builtinR (x:=w) l.isList.typeIs slot_list_getitem.lookup (wpAny_getItem_list_neg (Q:=λr s'=>r=w/\EP X a σ Q r s') l.isList (by lia) (by rw[B7]<;>lia) (by lia) (by rw[L];simpa using d) ⟨rfl,n⟩) hs
theorem Jy:LX X (rIxT X.K):=by
 intro c e a s σ H x y v u Q I m o h hs;obtain⟨p,xs,i,z,rfl,rfl,k,f,q⟩:=h;cases m;obtain⟨t,rfl⟩:=o;obtain⟨its,r,l,E⟩:=I.tuple k;obtain⟨j,h1,h2,A,B,C⟩:=uB f;obtain⟨w,d,b⟩:=r.get h2;have g:=r.length;have D:=nL;have n:EP X a σ Q w s:=⟨z,H,I,b,q⟩
 exact subscriptTail_builtinR (x:=w) l.typeIs slot_tuple_getitem.lookup (getItem_tuple (j:=j) (Q:=λr s'=>r=w/\EP X a σ Q r s') l (by lia) (by lia) (by rw[B7,<-g];exact h1) (by simpa using d) ⟨rfl,n⟩) hs
theorem Jz:LX X rIxS:=by
 intro a e p s σ H x y v u Q I r m h hs;obtain⟨z,i,c,rfl,rfl,w,f,q⟩:=h;obtain⟨t,rfl⟩:=r;obtain⟨t',rfl⟩:=m;obtain⟨j,h1,h2,n,d,k⟩:=uB f;have g:z.cps.toList.length=z.length:=by simp[Str.length]
 rw[g]at h1 d k;have o:=nL;exact tail_any (typeIs_str s z t) slot_str_getitem.lookup (getItem_str (c:=c) (by have b:decide (i < -(2 ^ 63:Int))=bt:=dF_ (by lia);have l:decide (i ≥ 2 ^ 63)=bt:=dF_ (by lia);rw[b,l,Bool.or_false]) (by rw[h1];simpa using h2) ⟨.str ⟨#[c]⟩,H,I.tok _,⟨_,rfl⟩,q⟩) hs
def rIx(K:v6):R2:=λx y H Q=>rIxL K x y H Q\/rIxT K x y H Q\/rIxS x y H Q
theorem JA:LX X (rIx X.K):=FX.or<|Jy.or Jz
theorem xb(its:List b7)(n j:Nat)(u:b7):Ly (·.setIfInBounds j u) { cls:=.type "list",data:=.seq its.toArray n }={ cls:=.type "list",data:=.seq (its.set j u).toArray n }:=by simp[Ly]
theorem u6.lst(I:u6 X pins σ H s)(h:H p=a7 (.lst xs)):∃(its:List b7) (n:Nat),aw xs its/\s.heap.get? p=a7 { cls:=.type "list",data:=.seq its.toArray n }/\xs.length<=sizeLine:=by obtain⟨z,its,n,r,e⟩:=I.hok p _ h;exact⟨its,n,r,e,z⟩
theorem u6.lstUpd{pins:List (d5×d6)}{σ:St}{H:Hp}{s:f7}{p:d5}{xs ys:List V}{its its':List b7}{n a:Nat}{f:d6->d6}(I:u6 X pins σ H s)(h:H p=a7 (.lst xs))(B:s.heap.get? p=a7 { cls:=.type "list",data:=.seq its.toArray n }) (c:f { cls:=.type "list",data:=.seq its.toArray n }={ cls:=.type "list",data:=.seq its'.toArray a }) (r:aw ys its') (hz:ys.length<=sizeLine) (t:Nat):u6 X pins σ (z5 H p<|.lst ys) { s with heap:=s.heap.update p f,toks:=t }:=by
 have e:(s.heap.update p f).get? p=a7 { cls:=.type "list",data:=.seq its'.toArray a }:=by rw[Lw f B (by rw[c]<;>rfl),c]
 refine I.write (x:=p) (e:=p) (by rw[h];trivial) (.inl rfl) (λb u d q=>(Ou _ _<|A1 d).trans q) ⟨_,e⟩ ?_;exact⟨hz,its',a,r,e⟩
def rSetL:V->V->V->Hp->(Hp->Prop)->Prop:=λo i v H Q=>∃p xs k j,o=.ref p/\i=.int k/\H p=a7 (.lst xs)/\L7 xs.length k=a7 j/\Q (z5 H p<|.lst<|xs.set j v)
theorem Bo:PSet X rSetL:=by
 intro a s σ H o i v A y u Q I m l w h;obtain⟨p,xs,k,j,rfl,rfl,hp,L,q⟩:=h;cases m;obtain⟨t,rfl⟩:=l;obtain⟨its,n,r,B,z⟩:=I.lst hp;obtain⟨h1,h2,e,f⟩:=zG L;have g:=r.length;have x:=nL;have c:u6 X a σ (z5 H p<|.lst<|xs.set j v) { s with heap:=s.heap.update p (Ly (·.setIfInBounds j u)) }:=I.lstUpd hp B (xb its n j u) (r.set w j) (by rw[M9];exact z) s.toks;by_cases d:0<=k;have b:k.toNat=j:=by rw[seqIndex_of d f]at h1;exact C7 h1
 exact PySem.W.ki_setAt B d (by lia) (by rw[B7,<-g];exact f) (by rw[b];exact⟨_,c,q⟩);have b:(k+(its.toArray.size:Int)).toNat=j:=by rw[seqIndex_neg (by lia) e]at h1;rw[B7,<-g];exact C7 h1
 exact PySem.W.ki_setBack B (by lia) (by rw[B7,<-g];exact e) (by lia)<|by rw[b];exact⟨_,c,q⟩
theorem qK(lo hi:Option Int)(n:Nat):(m7 lo hi a8 n).1=((HT.sIx n 0 lo:Nat):Int)/\(m7 lo hi a8 n).2.1=((HT.sIx n n hi:Nat):Int)/\(m7 lo hi a8 n).2.2=1:=by
 refine⟨?_,?_,rfl⟩;cases lo with
 |none=>simp[m7,HT.sIx]
 |some i=>simp only[m7,HT.sIx,Option.getD_none,show (1:Int) > 0 by decide,t8];by_cases h:i<0;simp only[h,t8]<;>lia;simp only[h,t7]<;>lia
 cases hi with
 |none=>simp[m7,HT.sIx]
 |some i=>simp only[m7,HT.sIx,Option.getD_none,show (1:Int) > 0 by decide,t8];by_cases h:i<0;simp only[h,t8]<;>lia;simp only[h,t7]<;>lia
theorem ou(its:List b7)(lo hi:Option Int):slicePick its.toArray lo hi a8=((its.drop<|HT.sIx its.length 0 lo).take<|HT.sIx its.length its.length hi-HT.sIx its.length 0 lo).toArray:=by obtain⟨h1,h2,a⟩:=qK lo hi its.toArray.size;unfold slicePick;rw[h1,h2,a];simp only[sliceRange_one,pick_run,B7]<;>rfl
def rSlL(K:v6):V->Option Int->Option Int->Hp->VK->Prop:=λx l hi H Q=>∃a xs,x=.ref a/\J0 K H a xs/\∀p,H p=a8->Q (.ref p) (z5 H p<|.lst<|Eg xs l hi)
theorem Ew:OL X (rSlL X.K):=by intro p s σ H x v f i l hi m Q I g hs d u h;obtain⟨a,xs,rfl,c,q⟩:=h;cases g;obtain⟨its,r,D,z⟩:=I.list c;have n:=r.length;refine⟨"list",_,slot_list_getitem.lookup,D.isList.typeIs,?_⟩;refine wpAny_getItem_list_slice D.isList hs d u .none (by simp) ?_ (by rw[B7]<;>lia);rw[ou,<-n];refine⟨.ref s.heap.objs.size,_,I.laid (t':=s.toks) (o:=.lst<|Eg xs l hi) (λb e q=>z6 _ q) (w5 _) ?_,rfl,q _<|I.hok.fresh<|w5 _⟩;exact⟨H9 (mi xs l hi) z,_,0,(r.drop<|HT.sIx xs.length 0 l).take<|HT.sIx xs.length xs.length hi-HT.sIx xs.length 0 l,C5 _ rfl⟩
theorem sE:dH X (.builtin "len") (λxs H Q=>∃p ys,xs=[.ref p]/\(J0 X.K H p ys\/B9 X.K H p ys)/\Q (.int ys.length) H):=by intro b s σ H xs us Q I r h;obtain⟨p,ys,rfl,a,q⟩:=h;obtain⟨u,rfl,g⟩:=Bb r;cases g;have f:=nL;rcases a with a|a;obtain⟨its,r',l,z⟩:=I.list a;have n:=r'.length;exact Calls.call_len_list l.isList (by simp only[B7]<;>lia) ⟨.int ys.length,H,I.tok _,⟨s.toks+1,by rw[B7,n]⟩,q⟩;obtain⟨its,r',l,z⟩:=I.tuple a;have n:=r'.length;exact len_tuple l (by simp only[B7]<;>lia) ⟨.int ys.length,H,I.tok _,⟨s.toks+1,by rw[B7,n]⟩,q⟩
theorem sD:dH X (.builtin "len") (λxs H Q=>∃z,xs=[.str z]/\z.length<=sizeLine/\Q (.int z.length) H):=by intro p s σ H xs us Q I r h;obtain⟨z,rfl,b,q⟩:=h;obtain⟨u,rfl,t,rfl⟩:=Bb r;have f:=nL;exact len_str (by lia) ⟨.int z.length,H,I.tok _,⟨_,rfl⟩,q⟩
theorem dH.or(h:dH X f r)(h':dH X f r'):dH X f (λxs H Q=>r xs H Q\/r' xs H Q):=by intro p s σ H xs us Q I a q;rcases q with q|q;exact h p s σ H xs us Q I a q;exact h' p s σ H xs us Q I a q
theorem sC:dH X (.type "list") (λxs H Q=>∃p ys,xs=[.ref p]/\(J0 X.K H p ys\/B9 X.K H p ys)/\∀l,H l=a8->Q (.ref l) (z5 H l<|.lst ys)):=by
 intro d s σ H xs us Q I r h;obtain⟨p,ys,rfl,c,q⟩:=h;obtain⟨u,rfl,x⟩:=Bb r;cases x;have f:∀(its:List b7),aw ys its->ys.length<=sizeLine->∀(h':d7) (U:Nat),(∀b o',s.heap.get? b=a7 o'->h'.get? b=a7 o') -> h'.get? s.heap.objs.size=a7 { cls:=.type "list",dict:=a8,data:=.seq its.toArray U,slots:=#[] }->EP X d σ Q (.ref s.heap.objs.size) { s with heap:=h' }:=λits r' z h' U k e =>
  ⟨.ref s.heap.objs.size,_,I.laid (t':=s.toks) k (w5 _)<|show bE X.prog X.w _ h' _ (.lst ys)from⟨z,its,U,r',e⟩,rfl,q _<|I.hok.fresh<|w5 _⟩
 rcases c with c|c;obtain⟨its,r',j,z⟩:=I.list c;have a:=r'.length;obtain⟨o,B,g,n,i⟩:=j.isList;exact call_list_seq p (.inl rfl) B g i (λh' U k e=>f its r' z h' U k e) (by simp only[B7]<;>lia);obtain⟨its,r',j,z⟩:=I.tuple c;have a:=r'.length;obtain⟨o,B,g,n,i⟩:=j;exact call_list_seq p (.inr rfl) B g i (λh' U k e=>f its r' z h' U k e)<|by simp only[B7]<;>lia
theorem pj:dH X (.type "tuple") (λxs H Q=>∃p ys,xs=[.ref p]/\((J0 X.K H p ys/\∀l,H l=a8->Q (.ref l) (z5 H l<|.tup ys))\/(B9 X.K H p ys/\Q (.ref p) H))):=by
 intro a s σ H xs us Q I r h;obtain⟨p,ys,rfl,h⟩:=h;obtain⟨u,rfl,x⟩:=Bb r;cases x;rcases h with⟨c,q⟩|⟨c,q⟩
 obtain⟨its,r',d,z⟩:=I.list c;have n:=r'.length;refine call_tuple_list d.isList (λh' k=>?_) (by simp only[B7]<;>lia);have f:u6 X a σ H { s with heap:=h' }:=I.kept (t':=s.toks) k;have g:u6 X a σ (z5 H h'.objs.size<|.tup ys) { s with heap:=h'.push { cls:=.type "tuple",data:=.seq its.toArray } }:=f.laid (t':=s.toks) (λb o e=>z6 _ e) (w5 _)<|show bE X.prog X.w _ _ _ (.tup ys)from⟨z,its,r',Dr.new _ _⟩;exact⟨.ref h'.objs.size,_,g,rfl,q _<|f.hok.fresh<|w5 _⟩;obtain⟨its,r',d,z⟩:=I.tuple c;exact call_tuple_same d ⟨.ref p,H,I,rfl,q⟩
def QQ(K:v6)(T:String)(x:V)(H:Hp):Prop:=match x with
 |.str _=>T = "str"
 |.int _=>T = "int"
 |.ref p=>(T = "list"/\∃xs,J0 K H p xs)\/(T = "tuple"/\∃o,K.lookup p=a7 o/\o.cls=.type "tuple"/\o.dict=a8) \/(T = "dict"/\((∃kvs,H p=a7 (.dK kvs))\/∃kvs,H p=a7 (.dT kvs)))\/(T = "set"/\∃S n,H p=a7 (.set S n))
 |_=>False
theorem Ds(I:u6 X pins σ H s)(r:aJ x v)(y:QQ X.K T x H):s.TypeIs v T/\∀a,v=.ref a->∃ob,s.heap.get? a=a7 ob/\ob.dict=a8:=by
 cases x with
 |str z=>obtain⟨t,rfl⟩:=r;cases (show T = "str" from y);exact⟨typeIs_str s z t,λ_ e=>nomatch e⟩
 |int i=>obtain⟨t,rfl⟩:=r;cases (show T = "int" from y);exact⟨typeIs_int s i t,λ_ e=>nomatch e⟩
 |ref p =>
  cases r;rcases y with⟨rfl,xs,q⟩|⟨rfl,o,k,h,d⟩|⟨rfl,k⟩|⟨rfl,S,n,k⟩
  obtain⟨its,_,f,_⟩:=I.list q;refine⟨f.isList.typeIs,λa e=>?_⟩;cases e;obtain⟨o,n,e,c,d,_⟩:=f;exact⟨o,e,d⟩;refine⟨⟨o,I.kIn p o k,h⟩,λa e=>?_⟩;cases e;exact⟨o,I.kIn _ o k,d⟩;have z:∃o,s.heap.get? p=a7 o/\o.ExactDict:=by
   rcases k with⟨kvs,k⟩|⟨kvs,k⟩
   obtain⟨_,_,_,_,o,_,_,e,b,_⟩:=I.hok p _ k;exact⟨o,e,b⟩;obtain⟨_,_,_,_,o,_,_,e,b,_⟩:=I.hok p _ k;exact⟨o,e,b⟩
  obtain⟨o,e,b⟩:=z;refine⟨⟨o,e,b.1⟩,λa l=>?_⟩;cases l;exact⟨o,e,b.2.1⟩;obtain⟨o,_,_,_,e,b,_⟩:=I.hok p _ k;refine⟨⟨o,e,b.1⟩,λa l=>?_⟩;cases l;exact⟨o,e,b.2.1⟩
 |_=>exact G5 y
def tBM0(K:v6)(T:String)(r:V->List V->Hp->VK->Prop)(d:TE):TE:=λσ H Q=>d σ H λx H1=>QQ K T x H1/\r x [] H1 Q
def tBM(K:v6)(T:String)(r:V->List V->Hp->VK->Prop)(d:TE)(t:TA):TE:=λσ H Q=>d σ H λx H1=>QQ K T x H1/\t σ H1 λxs a=>r x xs a Q
variable{o e:g7}{es:List g7}{to:TE}{t:TA}{name:c7}{apos cpos:i3}{T id:String}{r:V->List V->Hp->VK->Prop}
theorem Iq(f:PlainAttrs T)(slot:Slot T name id)(y:m8 (.builtin id)=pure (.type "method_descriptor"))(d:Ln X id r)(B:PE X o to)(e:m9 o name X.env (eval o X.env)=eval o X.env:=by rfl) (a:(apos.endLine==cpos.line)=a9:=by rfl):PE X (.Call (.Attribute o name apos) [] [] cpos) (tBM0 X.K T r to):=by intro p s σ H Q I h;refine wpAny_Call_method0_late e a<|x6 (B p s σ H _ I h) ?_;rintro v g ⟨x,H1,b,c,t,q⟩;obtain⟨h1,h2⟩:=Ds b c t;exact⟨T,id,f,slot,y,h1,h2,Ot rfl<|PySem.evalArgs_none<|d p g σ H1 x [] v [] Q b c .nil q⟩
theorem Ir(l:PlainAttrs T)(slot:Slot T name id)(y:m8 (.builtin id)=pure (.type "method_descriptor"))(k:Ln X id r)(B:PE X o to)(j:PA X (e::es) t)(b:m9 o name X.env (eval o X.env)=eval o X.env:=by rfl)(w:((i4 cpos<|i5 (e::es) X.env).all (λx=>!x.1)&&(n5 cpos<|n6 [] X.env).all (λx=>x.1.isSome) && decide ((e::es).length+([]:List l8).length+(if ([]:List l8).isEmpty then 0 else 1)<30))=a9:=by rfl)(c:(apos.endLine==cpos.line)=a9:=by rfl) (hs:i5 (e::es) X.env=(bt,eval e X.env)::i5 es X.env:=by rfl) (n:(i4 cpos<|i5 es X.env).any (·.1)=bt:=by rfl):PE X (.Call (.Attribute o name apos) (e::es) [] cpos) (tBM X.K T r to t):=by intro p s σ H Q I h;refine QA b w c rfl<|x6 (B p s σ H _ I h) ?_;rintro v C ⟨x,H1,d,f,E,q⟩;obtain⟨h1,h2⟩:=Ds d f E;refine⟨T,id,l,slot,y,h1,h2,?_⟩;have A:=j cpos p C σ H1 _ d q;rw[hs]at A ⊢;refine Ot (by show (bt||(i4 cpos<|i5 es X.env).any (·.1))=bt;rw[n]<;>rfl)<|Po ?_;refine x6 A ?_;rintro us D ⟨vs,g,i,z,u⟩;exact k p D σ g x vs v us Q i f z u
/- xs.append(e),list.index on a module's tuple .. are Ln facts of 06m -/
end
def Rw(X:Cx)(id:String)(r:V->List V->Hp->VK->Prop):Prop:=∀(p:List (d5×d6)) (s:f7) (σ:St) (H:Hp) (x:V) (xs:List V) (v:b7) (us:List b7) (Q:VK),u6 X p σ H s->aJ x v->aw xs us->r x xs H Q ->ge (g9 X.prog X.w) X.A (call (.builtin id)<|v::us) (EP X p σ Q) X.xe s
theorem aw.one(h:aw [x] us):∃u,us=[u]/\aJ x u:=by
 cases h with
 |cons r t=>cases t;exact⟨_,rfl,r⟩
theorem aw.two(h:aw [x,y] us):∃u v,us=[u,v]/\aJ x u/\aJ y v:=by
 cases h with
 |cons r t=>obtain⟨v,e,q⟩:=aw.one t;subst e;exact⟨_,v,rfl,r,q⟩
theorem aw.zero:∀{us:List b7},aw [] us->us=[]
 |_,.nil=>rfl
section
variable{X:Cx}{pins:List (d5×d6)}{σ:St}{H:Hp}{s:f7}{l b:d5}{xs ys zs:List V}
theorem u6.lset{its its':List b7}{n:Nat}{f:Array b7->Array b7}{t':Nat}(I:u6 X pins σ H s)(h:H l=a7 (.lst xs))(e:s.heap.get? l=a7 { cls:=.type "list",data:=.seq its.toArray n }) (a:f its.toArray=its'.toArray) (c:aw ys its') (hz:ys.length<=sizeLine):u6 X pins σ (z5 H l<|.lst ys) { s with heap:=s.heap.update l<|Ly f,toks:=t' }:=by have q:=PySem.IsL.update e f;rw[a]at q;refine I.write (x:=l) (e:=l) (by rw[h];exact trivial) (.inl rfl) (λb u d g=>(Ou s.heap (Ly f)<|A1 d).trans g) ⟨_,q⟩ ?_;exact⟨hz,its',_,c,q⟩
theorem u6.lnew(I:u6 X pins σ H s)(c:aw ys its)(hz:ys.length<=sizeLine):u6 X pins σ (z5 H s.heap.objs.size<|.lst ys) { s with heap:=s.heap.push { cls:=.type "list",data:=.seq its.toArray },toks:=t' }:=I.laid (λ_ _ q=>z6 _ q) (w5 _) ⟨hz,its,0,c,C5 _ rfl⟩
theorem u6.fresh(I:u6 X pins σ H s):H s.heap.objs.size=a8:=I.hok.fresh<|w5 _
theorem u6.lstM(I:u6 X pins σ H s)(h:H l=a7 (.lst xs)):xs.length<=sizeLine/\∃(its:List b7) (n:Nat),aw xs its/\xs.length=its.length/\s.heap.get? l=a7 { cls:=.type "list",data:=.seq its.toArray n }:=by obtain⟨z,its,n,r,e⟩:=I.hok l _ h;exact⟨z,its,n,r,r.length,e⟩
end
section
variable{X:Cx}
def ED:V->List V->Hp->VK->Prop:=λx vs H Q=>∃l xs y,x=.ref l/\vs=[y]/\H l=a7 (.lst xs)/\xs.length<sizeLine/\Q .non (z5 H l<|.lst<|xs++[y])
theorem yX:Rw X "list.append" ED:=by intro p s σ H x vs v us Q I g d h;obtain⟨l,xs,y,rfl,rfl,a,c,q⟩:=h;cases g;obtain⟨u,rfl,T⟩:=d.one;obtain⟨z,its,n,r,b,e⟩:=I.lstM a;refine call_meets F.slot_list_append ⟨_,e,rfl⟩ F.entry_list_append (F.args_list_append_2 _ _) (PySem.list_append l its.toArray n u<|by rw[B7];lia) ⟨e,?_⟩;refine⟨.non,_,I.lset (its':=its++[u]) a e (by simp) (r.append<|.cons T .nil) ?_,rfl,q⟩;rw[D5,Ll];lia
def HL:V->List V->Hp->VK->Prop:=λx vs H Q=>∃l xs,x=.ref l/\vs=[]/\H l=a7 (.lst xs)/\Q .non (z5 H l<|.lst [])
theorem BT:Rw X "list.clear" HL:=by intro p s σ H x vs v us Q I g d h;obtain⟨l,xs,rfl,rfl,b,q⟩:=h;cases g;have a:=d.zero;subst a;obtain⟨z,its,n,r,c,e⟩:=I.lstM b;refine call_meets F.slot_list_clear ⟨_,e,rfl⟩ F.entry_list_clear (F.args_list_clear_1 _) (AutoSeq1.list_clear_list_0 l its.toArray n<|by rw[B7];lia) ⟨e,?_⟩;exact⟨.non,_,I.lset (its':=[]) (ys:=[]) b e rfl .nil<|C4 _,rfl,q⟩
def rCat:R2:=λx y H Q=>∃l b xs s,x=.ref l/\y=.ref b/\H l=a7 (.lst xs)/\H b=a7 (.lst s)/\xs.length+s.length<=sizeLine/\∀p,H p=a8->Q (.ref p) (z5 H p<|.lst<|xs++s)
theorem IC:D7 X (j6 .Add) rCat:=by
 intro p s σ H x y v u Q I j k h;obtain⟨l,b,xs,A,rfl,rfl,d,hB,o,q⟩:=h;cases j;cases k;obtain⟨z,its,n,r,m,e⟩:=I.lstM d;obtain⟨w,i,t,g,f,a⟩:=I.lstM hB;refine PySem.P.add_list e a ?_ (by rw[B7,B7];lia);have c:its.toArray++i.toArray=(its++i).toArray:=by simp
 rw[c];exact⟨.ref _,_,I.lnew (t':=s.toks) (r.append g) (by rw[D5];lia),rfl,q _ I.fresh⟩
end
end L2
namespace Att
open PySem PySem.W PySem.Calls PyProof.Rows
theorem lX:∀(ns:List Int) (vs:List b7),WellAll P h vs (ns.map WData.int)->IntsAre vs ns:=by
 intro ns;induction ns with
 |nil=>intro vs w;rw[Oc]at w;cases w;exact .nil
 |cons n ns i =>
  intro vs w;rw[C9]at w;cases w with
  |cons a b=>cases a;exact .cons _ _<|i _ b
theorem yx{l:OpenLaw}{n:Nat}(o:l.most=a7 n){P:Params}{h:d7}{args:List WData}{s:List b7}(e:l.row.toRowW.claim.pre args=a9) (i:WellAll P h s args):∃a vs ns,s=[E6 a]/\args=[WData.list<|ns.map WData.int]/\h.get? a=a7 { cls:=.type "list",data:=.seq vs.toArray }/\IntsAre vs ns/\ns.length<=n:=by
 have g:WShape.hasAll [] args [.list .int]=a9:=(pre_splitW e).1;have j:l.pre.holds [] { args:=args }=a9:=(pre_splitW e).2;obtain⟨d,r,rfl,h1,h2⟩:=hasAllW_cons g;obtain rfl:=hasAllW_nil h2;obtain⟨xs,rfl,m⟩:=hasW_list h1;obtain⟨ns,rfl⟩:=items_int m;have c:ns.length<=n:=by
  unfold OpenLaw.pre at j;have f:(WTm.not<|.lt (.lit<|.int (n:Int))<|.len<|.arg 0).holds [] { args:=[.list<|ns.map .int] }=a9:=by have f:=(holds_andW j).1;rw[o]at f;exact f
  have k:=condW_of f<|w_not<|w_lt w_lit<|w_len_list<|w_arg rfl;rw[x3]at k;refine Nat.le_of_not_lt λq=>?_;have p:(n:Int)<((ns.length:Nat):Int):=by lia
  first
   |(rw[dT_ p]at k;exact t4 k (by decide))
   |(simp at k;lia)
 cases i with
 |cons w t =>
  cases t;cases w with
  |list B b=>exact⟨_,_,ns,rfl,rfl,B,lX ns _ b,c⟩
theorem yE(l:OpenLaw)(args:List WData):l.row.toRowW.claim.post args (.bool a9) args=a9:=postW_of (r:=l.row.toRowW) (X:=(a9==a9))
  (show WShape.has [] (.bool a9) .bool=a9 by first|rfl|decide|simp[WShape.has,WShape.arms,WShape.armsAll])
  (show (WTm.eq .res<|.lit<|.bool a9).value [] { args:=args,res:=a7<|.bool a9,after:=args }=a7 (.bool<|a9==a9)from w_eq_bool (w_res rfl) w_lit) rfl
theorem attach_call{l:OpenLaw}{n:Nat}{q:c9}{e:List c7}{P:(c7->Option b7)->d7->Prop}{YP:c8->d7->Prop}{d:DefRec}(A:l.most=a7 n) (i:d.params.defaults=[])(c:∀(w:c8) (s₀ s₁:f7) (mg mb:c7->Option b7) (fa:d5) (o:d6) (pm cd doc:b7) (a:d5) (vs:List b7) (ns:List Int),Ground q e [] P w s₀ mg mb s₁.heap->YP w s₁.heap -> s₁.heap.get? fa=a7 o->o.data=.func (docDef d.name d.params d.body d.scope pm cd doc)->s₁.heap.CodeRec cd d.name->mg d.name=a7 (.ref fa) ->s₁.heap.get? a=a7 { cls:=.type "list",data:=.seq vs.toArray }->IntsAre vs ns->ns.length<=n->s₁.gens = #[] ->k9 (g9 l.prog w) callerA (.call (.ref fa) ⟨[.ref a],[]⟩) (λr s'=>r=.ok (.ret<|.bool a9)/\OldK s₁.heap s'.heap/\s'.os=s₁.os/\f9 s'.gens) s₁):WalkO q e P YP l.row.toRowW d [] (λf vs=>PySem.call f vs):=by intro w s₀ s₁ mg mb G Y fa o pm cd doc T kV B u g D k R O v F b y E m x;obtain rfl:T=.none:=Dflts.none D i;obtain rfl:kV=.none:=Dflts.noKw D;obtain⟨a,vs,ns,rfl,rfl,j,s,h⟩:=yx A b m;refine enter_call<|MK (c w s₀ s₁ mg mb fa o pm cd doc a vs ns G Y B (fd_plain u) g k j s h R) λr s' C=>?_;obtain⟨rfl,h2,p,t⟩:=C;exact⟨.inl ⟨.bool a9,.bool a9,[],rfl,λ_=>rfl,.bool a9,yE l _,λ_=>⟨Ql,λ_ z=>(nomatch z)⟩⟩,h2,p,t⟩
section
variable{prog:c9}{w:c8}{A:f6}{E:b7->f7->Prop}{s:f7}{K:Frag}
noncomputable def vM(h:d7):d7:={ h with objs:=#[] }
theorem jb(h:d7)(b:d5):(vM h).get? b=a8:=by
 cases e:(vM h).get? b with
 |none=>rfl
 |some o=>exact t4 (A0 e)<|M8 _
noncomputable def ledger(h:d7)(L d:d5):List (d5×d6):=(D3 h.objs.size).filterMap λa=>if a=L\/a=d then a8 else(h.get? a).map λo=>(a,o)
theorem mem_ledger:(a,o)∈ledger h L d↔a≠L/\a≠d/\h.get? a=a7 o:=by unfold ledger;rw[Qt];constructor;rintro⟨b,_,e⟩;split at e;cases e;rename_i c;obtain⟨o',B,f⟩:=Mp.mp e;cases f;exact⟨λq=>c<|.inl q,λq=>c<|.inr q,B⟩;rintro⟨n1,n2,B⟩;refine⟨a,Ix.mpr<|A0 B,?_⟩;rw[r9<|show ¬(a=L\/a=d)from λq=>q.elim n1 n2,B]<;>rfl
theorem news_ledger(b:d≠L)(B:h.get? d=a7 od):News (vM h) L h ([]++(d,od)::ledger h L d):=by rintro⟨a,o⟩ hp;rcases A4.mp hp with e|hp;cases e;exact⟨B,b,jb _ _⟩;obtain⟨n,c,e⟩:=mem_ledger.mp hp;exact⟨e,n,jb _ _⟩
theorem fr_all(n:h.Ns L m):Fr (vM h) L h m:=⟨n,λb o e=>(by rw[jb]at e;cases e),C4 _⟩
end
end Att
namespace L2
open PySem PySem.Spec PyProof.Rows
theorem pJ:∀{vs:List b7}{ns:List Int},IntsAre vs ns->aw (ns.map V.int) vs
 |_,_,.nil=>.nil
 |_,_,.cons n t h=>.cons ⟨t,rfl⟩<|pJ h
def Only(H:Hp):Prop:=∀b,H b=a8\/∃o xs,H b=a7 (.frz o<|.lst xs)
theorem Cb{P:c9}{w:c8}{K:v6}{mg mb:c7->Option b7}{CX:L8}{k:Nat}{I a:d5}{R:k7}{x:c7}{sp:Sp}{s₁:f7}{vs:List b7}{ns:List Int}(O:K.In s₁.heap) (y:s₁.heap.Ns e7 mg) (c:s₁.heap.Ns builtinsNs mb) (J:∀x:c7,x≠"__name__"->mb x=e8 x) (t:s₁.heap.NoLimit) (hg:s₁.gens = #[])(D:s₁.heap.get? a=a7 { cls:=.type "list",data:=.seq vs.toArray }) (hi:IntsAre vs ns) (U:ns.length<=sizeLine) (hr:Room k callerA)(F:∀base:d7,K.In base->base.Ns e7 mg->FnOk P w K mg base CX k I R [x] sp) (j:∀(s:f7) (u:b7),BindsTo s R ⟨[u],[]⟩ [(x,u)])(M:∀H:Hp,Only H->J0 K H a (ns.map V.int)->sp [.ref a] H (λv _=>v=.bl a9) λ_ _ _=>False)(X:∀H e s',CX [] H s₁ (λ_ _ _=>False) e s'->False):k9 (g9 P w) callerA (.call (.ref I) ⟨[.ref a],[]⟩) (λr s'=>r=.ok (.ret<|.bool a9)/\OldK s₁.heap s'.heap/\s'.os=s₁.os/\f9 s'.gens) s₁:=by
 have W:=pJ hi;have C:=hi.length
 -- from an abstract heap in which nothing but the script may be tracked
 have i:∀H:Hp,Only H->J0 K H a (ns.map V.int)->D4 P w H s₁.heap->(∀b,H b≠a8->b=a)->(H a≠a8->K.lookup a=a8) -> k9 (g9 P w) callerA (.call (.ref I) ⟨[.ref a],[]⟩) (λr s'=>r=.ok (.ret<|.bool a9)/\OldK s₁.heap s'.heap/\s'.os=s₁.os/\f9 s'.gens) s₁:=by
  intro H T hS A S hK;have f:∀{b:d5}{o:d6},s₁.heap.get? b=a7 o->H b=a8->(Cy s₁.heap H).get? b=a7 o:=λe n=>Cw e n;have N:∀{b:d5}{o:d6}{es:Array n9}{ep:Nat},s₁.heap.get? b=a7 o->o.data=.dict es ep->H b=a8:=λ{b o es ep} e d=>by
   cases q:H b with
   |none=>rfl
   |some u=>have E:b=a:=S b (by rw[q];simp);subst E;rw[D]at e;cases e;have Z:Data.seq vs.toArray _=Data.dict es ep:=d;cases Z
  have g:∀{b:d5}{m:c7->Option b7},s₁.heap.Ns b m->(Cy s₁.heap H).Ns b m:=λ{b m} ⟨o,es,ep,e,d,r⟩=>⟨o,es,ep,f e<|N e d,d,r⟩
  have p:K.In (Cy s₁.heap H):=λb o e=>f (O b o e) (by
   cases q:H b with
   |none=>rfl
   |some u=>have E:b=a:=S b (by rw[q];simp);subst E;rw[hK<|by rw[q];simp]at e;cases e)
  have hM:Mod K mg (Cy s₁.heap H):=⟨p,g y,⟨mb,g c,J⟩,let ⟨mc,h1,h2⟩:=t;⟨mc,g h1,h2⟩⟩
  have e0:Env0 P w K mg (Cy s₁.heap H) callerA [] s₁ H:=⟨rfl,hM,λb o e=>Fh e,Nat.le_of_eq<|zM _ _,trivial,λb c=>t4 (show b∈([]:List d5)from c) (by simp),A,.of_eq hg⟩
  refine MK ((F _ p<|g y).run callerA [] s₁ H ⟨[.ref a],[]⟩ [.ref a] [.ref a] _ _ hr e0 (j s₁<|.ref a) (.cons rfl .nil)<|M H T hS) λr s' h=>?_;cases r with
  |error e=>exact(X H e s' h).elim
  |ok fl =>
   cases fl with
   |next=>exact G5 h
   |brk=>exact G5 h
   |cont=>exact G5 h
   |ret u =>
    obtain⟨v,H',os,l,Y,B,r',q⟩:=h;have q':v=.bl a9:=q;subst q';obtain rfl:u=MH a9:=r';refine⟨rfl,OldK.of_keep λb o e=>?_,os,l⟩;cases q:H b with
    |none=>exact Y.keep b o e q (by intro z;exact t4 (show b∈([]:List d5)from z)<|by simp)<|by simp
    |some u =>
     rcases T b with z|⟨ob,xs,z⟩
     rw[q]at z;cases z;have z2:=Y.frzs b ob _ z;obtain⟨Q,_⟩:=A b _ z;obtain⟨e2,_⟩:=B b _ z2;rw[e]at Q;cases Q;exact e2
 cases L:K.lookup a with
 |some o =>
  -- the script is one of the module's own objects
  have e:=O a o L;rw[D]at e;cases e;refine i (λ_=>a8) (λ_=>.inl rfl) (.inr ⟨_,vs.toArray,_,L,rfl,rfl,rfl,by rw[B7,C];exact U,by simpa using W⟩) (λb u z=>by have G:(a8:Option HO)=a7 u:=z;cases G) (λb z=>t4 rfl z) λz=>t4 rfl z
 |none=>refine i (λb=>if b=a then a7 (.frz { cls:=.type "list",data:=.seq vs.toArray }<|.lst<|ns.map V.int)else a8) (λb=>?_) (.inl<|.inr ⟨{ cls:=.type "list",data:=.seq vs.toArray },p9 rfl⟩) (λb u z=>?_) (λb z=>?_) λ_=>L;by_cases c:b=a;exact .inr ⟨_,_,p9 c⟩;exact .inl<|r9 c;by_cases c:b=a;have G:=(p9 c).symm.trans z;cases G;subst c;exact⟨D,by rw[x3];exact U,vs,_,W,D⟩;have G:=(r9 c).symm.trans z;cases G;by_cases c:b=a;exact c;exact t4 (r9 c) z
noncomputable abbrev KOf{K:v6}{h:d7}(_:K.In h):v6:=K
theorem walk_of{l:PySem.W.OpenLaw}{n k:Nat}{q:c9}{j:List c7}{P:(c7->Option b7)->d7->Prop}{YP:c8->d7->Prop}{d:DefRec}{K:Params->v6}{CX:c8->L8}{sp:c8->Sp}{x:c7}(J:l.most=a7 n) (t:n<=sizeLine) (p:d.params.defaults=[]) (L:Room k callerA)(D:∀(w:c8) (h:d7),YP w h->(K w.params).In h)(F:∀(w:c8) (mg:c7->Option b7) (fa:d5) (h:d7),(K w.params).In h->h.Ns e7 mg->mg d.name=a7 (.ref fa) -> ∃fd:k7,(∀(s:f7) (u:b7),BindsTo s fd ⟨[u],[]⟩ [(x,u)]) /\∀base:d7,(K w.params).In base->base.Ns e7 mg->FnOk l.prog w (K w.params) mg base (CX w) k fa fd [x] (sp w))(z:∀(w:c8) (H:Hp) (a:d5) (ns:List Int),ns.length<=n->Only H->J0 (K w.params) H a (ns.map V.int)->sp w [.ref a] H (λv _=>v=.bl a9) λ_ _ _=>False)(X:∀(w:c8) (H:Hp) (s:f7) (e:b7) (s':f7),CX w [] H s (λ_ _ _=>False) e s'->False):PySem.W.WalkO q j P YP l.row.toRowW d [] (λf vs=>PySem.call f vs):=by refine Att.attach_call J p λw A s₁ mg mb fa o U M B a vs ns G Y Q N I r m i c R=>?_;have y:=D w _ Y;obtain⟨fd,E,C⟩:=F w mg fa _ y G.T.g r;exact Cb y G.T.g G.T.b G.T.builtins G.T.nolimit R m i (H9 c t) L C E (λH O S=>z w H a ns c O S) λH e s'=>X w H s₁ e s'
noncomputable def gU(s:i6):Arguments:=match s with
 |.FunctionDef _ a _ _ _ _ _ _ _ _=>a
 |_=>{ posonlyargs:=[],args:=[],vararg:=a8,kwonlyargs:=[],kw_defaults:=[],kwarg:=a8,defaults:=[] }
noncomputable def bx(s:i6):List i6:=match s with
 |.FunctionDef _ _ b _ _ _ _ _ _ _=>b
 |_=>[]
noncomputable def aq(s:i6):f8:=match s with
 |.FunctionDef _ _ _ _ _ _ sc _ _ _=>sc
 |_=>{ kind:=.function,names:=[],isGenerator:=bt,isCoroutine:=bt }
abbrev K0:L8:=λ_ _ _ _ _ _=>False
abbrev E0:XK:=λ_ _ _=>False
theorem pass0:wo K0 X E0:=λ_ _ _ _ _ _ _ h=>h.elim
structure Me(K:v6)(x qual:c7)(st:i6)(f:d5)(fd:k7):Prop where
 ex:∃(oc:b7) (od:Option d5) (kV doc pm:b7) (an:Option d5) (cdv ct:b7) (osl:Array (Option b7)),fd=Mx x qual (gU st) (bx st) (aq st) .none kV doc pm an cdv ct/\K.lookup f=a7 ⟨oc,od,.func fd,osl⟩/\O4 K cdv qual=a9
 kp:MM K (.ref f)=a9
section
variable{P:c9}{w:c8}{K:v6}{mg:c7->Option b7}{base:d7}
theorem Me.ok{x l:c7}{st:i6}{f:d5}{a:k7}{N ps:List c7}{k:Nat}{sp:Sp}(F:Me K x l st f a)(S:FnScope N ps (aq st))(B:∀vs H Q E,sp vs H Q E->vs.length=ps.length)(y:∀(cdv:b7) (A:f6) (outer:List Env) (s:f7) (H:Hp) (vs:List V) (Q:VK) (E:XK),Room k (A.deeper<|b9 l (aq st) s.heap.objs.size f cdv)->sp vs H Q E -> ∃t,K5 (ph K0 P w K mg base N l (aq st) f cdv A outer s H E).nox (bx st) t/\t { nx:=λ_ H'=>Q .non H',rt:=Q } (start N vs) H):FnOk P w K mg base K0 (k+1) f a ps sp:=by obtain⟨c,j,kV,i,U,M,cdv,R,G,rfl,b,d⟩:=F.ex;refine JZ b d S B λA outer s H vs Q E r z=>?_;obtain⟨t,h,q⟩:=y cdv A outer s H vs Q E r z;exact⟨t,h.nox,q⟩
theorem Me.binds{x l:c7}{st:i6}{f:d5}{d:k7}{ps:List c7}(F:Me K x l st f d)(h:∀(kV doc pm:b7) (an:Option d5) (cdv ct:b7) (us:List b7),us.length=ps.length->bindArgs (Mx x l (gU st) (bx st) (aq st) .none kV doc pm an cdv ct) ⟨us,[]⟩=pure (ps.zip us)):mM K d ps []:=by obtain⟨c,j,kV,doc,pm,an,cdv,ct,G,rfl,b,a⟩:=F.ex;exact .all<|h kV doc pm an cdv ct
theorem JW{x q:c7}{st:i6}{f:d5}{o:b7}{j M:Option d5}{G:Array (Option b7)}{kV i U v R:b7}(l:K.lookup f=a7 ⟨o,j,.func<|Mx x q (gU st) (bx st) (aq st) .none kV i U M v R,G⟩)(c:O4 K v q=a9) (k:MM K (.ref f)=a9):Me K x q st f (Mx x q (gU st) (bx st) (aq st) .none kV i U M v R):=⟨⟨o,j,kV,i,U,M,v,R,G,rfl,l,c⟩,k⟩
end
theorem ay(h:n<=1000):n<sizeLine:=Nat.lt_of_le_of_lt h<|by decide
section
variable{X:Cx}
theorem pv(i:Nat)(h:X.N[i]?=a7 x:=by rfl)(c:NA X.env.scope x:=by first|exact Or.inl rfl|exact Or.inr (Or.inl rfl)|exact Or.inr<|Or.inr rfl)(a:(x==("__debug__":c7))=bt:=by decide)(d:(x==("__classdict__":c7))=bt:=by decide):PE X (.Name x pos) (tVar i):=DB h c a d
end
theorem br{A B:Prop}(h:B):if bt=a9 then A else B:=by rw[r9 MQ];exact h
theorem bC{A B:Prop}(h:A):if a9=a9 then A else B:=by rw[p9 rfl];exact h
section
variable{κ:Type}[DecidableEq κ]
noncomputable def uK(kvs:List (κ×V))(k:κ):Option V:=(kvs.find? λv=>decide<|v.1=k).map (·.2)
noncomputable def putK(kvs:List (κ×V))(k:κ)(v:V):List (κ×V):=if (kvs.any λa=>decide<|a.1=k)=a9 then kvs.map (λa=>if a.1=k then(a.1,v)else a)else kvs++[(k,v)]
theorem uJ{p:κ×V}{r:List (κ×V)}{k:κ}(e:p.1=k):uK (p::r) k=a7 p.2:=by simp[uK,Lr,e]
theorem nX{p:κ×V}{r:List (κ×V)}{k:κ}(e:¬p.1=k):uK (p::r) k=uK r k:=by simp[uK,Lr,e]
theorem AK.getD(r:AK o u)(a:aJ d d'):aJ (o.getD d) (u.getD d'):=by
 cases o with
 |none=>cases u with
  |none=>exact a
  |some _=>exact(show False from r).elim
 |some _=>cases u with
  |none=>exact(show False from r).elim
  |some _=>exact r
theorem KV.val{kvs:List (κ×V)}{vs:List (κ×b7)}(r:KV kvs vs)(k:κ):AK (uK kvs k) (valueAt vs k):=by
 unfold KV at r;induction r with
 |nil=>exact MY
 |@cons p q ps qs h t i =>
  obtain⟨h1,h2⟩:=h;by_cases e:p.1=k;have a:q.1=k:=h1.symm.trans e;have b:valueAt (q::qs) k=a7 q.2:=by simp[valueAt,Lr,a]
  rw[uJ e,b];exact h2;have a:¬q.1=k:=λz=>e<|h1.trans z;have b:valueAt (q::qs) k=valueAt qs k:=by simp[valueAt,Lr,a]
  rw[nX e,b];exact i
theorem KV.any(r:KV kvs vs)(k:κ):(kvs.any λkv=>decide<|kv.1=k)=vs.any λkv=>decide (kv.1=k):=by
 unfold KV at r;induction r with
 |nil=>rfl
 |cons h t i=>rw[O0,O0,i,h.1]
theorem KV.repl(r:KV kvs vs)(k:κ)(a:aJ y u):KV (kvs.map λkv=>if kv.1=k then(kv.1,y)else kv) (vs.map λkv=>if kv.1=k then(kv.1,u)else kv):=by
 unfold KV at r ⊢;induction r with
 |nil=>exact .nil
 |@cons p q ps qs h t i=>rw[C9,C9];refine .cons ?_ i;obtain⟨h1,h2⟩:=h;by_cases e:p.1=k;rw[p9 e,p9<|h1.symm.trans e];exact⟨h1,a⟩;rw[r9 e,r9<|λz=>e<|h1.trans z];exact⟨h1,h2⟩
theorem KV.put(r:KV kvs vs)(k:κ)(i:aJ y u):KV (putK kvs k y) (stored vs k u):=by unfold putK stored;rw[r.any k];by_cases e:(vs.any λv=>decide<|v.1=k)=a9;rw[p9 e,p9 e];exact r.repl k i;rw[r9 e,r9 e];exact Paired.snoc r ⟨rfl,i⟩
theorem KV.length(r:KV kvs vs):kvs.length=vs.length:=Paired.length r
end
theorem zF(r:aJ (kV k) u):(bI P w).is k u=a9:=by
 cases k with
 |inl i=>obtain⟨t,e⟩:=(show ∃t,u=Value.int i t from r);subst e;exact tQ P w i t
 |inr x=>obtain⟨t,e⟩:=(show ∃t,u=Value.str x t from r);subst e;exact tP P w x t
theorem rX:∀{ks:List E9}{us:List b7},aw (ks.map kV) us->ItemsAre (bI P w) ks us
 | [],_,r=>by rw[Oc]at r;cases r;exact .nil
 |k::ks,_,r=>by
  rw[C9]at r;cases r with
  |cons h t=>exact .cons (zF h)<|rX t
abbrev KT(H:Hp):List (List E9×V)->List (List E9×d5×b7)->Prop:=Paired λp q=>p.1=q.1/\H q.2.1=a7 (.tup<|p.1.map kV)/\aJ p.2 q.2.2
theorem KT.val{H:Hp}{kvs:List (List E9×V)}{xs:List (List E9×d5×b7)}(r:KT H kvs xs)(k:List E9):AK (uK kvs k) ((o0 xs k).map (·.2)):=by
 induction r with
 |nil=>exact MY
 |@cons p q ps qs h t i =>
  obtain⟨h1,_,h2⟩:=h;by_cases e:p.1=k;have a:q.1=k:=h1.symm.trans e;have b:o0 (q::qs) k=a7 q.2:=by simp[o0,Lr,a]
  rw[uJ e,b];exact h2;have a:¬q.1=k:=λz=>e<|h1.trans z;have b:o0 (q::qs) k=o0 qs k:=by simp[o0,Lr,a]
  rw[nX e,b];exact i
section
variable{P:c9}{w:c8}{H:Hp}{h:d7}{a:d5}
theorem HK(ok:D4 P w H h)(e:Rd H a u):bE P w H h a u:=e.ok ok
theorem Gy(ok:D4 P w H h)(e:Rd H a (.dK kvs)):kvs.length<=sizeLine/\(a==d8)=bt/\∃vs,KV kvs vs/\h.DictOf (bI P w) a vs:=show bE P w H h a (.dK kvs)from HK ok e
theorem Gz(ok:D4 P w H h)(e:H a=a7 (.dK kvs)):kvs.length<=sizeLine/\(a==d8)=bt/\∃vs,KV kvs vs/\h.DictOf (bI P w) a vs:=Gy ok<|.inl e
theorem Eb(ok:D4 P w H h)(e:H a=a7 (.tup<|ks.map kV)):(tupleKind<|bI P w).is h ks a:=by
 obtain⟨_,its,r,o,h1,h2,⟨n,b⟩,_⟩:=(show bE P w H h a (.tup<|ks.map kV)from ok a _ e)
 exact⟨o,its.toArray,n,h1,h2,b,by simpa using rX r⟩
theorem Kf(ok:D4 P w H h)(e:Rd H a (.dT kvs)):kvs.length<=sizeLine/\(a==d8)=bt /\∃xs,KT H kvs xs/\h.DictOfH (tupleKind<|bI P w) a xs:=by
 obtain⟨z,y,xs,r,o,es,i,h1,h2,f,g,k⟩:=(show bE P w H h a (.dT kvs)from HK ok e)
 refine⟨z,y,xs,r,o,es,i,h1,h2,f,g,λx b=>?_,k⟩;have c:∀{l:List (List E9×V)}{m:List (List E9×d5×b7)},KT H l m->∀x∈m,(tupleKind<|bI P w).is h x.1 x.2.1:=by
  intro l m q;induction q with
  |nil=>intro x b;exact nomatch b
  |@cons p q ps qs d t j=>intro x b;rcases A4.mp b with e|b;subst e;exact Eb ok (by rw[<-d.1];exact d.2.1);exact j x b
 exact c r x b
end
def DGet(H:Hp)(a:d5)(y:V)(r:Option V):Prop:=(∃kvs k,Rd H a (.dK kvs)/\y=kV k/\r=uK kvs k)\/∃kvs k b,Rd H a (.dT kvs)/\y=.ref b/\H b=a7 (.tup<|k.map kV)/\r=uK kvs k
section
variable{X:Cx}{pins:List (d5×d6)}{σ:St}{H:Hp}{s:f7}{a:d5}{y v:V}{u r:b7}{o:Option V}{A:f6}{E:b7->f7->Prop}
theorem u6.big(I:u6 X pins σ H s):d8<s.heap.objs.size:=by have h:e7<s.heap.objs.size:=(I.mod.glob.keeps I.bk).lt;exact OV (by decide) h
theorem Aj(q:A.units+1<j9)(I:u6 X pins σ H s)(g:DGet H a y (a7 v))(m:aJ y u)(h:∀w' s',u6 X pins σ H s'->aJ v w'->Q w' s'):ge (g9 X.prog X.w) A (m6 (.ref a) u) Q E s:=by
 rcases g with⟨kvs,k,e,f,l⟩|⟨kvs,k,b,e,f,M,l⟩
 subst f;obtain⟨z,n,vs,r,d⟩:=Gy I.hok e;obtain⟨w',j,c⟩:=AK.some_of (v:=v) (o:=valueAt vs k) (by rw[l];exact r.val k);exact wpAny_getItem_of (zF m) d.mapOf j<|h w' _ (I.tok _) c;subst f;cases (show u=E6 b from m);obtain⟨z,n,xs,r,d⟩:=Kf I.hok e;obtain⟨w',j,c⟩:=AK.some_of (v:=v) (o:=(o0 xs k).map (·.2)) (by rw[l];exact r.val k);obtain⟨p,hp,i⟩:=Mp.mp j;refine wpAny_getItem_heap (tupleKind_room_in1 q) (Eb I.hok M) d hp ?_;rw[i];exact h w' _ (I.tok _) c
theorem uw(I:u6 X pins σ H s)(m:ON (H a))(hs:J6 a s.heap h')(i:∃q,h'.get? a=a7 q)(n:bE X.prog X.w (z5 H a ob) h' a ob):u6 X pins σ (z5 H a ob) { s with heap:=h',toks:=t' }:=I.write (x:=a) (e:=a) m (.inl rfl) (λb q d z=>(hs.2 b d).trans z) i n
theorem Ef(z:kvs.length<=sizeLine)(d:(a==d8)=bt)(r:KV kvs vs)(dd:h'.DictOf (bI P w) a vs):bE P w H' h' a (.dK kvs):=⟨z,d,vs,r,dd⟩
end
def Hc(i:g7):Prop:=∀b a,subscripted i bt b a=operate [b,a] (m6 b a)
theorem yq{prog:c9}{w:c8}{A:f6}{E:b7->f7->Prop}{s:f7}{env:Env}{a e:g7}{pos:i3}{T id:String}{Q:b7->f7->Prop}(g:typeLookup (.type T) "__getitem__" = pure (a7<|.builtin id)) (hs:Hc e)(h:ge (g9 prog w) A (eval a env) (λo s₁=>ge (g9 prog w) A (eval e env) (λi s₂=>s₂.TypeIs o T/\ge (g9 prog w) A (m6 o i) Q E s₂) E s₁) E s):ge (g9 prog w) A (eval (.Subscript a e pos) env) Q E s:=by
 refine Subscript_<|G3 h (λo s₁ d=>G3 d (λi s₂ b=>?_) λ_ _ x=>x) λ_ _ x=>x;obtain⟨m,b⟩:=b;unfold subscriptTail;refine u4 ?_;rw[getitemInPython_of_ne m.not_modules];refine u4<|M7 m g ?_;have n:ge (g9 prog w) A (subscripted e bt o i) (λr c=>ge (g9 prog w) A (letTemporaryGo a o r >>= λ_=>pure r) Q E c) E s₂:=by rw[hs o i];exact wpAny_operating<|G3 b (λr c f=>u4<|wpAny_letTemporaryGo<|u8 f) λ_ _ x=>x
 first
  |exact u8 (u4 n)
  |exact u4 (u8 (u4 n))
  |exact u4 n
theorem uu(I:u6 X pins σ H s)(g:DGet H a y o):s.TypeIs (.ref a) "dict":=by
 rcases g with⟨kvs,k,e,_,_⟩|⟨kvs,k,b,e,_,_,_⟩
 obtain⟨_,_,vs,_,d⟩:=Gy I.hok e;exact d.typeIs;obtain⟨_,_,xs,_,d⟩:=Kf I.hok e;exact d.typeIs
def tDGet(d t:TE):TE:=λσ H Q=>d σ H λx H1=>t σ H1 λy b=>∃a v,x=.ref a/\DGet b a y (a7 v)/\Q v b
section
variable{X:Cx}{o i e value:g7}{pos pos' tpos:i3}{td ty tv:TE}
theorem EU(k:X.A.units+1<j9)(B:PE X o td)(hi:PE X i ty)(hs:Hc i):PE X (.Subscript o i pos) (tDGet td ty):=by intro p s σ H Q I h;refine yq PySem.F.slot_dict_getitem.lookup hs<|x6 (B p s σ H _ I h) ?_;rintro u n ⟨x,H1,e,r,q⟩;refine x6 (hi p n σ H1 _ e q) ?_;rintro t w ⟨y,c,d,m,a,v,j,g,l⟩;subst j;obtain rfl:u=E6 a:=r;exact⟨uu d g,Aj k d g m λY z f b=>⟨v,c,f,b,l⟩⟩
end
theorem CS(h:d7)(d:d8<h.objs.size):bE P w H (h.push { cls:=.type "dict",data:=.dict #[] }) h.objs.size (.dK []):=⟨C4 _,beq_eq_false_iff_ne.mpr<|A1<|A3 d,[],.nil,Heap.DictOf.new h⟩
def Hs:TE:=λ_ H Q=>∀p,H p=a8->Q (.ref p) (z5 H p<|.dK [])
section
variable{X:Cx}{pos:i3}
theorem BD:PE X (.Dict [] [] pos) Hs:=λp s σ H Q I h =>
 wpAny_Dict_empty ⟨.ref s.heap.objs.size,_,I.laid (a:=s.heap.objs.size) (o:=.dK []) (t':=s.toks) (λ_ _ q=>z6 _ q) (w5 _)<|CS s.heap I.big,rfl,h _<|I.hok.fresh<|w5 _⟩
end
end L2
namespace DL
open PySem
theorem gZ(env:Env):∀(names:List (c7×m3)) (acc:List (c7×d5)),(∀p∈names,p.2=LA->∃c,env.cells.lookup p.1=a7 c) ->∃cl,(forIn (m:=Sem) names acc λ(p:c7×m3) (r:List (c7×d5)) =>
    if (p.2==LA)=a9 then(do let a <-cellOf env p.1;pure (P9<|(p.1,a)::r))else pure (P9 r))=pure cl /\
   (∀z c,cl.lookup z=a7 c->acc.lookup z=a7 c\/env.cells.lookup z=a7 c) /\
   (∀z c,acc.lookup z=a7 c->∃c',cl.lookup z=a7 c') /\
   (∀p∈names,p.2=LA->∃c,cl.lookup p.1=a7 c)
 | [],acc,_=>⟨acc,rfl,λ_ _ h=>.inl h,λz c h=>⟨c,h⟩,λ_ h=>nomatch h⟩
 |(n,k)::aL,acc,hyp=>by
  by_cases hk:k=LA;subst hk;obtain⟨c0,hc0⟩:=hyp (n,.free) Fn rfl;obtain⟨cl,e,h1,h2,h3⟩:=gZ env aL ((n,c0)::acc) λp hp=>hyp p<|D0 _ hp;have ce:cellOf env n=pure c0:=by unfold cellOf;rw[hc0]
  have own:∃c',cl.lookup n=a7 c':=h2 n c0 (by simp[Na]);refine⟨cl,?_,λz c hz=>?_,λz c hz=>?_,λp hp hf=>?_⟩;rw[P8];simp only[u3,t8,ce,pure_bind];exact e;rcases h1 z c hz with q|q;rw[Na]at q;by_cases hz':(z==n)=a9;rw[hz']at q;have:z=n:=by simpa using hz'
  subst this;cases q;exact .inr hc0;have hz'':(z==n)=bt:=by simpa using hz'
  rw[hz'']at q;exact .inl q;exact .inr q;by_cases hz':z=n;subst hz';exact own;refine h2 z c ?_;rw[Na];have hz'':(z==n)=bt:=by simpa using hz'
  rw[hz''];exact hz;rcases A4.mp hp with rfl|hp;exact own;exact h3 p hp hf;have hb:(k==LA)=bt:=by simpa using hk
  obtain⟨cl,e,h1,h2,h3⟩:=gZ env aL acc λp hp=>hyp p<|D0 _ hp;refine⟨cl,?_,h1,h2,λp hp hf=>?_⟩;rw[P8];simp only[hb,A8,t7,pure_bind];exact e;rcases A4.mp hp with rfl|hp;exact t4 hf hk;exact h3 p hp hf
theorem jH(h:∀p∈scope.names,p.2=LA->∃c,env.cells.lookup p.1=a7 c):∃cl,closureFor scope env=pure cl/\(∀z c,cl.lookup z=a7 c->env.cells.lookup z=a7 c)/\(∀p∈scope.names,p.2=LA->∃c,cl.lookup p.1=a7 c):=by obtain⟨cl,e,h1,h2,a⟩:=gZ env scope.names [] h;refine⟨cl,?_,λz c b=>?_,a⟩;unfold closureFor;simp only[bind_pure];exact e;rcases h1 z c b with q|q;simp at q;exact q
theorem fg{env:Env}:∀{names:List (c7×m3)}{x:c7}{k:m3},(names.map λ(p:c7×m3)=>if (p.2==LA&&env.scope.kind==.function&&env.kindOf p.1==a7 .cell)=a9 then(p.1,Nj)else(p.1,p.2)).lookup x=a7 k ->(names.lookup x=a7 k\/(k=Nj/\names.lookup x=a7 .free))
 | [],_,_,h=>by simp at h
 |(n,j)::aL,x,k,h=>by
  have ih:=@fg env aL x k;rw[C9,Na]at h;by_cases hx:(x==n)=a9;have hl:List.lookup x ((n,j)::aL)=a7 j:=by rw[Na,hx]
  rw[hl];by_cases hc:(j==LA&&env.scope.kind==.function&&env.kindOf n==a7 .cell)=a9;simp only[hc,t8,hx]at h;cases h;have:j=LA:=by simp only[F3]at hc;simpa using hc.1.1
  exact .inr ⟨rfl,by rw[this]⟩;simp only[hc,A8,t7,hx]at h;exact .inl h;have hx':(x==n)=bt:=by simpa using hx
  have hl:List.lookup x ((n,j)::aL)=List.lookup x aL:=by rw[Na,hx']
  rw[hl];refine ih ?_;by_cases hc:(j==LA&&env.scope.kind==.function&&env.kindOf n==a7 .cell)=a9;simp only[hc,t8,hx']at h;exact h;simp only[hc,A8,t7,hx']at h;exact h
section
variable{prog:c9}{w:c8}{A:f6}{R:Result->f7->Prop}{s:f7}
theorem og(s:List g7)(env:Env):compTests s env =
  (forIn s a9 λc r=>if r=a9 then do let ok <-isTrue c env (eval c env);pure (P9 ok)else pure (P9 r)):=by unfold compTests;simp only[bind_pure]
theorem xw(J:Nat->f7->Prop)(F:b7->f7->Prop)(b:∀e s',F e s'->notedBy (g9 prog w) A env (λe s'=>R (.error e) s') e s')(L:∀n s,J n s->ge (g9 prog w) A (j1 it) (λr s1=>match r with
   |none=>R (.ok .next) s1
   |some v=>ge (g9 prog w) A (j2 target it v) (λ_ s2=>ge (g9 prog w) A (i9 target env v) (λ_ s3 =>
     ge (g9 prog w) A (compTests ifs env) (λok s4 =>
      if ok=a9 then ge (g9 prog w) A (eval elt env) (λy s5=>ge (g9 prog w) A (call (.builtin "list.append") [acc,y]) (λ_ s6=>∃m,m<n/\J m s6) F s5) F s4
      else ∃m,m<n/\J m s4) F s3) F s2) F s1) F s)
  (n:Nat) (h:J n s):k9 (g9 prog w) A (.compLoop (.ListComp elt [⟨target,iter,ifs,0⟩] scope pos) 0 it acc env) R s:=by
 refine codeAny_loop rfl J (λn s f=>?_) n h;show ge _ A ((compTurn (.ListComp elt [⟨target,iter,ifs,0⟩] scope pos) 0 it acc env).onRaise<|λx=>do noteFrame x env;theTreesLotGoes x) _ _ s;refine wpAny_noted ?_;rw[compTurn_list];refine u4<|wpAny_standAt<|u4<|G3 (L n s f) (λr s1 h1=>?_) b;cases r with
 |none=>exact u8 h1
 |some v =>
  refine u4<|G3 h1 (λ_ s2 h2=>?_) b;refine u4<|G3 h2 (λ_ s3 a=>?_) b;rw[og]at a;refine u4<|G3 a (λok s4 d=>?_) b;cases ok with
  |false=>exact u8 ⟨rfl,d⟩
  |true=>exact u4<|u4<|G3 d (λy s5 k=>u4<|G3 k (λ_ s6 c=>u8<|u8 ⟨rfl,c⟩) b) b
end
end DL
namespace L2
open PySem PySem.Spec PyProof.Rows DL
theorem jC{env:Env}:∀{names:List (c7×m3)}{x:c7},names.lookup x=a7 .free ->((names.map λ(p:c7×m3)=>if (p.2==LA&&env.scope.kind==.function&&env.kindOf p.1==a7 .cell)=a9 then(p.1,Nj)else(p.1,p.2)).lookup x=a7 .cell \/ (names.map λ(p:c7×m3)=>if (p.2==LA&&env.scope.kind==.function&&env.kindOf p.1==a7 .cell)=a9 then(p.1,Nj)else(p.1,p.2)).lookup x=a7 .free)
 | [],_,h=>by simp at h
 |(n,j)::aL,x,h=>by
  have ih:=@jC env aL x;rw[C9,Na];rw[Na]at h;by_cases hc:(j==LA&&env.scope.kind==.function&&env.kindOf n==a7 .cell)=a9;by_cases hx:(x==n)=a9;simp[hc,hx];have hx':(x==n)=bt:=by simpa using hx
  rw[hx']at h;simp only[hc,t8,hx'];exact ih h;by_cases hx:(x==n)=a9;rw[hx]at h;cases h;right;simp only[hc,A8,t7,hx];have hx':(x==n)=bt:=by simpa using hx
  rw[hx']at h;simp only[hc,A8,t7,hx'];exact ih h
noncomputable def C6(X:Cx)(N':List c7)(scope:f8)(l:List (c7×d5))(s₀:f7)(H₀:Hp)(ex:List d5):Cx:={ X with N:=N',s₀:=s₀,H₀:=H₀,env:=compEnvC scope l s₀.heap.objs.size X.env,outer:=X.stack,ex:=ex,fn:=λx=>scope.names.lookup x==a7 .cell,pn:=[],xe:=λ_ _=>False }
structure BlkSc(X:Cx)(N':List c7)(nt:Nat)(js:List Nat)(scope:f8):Prop where
 kind:scope.kind=.function
 nocell:∀y∈scope.names,y.2≠.cell
 loc:∀y∈scope.names,y.2=.local->scope.names.lookup y.1=a7 .local
 free:∀y∈scope.names,y.2=.free->(X.env.kindOf y.1=a7 .cell\/X.env.kindOf y.1=a7 .free)
 len:N'.length=nt+js.length
 fr:∀(k j:Nat),js[k]?=a7 j->∃x,N'[nt+k]?=a7 x/\X.N[j]?=a7 x/\scope.names.lookup x=a7 .free/\(X.env.kindOf x=a7 .cell\/X.env.kindOf x=a7 .free)
noncomputable def bst(t:Nat)(s:List Nat)(σ:St):St:=Nl t a8++s.map λj=>(σ[j]?).join
theorem Ax(t:Nat)(s:List Nat)(σ:St):(bst t s σ).length=t+s.length:=by simp[bst]
theorem GM(h:(bst nt js σ)[i]?=a7 (a7 v)):∃k j,i=nt+k/\js[k]?=a7 j/\σ[j]?=a7 (a7 v):=by
 unfold bst at h;by_cases hi:i<nt;rw[Le (by simpa using hi),QE]at h;simp[hi]at h;rw[LU (by simpa using MG.mp hi),Qy,D8]at h;cases e:js[i-nt]? with
 |none=>rw[e]at h;cases h
 |some j =>
  rw[e]at h;refine⟨i-nt,j,by lia,e,?_⟩;have h':(σ[j]?).join=a7 v:=by simpa using h
  cases q:σ[j]? with
  |none=>rw[q]at h';cases h'
  |some o=>rw[q]at h';exact t9 a7 h'
def ME(X:Cx)(i:List g7)(t:TT):Prop:=∀(p:List (d5×d6)) (s:f7) (σ:St) (H:Hp) (Q:Bool->Hp->Prop),u6 X p σ H s->t σ H Q->ge (g9 X.prog X.w) X.A (compTests i X.env) (TP X p σ Q) X.xe s
def ttNil:TT:=λ_ H Q=>Q a9 H
theorem EI:ME X [] ttNil:=λp s σ H Q I h=>by rw[og];exact wpAny_tests_nil ⟨H,I,h⟩
theorem EH(h:PT X c t):ME X [c] t:=λp s σ H Q I q=>by rw[og];exact wpAny_tests_one<|h p s σ H Q I q
def QR(t:Nat)(s:List Nat)(wi:TI)(g:TG)(tt:TT)(te:TE):TE:=λσ H Q=>wi σ H λJ H1=>∃W:Nat->Nat->List V->St->Hp->Prop,(∃m,W 0 m [] (bst t s σ) H1) /\∀i m vs τ H,W i m vs τ H->(J.stop i H/\∀p,H p=a8->Q (.ref p) (z5 H p<|.lst vs)) \/(J.go i H/\∀x H',J.yld i H x H'->g x τ H' λa e=>tt a e λb d=>if b=a9 then te a d λy f=>vs.length<sizeLine/\∃c,c < m/\W (i+1) c (vs++[y]) a f else ∃c,c < m/\W (i+1) c vs a d)
noncomputable abbrev cG(its:List b7)(k:Nat):d6:={ cls:=.type "list",data:=.seq its.toArray k }
section
variable{X:Cx}{pins:List (d5×d6)}{σ:St}{H:Hp}{s:f7}
theorem u6.blkOk(B:BlkSc X N' nt js scope)(I:u6 X pins σ H s)(a:∀z c,cl.lookup z=a7 c->X.env.cells.lookup z=a7 c) (f:∀p∈scope.names,p.2=LA->∃c,cl.lookup p.1=a7 c) (i:∀b∈fp,wt X pins H b) (j:∀b∈fp,b<s.heap.objs.size):(C6 X N' scope cl { s with heap:=s.heap.push ob } H<|s.heap.objs.size::fp).Ok:=by
 have J:u6 X pins σ H { s with heap:=s.heap.push ob }:=I.kept (t':=s.toks) λb o e=>z6 _ e;have ltc:∀z c,cl.lookup z=a7 c->c<s.heap.objs.size:=λz c e=>by obtain⟨v,q⟩:=I.cell z c<|a z c e;exact q.lt
 have C:(s.heap.push ob).objs.size=s.heap.objs.size+1:=Lj ..;refine⟨I.ok.mod,B.kind,I.ok.glob,I.ok.blt,w5 _,λy z c h1 h2=>I.ok.inj y z c (a y c h1)<|a z c h2,λy Q=>?_,λy c h=>?_,I.ok.hd,I.ok.frames,.inl rfl,λb d=>?_,λb o e=>?_,?_,λb o e d=>?_,λb d=>?_,J.stack,I.stkFree⟩;have l:scope.names.lookup y=a7 .free:=by
  rcases Q with Q|Q;rcases fg (env:=X.env) (names:=scope.names) (x:=y) (k:=.cell) Q with q|⟨_,q⟩
  exact t4 rfl<|B.nocell _<|Nb q;exact q;rcases fg (env:=X.env) (names:=scope.names) (x:=y) (k:=.free) Q with q|⟨q,_⟩
  exact q;cases q
 exact f (y,.free) (Nb l) rfl;exact t4 rfl<|B.nocell _<|Nb<|beq_iff_eq.mp<|show (scope.names.lookup y==a7 Nj)=a9 from h;show b≠(s.heap.push ob).objs.size/\∀x c,cl.lookup x=a7 c->c≠b;rw[C];rcases A4.mp d with rfl|d;exact⟨A3<|LP _,λx c e=>A3<|ltc x c e⟩;exact⟨A3<|NN<|j b d,λx c e=>(i b d).2.2.2.2.1 x c<|a x c e⟩;exact⟨z6 _ (I.bs b o e).1,(I.bs b o e).2⟩;show X.base.objs.size<=(s.heap.push ob).objs.size;rw[C];exact Nat.le_succ_of_le<|H9 I.ok.bsz I.sz;rcases A4.mp d with rfl|d;exact t4 (A0 (I.bs _ o e).1)<|G8 _;rcases(i b d).2.2.2.1 with z|z;exact I.ok.noex b o e z;exact t4 (G9 (A0 (I.ok.bs b o e).1) z)<|G8 _;intro m;have g:=I.stkSub b m;rcases A4.mp d with rfl|d;rcases A4.mp g with q|q;exact t4 I.lt (by rw[<-q];exact G8 _);exact I.nofs (w5 _) q;rcases A4.mp g with q|q;exact(i b d).2.1 q;exact(i b d).2.2.1 q
theorem u6.blkStart(B:BlkSc X N' nt js scope)(I:u6 X pins σ H s)(a:∀z c,cl.lookup z=a7 c->X.env.cells.lookup z=a7 c) (f:∀p∈scope.names,p.2=LA->∃c,cl.lookup p.1=a7 c) (J:∀b∈fp,wt X pins H b) (m:∀b∈fp,b<s.heap.objs.size)(g:∀b o,(s.heap.push<|cG [] 0).get? b=a7 o->h1.get? b=a7 o) (K:h1.Ns (s.heap.push<|cG [] 0).objs.size mm):u6 (C6 X N' scope cl { s with heap:=s.heap.push (cG [] 0) } H<|s.heap.objs.size::fp) [(s.heap.objs.size,cG [] 0)] (bst nt js σ) H { s with heap:=h1,toks:=tk }:=by
 have d:∀b o,s.heap.get? b=a7 o->h1.get? b=a7 o:=λb o e=>g b o<|z6 _ e;have C:(s.heap.push<|cG [] 0).objs.size=s.heap.objs.size+1:=Lj ..;refine⟨I.blkOk B a f J m,rfl,I.bare,Un.kept g,⟨mm,K,λi x v D E S=>?_⟩,λx c e=>?_,?_,λx c e=>I.freeC x c<|a x c e,λp hp=>?_,I.hok.kept d,?_⟩;obtain⟨k,j,rfl,L,t⟩:=GM E;obtain⟨R,P,Q,A,y⟩:=B.fr k j L;have F:x=R:=C7<|D.symm.trans P;subst F;obtain⟨V,M,n⟩:=I.loc;have w:NA X.env.scope x:=y.elim (λz=>.inr<|.inl z) λz=>.inr<|.inr z;obtain⟨u,r,h⟩:=n j x v Q t w;refine⟨u,r,?_⟩;rcases h with⟨q,_⟩|⟨q,c,G,l⟩
 rcases y with z|z<;>(rw[q]at z;cases z)
 obtain⟨U,O⟩:=f (x,.free) (Nb A) rfl;have:U=c:=C7<|(a x U O).symm.trans G;subst this;exact .inr ⟨jC (env:=X.env) A,U,O,l.keeps d⟩;obtain⟨v,q⟩:=I.cell x c<|a x c e;exact⟨v,q.keeps d⟩;exact I.hok.fresh (by show s.heap.objs.size<=(s.heap.push<|cG [] 0).objs.size;rw[C];exact N9 _);have e:p=(s.heap.objs.size,cG [] 0):=by simpa [C6]using hp
 subst e;refine⟨g _ _<|C5 _ rfl,I.hok.fresh<|w5 _,?_,?_,λv z=>by cases z⟩;show s.heap.objs.size≠(s.heap.push<|cG [] 0).objs.size;rw[C];exact A3<|LP _;intro N;rcases A4.mp (I.stkSub _ N)with q|q;exact t4 I.lt (by rw[<-q];exact G8 _);exact I.nofs (w5 _) q;rw[Ax];exact B.len.symm
theorem u6.blkEnd(I:u6 X pins σ H s)(E:∀b∈fp,wt X pins H b)(t:u6 (C6 X N' scope cl { s with heap:=s.heap.push (cG [] 0) } H<|s.heap.objs.size::fp) [(s.heap.objs.size,cG its k)] τ H' s')(L:aw vs its) (G:vs.length<=sizeLine) (U:J6 (s.heap.push<|cG [] 0).objs.size s'.heap h'):u6 X pins σ (z5 H' s.heap.objs.size<|.lst vs) { s' with heap:=h' }:=by
 have j:(s.heap.push<|cG [] 0).objs.size=s.heap.objs.size+1:=Lj ..;have C:s.heap.objs.size≠(s.heap.push<|cG [] 0).objs.size:=by rw[j];exact A3<|LP _
 obtain⟨K,D,_⟩:=t.pin (s.heap.objs.size,cG its k) (by simp[C6]);have g:s'.heap.get? s.heap.objs.size=a7 (cG its k):=K;have f:H' s.heap.objs.size=a8:=D;have i:H' (s.heap.push<|cG [] 0).objs.size=a8:=t.free;have u:Un (frs X.stack) (s.heap.objs.size::fp) H H' (s.heap.push<|cG [] 0) s'.heap:=t.base;have F:∀b o,s.heap.get? b=a7 o->b≠s.heap.objs.size/\b≠(s.heap.push<|cG [] 0).objs.size:=λb o e=>by have:=A0 e;exact⟨A3 this,by rw[j];exact A3<|NN this⟩
 have p:∀b o,s.heap.get? b=a7 o->(s.heap.push<|cG [] 0).get? b=a7 o:=λb o e=>z6 _ e;have a:∀b o,s.heap.get? b=a7 o->b∉fp->b∉s.heap.objs.size::fp:=λb o e x J=>by rcases A4.mp J with q|q;exact(F b o e).1 q;exact x q
 refine I.call' (s':={ s' with heap:=h' }) (ch:=fp) t.os ⟨λb o e n d x=>?_,λb o e n d x=>?_,λb o e n x=>?_,λb o e x=>?_,λb xs e=>?_,λb o w e=>?_,λb ps e=>?_⟩ (λb w q=>?_) t.bare λb d=>?_;exact(U.2 b (F b o e).2).trans<|u.keep b o (p b o e) n d<|a b o e x;obtain⟨M,z⟩:=u.slot b o (p b o e) n d<|a b o e x;exact⟨M,(U.2 b (F b o e).2).trans z⟩;rw[ar (F b o e).1];exact u.free b o (p b o e) n<|a b o e x;obtain⟨o',z⟩:=u.there b o (p b o e)<|a b o e x;exact⟨o',(U.2 b (F b o e).2).trans z⟩;have z:=u.tups b xs e;rw[ar<|ad z f];exact z;have z:=u.frzs b o w e;rw[ar<|ad z f];exact z;obtain⟨m,z⟩:=u.tbls b ps e;exact⟨m,by rw[ar<|ad z f];exact z⟩;by_cases d:b=s.heap.objs.size;subst d;rw[aK]at q;cases q;exact⟨G,its,k,L,(U.2 _ C).trans g⟩;rw[ar d]at q;refine(t.hok b w q).stay (λc v h r=>(U.2 c ?_).trans r) (λc z=>by rw[ar<|ad z f];exact z) λc xs z=>by rw[ar<|ad z f];exact z
 rcases h with rfl|h;exact ad q i;exact ad h i;obtain⟨_,l,_,y,A,B⟩:=E b d;exact⟨y,l,A,B⟩
theorem zm{s tg N:g7}{M:List g7}{scope:f8}{pos:i3}{N':List c7}{l:List (c7×d5)}{J:It}{fp:List d5}{it:d5}{tn:Nat->d7->Prop}{g:TG}{tt:TT}{te:TE}{Q:VK}{W:Nat->Nat->List V->St->Hp->Prop}{R:Result->f7->Prop}{s0:f7}{H0:Hp}{D:d5} (hc:X.calm=a9)(hg:PG (C6 X N' scope l s0 H0<|D::fp) tg g) (ht:ME (C6 X N' scope l s0 H0<|D::fp) M tt) (he:PE (C6 X N' scope l s0 H0<|D::fp) s te)(T:Turn X.prog X.w X.K tg J fp it tn) (L:D∉fp)(S:∀i m vs τ H,W i m vs τ H->(J.stop i H/\∀p,H p=a8->Q (.ref p) (z5 H p<|.lst vs)) \/ (J.go i H/\∀x H',J.yld i H x H'->g x τ H' λτ2 H2=>tt τ2 H2 λb f=>if b=a9 then te τ2 f λy H4=>vs.length<sizeLine/\∃m',m' < m/\W (i+1) m' (vs++[y]) τ2 H4 else ∃m',m' < m/\W (i+1) m' vs τ2 f))(t:∀b∈fp,b≠s0.heap.objs.size/\b∉frs X.stack/\∀x c,l.lookup x=a7 c->c≠b) (I:D≠s0.heap.objs.size) (as:D∉frs X.stack) (an:∀x c,l.lookup x=a7 c->c≠D)(ai:∀τ H' s' vs its k,u6 (C6 X N' scope l s0 H0<|D::fp) [(D,cG its k)] τ H' s'->aw vs its->vs.length<=sizeLine->Q (.ref D) (z5 H' D<|.lst vs)->R (.ok .next) s')
  (m0:Nat) {j:St}{s3:f7}{f:Hp} (I3:u6 (C6 X N' scope l s0 H0<|D::fp) [(D,cG [] 0)] j f s3) (bk:tn 0 s3.heap) (aj:∀b∈fp,f b=a8) (w0:W 0 m0 [] j f) :
  k9 (g9 X.prog X.w) X.A (.compLoop (.ListComp s [⟨tg,N,M,0⟩] scope pos) 0 (.ref it) (.ref D)<|compEnvC scope l s0.heap.objs.size X.env) R s3:=by
 have h:∀{ob:d6}{H':Hp},(∀b∈fp,H' b=a8)->∀b∈fp,wt (C6 X N' scope l s0 H0<|D::fp) [(D,ob)] H' b:=λ{ob H'} hn b d=>by
  obtain⟨a1,a2,a3⟩:=t b d;refine⟨hn b d,a1,a2,.inl<|D0 _ d,a3,λp hp z=>?_⟩;have e:p=(D,ob):=by simpa [C6]using hp
  subst e;exact L<|by rw[show D=b from z];exact d
 refine xw (λn s'=>∃i τ H' vs its k,u6 (C6 X N' scope l s0 H0<|D::fp) [(D,cG its k)] τ H' s'/\tn i s'.heap/\(∀b∈fp,H' b=a8)/\aw vs its/\vs.length<=sizeLine/\W i n vs τ H') (λ_ _=>False) (λ_ _ z=>z.elim) ?_ m0 ⟨0,j,f,[],[],0,I3,bk,aj,.nil,C4 _,w0⟩;rintro n s' ⟨i,τ,H',vs,its,k,I',O,E,Z,hl,w'⟩;rcases S i n vs τ H' w' with⟨stop,q⟩|⟨go,P⟩
 refine x6 (T.done (C6 X N' scope l s0 H0<|D::fp) rfl rfl rfl hc i _ s' τ H' (λ_ _=>False) I' (h E) O stop) ?_;rintro r s4 ⟨hr,I4⟩;subst hr;exact ai τ H' s4 vs its k I4 Z hl<|q D (I'.pin (D,cG its k)<|by simp[C6]).2.1;refine x6 (T.item (C6 X N' scope l s0 H0<|D::fp) rfl rfl rfl hc i _ s' τ H' (λ_ _=>False) I' (h E) O go) ?_;rintro r s4 ⟨u,hr,h4⟩;subst hr;refine x6 h4 ?_;rintro _ s5 ⟨x,H5,I5,r5,y5,B,al⟩;have ab:=I5.pinned (h al)<|T.obj _ _ B;refine x6 (hg _ s5 τ H5 x u _ ab r5<|P x H5 y5) ?_;rintro _ s6 ⟨a,H6,I6,q6⟩;refine x6 (ht _ s6 a H6 _ I6 q6) ?_;rintro ok s7 ⟨H7,Y,q7⟩;have F:∀{b:d5}{o:d6},b∈fp->s5.heap.get? b=a7 o->(b,o)∈(C6 X N' scope l s0 H0<|D::fp).pn++([(D,cG its k)]++iA fp s5.heap):=λd e=>Lm _<|Lm _<|fN d e;cases ok with
 |false =>
  obtain⟨m',hm,w7⟩:=(show ∃m',m' < n/\W (i+1) m' vs a H7 from q7)
  refine⟨m',hm,i+1,a,H7,vs,its,k,Y.unpinned,T.keep _ _ _ B λb d o e=>(Y.pin (b,o)<|F d e).1,λb d=>?_,Z,hl,w7⟩;obtain⟨o,e,_⟩:=T.obj _ _ B b d;exact(Y.pin (b,o)<|F d e).2.1
 |true =>
  refine x6 (he _ s7 a H7 _ Y q7) ?_;rintro yv s8 ⟨y,U,I8,r8,q8⟩;obtain⟨aS,m',hm,w8⟩:=q8;obtain⟨oD,fD,_⟩:=I8.pin (D,cG its k) (Lm _<|NQ _<|by simp);have C:U D=a8:=fD;refine append_at (its:=its.toArray) (n:=k) oD (λh9 be o9=>?_) (by rw[B7,<-Z.length];exact hl);have J8:u6 (C6 X N' scope l s0 H0<|D::fp) (iA fp s5.heap) a U s8:=I8.pins_of λp hp=>I8.pin p<|Lm _<|Lm _ hp;have J9:u6 (C6 X N' scope l s0 H0<|D::fp) (iA fp s5.heap) a U { s8 with heap:=h9 }:=J8.turned (t':=s8.toks) (it:=D) (λb o d e=>(be.2 b d).trans e) C I (.inl Fn) an λp hp z=>by
   have aD:p∈iA fp s5.heap:=by simpa [C6]using hp
   exact L<|by rw[<-z];exact(qY aD).1
  have G:∀{b:d5}{o:d6},b∈fp->s5.heap.get? b=a7 o->(b,o)∈(C6 X N' scope l s0 H0<|D::fp).pn++iA fp s5.heap:=λd e=>Lm _<|fN d e;refine⟨m',hm,i+1,a,U,vs++[y],its++[yv],k+1,J9.pins_of λp hp=>?_,T.keep _ _ _ B λb d o e=>(J9.pin (b,o)<|G d e).1,λb d=>?_,Z.append<|.cons r8 .nil,?_,w8⟩;have e:p=(D,cG (its++[yv])<|k+1):=by simpa using hp
  subst e;refine⟨?_,C,I,as,λv z=>by cases z⟩;rw[show cG (its++[yv]) (k+1)=({ cls:=.type "list",data:=.seq (its.toArray.push yv) (k+1) }:d6) by rw[List.push_toArray]];exact o9;obtain⟨o,e,_⟩:=T.obj _ _ B b d;exact(J9.pin (b,o)<|G d e).2.1;rw[D5];exact aS
end
section
variable{X:Cx}
theorem pe_lc{t K r:g7}{u:List g7}{scope:f8}{pos:i3}{N':List c7}{nt:Nat}{Z:List Nat}{wi:TI}{g:TG}{tt:TT}{te:TE}(B:BlkSc X N' nt Z scope)(hc:X.calm=a9)(hi:PI X K r wi)(hg:∀cl s0 H0 ex,PG (C6 X N' scope cl s0 H0 ex) K g) (ht:∀cl s0 H0 ex,ME (C6 X N' scope cl s0 H0 ex) u tt) (he:∀cl s0 H0 ex,PE (C6 X N' scope cl s0 H0 ex) t te)(hs:∀x,j5 r X.env x=pure x:=by intro _;rfl):PE X (.ListComp t [⟨K,r,u,0⟩] scope pos) (QR nt Z wi g tt te):=by
 intro f s σ H Q I h;rw[eval_ListComp];obtain⟨cl,M,a,C⟩:=jH (scope:=scope) (env:=X.env) λp hp hf=>I.ok.has p.1<|B.free p hp hf;refine wpAny_comprehension_free (use:=a8) rfl hs M B.kind B.loc ?_;refine x6 (hi f s σ H _ I h) λv s1 h1=>x6 h1 λab n h2=>?_;obtain⟨it,O,tn,J,H2,e,i,T,S,N,W,⟨m0,w0⟩,L⟩:=h2;subst e;refine K3<|wpAny_newFunctionEnv B.nocell (by intro y hy;simp at hy) (λh1 D E=>?_) B.kind;have j:∀b∈O,b<n.heap.objs.size:=λb d=>by obtain⟨o,e,_⟩:=T.obj _ _ S b d;exact A0 e
 have Y:(n.heap.push<|cG [] 0).objs.size=n.heap.objs.size+1:=Lj ..;have F:∀b o,(n.heap.push<|cG [] 0).get? b=a7 o->h1.get? b=a7 o:=λb o e=>(E.2 b<|A3<|A0 e).trans<|z6 _ e;have I3:=i.blkStart (tk:=n.toks+([]:List (c7×b7)).length) B a C N j F D;have G:tn 0 h1:=T.keep _ _ _ S λb _ o e=>F b o<|z6 _ e;have R:n.heap.objs.size∉O:=λz=>G8 _<|j _ z;have U:n.heap.objs.size∉frs X.stack:=λz=>by rcases A4.mp (i.stkSub _ z)with q|q;exact t4 i.lt (by rw[<-q];exact G8 _);exact i.nofs (w5 _) q
 have P:n.heap.objs.size≠(n.heap.push<|cG [] 0).objs.size:=by rw[Y];exact A3<|LP _
 have ltc:∀z c,cl.lookup z=a7 c->c<n.heap.objs.size:=λz c e=>by obtain⟨v,q⟩:=i.cell z c<|a z c e;exact q.lt
 have m:∀b∈O,b≠(n.heap.push<|cG [] 0).objs.size/\b∉frs X.stack/\∀x c,cl.lookup x=a7 c->c≠b:=λb d=>by refine⟨by rw[Y];exact A3<|NN<|j b d,λz=>?_,λx c e=>(N b d).2.2.2.2.1 x c<|a x c e⟩;rcases A4.mp (i.stkSub b z)with q|q;exact(N b d).2.1 q;exact(N b d).2.2.1 q
 have l:k9 (g9 X.prog X.w) X.A (.compLoop (.ListComp t [⟨K,r,u,0⟩] scope pos) 0 (.ref it) (.ref n.heap.objs.size)<|compEnvC scope cl (n.heap.push<|cG [] 0).objs.size X.env) (compPost (g9 X.prog X.w) X.A X.xe a8 (EP X f σ Q) (.ref n.heap.objs.size) (n.heap.push<|cG [] 0).objs.size) { n with heap:=h1,toks:=n.toks+([]:List (c7×b7)).length }:=by refine zm (s0:={ n with heap:=n.heap.push (cG [] 0) }) (H0:=H2) (N':=N') (Q:=Q) hc (hg _ _ _ _) (ht _ _ _ _) (he _ _ _ _) T R L m P U (λx c e=>A3<|ltc x c e) ?_ m0 I3 G (λb d=>(N b d).1) w0;intro τ H' s' vs its k V rv hl q;obtain⟨mm,hn,_⟩:=id V.loc;exact⟨mm,hn,λh' sb=>⟨.ref n.heap.objs.size,_,i.blkEnd N V rv hl sb,rfl,q⟩⟩
 exact codeAny_compStart_list l<|T.self _ 0 _ _ _ G l
end
section
inductive D where
 |non|bl (b:Bool)|int (i:Int)|str (x:c7)|ty (n:String)|tup (ds:List D)|ref (n:Nat)
inductive MO where
 |lst (xs:List D)
 |fz (xs:List D)
 |kl (xs:List D)
 |dct (kvs:List (c7×D))
 |dkt (kvs:List (D×D))
 |dkq (e:Nat) (kvs:List (D×D))
 |dkm (kvs:List (D×D))
 |fdc (o:d6) (kvs:List (c7×D))
 |tb (x:c7) (b:Bool)
 |exc (x:c7)
noncomputable abbrev v5:=List MO
noncomputable def MO.isL:MO->Bool
 |.dct _=>bt
 |.dkt _=>bt
 |.dkq _ _=>bt
 |.fdc _ _=>bt
 |.dkm _=>bt
 |.tb _ _=>bt
 |.exc _=>bt
 |_=>a9
noncomputable def hV(s:List c7)(vs:List V):List (E9×V):=(s.zip vs).map λp=>(ABf p.1,p.2)
mutual
inductive v7(K:v6)(ρ:List d5)(H:Hp):D->V->Prop
 |non:v7 K ρ H .non .non
 |bl (b:Bool):v7 K ρ H (.bl b) (.bl b)
 |int (i:Int):v7 K ρ H (.int i) (.int i)
 |str (x:c7):v7 K ρ H (.str x) (.str x)
 |ty (n:String):v7 K ρ H (.ty n) (.ty n)
 |tup {a:d5}{vs:List V}{ds:List D} (h:B9 K H a vs) (r:Reps K ρ H ds vs):v7 K ρ H (.tup ds) (.ref a)
 |ref {n:Nat}{a:d5} (h:ρ[n]?=a7 a):v7 K ρ H (.ref n) (.ref a)
inductive Reps(K:v6)(ρ:List d5)(H:Hp):List D->List V->Prop
 |nil:Reps K ρ H [] []
 |cons {d:D}{v:V}{ds:List D}{vs:List V} (h:v7 K ρ H d v) (t:Reps K ρ H ds vs):Reps K ρ H (d::ds) (v::vs)
end
def KList(K:v6)(a:d5)(xs:List V):Prop:=∃(o:d6) (its:Array b7) (n:Nat),K.lookup a=a7 o/\o.cls=.type "list"/\o.dict=a8/\o.data=.seq its n/\its.size<=sizeLine/\aw xs its.toList
noncomputable def cw:Nat->D->Bool
 |_,.str _=>a9
 |_,.int _=>a9
 |n+1,.tup ds=>ds.all<|cw n
 |_,_=>bt
noncomputable def A6(w:c8):Nat->D->Int
 |_,.str x=>hashStr w x
 |_,.int i=>hashInt i
 |n+1,.tup ds=>o4<|NU<|ds.map<|A6 w n
 |_,_=>0
def dX(a:d5)(xs:List (D×d5×b7)):c9->c8->d7->Prop:=λ_ w h =>
 ∃(o:d6) (es:Array n9),h.get? a=a7 o/\o.ExactDict/\o.data=.dict es xs.length/\es.toList=xs.map λx=>⟨A6 w 8 x.1,.ref x.2.1,x.2.2⟩
def dQ(a:d5)(e:Nat)(xs:List (D×d5×b7)):c9->c8->d7->Prop:=λ_ w h =>
 ∃(o:d6) (es:Array n9),h.get? a=a7 o/\o.ExactDict/\o.data=.dict es e/\es.toList=xs.map λx=>⟨A6 w 8 x.1,.ref x.2.1,x.2.2⟩
noncomputable def keyM:D->Bool
 |.non=>a9
 |.tup ks=>cw 8<|.tup ks
 |_=>bt
noncomputable def hkM(w:c8):D->Int
 |.non=>o4 0xFCA86420
 |d=>A6 w 8 d
noncomputable def entM(hs:D->Int)(x:D×b7×b7):n9:=⟨hs x.1,x.2.1,x.2.2⟩
def dM(a:d5)(xs:List (D×b7×b7)):c9->c8->d7->Prop:=λ_ w h =>
 ∃(o:d6) (es:Array n9),h.get? a=a7 o/\o.ExactDict/\o.data=.dict es xs.length/\es.toList=xs.map (entM<|hkM w)
def PP(K:v6)(ρ:List d5)(H:Hp)(p:D×D)(q:D×b7×b7):Prop:=p.1=q.1/\keyM p.1=a9/\(∃u,v7 K ρ H p.1 u/\aJ u q.2.1)/\∃v,v7 K ρ H p.2 v/\aJ v q.2.2
def pE(K:v6)(ρ:List d5)(H:Hp)(p:D×D)(q:D×d5×b7):Prop:=p.1=q.1/\cw 8 p.1=a9/\v7 K ρ H p.1 (.ref q.2.1)/\∃v,v7 K ρ H p.2 v/\aJ v q.2.2
def GZ(a:d5)(C:b7):c9->c8->d7->Prop:=λ_ _ h=>∃o vs,h.get? a=a7 o/\o.cls=C/\o.data=.fields vs
def xD(K:v6)(ρ:List d5)(H:Hp)(a:d5):MO->Prop
 |.lst ds=>∃vs,H a=a7 (.lst vs)/\Reps K ρ H ds vs
 |.fz ds=>∃o vs,H a=a7 (.frz o<|.lst vs)/\Reps K ρ H ds vs
 |.kl ds=>∃vs,KList K a vs/\Reps K ρ H ds vs
 |.dct kvs=>∃vs,H a=a7 (.dK (hV (kvs.map (·.1)) vs))/\Reps K ρ H (kvs.map (·.2)) vs
 |.dkt kvs=>kvs.length<=sizeLine/\(a==d8)=bt/\(kvs.map (·.1)).Nodup/\∃xs,H a=a7 (.ext<|dX a xs)/\Paired (pE K ρ H) kvs xs
 |.dkq e kvs=>kvs.length<=sizeLine/\(a==d8)=bt/\(kvs.map (·.1)).Nodup/\∃xs,H a=a7 (.ext<|dQ a e xs)/\Paired (pE K ρ H) kvs xs
 |.dkm kvs=>kvs.length<=sizeLine/\(a==d8)=bt/\(kvs.map (·.1)).Nodup/\∃xs,H a=a7 (.ext<|dM a xs)/\Paired (PP K ρ H) kvs xs
 |.fdc o kvs=>∃vs,H a=a7 (.frz o (.dK (hV (kvs.map (·.1)) vs)))/\Reps K ρ H (kvs.map (·.2)) vs
 |.tb x b=>(∃c,PySem.W.tabIn K x=a7 (c,a)/\∀h:d7,K.In h->PySem.W.CodeHd h c a)/\∃ps,H a=a7 (.tbl ps)/\(b=bt->ps = #[])
 |.exc x=>∃C,MJ K e7 x=a7 (a7<|.ref C)/\H a=a7 (.ext<|GZ a<|.ref C)
def Lx(mo:Option MO):Prop:=∃ds,mo=a7 (.kl ds)
def am(M:v5)(n:Nat)(xs:List D):Prop:=M[n]?=a7 (.lst xs)\/M[n]?=a7 (.fz xs)\/M[n]?=a7 (.kl xs)
structure w9(K:v6)(ρ:List d5)(M:v5)(H:Hp):Prop where
 nd:∀(n m:Nat) (a:d5),n≠m->ρ[n]?=a7 a->ρ[m]?=a7 a->Lx M[n]?\/Lx M[m]?
 len:ρ.length=M.length
 obj:∀(n:Nat) (a:d5) (mo:MO),ρ[n]?=a7 a->M[n]?=a7 mo->xD K ρ H a mo
structure Grow(K:v6)(ρ:List d5)(H:Hp)(ρ':List d5)(H':Hp):Prop where
 pre:ρ <+: ρ'
 tup:∀a xs,B9 K H a xs->B9 K H' a xs
theorem Grow.refl{K:v6}{ρ:List d5}{H:Hp}:Grow K ρ H ρ H:=⟨Ml,λ_ _ h=>h⟩
theorem Grow.trans{K:v6}{ρ c d:List d5}{H H1 e:Hp}(a:Grow K ρ H c H1)(b:Grow K c H1 d e):Grow K ρ H d e:=⟨a.pre.trans b.pre,λx xs h=>b.tup x xs<|a.tup x xs h⟩
theorem ax{α:Type}{l l':List α}(h:l <+: l'){n:Nat}{a:α}(e:l[n]?=a7 a):l'[n]?=a7 a:=by obtain⟨t,rfl⟩:=h;rw[Le (A5.mp e).1];exact e
theorem v7.grow{K:v6}{ρ ρ':List d5}{H H':Hp}(g:Grow K ρ H ρ' H'){d:D}{v:V}(h:v7 K ρ H d v):v7 K ρ' H' d v:=v7.rec (motive_1:=λd v _=>v7 K ρ' H' d v) (motive_2:=λds vs _=>Reps K ρ' H' ds vs) .non .bl .int .str .ty (λh _ r=>.tup (g.tup _ _ h) r) (λh=>.ref<|ax g.pre h) .nil (λ_ _ h t=>.cons h t) h
theorem Reps.grow{K:v6}{ρ ρ':List d5}{H H':Hp}(g:Grow K ρ H ρ' H'){ds:List D}{vs:List V}(h:Reps K ρ H ds vs):Reps K ρ' H' ds vs:=Reps.rec (motive_1:=λd v _=>v7 K ρ' H' d v) (motive_2:=λds vs _=>Reps K ρ' H' ds vs) .non .bl .int .str .ty (λh _ r=>.tup (g.tup _ _ h) r) (λh=>.ref<|ax g.pre h) .nil (λ_ _ h t=>.cons h t) h
section
variable{K:v6}{ρ ρ':List d5}{H H':Hp}{M:v5}
theorem Reps.length(h:Reps K ρ H ds vs):ds.length=vs.length:=Reps.rec (motive_1:=λ_ _ _=>True) (motive_2:=λds vs _=>ds.length=vs.length) trivial (λ_=>trivial) (λ_=>trivial) (λ_=>trivial) (λ_=>trivial) (λ_ _ _=>trivial) (λ_=>trivial) rfl (λ_ _ _ t=>t9 Nat.succ t) h
theorem Reps.append(h:Reps K ρ H ds vs)(s:Reps K ρ H es ws):Reps K ρ H (ds++es) (vs++ws):=Reps.rec (motive_1:=λ_ _ _=>True) (motive_2:=λds vs _=>Reps K ρ H (ds++es)<|vs++ws) trivial (λ_=>trivial) (λ_=>trivial) (λ_=>trivial) (λ_=>trivial) (λ_ _ _=>trivial) (λ_=>trivial) s (λh _ _ t=>.cons h t) h
theorem Reps.get:∀{ds:List D}{vs:List V}{i:Nat}{d:D},Reps K ρ H ds vs->ds[i]?=a7 d->∃v,vs[i]?=a7 v/\v7 K ρ H d v
 |_,_,_,_,.nil,e=>by simp at e
 |_,_,0,_,.cons r _,e=>by simp at e;subst e;exact⟨_,rfl,r⟩
 |_,_,i+1,d,.cons _ t,e=>by obtain⟨v,h1,h2⟩:=Reps.get (i:=i) (d:=d) t (by simpa using e);exact⟨v,by simpa using h1,h2⟩
theorem Reps.getV:∀{ds:List D}{vs:List V}{i:Nat}{v:V},Reps K ρ H ds vs->vs[i]?=a7 v->∃d,ds[i]?=a7 d/\v7 K ρ H d v
 |_,_,_,_,.nil,e=>by simp at e
 |_,_,0,_,.cons r _,e=>by simp at e;subst e;exact⟨_,rfl,r⟩
 |_,_,i+1,d,.cons _ t,e=>by obtain⟨v,h1,h2⟩:=Reps.getV (i:=i) (v:=d) t (by simpa using e);exact⟨v,by simpa using h1,h2⟩
theorem Reps.take:∀{ds:List D}{vs:List V} (n:Nat),Reps K ρ H ds vs->Reps K ρ H (ds.take n) (vs.take n)
 |_,_,0,_=>by simpa using .nil
 |_,_,_+1,.nil=>.nil
 |_,_,n+1,.cons r t=>.cons r<|Reps.take n t
theorem Reps.drop:∀{ds:List D}{vs:List V} (n:Nat),Reps K ρ H ds vs->Reps K ρ H (ds.drop n) (vs.drop n)
 |_,_,0,r=>r
 |_,_,_+1,.nil=>.nil
 |_,_,n+1,.cons _ t=>Reps.drop n t
theorem B9.laid(hp:H p=a8)(h:B9 K H a xs):B9 K (z5 H p o) a xs:=by
 rcases h with h|h;rcases h with h|⟨b,h⟩
 exact .inl (.inl<|by rw[ar<|ad h hp];exact h);exact .inl<|.inr ⟨b,by rw[ar<|ad h hp];exact h⟩;exact .inr h
theorem B9.written(hp:H p=a7 (.lst vs))(h:B9 K H a xs):B9 K (z5 H p o) a xs:=by
 rcases h with h|h;rcases h with h|⟨b,h⟩
 exact .inl (.inl<|by rw[ar<|wY h hp<|by intro z;cases z];exact h);exact .inl<|.inr ⟨b,by rw[ar<|wY h hp<|by intro z;cases z];exact h⟩;exact .inr h
theorem Grow.laid(hp:H p=a8):Grow K ρ H ρ (z5 H p o):=⟨Ml,λ_ _ h=>B9.laid hp h⟩
theorem Grow.laidR(hp:H p=a8):Grow K ρ H (ρ++[p]) (z5 H p o):=⟨Lu _ _,λ_ _ h=>B9.laid hp h⟩
theorem w9.tracked(S:w9 K ρ M H){n:Nat}{a:d5}(e:ρ[n]?=a7 a):(∃o,H a=a7 o)\/Lx M[n]?:=by
 have f:n<M.length:=by rw[<-S.len];exact(A5.mp e).1
 have d:M[n]?=a7 M[n]:=z9 f;have h:=S.obj n a _ e d;rw[d];cases c:M[n] with
 |lst ds=>rw[c]at h;obtain⟨vs,h,_⟩:=h;exact .inl ⟨_,h⟩
 |fz ds=>rw[c]at h;obtain⟨o,vs,h,_⟩:=h;exact .inl ⟨_,h⟩
 |kl ds=>exact .inr ⟨ds,rfl⟩
 |dct kvs=>rw[c]at h;obtain⟨vs,h,_⟩:=h;exact .inl ⟨_,h⟩
 |dkt kvs=>rw[c]at h;obtain⟨_,_,_,xs,h,_⟩:=h;exact .inl ⟨_,h⟩
 |dkq _ kvs=>rw[c]at h;obtain⟨_,_,_,xs,h,_⟩:=h;exact .inl ⟨_,h⟩
 |fdc o kvs=>rw[c]at h;obtain⟨vs,h,_⟩:=h;exact .inl ⟨_,h⟩
 |dkm kvs=>rw[c]at h;obtain⟨_,_,_,xs,h,_⟩:=h;exact .inl ⟨_,h⟩
 |tb x b=>rw[c]at h;obtain⟨_,ps,h,_⟩:=h;exact .inl ⟨_,h⟩
 |exc x=>rw[c]at h;obtain⟨_,_,h⟩:=h;exact .inl ⟨_,h⟩
theorem xD.grow(g:Grow K ρ H ρ' H')(hs:H' a=H a\/Lx (a7 mo))(h:xD K ρ H a mo):xD K ρ' H' a mo:=by
 cases mo with
 |lst ds =>
  obtain⟨vs,e,r⟩:=h;rcases hs with hs|⟨_,z⟩
  exact⟨vs,by rw[hs];exact e,r.grow g⟩;cases z
 |fz ds =>
  obtain⟨o,vs,e,r⟩:=h;rcases hs with hs|⟨_,z⟩
  exact⟨o,vs,by rw[hs];exact e,r.grow g⟩;cases z
 |fdc o kvs =>
  obtain⟨vs,e,r⟩:=h;rcases hs with hs|⟨_,z⟩
  exact⟨vs,by rw[hs];exact e,r.grow g⟩;cases z
 |tb x b =>
  obtain⟨c,ps,e,q⟩:=h;rcases hs with hs|⟨_,z⟩
  exact⟨c,ps,by rw[hs];exact e,q⟩;cases z
 |exc x =>
  obtain⟨C,e,q⟩:=h;rcases hs with hs|⟨_,z⟩
  exact⟨C,e,by rw[hs];exact q⟩;cases z
 |kl ds=>obtain⟨vs,e,r⟩:=h;exact⟨vs,e,r.grow g⟩
 |dkm kvs =>
  obtain⟨h1,h2,d,xs,e,r⟩:=h;rcases hs with hs|⟨_,z⟩
  exact⟨h1,h2,d,xs,by rw[hs];exact e,Paired.mapP r λ_ _ ⟨f,i,⟨u,j,l⟩,v,G,k⟩=>⟨f,i,⟨u,j.grow g,l⟩,v,G.grow g,k⟩⟩;cases z
 |dct kvs =>
  obtain⟨vs,e,r⟩:=h;rcases hs with hs|⟨_,z⟩
  exact⟨vs,by rw[hs];exact e,r.grow g⟩;cases z
 |dkt kvs =>
  obtain⟨h1,h2,d,xs,e,r⟩:=h;rcases hs with hs|⟨_,z⟩
  exact⟨h1,h2,d,xs,by rw[hs];exact e,Paired.mapP r λ_ _ ⟨f,i,j,v,G,k⟩=>⟨f,i,j.grow g,v,G.grow g,k⟩⟩;cases z
 |dkq _ kvs =>
  obtain⟨h1,h2,d,xs,e,r⟩:=h;rcases hs with hs|⟨_,z⟩
  exact⟨h1,h2,d,xs,by rw[hs];exact e,Paired.mapP r λ_ _ ⟨f,i,j,v,G,k⟩=>⟨f,i,j.grow g,v,G.grow g,k⟩⟩;cases z
theorem w9.keeps{p:d5}{o:HO}(S:w9 K ρ M H)(hp:H p=a8){n:Nat}{a:d5}{mo:MO}(t:ρ[n]?=a7 a)(l:M[n]?=a7 mo):z5 H p o a=H a\/Lx (a7 mo):=by rcases S.tracked t with⟨c,b⟩|q;exact .inl<|ar<|ad b hp;rw[l]at q;exact .inr q
theorem w9.laid{p:d5}{o:HO}(S:w9 K ρ M H)(hp:H p=a8):w9 K ρ M (z5 H p o):=⟨S.nd,S.len,λn a m t l=>(S.obj n a m t l).grow (Grow.laid hp)<|S.keeps hp t l⟩
theorem aU{α:Type}{l:List α}{x y:α}{n:Nat}(h:(l++[x])[n]?=a7 y):l[n]?=a7 y\/(n=l.length/\y=x):=by
 by_cases f:n<l.length;rw[Le f]at h;exact .inl h;have a:n=l.length:=by have:=(A5.mp h).1;rw[D5,Ll]at this;lia
 subst a;rw[LU<|w5 _,MI]at h;simp at h;exact .inr ⟨rfl,h.symm⟩
theorem Lx.more{mo:MO}{n:Nat}(h:Lx M[n]?):Lx (M++[mo])[n]?:=by obtain⟨ds,e⟩:=h;exact⟨ds,by rw[Le (A5.mp e).1];exact e⟩
theorem w9.laidL{p:d5}{ds:List D}{vs:List V}(S:w9 K ρ M H)(hp:H p=a8)(r:Reps K ρ H ds vs):w9 K (ρ++[p]) (M++[.lst ds]) (z5 H p<|.lst vs):=by
 have g:Grow K ρ H (ρ++[p]) (z5 H p<|.lst vs):=Grow.laidR hp;have d:∀(n:Nat),ρ[n]?=a7 p->Lx M[n]?:=λn e=>by rcases S.tracked e with⟨o,q⟩|q;rw[hp]at q;cases q;exact q
 refine⟨λn m a h t l=>?_,by rw[D5,D5,S.len];rfl,λn a i t l=>?_⟩;rcases aU t with f|⟨f,g1⟩
 rcases aU l with N|⟨N,b⟩
 exact(S.nd n m a h f N).elim (λz=>.inl z.more) λz=>.inr z.more;subst b;exact .inl (d n f).more;rcases aU l with N|⟨N,b⟩
 subst g1;exact .inr (d m N).more;exact t4 (f.trans N.symm) h;rcases aU t with f|⟨f,g1⟩
 have c:n<M.length:=by rw[<-S.len];exact(A5.mp f).1
 rw[Le c]at l;exact(S.obj n a i f l).grow g<|S.keeps hp f l;subst g1 f;rw[S.len,LU<|w5 _,MI]at l;simp at l;subst l;exact⟨vs,aK,r.grow g⟩
theorem w9.last(S:w9 K ρ M H):(ρ++[p])[M.length]?=a7 p:=by rw[<-S.len,LU<|w5 _,MI];rfl
theorem w9.write(S:w9 K ρ M H)(t:ρ[n]?=a7 a)(s:M[n]?=a7 (.lst ds))(p:H a=a7 (.lst vs))(r:Reps K ρ H ds' vs'):w9 K ρ (M.set n<|.lst ds') (z5 H a<|.lst vs')/\Grow K ρ H ρ (z5 H a<|.lst vs'):=by
 have g:Grow K ρ H ρ (z5 H a<|.lst vs'):=⟨Ml,λ_ _ h=>B9.written p h⟩
 have k:∀m,m≠n->(M.set n<|.lst ds')[m]?=M[m]?:=λm d=>Lv<|A1 d;have c:¬Lx M[n]?:=λ⟨_,z⟩=>by rw[s]at z;cases z
 refine⟨⟨λm j b e f N=>?_,by rw[M9];exact S.len,λm b o f N=>?_⟩,g⟩;have q:=S.nd m j b e f N;by_cases h1:m=n;subst h1;rw[k j<|A1 e];exact .inr<|q.resolve_left c;rw[k m h1];by_cases h2:j=n;subst h2;exact .inl<|q.resolve_right c;rw[k j h2];exact q;by_cases d:m=n;subst d;have i:b=a:=C7<|f.symm.trans t;subst i;rw[LF<|by rw[<-S.len];exact(A5.mp t).1]at N;cases N;exact⟨vs',aK,r.grow g⟩;rw[k m d]at N;by_cases i:b=a;subst i;have q:=S.nd m n b d f t;have l:=q.resolve_right c;rw[N]at l;exact(S.obj m b o f N).grow g<|.inr l;exact(S.obj m b o f N).grow g<|.inl<|ar i
theorem am.seq(S:w9 K ρ M H)(h:am M n xs)(e:ρ[n]?=a7 a):∃vs,J0 K H a vs/\Reps K ρ H xs vs:=by rcases h with h|h|h;obtain⟨vs,q,r⟩:=S.obj n a _ e h;exact⟨vs,.inl<|.inl q,r⟩;obtain⟨o,vs,q,r⟩:=S.obj n a _ e h;exact⟨vs,.inl<|.inr ⟨o,q⟩,r⟩;obtain⟨vs,q,r⟩:=S.obj n a _ e h;exact⟨vs,.inr q,r⟩
theorem w9.get(S:w9 K ρ M H){n:Nat}{mo:MO}(e:M[n]?=a7 mo):∃a,ρ[n]?=a7 a/\xD K ρ H a mo:=by
 have f:n<ρ.length:=by rw[S.len];exact(A5.mp e).1
 exact⟨ρ[n],z9 f,S.obj n _ mo (z9 f) e⟩
end
noncomputable abbrev SD:=List<|Option D
structure SRep(K:v6)(ρ:List d5)(H:Hp)(S:SD)(σ:St):Prop where
 len:S.length=σ.length
 get:∀(i:Nat) (d:D),S[i]?=a7 (a7 d)->∃v,σ[i]?=a7 (a7 v)/\v7 K ρ H d v
theorem SRep.grow{K:v6}{ρ ρ':List d5}{H H':Hp}{S:SD}{σ:St}(r:SRep K ρ H S σ)(g:Grow K ρ H ρ' H'):SRep K ρ' H' S σ:=⟨r.len,λi d e=>let ⟨v,h1,h2⟩:=r.get i d e;⟨v,h1,h2.grow g⟩⟩
theorem SRep.set{K:v6}{ρ:List d5}{H:Hp}{S:SD}{σ:St}(r:SRep K ρ H S σ)(i:Nat){d:D}{v:V}(h:v7 K ρ H d v):SRep K ρ H (S.set i<|a7 d) (σ.set i<|a7 v):=by refine⟨by rw[M9,M9];exact r.len,λj e L=>?_⟩;by_cases a:i=j;subst a;by_cases g:i<S.length;rw[LF g]at L;cases L;exact⟨v,by rw[LF<|by rw[<-r.len];exact g],h⟩;rw[Nv<|by rw[M9];lia]at L;cases L;rw[Lv a]at L;rw[Lv a];exact r.get j e L
abbrev DK:=D->v5->Prop
abbrev x9:=SD->v5->DK->Prop
abbrev J1:=SD->v5->(Bool->v5->Prop)->Prop
abbrev E8:=SD->v5->(List D->v5->Prop)->Prop
structure DEnds where
 nx:SD->v5->Prop
 rt:DK
 bk:SD->v5->Prop:=λ_ _=>False
 ct:SD->v5->Prop:=λ_ _=>False
abbrev u9:=DEnds->SD->v5->Prop
abbrev K7:=D->SD->v5->(SD->v5->Prop)->Prop
abbrev Ei:=List D->SD->v5->(SD->v5->Prop)->Prop
abbrev F6:=D->D->v5->DK->Prop
abbrev OQ:=D->v5->DK->Prop
abbrev E1:=List D->v5->DK->Prop
section
variable(K:v6)
inductive VQ(ρ:List d5)(H:Hp)(Q:DK)(v:V)(H':Hp):Prop
 |mk (d:D) (M':v5) (ρ':List d5) (s:w9 K ρ' M' H') (g:Grow K ρ H ρ' H') (r:v7 K ρ' H' d v) (q:Q d M')
inductive BQ(ρ:List d5)(H:Hp)(Q:Bool->v5->Prop)(b:Bool)(H':Hp):Prop
 |mk (M':v5) (ρ':List d5) (s:w9 K ρ' M' H') (g:Grow K ρ H ρ' H') (q:Q b M')
inductive AQ(ρ:List d5)(H:Hp)(Q:List D->v5->Prop)(vs:List V)(H':Hp):Prop
 |mk (ds:List D) (M':v5) (ρ':List d5) (s:w9 K ρ' M' H') (g:Grow K ρ H ρ' H') (r:Reps K ρ' H' ds vs) (q:Q ds M')
inductive SQ(ρ:List d5)(H:Hp)(Q:SD->v5->Prop)(σ':St)(H':Hp):Prop
 |mk (S':SD) (M':v5) (ρ':List d5) (s:w9 K ρ' M' H') (g:Grow K ρ H ρ' H') (r:SRep K ρ' H' S' σ') (q:Q S' M')
structure OJ(ρ:List d5)(H:Hp)(F:DEnds)(E:Ends):Prop where
 nx:∀σ' H',SQ K ρ H F.nx σ' H'->E.nx σ' H'
 rt:∀v H',VQ K ρ H F.rt v H'->E.rt v H'
 bk:∀σ' H',SQ K ρ H F.bk σ' H'->E.bk σ' H'
 ct:∀σ' H',SQ K ρ H F.ct σ' H'->E.ct σ' H'
inductive lowE(t:x9)(σ:St)(H:Hp)(R:VK):Prop
 |mk (S:SD) (M:v5) (ρ:List d5) (Q:DK) (s:w9 K ρ M H) (sr:SRep K ρ H S σ) (q:t S M Q) (k:∀v H',VQ K ρ H Q v H'->R v H')
inductive lowT(t:J1)(σ:St)(H:Hp)(R:Bool->Hp->Prop):Prop
 |mk (S:SD) (M:v5) (ρ:List d5) (Q:Bool->v5->Prop) (s:w9 K ρ M H) (sr:SRep K ρ H S σ) (q:t S M Q) (k:∀v H',BQ K ρ H Q v H'->R v H')
inductive lowA(t:E8)(σ:St)(H:Hp)(R:List V->Hp->Prop):Prop
 |mk (S:SD) (M:v5) (ρ:List d5) (Q:List D->v5->Prop) (s:w9 K ρ M H) (sr:SRep K ρ H S σ) (q:t S M Q) (k:∀v H',AQ K ρ H Q v H'->R v H')
inductive lowS(t:u9)(E:Ends)(σ:St)(H:Hp):Prop
 |mk (S:SD) (M:v5) (ρ:List d5) (F:DEnds) (s:w9 K ρ M H) (sr:SRep K ρ H S σ) (q:t F S M) (k:OJ K ρ H F E)
inductive lowG(g:K7)(v:V)(σ:St)(H:Hp)(R:St->Hp->Prop):Prop
 |mk (d:D) (S:SD) (M:v5) (ρ:List d5) (Q:SD->v5->Prop) (s:w9 K ρ M H) (sr:SRep K ρ H S σ) (r:v7 K ρ H d v) (q:g d S M Q) (k:∀σ' H',SQ K ρ H Q σ' H'->R σ' H')
inductive lowGs(g:Ei)(vs:List V)(σ:St)(H:Hp)(R:St->Hp->Prop):Prop
 |mk (ds:List D) (S:SD) (M:v5) (ρ:List d5) (Q:SD->v5->Prop) (s:w9 K ρ M H) (sr:SRep K ρ H S σ) (r:Reps K ρ H ds vs) (q:g ds S M Q) (k:∀σ' H',SQ K ρ H Q σ' H'->R σ' H')
inductive lowR(r:F6)(vx vy:V)(H:Hp)(R:VK):Prop
 |mk (x y:D) (M:v5) (ρ:List d5) (Q:DK) (s:w9 K ρ M H) (r1:v7 K ρ H x vx) (r2:v7 K ρ H y vy) (q:r x y M Q) (k:∀v H',VQ K ρ H Q v H'->R v H')
inductive lowU(r:OQ)(vx:V)(H:Hp)(R:VK):Prop
 |mk (x:D) (M:v5) (ρ:List d5) (Q:DK) (s:w9 K ρ M H) (r1:v7 K ρ H x vx) (q:r x M Q) (k:∀v H',VQ K ρ H Q v H'->R v H')
inductive lowC(r:E1)(vs:List V)(H:Hp)(R:VK):Prop
 |mk (ds:List D) (M:v5) (ρ:List d5) (Q:DK) (s:w9 K ρ M H) (r1:Reps K ρ H ds vs) (q:r ds M Q) (k:∀v H',VQ K ρ H Q v H'->R v H')
end
def DE(X:Cx)(e:g7)(t:x9):Prop:=PE X e<|lowE X.K t
def DT(X:Cx)(e:g7)(t:J1):Prop:=PT X e<|lowT X.K t
def DW(X:Cx)(e:g7)(t:J1):Prop:=PW X e<|lowT X.K t
def DA(X:Cx)(es:List g7)(t:E8):Prop:=PA X es<|lowA X.K t
def DS(X:Cx)(st:i6)(t:u9):Prop:=PS X st<|lowS X.K t
def Mu(X:Cx)(st:List i6)(t:u9):Prop:=K5 X st<|lowS X.K t
def DG(X:Cx)(t:g7)(g:K7):Prop:=PG X t<|lowG X.K g
def OR(X:Cx)(t:List g7)(g:Ei):Prop:=OM X t<|lowGs X.K g
def G1(X:Cx)(f:b7->b7->Sem b7)(r:F6):Prop:=D7 X f<|lowR X.K r
def QY(X:Cx)(f:b7->Sem b7)(r:OQ):Prop:=PL X f<|lowU X.K r
def iO(X:Cx)(f:b7)(r:E1):Prop:=dH X f<|lowC X.K r
section
variable{K:v6}{ρ ρ1:List d5}{H H1:Hp}
theorem VQ.trans(g:Grow K ρ H ρ1 H1)(h:VQ K ρ1 H1 Q v H'):VQ K ρ H Q v H':=by obtain⟨d,M',ρ',s,a,r,q⟩:=h;exact⟨d,M',ρ',s,g.trans a,r,q⟩
theorem BQ.trans(g:Grow K ρ H ρ1 H1)(h:BQ K ρ1 H1 Q v H'):BQ K ρ H Q v H':=by obtain⟨M',ρ',s,a,q⟩:=h;exact⟨M',ρ',s,g.trans a,q⟩
theorem SQ.trans(g:Grow K ρ H ρ1 H1)(h:SQ K ρ1 H1 Q v H'):SQ K ρ H Q v H':=by obtain⟨d,M',ρ',s,a,r,q⟩:=h;exact⟨d,M',ρ',s,g.trans a,r,q⟩
theorem OJ.trans(g:Grow K ρ H ρ1 H1)(h:OJ K ρ H F E):OJ K ρ1 H1 F E:=⟨λa H' q=>h.nx a H'<|SQ.trans g q,λv H' q=>h.rt v H'<|VQ.trans g q,λa H' q=>h.bk a H'<|SQ.trans g q,λa H' q=>h.ct a H'<|SQ.trans g q⟩
theorem VQ.now(s:w9 K ρ M H)(r:v7 K ρ H d v)(q:Q d M):VQ K ρ H Q v H:=⟨d,M,ρ,s,.refl,r,q⟩
end
section
variable{K:v6}{ρ:List d5}{H:Hp}{v:V}{vs:List V}
theorem v7.inv_non(h:v7 K ρ H .non v):v=.non:=by cases h;rfl
theorem v7.inv_bl(h:v7 K ρ H (.bl b) v):v=.bl b:=by cases h;rfl
theorem v7.inv_int(h:v7 K ρ H (.int i) v):v=.int i:=by cases h;rfl
theorem v7.inv_str(h:v7 K ρ H (.str x) v):v=.str x:=by cases h;rfl
theorem v7.inv_ty(h:v7 K ρ H (.ty n) v):v=.ty n:=by cases h;rfl
theorem v7.inv_tup(h:v7 K ρ H (.tup ds) v):∃a vs,v=.ref a/\B9 K H a vs/\Reps K ρ H ds vs:=by cases h with|tup h r=>exact⟨_,_,rfl,h,r⟩
theorem v7.inv_ref(h:v7 K ρ H (.ref n) v):∃a,v=.ref a/\ρ[n]?=a7 a:=by cases h with|ref h=>exact⟨_,rfl,h⟩
theorem aw.inv_cons(h:aw (x::vs) us):∃u ws,us=u::ws/\aJ x u/\aw vs ws:=by cases h with|cons h t=>exact⟨_,_,rfl,h,t⟩
theorem aw.inv_nil(h:aw [] us):us=[]:=by cases h;rfl
theorem Reps.inv_nil(h:Reps K ρ H [] vs):vs=[]:=by cases h;rfl
theorem Reps.inv_cons(h:Reps K ρ H (d::ds) vs):∃v ws,vs=v::ws/\v7 K ρ H d v/\Reps K ρ H ds ws:=by cases h with|cons h t=>exact⟨_,_,rfl,h,t⟩
end
end
theorem PE.imp(h:PE X e t')(i:∀σ H R,t σ H R->t' σ H R):PE X e t:=λp s σ H R I q=>h p s σ H R I<|i σ H R q
theorem PT.imp(h:PT X e t')(i:∀σ H R,t σ H R->t' σ H R):PT X e t:=λp s σ H R I q=>h p s σ H R I<|i σ H R q
theorem PW.imp(h:PW X e t')(i:∀σ H R,t σ H R->t' σ H R):PW X e t:=λw p s σ H R I q=>h w p s σ H R I<|i σ H R q
theorem PA.imp(h:PA X e t')(i:∀σ H R,t σ H R->t' σ H R):PA X e t:=λa p s σ H R I q=>h a p s σ H R I<|i σ H R q
theorem PS.imp(h:PS X e t')(i:∀E σ H,t E σ H->t' E σ H):PS X e t:=λp s σ H R I q=>h p s σ H R I<|i R σ H q
theorem K5.imp(h:K5 X e t')(i:∀E σ H,t E σ H->t' E σ H):K5 X e t:=λp s σ H R I q=>h p s σ H R I<|i R σ H q
theorem D7.imp(h:D7 X f r')(i:∀x y H R,r x y H R->r' x y H R):D7 X f r:=λp s σ H x y v u R I a b q=>h p s σ H x y v u R I a b<|i x y H R q
theorem dH.imp(h:dH X f r')(i:∀xs H R,r xs H R->r' xs H R):dH X f r:=λp s σ H xs us R I a q=>h p s σ H xs us R I a<|i xs H R q
section
variable{X:Cx}{a b c:g7}{ta tb tc:x9}{pos:i3}
def ac(i:Nat):x9:=λS M Q=>match S[i]? with
 |some (a7 d)=>Q d M
 |_=>False
def dC(d:D):x9:=λ_ M Q=>Q d M
theorem BV{K:v6}{i:Nat}(σ:St)(H:Hp)(R:VK)(h:lowE K (ac i) σ H R):tVar i σ H R:=by
 obtain⟨S,M,ρ,Q,s,r,q,k⟩:=h;unfold ac at q;cases e:S[i]? with
 |none=>rw[e]at q;exact q.elim
 |some o =>
  cases o with
  |none=>rw[e]at q;exact q.elim
  |some d=>rw[e]at q;obtain⟨v,c,a⟩:=r.get i d e;exact⟨v,c,k v H<|VQ.now s a q⟩
theorem d_var(h:X.N[i]?=a7 x:=by rfl)(c:NA X.env.scope x:=by first|exact Or.inl rfl|exact Or.inr (Or.inl rfl)|exact Or.inr<|Or.inr rfl)(a:(x==("__debug__":c7))=bt:=by decide)(d:(x==("__classdict__":c7))=bt:=by decide):DE X (.Name x pos) (ac i):=PE.imp (DB h c a d) BV
noncomputable def cV:D->Option V
 |.non=>a7 .non
 |.bl b=>a7<|.bl b
 |.int i=>a7<|.int i
 |.str x=>a7<|.str x
 |.ty n=>a7<|.ty n
 |_=>a8
theorem Au{K:v6}{ρ:List d5}{H:Hp}{d:D}{v:V}(h:cV d=a7 v):v7 K ρ H d v:=by
 cases d with
 |non=>cases h;exact .non
 |bl b=>cases h;exact .bl b
 |int b=>cases h;exact .int b
 |str b=>cases h;exact .str b
 |ty b=>cases h;exact .ty b
 |tup b=>cases h
 |ref b=>cases h
theorem rE{K:v6}{d:D}{v:V}(a:cV d=a7 v)(σ:St)(H:Hp)(R:VK)(h:lowE K (dC d) σ H R):tC v σ H R:=by obtain⟨S,M,ρ,Q,s,r,q,k⟩:=h;exact k v H<|VQ.now s (Au a) q
theorem d_int{i:Int}{j:Nat}:DE X (.Constant (.int i) j pos) (dC<|.int i):=PE.imp Ip<|rE rfl
theorem d_bl{i:Bool}{j:Nat}:DE X (.Constant (.bool i) j pos) (dC<|.bl i):=PE.imp pe_bl<|rE rfl
theorem d_non{j:Nat}:DE X (.Constant .none j pos) (dC .non):=PE.imp Im<|rE rfl
theorem d_str{i:c7}{j:Nat}:DE X (.Constant (.str i) j pos) (dC<|.str i):=PE.imp Ij<|rE rfl
theorem Kw{x:c7}{T:String}(m:X.mg x=a8)(c:e8 x=a7 (.type T))(R:Gl X x:=by rfl)(f:x≠"__name__":=by decide)(d:(x==("__debug__":c7))=bt:=by decide):DE X (.Name x pos) (dC<|.ty T):=PE.imp (yJ (v:=.ty T) R m c rfl f d)<|rE rfl
theorem low2{K:v6}{S:SD}{M:v5}{ρ:List d5}{σ:St}{H:Hp}{P:D->D->v5->Prop}{G:V->V->Hp->Prop}(s:w9 K ρ M H)(r:SRep K ρ H S σ)(h:ta S M λx M1=>tb S M1 λy M2=>P x y M2)(k:∀x y vx vy M2 ρ2 H2,w9 K ρ2 M2 H2->Grow K ρ H ρ2 H2->v7 K ρ2 H2 x vx->v7 K ρ2 H2 y vy->P x y M2->G vx vy H2):lowE K ta σ H λvx H1=>lowE K tb σ H1 λvy H2=>G vx vy H2:=by refine⟨S,M,ρ,_,s,r,h,?_⟩;rintro vx H1 ⟨x,M1,c,d,g1,a,q⟩;refine⟨S,M1,c,_,d,r.grow g1,q,?_⟩;rintro vy H2 ⟨y,M2,ρ2,n,b,l,g⟩;exact k x y vx vy M2 ρ2 H2 n (g1.trans b) (a.grow b) l g
def u5(r:F6)(t b:x9):x9:=λS M Q=>t S M λx a=>b S a λy M2=>r x y M2 Q
theorem oQ{K:v6}{r:F6}(σ:St)(H:Hp)(R:VK)(h:lowE K (u5 r ta tb) σ H R):OA (lowR K r) (lowE K ta) (lowE K tb) σ H R:=by obtain⟨S,M,ρ,Q,s,c,q,k⟩:=h;exact low2 s c q λx y f i M2 d e n b a l g=>⟨x,y,M2,d,Q,n,a,l,g,λv H' w=>k v H'<|VQ.trans b w⟩
theorem d_op(B:G1 X (j6 op) r)(f:DE X a ta)(d:DE X b tb):DE X (.BinOp a op b pos) (u5 r ta tb):=PE.imp (pe_op B f d) oQ
theorem d_cmp(B:G1 X (j7 op) r)(f:DE X a ta)(d:DE X b tb)(m:j8 op b=bt:=by with_unfolding_all rfl):DE X (.Compare a [op] [b] pos) (u5 r ta tb):=PE.imp (EV B f d m) oQ
def au(t:x9):J1:=λS M Q=>t S M λx M'=>match x with
 |.bl b=>Q b M'
 |_=>False
theorem rD{K:v6}{t:x9}(σ:St)(H:Hp)(R:Bool->Hp->Prop)(h:lowT K (au t) σ H R):Hq (lowE K t) σ H R:=by
 obtain⟨S,M,ρ,Q,s,c,q,k⟩:=h;refine⟨S,M,ρ,_,s,c,q,?_⟩;rintro v H' ⟨d,M',ρ',s',a,r',j⟩;cases r' with
 |bl b=>exact⟨b,rfl,k b H' ⟨M',ρ',s',a,j⟩⟩
 |_=>exact j.elim
theorem Kh(B:G1 X (j7 op) r)(f:DE X a ta)(d:DE X b tb)(m:j8 op b=bt:=by with_unfolding_all rfl):DT X (.Compare a [op] [b] pos) (au<|u5 r ta tb):=by refine PT.imp (EJ B f d m) λσ H R h=>?_;obtain⟨S,M,ρ,Q,s,c,q,k⟩:=rD σ H R h;exact oQ σ H _ ⟨S,M,ρ,Q,s,c,q,k⟩
theorem Ke(h:DE X e t)(i:∀whole,isTrue e X.env whole=(do let v <-whole;standAt e.pos;i7 [v] (truthy v)):=by intro _;rfl):DT X e (au t):=PT.imp (HY h i) rD
def PD(z:D)(k:Bool->Prop):Prop:=match z with
 |.bl b=>k b
 |_=>False
theorem nI{b:Bool}{k:Bool->Prop}:PD (.bl b) k=k b:=rfl
def sw(r r':F6)(t e f:x9):x9:=λS M Q=>t S M λx c=>e S c λy M2=>r x y M2 λz a=>PD z λb=>if b=a9 then f S a λw d=>r' y w d Q else Q (.bl bt) a
theorem xc{K:v6}{r r':F6}(σ:St)(H:Hp)(R:VK)(h:lowE K (sw r r' ta tb tc) σ H R):Dx (lowR K r) (lowR K r') (lowE K ta) (lowE K tb) (lowE K tc) σ H R:=by
 obtain⟨S,M,ρ,Q,s,m,q,k⟩:=h;refine low2 s m q λx y E F M2 d A u g t l p=>⟨x,y,M2,d,_,u,t,l,p,?_⟩
 rintro I n ⟨z,c,a,i,g3,C,j⟩;cases C with
 |bl b =>
  cases b with
  |false=>exact⟨bt,rfl,br<|k _ n ⟨_,c,a,i,g.trans g3,.bl bt,(show Q (.bl bt) c from j)⟩⟩
  |true=>refine⟨a9,rfl,bC ⟨S,c,a,_,i,m.grow<|g.trans g3,(show tc S c _ from j),?_⟩⟩;rintro D B ⟨w,o,e,P,f,L,G⟩;exact⟨y,w,o,e,Q,P,l.grow<|g3.trans f,L,G,λv H' Y=>k v H'<|VQ.trans ((g.trans g3).trans f) Y⟩
 |_=>exact j.elim
theorem GG(B:G1 X (j7 op) r)(h:G1 X (j7 op') r')(f:DE X a ta)(d:DE X b tb)(e:DE X c tc)(m:lastMarks [op,op'] [b,c]=bt:=by with_unfolding_all rfl):DE X (.Compare a [op,op'] [b,c] pos) (sw r r' ta tb tc):=PE.imp (BE B h f d e m) xc
variable{tA tB:J1}{aL:List g7}
def nP(t u:J1):J1:=λS M Q=>t S M λb a=>if b=a9 then u S a Q else Q bt a
def MD(t u:J1):J1:=λS M Q=>t S M λb a=>if b=a9 then Q a9 a else u S a Q
def Da(t:J1):J1:=λS M Q=>t S M λb a=>Q (!b) a
theorem Go(f:DT X a tA):DW X (.BoolOp .And [a] pos) tA:=EG f
theorem Kc(f:DT X a tA):DW X (.BoolOp .Or [a] pos) tA:=HR f
theorem Kd(h:DT X a tA)(i:DW X (.BoolOp .And (b::aL) pos) tB):DW X (.BoolOp .And (a::b::aL) pos) (nP tA tB):=by
 refine PW.imp (HV h i) ?_;rintro σ H R ⟨S,M,ρ,Q,s,r,q,k⟩;refine⟨S,M,ρ,_,s,r,q,?_⟩;rintro c H1 ⟨e,d,g,g1,f⟩;cases c with
 |true=>exact bC ⟨S,e,d,Q,g,r.grow g1,(show tB S e Q from f),λv H' w=>k v H'<|BQ.trans g1 w⟩
 |false=>exact br<|k bt H1 ⟨e,d,g,g1,f⟩
theorem dw_or(h:DT X a tA)(i:DW X (.BoolOp .Or (b::aL) pos) tB):DW X (.BoolOp .Or (a::b::aL) pos) (MD tA tB):=by
 refine PW.imp (pw_or h i) ?_;rintro σ H R ⟨S,M,ρ,Q,s,r,q,k⟩;refine⟨S,M,ρ,_,s,r,q,?_⟩;rintro c H1 ⟨e,d,g,g1,f⟩;cases c with
 |false=>exact br ⟨S,e,d,Q,g,r.grow g1,(show tB S e Q from f),λv H' w=>k v H'<|BQ.trans g1 w⟩
 |true=>exact bC<|k a9 H1 ⟨e,d,g,g1,f⟩
theorem dw_t(h:DW X e t):DT X e t:=PW.pt h
theorem Kg(f:DT X a tA):DT X (.UnaryOp .Not a pos) (Da tA):=by refine PT.imp (HZ f) ?_;rintro σ H R ⟨S,M,ρ,Q,s,r,q,k⟩;refine⟨S,M,ρ,_,s,r,q,?_⟩;rintro c H1 ⟨d,b,g,g1,e⟩;exact k (!c) H1 ⟨d,b,g,g1,e⟩
def eR(t c:x9):x9:=λS M Q=>t S M λx a=>PD x λb=>if b=a9 then c S a Q else Q (.bl bt) a
def dOrV(t c:x9):x9:=λS M Q=>t S M λx a=>PD x λb=>if b=a9 then Q (.bl a9) a else c S a Q
def Ak(t:x9):x9:=λS M Q=>t S M λx a=>match x with
 |.bl b=>Q (.bl<|!b) a
 |_=>False
theorem d_one{op}(h:DE X a ta):DE X (.BoolOp op [a] pos) ta:=Ik h
theorem d_and(i:DE X a ta)(j:DE X (.BoolOp .And (b::aL) pos) tb):DE X (.BoolOp .And (a::b::aL) pos) (eR ta tb):=by
 refine PE.imp (Iu i j) ?_;rintro σ H R ⟨S,M,ρ,Q,s,r,q,k⟩;refine⟨S,M,ρ,_,s,r,q,?_⟩;rintro v H1 ⟨d,f,e,h,g1,l,g⟩;cases l with
 |bl c =>
  cases c with
  |true=>exact⟨a9,rfl,bC ⟨S,f,e,Q,h,r.grow g1,(show tb S f Q from g),λv H' w=>k v H'<|VQ.trans g1 w⟩⟩
  |false=>exact⟨bt,rfl,br<|k _ H1 ⟨_,f,e,h,g1,.bl bt,(show Q (.bl bt) f from g)⟩⟩
 |_=>exact g.elim
theorem d_or(i:DE X a ta)(j:DE X (.BoolOp .Or (b::aL) pos) tb):DE X (.BoolOp .Or (a::b::aL) pos) (dOrV ta tb):=by
 refine PE.imp (pe_or i j) ?_;rintro σ H R ⟨S,M,ρ,Q,s,r,q,k⟩;refine⟨S,M,ρ,_,s,r,q,?_⟩;rintro v H1 ⟨d,f,e,h,g1,l,g⟩;cases l with
 |bl c =>
  cases c with
  |false=>exact⟨bt,rfl,br ⟨S,f,e,Q,h,r.grow g1,(show tb S f Q from g),λv H' w=>k v H'<|VQ.trans g1 w⟩⟩
  |true=>exact⟨a9,rfl,bC<|k _ H1 ⟨_,f,e,h,g1,.bl a9,(show Q (.bl a9) f from g)⟩⟩
 |_=>exact g.elim
theorem d_not(h:DE X a ta):DE X (.UnaryOp .Not a pos) (Ak ta):=by
 refine PE.imp (Il h) ?_;rintro σ H R ⟨S,M,ρ,Q,s,i,q,k⟩;refine⟨S,M,ρ,_,s,i,q,?_⟩;rintro v H1 ⟨d,f,b,g,g1,r,e⟩;cases r with
 |bl c=>exact⟨c,rfl,k _ H1 ⟨_,f,b,g,g1,.bl<|!c,e⟩⟩
 |_=>exact e.elim
variable{e:g7}{es:List g7}{te:x9}{t:E8}
def ah:E8:=λ_ M Q=>Q [] M
def aa(te:x9)(t:E8):E8:=λS M Q=>te S M λd a=>t S a λds M2=>Q (d::ds) M2
theorem Kv:DA X [] ah:=by refine PA.imp yK ?_;rintro σ H R ⟨S,M,ρ,Q,s,c,q,k⟩;exact k [] H ⟨[],M,ρ,s,.refl,.nil,q⟩
theorem GE(h:DE X e te)(i:DA X es t)(hs:i5 (e::es) X.env=(bt,eval e X.env)::i5 es X.env:=by rfl):DA X (e::es) (aa te t):=by refine PA.imp (lx h i hs) ?_;rintro σ H R ⟨S,M,ρ,Q,s,r,q,k⟩;refine⟨S,M,ρ,_,s,r,q,?_⟩;rintro v H1 ⟨d,g,c,o,g1,m,j⟩;refine⟨S,g,c,_,o,r.grow g1,j,?_⟩;rintro vs f ⟨ds,M2,a,p,b,n,l⟩;exact k _ f ⟨d::ds,M2,a,p,g1.trans b,.cons (m.grow b) n,l⟩
def eP(t:E8):x9:=λS M Q=>t S M λds a=>ds.length<=sizeLine/\Q (.tup ds) a
def gW(t:E8):x9:=λS M Q=>t S M λds a=>ds.length<=sizeLine/\Q (.ref a.length) (a++[.lst ds])
theorem VQ.laidT{K:v6}{ρ c:List d5}{H H1:Hp}{a:v5}{ds:List D}{vs:List V}{Q:DK}{p:d5}(s:w9 K c a H1)(g1:Grow K ρ H c H1)(r:Reps K c H1 ds vs)(hp:H1 p=a8)(q:Q (.tup ds) a):VQ K ρ H Q (.ref p) (z5 H1 p<|.tup vs):=⟨.tup ds,a,c,s.laid hp,g1.trans<|Grow.laid hp,.tup (B9.of aK)<|r.grow<|Grow.laid hp,q⟩
theorem VQ.laidL{K:v6}{ρ c:List d5}{H H1:Hp}{a:v5}{ds:List D}{vs:List V}{Q:DK}{p:d5}(s:w9 K c a H1)(g1:Grow K ρ H c H1)(r:Reps K c H1 ds vs)(hp:H1 p=a8)(q:Q (.ref a.length) (a++[.lst ds])):VQ K ρ H Q (.ref p) (z5 H1 p<|.lst vs):=⟨.ref a.length,a++[.lst ds],c++[p],s.laidL hp r,g1.trans<|Grow.laidR hp,.ref s.last,q⟩
theorem d_tup{x1}(h:DA X es t):DE X (.Tuple es x1 pos) (eP t):=by refine PE.imp (Ii h) ?_;rintro σ H R ⟨S,M,ρ,Q,s,a,q,k⟩;refine⟨S,M,ρ,_,s,a,q,?_⟩;rintro vs H1 ⟨ds,e,d,c,g1,r,z,b⟩;exact⟨by rw[<-r.length];exact z,λp hp=>k _ _<|VQ.laidT c g1 r hp b⟩
theorem d_lst(h:DA X es t):DE X (.List es pos) (gW t):=by refine PE.imp (Io h) ?_;rintro σ H R ⟨S,M,ρ,Q,s,a,q,k⟩;refine⟨S,M,ρ,_,s,a,q,?_⟩;rintro vs H1 ⟨ds,e,d,c,g1,r,z,b⟩;exact⟨by rw[<-r.length];exact z,λp hp=>k _ _<|VQ.laidL c g1 r hp b⟩
def v8(r:E1)(t:E8):x9:=λS M Q=>t S M λds a=>r ds a Q
theorem zc{K:v6}{r:E1}(σ:St)(H:Hp)(R:VK)(h:lowE K (v8 r t) σ H R):QS (lowC K r) (lowA K t) σ H R:=by obtain⟨S,M,ρ,Q,s,f,q,k⟩:=h;refine⟨S,M,ρ,_,s,f,q,?_⟩;rintro vs H1 ⟨ds,a,c,e,g1,d,b⟩;exact⟨ds,a,c,Q,e,d,b,λv H' w=>k v H'<|VQ.trans g1 w⟩
theorem GH{x:c7}{p:i3}{id:String}{r:E1}(c:iO X (.builtin id) r)(d:X.mg x=a8)(v:e8 x=a7 (.builtin id))(f:DA X (e::es) t)(R:Gl X x:=by rfl)(n:x≠"__name__":=by decide)(b:(x==("__debug__":c7))=bt:=by decide)(i:i5 (e::es) X.env=(bt,eval e X.env)::i5 es X.env:=by rfl) (l:(i4 pos<|i5 es X.env).any (·.1)=bt:=by rfl):DE X (.Call (.Name x p) (e::es) [] pos) (v8 r t):=PE.imp (oE c R d v f n b i l) zc
theorem CZ(c:iO X (.type T) r)(d:X.mg x=a8)(v:e8 x=a7 (.type T))(f:DA X (e::es) t)(R:Gl X x:=by rfl)(n:x≠"__name__":=by decide)(b:(x==("__debug__":c7))=bt:=by decide)(i:i5 (e::es) X.env=(bt,eval e X.env)::i5 es X.env:=by rfl) (l:(i4 pos<|i5 es X.env).any (·.1)=bt:=by rfl):DE X (.Call (.Name x p) (e::es) [] pos) (v8 r t):=PE.imp (yI c R d v f n b i l) zc
abbrev A2:=List D->v5->DK->Prop
def LG(K:v6)(P:A2):Sp:=λvs H Q _=>∃ds M ρ R,w9 K ρ M H/\Reps K ρ H ds vs/\P ds M R/\∀v H',VQ K ρ H R v H'->Q v H'
theorem za{K:v6}{P:A2}(σ:St)(H:Hp)(R:VK)(h:lowE K (v8 P t) σ H R):Hu (LG K P) [] E0 (lowA K t) σ H R:=by obtain⟨S,M,ρ,Q,s,e,q,k⟩:=h;exact⟨S,M,ρ,_,s,e,q,λvs H1 ⟨ds,a,c,d,g1,r,b⟩=>⟨ds,a,c,Q,d,by rw[Lb];exact r,b,λv H' w=>k v H'<|VQ.trans g1 w⟩⟩
theorem KB(F:FnOk X.prog X.w X.K X.mg X.base K0 k f fd ps (LG X.K P))(r:Room k X.A)(m:X.mg x=a7 (.ref f))(h:MM X.K (.ref f)=a9)(d:mM X.K fd ps [])(a:DA X (e::es) t) (R:Gl X x:=by rfl) (b:(x==("__debug__":c7))=bt:=by decide) (i:i5 (e::es) X.env=(bt,eval e X.env)::i5 es X.env:=by rfl) (l:(i4 pos<|i5 es X.env).any (·.1)=bt:=by rfl):DE X (.Call (.Name x p) (e::es) [] pos) (v8 P t):=PE.imp (EW F r R m h d .nil pass0 a b i l) za
end
section
variable{X:Cx}{st:i6}{aL:List i6}{t u:u9}{e:g7}{te:x9}{pos:i3}
def aI:u9:=λE S M=>E.nx S M
def aB(t u:u9):u9:=λE S M=>t { E with nx:=λa M'=>u E a M' } S M
theorem Kl:Mu X [] aI:=by refine K5.imp EL ?_;rintro E σ H ⟨S,M,ρ,F,s,c,q,k⟩;exact k.nx σ H ⟨S,M,ρ,s,.refl,c,q⟩
theorem Kk(h:DS X st t):Mu X [st] t:=EK h
theorem Gv(h1:DS X st t)(h2:Mu X aL u):Mu X (st::aL) (aB t u):=by refine K5.imp (By h1 h2) ?_;rintro E σ H ⟨S,M,ρ,F,s,c,q,k⟩;exact⟨S,M,ρ,_,s,c,q,⟨λd H' ⟨b,M',ρ',s',g,a,j⟩=>⟨b,M',ρ',F,s',a,j,k.trans g⟩,k.rt,k.bk,k.ct⟩⟩
def iM(te:x9):u9:=λE S M=>te S M λ_ a=>E.nx S a
theorem Gu(i:DE X e te)(hs:i8 e a8 pos.line X.env=pure bt:=by rfl):DS X (.Expr e pos) (iM te):=by refine PS.imp (EM i hs) ?_;rintro E σ H ⟨S,M,ρ,F,s,r,q,k⟩;refine⟨S,M,ρ,_,s,r,q,?_⟩;rintro v H1 ⟨d,a,c,f,g1,g,b⟩;exact k.nx σ H1 ⟨S,a,c,f,g1,r.grow g1,b⟩
def bd(te:x9):u9:=λE S M=>te S M E.rt
theorem Kj(i:DE X e te):DS X (.Return (a7 e) pos) (bd te):=by refine PS.imp (Ib i) ?_;rintro E σ H ⟨S,M,ρ,F,s,c,q,k⟩;exact⟨S,M,ρ,_,s,c,q,λv H1 w=>k.rt v H1 w⟩
def B6(c:J1)(t u:u9):u9:=λE S M=>c S M λb a=>if b=a9 then t E S a else u E S a
theorem ds_if(j:DT X c tc)(h:Mu X a t)(i:Mu X b u):DS X (.If c a b pos) (B6 tc t u):=by
 refine PS.imp (ps_if j h i) ?_;rintro E σ H ⟨S,M,ρ,F,s,r,q,k⟩;refine⟨S,M,ρ,_,s,r,q,?_⟩;rintro c H1 ⟨e,d,g,g1,f⟩;cases c with
 |true=>exact bC ⟨S,e,d,F,g,r.grow g1,(show t F S e from f),k.trans g1⟩
 |false=>exact br ⟨S,e,d,F,g,r.grow g1,(show u F S e from f),k.trans g1⟩
def bg(te:x9)(i:Nat):u9:=λE S M=>te S M λd a=>E.nx (S.set i<|a7 d) a
theorem Ki(h:X.N.Nodup)(b:DE X e te)(hi:X.N[i]?=a7 x:=by rfl)(g:Ni X.env.scope x:=by first|exact Or.inl rfl|exact Or.inr rfl)(hs:i8 e (a7<|.Name x pos') pos.line X.env=pure bt:=by rfl)(f:X.fn x=a9\/X.env.scope.names.lookup x=a7 .local:=by first|exact .inl rfl|exact .inr rfl|assumption):DS X (.Assign [.Name x pos'] e pos) (bg te i):=by refine PS.imp (Ia h hi g b hs f) ?_;rintro E σ H ⟨S,M,ρ,F,s,r,q,k⟩;refine⟨S,M,ρ,_,s,r,q,?_⟩;rintro v H1 ⟨d,a,c,m,g1,l,j⟩;exact k.nx _ H1 ⟨_,a,c,m,g1,(r.grow g1).set i l,j⟩
def af(i:Nat):K7:=λd S M Q=>Q (S.set i<|a7 d) M
theorem uv(h:X.N.Nodup)(hi:X.N[i]?=a7 x:=by rfl)(a:Ni X.env.scope x:=by first|exact Or.inl rfl|exact Or.inr rfl)(f:X.fn x=a9\/X.env.scope.names.lookup x=a7 .local:=by first|exact .inl rfl|exact .inr rfl|assumption):DG X (.Name x pos) (af i):=λp s σ H v u R I r ⟨d,S,M,ρ,Q,m,c,b,q,k⟩=>ES h hi a f p s σ H v u R I r<|k _ H ⟨_,M,ρ,m,.refl,c.set i b,q⟩
end
theorem wG{P:c9}{w:c8}{K:v6}{tg:g7}(it:d5)(n:Nat)(N:Nat->b7->Prop)(PX:Nat->V->Prop)(Sx:Nat->d7->Prop)(W:∀A':f6,A'.handled=a8->Walks P w A' it [it] [it] n N Sx) (l:∀i v,N i v->∃x,aJ x v/\PX i x)(j:∀i h,Sx i h->∃(o:d6) (nm:String) (vs:Array b7),h.get? it=a7 o/\o.cls=.type nm/\o.data=.fields vs/\["enumerate","zip","dict_itemiterator","dict_reverseitemiterator","odict_iterator","itertools.zip_longest","itertools.pairwise"].contains nm=bt)(a:∀(i:Nat) (h h':d7),Sx i h->(∀o,h.get? it=a7 o->h'.get? it=a7 o)->Sx i h')(g:∀(A:f6) (i:Nat) (s:f7) (Q:b7->f7->Prop) (E:b7->f7->Prop),Sx i s.heap->Q (.ref it) s->ge (g9 P w) A (j3<|.ref it) Q E s):Turn P w K tg ⟨λi _=>i<n,λi H x H'=>H'=H/\PX i x,λi _=>i=n⟩ [it] it Sx where
 mem:=by simp
 obj:=λi h t b f=>by
  have e:b=it:=by simpa using f
  subst e;obtain⟨o,nm,vs,e,_,d,_⟩:=j i h t;exact⟨o,e,λv z=>by rw[d]at z;cases z⟩
 keep:=λi h h' t k=>a i h h' t λo e=>k it (by simp) o e
 item:=by intro X F J D G i p s σ H E I q t R;subst F J D;obtain⟨r,u,S,y,B,C⟩:=q it (by simp);refine(W X.A<|I.ok.hd G).item i s _ _ R t λv h' M U m L=>?_;obtain⟨x,Z,Y⟩:=l i v U;have O:u6 X p σ H { s with heap:=h',toks:=M }:=I.turned (λb o f e=>L b o (by simpa using f) e) r u y B C;obtain⟨o,nm,vs,e,c,d,T⟩:=j _ _ m;exact⟨v,rfl,zR (s:={ s with heap:=h',toks:=M }) e c d T ⟨x,H,O,Z,⟨rfl,Y⟩,m,λb f=>(q b f).1⟩⟩
 done:=by intro X F J D G i p s σ H E I q t R;subst F J D;obtain⟨r,u,S,y,B,C⟩:=q it (by simp);have hi:i=n:=R;subst hi;exact(W X.A<|I.ok.hd G).done s _ _ t λh' M L=>⟨rfl,I.turned (λb o f e=>L b o (by simpa using f) e) r u y B C⟩
 self:=g
noncomputable def yw(x:c7):List D:=x.cps.toList.map λc=>.str ⟨#[c]⟩
structure Q0 where
 items:List D
 ok:v5->Prop
abbrev LJ:=SD->v5->(Q0->v5->Prop)->Prop
structure Lo(K:v6)(src:Q0)(ρ0:List d5)(H0:Hp)(J:It):Prop where
 go:∀(i:Nat) ρ M H,w9 K ρ M H->Grow K ρ0 H0 ρ H->src.ok M->i<src.items.length->J.go i H
 yld:∀(i:Nat) ρ M H x H',w9 K ρ M H->Grow K ρ0 H0 ρ H->src.ok M->i<src.items.length->J.yld i H x H'->∃d ρ',src.items[i]?=a7 d/\w9 K ρ' M H'/\Grow K ρ H ρ' H'/\v7 K ρ' H' d x
 stop:∀(ρ:List d5) M H,w9 K ρ M H->Grow K ρ0 H0 ρ H->src.ok M->J.stop src.items.length H
def IQ(K:v6)(ρ:List d5)(H:Hp)(Q:Q0->v5->Prop):It->Hp->Prop:=λJ H'=>∃src M' ρ',w9 K ρ' M' H'/\Grow K ρ H ρ' H'/\Lo K src ρ' H' J/\Q src M'
def lowI(K:v6)(i:LJ):TI:=λσ H R=>∃S M ρ Q,w9 K ρ M H/\SRep K ρ H S σ/\i S M Q/\∀J H',IQ K ρ H Q J H'->R J H'
def DI(X:Cx)(g r:g7)(i:LJ):Prop:=PI X g r<|lowI X.K i
theorem Lo.tup{K:v6}{ρ:List d5}{H:Hp}{a:d5}{vs:List V}{ds:List D}(h:B9 K H a vs)(r:Reps K ρ H ds vs)(q:∀ys,B9 K H a ys->ys=vs):Lo K ⟨ds,λ_=>True⟩ ρ H (Ry K a) where
 go:=λi ρ' M H' s g _ hi=>by
  have l:i<vs.length:=by rw[<-r.length];exact hi
  exact⟨vs,vs[i],g.tup a vs h,z9 l⟩
 yld:=λi ρ' M H' x e s g _ hi y=>by obtain⟨rfl,y⟩:=y;obtain⟨d,b,c⟩:=(r.grow g).getV<|y vs<|g.tup a vs h;exact⟨d,ρ',b,s,.refl,c⟩
 stop:=λρ' M H' s g _=>⟨vs,g.tup a vs h,by rw[<-r.length];exact w5 _⟩
theorem Lo.lst{K:v6}{ρ:List d5}{H:Hp}{n:Nat}{a:d5}{ds:List D}(e:ρ[n]?=a7 a):Lo K ⟨ds,λM=>am M n ds⟩ ρ H (Rz K a) where
 go:=λi ρ' M H' s g ok hi=>by
  obtain⟨vs,h,r⟩:=am.seq s ok<|ax g.pre e;have l:i<vs.length:=by rw[<-r.length];exact hi
  exact⟨vs,vs[i],h,z9 l⟩
 yld:=λi ρ' M H' x f s g ok hi y=>by obtain⟨rfl,y⟩:=y;obtain⟨vs,h,r⟩:=am.seq s ok<|ax g.pre e;obtain⟨d,b,c⟩:=r.getV<|y vs h;exact⟨d,ρ',b,s,.refl,c⟩
 stop:=λρ' M H' s g ok=>by obtain⟨vs,h,r⟩:=am.seq s ok<|ax g.pre e;exact⟨vs,h,by rw[<-r.length];exact w5 _⟩
theorem Lo.plain{K:v6}{ρ:List d5}{H:Hp}{ds:List D}{J:It}(R:∀i H,i<ds.length->J.go i H)(Q:∀i H x H',i<ds.length->J.yld i H x H'->H'=H/\∃d,ds[i]?=a7 d/\cV d=a7 x)(hs:∀H,J.stop ds.length H):Lo K ⟨ds,λ_=>True⟩ ρ H J where
 go:=λi ρ' M H' s g _ hi=>R i H' hi
 yld:=λi ρ' M H' x a s g _ hi y=>by obtain⟨rfl,d,h,c⟩:=Q i _ x a hi y;exact⟨d,ρ',h,s,.refl,Au c⟩
 stop:=λρ' M H' s g _=>hs H'
section
variable{X:Cx}{tg:g7}
def bZ(te:x9):LJ:=λS M R=>te S M λd a=>match d with
 |.tup ds=>ds.length<=sizeLine->R ⟨ds,λ_=>True⟩ a
 |.str x=>R ⟨yw x,λ_=>True⟩ a
 |.ref n=>∃xs,am a n xs/\(xs.length<=sizeLine->R ⟨xs,λM=>am M n xs⟩ a)
 |_=>False
theorem Kq(hl:DE X l tl):DI X tg l (bZ tl):=by
 intro y s σ H R I h;obtain⟨S,M,ρ,Q,sm,sr,q,k⟩:=h;refine x6 (hl y s σ H _ I ⟨S,M,ρ,_,sm,sr,q,λv H' w=>w⟩) ?_;rintro u f ⟨v,H1,g,U,d,F,D,j,g1,r1,C⟩;cases r1 with
 |non=>exact C.elim
 |bl b=>exact C.elim
 |int i=>exact C.elim
 |ty n=>exact C.elim
 |@tup a vs ds K r =>
  cases U;obtain⟨its,rr,p,T⟩:=g.tuple K;refine wpAny_pyIter_tuple (show f.heap.IsTuple a its.toArray from p) ?_;refine⟨f.heap.objs.size,[f.heap.objs.size],_,_,H1,rfl,g.kept (t':=f.toks) λb o e=>z6 _ e,wH a _,⟨_,C5 _ rfl,rfl,rfl⟩,λb J=>?_,k _ H1 ⟨⟨ds,λ_=>True⟩,F,D,j,g1,Lo.tup K r λys hy=>g.tuple_inj hy K,?_⟩⟩;have e:b=f.heap.objs.size:=by simpa using J
  subst e;exact g.fpOk (w5 _)<|g.hok.fresh<|w5 _;exact(show ds.length<=sizeLine->Q ⟨ds,λ_=>True⟩ F from C)<|by rw[r.length];exact T
 |@ref n a Y =>
  cases U;obtain⟨xs,hL,q2⟩:=(show ∃xs,am F n xs/\(xs.length<=sizeLine->Q ⟨xs,λM=>am M n xs⟩ F)from C)
  obtain⟨vs,K,r⟩:=am.seq j hL Y;obtain⟨its,rr,p,T⟩:=g.list K;refine Qk p.isList ?_;refine⟨f.heap.objs.size,[f.heap.objs.size],_,_,H1,rfl,g.kept (t':=f.toks) λb o e=>z6 _ e,xK a _,⟨_,C5 _ rfl,rfl,rfl⟩,λb J=>?_,k _ H1 ⟨⟨xs,λM=>am M n xs⟩,F,D,j,g1,Lo.lst Y,q2<|by rw[r.length];exact T⟩⟩;have e:b=f.heap.objs.size:=by simpa using J
  subst e;exact g.fpOk (w5 _)<|g.hok.fresh<|w5 _
 |str x =>
  obtain⟨t,rfl⟩:=U;have G:∀(B:String) (L:d6),(L.cls=.type B/\L.data=.fields #[.str x t,.int 0 0]) -> (∀N:f6,N.handled=a8->Walks X.prog X.w N f.heap.objs.size [f.heap.objs.size] [f.heap.objs.size] x.cps.size (SignAt x) (λi h=>h.IsStrIter f.heap.objs.size B x t i)) -> (∀(A:f6) (i:Nat) (s:f7) (Q:b7->f7->Prop) (E:b7->f7->Prop),s.heap.IsStrIter f.heap.objs.size B x t i->Q (.ref f.heap.objs.size) s->ge (g9 X.prog X.w) A (j3<|.ref f.heap.objs.size) Q E s) -> ["enumerate","zip","dict_itemiterator","dict_reverseitemiterator","odict_iterator","itertools.zip_longest","itertools.pairwise"].contains B=bt->(f.heap.push L).IsStrIter f.heap.objs.size B x t 0 -> PM X y σ tg R (.ref f.heap.objs.size) { f with heap:=f.heap.push L }:=λB L ab W z P m=>by
   refine⟨f.heap.objs.size,[f.heap.objs.size],_,_,H1,rfl,g.kept (t':=f.toks) λb o e=>z6 _ e,wG (PX:=λi v=>∃c,x.cps[i]?=a7 c/\v=.str ⟨#[c]⟩) _ _ _ _ W (λi v ⟨c,u,Z,e2⟩=>⟨.str ⟨#[c]⟩,⟨u,e2⟩,c,Z,rfl⟩) (λi h m=>?_) (λi h h' m k=>?_) z,m,λb J=>?_,k _ H1 ⟨⟨yw x,λ_=>True⟩,F,D,j,g1,Lo.plain ?_ ?_ ?_,C⟩⟩;obtain⟨o,e,c,d⟩:=m;exact⟨o,B,_,e,c,d,P⟩;obtain⟨o,e,r⟩:=m;exact⟨o,k o e,r⟩;have e:b=f.heap.objs.size:=by simpa using J
   subst e;exact g.fpOk (w5 _)<|g.hok.fresh<|w5 _;intro i _ hi;simpa [yw]using hi;rintro i H x' H' _ ⟨rfl,c,e,rfl⟩;exact⟨rfl,.str ⟨#[c]⟩,by simp[yw,e],rfl⟩;intro H;simp[yw]
  cases V:x.cps.all (· < 128);exact wpAny_pyIter_wide V<|G _ _ ⟨rfl,rfl⟩ (λN O=>Walks.strWide O _ x t) (λ_ _ _ _ _ m h=>wpAny_pyIter_striter_wide m h) (by decide) ⟨_,C5 _ rfl,rfl,rfl⟩;exact wpAny_pyIter_ascii V<|G _ _ ⟨rfl,rfl⟩ (λN O=>Walks.strAscii O _ x t) (λ_ _ _ _ _ m h=>wpAny_pyIter_striter_ascii m h) (by decide) ⟨_,C5 _ rfl,rfl,rfl⟩
noncomputable def fe(lo:Int)(n:Nat):List D:=(D3 n).map λi=>.int<|lo+((i:Nat):Int)
theorem Lo.rng{K:v6}{ρ:List d5}{H:Hp}(lo:Int)(n:Nat):Lo K ⟨fe lo n,λ_=>True⟩ ρ H (PQ lo n):=by
 refine Lo.plain (λi _ hi=>?_) (λi H x H' hi y=>?_) λH=>?_;show i<n;simpa [fe]using hi;obtain⟨e,rfl⟩:=y;have h:i<n:=by simpa [fe]using hi
 exact⟨e,.int<|lo+i,by simp[fe,h],rfl⟩;show n<=(fe lo n).length;simp[fe]
def bz(t:E8):LJ:=λS M R=>t S M λds a=>match ds with
 | [.int j]=>(-(2 ^ 62)<=j/\j<2 ^ 62)/\R ⟨fe 0 j.toNat,λ_=>True⟩ a
 |_=>False
theorem PI.imp(h:PI X tg iter t')(i:∀σ H R,t σ H R->t' σ H R):PI X tg iter t:=λp s σ H R I q=>h p s σ H R I<|i σ H R q
theorem Ac(m:X.mg "range" = a8)(f:DA X [a] ta)(g:Gl X "range":=by rfl)(hs:i5 [a] X.env=[(bt,eval a X.env)]:=by rfl):DI X tg (.Call (.Name "range" p) [a] [] pos) (bz ta):=by
 refine PI.imp (yF g m f hs) ?_;rintro σ H R ⟨S,M,ρ,Q,s,l,q,k⟩;refine⟨S,M,ρ,_,s,l,q,?_⟩;rintro vs H1 ⟨ds,e,d,i,g1,c,b⟩
 try dsimp only at b
 split at b;rename_i j;obtain⟨⟨h1,h2⟩,h⟩:=b
 first|have z:=Reps.inv_cons c|have z:=aw.inv_cons c
 clear c;obtain⟨_,_,rfl,r,t⟩:=z;cases r;cases t;exact⟨j,rfl,h1,h2,k _ H1 ⟨_,e,d,i,g1,Lo.rng 0 j.toNat,h⟩⟩;exact b.elim
end
section
mutual
inductive E4(k:Nat):D->Prop
 |non:E4 k .non
 |bl (b:Bool):E4 k (.bl b)
 |int (i:Int):E4 k (.int i)
 |str (x:c7):E4 k (.str x)
 |ty (n:String):E4 k (.ty n)
 |tup {ds:List D} (h:Bels k ds):E4 k (.tup ds)
 |ref {n:Nat} (h:n<k):E4 k (.ref n)
inductive Bels(k:Nat):List D->Prop
 |nil:Bels k []
 |cons {d:D}{ds:List D} (h:E4 k d) (t:Bels k ds):Bels k (d::ds)
end
noncomputable def MO.items:MO->List D
 |.lst xs=>xs
 |.fz xs=>xs
 |.kl xs=>xs
 |.dct kvs=>kvs.map (·.2)
 |.dkt kvs=>kvs.map (·.2)
 |.dkq _ kvs=>kvs.map (·.2)
 |.fdc _ kvs=>kvs.map (·.2)
 |.dkm kvs=>kvs.map (·.2)
 |.tb _ _=>[]
 |.exc _=>[]
theorem v7.bel{K:v6}{ρ:List d5}{H:Hp}{d:D}{v:V}(h:v7 K ρ H d v):E4 ρ.length d:=v7.rec (motive_1:=λd v _=>E4 ρ.length d) (motive_2:=λds vs _=>Bels ρ.length ds) .non .bl .int .str .ty (λ_ _ r=>.tup r) (λh=>.ref (A5.mp h).1) .nil (λ_ _ h t=>.cons h t) h
theorem Reps.bel{K:v6}{ρ:List d5}{H:Hp}{ds:List D}{vs:List V}(h:Reps K ρ H ds vs):Bels ρ.length ds:=Reps.rec (motive_1:=λd v _=>E4 ρ.length d) (motive_2:=λds vs _=>Bels ρ.length ds) .non .bl .int .str .ty (λ_ _ r=>.tup r) (λh=>.ref (A5.mp h).1) .nil (λ_ _ h t=>.cons h t) h
theorem E4.inv(b:E4 k d):(∀ds,d=.tup ds->Bels k ds)/\∀n,d=.ref n->n<k:=by
 cases b with
 |tup b=>exact⟨(λ_ e=>by injection e with e;exact e ▸ b),(λ_ e=>by cases e)⟩
 |ref b=>exact⟨(λ_ e=>by cases e),(λ_ e=>by injection e with e;exact e ▸ b)⟩
 |_=>exact⟨(λ_ e=>by cases e),(λ_ e=>by cases e)⟩
theorem Bels.inv{k:Nat}{d:D}{ds:List D}(b:Bels k (d::ds)):E4 k d/\Bels k ds:=by
 cases b with
 |cons b c=>exact⟨b,c⟩
theorem v7.cut{K:v6}{ρ:List d5}{H:Hp}{k:Nat}{d:D}{v:V}(h:v7 K ρ H d v):E4 k d->v7 K (ρ.take k) H d v:=v7.rec (motive_1:=λd v _=>E4 k d->v7 K (ρ.take k) H d v) (motive_2:=λds vs _=>Bels k ds->Reps K (ρ.take k) H ds vs) (λ_=>.non) (λb _=>.bl b) (λb _=>.int b) (λb _=>.str b) (λb _=>.ty b) (λh _ r b=>.tup h<|r<|b.inv.1 _ rfl)
  (λh b=>.ref<|by rw[NT<|b.inv.2 _ rfl];exact h) (λ_=>.nil) (λ_ _ h t b=>.cons (h b.inv.1)<|t b.inv.2) h
theorem Reps.cut{K:v6}{ρ:List d5}{H:Hp}{k:Nat}{ds:List D}{vs:List V}(h:Reps K ρ H ds vs):Bels k ds->Reps K (ρ.take k) H ds vs:=Reps.rec (motive_1:=λd v _=>E4 k d->v7 K (ρ.take k) H d v) (motive_2:=λds vs _=>Bels k ds->Reps K (ρ.take k) H ds vs) (λ_=>.non) (λb _=>.bl b) (λb _=>.int b) (λb _=>.str b) (λb _=>.ty b) (λh _ r b=>.tup h<|r<|b.inv.1 _ rfl)
  (λh b=>.ref<|by rw[NT<|b.inv.2 _ rfl];exact h) (λ_=>.nil) (λ_ _ h t b=>.cons (h b.inv.1)<|t b.inv.2) h
theorem E4.mono{j k:Nat}(h:j<=k){d:D}(b:E4 j d):E4 k d:=E4.rec (motive_1:=λd _=>E4 k d) (motive_2:=λds _=>Bels k ds) .non .bl .int .str .ty (λ_ b=>.tup b) (λb=>.ref<|G9 b h) .nil (λ_ _ b c=>.cons b c) b
theorem Bels.mono{j k:Nat}(h:j<=k){ds:List D}(b:Bels j ds):Bels k ds:=Bels.rec (motive_1:=λd _=>E4 k d) (motive_2:=λds _=>Bels k ds) .non .bl .int .str .ty (λ_ b=>.tup b) (λb=>.ref<|G9 b h) .nil (λ_ _ b c=>.cons b c) b
theorem Bels.of:∀{xs:List D},(∀d∈xs,E4 k d)->Bels k xs
 | [],_=>.nil
 |d::ds,h=>.cons (h d Fn)<|Bels.of λe he=>h e<|D0 _ he
section
variable{K:v6}{ρ ρ':List d5}{H H':Hp}{M M':v5}
theorem vT:∀(n:Nat) (d:D),cw n d=a9->E4 k d:=by
 intro n;induction n with
 |zero =>
  intro d h;cases d with
  |str x=>exact .str x
  |int x=>exact .int x
  |_=>cases h
 |succ n i =>
  intro d h;cases d with
  |str x=>exact .str x
  |int x=>exact .int x
  |tup ds=>exact .tup<|Bels.of λx a=>i x<|E7.mp (show ds.all (cw n)=a9 from h) x a
  |_=>cases h
theorem zt(r:Paired (pE K ρ H) kvs xs):Bels ρ.length (kvs.map (·.2)):=by
 induction r with
 |nil=>exact .nil
 |cons q _ i=>obtain⟨_,_,_,v,G,_⟩:=q;exact .cons G.bel i
theorem zq(r:Paired (pE K ρ H) kvs xs)(b:Bels k (kvs.map (·.2))):Paired (pE K (ρ.take k) H) kvs xs:=by
 induction r with
 |nil=>exact .nil
 |cons q _ i =>
  obtain⟨d,g,j,v,G,e⟩:=q;rw[C9]at b;cases b with
  |cons a c=>exact .cons ⟨d,g,j.cut<|vT _ _ g,v,G.cut a,e⟩<|i c
theorem Ci:∀(d:D),keyM d=a9->E4 k d
 |.non,_=>.non
 |.tup ks,h=>vT 8 _ h
 |.bl _,h=>nomatch h
 |.int _,h=>nomatch h
 |.str _,h=>nomatch h
 |.ty _,h=>nomatch h
 |.ref _,h=>nomatch h
theorem FF(r:Paired (PP K ρ H) kvs xs):Bels ρ.length (kvs.map (·.2)):=by
 induction r with
 |nil=>exact .nil
 |cons q _ i=>obtain⟨_,_,_,v,G,_⟩:=q;exact .cons G.bel i
theorem FE(r:Paired (PP K ρ H) kvs xs)(b:Bels k (kvs.map (·.2))):Paired (PP K (ρ.take k) H) kvs xs:=by
 induction r with
 |nil=>exact .nil
 |cons q _ i =>
  obtain⟨d,g,⟨u,j,l⟩,v,G,e⟩:=q;rw[C9]at b;cases b with
  |cons a c=>exact .cons ⟨d,g,⟨u,j.cut<|Ci _ g,l⟩,v,G.cut a,e⟩<|i c
theorem xD.bels(h:xD K ρ H a mo):Bels ρ.length mo.items:=by
 cases mo with
 |lst ds=>obtain⟨vs,_,r⟩:=h;exact r.bel
 |fz ds=>obtain⟨o,vs,_,r⟩:=h;exact r.bel
 |kl ds=>obtain⟨vs,_,r⟩:=h;exact r.bel
 |dct kvs=>obtain⟨vs,_,r⟩:=h;exact r.bel
 |dkt kvs=>obtain⟨_,_,_,xs,_,r⟩:=h;exact zt r
 |dkq _ kvs=>obtain⟨_,_,_,xs,_,r⟩:=h;exact zt r
 |fdc o kvs=>obtain⟨vs,_,r⟩:=h;exact r.bel
 |dkm kvs=>obtain⟨_,_,_,xs,_,r⟩:=h;exact FF r
 |tb x b=>exact .nil
 |exc x=>exact .nil
theorem xD.cut(h:xD K ρ H a mo)(b:Bels k mo.items):xD K (ρ.take k) H a mo:=by
 cases mo with
 |lst ds=>obtain⟨vs,e,r⟩:=h;exact⟨vs,e,r.cut b⟩
 |fz ds=>obtain⟨o,vs,e,r⟩:=h;exact⟨o,vs,e,r.cut b⟩
 |kl ds=>obtain⟨vs,e,r⟩:=h;exact⟨vs,e,r.cut b⟩
 |dct kvs=>obtain⟨vs,e,r⟩:=h;exact⟨vs,e,r.cut b⟩
 |dkt kvs=>obtain⟨h1,h2,c,xs,e,r⟩:=h;exact⟨h1,h2,c,xs,e,zq r b⟩
 |dkq _ kvs=>obtain⟨h1,h2,c,xs,e,r⟩:=h;exact⟨h1,h2,c,xs,e,zq r b⟩
 |fdc o kvs=>obtain⟨vs,e,r⟩:=h;exact⟨vs,e,r.cut b⟩
 |dkm kvs=>obtain⟨h1,h2,c,xs,e,r⟩:=h;exact⟨h1,h2,c,xs,e,FE r b⟩
 |tb x b=>exact h
 |exc x=>exact h
theorem w9.bels(S:w9 K ρ M H){n:Nat}{mo:MO}(e:M[n]?=a7 mo):Bels M.length mo.items:=by obtain⟨a,_,h⟩:=S.get e;rw[<-S.len];exact h.bels
theorem w9.cut(S:w9 K ρ M H)(k:Nat)(d:∀(n:Nat) (mo:MO),n<k->M[n]?=a7 mo->Bels k mo.items):w9 K (ρ.take k) (M.take k) H:=by
 have lt:∀{n:Nat}{a:d5},(ρ.take k)[n]?=a7 a->n<k/\ρ[n]?=a7 a:=λ{n a} e=>by
  have h1:=(A5.mp e).1;rw[Lc]at h1;have h2:n<k:=by lia
  rw[NT h2]at e;exact⟨h2,e⟩
 refine⟨λn m a h t l=>?_,by rw[Lc,Lc,S.len],λn a mo t l=>?_⟩;obtain⟨b,f⟩:=lt t;obtain⟨c,N⟩:=lt l;rw[NT b,NT c];exact S.nd n m a h f N;obtain⟨b,f⟩:=lt t;rw[NT b]at l;exact(S.obj n a mo f l).cut<|d n mo b l
theorem SRep.cut(r:SRep K ρ H S σ)(g:S'.length=S.length)(h:∀(i:Nat) d,S'[i]?=a7 (a7 d)->S[i]?=a7 (a7 d)/\E4 k d):SRep K (ρ.take k) H S' σ:=⟨g.trans r.len,λi d e=>let ⟨e',b⟩:=h i d e;let ⟨v,hv,rv⟩:=r.get i d e';⟨v,hv,rv.cut b⟩⟩
theorem Grow.cut(g:Grow K ρ H ρ' H')(h:ρ.length<=k):Grow K ρ H (ρ'.take k) H':=by refine⟨?_,g.tup⟩;obtain⟨t,rfl⟩:=g.pre;rw[List.take_append];rw[Pq h];exact Lu _ _
end
inductive FgtS(k:Nat):SD->SD->Prop
 |nil:FgtS k [] []
 |keep {d:D}{S S':SD} (h:E4 k d) (t:FgtS k S S'):FgtS k (a7 d::S) (a7 d::S')
 |drop {o:Option D}{S S':SD} (t:FgtS k S S'):FgtS k (o::S) (a8::S')
theorem FgtS.len(h:FgtS k S S'):S'.length=S.length:=by
 induction h with
 |nil=>rfl
 |keep _ _ i=>rw[E5,E5,i]
 |drop _ i=>rw[E5,E5,i]
theorem FgtS.get(h:FgtS k S S'):∀(i:Nat) d,S'[i]?=a7 (a7 d)->S[i]?=a7 (a7 d)/\E4 k d:=by
 induction h with
 |nil=>intro i d e;simp at e
 |keep b _ a =>
  intro i d e;cases i with
  |zero=>simp at e;subst e;exact⟨rfl,b⟩
  |succ i=>exact a i d<|by simpa using e
 |drop _ a =>
  intro i d e;cases i with
  |zero=>simp at e
  |succ i=>exact a i d<|by simpa using e
def A7(b:v5)(P:SD->v5->Prop)(S:SD)(M:v5):Prop:=P S M\/(∃k a,b.length<=k/\FgtS k S a/\(∀(n:Nat) mo,n<k->M[n]?=a7 mo->Bels k mo.items)/\P a (M.take k))\/∃a,FgtS b.length S a/\b <+: M/\P a b
theorem Bj{α:Type}{l l':List α}(h:l <+: l'):l'.take l.length=l:=by obtain⟨t,rfl⟩:=h;rw[List.take_append_of_le_length<|w5 _,LO]
theorem SQ.fgt{K:v6}{ρ:List d5}{H:Hp}{b:v5}{P:SD->v5->Prop}{c:St}{H':Hp}(s0:w9 K ρ b H)(h:SQ K ρ H (A7 b P) c H'):SQ K ρ H P c H':=by
 have d:ρ.length<=b.length:=by rw[s0.len];exact w5 _
 obtain⟨S,M',ρ',s',g,a,j⟩:=h;rcases j with j|⟨k,S2,h1,h2,f,q⟩|⟨S2,h2,hp,q⟩
 exact⟨S,M',ρ',s',g,a,j⟩;exact⟨S2,M'.take k,ρ'.take k,s'.cut k f,g.cut<|H9 d h1,a.cut h2.len h2.get,q⟩;have s:=s'.cut b.length λn m i e=>by obtain⟨t,rfl⟩:=hp;rw[Le i]at e;exact s0.bels e
 rw[Bj hp]at s;exact⟨S2,b,ρ'.take b.length,s,g.cut d,a.cut h2.len h2.get,q⟩
def sv(ok:v5->Prop)(g:K7)(tb:u9)(E:DEnds)(k0:v5):List D->SD->v5->Prop
 | [],S,M=>ok M/\E.nx S M
 |x::xs,S,M=>ok M/\g x S M λS2 M2=>tb ⟨A7 k0<|sv ok g tb E k0 xs,E.rt,E.nx,A7 k0<|sv ok g tb E k0 xs⟩ S2 M2
def jk(i:LJ)(g:K7)(b:u9):u9:=λE S M=>i S M λsrc a=>sv src.ok g b E a src.items S a
theorem sf{α:Type}{l:List α}{i:Nat}{x:α}(h:l[i]?=a7 x):l.drop i=x::l.drop (i+1):=by obtain⟨hi,e⟩:=A5.mp h;rw[Pu hi,e]
theorem BU{K:v6}{N:LJ}{g:K7}{r:u9}(E:Ends)(σ:St)(H:Hp)(h:lowS K (jk N g r) E σ H):tFor (lowI K N) (lowG K g) (lowS K r) E σ H:=by
 obtain⟨S,M,ρ,F,s,R,q,k⟩:=h;refine⟨S,M,ρ,_,s,R,q,?_⟩;rintro J H1 ⟨src,l,c,Q,g1,it,q1⟩;have B:=k.trans g1;refine⟨λi m τ f=>∃S2 M2 a,w9 K a M2 f/\Grow K c H1 a f/\SRep K a f S2 τ/\i<=src.items.length/\m=src.items.length-i/\sv src.ok g r F l (src.items.drop i) S2 M2,⟨_,S,l,c,Q,.refl,R.grow g1,C4 _,rfl,q1⟩,?_⟩;rintro i m τ f ⟨S2,M2,a,A,o,p,hi,rfl,w⟩;by_cases t:i<src.items.length;have O:src.items[i]?=a7 src.items[i]:=z9 t;rw[sf O]at w;obtain⟨ok,C⟩:=(show src.ok M2/\g src.items[i] S2 M2 _ from w)
 refine .inr ⟨it.go i a M2 f A o ok t,_,λab H' z=>z,λx T y=>?_⟩;obtain⟨d,I,hd,s3,g3,r3⟩:=it.yld i a M2 f x T A o ok t y;have ed:d=src.items[i]:=C7<|hd.symm.trans O;subst ed;refine⟨_,S2,M2,I,_,s3,p.grow g3,r3,C,?_⟩;rintro ai U ⟨Y,W,u,s4,g4,D,q4⟩;have j:=(o.trans g3).trans g4;refine⟨Y,W,u,_,s4,D,q4,?_⟩;have n:∀b V,SQ K u U (A7 l<|sv src.ok g r F l<|src.items.drop<|i+1) b V -> ∃P,P < src.items.length-i/\∃S2 M2 a,w9 K a M2 V/\Grow K c H1 a V/\SRep K a V S2 b/\i+1<=src.items.length/\P=src.items.length-(i+1)/\sv src.ok g r F l (src.items.drop<|i+1) S2 M2:=λb V z=>by obtain⟨Z,X,L,s5,g5,G,q5⟩:=SQ.fgt (ρ:=c) (H:=H1) Q<|SQ.trans j z;exact⟨_,by lia,Z,X,L,s5,g5,G,t,rfl,q5⟩
 exact⟨n,λv V z=>B.rt v V<|VQ.trans j z,λb V z=>B.nx b V<|SQ.trans j z,n⟩;have e:i=src.items.length:=by lia
 subst e;rw[List.drop_of_length_le<|w5 _]at w;obtain⟨ok,C⟩:=(show src.ok M2/\F.nx S2 M2 from w)
 exact .inl ⟨it.stop a M2 f A o ok,B.nx τ f ⟨S2,M2,a,A,o,p,C⟩⟩
section
variable{X:Cx}
theorem Km(hi:DI X tg iter di)(R:DG X tg g)(d:Mu X body tb)(hp:PassesOwn (g9 X.prog X.w) X.A X.env X.xe:=by exact PassesOwn.never)(f:X.calm=a9:=by rfl)(hs:∀x,j5 iter X.env x=pure x:=by intro _;rfl):DS X (.For tg iter body [] pos) (jk di g tb):=PS.imp (Ic hp f hi R d hs) BU
noncomputable def Ku(t:Nat)(s:List Nat)(S:SD):SD:=Nl t a8++s.map λj=>(S[j]?).join
def mh(ok:v5->Prop)(g:K7)(tt:J1)(te:x9)(Q:DK):List D->List D->SD->v5->Prop
 | [],acc,S,M=>ok M/\Q (.ref M.length) (M++[.lst acc])
 |x::xs,acc,S,M=>ok M/\g x S M λS2 M2=>tt S2 M2 λb M3=>if b=a9 then te S2 M3 λy M4=>acc.length<sizeLine/\mh ok g tt te Q xs (acc++[y]) S2 M4 else mh ok g tt te Q xs acc S2 M3
def Lg(t:Nat)(s:List Nat)(i:LJ)(g:K7)(tt:J1)(te:x9):x9:=λS M Q=>i S M λsrc a=>mh src.ok g tt te Q src.items [] (Ku t s S) a
theorem SRep.bst{K:v6}{ρ:List d5}{H:Hp}{S:SD}{σ:St}(r:SRep K ρ H S σ)(t:Nat)(s:List Nat):SRep K ρ H (Ku t s S) (L2.bst t s σ):=by
 refine⟨by simp[Ku,Ax],λi d e=>?_⟩;unfold Ku at e;unfold L2.bst;by_cases hi:i<t;rw[Le (by simpa using hi),QE]at e;simp[hi]at e;rw[LU (by simpa using MG.mp hi),Qy,D8]at e;rw[LU (by simpa using MG.mp hi),Qy,D8];cases q:s[i-t]? with
 |none=>rw[q]at e;cases e
 |some j =>
  rw[q]at e;have a:(S[j]?).join=a7 d:=by simpa using e
  cases g:S[j]? with
  |none=>rw[g]at a;cases a
  |some o=>rw[g]at a;have l:o=a7 d:=a;subst l;obtain⟨v,c,b⟩:=r.get j d g;exact⟨v,by simp[c],b⟩
theorem zb{K:v6}{B:Nat}{A:List Nat}{O:LJ}{g:K7}{tt:J1}{te:x9}(σ:St)(H:Hp)(R:VK)(h:lowE K (Lg B A O g tt te) σ H R):QR B A (lowI K O) (lowG K g) (lowT K tt) (lowE K te) σ H R:=by
 obtain⟨S,M,ρ,Q,s,U,q,k⟩:=h;refine⟨S,M,ρ,_,s,U,q,?_⟩;rintro J H1 ⟨src,W,n,s1,g1,it,q1⟩;refine⟨λi m vs τ c=>∃S2 M2 a acc,w9 K a M2 c/\Grow K n H1 a c/\SRep K a c S2 τ/\Reps K a c acc vs/\i<=src.items.length/\m=src.items.length-i/\mh src.ok g tt te Q (src.items.drop i) acc S2 M2,⟨_,_,W,n,[],s1,.refl,(U.grow g1).bst B A,.nil,C4 _,rfl,q1⟩,?_⟩;rintro i m vs τ c ⟨S2,M2,a,acc,u,l,F,r,hi,rfl,o⟩;by_cases t:i<src.items.length;have P:src.items[i]?=a7 src.items[i]:=z9 t;rw[sf P]at o;obtain⟨ok,C⟩:=(show src.ok M2/\g src.items[i] S2 M2 _ from o)
 refine .inr ⟨it.go i a M2 c u l ok t,λx V y=>?_⟩;obtain⟨d,G,hd,s3,g3,r3⟩:=it.yld i a M2 c x V u l ok t y;have ed:d=src.items[i]:=C7<|hd.symm.trans P;subst ed;refine⟨_,S2,M2,G,_,s3,F.grow g3,r3,C,?_⟩;rintro ab H4 ⟨Y,Z,I,s4,w,D,q4⟩;refine⟨Y,Z,I,_,s4,D,q4,?_⟩;rintro b H5 ⟨X,L,s5,f,T⟩;have j:=((l.trans g3).trans w).trans f;cases b with
 |false=>exact br ⟨_,by lia,Y,X,L,acc,s5,j,D.grow f,r.grow<|(g3.trans w).trans f,t,rfl,(show mh src.ok g tt te Q (src.items.drop<|i+1) acc Y X from T)⟩
 |true=>refine bC ⟨Y,X,L,_,s5,D.grow f,(show te Y X _ from T),?_⟩;rintro v H6 ⟨y',M6,N,s6,z,r6,hl,q6⟩;have E:=r.grow<|((g3.trans w).trans f).trans z;exact⟨by rw[<-r.length];exact hl,_,by lia,Y,M6,N,acc++[y'],s6,j.trans z,D.grow<|f.trans z,E.append<|.cons r6 .nil,t,rfl,q6⟩
 have e:i=src.items.length:=by lia
 subst e;rw[List.drop_of_length_le<|w5 _]at o;obtain⟨ok,C⟩:=(show src.ok M2/\Q (.ref M2.length) (M2++[.lst acc])from o)
 exact .inl ⟨it.stop a M2 c u l ok,λp hp=>k _ _<|VQ.laidL u (g1.trans l) r hp C⟩
theorem d_lc(B:BlkSc X N' nt js scope)(hi:DI X tg iter di)(R:∀cl s0 H0 ex,DG (C6 X N' scope cl s0 H0 ex) tg g) (D:∀cl s0 H0 ex,ME (C6 X N' scope cl s0 H0 ex) ifs<|lowT X.K tt) (i:∀cl s0 H0 ex,DE (C6 X N' scope cl s0 H0 ex) elt te) (f:X.calm=a9:=by rfl)(hs:∀x,j5 iter X.env x=pure x:=by intro _;rfl):DE X (.ListComp elt [⟨tg,iter,ifs,0⟩] scope pos) (Lg nt js di g tt te):=PE.imp (pe_lc (g:=lowG X.K g) (tt:=lowT X.K tt) (te:=lowE X.K te) B f hi (λcl s0 H0 ex=>R cl s0 H0 ex) D (λcl s0 H0 ex=>i cl s0 H0 ex) hs) zb
def pD:J1:=λ_ M Q=>Q a9 M
theorem Gq:ME X [] (lowT X.K pD):=λp s σ H R I ⟨S,M,ρ,Q,m,c,q,k⟩=>EI p s σ H R I<|k a9 H ⟨M,ρ,m,.refl,q⟩
theorem Gp(h:DT X c t):ME X [c] (lowT X.K t):=EH h
end
def N5(M a:v5):Prop:=a.length=M.length/\∀(i:Nat) (m:MO),a[i]?=a7 m->M[i]?=a7 m\/Bels M.length m.items
theorem N5.refl:N5 M M:=⟨rfl,λ_ _ h=>.inl h⟩
def aO(M:v5)(R:DK):DK:=λd M'=>R d M'\/(∃a,N5 M a/\E4 M.length d/\a <+: M'/\R d a)\/∃a n xs,N5 M a/\d=.ref n/\M.length<=n/\M'[n]?=a7 (.lst xs)/\a <+: M'/\Bels M.length xs/\R (.ref M.length) (a++[.lst xs])
theorem bB{α:Type}{l l':List α}(h:l <+: l'):l'.take l.length=l:=by obtain⟨t,rfl⟩:=h;rw[List.take_append_of_le_length<|w5 _,LO]
theorem VQ.endq{K:v6}{ρ:List d5}{M:v5}{H:Hp}{R:DK}{v:V}{H':Hp}(s:w9 K ρ M H)(h:VQ K ρ H (aO M R) v H'):VQ K ρ H R v H':=by
 obtain⟨d,M',ρ',s',w,r',W⟩:=h;have k:ρ'.take M.length=ρ:=by rw[<-s.len];exact bB w.pre
 rcases W with q|⟨g,c,b,f,q⟩|⟨g,n,xs,c,rfl,T,e,f,b,q⟩
 exact⟨d,M',ρ',s',w,r',q⟩;have i:=s'.cut M.length λn r u e=>by
  have D:g[n]?=a7 r:=by obtain⟨t,rfl⟩:=f;rw[Le<|by rw[c.1];exact u]at e;exact e
  exact(c.2 n r D).elim (λz=>s.bels z) id
 have J:M'.take M.length=g:=by rw[<-c.1];exact bB f
 rw[k,J]at i;have B:=r'.cut b;rw[k]at B;exact⟨d,g,ρ,i,⟨Ml,w.tup⟩,B,q⟩;have i:=s'.cut M.length λn r u e=>by
  have D:g[n]?=a7 r:=by obtain⟨t,rfl⟩:=f;rw[Le<|by rw[c.1];exact u]at e;exact e
  exact(c.2 n r D).elim (λz=>s.bels z) id
 have J:M'.take M.length=g:=by rw[<-c.1];exact bB f
 rw[k,J]at i;obtain⟨a,rfl,u⟩:=v7.inv_ref r';obtain⟨vs,Q,X⟩:=s'.obj n a _ u e;have B:=X.cut b;rw[k]at B;have O:Grow K ρ H' (ρ++[a]) H':=⟨Lu _ _,λ_ _ h=>h⟩
 have A:∀(m:Nat),ρ[m]?=a7 a->Lx g[m]?:=λm F=>by
  have S:m≠n:=λz=>by
   have:m<M.length:=by rw[<-s.len];exact(A5.mp F).1
   lia
  have q:=s'.nd m n a S (ax w.pre F) u;have G:m<M.length:=by rw[<-s.len];exact(A5.mp F).1
  rcases q with⟨ds,z⟩|⟨ds,z⟩
  refine⟨ds,?_⟩;have o:m<g.length:=by rw[c.1];exact G
  have:=ax f<|z9 o;rw[z]at this;rw[z9 o];exact this.symm;rw[e]at z;cases z
 refine⟨.ref M.length,g++[.lst xs],ρ++[a],⟨λy U C x E l=>?_,by rw[D5,D5,i.len];rfl,λy C r E l=>?_⟩,⟨Lu _ _,w.tup⟩,.ref (by have:=i.last (p:=a);rw[c.1]at this;exact this),q⟩;rcases aU E with j|⟨j,L⟩
 rcases aU l with N|⟨N,P⟩
 exact(i.nd y U C x j N).elim (λz=>.inl z.more) λz=>.inr z.more;subst P;exact .inl (A y j).more;rcases aU l with N|⟨N,P⟩
 subst L;exact .inr (A U N).more;exact t4 (j.trans N.symm) x;rcases aU E with j|⟨j,L⟩
 have I:y<g.length:=by rw[<-i.len];exact(A5.mp j).1
 rw[Le I]at l;exact(i.obj y C r j l).grow O<|.inl rfl;subst L j;rw[i.len,LU<|w5 _,MI]at l;simp at l;subst l;exact⟨vs,Q,B.grow O⟩
noncomputable def ci(N:List c7)(ds:List D):SD:=ds.map a7++Nl (N.length-ds.length) a8
theorem SRep.start{K:v6}{ρ:List d5}{H:Hp}{ds:List D}{vs:List V}(r:Reps K ρ H ds vs)(N:List c7):SRep K ρ H (ci N ds) (L2.start N vs):=by
 refine⟨by simp[ci,L2.start,r.length],λi d e=>?_⟩;unfold ci at e;unfold L2.start;by_cases hi:i<ds.length;rw[Le (by simpa using hi),D8]at e;rw[Le (by simpa [<-r.length]using hi),D8];have a:ds[i]?=a7 d:=by rw[z9 hi]at e ⊢;simpa using e
 obtain⟨v,c,b⟩:=r.get a;exact⟨v,by rw[c];rfl,b⟩;rw[LU (by simpa using MG.mp hi),QE]at e;split at e<;>cases e
theorem d_fn{P:c9}{w:c8}{K:v6}{mg:c7->Option b7}{base:d7}{x l:c7}{st:i6}{f:d5}{d:k7}{N ps:List c7}{k:Nat}(c:A2)(F:Me K x l st f d)(e:FnScope N ps (aq st))(B:∀ds M R,c ds M R->ds.length=ps.length)(y:∀(cdv:b7) (A:f6) (outer:List Env) (s:f7) (H:Hp) (E:XK),Room k (A.deeper<|b9 l (aq st) s.heap.objs.size f cdv) -> ∃t,Mu (ph K0 P w K mg base N l (aq st) f cdv A outer s H E).nox (bx st) t/\∀ds M R,c ds M R->t ⟨λ_ M'=>aO M R .non M',aO M R,λ_ _=>False,λ_ _=>False⟩ (ci N ds) M):FnOk P w K mg base K0 (k+1) f d ps (LG K c):=by refine F.ok e (λvs H Q E ⟨ds,M,ρ,R,s,r,q,_⟩=>by rw[<-r.length];exact B ds M R q) λcdv A outer s H vs Q E n h=>?_;obtain⟨ds,M,ρ,R,m,r,q,D⟩:=h;obtain⟨t,o,i⟩:=y cdv A outer s H E n;refine⟨lowS K t,o,ci N ds,M,ρ,_,m,SRep.start r N,i ds M R q,⟨λb H' ⟨S,M',ρ',s',g,a,j⟩=>?_,λv H' z=>D v H'<|VQ.endq m z,λb H' ⟨S,M',ρ',s',g,a,j⟩=>j.elim,λb H' ⟨S,M',ρ',s',g,a,j⟩=>j.elim⟩⟩;exact D .non H'<|VQ.endq m ⟨.non,M',ρ',s',g,.non,j⟩
end
section
variable{X:Cx}
theorem dfin(I:u6 X pins σ H s)(m:w9 X.K ρ M H)(k:∀v H',VQ X.K ρ H Q v H'->R v H')(c:cV d=a7 v)(r:aJ v u)(q:Q d M):EP X pins σ R u s:=⟨v,H,I,r,k v H<|VQ.now m (Au c) q⟩
theorem dD(I:u6 X pins σ H s)(m:w9 X.K ρ M H)(k:∀v H',VQ X.K ρ H Q v H'->R v H')(q:Q (.bl b) M):EP X pins σ R (.bool b) s:=⟨.bl b,H,I,rfl,k _ H<|VQ.now m (.bl b) q⟩
def qAdd:F6:=λx y M Q=>match x,y with
 |.int i,.int j=>Q (.int<|i+j) M
 |.str a,.str b=>a.length+b.length<=sizeLine/\Q (.str<|a++b) M
 |.ref n,.ref m=>∃xs ys,M[n]?=a7 (.lst xs)/\M[m]?=a7 (.lst ys)/\xs.length+ys.length<=sizeLine/\Q (.ref M.length) (M++[.lst<|xs++ys])
 |_,_=>False
theorem IM:G1 X (j6 .Add) qAdd:=by refine D7.imp (ID.or<|wR.or IC) ?_;rintro f i H R ⟨x,y,M,ρ,Q,m,r,l,q,k⟩;unfold qAdd at q;split at q;cases r;cases l;exact .inl ⟨_,_,rfl,rfl,k _ H<|VQ.now m (.int _) q⟩;cases r;cases l;exact .inr<|.inl ⟨_,_,rfl,rfl,q.1,k _ H<|VQ.now m (.str _) q.2⟩;obtain⟨xs,ys,t,e,g,q⟩:=q;obtain⟨_,rfl,h1⟩:=v7.inv_ref r;obtain⟨_,rfl,h2⟩:=v7.inv_ref l;obtain⟨vs,n,g1⟩:=m.obj _ _ _ h1 t;obtain⟨s,N,b⟩:=m.obj _ _ _ h2 e;exact .inr<|.inr ⟨_,_,vs,s,rfl,rfl,n,N,by rw[<-g1.length,<-b.length];exact g,λp hp=>k _ _<|VQ.laidL m .refl (g1.append b) hp q⟩;exact q.elim
def GW:F6:=λx y M Q=>match x,y with
 |.int i,.int j=>Q (.int<|i-j) M
 |_,_=>False
theorem IH:G1 X (j6 .Sub) GW:=by refine D7.imp Iw ?_;rintro f i H R ⟨x,y,M,ρ,Q,m,r,l,q,k⟩;unfold GW at q;split at q;cases r;cases l;exact⟨_,_,rfl,rfl,k _ H<|VQ.now m (.int _) q⟩;exact q.elim
def sM(i j:Int):Prop:=0<j/\j<340282366920938463463374607431768211456
theorem BF:D7 X (j6 .FloorDiv) (rI sM λi j=>.int<|i / j):=OE λi j _ _ _ _ _ f q=>by have h1:(0:Int)<j:=f.1;have h2:j<340282366920938463463374607431768211456:=f.2;have a:j.natAbs.log2<128:=(Nat.log2_lt<|by lia).mpr (by rw[show (2:Nat) ^ 128=340282366920938463463374607431768211456 by decide];lia);exact floordiv_int (by lia) (by rw[Int.fdiv_eq_ediv_of_nonneg i<|by lia];exact q)<|.inl<|PyProof.noPylong_of_log2<|by lia
def aM:F6:=λx y M Q=>match x,y with
 |.int i,.int j=>sM i j/\Q (.int<|i / j) M
 |_,_=>False
theorem Fj:G1 X (j6 .FloorDiv) aM:=by refine D7.imp BF ?_;rintro f i H R ⟨x,y,M,ρ,Q,m,r,l,q,k⟩;unfold aM at q;split at q;cases r;cases l;exact⟨_,_,rfl,rfl,q.1,k _ H<|VQ.now m (.int _) q.2⟩;exact q.elim
def bY:F6:=λx y M Q=>match x,y with
 |.int i,.int j=>0<j/\Q (.int<|i % j) M
 |_,_=>False
theorem IK:G1 X (j6 .Mod) bY:=by refine D7.imp IB ?_;rintro f i H R ⟨x,y,M,ρ,Q,m,r,l,q,k⟩;unfold bY at q;split at q;cases r;cases l;exact⟨_,_,rfl,rfl,q.1,k _ H<|VQ.now m (.int _) q.2⟩;exact q.elim
noncomputable def kU(a b:c7):Bool:=decide<|a.cps.toList<b.cps.toList
def Mq:F6:=λx y M Q=>match x,y with
 |.int i,.int j=>Q (.bl<|decide<|i<j) M
 |.str a,.str b=>Q (.bl<|kU a b) M
 |_,_=>False
def OB:F6:=λx y M Q=>match x,y with
 |.int i,.int j=>Q (.bl<|decide<|i<=j) M
 |.str a,.str b=>Q (.bl<|!kU b a) M
 |_,_=>False
def MW:F6:=λx y M Q=>match x,y with
 |.int i,.int j=>Q (.bl<|decide<|j<i) M
 |.str a,.str b=>Q (.bl<|kU b a) M
 |_,_=>False
def OC:F6:=λx y M Q=>match x,y with
 |.int i,.int j=>Q (.bl<|decide<|j<=i) M
 |.str a,.str b=>Q (.bl<|!kU a b) M
 |_,_=>False
theorem od_lt:G1 X (j7 .Lt) Mq:=by rintro p s σ H f a v u R I g i ⟨x,y,M,ρ,Q,m,r,l,q,k⟩;unfold Mq at q;split at q;cases r;cases l;exact op_lt p s σ H _ _ v u R I g i ⟨_,_,rfl,rfl,k _ H<|VQ.now m (.bl _) q⟩;cases r;cases l;obtain⟨t,rfl⟩:=g;obtain⟨t',rfl⟩:=i;exact PySem.P.lt_str<|dD I m k q;exact q.elim
theorem od_le:G1 X (j7 .LtE) OB:=by rintro p s σ H f a v u R I g i ⟨x,y,M,ρ,Q,m,r,l,q,k⟩;unfold OB at q;split at q;cases r;cases l;exact op_le p s σ H _ _ v u R I g i ⟨_,_,rfl,rfl,k _ H<|VQ.now m (.bl _) q⟩;cases r;cases l;obtain⟨t,rfl⟩:=g;obtain⟨t',rfl⟩:=i;exact PySem.P.le_str<|dD I m k q;exact q.elim
theorem od_gt:G1 X (j7 .Gt) MW:=by rintro p s σ H f a v u R I g i ⟨x,y,M,ρ,Q,m,r,l,q,k⟩;unfold MW at q;split at q;cases r;cases l;exact op_gt p s σ H _ _ v u R I g i ⟨_,_,rfl,rfl,k _ H<|VQ.now m (.bl _) q⟩;cases r;cases l;obtain⟨t,rfl⟩:=g;obtain⟨t',rfl⟩:=i;exact PySem.P.gt_str<|dD I m k q;exact q.elim
theorem od_ge:G1 X (j7 .GtE) OC:=by rintro p s σ H f a v u R I g i ⟨x,y,M,ρ,Q,m,r,l,q,k⟩;unfold OC at q;split at q;cases r;cases l;exact op_ge p s σ H _ _ v u R I g i ⟨_,_,rfl,rfl,k _ H<|VQ.now m (.bl _) q⟩;cases r;cases l;obtain⟨t,rfl⟩:=g;obtain⟨t',rfl⟩:=i;exact PySem.P.ge_str<|dD I m k q;exact q.elim
def MV:F6:=λx y M Q=>match x,y with
 |.bl a,.bl b=>Q (.bl<|a==b) M
 |.non,.non=>Q (.bl a9) M
 |_,.non=>Q (.bl bt) M
 |_,_=>False
theorem EB{K:v6}{ρ:List d5}{H:Hp}{x:D}{v:V}(r:v7 K ρ H x v)(h:x≠.non):v≠.non:=by cases r<;>first|exact t4 rfl h|(intro z;cases z)
theorem od_is:G1 X (j7 .Is) MV:=by
 rintro p s σ H f a v u R I g i ⟨x,y,M,ρ,Q,m,r,l,q,k⟩;unfold MV at q;split at q;cases r;cases l;cases g;cases i;exact is_bool<|dD I m k q;cases r;cases l;cases g;cases i;exact is_none_gen<|dfin (d:=.bl a9) I m k rfl rfl q;rename_i h1 h2;cases l;cases i;refine is_none_gen<|dfin (d:=.bl bt) I m k rfl ?_ q;have:=EB r λz=>by subst z;exact h2 rfl
 rw[g.none_iff,dF_ this];rfl;exact q.elim
noncomputable def E2(M:v5):D->String
 |.non=>"NoneType"
 |.bl _=>"bool"
 |.int _=>"int"
 |.str _=>"str"
 |.ty _=>"type"
 |.tup _=>"tuple"
 |.ref n=>match M[n]? with
  |some mo=>if mo.isL=a9 then "list" else "?"
  |none=>"?"
noncomputable def Cn(t T:String):Bool:=t==T||(t == "bool" && T == "int")
noncomputable def pL:List String:=["NoneType","bool","int","str","list","tuple"]
noncomputable def GU:List String:=["bool","int","str","list","tuple"]
theorem FM(K:v6)(D:t∈pL)(m:T∈GU):LM K (.type t) (.type T)=a7 (Cn t T):=by simp only[pL,GU,A4,LN,or_false]at D m;rcases D with rfl|rfl|rfl|rfl|rfl|rfl<;>rcases m with rfl|rfl|rfl|rfl|rfl<;>kernel_rfl
theorem Ec(I:u6 X pins σ H s)(k:w9 X.K ρ M H)(r:v7 X.K ρ H d v)(g:aJ v u)(j:E2 M d∈pL)(p:∀(Hx:d7->Prop),PySem.W.KitX X.K u (.type<|E2 M d) Hx->Hx s.heap->u≠.builtin "__main__.__loader__#opaque"->ge (g9 X.prog X.w) X.A (call (.builtin "isinstance") [u,c]) Q X.xe s):ge (g9 X.prog X.w) X.A (call (.builtin "isinstance") [u,c]) Q X.xe s:=by
 cases r with
 |non=>cases g;exact p _ PySem.W.kitx_none MY<|λz=>nomatch z
 |bl y=>cases g;exact p _ PySem.W.kitx_bool MY<|λz=>nomatch z
 |int i=>obtain⟨t,rfl⟩:=g;exact p _ PySem.W.kitx_int MY<|λz=>nomatch z
 |str i=>obtain⟨t,rfl⟩:=g;exact p _ PySem.W.kitx_str MY<|λz=>nomatch z
 |ty n=>exact t4 j<|by simp only[E2];decide
 |tup h rr=>cases g;obtain⟨its,_,⟨o,h1,h2,_⟩,_⟩:=I.tuple h;exact p _ PySem.W.kitx_tuple ⟨o,h1,h2⟩<|λz=>nomatch z
 |@ref n a e =>
  cases g;have B:n<M.length:=by rw[<-k.len];exact(A5.mp e).1
  have m:M[n]?=a7 M[n]:=z9 B;have f:(match M[n]? with|some mo=>if mo.isL=a9 then "list" else "?" |none=>"?")∈pL:=j;rw[m]at f;have l:M[n].isL=a9:=by
   cases q:M[n].isL with
   |true=>rfl
   |false=>simp only[q,A8,t7]at f;exact t4 f<|by decide
  have L:am M n M[n].items:=by
   cases q:M[n] with
   |lst xs=>exact .inl<|by rw[m,q];rfl
   |fz xs=>exact .inr<|.inl<|by rw[m,q];rfl
   |kl xs=>exact .inr<|.inr<|by rw[m,q];rfl
   |dct xs=>rw[q]at l;cases l
   |dkt xs=>rw[q]at l;cases l
   |dkq _ xs=>rw[q]at l;cases l
   |fdc o xs=>rw[q]at l;cases l
   |dkm xs=>rw[q]at l;cases l
   |tb x b=>rw[q]at l;cases l
   |exc x=>rw[q]at l;cases l
  obtain⟨vs,C,_⟩:=am.seq k L e;obtain⟨its,_,⟨o,E,h1,h2,_⟩,_⟩:=I.list C;have D:E2 M (.ref n) = "list":=by
   show (match M[n]? with|some mo=>if mo.isL=a9 then "list" else "?" |none=>"?") = "list"
   rw[m];exact p9 l
  rw[D]at p;exact p _ PySem.W.kitx_list ⟨o,h1,h2⟩<|λz=>nomatch z
def qQ:E1:=λds M Q=>match ds with
 | [d,.ty T]=>(E2 M d∈pL/\T∈GU)/\Q (.bl<|Cn (E2 M d) T) M
 | [d,.tup [.ty T,.ty T']]=>(E2 M d∈pL/\T∈GU/\T'∈GU)/\Q (.bl<|Cn (E2 M d) T||Cn (E2 M d) T') M
 |_=>False
theorem KH:iO X (.builtin "isinstance") qQ:=by
 rintro i s σ H vs us R I v ⟨ds,M,ρ,Q,m,r,q,k⟩;unfold qQ at q;split at q;rename_i d T;obtain⟨⟨h1,h2⟩,q⟩:=q
 first|have z:=Reps.inv_cons r|have z:=aw.inv_cons r
 clear r;obtain⟨_,_,rfl,f,r⟩:=z
 first|have z:=Reps.inv_cons r|have z:=aw.inv_cons r
 clear r;obtain⟨_,_,rfl,g,r⟩:=z;cases r;cases g;obtain⟨u,u',rfl,e,l⟩:=aw.two v;cases l;refine Ec I m f e h1 λHx Z p x=>?_;exact PySem.W.kia_one Z I.kIn p (FM X.K h1 h2) x λh=>dD (I.tok h) m k q;rename_i d T c;obtain⟨⟨h1,h2,y⟩,q⟩:=q
 first|have z:=Reps.inv_cons r|have z:=aw.inv_cons r
 clear r;obtain⟨_,_,rfl,f,r⟩:=z
 first|have z:=Reps.inv_cons r|have z:=aw.inv_cons r
 clear r;obtain⟨_,_,rfl,g,r⟩:=z;cases r;obtain⟨u,u',rfl,e,l⟩:=aw.two v;obtain⟨a,P,rfl,A,t⟩:=v7.inv_tup g;cases l;obtain⟨its,C,⟨o,g1,w,n,g3⟩,_⟩:=I.tuple A
 first|have z:=Reps.inv_cons t|have z:=aw.inv_cons t
 clear t;obtain⟨_,_,rfl,D,t⟩:=z
 first|have z:=Reps.inv_cons t|have z:=aw.inv_cons t
 clear t;obtain⟨_,_,rfl,E,t⟩:=z;cases t;cases D;cases E;obtain⟨L,O,rfl,j,N⟩:=aw.two C;cases j;cases N;obtain⟨F,J,B,G⟩:=o;cases w;cases g3;refine Ec I m f e h1 λHx Z p x=>?_;refine PySem.W.kia_tup Z I.kIn p g1 (b:=Cn (E2 M d) T||Cn (E2 M d) c) ?_ x λh=>dD (I.tok h) m k q;show (match LM X.K (.type<|E2 M d) (.type T)with|some a9=>a7 a9|some bt=>PySem.W.kitAny X.K (.type<|E2 M d) [.type c]|none=>a8)=_;rw[FM X.K h1 h2];cases Cn (E2 M d) T with
 |true=>rfl
 |false=>show (match LM X.K (.type<|E2 M d) (.type c)with|some a9=>a7 a9|some bt=>a7 bt|none=>a8)=_;rw[FM X.K h1 y];cases Cn (E2 M d) c<;>rfl
 exact q.elim
def jN:E1:=λds M Q=>match ds with
 | [.str x]=>x.length<=sizeLine/\Q (.int x.length) M
 | [.tup xs]=>Q (.int xs.length) M
 | [.ref n]=>∃xs,am M n xs/\Q (.int xs.length) M
 |_=>False
theorem KG:iO X (.builtin "len") jN:=by
 refine dH.imp (sE.or sD) ?_;rintro vs H R ⟨ds,M,ρ,Q,m,a,q,k⟩;unfold jN at q;split at q
 first|have z:=Reps.inv_cons a|have z:=aw.inv_cons a
 clear a;obtain⟨_,_,rfl,b,a⟩:=z;cases a;cases b;exact .inr ⟨_,rfl,q.1,k _ H<|VQ.now m (.int _) q.2⟩
 first|have z:=Reps.inv_cons a|have z:=aw.inv_cons a
 clear a;obtain⟨_,_,rfl,b,a⟩:=z;cases a;cases b with
 |tup h r=>exact .inl ⟨_,_,rfl,.inr h,k _ H<|VQ.now m (by rw[<-r.length];exact .int _) q⟩
 obtain⟨xs,L,q⟩:=q
 first|have z:=Reps.inv_cons a|have z:=aw.inv_cons a
 clear a;obtain⟨_,_,rfl,b,a⟩:=z;cases a;obtain⟨_,rfl,e⟩:=v7.inv_ref b;obtain⟨s,c,r⟩:=am.seq m L e;exact .inl ⟨_,_,rfl,.inl c,k _ H<|VQ.now m (by rw[<-r.length];exact .int _) q⟩;exact q.elim
noncomputable def bls(bs:List Bool):List D:=bs.map .bl
theorem Reps.bls{K:v6}{ρ:List d5}{H:Hp}:∀{bs:List Bool}{vs:List V},Reps K ρ H (L2.bls bs) vs->vs=bs.map V.bl
 | [],_,h=>by cases h;rfl
 |b::bs,_,h=>by
  cases h with
  |cons r t=>cases r;rw[Reps.bls t];rfl
theorem uI:∀{bs:List Bool}{us:List b7},aw (bs.map V.bl) us->us=bs.map MH
 | [],_,h=>by cases h;rfl
 |b::bs,_,h=>by
  cases h with
  |cons r t=>cases r;rw[uI t];rfl
theorem nR{pins:List (d5×d6)}{σ:St}{H:Hp}{s:f7}{a:d5}{bs:List Bool}{G:f7->Prop}(I:u6 X pins σ H s)(x:X.calm=a9)(z:J0 X.K H a (bs.map V.bl))(g:∀s',u6 X pins σ H s'->G s'):∀(E:b7->f7->Prop),ge (g9 X.prog X.w) X.A.in1 (j3<|.ref a) (λit s₂=>∃I fp wr n P St tr,it=E6 I/\Walks X.prog X.w X.A.in1 I fp wr n P St/\St 0 s₂.heap/\TruthOf X.prog X.w X.A.in1 P tr /\ (n=bs.length/\(∀i,i<bs.length->tr i=bs.getD i bt))/\∀h' tk,(∀b o,b∉wr->s₂.heap.get? b=a7 o->h'.get? b=a7 o)->G { s₂ with heap:=h',toks:=tk }) E s:=by
 intro E;obtain⟨its,B,p,J⟩:=I.list z;have c:=uI B;subst c;have l:=p.isList;have t:a<s.heap.objs.size:=by obtain⟨o,n,e,_⟩:=p;exact A0 e
 refine Qk l ?_;have j:u6 X pins σ H { s with heap:=s.heap.push { cls:=.type "list_iterator",data:=.fields #[.ref a,.int 0 0] } }:=I.kept (t':=s.toks) λb o e=>z6 _ e;refine⟨s.heap.objs.size,_,_,_,_,_,λi=>bs.getD i bt,rfl,Walks.list (A:=X.A.in1) (I.ok.hd x) s.heap.objs.size a (A3 t) (bs.map MH).toArray,⟨⟨_,C5 _ rfl,rfl,rfl⟩,l.push _⟩,?_,⟨by simp,λi _=>rfl⟩,λh' tk D=>?_⟩;intro i v s' Q' F C Q;have h:(bs.map MH).toArray[i]?=a7 v:=C;rw[Rb,D8]at h;cases e:bs[i]? with
 |none=>rw[e]at h;cases h
 |some b =>
  rw[e]at h;cases h;refine NO ?_;have:bs.getD i bt=b:=by rw[Lf,e];rfl
  have d:Q' (bs.getD i bt) s':=Q;rw[this]at d;exact d
 have f:=I.fpOk (H':=H) (w5 _)<|I.hok.fresh<|w5 _;obtain⟨m,k,N,r,y,q⟩:=f;exact g _<|j.turned (t':=tk) (it:=s.heap.objs.size) (λb o u e=>D b o (by simpa using u) e) m k r y q
theorem AE{bs:List Bool}{tr:Nat->Bool}(h:∀i,i<bs.length->tr i=bs.getD i bt):(D3 bs.length).all tr=bs.all id:=by rw[Om,E7,E7];constructor;intro g b d;obtain⟨i,hi,e⟩:=List.mem_iff_getElem.mp d;have:=g i<|Ix.mpr hi;rw[h i hi,Lf,z9 hi]at this;rw[<-e];exact this;intro g i hi;have a:=Ix.mp hi;rw[h i a,Lf,z9 a];exact g _<|LZ a
theorem AC{bs:List Bool}{tr:Nat->Bool}(h:∀i,i<bs.length->tr i=bs.getD i bt):(D3 bs.length).any tr=bs.any id:=by rw[Om,Lh,Lh];constructor;rintro⟨i,hi,g⟩;have a:=Ix.mp hi;rw[h i a,Lf,z9 a]at g;exact⟨_,LZ a,g⟩;rintro⟨b,hb,g⟩;obtain⟨i,hi,e⟩:=List.mem_iff_getElem.mp hb;refine⟨i,Ix.mpr hi,?_⟩;rw[h i hi,Lf,z9 hi,e];exact g
def GX:E1:=λds M Q=>match ds with
 | [.ref n]=>∃s,am M n (bls s)/\Q (.bl<|s.all id) M
 |_=>False
def HQ:E1:=λds M Q=>match ds with
 | [.ref n]=>∃s,am M n (bls s)/\Q (.bl<|s.any id) M
 |_=>False
theorem KJ(i:X.calm=a9:=by rfl):iO X (.builtin "all") GX:=by
 rintro p s σ H vs us R I v ⟨ds,M,ρ,Q,m,a,q,k⟩;unfold GX at q;split at q;obtain⟨c,L,q⟩:=q
 first|have z:=Reps.inv_cons a|have z:=aw.inv_cons a
 clear a;obtain⟨_,_,rfl,j,a⟩:=z;cases a;obtain⟨u,rfl,t⟩:=aw.one v;obtain⟨_,rfl,e⟩:=v7.inv_ref j;cases t;obtain⟨y,h,r⟩:=am.seq m L e;rw[r.bls]at h;refine call_all_walk<|x6 (nR (G:=λs'=>EP X p σ R (.bool<|c.all id) s') I i h (λs' b=>dD b m k q) _) ?_;rintro it x ⟨J,C,w,n,P,Sx,tr,t,W,l,T,⟨d,g⟩,f⟩;subst d;exact⟨J,C,w,_,P,Sx,tr,t,W,l,T,λh' o D=>by rw[AE g];exact f h' o D⟩;exact q.elim
theorem KI(i:X.calm=a9:=by rfl):iO X (.builtin "any") HQ:=by
 rintro p s σ H vs us R I v ⟨ds,M,ρ,Q,m,a,q,k⟩;unfold HQ at q;split at q;obtain⟨c,L,q⟩:=q
 first|have z:=Reps.inv_cons a|have z:=aw.inv_cons a
 clear a;obtain⟨_,_,rfl,j,a⟩:=z;cases a;obtain⟨u,rfl,t⟩:=aw.one v;obtain⟨_,rfl,e⟩:=v7.inv_ref j;cases t;obtain⟨y,h,r⟩:=am.seq m L e;rw[r.bls]at h;refine call_any_walk<|x6 (nR (G:=λs'=>EP X p σ R (.bool<|c.any id) s') I i h (λs' b=>dD b m k q) _) ?_;rintro it x ⟨J,C,w,n,P,Sx,tr,t,W,l,T,⟨d,g⟩,f⟩;subst d;exact⟨J,C,w,_,P,Sx,tr,t,W,l,T,λh' o D=>by rw[AC g];exact f h' o D⟩;exact q.elim
end
end L2
namespace L2
open PySem PySem.Spec PyProof.Rows DL _root_.HT
section
variable{prog:c9}{w:c8}{A:f6}{E:b7->f7->Prop}{s:f7}
theorem oX{t m:d5}{i:Array b7}{l u:b7}{lo hi:Option Int}{Q:b7->f7->Prop}(D:IsTup s.heap t i)(hs:s.heap.IsSliceOf m l u .none)(p:m5 l lo)(f:m5 u hi)(d:sIx i.size 0 lo=0/\sIx i.size i.size hi=i.size) (h:Q (.ref t) s):ge (g9 prog w) A (m6 (.ref t)<|.ref m) Q E s:=by
 obtain⟨o,b,c,e⟩:=id hs;have a:s.TypeIs (.ref m) "slice":=⟨o,b,c⟩
 unfold m6
 try with_reducible refine F7 ?_
 first|refine u4 (u8 ?_)|skip
 refine u4<|wpAny_sequenceKey D.typeIs (by decide)<|u4<|LS (name:=u7 "__getitem__") D.typeIs Oy<|J4 Oy D.typeIs entry_tuple_getitem ?_<|args_tuple_getitem _ _;refine(show ge (g9 prog w) _ (QJ (.ref t) >>= _) _ _ s from u4<|tupleItemsOf_ D<|u4<|Mw a ?_);rw[p9<|by decide];refine u4<|eO hs p f ?_;refine(show ge (g9 prog w) _ (if (((sIx i.size 0 lo:Nat):Int)==0&&(1:Int)==1&&(sIx i.size i.size hi-sIx i.size 0 lo)==i.size)=a9 then _ else _) _ _ s from ?_);rw[p9<|by rw[d.1,d.2];simp];unfold Builtin.Tuple.tupleIsExact;refine u4<|u4<|Mw D.typeIs<|u8 ?_;rw[p9<|by decide];exact u4<|Lq<|u8 ⟨_,rfl,u8 h⟩
end
end L2
namespace L2
open PySem PySem.Spec PyProof.Rows DL
section
variable{X:Cx}{a b:g7}{ta tb:x9}{pos:i3}
theorem LX.imp(h:LX X r')(i:∀x y H R,r x y H R->r' x y H R):LX X r:=λa e p s σ H x y v u R I g b q hs=>h a e p s σ H x y v u R I g b (i x y H R q) hs
theorem Reps.atI{K:v6}{ρ:List d5}{H:Hp}{ds:List D}{vs:List V}{i:Int}{d:D}(r:Reps K ρ H ds vs)(h:L2.atI ds i=a7 d):∃v,L2.atI vs i=a7 v/\v7 K ρ H d v:=by
 unfold L2.atI at h ⊢;rw[r.length]at h;cases e:L7 vs.length i with
 |none=>rw[e]at h;cases h
 |some j=>rw[e]at h;obtain⟨v,c,a⟩:=r.get<|show ds[j]?=a7 d from h;exact⟨v,c,a⟩
def v9:F6:=λx y M Q=>match x,y with
 |.tup xs,.int i=>match L2.atI xs i with
  |some d=>Q d M
  |none=>False
 |.str z,.int i=>z.length<=sizeLine/\match L2.atI z.cps.toList i with
  |some c=>Q (.str ⟨#[c]⟩) M
  |none=>False
 |.ref n,.int i=>∃xs,am M n xs/\match L2.atI xs i with
  |some d=>Q d M
  |none=>False
 |_,_=>False
theorem FW:LX X (lowR X.K v9):=by refine LX.imp JA ?_;rintro p s H R ⟨x,y,M,ρ,Q,m,b,l,q,k⟩;unfold v9 at q;split at q;rename_i xs i;split at q;rename_i d e;cases l;obtain⟨_,_,rfl,h,r⟩:=v7.inv_tup b;obtain⟨v,a,f⟩:=r.atI e;exact .inr<|.inl ⟨_,_,_,v,rfl,rfl,h,a,k _ H<|VQ.now m f q⟩;exact q.elim;rename_i z i;obtain⟨o,q⟩:=q;split at q;rename_i c e;cases l;cases b;exact .inr<|.inr ⟨z,i,c,rfl,rfl,o,e,k _ H<|VQ.now m (.str _) q⟩;exact q.elim;rename_i n i;obtain⟨xs,L,q⟩:=q;split at q;rename_i d e;cases l;obtain⟨_,rfl,g⟩:=v7.inv_ref b;obtain⟨vs,j,r⟩:=am.seq m L g;obtain⟨v,a,f⟩:=r.atI e;exact .inl ⟨_,_,_,v,rfl,rfl,j,a,k _ H<|VQ.now m f q⟩;exact q.elim;exact q.elim
theorem d_ix(f:DE X a ta)(d:DE X b tb)(hs:uD b:=by intro _ _;rfl):DE X (.Subscript a b pos) (u5 v9 ta tb):=PE.imp (pe_ix FW f d hs) oQ
abbrev ND:=SD->v5->(Option Int->v5->Prop)->Prop
def IU(K:v6)(t:ND):TO:=λσ H R=>∃S M ρ Q,w9 K ρ M H/\SRep K ρ H S σ/\t S M Q/\∀o H',(∃M' ρ',w9 K ρ' M' H'/\Grow K ρ H ρ' H'/\Q o M')->R o H'
def me:ND:=λ_ M Q=>Q a8 M
def ux(t:x9):ND:=λS M Q=>t S M λx a=>match x with
 |.int i=>Q (a7 i) a
 |_=>False
theorem PO.imp(h:PO X e t')(i:∀σ H R,t σ H R->t' σ H R):PO X e t:=λp s σ H R I q=>h p s σ H R I<|i σ H R q
theorem Gx:PO X a8 (IU X.K me):=by refine PO.imp EQ ?_;rintro σ H R ⟨S,M,ρ,Q,s,c,q,k⟩;exact k a8 H ⟨M,ρ,s,.refl,q⟩
theorem Gw(h:DE X e te):PO X (a7 e) (IU X.K<|ux te):=by
 refine PO.imp (EO h) ?_;rintro σ H R ⟨S,M,ρ,Q,s,g,q,k⟩;refine⟨S,M,ρ,_,s,g,q,?_⟩;rintro v H1 ⟨d,a,c,f,g1,r,b⟩;cases r with
 |int i=>exact⟨i,rfl,k _ H1 ⟨a,c,f,g1,b⟩⟩
 |_=>exact b.elim
theorem Hz:OL X (λx lo hi H Q=>∃z,x=.str z/\z.length<=sizeLine/\Q (.str<|LK z lo hi) H):=by
 intro b s σ H x v w y lo hi n Q I r hs f m h;obtain⟨z,rfl,d,q⟩:=h;obtain⟨t,rfl⟩:=r;have a:∀{v:b7}{o:Option Int},m5 v o->∃p:Option (Int×Tok),v=partValue p/\p.map (·.1)=o:=λh=>by
  cases h with
  |none=>exact⟨a8,rfl,rfl⟩
  |int i t=>exact⟨a7 (i,t),rfl,rfl⟩
 obtain⟨g,rfl,e⟩:=a f;obtain⟨j,rfl,c⟩:=a m;subst e c;refine⟨"str",_,slot_str_getitem.lookup,typeIs_str _ _ _,wpAny_getItem_str_slice (l:=g) (u:=j) (st:=a8) hs rfl ?_⟩;exact post_val_or_str ⟨H9 (Txt.slice_le z _ _) d,λt' k=>⟨.str _,H,I.tok k,⟨t',rfl⟩,q⟩⟩
noncomputable def cutD(xs:List D)(lo hi:Option Int):List D:=(xs.drop<|HT.sIx xs.length 0 lo).take<|HT.sIx xs.length xs.length hi-HT.sIx xs.length 0 lo
theorem Reps.cutD{K:v6}{ρ:List d5}{H:Hp}{ds:List D}{vs:List V}(r:Reps K ρ H ds vs)(lo hi:Option Int):Reps K ρ H (L2.cutD ds lo hi) (Eg vs lo hi):=by unfold L2.cutD Eg;rw[r.length];exact(r.drop _).take _
def PC:D->Option Int->Option Int->v5->DK->Prop:=λx l hi M Q=>match x with
 |.str z=>z.length<=sizeLine/\Q (.str<|LK z l hi) M
 |.ref n=>∃xs,am M n xs/\Q (.ref M.length) (M++[.lst<|cutD xs l hi])
 |.tup xs=>Q (.tup<|cutD xs l hi) M
 |_=>False
def lowSl(K:v6)(r:D->Option Int->Option Int->v5->DK->Prop):V->Option Int->Option Int->Hp->VK->Prop:=λf l hi H R=>∃x M ρ Q,w9 K ρ M H/\v7 K ρ H x f/\r x l hi M Q/\∀v H',VQ K ρ H Q v H'->R v H'
theorem sld:OL X (lowSl X.K PC):=by
 rintro b s σ H x v j o l hi i R I g hs c u ⟨d,M,ρ,Q,m,f,q,k⟩;unfold PC at q;split at q;cases f;exact Hz b s σ H _ v j o l hi i R I g hs c u ⟨_,rfl,q.1,k _ H<|VQ.now m (.str _) q.2⟩;obtain⟨xs,L,q⟩:=q;obtain⟨_,rfl,t⟩:=v7.inv_ref f;obtain⟨vs,y,r⟩:=am.seq m L t;exact Ew b s σ H _ v j o l hi i R I g hs c u ⟨_,vs,rfl,y,λp hp=>k _ _<|VQ.laidL m .refl (r.cutD l hi) hp q⟩;obtain⟨_,_,rfl,h,r⟩:=v7.inv_tup f;rename_i xs a vs;by_cases w:HT.sIx xs.length 0 l=0/\HT.sIx xs.length xs.length hi=xs.length;cases g;obtain⟨its,z,D,A⟩:=I.tuple h;have n:its.toArray.size=xs.length:=by rw[B7,r.length];exact z.length.symm
 have e:L2.cutD xs l hi=xs:=by unfold L2.cutD;rw[w.1,w.2,List.drop_zero,Nat.sub_zero,LO]
 rw[e]at q;exact⟨"tuple",_,Oy.lookup,D.typeIs,oX D hs c u (by rw[n];exact w) ⟨.ref _,H,I,rfl,k _ H<|VQ.now m (.tup h r) q⟩⟩;exact Hy b s σ H _ v j o l hi i R I g hs c u ⟨_,_,rfl,h,by rw[<-r.length];exact w,λp hp=>k _ _<|VQ.laidT m .refl (r.cutD l hi) hp q⟩;exact q.elim
def N0(te:x9)(t h:ND):x9:=λS M Q=>te S M λx a=>t S a λl M2=>h S M2 λu b=>PC x l u b Q
theorem GF{e:g7}{te:x9}{lo hi:Option g7}{t h:ND}{p:i3}(m:DE X e te)(n:PO X lo (IU X.K t))(o:PO X hi (IU X.K h)):DE X (.Subscript e (.Slice lo hi a8 p) pos) (N0 te t h):=by refine PE.imp (BC sld m n o) ?_;rintro σ H R ⟨S,M,ρ,Q,s,c,q,k⟩;refine⟨S,M,ρ,_,s,c,q,?_⟩;rintro v H1 ⟨d,i,a,A,g1,z,r⟩;refine⟨S,i,a,_,A,c.grow g1,r,?_⟩;rintro l D ⟨M2,f,B,b,x⟩;refine⟨S,M2,f,_,B,c.grow<|g1.trans b,x,?_⟩;rintro u E ⟨j,g,C,g3,y⟩;exact⟨d,j,g,Q,C,z.grow<|b.trans g3,y,λv H' w=>k v H'<|VQ.trans ((g1.trans b).trans g3) w⟩
def jM:F6:=λx y M Q=>match x,y with
 |.int i,.int j=>CMul i j/\Q (.int<|i*j) M
 |.str z,.int n=>(0<=n/\n<2 ^ 63/\z.length*n.toNat<=sizeLine)/\Q (.str<|Txt.mul z n) M
 |_,_=>False
theorem tO(b:0<=n)(h:z.length*n.toNat<=sizeLine)(f:n<2 ^ 63):MulOk z n:=by
 refine⟨?_,λh1 h2=>?_,λh1 h2=>?_⟩;have a:decide (n < -(2 ^ 63:Int))=bt:=dF_ (by lia);have l:decide (n ≥ 2 ^ 63)=bt:=dF_ (by lia);rw[a,l];rfl;have c:(z.length:Int)*n<=2 ^ 24:=by
  have e:((z.length*n.toNat:Nat):Int)=(z.length:Int)*n:=by rw[Int.natCast_mul,Int.toNat_of_nonneg b]
  have h':((z.length*n.toNat:Nat):Int)<=(2 ^ 24:Nat):=Int.ofNat_le.mpr h;rw[e]at h';exact h'
 have s:0<n:=by lia
 intro t;have:=Int.lt_of_lt_of_le (Int.lt_mul_of_ediv_lt s t) c;lia;unfold PySem.Builtin.Str.tooLong;simpa using h
theorem Fi:G1 X (j6 .Mult) jM:=by
 rintro p s σ H f b v u R I g i ⟨x,y,M,ρ,Q,m,r,l,q,k⟩;unfold jM at q;split at q;cases r;cases l;exact IA p s σ H _ _ v u R I g i ⟨_,_,rfl,rfl,q.1,k _ H<|VQ.now m (.int _) q.2⟩;rename_i z n;cases r;cases l;obtain⟨t,rfl⟩:=g;obtain⟨t',rfl⟩:=i;obtain⟨⟨a,h2,h1⟩,q⟩:=q;exact PySem.SB.mul (tO a h1 h2) λt' j=>⟨.str _,H,I.tok j,⟨t',rfl⟩,k _ H<|VQ.now m (.str _) q⟩
 exact q.elim
variable{o e:g7}{es:List g7}{to:x9}{t:E8}{name:c7}{apos cpos:i3}{id:String}
def Ft(K:v6)(r:c7->E1):V->List V->Hp->VK->Prop:=λf vs H R=>∃z ds M ρ Q,f=.str z/\w9 K ρ M H/\Reps K ρ H ds vs/\r z ds M Q/\∀v H',VQ K ρ H Q v H'->R v H'
def lQ(K:v6)(r:Nat->E1):V->List V->Hp->VK->Prop:=λf vs H R=>∃n a ds M ρ Q,f=.ref a/\ρ[n]?=a7 a/\w9 K ρ M H/\Reps K ρ H ds vs/\r n ds M Q/\∀v H',VQ K ρ H Q v H'->R v H'
def PJ(r:c7->E1)(d:x9)(t:E8):x9:=λS M Q=>d S M λx a=>match x with
 |.str z=>t S a λds M2=>r z ds M2 Q
 |_=>False
def Mr(r:Nat->E1)(d:x9)(t:E8):x9:=λS M Q=>d S M λx a=>match x with
 |.ref n=>(∃xs,am a n xs)/\t S a λds M2=>r n ds M2 Q
 |_=>False
theorem d_ms(slot:Slot "str" name id)(y:m8 (.builtin id)=pure (.type "method_descriptor"))(p:Ln X id (Ft X.K r))(B:DE X o to)(m:DA X (e::es) t)(h:m9 o name X.env (eval o X.env)=eval o X.env:=by rfl)(b:((i4 cpos<|i5 (e::es) X.env).all (λx=>!x.1)&&(n5 cpos<|n6 [] X.env).all (λx=>x.1.isSome) && decide ((e::es).length+([]:List l8).length+(if ([]:List l8).isEmpty then 0 else 1)<30))=a9:=by rfl)(a:(apos.endLine==cpos.line)=a9:=by rfl) (hs:i5 (e::es) X.env=(bt,eval e X.env)::i5 es X.env:=by rfl) (n:(i4 cpos<|i5 es X.env).any (·.1)=bt:=by rfl):DE X (.Call (.Attribute o name apos) (e::es) [] cpos) (PJ r to t):=by
 refine PE.imp (Ir PySem.F.plainAttrs_str slot y p B m h b a hs n) ?_;rintro σ H R ⟨S,M,ρ,Q,s,i,q,k⟩;refine⟨S,M,ρ,_,s,i,q,?_⟩;rintro v H1 ⟨d,j,c,D,g1,A,g⟩;cases A with
 |str z=>exact⟨rfl,S,j,c,_,D,i.grow g1,g,λvs G ⟨ds,M2,f,E,l,C,u⟩=>⟨z,ds,M2,f,Q,rfl,E,C,u,λv H' w=>k v H'<|VQ.trans (g1.trans l) w⟩⟩
 |_=>exact g.elim
theorem d_ml(slot:Slot "list" name id)(y:m8 (.builtin id)=pure (.type "method_descriptor"))(B:Ln X id (lQ X.K r))(C:DE X o to)(A:DA X (e::es) t)(b:m9 o name X.env (eval o X.env)=eval o X.env:=by rfl)(f:((i4 cpos<|i5 (e::es) X.env).all (λx=>!x.1)&&(n5 cpos<|n6 [] X.env).all (λx=>x.1.isSome) && decide ((e::es).length+([]:List l8).length+(if ([]:List l8).isEmpty then 0 else 1)<30))=a9:=by rfl)(c:(apos.endLine==cpos.line)=a9:=by rfl) (hs:i5 (e::es) X.env=(bt,eval e X.env)::i5 es X.env:=by rfl) (h:(i4 cpos<|i5 es X.env).any (·.1)=bt:=by rfl):DE X (.Call (.Attribute o name apos) (e::es) [] cpos) (Mr r to t):=by
 refine PE.imp (Ir PySem.F.plainAttrs_list slot y B C A b f c hs h) ?_;rintro σ H R ⟨S,M,ρ,Q,s,z,q,k⟩;refine⟨S,M,ρ,_,s,z,q,?_⟩;rintro v H1 ⟨d,i,j,u,g1,G,g⟩;cases G with
 |@ref n a p =>
  obtain⟨⟨xs,L⟩,g⟩:=(show (∃xs,am i n xs)/\t S i _ from g)
  obtain⟨vs,D,_⟩:=am.seq u L p;refine⟨.inl ⟨rfl,vs,D⟩,S,i,j,_,u,z.grow g1,g,?_⟩;rintro vs N ⟨ds,M2,l,J,m,I,E⟩;exact⟨n,a,ds,M2,l,Q,rfl,ax m.pre p,J,I,E,λv H' w=>k v H'<|VQ.trans (g1.trans m) w⟩
 |_=>exact g.elim
def cD(n:Nat):E1:=λds M Q=>match ds with
 | [d]=>∃xs,M[n]?=a7 (.lst xs)/\xs.length<sizeLine/\Q .non (M.set n<|.lst<|xs++[d])
 |_=>False
theorem wZ:Ln X "list.append" (lQ X.K cD):=by
 rintro p s σ H x xs v us R I l j ⟨n,a,ds,M,ρ,Q,c,f,m,b,q,k⟩;unfold cD at q;split at q;rename_i d;obtain⟨ys,e,g,q⟩:=q
 first|have z:=Reps.inv_cons b|have z:=aw.inv_cons b
 clear b;obtain⟨_,_,rfl,i,b⟩:=z;cases b;obtain⟨vs,h,r⟩:=m.obj n a _ f e;obtain⟨w,t⟩:=m.write f e h<|r.append<|.cons i .nil;exact yX p s σ H x _ v us R I l j ⟨a,vs,_,c,rfl,h,by rw[<-r.length];exact g,k _ _ ⟨.non,_,ρ,w,t,.non,q⟩⟩;exact q.elim
end
def cz(K:v6)(mg:c7->Option b7)(x:c7)(st:i6)(ps:List c7):Prop:=∃f d,Me K x x st f d/\mg x=a7 (.ref f)/\mM K d ps []
def x5(P:c9)(w:c8)(K:v6)(mg:c7->Option b7)(base:d7)(k:Nat)(x:c7)(ps:List c7)(c:A2):Prop:=∃f d,FnOk P w K mg base K0 k f d ps (LG K c)/\mg x=a7 (.ref f)/\MM K (.ref f)=a9/\mM K d ps []
theorem fnat_mk{K:v6}{h:d7}{mg:c7->Option b7}{x:c7}{st:i6}{ps:List c7}{f:d5}{b:b7}{j M:Option d5}{o:Array (Option b7)}{kV i U v R:b7}(X:K.In h) (G:h.Ns e7 mg) (a:MJ K e7 x=a7 (a7<|.ref f))(l:K.lookup f=a7 ⟨b,j,.func<|Mx x x (gU st) (bx st) (aq st) .none kV i U M v R,o⟩)(c:O4 K v x=a9) (k:MM K (.ref f)=a9)(h:∀(kV i U:b7) (M:Option d5) (v R:b7) (us:List b7),us.length=ps.length->bindArgs (Mx x x (gU st) (bx st) (aq st) .none kV i U M v R) ⟨us,[]⟩=pure (ps.zip us)):cz K mg x st ps:=have F:=JW (st:=st) l c k
 ⟨f,_,F,PZ X G a,F.binds h⟩
theorem x5.of{P:c9}{w:c8}{K:v6}{mg:c7->Option b7}{base:d7}{x:c7}{st:i6}{N ps:List c7}{k:Nat}{c:A2}(F:cz K mg x st ps)(e:FnScope N ps (aq st))(B:∀ds M R,c ds M R->ds.length=ps.length) {t:u9}(r:∀(f:d5) (cdv:b7) (A:f6) (outer:List Env) (s:f7) (H:Hp) (E:XK),Room k (A.deeper<|b9 x (aq st) s.heap.objs.size f cdv)->Mu (ph K0 P w K mg base N x (aq st) f cdv A outer s H E).nox (bx st) t)(p:∀ds M R,c ds M R->t ⟨λ_ M'=>aO M R .non M',aO M R,λ_ _=>False,λ_ _=>False⟩ (ci N ds) M):x5 P w K mg base (k+1) x ps c:=by obtain⟨f,d,a,m,b⟩:=F;exact⟨f,d,d_fn c a e B λcdv A outer s H E i=>⟨t,r f cdv A outer s H E i,p⟩,m,a.kp,b⟩
theorem Gk{P:c9}{w:c8}{K:v6}{mg:c7->Option b7}{base:d7}{x:c7}{st:i6}{N ps:List c7}{k:Nat}{c:A2}{f:d5}{d:k7}(F:Me K x x st f d)(e:FnScope N ps (aq st))(B:∀ds M R,c ds M R->ds.length=ps.length) {t:u9}(r:∀(f:d5) (cdv:b7) (A:f6) (outer:List Env) (s:f7) (H:Hp) (E:XK),Room k (A.deeper<|b9 x (aq st) s.heap.objs.size f cdv)->Mu (ph K0 P w K mg base N x (aq st) f cdv A outer s H E).nox (bx st) t)(p:∀ds M R,c ds M R->t ⟨λ_ M'=>aO M R .non M',aO M R,λ_ _=>False,λ_ _=>False⟩ (ci N ds) M):FnOk P w K mg base K0 (k+1) f d ps (LG K c):=d_fn c F e B λcdv A outer s H E i=>⟨t,r f cdv A outer s H E i,p⟩
theorem FnOk.more{P:c9}{w:c8}{K:v6}{mg:c7->Option b7}{base:d7}{CX:L8}{j k:Nat}{f:d5}{d:k7}{ps:List c7}{sp:Sp}(F:FnOk P w K mg base CX j f d ps sp)(h:j<=k):FnOk P w K mg base CX k f d ps sp:=⟨F.len,λA o s H O us vs Q E i=>F.run A o s H O us vs Q E<|i.mono h⟩
section
variable{X:Cx}{e:g7}{es:List g7}{t:E8}{pos:i3}
theorem d_cal(C:x5 X.prog X.w X.K X.mg X.base j x ps P)(r:Room k X.A)(a:DA X (e::es) t)(hj:j<=k:=by decide)(R:Gl X x:=by rfl) (b:(x==("__debug__":c7))=bt:=by decide) (i:i5 (e::es) X.env=(bt,eval e X.env)::i5 es X.env:=by rfl) (l:(i4 pos<|i5 es X.env).any (·.1)=bt:=by rfl):DE X (.Call (.Name x p) (e::es) [] pos) (v8 P t):=by obtain⟨f,c,F,m,h,d⟩:=C;exact KB F (r.mono hj) m h d a R b i l
end
def FA:A2:=λds M R=>∃(ns:List Int) (m:MO),ns.length<=63/\(m.items=ns.map D.int/\m.isL=a9)/\ds=[.ref 0]/\M=[m]/\∀M',R (.bl a9) M'
theorem rC(h:M[n]?=a7 mo)(g:mo.isL=a9):am M n mo.items:=by
 cases mo with
 |lst xs=>exact .inl h
 |fz xs=>exact .inr<|.inl h
 |kl xs=>exact .inr<|.inr h
 |dct xs=>cases g
 |dkt xs=>cases g
 |dkq _ xs=>cases g
 |fdc o xs=>cases g
 |dkm xs=>cases g
 |tb x b=>cases g
 |exc x=>cases g
theorem iz{K:v6}{ρ:List d5}{H:Hp}:∀(ns:List Int),Reps K ρ H (ns.map D.int) (ns.map V.int)
 | []=>.nil
 |n::ns=>.cons (.int n)<|iz ns
theorem xj{K:v6}{H:Hp}{a:d5}{ns:List Int}(g:ns.length<=63)(S:J0 K H a (ns.map V.int)):LG K FA [.ref a] H (λv _=>v=.bl a9) λ_ _ _=>False:=by
 have c:∀{mo:MO},mo.items=ns.map D.int/\mo.isL=a9->xD K [a] H a mo->LG K FA [.ref a] H (λv _=>v=.bl a9) λ_ _ _=>False:=λ{mo} e ok=>by refine⟨[.ref 0],[mo],[a],λd _=>d=.bl a9,⟨λn m b f t l=>?_,rfl,λn b i t l=>?_⟩,.cons (.ref rfl) .nil,⟨ns,mo,g,e,rfl,rfl,λ_=>rfl⟩,λv H' ⟨d,M',ρ',_,_,r,q⟩=>?_⟩;have h1:=(A5.mp t).1;have h2:=(A5.mp l).1;simp at h1 h2;lia;have h1:=(A5.mp t).1;simp at h1;subst h1;simp at t l;subst t l;exact ok;have j:d=.bl a9:=q;subst j;cases r;rfl
 rcases S with(h|⟨o,h⟩)|h;exact c (mo:=.lst _) ⟨rfl,rfl⟩ ⟨_,h,iz ns⟩;exact c (mo:=.fz _) ⟨rfl,rfl⟩ ⟨o,_,h,iz ns⟩;exact c (mo:=.kl _) ⟨rfl,rfl⟩ ⟨_,h,iz ns⟩
theorem law_walk{l:PySem.W.OpenLaw}{q:c9}{b:List c7}{P:(c7->Option b7)->d7->Prop}{YP:c8->d7->Prop}{d:DefRec}{K:Params->v6}{k:Nat}{st:i6}{x:c7}(y:l.most=a7 63)(i:d.params.defaults=[])(p:d.name = "law")(A:Room k callerA)(D:∀(w:c8) (h:d7),YP w h->(K w.params).In h)(F:∀(w:c8) (mg:c7->Option b7) (h:d7),(K w.params).In h->h.Ns e7 mg->cz (K w.params) mg "law" st [x] /\ ∀(base:d7) (f:d5) (fd:k7),Me (K w.params) "law" "law" st f fd->FnOk l.prog w (K w.params) mg base K0 k f fd [x] (LG (K w.params) FA))(m:∀(kV doc pm:b7) (an:Option d5) (cdv ct:b7) (u:b7),bindArgs (Mx "law" "law" (gU st) (bx st) (aq st) .none kV doc pm an cdv ct) ⟨[u],[]⟩=pure [(x,u)]):PySem.W.WalkO q b P YP l.row.toRowW d [] (λf vs=>PySem.call f vs):=by refine L2.walk_of (n:=63) (k:=k) (x:=x) (CX:=λ_=>K0) (sp:=λw=>LG (K w.params) FA) y (by decide) i A D (λw mg I h X G g=>?_) (λw H a ns r _ S=>xj r S) λ_ _ _ _ _ z=>z;rw[p]at g;obtain⟨⟨f,fd,c,t,_⟩,C⟩:=F w mg h X G;have e:=g.symm.trans t;cases e;have j:=λbase=>C base _ _ c;obtain⟨J,L,kV,doc,pm,an,cdv,ct,B,rfl,E,o⟩:=id c.ex;exact⟨_,λs v=>.of_eq<|m kV doc pm an cdv ct v,λbase _ _=>j base⟩
noncomputable def nS(nm:List (c7×m3))(N N':List c7)(t:Nat)(s:List Nat)(c:f8):Bool:=c.kind==.function&&c.names.all (λy=>y.2 != .cell&&(y.2 != .local||c.names.lookup y.1==a7 .local)&&(y.2 != .free||(nm.lookup y.1==a7 .cell||nm.lookup y.1==a7 .free))) &&
 N'.length==t+s.length&&(D3 s.length).all λk=>match s[k]?,N'[t+k]? with
  |some j,a7 x=>N[j]?==a7 x&&c.names.lookup x==a7 .free&&(nm.lookup x==a7 .cell||nm.lookup x==a7 .free)
  |_,_=>bt
theorem BlkSc.chk(h:nS X.env.scope.names X.N N' nt js scope=a9):BlkSc X N' nt js scope:=by
 unfold nS at h;simp only[F3,E7,t6,O7,bne_iff_ne]at h;obtain⟨⟨⟨h1,h2⟩,a⟩,d⟩:=h;refine⟨h1,λy Q=>(h2 y Q).1.1,λy Q e=>((h2 y Q).1.2.resolve_left<|λz=>z e),λy Q e=>((h2 y Q).2.resolve_left<|λz=>z e),a,λk j e=>?_⟩;have b:k<js.length:=(A5.mp e).1;have q:=d k<|Ix.mpr b;rw[e]at q;cases f:N'[nt+k]? with
 |none=>rw[f]at q;exact t4 q<|by simp
 |some x=>rw[f]at q;simp only[F3,t6,O7]at q;exact⟨x,rfl,q.1.1,q.1.2,q.2⟩
section
variable{X:Cx}{a:g7}{ta:x9}{pos:i3}
def PF(r:OQ)(t:x9):x9:=λS M Q=>t S M λx a=>r x a Q
theorem d_un(B:QY X (unaryOp op) r)(f:DE X a ta):DE X (.UnaryOp op a pos) (PF r ta):=by refine PE.imp (pe_un B f) ?_;rintro σ H R ⟨S,M,ρ,Q,s,i,q,k⟩;refine⟨S,M,ρ,_,s,i,q,?_⟩;rintro v H1 ⟨d,b,c,h,g1,g,e⟩;exact⟨d,b,c,Q,h,g,e,λv H' w=>k v H'<|VQ.trans g1 w⟩
def HN:OQ:=λx M Q=>match x with
 |.int i=>Q (.int (-i)) M
 |_=>False
theorem Hl:QY X (unaryOp .USub) HN:=by rintro p s σ H f v R I g ⟨x,M,ρ,Q,m,r,q,k⟩;unfold HN at q;split at q;cases r;exact Hk p s σ H _ v R I g ⟨_,rfl,k _ H<|VQ.now m (.int _) q⟩;exact q.elim
end
noncomputable def E3(f:D->D->Bool):List D->List D->Bool
 | [],[]=>a9
 |x::xs,y::ys=>f x y&&E3 f xs ys
 |_,_=>bt
noncomputable def v4(M:v5):Nat->D->D->Bool
 |_,.non,.non=>a9
 |_,.bl a,.bl b=>a==b
 |_,.bl a,.int b=>(if a then 1 else 0)==b
 |_,.int a,.bl b=>a==(if b then 1 else 0)
 |_,.int a,.int b=>a==b
 |_,.str a,.str b=>a==b
 |n+1,.tup xs,.tup ys=>E3 (v4 M n) xs ys
 |n+1,.ref i,.ref j=>match M[i]?,M[j]? with
  |some a,a7 b=>E3 (v4 M n) a.items b.items
  |_,_=>bt
 |_,_,_=>bt
noncomputable def w4(M:v5):Nat->D->Bool
 |_,.ty _=>bt
 |n+1,.tup xs=>xs.all<|w4 M n
 |n+1,.ref i=>match M[i]? with
  |some a=>a.isL&&a.items.all (w4 M n)
  |none=>bt
 | 0,.tup _=>bt
 | 0,.ref _=>bt
 |_,_=>a9
theorem zX:∀{xs ys:List D},E3 f xs ys=a9->xs.length=ys.length
 | [],[],_=>rfl
 | [],_::_,h=>by simp[E3]at h
 |_::_,[],h=>by simp[E3]at h
 |x::xs,y::ys,h=>by simp only[E3,F3]at h;rw[E5,E5,zX h.2]
theorem AD(n:Nat)(e:Nat->Bool):(D3<|n+1).all e=(e 0&&(D3 n).all λj=>e<|j+1):=by rw[List.range_succ_eq_map,LL,List.all_map];rfl
theorem lZ:∀{xs ys:List D}{e:Nat->Bool},xs.length=ys.length->(∀(j:Nat) x y,xs[j]?=a7 x->ys[j]?=a7 y->e j=f x y)->(D3 xs.length).all e=E3 f xs ys
 | [],[],e,_,_=>by simp[E3]
 | [],_::_,_,h,_=>by simp at h
 |_::_,[],_,h,_=>by simp at h
 |x::xs,y::ys,e,h,he=>by rw[E5,AD,E3,he 0 x y rfl rfl,lZ (by simpa using h) λj x' y' h1 h2=>he (j+1) x' y' (by simpa using h1)<|by simpa using h2]
theorem zW(h:xs.length≠ys.length):E3 f xs ys=bt:=by
 cases q:E3 f xs ys with
 |false=>rfl
 |true=>exact t4 (zX q) h
theorem ic{vs:List V}{us:List b7}(h:aw vs us){j:Nat}{v:V}(e:vs[j]?=a7 v):∃u,us[j]?=a7 u/\aJ v u:=by
 induction h generalizing j with
 |nil=>simp at e
 |cons r _ i =>
  cases j with
  |zero=>simp at e;subst e;exact⟨_,rfl,r⟩
  |succ j=>exact i<|by simpa using e
section
variable{X:Cx}{pins:List (d5×d6)}{σ:St}{H:Hp}{s:f7}{ρ:List d5}{M:v5}
theorem kY(I:u6 X pins σ H s)(m:w9 X.K ρ M H){i:Nat}{a:d5}{mo:MO}(e:ρ[i]?=a7 a)(d:M[i]?=a7 mo)(g:mo.isL=a9):∃vs its,J0 X.K H a vs/\Reps X.K ρ H mo.items vs/\aw vs its/\PlainL s.heap a its.toArray:=by obtain⟨vs,q,r⟩:=am.seq m (rC d g) e;obtain⟨its,b,p,_⟩:=I.list q;exact⟨vs,its,q,r,b,p⟩
theorem dA(d:M[i]?=a7 mo)(o:w4 M (n+1) (.ref i)=a9):mo.isL=a9/\mo.items.all (w4 M n)=a9:=by have o':(match M[i]? with|some a=>a.isL&&a.items.all (w4 M n)|none=>bt)=a9:=o;rw[d]at o';exact(F3 _ _).mp o'
theorem CK(I:u6 X pins σ H s)(m:w9 X.K ρ M H):∀(n:Nat) (x y:D) (v:V),v7 X.K ρ H x v->v7 X.K ρ H y v->w4 M n x=a9->w4 M n y=a9->v4 M n x y=a9:=by
 have l:∀(n:Nat),(∀(x y:D) (v:V),v7 X.K ρ H x v->v7 X.K ρ H y v->w4 M n x=a9->w4 M n y=a9->v4 M n x y=a9) -> ∀(xs ys:List D) (vs:List V),Reps X.K ρ H xs vs->Reps X.K ρ H ys vs->xs.all (w4 M n)=a9->ys.all (w4 M n)=a9->E3 (v4 M n) xs ys=a9:=by
  intro n p xs;induction xs with
  |nil=>intro ys vs h1 h2 _ _;cases h1;cases h2;rfl
  |cons x xs hi =>
   intro ys vs h1 h2 o1 o2;cases h1 with
   |cons G P =>
    cases h2 with
    |cons J Q=>rw[LL,F3]at o1 o2;rw[E3,p _ _ _ G J o1.1 o2.1,hi _ _ P Q o1.2 o2.2];rfl
 intro n;induction n with
 |zero=>intro x y v h1 h2 o1 o2;cases h1<;>cases h2<;>first|(simp[w4]at o1;done)|rfl|simp[v4]
 |succ n p =>
  intro x y v h1 h2 o1 o2;cases h1 with
  |non=>cases h2;rfl
  |bl b=>cases h2;simp[v4]
  |int b=>cases h2;simp[v4]
  |str b=>cases h2;simp[v4]
  |ty b=>simp[w4]at o1
  |@tup a vs ds q r =>
   cases h2 with
   |tup h r'=>have e:=I.tuple_inj q h;subst e;exact l n p _ _ _ r r' (by simpa [w4]using o1)<|by simpa [w4]using o2
   |@ref i _ e =>
    exfalso;obtain⟨its,_,⟨o,t,u,_⟩,_⟩:=I.tuple q;have hi:i<M.length:=by rw[<-m.len];exact(A5.mp e).1
    obtain⟨g,d,_,_,_,⟨o',C,f,N,_⟩⟩:=kY I m e (z9 hi) (dA (z9 hi) o2).1;rw[t]at f;cases f;rw[u]at N;injection N with f3;exact t4 f3<|by decide
  |@ref i a e =>
   have hi:i<M.length:=by rw[<-m.len];exact(A5.mp e).1
   have k:=z9 hi;obtain⟨vs,its,q,r,R,E⟩:=kY I m e k (dA k o1).1;cases h2 with
   |tup h r'=>exfalso;obtain⟨d,_,⟨o,t,u,_⟩,_⟩:=I.tuple h;obtain⟨o',C,f,N,_⟩:=E;rw[t]at f;cases f;rw[u]at N;injection N with f3;exact t4 f3<|by decide
   |@ref j _ A =>
    have L:j<M.length:=by rw[<-m.len];exact(A5.mp A).1
    have c:=z9 L;obtain⟨g,d,h,r',O,F⟩:=kY I m A c (dA c o2).1;have B:vs=g:=I.list_inj q h;subst B;have w:=(dA k o1).2;have z:=(dA c o2).2;simp only[v4,k,c];exact l n p _ _ _ r r' w z
theorem ma(I:u6 X pins σ H s)(sm:w9 X.K ρ M H):∀(n:Nat) (A:f6) (x y:D) (vx vy:V) (u v:b7),A.units+n<j9->v7 X.K ρ H x vx->aJ vx u->v7 X.K ρ H y vy->aJ vy v->w4 M n x=a9->w4 M n y=a9 ->Ma A s u v (v4 M n x y)/\SeqAt.RcAt A s u v (v4 M n x y)/\SeqAt.RcNeAt A s u v (!v4 M n x y):=by
 intro n;induction n with
 |zero =>
  intro A x y vx vy u v hu R w m l o1 o2;cases R with
  |ty b=>simp[w4]at o1
  |tup b=>simp[w4]at o1
  |ref b=>simp[w4]at o1
  |non =>
   cases w;cases m with
   |ty b=>simp[w4]at o2
   |tup b=>simp[w4]at o2
   |ref b=>simp[w4]at o2
   |non=>cases l;exact⟨P7 _,SeqAt.RcAt.none_none,SeqAt.RcNeAt.none_none⟩
   |bl b=>cases l;exact⟨SeqAt.EqAt.none_bool _,SeqAt.RcAt.none_bool _,SeqAt.RcNeAt.none_bool _⟩
   |int b=>obtain⟨t,rfl⟩:=l;exact⟨SeqAt.EqAt.none_int _ _,SeqAt.RcAt.none_int _ _,SeqAt.RcNeAt.none_int _ _⟩
   |str b=>obtain⟨t,rfl⟩:=l;exact⟨SeqAt.EqAt.none_str _ _,SeqAt.RcAt.none_str _ _,SeqAt.RcNeAt.none_str _ _⟩
  |bl a =>
   cases w;cases m with
   |ty b=>simp[w4]at o2
   |tup b=>simp[w4]at o2
   |ref b=>simp[w4]at o2
   |non=>cases l;exact⟨SeqAt.EqAt.bool_none _,SeqAt.RcAt.bool_none _,SeqAt.RcNeAt.bool_none _⟩
   |bl b=>cases l;exact⟨SeqAt.EqAt.bool_bool _ _,SeqAt.RcAt.bool_bool _ _,SeqAt.RcNeAt.bool_bool _ _⟩
   |int b=>obtain⟨t,rfl⟩:=l;exact⟨SeqAt.EqAt.bool_int _ _ _,SeqAt.RcAt.bool_int _ _ _,SeqAt.RcNeAt.bool_int _ _ _⟩
   |str b=>obtain⟨t,rfl⟩:=l;exact⟨SeqAt.EqAt.bool_str _ _ _,SeqAt.RcAt.bool_str _ _ _,SeqAt.RcNeAt.bool_str _ _ _⟩
  |int a =>
   obtain⟨t0,rfl⟩:=w;cases m with
   |ty b=>simp[w4]at o2
   |tup b=>simp[w4]at o2
   |ref b=>simp[w4]at o2
   |non=>cases l;exact⟨SeqAt.EqAt.int_none _ _,SeqAt.RcAt.int_none _ _,SeqAt.RcNeAt.int_none _ _⟩
   |bl b=>cases l;exact⟨SeqAt.EqAt.int_bool _ _ _,SeqAt.RcAt.int_bool _ _ _,SeqAt.RcNeAt.int_bool _ _ _⟩
   |int b=>obtain⟨t,rfl⟩:=l;exact⟨Qq _ _ _ _,SeqAt.RcAt.int_int _ _ _ _,SeqAt.RcNeAt.int_int _ _ _ _⟩
   |str b=>obtain⟨t,rfl⟩:=l;exact⟨Pj _ _ _ _,SeqAt.RcAt.int_str _ _ _ _,SeqAt.RcNeAt.int_str _ _ _ _⟩
  |str a =>
   obtain⟨t0,rfl⟩:=w;cases m with
   |ty b=>simp[w4]at o2
   |tup b=>simp[w4]at o2
   |ref b=>simp[w4]at o2
   |non=>cases l;exact⟨SeqAt.EqAt.str_none _ _,SeqAt.RcAt.str_none _ _,SeqAt.RcNeAt.str_none _ _⟩
   |bl b=>cases l;exact⟨SeqAt.EqAt.str_bool _ _ _,SeqAt.RcAt.str_bool _ _ _,SeqAt.RcNeAt.str_bool _ _ _⟩
   |int b=>obtain⟨t,rfl⟩:=l;exact⟨Pi _ _ _ _,SeqAt.RcAt.str_int _ _ _ _,SeqAt.RcNeAt.str_int _ _ _ _⟩
   |str b=>obtain⟨t,rfl⟩:=l;exact⟨Qp _ _ _ _,SeqAt.RcAt.str_str _ _ _ _,SeqAt.RcNeAt.str_str _ _ _ _⟩
 |succ n ih =>
  intro A x y vx vy u v hu R w m l o1 o2;have c:A.units<j9:=by lia
  have ab:A.in1.units+n<j9:=by show A.units+1+n<j9;lia
  -- what a list or a tuple is,as the heap has it
  have tupAt:∀{a:d5}{vs:List V}{ds:List D},B9 X.K H a vs->Reps X.K ρ H ds vs->∃its:List b7,aw vs its/\s.heap.IsTuple a its.toArray/\ds.length=its.length:=λ{a vs ds} q r=>by obtain⟨its,g,p,_⟩:=I.tuple q;exact⟨its,g,p,r.length.trans g.length⟩
  have lstAt:∀{i:Nat}{a:d5},ρ[i]?=a7 a->w4 M (n+1) (.ref i)=a9->∃o,M[i]?=a7 o/\∃vs its,Reps X.K ρ H o.items vs/\aw vs its/\s.heap.IsList a its.toArray/\o.items.length=its.length:=λ{i a} e ok=>by
   have hi:i<M.length:=by rw[<-sm.len];exact(A5.mp e).1
   have z:=z9 hi;obtain⟨vs,its,q,r,g,p⟩:=kY I sm e z (dA z ok).1;exact⟨_,z,vs,its,r,g,p.isList,r.length.trans g.length⟩
  have f:∀{xs ys:List D}{vs Y:List V}{its d:List b7},Reps X.K ρ H xs vs->aw vs its->Reps X.K ρ H ys Y->aw Y d->xs.all (w4 M n)=a9->ys.all (w4 M n)=a9 -> ∀(j:Nat) (h1:j<its.toArray.size) (h2:j<d.toArray.size),Ma A.in1 s its.toArray[j] d.toArray[j] (v4 M n (xs.getD j .non)<|ys.getD j .non):=λ{xs ys vs Y its d} R q1 m q2 o1 o2 j h1 h2=>by
   have l1:j<xs.length:=by rw[R.length,q1.length];simpa using h1
   have l2:j<ys.length:=by rw[m.length,q2.length];simpa using h2
   obtain⟨v1,g1,p1⟩:=R.get<|z9 l1;obtain⟨v2,g2,p2⟩:=m.get<|z9 l2;obtain⟨u1,k1,m1⟩:=ic q1 g1;obtain⟨u2,k2,m2⟩:=ic q2 g2;have z1:its.toArray[j]=u1:=by have:=(A5.mp k1).2;simpa using this
   have z2:d.toArray[j]=u2:=by have:=(A5.mp k2).2;simpa using this
   rw[z1,z2];have y1:xs.getD j .non=xs[j]:=by simp[NF,z9 l1]
   have y2:ys.getD j .non=ys[j]:=by simp[NF,z9 l2]
   rw[y1,y2];exact(ih A.in1 _ _ _ _ _ _ ab p1 m1 p2 m2 (E7.mp o1 _<|LZ l1)<|E7.mp o2 _<|LZ l2).1
  have W:∀(xs ys:List D),xs.length=ys.length->(D3 xs.length).all (λj=>v4 M n (xs.getD j .non)<|ys.getD j .non)=E3 (v4 M n) xs ys:=λxs ys h=>lZ h λj x y h1 h2=>by simp[NF,h1,h2]
  have N:∀{a b:d5}{k:Bool},v7 X.K ρ H x (.ref a)->v7 X.K ρ H y (.ref b)->v4 M (n+1) x y=k->SeqAt.RcAt A s (.ref a) (.ref b) k->SeqAt.RcNeAt A s (.ref a) (.ref b) (!k) -> Ma A s (.ref a) (.ref b) (v4 M (n+1) x y)/\SeqAt.RcAt A s (.ref a) (.ref b) (v4 M (n+1) x y)/\SeqAt.RcNeAt A s (.ref a) (.ref b) (!v4 M (n+1) x y):=λ{a b k} p1 p2 Z h1 h2=>by subst Z;refine⟨?_,h1,h2⟩;by_cases S:a=b;subst S;rw[CK I sm (n+1) x y _ p1 p2 o1 o2];exact P7 _;exact SeqAt.EqAt.of_refs S h1
  cases R with
  |ty b=>simp[w4]at o1
  |non =>
   cases w;cases m with
   |ty b=>simp[w4]at o2
   |tup q r=>cases l;obtain⟨its,g,p,_⟩:=tupAt q r;exact⟨SeqAt.EqAt.none_tuple p c,SeqAt.RcAt.none_tuple p c,SeqAt.RcNeAt.none_tuple p c⟩
   |ref e=>cases l;obtain⟨o,z,vs,its,r,g,p,_⟩:=lstAt e o2;exact⟨SeqAt.EqAt.none_list p c,SeqAt.RcAt.none_list p c,SeqAt.RcNeAt.none_list p c⟩
   |non=>cases l;exact⟨P7 _,SeqAt.RcAt.none_none,SeqAt.RcNeAt.none_none⟩
   |bl b=>cases l;exact⟨SeqAt.EqAt.none_bool _,SeqAt.RcAt.none_bool _,SeqAt.RcNeAt.none_bool _⟩
   |int b=>obtain⟨t,rfl⟩:=l;exact⟨SeqAt.EqAt.none_int _ _,SeqAt.RcAt.none_int _ _,SeqAt.RcNeAt.none_int _ _⟩
   |str b=>obtain⟨t,rfl⟩:=l;exact⟨SeqAt.EqAt.none_str _ _,SeqAt.RcAt.none_str _ _,SeqAt.RcNeAt.none_str _ _⟩
  |bl a =>
   cases w;cases m with
   |ty b=>simp[w4]at o2
   |tup q r=>cases l;obtain⟨its,g,p,_⟩:=tupAt q r;exact⟨SeqAt.EqAt.bool_tuple _ p c,SeqAt.RcAt.bool_tuple _ p c,SeqAt.RcNeAt.bool_tuple _ p c⟩
   |ref e=>cases l;obtain⟨o,z,vs,its,r,g,p,_⟩:=lstAt e o2;exact⟨SeqAt.EqAt.bool_list _ p c,SeqAt.RcAt.bool_list _ p c,SeqAt.RcNeAt.bool_list _ p c⟩
   |non=>cases l;exact⟨SeqAt.EqAt.bool_none _,SeqAt.RcAt.bool_none _,SeqAt.RcNeAt.bool_none _⟩
   |bl b=>cases l;exact⟨SeqAt.EqAt.bool_bool _ _,SeqAt.RcAt.bool_bool _ _,SeqAt.RcNeAt.bool_bool _ _⟩
   |int b=>obtain⟨t,rfl⟩:=l;exact⟨SeqAt.EqAt.bool_int _ _ _,SeqAt.RcAt.bool_int _ _ _,SeqAt.RcNeAt.bool_int _ _ _⟩
   |str b=>obtain⟨t,rfl⟩:=l;exact⟨SeqAt.EqAt.bool_str _ _ _,SeqAt.RcAt.bool_str _ _ _,SeqAt.RcNeAt.bool_str _ _ _⟩
  |int a =>
   obtain⟨t0,rfl⟩:=w;cases m with
   |ty b=>simp[w4]at o2
   |tup q r=>cases l;obtain⟨its,g,p,_⟩:=tupAt q r;exact⟨SeqAt.EqAt.int_tuple _ _ p c,SeqAt.RcAt.int_tuple _ _ p c,SeqAt.RcNeAt.int_tuple _ _ p c⟩
   |ref e=>cases l;obtain⟨o,z,vs,its,r,g,p,_⟩:=lstAt e o2;exact⟨SeqAt.EqAt.int_list _ _ p c,SeqAt.RcAt.int_list _ _ p c,SeqAt.RcNeAt.int_list _ _ p c⟩
   |non=>cases l;exact⟨SeqAt.EqAt.int_none _ _,SeqAt.RcAt.int_none _ _,SeqAt.RcNeAt.int_none _ _⟩
   |bl b=>cases l;exact⟨SeqAt.EqAt.int_bool _ _ _,SeqAt.RcAt.int_bool _ _ _,SeqAt.RcNeAt.int_bool _ _ _⟩
   |int b=>obtain⟨t,rfl⟩:=l;exact⟨Qq _ _ _ _,SeqAt.RcAt.int_int _ _ _ _,SeqAt.RcNeAt.int_int _ _ _ _⟩
   |str b=>obtain⟨t,rfl⟩:=l;exact⟨Pj _ _ _ _,SeqAt.RcAt.int_str _ _ _ _,SeqAt.RcNeAt.int_str _ _ _ _⟩
  |str a =>
   obtain⟨t0,rfl⟩:=w;cases m with
   |ty b=>simp[w4]at o2
   |tup q r=>cases l;obtain⟨its,g,p,_⟩:=tupAt q r;exact⟨SeqAt.EqAt.str_tuple _ _ p c,SeqAt.RcAt.str_tuple _ _ p c,SeqAt.RcNeAt.str_tuple _ _ p c⟩
   |ref e=>cases l;obtain⟨o,z,vs,its,r,g,p,_⟩:=lstAt e o2;exact⟨SeqAt.EqAt.str_list _ _ p c,SeqAt.RcAt.str_list _ _ p c,SeqAt.RcNeAt.str_list _ _ p c⟩
   |non=>cases l;exact⟨SeqAt.EqAt.str_none _ _,SeqAt.RcAt.str_none _ _,SeqAt.RcNeAt.str_none _ _⟩
   |bl b=>cases l;exact⟨SeqAt.EqAt.str_bool _ _ _,SeqAt.RcAt.str_bool _ _ _,SeqAt.RcNeAt.str_bool _ _ _⟩
   |int b=>obtain⟨t,rfl⟩:=l;exact⟨Pi _ _ _ _,SeqAt.RcAt.str_int _ _ _ _,SeqAt.RcNeAt.str_int _ _ _ _⟩
   |str b=>obtain⟨t,rfl⟩:=l;exact⟨Qp _ _ _ _,SeqAt.RcAt.str_str _ _ _ _,SeqAt.RcNeAt.str_str _ _ _ _⟩
  |@tup a vs ds q r =>
   cases w;obtain⟨its,g,p,Q⟩:=tupAt q r;cases m with
   |ty b=>simp[w4]at o2
   |non=>cases l;exact⟨SeqAt.EqAt.tuple_none p c,SeqAt.RcAt.tuple_none p c,SeqAt.RcNeAt.tuple_none p c⟩
   |bl b=>cases l;exact⟨SeqAt.EqAt.tuple_bool _ p c,SeqAt.RcAt.tuple_bool _ p c,SeqAt.RcNeAt.tuple_bool _ p c⟩
   |int b=>obtain⟨t,rfl⟩:=l;exact⟨SeqAt.EqAt.tuple_int _ _ p c,SeqAt.RcAt.tuple_int _ _ p c,SeqAt.RcNeAt.tuple_int _ _ p c⟩
   |str b=>obtain⟨t,rfl⟩:=l;exact⟨SeqAt.EqAt.tuple_str _ _ p c,SeqAt.RcAt.tuple_str _ _ p c,SeqAt.RcNeAt.tuple_str _ _ p c⟩
   |ref e=>cases l;obtain⟨o,z,aj,U,r',O,F,_⟩:=lstAt e o2;exact⟨SeqAt.EqAt.tuple_list p F c,SeqAt.RcAt.tuple_list p F c,SeqAt.RcNeAt.tuple_list p F c⟩
   |@tup b Y es L r' =>
    cases l;obtain⟨d,O,F,C⟩:=tupAt L r';have E:ds.all (w4 M n)=a9:=by simpa [w4]using o1
    have G:es.all (w4 M n)=a9:=by simpa [w4]using o2
    have ai:((D3<|min its.toArray.size d.toArray.size).all (λj=>v4 M n (ds.getD j .non)<|es.getD j .non)&&its.toArray.size==d.toArray.size)=E3 (v4 M n) ds es:=by rw[B7,B7];by_cases J:ds.length=es.length;rw[<-Q,<-C,<-J,Nat.min_self,W ds es J];simp;rw[zW J,<-Q,<-C];simp[J]
    have h1:=SeqAt.RcAt.tuples p F c<|f r g r' O E G;have h2:=SeqAt.RcNeAt.tuples p F c<|f r g r' O E G;rw[ai]at h1 h2;exact N (.tup q r) (.tup L r') rfl h1 h2
  |@ref i a e =>
   cases w;obtain⟨o,z,vs,its,r,g,p,Q⟩:=lstAt e o1;cases m with
   |ty b=>simp[w4]at o2
   |non=>cases l;exact⟨SeqAt.EqAt.list_none p c,SeqAt.RcAt.list_none p c,SeqAt.RcNeAt.list_none p c⟩
   |bl b=>cases l;exact⟨SeqAt.EqAt.list_bool _ p c,SeqAt.RcAt.list_bool _ p c,SeqAt.RcNeAt.list_bool _ p c⟩
   |int b=>obtain⟨t,rfl⟩:=l;exact⟨SeqAt.EqAt.list_int _ _ p c,SeqAt.RcAt.list_int _ _ p c,SeqAt.RcNeAt.list_int _ _ p c⟩
   |str b=>obtain⟨t,rfl⟩:=l;exact⟨SeqAt.EqAt.list_str _ _ p c,SeqAt.RcAt.list_str _ _ p c,SeqAt.RcNeAt.list_str _ _ p c⟩
   |tup L r'=>cases l;obtain⟨U,O,F,_⟩:=tupAt L r';exact⟨SeqAt.EqAt.list_tuple p F c,SeqAt.RcAt.list_tuple p F c,SeqAt.RcNeAt.list_tuple p F c⟩
   |@ref j b e' =>
    cases l;obtain⟨P,T,Y,d,r',O,F,C⟩:=lstAt e' o2;have E:o.items.all (w4 M n)=a9:=(dA z o1).2;have G:P.items.all (w4 M n)=a9:=(dA T o2).2;have Z:v4 M (n+1) (.ref i) (.ref j)=E3 (v4 M n) o.items P.items:=by simp only[v4,z,T]
    by_cases J:o.items.length=P.items.length;have B:its.toArray.size=d.toArray.size:=by rw[B7,B7,<-Q,<-C,J]
    have h1:=SeqAt.RcAt.lists p F B c<|f r g r' O E G;have h2:=SeqAt.RcNeAt.lists p F B c<|f r g r' O E G;rw[B7,<-Q,W _ _ J]at h1 h2;exact N (.ref e) (.ref e') Z h1 h2;have B:(its.toArray.size != d.toArray.size)=a9:=by rw[B7,B7,<-Q,<-C];simpa using J
    have h1:=SeqAt.RcAt.lists_lengths p F B c;have h2:=SeqAt.RcNeAt.lists_lengths p F B c;exact N (.ref e) (.ref e') (Z.trans<|zW J) h1 h2
noncomputable def w6:Nat:=30
def A9:F6:=λx y M Q=>(w4 M w6 x=a9/\w4 M w6 y=a9)/\Q (.bl<|v4 M w6 x y) M
def NX:F6:=λx y M Q=>(w4 M w6 x=a9/\w4 M w6 y=a9)/\Q (.bl<|!v4 M w6 x y) M
noncomputable def LH(M:v5)(x:D)(ys:List D):Bool:=ys.any λy=>v4 M w6 y x
def HP(g:Bool):F6:=λx y M Q=>match y with
 |.tup ys=>(w4 M w6 x=a9/\ys.all (w4 M w6)=a9)/\Q (.bl<|LH M x ys != g) M
 |.ref n=>∃ys,am M n ys/\(w4 M w6 x=a9/\ys.all (w4 M w6)=a9)/\Q (.bl<|LH M x ys != g) M
 |.str z=>match x with
  |.str p=>Q (.bl<|(!(QD z p 0 z.length 1).isEmpty) != g) M
  |_=>False
 |_=>False
abbrev NY:F6:=HP bt
abbrev vD:F6:=HP a9
end
section
variable{X:Cx}
theorem uL(i:Room k A):A.units+w6<j9:=by have:=i.un;unfold w6;lia
theorem od_eq(i:Room k X.A):G1 X (j7 .Eq) A9:=by rintro p s σ H f b v u R I g a ⟨x,y,M,ρ,Q,m,r,l,⟨⟨o1,o2⟩,q⟩,k⟩;exact(ma I m w6 X.A x y f b v u (uL i) r g l a o1 o2).2.1 _ _ _ _<|dD I m k q
theorem od_ne(i:Room k X.A):G1 X (j7 .NotEq) NX:=by rintro p s σ H f b v u R I g a ⟨x,y,M,ρ,Q,m,r,l,⟨⟨o1,o2⟩,q⟩,k⟩;exact(ma I m w6 X.A x y f b v u (uL i) r g l a o1 o2).2.2 _ _ _ _<|dD I m k q
theorem sd{pins:List (d5×d6)}{σ:St}{H:Hp}{s:f7}{ρ:List d5}{M:v5}(I:u6 X pins σ H s)(m:w9 X.K ρ M H):∀(n:Nat) (x y z:D) (v:V),v7 X.K ρ H x v->v7 X.K ρ H y v->w4 M n x=a9->w4 M n y=a9->v4 M n x z=v4 M n y z:=by
 have l:∀(n:Nat),(∀(x y z:D) (v:V),v7 X.K ρ H x v->v7 X.K ρ H y v->w4 M n x=a9->w4 M n y=a9->v4 M n x z=v4 M n y z) -> ∀(xs ys d:List D) (vs:List V),Reps X.K ρ H xs vs->Reps X.K ρ H ys vs->xs.all (w4 M n)=a9->ys.all (w4 M n)=a9->E3 (v4 M n) xs d=E3 (v4 M n) ys d:=by
  intro n u xs;induction xs with
  |nil=>intro ys d vs h1 h2 _ _;cases h1;cases h2;rfl
  |cons x xs hi =>
   intro ys d vs h1 h2 o1 o2;cases h1 with
   |cons J Q =>
    cases h2 with
    |cons O R =>
     cases d with
     |nil=>rfl
     |cons z d=>rw[LL,F3]at o1 o2;rw[E3,E3,u _ _ z _ J O o1.1 o2.1,hi _ d _ Q R o1.2 o2.2]
 intro n;induction n with
 |zero=>intro x y z v h1 h2 o1 o2;cases h1<;>cases h2<;>first|rfl|(cases z<;>rfl)
 |succ n u =>
  intro x y z v h1 h2 o1 o2;cases h1 with
  |non=>cases h2;rfl
  |bl b=>cases h2;rfl
  |int b=>cases h2;rfl
  |str b=>cases h2;rfl
  |ty b=>cases h2;rfl
  |@tup a vs ds t r =>
   cases h2 with
   |tup h r' =>
    have e:=I.tuple_inj t h;subst e;cases z with
    |tup d=>exact l n u _ _ d _ r r' o1 o2
    |_=>rfl
   |@ref i _ e =>
    exfalso;obtain⟨its,_,⟨o,w,A,_⟩,_⟩:=I.tuple t;have hi:i<M.length:=by rw[<-m.len];exact(A5.mp e).1
    obtain⟨p,f,_,_,_,⟨o',E,g,N,_⟩⟩:=kY I m e (z9 hi) (dA (z9 hi) o2).1;rw[w]at g;cases g;rw[A]at N;injection N with f3;exact t4 f3<|by decide
  |@ref i a e =>
   have hi:i<M.length:=by rw[<-m.len];exact(A5.mp e).1
   have q:=z9 hi;obtain⟨vs,its,t,r,T,F⟩:=kY I m e q (dA q o1).1;cases h2 with
   |tup h r'=>exfalso;obtain⟨f,_,⟨o,w,A,_⟩,_⟩:=I.tuple h;obtain⟨o',E,g,N,_⟩:=F;rw[w]at g;cases g;rw[A]at N;injection N with f3;exact t4 f3<|by decide
   |@ref j _ B =>
    have L:j<M.length:=by rw[<-m.len];exact(A5.mp B).1
    have c:=z9 L;obtain⟨p,f,h,r',P,G⟩:=kY I m B c (dA c o2).1;have C:vs=p:=I.list_inj t h;subst C;cases z with
    |ref k =>
     simp only[v4,q,c];cases M[k]? with
     |none=>rfl
     |some S=>exact l n u _ _ _ _ r r' (dA q o1).2 (dA c o2).2
    |_=>rfl
theorem zH{k:Nat}(E:Room k X.A){pins:List (d5×d6)}{σ:St}{H:Hp}{s:f7}{ρ:List d5}{M:v5}(I:u6 X pins σ H s)(m:w9 X.K ρ M H){x:D}{l:V}{v:b7}(G:v7 X.K ρ H x l)(J:aJ l v)(o1:w4 M w6 x=a9):∀{ys:List D}{ws:List V}{its:List b7},Reps X.K ρ H ys ws->aw ws its->ys.all (w4 M w6)=a9->∃e:b7->Bool,(∀u∈its,Ma X.A.in1 s u v<|e u)/\its.any e=LH M x ys:=by
 have w:X.A.in1.units+w6<j9:=by have:=E.un;show X.A.units+1+w6<j9;unfold w6;lia
 intro ys ws its i vs ok
 classical
 refine⟨λu=>if h:∃d a,v7 X.K ρ H d a/\aJ a u/\w4 M w6 d=a9 then v4 M w6 h.choose x else bt,λu C=>?_,?_⟩;obtain⟨j,L,z⟩:=List.getElem_of_mem C;have y:j<ws.length:=by rw[vs.length];exact L
 obtain⟨d,n,f⟩:=i.getV<|z9 y;obtain⟨u',b,T⟩:=ic vs<|z9 y;have:u'=u:=by rw[z9 L]at b;cases b;exact z
 subst this;have o:=E7.mp ok _<|J7 n;have h:∃d a,v7 X.K ρ H d a/\aJ a u'/\w4 M w6 d=a9:=⟨d,_,f,T,o⟩
 show Ma X.A.in1 s u' v (if h:_ then _ else _);rw[dif_pos h];obtain⟨a,g,p,c⟩:=h.choose_spec;have B:=aJ.inj p T;subst B;rw[sd I m w6 _ d x _ g f c o];exact(ma I m w6 X.A.in1 d x _ l _ v w f T G J (E7.mp ok _<|J7 n) o1).1;clear w o1;unfold LH;induction ys generalizing ws its with
 |nil=>cases i;cases vs;rfl
 |cons d ds F =>
  cases i with
  |cons r t =>
  cases vs with
  |cons q t' =>
   rename_i a N u us;rw[LL,F3]at ok;have h:∃d a,v7 X.K ρ H d a/\aJ a u/\w4 M w6 d=a9:=⟨d,_,r,q,ok.1⟩
   rw[O0,O0,F t t' ok.2,dif_pos h];obtain⟨O,g,p,c⟩:=h.choose_spec;have B:=aJ.inj p q;subst B;rw[sd I m w6 _ d x _ g r c ok.1]
theorem DF(g:Bool)(D:Room k X.A):G1 X (j7<|if g then .NotIn else .In) (HP g):=by
 rintro E s σ H K N v u R I B C ⟨x,y,M,ρ,Q,m,n,G,q,k⟩;cases G with
 |non=>exact q.elim
 |bl b=>exact q.elim
 |int b=>exact q.elim
 |ty b=>exact q.elim
 |str z =>
  cases n with
  |str p =>
   obtain⟨t,rfl⟩:=B;obtain⟨t',rfl⟩:=C;cases g with
   |false=>exact in_str<|dD I m k<|by simpa [HP]using q
   |true=>exact notIn_str<|dD I m k<|by simpa [HP]using q
  |_=>exact q.elim
 |@tup a J ys j r =>
  cases C;obtain⟨⟨o1,o2⟩,q⟩:=(show (w4 M w6 x=a9/\_)/\_ from q)
  obtain⟨its,o,l,F⟩:=I.tuple j;obtain⟨e,i,f⟩:=zH D I m n B o1 r o o2;have d:its.toArray.any e=LH M x ys:=by rw[<-f];simp
  cases g with
  |false=>exact SeqAt.in_tupleAt e l (λw c=>i w<|by simpa using c)<|by rw[d];exact dD I m k<|by simpa using q
  |true=>exact SeqAt.notIn_tupleAt e l (λw c=>i w<|by simpa using c)<|by rw[d];exact dD I m k<|by simpa using q
 |ref h =>
  cases C;obtain⟨ys,L,⟨o1,o2⟩,q⟩:=(show ∃ys,am M _ ys/\(w4 M w6 x=a9/\_)/\_ from q)
  obtain⟨J,j,r⟩:=am.seq m L h;obtain⟨its,o,l,F⟩:=I.list j;obtain⟨e,i,f⟩:=zH D I m n B o1 r o o2;have d:its.toArray.any e=LH M x ys:=by rw[<-f];simp
  cases g with
  |false=>exact SeqAt.in_listAt e l.isList (λw c=>i w<|by simpa using c)<|by rw[d];exact dD I m k<|by simpa using q
  |true=>exact SeqAt.notIn_listAt e l.isList (λw c=>i w<|by simpa using c)<|by rw[d];exact dD I m k<|by simpa using q
theorem od_in(i:Room k X.A):G1 X (j7 .In) NY:=DF bt i
theorem BM(i:Room k X.A):G1 X (j7 .NotIn) vD:=DF a9 i
end
theorem KM:e8 "len" = a7 (.builtin "len"):=by decide +kernel
theorem KP:e8 "all" = a7 (.builtin "all"):=by decide +kernel
theorem KO:e8 "any" = a7 (.builtin "any"):=by decide +kernel
theorem eH:e8 "isinstance" = a7 (.builtin "isinstance"):=by decide +kernel
theorem Az:e8 "sorted" = a7 (.builtin "sorted"):=by decide +kernel
theorem KN:e8 "int" = a7 (.type "int"):=by decide +kernel
theorem KK:e8 "str" = a7 (.type "str"):=by decide +kernel
theorem GQ:e8 "bool" = a7 (.type "bool"):=by decide +kernel
theorem GO:e8 "list" = a7 (.type "list"):=by decide +kernel
theorem Dm:e8 "tuple" = a7 (.type "tuple"):=by decide +kernel
theorem GP:e8 "dict" = a7 (.type "dict"):=by decide +kernel
noncomputable def visB(c:f8)(x:c7):Bool:=match c.names.lookup x with
 |some .local=>a9
 |some .cell=>a9
 |some .free=>a9
 |_=>bt
theorem Hj(h:visB sc x=a9):NA sc x:=by unfold visB at h;unfold NA;split at h;rename_i e;exact .inl e;rename_i e;exact .inr<|.inl e;rename_i e;exact .inr<|.inr e;cases h
noncomputable def Fu(c:f8)(x:c7):Bool:=match c.names.lookup x with
 |some .local=>a9
 |some .cell=>a9
 |_=>bt
theorem vO(h:Fu sc x=a9):Ni sc x:=by unfold Fu at h;unfold Ni;split at h;rename_i e;exact .inl e;rename_i e;exact .inr e;cases h
structure HE(X:Cx)(e:g7)(t:x9):Prop where
 ok:DE X e t
structure HT(X:Cx)(e:g7)(t:J1):Prop where
 ok:DT X e t
structure HW(X:Cx)(e:g7)(t:J1):Prop where
 ok:DW X e t
structure HA(X:Cx)(es:List g7)(t:E8):Prop where
 ok:DA X es t
structure HS(X:Cx)(e:i6)(t:u9):Prop where
 ok:DS X e t
structure HB(X:Cx)(e:List i6)(t:u9):Prop where
 ok:Mu X e t
structure HG(X:Cx)(e:g7)(t:K7):Prop where
 ok:DG X e t
structure HI(X:Cx)(tg e:g7)(t:LJ):Prop where
 ok:DI X tg e t
structure N1(X:Cx)(e:List g7)(t:J1):Prop where
 ok:ME X e (lowT X.K t)
structure HO'(X:Cx)(e:Option g7)(t:ND):Prop where
 ok:PO X e (IU X.K t)
structure G4(X:Cx)(f:b7->b7->Sem b7)(r:F6):Prop where
 ok:G1 X f r
structure RB(X:Cx)(f:b7->Sem b7)(r:OQ):Prop where
 ok:QY X f r
structure HC(X:Cx)(f:b7)(r:E1):Prop where
 ok:iO X f r
structure RC(X:Cx)(name:c7)(r:c7->E1):Prop where
 ok:∃id,Slot "str" name id/\m8 (.builtin id)=pure (.type "method_descriptor")/\Ln X id (Ft X.K r)
structure PR(X:Cx)(name:c7)(r:Nat->E1):Prop where
 ok:∃id,Slot "list" name id/\m8 (.builtin id)=pure (.type "method_descriptor")/\Ln X id (lQ X.K r)
section
variable{X:Cx}{e a b c o:g7}{es aL:List g7}{te ta tb tc to:x9}{t:E8}{pos p:i3}{x:c7}{tA tB:J1}{k:Nat}
theorem k_var(h:X.N[i]?=a7 x:=by kernel_rfl)(c:visB X.env.scope x=a9:=by kernel_rfl)(a:(x==("__debug__":c7))=bt:=by kernel_rfl)(d:(x==("__classdict__":c7))=bt:=by kernel_rfl):HE X (.Name x pos) (ac i):=⟨d_var h (Hj c) a d⟩
theorem k_int:HE X (.Constant (.int i) j pos) (dC<|.int i):=⟨d_int⟩
theorem k_bl:HE X (.Constant (.bool i) j pos) (dC<|.bl i):=⟨d_bl⟩
theorem k_non:HE X (.Constant .none j pos) (dC .non):=⟨d_non⟩
theorem k_str:HE X (.Constant (.str i) j pos) (dC<|.str i):=⟨d_str⟩
theorem Jp(m:X.mg x=a8)(c:e8 x=a7 (.type T))(R:X.env.kindOf x=a7 .globalImplicit:=by kernel_rfl)(f:(x==("__name__":c7))=bt:=by kernel_rfl)(d:(x==("__debug__":c7))=bt:=by kernel_rfl):HE X (.Name x pos) (dC<|.ty T):=⟨Kw m c R (by simpa using f) d⟩
theorem k_op(B:G4 X (j6 op) r)(f:HE X a ta)(d:HE X b tb):HE X (.BinOp a op b pos) (u5 r ta tb):=⟨d_op B.ok f.ok d.ok⟩
theorem k_un(B:RB X (unaryOp op) r)(f:HE X a ta):HE X (.UnaryOp op a pos) (PF r ta):=⟨d_un B.ok f.ok⟩
theorem k_cmp(B:G4 X (j7 op) r)(f:HE X a ta)(d:HE X b tb)(m:j8 op b=bt:=by kernel_rfl):HE X (.Compare a [op] [b] pos) (u5 r ta tb):=⟨d_cmp B.ok f.ok d.ok m⟩
theorem Jc(B:G4 X (j7 op) r)(f:HE X a ta)(d:HE X b tb)(m:j8 op b=bt:=by kernel_rfl):HT X (.Compare a [op] [b] pos) (au<|u5 r ta tb):=⟨Kh B.ok f.ok d.ok m⟩
theorem FU(B:G4 X (j7 op) r)(h:G4 X (j7 op') r')(f:HE X a ta)(d:HE X b tb)(e:HE X c tc)(m:lastMarks [op,op'] [b,c]=bt:=by kernel_rfl):HE X (.Compare a [op,op'] [b,c] pos) (sw r r' ta tb tc):=⟨GG B.ok h.ok f.ok d.ok e.ok m⟩
theorem Ja(h:HE X e te)(i:∀whole,isTrue e X.env whole=(do let v <-whole;standAt e.pos;i7 [v] (truthy v)):=by intro _;kernel_rfl):HT X e (au te):=⟨Ke h.ok i⟩
theorem FD(f:HT X a tA):HW X (.BoolOp .And [a] pos) tA:=⟨Go f.ok⟩
theorem IY(f:HT X a tA):HW X (.BoolOp .Or [a] pos) tA:=⟨Kc f.ok⟩
theorem DO(f:HT X a tA)(d:HW X (.BoolOp .And (b::aL) pos) tB):HW X (.BoolOp .And (a::b::aL) pos) (nP tA tB):=⟨Kd f.ok d.ok⟩
theorem IZ(f:HT X a tA)(d:HW X (.BoolOp .Or (b::aL) pos) tB):HW X (.BoolOp .Or (a::b::aL) pos) (MD tA tB):=⟨dw_or f.ok d.ok⟩
theorem kw_t(h:HW X e tA):HT X e tA:=⟨dw_t h.ok⟩
theorem Jb(f:HT X a tA):HT X (.UnaryOp .Not a pos) (Da tA):=⟨Kg f.ok⟩
theorem k_one{op}(h:HE X a ta):HE X (.BoolOp op [a] pos) ta:=⟨d_one h.ok⟩
theorem k_and(f:HE X a ta)(d:HE X (.BoolOp .And (b::aL) pos) tb):HE X (.BoolOp .And (a::b::aL) pos) (eR ta tb):=⟨d_and f.ok d.ok⟩
theorem k_or(f:HE X a ta)(d:HE X (.BoolOp .Or (b::aL) pos) tb):HE X (.BoolOp .Or (a::b::aL) pos) (dOrV ta tb):=⟨d_or f.ok d.ok⟩
theorem k_not(f:HE X a ta):HE X (.UnaryOp .Not a pos) (Ak ta):=⟨d_not f.ok⟩
theorem Jo:HA X [] ah:=⟨Kv⟩
theorem FP(f:HE X e te)(i:HA X es t)(hs:i5 (e::es) X.env=(bt,eval e X.env)::i5 es X.env:=by kernel_rfl):HA X (e::es) (aa te t):=⟨GE f.ok i.ok hs⟩
theorem k_tup{x1}(h:HA X es t):HE X (.Tuple es x1 pos) (eP t):=⟨d_tup h.ok⟩
theorem k_lst(h:HA X es t):HE X (.List es pos) (gW t):=⟨d_lst h.ok⟩
theorem FV{id:String}{r:E1}(c:HC X (.builtin id) r)(d:X.mg x=a8)(v:e8 x=a7 (.builtin id))(f:HA X (e::es) t)(R:X.env.kindOf x=a7 .globalImplicit:=by kernel_rfl)(n:(x==("__name__":c7))=bt:=by kernel_rfl)(b:(x==("__debug__":c7))=bt:=by kernel_rfl)(i:i5 (e::es) X.env=(bt,eval e X.env)::i5 es X.env:=by kernel_rfl) (l:(i4 pos<|i5 es X.env).any (·.1)=bt:=by kernel_rfl):HE X (.Call (.Name x p) (e::es) [] pos) (v8 r t):=⟨GH c.ok d v f.ok R (by simpa using n) b i l⟩
theorem Cl(c:HC X (.type T) r)(d:X.mg x=a8)(v:e8 x=a7 (.type T))(f:HA X (e::es) t)(R:X.env.kindOf x=a7 .globalImplicit:=by kernel_rfl)(n:(x==("__name__":c7))=bt:=by kernel_rfl)(b:(x==("__debug__":c7))=bt:=by kernel_rfl)(i:i5 (e::es) X.env=(bt,eval e X.env)::i5 es X.env:=by kernel_rfl) (l:(i4 pos<|i5 es X.env).any (·.1)=bt:=by kernel_rfl):HE X (.Call (.Name x p) (e::es) [] pos) (v8 r t):=⟨CZ c.ok d v f.ok R (by simpa using n) b i l⟩
theorem k_cal(C:x5 X.prog X.w X.K X.mg X.base j x ps P)(r:Room k X.A)(f:HA X (e::es) t)(hj:Nat.ble j k=a9:=by kernel_rfl)(R:X.env.kindOf x=a7 .globalImplicit:=by kernel_rfl) (b:(x==("__debug__":c7))=bt:=by kernel_rfl) (i:i5 (e::es) X.env=(bt,eval e X.env)::i5 es X.env:=by kernel_rfl) (l:(i4 pos<|i5 es X.env).any (·.1)=bt:=by kernel_rfl):HE X (.Call (.Name x p) (e::es) [] pos) (v8 P t):=⟨d_cal C r f.ok (Qx hj) R b i l⟩
theorem k_ix(f:HE X a ta)(d:HE X b tb)(hs:uD b:=by intro _ _;kernel_rfl):HE X (.Subscript a b pos) (u5 v9 ta tb):=⟨d_ix f.ok d.ok hs⟩
theorem FL:HO' X a8 me:=⟨Gx⟩
theorem FK(h:HE X e te):HO' X (a7 e) (ux te):=⟨Gw h.ok⟩
theorem FR{lo hi:Option g7}{t h:ND}{j:i3}(i:HE X e te)(g:HO' X lo t)(u:HO' X hi h):HE X (.Subscript e (.Slice lo hi a8 j) pos) (N0 te t h):=⟨GF i.ok g.ok u.ok⟩
variable{name:c7}{apos cpos:i3}
theorem k_ms(d:RC X name r)(B:HE X o to)(f:HA X (e::es) t)(h:m9 o name X.env (eval o X.env)=eval o X.env:=by kernel_rfl)(w:((i4 cpos<|i5 (e::es) X.env).all (λx=>!x.1)&&(n5 cpos<|n6 [] X.env).all (λx=>x.1.isSome) && decide ((e::es).length+([]:List l8).length+(if ([]:List l8).isEmpty then 0 else 1)<30))=a9:=by kernel_rfl)(a:(apos.endLine==cpos.line)=a9:=by kernel_rfl) (hs:i5 (e::es) X.env=(bt,eval e X.env)::i5 es X.env:=by kernel_rfl) (n:(i4 cpos<|i5 es X.env).any (·.1)=bt:=by kernel_rfl):HE X (.Call (.Attribute o name apos) (e::es) [] cpos) (PJ r to t):=let ⟨_,h1,h2,h3⟩:=d.ok;⟨d_ms h1 h2 h3 B.ok f.ok h w a hs n⟩
theorem k_ml(d:PR X name r)(B:HE X o to)(f:HA X (e::es) t)(h:m9 o name X.env (eval o X.env)=eval o X.env:=by kernel_rfl)(w:((i4 cpos<|i5 (e::es) X.env).all (λx=>!x.1)&&(n5 cpos<|n6 [] X.env).all (λx=>x.1.isSome) && decide ((e::es).length+([]:List l8).length+(if ([]:List l8).isEmpty then 0 else 1)<30))=a9:=by kernel_rfl)(a:(apos.endLine==cpos.line)=a9:=by kernel_rfl) (hs:i5 (e::es) X.env=(bt,eval e X.env)::i5 es X.env:=by kernel_rfl) (n:(i4 cpos<|i5 es X.env).any (·.1)=bt:=by kernel_rfl):HE X (.Call (.Attribute o name apos) (e::es) [] cpos) (Mr r to t):=let ⟨_,h1,h2,h3⟩:=d.ok;⟨d_ml h1 h2 h3 B.ok f.ok h w a hs n⟩
variable{st:i6}{sts:List i6}{ts us:u9}{aS bS:List i6}
theorem Je:HB X [] aI:=⟨Kl⟩
theorem Jd(h:HS X st ts):HB X [st] ts:=⟨Kk h.ok⟩
theorem FJ(h1:HS X st ts)(h2:HB X sts us):HB X (st::sts) (aB ts us):=⟨Gv h1.ok h2.ok⟩
theorem zv(i:HE X e te)(hs:i8 e a8 pos.line X.env=pure bt:=by kernel_rfl):HS X (.Expr e pos) (iM te):=⟨Gu i.ok hs⟩
theorem DV(i:HE X e te):HS X (.Return (a7 e) pos) (bd te):=⟨Kj i.ok⟩
theorem Jf(h:HT X c tA)(f:HB X aS ts)(d:HB X bS us):HS X (.If c aS bS pos) (B6 tA ts us):=⟨ds_if h.ok f.ok d.ok⟩
theorem DU(h:X.N.Nodup)(a:HE X e te)(hi:X.N[i]?=a7 x:=by kernel_rfl)(b:Fu X.env.scope x=a9:=by kernel_rfl)(hs:i8 e (a7<|.Name x pos') pos.line X.env=pure bt:=by kernel_rfl)(f:X.fn x=a9:=by kernel_rfl):HS X (.Assign [.Name x pos'] e pos) (bg te i):=⟨Ki h a.ok hi (vO b) hs<|.inl f⟩
theorem FO(h:X.N.Nodup)(hi:X.N[i]?=a7 x:=by kernel_rfl)(a:Fu X.env.scope x=a9:=by kernel_rfl)(f:X.fn x=a9:=by kernel_rfl):HG X (.Name x pos) (af i):=⟨uv h hi (vO a)<|.inl f⟩
theorem Jk(h:X.N.Nodup)(hi:X.N[i]?=a7 x:=by kernel_rfl)(f:X.env.scope.names.lookup x=a7 .local:=by kernel_rfl):HG X (.Name x pos) (af i):=⟨uv h hi (.inl f)<|.inr f⟩
variable{tg iter:g7}{di:LJ}{g:K7}
theorem Jh(h:HE X e te):HI X tg e (bZ te):=⟨Kq h.ok⟩
theorem DY{a:List i6}{b:u9}(hi:HI X tg iter di)(R:HG X tg g)(d:HB X a b)(hp:PassesOwn (g9 X.prog X.w) X.A X.env X.xe:=by exact PassesOwn.never)(f:X.calm=a9:=by kernel_rfl)(hs:∀x,j5 iter X.env x=pure x:=by intro _;kernel_rfl):HS X (.For tg iter a [] pos) (jk di g b):=⟨Km hi.ok R.ok d.ok hp f hs⟩
theorem FH:N1 X [] pD:=⟨Gq⟩
theorem FG(h:HT X c tA):N1 X [c] tA:=⟨Gp h.ok⟩
theorem k_lc(hi:HI X tg iter di)(R:∀cl s0 H0 ex,HG (C6 X N' scope cl s0 H0 ex) tg g) (D:∀cl s0 H0 ex,N1 (C6 X N' scope cl s0 H0 ex) ifs tt) (i:∀cl s0 H0 ex,HE (C6 X N' scope cl s0 H0 ex) elt te) (B:nS X.env.scope.names X.N N' nt js scope=a9:=by kernel_rfl) (f:X.calm=a9:=by kernel_rfl)(hs:∀x,j5 iter X.env x=pure x:=by intro _;kernel_rfl):HE X (.ListComp elt [⟨tg,iter,ifs,0⟩] scope pos) (Lg nt js di g tt te):=⟨d_lc (BlkSc.chk B) hi.ok (λcl s0 H0 ex=>(R cl s0 H0 ex).ok) (λcl s0 H0 ex=>(D cl s0 H0 ex).ok) (λcl s0 H0 ex=>(i cl s0 H0 ex).ok) f hs⟩
theorem zx(d:X.mg "range" = a8)(f:HA X [a] t)(R:X.env.kindOf "range" = a7 .globalImplicit:=by kernel_rfl)(hs:i5 [a] X.env=[(bt,eval a X.env)]:=by kernel_rfl):HI X tg (.Call (.Name "range" p) [a] [] pos) (bz t):=⟨Ac d f.ok R hs⟩
theorem JG:G4 X (j6 .Sub) GW:=⟨IH⟩
theorem JJ:G4 X (j6 .Mult) jM:=⟨Fi⟩
theorem Gd:G4 X (j6 .FloorDiv) aM:=⟨Fj⟩
theorem JK:G4 X (j6 .Mod) bY:=⟨IK⟩
theorem ho_lt:G4 X (j7 .Lt) Mq:=⟨od_lt⟩
theorem ho_le:G4 X (j7 .LtE) OB:=⟨od_le⟩
theorem ho_gt:G4 X (j7 .Gt) MW:=⟨od_gt⟩
theorem ho_ge:G4 X (j7 .GtE) OC:=⟨od_ge⟩
theorem ho_is:G4 X (j7 .Is) MV:=⟨od_is⟩
theorem ho_eq(i:Room k X.A):G4 X (j7 .Eq) A9:=⟨od_eq i⟩
theorem ho_ne(i:Room k X.A):G4 X (j7 .NotEq) NX:=⟨od_ne i⟩
theorem ho_in(i:Room k X.A):G4 X (j7 .In) NY:=⟨od_in i⟩
theorem Cs(i:Room k X.A):G4 X (j7 .NotIn) vD:=⟨BM i⟩
theorem JF:RB X (unaryOp .USub) HN:=⟨Hl⟩
theorem JO:HC X (.builtin "len") jN:=⟨KG⟩
theorem JR(f:X.calm=a9:=by kernel_rfl):HC X (.builtin "all") GX:=⟨KJ f⟩
theorem JQ(f:X.calm=a9:=by kernel_rfl):HC X (.builtin "any") HQ:=⟨KI f⟩
theorem JP:HC X (.builtin "isinstance") qQ:=⟨KH⟩
theorem zL:PR X "append" cD:=⟨_,PySem.F.slot_list_append,PySem.F.type_list_append,wZ⟩
end
theorem x5.byH{P:c9}{w:c8}{K:v6}{mg:c7->Option b7}{base:d7}{x:c7}{st:i6}{N ps:List c7}{k:Nat}{c:A2}(F:cz K mg x st ps)(e:FnScope N ps (aq st))(B:∀ds M R,c ds M R->ds.length=ps.length) {t:u9}(r:∀(f:d5) (cdv:b7) (A:f6) (outer:List Env) (s:f7) (H:Hp) (E:XK),Room k (A.deeper<|b9 x (aq st) s.heap.objs.size f cdv)->HB (ph K0 P w K mg base N x (aq st) f cdv A outer s H E).nox (bx st) t)(p:∀ds M R,c ds M R->t ⟨λ_ M'=>aO M R .non M',aO M R,λ_ _=>False,λ_ _=>False⟩ (ci N ds) M):x5 P w K mg base (k+1) x ps c:=x5.of F e B (λf cdv A outer s H E i=>(r f cdv A outer s H E i).ok) p
theorem CF{P:c9}{w:c8}{K:v6}{mg:c7->Option b7}{base:d7}{x:c7}{st:i6}{N ps:List c7}{k:Nat}{c:A2}{f:d5}{d:k7}(F:Me K x x st f d)(e:FnScope N ps (aq st))(B:∀ds M R,c ds M R->ds.length=ps.length) {t:u9}(r:∀(f:d5) (cdv:b7) (A:f6) (outer:List Env) (s:f7) (H:Hp) (E:XK),Room k (A.deeper<|b9 x (aq st) s.heap.objs.size f cdv)->HB (ph K0 P w K mg base N x (aq st) f cdv A outer s H E).nox (bx st) t)(p:∀ds M R,c ds M R->t ⟨λ_ M'=>aO M R .non M',aO M R,λ_ _=>False,λ_ _=>False⟩ (ci N ds) M):FnOk P w K mg base K0 (k+1) f d ps (LG K c):=Gk F e B (λf cdv A outer s H E i=>(r f cdv A outer s H E i).ok) p
section
variable{ok:v5->Prop}{g:K7}{tb:u9}{E:DEnds}{k0:v5}
theorem eG(I:List D->SD->v5->Prop)(h0:∀S M,I [] S M->ok M/\E.nx S M)(h1:∀x xs S M,I (x::xs) S M->∀L:SD->v5->Prop,(∀S' M',I xs S' M'->L S' M')->ok M/\g x S M λS2 M2=>tb ⟨A7 k0 L,E.rt,E.nx,A7 k0 L⟩ S2 M2):∀xs S M,I xs S M->sv ok g tb E k0 xs S M
 | [],S,M,h=>h0 S M h
 |x::xs,S,M,h=>h1 x xs S M h _<|eG I h0 h1 xs
theorem aP(I:Nat->SD->v5->Prop)(a:∀S M,I xs.length S M->ok M/\E.nx S M)(h1:∀i x S M,xs[i]?=a7 x->I i S M->∀L:SD->v5->Prop,(∀S' M',I (i+1) S' M'->L S' M')->ok M/\g x S M λS2 M2=>tb ⟨A7 k0 L,E.rt,E.nx,A7 k0 L⟩ S2 M2)(h:I 0 S M):sv ok g tb E k0 xs S M:=by
 refine eG (λys S M=>∃i,xs.drop i=ys/\i+ys.length=xs.length/\I i S M) ?_ ?_ xs S M ⟨0,rfl,by simp,h⟩;rintro S M ⟨i,_,e,q⟩;have:i=xs.length:=by simpa using e
 subst this;exact a S M q;rintro x ys S M ⟨i,e,l,q⟩ L b;have c:xs[i]?=a7 x:=by
  have:(xs.drop i)[0]?=a7 x:=by rw[e];rfl
  simpa using this
 refine h1 i x S M c q L λS' M' j=>b S' M' ⟨i+1,?_,by simp at l;lia,j⟩;rw[<-List.drop_drop,e];rfl
theorem A7.now(h:P S M):A7 k0 P S M:=.inl h
theorem bF{lo:Int}{n i:Nat}{x:D}:(fe lo n)[i]?=a7 x↔i<n/\x=.int (lo+(i:Int)):=by unfold fe;rw[D8];by_cases h:i<n;simp[h,eq_comm];simp[h]
theorem aY{lo:Int}{n:Nat}:(fe lo n).length=n:=by simp[fe]
end
theorem bJ(p:D->Bool)(f:D->D)(I:SD->Prop)(hok:ok M):∀(xs acc:List D) (S:SD),(∀x∈xs,∀S,I S->∃S',I S'/\∀(Y:D->SD->v5->Prop) (Z:SD->v5->Prop),(if p x=a9 then Y (f x) S' M else Z S' M) -> g x S M λS2 M2=>tt S2 M2 λb M3=>if b=a9 then te S2 M3 λy M4=>Y y S2 M4 else Z S2 M3) ->I S->acc.length+xs.length<=sizeLine->Q (.ref M.length) (M++[.lst<|acc++(xs.filter p).map f])->mh ok g tt te Q xs acc S M
 | [],acc,S,_,_,_,q=>⟨hok,by simpa using q⟩
 |x::xs,acc,S,step,hS,hl,q=>by obtain⟨S',hS',k⟩:=step x Fn S hS;refine⟨hok,k (λy S2 M4=>acc.length<sizeLine/\mh ok g tt te Q xs (acc++[y]) S2 M4) (λS2 M3=>mh ok g tt te Q xs acc S2 M3) ?_⟩;have step':=λy hy=>step y<|D0 _ hy;rw[E5]at hl;by_cases hp:p x=a9;rw[p9 hp];refine⟨by lia,bJ p f I hok xs _ S' step' hS' (by rw[D5,Ll];lia) ?_⟩;rw[List.filter_cons_of_pos hp,C9]at q;rw[Ls];exact q;rw[r9 hp];refine bJ p f I hok xs acc S' step' hS' (by lia) ?_;rw[List.filter_cons_of_neg hp]at q;exact q
theorem bV(f:D->D)(I:SD->Prop)(c:ok M)(xs acc:List D) (S:SD) (K:∀x∈xs,∀S,I S->∃S',I S'/\∀(Y:D->SD->v5->Prop),Y (f x) S' M->g x S M λS2 M2=>te S2 M2 λy M4=>Y y S2 M4)(a:I S) (l:acc.length+xs.length<=sizeLine) (q:Q (.ref M.length) (M++[.lst<|acc++xs.map f])):mh ok g pD te Q xs acc S M:=by refine bJ (λ_=>a9) f I c xs acc S (λx d S a=>?_) a l (by rw[Q9.mpr λ_ _=>rfl];exact q);obtain⟨S',b,k⟩:=K x d S a;refine⟨S',b,λY Z h=>?_⟩;rw[p9 rfl]at h;have:=k Y h;simp only[pD,t8];exact this
theorem ak:(M++[mo])[M.length]?=a7 mo:=by simp
theorem ap:am (M++[.lst xs]) M.length xs:=.inl ak
theorem am.more(h:am M n xs)(L:v5):am (M++L) n xs:=by
 have l:∀{mo:MO},M[n]?=a7 mo->(M++L)[n]?=a7 mo:=λe=>by rw[Le (A5.mp e).1];exact e
 rcases h with h|h|h;exact .inl<|l h;exact .inr<|.inl<|l h;exact .inr<|.inr<|l h
theorem am.ty(h:am M n xs):E2 M (.ref n) = "list":=by
 show (match M[n]? with|some mo=>if mo.isL=a9 then "list" else "?" |none=>"?") = "list"
 rcases h with h|h|h<;>(rw[h];rfl)
theorem aO.keep(h:R d M)(b:E4 M.length d)(p:M <+: M'):aO M R d M':=.inr<|.inl ⟨M,.refl,b,p,h⟩
theorem aO.now(h:R d M):aO M R d M:=.inl h
theorem aO.bl(h:R (.bl b) M)(p:M <+: M'):aO M R (.bl b) M':=.keep h (.bl b) p
theorem aO.str(h:R (.str b) M)(p:M <+: M'):aO M R (.str b) M':=.keep h (.str b) p
theorem bA:M <+: M++[mo]:=Lu _ _
theorem Et{a b:c7}(h:a.cps.toList=b.cps.toList):a=b:=by cases a;cases b;simp only[Array.toList_inj]at h;simpa using h
theorem dW{a:c7}:a.length=a.cps.toList.length:=by show a.cps.size=_;simp
theorem pp{a b:c7}:(a++b).cps.toList=a.cps.toList++b.cps.toList:=by show (a.cps++b.cps).toList=_;simp
theorem cU{a b:c7}:(a++b).length=a.length+b.length:=by rw[dW,dW,dW,pp,D5]
theorem gH:(⟨#[c]⟩:c7).length=1:=rfl
theorem ao(h:n<=1000):n<=sizeLine:=OW<|ay h
theorem AA{α:Type}{xs:List α}{i:Int}(a:0<=i)(h1:i<xs.length):∃(j:Nat) (hj:j<xs.length),atI xs i=a7 xs[j]/\(j:Int)=i:=by
 have hj:i.toNat<xs.length:=by lia
 refine⟨i.toNat,hj,?_,by lia⟩;have e:i=((i.toNat:Nat):Int):=by lia
 have q:atI xs ((i.toNat:Nat):Int)=a7 xs[i.toNat]:=av<|z9 hj;rw[<-e]at q;exact q
section
variable{M:v5}
theorem pK(h:E2 M (.ref n)∈pL):E2 M (.ref n) = "list":=by
 unfold E2 at h ⊢
 try dsimp only at h ⊢
 cases e:M[n]? with
 |some m =>
  rw[e]at h;cases q:m.isL with
  |true=>exact p9 q
  |false=>simp only[q,A8,t7]at h;exact t4 h<|by decide
 |none=>rw[e]at h;exact t4 h<|by decide
end
section
variable{M:v5}
theorem am.get(h:am M n xs):∃mo,M[n]?=a7 mo/\mo.items=xs/\mo.isL=a9:=by rcases h with h|h|h<;>exact⟨_,h,rfl,rfl⟩
theorem vW(h1:am M i xs)(h2:am M j ys):v4 M (n+1) (.ref i) (.ref j)=E3 (v4 M n) xs ys:=by obtain⟨a,f,rfl,h⟩:=h1.get;obtain⟨b,d,rfl,c⟩:=h2.get;simp only[v4,f,d]
theorem oM(h1:am M i xs)(h:∀x∈xs,w4 M n x=a9):w4 M (n+1) (.ref i)=a9:=by obtain⟨a,f,rfl,b⟩:=h1.get;simp only[w4,f,b,NI];exact E7.mpr h
theorem Fg(h:∀x∈xs,w4 M n x=a9):w4 M (n+1) (.tup xs)=a9:=by simp only[w4];exact E7.mpr h
theorem ag:w4 M n (.str x)=a9:=by cases n<;>rfl
theorem aE:w4 M n (.int x)=a9:=by cases n<;>rfl
theorem DC:w4 M n (.bl x)=a9:=by cases n<;>rfl
theorem yS:w4 M n .non=a9:=by cases n<;>rfl
theorem Gm:E3 f xs []=xs.isEmpty:=by cases xs<;>rfl
theorem gP:v4 M n (.int a) (.int b)=(a==b):=by cases n<;>rfl
theorem aC:v4 M n (.str a) (.str b)=(a==b):=by cases n<;>rfl
end
section
variable{X:Cx}{pos:i3}
def eE:Ei:=λds S M Q=>match ds with
 | []=>Q S M
 |_=>False
def aA(t:K7)(u:Ei):Ei:=λds S M Q=>match ds with
 |d::r=>t d S M λa M'=>u r a M' Q
 | []=>False
def eD(n:Nat)(t:Ei):K7:=λd S M Q=>match d with
 |.tup ds=>ds.length=n/\t ds S M Q
 |_=>False
theorem GA:OR X [] eE:=by
 rintro p s σ H vs us R I r ⟨ds,S,M,ρ,Q,m,c,d,q,k⟩;cases d with
 |nil=>exact ER p s σ H _ us R I r ⟨rfl,k σ H ⟨S,M,ρ,m,.refl,c,q⟩⟩
 |cons _ _=>exact q.elim
theorem CV(h1:DG X e t)(h2:OR X es u)(hs:(j0 (e::es) X.env).map (·.2)=i9 e X.env::(j0 es X.env).map (·.2):=by rfl):OR X (e::es) (aA t u):=by
 rintro p s σ H vs us R I r ⟨ds,S,M,ρ,Q,m,j,d,q,k⟩;cases d with
 |nil=>exact q.elim
 |cons h d=>refine BB h1 h2 hs p s σ H _ us R I r ⟨_,_,rfl,_,S,M,ρ,_,m,j,h,q,?_⟩;rintro l H1 ⟨S1,f,c,i,g1,a,g⟩;exact⟨_,S1,f,c,Q,i,a,d.grow g1,g,λb H' w=>k b H'<|SQ.trans g1 w⟩
theorem Kr(h:OR X es t)(f:X.calm=a9:=by rfl)(b:(j0 es X.env).length=n:=by rfl) (c:(j0 es X.env).findIdx? (·.1)=a8:=by rfl):DG X (.Tuple es j pos) (eD n t):=by
 rintro p s σ H v u R I r ⟨d,S,M,ρ,Q,m,i,g,q,k⟩;cases g with
 |tup e a=>exact Ig f h b c p s σ H _ u R I r ⟨_,_,rfl,e,by rw[<-a.length];exact q.1,_,S,M,ρ,Q,m,i,a,q.2,k⟩
 |_=>exact q.elim
def KC(te:x9)(g:K7):u9:=λE S M=>te S M λd a=>g d S a E.nx
theorem Kn(i:DE X e te)(R:DG X tg g)(hs:swapsWithSole [tg] e pos.line X.env=pure bt:=by rfl)(h:swappedStores [tg] e X.env=pure a8:=by rfl)(h1:(j0 [tg] X.env).map (·.2)=[i9 tg X.env]:=by rfl):DS X (.Assign [tg] e pos) (KC te g):=by refine PS.imp (Ie i R hs h h1) ?_;rintro E σ H ⟨S,M,ρ,F,s,r,q,k⟩;refine⟨S,M,ρ,_,s,r,q,?_⟩;rintro v H1 ⟨d,b,c,l,g1,j,f⟩;exact⟨d,S,b,c,_,l,r.grow g1,j,f,λa H' w=>k.nx a H'<|SQ.trans g1 w⟩
def qSet:D->D->D->v5->(v5->Prop)->Prop:=λo i v M Q=>match o,i with
 |.ref n,.int k=>∃xs j,M[n]?=a7 (.lst xs)/\L7 xs.length k=a7 j/\Q (M.set n<|.lst<|xs.set j v)
 |_,_=>False
theorem Reps.set{K:v6}{ρ:List d5}{H:Hp}{d:D}{v:V}(r:v7 K ρ H d v):∀{ds:List D}{vs:List V} (i:Nat),Reps K ρ H ds vs->Reps K ρ H (ds.set i d) (vs.set i v)
 |_,_,_,.nil=>.nil
 |_,_,0,.cons _ t=>.cons r t
 |_,_,i+1,.cons q t=>.cons q<|Reps.set r i t
def Ae(d c:x9):K7:=λv S M Q=>d S M λo a=>c S a λi M2=>qSet o i v M2 λb=>Q S b
theorem Ks(D:DE X o to)(hi:DE X i ti)(C:∀v,i9 (.Subscript o i pos) X.env v=(do
   let ov <-i7 [v] (eval o X.env)
   let iv <-i7 [v,ov] (eval i X.env)
   standAt pos
   i7 [v,ov,iv] (setItem ov iv v)
   release [v,ov,iv] []):=by intro _;rfl):DG X (.Subscript o i pos) (Ae to ti):=by
 rintro p s σ H v u R I r ⟨d,S,M,ρ,Q,O,f,K,q,k⟩;refine Ih D hi Bo C p s σ H v u R I r ⟨S,M,ρ,_,O,f,q,?_⟩;rintro V H1 ⟨o',B,h,N,g1,G,E⟩;refine⟨S,B,h,_,N,f.grow g1,E,?_⟩;rintro U T ⟨i',M2,l,z,b,J,g⟩;have c:=G.grow b;cases c with
 |@ref n a t =>
  cases J with
  |int j =>
   obtain⟨xs,x,e,L,F⟩:=(show ∃xs w,M2[n]?=a7 (.lst xs)/\L7 xs.length j=a7 w/\Q S (M2.set n<|.lst<|xs.set w d)from g)
   obtain⟨vs,m,y⟩:=z.obj n a _ t e;obtain⟨P,A⟩:=z.write t e m<|Reps.set (K.grow<|g1.trans b) x y;exact⟨a,vs,j,x,rfl,rfl,m,by rw[<-y.length];exact L,k σ _ ⟨S,_,l,P,(g1.trans b).trans A,f.grow<|(g1.trans b).trans A,F⟩⟩
  |_=>exact g.elim
 |_=>exact g.elim
def wP:E1:=λds M Q=>match ds with
 | [.ref n]=>∃xs,am M n xs/\Q (.ref M.length) (M++[.lst xs])
 | [.tup xs]=>Q (.ref M.length)<|M++[.lst xs]
 |_=>False
theorem GJ:iO X (.type "list") wP:=by
 refine dH.imp sC ?_;rintro vs H R ⟨ds,M,ρ,Q,m,a,q,k⟩;unfold wP at q;split at q;obtain⟨xs,L,q⟩:=q
 first|have z:=Reps.inv_cons a|have z:=aw.inv_cons a
 clear a;obtain⟨_,_,rfl,b,a⟩:=z;cases a;obtain⟨_,rfl,e⟩:=v7.inv_ref b;obtain⟨s,h,r⟩:=am.seq m L e;exact⟨_,s,rfl,.inl h,λl g=>k _ _<|VQ.laidL m .refl r g q⟩
 first|have z:=Reps.inv_cons a|have z:=aw.inv_cons a
 clear a;obtain⟨_,_,rfl,b,a⟩:=z;cases a;cases b with
 |tup h r=>exact⟨_,_,rfl,.inr h,λl g=>k _ _<|VQ.laidL m .refl r g q⟩
 exact q.elim
def gh:E1:=λds M Q=>match ds with
 | [.ref n]=>∃xs,am M n xs/\Q (.tup xs) M
 | [.tup xs]=>Q (.tup xs) M
 |_=>False
theorem Df:iO X (.type "tuple") gh:=by
 refine dH.imp pj ?_;rintro vs H R ⟨ds,M,ρ,Q,m,a,q,k⟩;unfold gh at q;split at q;obtain⟨xs,L,q⟩:=q
 first|have z:=Reps.inv_cons a|have z:=aw.inv_cons a
 clear a;obtain⟨_,_,rfl,b,a⟩:=z;cases a;obtain⟨_,rfl,e⟩:=v7.inv_ref b;obtain⟨s,h,r⟩:=am.seq m L e;exact⟨_,s,rfl,.inl ⟨h,λl g=>k _ _<|VQ.laidT m .refl r g q⟩⟩
 first|have z:=Reps.inv_cons a|have z:=aw.inv_cons a
 clear a;obtain⟨_,_,rfl,b,a⟩:=z;cases a;cases b with
 |tup h r=>exact⟨_,_,rfl,.inr ⟨h,k _ H<|VQ.now m (.tup h r) q⟩⟩
 exact q.elim
theorem BG:D7 X (j6 .Add) (λx y H Q=>∃a b ys,x=.ref a/\y=.ref b/\B9 X.K H a []/\B9 X.K H b ys/\Q (.ref b) H):=by intro r s σ H x y v u Q I G J h;obtain⟨a,b,ys,rfl,rfl,z,A,q⟩:=h;cases G;cases J;obtain⟨its,F,D,_⟩:=I.tuple z;obtain⟨p,M,E,_⟩:=I.tuple A;have e:its=[]:=F.nil_iff.mpr rfl;subst e;obtain⟨⟨t,w,l,L⟩,B,m,n,o⟩:=id D;obtain⟨⟨k,g,i,j⟩,f,c,C,d⟩:=id E;simp only at m o c d;subst m o c d;exact concat_meets ⟨_,B,rfl⟩ ⟨_,f,rfl⟩ noFill_tuple_add seq_tuple_add Rf Rk (Rn _ _) (tuple_addW0 a b _ _ n C w g L j<|by simp) ⟨B,f,⟨.ref b,H,I,rfl,q⟩⟩
def aF:F6:=λx y M Q=>match x,y with
 |.tup xs,.tup ys=>xs.length+ys.length<=sizeLine/\Q (.tup<|xs++ys) M
 |_,_=>qAdd x y M Q
theorem Fm:G1 X (j6 .Add) aF:=by
 rintro c s σ H f h v u R I g i ⟨x,y,M,ρ,Q,m,r,e,q,k⟩;unfold aF at q;split at q;rename_i xs ys;obtain⟨a,vs,rfl,h1,D⟩:=v7.inv_tup r;obtain⟨b,w,rfl,h2,E⟩:=v7.inv_tup e;have l:=D.length;have d:=E.length;cases xs with
 |nil=>cases D;exact BG c s σ H _ _ v u R I g i ⟨a,b,w,rfl,rfl,h1,h2,k _ H<|VQ.now m (.tup h2 E) q.2⟩
 |cons n j =>
  refine Fc c s σ H _ _ v u R I g i ⟨a,b,vs,w,rfl,rfl,h1,h2,?_,by rw[<-l,<-d];exact q.1,λz=>?_,λ_ p hp=>k _ _<|VQ.laidT m .refl (D.append E) hp q.2⟩;intro z;subst z;simp at l;subst z;have:ys=[]:=by simpa using d
  subst this;rw[Lb]at q;exact k _ H<|VQ.now m (.tup h1 D) q.2
 exact IM c s σ H f h v u R I g i ⟨x,y,M,ρ,Q,m,r,e,q,k⟩
end
end L2
namespace Srt
open PySem PySem.W PyProof.Rows
noncomputable def run{α:Type}(c:Nat->Nat->Bool):KasT α->α
 |.ret a=>a
 |.ask i j k=>run c<|k<|c i j
theorem fL{α β:Type}{c:Nat->Nat->Bool}{f:α->KasT β}:∀t:KasT α,run c (t.bind f)=run c (f<|run c t)
 |.ret a=>rfl
 |.ask i j k=>fL<|k<|c i j
def Bd{α:Type}(n:Nat):KasT α->Prop
 |.ret _=>True
 |.ask i j k=>i<n/\j<n/\∀b,Bd n<|k b
def All{α:Type}(P:α->Prop):KasT α->Prop
 |.ret a=>P a
 |.ask _ _ k=>∀b,All P<|k b
theorem All.mono{α:Type}{P Q:α->Prop}(h:∀a,P a->Q a):∀t:KasT α,All P t->All Q t
 |.ret a,q=>h a q
 |.ask _ _ k,q=>λb=>All.mono h (k b)<|q b
theorem All.bind{α β:Type}{P:β->Prop}{f:α->KasT β}:∀t:KasT α,All (λa=>All P<|f a) t->All P (t.bind f)
 |.ret a,q=>q
 |.ask _ _ k,q=>λb=>All.bind (k b)<|q b
theorem Bd.bindA{α β:Type}{n:Nat}{f:α->KasT β}:∀t:KasT α,Bd n t->All (λa=>Bd n<|f a) t->Bd n (t.bind f)
 |.ret a,_,q=>q
 |.ask _ _ k,b,q=>⟨b.1,b.2.1,λx=>Bd.bindA (k x) (b.2.2 x)<|q x⟩
theorem All.run{α:Type}{P:α->Prop}{c:Nat->Nat->Bool}:∀t:KasT α,All P t->P (Srt.run c t)
 |.ret a,q=>q
 |.ask i j k,q=>All.run (k<|c i j)<|q _
theorem wp_run{α:Type}{cmp:Nat->Nat->(Bool->f7->Prop)->f7->Prop}{c:Nat->Nat->Bool}{n:Nat}{s:f7}{Q:α->f7->Prop}(hc:∀i j (C:Bool->f7->Prop),i<n->j<n->C (c i j) s->cmp i j C s):∀t:KasT α,Bd n t->Q (run c t) s->t.kasWp cmp Q s
 |.ret a,_,q=>q
 |.ask i j k,b,q=>hc i j _ b.1 b.2.1<|wp_run hc (k<|c i j) (b.2.2 _) q
structure Li(c:Nat->Nat->Bool):Prop where
 irr:∀a,c a a=bt
 tr:∀a b d,c a b=a9->c b d=a9->c a d=a9
 neg:∀a b d,c a d=a9->c a b=a9\/c b d=a9
section
variable{c:Nat->Nat->Bool}(O:Li c)
def le(c:Nat->Nat->Bool)(a b:Nat):Prop:=c b a=bt
theorem le_refl(O:Li c)(a:Nat):le c a a:=O.irr a
theorem le_trans(O:Li c)(h1:le c a b)(h2:le c b d):le c a d:=by
 unfold le at *;cases q:c d a with
 |false=>rfl
 |true=>rcases O.neg d b a q with h|h;rw[h2]at h;cases h;rw[h1]at h;cases h
theorem le_of_lt(O:Li c)(h:c a b=a9):le c a b:=by
 unfold le;cases q:c b a with
 |false=>rfl
 |true=>have:=O.tr a b a h q;rw[O.irr]at this;cases this
noncomputable abbrev at_(p:Array Nat)(k:Nat):Nat:=p.getD k 0
def Up(c:Nat->Nat->Bool)(p:Array Nat)(m:Nat):Prop:=∀i j,i<=j->j<m->le c (at_ p i) (at_ p j)
def Dn(c:Nat->Nat->Bool)(p:Array Nat)(m:Nat):Prop:=∀i j,i<=j->j<m->le c (at_ p j) (at_ p i)
def N3(c:Nat->Nat->Bool)(p:Array Nat)(a b:Nat):Prop:=∀i j,a<=i->i<b->a<=j->j<b->le c (at_ p i) (at_ p j)
theorem Up.one(O:Li c)(p:Array Nat):Up c p 1:=λi j a L=>by
 have:i=j:=by lia
 subst this;exact le_refl O _
theorem Up.snoc(O:Li c)(h:Up c p n)(h1:1<=n)(g:le c (at_ p<|n-1) (at_ p n)):Up c p (n+1):=λi j a L=>by
 by_cases b:j<n;exact h i j a b;have:j=n:=by lia
 subst this;by_cases hi:i=j;subst hi;exact le_refl O _;exact le_trans O (h i (j-1) (by lia)<|by lia) g
theorem Dn.snoc(O:Li c)(h:Dn c p n)(h1:1<=n)(g:le c (at_ p n) (at_ p<|n-1)):Dn c p (n+1):=λi j a L=>by
 by_cases b:j<n;exact h i j a b;have:j=n:=by lia
 subst this;by_cases hi:i=j;subst hi;exact le_refl O _;exact le_trans O g<|h i (j-1) (by lia)<|by lia
theorem gp(hj:j<=p.size)(k:Nat):at_ (Lp p i j) k=if i<=k/\k<j then at_ p (i+j-1-k)else at_ p k:=by have e:=getElem?_mirror_all (xs:=p) (i:=i) hj k;unfold at_ Lp;rw[Nz,e];by_cases h:i<=k/\k<j;rw[p9 h,p9 h,Nz];rw[r9 h,r9 h,Nz]
theorem sK(b:k<p.size)(a:d<=k)(i:Nat):at_ (bubble p k d) i=if i=k-d then at_ p k else if k-d<i/\i<=k then at_ p (i-1)else at_ p i:=by have e:=getElem?_bubble (xs:=p) b d a i;unfold at_;rw[Nz,e];by_cases h:i=k-d;rw[p9 h,p9 h,Nz];rw[r9 h,r9 h];by_cases h':k-d<i/\i<=k;rw[p9 h',p9 h',Nz];rw[r9 h',r9 h',Nz]
theorem Dn.rev(h:Dn c p n)(f:n<=p.size):Up c (Lp p 0 n) n:=λi j a L=>by rw[gp f,gp f,p9 ⟨C4 _,by lia⟩,p9 ⟨C4 _,L⟩];exact h _ _ (by lia)<|by lia
theorem Dn.revEq(O:Li c)(h:Dn c p n)(f:n<=p.size)(e:N3 c p a n):Dn c (Lp p a n) n:=λi j b L=>by rw[gp f,gp f];by_cases h1:a<=i/\i<n;by_cases h2:a<=j/\j<n;rw[p9 h1,p9 h2];exact e _ _ (by lia) (by lia) (by lia) (by lia);exact t4 ⟨by lia,L⟩ h2;by_cases h2:a<=j/\j<n;rw[r9 h1,p9 h2];exact h _ _ (by lia) (by lia);rw[r9 h1,r9 h2];exact h _ _ b L
theorem uC(O:Li c):∀(f n:Nat),1<=n->Up c p n->Up c p (run c<|LY p f n)/\n<=run c (LY p f n)/\run c (LY p f n)<=n+f /\(run c (LY p f n)<n+f->c (at_ p<|run c<|LY p f n) (at_ p<|run c (LY p f n)-1)=a9)
 | 0,n,_,h=>⟨h,w5 _,w5 _,λz=>t4 z<|G8 _⟩
 |f+1,n,h1,h=>by
  show Up c p (run c<|if c (at_ p n) (at_ p<|n-1)=a9 then .ret n else LY p f (n+1))/\n<=run c (if c (at_ p n) (at_ p<|n-1)=a9 then .ret n else LY p f (n+1)) /\ run c (if c (at_ p n) (at_ p<|n-1)=a9 then .ret n else LY p f (n+1))<=n+(f+1)/\(run c (if c (at_ p n) (at_ p<|n-1)=a9 then .ret n else LY p f (n+1))<n+(f+1) -> c (at_ p<|run c<|if c (at_ p n) (at_ p<|n-1)=a9 then .ret n else LY p f (n+1)) (at_ p<|run c (if c (at_ p n) (at_ p<|n-1)=a9 then .ret n else LY p f (n+1))-1)=a9)
  by_cases q:c (at_ p n) (at_ p<|n-1)=a9;rw[p9 q];exact⟨h,w5 _,Pa _ _,λ_=>q⟩;rw[r9 q];obtain⟨a1,a2,a3,a4⟩:=uC O f (n+1) (by lia) (h.snoc O h1<|by unfold le;simpa using q);exact⟨a1,by lia,by lia,λz=>a4<|by lia⟩
theorem dN:(Lp p i j).size=p.size:=mirror_size _ _ _ _
def AG(c:Nat->Nat->Bool)(z n m:Nat)(r:Array Nat×Nat×Nat):Prop:=r.1.size=z/\Dn c r.1 r.2.1/\n<=r.2.1/\r.2.1<=m/\r.2.2+1<=r.2.1/\N3 c r.1 (r.2.1-(r.2.2+1)) r.2.1
def pA(c:Nat->Nat->Bool)(z nrem:Nat)(r:Nat×Array Nat):Prop:=r.2.size=z/\Up c r.2 r.1/\1<=r.1/\r.1<=nrem
def uE(c:Nat->Nat->Bool)(p:Array Nat)(k m:Nat):Prop:=m<=k/\(∀i,i<m->le c (at_ p i) (at_ p k))/\∀i,m<=i->i<k->c (at_ p k) (at_ p i)=a9
theorem jZ(O:Li c):∀(f:Nat) (p:Array Nat) (n q:Nat),q+1<=n->n+f<=p.size->Dn c p n->N3 c p (n-(q+1)) n ->AG c p.size n (n+f) (run c<|K1 f p n q)
 | 0,p,n,q,h1,h2,hd,he=>⟨rfl,hd,w5 _,w5 _,h1,he⟩
 |f+1,p,n,q,h1,h2,hd,he=>by
  have hn:n<=p.size:=by lia
  show AG c p.size n (n+(f+1)) (run c<|if c (at_ p n) (at_ p<|n-1)=a9 then(if q > 0 then K1 f (Lp p (n-(q+1)) n) (n+1) 0 else K1 f p (n+1) 0) else .ask (at_ p<|n-1) (at_ p n) λd=>if d=a9 then .ret (p,n,q)else K1 f p (n+1) (q+1));by_cases hc:c (at_ p n) (at_ p<|n-1)=a9;rw[p9 hc];by_cases hq:q > 0;rw[p9 hq];have hd':Dn c (Lp p (n-(q+1)) n) (n+1):=by refine(hd.revEq O hn he).snoc O (by lia) ?_;rw[gp hn,gp hn,r9 (by lia),p9 ⟨by lia,by lia⟩];exact le_trans O (le_of_lt O hc)<|he _ _ (by lia) (by lia) (by lia)<|by lia
  have r:=jZ O f (Lp p (n-(q+1)) n) (n+1) 0 (by lia) (by rw[dN];lia) hd' (λi j a1 a2 a3 a4=>by
   have:i=n:=by lia
   have:j=n:=by lia
   subst_vars
   exact le_refl O _)
  obtain⟨a1,a2,a3,a4,a5,a6⟩:=r;exact⟨a1.trans dN,a2,by lia,by lia,a5,a6⟩;rw[r9 hq];have r:=jZ O f p (n+1) 0 (by lia) (by lia) (hd.snoc O (by lia)<|le_of_lt O hc) (λi j a1 a2 a3 a4=>by
   have:i=n:=by lia
   have:j=n:=by lia
   subst_vars
   exact le_refl O _)
  obtain⟨a1,a2,a3,a4,a5,a6⟩:=r;exact⟨a1,a2,by lia,by lia,a5,a6⟩;rw[r9 hc];show AG c p.size n (n+(f+1)) (run c<|if c (at_ p<|n-1) (at_ p n)=a9 then .ret (p,n,q)else K1 f p (n+1) (q+1));by_cases hc':c (at_ p<|n-1) (at_ p n)=a9;rw[p9 hc'];exact⟨rfl,hd,w5 _,by show n<=_;lia,h1,he⟩;rw[r9 hc'];have l1:le c (at_ p n) (at_ p<|n-1):=by unfold le;simpa using hc'
  have l2:le c (at_ p<|n-1) (at_ p n):=by unfold le;simpa using hc
  have r:=jZ O f p (n+1) (q+1) (by lia) (by lia) (hd.snoc O (by lia) l1) (λi j a1 a2 a3 a4=>by by_cases hi:i=n;by_cases hj:j=n;subst hi hj;exact le_refl O _;subst hi;exact le_trans O l1 (he _ _ (by lia) (by lia) (by lia)<|by lia);by_cases hj:j=n;subst hj;exact le_trans O (he _ _ (by lia) (by lia) (by lia)<|by lia) l2;exact he _ _ (by lia) (by lia) (by lia)<|by lia);obtain⟨a1,a2,a3,a4,a5,a6⟩:=r;exact⟨a1,a2,by lia,by lia,a5,a6⟩
theorem pO(O:Li c)(h1:1<=n)(f:n<=nrem)(hz:nrem<=p.size)(d:Dn c p n):pA c p.size nrem (run c<|kas_tail3 n nrem p):=by unfold kas_tail3;rw[fL];obtain⟨C,a,b,_⟩:=uC O (nrem-n) n h1 (d.rev<|by lia);exact⟨dN,C,H9 h1 a,H9 b<|by lia⟩
theorem jG(O:Li c)(h1:1<=n)(x:n+1<=nrem)(hz:nrem<=p.size)(m:N3 c p 0 n)(k:c (at_ p n) (at_ p<|n-1)=a9):pA c p.size nrem (run c<|Ob n nrem p):=by
 have l:Dn c p (n+1):=by refine Dn.snoc O (λi j o L=>m _ _ (by lia) (by lia) (by lia)<|by lia) h1<|le_of_lt O k
 unfold Ob;rw[fL];obtain⟨a,g,u,v,w,h⟩:=jZ O (nrem-(n+1)) p (n+1) 0 (by lia) (by lia) l (λi j C r s t=>by
  have:i=n:=by lia
  have:j=n:=by lia
  subst_vars
  exact le_refl O _)
 by_cases q:(run c<|K1 (nrem-(n+1)) p (n+1) 0).2.2 > 0;rw[p9 q];obtain⟨d,b,e,f⟩:=pO O (p:=Lp (run c<|K1 (nrem-(n+1)) p (n+1) 0).1 ((run c<|K1 (nrem-(n+1)) p (n+1) 0).2.1-((run c<|K1 (nrem-(n+1)) p (n+1) 0).2.2+1)) (run c<|K1 (nrem-(n+1)) p (n+1) 0).2.1) (n:=(run c<|K1 (nrem-(n+1)) p (n+1) 0).2.1) (nrem:=nrem) (by lia) (by lia) (by rw[dN,a];exact hz)<|g.revEq O (by rw[a];lia) h;exact⟨d.trans<|dN.trans a,b,e,f⟩;rw[r9 q];obtain⟨d,b,e,f⟩:=pO O (p:=(run c<|K1 (nrem-(n+1)) p (n+1) 0).1) (n:=(run c<|K1 (nrem-(n+1)) p (n+1) 0).2.1) (nrem:=nrem) (by lia) (by lia) (by rw[a];exact hz) g;exact⟨d.trans a,b,e,f⟩
theorem Al(O:Li c)(h1:1<=nrem)(hz:nrem<=p.size):pA c p.size nrem (run c<|kas_count nrem p):=by
 unfold kas_count;rw[fL];obtain⟨C,a,o,l⟩:=uC O (nrem-1) 1 (w5 _)<|Up.one O p;generalize run c (LY p (nrem-1) 1)=n at C a o l;by_cases k:(n==nrem)=a9;rw[p9 k];exact⟨rfl,C,a,by show n<=nrem;lia⟩;rw[r9 k];have x:n≠nrem:=by simpa using k
 have t:c (at_ p n) (at_ p<|n-1)=a9:=l (by lia);by_cases h2:n > 1;rw[p9 h2];show pA c p.size nrem (run c<|if c (at_ p 0) (at_ p<|n-1)=a9 then .ret (n,p)else Ob n nrem (Lp p 0 n));by_cases f:c (at_ p 0) (at_ p<|n-1)=a9;rw[p9 f];exact⟨rfl,C,a,by show n<=nrem;lia⟩;rw[r9 f];have g:n<=p.size:=by lia
 have y:le c (at_ p<|n-1) (at_ p 0):=by unfold le;simpa using f
 have m:N3 c p 0 n:=λi j b d u v=>le_trans O (C i (n-1) (by lia)<|by lia)<|le_trans O y<|C 0 j (by lia) v;have e:N3 c (Lp p 0 n) 0 n:=λi j b d u v=>by rw[gp g,gp g,p9 ⟨b,d⟩,p9 ⟨u,v⟩];exact m _ _ (by lia) (by lia) (by lia)<|by lia
 have h:c (at_ (Lp p 0 n) n) (at_ (Lp p 0 n)<|n-1)=a9:=by rw[gp g,gp g,r9 (by lia),p9 ⟨by lia,by lia⟩];rcases O.neg _ (at_ p<|0+n-1-(n-1)) _ t with z|z;exact z;have:=m (n-1) (0+n-1-(n-1)) (by lia) (by lia) (by lia) (by lia);unfold le at this;rw[this]at z;cases z
 obtain⟨q,r,s,w⟩:=jG O (p:=Lp p 0 n) (n:=n) (nrem:=nrem) (by lia) (by lia) (by rw[dN];exact hz) e h;exact⟨q.trans dN,r,s,w⟩;rw[r9 h2];have:n=1:=by lia
 subst this;exact jG O (by lia) (by lia) hz (λi j b d u v=>by
  have:i=0:=by lia
  have:j=0:=by lia
  subst_vars
  exact le_refl O _) t
theorem lq(O:Li c)(hu:Up c p k):∀(f l r:Nat),l<=r->r<=k->r-l<=f->(∀i,i<l->le c (at_ p i) (at_ p k))->(∀i,r<=i->i<k->c (at_ p k) (at_ p i)=a9) ->uE c p k (run c<|Mv p k f l r)
 | 0,l,r,h1,h2,h3,h4,h5=>⟨by show l<=k;lia,h4,λi a1 a2=>h5 i (by have a1':l<=i:=a1;lia) a2⟩
 |f+1,l,r,h1,h2,h3,h4,h5=>by
  show uE c p k (run c<|if l ≥ r then .ret l else .ask (at_ p k) (at_ p<|(l+r) / 2) λc=>if c=a9 then Mv p k f l ((l+r) / 2)else Mv p k f ((l+r) / 2+1) r);by_cases hl:l ≥ r;rw[p9 hl];exact⟨by show l<=k;lia,h4,λi a1 a2=>h5 i (by have a1':l<=i:=a1;lia) a2⟩;rw[r9 hl];show uE c p k (run c<|if c (at_ p k) (at_ p<|(l+r) / 2)=a9 then Mv p k f l ((l+r) / 2)else Mv p k f ((l+r) / 2+1) r);by_cases hc:c (at_ p k) (at_ p<|(l+r) / 2)=a9;rw[p9 hc];refine lq O hu f l ((l+r) / 2) (by lia) (by lia) (by lia) h4 λi a1 a2=>?_;rcases O.neg _ (at_ p i) _ hc with z|z;exact z;have:=hu ((l+r) / 2) i a1 a2;unfold le at this;rw[this]at z;cases z;rw[r9 hc];have lm:le c (at_ p<|(l+r) / 2) (at_ p k):=by unfold le;simpa using hc
  refine lq O hu f ((l+r) / 2+1) r (by lia) h2 (by lia) (λi hi=>?_) h5;exact le_trans O (hu i ((l+r) / 2) (by lia)<|by lia) lm
theorem Aw(O:Li c)(f:k<p.size)(g:Up c p k)(l:m<=k)(h1:∀i,i<m->le c (at_ p i) (at_ p k))(h2:∀i,m<=i->i<k->c (at_ p k) (at_ p i)=a9):Up c (bubble p k<|k-m) (k+1):=by
 intro i j d L;have e:k-(k-m)=m:=by lia
 rw[sK f (by lia),sK f (by lia),e];by_cases hi:i=m;rw[p9 hi];by_cases h:j=m;rw[p9 h];exact le_refl O _;rw[r9 h,p9 ⟨by lia,by lia⟩];exact le_of_lt O (h2 _ (by lia)<|by lia);rw[r9 hi];by_cases a:m<i/\i<=k;rw[p9 a,r9 (by lia),p9 ⟨by lia,by lia⟩];exact g _ _ (by lia) (by lia);rw[r9 a];by_cases h:j=m;rw[p9 h];exact h1 i (by lia);rw[r9 h];by_cases b:m<j/\j<=k;rw[p9 b];exact g _ _ (by lia) (by lia);rw[r9 b];exact g _ _ d<|by lia
theorem Ay(O:Li c):∀(f:Nat) (p:Array Nat) (k:Nat),k+f<=p.size->Up c p k->(run c<|kas_bin f p k).size=p.size/\Up c (run c<|kas_bin f p k) (k+f)
 | 0,p,k,_,h=>⟨rfl,h⟩
 |f+1,p,k,hz,h=>by show (run c<|(Mv p k k 0 k).bind λl=>kas_bin f (bubble p k<|k-l)<|k+1).size=p.size/\Up c (run c<|(Mv p k k 0 k).bind λl=>kas_bin f (bubble p k<|k-l)<|k+1) (k+(f+1));rw[fL];obtain⟨a1,a2,a3⟩:=lq O h k 0 k (C4 _) (w5 _) (by lia) (λi hi=>t4 hi<|M8 _) λi a1 a2=>t4 a2 (by lia);obtain⟨b1,b2⟩:=Ay O f (bubble p k<|k-run c (Mv p k k 0 k)) (k+1) (by rw[bubble_size];lia)<|Aw O (by lia) h a1 a2 a3;exact⟨b1.trans<|bubble_size _ _ _,by rw[show k+(f+1)=k+1+f by lia];exact b2⟩
theorem Eu(O:Li c)(h1:1<=n):(run c<|MX n).size=n/\Up c (run c<|MX n) n:=by
 have hs:(OU<|D3 n).size=n:=by simp
 unfold MX;rw[fL];obtain⟨C,a,b,t⟩:=Al O (p:=OU<|D3 n) h1 (by rw[hs];exact w5 _);rw[hs]at C;generalize run c (kas_count n<|OU<|D3 n)=r at C a b t;by_cases g:r.1<n;rw[p9 g];obtain⟨d,e⟩:=Ay O (n-max r.1 1) r.2 (max r.1 1) (by rw[C];lia) (by rw[show max r.1 1=r.1 by lia];exact a);exact⟨d.trans C,by rw[show n=max r.1 1+(n-max r.1 1) by lia];simpa using e⟩;rw[r9 g];have f:r.1=n:=by lia
 rw[f]at a;exact⟨C,a⟩
def F5(n:Nat)(p:Array Nat):Prop:=p.toList.Perm<|D3 n
theorem F5.lt(h:F5 n p)(a:0<n)(k:Nat):at_ p k<n:=by
 unfold at_;rw[Nz];cases e:p[k]? with
 |none=>simpa using a
 |some x =>
  have:x∈p.toList:=by rw[<-J5]at e;exact J7 e
  have:=h.mem_iff.mp this;simpa using this
theorem F5.rev(h:F5 n p):F5 n (Lp p i j):=(Array.perm_iff_toList_perm.mp<|mirror_perm p i j<|(j-i) / 2).trans h
theorem F5.bub(h:F5 n p):F5 n (bubble p i j):=(Array.perm_iff_toList_perm.mp<|bubble_perm p i j).trans h
section
variable{n:Nat}(h0:0<n)
theorem AB(h0:0<n)(h:F5 n p):∀(f k:Nat),Bd n (LY p f k)
 | 0,_=>trivial
 |f+1,k=>⟨h.lt h0 _,h.lt h0 _,λb=>by cases b with
  |true=>exact trivial
  |false=>exact AB h0 h f<|k+1⟩
theorem pf(h0:0<n):∀(f:Nat) (p:Array Nat) (k q:Nat),F5 n p->Bd n (K1 f p k q)/\All (λr=>F5 n r.1) (K1 f p k q)
 | 0,p,k,q,h=>⟨trivial,h⟩
 |f+1,p,k,q,h=>by
  have key:∀b,(Bd n<|if b=a9 then(if q > 0 then K1 f (Lp p (k-(q+1)) k) (k+1) 0 else K1 f p (k+1) 0) else KasT.ask (p.getD (k-1) 0) (p.getD k 0) λd=>if d=a9 then KasT.ret (p,k,q)else K1 f p (k+1) (q+1))/\All (λr=>F5 n r.1) (if b=a9 then(if q > 0 then K1 f (Lp p (k-(q+1)) k) (k+1) 0 else K1 f p (k+1) 0) else KasT.ask (p.getD (k-1) 0) (p.getD k 0) λd=>if d=a9 then KasT.ret (p,k,q)else K1 f p (k+1) (q+1)):=λb=>by
   cases b with
   |true=>rw[p9 rfl];by_cases hq:q > 0;rw[p9 hq];exact pf h0 f _ _ _ h.rev;rw[r9 hq];exact pf h0 f _ _ _ h
   |false =>
    rw[r9<|by simp];have a:=pf h0 f p (k+1) (q+1) h;refine⟨⟨h.lt h0 _,h.lt h0 _,λb=>?_⟩,λb=>?_⟩;cases b with
    |true=>exact trivial
    |false=>exact a.1
    cases b with
    |true=>exact h
    |false=>exact a.2
  exact⟨⟨h.lt h0 _,h.lt h0 _,λb=>(key b).1⟩,λb=>(key b).2⟩
theorem jS(c:0<n)(h:F5 n p):Bd n (kas_tail3 k m p)/\All (λr=>F5 n r.2) (kas_tail3 k m p):=by
 have v:∀{t:KasT Nat}{Q:Prop},Q->All (λ_=>Q) t:=λ{t Q} q=>by
  induction t with
  |ret a=>exact q
  |ask i j k d=>exact λb=>d b
 unfold kas_tail3;exact⟨Bd.bindA _ (AB c h.rev _ _)<|v trivial,All.bind _<|v h.rev⟩
theorem eF(a:0<n)(h:F5 n p):Bd n (Ob k m p)/\All (λr=>F5 n r.2) (Ob k m p):=by unfold Ob;obtain⟨b,c⟩:=pf a (m-(k+1)) p (k+1) 0 h;refine⟨Bd.bindA _ b<|c.mono<|λr i=>?_,All.bind _<|c.mono<|λr i=>?_⟩;by_cases q:r.2.2 > 0;rw[p9 q];exact(jS a i.rev).1;rw[r9 q];exact(jS a i).1;by_cases q:r.2.2 > 0;rw[p9 q];exact(jS a i.rev).2;rw[r9 q];exact(jS a i).2
theorem Dd(c:0<n)(h:F5 n p):Bd n (kas_count m p)/\All (λr=>F5 n r.2) (kas_count m p):=by
 have v:∀{t:KasT Nat}{Q:Nat->Prop},(∀a,Q a)->All Q t:=λ{t Q} q=>by
  induction t with
  |ret a=>exact q a
  |ask i j k d=>exact λb=>d b
 unfold kas_count;refine⟨Bd.bindA _ (AB c h _ _)<|v λk=>?_,All.bind _<|v λk=>?_⟩;by_cases h1:(k==m)=a9;rw[p9 h1];exact trivial;rw[r9 h1];by_cases h2:k > 1;rw[p9 h2];refine⟨h.lt c _,h.lt c _,λb=>?_⟩;cases b with
 |true=>exact trivial
 |false=>exact(eF c h.rev).1
 rw[r9 h2];exact(eF c h).1;by_cases h1:(k==m)=a9;rw[p9 h1];exact h;rw[r9 h1];by_cases h2:k > 1;rw[p9 h2];intro b;cases b with
 |true=>exact h
 |false=>exact(eF c h.rev).2
 rw[r9 h2];exact(eF c h).2
theorem oB(h0:0<n)(h:F5 n p):∀(f l r:Nat),Bd n (Mv p k f l r)
 | 0,_,_=>trivial
 |f+1,l,r=>by
  show Bd n (if l ≥ r then KasT.ret l else KasT.ask (p.getD k 0) (p.getD ((l+r) / 2) 0) λc=>if c=a9 then Mv p k f l ((l+r) / 2)else Mv p k f ((l+r) / 2+1) r);by_cases hl:l ≥ r;rw[p9 hl];exact trivial;rw[r9 hl];refine⟨h.lt h0 _,h.lt h0 _,λb=>?_⟩;cases b with
  |true=>exact oB h0 h f _ _
  |false=>exact oB h0 h f _ _
theorem wj(h0:0<n):∀(f:Nat) (p:Array Nat) (k:Nat),F5 n p->Bd n (kas_bin f p k)/\All (λr=>F5 n r) (kas_bin f p k)
 | 0,p,k,h=>⟨trivial,h⟩
 |f+1,p,k,h=>by
  have triv:∀{t:KasT Nat}{Q:Nat->Prop},(∀a,Q a)->All Q t:=λ{t Q} q=>by
   induction t with
   |ret a=>exact q a
   |ask i j k ih=>exact λb=>ih b
  exact⟨Bd.bindA _ (oB h0 h _ _ _)<|triv λl=>(wj h0 f _ _ h.bub).1,All.bind _<|triv λl=>(wj h0 f _ _ h.bub).2⟩
theorem sort_bd(a:0<n):Bd n (MX n)/\All (λr=>F5 n r) (MX n):=by
 have h:F5 n (OU<|D3 n):=by unfold F5;simp
 obtain⟨b,c⟩:=Dd a (m:=n) h;unfold MX;refine⟨Bd.bindA _ b<|c.mono λr i=>?_,All.bind _<|c.mono λr i=>?_⟩;by_cases g:r.1<n;rw[p9 g];exact(wj a _ _ _ i).1;rw[r9 g];exact trivial;by_cases g:r.1<n;rw[p9 g];exact(wj a _ _ _ i).2;rw[r9 g];exact i
end
theorem sort_list{α:Type}[Inhabited α]{lt:α->α->Bool}(xs:List α)(h1:1<=xs.length)(r:∀a∈xs,lt a a=bt)(tr:∀a∈xs,∀b∈xs,∀d∈xs,lt a b=a9->lt b d=a9->lt a d=a9)(n:∀a∈xs,∀b∈xs,∀d∈xs,lt a d=a9->lt a b=a9\/lt b d=a9):let c:=λi j=>if i<xs.length then(if j<xs.length then lt (xs.getD i default) (xs.getD j default)else a9)else bt
  let p:=run c<|MX xs.length
  let ys:=p.toList.map λi=>xs.getD i default
  ys.Perm xs/\ys.Pairwise λa b=>lt b a=bt:=by
 intro c p ys;have m:∀i,i<xs.length->xs.getD i default∈xs:=λi hi=>by rw[Lf,z9 hi];exact LZ hi
 have O:Li c:=by refine⟨λa=>?_,λa b d=>?_,λa b d=>?_⟩;show (if a<xs.length then(if a<xs.length then lt _ _ else a9)else bt)=bt;by_cases f:a<xs.length;rw[p9 f,p9 f];exact r _<|m a f;rw[r9 f];show (if a<xs.length then(if b<xs.length then lt _ _ else a9)else bt)=a9->(if b<xs.length then(if d<xs.length then lt _ _ else a9)else bt)=a9->(if a<xs.length then(if d<xs.length then lt _ _ else a9)else bt)=a9;by_cases f:a<xs.length;by_cases h:b<xs.length;by_cases g:d<xs.length;rw[p9 f,p9 h,p9 h,p9 g,p9 f,p9 g];exact tr _ (m a f) _ (m b h) _<|m d g;intro _ _;rw[p9 f,r9 g];rw[r9<|show ¬b<xs.length from h];intro _ z;rw[r9 h]at z;cases z;intro z;rw[r9 f]at z;cases z;show (if a<xs.length then(if d<xs.length then lt _ _ else a9)else bt)=a9->(if a<xs.length then(if b<xs.length then lt _ _ else a9)else bt)=a9\/(if b<xs.length then(if d<xs.length then lt _ _ else a9)else bt)=a9;by_cases f:a<xs.length;by_cases h:b<xs.length;by_cases g:d<xs.length;rw[p9 f,p9 g,p9 f,p9 h,p9 h,p9 g];exact n _ (m a f) _ (m b h) _<|m d g;intro _;right;rw[p9 h,r9 g];intro _;left;rw[p9 f,r9 h];intro z;rw[r9 f]at z;cases z
 have E:F5 xs.length p:=All.run _ (sort_bd<|by lia).2;obtain⟨hs,U⟩:=Eu O h1;refine⟨?_,?_⟩;have e:(D3 xs.length).map (λi=>xs.getD i default)=xs:=by apply List.ext_getElem?;intro i;rw[D8];by_cases hi:i<xs.length;rw[List.getElem?_range hi];simp[Lf,z9 hi];rw[Nv (by simpa using hi),Nv<|by simpa using hi];rfl
 have:=E.map λi=>xs.getD i default;rw[e]at this;exact this;show (p.toList.map λi=>xs.getD i default).Pairwise λa b=>lt b a=bt;rw[Pt];intro i j hi L t;rw[x3,F9]at hi L;have u:p.size=xs.length:=hs;have l:=U i j (by lia) (by lia);have o:∀k,at_ p k<xs.length:=λk=>E.lt (by lia) k;unfold le at l;have l':(if at_ p j<xs.length then(if at_ p i<xs.length then lt (xs.getD (at_ p j) default) (xs.getD (at_ p i) default)else a9)else bt)=bt:=l;rw[p9<|o j,p9<|o i]at l';have q:p.toList[i]=at_ p i:=by unfold at_;simp[L9,hi]
 have s:p.toList[j]=at_ p j:=by unfold at_;simp[L9,L]
 rw[List.getElem_map,List.getElem_map,q,s];exact l'
end
end Srt
namespace L2
open PySem PySem.Spec PyProof.Rows DL
def xB(A:f6)(s:f7)(x y:b7)(k:Bool):Prop:=∀(g:c9) (w:c8) (E:b7->f7->Prop) (Q:b7->f7->Prop),Q (.bool k) s->ge (g9 g w) A (richCompare .Lt x y) Q E s
inductive LexAt(A:f6)(s:f7):List b7->List b7->Bool->Prop
 |nn:LexAt A s [] [] bt
 |nc {y:b7}{ys:List b7}:LexAt A s [] (y::ys) a9
 |cn {x:b7}{xs:List b7}:LexAt A s (x::xs) [] bt
 |eq {x y:b7}{xs ys:List b7}{k:Bool} (h:Ma A s x y a9) (t:LexAt A s xs ys k):LexAt A s (x::xs) (y::ys) k
 |ne {x y:b7}{xs ys:List b7}{k:Bool} (h:Ma A s x y bt) (t:xB A s x y k):LexAt A s (x::xs) (y::ys) k
section
open PySem.SeqAt
open PySem.AutoSeq1 (wpAny_loadPart')
open PySem.MeetsSeq PySem.MeetsSeq2 PySem.MeetsSeq3
theorem pN(l b:d5)(a i:Array b7)(n B:Nat)(dd f:Option d5)(C o:Array (Option b7))(k:Bool):Meets (Builtin.«tuple.__lt__» ⟨[.ref l,.ref b],[]⟩)
   (λA R s=>s.heap.get? l=a7 (⟨.type "tuple",dd,.seq a n,C⟩:d6)/\s.heap.get? b=a7 { cls:=.type "tuple",dict:=f,data:=.seq i B,slots:=o } /\ LexAt A.in1 s a.toList i.toList k/\R (.ok<|.ret<|.bool k) s) :=
 .of_wp λp w A R s h=>by
  obtain⟨hp,g,d,r,q⟩:=s;obtain⟨v,u,c,h⟩:=h;have N:=AutoSeq1.sub_tuple_tuple
  wp_walk using RI v,RI u,No _ (λaL b s'=>b.1=a8/\s'=⟨hp,g,d,r,q⟩/\∃(vs e:List b7),aL=vs.zip e /\ LexAt A.in1 ⟨hp,g,d,r,q⟩ vs e k/\vs.length+i.size=e.length+a.size) _
  case turn =>
   rintro⟨y,x⟩ aL b s' ⟨hb',rfl,vs,e,hz,hlex,hlen⟩;cases hlex with
   |nn=>cases hz
   |nc=>cases hz
   |cn=>cases hz
   |eq j t =>
    rw[NP]at hz;injection hz with hyx hrest;injection hyx with hy c;subst hy c;refine u4<|j p w _ _ ?_
    wp_walk
    exact⟨rfl,rfl,_,_,hrest,t,by simp only[E5]at hlen;lia⟩
   |ne j t =>
    rw[NP]at hz;injection hz with hyx hrest;injection hyx with hy c;subst hy c;refine u4<|j p w _ _ ?_;have m:=t p w
    wp_walk using m
    exact⟨_,rfl,by simpa using h⟩
  case fin =>
   rintro⟨b1,b2⟩ s' ⟨hb',rfl,vs,e,hz,hlex,hlen⟩;simp only at hb';subst hb';have z:k=decide (a.size<i.size):=by
    cases hlex with
    |nn=>simp only[G0]at hlen;exact(dF_<|by lia).symm
    |nc=>simp only[G0,E5]at hlen;exact(dT_<|by lia).symm
    |cn=>simp only[G0,E5]at hlen;exact(dF_<|by lia).symm
    |eq _ _=>rw[NP]at hz;cases hz
    |ne _ _=>rw[NP]at hz;cases hz
   rw[z]at h
   wp_walk
   exact⟨_,rfl,by simpa [Builtin.Tuple.tupleCompareSizes]using h⟩
  case h =>
   exact⟨rfl,rfl,a.toList,i.toList,rfl,c,by simp;lia⟩
end
theorem xB.tuples(u:s.heap.IsTuple l items)(r:s.heap.IsTuple b items2)(v:A.units<j9)(y:LexAt A.in1 s items.toList items2.toList k):xB A s (.ref l) (.ref b) k:=λp w E Q h=>by obtain⟨⟨t,q,g,C⟩,B,m,n,o⟩:=id u;obtain⟨⟨j,e,i,f⟩,d,a,z,c⟩:=id r;simp only at m o a c;subst m o a c;exact richCompare_meets_room (op:=.Lt) ⟨_,B,rfl⟩ ⟨_,d,rfl⟩ PySem.F.slot_tuple_lt PySem.F.entry_tuple_lt (PySem.F.args_tuple_lt_2 _ _) (pN l b items items2 n z q e C f k) ⟨B,d,y,show MH k≠Value.notImplemented/\Q (.bool k) s from⟨(λx=>nomatch x),h⟩⟩ v
noncomputable def pC(f g:D->D->Bool):List D->List D->Bool
 | [],[]=>bt
 | [],_::_=>a9
 |_::_,[]=>bt
 |x::xs,y::ys=>if f x y=a9 then pC f g xs ys else g x y
noncomputable def D6(M:v5):Nat->D->D->Bool
 |_,.int a,.int b=>decide<|a<b
 |_,.str a,.str b=>kU a b
 |n+1,.tup xs,.tup ys=>pC (v4 M n) (D6 M n) xs ys
 |_,_,_=>bt
noncomputable def wd(f g:D->D->Bool):List D->List D->Bool
 |x::xs,y::ys=>if f x y=a9 then wd f g xs ys else g x y
 |_,_=>a9
noncomputable def gY(M:v5):Nat->D->D->Bool
 |_,.int _,.int _=>a9
 |_,.str _,.str _=>a9
 |n+1,.tup xs,.tup ys=>wd (v4 M n) (gY M n) xs ys
 |_,_,_=>bt
theorem xB.ints(A:f6)(s:f7)(a:Int)(t:Tok)(c:Int)(u:Tok):xB A s (.int a t) (.int c u) (decide<|a<c):=λg w E Q h=>HT.rcLt_int A s a t c u g w E Q h
theorem xB.texts(A:f6)(s:f7)(a:c7)(t:Tok)(c:c7)(u:Tok):xB A s (.str a t) (.str c u) (kU a c):=λg w E Q h =>
 (PySem.P.lt_str (show Q (.bool<|decide<|a.cps.toList<c.cps.toList) s from h):ge (g9 g w) A (j7 .Lt (.str a t)<|.str c u) Q E s)
section
variable{X:Cx}{pins:List (d5×d6)}{σ:St}{H:Hp}{s:f7}{ρ:List d5}{M:v5}
theorem DJ(I:u6 X pins σ H s)(Z:w9 X.K ρ M H):∀(n:Nat) (A:f6) (x y:D) (vx vy:V) (u v:b7),A.units+n<j9->v7 X.K ρ H x vx->aJ vx u->v7 X.K ρ H y vy->aJ vy v->w4 M n x=a9->w4 M n y=a9->gY M n x y=a9 ->xB A s u v (D6 M n x y):=by
 intro n;induction n with
 |zero =>
  intro A x y vx vy u v T L c f l o1 o2 m;cases L with
  |int a =>
   cases f with
   |int b=>obtain⟨t,rfl⟩:=c;obtain⟨t',rfl⟩:=l;exact xB.ints A s a t b t'
   |_=>simp[gY]at m
  |str a =>
   cases f with
   |str b=>obtain⟨t,rfl⟩:=c;obtain⟨t',rfl⟩:=l;exact xB.texts A s a t b t'
   |_=>simp[gY]at m
  |_=>simp[gY]at m
 |succ n U =>
  intro A x y vx vy u v T L c f l o1 o2 m;have F:A.units<j9:=by lia
  have i:A.in1.units+n<j9:=by show A.units+1+n<j9;lia
  have G:∀(ds es:List D) (vs E:List V) (its j:List b7),Reps X.K ρ H ds vs->aw vs its->Reps X.K ρ H es E->aw E j->ds.all (w4 M n)=a9->es.all (w4 M n)=a9->wd (v4 M n) (gY M n) ds es=a9 -> LexAt A.in1 s its j (pC (v4 M n) (D6 M n) ds es):=by
   intro ds;induction ds with
   |nil =>
    intro es vs E its j p w o g _ _ _;cases p;cases w;cases o with
    |nil=>cases g;exact .nn
    |cons _ _=>cases g;exact .nc
   |cons d ds hi =>
    intro es vs E its j p w o g B C k;cases p with
    |cons N p =>
     cases w with
     |cons Q w =>
      cases o with
      |nil=>cases g;exact .cn
      |@cons e _ S _ P o =>
       cases g with
       |cons R g=>rw[LL,F3]at B C;have z:=(ma I Z n A.in1 d _ _ _ _ _ i N Q P R B.1 C.1).1;rw[pC];rw[wd]at k;by_cases q:v4 M n d e=a9;rw[q]at z;rw[p9 q]at k ⊢;exact .eq z<|hi _ _ _ _ _ p w o g B.2 C.2 k;have h:=LQ.mpr q;rw[h]at z;rw[r9 q]at k ⊢;exact .ne z<|U A.in1 _ _ _ _ _ _ i N Q P R B.1 C.1 k
  cases L with
  |int a =>
   cases f with
   |int b=>obtain⟨t,rfl⟩:=c;obtain⟨t',rfl⟩:=l;exact xB.ints A s a t b t'
   |_=>simp[gY]at m
  |str a =>
   cases f with
   |str b=>obtain⟨t,rfl⟩:=c;obtain⟨t',rfl⟩:=l;exact xB.texts A s a t b t'
   |_=>simp[gY]at m
  |tup q r =>
   cases f with
   |tup h r'=>cases c;cases l;obtain⟨its,Y,W,_⟩:=I.tuple q;obtain⟨j,O,J,_⟩:=I.tuple h;refine xB.tuples W J F ?_;exact G _ _ _ _ _ _ r Y r' O (by simpa [w4]using o1) (by simpa [w4]using o2) m
   |_=>simp[gY]at m
  |_=>simp[gY]at m
end
noncomputable def D9:Nat->D->Bool
 |_,.int _=>a9
 |_,.str _=>a9
 |n+1,.tup xs=>xs.all<|D9 n
 |_,_=>bt
noncomputable def Ha(f:D->List Int):List D->List Int
 | []=>[0]
 |x::xs=>1::(f x++Ha f xs)
noncomputable def G6:Nat->D->List Int
 |_,.int i=>[0,i]
 |_,.str x=>1::(x.cps.toList.map (λ(c:Nat)=>(c:Int)+1)++[0])
 |n+1,.tup xs=>2::Ha (G6 n) xs
 |_,_=>[3]
def cv(x y:List Int):Prop:=∀a b,x++a<y++b
theorem cv.cons(i:Int)(h:cv x y):cv (i::x) (i::y):=λa b=>MT.mpr<|.inr ⟨rfl,h a b⟩
theorem cv.head(x y:List Int)(h:i<j):cv (i::x) (j::y):=λa b=>MT.mpr<|.inl h
theorem cv.lt(h:cv x y):x<y:=by have:=h [] [];simpa using this
theorem cv.pre(z:List Int)(h:cv x y):cv (z++x) (z++y):=by
 induction z with
 |nil=>exact h
 |cons i z a=>exact a.cons i
theorem cv.more(u v:List Int)(h:cv x y):cv (x++u) (y++v):=λa b=>by rw[Ls,Ls];exact h _ _
def QZ(x y:D)(n:Nat)(l:Bool)(r:Bool):Prop:=(x=y/\l=bt/\r=bt)\/(x≠y/\l=a9/\r=bt/\cv (G6 n x) (G6 n y))\/(x≠y/\l=bt/\r=a9/\cv (G6 n y) (G6 n x))
theorem sy:∀(x y:List Nat),(x=y)\/(x<y/\¬y<x/\cv (x.map (λ(c:Nat)=>(c:Int)+1)++[0]) (y.map (λ(c:Nat)=>(c:Int)+1)++[0]))\/(¬x<y/\y<x/\cv (y.map (λ(c:Nat)=>(c:Int)+1)++[0]) (x.map (λ(c:Nat)=>(c:Int)+1)++[0]))
 | [],[]=>.inl rfl
 | [],c::y=>.inr<|.inl ⟨List.nil_lt_cons _ _,List.not_lt_nil _,cv.head _ _<|by dsimp only;lia⟩
 |c::x,[]=>.inr<|.inr ⟨List.not_lt_nil _,List.nil_lt_cons _ _,cv.head _ _<|by dsimp only;lia⟩
 |c::x,e::y=>by
  rcases Pf c e with h|h|h;refine .inr<|.inl ⟨MT.mpr<|.inl h,λz=>?_,cv.head _ _<|by dsimp only;lia⟩;rcases MT.mp z with z|⟨z,_⟩<;>lia
  subst h;rcases sy x y with q|⟨q1,q2,q3⟩|⟨q1,q2,q3⟩
  exact .inl (by rw[q]);refine .inr<|.inl ⟨MT.mpr<|.inr ⟨rfl,q1⟩,λz=>?_,q3.cons _⟩;rcases MT.mp z with z|⟨_,z⟩
  lia;exact q2 z;refine .inr<|.inr ⟨λz=>?_,MT.mpr<|.inr ⟨rfl,q2⟩,q3.cons _⟩;rcases MT.mp z with z|⟨_,z⟩
  lia;exact q1 z;refine .inr<|.inr ⟨λz=>?_,MT.mpr<|.inl h,cv.head _ _<|by dsimp only;lia⟩;rcases MT.mp z with z|⟨z,_⟩<;>lia
theorem Kb(M:v5):∀(n:Nat) (x y:D),D9 n x=a9->D9 n y=a9->(v4 M n x y=a9↔x=y):=by
 have l:∀(n:Nat),(∀(x y:D),D9 n x=a9->D9 n y=a9->(v4 M n x y=a9↔x=y))->∀(xs ys:List D),xs.all (D9 n)=a9->ys.all (D9 n)=a9->(E3 (v4 M n) xs ys=a9↔xs=ys):=by
  intro n i xs;induction xs with
  |nil=>intro ys _ _;cases ys<;>simp[E3]
  |cons x xs hi =>
   intro ys h1 h2;cases ys with
   |nil=>simp[E3]
   |cons y ys=>rw[LL,F3]at h1 h2;rw[E3,F3,i x y h1.1 h2.1,hi ys h1.2 h2.2,MP]
 intro n;induction n with
 |zero=>intro x y h1 h2;cases x<;>simp[D9]at h1<;>cases y<;>simp[D9]at h2<;>simp[v4]
 |succ n i =>
  intro x y h1 h2;cases x with
  |int a=>cases y<;>simp[D9]at h2<;>simp[v4]
  |str a=>cases y<;>simp[D9]at h2<;>simp[v4]
  |tup xs =>
   cases y with
   |tup ys=>simp only[v4,D.tup.injEq];exact l n i xs ys (by simpa [D9]using h1)<|by simpa [D9]using h2
   |int a=>simp[v4]
   |str a=>simp[v4]
   |_=>simp[D9]at h2
  |_=>simp[D9]at h1
theorem IG(M:v5):∀(n:Nat) (x:D),D9 n x=a9->w4 M n x=a9:=by
 intro n;induction n with
 |zero=>intro x h;cases x<;>simp[D9]at h<;>rfl
 |succ n i =>
  intro x h;cases x with
  |int a=>rfl
  |str a=>rfl
  |tup xs=>simp only[w4];rw[E7];intro y Q;exact i y<|E7.mp (show xs.all (D9 n)=a9 from h) y Q
  |_=>simp[D9]at h
theorem tri_D(M:v5):∀(n:Nat) (x y:D),D9 n x=a9->D9 n y=a9->gY M n x y=a9->QZ x y n (D6 M n x y) (D6 M n y x):=by
 have base:∀(n:Nat) (a b:Int),QZ (.int a) (.int b) n (decide<|a<b) (decide<|b<a):=λn a b=>by
  have e:∀a,G6 n (.int a)=[0,a]:=λa=>by cases n<;>rfl
  rcases Int.lt_trichotomy a b with h|h|h;exact .inr<|.inl ⟨by simp;lia,dT_ h,dF_ (by lia),by rw[e,e];exact(cv.head [] [] h).cons 0⟩;subst h;exact .inl ⟨rfl,dF_ (by lia),dF_<|by lia⟩;exact .inr<|.inr ⟨by simp;lia,dF_ (by lia),dT_ h,by rw[e,e];exact(cv.head [] [] h).cons 0⟩
 have s:∀(n:Nat) (a b:c7),QZ (.str a) (.str b) n (kU a b) (kU b a):=λn a b=>by
  have e:∀a:c7,G6 n (.str a)=1::(a.cps.toList.map (λ(c:Nat)=>(c:Int)+1)++[0]):=λa=>by cases n<;>rfl
  unfold kU;rcases sy a.cps.toList b.cps.toList with h|⟨h1,h2,d⟩|⟨h1,h2,d⟩
  have:a=b:=Et h;subst this;exact .inl ⟨rfl,dF_<|Oj _,dF_<|Oj _⟩;exact .inr<|.inl ⟨λz=>by cases z;exact h2 h1,dT_ h1,dF_ h2,by rw[e,e];exact d.cons 1⟩;exact .inr<|.inr ⟨λz=>by cases z;exact h1 h2,dF_ h1,dT_ h2,by rw[e,e];exact d.cons 1⟩
 intro n;induction n with
 |zero=>intro x y h1 h2 d;cases x<;>simp[D9]at h1<;>cases y<;>simp[D9]at h2<;>first|exact base 0 _ _|exact s 0 _ _|simp[gY]at d
 |succ n m =>
  intro x y h1 h2 d;have l:∀(xs ys:List D),xs.all (D9 n)=a9->ys.all (D9 n)=a9->wd (v4 M n) (gY M n) xs ys=a9 -> (xs=ys/\pC (v4 M n) (D6 M n) xs ys=bt/\pC (v4 M n) (D6 M n) ys xs=bt) \/ (xs≠ys/\pC (v4 M n) (D6 M n) xs ys=a9/\pC (v4 M n) (D6 M n) ys xs=bt/\cv (Ha (G6 n) xs) (Ha (G6 n) ys)) \/ (xs≠ys/\pC (v4 M n) (D6 M n) xs ys=bt/\pC (v4 M n) (D6 M n) ys xs=a9/\cv (Ha (G6 n) ys) (Ha (G6 n) xs)):=by
   intro xs;induction xs with
   |nil =>
    intro ys _ _ _;cases ys with
    |nil=>exact .inl ⟨rfl,rfl,rfl⟩
    |cons y ys=>exact .inr<|.inl ⟨by simp,rfl,rfl,cv.head _ _<|by decide⟩
   |cons x xs hi =>
    intro ys h1 h2 d;cases ys with
    |nil=>exact .inr<|.inr ⟨by simp,rfl,rfl,cv.head _ _<|by decide⟩
    |cons y ys =>
     rw[LL,F3]at h1 h2;rw[wd]at d;have i:=Kb M n x y h1.1 h2.1;have j:=Kb M n y x h2.1 h1.1;rw[pC,pC];by_cases q:x=y;subst q;rw[p9<|i.mpr rfl]at d;rw[p9<|i.mpr rfl,p9<|i.mpr rfl];rcases hi ys h1.2 h2.2 d with⟨C,f,g⟩|⟨C,f,g,t⟩|⟨C,f,g,t⟩
     exact .inl ⟨by rw[C],f,g⟩;exact .inr<|.inl ⟨λz=>C (OZ z).2,f,g,(t.pre<|G6 n x).cons 1⟩;exact .inr<|.inr ⟨λz=>C (OZ z).2,f,g,(t.pre<|G6 n x).cons 1⟩;have k:¬v4 M n x y=a9:=λz=>q<|i.mp z;have o:¬v4 M n y x=a9:=λz=>q (j.mp z).symm;rw[r9 k]at d;rw[r9 k,r9 o];rcases m x y h1.1 h2.1 d with⟨C,_⟩|⟨C,f,g,t⟩|⟨C,f,g,t⟩
     exact t4 C q;exact .inr<|.inl ⟨λz=>q (OZ z).1,f,g,(t.more _ _).cons 1⟩;exact .inr<|.inr ⟨λz=>q (OZ z).1,f,g,(t.more _ _).cons 1⟩
  cases x with
  |int a=>cases y<;>simp[D9]at h2<;>first|exact base (n+1) _ _|simp[gY]at d
  |str a=>cases y<;>simp[D9]at h2<;>first|exact s (n+1) _ _|simp[gY]at d
  |tup xs =>
   cases y with
   |tup ys =>
    rcases l xs ys (by simpa [D9]using h1) (by simpa [D9]using h2) d with⟨C,f,g⟩|⟨C,f,g,t⟩|⟨C,f,g,t⟩
    exact .inl ⟨by rw[C],f,g⟩;exact .inr<|.inl ⟨λz=>C<|D.tup.inj z,f,g,t.cons 2⟩;exact .inr<|.inr ⟨λz=>C<|D.tup.inj z,f,g,t.cons 2⟩
   |_=>simp[gY]at d
  |_=>simp[D9]at h1
theorem tU(h1:D9 n x=a9)(h2:D9 n y=a9)(h:gY M n x y=a9):D6 M n x y=decide (G6 n x<G6 n y):=by
 rcases tri_D M n x y h1 h2 h with⟨C,a,b⟩|⟨C,a,b,t⟩|⟨C,a,b,t⟩
 subst C;rw[a,dF_<|Oj _];rw[a,dT_ t.lt];rw[a,dF_<|λz=>Oj _<|List.lt_trans z t.lt]
end L2
namespace L2
open PySem PySem.Spec PyProof.Rows DL PySem.W
section
variable{X:Cx}{pins:List (d5×d6)}{σ:St}{H:Hp}{s:f7}
theorem u6.laidF(I:u6 X pins σ H s)(k:∀b u,b≠X.env.locals->s.heap.get? b=a7 u->h'.get? b=a7 u)(p:s.heap.Ns X.env.locals m)(h:h'.Ns X.env.locals m)(hp:s.heap.get? a=a8) (f:H a=a8) (j:bE X.prog X.w (z5 H a o) h' a o):u6 X pins σ (z5 H a o) { s with heap:=h',toks:=t' }:=by
 have i:∀b u,s.heap.get? b=a7 u->b≠a:=λb u e z=>by subst z;rw[hp]at e;cases e
 refine I.step (g':=s.gens) (d':=s.drawn) (ch:=[]) (λ_ z=>nomatch z) (λb u L _ _ e _=>k b u L e) (λb u L _ _ e _=>⟨u.slots,k b u L e⟩) (λb u _ e n=>by rw[ar<|i b u e];exact n) (λb u _ e=>?_) (λb xs q=>by rw[ar<|ad q f];exact q) (λb u xs q=>by rw[ar<|ad q f];exact q) (λb ps q=>⟨#[],by rw[ar<|ad q f,q];simp⟩) (λt l=>?_) (λb w q=>?_) I.bare;by_cases d:b=X.env.locals;subst d;obtain⟨o',_,_,B,_⟩:=h;exact⟨o',B⟩;exact⟨u,k b u d e⟩;have:m=t:=funext λx=>p.agree l x;subst this;exact h;by_cases d:b=a;subst d;rw[aK]at q;cases q;exact j;rw[ar d]at q;refine(I.hok b w q).stay (λc v g r=>k c v ?_ r) (λc z=>by rw[ar<|ad z f];exact z) λc xs z=>by rw[ar<|ad z f];exact z
 rcases g with rfl|g;exact ad q I.free;exact ad g I.free
theorem u6.keptF(I:u6 X pins σ H s)(k:∀b u,b≠X.env.locals->s.heap.get? b=a7 u->h'.get? b=a7 u)(i:s.heap.Ns X.env.locals m)(a:h'.Ns X.env.locals m):u6 X pins σ H { s with heap:=h',toks:=t' }:=by refine I.step (g':=s.gens) (d':=s.drawn) (ch:=[]) (λ_ z=>nomatch z) (λb u h _ _ e _=>k b u h e) (λb u h _ _ e _=>⟨u.slots,k b u h e⟩) (λb u _ e n=>n) (λb u _ e=>?_) (λb xs q=>q) (λb u xs q=>q) (λb ps q=>⟨#[],by rw[q];simp⟩) (λj g=>?_) (λb w q=>?_) I.bare;by_cases d:b=X.env.locals;subst d;obtain⟨o',_,_,B,_⟩:=a;exact⟨o',B⟩;exact⟨u,k b u d e⟩;have:m=j:=funext λx=>i.agree g x;subst this;exact a;refine(I.hok b w q).stay (λc v f r=>k c v ?_ r) (λc z=>z) λc xs z=>z;rcases f with rfl|f;exact ad q I.free;exact ad f I.free
end
section
variable{prog:c9}{w:c8}{A:f6}{E:b7->f7->Prop}{s:f7}
theorem qG{l:d5}{vs:List b7}{Q:b7->f7->Prop}(u:s.heap.IsList l vs.toArray)(h2:vs.length<2)(h:∀D h' n,s.heap.objs.size<=D->(∀b o,s.heap.get? b=a7 o->h'.get? b=a7 o)->h'.get? D=a7 { cls:=.type "list",data:=.seq vs.toArray n }->Q (.ref D) { s with heap:=h' }):ge (g9 prog w) A (call (.builtin "sorted")<|[E6 l]) Q E s:=by
 have f:vs.length<=sizeLine:=by rw[Mb];lia
 refine Calls.call_function_entry kind_sorted plain_sorted entry_sorted (args_sorted1<|.ref l) ?_;unfold Builtin.«sorted»;refine u4 (m:=checkCount "sorted" 1 1 _)<|u8<|u4<|collect_list u (u4<|wpAny_newList ?_ f) f;generalize R:((s.heap.push<|o5 "list" #[] 0).update s.heap.objs.size (Ly (· ++ vs.toArray)))=g1;have z:g1.objs.size=s.heap.objs.size+1:=by rw[<-R,Heap.size_update,size_push']
 have B:∀b o,s.heap.get? b=a7 o->g1.get? b=a7 o:=λb o q=>by have d:=A0 q;rw[<-R,Pm _ _ _ _<|A3 d,Heap.get?_push_ne _ _ _<|A3 d];exact q
 show ge _ _ _ _ _ { s with heap:=g1.push (o5 "list" vs.toArray 0) };have L:(g1.push<|o5 "list" vs.toArray 0).get? g1.objs.size=a7 (o5 "list" vs.toArray 0):=C5 _ rfl;refine u4<|F7<|J4 slot_list_sort (⟨_,L,rfl⟩) entry_list_sort ?body<|args_list_sort<|.ref _
 case body =>
  rw[list_sort_plain];refine u4<|listItems_at L rfl ?_;refine u4<|listUpdate_at L rfl ?_ (by rw[B7,Mb];lia)<|C4 _;obtain⟨k,e⟩:∃k,((g1.push<|o5 "list" vs.toArray 0).update g1.objs.size<|Ly λ_=>(#[]:Array b7)).get? g1.objs.size=a7 (o5 "list" #[] k):=⟨_,P6 L λ_=>#[]⟩
  refine u4<|seqEpoch_at e rfl<|u4<|wpAny_newTuple (u4<|wpAny_newList (F7 ?_)<|C4 _) f;dsimp only;have g:vs.toArray.size<2:=by rw[B7];exact h2
  rw[p9 g,p9 g];refine u4<|u8 ?_;rw[StateT.run_pure];refine u4<|u8 ?_;dsimp only;generalize c:(((g1.push<|o5 "list" vs.toArray 0).update g1.objs.size<|Ly λ_=>(#[]:Array b7)).push<|o5 "tuple" vs.toArray 0).push (o5 "list" #[] 0)=g3;have a:g3.get? g1.objs.size=a7 (o5 "list" #[] k):=by rw[<-c];exact z6 _<|z6 _ e
  have x:∀b o,b≠g1.objs.size->s.heap.get? b=a7 o->g3.get? b=a7 o:=λb o i q=>by have y:=B b o q;rw[<-c];refine z6 _<|z6 _ ?_;rw[Pm _ _ _ _ i];exact z6 _ y
  refine u4<|seqEpoch_at a rfl ?_;have r:∀us:List b7,us.length<2->(us.toArray.zip us.toArray).map (·.2)=us.toArray:=λus hu=>by
   match us,hu with
   | [],_=>simp
   | [v],_=>simp
   |_::_::_,hu=>simp at hu;lia
  have t:(arrOf<|SortSt.mk' general' (vs.toArray.zip vs.toArray) #[] 7 a8).map (·.2)=vs.toArray:=r vs h2;rw[t];refine u4 (listUpdate_at a rfl ?_ (C4 _)<|by rw[B7,Mb];lia);simp only[show failedOf (SortSt.mk' general' (vs.toArray.zip vs.toArray) #[] 7 a8)=a8 from rfl,bne_self_eq_false,A8,t7];refine u8 ⟨_,rfl,u8 ⟨_,rfl,?_⟩⟩;obtain⟨j,p⟩:∃j,(g3.update g1.objs.size<|Ly λ_=>vs.toArray).get? g1.objs.size=a7 (o5 "list" vs.toArray j):=⟨_,P6 a λ_=>vs.toArray⟩
  refine h g1.objs.size _ j (by lia) (λb o q=>?_) p;have i:b≠g1.objs.size:=A3 (by rw[z];exact NN<|A0 q);rw[Pm _ _ _ _ i];exact x b o i q
end
structure SrtOk(M:v5)(xs:List D):Prop where
 len:xs.length<64
 ok:∀x∈xs,D9 w6 x=a9
 cm:∀x∈xs,∀y∈xs,gY M w6 x y=a9
 kd:(∀x∈xs,∃z,x=.str z)\/(∀x∈xs,∃i,x=.int i)\/(∀x∈xs,∃z r,x=.tup (.str z::r))\/(∀x∈xs,∃i r,x=.tup (.int i::r))\/(∀x∈xs,∃z r,x=.tup (.tup z::r))
structure SrtG(M:v5)(xs:List D):Prop where
 len:xs.length<64
 okd:∀x∈xs,w4 M w6 x=a9
 cm:∀x∈xs,∀y∈xs,gY M w6 x y=a9
 kd:(∀x∈xs,∃z,x=.str z)\/(∀x∈xs,∃i,x=.int i)\/(∀x∈xs,∃z r,x=.tup (.str z::r))\/(∀x∈xs,∃i r,x=.tup (.int i::r))\/(∀x∈xs,∃z r,x=.tup (.tup z::r))
 od:∃en:D->List Int,∀a∈xs,∀b∈xs,D6 M w6 a b=decide (en a<en b)
theorem SrtOk.g(o:SrtOk M xs):SrtG M xs:=⟨o.len,λx h=>IG M _ _<|o.ok x h,o.cm,o.kd,G6 w6,λa f b d=>tU (o.ok a f) (o.ok b d)<|o.cm a f b d⟩
def Hb(M:v5)(ys:List D):Prop:=ys.Pairwise λa b=>D6 M w6 b a=bt
def iS:E1:=λds M Q=>match ds with
 | [.ref n]=>∃xs,am M n xs/\SrtG M xs/\∀ys,ys.Perm xs->Hb M ys->Q (.ref M.length) (M++[.lst ys])
 |_=>False
theorem Reps.perm{K:v6}{ρ:List d5}{H:Hp}{ds:List D}{vs:List V}(r:Reps K ρ H ds vs)(is:List Nat)(hi:∀i∈is,i<ds.length):Reps K ρ H (is.map λi=>ds.getD i .non) (is.map λi=>vs.getD i .non):=by
 induction is with
 |nil=>exact .nil
 |cons i is a=>have h:=hi i Fn;obtain⟨v,e,d⟩:=r.get<|z9 h;refine .cons ?_<|a λj L=>hi j<|D0 _ L;show v7 K ρ H (ds.getD i .non) (vs.getD i .non);rw[Lf,Lf,e,z9 h];exact d
theorem aw.perm(r:aw vs us)(is:List Nat)(hi:∀i∈is,i<vs.length):aw (is.map λi=>vs.getD i .non) (is.map λi=>us.getD i .none):=by
 induction is with
 |nil=>exact .nil
 |cons i is a=>have h:=hi i Fn;obtain⟨v,e,d⟩:=ic r<|z9 h;refine .cons ?_<|a λj L=>hi j<|D0 _ L;show aJ (vs.getD i .non) (us.getD i .none);rw[Lf,Lf,e,z9 h];exact d
instance:Inhabited D:=⟨.non⟩
section
variable{X:Cx}{pins:List (d5×d6)}{σ:St}{H:Hp}{s:f7}{ρ:List d5}{M:v5}
theorem Fo(o:HO)(x:bE P w H h a o):∃u,h.get? a=a7 u:=by
 cases o with
 |lst _=>obtain⟨_,_,_,_,e⟩:=x;exact⟨_,e⟩
 |tup _=>obtain⟨_,_,_,o,e,_⟩:=x;exact⟨o,e⟩
 |dK _=>obtain⟨_,_,_,_,_,_,_,e,_⟩:=x;exact⟨_,e⟩
 |dT _=>obtain⟨_,_,_,_,o,_,_,e,_⟩:=x;exact⟨o,e⟩
 |set _ _=>obtain⟨o,_,_,_,e,_⟩:=x;exact⟨_,e⟩
 |ins _ _ _=>obtain⟨_,_,_,e,_⟩:=x;exact⟨_,e⟩
 |own _=>exact x
 |xd _=>obtain⟨_,⟨_,_,_,e,_⟩,_⟩:=x;exact⟨_,e⟩
 |rng _ _=>obtain⟨_,_,_,e⟩:=x;exact⟨_,e⟩
 |frz _ _=>obtain⟨e,_⟩:=x;exact⟨_,e⟩
 |tbl _=>exact⟨_,x⟩
 |met _ _=>exact⟨_,x⟩
 |ext _=>obtain⟨_,e,_⟩:=x;exact e
theorem D4.none(x:D4 P w H h)(e:h.get? a=a8):H a=a8:=by
 cases q:H a with
 |none=>rfl
 |some o=>exfalso;obtain⟨u,g⟩:=Fo o<|x a o q;rw[e]at g;cases g
theorem Fv(I:u6 X pins σ H s)(m:w9 X.K ρ M H)(n:Nat)(A:f6)(u:A.units+n<j9):∀(ds es:List D) (vs ws:List V) (its jts:List b7),Reps X.K ρ H ds vs->aw vs its->Reps X.K ρ H es ws->aw ws jts->ds.all (w4 M n)=a9->es.all (w4 M n)=a9 ->wd (v4 M n) (gY M n) ds es=a9->LexAt A s its jts (pC (v4 M n) (D6 M n) ds es):=by
 intro ds;induction ds with
 |nil =>
  intro es vs ws its jts p b j g _ _ _;cases p;cases b;cases j with
  |nil=>cases g;exact .nn
  |cons _ _=>cases g;exact .nc
 |cons d ds hi =>
  intro es vs ws its jts p b j g B C k;cases p with
  |cons a p =>
   cases b with
   |cons f b =>
    cases j with
    |nil=>cases g;exact .cn
    |@cons e _ o _ c j =>
     cases g with
     |cons l g=>rw[LL,F3]at B C;have i:=(ma I m n A d _ _ _ _ _ u a f c l B.1 C.1).1;rw[pC];rw[wd]at k;by_cases q:v4 M n d e=a9;rw[q]at i;rw[p9 q]at k ⊢;exact .eq i<|hi _ _ _ _ _ p b j g B.2 C.2 k;have h:=LQ.mpr q;rw[h]at i;rw[r9 q]at k ⊢;exact .ne i<|DJ I m n A _ _ _ _ _ _ u a f c l B.1 C.1 k
end
section
variable{prog:c9}{w:c8}{A:f6}{s:f7}{b:Bool}{Q:Bool->f7->Prop}
theorem Ck(h:LexAt A s its jts k):∀(i:Nat),(b&&i==0)=bt->(b&&i+1==0)=bt->Q k s->KatLex prog w A b (decide<|its.length<jts.length) Q (its.zip jts) i s:=by
 have n:∀i:Nat,(b&&i+1==0)=bt:=λi=>by cases b<;>simp
 induction h with
 |nn=>intro i _ _ q;exact q
 |nc=>intro i _ _ q;exact(show Q (decide<|0<_+1) s by rw[dT_<|Nat.succ_pos _];exact q)
 |cn=>intro i _ _ q;exact(show Q (decide<|_+1<0) s by rw[dF_<|M8 _];exact q)
 |@eq x y xs ys k e t a=>intro i d _ q;refine kat_cons<|e prog w _ _<|kat_yes ?_;have:=a (i+1) (n i) (n<|i+1) q;rw[show decide ((x::xs).length<(y::ys).length)=decide (xs.length<ys.length) by simp];exact this
 |@ne x y xs ys k e t=>intro i d _ q;refine kat_cons<|e prog w _ _<|kat_no ?_;rw[d];exact kat_one _ _<|t prog w _ _ q
theorem zE(i:Ma A s p q e)(g:e=bt->∀Q':Bool->f7->Prop,Q' l s->ge (g9 prog w) A (oneLt' (b&&0==0) p q) Q' (λ_ _=>False) s)(D:e=a9->LexAt A s its jts k)(h:Q (if e=a9 then k else l) s):KatLex prog w A b (decide<|(p::its).length<(q::jts).length) Q ((p::its).zip<|q::jts) 0 s:=by
 refine kat_cons<|i prog w _ _ ?_;cases e with
 |true=>refine kat_yes ?_;rw[show decide ((p::its).length<(q::jts).length)=decide (its.length<jts.length) by simp];exact Ck (D rfl) 1 (by cases b<;>rfl) (by cases b<;>rfl) h
 |false=>exact kat_no<|g rfl _ h
end
section
variable{X:Cx}{pins:List (d5×d6)}{σ:St}{H:Hp}{s:f7}{ρ:List d5}{M:v5}
theorem rF{M:Model}{h:d7}{x:c7}{t:Tok}:Looks M h (m8<|.str x t) (.type "str"):=Looks.of_pure rfl
theorem rG{M:Model}{h:d7}{x:Int}{t:Tok}:Looks M h (m8<|.int x t) (.type "int"):=Looks.of_pure rfl
theorem Reps.getD'(r:Reps X.K ρ H ds vs)(d:aw vs its)(h:i<ds.length):∃v,v7 X.K ρ H (ds.getD i default) v/\aJ v (its.getD i .none)/\ds.getD i default∈ds:=by obtain⟨v,e,b⟩:=r.get<|z9 h;obtain⟨u,a,T⟩:=ic d e;refine⟨v,?_,?_,?_⟩;rw[Lf,z9 h];exact b;rw[Lf,a];exact T;rw[Lf,z9 h];exact LZ h
theorem Reps.mem(r:Reps X.K ρ H ds vs)(b:aw vs its)(h:u∈its):∃d v,d∈ds/\v7 X.K ρ H d v/\aJ v u:=by
 induction ds generalizing vs its with
 |nil=>cases r;cases b;cases h
 |cons g ds i =>
  cases r with
  |cons f r =>
   cases b with
   |cons e q=>rcases(A4 (a:=u)).mp h with rfl|h;exact⟨_,_,Fn,f,e⟩;obtain⟨d,v,h1,h2,c⟩:=i r q h;exact⟨d,v,D0 _ h1,h2,c⟩
theorem uj(I:u6 X pins σ H s)(r:Reps X.K ρ H xs ws)(b:aw ws its)(a:∀x∈xs,∃f r,x=.tup (f::r)):∃fs,KatTups s.heap its fs/\fs.length=its.length/\∀u∈fs,∃d v,v7 X.K ρ H d v/\aJ v u/\∃r,D.tup (d::r)∈xs:=by
 induction xs generalizing ws its with
 |nil=>cases r;cases b;exact⟨[],.nil,rfl,λ_ z=>nomatch z⟩
 |cons d ds w =>
  cases r with
  |cons E r =>
   cases b with
   |cons A q =>
    obtain⟨fs,h1,h2,j⟩:=w r q λx h=>a x<|D0 _ h;obtain⟨f,aL,rfl⟩:=a d Fn;cases E with
    |tup p c =>
     cases A;obtain⟨its,e,y,F⟩:=I.tuple p;cases c with
     |cons C c =>
      cases e with
      |cons i e=>obtain⟨o,B,k,n,m⟩:=y;refine⟨_::fs,.cons B k m rfl h1,by simp[h2],λu g=>?_⟩;rcases A4.mp g with rfl|g;exact⟨_,_,C,i,_,Fn⟩;obtain⟨d,v,t,l,r',Q⟩:=j u g;exact⟨d,v,t,l,r',D0 _ Q⟩
noncomputable def ltc(M:v5)(xs:List D)(i j:Nat):Bool:=D6 M w6 (xs.getD i default)<|xs.getD j default
theorem qH(I:u6 X pins σ H s)(sm:w9 X.K ρ M H){xs:List D}{ws:List V}{its:List b7}(so:SrtG M xs)(r:Reps X.K ρ H xs ws)(J:aw ws its)(h2:2<=its.length){A:f6}(P:A.units+w6<j9):ge (g9 X.prog X.w) A (keyKind' its.toArray) (λκ s'=>s'=s/\∀i j (C:Bool->f7->Prop),i<its.length->j<its.length->C (ltc M xs i j) s->kas_ask X.prog X.w A κ its i j C s) (λ_ _=>False) s:=by
 have lw:=r.length;have li:=J.length;have le:xs.length=its.length:=by lia
 have O:∀(b:Bool),(∀x∈xs,∃f r,x=.tup (f::r))->(∀(f g:D) (vf vg:V) (p q:b7) (r r':List D),D.tup (f::r)∈xs->D.tup (g::r')∈xs->v7 X.K ρ H f vf->aJ vf p->v7 X.K ρ H g vg->aJ vg q -> (v4 M 29 f g=bt->∀Q':Bool->f7->Prop,Q' (D6 M 29 f g) s->ge (g9 X.prog X.w) A (oneLt' (b&&0==0) p q) Q' (λ_ _=>False) s)) -> ∀i j (C:Bool->f7->Prop),i<its.length->j<its.length->C (ltc M xs i j) s->kas_ask X.prog X.w A (tuples' b) its i j C s:=by
  intro b F ab i j C hi hj E;unfold kas_ask;obtain⟨v1,c,m,U⟩:=r.getD' J (show i<xs.length by lia);obtain⟨v2,G,L,B⟩:=r.getD' J (show j<xs.length by lia);unfold ltc at E;have k1:=so.okd _ U;have k2:=so.okd _ B;have k3:=so.cm _ U _ B;generalize xs.getD i default=x at *;generalize xs.getD j default=y at *;obtain⟨f,rf,rfl⟩:=F _ U;obtain⟨g,rg,rfl⟩:=F _ B;cases c with
  |tup S rs =>
   cases G with
   |tup aS Z =>
    generalize its.getD i .none=u1 at *;generalize its.getD j .none=u2 at *;cases m;cases L;obtain⟨as,ra,pa,_⟩:=I.tuple S;obtain⟨bs,rb,pb,_⟩:=I.tuple aS;obtain⟨o,ho,_,n,hd⟩:=pa;obtain⟨o',aD,_,n',an⟩:=pb;refine kat_lt ho hd aD an ?_;cases rs with
    |cons a1 rs =>
     cases ra with
     |@cons _ p _ la b1 ra =>
      cases Z with
      |cons a2 Z =>
       cases rb with
       |@cons _ q _ lb b2 rb =>
        have ai:A.units+29<j9:=by have:w6=30:=rfl;lia
        have z1:w4 M 29 f=a9/\rf.all (w4 M 29)=a9:=by
         have:(f::rf).all (w4 M 29)=a9:=k1
         rwa [LL,F3]at this
        have z2:w4 M 29 g=a9/\rg.all (w4 M 29)=a9:=by
         have:(g::rg).all (w4 M 29)=a9:=k2
         rwa [LL,F3]at this
        have z3:(if v4 M 29 f g=a9 then wd (v4 M 29) (gY M 29) rf rg else gY M 29 f g)=a9:=k3;have he:=(ma I sm 29 A _ _ _ _ _ _ ai a1 b1 a2 b2 z1.1 z2.1).1;have R:C (if v4 M 29 f g=a9 then pC (v4 M 29) (D6 M 29) rf rg else D6 M 29 f g) s:=E;cases W:v4 M 29 f g with
        |true=>rw[W]at he R z3;have:=zE (prog:=X.prog) (w:=X.w) (b:=b) (Q:=C) (l:=a9) he (λz=>nomatch z) (λ_=>Fv I sm 29 A ai _ _ _ _ _ _ rs ra Z rb z1.2 z2.2 z3) R;simpa using this
        |false=>rw[W]at he R;have:=zE (prog:=X.prog) (w:=X.w) (b:=b) (Q:=C) (l:=D6 M 29 f g) (its:=la) (jts:=lb) (k:=a9) he (λ_=>ab f g _ _ _ _ _ _ U B a1 b1 a2 b2 W) (λz=>nomatch z) R;simpa using this
 have N:∀(κ:SortKind),(∀i j (C:Bool->f7->Prop),i<its.length->j<its.length->C (ltc M xs i j) s->kas_ask X.prog X.w A κ its i j C s)->(s=s/\∀i j (C:Bool->f7->Prop),i<its.length->j<its.length->C (ltc M xs i j) s->kas_ask X.prog X.w A κ its i j C s):=λκ h=>⟨rfl,h⟩
 have al:A.units+29<j9:=by have:w6=30:=rfl;lia
 rcases so.kd with a|a|a|a|a;refine kas_kind (T:=.type "str") h2 (λu P=>?_) (by decide) (by decide)<|N _ λi j C hi hj E=>?_;obtain⟨d,v,U,c,m⟩:=r.mem J P;obtain⟨z,rfl⟩:=a d U;cases c;obtain⟨t,rfl⟩:=m;exact rF;unfold kas_ask;obtain⟨v1,c,m,U⟩:=r.getD' J (show i<xs.length by lia);obtain⟨v2,G,L,B⟩:=r.getD' J (show j<xs.length by lia);unfold ltc at E;obtain⟨z,hz⟩:=a _ U;obtain⟨z',Y⟩:=a _ B;rw[hz]at c E;rw[Y]at G E;cases c;cases G;obtain⟨t,h1⟩:=m;obtain⟨t',h2⟩:=L;rw[h1,h2];exact kas_lt_str E;refine kas_kind (T:=.type "int") h2 (λu P=>?_) (by decide) (by decide)<|N _ λi j C hi hj E=>?_;obtain⟨d,v,U,c,m⟩:=r.mem J P;obtain⟨z,rfl⟩:=a d U;cases c;obtain⟨t,rfl⟩:=m;exact rG;unfold kas_ask;obtain⟨v1,c,m,U⟩:=r.getD' J (show i<xs.length by lia);obtain⟨v2,G,L,B⟩:=r.getD' J (show j<xs.length by lia);unfold ltc at E;obtain⟨z,hz⟩:=a _ U;obtain⟨z',Y⟩:=a _ B;rw[hz]at c E;rw[Y]at G E;cases c;cases G;obtain⟨t,h1⟩:=m;obtain⟨t',h2⟩:=L;rw[h1,h2];exact kat_lt_int E;obtain⟨fs,t1,t2,t3⟩:=uj I r J λx F=>(a x F).elim λz ⟨r,e⟩=>⟨_,_,e⟩
 refine kat_kind (T:=.type "str") t1 (by lia) (λu P=>?_) (by decide)<|N _<|O _ (λx F=>(a x F).elim λz ⟨r,e⟩=>⟨_,_,e⟩) λf g vf vg p q r r' U B c m G L S Q' h=>?_;obtain⟨d,v,c,m,r',U⟩:=t3 u P;obtain⟨z,aj,e⟩:=a _ U;cases e;cases c;obtain⟨t,rfl⟩:=m;exact rF;obtain⟨z,_,e⟩:=a _ U;cases e;obtain⟨z',_,e'⟩:=a _ B;cases e';cases c;cases G;obtain⟨t,rfl⟩:=m;obtain⟨t',rfl⟩:=L;exact oneLt_str h;obtain⟨fs,t1,t2,t3⟩:=uj I r J λx F=>(a x F).elim λz ⟨r,e⟩=>⟨_,_,e⟩
 refine kat_kind (T:=.type "int") t1 (by lia) (λu P=>?_) (by decide)<|N _<|O _ (λx F=>(a x F).elim λz ⟨r,e⟩=>⟨_,_,e⟩) λf g vf vg p q r r' U B c m G L S Q' h=>?_;obtain⟨d,v,c,m,r',U⟩:=t3 u P;obtain⟨z,aj,e⟩:=a _ U;cases e;cases c;obtain⟨t,rfl⟩:=m;exact rG;obtain⟨z,_,e⟩:=a _ U;cases e;obtain⟨z',_,e'⟩:=a _ B;cases e';cases c;cases G;obtain⟨t,rfl⟩:=m;obtain⟨t',rfl⟩:=L;exact oneLt_int h;obtain⟨fs,t1,t2,t3⟩:=uj I r J λx F=>(a x F).elim λz ⟨r,e⟩=>⟨_,_,e⟩
 refine kat_kind (T:=.type "tuple") t1 (by lia) (λu P=>?_) (by decide)<|N _<|O _ (λx F=>(a x F).elim λz ⟨r,e⟩=>⟨_,_,e⟩) λf g vf vg p q r r' U B c m G L S Q' h=>?_;obtain⟨d,v,c,m,r',U⟩:=t3 u P;obtain⟨z,aj,e⟩:=a _ U;cases e;cases c with
 |tup S rs=>cases m;obtain⟨_,_,pl,_⟩:=I.tuple S;obtain⟨o,ho,E,_⟩:=pl;rw[<-E];exact(show Looks _ s.heap (m8<|.ref _) o.cls from(Looks.ld ho).andThen .now)
 have k1:w4 M 29 f=a9:=by have:(f::r).all (w4 M 29)=a9:=so.okd _ U;rw[LL,F3]at this;exact this.1
 have k2:w4 M 29 g=a9:=by have:(g::r').all (w4 M 29)=a9:=so.okd _ B;rw[LL,F3]at this;exact this.1
 have k3:(if v4 M 29 f g=a9 then wd (v4 M 29) (gY M 29) r r' else gY M 29 f g)=a9:=so.cm _ U _ B;rw[S]at k3;exact kat_one _ _<|DJ I sm 29 A _ _ _ _ _ _ al c m G L k1 k2 k3 _ _ _ _ h
end
section
variable{X:Cx}{pins:List (d5×d6)}{σ:St}{H:Hp}{s:f7}{ρ:List d5}{M:v5}
theorem Iv(o:SrtG M xs):(∀a∈xs,D6 M w6 a a=bt)/\(∀a∈xs,∀b∈xs,∀d∈xs,D6 M w6 a b=a9->D6 M w6 b d=a9->D6 M w6 a d=a9)/\∀a∈xs,∀b∈xs,∀d∈xs,D6 M w6 a d=a9->D6 M w6 a b=a9\/D6 M w6 b d=a9:=by obtain⟨n,e⟩:=o.od;refine⟨λa f=>?_,λa f b c d g h1 h2=>?_,λa f b c d g h=>?_⟩;rw[e a f a f,dF_<|Oj _];rw[e a f b c,t5]at h1;rw[e b c d g,t5]at h2;rw[e a f d g,t5];exact List.lt_trans h1 h2;rw[e a f d g,t5]at h;rw[e a f b c,e b c d g,t5,t5];by_cases z:n a<n b;exact .inl z;have G:n b<=n a:=z;exact .inr<|List.lt_of_le_of_lt G h
theorem Bm{k:Nat}{l:d5}{xs:List D}{F:List V}{its:List b7}{R:VK}(hr:Room k X.A)(I:u6 X pins σ H s)(sm:w9 X.K ρ M H)(so:SrtG M xs)(r:Reps X.K ρ H xs F)(P:aw F its)(Z:s.heap.IsList l its.toArray)(hz:F.length<=sizeLine)(h2:2<=its.length)(G:its.length<64)(E:l≠X.env.locals) (kk:∀v H',((∀Q:DK,(∀ys,ys.Perm xs->Hb M ys->Q (.ref M.length) (M++[.lst ys]))->VQ X.K ρ H Q v H'))->R v H'):ge (g9 X.prog X.w) X.A (call (.builtin "sorted") [.ref l]) (EP X pins σ R) X.xe s:=by
 obtain⟨m,O,hm⟩:=I.loc;have lw:=r.length;have li:=P.length;obtain⟨ol,f,_⟩:=id Z;have g:∀a o,(a,o)∈[]++(l,ol)::Att.ledger s.heap X.env.locals l↔a≠X.env.locals/\s.heap.get? a=a7 o:=λa o=>by rw[K9,A4,Att.mem_ledger];constructor;rintro(h|⟨h1,_,h3⟩);cases h;exact⟨E,f⟩;exact⟨h1,h3⟩;rintro⟨h1,h2⟩;by_cases z:a=l;subst z;rw[f]at h2;cases h2;exact .inl rfl;exact .inr ⟨h1,z,h2⟩
 refine kat_sorted (Att.fr_all O) (Att.news_ledger E f) Z h2 G λD e1 h' T N lt=>?_;have kp:∀b u,b≠X.env.locals->s.heap.get? b=a7 u->h'.get? b=a7 u:=λb u J e=>(N (b,u)<|D0 _<|(g b u).mpr ⟨J,e⟩).1;have L:D≠X.env.locals:=(N _ Fn).2.1;have W:s.heap.get? D=a8:=by
  cases q:s.heap.get? D with
  |none=>rfl
  |some o=>exact t4 (lt (D,o)<|(g D o).mpr ⟨L,q⟩)<|G8 _
 have I':u6 X pins σ H { s with heap:=h' }:=I.keptF (t':=s.toks) kp O T.ns;have hu:X.A.in1.in1.units+w6<j9:=by have:=hr.un;have:w6=30:=rfl;show X.A.units+1+1+w6<j9;lia
 refine G3 (qH I' sm so r P h2 hu) (λκ s' hk=>?_) λ_ _ x=>x;obtain⟨rfl,B⟩:=hk;refine Srt.wp_run (n:=its.length) (c:=λi j=>if i<xs.length then(if j<xs.length then D6 M w6 (xs.getD i default) (xs.getD j default)else a9)else bt) (λi j C hi hj Y=>?_) _ (Srt.sort_bd<|by lia).1 ?_;refine B i j C hi hj ?_;rw[p9 (by lia),p9<|by lia]at Y;exact Y;have t:=Srt.All.run (c:=λi j=>if i<xs.length then(if j<xs.length then D6 M w6 (xs.getD i default) (xs.getD j default)else a9)else bt) _ (Srt.sort_bd (n:=its.length)<|by lia).2;obtain⟨o1,o2,o3⟩:=Iv so;have d:=Srt.sort_list xs (by lia) o1 o2 o3
 try dsimp only at d
 rw[show xs.length=its.length by lia]at d t ⊢;generalize Srt.run _ (MX its.length)=p at t d ⊢;have hi:∀i∈p.toList,i<xs.length:=λi h=>by have:=t.mem_iff.mp h;rw[Ix]at this;lia
 refine KasFin.intro T N (UpdF.head λq hq=>A3<|lt q hq) λh2 c F2 U=>?_;have r':=r.perm p.toList hi;have S:=P.perm p.toList (λi h=>by have:=hi i h;lia);have y:H D=a8:=D4.none I.hok W;refine⟨.ref D,_,I.laidF (t':=s.toks) (o:=.lst<|p.toList.map λi=>F.getD i .non) (λb u J e=>(U (b,u)<|D0 _<|(g b u).mpr ⟨J,e⟩).1) O F2.ns W y ⟨?_,_,c,S,(U _ Fn).1⟩,rfl,kk _ _ λQ hQ=>VQ.laidL sm .refl r' y<|hQ _ d.1 d.2⟩;rw[x3];have:=d.1.length_eq;rw[x3]at this;lia
end
theorem u6.sqL_ne(I:u6 X pins σ H s)(h:J0 X.K H a xs):a≠X.env.locals:=by
 rcases h with h|⟨o,its,n,k,_⟩
 rcases h with h|⟨_,h⟩
 exact ad h I.free;exact ad h I.free;have:=A0<|I.mod.kin a o k;exact A3<|G9 this<|H9 I.ok.bsz I.ok.above
section
variable{X:Cx}
theorem Ap(i:Room k X.A):iO X (.builtin "sorted") iS:=by
 rintro p s σ H vs us R I j ⟨ds,M,ρ,Q,m,rs,q,c⟩;unfold iS at q;split at q;obtain⟨xs,L,f,q⟩:=q;cases rs with
 |cons r1 rs =>
  cases rs;obtain⟨u,rfl,t⟩:=aw.one j;cases r1 with
  |ref e =>
   cases t;obtain⟨w,b,r⟩:=am.seq m L e;obtain⟨its,d,l,z⟩:=I.list b;have C:=r.length;have y:=d.length;by_cases h2:its.length<2;refine qG l.isList h2 λD h' n a g B=>?_;refine⟨.ref D,_,I.laid (t':=s.toks) (o:=.lst w) g a ⟨z,its,n,d,B⟩,rfl,c _ _<|VQ.laidL m .refl r (I.hok.fresh a)<|q xs (Oi _) ?_⟩;unfold Hb
   match xs,(show xs.length<2 by lia) with
   | [],_=>exact Ql
   | [x],_=>exact Rj _ _
   |_::_::_,hx=>simp at hx;lia
   have h:2<=its.length:=by lia
   have G:its.length<64:=by have:=f.len;lia
   exact Bm i I m f r d l.isList z h G (I.sqL_ne b) λv H' x=>c v H'<|x Q q
 exact q.elim
end
section
variable{prog:c9}{w:c8}{A:f6}{E:b7->f7->Prop}{s:f7}
theorem rh(h:s.heap.IsTupleIter it t i)(D:s.heap.IsTuple t items)(a:items[i]?=a7 x)(b:∀h',h'.IsTupleIter it t (i+1)->J6 it s.heap h'->Q x { s with heap:=h' }):ge (g9 prog w) A (Nx<|.ref it) Q E s:=by obtain⟨o,B,c,d⟩:=id h;obtain⟨e,f,_,n,l⟩:=D;unfold Nx;refine u4<|LS (name:=u7 "__next__") h.typeIs F.slot_tuple_iterator_next<|J4 F.slot_tuple_iterator_next h.typeIs F.entry_tuple_iterator_next ?_<|F.args_tuple_iterator_next_1<|.ref it;refine(show ge (g9 prog w) _ (field (.ref it) 0 >>= _) _ _ s from u4<|K2 B d (x:=.ref t) rfl ?_);refine(show ge (g9 prog w) _ (if (E6 t==J2)=a9 then _ else field (.ref it) 1 >>= _) _ _ s from ?_);rw[r9<|show ¬(E6 t==J2)=a9 from MQ];refine u4<|K2 B d (x:=.int i 0) rfl<|show ge (g9 prog w) _ (seqItems? (.ref t) >>= _) _ _ s from u4<|LB f l ?_;simp only[Ld,a];refine u4<|MA B d (by simp)<|u8 ⟨x,rfl,u8<|b _ ⟨_,Lw _ B<|Obj.isFreed_of_fields<|Qo d _,(Obj.cls_mapFields ..).trans c,?_⟩<|LD ..⟩;rw[Qo d];simp[j4]
theorem jP(b:A.handled=a8)(h:s.heap.IsTupleIter it t i)(D:s.heap.IsTuple t items)(g:items[i]?=a8)(c:∀h' e,Heap.ExtBut it s.heap h'->(∃o,h'.get? e=a7 o/\o.cls=.type "StopIteration")->E (.ref e) { s with heap:=h' }):ge (g9 prog w) A (Nx<|.ref it) Q E s:=by
 obtain⟨o,B,j,d⟩:=id h;obtain⟨k,f,_,n,l⟩:=D;unfold Nx;refine u4<|LS (name:=u7 "__next__") h.typeIs F.slot_tuple_iterator_next<|J4 F.slot_tuple_iterator_next h.typeIs F.entry_tuple_iterator_next ?_<|F.args_tuple_iterator_next_1<|.ref it;refine(show ge (g9 prog w) _ (field (.ref it) 0 >>= _) _ _ s from u4<|K2 B d (x:=.ref t) rfl ?_);refine(show ge (g9 prog w) _ (if (E6 t==J2)=a9 then _ else field (.ref it) 1 >>= _) _ _ s from ?_);rw[r9<|show ¬(E6 t==J2)=a9 from MQ];refine u4<|K2 B d (x:=.int i 0) rfl<|show ge (g9 prog w) _ (seqItems? (.ref t) >>= _) _ _ s from u4<|LB f l ?_;simp only[Ld,g];refine u4<|Lq<|u4<|MA B d (by simp)<|show ge (g9 prog w) _ (newExc (.type "StopIteration") [] >>= _) _ _ _ from u4 ?_;simp only[newExc,newTuple];refine u4 (K3 (u4 (m:=o6 _ _)<|N8 (a:=J2) (by first|rfl|(simp only[o6];rfl))<|K3 ?_<|by size_fits)<|by size_fits);simp only[raiseNew];refine u4<|wpAny_handled ?_
 first|rw[show A.in1.handled=a8 from b]|rw[b]
 exact u4<|u8<|wpAny_throw<|c _ _ (((LD ..).extBut.push _).push _)<|⟨_,C5 _ rfl,rfl⟩
end
theorem ut(g:A.handled=a8)(it t:d5)(c:t≠it)(a:Array b7):Draws prog w A it [it,t] a.size (λi v=>a[i]?=a7 v) (λi h=>h.IsTupleIter it t i/\h.IsTuple t a) where
 live:=λ_ _ ⟨⟨o,B,_⟩,_⟩=>⟨o,B⟩
 frame:=λ_ _ _ ⟨h1,o,e,r⟩ k=>⟨h1.at λo e=>k it (Fn) o e,o,k t (by simp) o e,r⟩
 item:=λi s Q E hi ⟨h1,h2⟩ f=>by refine rh h1 h2 (x:=a[i]) (KY hi) λh' b u=>f _ h' s.toks (KY hi) ⟨b,?_⟩ u;obtain⟨o,e,r⟩:=h2;exact⟨o,u.extBut _ _ c e,r⟩
 done:=λs Q E ⟨h1,h2⟩ d=>jP g h1 h2 (Os<|w5 _) d
structure ZA(z TI TO i1 i2:d5)(f1 f2:List d5):Prop where
 nd:[z,TI,TO,i1,i2].Nodup
 z1:z∉f1
 o1:TO∉f1
 y1:i2∉f1
 z2:z∉f2
 o2:TO∉f2
 x2:i1∉f2
theorem dB{prog:c9}{w:c8}{A:f6}{it c:d5}{fp:List d5}{n k:Nat}{P:Nat->b7->Prop}{St:Nat->d7->Prop}{h h':d7}(D:Draws prog w A it fp n P St)(f:c∉fp)(hs:Heap.ExtBut c h h')(st:St k h):St k h':=D.frame k h h' st λb d o e=>hs b o (λq=>f<|q ▸ d) e
section
variable{prog:c9}{w:c8}{A:f6}{E:b7->f7->Prop}{s:f7}{z TI TO i1 i2:d5}{f1 f2:List d5}{n1 n2 k:Nat}{P1 P2:Nat->b7->Prop}{S1 S2:Nat->d7->Prop}{a b:b7}
theorem AM{Q:b7->f7->Prop}(D:Draws prog w A i1 f1 n1 P1 S1)(p:Draws prog w A i2 f2 n2 P2 S2)(Z:ZA z TI TO i1 i2 f1 f2)(hz:IsZip s.heap z TI TO .none)(I:o7 s.heap TI (.ref i1) (.ref i2))(J:o7 s.heap TO a b)(L:S1 k s.heap) (S:S2 k s.heap) (l1:k<n1) (l2:k<n2)(hQ:∀h' tk x y T,P1 k x->P2 k y->s.heap.objs.size<=T->IsZip h' z TI TO (j4 T)->o7 h' TO x y->S1 (k+1) h'->S2 (k+1) h'->o7 h' T x y->(∀c o,c≠z->c≠TO->c≠i1->c≠i2->s.heap.get? c=a7 o->h'.get? c=a7 o)->Q (.ref T) { s with heap:=h',toks:=tk }):ge (g9 prog w) A (Builtin.«zip.__next__» ⟨[.ref z],[]⟩) (λfin s'=>∃v,fin=.done (.ret v)/\Q v s') E s:=by
 have X:=Z.nd;simp only[La,A4,LN,or_false,not_or]at X;obtain⟨⟨ai,O,P,R⟩,⟨U,V,W⟩,⟨r,t⟩,ab,_⟩:=X;refine(show ge (g9 prog w) A (field (.ref z) 2 >>= _) _ _ _ from u4<|K2 hz rfl (x:=.bool bt) rfl ?_);refine(show ge (g9 prog w) A (field (.ref z) 3 >>= _) _ _ _ from u4<|K2 hz rfl (x:=.ref TI) rfl<|u4<|LB I rfl ?_);refine(show ge (g9 prog w) A (QP (.ref z) >>= _) _ _ _ from u4 ?_);unfold QP;refine u4<|K2 hz rfl (x:=J2) rfl<|u8 ?_;simp only[t8];refine u4<|Lq<|u4<|K2 hz rfl (x:=.ref TO) rfl<|u4<|Mo hz (by simp) λh₁ (hz₁:IsZip h₁ z TI TO .ellipsis) hs₁=>u4 ?_;simp only[List.zipIdx_cons,List.zipIdx_nil,P8,List.forIn_nil];refine u4<|u4<|OY<|show ge (g9 prog w) A (Nx (.ref i1) >>= _) _ _ _ from u4 ?_;refine D.item k _ _ _ l1 (dB D Z.z1 hs₁.extBut L) λx u M px m h=>u8 ?_;have f:o7 u TO a b:=h.extBut _ _ r<|hs₁.extBut _ _ (A1 O) J;refine u4<|LB f rfl<|u4<|wpAny_updateSeq_pair f λh₃ (hTO₃:o7 h₃ TO x b) hs₃=>u4<|wpAny_letGo<|u8 ?_;refine u4<|u4<|OY<|show ge (g9 prog w) A (Nx (.ref i2) >>= _) _ _ _ from u4 ?_;refine p.item k _ _ _ l2 (dB p Z.o2 hs₃.extBut<|dB p Z.x2 h.extBut<|dB p Z.z2 hs₁.extBut S) λy B N py n d=>u8 ?_;have g:o7 B TO x b:=d.extBut _ _ t hTO₃;refine u4<|LB g rfl<|u4<|wpAny_updateSeq_pair g λh₅ (hTO₅:o7 h₅ TO x y) hs₅=>u4<|wpAny_letGo<|u8<|u8 ?_;refine u4<|LB hTO₅ rfl<|u4<|wpAny_newTuple ?_;have i:IsZip h₅ z TI TO .ellipsis:=hs₅.extBut _ _ O<|d.extBut _ _ R<|hs₃.extBut _ _ O<|h.extBut _ _ P hz₁;have kp:∀c o,c≠z->c≠TO->c≠i1->c≠i2->s.heap.get? c=a7 o->h₅.get? c=a7 o:=λc o j C G H e=>hs₅.extBut _ _ C<|d.extBut _ _ H<|hs₃.extBut _ _ C<|h.extBut _ _ G<|hs₁.extBut _ _ j e;have sz:h₅.objs.size=s.heap.objs.size:=by rw[hs₅.1,d.1,hs₃.1,h.1];exact hs₁.1
 have t1:=dB D Z.o1 hs₅.extBut<|dB D Z.y1 d.extBut<|dB D Z.o1 hs₃.extBut m;have t2:=dB p Z.o2 hs₅.extBut n;refine(show ge (g9 prog w) A (RM (.ref z) (.ref h₅.objs.size) >>= _) _ _ _ from u4 ?_);unfold RM;have l:IsZip (h₅.push { cls:=.type "tuple",data:=.seq #[x,y] }) z TI TO .ellipsis:=z6 _ i;refine u4<|Mo l (by simp) λh₇ (hz₇:IsZip h₇ z TI TO (j4 h₅.objs.size)) hs₇=>Mo hz₇ (by simp) λh₈ (hz₈:IsZip h₈ z TI TO (j4 h₅.objs.size)) hs₈=>?_;have F:∀c o,c≠z->h₅.get? c=a7 o->h₈.get? c=a7 o:=λc o j e=>hs₈.extBut _ _ j<|hs₇.extBut _ _ j<|z6 _ e;have Y:h₅.objs.size≠z:=Mg<|A0 i;refine u8 ⟨_,rfl,hQ h₈ _ x y h₅.objs.size px py (Nat.le_of_eq sz.symm) hz₈ (F _ _ (A1 O) hTO₅) ?_ ?_ (hs₈.extBut _ _ Y<|hs₇.extBut _ _ Y<|C5 _ rfl) λc o j C G H e=>F c o j<|kp c o j C G H e⟩;exact D.frame _ _ _ t1 λc K o e=>F c o (λq=>Z.z1<|q ▸ K) e;exact p.frame _ _ _ t2 λc K o e=>F c o (λq=>Z.z2<|q ▸ K) e
theorem AO{Q:Fin->f7->Prop}(D:Draws prog w A i1 f1 n1 P1 S1)(v:Draws prog w A i2 f2 n2 P2 S2)(Z:ZA z TI TO i1 i2 f1 f2)(hz:IsZip s.heap z TI TO .none)(I:o7 s.heap TI (.ref i1) (.ref i2))(J:o7 s.heap TO a b)(L:S1 k s.heap) (S:S2 k s.heap) (Y:k=n1\/(k<n1/\k=n2))(H:∀h' tk e,(∀c o,c≠z->c≠TO->c≠i1->c≠i2->s.heap.get? c=a7 o->h'.get? c=a7 o)->(∃o,h'.get? e=a7 o/\o.cls=.type "StopIteration")->E (.ref e) { s with heap:=h',toks:=tk }):ge (g9 prog w) A (Builtin.«zip.__next__» ⟨[.ref z],[]⟩) Q E s:=by
 have X:=Z.nd;simp only[La,A4,LN,or_false,not_or]at X;obtain⟨⟨ai,O,P,R⟩,⟨U,V,W⟩,⟨T,F⟩,ab,_⟩:=X;refine(show ge (g9 prog w) A (field (.ref z) 2 >>= _) _ _ _ from u4<|K2 hz rfl (x:=.bool bt) rfl ?_);refine(show ge (g9 prog w) A (field (.ref z) 3 >>= _) _ _ _ from u4<|K2 hz rfl (x:=.ref TI) rfl<|u4<|LB I rfl ?_);refine(show ge (g9 prog w) A (QP (.ref z) >>= _) _ _ _ from u4 ?_);unfold QP;refine u4<|K2 hz rfl (x:=J2) rfl<|u8 ?_;simp only[t8];refine u4<|Lq<|u4<|K2 hz rfl (x:=.ref TO) rfl<|u4<|Mo hz (by simp) λh₁ (hz₁:IsZip h₁ z TI TO .ellipsis) hs₁=>u4 ?_;simp only[List.zipIdx_cons,List.zipIdx_nil,P8,List.forIn_nil];refine u4<|u4<|OY<|show ge (g9 prog w) A (Nx (.ref i1) >>= _) _ _ _ from u4 ?_;rcases Y with rfl|⟨l1,rfl⟩
 refine D.done _ _ _ (dB D Z.z1 hs₁.extBut L) ?_;rintro p e h ⟨y,f,i⟩;have m:IsZip p z TI TO .ellipsis:=h _ _ P hz₁;have t:e≠z:=λq=>by subst q;rw[m]at f;cases f;simp at i
 exact Mo m (by simp) λr _ d=>H r _ e (λc o u _ G _ q=>d.extBut _ _ u<|h _ _ G<|hs₁.extBut _ _ u q) ⟨y,d.extBut _ _ t f,i⟩;refine D.item k _ _ _ l1 (dB D Z.z1 hs₁.extBut L) λx p M px C h=>u8 ?_;have g:o7 p TO a b:=h.extBut _ _ T<|hs₁.extBut _ _ (A1 O) J;refine u4<|LB g rfl<|u4<|wpAny_updateSeq_pair g λr (hTO₃:o7 r TO x b) d=>u4<|wpAny_letGo<|u8 ?_;refine u4<|u4<|OY<|show ge (g9 prog w) A (Nx (.ref i2) >>= _) _ _ _ from u4 ?_;refine v.done _ _ _ (dB v Z.o2 d.extBut<|dB v Z.x2 h.extBut<|dB v Z.z2 hs₁.extBut S) ?_;rintro B e j ⟨y,f,i⟩;have n:IsZip B z TI TO .ellipsis:=j _ _ R<|d.extBut _ _ O<|h.extBut _ _ P hz₁;have t:e≠z:=λq=>by subst q;rw[n]at f;cases f;simp at i
 exact Mo n (by simp) λh₅ _ l=>H h₅ _ e (λc o u K G N q=>l.extBut _ _ u<|j _ _ N<|d.extBut _ _ K<|h.extBut _ _ G<|hs₁.extBut _ _ u q) ⟨y,l.extBut _ _ t f,i⟩
end
section
variable{X:Cx}{pins:List (d5×d6)}{σ:St}{H:Hp}{s:f7}{h':d7}
theorem u6.turnedL{t':Nat}{fp:List d5}(I:u6 X pins σ H s)(h:∀b∈fp,wt X pins H b)(k:∀b o,b∉fp->s.heap.get? b=a7 o->h'.get? b=a7 o):u6 X pins σ H { s with heap:=h',toks:=t' }:=by
 have p:∀b u,H b=a7 u->b∉fp:=λb u e z=>by rw[(h b z).1]at e;cases e
 refine I.step (g':=s.gens) (d':=s.drawn) (ch:=fp) (λb d=>⟨(h b d).2.2.2.1,(h b d).2.1,(h b d).2.2.2.2.1,(h b d).2.2.2.2.2⟩) (λb o _ _ f e _=>k b o f e) (λb o _ _ f e _=>⟨o.slots,k b o f e⟩) (λ_ _ _ _ n=>n) (λb o f e=>⟨o,k b o f e⟩) (λ_ _ e=>e) (λ_ _ _ e=>e) (λb ps e=>⟨#[],by rw[e];simp⟩) (λm a=>?_) (λb u e=>?_) I.bare;obtain⟨o,es,i,B,r⟩:=a;exact⟨o,es,i,k _ o (λz=>(h _ z).2.1 rfl) B,r⟩;refine(I.hok b u e).stay (λc v f q=>k c v ?_ q) (λ_ q=>q) λ_ _ q=>q;rcases f with rfl|z;exact p _ u e;exact p _ _ z
theorem u6.turnedT{t':Nat}{fp:List d5}{T:d5}{o:HO}(I:u6 X pins σ H s)(h:∀b∈fp,wt X pins H b)(k:∀b o,b∉fp->s.heap.get? b=a7 o->h'.get? b=a7 o)(j:s.heap.objs.size<=T)(i:bE X.prog X.w (z5 H T o) h' T o):u6 X pins σ (z5 H T o) { s with heap:=h',toks:=t' }:=by
 have a:H T=a8:=I.hok.fresh j;have g:∀b u,s.heap.get? b=a7 u->b≠T:=λb u e=>A3<|G9 (A0 e) j;have p:∀b u,H b=a7 u->b∉fp:=λb u e z=>by rw[(h b z).1]at e;cases e
 refine I.step (g':=s.gens) (d':=s.drawn) (ch:=fp) (λb d=>⟨(h b d).2.2.2.1,(h b d).2.1,(h b d).2.2.2.2.1,(h b d).2.2.2.2.2⟩) (λb o _ _ f e _=>k b o f e) (λb o _ _ f e _=>⟨o.slots,k b o f e⟩) (λb u _ e n=>by rw[ar<|g b u e];exact n) (λb o f e=>⟨o,k b o f e⟩) (λb xs q=>by rw[ar<|ad q a];exact q) (λb u xs q=>by rw[ar<|ad q a];exact q) (λb ps q=>⟨#[],by rw[ar<|ad q a,q];simp⟩) (λm t=>?_) (λb u e=>?_) I.bare;obtain⟨o,es,l,B,r⟩:=t;exact⟨o,es,l,k _ o (λz=>(h _ z).2.1 rfl) B,r⟩;by_cases d:b=T;subst d;rw[aK]at e;cases e;exact i;rw[ar d]at e;refine(I.hok b u e).stay (λc v f q=>k c v ?_ q) (λc q=>by rw[ar<|ad q a];exact q) λc xs q=>by rw[ar<|ad q a];exact q
 rcases f with rfl|z;exact p _ u e;exact p _ _ z
def Sq(t:Bool)(K:v6)(H:Hp)(a:d5)(xs:List V):Prop:=if t=a9 then B9 K H a xs else J0 K H a xs
def Mt(t:Bool)(h:d7)(i l:d5)(k:Nat):Prop:=if t=a9 then h.IsTupleIter i l k else h.IsListIter i l k
def Mc(t:Bool)(h:d7)(l:d5)(xs:Array b7):Prop:=if t=a9 then h.IsTuple l xs else h.IsList l xs
theorem Mt.at(x:Mt t h i l k)(e:∀o,h.get? i=a7 o->h'.get? i=a7 o):Mt t h' i l k:=by
 cases t with
 |true=>exact(show h.IsTupleIter i l k from x).at e
 |false=>exact(show h.IsListIter i l k from x).at e
theorem Mt.obj(x:Mt t h i l k):∃o,h.get? i=a7 o/\∀v,o.data≠.cell v:=by
 cases t with
 |true =>
  obtain⟨o,e,c,d⟩:=(show h.IsTupleIter i l k from x)
  exact⟨o,e,λv z=>by rw[d]at z;cases z⟩
 |false =>
  obtain⟨o,e,c,d⟩:=(show h.IsListIter i l k from x)
  exact⟨o,e,λv z=>by rw[d]at z;cases z⟩
theorem Sq.is(I:u6 X pins σ H s)(h:Sq t X.K H a xs):∃its,aw xs its/\Mc t s.heap a its.toArray/\xs.length<=sizeLine:=by
 cases t with
 |true=>exact I.tuple<|show B9 X.K H a xs from h
 |false=>obtain⟨its,d,p,b⟩:=I.list<|show J0 X.K H a xs from h;exact⟨its,d,p.isList,b⟩
theorem Sq.inj(I:u6 X pins σ H s)(h:Sq t X.K H a xs)(h':Sq t X.K H a ys):xs=ys:=by
 cases t with
 |true=>exact I.tuple_inj h h'
 |false=>exact I.list_inj h h'
theorem Sq.ne(I:u6 X pins σ H s)(h:Sq t X.K H a xs)(f:wt X pins H b):a≠b:=by
 have c:∀o,X.K.lookup a=a7 o->a≠b:=λo k=>by have d:=I.mod.kin a o k;rcases f.2.2.2.1 with z|z;intro q;subst q;exact I.ok.noex a o d z;exact A3<|G9 (A0 d)<|H9 I.ok.bsz z
 cases t with
 |true =>
  rcases(show B9 X.K H a xs from h)with(h|⟨_,h⟩)|⟨o,its,n,k,_⟩
  exact ad h f.1;exact ad h f.1;exact c o k
 |false =>
  rcases(show J0 X.K H a xs from h)with(h|⟨_,h⟩)|⟨o,its,n,k,_⟩
  exact ad h f.1;exact ad h f.1;exact c o k
theorem iK(a:A.handled=a8)(t:Bool)(it l:d5)(b:l≠it)(s:Array b7):Draws prog w A it [it,l] s.size (λi v=>s[i]?=a7 v) (λi h=>Mt t h it l i/\Mc t h l s):=by
 cases t with
 |true=>exact ut a it l b s
 |false=>exact Draws.list a it l b s
noncomputable def Rx(K:v6)(D E:Bool)(b c:d5):It:=⟨λi H=>∃xs ys x y,Sq D K H b xs/\Sq E K H c ys/\xs[i]?=a7 x/\ys[i]?=a7 y,λi H v H'=>∃T x y,v=.ref T/\H T=a8/\H'=z5 H T (.tup [x,y])/\(∀xs,Sq D K H b xs->xs[i]?=a7 x)/\∀ys,Sq E K H c ys->ys[i]?=a7 y,λi H=>∃xs ys,Sq D K H b xs/\Sq E K H c ys/\(i=xs.length\/(i<xs.length/\i=ys.length))⟩
def Ru(D E:Bool)(z TI TO c d l e:d5)(i:Nat)(h:d7):Prop:=IsZip h z TI TO .none/\o7 h TI (.ref c) (.ref d)/\(∃a b,o7 h TO a b)/\Mt D h c l i/\Mt E h d e i
theorem Be{P:c9}{w:c8}{K:v6}{Y:List g7}{x1:Nat}{pos:i3}{t1 t2:Bool}{z TI TO j l M G:d5}(nd:[z,TI,TO,j,l].Nodup):Turn P w K (.Tuple Y x1 pos) (Rx K t1 t2 M G) [z,TI,TO,j,l] z (Ru t1 t2 z TI TO j l M G) where
 mem:=Fn
 obj:=λi h ⟨u,g,⟨a,b,J⟩,h1,h2⟩ c d=>by simp only[A4,LN,or_false]at d;rcases d with rfl|rfl|rfl|rfl|rfl;exact⟨_,u,λv q=>nomatch q⟩;exact⟨_,g,λv q=>nomatch q⟩;exact⟨_,J,λv q=>nomatch q⟩;exact h1.obj;exact h2.obj
 keep:=λi h h' ⟨u,g,⟨a,b,J⟩,h1,h2⟩ k=>⟨k z (by simp) _ u,k TI (by simp) _ g,⟨a,b,k TO (by simp) _ J⟩,h1.at λo e=>k j (by simp) o e,h2.at λo e=>k l (by simp) o e⟩
 item:=by
  rintro X hP hw hK d i an s σ H E I S ⟨u,g,⟨a,b,J⟩,h1,h2⟩ ⟨xs,ys,x,y,n,p,hx,hy⟩;subst hP hw hK;obtain⟨us,ru,iu,bs⟩:=n.is I;obtain⟨vs,rv,iv,bM⟩:=p.is I;have lu:=ru.length;have lv:=rv.length;have f:=S;have C:=nd;simp only[La,A4,LN,or_false,not_or]at C;obtain⟨⟨Q,as,L,R⟩,⟨U,V,W⟩,⟨r,t⟩,B,_⟩:=C;have a1:M≠j:=n.ne I (f j<|by simp);have a2:G≠l:=p.ne I (f l<|by simp);have Z:ZA z TI TO j l [j,M] [l,G]:=⟨nd,by simp[L,A1<|n.ne I<|f z<|by simp],by simp[r,A1<|n.ne I<|f TO<|by simp],by simp[A1 B,A1<|n.ne I<|f l<|by simp],by simp[R,A1<|p.ne I<|f z<|by simp],by simp[t,A1<|p.ne I<|f TO<|by simp],by simp[B,A1<|p.ne I<|f j<|by simp]⟩
  have ix:i<us.length:=by have:=(A5.mp hx).1;lia
  have iy:i<vs.length:=by have:=(A5.mp hy).1;lia
  have hT:s.TypeIs (.ref z) "zip":=⟨_,u,rfl⟩
  unfold j1;refine u4<|Mi<|LS (name:=u7 "__next__") hT F.slot_zip_next<|J4 F.slot_zip_next hT F.entry_zip_next ?_<|F.args_zip_next_1<|.ref z;refine AM (k:=i) (iK (show X.A.in1.handled=a8 from I.ok.hd d) t1 j M a1 us.toArray) (iK (show X.A.in1.handled=a8 from I.ok.hd d) t2 l G a2 vs.toArray) Z u g J ⟨h1,iu⟩ ⟨h2,iv⟩ (by simpa using ix) (by simpa using iy) λh' tk px py T aj al D bl ab s1 s2 hp hk=>u8 ⟨_,rfl,?_⟩;refine wpAny_letOwnedTupleGo_zip bl λh2 bm m=>?_;have cc:T≠z:=λq=>by subst q;exact t4 (A0 u)<|Nat.not_lt_of_le D
  obtain⟨N,aD,bS⟩:=ru.get hx;obtain⟨O,aS,ca⟩:=rv.get hy;have e1:N=px:=by rw[Rb,aD]at aj;exact C7 aj
  have e2:O=py:=by rw[Rb,aS]at al;exact C7 al
  subst e1 e2;have bk:o7 h2 T N O:=m.extBut _ _ cc hp;refine⟨.ref T,z5 H T<|.tup [x,y],?_,rfl,⟨T,x,y,rfl,I.hok.fresh D,rfl,λzs hq=>by rw[hq.inj I n];exact hx,λzs hq=>by rw[hq.inj I p];exact hy⟩,⟨bm,m.extBut _ _ (A1 Q)<|hk _ _ (A1 Q) U V W g,⟨_,_,m.extBut _ _ (A1 as) ab⟩,s1.1.at λo e=>m.extBut _ _ (A1 L) e,s2.1.at λo e=>m.extBut _ _ (A1 R) e⟩,λc d=>?_⟩;refine I.turnedT (t':=tk) S (λc o d e=>?_) D ⟨by simp[Mb],[N,O],.cons bS<|.cons ca .nil,⟨_,bk,rfl,⟨0,rfl⟩,rfl⟩⟩;simp only[A4,LN,or_false,not_or]at d;exact m.extBut _ _ d.1<|hk _ _ d.1 d.2.2.1 d.2.2.2.1 d.2.2.2.2 e;obtain⟨oc,ec⟩:∃o,s.heap.get? c=a7 o:=by simp only[A4,LN,or_false]at d;rcases d with rfl|rfl|rfl|rfl|rfl;exact⟨_,u⟩;exact⟨_,g⟩;exact⟨_,J⟩;obtain⟨o,e,_⟩:=h1.obj;exact⟨o,e⟩;obtain⟨o,e,_⟩:=Mt.obj ‹Mt t2 s.heap _ G i›;exact⟨o,e⟩
  rw[ar<|A3<|G9 (A0 ec) D];exact(S c d).1
 done:=by
  rintro X hP hw hK d i an s σ H E I S ⟨u,g,⟨a,b,J⟩,h1,h2⟩ ⟨xs,ys,n,p,ai⟩;subst hP hw hK;obtain⟨us,ru,iu,bs⟩:=n.is I;obtain⟨vs,rv,iv,bM⟩:=p.is I;have lu:=ru.length;have lv:=rv.length;have f:=S;have C:=nd;simp only[La,A4,LN,or_false,not_or]at C;obtain⟨⟨Q,as,L,R⟩,⟨U,V,W⟩,⟨r,t⟩,B,_⟩:=C;have a1:M≠j:=n.ne I (f j<|by simp);have a2:G≠l:=p.ne I (f l<|by simp);have Z:ZA z TI TO j l [j,M] [l,G]:=⟨nd,by simp[L,A1<|n.ne I<|f z<|by simp],by simp[r,A1<|n.ne I<|f TO<|by simp],by simp[A1 B,A1<|n.ne I<|f l<|by simp],by simp[R,A1<|p.ne I<|f z<|by simp],by simp[t,A1<|p.ne I<|f TO<|by simp],by simp[B,A1<|p.ne I<|f j<|by simp]⟩
  have hT:s.TypeIs (.ref z) "zip":=⟨_,u,rfl⟩
  unfold j1;refine u4<|Mi<|LS (name:=u7 "__next__") hT F.slot_zip_next<|J4 F.slot_zip_next hT F.entry_zip_next ?_<|F.args_zip_next_1<|.ref z;refine AO (k:=i) (iK (show X.A.in1.handled=a8 from I.ok.hd d) t1 j M a1 us.toArray) (iK (show X.A.in1.handled=a8 from I.ok.hd d) t2 l G a2 vs.toArray) Z u g J ⟨h1,iu⟩ ⟨h2,iv⟩ ?_ λh' tk e hk ⟨o,ho,be⟩=>?_;rw[B7,B7,<-lu,<-lv];exact ai;refine u4<|Nn (T:="StopIteration") (b:=a9) ⟨o,ho,be⟩ O3<|u8 ⟨rfl,?_⟩;refine I.turnedL (t':=tk) S λc o d e=>?_;simp only[A4,LN,or_false,not_or]at d;exact hk _ _ d.1 d.2.2.1 d.2.2.2.1 d.2.2.2.2 e
 self:=λ_ _ _ _ _ st h=>wpAny_pyIter_zip st.1 h
end
noncomputable abbrev OF(t:Bool)(l:d5):d6:={ cls:=.type<|if t=a9 then "tuple_iterator" else "list_iterator",data:=.fields #[.ref l,.int 0 0] }
section
variable{prog:c9}{w:c8}{A:f6}{E:b7->f7->Prop}{s:f7}
theorem vU(h:Mc t s.heap l xs)(q:Q (.ref s.heap.objs.size) { s with heap:=s.heap.push (OF t l) }):ge (g9 prog w) A (j3<|.ref l) Q E s:=by
 cases t with
 |true=>exact wpAny_pyIter_tuple (show s.heap.IsTuple l xs from h) q
 |false=>exact Qk (show s.heap.IsList l xs from h) q
noncomputable abbrev Pz(h:d7)(t1:Bool)(l1:d5):d7:=h.push<|OF t1 l1
noncomputable abbrev Py(h:d7)(t1 t2:Bool)(l1 l2:d5):d7:=(Pz h t1 l1).push<|OF t2 l2
noncomputable abbrev Px(h:d7)(t1 t2:Bool)(l1 l2:d5):d7:=(Py h t1 t2 l1 l2).push { cls:=.type "tuple",data:=.seq #[.ref h.objs.size,.ref (Pz h t1 l1).objs.size] }
noncomputable abbrev Pw(h:d7)(t1 t2:Bool)(l1 l2:d5):d7:=(Px h t1 t2 l1 l2).push { cls:=.type "tuple",data:=.seq #[.none,.none] }
noncomputable abbrev NV(h:d7)(t1 t2:Bool)(l1 l2:d5):d7:=(Pw h t1 t2 l1 l2).push { cls:=.type "zip",data:=.fields #[.none,.bool bt,.bool bt,.ref (Py h t1 t2 l1 l2).objs.size,.ref (Px h t1 t2 l1 l2).objs.size] }
theorem Mc.push(x:Mc t h l xs)(o:d6):Mc t (h.push o) l xs:=by
 cases t with
 |true=>obtain⟨u,e,r⟩:=(show h.IsTuple l xs from x);exact(show (h.push o).IsTuple l xs from⟨u,z6 _ e,r⟩)
 |false=>obtain⟨u,e,r⟩:=(show h.IsList l xs from x);exact(show (h.push o).IsList l xs from⟨u,z6 _ e,r⟩)
theorem AN(D E:Bool)(b c:d5)(xs ys:Array b7):Meets (Builtin.«zip.__new__» ⟨[.type "zip",.ref b,.ref c],[]⟩) (λ_ R s=>Mc D s.heap b xs/\Mc E s.heap c ys/\R (.ok<|.ret<|.ref (Pw s.heap D E b c).objs.size) { s with heap:=NV s.heap D E b c }):=.of_wp λp w A R s h=>by
  obtain⟨hp,g,d,q,o⟩:=s;obtain⟨a,f,h⟩:=h;have e:=sub_zip;have r:Mc D (Shared.heap ⟨hp,g,d,q,o⟩) b xs:=a;have l:Mc E (Shared.heap ⟨hp.push<|OF D b,g,d,q,o⟩) c ys:=f.push _
  wp_walk using vU r,vU l
  exact⟨_,rfl,h⟩
theorem As(h1:Mc t1 s.heap l1 xs)(h2:Mc t2 s.heap l2 ys)(h:∀h',Ru t1 t2 (s.heap.objs.size+4) (s.heap.objs.size+2) (s.heap.objs.size+3) s.heap.objs.size (s.heap.objs.size+1) l1 l2 0 h'->(∀c o,s.heap.get? c=a7 o->h'.get? c=a7 o)->Q (.ref<|s.heap.objs.size+4) { s with heap:=h' }):ge (g9 prog w) A (call (.type "zip") [.ref l1,.ref l2]) Q E s:=by
 refine callType_new F.called_zip (by decide) (F.typeCall_zip_2 _ _) (F.newCall_zip_2 _ _) (λj=>F.args_object_init_3 j _ _) F.entry_zip_new (AN t1 t2 l1 l2 xs ys) ⟨h1,h2,?_⟩;have z:(Pz s.heap t1 l1).objs.size=s.heap.objs.size+1:=Lj ..;have b:(Py s.heap t1 t2 l1 l2).objs.size=s.heap.objs.size+2:=by rw[Lj,z]
 have d:(Px s.heap t1 t2 l1 l2).objs.size=s.heap.objs.size+3:=by rw[Lj,b]
 have m:(Pw s.heap t1 t2 l1 l2).objs.size=s.heap.objs.size+4:=by rw[Lj,d]
 have p:∀{h:d7}{c:d5}{o:d6} (u:d6),h.get? c=a7 o->(h.push u).get? c=a7 o:=λu e=>z6 _ e;have f:(NV s.heap t1 t2 l1 l2).get? (Pw s.heap t1 t2 l1 l2).objs.size=a7 _:=C5 _ rfl;have i:(NV s.heap t1 t2 l1 l2).get? (Px s.heap t1 t2 l1 l2).objs.size=a7 _:=p _<|C5 _ rfl;have g3:(NV s.heap t1 t2 l1 l2).get? (Py s.heap t1 t2 l1 l2).objs.size=a7 _:=p _<|p _<|C5 _ rfl;have g:(NV s.heap t1 t2 l1 l2).get? (Pz s.heap t1 l1).objs.size=a7 _:=p _<|p _<|p _<|C5 _ rfl;have g1:(NV s.heap t1 t2 l1 l2).get? s.heap.objs.size=a7 _:=p _<|p _<|p _<|p _<|C5 _ rfl;have k:∀(t:Bool) (h:d7) (a l:d5),h.get? a=a7 (OF t l)->Mt t h a l 0:=λt h a l e=>by cases t<;>exact⟨_,e,rfl,rfl⟩
 show _/\_;rw[b,d,m]at f;rw[z,b]at g3;rw[d]at i;rw[z]at g;rw[m];exact⟨⟨_,f,rfl⟩,h _ ⟨f,g3,⟨_,_,i⟩,k _ _ _ _ g1,k _ _ _ _ g⟩ λc o q=>p _<|p _<|p _<|p _<|p _ q⟩
end
noncomputable def zipD(xs ys:List D):List D:=(xs.zip ys).map λp=>.tup [p.1,p.2]
def AF(M:v5)(x:D)(xs:List D)(ok:v5->Prop):Prop:=match x with
 |.tup ds=>xs=ds/\ok=λ_=>True
 |.ref n=>am M n xs/\ok=λM=>am M n xs
 |_=>False
def dZip(t:E8):LJ:=λS M R=>t S M λds a=>match ds with
 | [x,y]=>∃xs ys o1 o2,AF a x xs o1/\AF a y ys o2/\R ⟨zipD xs ys,λM=>o1 M/\o2 M⟩ a
 |_=>False
theorem Dl:e8 "zip" = a7 (.type "zip"):=by decide +kernel
section
variable{X:Cx}
theorem AF.sq(m:w9 X.K ρ M H)(h:AF M x xs ok)(r:v7 X.K ρ H x v)(e:aJ v u):∃(t:Bool) (l:d5),u=.ref l/\ok M/\∀ρ' M' H',w9 X.K ρ' M' H'->Grow X.K ρ H ρ' H'->ok M'->∃vs,Sq t X.K H' l vs/\Reps X.K ρ' H' xs vs:=by
 unfold AF at h;split at h;obtain⟨rfl,rfl⟩:=h;obtain⟨a,vs,rfl,q,r⟩:=v7.inv_tup r;cases e;exact⟨a9,a,rfl,trivial,λρ' M' H' s g _=>⟨vs,g.tup a vs q,r.grow g⟩⟩;obtain⟨h,rfl⟩:=h;cases r with
 |@ref n a f=>cases e;exact⟨bt,a,rfl,h,λρ' M' H' s g ok=>am.seq s ok<|ax g.pre f⟩
 exact h.elim
theorem Lo.zip{ρ:List d5}{H:Hp}{xs ys:List D}{o1 o2:v5->Prop}{t E:Bool}{f j:d5}{K:v6}(h1:∀ρ' M' H',w9 K ρ' M' H'->Grow K ρ H ρ' H'->o1 M'->∃vs,Sq t K H' f vs/\Reps K ρ' H' xs vs) (h2:∀ρ' M' H',w9 K ρ' M' H'->Grow K ρ H ρ' H'->o2 M'->∃vs,Sq E K H' j vs/\Reps K ρ' H' ys vs):Lo K ⟨zipD xs ys,λM=>o1 M/\o2 M⟩ ρ H (Rx K t E f j) where
 go:=λi ρ' M' H' m g ok hi=>by
  obtain⟨vs,q,r⟩:=h1 ρ' M' H' m g ok.1;obtain⟨s,c,l⟩:=h2 ρ' M' H' m g ok.2;have w:i<xs.length/\i<ys.length:=by simpa [zipD,Nat.lt_min]using hi
  have k:=r.length;have n:=l.length;exact⟨vs,s,_,_,q,c,z9 (by lia),z9<|by lia⟩
 yld:=λi ρ' M' H' x B m g ok hi y=>by obtain⟨vs,q,r⟩:=h1 ρ' M' H' m g ok.1;obtain⟨s,c,l⟩:=h2 ρ' M' H' m g ok.2;obtain⟨T,a,b,rfl,h,rfl,o,p⟩:=y;obtain⟨d,u,z⟩:=r.getV<|o vs q;obtain⟨e,v,A⟩:=l.getV<|p s c;refine⟨.tup [d,e],ρ',?_,m.laid h,Grow.laid h,.tup (B9.of aK)<|.cons (z.grow<|Grow.laid h)<|.cons (A.grow<|Grow.laid h) .nil⟩;show (zipD xs ys)[i]?=_;have:(xs.zip ys)[i]?=a7 (d,e):=List.getElem?_zip_eq_some.mpr ⟨u,v⟩;rw[zipD,D8,this];rfl
 stop:=λρ' M' H' m g ok=>by obtain⟨vs,q,r⟩:=h1 ρ' M' H' m g ok.1;obtain⟨s,c,l⟩:=h2 ρ' M' H' m g ok.2;have k:=r.length;have n:=l.length;refine⟨vs,s,q,c,?_⟩;show (zipD xs ys).length=_\/_;rw[zipD,x3,P5];lia
theorem Kp(E:X.mg "zip" = a8)(C:DA X [a,b] ta)(D:Gl X "zip":=by rfl)(hs:i5 [a,b] X.env=[(bt,eval a X.env),(bt,eval b X.env)]:=by rfl)(m:i5 [b] X.env=[(bt,eval b X.env)]:=by rfl):DI X (.Tuple elts x1 q) (.Call (.Name "zip" p) [a,b] [] pos) (dZip ta):=by
 intro i s σ H R I h;obtain⟨S,M,ρ,Q,Y,Z,F,k⟩:=h;refine Call_ (lV I D E Dl<|Rq (x6 (C pos i s σ H _ I ⟨S,M,ρ,_,Y,Z,F,λv H' w=>w⟩) ?_) (by rw[hs,m])<|by rw[m];rfl);rintro us e ⟨vs,H1,g,r,ds,n,f,j,g1,d,l⟩
 try dsimp only at l
 split at l;obtain⟨xs,ys,o1,o2,w1,w2,U⟩:=l
 first|have z:=Reps.inv_cons d|have z:=aw.inv_cons d
 clear d;obtain⟨_,_,rfl,A,d⟩:=z
 first|have z:=Reps.inv_cons d|have z:=aw.inv_cons d
 clear d;obtain⟨_,_,rfl,B,d⟩:=z;cases d
 first|have z:=Reps.inv_cons r|have z:=aw.inv_cons r
 clear r;obtain⟨_,_,rfl,x,r⟩:=z
 first|have z:=Reps.inv_cons r|have z:=aw.inv_cons r
 clear r;obtain⟨_,_,rfl,y,r⟩:=z;cases r;obtain⟨t1,l1,rfl,K,o⟩:=w1.sq j A x;obtain⟨t2,l2,rfl,L,N⟩:=w2.sq j B y;obtain⟨as,V,_⟩:=o f n H1 j .refl K;obtain⟨bs,W,_⟩:=N f n H1 j .refl L;obtain⟨is,_,G,_⟩:=V.is g;obtain⟨js,_,J,_⟩:=W.is g;refine As G J λh' u P=>?_;refine wpAny_pyIter_zip u.1 ?_;have T:[e.heap.objs.size+4,e.heap.objs.size+2,e.heap.objs.size+3,e.heap.objs.size,e.heap.objs.size+1].Nodup:=by simp
 refine⟨e.heap.objs.size+4,_,_,_,H1,rfl,g.kept (t':=e.toks) P,Be T,u,λc t=>?_,k _ H1 ⟨_,n,f,j,g1,Lo.zip o N,U⟩⟩;have O:e.heap.objs.size<=c:=by simp only[A4,LN,or_false]at t;rcases t with rfl|rfl|rfl|rfl|rfl<;>first|exact Pa _ _|exact w5 _
 exact g.fpOk O<|g.hok.fresh O;exact l.elim
end
section
variable{prog:c9}{w:c8}{A:f6}{E:b7->f7->Prop}{s:f7}
theorem tV{D:d5}{vs:List b7}{n:Nat}{Q:b7->f7->Prop}(B:s.heap.get? D=a7 (o5 "list" vs.toArray n))(h2:vs.length<2)(h:∀h' c,(∀b o,b≠D->s.heap.get? b=a7 o->h'.get? b=a7 o)->h'.get? D=a7 (o5 "list" vs.toArray c)->Q .none { s with heap:=h' }):ge (g9 prog w) A (call (.builtin "list.sort") [.ref D]) Q E s:=by
 have f:vs.length<=sizeLine:=by rw[Mb];lia
 refine J4 slot_list_sort (⟨_,B,rfl⟩) entry_list_sort ?_<|args_list_sort<|.ref D;rw[list_sort_plain];refine u4<|listItems_at B rfl<|u4<|listUpdate_at B rfl ?_ (by rw[B7];exact f)<|C4 _;obtain⟨k,e⟩:∃k,(s.heap.update D<|Ly λ_=>(#[]:Array b7)).get? D=a7 (o5 "list" #[] k):=⟨_,P6 B λ_=>#[]⟩
 refine u4<|seqEpoch_at e rfl<|u4<|wpAny_newTuple (u4<|wpAny_newList (F7 ?_)<|C4 _) f;dsimp only;have g:vs.toArray.size<2:=by rw[B7];exact h2
 rw[p9 g,p9 g];refine u4<|u8 ?_;rw[StateT.run_pure];refine u4<|u8 ?_;dsimp only;generalize d:((s.heap.update D<|Ly λ_=>(#[]:Array b7)).push<|o5 "tuple" vs.toArray 0).push (o5 "list" #[] 0)=g3;have a:g3.get? D=a7 (o5 "list" #[] k):=by rw[<-d];exact z6 _<|z6 _ e
 have m:∀b o,b≠D->s.heap.get? b=a7 o->g3.get? b=a7 o:=λb o i q=>by rw[<-d];refine z6 _<|z6 _ ?_;rw[Pm _ _ _ _ i];exact q
 refine u4<|seqEpoch_at a rfl ?_;have r:∀us:List b7,us.length<2->(us.toArray.zip us.toArray).map (·.2)=us.toArray:=λus hu=>by
  match us,hu with
  | [],_=>simp
  | [v],_=>simp
  |_::_::_,hu=>simp at hu;lia
 have t:(arrOf<|SortSt.mk' general' (vs.toArray.zip vs.toArray) #[] 7 a8).map (·.2)=vs.toArray:=r vs h2;rw[t];refine u4 (listUpdate_at a rfl ?_ (C4 _)<|by rw[B7];exact Nat.le_succ_of_le f);simp only[show failedOf (SortSt.mk' general' (vs.toArray.zip vs.toArray) #[] 7 a8)=a8 from rfl,bne_self_eq_false,A8,t7];obtain⟨j,l⟩:∃j,(g3.update D<|Ly λ_=>vs.toArray).get? D=a7 (o5 "list" vs.toArray j):=⟨_,P6 a λ_=>vs.toArray⟩
 refine u8 ⟨_,rfl,h _ j (λb o i q=>?_) l⟩;rw[Pm _ _ _ _ i];exact m b o i q
end
section
variable{X:Cx}{pins:List (d5×d6)}{σ:St}{H:Hp}{s:f7}{ρ:List d5}{M:v5}
theorem Ev{k:Nat}{D:d5}{xs:List L2.D}{P:List V}{its:List b7}{R:VK}{h1:d7}{tk n:Nat}{m:c7->Option b7}{A:f6}{E:b7->f7->Prop}(hr:Room k X.A)(hA:A.units<=X.A.units+4)(I:u6 X pins σ H s)(sm:w9 X.K ρ M H)(so:SrtG M xs)(r:Reps X.K ρ H xs P)(O:aw P its)(T:s.heap.Ns X.env.locals m) (F:h1.Ns X.env.locals m) (l:∀b u,b≠X.env.locals->s.heap.get? b=a7 u->h1.get? b=a7 u) (L:s.heap.get? D=a8) (G:D≠X.env.locals) (ho:h1.get? D=a7 (o5 "list" its.toArray n))(kk:∀v H',((∀Q:DK,(∀ys,ys.Perm xs->Hb M ys->Q (.ref M.length) (M++[.lst ys]))->VQ X.K ρ H Q v H'))->R v H'):ge (g9 X.prog X.w) A (call (.builtin "list.sort") [.ref D]) (λ_ s'=>EP X pins σ R (.ref D) s') E { s with heap:=h1,toks:=tk }:=by
 have lw:=r.length;have li:=O.length;have ab:=so.len;have N:H D=a8:=D4.none I.hok L;have y:∀b u,s.heap.get? b=a7 u->b≠D:=λb u e q=>by subst q;rw[L]at e;cases e
 by_cases h2:its.length<2;refine tV ho h2 λh' c J Y=>?_;have W:h'.Ns X.env.locals m:=by obtain⟨o,es,ep,e,aL⟩:=F;exact⟨o,es,ep,J _ _ (A1 G) e,aL⟩
 refine⟨.ref D,_,I.laidF (t':=tk) (o:=.lst P) (λb u g e=>J b u (y b u e)<|l b u g e) T W L N ⟨by rw[Mb];lia,its,c,O,Y⟩,rfl,kk _ _ λQ S=>VQ.laidL sm .refl r N<|S xs (Oi _) ?_⟩;unfold Hb
 match xs,(show xs.length<2 by lia) with
 | [],_=>exact Ql
 | [x],_=>exact Rj _ _
 |_::_::_,hx=>simp at hx;lia
 have z:2<=its.length:=by lia
 have f:∀a o,(a,o)∈Att.ledger h1 X.env.locals D↔a≠X.env.locals/\a≠D/\h1.get? a=a7 o:=λa o=>Att.mem_ledger;have U:UpdF D (o5 "list" its.toArray n) ([]++(D,o5 "list" its.toArray n)::Att.ledger h1 X.env.locals D) λo'=>(D,o')::Att.ledger h1 X.env.locals D:=UpdF.head λp hp=>((f p.1 p.2).mp hp).2.1;refine kat_lsort (s:={ s with heap:=h1,toks:=tk }) (vs:=its) (Att.fr_all F) (Att.news_ledger G ho) U rfl z (by lia) λe1 h' F' N'=>?_;have kp:∀b u,b≠X.env.locals->s.heap.get? b=a7 u->h'.get? b=a7 u:=λb u g e=>(N' (b,u)<|D0 _<|(f b u).mpr ⟨g,y b u e,l b u g e⟩).1;have I':u6 X pins σ H { s with heap:=h',toks:=tk }:=I.keptF (t':=tk) kp T F'.ns;have hu:A.in1.units+w6<j9:=by have:=hr.un;have:w6=30:=rfl;show A.units+1+w6<j9;lia
 refine G3 (qH I' sm so r O z hu) (λκ s' hk=>?_) λ_ _ x=>x;obtain⟨rfl,B⟩:=hk;refine Srt.wp_run (n:=its.length) (c:=λi j=>if i<xs.length then(if j<xs.length then D6 M w6 (xs.getD i default) (xs.getD j default)else a9)else bt) (λi j C hi hj hc=>?_) _ (Srt.sort_bd<|by lia).1 ?_;refine B i j C hi hj ?_;rw[p9 (by lia),p9<|by lia]at hc;exact hc;have t:=Srt.All.run (c:=λi j=>if i<xs.length then(if j<xs.length then D6 M w6 (xs.getD i default) (xs.getD j default)else a9)else bt) _ (Srt.sort_bd (n:=its.length)<|by lia).2;obtain⟨o1,o2,o3⟩:=Iv so;have d:=Srt.sort_list xs (by lia) o1 o2 o3
 try dsimp only at d
 rw[show xs.length=its.length by lia]at d t ⊢;generalize Srt.run _ (MX its.length)=p at t d ⊢;have hi:∀i∈p.toList,i<xs.length:=λi h=>by have:=t.mem_iff.mp h;rw[Ix]at this;lia
 refine KasFin.intro F' N' (UpdF.head λq hq=>((f q.1 q.2).mp hq).2.1) λh2 c F2 N2=>?_;have r':=r.perm p.toList hi;have Z:=O.perm p.toList (λi h=>by have:=hi i h;lia);refine⟨.ref D,_,I.laidF (t':=tk) (o:=.lst<|p.toList.map λi=>P.getD i .non) (λb u g e=>(N2 (b,u)<|D0 _<|(f b u).mpr ⟨g,y b u e,l b u g e⟩).1) T F2.ns L N ⟨?_,_,c,Z,(N2 _ Fn).1⟩,rfl,kk _ _ λQ S=>VQ.laidL sm .refl r' N<|S _ d.1 d.2⟩;rw[x3];have:=d.1.length_eq;rw[x3]at this;rw[Mb];lia
end
section
variable{K:v6}{ρ:List d5}{H:Hp}{M:v5}
theorem w9.laidM(S:w9 K ρ M H)(hp:H p=a8)(ok:xD K (ρ++[p]) (z5 H p o) p mo):w9 K (ρ++[p]) (M++[mo]) (z5 H p o):=by
 have g:Grow K ρ H (ρ++[p]) (z5 H p o):=Grow.laidR hp;have d:∀(n:Nat),ρ[n]?=a7 p->Lx M[n]?:=λn e=>by rcases S.tracked e with⟨o,q⟩|q;rw[hp]at q;cases q;exact q
 refine⟨λn m a h t l=>?_,by rw[D5,D5,S.len];rfl,λn a i t l=>?_⟩;rcases aU t with f|⟨f,g1⟩
 rcases aU l with N|⟨N,b⟩
 exact(S.nd n m a h f N).elim (λz=>.inl z.more) λz=>.inr z.more;subst b;exact .inl (d n f).more;rcases aU l with N|⟨N,b⟩
 subst g1;exact .inr (d m N).more;exact t4 (f.trans N.symm) h;rcases aU t with f|⟨f,g1⟩
 have c:n<M.length:=by rw[<-S.len];exact(A5.mp f).1
 rw[Le c]at l;exact(S.obj n a i f l).grow g<|S.keeps hp f l;subst g1 f;rw[S.len,LU<|w5 _,MI]at l;simp at l;subst l;exact ok
theorem B9.writtenD(hp:H p=a7 (.dK kv))(h:B9 K H a xs):B9 K (z5 H p o) a xs:=by
 rcases h with h|h;rcases h with h|⟨b,h⟩
 exact .inl (.inl<|by rw[ar<|wY h hp<|by intro z;cases z];exact h);exact .inl<|.inr ⟨b,by rw[ar<|wY h hp<|by intro z;cases z];exact h⟩;exact .inr h
theorem w9.writeD(S:w9 K ρ M H)(t:ρ[n]?=a7 a)(s:M[n]?=a7 (.dct kvs))(p:H a=a7 (.dK kv))(r:Reps K ρ H (kvs'.map (·.2)) vs'):w9 K ρ (M.set n<|.dct kvs') (z5 H a (.dK (hV (kvs'.map (·.1)) vs')))/\Grow K ρ H ρ (z5 H a (.dK (hV (kvs'.map (·.1)) vs'))):=by
 have g:Grow K ρ H ρ (z5 H a (.dK (hV (kvs'.map (·.1)) vs'))):=⟨Ml,λ_ _ h=>B9.writtenD p h⟩
 have k:∀m,m≠n->(M.set n<|.dct kvs')[m]?=M[m]?:=λm d=>Lv<|A1 d;have c:¬Lx M[n]?:=λ⟨_,z⟩=>by rw[s]at z;cases z
 refine⟨⟨λm j b e f N=>?_,by rw[M9];exact S.len,λm b o f N=>?_⟩,g⟩;have q:=S.nd m j b e f N;by_cases h1:m=n;subst h1;rw[k j<|A1 e];exact .inr<|q.resolve_left c;rw[k m h1];by_cases h2:j=n;subst h2;exact .inl<|q.resolve_right c;rw[k j h2];exact q;by_cases d:m=n;subst d;have i:b=a:=C7<|f.symm.trans t;subst i;rw[LF<|by rw[<-S.len];exact(A5.mp t).1]at N;cases N;exact⟨vs',aK,r.grow g⟩;rw[k m d]at N;by_cases i:b=a;subst i;have l:=(S.nd m n b d f t).resolve_right c;rw[N]at l;exact(S.obj m b o f N).grow g<|.inr l;exact(S.obj m b o f N).grow g<|.inl<|ar i
noncomputable def eS(kvs:List (c7×D))(k:c7):Option D:=(kvs.find? λp=>decide<|p.1=k).map (·.2)
noncomputable def jU(kvs:List (c7×D))(k:c7)(d:D):List (c7×D):=if (kvs.any λp=>decide<|p.1=k)=a9 then kvs.map (λp=>if p.1=k then(p.1,d)else p)else kvs++[(k,d)]
theorem FY(a b:c7):decide ((ABf a:E9)=ABf b)=decide (a=b):=Ea a b
theorem ie:∀{kvs:List (c7×D)}{vs:List V},Reps K ρ H (kvs.map (·.2)) vs->eS kvs k=a7 d->∃v,uK (hV (kvs.map (·.1)) vs) (ABf k)=a7 v/\v7 K ρ H d v
 | [],_,_,e=>by simp[eS]at e
 |(k',d')::kvs,_,.cons h t,e=>by
  by_cases q:k'=k;subst q;have:d'=d:=by simpa [eS]using e
  subst this;exact⟨_,by simp[hV,uK],h⟩;have e':eS kvs k=a7 d:=by simpa [eS,Lr,q]using e
  obtain⟨v,h1,h2⟩:=ie t e';refine⟨v,?_,h2⟩;have:¬(ABf k':E9)=ABf k:=λz=>q<|Sum.inr.inj z;simpa [hV,uK,Lr,this]using h1
theorem wk:∀{kvs:List (c7×D)}{vs:List V},Reps K ρ H (kvs.map (·.2)) vs->((hV (kvs.map (·.1)) vs).any λkv=>decide<|kv.1=ABf k)=kvs.any λp=>decide (p.1=k)
 | [],_,_=>rfl
 |(k',d')::kvs,_,.cons h t=>by
  have ih:=wk (k:=k) t;show (decide ((ABf k':E9)=ABf k)||(hV (kvs.map (·.1)) _).any _)=(decide (k'=k)||kvs.any _)
  rw[ih,FY]
theorem vN(hd:v7 K ρ H d v):∀{kvs:List (c7×D)}{vs:List V},Reps K ρ H (kvs.map (·.2)) vs->∃vs',(hV (kvs.map (·.1)) vs).map (λkv=>if kv.1=ABf k then(kv.1,v)else kv)=hV ((kvs.map λp=>if p.1=k then(p.1,d)else p).map (·.1)) vs'/\Reps K ρ H ((kvs.map λp=>if p.1=k then(p.1,d)else p).map (·.2)) vs'
 | [],_,.nil=>⟨[],rfl,.nil⟩
 |(k',d')::kvs,_,.cons (v:=v') h t=>by obtain⟨vs',e,r⟩:=vN (k:=k) hd t;by_cases q:k'=k;subst q;refine⟨v::vs',?_,?_⟩;simp only[C9,t8,hV,NP]at e ⊢;rw[e];simp only[C9,t8];exact .cons hd r;have q':¬(ABf k':E9)=ABf k:=λz=>q<|Sum.inr.inj z;refine⟨v'::vs',?_,?_⟩;simp only[C9,r9 q,r9 q',hV,NP]at e ⊢;rw[e];simp only[C9,r9 q];exact .cons h r
theorem qI:∀{kvs:List (c7×D)}{vs:List V},Reps K ρ H (kvs.map (·.2)) vs->hV (kvs.map (·.1)) vs++[(ABf k,v)]=hV (kvs.map (·.1)++[k]) (vs++[v])
 | [],_,.nil=>rfl
 |(k',d')::kvs,_,.cons h t=>by have:=qI (k:=k) (v:=v) t;simp only[C9,hV,NP,Oo]at this ⊢;rw[this]
theorem yB(h:v7 K ρ H d v)(r:Reps K ρ H (kvs.map (·.2)) vs):∃vs',putK (hV (kvs.map (·.1)) vs) (ABf k) v=hV ((jU kvs k d).map (·.1)) vs'/\Reps K ρ H ((jU kvs k d).map (·.2)) vs':=by unfold putK jU;rw[wk r];by_cases q:(kvs.any λp=>decide<|p.1=k)=a9;rw[p9 q,p9 q];exact vN h r;rw[r9 q,r9 q];refine⟨vs++[v],?_,?_⟩;rw[qI r,LC];rfl;rw[LC];exact r.append<|.cons h .nil
end
section
variable{X:Cx}{o i value:g7}{td ty tv:x9}{pos pos':i3}
def Db:x9:=λ_ M Q=>Q (.ref M.length)<|M++[.dct []]
theorem Kz:DE X (.Dict [] [] pos) Db:=by refine PE.imp BD ?_;rintro σ H R ⟨S,M,ρ,Q,s,c,q,k⟩;refine λp hp=>?_;have j:Q (.ref M.length) (M++[.dct []]):=q;exact k _ _ ⟨.ref M.length,M++[.dct []],ρ++[p],s.laidM (mo:=.dct []) hp ⟨[],aK,.nil⟩,Grow.laidR hp,.ref s.last,j⟩
def xv(t b:x9):x9:=λS M Q=>t S M λx a=>b S a λy M2=>match x,y with
 |.ref n,.str k=>∃kvs d,M2[n]?=a7 (.dct kvs)/\eS kvs k=a7 d/\Q d M2
 |_,_=>False
theorem KA(p:X.A.units+1<j9)(B:DE X o td)(hi:DE X i ty)(hs:Hc i):DE X (.Subscript o i pos) (xv td ty):=by
 refine PE.imp (EU p B hi hs) ?_;rintro σ H R ⟨S,M,ρ,Q,s,r,q,k⟩;refine⟨S,M,ρ,_,s,r,q,?_⟩;rintro v H1 ⟨d,h,c,F,g1,C,y⟩;refine⟨S,h,c,_,F,r.grow g1,y,?_⟩;rintro u G ⟨e,M2,a,n,f,D,g⟩
 try dsimp only at g
 split at g;obtain⟨kvs,d,l,x,z⟩:=g;obtain⟨_,rfl,m⟩:=v7.inv_ref C;cases D;obtain⟨vs,j,E⟩:=n.obj _ _ _ (ax f.pre m) l;obtain⟨w,t,b⟩:=ie E x;exact⟨_,w,rfl,.inl ⟨_,ABf _,.inl j,rfl,t.symm⟩,k _ _ ⟨d,M2,a,n,g1.trans f,b,z⟩⟩;exact g.elim
end
structure PU(X:Cx)(es:List g7)(t:Ei):Prop where
 ok:OR X es t
section
variable{X:Cx}{e a b c o i tg:g7}{es aL:List g7}{te ta tb tc to ti:x9}{t:E8}{pos p p2 pos':i3}{x:c7}{k:Nat}{g:K7}{u:Ei}{name:c7}{apos cpos:i3}
theorem FN:PU X [] eE:=⟨GA⟩
theorem Ch(h1:HG X e g)(h2:PU X es u)(hs:(j0 (e::es) X.env).map (·.2)=i9 e X.env::(j0 es X.env).map (·.2):=by kernel_rfl):PU X (e::es) (aA g u):=⟨CV h1.ok h2.ok hs⟩
theorem Ji(h:PU X es u)(f:X.calm=a9:=by kernel_rfl)(a:(j0 es X.env).length=n:=by kernel_rfl)(c:(j0 es X.env).findIdx? (·.1)=a8:=by kernel_rfl):HG X (.Tuple es j pos) (eD n u):=⟨Kr h.ok f a c⟩
theorem Jj(B:HE X o to)(hi:HE X i ti)(f:∀v,i9 (.Subscript o i pos) X.env v=(do
   let ov <-i7 [v] (eval o X.env)
   let iv <-i7 [v,ov] (eval i X.env)
   standAt pos
   i7 [v,ov,iv] (setItem ov iv v)
   release [v,ov,iv] []):=by intro _;kernel_rfl):HG X (.Subscript o i pos) (Ae to ti):=⟨Ks B.ok hi.ok f⟩
theorem DZ(i:HE X e te)(R:HG X tg g)(hs:swapsWithSole [tg] e pos.line X.env=pure bt:=by kernel_rfl)(w:swappedStores [tg] e X.env=pure a8:=by kernel_rfl)(h1:(j0 [tg] X.env).map (·.2)=[i9 tg X.env]:=by kernel_rfl):HS X (.Assign [tg] e pos) (KC te g):=⟨Kn i.ok R.ok hs w h1⟩
theorem Jg(d:X.mg "zip" = a8)(f:HA X [a,b] t)(R:X.env.kindOf "zip" = a7 .globalImplicit:=by kernel_rfl)(hs:i5 [a,b] X.env=[(bt,eval a X.env),(bt,eval b X.env)]:=by kernel_rfl)(m:i5 [b] X.env=[(bt,eval b X.env)]:=by kernel_rfl):HI X (.Tuple es x1 q) (.Call (.Name "zip" p) [a,b] [] pos) (dZip t):=⟨Kp d f.ok R hs m⟩
theorem Ge:G4 X (j6 .Add) aF:=⟨Fm⟩
theorem Gh:HC X (.type "list") wP:=⟨GJ⟩
theorem CA:HC X (.type "tuple") gh:=⟨Df⟩
def dMl0(r:Nat->E1)(d:x9):x9:=λS M Q=>d S M λx a=>match x with
 |.ref n=>(∃xs,am a n xs)/\r n [] a Q
 |_=>False
theorem k_ml0(m:PR X name r)(B:HE X o to)(e:m9 o name X.env (eval o X.env)=eval o X.env:=by kernel_rfl)(h:(apos.endLine==cpos.line)=a9:=by kernel_rfl):HE X (.Call (.Attribute o name apos) [] [] cpos) (dMl0 r to):=by
 obtain⟨id,h1,h2,j⟩:=m.ok;refine⟨PE.imp (Iq PySem.F.plainAttrs_list h1 h2 j B.ok e h) ?_⟩;rintro σ H R ⟨S,M,ρ,Q,s,t,q,k⟩;refine⟨S,M,ρ,_,s,t,q,?_⟩;rintro v H1 ⟨d,c,f,i,g1,p,b⟩;cases p with
 |@ref n a g =>
  obtain⟨⟨xs,L⟩,b⟩:=(show (∃xs,am c n xs)/\r n [] c _ from b)
  obtain⟨vs,l,_⟩:=am.seq i L g;exact⟨.inl ⟨rfl,vs,l⟩,n,a,[],c,f,Q,rfl,g,i,.nil,b,λv H' w=>k v H'<|VQ.trans g1 w⟩
 |_=>exact b.elim
theorem Jv:HE X (.Dict [] [] pos) Db:=⟨Kz⟩
theorem Bq(i:Room k X.A):X.A.units+1<j9:=by have:=i.un;lia
theorem Jw(r:Room k X.A)(B:HE X o to)(hi:HE X i ti)(hs:Hc i:=by intro _ _;kernel_rfl):HE X (.Subscript o i pos) (xv to ti):=⟨KA (Bq r) B.ok hi.ok hs⟩
end
theorem x5.never{P:c9}{w:c8}{K:v6}{mg:c7->Option b7}{base:d7}{k:Nat}{x:c7}{st:i6}{ps:List c7}{c:A2}(F:cz K mg x st ps)(h:∀ds M R,¬c ds M R):x5 P w K mg base k x ps c:=by obtain⟨f,d,a,m,b⟩:=F;refine⟨f,d,⟨λvs H Q E q=>?_,λA o s H O us vs Q E _ _ _ _ q=>?_⟩,m,a.kp,b⟩;obtain⟨ds,M,ρ,R,_,_,q,_⟩:=q;exact(h ds M R q).elim;obtain⟨ds,M,ρ,R,_,_,q,_⟩:=q;exact(h ds M R q).elim
section
variable{X:Cx}
def Hr(t:Nat)(s:List Nat)(wi:TI)(g:TG)(tt:TT)(te:TE)(N:TG):TS:=λD σ H=>QR t s wi g tt te σ H λv H1=>N v σ H1 D.nx
theorem Bz(B:BlkSc X N' nt js scope)(hc:X.calm=a9)(hi:PI X tg iter wi)(hg:∀cl s0 H0 ex,PG (C6 X N' scope cl s0 H0 ex) tg g) (ht:∀cl s0 H0 ex,ME (C6 X N' scope cl s0 H0 ex) ifs tt) (he:∀cl s0 H0 ex,PE (C6 X N' scope cl s0 H0 ex) elt te) (hn:PG X (.Name x pos') gN)(hs:∀x,j5 iter X.env x=pure x) (al:i8 (.ListComp elt [⟨tg,iter,ifs,0⟩] scope pos) (a7<|.Name x pos') pos2.line X.env=pure a9):PS X (.Assign [.Name x pos'] (.ListComp elt [⟨tg,iter,ifs,0⟩] scope pos) pos2) (Hr nt js wi g tt te gN):=by
 intro a s σ H Dn I h;rw[exec_Assign_Name_used _ _ _ _ al];refine u4<|wpAny_standAt ?_;obtain⟨cl,U,i,D⟩:=jH (scope:=scope) (env:=X.env) λp hp hf=>I.ok.has p.1<|B.free p hp hf;refine u4<|show ge (g9 X.prog X.w) X.A (comprehension (.ListComp elt [⟨tg,iter,ifs,0⟩] scope pos) scope X.env _ (newList []) bt (eval iter X.env) (a7<|i9 (.Name x pos') X.env) >>= λ_=>pure ()) _ _ _ from u4 ?_;refine wpAny_comprehension_free (use:=a7<|i9 (.Name x pos') X.env) (Q:=λ_ r=>ge (g9 X.prog X.w) X.A (pure ()) (λ_ s3=>ge (g9 X.prog X.w) X.A (pure Flow.next) (SP X a Dn) X.xe s3) X.xe r) rfl hs U B.kind B.loc ?_;refine x6 (hi a s σ H _ I h) λv s1 h1=>x6 h1 λas n h2=>?_;obtain⟨it,fp,tn,J,H2,e,j,T,S,N,W,⟨m0,w0⟩,L⟩:=h2;subst e;refine K3<|wpAny_newFunctionEnv B.nocell (by intro y hy;simp at hy) (λh1 E F=>?_) B.kind;have m:∀b∈fp,b<n.heap.objs.size:=λb f=>by obtain⟨o,e,_⟩:=T.obj _ _ S b f;exact A0 e
 have hC:(n.heap.push<|cG [] 0).objs.size=n.heap.objs.size+1:=Lj ..;have G:∀b o,(n.heap.push<|cG [] 0).get? b=a7 o->h1.get? b=a7 o:=λb o e=>(F.2 b<|A3<|A0 e).trans<|z6 _ e;have I3:=j.blkStart (tk:=n.toks+([]:List (c7×b7)).length) B i D N m G E;have K:tn 0 h1:=T.keep _ _ _ S λb _ o e=>G b o<|z6 _ e;have ab:n.heap.objs.size∉fp:=λz=>G8 _<|m _ z;have ai:n.heap.objs.size∉frs X.stack:=λz=>by rcases A4.mp (j.stkSub _ z)with q|q;exact t4 j.lt (by rw[<-q];exact G8 _);exact j.nofs (w5 _) q
 have u:n.heap.objs.size≠(n.heap.push<|cG [] 0).objs.size:=by rw[hC];exact A3<|LP _
 have ltc:∀z c,cl.lookup z=a7 c->c<n.heap.objs.size:=λz c e=>by obtain⟨v,q⟩:=j.cell z c<|i z c e;exact q.lt
 have t:∀b∈fp,b≠(n.heap.push<|cG [] 0).objs.size/\b∉frs X.stack/\∀x c,cl.lookup x=a7 c->c≠b:=λb f=>by refine⟨by rw[hC];exact A3<|NN<|m b f,λz=>?_,λx c e=>(N b f).2.2.2.2.1 x c<|i x c e⟩;rcases A4.mp (j.stkSub b z)with q|q;exact(N b f).2.1 q;exact(N b f).2.2.1 q
 have an:n.heap.objs.size<=(n.heap.push<|cG [] 0).objs.size:=by rw[hC];exact N9 _
 have l:k9 (g9 X.prog X.w) X.A (.compLoop (.ListComp elt [⟨tg,iter,ifs,0⟩] scope pos) 0 (.ref it) (.ref n.heap.objs.size)<|compEnvC scope cl (n.heap.push<|cG [] 0).objs.size X.env) (compPost (g9 X.prog X.w) X.A X.xe (a7<|i9 (.Name x pos') X.env) (λ_ r=>ge (g9 X.prog X.w) X.A (pure ()) (λ_ s3=>ge (g9 X.prog X.w) X.A (pure Flow.next) (SP X a Dn) X.xe s3) X.xe r) (.ref n.heap.objs.size) (n.heap.push<|cG [] 0).objs.size) { n with heap:=h1,toks:=n.toks+([]:List (c7×b7)).length }:=by
  refine zm (s0:={ n with heap:=n.heap.push (cG [] 0) }) (H0:=H2) (N':=N') (Q:=λv H1=>gN v σ H1 Dn.nx) hc (hg _ _ _ _) (ht _ _ _ _) (he _ _ _ _) T ab L t u ai (λx c e=>A3<|ltc x c e) ?_ m0 I3 K (λb f=>(N b f).1) w0;intro τ H' s' vs its k P rv hl q;obtain⟨mm,aj,_⟩:=id P.loc;obtain⟨C,es,V,eC,aL⟩:=id aj;have I5:u6 X a σ (z5 H' n.heap.objs.size<|.lst vs) s':=j.blkEnd N P rv hl ⟨rfl,λ_ _=>rfl⟩;have Y:z5 H' n.heap.objs.size (.lst vs) (n.heap.push<|cG [] 0).objs.size=a8:=by rw[ar<|A1 u];exact P.free
  have Z:∀Hx:Hp,Hx (n.heap.push<|cG [] 0).objs.size=a8->wt X a Hx (n.heap.push<|cG [] 0).objs.size:=λHx hx=>j.fpOk an hx;have dC:∀v,C.data≠.cell v:=λv z=>by
   have:∃es V,C.data=.dict es V:=by
    first
     |(obtain⟨d,_⟩:=aL;exact⟨_,_,d⟩)
     |(obtain⟨_,d,_⟩:=aL;exact⟨_,_,d⟩)
     |(obtain⟨_,_,d,_⟩:=aL;exact⟨_,_,d⟩)
   obtain⟨_,_,d⟩:=this;rw[d]at z;cases z
  have I6:u6 X (a++[((n.heap.push<|cG [] 0).objs.size,C)]) σ (z5 H' n.heap.objs.size<|.lst vs) s':=I5.pins_of λp hp=>by
   rcases I9.mp hp with hp|hp;exact I5.pin p<|Lm _ hp;have:p=((n.heap.push<|cG [] 0).objs.size,C):=by simpa using hp
   subst this;exact⟨eC,Y,(Z _ Y).2.1,(Z _ Y).2.2.1,dC⟩
  refine x6 (hn _ s' σ _ (.ref n.heap.objs.size) (.ref n.heap.objs.size) _ I6 rfl q) ?_;rintro _ s7 ⟨M,O,R,q7⟩;obtain⟨p1,p2,_⟩:=R.pin ((n.heap.push<|cG [] 0).objs.size,C)<|Lm _<|Lm _ Fn;refine⟨mm,⟨C,es,V,p1,aL⟩,λh' sb=>u8<|u8 ⟨M,O,?_,q7⟩⟩;have I8:u6 X a M O s7:=R.pins_of λp hp=>R.pin p<|Lm _<|NQ _ hp;refine I8.turnedL (t':=s7.toks) (fp:=[(n.heap.push<|cG [] 0).objs.size]) (λb f=>?_) λb o f e=>(sb.2 b<|by simpa using f).trans e;have:b=(n.heap.push<|cG [] 0).objs.size:=by simpa using f
  subst this;exact Z O p2
 exact codeAny_compStart_list l<|T.self _ 0 _ _ _ K l
def gj(t:Nat)(s:List Nat)(b:LJ)(g:K7)(tt:J1)(te:x9)(i:Nat):u9:=λE S M=>Lg t s b g tt te S M λd a=>af i d S a E.nx
theorem CP(B:BlkSc X N' nt js scope)(f:X.calm=a9)(hi:DI X tg iter di)(R:∀cl s0 H0 ex,DG (C6 X N' scope cl s0 H0 ex) tg g) (D:∀cl s0 H0 ex,ME (C6 X N' scope cl s0 H0 ex) ifs<|lowT X.K tt) (e:∀cl s0 H0 ex,DE (C6 X N' scope cl s0 H0 ex) elt te) (n:DG X (.Name x pos') (af i))(hs:∀x,j5 iter X.env x=pure x) (h:i8 (.ListComp elt [⟨tg,iter,ifs,0⟩] scope pos) (a7<|.Name x pos') pos2.line X.env=pure a9):DS X (.Assign [.Name x pos'] (.ListComp elt [⟨tg,iter,ifs,0⟩] scope pos) pos2) (gj nt js di g tt te i):=PS.imp (Bz (g:=lowG X.K g) (tt:=lowT X.K tt) (te:=lowE X.K te) B f hi (λcl s0 H0 ex=>R cl s0 H0 ex) D (λcl s0 H0 ex=>e cl s0 H0 ex) n hs h) λE σ H ⟨S,M,ρ,F,s,r,q,k⟩ =>
  zb σ H _ ⟨S,M,ρ,_,s,r,q,λv H1 ⟨d,b,c,m,g1,l,j⟩=>⟨d,S,b,c,_,m,r.grow g1,l,j,λa H' w=>k.nx a H'<|SQ.trans g1 w⟩⟩
theorem Cd(a:X.N.Nodup)(hi:HI X tg iter di)(R:∀cl s0 H0 ex,HG (C6 X N' scope cl s0 H0 ex) tg g) (D:∀cl s0 H0 ex,N1 (C6 X N' scope cl s0 H0 ex) ifs tt) (e:∀cl s0 H0 ex,HE (C6 X N' scope cl s0 H0 ex) elt te) (B:nS X.env.scope.names X.N N' nt js scope=a9:=by kernel_rfl) (f:X.calm=a9:=by kernel_rfl)(hs:∀x,j5 iter X.env x=pure x:=by intro _;kernel_rfl) (w:i8 (.ListComp elt [⟨tg,iter,ifs,0⟩] scope pos) (a7<|.Name x pos') pos2.line X.env=pure a9:=by kernel_rfl)(h:X.N[i]?=a7 x:=by kernel_rfl) (c:Fu X.env.scope x=a9:=by kernel_rfl) (b:X.fn x=a9:=by kernel_rfl):HS X (.Assign [.Name x pos'] (.ListComp elt [⟨tg,iter,ifs,0⟩] scope pos) pos2) (gj nt js di g tt te i):=⟨CP (BlkSc.chk B) f hi.ok (λcl s0 H0 ex=>(R cl s0 H0 ex).ok) (λcl s0 H0 ex=>(D cl s0 H0 ex).ok) (λcl s0 H0 ex=>(e cl s0 H0 ex).ok) (uv a h (vO c)<|.inl b) hs w⟩
end
theorem Nh:atI (a::r) 0=a7 a:=by have:=av (xs:=a::r) (j:=0) (v:=a) rfl;simpa using this
theorem Ms:atI (a::b::r) 1=a7 b:=by have:=av (xs:=a::b::r) (j:=1) (v:=b) rfl;simpa using this
theorem QW:atI (a::b::c::r) 2=a7 c:=by have:=av (xs:=a::b::c::r) (j:=2) (v:=c) rfl;simpa using this
theorem aO.lst(h:R (.ref M.length) (M++[.lst xs]))(f:M.length<=n)(e:(M++L)[n]?=a7 (.lst xs))(b:Bels M.length xs):aO M R (.ref n) (M++L):=.inr<|.inr ⟨M,n,xs,.refl,rfl,f,e,Lu _ _,b,h⟩
theorem aO.chgL(c:N5 M M1)(h:R (.ref M.length) (M1++[.lst xs]))(f:M.length<=n)(e:M'[n]?=a7 (.lst xs))(p:M1 <+: M')(b:Bels M.length xs):aO M R (.ref n) M':=.inr<|.inr ⟨M1,n,xs,c,rfl,f,e,p,b,h⟩
theorem kX:(M++a::L).set M.length b=M++b::L:=by rw[Qw _ _<|w5 _];simp
theorem bT:(M++a::L)[M.length]?=a7 a:=by simp
theorem EN:M <+: M++L:=Lu _ _
theorem fQ(I:List D->List D->SD->v5->Prop)(h0:∀acc S M,I [] acc S M->ok M/\Q (.ref M.length) (M++[.lst acc]))(h1:∀x xs acc S M,I (x::xs) acc S M->∀K:List D->SD->v5->Prop,(∀acc S M,I xs acc S M->K acc S M)->ok M/\g x S M λS2 M2=>tt S2 M2 λb M3=>if b=a9 then te S2 M3 λy M4=>acc.length<sizeLine/\K (acc++[y]) S2 M4 else K acc S2 M3):∀xs acc S M,I xs acc S M->mh ok g tt te Q xs acc S M
 | [],acc,S,M,h=>h0 acc S M h
 |x::xs,acc,S,M,h=>h1 x xs acc S M h _<|fQ I h0 h1 xs
noncomputable def Oz:D->c7
 |.str x=>x
 |_=>Str.empty
theorem yG{ys:List D}{s:List c7}(h:ys.Perm (s.map D.str)):∃ns:List c7,ys=ns.map D.str/\ns.Perm s:=by
 refine⟨ys.map Oz,?_,?_⟩;rw[J3];have:∀y∈ys,(D.str ∘ Oz) y=y:=λy Q=>by obtain⟨x,_,rfl⟩:=C1.mp<|h.mem_iff.mp Q;rfl
 exact(Q8 this ▸ (List.map_id' ys).symm:ys=ys.map (D.str ∘ Oz));have:=h.map Oz;rw[J3]at this;have e:(Oz ∘ D.str)=id:=rfl
 rwa [e,N7]at this
theorem wL{M:v5}{s:List c7}(h:s.length<64):SrtOk M (s.map D.str):=by refine⟨by rw[x3];exact h,λx a=>?_,λx a y Q=>?_,.inl λx a=>?_⟩;obtain⟨z,_,rfl⟩:=C1.mp a;rfl;obtain⟨z,_,rfl⟩:=C1.mp a;obtain⟨G,_,rfl⟩:=C1.mp Q;rfl;obtain⟨z,_,rfl⟩:=C1.mp a;exact⟨z,rfl⟩
theorem vI:(jU kvs k d).length<=kvs.length+1/\1<=(jU kvs k d).length:=by unfold jU;by_cases q:(kvs.any λp=>decide<|p.1=k)=a9;rw[p9 q,x3];obtain⟨p,hp,_⟩:=Lh.mp q;have:0<kvs.length:=List.length_pos_of_mem hp;lia;rw[r9 q,D5,Ll];lia
theorem fP:(M++a::b::L)[M.length+1]?=a7 b:=by rw[LU (by lia),show M.length+1-M.length=1 by lia];rfl
section
variable{prog:c9}{w:c8}{A:f6}{E:b7->f7->Prop}{s:f7}
noncomputable def aZ(w:c8):d6:={ cls:=.type "set",dict:=a8,data:=.set #[] 0 (.fresh 0 0<|!w.params.followText "set-order") }
theorem uz(a:b7)(h:Q₁ (.ref s.heap.objs.size) { s with heap:=s.heap.push (aZ w) }):k9 (g9 prog w) A (.call (.builtin "set.__new__") ⟨[.type "set",a],[]⟩) (wants Q₁ E) s:=by
 refine codeAny_of_tree<|show ge (g9 prog w) A.in1 (do checkBuiltinCall "set.__new__" ⟨[.type "set",a],[]⟩;again (.builtin "set.__new__" ⟨[.type "set",a],[]⟩)) _ _ s from ?_;refine u4<|N8 (F.newCall_set_1 a)<|u8 ⟨ML F.plain_set_new _,MB F.entry_set_new ?_⟩;rw[Nc F.plain_set_new _];have e:=sub_set_self;obtain⟨hp,g,d,q,c⟩:=s;unfold Builtin.«set.__new__» Builtin.Frozenset.newClass;dsimp only
 wp_walk
 refine NL<|u8 ?_;simp only[newObj];exact u4<|wpAny_alloc<|u8<|u8 h
end
structure TxSrc(prog:c9)(w:c8)(h:d7)(l:d5)(T:String)(n:Nat)(P:Nat->b7->Prop):Prop where
 obj:∃o,h.get? l=a7 o/\o.cls=.type T
 ns:isSubtype (.type T) (.type "set")=pure bt
 nf:isSubtype (.type T) (.type "frozenset")=pure bt
 nd:(NG T==NG "dict")=bt
 iter:∀(A:f6) (s':f7),A.handled=a8->(∀o,h.get? l=a7 o->s'.heap.get? l=a7 o)->∃(oI:d6) (St:Nat->d7->Prop),(∀(E:b7->f7->Prop) (Q:b7->f7->Prop),Q (.ref s'.heap.objs.size) { s' with heap:=s'.heap.push oI }->ge (g9 prog w) A (j3<|.ref l) Q E s') /\Walks prog w A s'.heap.objs.size [s'.heap.objs.size,l] [s'.heap.objs.size] n P St/\St 0 (s'.heap.push oI)
theorem sZ:isSubtype (.type "tuple") (.type "set")=pure bt:=by rw[isSubtype_type];kernel_rfl
theorem qC:isSubtype (.type "tuple") (.type "frozenset")=pure bt:=by rw[isSubtype_type];kernel_rfl
theorem TxSrc.list(g:h.IsList l its):TxSrc prog w h l "list" its.size (λi v=>its[i]?=a7 v):=by
 refine⟨let ⟨o,e,c,_⟩:=g;⟨o,e,c⟩,F.sub_list_set,F.sub_list_frozenset,by decide,λA s' b k=>?_⟩;have a:s'.heap.IsList l its:=g.at k;have lt:l<s'.heap.objs.size:=let ⟨o,e,_⟩:=a;A0 e
 exact⟨_,_,λE Q q=>Qk a q,Walks.list b _ l (A3 lt) its,⟨_,C5 _ rfl,rfl,rfl⟩,a.push _⟩
theorem TxSrc.tuple(g:h.IsTuple l its):TxSrc prog w h l "tuple" its.size (λi v=>its[i]?=a7 v):=by
 refine⟨let ⟨o,e,c,_⟩:=g;⟨o,e,c⟩,sZ,qC,by decide,λA s' b k=>?_⟩;have a:s'.heap.IsTuple l its:=let ⟨o,e,r⟩:=g;⟨o,k o e,r⟩
 have lt:l<s'.heap.objs.size:=let ⟨o,e,_⟩:=a;A0 e
 exact⟨_,_,λE Q q=>wpAny_pyIter_tuple a q,Walks.tuple b _ l (A3 lt) its,⟨_,C5 _ rfl,rfl,rfl⟩,let ⟨o,e,r⟩:=a;⟨o,z6 _ e,r⟩⟩
theorem bb:Slot "set_iterator" "__next__" "set_iterator.__next__":=.of (owner:="set_iterator") (n:="__next__") (by rw[O6,Pp];kernel_rfl) (by decide +kernel) (by decide +kernel) (by decide +kernel) (by first|exact .inl (by decide +kernel)|exact .inr<|by decide +kernel)<|by rw[isSubtype_type];kernel_rfl
theorem eA:entryFor table "set_iterator.__next__" = a7 Builtin.«set_iterator.__next__»:=entryFor_of_tree<|by kernel_rfl
theorem lG:Manifest.owners.lookup (String.ofList ['r','o','t','a','r','e','t','i','_','t','e','s'].reverse)=a7 Manifest.sig_set_iterator:=by kernel_rfl
theorem fR(a:b7):argsOk "set_iterator.__next__" ⟨[a],[]⟩:=by unfold argsOk;rw[signature?_of (id:="set_iterator.__next__") (n:=['_','_','t','x','e','n','_','_']) (o:=['r','o','t','a','r','e','t','i','_','t','e','s']) (by kernel_rfl) lG];kernel_rfl
theorem pc:entryFor table "set.__iter__" = a7 Builtin.«frozenset.__iter__»:=entryFor_alias (id':="frozenset.__iter__") (by kernel_rfl) rfl (by decide +kernel)<|by kernel_rfl
theorem jh{α:Type}:∀(l:List α) (i:Nat) (h:i<l.length),(l[i]::l.eraseIdx i).Perm l
 |x::l,0,_=>Oi _
 |x::l,i+1,h=>by
  have h':i<l.length:=by simpa using h
  exact(List.Perm.swap x l[i]<|l.eraseIdx i).trans<|P4 x<|jh l i h'
theorem xz(f:n≠0)(h:∀i d,i<n->Q i { s with drawn:=d }):ge M A (choose src n) Q E s:=by intro Γ p a;show Sem.wp M Γ (Sem.choose src n λi=>Sem.pure i) _ _ p s;rw[Sem.wp_choose];refine⟨f,?_⟩;rw[Sem.wp_pure];exact h _ _<|Nat.mod_lt _<|Nat.pos_of_ne_zero f
theorem sg{α:Type}{M:Model}{A:f6}{E:b7->f7->Prop}:∀(n:Nat) (xs:List α) (s:f7) (Q:List α->f7->Prop),xs.length=n->(∀ys d,ys.Perm xs->Q ys { s with drawn:=d })->ge M A (drawOrder n xs) Q E s
 | 0,xs,s,Q,e,h=>by
  cases xs with
  |nil=>exact u8<|h [] s.drawn<|Oi _
  |cons _ _=>cases e
 |n+1,[],s,Q,e,h=>by cases e
 |n+1,x::xs,s,Q,e,h=>by unfold drawOrder;refine u4<|xz (by simp) λi d hi=>?_;rw[z9 hi];refine u4<|sg n ((x::xs).eraseIdx i) { s with drawn:=d } _ (by rw[List.length_eraseIdx_of_lt hi];simp at e ⊢;lia) λys d' hp=>u8<|h _ d' ?_;exact(P4 _ hp).trans<|jh _ i hi
theorem lr{α:Type}(next:Nat->Nat)(xs:Array α):(o8 next xs).toList.Perm xs.toList:=by
 have o:∀(l k:Nat) (left:List α) (t:Array α),left.length=l->(pickOrder.go next l k left t).toList.Perm (t.toList++left):=by
  intro l;induction l with
  |zero =>
   intro k left t e;cases left with
   |nil=>simp[pickOrder.go]
   |cons _ _=>cases e
  |succ n i=>intro k left t e;have hi:next k % left.length<left.length:=Nat.mod_lt _ (by lia);unfold pickOrder.go;rw[z9 hi];dsimp only;refine(i (k+1) _ _<|by rw[List.length_eraseIdx_of_lt hi];lia).trans ?_;rw[Array.toList_push,Ls];exact List.Perm.append_left _<|jh _ _ hi
 have:=o xs.size 0 xs.toList #[] (by simp);simpa [o8]using this
noncomputable def er(first:b7)(i n:Nat)(a:d5)(ep:Nat):d6:={ cls:=.type "set_iterator",data:=.fields #[first,j4 i,.ref a,j4 n,j4 ep] }
structure SetAt(h:d7)(a:d5)(o:d6)(es:Array (Int×b7))(ep:Nat)(t:p7):Prop where
 ob:h.get? a=a7 o
 dt:o.data=.set es ep t
 ft:t.fits es.size=a9
section
variable{prog:c9}{w:c8}{A:f6}{E:b7->f7->Prop}{s:f7}{a it:d5}{o:d6}{es:Array (Int×b7)}{ep:Nat}{t:p7}
theorem nD(c:A.handled=a8)(h:∀h' e,(∀b o,s.heap.get? b=a7 o->h'.get? b=a7 o)->(∃o,h'.get? e=a7 o/\o.cls=.type "StopIteration")->F (.ref e) { s with heap:=h' }):ge (g9 prog w) A (do raiseNew (<-newExc (.type "StopIteration") []):Sem Fin) Q F s:=by refine u4 ?_;simp only[newExc,newTuple];refine u4 (K3 (u4 (m:=o6 _ _)<|N8 (a:=J2) (by first|rfl|(simp only[o6];rfl))<|K3 ?_<|by size_fits)<|by size_fits);simp only[raiseNew];refine u4<|wpAny_handled ?_;rw[c];exact u4<|u8<|wpAny_throw<|h _ _ (λb o e=>z6 _<|z6 _ e) ⟨_,C5 _ rfl,rfl⟩
theorem lN{slot i next:Nat}{x:b7}{Q:Option b7->f7->Prop}(I:s.heap.get? it=a7 (er (j4 slot) i es.size a ep))(S:SetAt s.heap a o es ep t)(f:∀(A:f6) (E:b7->f7->Prop) (Q:Option (b7×Nat)->f7->Prop),Q (a7 (x,next)) s->ge (g9 prog w) A (setNext a slot i ep) Q E s)(b:∀h',h'.get? it=a7 (er (j4 next) (i+1) es.size a ep)->J6 it s.heap h'->Q (a7 x) { s with heap:=h' }):ge (g9 prog w) A (j1<|.ref it) Q E s:=by
 have m:s.TypeIs (.ref it) "set_iterator":=⟨_,I,rfl⟩
 unfold j1;refine u4<|Mi<|LS (name:=u7 "__next__") m bb<|J4 bb m eA ?_<|fR _;unfold Builtin.«set_iterator.__next__»;refine u4<|u8<|u4<|Mj I rfl ?_;dsimp only[er,j4];refine u4<|Pl S.ob S.dt S.ft ?_;rw[r9<|by simp];refine u4<|f _ _ _ ?_;dsimp only;refine u4<|MA I rfl (by simp)<|u4<|MA (Lw _ I rfl) rfl (by simp)<|u8 ⟨x,rfl,u8<|b _ ?_<|(LD ..).trans<|LD ..⟩;refine(Lw _ (Lw _ I rfl) rfl).trans ?_;simp[er,Obj.mapFields,j4]
theorem dS{slot i:Nat}{Q:Option b7->f7->Prop}(g:A.handled=a8)(I:s.heap.get? it=a7 (er (j4 slot) i es.size a ep))(S:SetAt s.heap a o es ep t)(n:∀(A:f6) (E:b7->f7->Prop) (Q:Option (b7×Nat)->f7->Prop),Q a8 s->ge (g9 prog w) A (setNext a slot i ep) Q E s)(h:∀h',(∀b o,b≠it->s.heap.get? b=a7 o->h'.get? b=a7 o)->Q a8 { s with heap:=h' }):ge (g9 prog w) A (j1<|.ref it) Q E s:=by
 have m:s.TypeIs (.ref it) "set_iterator":=⟨_,I,rfl⟩
 unfold j1;refine u4<|Mi<|LS (name:=u7 "__next__") m bb<|J4 bb m eA ?_<|fR _;unfold Builtin.«set_iterator.__next__»;refine u4<|u8<|u4<|Mj I rfl ?_;dsimp only[er,j4];refine u4<|Pl S.ob S.dt S.ft ?_;rw[r9<|by simp];refine u4<|n _ _ _ ?_;dsimp only;refine u4<|MA I rfl (by simp) ?_;refine nD (by simp[g]) ?_;rintro h' e k ⟨y,c,f⟩;refine u4<|Nn (T:="StopIteration") (b:=a9) ⟨y,c,f⟩ O3<|u8<|h h' λb j d M=>k b j ?_;exact((LD ..).2 b d).trans M
theorem wX{tt:d5}{ps:List Nat}{i j:Nat}{e:Int×b7}{Q:Option b7->f7->Prop}(I:s.heap.get? it=a7 (er (.ref tt) i es.size a ep))(C:s.heap.IsTuple tt (ps.map λ(k:Nat)=>j4 k).toArray)(S:SetAt s.heap a o es ep t)(hj:ps[i]?=a7 j) (d:es[j]?=a7 e) (c:∀h',h'.get? it=a7 (er (.ref tt) (i+1) es.size a ep)->J6 it s.heap h'->Q (a7 e.2) { s with heap:=h' }):ge (g9 prog w) A (j1<|.ref it) Q E s:=by
 have m:s.TypeIs (.ref it) "set_iterator":=⟨_,I,rfl⟩
 obtain⟨f,b,_,n,h⟩:=C;unfold j1;refine u4<|Mi<|LS (name:=u7 "__next__") m bb<|J4 bb m eA ?_<|fR _;unfold Builtin.«set_iterator.__next__»;refine u4<|u8<|u4<|Mj I rfl ?_;dsimp only[er,j4];refine u4<|Pl S.ob S.dt S.ft ?_;rw[r9<|by simp];refine u4<|LB b h ?_;have x:(ps.map λ(k:Nat)=>j4 k).toArray[i]?=a7 (.int j 0):=by simp[hj,j4]
 simp only[Ld,x];unfold setNextDrawn;refine u4<|u4<|Mn S.ob S.dt S.ft ?_;simp only[bne_self_eq_false,A8,t7,d];refine u8<|u4<|MA I rfl (by simp)<|u8 ⟨_,rfl,u8<|c _ ?_<|LD ..⟩;refine(Lw _ I rfl).trans ?_;simp[er,Obj.mapFields,j4]
theorem mF{tt:d5}{ps:List Nat}{i:Nat}{Q:Option b7->f7->Prop}(l:A.handled=a8)(I:s.heap.get? it=a7 (er (.ref tt) i es.size a ep))(C:s.heap.IsTuple tt (ps.map λ(k:Nat)=>j4 k).toArray)(S:SetAt s.heap a o es ep t)(hj:ps[i]?=a8) (d:∀h',(∀b o,b≠it->s.heap.get? b=a7 o->h'.get? b=a7 o)->Q a8 { s with heap:=h' }):ge (g9 prog w) A (j1<|.ref it) Q E s:=by
 have m:s.TypeIs (.ref it) "set_iterator":=⟨_,I,rfl⟩
 obtain⟨r,c,_,q,h⟩:=C;unfold j1;refine u4<|Mi<|LS (name:=u7 "__next__") m bb<|J4 bb m eA ?_<|fR _;unfold Builtin.«set_iterator.__next__»;refine u4<|u8<|u4<|Mj I rfl ?_;dsimp only[er,j4];refine u4<|Pl S.ob S.dt S.ft ?_;rw[r9<|by simp];refine u4<|LB c h ?_;have x:(ps.map λ(k:Nat)=>j4 k).toArray[i]?=a8:=by simpa using hj
 simp only[Ld,x];refine u4<|MA I rfl (by simp)<|u4<|MA (Lw _ I rfl) rfl (by simp) ?_;refine nD (by simp[l]) ?_;rintro h' e n ⟨y,j,g⟩;refine u4<|Nn (T:="StopIteration") (b:=a9) ⟨y,j,g⟩ O3<|u8<|d h' λb p f M=>n b p ?_;exact(((LD ..).trans<|LD ..).2 b f).trans M
end
end L2
namespace L2
theorem nodup_le{α:Type}[DecidableEq α]:∀(l xs:List α),l.Nodup->(∀x∈l,x∈xs)->l.length<=xs.length
 | [],xs,_,_=>C4 _
 |a::l,xs,nd,h=>by have ha:a∈xs:=h a Fn;have nd':=La.mp nd;have ih:=nodup_le l (xs.erase a) nd'.2 λx hx=>(List.mem_erase_of_ne<|show x≠a from λz=>nd'.1<|by rw[<-z];exact hx).mpr<|h x<|D0 _ hx;rw[List.length_erase_of_mem ha]at ih;have:0<xs.length:=List.length_pos_of_mem ha;rw[E5];lia
end L2
namespace Ht
open PySem
noncomputable def OI(m:Nat)(p:Nk):Nk:=if p.more > 0 then { p with j:=p.j+1,more:=p.more-1 } else
 { p with j:=(MZ m p.i p.perturb).1,more:=K8 m (MZ m p.i p.perturb).1-(MZ m p.i p.perturb).1,i:=(MZ m p.i p.perturb).1,perturb:=(MZ m p.i p.perturb).2 }
noncomputable def iR(m i t:Nat):Nk:={ j:=i,more:=K8 m i-i,i,perturb:=t,dummy:=a8 }
noncomputable def kW(m:Nat)(p:Nk):Nat->Nk
 | 0=>p
 |n+1=>OI m<|kW m p n
noncomputable def sq(m:Nat)(h:Int)(n:Nat):Nk:=kW m (iR m (Mz h % (m+1))<|Mz h) n
theorem qD(m:Nat)(p:Nk)(a b:Nat):kW m p (a+b)=kW m (kW m p a) b:=by
 induction b with
 |zero=>rfl
 |succ b i=>rw[Nat.add_succ,kW,i];rfl
theorem HF(m i:Nat):K8 m i-i<=9:=by unfold K8;split<;>lia
theorem zI(m i pt:Nat):∀k,k<=K8 m i-i->kW m (iR m i pt) k={ j:=i+k,more:=K8 m i-i-k,i,perturb:=pt,dummy:=a8 }
 | 0,_=>by simp[kW,iR]
 |k+1,h=>by rw[kW,zI m i pt k<|by lia];unfold OI;rw[p9<|show K8 m i-i-k > 0 by lia];simp only[SetTable.Probe.mk.injEq,true_and,and_true];lia
theorem BN(m i t:Nat):kW m (iR m i t) (K8 m i-i+1)=iR m (MZ m i t).1 (MZ m i t).2:=by rw[kW,zI m i t _<|w5 _];unfold OI;rw[r9<|show ¬K8 m i-i-(K8 m i-i) > 0 by lia];rfl
noncomputable def dL(m:Nat)(h:Int):Nat->Nat×Nat
 | 0=>(Mz h % (m+1),Mz h)
 |k+1=>MZ m (dL m h k).1 (dL m h k).2
noncomputable def eI(m:Nat)(h:Int):Nat->Nat
 | 0=>0
 |k+1=>eI m h k+(K8 m (dL m h k).1-(dL m h k).1+1)
theorem Dq(m:Nat)(h:Int)(k:Nat):eI m h k<=10*k:=by
 induction k with
 |zero=>exact w5 _
 |succ k i=>have:=HF m (dL m h k).1;unfold eI;lia
theorem Dz(m:Nat)(h:Int)(k:Nat):sq m h (eI m h k)=iR m (dL m h k).1 (dL m h k).2:=by
 induction k with
 |zero=>rfl
 |succ k i=>unfold sq at i ⊢;unfold eI;rw[qD,i,BN];rfl
theorem yu(m:Nat)(h:Int)(k r:Nat)(i:r<=K8 m (dL m h k).1-(dL m h k).1):(sq m h<|eI m h k+r).j=(dL m h k).1+r:=by have e:=Dz m h k;unfold sq at e ⊢;rw[qD,e,zI _ _ _ _ i]
theorem GN(h:Int):Mz h<2 ^ 64:=by unfold Mz;have a:=Int.emod_nonneg h (show (2 ^ 64:Int)≠0 by decide);have h1:=Int.emod_lt_of_pos h (show (0:Int)<2 ^ 64 by decide);lia
theorem nH(m:Nat)(h:Int):∀k,(dL m h k).2=Mz h / 32 ^ k
 | 0=>by simp[dL]
 |k+1=>by show (dL m h k).2 / 32=_;rw[nH m h k,Nat.div_div_eq_div_mul,<-Nat.pow_succ]
theorem qU(m:Nat)(h:Int)(k:Nat)(a:13<=k):(dL m h k).2=0:=by
 rw[nH];apply Nat.div_eq_of_lt;have h1:=GN h;have h2:32 ^ 13<=32 ^ k:=Nat.pow_le_pow_right (by decide) a;have b:(2:Nat) ^ 64<32 ^ 13:=by decide
 lia
noncomputable def uG(m i:Nat):Nat:=(i*5+1) % (m+1)
noncomputable def bL(m i:Nat):Nat->Nat
 | 0=>i
 |k+1=>uG m<|bL m i k
theorem dI(m i a b:Nat):bL m i (a+b)=bL m (bL m i a) b:=by
 induction b with
 |zero=>rfl
 |succ b h=>rw[Nat.add_succ,bL,h];rfl
theorem tq(m:Nat)(h:Int)(r:Nat):(dL m h<|13+r).1=bL m (dL m h 13).1 r:=by
 induction r with
 |zero=>rfl
 |succ r i=>show (MZ m (dL m h<|13+r).1 (dL m h<|13+r).2).1=uG m (bL m (dL m h 13).1 r);rw[qU m h _ (by lia),i];rfl
theorem tw(m:Nat)(h:Int):∀k,(dL m h k).1<=m
 | 0=>Nat.lt_succ_iff.mp<|Nat.mod_lt _<|Nat.succ_pos _
 |k+1=>Nat.lt_succ_iff.mp<|Nat.mod_lt _<|Nat.succ_pos _
def He(m:Nat):Prop:=bL m 0 (m+1)=0/\∀s,s<=m->∃k,k<=m/\bL m 0 k=s
noncomputable def tJ(m:Nat):Nat->Nat->List Nat
 | 0,_=>[]
 |n+1,i=>i::tJ m n (uG m i)
theorem lH(m:Nat):∀(n i k:Nat),k<n->(tJ m n i)[k]?=a7 (bL m i k)
 | 0,_,_,h=>t4 h<|M8 _
 |n+1,i,0,_=>rfl
 |n+1,i,k+1,h=>by rw[tJ,QC,lH m n (uG m i) k (by lia),<-show bL m (bL m i 1) k=bL m i (k+1)from by rw[<-dI,Nat.add_comm]];rfl
theorem ul(m:Nat)(h:((tJ m (m+2) 0)[m+1]?==a7 0&&(D3<|m+1).all λs=>(tJ m (m+1) 0).contains s)=a9):He m:=by
 rw[F3,t6,E7]at h;refine⟨?_,λs hs=>?_⟩;have:=lH m (m+2) 0 (m+1) (by lia);rw[h.1]at this;exact(C7 this).symm;have:=h.2 s (Ix.mpr<|by lia);rw[List.contains_iff_mem]at this;obtain⟨k,a⟩:=LR this;have g:k<m+1:=by
  have:=(A5.mp a).1;have B:∀n i,(tJ m n i).length=n:=by
   intro n;induction n with
   |zero=>intro i;rfl
   |succ n b=>intro i;simp[tJ,b]
  rw[B]at this;exact this
 rw[lH m _ 0 k g]at a;exact⟨k,by lia,C7 a⟩
theorem full7:He 7:=ul 7<|by decide +kernel
theorem JX:He 31:=ul 31<|by decide +kernel
theorem Gj:He 127:=ul 127<|by decide +kernel
theorem zS(F:He m)(hi:i<=m)(hs:s<=m):∃k,k<=m/\bL m i k=s:=by obtain⟨a,f,c⟩:=F.2 i hi;obtain⟨b,d,M⟩:=F.2 s hs;by_cases h:a<=b;refine⟨b-a,by lia,?_⟩;rw[<-c,<-dI,show a+(b-a)=b by lia];exact M;refine⟨m+1-a+b,by lia,?_⟩;rw[<-c,<-dI,show a+(m+1-a+b)=(m+1)+b by lia,dI,F.1];exact M
def mL(m:Nat):Prop:=m=7\/m=31\/m=127
theorem mL.full(h:mL m):He m:=by rcases h with rfl|rfl|rfl;exact full7;exact JX;exact Gj
theorem Eh(d:mL m)(h:Int)(hs:s<=m):∃k,k<=m+13/\(dL m h k).1=s:=by obtain⟨r,i,e⟩:=zS d.full (tw m h 13) hs;exact⟨13+r,by lia,by rw[tq];exact e⟩
theorem EC(d:mL m)(h:Int)(hs:s<=m):∃n,n<10*(m+15)/\(sq m h n).j=s:=by obtain⟨k,a,e⟩:=Eh d h hs;refine⟨eI m h k,by have:=Dq m h k;lia,?_⟩;rw[Dz];exact e
theorem Hw(h:Int):∀n,∃k r,r<=K8 m (dL m h k).1-(dL m h k).1/\n=eI m h k+r
 | 0=>⟨0,0,C4 _,rfl⟩
 |n+1=>by obtain⟨k,r,hr,e⟩:=Hw (m:=m) h n;by_cases q:r<K8 m (dL m h k).1-(dL m h k).1;exact⟨k,r+1,q,by lia⟩;exact⟨k+1,0,C4 _,by rw[eI];lia⟩
theorem yt(h:Int)(n:Nat):(sq m h n).j<=m:=by obtain⟨k,r,i,e⟩:=Hw (m:=m) h n;rw[e,yu m h k r i];have:=tw m h k;unfold K8 at i;split at i<;>lia
theorem below_spec(xs:Array Nat)(v:xs.toList.Pairwise (· < ·))(j:Nat):F8 xs j<=xs.size/\(∀k (h:k<xs.size),k<F8 xs j->xs[k]<j)/\∀k (h:k<xs.size),F8 xs j<=k->j<=xs[k]:=by
 have m:∀a b (g:a<xs.size) (i:b<xs.size),a<b->xs[a]<xs[b]:=λa b g i h=>by have:=Pt.mp v a b (by simpa using g) (by simpa using i) h;simpa using this
 have r:∀(l o hi:Nat),o<=hi->hi<=xs.size->hi-o<=l->(∀k (h:k<xs.size),k<o->xs[k]<j)->(∀k (h:k<xs.size),hi<=k->j<=xs[k]) -> NM xs j l o hi<=xs.size/\(∀k (h:k<xs.size),k<NM xs j l o hi->xs[k]<j)/\∀k (h:k<xs.size),NM xs j l o hi<=k->j<=xs[k]:=by
  intro l;induction l with
  |zero =>
   intro o hi h1 h2 s d c;have:o=hi:=by lia
   subst this;exact⟨h2,d,c⟩
  |succ l n =>
   intro o hi h1 h2 s d c;unfold NM;by_cases h:o<hi;rw[p9 h];have f:(o+hi) / 2<xs.size:=by lia
   have p:xs.getD ((o+hi) / 2) j=xs[(o+hi) / 2]:=by simp[L9,f]
   simp only[p];by_cases q:xs[(o+hi) / 2]<j;rw[p9 q];refine n _ _ (by lia) h2 (by lia) (λk e u=>?_) c;rcases Mf k ((o+hi) / 2)with z|z;exact OV (m k _ e f z) q;have:k=(o+hi) / 2:=by lia
   subst this;exact q;rw[r9 q];refine n _ _ (by lia) (by lia) (by lia) d λk e t=>?_;rcases Mf ((o+hi) / 2) k with z|z;exact H9 (MG.mp q)<|OW<|m _ k f e z;have:k=(o+hi) / 2:=by lia
   subst this;exact MG.mp q;rw[r9 h];have:o=hi:=by lia
   subst this;exact⟨h2,d,c⟩
 exact r xs.size 0 xs.size (C4 _) (w5 _) (by lia) (λk _ h=>t4 h<|M8 _) λk h h'=>t4 h<|MG.mpr h'
theorem below_at(r:xs.toList.Pairwise (· < ·))(h:xs[i]?=a7 j):F8 xs j=i:=by
 obtain⟨hi,e⟩:=MC.mp h;obtain⟨g,c,u⟩:=below_spec xs r j;have m:∀a b (f:a<xs.size) (d:b<xs.size),a<b->xs[a]<xs[b]:=λa b f d h=>by have:=Pt.mp r a b (by simpa using f) (by simpa using d) h;simpa using this
 rcases Pf (F8 xs j) i with q|q|q;have d:F8 xs j<xs.size:=by lia
 have:=u _ d<|w5 _;have:=m _ i d hi q;lia;exact q;have:=c i hi q;lia
theorem slot_live{t:p7}(r:t.place.toList.Pairwise (· < ·)){i j:Nat}(h:t.place[i]?=a7 j):t.slot j=.live i:=by unfold SetTable.slot;simp only[below_at r h];rw[p9<|by rw[h];simp]
theorem wN{t:p7}(d:t.dummies = #[]){j:Nat}(h:j∉t.place.toList):t.slot j=.empty:=by
 unfold SetTable.slot;have e:¬(t.place[F8 t.place j]?==a7 j)=a9:=λz=>h (by rw[t6]at z;have:=Array.mem_of_getElem? z;simpa using this);have l:SetTable.has t.dummies j=bt:=by rw[d];rfl
 simp only[e,t7,l,A8]
theorem go_spec{t:p7}(r:t.place.toList.Pairwise (· < ·))(x:t.dummies = #[])(hashAt:Nat->Int)(h:Int):∀(fuel n N:Nat),n<=N->N<n+fuel->(sq t.mask h N).j∉t.place.toList->(∀k,n<=k->k<N->(sq t.mask h k).j∈t.place.toList) ->(∀k,(sq t.mask h k).dummy=a8) ->((∀k i,n<=k->k<N->t.place[i]?=a7 (sq t.mask h k).j->hashAt i≠h)/\Q2 t hashAt h fuel (sq t.mask h n)=a7 (.empty (sq t.mask h N).j a8)) \/∃n' i,n<=n'/\n' < N/\t.place[i]?=a7 (sq t.mask h n').j/\hashAt i=h/\(∀k i,n<=k->k<n'->t.place[i]?=a7 (sq t.mask h k).j->hashAt i≠h)/\Q2 t hashAt h fuel (sq t.mask h n)=a7 (.candidate (sq t.mask h n').j i<|sq t.mask h<|n'+1):=by
 intro fuel;induction fuel with
 |zero=>intro n N h1 h2;lia
 |succ fuel A =>
  intro n N h1 h2 g l m;unfold Q2;by_cases e:n=N;subst e;rw[wN x g];exact .inl ⟨λk i a b=>by lia,by rw[m]⟩;have y:=l n (w5 _) (by lia);obtain⟨i,hi⟩:=LR y;have d:t.place[i]?=a7 (sq t.mask h n).j:=by rw[<-J5];exact hi
  rw[slot_live r d];dsimp only;have u:∀i',t.place[i']?=a7 (sq t.mask h n).j->i'=i:=λi' z=>by rw[<-below_at r z,below_at r d]
  by_cases q:hashAt i=h;simp only[t6,q,t8];exact .inr ⟨n,i,w5 _,by lia,d,q,λk i a b=>by lia,rfl⟩;simp only[t6,q,t7];rcases A (n+1) N (by lia) (by lia) g (λk a b=>l k (by lia) b) m with⟨B,C⟩|⟨n',i',D,o,p,s,v,w⟩
  refine .inl ⟨λk i' a b c=>?_,C⟩;rcases Mf n k with z|z;exact B k i' z b c;have:k=n:=by lia
  subst this;rw[u i' c];exact q;refine .inr ⟨n',i',by lia,o,p,s,λk f a b c=>?_,w⟩;rcases Mf n k with z|z;exact v k f z b c;have:k=n:=by lia
  subst this;rw[u f c];exact q
theorem sq_dummy(m:Nat)(h:Int):∀n,(sq m h n).dummy=a8
 | 0=>rfl
 |n+1=>by show (OI m<|sq m h n).dummy=a8;unfold OI;split;exact sq_dummy m h n;exact sq_dummy m h n
structure TOk(t:p7)(hs:List Int):Prop where
 msk:mL t.mask
 len:t.place.size=hs.length
 nod:t.dummies = #[]
 ris:t.place.toList.Pairwise (· < ·)
 rng:∀j∈t.place.toList,j<=t.mask
 few:t.place.size*5<t.mask*3
 path:∀(i:Nat) (h:Int) (j:Nat),hs[i]?=a7 h->t.place[i]?=a7 j->∃n,(sq t.mask h n).j=j/\∀n',n' < n->(sq t.mask h n').j∈t.place.toList
theorem zO{m:Nat}{l:List Nat}(n:l.Nodup)(i:∀j∈l,j<=m)(g:l.length<=m):∃j,j<=m/\j∉l:=by refine Nw λf=>?_;have a:∀j∈D3 (m+1),j∈l:=λj L=>Nw λh=>f ⟨j,by have:=Ix.mp L;lia,h⟩;have:=L2.nodup_le (D3<|m+1) l Qc a;rw[Nr]at this;lia
theorem um{m:Nat}(f:mL m){l:List Nat}(i:l.Nodup)(r:∀j∈l,j<=m)(g:l.length<=m)(h:Int):∃N,N<10*(m+15)/\(sq m h N).j∉l/\∀k,k<N->(sq m h k).j∈l:=by
 obtain⟨s,hs,u⟩:=zO i r g;obtain⟨n,I,t⟩:=EC f h hs;have:∀b n,n<b->(sq m h n).j∉l->∃N,N<=n/\(sq m h N).j∉l/\∀k,k<N->(sq m h k).j∈l:=by
  intro b;induction b with
  |zero=>intro n h;lia
  |succ b p=>intro n v o;by_cases q:∀k,k<n->(sq m h k).j∈l;exact⟨n,w5 _,o,q⟩;have:∃k,k<n/\(sq m h k).j∉l:=Nw λz=>q λk e=>Nw λG=>z ⟨k,e,G⟩;obtain⟨k,e,d⟩:=this;obtain⟨N,C,a,c⟩:=p k (by lia) d;exact⟨N,by lia,a,c⟩
 obtain⟨N,C,a,c⟩:=this (n+1) n (LP _) (by rw[t];exact u);exact⟨N,by lia,a,c⟩
theorem TOk.empty{t:p7}{hs:List Int}(T:TOk t hs)(h:Int):∃N,N<10*(t.mask+15)/\(sq t.mask h N).j∉t.place.toList/\∀k,k<N->(sq t.mask h k).j∈t.place.toList:=by refine um T.msk (T.ris.imp λh=>A3 h) T.rng ?_ h;have:=T.few;rw[F9];rcases T.msk with e|e|e<;>lia
theorem yC{t:p7}(r:t.place.toList.Pairwise (· < ·)){j:Nat}(hj:j∉t.place.toList):(t.put j).1.place.toList=t.place.toList.take (F8 t.place j)++j::t.place.toList.drop (F8 t.place j)/\(t.put j).1.place.toList.Pairwise (· < ·):=by
 obtain⟨o,m,u⟩:=below_spec t.place r j;have e:(t.put j).1.place.toList=t.place.toList.take (F8 t.place j)++j::t.place.toList.drop (F8 t.place j):=by show (Qj t.place (F8 t.place j) j).toList=_;rw[SetTable.toList_insertAt]
 refine⟨e,?_⟩;rw[e,List.pairwise_append];refine⟨r.sublist<|Pg ..,List.pairwise_cons.mpr ⟨λx c=>?_,r.sublist<|List.drop_sublist ..⟩,λx c y Q=>?_⟩;obtain⟨k,h⟩:=LR c;rw[Qn]at h;have d:t.place[F8 t.place j+k]?=a7 x:=by rw[<-J5];exact h
 obtain⟨g,f⟩:=MC.mp d;have:=u _ g<|Pa _ _;rw[f]at this;rcases Mf j x with z|z;exact z;have:x=j:=by lia
 subst this;exact t4 (List.mem_of_mem_drop c) hj;obtain⟨k,h⟩:=LR c;rw[List.getElem?_take]at h;split at h;rename_i l;have d:t.place[k]?=a7 x:=by rw[<-J5];exact h
 obtain⟨g,f⟩:=MC.mp d;have h1:=m k g l;rw[f]at h1;rcases A4.mp Q with rfl|Q;exact h1;obtain⟨C,a⟩:=LR Q;rw[Qn]at a;have b:t.place[F8 t.place j+C]?=a7 y:=by rw[<-J5];exact a
 obtain⟨i,n⟩:=MC.mp b;have:=u _ i<|Pa _ _;rw[n]at this;lia;cases h
end Ht
namespace L2
open PySem PySem.Spec PyProof.Rows DL PySem.W
theorem eZ:Slot "set_iterator" "__iter__" "set_iterator.__iter__":=.of (owner:="set_iterator") (n:="__iter__") (by rw[O6,Pp];kernel_rfl) (by decide +kernel) (by decide +kernel) (by decide +kernel) (by first|exact .inl (by decide +kernel)|exact .inr<|by decide +kernel)<|by rw[isSubtype_type];kernel_rfl
theorem jR:entryFor table "set_iterator.__iter__" = a7 Builtin.«dict_keyiterator.__iter__»:=entryFor_alias (id':="dict_keyiterator.__iter__") (by kernel_rfl) rfl (by decide +kernel)<|by kernel_rfl
theorem mj(a:b7):argsOk "set_iterator.__iter__" ⟨[a],[]⟩:=by unfold argsOk;rw[signature?_of (id:="set_iterator.__iter__") (n:=['_','_','r','e','t','i','_','_']) (o:=['r','o','t','a','r','e','t','i','_','t','e','s']) (by kernel_rfl) lG];kernel_rfl
section
variable{prog:c9}{w:c8}{A:f6}{E:b7->f7->Prop}{s:f7}{a it:d5}{o:d6}{es:Array (Int×b7)}{ep:Nat}{t:p7}
theorem fK(I:s.heap.get? it=a7 (er first i n a ep))(h:Q (.ref it) s):ge (g9 prog w) A (j3<|.ref it) Q E s:=by
 have m:s.TypeIs (.ref it) "set_iterator":=⟨_,I,rfl⟩
 refine Qi m eZ<|J4 eZ m jR (show ge _ _ (ret<|.ref it) _ _ s from ?_)<|mj _;exact u8 ⟨_,rfl,"set_iterator",_,m,bb.lookup,h⟩
theorem SetAt.at(S:SetAt h a o es ep t)(k:∀o,h.get? a=a7 o->h'.get? a=a7 o):SetAt h' a o es ep t:=⟨k _ S.ob,S.dt,S.ft⟩
theorem jy(d:w.params.followText "set-order" = a9)(S:SetAt s.heap a o es ep t)(h:Q (((o8 (w.params.setOrder a ep) es)[i]?).map λe=>(e.2,0)) s):ge (g9 prog w) A (setNext a 0 i ep) Q E s:=by unfold setNext;refine u4<|Mn S.ob S.dt S.ft ?_;unfold setsByText;refine u4<|u4<|NL<|u8 ?_;simp only[g9,d,t8,bne_self_eq_false,A8,t7];unfold setWalk;refine u4<|u4<|Mn S.ob S.dt S.ft ?_;unfold setsByText;refine u4<|u4<|NL<|u8 ?_;simp only[g9,d,t8];exact u4<|NL<|u8<|u8 h
theorem wC(d:w.params.followText "set-order" = a9)(n:A.handled=a8)(j:a≠it):Walks prog w A it [it,a] [it] es.size (λi v=>((o8 (w.params.setOrder a ep) es).toList.map (·.2))[i]?=a7 v) (λi h=>h.get? it=a7 (er (j4 0) i es.size a ep)/\SetAt h a o es ep t) where
 sub:=λb d=>by simp at d;simp[d]
 frame:=λ_ _ _ c m=>⟨m it (by simp) _ c.1,c.2.at λo e=>m a (by simp) o e⟩
 item:=λi s Q E hi c f=>by
  have g:(o8 (w.params.setOrder a ep) es).size=es.size:=by have:=(lr (w.params.setOrder a ep) es).length_eq;simpa using this
  obtain⟨e,l⟩:∃e,(o8 (w.params.setOrder a ep) es)[i]?=a7 e:=⟨_,KY<|by rw[g];exact hi⟩
  refine lN (slot:=0) (next:=0) (x:=e.2) c.1 c.2 (λA E Q q=>jy d c.2<|by rw[l];exact q) λh' h1 U=>f _ h' s.toks (by simp[l]) ⟨h1,c.2.at λo e=>(U.2 a j).trans e⟩ λb o d e=>(U.2 b<|by simpa using d).trans e
 done:=λs Q E c f=>by
  have g:(o8 (w.params.setOrder a ep) es).size=es.size:=by have:=(lr (w.params.setOrder a ep) es).length_eq;simpa using this
  refine dS (slot:=0) n c.1 c.2 (λA E Q q=>jy d c.2 ?_) λh' k=>f h' s.toks λb o d e=>k b o (by simpa using d) e;rw[Os<|by rw[g];exact w5 _];exact q
 self:=λ_ _ _ _ c f=>fK c.1 f
theorem sV{tt:d5}{ps:List Nat}(hp:ps.Perm (D3 es.size))(y:A.handled=a8)(n:a≠it)(p:tt≠it):Walks prog w A it [it,a,tt] [it] es.size (λi v=>(ps.filterMap λj=>(es[j]?).map (·.2))[i]?=a7 v) (λi h=>h.get? it=a7 (er (.ref tt) i es.size a ep)/\SetAt h a o es ep t/\h.IsTuple tt (ps.map λ(k:Nat)=>j4 k).toArray) where
 sub:=λb g=>by simp at g;simp[g]
 frame:=λ_ _ _ c m=>⟨m it (by simp) _ c.1,c.2.1.at λo e=>m a (by simp) o e,let ⟨o,e,r⟩:=c.2.2;⟨o,m tt (by simp) _ e,r⟩⟩
 item:=λi s Q E hi c f=>by
  have u:ps.length=es.size:=by have:=hp.length_eq;simpa using this
  have l:∀j∈ps,j<es.size:=λj L=>by have:=hp.mem_iff.mp L;simpa using this
  have L:ps[i]?=a7 ps[i]:=z9 (by lia);have d:ps[i]<es.size:=l _<|LZ _;have q:es[ps[i]]?=a7 es[ps[i]]:=KY d;have x:(ps.filterMap λj=>(es[j]?).map (·.2))=ps.map λj=>(es.getD j default).2:=by
   clear L u hp hi c f q d;induction ps with
   |nil=>rfl
   |cons j r z=>have L:=l j Fn;rw[Nu,KY L,C9,<-z λk m=>l k<|D0 _ m];simp[L9,L]
  refine wX c.1 c.2.2 c.2.1 L q λh' h1 U=>f _ h' s.toks ?_ ⟨h1,c.2.1.at λo e=>(U.2 a n).trans e,let ⟨o,e,r⟩:=c.2.2;⟨o,(U.2 tt p).trans e,r⟩⟩ λb o g e=>(U.2 b<|by simpa using g).trans e;rw[x,D8,L];simp[L9,d]
 done:=λs Q E c f=>by
  have u:ps.length=es.size:=by have:=hp.length_eq;simpa using this
  exact mF y c.1 c.2.2 c.2.1 (Nv<|by lia) λh' k=>f h' s.toks λb o g e=>k b o (by simpa using g) e
 self:=λ_ _ _ _ c f=>fK c.1 f
theorem jz(b:w.params.followText "set-order" = bt)(d:t.led=a9)(c:es.size<=1)(S:SetAt s.heap a o es ep t)(h:Q (match es[F8 t.place slot]?,t.place[F8 t.place slot]? with|some (_,x),a7 j=>a7 (x,j+1)|_,_=>a8) s):ge (g9 prog w) A (setNext a slot i ep) Q E s:=by unfold setNext;refine u4<|Mn S.ob S.dt S.ft ?_;unfold setsByText;refine u4<|u4<|NL<|u8 ?_;simp only[g9,b,A8,t7];refine MN (λz=>?_) λ_=>?_;have G:(!t.plain&&decide (es.size > 1))=a9:=z;simp at G;lia;refine u4<|show ge (g9 prog w) A (if (!t.led && !es.isEmpty)=a9 then unsupported _ else pure ()) _ _ s from ?_;rw[d];simp only[Mh,O5,A8,t7];exact u8<|u8 h
theorem sJ(j k:Nat):F8 #[j] k=if j<k then 1 else 0:=by unfold F8;simp only[B7,E5,G0];unfold NM;simp only[Nat.zero_lt_succ,t8];by_cases h:j<k;simp[h,NM];simp[h,NM]
theorem wD(d:w.params.followText "set-order" = bt)(f:t.led=a9)(l:es.size<=1)(u:A.handled=a8)(m:a≠it):Walks prog w A it [it,a] [it] es.size (λi v=>(es.toList.map (·.2))[i]?=a7 v) (λi h=>h.get? it=a7 (er (j4 (if i=0 then 0 else t.place.getD 0 0+1:Nat)) i es.size a ep)/\SetAt h a o es ep t) where
 sub:=λb d=>by simp at d;simp[d]
 frame:=λ_ _ _ c p=>⟨p it (by simp) _ c.1,c.2.at λo e=>p a (by simp) o e⟩
 item:=λi s Q E hi c g=>by
  obtain rfl:i=0:=by lia
  have ps:t.place.size=1:=by have:=c.2.ft;simp[Of]at this;lia
  obtain⟨j,L⟩:∃j,t.place = #[j]:=⟨t.place[0],by apply Array.ext (by simpa using ps);intro i h1 h2;simp at h2;subst h2;rfl⟩
  have n:es[0]?=a7 es[0]:=KY hi;refine lN (slot:=0) (next:=j+1) (x:=es[0].2) c.1 c.2 (λA E Q q=>jz d f l c.2 ?_) λh' h1 U=>g _ h' s.toks ?_ ⟨?_,c.2.at λo e=>(U.2 a m).trans e⟩ λb o d e=>(U.2 b<|by simpa using d).trans e;rw[L,sJ,r9<|M8 _,n];exact q;rw[D8,J5,n];rfl;simpa [L]using h1
 done:=λs Q E c g=>by
  refine dS (slot:=if es.size=0 then 0 else t.place.getD 0 0+1) u c.1 c.2 (λA E Q q=>jz d f l c.2 ?_) λh' k=>g h' s.toks λb o d e=>k b o (by simpa using d) e;have ps:t.place.size=es.size:=by have:=c.2.ft;simp[Of]at this;lia
  by_cases z:es.size=0;have:es = #[]:=Array.eq_empty_of_size_eq_zero z;subst this;simpa using q;obtain⟨j,L⟩:∃j,t.place = #[j]:=⟨t.place[0],by apply Array.ext (by simp;lia);intro i h1 h2;simp at h2;subst h2;rfl⟩
  have r:F8 t.place (if es.size=0 then 0 else t.place.getD 0 0+1)=1:=by rw[r9 z,L,sJ];simp
  rw[r,Os<|by lia];exact q
 self:=λ_ _ _ _ c g=>fK c.1 g
theorem jA(c:w.params.followText "set-order" = bt)(d:t.led=a9)(b:(!t.plain&&decide (es.size > 1))=bt)(S:SetAt s.heap a o es ep t)(h:Q (match es[F8 t.place slot]?,t.place[F8 t.place slot]? with|some (_,x),a7 j=>a7 (x,j+1)|_,_=>a8) s):ge (g9 prog w) A (setNext a slot i ep) Q E s:=by unfold setNext;refine u4<|Mn S.ob S.dt S.ft ?_;unfold setsByText;refine u4<|u4<|NL<|u8 ?_;simp only[g9,c,A8,t7];refine MN (λz=>?_) λ_=>?_;have G:(!t.plain&&decide (es.size > 1))=a9:=z;rw[b]at G;cases G;refine u4<|show ge (g9 prog w) A (if (!t.led && !es.isEmpty)=a9 then unsupported _ else pure ()) _ _ s from ?_;rw[d];simp only[Mh,O5,A8,t7];exact u8<|u8 h
theorem wE(d:w.params.followText "set-order" = bt)(f:t.led=a9)(m:(!t.plain&&decide (es.size > 1))=bt)(G:t.place.toList.Pairwise (· < ·))(I:A.handled=a8)(y:a≠it):Walks prog w A it [it,a] [it] es.size (λi v=>(es.toList.map (·.2))[i]?=a7 v) (λi h=>h.get? it=a7 (er (j4 (if i=0 then 0 else t.place.getD (i-1) 0+1:Nat)) i es.size a ep)/\SetAt h a o es ep t):=by
 have l:∀i,i<=t.place.size->F8 t.place (if i=0 then 0 else t.place.getD (i-1) 0+1)=i:=λi hi=>by
  obtain⟨p,g,u⟩:=Ht.below_spec t.place G<|if i=0 then 0 else t.place.getD (i-1) 0+1;have n:∀a b (C:a<t.place.size) (d:b<t.place.size),a<b->t.place[a]<t.place[b]:=λa b C d h=>by have:=Pt.mp G a b (by simpa using C) (by simpa using d) h;simpa using this
  by_cases z:i=0;rw[p9 z]at p g u ⊢;rcases Nat.eq_zero_or_pos (F8 t.place 0)with q|q;rw[q,z];have:=g 0 (by lia) q;lia;rw[r9 z]at p g u ⊢;have r:i-1<t.place.size:=by lia
  have H:t.place.getD (i-1) 0=t.place[i-1]:=by simp[L9,r]
  rw[H]at p g u ⊢;rcases Pf (F8 t.place<|t.place[i-1]+1) i with q|q|q;have:=u (i-1) r (by lia);lia;exact q;have:=g i (by lia) q;have:=n (i-1) i r (by lia) (by lia);lia
 exact {
  sub:=λb d=>by simp at d;simp[d]
  frame:=λ_ _ _ c F=>⟨F it (by simp) _ c.1,c.2.at λo e=>F a (by simp) o e⟩
  item:=λi s Q E hi c j=>by
   have ps:t.place.size=es.size:=by have:=c.2.ft;simp[Of]at this;lia
   have hp:i<t.place.size:=by lia
   have D:es[i]?=a7 es[i]:=KY hi;have B:t.place[i]?=a7 t.place[i]:=KY hp;refine lN (next:=t.place[i]+1) (x:=es[i].2) c.1 c.2 (λA E Q q=>jA d f m c.2 ?_) λh' h1 U=>j _ h' s.toks ?_ ⟨?_,c.2.at λo e=>(U.2 a y).trans e⟩ λb o d e=>(U.2 b<|by simpa using d).trans e;rw[l i (by lia),D,B];exact q;rw[D8,J5,D];rfl;rw[r9<|Nat.succ_ne_zero i,Nat.add_sub_cancel,show t.place.getD i 0=t.place[i] by simp[L9,hp]];exact h1
  done:=λs Q E c j=>by
   have ps:t.place.size=es.size:=by have:=c.2.ft;simp[Of]at this;lia
   refine dS I c.1 c.2 (λA E Q q=>jA d f m c.2 ?_) λh' k=>j h' s.toks λb o d e=>k b o (by simpa using d) e;rw[l es.size (by lia),Os<|w5 _];exact q
  self:=λ_ _ _ _ c j=>fK c.1 j }
end
section
variable{prog:c9}{w:c8}{A:f6}{E:b7->f7->Prop}{s:f7}{a:d5}{o:d6}{es:Array (Int×b7)}{ep:Nat}{t:p7}
theorem Cm(S:SetAt s.heap a o es ep t)(y:o.cls=.type "set")(u:t.plain=a9->es.size<=1\/t.place.toList.Pairwise (· < ·))(g:t.led = !w.params.followText "set-order")(hz:es.size<=sizeLine)(h:∀(it:d5) (h':d7) (d:Drawn) (vs:List b7) (fp:List d5) (St:Nat->d7->Prop),(∀b o,s.heap.get? b=a7 o->h'.get? b=a7 o)->vs.Perm (es.toList.map (·.2))->s.heap.objs.size<=it->it<h'.objs.size->(∀b∈fp,b=a\/s.heap.objs.size<=b/\b<h'.objs.size) -> (∀A':f6,A'.handled=a8->Walks prog w A' it fp [it] es.size (λi v=>vs[i]?=a7 v) St)->St 0 h'->Q (.ref it) { s with heap:=h',drawn:=d }):ge (g9 prog w) A (j3<|.ref a) Q E s:=by
 have T:s.TypeIs (.ref a) "set":=⟨o,S.ob,y⟩
 have r:a<s.heap.objs.size:=A0 S.ob;refine Qi T F.slot_set_iter<|J4 F.slot_set_iter T pc ?_<|F.args_set_iter_1 _;unfold Builtin.«frozenset.__iter__»;refine u4<|show ge (g9 prog w) _ (pure a) _ _ s from u8 ?_;unfold Builtin.Frozenset.sizeOf;refine u4<|u4<|Pl S.ob S.dt S.ft<|u8 ?_;unfold setDrawn;refine u4<|u4<|Mn S.ob S.dt S.ft ?_;unfold setsByText;refine u4<|u4<|NL<|u8<|u8 ?_;by_cases p:(!w.params.followText "set-order" && (!t.plain&&decide (es.size > 1)))=a9;refine MN (λ_=>?_) λz=>t4 p z;refine u4<|sg _ _ _ _ (by simp) λps d hp=>?_;refine u4<|show ge (g9 prog w) _ (newObj (.type "tuple")<|.seq (ps.map λ(i:Nat)=>j4 i).toArray) _ _ _ from K3 ?_ (by have e:=hp.length_eq;rw[Nr]at e;show (ps.map λ(i:Nat)=>j4 i).toArray.size<=sizeLine;rw[B7,x3,e];exact hz);have S1:=S.at (h':=s.heap.push { cls:=.type "tuple",data:=.seq (ps.map λ(i:Nat)=>j4 i).toArray }) λo e=>z6 _ e;refine u4<|wpAny_setEpoch_of (s:={ s with heap:=_,drawn:=d }) S1.ob S1.dt S1.ft ?_;refine u4 (show ge (g9 prog w) _ (newObj (.type "set_iterator")<|.fields #[.ref s.heap.objs.size,j4 0,.ref a,j4 es.size,j4 ep]) _ _ _ from K3 ?_<|by size_fits);refine u8 ⟨_,rfl,"set_iterator",_,⟨_,C5 _ rfl,rfl⟩,bb.lookup,?_⟩;have n:(s.heap.push { cls:=.type "tuple",data:=.seq (ps.map λ(i:Nat)=>j4 i).toArray }).objs.size=s.heap.objs.size+1:=Lj ..;refine h _ _ d (ps.filterMap λj=>(es[j]?).map (·.2)) _ _ (λb o e=>z6 _<|z6 _ e) ?_ (by show s.heap.objs.size<=(s.heap.push _).objs.size;rw[n];exact N9 _) (by show _<((s.heap.push _).push _).objs.size;rw[Lj (h:=s.heap.push _)];exact LP _) ?_ (λA' k=>sV (o:=o) (t:=t) (ep:=ep) hp k (A3<|by rw[n];exact NN r)<|A3<|by rw[n];exact LP _) ⟨C5 _ rfl,S1.at λo e=>z6 _ e,⟨_,z6 _<|C5 _ rfl,rfl,_,rfl⟩⟩;refine(hp.filterMap _).trans ?_;have x:(D3 es.size).filterMap (λj=>(es[j]?).map (·.2))=((D3 es.size).filterMap λj=>es[j]?).map (·.2):=by rw[List.map_filterMap]
 rw[x,filterMap_getElem?_range];intro b c;rw[Lj,n];rcases A4.mp c with rfl|c;exact .inr ⟨by rw[n];exact N9 _,by rw[n];exact LP _⟩;rcases A4.mp c with rfl|c;exact .inl rfl;rw[K4.mp c];exact .inr ⟨w5 _,NN<|LP _⟩;refine MN (λz=>t4 z p) λ_=>?_;refine u4<|u8<|u4<|wpAny_setEpoch_of S.ob S.dt S.ft ?_;refine u4 (show ge (g9 prog w) _ (newObj (.type "set_iterator")<|.fields #[j4 0,j4 0,.ref a,j4 es.size,j4 ep]) _ _ _ from K3 ?_<|by size_fits);refine u8 ⟨_,rfl,"set_iterator",_,⟨_,C5 _ rfl,rfl⟩,bb.lookup,?_⟩;have S1:=S.at (h':=s.heap.push<|er (j4 0) 0 es.size a ep) λo e=>z6 _ e;have l:∀b∈[s.heap.objs.size,a],b=a\/s.heap.objs.size<=b/\b<(s.heap.push<|er (j4 0) 0 es.size a ep).objs.size:=λb c=>by rcases A4.mp c with rfl|c;exact .inr ⟨w5 _,by rw[Lj];exact LP _⟩;exact .inl<|K4.mp c
 by_cases c:w.params.followText "set-order" = a9;refine h _ _ s.drawn ((o8 (w.params.setOrder a ep) es).toList.map (·.2)) _ _ (λb o e=>z6 _ e) ((lr _ es).map _) (w5 _) (by rw[Lj];exact LP _) l (λA' k=>wC (o:=o) (t:=t) (ep:=ep) c k<|A3 r) ⟨C5 _ rfl,S1⟩;have f:w.params.followText "set-order" = bt:=by simpa using c
 have m:(!t.plain&&decide (es.size > 1))=bt:=by rw[f]at p;simpa using p
 have ao:es.size<=1\/t.place.toList.Pairwise (· < ·):=by by_cases q:t.plain=a9;exact u q;simp[q]at m;exact .inl m
 rcases ao with h1|B;refine h _ _ s.drawn (es.toList.map (·.2)) _ _ (λb o e=>z6 _ e) (Oi _) (w5 _) (by rw[Lj];exact LP _) l (λA' k=>wD (o:=o) (t:=t) (ep:=ep) f (by rw[g,f];rfl) h1 k<|A3 r) ⟨?_,S1⟩;rw[p9 rfl];exact C5 _ rfl;refine h _ _ s.drawn (es.toList.map (·.2)) _ _ (λb o e=>z6 _ e) (Oi _) (w5 _) (by rw[Lj];exact LP _) l (λA' k=>wE (o:=o) (t:=t) (ep:=ep) f (by rw[g,f];rfl) m B k<|A3 r) ⟨?_,S1⟩;rw[p9 rfl];exact C5 _ rfl
end
end L2
namespace L2
open PySem PySem.Spec PyProof.Rows DL PySem.W PySem.Calls PyProof.V
section
variable{prog:c9}{w:c8}{A:f6}{E:b7->f7->Prop}{s:f7}{a:d5}{o:d6}{es:Array (Int×b7)}{ep:Nat}{t:p7}
theorem Cv(m:s.TypeIs (.ref a) "set")(h:Q bt s):ge (g9 prog w) A (RG<|.ref a) Q E s:=by
 unfold RG;refine u4<|M7 m F.slot_set_len.lookup ?_;generalize hi:("set.__len__":String)=t
 wp_delta
 rw[show splitId t=a7 ("set","__len__") by rw[<-hi];decide +kernel];rw[<-hi];refine u4<|Nn (T:="set") (b:=a9) m sub_set_self<|MN (λz=>t4 z<|by decide) λ_=>MN (λ_=>u4<|Mw m<|u8 h) λz=>t4 (by decide +kernel) z
theorem xt{R:Result->f7->Prop}(N:A.handled=a8)(S:SetAt s.heap a o es ep t)(B:o.cls=.type "set")(G:t.plain=a9->es.size<=1\/t.place.toList.Pairwise (· < ·))(v:t.led = !w.params.followText "set-order")(hz:es.size<=sizeLine){D:d5}{c₀:Nat} (p:D≠a) (M:s.heap.get? D=a7 { cls:=.type "list",data:=.seq #[] c₀ }) (res:b7)(Z:∀h' tk d vs c,(∀b u,b≠D->s.heap.get? b=a7 u->h'.get? b=a7 u)->h'.get? D=a7 { cls:=.type "list",data:=.seq vs c }->vs.toList.Perm (es.toList.map (·.2))->R (.ok<|.ret res) { s with heap:=h',toks:=tk,drawn:=d }):ge (g9 prog w) A.in1 (RF (.ref D) (.ref a) res)
   (λfin s'=>match fin with|.done f=>R (.ok f) s'|.again c'=>c'.quiet=a9/\k9 (g9 prog w) A c' R s') (λe s'=>R (.error e) s') s:=by
 have ld:D<s.heap.objs.size:=A0 M;have hT:s.TypeIs (.ref a) "set":=⟨o,S.ob,B⟩
 unfold RF;refine u4<|Mw hT ?_;have T:Builtin.List.listSameRef (.ref D) (.ref a)=bt:=by simp[Builtin.List.listSameRef,p]
 have U:(NG "set" == NG "list")=bt:=by decide
 have V:(NG "set" == NG "tuple")=bt:=by decide
 simp only[T,U,V,Bool.or_false,A8,t7];refine u4<|Cm S B G v hz λit h1 d vs Y St H pv I ab C W P=>?_;have L:D∉Y:=λz=>by
  rcases C D z with e|⟨e,_⟩
  exact p e;exact t4 ld<|MG.mpr e
 have lv:vs.length=es.size:=by have:=pv.length_eq;simpa using this
 have K:∀(h:d7) (g:Nat),St 0 h->(∀b u,b≠D->h1.get? b=a7 u->h.get? b=a7 u)->h.get? D=a7 { cls:=.type "list",data:=.seq #[] g } -> k9 (g9 prog w) A (.builtin "list.extend.loop" ⟨[.ref D,.ref it,res],[]⟩) R { s with heap:=h,drawn:=d }:=λh g J kk y=>by
  refine codeAny_extend_loopS (W A.in1<|by simp[N]).toS hz D L res es.size 0 _ #[] g rfl (C4 _) J y (ItemsOf.nil _) λs' acc c' O m j=>?_;rw[Moved.eq_with O];have X:acc.toList=vs:=by
   apply List.ext_getElem?;intro i;by_cases hi:i<es.size;have E:i<acc.size:=by rw[j.1];exact hi
   have h1:acc[i]?=a7 acc[i]:=KY E;rw[J5,h1];exact(j.2 i _ h1).symm;rw[Nv (by rw[F9,j.1];lia),Nv<|by lia]
  refine Z s'.heap s'.toks d acc c' (λb u k e=>O.heap b u (λz=>?_)<|kk b u k<|H b u e) m (by rw[X];exact pv);rcases A4.mp z with Q|z;exact k Q;rw[K4.mp z]at e;exact t4 (A0 e)<|MG.mpr I
 have l:=H _ _ M;refine u4<|F7<|Cv (s:={ s with heap:=h1,drawn:=d }) ⟨o,H _ _ S.ob,B⟩ ?_;refine MN (λz=>?_) λ_=>u8 ⟨ML F.plain_extend_loop _,K h1 c₀ P (λ_ _ _ e=>e) l⟩;refine u4 (Lq (u4 (show ge (g9 prog w) _ (updateSeq D (·.push .none) >>= λ_=>updateSeq D (·.pop)) _ _ _ from u4<|wpAny_updateSeq l rfl ?_)));have n:=Lw (Ly (·.push J2)) l rfl;refine wpAny_updateSeq (hz:=by seq_fits) n rfl ?_;have x:=Lw (Ly (·.pop)) n rfl;have r:∀b,b≠D->((h1.update D (Ly (·.push J2))).update D (Ly (·.pop))).get? b=h1.get? b:=λb k=>by rw[Ou _ _<|A1 k,Ou _ _<|A1 k]
 refine u8 ⟨ML F.plain_extend_loop _,K _ _ ((W A N).frame 0 _ _ P λb k u e=>(r b λq=>L<|q ▸ k).trans e) (λb u k e=>(r b k).trans e) x⟩
theorem wM{Q:b7->f7->Prop}(H:A.handled=a8)(S:SetAt s.heap a o es ep t)(G:o.cls=.type "set")(B:t.plain=a9->es.size<=1\/t.place.toList.Pairwise (· < ·))(y:t.led = !w.params.followText "set-order")(hz:es.size<=sizeLine)(h:∀h' tk d D (vs:List b7),(∀b u,s.heap.get? b=a7 u->h'.get? b=a7 u)->s.heap.get? D=a8->h'.get? D=a7 { cls:=.type "list",data:=.seq vs.toArray }->vs.Perm (es.toList.map (·.2)) -> ge (g9 prog w) A.in1 (call (.builtin "list.sort") [.ref D]) (λ_ s'=>Q (.ref D) s') E { s with heap:=h',toks:=tk,drawn:=d }):ge (g9 prog w) A (call (.builtin "sorted") [.ref a]) Q E s:=by
 have I:a<s.heap.objs.size:=A0 S.ob;refine call_function_entry kind_sorted plain_sorted entry_sorted (args_sorted1 _) ?_;unfold Builtin.«sorted»;refine u4 (m:=checkCount "sorted" 1 1 _)<|u8 ?_;unfold collect;refine u4<|u4<|wpAny_runValue<|MB F.entry_proto_collect ?_;rw[Nc F.plain_proto_collect _];refine(show ge (g9 prog w) _ (newList [] >>= λl=>again<|.builtin "list.__iadd__" ⟨[l,.ref a],[]⟩) _ _ s from u4<|K3<|u8 ⟨ML F.plain_list_iadd _,MB F.entry_list_iadd ?_⟩);rw[Nc F.plain_list_iadd _];have S1:=S.at (h':=s.heap.push { cls:=.type "list",data:=.seq ([]:List b7).toArray }) λo e=>z6 _ e;have C:=xt (prog:=prog) (A:=A.in1) (s:={ s with heap:=s.heap.push { cls:=.type "list",data:=.seq ([]:List b7).toArray } }) (D:=s.heap.objs.size) (c₀:=0) (res:=.ref s.heap.objs.size) (R:=λr s'=>∃h' tk d vs c,r=.ok (.ret<|.ref s.heap.objs.size)/\s'={ s with heap:=h',toks:=tk,drawn:=d }/\(∀b u,s.heap.get? b=a7 u->h'.get? b=a7 u)/\h'.get? s.heap.objs.size=a7 { cls:=.type "list",data:=.seq vs c }/\vs.toList.Perm (es.toList.map (·.2))) (by simp[H]) S1 G B y hz (Mg I) (C5 _ rfl) λh' tk d vs c k g p=>⟨h',tk,d,vs,c,rfl,rfl,λb u e=>k b u (A3<|A0 e)<|z6 _ e,g,p⟩
 have i:∀h' tk d (vs:Array b7) c,(∀b u,s.heap.get? b=a7 u->h'.get? b=a7 u)->h'.get? s.heap.objs.size=a7 { cls:=.type "list",data:=.seq vs c }->vs.toList.Perm (es.toList.map (·.2)) -> ge (g9 prog w) A.in1 (do let ob <-load s.heap.objs.size;match ob.data with|.seq xs _=>pure xs.toList|_=>unsupported "internal:collect":Sem (List b7)) (λxs s'=>ge (g9 prog w) A.in1 (do let l <-newList xs;let _ <-i7 [l] (call (.builtin "list.sort") [l] []);ret l) (λn s'=>∃v,n=Fin.done (Flow.ret v)/\Q v s') E s') E { s with heap:=h',toks:=tk,drawn:=d }:=λh' tk d vs c j g p=>by
  refine u4 (wpAny_load g<|u8<|u4<|wpAny_newList ?_<|by rw[p.length_eq];simpa using hz);have J:s.heap.objs.size<h'.objs.size:=A0 g;refine u4<|F7<|G3 (h (h'.push { cls:=.type "list",data:=.seq vs.toList.toArray }) tk d h'.objs.size vs.toList (λb u e=>z6 _<|j b u e) ?_ (C5 _ rfl) p) (λ_ s' q=>u8 ⟨_,rfl,q⟩) λ_ _ z=>z;cases q:s.heap.get? h'.objs.size with
  |none=>rfl
  |some o'=>exact t4 (A0<|j _ _ q)<|G8 _
 refine G3 C (λn s' x=>?_) λe s' ⟨_,_,_,_,_,z,_⟩=>by cases z
 cases n with
 |done f=>obtain⟨h',tk,d,vs,c,z,rfl,j,g,p⟩:=x;cases z;exact i h' tk d vs c j g p
 |again c'=>refine⟨x.1,MK x.2 ?_⟩;rintro r K ⟨h',tk,d,vs,c,z,e,j,g,p⟩;subst z e;exact i h' tk d vs c j g p
end
end L2
namespace L2
open PySem PySem.Spec PyProof.Rows DL PySem.W
section
variable{X:Cx}{e:g7}{te:x9}{p p' pos pos':i3}{k:Nat}
theorem u6.drew(I:u6 X pins σ H s):u6 X pins σ H { s with drawn:=d }:=⟨I.ok,I.os,I.bare,I.base,I.loc,I.cell,I.free,I.freeC,I.pin,I.hok,I.len⟩
end
end L2
namespace L2
open PySem PySem.Spec PyProof.Rows DL PySem.Builtin PySem.Builtin.Str PySem.StrLaws
theorem An(a b B:Nat):strSliceIndices (a7 (a:Int)) (a7 (b:Int)) 1 B=strSliceIndices (a7 ((min a B:Nat):Int)) (a7 ((min b B:Nat):Int)) 1 B:=by
 have e:∀i:Nat,max (0:Int) (min (i:Int) (B:Int))=max (0:Int) (min ((min i B:Nat):Int) (B:Int)):=λi=>by lia
 have n:∀i:Nat,¬((i:Int)<0):=λi=>by lia
 simp only[strSliceIndices,n,t7,show ((1:Int) > 0)=True by simp,t8];rw[e a,e b]
theorem dJ(x:c7)(l u:Option Int):(LK x l u).cps.toList=if (strSliceIndices l u 1 x.length).length=x.length then x.cps.toList else(strSliceIndices l u 1 x.length).filterMap (x.cps[·]?):=by unfold LK;by_cases h:(strSliceIndices l u 1 x.length).length=x.length;rw[p9 (by simp[h]),p9 h];rw[r9 (by simp[h]),r9 h]
theorem qJ(x:c7){a b:Nat}(S:a<=b):(LK x (a7 (a:Int))<|a7 (b:Int)).cps.toList=(x.cps.toList.drop a).take (b-a):=by
 have d:min a x.length<=min b x.length:=by lia
 have l:(strSliceIndices (a7 ((min a x.length:Nat):Int)) (a7 ((min b x.length:Nat):Int)) 1 x.length).filterMap (x.cps[·]?)=(x.cps.toList.drop<|min a x.length).take (min b x.length-min a x.length):=sliced_plain x d<|Nat.min_le_right ..;have Q:=dW (a:=x);have n:(x.cps.toList.drop<|min a x.length).take (min b x.length-min a x.length)=(x.cps.toList.drop a).take (b-a):=by by_cases f:a<=x.length;rw[Nat.min_eq_left f];by_cases c:b<=x.length;rw[Nat.min_eq_left c];rw[Nat.min_eq_right (by lia),Pq (by rw[L5];lia),Pq<|by rw[L5];lia];rw[List.drop_eq_nil_of_le (i:=a) (by lia),List.drop_eq_nil_of_le (i:=min a x.length)<|by lia];simp
 rw[dJ,An,l,n];split;rename_i h;rw[strSliceIndices_plain d<|Nat.min_le_right ..]at h;simp only[x3,Nr]at h;have e:min a x.length=0:=by lia
 by_cases g:x.length=0;have:x.cps.toList=[]:=List.eq_nil_of_length_eq_zero (by lia);rw[this];simp;have:a=0:=by lia
 subst this;rw[List.drop_zero,Pq<|by lia];rfl
end L2
namespace L2
open PySem PySem.Spec PyProof.Rows DL PySem.W
section
variable{X:Cx}
def EF:F6:=λx y M Q=>match x,y with
 |.int i,.int j=>CPow i j/\Q (.int<|i ^ j.toNat) M
 |_,_=>False
theorem IJ:G1 X (j6 .Pow) EF:=by refine D7.imp Iz ?_;rintro f i H R ⟨x,y,M,ρ,Q,m,r,l,q,k⟩;unfold EF at q;split at q;cases r;cases l;exact⟨_,_,rfl,rfl,q.1,k _ H<|VQ.now m (.int _) q.2⟩;exact q.elim
theorem JI:G4 X (j6 .Pow) EF:=⟨IJ⟩
def lg(z:c7):E1:=λds M Q=>match ds with
 | [.str y]=>∃i aL,QD z y 0 z.length 1=i::aL/\Q (.int (i:Nat)) M
 |_=>False
theorem BP:Ln X "str.index" (Ft X.K lg):=by
 rintro p s σ H x xs v us R I g a ⟨z,ds,M,ρ,Q,c,m,d,q,k⟩;subst c;obtain⟨t,rfl⟩:=g;unfold lg at q;split at q;obtain⟨i,aL,B,q⟩:=q
 first|have h:=Reps.inv_cons d|have h:=aw.inv_cons d
 clear d;obtain⟨_,_,rfl,r,d⟩:=h;cases d;cases r;obtain⟨u,rfl,t',rfl⟩:=aw.one a;exact call_gives F.slot_str_index (typeIs_str _ _ _) F.entry_str_index (F.args_str_index_2 _ _) (gives_str_index _ _ _ _ i aL B) ⟨.int _,H,I.tok _,⟨_,rfl⟩,k _ H<|VQ.now m (.int _) q⟩;exact q.elim
theorem Ct:RC X "index" lg:=⟨_,PySem.F.slot_str_index,PySem.F.type_str_index,BP⟩
end
end L2
namespace Ht
open PySem
def Md(ow:Array (Option Nat))(s:Nat):Prop:=∃i,ow[s]?=a7 (a7 i)
theorem getD_none(hs:s<ow.size):(ow.getD s<|a7 0).isNone=a9↔¬Md ow s:=by
 have e:ow[s]?=a7 ow[s]:=KY hs;have l:ow.getD s (a7 0)=ow[s]:=by simp[L9,hs]
 rw[l];unfold Md;rw[e];cases ow[s]<;>simp
theorem zT(hz:ow.size=m+1)(h:Int):∀(fuel k0 k:Nat),k0<=k->k<k0+fuel->¬Md ow (dL m h k).1->(∀n,n<eI m h k0->Md ow (sq m h n).j) ->∃N,Qz m ow fuel (dL m h k0).1 (dL m h k0).2=a7 (sq m h N).j/\¬Md ow (sq m h N).j/\∀n,n<N->Md ow (sq m h n).j:=by
 intro fuel;induction fuel with
 |zero=>intro k0 k h1 h2;lia
 |succ fuel l =>
  intro k0 k h1 h2 c d;have p:=tw m h k0;have u:K8 m (dL m h k0).1<=m/\(dL m h k0).1<=K8 m (dL m h k0).1:=by unfold K8;split<;>lia
  unfold Qz;cases f:(D3<|K8 m (dL m h k0).1+1-(dL m h k0).1).find? λk=>(ow.getD ((dL m h k0).1+k)<|a7 0).isNone with
  |some r =>
   have i:=NK f;have b:=Ps f;rw[Ix]at b;refine⟨eI m h k0+r,by rw[yu m h k0 r<|by lia],?_,λn g=>?_⟩;rw[yu m h k0 r<|by lia];exact(getD_none<|by lia).mp i;rcases Mf n (eI m h k0)with q|q;exact d n q;obtain⟨r',rfl⟩:∃r',n=eI m h k0+r':=⟨n-eI m h k0,by lia⟩
   rw[yu m h k0 r'<|by lia];refine Nw λo=>?_;have t:r' < r:=by lia
   have z:=(getD_none (ow:=ow) (s:=(dL m h k0).1+r')<|by lia).mpr o;have:=List.find?_range_eq_some.mp f;have:=this.2.2 r' t;rw[z]at this;exact t4 this<|by simp
  |none =>
   have a:∀r,r<=K8 m (dL m h k0).1-(dL m h k0).1->Md ow ((dL m h k0).1+r):=λr i=>by refine Nw λo=>?_;have z:=(getD_none (ow:=ow) (s:=(dL m h k0).1+r)<|by lia).mpr o;have:=Ph.mp f r (Ix.mpr<|by lia);exact this z
   have v:k0≠k:=λe=>by subst e;exact c<|a 0<|C4 _
   refine l (k0+1) k (by lia) (by lia) c λn g=>?_;unfold eI at g;rcases Mf n (eI m h k0)with q|q;exact d n q;obtain⟨r',rfl⟩:∃r',n=eI m h k0+r':=⟨n-eI m h k0,by lia⟩
   rw[yu m h k0 r'<|by lia];exact a r'<|by lia
structure Laid(m:Nat)(hs:List Int)(ow:Array (Option Nat))(k:Nat):Prop where
 sz:ow.size=m+1
 lt:∀s i:Nat,ow[s]?=a7 (a7 i)->i<k
 inj:∀s s' i:Nat,ow[s]?=a7 (a7 i)->ow[s']?=a7 (a7 i)->s=s'
 all:∀i:Nat,i<k->∃s:Nat,ow[s]?=a7 (a7 i)
 path:∀(s i:Nat) (h:Int),ow[s]?=a7 (a7 i)->hs[i]?=a7 h->∃n,(sq m h n).j=s/\∀n',n' < n->Md ow (sq m h n').j
theorem Laid.room(L:Laid m hs ow k)(q:k<=m):∃s,s<=m/\¬Md ow s:=by
 refine Nw λo=>?_;have c:∀s,s<=m->Md ow s:=λs hs=>Nw λz=>o ⟨s,hs,z⟩;have d:∀s,s∈D3 (m+1)->((ow.getD s a8).getD 0)∈D3 k:=λs u=>by
  obtain⟨i,e⟩:=c s (by have:=Ix.mp u;lia);have:ow.getD s a8=a7 i:=by obtain⟨g,z⟩:=MC.mp e;simp[L9,g,z]
  rw[this];exact Ix.mpr<|L.lt s i e
 have X:((D3<|m+1).map λs=>(ow.getD s a8).getD 0).Nodup:=by
  rw[Ny,Pe];have base:=Qc (n:=m+1);rw[Ny]at base;refine base.imp_of_mem λ{a b} ha hb hne e=>hne ?_;obtain⟨i,f⟩:=c a (by have:=Ix.mp ha;lia);obtain⟨j,h⟩:=c b (by have:=Ix.mp hb;lia);have t:ow.getD a a8=a7 i:=by obtain⟨g,z⟩:=MC.mp f;simp[L9,g,z]
  have l:ow.getD b a8=a7 j:=by obtain⟨g,z⟩:=MC.mp h;simp[L9,g,z]
  rw[t,l]at e;have:i=j:=e;subst this;exact L.inj a b i f h
 have:=L2.nodup_le _ (D3 k) X λx p=>by obtain⟨s,u,rfl⟩:=C1.mp p;exact d s u
 rw[x3,Nr,Nr]at this;lia
theorem Laid.step(E:mL m)(L:Laid m hs ow k)(B:k<=m)(A:hs[k]?=a7 h):∃j,Qz m ow (Oh m) (Mz h % (m+1)) (Mz h)=a7 j/\Laid m hs (ow.setIfInBounds j<|a7 k) (k+1):=by
 obtain⟨s,g,l⟩:=L.room B;obtain⟨I,D,e⟩:=Eh E h g;obtain⟨N,v,x,y⟩:=zT L.sz h (Oh m) 0 I (C4 _) (by unfold Oh;lia) (by rw[e];exact l) λn F=>t4 F<|M8 _;refine⟨(sq m h N).j,v,?_⟩;have H:(sq m h N).j<ow.size:=by have:=yt (m:=m) h N;rw[L.sz];lia
 have a:(ow.setIfInBounds (sq m h N).j<|a7 k)[(sq m h N).j]?=a7 (a7 k):=by rw[Array.getElem?_setIfInBounds_self_of_lt H]
 have r:∀s,s≠(sq m h N).j->(ow.setIfInBounds (sq m h N).j<|a7 k)[s]?=ow[s]?:=λs f=>Array.getElem?_setIfInBounds_ne<|A1 f;have w:∀s,Md ow s->Md (ow.setIfInBounds (sq m h N).j<|a7 k) s:=λs ⟨i,z⟩=>by by_cases q:s=(sq m h N).j;subst q;exact⟨k,a⟩;exact⟨i,by rw[r s q];exact z⟩
 have d:∀s i,(ow.setIfInBounds (sq m h N).j<|a7 k)[s]?=a7 (a7 i)->(s=(sq m h N).j/\i=k)\/(s≠(sq m h N).j/\ow[s]?=a7 (a7 i)):=λs i z=>by by_cases q:s=(sq m h N).j;subst q;rw[a]at z;cases z;exact .inl ⟨rfl,rfl⟩;rw[r s q]at z;exact .inr ⟨q,z⟩
 refine⟨by rw[Array.size_setIfInBounds];exact L.sz,λs i z=>?_,λs s' i z G=>?_,λi hi=>?_,λs i h' z b=>?_⟩;rcases d s i z with⟨_,e⟩|⟨_,z⟩
 lia;have:=L.lt s i z;lia;rcases d s i z with⟨t,p⟩|⟨_,z⟩
 rcases d s' i G with⟨Q,_⟩|⟨_,G⟩
 rw[t,Q];have:=L.lt s' i G;lia;rcases d s' i G with⟨_,J⟩|⟨_,G⟩
 have:=L.lt s i z;lia;exact L.inj s s' i z G;by_cases q:i=k;subst q;exact⟨_,a⟩;obtain⟨s,z⟩:=L.all i (by lia);refine⟨s,?_⟩;rw[r s λe=>x ⟨i,by rw[<-e];exact z⟩];exact z;rcases d s i z with⟨t,p⟩|⟨_,z⟩
 subst t p;rw[A]at b;cases b;exact⟨N,rfl,λo c=>w _<|y o c⟩;obtain⟨n,C,u⟩:=L.path s i h' z b;exact⟨n,C,λo c=>w _<|u o c⟩
theorem Fz(l:mL m)(hs:List Int)(q:hs.length<=m):∃ow,SetTable.layClean m hs.toArray=a7 ow/\Laid m hs ow hs.length:=by
 have start:Laid m hs (Array.replicate (m+1) a8) 0:=by
  have n:∀s i:Nat,(Array.replicate (m+1) (a8:Option Nat))[s]?≠a7 (a7 i):=λs i z=>by rw[Array.getElem?_replicate]at z;split at z<;>cases z
  exact⟨by simp,λs i z=>t4 z<|n s i,λs _ i z=>t4 z<|n s i,λi hi=>t4 hi<|M8 _,λs i _ z=>t4 z<|n s i⟩
 have g:∀(aL:List Int) (k:Nat) (ow:Array (Option Nat)),hs.drop k=aL->k+aL.length=hs.length->Laid m hs ow k -> ∃o,aL.foldl (init:=a7 (ow,k)) (λacc h=>do
    let (owner,k) <-acc
    let j <-Qz m owner (Oh m) (Mz h % (m+1)) (Mz h)
    pure (owner.setIfInBounds j<|a7 k,k+1))=a7 (o,hs.length)/\Laid m hs o hs.length:=by
  intro aL;induction aL with
  |nil =>
   intro k ow e a L;have:k=hs.length:=by simpa using a
   subst this;exact⟨ow,rfl,L⟩
  |cons h aL p =>
   intro k ow e a L;have d:hs[k]?=a7 h:=by
    have:(hs.drop k)[0]?=a7 h:=by rw[e];rfl
    rw[Qn]at this;simpa using this
   rw[E5]at a;obtain⟨j,f,c⟩:=L.step l (by lia) d;obtain⟨o,g1,b⟩:=p (k+1) (ow.setIfInBounds j<|a7 k) (by
    have:hs.drop (k+1)=(hs.drop k).drop 1:=by rw[List.drop_drop]
    rw[this,e];rfl) (by lia) c
   refine⟨o,?_,b⟩;rw[List.foldl_cons];simp only[Option.bind_eq_bind,Option.bind_some,f,Option.pure_def];exact g1
 obtain⟨ow,g1,b⟩:=g hs 0 _ rfl (by simp) start;refine⟨ow,?_,b⟩;unfold SetTable.layClean;rw[<-Array.foldl_toList];have:hs.toArray.toList=hs:=by simp
 rw[this,g1];rfl
theorem ls{α:Type}[DecidableEq α]:∀{l l':List α},l.Nodup->l'.Nodup->(∀x,x∈l↔x∈l')->l.Perm l'
 | [],l',_,_,h=>by have:l'=[]:=List.eq_nil_iff_forall_not_mem.mpr λx hx=>t4 ((h x).mpr hx) (by simp);rw[this]
 |x::l,l',n,n',h=>by have hx:x∈l':=(h x).mp Fn;have n1:=La.mp n;refine(P4 x<|ls n1.2 (n'.erase x) λy=>?_).trans (List.perm_cons_erase hx).symm;by_cases e:y=x;subst e;constructor;intro z;exact t4 z n1.1;intro z;exact t4 z<|List.Nodup.not_mem_erase n';rw[List.mem_erase_of_ne e,<-h y,A4];exact⟨.inr,λz=>z.resolve_left e⟩
noncomputable def bv(m:Nat)(ow:Array (Option Nat)):List (Nat×Nat):=(D3<|m+1).filterMap λj=>(ow.getD j a8).map (j,·)
theorem dU(L:Laid m hs ow k):(s,i)∈bv m ow↔ow[s]?=a7 (a7 i):=by
 unfold bv;rw[Qt];constructor;rintro⟨j,hj,e⟩;have h:j<ow.size:=by rw[L.sz];exact Ix.mp hj
 have l:ow.getD j a8=ow[j]:=by simp[L9,h]
 rw[l]at e;cases q:ow[j] with
 |none=>rw[q]at e;cases e
 |some i'=>rw[q]at e;have:=C7 e;cases this;rw[KY h,q]
 intro e;obtain⟨g,z⟩:=MC.mp e;refine⟨s,Ix.mpr (by rw[<-L.sz];exact g),?_⟩;have l:ow.getD s a8=ow[s]:=by simp[L9,g]
 rw[l,z];rfl
theorem rH(m:Nat)(ow:Array (Option Nat)):((bv m ow).map (·.1)).Pairwise (· < ·):=by unfold bv;rw[Pe];refine List.Pairwise.filterMap (R:=(· < ·)) _ (λa c h b d e f=>?_)<|List.pairwise_lt_range;obtain⟨x,_,rfl⟩:=Mp.mp d;obtain⟨y,_,rfl⟩:=Mp.mp f;exact h
theorem rJ(L:Laid m hs ow hs.length):((bv m ow).map (·.2)).Perm (D3 hs.length):=by
 have n:(bv m ow).Nodup:=by have:=rH m ow;rw[Pe]at this;exact this.imp λh e=>by rw[e]at h;exact G8 _ h
 have X:((bv m ow).map (·.2)).Nodup:=by rw[Ny,Pe];rw[Ny]at n;refine n.imp_of_mem λ{a b} ha hb hne e=>hne ?_;obtain⟨s,i⟩:=a;obtain⟨s',i'⟩:=b;have c:i=i':=e;subst c;rw[L.inj s s' i ((dU L).mp ha)<|(dU L).mp hb]
 refine ls X Qc λi=>?_;rw[Ix,C1];constructor;rintro⟨⟨s,i'⟩,hm,rfl⟩;exact L.lt s i'<|(dU L).mp hm;intro hi;obtain⟨s,e⟩:=L.all i hi;exact⟨(s,i),(dU L).mpr e,rfl⟩
theorem oW{α:Type}{l:List α}{p:Nat}{x y:α}(hp:p<=l.length){i:Nat}(h:(l.take p++x::l.drop p)[i]?=a7 y):(i<p/\l[i]?=a7 y)\/(i=p/\y=x)\/(p<i/\l[i-1]?=a7 y):=by
 have lt:(l.take p).length=p:=by rw[Lc];lia
 rcases Pf i p with q|q|q;rw[Le (by lia),List.getElem?_take,p9 q]at h;exact .inl ⟨q,h⟩;subst q;rw[LU (by lia),lt,MI]at h;exact .inr<|.inl ⟨rfl,(C7 h).symm⟩;rw[LU (by lia),lt]at h;obtain⟨r,a⟩:∃r,i-p=r+1:=⟨i-p-1,by lia⟩
 rw[a,QC,Qn]at h;exact .inr<|.inr ⟨q,by rw[show i-1=p+r by lia];exact h⟩
structure TPre(t:p7)(hs:List Int):Prop where
 msk:mL t.mask
 len:t.place.size=hs.length
 nod:t.dummies = #[]
 ris:t.place.toList.Pairwise (· < ·)
 rng:∀j∈t.place.toList,j<=t.mask
 path:∀(i:Nat) (h:Int) (j:Nat),hs[i]?=a7 h->t.place[i]?=a7 j->∃n,(sq t.mask h n).j=j/\∀n',n' < n->(sq t.mask h n').j∈t.place.toList
theorem put_pre(T:TOk t hs)(h2:(sq t.mask h N).j∉t.place.toList)(u:∀k,k<N->(sq t.mask h k).j∈t.place.toList)(v:Bool):(t.put (sq t.mask h N).j).2<=hs.length/\TPre { (t.put (sq t.mask h N).j).1 with plain:=v } (hs.take (t.put (sq t.mask h N).j).2++h::hs.drop (t.put (sq t.mask h N).j).2):=by
 obtain⟨e,r⟩:=yC T.ris h2;obtain⟨g,_,_⟩:=below_spec t.place T.ris (sq t.mask h N).j;have l:F8 t.place (sq t.mask h N).j<=hs.length:=by rw[<-T.len];exact g
 refine⟨l,⟨T.msk,?_,?_,r,λj L=>?_,λi h' j d L=>?_⟩⟩;have:=t9 Lz e;rw[F9,D5,E5,Lc,L5,F9]at this;show (t.put (sq t.mask h N).j).1.place.size=(hs.take (F8 t.place (sq t.mask h N).j)++h::hs.drop (F8 t.place (sq t.mask h N).j)).length;rw[this,D5,E5,Lc,L5,T.len];show (if SetTable.has t.dummies (sq t.mask h N).j then SetTable.eraseAt t.dummies (F8 t.dummies (sq t.mask h N).j)else t.dummies) = #[];rw[T.nod];rfl;have a:j∈(t.put (sq t.mask h N).j).1.place.toList:=L;rw[e]at a;rcases I9.mp a with q|q;exact T.rng j<|Ra q;rcases A4.mp q with q|q;rw[q];exact yt h N;exact T.rng j<|List.mem_of_mem_drop q;have s:∀x,x∈t.place.toList->x∈(t.put (sq t.mask h N).j).1.place.toList:=λx m=>by rw[e];rw[<-List.take_append_drop (F8 t.place (sq t.mask h N).j) t.place.toList]at m;rcases I9.mp m with q|q;exact NQ _ q;exact Lm _<|D0 _ q
 have a:(t.put (sq t.mask h N).j).1.place.toList[i]?=a7 j:=by rw[J5];exact L
 rw[e]at a;have o:∀k,hs[k]?=a7 h'->t.place[k]?=a7 j->∃n,(sq t.mask h' n).j=j/\∀f,f < n->(sq t.mask h' f).j∈(t.put (sq t.mask h N).j).1.place.toList:=λk w y=>by obtain⟨n,C,p⟩:=T.path k h' j w y;exact⟨n,C,λf c=>s _<|p f c⟩
 rcases oW (by rw[F9];exact g) a with⟨q,z⟩|⟨q,z⟩|⟨q,z⟩
 rcases oW l d with⟨b,G⟩|⟨b,G⟩|⟨b,G⟩
 exact o i G (by rw[<-J5];exact z);lia;lia;rcases oW l d with⟨b,G⟩|⟨b,G⟩|⟨b,G⟩
 lia;subst z G;exact⟨N,rfl,λf c=>s _<|u f c⟩;lia;rcases oW l d with⟨b,G⟩|⟨b,G⟩|⟨b,G⟩
 lia;lia;exact o (i-1) G<|by rw[<-J5];exact z
theorem TPre.ok(T:TPre t hs)(h:t.tooFull=bt):TOk t hs:=by refine⟨T.msk,T.len,T.nod,T.ris,T.rng,?_,T.path⟩;unfold SetTable.tooFull PY at h;rw[T.nod]at h;simp at h;simpa using h
theorem TPre.anew(T:TPre t hs)(h:t.tooFull=a9)(M:(hs.length-1)*5<t.mask*3)(E:hs.length<=64):Q4 (NJ hs.length)<=sizeLine/\∃t2 ord,t.relaid hs.toArray (NJ hs.length)=a7 (t2,ord)/\ord.toList.Perm (D3 hs.length)/\TOk t2 (ord.toList.map λi=>hs.getD i 0)/\t2.led=t.led:=by
 have u:hs.length*5 ≥ t.mask*3:=by unfold SetTable.tooFull PY at h;rw[T.nod,T.len]at h;simpa using h
 have D:∃m,Q4 (NJ hs.length)=m+1/\mL m/\hs.length<=m/\hs.length*5<m*3:=by
  rcases T.msk with e|e|e;have:hs.length=5:=by lia
  rw[this];exact⟨31,by decide +kernel,.inr<|.inl rfl,by decide,by decide⟩;have:hs.length=19:=by lia
  rw[this];exact⟨127,by decide +kernel,.inr<|.inr rfl,by decide,by decide⟩;lia
 obtain⟨m,e,g,H,f⟩:=D;refine⟨by rw[e,Mb];rcases g with rfl|rfl|rfl<;>lia,?_⟩;obtain⟨ow,B,L⟩:=Fz g hs H;unfold SetTable.relaid;rw[e,Nat.add_sub_cancel];unfold SetTable.laid;rw[B];refine⟨_,_,rfl,?_,?_,rfl⟩;show ((bv m ow).map (·.2)).toArray.toList.Perm _;simpa using rJ L;have l:((bv m ow).map (·.1)).toArray.toList=(bv m ow).map (·.1):=by simp
 have K:((bv m ow).map (·.2)).toArray.toList=(bv m ow).map (·.2):=by simp
 have J:(bv m ow).length=hs.length:=by have:=(rJ L).length_eq;simpa using this
 refine⟨g,?_,rfl,?_,λj d=>?_,?_,λi h' j F d=>?_⟩;show ((bv m ow).map (·.1)).toArray.size=(((bv m ow).map (·.2)).toArray.toList.map λi=>hs.getD i 0).length;simp;show ((bv m ow).map (·.1)).toArray.toList.Pairwise _;rw[l];exact rH m ow;have a:j∈((bv m ow).map (·.1)).toArray.toList:=d;rw[l]at a;obtain⟨⟨s,i⟩,o,rfl⟩:=C1.mp a;have:=(MC.mp<|(dU L).mp o).1;rw[L.sz]at this;show s<=m;lia;show ((bv m ow).map (·.1)).toArray.size*5<m*3;rw[B7,x3,J];exact f;have b:(((bv m ow).map (·.2)).map λi=>hs.getD i 0)[i]?=a7 h':=by rw[<-K];exact F
 have a:((bv m ow).map (·.1))[i]?=a7 j:=by rw[<-l,J5];exact d
 rw[J3,D8]at b;rw[D8]at a;cases q:(bv m ow)[i]? with
 |none=>rw[q]at a;cases a
 |some p =>
  obtain⟨s,k⟩:=p;rw[q]at b a;have y:s=j:=C7 a;have A:hs.getD k 0=h':=C7 b;subst y;have c:=(dU L).mp<|J7 q;have v:=L.lt s k c;have G:hs[k]?=a7 h':=by rw[z9 v];rw[<-A];simp[NF,v]
  obtain⟨n,C,x⟩:=L.path s k h' c G;refine⟨n,C,λw r=>?_⟩;obtain⟨I,z⟩:=x w r;show (sq m h' w).j∈((bv m ow).map (·.1)).toArray.toList;rw[l];exact C1.mpr ⟨(_,I),(dU L).mpr z,rfl⟩
end Ht
namespace L2
open PySem PySem.Spec PyProof.Rows DL PySem.W
theorem uf:∀(n:Nat) (d:D),cw n d=a9->w4 M n d=a9
 | 0,d,h=>by cases d<;>first|rfl|cases h
 |n+1,d,h=>by
  cases d with
  |tup ds=>have h':ds.all (cw n)=a9:=h;show ds.all (w4 M n)=a9;rw[E7]at h' ⊢;exact λx hx=>uf n x<|h' x hx
  |str x=>rfl
  |int i=>rfl
  |_=>cases h
theorem jg:∀(n:Nat) (x y:D),cw n x=a9->cw n y=a9->(v4 M n x y=a9↔x=y):=by
 intro n;induction n with
 |zero =>
  intro x y h1 h2;cases x with
  |str a =>
   cases y with
   |str b=>simp[v4]
   |int b=>simp[v4]
   |_=>cases h2
  |int a =>
   cases y with
   |str b=>simp[v4]
   |int b=>simp[v4]
   |_=>cases h2
  |_=>cases h1
 |succ n h =>
  have o:∀xs ys:List D,xs.all (cw n)=a9->ys.all (cw n)=a9->(E3 (v4 M n) xs ys=a9↔xs=ys):=by
   intro xs;induction xs with
   |nil=>intro ys _ _;cases ys<;>simp[E3]
   |cons x xs i =>
    intro ys C c;cases ys with
    |nil=>simp[E3]
    |cons y ys=>rw[LL,F3]at C c;show (v4 M n x y&&E3 (v4 M n) xs ys)=a9↔_;rw[F3,h x y C.1 c.1,i ys C.2 c.2,MP]
  intro x y h1 h2;cases x with
  |str a =>
   cases y with
   |str b=>simp[v4]
   |int b=>simp[v4]
   |tup ys=>simp[v4]
   |_=>cases h2
  |int a =>
   cases y with
   |str b=>simp[v4]
   |int b=>simp[v4]
   |tup ys=>simp[v4]
   |_=>cases h2
  |tup xs =>
   cases y with
   |str b=>simp[v4]
   |int b=>simp[v4]
   |tup ys=>rw[D.tup.injEq];exact o _ _ h1 h2
   |_=>cases h2
  |_=>cases h1
section
variable{X:Cx}{pins:List (d5×d6)}{σ:St}{H:Hp}{ρ:List d5}{M:v5}
theorem JS(sm:w9 X.K ρ M H):∀(n:Nat) (A:f6) (s:f7) (d:D) (v:V) (u:b7) (E:b7->f7->Prop) (Q:Int->f7->Prop),A.units+n<j9->u6 X pins σ H s->v7 X.K ρ H d v->aJ v u->cw n d=a9 ->(∀tk,Q (A6 X.w n d) { s with toks:=tk })->ge (g9 X.prog X.w) A (pyHash u) Q E s:=by
 intro n;induction n with
 |zero =>
  intro A s d v u E Q R I r f q h;cases r with
  |str x=>obtain⟨t,rfl⟩:=f;exact Pb<|h _
  |int x=>obtain⟨t,rfl⟩:=f;exact Pc<|h _
  |_=>cases q
 |succ n S =>
  intro A s d v u E Q R I r f q h;cases r with
  |str x=>obtain⟨t,rfl⟩:=f;exact Pb<|h _
  |int x=>obtain⟨t,rfl⟩:=f;exact Pc<|h _
  |@tup a vs ds P Y =>
   cases f;obtain⟨its,W,p,_⟩:=I.tuple P;obtain⟨o,C,N,nn,O⟩:=id p;have m:s.TypeIs (.ref a) "tuple":=⟨o,C,N⟩
   have B:ds.all (cw n)=a9:=q;unfold pyHash
   first|unfold pyHashByItsType|skip
   first|refine u4 (wpAny_cRoomFor_or (.inr<|by lia) ?_)|skip
   refine u4<|M7 m F.slot_tuple_hash.lookup ?_;refine(show ge (g9 X.prog X.w) _ (if (a7 (Oe "tuple.__hash__")==a7 J2)=a9 then _ else _) Q E s from ?_);rw[r9<|by rw[beq_builtin_none];exact MQ];refine u4<|M7 m F.slot_tuple_hash.lookup ?_;refine(show ge (g9 X.prog X.w) _ (callSpecialIfBoundUnlessNone? (.ref a) "__hash__" _ >>= _) Q E s from u4<|RO m F.slot_tuple_hash<|J4 F.slot_tuple_hash m F.entry_tuple_hash ?_<|F.args_tuple_hash_1 _);refine(show ge (g9 X.prog X.w) _ (QJ (.ref a) >>= _) _ _ s from u4<|wpAny_tupleItemsOf C O<|u4 ?_);rw[<-Op];refine No _ (λaL (b:Array Int) s'=>∃done left y,ds=done++left/\Reps X.K ρ H left y/\aw y aL/\b.toList=done.map (A6 X.w n)/\∃tk,s'={ s with toks:=tk }) _ ?_ ?_ _ _ ⟨[],ds,vs,rfl,Y,by simpa using W,rfl,s.toks,rfl⟩;rintro x aL b s' ⟨done,left,y,e,h1,h2,k,tk,rfl⟩;cases h2 with
   |@cons Z _ i _ T J =>
    cases h1 with
    |@cons j _ c _ U L =>
     refine u4<|S _ _ j Z x _ _ (by show A.units+1+n<j9;lia) (I.tok tk) U T ?_ λg=>?_;have:=E7.mp B j (by rw[e];simp);exact this
     first
      |exact u8 ⟨done++[j],c,i,by rw[e];simp,L,J,by simp[k],g,rfl⟩
      |exact u4 (u8 (u8 ⟨done++[j],c,i,by rw[e];simp,L,J,by simp[k],g,rfl⟩))
   rintro b s' ⟨done,left,y,e,h1,h2,k,tk,rfl⟩;cases h2;cases h1;rw[Lb]at e;subst e;refine(show ge (g9 X.prog X.w) _ (retInt<|NU b.toList) _ _ _ from ?_);rw[k];refine wpAny_ret_mkInt ?_;have l:A6 X.w (n+1) (.tup ds)=o4 (NU<|ds.map<|A6 X.w n):=rfl;generalize NU (ds.map<|A6 X.w n)=z at l;refine(show ge (g9 X.prog X.w) _ (if (decide (-(2:Int) ^ 63<=z)&&decide (z<2 ^ 63))=a9 then _ else _) Q E _ from ?_);unfold o4 at l;by_cases G:(decide (-(2:Int) ^ 63<=z)&&decide (z<2 ^ 63))=a9;rw[p9 G]at l ⊢;exact u8 (by rw[<-l];exact h _);rw[r9 G]at l ⊢;exact u4<|Lq<|u8<|by rw[<-l];exact h _
  |_=>cases q
end
section
variable{X:Cx}{pins:List (d5×d6)}{σ:St}{H:Hp}{ρ:List d5}{M:v5}
theorem hbv_D(T:w9 X.K ρ M H):∀(n k:Nat) (A:f6) (s:f7) (d:D) (v:V) (u:b7) (E:b7->f7->Prop) (Q:Bool->f7->Prop),n<=k->u6 X pins σ H s->v7 X.K ρ H d v->aJ v u->cw n d=a9->(∀b,Q b s)->ge (g9 X.prog X.w) A (hashByValue k u) Q E s:=by
 intro n;induction n with
 |zero =>
  intro k A s d v u E Q z I r c e h;cases r with
  |str x=>obtain⟨t,rfl⟩:=c;cases k<;>exact u8<|h _
  |int x=>obtain⟨t,rfl⟩:=c;cases k<;>exact u8<|h _
  |_=>cases e
 |succ n J =>
  intro k A s d v u E Q z I r c e h;cases r with
  |str x=>obtain⟨t,rfl⟩:=c;cases k<;>exact u8<|h _
  |int x=>obtain⟨t,rfl⟩:=c;cases k<;>exact u8<|h _
  |@tup a vs ds C P =>
   cases c;obtain⟨k,rfl⟩:∃L,k=L+1:=⟨k-1,by lia⟩
   obtain⟨its,l,p,_⟩:=I.tuple C;obtain⟨o,j,q,S,y⟩:=id p;have m:s.TypeIs (.ref a) "tuple":=⟨o,j,q⟩
   have B:ds.all (cw n)=a9:=e;unfold hashByValue;refine u4<|M7 m F.slot_tuple_hash.lookup ?_;dsimp only;refine u4<|LB j y ?_;simp only[Option.getD_some];rw[<-Op];refine u4 ?_;refine No _ (λaL r s'=>s'=s/\r.1=a8/\∃left f,(∀x∈left,cw n x=a9)/\Reps X.K ρ H left f/\aw f aL) _ ?_ ?_ _ _ ⟨rfl,rfl,ds,vs,E7.mp B,P,by simpa using l⟩;rintro x aL r s' ⟨rfl,i,left,f,g,h1,h2⟩;cases h2 with
   |cons N O =>
    cases h1 with
    |cons U R =>
     refine u4<|J k _ _ _ _ x _ _ (by lia) I U N (g _ Fn) λb=>?_;cases b with
     |false=>exact u8<|u8<|h _
     |true=>exact u8 ⟨rfl,rfl,_,_,λx G=>g x<|D0 _ G,R,O⟩
   rintro⟨r1,l⟩ s' ⟨rfl,i,_⟩;simp only at i;subst i;exact u8<|h _
  |_=>cases e
theorem yz(R:w9 X.K ρ M H):∀(n k:Nat) (A:f6) (s:f7) (d:D) (v:V) (u:b7) (E:b7->f7->Prop) (Q:Bool->f7->Prop),n<=k->u6 X pins σ H s->v7 X.K ρ H d v->aJ v u->cw n d=a9->Q a9 s->ge (g9 X.prog X.w) A (eqIsQuiet k u) Q E s:=by
 intro n;induction n with
 |zero =>
  intro k A s d v u E Q y I r b e h;cases r with
  |str x=>obtain⟨t,rfl⟩:=b;rw[Nq k (v:=.str x t) rfl];exact u8 h
  |int x=>obtain⟨t,rfl⟩:=b;rw[Nq k (v:=.int x t) rfl];exact u8 h
  |_=>cases e
 |succ n G =>
  intro k A s d v u E Q y I r b e h;cases r with
  |str x=>obtain⟨t,rfl⟩:=b;rw[Nq k (v:=.str x t) rfl];exact u8 h
  |int x=>obtain⟨t,rfl⟩:=b;rw[Nq k (v:=.int x t) rfl];exact u8 h
  |@tup a vs ds z O =>
   cases b;obtain⟨k,rfl⟩:∃J,k=J+1:=⟨k-1,by lia⟩
   obtain⟨its,l,p,_⟩:=I.tuple z;obtain⟨o,f,j,S,q⟩:=id p;have m:s.TypeIs (.ref a) "tuple":=⟨o,f,j⟩
   have B:ds.all (cw n)=a9:=e;unfold eqIsQuiet;refine u4<|M7 m F.slot_tuple_eq.lookup ?_;refine(show ge (g9 X.prog X.w) A (isInstance (.ref a) (.type "tuple") >>= _) _ _ s from u4<|Nn m isSubtype_tuple_tuple ?_);simp only[Mh,A8,t7];refine u4<|LB f q ?_;simp only[Option.getD_some];refine u4 ?_;rw[<-Op];refine No _ (λaL r s'=>s'=s/\r.1=a8/\∃left c,(∀x∈left,cw n x=a9)/\Reps X.K ρ H left c/\aw c aL) _ ?_ ?_ _ _ ⟨rfl,rfl,ds,vs,E7.mp B,O,by simpa using l⟩;rintro x aL r s' ⟨rfl,i,left,c,g,h1,h2⟩;cases h2 with
   |cons L N =>
    cases h1 with
    |cons U P=>refine u4<|G k _ _ _ _ x _ _ (by lia) I U L (g _ Fn) ?_;simp only[Mh,A8,t7];exact u8 ⟨rfl,rfl,_,_,λx C=>g x<|D0 _ C,P,N⟩
   rintro⟨r1,l⟩ s' ⟨rfl,i,_⟩;simp only at i;subst i;exact u8 h
  |_=>cases e
theorem KD(P:w9 X.K ρ M H):∀(n k:Nat) (A:f6) (s:f7) (d:D) (v:V) (u:b7) (E:b7->f7->Prop) (Q:Bool->f7->Prop),n<=k->u6 X pins σ H s->v7 X.K ρ H d v->aJ v u->cw n d=a9->Q bt s->ge (g9 X.prog X.w) A (ofAClassStatement k u) Q E s:=by
 intro n;induction n with
 |zero =>
  intro k A s d v u E Q y I r b e h;cases r with
  |str x=>obtain⟨t,rfl⟩:=b;cases k<;>exact u8 h
  |int x=>obtain⟨t,rfl⟩:=b;cases k<;>exact u8 h
  |_=>cases e
 |succ n F =>
  intro k A s d v u E Q y I r b e h;cases r with
  |str x=>obtain⟨t,rfl⟩:=b;cases k<;>exact u8 h
  |int x=>obtain⟨t,rfl⟩:=b;cases k<;>exact u8 h
  |@tup a vs ds z N =>
   cases b;obtain⟨k,rfl⟩:∃G,k=G+1:=⟨k-1,by lia⟩
   obtain⟨its,l,p,_⟩:=I.tuple z;obtain⟨o,f,j,S,q⟩:=id p;have m:s.TypeIs (.ref a) "tuple":=⟨o,f,j⟩
   have B:ds.all (cw n)=a9:=e;unfold ofAClassStatement;refine u4<|Mw m ?_;dsimp only;simp only[u3,t8];refine u4<|u8 ?_;simp only[Mh,A8,t7];refine u4<|LB f q ?_;dsimp only;refine u4 ?_;rw[<-Op];refine No _ (λaL r s'=>s'=s/\r.1=a8/\∃left c,(∀x∈left,cw n x=a9)/\Reps X.K ρ H left c/\aw c aL) _ ?_ ?_ _ _ ⟨rfl,rfl,ds,vs,E7.mp B,N,by simpa using l⟩;rintro x aL r s' ⟨rfl,i,left,c,g,h1,h2⟩;cases h2 with
   |cons J L =>
    cases h1 with
    |cons U O=>refine u4<|F k _ _ _ _ x _ _ (by lia) I U J (g _ Fn) ?_;simp only[A8,t7];exact u8 ⟨rfl,rfl,_,_,λx C=>g x<|D0 _ C,O,L⟩
   rintro⟨r1,l⟩ s' ⟨rfl,i,_⟩;simp only at i;subst i;exact u8 h
  |_=>cases e
end
noncomputable def fx:D->Bool
 |.tup _=>a9
 |_=>bt
def F5(X:Cx)(ρ:List d5)(H:Hp)(n:Nat)(d:D)(e:Int×b7):Prop:=(∃v,v7 X.K ρ H d v/\aJ v e.2)/\e.1=A6 X.w n d/\cw n d=a9/\fx d=a9
structure KSet(X:Cx)(ρ:List d5)(H:Hp)(h:d7)(a:d5)(n:Nat)(ds:List D)(o:d6)(es:Array (Int×b7))(ep:Nat)(t:p7):Prop where
 ob:h.get? a=a7 o
 ex:o.ExactSet
 dt:o.data=.set es ep t
 en:Paired (F5 X ρ H n) ds es.toList
 nd:ds.Nodup
 tk:Ht.TOk t (es.toList.map (·.1))
 ld:t.led = !X.w.params.followText "set-order"
theorem cR{α β:Type}{R:α->β->Prop}:∀{xs:List α}{ys:List β}{i:Nat}{y:β},Paired R xs ys->ys[i]?=a7 y->∃x,xs[i]?=a7 x/\R x y
 |_,_,i,y,.nil,e=>by simp at e
 |_,_,0,y,.cons r _,e=>by simp at e;subst e;exact⟨_,rfl,r⟩
 |_,_,i+1,y,.cons _ t,e=>by obtain⟨x,h1,h2⟩:=cR (i:=i) t (by simpa using e);exact⟨x,by simpa using h1,h2⟩
theorem iB{α β:Type}{R:α->β->Prop}:∀{xs:List α}{ys:List β}{i:Nat}{x:α},Paired R xs ys->xs[i]?=a7 x->∃y,ys[i]?=a7 y/\R x y
 |_,_,i,y,.nil,e=>by simp at e
 |_,_,0,y,.cons r _,e=>by simp at e;subst e;exact⟨_,rfl,r⟩
 |_,_,i+1,y,.cons _ t,e=>by obtain⟨x,h1,h2⟩:=iB (i:=i) t (by simpa using e);exact⟨x,by simpa using h1,h2⟩
theorem KSet.fits(S:KSet X ρ H h a n ds o es ep t):t.fits es.size=a9:=by
 have h1:=S.tk.len;have h2:=S.tk.few;rw[x3,F9]at h1;unfold Of;have b:t.fill=t.place.size:=by unfold PY;rw[S.tk.nod];rfl
 rw[b];simp only[F3,t6,t5];lia
section
variable{X:Cx}{pins:List (d5×d6)}{σ:St}{H:Hp}{ρ:List d5}{M:v5}{A:f6}{E:b7->f7->Prop}{s:f7}{a:d5}{n:Nat}{ds:List D}{o:d6}{es:Array (Int×b7)}{ep:Nat}{t:p7}
theorem Bc(m:w9 X.K ρ M H)(I:u6 X pins σ H s)(f:n<=8)(r:v7 X.K ρ H d v)(g:aJ v u)(e:cw n d=a9)(h:Q bt s):∀(l:List b7),(∀y∈l,∃d' v',v7 X.K ρ H d' v'/\aJ v' y/\cw n d'=a9)->ge (g9 X.prog X.w) A (searchCouldBeSeen u l) Q E s:=by intro l j;unfold searchCouldBeSeen;refine u4 ?_;refine No _ (λaL r s'=>s'=s/\r.1=a8/\∀y∈aL,∃d' v',v7 X.K ρ H d' v'/\aJ v' y/\cw n d'=a9) _ ?_ ?_ _ _ ⟨rfl,rfl,j⟩;rintro y aL r' s' ⟨rfl,i,c⟩;have t:∀z∈aL,∃d' v',v7 X.K ρ H d' v'/\aJ v' z/\cw n d'=a9:=λz o=>c z<|D0 _ o;obtain⟨d',v',a,b,k⟩:=c y Fn;dsimp only;refine MN (λ_=>u8 ⟨rfl,rfl,t⟩) λ_=>?_;refine u4<|yz m n 8 A _ d v u _ _ f I r g e ?_;simp only[Mh,A8,t7];refine u4<|yz m n 8 A _ d' v' y _ _ f I a b k ?_;simp only[Mh,A8,t7];refine u4<|KD m n 8 A _ d v u _ _ f I r g e ?_;simp only[A8,t7];refine u4<|KD m n 8 A _ d' v' y _ _ f I a b k ?_;simp only[A8,t7];exact u8 ⟨rfl,rfl,t⟩;rintro⟨a,b⟩ s' ⟨rfl,i,_⟩;simp only at i;subst i;exact u8 h
theorem Bp(sm:w9 X.K ρ M H)(I:u6 X pins σ H s)(hn:n<=8)(hu:A.units+n<j9)(S:KSet X ρ H s.heap a n ds o es ep t)(r:v7 X.K ρ H d v)(rv:aJ v u)(F:cw n d=a9)(c:d∈ds->Q (.there a8) s) (be:N<10*(t.mask+15)) (G:(Ht.sq t.mask (A6 X.w n d) N).j∉t.place.toList) (ab:∀k,k<N->(Ht.sq t.mask (A6 X.w n d) k).j∈t.place.toList)(J:d∉ds->Q (.free (Ht.sq t.mask (A6 X.w n d) N).j bt) s):∀(fuel m:Nat) (stand:Option Nk),m<=N->N<m+fuel->stand.getD (t.probeStart<|A6 X.w n d)=Ht.sq t.mask (A6 X.w n d) m->(∀k i:Nat,k<m->t.place[i]?=a7 (Ht.sq t.mask (A6 X.w n d) k).j->ds[i]?≠a7 d) ->ge (g9 X.prog X.w) A (setSearchFrom a u (A6 X.w n d) a9 fuel stand) Q E s:=by
 intro fuel;induction fuel with
 |zero=>intro m stand h1 h2;lia
 |succ fuel ih =>
  intro m stand h1 h2 hs hb;unfold setSearchFrom;refine u4<|Mn S.ob S.dt S.fits ?_;dsimp only;have gw:t.gaveWay=bt:=by unfold SetTable.gaveWay;rcases S.tk.msk with e|e|e<;>rw[e]<;>rfl
  rw[gw];simp only[A8,t7];rw[hs];rcases Ht.go_spec S.tk.ris S.tk.nod (λi=>(es[i]?.map (·.1)).getD 0) (A6 X.w n d) (10*Oh t.mask) m N h1 (by unfold Oh;lia) G (λk _ hk=>ab k hk) (Ht.sq_dummy _ _)with⟨z1,z2⟩|⟨m',i,a1,a2,a3,a4,a5,a6⟩
  generalize L:SetTable.probe t _ (A6 X.w n d) (Ht.sq t.mask (A6 X.w n d) m)=pr;obtain rfl:pr=_:=L.symm.trans z2;dsimp only;refine u8<|J λhd=>?_;obtain⟨i,hi⟩:=LR hd;obtain⟨e,D,_,U,_⟩:=iB S.en hi;have g:es[i]?=a7 e:=by rw[<-J5];exact D
  have hh:(es.toList.map (·.1))[i]?=a7 (A6 X.w n d):=by rw[D8,D];exact t9 a7 U
  have hl:i<t.place.size:=by rw[S.tk.len];exact(A5.mp hh).1
  obtain⟨P,b1,b2⟩:=S.tk.path i _ t.place[i] hh<|KY hl;have al:P<N:=by rcases Pf P N with q|q|q;exact q;subst q;exact t4 (show (Ht.sq t.mask (A6 X.w n d) P).j∈t.place.toList by rw[b1];simp) G;exact t4 (b2 N q) G
  have hp:t.place[i]?=a7 (Ht.sq t.mask (A6 X.w n d) P).j:=by rw[b1];exact KY hl
  rcases Mf P m with q|q;exact hb P i q hp hi;refine z1 P i q al hp ?_;rw[g];exact U;generalize L:SetTable.probe t _ (A6 X.w n d) (Ht.sq t.mask (A6 X.w n d) m)=pr;obtain rfl:pr=_:=L.symm.trans a6;dsimp only;have aj:i<es.size:=by have:=(MC.mp a3).1;rw[S.tk.len,x3,F9]at this;exact this
  have l:es[i]?=a7 es[i]:=KY aj;obtain⟨p,B,⟨v0,r0,Y⟩,aS,O,an⟩:=cR S.en (i:=i) (y:=es[i]) (by rw[J5];exact l);have Z:∀(f:Bool->Sem SetFound),ge (g9 X.prog X.w) A (f bt) Q E s->ge (g9 X.prog X.w) A (searchCouldBeSeen u ((es.filter (·.1==A6 X.w n d)).toList.map (·.2)) >>= f) Q E s:=λf hf=>by
   refine u4<|Bc sm I hn r rv F hf _ λy hy=>?_;obtain⟨e,D,rfl⟩:=C1.mp hy;have ai:e∈es.toList:=by
    have:e∈es.filter (·.1==A6 X.w n d):=by simpa using D
    simpa using(Array.mem_filter.mp this).1
   obtain⟨j,hj⟩:=LR ai;obtain⟨d1,_,⟨v1,r1,aD⟩,_,as,_⟩:=cR S.en hj;exact⟨d1,v1,r1,aD,as⟩
  have x:∃b,es[i].2=E6 b:=by
   cases r0 with
   |tup _ _=>exact⟨_,Y⟩
   |_=>cases an
  obtain⟨b,x⟩:=x;have V:Ma A s es[i].2 u (v4 M n p d):=(ma I sm n A p d v0 v es[i].2 u hu r0 Y r rv (uf n p O)<|uf n d F).1;refine MN (λ_=>Z _ ?_) λ_=>?_;simp only[A8,t7];rw[l];dsimp only;refine u4<|F7<|V _ _ _ _<|u4<|Mn S.ob S.dt S.fits ?_;dsimp only;by_cases C:v4 M n p d=a9;rw[C];simp only[Bool.and_self,t8];have:p=d:=(jg n p d O F).mp C;subst this;exact u8<|c<|J7 B;rw[LQ.mpr C];simp only[O2,A8,t7];have T:t.sameMemory t.moves t.mask=a7 a9:=by unfold SetTable.sameMemory;simp
  rw[T];dsimp only;simp only[t8];rw[Ht.slot_live S.tk.ris a3];dsimp only;rw[l];have R:ge (g9 X.prog X.w) A (isSame es[i].2 es[i].2) (λb s'=>b=a9/\s'=s) E s:=by unfold isSame;rw[x];simp only[u3,t8];exact u8<|And.intro rfl rfl
  refine u4<|G3 R (λb s' ⟨e1,e2⟩=>?_) λ_ _ z=>z;subst e1 e2;refine u4<|u8 ?_;simp only[t8];refine ih (m'+1) _ (by lia) (by lia) rfl λk i' hk hp h=>?_;rcases Mf k m with q|q;exact hb k i' q hp h;rcases Mf k m' with W|W;refine a5 k i' q W hp ?_;obtain⟨e,D,_,U,_⟩:=iB S.en h;have g:es[i']?=a7 e:=by rw[<-J5];exact D
  rw[g];exact U;have:k=m':=by lia
  subst this;have:i'=i:=by rw[<-Ht.below_at S.tk.ris hp,Ht.below_at S.tk.ris a3]
  subst this;rw[B]at h;cases h;exact C<|(jg n d d F F).mpr rfl;rw[l];dsimp only;refine u4<|F7<|V _ _ _ _<|u4<|Mn S.ob S.dt S.fits ?_;dsimp only;by_cases C:v4 M n p d=a9;rw[C];simp only[Bool.and_self,t8];have:p=d:=(jg n p d O F).mp C;subst this;exact u8<|c<|J7 B;rw[LQ.mpr C];simp only[O2,A8,t7];have T:t.sameMemory t.moves t.mask=a7 a9:=by unfold SetTable.sameMemory;simp
  rw[T];dsimp only;simp only[t8];rw[Ht.slot_live S.tk.ris a3];dsimp only;rw[l];have R:ge (g9 X.prog X.w) A (isSame es[i].2 es[i].2) (λb s'=>b=a9/\s'=s) E s:=by unfold isSame;rw[x];simp only[u3,t8];exact u8<|And.intro rfl rfl
  refine u4<|G3 R (λb s' ⟨e1,e2⟩=>?_) λ_ _ z=>z;subst e1 e2;refine u4<|u8 ?_;simp only[t8];refine ih (m'+1) _ (by lia) (by lia) rfl λk i' hk hp h=>?_;rcases Mf k m with q|q;exact hb k i' q hp h;rcases Mf k m' with W|W;refine a5 k i' q W hp ?_;obtain⟨e,D,_,U,_⟩:=iB S.en h;have g:es[i']?=a7 e:=by rw[<-J5];exact D
  rw[g];exact U;have:k=m':=by lia
  subst this;have:i'=i:=by rw[<-Ht.below_at S.tk.ris hp,Ht.below_at S.tk.ris a3]
  subst this;rw[B]at h;cases h;exact C<|(jg n d d F F).mpr rfl
end
theorem Paired.ins{α β:Type}{R:α->β->Prop}{x:α}{y:β}(r:R x y):∀{xs:List α}{ys:List β} (p:Nat),Paired R xs ys->Paired R (xs.take p++x::xs.drop p) (ys.take p++y::ys.drop p)
 |_,_,0,h=>by simpa using .cons r h
 |_,_,p+1,.nil=>.cons r .nil
 |_,_,p+1,.cons h t=>.cons h<|Paired.ins r p t
theorem Paired.pick{α β:Type}{R:α->β->Prop}:∀{xs:List α}{ys:List β} (is:List Nat),Paired R xs ys->(∀i∈is,i<xs.length)->Paired R (is.filterMap (xs[·]?)) (is.filterMap (ys[·]?))
 |_,_,[],_,_=>.nil
 |xs,ys,i::is,h,hi=>by have hl:=hi i Fn;have e:xs[i]?=a7 xs[i]:=z9 hl;obtain⟨y,hy,r⟩:=iB h e;rw[Nu,Nu,e,hy];exact .cons r<|Paired.pick is h λj hj=>hi j<|D0 _ hj
theorem nG{α:Type}{l:List α}{is:List Nat}(h:is.Perm (D3 l.length)):(is.filterMap (l[·]?)).Perm l:=by
 have:=h.filterMap (l[·]?)
 rwa [List.filterMap_getElem?_range_length]at this
section
variable{X:Cx}{pins:List (d5×d6)}{σ:St}{H:Hp}{ρ:List d5}{M:v5}{A:f6}{E:b7->f7->Prop}{s:f7}{a:d5}{n:Nat}{ds:List D}{o:d6}{es:Array (Int×b7)}{ep:Nat}{t:p7}
def KS(X:Cx)(ρ:List d5)(H:Hp)(h:d7)(a:d5)(n:Nat)(ds:List D):Prop:=∃o es i t,KSet X ρ H h a n ds o es i t
set_option maxHeartbeats 1000000 in
theorem add_D(sm:w9 X.K ρ M H)(I:u6 X pins σ H s)(hn:n<=8)(hu:A.units+n+1<j9)(S:KS X ρ H s.heap a n ds)(bk:ds.length+1<=64)(r:v7 X.K ρ H d v)(rv:aJ v u)(kd:cw n d=a9)(it:fx d=a9)(h:∀b h' tk ds',(∀c u,c≠a->s.heap.get? c=a7 u->h'.get? c=a7 u)->KS X ρ H h' a n ds'->(∀x,x∈ds'↔x∈ds\/x=d)->ds'.length<=ds.length+1->Q b { s with heap:=h',toks:=tk }):ge (g9 X.prog X.w) A (setAdd a u) Q E s:=by
 obtain⟨o,es,ep,t,S⟩:=S;obtain⟨R,rfl⟩:∃R,u=E6 R:=by
  cases r with
  |tup _ _=>exact⟨_,rv⟩
  |_=>cases it
 unfold setAdd;refine F7<|u4<|JS sm n A s d v _ _ _ (by lia) I r rv kd λtk=>?_;unfold setAddHashed setAddHashedIn;refine F7<|u4<|Mn (s:={ s with toks:=tk }) S.ob S.dt S.fits ?_;dsimp only;have bs:byScan (.ref R) es=bt:=rfl;rw[bs];simp only[A8,t7];obtain⟨N,ab,ai,aj⟩:=S.tk.empty<|A6 X.w n d;have I1:u6 X pins σ H { s with toks:=tk }:=I.tok tk;unfold setSearch;refine u4<|Bp (s:={ s with toks:=tk }) sm I1 hn (by lia) S r rv kd (λhd=>?_) ab ai aj (λhd=>?_) 100000 0 a8 (C4 _) ?_ rfl λk i hk=>t4 hk<|M8 _;exact u8<|h _ s.heap tk ds (λ_ _ _ e=>e) ⟨o,es,ep,t,S⟩ (λx=>⟨.inl,λz=>z.elim id λe=>e ▸ hd⟩)<|N9 _;dsimp only;refine u4<|Mn (s:={ s with toks:=tk }) S.ob S.dt S.fits ?_;dsimp only;have J:=S.tk.len;rw[x3,F9]at J;have dl:ds.length=es.size:=by have:=Paired.length S.en;simpa using this
 have F:∀O:Bool,ge (g9 X.prog X.w) A (do
   storeSet a (Qj es (t.put (Ht.sq t.mask (A6 X.w n d) N).j).2 (A6 X.w n d,E6 R)) { (t.put (Ht.sq t.mask (A6 X.w n d) N).j).1 with plain:=O }
   if (!bt&&({ (t.put (Ht.sq t.mask (A6 X.w n d) N).j).1 with plain:=O }:p7).tooFull)=a9 then do
     setRelay a (NJ<|es.size+1)
     pure a9
    else pure a9) Q E { s with toks:=tk }:=λO=>by
  obtain⟨pb,T⟩:=Ht.put_pre S.tk ai aj O;have G:({ (t.put (Ht.sq t.mask (A6 X.w n d) N).j).1 with plain:=O }:p7).led=t.led:=rfl;have L:({ (t.put (Ht.sq t.mask (A6 X.w n d) N).j).1 with plain:=O }:p7).mask=t.mask:=rfl;generalize ({ (t.put (Ht.sq t.mask (A6 X.w n d) N).j).1 with plain:=O }:p7)=D at T G L;generalize (t.put (Ht.sq t.mask (A6 X.w n d) N).j).2=p at pb T;rw[x3,F9]at pb;have e1:(Qj es p (A6 X.w n d,E6 R)).toList=es.toList.take p++(A6 X.w n d,E6 R)::es.toList.drop p:=SetTable.toList_insertAt ..;generalize Qj es p (A6 X.w n d,E6 R)=f at e1;have aD:f.toList.map (·.1)=(es.toList.map (·.1)).take p++A6 X.w n d::(es.toList.map (·.1)).drop p:=by rw[e1,LC,C9,List.map_take,List.map_drop]
  rw[<-aD]at T;have C:f.size=es.size+1:=by have:=t9 Lz e1;rw[F9,D5,E5,Lc,L5,F9]at this;lia
  have Y:Paired (F5 X ρ H n) (ds.take p++d::ds.drop p) f.toList:=by rw[e1];exact Paired.ins ⟨⟨v,r,rv⟩,rfl,kd,it⟩ p S.en
  have U:(ds.take p++d::ds.drop p).Perm (d::ds):=by refine List.perm_middle.trans<|P4 d ?_;rw[List.take_append_drop]
  have al:(ds.take p++d::ds.drop p).Nodup:=U.nodup_iff.mpr<|La.mpr ⟨hd,S.nd⟩;have Z:D.fits f.size=a9:=by
   have l1:=T.len;rw[x3,F9]at l1;have h3:D.fill=D.place.size:=by unfold PY;rw[T.nod];rfl
   have fw:=S.tk.few;unfold Of;rw[h3];simp only[F3,t6,t5];rw[J]at fw;rcases S.tk.msk with e|e|e<;>rw[L,e]<;>rw[e]at fw<;>lia
  have zz:f.size<=sizeLine:=by rw[Mb];lia
  refine u4<|wpAny_storeSet_of (s:={ s with toks:=tk }) S.ob S.dt ?_ zz;have B:(s.heap.update a<|N6 f D).get? a=a7 { o with data:=.set f (ep+1) D }:=by
   have q:=Lw (N6 f D) S.ob<|by rw[putSet_of f D S.dt];rfl
   rwa [putSet_of f D S.dt]at q
  have an:∀c u,c≠a->s.heap.get? c=a7 u->(s.heap.update a<|N6 f D).get? c=a7 u:=λc u hc e=>(Ou _ _<|A1 hc).trans e;by_cases tf:D.tooFull=a9;rw[tf];simp only[Bool.not_false,Bool.and_self,t8];have as:((f.toList.map (·.1)).length-1)*5<D.mask*3:=by have fw:=S.tk.few;rw[J]at fw;rw[x3,F9,C,L];simpa using fw
  obtain⟨zl,W,m,g1,g2,T2,aS⟩:=T.anew tf as (by rw[x3,F9];lia);rw[x3,F9]at g2 zl;have eg:NJ (es.size+1)=NJ (f.toList.map (·.1)).length:=by rw[x3,F9,C]
  unfold setRelay;refine u4<|u4<|Mn (s:={ s with heap:=_,toks:=tk }) B rfl Z ?_;dsimp only;rw[eg];have nz:¬Q4 (NJ (f.toList.map (·.1)).length) > sizeLine:=by rw[x3,F9];lia
  simp only[nz,t7];have ea:f.map (·.1)=(f.toList.map (·.1)).toArray:=by apply Array.ext';simp
  rw[ea,g1];have y:(m.filterMap (f[·]?)).toList=m.toList.filterMap (f.toList[·]?):=by rw[Array.toList_filterMap];congr 1;funext i;rw[J5]
  have V:(m.filterMap (f[·]?)).size=f.size:=by have:=(nG (l:=f.toList) (is:=m.toList)<|by rw[F9];exact g2).length_eq;rw[<-y,F9,F9]at this;exact this
  refine u4 (show ge (g9 X.prog X.w) A (if ((m.filterMap (f[·]?)).size != f.size)=a9 then _ else pure (m.filterMap (f[·]?),W)) _ _ _ from ?_);rw[r9<|by rw[V];simp];refine u8 ?_;generalize m.filterMap (f[·]?)=g at y V;have P:(m.toList.filterMap ((ds.take p++d::ds.drop p)[·]?)).Perm (ds.take p++d::ds.drop p):=nG (by
   have:(ds.take p++d::ds.drop p).length=f.size:=by rw[U.length_eq,E5,dl,C]
   rw[this];exact g2)
  refine wpAny_storeSet_of (s:={ s with heap:=_,toks:=tk }) B rfl ?_ (by rw[V];exact zz);have be:((s.heap.update a<|N6 f D).update a<|N6 g W).get? a=a7 { o with data:=.set g (ep+1+1) W }:=by
   have q:=Lw (N6 g W) B<|by rw[putSet_of g W (es:=f) (ep:=ep+1) (t:=D) rfl];rfl
   rwa [putSet_of g W (es:=f) (ep:=ep+1) (t:=D) rfl]at q
  refine u8 (h _ _ tk (m.toList.filterMap ((ds.take p++d::ds.drop p)[·]?)) (λc u hc e=>(Ou _ _<|A1 hc).trans<|an c u hc e) ⟨_,g,_,W,be,S.ex,rfl,?_,P.nodup_iff.mpr al,?_,aS.trans<|G.trans S.ld⟩ (λx=>?_) ?_);rw[y];refine Paired.pick _ Y λi hi=>?_;have:=g2.mem_iff.mp hi;rw[Ix]at this;rw[U.length_eq,E5,dl,<-C];exact this;have e2:g.toList.map (·.1)=m.toList.map λi=>(f.toList.map (·.1)).getD i 0:=by
   rw[y];have:∀(is:List Nat),(∀i∈is,i<f.toList.length)->(is.filterMap (f.toList[·]?)).map (·.1)=is.map λi=>(f.toList.map (·.1)).getD i 0:=by
    intro is;induction is with
    |nil=>intro _;rfl
    |cons i is ih=>intro hi;have hl:=hi i Fn;rw[Nu,z9 hl,C9,C9,ih λj hj=>hi j<|D0 _ hj];congr 1;rw[Lf,D8,z9 hl];rfl
   refine this _ λi hi=>?_;have:=g2.mem_iff.mp hi;rw[Ix]at this;rw[F9];exact this
  rw[e2];exact T2;rw[P.mem_iff,U.mem_iff,A4];exact⟨λz=>z.symm,λz=>z.symm⟩;rw[P.length_eq,U.length_eq];exact w5 _;rw[LQ.mpr tf];simp only[O2,A8,t7];refine u8<|h _ _ tk _ an ⟨_,f,_,D,B,S.ex,rfl,Y,al,T.ok<|LQ.mpr tf,G.trans S.ld⟩ (λx=>?_) ?_;rw[U.mem_iff,A4];exact⟨λz=>z.symm,λz=>z.symm⟩;rw[U.length_eq];exact w5 _
 refine MN (λ_=>u4<|hbv_D sm n 8 A _ d v _ _ _ hn I1 r rv kd λb=>?_) λ_=>?_;cases b with
 |true=>exact F (t.put (Ht.sq t.mask (A6 X.w n d) N).j).1.plain
 |false=>exact F bt
 exact F (t.put (Ht.sq t.mask (A6 X.w n d) N).j).1.plain;have:=ab;rcases S.tk.msk with e|e|e<;>rw[e]at this<;>lia
end
section
variable{X:Cx}{pins:List (d5×d6)}{σ:St}{H:Hp}{ρ:List d5}{M:v5}{A:f6}{E:b7->f7->Prop}{s:f7}{n:Nat}
theorem KS.at(x:KS X ρ H h a n ds)(k:∀o,h.get? a=a7 o->h'.get? a=a7 o):KS X ρ H h' a n ds:=by obtain⟨o,es,i,t,S⟩:=x;exact⟨o,es,i,t,k _ S.ob,S.ex,S.dt,S.en,S.nd,S.tk,S.ld⟩
theorem FI(sm:w9 X.K ρ M H)(I:u6 X pins σ H s)(hn:n<=8)(hu:A.units+n+2<j9)(W:Walks X.prog X.w A.in1 J fp wr m P Sx)(S:d5)(f:S∉fp)(G:s.heap.get? S=a8) (B:∀b∈wr,s.heap.get? b=a8) (l:Nat->D) (y:∀i v,P i v->∃vv,v7 X.K ρ H (l i) vv/\aJ vv v/\cw n (l i)=a9/\fx (l i)=a9) (hb:m<=63):∀(k i:Nat) (h:d7) (tk:Nat) (ds:List D),m-i=k->i<=m->Sx i h->KS X ρ H h S n ds->(∀x,x∈ds↔∃j,j<i/\l j=x)->ds.length<=i->(∀b u,s.heap.get? b=a7 u->h.get? b=a7 u) ->(∀h' tk ds',(∀b u,s.heap.get? b=a7 u->h'.get? b=a7 u)->KS X ρ H h' S n ds'->(∀x,x∈ds'↔∃j,j<m/\l j=x)->ds'.length<=m->R (.ok<|.ret .none) { s with heap:=h',toks:=tk }) ->k9 (g9 X.prog X.w) A (.builtin "set.update.loop" ⟨[.ref S,.ref J],[]⟩) R { s with heap:=h,toks:=tk }:=by
 have g:S∉wr:=λh=>f<|W.sub _ h;intro k;induction k with
 |zero =>
  intro i h tk ds hk hi t E O U a Z;obtain rfl:i=m:=by lia
  refine MB F.entry_set_update_loop ?_;rw[Nc F.plain_set_update_loop _];refine(show ge (g9 X.prog X.w) A.in1 (j1 (.ref J) >>= _) _ _ _ from u4<|W.done _ _ _ t λh' tk d=>?_);refine u8<|Z h' tk ds (λb u e=>d b u (λz=>by rw[B b z]at e;cases e)<|a b u e) (E.at λo e=>d S o g e) O U
 |succ k ih=>intro i h tk ds hk hi t E O U a Z;refine MB F.entry_set_update_loop ?_;rw[Nc F.plain_set_update_loop _];refine(show ge (g9 X.prog X.w) A.in1 (j1 (.ref J) >>= _) _ _ _ from u4<|W.item i _ _ _ (by lia) t λv h' tk hP p d=>?_);obtain⟨vv,r,rv,kd,it⟩:=y i v hP;have c:∀b u,s.heap.get? b=a7 u->h'.get? b=a7 u:=λb u e=>d b u (λz=>by rw[B b z]at e;cases e)<|a b u e;have Y:u6 X pins σ H { s with heap:=h',toks:=tk }:=I.kept c;refine u4<|F7<|add_D (s:={ s with heap:=h',toks:=tk }) sm Y hn (by show A.units+1+n+1<j9;lia) (E.at λo e=>d S o g e) (by lia) r rv kd it λb h2 T C V L Q ab=>?_;refine u8 ⟨ML F.plain_set_update_loop _,ih (i+1) h2 T C (by lia) (by lia) (W.frame _ h' h2 p λb' N o e=>V b' o (λz=>f<|z ▸ N) e) L (λx=>?_) (by lia) (λb u e=>V b u (λz=>by rw[z,G]at e;cases e)<|c b u e) Z⟩;rw[Q,O];constructor;rintro(⟨j,hj,e⟩|rfl);exact⟨j,by lia,e⟩;exact⟨i,by lia,rfl⟩;rintro⟨j,hj,rfl⟩;by_cases q:j=i;subst q;exact .inr rfl;exact .inl ⟨j,by lia,rfl⟩
theorem Ce(e:h.get? a=a7 (aZ X.w)):KS X ρ H h a n []:=⟨_,#[],0,_,e,⟨rfl,rfl,rfl⟩,rfl,.nil,Og,⟨.inl rfl,rfl,rfl,Ql,λj L=>by simp[SetTable.fresh]at L,(by show 0*5<7*3;decide),λi h j b=>by simp at b⟩,rfl⟩
end
section
variable{X:Cx}{pins:List (d5×d6)}{σ:St}{H:Hp}{ρ:List d5}{M:v5}{A:f6}{E:b7->f7->Prop}{s:f7}{m:Nat}
theorem FZ(Z:w9 X.K ρ M H)(I:u6 X pins σ H s)(z:m<=8)(hu:A.units+m+3<j9){l:d5}{T:String}{n:Nat}{P:Nat->b7->Prop}{G:f7->Prop}(O:A.handled=a8)(K:TxSrc X.prog X.w s.heap l T n P)(a:Nat->D)(y:∀i v,P i v->∃vv,v7 X.K ρ H (a i) vv/\aJ vv v/\cw m (a i)=a9/\fx (a i)=a9)(N:n<=63)(h:∀h' tk ds,(∀b o,s.heap.get? b=a7 o->h'.get? b=a7 o)->KS X ρ H h' s.heap.objs.size m ds->(∀x,x∈ds↔∃j,j<n/\a j=x)->ds.length<=n->G { s with heap:=h',toks:=tk }):ge (g9 X.prog X.w) A (Builtin.«set.__init__» ⟨[.ref s.heap.objs.size,.ref l],[]⟩) (λfin s'=>fin=.done (.ret .none)/\G s') E { s with heap:=s.heap.push (aZ X.w) }:=by
 have S:(s.heap.push<|aZ X.w).get? s.heap.objs.size=a7 (aZ X.w):=C5 _ rfl;have hT:My { s with heap:=s.heap.push (aZ X.w) } (.ref s.heap.objs.size) "set":=⟨_,S,rfl⟩
 obtain⟨F,f,r⟩:=K.obj;have c:(s.heap.push<|aZ X.w).get? l=a7 F:=z6 _ f;have L:My { s with heap:=s.heap.push (aZ X.w) } (.ref l) T:=⟨F,c,r⟩
 have Y:l<s.heap.objs.size:=A0 f;have J:(s.heap.push<|aZ X.w).objs.size=s.heap.objs.size+1:=Lj ..;obtain⟨oI,St,t,W,st⟩:=K.iter A.in1 { s with heap:=s.heap.push (aZ X.w) } O λo e=>z6 _ e;have ns:=K.ns;have nf:=K.nf;have nd:=K.nd;unfold Builtin.«set.__init__» noKeywords Builtin.Frozenset.updateFrom;generalize d:j3=PI
 wp_walk
 subst d;refine wpAny_of_in1<|t _ _ ?_;have k:s.heap.objs.size∉[(s.heap.push<|aZ X.w).objs.size,l]:=by rw[J];simp only[A4,LN,or_false,not_or];exact⟨A3<|LP _,Mg Y⟩
 have g:s.heap.get? s.heap.objs.size=a8:=by
  cases q:s.heap.get? s.heap.objs.size with
  |none=>rfl
  |some o=>exact t4 (A0 q)<|G8 _
 have C:∀b∈[(s.heap.push<|aZ X.w).objs.size],s.heap.get? b=a8:=λb p=>by
  rw[K4.mp p,J];cases q:s.heap.get? (s.heap.objs.size+1) with
  |none=>rfl
  |some o=>exact t4 (A0 q)<|MG.mpr<|N9 _
 refine u4<|wpAny_runValue<|FI (s:=s) Z I z (by first|exact(show A.units+m+2<j9 by lia)|exact(show A.units+1+m+2<j9 by lia)) W s.heap.objs.size k g C a y N n 0 _ _ [] rfl (C4 _) st (Ce<|z6 _ S) (λx=>by simp) (w5 _) (λb u e=>z6 _<|z6 _ e) λh' tk V Q B U R=>?_;exact u8<|u8 ⟨rfl,h h' tk V Q B U R⟩
set_option maxHeartbeats 1000000 in
theorem GK(C:w9 X.K ρ M H)(I:u6 X pins σ H s)(f:m<=8)(Z:A.units+m+20<j9){l:d5}{T:String}{n:Nat}{P:Nat->b7->Prop}{Q:b7->f7->Prop}(u:A.handled=a8)(K:TxSrc X.prog X.w s.heap l T n P)(a:Nat->D)(y:∀i v,P i v->∃vv,v7 X.K ρ H (a i) vv/\aJ vv v/\cw m (a i)=a9/\fx (a i)=a9)(t:n<=63)(h:∀h' tk ds,(∀b o,s.heap.get? b=a7 o->h'.get? b=a7 o)->KS X ρ H h' s.heap.objs.size m ds->(∀x,x∈ds↔∃j,j<n/\a j=x)->ds.length<=n->Q (.ref s.heap.objs.size) { s with heap:=h',toks:=tk }):ge (g9 X.prog X.w) A (call (.type "set") [.ref l]) Q E s:=by
 have O:=F.called_set.made;have W:=F.called_set.sub;have U:=F.called_set.notType;have L:=F.called_set.canCreate;have Y:=F.typeCall_set_1<|.ref l;obtain⟨c,tl,V⟩:=F.called_set.mro;refine l7<|codeAny_of_tree<|show ge _ _ (callAny (.type "set") _) _ _ _ from u8 ⟨Code.quiet_builtin _ (by decide +kernel),MB F.entry_type_call ?_⟩;rw[Around.under_plain (weight_type_call_type "set" [.ref l] []) rfl]
 repeat (any_goals (first|assumption|wp_step))
 refine MK (uz (.ref l) (E:=E) (Q₁:=λobj s₁=>obj=.ref s.heap.objs.size/\s₁={ s with heap:=s.heap.push (aZ X.w) }) ⟨rfl,rfl⟩) λr s₁ hr=>?_
 match r,hr with
 |.error e,hr=>exact hr
 |.ok (.ret obj),⟨e1,e2⟩ =>
  subst e1 e2;have S:(s.heap.push<|aZ X.w).get? s.heap.objs.size=a7 (aZ X.w):=C5 _ rfl;have p:My { s with heap:=s.heap.push (aZ X.w) } (.ref s.heap.objs.size) "set":=⟨_,S,rfl⟩
  have N:=F.called_set.init.lookup;have J:=F.called_set.init.bind<|.ref s.heap.objs.size
  repeat (any_goals (first|assumption|wp_step))
  refine MK (Pn (R:=wants (λr s₂=>r=.none/\Q (.ref s.heap.objs.size) s₂) E) F.called_set.init.plain F.entry_set_init<|check_set_init_1 p ?_) λd s₂ hr₂=>?_;refine G3 (FZ (G:=λB=>Q (.ref s.heap.objs.size) B) C I f (by first|(show A.units+1+1+1+m+3<j9;lia)|(show A.units+1+1+m+3<j9;lia)|(show A.units+1+m+3<j9;lia)) (by simp[u]) K a y t h) (λk s' ⟨e,g⟩=>?_) λ_ _ z=>z;subst e;exact⟨rfl,g⟩
  ·match d,hr₂ with
   |.error e,hr₂=>exact hr₂
   |.ok (.ret r),⟨e,q⟩ =>
    subst e
    repeat (any_goals (first|assumption|wp_step))
end
def SqAt(M:v5)(d:D)(xs:List D):Prop:=(∃n,d=.ref n/\am M n xs)\/d=.tup xs
theorem SrtOk.sub(h:SrtOk M xs)(s:∀y∈ys,y∈xs)(l:ys.length<64):SrtOk M ys:=by refine⟨l,λx a=>h.ok x<|s x a,λx a y Q=>h.cm x (s x a) y<|s y Q,?_⟩;rcases h.kd with k|k|k|k|k;exact .inl λx a=>k x<|s x a;exact .inr<|.inl λx a=>k x<|s x a;exact .inr<|.inr<|.inl λx a=>k x<|s x a;exact .inr<|.inr<|.inr<|.inl λx a=>k x<|s x a;exact .inr<|.inr<|.inr<|.inr λx a=>k x<|s x a
section
variable{X:Cx}{e:g7}{te:x9}{p p' pos pos':i3}{k:Nat}
theorem Hv(I:u6 X pins σ H s)(m:w9 X.K ρ M H)(r:v7 X.K ρ H d v)(c:aJ v u)(t:SqAt M d xs):∃(a:d5) (T:String) (its:Array b7) (vs:List V),u=.ref a/\TxSrc X.prog X.w s.heap a T its.size (λi v=>its[i]?=a7 v)/\Reps X.K ρ H xs vs/\aw vs its.toList:=by
 rcases t with⟨n,rfl,h⟩|rfl;cases r with
 |@ref _ a f=>cases c;obtain⟨vs,hs,b⟩:=h.seq m f;obtain⟨its,l,p,_⟩:=I.list hs;exact⟨a,_,its.toArray,vs,rfl,TxSrc.list p.isList,b,by simpa using l⟩
 cases r with
 |@tup a vs _ hs b=>cases c;obtain⟨its,l,p,_⟩:=I.tuple hs;exact⟨a,_,its.toArray,vs,rfl,TxSrc.tuple p,b,by simpa using l⟩
theorem kn:∀{ds:List D}{vs:List V}{its:List b7}{i:Nat}{u:b7}{ρ:List d5}{H:Hp},Reps X.K ρ H ds vs->aw vs its->its[i]?=a7 u->∃d v,ds[i]?=a7 d/\v7 X.K ρ H d v/\aJ v u
 |_,_,_,i,u,_,_,.nil,h,e=>by cases h;simp at e
 |_,_,_,0,u,_,_,.cons r _,h,e=>by
  cases h with
  |cons a _=>simp at e;subst e;exact⟨_,_,rfl,r,a⟩
 |_,_,_,i+1,u,_,_,.cons _ t,h,e=>by
  cases h with
  |cons _ b=>obtain⟨d,v,e1,r,rv⟩:=kn (i:=i) t b (by simpa using e);exact⟨d,v,by simpa using e1,r,rv⟩
theorem ents:∀{ds:List D}{es:List (Int×b7)},Paired (F5 X ρ H n) ds es->∃vs,Reps X.K ρ H ds vs/\aw vs (es.map (·.2))
 |_,_,.nil=>⟨[],.nil,.nil⟩
 |_,_,.cons ⟨⟨v,r,rv⟩,_⟩ t=>by obtain⟨vs,a,b⟩:=ents t;exact⟨v::vs,.cons r a,.cons rv b⟩
theorem yH(p:us'.Perm us):∀{ds:List D}{vs:List V},Reps X.K ρ H ds vs->aw vs us->∃ds' vs',ds'.Perm ds/\Reps X.K ρ H ds' vs'/\aw vs' us':=by
 induction p with
 |nil=>intro ds vs r h;exact⟨ds,vs,.refl _,r,h⟩
 |cons x _ o =>
  intro ds vs r h;cases h with
  |cons a b =>
   cases r with
   |cons c d=>obtain⟨ds',vs',h1,h2,e⟩:=o d b;exact⟨_,_,h1.cons _,.cons c h2,.cons a e⟩
 |swap x y l =>
  intro ds vs r h;cases h with
  |cons a b =>
   cases b with
   |cons g j =>
    cases r with
    |cons c d =>
     cases d with
     |cons k m=>exact⟨_,_,.swap _ _ _,.cons k<|.cons c m,.cons g<|.cons a j⟩
 |trans _ _ i f=>intro ds vs r h;obtain⟨ds',vs',h1,h2,e⟩:=f r h;obtain⟨C,v,g1,n,g3⟩:=i h2 e;exact⟨C,v,g1.trans h1,n,g3⟩
end
def iL(te:x9):x9:=λS M Q=>te S M λd a=>∃n xs,n<=8/\SqAt a d xs/\xs.length<64/\(∀x∈xs,cw n x=a9/\fx x=a9)/\SrtOk a xs/\∀ys:List D,ys.Nodup->(∀x,x∈ys↔x∈xs)->Hb a ys->Q (.ref a.length) (a++[.lst ys])
section
variable{X:Cx}{e:g7}{te:x9}{p p' pos pos':i3}{k:Nat}
set_option maxHeartbeats 1000000 in
theorem xu(hr:Room k X.A)(hc:X.calm=a9)(he:DE X e te)(W:X.mg "sorted" = a8)(Y:X.mg "set" = a8)(P:X.env.kindOf "sorted" = a7 .globalImplicit)(U:X.env.kindOf "set" = a7 .globalImplicit)(h1:i5 [e] X.env=[(bt,eval e X.env)]) (h2:i5 [Expr.Call (.Name "set" p') [e] [] pos'] X.env=[(bt,eval (Expr.Call (.Name "set" p') [e] [] pos') X.env)]):DE X (.Call (.Name "sorted" p) [.Call (.Name "set" p') [e] [] pos'] [] pos) (iL te):=by
 rintro pins s σ H R I ⟨S,M,ρ,Q,sm,sr,q,kk⟩;refine Nt<|lV I P W (by rfl) ?_;refine callWith_builtin1 ?_ (by rw[h2];rfl) rfl;rw[h2];refine Qs ?_;refine Nt<|lV I U Y (by rfl) ?_;refine callWith_type1 ?_ (by rw[h1];rfl) rfl;rw[h1];refine Qs<|x6 (he pins s σ H _ I ⟨S,M,ρ,_,sm,sr,q,λv H' z=>z⟩) ?_;rintro u s1 ⟨v,H1,B,rv,d,M1,bm,c,g1,r1,cases⟩;refine Calls.spliced_nil ?_;obtain⟨n,xs,n8,sq,hl,hk,so,G⟩:=cases;obtain⟨a,T,its,ws,rfl,src,w,vx⟩:=Hv B c r1 rv sq;have li:its.size=xs.length:=by have h1:=vx.length;have h2:=w.length;simp at h1;lia
 have un:=hr.un;refine GK c B n8 (by lia) (B.ok.hd hc) src (λi=>xs.getD i .non) (λi v e=>?_) (by lia) λh2 f ds k2 l V aD=>?_;obtain⟨d,vv,e1,r,rv⟩:=kn w vx (by rw[J5];exact e);have F:xs.getD i .non=d:=by rw[Lf,e1];rfl
 have:=hk d<|J7 e1;exact⟨vv,by rw[F];exact r,rv,by rw[F];exact this.1,by rw[F];exact this.2⟩;refine Calls.spliced_nil ?_;have E:=B.kept (t':=f) k2;obtain⟨o,es,ep,t,K⟩:=l;have aS:ds.length=es.size:=by have:=K.en.length;simpa using this
 have hz:es.size<=sizeLine:=by rw[Mb];lia
 refine wM (s:={ s1 with heap:=h2,toks:=f }) (E.ok.hd hc) ⟨K.ob,K.dt,K.fits⟩ K.ex.1 (λz=>.inr K.tk.ris) K.ld hz λh3 be dr D vs k3 J N pv=>?_;have h:∀x,x∈ds↔x∈xs:=λx=>by
  rw[V x,li];constructor;rintro⟨j,L,rfl⟩;have e:xs.getD j .non=xs[j]:=by simp[NF,L]
  rw[e];exact LZ L;intro hx;obtain⟨j,L,e⟩:=List.getElem_of_mem hx;exact⟨j,L,by rw[show xs.getD j .non=xs[j] by simp[NF,L]];exact e⟩
 obtain⟨bl,aj,an⟩:=ents K.en;obtain⟨ds',bk,C,al,as⟩:=yH pv aj an;obtain⟨m,Z,_⟩:=E.loc;have O:D≠X.env.locals:=λz=>by obtain⟨oL,_,_,hL,_⟩:=Z;rw[z]at J;rw[J]at hL;cases hL
 have ab:h3.Ns X.env.locals m:=Z.at' λo e=>k3 _ _ e;refine Ev (X:=X) (pins:=pins) (σ:=σ) (s:={ s1 with heap:=h2,toks:=f,drawn:=dr }) (n:=0) hr (by show X.A.units+1<=X.A.units+4;lia) E.drew c (so.sub (ys:=ds') (λy hy=>(h y).mp<|C.mem_iff.mp hy)<|by rw[C.length_eq];lia).g al as Z ab (λb u _ e=>k3 b u e) J O N λv H' x=>?_;refine kk v H' ?_;have:=x (λd M'=>Q d M') λys hp ai=>?_;obtain⟨d,M',ρ',a1,a2,a3,a4⟩:=this;exact⟨d,M',ρ',a1,g1.trans a2,a3,a4⟩;exact G ys ((hp.trans C).nodup_iff.mpr K.nd) (λx=>((hp.trans C).mem_iff).trans<|h x) ai
theorem xo(r:Room k X.A)(i:HE X e te)(W:X.mg "sorted" = a8)(Q:X.mg "set" = a8)(f:X.calm=a9:=by kernel_rfl)(P:X.env.kindOf "sorted" = a7 .globalImplicit:=by kernel_rfl)(U:X.env.kindOf "set" = a7 .globalImplicit:=by kernel_rfl)(h1:i5 [e] X.env=[(bt,eval e X.env)]:=by kernel_rfl) (h2:i5 [Expr.Call (.Name "set" p') [e] [] pos'] X.env=[(bt,eval (Expr.Call (.Name "set" p') [e] [] pos') X.env)]:=by kernel_rfl):HE X (.Call (.Name "sorted" p) [.Call (.Name "set" p') [e] [] pos'] [] pos) (iL te):=⟨xu r f i.ok W Q P U h1 h2⟩
end
def fH(h:d7):Nat->D->b7->Prop
 |_,.str x,v=>∃t,v=.str x t
 |_,.int i,v=>∃t,v=.int i t
 |n+1,.tup ds,v=>∃a its,v=.ref a/\h.IsTuple a its/\Paired (fH h n) ds its.toList
 |_,_,_=>False
noncomputable def OG:Nat->D->Nat
 |n+1,.tup ds=>(ds.map<|OG n).sum+1
 |_,_=>1
theorem iH:∀(n:Nat) (d:D) (v:b7),fH h n d v->cw n d=a9:=by
 intro n;induction n with
 |zero=>intro d v k;cases d<;>first|rfl|exact k.elim
 |succ n b =>
  intro d v k;cases d with
  |str x=>rfl
  |int x=>rfl
  |tup ds =>
   obtain⟨a,its,_,_,p⟩:=k;show ds.all (cw n)=a9;generalize its.toList=l at p;induction p with
   |nil=>rfl
   |cons r _ i=>rw[LL,b _ _ r,i];rfl
  |_=>exact k.elim
theorem uk{h:d7}{a:d5}{xs ys:Array b7}(h1:h.IsTuple a xs)(h2:h.IsTuple a ys):xs=ys:=by obtain⟨o,t,_,n,d⟩:=h1;obtain⟨o',l,_,f,b⟩:=h2;obtain rfl:o=o':=C7<|t.symm.trans l;rw[d]at b;injection b
theorem rW{h:d7}:∀(n:Nat) (x y:D) (v:b7),fH h n x v->fH h n y v->x=y:=by
 intro n;induction n with
 |zero =>
  intro x y v B C;cases x with
  |str a =>
   obtain⟨t,rfl⟩:=B;cases y with
   |str b=>obtain⟨t',e⟩:=C;injection e with e;rw[e]
   |int b=>obtain⟨t',e⟩:=C;cases e
   |_=>exact C.elim
  |int a =>
   obtain⟨t,rfl⟩:=B;cases y with
   |str b=>obtain⟨t',e⟩:=C;cases e
   |int b=>obtain⟨t',e⟩:=C;injection e with e;rw[e]
   |_=>exact C.elim
  |_=>exact B.elim
 |succ n c =>
  intro x y v B C;cases x with
  |str a =>
   obtain⟨t,rfl⟩:=B;cases y with
   |str b=>obtain⟨t',e⟩:=C;injection e with e;rw[e]
   |int b=>obtain⟨t',e⟩:=C;cases e
   |tup b=>obtain⟨_,_,e,_⟩:=C;cases e
   |_=>exact C.elim
  |int a =>
   obtain⟨t,rfl⟩:=B;cases y with
   |str b=>obtain⟨t',e⟩:=C;cases e
   |int b=>obtain⟨t',e⟩:=C;injection e with e;rw[e]
   |tup b=>obtain⟨_,_,e,_⟩:=C;cases e
   |_=>exact C.elim
  |tup xs =>
   obtain⟨a,its,rfl,f,g⟩:=B;cases y with
   |str b=>obtain⟨t',e⟩:=C;cases e
   |int b=>obtain⟨t',e⟩:=C;cases e
   |tup ys =>
    obtain⟨_,i,e,E,j⟩:=C;cases e;obtain rfl:=uk f E;congr 1;generalize its.toList=l at g j;induction g generalizing ys with
    |nil=>cases j;rfl
    |cons r _ d=>cases j with
     |cons r' t'=>rw[c _ _ _ r r',d _ t']
   |_=>exact C.elim
  |_=>exact B.elim
theorem xm(k:∀a its,h.IsTuple a its->h'.IsTuple a its):∀(n:Nat) (d:D) (v:b7),fH h n d v->fH h' n d v:=by
 intro n;induction n with
 |zero=>intro d v q;cases d<;>first|exact q|exact q.elim
 |succ n i =>
  intro d v q;cases d with
  |str x=>exact q
  |int x=>exact q
  |tup ds=>obtain⟨a,its,e,t,p⟩:=q;exact⟨a,its,e,k _ _ t,Paired.mapP p λx y r=>i x y r⟩
  |_=>exact q.elim
theorem ui{es ep}(q:fH h n k v)(B:h.get? d=a7 o)(f:o.data=.dict es ep)(hs:J6 d h h'):fH h' n k v:=by
 refine xm (λa its ⟨o',e,c,m,t⟩=>?_) n k v q;have b:a≠d:=by rintro rfl;obtain rfl:o'=o:=C7<|e.symm.trans B;rw[f]at t;cases t
 exact⟨o',(hs.2 a b).trans e,c,m,t⟩
section
variable{prog:c9}{w:c8}
theorem xn:∀(n:Nat) (A:f6) (s:f7) (d:D) (u:b7) (E:b7->f7->Prop) (Q:Int->f7->Prop),A.units+n<j9->fH s.heap n d u ->Q (A6 w n d) { s with toks:=s.toks+OG n d }->ge (g9 prog w) A (pyHash u) Q E s:=by
 intro n;induction n with
 |zero =>
  intro A s d u E Q r k h;cases d with
  |str x=>obtain⟨t,rfl⟩:=k;exact Pb h
  |int x=>obtain⟨t,rfl⟩:=k;exact Pc h
  |_=>exact k.elim
 |succ n v =>
  intro A s d u E Q r k h;cases d with
  |str x=>obtain⟨t,rfl⟩:=k;exact Pb h
  |int x=>obtain⟨t,rfl⟩:=k;exact Pc h
  |tup ds =>
   obtain⟨a,its,rfl,⟨o,B,j,S,q⟩,p⟩:=k;have m:s.TypeIs (.ref a) "tuple":=⟨o,B,j⟩
   unfold pyHash
   first|unfold pyHashByItsType|skip
   first|refine u4 (wpAny_cRoomFor_or (.inr<|by lia) ?_)|skip
   refine u4<|M7 m F.slot_tuple_hash.lookup ?_;refine(show ge (g9 prog w) _ (if (a7 (Oe "tuple.__hash__")==a7 J2)=a9 then _ else _) Q E s from ?_);rw[r9<|by rw[beq_builtin_none];exact MQ];refine u4<|M7 m F.slot_tuple_hash.lookup ?_;refine(show ge (g9 prog w) _ (callSpecialIfBoundUnlessNone? (.ref a) "__hash__" _ >>= _) Q E s from u4<|RO m F.slot_tuple_hash<|J4 F.slot_tuple_hash m F.entry_tuple_hash ?_<|F.args_tuple_hash_1 _);refine(show ge (g9 prog w) _ (QJ (.ref a) >>= _) _ _ s from u4<|wpAny_tupleItemsOf B q<|u4 ?_);rw[<-Op];refine No _ (λaL (b:Array Int) s'=>∃done left,ds=done++left/\Paired (fH s.heap n) left aL/\b.toList=done.map (A6 w n)/\s'={ s with toks:=s.toks+(done.map<|OG n).sum }) _ ?_ ?_ _ _ ⟨[],ds,rfl,p,rfl,rfl⟩;rintro x aL b s' ⟨done,left,e,h1,f,rfl⟩;cases h1 with
   |@cons g _ c _ U L =>
    refine u4<|v _ _ g x _ _ (by show A.units+1+n<j9;lia) U ?_
    first
     |exact u8 ⟨done++[g],c,by rw[e];simp,L,by simp[f],by simp[Nat.add_assoc]⟩
     |exact u4 (u8 (u8 ⟨done++[g],c,by rw[e];simp,L,by simp[f],by simp[Nat.add_assoc]⟩))
   rintro b s' ⟨done,left,e,h1,f,rfl⟩;cases h1;rw[Lb]at e;subst e;refine(show ge (g9 prog w) _ (retInt<|NU b.toList) _ _ _ from ?_);rw[f];refine wpAny_ret_mkInt ?_;have l:A6 w (n+1) (.tup ds)=o4 (NU<|ds.map<|A6 w n):=rfl;have h':Q (A6 w (n+1)<|.tup ds) { s with toks:=s.toks+(ds.map<|OG n).sum+1 }:=h;generalize NU (ds.map<|A6 w n)=z at l;refine(show ge (g9 prog w) _ (if (decide (-(2:Int) ^ 63<=z)&&decide (z<2 ^ 63))=a9 then _ else _) Q E _ from ?_);unfold o4 at l;by_cases i:(decide (-(2:Int) ^ 63<=z)&&decide (z<2 ^ 63))=a9;rw[p9 i]at l ⊢;exact u8 (by rw[<-l];exact h');rw[r9 i]at l ⊢;exact u4<|Lq<|u8<|by rw[<-l];exact h'
  |_=>exact k.elim
theorem uh:∀(n k:Nat) (A:f6) (s:f7) (d:D) (u:b7) (E:b7->f7->Prop) (Q:Bool->f7->Prop),n<=k->fH s.heap n d u->Q a9 s->ge (g9 prog w) A (eqIsQuiet k u) Q E s:=by
 intro n;induction n with
 |zero =>
  intro k A s d u E Q c q h;cases d with
  |str x=>obtain⟨t,rfl⟩:=q;rw[Nq k (v:=.str x t) rfl];exact u8 h
  |int x=>obtain⟨t,rfl⟩:=q;rw[Nq k (v:=.int x t) rfl];exact u8 h
  |_=>exact q.elim
 |succ n e =>
  intro k A s d u E Q c q h;cases d with
  |str x=>obtain⟨t,rfl⟩:=q;rw[Nq k (v:=.str x t) rfl];exact u8 h
  |int x=>obtain⟨t,rfl⟩:=q;rw[Nq k (v:=.int x t) rfl];exact u8 h
  |tup ds =>
   obtain⟨a,its,rfl,⟨o,B,f,S,b⟩,p⟩:=q;obtain⟨k,rfl⟩:∃I,k=I+1:=⟨k-1,by lia⟩
   have m:s.TypeIs (.ref a) "tuple":=⟨o,B,f⟩
   unfold eqIsQuiet;refine u4<|M7 m F.slot_tuple_eq.lookup ?_;refine(show ge (g9 prog w) A (isInstance (.ref a) (.type "tuple") >>= _) _ _ s from u4<|Nn m isSubtype_tuple_tuple ?_);simp only[Mh,A8,t7];refine u4<|LB B b ?_;simp only[Option.getD_some];refine u4 ?_;refine(show ge (g9 prog w) A (forIn its _ _) _ _ s from ?_);rw[<-Op];refine No _ (λaL r s'=>r.1=a8/\s'=s/\∃left,Paired (fH s.heap n) left aL) _ ?_ ?_ _ _ ⟨rfl,rfl,ds,p⟩;rintro x aL r s' ⟨i,rfl,left,h1⟩;cases h1 with
   |cons U L=>refine u4<|e k _ _ _ x _ _ (by lia) U ?_;simp only[Mh,A8,t7];exact u8 ⟨rfl,rfl,_,L⟩
   rintro⟨r1,r2⟩ s' ⟨i,rfl,_⟩;simp only at i;subst i;exact u8 h
  |_=>exact q.elim
theorem jD{h:d7}{n:Nat}{ds:List D}{its:Array b7}(p:Paired (fH h n) ds its.toList):ds.length=its.size:=by
 rw[<-F9];generalize its.toList=l at p;induction p with
 |nil=>rfl
 |cons _ _ i=>rw[E5,E5,i]
theorem Cj:∀(n:Nat) (A:f6) (s:f7) (x y:D) (u v:b7),A.units+n<j9->fH s.heap n x u->fH s.heap n y v->Ma A s u v (v4 [] n x y):=by
 intro n;induction n with
 |zero =>
  intro A s x y u v E B C;cases x with
  |str a =>
   obtain⟨t,rfl⟩:=B;cases y with
   |str b=>obtain⟨t',rfl⟩:=C;exact Qp _ _ _ _
   |int b=>obtain⟨t',rfl⟩:=C;exact Pi _ _ _ _
   |_=>exact C.elim
  |int a =>
   obtain⟨t,rfl⟩:=B;cases y with
   |str b=>obtain⟨t',rfl⟩:=C;exact Pj _ _ _ _
   |int b=>obtain⟨t',rfl⟩:=C;exact Qq _ _ _ _
   |_=>exact C.elim
  |_=>exact B.elim
 |succ n G =>
  intro A s x y u v E B C;have c:A.units<j9:=by lia
  have h:A.in1.units+n<j9:=by show A.units+1+n<j9;lia
  cases x with
  |str a =>
   obtain⟨t,rfl⟩:=B;cases y with
   |str b=>obtain⟨t',rfl⟩:=C;exact Qp _ _ _ _
   |int b=>obtain⟨t',rfl⟩:=C;exact Pi _ _ _ _
   |tup b=>obtain⟨_,_,rfl,p,_⟩:=C;exact SeqAt.EqAt.str_tuple _ _ p c
   |_=>exact C.elim
  |int a =>
   obtain⟨t,rfl⟩:=B;cases y with
   |str b=>obtain⟨t',rfl⟩:=C;exact Pj _ _ _ _
   |int b=>obtain⟨t',rfl⟩:=C;exact Qq _ _ _ _
   |tup b=>obtain⟨_,_,rfl,p,_⟩:=C;exact SeqAt.EqAt.int_tuple _ _ p c
   |_=>exact C.elim
  |tup xs =>
   obtain⟨a,its,rfl,p,m⟩:=id B;cases y with
   |str b=>obtain⟨t',rfl⟩:=C;exact SeqAt.EqAt.tuple_str _ _ p c
   |int b=>obtain⟨t',rfl⟩:=C;exact SeqAt.EqAt.tuple_int _ _ p c
   |tup ys =>
    obtain⟨b,d,rfl,F,o⟩:=id C;by_cases S:a=b;subst S;have e:=rW (n+1) _ _ _ B C;rw[e,(jg (M:=[]) (n+1) _ _ (iH _ _ _ C)<|iH _ _ _ C).mpr rfl];exact P7 _;have Q:=jD m;have l:=jD o;have f:∀(j:Nat) (h1:j<its.size) (h2:j<d.size),Ma A.in1 s its[j] d[j] (v4 [] n (xs.getD j .non)<|ys.getD j .non):=λj h1 h2=>by
     obtain⟨q,w,H⟩:=cR m (i:=j) (y:=its[j]) (by rw[J5];exact KY h1);obtain⟨r,z,I⟩:=cR o (i:=j) (y:=d[j]) (by rw[J5];exact KY h2);have J:xs.getD j .non=q:=by rw[Lf,w];rfl
     have K:ys.getD j .non=r:=by rw[Lf,z];rfl
     rw[J,K];exact G A.in1 s q r _ _ h H I
    have k:((D3<|min its.size d.size).all (λj=>v4 [] n (xs.getD j .non)<|ys.getD j .non)&&its.size==d.size)=E3 (v4 [] n) xs ys:=by
     by_cases g:xs.length=ys.length;have W:(D3 xs.length).all (λj=>v4 [] n (xs.getD j .non)<|ys.getD j .non)=E3 (v4 [] n) xs ys:=lZ g λj x y h1 h2=>by simp[NF,h1,h2]
     rw[<-Q,<-l,<-g,Nat.min_self,W];simp;rw[zW g,<-Q,<-l];simp[g]
    have h1:=SeqAt.RcAt.tuples p F c f;rw[k]at h1;exact SeqAt.EqAt.of_refs S h1
   |_=>exact C.elim
  |_=>exact B.elim
end
noncomputable instance decD:DecidableEq D:=λa b=>NS<|a=b
noncomputable def aQ(prog:c9)(w:c8):HeapKind prog w D where
 is:=λh d a=>fH h 8 d<|.ref a
 hash:=A6 w 8
 draws:=OG 8
 room:=λA=>A.units+8<j9
 inj:=λx y=>rW 8 _ _ _ x y
 keeps:=λx B c hs=>ui x B c hs
 pyHash:=λg k h=>xn 8 _ _ _ _ _ _ g k h
 eqBool:=λ{A E s x y a b Q} g k1 k2 h=>by
  refine Cj 8 A s x y _ _ g k1 k2 _ _ _ _ ?_;have e:v4 [] 8 x y=decide (x=y):=by rw[Om,jg 8 x y (iH _ _ _ k1)<|iH _ _ _ k2,t5]
  rw[e];exact h
 quiet:=λk h=>uh 8 8 _ _ _ _ _ _ (w5 _) k h
noncomputable def aH(kvs:List (D×D))(k:D):Option D:=(kvs.find? λp=>decide<|p.1=k).map (·.2)
noncomputable def gx(kvs:List (D×D))(k d:D):List (D×D):=if (aH kvs k).isSome then kvs.map (λp=>if p.1=k then(p.1,d)else p)else kvs++[(k,d)]
section
variable{K:v6}{ρ:List d5}{H:Hp}{M:v5}{kvs:List (D×D)}{xs:List (D×d5×b7)}
theorem lW(r:Paired (pE K ρ H) kvs xs)(k:D):(aH kvs k=a8/\o0 xs k=a8)\/∃d p v,aH kvs k=a7 d/\o0 xs k=a7 p/\v7 K ρ H d v/\aJ v p.2:=by
 unfold aH o0;induction r with
 |nil=>exact .inl ⟨rfl,rfl⟩
 |@cons p q ps qs h t i=>obtain⟨h1,_,_,v,a,b⟩:=h;rw[Lr,Lr];by_cases e:p.1=k;rw[dT_ e,dT_<|h1.symm.trans e];exact .inr ⟨_,_,v,rfl,rfl,a,b⟩;rw[dF_ e,dF_<|λz=>e<|h1.trans z];exact i
theorem DP(r:Paired (pE K ρ H) kvs xs)(n:cw 8 k=a9)(o:v7 K ρ H k (.ref b))(f:v7 K ρ H d v)(g:aJ v u):Paired (pE K ρ H) (gx kvs k d) (storedH xs k b u):=by
 unfold gx storedH;have s:(aH kvs k).isSome=(o0 xs k).isSome:=by rcases lW r k with⟨a,l⟩|⟨_,_,_,a,l,_⟩<;>rw[a,l]<;>rfl
 rw[s];by_cases q:(o0 xs k).isSome=a9;rw[p9 q,p9 q];clear s q;induction r with
 |nil=>exact .nil
 |@cons p q ps qs h t i=>rw[C9,C9];refine .cons ?_ i;obtain⟨h1,h2,c,w,j,m⟩:=h;by_cases e:p.1=k;rw[p9 e,putAt,p9<|h1.symm.trans e];exact⟨h1,h2,c,v,f,g⟩;rw[r9 e,putAt,r9<|λz=>e<|h1.trans z];exact⟨h1,h2,c,w,j,m⟩
 rw[r9 q,r9 q];clear s q;induction r with
 |nil=>exact .cons ⟨rfl,n,o,v,f,g⟩ .nil
 |cons h t i=>exact .cons h i
theorem dZ(r:Paired (pE K ρ H) kvs xs):xs.map (·.1)=kvs.map (·.1):=by
 induction r with
 |nil=>rfl
 |cons h t i=>rw[C9,C9,i,h.1]
theorem fM:(gx kvs k d).length<=kvs.length+1:=by unfold gx;split;rw[x3];lia;rw[D5];exact w5 _
theorem B9.writtenX{a p:d5}{xs:List V}{φ:c9->c8->d7->Prop}{o:HO}(hp:H p=a7 (.ext φ))(h:B9 K H a xs):B9 K (z5 H p o) a xs:=by
 rcases h with h|h;rcases h with h|⟨b,h⟩
 exact .inl (.inl<|by rw[ar<|wY h hp<|by intro z;cases z];exact h);exact .inl<|.inr ⟨b,by rw[ar<|wY h hp<|by intro z;cases z];exact h⟩;exact .inr h
theorem w9.writeT(S:w9 K ρ M H)(t:ρ[n]?=a7 a)(s:M[n]?=a7 (.dkt kvs))(p:H a=a7 (.ext<|dX a xs))(u:kvs'.length<=sizeLine)(hs:(a==d8)=bt)(X:(kvs'.map (·.1)).Nodup)(r:Paired (pE K ρ H) kvs' xs'):w9 K ρ (M.set n<|.dkt kvs') (z5 H a<|.ext<|dX a xs')/\Grow K ρ H ρ (z5 H a<|.ext<|dX a xs'):=by
 have g:Grow K ρ H ρ (z5 H a<|.ext<|dX a xs'):=⟨Ml,λ_ _ h=>B9.writtenX p h⟩
 have k:∀m,m≠n->(M.set n<|.dkt kvs')[m]?=M[m]?:=λm d=>Lv<|A1 d;have c:¬Lx M[n]?:=λ⟨_,z⟩=>by rw[s]at z;cases z
 refine⟨⟨λm j b e f N=>?_,by rw[M9];exact S.len,λm b o f N=>?_⟩,g⟩;have q:=S.nd m j b e f N;by_cases h1:m=n;subst h1;rw[k j<|A1 e];exact .inr<|q.resolve_left c;rw[k m h1];by_cases h2:j=n;subst h2;exact .inl<|q.resolve_right c;rw[k j h2];exact q;by_cases d:m=n;subst d;have i:b=a:=C7<|f.symm.trans t;subst i;rw[LF<|by rw[<-S.len];exact(A5.mp t).1]at N;cases N;refine⟨u,hs,X,xs',aK,Paired.mapP r ?_⟩;rintro _ _ ⟨w,x,y,v,G,A⟩;exact⟨w,x,y.grow g,v,G.grow g,A⟩;rw[k m d]at N;by_cases i:b=a;subst i;have l:=(S.nd m n b d f t).resolve_right c;rw[N]at l;exact(S.obj m b o f N).grow g<|.inr l;exact(S.obj m b o f N).grow g<|.inl<|ar i
end
section
variable{X:Cx}{pins:List (d5×d6)}{σ:St}{H:Hp}{s:f7}{ρ:List d5}{M:v5}
theorem cP(I:u6 X pins σ H s):∀(n:Nat) (d:D) (v:V) (u:b7),v7 X.K ρ H d v->aJ v u->cw n d=a9->fH s.heap n d u:=by
 intro n;induction n with
 |zero =>
  intro d v u r b k;cases r with
  |str x=>exact b
  |int x=>exact b
  |_=>cases k
 |succ n f =>
  intro d v u r b k;cases r with
  |str x=>exact b
  |int x=>exact b
  |@tup a vs ds q c =>
   cases b;obtain⟨its,l,p,z⟩:=I.tuple q;have h:∀x∈ds,cw n x=a9:=E7.mp<|show ds.all (cw n)=a9 from k;refine⟨a,its.toArray,rfl,p,?_⟩;rw[List.toList_toArray];clear p q k z;induction l generalizing ds with
   |nil=>cases c;exact .nil
   |cons g j i =>
    cases c with
    |cons h1 t=>exact .cons (f _ _ _ h1 g<|h _ Fn)<|i t λx e=>h x<|D0 _ e
  |_=>cases k
theorem jF(I:u6 X pins σ H s)(m:w9 X.K ρ M H){n:Nat}{a:d5}{kvs:List (D×D)}(e:ρ[n]?=a7 a)(c:M[n]?=a7 (.dkt kvs)):∃xs,H a=a7 (.ext<|dX a xs)/\Paired (pE X.K ρ H) kvs xs/\s.heap.DictOfH (aQ X.prog X.w) a xs/\(a==d8)=bt/\kvs.length<=sizeLine/\xs.length=kvs.length/\(kvs.map (·.1)).Nodup:=by
 obtain⟨h1,h2,h,xs,b,r⟩:=m.obj _ _ _ e c;obtain⟨⟨o,es,t,l,Q,J⟩,_⟩:=(show bE X.prog X.w H s.heap a (.ext<|dX a xs)from I.hok a _ b)
 have Z:=dZ r;refine⟨xs,b,r,⟨o,es,_,t,l,Q,J,λx d=>?_,by rw[Z];exact h⟩,h2,h1,?_,h⟩;obtain⟨i,hi⟩:=LR d;obtain⟨p,_,q,g,j,_⟩:=cR r hi;rw[<-q];exact cP I 8 _ _ _ j rfl g;have:=t9 Lz Z
 rwa [x3,x3]at this
theorem oY(d:dX a xs P w h'):bE P w H' h' a (.ext<|dX a xs):=by obtain⟨o,es,t,l,Q,J⟩:=d;refine⟨⟨o,es,t,l,Q,J⟩,⟨o,t⟩,?_⟩;rintro h1 h2 ⟨o,es,t,l,Q,J⟩ k;exact⟨o,es,k _ t,l,Q,J⟩
theorem Ee(I:u6 X pins σ H s)(h:H a=a7 (.ext<|dX a xs)):dX a xs X.prog X.w s.heap:=(show bE X.prog X.w H s.heap a (.ext<|dX a xs)from I.hok a _ h).1
end
theorem setE(x:(aQ prog w).room A.in1)(t:(aQ prog w).is s.heap k b)(u:s.heap.DictOfH (aQ prog w) d xs) (y:dX d xs prog w s.heap) (hz:xs.length<=sizeLine)(n:∀h',dX d (storedH xs k b v) prog w h'->J6 d s.heap h'->Q () { s with heap:=h',toks:=s.toks+(aQ prog w).draws k }):ge (g9 prog w) A (setItem (.ref d) (.ref b) v) Q E s:=by
 have m:=u.typeIs;obtain⟨_,_,_,_,_,_,_,g,f⟩:=u;obtain⟨o,es,B,r,h,c⟩:=y;have i:es.toList=xs.map (d9<|aQ prog w):=c;unfold setItem
 try with_reducible refine F7 ?_
 refine u4<|wpAny_sequenceKey m (by decide)<|u4<|LS (name:=u7 "__setitem__") m slot_dict_setitem<|J4 slot_dict_setitem m entry_dict_setitem ?_<|args_dict_setitem _ _ _;refine(show ge (g9 prog w) _ (Builtin.Dict.notOrdered "__setitem__" ⟨[.ref d,.ref b,v],[]⟩ >>= _) _ _ s from u4<|NR m ?_);refine(show ge (g9 prog w) _ (dictSet d (.ref b) v >>= _) _ _ s from u4 ?_);unfold dictSet
 try with_reducible refine F7 ?_
 refine u4<|(aQ prog w).pyHash x t ?_;unfold dictSetHashed
 try with_reducible refine F7 ?_
 have C:es.size=xs.length:=size_of_entries i;refine u4<|wpAny_dictFind_heap (s:={ s with toks:=s.toks+(aQ prog w).draws k }) x t B h i g f (λa=>?_) λj p L=>?_;refine u4<|Lq<|wpAny_updateDictKeys (hz:=by lia) (s:={ s with toks:=s.toks+(aQ prog w).draws k }) B h<|u8 ⟨.none,rfl,u8<|n _ ⟨_,es.push ⟨(aQ prog w).hash k,.ref b,v⟩,Lw _ B<|Pk<|Oq h _,r.mapDictKeys _,?_,?_⟩<|LD ..⟩;rw[Oq h,storedH_new<|Qh a,D5];rfl;rw[storedH_new<|Qh a];rw[Array.toList_push,i,LC];rfl;refine u4<|Lq<|u4<|wpAny_updateDict (s:={ s with toks:=s.toks+(aQ prog w).draws k }) B h<|wpAny_point<|u8 ⟨.none,rfl,u8<|n _ ⟨_,es.modify j λe=>{ e with val:=v },Lw _ B<|Pk<|Qb h _,r.mapDict _,?_,?_⟩<|LD ..⟩;rw[Qb h,storedH_old<|Oa f L,x3];rw[storedH_old<|Oa f L];have q:=modify_map_putAt (d9<|aQ prog w) (λe:n9=>{ e with val:=v }) k v (λ_ _=>rfl) f L;rw[<-i]at q;obtain⟨l⟩:=es;have z:(Array.modify ⟨l⟩ j λe:n9=>{ e with val:=v }).toList=(xs.map<|putAt k v).map (d9<|aQ prog w):=by simpa using q
 exact z
section
variable{X:Cx}{o i value:g7}{td ty tv:x9}{pos pos':i3}{k:Nat}
def su:x9:=λ_ M Q=>Q (.ref M.length)<|M++[.dkt []]
theorem Kx:DE X (.Dict [] [] pos) su:=by rintro p s σ H R I ⟨S,M,ρ,Q,m,c,q,D⟩;have f:H s.heap.objs.size=a8:=I.hok.fresh<|w5 _;have d:(s.heap.objs.size==d8)=bt:=beq_eq_false_iff_ne.mpr<|A1<|A3 I.big;refine wpAny_Dict_empty ⟨.ref s.heap.objs.size,_,I.laid (a:=s.heap.objs.size) (o:=.ext<|dX s.heap.objs.size []) (t':=s.toks) (λ_ _ q=>z6 _ q) (w5 _)<|oY ⟨_,#[],C5 _ rfl,⟨rfl,rfl,rfl⟩,rfl,rfl⟩,rfl,?_⟩;exact D _ _ ⟨.ref M.length,M++[.dkt []],ρ++[s.heap.objs.size],m.laidM (mo:=.dkt []) f ⟨C4 _,d,Og,[],aK,.nil⟩,Grow.laidR f,.ref m.last,(show Q (.ref M.length) (M++[.dkt []])from q)⟩
def eQ(t b:x9):x9:=λS M Q=>t S M λx a=>b S a λy M2=>match x,y with
 |.ref n,.tup ks=>∃kvs d,M2[n]?=a7 (.dkt kvs)/\cw 8 (.tup ks)=a9/\aH kvs (.tup ks)=a7 d/\Q d M2
 |_,_=>False
theorem Ky(T:Room k X.A)(P:DE X o td)(hi:DE X i ty)(hs:Hc i):DE X (.Subscript o i pos) (eQ td ty):=by
 rintro c s σ H R I ⟨S,M,ρ,Q,sm,G,q,W⟩;have un:=T.un;refine yq PySem.F.slot_dict_getitem.lookup hs<|x6 (P c s σ H _ I ⟨S,M,ρ,_,sm,G,q,λv H' z=>z⟩) ?_;rintro u s1 ⟨v,H1,K,rv,x,L,l,j,g1,r1,Y⟩;refine x6 (hi c s1 σ H1 _ K ⟨S,L,l,_,j,G.grow g1,Y,λv H' z=>z⟩) ?_;rintro iv s2 ⟨w,J,f,h,y,M2,m,e,C,r2,g⟩;cases x with
 |ref n =>
  cases y with
  |tup E =>
   obtain⟨kvs,d,N,V,D,Z⟩:=g;obtain⟨a,rfl,O⟩:=v7.inv_ref r1;obtain rfl:u=E6 a:=rv;obtain⟨xs,hH,r,B,U,hl,hx,_⟩:=jF f e (ax C.pre O) N;have t:=cP f 8 _ _ _ r2 h V;rcases lW r (.tup E)with⟨z,_⟩|⟨d',p,v',e1,e2,e3,e4⟩
   rw[D]at z;cases z;rw[D]at e1;cases e1;obtain⟨b,_,rfl,_⟩:=id t;refine⟨B.typeIs,wpAny_getItem_heap (knd:=aQ X.prog X.w) (k:=.tup E) (by show X.A.units+1+8<j9;lia) t B e2 ⟨v',J,f.tok _,e4,W _ _ ⟨d,M2,m,e,g1.trans C,e3,Z⟩⟩⟩
  |_=>exact g.elim
 |_=>exact g.elim
def md(d c t:x9):u9:=λE S M=>t S M λv b=>d S b λx M2=>c S M2 λy a=>match x,y with
 |.ref n,.tup ks=>∃kvs,a[n]?=a7 (.dkt kvs)/\cw 8 (.tup ks)=a9/\kvs.length<sizeLine/\E.nx S (a.set n<|.dkt<|gx kvs (.tup ks) v)
 |_,_=>False
theorem oA(h:(kvs.map (·.1)).Nodup):((gx kvs y v).map (·.1)).Nodup:=by
 unfold gx;split;rw[J3];have:((λx:D×D=>x.1) ∘ λp:D×D=>if p.1=y then(p.1,v)else p)=λx=>x.1:=by funext p;show (if p.1=y then(p.1,v)else p).1=p.1;split<;>rfl
 rw[this];exact h;rename_i q;rw[LC,List.map_singleton,List.nodup_append];refine⟨h,by simp,λa f b d=>?_⟩;rw[K4.mp d];rintro rfl;obtain⟨p,hp,e⟩:=C1.mp f;refine q ?_;unfold aH;rw[Qg,List.find?_isSome];exact⟨p,hp,by simpa using e⟩
theorem Gr(hr:Room k X.A)(ho:DE X o td)(hi:DE X i ty)(hv:DE X value tv)(hs:i8 value (a7<|.Subscript o i pos') pos.line X.env=pure bt):DS X (.Assign [.Subscript o i pos'] value pos) (md td ty tv):=by
 rintro p s σ H E I ⟨S,M,ρ,F,sm,j,q,kk⟩;have un:=hr.un;refine wpAny_Assign_Subscript (x6 (hv p s σ H _ I ⟨S,M,ρ,_,sm,j,q,λv H' z=>z⟩) λr s1 ⟨v,H1,V,rv,dv,Y,G,C,g1,r1,q1⟩=>x6 (ho p s1 σ H1 _ V ⟨S,Y,G,_,C,j.grow g1,q1,λv H' z=>z⟩) λu s2 ⟨vx,T,W,rx,x,M2,J,D,g,r2,q2⟩=>x6 (hi p s2 σ T _ W ⟨S,M2,J,_,D,(j.grow g1).grow g,q2,λv H' z=>z⟩) ?_) hs;rintro iv s3 ⟨vy,H3,f,Q,y,M3,K,e,g3,P,B⟩;cases x with
 |ref n =>
  cases y with
  |tup O =>
   obtain⟨kvs,L,N,hl,q4⟩:=B;obtain⟨a,rfl,hn⟩:=v7.inv_ref r2;obtain rfl:u=E6 a:=rx;have h:=ax g3.pre hn;obtain⟨xs,l,r,Z,U,_,hx,nd⟩:=jF f e h L;have t:=cP f 8 _ _ _ P Q N;obtain⟨b,_,rfl,_⟩:=id t;obtain⟨_,_,rfl,m,rr⟩:=v7.inv_tup P;cases Q;have r':=DP r N (.tup m rr) ((r1.grow g).grow g3) rv;have pl:=fM (kvs:=kvs) (k:=.tup O) (d:=dv);obtain⟨w1,R⟩:=e.writeT h L l (by have:=pl;lia) U (oA nd) r';refine setE (k:=.tup O) (by show X.A.units+1+8<j9;lia) t Z (Ee f l) (by lia) λh' c w=>?_;have he:∃q,h'.get? a=a7 q:=let ⟨q,_,m,_⟩:=c;⟨q,m⟩
   exact⟨σ,_,uw f (by rw[l];exact MY) w he<|oY c,kk.nx σ _<|SQ.trans ((g1.trans g).trans g3) ⟨S,_,K,w1,R,(((j.grow g1).grow g).grow g3).grow R,q4⟩⟩
  |_=>exact B.elim
 |_=>exact B.elim
def PH(r:Nat->E1)(d:x9)(t:E8):x9:=λS M Q=>d S M λx a=>match x with
 |.ref n=>(∃kvs,a[n]?=a7 (.dkt kvs))/\t S a λds M2=>r n ds M2 Q
 |_=>False
variable{name:c7}{id:String}{e:g7}{es:List g7}{to:x9}{t:E8}{apos cpos:i3}
theorem d_mt{r:Nat->E1}(slot:Slot "dict" name id)(y:m8 (.builtin id)=pure (.type "method_descriptor"))(P:Ln X id (lQ X.K r))(T:DE X o to)(O:DA X (e::es) t)(c:m9 o name X.env (eval o X.env)=eval o X.env:=by rfl)(f:((i4 cpos<|i5 (e::es) X.env).all (λx=>!x.1)&&(n5 cpos<|n6 [] X.env).all (λx=>x.1.isSome) && decide ((e::es).length+([]:List l8).length+(if ([]:List l8).isEmpty then 0 else 1)<30))=a9:=by rfl)(d:(apos.endLine==cpos.line)=a9:=by rfl) (hs:i5 (e::es) X.env=(bt,eval e X.env)::i5 es X.env:=by rfl) (h:(i4 cpos<|i5 es X.env).any (·.1)=bt:=by rfl):DE X (.Call (.Attribute o name apos) (e::es) [] cpos) (PH r to t):=by
 rintro p s σ H R I ⟨S,M,ρ,Q,sm,G,q,V⟩;refine QA c f d rfl<|x6 (T p s σ H _ I ⟨S,M,ρ,_,sm,G,q,λv H' z=>z⟩) ?_;rintro u s1 ⟨v,H1,B,rv,x,i,m,j,g1,Z,g⟩;cases Z with
 |@ref n a F =>
  cases rv;obtain⟨⟨kvs,N⟩,g⟩:=(show (∃kvs,i[n]?=a7 (.dkt kvs))/\t S i _ from g)
  obtain⟨xs,hH,r,C,U,hl,hx,nd⟩:=jF B j F N;refine⟨"dict",id,QB,slot,y,C.typeIs,λb z=>?_,?_⟩;cases z;obtain⟨W,_,_,h1,h2,_⟩:=C;exact⟨W,h1,h2.2.1⟩;have E:=O cpos p s1 σ H1 _ B ⟨S,i,m,_,j,G.grow g1,g,λvs H' z=>z⟩;rw[hs]at E ⊢;refine Ot (by show (bt||(i4 cpos<|i5 es X.env).any (·.1))=bt;rw[h]<;>rfl)<|Po ?_;refine x6 E ?_;rintro us s2 ⟨vs,J,L,k,ds,M2,A,l,D,rr,Y⟩;exact P p s2 σ J (.ref a) vs (.ref a) us R L rfl k ⟨n,a,ds,M2,A,Q,rfl,ax D.pre F,l,rr,Y,λv H' w=>V v H'<|VQ.trans (g1.trans D) w⟩
 |_=>exact g.elim
def qP(n:Nat):E1:=λds M Q=>match ds with
 | [.tup ks,d]=>∃kvs,M[n]?=a7 (.dkt kvs)/\cw 8 (.tup ks)=a9/\Q ((aH kvs<|.tup ks).getD d) M
 |_=>False
theorem BO(u:Room k X.A):Ln X "dict.get" (lQ X.K qP):=by
 rintro g s σ H x xs v us R I G E ⟨n,a,ds,M,ρ,Q,i,o,m,c,q,D⟩;have T:=u.un;unfold qP at q;split at q;rename_i f d;obtain⟨kvs,j,y,q⟩:=q
 first|have z:=Reps.inv_cons c|have z:=aw.inv_cons c
 clear c;obtain⟨_,_,rfl,B,c⟩:=z
 first|have z:=Reps.inv_cons c|have z:=aw.inv_cons c
 clear c;obtain⟨_,_,rfl,C,c⟩:=z;cases c;obtain⟨S,J,rfl,h,l⟩:=aw.two E;subst i;cases G;obtain⟨ys,L,r,e,U,N,O,P⟩:=jF I m o j;have t:=cP I 8 _ _ _ B h y;obtain⟨b,_,rfl,_⟩:=id t;refine OT Qv e.typeIs PySem.F.entry_dict_get (PySem.F.args_dict_get_3 _ _ _) (meetsH_dict_get_default (aQ X.prog X.w) a b U J) ⟨by show X.A.units+1+8<j9;lia,.tup f,ys,t,e,?_⟩;rcases lW r (.tup f)with⟨z1,z2⟩|⟨d',p,v',z1,z2,z3,z4⟩
 rw[z2];rw[z1]at q;exact⟨_,H,I.tok _,l,D _ _ ⟨d,M,ρ,m,.refl,C,q⟩⟩;rw[z2];rw[z1]at q;exact⟨_,H,I.tok _,z4,D _ _ ⟨d',M,ρ,m,.refl,z3,q⟩⟩;exact q.elim
end
def fI(h:d7)(d:d5)(es:Array n9)(ep:Nat):Prop:=∃o,h.get? d=a7 o/\o.ExactDict/\o.data=.dict es ep
theorem fI.ty{s:f7}{d:d5}{es:Array n9}{ep:Nat}(x:fI s.heap d es ep):s.TypeIs (.ref d) "dict":=by obtain⟨o,h1,h2,_⟩:=x;exact⟨o,h1,h2.1⟩
theorem fI.to(x:fI h d es ep)(k:∀o,h.get? d=a7 o->h'.get? d=a7 o):fI h' d es ep:=by obtain⟨o,h1,h2⟩:=x;exact⟨o,k o h1,h2⟩
section
variable{prog:c9}{w:c8}{A:f6}{E:b7->f7->Prop}{s:f7}{d:d5}{es:Array n9}{ep:Nat}
theorem CM{Q:b7->f7->Prop}(c:(d==d8)=bt)(h:fI s.heap d es ep)(b:Q (.ref s.heap.objs.size) { s with heap:=s.heap.push { cls:=.type "dict_keyiterator",data:=.fields #[.ref d,.int 0 0,.int es.size 0,.int ep 0] } }):ge (g9 prog w) A (j3<|.ref d) Q E s:=by have m:=h.ty;obtain⟨o,h1,h2,a⟩:=h;refine Qi m F.slot_dict_iter<|J4 F.slot_dict_iter m F.entry_dict_iter ?_<|F.args_dict_iter_1 _;unfold Builtin.«dict.__iter__»;refine u4 ?_;unfold Builtin.Dict.dictSlotNone;refine u4<|NR m<|u8 ?_;refine(show ge (g9 prog w) _ (Qu d >>= _) _ _ s from ?_);unfold Qu;rw[c];refine u4<|u8<|u4<|Np h1 a<|u4<|Ol h1 a ?_;exact u4<|K3<|u8 ⟨_,rfl,"dict_keyiterator",_,⟨_,C5 _ rfl,rfl⟩,F.slot_dict_keyiterator_next.lookup,by simpa [j4]using b⟩
theorem CL(h:s.heap.IsKeyIter it d i es.size ep)(m:fI s.heap d es ep)(hi:i<es.size)(e:∀h',h'.IsKeyIter it d (i+1) es.size ep->J6 it s.heap h'->Q (a7 es[i].key) { s with heap:=h' }):ge (g9 prog w) A (j1<|.ref it) Q E s:=by
 obtain⟨o,B,f,a⟩:=id h;obtain⟨j,k,C,c⟩:=id m;unfold j1;refine u4<|Mi<|LS (name:=u7 "__next__") h.typeIs F.slot_dict_keyiterator_next<|J4 F.slot_dict_keyiterator_next h.typeIs F.entry_dict_keyiterator_next ?_<|F.args_dict_keyiterator_next_1 _;refine u4<|u8<|u4<|u4 ?_
 first|refine u4 (QK h.typeIs<|u8<|u4<|Mj B a ?_)|refine u4<|QF h.typeIs<|u8<|u4<|Mj B a ?_
 simp only[show Pv "dict_keyiterator" = bt by decide,A8,t7];refine(show ge (g9 prog w) _ (if (E6 d==J2)=a9 then _ else _) _ _ s from ?_);rw[r9<|by exact MQ];refine u4<|u8<|u4<|Np k c ?_;rw[r9<|by simp];refine u4<|u8<|u4<|Ol k c ?_;rw[r9<|by simp];refine u8 ?_;simp only[show ¬((i:Int)<0)from by lia,t7,Ld,KY hi];refine u4 ?_
 first|refine u4 (QK h.typeIs<|u8 ?_)|refine u4<|QF h.typeIs<|u8 ?_
 refine u4<|wpAny_isOneOf_keyiter h.typeIs ?_;refine(show ge (g9 prog w) _ (setField (.ref it) 1 (j4<|(i:Int)+1) >>= _) _ _ s from u4<|MA B a (by simp) ?_);have b:(s.heap.update it (Obj.mapFields (·.setIfInBounds 1 (j4<|(i:Int)+1)))).IsKeyIter it d (i+1) es.size ep:=by refine⟨_,Lw _ B<|Obj.isFreed_of_fields<|Qo a _,(Obj.cls_mapFields ..).trans f,?_⟩;rw[Qo a];simp[j4]
 refine u4 (F7 (u4 (wpAny_isOneOf_keyiter (s:={ s with heap:=s.heap.update it (Obj.mapFields (·.setIfInBounds 1 (j4<|(i:Int)+1))) }) b.typeIs ?_)));refine(show ge (g9 prog w) _ (pure es[i].key) _ _ _ from ?_);exact u8<|u8 ⟨_,rfl,u8<|e _ b<|LD ..⟩
theorem Gn(g:A.handled=a8)(h:s.heap.IsKeyIter it d es.size es.size ep)(i:fI s.heap d es ep)(f:∀h',Heap.ExtBut it s.heap h'->Q a8 { s with heap:=h' }):ge (g9 prog w) A (j1<|.ref it) Q E s:=by
 obtain⟨o,B,j,c⟩:=id h;obtain⟨l,k,C,e⟩:=id i;unfold j1;refine u4<|Mi<|LS (name:=u7 "__next__") h.typeIs F.slot_dict_keyiterator_next<|J4 F.slot_dict_keyiterator_next h.typeIs F.entry_dict_keyiterator_next ?_<|F.args_dict_keyiterator_next_1 _;refine u4<|u8<|u4<|u4 ?_
 first|refine u4 (QK h.typeIs<|u8<|u4<|Mj B c ?_)|refine u4<|QF h.typeIs<|u8<|u4<|Mj B c ?_
 simp only[show Pv "dict_keyiterator" = bt by decide,A8,t7];refine(show ge (g9 prog w) _ (if (E6 d==J2)=a9 then _ else _) _ _ s from ?_);rw[r9<|by exact MQ];refine u4<|u8<|u4<|Np k e ?_;rw[r9<|by simp];refine u4<|u8<|u4<|Ol k e ?_;rw[r9<|by simp];refine u8 ?_;simp only[show ¬((es.size:Int)<0)from by lia,t7,Ld,Os<|w5 es.size];refine u4 ?_
 first|refine u4 (QK h.typeIs<|u8 ?_)|refine u4<|QF h.typeIs<|u8 ?_
 refine(show ge (g9 prog w) _ (setField (.ref it) 0 .none >>= _) _ _ s from u4<|MA B c (by simp) ?_);refine(show ge (g9 prog w) _ (newExc (.type "StopIteration") [] >>= _) _ _ _ from u4 ?_);simp only[newExc,newTuple];refine u4 (K3 ?_<|by size_fits);refine u4 (m:=o6 _ _)<|N8 (a:=J2) (by first|rfl|(simp only[o6];rfl)) ?_;refine K3 ?_ (by size_fits);simp only[raiseNew];refine u4<|wpAny_handled ?_;rw[show A.in1.handled=a8 from g];refine u4<|u8<|wpAny_throw ?_;refine u4<|Nn (b:=a9) (T:="StopIteration") ⟨_,C5 _ rfl,rfl⟩ O3 ?_;exact u8<|f _<|((LD ..).extBut.push _).push _
end
noncomputable def Ite(a:d5)(n:Nat):It:=⟨λi H=>∃xs,H a=a7 (.ext<|dX a xs)/\xs.length=n/\i<n,λi H v H'=>H'=H/\∀xs,H a=a7 (.ext<|dX a xs)->∃x,xs[i]?=a7 x/\v=.ref x.2.1,λi H=>(∃xs,H a=a7 (.ext<|dX a xs)/\xs.length=n)/\i=n⟩
section
variable{X:Cx}{pins:List (d5×d6)}{σ:St}{H:Hp}{s:f7}
theorem vY(I:u6 X pins σ H s)(b:H a=a7 (.ext<|dX a xs)):∃es,fI s.heap a es xs.length/\es.size=xs.length/\∀(i:Nat) x,xs[i]?=a7 x->∃e,es[i]?=a7 e/\e.key=.ref x.2.1/\e.val=x.2.2:=by
 obtain⟨o,es,h1,h2,h,d⟩:=Ee I b;refine⟨es,⟨o,h1,h2,h⟩,?_,λi x c=>?_⟩;have:=t9 Lz d
 rwa [F9,x3]at this
 refine⟨⟨A6 X.w 8 x.1,.ref x.2.1,x.2.2⟩,?_,rfl,rfl⟩;rw[<-J5,d,D8,c];rfl
theorem vX(x:fI h a es ep)(y:fI h a es' ep'):es=es'/\ep=ep':=by obtain⟨o,h1,_,d⟩:=x;obtain⟨o',c,_,b⟩:=y;obtain rfl:o=o':=C7<|h1.symm.trans c;rw[d]at b;injection b with e1 e2;exact⟨e1,e2⟩
end
theorem Bf{P:c9}{w:c8}{K:v6}{tg:g7}(a it:d5)(n:Nat):Turn P w K tg (Ite a n) [it] it (λi h=>h.IsKeyIter it a i n n) where
 mem:=by simp
 obj:=λi h t b f=>by
  obtain rfl:b=it:=by simpa using f
  obtain⟨o,e,c,d⟩:=t;exact⟨o,e,λv z=>by rw[d]at z;cases z⟩
 keep:=λi h h' t k=>t.at λo e=>k it (by simp) o e
 item:=by
  intro X L M J U i p s σ H E I m t R;subst L M J;obtain⟨xs,G,rfl,hi⟩:=R;obtain⟨es,F,l,T⟩:=vY I G;obtain⟨e,N,O,e3⟩:=T i xs[i]<|z9 hi;obtain⟨x,y,f2,B,C,D⟩:=m it (by simp);have g:i<es.size:=by lia
  have S:es[i]=e:=by rw[KY g]at N;exact C7 N
  rw[<-l]at F t;refine CL t F g λh' j sb=>?_;rw[S,O];have Y:u6 X p σ H { s with heap:=h' }:=I.turned (t':=s.toks) (λb o f e=>(sb.2 b f).trans e) x y B C D;obtain⟨o,q1,q2,q3⟩:=id j;refine⟨_,rfl,zR (s:={ s with heap:=h' }) q1 q2 q3 (by decide) ⟨.ref xs[i].2.1,H,Y,rfl,⟨rfl,λys hy=>?_⟩,by rw[l]at j;exact j,λb f=>(m b f).1⟩⟩;obtain⟨ab,u,Z,r⟩:=vY I hy;obtain⟨rfl,ep⟩:=vX F u;have V:i<ys.length:=by lia
  obtain⟨e',W,q,_⟩:=r i ys[i]<|z9 V;rw[KY g,S]at W;obtain rfl:=C7 W;rw[O]at q;injection q with q;exact⟨ys[i],z9 V,by rw[q]⟩
 done:=by intro X L M J U i p s σ H E I m t R;subst L M J;obtain⟨⟨xs,G,rfl⟩,rfl⟩:=R;obtain⟨es,F,l,T⟩:=vY I G;obtain⟨x,y,f2,B,C,D⟩:=m it (by simp);rw[<-l]at F t;exact Gn (I.ok.hd U) t F λh' he=>⟨rfl,I.turned (t':=s.toks) (λb o f e=>he b o f e) x y B C D⟩
 self:=λA i s Q E t hQ=>wpAny_pyIter_keyiter t hQ
section
variable{X:Cx}{tg:g7}
def wb(t:x9):LJ:=λS M R=>t S M λd a=>match d with
 |.ref n=>∃kvs,a[n]?=a7 (.dkt kvs)/\(kvs.length<=sizeLine->R ⟨kvs.map (·.1),λM=>M[n]?=a7 (.dkt kvs)⟩ a)
 |_=>False
theorem CU{l:g7}{J:x9}(T:DE X l J):DI X tg l (wb J):=by
 intro m s σ H R I h;obtain⟨S,M,ρ,Q,sm,sr,q,k⟩:=h;refine x6 (T m s σ H _ I ⟨S,M,ρ,_,sm,sr,q,λv H' w=>w⟩) ?_;rintro u C ⟨v,H1,c,rv,d,D,F,A,g1,Z,G⟩;cases Z with
 |@ref n a B =>
  cases rv;obtain⟨kvs,O,Y⟩:=(show ∃kvs,D[n]?=a7 (.dkt kvs)/\(kvs.length<=sizeLine->Q ⟨kvs.map (·.1),λM=>M[n]?=a7 (.dkt kvs)⟩ D)from G)
  obtain⟨xs,N,r,dd,U,V,hx,nd⟩:=jF c A B O;obtain⟨es,L,K,_⟩:=vY c N;refine CM U L ?_;rw[K];refine⟨C.heap.objs.size,[C.heap.objs.size],_,_,H1,rfl,c.kept (t':=C.toks) λb o e=>z6 _ e,Bf a _ xs.length,⟨_,C5 _ rfl,rfl,rfl⟩,λb P=>?_,k _ H1 ⟨⟨kvs.map (·.1),λM=>M[n]?=a7 (.dkt kvs)⟩,D,F,A,g1,?_,Y V⟩⟩;obtain rfl:b=C.heap.objs.size:=by simpa using P
  exact c.fpOk (w5 _)<|c.hok.fresh<|w5 _;refine⟨λi ρ' M' H' s' g ok hi=>?_,λi ρ' M' H' x H2 s' g ok hi y=>?_,λρ' M' H' s' g ok=>?_⟩;obtain⟨_,_,_,ys,j,t⟩:=s'.obj _ _ _ (ax g.pre B) ok;have W:ys.length=kvs.length:=by have:=t9 Lz<|dZ t;rwa [x3,x3]at this
  exact⟨ys,j,by lia,by rw[x3]at hi;lia⟩;obtain⟨rfl,f⟩:=y;obtain⟨_,_,_,ys,j,t⟩:=s'.obj _ _ _ (ax g.pre B) ok;obtain⟨z,E,rfl⟩:=f ys j;obtain⟨p,hp,_,_,rp,_⟩:=cR t E;exact⟨p.1,ρ',by rw[D8,hp];rfl,s',.refl,rp⟩;obtain⟨_,_,_,ys,j,t⟩:=s'.obj _ _ _ (ax g.pre B) ok;have W:ys.length=kvs.length:=by have:=t9 Lz<|dZ t;rwa [x3,x3]at this
  exact⟨⟨ys,j,by lia⟩,by rw[x3];lia⟩
 |_=>exact G.elim
end
section
variable{X:Cx}{o:g7}{to:x9}{apos cpos p pos:i3}{k:Nat}
def Bv:F6:=λx y M Q=>match x,y with
 |.tup ks,.ref n=>∃kvs,M[n]?=a7 (.dkt kvs)/\cw 8 (.tup ks)=a9/\Q (.bl (aH kvs<|.tup ks).isSome) M
 |_,_=>False
def oy:F6:=λx y M Q=>match x,y with
 |.tup ks,.ref n=>∃kvs,M[n]?=a7 (.dkt kvs)/\cw 8 (.tup ks)=a9/\Q (.bl<|!(aH kvs<|.tup ks).isSome) M
 |_,_=>False
theorem IL(i:Room k X.A):G1 X (j7 .In) Bv:=by
 rintro p s σ H G J v u R I o z ⟨x,y,M,ρ,Q,m,j,l,q,D⟩;have F:=i.un;cases x with
 |tup c =>
  cases y with
  |ref n =>
   obtain⟨kvs,h,g,q⟩:=q;obtain⟨a,rfl,f⟩:=v7.inv_ref l;cases z;obtain⟨xs,B,r,d,U,C,E,_⟩:=jF I m f h;have t:=cP I 8 _ _ _ j o g;obtain⟨b,_,rfl,_⟩:=id t;refine wpAny_in_heap (knd:=aQ X.prog X.w) (k:=.tup c) (by show X.A.units+1+8<j9;lia) t U d ?_;have e:(o0 xs<|.tup c).isSome=(aH kvs<|.tup c).isSome:=by rcases lW r (.tup c)with⟨z1,z2⟩|⟨_,_,_,z1,z2,_⟩<;>rw[z1,z2]<;>rfl
   rw[e];exact dD (I.tok _) m D q
  |_=>exact q.elim
 |_=>exact q.elim
theorem yT(i:Room k X.A):G1 X (j7 .NotIn) oy:=by
 rintro p s σ H G J v u R I o z ⟨x,y,M,ρ,Q,m,j,l,q,D⟩;have F:=i.un;cases x with
 |tup c =>
  cases y with
  |ref n =>
   obtain⟨kvs,h,g,q⟩:=q;obtain⟨a,rfl,f⟩:=v7.inv_ref l;cases z;obtain⟨xs,B,r,d,U,C,E,_⟩:=jF I m f h;have t:=cP I 8 _ _ _ j o g;obtain⟨b,_,rfl,_⟩:=id t;refine wpAny_notIn_heap (knd:=aQ X.prog X.w) (k:=.tup c) (by show X.A.units+1+8<j9;lia) t U d ?_;have e:(o0 xs<|.tup c).isSome=(aH kvs<|.tup c).isSome:=by rcases lW r (.tup c)with⟨z1,z2⟩|⟨_,_,_,z1,z2,_⟩<;>rw[z1,z2]<;>rfl
   rw[e];exact dD (I.tok _) m D q
  |_=>exact q.elim
 |_=>exact q.elim
def wa:u9:=λ_ _ _=>False
theorem CO{st:i6}:DS X st wa:=λp s σ H E I ⟨S,M,ρ,F,m,c,q,D⟩=>q.elim
end
section
variable{X:Cx}{o i e:g7}{to ti te:x9}{pos pos' p apos cpos:i3}{k:Nat}{tg:g7}{es:List g7}{t:E8}{st:i6}
theorem Jr:HE X (.Dict [] [] pos) su:=⟨Kx⟩
theorem Js(r:Room k X.A)(B:HE X o to)(hi:HE X i ti)(hs:Hc i:=by intro _ _;kernel_rfl):HE X (.Subscript o i pos) (eQ to ti):=⟨Ky r B.ok hi.ok hs⟩
theorem zu(r:Room k X.A)(B:HE X o to)(hi:HE X i ti)(c:HE X e te)(hs:i8 e (a7<|.Subscript o i pos') pos.line X.env=pure bt:=by kernel_rfl):HS X (.Assign [.Subscript o i pos'] e pos) (md to ti te):=⟨Gr r B.ok hi.ok c.ok hs⟩
theorem FQ(i:Room k X.A)(B:HE X o to)(f:HA X (e::es) t)(h:m9 o "get" X.env (eval o X.env)=eval o X.env:=by kernel_rfl)(w:((i4 cpos<|i5 (e::es) X.env).all (λx=>!x.1)&&(n5 cpos<|n6 [] X.env).all (λx=>x.1.isSome) && decide ((e::es).length+([]:List l8).length+(if ([]:List l8).isEmpty then 0 else 1)<30))=a9:=by kernel_rfl)(a:(apos.endLine==cpos.line)=a9:=by kernel_rfl) (hs:i5 (e::es) X.env=(bt,eval e X.env)::i5 es X.env:=by kernel_rfl) (n:(i4 cpos<|i5 es X.env).any (·.1)=bt:=by kernel_rfl):HE X (.Call (.Attribute o "get" apos) (e::es) [] cpos) (PH qP to t):=⟨d_mt Qv PySem.F.type_dict_get (BO i) B.ok f.ok h w a hs n⟩
theorem Cg(h:HE X e te):HI X tg e (wb te):=⟨CU h.ok⟩
theorem JL(i:Room k X.A):G4 X (j7 .In) Bv:=⟨IL i⟩
theorem zJ(i:Room k X.A):G4 X (j7 .NotIn) oy:=⟨yT i⟩
theorem vS:HS X st wa:=⟨CO⟩
end
section
variable{X:Cx}{k:Nat}
theorem KL:e8 "max" = a7 (.builtin "max"):=by decide +kernel
end
end L2
namespace L2
open PySem PySem.Spec PyProof.Rows DL PySem.W PySem.Calls PyProof.V
def cH(h:d7)(it d:d5)(i n ep:Nat)(x a ok b:b7):Prop:=h.get? it=a7 { cls:=.type "dict_itemiterator",dict:=a8,data:=.fields #[x,a,.ref d,.int i 0,.int n 0,.int ep 0,ok,b],slots:=#[] }
def wq(h:d7)(it d S:d5)(i n ep:Nat):Prop:=∃x b ok v,cH h it d i n ep x b ok v/\((x=.none/\b=.bool bt)\/∃(a:d5) (f:Bool) (o:d6),x=j4 a/\b=.bool f/\h.get? a=a7 o/\a≠it/\a≠S)
section
variable{prog:c9}{w:c8}{A:f6}{E:b7->f7->Prop}{s:f7}{d:d5}{es:Array n9}{ep:Nat}
theorem zY(a:(d==d8)=bt)(m:fI s.heap d es ep)(b:Q (.ref s.heap.objs.size) { s with heap:=s.heap.push { cls:=.type "dict_items",data:=.fields #[.ref d] } }):ge (g9 prog w) A (call (.builtin "dict.items") [.ref d]) Q E s:=by refine OT PySem.F.slot_dict_items m.ty PySem.F.entry_dict_items (PySem.F.args_dict_items_1 _) (S:=λ_ R s'=>s'=s/\R (.ok<|.ret<|.ref s.heap.objs.size) { s with heap:=s.heap.push { cls:=.type "dict_items",data:=.fields #[.ref d] } }) (.of_wp ?_) ⟨rfl,b⟩;rintro A R s' ⟨rfl,h⟩;unfold Builtin.«dict.items»;refine u4 ?_;unfold Builtin.Dict.noArgs;refine u4<|NR m.ty<|u8 ?_;refine(show ge (g9 prog w) _ (Qu d >>= _) _ _ s' from ?_);unfold Qu;rw[a];exact u4<|u8<|u4<|K3<|u8 ⟨_,rfl,h⟩
theorem Aa(c:s.heap.IsItemsView v d)(m:fI s.heap d es ep)(b:Q (.ref s.heap.objs.size) { s with heap:=s.heap.push { cls:=.type "dict_itemiterator",data:=.fields #[.none,.bool bt,.ref d,.int 0 0,.int es.size 0,.int ep 0,.none,.none] } }):ge (g9 prog w) A (j3<|.ref v) Q E s:=by obtain⟨g,e,O,f⟩:=id c;obtain⟨o,h1,h2,a⟩:=m;refine Qi c.typeIs F.slot_dict_items_iter<|J4 F.slot_dict_items_iter c.typeIs F.entry_dict_items_iter ?_<|F.args_dict_items_iter_1 _;unfold Builtin.«dict_items.__iter__»;refine u4<|u8<|u4 ?_;unfold Builtin.Dict_items.dictOf;refine u4<|K2 e f (x:=.ref d) rfl<|u8<|u4 ?_;unfold Builtin.Dict_items.newIterator;refine u4<|Np h1 a<|u4<|Ol h1 a ?_;simp only[show Pv "dict_itemiterator" = a9 by decide,t8];exact K3 (u8 ⟨_,rfl,"dict_itemiterator",_,⟨_,C5 _ rfl,rfl⟩,F.slot_dict_itemiterator_next.lookup,by simpa [j4,RK]using b⟩)<|by simp only[sizeOk,RK,B7,D5,E5,G0,Mb];lia
theorem zZ(V:wq s.heap it d S i es.size ep)(hS:S<s.heap.objs.size)(hm:fI s.heap d es ep)(hi:i<es.size)(hQ:∀h',wq h' it d S (i+1) es.size ep->h'.get? s.heap.objs.size=a7 { cls:=.type "tuple",data:=.seq #[es[i].key,es[i].val] }->h'.objs.size=s.heap.objs.size+1 -> (∀b o,b≠it->s.heap.get? b=a7 o->h'.get? b=a7 o)->(∀ok ov,cH s.heap it d i es.size ep .none (.bool bt) ok ov->cH h' it d (i+1) es.size ep (j4 s.heap.objs.size) (.bool bt) es[i].key es[i].val)->Q (a7<|.ref s.heap.objs.size) { s with heap:=h' }):ge (g9 prog w) A (j1<|.ref it) Q E s:=by
 obtain⟨hp,g,r,u,t⟩:=s;obtain⟨x0,x1,ok,ov,h,W⟩:=V;obtain⟨od,Z,k2,k3⟩:=id hm;have m:My ⟨hp,g,r,u,t⟩ (.ref it) "dict_itemiterator":=⟨_,h,rfl⟩
 unfold j1;refine u4<|Mi<|LS (name:=u7 "__next__") m QO<|J4 QO m RL ?_<|RN _;refine u4<|u8<|u4<|u4 ?_
 first|refine u4 (QM m<|u8<|u4<|Mj h rfl ?_)|refine u4<|QH m<|u8<|u4<|Mj h rfl ?_
 simp only[show Pv "dict_itemiterator" = a9 by decide,t8];refine(show ge (g9 prog w) _ (if (E6 d==J2)=a9 then _ else _) _ _ _ from ?_);rw[r9<|by exact MQ];refine u4<|u8<|u4<|Np Z k3 ?_;rw[r9<|by simp];refine u4<|u8<|u4<|Ol Z k3 ?_;rw[r9<|by simp];refine u8 ?_;simp only[show ¬((i:Int)<0)from by lia,t7,Ld,KY hi];refine u4 ?_
 first|refine u4 (QM m<|u8 ?_)|refine u4<|QH m<|u8 ?_
 refine u4<|Re m ?_;refine(show ge (g9 prog w) _ (setField (.ref it) 3 (j4<|(i:Int)+1) >>= _) _ _ ⟨hp,g,r,u,t⟩from u4<|Mo h (by simp) λp he hs=>?_);have F:J6 it hp p:=hs;have D:cH p it d (i+1) es.size ep x0 x1 ok ov:=by unfold cH;rw[show ((i+1:Nat):Int)=(i:Int)+1 by lia];simpa [j4]using he
 have v:My ⟨p,g,r,u,t⟩ (.ref it) "dict_itemiterator":=⟨_,D,rfl⟩
 refine u4<|F7<|u4<|Re v<|u4<|Re v ?_;refine(show ge (g9 prog w) _ (RH (.ref it) 6 es[i].key es[i].val) _ _ ⟨p,g,r,u,t⟩from ?_);unfold RH;refine u4<|wpAny_newTuple ?_;have B:cH (p.push { cls:=.type "tuple",data:=.seq #[es[i].key,es[i].val] }) it d (i+1) es.size ep x0 x1 ok ov:=z6 _ D;generalize O:p.push { cls:=.type "tuple",data:=.seq #[es[i].key,es[i].val] }=hB at B;have Y:p.objs.size=hp.objs.size:=F.1;have q:it<hp.objs.size:=A0 h;have tB:hB.get? hp.objs.size=a7 { cls:=.type "tuple",data:=.seq #[es[i].key,es[i].val] }:=by rw[<-O,<-Y];exact C5 _ rfl
 have zB:hB.objs.size=hp.objs.size+1:=by rw[<-O,Lj,Y]
 have kB:∀b o,b≠it->hp.get? b=a7 o->hB.get? b=a7 o:=λb o k e=>by rw[<-O];exact z6 _<|F.extBut b o k e
 refine(show ge (g9 prog w) _ (RJ (.ref it) >>= _) _ _ ⟨hB,g,r,u,t⟩from ?_);rw[Y];have n:∀C:d7,wq C it d S (i+1) es.size ep->J6 it hB C->(∀ok ov,cH hp it d i es.size ep .none (.bool bt) ok ov->cH C it d (i+1) es.size ep (j4 hp.objs.size) (.bool bt) es[i].key es[i].val)->Q (a7<|.ref hp.objs.size) ⟨C,g,r,u,t⟩:=λC st U =>
  hQ C st (U.extBut _ _ (Mg q) tB) (by show C.objs.size=hp.objs.size+1;rw[U.1,zB]) λb o k e=>U.extBut b o k<|kB b o k e
 refine u4 ?_;unfold RJ;rcases W with⟨rfl,rfl⟩|⟨a,f,G,rfl,rfl,ga,j,y⟩
 refine u4<|K2 B rfl (x:=.none) rfl<|u8 ?_;simp only[t8];refine u4<|K2 B rfl (x:=ok) rfl<|u4<|K2 B rfl (x:=ov) rfl ?_;refine u4<|Mo B (by simp) λl N X=>?_;refine u4<|Mo (show cH l it d (i+1) es.size ep .none (.bool bt) es[i].key ov from N) (by simp) λR e4 s4=>?_;refine u4<|Mo (show cH R it d (i+1) es.size ep .none (.bool bt) es[i].key es[i].val from e4) (by simp) λT e5 s5=>?_;refine u4<|Mo (show cH T it d (i+1) es.size ep (j4 hp.objs.size) (.bool bt) es[i].key es[i].val from e5) (by simp) λM e6 s6=>?_;have p6:cH M it d (i+1) es.size ep (j4 hp.objs.size) (.bool bt) es[i].key es[i].val:=e6;have U:J6 it hB M:=by have c:J6 it hB l:=X;have J:J6 it l R:=s4;have K:J6 it R T:=s5;have L:J6 it T M:=s6;exact⟨by rw[L.1,K.1,J.1,c.1],λb k=>by rw[L.2 b k,K.2 b k,J.2 b k,c.2 b k]⟩
 exact u4<|wpAny_letGo<|u8<|u8 ⟨_,rfl,u8<|n M ⟨_,_,_,_,p6,.inr ⟨_,bt,_,rfl,rfl,U.extBut _ _ (Mg q) tB,Mg q,Mg hS⟩⟩ U λ_ _ _=>p6⟩;have P:hB.get? a=a7 G:=kB a G j ga;have no:∀{C:d7} (H I:b7),cH hp it d i es.size ep .none (.bool bt) H I->cH C it d (i+1) es.size ep (j4 hp.objs.size) (.bool bt) es[i].key es[i].val:=λH I z=>t4 (h.symm.trans z) (by simp[j4]);refine u4<|K2 B rfl (x:=j4 a) rfl ?_;refine(show ge (g9 prog w) _ (loadIfAlive ((a:Int).toNat) >>= _) _ _ _ from ?_);rw[Ld];refine u4<|kdx_alive P ?_;simp only[Option.isNone_some,A8,t7];refine u4<|K2 B rfl (x:=.bool f) rfl ?_;cases f with
 |true=>rw[r9<|show ¬((MH a9 != MH a9)=a9)from MQ];refine u8 ?_;simp only[A8,t7];exact u8<|u8 ⟨_,rfl,u8<|n hB ⟨_,_,_,_,B,.inr ⟨a,a9,G,rfl,rfl,P,j,y⟩⟩ (Heap.SameBut.refl _ _) no⟩
 |false=>rw[p9<|show (MH bt != MH a9)=a9 from rfl];refine u4<|Mo B (by simp) λl N X=>?_;have p3:cH l it d (i+1) es.size ep (j4 a) (.bool a9) ok ov:=N;have c:J6 it hB l:=X;refine u8 ?_;simp only[A8,t7];exact u8<|u8 ⟨_,rfl,u8<|n l ⟨_,_,_,_,p3,.inr ⟨a,a9,G,rfl,rfl,c.extBut a G j P,j,y⟩⟩ c no⟩
theorem CN(f:A.handled=a8)(t:wq s.heap it d S es.size es.size ep)(g:fI s.heap d es ep)(e:∀h',Heap.ExtBut it s.heap h'->Q a8 { s with heap:=h' }):ge (g9 prog w) A (j1<|.ref it) Q E s:=by
 obtain⟨n,x,ok,v,h,W⟩:=t;obtain⟨j,B,C,k⟩:=id g;have c:s.TypeIs (.ref it) "dict_itemiterator":=⟨_,h,rfl⟩
 unfold j1;refine u4<|Mi<|LS (name:=u7 "__next__") c QO<|J4 QO c RL ?_<|RN _;refine u4<|u8<|u4<|u4 ?_
 first|refine u4 (QM c<|u8<|u4<|Mj h rfl ?_)|refine u4<|QH c<|u8<|u4<|Mj h rfl ?_
 simp only[show Pv "dict_itemiterator" = a9 by decide,t8];refine(show ge (g9 prog w) _ (if (E6 d==J2)=a9 then _ else _) _ _ s from ?_);rw[r9<|by exact MQ];refine u4<|u8<|u4<|Np B k ?_;rw[r9<|by simp];refine u4<|u8<|u4<|Ol B k ?_;rw[r9<|by simp];refine u8 ?_;simp only[show ¬((es.size:Int)<0)from by lia,t7,Ld,Os<|w5 es.size];refine u4 ?_
 first|refine u4 (QM c<|u8 ?_)|refine u4<|QH c<|u8 ?_
 refine(show ge (g9 prog w) _ (setField (.ref it) 2 .none >>= _) _ _ s from u4<|MA h rfl (by simp) ?_);refine(show ge (g9 prog w) _ (newExc (.type "StopIteration") [] >>= _) _ _ _ from u4 ?_);simp only[newExc,newTuple];refine u4 (K3 ?_<|by size_fits);refine u4 (m:=o6 _ _)<|N8 (a:=J2) (by first|rfl|(simp only[o6];rfl)) ?_;refine K3 ?_ (by size_fits);simp only[raiseNew];refine u4<|wpAny_handled ?_;rw[show A.in1.handled=a8 from f];refine u4<|u8<|wpAny_throw ?_;refine u4<|Nn (b:=a9) (T:="StopIteration") ⟨_,C5 _ rfl,rfl⟩ O3 ?_;exact u8<|e _<|((LD ..).extBut.push _).push _
end
structure PairsAt(es:Array n9)(lo:d5)(h:d7)(as:List d5):Prop where
 nd:as.Nodup
 above:∀a∈as,lo<a
 tup:∀(j:Nat) (a:d5),as[j]?=a7 a->∃e,es[j]?=a7 e/\h.get? a=a7 { cls:=.type "tuple",data:=.seq #[e.key,e.val] }
end L2
namespace L2
open PySem PySem.Spec PyProof.Rows DL PySem.W
section
variable{X:Cx}
def HM:F6:=λx y M Q=>match x,y with
 |.int i,.int j=>CPow i j/\Q (.int<|i*2 ^ j.toNat) M
 |_,_=>False
theorem II:G1 X (j6 .LShift) HM:=by refine D7.imp Iy ?_;rintro f i H R ⟨x,y,M,ρ,Q,m,r,l,q,k⟩;unfold HM at q;split at q;cases r;cases l;exact⟨_,_,rfl,rfl,q.1,k _ H<|VQ.now m (.int _) q.2⟩;exact q.elim
theorem JH:G4 X (j6 .LShift) HM:=⟨II⟩
def yA:E1:=λds M Q=>match ds with
 | [.int i,.int j]=>Q (.int<|if j > i then j else i) M
 |_=>False
theorem GI(f:X.calm=a9):iO X (.builtin "max") yA:=by
 refine dH.imp (At f) ?_;rintro vs H R ⟨ds,M,ρ,Q,m,a,q,k⟩;unfold yA at q;split at q
 first|have z:=Reps.inv_cons a|have z:=aw.inv_cons a
 clear a;obtain⟨_,_,rfl,r,a⟩:=z
 first|have z:=Reps.inv_cons a|have z:=aw.inv_cons a
 clear a;obtain⟨_,_,rfl,l,a⟩:=z;cases a;cases r;cases l;exact⟨_,_,rfl,k _ H<|VQ.now m (.int _) q⟩;exact q.elim
theorem Gg(f:X.calm=a9:=by kernel_rfl):HC X (.builtin "max") yA:=⟨GI f⟩
theorem xp(i:Room k X.A):HC X (.builtin "sorted") iS:=⟨Ap i⟩
end
noncomputable def dictOf(ps:List (D×D)):List (D×D):=ps.foldl (λkvs p=>gx kvs p.1 p.2) []
theorem gR:dictOf (ps++[p])=gx (dictOf ps) p.1 p.2:=by unfold dictOf;rw[Qf];rfl
theorem rZ:∀(ps kvs:List (D×D)),(ps.foldl (λkvs p=>gx kvs p.1 p.2) kvs).length<=kvs.length+ps.length
 | [],_=>w5 _
 |p::ps,kvs=>by have h1:=rZ ps<|gx kvs p.1 p.2;have h2:=fM (kvs:=kvs) (k:=p.1) (d:=p.2);rw[List.foldl_cons,E5];lia
theorem ji:(dictOf ps).length<=ps.length:=by have:=rZ ps [];rw[G0,Nat.zero_add]at this;exact this
theorem iJ:entryFor table "dict.update.loop" = a7 Builtin.«dict.update.loop»:=entryFor_of_tree<|by kernel_rfl
theorem bN:plainId "dict.update.loop" = a9:=by decide +kernel
theorem jc:typeLookup (.type "list") "__getattr__" = pure a8:=by rw[O6,Pp];kernel_rfl
theorem mG:typeLookup (.type "list") "keys" = pure a8:=by rw[O6,Pp];kernel_rfl
section
variable{prog:c9}{w:c8}{A:f6}{E:b7->f7->Prop}{h:d7}{g:Array GenState}{d:Drawn}{t:Nat}{os:OsState}{a:d5}{o:d6}
theorem zd(x:h.get? a=a7 o)(i:o.cls=.type "list")(b:o.dict=a8)(c:o.data=.seq its nn)(f:A.handled=a8)(q:∀h' tk e,Heap.NewAttrErr h h' e (.ref a) "keys"->R (.error<|.ref e) ⟨h',g,d,tk,os⟩):k9 (g9 prog w) A (.call (.builtin "list.__getattribute__") ⟨[.ref a,.str "keys" u],[]⟩) R ⟨h,g,d,t,os⟩:=by
 obtain⟨j,k,B,G⟩:=o;obtain rfl:j=.type "list":=i;obtain rfl:k=a8:=b;obtain rfl:B=.seq its nn:=c;have m:(⟨h,g,d,t,os⟩:f7).TypeIs (.ref a) "list":=⟨_,x,rfl⟩
 have y:=mG;refine Pn QL.plain PySem.F.entry_list_ga<|QL.check _ _ _ _ _ _ _ _ m (PySem.F.args_list_getattribute_2 _ _) ?_;unfold Builtin.«object.__getattribute__»
 repeat (any_goals (first|assumption|wp_step))
 refine wpAny_raiseAttrError (o:=.ref a) (name:="keys") (by first|exact f|simpa using f) q ?_;exact attrMsg_fits (by decide +kernel)<|by size_fits
theorem tX(x:h.get? a=a7 o)(k:o.cls=.type "list")(c:o.dict=a8)(f:o.data=.seq its nn)(j:A.handled=a8)(q:∀h' tk,(∀b ob,h.get? b=a7 ob->h'.get? b=a7 ob)->Q a8 ⟨h',g,d,tk,os⟩):ge (g9 prog w) A (getAttr? (.ref a) "keys") Q E ⟨h,g,d,t,os⟩:=by
 obtain⟨l,n,B,G⟩:=o;obtain rfl:l=.type "list":=k;obtain rfl:n=a8:=c;obtain rfl:B=.seq its nn:=f;have m:∀tk,(⟨h,g,d,tk,os⟩:f7).TypeIs (.ref a) "list":=λ_=>⟨_,x,rfl⟩
 have p:=sub_AttributeError;have N:=QL.lookup;have r:=QL.bind<|.ref a;have s:=jc;unfold getAttr? getAttrBy? getAttrBy
 repeat (any_goals (first|assumption|exact m _|wp_step))
 refine zd x rfl rfl rfl (by first|exact j|simpa using j) λh' tk e i=>?_;obtain⟨t',u',u⟩:=i.there;unfold getattributeRaised
 repeat (any_goals (first|assumption|wp_step))
 exact q _ _ i.keeps
end
theorem dsetE(u:(aQ prog w).room A)(t:(aQ prog w).is s.heap k b)(r:s.heap.DictOfH (aQ prog w) d xs) (x:dX d xs prog w s.heap) (hz:xs.length<=sizeLine)(m:∀h',dX d (storedH xs k b v) prog w h'->J6 d s.heap h'->Q () { s with heap:=h',toks:=s.toks+(aQ prog w).draws k }):ge (g9 prog w) A (dictSet d (.ref b) v) Q E s:=by
 obtain⟨_,_,_,_,_,_,_,g,f⟩:=r;obtain⟨o,es,B,n,h,c⟩:=x;have i:es.toList=xs.map (d9<|aQ prog w):=c;unfold dictSet
 try with_reducible refine F7 ?_
 refine u4<|(aQ prog w).pyHash u t ?_;unfold dictSetHashed
 try with_reducible refine F7 ?_
 have z:es.size=xs.length:=size_of_entries i;refine u4<|wpAny_dictFind_heap (s:={ s with toks:=s.toks+(aQ prog w).draws k }) u t B h i g f (λa=>?_) λj p L=>?_;refine u4<|Lq<|wpAny_updateDictKeys (hz:=by lia) (s:={ s with toks:=s.toks+(aQ prog w).draws k }) B h<|m _ ⟨_,es.push ⟨(aQ prog w).hash k,.ref b,v⟩,Lw _ B<|Pk<|Oq h _,n.mapDictKeys _,?_,?_⟩<|LD ..;rw[Oq h,storedH_new<|Qh a,D5];rfl;rw[storedH_new<|Qh a];rw[Array.toList_push,i,LC];rfl;refine u4<|Lq<|u4<|wpAny_updateDict (s:={ s with toks:=s.toks+(aQ prog w).draws k }) B h<|wpAny_point<|m _ ⟨_,es.modify j λe=>{ e with val:=v },Lw _ B<|Pk<|Qb h _,n.mapDict _,?_,?_⟩<|LD ..;rw[Qb h,storedH_old<|Oa f L,x3];rw[storedH_old<|Oa f L];have q:=modify_map_putAt (d9<|aQ prog w) (λe:n9=>{ e with val:=v }) k v (λ_ _=>rfl) f L;rw[<-i]at q;obtain⟨l⟩:=es;have y:(Array.modify ⟨l⟩ j λe:n9=>{ e with val:=v }).toList=(xs.map<|putAt k v).map (d9<|aQ prog w):=by simpa using q
 exact y
section
variable{X:Cx}{pins:List (d5×d6)}{σ:St}{H:Hp}{ρ:List d5}{M:v5}{A:f6}{E:b7->f7->Prop}{s:f7}
structure DD(X:Cx)(ρ:List d5)(H:Hp)(h:d7)(a:d5)(kvs:List (D×D))(xs:List (D×d5×b7)):Prop where
 dx:dX a xs X.prog X.w h
 kv:Paired (pE X.K ρ H) kvs xs
 nd:(kvs.map (·.1)).Nodup
theorem DD.at(x:DD X ρ H h a kvs xs)(k:∀o,h.get? a=a7 o->h'.get? a=a7 o):DD X ρ H h' a kvs xs:=by obtain⟨⟨o,es,t,l,Q,J⟩,v,d⟩:=x;exact⟨⟨o,es,k _ t,l,Q,J⟩,v,d⟩
theorem DD.len(x:DD X ρ H h a kvs xs):xs.length=kvs.length:=by
 have:=t9 Lz<|dZ x.kv
 rwa [x3,x3]at this
theorem DD.of(I:u6 X pins σ H s)(x:DD X ρ H s.heap a kvs xs):s.heap.DictOfH (aQ X.prog X.w) a xs:=by obtain⟨o,es,t,l,Q,J⟩:=x.dx;have Z:=dZ x.kv;refine⟨o,es,_,t,l,Q,J,λy h=>?_,by rw[Z];exact x.nd⟩;obtain⟨i,hi⟩:=LR h;obtain⟨p,_,b,g,j,_⟩:=cR x.kv hi;rw[<-b];exact cP I 8 _ _ _ j rfl g
theorem Ai(I:u6 X pins σ H s)(hu:A.units+20<j9)(W:Walks X.prog X.w A.in1 J fp wr m P Sx)(S:d5)(x:S∉fp)(N:s.heap.get? S=a8) (E:∀b∈wr,s.heap.get? b=a8) (ps:List (D×D)) (hm:ps.length=m) (C:∀i v,P i v->∃p,ps[i]?=a7 p/\(∃vv,v7 X.K ρ H (.tup [p.1,p.2]) vv/\aJ vv v)/\cw 8 p.1=a9/\fx p.1=a9) (hb:m<=1000):∀(k i:Nat) (h:d7) (tk:Nat) (xs:List (D×d5×b7)) (j:Int) (t:Tok),m-i=k->i<=m->Sx i h->DD X ρ H h S (dictOf<|ps.take i) xs->(∀b u,s.heap.get? b=a7 u->h.get? b=a7 u) ->(∀h' tk xs',(∀b u,s.heap.get? b=a7 u->h'.get? b=a7 u)->DD X ρ H h' S (dictOf ps) xs'->R (.ok<|.ret .none) { s with heap:=h',toks:=tk }) ->k9 (g9 X.prog X.w) A (.builtin "dict.update.loop" ⟨[.ref S,.ref J,.int j t,.none],[]⟩) R { s with heap:=h,toks:=tk }:=by
 have y:S∉wr:=λh=>x<|W.sub _ h;intro k;induction k with
 |zero =>
  intro i h tk xs j t hk hi q G f Z;obtain rfl:i=m:=by lia
  refine MB iJ ?_;rw[Nc bN _];refine(show ge (g9 X.prog X.w) A.in1 (j1 (.ref J) >>= _) _ _ _ from u4<|W.done _ _ _ q λh' tk d=>?_);rw[<-hm,LO]at G;refine(show ge (g9 X.prog X.w) A.in1 (Builtin.Dict.addKeywords S [] >>= _) _ _ _ from u4<|u8<|u8 ?_);exact Z h' tk xs (λb u e=>d b u (λz=>by rw[E b z]at e;cases e)<|f b u e)<|G.at λo e=>d S o y e
 |succ k ih =>
  intro i h tk xs j t hk hi q G f Z;refine MB iJ ?_;rw[Nc bN _];refine(show ge (g9 X.prog X.w) A.in1 (j1 (.ref J) >>= _) _ _ _ from u4<|W.item i _ _ _ (by lia) q λv h' tk hP B d=>?_);obtain⟨p,hp,⟨vv,r,rv⟩,kd,it⟩:=C i v hP;have n:∀b u,s.heap.get? b=a7 u->h'.get? b=a7 u:=λb u e=>d b u (λz=>by rw[E b z]at e;cases e)<|f b u e;have L:u6 X pins σ H { s with heap:=h',toks:=tk }:=I.kept n;have c:=G.at λo e=>d S o y e;have hl:=c.len;have dl:=ji (ps:=ps.take i);have dd:=c.of (s:={ s with heap:=h',toks:=tk }) L;obtain⟨a,vs,rfl,hq,l⟩:=v7.inv_tup r;cases rv
  first|have g:=Reps.inv_cons l|have g:=aw.inv_cons l
  clear l;obtain⟨_,_,rfl,r1,l⟩:=g
  first|have g:=Reps.inv_cons l|have g:=aw.inv_cons l
  clear l;obtain⟨_,_,rfl,r2,l⟩:=g;cases l;obtain⟨its,U,pl,hz⟩:=L.tuple hq;obtain⟨u1,u2,rfl,Y,e2⟩:=aw.two U;obtain⟨k0,d0⟩:=p;cases k0 with
  |tup ks =>
   have F:=cP L 8 _ _ _ r1 Y kd;obtain⟨b,_,rfl,_⟩:=id F;obtain⟨_,_,rfl,Q,V⟩:=v7.inv_tup r1;cases Y;obtain⟨o,ho,hc,nn,hd⟩:=pl;have hT:({ s with heap:=h',toks:=tk }:f7).TypeIs (.ref a) "tuple":=⟨o,ho,hc⟩
   refine u4<|F7<|u4<|wpAny_tryCatch ?_;unfold Builtin.Dict.pairItems;refine u4<|Mw hT ?_;rw[p9<|by decide];refine u4<|LB ho hd<|u8 ?_;refine(show ge (g9 X.prog X.w) _ (i7 [.ref b,u2]<|dictSet S (.ref b) u2) _ _ _ from F7 ?_);refine dsetE (k:=.tup ks) (s:={ s with heap:=h',toks:=tk }) (by show A.units+1+8<j9;lia) F dd c.dx (ao<|by rw[hl];rw[Lc]at dl;lia) λh2 M sb=>?_;have k2:∀b u,b≠S->h'.get? b=a7 u->h2.get? b=a7 u:=λb u hb e=>(sb.2 b hb).trans e;have T:=DP c.kv kd (.tup Q V) r2 e2;have et:ps.take (i+1)=ps.take i++[(.tup ks,d0)]:=by rw[L6,hp];rfl
   refine u8 ⟨ML bN _,ih (i+1) h2 _ _ _ _ (by lia) (by lia) (W.frame _ h' h2 B λb' O o e=>k2 b' o (λz=>x<|z ▸ O) e) ⟨M,?_,?_⟩ (λb u e=>k2 b u (λz=>by rw[z,N]at e;cases e)<|n b u e) Z⟩;rw[et,gR];exact T;rw[et,gR];exact oA c.nd
  |_=>cases it
theorem GL(I:u6 X pins σ H s)(Y:A.units+30<j9)(B:A.handled=a8)(C:s.heap.IsList l its)(f:s.heap.get? l=a7 ol)(t:ol.dict=a8)(ps:List (D×D))(P:ps.length=its.size)(y:∀(i:Nat) v,its[i]?=a7 v->∃p:D×D,ps[i]?=a7 p/\(∃vv,v7 X.K ρ H (.tup [p.1,p.2]) vv/\aJ vv v)/\cw 8 p.1=a9/\fx p.1=a9) (O:its.size<=1000)(h:∀h' tk xs,(∀b u,s.heap.get? b=a7 u->h'.get? b=a7 u)->DD X ρ H h' s.heap.objs.size (dictOf ps) xs->Q (.ref s.heap.objs.size) { s with heap:=h',toks:=tk }):ge (g9 X.prog X.w) A (call (.type "dict") [.ref l]) Q E s:=by
 refine callType_codes (Q₁:=λj s₁=>j=.ref s.heap.objs.size/\s₁={ s with heap:=s.heap.push { cls:=.type "dict",data:=.dict #[] } }) Rc (Rp _) Ri (kt_code_dict_new _ ⟨rfl,rfl⟩) ?_;rintro j s₁ ⟨rfl,rfl⟩;have S:(s.heap.push { cls:=.type "dict",data:=.dict #[] }).get? s.heap.objs.size=a7 { cls:=.type "dict",data:=.dict #[] }:=C5 _ rfl;have z:My { s with heap:=s.heap.push { cls:=.type "dict",data:=.dict #[] } } (.ref s.heap.objs.size) "dict":=⟨_,S,rfl⟩
 obtain⟨a,N,r,Z,m⟩:=id C;obtain rfl:a=ol:=C7<|N.symm.trans f;have c:(s.heap.push { cls:=.type "dict",data:=.dict #[] }).get? l=a7 a:=z6 _ f;have L:My { s with heap:=s.heap.push { cls:=.type "dict",data:=.dict #[] } } (.ref l) "list":=⟨a,c,r⟩
 have U:l<s.heap.objs.size:=A0 f;refine⟨z,Rm _ _,?_⟩;unfold Builtin.«dict.__init__»;refine u4 ?_;unfold Rl;refine u4<|NR z ?_;refine(show ge _ _ (pure (s.heap.objs.size,[E6 l])) _ _ _ from u8 ?_);refine(show ge _ _ (Ov "dict.__init__" s.heap.objs.size (.ref l) [] .none) _ _ _ from ?_);unfold Ov;refine u4<|Mw L ?_;rw[p9<|by decide];refine u4<|tX c r t m (by simpa using B) λh1 x F=>?_;have k:∀b u,s.heap.get? b=a7 u->h1.get? b=a7 u:=λb u e=>F b u<|z6 _ e;rw[p9<|show (a8:Option b7).isNone=a9 from rfl];refine u4<|Lq ?_;obtain⟨oI,St,n,W,V⟩:=(TxSrc.list (prog:=X.prog) (w:=X.w) C).iter A.in1.in1 { s with heap:=h1,toks:=x } (by simpa using B) λo e=>k _ _ e;refine u4<|n _ _ ?_;have d:=F _ _ S;have J:s.heap.objs.size<h1.objs.size:=A0 d;have G:s.heap.get? s.heap.objs.size=a8:=by
  cases q:s.heap.get? s.heap.objs.size with
  |none=>rfl
  |some o=>exact t4 (A0 q)<|G8 _
 refine u8 ⟨ML bN _,Ai (A:=A.in1) (s:=s) I (by show A.units+1+20<j9;lia) W s.heap.objs.size ?_ G ?_ ps P y O its.size 0 _ _ [] _ _ rfl (C4 _) V ⟨⟨_,#[],z6 _ d,⟨rfl,rfl,rfl⟩,rfl,rfl⟩,.nil,Og⟩ (λb u e=>z6 _<|k b u e) λh2 T xs R M=>⟨rfl,h h2 T xs R M⟩⟩;simp only[A4,LN,or_false,not_or];exact⟨A3 J,Mg U⟩;intro b g;rw[K4.mp g];cases q:s.heap.get? h1.objs.size with
 |none=>rfl
 |some o=>exact t4 (OV (A0 q) J)<|G8 _
end
section
variable{X:Cx}{k:Nat}
def lh:E1:=λds M Q=>match ds with
 | [.ref n]=>∃ps:List (D×D),am M n (ps.map λp=>.tup [p.1,p.2])/\(∀p∈ps,cw 8 p.1=a9/\fx p.1=a9)/\ps.length<=1000/\Q (.ref M.length) (M++[.dkt<|dictOf ps])
 |_=>False
theorem Aq(G:Room k X.A)(C:X.calm=a9):iO X (.type "dict") lh:=by
 rintro w s σ H vs us R I W ⟨ds,M,ρ,Q,n,c,q,K⟩;have un:=G.un;unfold lh at q;split at q;obtain⟨ps,L,E,hl,q⟩:=q
 first|have z:=Reps.inv_cons c|have z:=aw.inv_cons c
 clear c;obtain⟨_,_,rfl,l,c⟩:=z;cases c;obtain⟨u,rfl,t⟩:=aw.one W;obtain⟨a,rfl,e⟩:=v7.inv_ref l;cases t;obtain⟨ws,F,r⟩:=am.seq n L e;obtain⟨its,y,x,hz⟩:=I.list F;obtain⟨oa,nn,j,D,b,h⟩:=id x;have O:=r.length;have li:=y.length;rw[x3]at O;have f:H s.heap.objs.size=a8:=I.hok.fresh<|w5 _;have B:(s.heap.objs.size==d8)=bt:=beq_eq_false_iff_ne.mpr<|A1<|A3 I.big;refine GL (A:=X.A) (ρ:=ρ) I (by lia) (I.ok.hd C) x.isList j b ps (by rw[B7];lia) (λi v J=>?_) (by rw[B7];lia) λh' Y xs N g=>?_;obtain⟨d,Z,t,l,m⟩:=kn r y (i:=i) (u:=v) (by simpa using J);rw[D8]at t;obtain⟨p,hp,rfl⟩:=Mp.mp t;exact⟨p,hp,⟨Z,l,m⟩,E p<|J7 hp⟩;have dl:=ji (ps:=ps);refine⟨.ref s.heap.objs.size,_,I.laid (a:=s.heap.objs.size) (o:=.ext<|dX s.heap.objs.size xs) (t':=Y) N (w5 _)<|oY g.dx,rfl,?_⟩;exact K _ _ ⟨.ref M.length,M++[.dkt<|dictOf ps],ρ++[s.heap.objs.size],n.laidM (mo:=.dkt<|dictOf ps) f ⟨ao (by lia),B,g.nd,xs,aK,Paired.mapP g.kv λ_ _ ⟨P,S,T,v,U,V⟩=>⟨P,S,T.grow<|Grow.laidR f,v,U.grow<|Grow.laidR f,V⟩⟩,Grow.laidR f,.ref n.last,q⟩;exact q.elim
theorem zN(i:Room k X.A)(f:X.calm=a9:=by kernel_rfl):HC X (.type "dict") lh:=⟨Aq i f⟩
end
noncomputable abbrev EE(M:v5)(R:DK):DEnds:=⟨λ_ M'=>aO M R .non M',aO M R,λ_ _=>False,λ_ _=>False⟩
noncomputable def QU(n:Nat)(ds:List D):SD:=ds.map a7++Nl (n-ds.length) a8
abbrev C8(Pr:A2)(n:Nat)(t:u9):Prop:=∀ds M R,Pr ds M R->t (EE M R) (QU n ds) M
abbrev da(Pr:A2)(p:List c7):Prop:=∀ds M R,Pr ds M R->ds.length=p.length
abbrev DerT(P:c9)(w:c8)(K:v6)(mg:c7->Option b7)(base:d7)(k:Nat)(x:c7)(N:List c7)(st:i6)(t:u9):Prop:=∀(f:d5) (cdv:b7) (A:f6) (outer:List Env) (s:f7) (H:Hp) (E:XK),Room k (A.deeper<|Q7 x (aq st) s.heap.objs.size f cdv)->HB (ph K0 P w K mg base N x (aq st) f cdv A outer s H E).nox (bx st) t
theorem nY:typeLookup (.type "tuple") "keys" = pure a8:=by rw[O6,Pp];kernel_rfl
section
variable{prog:c9}{w:c8}{A:f6}{E:b7->f7->Prop}{h:d7}{g:Array GenState}{d:Drawn}{t:Nat}{os:OsState}{a:d5}{o:d6}
theorem Bg(x:h.get? a=a7 o)(i:o.cls=.type "tuple")(b:o.dict=a8)(c:o.data=.seq its nn)(f:A.handled=a8)(q:∀h' tk e,Heap.NewAttrErr h h' e (.ref a) "keys"->R (.error<|.ref e) ⟨h',g,d,tk,os⟩):k9 (g9 prog w) A (.call (.builtin "tuple.__getattribute__") ⟨[.ref a,.str "keys" u],[]⟩) R ⟨h,g,d,t,os⟩:=by
 obtain⟨j,k,B,G⟩:=o;obtain rfl:j=.type "tuple":=i;obtain rfl:k=a8:=b;obtain rfl:B=.seq its nn:=c;have m:(⟨h,g,d,t,os⟩:f7).TypeIs (.ref a) "tuple":=⟨_,x,rfl⟩
 have y:=nY;refine Pn QN.plain PySem.F.entry_tuple_ga<|QN.check _ _ _ _ _ _ _ _ m (PySem.F.args_tuple_getattribute_2 _ _) ?_;unfold Builtin.«object.__getattribute__»
 repeat (any_goals (first|assumption|wp_step))
 refine wpAny_raiseAttrError (o:=.ref a) (name:="keys") (by first|exact f|simpa using f) q ?_;exact attrMsg_fits (by decide +kernel)<|by size_fits
theorem mP(x:h.get? a=a7 o)(k:o.cls=.type "tuple")(c:o.dict=a8)(f:o.data=.seq its nn)(j:A.handled=a8)(q:∀h' tk,(∀b ob,h.get? b=a7 ob->h'.get? b=a7 ob)->Q a8 ⟨h',g,d,tk,os⟩):ge (g9 prog w) A (getAttr? (.ref a) "keys") Q E ⟨h,g,d,t,os⟩:=by
 obtain⟨l,n,B,G⟩:=o;obtain rfl:l=.type "tuple":=k;obtain rfl:n=a8:=c;obtain rfl:B=.seq its nn:=f;have m:∀tk,(⟨h,g,d,tk,os⟩:f7).TypeIs (.ref a) "tuple":=λ_=>⟨_,x,rfl⟩
 have p:=sub_AttributeError;have N:=QN.lookup;have r:=QN.bind<|.ref a;have s:=PySem.am_tuple_getattr_none;unfold getAttr? getAttrBy? getAttrBy
 repeat (any_goals (first|assumption|exact m _|wp_step))
 refine Bg x rfl rfl rfl (by first|exact j|simpa using j) λh' tk e i=>?_;obtain⟨t',u',u⟩:=i.there;unfold getattributeRaised
 repeat (any_goals (first|assumption|wp_step))
 exact q _ _ i.keeps
end
section
variable{X:Cx}{pins:List (d5×d6)}{σ:St}{H:Hp}{ρ:List d5}{M:v5}{A:f6}{E:b7->f7->Prop}{s:f7}
theorem u6.tupN(I:u6 X pins σ H s)(h:B9 X.K H a xs):∃its:List b7,aw xs its/\Dr s.heap a its.toArray/\xs.length<=sizeLine:=by
 rcases h with h|⟨o,its,n,k,f,d,hs,b,r⟩
 obtain⟨z,its,r,p⟩:=h.ok I.hok;exact⟨its,r,p,z⟩;refine⟨its.toList,r,⟨o,I.kIn a o k,f,⟨n,by simpa using hs⟩,d⟩,?_⟩;have e:=r.length;simp only[F9]at e;lia
theorem Dj(I:u6 X pins σ H s)(Y:A.units+30<j9)(B:A.handled=a8)(C:s.heap.IsTuple l its)(f:s.heap.get? l=a7 ol)(t:ol.dict=a8)(ps:List (D×D))(P:ps.length=its.size)(y:∀(i:Nat) v,its[i]?=a7 v->∃p:D×D,ps[i]?=a7 p/\(∃vv,v7 X.K ρ H (.tup [p.1,p.2]) vv/\aJ vv v)/\cw 8 p.1=a9/\fx p.1=a9) (O:its.size<=1000)(h:∀h' tk xs,(∀b u,s.heap.get? b=a7 u->h'.get? b=a7 u)->DD X ρ H h' s.heap.objs.size (dictOf ps) xs->Q (.ref s.heap.objs.size) { s with heap:=h',toks:=tk }):ge (g9 X.prog X.w) A (call (.type "dict") [.ref l]) Q E s:=by
 refine callType_codes (Q₁:=λj s₁=>j=.ref s.heap.objs.size/\s₁={ s with heap:=s.heap.push { cls:=.type "dict",data:=.dict #[] } }) Rc (Rp _) Ri (kt_code_dict_new _ ⟨rfl,rfl⟩) ?_;rintro j s₁ ⟨rfl,rfl⟩;have S:(s.heap.push { cls:=.type "dict",data:=.dict #[] }).get? s.heap.objs.size=a7 { cls:=.type "dict",data:=.dict #[] }:=C5 _ rfl;have z:My { s with heap:=s.heap.push { cls:=.type "dict",data:=.dict #[] } } (.ref s.heap.objs.size) "dict":=⟨_,S,rfl⟩
 obtain⟨a,N,r,Z,m⟩:=id C;obtain rfl:a=ol:=C7<|N.symm.trans f;have c:(s.heap.push { cls:=.type "dict",data:=.dict #[] }).get? l=a7 a:=z6 _ f;have L:My { s with heap:=s.heap.push { cls:=.type "dict",data:=.dict #[] } } (.ref l) "tuple":=⟨a,c,r⟩
 have U:l<s.heap.objs.size:=A0 f;refine⟨z,Rm _ _,?_⟩;unfold Builtin.«dict.__init__»;refine u4 ?_;unfold Rl;refine u4<|NR z ?_;refine(show ge _ _ (pure (s.heap.objs.size,[E6 l])) _ _ _ from u8 ?_);refine(show ge _ _ (Ov "dict.__init__" s.heap.objs.size (.ref l) [] .none) _ _ _ from ?_);unfold Ov;refine u4<|Mw L ?_;rw[p9<|by decide];refine u4<|mP c r t m (by simpa using B) λh1 x F=>?_;have k:∀b u,s.heap.get? b=a7 u->h1.get? b=a7 u:=λb u e=>F b u<|z6 _ e;rw[p9<|show (a8:Option b7).isNone=a9 from rfl];refine u4<|Lq ?_;obtain⟨oI,St,n,W,V⟩:=(TxSrc.tuple (prog:=X.prog) (w:=X.w) C).iter A.in1.in1 { s with heap:=h1,toks:=x } (by simpa using B) λo e=>k _ _ e;refine u4<|n _ _ ?_;have d:=F _ _ S;have J:s.heap.objs.size<h1.objs.size:=A0 d;have G:s.heap.get? s.heap.objs.size=a8:=by
  cases q:s.heap.get? s.heap.objs.size with
  |none=>rfl
  |some o=>exact t4 (A0 q)<|G8 _
 refine u8 ⟨ML bN _,Ai (A:=A.in1) (s:=s) I (by show A.units+1+20<j9;lia) W s.heap.objs.size ?_ G ?_ ps P y O its.size 0 _ _ [] _ _ rfl (C4 _) V ⟨⟨_,#[],z6 _ d,⟨rfl,rfl,rfl⟩,rfl,rfl⟩,.nil,Og⟩ (λb u e=>z6 _<|k b u e) λh2 T xs R M=>⟨rfl,h h2 T xs R M⟩⟩;simp only[A4,LN,or_false,not_or];exact⟨A3 J,Mg U⟩;intro b g;rw[K4.mp g];cases q:s.heap.get? h1.objs.size with
 |none=>rfl
 |some o=>exact t4 (OV (A0 q) J)<|G8 _
end
section
variable{X:Cx}{k:Nat}
def qR:E1:=λds M Q=>match ds with
 | [.tup xs]=>∃ps:List (D×D),xs=ps.map (λp=>.tup [p.1,p.2])/\(∀p∈ps,cw 8 p.1=a9/\fx p.1=a9)/\ps.length<=1000/\Q (.ref M.length) (M++[.dkt<|dictOf ps])
 |_=>False
theorem Dg(F:Room k X.A)(B:X.calm=a9):iO X (.type "dict") qR:=by
 rintro l s σ H vs us R I V ⟨ds,M,ρ,Q,x,c,q,J⟩;have un:=F.un;unfold qR at q;split at q;obtain⟨ps,L,C,hl,q⟩:=q
 first|have z:=Reps.inv_cons c|have z:=aw.inv_cons c
 clear c;obtain⟨_,_,rfl,g,c⟩:=z;cases c;obtain⟨u,rfl,t⟩:=aw.one V;subst L;obtain⟨a,ws,rfl,E,r⟩:=v7.inv_tup g;cases t;obtain⟨its,w,n,hz⟩:=I.tupN E;obtain⟨oa,j,D,⟨nn,h⟩,b⟩:=id n;have N:=r.length;have li:=w.length;rw[x3]at N;have f:H s.heap.objs.size=a8:=I.hok.fresh<|w5 _;have y:(s.heap.objs.size==d8)=bt:=beq_eq_false_iff_ne.mpr<|A1<|A3 I.big;refine Dj (A:=X.A) (ρ:=ρ) I (by lia) (I.ok.hd B) n.tup j b ps (by rw[B7];lia) (λi v G=>?_) (by rw[B7];lia) λh' W xs K e=>?_;obtain⟨d,Z,t,g,m⟩:=kn r w (i:=i) (u:=v) (by simpa using G);rw[D8]at t;obtain⟨p,hp,rfl⟩:=Mp.mp t;exact⟨p,hp,⟨Z,g,m⟩,C p<|J7 hp⟩;have Y:=ji (ps:=ps);refine⟨.ref s.heap.objs.size,_,I.laid (a:=s.heap.objs.size) (o:=.ext<|dX s.heap.objs.size xs) (t':=W) K (w5 _)<|oY e.dx,rfl,?_⟩;exact J _ _ ⟨.ref M.length,M++[.dkt<|dictOf ps],ρ++[s.heap.objs.size],x.laidM (mo:=.dkt<|dictOf ps) f ⟨ao (by lia),y,e.nd,xs,aK,Paired.mapP e.kv λ_ _ ⟨O,P,S,v,T,U⟩=>⟨O,P,S.grow<|Grow.laidR f,v,T.grow<|Grow.laidR f,U⟩⟩,Grow.laidR f,.ref x.last,q⟩;exact q.elim
theorem CB(i:Room k X.A)(f:X.calm=a9:=by kernel_rfl):HC X (.type "dict") qR:=⟨Dg i f⟩
end
inductive TopB(mg:c7->Option b7):List c7->List (c7×Int)->Prop
 |nil:TopB mg [] []
 |b {x:c7}{B:List c7}{C:List (c7×Int)} (h:mg x=a8) (t:TopB mg B C):TopB mg (x::B) C
 |c {x:c7}{i:Int}{C:List (c7×Int)} (h:∃t,mg x=a7 (.int i t)) (t:TopB mg [] C):TopB mg [] ((x,i)::C)
theorem TopB.no(h:TopB mg B C)(c:B.contains x=a9):mg x=a8:=by
 induction h with
 |nil=>simp at c
 |b h _ i=>simp only[List.contains_cons,O7,t6]at c;rcases c with rfl|c;exact h;exact i c
 |c _ _ _=>simp at c
noncomputable def nodB:List c7->Bool
 | []=>a9
 |x::xs=>!xs.contains x&&nodB xs
theorem IP:∀{l:List c7},nodB l=a9->l.Nodup
 | [],_=>Og
 |x::xs,h=>by simp only[nodB,F3,Bool.not_eq_true',List.contains_eq_mem,decide_eq_false_iff_not]at h;exact La.mpr ⟨h.1,IP h.2⟩
noncomputable def tgN:g7->List c7
 |.Name x _=>[x]
 |.Tuple es _ _=>es.filterMap fun|.Name x _=>a7 x|_=>a8
 |_=>[]
noncomputable abbrev Ng(N:List c7)(js:List Nat)(tg:g7):List c7:=tgN tg++js.map λj=>N.getD j ""
section
variable{X:Cx}{tg iter elt:g7}{ifs:List g7}{scope:f8}{nt i:Nat}{js:List Nat}{di:LJ}{g:K7}{tt:J1}{te:x9}{pos pos' pos2:i3}{x:c7}
theorem k_lcN(hi:HI X tg iter di)(R:∀cl s0 H0 ex,HG (C6 X (Ng X.N js tg) scope cl s0 H0 ex) tg g)(D:∀cl s0 H0 ex,N1 (C6 X (Ng X.N js tg) scope cl s0 H0 ex) ifs tt)(i:∀cl s0 H0 ex,HE (C6 X (Ng X.N js tg) scope cl s0 H0 ex) elt te)(B:nS X.env.scope.names X.N (Ng X.N js tg) nt js scope=a9:=by kernel_rfl) (f:X.calm=a9:=by kernel_rfl) (hs:∀x,j5 iter X.env x=pure x:=by intro _;kernel_rfl):HE X (.ListComp elt [⟨tg,iter,ifs,0⟩] scope pos) (Lg nt js di g tt te):=k_lc hi R D i B f hs
theorem rV(a:X.N.Nodup)(hi:HI X tg iter di)(R:∀cl s0 H0 ex,HG (C6 X (Ng X.N js tg) scope cl s0 H0 ex) tg g)(D:∀cl s0 H0 ex,N1 (C6 X (Ng X.N js tg) scope cl s0 H0 ex) ifs tt)(e:∀cl s0 H0 ex,HE (C6 X (Ng X.N js tg) scope cl s0 H0 ex) elt te)(B:nS X.env.scope.names X.N (Ng X.N js tg) nt js scope=a9:=by kernel_rfl) (f:X.calm=a9:=by kernel_rfl) (hs:∀x,j5 iter X.env x=pure x:=by intro _;kernel_rfl) (w:i8 (.ListComp elt [⟨tg,iter,ifs,0⟩] scope pos) (a7<|.Name x pos') pos2.line X.env=pure a9:=by kernel_rfl)(h:X.N[i]?=a7 x:=by kernel_rfl) (c:Fu X.env.scope x=a9:=by kernel_rfl) (b:X.fn x=a9:=by kernel_rfl):HS X (.Assign [.Name x pos'] (.ListComp elt [⟨tg,iter,ifs,0⟩] scope pos) pos2) (gj nt js di g tt te i):=Cd a hi R D e B f hs w h c b
theorem gA(h:HA X es t):HA X es t:=h
theorem gE(h:HE X e te):HE X e te:=h
theorem gCall(h:HE X (.Call a b c pos) te):HE X (.Call a b c pos) te:=h
theorem gIx(h:HE X (.Subscript a b pos) te):HE X (.Subscript a b pos) te:=h
theorem JV(h:HE X (.Constant a b pos) te):HE X (.Constant a b pos) te:=h
theorem gT(h:HT X e tt):HT X e tt:=h
theorem gS{st:i6}{t:u9}(h:HS X st t):HS X st t:=h
theorem gOp(h:G4 X f r):G4 X f r:=h
theorem gC(h:HC X f r):HC X f r:=h
theorem Gi{b:List i6}{st:i6}{s:List i6}{t:u9}(h:b=st::s)(q:HB X (st::s) t):HB X b t:=h ▸ q
end
section
variable{P:c9}{w:c8}{K:v6}{mg:c7->Option b7}{base:d7}{x:c7}{st:i6}{N ps:List c7}{k:Nat}{Pr:A2}{B:List c7}{C:List (c7×Int)}{t:u9}
theorem x5.byD(T:TopB mg B C)(F:cz K mg x st ps)(e:FnScope N ps (aq st))(n:da Pr ps)(r:TopB mg B C->N.Nodup->DerT P w K mg base k x N st t)(p:∀ds M R,Pr ds M R->t (EE M R) (ci N ds) M):x5 P w K mg base (k+1) x ps Pr:=x5.byH F e n (r T e.nd) p
theorem CG(T:TopB mg B C)(F:Me K x x st f fd)(e:FnScope N ps (aq st))(n:da Pr ps)(r:TopB mg B C->N.Nodup->DerT P w K mg base k x N st t)(p:∀ds M R,Pr ds M R->t (EE M R) (ci N ds) M):FnOk P w K mg base K0 (k+1) f fd ps (LG K Pr):=CF F e n (r T e.nd) p
end
section
variable{X:Cx}{pins:List (d5×d6)}{σ:St}{H:Hp}{s:f7}{a:d5}
structure Rv(X:Cx)(pins:List (d5×d6))(H:Hp)(a:d5):Prop where
 un:H a=a8
 ne:a≠X.env.locals
 fs:a∉X.fs
 s0:X.s₀.heap.objs.size<=a
 cl:∀x c,X.env.cells.lookup x=a7 c->c≠a
 pn:∀p∈X.pn++pins,p.1≠a
end
section
variable{X:Cx}{pins:List (d5×d6)}{σ:St}{ρ:List d5}{M:v5}
structure KySt(X:Cx)(pins:List (d5×d6))(σ:St)(ρ:List d5)(M:v5)(m:c7->Option b7)(kS aD:d5)(e1:Nat)(H0 H:Hp)(s:f7)(ks:List b7)(e:Nat):Prop where
 inv:u6 X pins σ H s
 ns:s.heap.Ns X.env.locals m
 sm:w9 X.K ρ M H
 gr:Grow X.K ρ H0 ρ H
 hk:s.heap.get? kS=a7 (o5 "list" (OU ks) e)
 hd:s.heap.get? aD=a7 (o5 "list" #[] e1)
 ok:Rv X pins H kS
 od:Rv X pins H aD
 ne:aD≠kS
end
structure BlkScC(X:Cx)(N':List c7)(nt:Nat)(js:List Nat)(scope:f8):Prop where
 kind:scope.kind=.function
 kinds:∀y∈scope.names,scope.names.lookup y.1=a7 y.2
 free:∀y∈scope.names,y.2=.free->(X.env.kindOf y.1=a7 .cell\/X.env.kindOf y.1=a7 .free)
 len:N'.length=nt+js.length
 fr:∀(k j:Nat),js[k]?=a7 j->∃x,N'[nt+k]?=a7 x/\X.N[j]?=a7 x/\scope.names.lookup x=a7 .free/\(X.env.kindOf x=a7 .cell\/X.env.kindOf x=a7 .free)
structure CfOk(h:d7)(k:Nat)(names:List (c7×m3))(acc cs:List (c7×d5)):Prop where
 look:∀z c,cs.lookup z=a7 c->(acc.lookup z=a7 c/\(z,Nj)∉names)\/((z,Nj)∈names/\k<=c/\h.IsCell c a8)
 inj:∀y z c,cs.lookup y=a7 c->cs.lookup z=a7 c->y=z
 old:∀z c,acc.lookup z=a7 c->∃c',cs.lookup z=a7 c'
 new:∀z,(z,Nj)∈names->∃c,cs.lookup z=a7 c
def GB(i:Nat):K7:=af i
noncomputable def GC(kvs:List (D×D))(k:D):List (D×D):=kvs.filter λp=>!decide (p.1=k)
def sL(M:v5)(n:Nat)(kvs:List (D×D)):Prop:=M[n]?=a7 (.dkt kvs)\/∃e,M[n]?=a7 (.dkq e kvs)
theorem jE{α:Type}(f:α->D)(k:D):∀(l:List α) (j:Nat) (x:α),(l.map f).Nodup->l[j]?=a7 x->f x=k->l.eraseIdx j=l.filter λy=>!decide (f y=k)
 | [],j,x,_,h,_=>by simp at h
 |y::l,0,x,nd,h,e=>by
  obtain rfl:y=x:=by simpa using h
  rw[C9,La]at nd;rw[List.eraseIdx_cons_zero,Mm,r9<|by rw[e];simp];refine(Q9.mpr λz hz=>?_).symm;have:f z≠k:=λq=>nd.1 (by rw[e,<-q];exact MR hz);simp[this]
 |y::l,j+1,x,nd,h,e=>by
  rw[C9,La]at nd;have hx:l[j]?=a7 x:=by simpa using h
  have:f y≠k:=λq=>nd.1 (by rw[q,<-e];exact MR<|J7 hx);rw[Rh,Mm,p9 (by simp[this]),jE f k l j x nd.2 hx e]
theorem rA{α β:Type}(f:α->β):∀(l:List α) (j:Nat),(l.eraseIdx j).map f=(l.map f).eraseIdx j
 | [],_=>rfl
 |_::_,0=>rfl
 |x::l,j+1=>by rw[Rh,C9,C9,Rh,rA f l j]
theorem uo{α:Type}(f:α->D)(k:D)(l:List α)(h:∀x∈l,f x≠k):l.filter (λy=>!decide (f y=k))=l:=Q9.mpr λz b=>by simp[h z b]
theorem oF{α β:Type}{R:α->β->Prop}{p:α->Bool}{q:β->Bool}{xs:List α}{ys:List β}(r:Paired R xs ys)(h:∀x y,R x y->p x=q y):Paired R (xs.filter p) (ys.filter q):=by
 induction r with
 |nil=>exact .nil
 |@cons x y xs ys h1 t i=>rw[Mm,Mm,h _ _ h1];cases q y;exact i;exact .cons h1 i
section
variable{prog:c9}{w:c8}{A:f6}{E:b7->f7->Prop}{s:f7}{d b:d5}{k:D}{xs:List (D×d5×b7)}{e:Nat}
theorem takeE(u:(aQ prog w).room A)(t:(aQ prog w).is s.heap k b)(q:s.heap.DictOfH (aQ prog w) d xs) (x:dQ d e xs prog w s.heap) (hz:xs.length<=sizeLine)(a:(∀(j:Nat) (p:d5×b7),xs[j]?≠a7 (k,p))->Q a8 { s with toks:=s.toks+(aQ prog w).draws k })(c:∀(j:Nat) (p:d5×b7),xs[j]?=a7 (k,p)->∀h',dQ d (e+1) (xs.eraseIdx j) prog w h'->J6 d s.heap h'->Q (a7 ⟨A6 w 8 k,.ref p.1,p.2⟩) { s with heap:=h',toks:=s.toks+(aQ prog w).draws k }):ge (g9 prog w) A (Builtin.Dict.takeOut d<|.ref b) Q E s:=by
 obtain⟨_,_,_,_,_,_,_,g,r⟩:=q;obtain⟨o,es,B,n,f,h⟩:=x;have m:es.toList=xs.map (d9<|aQ prog w):=h;have v:es.size=xs.length:=size_of_entries m;unfold Builtin.Dict.takeOut
 try with_reducible refine F7 ?_
 refine u4<|(aQ prog w).pyHash u t ?_;refine u4<|wpAny_dictFind_heap (s:={ s with toks:=s.toks+(aQ prog w).draws k }) u t B f m g r (λi=>u8<|a i) λj p L=>?_;refine u4<|Np (s:={ s with toks:=s.toks+(aQ prog w).draws k }) B f ?_;have z:es[j]?=a7 ⟨A6 w 8 k,.ref p.1,p.2⟩:=by rw[<-J5,h,D8,L];rfl
 rw[z];refine u4<|wpAny_updateDictKeys (hz:=by lia) (s:={ s with toks:=s.toks+(aQ prog w).draws k }) B f<|u8<|c j p L _ ⟨_,es.eraseIdxIfInBounds j,Lw _ B<|Pk<|Oq f _,n.mapDictKeys _,Oq f _,?_⟩<|LD ..;have:(es.eraseIdxIfInBounds j).toList=es.toList.eraseIdx j:=by obtain⟨l⟩:=es;simp
 rw[this,h];exact(rA _ _ _).symm
theorem xa(a b:d5)(hs:(a==d8)=bt)(d:b7):MeetsIn prog w (Builtin.«dict.pop» ⟨[.ref a,.ref b,d],[]⟩) (λA R s=>(aQ prog w).room A.in1/\∃k xs e,(aQ prog w).is s.heap k b/\s.heap.DictOfH (aQ prog w) a xs/\dQ a e xs prog w s.heap/\xs.length<=sizeLine /\ ((∀(j:Nat) (p:d5×b7),xs[j]?≠a7 (k,p))->∀t,s.toks<=t->R (.ok<|.ret d) { s with toks:=t }) /\∀(j:Nat) (p:d5×b7),xs[j]?=a7 (k,p)->∀h',dQ a (e+1) (xs.eraseIdx j) prog w h'->J6 a s.heap h'->R (.ok<|.ret p.2) { s with heap:=h',toks:=s.toks+(aQ prog w).draws k }):=.of_wp λA R s ⟨u,k,xs,e,c,f,x,z,h1,h2⟩=>by
  obtain⟨o,es,B,n,g,i⟩:=id x;unfold Builtin.«dict.pop»;refine u4 ?_;unfold Builtin.Dict.keyAndDefault;refine u4<|NR f.typeIs ?_;show ge _ _ (pure (a,E6 b,a7 d)) _ _ s;refine u8 ?_;have hp:(keyPart<|E6 b).isSome=bt:=rfl;simp only[hp,A8,t7];refine u4<|Np B g<|u4<|u8 ?_;cases m:es.isEmpty;simp only[A8,t7];refine u4<|takeE u c f x z (λh=>?_) λj p L h' q U=>?_;simp only[Option.isNone_none,t8];unfold RD;simp only[hs,A8,t7];exact u4<|u8<|u4<|Lq<|u8 ⟨d,rfl,h1 h _<|Pa _ _⟩;simp only[Option.isNone_some,A8,t7];exact u4<|wpAny_letGo<|u8 ⟨p.2,rfl,h2 j p L h' q U⟩;simp only[t8];have h:∀(j:Nat) (p:d5×b7),xs[j]?≠a7 (k,p):=by
   intro j p L;have:es.toList=[]:=by
    obtain⟨l⟩:=es;cases l with
    |nil=>rfl
    |cons _ _=>cases m
   rw[i]at this;rw[List.map_eq_nil_iff.mp this]at L;simp at L
  refine u4<|Lq<|u4<|u8 ?_;simp only[Option.isNone_none,t8];unfold RD;simp only[hs,A8,t7];exact u4<|u8<|u4<|Lq<|u8 ⟨d,rfl,h1 h _<|w5 _⟩
end
section
variable{K:v6}{ρ:List d5}{H:Hp}{M:v5}{kvs:List (D×D)}{xs:List (D×d5×b7)}
theorem w9.writeQ(S:w9 K ρ M H)(t:ρ[n]?=a7 a)(s:sL M n kvs)(u:H a=a7 (.ext<|dQ a e xs))(w:kvs'.length<=sizeLine)(hs:(a==d8)=bt)(X:(kvs'.map (·.1)).Nodup)(r:Paired (pE K ρ H) kvs' xs'):w9 K ρ (M.set n<|.dkq e' kvs') (z5 H a<|.ext<|dQ a e' xs')/\Grow K ρ H ρ (z5 H a<|.ext<|dQ a e' xs'):=by
 have g:Grow K ρ H ρ (z5 H a<|.ext<|dQ a e' xs'):=⟨Ml,λ_ _ h=>B9.writtenX u h⟩
 have k:∀m,m≠n->(M.set n<|.dkq e' kvs')[m]?=M[m]?:=λm d=>Lv<|A1 d;have c:¬Lx M[n]?:=λ⟨_,z⟩=>by rcases s with s|⟨_,s⟩<;>(rw[s]at z;cases z)
 refine⟨⟨λm l b i f N=>?_,by rw[M9];exact S.len,λm b o f N=>?_⟩,g⟩;have q:=S.nd m l b i f N;by_cases h1:m=n;subst h1;rw[k l<|A1 i];exact .inr<|q.resolve_left c;rw[k m h1];by_cases h2:l=n;subst h2;exact .inl<|q.resolve_right c;rw[k l h2];exact q;by_cases d:m=n;subst d;have j:b=a:=C7<|f.symm.trans t;subst j;rw[LF<|by rw[<-S.len];exact(A5.mp t).1]at N;cases N;refine⟨w,hs,X,xs',aK,Paired.mapP r ?_⟩;rintro _ _ ⟨x,y,A,v,G,B⟩;exact⟨x,y,A.grow g,v,G.grow g,B⟩;rw[k m d]at N;by_cases j:b=a;subst j;have p:=(S.nd m n b d f t).resolve_right c;rw[N]at p;exact(S.obj m b o f N).grow g<|.inr p;exact(S.obj m b o f N).grow g<|.inl<|ar j
theorem w9.asQ(S:w9 K ρ M H)(t:ρ[n]?=a7 a)(s:sL M n kvs):∃e,w9 K ρ (M.set n<|.dkq e kvs) H:=by
 have o:n<M.length:=by rw[<-S.len];exact(A5.mp t).1
 obtain⟨e,l⟩:∃e,kvs.length<=sizeLine/\(a==d8)=bt/\(kvs.map (·.1)).Nodup/\∃xs,H a=a7 (.ext<|dQ a e xs)/\Paired (pE K ρ H) kvs xs:=by
  rcases s with s|⟨e,s⟩
  obtain⟨h1,h2,i,xs,j,r⟩:=S.obj _ _ _ t s;exact⟨xs.length,h1,h2,i,xs,j,r⟩;exact⟨e,S.obj _ _ _ t s⟩
 have k:∀m,m≠n->(M.set n<|.dkq e kvs)[m]?=M[m]?:=λm d=>Lv<|A1 d;have c:¬Lx M[n]?:=λ⟨_,z⟩=>by rcases s with s|⟨_,s⟩<;>(rw[s]at z;cases z)
 refine⟨e,λm g b h f N=>?_,by rw[M9];exact S.len,λm b p f N=>?_⟩;have q:=S.nd m g b h f N;by_cases h1:m=n;subst h1;rw[k g<|A1 h];exact .inr<|q.resolve_left c;rw[k m h1];by_cases h2:g=n;subst h2;exact .inl<|q.resolve_right c;rw[k g h2];exact q;by_cases d:m=n;subst d;rw[LF o]at N;cases N;obtain rfl:b=a:=C7<|f.symm.trans t;exact l;rw[k m d]at N;exact S.obj m b p f N
end
section
variable{X:Cx}{pins:List (d5×d6)}{σ:St}{H:Hp}{s:f7}{ρ:List d5}{M:v5}
theorem vZ(I:u6 X pins σ H s)(m:w9 X.K ρ M H)(e:ρ[n]?=a7 a)(h:sL M n kvs):∃xs ep,H a=a7 (.ext<|dQ a ep xs)/\Paired (pE X.K ρ H) kvs xs/\s.heap.DictOfH (aQ X.prog X.w) a xs/\(a==d8)=bt/\kvs.length<=sizeLine/\xs.length=kvs.length/\(kvs.map (·.1)).Nodup:=by
 rcases h with h|⟨ep,h⟩
 obtain⟨xs,b,r⟩:=jF I m e h;exact⟨xs,xs.length,b,r⟩;obtain⟨h1,h2,c,xs,b,r⟩:=m.obj _ _ _ e h;obtain⟨⟨o,es,t,l,Q,J⟩,_⟩:=(show bE X.prog X.w H s.heap a (.ext<|dQ a ep xs)from I.hok a _ b)
 have Z:=dZ r;refine⟨xs,ep,b,r,⟨o,es,_,t,l,Q,J,λx d=>?_,by rw[Z];exact c⟩,h2,h1,?_,c⟩;obtain⟨i,hi⟩:=LR d;obtain⟨p,_,q,g,j,_⟩:=cR r hi;rw[<-q];exact cP I 8 _ _ _ j rfl g;have:=t9 Lz Z
 rwa [x3,x3]at this
theorem CI(d:dQ a e xs P w h'):bE P w H' h' a (.ext<|dQ a e xs):=by obtain⟨o,es,t,l,Q,J⟩:=d;refine⟨⟨o,es,t,l,Q,J⟩,⟨o,t⟩,?_⟩;rintro h1 h2 ⟨o,es,t,l,Q,J⟩ k;exact⟨o,es,k _ t,l,Q,J⟩
theorem Ko(I:u6 X pins σ H s)(h:H a=a7 (.ext<|dQ a e xs)):dQ a e xs X.prog X.w s.heap:=(show bE X.prog X.w H s.heap a (.ext<|dQ a e xs)from I.hok a _ h).1
end
section
variable{X:Cx}{o:g7}{pos:i3}{k:Nat}{name:c7}{id:String}{e:g7}{es:List g7}{to:x9}{t:E8}{apos cpos:i3}
def QV(r:Nat->E1)(d:x9)(t:E8):x9:=λS M Q=>d S M λx a=>match x with
 |.ref n=>(∃kvs,sL a n kvs)/\t S a λds M2=>r n ds M2 Q
 |_=>False
theorem d_mq(slot:Slot "dict" name id)(y:m8 (.builtin id)=pure (.type "method_descriptor"))(P:Ln X id (lQ X.K r))(T:DE X o to)(O:DA X (e::es) t)(c:m9 o name X.env (eval o X.env)=eval o X.env:=by rfl)(f:((i4 cpos<|i5 (e::es) X.env).all (λx=>!x.1)&&(n5 cpos<|n6 [] X.env).all (λx=>x.1.isSome) && decide ((e::es).length+([]:List l8).length+(if ([]:List l8).isEmpty then 0 else 1)<30))=a9:=by rfl)(d:(apos.endLine==cpos.line)=a9:=by rfl) (hs:i5 (e::es) X.env=(bt,eval e X.env)::i5 es X.env:=by rfl) (h:(i4 cpos<|i5 es X.env).any (·.1)=bt:=by rfl):DE X (.Call (.Attribute o name apos) (e::es) [] cpos) (QV r to t):=by
 rintro p s σ H R I ⟨S,M,ρ,Q,sm,G,q,V⟩;refine QA c f d rfl<|x6 (T p s σ H _ I ⟨S,M,ρ,_,sm,G,q,λv H' z=>z⟩) ?_;rintro u s1 ⟨v,H1,B,rv,x,i,m,j,g1,Z,g⟩;cases Z with
 |@ref n a F =>
  cases rv;obtain⟨⟨kvs,N⟩,g⟩:=(show (∃kvs,sL i n kvs)/\t S i _ from g)
  obtain⟨xs,ep,hH,r,C,U,hl,hx,nd⟩:=vZ B j F N;refine⟨"dict",id,QB,slot,y,C.typeIs,λb z=>?_,?_⟩;cases z;obtain⟨W,_,_,h1,h2,_⟩:=C;exact⟨W,h1,h2.2.1⟩;have E:=O cpos p s1 σ H1 _ B ⟨S,i,m,_,j,G.grow g1,g,λvs H' z=>z⟩;rw[hs]at E ⊢;refine Ot (by show (bt||(i4 cpos<|i5 es X.env).any (·.1))=bt;rw[h]<;>rfl)<|Po ?_;refine x6 E ?_;rintro us s2 ⟨vs,J,L,k,ds,M2,A,l,D,rr,Y⟩;exact P p s2 σ J (.ref a) vs (.ref a) us R L rfl k ⟨n,a,ds,M2,A,Q,rfl,ax D.pre F,l,rr,Y,λv H' w=>V v H'<|VQ.trans (g1.trans D) w⟩
 |_=>exact g.elim
def Bu(n:Nat):E1:=λds M Q=>match ds with
 | [.tup ks,d]=>∃kvs,sL M n kvs/\cw 8 (.tup ks)=a9/\∀e,Q ((aH kvs<|.tup ks).getD d)<|M.set n<|.dkq e<|GC kvs<|.tup ks
 |_=>False
theorem Fp(hr:Room k X.A):Ln X "dict.pop" (lQ X.K Bu):=by
 rintro T s σ H x xs v us R I rx rs ⟨n,a,ds,M,ρ,Q,ez,u,J,f,q,P⟩;have un:=hr.un;unfold Bu at q;split at q;rename_i c d;obtain⟨kvs,l,kd,q⟩:=q;have z:=Reps.inv_cons f;clear f;obtain⟨_,_,rfl,r1,f⟩:=z;have z:=Reps.inv_cons f;clear f;obtain⟨_,_,rfl,r2,f⟩:=z;obtain rfl:=Reps.inv_nil f;obtain⟨u1,u2,rfl,Y,Z⟩:=aw.two rs;subst ez;cases rx;obtain⟨ys,O,i,r,N,U,hl,hx,S⟩:=vZ I J u l;have g:=cP I 8 _ _ _ r1 Y kd;obtain⟨b,_,rfl,_⟩:=id g;have C:(ys.map (·.1)).Nodup:=by rw[dZ r];exact S
 refine OT PySem.F.slot_dict_pop N.typeIs PySem.F.entry_dict_pop (PySem.F.args_dict_pop_3 _ _ _) (xa a b U u2) ⟨by show X.A.units+1+8<j9;lia,.tup c,ys,O,g,N,Ko I i,by lia,λw t ht=>?_,λj p L h' V sb=>?_⟩;have h:∀x∈kvs,x.1≠D.tup c:=by
  intro x m B;have o:D.tup c∈ys.map (·.1):=by rw[dZ r,<-B];exact MR m
  obtain⟨y,hy,G⟩:=C1.mp o;obtain⟨j,L⟩:=LR hy;exact w j y.2<|by rw[L,<-G]
 have hg:aH kvs (.tup c)=a8:=by unfold aH;rw[Ph.mpr λx m=>by simp[h x m]];rfl
 rw[hg,show GC kvs (.tup c)=kvs from uo _ _ _ h]at q;obtain⟨e,sq⟩:=J.asQ u l;exact⟨_,H,I.tok _,Z,P _ _ ⟨d,_,ρ,sq,.refl,r2,q e⟩⟩;rcases lW r (.tup c)with⟨z1,z2⟩|⟨d',p',v',z1,z2,z3,z4⟩
 rw[Oa C L]at z2;cases z2;rw[Oa C L]at z2;cases z2;rw[z1]at q;have re:Paired (pE X.K ρ H) (GC kvs<|.tup c) (ys.eraseIdx j):=by rw[jE (·.1) (.tup c) ys j _ C L rfl];exact oF r λx y E=>by rw[E.1]
 obtain⟨w1,W⟩:=J.writeQ (e':=O+1) u l i (H9 (MS _ _) hl) U (S.sublist<|List.Sublist.map _ List.filter_sublist) re;have he:∃q,h'.get? a=a7 q:=let ⟨q,_,hq,_⟩:=V;⟨q,hq⟩
 exact⟨v',_,uw I (by rw[i];exact MY) sb he<|CI V,z4,P _ _ ⟨d',_,ρ,w1,W,z3.grow W,q _⟩⟩;exact q.elim
theorem Jq(i:Room k X.A)(B:HE X o to)(f:HA X (e::es) t)(h:m9 o "pop" X.env (eval o X.env)=eval o X.env:=by kernel_rfl)(w:((i4 cpos<|i5 (e::es) X.env).all (λx=>!x.1)&&(n5 cpos<|n6 [] X.env).all (λx=>x.1.isSome) && decide ((e::es).length+([]:List l8).length+(if ([]:List l8).isEmpty then 0 else 1)<30))=a9:=by kernel_rfl)(a:(apos.endLine==cpos.line)=a9:=by kernel_rfl) (hs:i5 (e::es) X.env=(bt,eval e X.env)::i5 es X.env:=by kernel_rfl) (n:(i4 cpos<|i5 es X.env).any (·.1)=bt:=by kernel_rfl):HE X (.Call (.Attribute o "pop" apos) (e::es) [] cpos) (QV Bu to t):=⟨d_mq PySem.F.slot_dict_pop PySem.F.type_dict_pop (Fp i) B.ok f.ok h w a hs n⟩
end
section
variable{X:Cx}{o i ke ve:g7}{td ty tk tv:x9}{pos:i3}{k:Nat}
theorem pe(I:u6 X pins σ H s)(b:H a=a7 (.ext<|dQ a ep xs)):∃es,fI s.heap a es ep/\es.size=xs.length/\∀(i:Nat) x,xs[i]?=a7 x->∃e,es[i]?=a7 e/\e.key=.ref x.2.1/\e.val=x.2.2:=by
 obtain⟨o,es,h1,h2,h,d⟩:=Ko I b;refine⟨es,⟨o,h1,h2,h⟩,?_,λi x c=>?_⟩;have:=t9 Lz d
 rwa [F9,x3]at this
 refine⟨⟨A6 X.w 8 x.1,.ref x.2.1,x.2.2⟩,?_,rfl,rfl⟩;rw[<-J5,d,D8,c];rfl
end
section
variable{K:v6}{ρ:List d5}{H:Hp}
theorem ko:∀{kvs:List (c7×D)}{vs:List V},Reps K ρ H (kvs.map (·.2)) vs->eS kvs k=a8->uK (hV (kvs.map (·.1)) vs) (ABf k)=a8
 | [],_,_,_=>by rfl
 |(k',d')::kvs,_,.cons (v:=v) (vs:=vs) h t,e=>by
  have hk:k'≠k:=λz=>by subst z;simp[eS]at e
  have e':eS kvs k=a8:=by
   have:eS ((k',d')::kvs) k=eS kvs k:=by simp[eS,hk]
   rw[<-this];exact e
  have q:=ko t e';show uK ((ABf k',v)::hV (kvs.map (·.1)) vs) (ABf k)=a8;rw[nX<|λz=>hk<|by injection z];exact q
end
section
variable{X:Cx}{o:g7}{pos:i3}{k:Nat}{name:c7}{id:String}{e:g7}{es:List g7}{to:x9}{t:E8}{apos cpos:i3}
def OH(r:Nat->E1)(d:x9)(t:E8):x9:=λS M Q=>d S M λx a=>match x with
 |.ref n=>(∃kvs,a[n]?=a7 (.dct kvs))/\t S a λds M2=>r n ds M2 Q
 |_=>False
theorem d_mk(slot:Slot "dict" name id)(y:m8 (.builtin id)=pure (.type "method_descriptor"))(T:Ln X id (lQ X.K r))(U:DE X o to)(P:DA X (e::es) t)(c:m9 o name X.env (eval o X.env)=eval o X.env:=by rfl)(f:((i4 cpos<|i5 (e::es) X.env).all (λx=>!x.1)&&(n5 cpos<|n6 [] X.env).all (λx=>x.1.isSome) && decide ((e::es).length+([]:List l8).length+(if ([]:List l8).isEmpty then 0 else 1)<30))=a9:=by rfl)(d:(apos.endLine==cpos.line)=a9:=by rfl) (hs:i5 (e::es) X.env=(bt,eval e X.env)::i5 es X.env:=by rfl) (h:(i4 cpos<|i5 es X.env).any (·.1)=bt:=by rfl):DE X (.Call (.Attribute o name apos) (e::es) [] cpos) (OH r to t):=by
 rintro p s σ H R I ⟨S,M,ρ,Q,sm,G,q,V⟩;refine QA c f d rfl<|x6 (U p s σ H _ I ⟨S,M,ρ,_,sm,G,q,λv H' z=>z⟩) ?_;rintro u s1 ⟨v,H1,B,rv,x,i,m,j,g1,r1,g⟩;cases r1 with
 |@ref n a F =>
  cases rv;obtain⟨⟨kvs,O⟩,g⟩:=(show (∃kvs,i[n]?=a7 (.dct kvs))/\t S i _ from g)
  obtain⟨ws,N,_⟩:=j.obj _ _ _ F O;obtain⟨z1,z2,Y,ab,C⟩:=Gz B.hok N;refine⟨"dict",id,QB,slot,y,C.typeIs,λb z=>?_,?_⟩;cases z;obtain⟨W,_,_,h1,h2,_⟩:=C;exact⟨W,h1,h2.2.1⟩;have E:=P cpos p s1 σ H1 _ B ⟨S,i,m,_,j,G.grow g1,g,λvs H' z=>z⟩;rw[hs]at E ⊢;refine Ot (by show (bt||(i4 cpos<|i5 es X.env).any (·.1))=bt;rw[h]<;>rfl)<|Po ?_;refine x6 E ?_;rintro us s2 ⟨vs,J,L,k,ds,M2,A,l,D,rr,Z⟩;exact T p s2 σ J (.ref a) vs (.ref a) us R L rfl k ⟨n,a,ds,M2,A,Q,rfl,ax D.pre F,l,rr,Z,λv H' w=>V v H'<|VQ.trans (g1.trans D) w⟩
 |_=>exact g.elim
def vG(n:Nat):E1:=λds M Q=>match ds with
 | [.str x,d]=>∃kvs,M[n]?=a7 (.dct kvs)/\Q ((eS kvs x).getD d) M
 |_=>False
theorem BS:Ln X "dict.get" (lQ X.K vG):=by
 rintro p s σ H x xs v us R I E C ⟨n,a,ds,M,ρ,Q,j,y,m,b,q,D⟩;unfold vG at q;split at q;rename_i x d;obtain⟨kvs,u,q⟩:=q;have z:=Reps.inv_cons b;clear b;obtain⟨_,_,rfl,A,b⟩:=z;have z:=Reps.inv_cons b;clear b;obtain⟨_,_,rfl,B,b⟩:=z;obtain rfl:=Reps.inv_nil b;obtain rfl:=v7.inv_str A;obtain⟨S,J,rfl,t,g⟩:=aw.two C;subst j;obtain rfl:v=E6 a:=E;obtain⟨N,o,r⟩:=m.obj _ _ _ y u;obtain⟨O,G,Y,l,f⟩:=Gz I.hok o;refine OT Qv f.typeIs PySem.F.entry_dict_get (PySem.F.args_dict_get_3 _ _ _) (meets_dict_get_default (bI X.prog X.w) a (zF (k:=ABf x) t) G J) ⟨_,f.mapOf,?_⟩;cases c:eS kvs x with
 |none=>rw[c]at q;exact⟨_,H,I.tok _,(by have:=(l.val<|ABf x).getD g;rw[ko r c]at this;exact this),D _ _ ⟨d,M,ρ,m,.refl,B,q⟩⟩
 |some h=>rw[c]at q;obtain⟨L,i,e⟩:=ie r c;exact⟨_,H,I.tok _,(by have:=(l.val<|ABf x).getD g;rw[i]at this;exact this),D _ _ ⟨h,M,ρ,m,.refl,e,q⟩⟩
 exact q.elim
def vF(n:Nat):E1:=λds M Q=>match ds with
 | [.str x,d]=>∃kvs,M[n]?=a7 (.dct kvs)/\kvs.length<sizeLine/\(∀y,eS kvs x=a7 y->Q y M)/\(eS kvs x=a8->Q d (M.set n<|.dct<|jU kvs x d))
 |_=>False
theorem BR:Ln X "dict.setdefault" (lQ X.K vF):=by
 rintro B s σ H x xs v us R I rx rs ⟨n,a,ds,M,ρ,Q,N,A,o,b,q,D⟩;unfold vF at q;split at q;rename_i x d;obtain⟨kvs,y,hl,V,W⟩:=q;have z:=Reps.inv_cons b;clear b;obtain⟨_,_,rfl,Z,b⟩:=z;have z:=Reps.inv_cons b;clear b;obtain⟨_,vd,rfl,C,b⟩:=z;obtain rfl:=Reps.inv_nil b;obtain rfl:=v7.inv_str Z;obtain⟨u1,J,rfl,L,u⟩:=aw.two rs;subst N;obtain rfl:v=E6 a:=rx;obtain⟨ws,j,r⟩:=o.obj _ _ _ A y;obtain⟨z1,G,Y,l,t⟩:=Gz I.hok j;refine OT PySem.F.slot_dict_setdefault t.typeIs PySem.F.entry_dict_setdefault (PySem.F.args_dict_setdefault_3 _ _ _) (kt_meets_setdefault (bI X.prog X.w) a (zF (k:=ABf x) L) G J) ⟨Y,t,by rw[<-l.length];exact z1,λw' h=>?_,λh h' e sb=>?_⟩;cases c:eS kvs x with
 |none=>have:=l.val<|ABf x;rw[ko r c,h]at this;exact this.elim
 |some p=>obtain⟨w0,i,f⟩:=ie r c;have:=l.val<|ABf x;rw[i,h]at this;exact⟨_,H,I.tok _,this,D _ _ ⟨p,M,ρ,o,.refl,f,V _ c⟩⟩
 cases c:eS kvs x with
 |some p=>obtain⟨w0,i,f⟩:=ie r c;have:=l.val<|ABf x;rw[i,h]at this;exact this.elim
 |none =>
  obtain⟨g,P,O⟩:=yB (k:=x) C r;obtain⟨w1,E⟩:=o.writeD A y j O;have S:∃q,h'.get? a=a7 q:=let ⟨q,_,_,hq,_⟩:=e;⟨q,hq⟩
  have lw:=r.length;have m:KV (hV ((jU kvs x d).map (·.1)) g) (stored Y (ABf x) J):=by rw[<-P];exact l.put (ABf x) u
  have U:(hV ((jU kvs x d).map (·.1)) g).length<=sizeLine:=by
   have T:=O.length;have l2:(jU kvs x d).length<=kvs.length+1:=by unfold jU;split<;>simp
   rw[x3]at T;rw[hV,x3,P5,x3];lia
  exact⟨_,_,uw I (by rw[j];exact MY) sb S<|Ef U G m e,u,D _ _ ⟨d,_,ρ,w1,E,C.grow E,W c⟩⟩
 exact q.elim
theorem FT(B:HE X o to)(f:HA X (e::es) t)(h:m9 o "get" X.env (eval o X.env)=eval o X.env:=by kernel_rfl)(w:((i4 cpos<|i5 (e::es) X.env).all (λx=>!x.1)&&(n5 cpos<|n6 [] X.env).all (λx=>x.1.isSome) && decide ((e::es).length+([]:List l8).length+(if ([]:List l8).isEmpty then 0 else 1)<30))=a9:=by kernel_rfl)(a:(apos.endLine==cpos.line)=a9:=by kernel_rfl) (hs:i5 (e::es) X.env=(bt,eval e X.env)::i5 es X.env:=by kernel_rfl) (n:(i4 cpos<|i5 es X.env).any (·.1)=bt:=by kernel_rfl):HE X (.Call (.Attribute o "get" apos) (e::es) [] cpos) (OH vG to t):=⟨d_mk Qv PySem.F.type_dict_get BS B.ok f.ok h w a hs n⟩
theorem FS(B:HE X o to)(f:HA X (e::es) t)(h:m9 o "setdefault" X.env (eval o X.env)=eval o X.env:=by kernel_rfl)(w:((i4 cpos<|i5 (e::es) X.env).all (λx=>!x.1)&&(n5 cpos<|n6 [] X.env).all (λx=>x.1.isSome) && decide ((e::es).length+([]:List l8).length+(if ([]:List l8).isEmpty then 0 else 1)<30))=a9:=by kernel_rfl)(a:(apos.endLine==cpos.line)=a9:=by kernel_rfl) (hs:i5 (e::es) X.env=(bt,eval e X.env)::i5 es X.env:=by kernel_rfl) (n:(i4 cpos<|i5 es X.env).any (·.1)=bt:=by kernel_rfl):HE X (.Call (.Attribute o "setdefault" apos) (e::es) [] cpos) (OH vF to t):=⟨d_mk PySem.F.slot_dict_setdefault PySem.F.type_dict_setdefault BR B.ok f.ok h w a hs n⟩
end
noncomputable def gQ(ps:List (c7×D)):List (c7×D):=ps.foldl (λkvs p=>jU kvs p.1 p.2) []
theorem nO:gQ (ps++[p])=jU (gQ ps) p.1 p.2:=by unfold gQ;rw[Qf];rfl
theorem sj(ps:List (c7×D)):(gQ ps).length<=ps.length:=by
 have:∀(ps acc:List (c7×D)),(ps.foldl (λkvs p=>jU kvs p.1 p.2) acc).length<=acc.length+ps.length:=by
  intro ps;induction ps with
  |nil=>intro acc;exact w5 _
  |cons p ps i=>intro acc;have h1:=i<|jU acc p.1 p.2;have h2:=vI (kvs:=acc) (k:=p.1) (d:=p.2);rw[List.foldl_cons,E5];lia
 have h:=this ps [];rw[G0]at h;unfold gQ;lia
section
variable{X:Cx}{pins:List (d5×d6)}{σ:St}{H:Hp}{ρ:List d5}{M:v5}{A:f6}{E:b7->f7->Prop}{s:f7}
def N4(X:Cx)(ρ:List d5)(H:Hp)(h:d7)(a:d5)(kvs:List (c7×D)):Prop:=∃s us,Reps X.K ρ H (kvs.map (·.2)) s/\KV (hV (kvs.map (·.1)) s) us/\h.DictOf (bI X.prog X.w) a us
theorem N4.at(x:N4 X ρ H h a kvs)(k:∀o,h.get? a=a7 o->h'.get? a=a7 o):N4 X ρ H h' a kvs:=by obtain⟨s,us,r,l,o,es,i,t,aL⟩:=x;exact⟨s,us,r,l,o,es,i,k _ t,aL⟩
theorem DQ{kvs:List (c7×D)}{s:List V}{us:List (E9×b7)}(r:Reps X.K ρ H (kvs.map (·.2)) s)(l:KV (hV (kvs.map (·.1)) s) us):us.length=kvs.length/\(hV (kvs.map (·.1)) s).length=kvs.length:=by
 have t:=r.length;have e:=l.length;rw[x3]at t;have Q:(hV (kvs.map (·.1)) s).length=kvs.length:=by rw[hV,x3,P5,x3];lia
 lia
theorem Gs(I:u6 X pins σ H s)(hu:A.units+20<j9)(W:Walks X.prog X.w A.in1 J fp wr m P Sx)(S:d5)(l:S∉fp)(L:s.heap.get? S=a8) (B:∀b∈wr,s.heap.get? b=a8) (ps:List (c7×D)) (hm:ps.length=m) (y:∀i v,P i v->∃p:c7×D,ps[i]?=a7 p/\∃vv,v7 X.K ρ H (.tup [.str p.1,p.2]) vv/\aJ vv v) (Q:m<=1000):∀(k i:Nat) (h:d7) (tk:Nat) (j:Int) (t:Tok),m-i=k->i<=m->Sx i h->N4 X ρ H h S (gQ<|ps.take i)->(∀b u,s.heap.get? b=a7 u->h.get? b=a7 u) ->(∀h' tk,(∀b u,s.heap.get? b=a7 u->h'.get? b=a7 u)->N4 X ρ H h' S (gQ ps)->R (.ok<|.ret .none) { s with heap:=h',toks:=tk }) ->k9 (g9 X.prog X.w) A (.builtin "dict.update.loop" ⟨[.ref S,.ref J,.int j t,.none],[]⟩) R { s with heap:=h,toks:=tk }:=by
 have n:S∉wr:=λh=>l<|W.sub _ h;intro k;induction k with
 |zero =>
  intro i h tk j t hk hi g F c Z;obtain rfl:i=m:=by lia
  refine MB iJ ?_;rw[Nc bN _];refine(show ge (g9 X.prog X.w) A.in1 (j1 (.ref J) >>= _) _ _ _ from u4<|W.done _ _ _ g λh' tk d=>?_);rw[<-hm,LO]at F;refine(show ge (g9 X.prog X.w) A.in1 (Builtin.Dict.addKeywords S [] >>= _) _ _ _ from u4<|u8<|u8 ?_);exact Z h' tk (λb u e=>d b u (λz=>by rw[B b z]at e;cases e)<|c b u e)<|F.at λo e=>d S o n e
 |succ k ih =>
  intro i h tk j t hk hi g F c Z;refine MB iJ ?_;rw[Nc bN _];refine(show ge (g9 X.prog X.w) A.in1 (j1 (.ref J) >>= _) _ _ _ from u4<|W.item i _ _ _ (by lia) g λv h' tk hP q d=>?_);obtain⟨p,hp,vv,r,rv⟩:=y i v hP;have f:∀b u,s.heap.get? b=a7 u->h'.get? b=a7 u:=λb u e=>d b u (λz=>by rw[B b z]at e;cases e)<|c b u e;have I':u6 X pins σ H { s with heap:=h',toks:=tk }:=I.kept f;obtain⟨ws,us,Y,C,dd⟩:=F.at λo e=>d S o n e;have hl:=(DQ Y C).1;have dl:=sj<|ps.take i;rw[Lc]at dl;obtain⟨a,vs,rfl,hq,E⟩:=v7.inv_tup r;obtain rfl:v=E6 a:=rv;obtain⟨_,_,rfl,r1,E⟩:=Reps.inv_cons E;obtain⟨_,vd,rfl,r2,E⟩:=Reps.inv_cons E;obtain rfl:=Reps.inv_nil E;obtain rfl:=v7.inv_str r1;obtain⟨its,U,pl,hz⟩:=I'.tuple hq;obtain⟨u1,u2,rfl,e1,e2⟩:=aw.two U;obtain⟨x,d0⟩:=p;obtain⟨o,T,hc,nn,hd⟩:=pl;have hT:({ s with heap:=h',toks:=tk }:f7).TypeIs (.ref a) "tuple":=⟨o,T,hc⟩
  refine u4<|F7<|u4<|wpAny_tryCatch ?_;unfold Builtin.Dict.pairItems;refine u4<|Mw hT ?_;rw[p9<|by decide];refine u4<|LB T hd<|u8 ?_;refine(show ge (g9 X.prog X.w) _ (i7 [u1,u2]<|dictSet S u1 u2) _ _ _ from F7 ?_);refine wpAny_dictSet_pairs (s:={ s with heap:=h',toks:=tk }) (zF (k:=ABf x) e1) dd (λh2 G sb=>?_) (ao<|by lia);have V:∀b u,b≠S->h'.get? b=a7 u->h2.get? b=a7 u:=λb u Q e=>(sb.2 b Q).trans e;obtain⟨N,f1,O⟩:=yB (k:=x) r2 Y;have et:ps.take (i+1)=ps.take i++[(x,d0)]:=by rw[L6,hp];rfl
  refine u8 ⟨ML bN _,ih (i+1) h2 _ _ _ (by lia) (by lia) (W.frame _ h' h2 q λb' M o e=>V b' o (λz=>l<|z ▸ M) e) ?_ (λb u e=>V b u (λz=>by rw[z,L]at e;cases e)<|f b u e) Z⟩;rw[et,nO];exact⟨N,_,O,by rw[<-f1];exact C.put (ABf x) e2,G⟩
theorem Di(I:u6 X pins σ H s)(Z:A.units+30<j9)(B:A.handled=a8)(C:s.heap.IsTuple l its)(f:s.heap.get? l=a7 ol)(t:ol.dict=a8)(ps:List (c7×D))(R:ps.length=its.size)(y:∀(i:Nat) v,its[i]?=a7 v->∃p:c7×D,ps[i]?=a7 p/\∃vv,v7 X.K ρ H (.tup [.str p.1,p.2]) vv/\aJ vv v) (O:its.size<=1000)(h:∀h' tk,(∀b u,s.heap.get? b=a7 u->h'.get? b=a7 u)->N4 X ρ H h' s.heap.objs.size (gQ ps)->Q (.ref s.heap.objs.size) { s with heap:=h',toks:=tk }):ge (g9 X.prog X.w) A (call (.type "dict") [.ref l]) Q E s:=by
 refine callType_codes (Q₁:=λj s₁=>j=.ref s.heap.objs.size/\s₁={ s with heap:=s.heap.push { cls:=.type "dict",data:=.dict #[] } }) Rc (Rp _) Ri (kt_code_dict_new _ ⟨rfl,rfl⟩) ?_;rintro j s₁ ⟨rfl,rfl⟩;have S:(s.heap.push { cls:=.type "dict",data:=.dict #[] }).get? s.heap.objs.size=a7 { cls:=.type "dict",data:=.dict #[] }:=C5 _ rfl;have z:My { s with heap:=s.heap.push { cls:=.type "dict",data:=.dict #[] } } (.ref s.heap.objs.size) "dict":=⟨_,S,rfl⟩
 obtain⟨a,N,r,nn,m⟩:=id C;obtain rfl:a=ol:=C7<|N.symm.trans f;have c:(s.heap.push { cls:=.type "dict",data:=.dict #[] }).get? l=a7 a:=z6 _ f;have L:My { s with heap:=s.heap.push { cls:=.type "dict",data:=.dict #[] } } (.ref l) "tuple":=⟨a,c,r⟩
 have V:l<s.heap.objs.size:=A0 f;refine⟨z,Rm _ _,?_⟩;unfold Builtin.«dict.__init__»;refine u4 ?_;unfold Rl;refine u4<|NR z ?_;refine(show ge _ _ (pure (s.heap.objs.size,[E6 l])) _ _ _ from u8 ?_);refine(show ge _ _ (Ov "dict.__init__" s.heap.objs.size (.ref l) [] .none) _ _ _ from ?_);unfold Ov;refine u4<|Mw L ?_;rw[p9<|by decide];refine u4<|mP c r t m (by simpa using B) λh1 x F=>?_;have k:∀b u,s.heap.get? b=a7 u->h1.get? b=a7 u:=λb u e=>F b u<|z6 _ e;rw[p9<|show (a8:Option b7).isNone=a9 from rfl];refine u4<|Lq ?_;obtain⟨oI,St,n,W,Y⟩:=(TxSrc.tuple (prog:=X.prog) (w:=X.w) C).iter A.in1.in1 { s with heap:=h1,toks:=x } (by simpa using B) λo e=>k _ _ e;refine u4<|n _ _ ?_;have d:=F _ _ S;have J:s.heap.objs.size<h1.objs.size:=A0 d;have G:s.heap.get? s.heap.objs.size=a8:=by
  cases q:s.heap.get? s.heap.objs.size with
  |none=>rfl
  |some o=>exact t4 (A0 q)<|G8 _
 refine u8 ⟨ML bN _,Gs (A:=A.in1) (s:=s) I (by show A.units+1+20<j9;lia) W s.heap.objs.size ?_ G ?_ ps R y O its.size 0 _ _ _ _ rfl (C4 _) Y ⟨[],[],.nil,.nil,_,#[],_,z6 _ d,⟨rfl,rfl,rfl⟩,rfl,(λ_ P=>by simp at P),Pairs.nil,Og⟩ (λb u e=>z6 _<|k b u e) λh2 T U M=>⟨rfl,h h2 T U M⟩⟩;simp only[A4,LN,or_false,not_or];exact⟨A3 J,Mg V⟩;intro b g;rw[K4.mp g];cases q:s.heap.get? h1.objs.size with
 |none=>rfl
 |some o=>exact t4 (OV (A0 q) J)<|G8 _
end
section
variable{X:Cx}{k:Nat}
def qS:E1:=λds M Q=>match ds with
 | [.tup xs]=>∃ps:List (c7×D),xs=ps.map (λp=>.tup [.str p.1,p.2])/\ps.length<=1000/\Q (.ref M.length) (M++[.dct<|gQ ps])
 |_=>False
theorem Dh(G:Room k X.A)(D:X.calm=a9):iO X (.type "dict") qS:=by rintro n s σ H vs us R I P ⟨ds,M,ρ,Q,B,c,q,K⟩;have un:=G.un;unfold qS at q;split at q;obtain⟨ps,L,V,q⟩:=q;have z:=Reps.inv_cons c;clear c;obtain⟨_,_,rfl,g,c⟩:=z;obtain rfl:=Reps.inv_nil c;obtain⟨u,rfl,t⟩:=aw.one P;subst L;obtain⟨a,ws,rfl,F,r⟩:=v7.inv_tup g;cases t;obtain⟨its,y,x,W⟩:=I.tupN F;obtain⟨oa,j,E,⟨nn,h⟩,b⟩:=id x;have O:=r.length;have li:=y.length;rw[x3]at O;have f:H s.heap.objs.size=a8:=I.hok.fresh<|w5 _;have C:(s.heap.objs.size==d8)=bt:=beq_eq_false_iff_ne.mpr<|A1<|A3 I.big;refine Di (A:=X.A) (ρ:=ρ) I (by lia) (I.ok.hd D) x.tup j b ps (by rw[B7];lia) (λi v J=>?_) (by rw[B7];lia) λh' S N e=>?_;obtain⟨d,Z,t,g,m⟩:=kn r y (i:=i) (u:=v) (by simpa using J);rw[D8]at t;obtain⟨p,hp,rfl⟩:=Mp.mp t;exact⟨p,hp,Z,g,m⟩;obtain⟨w,T,U,l,e⟩:=e;have Y:=sj ps;have ln:=(DQ U l).2;refine⟨.ref s.heap.objs.size,_,I.laid (a:=s.heap.objs.size) (o:=.dK (hV ((gQ ps).map (·.1)) w)) (t':=S) N (w5 _)<|Ef (ao<|by lia) C l e,rfl,?_⟩;exact K _ _ ⟨.ref M.length,M++[.dct<|gQ ps],ρ++[s.heap.objs.size],B.laidM (mo:=.dct<|gQ ps) f ⟨w,aK,U.grow<|Grow.laidR f⟩,Grow.laidR f,.ref B.last,q⟩;exact q.elim
theorem CC(i:Room k X.A)(f:X.calm=a9:=by kernel_rfl):HC X (.type "dict") qS:=⟨Dh i f⟩
end
end L2
namespace L2
open PySem PySem.Spec PyProof.Rows DL
def GtAt(A:f6)(s:f7)(x y:b7)(k:Bool):Prop:=∀(g:c9) (w:c8) (E:b7->f7->Prop) (Q:b7->f7->Prop),Q (.bool k) s->ge (g9 g w) A (richCompare .Gt x y) Q E s
inductive GexAt(A:f6)(s:f7):List b7->List b7->Bool->Prop
 |nn:GexAt A s [] [] bt
 |nc {y:b7}{ys:List b7}:GexAt A s [] (y::ys) bt
 |cn {x:b7}{xs:List b7}:GexAt A s (x::xs) [] a9
 |eq {x y:b7}{xs ys:List b7}{k:Bool} (h:Ma A s x y a9) (t:GexAt A s xs ys k):GexAt A s (x::xs) (y::ys) k
 |ne {x y:b7}{xs ys:List b7}{k:Bool} (h:Ma A s x y bt) (t:GtAt A s x y k):GexAt A s (x::xs) (y::ys) k
section
variable{prog:c9}{w:c8}{A:f6}{E:b7->f7->Prop}{s:f7}{d:d5}{o:d6}{es:Array n9}{ep:Nat}{xs:List (D×b7×b7)}{k:D}{key:b7}{hs:D->Int}{Q:Option Nat->f7->Prop}
noncomputable def pM(es:Array n9)(h:Int)(i:Nat):Bool:=(es[i]?.map (·.hash))==a7 h
end
section
open PySem.W
variable{prog:c9}{w:c8}{A:f6}{E:b7->f7->Prop}{s:f7}{K:Frag}{x D:d5}{ox:d6}
structure ExcK(K:Frag)(D:d5):Prop where
 ga:findIn K (.ref D) "__getattribute__" = a7 (a7<|.builtin "BaseException.__getattribute__")
 gt:findIn K (.ref D) "__getattr__" = a7 a8
 mb:mroIn K D (.type "BaseException")=a7 a9
 mo:mroIn K D (.type "object")=a7 a9
 cl:findIn K (.ref D) "__class__" = a7 (a7<|.builtin "object.__class__")
def KR(h:d7)(x D:d5):Prop:=∃o,h.get? x=a7 o/\o.cls=.ref D
theorem KR.type(I:KR h x D):Looks M h (m8<|.ref x) (.ref D):=by obtain⟨o,e,c⟩:=I;exact c ▸ (Looks.ld e).andThen .now
theorem tW(X:K.In h)(c:ExcK K D):Looks M h (Builtin.ObjectAttr.find (.ref x) (.ref D) "__class__") (.bind (.builtin "getset_descriptor.__get__")<|.builtin "object.__class__"):=by
 have t:typeIn K (.builtin "object.__class__")=a7 (.type "getset_descriptor"):=by kernel_rfl
 have h1:specialIn K (.builtin "object.__class__") "__get__" = a7 (a7<|.builtin "getset_descriptor.__get__"):=by unfold specialIn;rw[t];kernel_rfl
 have h2:takesIn K (.builtin "object.__class__")=a7 a9:=by unfold takesIn specialIn;rw[t];kernel_rfl
 have L:=looks_findIn (M:=M) X c.cl;have L2:Looks M h (Builtin.ObjectAttr.getOf<|a7<|.builtin "object.__class__") (a7<|.builtin "getset_descriptor.__get__"):=looks_specialIn X h1;have a:=looks_takesIn (M:=M) X h2;refine L.andThen<|L2.andThen ?_;exact(show Looks M h (Builtin.ObjectAttr.dataDescriptor? (a7<|.builtin "object.__class__")<|a7<|.builtin "getset_descriptor.__get__") (a7 (.builtin "getset_descriptor.__get__",.builtin "object.__class__"))from a.andThen .now).andThen<|Looks.tag .now
theorem Ka(X:K.In s.heap)(I:KR s.heap x D)(d:mroIn K D (.type "object")=a7 a9)(h:R (.ok<|.ret<|.ref D) s):k9 (g9 prog w) A (.call (.builtin "getset_descriptor.__get__") ⟨[.builtin "object.__class__",.ref x,tp],[]⟩) R s:=by
 obtain⟨b,g,r,t,c⟩:=s;have L:=I.type (M:=g9 prog w);have a:=looks_mroIn (M:=g9 prog w) X d;refine Pn KF.slot_gs.plain KF.entry_gs<|KF.slot_gs.check _ _ _ _ _ _ _ _ KF.type_class (KF.args_gs _ _ _) ?_;unfold Builtin.«getset_descriptor.__get__» Builtin.Getset_descriptor.descrGet;rw[dga_obj];refine u4<|u8 ?_;unfold Builtin.Getset_descriptor.descrGetter Builtin.Getset_descriptor.descrCheckInstance Builtin.Getset_descriptor.descrNameAndClass isInstance;simp only[KF.owner_class]
 repeat lk
 refine⟨Code.quiet_builtin _ (by decide +kernel),MB KF.entry_class ?_⟩;unfold Builtin.«object.__class__» shownTypeOf
 repeat lk
 exact h
theorem CJ(X:K.In s.heap)(c:ExcK K D)(I:KR s.heap x D)(h:Q (a7<|.ref D) { s with toks:=s.toks+1 }):ge (g9 prog w) A (getAttr? (.ref x) "__class__") Q E s:=by
 obtain⟨j,g,d,t,p⟩:=s;have L:=I.type (M:=g9 prog w);have k:=looks_findIn (M:=g9 prog w) X c.ga;have L2:=looks_findIn (M:=g9 prog w) X c.gt;have m:=looks_mroIn (M:=g9 prog w) X c.mb;have l:=tW (M:=g9 prog w) (x:=x) X c;have i:=F.excAttr_ValueError.ga;have r:=i.bind<|.ref x;have f:(Oe "BaseException.__getattribute__" == Oe "object.__getattribute__")=bt:=by decide +kernel
 have e:(onTheHeap (E6 D)&&Oe "BaseException.__getattribute__" == Oe "object.__getattribute__")=bt:=by rw[f];rfl
 unfold getAttr? getAttrBy? getAttrBy;refine u4<|wpAny_mkText<|u4<|Mi<|F7<|u4<|L.at<|u4<|k.at ?_;dsimp only;rw[e];simp only[A8,t7];unfold getAttrByItsOwn hookBefore;rw[p9<|show onTheHeap (E6 D)=a9 from rfl];refine u4<|L2.at ?_;unfold callGetattribute;simp only[O5,A8,t7];unfold boundAndCalled;refine u4<|Mi<|F7<|u4<|N8 r ?_;refine l7<|Pn i.plain F.entry_bexc_ga ?_;have o:builtinKind "BaseException.__getattribute__" = a7 .slot:=by decide +kernel
 have a:splitId "BaseException.__getattribute__" = a7 ("BaseException","__getattribute__"):=by decide +kernel
 have b:=F.args_bexc_ga (.ref x)<|.str "__class__" t;simp only[checkBuiltinCall,o,a];have n:Looks (g9 prog w) j (isInstance (.ref x)<|.type "BaseException") a9:=L.andThen m;refine u4<|n.at ?_
 repeat (first|with_reducible refine L.at ?_|with_reducible refine l.at ?_|wp_step)
 refine Ka (s:=⟨j,g,d,t+1,p⟩) X I c.mo ?_;exact u8<|handed_on rfl<|u8 h
theorem Cf(c:ExcK K D):KitX K (.ref x) (.ref D) (λh=>KR h x D) where
 ty:=λ_ _ _ I=>I.type
 it:=λ_ h X _=>by have:=c.mo;unfold mroIn clsIn at this;split at this;rename_i B;intro N Q' F s' k q;unfold isType loadHead;exact u4<|wpAny_loadPart (k _ _<|X _ _ B)<|u8 q;cases this
 ne:=λh t d its n m X p=>by refine LQ.mpr λq=>?_;have e:D=t:=Value.ref.inj<|beq_iff_eq.mp q;subst e;have:=c.mo;unfold mroIn clsIn at this;split at this;rename_i B;have z:=(X _ _ B).symm.trans p;cases z;cases this
 ca:=λX I k=>CJ X c I k
end
theorem bE.there(x:bE P w H h a o):∃u,h.get? a=a7 u:=by
 cases o with
 |lst xs=>obtain⟨_,_,_,_,e⟩:=x;exact⟨_,e⟩
 |tup xs=>obtain⟨_,_,_,b,e,_⟩:=x;exact⟨_,e⟩
 |dK kvs=>obtain⟨_,_,_,_,b,_,_,e,_⟩:=x;exact⟨_,e⟩
 |dT kvs=>obtain⟨_,_,_,_,b,_,_,e,_⟩:=x;exact⟨_,e⟩
 |set S n=>obtain⟨b,_,_,_,e,_⟩:=x;exact⟨_,e⟩
 |ins C d s=>obtain⟨_,_,_,e,_⟩:=x;exact⟨_,e⟩
 |own y=>exact x
 |xd s=>obtain⟨_,⟨j,_,_,e,_⟩,_⟩:=x;exact⟨_,e⟩
 |rng l hi=>obtain⟨_,_,_,e⟩:=x;exact⟨_,e⟩
 |frz b u=>exact⟨_,x.1⟩
 |tbl ps=>exact⟨_,x⟩
 |met f y=>exact⟨_,x⟩
 |ext φ=>exact x.2.1
inductive NC(P:c9)(w:c8)(stk:List Env)(H:Hp)(h0:d7)(a:d5)(C:b7)(H1:Hp)(h:d7):Prop
 |mk (B:d7) (a0:b7) (fly:Heap.FlyingW B stk a C a0 h) (un:Un (frs stk) [] H H1 h0 h) (hok:D4 P w H1 h)
  (old:∀b o,h0.get? b=a7 o->b∉frs stk->∃o',B.get? b=a7 o'/\(H b=a8->o'=o)) (trk:∀b u,H1 b=a7 u->∃o,B.get? b=a7 o)
section
variable{P:c9}{w:c8}{stk:List Env}{H H1:Hp}{h0 h h' B:d7}{a:d5}{C a0:b7}
theorem jY(K:D4 P w H1 h)(trk:∀b u,H1 b=a7 u->∃o,B.get? b=a7 o)(s:B.StaysIn h)(s':B.StaysIn h'):D4 P w H1 h':=λb u q=>by
 refine(K b u q).stay (λc v f r=>?_) (λ_ z=>z) λ_ _ z=>z;have O:∃u',H1 c=a7 u':=by rcases f with rfl|f;exact⟨u,q⟩;exact⟨_,f⟩
 obtain⟨u',O⟩:=O;obtain⟨o,a⟩:=trk c u' O;have:=s c o a;rw[r]at this;cases this;exact s' c _ a
theorem xJ(u:Un (frs stk) [] H H1 h0 h)(g:∀b o,h0.get? b=a7 o->b∉frs stk->∃o',B.get? b=a7 o'/\(H b=a8->o'=o))(f:h.FunFrames B stk)(s':B.StaysIn h')(p:h.UpToSlots h'):Un (frs stk) [] H H1 h0 h':=by
 have r:∀b,b∈frs stk->∀o,h.get? b=a7 o->∃m,h'.get? b=a7 { o with slots:=m }:=λb d o e=>by obtain⟨_,o',a,P⟩:=f.mem d;rw[e]at a;cases a;exact p b o e P
 refine⟨λb o e n d x=>?_,λb o e n d x=>?_,u.free,λb o e x=>?_,u.tups,u.frzs,u.tbls⟩;obtain⟨o',a,q⟩:=g b o e d;rw[<-q n];exact s' b o' a;obtain⟨m,t⟩:=u.slot b o e n d x;obtain⟨M,l⟩:=r b d _ t;exact⟨M,l⟩;by_cases d:b∈frs stk;obtain⟨o',t⟩:=u.there b o e x;obtain⟨m,l⟩:=r b d _ t;exact⟨_,l⟩;obtain⟨o',a,_⟩:=g b o e d;exact⟨o',s' b o' a⟩
theorem qZ{α:Type}{x:α}:x∉([]:List α):=λh=>nomatch h
theorem NC.track(f:Un (frs stk) [] H H1 h0 h)(K:D4 P w H1 h)(p:∀b o,h0.get? b=a7 o->b∉frs stk->∃o',B.get? b=a7 o'/\(H b=a8->o'=o))(trk:∀b u,H1 b=a7 u->∃o,B.get? b=a7 o)(y:Heap.FlyingW B stk a C a0 h):Un (frs stk) [] H (z5 H1 a<|.ext<|GZ a C) h0 h/\D4 P w (z5 H1 a<|.ext<|GZ a C) h:=by
 obtain⟨t,vs,l,v,r,_⟩:=y.first
 have j:H1 a=a8:=by
  cases q:H1 a with
  |none=>rfl
  |some u=>obtain⟨o,s⟩:=trk a u q;rw[y.2.1]at s;cases s
 refine⟨⟨f.keep,f.slot,λb o e n x=>?_,f.there,λb xs e=>?_,λb o u e=>?_,λb ps e=>?_⟩,λb u q=>?_⟩;rw[ar];exact f.free b o e n x;rintro rfl;by_cases i:b∈frs stk;obtain⟨_,o',g,A⟩:=y.2.2.1.mem i;rw[l]at g;cases g;exact A vs r;obtain⟨o',g,_⟩:=p b o e i;rw[y.2.1]at g;cases g;rw[ar<|ad (f.tups b xs e) j];exact f.tups b xs e;rw[ar<|ad (f.frzs b o u e) j];exact f.frzs b o u e;obtain⟨m,q⟩:=f.tbls b ps e;exact⟨m,by rw[ar<|ad q j];exact q⟩;by_cases i:b=a;subst i;rw[aK]at q;cases q;refine⟨⟨t,vs,l,v,r⟩,⟨t,l⟩,?_⟩;rintro h1 h2 ⟨o,D,e,c,d⟩ k;exact⟨o,D,k o e,c,d⟩;rw[ar i]at q;exact(K b u q).stay (λ_ _ _ z=>z) (λc z=>by rw[ar<|ad z j];exact z) λc xs z=>by rw[ar<|ad z j];exact z
end
structure DefX(X:Cx):Prop where
 stk:X.stack=X.env::X.outer
 fr:X.env.frame=a7 X.env.locals
 ex:X.ex=[]
section
variable{X:Cx}{pins:List (d5×d6)}{σ:St}{H H1:Hp}{s s':f7}{h':d7}{e:d5}{C:b7}{vs:List b7}{M:Model}{Q:Unit->f7->Prop}{E':b7->f7->Prop}
theorem DefX.frs(d:DefX X):b∈frs X.stack↔b=X.env.locals\/b∈X.fs:=by rw[d.stk];unfold L2.frs;rw[Nu,d.fr];exact A4
theorem u6.nloc(I:u6 X pins σ H s)(e:X.s₀.heap.get? b=a7 o):b≠X.env.locals:=λz=>by subst z;exact G8 _<|G9 (A0 e) I.ok.above
theorem xr(I:u6 X pins σ H1 s)(d:DefX X)(m:P3 s.heap h' e C vs)(h:∀h'',NC X.prog X.w X.outer X.H₀ X.s₀.heap e C H1 h''->Q () { s with heap:=h'' }):ge M X.A (leaving X.env<|.ref e) Q E' { s with heap:=h' }:=by
 have r:X.A.frames=a7 (X.env::X.outer):=d.stk ▸ I.ok.frames;have D:s.heap.FunFrames X.base (X.env::X.outer):=d.stk ▸ I.stack;have i:∀{b o},s.heap.get? b=a7 o->b∉frs X.stack->(O9 s.heap<|frs X.stack).get? b=a7 o:=λq c=>PySem.W.hideAll_get _ q c;refine wpAny_leaves_madeW (base:=O9 s.heap<|frs X.stack) (h:=s.heap) r d.fr (λb o q=>Q5 _ q) (PySem.W.funFrames_hide D λenv G b c=>by rw[d.stk];exact Qt.mpr ⟨env,G,c⟩) m λh'' t y _ _ J=>h h'' ?_;have x:∀b:d5,b∉X.ex:=λb z=>by rw[d.ex]at z;cases z
 have g:∀b o,X.s₀.heap.get? b=a7 o->b∉X.fs->∃o',(O9 s.heap<|frs X.stack).get? b=a7 o'/\(X.H₀ b=a8->o'=o):=λb o q c=>by have p:b∉frs X.stack:=λz=>(d.frs.mp z).elim (λz=>I.nloc q z) c;obtain⟨o',F⟩:=I.base.there b o q<|x b;refine⟨o',i F p,λn=>?_⟩;have:=I.base.keep b o q n c<|x b;rw[F]at this;exact C7 this
 have trk:∀b u,H1 b=a7 u->∃o,(O9 s.heap<|frs X.stack).get? b=a7 o:=λb u q=>by obtain⟨o,H⟩:=(I.hok b u q).there;refine⟨o,i H λz=>?_⟩;rw[I.stkFree b z]at q;cases q
 have a:Un X.fs [] X.H₀ H1 X.s₀.heap s.heap:=d.ex ▸ I.base;refine⟨_,_,y,?_,jY I.hok trk (λb o q=>Q5 _ q) y.1,g,trk⟩;have E:∀b,b∈X.fs->∀o,s.heap.get? b=a7 o->∃v,h''.get? b=a7 { o with slots:=v }:=λb c o q=>by obtain⟨_,o',f,P⟩:=D.mem (show b∈(X.env::X.outer).filterMap (·.frame)from d.stk ▸ d.frs.mpr (.inr c));rw[q]at f;cases f;exact J b o (m.keeps b o q) P
 refine⟨λb o q n c j=>?_,λb o q n c j=>?_,a.free,λb o q j=>?_,a.tups,a.frzs,a.tbls⟩;obtain⟨o',f,z⟩:=g b o q c;rw[<-z n];exact y.1 b o' f;obtain⟨v,k⟩:=a.slot b o q n c j;obtain⟨B,l⟩:=E b c _ k;exact⟨B,l⟩;by_cases c:b∈X.fs;obtain⟨o',k⟩:=a.there b o q j;obtain⟨v,l⟩:=E b c _ k;exact⟨_,l⟩;obtain⟨o',f,_⟩:=g b o q c;exact⟨o',y.1 b o' f⟩
theorem CH(I:u6 X pins σ H s)(d:DefX X)(F:NC X.prog X.w X.stack H s.heap e C H1 s'.heap)(h:∀h'',NC X.prog X.w X.outer X.H₀ X.s₀.heap e C H1 h''->Q () { s' with heap:=h'' }):ge M X.A (leaving X.env<|.ref e) Q E' s':=by
 obtain⟨B,J,y,j,K,D,trk⟩:=F;have v:X.A.frames=a7 (X.env::X.outer):=d.stk ▸ I.ok.frames;have O:∀b:d5,b∉X.ex:=λb z=>by rw[d.ex]at z;cases z
 have k:Heap.FlyingW B (X.env::X.outer) e C J s'.heap:=d.stk ▸ y;refine wpAny_leaves_onW v d.fr k λh'' f W=>h h'' ?_;have a:Un X.fs [] X.H₀ H X.s₀.heap s.heap:=d.ex ▸ I.base;have N:=y.2.2.1;have L:∀b,b∈X.fs->∀o,s'.heap.get? b=a7 o->∃E,h''.get? b=a7 { o with slots:=E }:=λb c o q=>by obtain⟨_,o',i,P⟩:=N.mem (show b∈X.stack.filterMap (·.frame)from d.frs.mpr<|.inr c);rw[q]at i;cases i;exact W b o q P
 have g:∀b o,X.s₀.heap.get? b=a7 o->b∉X.fs->∃o',B.get? b=a7 o'/\(X.H₀ b=a8->o'=o):=λb o q c=>by have r:b∉frs X.stack:=λz=>(d.frs.mp z).elim (λz=>I.nloc q z) c;obtain⟨o',m⟩:=a.there b o q qZ;obtain⟨o2,R,z⟩:=D b o' m r;refine⟨o2,R,λn=>?_⟩;rw[z<|a.free b o q n qZ];have:=a.keep b o q n c qZ;rw[m]at this;exact C7 this
 refine⟨B,J,f,?_,jY K trk y.1 f.1,g,trk⟩;have T:∀b o,X.s₀.heap.get? b=a7 o->X.H₀ b=a8->H1 b=a8:=λb o q n=>by obtain⟨o',m⟩:=a.there b o q qZ;exact j.free b o' m (a.free b o q n qZ) qZ
 refine⟨λb o q n c x=>?_,λb o q n c x=>?_,λb o q n x=>T b o q n,λb o q x=>?_,λb xs q=>j.tups b xs<|a.tups b xs q,λb o u q=>j.frzs b o u<|a.frzs b o u q,λb ps q=>?_⟩;obtain⟨o',i,z⟩:=g b o q c;rw[<-z n];exact f.1 b o' i;obtain⟨E,t⟩:=a.slot b o q n c x;obtain⟨S,l⟩:=j.slot b _ t (a.free b o q n x) (d.frs.mpr<|.inr c) x;obtain⟨G,p⟩:=L b c _ l;exact⟨G,p⟩;by_cases c:b∈X.fs;obtain⟨o',t⟩:=a.there b o q x;obtain⟨o2,l⟩:=j.there b o' t x;obtain⟨E,p⟩:=L b c _ l;exact⟨_,p⟩;obtain⟨o',i,_⟩:=g b o q c;exact⟨o',f.1 b o' i⟩;obtain⟨U,t⟩:=a.tbls b ps q;obtain⟨V,l⟩:=j.tbls b _ t;exact⟨U++V,by rw[l,Array.append_assoc]⟩
end
def NE(P:c9)(w:c8):L8:=λk H s E e s'=>∃a C H1,e=.ref a/\s'.os=s.os/\f9 s'.gens/\NC P w k H s.heap a C H1 s'.heap/\E C a8 H1
section
variable{P:c9}{w:c8}{K:v6}{mg:c7->Option b7}{base:d7}{N:List c7}{qual:c7}{scope:f8}{f:d5}{cd:b7}{A:f6}{outer:List Env}{s:f7}{H:Hp}{E:XK}
theorem Ag:DefX (ph CX P w K mg base N qual scope f cd A outer s H E):=⟨rfl,rfl,rfl⟩
theorem EX:wo (NE P w) (ph (NE P w) P w K mg base N qual scope f cd A outer s H E) E:=by rintro p σ H1 c e s' I ⟨a,C,b,rfl,B,d,F,q⟩;exact CH I Ag F λh T=>⟨a,C,b,rfl,B.trans I.os,d,T,q⟩
theorem Fs(I:u6 (ph (NE P w) P w K mg base N qual scope f cd A outer s H E) pins σ H1 s1)(m:P3 s1.heap h' e C vs)(q:E C a8 H1):(ph (NE P w) P w K mg base N qual scope f cd A outer s H E).xe (.ref e) { s1 with heap:=h' }:=by exact xr I Ag m λh T=>⟨e,C,H1,rfl,I.os,I.bare,T,q⟩
end
noncomputable abbrev vE:List b7:=[.type "ValueError",.type "Exception",.type "BaseException",.type "object"]
theorem Fb{K:v6}{h:d7}{C:d5}{B:List b7}{newId:String}(X:K.In h)(q:Od K C B newId=a9):∃bm N nm qn bs hdct sn sub ab col dd k0 k1 k2 k3 k5 mN,h.get? C=a7 (excClassObj nm qn C N bs bm hdct sn sub ab col dd k0 k1 k2 k3 k5 newId)/\h.Ns N mN/\mN "__init__" = a8/\OwnTail h B bm:=by
 unfold Od at q;split at q;rename_i dd c s o;split at q;rename_i j bm k0 k1 k2 k3 n k5 m hs;simp only[F3,t6,Bool.not_eq_true']at q;obtain⟨⟨⟨⟨⟨rfl,rfl⟩,a⟩,D⟩,k⟩,i⟩:=q;obtain⟨nm,bs,f,ns,qn,e,sn,sub,ab,col,b⟩:=c;dsimp only at m a k i;subst m a;have d:s = #[k0,k1,k2,k3,a7<|.builtin n,k5]:=by obtain⟨l⟩:=s;simp only at hs;rw[hs]
 subst d;exact⟨bm,ns,nm,qn,bs,e,sn,sub,ab,col,dd,k0,k1,k2,k3,k5,_,X _ _ o,.of_isNs<|PySem.W.isNs_of_in X k,PySem.W.nsMap_none_of_in X k i,PySem.W.tail_of_in X D⟩;cases q;cases q
section
variable{X:Cx}{x:c7}{C:d5}{np cpos pos:i3}{e₀:g7}{aL:List g7}{pins:List (d5×d6)}{σ:St}{H:Hp}{s:f7}{Ex:b7->f7->Prop}{Q:Flow->f7->Prop}
theorem Bt(I:u6 X pins σ H s)(m:X.mg x=a7 (.ref C))(q:Od X.K C vE "ValueError.__new__" = a9)(g:X.calm=a9)(w:ge (g9 X.prog X.w) X.A (spliced<|i4 cpos<|i5 (e₀::aL) X.env) (λus s₂=>us.length<=sizeLine/\(∀b o,X.base.get? b=a7 o->s₂.heap.get? b=a7 o)/\∀h' e,P3 s₂.heap h' e (.ref C) us->Ex (.ref e) { s₂ with heap:=h' }) Ex s) (R:Gl X x:=by rfl)(c:i5 (e₀::aL) X.env=(bt,eval e₀ X.env)::i5 aL X.env:=by rfl) (l:(i4 cpos<|i5 aL X.env).any (·.1)=bt:=by rfl) (h:(x==("__debug__":c7))=bt:=by decide):ge (g9 X.prog X.w) X.A (exec (.Raise (a7<|.Call (.Name x np) (e₀::aL) [] cpos) a8 pos) X.env) Q Ex s:=by obtain⟨t,N,nm,n,bs,hdct,sn,sub,ab,col,dd,k0,k1,k2,k3,k5,mN,d,f,i,T⟩:=Fb I.mod.kin q;have B:=F.excBase_ValueError;refine wpAny_Raise_call_subU (C:=C) (nm:=nm) (q:=n) (N:=N) (bs:=bs) (bm:=t) (hdct:=hdct) (sn:=sn) (sub:=sub) (ab:=ab) (col:=col) (dd:=dd) (k0:=k0) (k1:=k1) (k2:=k2) (k3:=k3) (k5:=k5) B B.hasB B (mN:=mN) (T.hasType B.hasBase) (I.ok.hd g) (by rw[c];show (bt||(i4 cpos<|i5 aL X.env).any (·.1))=bt;rw[l];rfl) i<|gM I R m ⟨rfl,?_⟩ h;rw[c]at w ⊢;exact Po<|G3 w (λus s₂ ⟨z,a,k⟩=>⟨rfl,z,a _ _ d,f.keeps a,T.keeps a,k⟩) λ_ _ y=>y
end
section
variable{X:Cx}{pins:List (d5×d6)}{σ:St}{H:Hp}{s:f7}
theorem xI(I:u6 X pins σ H s)(T:X.N.Nodup)(hi:X.N[i]?=a7 x)(C:X.env.scope.names.lookup x=a7 .local)(W:σ[i]?=a7 (a7 v))(h:∀s',u6 X pins (σ.set i a8) H s'->Q () s'):ge M A (unbindName X.env x) Q E s:=by
 obtain⟨m,K,J⟩:=id I.loc;have R:(X.env.scope.kind==.class||(X.env.scope.kind==.module&&X.env.locals != X.env.globals))=bt:=by rw[I.ok.kind];rfl
 have D:i<σ.length:=by rw[I.len];exact(A5.mp hi).1
 have G:=I.cne;obtain⟨u,r,Z⟩:=J i x v hi W<|.inl C;have U:m x=a7 u:=by
  rcases Z with⟨_,e⟩|⟨k,_⟩
  exact e;rcases k with k|k<;>(have O:X.env.scope.names.lookup x=_:=k;rw[C]at O;cases O)
 refine wpAny_unbindName_local C K U R λh' u' F hs=>?_;obtain⟨oL,_,_,V,_⟩:=id K;have f:D4 X.prog X.w H h':=λb ob e=>by refine(I.hok b ob e).stay (λc Y g q=>(hs.2 c ?_).trans q) (λ_ q=>q) λ_ _ q=>q;rintro rfl;rcases g with rfl|g;rw[I.free]at e;cases e;rw[I.free]at g;cases g
 refine h _ ⟨I.ok,I.os,I.bare,⟨λb o e n B a=>?_,λb o e n B a=>?_,I.base.free,λb o e a=>?_,I.base.tups,I.base.frzs,I.base.tbls⟩,⟨_,F,λj y v' t l S=>?_⟩,λy c e=>?_,I.free,I.freeC,λp hp=>?_,f,by simpa using I.len⟩;exact(hs.2 b<|A3<|G9 (A0 e) I.ok.above).trans<|I.base.keep b o e n B a;obtain⟨sl,t⟩:=I.base.slot b o e n B a;exact⟨sl,(hs.2 b<|A3<|G9 (A0 e) I.ok.above).trans t⟩;obtain⟨o',t⟩:=I.base.there b o e a;exact⟨o',(hs.2 b<|A3<|G9 (A0 e) I.ok.above).trans t⟩;by_cases L:j=i;subst L;rw[LF D]at l;cases l;rw[Lv<|A1 L]at l;obtain⟨u',r',q⟩:=J j y v' t l S;refine⟨u',r',?_⟩;rcases q with⟨k,e⟩|⟨k,c,e,z⟩
 refine .inl ⟨k,?_⟩;have:y≠x:=λe=>L<|oN T t<|e ▸ hi;simp[this,e];exact .inr ⟨k,c,e,z.sameBut hs<|G y c e⟩;obtain⟨Y,z⟩:=I.cell y c e;exact⟨Y,z.sameBut hs<|G y c e⟩;obtain⟨e,n,P,nf,d⟩:=I.pin p hp;exact⟨(hs.2 p.1 P).trans e,n,P,nf,d⟩
noncomputable abbrev Cx.held(X:Cx)(a:d5):Cx:={ X with A:=X.A.mark<|a7<|.ref a,calm:=bt,xe:=λ_ _=>False }
theorem u6.held(I:u6 X pins σ H s)(a:d5):u6 (X.held a) pins σ H s:=⟨⟨I.ok.mod,I.ok.kind,I.ok.glob,I.ok.blt,I.ok.above,I.ok.inj,I.ok.has,I.ok.cab,(λz=>Bool.noConfusion z),I.ok.frames,I.ok.stk,I.ok.exf,I.ok.bs,I.ok.bsz,I.ok.noex,I.ok.exfs,I.ok.funs,I.ok.frf⟩,I.os,I.bare,I.base,I.loc,I.cell,I.free,I.freeC,I.pin,I.hok,I.len⟩
theorem u6.unheld(ok:X.Ok)(I:u6 (X.held a) pins σ H s):u6 X pins σ H s:=⟨ok,I.os,I.bare,I.base,I.loc,I.cell,I.free,I.freeC,I.pin,I.hok,I.len⟩
theorem Ar{H1:Hp}{s':f7}{a C C':d5}{i:Nat}{n y:c7}{np pos:i3}{l:i6}{j:List i6}{aL:List ExceptHandler}{D:Ends}{tS:TS}{E:b7->f7->Prop}(I:u6 X pins σ H s)(d:DefX X)(ho:s'.os=s.os)(hb:f9 s'.gens)(F:NC X.prog X.w X.stack H s.heap a (.ref C) H1 s'.heap) (Y:X.N.Nodup) (hi:X.N[i]?=a7 n) (O:X.env.scope.names.lookup n=a7 .local) (hy:X.mg y=a7 (.ref C')) (hm:P0 X.K (.ref C) (.ref C')=a7 a9)(hs:K5 (X.held a) (l::j) tS) (q:tS ⟨λσ' H'=>D.nx (σ'.set i a8) H',λ_ _=>False,λ_ _=>False,λ_ _=>False⟩ (σ.set i<|a7<|.ref a) (z5 H1 a<|.ext<|GZ a<|.ref C))(hg:Gl X y:=by rfl) (Z:(y==("__debug__":c7))=bt:=by decide):ge (g9 X.prog X.w) X.A (noteFrame (.ref a) X.env) (λ_ s₂=>ge (g9 X.prog X.w) X.A (setFlight (.ref a) a8) (λ_ s₃ =>
   ge (g9 X.prog X.w) X.A (handleBy (.ref a) X.env<|.ExceptHandler (a7<|.Name y np) (a7 n) (l::j) pos::aL) (SP X pins D) E s₃) E s₂) E s':=by
 obtain⟨B,a0,p,un,aj,r,trk⟩:=F;have ab:X.A.frames=a7 (X.env::X.outer):=d.stk ▸ I.ok.frames;have M:Heap.FlyingW B (X.env::X.outer) a (.ref C) a0 s'.heap:=d.stk ▸ p;refine wpAny_looks_onW ab d.fr M λaD h t=>?_;refine wpAny_landsW h λh₅ c x=>?_;have T:=xJ un r p.2.2.1 c.1 λb o e nf=>by obtain⟨sl,e1⟩:=t b o e nf;obtain⟨al,e2⟩:=x b _ e1 nf;exact⟨al,e2⟩
 have m:=jY aj trk p.1 c.1;have I5:u6 X pins σ H1 { s' with heap:=h₅ }:=I.call' (ch:=[]) ho T m hb λb z=>t4 z qZ;obtain⟨ob,ai,P⟩:=c.there;refine wpAny_handleBy_cons (codeAny_handlers_test<|gM (X:=X.held a) (I5.held a) hg hy ?_ Z) (by intro q;cases q);have LT:PySem.W.Looks (g9 X.prog X.w) h₅ (m8<|.ref a) (.ref C):=P ▸ (PySem.W.Looks.ld ai).andThen .now;refine(PySem.W.exm_one I5.kIn LT hm).at ?_;refine codeAny_handlers_suite_as<|lands_againW c λS g G=>?_;have an:=xJ T r (d.stk ▸ c.2.2.1) g.1 G;have Q:=jY m trk c.1 g.1;obtain⟨as,R⟩:=NC.track an Q r trk<|d.stk ▸ g;have I7:u6 X pins σ (z5 H1 a<|.ext<|GZ a<|.ref C) { s' with heap:=S }:=I.call' (ch:=[]) ho as R hb λb z=>t4 z qZ;refine iq (v:=.ref a) I7 Y hi (.inl O) rfl (λs8 I8=>?_)<|.inr O;refine G3 (hs pins s8 _ _ _ (I8.held a) q) (λf s9 U=>?_) λ_ _ z=>z.elim;cases f with
 |next =>
  obtain⟨σ',H',J,k⟩:=U;have J':=J.unheld I.ok;refine u4<|wpAny_bindName<|iq (v:=.non) (u:=.none) J' Y hi (.inl O) rfl (λaS V=>?_)<|.inr O;have hl:i<σ'.length:=by rw[J'.len];exact(A5.mp hi).1
  refine OY<|xI (v:=.non) V Y hi O (LF hl) λbe L=>?_;rw[List.set_set]at L;exact⟨_,_,L,k⟩
 |ret u=>obtain⟨_,_,_,_,_,z⟩:=U;exact z.elim
 |brk=>obtain⟨_,_,_,z⟩:=U;exact z.elim
 |cont=>obtain⟨_,_,_,z⟩:=U;exact z.elim
end
abbrev DX:=c7->v5->Prop
abbrev G7:=DX->u9
abbrev AL:=DX->x9
abbrev AH:=List D->v5->DK->DX->Prop
inductive XQ(K:v6)(ρ:List d5)(H:Hp)(R:DX)(C:b7)(dx:Option d5)(H':Hp):Prop
 |mk (x:c7) (c:d5) (M':v5) (ρ':List d5) (e:C=.ref c) (hx:MJ K e7 x=a7 (a7 (.ref c))) (s:w9 K ρ' M' H') (g:Grow K ρ H ρ' H') (q:R x M')
section
variable{K:v6}{ρ ρ1:List d5}{H H1 H':Hp}{R:DX}{C:b7}{dx:Option d5}{M:v5}
theorem XQ.trans(g:Grow K ρ H ρ1 H1)(h:XQ K ρ1 H1 R C dx H'):XQ K ρ H R C dx H':=by obtain⟨x,c,M',ρ',e,b,s,a,q⟩:=h;exact⟨x,c,M',ρ',e,b,s,g.trans a,q⟩
def XEnd(M:v5)(R:DX):DX:=λx M'=>R x M'\/∃a,N5 M a/\a <+: M'/\R x a
theorem XQ.endq(s:w9 K ρ M H)(h:XQ K ρ H (XEnd M R) C dx H'):XQ K ρ H R C dx H':=by
 obtain⟨x,c,M',ρ',e,d,s',b,o⟩:=h;rcases o with q|⟨a,g,f,q⟩
 exact⟨x,c,M',ρ',e,d,s',b,q⟩;have k:ρ'.take M.length=ρ:=by rw[<-s.len];exact bB b.pre
 have i:=s'.cut M.length λn m l e=>by
  have j:a[n]?=a7 m:=by obtain⟨t,rfl⟩:=f;rw[Le<|by rw[g.1];exact l]at e;exact e
  exact(g.2 n m j).elim (λz=>s.bels z) id
 have p:M'.take M.length=a:=by rw[<-g.1];exact bB f
 rw[k,p]at i;exact⟨x,c,a,ρ,e,d,i,⟨Ml,b.tup⟩,q⟩
end
inductive lowX(K:v6)(E:XK)(t:G7)(D:Ends)(σ:St)(H:Hp):Prop
 |mk (S:SD) (M:v5) (ρ:List d5) (F:DEnds) (R:DX) (s:w9 K ρ M H) (sr:SRep K ρ H S σ) (q:t R F S M) (k:OJ K ρ H F D) (x:∀C dx H',XQ K ρ H R C dx H'->E C dx H')
inductive lowXE(K:v6)(E:XK)(t:AL)(σ:St)(H:Hp)(Q:VK):Prop
 |mk (S:SD) (M:v5) (ρ:List d5) (F:DK) (R:DX) (s:w9 K ρ M H) (sr:SRep K ρ H S σ) (q:t R S M F) (k:∀v H',VQ K ρ H F v H'->Q v H') (x:∀C dx H',XQ K ρ H R C dx H'->E C dx H')
structure XA(b:Bool)(X:Cx)(pins:List (d5×d6))(E:XK)(P:St->Prop)(Ex:b7->f7->Prop):Prop where
 on:∀σ H1 s1 e s',P σ->u6 X pins σ H1 s1->NE X.prog X.w X.stack H1 s1 E e s'->Ex e s'
 all:b=a9->∀σ,P σ
 made:b=a9->∀σ H1 s1 h' e C vs,u6 X pins σ H1 s1->P3 s1.heap h' e C vs->E C a8 H1->Ex (.ref e) { s1 with heap:=h' }
structure HX(b:Bool)(X:Cx)(st:i6)(t:G7):Prop where
 ok:∀(pins:List (d5×d6)) (s:f7) (σ:St) (H:Hp) (D:Ends) (E:XK) (P:St->Prop) (Ex:b7->f7->Prop),XA b X pins E P Ex->P σ->u6 X pins σ H s->lowX X.K E t D σ H->ge (g9 X.prog X.w) X.A (exec st X.env) (SP X pins D) Ex s
structure MF(b:Bool)(X:Cx)(st:List i6)(t:G7):Prop where
 ok:∀(pins:List (d5×d6)) (s:f7) (σ:St) (H:Hp) (D:Ends) (E:XK) (P:St->Prop) (Ex:b7->f7->Prop),XA b X pins E P Ex->P σ->u6 X pins σ H s->lowX X.K E t D σ H->ge (g9 X.prog X.w) X.A (execs st X.env) (SP X pins D) Ex s
structure OO(b:Bool)(X:Cx)(e:g7)(t:AL):Prop where
 ok:∀(pins:List (d5×d6)) (s:f7) (σ:St) (H:Hp) (Q:VK) (E:XK) (P:St->Prop) (Ex:b7->f7->Prop),XA b X pins E P Ex->P σ->u6 X pins σ H s->lowXE X.K E t σ H Q->ge (g9 X.prog X.w) X.A (eval e X.env) (EP X pins σ Q) Ex s
def Nd(t:u9):G7:=λ_=>t
def GT(t u:G7):G7:=λR=>aB (t R)<|u R
def PB(c:J1)(t u:G7):G7:=λR=>B6 c (t R)<|u R
def xSet(t:AL)(i:Nat):G7:=λR=>bg (t R) i
def AR(t:AL):G7:=λR=>iM<|t R
def NW(P:AH)(t:E8):AL:=λR S M Q=>t S M λds a=>P ds a Q R
def uF(x:c7)(t:E8):G7:=λR _ S M=>t S M λds a=>ds.length<=sizeLine/\R x a
theorem PA.nox(h:PA X.nox es t)(I:u6 X pins σ H s)(q:t σ H Q):ge (g9 X.prog X.w) X.A (spliced<|i4 pos<|i5 es X.env) (AP X pins σ Q) Ex s:=G3 (h pos pins s σ H Q (I.wish _) q) (λ_ _ ⟨v,H',a,r,z⟩=>⟨v,H',a.unwish,r,z⟩) λ_ _ z=>G5 z
section
variable{b:Bool}{X:Cx}{st:i6}{aL:List i6}{t u:G7}{te:AL}{e:g7}{es:List g7}{pos:i3}
theorem IW{t:u9}(h:HS X.nox st t):HX b X st (Nd t):=by refine⟨ ?_⟩;rintro a s σ H D E P Ex A p I ⟨S,M,ρ,F,R,m,c,q,k,x⟩;exact G3 (h.ok a s σ H D (I.wish _) ⟨S,M,ρ,F,m,c,q,k⟩) (λ_ _ z=>z.unwish) λ_ _ z=>G5 z
theorem FC:MF b X [] (Nd aI):=by refine⟨ ?_⟩;rintro a s σ H D E P Ex A p I ⟨S,M,ρ,F,R,m,c,q,k,x⟩;exact On ⟨σ,H,I,k.nx σ H ⟨S,M,ρ,m,.refl,c,q⟩⟩
theorem zn(h:HX b X st t):MF b X [st] t:=⟨λa s σ H D E P Ex A p I q=>by
 refine Qd<|x6 (h.ok a s σ H D E P Ex A p I q) λf c q=>?_;cases f with
 |next=>exact On q
 |ret v=>exact q
 |brk=>exact q
 |cont=>exact q⟩
theorem vQ(h1:HX a9 X st t)(h2:MF a9 X aL u):MF a9 X (st::aL) (GT t u):=⟨λb s σ H D E P Ex A p I ⟨S,M,ρ,F,R,m,r,q,k,x⟩=>by
 refine Qd<|x6 (h1.ok b s σ H { D with nx:=λa H'=>SQ X.K ρ H (λc M'=>u R F c M') a H' } E P Ex A p I ⟨S,M,ρ,_,R,m,r,q,⟨λ_ _ z=>z,k.rt,k.bk,k.ct⟩,x⟩) λf l z=>?_;cases f with
 |next=>obtain⟨a,H',h,c,M',ρ',s',g,d,j⟩:=z;exact h2.ok b l a H' D E P Ex A (A.all rfl a) h ⟨c,M',ρ',F,R,s',d,j,k.trans g,λC i e w=>x C i e<|w.trans g⟩
 |ret v=>exact z
 |brk=>exact z
 |cont=>exact z⟩
theorem IX(v:HT X.nox c tc)(o:MF b X a t)(y:MF b X d u):HX b X (.If c a d pos) (PB tc t u):=⟨λe s σ H D E P Ex A p I ⟨S,M,ρ,F,R,B,r,q,k,x⟩=>by
 refine wpAny_If<|G3 (v.ok e s σ H _ (I.wish _) ⟨S,M,ρ,_,B,r,q,λ_ _ z=>z⟩) (λc n ⟨H1,j,l,g,f,g1,m⟩=>?_) λ_ _ z=>G5 z;cases c with
 |true=>exact o.ok e n σ H1 D E P Ex A p j.unwish ⟨S,l,g,F,R,f,r.grow g1,m,k.trans g1,λC i h w=>x C i h<|w.trans g1⟩
 |false=>exact y.ok e n σ H1 D E P Ex A p j.unwish ⟨S,l,g,F,R,f,r.grow g1,m,k.trans g1,λC i h w=>x C i h<|w.trans g1⟩⟩
theorem zo(i:OO b X e te)(hs:i8 e a8 pos.line X.env=pure bt:=by kernel_rfl):HX b X (.Expr e pos) (AR te):=by refine⟨ ?_⟩;rintro a s σ H D E P Ex A p I ⟨S,M,ρ,F,R,m,r,q,k,x⟩;exact wpAny_Expr_any (x6 (i.ok a s σ H _ E P Ex A p I ⟨S,M,ρ,_,R,m,r,q,λ_ _ z=>z,x⟩) λv n ⟨y,H1,g,l,d,h,c,f,g1,r',j⟩=>⟨σ,H1,g,k.nx σ H1 ⟨S,h,c,f,g1,r.grow g1,j⟩⟩) I.quiet hs
theorem DM(l:X.N.Nodup)(m:OO b X e te)(hi:X.N[i]?=a7 x:=by kernel_rfl)(o:Fu X.env.scope x=a9:=by kernel_rfl)(hs:i8 e (a7<|.Name x pos') pos.line X.env=pure bt:=by kernel_rfl)(n:X.fn x=a9:=by kernel_rfl):HX b X (.Assign [.Name x pos'] e pos) (xSet te i):=⟨by rintro a s σ H D E P Ex A p I ⟨S,M,ρ,F,R,w,r,q,k,B⟩;refine wpAny_Assign_Name (x6 (m.ok a s σ H _ E P Ex A p I ⟨S,M,ρ,_,R,w,r,q,λ_ _ z=>z,B⟩) ?_) hs;rintro v C ⟨y,H1,g,u,d,j,c,f,g1,r',t⟩;exact iq g l hi (vO o) u (λG h=>⟨_,H1,h,k.nx _ H1 ⟨_,j,c,f,g1,(r.grow g1).set i r',t⟩⟩)<|.inl n⟩
theorem Cc(o:X.mg x=a7 (.ref C))(t:MJ X.K e7 x=a7 (a7<|.ref C))(q:Od X.K C vE "ValueError.__new__" = a9)(h:HA X.nox (e::es) ta)(i:X.calm=a9:=by kernel_rfl)(n:X.env.kindOf x=a7 .globalImplicit:=by kernel_rfl) (j:i5 (e::es) X.env=(bt,eval e X.env)::i5 es X.env:=by kernel_rfl) (l:(i4 cpos<|i5 es X.env).any (·.1)=bt:=by kernel_rfl) (b:(x==("__debug__":c7))=bt:=by kernel_rfl):HX a9 X (.Raise (a7<|.Call (.Name x np) (e::es) [] cpos) a8 pos) (uF x ta):=⟨λd s σ H D E P Ex A p I ⟨S,M,ρ,F,R,B,G,w,k,J⟩=>by refine Bt I o q i (G3 (h.ok.nox (Ex:=Ex) I ⟨S,M,ρ,_,B,G,w,λ_ _ z=>z⟩) (λus v ⟨vs,H1,a,r,ds,g,c,f,g1,u,z,y⟩=>?_) λ_ _ z=>z) n j l b;refine⟨by rw[<-r.length,<-u.length];exact z,a.bk,λh' e m=>A.made rfl σ H1 v h' e _ _ a m<|J _ _ _ ⟨x,C,g,c,rfl,t,f,g1,y⟩⟩⟩
end
def Rt(K:v6)(P:AH):Sp:=λvs H Q E=>∃ds M ρ R RX,w9 K ρ M H/\Reps K ρ H ds vs/\P ds M R RX/\(∀v H',VQ K ρ H R v H'->Q v H')/\∀C d H',XQ K ρ H RX C d H'->E C d H'
def AI(P:c9)(w:c8)(K:v6)(mg:c7->Option b7)(base:d7)(k:Nat)(x:c7)(ps:List c7)(c:AH):Prop:=∃f d,FnOk P w K mg base (NE P w) k f d ps (Rt K c)/\mg x=a7 (.ref f)/\MM K (.ref f)=a9/\mM K d ps []
section
variable{b:Bool}{X:Cx}{e:g7}{es:List g7}{x:c7}{p pos:i3}{t:E8}
theorem DN(C:AI X.prog X.w X.K X.mg X.base j x ps P)(Z:Room k X.A)(N:HA X.nox (e::es) t)(hj:Nat.ble j k=a9:=by kernel_rfl)(U:X.env.kindOf x=a7 .globalImplicit:=by kernel_rfl)(d:(x==("__debug__":c7))=bt:=by kernel_rfl) (T:i5 (e::es) X.env=(bt,eval e X.env)::i5 es X.env:=by kernel_rfl) (l:(i4 pos<|i5 es X.env).any (·.1)=bt:=by kernel_rfl):OO b X (.Call (.Name x p) (e::es) [] pos) (NW P t):=⟨by
 rintro y s σ H Q E G Ex A g I ⟨S,M,ρ,F,R,sm,sr,q,k,xx⟩;obtain⟨f,fd,o,Y,V,O⟩:=C;refine Nt<|gM I U Y ?_ d;refine Qr (h₀:=X.base) I.ok.mod.kin V (G3 (N.ok.nox (Ex:=Ex) (pos:=pos) I ⟨S,M,ρ,_,sm,sr,q,λ_ _ z=>z⟩) (λus i z=>?_) λ_ _ z=>z) T l;obtain⟨vs,H1,a,r,ds,D,n,m,g1,r1,q1⟩:=z;refine⟨a.kIn,?_⟩;have c:Rt X.K P (vs++[]) H1 Q E:=⟨ds,D,n,F,R,m,by rw[Lb];exact r1,q1,λv H' w=>k v H'<|VQ.trans g1 w,λC J H' w=>xx C J H'<|w.trans g1⟩
 have B:aw (vs++[]) (us++[]):=by rw[Lb,Lb];exact r
 have W:(us++[]).length=ps.length:=by rw[<-B.length];exact o.len _ _ _ _ c
 refine l7<|MK ((o.more<|Qx hj).run X.A X.stack i H1 ⟨us,[]⟩ (us++[]) (vs++[]) Q E Z a.env0 (O i us a.kIn W) B c) λr s' h=>?_;cases r with
 |error e=>exact A.on σ H1 i e s' g a h
 |ok L =>
  cases L with
  |ret u=>exact a.after h
  |next=>exact G5 h
  |brk=>exact G5 h
  |cont=>exact G5 h⟩
end
abbrev LenX(Pr:AH)(ps:List c7):Prop:=∀ds M R RX,Pr ds M R RX->ds.length=ps.length
abbrev DerX(P:c9)(w:c8)(K:v6)(mg:c7->Option b7)(base:d7)(k:Nat)(x:c7)(N:List c7)(st:i6)(t:G7):Prop:=∀(f:d5) (cdv:b7) (A:f6) (outer:List Env) (s:f7) (H:Hp) (E:XK),Room k (A.deeper<|Q7 x (aq st) s.heap.objs.size f cdv)->MF a9 (ph (NE P w) P w K mg base N x (aq st) f cdv A outer s H E) (bx st) t
section
variable{P:c9}{w:c8}{K:v6}{mg:c7->Option b7}{base:d7}{x:c7}{st:i6}{N ps:List c7}{k:Nat}{Pr:AH}{B:List c7}{C:List (c7×Int)}{t:G7}
theorem AI.by(T:TopB mg B C)(F:cz K mg x st ps)(L:FnScope N ps (aq st))(y:LenX Pr ps)(l:TopB mg B C->N.Nodup->DerX P w K mg base k x N st t)(wp:∀ds M R RX,Pr ds M R RX->t (XEnd M RX) (EE M R) (ci N ds) M):AI P w K mg base (k+1) x ps Pr:=by obtain⟨f,X,G,Z,Y⟩:=F;refine⟨f,X,?_,Z,G.kp,Y⟩;obtain⟨oc,od,kV,V,pm,an,i,ct,ab,rfl,lk,u⟩:=G.ex;refine JZ lk u L (λvs H Q E ⟨ds,M,ρ,R,RX,s,r,q,_⟩=>by rw[<-r.length];exact y ds M R RX q) λA o s H vs Q E hr h=>?_;obtain⟨ds,M,ρ,R,RX,d,r,q,O,kx⟩:=h;refine⟨lowX K E t,λp s1 σ H1 D I z=>(l T L.nd f i A o s H E hr).ok p s1 σ H1 D E (λ_=>True) _ ⟨λa J U e s' _ g c=>EX p a J U e s' g c,λ_ _=>trivial,λ_ a J U h' e C vs g m q=>Fs g m q⟩ trivial I z,ci N ds,M,ρ,_,_,d,SRep.start r N,wp ds M R RX q,⟨λa H' ⟨S,M',ρ',s',n,b,j⟩=>?_,λv H' z=>O v H'<|VQ.endq d z,λa H' ⟨S,M',ρ',s',n,b,j⟩=>j.elim,λa H' ⟨S,M',ρ',s',n,b,j⟩=>j.elim⟩,λC W H' z=>kx C W H'<|XQ.endq d z⟩;exact O .non H'<|VQ.endq d ⟨.non,M',ρ',s',n,.non,j⟩
end
abbrev QX(Pr:AH)(n:Nat)(t:G7):Prop:=∀ds M R RX,Pr ds M R RX->t (XEnd M RX) (EE M R) (QU n ds) M
abbrev OD(Pr:AH):A2:=λds M R=>Pr ds M R λ_ _=>False
theorem AI.nev{P:c9}{w:c8}{K:v6}{mg:c7->Option b7}{base:d7}{x:c7}{ps:List c7}{k:Nat}{c:AH}(h:AI P w K mg base k x ps c):x5 P w K mg base k x ps (OD c):=by
 obtain⟨f,g,F,m,j,i⟩:=h;have n:∀{ρ:List d5}{H:Hp} (C:b7) (d:Option d5) (H':Hp),XQ K ρ H (λ_ _=>False) C d H'->E0 C d H':=λC d H' ⟨_,_,_,_,_,_,_,_,q⟩=>q;refine⟨f,g,⟨λvs H Q E ⟨ds,M,ρ,R,s,r,q,D⟩=>F.len vs H Q E0 ⟨ds,M,ρ,R,_,s,r,q,D,n⟩,λA o s H O us vs Q E p b a v ⟨ds,M,ρ,R,t,r,q,D⟩=>?_⟩,m,j,i⟩;refine MK (F.run A o s H O us vs Q E0 p b a v ⟨ds,M,ρ,R,_,t,r,q,D,n⟩) λr s' z=>?_;cases r with
 |error e=>obtain⟨_,_,_,_,_,_,_,z⟩:=z;exact z.elim
 |ok l=>cases l<;>exact z
theorem Ga{X:Cx}{c:Bool}{b:List i6}{st:i6}{s:List i6}{t:G7}(h:b=st::s)(q:MF c X (st::s) t):MF c X b t:=h ▸ q
noncomputable abbrev xC:=List<|c7×List (c7×Bool)
noncomputable def xy(K:v6)(t:c7×List (c7×Bool)):Bool:=match MJ K e7 t.1 with
 |some (a7<|.ref C)=>Od K C vE "ValueError.__new__" && Nm K (.ref C) "__getattribute__" == a7 (a7<|.builtin "BaseException.__getattribute__")&&Nm K (.ref C) "__getattr__" == a7 a8 &&
   PySem.W.mroIn K C (.type "BaseException")==a7 a9&&PySem.W.mroIn K C (.type "object")==a7 a9&&Nm K (.ref C) "__class__" == a7 (a7<|.builtin "object.__class__")&&LM K (.ref C) (.type "ValueError")==a7 a9 &&
   t.2.all λr=>match MJ K e7 r.1 with
    |some (a7<|.ref C')=>P0 K (.ref C) (.ref C')==a7 r.2&&LM K (.ref C) (.ref C')==a7 r.2&&LM K (.type "NoneType") (.ref C')==a7 bt
    |_=>bt
 |_=>bt
noncomputable def dc(K:v6)(T:xC):Bool:=T.all<|xy K
noncomputable def mB(T:xC)(x y:c7):Option Bool:=(T.lookup x).bind (·.lookup y)
structure ClsX(K:v6)(x:c7)(C:d5):Prop where
 at_:MJ K e7 x=a7 (a7<|.ref C)
 exc:Od K C vE "ValueError.__new__" = a9
 own:ExcK K C
 val:LM K (.ref C) (.type "ValueError")=a7 a9
theorem xy.cls{K:v6}{x:c7}{w:List (c7×Bool)}(h:xy K (x,w)=a9):∃C,ClsX K x C/\∀y v,(y,v)∈w->∃C',MJ K e7 y=a7 (a7<|.ref C')/\P0 K (.ref C) (.ref C')=a7 v/\LM K (.ref C) (.ref C')=a7 v/\LM K (.type "NoneType") (.ref C')=a7 bt:=by unfold xy at h;split at h;rename_i C e;simp only[F3,t6]at h;obtain⟨⟨⟨⟨⟨⟨⟨h1,h2⟩,b⟩,d⟩,k⟩,c⟩,f⟩,g⟩:=h;refine⟨C,⟨e,h1,⟨h2,b,d,k,c⟩,f⟩,λy v Q=>?_⟩;have:=E7.mp g (y,v) Q;dsimp only at this;split at this;rename_i C' a;simp only[F3,t6]at this;exact⟨C',a,this.1.1,this.1.2,this.2⟩;cases this;cases h
theorem fO{α β:Type}[BEq α][LawfulBEq α]{a:α}{v:β}:∀{l:List (α×β)},l.lookup a=a7 v->(a,v)∈l
 | [],h=>by cases h
 |(c,w)::l,h=>by rw[Na]at h;split at h;rename_i e;cases h;rw[beq_iff_eq.mp e];exact Fn;exact D0 _<|fO h
theorem dc.cls{K:v6}{T:xC}{x:c7}(h:dc K T=a9)(b:(T.lookup x).isSome=a9):∃C,ClsX K x C/\∀y v,mB T x y=a7 v->∃C',MJ K e7 y=a7 (a7<|.ref C')/\P0 K (.ref C) (.ref C')=a7 v/\LM K (.ref C) (.ref C')=a7 v/\LM K (.type "NoneType") (.ref C')=a7 bt:=by obtain⟨w,e⟩:=Ow.mp b;obtain⟨C,c,r⟩:=xy.cls<|E7.mp h _<|fO e;refine⟨C,c,λy v a=>?_⟩;unfold mB at a;rw[e]at a;exact r y v<|fO a
theorem mB.has(h:mB T x y=a7 v):(T.lookup x).isSome=a9:=by
 unfold mB at h;cases q:T.lookup x with
 |none=>rw[q]at h;cases h
 |some _=>rfl
section
variable{b:Bool}{X:Cx}{e:g7}{es:List g7}{x:c7}{pos:i3}
theorem rT{n a:i3}{t:E8}{T:xC}(m:dc X.K T=a9)(f:HA X.nox (e::es) t)(g:(T.lookup x).isSome=a9:=by kernel_rfl)(d:X.calm=a9:=by kernel_rfl)(R:X.env.kindOf x=a7 .globalImplicit:=by kernel_rfl) (i:i5 (e::es) X.env=(bt,eval e X.env)::i5 es X.env:=by kernel_rfl) (l:(i4 a<|i5 es X.env).any (·.1)=bt:=by kernel_rfl) (h:(x==("__debug__":c7))=bt:=by kernel_rfl):HX a9 X (.Raise (a7<|.Call (.Name x n) (e::es) [] a) a8 pos) (uF x t):=⟨λb s σ H D E P Ex A p I z=>by obtain⟨C,c,_⟩:=dc.cls m g;exact(Cc (PZ I.mod.kin I.mod.glob c.at_) c.at_ c.exc f d R i l h).ok b s σ H D E P Ex A p I z⟩
def dTry(T:xC)(y:c7)(i:Nat)(t:G7)(s:u9):u9:=λF S M =>
 t (λx M'=>mB T x y=a7 a9/\s ⟨λb a=>F.nx (b.set i a8) a,λ_ _=>False,λ_ _=>False,λ_ _=>False⟩ (S.set i<|a7<|.ref M'.length) (M'++[.exc x])) F S M
theorem SRep.drop{K:v6}{ρ:List d5}{H:Hp}{S:SD}{σ:St}(r:SRep K ρ H S σ)(i:Nat):SRep K ρ H (S.set i a8) (σ.set i a8):=by refine⟨by simpa using r.len,λj d e=>?_⟩;by_cases h:i=j;subst h;by_cases g:i<S.length;rw[LF g]at e;cases e;rw[Nv<|by simpa using g]at e;cases e;rw[Lv h]at e;obtain⟨v,c,a⟩:=r.get j d e;exact⟨v,by rw[Lv h];exact c,a⟩
theorem DR{T:xC}{y n:c7}{i:Nat}{b:List i6}{l:i6}{j:List i6}{np g:i3}{Y:G7}{Z:u9}(hT:dc X.K T=a9)(hN:X.N.Nodup)(hb:MF bt X b Y)(hs:∀a,HB (X.held a) (l::j) Z)(d1:X.stack=X.env::X.outer:=by kernel_rfl) (d2:X.env.frame=a7 X.env.locals:=by kernel_rfl) (d3:X.ex=[]:=by kernel_rfl) (hi:X.N[i]?=a7 n:=by kernel_rfl) (hk:X.env.scope.names.lookup n=a7 .local:=by kernel_rfl)(hg:X.env.kindOf y=a7 .globalImplicit:=by kernel_rfl) (G:(y==("__debug__":c7))=bt:=by kernel_rfl):HS X (.Try b [.ExceptHandler (a7<|.Name y np) (a7 n) (l::j) g] [] [] pos) (dTry T y i Y Z):=⟨by
 rintro p s σ H D I ⟨S,M,ρ,F,sm,W,q,k⟩;refine wpAny_Try_except<|x6 (hb.ok p s σ H D (XQ X.K ρ H _) (λm=>m=σ) _ ⟨?_,λz=>(nomatch z),λz=>(nomatch z)⟩ rfl I ⟨S,M,ρ,F,_,sm,W,q,k,λ_ _ _ z=>z⟩) λf s1 z=>?_;rintro m H1 s1 e s' rfl I1 ⟨a,C,Q,rfl,r,E,P,x,c,M',ρ',rfl,U,V,R,h,q2⟩;obtain⟨t,c0,r0⟩:=dc.cls hT<|mB.has h;obtain⟨C',hy,hm,_⟩:=r0 y a9 h;have ec:t=c:=by have:=c0.at_.symm.trans U;cases this;rfl
 subst ec;have J:Q a=a8:=by
  obtain⟨B,a0,A,_,_,_,trk⟩:=P;cases q:Q a with
  |none=>rfl
  |some u=>obtain⟨o,r⟩:=trk a u q;rw[A.2.1]at r;cases r
 refine Ar (C:=t) (C':=C') (i:=i) I1 ⟨d1,d2,d3⟩ r E P hN hi hk (PZ I.mod.kin I.mod.glob hy) hm (hs a).ok ⟨S.set i<|a7<|.ref M'.length,M'++[.exc x],ρ'++[a],_,V.laidM (mo:=.exc x) J ⟨t,U,aK⟩,(W.grow<|R.trans<|Grow.laidR J).set i<|.ref V.last,q2,⟨λab H3 w=>?_,λ_ _ w=>?_,λ_ _ w=>?_,λ_ _ w=>?_⟩⟩ hg G;obtain⟨S3,M3,O,s3,g3,L,d⟩:=w;exact k.nx _ H3 ⟨_,M3,O,s3,(R.trans<|Grow.laidR J).trans g3,L.drop i,d⟩;obtain⟨_,_,_,_,_,_,d⟩:=w;exact d;obtain⟨_,_,_,_,_,_,d⟩:=w;exact d;obtain⟨_,_,_,_,_,_,d⟩:=w;exact d
 ·cases f with
  |next=>exact On z
  |ret v=>exact z
  |brk=>exact z
  |cont=>exact z⟩
noncomputable def subY(T:xC)(y:c7):Bool:=T.any λr=>(r.2.lookup y).isSome
theorem dc.any{K:v6}{T:xC}{y:c7}(h:dc K T=a9)(Q:subY T y=a9):∃C',MJ K e7 y=a7 (a7<|.ref C')/\LM K (.type "NoneType") (.ref C')=a7 bt:=by obtain⟨⟨x,w⟩,i,g⟩:=Lh.mp Q;obtain⟨v,c⟩:=Ow.mp g;obtain⟨C,_,r⟩:=xy.cls<|E7.mp h _ i;obtain⟨C',h1,_,_,d⟩:=r y v<|fO c;exact⟨C',h1,d⟩
def wc(T:xC)(y:c7)(te:x9):x9:=λS M Q=>te S M λd a=>match d with
 |.ref n=>(match a[n]? with
  |some (.exc x)=>(match mB T x y with
   |some v=>Q (.bl v) a
   |none=>False)
  |_=>False)
 |.non=>Q (.bl bt) a
 |_=>False
def dIsV(T:xC)(te:x9):x9:=λS M Q=>te S M λd a=>match d with
 |.ref n=>(match a[n]? with
  |some (.exc x)=>(T.lookup x).isSome=a9/\Q (.bl a9) a
  |_=>False)
 |.non=>Q (.bl bt) a
 |_=>False
def rIsC(K:v6)(c:V)(u:b7):List V->Hp->VK->Prop:=λvs H Q=>∃e,vs=[e,c]/\((e=.non/\LM K (.type "NoneType") u=a7 bt/\Q (.bl bt) H)\/∃a C v,e=.ref a/\H a=a7 (.ext<|GZ a<|.ref C)/\ExcK K C/\LM K (.ref C) u=a7 v/\Q (.bl v) H)
theorem wg(i:∀u',aJ c u'->u'=u):dH X (.builtin "isinstance") (rIsC X.K c u):=by
 rintro p s σ H vs us Q I d ⟨g,rfl,h⟩;obtain⟨S,J,rfl,r,b⟩:=aw.two d;obtain rfl:=i J b;rcases h with⟨rfl,k,q⟩|⟨a,C,v,rfl,f,E,k,q⟩
 obtain rfl:S=J2:=r;exact PySem.W.kia_one PySem.W.kitx_none I.kIn trivial k (by intro z;cases z) λt=>⟨.bl bt,H,I.tok t,rfl,q⟩
 obtain rfl:S=E6 a:=r;obtain⟨⟨o,w,e,l,_⟩,_⟩:=I.hok a _ f;exact PySem.W.kia_one (Cf E) I.kIn ⟨o,e,l⟩ k (by intro z;cases z) λt=>⟨.bl v,H,I.tok t,rfl,q⟩
theorem Jt{T:xC}{y:c7}{p f:i3}{te:x9}(F:dc X.K T=a9)(Z:X.mg "isinstance" = a8)(U:HE X e te)(Y:subY T y=a9:=by kernel_rfl)(V:X.env.kindOf "isinstance" = a7 .globalImplicit:=by kernel_rfl)(hy:X.env.kindOf y=a7 .globalImplicit:=by kernel_rfl)(o:(y==("__debug__":c7))=bt:=by kernel_rfl)(g:i5 [e,.Name y f] X.env=(bt,eval e X.env)::i5 [.Name y f] X.env:=by kernel_rfl) (A:i5 [.Name y f] X.env=(bt,eval (.Name y f) X.env)::i5 [] X.env:=by kernel_rfl) (z:(i4 pos<|i5 [.Name y f] X.env).any (·.1)=bt:=by kernel_rfl):HE X (.Call (.Name "isinstance" p) [e,.Name y f] [] pos) (wc T y te):=⟨by
 rintro i s σ H Q I ⟨S,M,ρ,R,sm,sr,q,k⟩;obtain⟨j,G,h⟩:=dc.any F Y;refine oE (wg (X:=X) (c:=.ref j) (u:=.ref j) λu' r=>r) V Z eH (lx U.ok (lx (ET (v:=.ref j) hy (PZ I.mod.kin I.mod.glob G) rfl o) yK A) g) (by decide) (by decide) g z i s σ H Q I ?_;refine⟨S,M,ρ,_,sm,sr,q,?_⟩;rintro v H1 ⟨d,E,l,B,g1,L,b⟩;show rIsC X.K (.ref j) (.ref j) [v,.ref j] H1 Q;refine⟨v,rfl,?_⟩;cases d with
 |non=>obtain rfl:=v7.inv_non L;exact .inl ⟨rfl,h,k _ _ ⟨_,E,l,B,g1,.bl bt,b⟩⟩
 |ref n =>
  obtain⟨a,rfl,t⟩:=v7.inv_ref L;dsimp only at b;split at b;rename_i x hx;split at b;rename_i v J;obtain⟨C,c,r⟩:=dc.cls F<|mB.has J;obtain⟨N,w,_,W,_⟩:=r y v J;have m:N=j:=by have:=w.symm.trans G;cases this;rfl
  subst m;obtain⟨D,O,P⟩:=B.obj n a _ t hx;have m:D=C:=by have:=O.symm.trans c.at_;cases this;rfl
  subst m;exact .inr ⟨a,D,v,rfl,P,c.own,W,k _ _ ⟨_,E,l,B,g1,.bl v,b⟩⟩;exact b.elim;exact b.elim
 |_=>exact b.elim⟩
theorem pk:e8 "ValueError" = a7 (.type "ValueError"):=by decide +kernel
theorem zw{K:v6}:LM K (.type "NoneType") (.type "ValueError")=a7 bt:=by kernel_rfl
theorem Ju{T:xC}{p f:i3}{te:x9}(A:dc X.K T=a9)(G:X.mg "isinstance" = a8)(J:X.mg "ValueError" = a8)(E:HE X e te)(F:X.env.kindOf "isinstance" = a7 .globalImplicit:=by kernel_rfl)(N:X.env.kindOf "ValueError" = a7 .globalImplicit:=by kernel_rfl)(g:i5 [e,.Name "ValueError" f] X.env=(bt,eval e X.env)::i5 [.Name "ValueError" f] X.env:=by kernel_rfl) (m:i5 [.Name "ValueError" f] X.env=(bt,eval (.Name "ValueError" f) X.env)::i5 [] X.env:=by kernel_rfl) (l:(i4 pos<|i5 [.Name "ValueError" f] X.env).any (·.1)=bt:=by kernel_rfl):HE X (.Call (.Name "isinstance" p) [e,.Name "ValueError" f] [] pos) (dIsV T te):=⟨by
 rintro h s σ H Q I ⟨S,M,ρ,R,O,P,q,k⟩;refine oE (wg (X:=X) (c:=.ty "ValueError") (u:=.type "ValueError") λu' r=>r) F G eH (lx E.ok (lx (yJ (v:=.ty "ValueError") N J pk rfl) yK m) g) (by decide) (by decide) g l h s σ H Q I ?_;refine⟨S,M,ρ,_,O,P,q,?_⟩;rintro v H1 ⟨d,t,i,o,g1,w,b⟩;show rIsC X.K (.ty "ValueError") (.type "ValueError") [v,.ty "ValueError"] H1 Q;refine⟨v,rfl,?_⟩;cases d with
 |non=>obtain rfl:=v7.inv_non w;exact .inl ⟨rfl,zw,k _ _ ⟨_,t,i,o,g1,.bl bt,b⟩⟩
 |ref n =>
  obtain⟨a,rfl,j⟩:=v7.inv_ref w;dsimp only at b;split at b;rename_i x L;obtain⟨C,c,_⟩:=dc.cls A b.1;obtain⟨D,z,B⟩:=o.obj n a _ j L;have y:D=C:=by have:=z.symm.trans c.at_;cases this;rfl
  subst y;exact .inr ⟨a,D,a9,rfl,B,c.own,c.val,k _ _ ⟨_,t,i,o,g1,.bl a9,b.2⟩⟩;exact b.elim
 |_=>exact b.elim⟩
end
structure RoomH(k:Nat)(A:f6):Prop where
 dp:A.depth+3*k+5<recursionLimit
 un:A.units+16*k+200<j9
theorem Room.held(r:Room k A)(h:Option b7):RoomH k (A.mark h):=⟨r.dp,r.un⟩
theorem RoomH.mono(r:RoomH k A)(h:j<=k):RoomH j A:=⟨by have:=r.dp;lia,by have:=r.un;lia⟩
theorem RoomH.deeper(r:RoomH (k+1) A)(env:Env):RoomH k (A.deeper env):=⟨by have:=r.dp;show A.depth+1+3*k+5<_;lia,by have:=r.un;show A.units+3+16*k+200<_;lia⟩
theorem RoomH.depth(r:RoomH k A):A.depth<recursionLimit:=by have:=r.dp;lia
noncomputable abbrev PK(P:c9)(w:c8)(K:v6)(mg:c7->Option b7)(base:d7)(N:List c7)(qual:c7)(scope:f8)(f:d5)(cd:b7)(A:f6)(outer:List Env)(s:f7)(H:Hp)(E:XK):Cx:={ ph K0 P w K mg base N qual scope f cd A outer s H E with calm:=bt,xe:=λ_ _=>False }
structure OP(P:c9)(w:c8)(K:v6)(mg:c7->Option b7)(base:d7)(k:Nat)(f:d5)(fd:k7)(ps:List c7)(sp:Sp):Prop where
 len:∀vs H Q E,sp vs H Q E->vs.length=ps.length
 run:∀(A:f6) (outer:List Env) (s:f7) (H:Hp) (args:Args) (us:List b7) (vs:List V) (Q:VK) (E:XK),RoomH k A->Env0 P w K mg base A outer s H->BindsTo s fd args (ps.zip us)->aw vs us->sp vs H Q E ->k9 (g9 P w) A (.call (.ref f) args) (CR K0 outer P w H s Q E) s
theorem OP.more{P:c9}{w:c8}{K:v6}{mg:c7->Option b7}{base:d7}{j k:Nat}{f:d5}{d:k7}{ps:List c7}{sp:Sp}(F:OP P w K mg base j f d ps sp)(h:j<=k):OP P w K mg base k f d ps sp:=⟨F.len,λA o s H O us vs Q E i=>F.run A o s H O us vs Q E<|i.mono h⟩
theorem JY{P:c9}{w:c8}{K:v6}{mg:c7->Option b7}{base:d7}{k:Nat}{f:d5}{name l:c7}{p:Arguments}{g:List i6}{scope:f8}{Y kV m pm c U oc:b7}{R od:Option d5}{L:Array (Option b7)}{N ps:List c7}{sp:Sp} (lk:K.lookup f=a7 ⟨oc,od,.func<|Mx name l p g scope Y kV m pm R c U,L⟩) (F:O4 K c l=a9) (S:FnScope N ps scope)(D:∀vs H Q E,sp vs H Q E->vs.length=ps.length)(i:∀(A:f6) (outer:List Env) (s:f7) (H:Hp) (vs:List V) (Q:VK) (E:XK),RoomH k (A.deeper<|b9 l scope s.heap.objs.size f c)->sp vs H Q E -> ∃t,K5 (PK P w K mg base N l scope f c A outer s H E) g t/\t { nx:=λ_ H'=>Q .non H',rt:=Q } (start N vs) H):OP P w K mg base (k+1) f (Mx name l p g scope Y kV m pm R c U) ps sp:=by
 refine⟨D,λA outer s H T us vs Q E Z d hb r C=>?_⟩;have hl:=D _ _ _ _ C;have X:K.In s.heap:=d.mod.kin.keeps λb o e=>(d.bs b o e).1;have G:s.heap.NoLimit:=d.mod.nolimit.keeps λb o e=>(d.bs b o e).1;have j:∀y∈ps.zip us,scope.names.lookup y.1=a7 .local\/(scope.names.lookup y.1=a7 .cell/\((cellsFrom (s.heap.objs.size+1) scope.names []).lookup y.1).isSome=a9):=λ⟨n,v⟩ hy=>by rcases S.par n (Qa hy).1 with q|q;exact .inl q;exact .inr ⟨q,Rg _ _ _<|.inl q⟩
 refine codeAny_call_function Z.depth (X _ _ lk) rfl S.co S.gen rfl (PySem.W.codeRec_of X F)<|hb _ _ _ _ ?_;refine wpAny_newFunctionEnv_cells S.kind j λenv he O x=>?_;subst he;refine⟨G.keeps x.toInCall.keep,codeAny_func ?_⟩;obtain⟨t,ht,hq⟩:=i A outer s H vs Q E (Z.deeper _) C;have e1:Env0 P w K mg base { A with handled:=a8 } outer s H:=⟨d.frames,d.mod,d.bs,d.bsz,d.funs,d.frf,d.hok,d.bare⟩
 have a:u6 (ph K0 P w K mg base N l scope f c { A with handled:=a8 } outer s H E) [] (start N vs) H O:=rY S rfl e1 hl r x;have I:u6 (PK P w K mg base N l scope f c A outer s H E) [] (start N vs) H O:=⟨⟨a.ok.mod,a.ok.kind,a.ok.glob,a.ok.blt,a.ok.above,a.ok.inj,a.ok.has,a.ok.cab,(λz=>Bool.noConfusion z),Around.frames_deeper d.frames,a.ok.stk,a.ok.exf,a.ok.bs,a.ok.bsz,a.ok.noex,a.ok.exfs,a.ok.funs,a.ok.frf⟩,a.os,a.bare,a.base,a.loc,a.cell,a.free,a.freeC,a.pin,a.hok,a.len⟩
 refine G3 (ht [] O (start N vs) H _ I hq) (λfl s' hs=>?_) λe s' hs=>hs.elim;have B:∀{h:St}{H':Hp}{v:V}{u:b7},u6 (PK P w K mg base N l scope f c A outer s H E) [] h H' s'->aJ v u->Q v H'->CE outer P w H s Q u s':=λ{h H' v u} J M q=>⟨v,H',J.os,J.bare,J.base,J.hok,M,q⟩
 cases fl with
 |ret u=>obtain⟨v,h,H',J,M,q⟩:=hs;exact B J M q
 |next=>obtain⟨h,H',J,q⟩:=hs;exact B (v:=V.non) (u:=J2) J rfl q
 |brk=>obtain⟨_,_,_,q⟩:=hs;exact G5 q
 |cont=>obtain⟨_,_,_,q⟩:=hs;exact G5 q
def KW(P:c9)(w:c8)(K:v6)(mg:c7->Option b7)(base:d7)(k:Nat)(x:c7)(ps:List c7)(c:A2):Prop:=∃f d,OP P w K mg base k f d ps (LG K c)/\mg x=a7 (.ref f)/\MM K (.ref f)=a9/\mM K d ps []
abbrev DerH(P:c9)(w:c8)(K:v6)(mg:c7->Option b7)(base:d7)(k:Nat)(x:c7)(N:List c7)(st:i6)(t:u9):Prop:=∀(f:d5) (cdv:b7) (A:f6) (outer:List Env) (s:f7) (H:Hp) (E:XK),RoomH k (A.deeper<|Q7 x (aq st) s.heap.objs.size f cdv)->HB (PK P w K mg base N x (aq st) f cdv A outer s H E) (bx st) t
section
variable{P:c9}{w:c8}{K:v6}{mg:c7->Option b7}{base:d7}{x:c7}{st:i6}{N ps:List c7}{k:Nat}{Pr:A2}{B:List c7}{C:List (c7×Int)}{t:u9}
theorem KW.by(T:TopB mg B C)(F:cz K mg x st ps)(l:FnScope N ps (aq st))(n:da Pr ps)(d:TopB mg B C->N.Nodup->DerH P w K mg base k x N st t)(O:∀ds M R,Pr ds M R->t (EE M R) (ci N ds) M):KW P w K mg base (k+1) x ps Pr:=by obtain⟨f,u,i,G,y⟩:=F;refine⟨f,u,?_,G,i.kp,y⟩;obtain⟨W,X,kV,p,Y,U,c,V,L,rfl,J,e⟩:=i.ex;refine JY J e l (λvs H Q E ⟨ds,M,ρ,R,s,r,q,_⟩=>by rw[<-r.length];exact n ds M R q) λA o s H vs Q E I h=>?_;obtain⟨ds,M,ρ,R,m,r,q,D⟩:=h;refine⟨lowS K t,(d T l.nd f c A o s H E I).ok,ci N ds,M,ρ,_,m,SRep.start r N,O ds M R q,⟨λb H' ⟨S,M',ρ',s',g,a,j⟩=>?_,λv H' z=>D v H'<|VQ.endq m z,λb H' ⟨S,M',ρ',s',g,a,j⟩=>j.elim,λb H' ⟨S,M',ρ',s',g,a,j⟩=>j.elim⟩⟩;exact D .non H'<|VQ.endq m ⟨.non,M',ρ',s',g,.non,j⟩
end
section
variable{X:Cx}{a:d5}{e:g7}{es:List g7}{x:c7}{p pos:i3}{t:E8}
theorem Jx(C:KW X.prog X.w X.K X.mg X.base j x ps P)(T:Room k X.A)(E:HA (X.held a) (e::es) t)(hj:Nat.ble j k=a9:=by kernel_rfl)(R:X.env.kindOf x=a7 .globalImplicit:=by kernel_rfl)(g:(x==("__debug__":c7))=bt:=by kernel_rfl) (J:i5 (e::es) X.env=(bt,eval e X.env)::i5 es X.env:=by kernel_rfl) (l:(i4 pos<|i5 es X.env).any (·.1)=bt:=by kernel_rfl):HE (X.held a) (.Call (.Name x p) (e::es) [] pos) (v8 P t):=⟨by
 rintro c s σ H Q I ⟨S,M,ρ,F,W,Y,q,k⟩;obtain⟨f,Z,o,O,L,G⟩:=C;refine Nt<|gM I R O ?_ g;refine Qr (h₀:=X.base) I.ok.mod.kin L (x6 (E.ok pos c s σ H _ I ⟨S,M,ρ,_,W,Y,q,λ_ _ z=>z⟩) λus y z=>?_) J l;obtain⟨vs,H1,d,r,ds,B,m,i,g1,V,U⟩:=z;refine⟨d.kIn,?_⟩;have b:LG X.K P (vs++[]) H1 Q E0:=⟨ds,B,m,F,i,by rw[Lb];exact V,U,λv H' w=>k v H'<|VQ.trans g1 w⟩
 have n:aw (vs++[]) (us++[]):=by rw[Lb,Lb];exact r
 have N:(us++[]).length=ps.length:=by rw[<-n.length];exact o.len _ _ _ _ b
 refine l7<|MK ((o.more<|Qx hj).run (X.held a).A X.stack y H1 ⟨us,[]⟩ (us++[]) (vs++[]) Q E0 (T.held _) d.env0 (G y us d.kIn N) n b) λr s' h=>?_;cases r with
 |error e=>exact G5 h
 |ok D =>
  cases D with
  |ret u=>exact d.after h
  |next=>exact G5 h
  |brk=>exact G5 h
  |cont=>exact G5 h⟩
end
end L2
namespace L2
open PySem PySem.Spec PyProof.Rows DL PySem.W
noncomputable def Itq(a:d5)(n ep:Nat):It:=⟨λi H=>∃xs x v,H a=a7 (.ext<|dQ a ep xs)/\xs.length=n/\xs[i]?=a7 x/\aJ v x.2.2,λi H v H'=>∃(T:d5) (x:D×d5×b7) (y:V),v=.ref T/\H T=a8/\H'=z5 H T (.tup [.ref x.2.1,y])/\aJ y x.2.2/\∀xs,H a=a7 (.ext<|dQ a ep xs)->∃z:D×d5×b7,xs[i]?=a7 z/\z.2=x.2,λi H=>(∃xs,H a=a7 (.ext<|dQ a ep xs)/\xs.length=n)/\i=n⟩
def OutQ(h:d7)(it d:d5)(i n ep:Nat):Prop:=∃ok b,cH h it d i n ep .none (.bool bt) ok b
theorem wJ{P:c9}{w:c8}{K:v6}{Y:List g7}{x1:Nat}{pos:i3}(a it:d5)(n ep:Nat):Turn P w K (.Tuple Y x1 pos) (Itq a n ep) [it] it (λi h=>OutQ h it a i n ep) where
 mem:=by simp
 obj:=λi h t b j=>by
  obtain rfl:b=it:=by simpa using j
  obtain⟨ok,g,e⟩:=t;exact⟨_,e,λv z=>by cases z⟩
 keep:=λi h h' ⟨ok,g,e⟩ k=>⟨ok,g,k it (by simp) _ e⟩
 item:=by
  rintro X N U M u i q s σ H E I y ⟨ok,g,t⟩ R;subst N U M;obtain⟨xs,x,v,L,rfl,hx,hv⟩:=R;obtain⟨es,F,r,eg⟩:=pe I L;obtain⟨e,C,V,W⟩:=eg i x hx;obtain⟨J,f1,f2,f3,f4,f5⟩:=y it (by simp);have f:i<es.size:=(MC.mp C).1;have Z:es[i]=e:=by rw[KY f]at C;exact C7 C
  rw[<-r]at t;have l:it<s.heap.objs.size:=A0 t;refine zZ (S:=it) ⟨_,_,_,_,t,.inl ⟨rfl,rfl⟩⟩ l F f λh' _ hT hz hk op=>?_;have o':=op _ _ t;rw[Z,V,W]at hT o';refine⟨_,rfl,?_⟩;refine wpAny_letOwnedTupleGo_items (s:={ s with heap:=h' }) (show IsItemIterOut h' it a (i+1) es.size ep (.ref x.2.1) x.2.2 s.heap.objs.size from o') λh2 p T=>?_;have d:J6 it h' h2:=T;have O:h2.get? s.heap.objs.size=a7 { cls:=.type "tuple",data:=.seq #[.ref x.2.1,x.2.2] }:=d.extBut _ _ (Mg l) hT;refine⟨.ref s.heap.objs.size,z5 H s.heap.objs.size<|.tup [.ref x.2.1,v],?_,rfl,⟨s.heap.objs.size,x,v,rfl,I.hok.fresh<|w5 _,rfl,hv,λys hy=>?_⟩,?_,λb j=>?_⟩;refine I.turnedT (t':=s.toks) y (λc o u e=>?_) (w5 _) ⟨by simp[Mb],[.ref x.2.1,x.2.2],.cons rfl<|.cons hv .nil,⟨_,O,rfl,⟨0,rfl⟩,rfl⟩⟩;have m:c≠it:=by simpa using u
  exact d.extBut _ _ m<|hk _ _ m e;obtain⟨ai,G,ab,D⟩:=pe I hy;obtain⟨rfl,_⟩:=vX F G;have hj:i<ys.length:=by lia
  obtain⟨e',z1,B,z2⟩:=D i ys[i]<|z9 hj;rw[KY f,Z]at z1;obtain rfl:=C7 z1;rw[V]at B;rw[W]at z2;injection B with B;exact⟨ys[i],z9 hj,Prod.ext B.symm z2.symm⟩;rw[r]at p;exact⟨_,_,p⟩;obtain rfl:b=it:=by simpa using j
  rw[ar<|A3 l];exact J
 done:=by rintro X N U M u i q s σ H E I y ⟨ok,g,t⟩ R;subst N U M;obtain⟨⟨xs,L,rfl⟩,rfl⟩:=R;obtain⟨es,F,r,eg⟩:=pe I L;obtain⟨J,f1,f2,f3,f4,f5⟩:=y it (by simp);rw[<-r]at t;exact CN (S:=it) (I.ok.hd u) ⟨_,_,_,_,t,.inl ⟨rfl,rfl⟩⟩ F λh' he=>⟨rfl,I.turned (t':=s.toks) (λb o j e=>he b o j e) J f1 f3 f4 f5⟩
 self:=λA i s Q E ⟨ok,g,t⟩ hQ=>kcp_self (show IsItemIter s.heap it a i n ep ok g from t) hQ
theorem CQ{K:v6}{M:v5}{n:Nat}{a:d5}{kvs:List (D×D)}(s:sL M n kvs):∃ep,∀ρ' M' H',w9 K ρ' M' H'->ρ'[n]?=a7 a->M'[n]?=M[n]?->∃ys,H' a=a7 (.ext<|dQ a ep ys)/\Paired (pE K ρ' H') kvs ys/\ys.length=kvs.length:=by
 have B:∀{ρ':List d5}{H':Hp}{ys:List (D×d5×b7)},Paired (pE K ρ' H') kvs ys->ys.length=kvs.length:=λi=>by have:=t9 Lz<|dZ i;rwa [x3,x3]at this
 rcases s with s|⟨ep,s⟩
 refine⟨kvs.length,λρ' M' H' s' f ok=>?_⟩;obtain⟨_,_,_,ys,Q,i⟩:=s'.obj _ _ _ f<|ok.trans s;refine⟨ys,?_,i,B i⟩;rw[<-B i];exact Q;refine⟨ep,λρ' M' H' s' f ok=>?_⟩;obtain⟨_,_,_,ys,Q,i⟩:=s'.obj _ _ _ f<|ok.trans s;exact⟨ys,Q,i,B i⟩
section
variable{X:Cx}{o:g7}{to:x9}{apos cpos:i3}{elts:List g7}{x1 k:Nat}{pos:i3}
def mf(o:x9):LJ:=λS M R=>o S M λd a=>match d with
 |.ref n=>∃kvs,sL a n kvs/\(kvs.length<=sizeLine->R ⟨kvs.map<|λp=>.tup [p.1,p.2],λM=>M[n]?=a[n]?⟩ a)
 |_=>False
theorem Ad(ho:DE X o to)(l:m9 o "items" X.env (eval o X.env)=eval o X.env:=by rfl)(m:(apos.endLine==cpos.line)=a9:=by rfl):DI X (.Tuple elts x1 pos) (.Call (.Attribute o "items" apos) [] [] cpos) (mf to):=by
 intro c s σ H R I h;obtain⟨S,M,ρ,Q,sm,sr,q,k⟩:=h;refine wpAny_Call_method0_late l m<|x6 (ho c s σ H _ I ⟨S,M,ρ,_,sm,sr,q,λv H' w=>w⟩) ?_;rintro u J ⟨v,H1,P,B,d,A,L,t,g1,r1,q1⟩;cases r1 with
 |@ref n a E =>
  obtain rfl:u=E6 a:=B;obtain⟨kvs,hM,q2⟩:=(show ∃kvs,sL A n kvs/\(kvs.length<=sizeLine->Q ⟨kvs.map<|λp=>.tup [p.1,p.2],λM=>M[n]?=A[n]?⟩ A)from q1)
  obtain⟨_,_,_,_,dd,Y,hz,_⟩:=vZ P t E hM;obtain⟨V,f⟩:=CQ (K:=X.K) (a:=a) hM;obtain⟨xs,hH,r,hx⟩:=f L A H1 t E rfl;obtain⟨es,em,el,_⟩:=pe P hH;refine⟨"dict","dict.items",QB,PySem.F.slot_dict_items,PySem.F.type_dict_items,dd.typeIs,λb z=>?_,Ot rfl<|PySem.evalArgs_none<|zY Y em ?_⟩;cases z;obtain⟨ob,_,_,h1,h2,_⟩:=dd;exact⟨ob,h1,h2.2.1⟩;have C:u6 X c σ H1 { J with heap:=J.heap.push { cls:=.type "dict_items",data:=.fields #[.ref a] } }:=P.kept (t':=J.toks) λb o e=>z6 _ e;have U:fI ({ J with heap:=J.heap.push { cls:=.type "dict_items",data:=.fields #[.ref a] } }:f7).heap a es V:=em.to λo e=>z6 _ e;refine Aa (d:=a) ⟨_,C5 _ rfl,rfl,rfl⟩ U ?_;rw[el];have W:∀j:f7,u6 X c σ H1 j->PM X c σ (.Tuple elts x1 pos) R (.ref j.heap.objs.size) { j with heap:=j.heap.push { cls:=.type "dict_itemiterator",data:=.fields #[.none,.bool bt,.ref a,.int 0 0,.int xs.length 0,.int V 0,.none,.none] } }:=λj C=>by
   refine⟨j.heap.objs.size,[j.heap.objs.size],_,_,H1,rfl,C.kept (t':=j.toks) λb o e=>z6 _ e,wJ a _ xs.length V,⟨_,_,C5 _ rfl⟩,λb hb=>?_,k _ H1 ⟨⟨kvs.map<|λp=>.tup [p.1,p.2],λM=>M[n]?=A[n]?⟩,A,L,t,g1,?_,q2 hz⟩⟩;obtain rfl:b=j.heap.objs.size:=by simpa using hb
   exact C.fpOk (w5 _)<|C.hok.fresh<|w5 _;refine⟨λi ρ' M' H' s' g ok hi=>?_,λi ρ' M' H' x H2 s' g ok hi y=>?_,λρ' M' H' s' g ok=>?_⟩;obtain⟨ys,G,O,ly⟩:=f ρ' M' H' s' (ax g.pre E) ok;rw[x3]at hi;have hj:i<ys.length:=by lia
   obtain⟨p,_,_,_,_,v,_,B⟩:=cR O<|z9 hj;exact⟨ys,ys[i],v,G,by lia,z9 hj,B⟩;obtain⟨T,x0,y0,rfl,N,rfl,rz,D⟩:=y;obtain⟨ys,G,O,_⟩:=f ρ' M' H' s' (ax g.pre E) ok;obtain⟨z,Z,ez⟩:=D ys G;obtain⟨p,hp,_,_,rk,v,rp,B⟩:=cR O Z;rw[ez]at rk B;obtain rfl:y0=v:=rz.inj B;exact⟨.tup [p.1,p.2],ρ',by rw[D8,hp];rfl,s'.laid N,Grow.laid N,.tup (B9.of aK)<|.cons (rk.grow<|Grow.laid N)<|.cons (rp.grow<|Grow.laid N) .nil⟩;obtain⟨ys,G,O,ly⟩:=f ρ' M' H' s' (ax g.pre E) ok;exact⟨⟨ys,G,by lia⟩,by rw[x3];lia⟩
  exact W _ C
 |_=>exact q1.elim
theorem zy(B:HE X o to)(e:m9 o "items" X.env (eval o X.env)=eval o X.env:=by kernel_rfl)(a:(apos.endLine==cpos.line)=a9:=by kernel_rfl):HI X (.Tuple elts x1 pos) (.Call (.Attribute o "items" apos) [] [] cpos) (mf to):=⟨Ad B.ok e a⟩
def oz:F6:=λx y M Q=>match x,y with
 |.tup ks,.ref n=>∃kvs,sL M n kvs/\cw 8 (.tup ks)=a9/\Q (.bl<|!(aH kvs<|.tup ks).isSome) M
 |_,_=>False
theorem yU(i:Room k X.A):G1 X (j7 .NotIn) oz:=by
 rintro p s σ H G J v u R I o z ⟨x,y,M,ρ,Q,m,j,l,q,D⟩;have F:=i.un;cases x with
 |tup c =>
  cases y with
  |ref n =>
   obtain⟨kvs,h,g,q⟩:=q;obtain⟨a,rfl,f⟩:=v7.inv_ref l;cases z;obtain⟨xs,_,B,r,d,U,C,E,_⟩:=vZ I m f h;have t:=cP I 8 _ _ _ j o g;obtain⟨b,_,rfl,_⟩:=id t;refine wpAny_notIn_heap (knd:=aQ X.prog X.w) (k:=.tup c) (by show X.A.units+1+8<j9;lia) t U d ?_;have e:(o0 xs<|.tup c).isSome=(aH kvs<|.tup c).isSome:=by rcases lW r (.tup c)with⟨z1,z2⟩|⟨_,_,_,z1,z2,_⟩<;>rw[z1,z2]<;>rfl
   rw[e];exact dD (I.tok _) m D q
  |_=>exact q.elim
 |_=>exact q.elim
theorem zK(i:Room k X.A):G4 X (j7 .NotIn) oz:=⟨yU i⟩
end
end L2
namespace L2
open PySem PySem.Spec PyProof.Rows DL
section
variable{X:Cx}
def qT(n:Nat):E1:=λds M Q=>match ds with
 | []=>∃xs,M[n]?=a7 (.lst xs)/\Q .non (M.set n<|.lst [])
 |_=>False
theorem yW:Ln X "list.clear" (lQ X.K qT):=by rintro p s σ H x xs v us R I g b ⟨n,a,ds,M,ρ,Q,c,f,m,d,q,k⟩;unfold qT at q;split at q;obtain⟨ys,e,q⟩:=q;obtain rfl:=Reps.inv_nil d;obtain⟨vs,h,r⟩:=m.obj n a _ f e;obtain⟨w,t⟩:=m.write f e h (ds':=[]) .nil;exact BT p s σ H x _ v us R I g b ⟨a,vs,c,rfl,h,k _ _ ⟨.non,_,ρ,w,t,.non,q⟩⟩;exact q.elim
theorem Cu:PR X "clear" qT:=⟨_,PySem.F.slot_list_clear,PySem.F.type_list_clear,yW⟩
end
abbrev KU:=DX->E8
inductive lowXA(K:v6)(E:XK)(t:KU)(σ:St)(H:Hp)(Q:List V->Hp->Prop):Prop
 |mk (S:SD) (M:v5) (ρ:List d5) (F:List D->v5->Prop) (R:DX) (s:w9 K ρ M H) (sr:SRep K ρ H S σ) (q:t R S M F) (k:∀v H',AQ K ρ H F v H'->Q v H') (x:∀C dx H',XQ K ρ H R C dx H'->E C dx H')
structure RA(b:Bool)(X:Cx)(es:List g7)(t:KU):Prop where
 ok:∀(pos:i3) (pins:List (d5×d6)) (s:f7) (σ:St) (H:Hp) (Q:List V->Hp->Prop) (E:XK) (P:St->Prop) (Ex:b7->f7->Prop),XA b X pins E P Ex->P σ->u6 X pins σ H s->lowXA X.K E t σ H Q->ge (g9 X.prog X.w) X.A (spliced<|i4 pos<|i5 es X.env) (AP X pins σ Q) Ex s
noncomputable def Ej(te:AL)(t:E8):KU:=λR=>aa (te R) t
def xCB1(P:A2)(t:KU):AL:=λR=>v8 P<|t R
section
variable{b:Bool}{X:Cx}{e:g7}{es:List g7}{x:c7}{p pos:i3}{te:AL}{t:E8}{tx:KU}
theorem vR(o:OO b X e te)(v:HA X.nox es t)(hs:i5 (e::es) X.env=(bt,eval e X.env)::i5 es X.env:=by kernel_rfl):RA b X (e::es) (Ej te t):=⟨by rintro pos a s σ H Q E P Ex A p I ⟨S,M,ρ,F,R,G,r,q,k,x⟩;rw[hs];show ge _ _ (spliced<|(bt,eval e X.env)::i4 pos (i5 es X.env)) _ _ s;refine Qs<|x6 (o.ok a s σ H _ E P Ex A p I ⟨S,M,ρ,_,R,G,r,q,λ_ _ z=>z,x⟩) ?_;rintro u J ⟨y,H1,l,C,d,n,g,f,g1,r',w⟩;refine x6 (v.ok.nox (Ex:=Ex) (pos:=pos) l ⟨S,n,g,_,f,r.grow g1,w,λ_ _ z=>z⟩) ?_;rintro us K ⟨xs,i,m,D,ds,M2,h,c,j,U,B⟩;exact⟨y::xs,i,m,.cons C D,k _ i ⟨d::ds,M2,h,c,g1.trans j,.cons (r'.grow j) U,B⟩⟩⟩
theorem zp(C:x5 X.prog X.w X.K X.mg X.base j x ps P)(W:Room k X.A)(J:RA b X (e::es) tx)(hj:Nat.ble j k=a9:=by kernel_rfl)(O:X.env.kindOf x=a7 .globalImplicit:=by kernel_rfl)(g:(x==("__debug__":c7))=bt:=by kernel_rfl) (N:i5 (e::es) X.env=(bt,eval e X.env)::i5 es X.env:=by kernel_rfl) (l:(i4 pos<|i5 es X.env).any (·.1)=bt:=by kernel_rfl):OO b X (.Call (.Name x p) (e::es) [] pos) (xCB1 P tx):=⟨by
 rintro c s σ H Q E G Ex A i I ⟨S,M,ρ,F,R,sm,sr,q,k,xx⟩;obtain⟨f,fd,o,V,T,L⟩:=C;refine Nt<|gM I O V ?_ g;refine Qr (h₀:=X.base) I.ok.mod.kin T (x6 (J.ok pos c s σ H _ E G Ex A i I ⟨S,M,ρ,_,R,sm,sr,q,λ_ _ z=>z,xx⟩) λus y z=>?_) N l;obtain⟨vs,H1,d,r,ds,B,n,m,g1,Z,Y⟩:=z;refine⟨d.kIn,?_⟩;have a:LG X.K P (vs++[]) H1 Q E0:=⟨ds,B,n,F,m,by rw[Lb];exact Z,Y,λv H' w=>k v H'<|VQ.trans g1 w⟩
 have t:aw (vs++[]) (us++[]):=by rw[Lb,Lb];exact r
 have U:(us++[]).length=ps.length:=by rw[<-t.length];exact o.len _ _ _ _ a
 refine l7<|MK ((o.more<|Qx hj).run X.A X.stack y H1 ⟨us,[]⟩ (us++[]) (vs++[]) Q E0 W d.env0 (L y us d.kIn U) t a) λr s' h=>?_;cases r with
 |error e=>exact G5 h
 |ok D =>
  cases D with
  |ret u=>exact d.after h
  |next=>exact G5 h
  |brk=>exact G5 h
  |cont=>exact G5 h⟩
end
end L2
namespace LW
open PySem L2
local macro_rules | `(tactic| walk_at"sc")=>`(tactic| exact⟨rfl,rfl,rfl,by decide +kernel,rfl,by decide +kernel,by decide +kernel⟩)
local macro_rules | `(tactic| walk_at"dl")=>`(tactic| simp only[EE,Nd,GT,PB,xSet,AR,NW,xCB1,Ej,uF,dTry,wc,dIsV,aB,B6,Da,nP,MD,au,v8,aa,ah,aI,eR,dOrV,Ak,Lg,pD,bZ,af,bd,bg,iM,jk,u5,PF,sw,dC,ac,eP,gW,N0,ux,me,PJ,Mr,bz,nI,qAdd,aF,GW,jM,aM,bY,HN,Mq,OB,MW,OC,MV,A9,NX,qQ,jN,GX,HQ,v9,PC,cD,KC,Ae,eD,aA,eE,dZip,dMl0,qT,wP,gh,Db,xv,iL,su,eQ,md,PH,qP,wb,Bv,oy,oz,mf,wa,yA,HM,iS,GB,lh,qR,SqAt,EF,lg,gj,Nh,Ms,QW,E2,QU,ci,Ku,C9,Oc,Oo,K9,List.getElem?_cons_zero,QC,E5,G0,List.replicate_zero,List.replicate_succ,List.set_cons_zero,List.set_cons_succ,MI,Nat.reduceAdd,Nat.reduceSub,Option.join_some,t8,t7,A8])
noncomputable def top(i:Nat):i6:=PySem.Challenge.pw_talkmarks_k40_who_has_read.main.body.getD i<|.Pass ⟨0,0,0,0⟩
noncomputable abbrev T_:xC:=[(u7 "NoMessage",[(u7 "NotYours",bt),(u7 "NoHouse",bt),(u7 "NoMessage",a9),(u7 "NoRoom",bt),(u7 "NoDeed",bt),(u7 "NoWhat",bt),(u7 "NoName",bt),(u7 "NoSaying",bt),(u7 "Gap",bt),(u7 "Clash",bt),(u7 "NoRow",bt),(u7 "Strange",bt),(u7 "TalkError",a9)])]
noncomputable abbrev B_:List c7:=["int","isinstance","bool","tuple","len","sorted","set","dict","any","range","max","str","list","zip","all","ValueError"]
noncomputable abbrev C_:List (c7×Int):=[]
noncomputable abbrev iV:List c7:=["thing"]
noncomputable abbrev cS:List c7:=["least","thing"]
noncomputable abbrev dR:List c7:=["many","thing"]
noncomputable abbrev lC:List c7:=["house","name"]
noncomputable abbrev lE:List c7:=["house","thing"]
noncomputable abbrev fq:List c7:=["house","room"]
noncomputable abbrev iW:List c7:=["house","thing"]
noncomputable abbrev iU:List c7:=["deed"]
noncomputable abbrev gy:List c7:=["deed"]
noncomputable abbrev gD:List c7:=["deed","vector"]
noncomputable abbrev cT:List c7:=["log","kind"]
noncomputable abbrev iY:List c7:=["log","kind","name"]
noncomputable abbrev dP:List c7:=["log","kind","name"]
noncomputable abbrev lz:List c7:=["say"]
noncomputable abbrev iT:List c7:=["say"]
noncomputable abbrev gG:List c7:=["house","say","elders"]
noncomputable abbrev cq:List c7:=["house","log"]
noncomputable abbrev dn:List c7:=["deed","says"]
noncomputable abbrev dO:List c7:=["log","kind","says"]
noncomputable abbrev bH:List c7:=["log","says"]
noncomputable abbrev fi:List c7:=["house","log"]
noncomputable abbrev oJ:List c7:=["house","log","stamp"]
noncomputable abbrev ck:List c7:=["log","name"]
noncomputable abbrev lD:List c7:=["say","name","vectors","seen"]
noncomputable abbrev iX:List c7:=["house","log","name","stamp"]
noncomputable abbrev fj:List c7:=["house","log","stamp"]
noncomputable abbrev lF:List c7:=["_law_script","_law_k"]
noncomputable abbrev tE:List c7:=["_law_cell","_law_k"]
noncomputable abbrev yO:List c7:=["_law_cell","_law_k"]
noncomputable abbrev lB:List c7:=["_law_script","_law_start","_law_most"]
noncomputable abbrev tD:List c7:=["_law_number","_law_many"]
noncomputable abbrev tG:List c7:=["_law_cell"]
noncomputable abbrev tH:List c7:=["_law_house_here"]
noncomputable abbrev oH:List c7:=["_law_number","_law_names_here"]
noncomputable abbrev yM:List c7:=["_law_number","_law_says","_law_hands_here"]
noncomputable abbrev oG:List c7:=["_law_number","_law_hands_here","_law_counts"]
noncomputable abbrev yL:List c7:=["_law_number","_law_house_here","_law_says","_law_hands_here"]
noncomputable abbrev Fa:List c7:=["_law_number","_law_house_here","_law_says","_law_hands_here","_law_counts"]
noncomputable abbrev EY:List c7:=["_law_house_here","_law_numbers_here","_law_hands_here"]
noncomputable abbrev iZ:List c7:=["_law_house_here","_law_log_here"]
noncomputable abbrev tz:List c7:=["_law_house_here","_law_log_here"]
noncomputable abbrev yN:List c7:=["_law_log_here","_law_name","_law_stamp","_law_told_here"]
noncomputable abbrev tI:List c7:=["_law_told_here","_law_due"]
noncomputable abbrev tF:List c7:=["_law_e"]
noncomputable abbrev lA:List c7:=["_law_house_here","_law_log_here","_law_stamp","_law_name"]
noncomputable abbrev EZ:List c7:=["_law_script"]
structure Tops(P:c9)(w:c8)(K:v6)(mg:c7->Option b7)(base:d7):Prop where
 f_is_whole:cz K mg "is_whole" (top 15) iV
 f_is_whole_from:cz K mg "is_whole_from" (top 16) cS
 f_is_tuple_of:cz K mg "is_tuple_of" (top 17) dR
 f_many_of:cz K mg "many_of" (top 19) lC
 f_is_hand:cz K mg "is_hand" (top 20) lE
 f_members_of:cz K mg "members_of" (top 21) fq
 f_is_stamp:cz K mg "is_stamp" (top 23) iW
 f_stamp_of:cz K mg "stamp_of" (top 24) iU
 f_person_of:cz K mg "person_of" (top 25) gy
 f_is_within:cz K mg "is_within" (top 26) gD
 f_deeds_of_kind:cz K mg "deeds_of_kind" (top 28) cT
 f_deeds_by:cz K mg "deeds_by" (top 29) iY
 f_stamps_told:cz K mg "stamps_told" (top 30) dP
 f_room_of:cz K mg "room_of" (top 32) lz
 f_under_of:cz K mg "under_of" (top 33) iT
 f_can_stand:cz K mg "can_stand" (top 34) gG
 f_says_that_count:cz K mg "says_that_count" (top 35) cq
 f_is_by_writer:cz K mg "is_by_writer" (top 36) dn
 f_writers_own:cz K mg "writers_own" (top 37) dO
 f_stamps_taken_back:cz K mg "stamps_taken_back" (top 38) bH
 f_says_shown:cz K mg "says_shown" (top 39) fi
 f_say_at:cz K mg "say_at" (top 40) oJ
 f_vectors_by_room:cz K mg "vectors_by_room" (top 42) ck
 f_is_read:cz K mg "is_read" (top 43) lD
 f_has_read:cz K mg "has_read" (top 44) iX
 f_readers_of:cz K mg "readers_of" (top 45) fj
 f_cell_at:cz K mg "_law_cell_at" (top 47) lF
 f_mixed:cz K mg "_law_mixed" (top 48) tE
 f_free:cz K mg "_law_free" (top 49) yO
 f_numbers:cz K mg "_law_numbers" (top 50) lB
 f_names:cz K mg "_law_names" (top 51) tD
 f_house:cz K mg "_law_house" (top 52) tG
 f_hands:cz K mg "_law_hands" (top 53) tH
 f_saying:cz K mg "_law_saying" (top 54) oH
 f_told:cz K mg "_law_told" (top 55) yM
 f_vector:cz K mg "_law_vector" (top 56) oG
 f_what:cz K mg "_law_what" (top 57) yL
 f_act:cz K mg "_law_act" (top 58) Fa
 f_log:cz K mg "_law_log" (top 59) EY
 f_counting:cz K mg "_law_counting" (top 60) iZ
 f_shown:cz K mg "_law_shown" (top 61) tz
 f_read:cz K mg "_law_read" (top 62) yN
 f_alike:cz K mg "_law_alike" (top 63) tI
 f_kinds:cz K mg "_law_kinds" (top 64) tF
 f_refused:cz K mg "_law_refused" (top 65) lA
 f_law:cz K mg "law" (top 66) EZ
 b:TopB mg B_ C_
 cl:dc K T_=a9
local macro_rules | `(tactic| walk_at"bb")=>`(tactic| first|exact KP|exact KO|exact GQ|exact GP|exact KN|exact eH|exact KM|exact GO|exact KL|exact Az|exact KK|exact Dm)
local macro_rules | `(tactic| walk_at"tb")=>`(tactic| exact TopB.no (by k_dflt assumption) (by kernel_rfl))
local macro_rules | `(tactic| walk_at"dvr")=>`(tactic| (repeat' (first|(with_reducible first|(refine gA ?_;first|exact Jo|refine FP ?_ ?_)|exact k_var|(refine JV ?_;first|exact k_int|exact k_bl|exact k_non|exact k_str)|(refine gCall ?_;first|refine Jq (by k_dflt assumption) ?_ ?_|refine FT ?_ ?_|refine FS ?_ ?_|refine xo (by k_dflt assumption) ?_ (by walk_at"tb") (by walk_at"tb")|refine FV ?_ (by walk_at"tb") (by walk_at"bb") ?_|refine Cl ?_ (by walk_at"tb") (by walk_at"bb") ?_|refine k_cal (by k_dflt assumption) (by k_dflt assumption) ?_ (hj:=Nat.ble_eq_true_of_le (by lia))|refine Jx (by k_dflt assumption) (by k_dflt assumption) ?_|refine FQ (by k_dflt assumption) ?_ ?_|refine k_ms ?_ ?_ ?_|refine k_ml ?_ ?_ ?_|refine k_ml0 ?_ ?_)|(refine gIx ?_;first|refine FR ?_ ?_ ?_|refine Js (by k_dflt assumption) ?_ ?_ (hs:=by k_dflt (intro _ _;kernel_rfl))|refine Jw (by k_dflt assumption) ?_ ?_ (hs:=by k_dflt (intro _ _;kernel_rfl))|refine k_ix ?_ ?_ (hs:=by k_dflt (intro _ _;kernel_rfl)))|(refine gT ?_;first|refine Jc ?_ ?_ ?_|refine Jb ?_|refine kw_t (DO ?_ ?_)|refine kw_t (IZ ?_ ?_)|refine Ja ?_)|(refine gE ?_;first|exact Jv|exact Jr|exact Jp (by walk_at"tb") (by walk_at"bb")|refine k_op ?_ ?_ ?_|refine k_un JF ?_|refine k_not ?_|refine k_cmp ?_ ?_ ?_|refine FU ?_ ?_ ?_ ?_ ?_|refine k_one ?_|refine k_and ?_ ?_|refine k_or ?_ ?_|refine k_tup ?_|refine k_lst ?_|refine k_lcN ?_ (λ_ _ _ _=>?_) (λ_ _ _ _=>?_) (λ_ _ _ _=>?_)|refine Jt (by k_dflt assumption) (by walk_at"tb") ?_|refine Ju (by k_dflt assumption) (by walk_at"tb") (by walk_at"tb") ?_)|(refine gS ?_;first|exact vS|refine zv ?_|refine DV ?_|refine Jf ?_ ?_ ?_|refine rV (by k_dflt assumption) ?_ (λ_ _ _ _=>?_) (λ_ _ _ _=>?_) (λ_ _ _ _=>?_)|refine DU (by k_dflt assumption) ?_|refine DZ ?_ ?_|refine DR (by k_dflt assumption) (by k_dflt assumption) ?_ (λ_=>?_)|refine zu (by k_dflt assumption) ?_ ?_ ?_|refine DY ?_ ?_ ?_)|(refine gOp ?_;first|exact Ge|exact ho_eq (by k_dflt assumption)|exact Gd|exact ho_ge|exact ho_gt|exact ho_in (by k_dflt assumption)|exact JL (by k_dflt assumption)|exact ho_is|exact ho_le|exact ho_lt|exact JK|exact JJ|exact ho_ne (by k_dflt assumption)|exact zK (by k_dflt assumption)|exact zJ (by k_dflt assumption)|exact Cs (by k_dflt assumption)|exact JI|exact JH|exact JG)|(refine gC ?_;first|exact JR|exact JQ|exact zN (by k_dflt assumption)|exact CC (by k_dflt assumption)|exact CB (by k_dflt assumption)|exact JP|exact JO|exact Gh|exact Gg|exact xp (by k_dflt assumption)|exact CA)|exact Je|exact FH|exact FL|exact FN|refine Jd ?_|refine DO ?_ ?_|refine IZ ?_ ?_|refine FD ?_|refine IY ?_|refine FG ?_|refine FK ?_|refine zx (by walk_at"tb") ?_|refine Jg (by walk_at"tb") ?_|refine Cg ?_|refine zy ?_|refine Jh ?_|exact FO (by k_dflt assumption)|exact Jk (IP (by kernel_rfl))|refine Ch ?_ ?_|refine Ji ?_|refine Jj ?_ ?_|refine DN (by k_dflt assumption) (by k_dflt assumption) ?_|refine zp (by k_dflt assumption) (by k_dflt assumption) ?_|refine vR ?_ ?_|refine IX ?_ ?_ ?_|refine DM (by k_dflt assumption) ?_|refine zo ?_|refine rT (by k_dflt assumption) ?_|refine IW ?_|exact FC|refine zn ?_|refine vQ ?_ ?_|exact zL|exact Cu|exact Ct)|refine FJ ?_ ?_|refine zv ?_|refine DV ?_|refine Jf ?_ ?_ ?_|refine rV (by k_dflt assumption) ?_ (λ_ _ _ _=>?_) (λ_ _ _ _=>?_) (λ_ _ _ _=>?_)|refine DU (by k_dflt assumption) ?_|refine DZ ?_ ?_|refine DR (by k_dflt assumption) (by k_dflt assumption) ?_ (λ_=>?_)|refine Jt (by k_dflt assumption) (by walk_at"tb") ?_|refine Ju (by k_dflt assumption) (by walk_at"tb") (by walk_at"tb") ?_|refine DN (by k_dflt assumption) (by k_dflt assumption) ?_|refine zp (by k_dflt assumption) (by k_dflt assumption) ?_|refine vR ?_ ?_|refine IX ?_ ?_ ?_|refine DM (by k_dflt assumption) ?_|refine zo ?_|refine rT (by k_dflt assumption) ?_|refine IW ?_|refine zn ?_|refine vQ ?_ ?_|refine zu (by k_dflt assumption) ?_ ?_ ?_|refine DY ?_ ?_ ?_|exact vS)))
local macro_rules | `(tactic| walk_at"dv")=>`(tactic| (intro _ _ _ _ _ _ _ _ _ _;refine Gi rfl ?_;walk_at"dvr"))
local macro_rules | `(tactic| walk_at"dvx")=>`(tactic| (intro _ _ _ _ _ _ _ _ _ _;refine Ga rfl ?_;walk_at"dvr"))
section
variable{P:c9}{w:c8}{K:v6}{mg:c7->Option b7}{base:d7}
noncomputable def cZ(p:c7×Int):D:=.tup [.str p.1,.int p.2]
def Hd(d:D):Prop:=∃(x:c7) (k:Int),d=.tup [.str x,.int k]
theorem Gf(f:Hd a)(d:Hd b):v4 M (n+1) a b=a9↔a=b:=by obtain⟨x,k,rfl⟩:=f;obtain⟨y,l,rfl⟩:=d;show (v4 M n (.str x) (.str y)&&(v4 M n (.int k) (.int l)&&a9))=a9↔_;rw[aC,gP];simp
theorem JM(f:Hd a):w4 M w6 a=a9:=by obtain⟨x,k,rfl⟩:=f;rfl
theorem hd_key(f:Hd a):cw 8 a=a9:=by obtain⟨x,k,rfl⟩:=f;rfl
noncomputable def jL(hs:List (D×Int)):List D:=hs.map λp=>.tup [p.1,.int p.2]
noncomputable def cb(hs:List (D×Int))(d:D)(num:Int):Bool:=match hs.find? λp=>decide (p.1=d) with
 |some p=>decide<|num<p.2
 |none=>bt
noncomputable def QT:Nat->D->Bool
 |n+1,.tup xs=>xs.all<|QT n
 | 0,.tup _=>bt
 |_,.ref _=>bt
 |_,.ty _=>bt
 |_,_=>a9
def F0(n:Nat)(d:D):Prop:=QT n d=a9
def jn(n:Nat)(ds:List D):Prop:=ds.all (QT n)=a9
theorem F0.non:F0 n .non:=by cases n<;>rfl
theorem F0.bl(b:Bool):F0 n (.bl b):=by cases n<;>rfl
theorem F0.int(i:Int):F0 n (.int i):=by cases n<;>rfl
theorem F0.str(x:c7):F0 n (.str x):=by cases n<;>rfl
theorem jn.nil:jn n []:=rfl
theorem jn.cons(h:F0 n d)(t:jn n ds):jn n (d::ds):=by unfold jn F0 at *;rw[LL,h,t];rfl
theorem F0.tup(h:jn n ds):F0 (n+1) (.tup ds):=h
theorem jn.of(h:∀d∈ds,F0 n d):jn n ds:=E7.mpr h
theorem cQ:∀(n:Nat) (d:D),F0 n d->E4 k d:=by
 intro n;induction n with
 |zero =>
  intro d h;cases d with
  |tup xs=>cases h
  |ref i=>cases h
  |ty t=>cases h
  |non=>exact .non
  |bl b=>exact .bl b
  |int i=>exact .int i
  |str x=>exact .str x
 |succ n c =>
  intro d h;cases d with
  |tup xs=>exact .tup<|Bels.of λx a=>c x<|E7.mp h x a
  |ref i=>cases h
  |ty t=>cases h
  |non=>exact .non
  |bl b=>exact .bl b
  |int i=>exact .int i
  |str x=>exact .str x
theorem oZ:∀{xs:List D},(∀x∈xs,f x x=a9)->E3 f xs xs=a9
 | [],_=>rfl
 |x::xs,h=>by show (f x x&&E3 f xs xs)=a9;rw[h x (by simp),oZ λy hy=>h y<|D0 _ hy];rfl
theorem vJ:∀(n m:Nat) (d:D),n<=m->F0 n d->w4 M m d=a9/\v4 M m d d=a9:=by
 intro n;induction n with
 |zero =>
  intro m d _ h;cases d with
  |tup xs=>cases h
  |ref i=>cases h
  |ty t=>cases h
  |non=>exact⟨yS,by cases m<;>rfl⟩
  |bl b=>exact⟨DC,by cases m<;>cases b<;>rfl⟩
  |int i=>exact⟨aE,by rw[gP];exact u3 i⟩
  |str x=>exact⟨ag,by rw[aC];exact u3 x⟩
 |succ n c =>
  intro m d e h;cases m with
  |zero=>lia
  |succ m =>
   cases d with
   |tup xs=>exact⟨Fg λx a=>(c m x (by lia)<|E7.mp h x a).1,oZ λx a=>(c m x (by lia)<|E7.mp h x a).2⟩
   |ref i=>cases h
   |ty t=>cases h
   |non=>exact⟨yS,rfl⟩
   |bl b=>exact⟨DC,by cases b<;>rfl⟩
   |int i=>exact⟨aE,by rw[gP];exact u3 i⟩
   |str x=>exact⟨ag,by rw[aC];exact u3 x⟩
theorem Cz(h:Hd d):F0 (n+1) d:=by obtain⟨x,i,rfl⟩:=h;exact .tup<|.cons (.str _)<|.cons (.int _) .nil
theorem JN(h:Hd d):E4 k d:=cQ 1 d<|Cz h
def Deed(d:D):Prop:=∃(t:Int) (h:D) (m:Int) (a:D),d=.tup [.int t,h,.int m,a]/\Hd h/\F0 5 a
theorem GD(h:Deed d):F0 6 d:=by obtain⟨t,c,m,a,rfl,b,f⟩:=h;exact .tup<|.cons (.int _)<|.cons (Cz b)<|.cons (.int _)<|.cons f .nil
theorem CY(h:Deed d):E4 k d:=cQ 6 d<|GD h
theorem Kt(h:∀d∈ds,Deed d):Bels k ds:=Bels.of λd a=>CY<|h d a
noncomputable def lY:D->D
 |.tup (_::h::_)=>h
 |_=>.non
noncomputable def tN:D->Int
 |.tup (_::_::.int n::_)=>n
 |_=>0
noncomputable def many(log:List D)(h:D):Nat:=(log.filter λd=>decide<|lY d=h).length
theorem iI:aH (gx kvs k d) k=a7 d:=by
 unfold gx;split;rename_i hs;unfold aH at hs ⊢;rw[Qg]at hs;obtain⟨q,h⟩:=Ow.mp hs;rw[O1];have e:((λp:D×D=>decide<|p.1=k) ∘ λp:D×D=>if p.1=k then(p.1,d)else p)=λp=>decide (p.1=k):=by funext p;show decide ((if p.1=k then(p.1,d)else p).1=k)=decide (p.1=k);split<;>rfl
 rw[e,h];have a:q.1=k:=by have:=NK h;exact oT_ this
 show a7 (if q.1=k then(q.1,d)else q).2=_;rw[p9 a];rename_i hs;unfold aH at hs ⊢;rw[Qg,Option.not_isSome_iff_eq_none]at hs;rw[Qe,hs];simp
theorem fy(h:j≠k):aH (gx kvs k d) j=aH kvs j:=by
 unfold gx;split;unfold aH;rw[O1];have e:((λp:D×D=>decide<|p.1=j) ∘ λp:D×D=>if p.1=k then(p.1,d)else p)=λp=>decide (p.1=j):=by funext p;show decide ((if p.1=k then(p.1,d)else p).1=j)=decide (p.1=j);split<;>rfl
 rw[e];cases f:kvs.find? λp=>decide (p.1=j) with
 |none=>rfl
 |some q =>
  have a:q.1=j:=by have:=NK f;exact oT_ this
  show a7 (if q.1=k then(q.1,d)else q).2=a7 q.2;rw[r9<|by rw[a];exact h]
 unfold aH;rw[Qe];cases f:kvs.find? λp=>decide (p.1=j) with
 |none=>simp[A1 h]
 |some q=>rfl
theorem gJ:∀{kvs:List (D×D)}{p:D×D},(kvs.map (·.1)).Nodup->p∈kvs->aH kvs p.1=a7 p.2
 |q::kvs,p,nd,h=>by rw[C9,La]at nd;unfold aH;rw[Lr];rcases A4.mp h with rfl|h;rw[dT_ rfl];rfl;have:q.1≠p.1:=λz=>nd.1 (by rw[z];exact MR h);rw[dF_ this];exact gJ nd.2 h
theorem bU(h:aH kvs k=a7 d):(k,d)∈kvs:=by
 unfold aH at h;obtain⟨q,a,rfl⟩:=Mp.mp h;have e:q.1=k:=by have:=NK a;exact oT_ this
 rw[<-e];exact Ps a
theorem ir{α:Type}{P:List α->Prop}(a:P [])(h1:∀l x,P l->P (l++[x]))(l:List α):P l:=by
 rw[<-List.reverse_reverse l];induction l.reverse with
 |nil=>exact a
 |cons x xs i=>rw[List.reverse_cons];exact h1 _ _ i
theorem oO(h:am M n xs)(ok:∀x∈xs,w4 (M++[MO.lst []]) 29 x=a9):(w4 (M++[MO.lst []]) w6 (.ref n)=a9/\w4 (M++[MO.lst []]) w6 (.ref M.length)=a9)/\v4 (M++[MO.lst []]) w6 (.ref n) (.ref M.length)=xs.isEmpty:=by have h1:am (M++[MO.lst []]) n xs:=h.more _;have h2:am (M++[MO.lst []]) M.length []:=ap;refine⟨⟨oM (n:=29) h1 ok,oM (n:=29) h2 λ_ z=>nomatch z⟩,?_⟩;exact(vW (n:=29) h1 h2).trans Gm
theorem yZ(h:m≠n)(l:am M m xs):am (M.set n x) m xs:=by rcases l with l|l|l;exact .inl (by rw[Lv<|A1 h];exact l);exact .inr (.inl<|by rw[Lv<|A1 h];exact l);exact .inr<|.inr<|by rw[Lv<|A1 h];exact l
theorem bf{M:v5}{m n:Nat}{x y:MO}(h:m≠n)(l:M[m]?=a7 y):(M.set n x)[m]?=a7 y:=by rw[Lv<|A1 h];exact l
theorem aW{M:v5}{m:Nat}{y:MO}(l:M[m]?=a7 y):m<M.length:=(A5.mp l).1
theorem rB(l:am M m xs):m<M.length:=by rcases l with l|l|l<;>exact aW l
theorem ae{B:v5}{q:Nat}{x a:MO}(h:B[q]?=a7 x):(B++[a])[q]?=a7 x:=by rw[Le (A5.mp h).1];exact h
theorem dq{B:v5}{q:Nat}{x a:MO}(h:B[q]?=a7 x):(B.set q a)[q]?=a7 a:=LF (A5.mp h).1
theorem bQ(p:M <+: B)(l:am M q xs):am B q xs:=by obtain⟨L,rfl⟩:=p;exact l.more L
theorem aN{M B:v5}{q:Nat}{x:MO}(p:M <+: B)(l:M[q]?=a7 x):B[q]?=a7 x:=by obtain⟨L,rfl⟩:=p;rw[Le<|aW l];exact l
theorem vV(xs:List Int):Bels k (xs.map D.int):=Bels.of λd h=>by obtain⟨x,_,rfl⟩:=C1.mp h;exact .int x
theorem vB(xs:List c7):Bels k (xs.map D.str):=Bels.of λd h=>by obtain⟨x,_,rfl⟩:=C1.mp h;exact .str x
theorem bP{a b:Int}(h:0<b):0<=a % b:=Int.emod_nonneg _<|by lia
theorem cf{a b:Int}(h:0<b):a % b<b:=Int.emod_lt_of_pos _ h
theorem gu{α:Type}{xs:List α}{i:Int}(h:1<=xs.length):∃x∈xs,atI xs (i % (xs.length:Int))=a7 x:=by obtain⟨j,L,z,_⟩:=AA (xs:=xs) (bP (a:=i) (b:=xs.length)<|by lia) (cf<|by lia);exact⟨xs[j],LZ L,z⟩
theorem cC(p:M <+: B)(h:M.length<=q):M <+: B.set q x:=by obtain⟨L,rfl⟩:=p;rw[Qw _ _ h];exact Lu _ _
noncomputable def bR(p:c7×Int):List D:=(fe 0 p.2.toNat).map λk=>.tup [.str p.1,k]
noncomputable def aR(ps:List (c7×Int)):List D:=ps.flatMap bR
def Q1(ps:List (c7×Int)):Prop:=ps.length<=4/\∀p∈ps,0<=p.2/\p.2<=3
theorem gO:(bR p).length=p.2.toNat:=by simp[bR,fe]
theorem nN(h:∀p∈ps,0<=p.2/\p.2<=3):(aR ps).length<=3*ps.length:=by
 induction ps with
 |nil=>simp[aR]
 |cons p ps i =>
  have:=i λq a=>h q<|D0 _ a;have h1:=h p Fn;have e:(aR<|p::ps).length=p.2.toNat+(aR ps).length:=by rw[aR,List.flatMap_cons,D5,gO];rfl
  rw[e,E5];lia
theorem oV:∀d∈aR ps,Hd d:=λd h=>by unfold aR at h;obtain⟨p,_,hp⟩:=List.mem_flatMap.mp h;unfold bR fe at hp;simp only[J3,C1]at hp;obtain⟨i,_,rfl⟩:=hp;exact⟨_,_,rfl⟩
theorem xq:Bels k (aR ps):=Bels.of λd h=>JN<|oV d h
noncomputable def mC(p:c7×List c7):D:=.tup [.str p.1,.tup<|p.2.map .str]
noncomputable def az(ps:List (c7×Int))(rs:List (c7×List c7)):D:=.tup [.tup<|ps.map cZ,.tup<|rs.map mC]
structure HouseF(ps:List (c7×Int))(rs:List (c7×List c7)):Prop where
 len:1<=ps.length/\ps.length<=4
 many:∀p∈ps,1<=p.2/\p.2<=3
 nm:∀p∈ps,p.1.length<=8
 rl:1<=rs.length/\rs.length<=4
 pnd:(ps.map (·.1)).Nodup
 rnd:(rs.map (·.1)).Nodup
 sb:∀r∈rs,r.2.Sublist (ps.map (·.1))
theorem HouseF.rm(h:HouseF ps rs):∀r∈rs,r.2.length<=4:=λr i=>by have h1:=(h.sb r i).length_le;have h2:=h.len.2;rw[x3]at h1;lia
def St(d:D):Prop:=∃(t:Int) (z:c7) (k:Int),d=.tup [.int t,.tup [.str z,.int k]]
theorem St.key(h:St d):cw 8 d=a9:=by obtain⟨t,z,k,rfl⟩:=h;rfl
theorem St.ok(h:St d):w4 M w6 d=a9:=by obtain⟨t,z,k,rfl⟩:=h;rfl
theorem St.pl(h:St d):F0 (n+2) d:=by obtain⟨t,z,k,rfl⟩:=h;exact .tup<|.cons (.int _)<|.cons (.tup<|.cons (.str _)<|.cons (.int _) .nil) .nil
theorem St.eq(f:St a)(d:St b):v4 M (n+2) a b=decide (a=b):=by
 obtain⟨t,z,k,rfl⟩:=f;obtain⟨t',G,I,rfl⟩:=d;have e:v4 M (n+2) (.tup [.int t,.tup [.str z,.int k]]) (.tup [.int t',.tup [.str G,.int I]])=((t==t')&&(((z==G)&&((k==I)&&a9))&&a9)):=by show (v4 M (n+1) (.int t) (.int t')&&((v4 M n (.str z) (.str G)&&(v4 M n (.int k) (.int I)&&a9))&&a9))=_;rw[gP,aC,gP]
 rw[e];by_cases h:D.tup [.int t,.tup [.str z,.int k]]=.tup [.int t',.tup [.str G,.int I]];rw[dT_ h];simp only[D.tup.injEq,MP,D.int.injEq,D.str.injEq,and_true]at h;obtain⟨rfl,rfl,rfl⟩:=h;simp;rw[dF_ h];simp only[D.tup.injEq,MP,D.int.injEq,D.str.injEq,and_true]at h;refine LQ.mpr λq=>h ?_;simpa using q
theorem St.tup(h:St d):∃ks,d=.tup ks:=by obtain⟨t,z,k,rfl⟩:=h;exact⟨_,rfl⟩
def jI(d:D):Prop:=(∃x:c7,d=.tup [.str<|u7 "room",.str x])\/(∃x:c7,d=.tup [.str<|u7 "person",.str x])\/∃(t:Int) (z:c7) (k:Int),d=.tup [.str<|u7 "under",.tup [.int t,.tup [.str z,.int k]]]
theorem jI.tup(h:jI d):∃ks,d=.tup ks:=by rcases h with⟨x,rfl⟩|⟨x,rfl⟩|⟨t,z,k,rfl⟩<;>exact⟨_,rfl⟩
theorem jI.key(h:jI d):cw 8 d=a9:=by rcases h with⟨x,rfl⟩|⟨x,rfl⟩|⟨t,z,k,rfl⟩<;>rfl
theorem jI.ok(h:jI d):D9 w6 d=a9:=by rcases h with⟨x,rfl⟩|⟨x,rfl⟩|⟨t,z,k,rfl⟩<;>rfl
theorem jI.pl(h:jI d):F0 3 d:=by rcases h with⟨x,rfl⟩|⟨x,rfl⟩|⟨t,z,k,rfl⟩<;>rfl
theorem jI.pl4(h:jI d):F0 4 d:=by rcases h with⟨x,rfl⟩|⟨x,rfl⟩|⟨t,z,k,rfl⟩<;>rfl
theorem jI.str(h:jI d):∃z r,d=.tup (.str z::r):=by rcases h with⟨x,rfl⟩|⟨x,rfl⟩|⟨t,z,k,rfl⟩<;>exact⟨_,_,rfl⟩
theorem jI.cm(f:jI a)(d:jI b):gY M w6 a b=a9:=by
 have c:(u7 "room" == u7 "person")=bt:=by decide +kernel
 have T:(u7 "room" == u7 "under")=bt:=by decide +kernel
 have p:(u7 "person" == u7 "room")=bt:=by decide +kernel
 have u:(u7 "person" == u7 "under")=bt:=by decide +kernel
 have g:(u7 "under" == u7 "room")=bt:=by decide +kernel
 have e:(u7 "under" == u7 "person")=bt:=by decide +kernel
 have F:∀{x y:c7}{r r':List D},(x==y)=bt->gY M w6 (.tup<|.str x::r) (.tup<|.str y::r')=a9:=λ{x y r r'} h=>by show (if v4 M 29 (.str x) (.str y)=a9 then wd (v4 M 29) (gY M 29) r r' else gY M 29 (.str x) (.str y))=a9;rw[aC,h];rfl
 have s:∀{x y:c7}{z:c7},gY M w6 (.tup [.str z,.str x]) (.tup [.str z,.str y])=a9:=λ{x y z}=>by
  show (if v4 M 29 (.str z) (.str z)=a9 then(if v4 M 29 (.str x) (.str y)=a9 then a9 else a9)else a9)=a9
  repeat' split
  all_goals rfl
 rcases f with⟨x,rfl⟩|⟨x,rfl⟩|⟨t,z,k,rfl⟩<;>rcases d with⟨y,rfl⟩|⟨y,rfl⟩|⟨t',G,I,rfl⟩
 exact s;exact F c;exact F T;exact F p;exact s;exact F u;exact F g;exact F e
 ·show (if v4 M 29 (.str<|u7 "under") (.str<|u7 "under")=a9 then(if v4 M 29 (.tup [.int t,.tup [.str z,.int k]]) (.tup [.int t',.tup [.str G,.int I]])=a9 then a9 else(if v4 M 28 (.int t) (.int t')=a9 then(if v4 M 28 (.tup [.str z,.int k]) (.tup [.str G,.int I])=a9 then a9 else(if v4 M 27 (.str z) (.str G)=a9 then(if v4 M 27 (.int k) (.int I)=a9 then a9 else a9)else a9))else a9))else a9)=a9
  repeat' split
  all_goals rfl
theorem Hi(h:∀x∈xs,jI x)(l:xs.length<64):SrtG M xs:=SrtOk.g ⟨l,λx a=>(h x a).ok,λx a y Q=>(h x a).cm<|h y Q,.inr<|.inr<|.inl λx a=>(h x a).str⟩
def VecK(vs:List D):Prop:=∃hs:List (D×Int),vs=jL hs/\(∀p∈hs,Hd p.1)/\hs.length<=12/\(hs.map (·.1)).Nodup
structure ActK(rs:List (c7×List c7))(x:c7)(ds:List D):Prop where
 say:x=u7 "say"->∃(r:c7) (u:D) (s:c7),ds=[.str r,u,.str s]/\r∈rs.map (·.1)/\(u=.non\/St u)
 change:x=u7 "change"->∃(m:D) (s:c7),ds=[m,.str s]/\St m
 back:x=u7 "back"->∃m:D,ds=[m]/\St m
 like:x=u7 "like"->∃(m:D) (s:c7) (b:Bool),ds=[m,.str s,.bl b]/\St m
 read:x=u7 "read"->∃(r:c7) (vs:List D),ds=[.str r,.tup vs]/\VecK vs
 seen:x=u7 "seen"->∃m:D,ds=[m]/\St m
 rung:x=u7 "rung"->∃m:D,ds=[m]/\St m
 hush:x=u7 "hush"->∃(w:D) (b:Bool),ds=[w,.bl b]/\jI w
section
variable{rs:List (c7×List c7)}
theorem s_cb:u7 "say"≠u7 "change"/\u7 "say"≠u7 "back"/\u7 "say"≠u7 "like"/\u7 "change"≠u7 "back"/\u7 "change"≠u7 "like"/\u7 "back"≠u7 "like":=by decide +kernel
theorem cj{a b:c7}{P:Prop}(h:(a==b)=bt)(e:a=b):P:=t4 e<|beq_eq_false_iff_ne.mp h
theorem ActK.mkSay(i:r∈rs.map (·.1))(g:u=.non\/St u):ActK rs (u7 "say") [.str r,u,.str s]:=⟨λ_=>⟨r,u,s,rfl,i,g⟩,cj (by decide +kernel),cj (by decide +kernel),cj (by decide +kernel),cj (by decide +kernel),cj (by decide +kernel),cj (by decide +kernel),cj<|by decide +kernel⟩
theorem ActK.mkChange(h:St m):ActK rs (u7 "change") [m,.str s]:=⟨cj (by decide +kernel),λ_=>⟨m,s,rfl,h⟩,cj (by decide +kernel),cj (by decide +kernel),cj (by decide +kernel),cj (by decide +kernel),cj (by decide +kernel),cj<|by decide +kernel⟩
theorem ActK.mkBack(h:St m):ActK rs (u7 "back") [m]:=⟨cj (by decide +kernel),cj (by decide +kernel),λ_=>⟨m,rfl,h⟩,cj (by decide +kernel),cj (by decide +kernel),cj (by decide +kernel),cj (by decide +kernel),cj<|by decide +kernel⟩
theorem ActK.mkLike(h:St m):ActK rs (u7 "like") [m,.str s,.bl b]:=⟨cj (by decide +kernel),cj (by decide +kernel),cj (by decide +kernel),λ_=>⟨m,s,b,rfl,h⟩,cj (by decide +kernel),cj (by decide +kernel),cj (by decide +kernel),cj<|by decide +kernel⟩
theorem ActK.mkRead(h:VecK vs):ActK rs (u7 "read") [.str r,.tup vs]:=⟨cj (by decide +kernel),cj (by decide +kernel),cj (by decide +kernel),cj (by decide +kernel),λ_=>⟨r,vs,rfl,h⟩,cj (by decide +kernel),cj (by decide +kernel),cj<|by decide +kernel⟩
theorem ActK.mkSeen(h:St m):ActK rs (u7 "seen") [m]:=⟨cj (by decide +kernel),cj (by decide +kernel),cj (by decide +kernel),cj (by decide +kernel),cj (by decide +kernel),λ_=>⟨m,rfl,h⟩,cj (by decide +kernel),cj<|by decide +kernel⟩
theorem ActK.mkRung(h:St m):ActK rs (u7 "rung") [m]:=⟨cj (by decide +kernel),cj (by decide +kernel),cj (by decide +kernel),cj (by decide +kernel),cj (by decide +kernel),cj (by decide +kernel),λ_=>⟨m,rfl,h⟩,cj<|by decide +kernel⟩
theorem ActK.mkHush{w:D}{b:Bool}(h:jI w):ActK rs (u7 "hush") [w,.bl b]:=⟨cj (by decide +kernel),cj (by decide +kernel),cj (by decide +kernel),cj (by decide +kernel),cj (by decide +kernel),cj (by decide +kernel),cj (by decide +kernel),λ_=>⟨w,b,rfl,h⟩⟩
end
def aG(ps:List (c7×Int))(rs:List (c7×List c7))(d:D):Prop:=∃(t:Int) (z:c7) (k m:Int) (x:c7) (ds:List D),d=.tup [.int t,.tup [.str z,.int k],.int m,.tup<|.str x::ds]/\1<=t/\D.tup [.str z,.int k]∈aR ps/\jn 4 ds/\ActK rs x ds
section
variable{ps:List (c7×Int)}{rs:List (c7×List c7)}
theorem aG.pl(h:aG ps rs d):F0 6 d:=by obtain⟨t,z,k,m,x,ds,rfl,_,_,hp,_⟩:=h;exact .tup<|.cons (.int _)<|.cons (Cz ⟨_,_,rfl⟩)<|.cons (.int _)<|.cons (.tup<|.cons (.str _) hp) .nil
theorem aG.bels(h:∀d∈ds,aG ps rs d):Bels k ds:=Bels.of λd a=>cQ 6 d (h d a).pl
end
noncomputable def bw:D->c7
 |.tup [_,_,_,.tup<|.str x::_]=>x
 |_=>u7 ""
noncomputable def bO:D->c7
 |.tup (_::.tup (.str z::_)::_)=>z
 |_=>u7 ""
noncomputable def F4:D->D
 |.tup (t::h::_)=>.tup [t,h]
 |_=>.non
noncomputable def aX:D->c7
 |.tup [_,_,_,.tup<|_::.str r::_]=>r
 |_=>u7 ""
noncomputable def mO:D->D
 |.tup [_,_,_,.tup<|_::_::u::_]=>u
 |_=>.non
noncomputable def rj:D->D
 |.tup [_,_,_,.tup<|_::m::_]=>m
 |_=>.non
noncomputable def GV:D->D
 |.tup [_,_,_,.tup<|_::_::_::s::_]=>s
 |_=>.non
noncomputable def DH:D->D
 |.tup [_,_,n,_]=>n
 |_=>.non
noncomputable def sortO:D->c7
 |.tup [_,_,_,.tup<|_::_::.str s::_]=>s
 |_=>u7 ""
noncomputable def onO:D->Bool
 |.tup [_,_,_,.tup<|_::_::_::.bl b::_]=>b
 |_=>bt
noncomputable def jW(rs:List (c7×List c7))(r:c7):List c7:=((rs.find? λp=>decide<|p.1=r).map (·.2)).getD []
noncomputable def kinds(log:List D)(k:c7):List D:=log.filter λd=>decide<|bw d=k
section
variable{ps:List (c7×Int)}{rs:List (c7×List c7)}
theorem jB(h:aG ps rs d)(e:bw d=u7 "say"):∃(t:Int) (z:c7) (k num:Int) (r:c7) (u:D) (s:c7),d=.tup [.int t,.tup [.str z,.int k],.int num,.tup [.str<|u7 "say",.str r,u,.str s]]/\1<=t/\D.tup [.str z,.int k]∈aR ps/\r∈rs.map (·.1)/\(u=.non\/St u):=by obtain⟨t,z,k,num,x,ds,rfl,h1,h2,_,f⟩:=h;obtain rfl:x=u7 "say":=e;obtain⟨r,u,s,rfl,i,g⟩:=f.say rfl;exact⟨t,z,k,num,r,u,s,rfl,h1,h2,i,g⟩
theorem sB(h:aG ps rs d)(e:bw d=u7 "change"):∃(t:Int) (z:c7) (k num:Int) (m:D) (s:c7),d=.tup [.int t,.tup [.str z,.int k],.int num,.tup [.str<|u7 "change",m,.str s]]/\St m:=by obtain⟨t,z,k,num,x,ds,rfl,h1,h2,_,f⟩:=h;obtain rfl:x=u7 "change":=e;obtain⟨m,s,rfl,a⟩:=f.change rfl;exact⟨t,z,k,num,m,s,rfl,a⟩
theorem uA(h:aG ps rs d)(e:bw d=u7 "back"):∃(t:Int) (z:c7) (k num:Int) (m:D),d=.tup [.int t,.tup [.str z,.int k],.int num,.tup [.str<|u7 "back",m]]/\St m:=by obtain⟨t,z,k,num,x,ds,rfl,h1,h2,_,f⟩:=h;obtain rfl:x=u7 "back":=e;obtain⟨m,rfl,a⟩:=f.back rfl;exact⟨t,z,k,num,m,rfl,a⟩
theorem like_of(h:aG ps rs d)(e:bw d=u7 "like"):∃(t:Int) (z:c7) (k num:Int) (m:D) (s:c7) (b:Bool),d=.tup [.int t,.tup [.str z,.int k],.int num,.tup [.str<|u7 "like",m,.str s,.bl b]]/\St m:=by obtain⟨t,z,k,num,x,ds,rfl,h1,h2,_,f⟩:=h;obtain rfl:x=u7 "like":=e;obtain⟨m,s,b,rfl,a⟩:=f.like rfl;exact⟨t,z,k,num,m,s,b,rfl,a⟩
end
section
variable{ps:List (c7×Int)}{rs:List (c7×List c7)}
theorem yy(h:aG ps rs d)(e:bw d=u7 "read"):∃(t:Int) (z:c7) (k num:Int) (r:c7) (hs:List (D×Int)),d=.tup [.int t,.tup [.str z,.int k],.int num,.tup [.str<|u7 "read",.str r,.tup<|jL hs]]/\(∀p∈hs,Hd p.1)/\hs.length<=12:=by obtain⟨t,z,k,num,x,ds,rfl,h1,h2,_,f⟩:=h;obtain rfl:x=u7 "read":=e;obtain⟨r,vs,rfl,hs,rfl,b,g,_⟩:=f.read rfl;exact⟨t,z,k,num,r,hs,rfl,b,g⟩
theorem read_nd(h:aG ps rs (.tup [.int t,.tup [.str z,.int k],.int num,.tup [.str<|u7 "read",.str r,.tup<|jL hs]])):(hs.map (·.1)).Nodup:=by
 obtain⟨t',G,I,n,x,ds,e,h1,h2,_,g⟩:=h;simp only[D.tup.injEq,MP,D.int.injEq,D.str.injEq,and_true]at e;obtain⟨rfl,⟨rfl,rfl⟩,rfl,rfl,rfl⟩:=e;obtain⟨r',vs,e,u,c,d,m,i⟩:=g.read rfl;injection e with _ e;injection e with e;injection e with e;rw[<-e]at c;have j:∀(a b:List (D×Int)),jL a=jL b->a=b:=λa b q=>by
  refine List.map_inj_right (f:=λp:D×Int=>D.tup [p.1,.int p.2]) (λp l q=>?_) |>.mp q
  injection q with q;injection q with d q;injection q with q _;injection q with q;exact Prod.ext d q
 rw[j _ _ c];exact i
theorem EA(h:aG ps rs d)(e:bw d=u7 "seen"\/bw d=u7 "rung"):∃(t:Int) (z:c7) (k num:Int) (x:c7) (m:D),d=.tup [.int t,.tup [.str z,.int k],.int num,.tup [.str x,m]]/\St m:=by obtain⟨t,z,k,num,x,ds,rfl,h1,h2,_,f⟩:=h;obtain⟨m,rfl,a⟩:∃m:D,ds=[m]/\St m:=e.elim (λe=>f.seen e) λe=>f.rung e;exact⟨t,z,k,num,x,m,rfl,a⟩
theorem hush_of(h:aG ps rs d)(e:bw d=u7 "hush"):∃(t:Int) (z:c7) (k num:Int) (w:D) (b:Bool),d=.tup [.int t,.tup [.str z,.int k],.int num,.tup [.str<|u7 "hush",w,.bl b]]/\jI w:=by obtain⟨t,z,k,num,x,ds,rfl,h1,h2,_,f⟩:=h;obtain rfl:x=u7 "hush":=e;obtain⟨w,b,rfl,a⟩:=f.hush rfl;exact⟨t,z,k,num,w,b,rfl,a⟩
end
local macro_rules | `(tactic| walk_at"ifs")=>`(tactic| simp only[nI,A8,↓reduceIte,Mh,Bool.not_false])
noncomputable def qE(rs:List (c7×List c7))(kvs:List (D×D))(d:D):Bool:=decide (bO d∈jW rs (aX d))&&(decide (mO d=.non)||match aH kvs (mO d) with
 |some e=>decide<|aX e=aX d
 |none=>bt)
noncomputable def tj(rs:List (c7×List c7))(kvs:List (D×D))(d:D):List (D×D):=if qE rs kvs d=a9 then gx kvs (F4 d) d else kvs
noncomputable def dE(rs:List (c7×List c7))(l:List D):List (D×D):=l.foldl (tj rs) []
theorem gX:dE rs (l++[d])=tj rs (dE rs l) d:=by unfold dE;rw[Qf];rfl
noncomputable def aT(rs:List (c7×List c7))(log:List D):List (D×D):=dE rs<|kinds log<|u7 "say"
theorem jf:kinds (log++[d]) k=kinds log k++if bw d=k then[d]else[]:=by unfold kinds;rw[Qm];congr 1;by_cases h:bw d=k;rw[Mm,dT_ h,p9 rfl,p9 h];rfl;rw[Mm,dF_ h,r9 (by decide),r9 h];rfl
theorem bc(h:d∈kinds log k):d∈log/\bw d=k:=⟨(Lk.mp h).1,oT_ (Lk.mp h).2⟩
theorem cA:(kinds log k).length<=log.length:=MS _ _
structure TabK(l:List D)(kvs:List (D×D)):Prop where
 nd:(kvs.map (·.1)).Nodup
 en:∀p∈kvs,p.1=F4 p.2/\p.2∈l
 len:kvs.length<=l.length
theorem vH(h:p∈gx kvs k d):p=(k,d)\/p∈kvs:=by unfold gx at h;split at h;obtain⟨q,a,rfl⟩:=C1.mp h;split;rename_i e;rw[e];exact .inl rfl;exact .inr a;rcases I9.mp h with h|h;exact .inr h;exact .inl<|by simpa using h
theorem yD:(gx kvs k d).length<=kvs.length+1:=by unfold gx;split;rw[x3];lia;simp
theorem nQ(l:List D):TabK l (dE rs l):=by
 refine ir (P:=λl=>TabK l<|dE rs l) ⟨.nil,(λ_ z=>nomatch z),w5 _⟩ (λl d i=>?_) l;rw[gX];unfold tj;have hs:∀p∈dE rs l,p.1=F4 p.2/\p.2∈l++[d]:=λp hp=>⟨(i.en p hp).1,NQ _ (i.en p hp).2⟩
 have g:=i.len;split;refine⟨oA i.nd,λp hp=>?_,?_⟩;rcases vH hp with rfl|hp;exact⟨rfl,by simp⟩;exact hs p hp;have:=yD (kvs:=dE rs l) (k:=F4 d) (d:=d);rw[D5,Ll];lia;exact⟨i.nd,hs,by rw[D5,Ll];lia⟩
theorem bn:TabK (kinds log<|u7 "say") (aT rs log):=nQ _
theorem JT(t:TabK l kvs)(h:aH kvs k=a7 e):k=F4 e/\e∈l:=t.en _<|bU h
noncomputable def LV(kvs:List (D×D))(d:D):Bool:=match aH kvs (rj d) with
 |some e=>decide<|bO d=bO e
 |none=>bt
def PN(d:D):Prop:=∃(a:D) (z:c7) (r l:List D),d=.tup (a::.tup (.str z::r)::l)
section
variable{ps:List (c7×Int)}{rs:List (c7×List c7)}
theorem aG.nm(h:aG ps rs d):PN d:=by obtain⟨t,z,k,m,x,ds,rfl,_⟩:=h;exact⟨_,_,_,_,rfl⟩
theorem aG.st(h:aG ps rs d):St (F4 d):=by obtain⟨t,z,k,m,x,ds,rfl,_⟩:=h;exact⟨_,_,_,rfl⟩
theorem St.cm(f:St a)(d:St b):gY M w6 a b=a9:=by
 obtain⟨t,z,k,rfl⟩:=f;obtain⟨t',G,I,rfl⟩:=d;show (if v4 M 29 (.int t) (.int t')=a9 then(if v4 M 29 (.tup [.str z,.int k]) (.tup [.str G,.int I])=a9 then a9 else(if v4 M 28 (.str z) (.str G)=a9 then(if v4 M 28 (.int k) (.int I)=a9 then a9 else a9)else a9))else a9)=a9
 repeat' split
 all_goals rfl
theorem Es(h:∀x∈xs,St x)(l:xs.length<64):SrtOk M xs:=by refine⟨l,λx a=>?_,λx a y Q=>(h x a).cm<|h y Q,.inr<|.inr<|.inr<|.inl λx a=>?_⟩;obtain⟨t,z,k,rfl⟩:=h x a;rfl;obtain⟨t,z,k,rfl⟩:=h x a;exact⟨_,_,rfl⟩
end
def bq(kvs:List (D×D))(log:List D)(k:D):Prop:=∃d∈kinds log (u7 "back"),LV kvs d=a9/\rj d=k
theorem Bw(h:k∉kvs.map (·.1)):gx kvs k d=kvs++[(k,d)]:=by unfold gx;rw[r9];intro z;obtain⟨e,i⟩:=Ow.mp z;exact h (MR (f:=(·.1))<|bU i)
theorem sk(ps:List (D×D))(h:(ps.map (·.1)).Nodup):dictOf ps=ps:=by revert h;refine ir (P:=λps=>(ps.map (·.1)).Nodup->dictOf ps=ps) (λ_=>rfl) (λps p i h=>?_) ps;rw[LC]at h;have h':=List.nodup_append.mp h;rw[gR,i h'.1,Bw];intro z;exact h'.2.2 _ z _ (by simp) rfl
theorem oU{M:v5}{x:c7}{l:List c7}:LH M (.str x) (l.map .str)=decide (x∈l):=by unfold LH;rw[List.any_map];by_cases h:x∈l;rw[dT_ h];exact Lh.mpr ⟨x,h,by show v4 M w6 (.str x) (.str x)=a9;rw[aC];exact u3 x⟩;rw[dF_ h];refine LQ.mpr λz=>?_;obtain⟨y,Q,e⟩:=Lh.mp z;have a:v4 M w6 (.str y) (.str x)=a9:=e;rw[aC]at a;exact h<|eq_of_beq a ▸ Q
theorem oq{M:v5}{l:List c7}:(l.map D.str).all (w4 M w6)=a9:=E7.mpr λx h=>by obtain⟨y,_,rfl⟩:=C1.mp h;exact ag
noncomputable def bj(rs:List (c7×List c7))(log:List D):List (D×D):=(aT rs log).filter λp=>@decide (¬bq (aT rs log) log p.1)<|NS _
theorem dz:p∈bj rs log↔p∈aT rs log/\¬bq (aT rs log) log p.1:=by unfold bj;rw[List.mem_filter];exact and_congr Iff.rfl<|@decide_eq_true_iff _<|NS _
theorem Bn:((bj rs log).map (·.1)).Nodup:=(Q6.map _).nodup bn.nd
theorem qL(h:aH (aT rs log) k=a7 e)(d:¬bq (aT rs log) log k):aH (bj rs log) k=a7 e:=gJ (p:=(k,e)) Bn<|dz.mpr ⟨bU h,d⟩
noncomputable def we(kvs:List (D×D))(log:List D):List (D×D):=dictOf<|((kinds log<|u7 "change").filter<|LV kvs).map λd=>(rj d,mO d)
noncomputable def msgD(ch:List (D×D))(d:D):D:=.tup [F4 d,.str<|aX d,mO d,.str<|bO d,(aH ch<|F4 d).getD<|GV d,.bl (aH ch<|F4 d).isSome]
noncomputable def IT(rs:List (c7×List c7))(log:List D):List D:=(bj rs log).map λp=>msgD (we (bj rs log) log) p.2
structure BackL(rs:List (c7×List c7))(log:List D)(ys:List D):Prop where
 st:∀x∈ys,St x
 mem:∀x,x∈ys↔bq (aT rs log) log x
 nd:ys.Nodup
 up:ys.Pairwise λa b=>¬G6 w6 b<G6 w6 a
theorem xH:eS (jU kvs k d) k=a7 d:=by
 unfold jU;split;rename_i hs;obtain⟨p,hp,e⟩:=Lh.mp hs;unfold eS;rw[O1];have l:((λp:c7×D=>decide<|p.1=k) ∘ λp:c7×D=>if p.1=k then(p.1,d)else p)=λp=>decide (p.1=k):=by funext p;show decide ((if p.1=k then(p.1,d)else p).1=k)=decide (p.1=k);split<;>rfl
 rw[l];cases f:kvs.find? λp=>decide (p.1=k) with
 |none=>exact t4 e<|by simpa using Ph.mp f p hp
 |some q =>
  have h:q.1=k:=by have:=NK f;exact oT_ this
  show a7 (if q.1=k then(q.1,d)else q).2=_;rw[p9 h]
 rename_i hs;unfold eS;have:kvs.find? (λp=>decide<|p.1=k)=a8:=Ph.mpr λp hp z=>hs<|Lh.mpr ⟨p,hp,z⟩;rw[Qe,this];simp
theorem wF(h:j≠k):eS (jU kvs k d) j=eS kvs j:=by
 unfold jU;split;unfold eS;rw[O1];have e:((λp:c7×D=>decide<|p.1=j) ∘ λp:c7×D=>if p.1=k then(p.1,d)else p)=λp=>decide (p.1=j):=by funext p;show decide ((if p.1=k then(p.1,d)else p).1=j)=decide (p.1=j);split<;>rfl
 rw[e];cases f:kvs.find? λp=>decide (p.1=j) with
 |none=>rfl
 |some q =>
  have a:q.1=j:=by have:=NK f;exact oT_ this
  show a7 (if q.1=k then(q.1,d)else q).2=a7 q.2;rw[r9<|by rw[a];exact h]
 unfold eS;rw[Qe];cases f:kvs.find? λp=>decide (p.1=j) with
 |none=>simp[A1 h]
 |some q=>rfl
noncomputable def fu(log:List D)(k name:c7):List D:=(kinds log k).filter λd=>decide<|bO d=name
theorem lO(h:d∈fu log k name):d∈log/\bw d=k/\bO d=name:=⟨(bc (Lk.mp h).1).1,(bc (Lk.mp h).1).2,oT_ (Lk.mp h).2⟩
theorem lP:(fu log k name).length<=log.length:=H9 (MS _ _) cA
theorem GY:fu (log++[d]) k name=fu log k name++if bw d=k/\bO d=name then[d]else[]:=by unfold fu;rw[jf,Qm];congr 1;by_cases h1:bw d=k;rw[p9 h1,Mm,List.filter_nil];by_cases h2:bO d=name;rw[dT_ h2,p9 rfl,p9 ⟨h1,h2⟩];rw[dF_ h2,r9 (by decide),r9 λz=>h2 z.2];rw[r9 h1,r9 λz=>h1 z.1];rfl
noncomputable def nZ(log:List D)(k name:c7):List D:=(fu log k name).map rj
noncomputable def Rr:D->D×Int
 |.tup [h,.int c]=>(h,c)
 |_=>(.non,0)
noncomputable def Ba:D->List (D×Int)
 |.tup vs=>vs.map Rr
 |_=>[]
theorem uH:Ba (.tup<|jL hs)=hs:=by show (jL hs).map Rr=hs;unfold jL;rw[J3];exact N7 _
noncomputable def nW(log:List D)(name r:c7):List D:=((fu log (u7 "read") name).filter λd=>decide<|aX d=r).map mO
structure VbAt(B:v5)(n:Nat)(tab:List (c7×D))(f:c7->List D):Prop where
 at_:B[n]?=a7 (.dct tab)
 got:∀k d,eS tab k=a7 d->∃m,d=.ref m/\n+1<m/\B[m]?=a7 (.lst<|f k)
 no:∀k,eS tab k=a8->f k=[]
 one:∀k k' m,eS tab k=a7 (.ref m)->eS tab k'=a7 (.ref m)->k=k'
theorem VbAt.pre(h:VbAt B n tab f)(p:B <+: B'):VbAt B' n tab f:=⟨aN p h.at_,λk d a=>let ⟨m,e,l,g⟩:=h.got k d a;⟨m,e,l,aN p g⟩,h.no,h.one⟩
theorem VbAt.kids(h:VbAt B n tab f)(a:B[q0]?=a7 (.lst [])):∃q,(eS tab k).getD (.ref q0)=.ref q/\B[q]?=a7 (.lst<|f k):=by
 cases e:eS tab k with
 |none=>exact⟨q0,rfl,by rw[h.no k e];exact a⟩
 |some d=>obtain⟨m,rfl,_,g⟩:=h.got k d e;exact⟨m,rfl,g⟩
noncomputable def fh(log:List D)(name:c7)(e:D):Bool:=decide (bO e=name)||(decide (F4 e∈nZ log (u7 "seen") name)||(nW log name<|aX e).any λv=>cb (Ba v) (lY e)<|tN e)
noncomputable def JC(log:List D)(name:c7):List (D×D):=dictOf<|(fu log (u7 "hush") name).map λd=>(rj d,mO d)
def HushP(log:List D)(name:c7)(w:D):Prop:=aH (JC log name) w=a7 (.bl a9)
noncomputable def Gb(log:List D)(name:c7)(w:D):Bool:=decide<|aH (JC log name) w=a7 (.bl a9)
noncomputable def mK(H:D->Bool)(kvs:List (D×D)):List D:=kvs.foldl (λacc p=>if (H p.1||decide (mO p.2∈acc))=a9 then acc++[p.1]else acc) []
theorem nM:mK H (kvs++[p])=if (H p.1||decide (mO p.2∈mK H kvs))=a9 then mK H kvs++[p.1]else mK H kvs:=by unfold mK;rw[Qf];rfl
theorem JE:∀x∈mK H kvs,x∈kvs.map (·.1):=by refine ir (P:=λkvs=>∀x∈mK H kvs,x∈kvs.map (·.1)) (λx h=>nomatch h) (λkvs p i x h=>?_) kvs;rw[nM]at h;rw[LC,List.mem_append];split at h;rcases I9.mp h with h|h;exact .inl<|i x h;exact .inr h;exact .inl<|i x h
theorem JD:(mK H kvs).length<=kvs.length:=by refine ir (P:=λkvs=>(mK H kvs).length<=kvs.length) (w5 _) (λkvs p i=>?_) kvs;rw[nM,D5,Ll];split;rw[D5,Ll];lia;lia
noncomputable def begB(y n:c7):Bool:=Txt.startswith y n && !(!kU (LK y (a7 (n.length:Int))<|a7<|(n.length:Int)+1) "a" && !kU "z" (LK y (a7 (n.length:Int))<|a7<|(n.length:Int)+1))
noncomputable def IR(s:D)(name:c7):Bool:=match s with
 |.str x=>((Txt.split x<|u7 "@").drop 1).any λy=>begB y name
 |_=>bt
noncomputable def sayL(rs:List (c7×List c7))(log:List D)(e:D):D:=(aH (we (bj rs log) log)<|F4 e).getD<|GV e
noncomputable def HJ(rs:List (c7×List c7))(name:c7):List c7:=(rs.filter λp=>decide<|name∈p.2).map (·.1)
noncomputable def ownS(kvs:List (D×D))(name:c7):List D:=(kvs.map (·.1)).filter λs=>decide<|bO ((aH kvs s).getD .non)=name
noncomputable def whyO(rs:List (c7×List c7))(log:List D)(name:c7)(e:D):Option c7:=if IR (sayL rs log e) name=a9 then a7 (u7 "named")
 else if mO e∈ownS (aT rs log) name then a7 (u7 "answered")
 else if (Gb log name (.tup [.str<|u7 "room",.str<|aX e])||decide (F4 e∈mK (λs=>Gb log name<|.tup [.str<|u7 "under",s]) (aT rs log)))=a9 then a8 else a7 (u7 "heard")
noncomputable def ringB(rs:List (c7×List c7))(log:List D)(name:c7)(e:D):Bool:=decide (aX e∈HJ rs name)&&(!decide (F4 e∈nZ log (u7 "rung") name) && !Gb log name (.tup [.str<|u7 "person",.str<|bO e]))
noncomputable def bellO(rs:List (c7×List c7))(log:List D)(name:c7)(e:D):Option D:=if ringB rs log name e=a9 then(whyO rs log name e).map λw=>.tup [F4 e,.str w]else a8
noncomputable def Ep(rs:List (c7×List c7))(log:List D)(name:c7):List D:=((bj rs log).map (·.2)).filter λe=>!fh log name e
noncomputable def bellsD(rs:List (c7×List c7))(log:List D)(name:c7):List D:=(Ep rs log name).filterMap<|bellO rs log name
theorem jI.eq(f:jI a)(e:jI b):v4 M w6 a b=decide (a=b):=by
 have l:∀{x y:c7}{c d:D},v4 M w6 (.tup [.str x,c]) (.tup [.str y,d])=((x==y)&&(v4 M 29 c d&&a9)):=λ{x y c d}=>by show (v4 M 29 (.str x) (.str y)&&(v4 M 29 c d&&a9))=_;rw[aC]
 have k:∀{x y:c7}{c d:D},v4 M 29 c d=decide (c=d)->v4 M w6 (.tup [.str x,c]) (.tup [.str y,d])=decide (D.tup [.str x,c]=.tup [.str y,d]):=λ{x y c d} h=>by rw[l,h,Om];simp
 have s:∀{x y:c7},v4 M 29 (.str x) (.str y)=decide (D.str x=.str y):=λ{x y}=>by rw[aC,Om];simp
 rcases f with⟨x,rfl⟩|⟨x,rfl⟩|⟨t,z,n,rfl⟩<;>rcases e with⟨y,rfl⟩|⟨y,rfl⟩|⟨t',G,g,rfl⟩
 exact k s;exact k s;exact k<|Eq.trans (b:=bt) rfl (dF_<|λz=>nomatch z).symm;exact k s;exact k s;exact k<|Eq.trans (b:=bt) rfl (dF_<|λz=>nomatch z).symm;exact k<|Eq.trans (b:=bt) rfl (dF_<|λz=>nomatch z).symm;exact k<|Eq.trans (b:=bt) rfl (dF_<|λz=>nomatch z).symm;exact k<|St.eq (n:=27) ⟨_,_,_,rfl⟩ ⟨_,_,_,rfl⟩
theorem whats_ok{M:v5}{l:List D}(h:∀x∈l,jI x):l.all (w4 M w6)=a9:=E7.mpr λx a=>(vJ 3 w6 x (by decide) (h x a).pl).1
theorem inD_what(a:jI x)(h:∀x∈l,jI x):LH M x l=decide (x∈l):=by unfold LH;by_cases d:x∈l;rw[dT_ d];exact Lh.mpr ⟨x,d,by rw[a.eq a];exact dT_ rfl⟩;rw[dF_ d];refine LQ.mpr λz=>?_;obtain⟨y,Q,e⟩:=Lh.mp z;rw[(h y Q).eq a]at e;exact d<|oT_ e ▸ Q
theorem inD_u(a:x=.non\/St x)(h:∀x∈l,St x):LH M x l=decide (x∈l):=by
 rcases a with rfl|a;unfold LH;have:D.non∉l:=λz=>by obtain⟨t,z,k,e⟩:=h _ z;cases e
 rw[dF_ this];refine LQ.mpr λz=>?_;obtain⟨y,Q,e⟩:=Lh.mp z;obtain⟨t,z,k,rfl⟩:=h y Q;cases e;unfold LH;by_cases d:x∈l;rw[dT_ d];exact Lh.mpr ⟨x,d,by rw[show w6=28+2 from rfl,a.eq a];exact dT_ rfl⟩;rw[dF_ d];refine LQ.mpr λz=>?_;obtain⟨y,Q,e⟩:=Lh.mp z;rw[show w6=28+2 from rfl,(h y Q).eq a]at e;exact d<|oT_ e ▸ Q
theorem Bx(h:k∉kvs.map (·.1)):jU kvs k d=kvs++[(k,d)]:=by unfold jU;rw[r9];intro z;obtain⟨p,hp,e⟩:=Lh.mp z;exact h<|oT_ e ▸ MR hp
noncomputable def pI:D->Bool
 |.int _=>a9
 |_=>bt
def cX:A2:=λds M R=>∃d,ds=[d]/\E2 M d∈pL/\R (.bl<|pI d) M
theorem rN:da cX iV:=by rintro ds M R ⟨d,rfl,_⟩;rfl
def nv:u9:=bd<|eR (v8 qQ<|aa (ac 0)<|aa (dC<|.ty "int") ah)<|Ak<|v8 qQ<|aa (ac 0)<|aa (dC<|.ty "bool") ah
theorem sP:C8 cX 1 nv:=by
 rintro ds M R ⟨d,rfl,D,h⟩;unfold nv;cases d with
 |ref n=>have e:=pK D;simp only[E2]at e;walk_at"dl";simp only[e];exact⟨by decide,br<|aO.now h⟩
 |ty n=>simp only[E2]at D;exact t4 D<|by decide
 |int i=>walk_at"dl";exact⟨by decide,bC ⟨by decide,aO.now h⟩⟩
 |bl i=>walk_at"dl";exact⟨by decide,bC ⟨by decide,aO.now h⟩⟩
 |_=>walk_at"dl";exact⟨by decide,br<|aO.now h⟩
theorem lJ(T:Tops P w K mg base):x5 P w K mg base 1 "is_whole" iV cX:=x5.byD (N:=["thing"]) T.b T.f_is_whole (by walk_at"sc") rN (by walk_at"dv") sP
noncomputable def kj(k:Int):D->Bool
 |.int i=>decide<|k<=i
 |_=>bt
def bG:A2:=λds M R=>∃(k:Int) (d:D),ds=[.int k,d]/\E2 M d∈pL/\R (.bl<|kj k d) M
theorem jd:da bG cS:=by rintro ds M R ⟨k,d,rfl,_⟩;rfl
def eW:u9:=bd<|eR (v8 cX<|aa (ac 1) ah)<|u5 OC (ac 1)<|ac 0
theorem jJ:C8 bG 2 eW:=by
 rintro ds M R ⟨k,d,rfl,D,h⟩;unfold eW;walk_at"dl";refine⟨d,rfl,D,?_⟩;cases d with
 |int i=>simp only[pI,↓reduceIte];exact aO.now h
 |_=>simp only[pI,A8,↓reduceIte];exact aO.now h
theorem jO(T:Tops P w K mg base):x5 P w K mg base 2 "is_whole_from" cS bG:=x5.byD (N:=["least","thing"]) T.b T.f_is_whole_from (by walk_at"sc") jd (by have:=lJ T;walk_at"dv") jJ
noncomputable def Bh(k:Int):D->Bool
 |.tup xs=>(xs.length:Int)==k
 |_=>bt
def bD:A2:=λds M R=>∃(k:Int) (d:D),ds=[.int k,d]/\E2 M d∈pL/\R (.bl<|Bh k d) M
theorem lU:da bD dR:=by rintro ds M R ⟨k,d,rfl,_⟩;rfl
def ik:u9:=bd<|eR (v8 qQ<|aa (ac 1)<|aa (dC<|.ty "tuple") ah)<|u5 A9 (v8 jN<|aa (ac 1) ah)<|ac 0
theorem mx:C8 bD 2 ik:=by
 rintro ds M R ⟨k,d,rfl,D,h⟩;unfold ik;cases d with
 |ref n=>have e:=pK D;simp only[E2]at e;walk_at"dl";simp only[e];exact⟨by decide,br<|aO.now h⟩
 |ty n=>simp only[E2]at D;exact t4 D<|by decide
 |tup xs=>walk_at"dl";exact⟨by decide,bC ⟨⟨rfl,rfl⟩,aO.now h⟩⟩
 |_=>walk_at"dl";exact⟨by decide,br<|aO.now h⟩
theorem gi(T:Tops P w K mg base):x5 P w K mg base 1 "is_tuple_of" dR bD:=x5.byD (N:=["many","thing"]) T.b T.f_is_tuple_of (by walk_at"sc") lU (by walk_at"dv") mx
noncomputable def iG(ps:List (c7×Int)):D->Int
 |.str x=>((ps.find? λp=>decide<|p.1=x).map (·.2)).getD 0
 |_=>0
def fT:A2:=λds M R=>∃(ps:List (c7×Int)) (r:List D) (d:D),ds=[.tup<|.tup (ps.map cZ)::r,d]/\w4 M w6 d=a9/\R (.int<|iG ps d) M
theorem ub:da fT lC:=by rintro ds M R ⟨ps,r,d,rfl,_⟩;rfl
theorem tR(p:c7×Int)(ps:List (c7×Int))(d:D)(M:v5):iG (p::ps) d=if v4 M w6 (.str p.1) d=a9 then p.2 else iG ps d:=by
 cases d with
 |str x =>
  show ((List.find? _<|p::ps).map _).getD 0=if (p.1==x)=a9 then _ else _
  by_cases h:p.1=x;subst h;simp;rw[r9<|by simpa using h];simp[iG,Lr,h]
 |_=>rfl
def kJ:u9:=bd<|dC<|.int 0
def qj:u9:=aB (jk (bZ<|u5 v9 (ac 0)<|dC<|.int 0) (eD 2<|aA (af 2)<|aA (af 3) eE)<|B6 (au<|u5 A9 (ac 2)<|ac 1) (bd<|ac 3) aI)<|kJ
theorem wx:C8 fT 4 qj:=by
 rintro ds M R ⟨ps,r,d,rfl,ok,h⟩;simp only[qj,kJ];walk_at"dl";intro _;refine eG (λys S M'=>∃qs a b,ys=qs.map cZ/\M'=M/\S=[a7<|.tup<|.tup (ps.map cZ)::r,a7 d,a,b]/\iG ps d=iG qs d) ?_ ?_ _ _ _ ⟨ps,_,_,rfl,rfl,rfl,rfl⟩;rintro S M' ⟨qs,a,b,q,rfl,rfl,e⟩;have:qs=[]:=by cases qs<;>simp_all
 subst this;rw[e]at h;exact⟨trivial,aO.now<|by cases d<;>exact h⟩;rintro x xs S M' ⟨qs,a,b,q,rfl,rfl,e⟩ L c;cases qs with
 |nil=>cases q
 |cons p qs=>rw[C9]at q;injection q with h1 h2;subst h1;refine⟨trivial,?_⟩;unfold cZ;walk_at"dl";refine⟨trivial,⟨rfl,ok⟩,?_⟩;rw[tR p qs d M']at e;by_cases q:v4 M' w6 (.str p.1) d=a9;rw[p9 q]at e;rw[q];refine bC<|aO.now ?_;rw[<-e];exact h;rw[r9 q]at e;rw[LQ.mpr q];exact br<|A7.now<|c _ _ ⟨qs,_,_,h2,rfl,rfl,e⟩
theorem wU(T:Tops P w K mg base):x5 P w K mg base 1 "many_of" lC fT:=x5.byD (N:=["house","name","person","many"]) T.b T.f_many_of (by walk_at"sc") ub (by walk_at"dv") wx
noncomputable def cF(ps:List (c7×Int)):D->Bool
 |.tup [a,.int k]=>decide (0<=k)&&decide (k<iG ps a)
 |_=>bt
def fV:A2:=λds M R=>∃(ps:List (c7×Int)) (r:List D) (d:D),ds=[.tup<|.tup (ps.map cZ)::r,d]/\E2 M d∈pL/\(∀a b,d=.tup [a,b]->w4 M w6 a=a9/\E2 M b∈pL)/\R (.bl<|cF ps d) M
theorem ud:da fV lE:=by rintro ds M R ⟨ps,r,d,rfl,_⟩;rfl
def qo:u9:=bd<|eR (v8 bD<|aa (dC<|.int 2)<|aa (ac 1) ah)<|eR (v8 cX<|aa (u5 v9 (ac 1)<|dC<|.int 1) ah)<|sw OB Mq (dC<|.int 0) (u5 v9 (ac 1)<|dC<|.int 1)<|v8 fT<|aa (ac 0)<|aa (u5 v9 (ac 1)<|dC<|.int 0) ah
theorem wz:C8 fV 2 qo:=by
 rintro ds M R ⟨ps,r,d,rfl,D,S,h⟩;simp only[qo];simp only[bd,eR,v8,aa,ah,dC,ac,ci,C9,Oc,Oo,K9,List.getElem?_cons_zero,QC,E5,G0,List.replicate_zero,MI,Option.join_some];refine⟨2,d,rfl,D,?_⟩;by_cases c:∃a b,d=.tup [a,b];obtain⟨a,b,rfl⟩:=c;obtain⟨o,t⟩:=S a b rfl;walk_at"dl";refine bC ⟨b,rfl,t,?_⟩;cases b with
 |int k =>
  simp only[pI,t8];by_cases f:0<=k;rw[dT_ f];simp only[nI,↓reduceIte];refine⟨ps,r,a,rfl,o,aO.now ?_⟩;have e:cF ps (.tup [a,.int k])=decide (k<iG ps a):=by simp[cF,f]
  rw[e]at h;exact h;rw[dF_ f];have e:cF ps (.tup [a,.int k])=bt:=by simp[cF,f]
  rw[e]at h;simp only[nI,↓reduceIte,A8];exact aO.now h
 |_=>simp only[pI,A8,↓reduceIte];exact aO.now h
 have g:Bh 2 d=bt:=by
  cases d with
  |tup xs =>
   match xs with
   | []=>rfl
   | [_]=>rfl
   | [a,b]=>exact t4 ⟨a,b,rfl⟩ c
   |_::_::_::_=>simp[Bh];lia
  |_=>rfl
 have l:cF ps d=bt:=by unfold cF;split;exact t4 ⟨_,_,rfl⟩ c;rfl
 rw[g];rw[l]at h;simp only[nI,A8,↓reduceIte];exact aO.now h
theorem wW(T:Tops P w K mg base):x5 P w K mg base 2 "is_hand" lE fV:=x5.byD (N:=["house","thing"]) T.b T.f_is_hand (by walk_at"sc") ud (by have:=lJ T;have:=gi T;have:=wU T;walk_at"dv") wz
def bW:A2:=λds M R=>∃(ps:List (c7×Int)) (a:List (c7×List c7)) (r:c7),ds=[az ps a,.str r]/\r∈a.map (·.1)/\R (.tup<|(jW a r).map .str) M
theorem mJ:da bW fq:=by rintro ds M R ⟨ps,a,r,rfl,_⟩;rfl
theorem rq:jW (p::rs) r=if p.1=r then p.2 else jW rs r:=by unfold jW;rw[Lr];by_cases h:p.1=r;rw[dT_ h,p9 h];rfl;rw[dF_ h,r9 h]
def mz:u9:=wa
def jt:u9:=aB (jk (bZ<|u5 v9 (ac 0)<|dC<|.int 1) (eD 2<|aA (af 2)<|aA (af 3) eE)<|B6 (au<|u5 A9 (ac 2)<|ac 1) (bd<|ac 3) aI)<|mz
theorem nV:C8 bW 4 jt:=by
 rintro ds M R ⟨ps,s,r,rfl,i,h⟩;simp only[jt,az];walk_at"dl";intro _;refine eG (λys S M'=>∃qs a b,ys=qs.map mC/\M'=M/\S=[a7<|az ps s,a7<|.str r,a,b]/\jW s r=jW qs r/\r∈qs.map (·.1)) ?_ ?_ _ _ _ ⟨s,_,_,rfl,rfl,rfl,rfl,i⟩;rintro S M' ⟨qs,a,b,q,rfl,rfl,e,d⟩;have:qs=[]:=by cases qs<;>simp_all
 subst this;cases d;rintro x xs S M' ⟨qs,a,b,q,rfl,rfl,e,d⟩ L c;cases qs with
 |nil=>cases q
 |cons p qs=>rw[C9]at q;injection q with h1 h2;subst h1;refine⟨trivial,?_⟩;unfold mC;walk_at"dl";refine⟨trivial,⟨ag,ag⟩,?_⟩;rw[aC];rw[rq]at e;by_cases q:p.1=r;rw[beq_iff_eq.mpr q];rw[p9 q]at e;refine bC<|aO.now ?_;rw[<-e];exact h;rw[beq_eq_false_iff_ne.mpr q];rw[r9 q]at e;rw[C9,A4]at d;exact br<|A7.now<|c _ _ ⟨qs,_,_,h2,rfl,rfl,e,d.resolve_left<|A1 q⟩
theorem iF(T:Tops P w K mg base):x5 P w K mg base 1 "members_of" fq bW:=x5.byD (N:=["house","room","told","members"]) T.b T.f_members_of (by walk_at"sc") mJ (by walk_at"dv") nV
def eK:A2:=λds M R=>∃(ps:List (c7×Int)) (a:List (c7×List c7)) (t:Int) (z:c7) (k:Int),ds=[az ps a,.tup [.int t,.tup [.str z,.int k]]]/\R (.bl<|decide (1<=t)&&cF ps (.tup [.str z,.int k])) M
theorem rO:da eK iW:=by rintro ds M R ⟨ps,a,t,z,k,rfl,_⟩;rfl
theorem zQ:∀{ps:List (c7×Int)},(ps.map (·.1)).Nodup->D.tup [.str z,.int k]∈aR ps->0<=k/\k<iG ps (.str z)
 |p::ps,nd,h=>by
  rw[aR,List.flatMap_cons]at h;rw[C9,La]at nd;have hm:∀q,D.tup [.str z,.int k]∈bR q->q.1=z/\0<=k/\k<q.2:=λq hq=>by unfold bR fe at hq;simp only[J3,C1,Ix]at hq;obtain⟨i,hi,e⟩:=hq;simp only[Function.comp_apply,D.tup.injEq,MP,D.str.injEq,D.int.injEq,and_true]at e;obtain⟨e1,e2⟩:=e;exact⟨e1,by lia,by lia⟩
  show 0<=k/\k<(((p::ps).find? λp=>decide<|p.1=z).map (·.2)).getD 0;rw[Lr];rcases I9.mp h with h|h;obtain⟨e,h1,h2⟩:=hm p h;rw[dT_ e];exact⟨h1,h2⟩;have hz:p.1≠z:=λe=>by obtain⟨q,hq,hh⟩:=List.mem_flatMap.mp h;refine nd.1 ?_;rw[e,<-(hm q hh).1];exact MR hq
  rw[dF_ hz];exact zQ nd.2 h
def nw:u9:=bd<|eR (v8 bD<|aa (dC<|.int 2)<|aa (ac 1) ah)<|eR (v8 bG<|aa (dC<|.int 1)<|aa (u5 v9 (ac 1)<|dC<|.int 0) ah)<|v8 fV<|aa (ac 0)<|aa (u5 v9 (ac 1)<|dC<|.int 1) ah
theorem sQ:C8 eK 2 nw:=by rintro ds M R ⟨ps,s,t,z,k,rfl,h⟩;simp only[nw];walk_at"dl";refine⟨2,_,rfl,by simp[E2,pL],?_⟩;rw[show Bh 2 (.tup [.int t,.tup [.str z,.int k]])=a9 from rfl];walk_at"ifs";refine⟨1,_,rfl,by simp[E2,pL],?_⟩;rw[show kj 1 (.int t)=decide (1<=t)from by simp[kj]];by_cases h1:1<=t;rw[dT_ h1]at h ⊢;rw[NI]at h;walk_at"ifs";refine⟨ps,_,_,rfl,by simp[E2,pL],λa b e=>?_,aO.now h⟩;simp only[D.tup.injEq,MP,and_true]at e;obtain⟨rfl,rfl⟩:=e;exact⟨ag,by simp[E2,pL]⟩;rw[dF_ h1]at h ⊢;walk_at"ifs";exact aO.now h
theorem tL(T:Tops P w K mg base):x5 P w K mg base 3 "is_stamp" iW eK:=x5.byD (N:=["house","thing"]) T.b T.f_is_stamp (by walk_at"sc") rO (by have:=jO T;have:=gi T;have:=wW T;walk_at"dv") sQ
def cW:A2:=λds M R=>∃(a b:D) (r:List D),ds=[.tup<|a::b::r]/\R (.tup [a,b]) M
theorem rM:da cW iU:=by rintro ds M R ⟨a,b,r,rfl,_⟩;rfl
def mW:u9:=bd<|eP<|aa (u5 v9 (ac 0)<|dC<|.int 0)<|aa (u5 v9 (ac 0)<|dC<|.int 1) ah
theorem sO:C8 cW 1 mW:=by rintro ds M R ⟨a,b,r,rfl,h⟩;simp only[mW];walk_at"dl";exact⟨ao (by lia),aO.now h⟩
theorem lI(T:Tops P w K mg base):x5 P w K mg base 1 "stamp_of" iU cW:=x5.byD (N:=["deed"]) T.b T.f_stamp_of (by walk_at"sc") rM (by walk_at"dv") sO
def bh:A2:=λds M R=>∃(t x:D) (r l:List D),ds=[.tup<|t::.tup (x::r)::l]/\R x M
theorem oR:da bh gy:=by rintro ds M R ⟨t,x,r,l,rfl,_⟩;rfl
def kw:u9:=bd<|u5 v9 (u5 v9 (ac 0)<|dC<|.int 1)<|dC<|.int 0
theorem pF:C8 bh 1 kw:=by rintro ds M R ⟨t,x,r,l,rfl,h⟩;simp only[kw];walk_at"dl";exact aO.now h
theorem db(T:Tops P w K mg base):x5 P w K mg base 1 "person_of" gy bh:=x5.byD (N:=["deed"]) T.b T.f_person_of (by walk_at"sc") oR (by walk_at"dv") pF
def dh:A2:=λds M R=>∃(t d:D) (m:Int) (r:List D) (hs:List (D×Int)),ds=[.tup<|t::d::.int m::r,.tup<|jL hs]/\Hd d/\(∀p∈hs,Hd p.1)/\hs.length<=1000/\R (.bl<|cb hs d m) M
theorem oS:da dh gD:=by rintro ds M R ⟨t,d,m,r,hs,rfl,_⟩;rfl
def ij:u9:=bd<|dC<|.bl bt
def kK:u9:=aB (jk (bZ<|ac 1) (eD 2<|aA (af 2)<|aA (af 3) eE)<|B6 (au<|u5 A9 (ac 2)<|u5 v9 (ac 0)<|dC<|.int 1) (bd<|u5 Mq (u5 v9 (ac 0)<|dC<|.int 2)<|ac 3) aI)<|ij
theorem pG:C8 dh 4 kK:=by
 rintro ds M R ⟨t,d,m,r,hs,rfl,c,v,l,h⟩;simp only[kK];walk_at"dl";refine λ_=>?_;refine eG (λys S M'=>M'=M/\∃qs a b,ys=jL qs/\(∀p∈qs,Hd p.1)/\cb qs d m=cb hs d m/\S=[a7<|.tup<|t::d::.int m::r,a7<|.tup<|jL hs,a,b]) ?_ ?_ _ _ _ ⟨rfl,hs,_,_,rfl,v,rfl,rfl⟩;rintro S M' ⟨rfl,qs,a,b,e,_,w,rfl⟩;obtain rfl:qs=[]:=by
  cases qs with
  |nil=>rfl
  |cons q qs=>cases e
 rw[<-w]at h;refine⟨trivial,?_⟩;simp only[ij];walk_at"dl";exact aO.now h;rintro x xs S M' ⟨rfl,qs,a,b,e,g,w,rfl⟩ G k;cases qs with
 |nil=>cases e
 |cons q qs =>
  have i:x=.tup [q.1,.int q.2]/\xs=jL qs:=by unfold jL at e ⊢;rw[C9]at e;injection e with e1 e2;exact⟨e1,e2⟩
  obtain⟨rfl,rfl⟩:=i;refine⟨trivial,?_⟩;have Q:=g q (by simp);walk_at"dl";refine⟨trivial,⟨JM Q,JM c⟩,?_⟩;cases f:v4 M' w6 q.1 d with
  |true =>
   have e:=(Gf (n:=29) Q c).mp f;have j:cb (q::qs) d m=decide (m<q.2):=by unfold cb;rw[Lr,dT_ e]
   rw[<-w,j]at h;exact bC<|aO.now h
  |false =>
   have e:q.1≠d:=λz=>by have:=(Gf (M:=M') (n:=29) Q c).mpr z;rw[show v4 M' (29+1) q.1 d=v4 M' w6 q.1 d from rfl,f]at this;cases this
   refine br<|A7.now<|k _ _ ⟨rfl,qs,_,_,rfl,λp hp=>g p<|D0 _ hp,?_,rfl⟩;rw[<-w];unfold cb;rw[Lr,dF_ e]
theorem qW(T:Tops P w K mg base):x5 P w K mg base 1 "is_within" gD dh:=x5.byD (N:=["deed","vector","hand","count"]) T.b T.f_is_within (by walk_at"sc") oS (by walk_at"dv") pG
def aV:A2:=λds M R=>∃(ps:List (c7×Int)) (a:List (c7×List c7)) (log:List D) (k:c7),ds=[.tup log,.str k]/\(∀d∈log,aG ps a d)/\log.length<=1000/\R (.ref M.length) (M++[.lst<|kinds log k])
theorem je:da aV cT:=by rintro ds M R ⟨ps,a,log,k,rfl,_⟩;rfl
def eX:u9:=bd<|Lg 1 [1] (bZ<|ac 0) (af 0) (au<|u5 A9 (u5 v9 (u5 v9 (ac 0)<|dC<|.int 3)<|dC<|.int 0)<|ac 1)<|ac 0
theorem jK:C8 aV 2 eX:=by rintro ds M R ⟨ps,s,log,k,rfl,f,l,h⟩;simp only[eX];walk_at"dl";intro _;refine bJ (λd=>decide<|bw d=k) id (λS=>∃a,S=[a,a7<|.str k]) trivial _ _ _ ?_ ⟨_,rfl⟩ (by rw[G0];exact ao<|by lia) (by rw[K9,N7];exact .inl h);rintro d g S ⟨a,rfl⟩;obtain⟨t,z,I,m,x,ds,rfl,_⟩:=f d g;refine⟨[a7<|.tup [.int t,.tup [.str z,.int I],.int m,.tup<|.str x::ds],a7<|.str k],⟨_,rfl⟩,λY Z b=>?_⟩;walk_at"dl";have Q:atI [D.int t,.tup [.str z,.int I],.int m,.tup<|.str x::ds] 3=a7 (.tup<|.str x::ds):=av (j:=3) rfl;rw[Q];dsimp only;rw[Nh];refine⟨⟨ag,ag⟩,?_⟩;rw[aC];have c:bw (.tup [.int t,.tup [.str z,.int I],.int m,.tup<|.str x::ds])=x:=rfl;rw[c]at b;by_cases e:x=k;rw[beq_iff_eq.mpr e];rw[dT_ e]at b;exact bC b;rw[beq_eq_false_iff_ne.mpr e];rw[dF_ e]at b;exact br b
theorem cE(T:Tops P w K mg base):x5 P w K mg base 1 "deeds_of_kind" cT aV:=x5.byD (N:=["log","kind"]) T.b T.f_deeds_of_kind (by walk_at"sc") je (by walk_at"dv") jK
def cY:A2:=λds M R=>∃(ps:List (c7×Int)) (a:List (c7×List c7)) (log:List D) (k e:c7),ds=[.tup log,.str k,.str e]/\(∀d∈log,aG ps a d)/\log.length<=1000/\R (.ref M.length) (M++[.lst<|fu log k e])
theorem rQ:da cY iY:=by rintro ds M R ⟨ps,a,log,k,e,rfl,_⟩;rfl
def nB:u9:=bd<|Lg 1 [2] (bZ<|v8 aV<|aa (ac 0)<|aa (ac 1) ah) (af 0) (au<|u5 A9 (v8 bh<|aa (ac 0) ah)<|ac 1)<|ac 0
theorem sT:C8 cY 3 nB:=by rintro ds M R ⟨ps,rs,log,k,n,rfl,c,g,h⟩;simp only[nB];walk_at"dl";unfold fu at h;have f:∀d∈kinds log k,aG ps rs d:=λd q=>c d (Lk.mp q).1;have l:(kinds log k).length<=1000:=H9 cA g;refine⟨ps,rs,log,k,rfl,c,g,?_⟩;generalize kinds log k=F at f l h;refine⟨F,ap,λ_=>?_⟩;refine bJ (λd=>decide<|bO d=n) id (λS=>∃a,S=[a,a7<|.str n]) ap _ _ _ ?_ ⟨_,rfl⟩ (by rw[G0];exact ao<|by lia) ?_;rintro d j S ⟨a,rfl⟩;obtain⟨t,z,I,m,x,ds,rfl,_⟩:=f d j;refine⟨[a7<|.tup [.int t,.tup [.str z,.int I],.int m,.tup<|.str x::ds],a7<|.str n],⟨_,rfl⟩,λY Z b=>?_⟩;walk_at"dl";refine⟨_,_,_,_,rfl,⟨ag,ag⟩,?_⟩;rw[aC];have i:bO (.tup [.int t,.tup [.str z,.int I],.int m,.tup<|.str x::ds])=z:=rfl;rw[i]at b;by_cases e:z=n;rw[beq_iff_eq.mpr e];rw[dT_ e]at b;exact bC b;rw[beq_eq_false_iff_ne.mpr e];rw[dF_ e]at b;exact br b;rw[K9,N7,Ls];exact aO.lst h (by simp) (by simp)<|aG.bels (ps:=ps) (rs:=rs) λd q=>f d (Lk.mp q).1
theorem lL(T:Tops P w K mg base):x5 P w K mg base 2 "deeds_by" iY cY:=x5.byD (N:=["log","kind","name"]) T.b T.f_deeds_by (by walk_at"sc") rQ (by have:=db T;have:=cE T;walk_at"dv") sT
def cy:A2:=λds M R=>∃(ps:List (c7×Int)) (a:List (c7×List c7)) (log:List D) (k e:c7),ds=[.tup log,.str k,.str e]/\(∀d∈log,aG ps a d)/\log.length<=1000/\(k=u7 "seen"\/k=u7 "rung")/\((∀x∈nZ log k e,St x)->R (.ref M.length) (M++[.lst<|nZ log k e]))
theorem lT:da cy dP:=by rintro ds M R ⟨ps,a,log,k,e,rfl,_⟩;rfl
def ii:u9:=bd<|Lg 1 [] (bZ<|v8 cY<|aa (ac 0)<|aa (ac 1)<|aa (ac 2) ah) (af 0) pD<|u5 v9 (u5 v9 (ac 0)<|dC<|.int 3)<|dC<|.int 1
theorem mw:C8 cy 3 ii:=by
 rintro ds M R ⟨ps,s,log,k,name,rfl,g,o,l,h⟩;simp only[ii];walk_at"dl";refine⟨ps,s,log,k,name,rfl,g,o,?_⟩;have r:=lP (log:=log) (k:=k) (name:=name);have f:∀d∈fu log k name,∃(t:Int) (z:c7) (k n:Int) (x:c7) (m:D),d=.tup [.int t,.tup [.str z,.int k],.int n,.tup [.str x,m]]/\St m:=λd b=>by obtain⟨h1,h2,_⟩:=lO b;exact EA (g d h1)<|l.imp (λe=>h2.trans e) λe=>h2.trans e
 have T:nZ log k name=(fu log k name).map rj:=rfl;rw[T]at h;generalize fu log k name=F at r f h;have c:∀x∈F.map rj,St x:=λx p=>by obtain⟨d,b,rfl⟩:=C1.mp p;obtain⟨t,z,k,n,x,m,rfl,hs⟩:=f d b;exact hs
 refine⟨F,ap,λ_=>?_⟩;refine bV rj (λS=>∃a,S=[a]) ap _ _ _ (λd b S c=>?_) ⟨_,rfl⟩ (by rw[G0];exact ao<|by lia) ?_;obtain⟨a,rfl⟩:=c;obtain⟨t,z,k,n,x,m,rfl,_⟩:=f d b;refine⟨[a7<|.tup [.int t,.tup [.str z,.int k],.int n,.tup [.str x,m]]],⟨_,rfl⟩,λY i=>?_⟩;walk_at"dl";have Q:atI [D.int t,.tup [.str z,.int k],.int n,.tup [.str x,m]] 3=a7 (.tup [.str x,m]):=av (j:=3) rfl;rw[Q];dsimp only;rw[Ms];exact i;rw[K9,Ls];exact aO.lst (h c) (by simp) (by simp)<|Bels.of λd q=>cQ 2 d (c d q).pl
theorem mE(T:Tops P w K mg base):x5 P w K mg base 3 "stamps_told" dP cy:=x5.byD (N:=["log","kind","name"]) T.b T.f_stamps_told (by walk_at"sc") lT (by have:=lL T;walk_at"dv") mw
def bK:A2:=λds M R=>∃(a b c x r:D) (l:List D),ds=[.tup [a,b,c,.tup<|x::r::l]]/\R r M
theorem tY:da bK lz:=by rintro ds M R ⟨a,b,c,x,r,l,rfl,_⟩;rfl
def pS:u9:=bd<|u5 v9 (u5 v9 (ac 0)<|dC<|.int 3)<|dC<|.int 1
theorem wu:C8 bK 1 pS:=by rintro ds M R ⟨a,b,c,x,r,l,rfl,h⟩;simp only[pS];walk_at"dl";have Q:atI [a,b,c,.tup<|x::r::l] 3=a7 (.tup<|x::r::l):=av (j:=3) rfl;rw[Q];dsimp only;rw[Ms];exact aO.now h
theorem ja(T:Tops P w K mg base):x5 P w K mg base 1 "room_of" lz bK:=x5.byD (N:=["say"]) T.b T.f_room_of (by walk_at"sc") tY (by walk_at"dv") wu
def eJ:A2:=λds M R=>∃(a b c x r u:D) (l:List D),ds=[.tup [a,b,c,.tup<|x::r::u::l]]/\R u M
theorem rL:da eJ iT:=by rintro ds M R ⟨a,b,c,x,r,u,l,rfl,_⟩;rfl
def mV:u9:=bd<|u5 v9 (u5 v9 (ac 0)<|dC<|.int 3)<|dC<|.int 2
theorem sN:C8 eJ 1 mV:=by rintro ds M R ⟨a,b,c,x,r,u,l,rfl,h⟩;simp only[mV];walk_at"dl";have Q:atI [a,b,c,.tup<|x::r::u::l] 3=a7 (.tup<|x::r::u::l):=av (j:=3) rfl;have e:atI (x::r::u::l) 2=a7 u:=av (j:=2) rfl;rw[Q];dsimp only;rw[e];exact aO.now h
theorem tK(T:Tops P w K mg base):x5 P w K mg base 1 "under_of" iT eJ:=x5.byD (N:=["say"]) T.b T.f_under_of (by walk_at"sc") rL (by walk_at"dv") sN
def dj:A2:=λds M R=>∃(ps:List (c7×Int)) (a:List (c7×List c7)) (d:D) (q:Nat) (kvs:List (D×D)),ds=[az ps a,d,.ref q]/\aG ps a d/\bw d=u7 "say"/\M[q]?=a7 (.dkt kvs)/\(∀p∈kvs,aG ps a p.2/\bw p.2=u7 "say")/\R (.bl<|qE a kvs d) M
theorem oT:da dj gG:=by rintro ds M R ⟨ps,a,d,q,kvs,rfl,_⟩;rfl
def il:u9:=bd<|dOrV (u5 MV (ac 3)<|dC .non)<|eR (u5 Bv (ac 3)<|ac 2)<|u5 A9 (v8 bK<|aa (eQ (ac 2)<|ac 3) ah)<|v8 bK<|aa (ac 1) ah
def io:u9:=aB (bg (v8 eJ<|aa (ac 1) ah) 3)<|il
def kP:u9:=aB (B6 (au<|u5 vD (v8 bh<|aa (ac 1) ah)<|v8 bW<|aa (ac 0)<|aa (v8 bK<|aa (ac 1) ah) ah) (bd<|dC<|.bl bt) aI)<|io
theorem pH:C8 dj 4 kP:=by
 rintro ds M R ⟨ps,a,d,q,kvs,rfl,p,w,j,y,h⟩;obtain⟨t,z,k,m,r,u,s,rfl,_,_,x,c⟩:=jB p w;simp only[kP];walk_at"dl";refine⟨_,_,_,_,rfl,_,_,_,_,_,_,rfl,ps,a,r,rfl,x,⟨ag,oq⟩,?_⟩;rw[oU];have n:qE a kvs (.tup [.int t,.tup [.str z,.int k],.int m,.tup [.str<|u7 "say",.str r,u,.str s]])=(decide (z∈jW a r)&&(decide (u=.non)||match aH kvs u with
  |some e=>decide<|aX e=r
  |none=>bt)):=rfl
 rw[n]at h;by_cases i:z∈jW a r;rw[dT_ i]at h ⊢;refine br ?_;simp only[io,il];walk_at"dl";refine⟨_,_,_,_,_,u,_,rfl,?_⟩;rcases c with rfl|c;walk_at"dl";refine aO.now ?_;simpa using h;obtain⟨t',G,I,rfl⟩:=c;rw[dF_<|by intro e;cases e]at h;walk_at"dl";refine⟨kvs,j,rfl,?_⟩;cases g:aH kvs (.tup [.int t',.tup [.str G,.int I]]) with
 |none=>rw[g]at h;exact br<|aO.now h
 |some e =>
  rw[g]at h;obtain⟨v,b⟩:=y _<|bU g;obtain⟨E,D,C,A,l,J,B,f,_⟩:=jB v b;dsimp only at f;subst f;refine bC ⟨kvs,_,j,rfl,g,_,_,_,_,_,_,rfl,_,_,_,_,_,_,rfl,⟨ag,ag⟩,?_⟩;rw[aC];refine aO.now ?_;have o:(l==r)=decide (l=r):=by by_cases e:l=r;rw[dT_ e];exact beq_iff_eq.mpr e;rw[dF_ e];exact beq_eq_false_iff_ne.mpr e
  rw[o];exact h
 rw[dF_ i]at h ⊢;exact bC<|aO.now h
theorem qX(T:Tops P w K mg base):x5 P w K mg base 2 "can_stand" gG dj:=x5.byD (N:=["house","say","elders","under"]) T.b T.f_can_stand (by walk_at"sc") oT (by have:=iF T;have:=db T;have:=ja T;have:=tK T;walk_at"dv") pH
def bp:A2:=λds M R=>∃(ps:List (c7×Int)) (a:List (c7×List c7)) (log:List D),ds=[az ps a,.tup log]/\(∀d∈log,aG ps a d)/\log.length<=1000/\∀n B,M <+: B->B[n]?=a7 (.dkt<|aT a log)->R (.ref n) B
theorem gL:da bp cq:=by rintro ds M R ⟨ps,a,log,rfl,_⟩;rfl
theorem jT(h:∀d∈log,aG ps rs d)(g:∀d∈l,d∈kinds log (u7 "say"))(t:TabK l kvs):∀p∈kvs,aG ps rs p.2/\bw p.2=u7 "say":=λp hp=>by obtain⟨h1,h2⟩:=bc<|g _ (t.en p hp).2;exact⟨h _ h1,h2⟩
def cN:u9:=bd<|ac 2
def cO:u9:=aB (jk (bZ<|v8 aV<|aa (ac 1)<|aa (dC<|.str "say") ah) (af 3)<|B6 (au<|v8 dj<|aa (ac 0)<|aa (ac 3)<|aa (ac 2) ah) (md (ac 2) (v8 cW<|aa (ac 3) ah)<|ac 3) aI)<|cN
def dw:u9:=aB (bg (su) 2)<|cO
theorem hZ:C8 bp 4 dw:=by
 rintro ds M R ⟨ps,rs,log,rfl,c,n,h⟩;simp only[dw,cO];walk_at"dl";refine⟨ps,rs,log,_,rfl,c,n,?_⟩;have p:=cA (log:=log) (k:=u7 "say");have m:∀d∈kinds log (u7 "say"),aG ps rs d/\bw d=u7 "say":=λd q=>⟨c d (bc q).1,(bc q).2⟩
 have f:dE rs (kinds log<|u7 "say")=aT rs log:=rfl;generalize B:kinds log (u7 "say")=K at p m f;refine⟨K,ap,λ_=>?_⟩;refine aP (λi S M'=>∃a,M'=M++[.dkt<|dE rs<|K.take i,.lst K]/\S=[a7<|az ps rs,a7<|.tup log,a7<|.ref M.length,a]) ?_ ?_ ⟨_,by simp[dE],rfl⟩;rintro S M' ⟨a,rfl,rfl⟩;rw[LO,f];refine⟨.inl ?_,?_⟩;have:(M++[MO.dkt []]).length=M.length+1:=by simp
 rw[this];exact fP;simp only[cN];walk_at"dl";exact .inl<|h _ _ (Lu _ _) bT;rintro i y S M' Q ⟨a,rfl,rfl⟩ G b;have o:=J7 Q;have j:K.take (i+1)=K.take i++[y]:=by rw[L6,Q];rfl
 rw[j,gX]at b;have g:=nQ (rs:=rs)<|K.take i;have v:=jT c (λd q=>B ▸ Ra q) g;have l:=g.len;rw[Lc]at l;generalize dE rs (K.take i)=kvs at b v l;obtain⟨e,r⟩:=m y o;refine⟨.inl ?_,?_⟩;have:(M++[MO.dkt []]).length=M.length+1:=by simp
 rw[this];exact fP;walk_at"dl";refine⟨ps,rs,y,_,kvs,rfl,e,r,bT,v,?_⟩;unfold tj at b;cases hs:qE rs kvs y with
 |true=>rw[hs,p9 rfl]at b;refine bC ?_;obtain⟨t,z,k,s,x,ds,rfl,_⟩:=e;refine⟨_,_,_,rfl,kvs,bT,rfl,ay (by lia),?_⟩;rw[kX];exact A7.now<|b _ _ ⟨_,rfl,rfl⟩
 |false=>rw[hs,r9<|by decide]at b;exact br<|A7.now<|b _ _ ⟨_,rfl,rfl⟩
theorem iD(T:Tops P w K mg base):x5 P w K mg base 3 "says_that_count" cq bp:=x5.byD (N:=["house","log","says","deed"]) T.b T.f_says_that_count (by walk_at"sc") gL (by have:=lI T;have:=cE T;have:=qX T;walk_at"dv") hZ
def bX:A2:=λds M R=>∃(t:Int) (z:c7) (k n:Int) (x m:D) (l:List D) (q:Nat) (kvs:List (D×D)),ds=[.tup [.int t,.tup [.str z,.int k],.int n,.tup<|x::m::l],.ref q]/\St m/\M[q]?=a7 (.dkt kvs)/\(∀p∈kvs,PN p.2)/\R (.bl<|LV kvs<|.tup [.int t,.tup [.str z,.int k],.int n,.tup<|x::m::l]) M
theorem jQ:da bX dn:=by rintro ds M R ⟨t,z,k,n,x,m,l,q,kvs,rfl,_⟩;rfl
def eN:u9:=bd<|eR (u5 Bv (ac 2)<|ac 1)<|u5 A9 (v8 bh<|aa (ac 0) ah)<|v8 bh<|aa (eQ (ac 1)<|ac 2) ah
def gg:u9:=aB (bg (u5 v9 (u5 v9 (ac 0)<|dC<|.int 3)<|dC<|.int 1) 2)<|eN
theorem ki:C8 bX 3 gg:=by
 rintro ds M R ⟨t,z,k,n,x,m,l,q,kvs,rfl,c,b,v,h⟩;simp only[gg,eN];obtain⟨t',G,I,rfl⟩:=c;walk_at"dl";have Q:atI [D.int t,.tup [.str z,.int k],.int n,.tup<|x::.tup [.int t',.tup [.str G,.int I]]::l] 3=a7 (.tup<|x::.tup [.int t',.tup [.str G,.int I]]::l):=av (j:=3) rfl;rw[Q];dsimp only;rw[Ms];refine⟨kvs,b,rfl,?_⟩;have d:LV kvs (.tup [.int t,.tup [.str z,.int k],.int n,.tup<|x::.tup [.int t',.tup [.str G,.int I]]::l])=match aH kvs (.tup [.int t',.tup [.str G,.int I]]) with
  |some e=>decide<|z=bO e
  |none=>bt:=rfl
 rw[d]at h;cases g:aH kvs (.tup [.int t',.tup [.str G,.int I]]) with
 |none=>rw[g]at h;exact br<|aO.now h
 |some e =>
  rw[g]at h;obtain⟨a,y,r,f,rfl⟩:=v _<|bU g;refine bC ⟨_,_,_,_,rfl,kvs,_,b,rfl,g,_,_,_,_,rfl,⟨ag,ag⟩,?_⟩;rw[aC];refine aO.now ?_;have o:(z==y)=decide (z=y):=by by_cases e:z=y;rw[dT_ e];exact beq_iff_eq.mpr e;rw[dF_ e];exact beq_eq_false_iff_ne.mpr e
  rw[o];exact h
theorem lK(T:Tops P w K mg base):x5 P w K mg base 2 "is_by_writer" dn bX:=x5.byD (N:=["deed","says","message"]) T.b T.f_is_by_writer (by walk_at"sc") jQ (by have:=db T;walk_at"dv") ki
def cx:A2:=λds M R=>∃(ps:List (c7×Int)) (a:List (c7×List c7)) (log:List D) (k:c7) (q:Nat) (kvs:List (D×D)),ds=[.tup log,.str k,.ref q]/\(∀d∈log,aG ps a d)/\log.length<=1000/\(k=u7 "change"\/k=u7 "back")/\M[q]?=a7 (.dkt kvs)/\(∀p∈kvs,PN p.2)/\R (.ref M.length) (M++[.lst<|(kinds log k).filter<|LV kvs])
theorem lR:da cx dO:=by rintro ds M R ⟨ps,a,log,k,q,kvs,rfl,_⟩;rfl
theorem IS(h:aG ps rs d)(e:bw d=k)(b:k=u7 "change"\/k=u7 "back"):∃(t:Int) (z:c7) (k num:Int) (x m:D) (l:List D),d=.tup [.int t,.tup [.str z,.int k],.int num,.tup<|x::m::l]/\St m:=by rcases b with rfl|rfl;obtain⟨t,z,k,num,m,s,rfl,a⟩:=sB h e;exact⟨t,z,k,num,_,m,_,rfl,a⟩;obtain⟨t,z,k,num,m,rfl,a⟩:=uA h e;exact⟨t,z,k,num,_,m,_,rfl,a⟩
def ig:u9:=bd<|Lg 1 [2] (bZ<|v8 aV<|aa (ac 0)<|aa (ac 1) ah) (af 0) (au<|v8 bX<|aa (ac 0)<|aa (ac 1) ah)<|ac 0
theorem mv:C8 cx 3 ig:=by
 rintro ds M R ⟨ps,rs,log,k,q,kvs,rfl,c,g,f,j,v,h⟩;simp only[ig];walk_at"dl";refine⟨ps,rs,log,k,rfl,c,g,_,ap,λ_=>?_⟩;have o:=cA (log:=log) (k:=k);refine bJ (LV kvs) id (λS=>∃a,S=[a,a7<|.ref q]) ap _ _ _ ?_ ⟨_,rfl⟩ (by rw[G0];exact ao<|by lia) ?_;rintro d i S ⟨a,rfl⟩;obtain⟨h1,h2⟩:=bc i;obtain⟨t,z,I,n,x,m,l,rfl,hs⟩:=IS (c d h1) h2 f;refine⟨[a7<|.tup [.int t,.tup [.str z,.int I],.int n,.tup<|x::m::l],a7<|.ref q],⟨_,rfl⟩,λY Z b=>?_⟩;walk_at"dl";refine⟨t,z,I,n,x,m,l,q,kvs,rfl,hs,ae j,v,?_⟩;cases e:LV kvs (.tup [.int t,.tup [.str z,.int I],.int n,.tup<|x::m::l]) with
 |true=>rw[e]at b;exact bC b
 |false=>rw[e]at b;exact br b
 rw[K9,N7,Ls];exact aO.lst h (by simp) (by simp)<|aG.bels (ps:=ps) (rs:=rs) λd m=>c d (bc (Lk.mp m).1).1
theorem mD(T:Tops P w K mg base):x5 P w K mg base 3 "writers_own" dO cx:=x5.byD (N:=["log","kind","says"]) T.b T.f_writers_own (by walk_at"sc") lR (by have:=cE T;have:=lK T;walk_at"dv") mv
def ba:A2:=λds M R=>∃(ps:List (c7×Int)) (s:List (c7×List c7)) (log:List D) (q:Nat) (kvs:List (D×D)),ds=[.tup log,.ref q]/\(∀d∈log,aG ps s d)/\log.length<64/\M[q]?=a7 (.dkt kvs)/\(∀p∈kvs,PN p.2)/\∀ys,(∀x∈ys,St x)->(∀x,x∈ys↔bq kvs log x)->ys.Nodup->(ys.Pairwise λa b=>¬G6 w6 b<G6 w6 a)->R (.ref M.length) (M++[.lst ys])
theorem fv:da ba bH:=by rintro ds M R ⟨ps,a,log,q,kvs,rfl,_⟩;rfl
def cL:u9:=bd<|iL<|Lg 1 [] (bZ<|v8 cx<|aa (ac 0)<|aa (dC<|.str "back")<|aa (ac 1) ah) (af 0) pD<|u5 v9 (u5 v9 (ac 0)<|dC<|.int 3)<|dC<|.int 1
theorem fW:C8 ba 2 cL:=by
 rintro ds M R ⟨ps,E,log,q,kvs,rfl,l,H,w,A,h⟩;simp only[cL];walk_at"dl";refine⟨ps,E,log,_,q,kvs,rfl,l,by lia,.inr rfl,w,A,_,ap,λ_=>?_⟩;have I:=cA (log:=log) (k:=u7 "back");have r:=MS (LV kvs)<|kinds log<|u7 "back";have i:∀d∈(kinds log<|u7 "back").filter (LV kvs),∃(t:Int) (z:c7) (k n:Int) (m:D),d=.tup [.int t,.tup [.str z,.int k],.int n,.tup [.str<|u7 "back",m]]/\St m:=λd m=>by obtain⟨h1,h2⟩:=bc (Lk.mp m).1;exact uA (l d h1) h2
 have f:∀x,x∈((kinds log<|u7 "back").filter<|LV kvs).map rj↔bq kvs log x:=λx=>by constructor;intro c;obtain⟨d,m,rfl⟩:=C1.mp c;exact⟨d,(Lk.mp m).1,(Lk.mp m).2,rfl⟩;rintro⟨d,h1,h2,rfl⟩;exact MR<|Lk.mpr ⟨h1,h2⟩
 generalize (kinds log<|u7 "back").filter (LV kvs)=F at r i f;refine bV rj (λS=>∃a,S=[a]) ap _ _ _ (λd g S u=>?_) ⟨_,rfl⟩ (by rw[G0];exact ao<|by lia) ?_;obtain⟨a,rfl⟩:=u;obtain⟨t,z,k,n,m,rfl,_⟩:=i d g;refine⟨[a7<|.tup [.int t,.tup [.str z,.int k],.int n,.tup [.str<|u7 "back",m]]],⟨_,rfl⟩,λY v=>?_⟩;walk_at"dl";have p:atI [D.int t,.tup [.str z,.int k],.int n,.tup [.str<|u7 "back",m]] 3=a7 (.tup [.str<|u7 "back",m]):=av (j:=3) rfl;rw[p];dsimp only;rw[Ms];exact v;rw[K9];have hs:∀x∈F.map rj,St x:=λx c=>by obtain⟨d,g,rfl⟩:=C1.mp c;obtain⟨t,z,k,n,m,rfl,hs⟩:=i d g;exact hs
 refine⟨8,_,w5 _,.inl ⟨_,rfl,ap⟩,by rw[x3];lia,λx c=>?_,Es hs (by rw[x3];lia),λys X Q y=>?_⟩;obtain⟨J,e⟩:=(hs x c).tup;exact⟨(hs x c).key,by rw[e];rfl⟩;have s:∀x∈ys,St x:=λx c=>hs x<|(Q x).mp c;rw[Ls,Ls];have G:ys.Pairwise λa b=>¬G6 w6 b<G6 w6 a:=(List.Pairwise.and_mem.mp y).imp λ{a b} ⟨ha,f,q⟩=>by
  have o:=s a ha;have U:=s b f;have B:D9 w6 a=a9:=by obtain⟨t,z,k,e⟩:=o;rw[e];rfl
  have C:D9 w6 b=a9:=by obtain⟨t,z,k,e⟩:=U;rw[e];rfl
  rw[tU C B<|U.cm o]at q;exact of_decide_eq_false q
 exact aO.lst (h ys s (λx=>(Q x).trans<|f x) X G) (by simp) (by simp)<|Bels.of λd m=>cQ 2 d (s d m).pl
theorem fY(T:Tops P w K mg base):x5 P w K mg base 4 "stamps_taken_back" bH ba:=x5.byD (N:=["log","says"]) T.b T.f_stamps_taken_back (by walk_at"sc") fv (by have:=mD T;walk_at"dv") fW
def cI:A2:=λds M R=>∃(ps:List (c7×Int)) (a:List (c7×List c7)) (log:List D),ds=[az ps a,.tup log]/\(∀d∈log,aG ps a d)/\log.length<64/\∀n B,M <+: B->B[n]?=a7 (.dkt<|bj a log)->R (.ref n) B
theorem mH:da cI fi:=by rintro ds M R ⟨ps,a,log,rfl,_⟩;rfl
theorem Dy{M:v5}{l:List D}(h:∀x∈l,St x):l.all (w4 M w6)=a9:=E7.mpr λx a=>(h x a).ok
theorem Ed(a:St x)(h:∀x∈l,St x):LH M x l=decide (x∈l):=by unfold LH;by_cases d:x∈l;rw[dT_ d];exact Lh.mpr ⟨x,d,by rw[show w6=28+2 from rfl,a.eq a];exact dT_ rfl⟩;rw[dF_ d];refine LQ.mpr λz=>?_;obtain⟨y,Q,e⟩:=Lh.mp z;rw[show w6=28+2 from rfl,(h y Q).eq a]at e;exact d<|oT_ e ▸ Q
def fZ:u9:=bd<|v8 lh<|aa (Lg 1 [2,3] (wb<|ac 2) (af 0) (au<|u5 vD (ac 0)<|ac 2)<|eP<|aa (ac 0)<|aa (eQ (ac 1)<|ac 0) ah) ah
def gb:u9:=aB (bg (v8 ba<|aa (ac 1)<|aa (ac 2) ah) 3)<|fZ
def jo:u9:=aB (bg (v8 bp<|aa (ac 0)<|aa (ac 1) ah) 2)<|gb
theorem nT:C8 cI 4 jo:=by
 rintro ds M R ⟨ps,rs,log,rfl,i,y,h⟩;simp only[jo];walk_at"dl";refine⟨ps,rs,log,rfl,i,by lia,λn B C hB=>?_⟩;have t:=bn (rs:=rs) (log:=log);have F:=cA (log:=log) (k:=u7 "say");have v:=jT i (λ_ q=>q) t;have E:=t.len;have X:=t.nd;have m:=t.en;have g:bj rs log=(aT rs log).filter λp=>@decide (¬bq (aT rs log) log p.1) (NS _):=rfl;rw[g]at h;clear g;generalize aT rs log=kvs at h t E v X m hB;simp only[gb];walk_at"dl";refine⟨ps,rs,log,n,kvs,rfl,i,y,hB,λp hp=>(v p hp).1.nm,λys hs Q _ _=>?_⟩;simp only[fZ];walk_at"dl";have c:(B++[MO.lst ys])[n]?=a7 (.dkt kvs):=ae hB;refine⟨kvs,c,λ_=>?_⟩;have sp:∀p∈kvs,St p.1:=λp hp=>by rw[(m p hp).1];exact(v p hp).1.st
 refine bJ (λk=>decide<|k∉ys) (λk=>.tup [k,(aH kvs k).getD .non]) (λS=>∃a,S=[a,a7<|.ref n,a7<|.ref B.length]) c _ _ _ ?_ ⟨_,rfl⟩ (by rw[G0,x3];exact ao<|by lia) ?_;rintro x A S ⟨a,rfl⟩;obtain⟨p,hp,rfl⟩:=C1.mp A;have s:=sp p hp;have j:=gJ X hp;refine⟨[a7 p.1,a7<|.ref n,a7<|.ref B.length],⟨_,rfl⟩,λY Z b=>?_⟩;rw[j]at b;obtain⟨r,e⟩:=s.tup;have o:=s.key;rw[e]at b j o s ⊢;walk_at"dl";refine⟨ys,ap,⟨s.ok,Dy hs⟩,?_⟩;rw[Ed s hs];by_cases f:D.tup r∈ys;rw[dT_ f];rw[dF_<|λz=>z f]at b;exact br b;rw[dF_ f];rw[dT_ f,p9 rfl]at b;exact bC ⟨kvs,_,c,o,j,ao (by lia),b⟩;rw[K9];have w:((kvs.map (·.1)).filter λk=>decide<|k∉ys).map (λk=>D.tup [k,(aH kvs k).getD .non])=(kvs.filter λp=>decide<|p.1∉ys).map λp=>.tup [p.1,p.2]:=by rw[List.filter_map,J3];refine Q8 λp hp=>?_;show D.tup [p.1,(aH kvs p.1).getD .non]=_;rw[gJ X (Lk.mp hp).1];rfl
 rw[w];have l:((kvs.filter λp=>decide<|p.1∉ys).map (·.1)).Nodup:=(Q6.map _).nodup X;refine⟨_,ap,λp hp=>?_,?_,?_⟩;have s:=sp p (Lk.mp hp).1;obtain⟨r,e⟩:=s.tup;exact⟨s.key,by rw[e];rfl⟩;have:=MS (λp:D×D=>decide<|p.1∉ys) kvs;lia;rw[sk _ l];refine .inl<|h _ _ (((C.trans bA).trans bA).trans bA) ?_;have u:(kvs.filter λp=>decide<|p.1∉ys)=kvs.filter λp=>@decide (¬bq kvs log p.1) (NS _):=List.filter_congr λp _=>by by_cases d:bq kvs log p.1;rw[dF_<|show ¬¬p.1∈ys from λz=>z<|(Q _).mpr d,@decide_eq_false _ (NS _)<|λz=>z d];rw[dT_<|show ¬p.1∈ys from λz=>d<|(Q _).mp z,@decide_eq_true _ (NS _) d]
 rw[<-u];exact ak
theorem oK(T:Tops P w K mg base):x5 P w K mg base 5 "says_shown" fi cI:=x5.byD (N:=["house","log","says","backs"]) T.b T.f_says_shown (by walk_at"sc") mH (by have:=iD T;have:=fY T;walk_at"dv") nT
def fG:AH:=λds M R RX=>∃(ps:List (c7×Int)) (a:List (c7×List c7)) (log:List D) (s:D),ds=[az ps a,.tup log,s]/\St s/\(ps.map (·.1)).Nodup/\(∀d∈log,aG ps a d)/\log.length<64/\(aH (bj a log) s=a8->RX (u7 "NoMessage") M)/\∀e,aH (bj a log) s=a7 e->R e M
theorem xh:LenX fG oJ:=by rintro ds M R RX ⟨ps,a,log,s,rfl,_⟩;rfl
def nr:G7:=Nd<|bd<|eQ (ac 3)<|ac 2
def nu:G7:=GT (PB (MD (Da<|au<|v8 eK<|aa (ac 0)<|aa (ac 2) ah)<|au<|u5 oy (ac 2)<|ac 3) (uF "NoMessage"<|aa (dC<|.str "there is no such message") ah)<|Nd aI)<|nr
def uQ:G7:=GT (Nd<|bg (v8 cI<|aa (ac 0)<|aa (ac 1) ah) 3)<|nu
theorem xG:QX fG 4 uQ:=by
 rintro ds M R RX ⟨ps,a,log,s,rfl,hs,d,f,q,X,h⟩;obtain⟨t,z,k,rfl⟩:=hs;simp only[uQ];walk_at"dl";refine⟨ps,a,log,rfl,f,q,λn B C hB=>?_⟩;simp only[nu];walk_at"dl";refine⟨ps,a,t,z,k,rfl,?_⟩;have o:∀{b:Bool},aH (bj a log) (.tup [.int t,.tup [.str z,.int k]])=a8->1<=sizeLine/\XEnd M RX (u7 "NoMessage") B:=λg=>⟨ao (by decide),.inr ⟨M,.refl,C,X g⟩⟩
 cases g:aH (bj a log) (.tup [.int t,.tup [.str z,.int k]]) with
 |none =>
  cases decide (1<=t)&&cF ps (.tup [.str z,.int k]) with
  |false=>exact bC<|o (b:=a9) g
  |true=>refine br ⟨_,hB,rfl,?_⟩;rw[g];exact bC<|o (b:=a9) g
 |some e=>have p:=(dz.mp<|bU g).1;obtain⟨h1,h2⟩:=bn.en _ p;have m:=bc h2;have i:=f _ m.1;have c:D.tup [.int t,.tup [.str z,.int k]]=F4 e:=h1;obtain⟨t',G,I,x,r,u,s,rfl,j,l,_⟩:=jB i m.2;simp only[F4,D.tup.injEq,MP,D.int.injEq,D.str.injEq,and_true]at c;obtain⟨rfl,rfl,rfl⟩:=c;obtain⟨v,w⟩:=zQ d l;rw[show (decide (1<=t)&&cF ps (.tup [.str z,.int k]))=a9 from by rw[dT_ j,show cF ps (.tup [.str z,.int k])=a9 from by simp[cF,v,w]];rfl];refine br ⟨_,hB,rfl,?_⟩;rw[g];refine br ?_;simp only[nr];walk_at"dl";exact⟨_,_,hB,rfl,g,aO.keep (h _ g) (cQ 6 _ i.pl) C⟩
theorem qV(T:Tops P w K mg base):AI P w K mg base 6 "say_at" oJ fG:=AI.by (N:=["house","log","stamp","says"]) T.b T.f_say_at (by walk_at"sc") xh (by have:=tL T;have:=oK T;have:=T.cl;walk_at"dvx") xG
def bo:A2:=λds M R=>∃(ps:List (c7×Int)) (a:List (c7×List c7)) (log:List D) (e:c7),ds=[.tup log,.str e]/\(∀d∈log,aG ps a d)/\log.length<1000/\∀n B b,M <+: B->VbAt B n b (nW log e)->R (.ref n) B
theorem gK:da bo ck:=by rintro ds M R ⟨ps,a,log,e,rfl,_⟩;rfl
def cJ:u9:=bd<|ac 2
def cK:u9:=aB (jk (bZ<|v8 cY<|aa (ac 0)<|aa (dC<|.str "read")<|aa (ac 1) ah) (af 3)<|iM<|Mr cD (OH vF (ac 2)<|aa (u5 v9 (u5 v9 (ac 3)<|dC<|.int 3)<|dC<|.int 1)<|aa (gW ah) ah)<|aa (u5 v9 (u5 v9 (ac 3)<|dC<|.int 3)<|dC<|.int 2) ah)<|cJ
def du:u9:=aB (bg (Db) 2)<|cK
theorem hW:C8 bo 4 du:=by
 rintro ds M R ⟨ps,X,log,name,rfl,b,Y,h⟩;simp only[du,cK];walk_at"dl";refine⟨ps,X,log,u7 "read",name,rfl,b,by lia,?_⟩;have W:=lP (log:=log) (k:=u7 "read") (name:=name);have J:∀d∈fu log (u7 "read") name,∃(t:Int) (z:c7) (k n:Int) (r:c7) (hs:List (D×Int)),d=.tup [.int t,.tup [.str z,.int k],.int n,.tup [.str<|u7 "read",.str r,.tup<|jL hs]]:=λd N=>by obtain⟨h1,h2,_⟩:=lO N;obtain⟨t,z,k,n,r,hs,e,_⟩:=yy (b d h1) h2;exact⟨t,z,k,n,r,hs,e⟩
 have V:nW log name=λr=>((fu log (u7 "read") name).filter λd=>decide<|aX d=r).map mO:=rfl;rw[V]at h;generalize fu log (u7 "read") name=F at W J h;have f:(M++[MO.dct []]).length=M.length+1:=by simp
 have H:(M++[MO.dct []]++[MO.lst F])[M.length+1]?=a7 (.lst F):=by rw[<-f];exact ak
 rw[f];refine⟨F,.inl H,λ_=>?_⟩;refine aP (λi S M'=>∃(c:List (c7×D)) (a:Option D),M <+: M'/\M'[M.length+1]?=a7 (.lst F)/\VbAt M' M.length c (λr=>((F.take i).filter λd=>decide<|aX d=r).map mO)/\c.length<=i/\S=[a7<|.tup log,a7<|.str name,a7<|.ref M.length,a]) ?_ ?_ ⟨[],_,bA.trans bA,H,⟨ae ak,λk d z=>(by cases z),λk _=>rfl,λ_ _ _ z=>(by cases z)⟩,w5 _,rfl⟩;rintro S M' ⟨c,a,pM,o,tr,_,rfl⟩;rw[LO]at tr;refine⟨.inl o,?_⟩;simp only[cJ];walk_at"dl";exact .inl<|h _ _ _ pM tr;rintro i y S M' Q ⟨c,a,pM,o,tr,tl,rfl⟩ G w;have K:F.take (i+1)=F.take i++[y]:=by rw[L6,Q];rfl
 rw[K]at w;have hi:=(A5.mp Q).1;obtain⟨t,z,k,n,r,hs,rfl⟩:=J y<|J7 Q;have C:∀k,(((F.take i).filter λd=>decide<|aX d=k).map mO).length<=i:=λk=>by rw[x3];refine H9 (MS _ _) ?_;rw[Lc];lia
 generalize p:(λI=>(((F.take i++[D.tup [.int t,.tup [.str z,.int k],.int n,.tup [.str<|u7 "read",.str r,.tup<|jL hs]]]).filter λd=>decide<|aX d=I).map mO))=L at w;have u:∀I,L I=if r=I then(((F.take i).filter λd=>decide<|aX d=I).map mO)++[.tup<|jL hs]else(((F.take i).filter λd=>decide<|aX d=I).map mO):=λI=>by rw[<-p];dsimp only;rw[Qm,LC,Mm,List.filter_nil];by_cases e:r=I;rw[p9 e,show decide (aX (.tup [.int t,.tup [.str z,.int k],.int n,.tup [.str<|u7 "read",.str r,.tup<|jL hs]])=I)=a9 from dT_ e];rfl;rw[r9 e,show decide (aX (.tup [.int t,.tup [.str z,.int k],.int n,.tup [.str<|u7 "read",.str r,.tup<|jL hs]])=I)=bt from dF_ e];exact Lb _
 clear p;refine⟨.inl o,?_⟩;walk_at"dl";have E:atI [D.int t,.tup [.str z,.int k],.int n,.tup [.str<|u7 "read",.str r,.tup<|jL hs]] 3=a7 (.tup [.str<|u7 "read",.str r,.tup<|jL hs]):=av (j:=3) rfl;rw[E];dsimp only;rw[QW];dsimp only;show (∃kvs,M'[M.length]?=a7 (MO.dct kvs))/\_;refine⟨⟨_,tr.at_⟩,?_⟩;walk_at"dl";rw[E];dsimp only;rw[Ms];dsimp only;refine⟨C4 _,c,ae tr.at_,ay (by lia),λy Q=>?_,λO=>?_⟩;obtain⟨m,rfl,Z,A⟩:=tr.got r y Q;refine⟨⟨_,.inl<|ae A⟩,_,ae A,ay (by have:=C r;lia),A7.now<|w _ _ ⟨c,_,cC (pM.trans bA) (by lia),bf (by lia)<|ae o,⟨bf (by lia)<|ae tr.at_,λI d b=>?_,λI b=>?_,tr.one⟩,by lia,rfl⟩⟩;obtain⟨q,rfl,l,g⟩:=tr.got I d b;refine⟨q,rfl,l,?_⟩;rw[u];by_cases e:r=I;subst e;rw[Q]at b;obtain rfl:m=q:=by injection b with b;injection b
 rw[dq<|ae A,p9 rfl];rw[r9 e];exact bf (λz=>e<|tr.one _ _ _ (z ▸ Q) b)<|ae g;have e:r≠I:=λz=>by rw[<-z,Q]at b;cases b
 rw[u,r9 e];exact tr.no I b;have U:M.length+1<M'.length:=aW o;have x:((M'++[MO.lst []]).set M.length<|.dct<|jU c r<|.ref M'.length)[M'.length]?=a7 (.lst []):=bf (by lia) ak;have B:∀I,eS (jU c r<|.ref M'.length) I=if r=I then a7 (.ref M'.length)else eS c I:=λI=>by by_cases e:r=I;rw[p9 e,<-e,xH];rw[r9 e,wF<|A1 e]
 refine⟨⟨_,.inl x⟩,_,x,ay (by rw[G0];lia),A7.now<|w _ _ ⟨jU c r<|.ref M'.length,_,cC (cC (pM.trans bA)<|w5 _) (by lia),bf (by lia)<|bf (by lia)<|ae o,⟨bf (by lia)<|dq<|ae tr.at_,λI d b=>?_,λI b=>?_,λP T m h1 h2=>?_⟩,by have:=(vI (kvs:=c) (k:=r) (d:=.ref M'.length)).1;lia,rfl⟩⟩;rw[B]at b;by_cases e:r=I;rw[p9 e]at b;subst e;exact⟨M'.length,by injection b with b;exact b.symm,U,by rw[dq x,u,p9 rfl,tr.no _ O]⟩;rw[r9 e]at b;obtain⟨q,rfl,l,g⟩:=tr.got I d b;have:=aW g;exact⟨q,rfl,l,by rw[u,r9 e];exact bf (by lia)<|bf (by lia)<|ae g⟩;rw[B]at b;by_cases e:r=I;rw[p9 e]at b;cases b;rw[r9 e]at b;rw[u,r9 e];exact tr.no I b;rw[B]at h1 h2;have s:∀I m,eS c I=a7 (.ref m)->m<M'.length:=λI m h'=>by obtain⟨q,e,_,g⟩:=tr.got I _ h';injection e with e;rw[e];exact aW g
 by_cases f:r=P<;>by_cases v:r=T;rw[<-f,<-v];rw[p9 f]at h1;rw[r9 v]at h2;have:=s _ _ h2;injection h1 with h1;injection h1 with h1;lia;rw[r9 f]at h1;rw[p9 v]at h2;have:=s _ _ h1;injection h2 with h2;injection h2 with h2;lia;rw[r9 f]at h1;rw[r9 v]at h2;exact tr.one _ _ _ h1 h2
theorem iC(T:Tops P w K mg base):x5 P w K mg base 3 "vectors_by_room" ck bo:=x5.byD (N:=["log","name","vectors","deed"]) T.b T.f_vectors_by_room (by walk_at"sc") gK (by have:=lL T;walk_at"dv") hW
def fU:A2:=λds M R=>∃(ps:List (c7×Int)) (a:List (c7×List c7)) (log:List D) (n:c7) (e:D) (v qs:Nat) (b:List (c7×D)),ds=[e,.str n,.ref v,.ref qs]/\(∀d∈log,aG ps a d)/\log.length<=1000/\aG ps a e/\bw e=u7 "say"/\VbAt M v b (nW log n)/\M[qs]?=a7 (.lst<|nZ log (u7 "seen") n)/\(∀x∈nZ log (u7 "seen") n,St x)/\R (.bl<|fh log n e) M
theorem uc:da fU lD:=by rintro ds M R ⟨ps,a,log,n,e,v,qs,b,rfl,_⟩;rfl
theorem Eo(h:∀d∈log,aG ps rs d):∀v∈nW log name r,∃hs:List (D×Int),v=.tup (jL hs)/\(∀p∈hs,Hd p.1)/\hs.length<=12:=λv c=>by obtain⟨d,m,rfl⟩:=C1.mp c;obtain⟨h1,h2,_⟩:=lO (Lk.mp m).1;obtain⟨t,z,k,n,r,hs,rfl,b,g⟩:=yy (h d h1) h2;exact⟨hs,rfl,b,g⟩
theorem AZ:(nW log name r).length<=log.length:=by unfold nW;rw[x3];exact H9 (MS _ _) lP
def kL:u9:=bd<|v8 HQ<|aa (Lg 1 [0] (bZ<|OH vG (ac 2)<|aa (v8 bK<|aa (ac 0) ah)<|aa (gW ah) ah) (af 0) pD<|v8 dh<|aa (ac 1)<|aa (ac 0) ah) ah
def qm:u9:=aB (B6 (MD (au<|u5 A9 (v8 bh<|aa (ac 0) ah)<|ac 1)<|au<|u5 NY (v8 cW<|aa (ac 0) ah)<|ac 3) (bd<|dC<|.bl a9) aI)<|kL
theorem wy:C8 fU 4 qm:=by
 rintro ds M R ⟨ps,G,log,name,e,A,qs,d,rfl,w,F,j,y,f,o,hs,h⟩;obtain⟨t,z,k,m,r,u,s,rfl,_⟩:=jB j y;have c:St (.tup [.int t,.tup [.str z,.int k]]):=⟨_,_,_,rfl⟩
 simp only[qm];walk_at"dl";refine⟨_,_,_,_,rfl,⟨ag,ag⟩,?_⟩;rw[aC];unfold fh at h;rw[show bO (.tup [.int t,.tup [.str z,.int k],.int m,.tup [.str<|u7 "say",.str r,u,.str s]])=z from rfl,show F4 (.tup [.int t,.tup [.str z,.int k],.int m,.tup [.str<|u7 "say",.str r,u,.str s]])=.tup [.int t,.tup [.str z,.int k]]from rfl,show aX (.tup [.int t,.tup [.str z,.int k],.int m,.tup [.str<|u7 "say",.str r,u,.str s]])=r from rfl]at h;by_cases b:z=name;rw[beq_iff_eq.mpr b];rw[dT_ b]at h;exact bC<|aO.now h;rw[beq_eq_false_iff_ne.mpr b];rw[dF_ b,OX]at h;refine br ⟨_,_,_,rfl,_,.inl o,⟨c.ok,Dy hs⟩,?_⟩;rw[Ed c hs];by_cases l:D.tup [.int t,.tup [.str z,.int k]]∈nZ log (u7 "seen") name;rw[dT_ l];rw[dT_ l]at h;exact bC<|aO.now h;rw[dF_ l];rw[dF_ l,OX]at h;refine br ?_;simp only[kL];walk_at"dl";show (∃kvs,M[A]?=a7 (MO.dct kvs))/\_;refine⟨⟨_,f.at_⟩,?_⟩;walk_at"dl";refine⟨_,_,_,_,_,_,rfl,C4 _,d,ae f.at_,?_⟩;obtain⟨q,n,g⟩:=(f.pre<|bA (mo:=MO.lst [])).kids (k:=r) ak;rw[n];have pM:M <+: M++[MO.lst []]:=bA;generalize M++[MO.lst []]=B at g pM;have E:=AZ (log:=log) (name:=name) (r:=r);have V:=Eo (name:=name) (r:=r) w;generalize nW log name r=L at g h E V;refine⟨_,.inl g,λ_=>?_⟩;refine bV (λv=>.bl<|cb (Ba v) (.tup [.str z,.int k]) m) (λS=>∃a,S=[a,a7<|.tup [.int t,.tup [.str z,.int k],.int m,.tup [.str<|u7 "say",.str r,u,.str s]]]) (.inl g) _ _ _ (λv x S p=>?_) ⟨_,rfl⟩ (by rw[G0];exact ao<|by lia) ?_;obtain⟨a,rfl⟩:=p;obtain⟨hs,rfl,C,O⟩:=V v x;refine⟨[a7<|.tup<|jL hs,a7<|.tup [.int t,.tup [.str z,.int k],.int m,.tup [.str<|u7 "say",.str r,u,.str s]]],⟨_,rfl⟩,λY i=>?_⟩;rw[uH]at i;walk_at"dl";exact⟨_,_,_,_,hs,rfl,⟨_,_,rfl⟩,C,by lia,i⟩;refine⟨L.map λv=>cb (Ba v) (.tup [.str z,.int k]) m,?_,?_⟩;rw[K9,show bls (L.map λv=>cb (Ba v) (.tup [.str z,.int k]) m)=L.map λv=>.bl (cb (Ba v) (.tup [.str z,.int k]) m) by unfold bls;rw[J3];rfl];exact ap;rw[List.any_map];exact aO.bl h<|pM.trans bA
theorem wV(T:Tops P w K mg base):x5 P w K mg base 2 "is_read" lD fU:=x5.byD (N:=["say","name","vectors","seen"]) T.b T.f_is_read (by walk_at"sc") uc (by have:=lI T;have:=db T;have:=qW T;have:=ja T;walk_at"dv") wy
def cr:AH:=λds M R RX=>∃(ps:List (c7×Int)) (a:List (c7×List c7)) (log:List D) (n:c7) (s:D),ds=[az ps a,.tup log,.str n,s]/\St s/\(ps.map (·.1)).Nodup/\(∀d∈log,aG ps a d)/\log.length<64/\(aH (bj a log) s=a8->RX (u7 "NoMessage") M)/\∀e,aH (bj a log) s=a7 e->R (.bl<|fh log n e) M
theorem rP:LenX cr iX:=by rintro ds M R RX ⟨ps,a,log,e,s,rfl,_⟩;rfl
def ju:G7:=Nd<|bd<|v8 fU<|aa (ac 4)<|aa (ac 2)<|aa (v8 bo<|aa (ac 1)<|aa (ac 2) ah)<|aa (v8 cy<|aa (ac 1)<|aa (dC<|.str "seen")<|aa (ac 2) ah) ah
def nA:G7:=GT (xSet (NW fG<|aa (ac 0)<|aa (ac 1)<|aa (ac 3) ah) 4)<|ju
theorem sR:QX cr 5 nA:=by rintro ds M R RX ⟨ps,s,log,a,t,rfl,hs,p,d,l,X,h⟩;simp only[nA];walk_at"dl";refine⟨ps,s,log,t,rfl,hs,p,d,l,λg=>.inl<|X g,λe c=>?_⟩;replace h:=h e c;have f:=(dz.mp<|bU c).1;obtain⟨h1,h2⟩:=bn.en _ f;have m:=bc h2;have i:=d _ m.1;simp only[ju];walk_at"dl";refine⟨ps,s,log,a,rfl,d,by lia,λn B b C v=>?_⟩;refine⟨ps,s,log,_,a,rfl,d,by lia,.inl rfl,λS=>?_⟩;refine⟨ps,s,log,a,e,n,_,b,rfl,d,by lia,i,m.2,v.pre bA,ak,S,?_⟩;exact aO.bl h<|C.trans bA
theorem gI(T:Tops P w K mg base):AI P w K mg base 7 "has_read" iX cr:=AI.by (N:=["house","log","name","stamp","say"]) T.b T.f_has_read (by walk_at"sc") rP (by have:=mE T;have:=qV T;have:=iC T;have:=wV T;walk_at"dvx") sR
def bu:AH:=λds M R RX=>∃(ps:List (c7×Int)) (a:List (c7×List c7)) (log:List D) (s:D),ds=[az ps a,.tup log,s]/\HouseF ps a/\St s/\(∀d∈log,aG ps a d)/\log.length<64/\(aH (bj a log) s=a8->RX (u7 "NoMessage") M)/\∀e,aH (bj a log) s=a7 e->R (.ref M.length) (M++[.lst<|((jW a<|aX e).filter λn=>fh log n e).map .str])
theorem mI:LenX bu fj:=by rintro ds M R RX ⟨ps,a,log,s,rfl,_⟩;rfl
theorem yY(f:HouseF ps rs):(jW rs r).length<=4:=by
 unfold jW;cases R:rs.find? λp=>decide (p.1=r) with
 |none=>exact C4 _
 |some p=>exact f.rm p<|Ps R
noncomputable def Rs:D->c7
 |.str s=>s
 |_=>u7 ""
def gf:G7:=Nd<|bd<|Lg 1 [0,1,2] (bZ<|v8 bW<|aa (ac 0)<|aa (ac 3) ah) (af 0) (au<|v8 (OD cr)<|aa (ac 1)<|aa (ac 2)<|aa (ac 0)<|aa (ac 3) ah)<|ac 0
def jp:G7:=GT (xSet (xCB1 bK<|Ej (NW fG<|aa (ac 0)<|aa (ac 1)<|aa (ac 2) ah) ah) 3)<|gf
theorem nU:QX bu 4 jp:=by rintro ds M R RX ⟨ps,c,log,j,rfl,p,hs,o,v,X,h⟩;simp only[jp];walk_at"dl";refine⟨ps,c,log,j,rfl,hs,p.pnd,o,v,λg=>.inl<|X g,λe f=>?_⟩;replace h:=h e f;have q:=(dz.mp<|bU f).1;obtain⟨h1,h2⟩:=bn.en _ q;have i:=bc h2;have x:=o _ i.1;clear h1 h2 q;obtain⟨t,z,k,m,r,u,s,rfl,_,_,y,_⟩:=jB x i.2;refine⟨_,_,_,_,_,_,rfl,?_⟩;simp only[gf];walk_at"dl";refine⟨ps,c,r,rfl,y,λ_=>?_⟩;have w:=yY (r:=r) p;rw[show aX (D.tup [.int t,.tup [.str z,.int k],.int m,.tup [.str<|u7 "say",.str r,u,.str s]])=r from rfl]at h;generalize E:D.tup [.int t,.tup [.str z,.int k],.int m,.tup [.str<|u7 "say",.str r,u,.str s]]=e at *;refine bJ (λd=>fh log (Rs d) e) id (λS=>∃a,S=[a,a7<|az ps c,a7<|.tup log,a7 j]) trivial _ _ _ ?_ ⟨_,rfl⟩ (by rw[G0,x3];exact ao<|by lia) ?_;rintro d i S ⟨a,rfl⟩;obtain⟨n,B,rfl⟩:=C1.mp i;refine⟨[a7<|.str n,a7<|az ps c,a7<|.tup log,a7 j],⟨_,rfl⟩,λY Z l=>?_⟩;walk_at"dl";refine⟨ps,c,log,n,j,rfl,hs,p.pnd,o,v,(λz=>by rw[f]at z;cases z),λA b=>?_⟩;rw[f]at b;cases b;exact l;rw[K9,N7,List.filter_map];rw[show ((λd=>fh log (Rs d) e) ∘ D.str)=λn=>fh log n e from rfl];exact aO.lst h (w5 _) ak<|vB _
theorem iE(T:Tops P w K mg base):AI P w K mg base 8 "readers_of" fj bu:=AI.by (N:=["house","log","stamp","room"]) T.b T.f_readers_of (by walk_at"sc") mI (by have:=iF T;have:=ja T;have:=qV T;have:=(gI T).nev;walk_at"dvx") nU
noncomputable def Ao(ns:List Int)(k:Nat):Int:=ns.getD k 0
def dG:A2:=λds M R=>∃(n:Nat) (ns:List Int) (k:Nat),ds=[.ref n,.int k]/\am M n (ns.map D.int)/\R (.int<|Ao ns k) M
theorem ue:da dG lF:=by rintro ds M R ⟨n,ns,k,rfl,_⟩;rfl
def kO:u9:=bd<|dC<|.int 0
def qB:u9:=aB (B6 (au<|u5 Mq (ac 1)<|v8 jN<|aa (ac 0) ah) (bd<|u5 v9 (ac 0)<|ac 1) aI)<|kO
theorem wA:C8 dG 2 qB:=by rintro ds M R ⟨n,ns,k,rfl,L,h⟩;simp only[qB,kO];walk_at"dl";refine⟨_,L,?_⟩;unfold Ao at h;by_cases a:k<ns.length;rw[dT_<|by simpa using a];refine bC ⟨_,L,?_⟩;rw[av (v:=.int ns[k])<|by rw[D8,z9 a];rfl];rw[Lf,z9 a]at h;exact aO.now h;rw[dF_<|by simpa using a];rw[Lf,Nv<|by lia]at h;exact br<|aO.now h
theorem nJ(T:Tops P w K mg base):x5 P w K mg base 1 "_law_cell_at" lF dG:=x5.byD (N:=["_law_script","_law_k"]) T.b T.f_cell_at (by walk_at"sc") ue (by walk_at"dv") wA
def dg:A2:=λds M R=>∃(c k:Int),ds=[.int c,.int k]/\(0<=k/\k<=1000)/\∀i:Int,R (.int i) M
theorem zg:da dg tE:=by rintro ds M R ⟨c,k,rfl,_⟩;rfl
def qi:u9:=bd<|u5 bY (u5 aF (u5 aF (u5 jM (ac 2)<|dC<|.int 69621)<|u5 jM (u5 jM (dC<|.int 7919)<|ac 1)<|ac 1)<|dC<|.int 5)<|dC<|.int 1999999973
def xN:u9:=aB (bg (u5 bY (u5 jM (u5 aF (u5 aF (u5 bY (ac 0)<|dC<|.int 2147483629)<|u5 jM (dC<|.int 7919)<|ac 1)<|dC<|.int 11)<|dC<|.int 48271)<|dC<|.int 2147483587) 2)<|qi
theorem AU:C8 dg 3 xN:=by rintro ds M R ⟨c,k,rfl,⟨v,B⟩,h⟩;simp only[xN,qi];walk_at"dl";exact⟨by decide,.inl ⟨by decide,by decide⟩,.inr ⟨by decide,by decide⟩,by decide,.inr ⟨by decide,by decide⟩,.inl ⟨by decide,by decide⟩,.inr ⟨by lia,by lia⟩,by decide,aO.now<|h _⟩
theorem vK(T:Tops P w K mg base):x5 P w K mg base 1 "_law_mixed" tE dg:=x5.byD (N:=["_law_cell","_law_k","_law_number"]) T.b T.f_mixed (by walk_at"sc") zg (by walk_at"dv") AU
def mq:A2:=λds M R=>∃(c k:Int),ds=[.int c,.int k]/\(0<=k/\k<=900)/\∀i:Int,R (.int i) M
theorem Ca:da mq yO:=by rintro ds M R ⟨c,k,rfl,_⟩;rfl
def vm:u9:=bd<|v8 dg<|aa (v8 dg<|aa (ac 0)<|aa (ac 1) ah)<|aa (u5 aF (ac 1)<|dC<|.int 9) ah
def Dw:u9:=aB (B6 (au<|u5 A9 (u5 bY (ac 0)<|dC<|.int 2)<|dC<|.int 0) (bd<|u5 aM (ac 0)<|dC<|.int 2) aI)<|vm
theorem En:C8 mq 2 Dw:=by
 rintro ds M R ⟨c,k,rfl,⟨v,B⟩,h⟩;simp only[Dw,vm];walk_at"dl";refine⟨by decide,⟨aE,aE⟩,?_⟩;cases v4 M w6 (.int<|c % 2) (.int 0) with
 |true=>exact bC ⟨⟨by decide,by decide⟩,aO.now<|h _⟩
 |false=>exact br ⟨c,k,rfl,⟨v,by lia⟩,λi=>⟨i,k+9,rfl,⟨by lia,by lia⟩,λj=>aO.now<|h j⟩⟩
theorem Ff(T:Tops P w K mg base):x5 P w K mg base 2 "_law_free" yO mq:=x5.byD (N:=["_law_cell","_law_k"]) T.b T.f_free (by walk_at"sc") Ca (by have:=vK T;walk_at"dv") En
def fS:A2:=λds M R=>∃(n:Nat) (ns:List Int) (a m:Nat),ds=[.ref n,.int a,.int m]/\am M n (ns.map D.int)/\ns.length<=100/\a<=10/\m<=100/\∀xs:List Int,xs.length<=m->R (.ref M.length) (M++[.lst<|xs.map .int])
theorem ua:da fS lB:=by rintro ds M R ⟨n,ns,a,m,rfl,_⟩;rfl
theorem Co{ns:List Int}{lo hi:Option Int}:∃l:List Int,cutD (ns.map D.int) lo hi=l.map D.int:=by unfold cutD;rw[<-List.map_drop,<-List.map_take];exact⟨_,rfl⟩
theorem Dc{xs:List D}{s m:Nat}:(cutD xs (a7<|(s:Int)+1)<|a7<|(s:Int)+1+(m:Int)).length<=m:=by unfold cutD;rw[Lc,show ((s:Int)+1)=((s+1:Nat):Int) by lia,show (((s+1:Nat):Int)+(m:Int))=((s+1+m:Nat):Int) by lia,HT.sIx_nat,HT.sIx_nat];lia
def jq:u9:=bd<|ac 4
def jr:u9:=iM<|Mr cD (ac 4)<|aa (u5 aF (u5 jM (ac 9)<|dC<|.int 1000003)<|v8 dg<|aa (ac 9)<|aa (u5 aF (ac 7)<|dC<|.int 5) ah) ah
def eU:u9:=aB (jk (bz<|aa (v8 jN<|aa (ac 8) ah) ah) (af 7)<|aB (bg (v8 dg<|aa (v8 dg<|aa (u5 v9 (ac 8)<|ac 7)<|aa (ac 7) ah)<|aa (dC<|.int 3) ah) 9)<|jr)<|jq
def kz:u9:=aB (B6 (au<|u5 A9 (ac 8)<|gW ah) (gj 1 [3] (bz<|aa (u5 bY (u5 aM (ac 3)<|dC<|.int 2)<|u5 aF (ac 2)<|dC<|.int 1) ah) (af 0) pD (u5 aF (u5 aM (ac 1)<|dC<|.int 2)<|u5 jM (dC<|.int 7)<|ac 0) 8) aI)<|eU
def kA:u9:=aB (bg (N0 (ac 0) (ux<|u5 aF (ac 1)<|dC<|.int 1)<|ux<|u5 aF (u5 aF (ac 1)<|dC<|.int 1)<|ac 2) 8)<|kz
def kC:u9:=bd<|ac 4
def kD:u9:=bg (u5 aM (ac 5)<|u5 EF (dC<|.int 10)<|dC<|.int 24) 5
def kE:u9:=aB (jk (bz<|aa (ac 6) ah) (af 7)<|aB (iM<|Mr cD (ac 4)<|aa (u5 bY (ac 5)<|u5 EF (dC<|.int 10)<|dC<|.int 24) ah)<|kD)<|kC
def kF:u9:=aB (bg (u5 aM (ac 5)<|u5 aF (ac 2)<|dC<|.int 1) 5)<|kE
def kG:u9:=aB (bg (u5 bY (ac 5)<|u5 aF (ac 2)<|dC<|.int 1) 6)<|kF
def kH:u9:=aB (B6 (au<|u5 A9 (u5 bY (ac 3)<|dC<|.int 2)<|dC<|.int 0) (aB (bg (u5 aM (ac 3)<|dC<|.int 2) 5)<|kG) aI)<|kA
def kI:u9:=aB (bg (gW ah) 4)<|kH
def pU:u9:=aB (bg (v8 dG<|aa (ac 0)<|aa (ac 1) ah) 3)<|kI
theorem nK{M L:v5}{R:DK}{cs:List Int}{c m:Nat}{r y1 g j k l q s:Option D}(f:am (M++MO.lst []::L) c (cs.map D.int))(n:c≠M.length)(t:cs.length<=m)(U:m<=100)(h:∀xs:List Int,xs.length<=m->R (.ref M.length) (M++[.lst<|xs.map .int])):eU (EE M R) [r,y1,g,j,a7<|.ref M.length,k,l,q,a7<|.ref c,s] (M++MO.lst []::L):=by
 simp only[eU];walk_at"dl";refine⟨_,f,⟨by lia,by rw[x3];lia⟩,?_⟩;refine aP (λi S M'=>∃(xs:List Int) (a b:Option D),xs.length=i/\(∃d,M'=M++MO.lst (xs.map .int)::d)/\am M' c (cs.map D.int)/\S=[r,y1,g,j,a7<|.ref M.length,k,l,a,a7<|.ref c,b]) ?_ ?_ ⟨[],_,_,rfl,⟨L,rfl⟩,f,rfl⟩;rintro S M' ⟨xs,a,b,x,⟨d,rfl⟩,O,rfl⟩;rw[aY,x3,Ld]at x;refine⟨trivial,?_⟩;simp only[jq];walk_at"dl";exact aO.lst (h xs<|by lia) (w5 _) bT<|vV xs;rintro i y S M' Q ⟨xs,a,b,x,⟨d,rfl⟩,O,rfl⟩ G p;obtain⟨hi,rfl⟩:=bF.mp Q;rw[x3,Ld]at hi;refine⟨trivial,?_⟩;walk_at"dl";have e:atI (cs.map D.int) (0+(i:Int))=a7 (.int cs[i]):=by rw[NH];exact av<|by rw[D8,z9 hi];rfl
 refine⟨_,O,?_⟩;rw[e];refine⟨_,_,rfl,⟨by lia,by lia⟩,λv=>⟨v,3,rfl,⟨by decide,by decide⟩,λo=>?_⟩⟩;simp only[jr];walk_at"dl";refine⟨⟨_,.inl bT⟩,.inr ⟨by decide,by decide⟩,o,_,rfl,⟨by lia,by lia⟩,λw=>⟨xs.map .int,bT,by rw[x3];exact ay (by lia),A7.now<|p _ _ ⟨xs++[o*1000003+w],_,_,by simp[x],⟨d,?_⟩,yZ n O,rfl⟩⟩⟩;rw[kX];simp
theorem ww:C8 fS 10 pU:=by
 rintro ds M R ⟨n,ns,a,m,rfl,L,F,E,U,h⟩;simp only[pU];walk_at"dl";refine⟨n,ns,a,rfl,L,?_⟩;generalize Ao ns a=c;simp only[kI,kH];walk_at"dl";refine⟨C4 _,by decide,⟨aE,aE⟩,?_⟩;have e:(0:Int)<(m:Int)+1:=by lia
 cases v4 (M++[MO.lst []]) w6 (.int<|c % 2) (.int 0) with
 |true=>refine bC ?_;simp only[kG,kF];walk_at"dl";have B:=bP (a:=c / 2) e;have C:=cf (a:=c / 2) e;refine⟨⟨by decide,by decide⟩,e,⟨e,by lia⟩,?_⟩;simp only[kE];walk_at"dl";refine⟨⟨by lia,by lia⟩,?_⟩;refine aP (λi S M'=>∃(xs:List Int) (r:Int) (b:Option D),xs.length=i/\M'=M++MO.lst (xs.map .int)::[]/\S=[a7<|.ref n,a7<|.int a,a7<|.int m,a7<|.int c,a7<|.ref M.length,a7<|.int r,a7<|.int<|c / 2 % ((m:Int)+1),b,a8,a8]) ?_ ?_ ⟨[],_,_,rfl,rfl,rfl⟩;rintro S M' ⟨xs,r,b,g,rfl,rfl⟩;rw[aY]at g;refine⟨trivial,?_⟩;simp only[kC];walk_at"dl";exact aO.lst (h xs<|by lia) (w5 _) bT<|vV xs;rintro i y S M' Q ⟨xs,r,b,g,rfl,rfl⟩ G u;obtain⟨hi,rfl⟩:=bF.mp Q;refine⟨trivial,?_⟩;simp only[kD];walk_at"dl";refine⟨⟨_,.inl bT⟩,⟨by decide,by decide,by decide⟩,by decide,xs.map .int,bT,by rw[x3];exact ay (by lia),⟨by decide,by decide,by decide⟩,⟨by decide,by decide⟩,A7.now<|u _ _ ⟨xs++[r % 10 ^ Int.toNat 24],_,_,by simp[g],?_,rfl⟩⟩;rw[kX];simp
 |false =>
  refine br ?_;simp only[kA];walk_at"dl";obtain⟨cs,f⟩:=Co (ns:=ns) (lo:=a7<|(a:Int)+1) (hi:=a7<|(a:Int)+1+(m:Int));have p:cs.length<=m:=by have:=Dc (xs:=ns.map D.int) (s:=a) (m:=m);rw[f,x3]at this;exact this
  refine⟨_,L.more _,?_⟩;rw[f,Ls];simp only[kz];walk_at"dl";have t:(M++[MO.lst []]).length=M.length+1:=by simp
  rw[t];have A:am (M++MO.lst []::[MO.lst<|cs.map D.int]) (M.length+1) (cs.map D.int):=.inl fP;obtain⟨o,l⟩:=oO A λx g=>by obtain⟨i,_,rfl⟩:=C1.mp g;exact aE
  refine⟨C4 _,o,?_⟩;rw[l];cases hs:(cs.map D.int).isEmpty with
  |true =>
   have B:=bP (a:=c / 2) e;have C:=cf (a:=c / 2) e;refine bC ⟨⟨by decide,by decide⟩,e,⟨by lia,by lia⟩,?_⟩;refine bV (λd=>match d with|.int k=>.int (c / 2+7*k)|_=>.non) (λS=>∃b,S=[b,a7<|.int c]) trivial _ _ _ (λk z S v=>?_) ⟨_,rfl⟩ ?_ ?_;obtain⟨b,rfl⟩:=v;obtain⟨i,hi⟩:=LR z;obtain⟨_,rfl⟩:=bF.mp hi;refine⟨[a7<|.int<|0+(i:Int),a7<|.int c],⟨_,rfl⟩,λY w=>?_⟩;walk_at"dl";exact⟨⟨by decide,by decide⟩,.inl ⟨by decide,by decide⟩,w⟩;rw[G0,aY];exact ao (by lia);obtain⟨ds,j,q⟩:∃ds:List Int,(fe 0 (c / 2 % ((m:Int)+1)).toNat).map (λd=>match d with|.int k=>D.int (c / 2+7*k)|_=>.non)=ds.map D.int/\ds.length<=m:=by refine⟨(D3 (c / 2 % ((m:Int)+1)).toNat).map λ(i:Nat)=>c / 2+7*(0+(i:Int)),?_,by rw[x3,Nr];lia⟩;unfold fe;rw[J3,J3];rfl
   rw[K9,j,Ls,Ls];refine nK (cs:=ds) ?_ ?_ q U h;exact .inl (by simp);simp
  |false=>refine br ?_;rw[Ls];exact nK (.inl fP) (by lia) p U h
theorem wT(T:Tops P w K mg base):x5 P w K mg base 2 "_law_numbers" lB fS:=x5.byD (N:=["_law_script","_law_start","_law_most","_law_head","_law_found","_law_rest","_law_many","_law_k","_law_cells","_law_one"]) T.b T.f_numbers (by walk_at"sc") ua (by have:=nJ T;have:=vK T;walk_at"dv") ww
def iN:A2:=λds M R=>∃(c:Int) (m:Nat),ds=[.int c,.int m]/\1<=m/\m<=4/\∀xs:List c7,xs.length=m->(∀x∈xs,x.length<=8)->xs.Nodup->R (.ref M.length) (M++[.lst<|xs.map .str])
theorem zf:da iN tD:=by rintro ds M R ⟨c,m,rfl,_⟩;rfl
theorem Cp(u:Option Int)(n:Nat):Ox a8 u 1 n=Ox (a7 ((0:Nat):Int)) u 1 n:=by unfold Ox;simp only[show (1:Int) > 0 by decide,t8];congr 1
theorem JB(l:Option Int)(n:Nat):Ox l a8 1 n=Ox l (a7 ((n:Nat):Int)) 1 n:=by unfold Ox;simp only[show (1:Int) > 0 by decide,t8];congr 1;rw[r9<|by lia];lia
theorem vC(x:c7)(b:Nat):(LK x a8<|a7 (b:Int)).cps.toList=x.cps.toList.take b:=by have e:=qJ x (a:=0) (b:=b)<|C4 _;rw[dJ]at e ⊢;rw[Cp];rw[e];simp
theorem wO(x:c7)(a:Nat)(h:a<=x.length):(LK x (a7 (a:Int)) a8).cps.toList=x.cps.toList.drop a:=by have e:=qJ x (a:=a) (b:=x.length) h;rw[dJ]at e ⊢;rw[JB];rw[e];rw[Pq];rw[L5,dW];lia
theorem wl(a:0<=i)(h1:i<26):∃c:Nat,atI (u7 "abcdefghijklmnopqrstuvwxyz").cps.toList i=a7 c/\(97<=c/\c<=122)/\c=97+i.toNat:=by
 have g:(u7 "abcdefghijklmnopqrstuvwxyz").cps.toList=(D3 26).map (· + 97):=by decide +kernel
 obtain⟨j,L,e,z⟩:=AA (xs:=(u7 "abcdefghijklmnopqrstuvwxyz").cps.toList) a (by rw[g];simpa using h1);refine⟨_,e,?_⟩;have l:(u7 "abcdefghijklmnopqrstuvwxyz").cps.toList[j]?=a7 (j+97):=by rw[g,x3,Nr]at L;rw[g,D8,List.getElem?_range L];rfl
 rw[z9 L]at l;have Q:=C7 l;have h:j<26:=by rw[g,x3,Nr]at L;exact L
 rw[Q];lia
theorem zV{at_ s o:Nat}{a:List c7}(l:a.length<=4)(h:∀(j:Nat) z,a[j]?=a7 z->z.length=s/\z.cps.toList[at_]?=a7 (97+(o+j) % 26)):a.Nodup:=by rw[Ny,Pt];intro i j hi L b e;have h1:=(h i _<|z9 hi).2;have h2:=(h j _<|z9 L).2;rw[e,h2]at h1;have:=C7 h1;lia
theorem Dp(h:97<=ch/\ch<=122):∃(i:Nat) (aL:List Nat),QD (u7 "abcdefghijklmnopqrstuvwxyz") ⟨#[ch]⟩ 0 (u7 "abcdefghijklmnopqrstuvwxyz").length 1=i::aL:=by
 have f:=StrLaws.found_one (u7 "abcdefghijklmnopqrstuvwxyz") ch;have g:(u7 "abcdefghijklmnopqrstuvwxyz").cps.toList=(D3 26).map (· + 97):=by decide +kernel
 have d:ch∈(u7 "abcdefghijklmnopqrstuvwxyz").cps.toList:=by rw[g];exact C1.mpr ⟨ch-97,Ix.mpr (by lia),by lia⟩
 rw[dT_ d]at f;cases e:QD (u7 "abcdefghijklmnopqrstuvwxyz") ⟨#[ch]⟩ 0 (u7 "abcdefghijklmnopqrstuvwxyz").length 1 with
 |nil=>rw[e]at f;cases f
 |cons i r=>exact⟨i,r,rfl⟩
noncomputable def strD:D->c7
 |.str x=>x
 |_=>u7 ""
def iP:u9:=bd<|v8 iS<|aa (ac 8) ah
def pV:u9:=aB (B6 (nP (au<|u5 MW (ac 1)<|dC<|.int 1)<|au<|u5 A9 (u5 bY (ac 0)<|dC<|.int 3)<|dC<|.int 1) (KC (u5 aF (u5 v9 (ac 8)<|dC<|.int 0)<|dC<|.str "b")<|Ae (ac 8)<|dC<|.int 1) aI)<|iP
def pW:u9:=aB (gj 1 [5,4,2,7] (bz<|aa (ac 1) ah) (af 0) pD (u5 aF (u5 aF (N0 (ac 1) me<|ux<|ac 2)<|u5 v9 (ac 3)<|u5 bY (u5 aF (ac 4)<|ac 0)<|dC<|.int 26)<|N0 (ac 1) (ux<|u5 aF (ac 2)<|dC<|.int 1) me) 8)<|pV
def pX:u9:=aB (bg (PJ lg (ac 2)<|aa (u5 v9 (ac 5)<|ac 4) ah) 7)<|pW
def pY:u9:=bg (u5 aM (ac 0)<|dC<|.int 26) 0
def pZ:u9:=aB (jk (bz<|aa (ac 3) ah) (af 6)<|aB (bg (u5 aF (ac 5)<|u5 v9 (ac 2)<|u5 bY (ac 0)<|dC<|.int 26) 5)<|pY)<|pX
def qc:u9:=aB (bg (dC<|.str "") 5)<|pZ
def qf:u9:=aB (bg (u5 aM (ac 0)<|dC<|.int 49) 0)<|qc
def qg:u9:=aB (bg (u5 bY (u5 aM (ac 0)<|dC<|.int 7)<|ac 3) 4)<|qf
def qh:u9:=aB (bg (u5 aF (dC<|.int 1)<|u5 bY (ac 0)<|dC<|.int 7) 3)<|qg
def xM:u9:=aB (bg (dC<|.str "abcdefghijklmnopqrstuvwxyz") 2)<|qh
theorem oP{M L:v5}{R:DK}{m:Nat}{xs:List c7}{r y1 y j d k e q:Option D}(f:m<=4)(l:xs.length=m)(c:∀x∈xs,x.length<=8)(X:xs.Nodup)(h:∀xs:List c7,xs.length=m->(∀x∈xs,x.length<=8)->xs.Nodup->R (.ref M.length) (M++[.lst<|xs.map .str])):iP (EE M R) [r,y1,y,j,d,k,e,q,a7<|.ref M.length] (M++MO.lst (xs.map .str)::L):=by simp only[iP];walk_at"dl";refine⟨xs.map .str,.inl bT,(wL<|by lia).g,λys Q _=>?_⟩;obtain⟨s,rfl,b⟩:=yG Q;rw[Ls];exact aO.lst (h s (by rw[b.length_eq,l]) (λx a=>c x<|b.mem_iff.mp a)<|b.nodup_iff.mpr X) (by simp) (by simp)<|vB s
theorem AT:C8 iN 9 xM:=by
 rintro ds M R ⟨c,m,rfl,m1,N,h⟩;have o:(u7 "abcdefghijklmnopqrstuvwxyz").length<=sizeLine:=by decide +kernel
 have s0:=bP (a:=c) (b:=7) (by decide);have s1:=cf (a:=c) (b:=7) (by decide);simp only[xM,qh,qg];walk_at"dl";obtain⟨s,hs⟩:∃n:Nat,(n:Int)=1+c % 7:=⟨(1+c % 7).toNat,by lia⟩
 rw[<-hs];have z1:1<=s:=by lia
 have z7:s<=7:=by lia
 have a0:=bP (a:=c / 7) (b:=s) (by lia);have P:=cf (a:=c / 7) (b:=s) (by lia);obtain⟨at_,Z⟩:∃n:Nat,(n:Int)=c / 7 % (s:Int):=⟨(c / 7 % (s:Int)).toNat,by lia⟩
 refine⟨by decide,⟨by decide,by decide⟩,by lia,?_⟩;rw[<-Z]at P ⊢;simp only[qf,qc,pZ];walk_at"dl";refine⟨⟨by decide,by decide⟩,⟨by lia,by lia⟩,?_⟩;refine aP (λi S M'=>∃(x:c7) (r:Int) (b:Option D),M'=M/\x.length=i/\(∀q∈x.cps.toList,97<=q/\q<=122)/\S=[a7<|.int r,a7<|.int m,a7<|.str<|u7 "abcdefghijklmnopqrstuvwxyz",a7<|.int s,a7<|.int at_,a7<|.str x,b,a8,a8]) ?_ ?_ ⟨u7 "",_,_,rfl,by decide +kernel,(λq u=>by rw[show (u7 "").cps.toList=[] by decide +kernel]at u;cases u),rfl⟩;rintro S M' ⟨base,r,b,rfl,f,u,rfl⟩;rw[aY,Ld]at f;refine⟨trivial,?_⟩;have ab:=dW (a:=base);have v:at_<base.cps.toList.length:=by lia
 have T:atI base.cps.toList (at_:Int)=a7 base.cps.toList[at_]:=av<|z9 v;have w:=u _<|LZ v;simp only[pX];walk_at"dl";refine⟨ao (by lia),?_⟩;rw[T];generalize base.cps.toList[at_]=ch at w;obtain⟨E,t,ho⟩:=Dp w;refine⟨E,t,ho,?_⟩;simp only[pW];walk_at"dl";refine⟨⟨by lia,by lia⟩,?_⟩;have p:(LK base a8<|a7 (at_:Int)).length=at_:=by rw[dW,vC,Lc];lia
 have B:(LK base (a7<|(at_:Int)+1) a8).length=s-(at_+1):=by have O:=wO base (at_+1) (by lia);rw[show ((at_+1:Nat):Int)=(at_:Int)+1 by lia]at O;rw[dW,O,L5];lia
 refine fQ (λys acc S C=>∃(d:List c7) (a:Option D),acc=d.map .str/\(∀(j:Nat) z,d[j]?=a7 z->z.length=s/\z.cps.toList[at_]?=a7 (97+(E+j) % 26))/\d.length+ys.length=m/\ys=(fe 0 m).drop d.length/\C=M'/\S=[a,a7<|.str base,a7<|.int at_,a7<|.str<|u7 "abcdefghijklmnopqrstuvwxyz",a7<|.int E]) ?_ ?_ _ _ _ _ ⟨[],_,rfl,(λj z o=>by simp at o),by rw[aY,Ld];simp,by rw[Ld];rfl,rfl,rfl⟩;rintro acc S C ⟨d,a,rfl,l,hl,_,rfl,rfl⟩;rw[G0,Nat.add_zero]at hl;refine⟨trivial,?_⟩;have z7':∀z∈d,z.length=s:=λz o=>by obtain⟨j,L⟩:=LR o;exact(l j z L).1
 have z8:∀z∈d,z.length<=8:=λz o=>by have:=z7' z o;lia
 have znd:d.Nodup:=zV (by lia) l;simp only[pV];walk_at"dl";by_cases W:(1:Int)<m;rw[dT_ W];refine bC ⟨by decide,⟨aE,aE⟩,?_⟩;cases v4 (C++[MO.lst<|d.map .str]) w6 (.int<|r % 3) (.int 1) with
 |true =>
  match d,hl,z7',z8,znd with
  |z0::z1::zr,hl,z7',z8,znd =>
   have l0:=z7' z0 (by simp);refine bC ⟨_,ap,?_⟩;rw[C9,Nh];refine⟨?_,_,1,ak,?_,?_⟩;rw[show (u7 "b").length=1 by decide +kernel];exact ao (by lia);rw[E5,x3,E5];unfold L7;rw[p9<|by decide];simp;lia;rw[kX,C9,List.set_cons_succ,List.set_cons_zero];have lb:(z0++u7 "b").length=s+1:=by rw[cU,show (u7 "b").length=1 by decide +kernel,l0]
   refine oP (xs:=z0::(z0++u7 "b")::zr) N (by simpa using hl) (λx f=>?_) ?_ h;rcases A4.mp f with rfl|f;lia;rcases A4.mp f with rfl|f;lia;exact z8 x (by simp[f]);rw[La,La]at znd ⊢;refine⟨λf=>?_,λf=>?_,znd.2.2⟩;rcases A4.mp f with e|f;rw[<-e]at lb;lia;exact znd.1<|D0 _ f;have:=z7' _<|D0 _<|D0 _ f;lia
  | [z0],hl,_,_,_=>exact t4 hl<|by simp only[Ll];lia
  | [],hl,_,_,_=>exact t4 hl<|by simp only[G0];lia
 |false=>exact br<|oP N hl z8 znd h
 rw[dF_ W];exact br<|oP N hl z8 znd h;rintro y ys acc S C ⟨d,a,rfl,l,hl,Q,rfl,rfl⟩ K Y;have A:d.length<(fe 0 m).length:=by rw[E5]at hl;rw[aY];lia
 rw[Pu A]at Q;obtain⟨rfl,rfl⟩:=OZ Q;have V:(fe 0 m)[d.length]=.int (d.length:Int):=by have:=(bF (lo:=0) (n:=m) (i:=d.length) (x:=(fe 0 m)[d.length])).mp<|z9 A;rw[this.2];congr 1;lia
 rw[V];refine⟨trivial,?_⟩;rw[E5]at hl;walk_at"dl";obtain⟨H,J,_,U⟩:=wl (i:=((E:Int)+(d.length:Int)) % 26) (bP<|by decide) (cf<|by decide);refine⟨ao (by lia),by decide,o,?_⟩;rw[J];refine⟨by rw[gH,p];exact ao (by lia),ao (by lia),by rw[cU,gH,p,B];exact ao (by lia),by rw[x3];exact ay (by lia),Y _ _ _ ⟨d++[LK base a8 (a7 (at_:Int))++⟨#[H]⟩++LK base (a7<|(at_:Int)+1) a8],_,by simp,λj z k=>?_,by rw[D5,Ll];lia,by rw[D5,Ll],rfl,rfl⟩⟩;by_cases L:j<d.length;rw[Le L]at k;exact l j z k;obtain⟨rfl,rfl⟩:j=d.length/\z=LK base a8 (a7 (at_:Int))++⟨#[H]⟩++LK base (a7<|(at_:Int)+1) a8:=by
  have I:=(A5.mp k).1;rw[D5,Ll]at I;obtain rfl:j=d.length:=by lia
  rw[LU<|w5 _,MI]at k;exact⟨rfl,(C7 k).symm⟩
 refine⟨by rw[cU,cU,gH,p,B];lia,?_⟩;have st:=vC base at_;have lt:(base.cps.toList.take at_).length=at_:=by rw[Lc];lia
 rw[pp,pp,st,Ls,LU (by lia),lt,MI];show a7 H=_;rw[U];congr 2;rintro i y S M' Q ⟨x,r,b,rfl,f,u,rfl⟩ G X;obtain⟨hi,rfl⟩:=bF.mp Q;refine⟨trivial,?_⟩;simp only[pY];walk_at"dl";obtain⟨H,J,F⟩:=wl (i:=r % 26) (bP<|by decide) (cf<|by decide);refine⟨by decide,o,?_⟩;rw[J];refine⟨by rw[gH,f];exact ao (by lia),⟨by decide,by decide⟩,A7.now<|X _ _ ⟨x++⟨#[H]⟩,_,_,rfl,by rw[cU,gH,f],λq g=>?_,rfl⟩⟩;rw[pp]at g;rcases I9.mp g with g|g;exact u q g;have:q=H:=by simpa using g
 rw[this];exact F.1
theorem BI(T:Tops P w K mg base):x5 P w K mg base 1 "_law_names" tD iN:=x5.byD (N:=["_law_number","_law_many","_law_letters","_law_size","_law_at","_law_base","_law_j","_law_turned","_law_names_here"]) T.b T.f_names (by walk_at"sc") zf (by walk_at"dv") AT
def kg:A2:=λds M R=>∃(c:Int),ds=[.int c]/\∀ps a,HouseF ps a->R (az ps a) M
theorem zi:da kg tG:=by rintro ds M R ⟨c,rfl,_⟩;rfl
theorem Cq:F0 4 (az ps rs):=by refine .tup<|.cons (.tup<|jn.of λd h=>?_)<|.cons (.tup<|jn.of λd h=>?_) .nil;obtain⟨p,_,rfl⟩:=C1.mp h;exact .tup<|.cons (.str _)<|.cons (.int _) .nil;obtain⟨p,_,rfl⟩:=C1.mp h;refine .tup<|.cons (.str _)<|.cons (.tup<|jn.of λd h=>?_) .nil;obtain⟨q,_,rfl⟩:=C1.mp h;exact .str _
theorem at_two{xs ys:List D}(h:i<n)(l:xs.length=n):∃d,xs[i]?=a7 d/\d∈xs:=⟨xs[i]'(by lia),z9 (by lia),LZ _⟩
theorem zU{a b c d:Int}{k:Nat}(h:k<4)(f:sM 0 a)(e:sM 0 b)(g:sM 0 c)(i:sM 0 d):∃z:Int,atI [D.int a,.int b,.int c,.int d] (0+(k:Int))=a7 (.int z)/\sM 0 z:=by
 rw[NH]
 match k,h with
 | 0,_=>exact⟨a,av (j:=0) rfl,f⟩
 | 1,_=>exact⟨b,av (j:=1) rfl,e⟩
 | 2,_=>exact⟨c,av (j:=2) rfl,g⟩
 | 3,_=>exact⟨d,av (j:=3) rfl,i⟩
def ny:u9:=bd<|eP<|aa (v8 gh<|aa (ac 4) ah)<|aa (v8 gh<|aa (Lg 1 [9,5] (bz<|aa (v8 jN<|aa (ac 5) ah) ah) (af 0) pD<|eP<|aa (u5 v9 (ac 1)<|ac 0)<|aa (u5 v9 (ac 2)<|ac 0) ah) ah) ah
def fJ:u9:=aB (bg (v8 iN<|aa (u5 aM (ac 1)<|dC<|.int 262144)<|aa (v8 jN<|aa (ac 5) ah) ah) 9)<|ny
def kM:u9:=iM<|Mr cD (ac 5)<|aa (v8 gh<|aa (ac 8) ah) ah
def qp:u9:=aB (B6 (au<|u5 A9 (ac 8)<|gW ah) (bg (gW<|aa (u5 v9 (ac 3)<|u5 bY (ac 7)<|ac 2) ah) 8) aI)<|kM
def qq:u9:=aB (gj 1 [3,7] (bz<|aa (ac 2) ah) (af 0) (au<|u5 A9 (u5 bY (u5 aM (ac 2)<|u5 HM (dC<|.int 1)<|ac 0)<|dC<|.int 2)<|dC<|.int 1) (u5 v9 (ac 1)<|ac 0) 8)<|qp
def qr:u9:=aB (jk (bz<|aa (u5 aF (dC<|.int 1)<|u5 bY (ac 1)<|dC<|.int 4) ah) (af 6)<|aB (bg (u5 bY (u5 aM (ac 1)<|u5 v9 (gW<|aa (dC<|.int 4)<|aa (dC<|.int 64)<|aa (dC<|.int 1024)<|aa (dC<|.int 16384) ah)<|ac 6)<|dC<|.int 16) 7)<|qq)<|fJ
def kN:u9:=aB (bg (gW ah) 5)<|qr
def qt:u9:=aB (bg (v8 mq<|aa (u5 aM (ac 0)<|dC<|.int 5)<|aa (dC<|.int 2) ah) 1)<|kN
def qu:u9:=aB (gj 1 [3,1] (bz<|aa (ac 2) ah) (af 0) pD (eP<|aa (u5 v9 (ac 1)<|ac 0)<|aa (u5 aF (dC<|.int 1)<|u5 bY (u5 aM (ac 2)<|u5 v9 (gW<|aa (dC<|.int 4)<|aa (dC<|.int 12)<|aa (dC<|.int 36)<|aa (dC<|.int 108) ah)<|ac 0)<|dC<|.int 3) ah) 4)<|qt
def qw:u9:=aB (bg (v8 iN<|aa (u5 aM (ac 1)<|dC<|.int 324)<|aa (ac 2) ah) 3)<|qu
def qy:u9:=aB (bg (u5 aF (dC<|.int 1)<|u5 bY (ac 1)<|dC<|.int 4) 2)<|qw
def yf:u9:=aB (bg (v8 mq<|aa (ac 0)<|aa (dC<|.int 1) ah) 1)<|qy
theorem Cr{M B:v5}{R:DK}{k:Nat}{ps:List (c7×Int)}{s:List (List c7)}{ns:List c7}{u:Int}{G:Nat}{O P T V W X:Option D}(I:M <+: B)(F:am B G (ps.map cZ))(j:am B k (s.map λm=>.tup<|m.map .str))(H:∀m∈s,m.Sublist ns)(Y:ns.length<=4)(U:1<=s.length)(N:s.length<=4)(C:∀rs,1<=rs.length/\rs.length<=4->(rs.map (·.1)).Nodup->(∀r∈rs,r.2.Sublist ns)->HouseF ps rs)(h:∀ps rs,HouseF ps rs->R (az ps rs) M):fJ (EE M R) [O,a7<|.int u,P,T,a7<|.ref G,a7<|.ref k,V,W,X,a8] B:=by
 simp only[fJ];walk_at"dl";refine⟨⟨by decide,by decide⟩,_,j,?_⟩;rw[x3];refine⟨_,s.length,rfl,U,N,λxs xl Z x=>?_⟩;have p:M <+: B++[MO.lst<|xs.map .str]:=I.trans bA;have c:=F.more [MO.lst<|xs.map D.str];have l:=j.more [MO.lst<|xs.map D.str];have f:am (B++[MO.lst<|xs.map .str]) B.length (xs.map .str):=ap;generalize B++[MO.lst<|xs.map .str]=o at p c l f;generalize B.length=J at f;simp only[ny];walk_at"dl";refine⟨_,c,_,l,⟨by lia,by rw[x3];lia⟩,?_⟩;rw[x3,Ld];refine fQ (λys acc S e=>∃(rs:List (c7×List c7)) (a:Option D) (i:Nat),acc=rs.map mC/\rs.length=i/\(rs.map (·.1)=xs.take i/\∀r∈rs,r.2.Sublist ns)/\ys=(fe 0 s.length).drop i/\i<=s.length/\e=o/\S=[a,a7<|.ref J,a7<|.ref k]) ?_ ?_ _ _ _ _ ⟨[],_,0,rfl,rfl,⟨rfl,λ_ z=>nomatch z⟩,by simp,C4 _,rfl,rfl⟩;rintro acc S e ⟨rs,a,i,rfl,n,⟨g,L⟩,d,E,rfl,rfl⟩;have hi:i=s.length:=by have:=t9 Lz d;rw[G0,L5,aY]at this;lia
 refine⟨trivial,_,ap,ao (by lia),aO.keep (h ps rs<|C rs ⟨by lia,by lia⟩ (by rw[g];exact x.sublist<|Pg _ _) L) (cQ 4 _ Cq)<|p.trans bA⟩;rintro y ys acc S e ⟨rs,a,i,rfl,n,⟨g,L⟩,d,E,rfl,rfl⟩ K A;have hi:i<s.length:=by have:=t9 Lz d;rw[E5,L5,aY]at this;lia
 have Q:(fe 0 s.length)[i]?=a7 y/\ys=(fe 0 s.length).drop (i+1):=by
  have t:i<(fe 0 s.length).length:=by rw[aY];exact hi
  rw[Pu t]at d;injection d with h1 h2;exact⟨by rw[z9 t,h1],h2⟩
 obtain⟨_,rfl⟩:=bF.mp Q.1;refine⟨trivial,?_⟩;walk_at"dl";have w:atI (xs.map D.str) (0+(i:Int))=a7 (.str<|xs[i]'(by lia)):=by rw[NH];exact av<|by rw[D8,z9<|by lia];rfl
 have v:atI (s.map λm=>D.tup<|m.map .str) (0+(i:Int))=a7 (.tup<|(s[i]).map .str):=by rw[NH];exact av<|by rw[D8,z9 hi];rfl
 refine⟨_,f,?_⟩;rw[w];refine⟨_,l,?_⟩;rw[v];refine⟨ao (by lia),by rw[x3];exact ay (by lia),A _ _ _ ⟨rs++[(xs[i]'(by lia),s[i])],_,i+1,by simp[mC],by simp[n],⟨by rw[LC,g,L6,z9<|by lia];rfl,λq b=>?_⟩,Q.2,hi,rfl,rfl⟩⟩;rcases I9.mp b with b|b;exact L q b;rw[K4.mp b];exact H _<|LZ _
theorem Gc{M B:v5}{R:DK}{many:Nat}{ps:List (c7×Int)}{ns:List c7}{f:Int}{A C:Nat}{y0:Option D}(pB:M <+: B)(l3:am B A (ns.map .str))(l4:am B C (ps.map cZ))(nl:ns.length=many)(n1:1<=many)(n4:many<=4)(hf:∀rs,1<=rs.length/\rs.length<=4->(rs.map (·.1)).Nodup->(∀r∈rs,r.2.Sublist ns)->HouseF ps rs)(h:∀ps rs,HouseF ps rs->R (az ps rs) M):kN (EE M R) [y0,a7<|.int f,a7<|.int many,a7<|.ref A,a7<|.ref C,a8,a8,a8,a8,a8] B:=by
 have b3:=rB l3;have b4:=rB l4;simp only[kN,qr];walk_at"dl";have s0:=bP (a:=f) (b:=4) (by decide);have s1:=cf (a:=f) (b:=4) (by decide);refine⟨C4 _,by decide,⟨by lia,by lia⟩,?_⟩;obtain⟨rm,ab⟩:∃n:Nat,(n:Int)=1+f % 4:=⟨(1+f % 4).toNat,by lia⟩
 rw[<-ab,Ld];refine aP (λi S M'=>∃(v:List (List c7)) (a b d:Option D),v.length=i/\(∀m∈v,m.Sublist ns)/\M <+: M'/\am M' A (ns.map .str)/\am M' C (ps.map cZ)/\M'[B.length]?=a7 (.lst<|v.map λm=>.tup<|m.map .str)/\S=[y0,a7<|.int f,a7<|.int many,a7<|.ref A,a7<|.ref C,a7<|.ref B.length,a,b,d,a8]) ?_ ?_ ⟨[],_,_,_,rfl,(λ_ z=>nomatch z),pB.trans bA,l3.more _,l4.more _,ak,rfl⟩;rintro S M' ⟨v,a,b,d,ml,mm,pM,k3,k4,W,rfl⟩;rw[aY]at ml;exact⟨trivial,Cr pM k4 (.inl W) mm (by lia) (by lia) (by lia) hf h⟩;rintro i y S M' hy ⟨v,a,b,d,ml,mm,pM,k3,k4,W,rfl⟩ G hG;obtain⟨hi,rfl⟩:=bF.mp hy;have bM:=aW W;refine⟨trivial,?_⟩;walk_at"dl";obtain⟨z,ez,hz⟩:=zU (a:=4) (b:=64) (c:=1024) (d:=16384) (k:=i) (by lia) ⟨by decide,by decide⟩ ⟨by decide,by decide⟩ ⟨by decide,by decide⟩ ⟨by decide,by decide⟩;refine⟨ao (by lia),_,ap,?_⟩;rw[ez];refine⟨hz,by decide,?_⟩;have b0:=bP (a:=f / z) (b:=16) (by decide);generalize f / z % 16=s at b0;have T:M <+: M'++[MO.lst [D.int 4,D.int 64,D.int 1024,D.int 16384]]:=pM.trans bA;have q:=k3.more [MO.lst [D.int 4,D.int 64,D.int 1024,D.int 16384]];have P:=k4.more [MO.lst [D.int 4,D.int 64,D.int 1024,D.int 16384]];have H:=ae (a:=MO.lst [D.int 4,D.int 64,D.int 1024,D.int 16384]) W;generalize M'++[MO.lst [D.int 4,D.int 64,D.int 1024,D.int 16384]]=M1 at T q P H;simp only[qq];walk_at"dl";refine⟨⟨by lia,by lia⟩,?_⟩;have F:∀(xs:List c7) (V:Nat) (M2:v5),xs.Sublist ns->M <+: M2->am M2 A (ns.map .str)->am M2 C (ps.map cZ)->M2[B.length]?=a7 (.lst<|v.map λm=>.tup<|m.map .str)->am M2 V (xs.map .str) -> kM ⟨A7 (B++[MO.lst []]) G,aO M R,λS M'=>fJ (EE M R) S M',A7 (B++[MO.lst []]) G⟩ [y0,a7<|.int f,a7<|.int many,a7<|.ref A,a7<|.ref C,a7<|.ref B.length,a7<|.int<|0+(i:Int),a7<|.int s,a7<|.ref V,a8] M2:=λxs V M2 x4 p2 ai aj g al=>by simp only[kM];walk_at"dl";refine⟨⟨_,.inl g⟩,_,al,_,g,by rw[x3];exact ay (by lia),A7.now<|hG _ _ ⟨v++[xs],_,_,_,by simp[ml],λm J=>?_,?_,yZ (by lia) ai,yZ (by lia) aj,?_,rfl⟩⟩;rcases I9.mp J with J|J;exact mm m J;rw[K4.mp J];exact x4;obtain⟨L,rfl⟩:=pB;obtain⟨L2,rfl⟩:=p2;rw[Qw _ _<|by simp];exact Lu _ _;rw[dq g];simp
 rw[Ld];refine fQ (λys acc S M2=>∃(xs:List c7) (a:Option D) (X:Nat),acc=xs.map .str/\xs.Sublist (ns.take X)/\ys=(fe 0 many).drop X/\X<=many/\M2=M1/\S=[a,a7<|.ref A,a7<|.int s]) ?_ ?_ _ _ _ _ ⟨[],_,0,rfl,List.nil_sublist _,rfl,C4 _,rfl,rfl⟩;rintro acc S M2 ⟨xs,a2,X,rfl,U,_,_,rfl,rfl⟩;have U:=U.trans<|Pg _ _;refine⟨trivial,?_⟩;simp only[qp];walk_at"dl";have O:=q.more [MO.lst<|xs.map D.str];have u:=P.more [MO.lst<|xs.map D.str];have l:=ae (a:=MO.lst<|xs.map D.str) H;have w:M <+: M2++[MO.lst<|xs.map D.str]:=T.trans bA;have Y:am (M2++[MO.lst<|xs.map D.str]) M2.length (xs.map .str):=ap;generalize M2++[MO.lst<|xs.map D.str]=M3 at O u l w Y;generalize M2.length=V at Y;obtain⟨an,E⟩:=oO Y λx N=>by obtain⟨i,_,rfl⟩:=C1.mp N;exact ag
 refine⟨C4 _,an,?_⟩;rw[E];have t:=O.more [MO.lst []];cases (xs.map D.str).isEmpty with
 |true =>
  have Q:∃x:c7,x∈ns/\atI (ns.map D.str) (s % (many:Int))=a7 (.str x):=by obtain⟨d,hd,e⟩:=gu (xs:=ns.map D.str) (i:=s) (by rw[x3];lia);rw[x3,nl]at e;obtain⟨x,N,rfl⟩:=C1.mp hd;exact⟨x,N,e⟩
  obtain⟨x,N,Q⟩:=Q;refine bC ⟨by lia,_,t,?_⟩;rw[Q];refine⟨ao (by lia),F [x] _ _ (List.singleton_sublist.mpr N) ((w.trans bA).trans bA) (t.more _) ((u.more _).more _) (ae<|ae l) ap⟩
 |false=>exact br<|F xs V _ U (w.trans bA) t (u.more _) (ae l)<|Y.more _
 rintro y' ys acc S M2 ⟨xs,a2,j,rfl,U,o,jm,rfl,rfl⟩ K hK;have Z:j<many:=by have:=t9 Lz o;rw[E5,L5,aY]at this;lia
 have p:(fe 0 many)[j]?=a7 y'/\ys=(fe 0 many).drop (j+1):=by
  have I:j<(fe 0 many).length:=by rw[aY];exact Z
  rw[Pu I]at o;injection o with h1 h2;exact⟨by rw[z9 I,h1],h2⟩
 obtain⟨_,rfl⟩:=bF.mp p.1;have et:ns.take (j+1)=ns.take j++[ns[j]'(by lia)]:=by rw[L6,z9<|by lia];rfl
 have xl:xs.length<=4:=by have:=U.length_le;rw[Lc]at this;lia
 refine⟨trivial,?_⟩;walk_at"dl";have Q:atI (ns.map D.str) (0+(j:Int))=a7 (.str<|ns[j]'(by lia)):=by rw[NH];exact av<|by rw[D8,z9<|by lia];rfl
 have pw:sM s (1*2 ^ (0+(j:Int)).toNat):=by
  rw[NH,Ld];have:j=0\/j=1\/j=2\/j=3:=by lia
  rcases this with rfl|rfl|rfl|rfl<;>exact⟨by decide,by decide⟩
 refine⟨⟨by lia,by lia,by decide⟩,pw,by decide,⟨aE,aE⟩,?_⟩;split;refine⟨_,q,?_⟩;rw[Q];exact⟨by rw[x3];exact ay (by lia),hK _ _ _ ⟨xs++[_],_,j+1,by simp;rfl,by rw[et];exact U.append<|Pd _,p.2,Z,rfl,rfl⟩⟩;exact hK _ _ _ ⟨xs,_,j+1,rfl,by rw[et];exact U.trans<|List.sublist_append_left _ _,p.2,Z,rfl,rfl⟩
theorem AW:C8 kg 10 yf:=by
 rintro ds M R ⟨c,rfl,h⟩;simp only[yf];walk_at"dl";refine⟨c,1,rfl,⟨by decide,by decide⟩,λj=>?_⟩;simp only[qy];walk_at"dl";have O:=bP (a:=j) (b:=4) (by decide);have P:=cf (a:=j) (b:=4) (by decide);refine⟨by decide,?_⟩;obtain⟨many,x⟩:∃n:Nat,(n:Int)=1+j % 4:=⟨(1+j % 4).toNat,by lia⟩
 rw[<-x];simp only[qw];walk_at"dl";refine⟨⟨by decide,by decide⟩,_,many,rfl,by lia,by lia,λns r G o=>?_⟩;have l:am (M++[MO.lst<|ns.map .str]) M.length (ns.map .str):=ap;have C:M <+: M++[MO.lst<|ns.map D.str]:=bA;generalize M++[MO.lst<|ns.map .str]=B at l C;generalize M.length=H at l;simp only[qu];walk_at"dl";refine⟨⟨by lia,by lia⟩,?_⟩;rw[Ld];refine fQ (λys acc S m=>∃(ps:List (c7×Int)) (a:Option D) (i:Nat),acc=ps.map cZ/\ps.length=i/\ps.map (·.1)=ns.take i/\(∀p∈ps,(1<=p.2/\p.2<=3)/\p.1.length<=8)/\ys=(fe 0 many).drop i/\i<=many/\B <+: m/\S=[a,a7<|.ref H,a7<|.int j]) ?_ ?_ _ _ _ _ ⟨[],_,0,rfl,rfl,rfl,(λ_ z=>nomatch z),by simp,C4 _,List.prefix_refl _,rfl⟩;rintro acc S m ⟨ps,a,i,rfl,s,g,hp,f,F,pM,rfl⟩;have hi:i=many:=by have:=t9 Lz f;rw[G0,L5,aY]at this;lia
 refine⟨trivial,?_⟩;simp only[qt];walk_at"dl";refine⟨⟨by decide,by decide⟩,_,2,rfl,⟨by decide,by decide⟩,λJ=>?_⟩;exact Gc ((C.trans pM).trans bA) ((bQ pM l).more _) ap r (by lia) (by lia) (λN A I L=>⟨⟨by lia,by lia⟩,λp e=>(hp p e).1,λp e=>(hp p e).2,A,by rw[g];exact o.sublist<|Pg _ _,I,λq e=>by rw[g,hi,<-r,LO];exact L q e⟩) h;rintro y ys acc S m ⟨ps,a,i,rfl,s,g,hp,f,F,pM,rfl⟩ K w;have hi:i<many:=by have:=t9 Lz f;rw[E5,L5,aY]at this;lia
 have Q:(fe 0 many)[i]?=a7 y/\ys=(fe 0 many).drop (i+1):=by
  have t:i<(fe 0 many).length:=by rw[aY];exact hi
  rw[Pu t]at f;injection f with h1 h2;exact⟨by rw[z9 t,h1],h2⟩
 obtain⟨_,rfl⟩:=bF.mp Q.1;refine⟨trivial,?_⟩;walk_at"dl";have u:atI (ns.map D.str) (0+(i:Int))=a7 (.str<|ns[i]'(by lia)):=by rw[NH];exact av<|by rw[D8,z9<|by lia];rfl
 obtain⟨z,v,E⟩:=zU (a:=4) (b:=12) (c:=36) (d:=108) (k:=i) (by lia) ⟨by decide,by decide⟩ ⟨by decide,by decide⟩ ⟨by decide,by decide⟩ ⟨by decide,by decide⟩;refine⟨_,bQ pM l,?_⟩;rw[u];refine⟨ao (by lia),_,ap,?_⟩;rw[v];have Z:=bP (a:=j / z) (b:=3) (by decide);have T:=cf (a:=j / z) (b:=3) (by decide);refine⟨E,by decide,ao (by lia),by rw[x3];exact ay (by lia),w _ _ _ ⟨ps++[(ns[i]'(by lia),1+j / z % 3)],_,i+1,by simp[cZ],by simp[s],by rw[LC,g,L6,z9<|by lia];rfl,λp e=>?_,Q.2,hi,pM.trans bA,rfl⟩⟩;rcases I9.mp e with e|e;exact hp p e;rw[K4.mp e];exact⟨⟨by dsimp only;lia,by dsimp only;lia⟩,G _<|LZ _⟩
theorem BK(T:Tops P w K mg base):x5 P w K mg base 3 "_law_house" tG kg:=x5.byD (N:=["_law_cell","_law_number","_law_many","_law_names_here","_law_people","_law_rooms","_law_k","_law_bits","_law_members","_law_called"]) T.b T.f_house (by walk_at"sc") zi (by have:=Ff T;have:=BI T;walk_at"dv") AW
def kh:A2:=λds M R=>∃(ps:List (c7×Int)) (r:List D),ds=[.tup<|.tup (ps.map cZ)::r]/\Q1 ps/\R (.ref M.length) (M++[.lst<|aR ps])
theorem zj:da kh tH:=by rintro ds M R ⟨ps,r,rfl,_⟩;rfl
def qz:u9:=bd<|ac 1
def qA:u9:=aB (jk (bZ<|u5 v9 (ac 0)<|dC<|.int 0) (eD 2<|aA (af 2)<|aA (af 3) eE)<|bg (u5 aF (ac 1)<|Lg 1 [2] (bz<|aa (ac 3) ah) (af 0) pD<|eP<|aa (ac 1)<|aa (ac 0) ah) 1)<|qz
def yg:u9:=aB (bg (gW ah) 1)<|qA
theorem AX:C8 kh 4 yg:=by
 rintro ds M R ⟨ps,r,rfl,⟨m,d⟩,h⟩;simp only[yg,qA];walk_at"dl";refine⟨C4 _,λ_=>?_⟩;have l:∀qs:List (c7×Int),(∀p∈qs,p∈ps)->qs.length<=4->(aR qs).length<=12:=λqs h1 h2=>by have:=nN (ps:=qs) λp hp=>d p<|h1 p hp;lia
 refine eG (λys S M'=>∃qs s a b q L,ps=qs++s/\ys=s.map cZ/\M'=M++L/\M.length<=q/\M'[q]?=a7 (.lst<|aR qs)/\S=[a7<|.tup<|.tup (ps.map cZ)::r,a7<|.ref q,a,b]) ?_ ?_ _ _ _ ⟨[],ps,_,_,_,[.lst []],rfl,rfl,rfl,w5 _,ak,rfl⟩;rintro S M' ⟨qs,s,a,b,q,L,e,c,rfl,f,g,rfl⟩;have:s=[]:=by cases s<;>simp_all
 subst this;rw[Lb]at e;subst e;refine⟨trivial,?_⟩;simp only[qz];walk_at"dl";exact aO.lst h f g xq;rintro x xs S M' ⟨qs,s,a,b,q,L,e,c,rfl,f,g,rfl⟩ G i;cases s with
 |nil=>cases c
 |cons p s =>
  rw[C9]at c;injection c with e1 e2;subst e1;have hp:=d p (by rw[e];simp);refine⟨trivial,?_⟩;unfold cZ;walk_at"dl";refine⟨trivial,⟨by lia,by lia⟩,?_⟩;refine bV (λk=>.tup [.str p.1,k]) (λS=>∃a,S=[a,a7<|.str p.1]) trivial _ _ _ (λk n S j=>?_) ⟨_,rfl⟩ ?_ ?_;obtain⟨a,rfl⟩:=j;refine⟨[a7 k,a7<|.str p.1],⟨_,rfl⟩,λY D=>?_⟩;walk_at"dl";exact⟨ao (by lia),D⟩;simp only[G0,aY];exact ao (by lia);have y:ps.length=qs.length+(s.length+1):=by rw[e];simp
  have o:=l qs (λq c=>by rw[e];simp[c]) (by lia);have t:(bR p).length<=3:=by rw[gO];lia
  rw[K9];refine⟨aR qs,bR p,ae g,ak,ao (by lia),?_⟩;refine A7.now<|i _ _ ⟨qs++[p],s,_,_,_,L++[.lst<|bR p]++[.lst<|aR qs++bR p],by rw[e];simp,e2,by simp[bR],?_,?_,rfl⟩;simp only[D5,Ll];lia;have:aR (qs++[p])=aR qs++bR p:=by simp[aR]
  rw[this];exact ak
theorem BL(T:Tops P w K mg base):x5 P w K mg base 1 "_law_hands" tH kh:=x5.byD (N:=["_law_house_here","_law_hands_here","_law_name","_law_many"]) T.b T.f_hands (by walk_at"sc") zj (by walk_at"dv") AX
def fF:A2:=λds M R=>∃(c:Int) (q:Nat) (xs:List c7),ds=[.int c,.ref q]/\am M q (xs.map .str)/\1<=xs.length/\xs.length<=1000/\(∀x∈xs,x.length<=8)/\∀x:c7,R (.str x) M
theorem xg:da fF oH:=by rintro ds M R ⟨c,q,xs,rfl,_⟩;rfl
theorem at_any(h:1<=xs.length):∃x∈xs,atI xs (i % (xs.length:Int))=a7 x:=gu h
def mX:u9:=bd<|ac 4
def mY:u9:=bg (u5 aM (ac 0)<|dC<|.int 3) 0
def mZ:u9:=aB (jk (bz<|aa (u5 aF (dC<|.int 1)<|u5 bY (ac 0)<|dC<|.int 8) ah) (af 5)<|aB (bg (u5 aF (ac 4)<|u5 v9 (u5 aF (u5 aF (dC<|.str " !@")<|ac 2)<|dC<|.str "abzAZ09.~")<|u5 bY (u5 aM (ac 0)<|dC<|.int 8)<|u5 aF (dC<|.int 12)<|v8 jN<|aa (ac 2) ah) 4)<|mY)<|mX
def ng:u9:=aB (bg (u5 jM (dC<|.str "@")<|u5 bY (ac 3)<|dC<|.int 2) 4)<|mZ
def nh:u9:=aB (B6 (au<|u5 Mq (ac 3)<|dC<|.int 8) (bd<|u5 v9 (gW<|aa (dC<|.str "hi")<|aa (u5 aF (dC<|.str "@")<|ac 2)<|aa (u5 aF (u5 aF (dC<|.str "x @")<|ac 2)<|dC<|.str "!")<|aa (u5 aF (u5 aF (dC<|.str "@")<|ac 2)<|dC<|.str "b")<|aa (u5 aF (dC<|.str "no @ ")<|ac 2)<|aa (u5 aF (dC<|.str "Hi @A@")<|ac 2)<|aa (ac 2)<|aa (dC<|.str "?") ah)<|ac 3) aI)<|ng
def nj:u9:=aB (bg (u5 aM (ac 0)<|dC<|.int 48) 0)<|nh
def nq:u9:=aB (bg (u5 bY (u5 aM (ac 0)<|dC<|.int 4)<|dC<|.int 12) 3)<|nj
def uP:u9:=aB (bg (u5 v9 (ac 1)<|u5 bY (ac 0)<|v8 jN<|aa (ac 1) ah) 2)<|nq
theorem xF:C8 fF 6 uP:=by
 rintro ds M R ⟨c,q,xs,rfl,L,J,W,K,h⟩;simp only[uP];walk_at"dl";obtain⟨d,l,F⟩:=gu (xs:=xs.map D.str) (i:=c) (by rw[x3];exact J);obtain⟨z,n,rfl⟩:=C1.mp l;have z8:=K z n;refine⟨_,L,by rw[x3];lia,_,L,?_⟩;rw[F];simp only[nq,nj];walk_at"dl";have H:=bP (a:=c / 4) (b:=12) (by decide);have I:=cf (a:=c / 4) (b:=12) (by decide);refine⟨⟨by decide,by decide⟩,by decide,⟨by decide,by decide⟩,?_⟩;generalize c / 4 % 12=w at H I;generalize c / 48=r;simp only[nh];walk_at"dl";have o:(u7 "@").length=1:=by decide +kernel
 have s:(u7 "x @").length=3:=by decide +kernel
 have u:(u7 "!").length=1:=by decide +kernel
 have U:(u7 "b").length=1:=by decide +kernel
 have A:(u7 "no @ ").length=5:=by decide +kernel
 have v:(u7 "Hi @A@").length=6:=by decide +kernel
 by_cases g:w<8;rw[dT_ g];refine bC ⟨by rw[o];exact ao (by lia),by rw[s];exact ao (by lia),by rw[cU,s,u];exact ao (by lia),by rw[o];exact ao (by lia),by rw[cU,o,U];exact ao (by lia),by rw[A];exact ao (by lia),by rw[v];exact ao (by lia),ao (by lia),_,ap,?_⟩;have x:∃y:c7,atI [D.str<|u7 "hi",D.str<|u7 "@" ++ z,D.str<|u7 "x @" ++ z++u7 "!",D.str<|u7 "@" ++ z++u7 "b",D.str<|u7 "no @ " ++ z,D.str<|u7 "Hi @A@" ++ z,D.str z,D.str<|u7 "?"] w=a7 (.str y):=by
  have:w=0\/w=1\/w=2\/w=3\/w=4\/w=5\/w=6\/w=7:=by lia
  rcases this with rfl|rfl|rfl|rfl|rfl|rfl|rfl|rfl;exact⟨_,av (j:=0) rfl⟩;exact⟨_,av (j:=1) rfl⟩;exact⟨_,av (j:=2) rfl⟩;exact⟨_,av (j:=3) rfl⟩;exact⟨_,av (j:=4) rfl⟩;exact⟨_,av (j:=5) rfl⟩;exact⟨_,av (j:=6) rfl⟩;exact⟨_,av (j:=7) rfl⟩
 obtain⟨y,f⟩:=x;rw[f];exact aO.str (h _) bA;rw[dF_ g];refine br ?_;simp only[ng];walk_at"dl";have Z:=bP (a:=w) (b:=2) (by decide);have V:=cf (a:=w) (b:=2) (by decide);have p:(Txt.mul (u7 "@")<|w % 2).length<=1:=by
  have:w % 2=0\/w % 2=1:=by lia
  rcases this with e|e<;>rw[e]<;>decide +kernel
 refine⟨by decide,⟨Z,by lia,by rw[o];exact ao<|by lia⟩,?_⟩;generalize Txt.mul (u7 "@") (w % 2)=O at p;simp only[mZ];walk_at"dl";have P:=bP (a:=r) (b:=8) (by decide);have T:=cf (a:=r) (b:=8) (by decide);refine⟨by decide,⟨by lia,by lia⟩,?_⟩;refine aP (λi S M'=>∃(y:c7) (r':Int) (b:Option D),y.length<=1+i/\M'=M/\S=[a7<|.int r',a7<|.ref q,a7<|.str z,a7<|.int w,a7<|.str y,b]) ?_ ?_ ⟨O,_,_,by lia,rfl,rfl⟩;rintro S M' ⟨y,r',b,_,rfl,rfl⟩;refine⟨trivial,?_⟩;simp only[mX];walk_at"dl";exact aO.now<|h _;rintro i X S M' Q ⟨y,r',b,Y,rfl,rfl⟩ G k;obtain⟨hi,rfl⟩:=bF.mp Q;refine⟨trivial,?_⟩;simp only[mY];walk_at"dl";have t:(u7 " !@").length=3:=by decide +kernel
 have E:(u7 "abzAZ09.~").length=9:=by decide +kernel
 have C:(u7 " !@" ++ z++u7 "abzAZ09.~").length=12+z.length:=by rw[cU,cU,t,E];lia
 refine⟨by rw[t];exact ao (by lia),by rw[cU,t,E];exact ao (by lia),⟨by decide,by decide⟩,ao (by lia),by lia,ao (by lia),?_⟩;have B:=dW (a:=u7 " !@" ++ z++u7 "abzAZ09.~");obtain⟨N,_,m⟩:=gu (xs:=(u7 " !@" ++ z++u7 "abzAZ09.~").cps.toList) (i:=r' / 8) (by lia);rw[<-B,C,show (((12+z.length:Nat)):Int)=12+(z.length:Int) by lia]at m;rw[m];exact⟨by rw[gH];exact ao (by lia),⟨by decide,by decide⟩,A7.now<|k _ _ ⟨_,_,_,by rw[cU,gH];lia,rfl,rfl⟩⟩
theorem yR(T:Tops P w K mg base):x5 P w K mg base 1 "_law_saying" oH fF:=x5.byD (N:=["_law_number","_law_names_here","_law_name","_law_way","_law_saying_here","_law_k"]) T.b T.f_saying (by walk_at"sc") xg (by walk_at"dv") xF
def NB(s:List D):Prop:=∀x∈s,∃(t:Int) (z:c7) (k:Int),x=.tup [.int t,.tup [.str z,.int k]]
def mn:A2:=λds M R=>∃(c:Int) (p q:Nat) (s hs:List D),ds=[.int c,.ref p,.ref q]/\am M p s/\NB s/\s.length<=1000/\am M q hs/\(∀x∈hs,Hd x)/\1<=hs.length/\hs.length<=1000/\∀(t:Int) (z:c7) (k:Int),R (.tup [.int t,.tup [.str z,.int k]]) M
theorem BY:da mn yM:=by rintro ds M R ⟨c,p,q,s,hs,rfl,_⟩;rfl
theorem qF:E4 n (.tup [.int t,.tup [.str z,.int k]]):=cQ 2 _ rfl
def oh:u9:=bd<|u5 v9 (ac 1)<|u5 GW (u5 GW (v8 jN<|aa (ac 1) ah)<|dC<|.int 1)<|u5 bY (u5 aM (ac 0)<|dC<|.int 8)<|v8 jN<|aa (ac 1) ah
def Du:u9:=aB (B6 (MD (au<|u5 A9 (ac 1)<|gW ah)<|au<|u5 A9 (u5 bY (ac 0)<|dC<|.int 8)<|dC<|.int 7) (bd<|eP<|aa (u5 aF (dC<|.int 1)<|u5 bY (u5 aM (ac 0)<|dC<|.int 8)<|dC<|.int 50)<|aa (u5 v9 (ac 2)<|u5 bY (u5 aM (ac 0)<|dC<|.int 400)<|v8 jN<|aa (ac 2) ah) ah) aI)<|oh
theorem Bi(C:M <+: B)(a:am B q hs)(e:∀x∈hs,Hd x)(h1:1<=hs.length)(g:hs.length<=1000)(h:∀(t:Int) (z:c7) (k:Int),R (.tup [.int t,.tup [.str z,.int k]]) M):(eP<|aa (u5 aF (dC<|.int 1)<|u5 bY (u5 aM (ac 0)<|dC<|.int 8)<|dC<|.int 50)<|aa (u5 v9 (ac 2)<|u5 bY (u5 aM (ac 0)<|dC<|.int 400)<|v8 jN<|aa (ac 2) ah) ah) [a7<|.int c,y1,a7<|.ref q] B (aO M R):=by walk_at"dl";obtain⟨d,b,F⟩:=gu (xs:=hs) (i:=c / 400) h1;obtain⟨z,k,rfl⟩:=e d b;refine⟨⟨by decide,by decide⟩,by decide,⟨by decide,by decide⟩,_,a,by lia,_,a,?_⟩;rw[F];exact⟨ao (by lia),aO.keep (h _ _ _) qF C⟩
theorem El:C8 mn 3 Du:=by
 rintro ds M R ⟨c,p,q,s,hs,rfl,hp,f,D,v,r,h1,u,h⟩;have e:Du=aB (B6 (MD (au<|u5 A9 (ac 1)<|gW ah)<|au<|u5 A9 (u5 bY (ac 0)<|dC<|.int 8)<|dC<|.int 7) (bd<|eP<|aa (u5 aF (dC<|.int 1)<|u5 bY (u5 aM (ac 0)<|dC<|.int 8)<|dC<|.int 50)<|aa (u5 v9 (ac 2)<|u5 bY (u5 aM (ac 0)<|dC<|.int 400)<|v8 jN<|aa (ac 2) ah) ah) aI) oh:=rfl;have n:=Bi (M:=M) (B:=M++[MO.lst []]) (R:=R) (c:=c) (q:=q) (hs:=hs) (y1:=a7<|.ref p) bA (v.more _) r h1 u h;rw[e];generalize (eP<|aa (u5 aF (dC<|.int 1)<|u5 bY (u5 aM (ac 0)<|dC<|.int 8)<|dC<|.int 50)<|aa (u5 v9 (ac 2)<|u5 bY (u5 aM (ac 0)<|dC<|.int 400)<|v8 jN<|aa (ac 2) ah) ah)=tn at n;walk_at"dl";obtain⟨o,l⟩:=oO hp λx y=>by obtain⟨t,z,k,rfl⟩:=f x y;rfl
 refine⟨C4 _,o,?_⟩;rw[l];cases w:s.isEmpty with
 |true=>exact bC n
 |false =>
  refine br ⟨by decide,⟨aE,aE⟩,?_⟩;cases v4 (M++[MO.lst []]) w6 (.int<|c % 8) (.int 7) with
  |true=>exact bC n
  |false =>
   refine br ?_;have C:1<=s.length:=by cases s<;>simp_all
   simp only[oh];walk_at"dl";have d:=hp.more [MO.lst []];have A:=bP (a:=c / 8) (b:=s.length) (by lia);have U:=cf (a:=c / 8) (b:=s.length) (by lia);refine⟨_,d,⟨by decide,by decide⟩,_,d,by lia,_,d,?_⟩;obtain⟨j,L,g,_⟩:=AA (xs:=s) (i:=(s.length:Int)-1-c / 8 % (s.length:Int)) (by lia) (by lia);rw[g];obtain⟨t,z,k,m⟩:=f _<|LZ L;dsimp only;rw[m];exact aO.keep (h _ _ _) qF bA
theorem yQ(T:Tops P w K mg base):x5 P w K mg base 1 "_law_told" yM mn:=x5.byD (N:=["_law_number","_law_says","_law_hands_here"]) T.b T.f_told (by walk_at"sc") BY (by walk_at"dv") El
def fE:A2:=λds M R=>∃(c:Int) (q n:Nat) (hs:List D) (t:List (D×D)),ds=[.int c,.ref q,.ref n]/\am M q hs/\(∀x∈hs,Hd x)/\hs.Nodup/\hs.length<=12/\M[n]?=a7 (.dkt t)/\(∀x∈hs,∃i:Int,aH t x=a7 (.int i))/\∀vs:List D,jn 3 vs->VecK vs->R (.tup vs) M
theorem xf:da fE oG:=by rintro ds M R ⟨c,q,n,hs,t,rfl,_⟩;rfl
theorem jV{k:Nat}{vs:List (D×Int)}(h:∀p∈vs,Hd p.1):jn (k+2) (vs.map λp=>D.tup [p.1,.int p.2]):=jn.of λd a=>by obtain⟨p,hp,rfl⟩:=C1.mp a;exact .tup<|.cons (Cz<|h p hp)<|.cons (.int _) .nil
def mQ:u9:=bd<|v8 gh<|aa (ac 3) ah
def mR:u9:=bg (u5 aM (ac 0)<|dC<|.int 5) 0
def mS:u9:=aB (jk (bZ<|ac 1) (af 4)<|aB (B6 (au<|u5 A9 (u5 bY (ac 0)<|dC<|.int 2)<|dC<|.int 1) (iM<|Mr cD (ac 3)<|aa (eP<|aa (ac 4)<|aa (u5 aF (dC<|.int 1)<|u5 bY (u5 aM (ac 0)<|dC<|.int 2)<|dC<|.int 6) ah) ah) aI)<|mR)<|mQ
def mT:u9:=aB (bg (gW ah) 3)<|mS
def mU:u9:=aB (bg (u5 aM (ac 0)<|dC<|.int 2) 0)<|mT
def uO:u9:=aB (B6 (au<|u5 A9 (u5 bY (ac 0)<|dC<|.int 2)<|dC<|.int 0) (bd<|v8 gh<|aa (Lg 1 [2] (bZ<|ac 1) (af 0) (au<|u5 MW (eQ (ac 1)<|ac 0)<|dC<|.int 0)<|eP<|aa (ac 0)<|aa (eQ (ac 1)<|ac 0) ah) ah) aI)<|mU
theorem xE:C8 fE 5 uO:=by
 rintro ds M R ⟨c,q,n,hs,t,rfl,b,g,d,u,j,o,h⟩;simp only[uO];walk_at"dl";refine⟨by decide,⟨aE,aE⟩,?_⟩;cases v4 M w6 (.int<|c % 2) (.int 0) with
 |true=>refine bC ⟨_,b,λ_=>?_⟩;refine fQ (λys acc S M'=>∃(vs:List (D×Int)) (a:Option D),acc=vs.map (λp=>.tup [p.1,.int p.2])/\(∀p∈vs,Hd p.1)/\vs.length+ys.length<=hs.length/\(∀y∈ys,y∈hs)/\(vs.map (·.1)++ys).Sublist hs/\M'=M/\S=[a,a7<|.ref n]) ?_ ?_ _ _ _ _ ⟨[],_,rfl,(λ_ z=>nomatch z),by simp,λ_ z=>z,Pd _,rfl,rfl⟩;rintro acc S M' ⟨vs,a,rfl,v,l,_,U,rfl,rfl⟩;exact⟨b,_,ap,aO.keep (h _ (jV v) ⟨vs,rfl,v,by simp at l;lia,by rw[Lb]at U;exact U.nodup d⟩) (cQ 4 _<|.tup<|jV v) bA⟩;rintro y ys acc S M' ⟨vs,a,rfl,v,l,Q,U,rfl,rfl⟩ K B;refine⟨b,?_⟩;obtain⟨i,hi⟩:=o y (Q y<|by simp);obtain⟨z,k,rfl⟩:=g y (Q y<|by simp);rw[E5]at l;walk_at"dl";refine⟨t,_,j,rfl,hi,?_⟩;walk_at"dl";split;refine⟨t,_,j,rfl,hi,ao (by lia),by rw[x3];exact ay (by lia),B _ _ _ ⟨vs++[(.tup [.str z,.int k],i)],_,by simp,λp hp=>?_,by rw[D5,Ll];lia,λX h'=>Q X<|D0 _ h',by rw[LC,Ls];exact U,rfl,rfl⟩⟩;rcases I9.mp hp with hp|hp;exact v p hp;rw[K4.mp hp];exact⟨_,_,rfl⟩;exact B _ _ _ ⟨vs,_,rfl,v,by lia,λX h'=>Q X<|D0 _ h',((Pd _).append<|List.sublist_cons_self _ _).trans U,rfl,rfl⟩
 |false =>
  refine br ?_;simp only[mU,mT,mS];walk_at"dl";refine⟨⟨by decide,by decide⟩,C4 _,_,b.more _,λ_=>?_⟩;refine aP (λi S M'=>∃(vs:List (D×Int)) (r:Int) (a:Option D),vs.length<=i/\(∀p∈vs,Hd p.1)/\(vs.map (·.1)).Sublist (hs.take i)/\M'=M++MO.lst (vs.map λp=>.tup [p.1,.int p.2])::[]/\S=[a7<|.int r,a7<|.ref q,a7<|.ref n,a7<|.ref M.length,a]) ?_ ?_ ⟨[],_,_,w5 _,(λ_ z=>nomatch z),Pd _,rfl,rfl⟩;rintro S M' ⟨vs,r,a,l,v,U,rfl,rfl⟩;rw[LO]at U;refine⟨b.more _,?_⟩;simp only[mQ];walk_at"dl";exact⟨_,.inl bT,aO.keep (h _ (jV v) ⟨vs,rfl,v,by lia,U.nodup d⟩) (cQ 4 _<|.tup<|jV v) EN⟩;rintro i y S M' Q ⟨vs,r,a,l,v,U,rfl,rfl⟩ G e;have m:hs.take (i+1)=hs.take i++[y]:=by rw[L6,Q];rfl
  rw[m]at e;have s:=(A5.mp Q).1;have f:=g y<|J7 Q;refine⟨b.more _,?_⟩;simp only[mR];walk_at"dl";refine⟨by decide,⟨aE,aE⟩,?_⟩;split;refine⟨⟨_,.inl bT⟩,⟨by decide,by decide⟩,by decide,ao (by lia),_,bT,by rw[x3];exact ay (by lia),⟨by decide,by decide⟩,A7.now<|e _ _ ⟨vs++[(y,1+r / 2 % 6)],_,_,by rw[D5,Ll];lia,λp hp=>?_,by rw[LC];exact U.append<|Pd _,by rw[kX];simp,rfl⟩⟩;rcases I9.mp hp with hp|hp;exact v p hp;rw[K4.mp hp];exact f;exact⟨⟨by decide,by decide⟩,A7.now<|e _ _ ⟨vs,_,_,by lia,v,U.trans<|List.sublist_append_left _ _,rfl,rfl⟩⟩
theorem yP(T:Tops P w K mg base):x5 P w K mg base 1 "_law_vector" oG fE:=x5.byD (N:=["_law_number","_law_hands_here","_law_counts","_law_found","_law_hand"]) T.b T.f_vector (by walk_at"sc") xf (by walk_at"dv") xE
def pq:A2:=λds M R=>∃(c:Int) (ps:List (c7×Int)) (a:List (c7×List c7)) (p q:Nat) (s hs:List D),ds=[.int c,az ps a,.ref p,.ref q]/\HouseF ps a/\am M p s/\NB s/\s.length<=1000/\am M q hs/\(∀x∈hs,Hd x)/\1<=hs.length/\hs.length<=1000/\∀w:D,jI w->R w M
theorem BX:da pq yL:=by rintro ds M R ⟨c,ps,a,p,q,s,hs,rfl,_⟩;rfl
def uM:u9:=bd<|eP<|aa (dC<|.str "under")<|aa (v8 mn<|aa (u5 aM (ac 0)<|dC<|.int 3)<|aa (ac 2)<|aa (ac 3) ah) ah
def uN:u9:=aB (B6 (au<|u5 A9 (u5 bY (ac 0)<|dC<|.int 3)<|dC<|.int 1) (bd<|eP<|aa (dC<|.str "person")<|aa (u5 v9 (u5 v9 (u5 v9 (ac 1)<|dC<|.int 0)<|u5 bY (u5 aM (ac 0)<|dC<|.int 3)<|v8 jN<|aa (u5 v9 (ac 1)<|dC<|.int 0) ah)<|dC<|.int 0) ah) aI)<|uM
def Dt:u9:=aB (B6 (au<|u5 A9 (u5 bY (ac 0)<|dC<|.int 3)<|dC<|.int 0) (bd<|eP<|aa (dC<|.str "room")<|aa (u5 v9 (u5 v9 (u5 v9 (ac 1)<|dC<|.int 1)<|u5 bY (u5 aM (ac 0)<|dC<|.int 3)<|v8 jN<|aa (u5 v9 (ac 1)<|dC<|.int 1) ah)<|dC<|.int 0) ah) aI)<|uN
theorem Ek:C8 pq 4 Dt:=by
 rintro ds M R ⟨c,ps,j,p,q,s,hs,rfl,f,hp,o,m,e,b,h1,g,h⟩;simp only[Dt,az];walk_at"dl";refine⟨by decide,⟨aE,aE⟩,?_⟩;cases v4 M w6 (.int<|c % 3) (.int 0) with
 |true=>obtain⟨d,a,F⟩:=gu (xs:=j.map mC) (i:=c / 3) (by rw[x3];exact f.rl.1);obtain⟨r,_,rfl⟩:=C1.mp a;refine bC ⟨⟨by decide,by decide⟩,by rw[x3];have:=f.rl.1;lia,?_⟩;rw[F];unfold mC;walk_at"dl";exact⟨ao (by lia),aO.now<|h _<|.inl ⟨_,rfl⟩⟩
 |false =>
  refine br ?_;simp only[uN];walk_at"dl";refine⟨by decide,⟨aE,aE⟩,?_⟩;cases v4 M w6 (.int<|c % 3) (.int 1) with
  |true=>obtain⟨d,a,F⟩:=gu (xs:=ps.map cZ) (i:=c / 3) (by rw[x3];exact f.len.1);obtain⟨r,_,rfl⟩:=C1.mp a;refine bC ⟨⟨by decide,by decide⟩,by rw[x3];have:=f.len.1;lia,?_⟩;rw[F];unfold cZ;walk_at"dl";exact⟨ao (by lia),aO.now<|h _<|.inr<|.inl ⟨_,rfl⟩⟩
  |false=>refine br ?_;simp only[uM];walk_at"dl";exact⟨⟨by decide,by decide⟩,_,p,q,s,hs,rfl,hp,o,m,e,b,h1,g,λt z k=>⟨ao (by lia),aO.now<|h _<|.inr<|.inr ⟨_,_,_,rfl⟩⟩⟩
theorem Fd(T:Tops P w K mg base):x5 P w K mg base 2 "_law_what" yL pq:=x5.byD (N:=["_law_number","_law_house_here","_law_says","_law_hands_here"]) T.b T.f_what (by walk_at"sc") BX (by have:=yQ T;walk_at"dv") Ek
def wn:A2:=λds M R=>∃(c:Int) (ps:List (c7×Int)) (a:List (c7×List c7)) (p q n:Nat) (s hs:List D) (t:List (D×D)),ds=[.int c,az ps a,.ref p,.ref q,.ref n]/\HouseF ps a/\am M p s/\NB s/\s.length<=1000/\am M q hs/\(∀x∈hs,Hd x)/\1<=hs.length/\hs.length<=12/\hs.Nodup/\M[n]?=a7 (.dkt t)/\(∀x∈hs,∃i:Int,aH t x=a7 (.int i)) /\∀(x:c7) (ds:List D),jn 4 ds->ActK a x ds->R (.tup<|.str x::ds) M
theorem Fy:da wn Fa:=by rintro ds M R ⟨c,ps,a,p,q,n,s,hs,t,rfl,_⟩;rfl
theorem Bk:F0 (n+2) (.tup [.int t,.tup [.str z,.int k]]):=.tup<|.cons (.int _)<|.cons (.tup<|.cons (.str _)<|.cons (.int _) .nil) .nil
theorem jn.up:∀{ds:List D},jn n ds->jn (n+1) ds:=by
 have c:∀(n:Nat) (d:D),F0 n d->F0 (n+1) d:=by
  intro n;induction n with
  |zero=>intro d h;cases d<;>first|rfl|cases h
  |succ n f =>
   intro d h;cases d with
   |tup xs=>exact F0.tup<|jn.of λx e=>f x<|E7.mp h x e
   |ref i=>cases h
   |ty t=>cases h
   |non=>rfl
   |bl b=>rfl
   |int i=>rfl
   |str x=>rfl
 intro ds h;exact jn.of λd a=>c n d<|E7.mp h d a
def vn:u9:=bd<|u5 v9 (gW<|aa (eP<|aa (dC<|.str "rung")<|aa (ac 8) ah)<|aa (eP<|aa (dC<|.str "read")<|aa (ac 7)<|aa (v8 fE<|aa (u5 aM (ac 0)<|dC<|.int 4)<|aa (ac 3)<|aa (ac 4) ah) ah) ah)<|u5 bY (u5 aM (ac 0)<|dC<|.int 3)<|dC<|.int 2
def vp:u9:=aB (B6 (au<|u5 A9 (ac 5)<|dC<|.int 14) (bd<|eP<|aa (dC<|.str "hush")<|aa (v8 pq<|aa (u5 aM (ac 0)<|dC<|.int 3)<|aa (ac 1)<|aa (ac 2)<|aa (ac 3) ah)<|aa (u5 MW (u5 bY (ac 0)<|dC<|.int 3)<|dC<|.int 0) ah) aI)<|vn
def vq:u9:=aB (B6 (au<|u5 A9 (ac 5)<|dC<|.int 13) (bd<|eP<|aa (dC<|.str "seen")<|aa (ac 8) ah) aI)<|vp
def vt:u9:=aB (B6 (au<|u5 A9 (ac 5)<|dC<|.int 12) (bd<|eP<|aa (dC<|.str "read")<|aa (ac 7)<|aa (v8 fE<|aa (u5 aM (ac 0)<|dC<|.int 4)<|aa (ac 3)<|aa (ac 4) ah) ah) aI)<|vq
def vA:u9:=bd<|eP<|aa (dC<|.str "like")<|aa (ac 8)<|aa (u5 v9 (ac 10)<|u5 bY (u5 aM (ac 0)<|dC<|.int 2000)<|v8 jN<|aa (ac 10) ah)<|aa (u5 MW (u5 bY (ac 0)<|dC<|.int 4)<|dC<|.int 0) ah
def yh:u9:=aB (B6 (au<|u5 Mq (ac 5)<|dC<|.int 12) (aB (bg (u5 aF (ac 6)<|gW<|aa (dC<|.str "good") ah) 10)<|vA) aI)<|vt
def yi:u9:=aB (B6 (au<|u5 A9 (ac 5)<|dC<|.int 8) (bd<|eP<|aa (dC<|.str "back")<|aa (ac 8) ah) aI)<|yh
def yj:u9:=aB (B6 (au<|u5 Mq (ac 5)<|dC<|.int 8) (bd<|eP<|aa (dC<|.str "change")<|aa (ac 8)<|aa (v8 fF<|aa (u5 aM (ac 0)<|dC<|.int 12)<|aa (ac 6) ah) ah) aI)<|yi
def yk:u9:=bd<|eP<|aa (dC<|.str "say")<|aa (ac 7)<|aa (ac 9)<|aa (v8 fF<|aa (u5 aM (ac 0)<|dC<|.int 12)<|aa (ac 6) ah) ah
def sY:u9:=aB (B6 (au<|u5 Mq (ac 5)<|dC<|.int 6) (aB (bg (u5 v9 (gW<|aa (dC .non)<|aa (ac 8)<|aa (ac 8) ah)<|u5 bY (u5 aM (ac 0)<|dC<|.int 4)<|dC<|.int 3) 9)<|yk) aI)<|yj
def ym:u9:=aB (bg (v8 mn<|aa (u5 aM (ac 0)<|dC<|.int 4)<|aa (ac 2)<|aa (ac 3) ah) 8)<|sY
def yn:u9:=aB (bg (u5 v9 (u5 v9 (u5 v9 (ac 1)<|dC<|.int 1)<|u5 bY (ac 0)<|v8 jN<|aa (u5 v9 (ac 1)<|dC<|.int 1) ah)<|dC<|.int 0) 7)<|ym
def yo:u9:=aB (gj 2 [] (bZ<|u5 v9 (ac 1)<|dC<|.int 0) (eD 2<|aA (af 0)<|aA (af 1) eE) pD (ac 0) 6)<|yn
def yp:u9:=aB (bg (u5 aM (ac 0)<|dC<|.int 16) 0)<|yo
def Ho:u9:=aB (bg (u5 bY (ac 0)<|dC<|.int 16) 5)<|yp
theorem fB(C:M <+: B)(h:∀(x:c7) (ds:List D),jn 4 ds->ActK rs x ds->R (.tup<|.str x::ds) M)(p:jn 4 ds)(a:ActK rs x ds):aO M R (.tup<|.str x::ds) B:=aO.keep (h x ds p a) (cQ 5 _<|.tup<|.cons (.str _) p) C
theorem act_5{M B:v5}{R:DK}{c e:Int}{ps:List (c7×Int)}{rs:List (c7×List c7)}{p q n E:Nat}{s hs:List D}{f:List (D×D)}{m:c7}{t:Int}{z:c7}{k:Int}{ns:List c7}(C:M <+: B)(hf:HouseF ps rs)(hp:am B p s)(so:NB s)(sl:s.length<=1000)(H:am B q hs)(G:∀x∈hs,Hd x)(h1:1<=hs.length)(N:hs.length<=12)(l:hs.Nodup)(O:B[n]?=a7 (.dkt f))(L:∀x∈hs,∃i:Int,aH f x=a7 (.int i))(F:B[E]?=a7 (.lst<|ns.map .str))(T:1<=ns.length)(n4:ns.length<=4)(U:∀x∈ns,x.length<=8)(I:m∈rs.map (·.1))(h:∀(x:c7) (ds:List D),jn 4 ds->ActK rs x ds->R (.tup<|.str x::ds) M):sY (EE M R) [a7<|.int c,a7<|az ps rs,a7<|.ref p,a7<|.ref q,a7<|.ref n,a7<|.int e,a7<|.ref E,a7<|.str m,a7<|.tup [.int t,.tup [.str z,.int k]],a8,a8] B:=by
 have sp:∀{j:Nat},F0 (j+2) (.tup [.int t,.tup [.str z,.int k]]):=Bk;have S:St (.tup [.int t,.tup [.str z,.int k]]):=⟨_,_,_,rfl⟩
 generalize hS:D.tup [.int t,.tup [.str z,.int k]]=V at sp S;simp only[sY];walk_at"dl";by_cases Q:e<6;rw[dT_ Q];refine bC ?_;have Z:=bP (a:=c / 4) (b:=3) (by decide);have K:=cf (a:=c / 4) (b:=3) (by decide);refine⟨ao (by lia),⟨by decide,by decide⟩,by decide,_,ap,?_⟩;obtain⟨u,X,pu,hu⟩:∃u,atI [D.non,V,V] (c / 4 % 3)=a7 u/\F0 4 u/\(u=.non\/St u):=by
  generalize c / 4 % 3=v at Z K;have:v=0\/v=1\/v=2:=by lia
  rcases this with rfl|rfl|rfl;exact⟨_,av (j:=0) rfl,.non,.inl rfl⟩;exact⟨_,av (j:=1) rfl,sp,.inr S⟩;exact⟨_,av (j:=2) rfl,sp,.inr S⟩
 rw[X];simp only[yk];walk_at"dl";exact⟨⟨by decide,by decide⟩,_,E,ns,rfl,.inl<|ae F,T,by lia,U,λx=>⟨ao (by lia),fB (C.trans bA) h (.cons (.str _)<|.cons pu<|.cons (.str _) .nil)<|.mkSay I hu⟩⟩;rw[dF_ Q];refine br ?_;simp only[yj];walk_at"dl";by_cases Y:e<8;rw[dT_ Y];exact bC ⟨⟨by decide,by decide⟩,_,E,ns,rfl,.inl F,T,by lia,U,λx=>⟨ao (by lia),fB C h (.cons sp<|.cons (.str _) .nil)<|.mkChange S⟩⟩;rw[dF_ Y];refine br ?_;simp only[yi];walk_at"dl";refine⟨⟨aE,aE⟩,?_⟩;split;exact⟨ao (by lia),fB C h (.cons sp .nil)<|.mkBack S⟩;simp only[yh];walk_at"dl";by_cases o:e<12;rw[dT_ o];have J:(ns.map D.str++[D.str<|u7 "good"]).length=ns.length+1:=by simp
 refine bC ⟨ao (by lia),_,_,ae F,ak,by rw[<-D5,J];exact ao (by lia),?_⟩;simp only[vA];walk_at"dl";obtain⟨d,g,W⟩:=gu (xs:=ns.map D.str++[D.str<|u7 "good"]) (i:=c / 2000) (by lia);obtain⟨y,rfl⟩:∃y:c7,d=.str y:=by rcases I9.mp g with g|g;obtain⟨y,_,rfl⟩:=C1.mp g;exact⟨y,rfl⟩;exact⟨_,K4.mp g⟩
 refine⟨⟨by decide,by decide⟩,_,ap,by lia,_,ap,?_⟩;rw[W];exact⟨by decide,ao (by lia),fB ((C.trans bA).trans bA) h (.cons sp<|.cons (.str _)<|.cons (.bl _) .nil)<|.mkLike S⟩;rw[dF_ o];refine br ?_;simp only[vt];walk_at"dl";refine⟨⟨aE,aE⟩,?_⟩;have r:∀{vs:List D}{B':v5},M <+: B'->jn 3 vs->VecK vs->aO M R (.tup [.str<|u7 "read",.str m,.tup vs]) B':=λpb pv A=>fB pb h (.cons (.str _)<|.cons (.tup pv) .nil)<|.mkRead A;split;exact⟨⟨by decide,by decide⟩,_,q,n,hs,f,rfl,H,G,l,N,O,L,λvs pv A=>⟨ao (by lia),r C pv A⟩⟩;simp only[vq];walk_at"dl";refine⟨⟨aE,aE⟩,?_⟩;split;exact⟨ao (by lia),fB C h (.cons sp .nil)<|.mkSeen S⟩;simp only[vp];walk_at"dl";refine⟨⟨aE,aE⟩,?_⟩;split;exact⟨⟨by decide,by decide⟩,_,ps,rs,p,q,s,hs,rfl,hf,hp,so,sl,H,G,h1,by lia,λw P=>⟨by decide,ao (by lia),fB C h (.cons P.pl4<|.cons (.bl _) .nil)<|.mkHush P⟩⟩;simp only[vn];walk_at"dl";have Z:=bP (a:=c / 3) (b:=2) (by decide);have K:=cf (a:=c / 3) (b:=2) (by decide);refine⟨ao (by lia),⟨by decide,by decide⟩,_,q,n,hs,f,rfl,H,G,l,N,O,L,λvs pv A=>⟨ao (by lia),ao (by lia),⟨by decide,by decide⟩,by decide,_,ap,?_⟩⟩;generalize c / 3 % 2=v at Z K;have:v=0\/v=1:=by lia
 rcases this with rfl|rfl;rw[Nh];exact fB (C.trans bA) h (.cons sp .nil)<|.mkRung S;rw[Ms];exact r (C.trans bA) pv A
theorem Hh:C8 wn 11 Ho:=by
 rintro ds M R ⟨c,ps,O,p,q,n,s,hs,E,rfl,f,hp,y,w,o,m,h1,K,g,L,J,h⟩;simp only[Ho,yp];walk_at"dl";refine⟨by decide,⟨by decide,by decide⟩,?_⟩;generalize c % 16=v;generalize c / 16=A;simp only[yo,az];walk_at"dl";intro _;refine bV (λd=>match d with|.tup (x::_)=>x|_=>.non) (λS=>∃a b,S=[a,b]) trivial _ _ _ (λd e S H=>?_) ⟨_,_,rfl⟩ ?_ ?_;obtain⟨a,b,rfl⟩:=H;obtain⟨r,u,rfl⟩:=C1.mp e;refine⟨[a7<|.str r.1,a7<|.int r.2],⟨_,_,rfl⟩,λY I=>?_⟩;unfold cZ;walk_at"dl";exact⟨trivial,I⟩;rw[G0,x3];have:=f.len.2;exact ao (by lia);have G:(ps.map cZ).map (λd=>match d with|.tup (x::_)=>x|_=>.non)=(ps.map (·.1)).map D.str:=by rw[J3,J3];rfl
 rw[K9,G];have l:(M++[MO.lst ((ps.map (·.1)).map D.str)])[M.length]?=a7 (.lst ((ps.map (·.1)).map D.str)):=ak;have C:M <+: M++[MO.lst ((ps.map (·.1)).map D.str)]:=bA;generalize M++[MO.lst ((ps.map (·.1)).map D.str)]=B at l C;generalize M.length=P at l;simp only[yn];walk_at"dl";obtain⟨d,e,F⟩:=gu (xs:=O.map mC) (i:=A) (by rw[x3];exact f.rl.1);obtain⟨r,u,rfl⟩:=C1.mp e;refine⟨by rw[x3];have:=f.rl.1;lia,?_⟩;rw[F];rw[show mC r=.tup [.str r.1,.tup<|r.2.map .str]from rfl];walk_at"dl";simp only[ym];walk_at"dl";refine⟨⟨by decide,by decide⟩,_,p,q,s,hs,rfl,bQ C hp,y,w,bQ C o,m,h1,by lia,λt z k=>?_⟩;exact act_5 (ns:=ps.map (·.1)) C f (bQ C hp) y w (bQ C o) m h1 K g (aN C L) J l (by rw[x3];exact f.len.1) (by rw[x3];exact f.len.2) (λx N=>by obtain⟨r',j,rfl⟩:=C1.mp N;exact f.nm r' j) (MR u) h
theorem IF(T:Tops P w K mg base):x5 P w K mg base 3 "_law_act" Fa wn:=x5.byD (N:=["_law_number","_law_house_here","_law_says","_law_hands_here","_law_counts","_law_kind","_law_names_here","_law_room","_law_message","_law_under","_law_sorts"]) T.b T.f_act (by walk_at"sc") Fy (by have:=yR T;have:=yQ T;have:=yP T;have:=Fd T;walk_at"dv") Hh
noncomputable def my:D->Int
 |.tup (.int t::_)=>t
 |_=>0
theorem rK:∀{xs:List D},(∀x∈xs,f x x=a9)->pC f g xs xs=bt
 | [],_=>rfl
 |x::xs,h=>by show (if f x x=a9 then pC f g xs xs else g x x)=bt;rw[p9<|h x<|by simp];exact rK λy hy=>h y<|D0 _ hy
theorem sA:∀{xs:List D},(∀x∈xs,f x x=a9)->wd f g xs xs=a9
 | [],_=>rfl
 |x::xs,h=>by show (if f x x=a9 then wd f g xs xs else g x x)=a9;rw[p9<|h x<|by simp];exact sA λy hy=>h y<|D0 _ hy
structure GenH(ps:List (c7×Int))(rs:List (c7×List c7))(hs deeds:List D)(cnt las:List (D×D))(g:Int):Prop where
 deed:∀d∈deeds,aG ps rs d
 up:deeds.Pairwise λa b=>lY a=lY b->my a<my b
 last:∀h∈hs,∃t:Int,aH las h=a7 (.int t)/\(0<=t/\t<=g)/\∀d∈deeds,lY d=h->my d<=t
 cnt:∀h∈hs,∃i:Int,aH cnt h=a7 (.int i)/\0<=i
 nn:∀d∈deeds,0<=tN d
 le:∀d∈deeds,my d<=g
theorem HU{α:Type}{r:α->α->Prop}:∀{l:List α}{a b:α},l.Pairwise r->a∈l->b∈l->a≠b->r a b\/r b a
 |x::l,a,b,h,ha,hb,ne=>by rw[List.pairwise_cons]at h;rcases A4.mp ha with e1|h1;rcases A4.mp hb with e2|h2;exact t4 (e1.trans e2.symm) ne;rw[e1];exact .inl<|h.1 b h2;rcases A4.mp hb with e2|h2;rw[e2];exact .inr<|h.1 a h1;exact HU h.2 h1 h2 ne
theorem GenH.step{ps:List (c7×Int)}{rs:List (c7×List c7)}{hs s:List D}{f l:List (D×D)}{g:Int}(G:GenH ps rs hs s f l g){z:c7}{k t T num i:Int}{x:c7}{ds:List D}(j:D.tup [.str z,.int k]∈hs)(o:aH l (.tup [.str z,.int k])=a7 (.int t))(B:t<T)(y:0<=num)(X:0<=i)(A:jn 4 ds)(w:ActK rs x ds)(n:∀x∈hs,x∈aR ps):GenH ps rs hs (s++[.tup [.int T,.tup [.str z,.int k],.int num,.tup<|.str x::ds]]) (gx f (.tup [.str z,.int k])<|.int i) (gx l (.tup [.str z,.int k])<|.int T) (if T > g then T else g):=by
 have q:g<=(if T > g then T else g):=by split<;>lia
 have Tle:T<=(if T > g then T else g):=by split<;>lia
 refine⟨λd m=>?_,?_,λh m=>?_,λh m=>?_,λd m=>?_,λd m=>?_⟩;rcases I9.mp m with m|m;exact G.deed d m;rw[K4.mp m];exact⟨T,z,k,num,x,ds,rfl,by obtain⟨t',c,r,_⟩:=G.last _ j;rw[o]at c;injection c with c;injection c with c;lia,n _ j,A,w⟩;refine List.pairwise_append.mpr ⟨G.up,Rj _ _,λa u b v=>?_⟩;rw[K4.mp v];intro e;obtain⟨t',c,_,le⟩:=G.last _ j;rw[o]at c;injection c with c;injection c with c;have:=le a u e;show my a<T;lia;by_cases e:h=.tup [.str z,.int k];subst e;refine⟨T,iI,⟨by obtain⟨t',c,r,_⟩:=G.last _ j;rw[o]at c;injection c with c;injection c with c;lia,Tle⟩,λd m e=>?_⟩;rcases I9.mp m with m|m;obtain⟨t',c,_,le⟩:=G.last _ j;rw[o]at c;injection c with c;injection c with c;have:=le d m e;lia;rw[K4.mp m];exact OS _;obtain⟨t',c,h1,le⟩:=G.last h m;refine⟨t',by rw[fy e];exact c,⟨h1.1,by have:=h1.2;lia⟩,λd m p=>?_⟩;rcases I9.mp m with m|m;exact le d m p;rw[K4.mp m]at p;exact t4 p.symm e;by_cases e:h=.tup [.str z,.int k];subst e;exact⟨_,iI,X⟩;rw[fy e];exact G.cnt h m;rcases I9.mp m with m|m;exact G.nn d m;rw[K4.mp m];exact y;rcases I9.mp m with m|m;exact Int.le_trans (G.le d m) q;rw[K4.mp m];exact Tle
theorem Ah(G:GenH ps rs hs deeds cnt las g)(l:deeds.length<64):SrtG M deeds:=by
 have p:∀d∈deeds,w4 M w6 d=a9/\v4 M w6 d d=a9:=λd u=>vJ 6 w6 d (by decide) (G.deed d u).pl;have s:∀{a:D}{xs:List D},a=.tup xs->F0 6 a->∀x∈xs,v4 M 29 x x=a9:=λ{a xs} e h x hx=>by subst e;exact(vJ 5 29 x (by decide)<|E7.mp h x hx).2
 have i:∀{t z k n x ds t' c I m R ds'},D.tup [.int t,.tup [.str z,.int k],.int n,.tup<|.str x::ds]∈deeds->D.tup [.int t',.tup [.str c,.int I],.int m,.tup<|.str R::ds']∈deeds->D.tup [.int t,.tup [.str z,.int k],.int n,.tup<|.str x::ds]≠D.tup [.int t',.tup [.str c,.int I],.int m,.tup<|.str R::ds']->t=t'->v4 M 29 (.tup [.str z,.int k]) (.tup [.str c,.int I])=bt:=by intro t z k n x ds t' c I m R ds' f j F o;refine LQ.mpr λe=>?_;have U:=(Gf (M:=M) (n:=28) (a:=.tup [.str z,.int k]) (b:=.tup [.str c,.int I]) ⟨_,_,rfl⟩ ⟨_,_,rfl⟩).mp e;rcases HU G.up f j F with q|q;have:=q U;simp only[my]at this;lia;have:=q U.symm;simp only[my]at this;lia
 refine⟨l,λd u=>(p d u).1,λa f b j=>?_,.inr<|.inr<|.inr<|.inl λa f=>?_,λd=>G6 w6<|F4 d,λa f b j=>?_⟩
 ·by_cases e:a=b
  subst e;obtain⟨t,z,k,n,x,ds,e,_⟩:=G.deed a f;have:=s e (G.deed a f).pl;rw[e];exact sA this
  ·obtain⟨t,z,k,n,x,ds,rfl,_⟩:=G.deed a f
   obtain⟨t',c,I,m,R,ds',rfl,_⟩:=G.deed b j;have r:=i f j e;show (if v4 M 29 (.int t) (.int t')=a9 then(if v4 M 29 (.tup [.str z,.int k]) (.tup [.str c,.int I])=a9 then wd (v4 M 29) (gY M 29) [.int n,.tup<|.str x::ds] [.int m,.tup<|.str R::ds']else(if v4 M 28 (.str z) (.str c)=a9 then(if v4 M 28 (.int k) (.int I)=a9 then a9 else a9)else a9))else a9)=a9;rw[gP];by_cases o:t=t'
   ·rw[r o]
    repeat' split
    all_goals first|rfl|contradiction
   rw[beq_eq_false_iff_ne.mpr o];rfl
 obtain⟨t,z,k,n,x,ds,rfl,_⟩:=G.deed a f;exact⟨_,_,rfl⟩
 ·have v:∀{t t':Int}{z c:c7}{k I:Int},D6 M w6 (.tup [.int t,.tup [.str z,.int k]]) (.tup [.int t',.tup [.str c,.int I]])=decide (G6 w6 (.tup [.int t,.tup [.str z,.int k]])<G6 w6 (.tup [.int t',.tup [.str c,.int I]])):=λ{t t' z c k I}=>by
   refine tU rfl rfl ?_;show (if v4 M 29 (.int t) (.int t')=a9 then(if v4 M 29 (.tup [.str z,.int k]) (.tup [.str c,.int I])=a9 then a9 else(if v4 M 28 (.str z) (.str c)=a9 then(if v4 M 28 (.int k) (.int I)=a9 then a9 else a9)else a9))else a9)=a9
   repeat' split
   all_goals rfl
  by_cases e:a=b;subst e;obtain⟨t,z,k,n,x,ds,e,_⟩:=G.deed a f;have:=s e (G.deed a f).pl;rw[dF_<|Oj _,e];exact rK this;obtain⟨t,z,k,n,x,ds,rfl,_⟩:=G.deed a f;obtain⟨t',c,I,m,R,ds',rfl,_⟩:=G.deed b j;have r:=i f j e;refine Eq.trans ?_ v;show (if v4 M 29 (.int t) (.int t')=a9 then(if v4 M 29 (.tup [.str z,.int k]) (.tup [.str c,.int I])=a9 then pC (v4 M 29) (D6 M 29) [.int n,.tup<|.str x::ds] [.int m,.tup<|.str R::ds']else D6 M 29 (.tup [.str z,.int k]) (.tup [.str c,.int I]))else D6 M 29 (.int t) (.int t'))=(if v4 M 29 (.int t) (.int t')=a9 then(if v4 M 29 (.tup [.str z,.int k]) (.tup [.str c,.int I])=a9 then bt else D6 M 29 (.tup [.str z,.int k]) (.tup [.str c,.int I]))else D6 M 29 (.int t) (.int t'))
  rw[gP];by_cases o:t=t';rw[r o];rfl;rw[beq_eq_false_iff_ne.mpr o];rfl
def wm:A2:=λds M R=>∃(ps:List (c7×Int)) (a:List (c7×List c7)) (p q:Nat) (ns:List Int) (hs:List D),ds=[az ps a,.ref p,.ref q]/\HouseF ps a/\am M p (ns.map .int)/\ns.length<=40/\am M q hs/\(∀x∈hs,x∈aR ps)/\1<=hs.length/\hs.length<=12/\hs.Nodup/\∀log:List D,(∀d∈log,aG ps a d)->(∀d∈log,my d<=200)->(∀d∈log,0<=tN d)->log.length<=40->R (.tup log) M
theorem Fw:da wm EY:=by rintro ds M R ⟨ps,a,p,q,ns,hs,rfl,_⟩;rfl
structure K6(M B:v5)(deeds sts:List D)(cnt las:List (D×D)):Prop where
 pre:M <+: B
 deeds:B[M.length]?=a7 (.lst deeds)
 sts:B[M.length+1]?=a7 (.lst sts)
 cnt:B[M.length+2]?=a7 (.dkt cnt)
 las:B[M.length+3]?=a7 (.dkt las)
section
variable{M B:v5}{deeds sts:List D}{cnt las:List (D×D)}
theorem K6.more{L:v5}(g:K6 M B deeds sts cnt las):K6 M (B++L) deeds sts cnt las:=⟨g.pre.trans<|Lu _ _,aN (Lu _ _) g.deeds,aN (Lu _ _) g.sts,aN (Lu _ _) g.cnt,aN (Lu _ _) g.las⟩
theorem K6.setDeeds(g:K6 M B deeds sts cnt las):K6 M (B.set M.length<|.lst deeds') deeds' sts cnt las:=⟨cC g.pre<|w5 _,dq g.deeds,bf (by lia) g.sts,bf (by lia) g.cnt,bf (by lia) g.las⟩
theorem K6.setSts(g:K6 M B deeds sts cnt las):K6 M (B.set (M.length+1)<|.lst sts') deeds sts' cnt las:=⟨cC g.pre (by lia),bf (by lia) g.deeds,dq g.sts,bf (by lia) g.cnt,bf (by lia) g.las⟩
theorem K6.setCnt(g:K6 M B deeds sts cnt las):K6 M (B.set (M.length+2)<|.dkt cnt') deeds sts cnt' las:=⟨cC g.pre (by lia),bf (by lia) g.deeds,bf (by lia) g.sts,dq g.cnt,bf (by lia) g.las⟩
theorem K6.setLas(g:K6 M B deeds sts cnt las):K6 M (B.set (M.length+3)<|.dkt las') deeds sts cnt las':=⟨cC g.pre (by lia),bf (by lia) g.deeds,bf (by lia) g.sts,bf (by lia) g.cnt,dq g.las⟩
end
def uS:u9:=bd<|v8 gh<|aa (v8 iS<|aa (ac 3) ah) ah
def uT:u9:=B6 (au<|u5 A9 (u5 v9 (ac 11)<|dC<|.int 0)<|dC<|.str "say") (iM<|Mr cD (ac 4)<|aa (eP<|aa (ac 10)<|aa (ac 7) ah) ah) aI
def uU:u9:=aB (bg (v8 yA<|aa (ac 8)<|aa (ac 10) ah) 8)<|uT
def uV:u9:=aB (md (ac 6) (ac 7)<|ac 10)<|uU
def uW:u9:=aB (md (ac 5) (ac 7)<|u5 aF (eQ (ac 5)<|ac 7)<|dC<|.int 1)<|uV
def uX:u9:=aB (iM<|Mr cD (ac 3)<|aa (eP<|aa (ac 10)<|aa (ac 7)<|aa (eQ (ac 5)<|ac 7)<|aa (ac 11) ah) ah)<|uW
def uY:u9:=aB (bg (v8 wn<|aa (u5 aM (ac 9)<|dC<|.int 20)<|aa (ac 0)<|aa (ac 4)<|aa (ac 2)<|aa (ac 5) ah) 11)<|uX
def xO:u9:=aB (bg (u5 aF (u5 v9 (gW<|aa (ac 8)<|aa (eQ (ac 6)<|ac 7)<|aa (u5 aF (eQ (ac 6)<|ac 7)<|u5 bY (u5 aM (ac 9)<|dC<|.int 4)<|dC<|.int 5)<|aa (ac 8) ah)<|u5 bY (ac 9)<|dC<|.int 4)<|dC<|.int 1) 10)<|uY
def sW:u9:=aB (bg (u5 aM (ac 9)<|dC<|.int 12) 9)<|xO
def xP:u9:=aB (jk (bZ<|ac 1) (af 9)<|aB (bg (u5 v9 (ac 2)<|u5 bY (ac 9)<|v8 jN<|aa (ac 2) ah) 7)<|sW)<|uS
def xQ:u9:=aB (bg (dC<|.int 0) 8)<|xP
def xR:u9:=md (ac 6) (ac 7)<|dC<|.int 0
def xS:u9:=aB (jk (bZ<|ac 2) (af 7)<|aB (md (ac 5) (ac 7)<|dC<|.int 0)<|xR)<|xQ
def xT:u9:=aB (bg (su) 6)<|xS
def xU:u9:=aB (bg (su) 5)<|xT
def xV:u9:=aB (bg (gW ah) 4)<|xU
def Hm:u9:=aB (bg (gW ah) 3)<|xV
theorem BW{M B:v5}{E:DEnds}{s f hs:List D}{e l:List (D×D)}{r num:Int}{ps:List (c7×Int)}{rs:List (c7×List c7)}{p q:Nat}{y7 O P:Option D}{n:Nat}(g:K6 M B s f e l)(G:GenH ps rs hs s e l r)(hf:HouseF ps rs)(V:am M q hs)(h:∀x∈hs,x∈aR ps)(h1:1<=hs.length)(hl:hs.length<=12)(I:hs.Nodup)(N:NB f)(sl:f.length<=n)(dl:s.length<=n)(cl:e.length<=12+n)(ll:l.length<=12+n)(ab:n<40)(gn:r<=5*(n:Int))(S:∀deeds' sts' cnt' las' gr' B' a b c d,K6 M B' deeds' sts' cnt' las'->GenH ps rs hs deeds' cnt' las' gr'->gr'<=5*((n:Int)+1)->NB sts'->sts'.length<=n+1->deeds'.length<=n+1->cnt'.length<=12+(n+1)->las'.length<=12+(n+1)->E.nx [a7<|az ps rs,a7<|.ref p,a7<|.ref q,a7<|.ref M.length,a7<|.ref<|M.length+1,a7<|.ref<|M.length+2,a7<|.ref<|M.length+3,a,a7<|.int gr',b,c,d] B'):(aB (bg (u5 v9 (ac 2)<|u5 bY (ac 9)<|v8 jN<|aa (ac 2) ah) 7)<|sW) E [a7<|az ps rs,a7<|.ref p,a7<|.ref q,a7<|.ref M.length,a7<|.ref<|M.length+1,a7<|.ref<|M.length+2,a7<|.ref<|M.length+3,y7,a7<|.int r,a7<|.int num,O,P] B:=by
 have A:=bQ g.pre V;have U:∀x∈hs,Hd x:=λx K=>oV x<|h x K;obtain⟨d,F,ed⟩:=gu (xs:=hs) (i:=num) h1;obtain⟨z,k,rfl⟩:=U d F;obtain⟨t,J,⟨_,X⟩,_⟩:=G.last _ F;walk_at"dl";refine⟨_,A,by lia,_,A,?_⟩;rw[ed];simp only[sW,xO];walk_at"dl";refine⟨⟨by decide,by decide⟩,l,_,g.las,rfl,J,l,_,g.las,rfl,J,⟨by decide,by decide⟩,by decide,ao (by lia),by decide,_,ap,?_⟩;generalize num / 12=c;have v0:=bP (a:=c) (b:=4) (by decide);have v1:=cf (a:=c) (b:=4) (by decide);have w0:=bP (a:=c / 4) (b:=5) (by decide);have w1:=cf (a:=c / 4) (b:=5) (by decide);obtain⟨u,eu,tu,ug⟩:∃u:Int,atI [D.int r,D.int t,D.int<|t+c / 4 % 5,D.int r] (c % 4)=a7 (.int u)/\t<=u/\u<=r+4:=by
  generalize c / 4 % 5=w at w0 w1;generalize c % 4=v at v0 v1;have:v=0\/v=1\/v=2\/v=3:=by lia
  rcases this with rfl|rfl|rfl|rfl;exact⟨_,av (j:=0) rfl,X,by lia⟩;exact⟨_,av (j:=1) rfl,OS _,by lia⟩;exact⟨_,av (j:=2) rfl,by lia,by lia⟩;exact⟨_,av (j:=3) rfl,X,by lia⟩
 rw[eu];walk_at"dl";have g1:=g.more (L:=[MO.lst [D.int r,D.int t,D.int<|t+c / 4 % 5,D.int r]]);generalize B++[MO.lst [D.int r,D.int t,D.int<|t+c / 4 % 5,D.int r]]=Y at g1;have W:t<u+1:=by lia
 have Tg:u+1<=r+5:=by lia
 generalize u+1=T at W Tg;obtain⟨i,hi,i0⟩:=G.cnt _ F;simp only[uY];walk_at"dl";refine⟨⟨by decide,by decide⟩,_,ps,rs,M.length+1,q,M.length+2,f,hs,e,rfl,hf,.inl g1.sts,N,by lia,bQ g1.pre V,U,h1,hl,I,g1.cnt,λx K=>(G.cnt x K).imp λ_ q=>q.1,λx ds pl H=>?_⟩;simp only[uX];walk_at"dl";refine⟨⟨_,.inl g1.deeds⟩,e,_,g1.cnt,rfl,hi,ao (by lia),_,g1.deeds,ay (by lia),?_⟩;have C:=g1.setDeeds (deeds':=s++[.tup [.int T,.tup [.str z,.int k],.int i,.tup<|.str x::ds]]);generalize Y.set M.length _=Z at C;simp only[uW];walk_at"dl";refine⟨e,_,C.cnt,rfl,hi,?_⟩;walk_at"dl";refine⟨e,C.cnt,rfl,ay (by lia),?_⟩;have g3:=C.setCnt (cnt':=gx e (.tup [.str z,.int k])<|.int<|i+1);generalize Z.set (M.length+2) _=B3 at g3;simp only[uV];walk_at"dl";refine⟨l,g3.las,rfl,ay (by lia),?_⟩;have m:=g3.setLas (las':=gx l (.tup [.str z,.int k])<|.int T);generalize B3.set (M.length+3) _=B4 at m;have R:=G.step (num:=i) (i:=i+1) F J W i0 (by lia) pl H h;have o:(if T > r then T else r)<=5*((n:Int)+1):=by split<;>lia
 have l1:=fM (kvs:=e) (k:=.tup [.str z,.int k]) (d:=.int<|i+1);have l2:=fM (kvs:=l) (k:=.tup [.str z,.int k]) (d:=.int T);simp only[uU];walk_at"dl";simp only[uT];walk_at"dl";refine⟨⟨ag,ag⟩,?_⟩;split;refine⟨⟨_,.inl m.sts⟩,ao (by lia),f,m.sts,ay (by lia),S _ _ _ _ _ _ _ _ _ _ m.setSts R o (λy Q=>?_) (by rw[D5,Ll];lia) (by rw[D5,Ll];lia) (by lia)<|by lia⟩;rcases I9.mp Q with Q|Q;exact N y Q;exact⟨T,z,k,K4.mp Q⟩;exact S _ _ _ _ _ _ _ _ _ _ m R o N (by lia) (by rw[D5,Ll];lia) (by lia)<|by lia
theorem Hf:C8 wm 12 Hm:=by
 rintro ds M R ⟨ps,A,p,q,ns,hs,rfl,X,hp,nl,v,n,h1,hl,I,h⟩;have Z:∀x∈hs,Hd x:=λx f=>oV x<|n x f;simp only[Hm,xV,xU,xT];walk_at"dl";refine⟨C4 _,C4 _,?_⟩;have L:(M++[MO.lst []]).length=M.length+1:=by simp
 have N:(M++[MO.lst []]++[MO.lst []]).length=M.length+2:=by simp
 have O:(M++[MO.lst []]++[MO.lst []]++[MO.dkt []]).length=M.length+3:=by simp
 rw[L,N,O];have B:K6 M (M++[MO.lst []]++[MO.lst []]++[MO.dkt []]++[MO.dkt []]) [] [] [] []:=by refine⟨((bA.trans bA).trans bA).trans bA,ae<|ae<|ae ak,?_,?_,?_⟩;rw[<-L];exact ae<|ae ak;rw[<-N];exact ae ak;rw[<-O];exact ak
 generalize M++[MO.lst []]++[MO.lst []]++[MO.dkt []]++[MO.dkt []]=B0 at B;simp only[xS];walk_at"dl";refine⟨_,bQ B.pre v,λ_=>?_⟩;refine aP (λi S M'=>∃(t l:List (D×D)) (a:Option D),K6 M M' [] [] t l/\(∀x∈hs.take i,aH t x=a7 (.int 0)/\aH l x=a7 (.int 0))/\t.length<=i/\l.length<=i/\S=[a7<|az ps A,a7<|.ref p,a7<|.ref q,a7<|.ref M.length,a7<|.ref<|M.length+1,a7<|.ref<|M.length+2,a7<|.ref<|M.length+3,a,a8,a8,a8,a8]) ?_ ?_ ⟨[],[],_,B,(λ_ z=>nomatch z),w5 _,w5 _,rfl⟩;rintro S M' ⟨t,l,a,g,o,u,w,rfl⟩;rw[LO]at o;refine⟨bQ g.pre v,?_⟩;simp only[xQ,xP];walk_at"dl";refine⟨_,bQ g.pre hp,λ_=>?_⟩;refine aP (λi S M'=>∃(s j:List D) (t l:List (D×D)) (r:Int) (a b c d:Option D),K6 M M' s j t l/\GenH ps A hs s t l r/\r<=5*(i:Int)/\NB j/\j.length<=i/\s.length<=i/\t.length<=12+i/\l.length<=12+i/\S=[a7<|az ps A,a7<|.ref p,a7<|.ref q,a7<|.ref M.length,a7<|.ref<|M.length+1,a7<|.ref<|M.length+2,a7<|.ref<|M.length+3,a,a7<|.int r,b,c,d]) ?_ ?_ ⟨[],[],t,l,0,_,_,_,_,g,⟨(λ_ z=>nomatch z),.nil,λx f=>⟨0,(o x f).2,⟨OS _,OS _⟩,(λ_ z=>nomatch z)⟩,λx f=>⟨0,(o x f).1,OS _⟩,(λ_ z=>nomatch z),(λ_ z=>nomatch z)⟩,by lia,(λ_ z=>nomatch z),w5 _,w5 _,by lia,by lia,rfl⟩;rintro S M' ⟨s,j,t,l,r,a,b,c,d,g,G,E,U,T,Y,u,w,rfl⟩;rw[x3]at Y E;refine⟨bQ g.pre hp,?_⟩;simp only[uS];walk_at"dl";refine⟨s,.inl g.deeds,Ah G (by lia),λys Q _=>⟨ys,ap,?_⟩⟩;have P:∀d∈ys,aG ps A d:=λd m=>G.deed d<|Q.mem_iff.mp m;exact aO.keep (h ys P (λd m=>Int.le_trans (G.le d<|Q.mem_iff.mp m)<|by lia) (λd m=>G.nn d<|Q.mem_iff.mp m)<|by rw[Q.length_eq];lia) (.tup<|aG.bels P)<|g.pre.trans bA;rintro i y S M' Q ⟨s,j,t,l,r,a,b,c,d,g,G,E,U,T,Y,u,w,rfl⟩ K H;refine⟨bQ g.pre hp,?_⟩;rw[D8]at Q;obtain⟨ab,hn,rfl⟩:=Mp.mp Q;have hi:=(A5.mp hn).1;simp only[af,List.set_cons_zero,List.set_cons_succ];exact BW g G X v n h1 hl I U T Y u w (by lia) E λdeeds' sts' cnt' las' gr' B' a b c d W V F J s1 s2 s3 s4=>A7.now<|H _ _ ⟨deeds',sts',cnt',las',gr',_,_,_,_,W,V,F,J,s1,s2,s3,s4,rfl⟩;rintro i y S M' Q ⟨t,l,a,g,o,u,w,rfl⟩ K H;have hi:=(A5.mp Q).1;refine⟨bQ g.pre v,?_⟩;obtain⟨z,k,rfl⟩:=Z y<|J7 Q;simp only[xR];walk_at"dl";refine⟨t,g.cnt,rfl,ay (by lia),?_⟩;have C:=g.setCnt (cnt':=gx t (.tup [.str z,.int k])<|.int 0);have l1:=fM (kvs:=t) (k:=.tup [.str z,.int k]) (d:=.int 0);have l2:=fM (kvs:=l) (k:=.tup [.str z,.int k]) (d:=.int 0);generalize M'.set (M.length+2) _=B2 at C;refine⟨l,C.las,rfl,ay (by lia),A7.now<|H _ _ ⟨_,_,_,C.setLas,λx f=>?_,by lia,by lia,rfl⟩⟩;rw[L6,Q]at f;by_cases e:x=.tup [.str z,.int k];subst e;exact⟨iI,iI⟩;rw[fy e,fy e];rcases I9.mp f with f|f;exact o x f;exact t4 (by simpa using f) e
theorem IE(T:Tops P w K mg base):x5 P w K mg base 4 "_law_log" EY wm:=x5.byD (N:=["_law_house_here","_law_numbers_here","_law_hands_here","_law_log_here","_law_says","_law_counts","_law_last","_law_hand","_law_greatest","_law_number","_law_time","_law_act_here"]) T.b T.f_log (by walk_at"sc") Fw (by have:=IF T;walk_at"dv") Hf
noncomputable def xi(e:D):D:=.tup [.str<|aX e,mO e,.str<|bO e,GV e,DH e]
noncomputable def rS(kvs:List (D×D)):List (D×D):=kvs.map λp=>(p.1,xi p.2)
def eL:A2:=λds M R=>∃(ps:List (c7×Int)) (a:List (c7×List c7)) (log:List D),ds=[az ps a,.tup log]/\HouseF ps a/\(∀d∈log,aG ps a d)/\log.length<=1000/\∀n B,M <+: B->B[n]?=a7 (.dkt<|rS<|aT a log)->R (.ref n) B
theorem rR:da eL iZ:=by rintro ds M R ⟨ps,a,log,rfl,_⟩;rfl
theorem dY:aH (rS kvs) k=(aH kvs k).map xi:=by unfold aH rS;rw[O1,Option.map_map,Option.map_map];rfl
theorem vP:gx (rS kvs) k (xi d)=rS (gx kvs k d):=by
 unfold gx;rw[dY,Qg];split;unfold rS;rw[J3,J3];refine Q8 λp _=>?_;show (if p.1=k then(p.1,xi d)else(p.1,xi p.2))=((if p.1=k then(p.1,d)else p).1,xi (if p.1=k then(p.1,d)else p).2)
 split<;>rfl;unfold rS;rw[LC];rfl
theorem jX:(rS kvs).length=kvs.length:=by unfold rS;rw[x3]
theorem uy:aT rs (log++[d])=if bw d=u7 "say" then tj rs (aT rs log) d else aT rs log:=by unfold aT;rw[jf];split;rw[gX];rw[Lb]
noncomputable def fX(r:c7×List c7):c7×D:=(r.1,.tup<|r.2.map .str)
theorem CT(ps:List (c7×D))(h:(ps.map (·.1)).Nodup):gQ ps=ps:=by revert h;refine ir (P:=λps=>(ps.map (·.1)).Nodup->gQ ps=ps) (λ_=>rfl) (λps p i h=>?_) ps;rw[LC]at h;have h':=List.nodup_append.mp h;rw[nO,i h'.1,Bx];intro z;exact h'.2.2 _ z _ (by simp) rfl
theorem nF{rs:List (c7×List c7)}(h:(rs.map (·.1)).Nodup):gQ (rs.map fX)=rs.map fX:=CT _<|by rw[J3];exact h
theorem iw:∀{rs:List (c7×List c7)},r∈rs.map (·.1)->eS (rs.map fX) r=a7 (.tup<|(jW rs r).map .str)
 |p::rs,h=>by rw[rq];unfold eS;rw[C9,Lr];by_cases e:p.1=r;rw[p9 e,show decide ((fX p).1=r)=a9 from dT_ e];rfl;rw[r9 e,show decide ((fX p).1=r)=bt from dF_ e];rw[C9,A4]at h;exact iw<|h.resolve_left<|A1 e
theorem qN{rs:List (c7×List c7)}:rs.map mC=(rs.map fX).map λp=>.tup [.str p.1,p.2]:=by rw[J3];rfl
theorem fA{a b:c7}:(a==b)=decide (a=b):=by by_cases e:a=b;rw[dT_ e];exact beq_iff_eq.mpr e;rw[dF_ e];exact beq_eq_false_iff_ne.mpr e
def jv:u9:=bd<|ac 3
def jw:u9:=aB (jk (bZ<|ac 1) (eD 4<|aA (af 4)<|aA (af 5)<|aA (af 6)<|aA (af 7) eE)<|B6 (nP (au<|u5 A9 (u5 v9 (ac 7)<|dC<|.int 0)<|dC<|.str "say")<|au<|u5 NY (u5 v9 (ac 5)<|dC<|.int 0)<|xv (ac 2)<|u5 v9 (ac 7)<|dC<|.int 1) (B6 (MD (au<|u5 MV (u5 v9 (ac 7)<|dC<|.int 2)<|dC .non)<|nP (au<|u5 Bv (u5 v9 (ac 7)<|dC<|.int 2)<|ac 3)<|au<|u5 A9 (u5 v9 (eQ (ac 3)<|u5 v9 (ac 7)<|dC<|.int 2)<|dC<|.int 0)<|u5 v9 (ac 7)<|dC<|.int 1) (md (ac 3) (eP<|aa (ac 4)<|aa (ac 5) ah)<|eP<|aa (u5 v9 (ac 7)<|dC<|.int 1)<|aa (u5 v9 (ac 7)<|dC<|.int 2)<|aa (u5 v9 (ac 5)<|dC<|.int 0)<|aa (u5 v9 (ac 7)<|dC<|.int 3)<|aa (ac 6) ah) aI) aI)<|jv
def jx:u9:=aB (bg (su) 3)<|jw
def nC:u9:=aB (bg (v8 qS<|aa (u5 v9 (ac 0)<|dC<|.int 1) ah) 2)<|jx
theorem De{B:v5}{E:DEnds}{ps:List (c7×Int)}{rs:List (c7×List c7)}{d:D}{kvs:List (D×D)}{C:Option D}{H J K L:Option D}{q n:Nat}(M:HouseF ps rs)(dd:aG ps rs d)(N:∀p∈kvs,aG ps rs p.2/\bw p.2=u7 "say")(O:kvs.length<1000)(w:B[q]?=a7 (.dct<|rs.map fX))(i:B[n]?=a7 (.dkt<|rS kvs))(h:∀a b c d' B',B'=B.set n (.dkt<|rS<|if bw d=u7 "say" then tj rs kvs d else kvs)->E.nx [a7<|az ps rs,C,a7<|.ref q,a7<|.ref n,a,b,c,d'] B'):(eD 4<|aA (af 4)<|aA (af 5)<|aA (af 6)<|aA (af 7) eE) d [a7<|az ps rs,C,a7<|.ref q,a7<|.ref n,H,J,K,L] B λS2 M2=>(B6 (nP (au<|u5 A9 (u5 v9 (ac 7)<|dC<|.int 0)<|dC<|.str "say")<|au<|u5 NY (u5 v9 (ac 5)<|dC<|.int 0)<|xv (ac 2)<|u5 v9 (ac 7)<|dC<|.int 1) (B6 (MD (au<|u5 MV (u5 v9 (ac 7)<|dC<|.int 2)<|dC .non)<|nP (au<|u5 Bv (u5 v9 (ac 7)<|dC<|.int 2)<|ac 3)<|au<|u5 A9 (u5 v9 (eQ (ac 3)<|u5 v9 (ac 7)<|dC<|.int 2)<|dC<|.int 0)<|u5 v9 (ac 7)<|dC<|.int 1) (md (ac 3) (eP<|aa (ac 4)<|aa (ac 5) ah)<|eP<|aa (u5 v9 (ac 7)<|dC<|.int 1)<|aa (u5 v9 (ac 7)<|dC<|.int 2)<|aa (u5 v9 (ac 5)<|dC<|.int 0)<|aa (u5 v9 (ac 7)<|dC<|.int 3)<|aa (ac 6) ah) aI) aI) E S2 M2:=by
 have g:B.set n (.dkt<|rS kvs)=B:=by refine List.ext_getElem? λj=>?_;by_cases e:n=j;subst e;rw[LF<|aW i,i];rw[Lv e]
 by_cases o:bw d=u7 "say";rw[p9 o]at h;obtain⟨t,z,k,l,r,u,s,rfl,_,_,y,F⟩:=jB dd o;have f:qE rs kvs (.tup [.int t,.tup [.str z,.int k],.int l,.tup [.str<|u7 "say",.str r,u,.str s]])=(decide (z∈jW rs r)&&(decide (u=.non)||match aH kvs u with
  |some e=>decide<|aX e=r
  |none=>bt)):=rfl
 have Q:∀a b c:D,atI [a,b,c,.str s] 3=a7 (.str s):=λa b c=>av (j:=3) rfl;have A:(u7 "say" == u7 "say")=a9:=u3 _;unfold tj at h;rcases F with rfl|⟨t',G,I,rfl⟩
 rw[dT_ rfl,Bool.true_or,Bool.and_true]at f;rw[f]at h;walk_at"dl";refine⟨trivial,⟨ag,ag⟩,?_⟩;rw[aC,A];refine bC ⟨_,_,w,iw y,⟨ag,oq⟩,?_⟩;rw[oU];by_cases m:z∈jW rs r;rw[dT_ m]at h ⊢;rw[p9 rfl]at h;refine bC ?_;simp only[Q];refine⟨ao (by lia),ao (by lia),_,i,rfl,ay (by rw[jX];lia),h _ _ _ _ _ ?_⟩;rw[<-vP];rfl;rw[dF_ m]at h ⊢;rw[r9<|by decide]at h;exact br<|h _ _ _ _ _ g.symm;rw[dF_ (p:=D.tup [.int t',.tup [.str G,.int I]]=.non) (by intro e;cases e),OX]at f;walk_at"dl";refine⟨trivial,⟨ag,ag⟩,?_⟩;rw[aC,A];refine bC ⟨_,_,w,iw y,⟨ag,oq⟩,?_⟩;rw[oU];by_cases m:z∈jW rs r;rw[dT_ m,NI]at f;rw[dT_ m];refine bC ⟨_,i,rfl,?_⟩;rw[dY];cases R:aH kvs (.tup [.int t',.tup [.str G,.int I]]) with
 |none=>rw[R]at f;dsimp only at f;rw[f,r9<|by decide]at h;exact br<|h _ _ _ _ _ g.symm
 |some e=>rw[R]at f;dsimp only at f;refine bC ⟨_,xi e,i,rfl,by rw[dY,R];rfl,?_⟩;unfold xi;walk_at"dl";refine⟨⟨ag,ag⟩,?_⟩;rw[aC,fA];by_cases v:aX e=r;rw[dT_ v]at f ⊢;rw[f,p9 rfl]at h;refine bC ?_;simp only[Q];refine⟨ao (by lia),ao (by lia),_,i,rfl,ay (by rw[jX];lia),h _ _ _ _ _ ?_⟩;rw[<-vP];rfl;rw[dF_ v]at f ⊢;rw[f,r9<|by decide]at h;exact br<|h _ _ _ _ _ g.symm
 rw[dF_ m,O5]at f;rw[dF_ m];rw[f,r9<|by decide]at h;exact br<|h _ _ _ _ _ g.symm;rw[r9 o]at h;obtain⟨t,z,k,l,x,ds,rfl,_⟩:=dd;walk_at"dl";refine⟨trivial,⟨ag,ag⟩,?_⟩;rw[aC,show (x==u7 "say")=bt from beq_eq_false_iff_ne.mpr o];refine br ?_;exact h _ _ _ _ _ g.symm
theorem sU:C8 eL 8 nC:=by
 rintro ds M R ⟨ps,rs,log,rfl,f,g,r,h⟩;simp only[nC,az];walk_at"dl";refine⟨rs.map fX,qN,by rw[x3];have:=f.rl.2;lia,?_⟩;rw[nF f.rnd];simp only[jx,jw];walk_at"dl";intro _;have l:(M++[MO.dct<|rs.map fX]).length=M.length+1:=by simp
 refine aP (λi S M'=>∃a b c d,M'=M++[.dct<|rs.map fX,.dkt<|rS<|aT rs<|log.take i]/\S=[a7<|az ps rs,a7<|.tup log,a7<|.ref M.length,a7<|.ref<|M.length+1,a,b,c,d]) ?_ ?_ ⟨_,_,_,_,by simp[rS,aT,kinds,dE],by rw[l];rfl⟩;rintro S M' ⟨a,b,c,d,rfl,rfl⟩;rw[LO];refine⟨trivial,?_⟩;simp only[jv];walk_at"dl";exact .inl<|h _ _ (Lu _ _) fP;rintro i y S M' Q ⟨a,b,c,d,rfl,rfl⟩ G e;have n:=J7 Q;have m:log.take (i+1)=log.take i++[y]:=by rw[L6,Q];rfl
 rw[m,uy]at e;have t:=bn (rs:=rs) (log:=log.take i);have j:∀d∈log.take i,aG ps rs d:=λd q=>g d<|Ra q;have v:=jT j (λ_ q=>q) t;have p:=t.len;have o:=cA (log:=log.take i) (k:=u7 "say");rw[Lc]at o;have hi:=(A5.mp Q).1;generalize aT rs (log.take i)=kvs at e v p;refine⟨trivial,?_⟩;refine De f (g y n) v (by lia) bT fP ?_;rintro a b c d B rfl;refine A7.now<|e _ _ ⟨a,b,c,d,?_,rfl⟩;rw[Qw _ _ (by lia),show M.length+1-M.length=1 by lia];rfl
theorem tM(T:Tops P w K mg base):x5 P w K mg base 1 "_law_counting" iZ eL:=x5.byD (N:=["_law_house_here","_law_log_here","_law_members","_law_found","_law_time","_law_hand","_law_number","_law_act_here"]) T.b T.f_counting (by walk_at"sc") rR (by walk_at"dv") sU
def KZ(C:List (D×D))(B:v5)(n:Nat)(p:D×D):Prop:=∃e m s,p.2=.ref m/\n<m/\aH C p.1=a7 e/\B[m]?=a7 (.lst [.str<|aX e,.str<|bO e,s,DH e])
def ka:A2:=λds M R=>∃(ps:List (c7×Int)) (a:List (c7×List c7)) (log:List D),ds=[az ps a,.tup log]/\HouseF ps a/\(∀d∈log,aG ps a d)/\log.length<=1000/\∀n B kvs,M <+: B->sL B n kvs->(∀p∈kvs,KZ (aT a log) B n p/\¬bq (aT a log) log p.1)->(kvs.map (·.1)).Nodup->kvs.length<=log.length->(∀k e,aH (aT a log) k=a7 e->¬bq (aT a log) log k->∃d,aH kvs k=a7 d)->R (.ref n) B
theorem ze:da ka tz:=by rintro ds M R ⟨ps,a,log,rfl,_⟩;rfl
theorem CW:aH (GC kvs k) j=if j=k then a8 else aH kvs j:=by unfold aH GC;rw[List.find?_filter];split;rename_i e;subst e;rw[Option.map_eq_none_iff,List.find?_eq_none];intro p _;by_cases e:p.1=j<;>simp[e];rename_i h;congr 1;congr 1;funext p;by_cases e:p.1=j;have:¬p.1=k:=λz=>h<|e.symm.trans z;simp[e,h];simp[e]
theorem Av(R:aH C m=a7 e):LV C (.tup [.int t,.tup [.str z,.int k],.int num,.tup<|x::m::l])=decide (z=bO e):=by
 show (match aH C m with
  |some e=>decide<|z=bO e
  |none=>bt)=_
 rw[R]
theorem Dk(R:aH C m=a8):LV C (.tup [.int t,.tup [.str z,.int k],.int num,.tup<|x::m::l])=bt:=by
 show (match aH C m with
  |some e=>decide<|z=bO e
  |none=>bt)=_
 rw[R]
theorem cu:bq C (log++[d]) k↔bq C log k\/(bw d=u7 "back"/\LV C d=a9/\rj d=k):=by
 unfold bq;rw[jf];constructor;rintro⟨x,h,h1,h2⟩;rcases I9.mp h with h|h;exact .inl ⟨x,h,h1,h2⟩;split at h;rename_i a;obtain rfl:x=d:=by simpa using h
 exact .inr ⟨a,h1,h2⟩;cases h;rintro(⟨x,h,h1,h2⟩|⟨a,h1,h2⟩);exact⟨x,NQ _ h,h1,h2⟩;exact⟨d,Lm _ (by rw[p9 a];simp),h1,h2⟩
theorem KZ.more(h:KZ C B n p):KZ C (B++[x]) n p:=by obtain⟨e,m,s,h1,h2,a,d⟩:=h;exact⟨e,m,s,h1,h2,a,ae d⟩
theorem KZ.setN(h:KZ C B n p):KZ C (B.set n x) n p:=by obtain⟨e,m,s,h1,h2,a,d⟩:=h;exact⟨e,m,s,h1,h2,a,bf (by lia) d⟩
theorem KZ.setM(h:KZ C B n p)(g:B[m']?=a7 (.lst [a,b,c,d])):KZ C (B.set m'<|.lst [a,b,c',d]) n p:=by obtain⟨e,m,s,h1,h2,i,f⟩:=h;by_cases q:m=m';subst q;rw[f]at g;simp only[Option.some.injEq,MO.lst.injEq,MP,and_true]at g;obtain⟨rfl,rfl,_,rfl⟩:=g;exact⟨e,m,c',h1,h2,i,dq f⟩;exact⟨e,m,s,h1,h2,i,bf q f⟩
def pP:u9:=bd<|ac 3
def kq:u9:=aB (jk (bZ<|ac 1) (eD 4<|aA (af 6)<|aA (af 7)<|aA (af 8)<|aA (af 9) eE)<|B6 (nP (au<|u5 A9 (u5 v9 (ac 9)<|dC<|.int 0)<|dC<|.str "back")<|nP (au<|u5 Bv (u5 v9 (ac 9)<|dC<|.int 1)<|ac 2)<|au<|u5 A9 (u5 v9 (eQ (ac 2)<|u5 v9 (ac 9)<|dC<|.int 1)<|dC<|.int 2)<|u5 v9 (ac 7)<|dC<|.int 0) (iM<|QV Bu (ac 3)<|aa (u5 v9 (ac 9)<|dC<|.int 1)<|aa (dC .non) ah) aI)<|pP
def kr:u9:=aB (jk (bZ<|ac 1) (eD 4<|aA (af 6)<|aA (af 7)<|aA (af 8)<|aA (af 9) eE)<|B6 (nP (au<|u5 A9 (u5 v9 (ac 9)<|dC<|.int 0)<|dC<|.str "change")<|nP (au<|u5 Bv (u5 v9 (ac 9)<|dC<|.int 1)<|ac 2)<|au<|u5 A9 (u5 v9 (eQ (ac 2)<|u5 v9 (ac 9)<|dC<|.int 1)<|dC<|.int 2)<|u5 v9 (ac 7)<|dC<|.int 0) (KC (u5 v9 (ac 9)<|dC<|.int 2)<|Ae (eQ (ac 3)<|u5 v9 (ac 9)<|dC<|.int 1)<|dC<|.int 2) aI)<|kq
def pQ:u9:=aB (jk (mf<|ac 2) (eD 2<|aA (af 4)<|aA (af 5) eE)<|md (ac 3) (ac 4)<|gW<|aa (u5 v9 (ac 5)<|dC<|.int 0)<|aa (u5 v9 (ac 5)<|dC<|.int 2)<|aa (u5 v9 (ac 5)<|dC<|.int 3)<|aa (u5 v9 (ac 5)<|dC<|.int 4) ah)<|kr
def pR:u9:=aB (bg (su) 3)<|pQ
def xL:u9:=aB (bg (v8 eL<|aa (ac 0)<|aa (ac 1) ah) 2)<|pR
section
variable{M B:v5}{R:DK}{ps:List (c7×Int)}{rs:List (c7×List c7)}{log:List D}{C kvs:List (D×D)}{c:Nat}
theorem Ey(V:∀d∈log,aG ps rs d)(hl:log.length<=1000)(X:M <+: B)(hB:B[c]?=a7 (.dkt<|rS C))(v:∀p∈kvs,KZ C M' B.length p)(l:∀k e,aH C k=a7 e->∃d,aH kvs k=a7 d)(q:(kvs.map (·.1)).Nodup)(j:kvs.length<=log.length)(pM:B <+: M')(f:M'[B.length]?=a7 (.dkt kvs))(h:∀n B kvs,M <+: B->sL B n kvs->(∀p∈kvs,KZ C B n p/\¬bq C log p.1)->(kvs.map (·.1)).Nodup->kvs.length<=log.length->(∀k e,aH C k=a7 e->¬bq C log k->∃d,aH kvs k=a7 d)->R (.ref n) B):kq (EE M R) [a7<|az ps rs,a7<|.tup log,a7<|.ref c,a7<|.ref B.length,a,b,y6,y7,y8,y9] M':=by
 have Y:=aW hB;simp only[kq];walk_at"dl";intro _;refine aP (λi S M'=>∃(kvs:List (D×D)) (y6 y7 y8 y9:Option D),B <+: M'/\sL M' B.length kvs/\(∀p∈kvs,KZ C M' B.length p/\¬bq C (log.take i) p.1)/\(kvs.map (·.1)).Nodup/\kvs.length<=log.length/\(∀k e,aH C k=a7 e->¬bq C (log.take i) k->∃d,aH kvs k=a7 d)/\S=[a7<|az ps rs,a7<|.tup log,a7<|.ref c,a7<|.ref B.length,a,b,y6,y7,y8,y9]) ?_ ?_ ⟨kvs,_,_,_,_,pM,.inl f,λp hp=>⟨v p hp,λ⟨d,z,_⟩=>nomatch z⟩,q,j,λk e g _=>l k e g,rfl⟩;rintro S M' ⟨kvs,y6,y7,y8,y9,pM,f,v,q,j,l,rfl⟩;rw[LO]at v l;refine⟨trivial,?_⟩;simp only[pP];walk_at"dl";exact .inl<|h _ _ _ (X.trans pM) f v q j l;rintro i y S M' Q ⟨kvs,y6,y7,y8,y9,pM,f,v,q,j,l,rfl⟩ G s;have o:∀k e,aH C k=a7 e->¬bq C (log.take i++[y]) k->∃d,aH kvs k=a7 d:=λk e g r=>l k e g λw=>r<|cu.mpr<|.inl w;have W:=J7 Q;have P:log.take (i+1)=log.take i++[y]:=by rw[L6,Q];rfl
 rw[P]at s;have K:=V y W;have L:=aN pM hB;refine⟨trivial,?_⟩;by_cases F:bw y=u7 "back";obtain⟨t,z,k,J,m,rfl,hs⟩:=uA K F;obtain⟨t',u,I,rfl⟩:=hs;walk_at"dl";refine⟨trivial,⟨ag,ag⟩,?_⟩;rw[aC,show (u7 "back" == u7 "back")=a9 from u3 _];refine bC ⟨_,L,rfl,?_⟩;rw[dY];cases E:aH C (.tup [.int t',.tup [.str u,.int I]]) with
 |none =>
  refine br<|A7.now<|s _ _ ⟨kvs,_,_,_,_,pM,f,λp hp=>⟨(v p hp).1,λw=>?_⟩,q,j,o,rfl⟩;rcases cu.mp w with w|⟨_,w,_⟩
  exact(v p hp).2 w;rw[Dk E]at w;cases w
 |some e =>
  refine bC ⟨_,xi e,L,rfl,by rw[dY,E];rfl,?_⟩;unfold xi;walk_at"dl";refine⟨⟨ag,ag⟩,?_⟩;rw[aC,fA];by_cases A:bO e=z;rw[dT_ A];refine bC ⟨⟨kvs,f⟩,kvs,f,rfl,λ_=>?_⟩;have H:∀p∈GC kvs (.tup [.int t',.tup [.str u,.int I]]),p∈kvs/\p.1≠.tup [.int t',.tup [.str u,.int I]]:=λp hp=>by have:=Lk.mp hp;exact⟨this.1,λe=>by simp[e]at this⟩
  have U:B.length<M'.length:=by rcases f with f|⟨_,f⟩<;>exact aW f
  refine A7.now<|s _ _ ⟨GC kvs<|.tup [.int t',.tup [.str u,.int I]],_,_,_,_,cC pM<|w5 _,.inr ⟨_,LF U⟩,λp hp=>⟨(v p (H p hp).1).1.setN,λw=>?_⟩,(Q6.map _).nodup q,H9 (MS _ _) j,λN O T r=>?_,rfl⟩;rcases cu.mp w with w|⟨_,_,w⟩
  exact(v p (H p hp).1).2 w;exact(H p hp).2 w.symm;rw[CW];by_cases Z:N=.tup [.int t',.tup [.str u,.int I]];exact t4 (cu.mpr<|.inr ⟨F,by rw[Av E];exact dT_ A.symm,Z.symm⟩) r;rw[r9 Z];exact o N O T r;rw[dF_ A];refine br<|A7.now<|s _ _ ⟨kvs,_,_,_,_,pM,f,λp hp=>⟨(v p hp).1,λw=>?_⟩,q,j,o,rfl⟩;rcases cu.mp w with w|⟨_,w,_⟩
  exact(v p hp).2 w;rw[Av E]at w;exact A (oT_ w).symm
 have r:∀p,bq C (log.take i++[y]) p->bq C (log.take i) p:=λp w=>by
  rcases cu.mp w with w|⟨w,_,_⟩
  exact w;exact t4 w F
 obtain⟨t,z,k,J,x,ds,rfl,_⟩:=K;walk_at"dl";refine⟨trivial,⟨ag,ag⟩,?_⟩;rw[aC,show (x==u7 "back")=bt from beq_eq_false_iff_ne.mpr F];exact br<|A7.now<|s _ _ ⟨kvs,_,_,_,_,pM,f,λp hp=>⟨(v p hp).1,λw=>(v p hp).2<|r _ w⟩,q,j,o,rfl⟩
theorem Ez(A:∀d∈log,aG ps rs d)(I:log.length<=1000)(_:C.length<=log.length)(P:M <+: B)(hB:B[c]?=a7 (.dkt<|rS C))(v:∀p∈kvs,KZ C M' B.length p)(l:∀k e,aH C k=a7 e->∃d,aH kvs k=a7 d)(O:(kvs.map (·.1)).Nodup)(N:kvs.length<=log.length)(pM:B <+: M')(g:M'[B.length]?=a7 (.dkt kvs))(h:∀n B kvs,M <+: B->sL B n kvs->(∀p∈kvs,KZ C B n p/\¬bq C log p.1)->(kvs.map (·.1)).Nodup->kvs.length<=log.length->(∀k e,aH C k=a7 e->¬bq C log k->∃d,aH kvs k=a7 d)->R (.ref n) B):kr (EE M R) [a7<|az ps rs,a7<|.tup log,a7<|.ref c,a7<|.ref B.length,a,b,y6,y7,y8,y9] M':=by
 have Y:=aW hB;simp only[kr];walk_at"dl";intro _;refine eG (λys S M'=>∃(y6 y7 y8 y9:Option D),(∀y∈ys,y∈log)/\B <+: M'/\M'[B.length]?=a7 (.dkt kvs)/\(∀p∈kvs,KZ C M' B.length p)/\S=[a7<|az ps rs,a7<|.tup log,a7<|.ref c,a7<|.ref B.length,a,b,y6,y7,y8,y9]) ?_ ?_ _ _ _ ⟨_,_,_,_,λ_ q=>q,pM,g,v,rfl⟩;rintro S M' ⟨y6,y7,y8,y9,_,pM,g,v,rfl⟩;refine⟨trivial,?_⟩;exact Ey A I P hB v l O N pM g h;rintro y ys S M' ⟨y6,y7,y8,y9,i,pM,g,v,rfl⟩ G j;have J:=i y (by simp);have r:=A y J;have L:=aN pM hB;have f:∀z∈ys,z∈log:=λz q=>i z<|D0 _ q;refine⟨trivial,?_⟩;by_cases F:bw y=u7 "change";obtain⟨t,z,k,o,m,s,rfl,hs⟩:=sB r F;obtain⟨t',Q,K,rfl⟩:=hs;walk_at"dl";refine⟨trivial,⟨ag,ag⟩,?_⟩;rw[aC,show (u7 "change" == u7 "change")=a9 from u3 _];refine bC ⟨_,L,rfl,?_⟩;rw[dY];cases E:aH C (.tup [.int t',.tup [.str Q,.int K]]) with
 |none=>exact br<|A7.now<|j _ _ ⟨_,_,_,_,f,pM,g,v,rfl⟩
 |some e=>refine bC ⟨_,xi e,L,rfl,by rw[dY,E];rfl,?_⟩;unfold xi;walk_at"dl";refine⟨⟨ag,ag⟩,?_⟩;rw[aC,fA];by_cases u:bO e=z;rw[dT_ u];obtain⟨d,g1⟩:=l _ _ E;obtain⟨T,U,s',h1,h2,H,w⟩:=v _<|bU g1;dsimp only at h1 H;subst h1;refine bC ⟨kvs,_,g,rfl,g1,_,2,w,rfl,?_⟩;exact A7.now<|j _ _ ⟨_,_,_,_,f,cC pM (by lia),bf (by lia) g,λp hp=>(v p hp).setM w,rfl⟩;rw[dF_ u];exact br<|A7.now<|j _ _ ⟨_,_,_,_,f,pM,g,v,rfl⟩
 obtain⟨t,z,k,o,x,ds,rfl,_⟩:=r;walk_at"dl";refine⟨trivial,⟨ag,ag⟩,?_⟩;rw[aC,show (x==u7 "change")=bt from beq_eq_false_iff_ne.mpr F];exact br<|A7.now<|j _ _ ⟨_,_,_,_,f,pM,g,v,rfl⟩
end
theorem AS:C8 ka 10 xL:=by
 rintro ds M R ⟨ps,rs,log,rfl,V,v,I,h⟩;simp only[xL];walk_at"dl";refine⟨ps,rs,log,rfl,V,v,I,λc B W hB=>?_⟩;have t:=bn (rs:=rs) (log:=log);have kl:=cA (log:=log) (k:=u7 "say");have K:=jT v (λ_ q=>q) t;have Y:=t.len;have X:=t.nd;have A:=t.en;generalize aT rs log=C at h t Y K X A hB;have sp:∀p∈C,St p.1:=λp hp=>by rw[(A p hp).1];exact(K p hp).1.st
 have cB:=aW hB;simp only[pR,pQ];walk_at"dl";refine⟨_,.inl<|ae hB,λ_=>?_⟩;have r:∀M',B <+: M'->M'[c]?=(B++[MO.dkt []])[c]?:=λM' p=>(aN p hB).trans (ae hB).symm;refine aP (λi S M'=>∃(kvs:List (D×D)) (a b:Option D),B <+: M'/\M'[B.length]?=a7 (.dkt kvs)/\(∀p∈kvs,KZ C M' B.length p)/\(∀p∈C.take i,(aH kvs p.1).isSome)/\(kvs.map (·.1)).Nodup/\kvs.length<=i/\S=[a7<|az ps rs,a7<|.tup log,a7<|.ref c,a7<|.ref B.length,a,b,a8,a8,a8,a8]) ?_ ?_ ⟨[],_,_,bA,ak,(λ_ z=>nomatch z),(λ_ z=>nomatch z),.nil,w5 _,rfl⟩;rintro S M' ⟨kvs,a,b,pM,n,x,l,w,o,rfl⟩;rw[x3,jX,LO]at l;have L:kvs.length<=C.length:=by rw[<-jX (kvs:=C)];simpa using o
 have m:∀k e,aH C k=a7 e->∃d,aH kvs k=a7 d:=λk e g=>Ow.mp<|l _<|bU g;refine⟨r _ pM,?_⟩;exact Ez v I (by lia) W hB x m w (by lia) pM n h;rintro i y S M' Q ⟨kvs,a,b,pM,n,x,l,w,o,rfl⟩ G E;unfold rS at Q;rw[J3,D8]at Q;obtain⟨p,hp,rfl⟩:=Mp.mp Q;have J:=J7 hp;have hi:=(A5.mp hp).1;have U:C.take (i+1)=C.take i++[p]:=by rw[L6,hp];rfl
 have N:=sp p J;have F:=gJ X J;have O:=aW n;refine⟨r _ pM,?_⟩;rw[U]at E;obtain⟨s,Z⟩:=N.tup;have H:=N.key;obtain⟨k,e⟩:=p;dsimp only at Z F H;subst Z;simp only[Function.comp_apply,xi];walk_at"dl";have P:atI [D.str<|aX e,mO e,.str<|bO e,GV e,DH e] 3=a7 (GV e):=av (j:=3) rfl;have T:atI [D.str<|aX e,mO e,.str<|bO e,GV e,DH e] 4=a7 (DH e):=av (j:=4) rfl;simp only[P,T];refine⟨trivial,ao (by lia),kvs,ae n,H,ay (by lia),?_⟩;refine A7.now<|E _ _ ⟨gx kvs (.tup s)<|.ref M'.length,_,_,cC (pM.trans bA)<|w5 _,dq<|ae n,λq f=>?_,λq f=>?_,oA w,?_,rfl⟩;rcases vH f with rfl|f;exact⟨e,M'.length,_,rfl,O,F,bf (by lia) ak⟩;exact(x q f).more.setN;by_cases u:q.1=.tup s;rw[u,iI];rfl;rw[fy u];rcases I9.mp f with f|f;exact l q f;have:q=(.tup s,e):=by simpa using f
 exact t4 (by rw[this]) u;have:=yD (kvs:=kvs) (k:=.tup s) (d:=.ref M'.length);lia
theorem BH(T:Tops P w K mg base):x5 P w K mg base 2 "_law_shown" tz ka:=x5.byD (N:=["_law_house_here","_law_log_here","_law_counting_here","_law_shown_here","_law_stamp","_law_told_here","_law_time","_law_hand","_law_number","_law_act_here"]) T.b T.f_shown (by walk_at"sc") ze (by have:=tM T;walk_at"dv") AS
def pz:A2:=λds M R=>∃(ps:List (c7×Int)) (a:List (c7×List c7)) (log:List D) (n:c7) (e s:D) (m:Nat),ds=[.tup log,.str n,F4 e,.ref m]/\(∀d∈log,aG ps a d)/\log.length<=1000/\aG ps a e/\bw e=u7 "say"/\0<=tN e/\M[m]?=a7 (.lst [.str<|aX e,.str<|bO e,s,DH e])/\R (.bl<|fh log n e) M
theorem BZ:da pz yN:=by rintro ds M R ⟨ps,a,log,n,e,s,m,rfl,_⟩;rfl
theorem wB(X:(ws.map (·.1)).Nodup)(y:0<=num):∃c:Int,(aH (dictOf<|ws.map λp=>(p.1,D.int p.2)) h).getD (.int 0)=.int c/\cb ws h num=decide (c > num):=by
 have C:((ws.map λp=>(p.1,D.int p.2)).map (·.1)).Nodup:=by rw[J3];exact X
 rw[sk _ C];unfold cb;cases a:ws.find? λp=>decide (p.1=h) with
 |none =>
  refine⟨0,?_,(dF_<|by lia).symm⟩;cases R:aH (ws.map λp=>(p.1,D.int p.2)) h with
  |none=>rfl
  |some v=>obtain⟨p,hp,e⟩:=C1.mp<|bU R;have:=Ph.mp a p hp;injection e with e _;exact t4 (dT_ e) this
 |some p =>
  have hp:=Ps a;have e:p.1=h:=by have:=NK a;exact oT_ this
  have:=gJ C<|MR (f:=λp=>(p.1,D.int p.2)) hp;dsimp only at this;rw[<-e,this];exact⟨p.2,rfl,rfl⟩
noncomputable def AJ(name:c7)(e d:D):Bool:=decide (bO d=name)&&((decide (bw d=u7 "seen")&&decide (rj d=F4 e))||((decide (bw d=u7 "read")&&decide (aX d=aX e))&&cb (Ba<|mO d) (lY e) (tN e)))
theorem Br:fh log name e=(decide (bO e=name)||log.any (AJ name e)):=by
 unfold fh;congr 1;rw[Om,O7,decide_eq_true_iff,Lh,Lh];unfold nZ nW fu kinds;simp only[C1,List.mem_filter,t5];constructor;rintro(⟨d,⟨⟨h1,h2⟩,b⟩,a⟩|⟨v,⟨d,⟨⟨⟨h1,h2⟩,b⟩,a⟩,rfl⟩,w⟩);exact⟨d,h1,by simp[AJ,h2,b,a]⟩;exact⟨d,h1,by simp[AJ,h2,b,a,w]⟩;rintro⟨d,h1,h⟩;simp only[AJ,F3,O7,t5]at h;rcases h with⟨b,⟨h2,a⟩|⟨⟨h2,a⟩,w⟩⟩
 exact .inl ⟨d,⟨⟨h1,h2⟩,b⟩,a⟩;exact .inr ⟨_,⟨d,⟨⟨⟨h1,h2⟩,b⟩,a⟩,rfl⟩,w⟩
def oj:u9:=bd<|dC<|.bl bt
def om:u9:=B6 (nP (au<|u5 A9 (u5 v9 (ac 5)<|dC<|.int 0)<|ac 1)<|nP (au<|u5 A9 (u5 v9 (ac 7)<|dC<|.int 0)<|dC<|.str "read")<|au<|u5 A9 (u5 v9 (ac 7)<|dC<|.int 1)<|u5 v9 (ac 3)<|dC<|.int 0) (B6 (au<|u5 MW (PH qP (v8 qR<|aa (u5 v9 (ac 7)<|dC<|.int 2) ah)<|aa (u5 v9 (ac 2)<|dC<|.int 1)<|aa (dC<|.int 0) ah)<|u5 v9 (ac 3)<|dC<|.int 3) (bd<|dC<|.bl a9) aI) aI
def uR:u9:=aB (jk (bZ<|ac 0) (eD 4<|aA (af 4)<|aA (af 5)<|aA (af 6)<|aA (af 7) eE)<|aB (B6 (nP (au<|u5 A9 (u5 v9 (ac 5)<|dC<|.int 0)<|ac 1)<|nP (au<|u5 A9 (u5 v9 (ac 7)<|dC<|.int 0)<|dC<|.str "seen")<|au<|u5 A9 (u5 v9 (ac 7)<|dC<|.int 1)<|ac 2) (bd<|dC<|.bl a9) aI)<|om)<|oj
def Dv:u9:=aB (B6 (au<|u5 A9 (u5 v9 (ac 3)<|dC<|.int 1)<|ac 1) (bd<|dC<|.bl a9) aI)<|uR
theorem Em:C8 pz 8 Dv:=by
 rintro ds M R ⟨ps,rs,log,n,e,s,m,rfl,hd,hl,Z,ke,nn,X,h⟩;rw[Br]at h;have H:=Z.st;obtain⟨t,z,k,ab,r,u,s0,U,_⟩:=jB Z ke;have e1:F4 e=.tup [.int t,.tup [.str z,.int k]]:=by rw[U];rfl
 have e2:lY e=.tup [.str z,.int k]:=by rw[U];rfl
 have e5:DH e=.int (tN e):=by rw[U];rfl
 simp only[Dv];walk_at"dl";refine⟨_,.inl X,?_⟩;rw[Ms];refine⟨⟨ag,ag⟩,?_⟩;rw[aC];by_cases K:bO e=n;rw[beq_iff_eq.mpr K];rw[dT_ K,Bool.true_or]at h;exact bC<|aO.now h;rw[beq_eq_false_iff_ne.mpr K];rw[dF_ K,OX]at h;refine br ?_;simp only[uR];walk_at"dl";intro _;refine aP (λi S M'=>∃a b c d,M <+: M'/\(log.take i).any (AJ n e)=bt/\S=[a7<|.tup log,a7<|.str n,a7<|F4 e,a7<|.ref m,a,b,c,d]) ?_ ?_ ⟨_,_,_,_,Ml,rfl,rfl⟩;rintro S M' ⟨a,b,c,d,pM,P,rfl⟩;rw[LO]at P;rw[P]at h;refine⟨trivial,?_⟩;simp only[oj];walk_at"dl";exact aO.bl h pM;rintro i y S M' hy ⟨a,b,c,d,pM,P,rfl⟩ G E;have hm:=J7 hy;have et:log.take (i+1)=log.take i++[y]:=by rw[L6,hy];rfl
 have J:AJ n e y=a9->R (.bl a9) M:=λq=>by rw[Lh.mpr ⟨y,hm,q⟩]at h;exact h
 have Q:AJ n e y=bt->(log.take<|i+1).any (AJ n e)=bt:=λq=>by rw[et,List.any_append,P,O0,q];rfl
 have C:=aN pM X;have dy:=hd y hm;refine⟨trivial,?_⟩;obtain⟨t',o,I,g,x,ds,rfl,h1,h2,hp,Y⟩:=id dy;walk_at"dl";have l:AJ n e (.tup [.int t',.tup [.str o,.int I],.int g,.tup<|.str x::ds])=(decide (o=n)&&((decide (x=u7 "seen")&&decide (rj (.tup [.int t',.tup [.str o,.int I],.int g,.tup<|.str x::ds])=F4 e))||((decide (x=u7 "read")&&decide (aX (.tup [.int t',.tup [.str o,.int I],.int g,.tup<|.str x::ds])=aX e))&&cb (Ba<|mO<|.tup [.int t',.tup [.str o,.int I],.int g,.tup<|.str x::ds]) (lY e) (tN e)))):=rfl;have sr:u7 "seen"≠u7 "read":=by decide +kernel
 have v:(o=n->x=u7 "seen"->rj (.tup [.int t',.tup [.str o,.int I],.int g,.tup<|.str x::ds])≠F4 e)->om ⟨A7 M G,aO M R,λS' M'=>oj (EE M R) S' M',A7 M G⟩ [a7<|.tup log,a7<|.str n,a7<|F4 e,a7<|.ref m,a7<|.int t',a7<|.tup [.str o,.int I],a7<|.int g,a7<|.tup<|.str x::ds] M':=λns=>by
  have s0:o=n->(decide (x=u7 "seen")&&decide (rj (.tup [.int t',.tup [.str o,.int I],.int g,.tup<|.str x::ds])=F4 e))=bt:=λq=>by by_cases c:x=u7 "seen";rw[dF_<|ns q c,O2];rw[dF_ c];rfl
  simp only[om];walk_at"dl";refine⟨⟨ag,ag⟩,?_⟩;rw[aC,fA];by_cases A:o=n;rw[dT_ A]at l ⊢;rw[s0 A,OX,NI]at l;refine bC ⟨⟨ag,ag⟩,?_⟩;rw[aC,fA];by_cases T:x=u7 "read";rw[dT_ T];subst T;obtain⟨r',vs,rfl,hs,rfl,q1,q2,q3⟩:=Y.read rfl;have f:AJ n e (.tup [.int t',.tup [.str o,.int I],.int g,.tup [.str<|u7 "read",.str r',.tup<|jL hs]])=(decide (r'=aX e)&&cb hs (lY e) (tN e)):=by rw[l,dT_ rfl,NI];show (decide (r'=aX e)&&cb (Ba<|.tup<|jL hs) (lY e) (tN e))=_;rw[uH]
  refine bC ?_;rw[Ms];refine⟨_,.inl C,?_⟩;rw[Nh];refine⟨⟨ag,ag⟩,?_⟩;rw[aC,fA];by_cases W:r'=aX e;rw[dT_ W]at f ⊢;rw[NI]at f;refine bC ?_;obtain⟨B,w1,w2⟩:=wB (h:=lY e) q3 nn;rw[w2]at f;rw[e2]at w1;have e3:atI [D.str<|aX e,.str<|bO e,s,DH e] 3=a7 (.int<|tN e):=(av (j:=3) rfl).trans<|t9 a7 e5;rw[e1]at E ⊢;simp only[QW,Ms];refine⟨hs.map λp=>(p.1,.int p.2),by unfold jL;rw[J3];rfl,λp hp=>?_,by rw[x3];lia,⟨_,ak⟩,_,ak,rfl,?_⟩;obtain⟨w,V,rfl⟩:=C1.mp hp;obtain⟨x,y,e4⟩:=q1 w V;dsimp only;rw[e4];exact⟨rfl,rfl⟩;rw[w1];refine⟨_,.inl<|ae C,?_⟩;rw[e3];by_cases O:B > tN e;rw[dT_ O]at f;show if decide (tN e<B)=a9 then _ else _
  rw[dT_<|show tN e<B from O];exact bC<|aO.bl (J f)<|pM.trans bA;rw[dF_ O]at f;show if decide (tN e<B)=a9 then _ else _
  rw[dF_<|show ¬tN e<B from O];exact br<|A7.now<|E _ _ ⟨_,_,_,_,pM.trans bA,Q f,rfl⟩;rw[dF_ W]at f ⊢;exact br<|A7.now<|E _ _ ⟨_,_,_,_,pM,Q f,rfl⟩;rw[dF_ T]at l ⊢;exact br<|A7.now<|E _ _ ⟨_,_,_,_,pM,Q l,rfl⟩;rw[dF_ A]at l ⊢;exact br<|A7.now<|E _ _ ⟨_,_,_,_,pM,Q l,rfl⟩
 refine⟨trivial,⟨ag,ag⟩,?_⟩;rw[aC,fA];by_cases A:o=n;rw[dT_ A]at l ⊢;refine bC ⟨⟨ag,ag⟩,?_⟩;rw[aC,fA];by_cases L:x=u7 "seen";rw[dT_ L]at l ⊢;obtain⟨m',rfl,F⟩:=Y.seen L;refine bC ?_;rw[Ms];refine⟨⟨F.ok,H.ok⟩,?_⟩;rw[show w6=28+2 from rfl,F.eq H];by_cases N:m'=F4 e;rw[dT_ N];refine bC<|aO.bl (J ?_) pM;rw[l,show decide (rj (D.tup [.int t',.tup [.str o,.int I],.int g,.tup [.str x,m']])=F4 e)=a9 from dT_ N];rfl;rw[dF_ N];exact br<|v λ_ _=>N;rw[dF_ L];exact br<|v λ_ q=>t4 q L;rw[dF_ A];exact br<|v λq=>t4 q A
theorem Fe(T:Tops P w K mg base):x5 P w K mg base 1 "_law_read" yN pz:=x5.byD (N:=["_law_log_here","_law_name","_law_stamp","_law_told_here","_law_time","_law_hand","_law_number","_law_act_here"]) T.b T.f_read (by walk_at"sc") BZ (by walk_at"dv") Em
noncomputable def NZ:Nat->D->Bool
 | 0,_=>bt
 |_+1,.int _=>a9
 |_+1,.str _=>a9
 |n+1,.tup xs=>decide (xs.length<=99)&&xs.all (NZ n)
 |_,_=>bt
def KQ(M:v5)(n:Nat)(a b:D):Prop:=(a=b/\NZ n a=a9)\/∃(i j m:Nat) (xs:List D),n=m+1/\a=.ref i/\b=.ref j/\am M i xs/\am M j xs/\xs.length<=1000/\xs.all (NZ m)=a9
def dk:Nat->A2:=λn ds M R=>∃a b,ds=[a,b]/\KQ M n a b/\R (.bl a9) M
theorem zk:∀n ds M R,dk n ds M R->ds.length=["_law_told_here","_law_due"].length:=by rintro n ds M R ⟨a,b,rfl,_⟩;rfl
theorem yV:∀ds M R,¬dk 0 ds M R:=by
 rintro ds M R ⟨a,b,rfl,h,_⟩;rcases h with⟨rfl,h⟩|⟨i,j,m,xs,h,_⟩
 cases a<;>cases h;cases h
def kQ(n:Nat):u9:=bd<|eR (u5 A9 (v8 jN<|aa (ac 0) ah)<|v8 jN<|aa (ac 1) ah)<|v8 GX<|aa (Lg 2 [] (dZip<|aa (ac 0)<|aa (ac 1) ah) (eD 2<|aA (af 0)<|aA (af 1) eE) pD<|v8 (dk n)<|aa (ac 0)<|aa (ac 1) ah) ah
def kR(n:Nat):u9:=aB (B6 (nP (au<|v8 qQ<|aa (ac 1)<|aa (dC<|.ty "tuple") ah)<|Da<|au<|v8 qQ<|aa (ac 0)<|aa (dC<|.ty "tuple") ah) (bd<|dC<|.bl bt) aI)<|kQ n
def kT(n:Nat):u9:=aB (B6 (nP (au<|v8 qQ<|aa (ac 1)<|aa (dC<|.ty "list") ah)<|Da<|au<|v8 qQ<|aa (ac 0)<|aa (dC<|.ty "list") ah) (bd<|dC<|.bl bt) aI)<|kR n
def ip(n:Nat):u9:=aB (B6 (au<|v8 qQ<|aa (ac 1)<|aa (dC<|.ty "int") ah) (bd<|eR (v8 qQ<|aa (ac 0)<|aa (dC<|.ty "int") ah)<|eR (Ak<|v8 qQ<|aa (ac 0)<|aa (dC<|.ty "bool") ah)<|u5 A9 (ac 0)<|ac 1) aI)<|kT n
def eY(n:Nat):u9:=aB (B6 (au<|v8 qQ<|aa (ac 1)<|aa (dC<|.ty "str") ah) (bd<|eR (v8 qQ<|aa (ac 0)<|aa (dC<|.ty "str") ah)<|u5 A9 (ac 0)<|ac 1) aI)<|ip n
def iQ(n:Nat):u9:=aB (B6 (au<|u5 MV (ac 1)<|dC .non) (bd<|u5 MV (ac 0)<|dC .non) aI)<|eY n
theorem AY:∀n ds M R,dk (n+1) ds M R->iQ n (EE M R) (ci ["_law_told_here","_law_due"] ds) M:=by
 rintro n ds M R ⟨a,b,rfl,hs,h⟩;have f:∀(xs:List D) (H:v5->Prop),H M->xs.length<=1000->xs.all (NZ n)=a9->mh H (eD 2<|aA (af 0)<|aA (af 1) eE) pD (v8 (dk n)<|aa (ac 0)<|aa (ac 1) ah) (λd o=>GX [d] o<|aO M R) (L2.zipD xs xs) [] [a8,a8] M:=by
  intro xs H B g ok;refine bV (λ_=>.bl a9) (λS=>∃c d,S=[c,d]) B _ _ _ (λy Q S q=>?_) ⟨_,_,rfl⟩ ?_ ?_;obtain⟨c,d,rfl⟩:=q;obtain⟨x,u,rfl⟩:∃x,x∈xs/\y=.tup [x,x]:=by
   obtain⟨i,hi⟩:=LR Q;unfold L2.zipD at hi;rw[D8]at hi;cases e:(xs.zip xs)[i]? with
   |none=>rw[e]at hi;cases hi
   |some p=>rw[e]at hi;obtain⟨t,l⟩:=List.getElem?_zip_eq_some.mp e;have:p.1=p.2:=C7<|t.symm.trans l;refine⟨p.1,J7 t,?_⟩;rw[<-C7 hi];show D.tup [p.1,p.2]=_;rw[<-‹p.1=p.2›]
  refine⟨[a7 x,a7 x],⟨_,_,rfl⟩,λY r=>?_⟩;walk_at"dl";exact⟨trivial,x,x,rfl,.inl ⟨rfl,E7.mp ok x u⟩,r⟩;rw[G0];unfold L2.zipD;rw[x3,P5];exact ao (by lia);rw[K9];obtain⟨k,s⟩:∃k,(L2.zipD xs xs).map (λ_=>D.bl a9)=(Nl k a9).map D.bl:=⟨(L2.zipD xs xs).length,by rw[List.map_const',List.map_replicate]⟩
  rw[s];refine⟨Nl k a9,ap,?_⟩;rw[show (Nl k a9).all id=a9 by simp];exact aO.bl h bA
 rcases hs with⟨rfl,ok⟩|⟨i,j,m,xs,e,rfl,rfl,hi,L,g,ok⟩
 cases a with
 |int k=>simp only[iQ,eY,ip];walk_at"dl";simp(config:={ decide:=a9 }) only[and_self,true_and,↓reduceIte,v4,w4,u3];exact⟨rfl,aO.now h⟩
 |str k=>simp only[iQ,eY];walk_at"dl";simp(config:={ decide:=a9 }) only[and_self,true_and,↓reduceIte,v4,w4,u3];exact⟨rfl,aO.now h⟩
 |tup xs=>have H:(decide (xs.length<=99)&&xs.all (NZ n))=a9:=ok;rw[F3,t5]at H;simp only[iQ,eY,ip,kT,kR,kQ];walk_at"dl";simp(config:={ decide:=a9 }) only[and_self,true_and,↓reduceIte,w4,u3,show ∀k:Int,v4 M w6 (.int k) (.int k)=a9 from λk=>by simp[v4],Mh,A8];exact⟨rfl,xs,xs,_,_,⟨rfl,rfl⟩,⟨rfl,rfl⟩,f xs _ ⟨trivial,trivial⟩ (by lia) H.2⟩
 |_=>cases ok
 have:m=n:=by lia
 subst this;simp only[iQ,eY,ip,kT,kR,kQ];have t:=hi.ty;have l:=L.ty;simp only[E2]at t l;walk_at"dl";simp(config:={ decide:=a9 }) only[t,l,and_self,true_and,↓reduceIte];refine⟨xs,hi,xs,L,⟨rfl,rfl⟩,?_⟩;rw[show v4 M w6 (.int (xs.length:Int)) (.int (xs.length:Int))=a9 by simp[v4]];simp only[Mh,A8,↓reduceIte];exact⟨xs,xs,_,_,⟨hi,rfl⟩,⟨L,rfl⟩,f xs _ ⟨hi,L⟩ g ok⟩
theorem Af(T:Tops P w K mg base)(n:Nat)(C:x5 P w K mg base (0+n) "_law_alike" tI (dk n)):TopB mg B_ C_->List.Nodup (["_law_told_here","_law_due"]:List c7)->DerT P w K mg base (0+n) "_law_alike" ["_law_told_here","_law_due"] (top 63) (iQ n):=by walk_at"dv"
theorem vL(T:Tops P w K mg base):∀n,x5 P w K mg base (0+n) "_law_alike" tI (dk n)
 | 0=>x5.never T.f_alike yV
 |n+1=>x5.byD (N:=["_law_told_here","_law_due"]) T.b T.f_alike (by walk_at"sc") (zk<|n+1) (Af T n<|vL T n)<|AY n
noncomputable def MU:List D:=[.bl bt,.bl a9,.bl bt,.bl bt,.bl bt,.bl bt,.bl bt,.bl bt,.bl bt,.bl bt,.bl bt,.bl bt]
def kb:A2:=λds M R=>∃q,ds=[.ref q]/\M[q]?=a7 (.exc<|u7 "NoMessage")/\R (.ref M.length) (M++[.lst MU])
theorem zh:da kb tF:=by rintro ds M R ⟨q,rfl,_⟩;rfl
def qk:u9:=bd<|u5 aF (ac 1)<|gW<|aa (wc T_ "Strange"<|ac 0)<|aa (wc T_ "NoRow"<|ac 0)<|aa (wc T_ "Clash"<|ac 0)<|aa (wc T_ "Gap"<|ac 0) ah
def ql:u9:=aB (bg (u5 aF (ac 1)<|gW<|aa (wc T_ "NoSaying"<|ac 0)<|aa (wc T_ "NoName"<|ac 0)<|aa (wc T_ "NoWhat"<|ac 0)<|aa (wc T_ "NoDeed"<|ac 0) ah) 1)<|qk
def ye:u9:=aB (bg (gW<|aa (wc T_ "NoRoom"<|ac 0)<|aa (wc T_ "NoMessage"<|ac 0)<|aa (wc T_ "NoHouse"<|ac 0)<|aa (wc T_ "NotYours"<|ac 0) ah) 1)<|ql
theorem AV:C8 kb 2 ye:=by
 rintro ds M R ⟨q,rfl,g,h⟩;simp only[ye];walk_at"dl";have t:mB T_ (u7 "NoMessage") (u7 "NoRoom")=a7 bt:=by decide +kernel
 have l:mB T_ (u7 "NoMessage") (u7 "NoMessage")=a7 a9:=by decide +kernel
 have Q:mB T_ (u7 "NoMessage") (u7 "NoHouse")=a7 bt:=by decide +kernel
 have J:mB T_ (u7 "NoMessage") (u7 "NotYours")=a7 bt:=by decide +kernel
 simp only[g,t,l,Q,J];refine⟨ao (by decide),?_⟩;have b:=ae (a:=MO.lst [.bl bt,.bl a9,.bl bt,.bl bt]) g;have c:(M++[MO.lst [.bl bt,.bl a9,.bl bt,.bl bt]])[M.length]?=a7 (.lst [.bl bt,.bl a9,.bl bt,.bl bt]):=ak;have j:M <+: M++[MO.lst [.bl bt,.bl a9,.bl bt,.bl bt]]:=bA;generalize M++[MO.lst [.bl bt,.bl a9,.bl bt,.bl bt]]=Z at b c j;generalize m:M.length=f at c;simp only[ql];walk_at"dl";have t:mB T_ (u7 "NoMessage") (u7 "NoSaying")=a7 bt:=by decide +kernel
 have l:mB T_ (u7 "NoMessage") (u7 "NoName")=a7 bt:=by decide +kernel
 have Q:mB T_ (u7 "NoMessage") (u7 "NoWhat")=a7 bt:=by decide +kernel
 have J:mB T_ (u7 "NoMessage") (u7 "NoDeed")=a7 bt:=by decide +kernel
 simp only[b,t,l,Q,J];refine⟨ao (by decide),_,_,ae c,ak,ao (by decide),?_⟩;simp only[Oo,K9];have g3:=ae (a:=MO.lst [.bl bt,.bl a9,.bl bt,.bl bt,.bl bt,.bl bt,.bl bt,.bl bt])<|ae (a:=MO.lst [.bl bt,.bl bt,.bl bt,.bl bt]) b;have d:(Z++[MO.lst [.bl bt,.bl bt,.bl bt,.bl bt]]++[MO.lst [.bl bt,.bl a9,.bl bt,.bl bt,.bl bt,.bl bt,.bl bt,.bl bt]])[(Z++[MO.lst [.bl bt,.bl bt,.bl bt,.bl bt]]).length]?=a7 (.lst [.bl bt,.bl a9,.bl bt,.bl bt,.bl bt,.bl bt,.bl bt,.bl bt]):=ak;have p:=(j.trans<|bA (mo:=MO.lst [.bl bt,.bl bt,.bl bt,.bl bt])).trans<|bA (mo:=MO.lst [.bl bt,.bl a9,.bl bt,.bl bt,.bl bt,.bl bt,.bl bt,.bl bt]);generalize Z++[MO.lst [.bl bt,.bl bt,.bl bt,.bl bt]]++[MO.lst [.bl bt,.bl a9,.bl bt,.bl bt,.bl bt,.bl bt,.bl bt,.bl bt]]=B at g3 d p;generalize (Z++[MO.lst [.bl bt,.bl bt,.bl bt,.bl bt]]).length=i at d;simp only[qk];walk_at"dl";have t:mB T_ (u7 "NoMessage") (u7 "Strange")=a7 bt:=by decide +kernel
 have l:mB T_ (u7 "NoMessage") (u7 "NoRow")=a7 bt:=by decide +kernel
 have Q:mB T_ (u7 "NoMessage") (u7 "Clash")=a7 bt:=by decide +kernel
 have J:mB T_ (u7 "NoMessage") (u7 "Gap")=a7 bt:=by decide +kernel
 simp only[g3,t,l,Q,J];refine⟨ao (by decide),_,_,ae d,ak,ao (by decide),?_⟩;simp only[Oo,K9];have e:=(p.trans<|bA (mo:=MO.lst [.bl bt,.bl bt,.bl bt,.bl bt])).trans<|bA (mo:=MO.lst MU);exact aO.chgL .refl h (p.trans bA).length_le ak e<|.cons (.bl _)<|.cons (.bl _)<|.cons (.bl _)<|.cons (.bl _)<|.cons (.bl _)<|.cons (.bl _)<|.cons (.bl _)<|.cons (.bl _)<|.cons (.bl _)<|.cons (.bl _)<|.cons (.bl _)<|.cons (.bl _) .nil
theorem BJ(T:Tops P w K mg base):KW P w K mg base 1 "_law_kinds" tF kb:=KW.by (N:=["_law_e","_law_kinds_here"]) T.b T.f_kinds (by walk_at"sc") zh (by have:=T.cl;walk_at"dv") AV
def dF:A2:=λds M R=>∃(ps:List (c7×Int)) (a:List (c7×List c7)) (log:List D) (s:D) (e:c7),ds=[az ps a,.tup log,s,.str e]/\HouseF ps a/\(∀d∈log,aG ps a d)/\log.length<64/\St s/\aH (bj a log) s=a8/\R (.bl a9) M
theorem tZ:da dF lA:=by rintro ds M R ⟨ps,a,log,s,e,rfl,_⟩;rfl
theorem kZ(hi:am M i xs)(hj:am M j xs)(h:∀x∈xs,w4 M 29 x=a9/\v4 M 29 x x=a9):(w4 M w6 (.ref i)=a9/\w4 M w6 (.ref j)=a9)/\v4 M w6 (.ref i) (.ref j)=a9:=⟨⟨oM (n:=29) hi λx a=>(h x a).1,oM (n:=29) hj λx a=>(h x a).1⟩,(vW (n:=29) hi hj).trans<|oZ λx a=>(h x a).2⟩
def kt:u9:=bd<|dC<|.bl a9
def gv:u9:=B6 (au<|u5 NX (ac 5)<|u5 aF (Lg 1 [] (bz<|aa (dC<|.int 12) ah) (af 0) pD<|u5 A9 (ac 0)<|dC<|.int 1)<|gW<|aa (dC<|.bl a9) ah) (bd<|dC<|.bl bt) aI
def ku:u9:=aB (dTry T_ "TalkError" 6 (PB (au<|u5 A9 (ac 4)<|dC<|.int 0) (AR<|NW cr<|aa (ac 0)<|aa (ac 1)<|aa (ac 3)<|aa (ac 2) ah)<|AR<|NW bu<|aa (ac 0)<|aa (ac 1)<|aa (ac 2) ah)<|bg (u5 aF (v8 kb<|aa (ac 6) ah)<|gW<|aa (dIsV T_<|ac 6) ah) 5)<|gv
def pT:u9:=aB (jk (bz<|aa (dC<|.int 2) ah) (af 4)<|aB (bg (gW ah) 5)<|ku)<|kt
theorem qO(m:B[q3]?=a7 (.lst<|MU++[.bl a9]))(k:∀B',B <+: B'->E.nx [a,b,c,d,y4,a7<|.ref q3,y6] B'):gv E [a,b,c,d,y4,a7<|.ref q3,y6] B:=by
 simp only[gv];walk_at"dl";refine⟨⟨by decide,by decide⟩,?_⟩;refine bV (λd=>.bl<|v4 B w6 d<|.int 1) (λS=>∃a,S=[a]) trivial _ _ _ (λx h S g=>?_) ⟨_,rfl⟩ (by rw[G0];exact ao<|by decide) ?_;obtain⟨a,rfl⟩:=g;obtain⟨i,hi⟩:=LR h;obtain⟨_,rfl⟩:=bF.mp hi;refine⟨[a7<|.int<|0+(i:Int)],⟨_,rfl⟩,λY l=>?_⟩;walk_at"dl";exact⟨⟨rfl,rfl⟩,l⟩;rw[K9];have e:(fe 0<|Int.toNat 12).map (λd=>D.bl<|v4 B w6 d<|.int 1)=MU:=rfl;rw[e];refine⟨ao (by decide),_,_,ae ak,ak,ao (by decide),?_⟩;have f:=kZ (M:=B++[MO.lst MU]++[MO.lst [.bl a9]]++[MO.lst<|MU++[.bl a9]]) (i:=q3) (j:=(B++[MO.lst MU]++[MO.lst [.bl a9]]).length) (xs:=MU++[.bl a9]) (.inl<|ae<|ae<|ae m) ap λx h=>by
  have:∃b,x=.bl b:=by simp only[MU,Oo,K9,A4,LN,or_false]at h;rcases h with rfl|rfl|rfl|rfl|rfl|rfl|rfl|rfl|rfl|rfl|rfl|rfl|rfl<;>exact⟨_,rfl⟩
  obtain⟨b,rfl⟩:=this;exact⟨rfl,by cases b<;>rfl⟩
 refine⟨f.1,?_⟩;rw[f.2];exact br<|k _<|(bA.trans bA).trans bA
theorem wv:C8 dF 7 pT:=by
 rintro ds M R ⟨ps,r,log,s,n,rfl,m,j,o,hs,q,h⟩;simp only[pT];walk_at"dl";refine⟨⟨by decide,by decide⟩,?_⟩;refine aP (λi S M'=>∃a b c,M <+: M'/\S=[a7<|az ps r,a7<|.tup log,a7 s,a7<|.str n,a,b,c]) ?_ ?_ ⟨_,_,_,Ml,rfl⟩;rintro S M' ⟨a,b,c,pM,rfl⟩;refine⟨trivial,?_⟩;simp only[kt];walk_at"dl";exact aO.bl h pM;rintro i y S M' Q ⟨a,b,c,pM,rfl⟩ G k;obtain⟨_,rfl⟩:=bF.mp Q;refine⟨trivial,?_⟩;walk_at"dl";refine⟨C4 _,?_⟩;have t:M <+: M'++[MO.lst []]:=pM.trans bA;generalize M'.length=v;generalize M'++[MO.lst []]=d at t;simp only[ku];walk_at"dl";refine⟨⟨rfl,rfl⟩,?_⟩;have g:(d++[MO.exc<|u7 "NoMessage"])[d.length]?=a7 (.exc<|u7 "NoMessage"):=ak;have p:M <+: d++[MO.exc<|u7 "NoMessage"]:=t.trans bA;have l:(List.lookup (u7 "NoMessage") T_).isSome=a9:=by decide +kernel
 split;refine⟨ps,r,log,n,s,rfl,hs,m.pnd,j,o,λ_=>⟨by decide +kernel,?_⟩,λe f=>by rw[q]at f;cases f⟩;generalize d++[MO.exc<|u7 "NoMessage"]=B at g p;generalize d.length=x at g;refine⟨_,rfl,g,?_⟩;simp only[ae g,l];refine⟨trivial,ao (by decide),_,_,ae ak,ak,ao (by decide),?_⟩;exact qO ak λu C=>A7.now<|k _ _ ⟨_,_,_,(((p.trans bA).trans bA).trans bA).trans C,rfl⟩;refine⟨ps,r,log,s,rfl,m,hs,j,o,λ_=>⟨by decide +kernel,?_⟩,λe f=>by rw[q]at f;cases f⟩;generalize d++[MO.exc<|u7 "NoMessage"]=B at g p;generalize d.length=x at g;refine⟨_,rfl,g,?_⟩;simp only[ae g,l];refine⟨trivial,ao (by decide),_,_,ae ak,ak,ao (by decide),?_⟩;exact qO ak λu C=>A7.now<|k _ _ ⟨_,_,_,(((p.trans bA).trans bA).trans bA).trans C,rfl⟩
theorem wS(T:Tops P w K mg base):x5 P w K mg base 9 "_law_refused" lA dF:=x5.byD (N:=["_law_house_here","_law_log_here","_law_stamp","_law_name","_law_way","_law_kinds_here","_law_e"]) T.b T.f_refused (by walk_at"sc") tZ (by have:=gI T;have:=iE T;have:=BJ T;have:=T.cl;walk_at"dv") wv
theorem Fx:da FA EZ:=by rintro ds M R ⟨ns,m,_,_,rfl,_⟩;rfl
theorem zP(hf:HouseF ps rs):Q1 ps/\1<=(aR ps).length/\(aR ps).length<=12:=by
 have f:Q1 ps:=⟨hf.len.2,λq h=>⟨by have:=hf.many q h;lia,(hf.many q h).2⟩⟩
 have n:=nN f.2;refine⟨f,?_,by have:=f.1;lia⟩
 match ps,hf with
 | [],hf=>have:=hf.len.1;simp at this
 |p::ps,hf=>have:=(hf.many p<|by simp).1;rw[aR,List.flatMap_cons,D5,gO];lia
theorem Ab(p:M <+: B)(h:sL M n kvs):sL B n kvs:=by
 rcases h with h|⟨e,h⟩
 exact .inl<|aN p h;exact .inr ⟨e,aN p h⟩
theorem KZ.pre(q:M <+: B)(h:KZ C M n p):KZ C B n p:=by obtain⟨e,m,s,h1,h2,a,d⟩:=h;exact⟨e,m,s,h1,h2,a,aN q d⟩
theorem CD(h:(ps.map (·.1)).Nodup):(aR ps).Nodup:=by unfold aR;rw[Ny,List.pairwise_flatMap];refine⟨λp _=>?_,?_⟩;unfold bR fe;rw[J3,Pe];refine(Ny.mp Qc).imp λ{a b} hne e=>hne ?_;have e:D.tup [.str p.1,.int<|0+(a:Int)]=.tup [.str p.1,.int<|0+(b:Int)]:=e;injection e with e;injection e with _ e;injection e with e;injection e with e;lia;refine(List.pairwise_map.mp<|Ny.mp h).imp λ{a b} hne x hx y hy e=>hne ?_;unfold bR at hx hy;obtain⟨i,_,rfl⟩:=C1.mp hx;obtain⟨j,_,c⟩:=C1.mp hy;rw[<-c]at e;injection e with e;injection e with e _;injection e with e
theorem IN{l:List c7}:(l.map D.str).all (NZ 4)=a9:=E7.mpr λx h=>by obtain⟨y,_,rfl⟩:=C1.mp h;rfl
theorem wK{l m:List c7}{p:c7->Bool}(h:m.Sublist l)(X:l.Nodup):l.filter (λn=>decide (n∈m)&&p n)=m.filter p:=by
 induction h with
 |slnil=>rfl
 |@cons b c a h i=>rw[La]at X;have:¬a∈b:=λz=>X.1<|h.subset z;rw[Mm,dF_ this];exact i X.2
 |@cons_cons b c a h i =>
  rw[La]at X;have e:c.filter (λn=>decide (n∈a::b)&&p n)=c.filter (λn=>decide (n∈b)&&p n):=List.filter_congr λn f=>by have:n≠a:=λz=>X.1<|z ▸ f;simp[this]
  rw[Mm,Mm,e,i X.2,dT_<|Fn,NI]
theorem Fq(f:HouseF ps rs):(jW rs r).Sublist (ps.map (·.1)):=by
 unfold jW;cases R:rs.find? λp=>decide (p.1=r) with
 |none=>exact List.nil_sublist _
 |some p=>exact f.sb p<|Ps R
theorem GR{α:Type}{x:α}{xs:List α}:∃y∈x::xs,atI (x::xs) (-1)=a7 y:=by
 obtain⟨ys,y,e⟩:∃ys y,x::xs=ys++[y]:=⟨(x::xs).dropLast,(x::xs).getLast (by simp),(List.dropLast_concat_getLast<|by simp).symm⟩
 rw[e];exact⟨y,by simp,Do _ _⟩
def uZ:u9:=bd<|eR (v8 dF<|aa (ac 1)<|aa (ac 2)<|aa (eP<|aa (u5 EF (dC<|.int 10)<|dC<|.int 9)<|aa (eP<|aa (u5 v9 (ac 4)<|dC<|.int 0)<|aa (dC<|.int 0) ah) ah)<|aa (u5 v9 (ac 4)<|PF HN<|dC<|.int 1) ah)<|u5 A9 (v8 wP<|aa (ac 2) ah)<|ac 5
def oo:u9:=aB (jk (bZ<|ac 2) (eD 4<|aA (af 12)<|aA (af 13)<|aA (af 14)<|aA (af 15) eE)<|B6 (nP (au<|u5 oz (eP<|aa (ac 12)<|aa (ac 13) ah)<|ac 3)<|Da<|au<|v8 dF<|aa (ac 1)<|aa (ac 2)<|aa (eP<|aa (ac 12)<|aa (ac 13) ah)<|aa (u5 v9 (ac 4)<|dC<|.int 0) ah) (bd<|dC<|.bl bt) aI)<|uZ
def va:u9:=B6 (au<|u5 NX (v8 (OD bu)<|aa (ac 1)<|aa (ac 2)<|aa (ac 6) ah)<|ac 8) (bd<|dC<|.bl bt) aI
def vc:u9:=aB (iM<|dMl0 qT<|ac 11)<|va
def vh:u9:=aB (B6 (Da<|au<|v8 (dk 5)<|aa (ac 11)<|aa (ac 8) ah) (bd<|dC<|.bl bt) aI)<|vc
def vj:u9:=aB (bg (v8 (OD bu)<|aa (ac 1)<|aa (ac 2)<|aa (ac 6) ah) 11)<|vh
def xW:u9:=B6 (nP (au<|ac 10)<|au<|u5 NY (ac 9)<|xv (v8 qS<|aa (u5 v9 (ac 1)<|dC<|.int 1) ah)<|u5 v9 (ac 7)<|dC<|.int 0) (iM<|Mr cD (ac 8)<|aa (ac 9) ah) aI
def xX:u9:=aB (B6 (MD (Da<|au<|v8 qQ<|aa (ac 11)<|aa (dC<|.ty "bool") ah)<|au<|u5 NX (ac 11)<|ac 10) (bd<|dC<|.bl bt) aI)<|xW
def xY:u9:=aB (bg (v8 (OD cr)<|aa (ac 1)<|aa (ac 2)<|aa (ac 9)<|aa (ac 6) ah) 11)<|xX
def xZ:u9:=aB (jk (bZ<|ac 4) (af 9)<|aB (bg (v8 pz<|aa (ac 2)<|aa (ac 9)<|aa (ac 6)<|aa (ac 7) ah) 10)<|xY)<|vj
def ya:u9:=aB (jk (mf<|ac 3) (eD 2<|aA (af 6)<|aA (af 7) eE)<|aB (bg (gW ah) 8)<|xZ)<|oo
def sX:u9:=aB (bg (v8 wP<|aa (ac 2) ah) 5)<|ya
def yb:u9:=aB (gj 2 [] (bZ<|u5 v9 (ac 1)<|dC<|.int 0) (eD 2<|aA (af 0)<|aA (af 1) eE) pD (ac 0) 4)<|sX
def yc:u9:=aB (bg (v8 ka<|aa (ac 1)<|aa (ac 2) ah) 3)<|yb
def yd:u9:=aB (bg (v8 wm<|aa (ac 1)<|aa (v8 fS<|aa (ac 0)<|aa (dC<|.int 1)<|aa (dC<|.int 24) ah)<|aa (v8 kh<|aa (ac 1) ah) ah) 2)<|yc
def Hn:u9:=aB (bg (v8 kg<|aa (v8 dG<|aa (ac 0)<|aa (dC<|.int 0) ah) ah) 1)<|yd
theorem IV(m:HouseF ps rs)(dd:∀d∈log,aG ps rs d)(P:∀d∈log,my d<=200)(T:log.length<=40)(q:∀k,aH (bj rs log) k=a8↔aH kvs k=a8)(l:B[q4]?=a7 (.lst ((ps.map (·.1)).map .str)))(J:B[q5]?=a7 (.lst log))(K:sL B n3 kvs)(p:[mo] <+: B)(h:∀M',R (.bl a9) M'):oo ⟨λ_ M'=>aO [mo] R .non M',aO [mo] R,λ_ _=>False,λ_ _=>False⟩ [a7<|.ref 0,a7<|az ps rs,a7<|.tup log,a7<|.ref n3,a7<|.ref q4,a7<|.ref q5,y6,y7,y8,y9,y10,y11,a8,a8,a8,a8] B:=by
 obtain⟨⟨z,n⟩,ps',rfl⟩:∃p ps',ps=p::ps':=by
  match ps,m.len.1 with
  |p::ps',_=>exact⟨p,ps',rfl⟩
 rw[C9,C9]at l;simp only[oo];walk_at"dl";intro _;refine aP (λi S M'=>∃a b c d,B <+: M'/\S=[a7<|.ref 0,a7<|az ((z,n)::ps') rs,a7<|.tup log,a7<|.ref n3,a7<|.ref q4,a7<|.ref q5,y6,y7,y8,y9,y10,y11,a,b,c,d]) ?_ ?_ ⟨_,_,_,_,Ml,rfl⟩;rintro S M' ⟨a,b,c,d,pM,rfl⟩;refine⟨trivial,?_⟩;have f:aH (bj rs log) (.tup [.int<|10 ^ Int.toNat 9,.tup [.str z,.int 0]])=a8:=by
  cases o:aH (bj rs log) (.tup [.int<|10 ^ Int.toNat 9,.tup [.str z,.int 0]]) with
  |none=>rfl
  |some e=>have L:=dz.mp<|bU o;obtain⟨u,F⟩:=bn.en _ L.1;have A:=bc F;have N:=P e A.1;obtain⟨t,E,k,s,x,ds,rfl,_⟩:=dd e A.1;simp only[F4,D.tup.injEq,MP,D.int.injEq]at u;simp only[my]at N;have H:(10:Int) ^ Int.toNat 9=1000000000:=rfl;rw[H]at u;lia
 have g:=aN pM l;obtain⟨y,Q,I⟩:=GR (x:=D.str z) (xs:=(ps'.map (·.1)).map D.str);obtain⟨r,rfl⟩:∃r:c7,y=.str r:=by rcases A4.mp Q with rfl|Q;exact⟨_,rfl⟩;obtain⟨x,_,rfl⟩:=C1.mp Q;exact⟨x,rfl⟩
 simp only[uZ];walk_at"dl";refine⟨⟨by decide,by decide,by decide⟩,_,.inl g,?_⟩;rw[Nh];refine⟨ao (by decide),ao (by decide),_,.inl g,?_⟩;rw[I];refine⟨(z,n)::ps',rs,log,_,r,rfl,m,dd,by lia,⟨_,_,_,rfl⟩,f,?_⟩;have C:=kZ (M:=M'++[MO.lst log]) (i:=M'.length) (j:=q5) (xs:=log) ap (.inl<|ae<|aN pM J) λx O=>vJ 6 29 x (by decide) (dd x O).pl;simp only[nI,↓reduceIte];refine⟨C.1,?_⟩;rw[C.2];exact .inl<|h _;rintro i y S M' Q ⟨a,b,c,d,pM,rfl⟩ G w;obtain⟨t,E,k,s,x,ds,rfl,_⟩:=dd y<|J7 Q;refine⟨trivial,?_⟩;walk_at"dl";refine⟨trivial,ao (by decide),kvs,Ab pM K,rfl,?_⟩;cases o:aH kvs (.tup [.int t,.tup [.str E,.int k]]) with
 |some v=>exact br<|A7.now<|w _ _ ⟨_,_,_,_,pM,rfl⟩
 |none=>refine bC ⟨ao (by decide),_,.inl<|aN pM l,?_⟩;rw[Nh];refine⟨(z,n)::ps',rs,log,_,z,rfl,m,dd,by lia,⟨_,_,_,rfl⟩,(q _).mpr o,?_⟩;walk_at"ifs";exact A7.now<|w _ _ ⟨_,_,_,_,pM,rfl⟩
theorem Hg:C8 FA 16 Hn:=by
 rintro ds M R ⟨ns,mo,cc,⟨bM,bs⟩,rfl,rfl,h⟩;have aD:am [mo] 0 (ns.map D.int):=by have:=rC (M:=[mo]) (n:=0) (mo:=mo) rfl bs;rw[bM]at this;exact this
 simp only[Hn];walk_at"dl";refine⟨0,ns,0,rfl,aD,_,rfl,λps l B=>?_⟩;obtain⟨O,n1,ca⟩:=zP B;simp only[yd];walk_at"dl";refine⟨0,ns,1,24,rfl,aD,by lia,by decide,by decide,λxs xl=>⟨ps,_,rfl,O,ps,l,1,2,xs,aR ps,rfl,B,?_,by lia,?_,λ_ q=>q,n1,ca,CD B.pnd,λlog N tm nn ll=>?_⟩⟩;exact .inl rfl;exact .inl rfl;generalize as:[mo]++[MO.lst<|xs.map D.int]++[MO.lst<|aR ps]=B0;have p0:[mo] <+: B0:=by rw[<-as,Ls];exact Lu _ _
 clear as;simp only[yc];walk_at"dl";refine⟨ps,l,log,rfl,B,N,by lia,λW C kvs p3 gk sh nk kl al=>?_⟩;have bS:∀k,aH (bj l log) k=a8↔aH kvs k=a8:=λk=>by
  constructor;intro T;cases J:aH kvs k with
  |none=>rfl
  |some d=>obtain⟨⟨e,_,_,_,_,h3,_⟩,hb⟩:=sh _<|bU J;rw[qL h3 hb]at T;cases T
  intro T;cases J:aH (bj l log) k with
  |none=>rfl
  |some e=>have hm:=dz.mp<|bU J;obtain⟨d,hd⟩:=al k e (gJ bn.nd hm.1) hm.2;rw[hd]at T;cases T
 replace p3:=p0.trans p3;clear p0 al;simp only[yb,az];walk_at"dl";intro _;refine bV (λd=>match d with|.tup (x::_)=>x|_=>.non) (λS=>∃a b,S=[a,b]) trivial _ _ _ (λd hd S hS=>?_) ⟨_,_,rfl⟩ (by rw[G0,x3];have:=B.len.2;exact ao<|by lia) ?_;obtain⟨a,b,rfl⟩:=hS;obtain⟨r,hr,rfl⟩:=C1.mp hd;refine⟨[a7<|.str r.1,a7<|.int r.2],⟨_,_,rfl⟩,λY hY=>?_⟩;unfold cZ;walk_at"dl";exact⟨trivial,hY⟩;have en:(ps.map cZ).map (λd=>match d with|.tup (x::_)=>x|_=>.non)=(ps.map (·.1)).map D.str:=by rw[J3,J3];rfl
 rw[K9,en];change sX _ [a7<|.ref 0,a7<|az ps l,a7<|.tup log,a7<|.ref W,a7<|.ref C.length,a8,a8,a8,a8,a8,a8,a8,a8,a8,a8,a8] _;have nl:(ps.map (·.1)).length<=4:=by rw[x3];exact B.len.2
 simp only[sX];walk_at"dl";have V:(C++[MO.lst ((ps.map (·.1)).map D.str)]++[MO.lst log])[C.length]?=a7 (.lst ((ps.map (·.1)).map D.str)):=ae ak;have g5:(C++[MO.lst ((ps.map (·.1)).map D.str)]++[MO.lst log])[(C++[MO.lst ((ps.map (·.1)).map D.str)]).length]?=a7 (.lst log):=ak;have X:C <+: C++[MO.lst ((ps.map (·.1)).map D.str)]++[MO.lst log]:=bA.trans bA;have I:=Ab X gk;have bm:∀p∈kvs,KZ (aT l log) (C++[MO.lst ((ps.map (·.1)).map D.str)]++[MO.lst log]) W p/\¬bq (aT l log) log p.1:=λp hp=>⟨(sh p hp).1.pre X,(sh p hp).2⟩
 replace X:=p3.trans X;clear p3 gk sh;generalize (C++[MO.lst ((ps.map (·.1)).map D.str)]).length=q5 at g5;generalize C++[MO.lst ((ps.map (·.1)).map D.str)]++[MO.lst log]=H at V g5 X I bm;generalize C.length=q4 at V;have aS:∀M',H <+: M'->M'[W]?=H[W]?:=λM' p=>by rcases I with g|⟨_,g⟩<;>(rw[g];exact aN p g)
 simp only[ya];walk_at"dl";refine⟨kvs,I,λ_=>?_⟩;refine aP (λi S M'=>∃a b c d e f,H <+: M'/\S=[a7<|.ref 0,a7<|az ps l,a7<|.tup log,a7<|.ref W,a7<|.ref q4,a7<|.ref q5,a,b,c,d,e,f,a8,a8,a8,a8]) ?_ ?_ ⟨_,_,_,_,_,_,Ml,rfl⟩;rintro S M' ⟨a,b,c,d,e,f,pM,rfl⟩;refine⟨aS _ pM,?_⟩;exact IV B N tm ll bS (aN pM V) (aN pM g5) (Ab pM I) (X.trans pM) h;rintro i y S M' hy ⟨a,b,c,d,e0,f,pM,rfl⟩ G hG;rw[D8]at hy;obtain⟨⟨k,v⟩,hp,rfl⟩:=Mp.mp hy;obtain⟨⟨e,m,s,h1,h2,h3,h4⟩,hb⟩:=bm _<|J7 hp;dsimp only at h1 h3 hb;subst h1;have J:=qL h3 hb;obtain⟨e1,e2⟩:=JT bn h3;have km:=bc e2;have de:=N e km.1;have hr:aX e∈l.map (·.1):=by obtain⟨t,z,k,cd,r,u,s,rfl,_,_,hr,_⟩:=jB de km.2;exact hr
 have hs:St k:=by rw[e1];exact de.st
 refine⟨aS _ pM,?_⟩;dsimp only;walk_at"dl";refine⟨trivial,C4 _,?_⟩;have g8:(M'++[MO.lst []])[M'.length]?=a7 (.lst []):=ak;have p8:H <+: M'++[MO.lst []]:=pM.trans bA;have b8:H.length<=M'.length:=pM.length_le;generalize M'++[MO.lst []]=B8 at g8 p8;generalize M'.length=Z at g8 b8;simp only[xZ];walk_at"dl";refine⟨_,.inl<|aN p8 V,λ_=>?_⟩;have no:∀{P:Prop},aH (bj l log) k=a8->P:=λ{P} z=>by rw[J]at z;cases z
 refine aP (λj S w=>∃a b c,H <+: w/\w[Z]?=a7 (.lst ((((ps.map (·.1)).take j).filter<|λn=>decide (n∈jW l (aX e))&&fh log n e).map .str))/\S=[a7<|.ref 0,a7<|az ps l,a7<|.tup log,a7<|.ref W,a7<|.ref q4,a7<|.ref q5,a7 k,a7<|.ref m,a7<|.ref Z,a,b,c,a8,a8,a8,a8]) ?_ ?_ ⟨_,_,_,p8,g8,rfl⟩;rintro S w ⟨a,b,c,K,g1,rfl⟩;rw[x3,LO,wK (Fq B) B.pnd]at g1;refine⟨.inl<|aN K V,?_⟩;simp only[vj];walk_at"dl";refine⟨ps,l,log,k,rfl,B,hs,N,by lia,no,λe' A=>?_⟩;rw[J]at A;cases A;have O:((jW l<|aX e).filter λn=>fh log n e).length<=4:=H9 (MS _ _)<|yY B;generalize hL:((jW l<|aX e).filter λn=>fh log n e)=L at g1 O;have E:(w++[MO.lst<|L.map .str])[w.length]?=a7 (.lst<|L.map .str):=ak;have Q:(w++[MO.lst<|L.map .str])[Z]?=a7 (.lst<|L.map .str):=ae g1;have be:H <+: w++[MO.lst<|L.map .str]:=K.trans bA;have aj:H.length<=w.length:=K.length_le;have n8:Z≠w.length:=by have:=aW g1;lia
 generalize w++[MO.lst<|L.map .str]=ab at E Q be;generalize w.length=U at E aj n8;simp only[vh];walk_at"dl";refine⟨_,_,rfl,.inr ⟨U,Z,4,L.map .str,rfl,rfl,rfl,.inl E,.inl Q,by rw[x3];lia,IN⟩,?_⟩;walk_at"ifs";simp only[vc];walk_at"dl";refine⟨⟨_,.inl E⟩,_,E,?_⟩;have an:=bf (x:=.lst []) n8 Q;have bk:H <+: ab.set U (.lst []):=cC be aj;generalize ab.set U (.lst [])=ai at an bk;simp only[va];walk_at"dl";refine⟨ps,l,log,k,rfl,B,hs,N,by lia,no,λe' A=>?_⟩;rw[J]at A;cases A;rw[hL];have rf:=kZ (M:=ai++[MO.lst<|L.map .str]) (i:=ai.length) (j:=Z) (xs:=L.map .str) ap (.inl<|ae an) λx hx=>by obtain⟨y,_,rfl⟩:=C1.mp hx;exact⟨ag,by rw[aC];exact u3 _⟩
 refine⟨rf.1,?_⟩;rw[rf.2];exact br<|A7.now<|hG _ _ ⟨_,_,_,_,_,_,bk.trans bA,rfl⟩;rintro j y S w hy ⟨a,b,c,K,g1,rfl⟩ G2 o;rw[D8]at hy;obtain⟨n,T,rfl⟩:=Mp.mp hy;have et:(ps.map (·.1)).take (j+1)=(ps.map (·.1)).take j++[n]:=by rw[L6,T];rfl
 rw[et,Qm,LC,Mm,List.filter_nil]at o;have fl:(((ps.map (·.1)).take j).filter<|λn=>decide (n∈jW l (aX e))&&fh log n e).length<=4:=by refine H9 (MS _ _) ?_;rw[Lc];lia
 generalize ((ps.map (·.1)).take j).filter (λn=>decide (n∈jW l (aX e))&&fh log n e)=F at g1 o fl;refine⟨.inl<|aN K V,?_⟩;walk_at"dl";refine⟨ps,l,log,n,e,s,m,by rw[e1],N,by lia,de,km.2,nn e km.1,aN K h4,?_⟩;simp only[xY];walk_at"dl";refine⟨ps,l,log,n,k,rfl,hs,B.pnd,N,by lia,no,λe' A=>?_⟩;rw[J]at A;cases A;generalize fh log n e=rb at o;simp only[xX];walk_at"dl";refine⟨⟨by simp[pL],by simp[GU]⟩,?_⟩;rw[show Cn "bool" "bool" = a9 from rfl];refine br ⟨⟨rfl,rfl⟩,?_⟩;rw[show v4 w w6 (.bl rb) (.bl rb)=a9 from by cases rb<;>rfl];refine br ?_;simp only[xW,az];walk_at"dl";cases rb with
 |false=>rw[O2,r9 (by decide),Oc,Lb]at o;exact br<|A7.now<|o _ _ ⟨_,_,_,K,g1,rfl⟩
 |true=>rw[Bool.and_true]at o;refine bC ⟨l.map fX,qN,by rw[x3];have:=B.rl.2;lia,?_⟩;rw[nF B.rnd];have p2:H <+: w++[MO.dct<|l.map fX]:=K.trans bA;have g2:=ae (a:=MO.dct<|l.map fX) g1;have gd:(w++[MO.dct<|l.map fX])[w.length]?=a7 (.dct<|l.map fX):=ak;generalize w++[MO.dct<|l.map fX]=M2 at p2 g2 gd;generalize w.length=qd at gd;refine⟨_,.inl<|aN p2 h4,?_⟩;rw[Nh];refine⟨_,_,gd,iw hr,⟨ag,oq⟩,?_⟩;rw[oU];by_cases hm:n∈jW l (aX e);rw[dT_ hm]at o ⊢;rw[p9 rfl]at o;refine bC ⟨⟨_,.inl g2⟩,_,g2,ao (by rw[x3];lia),?_⟩;exact A7.now<|o _ _ ⟨_,_,_,cC p2 b8,LF<|aW g2,rfl⟩;rw[dF_ hm]at o ⊢;rw[r9 (by decide),Oc,Lb]at o;exact br<|A7.now<|o _ _ ⟨_,_,_,p2,g2,rfl⟩
theorem ok_law(T:Tops P w K mg base)(F:Me K "law" "law" (top 66) f fd):FnOk P w K mg base K0 10 f fd EZ (LG K FA):=CG (N:=["_law_script","_law_house_here","_law_log_here","_law_shown_here","_law_names_here","_law_handed","_law_stamp","_law_told_here","_law_readers","_law_name","_law_due","_law_found","_law_time","_law_hand","_law_number","_law_act_here"]) T.b F (by walk_at"sc") Fx (by have:=(gI T).nev;have:=(iE T).nev;have:=nJ T;have:=wT T;have:=BK T;have:=BL T;have:=IE T;have:=BH T;have:=Fe T;have:=vL T 5;have:=wS T;walk_at"dv") Hg
end
end LW
namespace PySem.W.Fast
def tw10050479418383278610:=Nat
def tw10116192824524704371:=Nat
def tw10144215444625150120:=Nat
def tw10191791762912735375:=Nat
def tw10250374964976384299:=Nat
def tw10344919316455644698:=Nat
def tw1036303494952401017:=Nat
def tw10423635123970899364:=Nat
def tw1045157597593415609:=Nat
def tw10453285231358708073:=Nat
def tw1053542443379764216:=Nat
def tw10548490053573005300:=Nat
def tw1058433940122844341:=Nat
def tw10589030363152142760:=Nat
def tw10619328011220113257:=Nat
def tw10645626712598976832:=Nat
def tw10666488003714781889:=Nat
def tw10682204087575989215:=Nat
def tw10719101710430322074:=Nat
def tw10773282021143226506:=Nat
def tw10782791702592013820:=Nat
def tw10797440153986914109:=Nat
def tw10800063224085551308:=Nat
def tw10825214568849095865:=Nat
def tw10860287368244238550:=Nat
def tw10882378596740075146:=Nat
def tw10943248571675308551:=Nat
def tw10972536238112170886:=Nat
def tw10995770017960597961:=Nat
def tw11010695976177518676:=Nat
def tw11015306628887805678:=Nat
def tw1106770901683925639:=Nat
def tw11100714948732319588:=Nat
def tw11167373366952614467:=Nat
def tw11192355140602398001:=Nat
def tw11257027797498300698:=Nat
def tw1133040862781777657:=Nat
def tw11384722647927187732:=Nat
def tw11410805746172642705:=Nat
def tw11433797008235111564:=Nat
def tw11440310313987631901:=Nat
def tw1148792364733217055:=Nat
def tw11555016849753439452:=Nat
def tw1158737191464745207:=Nat
def tw11594574382840295544:=Nat
def tw11606054851796252191:=Nat
def tw11670287417462363609:=Nat
def tw11683032713273498196:=Nat
def tw11794999569346872361:=Nat
def tw11807311998500911744:=Nat
def tw11810175436335847000:=Nat
def tw1185668267414778037:=Nat
def tw11861173452089914392:=Nat
def tw11864999625179594904:=Nat
def tw11865752356687767866:=Nat
def tw11867123345254149399:=Nat
def tw1203915108070844711:=Nat
def tw12045727692573033402:=Nat
def tw12098817490178604936:=Nat
def tw12118969447518147749:=Nat
def tw12208857149088237366:=Nat
def tw12209252152331507974:=Nat
def tw12226385740837338607:=Nat
def tw12251952478503089979:=Nat
def tw1227341947759718326:=Nat
def tw12300727802326377073:=Nat
def tw12313433643049517729:=Nat
def tw12317283537848159986:=Nat
def tw12361061072448801:=Nat
def tw12499964883982990452:=Nat
def tw1253389964203623723:=Nat
def tw12565152065175819557:=Nat
def tw12635814913355338415:=Nat
def tw1267914212334633114:=Nat
def tw12698204097543559971:=Nat
def tw12706094390410864064:=Nat
def tw12730347966098170658:=Nat
def tw12754475258566069286:=Nat
def tw12764590471579127725:=Nat
def tw12812716685934729048:=Nat
def tw12833796139524827486:=Nat
def tw12854671460761263567:=Nat
def tw12886943759909272073:=Nat
def tw12886974524439300776:=Nat
def tw12918216229634710822:=Nat
def tw12990175749353088703:=Nat
def tw1311415090159218822:=Nat
def tw13122406743268596447:=Nat
def tw13150197445505476918:=Nat
def tw13159993441574731090:=Nat
def tw13177218907322543543:=Nat
def tw13264791939721872545:=Nat
def tw13299331704254622440:=Nat
def tw1330613516317575854:=Nat
def tw13326863534344743385:=Nat
def tw1347187292273353420:=Nat
def tw1350059465039424861:=Nat
def tw13503343440366324916:=Nat
def tw13553375423226725300:=Nat
def tw13556588617402654318:=Nat
def tw13578920560539057082:=Nat
def tw13610832855815170108:=Nat
def tw1361579837171986151:=Nat
def tw13649731375438008637:=Nat
def tw13661912368634689153:=Nat
def tw13773257322480445249:=Nat
def tw13794144944110950683:=Nat
def tw13796224495785059096:=Nat
def tw1383805213700177702:=Nat
def tw13875122231533884293:=Nat
def tw13887764204146645722:=Nat
def tw13905587813130746654:=Nat
def tw13939272636606589700:=Nat
def tw13954524598441172499:=Nat
def tw13980145478869192839:=Nat
def tw14038218935203092383:=Nat
def tw14132642061795898289:=Nat
def tw14145231397869294891:=Nat
def tw14150795813735952011:=Nat
def tw14177735018325588177:=Nat
def tw14214035226275702826:=Nat
def tw14216839191909165193:=Nat
def tw14249857531561332068:=Nat
def tw14289264383679065758:=Nat
def tw14309833014459298624:=Nat
def tw14432736742134015044:=Nat
def tw14447941777825506380:=Nat
def tw14472033429083101785:=Nat
def tw14481906766792554836:=Nat
def tw1450685426086212953:=Nat
def tw14555452560648148560:=Nat
def tw14556908939981908724:=Nat
def tw14604130137176435163:=Nat
def tw14676681570027841201:=Nat
def tw14680435151873004253:=Nat
def tw14794026863840158473:=Nat
def tw14813869202196440735:=Nat
def tw14865060009491556394:=Nat
def tw15106916093720471353:=Nat
def tw15107467338699455335:=Nat
def tw15143367182902372825:=Nat
def tw15161407930850854581:=Nat
def tw15267023449795094492:=Nat
def tw15278602640577732928:=Nat
def tw15320821755943920365:=Nat
def tw15390065747017118779:=Nat
def tw15422297883416538267:=Nat
def tw15442187197274116364:=Nat
def tw15468066916311570375:=Nat
def tw155195397423925428:=Nat
def tw15521989776502421588:=Nat
def tw15531662374472687948:=Nat
def tw15599262280079915370:=Nat
def tw15608117006368940431:=Nat
def tw15618924833104196930:=Nat
def tw15630462901046057087:=Nat
def tw15687494067306407225:=Nat
def tw15701636654347215508:=Nat
def tw15787678267261647291:=Nat
def tw15903519274162152177:=Nat
def tw16040665309558493871:=Nat
def tw16074152917206753029:=Nat
def tw16080831463224275295:=Nat
def tw16081006355647105307:=Nat
def tw16087727952740940396:=Nat
def tw16150996646539543928:=Nat
def tw16166713390952568175:=Nat
def tw16173434326689531777:=Nat
def tw1618025177172588463:=Nat
def tw16206526599650037252:=Nat
def tw16275797335822057382:=Nat
def tw1627708840493262097:=Nat
def tw16293517664034768424:=Nat
def tw16298974299392127332:=Nat
def tw16480206331535765792:=Nat
def tw16489053247927157719:=Nat
def tw16495757431311601549:=Nat
def tw16501786221746897676:=Nat
def tw16547223170006007943:=Nat
def tw16564820352483309356:=Nat
def tw16592928276613803622:=Nat
def tw16624750431847046993:=Nat
def tw1672176588583392158:=Nat
def tw16737133985121596944:=Nat
def tw16758989766415634447:=Nat
def tw16804925096282624412:=Nat
def tw1682318652286832569:=Nat
def tw16831822884787589635:=Nat
def tw16839024621025823897:=Nat
def tw16843852856084717529:=Nat
def tw16864363822005995738:=Nat
def tw1689564439073445174:=Nat
def tw16896873346696162135:=Nat
def tw16942719569822166061:=Nat
def tw16978380548073142855:=Nat
def tw17097227701636389177:=Nat
def tw17119220324230281384:=Nat
def tw17138399952597968459:=Nat
def tw1716111659793694475:=Nat
def tw17193008236502345098:=Nat
def tw17287143116674545175:=Nat
def tw17302251647847026390:=Nat
def tw17347833511010208103:=Nat
def tw17368032401245105085:=Nat
def tw17371608327858843046:=Nat
def tw17433511603680132368:=Nat
def tw17484243276355979675:=Nat
def tw17618675168542987663:=Nat
def tw17706104486299862610:=Nat
def tw17723900320521635041:=Nat
def tw17726651958177297620:=Nat
def tw17746806044140507457:=Nat
def tw17803631631172186352:=Nat
def tw17814180715842340872:=Nat
def tw17860746851064599425:=Nat
def tw1787544332364469158:=Nat
def tw17918608811600719184:=Nat
def tw179358191922036497:=Nat
def tw17988545295405909209:=Nat
def tw18088304362791289844:=Nat
def tw181748538551286341:=Nat
def tw18187597526586520154:=Nat
def tw18206199258622762986:=Nat
def tw18225258146498732483:=Nat
def tw18340781449393143813:=Nat
def tw18432074256424071324:=Nat
def tw1855409694134409078:=Nat
def tw191626037487224676:=Nat
def tw1923874210345130640:=Nat
def tw2045629783307913616:=Nat
def tw2124270544228810378:=Nat
def tw2128264392315178968:=Nat
def tw218272973125286912:=Nat
def tw2272897360643941520:=Nat
def tw2374410149124735794:=Nat
def tw247301331401327166:=Nat
def tw2536497191188935701:=Nat
def tw2669134158111712936:=Nat
def tw2693029973314726952:=Nat
def tw2749918331847792338:=Nat
def tw2846234177851715653:=Nat
def tw2852683040943261595:=Nat
def tw2854307359991994414:=Nat
def tw2876717105551640992:=Nat
def tw2883252597520934182:=Nat
def tw2928092298459413965:=Nat
def tw2943869146302474912:=Nat
def tw2980728271284338161:=Nat
def tw3100387014146788959:=Nat
def tw3105426713257656060:=Nat
def tw3175829900985463892:=Nat
def tw3177799537430893486:=Nat
def tw3185624918820988350:=Nat
def tw3200309085581728175:=Nat
def tw3209775019005344927:=Nat
def tw3256561092562569032:=Nat
def tw3281645168043359428:=Nat
def tw3294759290293711021:=Nat
def tw3318816948736410768:=Nat
def tw3349372418298709416:=Nat
def tw347475242468494369:=Nat
def tw3507092387694500768:=Nat
def tw3533836982548718698:=Nat
def tw3538579434781014265:=Nat
def tw3556875550645868943:=Nat
def tw35582038467466454:=Nat
def tw357216778114531275:=Nat
def tw3703862049482407382:=Nat
def tw3720349591217168002:=Nat
def tw3739156345810075489:=Nat
def tw3743676918522825805:=Nat
def tw3757756907060191937:=Nat
def tw3764717108007897187:=Nat
def tw3770002998210388887:=Nat
def tw3789169452569019358:=Nat
def tw3881419346610745759:=Nat
def tw4028641237898864046:=Nat
def tw4109219785615509666:=Nat
def tw4126540933099201933:=Nat
def tw4142655597925940735:=Nat
def tw4223172433572204322:=Nat
def tw4225169642959615690:=Nat
def tw4329423317321936303:=Nat
def tw4377861994968156190:=Nat
def tw4390536627737320506:=Nat
def tw4399726549121732759:=Nat
def tw449376998076960797:=Nat
def tw4505614072270232476:=Nat
def tw4552233227516351798:=Nat
def tw4586582767460216421:=Nat
def tw4602471679219369473:=Nat
def tw4651398125151257979:=Nat
def tw465893121147613628:=Nat
def tw4663501846316314181:=Nat
def tw4695543931458674013:=Nat
def tw4701411236223600324:=Nat
def tw4717391149676043110:=Nat
def tw4725534170754422586:=Nat
def tw4771228171977165403:=Nat
def tw4775034531420814718:=Nat
def tw4819520570355946539:=Nat
def tw4826201356496482472:=Nat
def tw4843993806223832412:=Nat
def tw4876597366803742176:=Nat
def tw4899299932499550252:=Nat
def tw4910946843269232059:=Nat
def tw4917600960507107667:=Nat
def tw4936748033267524068:=Nat
def tw4940574437790346376:=Nat
def tw4968983383005843397:=Nat
def tw4986087290757668028:=Nat
def tw5038658213325394724:=Nat
def tw507088015307494725:=Nat
def tw511619797904833008:=Nat
def tw5124190434315683118:=Nat
def tw5135875640936398694:=Nat
def tw5252206093766058367:=Nat
def tw5310002777838495090:=Nat
def tw5320682677024477306:=Nat
def tw5350000092805766833:=Nat
def tw5390919774520702464:=Nat
def tw5395150238167539143:=Nat
def tw5404472040312392952:=Nat
def tw5447124746628078177:=Nat
def tw5450337348508604528:=Nat
def tw5468250939368747307:=Nat
def tw5562780784547345600:=Nat
def tw5635876066990037625:=Nat
def tw5646693748362369163:=Nat
def tw5714895383713191421:=Nat
def tw5739139549012007931:=Nat
def tw5747128407983116193:=Nat
def tw5808252071648380794:=Nat
def tw5831275296064103963:=Nat
def tw5865174328711509182:=Nat
def tw5900630840778740087:=Nat
def tw591899877442231818:=Nat
def tw5924240973231601731:=Nat
def tw5962666388505989333:=Nat
def tw5967090192874738500:=Nat
def tw600191401105428676:=Nat
def tw6019724800818790196:=Nat
def tw6025755720185942085:=Nat
def tw6029833537339851263:=Nat
def tw6121403152379115909:=Nat
def tw6144740851820434997:=Nat
def tw6150551495181003999:=Nat
def tw6177146392198329269:=Nat
def tw626144623804873577:=Nat
def tw6320392204214879682:=Nat
def tw634186570241643295:=Nat
def tw6348743323391850770:=Nat
def tw6351640031220497257:=Nat
def tw6357167127591455487:=Nat
def tw638877070972528096:=Nat
def tw641318872698716148:=Nat
def tw6418919515152394739:=Nat
def tw6428884078801727182:=Nat
def tw6434342986446656658:=Nat
def tw6438132243220872002:=Nat
def tw6441788772421791159:=Nat
def tw6460891016738666038:=Nat
def tw6578513569974369236:=Nat
def tw6579762174982963908:=Nat
def tw6620711283808750287:=Nat
def tw6641576165328530162:=Nat
def tw6729974246042873265:=Nat
def tw6749459747895207394:=Nat
def tw6794988863160515525:=Nat
def tw6842517751786773046:=Nat
def tw6920604560814395550:=Nat
def tw6928511239856530078:=Nat
def tw6942652933375451984:=Nat
def tw694344602306044795:=Nat
def tw7028795994119412425:=Nat
def tw7056145884746796068:=Nat
def tw7112481721438392507:=Nat
def tw7121651214122441087:=Nat
def tw7144836094891225519:=Nat
def tw727734943099821604:=Nat
def tw7302404124199840361:=Nat
def tw7314136328162431330:=Nat
def tw7331335498697897050:=Nat
def tw734340736433947481:=Nat
def tw7345005663467175672:=Nat
def tw7403964440189892914:=Nat
def tw7405859695753720313:=Nat
def tw7433776594635962936:=Nat
def tw7455089589643120849:=Nat
def tw745632563472027857:=Nat
def tw7465822975272936308:=Nat
def tw7467476784048646902:=Nat
def tw7619091718716009:=Nat
def tw7651278323860594336:=Nat
def tw7714584056442016953:=Nat
def tw7716130257052388293:=Nat
def tw7770780124009281991:=Nat
def tw786585635995781780:=Nat
def tw7882779286390081411:=Nat
def tw7888380181361925008:=Nat
def tw7945197404259046703:=Nat
def tw7993160038255544655:=Nat
def tw8038608998543040068:=Nat
def tw8079419534942979528:=Nat
def tw8086678809474710976:=Nat
def tw8193453569120279027:=Nat
def tw8214220966717204804:=Nat
def tw8216203973954670037:=Nat
def tw8233889068599788849:=Nat
def tw8260209549457565891:=Nat
def tw8267145901033541987:=Nat
def tw8278881992990663866:=Nat
def tw8360049487379986032:=Nat
def tw8437881831923883249:=Nat
def tw84655592602551223:=Nat
def tw8500735031104518728:=Nat
def tw8549987668251390974:=Nat
def tw8584407175611623203:=Nat
def tw8605162583118120531:=Nat
def tw8606537711937491193:=Nat
def tw8676218309254335690:=Nat
def tw8683854133281314639:=Nat
def tw8684368668073811137:=Nat
def tw8735913107964527800:=Nat
def tw8799672648566675883:=Nat
def tw8855434898712802314:=Nat
def tw886801619010589858:=Nat
def tw8880691289256614810:=Nat
def tw8883201800294799886:=Nat
def tw8889592652652599291:=Nat
def tw8892902417857271632:=Nat
def tw8918227708914546140:=Nat
def tw8925703131854555549:=Nat
def tw8959975865675820057:=Nat
def tw8980457102688847310:=Nat
def tw8999939643007699993:=Nat
def tw9061193341485448189:=Nat
def tw9098582087976818819:=Nat
def tw9176615648938846630:=Nat
def tw9189470945404221465:=Nat
def tw9222297494848117136:=Nat
def tw9242711632605089708:=Nat
def tw9248751067034501776:=Nat
def tw9381972546292649209:=Nat
def tw9394273810116972551:=Nat
def tw9404851972220652851:=Nat
def tw9405757582852907706:=Nat
def tw944015836236067827:=Nat
def tw947970754577783909:=Nat
def tw9554042834715423192:=Nat
def tw9588476700549532796:=Nat
def tw9616619387269251871:=Nat
def tw9624591579082994911:=Nat
def tw9656507334508996914:=Nat
def tw9661783020992898925:=Nat
def tw9687962896502485725:=Nat
def tw9709154794044971002:=Nat
def tw9712193339201818976:=Nat
def tw9746026061094845530:=Nat
def tw9779980109254991940:=Nat
def tw9791268182769839748:=Nat
def tw980683446571205324:=Nat
def tw9837347129304413279:=Nat
def tw9870640085883042015:=Nat
def tw9877340905605545171:=Nat
def tw9941601475135045911:=Nat
def tw9950543745377496560:=Nat
def tw9959997238441903742:=Nat
def tw9977406241889001509:=Nat
def tw998637144595956521:=Nat
end PySem.W.Fast
theorem L2.us1{P:List AD6->Prop}(h:∀a0,P [a0]):∀us:List AD6,us.length=1->P us
 | [a0],_=>h a0
theorem L2.us2{P:List AD6->Prop}(h:∀a0 a1,P [a0,a1]):∀us:List AD6,us.length=2->P us
 | [a0,a1],_=>h a0 a1
theorem L2.us3{P:List AD6->Prop}(h:∀a0 a1 a2,P [a0,a1,a2]):∀us:List AD6,us.length=3->P us
 | [a0,a1,a2],_=>h a0 a1 a2
theorem L2.us4{P:List AD6->Prop}(h:∀a0 a1 a2 a3,P [a0,a1,a2,a3]):∀us:List AD6,us.length=4->P us
 | [a0,a1,a2,a3],_=>h a0 a1 a2 a3
theorem L2.us5{P:List AD6->Prop}(h:∀a0 a1 a2 a3 a4,P [a0,a1,a2,a3,a4]):∀us:List AD6,us.length=5->P us
 | [a0,a1,a2,a3,a4],_=>h a0 a1 a2 a3 a4
local macro_rules | `(tactic| walk_at"fk")=>`(tactic| ((case a=>k_is);(case l=>k_is);(case c=>k_is);(case k=>k_is)))
local macro_rules | `(tactic| walk_at"f1")=>`(tactic| (refine' L2.fnat_mk (by assumption) (by assumption) ?a ?l ?c ?k (λ_ _ _ _ _ _=>L2.us1 (λ_=>rfl));walk_at"fk"))
local macro_rules | `(tactic| walk_at"f2")=>`(tactic| (refine' L2.fnat_mk (by assumption) (by assumption) ?a ?l ?c ?k (λ_ _ _ _ _ _=>L2.us2 (λ_ _=>rfl));walk_at"fk"))
local macro_rules | `(tactic| walk_at"f3")=>`(tactic| (refine' L2.fnat_mk (by assumption) (by assumption) ?a ?l ?c ?k (λ_ _ _ _ _ _=>L2.us3 (λ_ _ _=>rfl));walk_at"fk"))
local macro_rules | `(tactic| walk_at"f4")=>`(tactic| (refine' L2.fnat_mk (by assumption) (by assumption) ?a ?l ?c ?k (λ_ _ _ _ _ _=>L2.us4 (λ_ _ _ _=>rfl));walk_at"fk"))
local macro_rules | `(tactic| walk_at"f5")=>`(tactic| (refine' L2.fnat_mk (by assumption) (by assumption) ?a ?l ?c ?k (λ_ _ _ _ _ _=>L2.us5 (λ_ _ _ _ _=>rfl));walk_at"fk"))
open PySem PySem.W PyProof.Rows
set_option maxRecDepth 100000 in
set_option maxHeartbeats 0 in
theorem PySem.Challenge.cw_talkmarks_k40_who_has_read_holds : PySem.Challenge.rw_talkmarks_k40_who_has_read.Holds := by
 w_on; o_law; k_head; (case hw=>w_witness2)
 k_fill
 refine L2.law_walk (l:=PySem.Challenge.rw_talkmarks_k40_who_has_read) (k:=10) (st:=LW.top 66) (x:="_law_script") rfl rfl rfl ⟨rfl,by decide,by decide⟩ (fun w h Y=>PySem.W.kIn_of Y) ?F<|fun _ _ _ _ _ _ _=>rfl
 case F =>
  intro w mg h X G;have T:∀ P base,LW.Tops P w (L2.KOf X) mg base:=by
   intro P base;dsimp only[L2.KOf];constructor;walk_at"f1";walk_at"f2";walk_at"f2";walk_at"f2";walk_at"f2";walk_at"f2";walk_at"f2";walk_at"f1";walk_at"f1";walk_at"f2";walk_at"f2";walk_at"f3";walk_at"f3";walk_at"f1";walk_at"f1";walk_at"f3";walk_at"f2";walk_at"f2";walk_at"f3";walk_at"f2";walk_at"f2";walk_at"f3";walk_at"f2";walk_at"f4";walk_at"f4";walk_at"f3";walk_at"f2";walk_at"f2";walk_at"f2";walk_at"f3";walk_at"f2";walk_at"f1";walk_at"f1";walk_at"f2";walk_at"f3";walk_at"f3";walk_at"f4";walk_at"f5";walk_at"f3";walk_at"f2";walk_at"f2";walk_at"f4";walk_at"f2";walk_at"f1";walk_at"f4";walk_at"f1"
   ·unfold LW.B_ LW.C_
    iterate 16 (refine' L2.TopB.b ?tq ?_; (case tq=>refine' PySem.W.mg_none_of X G ?tr; (case tr=>k_is)))
    exact .nil
   kernel_rfl
  exact ⟨(T PySem.Challenge.pw_talkmarks_k40_who_has_read {}).f_law,fun base f d F=>LW.ok_law (T _ base) F⟩
