import PyProof.Rows.All
import Wide.All
import OpenK.AllK
import Wide.FinOn
import Lean
import PyProof.EqAt
import PyProof.EqKinds
import PyProof.TupleCall
import PyProof.CompFree
import PyProof.NeKinds
import KE.KSortTup
import KE.KRevSl
import KE.KDictSum
import KE.KEqDict
import PyProof.Conv_int_bool
import PyProof.AttrMissHeap
import KE.KLam
import KE.KRevIter
import PySem.Challenge.RW_talkmarks_k50_bells_due
open PySem.Str renaming ofString->AA0
open PySem renaming wpAny_bind->p9,wpAny_pure->t4,Spec->AAF,wpAny_callSpecial?_slot->L9,wpAny_call_entry->G8,wpAny_newObj_type->J1,wpAny_holding->E2,wpAny_mono->E7,wpAny_seqItems->LV,wpAny_setState_of->MD,mem_of_lookup->Nj,codeAny_builtin->MC,wpAny_setField->MB,wpAny_fieldsOf->MA,wpAny_field->LS,wpAny_ite_split->MX,sizeLine_eq->Mc,eqIsQuiet_byValue->NB,wpAny_attempt->MP,wpAny_typeOf->My,wpAny_specialOf->Ni,wpAny_notOrdered_dict->OH,wpAny_Call_Name_kw->Oc,wpAny_rule->L1,wpAny_forIn_list->Nz,wpAny_isInstance->Ny,wpAny_typeNameOfWhole_keyiter->QM,wpAny_typeNameOfWhole_valiter->QL,plainId_quiet->MW,wpAny_truthy_bool->Oa,wpAny_askSetting->N5,wpAny_setField_rec->OE,builtinLookup_eq_fast->Px,wpAny_passesOwn->N4,wpAny_dictEntries->OB,wpAny_typeNameOf_keyiter->QD,wpAny_typeNameOf_valiter->QC,wpAny_setEntries_of->Pu,Value->AD8,wpAny_callSpecialIfBoundUnlessNone?_slot->RL,wpAny_dictEpoch->Oy,wpAny_newList->NV,wpAny_pyHash_int->Pl,wpAny_pyHash_str->Pk,codeAny_mono->NP,wpAny_loadPart'->RJ,wpAny_Call_method0_late->Rk,typeLookup_type->Pi,wpAny_Call_method_late->Rb,wpAny_pyIter_list->Qi,wpAny_pyIter_slot->Qe,atKey_none_of_get->Qd,isSubtype_stop->Pd,wpAny_isOneOf_valiter->Q6,wpAny_execs_nil->P7,evalArgs_none->Q4
open PySem.Heap renaming get?_push_of_some->v7,get?_push_size->z0,lt_size->v9,get?_update_self->LO,size_push->LG,get?_update_other->OJ,get?_update_ne->Od,SameBut->Mz
open List renaming length_map->u6,getElem?_eq_getElem->x3,getElem?_eq_some_iff->x5,size_toArray->y4,mem_cons_of_mem->A6,length_append->A1,mem_map->v8,mem_cons->x6,mem_cons_self->C1,getElem?_map->C5,mem_append_right->F4,getElem?_append_left->J2,getD_eq_getElem?_getD->J6,mem_filter->B9,length_cons->C4,mem_of_getElem?->F0,length_nil->C8,map_cons->C0,prefix_append->G2,mem_append->D7,length_singleton->K0,all_eq_true->E9,length_take->G0,getElem?_append_right->Mf,append_assoc->G9,length_filter_le->LN,range->A7,mem_append_left->LM,append_nil->G7,nil_append->G6,map_append->G5,mem_map_of_mem->LK,getElem?_set_ne->L8,mem_singleton->LJ,mem_range->G4,getElem?_set_self->Mr,map_map->E8,length_set->J7,any_eq_true->LH,filterMap_cons->Mq,nodup_iff_pairwise_ne->Nl,lt_irrefl->K7,take_length->L7,not_mem_nil->L6,getElem_mem->L5,nodup_cons->LX,getElem?_of_mem->MQ,take_add_one->Mo,find?_cons->L4,getElem?_eq_none->M8,cons_lt_cons_iff->M7,length_drop->Mn,all_cons->L3,getElem?_take_of_lt->Of,length->K6,filter_cons->MZ,getElem?_drop->NE,toArray->Mm,zip_cons_cons->Ob,lookup_cons->NA,pairwise_map->N7,take_of_length_le->Py,getElem_map->N6,mem_filterMap->OG,filter_append->OD,drop_eq_getElem_cons->QG,pairwise_iff_getElem->QF,prefix_rfl->N1,length_range->OC,find?_some->NZ,getElem?_replicate->QB,getElem_of_mem->Pv,map_id->MU,eq_nil_of_length_eq_zero->Ry,nodup_nil->NW,drop_eq_nil_of_le->Qy,length_replicate->Qw,foldl_append->Po,mem_of_mem_take->Qt,pairwise_append->Qr,getElem?_zip_eq_some->Ru,mem_of_find?_eq_some->Rt,length_filterMap_le->Rm,forIn_cons->Pj,filter_cons_of_neg->Rj,pairwise_singleton->Ri,getElem?_cons_succ->Rh,getElem?_take->Qm,filterMap_nil->Ql,reverse_cons->Qj,ext_getElem?->Qh,find?_append->Qc,nodup_append->Qb,replicate->Pe,getElem?_toArray->Q9,set_append_right->Q7,cons_append->Qa,nodup_range->P9,any_cons->Pc,map_drop->O8,of_mem_zip->P6,map_congr_left->Q3,map_nil->O7,any_map->O5,find?_map->PY,getD->NO
open PySem.W renaming Frag->u4,kas_desc->I9,keepIn->Nv,fnOf->Nf,kas_rev->LF,kas_place->ML,cellsFrom_some->Re,kas_asc->Mb,findIn->Pf,kas_sort->MK,kas_descPart->Ou,codeIn->P3,methodObj->Q1
open Nat renaming le_refl->u5,ne_of_lt->x9,zero_le->z8,lt_of_lt_of_le->Fn,lt_irrefl->D4,le_trans->C7,lt_succ_self->LI,lt_or_ge->Md,not_lt_zero->MY,lt_succ_of_lt->NC,lt_trichotomy->N9,le_add_right->OA,sub_self->Nr,not_lt->MT,le_of_lt->NR,ne_of_gt->NQ,min_eq_left->Ph,le_succ->Os,lt_trans->O6
open Bool renaming false_eq_true->A9,and_eq_true->D3,eq_false_iff->Mp,false_ne_true->MF,not_true->MV,eq_iff_iff->Nx,or_eq_true->Nw,not_eq_true'->Pm,false_or->NS,false_and->Pg,true_and->Pb,and_false->P0
open Option.some renaming inj->A5
open Array renaming getElem?_eq_getElem->G3,length_toList->D8,getElem?_toList->Ix,getElem?_eq_some_iff->MR,getD_eq_getD_getElem?->NH,getElem?_eq_none->Oe,forIn_toList->ND,getD->Mj,toList_push->Qg
open Classical renaming propDecidable->K8,byContradiction->M9
open PySem.SetTable renaming below->D6,runEnd->J5,bits->MN,leap->Nh,Probe->Nu,grown->NX,turns->Ow,fits->Ov,insertAt->Qf,sizeAbove->Q2,fill->PU
open PySem.Heap.SameBut renaming update->LL
open Option renaming map_eq_some_iff->Me,isSome_iff_exists->Rs
open Ne renaming symm->w9
open PySem.Builtin.SmallTypes renaming nextOf->NG,ownedTupleIsFree->QP,ownedTupleHandOut->RK
open PySem.Obj renaming mapSeq->F9,data_mapFields->OF,mapFields->NT,data_mapDictKeys->Qs,isFreed_of_dict->Qq,isFreed_of_fields->Q8,data_mapDict->P8,putSet->Op
open PySem.Value renaming ref->E1,none->H9,type->Nd,bool->Oq
open Int renaming toNat_natCast->ME
open PyProof.Rows renaming slot_tuple_getitem->OL,callWith_type1->QK,get?_update_seq->N0,listUpdate_at->NU,listItems_at->Ot
open PySem.Builtin.Str renaming strKind->NF,occurrences->QA,strSliceIndices->Rx
open PySem.NameKind renaming free->LU,cell->Nt
open PySem.Builtin.Tuple renaming tupleHashOf->Og,tupleItemsOf->QI,tupleExact->QE
open PySem.Around renaming under_plainId->Nk
open Sum renaming inr->ABh
open PySem.Txt renaming split->J0,slice->K5,startswith->Ox
open PySem.Builtin.Dict_items renaming ownsTuple->PB
open PySem.Builtin.Dict renaming updateFrom->OK,showsAll->Qu,selfAndRest->Rn
open PySem.Calls renaming callWith_builtin->OI,spliced_cons->Qp,spliced_nil->Qk,evalArgs_plain->Q5
open PySem.F renaming slot_tuple_getattribute->QO,slot_list_getattribute->QN,plainAttrs_dict->Qz,slot_dict_get->Qv,kt_typeCall_dict_1->Rw,args_tuple_add_2->Rr,slot_dict_values->Rp,args_dict_init_2->Ro,entry_tuple_add->Rl,entry_dict_init->Rf,slot_tuple_add->Rc,kt_called_dict->Ra
open PySem.SetTable.below renaming go->N8
open PySem.Builtin.List renaming listExtendWith->QJ,listTooLong->Rq,listLengthHint->RI
open PySem.SeqAt renaming EqAt->Ml
open PySem.Shared renaming TypeIs->Ng
open PySem.Builtin.Slice renaming slicePlaces->QH,sliceAdjust->Rv,sliceApplied->RH
open List.Pairwise renaming filter->Pw,nil->Pp
open False renaming elim->MM
open List.Perm renaming refl->NY,cons->PZ
open PySem.SetTable.layClean renaming free->Qx
open PySem.SeqAt.EqAt renaming int_str->Ps,str_int->Pq,int_int->Qo,str_str->Qn,same->P4
open List.cons renaming injEq->Oz,inj->O9
open True renaming intro->Nq
open ForInStep renaming yield->P5
open PySem.Expr renaming Call->Np
open PySem.SetTable.probe renaming go->Q0
open Option renaming some->a7,none->a8
open Bool renaming true->a9,false->bt
open PySem renaming Value->c5,Str->c6,World->c7,Program->c8,Addr->c9,Obj->d5,Heap->d6,sysModules->d7,entryOfKey->d8,mainGlobals->d9,bootBuiltins->e8,Around->e9,Shared->f6,Scope->f7,wpAny->f9,Expr->ge,model->h8,Pos->i3,backTo->i4,starEach->i5,Stmt->i6,holding->i7,swapsWith->i8,assign->i9,assignEach->j0,pyNext->j1,letOwnedTupleGo->j2,pyIter->j3,rawInt->j4,foldedSetIterable->j5,binaryOp->j6,compareOp->j7,behindInMarks->j8,cLine->j9,FuncData->k4,codeAny->k5,Keyword->k6,NameKind->k7,IsPart->k9,getItem->l3,typeIs_str->l5,sliceBounds->l6,typeOf->l7,attributeBase->l8,backToKw->l9,keywordEach->m3,call_meets->m5,reduceHash->m6,DictEntry->m7,firstArgMember->m9,IsPair->n5,pickOrder->n6,SetTable->n9
open PyProof.Rows renaming AllBare->f8,envOfC->k8,seqObj->m8
set_option autoImplicit true
set_option relaxedAutoImplicit true
set_option compiler.extract_closed false
set_option Elab.async false
set_option linter.all false
set_option maxRecDepth 100000
def o0:=@if_pos
def o4:=@if_neg
def o5:=@absurd
def o6:=@decide_eq_true_eq
def o7:=@decide_eq_true_iff
def o8:=@beq_iff_eq
def p5:=@if_false
def p6:=@if_true
def p7:=@congrArg
def p8:=@beq_self_eq_true
-- CHANGE: your row's module here,as the last of these rows
theorem dF_{p:Prop}[Decidable p](h:¬p):decide p=bt:=decide_eq_false h
theorem dT_{p:Prop}[Decidable p](h:p):decide p=a9:=decide_eq_true h
theorem oT_{p:Prop}[Decidable p](h:decide p=a9):p:=of_decide_eq_true h
namespace L2
open PySem PySem.Spec PyProof.Rows
noncomputable abbrev C9:=Sum Int c6
noncomputable def yj:C9->c5->Bool
 |.inl k,v=>Value.isInt k v
 |.inr x,v=>Value.isStrOf x v
noncomputable def keyH(w:c7):C9->Int
 |.inl k=>hashInt k
 |.inr x=>hashStr w x
theorem bw:∀{k:C9}{v:c5},yj k v=a9->(∃i t,k=Sum.inl i/\v=Value.int i t)\/(∃x t,k=ABh x/\v=Value.str x t)
 |.inl i,v,h=>by obtain⟨t,e⟩:=Value.isInt_shape (k:=i) (v:=v) h;exact .inl ⟨i,t,rfl,e⟩
 |.inr x,v,h=>by obtain⟨t,e⟩:=Value.isStrOf_shape (x:=x) (v:=v) h;exact .inr ⟨x,t,rfl,e⟩
theorem AO(i:Int)(t:Tok):yj (.inl i) (.int i t)=a9:=by simp[yj,Value.isInt]
theorem AN(x:c6)(t:Tok):yj (.inr x) (.str x t)=a9:=by simp[yj,Value.isStrOf]
theorem Kj(a b:Int):decide ((Sum.inl a:C9)=Sum.inl b)=(a==b):=by by_cases e:a=b;subst e;simp;have h:¬(Sum.inl a:C9)=Sum.inl b:=λq=>e<|Sum.inl.inj q;rw[dF_ h];exact(beq_eq_false_iff_ne.mpr e).symm
theorem Fe(a b:c6):decide ((ABh a:C9)=ABh b)=decide (a=b):=by by_cases e:a=b;subst e;simp;have h:¬(ABh a:C9)=ABh b:=λq=>e<|Sum.inr.inj q;rw[dF_ h,dF_ e]
theorem Ki(a:Int)(b:c6):decide ((Sum.inl a:C9)=ABh b)=bt:=dF_<|λq=>nomatch q
theorem Kh(a:c6)(b:Int):decide ((ABh a:C9)=Sum.inl b)=bt:=dF_<|λq=>nomatch q
noncomputable def bR(prog:c8)(w:c7):PySem.KeyKind prog w C9 where
 is:=yj
 hash:=keyH w
 inj:=λv a b f d=>by
  rcases bw f with⟨i,t,rfl,rfl⟩|⟨x,t,rfl,rfl⟩
  rcases bw d with⟨j,u,rfl,e⟩|⟨y,u,rfl,e⟩
  injection e with e1 _;rw[e1];exact nomatch e
  rcases bw d with⟨j,u,rfl,e⟩|⟨y,u,rfl,e⟩
  exact nomatch e
  injection e with e1 _;rw[e1]
 byValue:=λk v h=>by rcases bw h with⟨i,t,rfl,rfl⟩|⟨x,t,rfl,rfl⟩<;>rfl
 pyHash:=λc h=>by
  rcases bw c with⟨i,t,rfl,rfl⟩|⟨x,t,rfl,rfl⟩
  exact Pl h;exact Pk h
 eqBool:=λg c h=>by
  rcases bw g with⟨i,t,rfl,rfl⟩|⟨x,t,rfl,rfl⟩
  rcases bw c with⟨j,u,rfl,rfl⟩|⟨y,u,rfl,rfl⟩
  rw[Kj]at h;exact wpAny_eqBool_int h;rw[Ki]at h;exact Ps i t y u _ _ _ _ h;rcases bw c with⟨j,u,rfl,rfl⟩|⟨y,u,rfl,rfl⟩
  rw[Kh]at h;exact Pq x t j u _ _ _ _ h;rw[Fe]at h;exact wpAny_eqBool_str h
 «strs»:=λk x t v h=>by
  rcases bw h with⟨i,u,rfl,e⟩|⟨y,u,rfl,e⟩
  exact nomatch e
  injection e with e1 _;subst e1;cases v<;>rfl
theorem uR(prog:c8)(w:c7)(i:Int)(t:Tok):(bR prog w).is (.inl i) (.int i t)=a9:=AO i t
theorem uQ(prog:c8)(w:c7)(x:c6)(t:Tok):(bR prog w).is (.inr x) (.str x t)=a9:=AN x t
inductive V where
 |non|bl (b:Bool)|int (i:Int)|str (x:c6)|byt (b:Array UInt8)|flt (b:UInt64)|ref (a:c9)|ty (n:String)
 deriving DecidableEq
def aV:V->c5->Prop
 |.non,u=>u=H9
 |.bl b,u=>u=Oq b
 |.int i,u=>∃t,u=Value.int i t
 |.str x,u=>∃t,u=Value.str x t
 |.byt b,u=>∃t,u=Value.bytes b t
 |.flt b,u=>∃t,u=Value.float b t
 |.ref a,u=>u=E1 a
 |.ty n,u=>u=Nd n
abbrev av:List V->List c5->Prop:=Paired aV
theorem av.length(r:av xs us):xs.length=us.length:=Paired.length r
theorem av.get:∀{xs:List V}{us:List c5}{i:Nat}{x:V},av xs us->xs[i]?=a7 x->∃u,us[i]?=a7 u/\aV x u
 |_,_,_,_,.nil,e=>by simp at e
 |_,_,0,_,.cons r _,e=>by simp at e;subst e;exact⟨_,rfl,r⟩
 |_,_,i+1,x,.cons _ t,e=>by obtain⟨u,h1,h2⟩:=av.get (i:=i) (x:=x) t (by simpa using e);exact⟨u,by simpa using h1,h2⟩
theorem av.set(r:aV x u):∀{xs:List V}{us:List c5} (i:Nat),av xs us->av (xs.set i x) (us.set i u)
 |_,_,_,.nil=>.nil
 |_,_,0,.cons _ t=>.cons r t
 |_,_,i+1,.cons q t=>.cons q<|av.set r i t
theorem av.append(h:av xs us)(s:av ys ws):av (xs++ys) (us++ws):=by
 induction h with
 |nil=>exact s
 |cons r t i=>exact .cons r i
theorem av.take:∀{xs:List V}{us:List c5} (n:Nat),av xs us->av (xs.take n) (us.take n)
 |_,_,0,_=>.nil
 |_,_,_+1,.nil=>.nil
 |_,_,n+1,.cons r t=>.cons r<|av.take n t
theorem av.drop:∀{xs:List V}{us:List c5} (n:Nat),av xs us->av (xs.drop n) (us.drop n)
 |_,_,0,r=>r
 |_,_,_+1,.nil=>.nil
 |_,_,n+1,.cons _ t=>av.drop n t
def BS:Option V->Option c5->Prop
 |some v,a7 u=>aV v u
 |none,a8=>True
 |_,_=>False
def KV{κ:Type}:List (κ×V)->List (κ×c5)->Prop:=Paired λ(p:κ×V) (q:κ×c5)=>p.1=q.1/\aV p.2 q.2
noncomputable def kV:C9->V
 |.inl i=>.int i
 |.inr x=>.str x
inductive HO where
 |lst (xs:List V)
 |tup (xs:List V)
 |dK (kvs:List (C9×V))|dT (kvs:List (List C9×V))
 |set (S:Int->Bool) (n:Nat)
 |ins (C dx:c9) (fs:List (c6×V))
 |own (x:c9)
 |xd (fs:List (c6×V))
 |met (f x:c9)
 |rng (lo hi:Int)
 |frz (o:d5) (u:HO)
 |tbl (ps:Array c5)
 |ext (φ:c8->c7->d6->Prop)
abbrev Hp:=c9->Option HO
noncomputable def v6(H:Hp)(a:c9)(o:HO):Hp:=λb=>if b=a then a7 o else H b
theorem aK:v6 H a o a=a7 o:=by unfold v6;rw[o0 rfl]
theorem ag(h:b≠a):v6 H a o b=H b:=by unfold v6;rw[o4 h]
theorem xW{H:Hp}{a b:c9}{o u:HO}(h:H a=a7 o)(h':H b=a7 u)(d:o≠u):a≠b:=by intro e;subst e;rw[h]at h';exact d<|A5 h'
theorem ad{H:Hp}{a b:c9}{o:HO}(h:H a=a7 o)(h':H b=a8):a≠b:=by intro e;subst e;rw[h]at h';cases h'
section
variable(P:c8)(w:c7)
def EB(h:d6)(a:c9)(s:Array c5):Prop:=∃o,h.get? a=a7 o/\o.cls=.type "tuple"/\(∃n,o.data=.seq s n)/\o.dict=a8
theorem EB.tup:EB h a items->IsTup h a items:=λ⟨o,e,c,⟨n,d⟩,_⟩=>⟨o,e,c,n,d⟩
theorem EB.new(h:d6)(s:Array c5):EB (h.push { cls:=.type "tuple",data:=.seq s }) h.objs.size s:=⟨_,z0 _ rfl,rfl,⟨_,rfl⟩,rfl⟩
def cH(H:Hp)(h:d6)(a:c9):HO->Prop
 |.lst xs=>xs.length<=sizeLine/\∃(its:List c5) (n:Nat),av xs its/\h.get? a=a7 { cls:=.type "list",data:=.seq its.toArray n }
 |.tup xs=>xs.length<=sizeLine/\∃its:List c5,av xs its/\EB h a its.toArray
 |.dK kvs=>kvs.length<=sizeLine/\(a==d7)=bt/\∃vs,KV kvs vs/\h.DictOf (bR P w) a vs
 |.dT kvs=>kvs.length<=sizeLine/\(a==d7)=bt/\∃xs:List (List C9×c9×c5),Paired (λ(p:List C9×V) (q:List C9×c9×c5)=>p.1=q.1/\H q.2.1=a7 (.tup<|p.1.map kV)/\aV p.2 q.2.2) kvs xs /\∃o es ep,h.get? a=a7 o/\o.ExactDict/\o.data=.dict es ep/\es.toList=xs.map (d8<|tupleKind<|bR P w)/\(xs.map (·.1)).Nodup
 |.set S n=>h.SetOf (intKind P w) a S n
 |.ins C dx fs=>H dx=a7 (.own a)/\fs.length<=1000/\dx≠a/\h.get? a=a7 (PySem.W.instObj C dx) /\∃mA,h.Ns1 dx mA/\(∀f,BS (fs.lookup f)<|mA f)/\PySem.Within mA (fs.map (·.1))
 |.own _=>∃o,h.get? a=a7 o
 |.xd fs=>∃mA,h.Ns1 a mA/\∀f,BS (fs.lookup f)<|mA f
 |.rng lo hi=>∃t u v,h.get? a=a7 { cls:=.type "range",data:=.fields #[.int lo t,.int hi u,.int 1 v] }
 |.frz o u=>h.get? a=a7 o/\cH H h a u
 |.tbl ps=>h.get? a=a7 { cls:=.none,data:=.fields ps }
 |.met f x=>h.get? a=a7 (Q1 (.ref f)<|.ref x)
 |.ext φ=>φ P w h/\(∃o,h.get? a=a7 o)/\∀h1 h2:d6,φ P w h1->(∀o,h1.get? a=a7 o->h2.get? a=a7 o)->φ P w h2
def D0(H:Hp)(h:d6):Prop:=∀a o,H a=a7 o->cH P w H h a o
end
section
variable{P:c8}{w:c7}{H H':Hp}{h h':d6}{a:c9}{o:HO}
theorem cH.lt(x:cH P w H h a o):a<h.objs.size:=by
 cases o with
 |lst xs=>obtain⟨_,_,_,_,e⟩:=x;exact v9 e
 |tup xs=>obtain⟨_,_,_,p⟩:=x;exact p.tup.lt
 |dK s=>obtain⟨_,_,_,_,o,_,_,e,_⟩:=x;exact v9 e
 |dT s=>obtain⟨_,_,_,_,o,_,_,e,_⟩:=x;exact v9 e
 |set S n=>obtain⟨o,_,_,_,e,_⟩:=x;exact v9 e
 |ins C d b=>obtain⟨_,_,_,e,_⟩:=x;exact v9 e
 |own y=>obtain⟨_,e⟩:=x;exact v9 e
 |xd b=>obtain⟨_,⟨_,_,_,e,_⟩,_⟩:=x;exact v9 e
 |rng l hi=>obtain⟨_,_,_,e⟩:=x;exact v9 e
 |frz c u=>obtain⟨e,_⟩:=x;exact v9 e
 |tbl ps=>exact v9<|show h.get? a=a7 _ from x
 |met f y=>exact v9<|show h.get? a=a7 _ from x
 |ext φ=>obtain⟨_,⟨_,e⟩,_⟩:=x;exact v9 e
theorem Paired.mapP{α β:Type}{F G:α->β->Prop}:∀{l₁:List α}{l₂:List β},Paired F l₁ l₂->(∀a b,F a b->G a b)->Paired G l₁ l₂
 |_,_,.nil,_=>.nil
 |_,_,.cons r t,f=>.cons (f _ _ r)<|Paired.mapP t f
theorem cH.stay(x:cH P w H h a o)(k:∀b u,(b=a\/H b=a7 (.own a))->h.get? b=a7 u->h'.get? b=a7 u)(B:∀b,H b=a7 (.own a)->H' b=a7 (.own a)) (D:∀b xs,H b=a7 (.tup xs)->H' b=a7 (.tup xs)):cH P w H' h' a o:=by
 induction o with
 |lst xs=>obtain⟨z,its,n,r,e⟩:=x;exact⟨z,its,n,r,k _ _ (.inl rfl) e⟩
 |tup xs=>obtain⟨z,its,r,g,e,c⟩:=x;exact⟨z,its,r,g,k _ _ (.inl rfl) e,c⟩
 |dK s=>obtain⟨z,y,vs,r,g,es,i,e,c⟩:=x;exact⟨z,y,vs,r,g,es,i,k _ _ (.inl rfl) e,c⟩
 |dT s=>obtain⟨z,y,xs,r,g,es,i,e,c⟩:=x;exact⟨z,y,xs,Paired.mapP r λp q z=>⟨z.1,D _ _ z.2.1,z.2.2⟩,g,es,i,k _ _ (.inl rfl) e,c⟩
 |set S n=>obtain⟨g,es,i,t,e,c⟩:=x;exact⟨g,es,i,t,k _ _ (.inl rfl) e,c⟩
 |ins C G m=>obtain⟨d,z,F,e,A,⟨j,es,i,l,c⟩,r⟩:=x;exact⟨B _ d,z,F,k _ _ (.inl rfl) e,A,⟨j,es,i,k _ _ (.inr d) l,c⟩,r⟩
 |own y=>obtain⟨g,e⟩:=x;exact⟨g,k _ _ (.inl rfl) e⟩
 |xd m=>obtain⟨A,⟨j,es,i,e,c⟩,r⟩:=x;exact⟨A,⟨j,es,i,k _ _ (.inl rfl) e,c⟩,r⟩
 |rng I hi=>obtain⟨t,u,v,e⟩:=x;exact⟨t,u,v,k _ _ (.inl rfl) e⟩
 |frz g u E=>obtain⟨e,q⟩:=x;exact⟨k _ _ (.inl rfl) e,E q⟩
 |tbl ps=>have e:h.get? a=a7 { cls:=.none,data:=.fields ps }:=x;show h'.get? a=a7 { cls:=.none,data:=.fields ps };exact k a _ (.inl rfl) e
 |met f y=>have e:h.get? a=a7 (Q1 (.ref f)<|.ref y):=x;show h'.get? a=a7 (Q1 (.ref f)<|.ref y);exact k a _ (.inl rfl) e
 |ext φ=>obtain⟨p,⟨o,e⟩,st⟩:=x;exact⟨st _ _ p λo q=>k _ _ (.inl rfl) q,⟨o,k _ _ (.inl rfl) e⟩,st⟩
theorem D0.lt(x:D0 P w H h)(e:H a=a7 o):a<h.objs.size:=(x a o e).lt
theorem D0.fresh(x:D0 P w H h)(e:h.objs.size<=a):H a=a8:=by
 cases q:H a with
 |none=>rfl
 |some u=>exact o5 (Fn (x.lt q) e)<|D4 _
theorem D0.kept(x:D0 P w H h)(k:∀b u,h.get? b=a7 u->h'.get? b=a7 u):D0 P w H h':=λa o e =>
 (x a o e).stay (λb u _ q=>k b u q) (λ_ q=>q) λ_ _ q=>q
theorem D0.laid(x:D0 P w H h)(k:∀b u,h.get? b=a7 u->h'.get? b=a7 u)(p:h.objs.size<=a)(n:cH P w (v6 H a o) h' a o):D0 P w (v6 H a o) h':=λb u e=>by have f:=x.fresh p;by_cases d:b=a;subst d;rw[aK]at e;cases e;exact n;rw[ag d]at e;exact(x b u e).stay (λc v _ q=>k c v q) (λc q=>by rw[ag<|ad q f];exact q) λc xs q=>by rw[ag<|ad q f];exact q
end
def Rd(H:Hp)(a:c9)(u:HO):Prop:=H a=a7 u\/∃o,H a=a7 (.frz o u)
theorem Rd.ok(r:Rd H a u)(x:D0 P w H h):cH P w H h a u:=by
 rcases r with r|⟨o,r⟩
 exact x a u r;obtain⟨_,q⟩:=x a _ r;exact q
def O0:Option HO->Prop
 |some (.lst _)=>True
 |some (.dK _)=>True
 |some (.dT _)=>True
 |some (.set _ _)=>True
 |some (.ins _ _ _)=>True
 |some (.ext _)=>True
 |_=>False
section
variable{P:c8}{w:c7}{H:Hp}{h h':d6}{x e:c9}{o':HO}
theorem D0.write(ok:D0 P w H h)(m:O0 (H x))(i:e=x\/H e=a7 (.own x))(k:∀b u,b≠e->h.get? b=a7 u->h'.get? b=a7 u)(o:∃u,h'.get? e=a7 u)(g:cH P w (v6 H x o') h' x o'):D0 P w (v6 H x o') h':=λb u q=>by
 have n:∀c y,H c=a7 (.own y)->c≠x:=λc y r z=>by subst z;rw[r]at m;exact m
 have p:∀c xs,H c=a7 (.tup xs)->c≠x:=λc xs r z=>by subst z;rw[r]at m;exact m
 by_cases d:b=x;subst d;rw[aK]at q;cases q;exact g;rw[ag d]at q;by_cases a:b=e;have j:H b=a7 (.own x):=by rcases i with z|z;exact o5 (a.trans z) d;rw[a];exact z
 rw[q]at j;cases j;obtain⟨v,l⟩:=o;exact⟨v,by rw[a];exact l⟩;refine(ok b u q).stay (λc v f r=>k c v ?_ r) (λc r=>by rw[ag<|n c b r];exact r) λc xs r=>by rw[ag<|p c xs r];exact r
 rcases f with rfl|f;exact a;rintro rfl;rcases i with z|z;exact n c b f z;rw[f]at z;cases z;exact d rfl
end
structure Un(fs ex:List c9)(H H':Hp)(h h':d6):Prop where
 keep:∀b o,h.get? b=a7 o->H b=a8->b∉fs->b∉ex->h'.get? b=a7 o
 slot:∀b o,h.get? b=a7 o->H b=a8->b∈fs->b∉ex->∃sl,h'.get? b=a7 { o with slots:=sl }
 free:∀b o,h.get? b=a7 o->H b=a8->b∉ex->H' b=a8
 there:∀b o,h.get? b=a7 o->b∉ex->∃o',h'.get? b=a7 o'
 tups:∀b xs,H b=a7 (.tup xs)->H' b=a7 (.tup xs)
 frzs:∀b o u,H b=a7 (.frz o u)->H' b=a7 (.frz o u)
 tbls:∀b ps,H b=a7 (.tbl ps)->∃more,H' b=a7 (.tbl<|ps++more)
section
variable{fs fs' ex ex':List c9}{H H1 H2:Hp}{h h1 h2 h':d6}{a x e:c9}{o:HO}
theorem Un.any(u:Un fs ex H H1 h h1)(q:h.get? b=a7 ob)(n:H b=a8)(x:b∉ex):∃sl,h1.get? b=a7 { ob with slots:=sl }:=by by_cases d:b∈fs;exact u.slot b ob q n d x;exact⟨ob.slots,u.keep b ob q n d x⟩
theorem Un.kept(k:∀b u,h.get? b=a7 u->h'.get? b=a7 u):Un fs ex H H h h':=⟨λb c q _ _ _=>k b c q,λb c q _ _ _=>⟨c.slots,k b c q⟩,λ_ _ _ n _=>n,λb c q _=>⟨c,k b c q⟩,λ_ _ q=>q,λ_ _ _ q=>q,λ_ ps q=>⟨#[],by rw[q];simp⟩⟩
theorem Un.refl:Un fs ex H H h h:=Un.kept λ_ _ q=>q
theorem Un.laid(k:∀b u,h.get? b=a7 u->h'.get? b=a7 u)(p:h.objs.size<=a)(f:H a=a8):Un fs ex H (v6 H a o) h h' where
 keep:=λb u q _ _ _=>k b u q
 slot:=λb u q _ _ _=>⟨u.slots,k b u q⟩
 free:=λb u q n _=>by rw[ag<|x9<|Fn (v9 q) p];exact n
 there:=λb u q _=>⟨u,k b u q⟩
 tups:=λb xs q=>by rw[ag<|ad q f];exact q
 frzs:=λb u xs q=>by rw[ag<|ad q f];exact q
 tbls:=λb ps q=>⟨#[],by rw[ag<|ad q f,q];simp⟩
theorem Un.write(m:O0 (H x))(i:e=x\/H e=a7 (.own x))(k:∀b u,b≠e->h.get? b=a7 u->h'.get? b=a7 u)(c:∃u,h'.get? e=a7 u):Un fs ex H (v6 H x o) h h':=by
 have g:∀b,H b=a8->b≠x:=λb n z=>by subst z;rw[n]at m;exact m
 have f:∀b,H b=a8->b≠e:=λb n z=>by subst z;rcases i with r|r;exact g b n r;rw[n]at r;cases r
 have d:∀b u,H b=a7 u->¬O0 (a7 u)->b≠x:=λb u q j z=>by subst z;rw[q]at m;exact j m
 refine⟨λb u q n _ _=>k b u (f b n) q,λb u q n _ _=>⟨u.slots,k b u (f b n) q⟩,λb u q n _=>by rw[ag<|g b n];exact n,λb u q _=>?_,λb xs q=>by rw[ag<|d b _ q λz=>z];exact q,λb u xs q=>by rw[ag<|d b _ q λz=>z];exact q,λb ps q=>⟨#[],by rw[ag<|d b _ q λz=>z,q];simp⟩⟩;by_cases a:b=e;subst a;exact c;exact⟨u,k b u a q⟩
end
noncomputable def PJ(h:d6)(H:Hp):List c9:=(A7 h.objs.size).filter λa=>(H a).isSome
noncomputable def BR(h:d6)(H:Hp):d6:=PySem.W.hideAll h<|PJ h H
theorem Be(h:d6)(H:Hp):(BR h H).objs.size=h.objs.size:=PySem.W.hideAll_size _ _
theorem DJ(e:h.get? b=a7 o)(n:H b=a8):(BR h H).get? b=a7 o:=PySem.W.hideAll_get _ e λd=>by have q:(H b).isSome=a9:=(B9.mp d).2;rw[n]at q;simp at q
theorem Gq(e:(BR h H).get? b=a7 o):h.get? b=a7 o/\H b=a8:=by
 have a:h.get? b=a7 o:=PySem.W.of_hideAll (PJ h H) e;refine⟨a,?_⟩;cases q:H b with
 |none=>rfl
 |some x=>have d:b∈PJ h H:=B9.mpr ⟨G4.mpr<|v9 a,by simp[q]⟩;have z:(BR h H).get? b=a8:=PySem.W.hideAll_none (PJ h H) d;rw[z]at e;cases e
noncomputable def Ih(g h:d6)(L:c9):List (c9×d5):=(A7 h.objs.size).filterMap λa=>if a=L\/(g.get? a).isSome=a9 then a8 else(h.get? a).map λo=>(a,o)
noncomputable def bf(g h:d6)(L d:c9):List (c9×d5):=(Ih g h L).filter λp=>decide<|p.1≠d
structure Mod(K:u4)(mg:c6->Option c5)(base:d6):Prop where
 kin:K.In base
 glob:base.Ns d9 mg
 blt:∃mb,base.Ns builtinsNs mb/\∀x:c6,x≠"__name__"->mb x=e8 x
 nolimit:base.NoLimit
/-- the context: a def's body (or a comprehension's block) running. base: fixed through the whole law;s₀,H₀: the entry;outer: the frames whose slots others may change (a def's callers);stack: all frames that run;
  ex: iterators that were made fJ of the entry and are walked here (a comprehension's);fn: the names whose cells were made at the entry (a def: all;a comprehension's block: its own);calm: not cw an except suite;pn: pins that every state bears;xe: what is wanted of an exception that leaves the code -/
structure Cx where
 prog:c8
 w:c7
 K:u4
 mg:c6->Option c5
 base:d6
 A:e9
 N:List c6
 s₀:f6
 H₀:Hp
 env:Env
 outer:List Env
 stack:List Env
 ex:List c9
 fn:c6->Bool
 calm:Bool
 pn:List (c9×d5)
 xe:c5->f6->Prop
noncomputable def K1(l:List Env):List c9:=l.filterMap (·.frame)
noncomputable abbrev Cx.fs(X:Cx):List c9:=K1 X.outer
def NL(c:f7)(x:c6):Prop:=c.names.lookup x=a7 .local\/c.names.lookup x=a7 .cell\/c.names.lookup x=a7 .free
def No(c:f7)(x:c6):Prop:=c.names.lookup x=a7 .local\/c.names.lookup x=a7 .cell
def Look(env:Env)(h:d6)(m:c6->Option c5)(x:c6)(u:c5):Prop:=(env.kindOf x=a7 .local/\m x=a7 u)\/((env.kindOf x=a7 .cell\/env.kindOf x=a7 .free)/\∃c,env.cells.lookup x=a7 c/\h.IsCell c (a7 u))
structure Cx.Ok(X:Cx):Prop where
 mod:Mod X.K X.mg X.base
 kind:X.env.scope.kind=.function
 glob:X.env.globals=d9
 blt:X.env.builtins=builtinsNs
 above:X.s₀.heap.objs.size<=X.env.locals
 inj:∀x y c,X.env.cells.lookup x=a7 c->X.env.cells.lookup y=a7 c->x=y
 has:∀x,(X.env.kindOf x=a7 .cell\/X.env.kindOf x=a7 .free)->∃c,X.env.cells.lookup x=a7 c
 cab:∀x c,X.fn x=a9->X.env.cells.lookup x=a7 c->X.s₀.heap.objs.size<=c
 hd:X.calm=a9->X.A.handled=a8
 frames:X.A.frames=a7 X.stack
 stk:X.stack=X.outer\/(X.stack=X.env::X.outer/\X.env.frame=a7 X.env.locals)
 exf:∀b∈X.ex,b≠X.env.locals/\∀x c,X.env.cells.lookup x=a7 c->c≠b
 bs:∀b o,X.base.get? b=a7 o->X.s₀.heap.get? b=a7 o/\X.H₀ b=a8
 bsz:X.base.objs.size<=X.s₀.heap.objs.size
 noex:∀b o,X.base.get? b=a7 o->b∉X.ex
 exfs:∀b∈X.ex,b∉X.fs
 funs:X.s₀.heap.FunFrames X.base X.outer
 frf:∀b∈X.fs,X.H₀ b=a8
structure q9(X:Cx)(pins:List (c9×d5))(σ:List (Option V))(H:Hp)(s:f6):Prop where
 ok:X.Ok
 os:s.os=X.s₀.os
 bare:f8 s.gens
 base:Un X.fs X.ex X.H₀ H X.s₀.heap s.heap
 loc:∃m,s.heap.Ns X.env.locals m/\∀(i:Nat) (x:c6) (v:V),X.N[i]?=a7 x->σ[i]?=a7 (a7 v)->NL X.env.scope x->∃u,aV v u/\Look X.env s.heap m x u
 cell:∀x c,X.env.cells.lookup x=a7 c->∃v,s.heap.IsCell c v
 free:H X.env.locals=a8
 freeC:∀x c,X.env.cells.lookup x=a7 c->H c=a8
 pin:∀p∈X.pn++pins,s.heap.get? p.1=a7 p.2/\H p.1=a8/\p.1≠X.env.locals/\p.1∉X.fs/\∀v,p.2.data≠.cell v
 hok:D0 X.prog X.w H s.heap
 len:σ.length=X.N.length
section
variable{X:Cx}{pins:List (c9×d5)}{σ:List (Option V)}{H H':Hp}{s:f6}{h':d6}
theorem Cx.Ok.nofr(ok:X.Ok)(e:X.base.get? b=a7 o):b∉X.fs:=λd=>by have:=(ok.funs.mem d).1;rw[e]at this;cases this
theorem q9.bs(I:q9 X pins σ H s):∀b o,X.base.get? b=a7 o->s.heap.get? b=a7 o/\H b=a8:=λb o e =>
 ⟨I.base.keep b o (I.ok.bs b o e).1 (I.ok.bs b o e).2 (I.ok.nofr e)<|I.ok.noex b o e,I.base.free b o (I.ok.bs b o e).1 (I.ok.bs b o e).2<|I.ok.noex b o e⟩
theorem q9.bk(I:q9 X pins σ H s):∀b o,X.base.get? b=a7 o->s.heap.get? b=a7 o:=λb o e=>(I.bs b o e).1
theorem q9.mod(I:q9 X pins σ H s):Mod X.K X.mg X.base:=I.ok.mod
theorem q9.kIn(I:q9 X pins σ H s):X.K.In s.heap:=I.ok.mod.kin.keeps I.bk
theorem q9.lt(I:q9 X pins σ H s):X.env.locals<s.heap.objs.size:=let ⟨_,hn,_⟩:=I.loc;hn.lt
theorem q9.sz(I:q9 X pins σ H s):X.s₀.heap.objs.size<=s.heap.objs.size:=C7 I.ok.above<|NR I.lt
theorem q9.nofs(I:q9 X pins σ H s)(h:s.heap.objs.size<=a):a∉X.fs:=λd=>by obtain⟨_,o,B,_⟩:=I.ok.funs.mem d;exact o5 (Fn (v9 B)<|C7 I.sz h)<|D4 _
theorem q9.cne(I:q9 X pins σ H s):∀x c,X.env.cells.lookup x=a7 c->c≠X.env.locals:=λx c e z=>by obtain⟨v,o,B,d⟩:=I.cell x c e;obtain⟨m,⟨b,es,i,a,h,_⟩,_⟩:=I.loc;rw[z,a]at B;cases B;rw[h]at d;cases d
theorem q9.funs(I:q9 X pins σ H s):s.heap.FunFrames X.base X.outer:=by
 have a:∀(l:List Env),(∀b∈K1 l,b∈X.fs)->X.s₀.heap.FunFrames X.base l->s.heap.FunFrames X.base l:=by
  intro l;induction l with
  |nil=>intro _ _;trivial
  |cons env r j=>intro hs g;obtain⟨k,⟨L,o,f,n,B,c⟩,i⟩:=g;have h:L∈X.fs:=hs L (by unfold K1;rw[Mq,f];exact C1);obtain⟨m,e⟩:=I.base.slot L o B (I.ok.frf L h) h λz=>I.ok.exfs L z h;exact⟨k,⟨L,_,f,n,e,c⟩,j (λb d=>hs b<|by unfold K1;rw[Mq,f];exact A6 _ d) i⟩
 exact a X.outer (λ_ d=>d) I.ok.funs
theorem q9.stack(I:q9 X pins σ H s):s.heap.FunFrames X.base X.stack:=by
 rcases I.ok.stk with e|⟨e,f⟩
 rw[e];exact I.funs;rw[e];obtain⟨m,n,_⟩:=I.loc;refine .cons (by rw[I.ok.kind];decide) f n ?_ I.funs;exact Heap.get?_none_of_le<|C7 I.ok.bsz I.ok.above
theorem q9.stkSub(I:q9 X pins σ H s):∀b∈K1 X.stack,b∈X.env.locals::X.fs:=λb d=>by
 rcases I.ok.stk with e|⟨e,f⟩
 rw[e]at d;exact A6 _ d;rw[e]at d;unfold K1 at d;rw[Mq,f]at d;exact d
theorem q9.stkFree(I:q9 X pins σ H s):∀b∈K1 X.stack,H b=a8:=λb d=>by rcases x6.mp (I.stkSub b d)with e|d;rw[e];exact I.free;obtain⟨_,o,B,_⟩:=I.ok.funs.mem d;exact I.base.free b o B (I.ok.frf b d) λz=>I.ok.exfs b z d
theorem q9.step{g':Array GenState}{t':Nat}{d':Drawn}{ch:List c9}(I:q9 X pins σ H s)(a:∀b∈ch,(b∈X.ex\/X.s₀.heap.objs.size<=b)/\b≠X.env.locals/\(∀x c,X.env.cells.lookup x=a7 c->c≠b)/\∀p∈X.pn++pins,p.1≠b)(g:∀b o,b≠X.env.locals->b∉X.fs->b∉ch->s.heap.get? b=a7 o->H b=a8->h'.get? b=a7 o)(slot:∀b o,b≠X.env.locals->b∈X.fs->b∉ch->s.heap.get? b=a7 o->H b=a8->∃sl,h'.get? b=a7 { o with slots:=sl }) (f:∀b o,b∉ch->s.heap.get? b=a7 o->H b=a8->H' b=a8)(A:∀b o,b∉ch->s.heap.get? b=a7 o->∃o',h'.get? b=a7 o')(G:∀b xs,H b=a7 (.tup xs)->H' b=a7 (.tup xs)) (E:∀b o u,H b=a7 (.frz o u)->H' b=a7 (.frz o u)) (F:∀b ps,H b=a7 (.tbl ps)->∃more,H' b=a7 (.tbl<|ps++more))(ns:∀m,s.heap.Ns X.env.locals m->h'.Ns X.env.locals m) (K:D0 X.prog X.w H' h') (S:f8 g') :
  q9 X pins σ H' { s with heap:=h',gens:=g',drawn:=d',toks:=t' }:=by
 have L:∀b o,X.s₀.heap.get? b=a7 o->b≠X.env.locals:=λb o e=>x9<|Fn (v9 e) I.ok.above;have C:∀b o,X.s₀.heap.get? b=a7 o->b∉X.ex->b∉ch:=λb o e h y=>by rcases(a b y).1 with z|z;exact h z;exact o5 (Fn (v9 e) z)<|D4 _
 have cellK:∀x c,X.env.cells.lookup x=a7 c->∀v,s.heap.IsCell c v->h'.IsCell c v:=λx c e v ⟨o,B,J⟩=>by have j:c∉ch:=λz=>(a c z).2.2.1 x c e rfl;by_cases N:c∈X.fs;obtain⟨sl,q⟩:=slot c o (I.cne x c e) N j B<|I.freeC x c e;exact⟨_,q,J⟩;exact⟨o,g c o (I.cne x c e) N j B<|I.freeC x c e,J⟩
 refine⟨I.ok,I.os,S,⟨λb o e n y h=>?_,λb o e n y h=>?_,λb o e n h=>?_,λb o e h=>?_,λb xs e=>G b xs<|I.base.tups b xs e,λb o xs e=>E b o xs<|I.base.frzs b o xs e,λb ps e=>?_⟩,?_,λx c e=>?_,?_,λx c e=>?_,λp O=>?_,K,I.len⟩;exact g b o (L b o e) y (C b o e h) (I.base.keep b o e n y h)<|I.base.free b o e n h;obtain⟨sl,t⟩:=I.base.slot b o e n y h;obtain⟨M,D⟩:=slot b _ (L b o e) y (C b o e h) t<|I.base.free b o e n h;exact⟨M,D⟩;obtain⟨o',t⟩:=I.base.there b o e h;exact f b o' (C b o e h) t<|I.base.free b o e n h;obtain⟨o',t⟩:=I.base.there b o e h;exact A b o' (C b o e h) t;obtain⟨V,t⟩:=I.base.tbls b ps e;obtain⟨W,D⟩:=F b _ t;exact⟨V++W,by rw[D,Array.append_assoc]⟩;obtain⟨m,U,T⟩:=I.loc;refine⟨m,ns m U,λi x v t D R=>?_⟩;obtain⟨u,r,l⟩:=T i x v t D R;refine⟨u,r,?_⟩;rcases l with l|⟨k,c,e,z⟩
 exact .inl l;exact .inr ⟨k,c,e,cellK x c e _ z⟩;obtain⟨v,z⟩:=I.cell x c e;exact⟨v,cellK x c e v z⟩;obtain⟨m,⟨o,_,_,B,_⟩,_⟩:=I.loc;exact f _ o (λz=>(a _ z).2.1 rfl) B I.free;obtain⟨v,o,B,J⟩:=I.cell x c e;exact f c o (λz=>(a c z).2.2.1 x c e rfl) B<|I.freeC x c e;obtain⟨e,n,P,Q,d⟩:=I.pin p O;have j:p.1∉ch:=λz=>(a p.1 z).2.2.2 p O rfl;exact⟨g p.1 p.2 P Q j e n,f p.1 p.2 j e n,P,Q,d⟩
theorem q9.un{t':Nat}(I:q9 X pins σ H s)(u:Un X.fs [] H H' s.heap h')(K:D0 X.prog X.w H' h'):q9 X pins σ H' { s with heap:=h',toks:=t' }:=by obtain⟨m,⟨o,es,i,B,r⟩,_⟩:=id I.loc;obtain⟨l,L⟩:=u.any B I.free (by simp);exact I.step (g':=s.gens) (d':=s.drawn) (ch:=[]) (λ_ z=>nomatch z) (λb o _ h _ e n=>u.keep b o e n h<|by simp) (λb o _ h _ e n=>u.slot b o e n h<|by simp) (λb o _ e n=>u.free b o e n<|by simp) (λb o _ e=>u.there b o e<|by simp) u.tups u.frzs u.tbls (λg f=>by obtain⟨j,d,c,a,r'⟩:=f;rw[B]at a;cases a;exact⟨_,d,c,L,r'⟩) K I.bare
theorem q9.call{g':Array GenState}{t':Nat}{d':Drawn}{ch:List c9}(I:q9 X pins σ H s)(u:Un (K1 X.stack) ch H H' s.heap h')(K:D0 X.prog X.w H' h')(S:f8 g')(a:∀b∈ch,(b∈X.ex\/X.s₀.heap.objs.size<=b)/\b≠X.env.locals/\(∀x c,X.env.cells.lookup x=a7 c->c≠b)/\∀p∈X.pn++pins,p.1≠b):q9 X pins σ H' { s with heap:=h',gens:=g',drawn:=d',toks:=t' }:=by obtain⟨m,⟨o,es,k,B,r⟩,_⟩:=id I.loc;obtain⟨t,L⟩:=u.any B I.free λz=>(a _ z).2.1 rfl;exact I.step (ch:=ch) a (λb o L i f e n=>u.keep b o e n (λz=>(x6.mp<|I.stkSub b z).elim L i) f) (λb o _ _ f e n=>u.any e n f) (λb o f e n=>u.free b o e n f) (λb o f e=>u.there b o e f) u.tups u.frzs u.tbls (λl j=>by obtain⟨q,g,d,h,r'⟩:=j;rw[B]at h;cases h;exact⟨_,g,d,L,r'⟩) K S
theorem q9.turned{t':Nat}{it:c9}(I:q9 X pins σ H s)(k:∀b o,b≠it->s.heap.get? b=a7 o->h'.get? b=a7 o)(j:H it=a8)(h:it≠X.env.locals)(h1:it∈X.ex\/X.s₀.heap.objs.size<=it) (h2:∀x c,X.env.cells.lookup x=a7 c->c≠it) (a:∀p∈X.pn++pins,p.1≠it):q9 X pins σ H { s with heap:=h',toks:=t' }:=by
 have t:∀b u,H b=a7 u->b≠it:=λb u e z=>by rw[z,j]at e;cases e
 refine I.step (g':=s.gens) (d':=s.drawn) (ch:=[it]) (λb d=>?_) (λb o _ _ f e _=>k b o (λz=>f<|by simp[z]) e) (λb o _ _ f e _=>⟨o.slots,k b o (λz=>f<|by simp[z]) e⟩) (λ_ _ _ _ n=>n) (λb o f e=>⟨o,k b o (λz=>f<|by simp[z]) e⟩) (λ_ _ e=>e) (λ_ _ _ e=>e) (λb ps e=>⟨#[],by rw[e];simp⟩) (λm g=>?_) (λb u e=>?_) I.bare;have e:b=it:=by simpa using d
 subst e;exact⟨h1,h,h2,a⟩;obtain⟨o,es,i,B,r⟩:=g;exact⟨o,es,i,k _ o (w9 h) B,r⟩;refine(I.hok b u e).stay (λc v f q=>k c v ?_ q) (λ_ q=>q) λ_ _ q=>q;rcases f with z|z;rw[z];exact t b u e;exact t c _ z
theorem q9.tok(I:q9 X pins σ H s)(t:Nat):q9 X pins σ H { s with toks:=t }:=I.un (h':=s.heap) (t':=t) Un.refl I.hok
theorem q9.kept(I:q9 X pins σ H s)(k:∀b u,s.heap.get? b=a7 u->h'.get? b=a7 u):q9 X pins σ H { s with heap:=h',toks:=t' }:=I.un (Un.kept k)<|I.hok.kept k
theorem q9.laid(I:q9 X pins σ H s)(k:∀b u,s.heap.get? b=a7 u->h'.get? b=a7 u)(p:s.heap.objs.size<=a)(n:cH X.prog X.w (v6 H a o) h' a o):q9 X pins σ (v6 H a o) { s with heap:=h',toks:=t' }:=I.un (Un.laid k p<|I.hok.fresh p)<|I.hok.laid k p n
theorem q9.write(I:q9 X pins σ H s)(m:O0 (H x))(i:e=x\/H e=a7 (.own x))(k:∀b u,b≠e->s.heap.get? b=a7 u->h'.get? b=a7 u)(h:∃u,h'.get? e=a7 u)(n:cH X.prog X.w (v6 H x o) h' x o):q9 X pins σ (v6 H x o) { s with heap:=h',toks:=t' }:=I.un (Un.write m i k h)<|I.hok.write m i k h n
theorem q9.pins_of(I:q9 X pins σ H s)(h:∀p∈pins',s.heap.get? p.1=a7 p.2/\H p.1=a8/\p.1≠X.env.locals/\p.1∉X.fs/\∀v,p.2.data≠.cell v):q9 X pins' σ H s:=⟨I.ok,I.os,I.bare,I.base,I.loc,I.cell,I.free,I.freeC,λp a=>(D7.mp a).elim (λz=>I.pin p<|LM _ z)<|h p,I.hok,I.len⟩
theorem wT{N:List c6}(h:N.Nodup){i j:Nat}{x:c6}(a:N[i]?=a7 x)(b:N[j]?=a7 x):i=j:=by obtain⟨h1,t⟩:=x5.mp a;obtain⟨h2,l⟩:=x5.mp b;exact(List.getElem_inj h).mp<|t.trans l.symm
theorem zE{M:Model}{A:e9}{E:c5->f6->Prop}{i:Nat}{x:c6}{v:V}{u:c5}{Q:Unit->f6->Prop}(I:q9 X pins σ H s)(hN:X.N.Nodup)(hi:X.N[i]?=a7 x)(l:No X.env.scope x)(r:aV v u)(h:∀s',q9 X pins (σ.set i<|a7 v) H s'->(∃a,Mz a s.heap s'.heap/\(a=X.env.locals\/X.env.cells.lookup x=a7 a))->Q () s') (hf:X.fn x=a9\/X.env.scope.names.lookup x=a7 .local:=by first|exact .inl rfl|exact .inr rfl|assumption):f9 M A (storeName X.env x u) Q E s:=by
 obtain⟨m,hn,hl⟩:=id I.loc;have R:(X.env.scope.kind==.class||(X.env.scope.kind==.module&&X.env.locals != X.env.globals))=bt:=by rw[I.ok.kind];rfl
 have D:i<σ.length:=by rw[I.len];exact(x5.mp hi).1
 have G:=I.cne;have f:∀{a:c9}{h':d6},(∃o,s.heap.get? a=a7 o/\H a=a8)->Mz a s.heap h'->D0 X.prog X.w H h':=λ{a h'} ha hs b ob e=>by obtain⟨_,_,B⟩:=ha;refine(I.hok b ob e).stay (λc Y g q=>(hs.2 c ?_).trans q) (λ_ q=>q) λ_ _ q=>q;rintro rfl;rcases g with rfl|g;rw[B]at e;cases e;rw[B]at g;cases g
 rcases l with F|F;refine wpAny_storeName_local F hn (λh' ai hs=>?_) R;obtain⟨oL,_,_,aj,_⟩:=id hn;refine h _ ⟨I.ok,I.os,I.bare,⟨λb o e n J l=>?_,λb o e n J l=>?_,I.base.free,λb o e l=>?_,I.base.tups,I.base.frzs,I.base.tbls⟩,⟨_,ai,λj y v' t C Z=>?_⟩,λy c e=>?_,I.free,I.freeC,λp hp=>?_,f ⟨oL,aj,I.free⟩ hs,by simpa using I.len⟩ ⟨_,hs,.inl rfl⟩;exact(hs.2 b<|x9<|Fn (v9 e) I.ok.above).trans<|I.base.keep b o e n J l;obtain⟨sl,t⟩:=I.base.slot b o e n J l;exact⟨sl,(hs.2 b<|x9<|Fn (v9 e) I.ok.above).trans t⟩;obtain⟨o',t⟩:=I.base.there b o e l;exact⟨o',(hs.2 b<|x9<|Fn (v9 e) I.ok.above).trans t⟩;by_cases L:j=i;subst L;rw[hi]at t;cases t;rw[Mr D]at C;cases C;exact⟨u,r,.inl ⟨F,by simp⟩⟩;rw[L8<|w9 L]at C;obtain⟨u',r',q⟩:=hl j y v' t C Z;refine⟨u',r',?_⟩;rcases q with⟨k,e⟩|⟨k,c,e,z⟩
 refine .inl ⟨k,?_⟩;have:y≠x:=λe=>L<|wT hN t<|e ▸ hi;simp[this,e];exact .inr ⟨k,c,e,z.sameBut hs<|G y c e⟩;obtain⟨Y,z⟩:=I.cell y c e;exact⟨Y,z.sameBut hs<|G y c e⟩;obtain⟨e,n,W,nf,d⟩:=I.pin p hp;exact⟨(hs.2 p.1 W).trans e,n,W,nf,d⟩;have K:X.fn x=a9:=by rcases hf with z|z;exact z;rw[z]at F;cases F
 obtain⟨c,g⟩:=I.ok.has x<|.inl F;obtain⟨Y,z⟩:=I.cell x c g;refine wpAny_storeName_cell I.ok.kind F g z<|λh' O hs=>?_;obtain⟨oc,S,T⟩:=id z;refine h { s with heap:=h' } ⟨I.ok,I.os,I.bare,⟨λb o e n J l=>?_,λb o e n J l=>?_,I.base.free,λb o e l=>?_,I.base.tups,I.base.frzs,I.base.tbls⟩,⟨m,hn.sameBut hs<|w9<|G x c g,λj y v' t C Z=>?_⟩,λy U e=>?_,I.free,I.freeC,λp hp=>?_,f ⟨oc,S,I.freeC x c g⟩ hs,by simpa using I.len⟩ ⟨c,hs,.inr g⟩;exact(hs.2 b<|x9<|Fn (v9 e)<|I.ok.cab x c K g).trans<|I.base.keep b o e n J l;obtain⟨sl,t⟩:=I.base.slot b o e n J l;exact⟨sl,(hs.2 b<|x9<|Fn (v9 e)<|I.ok.cab x c K g).trans t⟩;obtain⟨o',t⟩:=I.base.there b o e l;exact⟨o',(hs.2 b<|x9<|Fn (v9 e)<|I.ok.cab x c K g).trans t⟩;by_cases L:j=i;subst L;rw[hi]at t;cases t;rw[Mr D]at C;cases C;exact⟨u,r,.inr ⟨.inl F,c,g,O⟩⟩;rw[L8<|w9 L]at C;obtain⟨u',r',q⟩:=hl j y v' t C Z;refine⟨u',r',?_⟩;rcases q with q|⟨k,U,e,z'⟩
 exact .inl q;refine .inr ⟨k,U,e,z'.sameBut hs ?_⟩;rintro rfl;exact L<|wT hN t<|I.ok.inj _ _ _ e g ▸ hi;by_cases P:U=c;subst P;exact⟨_,O⟩;obtain⟨w2,z2⟩:=I.cell y U e;exact⟨w2,z2.sameBut hs P⟩;obtain⟨e,n,W,nf,d⟩:=I.pin p hp;refine⟨(hs.2 p.1 ?_).trans e,n,W,nf,d⟩;intro q;rw[q,S]at e;have q':oc=p.2:=A5 e;exact d Y<|by rw[<-q'];exact T
theorem wH(I:q9 X pins σ H s)(b:X.N.Nodup)(hi:X.N[i]?=a7 x)(c:No X.env.scope x)(r:aV v u)(h:∀s',q9 X pins (σ.set i<|a7 v) H s'->Q () s') (f:X.fn x=a9\/X.env.scope.names.lookup x=a7 .local:=by first|exact .inl rfl|exact .inr rfl|assumption):f9 M A (storeName X.env x u) Q E s:=zE I b hi c r (λs' a _=>h s' a) f
theorem q9.call'(I:q9 X pins σ H s)(B:s'.os=s.os)(u:Un (K1 X.stack) ch H H' s.heap s'.heap)(K:D0 X.prog X.w H' s'.heap)(S:f8 s'.gens)(a:∀b∈ch,(b∈X.ex\/X.s₀.heap.objs.size<=b)/\b≠X.env.locals/\(∀x c,X.env.cells.lookup x=a7 c->c≠b)/\∀p∈X.pn++pins,p.1≠b):q9 X pins σ H' s':=by obtain⟨h',g',d',t',o⟩:=s';have e:o=s.os:=B;subst e;exact I.call (g':=g') (t':=t') (d':=d') u K S a
end
abbrev XK:=c5->Option c9->Hp->Prop
noncomputable abbrev St:=List<|Option V
abbrev VK:=V->Hp->Prop
abbrev TE:=St->Hp->VK->Prop
abbrev TT:=St->Hp->(Bool->Hp->Prop)->Prop
abbrev TA:=St->Hp->(List V->Hp->Prop)->Prop
structure Ends where
 nx:St->Hp->Prop
 rt:VK
 bk:St->Hp->Prop:=λ_ _=>False
 ct:St->Hp->Prop:=λ_ _=>False
abbrev TS:=Ends->St->Hp->Prop
inductive EP(X:Cx)(pins:List (c9×d5))(σ:St)(Q:VK)(u:c5)(s':f6):Prop
 |mk (v:_) (H':_) (f0:q9 X pins σ H' s') (f1:aV v u) (f2:Q v H')
inductive TP(X:Cx)(pins:List (c9×d5))(σ:St)(Q:Bool->Hp->Prop)(b:Bool)(s':f6):Prop
 |mk (H':_) (f0:q9 X pins σ H' s') (f1:Q b H')
inductive AP(X:Cx)(pins:List (c9×d5))(σ:St)(Q:List V->Hp->Prop)(us:List c5)(s':f6):Prop
 |mk (vs:_) (H':_) (f0:q9 X pins σ H' s') (f1:av vs us) (f2:Q vs H')
def SP(X:Cx)(pins:List (c9×d5))(D:Ends)(f:Flow)(s':f6):Prop:=match f with
 |.next=>∃a H',q9 X pins a H' s'/\D.nx a H'
 |.brk=>∃a H',q9 X pins a H' s'/\D.bk a H'
 |.cont=>∃a H',q9 X pins a H' s'/\D.ct a H'
 |.ret u=>∃v a H',q9 X pins a H' s'/\aV v u/\D.rt v H'
def PE(X:Cx)(e:ge)(t:TE):Prop:=∀(p:List (c9×d5)) (s:f6) (σ:St) (H:Hp) (Q:VK),q9 X p σ H s->t σ H Q->f9 (h8 X.prog X.w) X.A (eval e X.env) (EP X p σ Q) X.xe s
def PT(X:Cx)(e:ge)(t:TT):Prop:=∀(p:List (c9×d5)) (s:f6) (σ:St) (H:Hp) (Q:Bool->Hp->Prop),q9 X p σ H s->t σ H Q->f9 (h8 X.prog X.w) X.A (isTrue e X.env<|eval e X.env) (TP X p σ Q) X.xe s
def PW(X:Cx)(e:ge)(t:TT):Prop:=∀(a:Sem c5) (p:List (c9×d5)) (s:f6) (σ:St) (H:Hp) (Q:Bool->Hp->Prop),q9 X p σ H s->t σ H Q->f9 (h8 X.prog X.w) X.A (isTrue e X.env a) (TP X p σ Q) X.xe s
theorem PW.pt(h:PW X e t):PT X e t:=h _
def PA(X:Cx)(es:List ge)(t:TA):Prop:=∀(a:i3) (p:List (c9×d5)) (s:f6) (σ:St) (H:Hp) (Q:List V->Hp->Prop),q9 X p σ H s->t σ H Q->f9 (h8 X.prog X.w) X.A (spliced<|i4 a<|i5 es X.env) (AP X p σ Q) X.xe s
def PS(X:Cx)(st:i6)(t:TS):Prop:=∀(p:List (c9×d5)) (s:f6) (σ:St) (H:Hp) (D:Ends),q9 X p σ H s->t D σ H->f9 (h8 X.prog X.w) X.A (exec st X.env) (SP X p D) X.xe s
def J3(X:Cx)(st:List i6)(t:TS):Prop:=∀(p:List (c9×d5)) (s:f6) (σ:St) (H:Hp) (D:Ends),q9 X p σ H s->t D σ H->f9 (h8 X.prog X.w) X.A (execs st X.env) (SP X p D) X.xe s
theorem v4{α:Type}{t:Sem α}{Q Q':α->f6->Prop}{M:Model}{A:e9}{E:c5->f6->Prop}{s:f6}(h:f9 M A t Q E s)(b:∀a s,Q a s->Q' a s):f9 M A t Q' E s:=E7 h b λ_ _ x=>x
section
variable{X:Cx}
def tVar(i:Nat):TE:=λσ H Q=>∃v,σ[i]?=a7 (a7 v)/\Q v H
def tC(v:V):TE:=λ_ H Q=>Q v H
theorem EQ(g:X.N[i]?=a7 x)(t:NL X.env.scope x)(b:(x==("__debug__":c6))=bt:=by decide)(d:(x==("__classdict__":c6))=bt:=by decide):PE X (.Name x pos) (tVar i):=by
 intro p s σ H Q I h;obtain⟨v,e,h⟩:=h;obtain⟨m,q,j⟩:=I.loc;obtain⟨u,r,l⟩:=j i x v g e t;have n:EP X p σ Q u s:=⟨v,H,I,r,h⟩
 rcases l with⟨k,o⟩|⟨k,c,f,a⟩
 exact wpAny_Name (wpAny_loadName_local I.ok.kind k q o n) b;rcases k with k|k;exact wpAny_Name (wpAny_loadName_cell I.ok.kind k f a n) b;exact wpAny_Name (wpAny_loadName_free I.ok.kind k f a n d) b
theorem Ju{i j pos}:PE X (.Constant (.int i) j pos) (tC<|.int i):=λ_ _ _ H _ I h=>wpAny_Constant_int ⟨.int i,H,I.tok _,⟨_,rfl⟩,h⟩
theorem pe_bl{b j pos}:PE X (.Constant (.bool b) j pos) (tC<|.bl b):=λ_ _ _ H _ I h=>Constant_bool ⟨.bl b,H,I,rfl,h⟩
theorem Js{j pos}:PE X (.Constant .none j pos) (tC .non):=λ_ _ _ H _ I h=>Constant_none ⟨.non,H,I,rfl,h⟩
theorem Jp{x j pos}:PE X (.Constant (.str x) j pos) (tC<|.str x):=λ_ _ _ H _ I h=>Calls.Constant_str ⟨.str x,H,I.tok _,⟨_,rfl⟩,h⟩
def Gl(X:Cx)(x:c6):Prop:=X.env.kindOf x=a7 .globalImplicit
theorem GB(I:q9 X pins σ H s)(S:Gl X x)(m:X.mg x=a7 u)(h:Q u s)(d:(x==("__debug__":c6))=bt:=by decide):f9 (h8 X.prog X.w) X.A (eval (.Name x pos) X.env) Q E s:=Calls.Name_function_global I.ok.kind S (Calls.loadGlobal_global (by rw[I.ok.glob];exact I.mod.glob.keeps I.bk) m h) d
theorem iq(I:q9 X pins σ H s)(S:Gl X x)(m:X.mg x=a8)(c:e8 x=a7 u)(h:Q u s)(f:x≠"__name__":=by decide) (d:(x==("__debug__":c6))=bt:=by decide):f9 (h8 X.prog X.w) X.A (eval (.Name x pos) X.env) Q E s:=by obtain⟨mb,h1,h2⟩:=I.mod.blt;exact Calls.Name_function_global I.ok.kind S (Calls.loadGlobal_builtin (by rw[I.ok.glob];exact I.mod.glob.keeps I.bk) m (by rw[I.ok.blt];exact h1.keeps I.bk) ((h2 x f).trans c) h) d
theorem Gc(S:Gl X x)(m:X.mg x=a8)(c:e8 x=a7 u)(r:aV v u)(f:x≠"__name__":=by decide)(d:(x==("__debug__":c6))=bt:=by decide):PE X (.Name x pos) (tC v):=λ_ _ _ H _ I h=>iq I S m c ⟨v,H,I,r,h⟩ f d
variable{a b:ge}{ta tb:TE}{pos:i3}
theorem aV.none_iff(r:aV x v):(v==H9)=decide (x=.non):=by
 cases x with
 |non=>cases r;rfl
 |bl _=>cases r;rfl
 |int _=>obtain⟨t,rfl⟩:=r;rfl
 |str _=>obtain⟨t,rfl⟩:=r;rfl
 |byt _=>obtain⟨t,rfl⟩:=r;rfl
 |flt _=>obtain⟨t,rfl⟩:=r;rfl
 |ref _=>cases r;rfl
 |ty _=>cases r;rfl
def tB(t:TE):TT:=λσ H Q=>t σ H λx a=>∃c,x=.bl c/\Q c a
theorem Jg(h:PE X e t)(i:∀whole,isTrue e X.env whole=(do let v <-whole;standAt e.pos;i7 [v] (truthy v)):=by intro _;rfl):PT X e (tB t):=by intro p s σ H Q I w;refine isTrue_plain (v4 (h p s σ H _ I w) ?_)<|i _;rintro v f ⟨x,a,b,r,c⟩;obtain⟨d,rfl,q⟩:=c;cases r;exact Oa ⟨a,b,q⟩
variable{tA tB':TT}{bf:List ge}
def tAnd(t u:TT):TT:=λσ H Q=>t σ H λc a=>if c=a9 then u σ a Q else Q bt a
def tOr(t u:TT):TT:=λσ H Q=>t σ H λc a=>if c=a9 then Q a9 a else u σ a Q
def tNot(t:TT):TT:=λσ H Q=>t σ H λc a=>Q (!c) a
theorem FO(f:PT X a tA):PW X (.BoolOp .And [a] pos) tA:=by
 intro w p s σ H Q I h;refine isTrue_and<|v4 (f p s σ H Q I h) λc b e=>?_;cases c with
 |true=>exact isTrue_and_nil e
 |false=>exact e
theorem Je(f:PT X a tA):PW X (.BoolOp .Or [a] pos) tA:=by
 intro w p s σ H Q I h;refine isTrue_or<|v4 (f p s σ H Q I h) λc b e=>?_;cases c with
 |false=>exact isTrue_or_nil e
 |true=>exact e
theorem Jf(f:PT X a tA)(g:PW X (.BoolOp .And (b::bf) pos) tB'):PW X (.BoolOp .And (a::b::bf) pos) (tAnd tA tB'):=by
 intro w p s σ H Q I h;refine isTrue_and<|v4 (f p s σ H _ I h) ?_;rintro c i ⟨d,e,q⟩;cases c with
 |true=>exact g w p i σ d Q e q
 |false=>exact⟨d,e,q⟩
theorem pw_or(f:PT X a tA)(g:PW X (.BoolOp .Or (b::bf) pos) tB'):PW X (.BoolOp .Or (a::b::bf) pos) (tOr tA tB'):=by
 intro w p s σ H Q I h;refine isTrue_or<|v4 (f p s σ H _ I h) ?_;rintro c i ⟨d,e,q⟩;cases c with
 |true=>exact⟨d,e,q⟩
 |false=>exact g w p i σ d Q e q
theorem Jh(f:PT X a tA):PT X (.UnaryOp .Not a pos) (tNot tA):=by intro p s σ H Q I h;refine isTrue_not<|v4 (f p s σ H (λc b=>Q (!c) b) I h) ?_;rintro c e ⟨b,d,q⟩;exact⟨b,d,q⟩
def tAndV(t b:TE):TE:=λσ H Q=>t σ H λx a=>∃c,x=.bl c/\if c=a9 then b σ a Q else Q (.bl bt) a
def tOrV(t b:TE):TE:=λσ H Q=>t σ H λx a=>∃c,x=.bl c/\if c=a9 then Q (.bl a9) a else b σ a Q
def tNotV(t:TE):TE:=λσ H Q=>t σ H λx a=>∃c,x=.bl c/\Q (.bl<|!c) a
theorem Jq{op}(h:PE X a t):PE X (.BoolOp op [a] pos) t:=λp s σ H Q I w=>BoolOp_one<|h p s σ H Q I w
theorem Jx(f:PE X a ta)(g:PE X (.BoolOp .And (b::bf) pos) tb):PE X (.BoolOp .And (a::b::bf) pos) (tAndV ta tb):=by
 intro p s σ H Q I h;refine BoolOp_and<|v4 (f p s σ H _ I h) ?_;rintro v i ⟨x,d,e,r,q⟩;obtain⟨c,rfl,q⟩:=q;cases r;refine Oa ?_;cases c with
 |true=>exact g p i σ d Q e q
 |false=>exact⟨.bl bt,d,e,rfl,q⟩
theorem pe_or(f:PE X a ta)(g:PE X (.BoolOp .Or (b::bf) pos) tb):PE X (.BoolOp .Or (a::b::bf) pos) (tOrV ta tb):=by
 intro p s σ H Q I h;refine BoolOp_or<|v4 (f p s σ H _ I h) ?_;rintro v i ⟨x,d,e,r,q⟩;obtain⟨c,rfl,q⟩:=q;cases r;refine Oa ?_;cases c with
 |false=>exact g p i σ d Q e q
 |true=>exact⟨.bl a9,d,e,rfl,q⟩
theorem Jr(f:PE X a ta):PE X (.UnaryOp .Not a pos) (tNotV ta):=by intro p s σ H Q I h;refine UnaryOp_<|v4 (f p s σ H _ I h) ?_;rintro v e ⟨x,b,d,r,q⟩;obtain⟨c,rfl,q⟩:=q;cases r;exact not_of<|Oa ⟨.bl<|!c,b,d,rfl,q⟩
def tIf(t:TT)(b d:TE):TE:=λσ H Q=>t σ H λc a=>if c=a9 then b σ a Q else d σ a Q
theorem CF(k:PT X c tA)(i:PE X a ta)(j:PE X b tb):PE X (.IfExp c a b pos) (tIf tA ta tb):=by
 intro p s σ H Q I h;refine wpAny_IfExp<|v4 (k p s σ H _ I h) ?_;rintro d g ⟨e,f,q⟩;cases d with
 |true=>exact i p g σ e Q f q
 |false=>exact j p g σ e Q f q
end
def I0(K:u4)(H:Hp)(a:c9)(xs:List V):Prop:=Rd H a (.lst xs) \/∃(o:d5) (its:Array c5) (n:Nat),K.lookup a=a7 o/\o.cls=.type "list"/\o.dict=a8/\o.data=.seq its n/\its.size<=sizeLine/\av xs its.toList
def z7(K:u4)(H:Hp)(a:c9)(xs:List V):Prop:=Rd H a (.tup xs) \/∃(o:d5) (its:Array c5) (n:Nat),K.lookup a=a7 o/\o.cls=.type "tuple"/\o.dict=a8/\o.data=.seq its n/\its.size<=sizeLine/\av xs its.toList
noncomputable def absV:c5->Option V
 |.none=>a7 .non
 |.bool b=>a7<|.bl b
 |.int i _=>a7<|.int i
 |.str x _=>a7<|.str x
 |.bytes b _=>a7<|.byt b
 |.float b _=>a7<|.flt b
 |.ref a=>a7<|.ref a
 |.type n=>a7<|.ty n
 |_=>a8
theorem aV.abs(r:aV x u):absV u=a7 x:=by
 cases x with
 |non=>cases r;rfl
 |bl _=>cases r;rfl
 |int _=>obtain⟨t,rfl⟩:=r;rfl
 |str _=>obtain⟨t,rfl⟩:=r;rfl
 |byt _=>obtain⟨t,rfl⟩:=r;rfl
 |flt _=>obtain⟨t,rfl⟩:=r;rfl
 |ref _=>cases r;rfl
 |ty _=>cases r;rfl
theorem aV.inj(r:aV x u)(q:aV y u):x=y:=A5<|r.abs.symm.trans q.abs
theorem av.inj(h:av xs us)(h':av ys us):xs=ys:=by
 induction h generalizing ys with
 |nil=>cases h';rfl
 |cons r t i=>cases h' with
  |cons r' t'=>rw[r.inj r',i t']
section
variable{X:Cx}{pins:List (c9×d5)}{σ:St}{H:Hp}{s:f6}{a:c9}{xs ys:List V}
theorem z7.of{K:u4}(h:H a=a7 (.tup xs)):z7 K H a xs:=.inl<|.inl h
theorem q9.list(I:q9 X pins σ H s)(h:I0 X.K H a xs):∃its:List c5,av xs its/\PlainL s.heap a its.toArray/\xs.length<=sizeLine:=by
 rcases h with h|⟨o,its,n,k,f,d,hs,b,r⟩
 obtain⟨z,its,n,r,e⟩:=h.ok I.hok;exact⟨its,r,⟨_,n,e,rfl,rfl,rfl⟩,z⟩;refine⟨its.toList,r,⟨o,n,I.kIn a o k,f,d,by simpa using hs⟩,?_⟩;have e:=r.length;simp only[D8]at e;lia
theorem q9.tuple(I:q9 X pins σ H s)(h:z7 X.K H a xs):∃its:List c5,av xs its/\IsTup s.heap a its.toArray/\xs.length<=sizeLine:=by
 rcases h with h|⟨o,its,n,k,f,_,hs,b,r⟩
 obtain⟨z,its,r,p⟩:=h.ok I.hok;exact⟨its,r,p.tup,z⟩;refine⟨its.toList,r,⟨o,I.kIn a o k,f,n,by simpa using hs⟩,?_⟩;have e:=r.length;simp only[D8]at e;lia
theorem q9.list_inj(I:q9 X pins σ H s)(h:I0 X.K H a xs)(h':I0 X.K H a ys):xs=ys:=by
 obtain⟨its,r,⟨o,n,e,_,_,d⟩,_⟩:=I.list h;obtain⟨i,r',⟨g,f,c,_,_,b⟩,_⟩:=I.list h';rw[e]at c;cases c;rw[d]at b;injection b with d1 _;have:its=i:=by simpa using p7 Array.toList d1
 subst this;exact r.inj r'
theorem q9.tuple_inj(I:q9 X pins σ H s)(h:z7 X.K H a xs)(h':z7 X.K H a ys):xs=ys:=by
 obtain⟨its,r,⟨o,e,_,n,d⟩,_⟩:=I.tuple h;obtain⟨i,r',⟨g,c,_,f,b⟩,_⟩:=I.tuple h';rw[e]at c;cases c;rw[d]at b;injection b with d1 _;have:its=i:=by simpa using p7 Array.toList d1
 subst this;exact r.inj r'
end
noncomputable abbrev Cx.wish(X:Cx)(E:c5->f6->Prop):Cx:={ X with xe:=E }
noncomputable abbrev Cx.nox(X:Cx):Cx:=X.wish λ_ _=>False
theorem Cx.Ok.wish{X:Cx}(ok:X.Ok)(E:c5->f6->Prop):(X.wish E).Ok:=⟨ok.mod,ok.kind,ok.glob,ok.blt,ok.above,ok.inj,ok.has,ok.cab,ok.hd,ok.frames,ok.stk,ok.exf,ok.bs,ok.bsz,ok.noex,ok.exfs,ok.funs,ok.frf⟩
theorem Cx.Ok.unwish{X:Cx}{E:c5->f6->Prop}(ok:(X.wish E).Ok):X.Ok:=⟨ok.mod,ok.kind,ok.glob,ok.blt,ok.above,ok.inj,ok.has,ok.cab,ok.hd,ok.frames,ok.stk,ok.exf,ok.bs,ok.bsz,ok.noex,ok.exfs,ok.funs,ok.frf⟩
section
variable{X:Cx}{pins:List (c9×d5)}{σ:St}{H:Hp}{s:f6}{E:c5->f6->Prop}
theorem q9.wish(I:q9 X pins σ H s)(E:c5->f6->Prop):q9 (X.wish E) pins σ H s:=⟨I.ok.wish E,I.os,I.bare,I.base,I.loc,I.cell,I.free,I.freeC,I.pin,I.hok,I.len⟩
theorem q9.unwish(I:q9 (X.wish E) pins σ H s):q9 X pins σ H s:=⟨I.ok.unwish,I.os,I.bare,I.base,I.loc,I.cell,I.free,I.freeC,I.pin,I.hok,I.len⟩
theorem SP.unwish(h:SP (X.wish E) pins D f s'):SP X pins D f s':=by
 cases f with
 |next=>obtain⟨a,H',I,q⟩:=h;exact⟨a,H',I.unwish,q⟩
 |brk=>obtain⟨a,H',I,q⟩:=h;exact⟨a,H',I.unwish,q⟩
 |cont=>obtain⟨a,H',I,q⟩:=h;exact⟨a,H',I.unwish,q⟩
 |ret u=>obtain⟨v,a,H',I,r,q⟩:=h;exact⟨v,a,H',I.unwish,r,q⟩
theorem PE.nox(h:PE X.nox e t):PE X e t:=λp s σ H Q I w =>
 E7 (h p s σ H Q (I.wish _) w) (λ_ _ ⟨v,H',a,r,q⟩=>⟨v,H',a.unwish,r,q⟩) λ_ _ z=>MM z
theorem J3.nox{st:List i6}{t:TS}(h:J3 X.nox st t):J3 X st t:=λp s σ H D I w =>
 E7 (h p s σ H D (I.wish _) w) (λ_ _ q=>q.unwish) λ_ _ z=>MM z
end
section
variable{X:Cx}{st:i6}{bf:List i6}{t u:TS}{e:ge}{te:TE}{pos:i3}
def tNext:TS:=λD σ H=>D.nx σ H
def tSeq(t u:TS):TS:=λD σ H=>t { D with nx:=u D } σ H
theorem FT:J3 X [] tNext:=λ_ _ σ H _ I h=>P7 ⟨σ,H,I,h⟩
theorem Cw(h1:PS X st t)(h2:J3 X bf u):J3 X (st::bf) (tSeq t u):=by
 intro p s σ H D I h;refine wpAny_execs_cons<|v4 (h1 p s σ H { D with nx:=u D } I h) λf c q=>?_;cases f with
 |next=>obtain⟨a,H',b,q⟩:=q;exact h2 p c a H' D b q
 |ret v=>exact q
 |brk=>exact q
 |cont=>exact q
theorem FS(h1:PS X st t):J3 X [st] t:=by
 intro p s σ H D I h;refine wpAny_execs_cons<|v4 (h1 p s σ H D I h) λf a q=>?_;cases f with
 |next=>exact P7 q
 |ret v=>exact q
 |brk=>exact q
 |cont=>exact q
theorem q9.quiet(I:q9 X pins σ H s):interactive X.env=bt:=by simp[interactive,I.ok.kind]
def tDrop(te:TE):TS:=λD σ H=>te σ H λ_ a=>D.nx σ a
theorem FU(i:PE X e te)(hs:i8 e a8 pos.line X.env=pure bt:=by rfl):PS X (.Expr e pos) (tDrop te):=by intro p s σ H D I h;exact wpAny_Expr_any (v4 (i p s σ H _ I h) λv f ⟨x,a,b,r,c⟩=>⟨σ,a,b,c⟩) I.quiet hs
def tRet(te:TE):TS:=λD σ H=>te σ H D.rt
theorem Jj(i:PE X e te):PS X (.Return (a7 e) pos) (tRet te):=by intro p s σ H D I h;refine wpAny_Return_some<|v4 (i p s σ H _ I h) ?_;rintro v f ⟨x,a,b,r,c⟩;exact⟨x,σ,a,b,r,c⟩
def tIfS(c:TT)(t u:TS):TS:=λD σ H=>c σ H λb a=>if b=a9 then t D σ a else u D σ a
theorem ps_if(k:PT X c tc)(i:J3 X a t)(j:J3 X b u):PS X (.If c a b pos) (tIfS tc t u):=by
 intro p s σ H D I h;refine wpAny_If<|v4 (k p s σ H _ I h) ?_;rintro d g ⟨e,f,q⟩;cases d with
 |true=>exact i p g σ e D f q
 |false=>exact j p g σ e D f q
end
abbrev TG:=V->St->Hp->(St->Hp->Prop)->Prop
abbrev OW:=List V->St->Hp->(St->Hp->Prop)->Prop
def PG(X:Cx)(a:ge)(t:TG):Prop:=∀(p:List (c9×d5)) (s:f6) (σ:St) (H:Hp) (v:V) (u:c5) (Q:St->Hp->Prop),q9 X p σ H s->aV v u->t v σ H Q ->f9 (h8 X.prog X.w) X.A (i9 a X.env u) (λ_ s'=>∃b H',q9 X p b H' s'/\Q b H') X.xe s
def OY(X:Cx)(b:List ge)(t:OW):Prop:=∀(p:List (c9×d5)) (s:f6) (σ:St) (H:Hp) (vs:List V) (us:List c5) (Q:St->Hp->Prop),q9 X p σ H s->av vs us->t vs σ H Q ->f9 (h8 X.prog X.w) X.A (assignInOrder ((j0 b X.env).map (·.2)) us) (λ_ s'=>∃a H',q9 X p a H' s'/\Q a H') X.xe s
abbrev TSet:=V->V->V->Hp->(Hp->Prop)->Prop
def PSet(X:Cx)(t:TSet):Prop:=∀(p:List (c9×d5)) (s:f6) (σ:St) (H:Hp) (o i v:V) (b a u:c5) (Q:Hp->Prop),q9 X p σ H s->aV o b->aV i a->aV v u->t o i v H Q ->f9 (h8 X.prog X.w) X.A (setItem b a u) (λ_ s'=>∃H',q9 X p σ H' s'/\Q H') X.xe s
section
variable{X:Cx}{pos:i3}
def KJ(i:Nat):TG:=λv σ H Q=>Q (σ.set i<|a7 v) H
theorem FY(b:X.N.Nodup)(hi:X.N[i]?=a7 x)(c:No X.env.scope x)(f:X.fn x=a9\/X.env.scope.names.lookup x=a7 .local:=by first|exact .inl rfl|exact .inr rfl|assumption):PG X (.Name x pos) (KJ i):=by intro p s σ H v u Q I r h;exact wpAny_assign_Name<|wH I b hi c r (λs' a=>⟨_,H,a,h⟩) f
def gNil:OW:=λvs σ H Q=>vs=[]/\Q σ H
def gCons(t:TG)(u:OW):OW:=λvs σ H Q=>∃v r,vs=v::r/\t v σ H λa H'=>u r a H' Q
theorem FX:OY X [] gNil:=by intro p s σ H vs us Q I r h;obtain⟨e,h⟩:=h;subst e;cases r;exact assignInOrder_nil ⟨σ,H,I,h⟩
theorem CB(h1:PG X e t)(h2:OY X es u)(hs:(j0 (e::es) X.env).map (·.2)=i9 e X.env::(j0 es X.env).map (·.2):=by rfl):OY X (e::es) (gCons t u):=by
 intro p s σ H vs us Q I r h;obtain⟨v,i,d,h⟩:=h;subst d;cases r with
 |cons r f=>rw[hs];refine assignInOrder_cons<|v4 (h1 p s σ H _ _ _ I r h) ?_;rintro _ g ⟨a,b,c,q⟩;exact h2 p g a b _ _ Q c f q
def gTup(K:u4)(n:Nat)(t:OW):TG:=λv σ H Q=>∃a xs,v=.ref a/\z7 K H a xs/\xs.length=n/\t xs σ H Q
theorem Jm(i:X.calm=a9)(h:OY X es t)(j:(j0 es X.env).length=n:=by rfl) (c:(j0 es X.env).findIdx? (·.1)=a8:=by rfl):PG X (.Tuple es k pos) (gTup X.K n t):=by intro p s σ H v u Q I r w;obtain⟨a,xs,g,q,l,w⟩:=w;subst g;cases r;obtain⟨its,d,D,z⟩:=I.tuple q;refine assign_Tuple_tuple (I.ok.hd i) D (by simp[j,<-l,d.length]) c λh' x=>?_;have f:q9 X p σ H { s with heap:=h' }:=I.kept (t':=s.toks) λb o e=>x b o (x9<|v9 e) e;exact h p _ σ H xs _ Q f (by simpa using d) w
def gSub(e d:TE)(t:TSet):TG:=λv σ H Q=>e σ H λo a=>d σ a λi b=>t o i v b λc=>Q σ c
theorem Jn(B:PE X o to)(hi:PE X i ti)(hs:PSet X t)(g:∀v,i9 (.Subscript o i pos) X.env v=(do
   let ov <-i7 [v] (eval o X.env)
   let iv <-i7 [v,ov] (eval i X.env)
   standAt pos
   i7 [v,ov,iv] (setItem ov iv v)
   release [v,ov,iv] []):=by intro _;rfl):PG X (.Subscript o i pos) (gSub to ti t):=by intro p s σ H v u Q I r h;rw[g];refine p9<|E2<|v4 (B p s σ H _ I h) ?_;rintro ov n ⟨x,a,d,l,q⟩;refine p9<|E2<|v4 (hi p n σ a _ d q) ?_;rintro iv w ⟨y,b,e,m,j⟩;refine p9<|wpAny_standAt<|p9<|E2<|v4 (hs p w σ b x y v ov iv u _ e l m r j) ?_;rintro _ z ⟨c,f,k⟩;exact wpAny_release ⟨σ,c,f,k⟩
def tAsg(te:TE)(g:TG):TS:=λD σ H=>te σ H λx a=>g x σ a D.nx
theorem Jl(i:PE X e te)(S:PG X tg g)(hs:swapsWithSole [tg] e pos.line X.env=pure bt:=by rfl)(w:swappedStores [tg] e X.env=pure a8:=by rfl)(h1:(j0 [tg] X.env).map (·.2)=[i9 tg X.env]:=by rfl):PS X (.Assign [tg] e pos) (tAsg te g):=by intro p s σ H D I h;refine wpAny_Assign_stores (v4 (i p s σ H _ I h) ?_) hs w;rintro v f ⟨x,a,b,r,c⟩;rw[h1];exact v4 (S p f σ a x v _ b r c) λ_ d q=>q
theorem Ji(d:X.N.Nodup)(hi:X.N[i]?=a7 x)(j:No X.env.scope x)(f:PE X e te)(hs:i8 e (a7<|.Name x pos') pos.line X.env=pure bt:=by rfl)(g:X.fn x=a9\/X.env.scope.names.lookup x=a7 .local:=by first|exact .inl rfl|exact .inr rfl|assumption):PS X (.Assign [.Name x pos'] e pos) (tAsg te<|KJ i):=by intro p s σ H D I h;refine wpAny_Assign_Name (v4 (f p s σ H _ I h) ?_) hs;rintro v k ⟨y,a,b,r,q⟩;exact wH b d hi j r (λw c=>⟨_,a,c,q⟩) g
end
section
variable{X:Cx}{pos:i3}
def EM(c:TT)(t:TS):TS:=λD σ H=>∃W:Nat->St->Hp->Prop,(∃m,W m σ H)/\∀m σ H,W m σ H ->c σ H λb d=>if b=a9 then ∃N:St->Hp->Prop,(∀a H',N a H'->∃g,g < m/\W g a H')/\t { D with nx:=N,ct:=N,bk:=D.nx } σ d else D.nx σ d
theorem Cy(z:PassesOwn (h8 X.prog X.w) X.A X.env X.xe)(E:PT X c tc)(C:J3 X body tb):PS X (.While c body [] pos) (EM tc tb):=by
 intro p s σ H D I h;obtain⟨W,⟨F,K⟩,t⟩:=h;refine wpAny_While<|codeAny_whileLoop (λn s'=>∃g H',q9 X p g H' s'/\W n g H') ?_ F ⟨σ,H,I,K⟩;rintro n G ⟨d,r,B,L⟩;refine N4 z<|v4 (E p G d r _ B<|t n d r L) ?_;rintro b J ⟨u,x,j⟩;cases b with
 |true =>
  obtain⟨N,y,j⟩:=j;rw[o0 rfl];refine N4 z<|v4 (C p J d u _ x j) λf M k=>?_;cases f with
  |next=>obtain⟨a,e,i,o⟩:=k;obtain⟨l,m,q⟩:=y a e o;exact⟨l,m,a,e,i,q⟩
  |cont=>obtain⟨a,e,i,o⟩:=k;obtain⟨l,m,q⟩:=y a e o;exact⟨l,m,a,e,i,q⟩
  |brk=>exact k
  |ret v=>exact k
 |false=>rw[o4 MF];exact P7 ⟨d,u,x,j⟩
end
structure It where
 go:Nat->Hp->Prop
 yld:Nat->Hp->V->Hp->Prop
 stop:Nat->Hp->Prop
def xz(X:Cx)(pins:List (c9×d5))(H:Hp)(b:c9):Prop:=H b=a8/\b≠X.env.locals/\b∉X.fs/\(b∈X.ex\/X.s₀.heap.objs.size<=b)/\(∀x c,X.env.cells.lookup x=a7 c->c≠b)/\∀p∈X.pn++pins,p.1≠b
theorem q9.fpOk(I:q9 X pins σ H s)(d:s.heap.objs.size<=b)(f:H' b=a8):xz X pins H' b:=by refine⟨f,NQ<|Fn I.lt d,I.nofs d,.inr<|C7 I.sz d,λx c e z=>?_,λp h z=>?_⟩;obtain⟨v,q⟩:=I.cell x c e;exact o5 (Fn q.lt<|by rw[z];exact d)<|D4 _;exact o5 (Fn (v9 (I.pin p h).1)<|by rw[z];exact d)<|D4 _
structure Turn(P:c8)(w:c7)(K:u4)(tg:ge)(J:It)(fp:List c9)(it:c9)(tn:Nat->d6->Prop):Prop where
 mem:it∈fp
 obj:∀i h,tn i h->∀b∈fp,∃o,h.get? b=a7 o/\∀v,o.data≠.cell v
 keep:∀i h h',tn i h->(∀b∈fp,∀o,h.get? b=a7 o->h'.get? b=a7 o)->tn i h'
 item:∀(X:Cx),X.prog=P->X.w=w->X.K=K->X.calm=a9->∀(i:Nat) (pins:List (c9×d5)) (s:f6) (σ:St) (H:Hp) (E:c5->f6->Prop),q9 X pins σ H s->(∀b∈fp,xz X pins H b)->tn i s.heap->J.go i H ->f9 (h8 P w) X.A (j1<|.ref it) (λr s1=>∃u,r=a7 u /\ f9 (h8 P w) X.A (j2 tg (.ref it) u) (λ_ s2=>∃x H',q9 X pins σ H' s2/\aV x u/\J.yld i H x H'/\tn (i+1) s2.heap/\∀b∈fp,H' b=a8) E s1) E s
 done:∀(X:Cx),X.prog=P->X.w=w->X.K=K->X.calm=a9->∀(i:Nat) (pins:List (c9×d5)) (s:f6) (σ:St) (H:Hp) (E:c5->f6->Prop),q9 X pins σ H s->(∀b∈fp,xz X pins H b)->tn i s.heap->J.stop i H ->f9 (h8 P w) X.A (j1<|.ref it) (λr s1=>r=a8/\q9 X pins σ H s1) E s
 self:∀(A:e9) (i:Nat) (s:f6) (Q:c5->f6->Prop) (E:c5->f6->Prop),tn i s.heap->Q (.ref it) s->f9 (h8 P w) A (j3<|.ref it) Q E s
abbrev TI:=St->Hp->(It->Hp->Prop)->Prop
inductive PP(X:Cx)(pins:List (c9×d5))(σ:St)(tg:ge)(R:It->Hp->Prop)(itv:c5)(s2:f6):Prop
 |mk (it:c9) (fp:List c9) (tn:Nat->d6->Prop) (J:It) (H':Hp) (f0:itv=.ref it) (f1:q9 X pins σ H' s2) (f2:Turn X.prog X.w X.K tg J fp it tn) (f3:tn 0 s2.heap) (f4:(∀b∈fp,xz X pins H' b)) (f5:R J H')
def PI(X:Cx)(g r:ge)(wi:TI):Prop:=∀(p:List (c9×d5)) (s:f6) (σ:St) (H:Hp) (R:It->Hp->Prop),q9 X p σ H s->wi σ H R ->f9 (h8 X.prog X.w) X.A (eval r X.env) (λv f=>f9 (h8 X.prog X.w) X.A (j3 v) (PP X p σ g R) X.xe f) X.xe s
theorem yu(B:s.heap.get? it=a7 o)(f:o.cls=.type n)(d:o.data=.fields vs)(a:["enumerate","zip","dict_itemiterator","dict_reverseitemiterator","odict_iterator","itertools.zip_longest","itertools.pairwise"].contains n=bt) (b:Q () s):f9 M A (j2 tg (.ref it) u) Q E s:=by
 unfold j2;cases tg<;>first
  |exact t4 b
  |(cases u<;>first
    |exact t4 b
    |(refine p9 (wpAny_load B ?_);rw[f,d];show f9 M A (if (["enumerate","zip","dict_itemiterator","dict_reverseitemiterator","odict_iterator","itertools.zip_longest","itertools.pairwise"].contains n&&vs[0]?==a7 (j4 _))=a9 then _ else _) Q E s;rw[o4 (by intro h;rw[a,Pg]at h;cases h)];exact t4 b))
noncomputable def RF(K:u4)(a:c9):It:=⟨λi H=>∃xs x,I0 K H a xs/\xs[i]?=a7 x,λi H x H'=>H'=H/\∀xs,I0 K H a xs->xs[i]?=a7 x,λi H=>∃xs,I0 K H a xs/\xs.length<=i⟩
noncomputable def RE(K:u4)(a:c9):It:=⟨λi H=>∃xs x,z7 K H a xs/\xs[i]?=a7 x,λi H x H'=>H'=H/\∀xs,z7 K H a xs->xs[i]?=a7 x,λi H=>∃xs,z7 K H a xs/\xs.length<=i⟩
noncomputable def O1(l:Int)(n:Nat):It:=⟨λi _=>i<n,λi H x H'=>H'=H/\x=.int (l+i),λi _=>n<=i⟩
theorem yU{P:c8}{w:c7}{K:u4}{U:ge}(a it:c9):Turn P w K U (RF K a) [it] it (λi h=>h.IsListIter it a i) where
 mem:=by simp
 obj:=λi h st b g=>by
  have e:b=it:=by simpa using g
  subst e;obtain⟨o,e,c,d⟩:=st;exact⟨o,e,λv z=>by rw[d]at z;cases z⟩
 keep:=λi h h' st k=>st.at λo e=>k it (by simp) o e
 item:=by intro X B C A G i f s σ H E I l st S;subst B C A;obtain⟨xs,x,q,D⟩:=S;obtain⟨its,F,p,Q⟩:=I.list q;obtain⟨u,N,R⟩:=F.get D;obtain⟨m,n,M,r,t,y⟩:=l it (by simp);refine wpAny_pyNext_list_item st p.isList (x:=u) (by simpa using N) λh' j T=>?_;have J:q9 X f σ H { s with heap:=h' }:=I.turned (t':=s.toks) (λb o g e=>(T.2 b g).trans e) m n r t y;obtain⟨o,e,c,d⟩:=id j;exact⟨u,rfl,yu (s:={ s with heap:=h' }) e c d (by decide) ⟨x,H,J,R,⟨rfl,λys O=>by rw[I.list_inj O q];exact D⟩,j,λb g=>(l b g).1⟩⟩
 done:=by intro X B C A G i f s σ H E I l st S;subst B C A;obtain⟨xs,q,D⟩:=S;obtain⟨its,F,p,Q⟩:=I.list q;obtain⟨m,n,M,r,t,y⟩:=l it (by simp);have V:=F.length;exact wpAny_pyNext_list_end (I.ok.hd G) st p.isList (by simp;lia) λh' L=>⟨rfl,I.turned (t':=s.toks) (λb o g e=>L b o g e) m n r t y⟩
 self:=λ_ _ _ _ _ st h=>wpAny_pyIter_listiter st h
theorem xK{P:c8}{w:c7}{K:u4}{U:ge}(a it:c9):Turn P w K U (RE K a) [it] it (λi h=>h.IsTupleIter it a i) where
 mem:=by simp
 obj:=λi h st b g=>by
  have e:b=it:=by simpa using g
  subst e;obtain⟨o,e,c,d⟩:=st;exact⟨o,e,λv z=>by rw[d]at z;cases z⟩
 keep:=λi h h' st k=>st.at λo e=>k it (by simp) o e
 item:=by intro X B C A G i f s σ H E I l st S;subst B C A;obtain⟨xs,x,q,D⟩:=S;obtain⟨its,F,p,Q⟩:=I.tuple q;obtain⟨u,N,R⟩:=F.get D;obtain⟨m,n,M,r,t,y⟩:=l it (by simp);refine wpAny_pyNext_tuple_item st (show s.heap.IsTuple a its.toArray from p) (x:=u) (by simpa using N) λh' j T=>?_;have J:q9 X f σ H { s with heap:=h' }:=I.turned (t':=s.toks) (λb o g e=>(T.2 b g).trans e) m n r t y;obtain⟨o,e,c,d⟩:=id j;exact⟨u,rfl,yu (s:={ s with heap:=h' }) e c d (by decide) ⟨x,H,J,R,⟨rfl,λys O=>by rw[I.tuple_inj O q];exact D⟩,j,λb g=>(l b g).1⟩⟩
 done:=by intro X B C A G i f s σ H E I l st S;subst B C A;obtain⟨xs,q,D⟩:=S;obtain⟨its,F,p,Q⟩:=I.tuple q;obtain⟨m,n,M,r,t,y⟩:=l it (by simp);have V:=F.length;exact wpAny_pyNext_tuple_end (I.ok.hd G) st (show s.heap.IsTuple a its.toArray from p) (by simp;lia) λh' L=>⟨rfl,I.turned (t':=s.toks) (λb o g e=>L b o g e) m n r t y⟩
 self:=λ_ _ _ _ _ st h=>wpAny_pyIter_tupleiter st h
theorem xL{P:c8}{w:c7}{K:u4}{F:ge}(it:c9)(l:Int)(n:Nat):Turn P w K F (O1 l n) [it] it (λi h=>IsRangeIter h it (l+(i:Nat)*1) ((n:Int)-(i:Nat)) 1) where
 mem:=by simp
 obj:=λi h st b d=>by
  have e:b=it:=by simpa using d
  subst e;exact⟨_,st,λv z=>by have G:Data.fields _=Data.cell v:=z;cases G⟩
 keep:=λi h h' st k=>k it (by simp) _ st
 item:=by intro X B q A g i p s σ H E I f st S;subst B q A;obtain⟨m,a,M,r,c,y⟩:=f it (by simp);have W:=Walks.range (prog:=X.prog) (w:=X.w) (I.ok.hd g) it l 1 n;refine W.item i s _ _ S st λv h' u C j D=>?_;obtain⟨t,rfl⟩:=C;have x:q9 X p σ H { s with heap:=h',toks:=u }:=I.turned (λb o d e=>D b o (by simpa using d) e) m a r c y;refine⟨_,rfl,yu (s:={ s with heap:=h',toks:=u }) (n:="range_iterator") j rfl rfl (by decide) ⟨.int<|l+i,H,x,⟨t,?_⟩,⟨rfl,rfl⟩,j,λb d=>(f b d).1⟩⟩;rw[Int.mul_one]
 done:=by intro X B q A g i p s σ H E I f st S;subst B q A;obtain⟨m,a,M,r,c,y⟩:=f it (by simp);exact wpAny_pyNext_range_end (I.ok.hd g) st (by have:n<=i:=S;lia) λh' L=>⟨rfl,I.turned (t':=s.toks) (λb o d e=>L b o d e) m a r c y⟩
 self:=λ_ _ _ _ _ st h=>wpAny_pyIter_rangeiter st h
section
variable{X:Cx}{tg:ge}
theorem wN{pins:List (c9×d5)}{σ:St}{H:Hp}{s:f6}{R:It->Hp->Prop}{E:c5->f6->Prop}{l hi:Int}{t u v:Tok}{tk:Nat}(I:q9 X pins σ H s)(h1:-(2 ^ 62)<=l)(h2:l<2 ^ 62)(h:-(2 ^ 62)<=hi)(f:hi<2 ^ 62)(q:R (O1 l (hi-l).toNat) H):f9 (h8 X.prog X.w) X.A (j3<|.ref s.heap.objs.size) (PP X pins σ tg R) E { s with heap:=s.heap.push { cls:=.type "range",data:=.fields #[.int l t,.int hi u,.int 1 v] },toks:=tk }:=by
 refine wpAny_pyIter_range (IsRange.new ..) (small_one h1 h2 h f) ?_;have a:q9 X pins σ H { s with heap:=s.heap.push { cls:=.type "range",data:=.fields #[.int l t,.int hi u,.int 1 v] },toks:=tk }:=I.kept λb o e=>v7 _ e;refine⟨(s.heap.push { cls:=.type "range",data:=.fields #[.int l t,.int hi u,.int 1 v] }).objs.size,[(s.heap.push { cls:=.type "range",data:=.fields #[.int l t,.int hi u,.int 1 v] }).objs.size],_,_,H,rfl,a.kept (t':=tk) λb o e=>v7 _ e,xL _ l (hi-l).toNat,?_,λb g=>?_,q⟩;have c:l+((0:Nat):Int)*1=l:=by simp
 have d:(((hi-l).toNat:Nat):Int)-((0:Nat):Int)=Builtin.Range.rangeSize l hi 1:=by rw[rangeSize_one];split<;>lia
 show IsRangeIter _ _ (l+((0:Nat):Int)*1) ((((hi-l).toNat:Nat):Int)-((0:Nat):Int)) 1;rw[c,d];exact z0 _ rfl;have e:b=(s.heap.push { cls:=.type "range",data:=.fields #[.int l t,.int hi u,.int 1 v] }).objs.size:=by simpa using g
 subst e;exact a.fpOk (u5 _)<|a.hok.fresh<|u5 _
def iRng1(t:TA):TI:=λσ H R=>t σ H λvs a=>∃j:Int,vs=[.int j]/\-(2 ^ 62)<=j/\j<2 ^ 62/\R (O1 0 j.toNat) a
def iRng2(t:TA):TI:=λσ H R=>t σ H λvs a=>∃i j:Int,vs=[.int i,.int j]/\(-(2 ^ 62)<=i/\i<2 ^ 62/\-(2 ^ 62)<=j/\j<2 ^ 62)/\R (O1 i (j-i).toNat) a
theorem zV{a:ge}{f:TA}{p c:i3}(S:Gl X "range")(m:X.mg "range" = a8)(i:PA X [a] f)(hs:i5 [a] X.env=[(bt,eval a X.env)]:=by rfl):PI X tg (.Call (.Name "range" p) [a] [] c) (iRng1 f):=by
 intro b s σ H R I h;refine Call_<|iq I S m boot_range<|QK (v4 (i c b s σ H _ I h) ?_) hs rfl;rintro us u ⟨vs,o,g,l,d⟩;obtain⟨j,e,d,k,q⟩:=d;subst e;cases l with
 |cons r n=>cases n;obtain⟨t,rfl⟩:=r;exact call_range_1<|wN g (by lia) (by lia) d k<|by simpa using q
theorem zU(S:Gl X "range")(m:X.mg "range" = a8)(l:PA X [a,b] ta)(hs:i5 [a,b] X.env=[(bt,eval a X.env),(bt,eval b X.env)]:=by rfl)(c:i5 [b] X.env=[(bt,eval b X.env)]:=by rfl):PI X tg (.Call (.Name "range" p) [a,b] [] pos) (iRng2 ta):=by
 intro d s σ H R I h;refine Call_ (iq I S m boot_range<|QK (v4 (l pos d s σ H _ I h) ?_) (by rw[hs,c])<|by rw[c];rfl);rintro us x ⟨vs,w,k,v,f⟩;obtain⟨i,j,e,⟨f,n,o,u⟩,q⟩:=f;subst e;cases v with
 |cons r g =>
  cases g with
  |cons r' g=>cases g;obtain⟨t,rfl⟩:=r;obtain⟨t',rfl⟩:=r';exact call_range_2<|wN k f n o u q
def tFor(wi:TI)(g:TG)(t:TS):TS:=λD σ H=>wi σ H λJ d=>∃W:Nat->Nat->St->Hp->Prop,(∃m,W 0 m σ d)/\∀i m σ H,W i m σ H ->(J.stop i H/\D.nx σ H)\/(J.go i H/\∃N:St->Hp->Prop,(∀a H',N a H'->∃c,c < m/\W (i+1) c a H')/\∀x H',J.yld i H x H'->g x σ H' λb e=>t { D with nx:=N,ct:=N,bk:=D.nx } b e)
noncomputable def jJ(fp:List c9)(h:d6):List (c9×d5):=fp.filterMap λb=>(h.get? b).map λo=>(b,o)
theorem gO(d:b∈fp)(e:h.get? b=a7 o):(b,o)∈jJ fp h:=List.mem_filterMap.mpr ⟨b,d,by rw[e];rfl⟩
theorem sF(c:p∈jJ fp h):p.1∈fp/\h.get? p.1=a7 p.2:=by
 obtain⟨b,d,e⟩:=OG.mp c;cases q:h.get? b with
 |none=>rw[q]at e;cases e
 |some o=>rw[q]at e;have a:(b,o)=p:=A5 e;subst a;exact⟨d,q⟩
theorem q9.pinned(I:q9 X pins σ H s)(f:∀b∈fp,xz X pins H b)(B:∀b∈fp,∃o,s.heap.get? b=a7 o/\∀v,o.data≠.cell v):q9 X (pins++jJ fp s.heap) σ H s:=I.pins_of λp c=>(D7.mp c).elim (λz=>I.pin p<|F4 _ z) λz=>by obtain⟨h,e⟩:=sF z;obtain⟨m,n,M,_⟩:=f p.1 h;obtain⟨o,a,d⟩:=B p.1 h;rw[e]at a;cases a;exact⟨e,m,n,M,d⟩
theorem q9.unpinned(I:q9 X (pins++pl) σ H s):q9 X pins σ H s:=I.pins_of λp h=>I.pin p<|F4 _<|LM _ h
theorem Jk(F:PassesOwn (h8 X.prog X.w) X.A X.env X.xe)(hc:X.calm=a9)(hi:PI X tg iter wi)(hg:PG X tg g)(l:J3 X body tb)(hs:∀x,j5 iter X.env x=pure x:=by intro _;rfl):PS X (.For tg iter body [] pos) (tFor wi g tb):=by
 intro p s σ H D I h;refine wpAny_For (v4 (hi p s σ H _ I h) λv s1 h1=>v4 h1 λai s2 h2=>?_) hs;obtain⟨it,C,tn,J,H2,e,I2,T,U,f2,W,⟨m0,w0⟩,M⟩:=h2;subst e
 -- what stays a9 of the iterator's objects through the loop
 have t:∀{H':Hp},(∀b∈C,H' b=a8)->∀b∈C,xz X p H' b:=λhn b l=>⟨hn b l,(f2 b l).2⟩
 refine codeAny_forLoop_any (λn s'=>∃i q H',q9 X p q H' s'/\tn i s'.heap/\(∀b∈C,H' b=a8)/\W i n q H') ?_ m0 ⟨0,σ,H2,I2,U,λb l=>(f2 b l).1,w0⟩;rintro n s3 ⟨i,y,O,Z,K,E,w3⟩;rcases M i n y O w3 with⟨stop,qn⟩|⟨go,N,hN,L⟩
 refine N4 F<|v4 (T.done X rfl rfl rfl hc i p s3 y O X.xe Z (t E) K stop) ?_;rintro r s4 ⟨R,I4⟩;subst R;exact P7 ⟨y,O,I4,qn⟩
 ·refine N4 F (v4 (T.item X rfl rfl rfl hc i p s3 y O X.xe Z (t E) K go) ?_)
  rintro r s4 ⟨u,R,h4⟩;subst R;refine N4 F<|v4 h4 ?_;rintro _ s5 ⟨x,Y,I5,r5,y5,B,Q⟩;have P:=I5.pinned (t Q)<|T.obj _ _ B;refine N4 F<|v4 (hg _ s5 y Y x u _ P r5<|L x Y y5) ?_;rintro _ s6 ⟨V,H6,I6,q6⟩;refine N4 F<|v4 (l _ s6 V H6 _ I6 q6) λf S z=>?_;have k:∀{a:St}{c:Hp},q9 X (p++jJ C s5.heap) a c S->N a c->∃m,m<n/\∃i q H',q9 X p q H' S/\tn i S.heap/\(∀b∈C,H' b=a8)/\W i m q H':=λ{a c} j G=>by obtain⟨m',hm,w7⟩:=hN a c G;refine⟨m',hm,i+1,a,c,j.unpinned,T.keep _ _ _ B λb l o e=>(j.pin (b,o)<|F4 _<|F4 _<|gO l e).1,λb l=>?_,w7⟩;obtain⟨o,e,d⟩:=T.obj _ _ B b l;exact(j.pin (b,o)<|F4 _<|F4 _<|gO l e).2.1
  cases f with
  |next=>obtain⟨a,c,j,G⟩:=z;exact k j G
  |cont=>obtain⟨a,c,j,G⟩:=z;exact k j G
  |brk=>obtain⟨a,c,j,z⟩:=z;exact⟨a,c,j.unpinned,z⟩
  |ret v=>obtain⟨x7,a,c,j,r7,z⟩:=z;exact⟨x7,a,c,j.unpinned,r7,z⟩
end
abbrev R2:=V->V->Hp->VK->Prop
def C2(X:Cx)(f:c5->c5->Sem c5)(r:R2):Prop:=∀(p:List (c9×d5)) (s:f6) (σ:St) (H:Hp) (x y:V) (v u:c5) (Q:VK),q9 X p σ H s->aV x v->aV y u->r x y H Q ->f9 (h8 X.prog X.w) X.A (f v u) (EP X p σ Q) X.xe s
def PN(X:Cx)(f:c5->Sem c5)(r:V->Hp->VK->Prop):Prop:=∀(p:List (c9×d5)) (s:f6) (σ:St) (H:Hp) (x:V) (v:c5) (Q:VK),q9 X p σ H s->aV x v->r x H Q ->f9 (h8 X.prog X.w) X.A (f v) (EP X p σ Q) X.xe s
def ja(X:Cx)(f:c5)(r:List V->Hp->VK->Prop):Prop:=∀(p:List (c9×d5)) (s:f6) (σ:St) (H:Hp) (xs:List V) (us:List c5) (Q:VK),q9 X p σ H s->av xs us->r xs H Q ->f9 (h8 X.prog X.w) X.A (call f us) (EP X p σ Q) X.xe s
def OM(r:R2)(t c:TE):TE:=λσ H Q=>t σ H λx a=>c σ a λy b=>r x y b Q
def tUn(r:V->Hp->VK->Prop)(t:TE):TE:=λσ H Q=>t σ H λx a=>r x a Q
def rI(C:Int->Int->Prop)(g:Int->Int->V):R2:=λx y H Q=>∃i j,x=.int i/\y=.int j/\C i j/\Q (g i j) H
def NI(g:Int->Int->V):R2:=λx y H Q=>∃i j,x=.int i/\y=.int j/\Q (g i j) H
def rU(g:Int->V):V->Hp->VK->Prop:=λx H Q=>∃i,x=.int i/\Q (g i) H
section
variable{X:Cx}{a b c:ge}{ta tb tc:TE}{pos:i3}
theorem binT(d:PE X a ta)(g:PE X b tb){pins:List (c9×d5)}{s:f6}{σ:St}{H:Hp}{R:V->V->Hp->Prop}(I:q9 X pins σ H s)(h:ta σ H λx H1=>tb σ H1 λy H2=>R x y H2) {Q:c5->f6->Prop}{f:c5->c5->Sem c5}(i:∀v u s2 x y H2,q9 X pins σ H2 s2->aV x v->aV y u->R x y H2->f9 (h8 X.prog X.w) X.A (f v u) Q X.xe s2):f9 (h8 X.prog X.w) X.A (eval a X.env) (λv s₁=>f9 (h8 X.prog X.w) X.A (eval b X.env) (λu s₂=>f9 (h8 X.prog X.w) X.A (f v u) Q X.xe s₂) X.xe s₁) X.xe s:=by refine v4 (d pins s σ H _ I h) ?_;rintro v k ⟨x,H1,c,r,q⟩;refine v4 (g pins k σ H1 _ c q) ?_;rintro u s2 ⟨y,H2,e,m,j⟩;exact i v u s2 x y H2 e r m j
theorem pe_op{op:Operator}{r:R2}(B:C2 X (j6 op) r)(f:PE X a ta)(d:PE X b tb):PE X (.BinOp a op b pos) (OM r ta tb):=by intro p s σ H Q I h;exact wpAny_BinOp<|binT f d I h λv u w x y c e g i q=>B p w σ c x y v u Q e g i q
theorem pe_un(B:PN X (unaryOp op) r)(f:PE X a ta):PE X (.UnaryOp op a pos) (tUn r ta):=by intro p s σ H Q I h;refine UnaryOp_<|v4 (f p s σ H _ I h) ?_;rintro v e ⟨x,b,c,d,q⟩;exact B p e σ b x v Q c d q
theorem OO{f:c5->c5->Sem c5}{C:Int->Int->Prop}{g:Int->Int->Int}(e:∀(i j:Int) (t u:Tok) (s:f6) (Q:c5->f6->Prop) (E:c5->f6->Prop),C i j->Q (.int (g i j) s.toks) { s with toks:=s.toks+1 }->f9 (h8 X.prog X.w) X.A (f (.int i t)<|.int j u) Q E s):C2 X f (rI C λi j=>.int<|g i j):=by intro p s σ H x y v u Q I r a h;obtain⟨i,j,rfl,rfl,c,q⟩:=h;obtain⟨t,rfl⟩:=r;obtain⟨t',rfl⟩:=a;exact e i j t t' s _ _ c ⟨.int<|g i j,H,I.tok _,⟨_,rfl⟩,q⟩
theorem opI0{f:c5->c5->Sem c5}{g:Int->Int->Int}(e:∀(i j:Int) (t u:Tok) (s:f6) (Q:c5->f6->Prop) (E:c5->f6->Prop),Q (.int (g i j) s.toks) { s with toks:=s.toks+1 }->f9 (h8 X.prog X.w) X.A (f (.int i t)<|.int j u) Q E s):C2 X f (NI λi j=>.int<|g i j):=by intro p s σ H x y v u Q I r a h;obtain⟨i,j,rfl,rfl,q⟩:=h;obtain⟨t,rfl⟩:=r;obtain⟨t',rfl⟩:=a;exact e i j t t' s _ _ ⟨.int<|g i j,H,I.tok _,⟨_,rfl⟩,q⟩
theorem opB0{f:c5->c5->Sem c5}{g:Int->Int->Bool}(e:∀(i j:Int) (t u:Tok) (s:f6) (Q:c5->f6->Prop) (E:c5->f6->Prop),Q (.bool<|g i j) s->f9 (h8 X.prog X.w) X.A (f (.int i t)<|.int j u) Q E s):C2 X f (NI λi j=>.bl<|g i j):=by intro p s σ H x y v u Q I r a h;obtain⟨i,j,rfl,rfl,q⟩:=h;obtain⟨t,rfl⟩:=r;obtain⟨t',rfl⟩:=a;exact e i j t t' s _ _ ⟨.bl<|g i j,H,I,rfl,q⟩
def CPow(i j:Int):Prop:=0<=j/\j<=1000000/\i.natAbs<2 ^ 64
def CMul(i j:Int):Prop:=(-(2 ^ 64)<i/\i<2 ^ 64)\/(-(2 ^ 64)<j/\j<2 ^ 64)
theorem CMul.ok(h:CMul i j):IntMulOk i j:=by
 rcases h with⟨h1,h2⟩|⟨h1,h2⟩
 exact .of_left<|intBits_le_64 h1 h2;exact .of_right<|intBits_le_64 h1 h2
theorem JF:C2 X (j6 .Add) (NI λi j=>.int<|i+j):=opI0 λ_ _ _ _ _ _ _ q=>add_int q
theorem Jz:C2 X (j6 .Sub) (NI λi j=>.int<|i-j):=opI0 λ_ _ _ _ _ _ _ q=>sub_int q
theorem JC:C2 X (j6 .Mult) (rI CMul λi j=>.int<|i*j):=OO λ_ _ _ _ _ _ _ f q=>mul_int q f.ok
theorem JD:C2 X (j6 .Mod) (rI (λ_ j=>0<j) λi j=>.int<|i % j):=OO λi j _ _ _ _ _ f q=>by have h1:(0:Int)<j:=f;exact mod_int' (by lia)<|by rw[Int.fmod_eq_emod_of_nonneg i<|by lia];exact q
theorem JB:C2 X (j6 .Pow) (rI CPow λi j=>.int<|i ^ j.toNat):=OO λ_ _ _ _ _ _ _ f q=>pow_int_small f.1 f.2.1 f.2.2 q
theorem JA:C2 X (j6 .LShift) (rI CPow λi j=>.int<|i*2 ^ j.toNat):=OO λ_ _ _ _ _ _ _ f q=>lshift_int_small f.1 f.2.1 f.2.2 q
theorem unI{f:c5->Sem c5}{g:Int->Int}(e:∀(i:Int) (t:Tok) (s:f6) (Q:c5->f6->Prop) (E:c5->f6->Prop),Q (.int (g i) s.toks) { s with toks:=s.toks+1 }->f9 (h8 X.prog X.w) X.A (f<|.int i t) Q E s):PN X f (rU λi=>.int<|g i):=by intro p s σ H x v Q I r h;obtain⟨i,rfl,q⟩:=h;obtain⟨t,rfl⟩:=r;exact e i t s _ _ ⟨.int<|g i,H,I.tok _,⟨_,rfl⟩,q⟩
theorem IE:PN X (unaryOp .USub) (rU λi=>.int (-i)):=unI λ_ _ _ _ _ q=>neg_int q
end
section
variable{X:Cx}{a b c:ge}{ta tb tc:TE}{pos:i3}
theorem op_lt:C2 X (j7 .Lt) (NI λi j=>.bl<|decide<|i<j):=opB0 λ_ _ _ _ _ _ _ q=>lt_int q
theorem op_le:C2 X (j7 .LtE) (NI λi j=>.bl<|decide<|i<=j):=opB0 λ_ _ _ _ _ _ _ q=>le_int q
theorem op_gt:C2 X (j7 .Gt) (NI λi j=>.bl<|decide<|j<i):=opB0 λ_ _ _ _ _ _ _ q=>gt_int q
theorem C2.or(h:C2 X f r)(h':C2 X f r'):C2 X f (λx y H Q=>r x y H Q\/r' x y H Q):=by intro p s σ H x y v u Q I g i q;rcases q with q|q;exact h p s σ H x y v u Q I g i q;exact h' p s σ H x y v u Q I g i q
theorem Ga(B:C2 X (j7 op) r)(f:PE X a ta)(d:PE X b tb)(m:j8 op b=bt):PE X (.Compare a [op] [b] pos) (OM r ta tb):=by intro p s σ H Q I h;exact wpAny_Compare1 (binT f d I h λv u w x y c e g i q=>B p w σ c x y v u Q e g i q) m
def IM(t:TE):TT:=λσ H Q=>t σ H λx H'=>∃k,x=.bl k/\Q k H'
theorem FR(B:C2 X (j7 op) r)(m:PE X a ta)(n:PE X b tb)(o:j8 op b=bt):PT X (.Compare a [op] [b] pos) (IM<|OM r ta tb):=by
 intro p s σ H Q I h;refine wpAny_isTrue_Compare1 (v4 (m p s σ H _ I h) λv E ⟨x,d,i,A,q⟩=>v4 (n p E σ d _ i q) λu F ⟨y,f,j,C,t⟩ =>
  v4 (B p F σ f x y v u _ j A C t) λc G ⟨z,g,l,D,k,e,w⟩=>?_) o
 subst e;cases D;exact Oa ⟨g,l,w⟩
def EN(r r':R2)(t e f:TE):TE:=λσ H Q=>t σ H λx a=>e σ a λy b=>r x y b λz c=>∃k,z=.bl k /\(if k=a9 then f σ c λY d=>r' y Y d Q else Q (.bl bt) c)
theorem CI(E:C2 X (j7 op) r)(f:C2 X (j7 op') r')(A:PE X a ta)(B:PE X b tb)(C:PE X c tc)(D:lastMarks [op,op'] [b,c]=bt:=by with_unfolding_all rfl):PE X (.Compare a [op,op'] [b,c] pos) (EN r r' ta tb tc):=by
 intro p s σ H Q I h;refine Compare_chain (v4 (A p s σ H _ I h) λv N ⟨x,j,o,K,F⟩=>chain_link (v4 (B p N σ j _ o F) λu O ⟨y,l,t,m,G⟩ =>
  v4 (E p O σ l x y v u _ t K m G) λd P ⟨z,g,i,L,k,e,q⟩=>?_)) D
 subst e;cases L;refine Oa ?_;cases k with
 |false=>exact ite_ff ⟨.bl bt,g,i,rfl,q⟩
 |true=>exact ite_tt<|chain_last<|v4 (C p P σ g _ i q) λY R ⟨S,n,w,M,J⟩=>f p R σ n y S u Y Q w m M J
theorem pj:(sizeLine:Nat)<2 ^ 63:=by rw[Mc];decide
theorem xS:C2 X (j6 .Add) (λx y H Q=>∃i j,x=.str i/\y=.str j/\i.length+j.length<=sizeLine/\Q (.str<|i++j) H):=by intro p s σ H x y v u Q I g r h;obtain⟨i,j,rfl,rfl,b,q⟩:=h;obtain⟨t,rfl⟩:=g;obtain⟨t',rfl⟩:=r;exact add_str (λt' k=>⟨.str<|i++j,H,I.tok _,⟨_,rfl⟩,q⟩) b
theorem Fy(r:av [x] us):∃u,us=[u]/\aV x u:=by
 cases r with
 |cons a m=>cases m;exact⟨_,rfl,a⟩
end
structure ObjM(h:d6)(x dx C:c9)(mA:c6->Option c5):Prop where
 obj:h.get? x=a7 (PySem.W.instObj C dx)
 ns:h.Ns1 dx mA
 ne:dx≠x
theorem BS.some_of(r:BS (a7 v) o):∃u,o=a7 u/\aV v u:=by
 cases o with
 |none=>exact(show False from r).elim
 |some u=>exact⟨u,rfl,r⟩
structure Cls(K:u4)(C:c9):Prop where
 pg:PySem.W.plainGet K C Str.empty=a9
 hd:PySem.W.hasDictIn K C=a9
 po:PySem.W.plainOver K C=a9
 sa:Pf K (.ref C) "__setattr__" = a7 (a7<|.builtin "object.__setattr__")
structure Con(K:u4)(C:c9)(f:c6)(v:V)(u:c5):Prop where
 at_:Pf K (.ref C) f=a7 (a7 u)
 rel:aV v u
 get:PySem.W.specialIn K u "__get__" = a7 a8
 cp:PySem.W.copiedNames.contains f=bt
structure Meth(K:u4)(C:c9)(m:c6)(f:c9):Prop where
 at_:Pf K (.ref C) m=a7 (a7<|.ref f)
 fn:PySem.W.isFn K (.ref f)=a9
 kp:Nv K (.ref f)=a9
section
variable{X:Cx}{pins:List (c9×d5)}{σ:St}{H:Hp}{s:f6}{A:e9}{E:c5->f6->Prop}{Q:c5->f6->Prop}{c:c5}{b:Bool}
inductive TyOf(K:u4)(H:Hp):V->c5->Prop where
 |non:TyOf K H .non (.type "NoneType")
 |bl (x:Bool):TyOf K H (.bl x) (.type "bool")
 |int (i:Int):TyOf K H (.int i) (.type "int")
 |str (x:c6):TyOf K H (.str x) (.type "str")
 |flt (x:UInt64):TyOf K H (.flt x) (.type "float")
 |lst {a:c9}{xs:List V} (e:H a=a7 (.lst xs)):TyOf K H (.ref a) (.type "list")
 |frz {a:c9}{o:d5}{xs:List V} (e:H a=a7 (.frz o (.lst xs))):TyOf K H (.ref a) (.type "list")
 |tup {a:c9}{xs:List V} (e:H a=a7 (.tup xs)):TyOf K H (.ref a) (.type "tuple")
 |dK {a:c9}{kvs:List (C9×V)} (e:H a=a7 (.dK kvs)):TyOf K H (.ref a) (.type "dict")
 |dT {a:c9}{kvs:List (List C9×V)} (e:H a=a7 (.dT kvs)):TyOf K H (.ref a) (.type "dict")
 |ins {a C dx:c9}{fs:List (c6×V)} (e:H a=a7 (.ins C dx fs)) (cl:Cls K C) (ha:Pf K (.ref C) "__class__" = a7 (a7 (.builtin "object.__class__")))
   (hn:PySem.W.specialIn K (.builtin "object.__class__") "__get__" = a7 (a7<|.builtin "getset_descriptor.__get__")) (htk:PySem.W.takesIn K (.builtin "object.__class__")=a7 a9)
   (hm:PySem.W.mroIn K C (.type "object")=a7 a9):TyOf K H (.ref a) (.ref C)
end
structure Room(k:Nat)(A:e9):Prop where
 hd:A.handled=a8
 dp:A.depth+3*k+5<recursionLimit
 un:A.units+16*k+200<j9
theorem Room.mono(r:Room k A)(h:j<=k):Room j A:=⟨r.hd,by have:=r.dp;lia,by have:=r.un;lia⟩
theorem Room.deeper(r:Room (k+1) A)(env:Env):Room k (A.deeper env):=⟨r.hd,by have:=r.dp;show A.depth+1+3*k+5<_;lia,by have:=r.un;show A.units+3+16*k+200<_;lia⟩
theorem Room.in1(r:Room (k+1) A):Room k A.in1:=⟨r.hd,by have:=r.dp;show A.depth+3*k+5<_;lia,by have:=r.un;show A.units+1+16*k+200<_;lia⟩
theorem Room.depth(r:Room k A):A.depth<recursionLimit:=by have:=r.dp;lia
def tNil:TA:=λ_ H Q=>Q [] H
def tCons(t:TE)(tr:TA):TA:=λσ H Q=>t σ H λx a=>tr σ a λxs b=>Q (x::xs) b
section
variable{X:Cx}{e:ge}{es:List ge}{te:TE}{t:TA}{pos:i3}
theorem Jy:PA X [] tNil:=λ_ _ _ _ H Q I h=>Qk ⟨[],H,I,.nil,h⟩
theorem Gd(g:PE X e te)(i:PA X es t)(hs:i5 (e::es) X.env=(bt,eval e X.env)::i5 es X.env:=by rfl):PA X (e::es) (tCons te t):=by intro a p s σ H Q I h;rw[hs];show f9 _ _ (spliced<|(bt,eval e X.env)::i4 a (i5 es X.env)) _ _ s;refine Qp<|v4 (g p s σ H _ I h) ?_;rintro u k ⟨x,b,d,r,q⟩;refine v4 (i a p k σ b _ d q) ?_;rintro us w ⟨xs,c,f,m,j⟩;exact⟨x::xs,c,f,.cons r m,j⟩
def tTup(t:TA):TE:=λσ H Q=>t σ H λxs a=>xs.length<=sizeLine/\∀p,a p=a8->Q (.ref p) (v6 a p<|.tup xs)
def tLst(t:TA):TE:=λσ H Q=>t σ H λxs a=>xs.length<=sizeLine/\∀p,a p=a8->Q (.ref p) (v6 a p<|.lst xs)
theorem Jo{x1}(h:PA X es t):PE X (.Tuple es x1 pos) (tTup t):=by intro p s σ H Q I g;refine wpAny_Tuple_spliced<|v4 (h pos p s σ H _ I g) λus f ⟨xs,a,c,r,z,q⟩=>⟨by rw[<-r.length];exact z,?_⟩;have d:a f.heap.objs.size=a8:=c.hok.fresh<|u5 _;refine⟨.ref f.heap.objs.size,v6 a f.heap.objs.size<|.tup xs,c.laid (t':=f.toks) (λb u e=>v7 _ e) (u5 _) ?_,rfl,q _ d⟩;exact⟨z,us,r,⟨_,z0 _ rfl,rfl,⟨_,rfl⟩,rfl⟩⟩
theorem Jt(h:PA X es t):PE X (.List es pos) (tLst t):=by intro p s σ H Q I g;refine wpAny_List_spliced<|v4 (h pos p s σ H _ I g) λus f ⟨xs,a,c,r,z,q⟩=>⟨by rw[<-r.length];exact z,?_⟩;have d:a f.heap.objs.size=a8:=c.hok.fresh<|u5 _;refine⟨.ref f.heap.objs.size,v6 a f.heap.objs.size<|.lst xs,c.laid (t':=f.toks) (λb u e=>v7 _ e) (u5 _) ?_,rfl,q _ d⟩;exact⟨z,us,0,r,z0 _ rfl⟩
end
abbrev Sp:=List V->Hp->VK->XK->Prop
abbrev Nc:=List Env->Hp->f6->XK->c5->f6->Prop
structure Env0(P:c8)(w:c7)(K:u4)(mg:c6->Option c5)(base:d6)(A:e9)(outer:List Env)(s:f6)(H:Hp):Prop where
 frames:A.frames=a7 outer
 mod:Mod K mg base
 bs:∀b o,base.get? b=a7 o->s.heap.get? b=a7 o/\H b=a8
 bsz:base.objs.size<=s.heap.objs.size
 funs:s.heap.FunFrames base outer
 frf:∀b∈K1 outer,H b=a8
 hok:D0 P w H s.heap
 bare:f8 s.gens
inductive CE(outer:List Env)(P:c8)(w:c7)(H:Hp)(s:f6)(Q:VK)(u:c5)(s':f6):Prop
 |mk (v:_) (H':_) (f0:s'.os=s.os) (f1:f8 s'.gens) (f2:Un (K1 outer) [] H H' s.heap s'.heap) (f3:D0 P w H' s'.heap) (f4:aV v u) (f5:Q v H')
def CR(CX:Nc)(o:List Env)(P:c8)(w:c7)(H:Hp)(s:f6)(Q:VK)(E:XK)(r:Result)(s':f6):Prop:=match r with
 |.ok (.ret u)=>CE o P w H s Q u s'
 |.ok _=>False
 |.error e=>CX o H s E e s'
structure FnOk(P:c8)(w:c7)(K:u4)(mg:c6->Option c5)(base:d6)(CX:Nc)(k:Nat)(f:c9)(fd:k4)(ps:List c6)(sp:Sp):Prop where
 len:∀vs H Q E,sp vs H Q E->vs.length=ps.length
 run:∀(A:e9) (outer:List Env) (s:f6) (H:Hp) (args:Args) (us:List c5) (vs:List V) (Q:VK) (E:XK),Room k A->Env0 P w K mg base A outer s H->BindsTo s fd args (ps.zip us)->av vs us->sp vs H Q E ->k5 (h8 P w) A (.call (.ref f) args) (CR CX outer P w H s Q E) s
theorem Env0.in1{P:c8}{w:c7}{K:u4}{mg:c6->Option c5}{base:d6}{A:e9}{o:List Env}{s:f6}{H:Hp}(e:Env0 P w K mg base A o s H):Env0 P w K mg base A.in1 o s H:=⟨e.frames,e.mod,e.bs,e.bsz,e.funs,e.frf,e.hok,e.bare⟩
section
variable{X:Cx}{pins:List (c9×d5)}{σ:St}{H:Hp}{s s':f6}
theorem q9.env0(I:q9 X pins σ H s):Env0 X.prog X.w X.K X.mg X.base X.A X.stack s H:=⟨I.ok.frames,I.ok.mod,I.bs,C7 I.ok.bsz I.sz,I.stack,I.stkFree,I.hok,I.bare⟩
theorem q9.after(I:q9 X pins σ H s)(h:CE X.stack X.prog X.w H s Q u s'):EP X pins σ Q u s':=by obtain⟨v,H',c,e,n,K,r,q⟩:=h;obtain⟨a,g,d,t,o⟩:=s';obtain rfl:o=s.os:=c;exact⟨v,H',I.call (h':=a) (g':=g) (d':=d) (t':=t) (ch:=[]) n K e (λb z=>o5 z<|by simp),r,q⟩
end
def IR(sp:Sp)(s:List V)(E:XK)(t:TA):TE:=λσ H Q=>t σ H λvs a=>sp (vs++s) a Q E
def ua(K:u4)(d:k4)(ps:List c6)(ds:List c5):Prop:=∀(s:f6) (us:List c5),K.In s.heap->(us++ds).length=ps.length->BindsTo s d ⟨us,[]⟩ (ps.zip<|us++ds)
theorem ua.all{K:u4}{d:k4}{ps:List c6}(h:∀us:List c5,us.length=ps.length->bindArgs d ⟨us,[]⟩=pure (ps.zip us)):ua K d ps []:=λs us _ g=>by rw[G7]at g ⊢;exact .of_eq<|h us g
def BO(CX:Nc)(X:Cx)(E:XK):Prop:=∀(p:List (c9×d5)) (σ:St) (H:Hp) (s:f6) (e:c5) (s':f6),q9 X p σ H s->CX X.stack H s E e s'->X.xe e s'
section
variable{X:Cx}{CX:Nc}{k:Nat}{f C:c9}{fd:k4}{ps:List c6}{sp:Sp}{dvs:List V}{ds:List c5}{E:XK}{x m:c6}{p pos apos:i3}{e o:ge}{es:List ge}{ta:TE}{t:TA}
theorem Ja(F:FnOk X.prog X.w X.K X.mg X.base CX k f fd ps sp)(i:Room k X.A)(d:ua X.K fd ps ds)(a:av dvs ds)(x:BO CX X E)(I:q9 X pins σ H s) (r:av vs us) (h:sp (vs++dvs) H Q E):f9 (h8 X.prog X.w) X.A (call (.ref f) us) (EP X pins σ Q) X.xe s:=by
 have m:av (vs++dvs) (us++ds):=r.append a;have g:(us++ds).length=ps.length:=by rw[<-m.length];exact F.len _ _ _ _ h
 refine wpAny_call<|NP (F.run X.A X.stack s H ⟨us,[]⟩ (us++ds) (vs++dvs) Q E i I.env0 (d s us I.kIn g) m h) λr s' q=>?_;cases r with
 |error e=>exact x pins σ H s e s' I q
 |ok l =>
  cases l with
  |ret u=>exact I.after q
  |next=>exact MM q
  |brk=>exact MM q
  |cont=>exact MM q
theorem Gb(F:FnOk X.prog X.w X.K X.mg X.base CX k f fd ps sp)(o:Room k X.A)(S:Gl X x)(n:X.mg x=a7 (.ref f))(m:Nv X.K (.ref f)=a9)(g:ua X.K fd ps ds)(i:av dvs ds)(u:BO CX X E)(d:PA X (e::es) t) (b:(x==("__debug__":c6))=bt:=by decide) (j:i5 (e::es) X.env=(bt,eval e X.env)::i5 es X.env:=by rfl) (l:(i4 pos<|i5 es X.env).any (·.1)=bt:=by rfl):PE X (.Call (.Name x p) (e::es) [] pos) (IR sp dvs E t):=by intro a s σ H Q I h;refine Oc<|GB I S n ?_ b;refine PySem.W.callWith_K (h₀:=X.base) I.ok.mod.kin m (v4 (d pos a s σ H _ I h) λus y ⟨vs,v,c,r,q⟩=>⟨c.kIn,?_⟩) j l;exact Ja F o g i u c r q
structure Mk(K:u4)(C f:c9):Prop where
 makes:PySem.W.makesIn K C=a9
 init:Pf K (.ref C) "__init__" = a7 (a7<|.ref f)
 fn:PySem.W.isFn K (.ref f)=a9
 kp:Nv K (.ref C)=a9
end
section
variable{X:Cx}{CX:Nc}{k:Nat}{f C:c9}{fd:k4}{ps ks:List c6}{sp:Sp}{E:XK}{x m:c6}{p pos apos kpos:i3}{e o:ge}{es:List ge}{kws:List k6}{te ta:TE}{t tk:TA}{nm:Option c6}
structure KBinds(K:u4)(fd:k4)(ps ks:List c6)(g:List c5->List c5->List c5)(gV:List V->List V->List V):Prop where
 to:∀(s:f6) (us ws:List c5),K.In s.heap->(g us ws).length=ps.length->BindsTo s fd ⟨us,ks.zip ws⟩ (ps.zip<|g us ws)
 rel:∀{vs:List V}{us:List c5}{zs:List V}{ws:List c5},av vs us->av zs ws->av (gV vs zs) (g us ws)
variable{g:List c5->List c5->List c5}{gV:List V->List V->List V}
end
structure FnScope(N P:List c6)(sc:f7):Prop where
 kind:sc.kind=.function
 co:sc.isCoroutine=bt
 gen:sc.isGenerator=bt
 nd:N.Nodup
 pre:N.take P.length=P
 par:∀x∈P,sc.names.lookup x=a7 .local\/sc.names.lookup x=a7 .cell
 nofree:∀y∈sc.names,y.2≠.free
theorem tS{kindOf:c6->Option k7}{x:c6}:∀{binds:List (c6×c5)}{m:c6->Option c5},(∀v,(x,v)∉binds)->bindL kindOf binds m x=m x
 | [],_,_=>rfl
 |(n,v)::r,m,h=>by
  unfold bindL;rw[tS λw hw=>h w<|A6 _ hw];split;have:x≠n:=by rintro rfl;exact h v C1
  simp[this];rfl
theorem tU{kindOf:c6->Option k7}{x:c6}:∀{binds:List (c6×c5)}{m:c6->Option c5},(∀v,(x,v)∉binds)->bindC kindOf binds m x=m x
 | [],_,_=>rfl
 |(n,v)::r,m,h=>by
  unfold bindC;rw[tU λw hw=>h w<|A6 _ hw];split;rfl;have:x≠n:=by rintro rfl;exact h v C1
  simp[this]
theorem tT{kindOf:c6->Option k7}{x:c6}{v:c5}:∀{P:List c6}{vs:List c5}{i:Nat}{m:c6->Option c5},P.Nodup->P[i]?=a7 x->vs[i]?=a7 v->kindOf x=a7 .local ->bindL kindOf (P.zip vs) m x=a7 v
 | [],_,_,_,_,h,_,_=>by simp at h
 |_::_,[],_,_,_,_,h,_=>by simp at h
 |p::P,w::vs,0,m,nd,h1,h2,hk=>by simp at h1 h2;subst h1;subst h2;show bindL kindOf ((p,w)::P.zip vs) m p=_;unfold bindL;rw[tS λv hv=>(LX.mp nd).1 (P6 hv).1,o0 hk];simp
 |p::P,w::vs,i+1,m,nd,h1,h2,hk=>by show bindL kindOf ((p,w)::P.zip vs) m x=_;unfold bindL;exact tT (i:=i) (LX.mp nd).2 (by simpa using h1) (by simpa using h2) hk
theorem tV{kindOf:c6->Option k7}{x:c6}{v:c5}:∀{P:List c6}{vs:List c5}{i:Nat}{m:c6->Option c5},P.Nodup->P[i]?=a7 x->vs[i]?=a7 v->kindOf x≠a7 .local ->bindC kindOf (P.zip vs) m x=a7 v
 | [],_,_,_,_,h,_,_=>by simp at h
 |_::_,[],_,_,_,_,h,_=>by simp at h
 |p::P,w::vs,0,m,nd,h1,h2,hk=>by simp at h1 h2;subst h1;subst h2;show bindC kindOf ((p,w)::P.zip vs) m p=_;unfold bindC;rw[tU λv hv=>(LX.mp nd).1 (P6 hv).1,o4 hk];simp
 |p::P,w::vs,i+1,m,nd,h1,h2,hk=>by show bindC kindOf ((p,w)::P.zip vs) m x=_;unfold bindC;exact tV (i:=i) (LX.mp nd).2 (by simpa using h1) (by simpa using h2) hk
noncomputable def start(N:List c6)(vs:List V):St:=vs.map a7++Pe (N.length-vs.length) a8
noncomputable def tO(CX:Nc)(P:c8)(w:c7)(K:u4)(mg:c6->Option c5)(base:d6)(N:List c6)(l:c6)(scope:f7)(f:c9)(d:c5)(A:e9)(outer:List Env)(s:f6)(H:Hp)(E:XK):Cx where
 prog:=P
 w:=w
 K:=K
 mg:=mg
 base:=base
 A:=A.deeper<|k8 l scope s.heap.objs.size f d
 N:=N
 s₀:=s
 H₀:=H
 env:=k8 l scope s.heap.objs.size f d
 outer:=outer
 stack:=k8 l scope s.heap.objs.size f d::outer
 ex:=[]
 calm:=a9
 fn:=λ_=>a9
 pn:=[]
 xe:=λe s'=>f9 (h8 P w) (A.deeper<|k8 l scope s.heap.objs.size f d) (leaving (k8 l scope s.heap.objs.size f d) e) (λ_ a=>CX outer H s E e a) (λb a=>CX outer H s E b a) s'
theorem xr{s:f7}{n:Nat}{x:c6}(h:s.names.lookup x=a7 .cell):∃c,(cellsFrom n s.names []).lookup x=a7 c:=by have q:=Re s.names n []<|.inl h;exact Rs.mp q
theorem sY{CX:Nc}{P:c8}{w:c7}{K:u4}{mg:c6->Option c5}{base:d6}{N ps:List c6}{l:c6}{scope:f7}{f:c9}{t:c5}{A:e9}{o:List Env}{s D:f6}{H:Hp}{E:XK}{us:List c5}{vs:List V}(S:FnScope N ps scope) (G:A.handled=a8) (d:Env0 P w K mg base A o s H) (M:vs.length=ps.length) (r:av vs us)(x:InCallC s s.heap.objs.size (bindL (k8 l scope s.heap.objs.size f t).kindOf (ps.zip us) λ_=>a8) (cellsFrom (s.heap.objs.size+1) scope.names []) (bindC (k8 l scope s.heap.objs.size f t).kindOf (ps.zip us) λ_=>a8) D):q9 (tO CX P w K mg base N l scope f t A o s H E) [] (start N vs) H D:=by
 have I:ps.length<=N.length:=by have:=p7 K6 S.pre;rw[G0]at this;lia
 obtain⟨h1,Q,rfl,B⟩:=x.done;have g:∀b:c9,b∉(tO CX P w K mg base N l scope f t A o s H E).ex:=λb z=>o5 (show b∈([]:List c9)from z) (by simp);refine⟨⟨d.mod,S.kind,rfl,rfl,u5 _,λy z c h1 h2=>?_,λy O=>?_,λy c _ h=>?_,λ_=>G,Around.frames_deeper d.frames,.inr ⟨rfl,rfl⟩,λb z=>o5 z<|g b,d.bs,d.bsz,λb _ _=>g b,λb z=>o5 z<|g b,d.funs,d.frf⟩,rfl,d.bare,Un.kept B,⟨_,x.toInCall.ns,λi y v h1 h2 L=>?_⟩,λy c h=>⟨_,x.cell y c h⟩,d.hok.fresh<|u5 _,λy c h=>?_,λp j=>o5 (show p∈([]:List (c9×d5))from j) (by simp),d.hok.kept B,?_⟩;exact name_of_addr x.apart (Nj h1)<|Nj h2;have O:scope.names.lookup y=a7 .cell\/scope.names.lookup y=a7 .free:=O;rcases O with O|O;exact xr O;exact o5 rfl<|S.nofree _<|Nj O;exact NR<|x.above y c<|Nj h;have hi:i<vs.length:=by unfold start at h2;by_cases hi:i<vs.length;exact hi;rw[Mf<|by simpa using hi]at h2;rw[QB]at h2;split at h2<;>cases h2
 have F:vs[i]?=a7 v:=by
  unfold start at h2;rw[J2 (by simpa using hi),C5]at h2;cases e:vs[i]? with
  |none=>rw[e]at h2;cases h2
  |some a=>rw[e]at h2;cases h2;rfl
 obtain⟨u,C,J⟩:=r.get F;have j:ps[i]?=a7 y:=by rw[<-S.pre,Of<|by lia];exact h1
 have m:ps.Nodup:=by rw[<-S.pre];exact S.nd.sublist<|List.take_sublist _ _
 refine⟨u,J,?_⟩;rcases S.par y (F0 j)with k|k;exact .inl ⟨k,tT m j C k⟩;obtain⟨c,e⟩:=xr (n:=s.heap.objs.size+1) k;refine .inr ⟨.inl k,c,e,?_⟩;have q:=x.cell y c e;rw[tV m j C<|by show scope.names.lookup y≠_;rw[k];decide]at q;exact q;exact d.hok.fresh<|NR<|x.above y c<|Nj h;unfold start;show _=N.length;rw[A1,u6,Qw];lia
theorem KN{CX:Nc}{P:c8}{w:c7}{K:u4}{mg:c6->Option c5}{base:d6}{k:Nat}{f:c9}{name l:c6}{p:Arguments}{a:List i6}{scope:f7}{T kV i U c R oc:c5}{M od:Option c9}{G:Array (Option c5)}{N ps:List c6}{sp:Sp} (lk:K.lookup f=a7 ⟨oc,od,.func<|Nf name l p a scope T kV i U M c R,G⟩) (C:P3 K c l=a9) (S:FnScope N ps scope)(B:∀vs H Q E,sp vs H Q E->vs.length=ps.length)(h:∀(A:e9) (outer:List Env) (s:f6) (H:Hp) (vs:List V) (Q:VK) (E:XK),Room k (A.deeper<|k8 l scope s.heap.objs.size f c)->sp vs H Q E -> ∃t,J3 (tO CX P w K mg base N l scope f c A outer s H E) a t/\t { nx:=λ_ H'=>Q .non H',rt:=Q } (start N vs) H):FnOk P w K mg base CX (k+1) f (Nf name l p a scope T kV i U M c R) ps sp:=by
 refine⟨B,λA outer s H O us vs Q E D j hb r z=>?_⟩;have hl:=B _ _ _ _ z;have X:K.In s.heap:=j.mod.kin.keeps λb o e=>(j.bs b o e).1;have F:s.heap.NoLimit:=j.mod.nolimit.keeps λb o e=>(j.bs b o e).1;have g:∀y∈ps.zip us,scope.names.lookup y.1=a7 .local\/(scope.names.lookup y.1=a7 .cell/\((cellsFrom (s.heap.objs.size+1) scope.names []).lookup y.1).isSome=a9):=λ⟨n,v⟩ hy=>by rcases S.par n (P6 hy).1 with q|q;exact .inl q;exact .inr ⟨q,Re _ _ _<|.inl q⟩
 refine codeAny_call_function D.depth (X _ _ lk) rfl S.co S.gen rfl (PySem.W.codeRec_of X C)<|hb _ _ _ _ ?_;refine wpAny_newFunctionEnv_cells S.kind g λenv he Y x=>?_;subst he;refine⟨F.keeps x.toInCall.keep,codeAny_func ?_⟩;obtain⟨t,ht,hq⟩:=h A outer s H vs Q E (D.deeper _) z;have I:q9 (tO CX P w K mg base N l scope f c A outer s H E) [] (start N vs) H Y:=sY S D.hd j hl r x;refine E7 (ht [] Y (start N vs) H _ I hq) (λZ s' hs=>?_) λe s' hs=>hs;have m:∀{d:St}{H':Hp}{v:V}{u:c5},q9 (tO CX P w K mg base N l scope f c A outer s H E) [] d H' s'->aV v u->Q v H'->CE outer P w H s Q u s':=λ{d H' v u} J L q=>⟨v,H',J.os,J.bare,J.base,J.hok,L,q⟩
 cases Z with
 |ret u=>obtain⟨v,d,H',J,L,q⟩:=hs;exact m J L q
 |next=>obtain⟨d,H',J,q⟩:=hs;exact m (v:=V.non) (u:=H9) J rfl q
 |brk=>obtain⟨_,_,_,q⟩:=hs;exact MM q
 |cont=>obtain⟨_,_,_,q⟩:=hs;exact MM q
section
variable{X:Cx}{x:c6}{p pos:i3}{e:ge}{es:List ge}{t:TA}{id T:String}{r:List V->Hp->VK->Prop}
def QS(r:List V->Hp->VK->Prop)(t:TA):TE:=λσ H Q=>t σ H λvs a=>r vs a Q
theorem CJ(g:ja X (.builtin id) r)(S:Gl X x)(m:X.mg x=a8)(v:e8 x=a7 (.builtin id))(f:PA X (e::es) t)(n:x≠"__name__":=by decide)(b:(x==("__debug__":c6))=bt:=by decide)(i:i5 (e::es) X.env=(bt,eval e X.env)::i5 es X.env:=by rfl) (l:(i4 pos<|i5 es X.env).any (·.1)=bt:=by rfl):PE X (.Call (.Name x p) (e::es) [] pos) (QS r t):=by intro a s σ H Q I h;refine Oc<|iq I S m v ?_ n b;exact PyProof.Rows.callWith_builtin1 (v4 (f pos a s σ H _ I h) λus k ⟨vs,c,d,j,q⟩=>g a k σ c vs us Q d j q) i l
theorem zX(g:ja X (.type T) r)(S:Gl X x)(m:X.mg x=a8)(v:e8 x=a7 (.type T))(f:PA X (e::es) t)(n:x≠"__name__":=by decide)(b:(x==("__debug__":c6))=bt:=by decide)(i:i5 (e::es) X.env=(bt,eval e X.env)::i5 es X.env:=by rfl) (l:(i4 pos<|i5 es X.env).any (·.1)=bt:=by rfl):PE X (.Call (.Name x p) (e::es) [] pos) (QS r t):=by intro a s σ H Q I h;refine Oc<|iq I S m v ?_ n b;exact QK (v4 (f pos a s σ H _ I h) λus k ⟨vs,c,d,j,q⟩=>g a k σ c vs us Q d j q) i l
end
end L2
namespace HT
open PySem PyProof.Rows
theorem rcLt_int(A:e9)(s:f6)(a:Int)(t:Tok)(c:Int)(u:Tok)(prog:c8)(w:c7)(E:c5->f6->Prop)(Q:c5->f6->Prop)(h:Q (.bool<|decide<|a<c) s):f9 (h8 prog w) A (richCompare .Lt (.int a t)<|.int c u) Q E s:=(PyProof.Rows.lt_int h:f9 (h8 prog w) A (j7 .Lt (.int a t)<|.int c u) Q E s)
section
variable{prog:c8}{w:c7}{A:e9}{E:c5->f6->Prop}{s:f6}
theorem cat_tup(D:IsTup s.heap t vs.toArray)(q:IsTup s.heap b ws.toArray)(v:vs≠[])(h1:ws=[]->Q (.ref t) s) (h2:ws≠[]->Q (.ref s.heap.objs.size) { s with heap:=s.heap.push { cls:=.type "tuple",data:=.seq (vs++ws).toArray } })(z:vs.length+ws.length<=sizeLine):f9 (h8 prog w) A (j6 .Add (.ref t)<|.ref b) Q E s:=by
 obtain⟨⟨cls,k,data,p⟩,B,l,n,m⟩:=id D;obtain⟨⟨j,d,i,f⟩,h,a,o,c⟩:=id q;simp only at l m a c;subst l m a c;have e:vs.toArray++ws.toArray=(vs++ws).toArray:=by simp
 by_cases g:ws=[]
 exact concat_meets ⟨_,B,rfl⟩ ⟨_,h,rfl⟩ noFill_tuple_add seq_tuple_add Rc Rl (Rr _ _) (tuple_addW1 t b vs.toArray ws.toArray n o k d p f (by simpa using v)<|by simp[g]) ⟨B,h,h1 g⟩;refine concat_meets ⟨_,B,rfl⟩ ⟨_,h,rfl⟩ noFill_tuple_add seq_tuple_add Rc Rl (Rr _ _) (tuple_addW2 t b vs.toArray ws.toArray n o k d p f (by simpa using v) (by simpa using g)<|by rw[y4,y4];exact z) ⟨B,h,?_⟩;rw[e];exact h2 g
noncomputable def sIx(n d:Nat):Option Int->Nat
 |none=>d
 |some v=>if v<0 then(v+(n:Int)).toNat else min v.toNat n
theorem sIx_none(n d:Nat):sIx n d a8=d:=rfl
theorem sIx_nat(n d k:Nat):sIx n d (a7 (k:Int))=min k n:=by show (if (k:Int)<0 then((k:Int)+(n:Int)).toNat else min (k:Int).toNat n)=min k n;rw[o4 (by lia),ME]
theorem IY(n d:Nat)(h:d<=n)(o:Option Int):sIx n d o<=n:=by
 cases o with
 |none=>exact h
 |some v=>show (if v<0 then(v+(n:Int)).toNat else min v.toNat n)<=n;by_cases c:v<0;rw[o0 c];lia;rw[o4 c];exact Nat.min_le_right _ _
theorem Bw(v:Int)(n d:Nat):(if v<0 then max (v+(n:Int)) 0 else min v (n:Int))=((sIx n d (a7 v):Nat):Int):=by
 show (if v<0 then max (v+(n:Int)) 0 else min v (n:Int))=(((if v<0 then(v+(n:Int)).toNat else min v.toNat n):Nat):Int)
 by_cases c:v<0;simp only[o0 c];lia;simp only[o4 c];lia
theorem yH(l hi:Option Int)(n:Nat):Rv l hi 1 (n:Int)=(((sIx n 0 l:Nat):Int),((sIx n n hi:Nat):Int)):=by
 have h1:¬((1:Int)<0):=by lia
 unfold Rv;simp only[h1,p5];refine Prod.ext ?_ ?_;cases l with
 |none=>rfl
 |some v=>exact Bw v n 0
 cases hi with
 |none=>rfl
 |some v=>exact Bw v n n
theorem xR(i j:Nat):QH (i:Int) (j:Int) 1=j-i:=by
 unfold QH;have h1:(1:Int) > 0:=by lia
 simp only[h1,p6,Int.ediv_one];split<;>lia
theorem pe(p:k9 v o)(h:Q o s):f9 (h8 prog w) A (Builtin.Slice.slicePartIndex v) Q E s:=by
 cases p with
 |none=>exact slicePart_none h
 |int i t=>exact slicePart_int h
theorem fP{m:c9}{v u:c5}{l hi:Option Int}{n:Nat}{Q:Int×Int×Nat->f6->Prop}(hs:s.heap.IsSliceOf m v u .none)(p:k9 v l)(d:k9 u hi)(h:Q (((sIx n 0 l:Nat):Int),1,sIx n n hi-sIx n 0 l) s):f9 (h8 prog w) A (RH (.ref m)<|pure (n:Int)) Q E s:=by obtain⟨o,b,c,a⟩:=id hs;unfold RH Builtin.Slice.sliceFields;refine p9<|p9<|LS b a (x:=v) rfl<|p9<|LS b a (x:=u) rfl<|p9<|LS b a (x:=.none) rfl<|t4 ?_;refine p9<|slicePart_none ?_;show f9 _ _ (if ((1:Int)==0)=a9 then _ else _) _ _ s;rw[o4<|by decide];refine p9<|pe p<|p9<|pe d<|p9<|t4 ?_;show f9 _ _ (match Rv l hi 1 (n:Int)with|(l,hi)=>pure (l,(1:Int),QH l hi 1)) _ _ s;rw[yH l hi n];show f9 _ _ (pure (((sIx n 0 l:Nat):Int),(1:Int),QH ((sIx n 0 l:Nat):Int) ((sIx n n hi:Nat):Int) 1)) _ _ s;rw[xR];exact t4 h
theorem CA(xs:Array c5)(i k:Nat):((A7 k).filterMap λ(m:Nat)=>xs[((i:Int)+(m:Int)*1).toNat]?).toArray=((xs.toList.drop i).take k).toArray:=by
 have e:(λ(m:Nat)=>xs[((i:Int)+(m:Int)*1).toNat]?)=λm=>xs[i+m]?:=by
  funext m;have:((i:Int)+(m:Int)*1).toNat=i+m:=by lia
  rw[this]
 rw[e];have:=pick_run xs i k;rw[List.filterMap_map]at this;have l:((λx=>xs[x]?) ∘ λx=>i+x)=λm=>xs[i+m]?:=rfl;rw[l]at this;rw[this]
theorem getItem_tuple_cut{t d:c9}{i:Array c5}{v u:c5}{l hi:Option Int}{Q:c5->f6->Prop}(D:IsTup s.heap t i)(hs:s.heap.IsSliceOf d v u .none)(p:k9 v l)(k:k9 u hi)(g:¬(sIx i.size 0 l=0/\sIx i.size i.size hi=i.size))(h:Q (.ref s.heap.objs.size) { s with heap:=s.heap.push { cls:=.type "tuple",data:=.seq ((i.toList.drop<|sIx i.size 0 l).take<|sIx i.size i.size hi-sIx i.size 0 l).toArray } })(z:i.size<=sizeLine):f9 (h8 prog w) A (l3 (.ref t)<|.ref d) Q E s:=by
 have e:sizeOk (.seq ((i.toList.drop<|sIx i.size 0 l).take<|sIx i.size i.size hi-sIx i.size 0 l).toArray):=by show ((i.toList.drop<|sIx i.size 0 l).take<|sIx i.size i.size hi-sIx i.size 0 l).toArray.size<=sizeLine;rw[y4,G0,Mn,D8];lia
 have L:sIx i.size i.size hi<=i.size:=IY _ _ (u5 _) hi;obtain⟨j,b,c,f⟩:=id hs;have a:s.TypeIs (.ref d) "slice":=⟨j,b,c⟩
 unfold l3
 try with_reducible refine E2 ?_
 first|refine p9 (t4 ?_)|skip
 refine p9<|wpAny_sequenceKey D.typeIs (by decide) ?_;refine p9<|L9 (name:=AA0 "__getitem__") D.typeIs OL<|G8 OL D.typeIs entry_tuple_getitem ?_<|args_tuple_getitem _ _;show f9 _ _ (QI (.ref t) >>= _) _ _ s;refine p9<|tupleItemsOf_ D ?_;refine p9<|My a ?_;rw[o0<|by decide];refine p9<|fP hs p k ?_;have o:¬((((sIx i.size 0 l:Nat):Int)==0&&(1:Int)==1&&(sIx i.size i.size hi-sIx i.size 0 l)==i.size)=a9):=by intro q;rw[D3,D3]at q;have n:((sIx i.size 0 l:Nat):Int)=0:=eq_of_beq q.1.1;have r:sIx i.size i.size hi-sIx i.size 0 l=i.size:=eq_of_beq q.2;exact g ⟨by lia,by lia⟩
 show f9 _ _ (if (((sIx i.size 0 l:Nat):Int)==0&&(1:Int)==1&&(sIx i.size i.size hi-sIx i.size 0 l)==i.size)=a9 then _ else _) _ _ s;rw[o4 o,CA]
 first
  |exact p9 (m:=QE _) (J1 (t4 ⟨_,rfl,t4 h⟩) e)
  |exact p9 (m:=QE _) (J1 (p9 (t4 (t4 ⟨_,rfl,t4 h⟩))) e)
  |exact p9 (p9 (m:=QE _) (J1 (t4 (t4 ⟨_,rfl,t4 h⟩)) e))
  |exact p9 (p9 (m:=QE _) (J1 (t4 ⟨_,rfl,t4 h⟩) e))
end
end HT
namespace L2
open PySem PySem.Spec PyProof.Rows
abbrev TO:=St->Hp->(Option Int->Hp->Prop)->Prop
def PO(X:Cx)(e:Option ge)(t:TO):Prop:=∀(p:List (c9×d5)) (s:f6) (σ:St) (H:Hp) (Q:Option Int->Hp->Prop),q9 X p σ H s->t σ H Q ->f9 (h8 X.prog X.w) X.A (evalPart e X.env) (λu s'=>∃o H',q9 X p σ H' s'/\k9 u o/\Q o H') X.xe s
def FA:TO:=λ_ H Q=>Q a8 H
def tPart(t:TE):TO:=λσ H Q=>t σ H λx a=>∃i,x=.int i/\Q (a7 i) a
section
variable{X:Cx}{e:ge}{te:TE}{lo hi:Option ge}{tl th:TO}{pos p2:i3}
theorem FW:PO X a8 FA:=by intro p s σ H Q I h;rw[evalPart_none];exact t4 ⟨a8,H,I,.none,h⟩
theorem FV(h:PE X e te):PO X (a7 e) (tPart te):=by intro p s σ H Q I w;rw[evalPart_some];refine v4 (h p s σ H _ I w) ?_;rintro u f ⟨x,a,b,r,c⟩;obtain⟨i,rfl,q⟩:=c;obtain⟨t,rfl⟩:=r;exact⟨a7 i,a,b,.int i t,q⟩
def OX(X:Cx)(r:V->Option Int->Option Int->Hp->VK->Prop):Prop:=∀(p:List (c9×d5)) (s:f6) (σ:St) (H:Hp) (x:V) (v a u:c5) (l hi:Option Int) (m:c9) (Q:VK),q9 X p σ H s->aV x v->s.heap.IsSliceOf m a u .none->k9 a l->k9 u hi->r x l hi H Q ->∃T id,typeLookup (.type T) "__getitem__" = pure (a7<|.builtin id)/\s.TypeIs v T/\f9 (h8 X.prog X.w) X.A (l3 v<|.ref m) (EP X p σ Q) X.xe s
def tSl(r:V->Option Int->Option Int->Hp->VK->Prop)(te:TE)(t h:TO):TE:=λσ H Q=>te σ H λx a=>t σ a λl b=>h σ b λu c=>r x l u c Q
theorem CD(y:OX X r)(o:PE X e te)(t:PO X lo tl)(B:PO X hi th):PE X (.Subscript e (.Slice lo hi a8 p2) pos) (tSl r te tl th):=by intro p s σ H Q I h;refine Subscript_<|v4 (o p s σ H _ I h) ?_;rintro v L ⟨x,f,i,K,F⟩;refine wpAny_Slice<|v4 (t p L σ f _ i F) ?_;rintro a M ⟨l,g,j,C,G⟩;refine v4 (B p M σ g _ j G) ?_;rintro c z ⟨u,d,k,E,J⟩;rw[evalPart_none];refine t4 ?_;have m:q9 X p σ d { z with heap:=z.heap.push { cls:=.type "slice",data:=.fields #[a,c,.none] } }:=k.kept (t':=z.toks) λb N q=>v7 _ q;obtain⟨T,id,n,D,S⟩:=y p { z with heap:=z.heap.push { cls:=.type "slice",data:=.fields #[a,c,.none] } } σ d x v a c l u z.heap.objs.size Q m K (Heap.IsSliceOf.new ..) C E J;show f9 (h8 X.prog X.w) X.A (subscriptTail e (.Slice lo hi a8 p2) v<|.ref z.heap.objs.size) (EP X p σ Q) X.xe { z with heap:=z.heap.push { cls:=.type "slice",data:=.fields #[a,c,.none] } };exact tail_any (ops:=[.ref z.heap.objs.size,v]) D n S<|by with_unfolding_all rfl
noncomputable def Fj(xs:List V)(l hi:Option Int):List V:=(xs.drop<|HT.sIx xs.length 0 l).take<|HT.sIx xs.length xs.length hi-HT.sIx xs.length 0 l
theorem nI(xs:List V)(l hi:Option Int):(Fj xs l hi).length<=xs.length:=by unfold Fj;rw[G0,Mn];lia
def rSlT(K:u4):V->Option Int->Option Int->Hp->VK->Prop:=λx l hi H Q=>∃a xs,x=.ref a/\z7 K H a xs /\¬(HT.sIx xs.length 0 l=0/\HT.sIx xs.length xs.length hi=xs.length)/\∀p,H p=a8->Q (.ref p) (v6 H p<|.tup<|Fj xs l hi)
theorem IU:OX X (rSlT X.K):=by
 intro p s σ H x v f i l hi m Q I g hs d u h;obtain⟨a,xs,rfl,c,w,q⟩:=h;cases g;obtain⟨its,r,D,z⟩:=I.tuple c;have n:its.toArray.size=xs.length:=by rw[y4];exact r.length.symm
 refine⟨"tuple",_,OL.lookup,D.typeIs,?_⟩;refine HT.getItem_tuple_cut D hs d u (by rw[n];exact w) ?_ (by rw[n];exact z);rw[n];refine⟨.ref s.heap.objs.size,_,I.laid (t':=s.toks) (o:=.tup<|Fj xs l hi) (λb e q=>v7 _ q) (u5 _) ?_,rfl,q _<|I.hok.fresh<|u5 _⟩;exact⟨C7 (nI xs l hi) z,_,(r.drop<|HT.sIx xs.length 0 l).take<|HT.sIx xs.length xs.length hi-HT.sIx xs.length 0 l,EB.new _ _⟩
def rCatT(K:u4):R2:=λx y H Q=>∃a b xs ys,x=.ref a/\y=.ref b/\z7 K H a xs/\z7 K H b ys/\xs≠[]/\xs.length+ys.length<=sizeLine /\(ys=[]->Q (.ref a) H)/\(ys≠[]->∀p,H p=a8->Q (.ref p) (v6 H p<|.tup<|xs++ys))
theorem av.nil_iff(r:av xs us):us=[]↔xs=[]:=by
 cases r with
 |nil=>simp
 |cons _ _=>simp
theorem Gj:C2 X (j6 .Add) (rCatT X.K):=by intro p s σ H x y v u Q I n t h;obtain⟨a,b,xs,ys,rfl,rfl,f,d,e,c,k,l⟩:=h;cases n;cases t;obtain⟨its,r,g,_⟩:=I.tuple f;obtain⟨i,m,j,_⟩:=I.tuple d;refine HT.cat_tup g j (λz=>e<|r.nil_iff.mp z) (λz=>⟨.ref a,H,I,rfl,k<|m.nil_iff.mp z⟩) (λz=>?_) (by rw[<-r.length,<-m.length];exact c);refine⟨.ref s.heap.objs.size,_,I.laid (t':=s.toks) (o:=.tup<|xs++ys) (λb A q=>v7 _ q) (u5 _) ?_,rfl,l (λw=>z<|m.nil_iff.mpr w) _<|I.hok.fresh<|u5 _⟩;exact⟨by rw[A1];exact c,_,r.append m,EB.new _ _⟩
end
noncomputable def Ms(n:Nat)(i:Int):Option Nat:=if 0<=i then(if i<n then a7 i.toNat else a8)else if -(n:Int)<=i then a7 (i+n).toNat else a8
noncomputable def atI{α:Type}(xs:List α)(i:Int):Option α:=(Ms xs.length i).bind λj=>xs[j]?
theorem AU(h:Ms n i=a7 j):seqIndex? i n=a7 j/\j<n/\-(n:Int)<=i/\i<n:=by unfold Ms at h;by_cases a:0<=i;rw[o0 a]at h;by_cases h1:i<n;rw[o0 h1]at h;have e:i.toNat=j:=A5 h;exact⟨by rw[seqIndex_of a h1,e],by lia,by lia,h1⟩;rw[o4 h1]at h;cases h;rw[o4 a]at h;by_cases h1:-(n:Int)<=i;rw[o0 h1]at h;have e:(i+n).toNat=j:=A5 h;exact⟨by rw[seqIndex_neg (by lia) h1,e],by lia,h1,by lia⟩;rw[o4 h1]at h;cases h
theorem vH{α:Type}{xs:List α}{i:Int}{v:α}(h:atI xs i=a7 v):∃j,seqIndex? i xs.length=a7 j/\xs[j]?=a7 v/\j<xs.length/\-(xs.length:Int)<=i/\i<xs.length:=by
 unfold atI at h;cases e:Ms xs.length i with
 |none=>rw[e]at h;cases h
 |some j=>rw[e]at h;obtain⟨h1,h2,a,f⟩:=AU e;exact⟨j,h1,h,h2,a,f⟩
theorem aF{α:Type}{xs:List α}{j:Nat}{v:α}(h:xs[j]?=a7 v):atI xs (j:Int)=a7 v:=by
 have L:j<xs.length:=(x5.mp h).1;have e:Ms xs.length (j:Int)=a7 j:=by unfold Ms;rw[o0 (by lia),o0<|by lia];simp
 unfold atI;rw[e];exact h
theorem Ey{α:Type}(xs:List α)(v:α):atI (xs++[v]) (-1)=a7 v:=by
 have g:(xs++[v]).length=xs.length+1:=by simp
 have e:Ms (xs++[v]).length (-1)=a7 xs.length:=by unfold Ms;rw[g,o4 (by decide),o0<|by lia];congr 1;lia
 unfold atI;rw[e];show (xs++[v])[xs.length]?=a7 v;simp
def vK(b:ge):Prop:=∀o i,subscripted b bt o i=operate [o,i] (l3 o i)
def Ma(X:Cx)(r:R2):Prop:=∀(a e:ge) (p:List (c9×d5)) (s:f6) (σ:St) (H:Hp) (x y:V) (v u:c5) (Q:VK),q9 X p σ H s->aV x v->aV y u->r x y H Q ->subscripted e bt v u=operate [v,u] (l3 v u)->f9 (h8 X.prog X.w) X.A (subscriptTail a e v u) (EP X p σ Q) X.xe s
def LD(X:Cx)(id:String)(r:V->List V->Hp->VK->Prop):Prop:=∀(p:List (c9×d5)) (s:f6) (σ:St) (H:Hp) (x:V) (xs:List V) (v:c5) (us:List c5) (Q:VK),q9 X p σ H s->aV x v->av xs us->r x xs H Q ->f9 (h8 X.prog X.w) X.A (call (.builtin id)<|v::us) (EP X p σ Q) X.xe s
section
variable{X:Cx}{a b:ge}{ta tb:TE}{pos:i3}
theorem Ma.or(h:Ma X r)(h':Ma X r'):Ma X (λx y H Q=>r x y H Q\/r' x y H Q):=by intro a e p s σ H x y v u Q I g i q hs;rcases q with q|q;exact h a e p s σ H x y v u Q I g i q hs;exact h' a e p s σ H x y v u Q I g i q hs
theorem pe_ix(i:Ma X r)(f:PE X a ta)(d:PE X b tb)(hs:vK b):PE X (.Subscript a b pos) (OM r ta tb):=by intro p s σ H Q I h;exact Subscript_<|binT f d I h λv u w x y c e g j q=>i a b p w σ c x y v u Q e g j q<|hs _ _
def rIxL(K:u4):R2:=λx y H Q=>∃p xs i v,x=.ref p/\y=.int i/\I0 K H p xs/\atI xs i=a7 v/\Q v H
def rIxT(K:u4):R2:=λx y H Q=>∃p xs i v,x=.ref p/\y=.int i/\z7 K H p xs/\atI xs i=a7 v/\Q v H
def rIxS:R2:=λx y H Q=>∃z i c,x=.str z/\y=.int i/\z.length<=sizeLine/\atI z.cps.toList i=a7 c/\Q (.str ⟨#[c]⟩) H
theorem GZ:Ma X (rIxL X.K):=by
 intro c e a s σ H x y v u Q I B C h hs;obtain⟨p,xs,i,z,rfl,rfl,A,m,q⟩:=h;cases B;obtain⟨t,rfl⟩:=C;obtain⟨its,r,l,F⟩:=I.list A;obtain⟨j,h1,h2,D,g,k⟩:=vH m;obtain⟨w,d,b⟩:=r.get h2;have o:=r.length;have E:=pj;have n:EP X a σ Q w s:=⟨z,H,I,b,q⟩
 by_cases f:0<=i;have L:i.toNat=j:=by rw[seqIndex_of f k]at h1;exact A5 h1
 exact item_listR l.isList f (by lia) (by rw[L];simpa using d) n hs;have L:(i+(its.toArray.size:Int)).toNat=j:=by rw[seqIndex_neg (by lia) g]at h1;rw[y4,<-o];exact A5 h1
 exact subscriptTail_builtinR (x:=w) l.isList.typeIs slot_list_getitem.lookup (wpAny_getItem_list_neg (Q:=λr s'=>r=w/\EP X a σ Q r s') l.isList (by lia) (by rw[y4]<;>lia) (by lia) (by rw[L];simpa using d) ⟨rfl,n⟩) hs
theorem Kq:Ma X (rIxT X.K):=by
 intro c e a s σ H x y v u Q I m o h hs;obtain⟨p,xs,i,z,rfl,rfl,k,f,q⟩:=h;cases m;obtain⟨t,rfl⟩:=o;obtain⟨its,r,l,E⟩:=I.tuple k;obtain⟨j,h1,h2,A,B,C⟩:=vH f;obtain⟨w,d,b⟩:=r.get h2;have g:=r.length;have D:=pj;have n:EP X a σ Q w s:=⟨z,H,I,b,q⟩
 exact subscriptTail_builtinR (x:=w) l.typeIs slot_tuple_getitem.lookup (getItem_tuple (j:=j) (Q:=λr s'=>r=w/\EP X a σ Q r s') l (by lia) (by lia) (by rw[y4,<-g];exact h1) (by simpa using d) ⟨rfl,n⟩) hs
theorem Kr:Ma X rIxS:=by
 intro a e p s σ H x y v u Q I r m h hs;obtain⟨z,i,c,rfl,rfl,w,d,q⟩:=h;obtain⟨t,rfl⟩:=r;obtain⟨t',rfl⟩:=m;obtain⟨j,h1,h2,n,f,k⟩:=vH d;have g:z.cps.toList.length=z.length:=by simp[Str.length]
 rw[g]at h1 f k;have o:=pj;exact tail_any (l5 s z t) slot_str_getitem.lookup (getItem_str (c:=c) (by have b:decide (i < -(2 ^ 63:Int))=bt:=dF_ (by lia);have l:decide (i ≥ 2 ^ 63)=bt:=dF_ (by lia);rw[b,l,Bool.or_false]) (by rw[h1];simpa using h2) ⟨.str ⟨#[c]⟩,H,I.tok _,⟨_,rfl⟩,q⟩) hs
def rIx(K:u4):R2:=λx y H Q=>rIxL K x y H Q\/rIxT K x y H Q\/rIxS x y H Q
theorem Ks:Ma X (rIx X.K):=GZ.or<|Kq.or Kr
theorem yb(its:List c5)(n j:Nat)(u:c5):F9 (·.setIfInBounds j u) { cls:=.type "list",data:=.seq its.toArray n }={ cls:=.type "list",data:=.seq (its.set j u).toArray n }:=by simp[F9]
theorem q9.lst(I:q9 X pins σ H s)(h:H p=a7 (.lst xs)):∃(its:List c5) (n:Nat),av xs its/\s.heap.get? p=a7 { cls:=.type "list",data:=.seq its.toArray n }/\xs.length<=sizeLine:=by obtain⟨z,its,n,r,e⟩:=I.hok p _ h;exact⟨its,n,r,e,z⟩
theorem q9.lstUpd{pins:List (c9×d5)}{σ:St}{H:Hp}{s:f6}{p:c9}{xs ys:List V}{its its':List c5}{n a:Nat}{f:d5->d5}(I:q9 X pins σ H s)(h:H p=a7 (.lst xs))(B:s.heap.get? p=a7 { cls:=.type "list",data:=.seq its.toArray n }) (c:f { cls:=.type "list",data:=.seq its.toArray n }={ cls:=.type "list",data:=.seq its'.toArray a }) (r:av ys its') (hz:ys.length<=sizeLine) (t:Nat):q9 X pins σ (v6 H p<|.lst ys) { s with heap:=s.heap.update p f,toks:=t }:=by
 have e:(s.heap.update p f).get? p=a7 { cls:=.type "list",data:=.seq its'.toArray a }:=by rw[LO f B (by rw[c]<;>rfl),c]
 refine I.write (x:=p) (e:=p) (by rw[h];trivial) (.inl rfl) (λb u d q=>(OJ _ _<|w9 d).trans q) ⟨_,e⟩ ?_;exact⟨hz,its',a,r,e⟩
def rSetL:V->V->V->Hp->(Hp->Prop)->Prop:=λo i v H Q=>∃p xs k j,o=.ref p/\i=.int k/\H p=a7 (.lst xs)/\Ms xs.length k=a7 j/\Q (v6 H p<|.lst<|xs.set j v)
theorem Cp:PSet X rSetL:=by
 intro a s σ H o i v C A u Q I w m x h;obtain⟨p,xs,k,j,rfl,rfl,l,L,q⟩:=h;cases w;obtain⟨t,rfl⟩:=m;obtain⟨its,n,r,B,z⟩:=I.lst l;obtain⟨h1,h2,e,f⟩:=AU L;have g:=r.length;have y:=pj;have c:q9 X a σ (v6 H p<|.lst<|xs.set j v) { s with heap:=s.heap.update p (F9 (·.setIfInBounds j u)) }:=I.lstUpd l B (yb its n j u) (r.set x j) (by rw[J7];exact z) s.toks;by_cases d:0<=k;have b:k.toNat=j:=by rw[seqIndex_of d f]at h1;exact A5 h1
 exact PySem.W.ki_setAt B d (by lia) (by rw[y4,<-g];exact f) (by rw[b];exact⟨_,c,q⟩);have b:(k+(its.toArray.size:Int)).toNat=j:=by rw[seqIndex_neg (by lia) e]at h1;rw[y4,<-g];exact A5 h1
 exact PySem.W.ki_setBack B (by lia) (by rw[y4,<-g];exact e) (by lia)<|by rw[b];exact⟨_,c,q⟩
theorem rX(l hi:Option Int)(n:Nat):(l6 l hi a8 n).1=((HT.sIx n 0 l:Nat):Int)/\(l6 l hi a8 n).2.1=((HT.sIx n n hi:Nat):Int)/\(l6 l hi a8 n).2.2=1:=by
 refine⟨?_,?_,rfl⟩;cases l with
 |none=>simp[l6,HT.sIx]
 |some i=>simp only[l6,HT.sIx,Option.getD_none,show (1:Int) > 0 by decide,p6];by_cases h:i<0;simp only[h,p6]<;>lia;simp only[h,p5]<;>lia
 cases hi with
 |none=>simp[l6,HT.sIx]
 |some i=>simp only[l6,HT.sIx,Option.getD_none,show (1:Int) > 0 by decide,p6];by_cases h:i<0;simp only[h,p6]<;>lia;simp only[h,p5]<;>lia
theorem pQ(its:List c5)(l hi:Option Int):slicePick its.toArray l hi a8=((its.drop<|HT.sIx its.length 0 l).take<|HT.sIx its.length its.length hi-HT.sIx its.length 0 l).toArray:=by obtain⟨h1,h2,a⟩:=rX l hi its.toArray.size;unfold slicePick;rw[h1,h2,a];simp only[sliceRange_one,pick_run,y4]<;>rfl
def rSlL(K:u4):V->Option Int->Option Int->Hp->VK->Prop:=λx l hi H Q=>∃a xs,x=.ref a/\I0 K H a xs/\∀p,H p=a8->Q (.ref p) (v6 H p<|.lst<|Fj xs l hi)
theorem FD:OX X (rSlL X.K):=by intro p s σ H x v f i l hi m Q I g hs d u h;obtain⟨a,xs,rfl,c,q⟩:=h;cases g;obtain⟨its,r,D,z⟩:=I.list c;have n:=r.length;refine⟨"list",_,slot_list_getitem.lookup,D.isList.typeIs,?_⟩;refine wpAny_getItem_list_slice D.isList hs d u .none (by simp) ?_ (by rw[y4]<;>lia);rw[pQ,<-n];refine⟨.ref s.heap.objs.size,_,I.laid (t':=s.toks) (o:=.lst<|Fj xs l hi) (λb e q=>v7 _ q) (u5 _) ?_,rfl,q _<|I.hok.fresh<|u5 _⟩;exact⟨C7 (nI xs l hi) z,_,0,(r.drop<|HT.sIx xs.length 0 l).take<|HT.sIx xs.length xs.length hi-HT.sIx xs.length 0 l,z0 _ rfl⟩
theorem tR:ja X (.builtin "len") (λxs H Q=>∃p ys,xs=[.ref p]/\(I0 X.K H p ys\/z7 X.K H p ys)/\Q (.int ys.length) H):=by intro b s σ H xs us Q I r h;obtain⟨p,ys,rfl,a,q⟩:=h;obtain⟨u,rfl,g⟩:=Fy r;cases g;have f:=pj;rcases a with a|a;obtain⟨its,r',l,z⟩:=I.list a;have n:=r'.length;exact Calls.call_len_list l.isList (by simp only[y4]<;>lia) ⟨.int ys.length,H,I.tok _,⟨s.toks+1,by rw[y4,n]⟩,q⟩;obtain⟨its,r',l,z⟩:=I.tuple a;have n:=r'.length;exact len_tuple l (by simp only[y4]<;>lia) ⟨.int ys.length,H,I.tok _,⟨s.toks+1,by rw[y4,n]⟩,q⟩
theorem tQ:ja X (.builtin "len") (λxs H Q=>∃z,xs=[.str z]/\z.length<=sizeLine/\Q (.int z.length) H):=by intro p s σ H xs us Q I r h;obtain⟨z,rfl,b,q⟩:=h;obtain⟨u,rfl,t,rfl⟩:=Fy r;have f:=pj;exact len_str (by lia) ⟨.int z.length,H,I.tok _,⟨_,rfl⟩,q⟩
theorem ja.or(h:ja X f r)(h':ja X f r'):ja X f (λxs H Q=>r xs H Q\/r' xs H Q):=by intro p s σ H xs us Q I a q;rcases q with q|q;exact h p s σ H xs us Q I a q;exact h' p s σ H xs us Q I a q
theorem qC:ja X (.type "tuple") (λxs H Q=>∃p ys,xs=[.ref p]/\((I0 X.K H p ys/\∀l,H l=a8->Q (.ref l) (v6 H l<|.tup ys))\/(z7 X.K H p ys/\Q (.ref p) H))):=by
 intro a s σ H xs us Q I r h;obtain⟨p,ys,rfl,h⟩:=h;obtain⟨u,rfl,x⟩:=Fy r;cases x;rcases h with⟨c,q⟩|⟨c,q⟩
 obtain⟨its,r',d,z⟩:=I.list c;have n:=r'.length;refine call_tuple_list d.isList (λh' k=>?_) (by simp only[y4]<;>lia);have f:q9 X a σ H { s with heap:=h' }:=I.kept (t':=s.toks) k;have g:q9 X a σ (v6 H h'.objs.size<|.tup ys) { s with heap:=h'.push { cls:=.type "tuple",data:=.seq its.toArray } }:=f.laid (t':=s.toks) (λb o e=>v7 _ e) (u5 _)<|show cH X.prog X.w _ _ _ (.tup ys)from⟨z,its,r',EB.new _ _⟩;exact⟨.ref h'.objs.size,_,g,rfl,q _<|f.hok.fresh<|u5 _⟩;obtain⟨its,r',d,z⟩:=I.tuple c;exact call_tuple_same d ⟨.ref p,H,I,rfl,q⟩
def QQ(K:u4)(T:String)(x:V)(H:Hp):Prop:=match x with
 |.str _=>T = "str"
 |.int _=>T = "int"
 |.ref p=>(T = "list"/\∃xs,I0 K H p xs)\/(T = "tuple"/\∃o,K.lookup p=a7 o/\o.cls=.type "tuple"/\o.dict=a8) \/(T = "dict"/\((∃s,H p=a7 (.dK s))\/∃s,H p=a7 (.dT s)))\/(T = "set"/\∃S n,H p=a7 (.set S n))
 |_=>False
theorem ED(I:q9 X pins σ H s)(r:aV x v)(y:QQ X.K T x H):s.TypeIs v T/\∀a,v=.ref a->∃ob,s.heap.get? a=a7 ob/\ob.dict=a8:=by
 cases x with
 |str z=>obtain⟨t,rfl⟩:=r;cases (show T = "str" from y);exact⟨l5 s z t,λ_ e=>nomatch e⟩
 |int i=>obtain⟨t,rfl⟩:=r;cases (show T = "int" from y);exact⟨typeIs_int s i t,λ_ e=>nomatch e⟩
 |ref p =>
  cases r;rcases y with⟨rfl,xs,q⟩|⟨rfl,o,k,h,d⟩|⟨rfl,k⟩|⟨rfl,S,n,k⟩
  obtain⟨its,_,g,_⟩:=I.list q;refine⟨g.isList.typeIs,λa e=>?_⟩;cases e;obtain⟨o,n,e,c,d,_⟩:=g;exact⟨o,e,d⟩;refine⟨⟨o,I.kIn p o k,h⟩,λa e=>?_⟩;cases e;exact⟨o,I.kIn _ o k,d⟩;have z:∃o,s.heap.get? p=a7 o/\o.ExactDict:=by
   rcases k with⟨f,k⟩|⟨f,k⟩
   obtain⟨_,_,_,_,o,_,_,e,b,_⟩:=I.hok p _ k;exact⟨o,e,b⟩;obtain⟨_,_,_,_,o,_,_,e,b,_⟩:=I.hok p _ k;exact⟨o,e,b⟩
  obtain⟨o,e,b⟩:=z;refine⟨⟨o,e,b.1⟩,λa l=>?_⟩;cases l;exact⟨o,e,b.2.1⟩;obtain⟨o,_,_,_,e,b,_⟩:=I.hok p _ k;refine⟨⟨o,e,b.1⟩,λa l=>?_⟩;cases l;exact⟨o,e,b.2.1⟩
 |_=>exact MM y
def tBM0(K:u4)(T:String)(r:V->List V->Hp->VK->Prop)(e:TE):TE:=λσ H Q=>e σ H λx a=>QQ K T x a/\r x [] a Q
def tBM(K:u4)(T:String)(r:V->List V->Hp->VK->Prop)(e:TE)(t:TA):TE:=λσ H Q=>e σ H λx a=>QQ K T x a/\t σ a λxs b=>r x xs b Q
variable{o e:ge}{es:List ge}{to:TE}{t:TA}{name:c6}{apos cpos:i3}{T id:String}{r:V->List V->Hp->VK->Prop}
theorem Jv(f:PlainAttrs T)(slot:Slot T name id)(y:l7 (.builtin id)=pure (.type "method_descriptor"))(m:LD X id r)(B:PE X o to)(e:l8 o name X.env (eval o X.env)=eval o X.env:=by rfl) (a:(apos.endLine==cpos.line)=a9:=by rfl):PE X (.Call (.Attribute o name apos) [] [] cpos) (tBM0 X.K T r to):=by intro p s σ H Q I h;refine Rk e a<|v4 (B p s σ H _ I h) ?_;rintro v g ⟨x,d,b,c,t,q⟩;obtain⟨h1,h2⟩:=ED b c t;exact⟨T,id,f,slot,y,h1,h2,OI rfl<|Q4<|m p g σ d x [] v [] Q b c .nil q⟩
theorem Jw(q:PlainAttrs T)(slot:Slot T name id)(y:l7 (.builtin id)=pure (.type "method_descriptor"))(l:LD X id r)(B:PE X o to)(k:PA X (e::es) t)(b:l8 o name X.env (eval o X.env)=eval o X.env:=by rfl)(w:((i4 cpos<|i5 (e::es) X.env).all (λx=>!x.1)&&(l9 cpos<|m3 [] X.env).all (λx=>x.1.isSome) && decide ((e::es).length+([]:List k6).length+(if ([]:List k6).isEmpty then 0 else 1)<30))=a9:=by rfl)(c:(apos.endLine==cpos.line)=a9:=by rfl) (hs:i5 (e::es) X.env=(bt,eval e X.env)::i5 es X.env:=by rfl) (n:(i4 cpos<|i5 es X.env).any (·.1)=bt:=by rfl):PE X (.Call (.Attribute o name apos) (e::es) [] cpos) (tBM X.K T r to t):=by intro p s σ H Q I h;refine Rb b w c rfl<|v4 (B p s σ H _ I h) ?_;rintro v D ⟨x,g,d,f,F,u⟩;obtain⟨h1,h2⟩:=ED d f F;refine⟨T,id,q,slot,y,h1,h2,?_⟩;have A:=k cpos p D σ g _ d u;rw[hs]at A ⊢;refine OI (by show (bt||(i4 cpos<|i5 es X.env).any (·.1))=bt;rw[n]<;>rfl)<|Q5 ?_;refine v4 A ?_;rintro us E ⟨vs,i,j,C,z⟩;exact l p E σ i x vs v us Q j f C z
/- xs.append(e),list.index on a module's tuple .. are LD facts of 06m -/
end
def QX(X:Cx)(id:String)(r:V->List V->Hp->VK->Prop):Prop:=∀(p:List (c9×d5)) (s:f6) (σ:St) (H:Hp) (x:V) (xs:List V) (v:c5) (us:List c5) (Q:VK),q9 X p σ H s->aV x v->av xs us->r x xs H Q ->f9 (h8 X.prog X.w) X.A (call (.builtin id)<|v::us) (EP X p σ Q) X.xe s
theorem av.one(h:av [x] us):∃u,us=[u]/\aV x u:=by
 cases h with
 |cons r t=>cases t;exact⟨_,rfl,r⟩
theorem av.two(h:av [x,y] us):∃u v,us=[u,v]/\aV x u/\aV y v:=by
 cases h with
 |cons r t=>obtain⟨v,e,q⟩:=av.one t;subst e;exact⟨_,v,rfl,r,q⟩
theorem av.zero:∀{us:List c5},av [] us->us=[]
 |_,.nil=>rfl
theorem av.reverse(h:av xs us):av xs.reverse us.reverse:=by
 induction h with
 |nil=>exact .nil
 |cons r t i=>rw[Qj,Qj];exact av.append i<|.cons r .nil
section
variable{X:Cx}{pins:List (c9×d5)}{σ:St}{H:Hp}{s:f6}{l b:c9}{xs ys zs:List V}
theorem q9.lset{its its':List c5}{n:Nat}{f:Array c5->Array c5}{t':Nat}(I:q9 X pins σ H s)(h:H l=a7 (.lst xs))(e:s.heap.get? l=a7 { cls:=.type "list",data:=.seq its.toArray n }) (a:f its.toArray=its'.toArray) (c:av ys its') (hz:ys.length<=sizeLine):q9 X pins σ (v6 H l<|.lst ys) { s with heap:=s.heap.update l<|F9 f,toks:=t' }:=by have q:=PySem.IsL.update e f;rw[a]at q;refine I.write (x:=l) (e:=l) (by rw[h];exact trivial) (.inl rfl) (λb u d g=>(OJ s.heap (F9 f)<|w9 d).trans g) ⟨_,q⟩ ?_;exact⟨hz,its',_,c,q⟩
theorem q9.lnew(I:q9 X pins σ H s)(c:av ys its)(hz:ys.length<=sizeLine):q9 X pins σ (v6 H s.heap.objs.size<|.lst ys) { s with heap:=s.heap.push { cls:=.type "list",data:=.seq its.toArray },toks:=t' }:=I.laid (λ_ _ q=>v7 _ q) (u5 _) ⟨hz,its,0,c,z0 _ rfl⟩
theorem q9.fresh(I:q9 X pins σ H s):H s.heap.objs.size=a8:=I.hok.fresh<|u5 _
theorem q9.lstM(I:q9 X pins σ H s)(h:H l=a7 (.lst xs)):xs.length<=sizeLine/\∃(its:List c5) (n:Nat),av xs its/\xs.length=its.length/\s.heap.get? l=a7 { cls:=.type "list",data:=.seq its.toArray n }:=by obtain⟨z,its,n,r,e⟩:=I.hok l _ h;exact⟨z,its,n,r,r.length,e⟩
theorem CV(h:n<=sizeLine):Rq n=bt:=by unfold Rq;exact dF_<|by lia
end
section
variable{X:Cx}
def FL:V->List V->Hp->VK->Prop:=λx vs H Q=>∃l xs y,x=.ref l/\vs=[y]/\H l=a7 (.lst xs)/\xs.length<sizeLine/\Q .non (v6 H l<|.lst<|xs++[y])
theorem As:QX X "list.append" FL:=by intro p s σ H x vs v us Q I g d h;obtain⟨l,xs,y,rfl,rfl,a,c,q⟩:=h;cases g;obtain⟨u,rfl,R⟩:=d.one;obtain⟨z,its,n,r,b,e⟩:=I.lstM a;refine m5 F.slot_list_append ⟨_,e,rfl⟩ F.entry_list_append (F.args_list_append_2 _ _) (PySem.list_append l its.toArray n u<|by rw[y4];lia) ⟨e,?_⟩;refine⟨.non,_,I.lset (its':=its++[u]) a e (by simp) (r.append<|.cons R .nil) ?_,rfl,q⟩;rw[A1,K0];lia
def FK:V->List V->Hp->VK->Prop:=λx vs H Q=>∃l b xs s,x=.ref l/\vs=[.ref b]/\H l=a7 (.lst xs)/\H b=a7 (.lst s)/\xs.length+s.length<=sizeLine/\Q .non (v6 H l<|.lst<|xs++s)
theorem Ar:QX X "list.extend" FK:=by
 intro p s σ H x vs v us Q I k j h;obtain⟨l,b,xs,A,rfl,rfl,c,B,w,q⟩:=h;cases k;obtain⟨u,rfl,R⟩:=j.one;cases R;obtain⟨z,its,n,r,t,e⟩:=I.lstM c;obtain⟨y,i,o,m,f,d⟩:=I.lstM B;have a:its.toArray.size+i.toArray.size<=sizeLine:=by rw[y4,y4];lia
 have g:¬(!its.toArray.isEmpty&&Rq (its.toArray.size+i.toArray.size))=a9:=by rw[CV a,P0];exact MF
 refine m5 F.slot_list_extend ⟨_,e,rfl⟩ F.entry_list_extend (F.args_list_extend_2 _ _) (AutoSeq1.list_extend_list_list_0 l its.toArray n b i.toArray o g (by rw[y4];lia)<|by lia) ⟨e,d,?_⟩;refine⟨.non,_,I.lset (its':=its++i) c e (by simp) (r.append m) ?_,rfl,q⟩;rw[A1];lia
def Cv:V->List V->Hp->VK->Prop:=λx vs H Q=>∃l xs,x=.ref l/\vs=[]/\H l=a7 (.lst xs)/\Q .non (v6 H l<|.lst xs.reverse)
theorem xY:QX X "list.reverse" Cv:=by intro p s σ H x vs v us Q I g d h;obtain⟨l,xs,rfl,rfl,b,q⟩:=h;cases g;have a:=d.zero;subst a;obtain⟨z,its,n,r,c,e⟩:=I.lstM b;refine m5 F.slot_list_reverse ⟨_,e,rfl⟩ F.entry_list_reverse (F.args_list_reverse_1 _) (AutoSeq1.list_reverse_list_0 l its.toArray n<|by rw[y4];lia) ⟨e,?_⟩;refine⟨.non,_,I.lset (its':=its.reverse) b e (by simp) r.reverse ?_,rfl,q⟩;rw[List.length_reverse];lia
def rCat:R2:=λx y H Q=>∃l b xs s,x=.ref l/\y=.ref b/\H l=a7 (.lst xs)/\H b=a7 (.lst s)/\xs.length+s.length<=sizeLine/\∀p,H p=a8->Q (.ref p) (v6 H p<|.lst<|xs++s)
theorem JE:C2 X (j6 .Add) rCat:=by
 intro p s σ H x y v u Q I g j h;obtain⟨l,b,xs,A,rfl,rfl,d,B,o,q⟩:=h;cases g;cases j;obtain⟨z,its,n,r,k,e⟩:=I.lstM d;obtain⟨w,i,t,m,f,a⟩:=I.lstM B;refine PySem.P.add_list e a ?_ (by rw[y4,y4];lia);have c:its.toArray++i.toArray=(its++i).toArray:=by simp
 rw[c];exact⟨.ref _,_,I.lnew (t':=s.toks) (r.append m) (by rw[A1];lia),rfl,q _ I.fresh⟩
end
end L2
namespace Att
open PySem PySem.W PySem.Calls PyProof.Rows
theorem nC:∀(ns:List Int) (vs:List c5),WellAll P h vs (ns.map WData.int)->IntsAre vs ns:=by
 intro ns;induction ns with
 |nil=>intro vs w;rw[O7]at w;cases w;exact .nil
 |cons n ns i =>
  intro vs w;rw[C0]at w;cases w with
  |cons a b=>cases a;exact .cons _ _<|i _ b
theorem zK{l:OpenLaw}{n:Nat}(o:l.most=a7 n){P:Params}{h:d6}{args:List WData}{s:List c5}(e:l.row.toRowW.claim.pre args=a9) (i:WellAll P h s args):∃a vs ns,s=[E1 a]/\args=[WData.list<|ns.map WData.int]/\h.get? a=a7 { cls:=.type "list",data:=.seq vs.toArray }/\IntsAre vs ns/\ns.length<=n:=by
 have g:WShape.hasAll [] args [.list .int]=a9:=(pre_splitW e).1;have j:l.pre.holds [] { args:=args }=a9:=(pre_splitW e).2;obtain⟨d,r,rfl,h1,h2⟩:=hasAllW_cons g;obtain rfl:=hasAllW_nil h2;obtain⟨xs,rfl,m⟩:=hasW_list h1;obtain⟨ns,rfl⟩:=items_int m;have c:ns.length<=n:=by
  unfold OpenLaw.pre at j;have f:(WTm.not<|.lt (.lit<|.int (n:Int))<|.len<|.arg 0).holds [] { args:=[.list<|ns.map .int] }=a9:=by have f:=(holds_andW j).1;rw[o]at f;exact f
  have k:=condW_of f<|w_not<|w_lt w_lit<|w_len_list<|w_arg rfl;rw[u6]at k;refine Nat.le_of_not_lt λq=>?_;have p:(n:Int)<((ns.length:Nat):Int):=by lia
  first
   |(rw[dT_ p]at k;exact o5 k (by decide))
   |(simp at k;lia)
 cases i with
 |cons L w =>
  cases w;cases L with
  |list B b=>exact⟨_,_,ns,rfl,rfl,B,nC ns _ b,c⟩
theorem zT(l:OpenLaw)(args:List WData):l.row.toRowW.claim.post args (.bool a9) args=a9:=postW_of (r:=l.row.toRowW) (X:=(a9==a9))
  (show WShape.has [] (.bool a9) .bool=a9 by first|rfl|decide|simp[WShape.has,WShape.arms,WShape.armsAll])
  (show (WTm.eq .res<|.lit<|.bool a9).value [] { args:=args,res:=a7<|.bool a9,after:=args }=a7 (.bool<|a9==a9)from w_eq_bool (w_res rfl) w_lit) rfl
theorem attach_call{l:OpenLaw}{n:Nat}{q:c8}{e:List c6}{P:(c6->Option c5)->d6->Prop}{YP:c7->d6->Prop}{d:DefRec}(A:l.most=a7 n) (i:d.params.defaults=[])(c:∀(w:c7) (s₀ s₁:f6) (mg mb:c6->Option c5) (fa:c9) (o:d5) (pm cd doc:c5) (a:c9) (vs:List c5) (ns:List Int),Ground q e [] P w s₀ mg mb s₁.heap->YP w s₁.heap -> s₁.heap.get? fa=a7 o->o.data=.func (docDef d.name d.params d.body d.scope pm cd doc)->s₁.heap.CodeRec cd d.name->mg d.name=a7 (.ref fa) ->s₁.heap.get? a=a7 { cls:=.type "list",data:=.seq vs.toArray }->IntsAre vs ns->ns.length<=n->s₁.gens = #[] ->k5 (h8 l.prog w) callerA (.call (.ref fa) ⟨[.ref a],[]⟩) (λr s'=>r=.ok (.ret<|.bool a9)/\OldK s₁.heap s'.heap/\s'.os=s₁.os/\f8 s'.gens) s₁):WalkO q e P YP l.row.toRowW d [] (λf vs=>PySem.call f vs):=by intro w s₀ s₁ mg mb G Y fa o pm cd doc T kV B u g D k S O v F b y E m x;obtain rfl:T=.none:=Dflts.none D i;obtain rfl:kV=.none:=Dflts.noKw D;obtain⟨a,vs,ns,rfl,rfl,j,s,h⟩:=zK A b m;refine enter_call<|NP (c w s₀ s₁ mg mb fa o pm cd doc a vs ns G Y B (fd_plain u) g k j s h S) λr s' C=>?_;obtain⟨rfl,h2,p,t⟩:=C;exact⟨.inl ⟨.bool a9,.bool a9,[],rfl,λ_=>rfl,.bool a9,zT l _,λ_=>⟨Pp,λ_ z=>(nomatch z)⟩⟩,h2,p,t⟩
section
variable{prog:c8}{w:c7}{A:e9}{E:c5->f6->Prop}{s:f6}{K:Frag}
noncomputable def noObjs(h:d6):d6:={ h with objs:=#[] }
theorem noObjs_get(h:d6)(b:c9):(noObjs h).get? b=a8:=by
 cases e:(noObjs h).get? b with
 |none=>rfl
 |some o=>exact o5 (v9 e)<|MY _
noncomputable def ledger(h:d6)(L d:c9):List (c9×d5):=(A7 h.objs.size).filterMap λa=>if a=L\/a=d then a8 else(h.get? a).map λo=>(a,o)
theorem mem_ledger:(a,o)∈ledger h L d↔a≠L/\a≠d/\h.get? a=a7 o:=by unfold ledger;rw[OG];constructor;rintro⟨b,_,e⟩;split at e;cases e;rename_i c;obtain⟨g,B,f⟩:=Me.mp e;cases f;exact⟨λq=>c<|.inl q,λq=>c<|.inr q,B⟩;rintro⟨n1,n2,B⟩;refine⟨a,G4.mpr<|v9 B,?_⟩;rw[o4<|show ¬(a=L\/a=d)from λq=>q.elim n1 n2,B]<;>rfl
theorem news_ledger(b:d≠L)(B:h.get? d=a7 od):News (noObjs h) L h ([]++(d,od)::ledger h L d):=by rintro⟨a,o⟩ p;rcases x6.mp p with e|p;cases e;exact⟨B,b,noObjs_get _ _⟩;obtain⟨n,c,e⟩:=mem_ledger.mp p;exact⟨e,n,noObjs_get _ _⟩
theorem fr_all(n:h.Ns L m):Fr (noObjs h) L h m:=⟨n,λb o e=>(by rw[noObjs_get]at e;cases e),z8 _⟩
end
end Att
namespace L2
open PySem PySem.Spec PyProof.Rows
theorem qT:∀{vs:List c5}{ns:List Int},IntsAre vs ns->av (ns.map V.int) vs
 |_,_,.nil=>.nil
 |_,_,.cons n t h=>.cons ⟨t,rfl⟩<|qT h
noncomputable abbrev KOf{K:u4}{h:d6}(_:K.In h):u4:=K
noncomputable def iX(s:i6):Arguments:=match s with
 |.FunctionDef _ a _ _ _ _ _ _ _ _=>a
 |_=>{ posonlyargs:=[],args:=[],vararg:=a8,kwonlyargs:=[],kw_defaults:=[],kwarg:=a8,defaults:=[] }
noncomputable def bU(s:i6):List i6:=match s with
 |.FunctionDef _ _ b _ _ _ _ _ _ _=>b
 |_=>[]
noncomputable def au(s:i6):f7:=match s with
 |.FunctionDef _ _ _ _ _ _ sc _ _ _=>sc
 |_=>{ kind:=.function,names:=[],isGenerator:=bt,isCoroutine:=bt }
abbrev F8:Nc:=λ_ _ _ _ _ _=>False
abbrev E0:XK:=λ_ _ _=>False
theorem pass0:BO F8 X E0:=λ_ _ _ _ _ _ _ h=>h.elim
structure Mw(K:u4)(x qual:c6)(st:i6)(f:c9)(fd:k4):Prop where
 ex:∃(oc:c5) (od:Option c9) (kV doc pm:c5) (an:Option c9) (cdv ct:c5) (osl:Array (Option c5)),fd=Nf x qual (iX st) (bU st) (au st) .none kV doc pm an cdv ct/\K.lookup f=a7 ⟨oc,od,.func fd,osl⟩/\P3 K cdv qual=a9
 kp:Nv K (.ref f)=a9
section
variable{P:c8}{w:c7}{K:u4}{mg:c6->Option c5}{base:d6}
theorem Mw.ok{x l:c6}{st:i6}{f:c9}{a:k4}{N ps:List c6}{k:Nat}{sp:Sp}(F:Mw K x l st f a)(S:FnScope N ps (au st))(B:∀vs H Q E,sp vs H Q E->vs.length=ps.length)(y:∀(cdv:c5) (A:e9) (outer:List Env) (s:f6) (H:Hp) (vs:List V) (Q:VK) (E:XK),Room k (A.deeper<|k8 l (au st) s.heap.objs.size f cdv)->sp vs H Q E -> ∃t,J3 (tO F8 P w K mg base N l (au st) f cdv A outer s H E).nox (bU st) t/\t { nx:=λ_ H'=>Q .non H',rt:=Q } (start N vs) H):FnOk P w K mg base F8 (k+1) f a ps sp:=by obtain⟨oc,j,kV,i,U,M,cdv,R,G,rfl,b,d⟩:=F.ex;refine KN b d S B λA outer s H vs Q E r z=>?_;obtain⟨t,h,q⟩:=y cdv A outer s H vs Q E r z;exact⟨t,h.nox,q⟩
theorem Mw.binds{x l:c6}{st:i6}{f:c9}{d:k4}{ps:List c6}(F:Mw K x l st f d)(h:∀(kV doc pm:c5) (an:Option c9) (cdv ct:c5) (us:List c5),us.length=ps.length->bindArgs (Nf x l (iX st) (bU st) (au st) .none kV doc pm an cdv ct) ⟨us,[]⟩=pure (ps.zip us)):ua K d ps []:=by obtain⟨oc,j,kV,doc,pm,an,cdv,ct,G,rfl,b,a⟩:=F.ex;exact .all<|h kV doc pm an cdv ct
theorem KL{x q:c6}{st:i6}{f:c9}{oc:c5}{j M:Option c9}{G:Array (Option c5)}{kV i U v R:c5}(l:K.lookup f=a7 ⟨oc,j,.func<|Nf x q (iX st) (bU st) (au st) .none kV i U M v R,G⟩)(c:P3 K v q=a9) (k:Nv K (.ref f)=a9):Mw K x q st f (Nf x q (iX st) (bU st) (au st) .none kV i U M v R):=⟨⟨oc,j,kV,i,U,M,v,R,G,rfl,l,c⟩,k⟩
end
theorem aA(h:n<=1000):n<sizeLine:=Nat.lt_of_le_of_lt h<|by decide
section
variable{X:Cx}
theorem pv(i:Nat)(h:X.N[i]?=a7 x:=by rfl)(c:NL X.env.scope x:=by first|exact Or.inl rfl|exact Or.inr (Or.inl rfl)|exact Or.inr<|Or.inr rfl)(a:(x==("__debug__":c6))=bt:=by decide)(d:(x==("__classdict__":c6))=bt:=by decide):PE X (.Name x pos) (tVar i):=EQ h c a d
end
theorem bq{A B:Prop}(h:B):if bt=a9 then A else B:=by rw[o4 MF];exact h
theorem bA{A B:Prop}(h:A):if a9=a9 then A else B:=by rw[o0 rfl];exact h
section
variable{κ:Type}[DecidableEq κ]
noncomputable def vQ(kvs:List (κ×V))(k:κ):Option V:=(kvs.find? λv=>decide<|v.1=k).map (·.2)
noncomputable def putK(kvs:List (κ×V))(k:κ)(v:V):List (κ×V):=if (kvs.any λa=>decide<|a.1=k)=a9 then kvs.map (λa=>if a.1=k then(a.1,v)else a)else kvs++[(k,v)]
theorem vP{p:κ×V}{r:List (κ×V)}{k:κ}(e:p.1=k):vQ (p::r) k=a7 p.2:=by simp[vQ,L4,e]
theorem pK{p:κ×V}{r:List (κ×V)}{k:κ}(e:¬p.1=k):vQ (p::r) k=vQ r k:=by simp[vQ,L4,e]
theorem BS.getD(r:BS o u)(a:aV d d'):aV (o.getD d) (u.getD d'):=by
 cases o with
 |none=>cases u with
  |none=>exact a
  |some _=>exact(show False from r).elim
 |some _=>cases u with
  |none=>exact(show False from r).elim
  |some _=>exact r
theorem KV.val{kvs:List (κ×V)}{vs:List (κ×c5)}(r:KV kvs vs)(k:κ):BS (vQ kvs k) (valueAt vs k):=by
 unfold KV at r;induction r with
 |nil=>exact Nq
 |@cons p q ps qs h t i =>
  obtain⟨h1,h2⟩:=h;by_cases e:p.1=k;have a:q.1=k:=h1.symm.trans e;have b:valueAt (q::qs) k=a7 q.2:=by simp[valueAt,L4,a]
  rw[vP e,b];exact h2;have a:¬q.1=k:=λz=>e<|h1.trans z;have b:valueAt (q::qs) k=valueAt qs k:=by simp[valueAt,L4,a]
  rw[pK e,b];exact i
theorem KV.any(r:KV kvs vs)(k:κ):(kvs.any λkv=>decide<|kv.1=k)=vs.any λkv=>decide (kv.1=k):=by
 unfold KV at r;induction r with
 |nil=>rfl
 |cons h t i=>rw[Pc,Pc,i,h.1]
theorem KV.repl(r:KV kvs vs)(k:κ)(a:aV y u):KV (kvs.map λkv=>if kv.1=k then(kv.1,y)else kv) (vs.map λkv=>if kv.1=k then(kv.1,u)else kv):=by
 unfold KV at r ⊢;induction r with
 |nil=>exact .nil
 |@cons p q ps qs h t i=>rw[C0,C0];refine .cons ?_ i;obtain⟨h1,h2⟩:=h;by_cases e:p.1=k;rw[o0 e,o0<|h1.symm.trans e];exact⟨h1,a⟩;rw[o4 e,o4<|λz=>e<|h1.trans z];exact⟨h1,h2⟩
theorem KV.put(r:KV kvs vs)(k:κ)(i:aV y u):KV (putK kvs k y) (stored vs k u):=by unfold putK stored;rw[r.any k];by_cases e:(vs.any λv=>decide<|v.1=k)=a9;rw[o0 e,o0 e];exact r.repl k i;rw[o4 e,o4 e];exact Paired.snoc r ⟨rfl,i⟩
theorem KV.length(r:KV kvs vs):kvs.length=vs.length:=Paired.length r
end
theorem AT(r:aV (kV k) u):(bR P w).is k u=a9:=by
 cases k with
 |inl i=>obtain⟨t,e⟩:=(show ∃t,u=Value.int i t from r);subst e;exact uR P w i t
 |inr x=>obtain⟨t,e⟩:=(show ∃t,u=Value.str x t from r);subst e;exact uQ P w x t
theorem sX:∀{ks:List C9}{us:List c5},av (ks.map kV) us->ItemsAre (bR P w) ks us
 | [],_,r=>by rw[O7]at r;cases r;exact .nil
 |k::ks,_,r=>by
  rw[C0]at r;cases r with
  |cons h t=>exact .cons (AT h)<|sX t
abbrev KT(H:Hp):List (List C9×V)->List (List C9×c9×c5)->Prop:=Paired λp q=>p.1=q.1/\H q.2.1=a7 (.tup<|p.1.map kV)/\aV p.2 q.2.2
theorem KT.val{H:Hp}{kvs:List (List C9×V)}{xs:List (List C9×c9×c5)}(r:KT H kvs xs)(k:List C9):BS (vQ kvs k) ((atKey xs k).map (·.2)):=by
 induction r with
 |nil=>exact Nq
 |@cons p q ps qs h t i =>
  obtain⟨h1,_,h2⟩:=h;by_cases e:p.1=k;have a:q.1=k:=h1.symm.trans e;have b:atKey (q::qs) k=a7 q.2:=by simp[atKey,L4,a]
  rw[vP e,b];exact h2;have a:¬q.1=k:=λz=>e<|h1.trans z;have b:atKey (q::qs) k=atKey qs k:=by simp[atKey,L4,a]
  rw[pK e,b];exact i
section
variable{P:c8}{w:c7}{H:Hp}{h:d6}{a:c9}
theorem Jb(ok:D0 P w H h)(e:Rd H a u):cH P w H h a u:=e.ok ok
theorem HJ(ok:D0 P w H h)(e:Rd H a (.dK kvs)):kvs.length<=sizeLine/\(a==d7)=bt/\∃vs,KV kvs vs/\h.DictOf (bR P w) a vs:=show cH P w H h a (.dK kvs)from Jb ok e
theorem HK(ok:D0 P w H h)(e:H a=a7 (.dK kvs)):kvs.length<=sizeLine/\(a==d7)=bt/\∃vs,KV kvs vs/\h.DictOf (bR P w) a vs:=HJ ok<|.inl e
theorem Ff(ok:D0 P w H h)(e:H a=a7 (.tup<|ks.map kV)):(tupleKind<|bR P w).is h ks a:=by
 obtain⟨_,its,r,o,h1,h2,⟨n,b⟩,_⟩:=(show cH P w H h a (.tup<|ks.map kV)from ok a _ e)
 exact⟨o,its.toArray,n,h1,h2,b,by simpa using sX r⟩
theorem KY(ok:D0 P w H h)(e:Rd H a (.dT kvs)):kvs.length<=sizeLine/\(a==d7)=bt /\∃xs,KT H kvs xs/\h.DictOfH (tupleKind<|bR P w) a xs:=by
 obtain⟨z,y,xs,r,o,es,i,h1,h2,f,g,k⟩:=(show cH P w H h a (.dT kvs)from Jb ok e)
 refine⟨z,y,xs,r,o,es,i,h1,h2,f,g,λx b=>?_,k⟩;have c:∀{l:List (List C9×V)}{m:List (List C9×c9×c5)},KT H l m->∀x∈m,(tupleKind<|bR P w).is h x.1 x.2.1:=by
  intro l m q;induction q with
  |nil=>intro x b;exact nomatch b
  |@cons p q ps qs d t j=>intro x b;rcases x6.mp b with e|b;subst e;exact Ff ok (by rw[<-d.1];exact d.2.1);exact j x b
 exact c r x b
end
def DGet(H:Hp)(a:c9)(y:V)(r:Option V):Prop:=(∃s k,Rd H a (.dK s)/\y=kV k/\r=vQ s k)\/∃s k b,Rd H a (.dT s)/\y=.ref b/\H b=a7 (.tup<|k.map kV)/\r=vQ s k
section
variable{X:Cx}{pins:List (c9×d5)}{σ:St}{H:Hp}{s:f6}{a:c9}{y v:V}{u r:c5}{o:Option V}{A:e9}{E:c5->f6->Prop}
theorem q9.big(I:q9 X pins σ H s):d7<s.heap.objs.size:=by have h:d9<s.heap.objs.size:=(I.mod.glob.keeps I.bk).lt;exact O6 (by decide) h
theorem Br(x:A.units+1<j9)(I:q9 X pins σ H s)(g:DGet H a y (a7 v))(n:aV y u)(h:∀w' s',q9 X pins σ H s'->aV v w'->Q w' s'):f9 (h8 X.prog X.w) A (l3 (.ref a) u) Q E s:=by
 rcases g with⟨m,k,e,f,l⟩|⟨m,k,b,e,f,L,l⟩
 subst f;obtain⟨z,q,vs,r,d⟩:=HJ I.hok e;obtain⟨w',j,c⟩:=BS.some_of (v:=v) (o:=valueAt vs k) (by rw[l];exact r.val k);exact wpAny_getItem_of (AT n) d.mapOf j<|h w' _ (I.tok _) c;subst f;cases (show u=E1 b from n);obtain⟨z,q,xs,r,d⟩:=KY I.hok e;obtain⟨w',j,c⟩:=BS.some_of (v:=v) (o:=(atKey xs k).map (·.2)) (by rw[l];exact r.val k);obtain⟨p,t,i⟩:=Me.mp j;refine wpAny_getItem_heap (tupleKind_room_in1 x) (Ff I.hok L) d t ?_;rw[i];exact h w' _ (I.tok _) c
theorem Bq(I:q9 X pins σ H s)(m:O0 (H a))(hs:Mz a s.heap h')(i:∃q,h'.get? a=a7 q)(n:cH X.prog X.w (v6 H a ob) h' a ob):q9 X pins σ (v6 H a ob) { s with heap:=h',toks:=t' }:=I.write (x:=a) (e:=a) m (.inl rfl) (λb q d z=>(hs.2 b d).trans z) i n
theorem Fi(z:kvs.length<=sizeLine)(d:(a==d7)=bt)(r:KV kvs vs)(k:h'.DictOf (bR P w) a vs):cH P w H' h' a (.dK kvs):=⟨z,d,vs,r,k⟩
end
def Iw(i:ge):Prop:=∀b a,subscripted i bt b a=operate [b,a] (l3 b a)
theorem zC{prog:c8}{w:c7}{A:e9}{E:c5->f6->Prop}{s:f6}{env:Env}{a e:ge}{p:i3}{T id:String}{Q:c5->f6->Prop}(l:typeLookup (.type T) "__getitem__" = pure (a7<|.builtin id)) (hs:Iw e)(h:f9 (h8 prog w) A (eval a env) (λo s₁=>f9 (h8 prog w) A (eval e env) (λi s₂=>s₂.TypeIs o T/\f9 (h8 prog w) A (l3 o i) Q E s₂) E s₁) E s):f9 (h8 prog w) A (eval (.Subscript a e p) env) Q E s:=by
 refine Subscript_<|E7 h (λo s₁ d=>E7 d (λi s₂ b=>?_) λ_ _ x=>x) λ_ _ x=>x;obtain⟨g,b⟩:=b;unfold subscriptTail;refine p9 ?_;rw[getitemInPython_of_ne g.not_modules];refine p9<|Ni g l ?_;have n:f9 (h8 prog w) A (subscripted e bt o i) (λr c=>f9 (h8 prog w) A (letTemporaryGo a o r >>= λ_=>pure r) Q E c) E s₂:=by rw[hs o i];exact wpAny_operating<|E7 b (λr c f=>p9<|wpAny_letTemporaryGo<|t4 f) λ_ _ x=>x
 first
  |exact t4 (p9 n)
  |exact p9 (t4 (p9 n))
  |exact p9 n
theorem vB(I:q9 X pins σ H s)(g:DGet H a y o):s.TypeIs (.ref a) "dict":=by
 rcases g with⟨c,k,e,_,_⟩|⟨c,k,b,e,_,_,_⟩
 obtain⟨_,_,vs,_,d⟩:=HJ I.hok e;exact d.typeIs;obtain⟨_,_,xs,_,d⟩:=KY I.hok e;exact d.typeIs
def tDGet(d t:TE):TE:=λσ H Q=>d σ H λx c=>t σ c λy b=>∃a v,x=.ref a/\DGet b a y (a7 v)/\Q v b
section
variable{X:Cx}{o i e value:ge}{pos pos' tpos:i3}{td ty tv:TE}
theorem FZ(l:X.A.units+1<j9)(B:PE X o td)(hi:PE X i ty)(hs:Iw i):PE X (.Subscript o i pos) (tDGet td ty):=by intro p s σ H Q I h;refine zC PySem.F.slot_dict_getitem.lookup hs<|v4 (B p s σ H _ I h) ?_;rintro u t ⟨x,c,f,r,q⟩;refine v4 (hi p t σ c _ f q) ?_;rintro w z ⟨y,d,e,n,a,v,k,g,m⟩;subst k;obtain rfl:u=E1 a:=r;exact⟨vB e g,Br l e g n λY C j b=>⟨v,d,j,b,m⟩⟩
end
theorem Ed(h:d6)(d:d7<h.objs.size):cH P w H (h.push { cls:=.type "dict",data:=.dict #[] }) h.objs.size (.dK []):=⟨z8 _,beq_eq_false_iff_ne.mpr<|w9<|x9 d,[],.nil,Heap.DictOf.new h⟩
def IP:TE:=λ_ H Q=>∀p,H p=a8->Q (.ref p) (v6 H p<|.dK [])
section
variable{X:Cx}{pos:i3}
theorem CG:PE X (.Dict [] [] pos) IP:=λp s σ H Q I h =>
 wpAny_Dict_empty ⟨.ref s.heap.objs.size,_,I.laid (a:=s.heap.objs.size) (o:=.dK []) (t':=s.toks) (λ_ _ q=>v7 _ q) (u5 _)<|Ed s.heap I.big,rfl,h _<|I.hok.fresh<|u5 _⟩
end
end L2
namespace DL
open PySem
theorem iZ(env:Env):∀(names:List (c6×k7)) (acc:List (c6×c9)),(∀p∈names,p.2=LU->∃c,env.cells.lookup p.1=a7 c) ->∃cl,(forIn (m:=Sem) names acc λ(p:c6×k7) (r:List (c6×c9)) =>
    if (p.2==LU)=a9 then(do let a <-cellOf env p.1;pure (P5<|(p.1,a)::r))else pure (P5 r))=pure cl /\
   (∀z c,cl.lookup z=a7 c->acc.lookup z=a7 c\/env.cells.lookup z=a7 c) /\
   (∀z c,acc.lookup z=a7 c->∃c',cl.lookup z=a7 c') /\
   (∀p∈names,p.2=LU->∃c,cl.lookup p.1=a7 c)
 | [],acc,_=>⟨acc,rfl,λ_ _ h=>.inl h,λz c h=>⟨c,h⟩,λ_ h=>nomatch h⟩
 |(n,k)::bf,acc,hyp=>by
  by_cases hk:k=LU;subst hk;obtain⟨c0,hc0⟩:=hyp (n,.free) C1 rfl;obtain⟨cl,e,h1,h2,h3⟩:=iZ env bf ((n,c0)::acc) λp hp=>hyp p<|A6 _ hp;have ce:cellOf env n=pure c0:=by unfold cellOf;rw[hc0]
  have own:∃c',cl.lookup n=a7 c':=h2 n c0 (by simp[NA]);refine⟨cl,?_,λz c hz=>?_,λz c hz=>?_,λp hp hf=>?_⟩;rw[Pj];simp only[p8,p6,ce,pure_bind];exact e;rcases h1 z c hz with q|q;rw[NA]at q;by_cases hz':(z==n)=a9;rw[hz']at q;have:z=n:=by simpa using hz'
  subst this;cases q;exact .inr hc0;have hz'':(z==n)=bt:=by simpa using hz'
  rw[hz'']at q;exact .inl q;exact .inr q;by_cases hz':z=n;subst hz';exact own;refine h2 z c ?_;rw[NA];have hz'':(z==n)=bt:=by simpa using hz'
  rw[hz''];exact hz;rcases x6.mp hp with rfl|hp;exact own;exact h3 p hp hf;have hb:(k==LU)=bt:=by simpa using hk
  obtain⟨cl,e,h1,h2,h3⟩:=iZ env bf acc λp hp=>hyp p<|A6 _ hp;refine⟨cl,?_,h1,h2,λp hp hf=>?_⟩;rw[Pj];simp only[hb,A9,p5,pure_bind];exact e;rcases x6.mp hp with rfl|hp;exact o5 hf hk;exact h3 p hp hf
theorem lD(h:∀p∈scope.names,p.2=LU->∃c,env.cells.lookup p.1=a7 c):∃cl,closureFor scope env=pure cl/\(∀z c,cl.lookup z=a7 c->env.cells.lookup z=a7 c)/\(∀p∈scope.names,p.2=LU->∃c,cl.lookup p.1=a7 c):=by obtain⟨cl,e,h1,h2,a⟩:=iZ env scope.names [] h;refine⟨cl,?_,λz c b=>?_,a⟩;unfold closureFor;simp only[bind_pure];exact e;rcases h1 z c b with q|q;simp at q;exact q
theorem ga{env:Env}:∀{names:List (c6×k7)}{x:c6}{k:k7},(names.map λ(p:c6×k7)=>if (p.2==LU&&env.scope.kind==.function&&env.kindOf p.1==a7 .cell)=a9 then(p.1,Nt)else(p.1,p.2)).lookup x=a7 k ->(names.lookup x=a7 k\/(k=Nt/\names.lookup x=a7 .free))
 | [],_,_,h=>by simp at h
 |(n,j)::bf,x,k,h=>by
  have ih:=@ga env bf x k;rw[C0,NA]at h;by_cases hx:(x==n)=a9;have hl:List.lookup x ((n,j)::bf)=a7 j:=by rw[NA,hx]
  rw[hl];by_cases hc:(j==LU&&env.scope.kind==.function&&env.kindOf n==a7 .cell)=a9;simp only[hc,p6,hx]at h;cases h;have:j=LU:=by simp only[D3]at hc;simpa using hc.1.1
  exact .inr ⟨rfl,by rw[this]⟩;simp only[hc,A9,p5,hx]at h;exact .inl h;have hx':(x==n)=bt:=by simpa using hx
  have hl:List.lookup x ((n,j)::bf)=List.lookup x bf:=by rw[NA,hx']
  rw[hl];refine ih ?_;by_cases hc:(j==LU&&env.scope.kind==.function&&env.kindOf n==a7 .cell)=a9;simp only[hc,p6,hx']at h;exact h;simp only[hc,A9,p5,hx']at h;exact h
section
variable{prog:c8}{w:c7}{A:e9}{R:Result->f6->Prop}{s:f6}
theorem pN(s:List ge)(env:Env):compTests s env =
  (forIn s a9 λc r=>if r=a9 then do let ok <-isTrue c env (eval c env);pure (P5 ok)else pure (P5 r)):=by unfold compTests;simp only[bind_pure]
theorem yC(J:Nat->f6->Prop)(F:c5->f6->Prop)(b:∀e s',F e s'->notedBy (h8 prog w) A env (λe s'=>R (.error e) s') e s')(t:∀n s,J n s->f9 (h8 prog w) A (j1 it) (λr s1=>match r with
   |none=>R (.ok .next) s1
   |some v=>f9 (h8 prog w) A (j2 target it v) (λ_ s2=>f9 (h8 prog w) A (i9 target env v) (λ_ s3 =>
     f9 (h8 prog w) A (compTests ifs env) (λok s4 =>
      if ok=a9 then f9 (h8 prog w) A (eval elt env) (λy s5=>f9 (h8 prog w) A (call (.builtin "list.append") [acc,y]) (λ_ s6=>∃m,m<n/\J m s6) F s5) F s4
      else ∃m,m<n/\J m s4) F s3) F s2) F s1) F s)
  (n:Nat) (h:J n s):k5 (h8 prog w) A (.compLoop (.ListComp elt [⟨target,iter,ifs,0⟩] scope pos) 0 it acc env) R s:=by
 refine codeAny_loop rfl J (λn s d=>?_) n h;show f9 _ A ((compTurn (.ListComp elt [⟨target,iter,ifs,0⟩] scope pos) 0 it acc env).onRaise<|λx=>do noteFrame x env;theTreesLotGoes x) _ _ s;refine wpAny_noted ?_;rw[compTurn_list];refine p9<|wpAny_standAt<|p9<|E7 (t n s d) (λr s1 h1=>?_) b;cases r with
 |none=>exact t4 h1
 |some v =>
  refine p9<|E7 h1 (λ_ s2 h2=>?_) b;refine p9<|E7 h2 (λ_ s3 a=>?_) b;rw[pN]at a;refine p9<|E7 a (λok s4 f=>?_) b;cases ok with
  |false=>exact t4 ⟨rfl,f⟩
  |true=>exact p9<|p9<|E7 f (λy s5 k=>p9<|E7 k (λ_ s6 c=>t4<|t4 ⟨rfl,c⟩) b) b
end
end DL
namespace L2
open PySem PySem.Spec PyProof.Rows DL
theorem lg{env:Env}:∀{names:List (c6×k7)}{x:c6},names.lookup x=a7 .free ->((names.map λ(p:c6×k7)=>if (p.2==LU&&env.scope.kind==.function&&env.kindOf p.1==a7 .cell)=a9 then(p.1,Nt)else(p.1,p.2)).lookup x=a7 .cell \/ (names.map λ(p:c6×k7)=>if (p.2==LU&&env.scope.kind==.function&&env.kindOf p.1==a7 .cell)=a9 then(p.1,Nt)else(p.1,p.2)).lookup x=a7 .free)
 | [],_,h=>by simp at h
 |(n,j)::bf,x,h=>by
  have ih:=@lg env bf x;rw[C0,NA];rw[NA]at h;by_cases hc:(j==LU&&env.scope.kind==.function&&env.kindOf n==a7 .cell)=a9;by_cases hx:(x==n)=a9;simp[hc,hx];have hx':(x==n)=bt:=by simpa using hx
  rw[hx']at h;simp only[hc,p6,hx'];exact ih h;by_cases hx:(x==n)=a9;rw[hx]at h;cases h;right;simp only[hc,A9,p5,hx];have hx':(x==n)=bt:=by simpa using hx
  rw[hx']at h;simp only[hc,A9,p5,hx'];exact ih h
noncomputable def A3(X:Cx)(N':List c6)(scope:f7)(l:List (c6×c9))(s₀:f6)(H₀:Hp)(ex:List c9):Cx:={ X with N:=N',s₀:=s₀,H₀:=H₀,env:=compEnvC scope l s₀.heap.objs.size X.env,outer:=X.stack,ex:=ex,fn:=λx=>scope.names.lookup x==a7 .cell,pn:=[],xe:=λ_ _=>False }
structure BlkSc(X:Cx)(N':List c6)(nt:Nat)(js:List Nat)(scope:f7):Prop where
 kind:scope.kind=.function
 nocell:∀y∈scope.names,y.2≠.cell
 loc:∀y∈scope.names,y.2=.local->scope.names.lookup y.1=a7 .local
 free:∀y∈scope.names,y.2=.free->(X.env.kindOf y.1=a7 .cell\/X.env.kindOf y.1=a7 .free)
 len:N'.length=nt+js.length
 fr:∀(k j:Nat),js[k]?=a7 j->∃x,N'[nt+k]?=a7 x/\X.N[j]?=a7 x/\scope.names.lookup x=a7 .free/\(X.env.kindOf x=a7 .cell\/X.env.kindOf x=a7 .free)
noncomputable def bst(t:Nat)(s:List Nat)(σ:St):St:=Pe t a8++s.map λj=>(σ[j]?).join
theorem BD(t:Nat)(s:List Nat)(σ:St):(bst t s σ).length=t+s.length:=by simp[bst]
theorem Ia(h:(bst nt js σ)[i]?=a7 (a7 v)):∃k j,i=nt+k/\js[k]?=a7 j/\σ[j]?=a7 (a7 v):=by
 unfold bst at h;by_cases hi:i<nt;rw[J2 (by simpa using hi),QB]at h;simp[hi]at h;rw[Mf (by simpa using MT.mp hi),Qw,C5]at h;cases e:js[i-nt]? with
 |none=>rw[e]at h;cases h
 |some j =>
  rw[e]at h;refine⟨i-nt,j,by lia,e,?_⟩;have h':(σ[j]?).join=a7 v:=by simpa using h
  cases q:σ[j]? with
  |none=>rw[q]at h';cases h'
  |some o=>rw[q]at h';exact p7 a7 h'
def MS(X:Cx)(i:List ge)(t:TT):Prop:=∀(p:List (c9×d5)) (s:f6) (σ:St) (H:Hp) (Q:Bool->Hp->Prop),q9 X p σ H s->t σ H Q->f9 (h8 X.prog X.w) X.A (compTests i X.env) (TP X p σ Q) X.xe s
def ttNil:TT:=λ_ H Q=>Q a9 H
theorem FQ:MS X [] ttNil:=λp s σ H Q I h=>by rw[pN];exact wpAny_tests_nil ⟨H,I,h⟩
theorem FP(h:PT X c t):MS X [c] t:=λp s σ H Q I q=>by rw[pN];exact wpAny_tests_one<|h p s σ H Q I q
def QR(t:Nat)(s:List Nat)(wi:TI)(g:TG)(tt:TT)(te:TE):TE:=λσ H Q=>wi σ H λJ e=>∃W:Nat->Nat->List V->St->Hp->Prop,(∃m,W 0 m [] (bst t s σ) e) /\∀i m vs τ H,W i m vs τ H->(J.stop i H/\∀p,H p=a8->Q (.ref p) (v6 H p<|.lst vs)) \/(J.go i H/\∀x H',J.yld i H x H'->g x τ H' λa f=>tt a f λb d=>if b=a9 then te a d λy h=>vs.length<sizeLine/\∃c,c < m/\W (i+1) c (vs++[y]) a h else ∃c,c < m/\W (i+1) c vs a d)
noncomputable abbrev cW(its:List c5)(k:Nat):d5:={ cls:=.type "list",data:=.seq its.toArray k }
section
variable{X:Cx}{pins:List (c9×d5)}{σ:St}{H:Hp}{s:f6}
theorem q9.blkOk(B:BlkSc X N' nt js scope)(I:q9 X pins σ H s)(a:∀z c,cl.lookup z=a7 c->X.env.cells.lookup z=a7 c) (f:∀p∈scope.names,p.2=LU->∃c,cl.lookup p.1=a7 c) (i:∀b∈fp,xz X pins H b) (j:∀b∈fp,b<s.heap.objs.size):(A3 X N' scope cl { s with heap:=s.heap.push ob } H<|s.heap.objs.size::fp).Ok:=by
 have J:q9 X pins σ H { s with heap:=s.heap.push ob }:=I.kept (t':=s.toks) λb o e=>v7 _ e;have ltc:∀z c,cl.lookup z=a7 c->c<s.heap.objs.size:=λz c e=>by obtain⟨v,q⟩:=I.cell z c<|a z c e;exact q.lt
 have C:(s.heap.push ob).objs.size=s.heap.objs.size+1:=LG ..;refine⟨I.ok.mod,B.kind,I.ok.glob,I.ok.blt,u5 _,λy z c h1 h2=>I.ok.inj y z c (a y c h1)<|a z c h2,λy O=>?_,λy c h=>?_,I.ok.hd,I.ok.frames,.inl rfl,λb d=>?_,λb o e=>?_,?_,λb o e d=>?_,λb d=>?_,J.stack,I.stkFree⟩;have l:scope.names.lookup y=a7 .free:=by
  rcases O with O|O;rcases ga (env:=X.env) (names:=scope.names) (x:=y) (k:=.cell) O with q|⟨_,q⟩
  exact o5 rfl<|B.nocell _<|Nj q;exact q;rcases ga (env:=X.env) (names:=scope.names) (x:=y) (k:=.free) O with q|⟨q,_⟩
  exact q;cases q
 exact f (y,.free) (Nj l) rfl;exact o5 rfl<|B.nocell _<|Nj<|beq_iff_eq.mp<|show (scope.names.lookup y==a7 Nt)=a9 from h;show b≠(s.heap.push ob).objs.size/\∀x c,cl.lookup x=a7 c->c≠b;rw[C];rcases x6.mp d with rfl|d;exact⟨x9<|LI _,λx c e=>x9<|ltc x c e⟩;exact⟨x9<|NC<|j b d,λx c e=>(i b d).2.2.2.2.1 x c<|a x c e⟩;exact⟨v7 _ (I.bs b o e).1,(I.bs b o e).2⟩;show X.base.objs.size<=(s.heap.push ob).objs.size;rw[C];exact Nat.le_succ_of_le<|C7 I.ok.bsz I.sz;rcases x6.mp d with rfl|d;exact o5 (v9 (I.bs _ o e).1)<|D4 _;rcases(i b d).2.2.2.1 with z|z;exact I.ok.noex b o e z;exact o5 (Fn (v9 (I.ok.bs b o e).1) z)<|D4 _;intro m;have g:=I.stkSub b m;rcases x6.mp d with rfl|d;rcases x6.mp g with q|q;exact o5 I.lt (by rw[<-q];exact D4 _);exact I.nofs (u5 _) q;rcases x6.mp g with q|q;exact(i b d).2.1 q;exact(i b d).2.2.1 q
theorem q9.blkStart(B:BlkSc X N' nt js scope)(I:q9 X pins σ H s)(a:∀z c,cl.lookup z=a7 c->X.env.cells.lookup z=a7 c) (f:∀p∈scope.names,p.2=LU->∃c,cl.lookup p.1=a7 c) (J:∀b∈fp,xz X pins H b) (m:∀b∈fp,b<s.heap.objs.size)(g:∀b o,(s.heap.push<|cW [] 0).get? b=a7 o->h1.get? b=a7 o) (K:h1.Ns (s.heap.push<|cW [] 0).objs.size mm):q9 (A3 X N' scope cl { s with heap:=s.heap.push (cW [] 0) } H<|s.heap.objs.size::fp) [(s.heap.objs.size,cW [] 0)] (bst nt js σ) H { s with heap:=h1,toks:=tk }:=by
 have d:∀b o,s.heap.get? b=a7 o->h1.get? b=a7 o:=λb o e=>g b o<|v7 _ e;have C:(s.heap.push<|cW [] 0).objs.size=s.heap.objs.size+1:=LG ..;refine⟨I.blkOk B a f J m,rfl,I.bare,Un.kept g,⟨mm,K,λi x v D E T=>?_⟩,λx c e=>?_,?_,λx c e=>I.freeC x c<|a x c e,λp N=>?_,I.hok.kept d,?_⟩;obtain⟨k,j,rfl,L,t⟩:=Ia E;obtain⟨S,Q,R,A,y⟩:=B.fr k j L;have F:x=S:=A5<|D.symm.trans Q;subst F;obtain⟨W,M,n⟩:=I.loc;have w:NL X.env.scope x:=y.elim (λz=>.inr<|.inl z) λz=>.inr<|.inr z;obtain⟨u,r,h⟩:=n j x v R t w;refine⟨u,r,?_⟩;rcases h with⟨q,_⟩|⟨q,c,G,l⟩
 rcases y with z|z<;>(rw[q]at z;cases z)
 obtain⟨U,O⟩:=f (x,.free) (Nj A) rfl;have:U=c:=A5<|(a x U O).symm.trans G;subst this;exact .inr ⟨lg (env:=X.env) A,U,O,l.keeps d⟩;obtain⟨v,q⟩:=I.cell x c<|a x c e;exact⟨v,q.keeps d⟩;exact I.hok.fresh (by show s.heap.objs.size<=(s.heap.push<|cW [] 0).objs.size;rw[C];exact Os _);have e:p=(s.heap.objs.size,cW [] 0):=by simpa [A3]using N
 subst e;refine⟨g _ _<|z0 _ rfl,I.hok.fresh<|u5 _,?_,?_,λv z=>by cases z⟩;show s.heap.objs.size≠(s.heap.push<|cW [] 0).objs.size;rw[C];exact x9<|LI _;intro P;rcases x6.mp (I.stkSub _ P)with q|q;exact o5 I.lt (by rw[<-q];exact D4 _);exact I.nofs (u5 _) q;rw[BD];exact B.len.symm
theorem q9.blkEnd(I:q9 X pins σ H s)(E:∀b∈fp,xz X pins H b)(a:q9 (A3 X N' scope cl { s with heap:=s.heap.push (cW [] 0) } H<|s.heap.objs.size::fp) [(s.heap.objs.size,cW its k)] τ H' s')(M:av vs its) (G:vs.length<=sizeLine) (T:Mz (s.heap.push<|cW [] 0).objs.size s'.heap h'):q9 X pins σ (v6 H' s.heap.objs.size<|.lst vs) { s' with heap:=h' }:=by
 have l:(s.heap.push<|cW [] 0).objs.size=s.heap.objs.size+1:=LG ..;have C:s.heap.objs.size≠(s.heap.push<|cW [] 0).objs.size:=by rw[l];exact x9<|LI _
 obtain⟨L,D,_⟩:=a.pin (s.heap.objs.size,cW its k) (by simp[A3]);have i:s'.heap.get? s.heap.objs.size=a7 (cW its k):=L;have f:H' s.heap.objs.size=a8:=D;have j:H' (s.heap.push<|cW [] 0).objs.size=a8:=a.free;have u:Un (K1 X.stack) (s.heap.objs.size::fp) H H' (s.heap.push<|cW [] 0) s'.heap:=a.base;have F:∀b o,s.heap.get? b=a7 o->b≠s.heap.objs.size/\b≠(s.heap.push<|cW [] 0).objs.size:=λb o e=>by have:=v9 e;exact⟨x9 this,by rw[l];exact x9<|NC this⟩
 have p:∀b o,s.heap.get? b=a7 o->(s.heap.push<|cW [] 0).get? b=a7 o:=λb o e=>v7 _ e;have g:∀b o,s.heap.get? b=a7 o->b∉fp->b∉s.heap.objs.size::fp:=λb o e x J=>by rcases x6.mp J with q|q;exact(F b o e).1 q;exact x q
 refine I.call' (s':={ s' with heap:=h' }) (ch:=fp) a.os ⟨λb o e n d x=>?_,λb o e n d x=>?_,λb o e n x=>?_,λb o e x=>?_,λb xs e=>?_,λb o w e=>?_,λb ps e=>?_⟩ (λb w q=>?_) a.bare λb d=>?_;exact(T.2 b (F b o e).2).trans<|u.keep b o (p b o e) n d<|g b o e x;obtain⟨N,z⟩:=u.slot b o (p b o e) n d<|g b o e x;exact⟨N,(T.2 b (F b o e).2).trans z⟩;rw[ag (F b o e).1];exact u.free b o (p b o e) n<|g b o e x;obtain⟨K,z⟩:=u.there b o (p b o e)<|g b o e x;exact⟨K,(T.2 b (F b o e).2).trans z⟩;have z:=u.tups b xs e;rw[ag<|ad z f];exact z;have z:=u.frzs b o w e;rw[ag<|ad z f];exact z;obtain⟨m,z⟩:=u.tbls b ps e;exact⟨m,by rw[ag<|ad z f];exact z⟩;by_cases d:b=s.heap.objs.size;subst d;rw[aK]at q;cases q;exact⟨G,its,k,M,(T.2 _ C).trans i⟩;rw[ag d]at q;refine(a.hok b w q).stay (λc v h r=>(T.2 c ?_).trans r) (λc z=>by rw[ag<|ad z f];exact z) λc xs z=>by rw[ag<|ad z f];exact z
 rcases h with rfl|h;exact ad q j;exact ad h j;obtain⟨_,t,_,y,A,B⟩:=E b d;exact⟨y,t,A,B⟩
theorem AE{C tg O:ge}{N:List ge}{scope:f7}{bk:i3}{N':List c6}{l:List (c6×c9)}{J:It}{fp:List c9}{it:c9}{tn:Nat->d6->Prop}{g:TG}{tt:TT}{te:TE}{Q:VK}{W:Nat->Nat->List V->St->Hp->Prop}{R:Result->f6->Prop}{s0:f6}{H0:Hp}{D:c9} (hc:X.calm=a9)(hg:PG (A3 X N' scope l s0 H0<|D::fp) tg g) (ht:MS (A3 X N' scope l s0 H0<|D::fp) N tt) (he:PE (A3 X N' scope l s0 H0<|D::fp) C te)(T:Turn X.prog X.w X.K tg J fp it tn) (M:D∉fp)(U:∀i m vs τ H,W i m vs τ H->(J.stop i H/\∀p,H p=a8->Q (.ref p) (v6 H p<|.lst vs)) \/ (J.go i H/\∀x H',J.yld i H x H'->g x τ H' λτ2 H2=>tt τ2 H2 λb f=>if b=a9 then te τ2 f λy H4=>vs.length<sizeLine/\∃m',m' < m/\W (i+1) m' (vs++[y]) τ2 H4 else ∃m',m' < m/\W (i+1) m' vs τ2 f))(t:∀b∈fp,b≠s0.heap.objs.size/\b∉K1 X.stack/\∀x c,l.lookup x=a7 c->c≠b) (L:D≠s0.heap.objs.size) (aD:D∉K1 X.stack) (as:∀x c,l.lookup x=a7 c->c≠D)(aj:∀τ H' s' vs its k,q9 (A3 X N' scope l s0 H0<|D::fp) [(D,cW its k)] τ H' s'->av vs its->vs.length<=sizeLine->Q (.ref D) (v6 H' D<|.lst vs)->R (.ok .next) s')
  (m0:Nat) {s:St}{s3:f6}{f:Hp} (I3:q9 (A3 X N' scope l s0 H0<|D::fp) [(D,cW [] 0)] s f s3) (bm:tn 0 s3.heap) (al:∀b∈fp,f b=a8) (w0:W 0 m0 [] s f) :
  k5 (h8 X.prog X.w) X.A (.compLoop (.ListComp C [⟨tg,O,N,0⟩] scope bk) 0 (.ref it) (.ref D)<|compEnvC scope l s0.heap.objs.size X.env) R s3:=by
 have h:∀{ob:d5}{H':Hp},(∀b∈fp,H' b=a8)->∀b∈fp,xz (A3 X N' scope l s0 H0<|D::fp) [(D,ob)] H' b:=λ{ob H'} hn b d=>by
  obtain⟨a1,a2,a3⟩:=t b d;refine⟨hn b d,a1,a2,.inl<|A6 _ d,a3,λp j z=>?_⟩;have e:p=(D,ob):=by simpa [A3]using j
  subst e;exact M<|by rw[show D=b from z];exact d
 refine yC (λn s'=>∃i τ H' vs its k,q9 (A3 X N' scope l s0 H0<|D::fp) [(D,cW its k)] τ H' s'/\tn i s'.heap/\(∀b∈fp,H' b=a8)/\av vs its/\vs.length<=sizeLine/\W i n vs τ H') (λ_ _=>False) (λ_ _ z=>z.elim) ?_ m0 ⟨0,s,f,[],[],0,I3,bm,al,.nil,z8 _,w0⟩;rintro n s' ⟨i,τ,H',vs,its,k,I',P,I,rv,hl,w'⟩;rcases U i n vs τ H' w' with⟨stop,q⟩|⟨go,S⟩
 refine v4 (T.done (A3 X N' scope l s0 H0<|D::fp) rfl rfl rfl hc i _ s' τ H' (λ_ _=>False) I' (h I) P stop) ?_;rintro r s4 ⟨hr,I4⟩;subst hr;exact aj τ H' s4 vs its k I4 rv hl<|q D (I'.pin (D,cW its k)<|by simp[A3]).2.1;refine v4 (T.item (A3 X N' scope l s0 H0<|D::fp) rfl rfl rfl hc i _ s' τ H' (λ_ _=>False) I' (h I) P go) ?_;rintro r s4 ⟨u,hr,h4⟩;subst hr;refine v4 h4 ?_;rintro _ s5 ⟨x,H5,I5,r5,y5,B,an⟩;have ai:=I5.pinned (h an)<|T.obj _ _ B;refine v4 (hg _ s5 τ H5 x u _ ai r5<|S x H5 y5) ?_;rintro _ s6 ⟨a,H6,I6,q6⟩;refine v4 (ht _ s6 a H6 _ I6 q6) ?_;rintro ok s7 ⟨H7,Z,q7⟩;have F:∀{b:c9}{o:d5},b∈fp->s5.heap.get? b=a7 o->(b,o)∈(A3 X N' scope l s0 H0<|D::fp).pn++([(D,cW its k)]++jJ fp s5.heap):=λd e=>F4 _<|F4 _<|gO d e;cases ok with
 |false =>
  obtain⟨m',hm,w7⟩:=(show ∃m',m' < n/\W (i+1) m' vs a H7 from q7)
  refine⟨m',hm,i+1,a,H7,vs,its,k,Z.unpinned,T.keep _ _ _ B λb d o e=>(Z.pin (b,o)<|F d e).1,λb d=>?_,rv,hl,w7⟩;obtain⟨o,e,_⟩:=T.obj _ _ B b d;exact(Z.pin (b,o)<|F d e).2.1
 |true =>
  refine v4 (he _ s7 a H7 _ Z q7) ?_;rintro yv s8 ⟨y,Y,I8,r8,q8⟩;obtain⟨aS,m',hm,w8⟩:=q8;obtain⟨oD,fD,_⟩:=I8.pin (D,cW its k) (F4 _<|LM _<|by simp);have E:Y D=a8:=fD;refine append_at (its:=its.toArray) (n:=k) oD (λh9 bl o9=>?_) (by rw[y4,<-rv.length];exact hl);have J8:q9 (A3 X N' scope l s0 H0<|D::fp) (jJ fp s5.heap) a Y s8:=I8.pins_of λp j=>I8.pin p<|F4 _<|F4 _ j;have J9:q9 (A3 X N' scope l s0 H0<|D::fp) (jJ fp s5.heap) a Y { s8 with heap:=h9 }:=J8.turned (t':=s8.toks) (it:=D) (λb o d e=>(bl.2 b d).trans e) E L (.inl C1) as λp j z=>by
   have aP:p∈jJ fp s5.heap:=by simpa [A3]using j
   exact M<|by rw[<-z];exact(sF aP).1
  have G:∀{b:c9}{o:d5},b∈fp->s5.heap.get? b=a7 o->(b,o)∈(A3 X N' scope l s0 H0<|D::fp).pn++jJ fp s5.heap:=λd e=>F4 _<|gO d e;refine⟨m',hm,i+1,a,Y,vs++[y],its++[yv],k+1,J9.pins_of λp j=>?_,T.keep _ _ _ B λb d o e=>(J9.pin (b,o)<|G d e).1,λb d=>?_,rv.append<|.cons r8 .nil,?_,w8⟩;have e:p=(D,cW (its++[yv])<|k+1):=by simpa using j
  subst e;refine⟨?_,E,L,aD,λv z=>by cases z⟩;rw[show cW (its++[yv]) (k+1)=({ cls:=.type "list",data:=.seq (its.toArray.push yv) (k+1) }:d5) by rw[List.push_toArray]];exact o9;obtain⟨o,e,_⟩:=T.obj _ _ B b d;exact(J9.pin (b,o)<|G d e).2.1;rw[A1];exact aS
end
section
variable{X:Cx}
theorem pe_lc{C N r:ge}{n:List ge}{scope:f7}{G:i3}{N':List c6}{nt:Nat}{js:List Nat}{wi:TI}{g:TG}{tt:TT}{te:TE}(B:BlkSc X N' nt js scope)(hc:X.calm=a9)(hi:PI X N r wi)(hg:∀cl s0 H0 ex,PG (A3 X N' scope cl s0 H0 ex) N g) (ht:∀cl s0 H0 ex,MS (A3 X N' scope cl s0 H0 ex) n tt) (he:∀cl s0 H0 ex,PE (A3 X N' scope cl s0 H0 ex) C te)(hs:∀x,j5 r X.env x=pure x:=by intro _;rfl):PE X (.ListComp C [⟨N,r,n,0⟩] scope G) (QR nt js wi g tt te):=by
 intro i s σ H Q I h;rw[eval_ListComp];obtain⟨cl,O,d,u⟩:=lD (scope:=scope) (env:=X.env) λp hp hf=>I.ok.has p.1<|B.free p hp hf;refine wpAny_comprehension_free (use:=a8) rfl hs O B.kind B.loc ?_;refine v4 (hi i s σ H _ I h) λv s1 h1=>v4 h1 λai a h2=>?_;obtain⟨it,P,tn,J,H2,e,j,T,U,M,W,⟨m0,w0⟩,L⟩:=h2;subst e;refine J1<|wpAny_newFunctionEnv B.nocell (by intro y hy;simp at hy) (λh1 D E=>?_) B.kind;have m:∀b∈P,b<a.heap.objs.size:=λb f=>by obtain⟨o,e,_⟩:=T.obj _ _ U b f;exact v9 e
 have Z:(a.heap.push<|cW [] 0).objs.size=a.heap.objs.size+1:=LG ..;have F:∀b o,(a.heap.push<|cW [] 0).get? b=a7 o->h1.get? b=a7 o:=λb o e=>(E.2 b<|x9<|v9 e).trans<|v7 _ e;have I3:=j.blkStart (tk:=a.toks+([]:List (c6×c5)).length) B d u M m F D;have K:tn 0 h1:=T.keep _ _ _ U λb _ o e=>F b o<|v7 _ e;have S:a.heap.objs.size∉P:=λz=>D4 _<|m _ z;have V:a.heap.objs.size∉K1 X.stack:=λz=>by rcases x6.mp (j.stkSub _ z)with q|q;exact o5 j.lt (by rw[<-q];exact D4 _);exact j.nofs (u5 _) q
 have R:a.heap.objs.size≠(a.heap.push<|cW [] 0).objs.size:=by rw[Z];exact x9<|LI _
 have ltc:∀z c,cl.lookup z=a7 c->c<a.heap.objs.size:=λz c e=>by obtain⟨v,q⟩:=j.cell z c<|d z c e;exact q.lt
 have t:∀b∈P,b≠(a.heap.push<|cW [] 0).objs.size/\b∉K1 X.stack/\∀x c,cl.lookup x=a7 c->c≠b:=λb f=>by refine⟨by rw[Z];exact x9<|NC<|m b f,λz=>?_,λx c e=>(M b f).2.2.2.2.1 x c<|d x c e⟩;rcases x6.mp (j.stkSub b z)with q|q;exact(M b f).2.1 q;exact(M b f).2.2.1 q
 have l:k5 (h8 X.prog X.w) X.A (.compLoop (.ListComp C [⟨N,r,n,0⟩] scope G) 0 (.ref it) (.ref a.heap.objs.size)<|compEnvC scope cl (a.heap.push<|cW [] 0).objs.size X.env) (compPost (h8 X.prog X.w) X.A X.xe a8 (EP X i σ Q) (.ref a.heap.objs.size) (a.heap.push<|cW [] 0).objs.size) { a with heap:=h1,toks:=a.toks+([]:List (c6×c5)).length }:=by refine AE (s0:={ a with heap:=a.heap.push (cW [] 0) }) (H0:=H2) (N':=N') (Q:=Q) hc (hg _ _ _ _) (ht _ _ _ _) (he _ _ _ _) T S L t R V (λx c e=>x9<|ltc x c e) ?_ m0 I3 K (λb f=>(M b f).1) w0;intro τ H' s' vs its k Y rv hl q;obtain⟨mm,hn,_⟩:=id Y.loc;exact⟨mm,hn,λh' sb=>⟨.ref a.heap.objs.size,_,j.blkEnd M Y rv hl sb,rfl,q⟩⟩
 exact codeAny_compStart_list l<|T.self _ 0 _ _ _ K l
end
section
inductive D where
 |non|bl (b:Bool)|int (i:Int)|str (x:c6)|ty (n:String)|tup (ds:List D)|ref (n:Nat)
inductive MO where
 |lst (xs:List D)
 |fz (xs:List D)
 |kl (xs:List D)
 |dct (kvs:List (c6×D))
 |dkt (kvs:List (D×D))
 |dkq (kvs:List (D×D))
 |dkm (kvs:List (D×D))
 |fdc (o:d5) (kvs:List (c6×D))
 |tb (x:c6) (b:Bool)
 |exc (x:c6)
noncomputable abbrev t7:=List MO
noncomputable def MO.isL:MO->Bool
 |.dct _=>bt
 |.dkt _=>bt
 |.dkq _=>bt
 |.fdc _ _=>bt
 |.dkm _=>bt
 |.tb _ _=>bt
 |.exc _=>bt
 |_=>a9
noncomputable def jb(s:List c6)(vs:List V):List (C9×V):=(s.zip vs).map λp=>(ABh p.1,p.2)
mutual
inductive u3(K:u4)(ρ:List c9)(H:Hp):D->V->Prop
 |non:u3 K ρ H .non .non
 |bl (b:Bool):u3 K ρ H (.bl b) (.bl b)
 |int (i:Int):u3 K ρ H (.int i) (.int i)
 |str (x:c6):u3 K ρ H (.str x) (.str x)
 |ty (n:String):u3 K ρ H (.ty n) (.ty n)
 |tup {a:c9}{vs:List V}{ds:List D} (h:z7 K H a vs) (r:Reps K ρ H ds vs):u3 K ρ H (.tup ds) (.ref a)
 |ref {n:Nat}{a:c9} (h:ρ[n]?=a7 a):u3 K ρ H (.ref n) (.ref a)
inductive Reps(K:u4)(ρ:List c9)(H:Hp):List D->List V->Prop
 |nil:Reps K ρ H [] []
 |cons {d:D}{v:V}{ds:List D}{vs:List V} (h:u3 K ρ H d v) (t:Reps K ρ H ds vs):Reps K ρ H (d::ds) (v::vs)
end
def KList(K:u4)(a:c9)(xs:List V):Prop:=∃(o:d5) (its:Array c5) (n:Nat),K.lookup a=a7 o/\o.cls=.type "list"/\o.dict=a8/\o.data=.seq its n/\its.size<=sizeLine/\av xs its.toList
noncomputable def cT:Nat->D->Bool
 |_,.str _=>a9
 |_,.int _=>a9
 |n+1,.tup ds=>ds.all<|cT n
 |_,_=>bt
noncomputable def z9(w:c7):Nat->D->Int
 |_,.str x=>hashStr w x
 |_,.int i=>hashInt i
 |n+1,.tup ds=>m6<|Og<|ds.map<|z9 w n
 |_,_=>0
def dX(a:c9)(xs:List (D×c9×c5)):c8->c7->d6->Prop:=λ_ w h =>
 ∃(o:d5) (es:Array m7),h.get? a=a7 o/\o.ExactDict/\o.data=.dict es xs.length/\es.toList=xs.map λx=>⟨z9 w 8 x.1,.ref x.2.1,x.2.2⟩
def dQ(a:c9)(e:Nat)(xs:List (D×c9×c5)):c8->c7->d6->Prop:=λ_ w h =>
 ∃(o:d5) (es:Array m7),h.get? a=a7 o/\o.ExactDict/\o.data=.dict es e/\es.toList=xs.map λx=>⟨z9 w 8 x.1,.ref x.2.1,x.2.2⟩
noncomputable def keyM:D->Bool
 |.non=>a9
 |.tup ks=>cT 8<|.tup ks
 |_=>bt
noncomputable def hkM(w:c7):D->Int
 |.non=>m6 0xFCA86420
 |d=>z9 w 8 d
noncomputable def entM(hs:D->Int)(x:D×c5×c5):m7:=⟨hs x.1,x.2.1,x.2.2⟩
def dM(a:c9)(xs:List (D×c5×c5)):c8->c7->d6->Prop:=λ_ w h =>
 ∃(o:d5) (es:Array m7),h.get? a=a7 o/\o.ExactDict/\o.data=.dict es xs.length/\es.toList=xs.map (entM<|hkM w)
def PQ(K:u4)(ρ:List c9)(H:Hp)(p:D×D)(q:D×c5×c5):Prop:=p.1=q.1/\keyM p.1=a9/\(∃u,u3 K ρ H p.1 u/\aV u q.2.1)/\∃v,u3 K ρ H p.2 v/\aV v q.2.2
def yJ(K:u4)(ρ:List c9)(H:Hp)(p:D×D)(q:D×c9×c5):Prop:=p.1=q.1/\cT 8 p.1=a9/\u3 K ρ H p.1 (.ref q.2.1)/\∃v,u3 K ρ H p.2 v/\aV v q.2.2
def excO(a:c9)(C:c5):c8->c7->d6->Prop:=λ_ _ h=>∃o vs,h.get? a=a7 o/\o.cls=C/\o.data=.fields vs
def yL(K:u4)(ρ:List c9)(H:Hp)(a:c9):MO->Prop
 |.lst ds=>∃vs,H a=a7 (.lst vs)/\Reps K ρ H ds vs
 |.fz ds=>∃o vs,H a=a7 (.frz o<|.lst vs)/\Reps K ρ H ds vs
 |.kl ds=>∃vs,KList K a vs/\Reps K ρ H ds vs
 |.dct kvs=>∃vs,H a=a7 (.dK (jb (kvs.map (·.1)) vs))/\Reps K ρ H (kvs.map (·.2)) vs
 |.dkt kvs=>kvs.length<=sizeLine/\(a==d7)=bt/\(kvs.map (·.1)).Nodup/\∃xs,H a=a7 (.ext<|dX a xs)/\Paired (yJ K ρ H) kvs xs
 |.dkq kvs=>kvs.length<=sizeLine/\(a==d7)=bt/\(kvs.map (·.1)).Nodup/\∃xs,(∃e,H a=a7 (.ext<|dQ a e xs))/\Paired (yJ K ρ H) kvs xs
 |.dkm kvs=>kvs.length<=sizeLine/\(a==d7)=bt/\(kvs.map (·.1)).Nodup/\∃xs,H a=a7 (.ext<|dM a xs)/\Paired (PQ K ρ H) kvs xs
 |.fdc o kvs=>∃vs,H a=a7 (.frz o (.dK (jb (kvs.map (·.1)) vs)))/\Reps K ρ H (kvs.map (·.2)) vs
 |.tb x b=>(∃c,PySem.W.tabIn K x=a7 (c,a)/\∀h:d6,K.In h->PySem.W.CodeHd h c a)/\∃ps,H a=a7 (.tbl ps)/\(b=bt->ps = #[])
 |.exc x=>∃C,PySem.W.nsIn K d9 x=a7 (a7<|.ref C)/\H a=a7 (.ext<|excO a<|.ref C)
def LY(mo:Option MO):Prop:=∃ds,mo=a7 (.kl ds)
def ar(M:t7)(n:Nat)(xs:List D):Prop:=M[n]?=a7 (.lst xs)\/M[n]?=a7 (.fz xs)\/M[n]?=a7 (.kl xs)
structure ve(K:u4)(ρ:List c9)(M:t7)(H:Hp):Prop where
 nd:∀(n m:Nat) (a:c9),n≠m->ρ[n]?=a7 a->ρ[m]?=a7 a->LY M[n]?\/LY M[m]?
 len:ρ.length=M.length
 obj:∀(n:Nat) (a:c9) (mo:MO),ρ[n]?=a7 a->M[n]?=a7 mo->yL K ρ H a mo
structure Grow(K:u4)(ρ:List c9)(H:Hp)(ρ':List c9)(H':Hp):Prop where
 pre:ρ <+: ρ'
 tup:∀a xs,z7 K H a xs->z7 K H' a xs
theorem Grow.refl{K:u4}{ρ:List c9}{H:Hp}:Grow K ρ H ρ H:=⟨N1,λ_ _ h=>h⟩
theorem Grow.trans{K:u4}{ρ c d:List c9}{H e f:Hp}(a:Grow K ρ H c e)(b:Grow K c e d f):Grow K ρ H d f:=⟨a.pre.trans b.pre,λx xs h=>b.tup x xs<|a.tup x xs h⟩
theorem aC{α:Type}{l l':List α}(h:l <+: l'){n:Nat}{a:α}(e:l[n]?=a7 a):l'[n]?=a7 a:=by obtain⟨t,rfl⟩:=h;rw[J2 (x5.mp e).1];exact e
theorem u3.grow{K:u4}{ρ a:List c9}{H H':Hp}(g:Grow K ρ H a H'){d:D}{v:V}(h:u3 K ρ H d v):u3 K a H' d v:=u3.rec (motive_1:=λd v _=>u3 K a H' d v) (motive_2:=λds vs _=>Reps K a H' ds vs) .non .bl .int .str .ty (λh _ r=>.tup (g.tup _ _ h) r) (λh=>.ref<|aC g.pre h) .nil (λ_ _ h t=>.cons h t) h
theorem Reps.grow{K:u4}{ρ a:List c9}{H H':Hp}(g:Grow K ρ H a H'){ds:List D}{vs:List V}(h:Reps K ρ H ds vs):Reps K a H' ds vs:=Reps.rec (motive_1:=λd v _=>u3 K a H' d v) (motive_2:=λds vs _=>Reps K a H' ds vs) .non .bl .int .str .ty (λh _ r=>.tup (g.tup _ _ h) r) (λh=>.ref<|aC g.pre h) .nil (λ_ _ h t=>.cons h t) h
section
variable{K:u4}{ρ ρ':List c9}{H H':Hp}{M:t7}
theorem Reps.length(h:Reps K ρ H ds vs):ds.length=vs.length:=Reps.rec (motive_1:=λ_ _ _=>True) (motive_2:=λds vs _=>ds.length=vs.length) trivial (λ_=>trivial) (λ_=>trivial) (λ_=>trivial) (λ_=>trivial) (λ_ _ _=>trivial) (λ_=>trivial) rfl (λ_ _ _ t=>p7 Nat.succ t) h
theorem Reps.append(h:Reps K ρ H ds vs)(s:Reps K ρ H es ws):Reps K ρ H (ds++es) (vs++ws):=Reps.rec (motive_1:=λ_ _ _=>True) (motive_2:=λds vs _=>Reps K ρ H (ds++es)<|vs++ws) trivial (λ_=>trivial) (λ_=>trivial) (λ_=>trivial) (λ_=>trivial) (λ_ _ _=>trivial) (λ_=>trivial) s (λh _ _ t=>.cons h t) h
theorem Reps.get:∀{ds:List D}{vs:List V}{i:Nat}{d:D},Reps K ρ H ds vs->ds[i]?=a7 d->∃v,vs[i]?=a7 v/\u3 K ρ H d v
 |_,_,_,_,.nil,e=>by simp at e
 |_,_,0,_,.cons r _,e=>by simp at e;subst e;exact⟨_,rfl,r⟩
 |_,_,i+1,d,.cons _ t,e=>by obtain⟨v,h1,h2⟩:=Reps.get (i:=i) (d:=d) t (by simpa using e);exact⟨v,by simpa using h1,h2⟩
theorem Reps.getV:∀{ds:List D}{vs:List V}{i:Nat}{v:V},Reps K ρ H ds vs->vs[i]?=a7 v->∃d,ds[i]?=a7 d/\u3 K ρ H d v
 |_,_,_,_,.nil,e=>by simp at e
 |_,_,0,_,.cons r _,e=>by simp at e;subst e;exact⟨_,rfl,r⟩
 |_,_,i+1,d,.cons _ t,e=>by obtain⟨v,h1,h2⟩:=Reps.getV (i:=i) (v:=d) t (by simpa using e);exact⟨v,by simpa using h1,h2⟩
theorem Reps.take:∀{ds:List D}{vs:List V} (n:Nat),Reps K ρ H ds vs->Reps K ρ H (ds.take n) (vs.take n)
 |_,_,0,_=>by simpa using .nil
 |_,_,_+1,.nil=>.nil
 |_,_,n+1,.cons r t=>.cons r<|Reps.take n t
theorem Reps.drop:∀{ds:List D}{vs:List V} (n:Nat),Reps K ρ H ds vs->Reps K ρ H (ds.drop n) (vs.drop n)
 |_,_,0,r=>r
 |_,_,_+1,.nil=>.nil
 |_,_,n+1,.cons _ t=>Reps.drop n t
theorem z7.laid(b:H p=a8)(h:z7 K H a xs):z7 K (v6 H p o) a xs:=by
 rcases h with h|h;rcases h with h|⟨c,h⟩
 exact .inl (.inl<|by rw[ag<|ad h b];exact h);exact .inl<|.inr ⟨c,by rw[ag<|ad h b];exact h⟩;exact .inr h
theorem z7.written(b:H p=a7 (.lst vs))(h:z7 K H a xs):z7 K (v6 H p o) a xs:=by
 rcases h with h|h;rcases h with h|⟨c,h⟩
 exact .inl (.inl<|by rw[ag<|xW h b<|by intro z;cases z];exact h);exact .inl<|.inr ⟨c,by rw[ag<|xW h b<|by intro z;cases z];exact h⟩;exact .inr h
theorem Grow.laid(a:H p=a8):Grow K ρ H ρ (v6 H p o):=⟨N1,λ_ _ h=>z7.laid a h⟩
theorem Grow.laidR(a:H p=a8):Grow K ρ H (ρ++[p]) (v6 H p o):=⟨G2 _ _,λ_ _ h=>z7.laid a h⟩
theorem ve.tracked(S:ve K ρ M H){n:Nat}{a:c9}(e:ρ[n]?=a7 a):(∃o,H a=a7 o)\/LY M[n]?:=by
 have f:n<M.length:=by rw[<-S.len];exact(x5.mp e).1
 have d:M[n]?=a7 M[n]:=x3 f;have h:=S.obj n a _ e d;rw[d];cases c:M[n] with
 |lst ds=>rw[c]at h;obtain⟨vs,h,_⟩:=h;exact .inl ⟨_,h⟩
 |fz ds=>rw[c]at h;obtain⟨o,vs,h,_⟩:=h;exact .inl ⟨_,h⟩
 |kl ds=>exact .inr ⟨ds,rfl⟩
 |dct s=>rw[c]at h;obtain⟨vs,h,_⟩:=h;exact .inl ⟨_,h⟩
 |dkt s=>rw[c]at h;obtain⟨_,_,_,xs,h,_⟩:=h;exact .inl ⟨_,h⟩
 |dkq s=>rw[c]at h;obtain⟨_,_,_,xs,⟨_,h⟩,_⟩:=h;exact .inl ⟨_,h⟩
 |fdc o s=>rw[c]at h;obtain⟨vs,h,_⟩:=h;exact .inl ⟨_,h⟩
 |dkm s=>rw[c]at h;obtain⟨_,_,_,xs,h,_⟩:=h;exact .inl ⟨_,h⟩
 |tb x b=>rw[c]at h;obtain⟨_,ps,h,_⟩:=h;exact .inl ⟨_,h⟩
 |exc x=>rw[c]at h;obtain⟨_,_,h⟩:=h;exact .inl ⟨_,h⟩
theorem yL.grow(g:Grow K ρ H ρ' H')(hs:H' a=H a\/LY (a7 mo))(h:yL K ρ H a mo):yL K ρ' H' a mo:=by
 cases mo with
 |lst ds =>
  obtain⟨vs,e,r⟩:=h;rcases hs with hs|⟨_,z⟩
  exact⟨vs,by rw[hs];exact e,r.grow g⟩;cases z
 |fz ds =>
  obtain⟨o,vs,e,r⟩:=h;rcases hs with hs|⟨_,z⟩
  exact⟨o,vs,by rw[hs];exact e,r.grow g⟩;cases z
 |fdc o s =>
  obtain⟨vs,e,r⟩:=h;rcases hs with hs|⟨_,z⟩
  exact⟨vs,by rw[hs];exact e,r.grow g⟩;cases z
 |tb x b =>
  obtain⟨c,ps,e,q⟩:=h;rcases hs with hs|⟨_,z⟩
  exact⟨c,ps,by rw[hs];exact e,q⟩;cases z
 |exc x =>
  obtain⟨C,e,q⟩:=h;rcases hs with hs|⟨_,z⟩
  exact⟨C,e,by rw[hs];exact q⟩;cases z
 |kl ds=>obtain⟨vs,e,r⟩:=h;exact⟨vs,e,r.grow g⟩
 |dkm s =>
  obtain⟨h1,h2,d,xs,e,r⟩:=h;rcases hs with hs|⟨_,z⟩
  exact⟨h1,h2,d,xs,by rw[hs];exact e,Paired.mapP r λ_ _ ⟨f,j,⟨u,k,m⟩,v,i,l⟩=>⟨f,j,⟨u,k.grow g,m⟩,v,i.grow g,l⟩⟩;cases z
 |dct s =>
  obtain⟨vs,e,r⟩:=h;rcases hs with hs|⟨_,z⟩
  exact⟨vs,by rw[hs];exact e,r.grow g⟩;cases z
 |dkt s =>
  obtain⟨h1,h2,d,xs,e,r⟩:=h;rcases hs with hs|⟨_,z⟩
  exact⟨h1,h2,d,xs,by rw[hs];exact e,Paired.mapP r λ_ _ ⟨f,j,k,v,i,l⟩=>⟨f,j,k.grow g,v,i.grow g,l⟩⟩;cases z
 |dkq s =>
  obtain⟨h1,h2,d,xs,e,r⟩:=h;rcases hs with hs|⟨_,z⟩
  exact⟨h1,h2,d,xs,by rw[hs];exact e,Paired.mapP r λ_ _ ⟨f,j,k,v,i,l⟩=>⟨f,j,k.grow g,v,i.grow g,l⟩⟩;cases z
theorem ve.keeps{p:c9}{o:HO}(S:ve K ρ M H)(h:H p=a8){n:Nat}{a:c9}{mo:MO}(t:ρ[n]?=a7 a)(l:M[n]?=a7 mo):v6 H p o a=H a\/LY (a7 mo):=by rcases S.tracked t with⟨c,b⟩|q;exact .inl<|ag<|ad b h;rw[l]at q;exact .inr q
theorem ve.laid{p:c9}{o:HO}(S:ve K ρ M H)(h:H p=a8):ve K ρ M (v6 H p o):=⟨S.nd,S.len,λn a m t l=>(S.obj n a m t l).grow (Grow.laid h)<|S.keeps h t l⟩
theorem be{α:Type}{l:List α}{x y:α}{n:Nat}(h:(l++[x])[n]?=a7 y):l[n]?=a7 y\/(n=l.length/\y=x):=by
 by_cases f:n<l.length;rw[J2 f]at h;exact .inl h;have a:n=l.length:=by have:=(x5.mp h).1;rw[A1,K0]at this;lia
 subst a;rw[Mf<|u5 _,Nr]at h;simp at h;exact .inr ⟨rfl,h.symm⟩
theorem LY.more{mo:MO}{n:Nat}(h:LY M[n]?):LY (M++[mo])[n]?:=by obtain⟨ds,e⟩:=h;exact⟨ds,by rw[J2 (x5.mp e).1];exact e⟩
theorem ve.laidL{p:c9}{ds:List D}{vs:List V}(S:ve K ρ M H)(c:H p=a8)(r:Reps K ρ H ds vs):ve K (ρ++[p]) (M++[.lst ds]) (v6 H p<|.lst vs):=by
 have g:Grow K ρ H (ρ++[p]) (v6 H p<|.lst vs):=Grow.laidR c;have d:∀(n:Nat),ρ[n]?=a7 p->LY M[n]?:=λn e=>by rcases S.tracked e with⟨o,q⟩|q;rw[c]at q;cases q;exact q
 refine⟨λn m a h t l=>?_,by rw[A1,A1,S.len];rfl,λn a k t l=>?_⟩;rcases be t with f|⟨f,g1⟩
 rcases be l with b|⟨b,i⟩
 exact(S.nd n m a h f b).elim (λz=>.inl z.more) λz=>.inr z.more;subst i;exact .inl (d n f).more;rcases be l with b|⟨b,i⟩
 subst g1;exact .inr (d m b).more;exact o5 (f.trans b.symm) h;rcases be t with f|⟨f,g1⟩
 have j:n<M.length:=by rw[<-S.len];exact(x5.mp f).1
 rw[J2 j]at l;exact(S.obj n a k f l).grow g<|S.keeps c f l;subst g1 f;rw[S.len,Mf<|u5 _,Nr]at l;simp at l;subst l;exact⟨vs,aK,r.grow g⟩
theorem ve.last(S:ve K ρ M H):(ρ++[p])[M.length]?=a7 p:=by rw[<-S.len,Mf<|u5 _,Nr];rfl
theorem ve.write(S:ve K ρ M H)(t:ρ[n]?=a7 a)(u:M[n]?=a7 (.lst ds))(s:H a=a7 (.lst vs))(r:Reps K ρ H ds' vs'):ve K ρ (M.set n<|.lst ds') (v6 H a<|.lst vs')/\Grow K ρ H ρ (v6 H a<|.lst vs'):=by
 have g:Grow K ρ H ρ (v6 H a<|.lst vs'):=⟨N1,λ_ _ h=>z7.written s h⟩
 have k:∀m,m≠n->(M.set n<|.lst ds')[m]?=M[m]?:=λm e=>L8<|w9 e;have c:¬LY M[n]?:=λ⟨_,z⟩=>by rw[u]at z;cases z
 refine⟨⟨λm l b i d f=>?_,by rw[J7];exact S.len,λm b o d f=>?_⟩,g⟩;have q:=S.nd m l b i d f;by_cases h1:m=n;subst h1;rw[k l<|w9 i];exact .inr<|q.resolve_left c;rw[k m h1];by_cases h2:l=n;subst h2;exact .inl<|q.resolve_right c;rw[k l h2];exact q;by_cases e:m=n;subst e;have j:b=a:=A5<|d.symm.trans t;subst j;rw[Mr<|by rw[<-S.len];exact(x5.mp t).1]at f;cases f;exact⟨vs',aK,r.grow g⟩;rw[k m e]at f;by_cases j:b=a;subst j;have q:=S.nd m n b e d t;have p:=q.resolve_right c;rw[f]at p;exact(S.obj m b o d f).grow g<|.inr p;exact(S.obj m b o d f).grow g<|.inl<|ag j
theorem ar.seq(S:ve K ρ M H)(h:ar M n xs)(e:ρ[n]?=a7 a):∃vs,I0 K H a vs/\Reps K ρ H xs vs:=by rcases h with h|h|h;obtain⟨vs,q,r⟩:=S.obj n a _ e h;exact⟨vs,.inl<|.inl q,r⟩;obtain⟨o,vs,q,r⟩:=S.obj n a _ e h;exact⟨vs,.inl<|.inr ⟨o,q⟩,r⟩;obtain⟨vs,q,r⟩:=S.obj n a _ e h;exact⟨vs,.inr q,r⟩
theorem ve.get(S:ve K ρ M H){n:Nat}{mo:MO}(e:M[n]?=a7 mo):∃a,ρ[n]?=a7 a/\yL K ρ H a mo:=by
 have f:n<ρ.length:=by rw[S.len];exact(x5.mp e).1
 exact⟨ρ[n],x3 f,S.obj n _ mo (x3 f) e⟩
end
noncomputable abbrev SD:=List<|Option D
structure SRep(K:u4)(ρ:List c9)(H:Hp)(S:SD)(σ:St):Prop where
 len:S.length=σ.length
 get:∀(i:Nat) (d:D),S[i]?=a7 (a7 d)->∃v,σ[i]?=a7 (a7 v)/\u3 K ρ H d v
theorem SRep.grow{K:u4}{ρ a:List c9}{H H':Hp}{S:SD}{σ:St}(r:SRep K ρ H S σ)(g:Grow K ρ H a H'):SRep K a H' S σ:=⟨r.len,λi d e=>let ⟨v,h1,h2⟩:=r.get i d e;⟨v,h1,h2.grow g⟩⟩
theorem SRep.set{K:u4}{ρ:List c9}{H:Hp}{S:SD}{σ:St}(r:SRep K ρ H S σ)(i:Nat){d:D}{v:V}(h:u3 K ρ H d v):SRep K ρ H (S.set i<|a7 d) (σ.set i<|a7 v):=by refine⟨by rw[J7,J7];exact r.len,λj e L=>?_⟩;by_cases a:i=j;subst a;by_cases g:i<S.length;rw[Mr g]at L;cases L;exact⟨v,by rw[Mr<|by rw[<-r.len];exact g],h⟩;rw[M8<|by rw[J7];lia]at L;cases L;rw[L8 a]at L;rw[L8 a];exact r.get j e L
abbrev DK:=D->t7->Prop
abbrev v5:=SD->t7->DK->Prop
abbrev E6:=SD->t7->(Bool->t7->Prop)->Prop
abbrev F7:=SD->t7->(List D->t7->Prop)->Prop
structure DEnds where
 nx:SD->t7->Prop
 rt:DK
 bk:SD->t7->Prop:=λ_ _=>False
 ct:SD->t7->Prop:=λ_ _=>False
abbrev s9:=DEnds->SD->t7->Prop
abbrev J4:=D->SD->t7->(SD->t7->Prop)->Prop
abbrev Fo:=List D->SD->t7->(SD->t7->Prop)->Prop
abbrev E4:=D->D->t7->DK->Prop
abbrev O3:=D->t7->DK->Prop
abbrev C6:=List D->t7->DK->Prop
section
variable(K:u4)
inductive VQ(ρ:List c9)(H:Hp)(Q:DK)(v:V)(H':Hp):Prop
 |mk (d:D) (M':t7) (ρ':List c9) (s:ve K ρ' M' H') (g:Grow K ρ H ρ' H') (r:u3 K ρ' H' d v) (q:Q d M')
inductive BQ(ρ:List c9)(H:Hp)(Q:Bool->t7->Prop)(b:Bool)(H':Hp):Prop
 |mk (M':t7) (ρ':List c9) (s:ve K ρ' M' H') (g:Grow K ρ H ρ' H') (q:Q b M')
inductive AQ(ρ:List c9)(H:Hp)(Q:List D->t7->Prop)(vs:List V)(H':Hp):Prop
 |mk (ds:List D) (M':t7) (ρ':List c9) (s:ve K ρ' M' H') (g:Grow K ρ H ρ' H') (r:Reps K ρ' H' ds vs) (q:Q ds M')
inductive SQ(ρ:List c9)(H:Hp)(Q:SD->t7->Prop)(σ':St)(H':Hp):Prop
 |mk (S':SD) (M':t7) (ρ':List c9) (s:ve K ρ' M' H') (g:Grow K ρ H ρ' H') (r:SRep K ρ' H' S' σ') (q:Q S' M')
structure PM(ρ:List c9)(H:Hp)(F:DEnds)(E:Ends):Prop where
 nx:∀σ' H',SQ K ρ H F.nx σ' H'->E.nx σ' H'
 rt:∀v H',VQ K ρ H F.rt v H'->E.rt v H'
 bk:∀σ' H',SQ K ρ H F.bk σ' H'->E.bk σ' H'
 ct:∀σ' H',SQ K ρ H F.ct σ' H'->E.ct σ' H'
inductive lowE(t:v5)(σ:St)(H:Hp)(R:VK):Prop
 |mk (S:SD) (M:t7) (ρ:List c9) (Q:DK) (s:ve K ρ M H) (sr:SRep K ρ H S σ) (q:t S M Q) (k:∀v H',VQ K ρ H Q v H'->R v H')
inductive lowT(t:E6)(σ:St)(H:Hp)(R:Bool->Hp->Prop):Prop
 |mk (S:SD) (M:t7) (ρ:List c9) (Q:Bool->t7->Prop) (s:ve K ρ M H) (sr:SRep K ρ H S σ) (q:t S M Q) (k:∀v H',BQ K ρ H Q v H'->R v H')
inductive lowA(t:F7)(σ:St)(H:Hp)(R:List V->Hp->Prop):Prop
 |mk (S:SD) (M:t7) (ρ:List c9) (Q:List D->t7->Prop) (s:ve K ρ M H) (sr:SRep K ρ H S σ) (q:t S M Q) (k:∀v H',AQ K ρ H Q v H'->R v H')
inductive lowS(t:s9)(E:Ends)(σ:St)(H:Hp):Prop
 |mk (S:SD) (M:t7) (ρ:List c9) (F:DEnds) (s:ve K ρ M H) (sr:SRep K ρ H S σ) (q:t F S M) (k:PM K ρ H F E)
inductive lowG(g:J4)(v:V)(σ:St)(H:Hp)(R:St->Hp->Prop):Prop
 |mk (d:D) (S:SD) (M:t7) (ρ:List c9) (Q:SD->t7->Prop) (s:ve K ρ M H) (sr:SRep K ρ H S σ) (r:u3 K ρ H d v) (q:g d S M Q) (k:∀σ' H',SQ K ρ H Q σ' H'->R σ' H')
inductive lowGs(g:Fo)(vs:List V)(σ:St)(H:Hp)(R:St->Hp->Prop):Prop
 |mk (ds:List D) (S:SD) (M:t7) (ρ:List c9) (Q:SD->t7->Prop) (s:ve K ρ M H) (sr:SRep K ρ H S σ) (r:Reps K ρ H ds vs) (q:g ds S M Q) (k:∀σ' H',SQ K ρ H Q σ' H'->R σ' H')
inductive lowR(r:E4)(vx vy:V)(H:Hp)(R:VK):Prop
 |mk (x y:D) (M:t7) (ρ:List c9) (Q:DK) (s:ve K ρ M H) (r1:u3 K ρ H x vx) (r2:u3 K ρ H y vy) (q:r x y M Q) (k:∀v H',VQ K ρ H Q v H'->R v H')
inductive lowU(r:O3)(vx:V)(H:Hp)(R:VK):Prop
 |mk (x:D) (M:t7) (ρ:List c9) (Q:DK) (s:ve K ρ M H) (r1:u3 K ρ H x vx) (q:r x M Q) (k:∀v H',VQ K ρ H Q v H'->R v H')
inductive lowC(r:C6)(vs:List V)(H:Hp)(R:VK):Prop
 |mk (ds:List D) (M:t7) (ρ:List c9) (Q:DK) (s:ve K ρ M H) (r1:Reps K ρ H ds vs) (q:r ds M Q) (k:∀v H',VQ K ρ H Q v H'->R v H')
end
def DE(X:Cx)(e:ge)(t:v5):Prop:=PE X e<|lowE X.K t
def DT(X:Cx)(e:ge)(t:E6):Prop:=PT X e<|lowT X.K t
def DW(X:Cx)(e:ge)(t:E6):Prop:=PW X e<|lowT X.K t
def DA(X:Cx)(es:List ge)(t:F7):Prop:=PA X es<|lowA X.K t
def DS(X:Cx)(st:i6)(t:s9):Prop:=PS X st<|lowS X.K t
def MJ(X:Cx)(st:List i6)(t:s9):Prop:=J3 X st<|lowS X.K t
def DG(X:Cx)(t:ge)(g:J4):Prop:=PG X t<|lowG X.K g
def O4(X:Cx)(t:List ge)(g:Fo):Prop:=OY X t<|lowGs X.K g
def F6(X:Cx)(f:c5->c5->Sem c5)(r:E4):Prop:=C2 X f<|lowR X.K r
def QU(X:Cx)(f:c5->Sem c5)(r:O3):Prop:=PN X f<|lowU X.K r
def lV(X:Cx)(f:c5)(r:C6):Prop:=ja X f<|lowC X.K r
section
variable{K:u4}{ρ ρ1:List c9}{H H1:Hp}
theorem VQ.trans(g:Grow K ρ H ρ1 H1)(h:VQ K ρ1 H1 Q v H'):VQ K ρ H Q v H':=by obtain⟨d,M,a,s,b,r,q⟩:=h;exact⟨d,M,a,s,g.trans b,r,q⟩
theorem BQ.trans(g:Grow K ρ H ρ1 H1)(h:BQ K ρ1 H1 Q v H'):BQ K ρ H Q v H':=by obtain⟨M,a,s,b,q⟩:=h;exact⟨M,a,s,g.trans b,q⟩
theorem SQ.trans(g:Grow K ρ H ρ1 H1)(h:SQ K ρ1 H1 Q v H'):SQ K ρ H Q v H':=by obtain⟨d,M,a,s,b,r,q⟩:=h;exact⟨d,M,a,s,g.trans b,r,q⟩
theorem PM.trans(g:Grow K ρ H ρ1 H1)(h:PM K ρ H F E):PM K ρ1 H1 F E:=⟨λa H' q=>h.nx a H'<|SQ.trans g q,λv H' q=>h.rt v H'<|VQ.trans g q,λa H' q=>h.bk a H'<|SQ.trans g q,λa H' q=>h.ct a H'<|SQ.trans g q⟩
theorem VQ.now(s:ve K ρ M H)(r:u3 K ρ H d v)(q:Q d M):VQ K ρ H Q v H:=⟨d,M,ρ,s,.refl,r,q⟩
end
section
variable{K:u4}{ρ:List c9}{H:Hp}{v:V}{vs:List V}
theorem u3.inv_non(h:u3 K ρ H .non v):v=.non:=by cases h;rfl
theorem u3.inv_bl(h:u3 K ρ H (.bl b) v):v=.bl b:=by cases h;rfl
theorem u3.inv_int(h:u3 K ρ H (.int i) v):v=.int i:=by cases h;rfl
theorem u3.inv_str(h:u3 K ρ H (.str x) v):v=.str x:=by cases h;rfl
theorem u3.inv_ty(h:u3 K ρ H (.ty n) v):v=.ty n:=by cases h;rfl
theorem u3.inv_tup(h:u3 K ρ H (.tup ds) v):∃a vs,v=.ref a/\z7 K H a vs/\Reps K ρ H ds vs:=by cases h with|tup h r=>exact⟨_,_,rfl,h,r⟩
theorem u3.inv_ref(h:u3 K ρ H (.ref n) v):∃a,v=.ref a/\ρ[n]?=a7 a:=by cases h with|ref h=>exact⟨_,rfl,h⟩
theorem av.inv_cons(h:av (x::vs) us):∃u ws,us=u::ws/\aV x u/\av vs ws:=by cases h with|cons h t=>exact⟨_,_,rfl,h,t⟩
theorem av.inv_nil(h:av [] us):us=[]:=by cases h;rfl
theorem Reps.inv_nil(h:Reps K ρ H [] vs):vs=[]:=by cases h;rfl
theorem Reps.inv_cons(h:Reps K ρ H (d::ds) vs):∃v ws,vs=v::ws/\u3 K ρ H d v/\Reps K ρ H ds ws:=by cases h with|cons h t=>exact⟨_,_,rfl,h,t⟩
end
end
theorem PE.imp(h:PE X e t')(i:∀σ H R,t σ H R->t' σ H R):PE X e t:=λp s σ H R I q=>h p s σ H R I<|i σ H R q
theorem PT.imp(h:PT X e t')(i:∀σ H R,t σ H R->t' σ H R):PT X e t:=λp s σ H R I q=>h p s σ H R I<|i σ H R q
theorem PW.imp(h:PW X e t')(i:∀σ H R,t σ H R->t' σ H R):PW X e t:=λw p s σ H R I q=>h w p s σ H R I<|i σ H R q
theorem PA.imp(h:PA X e t')(i:∀σ H R,t σ H R->t' σ H R):PA X e t:=λa p s σ H R I q=>h a p s σ H R I<|i σ H R q
theorem PS.imp(h:PS X e t')(i:∀E σ H,t E σ H->t' E σ H):PS X e t:=λp s σ H R I q=>h p s σ H R I<|i R σ H q
theorem J3.imp(h:J3 X e t')(i:∀E σ H,t E σ H->t' E σ H):J3 X e t:=λp s σ H R I q=>h p s σ H R I<|i R σ H q
theorem C2.imp(h:C2 X f r')(i:∀x y H R,r x y H R->r' x y H R):C2 X f r:=λp s σ H x y v u R I a b q=>h p s σ H x y v u R I a b<|i x y H R q
theorem ja.imp(h:ja X f r')(i:∀xs H R,r xs H R->r' xs H R):ja X f r:=λp s σ H xs us R I a q=>h p s σ H xs us R I a<|i xs H R q
section
variable{X:Cx}{a b c:ge}{ta tb tc:v5}{pos:i3}
def ab(i:Nat):v5:=λS M Q=>match S[i]? with
 |some (a7 d)=>Q d M
 |_=>False
def dC(d:D):v5:=λ_ M Q=>Q d M
theorem De{K:u4}{i:Nat}(σ:St)(H:Hp)(R:VK)(h:lowE K (ab i) σ H R):tVar i σ H R:=by
 obtain⟨S,M,ρ,Q,s,r,q,k⟩:=h;unfold ab at q;cases e:S[i]? with
 |none=>rw[e]at q;exact q.elim
 |some o =>
  cases o with
  |none=>rw[e]at q;exact q.elim
  |some d=>rw[e]at q;obtain⟨v,c,a⟩:=r.get i d e;exact⟨v,c,k v H<|VQ.now s a q⟩
theorem d_var(h:X.N[i]?=a7 x:=by rfl)(c:NL X.env.scope x:=by first|exact Or.inl rfl|exact Or.inr (Or.inl rfl)|exact Or.inr<|Or.inr rfl)(a:(x==("__debug__":c6))=bt:=by decide)(d:(x==("__classdict__":c6))=bt:=by decide):DE X (.Name x pos) (ab i):=PE.imp (EQ h c a d) De
noncomputable def cV:D->Option V
 |.non=>a7 .non
 |.bl b=>a7<|.bl b
 |.int i=>a7<|.int i
 |.str x=>a7<|.str x
 |.ty n=>a7<|.ty n
 |_=>a8
theorem BB{K:u4}{ρ:List c9}{H:Hp}{d:D}{v:V}(h:cV d=a7 v):u3 K ρ H d v:=by
 cases d with
 |non=>cases h;exact .non
 |bl b=>cases h;exact .bl b
 |int b=>cases h;exact .int b
 |str b=>cases h;exact .str b
 |ty b=>cases h;exact .ty b
 |tup b=>cases h
 |ref b=>cases h
theorem sJ{K:u4}{d:D}{v:V}(a:cV d=a7 v)(σ:St)(H:Hp)(R:VK)(h:lowE K (dC d) σ H R):tC v σ H R:=by obtain⟨S,M,ρ,Q,s,r,q,k⟩:=h;exact k v H<|VQ.now s (BB a) q
theorem d_int{i:Int}{j:Nat}:DE X (.Constant (.int i) j pos) (dC<|.int i):=PE.imp Ju<|sJ rfl
theorem d_bl{i:Bool}{j:Nat}:DE X (.Constant (.bool i) j pos) (dC<|.bl i):=PE.imp pe_bl<|sJ rfl
theorem d_non{j:Nat}:DE X (.Constant .none j pos) (dC .non):=PE.imp Js<|sJ rfl
theorem d_str{i:c6}{j:Nat}:DE X (.Constant (.str i) j pos) (dC<|.str i):=PE.imp Jp<|sJ rfl
theorem Lo{x:c6}{T:String}(m:X.mg x=a8)(c:e8 x=a7 (.type T))(S:Gl X x:=by rfl)(f:x≠"__name__":=by decide)(d:(x==("__debug__":c6))=bt:=by decide):DE X (.Name x pos) (dC<|.ty T):=PE.imp (Gc (v:=.ty T) S m c rfl f d)<|sJ rfl
theorem low2{K:u4}{S:SD}{M:t7}{ρ:List c9}{σ:St}{H:Hp}{P:D->D->t7->Prop}{G:V->V->Hp->Prop}(s:ve K ρ M H)(r:SRep K ρ H S σ)(h:ta S M λx M1=>tb S M1 λy M2=>P x y M2)(k:∀x y vx vy M2 ρ2 H2,ve K ρ2 M2 H2->Grow K ρ H ρ2 H2->u3 K ρ2 H2 x vx->u3 K ρ2 H2 y vy->P x y M2->G vx vy H2):lowE K ta σ H λvx H1=>lowE K tb σ H1 λvy H2=>G vx vy H2:=by refine⟨S,M,ρ,_,s,r,h,?_⟩;rintro vx H1 ⟨x,M1,c,f,g1,a,q⟩;refine⟨S,M1,c,_,f,r.grow g1,q,?_⟩;rintro vy H2 ⟨y,M2,ρ2,w,i,m,j⟩;exact k x y vx vy M2 ρ2 H2 w (g1.trans i) (a.grow i) m j
def r9(r:E4)(t c:v5):v5:=λS M Q=>t S M λx a=>c S a λy b=>r x y b Q
theorem qg{K:u4}{r:E4}(σ:St)(H:Hp)(R:VK)(h:lowE K (r9 r ta tb) σ H R):OM (lowR K r) (lowE K ta) (lowE K tb) σ H R:=by obtain⟨S,M,ρ,Q,s,e,q,k⟩:=h;exact low2 s e q λx y g l b d f c i a m j=>⟨x,y,b,d,Q,c,a,m,j,λv H' w=>k v H'<|VQ.trans i w⟩
theorem d_op(B:F6 X (j6 op) r)(f:DE X a ta)(d:DE X b tb):DE X (.BinOp a op b pos) (r9 r ta tb):=PE.imp (pe_op B f d) qg
theorem d_cmp(B:F6 X (j7 op) r)(f:DE X a ta)(d:DE X b tb)(m:j8 op b=bt:=by with_unfolding_all rfl):DE X (.Compare a [op] [b] pos) (r9 r ta tb):=PE.imp (Ga B f d m) qg
def aq(t:v5):E6:=λS M Q=>t S M λx a=>match x with
 |.bl b=>Q b a
 |_=>False
theorem sI{K:u4}{t:v5}(σ:St)(H:Hp)(R:Bool->Hp->Prop)(h:lowT K (aq t) σ H R):IM (lowE K t) σ H R:=by
 obtain⟨S,M,ρ,Q,s,e,q,k⟩:=h;refine⟨S,M,ρ,_,s,e,q,?_⟩;rintro v H' ⟨d,c,a,s',g,r',j⟩;cases r' with
 |bl b=>exact⟨b,rfl,k b H' ⟨c,a,s',g,j⟩⟩
 |_=>exact j.elim
theorem La(B:F6 X (j7 op) r)(f:DE X a ta)(d:DE X b tb)(m:j8 op b=bt:=by with_unfolding_all rfl):DT X (.Compare a [op] [b] pos) (aq<|r9 r ta tb):=by refine PT.imp (FR B f d m) λσ H R h=>?_;obtain⟨S,M,ρ,Q,s,e,q,k⟩:=sI σ H R h;exact qg σ H _ ⟨S,M,ρ,Q,s,e,q,k⟩
theorem KW(h:DE X e t)(i:∀whole,isTrue e X.env whole=(do let v <-whole;standAt e.pos;i7 [v] (truthy v)):=by intro _;rfl):DT X e (aq t):=PT.imp (Jg h i) sI
def PL(z:D)(k:Bool->Prop):Prop:=match z with
 |.bl b=>k b
 |_=>False
theorem ER{b:Bool}{k:Bool->Prop}:PL (.bl b) k=k b:=rfl
def tM(r r':E4)(t f g:v5):v5:=λS M Q=>t S M λx c=>f S c λy d=>r x y d λz a=>PL z λb=>if b=a9 then g S a λw e=>r' y w e Q else Q (.bl bt) a
theorem yd{K:u4}{r r':E4}(σ:St)(H:Hp)(R:VK)(h:lowE K (tM r r' ta tb tc) σ H R):EN (lowR K r) (lowR K r') (lowE K ta) (lowE K tb) (lowE K tc) σ H R:=by
 obtain⟨S,M,ρ,Q,s,l,q,k⟩:=h;refine low2 s l q λx y J L o e F C i A m t=>⟨x,y,o,e,_,C,A,m,t,?_⟩
 rintro N n ⟨z,c,a,j,g3,D,d⟩;cases D with
 |bl b =>
  cases b with
  |false=>exact⟨bt,rfl,bq<|k _ n ⟨_,c,a,j,i.trans g3,.bl bt,(show Q (.bl bt) c from d)⟩⟩
  |true=>refine⟨a9,rfl,bA ⟨S,c,a,_,j,l.grow<|i.trans g3,(show tc S c _ from d),?_⟩⟩;rintro I G ⟨w,p,f,E,g,B,u⟩;exact⟨y,w,p,f,Q,E,m.grow<|g3.trans g,B,u,λv H' Y=>k v H'<|VQ.trans ((i.trans g3).trans g) Y⟩
 |_=>exact d.elim
theorem HU(B:F6 X (j7 op) r)(h:F6 X (j7 op') r')(f:DE X a ta)(d:DE X b tb)(e:DE X c tc)(m:lastMarks [op,op'] [b,c]=bt:=by with_unfolding_all rfl):DE X (.Compare a [op,op'] [b,c] pos) (tM r r' ta tb tc):=PE.imp (CI B h f d e m) yd
variable{tA tB:E6}{bf:List ge}
def vE(t u:E6):E6:=λS M Q=>t S M λb a=>if b=a9 then u S a Q else Q bt a
def Mh(t u:E6):E6:=λS M Q=>t S M λb a=>if b=a9 then Q a9 a else u S a Q
def Bs(t:E6):E6:=λS M Q=>t S M λb a=>Q (!b) a
theorem Hs(f:DT X a tA):DW X (.BoolOp .And [a] pos) tA:=FO f
theorem KR(f:DT X a tA):DW X (.BoolOp .Or [a] pos) tA:=Je f
theorem KU(i:DT X a tA)(j:DW X (.BoolOp .And (b::bf) pos) tB):DW X (.BoolOp .And (a::b::bf) pos) (vE tA tB):=by
 refine PW.imp (Jf i j) ?_;rintro σ H R ⟨S,M,ρ,Q,s,r,q,k⟩;refine⟨S,M,ρ,_,s,r,q,?_⟩;rintro c h ⟨e,d,g,g1,f⟩;cases c with
 |true=>exact bA ⟨S,e,d,Q,g,r.grow g1,(show tB S e Q from f),λv H' w=>k v H'<|BQ.trans g1 w⟩
 |false=>exact bq<|k bt h ⟨e,d,g,g1,f⟩
theorem dw_or(i:DT X a tA)(j:DW X (.BoolOp .Or (b::bf) pos) tB):DW X (.BoolOp .Or (a::b::bf) pos) (Mh tA tB):=by
 refine PW.imp (pw_or i j) ?_;rintro σ H R ⟨S,M,ρ,Q,s,r,q,k⟩;refine⟨S,M,ρ,_,s,r,q,?_⟩;rintro c h ⟨e,d,g,g1,f⟩;cases c with
 |false=>exact bq ⟨S,e,d,Q,g,r.grow g1,(show tB S e Q from f),λv H' w=>k v H'<|BQ.trans g1 w⟩
 |true=>exact bA<|k a9 h ⟨e,d,g,g1,f⟩
theorem dw_t(h:DW X e t):DT X e t:=PW.pt h
theorem KZ(f:DT X a tA):DT X (.UnaryOp .Not a pos) (Bs tA):=by refine PT.imp (Jh f) ?_;rintro σ H R ⟨S,M,ρ,Q,s,r,q,k⟩;refine⟨S,M,ρ,_,s,r,q,?_⟩;rintro c d ⟨e,b,h,g1,g⟩;exact k (!c) d ⟨e,b,h,g1,g⟩
def tN(t c:v5):v5:=λS M Q=>t S M λx a=>PL x λb=>if b=a9 then c S a Q else Q (.bl bt) a
def Ir(t c:v5):v5:=λS M Q=>t S M λx a=>PL x λb=>if b=a9 then Q (.bl a9) a else c S a Q
def El(t:v5):v5:=λS M Q=>t S M λx a=>match x with
 |.bl b=>Q (.bl<|!b) a
 |_=>False
theorem d_one{op}(h:DE X a ta):DE X (.BoolOp op [a] pos) ta:=Jq h
theorem d_and(j:DE X a ta)(l:DE X (.BoolOp .And (b::bf) pos) tb):DE X (.BoolOp .And (a::b::bf) pos) (tN ta tb):=by
 refine PE.imp (Jx j l) ?_;rintro σ H R ⟨S,M,ρ,Q,s,r,q,k⟩;refine⟨S,M,ρ,_,s,r,q,?_⟩;rintro v i ⟨d,f,e,h,g1,m,g⟩;cases m with
 |bl c =>
  cases c with
  |true=>exact⟨a9,rfl,bA ⟨S,f,e,Q,h,r.grow g1,(show tb S f Q from g),λv H' w=>k v H'<|VQ.trans g1 w⟩⟩
  |false=>exact⟨bt,rfl,bq<|k _ i ⟨_,f,e,h,g1,.bl bt,(show Q (.bl bt) f from g)⟩⟩
 |_=>exact g.elim
theorem d_or(j:DE X a ta)(l:DE X (.BoolOp .Or (b::bf) pos) tb):DE X (.BoolOp .Or (a::b::bf) pos) (Ir ta tb):=by
 refine PE.imp (pe_or j l) ?_;rintro σ H R ⟨S,M,ρ,Q,s,r,q,k⟩;refine⟨S,M,ρ,_,s,r,q,?_⟩;rintro v i ⟨d,f,e,h,g1,m,g⟩;cases m with
 |bl c =>
  cases c with
  |false=>exact⟨bt,rfl,bq ⟨S,f,e,Q,h,r.grow g1,(show tb S f Q from g),λv H' w=>k v H'<|VQ.trans g1 w⟩⟩
  |true=>exact⟨a9,rfl,bA<|k _ i ⟨_,f,e,h,g1,.bl a9,(show Q (.bl a9) f from g)⟩⟩
 |_=>exact g.elim
theorem d_not(h:DE X a ta):DE X (.UnaryOp .Not a pos) (El ta):=by
 refine PE.imp (Jr h) ?_;rintro σ H R ⟨S,M,ρ,Q,s,j,q,k⟩;refine⟨S,M,ρ,_,s,j,q,?_⟩;rintro v f ⟨d,g,b,i,g1,r,e⟩;cases r with
 |bl c=>exact⟨c,rfl,k _ f ⟨_,g,b,i,g1,.bl<|!c,e⟩⟩
 |_=>exact e.elim
def dIfE(t:E6)(c d:v5):v5:=λS M Q=>t S M λb a=>if b=a9 then c S a Q else d S a Q
theorem HR(j:DT X t tA)(h:DE X a ta)(i:DE X b tb):DE X (.IfExp t a b pos) (dIfE tA ta tb):=by
 refine PE.imp (CF j h i) ?_;rintro σ H R ⟨S,M,ρ,Q,s,r,q,k⟩;refine⟨S,M,ρ,_,s,r,q,?_⟩;rintro c l ⟨e,d,g,g1,f⟩;cases c with
 |true=>exact bA ⟨S,e,d,Q,g,r.grow g1,(show ta S e Q from f),λv H' w=>k v H'<|VQ.trans g1 w⟩
 |false=>exact bq ⟨S,e,d,Q,g,r.grow g1,(show tb S e Q from f),λv H' w=>k v H'<|VQ.trans g1 w⟩
variable{e:ge}{es:List ge}{te:v5}{t:F7}
def af:F7:=λ_ M Q=>Q [] M
def aa(te:v5)(t:F7):F7:=λS M Q=>te S M λd a=>t S a λds b=>Q (d::ds) b
theorem Ln:DA X [] af:=by refine PA.imp Jy ?_;rintro σ H R ⟨S,M,ρ,Q,s,e,q,k⟩;exact k [] H ⟨[],M,ρ,s,.refl,.nil,q⟩
theorem HP(h:DE X e te)(j:DA X es t)(hs:i5 (e::es) X.env=(bt,eval e X.env)::i5 es X.env:=by rfl):DA X (e::es) (aa te t):=by refine PA.imp (Gd h j hs) ?_;rintro σ H R ⟨S,M,ρ,Q,s,r,q,k⟩;refine⟨S,M,ρ,_,s,r,q,?_⟩;rintro v u ⟨d,f,c,p,g1,n,l⟩;refine⟨S,f,c,_,p,r.grow g1,l,?_⟩;rintro vs b ⟨ds,g,a,w,i,o,m⟩;exact k _ b ⟨d::ds,g,a,w,g1.trans i,.cons (n.grow i) o,m⟩
def eG(t:F7):v5:=λS M Q=>t S M λds a=>ds.length<=sizeLine/\Q (.tup ds) a
def ko(t:F7):v5:=λS M Q=>t S M λds a=>ds.length<=sizeLine/\Q (.ref a.length) (a++[.lst ds])
theorem VQ.laidT{K:u4}{ρ c:List c9}{H a:Hp}{M:t7}{ds:List D}{vs:List V}{Q:DK}{p:c9}(f:ve K c M a)(g1:Grow K ρ H c a)(r:Reps K c a ds vs)(h:a p=a8)(q:Q (.tup ds) M):VQ K ρ H Q (.ref p) (v6 a p<|.tup vs):=⟨.tup ds,M,c,f.laid h,g1.trans<|Grow.laid h,.tup (z7.of aK)<|r.grow<|Grow.laid h,q⟩
theorem VQ.laidL{K:u4}{ρ c:List c9}{H a:Hp}{M:t7}{ds:List D}{vs:List V}{Q:DK}{p:c9}(f:ve K c M a)(g1:Grow K ρ H c a)(r:Reps K c a ds vs)(h:a p=a8)(q:Q (.ref M.length) (M++[.lst ds])):VQ K ρ H Q (.ref p) (v6 a p<|.lst vs):=⟨.ref M.length,M++[.lst ds],c++[p],f.laidL h r,g1.trans<|Grow.laidR h,.ref f.last,q⟩
theorem d_tup{x1}(h:DA X es t):DE X (.Tuple es x1 pos) (eG t):=by refine PE.imp (Jo h) ?_;rintro σ H R ⟨S,M,ρ,Q,s,e,q,k⟩;refine⟨S,M,ρ,_,s,e,q,?_⟩;rintro vs d ⟨ds,g,b,f,g1,r,z,c⟩;exact⟨by rw[<-r.length];exact z,λp a=>k _ _<|VQ.laidT f g1 r a c⟩
theorem d_lst(h:DA X es t):DE X (.List es pos) (ko t):=by refine PE.imp (Jt h) ?_;rintro σ H R ⟨S,M,ρ,Q,s,e,q,k⟩;refine⟨S,M,ρ,_,s,e,q,?_⟩;rintro vs d ⟨ds,g,b,f,g1,r,z,c⟩;exact⟨by rw[<-r.length];exact z,λp a=>k _ _<|VQ.laidL f g1 r a c⟩
def t6(r:C6)(t:F7):v5:=λS M Q=>t S M λds a=>r ds a Q
theorem Aw{K:u4}{r:C6}(σ:St)(H:Hp)(R:VK)(h:lowE K (t6 r t) σ H R):QS (lowC K r) (lowA K t) σ H R:=by obtain⟨S,M,ρ,Q,s,e,q,k⟩:=h;refine⟨S,M,ρ,_,s,e,q,?_⟩;rintro vs g ⟨ds,a,c,f,g1,d,b⟩;exact⟨ds,a,c,Q,f,d,b,λv H' w=>k v H'<|VQ.trans g1 w⟩
theorem HV{x:c6}{p:i3}{id:String}{r:C6}(c:lV X (.builtin id) r)(d:X.mg x=a8)(v:e8 x=a7 (.builtin id))(f:DA X (e::es) t)(S:Gl X x:=by rfl)(n:x≠"__name__":=by decide)(b:(x==("__debug__":c6))=bt:=by decide)(i:i5 (e::es) X.env=(bt,eval e X.env)::i5 es X.env:=by rfl) (l:(i4 pos<|i5 es X.env).any (·.1)=bt:=by rfl):DE X (.Call (.Name x p) (e::es) [] pos) (t6 r t):=PE.imp (CJ c S d v f n b i l) Aw
theorem Ek(c:lV X (.type T) r)(d:X.mg x=a8)(v:e8 x=a7 (.type T))(f:DA X (e::es) t)(S:Gl X x:=by rfl)(n:x≠"__name__":=by decide)(b:(x==("__debug__":c6))=bt:=by decide)(i:i5 (e::es) X.env=(bt,eval e X.env)::i5 es X.env:=by rfl) (l:(i4 pos<|i5 es X.env).any (·.1)=bt:=by rfl):DE X (.Call (.Name x p) (e::es) [] pos) (t6 r t):=PE.imp (zX c S d v f n b i l) Aw
abbrev w6:=List D->t7->DK->Prop
def MG(K:u4)(P:w6):Sp:=λvs H Q _=>∃ds M ρ R,ve K ρ M H/\Reps K ρ H ds vs/\P ds M R/\∀v H',VQ K ρ H R v H'->Q v H'
theorem Au{K:u4}{P:w6}(σ:St)(H:Hp)(R:VK)(h:lowE K (t6 P t) σ H R):IR (MG K P) [] E0 (lowA K t) σ H R:=by obtain⟨S,M,ρ,Q,s,e,q,k⟩:=h;exact⟨S,M,ρ,_,s,e,q,λvs d ⟨ds,a,c,f,g1,r,b⟩=>⟨ds,a,c,Q,f,by rw[G7];exact r,b,λv H' w=>k v H'<|VQ.trans g1 w⟩⟩
theorem Lu(F:FnOk X.prog X.w X.K X.mg X.base F8 k f fd ps (MG X.K P))(r:Room k X.A)(m:X.mg x=a7 (.ref f))(h:Nv X.K (.ref f)=a9)(d:ua X.K fd ps [])(a:DA X (e::es) t) (S:Gl X x:=by rfl) (b:(x==("__debug__":c6))=bt:=by decide) (i:i5 (e::es) X.env=(bt,eval e X.env)::i5 es X.env:=by rfl) (l:(i4 pos<|i5 es X.env).any (·.1)=bt:=by rfl):DE X (.Call (.Name x p) (e::es) [] pos) (t6 P t):=PE.imp (Gb F r S m h d .nil pass0 a b i l) Au
end
section
variable{X:Cx}{st:i6}{bf:List i6}{t u:s9}{e:ge}{te:v5}{pos:i3}
def aX:s9:=λE S M=>E.nx S M
def ax(t u:s9):s9:=λE S M=>t { E with nx:=λb a=>u E b a } S M
theorem Le:MJ X [] aX:=by refine J3.imp FT ?_;rintro E σ H ⟨S,M,ρ,F,s,e,q,k⟩;exact k.nx σ H ⟨S,M,ρ,s,.refl,e,q⟩
theorem Ld(h:DS X st t):MJ X [st] t:=FS h
theorem HD(h1:DS X st t)(h2:MJ X bf u):MJ X (st::bf) (ax t u):=by refine J3.imp (Cw h1 h2) ?_;rintro E σ H ⟨S,M,ρ,F,s,e,q,k⟩;exact⟨S,M,ρ,_,s,e,q,⟨λf H' ⟨d,c,b,s',g,a,j⟩=>⟨d,c,b,F,s',a,j,k.trans g⟩,k.rt,k.bk,k.ct⟩⟩
def fI(te:v5):s9:=λE S M=>te S M λ_ a=>E.nx S a
theorem Hz(i:DE X e te)(hs:i8 e a8 pos.line X.env=pure bt:=by rfl):DS X (.Expr e pos) (fI te):=by refine PS.imp (FU i hs) ?_;rintro E σ H ⟨S,M,ρ,F,s,r,q,k⟩;refine⟨S,M,ρ,_,s,r,q,?_⟩;rintro v a ⟨d,b,c,g,g1,h,f⟩;exact k.nx σ a ⟨S,b,c,g,g1,r.grow g1,f⟩
def bp(te:v5):s9:=λE S M=>te S M E.rt
theorem Lc(i:DE X e te):DS X (.Return (a7 e) pos) (bp te):=by refine PS.imp (Jj i) ?_;rintro E σ H ⟨S,M,ρ,F,s,r,q,k⟩;exact⟨S,M,ρ,_,s,r,q,λv a w=>k.rt v a w⟩
def A0(c:E6)(t u:s9):s9:=λE S M=>c S M λb a=>if b=a9 then t E S a else u E S a
theorem ds_if(j:DT X c tc)(h:MJ X a t)(i:MJ X b u):DS X (.If c a b pos) (A0 tc t u):=by
 refine PS.imp (ps_if j h i) ?_;rintro E σ H ⟨S,M,ρ,F,s,r,q,k⟩;refine⟨S,M,ρ,_,s,r,q,?_⟩;rintro c l ⟨e,d,g,g1,f⟩;cases c with
 |true=>exact bA ⟨S,e,d,F,g,r.grow g1,(show t F S e from f),k.trans g1⟩
 |false=>exact bq ⟨S,e,d,F,g,r.grow g1,(show u F S e from f),k.trans g1⟩
def bb(te:v5)(i:Nat):s9:=λE S M=>te S M λd a=>E.nx (S.set i<|a7 d) a
theorem Lb(h:X.N.Nodup)(f:DE X e te)(hi:X.N[i]?=a7 x:=by rfl)(j:No X.env.scope x:=by first|exact Or.inl rfl|exact Or.inr rfl)(hs:i8 e (a7<|.Name x pos') pos.line X.env=pure bt:=by rfl)(g:X.fn x=a9\/X.env.scope.names.lookup x=a7 .local:=by first|exact .inl rfl|exact .inr rfl|assumption):DS X (.Assign [.Name x pos'] e pos) (bb te i):=by refine PS.imp (Ji h hi j f hs g) ?_;rintro E σ H ⟨S,M,ρ,F,s,r,q,k⟩;refine⟨S,M,ρ,_,s,r,q,?_⟩;rintro v a ⟨d,b,c,n,g1,m,l⟩;exact k.nx _ a ⟨_,b,c,n,g1,(r.grow g1).set i m,l⟩
def ah(i:Nat):J4:=λd S M Q=>Q (S.set i<|a7 d) M
theorem vC(h:X.N.Nodup)(hi:X.N[i]?=a7 x:=by rfl)(a:No X.env.scope x:=by first|exact Or.inl rfl|exact Or.inr rfl)(f:X.fn x=a9\/X.env.scope.names.lookup x=a7 .local:=by first|exact .inl rfl|exact .inr rfl|assumption):DG X (.Name x pos) (ah i):=λp s σ H v u R I r ⟨d,S,M,ρ,Q,m,e,b,q,k⟩=>FY h hi a f p s σ H v u R I r<|k _ H ⟨_,M,ρ,m,.refl,e.set i b,q⟩
end
theorem xJ{P:c8}{w:c7}{K:u4}{Z:ge}(it:c9)(n:Nat)(M:Nat->c5->Prop)(PX:Nat->V->Prop)(Sx:Nat->d6->Prop)(W:∀A':e9,A'.handled=a8->Walks P w A' it [it] [it] n M Sx) (l:∀i v,M i v->∃x,aV x v/\PX i x)(j:∀i h,Sx i h->∃(o:d5) (nm:String) (vs:Array c5),h.get? it=a7 o/\o.cls=.type nm/\o.data=.fields vs/\["enumerate","zip","dict_itemiterator","dict_reverseitemiterator","odict_iterator","itertools.zip_longest","itertools.pairwise"].contains nm=bt)(a:∀(i:Nat) (h h':d6),Sx i h->(∀o,h.get? it=a7 o->h'.get? it=a7 o)->Sx i h')(g:∀(A:e9) (i:Nat) (s:f6) (Q:c5->f6->Prop) (E:c5->f6->Prop),Sx i s.heap->Q (.ref it) s->f9 (h8 P w) A (j3<|.ref it) Q E s):Turn P w K Z ⟨λi _=>i<n,λi H x H'=>H'=H/\PX i x,λi _=>i=n⟩ [it] it Sx where
 mem:=by simp
 obj:=λi h st b f=>by
  have e:b=it:=by simpa using f
  subst e;obtain⟨o,nm,vs,e,_,d,_⟩:=j i h st;exact⟨o,e,λv z=>by rw[d]at z;cases z⟩
 keep:=λi h h' st k=>a i h h' st λo e=>k it (by simp) o e
 item:=by intro X D G C F i p s σ H E I q st S;subst D G C;obtain⟨r,t,O,u,y,B⟩:=q it (by simp);refine(W X.A<|I.ok.hd F).item i s _ _ S st λv h' L T m J=>?_;obtain⟨x,Y,U⟩:=l i v T;have N:q9 X p σ H { s with heap:=h',toks:=L }:=I.turned (λb o f e=>J b o (by simpa using f) e) r t u y B;obtain⟨o,nm,vs,e,c,d,R⟩:=j _ _ m;exact⟨v,rfl,yu (s:={ s with heap:=h',toks:=L }) e c d R ⟨x,H,N,Y,⟨rfl,U⟩,m,λb f=>(q b f).1⟩⟩
 done:=by intro X D G C F i p s σ H E I q st S;subst D G C;obtain⟨r,t,O,u,y,B⟩:=q it (by simp);have hi:i=n:=S;subst hi;exact(W X.A<|I.ok.hd F).done s _ _ st λh' L J=>⟨rfl,I.turned (λb o f e=>J b o (by simpa using f) e) r t u y B⟩
 self:=g
noncomputable def zJ(x:c6):List D:=x.cps.toList.map λc=>.str ⟨#[c]⟩
structure QW where
 items:List D
 ok:t7->Prop
abbrev LR:=SD->t7->(QW->t7->Prop)->Prop
structure K4(K:u4)(src:QW)(ρ0:List c9)(H0:Hp)(J:It):Prop where
 go:∀(i:Nat) ρ M H,ve K ρ M H->Grow K ρ0 H0 ρ H->src.ok M->i<src.items.length->J.go i H
 yld:∀(i:Nat) ρ M H x H',ve K ρ M H->Grow K ρ0 H0 ρ H->src.ok M->i<src.items.length->J.yld i H x H'->∃d ρ',src.items[i]?=a7 d/\ve K ρ' M H'/\Grow K ρ H ρ' H'/\u3 K ρ' H' d x
 stop:∀(ρ:List c9) M H,ve K ρ M H->Grow K ρ0 H0 ρ H->src.ok M->J.stop src.items.length H
def IQ(K:u4)(ρ:List c9)(H:Hp)(Q:QW->t7->Prop):It->Hp->Prop:=λJ H'=>∃src M a,ve K a M H'/\Grow K ρ H a H'/\K4 K src a H' J/\Q src M
def lowI(K:u4)(i:LR):TI:=λσ H R=>∃S M ρ Q,ve K ρ M H/\SRep K ρ H S σ/\i S M Q/\∀J H',IQ K ρ H Q J H'->R J H'
def DI(X:Cx)(g r:ge)(i:LR):Prop:=PI X g r<|lowI X.K i
theorem K4.tup{K:u4}{ρ:List c9}{H:Hp}{a:c9}{vs:List V}{ds:List D}(h:z7 K H a vs)(r:Reps K ρ H ds vs)(q:∀ys,z7 K H a ys->ys=vs):K4 K ⟨ds,λ_=>True⟩ ρ H (RE K a) where
 go:=λi b M H' s g _ hi=>by
  have l:i<vs.length:=by rw[<-r.length];exact hi
  exact⟨vs,vs[i],g.tup a vs h,x3 l⟩
 yld:=λi b M H' x f s g _ hi y=>by obtain⟨rfl,y⟩:=y;obtain⟨d,c,e⟩:=(r.grow g).getV<|y vs<|g.tup a vs h;exact⟨d,b,c,s,.refl,e⟩
 stop:=λb M H' s g _=>⟨vs,g.tup a vs h,by rw[<-r.length];exact u5 _⟩
theorem K4.lst{K:u4}{ρ:List c9}{H:Hp}{n:Nat}{a:c9}{ds:List D}(e:ρ[n]?=a7 a):K4 K ⟨ds,λM=>ar M n ds⟩ ρ H (RF K a) where
 go:=λi b M H' s g ok hi=>by
  obtain⟨vs,h,r⟩:=ar.seq s ok<|aC g.pre e;have l:i<vs.length:=by rw[<-r.length];exact hi
  exact⟨vs,vs[i],h,x3 l⟩
 yld:=λi b M H' x j s g ok hi y=>by obtain⟨rfl,y⟩:=y;obtain⟨vs,h,r⟩:=ar.seq s ok<|aC g.pre e;obtain⟨d,c,f⟩:=r.getV<|y vs h;exact⟨d,b,c,s,.refl,f⟩
 stop:=λb M H' s g ok=>by obtain⟨vs,h,r⟩:=ar.seq s ok<|aC g.pre e;exact⟨vs,h,by rw[<-r.length];exact u5 _⟩
theorem K4.plain{K:u4}{ρ:List c9}{H:Hp}{ds:List D}{J:It}(S:∀i H,i<ds.length->J.go i H)(O:∀i H x H',i<ds.length->J.yld i H x H'->H'=H/\∃d,ds[i]?=a7 d/\cV d=a7 x)(hs:∀H,J.stop ds.length H):K4 K ⟨ds,λ_=>True⟩ ρ H J where
 go:=λi a M H' s g _ hi=>S i H' hi
 yld:=λi a M H' x b s g _ hi y=>by obtain⟨rfl,d,h,c⟩:=O i _ x b hi y;exact⟨d,a,h,s,.refl,BB c⟩
 stop:=λa M H' s g _=>hs H'
section
variable{X:Cx}{tg:ge}
def bV(te:v5):LR:=λS M R=>te S M λd a=>match d with
 |.tup ds=>ds.length<=sizeLine->R ⟨ds,λ_=>True⟩ a
 |.str x=>R ⟨zJ x,λ_=>True⟩ a
 |.ref n=>∃xs,ar a n xs/\(xs.length<=sizeLine->R ⟨xs,λM=>ar M n xs⟩ a)
 |_=>False
theorem Li(hl:DE X l tl):DI X tg l (bV tl):=by
 intro m s σ H R I h;obtain⟨S,M,ρ,Q,sm,sr,q,k⟩:=h;refine v4 (hl m s σ H _ I ⟨S,M,ρ,_,sm,sr,q,λv H' w=>w⟩) ?_;rintro u f ⟨v,D,g,U,d,F,C,j,g1,r1,B⟩;cases r1 with
 |non=>exact B.elim
 |bl b=>exact B.elim
 |int i=>exact B.elim
 |ty n=>exact B.elim
 |@tup a vs ds K r =>
  cases U;obtain⟨its,rr,p,T⟩:=g.tuple K;refine wpAny_pyIter_tuple (show f.heap.IsTuple a its.toArray from p) ?_;refine⟨f.heap.objs.size,[f.heap.objs.size],_,_,D,rfl,g.kept (t':=f.toks) λb o e=>v7 _ e,xK a _,⟨_,z0 _ rfl,rfl,rfl⟩,λb J=>?_,k _ D ⟨⟨ds,λ_=>True⟩,F,C,j,g1,K4.tup K r λys hy=>g.tuple_inj hy K,?_⟩⟩;have e:b=f.heap.objs.size:=by simpa using J
  subst e;exact g.fpOk (u5 _)<|g.hok.fresh<|u5 _;exact(show ds.length<=sizeLine->Q ⟨ds,λ_=>True⟩ F from B)<|by rw[r.length];exact T
 |@ref n a Y =>
  cases U;obtain⟨xs,hL,q2⟩:=(show ∃xs,ar F n xs/\(xs.length<=sizeLine->Q ⟨xs,λM=>ar M n xs⟩ F)from B)
  obtain⟨vs,K,r⟩:=ar.seq j hL Y;obtain⟨its,rr,p,T⟩:=g.list K;refine Qi p.isList ?_;refine⟨f.heap.objs.size,[f.heap.objs.size],_,_,D,rfl,g.kept (t':=f.toks) λb o e=>v7 _ e,yU a _,⟨_,z0 _ rfl,rfl,rfl⟩,λb J=>?_,k _ D ⟨⟨xs,λM=>ar M n xs⟩,F,C,j,g1,K4.lst Y,q2<|by rw[r.length];exact T⟩⟩;have e:b=f.heap.objs.size:=by simpa using J
  subst e;exact g.fpOk (u5 _)<|g.hok.fresh<|u5 _
 |str x =>
  obtain⟨t,rfl⟩:=U;have G:∀(z:String) (L:d5),(L.cls=.type z/\L.data=.fields #[.str x t,.int 0 0]) -> (∀N:e9,N.handled=a8->Walks X.prog X.w N f.heap.objs.size [f.heap.objs.size] [f.heap.objs.size] x.cps.size (SignAt x) (λi h=>h.IsStrIter f.heap.objs.size z x t i)) -> (∀(A:e9) (i:Nat) (s:f6) (Q:c5->f6->Prop) (E:c5->f6->Prop),s.heap.IsStrIter f.heap.objs.size z x t i->Q (.ref f.heap.objs.size) s->f9 (h8 X.prog X.w) A (j3<|.ref f.heap.objs.size) Q E s) -> ["enumerate","zip","dict_itemiterator","dict_reverseitemiterator","odict_iterator","itertools.zip_longest","itertools.pairwise"].contains z=bt->(f.heap.push L).IsStrIter f.heap.objs.size z x t 0 -> PP X m σ tg R (.ref f.heap.objs.size) { f with heap:=f.heap.push L }:=λz L ai W y P st=>by
   refine⟨f.heap.objs.size,[f.heap.objs.size],_,_,D,rfl,g.kept (t':=f.toks) λb o e=>v7 _ e,xJ (PX:=λi v=>∃c,x.cps[i]?=a7 c/\v=.str ⟨#[c]⟩) _ _ _ _ W (λi v ⟨c,u,Z,e2⟩=>⟨.str ⟨#[c]⟩,⟨u,e2⟩,c,Z,rfl⟩) (λi h st=>?_) (λi h h' st k=>?_) y,st,λb J=>?_,k _ D ⟨⟨zJ x,λ_=>True⟩,F,C,j,g1,K4.plain ?_ ?_ ?_,B⟩⟩;obtain⟨o,e,c,d⟩:=st;exact⟨o,z,_,e,c,d,P⟩;obtain⟨o,e,r⟩:=st;exact⟨o,k o e,r⟩;have e:b=f.heap.objs.size:=by simpa using J
   subst e;exact g.fpOk (u5 _)<|g.hok.fresh<|u5 _;intro i _ hi;simpa [zJ]using hi;rintro i H x' H' _ ⟨rfl,c,e,rfl⟩;exact⟨rfl,.str ⟨#[c]⟩,by simp[zJ,e],rfl⟩;intro H;simp[zJ]
  cases V:x.cps.all (· < 128);exact wpAny_pyIter_wide V<|G _ _ ⟨rfl,rfl⟩ (λN O=>Walks.strWide O _ x t) (λ_ _ _ _ _ st h=>wpAny_pyIter_striter_wide st h) (by decide) ⟨_,z0 _ rfl,rfl,rfl⟩;exact wpAny_pyIter_ascii V<|G _ _ ⟨rfl,rfl⟩ (λN O=>Walks.strAscii O _ x t) (λ_ _ _ _ _ st h=>wpAny_pyIter_striter_ascii st h) (by decide) ⟨_,z0 _ rfl,rfl,rfl⟩
noncomputable def rZ(l:Int)(n:Nat):List D:=(A7 n).map λi=>.int<|l+((i:Nat):Int)
theorem K4.rng{K:u4}{ρ:List c9}{H:Hp}(l:Int)(n:Nat):K4 K ⟨rZ l n,λ_=>True⟩ ρ H (O1 l n):=by
 refine K4.plain (λi _ hi=>?_) (λi H x H' hi y=>?_) λH=>?_;show i<n;simpa [rZ]using hi;obtain⟨e,rfl⟩:=y;have h:i<n:=by simpa [rZ]using hi
 exact⟨e,.int<|l+i,by simp[rZ,h],rfl⟩;show n<=(rZ l n).length;simp[rZ]
def dZ(t:F7):LR:=λS M R=>t S M λds a=>match ds with
 | [.int j]=>(-(2 ^ 62)<=j/\j<2 ^ 62)/\R ⟨rZ 0 j.toNat,λ_=>True⟩ a
 |_=>False
def qz(t:F7):LR:=λS M R=>t S M λds a=>match ds with
 | [.int i,.int j]=>(-(2 ^ 62)<=i/\i<2 ^ 62/\-(2 ^ 62)<=j/\j<2 ^ 62)/\R ⟨rZ i (j-i).toNat,λ_=>True⟩ a
 |_=>False
theorem PI.imp(h:PI X tg iter t')(i:∀σ H R,t σ H R->t' σ H R):PI X tg iter t:=λp s σ H R I q=>h p s σ H R I<|i σ H R q
theorem Bo(m:X.mg "range" = a8)(h:DA X [a] ta)(g:Gl X "range":=by rfl)(hs:i5 [a] X.env=[(bt,eval a X.env)]:=by rfl):DI X tg (.Call (.Name "range" p) [a] [] pos) (dZ ta):=by
 refine PI.imp (zV g m h hs) ?_;rintro σ H R ⟨S,M,ρ,Q,s,n,q,k⟩;refine⟨S,M,ρ,_,s,n,q,?_⟩;rintro vs e ⟨ds,f,d,l,g1,b,c⟩
 try dsimp only at c
 split at c;rename_i j;obtain⟨⟨h1,h2⟩,i⟩:=c
 first|have z:=Reps.inv_cons b|have z:=av.inv_cons b
 clear b;obtain⟨_,_,rfl,r,t⟩:=z;cases r;cases t;exact⟨j,rfl,h1,h2,k _ e ⟨_,f,d,l,g1,K4.rng 0 j.toNat,i⟩⟩;exact c.elim
theorem Bn(o:X.mg "range" = a8)(m:DA X [a,b] ta)(n:Gl X "range":=by rfl)(hs:i5 [a,b] X.env=[(bt,eval a X.env),(bt,eval b X.env)]:=by rfl)(d:i5 [b] X.env=[(bt,eval b X.env)]:=by rfl):DI X tg (.Call (.Name "range" p) [a,b] [] pos) (qz ta):=by
 refine PI.imp (zU n o m hs d) ?_;rintro σ H R ⟨S,M,ρ,Q,s,w,q,k⟩;refine⟨S,M,ρ,_,s,w,q,?_⟩;rintro vs g ⟨ds,l,f,v,g1,e,c⟩
 try dsimp only at c
 split at c;rename_i i j;obtain⟨h,u⟩:=c
 first|have z:=Reps.inv_cons e|have z:=av.inv_cons e
 clear e;obtain⟨_,_,rfl,r,t⟩:=z;cases r;cases t with
 |cons r t=>cases r;cases t;exact⟨i,j,rfl,h,k _ g ⟨_,l,f,v,g1,K4.rng i (j-i).toNat,u⟩⟩
 exact c.elim
end
section
mutual
inductive B7(k:Nat):D->Prop
 |non:B7 k .non
 |bl (b:Bool):B7 k (.bl b)
 |int (i:Int):B7 k (.int i)
 |str (x:c6):B7 k (.str x)
 |ty (n:String):B7 k (.ty n)
 |tup {ds:List D} (h:Bels k ds):B7 k (.tup ds)
 |ref {n:Nat} (h:n<k):B7 k (.ref n)
inductive Bels(k:Nat):List D->Prop
 |nil:Bels k []
 |cons {d:D}{ds:List D} (h:B7 k d) (t:Bels k ds):Bels k (d::ds)
end
noncomputable def MO.items:MO->List D
 |.lst xs=>xs
 |.fz xs=>xs
 |.kl xs=>xs
 |.dct kvs=>kvs.map (·.2)
 |.dkt kvs=>kvs.map (·.2)
 |.dkq kvs=>kvs.map (·.2)
 |.fdc _ kvs=>kvs.map (·.2)
 |.dkm kvs=>kvs.map (·.2)
 |.tb _ _=>[]
 |.exc _=>[]
theorem u3.bel{K:u4}{ρ:List c9}{H:Hp}{d:D}{v:V}(h:u3 K ρ H d v):B7 ρ.length d:=u3.rec (motive_1:=λd v _=>B7 ρ.length d) (motive_2:=λds vs _=>Bels ρ.length ds) .non .bl .int .str .ty (λ_ _ r=>.tup r) (λh=>.ref (x5.mp h).1) .nil (λ_ _ h t=>.cons h t) h
theorem Reps.bel{K:u4}{ρ:List c9}{H:Hp}{ds:List D}{vs:List V}(h:Reps K ρ H ds vs):Bels ρ.length ds:=Reps.rec (motive_1:=λd v _=>B7 ρ.length d) (motive_2:=λds vs _=>Bels ρ.length ds) .non .bl .int .str .ty (λ_ _ r=>.tup r) (λh=>.ref (x5.mp h).1) .nil (λ_ _ h t=>.cons h t) h
theorem B7.inv(b:B7 k d):(∀ds,d=.tup ds->Bels k ds)/\∀n,d=.ref n->n<k:=by
 cases b with
 |tup b=>exact⟨(λ_ e=>by injection e with e;exact e ▸ b),(λ_ e=>by cases e)⟩
 |ref b=>exact⟨(λ_ e=>by cases e),(λ_ e=>by injection e with e;exact e ▸ b)⟩
 |_=>exact⟨(λ_ e=>by cases e),(λ_ e=>by cases e)⟩
theorem Bels.inv{k:Nat}{d:D}{ds:List D}(b:Bels k (d::ds)):B7 k d/\Bels k ds:=by
 cases b with
 |cons b c=>exact⟨b,c⟩
theorem u3.cut{K:u4}{ρ:List c9}{H:Hp}{k:Nat}{d:D}{v:V}(h:u3 K ρ H d v):B7 k d->u3 K (ρ.take k) H d v:=u3.rec (motive_1:=λd v _=>B7 k d->u3 K (ρ.take k) H d v) (motive_2:=λds vs _=>Bels k ds->Reps K (ρ.take k) H ds vs) (λ_=>.non) (λb _=>.bl b) (λb _=>.int b) (λb _=>.str b) (λb _=>.ty b) (λh _ r b=>.tup h<|r<|b.inv.1 _ rfl)
  (λh b=>.ref<|by rw[Of<|b.inv.2 _ rfl];exact h) (λ_=>.nil) (λ_ _ h t b=>.cons (h b.inv.1)<|t b.inv.2) h
theorem Reps.cut{K:u4}{ρ:List c9}{H:Hp}{k:Nat}{ds:List D}{vs:List V}(h:Reps K ρ H ds vs):Bels k ds->Reps K (ρ.take k) H ds vs:=Reps.rec (motive_1:=λd v _=>B7 k d->u3 K (ρ.take k) H d v) (motive_2:=λds vs _=>Bels k ds->Reps K (ρ.take k) H ds vs) (λ_=>.non) (λb _=>.bl b) (λb _=>.int b) (λb _=>.str b) (λb _=>.ty b) (λh _ r b=>.tup h<|r<|b.inv.1 _ rfl)
  (λh b=>.ref<|by rw[Of<|b.inv.2 _ rfl];exact h) (λ_=>.nil) (λ_ _ h t b=>.cons (h b.inv.1)<|t b.inv.2) h
theorem B7.mono{j k:Nat}(h:j<=k){d:D}(b:B7 j d):B7 k d:=B7.rec (motive_1:=λd _=>B7 k d) (motive_2:=λds _=>Bels k ds) .non .bl .int .str .ty (λ_ b=>.tup b) (λb=>.ref<|Fn b h) .nil (λ_ _ b c=>.cons b c) b
theorem Bels.mono{j k:Nat}(h:j<=k){ds:List D}(b:Bels j ds):Bels k ds:=Bels.rec (motive_1:=λd _=>B7 k d) (motive_2:=λds _=>Bels k ds) .non .bl .int .str .ty (λ_ b=>.tup b) (λb=>.ref<|Fn b h) .nil (λ_ _ b c=>.cons b c) b
theorem Bels.of:∀{xs:List D},(∀d∈xs,B7 k d)->Bels k xs
 | [],_=>.nil
 |d::ds,h=>.cons (h d C1)<|Bels.of λe he=>h e<|A6 _ he
section
variable{K:u4}{ρ ρ':List c9}{H H':Hp}{M M':t7}
theorem xb:∀(n:Nat) (d:D),cT n d=a9->B7 k d:=by
 intro n;induction n with
 |zero =>
  intro d h;cases d with
  |str x=>exact .str x
  |int x=>exact .int x
  |_=>cases h
 |succ n i =>
  intro d h;cases d with
  |str x=>exact .str x
  |int x=>exact .int x
  |tup ds=>exact .tup<|Bels.of λx a=>i x<|E9.mp (show ds.all (cT n)=a9 from h) x a
  |_=>cases h
theorem AI(r:Paired (yJ K ρ H) kvs xs):Bels ρ.length (kvs.map (·.2)):=by
 induction r with
 |nil=>exact .nil
 |cons q _ i=>obtain⟨_,_,_,v,u,_⟩:=q;exact .cons u.bel i
theorem AH(r:Paired (yJ K ρ H) kvs xs)(b:Bels k (kvs.map (·.2))):Paired (yJ K (ρ.take k) H) kvs xs:=by
 induction r with
 |nil=>exact .nil
 |cons q _ i =>
  obtain⟨d,j,e,v,u,l⟩:=q;rw[C0]at b;cases b with
  |cons a c=>exact .cons ⟨d,j,e.cut<|xb _ _ j,v,u.cut a,l⟩<|i c
theorem Du:∀(d:D),keyM d=a9->B7 k d
 |.non,_=>.non
 |.tup ks,h=>xb 8 _ h
 |.bl _,h=>nomatch h
 |.int _,h=>nomatch h
 |.str _,h=>nomatch h
 |.ty _,h=>nomatch h
 |.ref _,h=>nomatch h
theorem GG(r:Paired (PQ K ρ H) kvs xs):Bels ρ.length (kvs.map (·.2)):=by
 induction r with
 |nil=>exact .nil
 |cons q _ i=>obtain⟨_,_,_,v,u,_⟩:=q;exact .cons u.bel i
theorem GF(r:Paired (PQ K ρ H) kvs xs)(b:Bels k (kvs.map (·.2))):Paired (PQ K (ρ.take k) H) kvs xs:=by
 induction r with
 |nil=>exact .nil
 |cons q _ i =>
  obtain⟨d,j,⟨u,e,m⟩,v,f,l⟩:=q;rw[C0]at b;cases b with
  |cons a c=>exact .cons ⟨d,j,⟨u,e.cut<|Du _ j,m⟩,v,f.cut a,l⟩<|i c
theorem yL.bels(h:yL K ρ H a mo):Bels ρ.length mo.items:=by
 cases mo with
 |lst ds=>obtain⟨vs,_,r⟩:=h;exact r.bel
 |fz ds=>obtain⟨o,vs,_,r⟩:=h;exact r.bel
 |kl ds=>obtain⟨vs,_,r⟩:=h;exact r.bel
 |dct s=>obtain⟨vs,_,r⟩:=h;exact r.bel
 |dkt s=>obtain⟨_,_,_,xs,_,r⟩:=h;exact AI r
 |dkq s=>obtain⟨_,_,_,xs,_,r⟩:=h;exact AI r
 |fdc o s=>obtain⟨vs,_,r⟩:=h;exact r.bel
 |dkm s=>obtain⟨_,_,_,xs,_,r⟩:=h;exact GG r
 |tb x b=>exact .nil
 |exc x=>exact .nil
theorem yL.cut(h:yL K ρ H a mo)(b:Bels k mo.items):yL K (ρ.take k) H a mo:=by
 cases mo with
 |lst ds=>obtain⟨vs,e,r⟩:=h;exact⟨vs,e,r.cut b⟩
 |fz ds=>obtain⟨o,vs,e,r⟩:=h;exact⟨o,vs,e,r.cut b⟩
 |kl ds=>obtain⟨vs,e,r⟩:=h;exact⟨vs,e,r.cut b⟩
 |dct s=>obtain⟨vs,e,r⟩:=h;exact⟨vs,e,r.cut b⟩
 |dkt s=>obtain⟨h1,h2,c,xs,e,r⟩:=h;exact⟨h1,h2,c,xs,e,AH r b⟩
 |dkq s=>obtain⟨h1,h2,c,xs,e,r⟩:=h;exact⟨h1,h2,c,xs,e,AH r b⟩
 |fdc o s=>obtain⟨vs,e,r⟩:=h;exact⟨vs,e,r.cut b⟩
 |dkm s=>obtain⟨h1,h2,c,xs,e,r⟩:=h;exact⟨h1,h2,c,xs,e,GF r b⟩
 |tb x b=>exact h
 |exc x=>exact h
theorem ve.bels(S:ve K ρ M H){n:Nat}{mo:MO}(e:M[n]?=a7 mo):Bels M.length mo.items:=by obtain⟨a,_,h⟩:=S.get e;rw[<-S.len];exact h.bels
theorem ve.cut(S:ve K ρ M H)(k:Nat)(d:∀(n:Nat) (mo:MO),n<k->M[n]?=a7 mo->Bels k mo.items):ve K (ρ.take k) (M.take k) H:=by
 have lt:∀{n:Nat}{a:c9},(ρ.take k)[n]?=a7 a->n<k/\ρ[n]?=a7 a:=λ{n a} e=>by
  have h1:=(x5.mp e).1;rw[G0]at h1;have h2:n<k:=by lia
  rw[Of h2]at e;exact⟨h2,e⟩
 refine⟨λn m a h t l=>?_,by rw[G0,G0,S.len],λn a mo t l=>?_⟩;obtain⟨b,f⟩:=lt t;obtain⟨g,c⟩:=lt l;rw[Of b,Of g];exact S.nd n m a h f c;obtain⟨b,f⟩:=lt t;rw[Of b]at l;exact(S.obj n a mo f l).cut<|d n mo b l
theorem SRep.cut(r:SRep K ρ H S σ)(g:S'.length=S.length)(h:∀(i:Nat) d,S'[i]?=a7 (a7 d)->S[i]?=a7 (a7 d)/\B7 k d):SRep K (ρ.take k) H S' σ:=⟨g.trans r.len,λi d e=>let ⟨e',b⟩:=h i d e;let ⟨v,hv,rv⟩:=r.get i d e';⟨v,hv,rv.cut b⟩⟩
theorem Grow.cut(g:Grow K ρ H ρ' H')(h:ρ.length<=k):Grow K ρ H (ρ'.take k) H':=by refine⟨?_,g.tup⟩;obtain⟨t,rfl⟩:=g.pre;rw[List.take_append];rw[Py h];exact G2 _ _
end
inductive FgtS(k:Nat):SD->SD->Prop
 |nil:FgtS k [] []
 |keep {d:D}{S S':SD} (h:B7 k d) (t:FgtS k S S'):FgtS k (a7 d::S) (a7 d::S')
 |drop {o:Option D}{S S':SD} (t:FgtS k S S'):FgtS k (o::S) (a8::S')
theorem FgtS.len(h:FgtS k S S'):S'.length=S.length:=by
 induction h with
 |nil=>rfl
 |keep _ _ i=>rw[C4,C4,i]
 |drop _ i=>rw[C4,C4,i]
theorem FgtS.get(h:FgtS k S S'):∀(i:Nat) d,S'[i]?=a7 (a7 d)->S[i]?=a7 (a7 d)/\B7 k d:=by
 induction h with
 |nil=>intro i d e;simp at e
 |keep b _ a =>
  intro i d e;cases i with
  |zero=>simp at e;subst e;exact⟨rfl,b⟩
  |succ i=>exact a i d<|by simpa using e
 |drop _ a =>
  intro i d e;cases i with
  |zero=>simp at e
  |succ i=>exact a i d<|by simpa using e
def z6(a:t7)(P:SD->t7->Prop)(S:SD)(M:t7):Prop:=P S M\/(∃k b,a.length<=k/\FgtS k S b/\(∀(n:Nat) mo,n<k->M[n]?=a7 mo->Bels k mo.items)/\P b (M.take k))\/∃b,FgtS a.length S b/\a <+: M/\P b a
theorem Ci{α:Type}{l l':List α}(h:l <+: l'):l'.take l.length=l:=by obtain⟨t,rfl⟩:=h;rw[List.take_append_of_le_length<|u5 _,L7]
theorem SQ.fgt{K:u4}{ρ:List c9}{H:Hp}{M:t7}{P:SD->t7->Prop}{c:St}{H':Hp}(s0:ve K ρ M H)(h:SQ K ρ H (z6 M P) c H'):SQ K ρ H P c H':=by
 have f:ρ.length<=M.length:=by rw[s0.len];exact u5 _
 obtain⟨S,d,b,s',g,a,j⟩:=h;rcases j with j|⟨k,S2,h1,h2,i,q⟩|⟨S2,h2,p,q⟩
 exact⟨S,d,b,s',g,a,j⟩;exact⟨S2,d.take k,b.take k,s'.cut k i,g.cut<|C7 f h1,a.cut h2.len h2.get,q⟩;have s:=s'.cut M.length λn m l e=>by obtain⟨t,rfl⟩:=p;rw[J2 l]at e;exact s0.bels e
 rw[Ci p]at s;exact⟨S2,M,b.take M.length,s,g.cut f,a.cut h2.len h2.get,q⟩
def tL(ok:t7->Prop)(g:J4)(tb:s9)(E:DEnds)(k0:t7):List D->SD->t7->Prop
 | [],S,M=>ok M/\E.nx S M
 |x::xs,S,M=>ok M/\g x S M λS2 M2=>tb ⟨z6 k0<|tL ok g tb E k0 xs,E.rt,E.nx,z6 k0<|tL ok g tb E k0 xs⟩ S2 M2
def lC(i:LR)(g:J4)(b:s9):s9:=λE S M=>i S M λsrc a=>tL src.ok g b E a src.items S a
theorem tD{α:Type}{l:List α}{i:Nat}{x:α}(h:l[i]?=a7 x):l.drop i=x::l.drop (i+1):=by obtain⟨hi,e⟩:=x5.mp h;rw[QG hi,e]
theorem Dc{K:u4}{P:LR}{g:J4}{u:s9}(E:Ends)(σ:St)(H:Hp)(h:lowS K (lC P g u) E σ H):tFor (lowI K P) (lowG K g) (lowS K u) E σ H:=by
 obtain⟨S,M,ρ,F,s,U,q,k⟩:=h;refine⟨S,M,ρ,_,s,U,q,?_⟩;rintro J C ⟨src,o,f,T,g1,it,q1⟩;have D:=k.trans g1;refine⟨λi m τ j=>∃S2 b a,ve K a b j/\Grow K f C a j/\SRep K a j S2 τ/\i<=src.items.length/\m=src.items.length-i/\tL src.ok g u F o (src.items.drop i) S2 b,⟨_,S,o,f,T,.refl,U.grow g1,z8 _,rfl,q1⟩,?_⟩;rintro i m τ j ⟨S2,b,a,B,p,r,hi,rfl,A⟩;by_cases t:i<src.items.length;have Q:src.items[i]?=a7 src.items[i]:=x3 t;rw[tD Q]at A;obtain⟨ok,G⟩:=(show src.ok b/\g src.items[i] S2 b _ from A)
 refine .inr ⟨it.go i a b j B p ok t,_,λai H' z=>z,λx V y=>?_⟩;obtain⟨d,N,hd,s3,g3,r3⟩:=it.yld i a b j x V B p ok t y;have ed:d=src.items[i]:=A5<|hd.symm.trans Q;subst ed;refine⟨_,S2,b,N,_,s3,r.grow g3,r3,G,?_⟩;rintro aj W ⟨S4,X,w,s4,g4,I,q4⟩;have l:=(p.trans g3).trans g4;refine⟨S4,X,w,_,s4,I,q4,?_⟩;have n:∀c Y,SQ K w W (z6 o<|tL src.ok g u F o<|src.items.drop<|i+1) c Y -> ∃R,R < src.items.length-i/\∃S2 b a,ve K a b Y/\Grow K f C a Y/\SRep K a Y S2 c/\i+1<=src.items.length/\R=src.items.length-(i+1)/\tL src.ok g u F o (src.items.drop<|i+1) S2 b:=λc Y z=>by obtain⟨S5,Z,O,s5,g5,L,q5⟩:=SQ.fgt (ρ:=f) (H:=C) T<|SQ.trans l z;exact⟨_,by lia,S5,Z,O,s5,g5,L,t,rfl,q5⟩
 exact⟨n,λv Y z=>D.rt v Y<|VQ.trans l z,λc Y z=>D.nx c Y<|SQ.trans l z,n⟩;have e:i=src.items.length:=by lia
 subst e;rw[List.drop_of_length_le<|u5 _]at A;obtain⟨ok,G⟩:=(show src.ok b/\F.nx S2 b from A)
 exact .inl ⟨it.stop a b j B p ok,D.nx τ j ⟨S2,b,a,B,p,r,G⟩⟩
section
variable{X:Cx}
theorem Lf(hi:DI X tg iter di)(S:DG X tg g)(d:MJ X body tb)(p:PassesOwn (h8 X.prog X.w) X.A X.env X.xe:=by exact PassesOwn.never)(f:X.calm=a9:=by rfl)(hs:∀x,j5 iter X.env x=pure x:=by intro _;rfl):DS X (.For tg iter body [] pos) (lC di g tb):=PS.imp (Jk p f hi S d hs) Dc
noncomputable def Lm(t:Nat)(s:List Nat)(S:SD):SD:=Pe t a8++s.map λj=>(S[j]?).join
def oj(ok:t7->Prop)(g:J4)(tt:E6)(te:v5)(Q:DK):List D->List D->SD->t7->Prop
 | [],acc,S,M=>ok M/\Q (.ref M.length) (M++[.lst acc])
 |x::xs,acc,S,M=>ok M/\g x S M λS2 M2=>tt S2 M2 λb M3=>if b=a9 then te S2 M3 λy M4=>acc.length<sizeLine/\oj ok g tt te Q xs (acc++[y]) S2 M4 else oj ok g tt te Q xs acc S2 M3
def E5(t:Nat)(s:List Nat)(i:LR)(g:J4)(tt:E6)(te:v5):v5:=λS M Q=>i S M λsrc a=>oj src.ok g tt te Q src.items [] (Lm t s S) a
theorem SRep.bst{K:u4}{ρ:List c9}{H:Hp}{S:SD}{σ:St}(r:SRep K ρ H S σ)(t:Nat)(s:List Nat):SRep K ρ H (Lm t s S) (L2.bst t s σ):=by
 refine⟨by simp[Lm,BD],λi d e=>?_⟩;unfold Lm at e;unfold L2.bst;by_cases hi:i<t;rw[J2 (by simpa using hi),QB]at e;simp[hi]at e;rw[Mf (by simpa using MT.mp hi),Qw,C5]at e;rw[Mf (by simpa using MT.mp hi),Qw,C5];cases q:s[i-t]? with
 |none=>rw[q]at e;cases e
 |some j =>
  rw[q]at e;have a:(S[j]?).join=a7 d:=by simpa using e
  cases b:S[j]? with
  |none=>rw[b]at a;cases a
  |some o=>rw[b]at a;have l:o=a7 d:=a;subst l;obtain⟨v,c,f⟩:=r.get j d b;exact⟨v,by simp[c],f⟩
theorem Av{K:u4}{D:Nat}{C:List Nat}{T:LR}{g:J4}{tt:E6}{te:v5}(σ:St)(H:Hp)(R:VK)(h:lowE K (E5 D C T g tt te) σ H R):QR D C (lowI K T) (lowG K g) (lowT K tt) (lowE K te) σ H R:=by
 obtain⟨S,M,ρ,Q,s,W,q,k⟩:=h;refine⟨S,M,ρ,_,s,W,q,?_⟩;rintro J X ⟨src,M1,r,s1,g1,it,q1⟩;refine⟨λi m vs τ f=>∃S2 c a acc,ve K a c f/\Grow K r X a f/\SRep K a f S2 τ/\Reps K a f acc vs/\i<=src.items.length/\m=src.items.length-i/\oj src.ok g tt te Q (src.items.drop i) acc S2 c,⟨_,_,M1,r,[],s1,.refl,(W.grow g1).bst D C,.nil,z8 _,rfl,q1⟩,?_⟩;rintro i m vs τ f ⟨S2,c,a,acc,z,o,G,w,hi,rfl,u⟩;by_cases t:i<src.items.length;have U:src.items[i]?=a7 src.items[i]:=x3 t;rw[tD U]at u;obtain⟨ok,E⟩:=(show src.ok c/\g src.items[i] S2 c _ from u)
 refine .inr ⟨it.go i a c f z o ok t,λx Y y=>?_⟩;obtain⟨d,L,hd,s3,g3,r3⟩:=it.yld i a c f x Y z o ok t y;have ed:d=src.items[i]:=A5<|hd.symm.trans U;subst ed;refine⟨_,S2,c,L,_,s3,G.grow g3,r3,E,?_⟩;rintro ai H4 ⟨j,M4,N,s4,A,I,q4⟩;refine⟨j,M4,N,_,s4,I,q4,?_⟩;rintro b H5 ⟨Z,O,s5,l,V⟩;have n:=((o.trans g3).trans A).trans l;cases b with
 |false=>exact bq ⟨_,by lia,j,Z,O,acc,s5,n,I.grow l,w.grow<|(g3.trans A).trans l,t,rfl,(show oj src.ok g tt te Q (src.items.drop<|i+1) acc j Z from V)⟩
 |true=>refine bA ⟨j,Z,O,_,s5,I.grow l,(show te j Z _ from V),?_⟩;rintro v H6 ⟨y',M6,P,s6,B,r6,hl,q6⟩;have F:=w.grow<|((g3.trans A).trans l).trans B;exact⟨by rw[<-w.length];exact hl,_,by lia,j,M6,P,acc++[y'],s6,n.trans B,I.grow<|l.trans B,F.append<|.cons r6 .nil,t,rfl,q6⟩
 have e:i=src.items.length:=by lia
 subst e;rw[List.drop_of_length_le<|u5 _]at u;obtain⟨ok,E⟩:=(show src.ok c/\Q (.ref c.length) (c++[.lst acc])from u)
 exact .inl ⟨it.stop a c f z o ok,λp hp=>k _ _<|VQ.laidL z (g1.trans o) w hp E⟩
theorem d_lc(B:BlkSc X N' nt js scope)(hi:DI X tg iter di)(S:∀cl s0 H0 ex,DG (A3 X N' scope cl s0 H0 ex) tg g) (D:∀cl s0 H0 ex,MS (A3 X N' scope cl s0 H0 ex) ifs<|lowT X.K tt) (i:∀cl s0 H0 ex,DE (A3 X N' scope cl s0 H0 ex) elt te) (f:X.calm=a9:=by rfl)(hs:∀x,j5 iter X.env x=pure x:=by intro _;rfl):DE X (.ListComp elt [⟨tg,iter,ifs,0⟩] scope pos) (E5 nt js di g tt te):=PE.imp (pe_lc (g:=lowG X.K g) (tt:=lowT X.K tt) (te:=lowE X.K te) B f hi (λcl s0 H0 ex=>S cl s0 H0 ex) D (λcl s0 H0 ex=>i cl s0 H0 ex) hs) Av
def vD:E6:=λ_ M Q=>Q a9 M
theorem Hv:MS X [] (lowT X.K vD):=λp s σ H R I ⟨S,M,ρ,Q,m,e,q,k⟩=>FQ p s σ H R I<|k a9 H ⟨M,ρ,m,.refl,q⟩
theorem Hu(h:DT X c t):MS X [c] (lowT X.K t):=FP h
end
def Mx(M a:t7):Prop:=a.length=M.length/\∀(i:Nat) (m:MO),a[i]?=a7 m->M[i]?=a7 m\/Bels M.length m.items
theorem Mx.refl:Mx M M:=⟨rfl,λ_ _ h=>.inl h⟩
theorem Mx.set(c:Mx M M1)(b:Bels M.length mo.items):Mx M (M1.set n mo):=by refine⟨by rw[J7];exact c.1,λi m h=>?_⟩;by_cases e:n=i;subst e;by_cases g:n<M1.length;rw[Mr g]at h;cases h;exact .inr b;rw[M8<|by rw[J7];lia]at h;cases h;rw[L8 e]at h;exact c.2 i m h
def bc(M:t7)(R:DK):DK:=λd b=>R d b\/(∃a,Mx M a/\B7 M.length d/\a <+: b/\R d a)\/∃a n xs,Mx M a/\d=.ref n/\M.length<=n/\b[n]?=a7 (.lst xs)/\a <+: b/\Bels M.length xs/\R (.ref M.length) (a++[.lst xs])
theorem dS{α:Type}{l l':List α}(h:l <+: l'):l'.take l.length=l:=by obtain⟨t,rfl⟩:=h;rw[List.take_append_of_le_length<|u5 _,L7]
theorem VQ.endq{K:u4}{ρ:List c9}{M:t7}{H:Hp}{R:DK}{v:V}{H':Hp}(s:ve K ρ M H)(h:VQ K ρ H (bc M R) v H'):VQ K ρ H R v H':=by
 obtain⟨d,E,D,s',x,r',Y⟩:=h;have k:D.take M.length=ρ:=by rw[<-s.len];exact dS x.pre
 rcases Y with q|⟨g,c,b,f,q⟩|⟨g,n,xs,c,rfl,X,e,f,b,q⟩
 exact⟨d,E,D,s',x,r',q⟩;have i:=s'.cut M.length λn r w e=>by
  have G:g[n]?=a7 r:=by obtain⟨t,rfl⟩:=f;rw[J2<|by rw[c.1];exact w]at e;exact e
  exact(c.2 n r G).elim (λz=>s.bels z) id
 have O:E.take M.length=g:=by rw[<-c.1];exact dS f
 rw[k,O]at i;have C:=r'.cut b;rw[k]at C;exact⟨d,g,ρ,i,⟨N1,x.tup⟩,C,q⟩;have i:=s'.cut M.length λn r w e=>by
  have G:g[n]?=a7 r:=by obtain⟨t,rfl⟩:=f;rw[J2<|by rw[c.1];exact w]at e;exact e
  exact(c.2 n r G).elim (λz=>s.bels z) id
 have O:E.take M.length=g:=by rw[<-c.1];exact dS f
 rw[k,O]at i;obtain⟨a,rfl,w⟩:=u3.inv_ref r';obtain⟨vs,U,Z⟩:=s'.obj n a _ w e;have C:=Z.cut b;rw[k]at C;have Q:Grow K ρ H' (ρ++[a]) H':=⟨G2 _ _,λ_ _ h=>h⟩
 have B:∀(m:Nat),ρ[m]?=a7 a->LY g[m]?:=λm J=>by
  have W:m≠n:=λz=>by
   have:m<M.length:=by rw[<-s.len];exact(x5.mp J).1
   lia
  have q:=s'.nd m n a W (aC x.pre J) w;have L:m<M.length:=by rw[<-s.len];exact(x5.mp J).1
  rcases q with⟨ds,z⟩|⟨ds,z⟩
  refine⟨ds,?_⟩;have o:m<g.length:=by rw[c.1];exact L
  have:=aC f<|x3 o;rw[z]at this;rw[x3 o];exact this.symm;rw[e]at z;cases z
 refine⟨.ref M.length,g++[.lst xs],ρ++[a],⟨λA S F y I l=>?_,by rw[A1,A1,i.len];rfl,λA F r I l=>?_⟩,⟨G2 _ _,x.tup⟩,.ref (by have:=i.last (p:=a);rw[c.1]at this;exact this),q⟩;rcases be I with j|⟨j,P⟩
 rcases be l with u|⟨u,T⟩
 exact(i.nd A S F y j u).elim (λz=>.inl z.more) λz=>.inr z.more;subst T;exact .inl (B A j).more;rcases be l with u|⟨u,T⟩
 subst P;exact .inr (B S u).more;exact o5 (j.trans u.symm) y;rcases be I with j|⟨j,P⟩
 have N:A<g.length:=by rw[<-i.len];exact(x5.mp j).1
 rw[J2 N]at l;exact(i.obj A F r j l).grow Q<|.inl rfl;subst P j;rw[i.len,Mf<|u5 _,Nr]at l;simp at l;subst l;exact⟨vs,U,C.grow Q⟩
noncomputable def cN(N:List c6)(ds:List D):SD:=ds.map a7++Pe (N.length-ds.length) a8
theorem SRep.start{K:u4}{ρ:List c9}{H:Hp}{ds:List D}{vs:List V}(r:Reps K ρ H ds vs)(N:List c6):SRep K ρ H (cN N ds) (L2.start N vs):=by
 refine⟨by simp[cN,L2.start,r.length],λi d e=>?_⟩;unfold cN at e;unfold L2.start;by_cases hi:i<ds.length;rw[J2 (by simpa using hi),C5]at e;rw[J2 (by simpa [<-r.length]using hi),C5];have a:ds[i]?=a7 d:=by rw[x3 hi]at e ⊢;simpa using e
 obtain⟨v,c,b⟩:=r.get a;exact⟨v,by rw[c];rfl,b⟩;rw[Mf (by simpa using MT.mp hi),QB]at e;split at e<;>cases e
theorem d_fn{P:c8}{w:c7}{K:u4}{mg:c6->Option c5}{base:d6}{x l:c6}{st:i6}{f:c9}{e:k4}{N ps:List c6}{k:Nat}(d:w6)(F:Mw K x l st f e)(i:FnScope N ps (au st))(B:∀ds M R,d ds M R->ds.length=ps.length)(y:∀(cdv:c5) (A:e9) (outer:List Env) (s:f6) (H:Hp) (E:XK),Room k (A.deeper<|k8 l (au st) s.heap.objs.size f cdv) -> ∃t,MJ (tO F8 P w K mg base N l (au st) f cdv A outer s H E).nox (bU st) t/\∀ds M R,d ds M R->t ⟨λ_ M'=>bc M R .non M',bc M R,λ_ _=>False,λ_ _=>False⟩ (cN N ds) M):FnOk P w K mg base F8 (k+1) f e ps (MG K d):=by refine F.ok i (λvs H Q E ⟨ds,M,ρ,R,s,r,q,_⟩=>by rw[<-r.length];exact B ds M R q) λcdv A outer s H vs Q E o h=>?_;obtain⟨ds,M,ρ,R,m,r,q,D⟩:=h;obtain⟨t,p,n⟩:=y cdv A outer s H E o;refine⟨lowS K t,p,cN N ds,M,ρ,_,m,SRep.start r N,n ds M R q,⟨λc H' ⟨S,M',a,s',g,b,j⟩=>?_,λv H' z=>D v H'<|VQ.endq m z,λc H' ⟨S,M',a,s',g,b,j⟩=>j.elim,λc H' ⟨S,M',a,s',g,b,j⟩=>j.elim⟩⟩;exact D .non H'<|VQ.endq m ⟨.non,M',a,s',g,.non,j⟩
end
section
variable{X:Cx}
theorem dfin(I:q9 X pins σ H s)(m:ve X.K ρ M H)(k:∀v H',VQ X.K ρ H Q v H'->R v H')(c:cV d=a7 v)(r:aV v u)(q:Q d M):EP X pins σ R u s:=⟨v,H,I,r,k v H<|VQ.now m (BB c) q⟩
theorem gk(I:q9 X pins σ H s)(m:ve X.K ρ M H)(k:∀v H',VQ X.K ρ H Q v H'->R v H')(q:Q (.bl b) M):EP X pins σ R (.bool b) s:=⟨.bl b,H,I,rfl,k _ H<|VQ.now m (.bl b) q⟩
def qAdd:E4:=λx y M Q=>match x,y with
 |.int i,.int j=>Q (.int<|i+j) M
 |.str a,.str b=>a.length+b.length<=sizeLine/\Q (.str<|a++b) M
 |.ref n,.ref m=>∃xs ys,M[n]?=a7 (.lst xs)/\M[m]?=a7 (.lst ys)/\xs.length+ys.length<=sizeLine/\Q (.ref M.length) (M++[.lst<|xs++ys])
 |_,_=>False
theorem JP:F6 X (j6 .Add) qAdd:=by refine C2.imp (JF.or<|xS.or JE) ?_;rintro v b H R ⟨x,y,M,ρ,Q,m,r,a,q,k⟩;unfold qAdd at q;split at q;cases r;cases a;exact .inl ⟨_,_,rfl,rfl,k _ H<|VQ.now m (.int _) q⟩;cases r;cases a;exact .inr<|.inl ⟨_,_,rfl,rfl,q.1,k _ H<|VQ.now m (.str _) q.2⟩;obtain⟨xs,ys,t,l,g,q⟩:=q;obtain⟨_,rfl,h1⟩:=u3.inv_ref r;obtain⟨_,rfl,h2⟩:=u3.inv_ref a;obtain⟨vs,n,g1⟩:=m.obj _ _ _ h1 t;obtain⟨s,f,i⟩:=m.obj _ _ _ h2 l;exact .inr<|.inr ⟨_,_,vs,s,rfl,rfl,n,f,by rw[<-g1.length,<-i.length];exact g,λp h=>k _ _<|VQ.laidL m .refl (g1.append i) h q⟩;exact q.elim
def Jc:E4:=λx y M Q=>match x,y with
 |.int i,.int j=>Q (.int<|i-j) M
 |_,_=>False
theorem JK:F6 X (j6 .Sub) Jc:=by refine C2.imp Jz ?_;rintro g l H R ⟨x,y,M,ρ,Q,s,r,m,q,k⟩;unfold Jc at q;split at q;cases r;cases m;exact⟨_,_,rfl,rfl,k _ H<|VQ.now s (.int _) q⟩;exact q.elim
def Ii(i j:Int):Prop:=0<j/\j<340282366920938463463374607431768211456
theorem CL:C2 X (j6 .FloorDiv) (rI Ii λi j=>.int<|i / j):=OO λi j _ _ _ _ _ f q=>by have h1:(0:Int)<j:=f.1;have h2:j<340282366920938463463374607431768211456:=f.2;have a:j.natAbs.log2<128:=(Nat.log2_lt<|by lia).mpr (by rw[show (2:Nat) ^ 128=340282366920938463463374607431768211456 by decide];lia);exact floordiv_int (by lia) (by rw[Int.fdiv_eq_ediv_of_nonneg i<|by lia];exact q)<|.inl<|PyProof.noPylong_of_log2<|by lia
def uD:E4:=λx y M Q=>match x,y with
 |.int i,.int j=>Ii i j/\Q (.int<|i / j) M
 |_,_=>False
theorem Gs:F6 X (j6 .FloorDiv) uD:=by refine C2.imp CL ?_;rintro g l H R ⟨x,y,M,ρ,Q,s,r,m,q,k⟩;unfold uD at q;split at q;cases r;cases m;exact⟨_,_,rfl,rfl,q.1,k _ H<|VQ.now s (.int _) q.2⟩;exact q.elim
def zP:E4:=λx y M Q=>match x,y with
 |.int i,.int j=>0<j/\Q (.int<|i % j) M
 |_,_=>False
theorem JN:F6 X (j6 .Mod) zP:=by refine C2.imp JD ?_;rintro g l H R ⟨x,y,M,ρ,Q,s,r,m,q,k⟩;unfold zP at q;split at q;cases r;cases m;exact⟨_,_,rfl,rfl,q.1,k _ H<|VQ.now s (.int _) q.2⟩;exact q.elim
noncomputable def gX(a b:c6):Bool:=decide<|a.cps.toList<b.cps.toList
def Nm:E4:=λx y M Q=>match x,y with
 |.int i,.int j=>Q (.bl<|decide<|i<j) M
 |.str a,.str b=>Q (.bl<|gX a b) M
 |_,_=>False
def Oj:E4:=λx y M Q=>match x,y with
 |.int i,.int j=>Q (.bl<|decide<|i<=j) M
 |.str a,.str b=>Q (.bl<|!gX b a) M
 |_,_=>False
def Na:E4:=λx y M Q=>match x,y with
 |.int i,.int j=>Q (.bl<|decide<|j<i) M
 |.str a,.str b=>Q (.bl<|gX b a) M
 |_,_=>False
theorem od_lt:F6 X (j7 .Lt) Nm:=by rintro p s σ H b l v u R I g i ⟨x,y,M,ρ,Q,a,r,m,q,k⟩;unfold Nm at q;split at q;cases r;cases m;exact op_lt p s σ H _ _ v u R I g i ⟨_,_,rfl,rfl,k _ H<|VQ.now a (.bl _) q⟩;cases r;cases m;obtain⟨t,rfl⟩:=g;obtain⟨t',rfl⟩:=i;exact PySem.P.lt_str<|gk I a k q;exact q.elim
theorem od_le:F6 X (j7 .LtE) Oj:=by rintro p s σ H b l v u R I g i ⟨x,y,M,ρ,Q,a,r,m,q,k⟩;unfold Oj at q;split at q;cases r;cases m;exact op_le p s σ H _ _ v u R I g i ⟨_,_,rfl,rfl,k _ H<|VQ.now a (.bl _) q⟩;cases r;cases m;obtain⟨t,rfl⟩:=g;obtain⟨t',rfl⟩:=i;exact PySem.P.le_str<|gk I a k q;exact q.elim
theorem od_gt:F6 X (j7 .Gt) Na:=by rintro p s σ H b l v u R I g i ⟨x,y,M,ρ,Q,a,r,m,q,k⟩;unfold Na at q;split at q;cases r;cases m;exact op_gt p s σ H _ _ v u R I g i ⟨_,_,rfl,rfl,k _ H<|VQ.now a (.bl _) q⟩;cases r;cases m;obtain⟨t,rfl⟩:=g;obtain⟨t',rfl⟩:=i;exact PySem.P.gt_str<|gk I a k q;exact q.elim
def ON:E4:=λx y M Q=>match x,y with
 |.bl a,.bl b=>Q (.bl<|a==b) M
 |.non,.non=>Q (.bl a9) M
 |_,.non=>Q (.bl bt) M
 |_,_=>False
def lp:E4:=λx y M Q=>match x,y with
 |.bl a,.bl b=>Q (.bl<|a != b) M
 |.non,.non=>Q (.bl bt) M
 |_,.non=>Q (.bl a9) M
 |_,_=>False
theorem zN{K:u4}{ρ:List c9}{H:Hp}{x:D}{v:V}(r:u3 K ρ H x v)(h:x≠.non):v≠.non:=by cases r<;>first|exact o5 rfl h|(intro z;cases z)
theorem od_is:F6 X (j7 .Is) ON:=by
 rintro p s σ H b l v u R I g i ⟨x,y,M,ρ,Q,a,r,m,q,k⟩;unfold ON at q;split at q;cases r;cases m;cases g;cases i;exact is_bool<|gk I a k q;cases r;cases m;cases g;cases i;exact is_none_gen<|dfin (d:=.bl a9) I a k rfl rfl q;rename_i h1 h2;cases m;cases i;refine is_none_gen<|dfin (d:=.bl bt) I a k rfl ?_ q;have:=zN r λz=>by subst z;exact h2 rfl
 rw[g.none_iff,dF_ this];rfl;exact q.elim
theorem CU:F6 X (j7 .IsNot) lp:=by
 rintro p s σ H b l v u R I g i ⟨x,y,M,ρ,Q,a,r,m,q,k⟩;unfold lp at q;split at q;cases r;cases m;cases g;cases i;exact isnot_bool<|gk I a k q;cases r;cases m;cases g;cases i;exact isnot_none_gen<|dfin (d:=.bl bt) I a k rfl rfl q;rename_i h1 h2;cases m;cases i;refine isnot_none_gen<|dfin (d:=.bl a9) I a k rfl ?_ q;have:=zN r λz=>by subst z;exact h2 rfl
 rw[g.none_iff,dF_ this];rfl;exact q.elim
noncomputable def K9(M:t7):D->String
 |.non=>"NoneType"
 |.bl _=>"bool"
 |.int _=>"int"
 |.str _=>"str"
 |.ty _=>"type"
 |.tup _=>"tuple"
 |.ref n=>match M[n]? with
  |some mo=>if mo.isL=a9 then "list" else "?"
  |none=>"?"
noncomputable def yK(t T:String):Bool:=t==T||(t == "bool" && T == "int")
noncomputable def Fz:List String:=["NoneType","bool","int","str","list","tuple"]
noncomputable def Ij:List String:=["bool","int","str","list","tuple"]
theorem GN(K:u4)(D:t∈Fz)(n:T∈Ij):PySem.W.kitOne K (.type t) (.type T)=a7 (yK t T):=by simp only[Fz,Ij,x6,L6,or_false]at D n;rcases D with rfl|rfl|rfl|rfl|rfl|rfl<;>rcases n with rfl|rfl|rfl|rfl|rfl<;>kernel_rfl
theorem Fg(I:q9 X pins σ H s)(k:ve X.K ρ M H)(r:u3 X.K ρ H d v)(g:aV v u)(j:K9 M d∈Fz)(L:∀(Hx:d6->Prop),PySem.W.KitX X.K u (.type<|K9 M d) Hx->Hx s.heap->u≠.builtin "__main__.__loader__#opaque"->f9 (h8 X.prog X.w) X.A (call (.builtin "isinstance") [u,c]) Q X.xe s):f9 (h8 X.prog X.w) X.A (call (.builtin "isinstance") [u,c]) Q X.xe s:=by
 cases r with
 |non=>cases g;exact L _ PySem.W.kitx_none Nq<|λz=>nomatch z
 |bl y=>cases g;exact L _ PySem.W.kitx_bool Nq<|λz=>nomatch z
 |int i=>obtain⟨t,rfl⟩:=g;exact L _ PySem.W.kitx_int Nq<|λz=>nomatch z
 |str i=>obtain⟨t,rfl⟩:=g;exact L _ PySem.W.kitx_str Nq<|λz=>nomatch z
 |ty n=>exact o5 j<|by simp only[K9];decide
 |tup h rr=>cases g;obtain⟨its,_,⟨o,h1,h2,_⟩,_⟩:=I.tuple h;exact L _ PySem.W.kitx_tuple ⟨o,h1,h2⟩<|λz=>nomatch z
 |@ref n a e =>
  cases g;have B:n<M.length:=by rw[<-k.len];exact(x5.mp e).1
  have m:M[n]?=a7 M[n]:=x3 B;have f:(match M[n]? with|some mo=>if mo.isL=a9 then "list" else "?" |none=>"?")∈Fz:=j;rw[m]at f;have l:M[n].isL=a9:=by
   cases q:M[n].isL with
   |true=>rfl
   |false=>simp only[q,A9,p5]at f;exact o5 f<|by decide
  have p:ar M n M[n].items:=by
   cases q:M[n] with
   |lst xs=>exact .inl<|by rw[m,q];rfl
   |fz xs=>exact .inr<|.inl<|by rw[m,q];rfl
   |kl xs=>exact .inr<|.inr<|by rw[m,q];rfl
   |dct xs=>rw[q]at l;cases l
   |dkt xs=>rw[q]at l;cases l
   |dkq xs=>rw[q]at l;cases l
   |fdc o xs=>rw[q]at l;cases l
   |dkm xs=>rw[q]at l;cases l
   |tb x b=>rw[q]at l;cases l
   |exc x=>rw[q]at l;cases l
  obtain⟨vs,C,_⟩:=ar.seq k p e;obtain⟨its,_,⟨o,E,h1,h2,_⟩,_⟩:=I.list C;have D:K9 M (.ref n) = "list":=by
   show (match M[n]? with|some mo=>if mo.isL=a9 then "list" else "?" |none=>"?") = "list"
   rw[m];exact o0 l
  rw[D]at L;exact L _ PySem.W.kitx_list ⟨o,h1,h2⟩<|λz=>nomatch z
def FN:C6:=λds M Q=>match ds with
 | [d,.ty T]=>(K9 M d∈Fz/\T∈Ij)/\Q (.bl<|yK (K9 M d) T) M
 | [d,.tup [.ty T,.ty T']]=>(K9 M d∈Fz/\T∈Ij/\T'∈Ij)/\Q (.bl<|yK (K9 M d) T||yK (K9 M d) T') M
 |_=>False
theorem Lx:lV X (.builtin "isinstance") FN:=by
 rintro i s σ H vs us R I v ⟨ds,M,ρ,Q,m,r,q,k⟩;unfold FN at q;split at q;rename_i d T;obtain⟨⟨h1,h2⟩,q⟩:=q
 first|have z:=Reps.inv_cons r|have z:=av.inv_cons r
 clear r;obtain⟨_,_,rfl,f,r⟩:=z
 first|have z:=Reps.inv_cons r|have z:=av.inv_cons r
 clear r;obtain⟨_,_,rfl,g,r⟩:=z;cases r;cases g;obtain⟨u,J,rfl,e,l⟩:=av.two v;cases l;refine Fg I m f e h1 λHx Z p x=>?_;exact PySem.W.kia_one Z I.kIn p (GN X.K h1 h2) x λh=>gk (I.tok h) m k q;rename_i d T c;obtain⟨⟨h1,h2,A⟩,q⟩:=q
 first|have z:=Reps.inv_cons r|have z:=av.inv_cons r
 clear r;obtain⟨_,_,rfl,f,r⟩:=z
 first|have z:=Reps.inv_cons r|have z:=av.inv_cons r
 clear r;obtain⟨_,_,rfl,g,r⟩:=z;cases r;obtain⟨u,J,rfl,e,l⟩:=av.two v;obtain⟨a,P,rfl,B,t⟩:=u3.inv_tup g;cases l;obtain⟨its,D,⟨o,g1,y,n,g3⟩,_⟩:=I.tuple B
 first|have z:=Reps.inv_cons t|have z:=av.inv_cons t
 clear t;obtain⟨_,_,rfl,E,t⟩:=z
 first|have z:=Reps.inv_cons t|have z:=av.inv_cons t
 clear t;obtain⟨_,_,rfl,F,t⟩:=z;cases t;cases E;cases F;obtain⟨N,O,rfl,j,w⟩:=av.two D;cases j;cases w;obtain⟨oc,L,C,G⟩:=o;cases y;cases g3;refine Fg I m f e h1 λHx Z p x=>?_;refine PySem.W.kia_tup Z I.kIn p g1 (b:=yK (K9 M d) T||yK (K9 M d) c) ?_ x λh=>gk (I.tok h) m k q;show (match PySem.W.kitOne X.K (.type<|K9 M d) (.type T)with|some a9=>a7 a9|some bt=>PySem.W.kitAny X.K (.type<|K9 M d) [.type c]|none=>a8)=_;rw[GN X.K h1 h2];cases yK (K9 M d) T with
 |true=>rfl
 |false=>show (match PySem.W.kitOne X.K (.type<|K9 M d) (.type c)with|some a9=>a7 a9|some bt=>a7 bt|none=>a8)=_;rw[GN X.K h1 A];cases yK (K9 M d) c<;>rfl
 exact q.elim
def lJ:C6:=λds M Q=>match ds with
 | [.str x]=>x.length<=sizeLine/\Q (.int x.length) M
 | [.tup xs]=>Q (.int xs.length) M
 | [.ref n]=>∃xs,ar M n xs/\Q (.int xs.length) M
 |_=>False
theorem Lw:lV X (.builtin "len") lJ:=by
 refine ja.imp (tR.or tQ) ?_;rintro vs H R ⟨ds,M,ρ,Q,m,a,q,k⟩;unfold lJ at q;split at q
 first|have z:=Reps.inv_cons a|have z:=av.inv_cons a
 clear a;obtain⟨_,_,rfl,b,a⟩:=z;cases a;cases b;exact .inr ⟨_,rfl,q.1,k _ H<|VQ.now m (.int _) q.2⟩
 first|have z:=Reps.inv_cons a|have z:=av.inv_cons a
 clear a;obtain⟨_,_,rfl,b,a⟩:=z;cases a;cases b with
 |tup h r=>exact .inl ⟨_,_,rfl,.inr h,k _ H<|VQ.now m (by rw[<-r.length];exact .int _) q⟩
 obtain⟨xs,L,q⟩:=q
 first|have z:=Reps.inv_cons a|have z:=av.inv_cons a
 clear a;obtain⟨_,_,rfl,b,a⟩:=z;cases a;obtain⟨_,rfl,e⟩:=u3.inv_ref b;obtain⟨s,c,r⟩:=ar.seq m L e;exact .inl ⟨_,_,rfl,.inl c,k _ H<|VQ.now m (by rw[<-r.length];exact .int _) q⟩;exact q.elim
noncomputable def bls(s:List Bool):List D:=s.map .bl
theorem Reps.bls{K:u4}{ρ:List c9}{H:Hp}:∀{bs:List Bool}{vs:List V},Reps K ρ H (L2.bls bs) vs->vs=bs.map V.bl
 | [],_,h=>by cases h;rfl
 |b::bs,_,h=>by
  cases h with
  |cons r t=>cases r;rw[Reps.bls t];rfl
theorem vO:∀{bs:List Bool}{us:List c5},av (bs.map V.bl) us->us=bs.map Oq
 | [],_,h=>by cases h;rfl
 |b::bs,_,h=>by
  cases h with
  |cons r t=>cases r;rw[vO t];rfl
theorem yE{pins:List (c9×d5)}{σ:St}{H:Hp}{s:f6}{a:c9}{c:List Bool}{G:f6->Prop}(I:q9 X pins σ H s)(z:X.calm=a9)(C:I0 X.K H a (c.map V.bl))(j:∀s',q9 X pins σ H s'->G s'):∀(E:c5->f6->Prop),f9 (h8 X.prog X.w) X.A.in1 (j3<|.ref a) (λit s₂=>∃I fp wr n P St tr,it=E1 I/\Walks X.prog X.w X.A.in1 I fp wr n P St/\St 0 s₂.heap/\TruthOf X.prog X.w X.A.in1 P tr /\ (n=c.length/\(∀i,i<c.length->tr i=c.getD i bt))/\∀h' tk,(∀b o,b∉wr->s₂.heap.get? b=a7 o->h'.get? b=a7 o)->G { s₂ with heap:=h',toks:=tk }) E s:=by
 intro E;obtain⟨its,F,p,L⟩:=I.list C;have d:=vO F;subst d;have l:=p.isList;have t:a<s.heap.objs.size:=by obtain⟨o,n,e,_⟩:=p;exact v9 e
 refine Qi l ?_;have k:q9 X pins σ H { s with heap:=s.heap.push { cls:=.type "list_iterator",data:=.fields #[.ref a,.int 0 0] } }:=I.kept (t':=s.toks) λb o e=>v7 _ e;refine⟨s.heap.objs.size,_,_,_,_,_,λi=>c.getD i bt,rfl,Walks.list (A:=X.A.in1) (I.ok.hd z) s.heap.objs.size a (x9 t) (c.map Oq).toArray,⟨⟨_,z0 _ rfl,rfl,rfl⟩,l.push _⟩,?_,⟨by simp,λi _=>rfl⟩,λh' tk D=>?_⟩;intro i v s' Q' J B Q;have h:(c.map Oq).toArray[i]?=a7 v:=B;rw[Q9,C5]at h;cases e:c[i]? with
 |none=>rw[e]at h;cases h
 |some b =>
  rw[e]at h;cases h;refine Oa ?_;have:c.getD i bt=b:=by rw[J6,e];rfl
  have g:Q' (c.getD i bt) s':=Q;rw[this]at g;exact g
 have f:=I.fpOk (H':=H) (u5 _)<|I.hok.fresh<|u5 _;obtain⟨m,q,M,r,u,y⟩:=f;exact j _<|k.turned (t':=tk) (it:=s.heap.objs.size) (λb o x e=>D b o (by simpa using x) e) m q r u y
theorem BJ{s:List Bool}{tr:Nat->Bool}(h:∀i,i<s.length->tr i=s.getD i bt):(A7 s.length).any tr=s.any id:=by rw[Nx,LH,LH];constructor;rintro⟨i,hi,g⟩;have a:=G4.mp hi;rw[h i a,J6,x3 a]at g;exact⟨_,L5 a,g⟩;rintro⟨b,hb,g⟩;obtain⟨i,hi,e⟩:=List.mem_iff_getElem.mp hb;refine⟨i,G4.mpr hi,?_⟩;rw[h i hi,J6,x3 hi,e];exact g
def Io:C6:=λds M Q=>match ds with
 | [.ref n]=>∃s,ar M n (bls s)/\Q (.bl<|s.any id) M
 |_=>False
theorem Ly(i:X.calm=a9:=by rfl):lV X (.builtin "any") Io:=by
 rintro p s σ H vs us R I v ⟨ds,M,ρ,Q,m,a,q,k⟩;unfold Io at q;split at q;obtain⟨c,L,q⟩:=q
 first|have z:=Reps.inv_cons a|have z:=av.inv_cons a
 clear a;obtain⟨_,_,rfl,j,a⟩:=z;cases a;obtain⟨u,rfl,t⟩:=av.one v;obtain⟨_,rfl,e⟩:=u3.inv_ref j;cases t;obtain⟨x,h,r⟩:=ar.seq m L e;rw[r.bls]at h;refine call_any_walk<|v4 (yE (G:=λs'=>EP X p σ R (.bool<|c.any id) s') I i h (λs' b=>gk b m k q) _) ?_;rintro it o ⟨J,C,w,n,P,Sx,tr,t,W,st,T,⟨d,g⟩,f⟩;subst d;exact⟨J,C,w,_,P,Sx,tr,t,W,st,T,λh' l D=>by rw[BJ g];exact f h' l D⟩;exact q.elim
end
end L2
namespace L2
open PySem PySem.Spec PyProof.Rows DL _root_.HT
section
variable{prog:c8}{w:c7}{A:e9}{E:c5->f6->Prop}{s:f6}
theorem qu{t m:c9}{i:Array c5}{v u:c5}{l hi:Option Int}{Q:c5->f6->Prop}(D:IsTup s.heap t i)(hs:s.heap.IsSliceOf m v u .none)(p:k9 v l)(f:k9 u hi)(d:sIx i.size 0 l=0/\sIx i.size i.size hi=i.size) (h:Q (.ref t) s):f9 (h8 prog w) A (l3 (.ref t)<|.ref m) Q E s:=by
 obtain⟨o,b,c,e⟩:=id hs;have a:s.TypeIs (.ref m) "slice":=⟨o,b,c⟩
 unfold l3
 try with_reducible refine E2 ?_
 first|refine p9 (t4 ?_)|skip
 refine p9<|wpAny_sequenceKey D.typeIs (by decide)<|p9<|L9 (name:=AA0 "__getitem__") D.typeIs OL<|G8 OL D.typeIs entry_tuple_getitem ?_<|args_tuple_getitem _ _;refine(show f9 (h8 prog w) _ (QI (.ref t) >>= _) _ _ s from p9<|tupleItemsOf_ D<|p9<|My a ?_);rw[o0<|by decide];refine p9<|fP hs p f ?_;refine(show f9 (h8 prog w) _ (if (((sIx i.size 0 l:Nat):Int)==0&&(1:Int)==1&&(sIx i.size i.size hi-sIx i.size 0 l)==i.size)=a9 then _ else _) _ _ s from ?_);rw[o0<|by rw[d.1,d.2];simp];unfold Builtin.Tuple.tupleIsExact;refine p9<|p9<|My D.typeIs<|t4 ?_;rw[o0<|by decide];exact p9<|L1<|t4 ⟨_,rfl,t4 h⟩
end
end L2
namespace L2
open PySem PySem.Spec PyProof.Rows DL
section
variable{X:Cx}{a b:ge}{ta tb:v5}{pos:i3}
theorem Ma.imp(h:Ma X r')(i:∀x y H R,r x y H R->r' x y H R):Ma X r:=λa e p s σ H x y v u R I g b q hs=>h a e p s σ H x y v u R I g b (i x y H R q) hs
theorem Reps.atI{K:u4}{ρ:List c9}{H:Hp}{ds:List D}{vs:List V}{i:Int}{d:D}(r:Reps K ρ H ds vs)(h:L2.atI ds i=a7 d):∃v,L2.atI vs i=a7 v/\u3 K ρ H d v:=by
 unfold L2.atI at h ⊢;rw[r.length]at h;cases e:Ms vs.length i with
 |none=>rw[e]at h;cases h
 |some j=>rw[e]at h;obtain⟨v,c,a⟩:=r.get<|show ds[j]?=a7 d from h;exact⟨v,c,a⟩
def u7:E4:=λx y M Q=>match x,y with
 |.tup xs,.int i=>match L2.atI xs i with
  |some d=>Q d M
  |none=>False
 |.str z,.int i=>z.length<=sizeLine/\match L2.atI z.cps.toList i with
  |some c=>Q (.str ⟨#[c]⟩) M
  |none=>False
 |.ref n,.int i=>∃xs,ar M n xs/\match L2.atI xs i with
  |some d=>Q d M
  |none=>False
 |_,_=>False
theorem GY:Ma X (lowR X.K u7):=by refine Ma.imp Ks ?_;rintro p s H R ⟨x,y,M,ρ,Q,m,b,f,q,k⟩;unfold u7 at q;split at q;rename_i xs i;split at q;rename_i d e;cases f;obtain⟨_,_,rfl,h,r⟩:=u3.inv_tup b;obtain⟨v,a,g⟩:=r.atI e;exact .inr<|.inl ⟨_,_,_,v,rfl,rfl,h,a,k _ H<|VQ.now m g q⟩;exact q.elim;rename_i z i;obtain⟨o,q⟩:=q;split at q;rename_i c e;cases f;cases b;exact .inr<|.inr ⟨z,i,c,rfl,rfl,o,e,k _ H<|VQ.now m (.str _) q⟩;exact q.elim;rename_i n i;obtain⟨xs,L,q⟩:=q;split at q;rename_i d e;cases f;obtain⟨_,rfl,j⟩:=u3.inv_ref b;obtain⟨vs,l,r⟩:=ar.seq m L j;obtain⟨v,a,g⟩:=r.atI e;exact .inl ⟨_,_,_,v,rfl,rfl,l,a,k _ H<|VQ.now m g q⟩;exact q.elim;exact q.elim
theorem d_ix(f:DE X a ta)(d:DE X b tb)(hs:vK b:=by intro _ _;rfl):DE X (.Subscript a b pos) (r9 u7 ta tb):=PE.imp (pe_ix GY f d hs) qg
abbrev NN:=SD->t7->(Option Int->t7->Prop)->Prop
def JT(K:u4)(t:NN):TO:=λσ H R=>∃S M ρ Q,ve K ρ M H/\SRep K ρ H S σ/\t S M Q/\∀o H',(∃b a,ve K a b H'/\Grow K ρ H a H'/\Q o b)->R o H'
def fH:NN:=λ_ M Q=>Q a8 M
def gx(t:v5):NN:=λS M Q=>t S M λx a=>match x with
 |.int i=>Q (a7 i) a
 |_=>False
theorem PO.imp(h:PO X e t')(i:∀σ H R,t σ H R->t' σ H R):PO X e t:=λp s σ H R I q=>h p s σ H R I<|i σ H R q
theorem HH:PO X a8 (JT X.K fH):=by refine PO.imp FW ?_;rintro σ H R ⟨S,M,ρ,Q,s,e,q,k⟩;exact k a8 H ⟨M,ρ,s,.refl,q⟩
theorem HF(h:DE X e te):PO X (a7 e) (JT X.K<|gx te):=by
 refine PO.imp (FV h) ?_;rintro σ H R ⟨S,M,ρ,Q,s,j,q,k⟩;refine⟨S,M,ρ,_,s,j,q,?_⟩;rintro v b ⟨d,f,c,g,g1,r,a⟩;cases r with
 |int i=>exact⟨i,rfl,k _ b ⟨f,c,g,g1,a⟩⟩
 |_=>exact a.elim
theorem IV:OX X (λx lo hi H Q=>∃z,x=.str z/\z.length<=sizeLine/\Q (.str<|K5 z lo hi) H):=by
 intro b s σ H x v w y lo hi n Q I r hs f m h;obtain⟨z,rfl,d,q⟩:=h;obtain⟨t,rfl⟩:=r;have a:∀{v:c5}{o:Option Int},k9 v o->∃p:Option (Int×Tok),v=partValue p/\p.map (·.1)=o:=λh=>by
  cases h with
  |none=>exact⟨a8,rfl,rfl⟩
  |int i t=>exact⟨a7 (i,t),rfl,rfl⟩
 obtain⟨g,rfl,e⟩:=a f;obtain⟨j,rfl,c⟩:=a m;subst e c;refine⟨"str",_,slot_str_getitem.lookup,l5 _ _ _,wpAny_getItem_str_slice (l:=g) (u:=j) (st:=a8) hs rfl ?_⟩;exact post_val_or_str ⟨C7 (Txt.slice_le z _ _) d,λt' k=>⟨.str _,H,I.tok k,⟨t',rfl⟩,q⟩⟩
noncomputable def cutD(xs:List D)(l hi:Option Int):List D:=(xs.drop<|HT.sIx xs.length 0 l).take<|HT.sIx xs.length xs.length hi-HT.sIx xs.length 0 l
theorem Reps.cutD{K:u4}{ρ:List c9}{H:Hp}{ds:List D}{vs:List V}(r:Reps K ρ H ds vs)(l hi:Option Int):Reps K ρ H (L2.cutD ds l hi) (Fj vs l hi):=by unfold L2.cutD Fj;rw[r.length];exact(r.drop _).take _
def PK:D->Option Int->Option Int->t7->DK->Prop:=λx l hi M Q=>match x with
 |.str z=>z.length<=sizeLine/\Q (.str<|K5 z l hi) M
 |.ref n=>∃xs,ar M n xs/\Q (.ref M.length) (M++[.lst<|cutD xs l hi])
 |.tup xs=>Q (.tup<|cutD xs l hi) M
 |_=>False
def lowSl(K:u4)(r:D->Option Int->Option Int->t7->DK->Prop):V->Option Int->Option Int->Hp->VK->Prop:=λg l hi H R=>∃x M ρ Q,ve K ρ M H/\u3 K ρ H x g/\r x l hi M Q/\∀v H',VQ K ρ H Q v H'->R v H'
theorem sld:OX X (lowSl X.K PK):=by
 rintro b s σ H x v o t l hi j R I g hs c u ⟨d,M,ρ,Q,m,i,q,k⟩;unfold PK at q;split at q;cases i;exact IV b s σ H _ v o t l hi j R I g hs c u ⟨_,rfl,q.1,k _ H<|VQ.now m (.str _) q.2⟩;obtain⟨xs,L,q⟩:=q;obtain⟨_,rfl,y⟩:=u3.inv_ref i;obtain⟨vs,z,r⟩:=ar.seq m L y;exact FD b s σ H _ v o t l hi j R I g hs c u ⟨_,vs,rfl,z,λp f=>k _ _<|VQ.laidL m .refl (r.cutD l hi) f q⟩;obtain⟨_,_,rfl,h,r⟩:=u3.inv_tup i;rename_i xs a vs;by_cases w:HT.sIx xs.length 0 l=0/\HT.sIx xs.length xs.length hi=xs.length;cases g;obtain⟨its,A,D,B⟩:=I.tuple h;have n:its.toArray.size=xs.length:=by rw[y4,r.length];exact A.length.symm
 have e:L2.cutD xs l hi=xs:=by unfold L2.cutD;rw[w.1,w.2,List.drop_zero,Nat.sub_zero,L7]
 rw[e]at q;exact⟨"tuple",_,OL.lookup,D.typeIs,qu D hs c u (by rw[n];exact w) ⟨.ref _,H,I,rfl,k _ H<|VQ.now m (.tup h r) q⟩⟩;exact IU b s σ H _ v o t l hi j R I g hs c u ⟨_,_,rfl,h,by rw[<-r.length];exact w,λp f=>k _ _<|VQ.laidT m .refl (r.cutD l hi) f q⟩;exact q.elim
def Mg(te:v5)(t h:NN):v5:=λS M Q=>te S M λx a=>t S a λl b=>h S b λu c=>PK x l u c Q
theorem HQ{e:ge}{te:v5}{o hi:Option ge}{t h:NN}{x:i3}(m:DE X e te)(n:PO X o (JT X.K t))(p:PO X hi (JT X.K h)):DE X (.Subscript e (.Slice o hi a8 x) pos) (Mg te t h):=by refine PE.imp (CD sld m n p) ?_;rintro σ H R ⟨S,M,ρ,Q,s,r,q,k⟩;refine⟨S,M,ρ,_,s,r,q,?_⟩;rintro v F ⟨d,f,c,C,g1,B,y⟩;refine⟨S,f,c,_,C,r.grow g1,y,?_⟩;rintro l G ⟨g,a,D,i,z⟩;refine⟨S,g,a,_,D,r.grow<|g1.trans i,z,?_⟩;rintro u I ⟨j,b,E,g3,A⟩;exact⟨d,j,b,Q,E,B.grow<|i.trans g3,A,λv H' w=>k v H'<|VQ.trans ((g1.trans i).trans g3) w⟩
def pR:E4:=λx y M Q=>match x,y with
 |.int i,.int j=>CMul i j/\Q (.int<|i*j) M
 |.str z,.int n=>(0<=n/\n<2 ^ 63/\z.length*n.toNat<=sizeLine)/\Q (.str<|Txt.mul z n) M
 |_,_=>False
theorem uO(b:0<=n)(h:z.length*n.toNat<=sizeLine)(f:n<2 ^ 63):MulOk z n:=by
 refine⟨?_,λh1 h2=>?_,λh1 h2=>?_⟩;have a:decide (n < -(2 ^ 63:Int))=bt:=dF_ (by lia);have l:decide (n ≥ 2 ^ 63)=bt:=dF_ (by lia);rw[a,l];rfl;have c:(z.length:Int)*n<=2 ^ 24:=by
  have e:((z.length*n.toNat:Nat):Int)=(z.length:Int)*n:=by rw[Int.natCast_mul,Int.toNat_of_nonneg b]
  have h':((z.length*n.toNat:Nat):Int)<=(2 ^ 24:Nat):=Int.ofNat_le.mpr h;rw[e]at h';exact h'
 have s:0<n:=by lia
 intro t;have:=Int.lt_of_lt_of_le (Int.lt_mul_of_ediv_lt s t) c;lia;unfold PySem.Builtin.Str.tooLong;simpa using h
theorem Gr:F6 X (j6 .Mult) pR:=by
 rintro p s σ H b l v u R I g i ⟨x,y,M,ρ,Q,a,r,m,q,k⟩;unfold pR at q;split at q;cases r;cases m;exact JC p s σ H _ _ v u R I g i ⟨_,_,rfl,rfl,q.1,k _ H<|VQ.now a (.int _) q.2⟩;rename_i z n;cases r;cases m;obtain⟨t,rfl⟩:=g;obtain⟨t',rfl⟩:=i;obtain⟨⟨h,h2,h1⟩,q⟩:=q;exact PySem.SB.mul (uO h h1 h2) λt' j=>⟨.str _,H,I.tok j,⟨t',rfl⟩,k _ H<|VQ.now a (.str _) q⟩
 exact q.elim
variable{o e:ge}{es:List ge}{to:v5}{t:F7}{name:c6}{apos cpos:i3}{id:String}
def Dd(K:u4)(r:c6->C6):V->List V->Hp->VK->Prop:=λg vs H R=>∃z ds M ρ Q,g=.str z/\ve K ρ M H/\Reps K ρ H ds vs/\r z ds M Q/\∀v H',VQ K ρ H Q v H'->R v H'
def nW(K:u4)(r:Nat->C6):V->List V->Hp->VK->Prop:=λg vs H R=>∃n a ds M ρ Q,g=.ref a/\ρ[n]?=a7 a/\ve K ρ M H/\Reps K ρ H ds vs/\r n ds M Q/\∀v H',VQ K ρ H Q v H'->R v H'
def OS(r:c6->C6)(e:v5)(t:F7):v5:=λS M Q=>e S M λx a=>match x with
 |.str z=>t S a λds b=>r z ds b Q
 |_=>False
def K2(r:Nat->C6)(e:v5)(t:F7):v5:=λS M Q=>e S M λx a=>match x with
 |.ref n=>(∃xs,ar a n xs)/\t S a λds b=>r n ds b Q
 |_=>False
theorem d_ms(slot:Slot "str" name id)(y:l7 (.builtin id)=pure (.type "method_descriptor"))(u:LD X id (Dd X.K r))(B:DE X o to)(p:DA X (e::es) t)(h:l8 o name X.env (eval o X.env)=eval o X.env:=by rfl)(b:((i4 cpos<|i5 (e::es) X.env).all (λx=>!x.1)&&(l9 cpos<|m3 [] X.env).all (λx=>x.1.isSome) && decide ((e::es).length+([]:List k6).length+(if ([]:List k6).isEmpty then 0 else 1)<30))=a9:=by rfl)(a:(apos.endLine==cpos.line)=a9:=by rfl) (hs:i5 (e::es) X.env=(bt,eval e X.env)::i5 es X.env:=by rfl) (n:(i4 cpos<|i5 es X.env).any (·.1)=bt:=by rfl):DE X (.Call (.Attribute o name apos) (e::es) [] cpos) (OS r to t):=by
 refine PE.imp (Jw PySem.F.plainAttrs_str slot y u B p h b a hs n) ?_;rintro σ H R ⟨S,M,ρ,Q,s,i,q,k⟩;refine⟨S,M,ρ,_,s,i,q,?_⟩;rintro v I ⟨d,j,c,E,g1,C,g⟩;cases C with
 |str z=>exact⟨rfl,S,j,c,_,E,i.grow g1,g,λvs J ⟨ds,l,f,G,m,D,A⟩=>⟨z,ds,l,f,Q,rfl,G,D,A,λv H' w=>k v H'<|VQ.trans (g1.trans m) w⟩⟩
 |_=>exact g.elim
theorem d_ml(slot:Slot "list" name id)(y:l7 (.builtin id)=pure (.type "method_descriptor"))(C:LD X id (nW X.K r))(D:DE X o to)(B:DA X (e::es) t)(b:l8 o name X.env (eval o X.env)=eval o X.env:=by rfl)(f:((i4 cpos<|i5 (e::es) X.env).all (λx=>!x.1)&&(l9 cpos<|m3 [] X.env).all (λx=>x.1.isSome) && decide ((e::es).length+([]:List k6).length+(if ([]:List k6).isEmpty then 0 else 1)<30))=a9:=by rfl)(c:(apos.endLine==cpos.line)=a9:=by rfl) (hs:i5 (e::es) X.env=(bt,eval e X.env)::i5 es X.env:=by rfl) (h:(i4 cpos<|i5 es X.env).any (·.1)=bt:=by rfl):DE X (.Call (.Attribute o name apos) (e::es) [] cpos) (K2 r to t):=by
 refine PE.imp (Jw PySem.F.plainAttrs_list slot y C D B b f c hs h) ?_;rintro σ H R ⟨S,M,ρ,Q,s,z,q,k⟩;refine⟨S,M,ρ,_,s,z,q,?_⟩;rintro v O ⟨d,i,j,u,g1,I,g⟩;cases I with
 |@ref n a p =>
  obtain⟨⟨xs,L⟩,g⟩:=(show (∃xs,ar i n xs)/\t S i _ from g)
  obtain⟨vs,E,_⟩:=ar.seq u L p;refine⟨.inl ⟨rfl,vs,E⟩,S,i,j,_,u,z.grow g1,g,?_⟩;rintro vs P ⟨ds,A,l,N,m,J,G⟩;exact⟨n,a,ds,A,l,Q,rfl,aC m.pre p,N,J,G,λv H' w=>k v H'<|VQ.trans (g1.trans m) w⟩
 |_=>exact g.elim
def bC(n:Nat):C6:=λds M Q=>match ds with
 | [d]=>∃xs,M[n]?=a7 (.lst xs)/\xs.length<sizeLine/\Q .non (M.set n<|.lst<|xs++[d])
 |_=>False
theorem ya:LD X "list.append" (nW X.K bC):=by
 rintro p s σ H x xs v us R I l j ⟨n,a,ds,M,ρ,Q,c,b,m,f,q,k⟩;unfold bC at q;split at q;rename_i d;obtain⟨ys,e,g,q⟩:=q
 first|have z:=Reps.inv_cons f|have z:=av.inv_cons f
 clear f;obtain⟨_,_,rfl,i,f⟩:=z;cases f;obtain⟨vs,h,r⟩:=m.obj n a _ b e;obtain⟨L,w⟩:=m.write b e h<|r.append<|.cons i .nil;exact As p s σ H x _ v us R I l j ⟨a,vs,_,c,rfl,h,by rw[<-r.length];exact g,k _ _ ⟨.non,_,ρ,L,w,.non,q⟩⟩;exact q.elim
end
def cu(K:u4)(mg:c6->Option c5)(x:c6)(st:i6)(ps:List c6):Prop:=∃f d,Mw K x x st f d/\mg x=a7 (.ref f)/\ua K d ps []
def u9(P:c8)(w:c7)(K:u4)(mg:c6->Option c5)(base:d6)(k:Nat)(x:c6)(ps:List c6)(r:w6):Prop:=∃f d,FnOk P w K mg base F8 k f d ps (MG K r)/\mg x=a7 (.ref f)/\Nv K (.ref f)=a9/\ua K d ps []
theorem fnat_mk{K:u4}{h:d6}{mg:c6->Option c5}{x:c6}{st:i6}{ps:List c6}{f:c9}{oc:c5}{j M:Option c9}{o:Array (Option c5)}{kV i U v R:c5}(X:K.In h) (G:h.Ns d9 mg) (a:PySem.W.nsIn K d9 x=a7 (a7<|.ref f))(l:K.lookup f=a7 ⟨oc,j,.func<|Nf x x (iX st) (bU st) (au st) .none kV i U M v R,o⟩)(c:P3 K v x=a9) (k:Nv K (.ref f)=a9)(h:∀(kV i U:c5) (M:Option c9) (v R:c5) (us:List c5),us.length=ps.length->bindArgs (Nf x x (iX st) (bU st) (au st) .none kV i U M v R) ⟨us,[]⟩=pure (ps.zip us)):cu K mg x st ps:=have F:=KL (st:=st) l c k
 ⟨f,_,F,PySem.W.mg_of X G a,F.binds h⟩
theorem u9.of{P:c8}{w:c7}{K:u4}{mg:c6->Option c5}{base:d6}{x:c6}{st:i6}{N ps:List c6}{k:Nat}{d:w6}(F:cu K mg x st ps)(i:FnScope N ps (au st))(B:∀ds M R,d ds M R->ds.length=ps.length) {t:s9}(r:∀(f:c9) (cdv:c5) (A:e9) (outer:List Env) (s:f6) (H:Hp) (E:XK),Room k (A.deeper<|k8 x (au st) s.heap.objs.size f cdv)->MJ (tO F8 P w K mg base N x (au st) f cdv A outer s H E).nox (bU st) t)(p:∀ds M R,d ds M R->t ⟨λ_ M'=>bc M R .non M',bc M R,λ_ _=>False,λ_ _=>False⟩ (cN N ds) M):u9 P w K mg base (k+1) x ps d:=by obtain⟨f,b,a,m,h⟩:=F;exact⟨f,b,d_fn d a i B λcdv A outer s H E c=>⟨t,r f cdv A outer s H E c,p⟩,m,a.kp,h⟩
theorem Hn{P:c8}{w:c7}{K:u4}{mg:c6->Option c5}{base:d6}{x:c6}{st:i6}{N ps:List c6}{k:Nat}{d:w6}{f:c9}{a:k4}(F:Mw K x x st f a)(i:FnScope N ps (au st))(B:∀ds M R,d ds M R->ds.length=ps.length) {t:s9}(r:∀(f:c9) (cdv:c5) (A:e9) (outer:List Env) (s:f6) (H:Hp) (E:XK),Room k (A.deeper<|k8 x (au st) s.heap.objs.size f cdv)->MJ (tO F8 P w K mg base N x (au st) f cdv A outer s H E).nox (bU st) t)(p:∀ds M R,d ds M R->t ⟨λ_ M'=>bc M R .non M',bc M R,λ_ _=>False,λ_ _=>False⟩ (cN N ds) M):FnOk P w K mg base F8 (k+1) f a ps (MG K d):=d_fn d F i B λcdv A outer s H E h=>⟨t,r f cdv A outer s H E h,p⟩
section
variable{X:Cx}{e:ge}{es:List ge}{t:F7}{pos:i3}
theorem d_cal(C:u9 X.prog X.w X.K X.mg X.base j x ps P)(r:Room k X.A)(a:DA X (e::es) t)(L:j<=k:=by decide)(S:Gl X x:=by rfl) (b:(x==("__debug__":c6))=bt:=by decide) (i:i5 (e::es) X.env=(bt,eval e X.env)::i5 es X.env:=by rfl) (l:(i4 pos<|i5 es X.env).any (·.1)=bt:=by rfl):DE X (.Call (.Name x p) (e::es) [] pos) (t6 P t):=by obtain⟨f,c,F,m,h,d⟩:=C;exact Lu F (r.mono L) m h d a S b i l
end
theorem sH(h:M[n]?=a7 mo)(g:mo.isL=a9):ar M n mo.items:=by
 cases mo with
 |lst xs=>exact .inl h
 |fz xs=>exact .inr<|.inl h
 |kl xs=>exact .inr<|.inr h
 |dct xs=>cases g
 |dkt xs=>cases g
 |dkq xs=>cases g
 |fdc o xs=>cases g
 |dkm xs=>cases g
 |tb x b=>cases g
 |exc x=>cases g
theorem jG{K:u4}{ρ:List c9}{H:Hp}:∀(ns:List Int),Reps K ρ H (ns.map D.int) (ns.map V.int)
 | []=>.nil
 |n::ns=>.cons (.int n)<|jG ns
noncomputable def pG(m:List (c6×k7))(N N':List c6)(t:Nat)(s:List Nat)(c:f7):Bool:=c.kind==.function&&c.names.all (λy=>y.2 != .cell&&(y.2 != .local||c.names.lookup y.1==a7 .local)&&(y.2 != .free||(m.lookup y.1==a7 .cell||m.lookup y.1==a7 .free))) &&
 N'.length==t+s.length&&(A7 s.length).all λk=>match s[k]?,N'[t+k]? with
  |some j,a7 x=>N[j]?==a7 x&&c.names.lookup x==a7 .free&&(m.lookup x==a7 .cell||m.lookup x==a7 .free)
  |_,_=>bt
theorem BlkSc.chk(h:pG X.env.scope.names X.N N' nt js scope=a9):BlkSc X N' nt js scope:=by
 unfold pG at h;simp only[D3,E9,o8,Nw,bne_iff_ne]at h;obtain⟨⟨⟨h1,h2⟩,a⟩,b⟩:=h;refine⟨h1,λy O=>(h2 y O).1.1,λy O e=>((h2 y O).1.2.resolve_left<|λz=>z e),λy O e=>((h2 y O).2.resolve_left<|λz=>z e),a,λk j e=>?_⟩;have c:k<js.length:=(x5.mp e).1;have q:=b k<|G4.mpr c;rw[e]at q;cases f:N'[nt+k]? with
 |none=>rw[f]at q;exact o5 q<|by simp
 |some x=>rw[f]at q;simp only[D3,o8,Nw]at q;exact⟨x,rfl,q.1.1,q.1.2,q.2⟩
section
variable{X:Cx}{a:ge}{ta:v5}{pos:i3}
def OR(r:O3)(t:v5):v5:=λS M Q=>t S M λx a=>r x a Q
theorem d_un(B:QU X (unaryOp op) r)(f:DE X a ta):DE X (.UnaryOp op a pos) (OR r ta):=by refine PE.imp (pe_un B f) ?_;rintro σ H R ⟨S,M,ρ,Q,s,i,q,k⟩;refine⟨S,M,ρ,_,s,i,q,?_⟩;rintro v j ⟨d,b,c,h,g1,g,e⟩;exact⟨d,b,c,Q,h,g,e,λv H' w=>k v H'<|VQ.trans g1 w⟩
def Il:O3:=λx M Q=>match x with
 |.int i=>Q (.int (-i)) M
 |_=>False
theorem IF:QU X (unaryOp .USub) Il:=by rintro p s σ H a v R I g ⟨x,M,ρ,Q,m,r,q,k⟩;unfold Il at q;split at q;cases r;exact IE p s σ H _ v R I g ⟨_,rfl,k _ H<|VQ.now m (.int _) q⟩;exact q.elim
end
noncomputable def C3(f:D->D->Bool):List D->List D->Bool
 | [],[]=>a9
 |x::xs,y::ys=>f x y&&C3 f xs ys
 |_,_=>bt
noncomputable def t8(M:t7):Nat->D->D->Bool
 |_,.non,.non=>a9
 |_,.bl a,.bl b=>a==b
 |_,.bl a,.int b=>(if a then 1 else 0)==b
 |_,.int a,.bl b=>a==(if b then 1 else 0)
 |_,.int a,.int b=>a==b
 |_,.str a,.str b=>a==b
 |n+1,.tup xs,.tup ys=>C3 (t8 M n) xs ys
 |n+1,.ref i,.ref j=>match M[i]?,M[j]? with
  |some a,a7 b=>C3 (t8 M n) a.items b.items
  |_,_=>bt
 |_,_,_=>bt
noncomputable def u8(M:t7):Nat->D->Bool
 |_,.ty _=>bt
 |n+1,.tup xs=>xs.all<|u8 M n
 |n+1,.ref i=>match M[i]? with
  |some a=>a.isL&&a.items.all (u8 M n)
  |none=>bt
 | 0,.tup _=>bt
 | 0,.ref _=>bt
 |_,_=>a9
theorem Bm:∀{xs ys:List D},C3 f xs ys=a9->xs.length=ys.length
 | [],[],_=>rfl
 | [],_::_,h=>by simp[C3]at h
 |_::_,[],h=>by simp[C3]at h
 |x::xs,y::ys,h=>by simp only[C3,D3]at h;rw[C4,C4,Bm h.2]
theorem BL(n:Nat)(e:Nat->Bool):(A7<|n+1).all e=(e 0&&(A7 n).all λj=>e<|j+1):=by rw[List.range_succ_eq_map,L3,List.all_map];rfl
theorem nF:∀{xs ys:List D}{e:Nat->Bool},xs.length=ys.length->(∀(j:Nat) x y,xs[j]?=a7 x->ys[j]?=a7 y->e j=f x y)->(A7 xs.length).all e=C3 f xs ys
 | [],[],e,_,_=>by simp[C3]
 | [],_::_,_,h,_=>by simp at h
 |_::_,[],_,h,_=>by simp at h
 |x::xs,y::ys,e,h,he=>by rw[C4,BL,C3,he 0 x y rfl rfl,nF (by simpa using h) λj x' y' h1 h2=>he (j+1) x' y' (by simpa using h1)<|by simpa using h2]
theorem Bl(h:xs.length≠ys.length):C3 f xs ys=bt:=by
 cases q:C3 f xs ys with
 |false=>rfl
 |true=>exact o5 (Bm q) h
theorem jf{vs:List V}{us:List c5}(h:av vs us){j:Nat}{v:V}(e:vs[j]?=a7 v):∃u,us[j]?=a7 u/\aV v u:=by
 induction h generalizing j with
 |nil=>simp at e
 |cons r _ i =>
  cases j with
  |zero=>simp at e;subst e;exact⟨_,rfl,r⟩
  |succ j=>exact i<|by simpa using e
section
variable{X:Cx}{pins:List (c9×d5)}{σ:St}{H:Hp}{s:f6}{ρ:List c9}{M:t7}
theorem mR(I:q9 X pins σ H s)(m:ve X.K ρ M H){i:Nat}{a:c9}{mo:MO}(e:ρ[i]?=a7 a)(d:M[i]?=a7 mo)(g:mo.isL=a9):∃vs its,I0 X.K H a vs/\Reps X.K ρ H mo.items vs/\av vs its/\PlainL s.heap a its.toArray:=by obtain⟨vs,q,r⟩:=ar.seq m (sH d g) e;obtain⟨its,f,p,_⟩:=I.list q;exact⟨vs,its,q,r,f,p⟩
theorem eO(d:M[i]?=a7 mo)(o:u8 M (n+1) (.ref i)=a9):mo.isL=a9/\mo.items.all (u8 M n)=a9:=by have b:(match M[i]? with|some a=>a.isL&&a.items.all (u8 M n)|none=>bt)=a9:=o;rw[d]at b;exact(D3 _ _).mp b
theorem DV(I:q9 X pins σ H s)(m:ve X.K ρ M H):∀(n:Nat) (x y:D) (v:V),u3 X.K ρ H x v->u3 X.K ρ H y v->u8 M n x=a9->u8 M n y=a9->t8 M n x y=a9:=by
 have l:∀(n:Nat),(∀(x y:D) (v:V),u3 X.K ρ H x v->u3 X.K ρ H y v->u8 M n x=a9->u8 M n y=a9->t8 M n x y=a9) -> ∀(xs ys:List D) (vs:List V),Reps X.K ρ H xs vs->Reps X.K ρ H ys vs->xs.all (u8 M n)=a9->ys.all (u8 M n)=a9->C3 (t8 M n) xs ys=a9:=by
  intro n t xs;induction xs with
  |nil=>intro ys vs h1 h2 _ _;cases h1;cases h2;rfl
  |cons x xs hi =>
   intro ys vs h1 h2 o1 o2;cases h1 with
   |cons N Q =>
    cases h2 with
    |cons O R=>rw[L3,D3]at o1 o2;rw[C3,t _ _ _ N O o1.1 o2.1,hi _ _ Q R o1.2 o2.2];rfl
 intro n;induction n with
 |zero=>intro x y v h1 h2 o1 o2;cases h1<;>cases h2<;>first|(simp[u8]at o1;done)|rfl|simp[t8]
 |succ n t =>
  intro x y v h1 h2 o1 o2;cases h1 with
  |non=>cases h2;rfl
  |bl b=>cases h2;simp[t8]
  |int b=>cases h2;simp[t8]
  |str b=>cases h2;simp[t8]
  |ty b=>simp[u8]at o1
  |@tup a vs ds q r =>
   cases h2 with
   |tup h r'=>have e:=I.tuple_inj q h;subst e;exact l n t _ _ _ r r' (by simpa [u8]using o1)<|by simpa [u8]using o2
   |@ref i _ e =>
    exfalso;obtain⟨its,_,⟨o,u,w,_⟩,_⟩:=I.tuple q;have hi:i<M.length:=by rw[<-m.len];exact(x5.mp e).1
    obtain⟨k,d,_,_,_,⟨F,E,f,g,_⟩⟩:=mR I m e (x3 hi) (eO (x3 hi) o2).1;rw[u]at f;cases f;rw[w]at g;injection g with f3;exact o5 f3<|by decide
  |@ref i a e =>
   have hi:i<M.length:=by rw[<-m.len];exact(x5.mp e).1
   have p:=x3 hi;obtain⟨vs,its,q,r,S,G⟩:=mR I m e p (eO p o1).1;cases h2 with
   |tup h r'=>exfalso;obtain⟨d,_,⟨o,u,w,_⟩,_⟩:=I.tuple h;obtain⟨F,E,f,g,_⟩:=G;rw[u]at f;cases f;rw[w]at g;injection g with f3;exact o5 f3<|by decide
   |@ref j _ B =>
    have L:j<M.length:=by rw[<-m.len];exact(x5.mp B).1
    have c:=x3 L;obtain⟨k,d,h,r',P,J⟩:=mR I m B c (eO c o2).1;have C:vs=k:=I.list_inj q h;subst C;have z:=(eO p o1).2;have A:=(eO c o2).2;simp only[t8,p,c];exact l n t _ _ _ r r' z A
theorem nG(I:q9 X pins σ H s)(sm:ve X.K ρ M H):∀(n:Nat) (A:e9) (x y:D) (vx vy:V) (u v:c5),A.units+n<j9->u3 X.K ρ H x vx->aV vx u->u3 X.K ρ H y vy->aV vy v->u8 M n x=a9->u8 M n y=a9 ->Ml A s u v (t8 M n x y)/\SeqAt.RcAt A s u v (t8 M n x y)/\SeqAt.RcNeAt A s u v (!t8 M n x y):=by
 intro n;induction n with
 |zero =>
  intro A x y vx vy u v hu R w m l o1 o2;cases R with
  |ty b=>simp[u8]at o1
  |tup b=>simp[u8]at o1
  |ref b=>simp[u8]at o1
  |non =>
   cases w;cases m with
   |ty b=>simp[u8]at o2
   |tup b=>simp[u8]at o2
   |ref b=>simp[u8]at o2
   |non=>cases l;exact⟨P4 _,SeqAt.RcAt.none_none,SeqAt.RcNeAt.none_none⟩
   |bl b=>cases l;exact⟨SeqAt.EqAt.none_bool _,SeqAt.RcAt.none_bool _,SeqAt.RcNeAt.none_bool _⟩
   |int b=>obtain⟨t,rfl⟩:=l;exact⟨SeqAt.EqAt.none_int _ _,SeqAt.RcAt.none_int _ _,SeqAt.RcNeAt.none_int _ _⟩
   |str b=>obtain⟨t,rfl⟩:=l;exact⟨SeqAt.EqAt.none_str _ _,SeqAt.RcAt.none_str _ _,SeqAt.RcNeAt.none_str _ _⟩
  |bl a =>
   cases w;cases m with
   |ty b=>simp[u8]at o2
   |tup b=>simp[u8]at o2
   |ref b=>simp[u8]at o2
   |non=>cases l;exact⟨SeqAt.EqAt.bool_none _,SeqAt.RcAt.bool_none _,SeqAt.RcNeAt.bool_none _⟩
   |bl b=>cases l;exact⟨SeqAt.EqAt.bool_bool _ _,SeqAt.RcAt.bool_bool _ _,SeqAt.RcNeAt.bool_bool _ _⟩
   |int b=>obtain⟨t,rfl⟩:=l;exact⟨SeqAt.EqAt.bool_int _ _ _,SeqAt.RcAt.bool_int _ _ _,SeqAt.RcNeAt.bool_int _ _ _⟩
   |str b=>obtain⟨t,rfl⟩:=l;exact⟨SeqAt.EqAt.bool_str _ _ _,SeqAt.RcAt.bool_str _ _ _,SeqAt.RcNeAt.bool_str _ _ _⟩
  |int a =>
   obtain⟨t0,rfl⟩:=w;cases m with
   |ty b=>simp[u8]at o2
   |tup b=>simp[u8]at o2
   |ref b=>simp[u8]at o2
   |non=>cases l;exact⟨SeqAt.EqAt.int_none _ _,SeqAt.RcAt.int_none _ _,SeqAt.RcNeAt.int_none _ _⟩
   |bl b=>cases l;exact⟨SeqAt.EqAt.int_bool _ _ _,SeqAt.RcAt.int_bool _ _ _,SeqAt.RcNeAt.int_bool _ _ _⟩
   |int b=>obtain⟨t,rfl⟩:=l;exact⟨Qo _ _ _ _,SeqAt.RcAt.int_int _ _ _ _,SeqAt.RcNeAt.int_int _ _ _ _⟩
   |str b=>obtain⟨t,rfl⟩:=l;exact⟨Ps _ _ _ _,SeqAt.RcAt.int_str _ _ _ _,SeqAt.RcNeAt.int_str _ _ _ _⟩
  |str a =>
   obtain⟨t0,rfl⟩:=w;cases m with
   |ty b=>simp[u8]at o2
   |tup b=>simp[u8]at o2
   |ref b=>simp[u8]at o2
   |non=>cases l;exact⟨SeqAt.EqAt.str_none _ _,SeqAt.RcAt.str_none _ _,SeqAt.RcNeAt.str_none _ _⟩
   |bl b=>cases l;exact⟨SeqAt.EqAt.str_bool _ _ _,SeqAt.RcAt.str_bool _ _ _,SeqAt.RcNeAt.str_bool _ _ _⟩
   |int b=>obtain⟨t,rfl⟩:=l;exact⟨Pq _ _ _ _,SeqAt.RcAt.str_int _ _ _ _,SeqAt.RcNeAt.str_int _ _ _ _⟩
   |str b=>obtain⟨t,rfl⟩:=l;exact⟨Qn _ _ _ _,SeqAt.RcAt.str_str _ _ _ _,SeqAt.RcNeAt.str_str _ _ _ _⟩
 |succ n ih =>
  intro A x y vx vy u v hu R w m l o1 o2;have c:A.units<j9:=by lia
  have ai:A.in1.units+n<j9:=by show A.units+1+n<j9;lia
  -- what a list or a tuple is,as the heap has it
  have tupAt:∀{a:c9}{vs:List V}{ds:List D},z7 X.K H a vs->Reps X.K ρ H ds vs->∃its:List c5,av vs its/\s.heap.IsTuple a its.toArray/\ds.length=its.length:=λ{a vs ds} q r=>by obtain⟨its,g,p,_⟩:=I.tuple q;exact⟨its,g,p,r.length.trans g.length⟩
  have lstAt:∀{i:Nat}{a:c9},ρ[i]?=a7 a->u8 M (n+1) (.ref i)=a9->∃o,M[i]?=a7 o/\∃vs its,Reps X.K ρ H o.items vs/\av vs its/\s.heap.IsList a its.toArray/\o.items.length=its.length:=λ{i a} e ok=>by
   have hi:i<M.length:=by rw[<-sm.len];exact(x5.mp e).1
   have z:=x3 hi;obtain⟨vs,its,q,r,g,p⟩:=mR I sm e z (eO z ok).1;exact⟨_,z,vs,its,r,g,p.isList,r.length.trans g.length⟩
  have f:∀{xs ys:List D}{vs Y:List V}{its d:List c5},Reps X.K ρ H xs vs->av vs its->Reps X.K ρ H ys Y->av Y d->xs.all (u8 M n)=a9->ys.all (u8 M n)=a9 -> ∀(j:Nat) (h1:j<its.toArray.size) (h2:j<d.toArray.size),Ml A.in1 s its.toArray[j] d.toArray[j] (t8 M n (xs.getD j .non)<|ys.getD j .non):=λ{xs ys vs Y its d} R q1 m q2 o1 o2 j h1 h2=>by
   have l1:j<xs.length:=by rw[R.length,q1.length];simpa using h1
   have l2:j<ys.length:=by rw[m.length,q2.length];simpa using h2
   obtain⟨v1,g1,p1⟩:=R.get<|x3 l1;obtain⟨v2,g2,p2⟩:=m.get<|x3 l2;obtain⟨u1,k1,m1⟩:=jf q1 g1;obtain⟨u2,k2,m2⟩:=jf q2 g2;have z1:its.toArray[j]=u1:=by have:=(x5.mp k1).2;simpa using this
   have z2:d.toArray[j]=u2:=by have:=(x5.mp k2).2;simpa using this
   rw[z1,z2];have y1:xs.getD j .non=xs[j]:=by simp[NO,x3 l1]
   have y2:ys.getD j .non=ys[j]:=by simp[NO,x3 l2]
   rw[y1,y2];exact(ih A.in1 _ _ _ _ _ _ ai p1 m1 p2 m2 (E9.mp o1 _<|L5 l1)<|E9.mp o2 _<|L5 l2).1
  have W:∀(xs ys:List D),xs.length=ys.length->(A7 xs.length).all (λj=>t8 M n (xs.getD j .non)<|ys.getD j .non)=C3 (t8 M n) xs ys:=λxs ys h=>nF h λj x y h1 h2=>by simp[NO,h1,h2]
  have N:∀{a b:c9}{k:Bool},u3 X.K ρ H x (.ref a)->u3 X.K ρ H y (.ref b)->t8 M (n+1) x y=k->SeqAt.RcAt A s (.ref a) (.ref b) k->SeqAt.RcNeAt A s (.ref a) (.ref b) (!k) -> Ml A s (.ref a) (.ref b) (t8 M (n+1) x y)/\SeqAt.RcAt A s (.ref a) (.ref b) (t8 M (n+1) x y)/\SeqAt.RcNeAt A s (.ref a) (.ref b) (!t8 M (n+1) x y):=λ{a b k} p1 p2 Z h1 h2=>by subst Z;refine⟨?_,h1,h2⟩;by_cases S:a=b;subst S;rw[DV I sm (n+1) x y _ p1 p2 o1 o2];exact P4 _;exact SeqAt.EqAt.of_refs S h1
  cases R with
  |ty b=>simp[u8]at o1
  |non =>
   cases w;cases m with
   |ty b=>simp[u8]at o2
   |tup q r=>cases l;obtain⟨its,g,p,_⟩:=tupAt q r;exact⟨SeqAt.EqAt.none_tuple p c,SeqAt.RcAt.none_tuple p c,SeqAt.RcNeAt.none_tuple p c⟩
   |ref e=>cases l;obtain⟨o,z,vs,its,r,g,p,_⟩:=lstAt e o2;exact⟨SeqAt.EqAt.none_list p c,SeqAt.RcAt.none_list p c,SeqAt.RcNeAt.none_list p c⟩
   |non=>cases l;exact⟨P4 _,SeqAt.RcAt.none_none,SeqAt.RcNeAt.none_none⟩
   |bl b=>cases l;exact⟨SeqAt.EqAt.none_bool _,SeqAt.RcAt.none_bool _,SeqAt.RcNeAt.none_bool _⟩
   |int b=>obtain⟨t,rfl⟩:=l;exact⟨SeqAt.EqAt.none_int _ _,SeqAt.RcAt.none_int _ _,SeqAt.RcNeAt.none_int _ _⟩
   |str b=>obtain⟨t,rfl⟩:=l;exact⟨SeqAt.EqAt.none_str _ _,SeqAt.RcAt.none_str _ _,SeqAt.RcNeAt.none_str _ _⟩
  |bl a =>
   cases w;cases m with
   |ty b=>simp[u8]at o2
   |tup q r=>cases l;obtain⟨its,g,p,_⟩:=tupAt q r;exact⟨SeqAt.EqAt.bool_tuple _ p c,SeqAt.RcAt.bool_tuple _ p c,SeqAt.RcNeAt.bool_tuple _ p c⟩
   |ref e=>cases l;obtain⟨o,z,vs,its,r,g,p,_⟩:=lstAt e o2;exact⟨SeqAt.EqAt.bool_list _ p c,SeqAt.RcAt.bool_list _ p c,SeqAt.RcNeAt.bool_list _ p c⟩
   |non=>cases l;exact⟨SeqAt.EqAt.bool_none _,SeqAt.RcAt.bool_none _,SeqAt.RcNeAt.bool_none _⟩
   |bl b=>cases l;exact⟨SeqAt.EqAt.bool_bool _ _,SeqAt.RcAt.bool_bool _ _,SeqAt.RcNeAt.bool_bool _ _⟩
   |int b=>obtain⟨t,rfl⟩:=l;exact⟨SeqAt.EqAt.bool_int _ _ _,SeqAt.RcAt.bool_int _ _ _,SeqAt.RcNeAt.bool_int _ _ _⟩
   |str b=>obtain⟨t,rfl⟩:=l;exact⟨SeqAt.EqAt.bool_str _ _ _,SeqAt.RcAt.bool_str _ _ _,SeqAt.RcNeAt.bool_str _ _ _⟩
  |int a =>
   obtain⟨t0,rfl⟩:=w;cases m with
   |ty b=>simp[u8]at o2
   |tup q r=>cases l;obtain⟨its,g,p,_⟩:=tupAt q r;exact⟨SeqAt.EqAt.int_tuple _ _ p c,SeqAt.RcAt.int_tuple _ _ p c,SeqAt.RcNeAt.int_tuple _ _ p c⟩
   |ref e=>cases l;obtain⟨o,z,vs,its,r,g,p,_⟩:=lstAt e o2;exact⟨SeqAt.EqAt.int_list _ _ p c,SeqAt.RcAt.int_list _ _ p c,SeqAt.RcNeAt.int_list _ _ p c⟩
   |non=>cases l;exact⟨SeqAt.EqAt.int_none _ _,SeqAt.RcAt.int_none _ _,SeqAt.RcNeAt.int_none _ _⟩
   |bl b=>cases l;exact⟨SeqAt.EqAt.int_bool _ _ _,SeqAt.RcAt.int_bool _ _ _,SeqAt.RcNeAt.int_bool _ _ _⟩
   |int b=>obtain⟨t,rfl⟩:=l;exact⟨Qo _ _ _ _,SeqAt.RcAt.int_int _ _ _ _,SeqAt.RcNeAt.int_int _ _ _ _⟩
   |str b=>obtain⟨t,rfl⟩:=l;exact⟨Ps _ _ _ _,SeqAt.RcAt.int_str _ _ _ _,SeqAt.RcNeAt.int_str _ _ _ _⟩
  |str a =>
   obtain⟨t0,rfl⟩:=w;cases m with
   |ty b=>simp[u8]at o2
   |tup q r=>cases l;obtain⟨its,g,p,_⟩:=tupAt q r;exact⟨SeqAt.EqAt.str_tuple _ _ p c,SeqAt.RcAt.str_tuple _ _ p c,SeqAt.RcNeAt.str_tuple _ _ p c⟩
   |ref e=>cases l;obtain⟨o,z,vs,its,r,g,p,_⟩:=lstAt e o2;exact⟨SeqAt.EqAt.str_list _ _ p c,SeqAt.RcAt.str_list _ _ p c,SeqAt.RcNeAt.str_list _ _ p c⟩
   |non=>cases l;exact⟨SeqAt.EqAt.str_none _ _,SeqAt.RcAt.str_none _ _,SeqAt.RcNeAt.str_none _ _⟩
   |bl b=>cases l;exact⟨SeqAt.EqAt.str_bool _ _ _,SeqAt.RcAt.str_bool _ _ _,SeqAt.RcNeAt.str_bool _ _ _⟩
   |int b=>obtain⟨t,rfl⟩:=l;exact⟨Pq _ _ _ _,SeqAt.RcAt.str_int _ _ _ _,SeqAt.RcNeAt.str_int _ _ _ _⟩
   |str b=>obtain⟨t,rfl⟩:=l;exact⟨Qn _ _ _ _,SeqAt.RcAt.str_str _ _ _ _,SeqAt.RcNeAt.str_str _ _ _ _⟩
  |@tup a vs ds q r =>
   cases w;obtain⟨its,g,p,Q⟩:=tupAt q r;cases m with
   |ty b=>simp[u8]at o2
   |non=>cases l;exact⟨SeqAt.EqAt.tuple_none p c,SeqAt.RcAt.tuple_none p c,SeqAt.RcNeAt.tuple_none p c⟩
   |bl b=>cases l;exact⟨SeqAt.EqAt.tuple_bool _ p c,SeqAt.RcAt.tuple_bool _ p c,SeqAt.RcNeAt.tuple_bool _ p c⟩
   |int b=>obtain⟨t,rfl⟩:=l;exact⟨SeqAt.EqAt.tuple_int _ _ p c,SeqAt.RcAt.tuple_int _ _ p c,SeqAt.RcNeAt.tuple_int _ _ p c⟩
   |str b=>obtain⟨t,rfl⟩:=l;exact⟨SeqAt.EqAt.tuple_str _ _ p c,SeqAt.RcAt.tuple_str _ _ p c,SeqAt.RcNeAt.tuple_str _ _ p c⟩
   |ref e=>cases l;obtain⟨o,z,al,U,r',P,J,_⟩:=lstAt e o2;exact⟨SeqAt.EqAt.tuple_list p J c,SeqAt.RcAt.tuple_list p J c,SeqAt.RcNeAt.tuple_list p J c⟩
   |@tup b Y es L r' =>
    cases l;obtain⟨d,P,J,C⟩:=tupAt L r';have E:ds.all (u8 M n)=a9:=by simpa [u8]using o1
    have F:es.all (u8 M n)=a9:=by simpa [u8]using o2
    have aj:((A7<|min its.toArray.size d.toArray.size).all (λj=>t8 M n (ds.getD j .non)<|es.getD j .non)&&its.toArray.size==d.toArray.size)=C3 (t8 M n) ds es:=by rw[y4,y4];by_cases G:ds.length=es.length;rw[<-Q,<-C,<-G,Nat.min_self,W ds es G];simp;rw[Bl G,<-Q,<-C];simp[G]
    have h1:=SeqAt.RcAt.tuples p J c<|f r g r' P E F;have h2:=SeqAt.RcNeAt.tuples p J c<|f r g r' P E F;rw[aj]at h1 h2;exact N (.tup q r) (.tup L r') rfl h1 h2
  |@ref i a e =>
   cases w;obtain⟨o,z,vs,its,r,g,p,Q⟩:=lstAt e o1;cases m with
   |ty b=>simp[u8]at o2
   |non=>cases l;exact⟨SeqAt.EqAt.list_none p c,SeqAt.RcAt.list_none p c,SeqAt.RcNeAt.list_none p c⟩
   |bl b=>cases l;exact⟨SeqAt.EqAt.list_bool _ p c,SeqAt.RcAt.list_bool _ p c,SeqAt.RcNeAt.list_bool _ p c⟩
   |int b=>obtain⟨t,rfl⟩:=l;exact⟨SeqAt.EqAt.list_int _ _ p c,SeqAt.RcAt.list_int _ _ p c,SeqAt.RcNeAt.list_int _ _ p c⟩
   |str b=>obtain⟨t,rfl⟩:=l;exact⟨SeqAt.EqAt.list_str _ _ p c,SeqAt.RcAt.list_str _ _ p c,SeqAt.RcNeAt.list_str _ _ p c⟩
   |tup L r'=>cases l;obtain⟨U,P,J,_⟩:=tupAt L r';exact⟨SeqAt.EqAt.list_tuple p J c,SeqAt.RcAt.list_tuple p J c,SeqAt.RcNeAt.list_tuple p J c⟩
   |@ref j b e' =>
    cases l;obtain⟨O,T,Y,d,r',P,J,C⟩:=lstAt e' o2;have E:o.items.all (u8 M n)=a9:=(eO z o1).2;have F:O.items.all (u8 M n)=a9:=(eO T o2).2;have Z:t8 M (n+1) (.ref i) (.ref j)=C3 (t8 M n) o.items O.items:=by simp only[t8,z,T]
    by_cases G:o.items.length=O.items.length;have B:its.toArray.size=d.toArray.size:=by rw[y4,y4,<-Q,<-C,G]
    have h1:=SeqAt.RcAt.lists p J B c<|f r g r' P E F;have h2:=SeqAt.RcNeAt.lists p J B c<|f r g r' P E F;rw[y4,<-Q,W _ _ G]at h1 h2;exact N (.ref e) (.ref e') Z h1 h2;have B:(its.toArray.size != d.toArray.size)=a9:=by rw[y4,y4,<-Q,<-C];simpa using G
    have h1:=SeqAt.RcAt.lists_lengths p J B c;have h2:=SeqAt.RcNeAt.lists_lengths p J B c;exact N (.ref e) (.ref e') (Z.trans<|Bl G) h1 h2
noncomputable def t9:Nat:=30
def A2:E4:=λx y M Q=>(u8 M t9 x=a9/\u8 M t9 y=a9)/\Q (.bl<|t8 M t9 x y) M
def NJ:E4:=λx y M Q=>(u8 M t9 x=a9/\u8 M t9 y=a9)/\Q (.bl<|!t8 M t9 x y) M
noncomputable def LZ(M:t7)(x:D)(ys:List D):Bool:=ys.any λy=>t8 M t9 y x
def Jd(g:Bool):E4:=λx y M Q=>match y with
 |.tup ys=>(u8 M t9 x=a9/\ys.all (u8 M t9)=a9)/\Q (.bl<|LZ M x ys != g) M
 |.ref n=>∃ys,ar M n ys/\(u8 M t9 x=a9/\ys.all (u8 M t9)=a9)/\Q (.bl<|LZ M x ys != g) M
 |.str z=>match x with
  |.str p=>Q (.bl<|(!(QA z p 0 z.length 1).isEmpty) != g) M
  |_=>False
 |_=>False
abbrev LP:E4:=Jd bt
abbrev lh:E4:=Jd a9
end
section
variable{X:Cx}
theorem vR(i:Room k A):A.units+t9<j9:=by have:=i.un;unfold t9;lia
theorem od_eq(i:Room k X.A):F6 X (j7 .Eq) A2:=by rintro p s σ H c l v u R I g b ⟨x,y,M,ρ,Q,m,r,a,⟨⟨o1,o2⟩,q⟩,k⟩;exact(nG I m t9 X.A x y c l v u (vR i) r g a b o1 o2).2.1 _ _ _ _<|gk I m k q
theorem od_ne(i:Room k X.A):F6 X (j7 .NotEq) NJ:=by rintro p s σ H c l v u R I g b ⟨x,y,M,ρ,Q,m,r,a,⟨⟨o1,o2⟩,q⟩,k⟩;exact(nG I m t9 X.A x y c l v u (vR i) r g a b o1 o2).2.2 _ _ _ _<|gk I m k q
theorem tu{pins:List (c9×d5)}{σ:St}{H:Hp}{s:f6}{ρ:List c9}{M:t7}(I:q9 X pins σ H s)(m:ve X.K ρ M H):∀(n:Nat) (x y z:D) (v:V),u3 X.K ρ H x v->u3 X.K ρ H y v->u8 M n x=a9->u8 M n y=a9->t8 M n x z=t8 M n y z:=by
 have l:∀(n:Nat),(∀(x y z:D) (v:V),u3 X.K ρ H x v->u3 X.K ρ H y v->u8 M n x=a9->u8 M n y=a9->t8 M n x z=t8 M n y z) -> ∀(xs ys d:List D) (vs:List V),Reps X.K ρ H xs vs->Reps X.K ρ H ys vs->xs.all (u8 M n)=a9->ys.all (u8 M n)=a9->C3 (t8 M n) xs d=C3 (t8 M n) ys d:=by
  intro n w xs;induction xs with
  |nil=>intro ys d vs h1 h2 _ _;cases h1;cases h2;rfl
  |cons x xs hi =>
   intro ys d vs h1 h2 o1 o2;cases h1 with
   |cons O R =>
    cases h2 with
    |cons P S =>
     cases d with
     |nil=>rfl
     |cons z d=>rw[L3,D3]at o1 o2;rw[C3,C3,w _ _ z _ O P o1.1 o2.1,hi _ d _ R S o1.2 o2.2]
 intro n;induction n with
 |zero=>intro x y z v h1 h2 o1 o2;cases h1<;>cases h2<;>first|rfl|(cases z<;>rfl)
 |succ n w =>
  intro x y z v h1 h2 o1 o2;cases h1 with
  |non=>cases h2;rfl
  |bl b=>cases h2;rfl
  |int b=>cases h2;rfl
  |str b=>cases h2;rfl
  |ty b=>cases h2;rfl
  |@tup a vs ds u r =>
   cases h2 with
   |tup h r' =>
    have e:=I.tuple_inj u h;subst e;cases z with
    |tup d=>exact l n w _ _ d _ r r' o1 o2
    |_=>rfl
   |@ref i _ e =>
    exfalso;obtain⟨its,_,⟨o,A,B,_⟩,_⟩:=I.tuple u;have hi:i<M.length:=by rw[<-m.len];exact(x5.mp e).1
    obtain⟨q,f,_,_,_,⟨G,F,g,p,_⟩⟩:=mR I m e (x3 hi) (eO (x3 hi) o2).1;rw[A]at g;cases g;rw[B]at p;injection p with f3;exact o5 f3<|by decide
  |@ref i a e =>
   have hi:i<M.length:=by rw[<-m.len];exact(x5.mp e).1
   have t:=x3 hi;obtain⟨vs,its,u,r,U,J⟩:=mR I m e t (eO t o1).1;cases h2 with
   |tup h r'=>exfalso;obtain⟨f,_,⟨o,A,B,_⟩,_⟩:=I.tuple h;obtain⟨G,F,g,p,_⟩:=J;rw[A]at g;cases g;rw[B]at p;injection p with f3;exact o5 f3<|by decide
   |@ref j _ C =>
    have L:j<M.length:=by rw[<-m.len];exact(x5.mp C).1
    have c:=x3 L;obtain⟨q,f,h,r',Q,N⟩:=mR I m C c (eO c o2).1;have E:vs=q:=I.list_inj u h;subst E;cases z with
    |ref k =>
     simp only[t8,t,c];cases M[k]? with
     |none=>rfl
     |some T=>exact l n w _ _ _ _ r r' (eO t o1).2 (eO c o2).2
    |_=>rfl
theorem AV{k:Nat}(E:Room k X.A){pins:List (c9×d5)}{σ:St}{H:Hp}{s:f6}{ρ:List c9}{M:t7}(I:q9 X pins σ H s)(m:ve X.K ρ M H){x:D}{l:V}{v:c5}(G:u3 X.K ρ H x l)(N:aV l v)(o1:u8 M t9 x=a9):∀{ys:List D}{ws:List V}{its:List c5},Reps X.K ρ H ys ws->av ws its->ys.all (u8 M t9)=a9->∃e:c5->Bool,(∀u∈its,Ml X.A.in1 s u v<|e u)/\its.any e=LZ M x ys:=by
 have w:X.A.in1.units+t9<j9:=by have:=E.un;show X.A.units+1+t9<j9;unfold t9;lia
 intro ys ws its i vs ok
 classical
 refine⟨λu=>if h:∃d a,u3 X.K ρ H d a/\aV a u/\u8 M t9 d=a9 then t8 M t9 h.choose x else bt,λu B=>?_,?_⟩;obtain⟨j,L,z⟩:=Pv B;have y:j<ws.length:=by rw[vs.length];exact L
 obtain⟨d,n,f⟩:=i.getV<|x3 y;obtain⟨J,b,R⟩:=jf vs<|x3 y;have:J=u:=by rw[x3 L]at b;cases b;exact z
 subst this;have o:=E9.mp ok _<|F0 n;have h:∃d a,u3 X.K ρ H d a/\aV a J/\u8 M t9 d=a9:=⟨d,_,f,R,o⟩
 show Ml X.A.in1 s J v (if h:_ then _ else _);rw[dif_pos h];obtain⟨a,g,p,c⟩:=h.choose_spec;have C:=aV.inj p R;subst C;rw[tu I m t9 _ d x _ g f c o];exact(nG I m t9 X.A.in1 d x _ l _ v w f R G N (E9.mp ok _<|F0 n) o1).1;clear w o1;unfold LZ;induction ys generalizing ws its with
 |nil=>cases i;cases vs;rfl
 |cons d ds F =>
  cases i with
  |cons r t =>
  cases vs with
  |cons q t' =>
   rename_i a O u us;rw[L3,D3]at ok;have h:∃d a,u3 X.K ρ H d a/\aV a u/\u8 M t9 d=a9:=⟨d,_,r,q,ok.1⟩
   rw[Pc,Pc,F t t' ok.2,dif_pos h];obtain⟨P,g,p,c⟩:=h.choose_spec;have C:=aV.inj p q;subst C;rw[tu I m t9 _ d x _ g r c ok.1]
theorem ET(g:Bool)(D:Room k X.A):F6 X (j7<|if g then .NotIn else .In) (Jd g):=by
 rintro E s σ H K N v u R I B C ⟨x,y,M,ρ,Q,m,n,G,q,k⟩;cases G with
 |non=>exact q.elim
 |bl b=>exact q.elim
 |int b=>exact q.elim
 |ty b=>exact q.elim
 |str z =>
  cases n with
  |str p =>
   obtain⟨t,rfl⟩:=B;obtain⟨t',rfl⟩:=C;cases g with
   |false=>exact in_str<|gk I m k<|by simpa [Jd]using q
   |true=>exact notIn_str<|gk I m k<|by simpa [Jd]using q
  |_=>exact q.elim
 |@tup a J ys j r =>
  cases C;obtain⟨⟨o1,o2⟩,q⟩:=(show (u8 M t9 x=a9/\_)/\_ from q)
  obtain⟨its,o,l,F⟩:=I.tuple j;obtain⟨e,i,f⟩:=AV D I m n B o1 r o o2;have d:its.toArray.any e=LZ M x ys:=by rw[<-f];simp
  cases g with
  |false=>exact SeqAt.in_tupleAt e l (λw c=>i w<|by simpa using c)<|by rw[d];exact gk I m k<|by simpa using q
  |true=>exact SeqAt.notIn_tupleAt e l (λw c=>i w<|by simpa using c)<|by rw[d];exact gk I m k<|by simpa using q
 |ref h =>
  cases C;obtain⟨ys,L,⟨o1,o2⟩,q⟩:=(show ∃ys,ar M _ ys/\(u8 M t9 x=a9/\_)/\_ from q)
  obtain⟨J,j,r⟩:=ar.seq m L h;obtain⟨its,o,l,F⟩:=I.list j;obtain⟨e,i,f⟩:=AV D I m n B o1 r o o2;have d:its.toArray.any e=LZ M x ys:=by rw[<-f];simp
  cases g with
  |false=>exact SeqAt.in_listAt e l.isList (λw c=>i w<|by simpa using c)<|by rw[d];exact gk I m k<|by simpa using q
  |true=>exact SeqAt.notIn_listAt e l.isList (λw c=>i w<|by simpa using c)<|by rw[d];exact gk I m k<|by simpa using q
theorem od_in(i:Room k X.A):F6 X (j7 .In) LP:=ET bt i
theorem CT(i:Room k X.A):F6 X (j7 .NotIn) lh:=ET a9 i
end
theorem LB:e8 "len" = a7 (.builtin "len"):=by decide +kernel
theorem LC:e8 "any" = a7 (.builtin "any"):=by decide +kernel
theorem qD:e8 "isinstance" = a7 (.builtin "isinstance"):=by decide +kernel
theorem tY:e8 "sorted" = a7 (.builtin "sorted"):=by decide +kernel
theorem Lz:e8 "str" = a7 (.type "str"):=by decide +kernel
theorem Ic:e8 "list" = a7 (.type "list"):=by decide +kernel
theorem Ex:e8 "tuple" = a7 (.type "tuple"):=by decide +kernel
theorem Ie:e8 "dict" = a7 (.type "dict"):=by decide +kernel
noncomputable def visB(c:f7)(x:c6):Bool:=match c.names.lookup x with
 |some .local=>a9
 |some .cell=>a9
 |some .free=>a9
 |_=>bt
theorem ID(h:visB sc x=a9):NL sc x:=by unfold visB at h;unfold NL;split at h;rename_i e;exact .inl e;rename_i e;exact .inr<|.inl e;rename_i e;exact .inr<|.inr e;cases h
noncomputable def Ip(c:f7)(x:c6):Bool:=match c.names.lookup x with
 |some .local=>a9
 |some .cell=>a9
 |_=>bt
theorem Ax(h:Ip sc x=a9):No sc x:=by unfold Ip at h;unfold No;split at h;rename_i e;exact .inl e;rename_i e;exact .inr e;cases h
structure HE(X:Cx)(e:ge)(t:v5):Prop where
 ok:DE X e t
structure HT(X:Cx)(e:ge)(t:E6):Prop where
 ok:DT X e t
structure HW(X:Cx)(e:ge)(t:E6):Prop where
 ok:DW X e t
structure HA(X:Cx)(es:List ge)(t:F7):Prop where
 ok:DA X es t
structure HS(X:Cx)(e:i6)(t:s9):Prop where
 ok:DS X e t
structure HB(X:Cx)(e:List i6)(t:s9):Prop where
 ok:MJ X e t
structure HG(X:Cx)(e:ge)(t:J4):Prop where
 ok:DG X e t
structure HI(X:Cx)(tg e:ge)(t:LR):Prop where
 ok:DI X tg e t
structure Om(X:Cx)(e:List ge)(t:E6):Prop where
 ok:MS X e (lowT X.K t)
structure HO'(X:Cx)(e:Option ge)(t:NN):Prop where
 ok:PO X e (JT X.K t)
structure G1(X:Cx)(f:c5->c5->Sem c5)(r:E4):Prop where
 ok:F6 X f r
structure RG(X:Cx)(f:c5->Sem c5)(r:O3):Prop where
 ok:QU X f r
structure HC(X:Cx)(f:c5)(r:C6):Prop where
 ok:lV X f r
structure QY(X:Cx)(name:c6)(r:c6->C6):Prop where
 ok:∃id,Slot "str" name id/\l7 (.builtin id)=pure (.type "method_descriptor")/\LD X id (Dd X.K r)
structure O2(X:Cx)(name:c6)(r:Nat->C6):Prop where
 ok:∃id,Slot "list" name id/\l7 (.builtin id)=pure (.type "method_descriptor")/\LD X id (nW X.K r)
section
variable{X:Cx}{e a b c o:ge}{es bf:List ge}{te ta tb tc to:v5}{t:F7}{pos p:i3}{x:c6}{tA tB:E6}{k:Nat}
theorem k_var(h:X.N[i]?=a7 x:=by kernel_rfl)(c:visB X.env.scope x=a9:=by kernel_rfl)(a:(x==("__debug__":c6))=bt:=by kernel_rfl)(d:(x==("__classdict__":c6))=bt:=by kernel_rfl):HE X (.Name x pos) (ab i):=⟨d_var h (ID c) a d⟩
theorem k_int:HE X (.Constant (.int i) j pos) (dC<|.int i):=⟨d_int⟩
theorem k_bl:HE X (.Constant (.bool i) j pos) (dC<|.bl i):=⟨d_bl⟩
theorem k_non:HE X (.Constant .none j pos) (dC .non):=⟨d_non⟩
theorem k_str:HE X (.Constant (.str i) j pos) (dC<|.str i):=⟨d_str⟩
theorem Kl(m:X.mg x=a8)(c:e8 x=a7 (.type T))(S:X.env.kindOf x=a7 .globalImplicit:=by kernel_rfl)(f:(x==("__name__":c6))=bt:=by kernel_rfl)(d:(x==("__debug__":c6))=bt:=by kernel_rfl):HE X (.Name x pos) (dC<|.ty T):=⟨Lo m c S (by simpa using f) d⟩
theorem k_op(B:G1 X (j6 op) r)(f:HE X a ta)(d:HE X b tb):HE X (.BinOp a op b pos) (r9 r ta tb):=⟨d_op B.ok f.ok d.ok⟩
theorem k_un(B:RG X (unaryOp op) r)(f:HE X a ta):HE X (.UnaryOp op a pos) (OR r ta):=⟨d_un B.ok f.ok⟩
theorem k_cmp(B:G1 X (j7 op) r)(f:HE X a ta)(d:HE X b tb)(m:j8 op b=bt:=by kernel_rfl):HE X (.Compare a [op] [b] pos) (r9 r ta tb):=⟨d_cmp B.ok f.ok d.ok m⟩
theorem JY(B:G1 X (j7 op) r)(f:HE X a ta)(d:HE X b tb)(m:j8 op b=bt:=by kernel_rfl):HT X (.Compare a [op] [b] pos) (aq<|r9 r ta tb):=⟨La B.ok f.ok d.ok m⟩
theorem GW(B:G1 X (j7 op) r)(h:G1 X (j7 op') r')(f:HE X a ta)(d:HE X b tb)(e:HE X c tc)(m:lastMarks [op,op'] [b,c]=bt:=by kernel_rfl):HE X (.Compare a [op,op'] [b,c] pos) (tM r r' ta tb tc):=⟨HU B.ok h.ok f.ok d.ok e.ok m⟩
theorem JW(h:HE X e te)(i:∀whole,isTrue e X.env whole=(do let v <-whole;standAt e.pos;i7 [v] (truthy v)):=by intro _;kernel_rfl):HT X e (aq te):=⟨KW h.ok i⟩
theorem GE(f:HT X a tA):HW X (.BoolOp .And [a] pos) tA:=⟨Hs f.ok⟩
theorem JU(f:HT X a tA):HW X (.BoolOp .Or [a] pos) tA:=⟨KR f.ok⟩
theorem EX(f:HT X a tA)(d:HW X (.BoolOp .And (b::bf) pos) tB):HW X (.BoolOp .And (a::b::bf) pos) (vE tA tB):=⟨KU f.ok d.ok⟩
theorem JV(f:HT X a tA)(d:HW X (.BoolOp .Or (b::bf) pos) tB):HW X (.BoolOp .Or (a::b::bf) pos) (Mh tA tB):=⟨dw_or f.ok d.ok⟩
theorem kw_t(h:HW X e tA):HT X e tA:=⟨dw_t h.ok⟩
theorem JX(f:HT X a tA):HT X (.UnaryOp .Not a pos) (Bs tA):=⟨KZ f.ok⟩
theorem k_one{op}(h:HE X a ta):HE X (.BoolOp op [a] pos) ta:=⟨d_one h.ok⟩
theorem k_and(f:HE X a ta)(d:HE X (.BoolOp .And (b::bf) pos) tb):HE X (.BoolOp .And (a::b::bf) pos) (tN ta tb):=⟨d_and f.ok d.ok⟩
theorem k_or(f:HE X a ta)(d:HE X (.BoolOp .Or (b::bf) pos) tb):HE X (.BoolOp .Or (a::b::bf) pos) (Ir ta tb):=⟨d_or f.ok d.ok⟩
theorem k_not(f:HE X a ta):HE X (.UnaryOp .Not a pos) (El ta):=⟨d_not f.ok⟩
theorem GT(h:HT X c tA)(f:HE X a ta)(d:HE X b tb):HE X (.IfExp c a b pos) (dIfE tA ta tb):=⟨HR h.ok f.ok d.ok⟩
theorem Kk:HA X [] af:=⟨Ln⟩
theorem GQ(f:HE X e te)(i:HA X es t)(hs:i5 (e::es) X.env=(bt,eval e X.env)::i5 es X.env:=by kernel_rfl):HA X (e::es) (aa te t):=⟨HP f.ok i.ok hs⟩
theorem k_tup{x1}(h:HA X es t):HE X (.Tuple es x1 pos) (eG t):=⟨d_tup h.ok⟩
theorem k_lst(h:HA X es t):HE X (.List es pos) (ko t):=⟨d_lst h.ok⟩
theorem GX{id:String}{r:C6}(c:HC X (.builtin id) r)(d:X.mg x=a8)(v:e8 x=a7 (.builtin id))(f:HA X (e::es) t)(S:X.env.kindOf x=a7 .globalImplicit:=by kernel_rfl)(n:(x==("__name__":c6))=bt:=by kernel_rfl)(b:(x==("__debug__":c6))=bt:=by kernel_rfl)(i:i5 (e::es) X.env=(bt,eval e X.env)::i5 es X.env:=by kernel_rfl) (l:(i4 pos<|i5 es X.env).any (·.1)=bt:=by kernel_rfl):HE X (.Call (.Name x p) (e::es) [] pos) (t6 r t):=⟨HV c.ok d v f.ok S (by simpa using n) b i l⟩
theorem Dx(c:HC X (.type T) r)(d:X.mg x=a8)(v:e8 x=a7 (.type T))(f:HA X (e::es) t)(S:X.env.kindOf x=a7 .globalImplicit:=by kernel_rfl)(n:(x==("__name__":c6))=bt:=by kernel_rfl)(b:(x==("__debug__":c6))=bt:=by kernel_rfl)(i:i5 (e::es) X.env=(bt,eval e X.env)::i5 es X.env:=by kernel_rfl) (l:(i4 pos<|i5 es X.env).any (·.1)=bt:=by kernel_rfl):HE X (.Call (.Name x p) (e::es) [] pos) (t6 r t):=⟨Ek c.ok d v f.ok S (by simpa using n) b i l⟩
theorem k_cal(C:u9 X.prog X.w X.K X.mg X.base j x ps P)(r:Room k X.A)(f:HA X (e::es) t)(L:Nat.ble j k=a9:=by kernel_rfl)(S:X.env.kindOf x=a7 .globalImplicit:=by kernel_rfl) (b:(x==("__debug__":c6))=bt:=by kernel_rfl) (i:i5 (e::es) X.env=(bt,eval e X.env)::i5 es X.env:=by kernel_rfl) (l:(i4 pos<|i5 es X.env).any (·.1)=bt:=by kernel_rfl):HE X (.Call (.Name x p) (e::es) [] pos) (t6 P t):=⟨d_cal C r f.ok (Nat.le_of_ble_eq_true L) S b i l⟩
theorem k_ix(f:HE X a ta)(d:HE X b tb)(hs:vK b:=by intro _ _;kernel_rfl):HE X (.Subscript a b pos) (r9 u7 ta tb):=⟨d_ix f.ok d.ok hs⟩
theorem GM:HO' X a8 fH:=⟨HH⟩
theorem GL(h:HE X e te):HO' X (a7 e) (gx te):=⟨HF h.ok⟩
theorem GS{l hi:Option ge}{t h:NN}{j:i3}(i:HE X e te)(g:HO' X l t)(u:HO' X hi h):HE X (.Subscript e (.Slice l hi a8 j) pos) (Mg te t h):=⟨HQ i.ok g.ok u.ok⟩
variable{name:c6}{apos cpos:i3}
theorem k_ms(d:QY X name r)(B:HE X o to)(f:HA X (e::es) t)(h:l8 o name X.env (eval o X.env)=eval o X.env:=by kernel_rfl)(w:((i4 cpos<|i5 (e::es) X.env).all (λx=>!x.1)&&(l9 cpos<|m3 [] X.env).all (λx=>x.1.isSome) && decide ((e::es).length+([]:List k6).length+(if ([]:List k6).isEmpty then 0 else 1)<30))=a9:=by kernel_rfl)(a:(apos.endLine==cpos.line)=a9:=by kernel_rfl) (hs:i5 (e::es) X.env=(bt,eval e X.env)::i5 es X.env:=by kernel_rfl) (n:(i4 cpos<|i5 es X.env).any (·.1)=bt:=by kernel_rfl):HE X (.Call (.Attribute o name apos) (e::es) [] cpos) (OS r to t):=let ⟨_,h1,h2,h3⟩:=d.ok;⟨d_ms h1 h2 h3 B.ok f.ok h w a hs n⟩
theorem k_ml(d:O2 X name r)(B:HE X o to)(f:HA X (e::es) t)(h:l8 o name X.env (eval o X.env)=eval o X.env:=by kernel_rfl)(w:((i4 cpos<|i5 (e::es) X.env).all (λx=>!x.1)&&(l9 cpos<|m3 [] X.env).all (λx=>x.1.isSome) && decide ((e::es).length+([]:List k6).length+(if ([]:List k6).isEmpty then 0 else 1)<30))=a9:=by kernel_rfl)(a:(apos.endLine==cpos.line)=a9:=by kernel_rfl) (hs:i5 (e::es) X.env=(bt,eval e X.env)::i5 es X.env:=by kernel_rfl) (n:(i4 cpos<|i5 es X.env).any (·.1)=bt:=by kernel_rfl):HE X (.Call (.Attribute o name apos) (e::es) [] cpos) (K2 r to t):=let ⟨_,h1,h2,h3⟩:=d.ok;⟨d_ml h1 h2 h3 B.ok f.ok h w a hs n⟩
variable{st:i6}{sts:List i6}{ts us:s9}{aS bS:List i6}
theorem Ka:HB X [] aX:=⟨Le⟩
theorem JZ(h:HS X st ts):HB X [st] ts:=⟨Ld h.ok⟩
theorem GK(h1:HS X st ts)(h2:HB X sts us):HB X (st::sts) (ax ts us):=⟨HD h1.ok h2.ok⟩
theorem AK(i:HE X e te)(hs:i8 e a8 pos.line X.env=pure bt:=by kernel_rfl):HS X (.Expr e pos) (fI te):=⟨Hz i.ok hs⟩
theorem Fb(i:HE X e te):HS X (.Return (a7 e) pos) (bp te):=⟨Lc i.ok⟩
theorem Kb(h:HT X c tA)(f:HB X aS ts)(d:HB X bS us):HS X (.If c aS bS pos) (A0 tA ts us):=⟨ds_if h.ok f.ok d.ok⟩
theorem Fa(h:X.N.Nodup)(a:HE X e te)(hi:X.N[i]?=a7 x:=by kernel_rfl)(b:Ip X.env.scope x=a9:=by kernel_rfl)(hs:i8 e (a7<|.Name x pos') pos.line X.env=pure bt:=by kernel_rfl)(f:X.fn x=a9:=by kernel_rfl):HS X (.Assign [.Name x pos'] e pos) (bb te i):=⟨Lb h a.ok hi (Ax b) hs<|.inl f⟩
theorem GP(h:X.N.Nodup)(hi:X.N[i]?=a7 x:=by kernel_rfl)(a:Ip X.env.scope x=a9:=by kernel_rfl)(f:X.fn x=a9:=by kernel_rfl):HG X (.Name x pos) (ah i):=⟨vC h hi (Ax a)<|.inl f⟩
theorem Kg(h:X.N.Nodup)(hi:X.N[i]?=a7 x:=by kernel_rfl)(f:X.env.scope.names.lookup x=a7 .local:=by kernel_rfl):HG X (.Name x pos) (ah i):=⟨vC h hi (.inl f)<|.inr f⟩
variable{tg iter:ge}{di:LR}{g:J4}
theorem Kd(h:HE X e te):HI X tg e (bV te):=⟨Li h.ok⟩
theorem Fc{a:List i6}{b:s9}(hi:HI X tg iter di)(S:HG X tg g)(d:HB X a b)(p:PassesOwn (h8 X.prog X.w) X.A X.env X.xe:=by exact PassesOwn.never)(f:X.calm=a9:=by kernel_rfl)(hs:∀x,j5 iter X.env x=pure x:=by intro _;kernel_rfl):HS X (.For tg iter a [] pos) (lC di g b):=⟨Lf hi.ok S.ok d.ok p f hs⟩
theorem GI:Om X [] vD:=⟨Hv⟩
theorem GH(h:HT X c tA):Om X [c] tA:=⟨Hu h.ok⟩
theorem k_lc(hi:HI X tg iter di)(S:∀cl s0 H0 ex,HG (A3 X N' scope cl s0 H0 ex) tg g) (D:∀cl s0 H0 ex,Om (A3 X N' scope cl s0 H0 ex) ifs tt) (i:∀cl s0 H0 ex,HE (A3 X N' scope cl s0 H0 ex) elt te) (B:pG X.env.scope.names X.N N' nt js scope=a9:=by kernel_rfl) (f:X.calm=a9:=by kernel_rfl)(hs:∀x,j5 iter X.env x=pure x:=by intro _;kernel_rfl):HE X (.ListComp elt [⟨tg,iter,ifs,0⟩] scope pos) (E5 nt js di g tt te):=⟨d_lc (BlkSc.chk B) hi.ok (λcl s0 H0 ex=>(S cl s0 H0 ex).ok) (λcl s0 H0 ex=>(D cl s0 H0 ex).ok) (λcl s0 H0 ex=>(i cl s0 H0 ex).ok) f hs⟩
theorem AM(d:X.mg "range" = a8)(f:HA X [a] t)(S:X.env.kindOf "range" = a7 .globalImplicit:=by kernel_rfl)(hs:i5 [a] X.env=[(bt,eval a X.env)]:=by kernel_rfl):HI X tg (.Call (.Name "range" p) [a] [] pos) (dZ t):=⟨Bo d f.ok S hs⟩
theorem AL(d:X.mg "range" = a8)(f:HA X [a,b] t)(S:X.env.kindOf "range" = a7 .globalImplicit:=by kernel_rfl)(hs:i5 [a,b] X.env=[(bt,eval a X.env),(bt,eval b X.env)]:=by kernel_rfl)(c:i5 [b] X.env=[(bt,eval b X.env)]:=by kernel_rfl):HI X tg (.Call (.Name "range" p) [a,b] [] pos) (qz t):=⟨Bn d f.ok S hs c⟩
theorem Kv:G1 X (j6 .Sub) Jc:=⟨JK⟩
theorem Ky:G1 X (j6 .Mult) pR:=⟨Gr⟩
theorem Hf:G1 X (j6 .FloorDiv) uD:=⟨Gs⟩
theorem Kz:G1 X (j6 .Mod) zP:=⟨JN⟩
theorem ho_lt:G1 X (j7 .Lt) Nm:=⟨od_lt⟩
theorem ho_le:G1 X (j7 .LtE) Oj:=⟨od_le⟩
theorem ho_gt:G1 X (j7 .Gt) Na:=⟨od_gt⟩
theorem ho_is:G1 X (j7 .Is) ON:=⟨od_is⟩
theorem DC:G1 X (j7 .IsNot) lp:=⟨CU⟩
theorem ho_eq(i:Room k X.A):G1 X (j7 .Eq) A2:=⟨od_eq i⟩
theorem ho_ne(i:Room k X.A):G1 X (j7 .NotEq) NJ:=⟨od_ne i⟩
theorem ho_in(i:Room k X.A):G1 X (j7 .In) LP:=⟨od_in i⟩
theorem DB(i:Room k X.A):G1 X (j7 .NotIn) lh:=⟨CT i⟩
theorem Ku:RG X (unaryOp .USub) Il:=⟨IF⟩
theorem KF:HC X (.builtin "len") lJ:=⟨Lw⟩
theorem KH(f:X.calm=a9:=by kernel_rfl):HC X (.builtin "any") Io:=⟨Ly f⟩
theorem KG:HC X (.builtin "isinstance") FN:=⟨Lx⟩
theorem Bc:O2 X "append" bC:=⟨_,PySem.F.slot_list_append,PySem.F.type_list_append,ya⟩
end
theorem u9.byH{P:c8}{w:c7}{K:u4}{mg:c6->Option c5}{base:d6}{x:c6}{st:i6}{N ps:List c6}{k:Nat}{d:w6}(F:cu K mg x st ps)(i:FnScope N ps (au st))(B:∀ds M R,d ds M R->ds.length=ps.length) {t:s9}(r:∀(f:c9) (cdv:c5) (A:e9) (outer:List Env) (s:f6) (H:Hp) (E:XK),Room k (A.deeper<|k8 x (au st) s.heap.objs.size f cdv)->HB (tO F8 P w K mg base N x (au st) f cdv A outer s H E).nox (bU st) t)(p:∀ds M R,d ds M R->t ⟨λ_ M'=>bc M R .non M',bc M R,λ_ _=>False,λ_ _=>False⟩ (cN N ds) M):u9 P w K mg base (k+1) x ps d:=u9.of F i B (λf cdv A outer s H E h=>(r f cdv A outer s H E h).ok) p
theorem DQ{P:c8}{w:c7}{K:u4}{mg:c6->Option c5}{base:d6}{x:c6}{st:i6}{N ps:List c6}{k:Nat}{d:w6}{f:c9}{a:k4}(F:Mw K x x st f a)(i:FnScope N ps (au st))(B:∀ds M R,d ds M R->ds.length=ps.length) {t:s9}(r:∀(f:c9) (cdv:c5) (A:e9) (outer:List Env) (s:f6) (H:Hp) (E:XK),Room k (A.deeper<|k8 x (au st) s.heap.objs.size f cdv)->HB (tO F8 P w K mg base N x (au st) f cdv A outer s H E).nox (bU st) t)(p:∀ds M R,d ds M R->t ⟨λ_ M'=>bc M R .non M',bc M R,λ_ _=>False,λ_ _=>False⟩ (cN N ds) M):FnOk P w K mg base F8 (k+1) f a ps (MG K d):=Hn F i B (λf cdv A outer s H E h=>(r f cdv A outer s H E h).ok) p
section
variable{ok:t7->Prop}{g:J4}{tb:s9}{E:DEnds}{k0:t7}
theorem jY(I:List D->SD->t7->Prop)(h0:∀S M,I [] S M->ok M/\E.nx S M)(h1:∀x xs S M,I (x::xs) S M->∀L:SD->t7->Prop,(∀S' M',I xs S' M'->L S' M')->ok M/\g x S M λS2 M2=>tb ⟨z6 k0 L,E.rt,E.nx,z6 k0 L⟩ S2 M2):∀xs S M,I xs S M->tL ok g tb E k0 xs S M
 | [],S,M,h=>h0 S M h
 |x::xs,S,M,h=>h1 x xs S M h _<|jY I h0 h1 xs
theorem aY(I:Nat->SD->t7->Prop)(a:∀S M,I xs.length S M->ok M/\E.nx S M)(h1:∀i x S M,xs[i]?=a7 x->I i S M->∀L:SD->t7->Prop,(∀S' M',I (i+1) S' M'->L S' M')->ok M/\g x S M λS2 M2=>tb ⟨z6 k0 L,E.rt,E.nx,z6 k0 L⟩ S2 M2)(h:I 0 S M):tL ok g tb E k0 xs S M:=by
 refine jY (λys S M=>∃i,xs.drop i=ys/\i+ys.length=xs.length/\I i S M) ?_ ?_ xs S M ⟨0,rfl,by simp,h⟩;rintro S M ⟨i,_,e,q⟩;have:i=xs.length:=by simpa using e
 subst this;exact a S M q;rintro x ys S M ⟨i,e,l,q⟩ L b;have c:xs[i]?=a7 x:=by
  have:(xs.drop i)[0]?=a7 x:=by rw[e];rfl
  simpa using this
 refine h1 i x S M c q L λS' M' j=>b S' M' ⟨i+1,?_,by simp at l;lia,j⟩;rw[<-List.drop_drop,e];rfl
theorem z6.now(h:P S M):z6 k0 P S M:=.inl h
theorem fh{l:Int}{n i:Nat}{x:D}:(rZ l n)[i]?=a7 x↔i<n/\x=.int (l+(i:Int)):=by unfold rZ;rw[C5];by_cases h:i<n;simp[h,eq_comm];simp[h]
theorem fg{l:Int}{n:Nat}:(rZ l n).length=n:=by simp[rZ]
end
theorem aU(p:D->Bool)(f:D->D)(I:SD->Prop)(hok:ok M):∀(xs acc:List D) (S:SD),(∀x∈xs,∀S,I S->∃S',I S'/\∀(Y:D->SD->t7->Prop) (Z:SD->t7->Prop),(if p x=a9 then Y (f x) S' M else Z S' M) -> g x S M λS2 M2=>tt S2 M2 λb M3=>if b=a9 then te S2 M3 λy M4=>Y y S2 M4 else Z S2 M3) ->I S->acc.length+xs.length<=sizeLine->Q (.ref M.length) (M++[.lst<|acc++(xs.filter p).map f])->oj ok g tt te Q xs acc S M
 | [],acc,S,_,_,_,q=>⟨hok,by simpa using q⟩
 |x::xs,acc,S,step,hS,hl,q=>by obtain⟨S',hS',k⟩:=step x C1 S hS;refine⟨hok,k (λy S2 M4=>acc.length<sizeLine/\oj ok g tt te Q xs (acc++[y]) S2 M4) (λS2 M3=>oj ok g tt te Q xs acc S2 M3) ?_⟩;have step':=λy hy=>step y<|A6 _ hy;rw[C4]at hl;by_cases hp:p x=a9;rw[o0 hp];refine⟨by lia,aU p f I hok xs _ S' step' hS' (by rw[A1,K0];lia) ?_⟩;rw[List.filter_cons_of_pos hp,C0]at q;rw[G9];exact q;rw[o4 hp];refine aU p f I hok xs acc S' step' hS' (by lia) ?_;rw[Rj hp]at q;exact q
theorem cj(f:D->D)(I:SD->Prop)(K:ok M)(xs acc:List D) (S:SD) (L:∀x∈xs,∀S,I S->∃S',I S'/\∀(Y:D->SD->t7->Prop),Y (f x) S' M->g x S M λS2 M2=>te S2 M2 λy M4=>Y y S2 M4)(a:I S) (l:acc.length+xs.length<=sizeLine) (q:Q (.ref M.length) (M++[.lst<|acc++xs.map f])):oj ok g vD te Q xs acc S M:=by refine aU (λ_=>a9) f I K xs acc S (λx c S a=>?_) a l (by rw[List.filter_eq_self.mpr λ_ _=>rfl];exact q);obtain⟨S',b,k⟩:=L x c S a;refine⟨S',b,λY Z h=>?_⟩;rw[o0 rfl]at h;have:=k Y h;simp only[vD,p6];exact this
theorem ae:(M++[mo])[M.length]?=a7 mo:=by simp
theorem aw:ar (M++[.lst xs]) M.length xs:=.inl ae
theorem ar.more(h:ar M n xs)(L:t7):ar (M++L) n xs:=by
 have l:∀{mo:MO},M[n]?=a7 mo->(M++L)[n]?=a7 mo:=λe=>by rw[J2 (x5.mp e).1];exact e
 rcases h with h|h|h;exact .inl<|l h;exact .inr<|.inl<|l h;exact .inr<|.inr<|l h
theorem bc.keep(h:R d M)(b:B7 M.length d)(p:M <+: M'):bc M R d M':=.inr<|.inl ⟨M,.refl,b,p,h⟩
theorem bc.now(h:R d M):bc M R d M:=.inl h
theorem bc.bl(h:R (.bl b) M)(p:M <+: M'):bc M R (.bl b) M':=.keep h (.bl b) p
theorem bc.str(h:R (.str b) M)(p:M <+: M'):bc M R (.str b) M':=.keep h (.str b) p
theorem bc.non(h:R .non M)(p:M <+: M'):bc M R .non M':=.keep h .non p
theorem dH:M <+: M++[mo]:=G2 _ _
theorem kq{a b:c6}(h:a.cps.toList=b.cps.toList):a=b:=by cases a;cases b;simp only[Array.toList_inj]at h;simpa using h
theorem cf{a:c6}:a.length=a.cps.toList.length:=by show a.cps.size=_;simp
theorem Ig{a b:c6}:(a++b).cps.toList=a.cps.toList++b.cps.toList:=by show (a.cps++b.cps).toList=_;simp
theorem cD{a b:c6}:(a++b).length=a.length+b.length:=by rw[cf,cf,cf,Ig,A1]
theorem Ag:(⟨#[c]⟩:c6).length=1:=rfl
theorem am(h:n<=1000):n<=sizeLine:=NR<|aA h
theorem iw{α:Type}{xs:List α}{i:Int}(a:0<=i)(h1:i<xs.length):∃(j:Nat) (hj:j<xs.length),atI xs i=a7 xs[j]/\(j:Int)=i:=by
 have hj:i.toNat<xs.length:=by lia
 refine⟨i.toNat,hj,?_,by lia⟩;have e:i=((i.toNat:Nat):Int):=by lia
 have q:atI xs ((i.toNat:Nat):Int)=a7 xs[i.toNat]:=aF<|x3 hj;rw[<-e]at q;exact q
section
variable{M:t7}
theorem ar.get(h:ar M n xs):∃mo,M[n]?=a7 mo/\mo.items=xs/\mo.isL=a9:=by rcases h with h|h|h<;>exact⟨_,h,rfl,rfl⟩
theorem DX(h1:ar M i xs)(h2:ar M j ys):t8 M (n+1) (.ref i) (.ref j)=C3 (t8 M n) xs ys:=by obtain⟨a,f,rfl,h⟩:=h1.get;obtain⟨b,d,rfl,c⟩:=h2.get;simp only[t8,f,d]
theorem Am(h1:ar M i xs)(h:∀x∈xs,u8 M n x=a9):u8 M (n+1) (.ref i)=a9:=by obtain⟨a,f,rfl,b⟩:=h1.get;simp only[u8,f,b,Pb];exact E9.mpr h
theorem Gp(h:∀x∈xs,u8 M n x=a9):u8 M (n+1) (.tup xs)=a9:=by simp only[u8];exact E9.mpr h
theorem ao:u8 M n (.str x)=a9:=by cases n<;>rfl
theorem qf:u8 M n (.int x)=a9:=by cases n<;>rfl
theorem ES:u8 M n (.bl x)=a9:=by cases n<;>rfl
theorem An:u8 M n .non=a9:=by cases n<;>rfl
theorem Ho:C3 f xs []=xs.isEmpty:=by cases xs<;>rfl
theorem kN:t8 M n (.int a) (.int b)=(a==b):=by cases n<;>rfl
theorem aM:t8 M n (.str a) (.str b)=(a==b):=by cases n<;>rfl
end
section
variable{X:Cx}{pos:i3}
def jW:Fo:=λds S M Q=>match ds with
 | []=>Q S M
 |_=>False
def aT(t:J4)(u:Fo):Fo:=λds S M Q=>match ds with
 |d::r=>t d S M λb a=>u r b a Q
 | []=>False
def jV(n:Nat)(t:Fo):J4:=λd S M Q=>match d with
 |.tup ds=>ds.length=n/\t ds S M Q
 |_=>False
theorem HL:O4 X [] jW:=by
 rintro p s σ H vs us R I r ⟨ds,S,M,ρ,Q,m,e,f,q,k⟩;cases f with
 |nil=>exact FX p s σ H _ us R I r ⟨rfl,k σ H ⟨S,M,ρ,m,.refl,e,q⟩⟩
 |cons _ _=>exact q.elim
theorem Eh(h1:DG X e t)(h2:O4 X es u)(hs:(j0 (e::es) X.env).map (·.2)=i9 e X.env::(j0 es X.env).map (·.2):=by rfl):O4 X (e::es) (aT t u):=by
 rintro p s σ H vs us R I r ⟨ds,S,M,ρ,Q,m,j,f,q,k⟩;cases f with
 |nil=>exact q.elim
 |cons h f=>refine CB h1 h2 hs p s σ H _ us R I r ⟨_,_,rfl,_,S,M,ρ,_,m,j,h,q,?_⟩;rintro l n ⟨S1,d,c,i,g1,a,g⟩;exact⟨_,S1,d,c,Q,i,a,f.grow g1,g,λb H' w=>k b H'<|SQ.trans g1 w⟩
theorem Lj(h:O4 X es t)(a:X.calm=a9:=by rfl)(b:(j0 es X.env).length=n:=by rfl) (c:(j0 es X.env).findIdx? (·.1)=a8:=by rfl):DG X (.Tuple es j pos) (jV n t):=by
 rintro p s σ H v u R I r ⟨d,S,M,ρ,Q,m,i,g,q,k⟩;cases g with
 |tup e f=>exact Jm a h b c p s σ H _ u R I r ⟨_,_,rfl,e,by rw[<-f.length];exact q.1,_,S,M,ρ,Q,m,i,f,q.2,k⟩
 |_=>exact q.elim
def Iu(te:v5)(g:J4):s9:=λE S M=>te S M λd a=>g d S a E.nx
theorem Lg(i:DE X e te)(h:DG X tg g)(hs:swapsWithSole [tg] e pos.line X.env=pure bt:=by rfl)(f:swappedStores [tg] e X.env=pure a8:=by rfl)(h1:(j0 [tg] X.env).map (·.2)=[i9 tg X.env]:=by rfl):DS X (.Assign [tg] e pos) (Iu te g):=by refine PS.imp (Jl i h hs f h1) ?_;rintro E σ H ⟨S,M,ρ,F,s,r,q,k⟩;refine⟨S,M,ρ,_,s,r,q,?_⟩;rintro v n ⟨d,b,c,m,g1,l,j⟩;exact⟨d,S,b,c,_,m,r.grow g1,l,j,λa H' w=>k.nx a H'<|SQ.trans g1 w⟩
def qSet:D->D->D->t7->(t7->Prop)->Prop:=λo i v M Q=>match o,i with
 |.ref n,.int k=>∃xs j,M[n]?=a7 (.lst xs)/\Ms xs.length k=a7 j/\Q (M.set n<|.lst<|xs.set j v)
 |_,_=>False
theorem Reps.set{K:u4}{ρ:List c9}{H:Hp}{d:D}{v:V}(r:u3 K ρ H d v):∀{ds:List D}{vs:List V} (i:Nat),Reps K ρ H ds vs->Reps K ρ H (ds.set i d) (vs.set i v)
 |_,_,_,.nil=>.nil
 |_,_,0,.cons _ t=>.cons r t
 |_,_,i+1,.cons q t=>.cons q<|Reps.set r i t
def Ei(e d:v5):J4:=λv S M Q=>e S M λo a=>d S a λi b=>qSet o i v b λc=>Q S c
theorem Lk(E:DE X o to)(hi:DE X i ti)(D:∀v,i9 (.Subscript o i pos) X.env v=(do
   let ov <-i7 [v] (eval o X.env)
   let iv <-i7 [v,ov] (eval i X.env)
   standAt pos
   i7 [v,ov,iv] (setItem ov iv v)
   release [v,ov,iv] []):=by intro _;rfl):DG X (.Subscript o i pos) (Ei to ti):=by
 rintro p s σ H v u R I r ⟨d,S,M,ρ,Q,P,f,N,q,k⟩;refine Jn E hi Cp D p s σ H v u R I r ⟨S,M,ρ,_,P,f,q,?_⟩;rintro Z U ⟨W,C,h,O,g1,J,F⟩;refine⟨S,C,h,_,O,f.grow g1,F,?_⟩;rintro Y V ⟨i',m,l,A,g,K,b⟩;have c:=J.grow g;cases c with
 |@ref n a w =>
  cases K with
  |int j =>
   obtain⟨xs,y,e,L,G⟩:=(show ∃xs x,m[n]?=a7 (.lst xs)/\Ms xs.length j=a7 x/\Q S (m.set n<|.lst<|xs.set x d)from b)
   obtain⟨vs,t,z⟩:=A.obj n a _ w e;obtain⟨T,B⟩:=A.write w e t<|Reps.set (N.grow<|g1.trans g) y z;exact⟨a,vs,j,y,rfl,rfl,t,by rw[<-z.length];exact L,k σ _ ⟨S,_,l,T,(g1.trans g).trans B,f.grow<|(g1.trans g).trans B,G⟩⟩
  |_=>exact b.elim
 |_=>exact b.elim
def jH:C6:=λds M Q=>match ds with
 | [.ref n]=>∃xs,ar M n xs/\Q (.tup xs) M
 | [.tup xs]=>Q (.tup xs) M
 |_=>False
theorem Ep:lV X (.type "tuple") jH:=by
 refine ja.imp qC ?_;rintro vs H R ⟨ds,M,ρ,Q,m,a,q,k⟩;unfold jH at q;split at q;obtain⟨xs,L,q⟩:=q
 first|have z:=Reps.inv_cons a|have z:=av.inv_cons a
 clear a;obtain⟨_,_,rfl,b,a⟩:=z;cases a;obtain⟨_,rfl,e⟩:=u3.inv_ref b;obtain⟨s,h,r⟩:=ar.seq m L e;exact⟨_,s,rfl,.inl ⟨h,λl g=>k _ _<|VQ.laidT m .refl r g q⟩⟩
 first|have z:=Reps.inv_cons a|have z:=av.inv_cons a
 clear a;obtain⟨_,_,rfl,b,a⟩:=z;cases a;cases b with
 |tup h r=>exact⟨_,_,rfl,.inr ⟨h,k _ H<|VQ.now m (.tup h r) q⟩⟩
 exact q.elim
theorem CM:C2 X (j6 .Add) (λx y H Q=>∃a b ys,x=.ref a/\y=.ref b/\z7 X.K H a []/\z7 X.K H b ys/\Q (.ref b) H):=by intro r s σ H x y v u Q I G J h;obtain⟨a,b,ys,rfl,rfl,z,A,q⟩:=h;cases G;cases J;obtain⟨its,F,D,_⟩:=I.tuple z;obtain⟨p,M,E,_⟩:=I.tuple A;have e:its=[]:=F.nil_iff.mpr rfl;subst e;obtain⟨⟨t,w,l,L⟩,B,m,n,o⟩:=id D;obtain⟨⟨k,g,i,j⟩,f,c,C,d⟩:=id E;simp only at m o c d;subst m o c d;exact concat_meets ⟨_,B,rfl⟩ ⟨_,f,rfl⟩ noFill_tuple_add seq_tuple_add Rc Rl (Rr _ _) (tuple_addW0 a b _ _ n C w g L j<|by simp) ⟨B,f,⟨.ref b,H,I,rfl,q⟩⟩
def bn:E4:=λx y M Q=>match x,y with
 |.tup xs,.tup ys=>xs.length+ys.length<=sizeLine/\Q (.tup<|xs++ys) M
 |_,_=>qAdd x y M Q
theorem Gu:F6 X (j6 .Add) bn:=by
 rintro c s σ H f j v u R I g i ⟨x,y,M,ρ,Q,m,r,e,q,k⟩;unfold bn at q;split at q;rename_i xs ys;obtain⟨a,vs,rfl,h1,E⟩:=u3.inv_tup r;obtain⟨b,w,rfl,h2,F⟩:=u3.inv_tup e;have l:=E.length;have d:=F.length;cases xs with
 |nil=>cases E;exact CM c s σ H _ _ v u R I g i ⟨a,b,w,rfl,rfl,h1,h2,k _ H<|VQ.now m (.tup h2 F) q.2⟩
 |cons o n =>
  refine Gj c s σ H _ _ v u R I g i ⟨a,b,vs,w,rfl,rfl,h1,h2,?_,by rw[<-l,<-d];exact q.1,λz=>?_,λ_ p h=>k _ _<|VQ.laidT m .refl (E.append F) h q.2⟩;intro z;subst z;simp at l;subst z;have:ys=[]:=by simpa using d
  subst this;rw[G7]at q;exact k _ H<|VQ.now m (.tup h1 E) q.2
 exact JP c s σ H f j v u R I g i ⟨x,y,M,ρ,Q,m,r,e,q,k⟩
def mT(n:Nat):C6:=λds M Q=>match ds with
 | [.ref m]=>∃xs ys,M[n]?=a7 (.lst xs)/\M[m]?=a7 (.lst ys)/\n≠m/\xs.length+ys.length<=sizeLine/\Q .non (M.set n<|.lst<|xs++ys)
 |_=>False
theorem xZ:LD X "list.extend" (nW X.K mT):=by
 rintro p s σ H x xs v us R I A y ⟨n,a,ds,M,ρ,Q,j,g,c,f,q,k⟩;unfold mT at q;split at q;rename_i m;obtain⟨ys,D,e,l,u,o,q⟩:=q
 first|have z:=Reps.inv_cons f|have z:=av.inv_cons f
 clear f;obtain⟨_,_,rfl,w,f⟩:=z;cases f;obtain⟨b,rfl,t⟩:=u3.inv_ref w;obtain⟨vs,d,r⟩:=c.obj n a _ g e;obtain⟨C,h,i⟩:=c.obj m b _ t l;obtain⟨L,B⟩:=c.write g e d<|r.append i;exact Ar p s σ H x _ v us R I A y ⟨a,b,vs,C,j,rfl,d,h,by rw[<-r.length,<-i.length];exact o,k _ _ ⟨.non,_,ρ,L,B,.non,q⟩⟩;exact q.elim
end
end L2
namespace Srt
open PySem PySem.W PyProof.Rows
noncomputable def run{α:Type}(c:Nat->Nat->Bool):KasT α->α
 |.ret a=>a
 |.ask i j k=>run c<|k<|c i j
theorem gL{α β:Type}{c:Nat->Nat->Bool}{f:α->KasT β}:∀t:KasT α,run c (t.bind f)=run c (f<|run c t)
 |.ret a=>rfl
 |.ask i j k=>gL<|k<|c i j
def Bd{α:Type}(n:Nat):KasT α->Prop
 |.ret _=>True
 |.ask i j k=>i<n/\j<n/\∀b,Bd n<|k b
def All{α:Type}(P:α->Prop):KasT α->Prop
 |.ret a=>P a
 |.ask _ _ k=>∀b,All P<|k b
theorem All.mono{α:Type}{P Q:α->Prop}(h:∀a,P a->Q a):∀t:KasT α,All P t->All Q t
 |.ret a,q=>h a q
 |.ask _ _ k,q=>λb=>All.mono h (k b)<|q b
theorem All.bind{α β:Type}{P:β->Prop}{f:α->KasT β}:∀t:KasT α,All (λa=>All P<|f a) t->All P (t.bind f)
 |.ret a,q=>q
 |.ask _ _ k,q=>λb=>All.bind (k b)<|q b
theorem Bd.bindA{α β:Type}{n:Nat}{f:α->KasT β}:∀t:KasT α,Bd n t->All (λa=>Bd n<|f a) t->Bd n (t.bind f)
 |.ret a,_,q=>q
 |.ask _ _ k,b,q=>⟨b.1,b.2.1,λx=>Bd.bindA (k x) (b.2.2 x)<|q x⟩
theorem All.run{α:Type}{P:α->Prop}{c:Nat->Nat->Bool}:∀t:KasT α,All P t->P (Srt.run c t)
 |.ret a,q=>q
 |.ask i j k,q=>All.run (k<|c i j)<|q _
theorem wp_run{α:Type}{cmp:Nat->Nat->(Bool->f6->Prop)->f6->Prop}{c:Nat->Nat->Bool}{n:Nat}{s:f6}{Q:α->f6->Prop}(hc:∀i j (C:Bool->f6->Prop),i<n->j<n->C (c i j) s->cmp i j C s):∀t:KasT α,Bd n t->Q (run c t) s->t.kasWp cmp Q s
 |.ret a,_,q=>q
 |.ask i j k,b,q=>hc i j _ b.1 b.2.1<|wp_run hc (k<|c i j) (b.2.2 _) q
structure K3(c:Nat->Nat->Bool):Prop where
 irr:∀a,c a a=bt
 tr:∀a b d,c a b=a9->c b d=a9->c a d=a9
 neg:∀a b d,c a d=a9->c a b=a9\/c b d=a9
section
variable{c:Nat->Nat->Bool}(O:K3 c)
def le(c:Nat->Nat->Bool)(a b:Nat):Prop:=c b a=bt
theorem le_refl(O:K3 c)(a:Nat):le c a a:=O.irr a
theorem le_trans(O:K3 c)(h1:le c a b)(h2:le c b d):le c a d:=by
 unfold le at *;cases q:c d a with
 |false=>rfl
 |true=>rcases O.neg d b a q with h|h;rw[h2]at h;cases h;rw[h1]at h;cases h
theorem le_of_lt(O:K3 c)(h:c a b=a9):le c a b:=by
 unfold le;cases q:c b a with
 |false=>rfl
 |true=>have:=O.tr a b a h q;rw[O.irr]at this;cases this
noncomputable abbrev at_(p:Array Nat)(k:Nat):Nat:=p.getD k 0
def Up(c:Nat->Nat->Bool)(p:Array Nat)(m:Nat):Prop:=∀i j,i<=j->j<m->le c (at_ p i) (at_ p j)
def Dn(c:Nat->Nat->Bool)(p:Array Nat)(m:Nat):Prop:=∀i j,i<=j->j<m->le c (at_ p j) (at_ p i)
def On(c:Nat->Nat->Bool)(p:Array Nat)(a b:Nat):Prop:=∀i j,a<=i->i<b->a<=j->j<b->le c (at_ p i) (at_ p j)
theorem Up.one(O:K3 c)(p:Array Nat):Up c p 1:=λi j a L=>by
 have:i=j:=by lia
 subst this;exact le_refl O _
theorem Up.snoc(O:K3 c)(h:Up c p n)(h1:1<=n)(g:le c (at_ p<|n-1) (at_ p n)):Up c p (n+1):=λi j a L=>by
 by_cases b:j<n;exact h i j a b;have:j=n:=by lia
 subst this;by_cases hi:i=j;subst hi;exact le_refl O _;exact le_trans O (h i (j-1) (by lia)<|by lia) g
theorem Dn.snoc(O:K3 c)(h:Dn c p n)(h1:1<=n)(g:le c (at_ p n) (at_ p<|n-1)):Dn c p (n+1):=λi j a L=>by
 by_cases b:j<n;exact h i j a b;have:j=n:=by lia
 subst this;by_cases hi:i=j;subst hi;exact le_refl O _;exact le_trans O g<|h i (j-1) (by lia)<|by lia
theorem ir(L:j<=p.size)(k:Nat):at_ (LF p i j) k=if i<=k/\k<j then at_ p (i+j-1-k)else at_ p k:=by have e:=getElem?_mirror_all (xs:=p) (i:=i) L k;unfold at_ LF;rw[NH,e];by_cases h:i<=k/\k<j;rw[o0 h,o0 h,NH];rw[o4 h,o4 h,NH]
theorem tZ(b:k<p.size)(a:d<=k)(i:Nat):at_ (bubble p k d) i=if i=k-d then at_ p k else if k-d<i/\i<=k then at_ p (i-1)else at_ p i:=by have e:=getElem?_bubble (xs:=p) b d a i;unfold at_;rw[NH,e];by_cases h:i=k-d;rw[o0 h,o0 h,NH];rw[o4 h,o4 h];by_cases h':k-d<i/\i<=k;rw[o0 h',o0 h',NH];rw[o4 h',o4 h',NH]
theorem Dn.rev(h:Dn c p n)(f:n<=p.size):Up c (LF p 0 n) n:=λi j a L=>by rw[ir f,ir f,o0 ⟨z8 _,by lia⟩,o0 ⟨z8 _,L⟩];exact h _ _ (by lia)<|by lia
theorem Dn.revEq(O:K3 c)(h:Dn c p n)(f:n<=p.size)(e:On c p a n):Dn c (LF p a n) n:=λi j b L=>by rw[ir f,ir f];by_cases h1:a<=i/\i<n;by_cases h2:a<=j/\j<n;rw[o0 h1,o0 h2];exact e _ _ (by lia) (by lia) (by lia) (by lia);exact o5 ⟨by lia,L⟩ h2;by_cases h2:a<=j/\j<n;rw[o4 h1,o0 h2];exact h _ _ (by lia) (by lia);rw[o4 h1,o4 h2];exact h _ _ b L
theorem vI(O:K3 c):∀(f n:Nat),1<=n->Up c p n->Up c p (run c<|Mb p f n)/\n<=run c (Mb p f n)/\run c (Mb p f n)<=n+f /\(run c (Mb p f n)<n+f->c (at_ p<|run c<|Mb p f n) (at_ p<|run c (Mb p f n)-1)=a9)
 | 0,n,_,h=>⟨h,u5 _,u5 _,λz=>o5 z<|D4 _⟩
 |f+1,n,h1,h=>by
  show Up c p (run c<|if c (at_ p n) (at_ p<|n-1)=a9 then .ret n else Mb p f (n+1))/\n<=run c (if c (at_ p n) (at_ p<|n-1)=a9 then .ret n else Mb p f (n+1)) /\ run c (if c (at_ p n) (at_ p<|n-1)=a9 then .ret n else Mb p f (n+1))<=n+(f+1)/\(run c (if c (at_ p n) (at_ p<|n-1)=a9 then .ret n else Mb p f (n+1))<n+(f+1) -> c (at_ p<|run c<|if c (at_ p n) (at_ p<|n-1)=a9 then .ret n else Mb p f (n+1)) (at_ p<|run c (if c (at_ p n) (at_ p<|n-1)=a9 then .ret n else Mb p f (n+1))-1)=a9)
  by_cases q:c (at_ p n) (at_ p<|n-1)=a9;rw[o0 q];exact⟨h,u5 _,OA _ _,λ_=>q⟩;rw[o4 q];obtain⟨a1,a2,a3,a4⟩:=vI O f (n+1) (by lia) (h.snoc O h1<|by unfold le;simpa using q);exact⟨a1,by lia,by lia,λz=>a4<|by lia⟩
theorem fi:(LF p i j).size=p.size:=mirror_size _ _ _ _
def BP(c:Nat->Nat->Bool)(z n m:Nat)(r:Array Nat×Nat×Nat):Prop:=r.1.size=z/\Dn c r.1 r.2.1/\n<=r.2.1/\r.2.1<=m/\r.2.2+1<=r.2.1/\On c r.1 (r.2.1-(r.2.2+1)) r.2.1
def qI(c:Nat->Nat->Bool)(z nrem:Nat)(r:Nat×Array Nat):Prop:=r.2.size=z/\Up c r.2 r.1/\1<=r.1/\r.1<=nrem
def vL(c:Nat->Nat->Bool)(p:Array Nat)(k m:Nat):Prop:=m<=k/\(∀i,i<m->le c (at_ p i) (at_ p k))/\∀i,m<=i->i<k->c (at_ p k) (at_ p i)=a9
theorem lZ(O:K3 c):∀(f:Nat) (p:Array Nat) (n q:Nat),q+1<=n->n+f<=p.size->Dn c p n->On c p (n-(q+1)) n ->BP c p.size n (n+f) (run c<|I9 f p n q)
 | 0,p,n,q,h1,h2,hd,he=>⟨rfl,hd,u5 _,u5 _,h1,he⟩
 |f+1,p,n,q,h1,h2,hd,he=>by
  have hn:n<=p.size:=by lia
  show BP c p.size n (n+(f+1)) (run c<|if c (at_ p n) (at_ p<|n-1)=a9 then(if q > 0 then I9 f (LF p (n-(q+1)) n) (n+1) 0 else I9 f p (n+1) 0) else .ask (at_ p<|n-1) (at_ p n) λd=>if d=a9 then .ret (p,n,q)else I9 f p (n+1) (q+1));by_cases hc:c (at_ p n) (at_ p<|n-1)=a9;rw[o0 hc];by_cases hq:q > 0;rw[o0 hq];have hd':Dn c (LF p (n-(q+1)) n) (n+1):=by refine(hd.revEq O hn he).snoc O (by lia) ?_;rw[ir hn,ir hn,o4 (by lia),o0 ⟨by lia,by lia⟩];exact le_trans O (le_of_lt O hc)<|he _ _ (by lia) (by lia) (by lia)<|by lia
  have r:=lZ O f (LF p (n-(q+1)) n) (n+1) 0 (by lia) (by rw[fi];lia) hd' (λi j a1 a2 a3 a4=>by
   have:i=n:=by lia
   have:j=n:=by lia
   subst_vars
   exact le_refl O _)
  obtain⟨a1,a2,a3,a4,a5,a6⟩:=r;exact⟨a1.trans fi,a2,by lia,by lia,a5,a6⟩;rw[o4 hq];have r:=lZ O f p (n+1) 0 (by lia) (by lia) (hd.snoc O (by lia)<|le_of_lt O hc) (λi j a1 a2 a3 a4=>by
   have:i=n:=by lia
   have:j=n:=by lia
   subst_vars
   exact le_refl O _)
  obtain⟨a1,a2,a3,a4,a5,a6⟩:=r;exact⟨a1,a2,by lia,by lia,a5,a6⟩;rw[o4 hc];show BP c p.size n (n+(f+1)) (run c<|if c (at_ p<|n-1) (at_ p n)=a9 then .ret (p,n,q)else I9 f p (n+1) (q+1));by_cases hc':c (at_ p<|n-1) (at_ p n)=a9;rw[o0 hc'];exact⟨rfl,hd,u5 _,by show n<=_;lia,h1,he⟩;rw[o4 hc'];have l1:le c (at_ p n) (at_ p<|n-1):=by unfold le;simpa using hc'
  have l2:le c (at_ p<|n-1) (at_ p n):=by unfold le;simpa using hc
  have r:=lZ O f p (n+1) (q+1) (by lia) (by lia) (hd.snoc O (by lia) l1) (λi j a1 a2 a3 a4=>by by_cases hi:i=n;by_cases hj:j=n;subst hi hj;exact le_refl O _;subst hi;exact le_trans O l1 (he _ _ (by lia) (by lia) (by lia)<|by lia);by_cases hj:j=n;subst hj;exact le_trans O (he _ _ (by lia) (by lia) (by lia)<|by lia) l2;exact he _ _ (by lia) (by lia) (by lia)<|by lia);obtain⟨a1,a2,a3,a4,a5,a6⟩:=r;exact⟨a1,a2,by lia,by lia,a5,a6⟩
theorem qW(O:K3 c)(h1:1<=n)(f:n<=nrem)(hz:nrem<=p.size)(d:Dn c p n):qI c p.size nrem (run c<|kas_tail3 n nrem p):=by unfold kas_tail3;rw[gL];obtain⟨F,a,b,_⟩:=vI O (nrem-n) n h1 (d.rev<|by lia);exact⟨fi,F,C7 h1 a,C7 b<|by lia⟩
theorem lA(O:K3 c)(h1:1<=n)(x:n+1<=nrem)(hz:nrem<=p.size)(m:On c p 0 n)(k:c (at_ p n) (at_ p<|n-1)=a9):qI c p.size nrem (run c<|Ou n nrem p):=by
 have l:Dn c p (n+1):=by refine Dn.snoc O (λi j o L=>m _ _ (by lia) (by lia) (by lia)<|by lia) h1<|le_of_lt O k
 unfold Ou;rw[gL];obtain⟨a,g,u,v,w,h⟩:=lZ O (nrem-(n+1)) p (n+1) 0 (by lia) (by lia) l (λi j F r s t=>by
  have:i=n:=by lia
  have:j=n:=by lia
  subst_vars
  exact le_refl O _)
 by_cases q:(run c<|I9 (nrem-(n+1)) p (n+1) 0).2.2 > 0;rw[o0 q];obtain⟨d,b,e,f⟩:=qW O (p:=LF (run c<|I9 (nrem-(n+1)) p (n+1) 0).1 ((run c<|I9 (nrem-(n+1)) p (n+1) 0).2.1-((run c<|I9 (nrem-(n+1)) p (n+1) 0).2.2+1)) (run c<|I9 (nrem-(n+1)) p (n+1) 0).2.1) (n:=(run c<|I9 (nrem-(n+1)) p (n+1) 0).2.1) (nrem:=nrem) (by lia) (by lia) (by rw[fi,a];exact hz)<|g.revEq O (by rw[a];lia) h;exact⟨d.trans<|fi.trans a,b,e,f⟩;rw[o4 q];obtain⟨d,b,e,f⟩:=qW O (p:=(run c<|I9 (nrem-(n+1)) p (n+1) 0).1) (n:=(run c<|I9 (nrem-(n+1)) p (n+1) 0).2.1) (nrem:=nrem) (by lia) (by lia) (by rw[a];exact hz) g;exact⟨d.trans a,b,e,f⟩
theorem Bt(O:K3 c)(h1:1<=nrem)(hz:nrem<=p.size):qI c p.size nrem (run c<|kas_count nrem p):=by
 unfold kas_count;rw[gL];obtain⟨F,a,o,l⟩:=vI O (nrem-1) 1 (u5 _)<|Up.one O p;generalize run c (Mb p (nrem-1) 1)=n at F a o l;by_cases k:(n==nrem)=a9;rw[o0 k];exact⟨rfl,F,a,by show n<=nrem;lia⟩;rw[o4 k];have x:n≠nrem:=by simpa using k
 have t:c (at_ p n) (at_ p<|n-1)=a9:=l (by lia);by_cases h2:n > 1;rw[o0 h2];show qI c p.size nrem (run c<|if c (at_ p 0) (at_ p<|n-1)=a9 then .ret (n,p)else Ou n nrem (LF p 0 n));by_cases f:c (at_ p 0) (at_ p<|n-1)=a9;rw[o0 f];exact⟨rfl,F,a,by show n<=nrem;lia⟩;rw[o4 f];have g:n<=p.size:=by lia
 have y:le c (at_ p<|n-1) (at_ p 0):=by unfold le;simpa using f
 have m:On c p 0 n:=λi j b d u v=>le_trans O (F i (n-1) (by lia)<|by lia)<|le_trans O y<|F 0 j (by lia) v;have e:On c (LF p 0 n) 0 n:=λi j b d u v=>by rw[ir g,ir g,o0 ⟨b,d⟩,o0 ⟨u,v⟩];exact m _ _ (by lia) (by lia) (by lia)<|by lia
 have h:c (at_ (LF p 0 n) n) (at_ (LF p 0 n)<|n-1)=a9:=by rw[ir g,ir g,o4 (by lia),o0 ⟨by lia,by lia⟩];rcases O.neg _ (at_ p<|0+n-1-(n-1)) _ t with z|z;exact z;have:=m (n-1) (0+n-1-(n-1)) (by lia) (by lia) (by lia) (by lia);unfold le at this;rw[this]at z;cases z
 obtain⟨q,r,s,w⟩:=lA O (p:=LF p 0 n) (n:=n) (nrem:=nrem) (by lia) (by lia) (by rw[fi];exact hz) e h;exact⟨q.trans fi,r,s,w⟩;rw[o4 h2];have:n=1:=by lia
 subst this;exact lA O (by lia) (by lia) hz (λi j b d u v=>by
  have:i=0:=by lia
  have:j=0:=by lia
  subst_vars
  exact le_refl O _) t
theorem mV(O:K3 c)(hu:Up c p k):∀(f l r:Nat),l<=r->r<=k->r-l<=f->(∀i,i<l->le c (at_ p i) (at_ p k))->(∀i,r<=i->i<k->c (at_ p k) (at_ p i)=a9) ->vL c p k (run c<|ML p k f l r)
 | 0,l,r,h1,h2,h3,h4,h5=>⟨by show l<=k;lia,h4,λi a1 a2=>h5 i (by have a1':l<=i:=a1;lia) a2⟩
 |f+1,l,r,h1,h2,h3,h4,h5=>by
  show vL c p k (run c<|if l ≥ r then .ret l else .ask (at_ p k) (at_ p<|(l+r) / 2) λc=>if c=a9 then ML p k f l ((l+r) / 2)else ML p k f ((l+r) / 2+1) r);by_cases hl:l ≥ r;rw[o0 hl];exact⟨by show l<=k;lia,h4,λi a1 a2=>h5 i (by have a1':l<=i:=a1;lia) a2⟩;rw[o4 hl];show vL c p k (run c<|if c (at_ p k) (at_ p<|(l+r) / 2)=a9 then ML p k f l ((l+r) / 2)else ML p k f ((l+r) / 2+1) r);by_cases hc:c (at_ p k) (at_ p<|(l+r) / 2)=a9;rw[o0 hc];refine mV O hu f l ((l+r) / 2) (by lia) (by lia) (by lia) h4 λi a1 a2=>?_;rcases O.neg _ (at_ p i) _ hc with z|z;exact z;have:=hu ((l+r) / 2) i a1 a2;unfold le at this;rw[this]at z;cases z;rw[o4 hc];have lm:le c (at_ p<|(l+r) / 2) (at_ p k):=by unfold le;simpa using hc
  refine mV O hu f ((l+r) / 2+1) r (by lia) h2 (by lia) (λi hi=>?_) h5;exact le_trans O (hu i ((l+r) / 2) (by lia)<|by lia) lm
theorem BC(O:K3 c)(f:k<p.size)(g:Up c p k)(l:m<=k)(h1:∀i,i<m->le c (at_ p i) (at_ p k))(h2:∀i,m<=i->i<k->c (at_ p k) (at_ p i)=a9):Up c (bubble p k<|k-m) (k+1):=by
 intro i j d L;have e:k-(k-m)=m:=by lia
 rw[tZ f (by lia),tZ f (by lia),e];by_cases hi:i=m;rw[o0 hi];by_cases h:j=m;rw[o0 h];exact le_refl O _;rw[o4 h,o0 ⟨by lia,by lia⟩];exact le_of_lt O (h2 _ (by lia)<|by lia);rw[o4 hi];by_cases a:m<i/\i<=k;rw[o0 a,o4 (by lia),o0 ⟨by lia,by lia⟩];exact g _ _ (by lia) (by lia);rw[o4 a];by_cases h:j=m;rw[o0 h];exact h1 i (by lia);rw[o4 h];by_cases b:m<j/\j<=k;rw[o0 b];exact g _ _ (by lia) (by lia);rw[o4 b];exact g _ _ d<|by lia
theorem BE(O:K3 c):∀(f:Nat) (p:Array Nat) (k:Nat),k+f<=p.size->Up c p k->(run c<|kas_bin f p k).size=p.size/\Up c (run c<|kas_bin f p k) (k+f)
 | 0,p,k,_,h=>⟨rfl,h⟩
 |f+1,p,k,hz,h=>by show (run c<|(ML p k k 0 k).bind λl=>kas_bin f (bubble p k<|k-l)<|k+1).size=p.size/\Up c (run c<|(ML p k k 0 k).bind λl=>kas_bin f (bubble p k<|k-l)<|k+1) (k+(f+1));rw[gL];obtain⟨a1,a2,a3⟩:=mV O h k 0 k (z8 _) (u5 _) (by lia) (λi hi=>o5 hi<|MY _) λi a1 a2=>o5 a2 (by lia);obtain⟨b1,b2⟩:=BE O f (bubble p k<|k-run c (ML p k k 0 k)) (k+1) (by rw[bubble_size];lia)<|BC O (by lia) h a1 a2 a3;exact⟨b1.trans<|bubble_size _ _ _,by rw[show k+(f+1)=k+1+f by lia];exact b2⟩
theorem FB(O:K3 c)(h1:1<=n):(run c<|MK n).size=n/\Up c (run c<|MK n) n:=by
 have hs:(Mm<|A7 n).size=n:=by simp
 unfold MK;rw[gL];obtain⟨F,a,b,t⟩:=Bt O (p:=Mm<|A7 n) h1 (by rw[hs];exact u5 _);rw[hs]at F;generalize run c (kas_count n<|Mm<|A7 n)=r at F a b t;by_cases g:r.1<n;rw[o0 g];obtain⟨d,e⟩:=BE O (n-max r.1 1) r.2 (max r.1 1) (by rw[F];lia) (by rw[show max r.1 1=r.1 by lia];exact a);exact⟨d.trans F,by rw[show n=max r.1 1+(n-max r.1 1) by lia];simpa using e⟩;rw[o4 g];have f:r.1=n:=by lia
 rw[f]at a;exact⟨F,a⟩
def D5(n:Nat)(p:Array Nat):Prop:=p.toList.Perm<|A7 n
theorem D5.lt(h:D5 n p)(a:0<n)(k:Nat):at_ p k<n:=by
 unfold at_;rw[NH];cases e:p[k]? with
 |none=>simpa using a
 |some x =>
  have:x∈p.toList:=by rw[<-Ix]at e;exact F0 e
  have:=h.mem_iff.mp this;simpa using this
theorem D5.rev(h:D5 n p):D5 n (LF p i j):=(Array.perm_iff_toList_perm.mp<|mirror_perm p i j<|(j-i) / 2).trans h
theorem D5.bub(h:D5 n p):D5 n (bubble p i j):=(Array.perm_iff_toList_perm.mp<|bubble_perm p i j).trans h
section
variable{n:Nat}(h0:0<n)
theorem BI(h0:0<n)(h:D5 n p):∀(f k:Nat),Bd n (Mb p f k)
 | 0,_=>trivial
 |f+1,k=>⟨h.lt h0 _,h.lt h0 _,λb=>by cases b with
  |true=>exact trivial
  |false=>exact BI h0 h f<|k+1⟩
theorem qy(h0:0<n):∀(f:Nat) (p:Array Nat) (k q:Nat),D5 n p->Bd n (I9 f p k q)/\All (λr=>D5 n r.1) (I9 f p k q)
 | 0,p,k,q,h=>⟨trivial,h⟩
 |f+1,p,k,q,h=>by
  have key:∀b,(Bd n<|if b=a9 then(if q > 0 then I9 f (LF p (k-(q+1)) k) (k+1) 0 else I9 f p (k+1) 0) else KasT.ask (p.getD (k-1) 0) (p.getD k 0) λd=>if d=a9 then KasT.ret (p,k,q)else I9 f p (k+1) (q+1))/\All (λr=>D5 n r.1) (if b=a9 then(if q > 0 then I9 f (LF p (k-(q+1)) k) (k+1) 0 else I9 f p (k+1) 0) else KasT.ask (p.getD (k-1) 0) (p.getD k 0) λd=>if d=a9 then KasT.ret (p,k,q)else I9 f p (k+1) (q+1)):=λb=>by
   cases b with
   |true=>rw[o0 rfl];by_cases hq:q > 0;rw[o0 hq];exact qy h0 f _ _ _ h.rev;rw[o4 hq];exact qy h0 f _ _ _ h
   |false =>
    rw[o4<|by simp];have a:=qy h0 f p (k+1) (q+1) h;refine⟨⟨h.lt h0 _,h.lt h0 _,λb=>?_⟩,λb=>?_⟩;cases b with
    |true=>exact trivial
    |false=>exact a.1
    cases b with
    |true=>exact h
    |false=>exact a.2
  exact⟨⟨h.lt h0 _,h.lt h0 _,λb=>(key b).1⟩,λb=>(key b).2⟩
theorem lW(c:0<n)(h:D5 n p):Bd n (kas_tail3 k m p)/\All (λr=>D5 n r.2) (kas_tail3 k m p):=by
 have v:∀{t:KasT Nat}{Q:Prop},Q->All (λ_=>Q) t:=λ{t Q} q=>by
  induction t with
  |ret a=>exact q
  |ask i j k d=>exact λb=>d b
 unfold kas_tail3;exact⟨Bd.bindA _ (BI c h.rev _ _)<|v trivial,All.bind _<|v h.rev⟩
theorem fG(a:0<n)(h:D5 n p):Bd n (Ou k m p)/\All (λr=>D5 n r.2) (Ou k m p):=by unfold Ou;obtain⟨b,c⟩:=qy a (m-(k+1)) p (k+1) 0 h;refine⟨Bd.bindA _ b<|c.mono<|λr i=>?_,All.bind _<|c.mono<|λr i=>?_⟩;by_cases q:r.2.2 > 0;rw[o0 q];exact(lW a i.rev).1;rw[o4 q];exact(lW a i).1;by_cases q:r.2.2 > 0;rw[o0 q];exact(lW a i.rev).2;rw[o4 q];exact(lW a i).2
theorem Eo(c:0<n)(h:D5 n p):Bd n (kas_count m p)/\All (λr=>D5 n r.2) (kas_count m p):=by
 have v:∀{t:KasT Nat}{Q:Nat->Prop},(∀a,Q a)->All Q t:=λ{t Q} q=>by
  induction t with
  |ret a=>exact q a
  |ask i j k d=>exact λb=>d b
 unfold kas_count;refine⟨Bd.bindA _ (BI c h _ _)<|v λk=>?_,All.bind _<|v λk=>?_⟩;by_cases h1:(k==m)=a9;rw[o0 h1];exact trivial;rw[o4 h1];by_cases h2:k > 1;rw[o0 h2];refine⟨h.lt c _,h.lt c _,λb=>?_⟩;cases b with
 |true=>exact trivial
 |false=>exact(fG c h.rev).1
 rw[o4 h2];exact(fG c h).1;by_cases h1:(k==m)=a9;rw[o0 h1];exact h;rw[o4 h1];by_cases h2:k > 1;rw[o0 h2];intro b;cases b with
 |true=>exact h
 |false=>exact(fG c h.rev).2
 rw[o4 h2];exact(fG c h).2
theorem pV(h0:0<n)(h:D5 n p):∀(f l r:Nat),Bd n (ML p k f l r)
 | 0,_,_=>trivial
 |f+1,l,r=>by
  show Bd n (if l ≥ r then KasT.ret l else KasT.ask (p.getD k 0) (p.getD ((l+r) / 2) 0) λc=>if c=a9 then ML p k f l ((l+r) / 2)else ML p k f ((l+r) / 2+1) r);by_cases hl:l ≥ r;rw[o0 hl];exact trivial;rw[o4 hl];refine⟨h.lt h0 _,h.lt h0 _,λb=>?_⟩;cases b with
  |true=>exact pV h0 h f _ _
  |false=>exact pV h0 h f _ _
theorem xt(h0:0<n):∀(f:Nat) (p:Array Nat) (k:Nat),D5 n p->Bd n (kas_bin f p k)/\All (λr=>D5 n r) (kas_bin f p k)
 | 0,p,k,h=>⟨trivial,h⟩
 |f+1,p,k,h=>by
  have triv:∀{t:KasT Nat}{Q:Nat->Prop},(∀a,Q a)->All Q t:=λ{t Q} q=>by
   induction t with
   |ret a=>exact q a
   |ask i j k ih=>exact λb=>ih b
  exact⟨Bd.bindA _ (pV h0 h _ _ _)<|triv λl=>(xt h0 f _ _ h.bub).1,All.bind _<|triv λl=>(xt h0 f _ _ h.bub).2⟩
theorem sort_bd(a:0<n):Bd n (MK n)/\All (λr=>D5 n r) (MK n):=by
 have h:D5 n (Mm<|A7 n):=by unfold D5;simp
 obtain⟨b,c⟩:=Eo a (m:=n) h;unfold MK;refine⟨Bd.bindA _ b<|c.mono λr i=>?_,All.bind _<|c.mono λr i=>?_⟩;by_cases g:r.1<n;rw[o0 g];exact(xt a _ _ _ i).1;rw[o4 g];exact trivial;by_cases g:r.1<n;rw[o0 g];exact(xt a _ _ _ i).2;rw[o4 g];exact i
end
theorem sort_list{α:Type}[Inhabited α]{lt:α->α->Bool}(xs:List α)(h1:1<=xs.length)(r:∀a∈xs,lt a a=bt)(tr:∀a∈xs,∀b∈xs,∀d∈xs,lt a b=a9->lt b d=a9->lt a d=a9)(n:∀a∈xs,∀b∈xs,∀d∈xs,lt a d=a9->lt a b=a9\/lt b d=a9):let c:=λi j=>if i<xs.length then(if j<xs.length then lt (xs.getD i default) (xs.getD j default)else a9)else bt
  let p:=run c<|MK xs.length
  let ys:=p.toList.map λi=>xs.getD i default
  ys.Perm xs/\ys.Pairwise λa b=>lt b a=bt:=by
 intro c p ys;have m:∀i,i<xs.length->xs.getD i default∈xs:=λi hi=>by rw[J6,x3 hi];exact L5 hi
 have O:K3 c:=by refine⟨λa=>?_,λa b d=>?_,λa b d=>?_⟩;show (if a<xs.length then(if a<xs.length then lt _ _ else a9)else bt)=bt;by_cases f:a<xs.length;rw[o0 f,o0 f];exact r _<|m a f;rw[o4 f];show (if a<xs.length then(if b<xs.length then lt _ _ else a9)else bt)=a9->(if b<xs.length then(if d<xs.length then lt _ _ else a9)else bt)=a9->(if a<xs.length then(if d<xs.length then lt _ _ else a9)else bt)=a9;by_cases f:a<xs.length;by_cases h:b<xs.length;by_cases g:d<xs.length;rw[o0 f,o0 h,o0 h,o0 g,o0 f,o0 g];exact tr _ (m a f) _ (m b h) _<|m d g;intro _ _;rw[o0 f,o4 g];rw[o4<|show ¬b<xs.length from h];intro _ z;rw[o4 h]at z;cases z;intro z;rw[o4 f]at z;cases z;show (if a<xs.length then(if d<xs.length then lt _ _ else a9)else bt)=a9->(if a<xs.length then(if b<xs.length then lt _ _ else a9)else bt)=a9\/(if b<xs.length then(if d<xs.length then lt _ _ else a9)else bt)=a9;by_cases f:a<xs.length;by_cases h:b<xs.length;by_cases g:d<xs.length;rw[o0 f,o0 g,o0 f,o0 h,o0 h,o0 g];exact n _ (m a f) _ (m b h) _<|m d g;intro _;right;rw[o0 h,o4 g];intro _;left;rw[o0 f,o4 h];intro z;rw[o4 f]at z;cases z
 have E:D5 xs.length p:=All.run _ (sort_bd<|by lia).2;obtain⟨hs,U⟩:=FB O h1;refine⟨?_,?_⟩;have e:(A7 xs.length).map (λi=>xs.getD i default)=xs:=by apply Qh;intro i;rw[C5];by_cases hi:i<xs.length;rw[List.getElem?_range hi];simp[J6,x3 hi];rw[M8 (by simpa using hi),M8<|by simpa using hi];rfl
 have:=E.map λi=>xs.getD i default;rw[e]at this;exact this;show (p.toList.map λi=>xs.getD i default).Pairwise λa b=>lt b a=bt;rw[List.pairwise_iff_getElem];intro i j hi L t;rw[u6,D8]at hi L;have u:p.size=xs.length:=hs;have l:=U i j (by lia) (by lia);have o:∀k,at_ p k<xs.length:=λk=>E.lt (by lia) k;unfold le at l;have l':(if at_ p j<xs.length then(if at_ p i<xs.length then lt (xs.getD (at_ p j) default) (xs.getD (at_ p i) default)else a9)else bt)=bt:=l;rw[o0<|o j,o0<|o i]at l';have q:p.toList[i]=at_ p i:=by unfold at_;simp[Mj,hi]
 have s:p.toList[j]=at_ p j:=by unfold at_;simp[Mj,L]
 rw[N6,N6,q,s];exact l'
end
end Srt
namespace L2
open PySem PySem.Spec PyProof.Rows DL
def yI(A:e9)(s:f6)(x y:c5)(k:Bool):Prop:=∀(g:c8) (w:c7) (E:c5->f6->Prop) (Q:c5->f6->Prop),Q (.bool k) s->f9 (h8 g w) A (richCompare .Lt x y) Q E s
inductive LexAt(A:e9)(s:f6):List c5->List c5->Bool->Prop
 |nn:LexAt A s [] [] bt
 |nc {y:c5}{ys:List c5}:LexAt A s [] (y::ys) a9
 |cn {x:c5}{xs:List c5}:LexAt A s (x::xs) [] bt
 |eq {x y:c5}{xs ys:List c5}{k:Bool} (h:Ml A s x y a9) (t:LexAt A s xs ys k):LexAt A s (x::xs) (y::ys) k
 |ne {x y:c5}{xs ys:List c5}{k:Bool} (h:Ml A s x y bt) (t:yI A s x y k):LexAt A s (x::xs) (y::ys) k
section
open PySem.SeqAt
open PySem.AutoSeq1 (wpAny_loadPart')
open PySem.MeetsSeq PySem.MeetsSeq2 PySem.MeetsSeq3
theorem qU(l b:c9)(a i:Array c5)(n D:Nat)(v f:Option c9)(E o:Array (Option c5))(k:Bool):Meets (Builtin.«tuple.__lt__» ⟨[.ref l,.ref b],[]⟩)
   (λA R s=>s.heap.get? l=a7 (⟨.type "tuple",v,.seq a n,E⟩:d5)/\s.heap.get? b=a7 { cls:=.type "tuple",dict:=f,data:=.seq i D,slots:=o } /\ LexAt A.in1 s a.toList i.toList k/\R (.ok<|.ret<|.bool k) s) :=
 .of_wp λp w A R s h=>by
  obtain⟨q,g,d,u,r⟩:=s;obtain⟨B,z,c,h⟩:=h;have M:=AutoSeq1.sub_tuple_tuple
  wp_walk using RJ B,RJ z,Nz _ (λbf b s'=>b.1=a8/\s'=⟨q,g,d,u,r⟩/\∃(vs e:List c5),bf=vs.zip e /\ LexAt A.in1 ⟨q,g,d,u,r⟩ vs e k/\vs.length+i.size=e.length+a.size) _
  case turn =>
   rintro⟨y,x⟩ bf b s' ⟨hb',rfl,vs,e,hz,hlex,hlen⟩;cases hlex with
   |nn=>cases hz
   |nc=>cases hz
   |cn=>cases hz
   |eq j t =>
    rw[Ob]at hz;injection hz with hyx hrest;injection hyx with hy c;subst hy c;refine p9<|j p w _ _ ?_
    wp_walk
    exact⟨rfl,rfl,_,_,hrest,t,by simp only[C4]at hlen;lia⟩
   |ne j t =>
    rw[Ob]at hz;injection hz with hyx hrest;injection hyx with hy c;subst hy c;refine p9<|j p w _ _ ?_;have m:=t p w
    wp_walk using m
    exact⟨_,rfl,by simpa using h⟩
  case fin =>
   rintro⟨b1,b2⟩ s' ⟨hb',rfl,vs,e,hz,hlex,hlen⟩;simp only at hb';subst hb';have C:k=decide (a.size<i.size):=by
    cases hlex with
    |nn=>simp only[C8]at hlen;exact(dF_<|by lia).symm
    |nc=>simp only[C8,C4]at hlen;exact(dT_<|by lia).symm
    |cn=>simp only[C8,C4]at hlen;exact(dF_<|by lia).symm
    |eq _ _=>rw[Ob]at hz;cases hz
    |ne _ _=>rw[Ob]at hz;cases hz
   rw[C]at h
   wp_walk
   exact⟨_,rfl,by simpa [Builtin.Tuple.tupleCompareSizes]using h⟩
  case h =>
   exact⟨rfl,rfl,a.toList,i.toList,rfl,c,by simp;lia⟩
end
theorem yI.tuples(u:s.heap.IsTuple l items)(r:s.heap.IsTuple b items2)(v:A.units<j9)(y:LexAt A.in1 s items.toList items2.toList k):yI A s (.ref l) (.ref b) k:=λp w E Q h=>by obtain⟨⟨t,q,g,C⟩,B,m,n,o⟩:=id u;obtain⟨⟨j,e,i,f⟩,d,a,z,c⟩:=id r;simp only at m o a c;subst m o a c;exact richCompare_meets_room (op:=.Lt) ⟨_,B,rfl⟩ ⟨_,d,rfl⟩ PySem.F.slot_tuple_lt PySem.F.entry_tuple_lt (PySem.F.args_tuple_lt_2 _ _) (qU l b items items2 n z q e C f k) ⟨B,d,y,show Oq k≠Value.notImplemented/\Q (.bool k) s from⟨(λx=>nomatch x),h⟩⟩ v
noncomputable def uW(f g:D->D->Bool):List D->List D->Bool
 | [],[]=>bt
 | [],_::_=>a9
 |_::_,[]=>bt
 |x::xs,y::ys=>if f x y=a9 then uW f g xs ys else g x y
noncomputable def B8(M:t7):Nat->D->D->Bool
 |_,.int a,.int b=>decide<|a<b
 |_,.str a,.str b=>gX a b
 |n+1,.tup xs,.tup ys=>uW (t8 M n) (B8 M n) xs ys
 |_,_,_=>bt
noncomputable def Bv(f g:D->D->Bool):List D->List D->Bool
 |x::xs,y::ys=>if f x y=a9 then Bv f g xs ys else g x y
 |_,_=>a9
noncomputable def iY(M:t7):Nat->D->D->Bool
 |_,.int _,.int _=>a9
 |_,.str _,.str _=>a9
 |n+1,.tup xs,.tup ys=>Bv (t8 M n) (iY M n) xs ys
 |_,_,_=>bt
theorem yI.ints(A:e9)(s:f6)(a:Int)(t:Tok)(c:Int)(u:Tok):yI A s (.int a t) (.int c u) (decide<|a<c):=λg w E Q h=>HT.rcLt_int A s a t c u g w E Q h
theorem yI.texts(A:e9)(s:f6)(a:c6)(t:Tok)(c:c6)(u:Tok):yI A s (.str a t) (.str c u) (gX a c):=λg w E Q h =>
 (PySem.P.lt_str (show Q (.bool<|decide<|a.cps.toList<c.cps.toList) s from h):f9 (h8 g w) A (j7 .Lt (.str a t)<|.str c u) Q E s)
section
variable{X:Cx}{pins:List (c9×d5)}{σ:St}{H:Hp}{s:f6}{ρ:List c9}{M:t7}
theorem EV(I:q9 X pins σ H s)(Z:ve X.K ρ M H):∀(n:Nat) (A:e9) (x y:D) (vx vy:V) (u v:c5),A.units+n<j9->u3 X.K ρ H x vx->aV vx u->u3 X.K ρ H y vy->aV vy v->u8 M n x=a9->u8 M n y=a9->iY M n x y=a9 ->yI A s u v (B8 M n x y):=by
 intro n;induction n with
 |zero =>
  intro A x y vx vy u v T L c g l o1 o2 m;cases L with
  |int a =>
   cases g with
   |int b=>obtain⟨t,rfl⟩:=c;obtain⟨t',rfl⟩:=l;exact yI.ints A s a t b t'
   |_=>simp[iY]at m
  |str a =>
   cases g with
   |str b=>obtain⟨t,rfl⟩:=c;obtain⟨t',rfl⟩:=l;exact yI.texts A s a t b t'
   |_=>simp[iY]at m
  |_=>simp[iY]at m
 |succ n U =>
  intro A x y vx vy u v T L c g l o1 o2 m;have F:A.units<j9:=by lia
  have i:A.in1.units+n<j9:=by show A.units+1+n<j9;lia
  have G:∀(ds es:List D) (vs E:List V) (its j:List c5),Reps X.K ρ H ds vs->av vs its->Reps X.K ρ H es E->av E j->ds.all (u8 M n)=a9->es.all (u8 M n)=a9->Bv (t8 M n) (iY M n) ds es=a9 -> LexAt A.in1 s its j (uW (t8 M n) (B8 M n) ds es):=by
   intro ds;induction ds with
   |nil =>
    intro es vs E its j p w o q _ _ _;cases p;cases w;cases o with
    |nil=>cases q;exact .nn
    |cons _ _=>cases q;exact .nc
   |cons d ds hi =>
    intro es vs E its j p w o q B C k;cases p with
    |cons N p =>
     cases w with
     |cons Q w =>
      cases o with
      |nil=>cases q;exact .cn
      |@cons e _ S _ O o =>
       cases q with
       |cons R q=>rw[L3,D3]at B C;have z:=(nG I Z n A.in1 d _ _ _ _ _ i N Q O R B.1 C.1).1;rw[uW];rw[Bv]at k;by_cases f:t8 M n d e=a9;rw[f]at z;rw[o0 f]at k ⊢;exact .eq z<|hi _ _ _ _ _ p w o q B.2 C.2 k;have h:=Mp.mpr f;rw[h]at z;rw[o4 f]at k ⊢;exact .ne z<|U A.in1 _ _ _ _ _ _ i N Q O R B.1 C.1 k
  cases L with
  |int a =>
   cases g with
   |int b=>obtain⟨t,rfl⟩:=c;obtain⟨t',rfl⟩:=l;exact yI.ints A s a t b t'
   |_=>simp[iY]at m
  |str a =>
   cases g with
   |str b=>obtain⟨t,rfl⟩:=c;obtain⟨t',rfl⟩:=l;exact yI.texts A s a t b t'
   |_=>simp[iY]at m
  |tup f r =>
   cases g with
   |tup h r'=>cases c;cases l;obtain⟨its,Y,W,_⟩:=I.tuple f;obtain⟨j,P,J,_⟩:=I.tuple h;refine yI.tuples W J F ?_;exact G _ _ _ _ _ _ r Y r' P (by simpa [u8]using o1) (by simpa [u8]using o2) m
   |_=>simp[iY]at m
  |_=>simp[iY]at m
end
noncomputable def A8:Nat->D->Bool
 |_,.int _=>a9
 |_,.str _=>a9
 |n+1,.tup xs=>xs.all<|A8 n
 |_,_=>bt
noncomputable def Iq(f:D->List Int):List D->List Int
 | []=>[0]
 |x::xs=>1::(f x++Iq f xs)
noncomputable def A4:Nat->D->List Int
 |_,.int i=>[0,i]
 |_,.str x=>1::(x.cps.toList.map (λ(c:Nat)=>(c:Int)+1)++[0])
 |n+1,.tup xs=>2::Iq (A4 n) xs
 |_,_=>[3]
def cJ(x y:List Int):Prop:=∀a b,x++a<y++b
theorem cJ.cons(i:Int)(h:cJ x y):cJ (i::x) (i::y):=λa b=>M7.mpr<|.inr ⟨rfl,h a b⟩
theorem cJ.head(x y:List Int)(h:i<j):cJ (i::x) (j::y):=λa b=>M7.mpr<|.inl h
theorem cJ.lt(h:cJ x y):x<y:=by have:=h [] [];simpa using this
theorem cJ.pre(z:List Int)(h:cJ x y):cJ (z++x) (z++y):=by
 induction z with
 |nil=>exact h
 |cons i z a=>exact a.cons i
theorem cJ.more(u v:List Int)(h:cJ x y):cJ (x++u) (y++v):=λa b=>by rw[G9,G9];exact h _ _
def QV(x y:D)(n:Nat)(l:Bool)(r:Bool):Prop:=(x=y/\l=bt/\r=bt)\/(x≠y/\l=a9/\r=bt/\cJ (A4 n x) (A4 n y))\/(x≠y/\l=bt/\r=a9/\cJ (A4 n y) (A4 n x))
theorem tP:∀(x y:List Nat),(x=y)\/(x<y/\¬y<x/\cJ (x.map (λ(c:Nat)=>(c:Int)+1)++[0]) (y.map (λ(c:Nat)=>(c:Int)+1)++[0]))\/(¬x<y/\y<x/\cJ (y.map (λ(c:Nat)=>(c:Int)+1)++[0]) (x.map (λ(c:Nat)=>(c:Int)+1)++[0]))
 | [],[]=>.inl rfl
 | [],c::y=>.inr<|.inl ⟨List.nil_lt_cons _ _,List.not_lt_nil _,cJ.head _ _<|by dsimp only;lia⟩
 |c::x,[]=>.inr<|.inr ⟨List.not_lt_nil _,List.nil_lt_cons _ _,cJ.head _ _<|by dsimp only;lia⟩
 |c::x,e::y=>by
  rcases N9 c e with h|h|h;refine .inr<|.inl ⟨M7.mpr<|.inl h,λz=>?_,cJ.head _ _<|by dsimp only;lia⟩;rcases M7.mp z with z|⟨z,_⟩<;>lia
  subst h;rcases tP x y with q|⟨q1,q2,q3⟩|⟨q1,q2,q3⟩
  exact .inl (by rw[q]);refine .inr<|.inl ⟨M7.mpr<|.inr ⟨rfl,q1⟩,λz=>?_,q3.cons _⟩;rcases M7.mp z with z|⟨_,z⟩
  lia;exact q2 z;refine .inr<|.inr ⟨λz=>?_,M7.mpr<|.inr ⟨rfl,q2⟩,q3.cons _⟩;rcases M7.mp z with z|⟨_,z⟩
  lia;exact q1 z;refine .inr<|.inr ⟨λz=>?_,M7.mpr<|.inl h,cJ.head _ _<|by dsimp only;lia⟩;rcases M7.mp z with z|⟨z,_⟩<;>lia
theorem KO(M:t7):∀(n:Nat) (x y:D),A8 n x=a9->A8 n y=a9->(t8 M n x y=a9↔x=y):=by
 have l:∀(n:Nat),(∀(x y:D),A8 n x=a9->A8 n y=a9->(t8 M n x y=a9↔x=y))->∀(xs ys:List D),xs.all (A8 n)=a9->ys.all (A8 n)=a9->(C3 (t8 M n) xs ys=a9↔xs=ys):=by
  intro n i xs;induction xs with
  |nil=>intro ys _ _;cases ys<;>simp[C3]
  |cons x xs hi =>
   intro ys h1 h2;cases ys with
   |nil=>simp[C3]
   |cons y ys=>rw[L3,D3]at h1 h2;rw[C3,D3,i x y h1.1 h2.1,hi ys h1.2 h2.2,Oz]
 intro n;induction n with
 |zero=>intro x y h1 h2;cases x<;>simp[A8]at h1<;>cases y<;>simp[A8]at h2<;>simp[t8]
 |succ n i =>
  intro x y h1 h2;cases x with
  |int a=>cases y<;>simp[A8]at h2<;>simp[t8]
  |str a=>cases y<;>simp[A8]at h2<;>simp[t8]
  |tup xs =>
   cases y with
   |tup ys=>simp only[t8,D.tup.injEq];exact l n i xs ys (by simpa [A8]using h1)<|by simpa [A8]using h2
   |int a=>simp[t8]
   |str a=>simp[t8]
   |_=>simp[A8]at h2
  |_=>simp[A8]at h1
theorem JJ(M:t7):∀(n:Nat) (x:D),A8 n x=a9->u8 M n x=a9:=by
 intro n;induction n with
 |zero=>intro x h;cases x<;>simp[A8]at h<;>rfl
 |succ n i =>
  intro x h;cases x with
  |int a=>rfl
  |str a=>rfl
  |tup xs=>simp only[u8];rw[E9];intro y O;exact i y<|E9.mp (show xs.all (A8 n)=a9 from h) y O
  |_=>simp[A8]at h
theorem IG(M:t7):∀(n:Nat) (x y:D),A8 n x=a9->A8 n y=a9->iY M n x y=a9->QV x y n (B8 M n x y) (B8 M n y x):=by
 have base:∀(n:Nat) (a b:Int),QV (.int a) (.int b) n (decide<|a<b) (decide<|b<a):=λn a b=>by
  have e:∀a,A4 n (.int a)=[0,a]:=λa=>by cases n<;>rfl
  rcases Int.lt_trichotomy a b with h|h|h;exact .inr<|.inl ⟨by simp;lia,dT_ h,dF_ (by lia),by rw[e,e];exact(cJ.head [] [] h).cons 0⟩;subst h;exact .inl ⟨rfl,dF_ (by lia),dF_<|by lia⟩;exact .inr<|.inr ⟨by simp;lia,dF_ (by lia),dT_ h,by rw[e,e];exact(cJ.head [] [] h).cons 0⟩
 have s:∀(n:Nat) (a b:c6),QV (.str a) (.str b) n (gX a b) (gX b a):=λn a b=>by
  have e:∀a:c6,A4 n (.str a)=1::(a.cps.toList.map (λ(c:Nat)=>(c:Int)+1)++[0]):=λa=>by cases n<;>rfl
  unfold gX;rcases tP a.cps.toList b.cps.toList with h|⟨h1,h2,d⟩|⟨h1,h2,d⟩
  have:a=b:=kq h;subst this;exact .inl ⟨rfl,dF_<|K7 _,dF_<|K7 _⟩;exact .inr<|.inl ⟨λz=>by cases z;exact h2 h1,dT_ h1,dF_ h2,by rw[e,e];exact d.cons 1⟩;exact .inr<|.inr ⟨λz=>by cases z;exact h1 h2,dF_ h1,dT_ h2,by rw[e,e];exact d.cons 1⟩
 intro n;induction n with
 |zero=>intro x y h1 h2 d;cases x<;>simp[A8]at h1<;>cases y<;>simp[A8]at h2<;>first|exact base 0 _ _|exact s 0 _ _|simp[iY]at d
 |succ n m =>
  intro x y h1 h2 d;have l:∀(xs ys:List D),xs.all (A8 n)=a9->ys.all (A8 n)=a9->Bv (t8 M n) (iY M n) xs ys=a9 -> (xs=ys/\uW (t8 M n) (B8 M n) xs ys=bt/\uW (t8 M n) (B8 M n) ys xs=bt) \/ (xs≠ys/\uW (t8 M n) (B8 M n) xs ys=a9/\uW (t8 M n) (B8 M n) ys xs=bt/\cJ (Iq (A4 n) xs) (Iq (A4 n) ys)) \/ (xs≠ys/\uW (t8 M n) (B8 M n) xs ys=bt/\uW (t8 M n) (B8 M n) ys xs=a9/\cJ (Iq (A4 n) ys) (Iq (A4 n) xs)):=by
   intro xs;induction xs with
   |nil =>
    intro ys _ _ _;cases ys with
    |nil=>exact .inl ⟨rfl,rfl,rfl⟩
    |cons y ys=>exact .inr<|.inl ⟨by simp,rfl,rfl,cJ.head _ _<|by decide⟩
   |cons x xs hi =>
    intro ys h1 h2 d;cases ys with
    |nil=>exact .inr<|.inr ⟨by simp,rfl,rfl,cJ.head _ _<|by decide⟩
    |cons y ys =>
     rw[L3,D3]at h1 h2;rw[Bv]at d;have i:=KO M n x y h1.1 h2.1;have j:=KO M n y x h2.1 h1.1;rw[uW,uW];by_cases q:x=y;subst q;rw[o0<|i.mpr rfl]at d;rw[o0<|i.mpr rfl,o0<|i.mpr rfl];rcases hi ys h1.2 h2.2 d with⟨F,f,g⟩|⟨F,f,g,t⟩|⟨F,f,g,t⟩
     exact .inl ⟨by rw[F],f,g⟩;exact .inr<|.inl ⟨λz=>F (O9 z).2,f,g,(t.pre<|A4 n x).cons 1⟩;exact .inr<|.inr ⟨λz=>F (O9 z).2,f,g,(t.pre<|A4 n x).cons 1⟩;have k:¬t8 M n x y=a9:=λz=>q<|i.mp z;have o:¬t8 M n y x=a9:=λz=>q (j.mp z).symm;rw[o4 k]at d;rw[o4 k,o4 o];rcases m x y h1.1 h2.1 d with⟨F,_⟩|⟨F,f,g,t⟩|⟨F,f,g,t⟩
     exact o5 F q;exact .inr<|.inl ⟨λz=>q (O9 z).1,f,g,(t.more _ _).cons 1⟩;exact .inr<|.inr ⟨λz=>q (O9 z).1,f,g,(t.more _ _).cons 1⟩
  cases x with
  |int a=>cases y<;>simp[A8]at h2<;>first|exact base (n+1) _ _|simp[iY]at d
  |str a=>cases y<;>simp[A8]at h2<;>first|exact s (n+1) _ _|simp[iY]at d
  |tup xs =>
   cases y with
   |tup ys =>
    rcases l xs ys (by simpa [A8]using h1) (by simpa [A8]using h2) d with⟨F,f,g⟩|⟨F,f,g,t⟩|⟨F,f,g,t⟩
    exact .inl ⟨by rw[F],f,g⟩;exact .inr<|.inl ⟨λz=>F<|D.tup.inj z,f,g,t.cons 2⟩;exact .inr<|.inr ⟨λz=>F<|D.tup.inj z,f,g,t.cons 2⟩
   |_=>simp[iY]at d
  |_=>simp[A8]at h1
theorem uS(h1:A8 n x=a9)(h2:A8 n y=a9)(h:iY M n x y=a9):B8 M n x y=decide (A4 n x<A4 n y):=by
 rcases IG M n x y h1 h2 h with⟨F,a,b⟩|⟨F,a,b,t⟩|⟨F,a,b,t⟩
 subst F;rw[a,dF_<|K7 _];rw[a,dT_ t.lt];rw[a,dF_<|λz=>K7 _<|List.lt_trans z t.lt]
theorem Hr(h1:A8 n x=a9)(h2:A8 n y=a9)(a:iY M n x y=a9)(e:A4 n x=A4 n y):x=y:=by
 rcases IG M n x y h1 h2 a with⟨F,_⟩|⟨_,_,_,t⟩|⟨_,_,_,t⟩
 exact F;have:=t.lt;rw[e]at this;exact o5 this<|K7 _;have:=t.lt;rw[e]at this;exact o5 this<|K7 _
end L2
namespace L2
open PySem PySem.Spec PyProof.Rows DL PySem.W
section
variable{X:Cx}{pins:List (c9×d5)}{σ:St}{H:Hp}{s:f6}
theorem q9.laidF(I:q9 X pins σ H s)(k:∀b u,b≠X.env.locals->s.heap.get? b=a7 u->h'.get? b=a7 u)(p:s.heap.Ns X.env.locals m)(h:h'.Ns X.env.locals m)(t:s.heap.get? a=a8) (f:H a=a8) (j:cH X.prog X.w (v6 H a o) h' a o):q9 X pins σ (v6 H a o) { s with heap:=h',toks:=t' }:=by
 have i:∀b u,s.heap.get? b=a7 u->b≠a:=λb u e z=>by subst z;rw[t]at e;cases e
 refine I.step (g':=s.gens) (d':=s.drawn) (ch:=[]) (λ_ z=>nomatch z) (λb u L _ _ e _=>k b u L e) (λb u L _ _ e _=>⟨u.slots,k b u L e⟩) (λb u _ e n=>by rw[ag<|i b u e];exact n) (λb u _ e=>?_) (λb xs q=>by rw[ag<|ad q f];exact q) (λb u xs q=>by rw[ag<|ad q f];exact q) (λb ps q=>⟨#[],by rw[ag<|ad q f,q];simp⟩) (λy l=>?_) (λb w q=>?_) I.bare;by_cases d:b=X.env.locals;subst d;obtain⟨A,_,_,B,_⟩:=h;exact⟨A,B⟩;exact⟨u,k b u d e⟩;have:m=y:=funext λx=>p.agree l x;subst this;exact h;by_cases d:b=a;subst d;rw[aK]at q;cases q;exact j;rw[ag d]at q;refine(I.hok b w q).stay (λc v g r=>k c v ?_ r) (λc z=>by rw[ag<|ad z f];exact z) λc xs z=>by rw[ag<|ad z f];exact z
 rcases g with rfl|g;exact ad q I.free;exact ad g I.free
theorem q9.keptF(I:q9 X pins σ H s)(k:∀b u,b≠X.env.locals->s.heap.get? b=a7 u->h'.get? b=a7 u)(i:s.heap.Ns X.env.locals m)(a:h'.Ns X.env.locals m):q9 X pins σ H { s with heap:=h',toks:=t' }:=by refine I.step (g':=s.gens) (d':=s.drawn) (ch:=[]) (λ_ z=>nomatch z) (λb u h _ _ e _=>k b u h e) (λb u h _ _ e _=>⟨u.slots,k b u h e⟩) (λb u _ e n=>n) (λb u _ e=>?_) (λb xs q=>q) (λb u xs q=>q) (λb ps q=>⟨#[],by rw[q];simp⟩) (λj g=>?_) (λb w q=>?_) I.bare;by_cases d:b=X.env.locals;subst d;obtain⟨o,_,_,B,_⟩:=a;exact⟨o,B⟩;exact⟨u,k b u d e⟩;have:m=j:=funext λx=>i.agree g x;subst this;exact a;refine(I.hok b w q).stay (λc v f r=>k c v ?_ r) (λc z=>z) λc xs z=>z;rcases f with rfl|f;exact ad q I.free;exact ad f I.free
end
section
variable{prog:c8}{w:c7}{A:e9}{E:c5->f6->Prop}{s:f6}
theorem rV{l:c9}{vs:List c5}{Q:c5->f6->Prop}(u:s.heap.IsList l vs.toArray)(h2:vs.length<2)(h:∀D h' n,s.heap.objs.size<=D->(∀b o,s.heap.get? b=a7 o->h'.get? b=a7 o)->h'.get? D=a7 { cls:=.type "list",data:=.seq vs.toArray n }->Q (.ref D) { s with heap:=h' }):f9 (h8 prog w) A (call (.builtin "sorted")<|[E1 l]) Q E s:=by
 have f:vs.length<=sizeLine:=by rw[Mc];lia
 refine Calls.call_function_entry kind_sorted plain_sorted entry_sorted (args_sorted1<|.ref l) ?_;unfold Builtin.«sorted»;refine p9 (m:=checkCount "sorted" 1 1 _)<|t4<|p9<|collect_list u (p9<|NV ?_ f) f;generalize S:((s.heap.push<|m8 "list" #[] 0).update s.heap.objs.size (F9 (· ++ vs.toArray)))=g1;have z:g1.objs.size=s.heap.objs.size+1:=by rw[<-S,Heap.size_update,size_push']
 have x:∀b o,s.heap.get? b=a7 o->g1.get? b=a7 o:=λb o q=>by have d:=v9 q;rw[<-S,Od _ _ _ _<|x9 d,Heap.get?_push_ne _ _ _<|x9 d];exact q
 show f9 _ _ _ _ _ { s with heap:=g1.push (m8 "list" vs.toArray 0) };have L:(g1.push<|m8 "list" vs.toArray 0).get? g1.objs.size=a7 (m8 "list" vs.toArray 0):=z0 _ rfl;refine p9<|E2<|G8 slot_list_sort (⟨_,L,rfl⟩) entry_list_sort ?body<|args_list_sort<|.ref _
 case body =>
  rw[list_sort_plain];refine p9<|Ot L rfl ?_;refine p9<|NU L rfl ?_ (by rw[y4,Mc];lia)<|z8 _;obtain⟨k,e⟩:∃k,((g1.push<|m8 "list" vs.toArray 0).update g1.objs.size<|F9 λ_=>(#[]:Array c5)).get? g1.objs.size=a7 (m8 "list" #[] k):=⟨_,N0 L λ_=>#[]⟩
  refine p9<|seqEpoch_at e rfl<|p9<|wpAny_newTuple (p9<|NV (E2 ?_)<|z8 _) f;dsimp only;have g:vs.toArray.size<2:=by rw[y4];exact h2
  rw[o0 g,o0 g];refine p9<|t4 ?_;rw[StateT.run_pure];refine p9<|t4 ?_;dsimp only;generalize c:(((g1.push<|m8 "list" vs.toArray 0).update g1.objs.size<|F9 λ_=>(#[]:Array c5)).push<|m8 "tuple" vs.toArray 0).push (m8 "list" #[] 0)=g3;have a:g3.get? g1.objs.size=a7 (m8 "list" #[] k):=by rw[<-c];exact v7 _<|v7 _ e
  have y:∀b o,b≠g1.objs.size->s.heap.get? b=a7 o->g3.get? b=a7 o:=λb o i q=>by have B:=x b o q;rw[<-c];refine v7 _<|v7 _ ?_;rw[Od _ _ _ _ i];exact v7 _ B
  refine p9<|seqEpoch_at a rfl ?_;have r:∀us:List c5,us.length<2->(us.toArray.zip us.toArray).map (·.2)=us.toArray:=λus hu=>by
   match us,hu with
   | [],_=>simp
   | [v],_=>simp
   |_::_::_,hu=>simp at hu;lia
  have t:(arrOf<|SortSt.mk' general' (vs.toArray.zip vs.toArray) #[] 7 a8).map (·.2)=vs.toArray:=r vs h2;rw[t];refine p9 (NU a rfl ?_ (z8 _)<|by rw[y4,Mc];lia);simp only[show failedOf (SortSt.mk' general' (vs.toArray.zip vs.toArray) #[] 7 a8)=a8 from rfl,bne_self_eq_false,A9,p5];refine t4 ⟨_,rfl,t4 ⟨_,rfl,?_⟩⟩;obtain⟨j,p⟩:∃j,(g3.update g1.objs.size<|F9 λ_=>vs.toArray).get? g1.objs.size=a7 (m8 "list" vs.toArray j):=⟨_,N0 a λ_=>vs.toArray⟩
  refine h g1.objs.size _ j (by lia) (λb o q=>?_) p;have i:b≠g1.objs.size:=x9 (by rw[z];exact NC<|v9 q);rw[Od _ _ _ _ i];exact y b o i q
end
structure SrtOk(M:t7)(xs:List D):Prop where
 len:xs.length<64
 ok:∀x∈xs,A8 t9 x=a9
 cm:∀x∈xs,∀y∈xs,iY M t9 x y=a9
 kd:(∀x∈xs,∃z,x=.str z)\/(∀x∈xs,∃i,x=.int i)\/(∀x∈xs,∃z r,x=.tup (.str z::r))\/(∀x∈xs,∃i r,x=.tup (.int i::r))\/(∀x∈xs,∃z r,x=.tup (.tup z::r))
structure SrtG(M:t7)(xs:List D):Prop where
 len:xs.length<64
 okd:∀x∈xs,u8 M t9 x=a9
 cm:∀x∈xs,∀y∈xs,iY M t9 x y=a9
 kd:(∀x∈xs,∃z,x=.str z)\/(∀x∈xs,∃i,x=.int i)\/(∀x∈xs,∃z r,x=.tup (.str z::r))\/(∀x∈xs,∃i r,x=.tup (.int i::r))\/(∀x∈xs,∃z r,x=.tup (.tup z::r))
 od:∃en:D->List Int,∀a∈xs,∀b∈xs,B8 M t9 a b=decide (en a<en b)
theorem SrtOk.g(o:SrtOk M xs):SrtG M xs:=⟨o.len,λx h=>JJ M _ _<|o.ok x h,o.cm,o.kd,A4 t9,λa f b d=>uS (o.ok a f) (o.ok b d)<|o.cm a f b d⟩
def Iv(M:t7)(ys:List D):Prop:=ys.Pairwise λa b=>B8 M t9 b a=bt
def ku:C6:=λds M Q=>match ds with
 | [.ref n]=>∃xs,ar M n xs/\SrtG M xs/\∀ys,ys.Perm xs->Iv M ys->Q (.ref M.length) (M++[.lst ys])
 |_=>False
theorem Reps.perm{K:u4}{ρ:List c9}{H:Hp}{ds:List D}{vs:List V}(r:Reps K ρ H ds vs)(is:List Nat)(hi:∀i∈is,i<ds.length):Reps K ρ H (is.map λi=>ds.getD i .non) (is.map λi=>vs.getD i .non):=by
 induction is with
 |nil=>exact .nil
 |cons i is a=>have h:=hi i C1;obtain⟨v,e,d⟩:=r.get<|x3 h;refine .cons ?_<|a λj L=>hi j<|A6 _ L;show u3 K ρ H (ds.getD i .non) (vs.getD i .non);rw[J6,J6,e,x3 h];exact d
theorem av.perm(r:av vs us)(is:List Nat)(hi:∀i∈is,i<vs.length):av (is.map λi=>vs.getD i .non) (is.map λi=>us.getD i .none):=by
 induction is with
 |nil=>exact .nil
 |cons i is a=>have h:=hi i C1;obtain⟨v,e,d⟩:=jf r<|x3 h;refine .cons ?_<|a λj L=>hi j<|A6 _ L;show aV (vs.getD i .non) (us.getD i .none);rw[J6,J6,e,x3 h];exact d
instance:Inhabited D:=⟨.non⟩
section
variable{X:Cx}{pins:List (c9×d5)}{σ:St}{H:Hp}{s:f6}{ρ:List c9}{M:t7}
theorem Gv(o:HO)(x:cH P w H h a o):∃u,h.get? a=a7 u:=by
 cases o with
 |lst _=>obtain⟨_,_,_,_,e⟩:=x;exact⟨_,e⟩
 |tup _=>obtain⟨_,_,_,o,e,_⟩:=x;exact⟨o,e⟩
 |dK _=>obtain⟨_,_,_,_,_,_,_,e,_⟩:=x;exact⟨_,e⟩
 |dT _=>obtain⟨_,_,_,_,o,_,_,e,_⟩:=x;exact⟨o,e⟩
 |set _ _=>obtain⟨o,_,_,_,e,_⟩:=x;exact⟨_,e⟩
 |ins _ _ _=>obtain⟨_,_,_,e,_⟩:=x;exact⟨_,e⟩
 |own _=>exact x
 |xd _=>obtain⟨_,⟨_,_,_,e,_⟩,_⟩:=x;exact⟨_,e⟩
 |rng _ _=>obtain⟨_,_,_,e⟩:=x;exact⟨_,e⟩
 |frz _ _=>obtain⟨e,_⟩:=x;exact⟨_,e⟩
 |tbl _=>exact⟨_,x⟩
 |met _ _=>exact⟨_,x⟩
 |ext _=>obtain⟨_,e,_⟩:=x;exact e
theorem D0.none(x:D0 P w H h)(e:h.get? a=a8):H a=a8:=by
 cases q:H a with
 |none=>rfl
 |some o=>exfalso;obtain⟨u,g⟩:=Gv o<|x a o q;rw[e]at g;cases g
theorem Gw(I:q9 X pins σ H s)(m:ve X.K ρ M H)(n:Nat)(A:e9)(u:A.units+n<j9):∀(ds es:List D) (vs ws:List V) (its jts:List c5),Reps X.K ρ H ds vs->av vs its->Reps X.K ρ H es ws->av ws jts->ds.all (u8 M n)=a9->es.all (u8 M n)=a9 ->Bv (t8 M n) (iY M n) ds es=a9->LexAt A s its jts (uW (t8 M n) (B8 M n) ds es):=by
 intro ds;induction ds with
 |nil =>
  intro es vs ws its jts g c p j _ _ _;cases g;cases c;cases p with
  |nil=>cases j;exact .nn
  |cons _ _=>cases j;exact .nc
 |cons d ds hi =>
  intro es vs ws its jts g c p j a C k;cases g with
  |cons F g =>
   cases c with
   |cons f c =>
    cases p with
    |nil=>cases j;exact .cn
    |@cons e _ o _ b p =>
     cases j with
     |cons l j=>rw[L3,D3]at a C;have i:=(nG I m n A d _ _ _ _ _ u F f b l a.1 C.1).1;rw[uW];rw[Bv]at k;by_cases q:t8 M n d e=a9;rw[q]at i;rw[o0 q]at k ⊢;exact .eq i<|hi _ _ _ _ _ g c p j a.2 C.2 k;have h:=Mp.mpr q;rw[h]at i;rw[o4 q]at k ⊢;exact .ne i<|EV I m n A _ _ _ _ _ _ u F f b l a.1 C.1 k
end
section
variable{prog:c8}{w:c7}{A:e9}{s:f6}{b:Bool}{Q:Bool->f6->Prop}
theorem Dw(h:LexAt A s its jts k):∀(i:Nat),(b&&i==0)=bt->(b&&i+1==0)=bt->Q k s->KatLex prog w A b (decide<|its.length<jts.length) Q (its.zip jts) i s:=by
 have n:∀i:Nat,(b&&i+1==0)=bt:=λi=>by cases b<;>simp
 induction h with
 |nn=>intro i _ _ q;exact q
 |nc=>intro i _ _ q;exact(show Q (decide<|0<_+1) s by rw[dT_<|Nat.succ_pos _];exact q)
 |cn=>intro i _ _ q;exact(show Q (decide<|_+1<0) s by rw[dF_<|MY _];exact q)
 |@eq x y xs ys k e t a=>intro i d _ q;refine kat_cons<|e prog w _ _<|kat_yes ?_;have:=a (i+1) (n i) (n<|i+1) q;rw[show decide ((x::xs).length<(y::ys).length)=decide (xs.length<ys.length) by simp];exact this
 |@ne x y xs ys k e t=>intro i d _ q;refine kat_cons<|e prog w _ _<|kat_no ?_;rw[d];exact kat_one _ _<|t prog w _ _ q
theorem AR(i:Ml A s p q e)(g:e=bt->∀Q':Bool->f6->Prop,Q' l s->f9 (h8 prog w) A (oneLt' (b&&0==0) p q) Q' (λ_ _=>False) s)(D:e=a9->LexAt A s its jts k)(h:Q (if e=a9 then k else l) s):KatLex prog w A b (decide<|(p::its).length<(q::jts).length) Q ((p::its).zip<|q::jts) 0 s:=by
 refine kat_cons<|i prog w _ _ ?_;cases e with
 |true=>refine kat_yes ?_;rw[show decide ((p::its).length<(q::jts).length)=decide (its.length<jts.length) by simp];exact Dw (D rfl) 1 (by cases b<;>rfl) (by cases b<;>rfl) h
 |false=>exact kat_no<|g rfl _ h
end
section
variable{X:Cx}{pins:List (c9×d5)}{σ:St}{H:Hp}{s:f6}{ρ:List c9}{M:t7}
theorem sK{M:Model}{h:d6}{x:c6}{t:Tok}:Looks M h (l7<|.str x t) (.type "str"):=Looks.of_pure rfl
theorem sL{M:Model}{h:d6}{x:Int}{t:Tok}:Looks M h (l7<|.int x t) (.type "int"):=Looks.of_pure rfl
theorem Reps.getD'(r:Reps X.K ρ H ds vs)(f:av vs its)(h:i<ds.length):∃v,u3 X.K ρ H (ds.getD i default) v/\aV v (its.getD i .none)/\ds.getD i default∈ds:=by obtain⟨v,e,d⟩:=r.get<|x3 h;obtain⟨u,a,R⟩:=jf f e;refine⟨v,?_,?_,?_⟩;rw[J6,x3 h];exact d;rw[J6,a];exact R;rw[J6,x3 h];exact L5 h
theorem Reps.mem(r:Reps X.K ρ H ds vs)(f:av vs its)(h:u∈its):∃d v,d∈ds/\u3 X.K ρ H d v/\aV v u:=by
 induction ds generalizing vs its with
 |nil=>cases r;cases f;cases h
 |cons g ds i =>
  cases r with
  |cons e r =>
   cases f with
   |cons c q=>rcases(x6 (a:=u)).mp h with rfl|h;exact⟨_,_,C1,e,c⟩;obtain⟨d,v,h1,h2,b⟩:=i r q h;exact⟨d,v,A6 _ h1,h2,b⟩
theorem vm(I:q9 X pins σ H s)(r:Reps X.K ρ H xs ws)(b:av ws its)(a:∀x∈xs,∃f r,x=.tup (f::r)):∃fs,KatTups s.heap its fs/\fs.length=its.length/\∀u∈fs,∃d v,u3 X.K ρ H d v/\aV v u/\∃r,D.tup (d::r)∈xs:=by
 induction xs generalizing ws its with
 |nil=>cases r;cases b;exact⟨[],.nil,rfl,λ_ z=>nomatch z⟩
 |cons d ds w =>
  cases r with
  |cons C r =>
   cases b with
   |cons A q =>
    obtain⟨fs,h1,h2,j⟩:=w r q λx h=>a x<|A6 _ h;obtain⟨f,bf,rfl⟩:=a d C1;cases C with
    |tup p c =>
     cases A;obtain⟨its,e,y,E⟩:=I.tuple p;cases c with
     |cons F c =>
      cases e with
      |cons i e=>obtain⟨o,B,k,n,m⟩:=y;refine⟨_::fs,.cons B k m rfl h1,by simp[h2],λu g=>?_⟩;rcases x6.mp g with rfl|g;exact⟨_,_,F,i,_,C1⟩;obtain⟨d,v,t,l,r',R⟩:=j u g;exact⟨d,v,t,l,r',A6 _ R⟩
noncomputable def ltc(M:t7)(xs:List D)(i j:Nat):Bool:=B8 M t9 (xs.getD i default)<|xs.getD j default
theorem mP(I:q9 X pins σ H s)(sm:ve X.K ρ M H){xs:List D}{ws:List V}{its:List c5}(so:SrtG M xs)(r:Reps X.K ρ H xs ws)(J:av ws its)(h2:2<=its.length){A:e9}(P:A.units+t9<j9):f9 (h8 X.prog X.w) A (keyKind' its.toArray) (λκ s'=>s'=s/\∀i j (C:Bool->f6->Prop),i<its.length->j<its.length->C (ltc M xs i j) s->kas_ask X.prog X.w A κ its i j C s) (λ_ _=>False) s:=by
 have lw:=r.length;have li:=J.length;have le:xs.length=its.length:=by lia
 have O:∀(b:Bool),(∀x∈xs,∃f r,x=.tup (f::r))->(∀(f g:D) (vf vg:V) (p q:c5) (r r':List D),D.tup (f::r)∈xs->D.tup (g::r')∈xs->u3 X.K ρ H f vf->aV vf p->u3 X.K ρ H g vg->aV vg q -> (t8 M 29 f g=bt->∀Q':Bool->f6->Prop,Q' (B8 M 29 f g) s->f9 (h8 X.prog X.w) A (oneLt' (b&&0==0) p q) Q' (λ_ _=>False) s)) -> ∀i j (C:Bool->f6->Prop),i<its.length->j<its.length->C (ltc M xs i j) s->kas_ask X.prog X.w A (tuples' b) its i j C s:=by
  intro b F ai i j C hi hj E;unfold kas_ask;obtain⟨v1,c,B,m⟩:=r.getD' J (show i<xs.length by lia);obtain⟨v2,G,L,W⟩:=r.getD' J (show j<xs.length by lia);unfold ltc at E;have k1:=so.okd _ m;have k2:=so.okd _ W;have k3:=so.cm _ m _ W;generalize xs.getD i default=x at *;generalize xs.getD j default=y at *;obtain⟨f,rf,rfl⟩:=F _ m;obtain⟨g,rg,rfl⟩:=F _ W;cases c with
  |tup S rs =>
   cases G with
   |tup aS Z =>
    generalize its.getD i .none=u1 at *;generalize its.getD j .none=u2 at *;cases B;cases L;obtain⟨as,ra,pa,_⟩:=I.tuple S;obtain⟨bs,rb,pb,_⟩:=I.tuple aS;obtain⟨o,ho,_,n,hd⟩:=pa;obtain⟨o',aP,_,n',aD⟩:=pb;refine kat_lt ho hd aP aD ?_;cases rs with
    |cons a1 rs =>
     cases ra with
     |@cons _ p _ la b1 ra =>
      cases Z with
      |cons a2 Z =>
       cases rb with
       |@cons _ q _ lb b2 rb =>
        have aj:A.units+29<j9:=by have:t9=30:=rfl;lia
        have z1:u8 M 29 f=a9/\rf.all (u8 M 29)=a9:=by
         have:(f::rf).all (u8 M 29)=a9:=k1
         rwa [L3,D3]at this
        have z2:u8 M 29 g=a9/\rg.all (u8 M 29)=a9:=by
         have:(g::rg).all (u8 M 29)=a9:=k2
         rwa [L3,D3]at this
        have z3:(if t8 M 29 f g=a9 then Bv (t8 M 29) (iY M 29) rf rg else iY M 29 f g)=a9:=k3;have he:=(nG I sm 29 A _ _ _ _ _ _ aj a1 b1 a2 b2 z1.1 z2.1).1;have R:C (if t8 M 29 f g=a9 then uW (t8 M 29) (B8 M 29) rf rg else B8 M 29 f g) s:=E;cases U:t8 M 29 f g with
        |true=>rw[U]at he R z3;have:=AR (prog:=X.prog) (w:=X.w) (b:=b) (Q:=C) (l:=a9) he (λz=>nomatch z) (λ_=>Gw I sm 29 A aj _ _ _ _ _ _ rs ra Z rb z1.2 z2.2 z3) R;simpa using this
        |false=>rw[U]at he R;have:=AR (prog:=X.prog) (w:=X.w) (b:=b) (Q:=C) (l:=B8 M 29 f g) (its:=la) (jts:=lb) (k:=a9) he (λ_=>ai f g _ _ _ _ _ _ m W a1 b1 a2 b2 U) (λz=>nomatch z) R;simpa using this
 have N:∀(κ:SortKind),(∀i j (C:Bool->f6->Prop),i<its.length->j<its.length->C (ltc M xs i j) s->kas_ask X.prog X.w A κ its i j C s)->(s=s/\∀i j (C:Bool->f6->Prop),i<its.length->j<its.length->C (ltc M xs i j) s->kas_ask X.prog X.w A κ its i j C s):=λκ h=>⟨rfl,h⟩
 have an:A.units+29<j9:=by have:t9=30:=rfl;lia
 rcases so.kd with a|a|a|a|a;refine kas_kind (T:=.type "str") h2 (λu P=>?_) (by decide) (by decide)<|N _ λi j C hi hj E=>?_;obtain⟨d,v,m,c,B⟩:=r.mem J P;obtain⟨z,rfl⟩:=a d m;cases c;obtain⟨t,rfl⟩:=B;exact sK;unfold kas_ask;obtain⟨v1,c,B,m⟩:=r.getD' J (show i<xs.length by lia);obtain⟨v2,G,L,W⟩:=r.getD' J (show j<xs.length by lia);unfold ltc at E;obtain⟨z,hz⟩:=a _ m;obtain⟨z',Y⟩:=a _ W;rw[hz]at c E;rw[Y]at G E;cases c;cases G;obtain⟨t,h1⟩:=B;obtain⟨t',h2⟩:=L;rw[h1,h2];exact kas_lt_str E;refine kas_kind (T:=.type "int") h2 (λu P=>?_) (by decide) (by decide)<|N _ λi j C hi hj E=>?_;obtain⟨d,v,m,c,B⟩:=r.mem J P;obtain⟨z,rfl⟩:=a d m;cases c;obtain⟨t,rfl⟩:=B;exact sL;unfold kas_ask;obtain⟨v1,c,B,m⟩:=r.getD' J (show i<xs.length by lia);obtain⟨v2,G,L,W⟩:=r.getD' J (show j<xs.length by lia);unfold ltc at E;obtain⟨z,hz⟩:=a _ m;obtain⟨z',Y⟩:=a _ W;rw[hz]at c E;rw[Y]at G E;cases c;cases G;obtain⟨t,h1⟩:=B;obtain⟨t',h2⟩:=L;rw[h1,h2];exact kat_lt_int E;obtain⟨fs,t1,t2,t3⟩:=vm I r J λx F=>(a x F).elim λz ⟨r,e⟩=>⟨_,_,e⟩
 refine kat_kind (T:=.type "str") t1 (by lia) (λu P=>?_) (by decide)<|N _<|O _ (λx F=>(a x F).elim λz ⟨r,e⟩=>⟨_,_,e⟩) λf g vf vg p q r r' m W c B G L S Q' h=>?_;obtain⟨d,v,c,B,r',m⟩:=t3 u P;obtain⟨z,al,e⟩:=a _ m;cases e;cases c;obtain⟨t,rfl⟩:=B;exact sK;obtain⟨z,_,e⟩:=a _ m;cases e;obtain⟨z',_,e'⟩:=a _ W;cases e';cases c;cases G;obtain⟨t,rfl⟩:=B;obtain⟨t',rfl⟩:=L;exact oneLt_str h;obtain⟨fs,t1,t2,t3⟩:=vm I r J λx F=>(a x F).elim λz ⟨r,e⟩=>⟨_,_,e⟩
 refine kat_kind (T:=.type "int") t1 (by lia) (λu P=>?_) (by decide)<|N _<|O _ (λx F=>(a x F).elim λz ⟨r,e⟩=>⟨_,_,e⟩) λf g vf vg p q r r' m W c B G L S Q' h=>?_;obtain⟨d,v,c,B,r',m⟩:=t3 u P;obtain⟨z,al,e⟩:=a _ m;cases e;cases c;obtain⟨t,rfl⟩:=B;exact sL;obtain⟨z,_,e⟩:=a _ m;cases e;obtain⟨z',_,e'⟩:=a _ W;cases e';cases c;cases G;obtain⟨t,rfl⟩:=B;obtain⟨t',rfl⟩:=L;exact oneLt_int h;obtain⟨fs,t1,t2,t3⟩:=vm I r J λx F=>(a x F).elim λz ⟨r,e⟩=>⟨_,_,e⟩
 refine kat_kind (T:=.type "tuple") t1 (by lia) (λu P=>?_) (by decide)<|N _<|O _ (λx F=>(a x F).elim λz ⟨r,e⟩=>⟨_,_,e⟩) λf g vf vg p q r r' m W c B G L S Q' h=>?_;obtain⟨d,v,c,B,r',m⟩:=t3 u P;obtain⟨z,al,e⟩:=a _ m;cases e;cases c with
 |tup S rs=>cases B;obtain⟨_,_,pl,_⟩:=I.tuple S;obtain⟨o,ho,E,_⟩:=pl;rw[<-E];exact(show Looks _ s.heap (l7<|.ref _) o.cls from(Looks.ld ho).andThen .now)
 have k1:u8 M 29 f=a9:=by have:(f::r).all (u8 M 29)=a9:=so.okd _ m;rw[L3,D3]at this;exact this.1
 have k2:u8 M 29 g=a9:=by have:(g::r').all (u8 M 29)=a9:=so.okd _ W;rw[L3,D3]at this;exact this.1
 have k3:(if t8 M 29 f g=a9 then Bv (t8 M 29) (iY M 29) r r' else iY M 29 f g)=a9:=so.cm _ m _ W;rw[S]at k3;exact kat_one _ _<|EV I sm 29 A _ _ _ _ _ _ an c B G L k1 k2 k3 _ _ _ _ h
end
section
variable{X:Cx}{pins:List (c9×d5)}{σ:St}{H:Hp}{s:f6}{ρ:List c9}{M:t7}
theorem Gi(o:SrtG M xs):(∀a∈xs,B8 M t9 a a=bt)/\(∀a∈xs,∀b∈xs,∀d∈xs,B8 M t9 a b=a9->B8 M t9 b d=a9->B8 M t9 a d=a9)/\∀a∈xs,∀b∈xs,∀d∈xs,B8 M t9 a d=a9->B8 M t9 a b=a9\/B8 M t9 b d=a9:=by obtain⟨n,e⟩:=o.od;refine⟨λa f=>?_,λa f b c d g h1 h2=>?_,λa f b c d g h=>?_⟩;rw[e a f a f,dF_<|K7 _];rw[e a f b c,o6]at h1;rw[e b c d g,o6]at h2;rw[e a f d g,o6];exact List.lt_trans h1 h2;rw[e a f d g,o6]at h;rw[e a f b c,e b c d g,o6,o6];by_cases z:n a<n b;exact .inl z;have G:n b<=n a:=z;exact .inr<|List.lt_of_le_of_lt G h
theorem Cl{k:Nat}{l:c9}{xs:List D}{F:List V}{its:List c5}{R:VK}(hr:Room k X.A)(I:q9 X pins σ H s)(sm:ve X.K ρ M H)(so:SrtG M xs)(r:Reps X.K ρ H xs F)(P:av F its)(Z:s.heap.IsList l its.toArray)(hz:F.length<=sizeLine)(h2:2<=its.length)(G:its.length<64)(E:l≠X.env.locals) (kk:∀v H',((∀Q:DK,(∀ys,ys.Perm xs->Iv M ys->Q (.ref M.length) (M++[.lst ys]))->VQ X.K ρ H Q v H'))->R v H'):f9 (h8 X.prog X.w) X.A (call (.builtin "sorted") [.ref l]) (EP X pins σ R) X.xe s:=by
 obtain⟨m,O,hm⟩:=I.loc;have lw:=r.length;have li:=P.length;obtain⟨ol,f,_⟩:=id Z;have g:∀a o,(a,o)∈[]++(l,ol)::Att.ledger s.heap X.env.locals l↔a≠X.env.locals/\s.heap.get? a=a7 o:=λa o=>by rw[G6,x6,Att.mem_ledger];constructor;rintro(h|⟨h1,_,h3⟩);cases h;exact⟨E,f⟩;exact⟨h1,h3⟩;rintro⟨h1,h2⟩;by_cases z:a=l;subst z;rw[f]at h2;cases h2;exact .inl rfl;exact .inr ⟨h1,z,h2⟩
 refine kat_sorted (Att.fr_all O) (Att.news_ledger E f) Z h2 G λD e1 h' T N lt=>?_;have kp:∀b u,b≠X.env.locals->s.heap.get? b=a7 u->h'.get? b=a7 u:=λb u J e=>(N (b,u)<|A6 _<|(g b u).mpr ⟨J,e⟩).1;have L:D≠X.env.locals:=(N _ C1).2.1;have W:s.heap.get? D=a8:=by
  cases q:s.heap.get? D with
  |none=>rfl
  |some o=>exact o5 (lt (D,o)<|(g D o).mpr ⟨L,q⟩)<|D4 _
 have I':q9 X pins σ H { s with heap:=h' }:=I.keptF (t':=s.toks) kp O T.ns;have hu:X.A.in1.in1.units+t9<j9:=by have:=hr.un;have:t9=30:=rfl;show X.A.units+1+1+t9<j9;lia
 refine E7 (mP I' sm so r P h2 hu) (λκ s' hk=>?_) λ_ _ x=>x;obtain⟨rfl,B⟩:=hk;refine Srt.wp_run (n:=its.length) (c:=λi j=>if i<xs.length then(if j<xs.length then B8 M t9 (xs.getD i default) (xs.getD j default)else a9)else bt) (λi j C hi hj Y=>?_) _ (Srt.sort_bd<|by lia).1 ?_;refine B i j C hi hj ?_;rw[o0 (by lia),o0<|by lia]at Y;exact Y;have t:=Srt.All.run (c:=λi j=>if i<xs.length then(if j<xs.length then B8 M t9 (xs.getD i default) (xs.getD j default)else a9)else bt) _ (Srt.sort_bd (n:=its.length)<|by lia).2;obtain⟨o1,o2,o3⟩:=Gi so;have d:=Srt.sort_list xs (by lia) o1 o2 o3
 try dsimp only at d
 rw[show xs.length=its.length by lia]at d t ⊢;generalize Srt.run _ (MK its.length)=p at t d ⊢;have hi:∀i∈p.toList,i<xs.length:=λi h=>by have:=t.mem_iff.mp h;rw[G4]at this;lia
 refine KasFin.intro T N (UpdF.head λq hq=>x9<|lt q hq) λh2 c F2 U=>?_;have r':=r.perm p.toList hi;have S:=P.perm p.toList (λi h=>by have:=hi i h;lia);have y:H D=a8:=D0.none I.hok W;refine⟨.ref D,_,I.laidF (t':=s.toks) (o:=.lst<|p.toList.map λi=>F.getD i .non) (λb u J e=>(U (b,u)<|A6 _<|(g b u).mpr ⟨J,e⟩).1) O F2.ns W y ⟨?_,_,c,S,(U _ C1).1⟩,rfl,kk _ _ λQ hQ=>VQ.laidL sm .refl r' y<|hQ _ d.1 d.2⟩;rw[u6];have:=d.1.length_eq;rw[u6]at this;lia
end
theorem q9.sqL_ne(I:q9 X pins σ H s)(h:I0 X.K H a xs):a≠X.env.locals:=by
 rcases h with h|⟨o,its,n,k,_⟩
 rcases h with h|⟨_,h⟩
 exact ad h I.free;exact ad h I.free;have:=v9<|I.mod.kin a o k;exact x9<|Fn this<|C7 I.ok.bsz I.ok.above
section
variable{X:Cx}
theorem By(i:Room k X.A):lV X (.builtin "sorted") ku:=by
 rintro p s σ H vs us R I j ⟨ds,M,ρ,Q,m,rs,q,c⟩;unfold ku at q;split at q;obtain⟨xs,L,d,q⟩:=q;cases rs with
 |cons r1 rs =>
  cases rs;obtain⟨u,rfl,t⟩:=av.one j;cases r1 with
  |ref e =>
   cases t;obtain⟨w,b,r⟩:=ar.seq m L e;obtain⟨its,f,l,z⟩:=I.list b;have C:=r.length;have y:=f.length;by_cases h2:its.length<2;refine rV l.isList h2 λD h' n a g B=>?_;refine⟨.ref D,_,I.laid (t':=s.toks) (o:=.lst w) g a ⟨z,its,n,f,B⟩,rfl,c _ _<|VQ.laidL m .refl r (I.hok.fresh a)<|q xs (NY _) ?_⟩;unfold Iv
   match xs,(show xs.length<2 by lia) with
   | [],_=>exact Pp
   | [x],_=>exact Ri _ _
   |_::_::_,hx=>simp at hx;lia
   have h:2<=its.length:=by lia
   have G:its.length<64:=by have:=d.len;lia
   exact Cl i I m d r f l.isList z h G (I.sqL_ne b) λv H' x=>c v H'<|x Q q
 exact q.elim
end
section
variable{prog:c8}{w:c7}{A:e9}{E:c5->f6->Prop}{s:f6}
theorem sG(h:s.heap.IsTupleIter it t i)(D:s.heap.IsTuple t items)(a:items[i]?=a7 x)(b:∀h',h'.IsTupleIter it t (i+1)->Mz it s.heap h'->Q x { s with heap:=h' }):f9 (h8 prog w) A (NG<|.ref it) Q E s:=by obtain⟨o,B,c,d⟩:=id h;obtain⟨e,f,_,n,l⟩:=D;unfold NG;refine p9<|L9 (name:=AA0 "__next__") h.typeIs F.slot_tuple_iterator_next<|G8 F.slot_tuple_iterator_next h.typeIs F.entry_tuple_iterator_next ?_<|F.args_tuple_iterator_next_1<|.ref it;refine(show f9 (h8 prog w) _ (field (.ref it) 0 >>= _) _ _ s from p9<|LS B d (x:=.ref t) rfl ?_);refine(show f9 (h8 prog w) _ (if (E1 t==H9)=a9 then _ else field (.ref it) 1 >>= _) _ _ s from ?_);rw[o4<|show ¬(E1 t==H9)=a9 from MF];refine p9<|LS B d (x:=.int i 0) rfl<|show f9 (h8 prog w) _ (seqItems? (.ref t) >>= _) _ _ s from p9<|LV f l ?_;simp only[ME,a];refine p9<|MB B d (by simp)<|t4 ⟨x,rfl,t4<|b _ ⟨_,LO _ B<|Q8<|OF d _,(Obj.cls_mapFields ..).trans c,?_⟩<|LL ..⟩;rw[OF d];simp[j4]
theorem lN(b:A.handled=a8)(h:s.heap.IsTupleIter it t i)(D:s.heap.IsTuple t items)(g:items[i]?=a8)(c:∀h' e,Heap.ExtBut it s.heap h'->(∃o,h'.get? e=a7 o/\o.cls=.type "StopIteration")->E (.ref e) { s with heap:=h' }):f9 (h8 prog w) A (NG<|.ref it) Q E s:=by
 obtain⟨o,B,j,d⟩:=id h;obtain⟨k,f,_,n,l⟩:=D;unfold NG;refine p9<|L9 (name:=AA0 "__next__") h.typeIs F.slot_tuple_iterator_next<|G8 F.slot_tuple_iterator_next h.typeIs F.entry_tuple_iterator_next ?_<|F.args_tuple_iterator_next_1<|.ref it;refine(show f9 (h8 prog w) _ (field (.ref it) 0 >>= _) _ _ s from p9<|LS B d (x:=.ref t) rfl ?_);refine(show f9 (h8 prog w) _ (if (E1 t==H9)=a9 then _ else field (.ref it) 1 >>= _) _ _ s from ?_);rw[o4<|show ¬(E1 t==H9)=a9 from MF];refine p9<|LS B d (x:=.int i 0) rfl<|show f9 (h8 prog w) _ (seqItems? (.ref t) >>= _) _ _ s from p9<|LV f l ?_;simp only[ME,g];refine p9<|L1<|p9<|MB B d (by simp)<|show f9 (h8 prog w) _ (newExc (.type "StopIteration") [] >>= _) _ _ _ from p9 ?_;simp only[newExc,newTuple];refine p9 (J1 (p9 (m:=m9 _ _)<|wpAny_of_eq (a:=H9) (by first|rfl|(simp only[m9];rfl))<|J1 ?_<|by size_fits)<|by size_fits);simp only[raiseNew];refine p9<|wpAny_handled ?_
 first|rw[show A.in1.handled=a8 from b]|rw[b]
 exact p9<|t4<|wpAny_throw<|c _ _ (((LL ..).extBut.push _).push _)<|⟨_,z0 _ rfl,rfl⟩
end
theorem vA(g:A.handled=a8)(it t:c9)(c:t≠it)(a:Array c5):Draws prog w A it [it,t] a.size (λi v=>a[i]?=a7 v) (λi h=>h.IsTupleIter it t i/\h.IsTuple t a) where
 live:=λ_ _ ⟨⟨o,B,_⟩,_⟩=>⟨o,B⟩
 frame:=λ_ _ _ ⟨h1,o,e,r⟩ k=>⟨h1.at λo e=>k it (C1) o e,o,k t (by simp) o e,r⟩
 item:=λi s Q E hi ⟨h1,h2⟩ f=>by refine sG h1 h2 (x:=a[i]) (G3 hi) λh' b u=>f _ h' s.toks (G3 hi) ⟨b,?_⟩ u;obtain⟨o,e,r⟩:=h2;exact⟨o,u.extBut _ _ c e,r⟩
 done:=λs Q E ⟨h1,h2⟩ d=>lN g h1 h2 (Oe<|u5 _) d
structure ZA(z TI TO i1 i2:c9)(f1 f2:List c9):Prop where
 nd:[z,TI,TO,i1,i2].Nodup
 z1:z∉f1
 o1:TO∉f1
 y1:i2∉f1
 z2:z∉f2
 o2:TO∉f2
 x2:i1∉f2
theorem eS{prog:c8}{w:c7}{A:e9}{it c:c9}{fp:List c9}{n k:Nat}{P:Nat->c5->Prop}{St:Nat->d6->Prop}{h h':d6}(D:Draws prog w A it fp n P St)(f:c∉fp)(hs:Heap.ExtBut c h h')(st:St k h):St k h':=D.frame k h h' st λb d o e=>hs b o (λq=>f<|q ▸ d) e
section
variable{prog:c8}{w:c7}{A:e9}{E:c5->f6->Prop}{s:f6}{z TI TO i1 i2:c9}{f1 f2:List c9}{n1 n2 k:Nat}{P1 P2:Nat->c5->Prop}{S1 S2:Nat->d6->Prop}{a b:c5}
theorem BT{Q:c5->f6->Prop}(D:Draws prog w A i1 f1 n1 P1 S1)(p:Draws prog w A i2 f2 n2 P2 S2)(Z:ZA z TI TO i1 i2 f1 f2)(hz:IsZip s.heap z TI TO .none)(I:n5 s.heap TI (.ref i1) (.ref i2))(J:n5 s.heap TO a b)(L:S1 k s.heap) (U:S2 k s.heap) (l1:k<n1) (l2:k<n2)(hQ:∀h' tk x y T,P1 k x->P2 k y->s.heap.objs.size<=T->IsZip h' z TI TO (j4 T)->n5 h' TO x y->S1 (k+1) h'->S2 (k+1) h'->n5 h' T x y->(∀c o,c≠z->c≠TO->c≠i1->c≠i2->s.heap.get? c=a7 o->h'.get? c=a7 o)->Q (.ref T) { s with heap:=h',toks:=tk }):f9 (h8 prog w) A (Builtin.«zip.__next__» ⟨[.ref z],[]⟩) (λfin s'=>∃v,fin=.done (.ret v)/\Q v s') E s:=by
 have X:=Z.nd;simp only[LX,x6,L6,or_false,not_or]at X;obtain⟨⟨aj,O,P,R⟩,⟨S,V,W⟩,⟨r,t⟩,ai,_⟩:=X;refine(show f9 (h8 prog w) A (field (.ref z) 2 >>= _) _ _ _ from p9<|LS hz rfl (x:=.bool bt) rfl ?_);refine(show f9 (h8 prog w) A (field (.ref z) 3 >>= _) _ _ _ from p9<|LS hz rfl (x:=.ref TI) rfl<|p9<|LV I rfl ?_);refine(show f9 (h8 prog w) A (QP (.ref z) >>= _) _ _ _ from p9 ?_);unfold QP;refine p9<|LS hz rfl (x:=H9) rfl<|t4 ?_;simp only[p6];refine p9<|L1<|p9<|LS hz rfl (x:=.ref TO) rfl<|p9<|OE hz (by simp) λh₁ (hz₁:IsZip h₁ z TI TO .ellipsis) hs₁=>p9 ?_;simp only[List.zipIdx_cons,List.zipIdx_nil,Pj,List.forIn_nil];refine p9<|p9<|wpAny_onRaise<|show f9 (h8 prog w) A (NG (.ref i1) >>= _) _ _ _ from p9 ?_;refine D.item k _ _ _ l1 (eS D Z.z1 hs₁.extBut L) λx u M px m h=>t4 ?_;have f:n5 u TO a b:=h.extBut _ _ r<|hs₁.extBut _ _ (w9 O) J;refine p9<|LV f rfl<|p9<|wpAny_updateSeq_pair f λh₃ (hTO₃:n5 h₃ TO x b) hs₃=>p9<|wpAny_letGo<|t4 ?_;refine p9<|p9<|wpAny_onRaise<|show f9 (h8 prog w) A (NG (.ref i2) >>= _) _ _ _ from p9 ?_;refine p.item k _ _ _ l2 (eS p Z.o2 hs₃.extBut<|eS p Z.x2 h.extBut<|eS p Z.z2 hs₁.extBut U) λy B N py n d=>t4 ?_;have g:n5 B TO x b:=d.extBut _ _ t hTO₃;refine p9<|LV g rfl<|p9<|wpAny_updateSeq_pair g λh₅ (hTO₅:n5 h₅ TO x y) hs₅=>p9<|wpAny_letGo<|t4<|t4 ?_;refine p9<|LV hTO₅ rfl<|p9<|wpAny_newTuple ?_;have i:IsZip h₅ z TI TO .ellipsis:=hs₅.extBut _ _ O<|d.extBut _ _ R<|hs₃.extBut _ _ O<|h.extBut _ _ P hz₁;have kp:∀c o,c≠z->c≠TO->c≠i1->c≠i2->s.heap.get? c=a7 o->h₅.get? c=a7 o:=λc o j C G H e=>hs₅.extBut _ _ C<|d.extBut _ _ H<|hs₃.extBut _ _ C<|h.extBut _ _ G<|hs₁.extBut _ _ j e;have sz:h₅.objs.size=s.heap.objs.size:=by rw[hs₅.1,d.1,hs₃.1,h.1];exact hs₁.1
 have t1:=eS D Z.o1 hs₅.extBut<|eS D Z.y1 d.extBut<|eS D Z.o1 hs₃.extBut m;have t2:=eS p Z.o2 hs₅.extBut n;refine(show f9 (h8 prog w) A (RK (.ref z) (.ref h₅.objs.size) >>= _) _ _ _ from p9 ?_);unfold RK;have l:IsZip (h₅.push { cls:=.type "tuple",data:=.seq #[x,y] }) z TI TO .ellipsis:=v7 _ i;refine p9<|OE l (by simp) λh₇ (hz₇:IsZip h₇ z TI TO (j4 h₅.objs.size)) hs₇=>OE hz₇ (by simp) λh₈ (hz₈:IsZip h₈ z TI TO (j4 h₅.objs.size)) hs₈=>?_;have F:∀c o,c≠z->h₅.get? c=a7 o->h₈.get? c=a7 o:=λc o j e=>hs₈.extBut _ _ j<|hs₇.extBut _ _ j<|v7 _ e;have Y:h₅.objs.size≠z:=NQ<|v9 i;refine t4 ⟨_,rfl,hQ h₈ _ x y h₅.objs.size px py (Nat.le_of_eq sz.symm) hz₈ (F _ _ (w9 O) hTO₅) ?_ ?_ (hs₈.extBut _ _ Y<|hs₇.extBut _ _ Y<|z0 _ rfl) λc o j C G H e=>F c o j<|kp c o j C G H e⟩;exact D.frame _ _ _ t1 λc K o e=>F c o (λq=>Z.z1<|q ▸ K) e;exact p.frame _ _ _ t2 λc K o e=>F c o (λq=>Z.z2<|q ▸ K) e
theorem BV{Q:Fin->f6->Prop}(D:Draws prog w A i1 f1 n1 P1 S1)(v:Draws prog w A i2 f2 n2 P2 S2)(Z:ZA z TI TO i1 i2 f1 f2)(hz:IsZip s.heap z TI TO .none)(I:n5 s.heap TI (.ref i1) (.ref i2))(J:n5 s.heap TO a b)(L:S1 k s.heap) (U:S2 k s.heap) (Y:k=n1\/(k<n1/\k=n2))(H:∀h' tk e,(∀c o,c≠z->c≠TO->c≠i1->c≠i2->s.heap.get? c=a7 o->h'.get? c=a7 o)->(∃o,h'.get? e=a7 o/\o.cls=.type "StopIteration")->E (.ref e) { s with heap:=h',toks:=tk }):f9 (h8 prog w) A (Builtin.«zip.__next__» ⟨[.ref z],[]⟩) Q E s:=by
 have X:=Z.nd;simp only[LX,x6,L6,or_false,not_or]at X;obtain⟨⟨aj,O,P,R⟩,⟨S,V,W⟩,⟨T,F⟩,ai,_⟩:=X;refine(show f9 (h8 prog w) A (field (.ref z) 2 >>= _) _ _ _ from p9<|LS hz rfl (x:=.bool bt) rfl ?_);refine(show f9 (h8 prog w) A (field (.ref z) 3 >>= _) _ _ _ from p9<|LS hz rfl (x:=.ref TI) rfl<|p9<|LV I rfl ?_);refine(show f9 (h8 prog w) A (QP (.ref z) >>= _) _ _ _ from p9 ?_);unfold QP;refine p9<|LS hz rfl (x:=H9) rfl<|t4 ?_;simp only[p6];refine p9<|L1<|p9<|LS hz rfl (x:=.ref TO) rfl<|p9<|OE hz (by simp) λh₁ (hz₁:IsZip h₁ z TI TO .ellipsis) hs₁=>p9 ?_;simp only[List.zipIdx_cons,List.zipIdx_nil,Pj,List.forIn_nil];refine p9<|p9<|wpAny_onRaise<|show f9 (h8 prog w) A (NG (.ref i1) >>= _) _ _ _ from p9 ?_;rcases Y with rfl|⟨l1,rfl⟩
 refine D.done _ _ _ (eS D Z.z1 hs₁.extBut L) ?_;rintro p e h ⟨y,f,i⟩;have m:IsZip p z TI TO .ellipsis:=h _ _ P hz₁;have t:e≠z:=λq=>by subst q;rw[m]at f;cases f;simp at i
 exact OE m (by simp) λr _ d=>H r _ e (λc o u _ G _ q=>d.extBut _ _ u<|h _ _ G<|hs₁.extBut _ _ u q) ⟨y,d.extBut _ _ t f,i⟩;refine D.item k _ _ _ l1 (eS D Z.z1 hs₁.extBut L) λx p M px C h=>t4 ?_;have g:n5 p TO a b:=h.extBut _ _ T<|hs₁.extBut _ _ (w9 O) J;refine p9<|LV g rfl<|p9<|wpAny_updateSeq_pair g λr (hTO₃:n5 r TO x b) d=>p9<|wpAny_letGo<|t4 ?_;refine p9<|p9<|wpAny_onRaise<|show f9 (h8 prog w) A (NG (.ref i2) >>= _) _ _ _ from p9 ?_;refine v.done _ _ _ (eS v Z.o2 d.extBut<|eS v Z.x2 h.extBut<|eS v Z.z2 hs₁.extBut U) ?_;rintro B e j ⟨y,f,i⟩;have n:IsZip B z TI TO .ellipsis:=j _ _ R<|d.extBut _ _ O<|h.extBut _ _ P hz₁;have t:e≠z:=λq=>by subst q;rw[n]at f;cases f;simp at i
 exact OE n (by simp) λh₅ _ l=>H h₅ _ e (λc o u K G N q=>l.extBut _ _ u<|j _ _ N<|d.extBut _ _ K<|h.extBut _ _ G<|hs₁.extBut _ _ u q) ⟨y,l.extBut _ _ t f,i⟩
end
section
variable{X:Cx}{pins:List (c9×d5)}{σ:St}{H:Hp}{s:f6}{h':d6}
theorem q9.turnedL{t':Nat}{fp:List c9}(I:q9 X pins σ H s)(h:∀b∈fp,xz X pins H b)(k:∀b o,b∉fp->s.heap.get? b=a7 o->h'.get? b=a7 o):q9 X pins σ H { s with heap:=h',toks:=t' }:=by
 have p:∀b u,H b=a7 u->b∉fp:=λb u e z=>by rw[(h b z).1]at e;cases e
 refine I.step (g':=s.gens) (d':=s.drawn) (ch:=fp) (λb d=>⟨(h b d).2.2.2.1,(h b d).2.1,(h b d).2.2.2.2.1,(h b d).2.2.2.2.2⟩) (λb o _ _ f e _=>k b o f e) (λb o _ _ f e _=>⟨o.slots,k b o f e⟩) (λ_ _ _ _ n=>n) (λb o f e=>⟨o,k b o f e⟩) (λ_ _ e=>e) (λ_ _ _ e=>e) (λb ps e=>⟨#[],by rw[e];simp⟩) (λm a=>?_) (λb u e=>?_) I.bare;obtain⟨o,es,i,B,r⟩:=a;exact⟨o,es,i,k _ o (λz=>(h _ z).2.1 rfl) B,r⟩;refine(I.hok b u e).stay (λc v f q=>k c v ?_ q) (λ_ q=>q) λ_ _ q=>q;rcases f with rfl|z;exact p _ u e;exact p _ _ z
theorem q9.turnedT{t':Nat}{fp:List c9}{T:c9}{o:HO}(I:q9 X pins σ H s)(h:∀b∈fp,xz X pins H b)(k:∀b o,b∉fp->s.heap.get? b=a7 o->h'.get? b=a7 o)(j:s.heap.objs.size<=T)(i:cH X.prog X.w (v6 H T o) h' T o):q9 X pins σ (v6 H T o) { s with heap:=h',toks:=t' }:=by
 have a:H T=a8:=I.hok.fresh j;have g:∀b u,s.heap.get? b=a7 u->b≠T:=λb u e=>x9<|Fn (v9 e) j;have p:∀b u,H b=a7 u->b∉fp:=λb u e z=>by rw[(h b z).1]at e;cases e
 refine I.step (g':=s.gens) (d':=s.drawn) (ch:=fp) (λb d=>⟨(h b d).2.2.2.1,(h b d).2.1,(h b d).2.2.2.2.1,(h b d).2.2.2.2.2⟩) (λb o _ _ f e _=>k b o f e) (λb o _ _ f e _=>⟨o.slots,k b o f e⟩) (λb u _ e n=>by rw[ag<|g b u e];exact n) (λb o f e=>⟨o,k b o f e⟩) (λb xs q=>by rw[ag<|ad q a];exact q) (λb u xs q=>by rw[ag<|ad q a];exact q) (λb ps q=>⟨#[],by rw[ag<|ad q a,q];simp⟩) (λm t=>?_) (λb u e=>?_) I.bare;obtain⟨o,es,l,B,r⟩:=t;exact⟨o,es,l,k _ o (λz=>(h _ z).2.1 rfl) B,r⟩;by_cases d:b=T;subst d;rw[aK]at e;cases e;exact i;rw[ag d]at e;refine(I.hok b u e).stay (λc v f q=>k c v ?_ q) (λc q=>by rw[ag<|ad q a];exact q) λc xs q=>by rw[ag<|ad q a];exact q
 rcases f with rfl|z;exact p _ u e;exact p _ _ z
def Sq(t:Bool)(K:u4)(H:Hp)(a:c9)(xs:List V):Prop:=if t=a9 then z7 K H a xs else I0 K H a xs
def MH(t:Bool)(h:d6)(i l:c9)(k:Nat):Prop:=if t=a9 then h.IsTupleIter i l k else h.IsListIter i l k
def Mu(t:Bool)(h:d6)(l:c9)(xs:Array c5):Prop:=if t=a9 then h.IsTuple l xs else h.IsList l xs
theorem MH.at(x:MH t h i l k)(e:∀o,h.get? i=a7 o->h'.get? i=a7 o):MH t h' i l k:=by
 cases t with
 |true=>exact(show h.IsTupleIter i l k from x).at e
 |false=>exact(show h.IsListIter i l k from x).at e
theorem MH.obj(x:MH t h i l k):∃o,h.get? i=a7 o/\∀v,o.data≠.cell v:=by
 cases t with
 |true =>
  obtain⟨o,e,c,d⟩:=(show h.IsTupleIter i l k from x)
  exact⟨o,e,λv z=>by rw[d]at z;cases z⟩
 |false =>
  obtain⟨o,e,c,d⟩:=(show h.IsListIter i l k from x)
  exact⟨o,e,λv z=>by rw[d]at z;cases z⟩
theorem Sq.is(I:q9 X pins σ H s)(h:Sq t X.K H a xs):∃its,av xs its/\Mu t s.heap a its.toArray/\xs.length<=sizeLine:=by
 cases t with
 |true=>exact I.tuple<|show z7 X.K H a xs from h
 |false=>obtain⟨its,f,p,b⟩:=I.list<|show I0 X.K H a xs from h;exact⟨its,f,p.isList,b⟩
theorem Sq.inj(I:q9 X pins σ H s)(h:Sq t X.K H a xs)(h':Sq t X.K H a ys):xs=ys:=by
 cases t with
 |true=>exact I.tuple_inj h h'
 |false=>exact I.list_inj h h'
theorem Sq.ne(I:q9 X pins σ H s)(h:Sq t X.K H a xs)(f:xz X pins H b):a≠b:=by
 have c:∀o,X.K.lookup a=a7 o->a≠b:=λo k=>by have d:=I.mod.kin a o k;rcases f.2.2.2.1 with z|z;intro q;subst q;exact I.ok.noex a o d z;exact x9<|Fn (v9 d)<|C7 I.ok.bsz z
 cases t with
 |true =>
  rcases(show z7 X.K H a xs from h)with(h|⟨_,h⟩)|⟨o,its,n,k,_⟩
  exact ad h f.1;exact ad h f.1;exact c o k
 |false =>
  rcases(show I0 X.K H a xs from h)with(h|⟨_,h⟩)|⟨o,its,n,k,_⟩
  exact ad h f.1;exact ad h f.1;exact c o k
theorem jU(a:A.handled=a8)(t:Bool)(it l:c9)(b:l≠it)(s:Array c5):Draws prog w A it [it,l] s.size (λi v=>s[i]?=a7 v) (λi h=>MH t h it l i/\Mu t h l s):=by
 cases t with
 |true=>exact vA a it l b s
 |false=>exact Draws.list a it l b s
noncomputable def RD(K:u4)(E F:Bool)(b g:c9):It:=⟨λi H=>∃xs ys x y,Sq E K H b xs/\Sq F K H g ys/\xs[i]?=a7 x/\ys[i]?=a7 y,λi H v H'=>∃T x y,v=.ref T/\H T=a8/\H'=v6 H T (.tup [x,y])/\(∀xs,Sq E K H b xs->xs[i]?=a7 x)/\∀ys,Sq F K H g ys->ys[i]?=a7 y,λi H=>∃xs ys,Sq E K H b xs/\Sq F K H g ys/\(i=xs.length\/(i<xs.length/\i=ys.length))⟩
def RC(E F:Bool)(z TI TO c d l g:c9)(i:Nat)(h:d6):Prop:=IsZip h z TI TO .none/\n5 h TI (.ref c) (.ref d)/\(∃a b,n5 h TO a b)/\MH E h c l i/\MH F h d g i
theorem Cf{P:c8}{w:c7}{K:u4}{Y:List ge}{x1:Nat}{cc:i3}{t1 t2:Bool}{z TI TO j l M G:c9}(nd:[z,TI,TO,j,l].Nodup):Turn P w K (.Tuple Y x1 cc) (RD K t1 t2 M G) [z,TI,TO,j,l] z (RC t1 t2 z TI TO j l M G) where
 mem:=C1
 obj:=λi h ⟨u,g,⟨a,b,J⟩,h1,h2⟩ c d=>by simp only[x6,L6,or_false]at d;rcases d with rfl|rfl|rfl|rfl|rfl;exact⟨_,u,λv q=>nomatch q⟩;exact⟨_,g,λv q=>nomatch q⟩;exact⟨_,J,λv q=>nomatch q⟩;exact h1.obj;exact h2.obj
 keep:=λi h h' ⟨u,g,⟨a,b,J⟩,h1,h2⟩ k=>⟨k z (by simp) _ u,k TI (by simp) _ g,⟨a,b,k TO (by simp) _ J⟩,h1.at λo e=>k j (by simp) o e,h2.at λo e=>k l (by simp) o e⟩
 item:=by
  rintro X hP hw hK d i as s σ H E I U ⟨u,g,⟨a,b,J⟩,h1,h2⟩ ⟨xs,ys,x,y,n,p,hx,hy⟩;subst hP hw hK;obtain⟨us,ru,iu,bs⟩:=n.is I;obtain⟨vs,rv,iv,bS⟩:=p.is I;have lu:=ru.length;have lv:=rv.length;have f:=U;have C:=nd;simp only[LX,x6,L6,or_false,not_or]at C;obtain⟨⟨Q,aD,L,R⟩,⟨S,V,W⟩,⟨r,t⟩,B,_⟩:=C;have a1:M≠j:=n.ne I (f j<|by simp);have a2:G≠l:=p.ne I (f l<|by simp);have Z:ZA z TI TO j l [j,M] [l,G]:=⟨nd,by simp[L,w9<|n.ne I<|f z<|by simp],by simp[r,w9<|n.ne I<|f TO<|by simp],by simp[w9 B,w9<|n.ne I<|f l<|by simp],by simp[R,w9<|p.ne I<|f z<|by simp],by simp[t,w9<|p.ne I<|f TO<|by simp],by simp[B,w9<|p.ne I<|f j<|by simp]⟩
  have ix:i<us.length:=by have:=(x5.mp hx).1;lia
  have iy:i<vs.length:=by have:=(x5.mp hy).1;lia
  have hT:s.TypeIs (.ref z) "zip":=⟨_,u,rfl⟩
  unfold j1;refine p9<|MP<|L9 (name:=AA0 "__next__") hT F.slot_zip_next<|G8 F.slot_zip_next hT F.entry_zip_next ?_<|F.args_zip_next_1<|.ref z;refine BT (k:=i) (jU (show X.A.in1.handled=a8 from I.ok.hd d) t1 j M a1 us.toArray) (jU (show X.A.in1.handled=a8 from I.ok.hd d) t2 l G a2 vs.toArray) Z u g J ⟨h1,iu⟩ ⟨h2,iv⟩ (by simpa using ix) (by simpa using iy) λh' tk px py T al an D bm ai s1 s2 hp hk=>t4 ⟨_,rfl,?_⟩;refine wpAny_letOwnedTupleGo_zip bm λh2 bo m=>?_;have ch:T≠z:=λq=>by subst q;exact o5 (v9 u)<|Nat.not_lt_of_le D
  obtain⟨N,aP,cd⟩:=ru.get hx;obtain⟨O,aS,ce⟩:=rv.get hy;have e1:N=px:=by rw[Q9,aP]at al;exact A5 al
  have e2:O=py:=by rw[Q9,aS]at an;exact A5 an
  subst e1 e2;have bl:n5 h2 T N O:=m.extBut _ _ ch hp;refine⟨.ref T,v6 H T<|.tup [x,y],?_,rfl,⟨T,x,y,rfl,I.hok.fresh D,rfl,λzs hq=>by rw[hq.inj I n];exact hx,λzs hq=>by rw[hq.inj I p];exact hy⟩,⟨bo,m.extBut _ _ (w9 Q)<|hk _ _ (w9 Q) S V W g,⟨_,_,m.extBut _ _ (w9 aD) ai⟩,s1.1.at λo e=>m.extBut _ _ (w9 L) e,s2.1.at λo e=>m.extBut _ _ (w9 R) e⟩,λc d=>?_⟩;refine I.turnedT (t':=tk) U (λc o d e=>?_) D ⟨by simp[Mc],[N,O],.cons cd<|.cons ce .nil,⟨_,bl,rfl,⟨0,rfl⟩,rfl⟩⟩;simp only[x6,L6,or_false,not_or]at d;exact m.extBut _ _ d.1<|hk _ _ d.1 d.2.2.1 d.2.2.2.1 d.2.2.2.2 e;obtain⟨oc,ec⟩:∃o,s.heap.get? c=a7 o:=by simp only[x6,L6,or_false]at d;rcases d with rfl|rfl|rfl|rfl|rfl;exact⟨_,u⟩;exact⟨_,g⟩;exact⟨_,J⟩;obtain⟨o,e,_⟩:=h1.obj;exact⟨o,e⟩;obtain⟨o,e,_⟩:=MH.obj ‹MH t2 s.heap _ G i›;exact⟨o,e⟩
  rw[ag<|x9<|Fn (v9 ec) D];exact(U c d).1
 done:=by
  rintro X hP hw hK d i as s σ H E I U ⟨u,g,⟨a,b,J⟩,h1,h2⟩ ⟨xs,ys,n,p,aj⟩;subst hP hw hK;obtain⟨us,ru,iu,bs⟩:=n.is I;obtain⟨vs,rv,iv,bS⟩:=p.is I;have lu:=ru.length;have lv:=rv.length;have f:=U;have C:=nd;simp only[LX,x6,L6,or_false,not_or]at C;obtain⟨⟨Q,aD,L,R⟩,⟨S,V,W⟩,⟨r,t⟩,B,_⟩:=C;have a1:M≠j:=n.ne I (f j<|by simp);have a2:G≠l:=p.ne I (f l<|by simp);have Z:ZA z TI TO j l [j,M] [l,G]:=⟨nd,by simp[L,w9<|n.ne I<|f z<|by simp],by simp[r,w9<|n.ne I<|f TO<|by simp],by simp[w9 B,w9<|n.ne I<|f l<|by simp],by simp[R,w9<|p.ne I<|f z<|by simp],by simp[t,w9<|p.ne I<|f TO<|by simp],by simp[B,w9<|p.ne I<|f j<|by simp]⟩
  have hT:s.TypeIs (.ref z) "zip":=⟨_,u,rfl⟩
  unfold j1;refine p9<|MP<|L9 (name:=AA0 "__next__") hT F.slot_zip_next<|G8 F.slot_zip_next hT F.entry_zip_next ?_<|F.args_zip_next_1<|.ref z;refine BV (k:=i) (jU (show X.A.in1.handled=a8 from I.ok.hd d) t1 j M a1 us.toArray) (jU (show X.A.in1.handled=a8 from I.ok.hd d) t2 l G a2 vs.toArray) Z u g J ⟨h1,iu⟩ ⟨h2,iv⟩ ?_ λh' tk e hk ⟨o,ho,bk⟩=>?_;rw[y4,y4,<-lu,<-lv];exact aj;refine p9<|Ny (T:="StopIteration") (b:=a9) ⟨o,ho,bk⟩ Pd<|t4 ⟨rfl,?_⟩;refine I.turnedL (t':=tk) U λc o d e=>?_;simp only[x6,L6,or_false,not_or]at d;exact hk _ _ d.1 d.2.2.1 d.2.2.2.1 d.2.2.2.2 e
 self:=λ_ _ _ _ _ st h=>wpAny_pyIter_zip st.1 h
end
noncomputable abbrev OP(t:Bool)(l:c9):d5:={ cls:=.type<|if t=a9 then "tuple_iterator" else "list_iterator",data:=.fields #[.ref l,.int 0 0] }
section
variable{prog:c8}{w:c7}{A:e9}{E:c5->f6->Prop}{s:f6}
theorem xc(h:Mu t s.heap l xs)(q:Q (.ref s.heap.objs.size) { s with heap:=s.heap.push (OP t l) }):f9 (h8 prog w) A (j3<|.ref l) Q E s:=by
 cases t with
 |true=>exact wpAny_pyIter_tuple (show s.heap.IsTuple l xs from h) q
 |false=>exact Qi (show s.heap.IsList l xs from h) q
noncomputable abbrev PH(h:d6)(t1:Bool)(l1:c9):d6:=h.push<|OP t1 l1
noncomputable abbrev PF(h:d6)(t1 t2:Bool)(l1 l2:c9):d6:=(PH h t1 l1).push<|OP t2 l2
noncomputable abbrev PD(h:d6)(t1 t2:Bool)(l1 l2:c9):d6:=(PF h t1 t2 l1 l2).push { cls:=.type "tuple",data:=.seq #[.ref h.objs.size,.ref (PH h t1 l1).objs.size] }
noncomputable abbrev PC(h:d6)(t1 t2:Bool)(l1 l2:c9):d6:=(PD h t1 t2 l1 l2).push { cls:=.type "tuple",data:=.seq #[.none,.none] }
noncomputable abbrev Oh(h:d6)(t1 t2:Bool)(l1 l2:c9):d6:=(PC h t1 t2 l1 l2).push { cls:=.type "zip",data:=.fields #[.none,.bool bt,.bool bt,.ref (PF h t1 t2 l1 l2).objs.size,.ref (PD h t1 t2 l1 l2).objs.size] }
theorem Mu.push(x:Mu t h l xs)(o:d5):Mu t (h.push o) l xs:=by
 cases t with
 |true=>obtain⟨u,e,r⟩:=(show h.IsTuple l xs from x);exact(show (h.push o).IsTuple l xs from⟨u,v7 _ e,r⟩)
 |false=>obtain⟨u,e,r⟩:=(show h.IsList l xs from x);exact(show (h.push o).IsList l xs from⟨u,v7 _ e,r⟩)
theorem BU(E F:Bool)(b l:c9)(xs ys:Array c5):Meets (Builtin.«zip.__new__» ⟨[.type "zip",.ref b,.ref l],[]⟩) (λ_ R s=>Mu E s.heap b xs/\Mu F s.heap l ys/\R (.ok<|.ret<|.ref (PC s.heap E F b l).objs.size) { s with heap:=Oh s.heap E F b l }):=.of_wp λe w A R s h=>by
  obtain⟨p,g,d,u,o⟩:=s;obtain⟨a,f,h⟩:=h;have c:=sub_zip;have r:Mu E (Shared.heap ⟨p,g,d,u,o⟩) b xs:=a;have m:Mu F (Shared.heap ⟨p.push<|OP E b,g,d,u,o⟩) l ys:=f.push _
  wp_walk using xc r,xc m
  exact⟨_,rfl,h⟩
theorem BA(h1:Mu t1 s.heap l1 xs)(h2:Mu t2 s.heap l2 ys)(h:∀h',RC t1 t2 (s.heap.objs.size+4) (s.heap.objs.size+2) (s.heap.objs.size+3) s.heap.objs.size (s.heap.objs.size+1) l1 l2 0 h'->(∀c o,s.heap.get? c=a7 o->h'.get? c=a7 o)->Q (.ref<|s.heap.objs.size+4) { s with heap:=h' }):f9 (h8 prog w) A (call (.type "zip") [.ref l1,.ref l2]) Q E s:=by
 refine callType_new F.called_zip (by decide) (F.typeCall_zip_2 _ _) (F.newCall_zip_2 _ _) (λj=>F.args_object_init_3 j _ _) F.entry_zip_new (BU t1 t2 l1 l2 xs ys) ⟨h1,h2,?_⟩;have z:(PH s.heap t1 l1).objs.size=s.heap.objs.size+1:=LG ..;have y:(PF s.heap t1 t2 l1 l2).objs.size=s.heap.objs.size+2:=by rw[LG,z]
 have b:(PD s.heap t1 t2 l1 l2).objs.size=s.heap.objs.size+3:=by rw[LG,y]
 have k:(PC s.heap t1 t2 l1 l2).objs.size=s.heap.objs.size+4:=by rw[LG,b]
 have p:∀{h:d6}{c:c9}{o:d5} (u:d5),h.get? c=a7 o->(h.push u).get? c=a7 o:=λu e=>v7 _ e;have g:(Oh s.heap t1 t2 l1 l2).get? (PC s.heap t1 t2 l1 l2).objs.size=a7 _:=z0 _ rfl;have d:(Oh s.heap t1 t2 l1 l2).get? (PD s.heap t1 t2 l1 l2).objs.size=a7 _:=p _<|z0 _ rfl;have g3:(Oh s.heap t1 t2 l1 l2).get? (PF s.heap t1 t2 l1 l2).objs.size=a7 _:=p _<|p _<|z0 _ rfl;have i:(Oh s.heap t1 t2 l1 l2).get? (PH s.heap t1 l1).objs.size=a7 _:=p _<|p _<|p _<|z0 _ rfl;have g1:(Oh s.heap t1 t2 l1 l2).get? s.heap.objs.size=a7 _:=p _<|p _<|p _<|p _<|z0 _ rfl;have f:∀(t:Bool) (h:d6) (a l:c9),h.get? a=a7 (OP t l)->MH t h a l 0:=λt h a l e=>by cases t<;>exact⟨_,e,rfl,rfl⟩
 show _/\_;rw[y,b,k]at g;rw[z,y]at g3;rw[b]at d;rw[z]at i;rw[k];exact⟨⟨_,g,rfl⟩,h _ ⟨g,g3,⟨_,_,d⟩,f _ _ _ _ g1,f _ _ _ _ i⟩ λc o q=>p _<|p _<|p _<|p _<|p _ q⟩
end
noncomputable def zipD(xs ys:List D):List D:=(xs.zip ys).map λp=>.tup [p.1,p.2]
def BN(M:t7)(x:D)(xs:List D)(ok:t7->Prop):Prop:=match x with
 |.tup ds=>xs=ds/\ok=λ_=>True
 |.ref n=>ar M n xs/\ok=λM=>ar M n xs
 |_=>False
def dZip(t:F7):LR:=λS M R=>t S M λds a=>match ds with
 | [x,y]=>∃xs ys o1 o2,BN a x xs o1/\BN a y ys o2/\R ⟨zipD xs ys,λM=>o1 M/\o2 M⟩ a
 |_=>False
theorem Ev:e8 "zip" = a7 (.type "zip"):=by decide +kernel
section
variable{X:Cx}
theorem BN.sq(m:ve X.K ρ M H)(h:BN M x xs ok)(r:u3 X.K ρ H x v)(e:aV v u):∃(t:Bool) (l:c9),u=.ref l/\ok M/\∀ρ' M' H',ve X.K ρ' M' H'->Grow X.K ρ H ρ' H'->ok M'->∃vs,Sq t X.K H' l vs/\Reps X.K ρ' H' xs vs:=by
 unfold BN at h;split at h;obtain⟨rfl,rfl⟩:=h;obtain⟨a,vs,rfl,q,r⟩:=u3.inv_tup r;cases e;exact⟨a9,a,rfl,trivial,λρ' M' H' s g _=>⟨vs,g.tup a vs q,r.grow g⟩⟩;obtain⟨h,rfl⟩:=h;cases r with
 |@ref n a f=>cases e;exact⟨bt,a,rfl,h,λρ' M' H' s g ok=>ar.seq s ok<|aC g.pre f⟩
 exact h.elim
theorem K4.zip{ρ:List c9}{H:Hp}{xs ys:List D}{o1 o2:t7->Prop}{E F:Bool}{l h:c9}{K:u4}(h1:∀ρ' M' H',ve K ρ' M' H'->Grow K ρ H ρ' H'->o1 M'->∃vs,Sq E K H' l vs/\Reps K ρ' H' xs vs) (h2:∀ρ' M' H',ve K ρ' M' H'->Grow K ρ H ρ' H'->o2 M'->∃vs,Sq F K H' h vs/\Reps K ρ' H' ys vs):K4 K ⟨zipD xs ys,λM=>o1 M/\o2 M⟩ ρ H (RD K E F l h) where
 go:=λi ρ' M' H' m g ok hi=>by
  obtain⟨vs,c,r⟩:=h1 ρ' M' H' m g ok.1;obtain⟨s,j,f⟩:=h2 ρ' M' H' m g ok.2;have v:i<xs.length/\i<ys.length:=by simpa [zipD,Nat.lt_min]using hi
  have t:=r.length;have k:=f.length;exact⟨vs,s,_,_,c,j,x3 (by lia),x3<|by lia⟩
 yld:=λi ρ' M' H' x A m g ok hi y=>by obtain⟨vs,c,r⟩:=h1 ρ' M' H' m g ok.1;obtain⟨s,j,f⟩:=h2 ρ' M' H' m g ok.2;obtain⟨T,a,b,rfl,n,rfl,o,p⟩:=y;obtain⟨d,q,w⟩:=r.getV<|o vs c;obtain⟨e,u,z⟩:=f.getV<|p s j;refine⟨.tup [d,e],ρ',?_,m.laid n,Grow.laid n,.tup (z7.of aK)<|.cons (w.grow<|Grow.laid n)<|.cons (z.grow<|Grow.laid n) .nil⟩;show (zipD xs ys)[i]?=_;have:(xs.zip ys)[i]?=a7 (d,e):=Ru.mpr ⟨q,u⟩;rw[zipD,C5,this];rfl
 stop:=λρ' M' H' m g ok=>by obtain⟨vs,c,r⟩:=h1 ρ' M' H' m g ok.1;obtain⟨s,j,f⟩:=h2 ρ' M' H' m g ok.2;have t:=r.length;have k:=f.length;refine⟨vs,s,c,j,?_⟩;show (zipD xs ys).length=_\/_;rw[zipD,u6,List.length_zip];lia
theorem Lh(F:X.mg "zip" = a8)(D:DA X [a,b] ta)(E:Gl X "zip":=by rfl)(hs:i5 [a,b] X.env=[(bt,eval a X.env),(bt,eval b X.env)]:=by rfl)(i:i5 [b] X.env=[(bt,eval b X.env)]:=by rfl):DI X (.Tuple elts x1 q) (.Call (.Name "zip" p) [a,b] [] pos) (dZip ta):=by
 intro l s σ H R I h;obtain⟨S,M,ρ,Q,Y,Z,G,k⟩:=h;refine Call_ (iq I E F Ev<|QK (v4 (D pos l s σ H _ I ⟨S,M,ρ,_,Y,Z,G,λv H' w=>w⟩) ?_) (by rw[hs,i])<|by rw[i];rfl);rintro us d ⟨vs,m,g,r,ds,o,e,j,g1,f,n⟩
 try dsimp only at n
 split at n;obtain⟨xs,ys,o1,o2,w1,w2,U⟩:=n
 first|have z:=Reps.inv_cons f|have z:=av.inv_cons f
 clear f;obtain⟨_,_,rfl,B,f⟩:=z
 first|have z:=Reps.inv_cons f|have z:=av.inv_cons f
 clear f;obtain⟨_,_,rfl,C,f⟩:=z;cases f
 first|have z:=Reps.inv_cons r|have z:=av.inv_cons r
 clear r;obtain⟨_,_,rfl,y,r⟩:=z
 first|have z:=Reps.inv_cons r|have z:=av.inv_cons r
 clear r;obtain⟨_,_,rfl,A,r⟩:=z;cases r;obtain⟨t1,l1,rfl,L,t⟩:=w1.sq j B y;obtain⟨t2,l2,rfl,N,u⟩:=w2.sq j C A;obtain⟨as,V,_⟩:=t e o m j .refl L;obtain⟨bs,W,_⟩:=u e o m j .refl N;obtain⟨is,_,J,_⟩:=V.is g;obtain⟨js,_,K,_⟩:=W.is g;refine BA J K λh' st P=>?_;refine wpAny_pyIter_zip st.1 ?_;have T:[d.heap.objs.size+4,d.heap.objs.size+2,d.heap.objs.size+3,d.heap.objs.size,d.heap.objs.size+1].Nodup:=by simp
 refine⟨d.heap.objs.size+4,_,_,_,m,rfl,g.kept (t':=d.toks) P,Cf T,st,λc x=>?_,k _ m ⟨_,o,e,j,g1,K4.zip t u,U⟩⟩;have O:d.heap.objs.size<=c:=by simp only[x6,L6,or_false]at x;rcases x with rfl|rfl|rfl|rfl|rfl<;>first|exact OA _ _|exact u5 _
 exact g.fpOk O<|g.hok.fresh O;exact n.elim
end
section
variable{X:Cx}{e:ge}{te:v5}{pos p2:i3}
theorem Reps.reverse{K:u4}{ρ:List c9}{H:Hp}:∀{ds:List D}{vs:List V},Reps K ρ H ds vs->Reps K ρ H ds.reverse vs.reverse
 |_,_,.nil=>.nil
 |_,_,.cons h r=>by simp only[Qj];exact r.reverse.append<|.cons h .nil
end
section
variable{X:Cx}
def mS(z:c6):C6:=λds M Q=>match ds with
 | [.str y]=>Q (.bl<|Ox z y) M
 |_=>False
theorem Aq:LD X "str.startswith" (Dd X.K mS):=by
 rintro p s σ H x xs v us R I g a ⟨z,ds,M,ρ,Q,c,m,f,q,k⟩;subst c;obtain⟨t,rfl⟩:=g;unfold mS at q;split at q
 first|have h:=Reps.inv_cons f|have h:=av.inv_cons f
 clear f;obtain⟨_,_,rfl,r,f⟩:=h;cases f;cases r;obtain⟨u,rfl,t',rfl⟩:=av.one a;exact PySem.SC.startswith ⟨.bl _,H,I,rfl,k _ H<|VQ.now m (.bl _) q⟩
 exact q.elim
def se(z:c6):C6:=λds M Q=>match ds with
 | [.str y]=>(y.length≠0/\z.length<=sizeLine/\(J0 z y).length<=sizeLine)/\Q (.ref M.length) (M++[.lst<|(J0 z y).map .str])
 |_=>False
theorem qS:∀(tk:Nat) (xs:List c6),av (xs.map V.str) (strsFrom tk xs)
 |_,[]=>.nil
 |tk,x::xs=>.cons ⟨_,rfl⟩<|qS (tk+1) xs
theorem sd{K:u4}{ρ:List c9}{H:Hp}:∀xs:List c6,Reps K ρ H (xs.map D.str) (xs.map V.str)
 | []=>.nil
 |x::xs=>.cons (.str x)<|sd xs
theorem CZ:LD X "str.split" (Dd X.K se):=by
 rintro c s σ H x xs v us R I A w ⟨z,ds,M,ρ,Q,j,B,f,q,k⟩;subst j;obtain⟨t,rfl⟩:=A;unfold se at q;split at q;rename_i y;obtain⟨⟨O,l,i⟩,q⟩:=q
 first|have a:=Reps.inv_cons f|have a:=av.inv_cons f
 clear f;obtain⟨_,_,rfl,m,f⟩:=a;cases f;cases m;obtain⟨u,rfl,t',rfl⟩:=av.one w;have n:∀(p:List c6) (us:List c5) (g:Nat),J0 z y=p->av (p.map V.str) us->EP X c σ R (.ref s.heap.objs.size) { s with toks:=g,heap:=s.heap.push { cls:=.type "list",data:=.seq us.toArray } }:=λp us g e r=>by subst e;exact⟨.ref _,_,I.laid (t':=g) (o:=.lst<|(J0 z y).map V.str) (λb C q=>v7 _ q) (u5 _) ⟨by rw[u6];exact i,us,0,r,z0 _ rfl⟩,rfl,k _ _<|VQ.laidL B .refl (sd _) (I.hok.fresh<|u5 _) q⟩
 have h:(y.length==0)=bt:=by simpa using O
 cases h1:(decide (z.length<y.length)||decide (NF z<NF y));cases d:(QA z y 0 z.length<|z.length+1).isEmpty;have e:J0 z y=Builtin.Str.partsBetween z (QA z y 0 z.length<|z.length+1) y.length:=by unfold J0;rw[h1,d];rfl
 exact m5 F.slot_str_split (l5 _ _ _) F.entry_str_split (F.args_str_split_2 _ _) (meets_str_split_sep z y t t' h1 h d l<|by rw[<-e];exact i)<|n _ _ _ e<|qS _ _;have e:J0 z y=[z]:=by unfold J0;rw[h1,d];rfl
 exact m5 F.slot_str_split (l5 _ _ _) F.entry_str_split (F.args_str_split_2 _ _) (meets_str_split_not_found z y t t' h1 h d)<|n _ [.str z t] s.toks e<|.cons ⟨_,rfl⟩ .nil;have e:J0 z y=[z]:=by unfold J0;rw[h1];rfl
 exact m5 F.slot_str_split (l5 _ _ _) F.entry_str_split (F.args_str_split_2 _ _) (meets_str_split_cannot_occur z y t t' h1)<|n _ [.str z t] s.toks e<|.cons ⟨_,rfl⟩ .nil;exact q.elim
end
section
variable{prog:c8}{w:c7}{A:e9}{E:c5->f6->Prop}{s:f6}
theorem uU{D:c9}{vs:List c5}{n:Nat}{Q:c5->f6->Prop}(B:s.heap.get? D=a7 (m8 "list" vs.toArray n))(h2:vs.length<2)(h:∀h' c,(∀b o,b≠D->s.heap.get? b=a7 o->h'.get? b=a7 o)->h'.get? D=a7 (m8 "list" vs.toArray c)->Q .none { s with heap:=h' }):f9 (h8 prog w) A (call (.builtin "list.sort") [.ref D]) Q E s:=by
 have f:vs.length<=sizeLine:=by rw[Mc];lia
 refine G8 slot_list_sort (⟨_,B,rfl⟩) entry_list_sort ?_<|args_list_sort<|.ref D;rw[list_sort_plain];refine p9<|Ot B rfl<|p9<|NU B rfl ?_ (by rw[y4];exact f)<|z8 _;obtain⟨k,e⟩:∃k,(s.heap.update D<|F9 λ_=>(#[]:Array c5)).get? D=a7 (m8 "list" #[] k):=⟨_,N0 B λ_=>#[]⟩
 refine p9<|seqEpoch_at e rfl<|p9<|wpAny_newTuple (p9<|NV (E2 ?_)<|z8 _) f;dsimp only;have g:vs.toArray.size<2:=by rw[y4];exact h2
 rw[o0 g,o0 g];refine p9<|t4 ?_;rw[StateT.run_pure];refine p9<|t4 ?_;dsimp only;generalize d:((s.heap.update D<|F9 λ_=>(#[]:Array c5)).push<|m8 "tuple" vs.toArray 0).push (m8 "list" #[] 0)=g3;have a:g3.get? D=a7 (m8 "list" #[] k):=by rw[<-d];exact v7 _<|v7 _ e
 have m:∀b o,b≠D->s.heap.get? b=a7 o->g3.get? b=a7 o:=λb o i q=>by rw[<-d];refine v7 _<|v7 _ ?_;rw[Od _ _ _ _ i];exact q
 refine p9<|seqEpoch_at a rfl ?_;have r:∀us:List c5,us.length<2->(us.toArray.zip us.toArray).map (·.2)=us.toArray:=λus hu=>by
  match us,hu with
  | [],_=>simp
  | [v],_=>simp
  |_::_::_,hu=>simp at hu;lia
 have t:(arrOf<|SortSt.mk' general' (vs.toArray.zip vs.toArray) #[] 7 a8).map (·.2)=vs.toArray:=r vs h2;rw[t];refine p9 (NU a rfl ?_ (z8 _)<|by rw[y4];exact Nat.le_succ_of_le f);simp only[show failedOf (SortSt.mk' general' (vs.toArray.zip vs.toArray) #[] 7 a8)=a8 from rfl,bne_self_eq_false,A9,p5];obtain⟨j,l⟩:∃j,(g3.update D<|F9 λ_=>vs.toArray).get? D=a7 (m8 "list" vs.toArray j):=⟨_,N0 a λ_=>vs.toArray⟩
 refine t4 ⟨_,rfl,h _ j (λb o i q=>?_) l⟩;rw[Od _ _ _ _ i];exact m b o i q
end
section
variable{X:Cx}{pins:List (c9×d5)}{σ:St}{H:Hp}{s:f6}{ρ:List c9}{M:t7}
theorem FC{k:Nat}{D:c9}{xs:List L2.D}{P:List V}{its:List c5}{R:VK}{h1:d6}{tk n:Nat}{m:c6->Option c5}{A:e9}{E:c5->f6->Prop}(hr:Room k X.A)(hA:A.units<=X.A.units+4)(I:q9 X pins σ H s)(sm:ve X.K ρ M H)(so:SrtG M xs)(r:Reps X.K ρ H xs P)(O:av P its)(T:s.heap.Ns X.env.locals m) (N:h1.Ns X.env.locals m) (l:∀b u,b≠X.env.locals->s.heap.get? b=a7 u->h1.get? b=a7 u) (J:s.heap.get? D=a8) (F:D≠X.env.locals) (ho:h1.get? D=a7 (m8 "list" its.toArray n))(kk:∀v H',((∀Q:DK,(∀ys,ys.Perm xs->Iv M ys->Q (.ref M.length) (M++[.lst ys]))->VQ X.K ρ H Q v H'))->R v H'):f9 (h8 X.prog X.w) A (call (.builtin "list.sort") [.ref D]) (λ_ s'=>EP X pins σ R (.ref D) s') E { s with heap:=h1,toks:=tk }:=by
 have lw:=r.length;have li:=O.length;have ai:=so.len;have L:H D=a8:=D0.none I.hok J;have y:∀b u,s.heap.get? b=a7 u->b≠D:=λb u e q=>by subst q;rw[J]at e;cases e
 by_cases h2:its.length<2;refine uU ho h2 λh' c G Y=>?_;have W:h'.Ns X.env.locals m:=by obtain⟨o,es,ep,e,bf⟩:=N;exact⟨o,es,ep,G _ _ (w9 F) e,bf⟩
 refine⟨.ref D,_,I.laidF (t':=tk) (o:=.lst P) (λb u g e=>G b u (y b u e)<|l b u g e) T W J L ⟨by rw[Mc];lia,its,c,O,Y⟩,rfl,kk _ _ λQ S=>VQ.laidL sm .refl r L<|S xs (NY _) ?_⟩;unfold Iv
 match xs,(show xs.length<2 by lia) with
 | [],_=>exact Pp
 | [x],_=>exact Ri _ _
 |_::_::_,hx=>simp at hx;lia
 have z:2<=its.length:=by lia
 have f:∀a o,(a,o)∈Att.ledger h1 X.env.locals D↔a≠X.env.locals/\a≠D/\h1.get? a=a7 o:=λa o=>Att.mem_ledger;have U:UpdF D (m8 "list" its.toArray n) ([]++(D,m8 "list" its.toArray n)::Att.ledger h1 X.env.locals D) λo'=>(D,o')::Att.ledger h1 X.env.locals D:=UpdF.head λp hp=>((f p.1 p.2).mp hp).2.1;refine kat_lsort (s:={ s with heap:=h1,toks:=tk }) (vs:=its) (Att.fr_all N) (Att.news_ledger F ho) U rfl z (by lia) λe1 h' F' N'=>?_;have kp:∀b u,b≠X.env.locals->s.heap.get? b=a7 u->h'.get? b=a7 u:=λb u g e=>(N' (b,u)<|A6 _<|(f b u).mpr ⟨g,y b u e,l b u g e⟩).1;have I':q9 X pins σ H { s with heap:=h',toks:=tk }:=I.keptF (t':=tk) kp T F'.ns;have hu:A.in1.units+t9<j9:=by have:=hr.un;have:t9=30:=rfl;show A.units+1+t9<j9;lia
 refine E7 (mP I' sm so r O z hu) (λκ s' hk=>?_) λ_ _ x=>x;obtain⟨rfl,B⟩:=hk;refine Srt.wp_run (n:=its.length) (c:=λi j=>if i<xs.length then(if j<xs.length then B8 M t9 (xs.getD i default) (xs.getD j default)else a9)else bt) (λi j C hi hj hc=>?_) _ (Srt.sort_bd<|by lia).1 ?_;refine B i j C hi hj ?_;rw[o0 (by lia),o0<|by lia]at hc;exact hc;have t:=Srt.All.run (c:=λi j=>if i<xs.length then(if j<xs.length then B8 M t9 (xs.getD i default) (xs.getD j default)else a9)else bt) _ (Srt.sort_bd (n:=its.length)<|by lia).2;obtain⟨o1,o2,o3⟩:=Gi so;have d:=Srt.sort_list xs (by lia) o1 o2 o3
 try dsimp only at d
 rw[show xs.length=its.length by lia]at d t ⊢;generalize Srt.run _ (MK its.length)=p at t d ⊢;have hi:∀i∈p.toList,i<xs.length:=λi h=>by have:=t.mem_iff.mp h;rw[G4]at this;lia
 refine KasFin.intro F' N' (UpdF.head λq hq=>((f q.1 q.2).mp hq).2.1) λh2 c F2 N2=>?_;have r':=r.perm p.toList hi;have Z:=O.perm p.toList (λi h=>by have:=hi i h;lia);refine⟨.ref D,_,I.laidF (t':=tk) (o:=.lst<|p.toList.map λi=>P.getD i .non) (λb u g e=>(N2 (b,u)<|A6 _<|(f b u).mpr ⟨g,y b u e,l b u g e⟩).1) T F2.ns J L ⟨?_,_,c,Z,(N2 _ C1).1⟩,rfl,kk _ _ λQ S=>VQ.laidL sm .refl r' L<|S _ d.1 d.2⟩;rw[u6];have:=d.1.length_eq;rw[u6]at this;rw[Mc];lia
end
section
variable{K:u4}{ρ:List c9}{H:Hp}{M:t7}
theorem ve.laidM(S:ve K ρ M H)(c:H p=a8)(ok:yL K (ρ++[p]) (v6 H p o) p mo):ve K (ρ++[p]) (M++[mo]) (v6 H p o):=by
 have g:Grow K ρ H (ρ++[p]) (v6 H p o):=Grow.laidR c;have d:∀(n:Nat),ρ[n]?=a7 p->LY M[n]?:=λn e=>by rcases S.tracked e with⟨o,q⟩|q;rw[c]at q;cases q;exact q
 refine⟨λn m a h t l=>?_,by rw[A1,A1,S.len];rfl,λn a i t l=>?_⟩;rcases be t with f|⟨f,g1⟩
 rcases be l with b|⟨b,j⟩
 exact(S.nd n m a h f b).elim (λz=>.inl z.more) λz=>.inr z.more;subst j;exact .inl (d n f).more;rcases be l with b|⟨b,j⟩
 subst g1;exact .inr (d m b).more;exact o5 (f.trans b.symm) h;rcases be t with f|⟨f,g1⟩
 have k:n<M.length:=by rw[<-S.len];exact(x5.mp f).1
 rw[J2 k]at l;exact(S.obj n a i f l).grow g<|S.keeps c f l;subst g1 f;rw[S.len,Mf<|u5 _,Nr]at l;simp at l;subst l;exact ok
theorem z7.writtenD(b:H p=a7 (.dK kv))(h:z7 K H a xs):z7 K (v6 H p o) a xs:=by
 rcases h with h|h;rcases h with h|⟨c,h⟩
 exact .inl (.inl<|by rw[ag<|xW h b<|by intro z;cases z];exact h);exact .inl<|.inr ⟨c,by rw[ag<|xW h b<|by intro z;cases z];exact h⟩;exact .inr h
theorem ve.writeD(S:ve K ρ M H)(t:ρ[n]?=a7 a)(u:M[n]?=a7 (.dct kvs))(s:H a=a7 (.dK kv))(r:Reps K ρ H (kvs'.map (·.2)) vs'):ve K ρ (M.set n<|.dct kvs') (v6 H a (.dK (jb (kvs'.map (·.1)) vs')))/\Grow K ρ H ρ (v6 H a (.dK (jb (kvs'.map (·.1)) vs'))):=by
 have g:Grow K ρ H ρ (v6 H a (.dK (jb (kvs'.map (·.1)) vs'))):=⟨N1,λ_ _ h=>z7.writtenD s h⟩
 have k:∀m,m≠n->(M.set n<|.dct kvs')[m]?=M[m]?:=λm e=>L8<|w9 e;have c:¬LY M[n]?:=λ⟨_,z⟩=>by rw[u]at z;cases z
 refine⟨⟨λm l b i d f=>?_,by rw[J7];exact S.len,λm b o d f=>?_⟩,g⟩;have q:=S.nd m l b i d f;by_cases h1:m=n;subst h1;rw[k l<|w9 i];exact .inr<|q.resolve_left c;rw[k m h1];by_cases h2:l=n;subst h2;exact .inl<|q.resolve_right c;rw[k l h2];exact q;by_cases e:m=n;subst e;have j:b=a:=A5<|d.symm.trans t;subst j;rw[Mr<|by rw[<-S.len];exact(x5.mp t).1]at f;cases f;exact⟨vs',aK,r.grow g⟩;rw[k m e]at f;by_cases j:b=a;subst j;have p:=(S.nd m n b e d t).resolve_right c;rw[f]at p;exact(S.obj m b o d f).grow g<|.inr p;exact(S.obj m b o d f).grow g<|.inl<|ag j
noncomputable def fS(kvs:List (c6×D))(k:c6):Option D:=(kvs.find? λp=>decide<|p.1=k).map (·.2)
noncomputable def mU(kvs:List (c6×D))(k:c6)(d:D):List (c6×D):=if (kvs.any λp=>decide<|p.1=k)=a9 then kvs.map (λp=>if p.1=k then(p.1,d)else p)else kvs++[(k,d)]
theorem Hb(a b:c6):decide ((ABh a:C9)=ABh b)=decide (a=b):=Fe a b
theorem jg:∀{kvs:List (c6×D)}{vs:List V},Reps K ρ H (kvs.map (·.2)) vs->fS kvs k=a7 d->∃v,vQ (jb (kvs.map (·.1)) vs) (ABh k)=a7 v/\u3 K ρ H d v
 | [],_,_,e=>by simp[fS]at e
 |(k',d')::kvs,_,.cons h t,e=>by
  by_cases q:k'=k;subst q;have:d'=d:=by simpa [fS]using e
  subst this;exact⟨_,by simp[jb,vQ],h⟩;have e':fS kvs k=a7 d:=by simpa [fS,L4,q]using e
  obtain⟨v,h1,h2⟩:=jg t e';refine⟨v,?_,h2⟩;have:¬(ABh k':C9)=ABh k:=λz=>q<|Sum.inr.inj z;simpa [jb,vQ,L4,this]using h1
theorem xv:∀{kvs:List (c6×D)}{vs:List V},Reps K ρ H (kvs.map (·.2)) vs->((jb (kvs.map (·.1)) vs).any λkv=>decide<|kv.1=ABh k)=kvs.any λp=>decide (p.1=k)
 | [],_,_=>rfl
 |(k',d')::kvs,_,.cons h t=>by
  have ih:=xv (k:=k) t;show (decide ((ABh k':C9)=ABh k)||(jb (kvs.map (·.1)) _).any _)=(decide (k'=k)||kvs.any _)
  rw[ih,Hb]
theorem wX(hd:u3 K ρ H d v):∀{kvs:List (c6×D)}{vs:List V},Reps K ρ H (kvs.map (·.2)) vs->∃vs',(jb (kvs.map (·.1)) vs).map (λkv=>if kv.1=ABh k then(kv.1,v)else kv)=jb ((kvs.map λp=>if p.1=k then(p.1,d)else p).map (·.1)) vs'/\Reps K ρ H ((kvs.map λp=>if p.1=k then(p.1,d)else p).map (·.2)) vs'
 | [],_,.nil=>⟨[],rfl,.nil⟩
 |(k',d')::kvs,_,.cons (v:=v') h t=>by obtain⟨vs',e,r⟩:=wX (k:=k) hd t;by_cases q:k'=k;subst q;refine⟨v::vs',?_,?_⟩;simp only[C0,p6,jb,Ob]at e ⊢;rw[e];simp only[C0,p6];exact .cons hd r;have q':¬(ABh k':C9)=ABh k:=λz=>q<|Sum.inr.inj z;refine⟨v'::vs',?_,?_⟩;simp only[C0,o4 q,o4 q',jb,Ob]at e ⊢;rw[e];simp only[C0,o4 q];exact .cons h r
theorem rW:∀{kvs:List (c6×D)}{vs:List V},Reps K ρ H (kvs.map (·.2)) vs->jb (kvs.map (·.1)) vs++[(ABh k,v)]=jb (kvs.map (·.1)++[k]) (vs++[v])
 | [],_,.nil=>rfl
 |(k',d')::kvs,_,.cons h t=>by have:=rW (k:=k) (v:=v) t;simp only[C0,jb,Ob,Qa]at this ⊢;rw[this]
theorem zR(h:u3 K ρ H d v)(r:Reps K ρ H (kvs.map (·.2)) vs):∃vs',putK (jb (kvs.map (·.1)) vs) (ABh k) v=jb ((mU kvs k d).map (·.1)) vs'/\Reps K ρ H ((mU kvs k d).map (·.2)) vs':=by unfold putK mU;rw[xv r];by_cases q:(kvs.any λp=>decide<|p.1=k)=a9;rw[o0 q,o0 q];exact wX h r;rw[o4 q,o4 q];refine⟨vs++[v],?_,?_⟩;rw[rW r,G5];rfl;rw[G5];exact r.append<|.cons h .nil
end
section
variable{X:Cx}{o i value:ge}{td ty tv:v5}{pos pos':i3}
def Em:v5:=λ_ M Q=>Q (.ref M.length)<|M++[.dct []]
theorem Lr:DE X (.Dict [] [] pos) Em:=by refine PE.imp CG ?_;rintro σ H R ⟨S,M,ρ,Q,s,e,q,k⟩;refine λp h=>?_;have j:Q (.ref M.length) (M++[.dct []]):=q;exact k _ _ ⟨.ref M.length,M++[.dct []],ρ++[p],s.laidM (mo:=.dct []) h ⟨[],aK,.nil⟩,Grow.laidR h,.ref s.last,j⟩
def En(t c:v5):v5:=λS M Q=>t S M λx a=>c S a λy b=>match x,y with
 |.ref n,.str k=>∃s d,b[n]?=a7 (.dct s)/\fS s k=a7 d/\Q d b
 |_,_=>False
theorem Ls(x:X.A.units+1<j9)(B:DE X o td)(hi:DE X i ty)(hs:Iw i):DE X (.Subscript o i pos) (En td ty):=by
 refine PE.imp (FZ x B hi hs) ?_;rintro σ H R ⟨S,M,ρ,Q,s,r,q,k⟩;refine⟨S,M,ρ,_,s,r,q,?_⟩;rintro v J ⟨d,h,c,I,g1,E,C⟩;refine⟨S,h,c,_,I,r.grow g1,C,?_⟩;rintro u K ⟨e,l,a,f,g,F,j⟩
 try dsimp only at j
 split at j;obtain⟨z,d,n,y,D⟩:=j;obtain⟨_,rfl,p⟩:=u3.inv_ref E;cases F;obtain⟨vs,m,G⟩:=f.obj _ _ _ (aC g.pre p) n;obtain⟨w,t,b⟩:=jg G y;exact⟨_,w,rfl,.inl ⟨_,ABh _,.inl m,rfl,t.symm⟩,k _ _ ⟨d,l,a,f,g1.trans g,b,D⟩⟩;exact j.elim
end
structure PR(X:Cx)(es:List ge)(t:Fo):Prop where
 ok:O4 X es t
section
variable{X:Cx}{e a b c o i tg:ge}{es bf:List ge}{te ta tb tc to ti:v5}{t:F7}{pos p p2 pos':i3}{x:c6}{k:Nat}{g:J4}{u:Fo}{name:c6}{apos cpos:i3}
theorem GO:PR X [] jW:=⟨HL⟩
theorem Dt(h1:HG X e g)(h2:PR X es u)(hs:(j0 (e::es) X.env).map (·.2)=i9 e X.env::(j0 es X.env).map (·.2):=by kernel_rfl):PR X (e::es) (aT g u):=⟨Eh h1.ok h2.ok hs⟩
theorem Ke(h:PR X es u)(f:X.calm=a9:=by kernel_rfl)(a:(j0 es X.env).length=n:=by kernel_rfl)(c:(j0 es X.env).findIdx? (·.1)=a8:=by kernel_rfl):HG X (.Tuple es j pos) (jV n u):=⟨Lj h.ok f a c⟩
theorem Kf(B:HE X o to)(hi:HE X i ti)(f:∀v,i9 (.Subscript o i pos) X.env v=(do
   let ov <-i7 [v] (eval o X.env)
   let iv <-i7 [v,ov] (eval i X.env)
   standAt pos
   i7 [v,ov,iv] (setItem ov iv v)
   release [v,ov,iv] []):=by intro _;kernel_rfl):HG X (.Subscript o i pos) (Ei to ti):=⟨Lk B.ok hi.ok f⟩
theorem Fd(i:HE X e te)(S:HG X tg g)(hs:swapsWithSole [tg] e pos.line X.env=pure bt:=by kernel_rfl)(w:swappedStores [tg] e X.env=pure a8:=by kernel_rfl)(h1:(j0 [tg] X.env).map (·.2)=[i9 tg X.env]:=by kernel_rfl):HS X (.Assign [tg] e pos) (Iu te g):=⟨Lg i.ok S.ok hs w h1⟩
theorem Kc(d:X.mg "zip" = a8)(f:HA X [a,b] t)(S:X.env.kindOf "zip" = a7 .globalImplicit:=by kernel_rfl)(hs:i5 [a,b] X.env=[(bt,eval a X.env),(bt,eval b X.env)]:=by kernel_rfl)(c:i5 [b] X.env=[(bt,eval b X.env)]:=by kernel_rfl):HI X (.Tuple es x1 q) (.Call (.Name "zip" p) [a,b] [] pos) (dZip t):=⟨Lh d f.ok S hs c⟩
theorem Hg:G1 X (j6 .Add) bn:=⟨Gu⟩
theorem DN:HC X (.type "tuple") jH:=⟨Ep⟩
theorem Ba:QY X "startswith" mS:=⟨_,PySem.F.slot_str_startswith,PySem.F.type_str_startswith,Aq⟩
theorem DF:QY X "split" se:=⟨_,PySem.F.slot_str_split,PySem.F.type_str_split,CZ⟩
theorem Bb:O2 X "extend" mT:=⟨_,PySem.F.slot_list_extend,PySem.F.type_list_extend,xZ⟩
def jI(n:Nat):C6:=λds M Q=>match ds with
 | []=>∃xs,M[n]?=a7 (.lst xs)/\Q .non (M.set n<|.lst xs.reverse)
 |_=>False
theorem uP:LD X "list.reverse" (nW X.K jI):=by rintro p s σ H x xs v us R I g d ⟨n,a,ds,M,ρ,Q,c,f,m,b,q,k⟩;unfold jI at q;split at q;obtain⟨ys,e,q⟩:=q;cases b;obtain⟨vs,h,r⟩:=m.obj n a _ f e;obtain⟨L,w⟩:=m.write f e h r.reverse;exact xY p s σ H x _ v us R I g d ⟨a,vs,c,rfl,h,k _ _ ⟨.non,_,ρ,L,w,.non,q⟩⟩;exact q.elim
theorem yq:O2 X "reverse" jI:=⟨_,PySem.F.slot_list_reverse,PySem.F.type_list_reverse,uP⟩
def dMl0(r:Nat->C6)(e:v5):v5:=λS M Q=>e S M λx a=>match x with
 |.ref n=>(∃xs,ar a n xs)/\r n [] a Q
 |_=>False
theorem k_ml0(m:O2 X name r)(B:HE X o to)(e:l8 o name X.env (eval o X.env)=eval o X.env:=by kernel_rfl)(h:(apos.endLine==cpos.line)=a9:=by kernel_rfl):HE X (.Call (.Attribute o name apos) [] [] cpos) (dMl0 r to):=by
 obtain⟨id,h1,h2,j⟩:=m.ok;refine⟨PE.imp (Jv PySem.F.plainAttrs_list h1 h2 j B.ok e h) ?_⟩;rintro σ H R ⟨S,M,ρ,Q,s,t,q,k⟩;refine⟨S,M,ρ,_,s,t,q,?_⟩;rintro v u ⟨d,b,f,i,g1,p,c⟩;cases p with
 |@ref n a g =>
  obtain⟨⟨xs,L⟩,c⟩:=(show (∃xs,ar b n xs)/\r n [] b _ from c)
  obtain⟨vs,l,_⟩:=ar.seq i L g;exact⟨.inl ⟨rfl,vs,l⟩,n,a,[],b,f,Q,rfl,g,i,.nil,c,λv H' w=>k v H'<|VQ.trans g1 w⟩
 |_=>exact c.elim
theorem Ko:HE X (.Dict [] [] pos) Em:=⟨Lr⟩
theorem Ct(i:Room k X.A):X.A.units+1<j9:=by have:=i.un;lia
theorem Kp(r:Room k X.A)(B:HE X o to)(hi:HE X i ti)(hs:Iw i:=by intro _ _;kernel_rfl):HE X (.Subscript o i pos) (En to ti):=⟨Ls (Ct r) B.ok hi.ok hs⟩
end
section
variable{X:Cx}
def IN(t:Nat)(s:List Nat)(wi:TI)(g:TG)(tt:TT)(te:TE)(N:TG):TS:=λD σ H=>QR t s wi g tt te σ H λv a=>N v σ a D.nx
theorem Cz(B:BlkSc X N' nt js scope)(hc:X.calm=a9)(hi:PI X tg iter wi)(hg:∀cl s0 H0 ex,PG (A3 X N' scope cl s0 H0 ex) tg g) (ht:∀cl s0 H0 ex,MS (A3 X N' scope cl s0 H0 ex) ifs tt) (he:∀cl s0 H0 ex,PE (A3 X N' scope cl s0 H0 ex) elt te) (hn:PG X (.Name x pos') gN)(hs:∀x,j5 iter X.env x=pure x) (an:i8 (.ListComp elt [⟨tg,iter,ifs,0⟩] scope pos) (a7<|.Name x pos') pos2.line X.env=pure a9):PS X (.Assign [.Name x pos'] (.ListComp elt [⟨tg,iter,ifs,0⟩] scope pos) pos2) (IN nt js wi g tt te gN):=by
 intro f s σ H Dn I h;rw[exec_Assign_Name_used _ _ _ _ an];refine p9<|wpAny_standAt ?_;obtain⟨cl,V,j,E⟩:=lD (scope:=scope) (env:=X.env) λp l hf=>I.ok.has p.1<|B.free p l hf;refine p9<|show f9 (h8 X.prog X.w) X.A (comprehension (.ListComp elt [⟨tg,iter,ifs,0⟩] scope pos) scope X.env _ (newList []) bt (eval iter X.env) (a7<|i9 (.Name x pos') X.env) >>= λ_=>pure ()) _ _ _ from p9 ?_;refine wpAny_comprehension_free (use:=a7<|i9 (.Name x pos') X.env) (Q:=λ_ u=>f9 (h8 X.prog X.w) X.A (pure ()) (λ_ s3=>f9 (h8 X.prog X.w) X.A (pure Flow.next) (SP X f Dn) X.xe s3) X.xe u) rfl hs V B.kind B.loc ?_;refine v4 (hi f s σ H _ I h) λv s1 h1=>v4 h1 λaD a h2=>?_;obtain⟨it,fp,tn,J,H2,e,m,T,U,M,W,⟨m0,w0⟩,N⟩:=h2;subst e;refine J1<|wpAny_newFunctionEnv B.nocell (by intro y hy;simp at hy) (λh1 F G=>?_) B.kind;have r:∀b∈fp,b<a.heap.objs.size:=λb i=>by obtain⟨o,e,_⟩:=T.obj _ _ U b i;exact v9 e
 have hC:(a.heap.push<|cW [] 0).objs.size=a.heap.objs.size+1:=LG ..;have K:∀b o,(a.heap.push<|cW [] 0).get? b=a7 o->h1.get? b=a7 o:=λb o e=>(G.2 b<|x9<|v9 e).trans<|v7 _ e;have I3:=m.blkStart (tk:=a.toks+([]:List (c6×c5)).length) B j E M r K F;have L:tn 0 h1:=T.keep _ _ _ U λb _ o e=>K b o<|v7 _ e;have ai:a.heap.objs.size∉fp:=λz=>D4 _<|r _ z;have aj:a.heap.objs.size∉K1 X.stack:=λz=>by rcases x6.mp (m.stkSub _ z)with q|q;exact o5 m.lt (by rw[<-q];exact D4 _);exact m.nofs (u5 _) q
 have D:a.heap.objs.size≠(a.heap.push<|cW [] 0).objs.size:=by rw[hC];exact x9<|LI _
 have ltc:∀z c,cl.lookup z=a7 c->c<a.heap.objs.size:=λz c e=>by obtain⟨v,q⟩:=m.cell z c<|j z c e;exact q.lt
 have t:∀b∈fp,b≠(a.heap.push<|cW [] 0).objs.size/\b∉K1 X.stack/\∀x c,cl.lookup x=a7 c->c≠b:=λb i=>by refine⟨by rw[hC];exact x9<|NC<|r b i,λz=>?_,λx c e=>(M b i).2.2.2.2.1 x c<|j x c e⟩;rcases x6.mp (m.stkSub b z)with q|q;exact(M b i).2.1 q;exact(M b i).2.2.1 q
 have as:a.heap.objs.size<=(a.heap.push<|cW [] 0).objs.size:=by rw[hC];exact Os _
 have n:k5 (h8 X.prog X.w) X.A (.compLoop (.ListComp elt [⟨tg,iter,ifs,0⟩] scope pos) 0 (.ref it) (.ref a.heap.objs.size)<|compEnvC scope cl (a.heap.push<|cW [] 0).objs.size X.env) (compPost (h8 X.prog X.w) X.A X.xe (a7<|i9 (.Name x pos') X.env) (λ_ u=>f9 (h8 X.prog X.w) X.A (pure ()) (λ_ s3=>f9 (h8 X.prog X.w) X.A (pure Flow.next) (SP X f Dn) X.xe s3) X.xe u) (.ref a.heap.objs.size) (a.heap.push<|cW [] 0).objs.size) { a with heap:=h1,toks:=a.toks+([]:List (c6×c5)).length }:=by
  refine AE (s0:={ a with heap:=a.heap.push (cW [] 0) }) (H0:=H2) (N':=N') (Q:=λv H1=>gN v σ H1 Dn.nx) hc (hg _ _ _ _) (ht _ _ _ _) (he _ _ _ _) T ai N t D aj (λx c e=>x9<|ltc x c e) ?_ m0 I3 L (λb i=>(M b i).1) w0;intro τ H' s' vs its k R rv hl q;obtain⟨mm,al,_⟩:=id R.loc;obtain⟨C,es,Y,eC,bf⟩:=id al;have I5:q9 X f σ (v6 H' a.heap.objs.size<|.lst vs) s':=m.blkEnd M R rv hl ⟨rfl,λ_ _=>rfl⟩;have Z:v6 H' a.heap.objs.size (.lst vs) (a.heap.push<|cW [] 0).objs.size=a8:=by rw[ag<|w9 D];exact R.free
  have fk:∀Hx:Hp,Hx (a.heap.push<|cW [] 0).objs.size=a8->xz X f Hx (a.heap.push<|cW [] 0).objs.size:=λHx hx=>m.fpOk as hx;have dC:∀v,C.data≠.cell v:=λv z=>by
   have:∃es Y,C.data=.dict es Y:=by
    first
     |(obtain⟨d,_⟩:=bf;exact⟨_,_,d⟩)
     |(obtain⟨_,d,_⟩:=bf;exact⟨_,_,d⟩)
     |(obtain⟨_,_,d,_⟩:=bf;exact⟨_,_,d⟩)
   obtain⟨_,_,d⟩:=this;rw[d]at z;cases z
  have I6:q9 X (f++[((a.heap.push<|cW [] 0).objs.size,C)]) σ (v6 H' a.heap.objs.size<|.lst vs) s':=I5.pins_of λp l=>by
   rcases D7.mp l with l|l;exact I5.pin p<|F4 _ l;have:p=((a.heap.push<|cW [] 0).objs.size,C):=by simpa using l
   subst this;exact⟨eC,Z,(fk _ Z).2.1,(fk _ Z).2.2.1,dC⟩
  refine v4 (hn _ s' σ _ (.ref a.heap.objs.size) (.ref a.heap.objs.size) _ I6 rfl q) ?_;rintro _ s7 ⟨O,P,S,q7⟩;obtain⟨p1,p2,_⟩:=S.pin ((a.heap.push<|cW [] 0).objs.size,C)<|F4 _<|F4 _ C1;refine⟨mm,⟨C,es,Y,p1,bf⟩,λh' sb=>t4<|t4 ⟨O,P,?_,q7⟩⟩;have I8:q9 X f O P s7:=S.pins_of λp l=>S.pin p<|F4 _<|LM _ l;refine I8.turnedL (t':=s7.toks) (fp:=[(a.heap.push<|cW [] 0).objs.size]) (λb i=>?_) λb o i e=>(sb.2 b<|by simpa using i).trans e;have:b=(a.heap.push<|cW [] 0).objs.size:=by simpa using i
  subst this;exact fk P p2
 exact codeAny_compStart_list n<|T.self _ 0 _ _ _ L n
def pF(t:Nat)(s:List Nat)(b:LR)(g:J4)(tt:E6)(te:v5)(i:Nat):s9:=λE S M=>E5 t s b g tt te S M λd a=>ah i d S a E.nx
theorem Ec(B:BlkSc X N' nt js scope)(f:X.calm=a9)(hi:DI X tg iter di)(l:∀cl s0 H0 ex,DG (A3 X N' scope cl s0 H0 ex) tg g) (D:∀cl s0 H0 ex,MS (A3 X N' scope cl s0 H0 ex) ifs<|lowT X.K tt) (j:∀cl s0 H0 ex,DE (A3 X N' scope cl s0 H0 ex) elt te) (n:DG X (.Name x pos') (ah i))(hs:∀x,j5 iter X.env x=pure x) (h:i8 (.ListComp elt [⟨tg,iter,ifs,0⟩] scope pos) (a7<|.Name x pos') pos2.line X.env=pure a9):DS X (.Assign [.Name x pos'] (.ListComp elt [⟨tg,iter,ifs,0⟩] scope pos) pos2) (pF nt js di g tt te i):=PS.imp (Cz (g:=lowG X.K g) (tt:=lowT X.K tt) (te:=lowE X.K te) B f hi (λcl s0 H0 ex=>l cl s0 H0 ex) D (λcl s0 H0 ex=>j cl s0 H0 ex) n hs h) λE σ H ⟨S,M,ρ,F,s,e,q,k⟩ =>
  Av σ H _ ⟨S,M,ρ,_,s,e,q,λv p ⟨d,b,c,o,g1,r,m⟩=>⟨d,S,b,c,_,o,e.grow g1,r,m,λa H' w=>k.nx a H'<|SQ.trans g1 w⟩⟩
theorem Dp(a:X.N.Nodup)(hi:HI X tg iter di)(S:∀cl s0 H0 ex,HG (A3 X N' scope cl s0 H0 ex) tg g) (D:∀cl s0 H0 ex,Om (A3 X N' scope cl s0 H0 ex) ifs tt) (e:∀cl s0 H0 ex,HE (A3 X N' scope cl s0 H0 ex) elt te) (B:pG X.env.scope.names X.N N' nt js scope=a9:=by kernel_rfl) (f:X.calm=a9:=by kernel_rfl)(hs:∀x,j5 iter X.env x=pure x:=by intro _;kernel_rfl) (w:i8 (.ListComp elt [⟨tg,iter,ifs,0⟩] scope pos) (a7<|.Name x pos') pos2.line X.env=pure a9:=by kernel_rfl)(h:X.N[i]?=a7 x:=by kernel_rfl) (c:Ip X.env.scope x=a9:=by kernel_rfl) (b:X.fn x=a9:=by kernel_rfl):HS X (.Assign [.Name x pos'] (.ListComp elt [⟨tg,iter,ifs,0⟩] scope pos) pos2) (pF nt js di g tt te i):=⟨Ec (BlkSc.chk B) f hi.ok (λcl s0 H0 ex=>(S cl s0 H0 ex).ok) (λcl s0 H0 ex=>(D cl s0 H0 ex).ok) (λcl s0 H0 ex=>(e cl s0 H0 ex).ok) (vC a h (Ax c)<|.inl b) hs w⟩
end
theorem OU:atI (a::r) 0=a7 a:=by have:=aF (xs:=a::r) (j:=0) (v:=a) rfl;simpa using this
theorem Mt:atI (a::b::r) 1=a7 b:=by have:=aF (xs:=a::b::r) (j:=1) (v:=b) rfl;simpa using this
theorem NK:atI (a::b::c::r) 2=a7 c:=by have:=aF (xs:=a::b::c::r) (j:=2) (v:=c) rfl;simpa using this
theorem bc.lst(h:R (.ref M.length) (M++[.lst xs]))(f:M.length<=n)(e:(M++L)[n]?=a7 (.lst xs))(b:Bels M.length xs):bc M R (.ref n) (M++L):=.inr<|.inr ⟨M,n,xs,.refl,rfl,f,e,G2 _ _,b,h⟩
theorem bc.chg(c:Mx M M1)(h:R d M1)(b:B7 M.length d)(p:M1 <+: M'):bc M R d M':=.inr<|.inl ⟨M1,c,b,p,h⟩
theorem bc.chgL(c:Mx M M1)(h:R (.ref M.length) (M1++[.lst xs]))(f:M.length<=n)(e:M'[n]?=a7 (.lst xs))(p:M1 <+: M')(b:Bels M.length xs):bc M R (.ref n) M':=.inr<|.inr ⟨M1,n,xs,c,rfl,f,e,p,b,h⟩
theorem iA:(M++a::L).set M.length b=M++b::L:=by rw[Q7 _ _<|u5 _];simp
theorem kL:(M++a::L)[M.length]?=a7 a:=by simp
theorem qA(I:List D->List D->SD->t7->Prop)(h0:∀acc S M,I [] acc S M->ok M/\Q (.ref M.length) (M++[.lst acc]))(h1:∀x xs acc S M,I (x::xs) acc S M->∀K:List D->SD->t7->Prop,(∀acc S M,I xs acc S M->K acc S M)->ok M/\g x S M λS2 M2=>tt S2 M2 λb M3=>if b=a9 then te S2 M3 λy M4=>acc.length<sizeLine/\K (acc++[y]) S2 M4 else K acc S2 M3):∀xs acc S M,I xs acc S M->oj ok g tt te Q xs acc S M
 | [],acc,S,M,h=>h0 acc S M h
 |x::xs,acc,S,M,h=>h1 x xs acc S M h _<|qA I h0 h1 xs
noncomputable def Oi:D->c6
 |.str x=>x
 |_=>Str.empty
theorem sk{ys:List D}{s:List c6}(h:ys.Perm (s.map D.str)):∃ns:List c6,ys=ns.map D.str/\ns.Perm s:=by
 refine⟨ys.map Oi,?_,?_⟩;rw[E8];have:∀y∈ys,(D.str ∘ Oi) y=y:=λy O=>by obtain⟨x,_,rfl⟩:=v8.mp<|h.mem_iff.mp O;rfl
 exact(Q3 this ▸ (List.map_id' ys).symm:ys=ys.map (D.str ∘ Oi));have:=h.map Oi;rw[E8]at this;have e:(Oi ∘ D.str)=id:=rfl
 rwa [e,MU]at this
theorem wS:(mU kvs k d).length<=kvs.length+1/\1<=(mU kvs k d).length:=by unfold mU;by_cases q:(kvs.any λp=>decide<|p.1=k)=a9;rw[o0 q,u6];obtain⟨p,h,_⟩:=LH.mp q;have:0<kvs.length:=List.length_pos_of_mem h;lia;rw[o4 q,A1,K0];lia
theorem xi:(M++a::b::L)[M.length+1]?=a7 b:=by rw[Mf (by lia),show M.length+1-M.length=1 by lia];rfl
theorem CC{α:Type}(f:α->D)(g:D->α)(S:∀a,g (f a)=a){ys:List D}{l:List α}(h:ys.Perm (l.map f)):∃l':List α,ys=l'.map f/\l'.Perm l:=by
 refine⟨ys.map g,?_,?_⟩;rw[E8];have:∀y∈ys,(f ∘ g) y=y:=λy O=>by obtain⟨x,_,rfl⟩:=v8.mp<|h.mem_iff.mp O;show f (g<|f x)=f x;rw[S]
 exact(Q3 this ▸ (List.map_id' ys).symm:ys=ys.map (f ∘ g));have:=h.map g;rw[E8]at this;have e:(g ∘ f)=id:=funext S
 rwa [e,MU]at this
section
variable{prog:c8}{w:c7}{A:e9}{E:c5->f6->Prop}{s:f6}
noncomputable def br(w:c7):d5:={ cls:=.type "set",dict:=a8,data:=.set #[] 0 (.fresh 0 0<|!w.params.followText "set-order") }
theorem vG(a:c5)(h:Q₁ (.ref s.heap.objs.size) { s with heap:=s.heap.push (br w) }):k5 (h8 prog w) A (.call (.builtin "set.__new__") ⟨[.type "set",a],[]⟩) (wants Q₁ E) s:=by
 refine codeAny_of_tree<|show f9 (h8 prog w) A.in1 (do checkBuiltinCall "set.__new__" ⟨[.type "set",a],[]⟩;again (.builtin "set.__new__" ⟨[.type "set",a],[]⟩)) _ _ s from ?_;refine p9<|wpAny_of_eq (F.newCall_set_1 a)<|t4 ⟨MW F.plain_set_new _,MC F.entry_set_new ?_⟩;rw[Nk F.plain_set_new _];have c:=sub_set_self;obtain⟨p,g,d,u,o⟩:=s;unfold Builtin.«set.__new__» Builtin.Frozenset.newClass;dsimp only
 wp_walk
 refine N5<|t4 ?_;simp only[newObj];exact p9<|wpAny_alloc<|t4<|t4 h
end
structure TxSrc(prog:c8)(w:c7)(h:d6)(l:c9)(T:String)(n:Nat)(P:Nat->c5->Prop):Prop where
 obj:∃o,h.get? l=a7 o/\o.cls=.type T
 ns:isSubtype (.type T) (.type "set")=pure bt
 nf:isSubtype (.type T) (.type "frozenset")=pure bt
 nd:(Nd T==Nd "dict")=bt
 iter:∀(A:e9) (s':f6),A.handled=a8->(∀o,h.get? l=a7 o->s'.heap.get? l=a7 o)->∃(oI:d5) (St:Nat->d6->Prop),(∀(E:c5->f6->Prop) (Q:c5->f6->Prop),Q (.ref s'.heap.objs.size) { s' with heap:=s'.heap.push oI }->f9 (h8 prog w) A (j3<|.ref l) Q E s') /\Walks prog w A s'.heap.objs.size [s'.heap.objs.size,l] [s'.heap.objs.size] n P St/\St 0 (s'.heap.push oI)
theorem ux:isSubtype (.type "tuple") (.type "set")=pure bt:=by rw[isSubtype_type];kernel_rfl
theorem rR:isSubtype (.type "tuple") (.type "frozenset")=pure bt:=by rw[isSubtype_type];kernel_rfl
theorem TxSrc.list(g:h.IsList l its):TxSrc prog w h l "list" its.size (λi v=>its[i]?=a7 v):=by
 refine⟨let ⟨o,e,c,_⟩:=g;⟨o,e,c⟩,F.sub_list_set,F.sub_list_frozenset,by decide,λA s' b k=>?_⟩;have a:s'.heap.IsList l its:=g.at k;have lt:l<s'.heap.objs.size:=let ⟨o,e,_⟩:=a;v9 e
 exact⟨_,_,λE Q q=>Qi a q,Walks.list b _ l (x9 lt) its,⟨_,z0 _ rfl,rfl,rfl⟩,a.push _⟩
theorem TxSrc.tuple(g:h.IsTuple l its):TxSrc prog w h l "tuple" its.size (λi v=>its[i]?=a7 v):=by
 refine⟨let ⟨o,e,c,_⟩:=g;⟨o,e,c⟩,ux,rR,by decide,λA s' b k=>?_⟩;have a:s'.heap.IsTuple l its:=let ⟨o,e,r⟩:=g;⟨o,k o e,r⟩
 have lt:l<s'.heap.objs.size:=let ⟨o,e,_⟩:=a;v9 e
 exact⟨_,_,λE Q q=>wpAny_pyIter_tuple a q,Walks.tuple b _ l (x9 lt) its,⟨_,z0 _ rfl,rfl,rfl⟩,let ⟨o,e,r⟩:=a;⟨o,v7 _ e,r⟩⟩
theorem bv:Slot "set_iterator" "__next__" "set_iterator.__next__":=.of (owner:="set_iterator") (n:="__next__") (by rw[Pi,Px];kernel_rfl) (by decide +kernel) (by decide +kernel) (by decide +kernel) (by first|exact .inl (by decide +kernel)|exact .inr<|by decide +kernel)<|by rw[isSubtype_type];kernel_rfl
theorem fF:entryFor table "set_iterator.__next__" = a7 Builtin.«set_iterator.__next__»:=entryFor_of_tree<|by kernel_rfl
theorem ng:Manifest.owners.lookup (String.ofList ['r','o','t','a','r','e','t','i','_','t','e','s'].reverse)=a7 Manifest.sig_set_iterator:=by kernel_rfl
theorem gQ(a:c5):argsOk "set_iterator.__next__" ⟨[a],[]⟩:=by unfold argsOk;rw[signature?_of (id:="set_iterator.__next__") (n:=['_','_','t','x','e','n','_','_']) (o:=['r','o','t','a','r','e','t','i','_','t','e','s']) (by kernel_rfl) ng];kernel_rfl
theorem qx:entryFor table "set.__iter__" = a7 Builtin.«frozenset.__iter__»:=entryFor_alias (id':="frozenset.__iter__") (by kernel_rfl) rfl (by decide +kernel)<|by kernel_rfl
theorem kM{α:Type}:∀(l:List α) (i:Nat) (h:i<l.length),(l[i]::l.eraseIdx i).Perm l
 |x::l,0,_=>NY _
 |x::l,i+1,h=>by
  have h':i<l.length:=by simpa using h
  exact(List.Perm.swap x l[i]<|l.eraseIdx i).trans<|PZ x<|kM l i h'
theorem yG(f:n≠0)(h:∀i d,i<n->Q i { s with drawn:=d }):f9 M A (choose src n) Q E s:=by intro Γ p a;show Sem.wp M Γ (Sem.choose src n λi=>Sem.pure i) _ _ p s;rw[Sem.wp_choose];refine⟨f,?_⟩;rw[Sem.wp_pure];exact h _ _<|Nat.mod_lt _<|Nat.pos_of_ne_zero f
theorem tE{α:Type}{M:Model}{A:e9}{E:c5->f6->Prop}:∀(n:Nat) (xs:List α) (s:f6) (Q:List α->f6->Prop),xs.length=n->(∀ys d,ys.Perm xs->Q ys { s with drawn:=d })->f9 M A (drawOrder n xs) Q E s
 | 0,xs,s,Q,e,h=>by
  cases xs with
  |nil=>exact t4<|h [] s.drawn<|NY _
  |cons _ _=>cases e
 |n+1,[],s,Q,e,h=>by cases e
 |n+1,x::xs,s,Q,e,h=>by unfold drawOrder;refine p9<|yG (by simp) λi d hi=>?_;rw[x3 hi];refine p9<|tE n ((x::xs).eraseIdx i) { s with drawn:=d } _ (by rw[List.length_eraseIdx_of_lt hi];simp at e ⊢;lia) λys d' hp=>t4<|h _ d' ?_;exact(PZ _ hp).trans<|kM _ i hi
theorem mW{α:Type}(next:Nat->Nat)(xs:Array α):(n6 next xs).toList.Perm xs.toList:=by
 have o:∀(l k:Nat) (left:List α) (t:Array α),left.length=l->(pickOrder.go next l k left t).toList.Perm (t.toList++left):=by
  intro l;induction l with
  |zero =>
   intro k left t e;cases left with
   |nil=>simp[pickOrder.go]
   |cons _ _=>cases e
  |succ n i=>intro k left t e;have hi:next k % left.length<left.length:=Nat.mod_lt _ (by lia);unfold pickOrder.go;rw[x3 hi];dsimp only;refine(i (k+1) _ _<|by rw[List.length_eraseIdx_of_lt hi];lia).trans ?_;rw[Qg,G9];exact List.Perm.append_left _<|kM _ _ hi
 have:=o xs.size 0 xs.toList #[] (by simp);simpa [n6]using this
noncomputable def fA(first:c5)(i n:Nat)(a:c9)(ep:Nat):d5:={ cls:=.type "set_iterator",data:=.fields #[first,j4 i,.ref a,j4 n,j4 ep] }
structure SetAt(h:d6)(a:c9)(o:d5)(es:Array (Int×c5))(ep:Nat)(t:n9):Prop where
 ob:h.get? a=a7 o
 dt:o.data=.set es ep t
 ft:t.fits es.size=a9
section
variable{prog:c8}{w:c7}{A:e9}{E:c5->f6->Prop}{s:f6}{a it:c9}{o:d5}{es:Array (Int×c5)}{ep:Nat}{t:n9}
theorem pc(c:A.handled=a8)(h:∀h' e,(∀b o,s.heap.get? b=a7 o->h'.get? b=a7 o)->(∃o,h'.get? e=a7 o/\o.cls=.type "StopIteration")->F (.ref e) { s with heap:=h' }):f9 (h8 prog w) A (do raiseNew (<-newExc (.type "StopIteration") []):Sem Fin) Q F s:=by refine p9 ?_;simp only[newExc,newTuple];refine p9 (J1 (p9 (m:=m9 _ _)<|wpAny_of_eq (a:=H9) (by first|rfl|(simp only[m9];rfl))<|J1 ?_<|by size_fits)<|by size_fits);simp only[raiseNew];refine p9<|wpAny_handled ?_;rw[c];exact p9<|t4<|wpAny_throw<|h _ _ (λb o e=>v7 _<|v7 _ e) ⟨_,z0 _ rfl,rfl⟩
theorem np{slot i next:Nat}{x:c5}{Q:Option c5->f6->Prop}(I:s.heap.get? it=a7 (fA (j4 slot) i es.size a ep))(S:SetAt s.heap a o es ep t)(f:∀(A:e9) (E:c5->f6->Prop) (Q:Option (c5×Nat)->f6->Prop),Q (a7 (x,next)) s->f9 (h8 prog w) A (setNext a slot i ep) Q E s)(b:∀h',h'.get? it=a7 (fA (j4 next) (i+1) es.size a ep)->Mz it s.heap h'->Q (a7 x) { s with heap:=h' }):f9 (h8 prog w) A (j1<|.ref it) Q E s:=by
 have n:s.TypeIs (.ref it) "set_iterator":=⟨_,I,rfl⟩
 unfold j1;refine p9<|MP<|L9 (name:=AA0 "__next__") n bv<|G8 bv n fF ?_<|gQ _;unfold Builtin.«set_iterator.__next__»;refine p9<|t4<|p9<|MA I rfl ?_;dsimp only[fA,j4];refine p9<|Pu S.ob S.dt S.ft ?_;rw[o4<|by simp];refine p9<|f _ _ _ ?_;dsimp only;refine p9<|MB I rfl (by simp)<|p9<|MB (LO _ I rfl) rfl (by simp)<|t4 ⟨x,rfl,t4<|b _ ?_<|(LL ..).trans<|LL ..⟩;refine(LO _ (LO _ I rfl) rfl).trans ?_;simp[fA,NT,j4]
theorem fx{slot i:Nat}{Q:Option c5->f6->Prop}(g:A.handled=a8)(I:s.heap.get? it=a7 (fA (j4 slot) i es.size a ep))(S:SetAt s.heap a o es ep t)(j:∀(A:e9) (E:c5->f6->Prop) (Q:Option (c5×Nat)->f6->Prop),Q a8 s->f9 (h8 prog w) A (setNext a slot i ep) Q E s)(h:∀h',(∀b o,b≠it->s.heap.get? b=a7 o->h'.get? b=a7 o)->Q a8 { s with heap:=h' }):f9 (h8 prog w) A (j1<|.ref it) Q E s:=by
 have n:s.TypeIs (.ref it) "set_iterator":=⟨_,I,rfl⟩
 unfold j1;refine p9<|MP<|L9 (name:=AA0 "__next__") n bv<|G8 bv n fF ?_<|gQ _;unfold Builtin.«set_iterator.__next__»;refine p9<|t4<|p9<|MA I rfl ?_;dsimp only[fA,j4];refine p9<|Pu S.ob S.dt S.ft ?_;rw[o4<|by simp];refine p9<|j _ _ _ ?_;dsimp only;refine p9<|MB I rfl (by simp) ?_;refine pc (by simp[g]) ?_;rintro h' e k ⟨y,c,f⟩;refine p9<|Ny (T:="StopIteration") (b:=a9) ⟨y,c,f⟩ Pd<|t4<|h h' λb l d L=>k b l ?_;exact((LL ..).2 b d).trans L
theorem xV{tt:c9}{ps:List Nat}{i j:Nat}{e:Int×c5}{Q:Option c5->f6->Prop}(I:s.heap.get? it=a7 (fA (.ref tt) i es.size a ep))(B:s.heap.IsTuple tt (ps.map λ(k:Nat)=>j4 k).toArray)(S:SetAt s.heap a o es ep t)(L:ps[i]?=a7 j) (d:es[j]?=a7 e) (c:∀h',h'.get? it=a7 (fA (.ref tt) (i+1) es.size a ep)->Mz it s.heap h'->Q (a7 e.2) { s with heap:=h' }):f9 (h8 prog w) A (j1<|.ref it) Q E s:=by
 have n:s.TypeIs (.ref it) "set_iterator":=⟨_,I,rfl⟩
 obtain⟨g,b,_,f,h⟩:=B;unfold j1;refine p9<|MP<|L9 (name:=AA0 "__next__") n bv<|G8 bv n fF ?_<|gQ _;unfold Builtin.«set_iterator.__next__»;refine p9<|t4<|p9<|MA I rfl ?_;dsimp only[fA,j4];refine p9<|Pu S.ob S.dt S.ft ?_;rw[o4<|by simp];refine p9<|LV b h ?_;have x:(ps.map λ(k:Nat)=>j4 k).toArray[i]?=a7 (.int j 0):=by simp[L,j4]
 simp only[ME,x];unfold setNextDrawn;refine p9<|p9<|MD S.ob S.dt S.ft ?_;simp only[bne_self_eq_false,A9,p5,d];refine t4<|p9<|MB I rfl (by simp)<|t4 ⟨_,rfl,t4<|c _ ?_<|LL ..⟩;refine(LO _ I rfl).trans ?_;simp[fA,NT,j4]
theorem nV{tt:c9}{ps:List Nat}{i:Nat}{Q:Option c5->f6->Prop}(l:A.handled=a8)(I:s.heap.get? it=a7 (fA (.ref tt) i es.size a ep))(B:s.heap.IsTuple tt (ps.map λ(k:Nat)=>j4 k).toArray)(S:SetAt s.heap a o es ep t)(m:ps[i]?=a8) (d:∀h',(∀b o,b≠it->s.heap.get? b=a7 o->h'.get? b=a7 o)->Q a8 { s with heap:=h' }):f9 (h8 prog w) A (j1<|.ref it) Q E s:=by
 have n:s.TypeIs (.ref it) "set_iterator":=⟨_,I,rfl⟩
 obtain⟨u,c,_,r,h⟩:=B;unfold j1;refine p9<|MP<|L9 (name:=AA0 "__next__") n bv<|G8 bv n fF ?_<|gQ _;unfold Builtin.«set_iterator.__next__»;refine p9<|t4<|p9<|MA I rfl ?_;dsimp only[fA,j4];refine p9<|Pu S.ob S.dt S.ft ?_;rw[o4<|by simp];refine p9<|LV c h ?_;have x:(ps.map λ(k:Nat)=>j4 k).toArray[i]?=a8:=by simpa using m
 simp only[ME,x];refine p9<|MB I rfl (by simp)<|p9<|MB (LO _ I rfl) rfl (by simp) ?_;refine pc (by simp[l]) ?_;rintro h' e p ⟨y,j,g⟩;refine p9<|Ny (T:="StopIteration") (b:=a9) ⟨y,j,g⟩ Pd<|t4<|d h' λb q f L=>p b q ?_;exact(((LL ..).trans<|LL ..).2 b f).trans L
end
end L2
namespace L2
theorem nodup_le{α:Type}[DecidableEq α]:∀(l xs:List α),l.Nodup->(∀x∈l,x∈xs)->l.length<=xs.length
 | [],xs,_,_=>z8 _
 |a::l,xs,nd,h=>by have ha:a∈xs:=h a C1;have nd':=LX.mp nd;have ih:=nodup_le l (xs.erase a) nd'.2 λx hx=>(List.mem_erase_of_ne<|show x≠a from λz=>nd'.1<|by rw[<-z];exact hx).mpr<|h x<|A6 _ hx;rw[List.length_erase_of_mem ha]at ih;have:0<xs.length:=List.length_pos_of_mem ha;rw[C4];lia
end L2
namespace Ht
open PySem
noncomputable def OV(m:Nat)(p:Nu):Nu:=if p.more > 0 then { p with j:=p.j+1,more:=p.more-1 } else
 { p with j:=(Nh m p.i p.perturb).1,more:=J5 m (Nh m p.i p.perturb).1-(Nh m p.i p.perturb).1,i:=(Nh m p.i p.perturb).1,perturb:=(Nh m p.i p.perturb).2 }
noncomputable def kr(m i t:Nat):Nu:={ j:=i,more:=J5 m i-i,i,perturb:=t,dummy:=a8 }
noncomputable def mO(m:Nat)(p:Nu):Nat->Nu
 | 0=>p
 |n+1=>OV m<|mO m p n
noncomputable def sq(m:Nat)(h:Int)(n:Nat):Nu:=mO m (kr m (MN h % (m+1))<|MN h) n
theorem rS(m:Nat)(p:Nu)(a b:Nat):mO m p (a+b)=mO m (mO m p a) b:=by
 induction b with
 |zero=>rfl
 |succ b i=>rw[Nat.add_succ,mO,i];rfl
theorem IZ(m i:Nat):J5 m i-i<=9:=by unfold J5;split<;>lia
theorem AW(m i pt:Nat):∀k,k<=J5 m i-i->mO m (kr m i pt) k={ j:=i+k,more:=J5 m i-i-k,i,perturb:=pt,dummy:=a8 }
 | 0,_=>by simp[mO,kr]
 |k+1,h=>by rw[mO,AW m i pt k<|by lia];unfold OV;rw[o0<|show J5 m i-i-k > 0 by lia];simp only[SetTable.Probe.mk.injEq,true_and,and_true];lia
theorem CW(m i t:Nat):mO m (kr m i t) (J5 m i-i+1)=kr m (Nh m i t).1 (Nh m i t).2:=by rw[mO,AW m i t _<|u5 _];unfold OV;rw[o4<|show ¬J5 m i-i-(J5 m i-i) > 0 by lia];rfl
noncomputable def ff(m:Nat)(h:Int):Nat->Nat×Nat
 | 0=>(MN h % (m+1),MN h)
 |k+1=>Nh m (ff m h k).1 (ff m h k).2
noncomputable def fJ(m:Nat)(h:Int):Nat->Nat
 | 0=>0
 |k+1=>fJ m h k+(J5 m (ff m h k).1-(ff m h k).1+1)
theorem EA(m:Nat)(h:Int)(k:Nat):fJ m h k<=10*k:=by
 induction k with
 |zero=>exact u5 _
 |succ k i=>have:=IZ m (ff m h k).1;unfold fJ;lia
theorem EO(m:Nat)(h:Int)(k:Nat):sq m h (fJ m h k)=kr m (ff m h k).1 (ff m h k).2:=by
 induction k with
 |zero=>rfl
 |succ k i=>unfold sq at i ⊢;unfold fJ;rw[rS,i,CW];rfl
theorem zH(m:Nat)(h:Int)(k r:Nat)(i:r<=J5 m (ff m h k).1-(ff m h k).1):(sq m h<|fJ m h k+r).j=(ff m h k).1+r:=by have e:=EO m h k;unfold sq at e ⊢;rw[rS,e,AW _ _ _ _ i]
theorem Ib(h:Int):MN h<2 ^ 64:=by unfold MN;have a:=Int.emod_nonneg h (show (2 ^ 64:Int)≠0 by decide);have h1:=Int.emod_lt_of_pos h (show (0:Int)<2 ^ 64 by decide);lia
theorem ph(m:Nat)(h:Int):∀k,(ff m h k).2=MN h / 32 ^ k
 | 0=>by simp[ff]
 |k+1=>by show (ff m h k).2 / 32=_;rw[ph m h k,Nat.div_div_eq_div_mul,<-Nat.pow_succ]
theorem sj(m:Nat)(h:Int)(k:Nat)(a:13<=k):(ff m h k).2=0:=by
 rw[ph];apply Nat.div_eq_of_lt;have h1:=Ib h;have h2:32 ^ 13<=32 ^ k:=Nat.pow_le_pow_right (by decide) a;have b:(2:Nat) ^ 64<32 ^ 13:=by decide
 lia
noncomputable def vM(m i:Nat):Nat:=(i*5+1) % (m+1)
noncomputable def bZ(m i:Nat):Nat->Nat
 | 0=>i
 |k+1=>vM m<|bZ m i k
theorem eY(m i a b:Nat):bZ m i (a+b)=bZ m (bZ m i a) b:=by
 induction b with
 |zero=>rfl
 |succ b h=>rw[Nat.add_succ,bZ,h];rfl
theorem uA(m:Nat)(h:Int)(r:Nat):(ff m h<|13+r).1=bZ m (ff m h 13).1 r:=by
 induction r with
 |zero=>rfl
 |succ r i=>show (Nh m (ff m h<|13+r).1 (ff m h<|13+r).2).1=vM m (bZ m (ff m h 13).1 r);rw[sj m h _ (by lia),i];rfl
theorem uB(m:Nat)(h:Int):∀k,(ff m h k).1<=m
 | 0=>Nat.lt_succ_iff.mp<|Nat.mod_lt _<|Nat.succ_pos _
 |k+1=>Nat.lt_succ_iff.mp<|Nat.mod_lt _<|Nat.succ_pos _
def Iy(m:Nat):Prop:=bZ m 0 (m+1)=0/\∀s,s<=m->∃k,k<=m/\bZ m 0 k=s
noncomputable def uI(m:Nat):Nat->Nat->List Nat
 | 0,_=>[]
 |n+1,i=>i::uI m n (vM m i)
theorem nh(m:Nat):∀(n i k:Nat),k<n->(uI m n i)[k]?=a7 (bZ m i k)
 | 0,_,_,h=>o5 h<|MY _
 |n+1,i,0,_=>rfl
 |n+1,i,k+1,h=>by rw[uI,Rh,nh m n (vM m i) k (by lia),<-show bZ m (bZ m i 1) k=bZ m i (k+1)from by rw[<-eY,Nat.add_comm]];rfl
theorem vq(m:Nat)(h:((uI m (m+2) 0)[m+1]?==a7 0&&(A7<|m+1).all λs=>(uI m (m+1) 0).contains s)=a9):Iy m:=by
 rw[D3,o8,E9]at h;refine⟨?_,λs hs=>?_⟩;have:=nh m (m+2) 0 (m+1) (by lia);rw[h.1]at this;exact(A5 this).symm;have:=h.2 s (G4.mpr<|by lia);rw[List.contains_iff_mem]at this;obtain⟨k,a⟩:=MQ this;have g:k<m+1:=by
  have:=(x5.mp a).1;have B:∀n i,(uI m n i).length=n:=by
   intro n;induction n with
   |zero=>intro i;rfl
   |succ n b=>intro i;simp[uI,b]
  rw[B]at this;exact this
 rw[nh m _ 0 k g]at a;exact⟨k,by lia,A5 a⟩
theorem full7:Iy 7:=vq 7<|by decide +kernel
theorem KM:Iy 31:=vq 31<|by decide +kernel
theorem Hk:Iy 127:=vq 127<|by decide +kernel
theorem Bi(F:Iy m)(hi:i<=m)(hs:s<=m):∃k,k<=m/\bZ m i k=s:=by obtain⟨a,f,c⟩:=F.2 i hi;obtain⟨b,d,L⟩:=F.2 s hs;by_cases h:a<=b;refine⟨b-a,by lia,?_⟩;rw[<-c,<-eY,show a+(b-a)=b by lia];exact L;refine⟨m+1-a+b,by lia,?_⟩;rw[<-c,<-eY,show a+(m+1-a+b)=(m+1)+b by lia,eY,F.1];exact L
def oo(m:Nat):Prop:=m=7\/m=31\/m=127
theorem oo.full(h:oo m):Iy m:=by rcases h with rfl|rfl|rfl;exact full7;exact KM;exact Hk
theorem Fk(d:oo m)(h:Int)(hs:s<=m):∃k,k<=m+13/\(ff m h k).1=s:=by obtain⟨r,i,e⟩:=Bi d.full (uB m h 13) hs;exact⟨13+r,by lia,by rw[uA];exact e⟩
theorem FJ(d:oo m)(h:Int)(hs:s<=m):∃n,n<10*(m+15)/\(sq m h n).j=s:=by obtain⟨k,a,e⟩:=Fk d h hs;refine⟨fJ m h k,by have:=EA m h k;lia,?_⟩;rw[EO];exact e
theorem IT(h:Int):∀n,∃k r,r<=J5 m (ff m h k).1-(ff m h k).1/\n=fJ m h k+r
 | 0=>⟨0,0,z8 _,rfl⟩
 |n+1=>by obtain⟨k,r,hr,e⟩:=IT (m:=m) h n;by_cases q:r<J5 m (ff m h k).1-(ff m h k).1;exact⟨k,r+1,q,by lia⟩;exact⟨k+1,0,z8 _,by rw[fJ];lia⟩
theorem zG(h:Int)(n:Nat):(sq m h n).j<=m:=by obtain⟨k,r,i,e⟩:=IT (m:=m) h n;rw[e,zH m h k r i];have:=uB m h k;unfold J5 at i;split at i<;>lia
theorem below_spec(xs:Array Nat)(v:xs.toList.Pairwise (· < ·))(j:Nat):D6 xs j<=xs.size/\(∀k (h:k<xs.size),k<D6 xs j->xs[k]<j)/\∀k (h:k<xs.size),D6 xs j<=k->j<=xs[k]:=by
 have m:∀a b (g:a<xs.size) (i:b<xs.size),a<b->xs[a]<xs[b]:=λa b g i h=>by have:=QF.mp v a b (by simpa using g) (by simpa using i) h;simpa using this
 have r:∀(l o hi:Nat),o<=hi->hi<=xs.size->hi-o<=l->(∀k (h:k<xs.size),k<o->xs[k]<j)->(∀k (h:k<xs.size),hi<=k->j<=xs[k]) -> N8 xs j l o hi<=xs.size/\(∀k (h:k<xs.size),k<N8 xs j l o hi->xs[k]<j)/\∀k (h:k<xs.size),N8 xs j l o hi<=k->j<=xs[k]:=by
  intro l;induction l with
  |zero =>
   intro o hi h1 h2 s f c;have:o=hi:=by lia
   subst this;exact⟨h2,f,c⟩
  |succ l n =>
   intro o hi h1 h2 s f c;unfold N8;by_cases h:o<hi;rw[o0 h];have e:(o+hi) / 2<xs.size:=by lia
   have p:xs.getD ((o+hi) / 2) j=xs[(o+hi) / 2]:=by simp[Mj,e]
   simp only[p];by_cases q:xs[(o+hi) / 2]<j;rw[o0 q];refine n _ _ (by lia) h2 (by lia) (λk d u=>?_) c;rcases Md k ((o+hi) / 2)with z|z;exact O6 (m k _ d e z) q;have:k=(o+hi) / 2:=by lia
   subst this;exact q;rw[o4 q];refine n _ _ (by lia) (by lia) (by lia) f λk d t=>?_;rcases Md ((o+hi) / 2) k with z|z;exact C7 (MT.mp q)<|NR<|m _ k e d z;have:k=(o+hi) / 2:=by lia
   subst this;exact MT.mp q;rw[o4 h];have:o=hi:=by lia
   subst this;exact⟨h2,f,c⟩
 exact r xs.size 0 xs.size (z8 _) (u5 _) (by lia) (λk _ h=>o5 h<|MY _) λk h h'=>o5 h<|MT.mpr h'
theorem below_at(r:xs.toList.Pairwise (· < ·))(h:xs[i]?=a7 j):D6 xs j=i:=by
 obtain⟨hi,e⟩:=MR.mp h;obtain⟨g,c,u⟩:=below_spec xs r j;have m:∀a b (f:a<xs.size) (d:b<xs.size),a<b->xs[a]<xs[b]:=λa b f d h=>by have:=QF.mp r a b (by simpa using f) (by simpa using d) h;simpa using this
 rcases N9 (D6 xs j) i with q|q|q;have d:D6 xs j<xs.size:=by lia
 have:=u _ d<|u5 _;have:=m _ i d hi q;lia;exact q;have:=c i hi q;lia
theorem slot_live{t:n9}(r:t.place.toList.Pairwise (· < ·)){i j:Nat}(h:t.place[i]?=a7 j):t.slot j=.live i:=by unfold SetTable.slot;simp only[below_at r h];rw[o0<|by rw[h];simp]
theorem xO{t:n9}(d:t.dummies = #[]){j:Nat}(h:j∉t.place.toList):t.slot j=.empty:=by
 unfold SetTable.slot;have e:¬(t.place[D6 t.place j]?==a7 j)=a9:=λz=>h (by rw[o8]at z;have:=Array.mem_of_getElem? z;simpa using this);have l:SetTable.has t.dummies j=bt:=by rw[d];rfl
 simp only[e,p5,l,A9]
theorem go_spec{t:n9}(r:t.place.toList.Pairwise (· < ·))(x:t.dummies = #[])(hashAt:Nat->Int)(h:Int):∀(fuel n N:Nat),n<=N->N<n+fuel->(sq t.mask h N).j∉t.place.toList->(∀k,n<=k->k<N->(sq t.mask h k).j∈t.place.toList) ->(∀k,(sq t.mask h k).dummy=a8) ->((∀k i,n<=k->k<N->t.place[i]?=a7 (sq t.mask h k).j->hashAt i≠h)/\Q0 t hashAt h fuel (sq t.mask h n)=a7 (.empty (sq t.mask h N).j a8)) \/∃n' i,n<=n'/\n' < N/\t.place[i]?=a7 (sq t.mask h n').j/\hashAt i=h/\(∀k i,n<=k->k<n'->t.place[i]?=a7 (sq t.mask h k).j->hashAt i≠h)/\Q0 t hashAt h fuel (sq t.mask h n)=a7 (.candidate (sq t.mask h n').j i<|sq t.mask h<|n'+1):=by
 intro fuel;induction fuel with
 |zero=>intro n N h1 h2;lia
 |succ fuel A =>
  intro n N h1 h2 g l m;unfold Q0;by_cases e:n=N;subst e;rw[xO x g];exact .inl ⟨λk i a b=>by lia,by rw[m]⟩;have y:=l n (u5 _) (by lia);obtain⟨i,hi⟩:=MQ y;have d:t.place[i]?=a7 (sq t.mask h n).j:=by rw[<-Ix];exact hi
  rw[slot_live r d];dsimp only;have u:∀i',t.place[i']?=a7 (sq t.mask h n).j->i'=i:=λi' z=>by rw[<-below_at r z,below_at r d]
  by_cases q:hashAt i=h;simp only[o8,q,p6];exact .inr ⟨n,i,u5 _,by lia,d,q,λk i a b=>by lia,rfl⟩;simp only[o8,q,p5];rcases A (n+1) N (by lia) (by lia) g (λk a b=>l k (by lia) b) m with⟨B,C⟩|⟨n',i',F,o,p,s,v,w⟩
  refine .inl ⟨λk i' a b c=>?_,C⟩;rcases Md n k with z|z;exact B k i' z b c;have:k=n:=by lia
  subst this;rw[u i' c];exact q;refine .inr ⟨n',i',by lia,o,p,s,λk f a b c=>?_,w⟩;rcases Md n k with z|z;exact v k f z b c;have:k=n:=by lia
  subst this;rw[u f c];exact q
theorem sq_dummy(m:Nat)(h:Int):∀n,(sq m h n).dummy=a8
 | 0=>rfl
 |n+1=>by show (OV m<|sq m h n).dummy=a8;unfold OV;split;exact sq_dummy m h n;exact sq_dummy m h n
structure TOk(t:n9)(hs:List Int):Prop where
 msk:oo t.mask
 len:t.place.size=hs.length
 nod:t.dummies = #[]
 ris:t.place.toList.Pairwise (· < ·)
 rng:∀j∈t.place.toList,j<=t.mask
 few:t.place.size*5<t.mask*3
 path:∀(i:Nat) (h:Int) (j:Nat),hs[i]?=a7 h->t.place[i]?=a7 j->∃n,(sq t.mask h n).j=j/\∀n',n' < n->(sq t.mask h n').j∈t.place.toList
theorem Bh{m:Nat}{l:List Nat}(n:l.Nodup)(i:∀j∈l,j<=m)(g:l.length<=m):∃j,j<=m/\j∉l:=by refine M9 λf=>?_;have a:∀j∈A7 (m+1),j∈l:=λj L=>M9 λh=>f ⟨j,by have:=G4.mp L;lia,h⟩;have:=L2.nodup_le (A7<|m+1) l P9 a;rw[OC]at this;lia
theorem vt{m:Nat}(f:oo m){l:List Nat}(i:l.Nodup)(r:∀j∈l,j<=m)(g:l.length<=m)(h:Int):∃N,N<10*(m+15)/\(sq m h N).j∉l/\∀k,k<N->(sq m h k).j∈l:=by
 obtain⟨s,hs,u⟩:=Bh i r g;obtain⟨n,o,M⟩:=FJ f h hs;have:∀b n,n<b->(sq m h n).j∉l->∃N,N<=n/\(sq m h N).j∉l/\∀k,k<N->(sq m h k).j∈l:=by
  intro b;induction b with
  |zero=>intro n h;lia
  |succ b t=>intro n v p;by_cases q:∀k,k<n->(sq m h k).j∈l;exact⟨n,u5 _,p,q⟩;have:∃k,k<n/\(sq m h k).j∉l:=M9 λz=>q λk e=>M9 λG=>z ⟨k,e,G⟩;obtain⟨k,e,d⟩:=this;obtain⟨N,F,a,c⟩:=t k (by lia) d;exact⟨N,by lia,a,c⟩
 obtain⟨N,F,a,c⟩:=this (n+1) n (LI _) (by rw[M];exact u);exact⟨N,by lia,a,c⟩
theorem TOk.empty{t:n9}{hs:List Int}(T:TOk t hs)(h:Int):∃N,N<10*(t.mask+15)/\(sq t.mask h N).j∉t.place.toList/\∀k,k<N->(sq t.mask h k).j∈t.place.toList:=by refine vt T.msk (T.ris.imp λh=>x9 h) T.rng ?_ h;have:=T.few;rw[D8];rcases T.msk with e|e|e<;>lia
theorem zS{t:n9}(r:t.place.toList.Pairwise (· < ·)){j:Nat}(L:j∉t.place.toList):(t.put j).1.place.toList=t.place.toList.take (D6 t.place j)++j::t.place.toList.drop (D6 t.place j)/\(t.put j).1.place.toList.Pairwise (· < ·):=by
 obtain⟨o,m,u⟩:=below_spec t.place r j;have e:(t.put j).1.place.toList=t.place.toList.take (D6 t.place j)++j::t.place.toList.drop (D6 t.place j):=by show (Qf t.place (D6 t.place j) j).toList=_;rw[SetTable.toList_insertAt]
 refine⟨e,?_⟩;rw[e,List.pairwise_append];refine⟨r.sublist<|List.take_sublist ..,List.pairwise_cons.mpr ⟨λx c=>?_,r.sublist<|List.drop_sublist ..⟩,λx c y O=>?_⟩;obtain⟨k,h⟩:=MQ c;rw[NE]at h;have d:t.place[D6 t.place j+k]?=a7 x:=by rw[<-Ix];exact h
 obtain⟨g,f⟩:=MR.mp d;have:=u _ g<|OA _ _;rw[f]at this;rcases Md j x with z|z;exact z;have:x=j:=by lia
 subst this;exact o5 (List.mem_of_mem_drop c) L;obtain⟨k,h⟩:=MQ c;rw[Qm]at h;split at h;rename_i l;have d:t.place[k]?=a7 x:=by rw[<-Ix];exact h
 obtain⟨g,f⟩:=MR.mp d;have h1:=m k g l;rw[f]at h1;rcases x6.mp O with rfl|O;exact h1;obtain⟨C,a⟩:=MQ O;rw[NE]at a;have b:t.place[D6 t.place j+C]?=a7 y:=by rw[<-Ix];exact a
 obtain⟨i,n⟩:=MR.mp b;have:=u _ i<|OA _ _;rw[n]at this;lia;cases h
end Ht
namespace L2
open PySem PySem.Spec PyProof.Rows DL PySem.W
theorem fX:Slot "set_iterator" "__iter__" "set_iterator.__iter__":=.of (owner:="set_iterator") (n:="__iter__") (by rw[Pi,Px];kernel_rfl) (by decide +kernel) (by decide +kernel) (by decide +kernel) (by first|exact .inl (by decide +kernel)|exact .inr<|by decide +kernel)<|by rw[isSubtype_type];kernel_rfl
theorem lR:entryFor table "set_iterator.__iter__" = a7 Builtin.«dict_keyiterator.__iter__»:=entryFor_alias (id':="dict_keyiterator.__iter__") (by kernel_rfl) rfl (by decide +kernel)<|by kernel_rfl
theorem nL(a:c5):argsOk "set_iterator.__iter__" ⟨[a],[]⟩:=by unfold argsOk;rw[signature?_of (id:="set_iterator.__iter__") (n:=['_','_','r','e','t','i','_','_']) (o:=['r','o','t','a','r','e','t','i','_','t','e','s']) (by kernel_rfl) ng];kernel_rfl
section
variable{prog:c8}{w:c7}{A:e9}{E:c5->f6->Prop}{s:f6}{a it:c9}{o:d5}{es:Array (Int×c5)}{ep:Nat}{t:n9}
theorem gJ(I:s.heap.get? it=a7 (fA first i n a ep))(h:Q (.ref it) s):f9 (h8 prog w) A (j3<|.ref it) Q E s:=by
 have T:s.TypeIs (.ref it) "set_iterator":=⟨_,I,rfl⟩
 refine Qe T fX<|G8 fX T lR (show f9 _ _ (ret<|.ref it) _ _ s from ?_)<|nL _;exact t4 ⟨_,rfl,"set_iterator",_,T,bv.lookup,h⟩
theorem SetAt.at(S:SetAt h a o es ep t)(k:∀o,h.get? a=a7 o->h'.get? a=a7 o):SetAt h' a o es ep t:=⟨k _ S.ob,S.dt,S.ft⟩
theorem kY(d:w.params.followText "set-order" = a9)(S:SetAt s.heap a o es ep t)(h:Q (((n6 (w.params.setOrder a ep) es)[i]?).map λe=>(e.2,0)) s):f9 (h8 prog w) A (setNext a 0 i ep) Q E s:=by unfold setNext;refine p9<|MD S.ob S.dt S.ft ?_;unfold setsByText;refine p9<|p9<|N5<|t4 ?_;simp only[h8,d,p6,bne_self_eq_false,A9,p5];unfold setWalk;refine p9<|p9<|MD S.ob S.dt S.ft ?_;unfold setsByText;refine p9<|p9<|N5<|t4 ?_;simp only[h8,d,p6];exact p9<|N5<|t4<|t4 h
theorem xE(d:w.params.followText "set-order" = a9)(m:A.handled=a8)(f:a≠it):Walks prog w A it [it,a] [it] es.size (λi v=>((n6 (w.params.setOrder a ep) es).toList.map (·.2))[i]?=a7 v) (λi h=>h.get? it=a7 (fA (j4 0) i es.size a ep)/\SetAt h a o es ep t) where
 sub:=λb d=>by simp at d;simp[d]
 frame:=λ_ _ _ st l=>⟨l it (by simp) _ st.1,st.2.at λo e=>l a (by simp) o e⟩
 item:=λi s Q E hi st c=>by
  have g:(n6 (w.params.setOrder a ep) es).size=es.size:=by have:=(mW (w.params.setOrder a ep) es).length_eq;simpa using this
  obtain⟨e,j⟩:∃e,(n6 (w.params.setOrder a ep) es)[i]?=a7 e:=⟨_,G3<|by rw[g];exact hi⟩
  refine np (slot:=0) (next:=0) (x:=e.2) st.1 st.2 (λA E Q q=>kY d st.2<|by rw[j];exact q) λh' h1 T=>c _ h' s.toks (by simp[j]) ⟨h1,st.2.at λo e=>(T.2 a f).trans e⟩ λb o d e=>(T.2 b<|by simpa using d).trans e
 done:=λs Q E st c=>by
  have g:(n6 (w.params.setOrder a ep) es).size=es.size:=by have:=(mW (w.params.setOrder a ep) es).length_eq;simpa using this
  refine fx (slot:=0) m st.1 st.2 (λA E Q q=>kY d st.2 ?_) λh' k=>c h' s.toks λb o d e=>k b o (by simpa using d) e;rw[Oe<|by rw[g];exact u5 _];exact q
 self:=λ_ _ _ _ st c=>gJ st.1 c
theorem uj{tt:c9}{ps:List Nat}(p:ps.Perm (A7 es.size))(y:A.handled=a8)(m:a≠it)(n:tt≠it):Walks prog w A it [it,a,tt] [it] es.size (λi v=>(ps.filterMap λj=>(es[j]?).map (·.2))[i]?=a7 v) (λi h=>h.get? it=a7 (fA (.ref tt) i es.size a ep)/\SetAt h a o es ep t/\h.IsTuple tt (ps.map λ(k:Nat)=>j4 k).toArray) where
 sub:=λb f=>by simp at f;simp[f]
 frame:=λ_ _ _ st g=>⟨g it (by simp) _ st.1,st.2.1.at λo e=>g a (by simp) o e,let ⟨o,e,r⟩:=st.2.2;⟨o,g tt (by simp) _ e,r⟩⟩
 item:=λi s Q E hi st d=>by
  have u:ps.length=es.size:=by have:=p.length_eq;simpa using this
  have l:∀j∈ps,j<es.size:=λj L=>by have:=p.mem_iff.mp L;simpa using this
  have L:ps[i]?=a7 ps[i]:=x3 (by lia);have c:ps[i]<es.size:=l _<|L5 _;have q:es[ps[i]]?=a7 es[ps[i]]:=G3 c;have x:(ps.filterMap λj=>(es[j]?).map (·.2))=ps.map λj=>(es.getD j default).2:=by
   clear L u p hi st d q c;induction ps with
   |nil=>rfl
   |cons j r z=>have L:=l j C1;rw[Mq,G3 L,C0,<-z λk g=>l k<|A6 _ g];simp[Mj,L]
  refine xV st.1 st.2.2 st.2.1 L q λh' h1 T=>d _ h' s.toks ?_ ⟨h1,st.2.1.at λo e=>(T.2 a m).trans e,let ⟨o,e,r⟩:=st.2.2;⟨o,(T.2 tt n).trans e,r⟩⟩ λb o f e=>(T.2 b<|by simpa using f).trans e;rw[x,C5,L];simp[Mj,c]
 done:=λs Q E st d=>by
  have u:ps.length=es.size:=by have:=p.length_eq;simpa using this
  exact nV y st.1 st.2.2 st.2.1 (M8<|by lia) λh' k=>d h' s.toks λb o f e=>k b o (by simpa using f) e
 self:=λ_ _ _ _ st d=>gJ st.1 d
theorem kZ(b:w.params.followText "set-order" = bt)(d:t.led=a9)(c:es.size<=1)(S:SetAt s.heap a o es ep t)(h:Q (match es[D6 t.place slot]?,t.place[D6 t.place slot]? with|some (_,x),a7 j=>a7 (x,j+1)|_,_=>a8) s):f9 (h8 prog w) A (setNext a slot i ep) Q E s:=by unfold setNext;refine p9<|MD S.ob S.dt S.ft ?_;unfold setsByText;refine p9<|p9<|N5<|t4 ?_;simp only[h8,b,A9,p5];refine MX (λz=>?_) λ_=>?_;have G:(!t.plain&&decide (es.size > 1))=a9:=z;simp at G;lia;refine p9<|show f9 (h8 prog w) A (if (!t.led && !es.isEmpty)=a9 then unsupported _ else pure ()) _ _ s from ?_;rw[d];simp only[MV,Pg,A9,p5];exact t4<|t4 h
theorem tW(j k:Nat):D6 #[j] k=if j<k then 1 else 0:=by unfold D6;simp only[y4,C4,C8];unfold N8;simp only[Nat.zero_lt_succ,p6];by_cases h:j<k;simp[h,N8];simp[h,N8]
theorem xF(d:w.params.followText "set-order" = bt)(c:t.led=a9)(g:es.size<=1)(r:A.handled=a8)(l:a≠it):Walks prog w A it [it,a] [it] es.size (λi v=>(es.toList.map (·.2))[i]?=a7 v) (λi h=>h.get? it=a7 (fA (j4 (if i=0 then 0 else t.place.getD 0 0+1:Nat)) i es.size a ep)/\SetAt h a o es ep t) where
 sub:=λb d=>by simp at d;simp[d]
 frame:=λ_ _ _ st n=>⟨n it (by simp) _ st.1,st.2.at λo e=>n a (by simp) o e⟩
 item:=λi s Q E hi st f=>by
  obtain rfl:i=0:=by lia
  have ps:t.place.size=1:=by have:=st.2.ft;simp[Ov]at this;lia
  obtain⟨j,L⟩:∃j,t.place = #[j]:=⟨t.place[0],by apply Array.ext (by simpa using ps);intro i h1 h2;simp at h2;subst h2;rfl⟩
  have m:es[0]?=a7 es[0]:=G3 hi;refine np (slot:=0) (next:=j+1) (x:=es[0].2) st.1 st.2 (λA E Q q=>kZ d c g st.2 ?_) λh' h1 T=>f _ h' s.toks ?_ ⟨?_,st.2.at λo e=>(T.2 a l).trans e⟩ λb o d e=>(T.2 b<|by simpa using d).trans e;rw[L,tW,o4<|MY _,m];exact q;rw[C5,Ix,m];rfl;simpa [L]using h1
 done:=λs Q E st f=>by
  refine fx (slot:=if es.size=0 then 0 else t.place.getD 0 0+1) r st.1 st.2 (λA E Q q=>kZ d c g st.2 ?_) λh' k=>f h' s.toks λb o d e=>k b o (by simpa using d) e;have ps:t.place.size=es.size:=by have:=st.2.ft;simp[Ov]at this;lia
  by_cases z:es.size=0;have:es = #[]:=Array.eq_empty_of_size_eq_zero z;subst this;simpa using q;obtain⟨j,L⟩:∃j,t.place = #[j]:=⟨t.place[0],by apply Array.ext (by simp;lia);intro i h1 h2;simp at h2;subst h2;rfl⟩
  have p:D6 t.place (if es.size=0 then 0 else t.place.getD 0 0+1)=1:=by rw[o4 z,L,tW];simp
  rw[p,Oe<|by lia];exact q
 self:=λ_ _ _ _ st f=>gJ st.1 f
theorem lc(c:w.params.followText "set-order" = bt)(d:t.led=a9)(b:(!t.plain&&decide (es.size > 1))=bt)(S:SetAt s.heap a o es ep t)(h:Q (match es[D6 t.place slot]?,t.place[D6 t.place slot]? with|some (_,x),a7 j=>a7 (x,j+1)|_,_=>a8) s):f9 (h8 prog w) A (setNext a slot i ep) Q E s:=by unfold setNext;refine p9<|MD S.ob S.dt S.ft ?_;unfold setsByText;refine p9<|p9<|N5<|t4 ?_;simp only[h8,c,A9,p5];refine MX (λz=>?_) λ_=>?_;have G:(!t.plain&&decide (es.size > 1))=a9:=z;rw[b]at G;cases G;refine p9<|show f9 (h8 prog w) A (if (!t.led && !es.isEmpty)=a9 then unsupported _ else pure ()) _ _ s from ?_;rw[d];simp only[MV,Pg,A9,p5];exact t4<|t4 h
theorem xG(d:w.params.followText "set-order" = bt)(c:t.led=a9)(j:(!t.plain&&decide (es.size > 1))=bt)(G:t.place.toList.Pairwise (· < ·))(I:A.handled=a8)(r:a≠it):Walks prog w A it [it,a] [it] es.size (λi v=>(es.toList.map (·.2))[i]?=a7 v) (λi h=>h.get? it=a7 (fA (j4 (if i=0 then 0 else t.place.getD (i-1) 0+1:Nat)) i es.size a ep)/\SetAt h a o es ep t):=by
 have l:∀i,i<=t.place.size->D6 t.place (if i=0 then 0 else t.place.getD (i-1) 0+1)=i:=λi hi=>by
  obtain⟨n,f,u⟩:=Ht.below_spec t.place G<|if i=0 then 0 else t.place.getD (i-1) 0+1;have m:∀a b (B:a<t.place.size) (d:b<t.place.size),a<b->t.place[a]<t.place[b]:=λa b B d h=>by have:=QF.mp G a b (by simpa using B) (by simpa using d) h;simpa using this
  by_cases z:i=0;rw[o0 z]at n f u ⊢;rcases Nat.eq_zero_or_pos (D6 t.place 0)with q|q;rw[q,z];have:=f 0 (by lia) q;lia;rw[o4 z]at n f u ⊢;have p:i-1<t.place.size:=by lia
  have H:t.place.getD (i-1) 0=t.place[i-1]:=by simp[Mj,p]
  rw[H]at n f u ⊢;rcases N9 (D6 t.place<|t.place[i-1]+1) i with q|q|q;have:=u (i-1) p (by lia);lia;exact q;have:=f i (by lia) q;have:=m (i-1) i p (by lia) (by lia);lia
 exact {
  sub:=λb d=>by simp at d;simp[d]
  frame:=λ_ _ _ st D=>⟨D it (by simp) _ st.1,st.2.at λo e=>D a (by simp) o e⟩
  item:=λi s Q E hi st g=>by
   have ps:t.place.size=es.size:=by have:=st.2.ft;simp[Ov]at this;lia
   have F:i<t.place.size:=by lia
   have C:es[i]?=a7 es[i]:=G3 hi;have y:t.place[i]?=a7 t.place[i]:=G3 F;refine np (next:=t.place[i]+1) (x:=es[i].2) st.1 st.2 (λA E Q q=>lc d c j st.2 ?_) λh' h1 T=>g _ h' s.toks ?_ ⟨?_,st.2.at λo e=>(T.2 a r).trans e⟩ λb o d e=>(T.2 b<|by simpa using d).trans e;rw[l i (by lia),C,y];exact q;rw[C5,Ix,C];rfl;rw[o4<|Nat.succ_ne_zero i,Nat.add_sub_cancel,show t.place.getD i 0=t.place[i] by simp[Mj,F]];exact h1
  done:=λs Q E st g=>by
   have ps:t.place.size=es.size:=by have:=st.2.ft;simp[Ov]at this;lia
   refine fx I st.1 st.2 (λA E Q q=>lc d c j st.2 ?_) λh' k=>g h' s.toks λb o d e=>k b o (by simpa using d) e;rw[l es.size (by lia),Oe<|u5 _];exact q
  self:=λ_ _ _ _ st g=>gJ st.1 g }
end
section
variable{prog:c8}{w:c7}{A:e9}{E:c5->f6->Prop}{s:f6}{a:c9}{o:d5}{es:Array (Int×c5)}{ep:Nat}{t:n9}
theorem Dy(S:SetAt s.heap a o es ep t)(B:o.cls=.type "set")(x:t.plain=a9->es.size<=1\/t.place.toList.Pairwise (· < ·))(g:t.led = !w.params.followText "set-order")(hz:es.size<=sizeLine)(h:∀(it:c9) (h':d6) (d:Drawn) (vs:List c5) (fp:List c9) (St:Nat->d6->Prop),(∀b o,s.heap.get? b=a7 o->h'.get? b=a7 o)->vs.Perm (es.toList.map (·.2))->s.heap.objs.size<=it->it<h'.objs.size->(∀b∈fp,b=a\/s.heap.objs.size<=b/\b<h'.objs.size) -> (∀A':e9,A'.handled=a8->Walks prog w A' it fp [it] es.size (λi v=>vs[i]?=a7 v) St)->St 0 h'->Q (.ref it) { s with heap:=h',drawn:=d }):f9 (h8 prog w) A (j3<|.ref a) Q E s:=by
 have T:s.TypeIs (.ref a) "set":=⟨o,S.ob,B⟩
 have r:a<s.heap.objs.size:=v9 S.ob;refine Qe T F.slot_set_iter<|G8 F.slot_set_iter T qx ?_<|F.args_set_iter_1 _;unfold Builtin.«frozenset.__iter__»;refine p9<|show f9 (h8 prog w) _ (pure a) _ _ s from t4 ?_;unfold Builtin.Frozenset.sizeOf;refine p9<|p9<|Pu S.ob S.dt S.ft<|t4 ?_;unfold setDrawn;refine p9<|p9<|MD S.ob S.dt S.ft ?_;unfold setsByText;refine p9<|p9<|N5<|t4<|t4 ?_;by_cases p:(!w.params.followText "set-order" && (!t.plain&&decide (es.size > 1)))=a9;refine MX (λ_=>?_) λz=>o5 p z;refine p9<|tE _ _ _ _ (by simp) λps d u=>?_;refine p9<|show f9 (h8 prog w) _ (newObj (.type "tuple")<|.seq (ps.map λ(i:Nat)=>j4 i).toArray) _ _ _ from J1 ?_ (by have e:=u.length_eq;rw[OC]at e;show (ps.map λ(i:Nat)=>j4 i).toArray.size<=sizeLine;rw[y4,u6,e];exact hz);have S1:=S.at (h':=s.heap.push { cls:=.type "tuple",data:=.seq (ps.map λ(i:Nat)=>j4 i).toArray }) λo e=>v7 _ e;refine p9<|wpAny_setEpoch_of (s:={ s with heap:=_,drawn:=d }) S1.ob S1.dt S1.ft ?_;refine p9 (show f9 (h8 prog w) _ (newObj (.type "set_iterator")<|.fields #[.ref s.heap.objs.size,j4 0,.ref a,j4 es.size,j4 ep]) _ _ _ from J1 ?_<|by size_fits);refine t4 ⟨_,rfl,"set_iterator",_,⟨_,z0 _ rfl,rfl⟩,bv.lookup,?_⟩;have n:(s.heap.push { cls:=.type "tuple",data:=.seq (ps.map λ(i:Nat)=>j4 i).toArray }).objs.size=s.heap.objs.size+1:=LG ..;refine h _ _ d (ps.filterMap λj=>(es[j]?).map (·.2)) _ _ (λb o e=>v7 _<|v7 _ e) ?_ (by show s.heap.objs.size<=(s.heap.push _).objs.size;rw[n];exact Os _) (by show _<((s.heap.push _).push _).objs.size;rw[LG (h:=s.heap.push _)];exact LI _) ?_ (λA' k=>uj (o:=o) (t:=t) (ep:=ep) u k (x9<|by rw[n];exact NC r)<|x9<|by rw[n];exact LI _) ⟨z0 _ rfl,S1.at λo e=>v7 _ e,⟨_,v7 _<|z0 _ rfl,rfl,_,rfl⟩⟩;refine(u.filterMap _).trans ?_;have y:(A7 es.size).filterMap (λj=>(es[j]?).map (·.2))=((A7 es.size).filterMap λj=>es[j]?).map (·.2):=by rw[List.map_filterMap]
 rw[y,filterMap_getElem?_range];intro b c;rw[LG,n];rcases x6.mp c with rfl|c;exact .inr ⟨by rw[n];exact Os _,by rw[n];exact LI _⟩;rcases x6.mp c with rfl|c;exact .inl rfl;rw[LJ.mp c];exact .inr ⟨u5 _,NC<|LI _⟩;refine MX (λz=>o5 z p) λ_=>?_;refine p9<|t4<|p9<|wpAny_setEpoch_of S.ob S.dt S.ft ?_;refine p9 (show f9 (h8 prog w) _ (newObj (.type "set_iterator")<|.fields #[j4 0,j4 0,.ref a,j4 es.size,j4 ep]) _ _ _ from J1 ?_<|by size_fits);refine t4 ⟨_,rfl,"set_iterator",_,⟨_,z0 _ rfl,rfl⟩,bv.lookup,?_⟩;have S1:=S.at (h':=s.heap.push<|fA (j4 0) 0 es.size a ep) λo e=>v7 _ e;have l:∀b∈[s.heap.objs.size,a],b=a\/s.heap.objs.size<=b/\b<(s.heap.push<|fA (j4 0) 0 es.size a ep).objs.size:=λb c=>by rcases x6.mp c with rfl|c;exact .inr ⟨u5 _,by rw[LG];exact LI _⟩;exact .inl<|LJ.mp c
 by_cases c:w.params.followText "set-order" = a9;refine h _ _ s.drawn ((n6 (w.params.setOrder a ep) es).toList.map (·.2)) _ _ (λb o e=>v7 _ e) ((mW _ es).map _) (u5 _) (by rw[LG];exact LI _) l (λA' k=>xE (o:=o) (t:=t) (ep:=ep) c k<|x9 r) ⟨z0 _ rfl,S1⟩;have f:w.params.followText "set-order" = bt:=by simpa using c
 have m:(!t.plain&&decide (es.size > 1))=bt:=by rw[f]at p;simpa using p
 have am:es.size<=1\/t.place.toList.Pairwise (· < ·):=by by_cases q:t.plain=a9;exact x q;simp[q]at m;exact .inl m
 rcases am with h1|C;refine h _ _ s.drawn (es.toList.map (·.2)) _ _ (λb o e=>v7 _ e) (NY _) (u5 _) (by rw[LG];exact LI _) l (λA' k=>xF (o:=o) (t:=t) (ep:=ep) f (by rw[g,f];rfl) h1 k<|x9 r) ⟨?_,S1⟩;rw[o0 rfl];exact z0 _ rfl;refine h _ _ s.drawn (es.toList.map (·.2)) _ _ (λb o e=>v7 _ e) (NY _) (u5 _) (by rw[LG];exact LI _) l (λA' k=>xG (o:=o) (t:=t) (ep:=ep) f (by rw[g,f];rfl) m C k<|x9 r) ⟨?_,S1⟩;rw[o0 rfl];exact z0 _ rfl
end
end L2
namespace L2
open PySem PySem.Spec PyProof.Rows DL PySem.W PySem.Calls PyProof.V
section
variable{prog:c8}{w:c7}{A:e9}{E:c5->f6->Prop}{s:f6}{a:c9}{o:d5}{es:Array (Int×c5)}{ep:Nat}{t:n9}
theorem DH(n:s.TypeIs (.ref a) "set")(h:Q bt s):f9 (h8 prog w) A (RI<|.ref a) Q E s:=by
 unfold RI;refine p9<|Ni n F.slot_set_len.lookup ?_;generalize hi:("set.__len__":String)=t
 wp_delta
 rw[show splitId t=a7 ("set","__len__") by rw[<-hi];decide +kernel];rw[<-hi];refine p9<|Ny (T:="set") (b:=a9) n sub_set_self<|MX (λz=>o5 z<|by decide) λ_=>MX (λ_=>p9<|My n<|t4 h) λz=>o5 (by decide +kernel) z
theorem yx{R:Result->f6->Prop}(N:A.handled=a8)(S:SetAt s.heap a o es ep t)(B:o.cls=.type "set")(G:t.plain=a9->es.size<=1\/t.place.toList.Pairwise (· < ·))(v:t.led = !w.params.followText "set-order")(hz:es.size<=sizeLine){D:c9}{c₀:Nat} (p:D≠a) (L:s.heap.get? D=a7 { cls:=.type "list",data:=.seq #[] c₀ }) (res:c5)(Y:∀h' tk d vs c,(∀b u,b≠D->s.heap.get? b=a7 u->h'.get? b=a7 u)->h'.get? D=a7 { cls:=.type "list",data:=.seq vs c }->vs.toList.Perm (es.toList.map (·.2))->R (.ok<|.ret res) { s with heap:=h',toks:=tk,drawn:=d }):f9 (h8 prog w) A.in1 (QJ (.ref D) (.ref a) res)
   (λfin s'=>match fin with|.done f=>R (.ok f) s'|.again c'=>c'.quiet=a9/\k5 (h8 prog w) A c' R s') (λe s'=>R (.error e) s') s:=by
 have ld:D<s.heap.objs.size:=v9 L;have Z:s.TypeIs (.ref a) "set":=⟨o,S.ob,B⟩
 unfold QJ;refine p9<|My Z ?_;have Q:Builtin.List.listSameRef (.ref D) (.ref a)=bt:=by simp[Builtin.List.listSameRef,p]
 have T:(Nd "set" == Nd "list")=bt:=by decide
 have U:(Nd "set" == Nd "tuple")=bt:=by decide
 simp only[Q,T,U,Bool.or_false,A9,p5];refine p9<|Dy S B G v hz λit h1 d vs X St H pv I ai C W st=>?_;have M:D∉X:=λz=>by
  rcases C D z with e|⟨e,_⟩
  exact p e;exact o5 ld<|MT.mpr e
 have lv:vs.length=es.size:=by have:=pv.length_eq;simpa using this
 have K:∀(h:d6) (g:Nat),St 0 h->(∀b u,b≠D->h1.get? b=a7 u->h.get? b=a7 u)->h.get? D=a7 { cls:=.type "list",data:=.seq #[] g } -> k5 (h8 prog w) A (.builtin "list.extend.loop" ⟨[.ref D,.ref it,res],[]⟩) R { s with heap:=h,drawn:=d }:=λh g J kk y=>by
  refine codeAny_extend_loopS (W A.in1<|by simp[N]).toS hz D M res es.size 0 _ #[] g rfl (z8 _) J y (ItemsOf.nil _) λs' acc c' O m j=>?_;rw[Moved.eq_with O];have V:acc.toList=vs:=by
   apply Qh;intro i;by_cases hi:i<es.size;have E:i<acc.size:=by rw[j.1];exact hi
   have h1:acc[i]?=a7 acc[i]:=G3 E;rw[Ix,h1];exact(j.2 i _ h1).symm;rw[M8 (by rw[D8,j.1];lia),M8<|by lia]
  refine Y s'.heap s'.toks d acc c' (λb u k e=>O.heap b u (λz=>?_)<|kk b u k<|H b u e) m (by rw[V];exact pv);rcases x6.mp z with P|z;exact k P;rw[LJ.mp z]at e;exact o5 (v9 e)<|MT.mpr I
 have l:=H _ _ L;refine p9<|E2<|DH (s:={ s with heap:=h1,drawn:=d }) ⟨o,H _ _ S.ob,B⟩ ?_;refine MX (λz=>?_) λ_=>t4 ⟨MW F.plain_extend_loop _,K h1 c₀ st (λ_ _ _ e=>e) l⟩;refine p9 (L1 (p9 (show f9 (h8 prog w) _ (updateSeq D (·.push .none) >>= λ_=>updateSeq D (·.pop)) _ _ _ from p9<|wpAny_updateSeq l rfl ?_)));have n:=LO (F9 (·.push H9)) l rfl;refine wpAny_updateSeq (hz:=by seq_fits) n rfl ?_;have x:=LO (F9 (·.pop)) n rfl;have r:∀b,b≠D->((h1.update D (F9 (·.push H9))).update D (F9 (·.pop))).get? b=h1.get? b:=λb k=>by rw[OJ _ _<|w9 k,OJ _ _<|w9 k]
 refine t4 ⟨MW F.plain_extend_loop _,K _ _ ((W A N).frame 0 _ _ st λb k u e=>(r b λq=>M<|q ▸ k).trans e) (λb u k e=>(r b k).trans e) x⟩
theorem xN{Q:c5->f6->Prop}(H:A.handled=a8)(S:SetAt s.heap a o es ep t)(G:o.cls=.type "set")(B:t.plain=a9->es.size<=1\/t.place.toList.Pairwise (· < ·))(y:t.led = !w.params.followText "set-order")(hz:es.size<=sizeLine)(h:∀h' tk d D (vs:List c5),(∀b u,s.heap.get? b=a7 u->h'.get? b=a7 u)->s.heap.get? D=a8->h'.get? D=a7 { cls:=.type "list",data:=.seq vs.toArray }->vs.Perm (es.toList.map (·.2)) -> f9 (h8 prog w) A.in1 (call (.builtin "list.sort") [.ref D]) (λ_ s'=>Q (.ref D) s') E { s with heap:=h',toks:=tk,drawn:=d }):f9 (h8 prog w) A (call (.builtin "sorted") [.ref a]) Q E s:=by
 have I:a<s.heap.objs.size:=v9 S.ob;refine call_function_entry kind_sorted plain_sorted entry_sorted (args_sorted1 _) ?_;unfold Builtin.«sorted»;refine p9 (m:=checkCount "sorted" 1 1 _)<|t4 ?_;unfold collect;refine p9<|p9<|wpAny_runValue<|MC F.entry_proto_collect ?_;rw[Nk F.plain_proto_collect _];refine(show f9 (h8 prog w) _ (newList [] >>= λl=>again<|.builtin "list.__iadd__" ⟨[l,.ref a],[]⟩) _ _ s from p9<|J1<|t4 ⟨MW F.plain_list_iadd _,MC F.entry_list_iadd ?_⟩);rw[Nk F.plain_list_iadd _];have S1:=S.at (h':=s.heap.push { cls:=.type "list",data:=.seq ([]:List c5).toArray }) λo e=>v7 _ e;have C:=yx (prog:=prog) (A:=A.in1) (s:={ s with heap:=s.heap.push { cls:=.type "list",data:=.seq ([]:List c5).toArray } }) (D:=s.heap.objs.size) (c₀:=0) (res:=.ref s.heap.objs.size) (R:=λr s'=>∃h' tk d vs c,r=.ok (.ret<|.ref s.heap.objs.size)/\s'={ s with heap:=h',toks:=tk,drawn:=d }/\(∀b u,s.heap.get? b=a7 u->h'.get? b=a7 u)/\h'.get? s.heap.objs.size=a7 { cls:=.type "list",data:=.seq vs c }/\vs.toList.Perm (es.toList.map (·.2))) (by simp[H]) S1 G B y hz (NQ I) (z0 _ rfl) λh' tk d vs c k g p=>⟨h',tk,d,vs,c,rfl,rfl,λb u e=>k b u (x9<|v9 e)<|v7 _ e,g,p⟩
 have i:∀h' tk d (vs:Array c5) c,(∀b u,s.heap.get? b=a7 u->h'.get? b=a7 u)->h'.get? s.heap.objs.size=a7 { cls:=.type "list",data:=.seq vs c }->vs.toList.Perm (es.toList.map (·.2)) -> f9 (h8 prog w) A.in1 (do let ob <-load s.heap.objs.size;match ob.data with|.seq xs _=>pure xs.toList|_=>unsupported "internal:collect":Sem (List c5)) (λxs s'=>f9 (h8 prog w) A.in1 (do let l <-newList xs;let _ <-i7 [l] (call (.builtin "list.sort") [l] []);ret l) (λn s'=>∃v,n=Fin.done (Flow.ret v)/\Q v s') E s') E { s with heap:=h',toks:=tk,drawn:=d }:=λh' tk d vs c j g p=>by
  refine p9 (wpAny_load g<|t4<|p9<|NV ?_<|by rw[p.length_eq];simpa using hz);have J:s.heap.objs.size<h'.objs.size:=v9 g;refine p9<|E2<|E7 (h (h'.push { cls:=.type "list",data:=.seq vs.toList.toArray }) tk d h'.objs.size vs.toList (λb u e=>v7 _<|j b u e) ?_ (z0 _ rfl) p) (λ_ s' q=>t4 ⟨_,rfl,q⟩) λ_ _ z=>z;cases q:s.heap.get? h'.objs.size with
  |none=>rfl
  |some o'=>exact o5 (v9<|j _ _ q)<|D4 _
 refine E7 C (λn s' x=>?_) λe s' ⟨_,_,_,_,_,z,_⟩=>by cases z
 cases n with
 |done f=>obtain⟨h',tk,d,vs,c,z,rfl,j,g,p⟩:=x;cases z;exact i h' tk d vs c j g p
 |again c'=>refine⟨x.1,NP x.2 ?_⟩;rintro r K ⟨h',tk,d,vs,c,z,e,j,g,p⟩;subst z e;exact i h' tk d vs c j g p
end
end L2
namespace L2
open PySem PySem.Spec PyProof.Rows DL PySem.W
section
variable{X:Cx}{e:ge}{te:v5}{p p' pos pos':i3}{k:Nat}
theorem q9.drew(I:q9 X pins σ H s):q9 X pins σ H { s with drawn:=d }:=⟨I.ok,I.os,I.bare,I.base,I.loc,I.cell,I.free,I.freeC,I.pin,I.hok,I.len⟩
end
end L2
namespace L2
open PySem PySem.Spec PyProof.Rows DL PySem.Builtin PySem.Builtin.Str PySem.StrLaws
theorem Bx(a b B:Nat):strSliceIndices (a7 (a:Int)) (a7 (b:Int)) 1 B=strSliceIndices (a7 ((min a B:Nat):Int)) (a7 ((min b B:Nat):Int)) 1 B:=by
 have e:∀i:Nat,max (0:Int) (min (i:Int) (B:Int))=max (0:Int) (min ((min i B:Nat):Int) (B:Int)):=λi=>by lia
 have n:∀i:Nat,¬((i:Int)<0):=λi=>by lia
 simp only[strSliceIndices,n,p5,show ((1:Int) > 0)=True by simp,p6];rw[e a,e b]
theorem jF(x:c6)(l u:Option Int):(K5 x l u).cps.toList=if (strSliceIndices l u 1 x.length).length=x.length then x.cps.toList else(strSliceIndices l u 1 x.length).filterMap (x.cps[·]?):=by unfold K5;by_cases h:(strSliceIndices l u 1 x.length).length=x.length;rw[o0 (by simp[h]),o0 h];rw[o4 (by simp[h]),o4 h]
theorem jE(x:c6){a b:Nat}(S:a<=b):(K5 x (a7 (a:Int))<|a7 (b:Int)).cps.toList=(x.cps.toList.drop a).take (b-a):=by
 have d:min a x.length<=min b x.length:=by lia
 have l:(strSliceIndices (a7 ((min a x.length:Nat):Int)) (a7 ((min b x.length:Nat):Int)) 1 x.length).filterMap (x.cps[·]?)=(x.cps.toList.drop<|min a x.length).take (min b x.length-min a x.length):=sliced_plain x d<|Nat.min_le_right ..;have Q:=cf (a:=x);have n:(x.cps.toList.drop<|min a x.length).take (min b x.length-min a x.length)=(x.cps.toList.drop a).take (b-a):=by by_cases f:a<=x.length;rw[Ph f];by_cases c:b<=x.length;rw[Ph c];rw[Nat.min_eq_right (by lia),Py (by rw[Mn];lia),Py<|by rw[Mn];lia];rw[Qy (i:=a) (by lia),Qy (i:=min a x.length)<|by lia];simp
 rw[jF,Bx,l,n];split;rename_i h;rw[strSliceIndices_plain d<|Nat.min_le_right ..]at h;simp only[u6,OC]at h;have e:min a x.length=0:=by lia
 by_cases g:x.length=0;have:x.cps.toList=[]:=Ry (by lia);rw[this];simp;have:a=0:=by lia
 subst this;rw[List.drop_zero,Py<|by lia];rfl
theorem zF(x y:c6):Ox x y=decide (x.cps.toList.take y.length=y.cps.toList):=by unfold Ox;rw[subAt_eq,List.drop_zero,Nat.zero_add,Nx];have b:=cf (a:=x);have g:=cf (a:=y);simp only[D3,o6,o8];constructor;exact λh=>h.2;intro h;refine⟨?_,h⟩;have:=p7 K6 h;rw[G0]at this;lia
noncomputable def bY(l:List Nat)(c:Nat):List Nat:=(A7 l.length).filter λi=>l[i]?==a7 c
theorem Ao(x:c6)(c:Nat):occurrences x ⟨#[c]⟩ 0 x.length (x.length+1)=bY x.cps.toList c:=by
 have Q:=cf (a:=x);rw[occ_eq];have o:∀(k m:Nat) (st:Array Nat×Nat),m+k=x.length+1->st.1.toList=(A7 m).filter (λi=>x.cps.toList[i]?==a7 c)->st.2<=m -> (forIn (List.range' m k) st<|occBody x ⟨#[c]⟩ x.length<|x.length+1).run.fst.toList=(A7<|m+k).filter (λi=>x.cps.toList[i]?==a7 c):=by
  intro k;induction k with
  |zero=>intro m st e h1 h2;exact h1
  |succ k b =>
   intro m st e h1 h2;rw[List.range'_succ,Pj];unfold occBody;have hs:st.1.size<=m:=by have:=p7 K6 h1;rw[D8]at this;have l:=LN (λi=>x.cps.toList[i]?==a7 c)<|A7 m;rw[OC]at l;lia
   have y:=subAt_one x c m;have r:(A7<|m+1).filter (λi=>x.cps.toList[i]?==a7 c)=(A7 m).filter (λi=>x.cps.toList[i]?==a7 c)++if x.cps.toList[m]?=a7 c then[m]else[]:=by rw[List.range_succ,OD];congr 1;by_cases z:x.cps.toList[m]?=a7 c;rw[List.filter_cons_of_pos (by rw[o8];exact z),o0 z];rfl;rw[Rj (by rw[o8];exact z),o4 z];rfl
   by_cases z:x.cps.toList[m]?=a7 c;obtain⟨D,C⟩:=y.mpr z;rw[o0 ⟨⟨⟨by lia,h2⟩,D⟩,C⟩];rw[o0 z]at r;have:=b (m+1) (st.1.push m,m+(⟨#[c]⟩:c6).length) (by lia) (by rw[Qg,h1,r])<|show m+1<=m+1 from u5 _;rw[show m+(k+1)=m+1+k by lia];exact this;rw[o4 λh=>z<|y.mp ⟨h.1.2,h.2⟩];rw[o4 z,G7]at r;have:=b (m+1) (st.1,st.2) (by lia) (by rw[h1,r]) (by show st.2<=m+1;lia);rw[show m+(k+1)=m+1+k by lia];exact this
 have:=o (x.length+1) 0 (#[],0) (by lia) rfl<|u5 _;rw[show x.length+1-0=x.length+1 by lia,this];unfold bY;rw[<-Q,Nat.zero_add,List.range_succ,OD];have:x.cps.toList[x.length]?=a8:=M8 (by lia);rw[Rj (by rw[o8,this];simp),List.filter_nil,G7]
theorem eM:i∈bY l c↔l[i]?=a7 c:=by unfold bY;rw[B9,G4,o8];exact⟨λh=>h.2,λh=>⟨(x5.mp h).1,h⟩⟩
theorem xM(l:List Nat)(c:Nat):(bY l c).Pairwise (· < ·):=Pw _<|List.pairwise_lt_range
theorem rT(hi:(bY l c)[k]?=a7 i)(L:((bY l c)++[l.length])[k+1]?=a7 j):i<j/\j<=l.length/\(j=l.length\/l[j]?=a7 c)/\∀m,i<m->m<j->l[m]?≠a7 c:=by
 have w:=xM l c;have y:i<l.length:=(x5.mp<|eM.mp<|F0 hi).1;obtain⟨r,u⟩:=x5.mp hi;have f:∀a b (o:a<(bY l c).length) (p:b<(bY l c).length),a<b->(bY l c)[a]<(bY l c)[b]:=λa b o p h=>QF.mp w a b o p h;by_cases g:k+1<(bY l c).length;rw[J2 g]at L;obtain⟨_,z⟩:=x5.mp L;have d:=eM.mp<|F0 L;refine⟨by rw[<-u,<-z];exact f _ _ _ _<|LI _,NR (x5.mp d).1,.inr d,λm h1 h2 n=>?_⟩;obtain⟨t,D,v⟩:=Pv<|eM.mpr n;rcases N9 t k with q|q|q;have:=f t k D r q;lia;subst q;lia;rcases Md (k+1) t with s|s;have:=f (k+1) t g D s;lia;have:t=k+1:=by lia
 subst this;lia;have e:k+1=(bY l c).length:=by lia
 rw[Mf (by lia),e,Nr]at L;simp at L;subst L;refine⟨y,u5 _,.inl rfl,λm h1 h2 n=>?_⟩;obtain⟨t,D,v⟩:=Pv<|eM.mpr n;rcases N9 t k with q|q|q;have:=f t k D r q;lia;subst q;lia;lia
theorem kt(x:c6)(c:Nat)(f:c<256):∀y,y∈(J0 x ⟨#[c]⟩).drop 1↔∃k i j,(bY x.cps.toList c)[k]?=a7 i/\(bY x.cps.toList c++[x.cps.toList.length])[k+1]?=a7 j/\y=strSub x (i+1) j:=by
 intro y;have Q:=cf (a:=x);unfold J0;have a8:bY x.cps.toList c=[]->(y∈([x]:List c6).drop 1↔∃k i j,(bY x.cps.toList c)[k]?=a7 i/\(bY x.cps.toList c++[x.cps.toList.length])[k+1]?=a7 j/\y=strSub x (i+1) j):=λe=>by rw[e];simp
 by_cases h1:(decide (x.length<(⟨#[c]⟩:c6).length)||decide (NF x<NF ⟨#[c]⟩))=a9;rw[o0 h1];apply a8;rw[Ag]at h1;have D:NF (⟨#[c]⟩:c6)=1:=by simp[NF,f]
 have C:1<=NF x:=by unfold NF;split<;>(try split)<;>lia
 have:x.length=0:=by rw[D]at h1;simp only[Nw,o6]at h1;lia
 unfold bY;rw[<-Q,this];rfl;rw[o4 h1,Ao];by_cases h2:(bY x.cps.toList c).isEmpty=a9;rw[o0 h2];exact a8<|List.isEmpty_iff.mp h2;rw[o4 h2];unfold partsBetween;rw[Ag,<-O8];have e:((0::(bY x.cps.toList c).map (· + 1)).zip<|bY x.cps.toList c++[x.length]).drop 1=((bY x.cps.toList c).map (· + 1)).zip ((bY x.cps.toList c++[x.cps.toList.length]).drop 1):=by
  cases q:bY x.cps.toList c with
  |nil=>rw[q]at h2;exact o5 rfl h2
  |cons a r=>rw[Q];rfl
 rw[e,v8];constructor;rintro⟨⟨i,j⟩,hm,rfl⟩;obtain⟨k,h⟩:=MQ hm;obtain⟨F,b⟩:=Ru.mp h;rw[C5]at F;cases q:(bY x.cps.toList c)[k]? with
 |none=>rw[q]at F;cases F
 |some i'=>rw[q]at F;have:i'+1=i:=A5 F;subst this;rw[NE,Nat.add_comm]at b;exact⟨k,i',j,q,b,rfl⟩
 rintro⟨k,i,j,h1,h2,rfl⟩;refine⟨(i+1,j),?_,rfl⟩;have:(((bY x.cps.toList c).map (· + 1)).zip<|(bY x.cps.toList c++[x.cps.toList.length]).drop 1)[k]?=a7 (i+1,j):=by rw[List.getElem?_zip_eq_some];refine⟨by rw[C5,h1];rfl,?_⟩;rw[NE,Nat.add_comm];exact h2
 exact F0 this
end L2
namespace L2
open PySem PySem.Spec PyProof.Rows DL PySem.W
section
variable{X:Cx}
def FM:E4:=λx y M Q=>match x,y with
 |.int i,.int j=>CPow i j/\Q (.int<|i ^ j.toNat) M
 |_,_=>False
theorem JM:F6 X (j6 .Pow) FM:=by refine C2.imp JB ?_;rintro g l H R ⟨x,y,M,ρ,Q,s,r,m,q,k⟩;unfold FM at q;split at q;cases r;cases m;exact⟨_,_,rfl,rfl,q.1,k _ H<|VQ.now s (.int _) q.2⟩;exact q.elim
theorem Kx:G1 X (j6 .Pow) FM:=⟨JM⟩
end
end L2
namespace Ht
open PySem
def Mv(ow:Array (Option Nat))(s:Nat):Prop:=∃i,ow[s]?=a7 (a7 i)
theorem getD_none(hs:s<ow.size):(ow.getD s<|a7 0).isNone=a9↔¬Mv ow s:=by
 have e:ow[s]?=a7 ow[s]:=G3 hs;have l:ow.getD s (a7 0)=ow[s]:=by simp[Mj,hs]
 rw[l];unfold Mv;rw[e];cases ow[s]<;>simp
theorem Bj(hz:ow.size=m+1)(h:Int):∀(fuel k0 k:Nat),k0<=k->k<k0+fuel->¬Mv ow (ff m h k).1->(∀n,n<fJ m h k0->Mv ow (sq m h n).j) ->∃N,Qx m ow fuel (ff m h k0).1 (ff m h k0).2=a7 (sq m h N).j/\¬Mv ow (sq m h N).j/\∀n,n<N->Mv ow (sq m h n).j:=by
 intro fuel;induction fuel with
 |zero=>intro k0 k h1 h2;lia
 |succ fuel l =>
  intro k0 k h1 h2 c d;have p:=uB m h k0;have u:J5 m (ff m h k0).1<=m/\(ff m h k0).1<=J5 m (ff m h k0).1:=by unfold J5;split<;>lia
  unfold Qx;cases f:(A7<|J5 m (ff m h k0).1+1-(ff m h k0).1).find? λk=>(ow.getD ((ff m h k0).1+k)<|a7 0).isNone with
  |some r =>
   have i:=NZ f;have b:=Rt f;rw[G4]at b;refine⟨fJ m h k0+r,by rw[zH m h k0 r<|by lia],?_,λn g=>?_⟩;rw[zH m h k0 r<|by lia];exact(getD_none<|by lia).mp i;rcases Md n (fJ m h k0)with q|q;exact d n q;obtain⟨r',rfl⟩:∃r',n=fJ m h k0+r':=⟨n-fJ m h k0,by lia⟩
   rw[zH m h k0 r'<|by lia];refine M9 λo=>?_;have t:r' < r:=by lia
   have z:=(getD_none (ow:=ow) (s:=(ff m h k0).1+r')<|by lia).mpr o;have:=List.find?_range_eq_some.mp f;have:=this.2.2 r' t;rw[z]at this;exact o5 this<|by simp
  |none =>
   have a:∀r,r<=J5 m (ff m h k0).1-(ff m h k0).1->Mv ow ((ff m h k0).1+r):=λr i=>by refine M9 λo=>?_;have z:=(getD_none (ow:=ow) (s:=(ff m h k0).1+r)<|by lia).mpr o;have:=List.find?_eq_none.mp f r (G4.mpr<|by lia);exact this z
   have v:k0≠k:=λe=>by subst e;exact c<|a 0<|z8 _
   refine l (k0+1) k (by lia) (by lia) c λn g=>?_;unfold fJ at g;rcases Md n (fJ m h k0)with q|q;exact d n q;obtain⟨r',rfl⟩:∃r',n=fJ m h k0+r':=⟨n-fJ m h k0,by lia⟩
   rw[zH m h k0 r'<|by lia];exact a r'<|by lia
structure Laid(m:Nat)(hs:List Int)(ow:Array (Option Nat))(k:Nat):Prop where
 sz:ow.size=m+1
 lt:∀s i:Nat,ow[s]?=a7 (a7 i)->i<k
 inj:∀s s' i:Nat,ow[s]?=a7 (a7 i)->ow[s']?=a7 (a7 i)->s=s'
 all:∀i:Nat,i<k->∃s:Nat,ow[s]?=a7 (a7 i)
 path:∀(s i:Nat) (h:Int),ow[s]?=a7 (a7 i)->hs[i]?=a7 h->∃n,(sq m h n).j=s/\∀n',n' < n->Mv ow (sq m h n').j
theorem Laid.room(L:Laid m hs ow k)(q:k<=m):∃s,s<=m/\¬Mv ow s:=by
 refine M9 λo=>?_;have c:∀s,s<=m->Mv ow s:=λs hs=>M9 λz=>o ⟨s,hs,z⟩;have d:∀s,s∈A7 (m+1)->((ow.getD s a8).getD 0)∈A7 k:=λs u=>by
  obtain⟨i,e⟩:=c s (by have:=G4.mp u;lia);have:ow.getD s a8=a7 i:=by obtain⟨g,z⟩:=MR.mp e;simp[Mj,g,z]
  rw[this];exact G4.mpr<|L.lt s i e
 have X:((A7<|m+1).map λs=>(ow.getD s a8).getD 0).Nodup:=by
  rw[Nl,N7];have base:=P9 (n:=m+1);rw[Nl]at base;refine base.imp_of_mem λ{a b} ha hb hne e=>hne ?_;obtain⟨i,f⟩:=c a (by have:=G4.mp ha;lia);obtain⟨j,h⟩:=c b (by have:=G4.mp hb;lia);have t:ow.getD a a8=a7 i:=by obtain⟨g,z⟩:=MR.mp f;simp[Mj,g,z]
  have l:ow.getD b a8=a7 j:=by obtain⟨g,z⟩:=MR.mp h;simp[Mj,g,z]
  rw[t,l]at e;have:i=j:=e;subst this;exact L.inj a b i f h
 have:=L2.nodup_le _ (A7 k) X λx p=>by obtain⟨s,u,rfl⟩:=v8.mp p;exact d s u
 rw[u6,OC,OC]at this;lia
theorem Laid.step(C:oo m)(L:Laid m hs ow k)(A:k<=m)(y:hs[k]?=a7 h):∃j,Qx m ow (Ow m) (MN h % (m+1)) (MN h)=a7 j/\Laid m hs (ow.setIfInBounds j<|a7 k) (k+1):=by
 obtain⟨s,g,l⟩:=L.room A;obtain⟨H,B,e⟩:=Fk C h g;obtain⟨N,v,M,x⟩:=Bj L.sz h (Ow m) 0 H (z8 _) (by unfold Ow;lia) (by rw[e];exact l) λn D=>o5 D<|MY _;refine⟨(sq m h N).j,v,?_⟩;have E:(sq m h N).j<ow.size:=by have:=zG (m:=m) h N;rw[L.sz];lia
 have a:(ow.setIfInBounds (sq m h N).j<|a7 k)[(sq m h N).j]?=a7 (a7 k):=by rw[Array.getElem?_setIfInBounds_self_of_lt E]
 have r:∀s,s≠(sq m h N).j->(ow.setIfInBounds (sq m h N).j<|a7 k)[s]?=ow[s]?:=λs f=>Array.getElem?_setIfInBounds_ne<|w9 f;have w:∀s,Mv ow s->Mv (ow.setIfInBounds (sq m h N).j<|a7 k) s:=λs ⟨i,z⟩=>by by_cases q:s=(sq m h N).j;subst q;exact⟨k,a⟩;exact⟨i,by rw[r s q];exact z⟩
 have d:∀s i,(ow.setIfInBounds (sq m h N).j<|a7 k)[s]?=a7 (a7 i)->(s=(sq m h N).j/\i=k)\/(s≠(sq m h N).j/\ow[s]?=a7 (a7 i)):=λs i z=>by by_cases q:s=(sq m h N).j;subst q;rw[a]at z;cases z;exact .inl ⟨rfl,rfl⟩;rw[r s q]at z;exact .inr ⟨q,z⟩
 refine⟨by rw[Array.size_setIfInBounds];exact L.sz,λs i z=>?_,λs s' i z G=>?_,λi hi=>?_,λs i h' z b=>?_⟩;rcases d s i z with⟨_,e⟩|⟨_,z⟩
 lia;have:=L.lt s i z;lia;rcases d s i z with⟨t,p⟩|⟨_,z⟩
 rcases d s' i G with⟨R,_⟩|⟨_,G⟩
 rw[t,R];have:=L.lt s' i G;lia;rcases d s' i G with⟨_,I⟩|⟨_,G⟩
 have:=L.lt s i z;lia;exact L.inj s s' i z G;by_cases q:i=k;subst q;exact⟨_,a⟩;obtain⟨s,z⟩:=L.all i (by lia);refine⟨s,?_⟩;rw[r s λe=>M ⟨i,by rw[<-e];exact z⟩];exact z;rcases d s i z with⟨t,p⟩|⟨_,z⟩
 subst t p;rw[y]at b;cases b;exact⟨N,rfl,λo c=>w _<|x o c⟩;obtain⟨n,F,u⟩:=L.path s i h' z b;exact⟨n,F,λo c=>w _<|u o c⟩
theorem GC(l:oo m)(hs:List Int)(q:hs.length<=m):∃ow,SetTable.layClean m hs.toArray=a7 ow/\Laid m hs ow hs.length:=by
 have start:Laid m hs (Array.replicate (m+1) a8) 0:=by
  have n:∀s i:Nat,(Array.replicate (m+1) (a8:Option Nat))[s]?≠a7 (a7 i):=λs i z=>by rw[Array.getElem?_replicate]at z;split at z<;>cases z
  exact⟨by simp,λs i z=>o5 z<|n s i,λs _ i z=>o5 z<|n s i,λi hi=>o5 hi<|MY _,λs i _ z=>o5 z<|n s i⟩
 have c:∀(bf:List Int) (k:Nat) (ow:Array (Option Nat)),hs.drop k=bf->k+bf.length=hs.length->Laid m hs ow k -> ∃o,bf.foldl (init:=a7 (ow,k)) (λacc h=>do
    let (owner,k) <-acc
    let j <-Qx m owner (Ow m) (MN h % (m+1)) (MN h)
    pure (owner.setIfInBounds j<|a7 k,k+1))=a7 (o,hs.length)/\Laid m hs o hs.length:=by
  intro bf;induction bf with
  |nil =>
   intro k ow e a L;have:k=hs.length:=by simpa using a
   subst this;exact⟨ow,rfl,L⟩
  |cons h bf p =>
   intro k ow e a L;have d:hs[k]?=a7 h:=by
    have:(hs.drop k)[0]?=a7 h:=by rw[e];rfl
    rw[NE]at this;simpa using this
   rw[C4]at a;obtain⟨j,f,b⟩:=L.step l (by lia) d;obtain⟨o,g1,g⟩:=p (k+1) (ow.setIfInBounds j<|a7 k) (by
    have:hs.drop (k+1)=(hs.drop k).drop 1:=by rw[List.drop_drop]
    rw[this,e];rfl) (by lia) b
   refine⟨o,?_,g⟩;rw[List.foldl_cons];simp only[Option.bind_eq_bind,Option.bind_some,f,Option.pure_def];exact g1
 obtain⟨ow,g1,g⟩:=c hs 0 _ rfl (by simp) start;refine⟨ow,?_,g⟩;unfold SetTable.layClean;rw[<-Array.foldl_toList];have:hs.toArray.toList=hs:=by simp
 rw[this,g1];rfl
theorem mX{α:Type}[DecidableEq α]:∀{l l':List α},l.Nodup->l'.Nodup->(∀x,x∈l↔x∈l')->l.Perm l'
 | [],l',_,_,h=>by have:l'=[]:=List.eq_nil_iff_forall_not_mem.mpr λx hx=>o5 ((h x).mpr hx) (by simp);rw[this]
 |x::l,l',n,n',h=>by have hx:x∈l':=(h x).mp C1;have n1:=LX.mp n;refine(PZ x<|mX n1.2 (n'.erase x) λy=>?_).trans (List.perm_cons_erase hx).symm;by_cases e:y=x;subst e;constructor;intro z;exact o5 z n1.1;intro z;exact o5 z<|List.Nodup.not_mem_erase n';rw[List.mem_erase_of_ne e,<-h y,x6];exact⟨.inr,λz=>z.resolve_left e⟩
noncomputable def bL(m:Nat)(ow:Array (Option Nat)):List (Nat×Nat):=(A7<|m+1).filterMap λj=>(ow.getD j a8).map (j,·)
theorem fy(L:Laid m hs ow k):(s,i)∈bL m ow↔ow[s]?=a7 (a7 i):=by
 unfold bL;rw[OG];constructor;rintro⟨j,hj,e⟩;have h:j<ow.size:=by rw[L.sz];exact G4.mp hj
 have l:ow.getD j a8=ow[j]:=by simp[Mj,h]
 rw[l]at e;cases q:ow[j] with
 |none=>rw[q]at e;cases e
 |some i'=>rw[q]at e;have:=A5 e;cases this;rw[G3 h,q]
 intro e;obtain⟨g,z⟩:=MR.mp e;refine⟨s,G4.mpr (by rw[<-L.sz];exact g),?_⟩;have l:ow.getD s a8=ow[s]:=by simp[Mj,g]
 rw[l,z];rfl
theorem sM(m:Nat)(ow:Array (Option Nat)):((bL m ow).map (·.1)).Pairwise (· < ·):=by unfold bL;rw[N7];refine List.Pairwise.filterMap (R:=(· < ·)) _ (λa c h b d e f=>?_)<|List.pairwise_lt_range;obtain⟨x,_,rfl⟩:=Me.mp d;obtain⟨y,_,rfl⟩:=Me.mp f;exact h
theorem sN(L:Laid m hs ow hs.length):((bL m ow).map (·.2)).Perm (A7 hs.length):=by
 have n:(bL m ow).Nodup:=by have:=sM m ow;rw[N7]at this;exact this.imp λh e=>by rw[e]at h;exact D4 _ h
 have X:((bL m ow).map (·.2)).Nodup:=by rw[Nl,N7];rw[Nl]at n;refine n.imp_of_mem λ{a b} ha hb hne e=>hne ?_;obtain⟨s,i⟩:=a;obtain⟨s',i'⟩:=b;have c:i=i':=e;subst c;rw[L.inj s s' i ((fy L).mp ha)<|(fy L).mp hb]
 refine mX X P9 λi=>?_;rw[G4,v8];constructor;rintro⟨⟨s,i'⟩,hm,rfl⟩;exact L.lt s i'<|(fy L).mp hm;intro hi;obtain⟨s,e⟩:=L.all i hi;exact⟨(s,i),(fy L).mpr e,rfl⟩
theorem qt{α:Type}{l:List α}{p:Nat}{x y:α}(b:p<=l.length){i:Nat}(h:(l.take p++x::l.drop p)[i]?=a7 y):(i<p/\l[i]?=a7 y)\/(i=p/\y=x)\/(p<i/\l[i-1]?=a7 y):=by
 have lt:(l.take p).length=p:=by rw[G0];lia
 rcases N9 i p with q|q|q;rw[J2 (by lia),Qm,o0 q]at h;exact .inl ⟨q,h⟩;subst q;rw[Mf (by lia),lt,Nr]at h;exact .inr<|.inl ⟨rfl,(A5 h).symm⟩;rw[Mf (by lia),lt]at h;obtain⟨r,a⟩:∃r,i-p=r+1:=⟨i-p-1,by lia⟩
 rw[a,Rh,NE]at h;exact .inr<|.inr ⟨q,by rw[show i-1=p+r by lia];exact h⟩
structure TPre(t:n9)(hs:List Int):Prop where
 msk:oo t.mask
 len:t.place.size=hs.length
 nod:t.dummies = #[]
 ris:t.place.toList.Pairwise (· < ·)
 rng:∀j∈t.place.toList,j<=t.mask
 path:∀(i:Nat) (h:Int) (j:Nat),hs[i]?=a7 h->t.place[i]?=a7 j->∃n,(sq t.mask h n).j=j/\∀n',n' < n->(sq t.mask h n').j∈t.place.toList
theorem put_pre(T:TOk t hs)(h2:(sq t.mask h N).j∉t.place.toList)(u:∀k,k<N->(sq t.mask h k).j∈t.place.toList)(v:Bool):(t.put (sq t.mask h N).j).2<=hs.length/\TPre { (t.put (sq t.mask h N).j).1 with plain:=v } (hs.take (t.put (sq t.mask h N).j).2++h::hs.drop (t.put (sq t.mask h N).j).2):=by
 obtain⟨e,r⟩:=zS T.ris h2;obtain⟨g,_,_⟩:=below_spec t.place T.ris (sq t.mask h N).j;have l:D6 t.place (sq t.mask h N).j<=hs.length:=by rw[<-T.len];exact g
 refine⟨l,⟨T.msk,?_,?_,r,λj L=>?_,λi h' j d L=>?_⟩⟩;have:=p7 K6 e;rw[D8,A1,C4,G0,Mn,D8]at this;show (t.put (sq t.mask h N).j).1.place.size=(hs.take (D6 t.place (sq t.mask h N).j)++h::hs.drop (D6 t.place (sq t.mask h N).j)).length;rw[this,A1,C4,G0,Mn,T.len];show (if SetTable.has t.dummies (sq t.mask h N).j then SetTable.eraseAt t.dummies (D6 t.dummies (sq t.mask h N).j)else t.dummies) = #[];rw[T.nod];rfl;have a:j∈(t.put (sq t.mask h N).j).1.place.toList:=L;rw[e]at a;rcases D7.mp a with q|q;exact T.rng j<|Qt q;rcases x6.mp q with q|q;rw[q];exact zG h N;exact T.rng j<|List.mem_of_mem_drop q;have s:∀x,x∈t.place.toList->x∈(t.put (sq t.mask h N).j).1.place.toList:=λx m=>by rw[e];rw[<-List.take_append_drop (D6 t.place (sq t.mask h N).j) t.place.toList]at m;rcases D7.mp m with q|q;exact LM _ q;exact F4 _<|A6 _ q
 have a:(t.put (sq t.mask h N).j).1.place.toList[i]?=a7 j:=by rw[Ix];exact L
 rw[e]at a;have o:∀k,hs[k]?=a7 h'->t.place[k]?=a7 j->∃n,(sq t.mask h' n).j=j/\∀f,f < n->(sq t.mask h' f).j∈(t.put (sq t.mask h N).j).1.place.toList:=λk w y=>by obtain⟨n,F,p⟩:=T.path k h' j w y;exact⟨n,F,λf c=>s _<|p f c⟩
 rcases qt (by rw[D8];exact g) a with⟨q,z⟩|⟨q,z⟩|⟨q,z⟩
 rcases qt l d with⟨b,G⟩|⟨b,G⟩|⟨b,G⟩
 exact o i G (by rw[<-Ix];exact z);lia;lia;rcases qt l d with⟨b,G⟩|⟨b,G⟩|⟨b,G⟩
 lia;subst z G;exact⟨N,rfl,λf c=>s _<|u f c⟩;lia;rcases qt l d with⟨b,G⟩|⟨b,G⟩|⟨b,G⟩
 lia;lia;exact o (i-1) G<|by rw[<-Ix];exact z
theorem TPre.ok(T:TPre t hs)(h:t.tooFull=bt):TOk t hs:=by refine⟨T.msk,T.len,T.nod,T.ris,T.rng,?_,T.path⟩;unfold SetTable.tooFull PU at h;rw[T.nod]at h;simp at h;simpa using h
theorem TPre.anew(T:TPre t hs)(h:t.tooFull=a9)(M:(hs.length-1)*5<t.mask*3)(D:hs.length<=64):Q2 (NX hs.length)<=sizeLine/\∃t2 ord,t.relaid hs.toArray (NX hs.length)=a7 (t2,ord)/\ord.toList.Perm (A7 hs.length)/\TOk t2 (ord.toList.map λi=>hs.getD i 0)/\t2.led=t.led:=by
 have u:hs.length*5 ≥ t.mask*3:=by unfold SetTable.tooFull PU at h;rw[T.nod,T.len]at h;simpa using h
 have C:∃m,Q2 (NX hs.length)=m+1/\oo m/\hs.length<=m/\hs.length*5<m*3:=by
  rcases T.msk with e|e|e;have:hs.length=5:=by lia
  rw[this];exact⟨31,by decide +kernel,.inr<|.inl rfl,by decide,by decide⟩;have:hs.length=19:=by lia
  rw[this];exact⟨127,by decide +kernel,.inr<|.inr rfl,by decide,by decide⟩;lia
 obtain⟨m,e,g,H,f⟩:=C;refine⟨by rw[e,Mc];rcases g with rfl|rfl|rfl<;>lia,?_⟩;obtain⟨ow,B,L⟩:=GC g hs H;unfold SetTable.relaid;rw[e,Nat.add_sub_cancel];unfold SetTable.laid;rw[B];refine⟨_,_,rfl,?_,?_,rfl⟩;show ((bL m ow).map (·.2)).toArray.toList.Perm _;simpa using sN L;have l:((bL m ow).map (·.1)).toArray.toList=(bL m ow).map (·.1):=by simp
 have K:((bL m ow).map (·.2)).toArray.toList=(bL m ow).map (·.2):=by simp
 have J:(bL m ow).length=hs.length:=by have:=(sN L).length_eq;simpa using this
 refine⟨g,?_,rfl,?_,λj d=>?_,?_,λi h' j E d=>?_⟩;show ((bL m ow).map (·.1)).toArray.size=(((bL m ow).map (·.2)).toArray.toList.map λi=>hs.getD i 0).length;simp;show ((bL m ow).map (·.1)).toArray.toList.Pairwise _;rw[l];exact sM m ow;have a:j∈((bL m ow).map (·.1)).toArray.toList:=d;rw[l]at a;obtain⟨⟨s,i⟩,o,rfl⟩:=v8.mp a;have:=(MR.mp<|(fy L).mp o).1;rw[L.sz]at this;show s<=m;lia;show ((bL m ow).map (·.1)).toArray.size*5<m*3;rw[y4,u6,J];exact f;have b:(((bL m ow).map (·.2)).map λi=>hs.getD i 0)[i]?=a7 h':=by rw[<-K];exact E
 have a:((bL m ow).map (·.1))[i]?=a7 j:=by rw[<-l,Ix];exact d
 rw[E8,C5]at b;rw[C5]at a;cases q:(bL m ow)[i]? with
 |none=>rw[q]at a;cases a
 |some p =>
  obtain⟨s,k⟩:=p;rw[q]at b a;have y:s=j:=A5 a;have A:hs.getD k 0=h':=A5 b;subst y;have c:=(fy L).mp<|F0 q;have v:=L.lt s k c;have G:hs[k]?=a7 h':=by rw[x3 v];rw[<-A];simp[NO,v]
  obtain⟨n,F,x⟩:=L.path s k h' c G;refine⟨n,F,λw r=>?_⟩;obtain⟨I,z⟩:=x w r;show (sq m h' w).j∈((bL m ow).map (·.1)).toArray.toList;rw[l];exact v8.mpr ⟨(_,I),(fy L).mpr z,rfl⟩
end Ht
namespace L2
open PySem PySem.Spec PyProof.Rows DL PySem.W
theorem vc:∀(n:Nat) (d:D),cT n d=a9->u8 M n d=a9
 | 0,d,h=>by cases d<;>first|rfl|cases h
 |n+1,d,h=>by
  cases d with
  |tup ds=>have h':ds.all (cT n)=a9:=h;show ds.all (u8 M n)=a9;rw[E9]at h' ⊢;exact λx hx=>vc n x<|h' x hx
  |str x=>rfl
  |int i=>rfl
  |_=>cases h
theorem kK:∀(n:Nat) (x y:D),cT n x=a9->cT n y=a9->(t8 M n x y=a9↔x=y):=by
 intro n;induction n with
 |zero =>
  intro x y h1 h2;cases x with
  |str a =>
   cases y with
   |str b=>simp[t8]
   |int b=>simp[t8]
   |_=>cases h2
  |int a =>
   cases y with
   |str b=>simp[t8]
   |int b=>simp[t8]
   |_=>cases h2
  |_=>cases h1
 |succ n h =>
  have o:∀xs ys:List D,xs.all (cT n)=a9->ys.all (cT n)=a9->(C3 (t8 M n) xs ys=a9↔xs=ys):=by
   intro xs;induction xs with
   |nil=>intro ys _ _;cases ys<;>simp[C3]
   |cons x xs i =>
    intro ys F c;cases ys with
    |nil=>simp[C3]
    |cons y ys=>rw[L3,D3]at F c;show (t8 M n x y&&C3 (t8 M n) xs ys)=a9↔_;rw[D3,h x y F.1 c.1,i ys F.2 c.2,Oz]
  intro x y h1 h2;cases x with
  |str a =>
   cases y with
   |str b=>simp[t8]
   |int b=>simp[t8]
   |tup ys=>simp[t8]
   |_=>cases h2
  |int a =>
   cases y with
   |str b=>simp[t8]
   |int b=>simp[t8]
   |tup ys=>simp[t8]
   |_=>cases h2
  |tup xs =>
   cases y with
   |str b=>simp[t8]
   |int b=>simp[t8]
   |tup ys=>rw[D.tup.injEq];exact o _ _ h1 h2
   |_=>cases h2
  |_=>cases h1
section
variable{X:Cx}{pins:List (c9×d5)}{σ:St}{H:Hp}{ρ:List c9}{M:t7}
theorem KI(sm:ve X.K ρ M H):∀(n:Nat) (A:e9) (s:f6) (d:D) (v:V) (u:c5) (E:c5->f6->Prop) (Q:Int->f6->Prop),A.units+n<j9->q9 X pins σ H s->u3 X.K ρ H d v->aV v u->cT n d=a9 ->(∀tk,Q (z9 X.w n d) { s with toks:=tk })->f9 (h8 X.prog X.w) A (pyHash u) Q E s:=by
 intro n;induction n with
 |zero =>
  intro A s d v u E Q P I r f m h;cases r with
  |str x=>obtain⟨t,rfl⟩:=f;exact Pk<|h _
  |int x=>obtain⟨t,rfl⟩:=f;exact Pl<|h _
  |_=>cases m
 |succ n R =>
  intro A s d v u E Q P I r f m h;cases r with
  |str x=>obtain⟨t,rfl⟩:=f;exact Pk<|h _
  |int x=>obtain⟨t,rfl⟩:=f;exact Pl<|h _
  |@tup a vs ds O Y =>
   cases f;obtain⟨its,W,p,_⟩:=I.tuple O;obtain⟨o,B,L,nn,N⟩:=id p;have T:s.TypeIs (.ref a) "tuple":=⟨o,B,L⟩
   have y:ds.all (cT n)=a9:=m;unfold pyHash
   first|unfold pyHashByItsType|skip
   first|refine p9 (wpAny_cRoomFor_or (.inr<|by lia) ?_)|skip
   refine p9<|Ni T F.slot_tuple_hash.lookup ?_;refine(show f9 (h8 X.prog X.w) _ (if (a7 (Value.builtin "tuple.__hash__")==a7 H9)=a9 then _ else _) Q E s from ?_);rw[o4<|by rw[beq_builtin_none];exact MF];refine p9<|Ni T F.slot_tuple_hash.lookup ?_;refine(show f9 (h8 X.prog X.w) _ (callSpecialIfBoundUnlessNone? (.ref a) "__hash__" _ >>= _) Q E s from p9<|RL T F.slot_tuple_hash<|G8 F.slot_tuple_hash T F.entry_tuple_hash ?_<|F.args_tuple_hash_1 _);refine(show f9 (h8 X.prog X.w) _ (QI (.ref a) >>= _) _ _ s from p9<|wpAny_tupleItemsOf B N<|p9 ?_);rw[<-ND];refine Nz _ (λbf (b:Array Int) s'=>∃done left q,ds=done++left/\Reps X.K ρ H left q/\av q bf/\b.toList=done.map (z9 X.w n)/\∃tk,s'={ s with toks:=tk }) _ ?_ ?_ _ _ ⟨[],ds,vs,rfl,Y,by simpa using W,rfl,s.toks,rfl⟩;rintro x bf b s' ⟨done,left,q,e,h1,h2,k,tk,rfl⟩;cases h2 with
   |@cons Z _ i _ S G =>
    cases h1 with
    |@cons j _ c _ U J =>
     refine p9<|R _ _ j Z x _ _ (by show A.units+1+n<j9;lia) (I.tok tk) U S ?_ λg=>?_;have:=E9.mp y j (by rw[e];simp);exact this
     first
      |exact t4 ⟨done++[j],c,i,by rw[e];simp,J,G,by simp[k],g,rfl⟩
      |exact p9 (t4 (t4 ⟨done++[j],c,i,by rw[e];simp,J,G,by simp[k],g,rfl⟩))
   rintro b s' ⟨done,left,q,e,h1,h2,k,tk,rfl⟩;cases h2;cases h1;rw[G7]at e;subst e;refine(show f9 (h8 X.prog X.w) _ (retInt<|Og b.toList) _ _ _ from ?_);rw[k];refine wpAny_ret_mkInt ?_;have l:z9 X.w (n+1) (.tup ds)=m6 (Og<|ds.map<|z9 X.w n):=rfl;generalize Og (ds.map<|z9 X.w n)=z at l;refine(show f9 (h8 X.prog X.w) _ (if (decide (-(2:Int) ^ 63<=z)&&decide (z<2 ^ 63))=a9 then _ else _) Q E _ from ?_);unfold m6 at l;by_cases C:(decide (-(2:Int) ^ 63<=z)&&decide (z<2 ^ 63))=a9;rw[o0 C]at l ⊢;exact t4 (by rw[<-l];exact h _);rw[o4 C]at l ⊢;exact p9<|L1<|t4<|by rw[<-l];exact h _
  |_=>cases m
end
section
variable{X:Cx}{pins:List (c9×d5)}{σ:St}{H:Hp}{ρ:List c9}{M:t7}
theorem hbv_D(S:ve X.K ρ M H):∀(n k:Nat) (A:e9) (s:f6) (d:D) (v:V) (u:c5) (E:c5->f6->Prop) (Q:Bool->f6->Prop),n<=k->q9 X pins σ H s->u3 X.K ρ H d v->aV v u->cT n d=a9->(∀b,Q b s)->f9 (h8 X.prog X.w) A (hashByValue k u) Q E s:=by
 intro n;induction n with
 |zero =>
  intro k A s d v u E Q q I r c e h;cases r with
  |str x=>obtain⟨t,rfl⟩:=c;cases k<;>exact t4<|h _
  |int x=>obtain⟨t,rfl⟩:=c;cases k<;>exact t4<|h _
  |_=>cases e
 |succ n G =>
  intro k A s d v u E Q q I r c e h;cases r with
  |str x=>obtain⟨t,rfl⟩:=c;cases k<;>exact t4<|h _
  |int x=>obtain⟨t,rfl⟩:=c;cases k<;>exact t4<|h _
  |@tup a vs ds z O =>
   cases c;obtain⟨k,rfl⟩:∃J,k=J+1:=⟨k-1,by lia⟩
   obtain⟨its,m,p,_⟩:=I.tuple z;obtain⟨o,B,j,R,l⟩:=id p;have T:s.TypeIs (.ref a) "tuple":=⟨o,B,j⟩
   have y:ds.all (cT n)=a9:=e;unfold hashByValue;refine p9<|Ni T F.slot_tuple_hash.lookup ?_;dsimp only;refine p9<|LV B l ?_;simp only[Option.getD_some];rw[<-ND];refine p9 ?_;refine Nz _ (λbf r s'=>s'=s/\r.1=a8/\∃left f,(∀x∈left,cT n x=a9)/\Reps X.K ρ H left f/\av f bf) _ ?_ ?_ _ _ ⟨rfl,rfl,ds,vs,E9.mp y,O,by simpa using m⟩;rintro x bf r s' ⟨rfl,i,left,f,g,h1,h2⟩;cases h2 with
   |cons L N =>
    cases h1 with
    |cons U P =>
     refine p9<|G k _ _ _ _ x _ _ (by lia) I U L (g _ C1) λb=>?_;cases b with
     |false=>exact t4<|t4<|h _
     |true=>exact t4 ⟨rfl,rfl,_,_,λx C=>g x<|A6 _ C,P,N⟩
   rintro⟨r1,m⟩ s' ⟨rfl,i,_⟩;simp only at i;subst i;exact t4<|h _
  |_=>cases e
theorem zO(P:ve X.K ρ M H):∀(n k:Nat) (A:e9) (s:f6) (d:D) (v:V) (u:c5) (E:c5->f6->Prop) (Q:Bool->f6->Prop),n<=k->q9 X pins σ H s->u3 X.K ρ H d v->aV v u->cT n d=a9->Q a9 s->f9 (h8 X.prog X.w) A (eqIsQuiet k u) Q E s:=by
 intro n;induction n with
 |zero =>
  intro k A s d v u E Q l I r b e h;cases r with
  |str x=>obtain⟨t,rfl⟩:=b;rw[NB k (v:=.str x t) rfl];exact t4 h
  |int x=>obtain⟨t,rfl⟩:=b;rw[NB k (v:=.int x t) rfl];exact t4 h
  |_=>cases e
 |succ n C =>
  intro k A s d v u E Q l I r b e h;cases r with
  |str x=>obtain⟨t,rfl⟩:=b;rw[NB k (v:=.str x t) rfl];exact t4 h
  |int x=>obtain⟨t,rfl⟩:=b;rw[NB k (v:=.int x t) rfl];exact t4 h
  |@tup a vs ds q N =>
   cases b;obtain⟨k,rfl⟩:∃G,k=G+1:=⟨k-1,by lia⟩
   obtain⟨its,m,p,_⟩:=I.tuple q;obtain⟨o,B,f,R,j⟩:=id p;have T:s.TypeIs (.ref a) "tuple":=⟨o,B,f⟩
   have y:ds.all (cT n)=a9:=e;unfold eqIsQuiet;refine p9<|Ni T F.slot_tuple_eq.lookup ?_;refine(show f9 (h8 X.prog X.w) A (isInstance (.ref a) (.type "tuple") >>= _) _ _ s from p9<|Ny T isSubtype_tuple_tuple ?_);simp only[MV,A9,p5];refine p9<|LV B j ?_;simp only[Option.getD_some];refine p9 ?_;rw[<-ND];refine Nz _ (λbf r s'=>s'=s/\r.1=a8/\∃left c,(∀x∈left,cT n x=a9)/\Reps X.K ρ H left c/\av c bf) _ ?_ ?_ _ _ ⟨rfl,rfl,ds,vs,E9.mp y,N,by simpa using m⟩;rintro x bf r s' ⟨rfl,i,left,c,g,h1,h2⟩;cases h2 with
   |cons J L =>
    cases h1 with
    |cons U O=>refine p9<|C k _ _ _ _ x _ _ (by lia) I U J (g _ C1) ?_;simp only[MV,A9,p5];exact t4 ⟨rfl,rfl,_,_,λx z=>g x<|A6 _ z,O,L⟩
   rintro⟨r1,m⟩ s' ⟨rfl,i,_⟩;simp only at i;subst i;exact t4 h
  |_=>cases e
theorem Lv(O:ve X.K ρ M H):∀(n k:Nat) (A:e9) (s:f6) (d:D) (v:V) (u:c5) (E:c5->f6->Prop) (Q:Bool->f6->Prop),n<=k->q9 X pins σ H s->u3 X.K ρ H d v->aV v u->cT n d=a9->Q bt s->f9 (h8 X.prog X.w) A (ofAClassStatement k u) Q E s:=by
 intro n;induction n with
 |zero =>
  intro k A s d v u E Q l I r b e h;cases r with
  |str x=>obtain⟨t,rfl⟩:=b;cases k<;>exact t4 h
  |int x=>obtain⟨t,rfl⟩:=b;cases k<;>exact t4 h
  |_=>cases e
 |succ n C =>
  intro k A s d v u E Q l I r b e h;cases r with
  |str x=>obtain⟨t,rfl⟩:=b;cases k<;>exact t4 h
  |int x=>obtain⟨t,rfl⟩:=b;cases k<;>exact t4 h
  |@tup a vs ds q L =>
   cases b;obtain⟨k,rfl⟩:∃F,k=F+1:=⟨k-1,by lia⟩
   obtain⟨its,m,p,_⟩:=I.tuple q;obtain⟨o,B,f,R,j⟩:=id p;have T:s.TypeIs (.ref a) "tuple":=⟨o,B,f⟩
   have y:ds.all (cT n)=a9:=e;unfold ofAClassStatement;refine p9<|My T ?_;dsimp only;simp only[p8,p6];refine p9<|t4 ?_;simp only[MV,A9,p5];refine p9<|LV B j ?_;dsimp only;refine p9 ?_;rw[<-ND];refine Nz _ (λbf r s'=>s'=s/\r.1=a8/\∃left c,(∀x∈left,cT n x=a9)/\Reps X.K ρ H left c/\av c bf) _ ?_ ?_ _ _ ⟨rfl,rfl,ds,vs,E9.mp y,L,by simpa using m⟩;rintro x bf r s' ⟨rfl,i,left,c,g,h1,h2⟩;cases h2 with
   |cons G J =>
    cases h1 with
    |cons U N=>refine p9<|C k _ _ _ _ x _ _ (by lia) I U G (g _ C1) ?_;simp only[A9,p5];exact t4 ⟨rfl,rfl,_,_,λx z=>g x<|A6 _ z,N,J⟩
   rintro⟨r1,m⟩ s' ⟨rfl,i,_⟩;simp only at i;subst i;exact t4 h
  |_=>cases e
end
noncomputable def fQ:D->Bool
 |.tup _=>a9
 |_=>bt
def D5(X:Cx)(ρ:List c9)(H:Hp)(n:Nat)(d:D)(e:Int×c5):Prop:=(∃v,u3 X.K ρ H d v/\aV v e.2)/\e.1=z9 X.w n d/\cT n d=a9/\fQ d=a9
structure KSet(X:Cx)(ρ:List c9)(H:Hp)(h:d6)(a:c9)(n:Nat)(ds:List D)(o:d5)(es:Array (Int×c5))(ep:Nat)(t:n9):Prop where
 ob:h.get? a=a7 o
 ex:o.ExactSet
 dt:o.data=.set es ep t
 en:Paired (D5 X ρ H n) ds es.toList
 nd:ds.Nodup
 tk:Ht.TOk t (es.toList.map (·.1))
 ld:t.led = !X.w.params.followText "set-order"
theorem dU{α β:Type}{R:α->β->Prop}:∀{xs:List α}{ys:List β}{i:Nat}{y:β},Paired R xs ys->ys[i]?=a7 y->∃x,xs[i]?=a7 x/\R x y
 |_,_,i,y,.nil,e=>by simp at e
 |_,_,0,y,.cons r _,e=>by simp at e;subst e;exact⟨_,rfl,r⟩
 |_,_,i+1,y,.cons _ t,e=>by obtain⟨x,h1,h2⟩:=dU (i:=i) t (by simpa using e);exact⟨x,by simpa using h1,h2⟩
theorem jK{α β:Type}{R:α->β->Prop}:∀{xs:List α}{ys:List β}{i:Nat}{x:α},Paired R xs ys->xs[i]?=a7 x->∃y,ys[i]?=a7 y/\R x y
 |_,_,i,y,.nil,e=>by simp at e
 |_,_,0,y,.cons r _,e=>by simp at e;subst e;exact⟨_,rfl,r⟩
 |_,_,i+1,y,.cons _ t,e=>by obtain⟨x,h1,h2⟩:=jK (i:=i) t (by simpa using e);exact⟨x,by simpa using h1,h2⟩
theorem KSet.fits(S:KSet X ρ H h a n ds o es ep t):t.fits es.size=a9:=by
 have h1:=S.tk.len;have h2:=S.tk.few;rw[u6,D8]at h1;unfold Ov;have b:t.fill=t.place.size:=by unfold PU;rw[S.tk.nod];rfl
 rw[b];simp only[D3,o8,o6];lia
section
variable{X:Cx}{pins:List (c9×d5)}{σ:St}{H:Hp}{ρ:List c9}{M:t7}{A:e9}{E:c5->f6->Prop}{s:f6}{a:c9}{n:Nat}{ds:List D}{o:d5}{es:Array (Int×c5)}{ep:Nat}{t:n9}
theorem Ce(m:ve X.K ρ M H)(I:q9 X pins σ H s)(f:n<=8)(r:u3 X.K ρ H d v)(c:aV v u)(e:cT n d=a9)(h:Q bt s):∀(l:List c5),(∀y∈l,∃d' v',u3 X.K ρ H d' v'/\aV v' y/\cT n d'=a9)->f9 (h8 X.prog X.w) A (searchCouldBeSeen u l) Q E s:=by intro l g;unfold searchCouldBeSeen;refine p9 ?_;refine Nz _ (λbf r s'=>s'=s/\r.1=a8/\∀y∈bf,∃d' v',u3 X.K ρ H d' v'/\aV v' y/\cT n d'=a9) _ ?_ ?_ _ _ ⟨rfl,rfl,g⟩;rintro y bf r' s' ⟨rfl,i,O⟩;have t:∀z∈bf,∃d' v',u3 X.K ρ H d' v'/\aV v' z/\cT n d'=a9:=λz j=>O z<|A6 _ j;obtain⟨d',v',a,b,k⟩:=O y C1;dsimp only;refine MX (λ_=>t4 ⟨rfl,rfl,t⟩) λ_=>?_;refine p9<|zO m n 8 A _ d v u _ _ f I r c e ?_;simp only[MV,A9,p5];refine p9<|zO m n 8 A _ d' v' y _ _ f I a b k ?_;simp only[MV,A9,p5];refine p9<|Lv m n 8 A _ d v u _ _ f I r c e ?_;simp only[A9,p5];refine p9<|Lv m n 8 A _ d' v' y _ _ f I a b k ?_;simp only[A9,p5];exact t4 ⟨rfl,rfl,t⟩;rintro⟨a,b⟩ s' ⟨rfl,i,_⟩;simp only at i;subst i;exact t4 h
theorem Cq(sm:ve X.K ρ M H)(I:q9 X pins σ H s)(hn:n<=8)(hu:A.units+n<j9)(S:KSet X ρ H s.heap a n ds o es ep t)(r:u3 X.K ρ H d v)(rv:aV v u)(G:cT n d=a9)(c:d∈ds->Q (.there a8) s) (bl:N<10*(t.mask+15)) (J:(Ht.sq t.mask (z9 X.w n d) N).j∉t.place.toList) (aj:∀k,k<N->(Ht.sq t.mask (z9 X.w n d) k).j∈t.place.toList)(L:d∉ds->Q (.free (Ht.sq t.mask (z9 X.w n d) N).j bt) s):∀(fuel m:Nat) (stand:Option Nu),m<=N->N<m+fuel->stand.getD (t.probeStart<|z9 X.w n d)=Ht.sq t.mask (z9 X.w n d) m->(∀k i:Nat,k<m->t.place[i]?=a7 (Ht.sq t.mask (z9 X.w n d) k).j->ds[i]?≠a7 d) ->f9 (h8 X.prog X.w) A (setSearchFrom a u (z9 X.w n d) a9 fuel stand) Q E s:=by
 intro fuel;induction fuel with
 |zero=>intro m stand h1 h2;lia
 |succ fuel ih =>
  intro m stand h1 h2 hs hb;unfold setSearchFrom;refine p9<|MD S.ob S.dt S.fits ?_;dsimp only;have gw:t.gaveWay=bt:=by unfold SetTable.gaveWay;rcases S.tk.msk with e|e|e<;>rw[e]<;>rfl
  rw[gw];simp only[A9,p5];rw[hs];rcases Ht.go_spec S.tk.ris S.tk.nod (λi=>(es[i]?.map (·.1)).getD 0) (z9 X.w n d) (10*Ow t.mask) m N h1 (by unfold Ow;lia) J (λk _ hk=>aj k hk) (Ht.sq_dummy _ _)with⟨z1,z2⟩|⟨m',i,a1,a2,a3,a4,a5,a6⟩
  generalize O:SetTable.probe t _ (z9 X.w n d) (Ht.sq t.mask (z9 X.w n d) m)=pr;obtain rfl:pr=_:=O.symm.trans z2;dsimp only;refine t4<|L λhd=>?_;obtain⟨i,hi⟩:=MQ hd;obtain⟨e,F,_,V,_⟩:=jK S.en hi;have g:es[i]?=a7 e:=by rw[<-Ix];exact F
  have hh:(es.toList.map (·.1))[i]?=a7 (z9 X.w n d):=by rw[C5,F];exact p7 a7 V
  have hl:i<t.place.size:=by rw[S.tk.len];exact(x5.mp hh).1
  obtain⟨R,b1,b2⟩:=S.tk.path i _ t.place[i] hh<|G3 hl;have as:R<N:=by rcases N9 R N with q|q|q;exact q;subst q;exact o5 (show (Ht.sq t.mask (z9 X.w n d) R).j∈t.place.toList by rw[b1];simp) J;exact o5 (b2 N q) J
  have p:t.place[i]?=a7 (Ht.sq t.mask (z9 X.w n d) R).j:=by rw[b1];exact G3 hl
  rcases Md R m with q|q;exact hb R i q p hi;refine z1 R i q as p ?_;rw[g];exact V;generalize O:SetTable.probe t _ (z9 X.w n d) (Ht.sq t.mask (z9 X.w n d) m)=pr;obtain rfl:pr=_:=O.symm.trans a6;dsimp only;have an:i<es.size:=by have:=(MR.mp a3).1;rw[S.tk.len,u6,D8]at this;exact this
  have l:es[i]?=a7 es[i]:=G3 an;obtain⟨x,C,⟨v0,r0,Z⟩,bk,P,aD⟩:=dU S.en (i:=i) (y:=es[i]) (by rw[Ix];exact l);have ai:∀(f:Bool->Sem SetFound),f9 (h8 X.prog X.w) A (f bt) Q E s->f9 (h8 X.prog X.w) A (searchCouldBeSeen u ((es.filter (·.1==z9 X.w n d)).toList.map (·.2)) >>= f) Q E s:=λf hf=>by
   refine p9<|Ce sm I hn r rv G hf _ λy hy=>?_;obtain⟨e,F,rfl⟩:=v8.mp hy;have al:e∈es.toList:=by
    have:e∈es.filter (·.1==z9 X.w n d):=by simpa using F
    simpa using(Array.mem_filter.mp this).1
   obtain⟨j,hj⟩:=MQ al;obtain⟨d1,_,⟨v1,r1,aS⟩,_,aP,_⟩:=dU S.en hj;exact⟨d1,v1,r1,aS,aP⟩
  have B:∃b,es[i].2=E1 b:=by
   cases r0 with
   |tup _ _=>exact⟨_,Z⟩
   |_=>cases aD
  obtain⟨b,B⟩:=B;have W:Ml A s es[i].2 u (t8 M n x d):=(nG I sm n A x d v0 v es[i].2 u hu r0 Z r rv (vc n x P)<|vc n d G).1;refine MX (λ_=>ai _ ?_) λ_=>?_;simp only[A9,p5];rw[l];dsimp only;refine p9<|E2<|W _ _ _ _<|p9<|MD S.ob S.dt S.fits ?_;dsimp only;by_cases D:t8 M n x d=a9;rw[D];simp only[Bool.and_self,p6];have:x=d:=(kK n x d P G).mp D;subst this;exact t4<|c<|F0 C;rw[Mp.mpr D];simp only[P0,A9,p5];have U:t.sameMemory t.moves t.mask=a7 a9:=by unfold SetTable.sameMemory;simp
  rw[U];dsimp only;simp only[p6];rw[Ht.slot_live S.tk.ris a3];dsimp only;rw[l];have T:f9 (h8 X.prog X.w) A (isSame es[i].2 es[i].2) (λb s'=>b=a9/\s'=s) E s:=by unfold isSame;rw[B];simp only[p8,p6];exact t4<|And.intro rfl rfl
  refine p9<|E7 T (λb s' ⟨e1,e2⟩=>?_) λ_ _ z=>z;subst e1 e2;refine p9<|t4 ?_;simp only[p6];refine ih (m'+1) _ (by lia) (by lia) rfl λk i' hk p h=>?_;rcases Md k m with q|q;exact hb k i' q p h;rcases Md k m' with Y|Y;refine a5 k i' q Y p ?_;obtain⟨e,F,_,V,_⟩:=jK S.en h;have g:es[i']?=a7 e:=by rw[<-Ix];exact F
  rw[g];exact V;have:k=m':=by lia
  subst this;have:i'=i:=by rw[<-Ht.below_at S.tk.ris p,Ht.below_at S.tk.ris a3]
  subst this;rw[C]at h;cases h;exact D<|(kK n d d G G).mpr rfl;rw[l];dsimp only;refine p9<|E2<|W _ _ _ _<|p9<|MD S.ob S.dt S.fits ?_;dsimp only;by_cases D:t8 M n x d=a9;rw[D];simp only[Bool.and_self,p6];have:x=d:=(kK n x d P G).mp D;subst this;exact t4<|c<|F0 C;rw[Mp.mpr D];simp only[P0,A9,p5];have U:t.sameMemory t.moves t.mask=a7 a9:=by unfold SetTable.sameMemory;simp
  rw[U];dsimp only;simp only[p6];rw[Ht.slot_live S.tk.ris a3];dsimp only;rw[l];have T:f9 (h8 X.prog X.w) A (isSame es[i].2 es[i].2) (λb s'=>b=a9/\s'=s) E s:=by unfold isSame;rw[B];simp only[p8,p6];exact t4<|And.intro rfl rfl
  refine p9<|E7 T (λb s' ⟨e1,e2⟩=>?_) λ_ _ z=>z;subst e1 e2;refine p9<|t4 ?_;simp only[p6];refine ih (m'+1) _ (by lia) (by lia) rfl λk i' hk p h=>?_;rcases Md k m with q|q;exact hb k i' q p h;rcases Md k m' with Y|Y;refine a5 k i' q Y p ?_;obtain⟨e,F,_,V,_⟩:=jK S.en h;have g:es[i']?=a7 e:=by rw[<-Ix];exact F
  rw[g];exact V;have:k=m':=by lia
  subst this;have:i'=i:=by rw[<-Ht.below_at S.tk.ris p,Ht.below_at S.tk.ris a3]
  subst this;rw[C]at h;cases h;exact D<|(kK n d d G G).mpr rfl
end
theorem Paired.ins{α β:Type}{R:α->β->Prop}{x:α}{y:β}(r:R x y):∀{xs:List α}{ys:List β} (p:Nat),Paired R xs ys->Paired R (xs.take p++x::xs.drop p) (ys.take p++y::ys.drop p)
 |_,_,0,h=>by simpa using .cons r h
 |_,_,p+1,.nil=>.cons r .nil
 |_,_,p+1,.cons h t=>.cons h<|Paired.ins r p t
theorem Paired.pick{α β:Type}{R:α->β->Prop}:∀{xs:List α}{ys:List β} (is:List Nat),Paired R xs ys->(∀i∈is,i<xs.length)->Paired R (is.filterMap (xs[·]?)) (is.filterMap (ys[·]?))
 |_,_,[],_,_=>.nil
 |xs,ys,i::is,h,hi=>by have hl:=hi i C1;have e:xs[i]?=a7 xs[i]:=x3 hl;obtain⟨y,hy,r⟩:=jK h e;rw[Mq,Mq,e,hy];exact .cons r<|Paired.pick is h λj hj=>hi j<|A6 _ hj
theorem pf{α:Type}{l:List α}{is:List Nat}(h:is.Perm (A7 l.length)):(is.filterMap (l[·]?)).Perm l:=by
 have:=h.filterMap (l[·]?)
 rwa [List.filterMap_getElem?_range_length]at this
section
variable{X:Cx}{pins:List (c9×d5)}{σ:St}{H:Hp}{ρ:List c9}{M:t7}{A:e9}{E:c5->f6->Prop}{s:f6}{a:c9}{n:Nat}{ds:List D}{o:d5}{es:Array (Int×c5)}{ep:Nat}{t:n9}
def KS(X:Cx)(ρ:List c9)(H:Hp)(h:d6)(a:c9)(n:Nat)(ds:List D):Prop:=∃o es i t,KSet X ρ H h a n ds o es i t
set_option maxHeartbeats 1000000 in
theorem add_D(sm:ve X.K ρ M H)(I:q9 X pins σ H s)(hn:n<=8)(hu:A.units+n+1<j9)(S:KS X ρ H s.heap a n ds)(bl:ds.length+1<=64)(r:u3 X.K ρ H d v)(rv:aV v u)(kd:cT n d=a9)(it:fQ d=a9)(h:∀b h' tk ds',(∀c u,c≠a->s.heap.get? c=a7 u->h'.get? c=a7 u)->KS X ρ H h' a n ds'->(∀x,x∈ds'↔x∈ds\/x=d)->ds'.length<=ds.length+1->Q b { s with heap:=h',toks:=tk }):f9 (h8 X.prog X.w) A (setAdd a u) Q E s:=by
 obtain⟨o,es,ep,t,S⟩:=S;obtain⟨R,rfl⟩:∃R,u=E1 R:=by
  cases r with
  |tup _ _=>exact⟨_,rv⟩
  |_=>cases it
 unfold setAdd;refine E2<|p9<|KI sm n A s d v _ _ _ (by lia) I r rv kd λtk=>?_;unfold setAddHashed setAddHashedIn;refine E2<|p9<|MD (s:={ s with toks:=tk }) S.ob S.dt S.fits ?_;dsimp only;have bs:byScan (.ref R) es=bt:=rfl;rw[bs];simp only[A9,p5];obtain⟨N,ai,aj,al⟩:=S.tk.empty<|z9 X.w n d;have I1:q9 X pins σ H { s with toks:=tk }:=I.tok tk;unfold setSearch;refine p9<|Cq (s:={ s with toks:=tk }) sm I1 hn (by lia) S r rv kd (λhd=>?_) ai aj al (λhd=>?_) 100000 0 a8 (z8 _) ?_ rfl λk i hk=>o5 hk<|MY _;exact t4<|h _ s.heap tk ds (λ_ _ _ e=>e) ⟨o,es,ep,t,S⟩ (λx=>⟨.inl,λz=>z.elim id λe=>e ▸ hd⟩)<|Os _;dsimp only;refine p9<|MD (s:={ s with toks:=tk }) S.ob S.dt S.fits ?_;dsimp only;have J:=S.tk.len;rw[u6,D8]at J;have dl:ds.length=es.size:=by have:=Paired.length S.en;simpa using this
 have F:∀O:Bool,f9 (h8 X.prog X.w) A (do
   storeSet a (Qf es (t.put (Ht.sq t.mask (z9 X.w n d) N).j).2 (z9 X.w n d,E1 R)) { (t.put (Ht.sq t.mask (z9 X.w n d) N).j).1 with plain:=O }
   if (!bt&&({ (t.put (Ht.sq t.mask (z9 X.w n d) N).j).1 with plain:=O }:n9).tooFull)=a9 then do
     setRelay a (NX<|es.size+1)
     pure a9
    else pure a9) Q E { s with toks:=tk }:=λO=>by
  obtain⟨pb,T⟩:=Ht.put_pre S.tk aj al O;have G:({ (t.put (Ht.sq t.mask (z9 X.w n d) N).j).1 with plain:=O }:n9).led=t.led:=rfl;have L:({ (t.put (Ht.sq t.mask (z9 X.w n d) N).j).1 with plain:=O }:n9).mask=t.mask:=rfl;generalize ({ (t.put (Ht.sq t.mask (z9 X.w n d) N).j).1 with plain:=O }:n9)=y at T G L;generalize (t.put (Ht.sq t.mask (z9 X.w n d) N).j).2=p at pb T;rw[u6,D8]at pb;have e1:(Qf es p (z9 X.w n d,E1 R)).toList=es.toList.take p++(z9 X.w n d,E1 R)::es.toList.drop p:=SetTable.toList_insertAt ..;generalize Qf es p (z9 X.w n d,E1 R)=f at e1;have aP:f.toList.map (·.1)=(es.toList.map (·.1)).take p++z9 X.w n d::(es.toList.map (·.1)).drop p:=by rw[e1,G5,C0,List.map_take,O8]
  rw[<-aP]at T;have D:f.size=es.size+1:=by have:=p7 K6 e1;rw[D8,A1,C4,G0,Mn,D8]at this;lia
  have Y:Paired (D5 X ρ H n) (ds.take p++d::ds.drop p) f.toList:=by rw[e1];exact Paired.ins ⟨⟨v,r,rv⟩,rfl,kd,it⟩ p S.en
  have U:(ds.take p++d::ds.drop p).Perm (d::ds):=by refine List.perm_middle.trans<|PZ d ?_;rw[List.take_append_drop]
  have an:(ds.take p++d::ds.drop p).Nodup:=U.nodup_iff.mpr<|LX.mpr ⟨hd,S.nd⟩;have Z:y.fits f.size=a9:=by
   have l1:=T.len;rw[u6,D8]at l1;have h3:y.fill=y.place.size:=by unfold PU;rw[T.nod];rfl
   have fw:=S.tk.few;unfold Ov;rw[h3];simp only[D3,o8,o6];rw[J]at fw;rcases S.tk.msk with e|e|e<;>rw[L,e]<;>rw[e]at fw<;>lia
  have zz:f.size<=sizeLine:=by rw[Mc];lia
  refine p9<|wpAny_storeSet_of (s:={ s with toks:=tk }) S.ob S.dt ?_ zz;have C:(s.heap.update a<|Op f y).get? a=a7 { o with data:=.set f (ep+1) y }:=by
   have q:=LO (Op f y) S.ob<|by rw[putSet_of f y S.dt];rfl
   rwa [putSet_of f y S.dt]at q
  have as:∀c u,c≠a->s.heap.get? c=a7 u->(s.heap.update a<|Op f y).get? c=a7 u:=λc u hc e=>(OJ _ _<|w9 hc).trans e;by_cases tf:y.tooFull=a9;rw[tf];simp only[Bool.not_false,Bool.and_self,p6];have aD:((f.toList.map (·.1)).length-1)*5<y.mask*3:=by have fw:=S.tk.few;rw[J]at fw;rw[u6,D8,D,L];simpa using fw
  obtain⟨zl,W,m,g1,g2,T2,aS⟩:=T.anew tf aD (by rw[u6,D8];lia);rw[u6,D8]at g2 zl;have eg:NX (es.size+1)=NX (f.toList.map (·.1)).length:=by rw[u6,D8,D]
  unfold setRelay;refine p9<|p9<|MD (s:={ s with heap:=_,toks:=tk }) C rfl Z ?_;dsimp only;rw[eg];have nz:¬Q2 (NX (f.toList.map (·.1)).length) > sizeLine:=by rw[u6,D8];lia
  simp only[nz,p5];have ea:f.map (·.1)=(f.toList.map (·.1)).toArray:=by apply Array.ext';simp
  rw[ea,g1];have B:(m.filterMap (f[·]?)).toList=m.toList.filterMap (f.toList[·]?):=by rw[Array.toList_filterMap];congr 1;funext i;rw[Ix]
  have V:(m.filterMap (f[·]?)).size=f.size:=by have:=(pf (l:=f.toList) (is:=m.toList)<|by rw[D8];exact g2).length_eq;rw[<-B,D8,D8]at this;exact this
  refine p9 (show f9 (h8 X.prog X.w) A (if ((m.filterMap (f[·]?)).size != f.size)=a9 then _ else pure (m.filterMap (f[·]?),W)) _ _ _ from ?_);rw[o4<|by rw[V];simp];refine t4 ?_;generalize m.filterMap (f[·]?)=g at B V;have P:(m.toList.filterMap ((ds.take p++d::ds.drop p)[·]?)).Perm (ds.take p++d::ds.drop p):=pf (by
   have:(ds.take p++d::ds.drop p).length=f.size:=by rw[U.length_eq,C4,dl,D]
   rw[this];exact g2)
  refine wpAny_storeSet_of (s:={ s with heap:=_,toks:=tk }) C rfl ?_ (by rw[V];exact zz);have bk:((s.heap.update a<|Op f y).update a<|Op g W).get? a=a7 { o with data:=.set g (ep+1+1) W }:=by
   have q:=LO (Op g W) C<|by rw[putSet_of g W (es:=f) (ep:=ep+1) (t:=y) rfl];rfl
   rwa [putSet_of g W (es:=f) (ep:=ep+1) (t:=y) rfl]at q
  refine t4 (h _ _ tk (m.toList.filterMap ((ds.take p++d::ds.drop p)[·]?)) (λc u hc e=>(OJ _ _<|w9 hc).trans<|as c u hc e) ⟨_,g,_,W,bk,S.ex,rfl,?_,P.nodup_iff.mpr an,?_,aS.trans<|G.trans S.ld⟩ (λx=>?_) ?_);rw[B];refine Paired.pick _ Y λi hi=>?_;have:=g2.mem_iff.mp hi;rw[G4]at this;rw[U.length_eq,C4,dl,<-D];exact this;have e2:g.toList.map (·.1)=m.toList.map λi=>(f.toList.map (·.1)).getD i 0:=by
   rw[B];have:∀(is:List Nat),(∀i∈is,i<f.toList.length)->(is.filterMap (f.toList[·]?)).map (·.1)=is.map λi=>(f.toList.map (·.1)).getD i 0:=by
    intro is;induction is with
    |nil=>intro _;rfl
    |cons i is ih=>intro hi;have hl:=hi i C1;rw[Mq,x3 hl,C0,C0,ih λj hj=>hi j<|A6 _ hj];congr 1;rw[J6,C5,x3 hl];rfl
   refine this _ λi hi=>?_;have:=g2.mem_iff.mp hi;rw[G4]at this;rw[D8];exact this
  rw[e2];exact T2;rw[P.mem_iff,U.mem_iff,x6];exact⟨λz=>z.symm,λz=>z.symm⟩;rw[P.length_eq,U.length_eq];exact u5 _;rw[Mp.mpr tf];simp only[P0,A9,p5];refine t4<|h _ _ tk _ as ⟨_,f,_,y,C,S.ex,rfl,Y,an,T.ok<|Mp.mpr tf,G.trans S.ld⟩ (λx=>?_) ?_;rw[U.mem_iff,x6];exact⟨λz=>z.symm,λz=>z.symm⟩;rw[U.length_eq];exact u5 _
 refine MX (λ_=>p9<|hbv_D sm n 8 A _ d v _ _ _ hn I1 r rv kd λb=>?_) λ_=>?_;cases b with
 |true=>exact F (t.put (Ht.sq t.mask (z9 X.w n d) N).j).1.plain
 |false=>exact F bt
 exact F (t.put (Ht.sq t.mask (z9 X.w n d) N).j).1.plain;have:=ai;rcases S.tk.msk with e|e|e<;>rw[e]at this<;>lia
end
section
variable{X:Cx}{pins:List (c9×d5)}{σ:St}{H:Hp}{ρ:List c9}{M:t7}{A:e9}{E:c5->f6->Prop}{s:f6}{n:Nat}
theorem KS.at(x:KS X ρ H h a n ds)(k:∀o,h.get? a=a7 o->h'.get? a=a7 o):KS X ρ H h' a n ds:=by obtain⟨o,es,i,t,S⟩:=x;exact⟨o,es,i,t,k _ S.ob,S.ex,S.dt,S.en,S.nd,S.tk,S.ld⟩
theorem GJ(sm:ve X.K ρ M H)(I:q9 X pins σ H s)(hn:n<=8)(hu:A.units+n+2<j9)(W:Walks X.prog X.w A.in1 J fp wr m P Sx)(S:c9)(f:S∉fp)(G:s.heap.get? S=a8) (B:∀b∈wr,s.heap.get? b=a8) (l:Nat->D) (y:∀i v,P i v->∃vv,u3 X.K ρ H (l i) vv/\aV vv v/\cT n (l i)=a9/\fQ (l i)=a9) (hb:m<=63):∀(k i:Nat) (h:d6) (tk:Nat) (ds:List D),m-i=k->i<=m->Sx i h->KS X ρ H h S n ds->(∀x,x∈ds↔∃j,j<i/\l j=x)->ds.length<=i->(∀b u,s.heap.get? b=a7 u->h.get? b=a7 u) ->(∀h' tk ds',(∀b u,s.heap.get? b=a7 u->h'.get? b=a7 u)->KS X ρ H h' S n ds'->(∀x,x∈ds'↔∃j,j<m/\l j=x)->ds'.length<=m->R (.ok<|.ret .none) { s with heap:=h',toks:=tk }) ->k5 (h8 X.prog X.w) A (.builtin "set.update.loop" ⟨[.ref S,.ref J],[]⟩) R { s with heap:=h,toks:=tk }:=by
 have g:S∉wr:=λh=>f<|W.sub _ h;intro k;induction k with
 |zero =>
  intro i h tk ds hk hi t E O U a Y;obtain rfl:i=m:=by lia
  refine MC F.entry_set_update_loop ?_;rw[Nk F.plain_set_update_loop _];refine(show f9 (h8 X.prog X.w) A.in1 (j1 (.ref J) >>= _) _ _ _ from p9<|W.done _ _ _ t λh' tk d=>?_);refine t4<|Y h' tk ds (λb u e=>d b u (λz=>by rw[B b z]at e;cases e)<|a b u e) (E.at λo e=>d S o g e) O U
 |succ k ih=>intro i h tk ds hk hi t E O U a Y;refine MC F.entry_set_update_loop ?_;rw[Nk F.plain_set_update_loop _];refine(show f9 (h8 X.prog X.w) A.in1 (j1 (.ref J) >>= _) _ _ _ from p9<|W.item i _ _ _ (by lia) t λv h' tk hP p d=>?_);obtain⟨vv,r,rv,kd,it⟩:=y i v hP;have c:∀b u,s.heap.get? b=a7 u->h'.get? b=a7 u:=λb u e=>d b u (λz=>by rw[B b z]at e;cases e)<|a b u e;have Z:q9 X pins σ H { s with heap:=h',toks:=tk }:=I.kept c;refine p9<|E2<|add_D (s:={ s with heap:=h',toks:=tk }) sm Z hn (by show A.units+1+n+1<j9;lia) (E.at λo e=>d S o g e) (by lia) r rv kd it λb h2 T C V L Q ai=>?_;refine t4 ⟨MW F.plain_set_update_loop _,ih (i+1) h2 T C (by lia) (by lia) (W.frame _ h' h2 p λb' N o e=>V b' o (λz=>f<|z ▸ N) e) L (λx=>?_) (by lia) (λb u e=>V b u (λz=>by rw[z,G]at e;cases e)<|c b u e) Y⟩;rw[Q,O];constructor;rintro(⟨j,hj,e⟩|rfl);exact⟨j,by lia,e⟩;exact⟨i,by lia,rfl⟩;rintro⟨j,hj,rfl⟩;by_cases q:j=i;subst q;exact .inr rfl;exact .inl ⟨j,by lia,rfl⟩
theorem Dq(e:h.get? a=a7 (br X.w)):KS X ρ H h a n []:=⟨_,#[],0,_,e,⟨rfl,rfl,rfl⟩,rfl,.nil,NW,⟨.inl rfl,rfl,rfl,Pp,λj L=>by simp[SetTable.fresh]at L,(by show 0*5<7*3;decide),λi h j b=>by simp at b⟩,rfl⟩
end
section
variable{X:Cx}{pins:List (c9×d5)}{σ:St}{H:Hp}{ρ:List c9}{M:t7}{A:e9}{E:c5->f6->Prop}{s:f6}{m:Nat}
theorem Hc(Z:ve X.K ρ M H)(I:q9 X pins σ H s)(B:m<=8)(hu:A.units+m+3<j9){l:c9}{T:String}{n:Nat}{P:Nat->c5->Prop}{G:f6->Prop}(O:A.handled=a8)(K:TxSrc X.prog X.w s.heap l T n P)(a:Nat->D)(y:∀i v,P i v->∃vv,u3 X.K ρ H (a i) vv/\aV vv v/\cT m (a i)=a9/\fQ (a i)=a9)(N:n<=63)(h:∀h' tk ds,(∀b o,s.heap.get? b=a7 o->h'.get? b=a7 o)->KS X ρ H h' s.heap.objs.size m ds->(∀x,x∈ds↔∃j,j<n/\a j=x)->ds.length<=n->G { s with heap:=h',toks:=tk }):f9 (h8 X.prog X.w) A (Builtin.«set.__init__» ⟨[.ref s.heap.objs.size,.ref l],[]⟩) (λfin s'=>fin=.done (.ret .none)/\G s') E { s with heap:=s.heap.push (br X.w) }:=by
 have S:(s.heap.push<|br X.w).get? s.heap.objs.size=a7 (br X.w):=z0 _ rfl;have hT:Ng { s with heap:=s.heap.push (br X.w) } (.ref s.heap.objs.size) "set":=⟨_,S,rfl⟩
 obtain⟨F,f,r⟩:=K.obj;have c:(s.heap.push<|br X.w).get? l=a7 F:=v7 _ f;have L:Ng { s with heap:=s.heap.push (br X.w) } (.ref l) T:=⟨F,c,r⟩
 have Y:l<s.heap.objs.size:=v9 f;have J:(s.heap.push<|br X.w).objs.size=s.heap.objs.size+1:=LG ..;obtain⟨oI,St,t,W,st⟩:=K.iter A.in1 { s with heap:=s.heap.push (br X.w) } O λo e=>v7 _ e;have ns:=K.ns;have nf:=K.nf;have nd:=K.nd;unfold Builtin.«set.__init__» noKeywords Builtin.Frozenset.updateFrom;generalize d:j3=PI
 wp_walk
 subst d;refine wpAny_of_in1<|t _ _ ?_;have k:s.heap.objs.size∉[(s.heap.push<|br X.w).objs.size,l]:=by rw[J];simp only[x6,L6,or_false,not_or];exact⟨x9<|LI _,NQ Y⟩
 have g:s.heap.get? s.heap.objs.size=a8:=by
  cases q:s.heap.get? s.heap.objs.size with
  |none=>rfl
  |some o=>exact o5 (v9 q)<|D4 _
 have C:∀b∈[(s.heap.push<|br X.w).objs.size],s.heap.get? b=a8:=λb p=>by
  rw[LJ.mp p,J];cases q:s.heap.get? (s.heap.objs.size+1) with
  |none=>rfl
  |some o=>exact o5 (v9 q)<|MT.mpr<|Os _
 refine p9<|wpAny_runValue<|GJ (s:=s) Z I B (by first|exact(show A.units+m+2<j9 by lia)|exact(show A.units+1+m+2<j9 by lia)) W s.heap.objs.size k g C a y N n 0 _ _ [] rfl (z8 _) st (Dq<|v7 _ S) (λx=>by simp) (u5 _) (λb u e=>v7 _<|v7 _ e) λh' tk V Q z U R=>?_;exact t4<|t4 ⟨rfl,h h' tk V Q z U R⟩
set_option maxHeartbeats 1000000 in
theorem HY(C:ve X.K ρ M H)(I:q9 X pins σ H s)(B:m<=8)(Z:A.units+m+20<j9){l:c9}{T:String}{n:Nat}{P:Nat->c5->Prop}{Q:c5->f6->Prop}(t:A.handled=a8)(K:TxSrc X.prog X.w s.heap l T n P)(a:Nat->D)(y:∀i v,P i v->∃vv,u3 X.K ρ H (a i) vv/\aV vv v/\cT m (a i)=a9/\fQ (a i)=a9)(p:n<=63)(h:∀h' tk ds,(∀b o,s.heap.get? b=a7 o->h'.get? b=a7 o)->KS X ρ H h' s.heap.objs.size m ds->(∀x,x∈ds↔∃j,j<n/\a j=x)->ds.length<=n->Q (.ref s.heap.objs.size) { s with heap:=h',toks:=tk }):f9 (h8 X.prog X.w) A (call (.type "set") [.ref l]) Q E s:=by
 have O:=F.called_set.made;have W:=F.called_set.sub;have U:=F.called_set.notType;have L:=F.called_set.canCreate;have Y:=F.typeCall_set_1<|.ref l;obtain⟨c,tl,V⟩:=F.called_set.mro;refine wpAny_call<|codeAny_of_tree<|show f9 _ _ (callAny (.type "set") _) _ _ _ from t4 ⟨Code.quiet_builtin _ (by decide +kernel),MC F.entry_type_call ?_⟩;rw[Around.under_plain (weight_type_call_type "set" [.ref l] []) rfl]
 repeat (any_goals (first|assumption|wp_step))
 refine NP (vG (.ref l) (E:=E) (Q₁:=λobj s₁=>obj=.ref s.heap.objs.size/\s₁={ s with heap:=s.heap.push (br X.w) }) ⟨rfl,rfl⟩) λr s₁ hr=>?_
 match r,hr with
 |.error e,hr=>exact hr
 |.ok (.ret obj),⟨e1,e2⟩ =>
  subst e1 e2;have S:(s.heap.push<|br X.w).get? s.heap.objs.size=a7 (br X.w):=z0 _ rfl;have k:Ng { s with heap:=s.heap.push (br X.w) } (.ref s.heap.objs.size) "set":=⟨_,S,rfl⟩
  have N:=F.called_set.init.lookup;have J:=F.called_set.init.bind<|.ref s.heap.objs.size
  repeat (any_goals (first|assumption|wp_step))
  refine NP (codeAny_call_builtin (R:=wants (λr s₂=>r=.none/\Q (.ref s.heap.objs.size) s₂) E) F.called_set.init.plain F.entry_set_init<|check_set_init_1 k ?_) λd s₂ hr₂=>?_;refine E7 (Hc (G:=λu=>Q (.ref s.heap.objs.size) u) C I B (by first|(show A.units+1+1+1+m+3<j9;lia)|(show A.units+1+1+m+3<j9;lia)|(show A.units+1+m+3<j9;lia)) (by simp[t]) K a y p h) (λf s' ⟨e,g⟩=>?_) λ_ _ z=>z;subst e;exact⟨rfl,g⟩
  ·match d,hr₂ with
   |.error e,hr₂=>exact hr₂
   |.ok (.ret r),⟨e,q⟩ =>
    subst e
    repeat (any_goals (first|assumption|wp_step))
end
def SqAt(M:t7)(d:D)(xs:List D):Prop:=(∃n,d=.ref n/\ar M n xs)\/d=.tup xs
theorem SrtOk.sub(h:SrtOk M xs)(s:∀y∈ys,y∈xs)(l:ys.length<64):SrtOk M ys:=by refine⟨l,λx a=>h.ok x<|s x a,λx a y O=>h.cm x (s x a) y<|s y O,?_⟩;rcases h.kd with k|k|k|k|k;exact .inl λx a=>k x<|s x a;exact .inr<|.inl λx a=>k x<|s x a;exact .inr<|.inr<|.inl λx a=>k x<|s x a;exact .inr<|.inr<|.inr<|.inl λx a=>k x<|s x a;exact .inr<|.inr<|.inr<|.inr λx a=>k x<|s x a
section
variable{X:Cx}{e:ge}{te:v5}{p p' pos pos':i3}{k:Nat}
theorem IS(I:q9 X pins σ H s)(e:ve X.K ρ M H)(r:u3 X.K ρ H d v)(b:aV v u)(t:SqAt M d xs):∃(a:c9) (T:String) (its:Array c5) (vs:List V),u=.ref a/\TxSrc X.prog X.w s.heap a T its.size (λi v=>its[i]?=a7 v)/\Reps X.K ρ H xs vs/\av vs its.toList:=by
 rcases t with⟨n,rfl,h⟩|rfl;cases r with
 |@ref _ a c=>cases b;obtain⟨vs,hs,f⟩:=h.seq e c;obtain⟨its,m,p,_⟩:=I.list hs;exact⟨a,_,its.toArray,vs,rfl,TxSrc.list p.isList,f,by simpa using m⟩
 cases r with
 |@tup a vs _ hs f=>cases b;obtain⟨its,m,p,_⟩:=I.tuple hs;exact⟨a,_,its.toArray,vs,rfl,TxSrc.tuple p,f,by simpa using m⟩
theorem mn:∀{ds:List D}{vs:List V}{its:List c5}{i:Nat}{u:c5}{ρ:List c9}{H:Hp},Reps X.K ρ H ds vs->av vs its->its[i]?=a7 u->∃d v,ds[i]?=a7 d/\u3 X.K ρ H d v/\aV v u
 |_,_,_,i,u,_,_,.nil,h,e=>by cases h;simp at e
 |_,_,_,0,u,_,_,.cons r _,h,e=>by
  cases h with
  |cons a _=>simp at e;subst e;exact⟨_,_,rfl,r,a⟩
 |_,_,_,i+1,u,_,_,.cons _ t,h,e=>by
  cases h with
  |cons _ b=>obtain⟨d,v,e1,r,rv⟩:=mn (i:=i) t b (by simpa using e);exact⟨d,v,by simpa using e1,r,rv⟩
theorem ents:∀{ds:List D}{es:List (Int×c5)},Paired (D5 X ρ H n) ds es->∃vs,Reps X.K ρ H ds vs/\av vs (es.map (·.2))
 |_,_,.nil=>⟨[],.nil,.nil⟩
 |_,_,.cons ⟨⟨v,r,rv⟩,_⟩ t=>by obtain⟨vs,a,b⟩:=ents t;exact⟨v::vs,.cons r a,.cons rv b⟩
theorem zW(p:us'.Perm us):∀{ds:List D}{vs:List V},Reps X.K ρ H ds vs->av vs us->∃ds' vs',ds'.Perm ds/\Reps X.K ρ H ds' vs'/\av vs' us':=by
 induction p with
 |nil=>intro ds vs r h;exact⟨ds,vs,.refl _,r,h⟩
 |cons x _ o =>
  intro ds vs r h;cases h with
  |cons a b =>
   cases r with
   |cons c d=>obtain⟨ds',vs',h1,h2,e⟩:=o d b;exact⟨_,_,h1.cons _,.cons c h2,.cons a e⟩
 |swap x y l =>
  intro ds vs r h;cases h with
  |cons a b =>
   cases b with
   |cons g j =>
    cases r with
    |cons c d =>
     cases d with
     |cons k m=>exact⟨_,_,.swap _ _ _,.cons k<|.cons c m,.cons g<|.cons a j⟩
 |trans _ _ i f=>intro ds vs r h;obtain⟨ds',vs',h1,h2,e⟩:=f r h;obtain⟨C,v,g1,n,g3⟩:=i h2 e;exact⟨C,v,g1.trans h1,n,g3⟩
end
def jX(te:v5):v5:=λS M Q=>te S M λd a=>∃n xs,n<=8/\SqAt a d xs/\xs.length<64/\(∀x∈xs,cT n x=a9/\fQ x=a9)/\SrtOk a xs/\∀ys:List D,ys.Nodup->(∀x,x∈ys↔x∈xs)->Iv a ys->Q (.ref a.length) (a++[.lst ys])
section
variable{X:Cx}{e:ge}{te:v5}{p p' pos pos':i3}{k:Nat}
set_option maxHeartbeats 1000000 in
theorem yz(hr:Room k X.A)(hc:X.calm=a9)(he:DE X e te)(Y:X.mg "sorted" = a8)(Z:X.mg "set" = a8)(U:X.env.kindOf "sorted" = a7 .globalImplicit)(V:X.env.kindOf "set" = a7 .globalImplicit)(h1:i5 [e] X.env=[(bt,eval e X.env)]) (h2:i5 [Np (.Name "set" p') [e] [] pos'] X.env=[(bt,eval (Np (.Name "set" p') [e] [] pos') X.env)]):DE X (.Call (.Name "sorted" p) [.Call (.Name "set" p') [e] [] pos'] [] pos) (jX te):=by
 rintro pins s σ H R I ⟨S,M,ρ,Q,sm,sr,q,kk⟩;refine Oc<|iq I U Y (by rfl) ?_;refine callWith_builtin1 ?_ (by rw[h2];rfl) rfl;rw[h2];refine Qp ?_;refine Oc<|iq I V Z (by rfl) ?_;refine callWith_type1 ?_ (by rw[h1];rfl) rfl;rw[h1];refine Qp<|v4 (he pins s σ H _ I ⟨S,M,ρ,_,sm,sr,q,λv H' z=>z⟩) ?_;rintro u s1 ⟨v,H1,B,rv,d,M1,bs,c,g1,r1,cases⟩;refine Qk ?_;obtain⟨n,xs,n8,sq,hl,hk,so,J⟩:=cases;obtain⟨a,T,its,ws,rfl,src,w,vx⟩:=IS B c r1 rv sq;have li:its.size=xs.length:=by have h1:=vx.length;have h2:=w.length;simp at h1;lia
 have un:=hr.un;refine HY c B n8 (by lia) (B.ok.hd hc) src (λi=>xs.getD i .non) (λi v e=>?_) (by lia) λh2 f ds k2 l W aS=>?_;obtain⟨d,vv,e1,r,rv⟩:=mn w vx (by rw[Ix];exact e);have G:xs.getD i .non=d:=by rw[J6,e1];rfl
 have:=hk d<|F0 e1;exact⟨vv,by rw[G];exact r,rv,by rw[G];exact this.1,by rw[G];exact this.2⟩;refine Qk ?_;have E:=B.kept (t':=f) k2;obtain⟨o,es,ep,t,K⟩:=l;have bk:ds.length=es.size:=by have:=K.en.length;simpa using this
 have hz:es.size<=sizeLine:=by rw[Mc];lia
 refine xN (s:={ s1 with heap:=h2,toks:=f }) (E.ok.hd hc) ⟨K.ob,K.dt,K.fits⟩ K.ex.1 (λz=>.inr K.tk.ris) K.ld hz λh3 bl dr D vs k3 N O pv=>?_;have h:∀x,x∈ds↔x∈xs:=λx=>by
  rw[W x,li];constructor;rintro⟨j,L,rfl⟩;have e:xs.getD j .non=xs[j]:=by simp[NO,L]
  rw[e];exact L5 L;intro hx;obtain⟨j,L,e⟩:=Pv hx;exact⟨j,L,by rw[show xs.getD j .non=xs[j] by simp[NO,L]];exact e⟩
 obtain⟨bo,al,as⟩:=ents K.en;obtain⟨ds',bm,C,an,aD⟩:=zW pv al as;obtain⟨m,hn,_⟩:=E.loc;have P:D≠X.env.locals:=λz=>by obtain⟨oL,_,_,hL,_⟩:=hn;rw[z]at N;rw[N]at hL;cases hL
 have ai:h3.Ns X.env.locals m:=hn.at' λo e=>k3 _ _ e;refine FC (X:=X) (pins:=pins) (σ:=σ) (s:={ s1 with heap:=h2,toks:=f,drawn:=dr }) (n:=0) hr (by show X.A.units+1<=X.A.units+4;lia) E.drew c (so.sub (ys:=ds') (λy hy=>(h y).mp<|C.mem_iff.mp hy)<|by rw[C.length_eq];lia).g an aD hn ai (λb u _ e=>k3 b u e) N P O λv H' x=>?_;refine kk v H' ?_;have:=x (λd F=>Q d F) λys hp aj=>?_;obtain⟨d,F,aP,a1,a2,a3,a4⟩:=this;exact⟨d,F,aP,a1,g1.trans a2,a3,a4⟩;exact J ys ((hp.trans C).nodup_iff.mpr K.nd) (λx=>((hp.trans C).mem_iff).trans<|h x) aj
theorem yn(r:Room k X.A)(i:HE X e te)(Y:X.mg "sorted" = a8)(Q:X.mg "set" = a8)(f:X.calm=a9:=by kernel_rfl)(U:X.env.kindOf "sorted" = a7 .globalImplicit:=by kernel_rfl)(V:X.env.kindOf "set" = a7 .globalImplicit:=by kernel_rfl)(h1:i5 [e] X.env=[(bt,eval e X.env)]:=by kernel_rfl) (h2:i5 [Np (.Name "set" p') [e] [] pos'] X.env=[(bt,eval (Np (.Name "set" p') [e] [] pos') X.env)]:=by kernel_rfl):HE X (.Call (.Name "sorted" p) [.Call (.Name "set" p') [e] [] pos'] [] pos) (jX te):=⟨yz r f i.ok Y Q U V h1 h2⟩
end
def gH(h:d6):Nat->D->c5->Prop
 |_,.str x,v=>∃t,v=.str x t
 |_,.int i,v=>∃t,v=.int i t
 |n+1,.tup ds,v=>∃a its,v=.ref a/\h.IsTuple a its/\Paired (gH h n) ds its.toList
 |_,_,_=>False
noncomputable def OQ:Nat->D->Nat
 |n+1,.tup ds=>(ds.map<|OQ n).sum+1
 |_,_=>1
theorem jP:∀(n:Nat) (d:D) (v:c5),gH h n d v->cT n d=a9:=by
 intro n;induction n with
 |zero=>intro d v k;cases d<;>first|rfl|exact k.elim
 |succ n b =>
  intro d v k;cases d with
  |str x=>rfl
  |int x=>rfl
  |tup ds =>
   obtain⟨a,its,_,_,p⟩:=k;show ds.all (cT n)=a9;generalize its.toList=l at p;induction p with
   |nil=>rfl
   |cons r _ i=>rw[L3,b _ _ r,i];rfl
  |_=>exact k.elim
theorem vn{h:d6}{a:c9}{xs ys:Array c5}(h1:h.IsTuple a xs)(h2:h.IsTuple a ys):xs=ys:=by obtain⟨o,t,_,n,d⟩:=h1;obtain⟨c,l,_,f,b⟩:=h2;obtain rfl:o=c:=A5<|t.symm.trans l;rw[d]at b;injection b
theorem sW{h:d6}:∀(n:Nat) (x y:D) (v:c5),gH h n x v->gH h n y v->x=y:=by
 intro n;induction n with
 |zero =>
  intro x y v k C;cases x with
  |str a =>
   obtain⟨t,rfl⟩:=k;cases y with
   |str b=>obtain⟨t',e⟩:=C;injection e with e;rw[e]
   |int b=>obtain⟨t',e⟩:=C;cases e
   |_=>exact C.elim
  |int a =>
   obtain⟨t,rfl⟩:=k;cases y with
   |str b=>obtain⟨t',e⟩:=C;cases e
   |int b=>obtain⟨t',e⟩:=C;injection e with e;rw[e]
   |_=>exact C.elim
  |_=>exact k.elim
 |succ n c =>
  intro x y v k C;cases x with
  |str a =>
   obtain⟨t,rfl⟩:=k;cases y with
   |str b=>obtain⟨t',e⟩:=C;injection e with e;rw[e]
   |int b=>obtain⟨t',e⟩:=C;cases e
   |tup b=>obtain⟨_,_,e,_⟩:=C;cases e
   |_=>exact C.elim
  |int a =>
   obtain⟨t,rfl⟩:=k;cases y with
   |str b=>obtain⟨t',e⟩:=C;cases e
   |int b=>obtain⟨t',e⟩:=C;injection e with e;rw[e]
   |tup b=>obtain⟨_,_,e,_⟩:=C;cases e
   |_=>exact C.elim
  |tup xs =>
   obtain⟨a,its,rfl,E,g⟩:=k;cases y with
   |str b=>obtain⟨t',e⟩:=C;cases e
   |int b=>obtain⟨t',e⟩:=C;cases e
   |tup ys =>
    obtain⟨_,i,e,F,j⟩:=C;cases e;obtain rfl:=vn E F;congr 1;generalize its.toList=l at g j;induction g generalizing ys with
    |nil=>cases j;rfl
    |cons r _ d=>cases j with
     |cons r' t'=>rw[c _ _ _ r r',d _ t']
   |_=>exact C.elim
  |_=>exact k.elim
theorem yk(k:∀a its,h.IsTuple a its->h'.IsTuple a its):∀(n:Nat) (d:D) (v:c5),gH h n d v->gH h' n d v:=by
 intro n;induction n with
 |zero=>intro d v q;cases d<;>first|exact q|exact q.elim
 |succ n i =>
  intro d v q;cases d with
  |str x=>exact q
  |int x=>exact q
  |tup ds=>obtain⟨a,its,e,t,p⟩:=q;exact⟨a,its,e,k _ _ t,Paired.mapP p λx y r=>i x y r⟩
  |_=>exact q.elim
theorem vj{es ep}(q:gH h n k v)(B:h.get? d=a7 o)(g:o.data=.dict es ep)(hs:Mz d h h'):gH h' n k v:=by
 refine yk (λa its ⟨f,e,c,m,t⟩=>?_) n k v q;have b:a≠d:=by rintro rfl;obtain rfl:f=o:=A5<|e.symm.trans B;rw[g]at t;cases t
 exact⟨f,(hs.2 a b).trans e,c,m,t⟩
section
variable{prog:c8}{w:c7}
theorem ym:∀(n:Nat) (A:e9) (s:f6) (d:D) (u:c5) (E:c5->f6->Prop) (Q:Int->f6->Prop),A.units+n<j9->gH s.heap n d u ->Q (z9 w n d) { s with toks:=s.toks+OQ n d }->f9 (h8 prog w) A (pyHash u) Q E s:=by
 intro n;induction n with
 |zero =>
  intro A s d u E Q q k h;cases d with
  |str x=>obtain⟨t,rfl⟩:=k;exact Pk h
  |int x=>obtain⟨t,rfl⟩:=k;exact Pl h
  |_=>exact k.elim
 |succ n r =>
  intro A s d u E Q q k h;cases d with
  |str x=>obtain⟨t,rfl⟩:=k;exact Pk h
  |int x=>obtain⟨t,rfl⟩:=k;exact Pl h
  |tup ds =>
   obtain⟨a,its,rfl,⟨o,B,j,R,m⟩,p⟩:=k;have T:s.TypeIs (.ref a) "tuple":=⟨o,B,j⟩
   unfold pyHash
   first|unfold pyHashByItsType|skip
   first|refine p9 (wpAny_cRoomFor_or (.inr<|by lia) ?_)|skip
   refine p9<|Ni T F.slot_tuple_hash.lookup ?_;refine(show f9 (h8 prog w) _ (if (a7 (Value.builtin "tuple.__hash__")==a7 H9)=a9 then _ else _) Q E s from ?_);rw[o4<|by rw[beq_builtin_none];exact MF];refine p9<|Ni T F.slot_tuple_hash.lookup ?_;refine(show f9 (h8 prog w) _ (callSpecialIfBoundUnlessNone? (.ref a) "__hash__" _ >>= _) Q E s from p9<|RL T F.slot_tuple_hash<|G8 F.slot_tuple_hash T F.entry_tuple_hash ?_<|F.args_tuple_hash_1 _);refine(show f9 (h8 prog w) _ (QI (.ref a) >>= _) _ _ s from p9<|wpAny_tupleItemsOf B m<|p9 ?_);rw[<-ND];refine Nz _ (λbf (b:Array Int) s'=>∃done left,ds=done++left/\Paired (gH s.heap n) left bf/\b.toList=done.map (z9 w n)/\s'={ s with toks:=s.toks+(done.map<|OQ n).sum }) _ ?_ ?_ _ _ ⟨[],ds,rfl,p,rfl,rfl⟩;rintro x bf b s' ⟨done,left,e,h1,f,rfl⟩;cases h1 with
   |@cons g _ c _ U J =>
    refine p9<|r _ _ g x _ _ (by show A.units+1+n<j9;lia) U ?_
    first
     |exact t4 ⟨done++[g],c,by rw[e];simp,J,by simp[f],by simp[Nat.add_assoc]⟩
     |exact p9 (t4 (t4 ⟨done++[g],c,by rw[e];simp,J,by simp[f],by simp[Nat.add_assoc]⟩))
   rintro b s' ⟨done,left,e,h1,f,rfl⟩;cases h1;rw[G7]at e;subst e;refine(show f9 (h8 prog w) _ (retInt<|Og b.toList) _ _ _ from ?_);rw[f];refine wpAny_ret_mkInt ?_;have l:z9 w (n+1) (.tup ds)=m6 (Og<|ds.map<|z9 w n):=rfl;have h':Q (z9 w (n+1)<|.tup ds) { s with toks:=s.toks+(ds.map<|OQ n).sum+1 }:=h;generalize Og (ds.map<|z9 w n)=z at l;refine(show f9 (h8 prog w) _ (if (decide (-(2:Int) ^ 63<=z)&&decide (z<2 ^ 63))=a9 then _ else _) Q E _ from ?_);unfold m6 at l;by_cases i:(decide (-(2:Int) ^ 63<=z)&&decide (z<2 ^ 63))=a9;rw[o0 i]at l ⊢;exact t4 (by rw[<-l];exact h');rw[o4 i]at l ⊢;exact p9<|L1<|t4<|by rw[<-l];exact h'
  |_=>exact k.elim
theorem vh:∀(n k:Nat) (A:e9) (s:f6) (d:D) (u:c5) (E:c5->f6->Prop) (Q:Bool->f6->Prop),n<=k->gH s.heap n d u->Q a9 s->f9 (h8 prog w) A (eqIsQuiet k u) Q E s:=by
 intro n;induction n with
 |zero =>
  intro k A s d u E Q c q h;cases d with
  |str x=>obtain⟨t,rfl⟩:=q;rw[NB k (v:=.str x t) rfl];exact t4 h
  |int x=>obtain⟨t,rfl⟩:=q;rw[NB k (v:=.int x t) rfl];exact t4 h
  |_=>exact q.elim
 |succ n e =>
  intro k A s d u E Q c q h;cases d with
  |str x=>obtain⟨t,rfl⟩:=q;rw[NB k (v:=.str x t) rfl];exact t4 h
  |int x=>obtain⟨t,rfl⟩:=q;rw[NB k (v:=.int x t) rfl];exact t4 h
  |tup ds =>
   obtain⟨a,its,rfl,⟨o,B,f,R,b⟩,p⟩:=q;obtain⟨k,rfl⟩:∃H,k=H+1:=⟨k-1,by lia⟩
   have T:s.TypeIs (.ref a) "tuple":=⟨o,B,f⟩
   unfold eqIsQuiet;refine p9<|Ni T F.slot_tuple_eq.lookup ?_;refine(show f9 (h8 prog w) A (isInstance (.ref a) (.type "tuple") >>= _) _ _ s from p9<|Ny T isSubtype_tuple_tuple ?_);simp only[MV,A9,p5];refine p9<|LV B b ?_;simp only[Option.getD_some];refine p9 ?_;refine(show f9 (h8 prog w) A (forIn its _ _) _ _ s from ?_);rw[<-ND];refine Nz _ (λbf r s'=>r.1=a8/\s'=s/\∃left,Paired (gH s.heap n) left bf) _ ?_ ?_ _ _ ⟨rfl,rfl,ds,p⟩;rintro x bf r s' ⟨i,rfl,left,h1⟩;cases h1 with
   |cons U J=>refine p9<|e k _ _ _ x _ _ (by lia) U ?_;simp only[MV,A9,p5];exact t4 ⟨rfl,rfl,_,J⟩
   rintro⟨r1,r2⟩ s' ⟨i,rfl,_⟩;simp only at i;subst i;exact t4 h
  |_=>exact q.elim
theorem lr{h:d6}{n:Nat}{ds:List D}{its:Array c5}(p:Paired (gH h n) ds its.toList):ds.length=its.size:=by
 rw[<-D8];generalize its.toList=l at p;induction p with
 |nil=>rfl
 |cons _ _ i=>rw[C4,C4,i]
theorem Dv:∀(n:Nat) (A:e9) (s:f6) (x y:D) (u v:c5),A.units+n<j9->gH s.heap n x u->gH s.heap n y v->Ml A s u v (t8 [] n x y):=by
 intro n;induction n with
 |zero =>
  intro A s x y u v E k C;cases x with
  |str a =>
   obtain⟨t,rfl⟩:=k;cases y with
   |str b=>obtain⟨t',rfl⟩:=C;exact Qn _ _ _ _
   |int b=>obtain⟨t',rfl⟩:=C;exact Pq _ _ _ _
   |_=>exact C.elim
  |int a =>
   obtain⟨t,rfl⟩:=k;cases y with
   |str b=>obtain⟨t',rfl⟩:=C;exact Ps _ _ _ _
   |int b=>obtain⟨t',rfl⟩:=C;exact Qo _ _ _ _
   |_=>exact C.elim
  |_=>exact k.elim
 |succ n F =>
  intro A s x y u v E k C;have c:A.units<j9:=by lia
  have h:A.in1.units+n<j9:=by show A.units+1+n<j9;lia
  cases x with
  |str a =>
   obtain⟨t,rfl⟩:=k;cases y with
   |str b=>obtain⟨t',rfl⟩:=C;exact Qn _ _ _ _
   |int b=>obtain⟨t',rfl⟩:=C;exact Pq _ _ _ _
   |tup b=>obtain⟨_,_,rfl,p,_⟩:=C;exact SeqAt.EqAt.str_tuple _ _ p c
   |_=>exact C.elim
  |int a =>
   obtain⟨t,rfl⟩:=k;cases y with
   |str b=>obtain⟨t',rfl⟩:=C;exact Ps _ _ _ _
   |int b=>obtain⟨t',rfl⟩:=C;exact Qo _ _ _ _
   |tup b=>obtain⟨_,_,rfl,p,_⟩:=C;exact SeqAt.EqAt.int_tuple _ _ p c
   |_=>exact C.elim
  |tup xs =>
   obtain⟨a,its,rfl,p,o⟩:=id k;cases y with
   |str b=>obtain⟨t',rfl⟩:=C;exact SeqAt.EqAt.tuple_str _ _ p c
   |int b=>obtain⟨t',rfl⟩:=C;exact SeqAt.EqAt.tuple_int _ _ p c
   |tup ys =>
    obtain⟨b,d,rfl,J,q⟩:=id C;by_cases S:a=b;subst S;have e:=sW (n+1) _ _ _ k C;rw[e,(kK (M:=[]) (n+1) _ _ (jP _ _ _ C)<|jP _ _ _ C).mpr rfl];exact P4 _;have Q:=lr o;have l:=lr q;have f:∀(j:Nat) (h1:j<its.size) (h2:j<d.size),Ml A.in1 s its[j] d[j] (t8 [] n (xs.getD j .non)<|ys.getD j .non):=λj h1 h2=>by
     obtain⟨r,z,G⟩:=dU o (i:=j) (y:=its[j]) (by rw[Ix];exact G3 h1);obtain⟨w,B,H⟩:=dU q (i:=j) (y:=d[j]) (by rw[Ix];exact G3 h2);have I:xs.getD j .non=r:=by rw[J6,z];rfl
     have K:ys.getD j .non=w:=by rw[J6,B];rfl
     rw[I,K];exact F A.in1 s r w _ _ h G H
    have m:((A7<|min its.size d.size).all (λj=>t8 [] n (xs.getD j .non)<|ys.getD j .non)&&its.size==d.size)=C3 (t8 [] n) xs ys:=by
     by_cases g:xs.length=ys.length;have W:(A7 xs.length).all (λj=>t8 [] n (xs.getD j .non)<|ys.getD j .non)=C3 (t8 [] n) xs ys:=nF g λj x y h1 h2=>by simp[NO,h1,h2]
     rw[<-Q,<-l,<-g,Nat.min_self,W];simp;rw[Bl g,<-Q,<-l];simp[g]
    have h1:=SeqAt.RcAt.tuples p J c f;rw[m]at h1;exact SeqAt.EqAt.of_refs S h1
   |_=>exact C.elim
  |_=>exact k.elim
end
noncomputable instance decD:DecidableEq D:=λa b=>K8<|a=b
noncomputable def cg(prog:c8)(w:c7):HeapKind prog w D where
 is:=λh d a=>gH h 8 d<|.ref a
 hash:=z9 w 8
 draws:=OQ 8
 room:=λA=>A.units+8<j9
 inj:=λx y=>sW 8 _ _ _ x y
 keeps:=λx B c hs=>vj x B c hs
 pyHash:=λg k h=>ym 8 _ _ _ _ _ _ g k h
 eqBool:=λ{A E s x y a b Q} g k1 k2 h=>by
  refine Dv 8 A s x y _ _ g k1 k2 _ _ _ _ ?_;have e:t8 [] 8 x y=decide (x=y):=by rw[Nx,kK 8 x y (jP _ _ _ k1)<|jP _ _ _ k2,o6]
  rw[e];exact h
 quiet:=λk h=>vh 8 8 _ _ _ _ _ _ (u5 _) k h
noncomputable def ba(kvs:List (D×D))(k:D):Option D:=(kvs.find? λp=>decide<|p.1=k).map (·.2)
noncomputable def ik(kvs:List (D×D))(k d:D):List (D×D):=if (ba kvs k).isSome then kvs.map (λp=>if p.1=k then(p.1,d)else p)else kvs++[(k,d)]
section
variable{K:u4}{ρ:List c9}{H:Hp}{M:t7}{kvs:List (D×D)}{xs:List (D×c9×c5)}
theorem wY(r:Paired (yJ K ρ H) kvs xs)(k:D):(ba kvs k=a8/\atKey xs k=a8)\/∃d p v,ba kvs k=a7 d/\atKey xs k=a7 p/\u3 K ρ H d v/\aV v p.2:=by
 unfold ba atKey;induction r with
 |nil=>exact .inl ⟨rfl,rfl⟩
 |@cons p q ps qs h t i=>obtain⟨h1,_,_,v,f,a⟩:=h;rw[L4,L4];by_cases e:p.1=k;rw[dT_ e,dT_<|h1.symm.trans e];exact .inr ⟨_,_,v,rfl,rfl,f,a⟩;rw[dF_ e,dF_<|λz=>e<|h1.trans z];exact i
theorem EY(r:Paired (yJ K ρ H) kvs xs)(n:cT 8 k=a9)(o:u3 K ρ H k (.ref b))(f:u3 K ρ H d v)(g:aV v u):Paired (yJ K ρ H) (ik kvs k d) (storedH xs k b u):=by
 unfold ik storedH;have s:(ba kvs k).isSome=(atKey xs k).isSome:=by rcases wY r k with⟨a,l⟩|⟨_,_,_,a,l,_⟩<;>rw[a,l]<;>rfl
 rw[s];by_cases q:(atKey xs k).isSome=a9;rw[o0 q,o0 q];clear s q;induction r with
 |nil=>exact .nil
 |@cons p q ps qs h t i=>rw[C0,C0];refine .cons ?_ i;obtain⟨h1,h2,c,w,j,m⟩:=h;by_cases e:p.1=k;rw[o0 e,putAt,o0<|h1.symm.trans e];exact⟨h1,h2,c,v,f,g⟩;rw[o4 e,putAt,o4<|λz=>e<|h1.trans z];exact⟨h1,h2,c,w,j,m⟩
 rw[o4 q,o4 q];clear s q;induction r with
 |nil=>exact .cons ⟨rfl,n,o,v,f,g⟩ .nil
 |cons h t i=>exact .cons h i
theorem iU(r:Paired (yJ K ρ H) kvs xs):xs.map (·.1)=kvs.map (·.1):=by
 induction r with
 |nil=>rfl
 |cons h t i=>rw[C0,C0,i,h.1]
theorem wR:(ik kvs k d).length<=kvs.length+1:=by unfold ik;split;rw[u6];lia;rw[A1];exact u5 _
theorem z7.writtenX{a p:c9}{xs:List V}{φ:c8->c7->d6->Prop}{o:HO}(b:H p=a7 (.ext φ))(h:z7 K H a xs):z7 K (v6 H p o) a xs:=by
 rcases h with h|h;rcases h with h|⟨c,h⟩
 exact .inl (.inl<|by rw[ag<|xW h b<|by intro z;cases z];exact h);exact .inl<|.inr ⟨c,by rw[ag<|xW h b<|by intro z;cases z];exact h⟩;exact .inr h
theorem ve.writeT(S:ve K ρ M H)(t:ρ[n]?=a7 a)(u:M[n]?=a7 (.dkt kvs))(s:H a=a7 (.ext<|dX a xs))(w:kvs'.length<=sizeLine)(hs:(a==d7)=bt)(X:(kvs'.map (·.1)).Nodup)(r:Paired (yJ K ρ H) kvs' xs'):ve K ρ (M.set n<|.dkt kvs') (v6 H a<|.ext<|dX a xs')/\Grow K ρ H ρ (v6 H a<|.ext<|dX a xs'):=by
 have g:Grow K ρ H ρ (v6 H a<|.ext<|dX a xs'):=⟨N1,λ_ _ h=>z7.writtenX s h⟩
 have k:∀m,m≠n->(M.set n<|.dkt kvs')[m]?=M[m]?:=λm e=>L8<|w9 e;have c:¬LY M[n]?:=λ⟨_,z⟩=>by rw[u]at z;cases z
 refine⟨⟨λm l b i d f=>?_,by rw[J7];exact S.len,λm b o d f=>?_⟩,g⟩;have q:=S.nd m l b i d f;by_cases h1:m=n;subst h1;rw[k l<|w9 i];exact .inr<|q.resolve_left c;rw[k m h1];by_cases h2:l=n;subst h2;exact .inl<|q.resolve_right c;rw[k l h2];exact q;by_cases e:m=n;subst e;have j:b=a:=A5<|d.symm.trans t;subst j;rw[Mr<|by rw[<-S.len];exact(x5.mp t).1]at f;cases f;refine⟨w,hs,X,xs',aK,Paired.mapP r ?_⟩;rintro _ _ ⟨x,y,A,v,B,C⟩;exact⟨x,y,A.grow g,v,B.grow g,C⟩;rw[k m e]at f;by_cases j:b=a;subst j;have p:=(S.nd m n b e d t).resolve_right c;rw[f]at p;exact(S.obj m b o d f).grow g<|.inr p;exact(S.obj m b o d f).grow g<|.inl<|ag j
end
section
variable{X:Cx}{pins:List (c9×d5)}{σ:St}{H:Hp}{s:f6}{ρ:List c9}{M:t7}
theorem iC(I:q9 X pins σ H s):∀(n:Nat) (d:D) (v:V) (u:c5),u3 X.K ρ H d v->aV v u->cT n d=a9->gH s.heap n d u:=by
 intro n;induction n with
 |zero =>
  intro d v u r b k;cases r with
  |str x=>exact b
  |int x=>exact b
  |_=>cases k
 |succ n e =>
  intro d v u r b k;cases r with
  |str x=>exact b
  |int x=>exact b
  |@tup a vs ds q f =>
   cases b;obtain⟨its,m,p,z⟩:=I.tuple q;have h:∀x∈ds,cT n x=a9:=E9.mp<|show ds.all (cT n)=a9 from k;refine⟨a,its.toArray,rfl,p,?_⟩;rw[List.toList_toArray];clear p q k z;induction m generalizing ds with
   |nil=>cases f;exact .nil
   |cons g j i =>
    cases f with
    |cons h1 E=>exact .cons (e _ _ _ h1 g<|h _ C1)<|i E λx c=>h x<|A6 _ c
  |_=>cases k
theorem lz(I:q9 X pins σ H s)(m:ve X.K ρ M H){n:Nat}{a:c9}{kvs:List (D×D)}(e:ρ[n]?=a7 a)(u:M[n]?=a7 (.dkt kvs)):∃xs,H a=a7 (.ext<|dX a xs)/\Paired (yJ X.K ρ H) kvs xs/\s.heap.DictOfH (cg X.prog X.w) a xs/\(a==d7)=bt/\kvs.length<=sizeLine/\xs.length=kvs.length/\(kvs.map (·.1)).Nodup:=by
 obtain⟨h1,h2,h,xs,b,r⟩:=m.obj _ _ _ e u;obtain⟨⟨o,es,t,l,R,c⟩,_⟩:=(show cH X.prog X.w H s.heap a (.ext<|dX a xs)from I.hok a _ b)
 have Z:=iU r;refine⟨xs,b,r,⟨o,es,_,t,l,R,c,λx d=>?_,by rw[Z];exact h⟩,h2,h1,?_,h⟩;obtain⟨i,hi⟩:=MQ d;obtain⟨p,_,q,j,k,_⟩:=dU r hi;rw[<-q];exact iC I 8 _ _ _ k rfl j;have:=p7 K6 Z
 rwa [u6,u6]at this
theorem qw(d:dX a xs P w h'):cH P w H' h' a (.ext<|dX a xs):=by obtain⟨o,es,t,l,R,I⟩:=d;refine⟨⟨o,es,t,l,R,I⟩,⟨o,t⟩,?_⟩;rintro h1 h2 ⟨o,es,t,l,R,I⟩ k;exact⟨o,es,k _ t,l,R,I⟩
theorem Fh(I:q9 X pins σ H s)(h:H a=a7 (.ext<|dX a xs)):dX a xs X.prog X.w s.heap:=(show cH X.prog X.w H s.heap a (.ext<|dX a xs)from I.hok a _ h).1
end
theorem setE(x:(cg prog w).room A.in1)(t:(cg prog w).is s.heap k b)(u:s.heap.DictOfH (cg prog w) d xs) (y:dX d xs prog w s.heap) (hz:xs.length<=sizeLine)(m:∀h',dX d (storedH xs k b v) prog w h'->Mz d s.heap h'->Q () { s with heap:=h',toks:=s.toks+(cg prog w).draws k }):f9 (h8 prog w) A (setItem (.ref d) (.ref b) v) Q E s:=by
 have n:=u.typeIs;obtain⟨_,_,_,_,_,_,_,g,f⟩:=u;obtain⟨o,es,B,r,h,c⟩:=y;have i:es.toList=xs.map (d8<|cg prog w):=c;unfold setItem
 try with_reducible refine E2 ?_
 refine p9<|wpAny_sequenceKey n (by decide)<|p9<|L9 (name:=AA0 "__setitem__") n slot_dict_setitem<|G8 slot_dict_setitem n entry_dict_setitem ?_<|args_dict_setitem _ _ _;refine(show f9 (h8 prog w) _ (Builtin.Dict.notOrdered "__setitem__" ⟨[.ref d,.ref b,v],[]⟩ >>= _) _ _ s from p9<|OH n ?_);refine(show f9 (h8 prog w) _ (dictSet d (.ref b) v >>= _) _ _ s from p9 ?_);unfold dictSet
 try with_reducible refine E2 ?_
 refine p9<|(cg prog w).pyHash x t ?_;unfold dictSetHashed
 try with_reducible refine E2 ?_
 have C:es.size=xs.length:=size_of_entries i;refine p9<|wpAny_dictFind_heap (s:={ s with toks:=s.toks+(cg prog w).draws k }) x t B h i g f (λa=>?_) λj p L=>?_;refine p9<|L1<|wpAny_updateDictKeys (hz:=by lia) (s:={ s with toks:=s.toks+(cg prog w).draws k }) B h<|t4 ⟨.none,rfl,t4<|m _ ⟨_,es.push ⟨(cg prog w).hash k,.ref b,v⟩,LO _ B<|Qq<|Qs h _,r.mapDictKeys _,?_,?_⟩<|LL ..⟩;rw[Qs h,storedH_new<|Qd a,A1];rfl;rw[storedH_new<|Qd a];rw[Qg,i,G5];rfl;refine p9<|L1<|p9<|wpAny_updateDict (s:={ s with toks:=s.toks+(cg prog w).draws k }) B h<|wpAny_point<|t4 ⟨.none,rfl,t4<|m _ ⟨_,es.modify j λe=>{ e with val:=v },LO _ B<|Qq<|P8 h _,r.mapDict _,?_,?_⟩<|LL ..⟩;rw[P8 h,storedH_old<|atKey_of_get f L,u6];rw[storedH_old<|atKey_of_get f L];have q:=modify_map_putAt (d8<|cg prog w) (λe:m7=>{ e with val:=v }) k v (λ_ _=>rfl) f L;rw[<-i]at q;obtain⟨l⟩:=es;have z:(Array.modify ⟨l⟩ j λe:m7=>{ e with val:=v }).toList=(xs.map<|putAt k v).map (d8<|cg prog w):=by simpa using q
 exact z
section
variable{X:Cx}{o i value:ge}{td ty tv:v5}{pos pos':i3}{k:Nat}
def tK:v5:=λ_ M Q=>Q (.ref M.length)<|M++[.dkt []]
theorem Lp:DE X (.Dict [] [] pos) tK:=by rintro p s σ H R I ⟨S,M,ρ,Q,m,e,q,D⟩;have f:H s.heap.objs.size=a8:=I.hok.fresh<|u5 _;have d:(s.heap.objs.size==d7)=bt:=beq_eq_false_iff_ne.mpr<|w9<|x9 I.big;refine wpAny_Dict_empty ⟨.ref s.heap.objs.size,_,I.laid (a:=s.heap.objs.size) (o:=.ext<|dX s.heap.objs.size []) (t':=s.toks) (λ_ _ q=>v7 _ q) (u5 _)<|qw ⟨_,#[],z0 _ rfl,⟨rfl,rfl,rfl⟩,rfl,rfl⟩,rfl,?_⟩;exact D _ _ ⟨.ref M.length,M++[.dkt []],ρ++[s.heap.objs.size],m.laidM (mo:=.dkt []) f ⟨z8 _,d,NW,[],aK,.nil⟩,Grow.laidR f,.ref m.last,(show Q (.ref M.length) (M++[.dkt []])from q)⟩
def lT(t c:v5):v5:=λS M Q=>t S M λx a=>c S a λy b=>match x,y with
 |.ref n,.tup ks=>∃s d,b[n]?=a7 (.dkt s)/\cT 8 (.tup ks)=a9/\ba s (.tup ks)=a7 d/\Q d b
 |_,_=>False
theorem Lq(V:Room k X.A)(U:DE X o td)(hi:DE X i ty)(hs:Iw i):DE X (.Subscript o i pos) (lT td ty):=by
 rintro c s σ H R I ⟨S,M,ρ,Q,sm,G,q,Z⟩;have un:=V.un;refine zC PySem.F.slot_dict_getitem.lookup hs<|v4 (U c s σ H _ I ⟨S,M,ρ,_,sm,G,q,λv H' z=>z⟩) ?_;rintro u s1 ⟨v,J,L,rv,x,N,l,h,g1,r1,q1⟩;refine v4 (hi c s1 σ J _ L ⟨S,N,l,_,h,G.grow g1,q1,λv H' z=>z⟩) ?_;rintro iv s2 ⟨w,K,f,g,y,O,m,e,C,r2,j⟩;cases x with
 |ref n =>
  cases y with
  |tup E =>
   obtain⟨ai,d,P,Y,D,q3⟩:=j;obtain⟨a,rfl,T⟩:=u3.inv_ref r1;obtain rfl:u=E1 a:=rv;obtain⟨xs,hH,r,B,W,hl,hx,_⟩:=lz f e (aC C.pre T) P;have t:=iC f 8 _ _ _ r2 g Y;rcases wY r (.tup E)with⟨z,_⟩|⟨d',p,v',e1,e2,e3,e4⟩
   rw[D]at z;cases z;rw[D]at e1;cases e1;obtain⟨b,_,rfl,_⟩:=id t;refine⟨B.typeIs,wpAny_getItem_heap (knd:=cg X.prog X.w) (k:=.tup E) (by show X.A.units+1+8<j9;lia) t B e2 ⟨v',K,f.tok _,e4,Z _ _ ⟨d,O,m,e,g1.trans C,e3,q3⟩⟩⟩
  |_=>exact j.elim
 |_=>exact j.elim
def tJ(d e t:v5):s9:=λE S M=>t S M λv b=>d S b λx c=>e S c λy a=>match x,y with
 |.ref n,.tup ks=>∃s,a[n]?=a7 (.dkt s)/\cT 8 (.tup ks)=a9/\s.length<sizeLine/\E.nx S (a.set n<|.dkt<|ik s (.tup ks) v)
 |_,_=>False
theorem pT(h:(kvs.map (·.1)).Nodup):((ik kvs y v).map (·.1)).Nodup:=by
 unfold ik;split;rw[E8];have:((λx:D×D=>x.1) ∘ λp:D×D=>if p.1=y then(p.1,v)else p)=λx=>x.1:=by funext p;show (if p.1=y then(p.1,v)else p).1=p.1;split<;>rfl
 rw[this];exact h;rename_i q;rw[G5,List.map_singleton,List.nodup_append];refine⟨h,by simp,λa f b d=>?_⟩;rw[LJ.mp d];rintro rfl;obtain⟨p,c,e⟩:=v8.mp f;refine q ?_;unfold ba;rw[Option.isSome_map,List.find?_isSome];exact⟨p,c,by simpa using e⟩
theorem Hw(hr:Room k X.A)(ho:DE X o td)(hi:DE X i ty)(hv:DE X value tv)(hs:i8 value (a7<|.Subscript o i pos') pos.line X.env=pure bt):DS X (.Assign [.Subscript o i pos'] value pos) (tJ td ty tv):=by
 rintro p s σ H E I ⟨S,M,ρ,F,sm,j,q,kk⟩;have un:=hr.un;refine wpAny_Assign_Subscript (v4 (hv p s σ H _ I ⟨S,M,ρ,_,sm,j,q,λv H' z=>z⟩) λr s1 ⟨v,T,V,rv,dv,Z,G,C,g1,r1,q1⟩=>v4 (ho p s1 σ T _ V ⟨S,Z,G,_,C,j.grow g1,q1,λv H' z=>z⟩) λu s2 ⟨vx,U,Y,rx,x,M2,J,D,g,r2,q2⟩=>v4 (hi p s2 σ U _ Y ⟨S,M2,J,_,D,(j.grow g1).grow g,q2,λv H' z=>z⟩) ?_) hs;rintro iv s3 ⟨vy,H3,f,Q,y,M3,K,e,g3,P,B⟩;cases x with
 |ref n =>
  cases y with
  |tup O =>
   obtain⟨kvs,L,N,hl,q4⟩:=B;obtain⟨a,rfl,hn⟩:=u3.inv_ref r2;obtain rfl:u=E1 a:=rx;have h:=aC g3.pre hn;obtain⟨xs,l,r,dd,W,_,hx,nd⟩:=lz f e h L;have t:=iC f 8 _ _ _ P Q N;obtain⟨b,_,rfl,_⟩:=id t;obtain⟨_,_,rfl,m,rr⟩:=u3.inv_tup P;cases Q;have r':=EY r N (.tup m rr) ((r1.grow g).grow g3) rv;have pl:=wR (kvs:=kvs) (k:=.tup O) (d:=dv);obtain⟨w1,R⟩:=e.writeT h L l (by have:=pl;lia) W (pT nd) r';refine setE (k:=.tup O) (by show X.A.units+1+8<j9;lia) t dd (Fh f l) (by lia) λh' c w=>?_;have he:∃q,h'.get? a=a7 q:=let ⟨q,_,m,_⟩:=c;⟨q,m⟩
   exact⟨σ,_,Bq f (by rw[l];exact Nq) w he<|qw c,kk.nx σ _<|SQ.trans ((g1.trans g).trans g3) ⟨S,_,K,w1,R,(((j.grow g1).grow g).grow g3).grow R,q4⟩⟩
  |_=>exact B.elim
 |_=>exact B.elim
def Nb(r:Nat->C6)(e:v5)(t:F7):v5:=λS M Q=>e S M λx a=>match x with
 |.ref n=>(∃s,a[n]?=a7 (.dkt s))/\t S a λds b=>r n ds b Q
 |_=>False
variable{name:c6}{id:String}{e:ge}{es:List ge}{to:v5}{t:F7}{apos cpos:i3}
theorem d_mt{r:Nat->C6}(slot:Slot "dict" name id)(y:l7 (.builtin id)=pure (.type "method_descriptor"))(V:LD X id (nW X.K r))(W:DE X o to)(U:DA X (e::es) t)(c:l8 o name X.env (eval o X.env)=eval o X.env:=by rfl)(f:((i4 cpos<|i5 (e::es) X.env).all (λx=>!x.1)&&(l9 cpos<|m3 [] X.env).all (λx=>x.1.isSome) && decide ((e::es).length+([]:List k6).length+(if ([]:List k6).isEmpty then 0 else 1)<30))=a9:=by rfl)(d:(apos.endLine==cpos.line)=a9:=by rfl) (hs:i5 (e::es) X.env=(bt,eval e X.env)::i5 es X.env:=by rfl) (h:(i4 cpos<|i5 es X.env).any (·.1)=bt:=by rfl):DE X (.Call (.Attribute o name apos) (e::es) [] cpos) (Nb r to t):=by
 rintro p s σ H R I ⟨S,M,ρ,Q,sm,J,q,Z⟩;refine Rb c f d rfl<|v4 (W p s σ H _ I ⟨S,M,ρ,_,sm,J,q,λv H' z=>z⟩) ?_;rintro u s1 ⟨v,L,C,rv,x,i,A,j,g1,r1,g⟩;cases r1 with
 |@ref n a G =>
  cases rv;obtain⟨⟨k,T⟩,g⟩:=(show (∃k,i[n]?=a7 (.dkt k))/\t S i _ from g)
  obtain⟨xs,hH,r,D,Y,hl,hx,nd⟩:=lz C j G T;refine⟨"dict",id,Qz,slot,y,D.typeIs,λb z=>?_,?_⟩;cases z;obtain⟨ob,_,_,h1,h2,_⟩:=D;exact⟨ob,h1,h2.2.1⟩;have F:=U cpos p s1 σ L _ C ⟨S,i,A,_,j,J.grow g1,g,λvs H' z=>z⟩;rw[hs]at F ⊢;refine OI (by show (bt||(i4 cpos<|i5 es X.env).any (·.1))=bt;rw[h]<;>rfl)<|Q5 ?_;refine v4 F ?_;rintro us s2 ⟨vs,N,O,l,ds,P,B,m,E,rr,q2⟩;exact V p s2 σ N (.ref a) vs (.ref a) us R O rfl l ⟨n,a,ds,P,B,Q,rfl,aC E.pre G,m,rr,q2,λv H' w=>Z v H'<|VQ.trans (g1.trans E) w⟩
 |_=>exact g.elim
def ij(n:Nat):C6:=λds M Q=>match ds with
 | [.tup ks,d]=>∃s,M[n]?=a7 (.dkt s)/\cT 8 (.tup ks)=a9/\Q ((ba s<|.tup ks).getD d) M
 |_=>False
theorem CY(o:Room k X.A):LD X "dict.get" (nW X.K ij):=by
 rintro g s σ H x xs v us R I J G ⟨n,a,ds,M,ρ,Q,i,j,m,f,q,D⟩;have U:=o.un;unfold ij at q;split at q;rename_i e d;obtain⟨B,u,y,q⟩:=q
 first|have z:=Reps.inv_cons f|have z:=av.inv_cons f
 clear f;obtain⟨_,_,rfl,C,f⟩:=z
 first|have z:=Reps.inv_cons f|have z:=av.inv_cons f
 clear f;obtain⟨_,_,rfl,E,f⟩:=z;cases f;obtain⟨T,L,rfl,h,l⟩:=av.two G;subst i;cases J;obtain⟨ys,N,r,c,W,O,P,S⟩:=lz I m j u;have t:=iC I 8 _ _ _ C h y;obtain⟨b,_,rfl,_⟩:=id t;refine call_meetsIn Qv c.typeIs PySem.F.entry_dict_get (PySem.F.args_dict_get_3 _ _ _) (meetsH_dict_get_default (cg X.prog X.w) a b W L) ⟨by show X.A.units+1+8<j9;lia,.tup e,ys,t,c,?_⟩;rcases wY r (.tup e)with⟨z1,z2⟩|⟨d',p,v',z1,z2,z3,z4⟩
 rw[z2];rw[z1]at q;exact⟨_,H,I.tok _,l,D _ _ ⟨d,M,ρ,m,.refl,E,q⟩⟩;rw[z2];rw[z1]at q;exact⟨_,H,I.tok _,z4,D _ _ ⟨d',M,ρ,m,.refl,z3,q⟩⟩;exact q.elim
end
def eF(h:d6)(d:c9)(es:Array m7)(ep:Nat):Prop:=∃o,h.get? d=a7 o/\o.ExactDict/\o.data=.dict es ep
theorem eF.ty{s:f6}{d:c9}{es:Array m7}{ep:Nat}(x:eF s.heap d es ep):s.TypeIs (.ref d) "dict":=by obtain⟨o,h1,h2,_⟩:=x;exact⟨o,h1,h2.1⟩
theorem eF.lt(x:eF h d es ep):d<h.objs.size:=by obtain⟨o,h1,_⟩:=x;exact v9 h1
theorem eF.to(x:eF h d es ep)(k:∀o,h.get? d=a7 o->h'.get? d=a7 o):eF h' d es ep:=by obtain⟨o,h1,h2⟩:=x;exact⟨o,k o h1,h2⟩
section
variable{prog:c8}{w:c7}{A:e9}{E:c5->f6->Prop}{s:f6}{d:c9}{es:Array m7}{ep:Nat}
theorem Ea{Q:c5->f6->Prop}(h:(d==d7)=bt)(m:eF s.heap d es ep)(b:Q (.ref s.heap.objs.size) { s with heap:=s.heap.push { cls:=.type "dict_keyiterator",data:=.fields #[.ref d,.int 0 0,.int es.size 0,.int ep 0] } }):f9 (h8 prog w) A (j3<|.ref d) Q E s:=by have n:=m.ty;obtain⟨o,h1,h2,a⟩:=m;refine Qe n F.slot_dict_iter<|G8 F.slot_dict_iter n F.entry_dict_iter ?_<|F.args_dict_iter_1 _;unfold Builtin.«dict.__iter__»;refine p9 ?_;unfold Builtin.Dict.dictSlotNone;refine p9<|OH n<|t4 ?_;refine(show f9 (h8 prog w) _ (Qu d >>= _) _ _ s from ?_);unfold Qu;rw[h];refine p9<|t4<|p9<|OB h1 a<|p9<|Oy h1 a ?_;exact p9<|J1<|t4 ⟨_,rfl,"dict_keyiterator",_,⟨_,z0 _ rfl,rfl⟩,F.slot_dict_keyiterator_next.lookup,by simpa [j4]using b⟩
theorem DZ(h:s.heap.IsKeyIter it d i es.size ep)(m:eF s.heap d es ep)(hi:i<es.size)(c:∀h',h'.IsKeyIter it d (i+1) es.size ep->Mz it s.heap h'->Q (a7 es[i].key) { s with heap:=h' }):f9 (h8 prog w) A (j1<|.ref it) Q E s:=by
 obtain⟨o,B,f,a⟩:=id h;obtain⟨j,D,C,k⟩:=id m;unfold j1;refine p9<|MP<|L9 (name:=AA0 "__next__") h.typeIs F.slot_dict_keyiterator_next<|G8 F.slot_dict_keyiterator_next h.typeIs F.entry_dict_keyiterator_next ?_<|F.args_dict_keyiterator_next_1 _;refine p9<|t4<|p9<|p9 ?_
 first|refine p9 (QM h.typeIs<|t4<|p9<|MA B a ?_)|refine p9<|QD h.typeIs<|t4<|p9<|MA B a ?_
 simp only[show PB "dict_keyiterator" = bt by decide,A9,p5];refine(show f9 (h8 prog w) _ (if (E1 d==H9)=a9 then _ else _) _ _ s from ?_);rw[o4<|by exact MF];refine p9<|t4<|p9<|OB D k ?_;rw[o4<|by simp];refine p9<|t4<|p9<|Oy D k ?_;rw[o4<|by simp];refine t4 ?_;simp only[show ¬((i:Int)<0)from by lia,p5,ME,G3 hi];refine p9 ?_
 first|refine p9 (QM h.typeIs<|t4 ?_)|refine p9<|QD h.typeIs<|t4 ?_
 refine p9<|wpAny_isOneOf_keyiter h.typeIs ?_;refine(show f9 (h8 prog w) _ (setField (.ref it) 1 (j4<|(i:Int)+1) >>= _) _ _ s from p9<|MB B a (by simp) ?_);have b:(s.heap.update it (NT (·.setIfInBounds 1 (j4<|(i:Int)+1)))).IsKeyIter it d (i+1) es.size ep:=by refine⟨_,LO _ B<|Q8<|OF a _,(Obj.cls_mapFields ..).trans f,?_⟩;rw[OF a];simp[j4]
 refine p9 (E2 (p9 (wpAny_isOneOf_keyiter (s:={ s with heap:=s.heap.update it (NT (·.setIfInBounds 1 (j4<|(i:Int)+1))) }) b.typeIs ?_)));refine(show f9 (h8 prog w) _ (pure es[i].key) _ _ _ from ?_);exact t4<|t4 ⟨_,rfl,t4<|c _ b<|LL ..⟩
theorem Hq(f:A.handled=a8)(h:s.heap.IsKeyIter it d es.size es.size ep)(g:eF s.heap d es ep)(e:∀h',Heap.ExtBut it s.heap h'->Q a8 { s with heap:=h' }):f9 (h8 prog w) A (j1<|.ref it) Q E s:=by
 obtain⟨o,B,i,c⟩:=id h;obtain⟨j,D,C,k⟩:=id g;unfold j1;refine p9<|MP<|L9 (name:=AA0 "__next__") h.typeIs F.slot_dict_keyiterator_next<|G8 F.slot_dict_keyiterator_next h.typeIs F.entry_dict_keyiterator_next ?_<|F.args_dict_keyiterator_next_1 _;refine p9<|t4<|p9<|p9 ?_
 first|refine p9 (QM h.typeIs<|t4<|p9<|MA B c ?_)|refine p9<|QD h.typeIs<|t4<|p9<|MA B c ?_
 simp only[show PB "dict_keyiterator" = bt by decide,A9,p5];refine(show f9 (h8 prog w) _ (if (E1 d==H9)=a9 then _ else _) _ _ s from ?_);rw[o4<|by exact MF];refine p9<|t4<|p9<|OB D k ?_;rw[o4<|by simp];refine p9<|t4<|p9<|Oy D k ?_;rw[o4<|by simp];refine t4 ?_;simp only[show ¬((es.size:Int)<0)from by lia,p5,ME,Oe<|u5 es.size];refine p9 ?_
 first|refine p9 (QM h.typeIs<|t4 ?_)|refine p9<|QD h.typeIs<|t4 ?_
 refine(show f9 (h8 prog w) _ (setField (.ref it) 0 .none >>= _) _ _ s from p9<|MB B c (by simp) ?_);refine(show f9 (h8 prog w) _ (newExc (.type "StopIteration") [] >>= _) _ _ _ from p9 ?_);simp only[newExc,newTuple];refine p9 (J1 ?_<|by size_fits);refine p9 (m:=m9 _ _)<|wpAny_of_eq (a:=H9) (by first|rfl|(simp only[m9];rfl)) ?_;refine J1 ?_ (by size_fits);simp only[raiseNew];refine p9<|wpAny_handled ?_;rw[show A.in1.handled=a8 from f];refine p9<|t4<|wpAny_throw ?_;refine p9<|Ny (b:=a9) (T:="StopIteration") ⟨_,z0 _ rfl,rfl⟩ Pd ?_;exact t4<|e _<|((LL ..).extBut.push _).push _
end
noncomputable def Ite(a:c9)(n:Nat):It:=⟨λi H=>∃xs,H a=a7 (.ext<|dX a xs)/\xs.length=n/\i<n,λi H v H'=>H'=H/\∀xs,H a=a7 (.ext<|dX a xs)->∃x,xs[i]?=a7 x/\v=.ref x.2.1,λi H=>(∃xs,H a=a7 (.ext<|dX a xs)/\xs.length=n)/\i=n⟩
section
variable{X:Cx}{pins:List (c9×d5)}{σ:St}{H:Hp}{s:f6}
theorem jT(I:q9 X pins σ H s)(b:H a=a7 (.ext<|dX a xs)):∃es,eF s.heap a es xs.length/\es.size=xs.length/\∀(i:Nat) x,xs[i]?=a7 x->∃e,es[i]?=a7 e/\e.key=.ref x.2.1/\e.val=x.2.2:=by
 obtain⟨o,es,h1,h2,h,f⟩:=Fh I b;refine⟨es,⟨o,h1,h2,h⟩,?_,λi x c=>?_⟩;have:=p7 K6 f
 rwa [D8,u6]at this
 refine⟨⟨z9 X.w 8 x.1,.ref x.2.1,x.2.2⟩,?_,rfl,rfl⟩;rw[<-Ix,f,C5,c];rfl
theorem xo(x:eF h a es ep)(y:eF h a es' ep'):es=es'/\ep=ep':=by obtain⟨o,h1,_,d⟩:=x;obtain⟨e,c,_,b⟩:=y;obtain rfl:o=e:=A5<|h1.symm.trans c;rw[d]at b;injection b with e1 e2;exact⟨e1,e2⟩
end
theorem Cg{P:c8}{w:c7}{K:u4}{tg:ge}(a it:c9)(n:Nat):Turn P w K tg (Ite a n) [it] it (λi h=>h.IsKeyIter it a i n n) where
 mem:=by simp
 obj:=λi h st b f=>by
  obtain rfl:b=it:=by simpa using f
  obtain⟨o,e,c,d⟩:=st;exact⟨o,e,λv z=>by rw[d]at z;cases z⟩
 keep:=λi h h' st k=>st.at λo e=>k it (by simp) o e
 item:=by
  intro X G L F T i p s σ H E I m st S;subst G L F;obtain⟨xs,D,rfl,hi⟩:=S;obtain⟨es,J,l,R⟩:=jT I D;obtain⟨e,M,N,e3⟩:=R i xs[i]<|x3 hi;obtain⟨t,u,f2,x,B,C⟩:=m it (by simp);have g:i<es.size:=by lia
  have O:es[i]=e:=by rw[G3 g]at M;exact A5 M
  rw[<-l]at J st;refine DZ st J g λh' j sb=>?_;rw[O,N];have W:q9 X p σ H { s with heap:=h' }:=I.turned (t':=s.toks) (λb o f e=>(sb.2 b f).trans e) t u x B C;obtain⟨o,q1,q2,q3⟩:=id j;refine⟨_,rfl,yu (s:={ s with heap:=h' }) q1 q2 q3 (by decide) ⟨.ref xs[i].2.1,H,W,rfl,⟨rfl,λys hy=>?_⟩,by rw[l]at j;exact j,λb f=>(m b f).1⟩⟩;obtain⟨Z,r,Y,q⟩:=jT I hy;obtain⟨rfl,ep⟩:=xo J r;have U:i<ys.length:=by lia
  obtain⟨e',V,y,_⟩:=q i ys[i]<|x3 U;rw[G3 g,O]at V;obtain rfl:=A5 V;rw[N]at y;injection y with y;exact⟨ys[i],x3 U,by rw[y]⟩
 done:=by intro X G L F T i p s σ H E I m st S;subst G L F;obtain⟨⟨xs,D,rfl⟩,rfl⟩:=S;obtain⟨es,J,l,R⟩:=jT I D;obtain⟨t,u,f2,x,B,C⟩:=m it (by simp);rw[<-l]at J st;exact Hq (I.ok.hd T) st J λh' he=>⟨rfl,I.turned (t':=s.toks) (λb o f e=>he b o f e) t u x B C⟩
 self:=λA i s Q E st hQ=>wpAny_pyIter_keyiter st hQ
section
variable{X:Cx}{tg:ge}
def lB(t:v5):LR:=λS M R=>t S M λd a=>match d with
 |.ref n=>∃s,a[n]?=a7 (.dkt s)/\(s.length<=sizeLine->R ⟨s.map (·.1),λM=>M[n]?=a7 (.dkt s)⟩ a)
 |_=>False
theorem Eg{l:ge}{N:v5}(Z:DE X l N):DI X tg l (lB N):=by
 intro t s σ H R I h;obtain⟨S,M,ρ,Q,sm,sr,q,k⟩:=h;refine v4 (Z t s σ H _ I ⟨S,M,ρ,_,sm,sr,q,λv H' w=>w⟩) ?_;rintro u D ⟨v,J,j,rv,d,E,G,B,g1,r1,L⟩;cases r1 with
 |@ref n a C =>
  cases rv;obtain⟨c,V,q2⟩:=(show ∃c,E[n]?=a7 (.dkt c)/\(c.length<=sizeLine->Q ⟨c.map (·.1),λM=>M[n]?=a7 (.dkt c)⟩ E)from L)
  obtain⟨xs,U,r,dd,W,hz,hx,nd⟩:=lz j B C V;obtain⟨es,T,P,_⟩:=jT j U;refine Ea W T ?_;rw[P];refine⟨D.heap.objs.size,[D.heap.objs.size],_,_,J,rfl,j.kept (t':=D.toks) λb o e=>v7 _ e,Cg a _ xs.length,⟨_,z0 _ rfl,rfl,rfl⟩,λb Y=>?_,k _ J ⟨⟨c.map (·.1),λM=>M[n]?=a7 (.dkt c)⟩,E,G,B,g1,?_,q2 hz⟩⟩;obtain rfl:b=D.heap.objs.size:=by simpa using Y
  exact j.fpOk (u5 _)<|j.hok.fresh<|u5 _;refine⟨λi f K H' s' g ok hi=>?_,λi f K H' x H2 s' g ok hi y=>?_,λf K H' s' g ok=>?_⟩;obtain⟨_,_,_,ys,O,A⟩:=s'.obj _ _ _ (aC g.pre C) ok;have ly:ys.length=c.length:=by have:=p7 K6<|iU A;rwa [u6,u6]at this
  exact⟨ys,O,by lia,by rw[u6]at hi;lia⟩;obtain⟨rfl,m⟩:=y;obtain⟨_,_,_,ys,O,A⟩:=s'.obj _ _ _ (aC g.pre C) ok;obtain⟨z,F,rfl⟩:=m ys O;obtain⟨p,hp,_,_,rp,_⟩:=dU A F;exact⟨p.1,f,by rw[C5,hp];rfl,s',.refl,rp⟩;obtain⟨_,_,_,ys,O,A⟩:=s'.obj _ _ _ (aC g.pre C) ok;have ly:ys.length=c.length:=by have:=p7 K6<|iU A;rwa [u6,u6]at this
  exact⟨⟨ys,O,by lia⟩,by rw[u6];lia⟩
 |_=>exact L.elim
end
section
variable{prog:c8}{w:c7}{A:e9}{E:c5->f6->Prop}{s:f6}{d:c9}{es:Array m7}{ep:Nat}
theorem pC(a:(d==d7)=bt)(m:eF s.heap d es ep)(b:Q (.ref s.heap.objs.size) { s with heap:=s.heap.push { cls:=.type "dict_values",data:=.fields #[.ref d] } }):f9 (h8 prog w) A (call (.builtin "dict.values") [.ref d]) Q E s:=by refine call_meetsIn Rp m.ty PySem.F.entry_dict_values (PySem.F.args_dict_values_1 _) (S:=λ_ R s'=>s'=s/\R (.ok<|.ret<|.ref s.heap.objs.size) { s with heap:=s.heap.push { cls:=.type "dict_values",data:=.fields #[.ref d] } }) (.of_wp ?_) ⟨rfl,b⟩;rintro A R s' ⟨rfl,h⟩;refine p9 ?_;unfold Builtin.Dict.noArgs;refine p9<|OH m.ty<|t4 ?_;refine(show f9 (h8 prog w) _ (Qu d >>= _) _ _ s' from ?_);unfold Qu;rw[a];exact p9<|t4<|p9<|J1<|t4 ⟨_,rfl,h⟩
theorem tx(c:s.heap.IsValuesView v d)(m:eF s.heap d es ep)(b:Q (.ref s.heap.objs.size) { s with heap:=s.heap.push { cls:=.type "dict_valueiterator",data:=.fields #[.ref d,.int 0 0,.int es.size 0,.int ep 0] } }):f9 (h8 prog w) A (j3<|.ref v) Q E s:=by obtain⟨g,e,P,f⟩:=id c;obtain⟨o,h1,h2,a⟩:=m;refine Qe c.typeIs F.slot_dict_values_iter<|G8 F.slot_dict_values_iter c.typeIs F.entry_dict_values_iter ?_<|F.args_dict_values_iter_1 _;unfold Builtin.«dict_values.__iter__»;refine p9<|t4<|p9 ?_;unfold Builtin.Dict_items.dictOf;refine p9<|LS e f (x:=.ref d) rfl<|t4<|p9 ?_;unfold Builtin.Dict_items.newIterator;refine p9<|OB h1 a<|p9<|Oy h1 a ?_;simp only[show PB "dict_valueiterator" = bt by decide,A9,p5];exact J1<|t4 ⟨_,rfl,"dict_valueiterator",_,⟨_,z0 _ rfl,rfl⟩,F.slot_dict_valueiterator_next.lookup,by simpa [j4]using b⟩
theorem tw(h:s.heap.IsValIter it d i es.size ep)(m:eF s.heap d es ep)(hi:i<es.size)(c:∀h',h'.IsValIter it d (i+1) es.size ep->Mz it s.heap h'->Q (a7 es[i].val) { s with heap:=h' }):f9 (h8 prog w) A (j1<|.ref it) Q E s:=by
 obtain⟨o,B,f,a⟩:=id h;obtain⟨j,D,C,k⟩:=id m;unfold j1;refine p9<|MP<|L9 (name:=AA0 "__next__") h.typeIs F.slot_dict_valueiterator_next<|G8 F.slot_dict_valueiterator_next h.typeIs F.entry_dict_valueiterator_next ?_<|F.args_dict_valueiterator_next_1 _;refine p9<|t4<|p9<|p9 ?_
 first|refine p9 (QL h.typeIs<|t4<|p9<|MA B a ?_)|refine p9<|QC h.typeIs<|t4<|p9<|MA B a ?_
 simp only[show PB "dict_valueiterator" = bt by decide,A9,p5];refine(show f9 (h8 prog w) _ (if (E1 d==H9)=a9 then _ else _) _ _ s from ?_);rw[o4<|by exact MF];refine p9<|t4<|p9<|OB D k ?_;rw[o4<|by simp];refine p9<|t4<|p9<|Oy D k ?_;rw[o4<|by simp];refine t4 ?_;simp only[show ¬((i:Int)<0)from by lia,p5,ME,G3 hi];refine p9 ?_
 first|refine p9 (QL h.typeIs<|t4 ?_)|refine p9<|QC h.typeIs<|t4 ?_
 refine p9<|Q6 h.typeIs ?_;refine(show f9 (h8 prog w) _ (setField (.ref it) 1 (j4<|(i:Int)+1) >>= _) _ _ s from p9<|MB B a (by simp) ?_);have b:(s.heap.update it (NT (·.setIfInBounds 1 (j4<|(i:Int)+1)))).IsValIter it d (i+1) es.size ep:=by refine⟨_,LO _ B<|Q8<|OF a _,(Obj.cls_mapFields ..).trans f,?_⟩;rw[OF a];simp[j4]
 refine p9 (E2 (p9 (Q6 (s:={ s with heap:=s.heap.update it (NT (·.setIfInBounds 1 (j4<|(i:Int)+1))) }) b.typeIs (p9 (Q6 (s:={ s with heap:=s.heap.update it (NT (·.setIfInBounds 1 (j4<|(i:Int)+1))) }) b.typeIs ?_)))));refine(show f9 (h8 prog w) _ (pure es[i].val) _ _ _ from ?_);exact t4<|t4 ⟨_,rfl,t4<|c _ b<|LL ..⟩
theorem xn(f:A.handled=a8)(h:s.heap.IsValIter it d es.size es.size ep)(g:eF s.heap d es ep)(e:∀h',Heap.ExtBut it s.heap h'->Q a8 { s with heap:=h' }):f9 (h8 prog w) A (j1<|.ref it) Q E s:=by
 obtain⟨o,B,i,c⟩:=id h;obtain⟨j,D,C,k⟩:=id g;unfold j1;refine p9<|MP<|L9 (name:=AA0 "__next__") h.typeIs F.slot_dict_valueiterator_next<|G8 F.slot_dict_valueiterator_next h.typeIs F.entry_dict_valueiterator_next ?_<|F.args_dict_valueiterator_next_1 _;refine p9<|t4<|p9<|p9 ?_
 first|refine p9 (QL h.typeIs<|t4<|p9<|MA B c ?_)|refine p9<|QC h.typeIs<|t4<|p9<|MA B c ?_
 simp only[show PB "dict_valueiterator" = bt by decide,A9,p5];refine(show f9 (h8 prog w) _ (if (E1 d==H9)=a9 then _ else _) _ _ s from ?_);rw[o4<|by exact MF];refine p9<|t4<|p9<|OB D k ?_;rw[o4<|by simp];refine p9<|t4<|p9<|Oy D k ?_;rw[o4<|by simp];refine t4 ?_;simp only[show ¬((es.size:Int)<0)from by lia,p5,ME,Oe<|u5 es.size];refine p9 ?_
 first|refine p9 (QL h.typeIs<|t4 ?_)|refine p9<|QC h.typeIs<|t4 ?_
 refine(show f9 (h8 prog w) _ (setField (.ref it) 0 .none >>= _) _ _ s from p9<|MB B c (by simp) ?_);refine(show f9 (h8 prog w) _ (newExc (.type "StopIteration") [] >>= _) _ _ _ from p9 ?_);simp only[newExc,newTuple];refine p9 (J1 ?_<|by size_fits);refine p9 (m:=m9 _ _)<|wpAny_of_eq (a:=H9) (by first|rfl|(simp only[m9];rfl)) ?_;refine J1 ?_ (by size_fits);simp only[raiseNew];refine p9<|wpAny_handled ?_;rw[show A.in1.handled=a8 from f];refine p9<|t4<|wpAny_throw ?_;refine p9<|Ny (b:=a9) (T:="StopIteration") ⟨_,z0 _ rfl,rfl⟩ Pd ?_;exact t4<|e _<|((LL ..).extBut.push _).push _
theorem yy(l:A.handled=a8)(I:c9)(j:d≠I):Walks prog w A I [I,d] [I] es.size (λi v=>∃e,es[i]?=a7 e/\v=e.val) (λi h=>h.IsValIter I d i es.size ep/\eF h d es ep) where
 sub:=λb a=>by simp at a;simp[a]
 frame:=λ_ _ _ st k=>⟨st.1.at λo e=>k I (by simp) o e,st.2.to λo e=>k d (by simp) o e⟩
 item:=λi s Q E hi st c=>tw st.1 st.2 hi λh' f u=>c _ h' s.toks ⟨es[i],by simp[hi],rfl⟩ ⟨f,st.2.to λo e=>u.extBut d o j e⟩ λb o a e=>u.extBut b o (λh=>a<|by simp[h]) e
 done:=λs Q E st c=>xn l st.1 st.2 λh' g=>c h' s.toks λb o a e=>g b o (λh=>a<|by simp[h]) e
 self:=λ_ _ _ _ st c=>wpAny_pyIter_valiter st.1 c
end
noncomputable def Itv(a:c9)(n:Nat):It:=⟨λi H=>∃xs x v,H a=a7 (.ext<|dX a xs)/\xs.length=n/\xs[i]?=a7 x/\aV v x.2.2,λi H v H'=>H'=H/\∀xs,H a=a7 (.ext<|dX a xs)->∃x,xs[i]?=a7 x/\aV v x.2.2,λi H=>(∃xs,H a=a7 (.ext<|dX a xs)/\xs.length=n)/\i=n⟩
theorem yT{P:c8}{w:c7}{K:u4}{tg:ge}(a it:c9)(n:Nat):Turn P w K tg (Itv a n) [it] it (λi h=>h.IsValIter it a i n n) where
 mem:=by simp
 obj:=λi h st b f=>by
  obtain rfl:b=it:=by simpa using f
  obtain⟨o,e,c,d⟩:=st;exact⟨o,e,λv z=>by rw[d]at z;cases z⟩
 keep:=λi h h' st k=>st.at λo e=>k it (by simp) o e
 item:=by
  intro X L M G T i p s σ H E I m st S;subst L M G;obtain⟨xs,x,v,F,rfl,hx,V⟩:=S;obtain⟨es,J,l,O⟩:=jT I F;obtain⟨e,t,e2,R⟩:=O i x hx;obtain⟨u,y,f2,B,C,D⟩:=m it (by simp);have g:i<es.size:=(MR.mp t).1;have N:es[i]=e:=by rw[G3 g]at t;exact A5 t
  rw[<-l]at J st;refine tw st J g λh' j sb=>?_;rw[N,R];have Z:q9 X p σ H { s with heap:=h' }:=I.turned (t':=s.toks) (λb o f e=>(sb.2 b f).trans e) u y B C D;obtain⟨o,q1,q2,q3⟩:=id j;refine⟨_,rfl,yu (s:={ s with heap:=h' }) q1 q2 q3 (by decide) ⟨v,H,Z,V,⟨rfl,λys hy=>?_⟩,by rw[l]at j;exact j,λb f=>(m b f).1⟩⟩;obtain⟨aj,r,ai,q⟩:=jT I hy;obtain⟨rfl,ep⟩:=xo J r;have U:i<ys.length:=by lia
  obtain⟨e',W,_,Y⟩:=q i ys[i]<|x3 U;rw[G3 g,N]at W;obtain rfl:=A5 W;rw[R]at Y;exact⟨ys[i],x3 U,by rw[<-Y];exact V⟩
 done:=by intro X L M G T i p s σ H E I m st S;subst L M G;obtain⟨⟨xs,F,rfl⟩,rfl⟩:=S;obtain⟨es,J,l,O⟩:=jT I F;obtain⟨u,y,f2,B,C,D⟩:=m it (by simp);rw[<-l]at J st;exact xn (I.ok.hd T) st J λh' he=>⟨rfl,I.turned (t':=s.toks) (λb o f e=>he b o f e) u y B C D⟩
 self:=λA i s Q E st hQ=>wpAny_pyIter_valiter st hQ
section
variable{X:Cx}{tg o:ge}{to:v5}{apos cpos:i3}
def tI(e:v5):LR:=λS M R=>e S M λd a=>match d with
 |.ref n=>∃s,a[n]?=a7 (.dkt s)/\(s.length<=sizeLine->R ⟨s.map (·.2),λM=>M[n]?=a7 (.dkt s)⟩ a)
 |_=>False
theorem Ef(ho:DE X o to)(l:l8 o "values" X.env (eval o X.env)=eval o X.env:=by rfl)(m:(apos.endLine==cpos.line)=a9:=by rfl):DI X tg (.Call (.Attribute o "values" apos) [] [] cpos) (tI to):=by
 intro f s σ H R I h;obtain⟨S,M,ρ,Q,sm,sr,q,k⟩:=h;refine Rk l m<|v4 (ho f s σ H _ I ⟨S,M,ρ,_,sm,sr,q,λv H' w=>w⟩) ?_;rintro u E ⟨v,J,L,D,d,N,V,G,g1,r1,q1⟩;cases r1 with
 |@ref n a K =>
  cases D;obtain⟨c,hM,q2⟩:=(show ∃c,N[n]?=a7 (.dkt c)/\(c.length<=sizeLine->Q ⟨c.map (·.2),λM=>M[n]?=a7 (.dkt c)⟩ N)from q1)
  obtain⟨xs,hH,r,Z,W,hz,hx,nd⟩:=lz L G K hM;obtain⟨es,em,el,_⟩:=jT L hH;refine⟨"dict","dict.values",Qz,Rp,PySem.F.type_dict_values,Z.typeIs,λb z=>?_,OI rfl<|Q4<|pC W em ?_⟩;cases z;obtain⟨ob,_,_,h1,h2,_⟩:=Z;exact⟨ob,h1,h2.2.1⟩;have B:q9 X f σ J { E with heap:=E.heap.push { cls:=.type "dict_values",data:=.fields #[.ref a] } }:=L.kept (t':=E.toks) λb o e=>v7 _ e;have P:eF ({ E with heap:=E.heap.push { cls:=.type "dict_values",data:=.fields #[.ref a] } }:f6).heap a es xs.length:=em.to λo e=>v7 _ e;refine tx (d:=a) ⟨_,z0 _ rfl,rfl,rfl⟩ P ?_;rw[el];have T:∀j:f6,q9 X f σ J j->PP X f σ tg R (.ref j.heap.objs.size) { j with heap:=j.heap.push { cls:=.type "dict_valueiterator",data:=.fields #[.ref a,.int 0 0,.int xs.length 0,.int xs.length 0] } }:=λj B=>by
   refine⟨j.heap.objs.size,[j.heap.objs.size],_,_,J,rfl,B.kept (t':=j.toks) λb o e=>v7 _ e,yT a _ xs.length,⟨_,z0 _ rfl,rfl,rfl⟩,λb hb=>?_,k _ J ⟨⟨c.map (·.2),λM=>M[n]?=a7 (.dkt c)⟩,N,V,G,g1,?_,q2 hz⟩⟩;obtain rfl:b=j.heap.objs.size:=by simpa using hb
   exact B.fpOk (u5 _)<|B.hok.fresh<|u5 _;refine⟨λi t Y H' s' g ok hi=>?_,λi t Y H' x H2 s' g ok hi y=>?_,λt Y H' s' g ok=>?_⟩;obtain⟨_,_,_,ys,O,A⟩:=s'.obj _ _ _ (aC g.pre K) ok;have ly:ys.length=c.length:=by have:=p7 K6<|iU A;rwa [u6,u6]at this
   rw[u6]at hi;have hj:i<ys.length:=by lia
   obtain⟨p,_,_,_,_,v,_,D⟩:=dU A<|x3 hj;exact⟨ys,ys[i],v,O,by lia,x3 hj,D⟩;obtain⟨rfl,C⟩:=y;obtain⟨_,_,_,ys,O,A⟩:=s'.obj _ _ _ (aC g.pre K) ok;obtain⟨z,U,rz⟩:=C ys O;obtain⟨p,hp,_,_,_,v,rp,D⟩:=dU A U;obtain rfl:x=v:=rz.inj D;exact⟨p.2,t,by rw[C5,hp];rfl,s',.refl,rp⟩;obtain⟨_,_,_,ys,O,A⟩:=s'.obj _ _ _ (aC g.pre K) ok;have ly:ys.length=c.length:=by have:=p7 K6<|iU A;rwa [u6,u6]at this
   exact⟨⟨ys,O,by lia⟩,by rw[u6];lia⟩
  exact T _ B
 |_=>exact q1.elim
end
section
variable{prog:c8}{w:c7}{d r:c9}{es:Array m7}{ep:Nat}
theorem DY:KdlSrc prog w "dict_values" r d es.size (λi v=>∃e,es[i]?=a7 e/\v=e.val) (λh=>h.IsValuesView r d/\eF h d es ep) where
 type:=λ_ m=>m.1.typeIs
 there:=λ_ m=>⟨let ⟨_,ho,_⟩:=m.1;v9 ho,m.2.lt⟩
 keep:=λ_ _ m k=>⟨let ⟨o,ho,x⟩:=m.1;⟨o,k r (.inl rfl) o ho,x⟩,m.2.to λo e=>k d (.inr rfl) o e⟩
 notList:=by decide
 notTuple:=by decide
 hint:=λ_ _ _ _ m q=>kdl_hint_values m.1.typeIs q
 iter:=λ_ _ a m=>⟨_,_,(λ_ _ q=>tx m.1 m.2 q),yy a _<|x9 m.2.lt,⟨⟨_,z0 _ rfl,rfl,rfl⟩,m.2.to λo e=>v7 _ e⟩⟩
end
theorem yR{K:u4}{ρ:List c9}{H:Hp}{kvs:List (D×D)}{xs:List (D×c9×c5)}(r:Paired (yJ K ρ H) kvs xs):∃ws,Reps K ρ H (kvs.map (·.2)) ws/\av ws (xs.map λx=>x.2.2):=by
 induction r with
 |nil=>exact⟨[],.nil,.nil⟩
 |cons h t i=>obtain⟨_,_,_,v,c,j⟩:=h;obtain⟨ws,h1,h2⟩:=i;exact⟨v::ws,.cons c h1,.cons j h2⟩
section
variable{X:Cx}{o:ge}{to:v5}{apos cpos p pos:i3}{k:Nat}
def jZ(e:v5):v5:=λS M Q=>e S M λd a=>match d with
 |.ref n=>∃s,a[n]?=a7 (.dkt s)/\Q (.ref a.length) (a++[.lst (s.map (·.2))])
 |_=>False
theorem yA(hc:X.calm=a9)(ho:DE X o to)(hm:X.mg "list" = a8)(hg:X.env.kindOf "list" = a7 .globalImplicit)(hs:i5 [Np (.Attribute o "values" apos) [] [] cpos] X.env=[(bt,eval (Np (.Attribute o "values" apos) [] [] cpos) X.env)])(i:l8 o "values" X.env (eval o X.env)=eval o X.env) (k:(apos.endLine==cpos.line)=a9):DE X (.Call (.Name "list" p) [.Call (.Attribute o "values" apos) [] [] cpos] [] pos) (jZ to):=by
 rintro g s σ H R I ⟨S,M,ρ,Q,sm,sr,q,kk⟩;refine Oc<|iq I hg hm (by rfl) ?_;refine callWith_type1 ?_ (by rw[hs];rfl) rfl;rw[hs];refine Qp<|Rk i k<|v4 (ho g s σ H _ I ⟨S,M,ρ,_,sm,sr,q,λv H' w=>w⟩) ?_;rintro u f ⟨v,C,y,rv,x,A,aj,m,g1,r1,E⟩;cases r1 with
 |@ref n a hn =>
  cases rv;obtain⟨l,hM,q2⟩:=(show ∃l,A[n]?=a7 (.dkt l)/\Q (.ref A.length) (A++[.lst (l.map (·.2))])from E)
  obtain⟨xs,Z,r,D,W,hz,hx,nd⟩:=lz y m hn hM;obtain⟨es,J,el,T⟩:=jT y Z;refine⟨"dict","dict.values",Qz,Rp,PySem.F.type_dict_values,D.typeIs,λb z=>?_,OI rfl<|Q4<|pC W J ?_⟩;cases z;obtain⟨ob,_,_,h1,h2,_⟩:=D;exact⟨ob,h1,h2.2.1⟩;refine Qk ?_;have t:q9 X g σ C { f with heap:=f.heap.push { cls:=.type "dict_values",data:=.fields #[.ref a] } }:=y.kept (t':=f.toks) λb o e=>v7 _ e;have P:eF ({ f with heap:=f.heap.push { cls:=.type "dict_values",data:=.fields #[.ref a] } }:f6).heap a es xs.length:=J.to λo e=>v7 _ e;have G:({ f with heap:=f.heap.push { cls:=.type "dict_values",data:=.fields #[.ref a] } }:f6).heap.IsValuesView f.heap.objs.size a:=⟨_,z0 _ rfl,rfl,rfl⟩
  generalize ({ f with heap:=f.heap.push { cls:=.type "dict_values",data:=.fields #[.ref a] } }:f6)=B at t P G ⊢;refine kdl_call (DY (es:=es) (ep:=xs.length)) (t.ok.hd hc) ⟨G,P⟩ (by lia) λh' tk c U hk Y h=>?_;obtain⟨ws,K,w2⟩:=yR r;have O:c.toList=xs.map λx=>x.2.2:=by
   refine Qh λj=>?_;rw[Ix,C5];cases L:xs[j]? with
   |none =>
    have:xs.length<=j:=by rw[List.getElem?_eq_none_iff]at L;exact L
    rw[Oe (by have:=h.1;lia)];rfl
   |some x =>
    have ai:=(x5.mp L).1;have d:j<c.size:=by have:=h.1;lia
    obtain⟨e,g1,V⟩:=h.2 j c[j]<|G3 d;obtain⟨e',N,_,z2⟩:=T j x L;rw[g1]at N;obtain rfl:=A5 N;rw[G3 d,V,z2];rfl
  have hf:C B.heap.objs.size=a8:=t.hok.fresh<|u5 _;refine⟨.ref B.heap.objs.size,_,t.laid (a:=B.heap.objs.size) (o:=.lst ws) (t':=tk) hk (u5 _) ⟨by rw[<-K.length,u6];exact hz,c.toList,U,by rw[O];exact w2,by simpa using Y⟩,rfl,kk _ _<|VQ.laidL m g1 K hf q2⟩
 |_=>exact E.elim
def Im:E4:=λx y M Q=>match x,y with
 |.tup ks,.ref n=>∃s,M[n]?=a7 (.dkt s)/\cT 8 (.tup ks)=a9/\Q (.bl (ba s<|.tup ks).isSome) M
 |_,_=>False
theorem JO(i:Room k X.A):F6 X (j7 .In) Im:=by
 rintro p s σ H J K v u R I z B ⟨x,y,M,ρ,Q,m,l,o,q,D⟩;have G:=i.un;cases x with
 |tup c =>
  cases y with
  |ref n =>
   obtain⟨d,h,j,q⟩:=q;obtain⟨a,rfl,g⟩:=u3.inv_ref o;cases B;obtain⟨xs,C,r,f,W,E,F,_⟩:=lz I m g h;have t:=iC I 8 _ _ _ l z j;obtain⟨b,_,rfl,_⟩:=id t;refine wpAny_in_heap (knd:=cg X.prog X.w) (k:=.tup c) (by show X.A.units+1+8<j9;lia) t W f ?_;have e:(atKey xs<|.tup c).isSome=(ba d<|.tup c).isSome:=by rcases wY r (.tup c)with⟨z1,z2⟩|⟨_,_,_,z1,z2,_⟩<;>rw[z1,z2]<;>rfl
   rw[e];exact gk (I.tok _) m D q
  |_=>exact q.elim
 |_=>exact q.elim
def xq:s9:=λ_ _ _=>False
theorem Eb{st:i6}:DS X st xq:=λp s σ H E I ⟨S,M,ρ,F,m,e,q,D⟩=>q.elim
end
section
variable{X:Cx}{o i e:ge}{to ti te:v5}{pos pos' p apos cpos:i3}{k:Nat}{tg:ge}{es:List ge}{t:F7}{st:i6}
theorem Km:HE X (.Dict [] [] pos) tK:=⟨Lp⟩
theorem Kn(r:Room k X.A)(B:HE X o to)(hi:HE X i ti)(hs:Iw i:=by intro _ _;kernel_rfl):HE X (.Subscript o i pos) (lT to ti):=⟨Lq r B.ok hi.ok hs⟩
theorem AJ(r:Room k X.A)(B:HE X o to)(hi:HE X i ti)(c:HE X e te)(hs:i8 e (a7<|.Subscript o i pos') pos.line X.env=pure bt:=by kernel_rfl):HS X (.Assign [.Subscript o i pos'] e pos) (tJ to ti te):=⟨Hw r B.ok hi.ok c.ok hs⟩
theorem GR(i:Room k X.A)(B:HE X o to)(f:HA X (e::es) t)(h:l8 o "get" X.env (eval o X.env)=eval o X.env:=by kernel_rfl)(w:((i4 cpos<|i5 (e::es) X.env).all (λx=>!x.1)&&(l9 cpos<|m3 [] X.env).all (λx=>x.1.isSome) && decide ((e::es).length+([]:List k6).length+(if ([]:List k6).isEmpty then 0 else 1)<30))=a9:=by kernel_rfl)(a:(apos.endLine==cpos.line)=a9:=by kernel_rfl) (hs:i5 (e::es) X.env=(bt,eval e X.env)::i5 es X.env:=by kernel_rfl) (n:(i4 cpos<|i5 es X.env).any (·.1)=bt:=by kernel_rfl):HE X (.Call (.Attribute o "get" apos) (e::es) [] cpos) (Nb ij to t):=⟨d_mt Qv PySem.F.type_dict_get (CY i) B.ok f.ok h w a hs n⟩
theorem Ds(h:HE X e te):HI X tg e (lB te):=⟨Eg h.ok⟩
theorem Dr(B:HE X o to)(e:l8 o "values" X.env (eval o X.env)=eval o X.env:=by kernel_rfl)(a:(apos.endLine==cpos.line)=a9:=by kernel_rfl):HI X tg (.Call (.Attribute o "values" apos) [] [] cpos) (tI to):=⟨Ef B.ok e a⟩
theorem yo(B:HE X o to)(d:X.mg "list" = a8)(f:X.calm=a9:=by kernel_rfl)(S:X.env.kindOf "list" = a7 .globalImplicit:=by kernel_rfl)(hs:i5 [Np (.Attribute o "values" apos) [] [] cpos] X.env=[(bt,eval (Np (.Attribute o "values" apos) [] [] cpos) X.env)]:=by kernel_rfl)(e:l8 o "values" X.env (eval o X.env)=eval o X.env:=by kernel_rfl) (a:(apos.endLine==cpos.line)=a9:=by kernel_rfl):HE X (.Call (.Name "list" p) [.Call (.Attribute o "values" apos) [] [] cpos] [] pos) (jZ to):=⟨yA f B.ok d S hs e a⟩
theorem KA(i:Room k X.A):G1 X (j7 .In) Im:=⟨JO i⟩
theorem xa:HS X st xq:=⟨Eb⟩
end
theorem xf{K:u4}{ρ:List c9}{H:Hp}:∀{ns:List Int}{ws:List V}{its:List c5},Reps K ρ H (ns.map D.int) ws->av ws its->IntsAre its ns
 | [],_,_,r,v=>by cases r;cases v;exact .nil
 |n::ns,_,_,r,v=>by
  rw[C0]at r
  first|have hzz:=Reps.inv_cons r|have hzz:=av.inv_cons r
  clear r;obtain⟨_,_,rfl,h,t⟩:=hzz;cases h;cases v with
  |cons q q'=>obtain⟨tk,rfl⟩:=q;exact .cons _ _<|xf t q'
section
variable{X:Cx}{k:Nat}
def zQ:C6:=λds M Q=>match ds with
 | [.ref n]=>∃ns:List Int,ar M n (ns.map D.int)/\ns≠[]/\∀m,m∈ns->(∀a∈ns,a<=m)->Q (.int m) M
 |_=>False
theorem HX(B:X.calm=a9):lV X (.builtin "max") zQ:=by
 rintro v s σ H vs us R I P ⟨ds,M,ρ,Q,x,g,q,F⟩;unfold zQ at q;split at q;obtain⟨ns,L,d,q⟩:=q
 first|have f:=Reps.inv_cons g|have f:=av.inv_cons g
 clear g;obtain⟨_,_,rfl,K,g⟩:=f;cases g;obtain⟨u,rfl,y⟩:=av.one P;obtain⟨a,rfl,e⟩:=u3.inv_ref K;cases y;obtain⟨Z,E,r⟩:=ar.seq x L e;obtain⟨its,O,w,W⟩:=I.list E;obtain⟨m,n,V⟩:=I.loc;obtain⟨J,Y,c,C,j,h⟩:=id w;have k:a≠X.env.locals:=λz=>by subst z;obtain⟨o,es,U,e,D,_⟩:=n;rw[c]at e;cases e;rw[D]at h;cases h
 have p:∀b o,b≠X.env.locals->s.heap.get? b=a7 o->(b,o)∈[]++(a,J)::Att.ledger s.heap X.env.locals a:=λb o h1 h2=>by rw[G6,x6,Att.mem_ledger];by_cases l:b=a;subst l;rw[c]at h2;cases h2;exact .inl rfl;exact .inr ⟨h1,l,h2⟩
 refine max_list_N (I.ok.hd B) (Att.fr_all n) (Att.news_ledger k c) w.isList (xf r O) (List.length_pos_iff.mpr d) λh' i t S T N h1 h2=>?_;have G:∀b u,b≠X.env.locals->s.heap.get? b=a7 u->h'.get? b=a7 u:=λb u A e=>(N (b,u)<|p b u A e).1;exact⟨.int i,H,I.keptF (t':=S) G n T.ns,⟨t,rfl⟩,F _ _ ⟨.int i,M,ρ,x,.refl,.int i,q i h1 h2⟩⟩;exact q.elim
theorem LA:e8 "max" = a7 (.builtin "max"):=by decide +kernel
theorem Hi(f:X.calm=a9:=by kernel_rfl):HC X (.builtin "max") zQ:=⟨HX f⟩
end
end L2
namespace L2
open PySem PySem.Spec PyProof.Rows DL PySem.W PySem.Calls PyProof.V
structure PairsAt(es:Array m7)(lo:c9)(h:d6)(as:List c9):Prop where
 nd:as.Nodup
 above:∀a∈as,lo<a
 tup:∀(j:Nat) (a:c9),as[j]?=a7 a->∃e,es[j]?=a7 e/\h.get? a=a7 { cls:=.type "tuple",data:=.seq #[e.key,e.val] }
end L2
namespace L2
open PySem PySem.Spec PyProof.Rows DL PySem.W
section
variable{X:Cx}
def Ik:E4:=λx y M Q=>match x,y with
 |.int i,.int j=>CPow i j/\Q (.int<|i*2 ^ j.toNat) M
 |_,_=>False
theorem JL:F6 X (j6 .LShift) Ik:=by refine C2.imp JA ?_;rintro g l H R ⟨x,y,M,ρ,Q,s,r,m,q,k⟩;unfold Ik at q;split at q;cases r;cases m;exact⟨_,_,rfl,rfl,q.1,k _ H<|VQ.now s (.int _) q.2⟩;exact q.elim
theorem Kw:G1 X (j6 .LShift) Ik:=⟨JL⟩
theorem yr(i:Room k X.A):HC X (.builtin "sorted") ku:=⟨By i⟩
end
noncomputable def dictOf(ps:List (D×D)):List (D×D):=ps.foldl (λs p=>ik s p.1 p.2) []
theorem bT:dictOf (ps++[p])=ik (dictOf ps) p.1 p.2:=by unfold dictOf;rw[Po];rfl
theorem tp:∀(ps kvs:List (D×D)),(ps.foldl (λkvs p=>ik kvs p.1 p.2) kvs).length<=kvs.length+ps.length
 | [],_=>u5 _
 |p::ps,kvs=>by have h1:=tp ps<|ik kvs p.1 p.2;have h2:=wR (kvs:=kvs) (k:=p.1) (d:=p.2);rw[List.foldl_cons,C4];lia
theorem cZ:(dictOf ps).length<=ps.length:=by have:=tp ps [];rw[C8,Nat.zero_add]at this;exact this
theorem jS:entryFor table "dict.update.loop" = a7 Builtin.«dict.update.loop»:=entryFor_of_tree<|by kernel_rfl
theorem ca:plainId "dict.update.loop" = a9:=by decide +kernel
theorem kH:typeLookup (.type "list") "__getattr__" = pure a8:=by rw[Pi,Px];kernel_rfl
theorem nX:typeLookup (.type "list") "keys" = pure a8:=by rw[Pi,Px];kernel_rfl
section
variable{prog:c8}{w:c7}{A:e9}{E:c5->f6->Prop}{h:d6}{g:Array GenState}{d:Drawn}{t:Nat}{os:OsState}{a:c9}{o:d5}
theorem Ay(x:h.get? a=a7 o)(f:o.cls=.type "list")(j:o.dict=a8)(b:o.data=.seq its nn)(c:A.handled=a8)(q:∀h' tk e,Heap.NewAttrErr h h' e (.ref a) "keys"->R (.error<|.ref e) ⟨h',g,d,tk,os⟩):k5 (h8 prog w) A (.call (.builtin "list.__getattribute__") ⟨[.ref a,.str "keys" u],[]⟩) R ⟨h,g,d,t,os⟩:=by
 obtain⟨oc,i,C,G⟩:=o;obtain rfl:oc=.type "list":=f;obtain rfl:i=a8:=j;obtain rfl:C=.seq its nn:=b;have n:(⟨h,g,d,t,os⟩:f6).TypeIs (.ref a) "list":=⟨_,x,rfl⟩
 have k:=nX;refine codeAny_call_builtin QN.plain PySem.F.entry_list_ga<|QN.check _ _ _ _ _ _ _ _ n (PySem.F.args_list_getattribute_2 _ _) ?_;unfold Builtin.«object.__getattribute__»
 repeat (any_goals (first|assumption|wp_step))
 refine wpAny_raiseAttrError (o:=.ref a) (name:="keys") (by first|exact c|simpa using c) q ?_;exact attrMsg_fits (by decide +kernel)<|by size_fits
theorem uV(x:h.get? a=a7 o)(k:o.cls=.type "list")(j:o.dict=a8)(c:o.data=.seq its nn)(i:A.handled=a8)(q:∀h' tk,(∀b ob,h.get? b=a7 ob->h'.get? b=a7 ob)->Q a8 ⟨h',g,d,tk,os⟩):f9 (h8 prog w) A (getAttr? (.ref a) "keys") Q E ⟨h,g,d,t,os⟩:=by
 obtain⟨oc,l,C,G⟩:=o;obtain rfl:oc=.type "list":=k;obtain rfl:l=a8:=j;obtain rfl:C=.seq its nn:=c;have n:∀tk,(⟨h,g,d,tk,os⟩:f6).TypeIs (.ref a) "list":=λ_=>⟨_,x,rfl⟩
 have m:=sub_AttributeError;have M:=QN.lookup;have r:=QN.bind<|.ref a;have y:=kH;unfold getAttr? getAttrBy? getAttrBy
 repeat (any_goals (first|assumption|exact n _|wp_step))
 refine Ay x rfl rfl rfl (by first|exact i|simpa using i) λh' tk e f=>?_;obtain⟨t',J,p⟩:=f.there;unfold getattributeRaised
 repeat (any_goals (first|assumption|wp_step))
 exact q _ _ f.keeps
end
theorem dsetE(u:(cg prog w).room A)(t:(cg prog w).is s.heap k b)(r:s.heap.DictOfH (cg prog w) d xs) (x:dX d xs prog w s.heap) (hz:xs.length<=sizeLine)(m:∀h',dX d (storedH xs k b v) prog w h'->Mz d s.heap h'->Q () { s with heap:=h',toks:=s.toks+(cg prog w).draws k }):f9 (h8 prog w) A (dictSet d (.ref b) v) Q E s:=by
 obtain⟨_,_,_,_,_,_,_,g,f⟩:=r;obtain⟨o,es,B,n,h,c⟩:=x;have i:es.toList=xs.map (d8<|cg prog w):=c;unfold dictSet
 try with_reducible refine E2 ?_
 refine p9<|(cg prog w).pyHash u t ?_;unfold dictSetHashed
 try with_reducible refine E2 ?_
 have z:es.size=xs.length:=size_of_entries i;refine p9<|wpAny_dictFind_heap (s:={ s with toks:=s.toks+(cg prog w).draws k }) u t B h i g f (λa=>?_) λj p L=>?_;refine p9<|L1<|wpAny_updateDictKeys (hz:=by lia) (s:={ s with toks:=s.toks+(cg prog w).draws k }) B h<|m _ ⟨_,es.push ⟨(cg prog w).hash k,.ref b,v⟩,LO _ B<|Qq<|Qs h _,n.mapDictKeys _,?_,?_⟩<|LL ..;rw[Qs h,storedH_new<|Qd a,A1];rfl;rw[storedH_new<|Qd a];rw[Qg,i,G5];rfl;refine p9<|L1<|p9<|wpAny_updateDict (s:={ s with toks:=s.toks+(cg prog w).draws k }) B h<|wpAny_point<|m _ ⟨_,es.modify j λe=>{ e with val:=v },LO _ B<|Qq<|P8 h _,n.mapDict _,?_,?_⟩<|LL ..;rw[P8 h,storedH_old<|atKey_of_get f L,u6];rw[storedH_old<|atKey_of_get f L];have q:=modify_map_putAt (d8<|cg prog w) (λe:m7=>{ e with val:=v }) k v (λ_ _=>rfl) f L;rw[<-i]at q;obtain⟨l⟩:=es;have y:(Array.modify ⟨l⟩ j λe:m7=>{ e with val:=v }).toList=(xs.map<|putAt k v).map (d8<|cg prog w):=by simpa using q
 exact y
section
variable{X:Cx}{pins:List (c9×d5)}{σ:St}{H:Hp}{ρ:List c9}{M:t7}{A:e9}{E:c5->f6->Prop}{s:f6}
structure DD(X:Cx)(ρ:List c9)(H:Hp)(h:d6)(a:c9)(kvs:List (D×D))(xs:List (D×c9×c5)):Prop where
 dx:dX a xs X.prog X.w h
 kv:Paired (yJ X.K ρ H) kvs xs
 nd:(kvs.map (·.1)).Nodup
theorem DD.at(x:DD X ρ H h a kvs xs)(k:∀o,h.get? a=a7 o->h'.get? a=a7 o):DD X ρ H h' a kvs xs:=by obtain⟨⟨o,es,t,l,R,I⟩,v,d⟩:=x;exact⟨⟨o,es,k _ t,l,R,I⟩,v,d⟩
theorem DD.len(x:DD X ρ H h a kvs xs):xs.length=kvs.length:=by
 have:=p7 K6<|iU x.kv
 rwa [u6,u6]at this
theorem DD.of(I:q9 X pins σ H s)(x:DD X ρ H s.heap a kvs xs):s.heap.DictOfH (cg X.prog X.w) a xs:=by obtain⟨o,es,t,l,R,e⟩:=x.dx;have Z:=iU x.kv;refine⟨o,es,_,t,l,R,e,λy O=>?_,by rw[Z];exact x.nd⟩;obtain⟨i,hi⟩:=MQ O;obtain⟨p,_,c,j,k,_⟩:=dU x.kv hi;rw[<-c];exact iC I 8 _ _ _ k rfl j
theorem Bp(I:q9 X pins σ H s)(hu:A.units+20<j9)(W:Walks X.prog X.w A.in1 J fp wr m P Sx)(S:c9)(x:S∉fp)(N:s.heap.get? S=a8) (E:∀b∈wr,s.heap.get? b=a8) (ps:List (D×D)) (hm:ps.length=m) (C:∀i v,P i v->∃p,ps[i]?=a7 p/\(∃vv,u3 X.K ρ H (.tup [p.1,p.2]) vv/\aV vv v)/\cT 8 p.1=a9/\fQ p.1=a9) (hb:m<=1000):∀(k i:Nat) (h:d6) (tk:Nat) (xs:List (D×c9×c5)) (j:Int) (t:Tok),m-i=k->i<=m->Sx i h->DD X ρ H h S (dictOf<|ps.take i) xs->(∀b u,s.heap.get? b=a7 u->h.get? b=a7 u) ->(∀h' tk xs',(∀b u,s.heap.get? b=a7 u->h'.get? b=a7 u)->DD X ρ H h' S (dictOf ps) xs'->R (.ok<|.ret .none) { s with heap:=h',toks:=tk }) ->k5 (h8 X.prog X.w) A (.builtin "dict.update.loop" ⟨[.ref S,.ref J,.int j t,.none],[]⟩) R { s with heap:=h,toks:=tk }:=by
 have y:S∉wr:=λh=>x<|W.sub _ h;intro k;induction k with
 |zero =>
  intro i h tk xs j t hk hi q G f Y;obtain rfl:i=m:=by lia
  refine MC jS ?_;rw[Nk ca _];refine(show f9 (h8 X.prog X.w) A.in1 (j1 (.ref J) >>= _) _ _ _ from p9<|W.done _ _ _ q λh' tk d=>?_);rw[<-hm,L7]at G;refine(show f9 (h8 X.prog X.w) A.in1 (Builtin.Dict.addKeywords S [] >>= _) _ _ _ from p9<|t4<|t4 ?_);exact Y h' tk xs (λb u e=>d b u (λz=>by rw[E b z]at e;cases e)<|f b u e)<|G.at λo e=>d S o y e
 |succ k ih =>
  intro i h tk xs j t hk hi q G f Y;refine MC jS ?_;rw[Nk ca _];refine(show f9 (h8 X.prog X.w) A.in1 (j1 (.ref J) >>= _) _ _ _ from p9<|W.item i _ _ _ (by lia) q λv h' tk hP B d=>?_);obtain⟨p,hp,⟨vv,r,rv⟩,kd,it⟩:=C i v hP;have n:∀b u,s.heap.get? b=a7 u->h'.get? b=a7 u:=λb u e=>d b u (λz=>by rw[E b z]at e;cases e)<|f b u e;have L:q9 X pins σ H { s with heap:=h',toks:=tk }:=I.kept n;have c:=G.at λo e=>d S o y e;have hl:=c.len;have dl:=cZ (ps:=ps.take i);have dd:=c.of (s:={ s with heap:=h',toks:=tk }) L;obtain⟨a,vs,rfl,hq,l⟩:=u3.inv_tup r;cases rv
  first|have g:=Reps.inv_cons l|have g:=av.inv_cons l
  clear l;obtain⟨_,_,rfl,r1,l⟩:=g
  first|have g:=Reps.inv_cons l|have g:=av.inv_cons l
  clear l;obtain⟨_,_,rfl,r2,l⟩:=g;cases l;obtain⟨its,U,pl,hz⟩:=L.tuple hq;obtain⟨u1,u2,rfl,Z,e2⟩:=av.two U;obtain⟨k0,d0⟩:=p;cases k0 with
  |tup ks =>
   have F:=iC L 8 _ _ _ r1 Z kd;obtain⟨b,_,rfl,_⟩:=id F;obtain⟨_,_,rfl,Q,V⟩:=u3.inv_tup r1;cases Z;obtain⟨o,ho,hc,nn,hd⟩:=pl;have hT:({ s with heap:=h',toks:=tk }:f6).TypeIs (.ref a) "tuple":=⟨o,ho,hc⟩
   refine p9<|E2<|p9<|wpAny_tryCatch ?_;unfold Builtin.Dict.pairItems;refine p9<|My hT ?_;rw[o0<|by decide];refine p9<|LV ho hd<|t4 ?_;refine(show f9 (h8 X.prog X.w) _ (i7 [.ref b,u2]<|dictSet S (.ref b) u2) _ _ _ from E2 ?_);refine dsetE (k:=.tup ks) (s:={ s with heap:=h',toks:=tk }) (by show A.units+1+8<j9;lia) F dd c.dx (am<|by rw[hl];rw[G0]at dl;lia) λh2 M sb=>?_;have k2:∀b u,b≠S->h'.get? b=a7 u->h2.get? b=a7 u:=λb u hb e=>(sb.2 b hb).trans e;have T:=EY c.kv kd (.tup Q V) r2 e2;have et:ps.take (i+1)=ps.take i++[(.tup ks,d0)]:=by rw[Mo,hp];rfl
   refine t4 ⟨MW ca _,ih (i+1) h2 _ _ _ _ (by lia) (by lia) (W.frame _ h' h2 B λb' O o e=>k2 b' o (λz=>x<|z ▸ O) e) ⟨M,?_,?_⟩ (λb u e=>k2 b u (λz=>by rw[z,N]at e;cases e)<|n b u e) Y⟩;rw[et,bT];exact T;rw[et,bT];exact pT c.nd
  |_=>cases it
theorem HZ(I:q9 X pins σ H s)(V:A.units+30<j9)(B:A.handled=a8)(C:s.heap.IsList l its)(f:s.heap.get? l=a7 ol)(j:ol.dict=a8)(ps:List (D×D))(P:ps.length=its.size)(y:∀(i:Nat) v,its[i]?=a7 v->∃p:D×D,ps[i]?=a7 p/\(∃vv,u3 X.K ρ H (.tup [p.1,p.2]) vv/\aV vv v)/\cT 8 p.1=a9/\fQ p.1=a9) (O:its.size<=1000)(h:∀h' tk xs,(∀b u,s.heap.get? b=a7 u->h'.get? b=a7 u)->DD X ρ H h' s.heap.objs.size (dictOf ps) xs->Q (.ref s.heap.objs.size) { s with heap:=h',toks:=tk }):f9 (h8 X.prog X.w) A (call (.type "dict") [.ref l]) Q E s:=by
 refine callType_codes (Q₁:=λg s₁=>g=.ref s.heap.objs.size/\s₁={ s with heap:=s.heap.push { cls:=.type "dict",data:=.dict #[] } }) Ra (Rw _) Rf (kt_code_dict_new _ ⟨rfl,rfl⟩) ?_;rintro g s₁ ⟨rfl,rfl⟩;have S:(s.heap.push { cls:=.type "dict",data:=.dict #[] }).get? s.heap.objs.size=a7 { cls:=.type "dict",data:=.dict #[] }:=z0 _ rfl;have z:Ng { s with heap:=s.heap.push { cls:=.type "dict",data:=.dict #[] } } (.ref s.heap.objs.size) "dict":=⟨_,S,rfl⟩
 obtain⟨a,N,r,Y,n⟩:=id C;obtain rfl:a=ol:=A5<|N.symm.trans f;have c:(s.heap.push { cls:=.type "dict",data:=.dict #[] }).get? l=a7 a:=v7 _ f;have L:Ng { s with heap:=s.heap.push { cls:=.type "dict",data:=.dict #[] } } (.ref l) "list":=⟨a,c,r⟩
 have U:l<s.heap.objs.size:=v9 f;refine⟨z,Ro _ _,?_⟩;unfold Builtin.«dict.__init__»;refine p9 ?_;unfold Rn;refine p9<|OH z ?_;refine(show f9 _ _ (pure (s.heap.objs.size,[E1 l])) _ _ _ from t4 ?_);refine(show f9 _ _ (OK "dict.__init__" s.heap.objs.size (.ref l) [] .none) _ _ _ from ?_);unfold OK;refine p9<|My L ?_;rw[o0<|by decide];refine p9<|uV c r j n (by simpa using B) λh1 x F=>?_;have k:∀b u,s.heap.get? b=a7 u->h1.get? b=a7 u:=λb u e=>F b u<|v7 _ e;rw[o0<|show (a8:Option c5).isNone=a9 from rfl];refine p9<|L1 ?_;obtain⟨Z,St,t,W,st⟩:=(TxSrc.list (prog:=X.prog) (w:=X.w) C).iter A.in1.in1 { s with heap:=h1,toks:=x } (by simpa using B) λo e=>k _ _ e;refine p9<|t _ _ ?_;have d:=F _ _ S;have J:s.heap.objs.size<h1.objs.size:=v9 d;have G:s.heap.get? s.heap.objs.size=a8:=by
  cases q:s.heap.get? s.heap.objs.size with
  |none=>rfl
  |some o=>exact o5 (v9 q)<|D4 _
 refine t4 ⟨MW ca _,Bp (A:=A.in1) (s:=s) I (by show A.units+1+20<j9;lia) W s.heap.objs.size ?_ G ?_ ps P y O its.size 0 _ _ [] _ _ rfl (z8 _) st ⟨⟨_,#[],v7 _ d,⟨rfl,rfl,rfl⟩,rfl,rfl⟩,.nil,NW⟩ (λb u e=>v7 _<|k b u e) λh2 T xs R M=>⟨rfl,h h2 T xs R M⟩⟩;simp only[x6,L6,or_false,not_or];exact⟨x9 J,NQ U⟩;intro b m;rw[LJ.mp m];cases q:s.heap.get? h1.objs.size with
 |none=>rfl
 |some o=>exact o5 (O6 (v9 q) J)<|D4 _
end
section
variable{X:Cx}{k:Nat}
def iD:C6:=λds M Q=>match ds with
 | [.ref n]=>∃ps:List (D×D),ar M n (ps.map λp=>.tup [p.1,p.2])/\(∀p∈ps,cT 8 p.1=a9/\fQ p.1=a9)/\ps.length<=1000/\Q (.ref M.length) (M++[.dkt<|dictOf ps])
 |_=>False
theorem Bz(J:Room k X.A)(D:X.calm=a9):lV X (.type "dict") iD:=by
 rintro x s σ H vs us R I Y ⟨ds,M,ρ,Q,n,b,q,N⟩;have un:=J.un;unfold iD at q;split at q;obtain⟨ps,L,F,hl,q⟩:=q
 first|have z:=Reps.inv_cons b|have z:=av.inv_cons b
 clear b;obtain⟨_,_,rfl,l,b⟩:=z;cases b;obtain⟨u,rfl,t⟩:=av.one Y;obtain⟨a,rfl,e⟩:=u3.inv_ref l;cases t;obtain⟨ws,G,r⟩:=ar.seq n L e;obtain⟨its,B,y,hz⟩:=I.list G;obtain⟨oa,nn,g,E,j,h⟩:=id y;have P:=r.length;have li:=B.length;rw[u6]at P;have f:H s.heap.objs.size=a8:=I.hok.fresh<|u5 _;have C:(s.heap.objs.size==d7)=bt:=beq_eq_false_iff_ne.mpr<|w9<|x9 I.big;refine HZ (A:=X.A) (ρ:=ρ) I (by lia) (I.ok.hd D) y.isList g j ps (by rw[y4];lia) (λi v K=>?_) (by rw[y4];lia) λh' Z xs O c=>?_;obtain⟨d,vv,t,l,m⟩:=mn r B (i:=i) (u:=v) (by simpa using K);rw[C5]at t;obtain⟨p,w,rfl⟩:=Me.mp t;exact⟨p,w,⟨vv,l,m⟩,F p<|F0 w⟩;have dl:=cZ (ps:=ps);refine⟨.ref s.heap.objs.size,_,I.laid (a:=s.heap.objs.size) (o:=.ext<|dX s.heap.objs.size xs) (t':=Z) O (u5 _)<|qw c.dx,rfl,?_⟩;exact N _ _ ⟨.ref M.length,M++[.dkt<|dictOf ps],ρ++[s.heap.objs.size],n.laidM (mo:=.dkt<|dictOf ps) f ⟨am (by lia),C,c.nd,xs,aK,Paired.mapP c.kv λ_ _ ⟨S,T,U,v,V,W⟩=>⟨S,T,U.grow<|Grow.laidR f,v,V.grow<|Grow.laidR f,W⟩⟩,Grow.laidR f,.ref n.last,q⟩;exact q.elim
theorem Bf(i:Room k X.A)(f:X.calm=a9:=by kernel_rfl):HC X (.type "dict") iD:=⟨Bz i f⟩
end
noncomputable abbrev EE(M:t7)(R:DK):DEnds:=⟨λ_ M'=>bc M R .non M',bc M R,λ_ _=>False,λ_ _=>False⟩
noncomputable def RB(n:Nat)(ds:List D):SD:=ds.map a7++Pe (n-ds.length) a8
abbrev z5(Pr:w6)(n:Nat)(t:s9):Prop:=∀ds M R,Pr ds M R->t (EE M R) (RB n ds) M
abbrev cI(Pr:w6)(p:List c6):Prop:=∀ds M R,Pr ds M R->ds.length=p.length
abbrev DerT(P:c8)(w:c7)(K:u4)(mg:c6->Option c5)(base:d6)(k:Nat)(x:c6)(N:List c6)(st:i6)(t:s9):Prop:=∀(f:c9) (cdv:c5) (A:e9) (outer:List Env) (s:f6) (H:Hp) (E:XK),Room k (A.deeper<|PyProof.Rows.envOfC x (au st) s.heap.objs.size f cdv)->HB (tO F8 P w K mg base N x (au st) f cdv A outer s H E).nox (bU st) t
def xp(c:E6)(t:s9):s9:=λE S M=>∃W:Nat->SD->t7->Prop,(∃m,W m S M)/\∀m S M,W m S M ->c S M λb e=>if b=a9 then t ⟨λd a=>∃g,g < m/\W g d a,E.rt,E.nx,λd a=>∃g,g < m/\W g d a⟩ S e else E.nx S e
theorem yc{K:u4}{c:E6}{o:s9}(E:Ends)(σ:St)(H:Hp)(h:lowS K (xp c o) E σ H):EM (lowT K c) (lowS K o) E σ H:=by
 obtain⟨S,M,ρ,F,s,G,⟨W,⟨C,I⟩,t⟩,k⟩:=h;refine⟨λm τ j=>∃S2 e d,ve K d e j/\Grow K ρ H d j/\SRep K d j S2 τ/\W m S2 e,⟨C,S,M,ρ,s,.refl,G,I⟩,?_⟩;rintro m τ j ⟨S2,e,d,D,A,r,J⟩;refine⟨S2,e,d,_,D,r,t m S2 e J,?_⟩;rintro b p ⟨l,i,u,g3,q⟩;have g:=A.trans g3;cases b with
 |true =>
  have n:∀a Y,SQ K i p (λx w=>∃f,f < m/\W f x w) a Y->∃f,f < m/\∃S2 e d,ve K d e Y/\Grow K ρ H d Y/\SRep K d Y S2 a/\W f S2 e:=λa Y ⟨y,Z,O,s5,B,L,f,lt,N⟩=>⟨f,lt,y,Z,O,s5,g.trans B,L,N⟩
  refine bA ⟨_,λP H' z=>z,S2,l,i,_,u,r.grow g3,(show o _ S2 l from q),?_⟩;exact⟨n,λv Y z=>k.rt v Y<|VQ.trans g z,λa Y z=>k.nx a Y<|SQ.trans g z,n⟩
 |false=>exact bq<|k.nx τ p ⟨S2,l,i,u,g,r.grow g3,(show F.nx S2 l from q)⟩
section
variable{X:Cx}{c:ge}{body:List i6}{tc:E6}{tb:s9}{pos:i3}
theorem wZ(f:HT X c tc)(d:HB X body tb)(p:PassesOwn (h8 X.prog X.w) X.A X.env X.xe:=by exact PassesOwn.never):HS X (.While c body [] pos) (xp tc tb):=⟨PS.imp (Cy p f.ok d.ok) yc⟩
end
theorem pL:typeLookup (.type "tuple") "keys" = pure a8:=by rw[Pi,Px];kernel_rfl
section
variable{prog:c8}{w:c7}{A:e9}{E:c5->f6->Prop}{h:d6}{g:Array GenState}{d:Drawn}{t:Nat}{os:OsState}{a:c9}{o:d5}
theorem Ch(x:h.get? a=a7 o)(f:o.cls=.type "tuple")(j:o.dict=a8)(b:o.data=.seq its nn)(c:A.handled=a8)(q:∀h' tk e,Heap.NewAttrErr h h' e (.ref a) "keys"->R (.error<|.ref e) ⟨h',g,d,tk,os⟩):k5 (h8 prog w) A (.call (.builtin "tuple.__getattribute__") ⟨[.ref a,.str "keys" u],[]⟩) R ⟨h,g,d,t,os⟩:=by
 obtain⟨oc,i,C,G⟩:=o;obtain rfl:oc=.type "tuple":=f;obtain rfl:i=a8:=j;obtain rfl:C=.seq its nn:=b;have n:(⟨h,g,d,t,os⟩:f6).TypeIs (.ref a) "tuple":=⟨_,x,rfl⟩
 have k:=pL;refine codeAny_call_builtin QO.plain PySem.F.entry_tuple_ga<|QO.check _ _ _ _ _ _ _ _ n (PySem.F.args_tuple_getattribute_2 _ _) ?_;unfold Builtin.«object.__getattribute__»
 repeat (any_goals (first|assumption|wp_step))
 refine wpAny_raiseAttrError (o:=.ref a) (name:="keys") (by first|exact c|simpa using c) q ?_;exact attrMsg_fits (by decide +kernel)<|by size_fits
theorem oq(x:h.get? a=a7 o)(k:o.cls=.type "tuple")(j:o.dict=a8)(c:o.data=.seq its nn)(i:A.handled=a8)(q:∀h' tk,(∀b ob,h.get? b=a7 ob->h'.get? b=a7 ob)->Q a8 ⟨h',g,d,tk,os⟩):f9 (h8 prog w) A (getAttr? (.ref a) "keys") Q E ⟨h,g,d,t,os⟩:=by
 obtain⟨oc,l,C,G⟩:=o;obtain rfl:oc=.type "tuple":=k;obtain rfl:l=a8:=j;obtain rfl:C=.seq its nn:=c;have n:∀tk,(⟨h,g,d,tk,os⟩:f6).TypeIs (.ref a) "tuple":=λ_=>⟨_,x,rfl⟩
 have m:=sub_AttributeError;have M:=QO.lookup;have r:=QO.bind<|.ref a;have y:=PySem.am_tuple_getattr_none;unfold getAttr? getAttrBy? getAttrBy
 repeat (any_goals (first|assumption|exact n _|wp_step))
 refine Ch x rfl rfl rfl (by first|exact i|simpa using i) λh' tk e f=>?_;obtain⟨t',J,p⟩:=f.there;unfold getattributeRaised
 repeat (any_goals (first|assumption|wp_step))
 exact q _ _ f.keeps
end
section
variable{X:Cx}{pins:List (c9×d5)}{σ:St}{H:Hp}{ρ:List c9}{M:t7}{A:e9}{E:c5->f6->Prop}{s:f6}
theorem q9.tupN(I:q9 X pins σ H s)(h:z7 X.K H a xs):∃its:List c5,av xs its/\EB s.heap a its.toArray/\xs.length<=sizeLine:=by
 rcases h with h|⟨o,its,n,k,f,d,hs,b,r⟩
 obtain⟨z,its,r,p⟩:=h.ok I.hok;exact⟨its,r,p,z⟩;refine⟨its.toList,r,⟨o,I.kIn a o k,f,⟨n,by simpa using hs⟩,d⟩,?_⟩;have e:=r.length;simp only[D8]at e;lia
theorem Eu(I:q9 X pins σ H s)(V:A.units+30<j9)(B:A.handled=a8)(C:s.heap.IsTuple l its)(f:s.heap.get? l=a7 ol)(j:ol.dict=a8)(ps:List (D×D))(P:ps.length=its.size)(y:∀(i:Nat) v,its[i]?=a7 v->∃p:D×D,ps[i]?=a7 p/\(∃vv,u3 X.K ρ H (.tup [p.1,p.2]) vv/\aV vv v)/\cT 8 p.1=a9/\fQ p.1=a9) (O:its.size<=1000)(h:∀h' tk xs,(∀b u,s.heap.get? b=a7 u->h'.get? b=a7 u)->DD X ρ H h' s.heap.objs.size (dictOf ps) xs->Q (.ref s.heap.objs.size) { s with heap:=h',toks:=tk }):f9 (h8 X.prog X.w) A (call (.type "dict") [.ref l]) Q E s:=by
 refine callType_codes (Q₁:=λg s₁=>g=.ref s.heap.objs.size/\s₁={ s with heap:=s.heap.push { cls:=.type "dict",data:=.dict #[] } }) Ra (Rw _) Rf (kt_code_dict_new _ ⟨rfl,rfl⟩) ?_;rintro g s₁ ⟨rfl,rfl⟩;have S:(s.heap.push { cls:=.type "dict",data:=.dict #[] }).get? s.heap.objs.size=a7 { cls:=.type "dict",data:=.dict #[] }:=z0 _ rfl;have z:Ng { s with heap:=s.heap.push { cls:=.type "dict",data:=.dict #[] } } (.ref s.heap.objs.size) "dict":=⟨_,S,rfl⟩
 obtain⟨a,N,r,Y,n⟩:=id C;obtain rfl:a=ol:=A5<|N.symm.trans f;have c:(s.heap.push { cls:=.type "dict",data:=.dict #[] }).get? l=a7 a:=v7 _ f;have L:Ng { s with heap:=s.heap.push { cls:=.type "dict",data:=.dict #[] } } (.ref l) "tuple":=⟨a,c,r⟩
 have U:l<s.heap.objs.size:=v9 f;refine⟨z,Ro _ _,?_⟩;unfold Builtin.«dict.__init__»;refine p9 ?_;unfold Rn;refine p9<|OH z ?_;refine(show f9 _ _ (pure (s.heap.objs.size,[E1 l])) _ _ _ from t4 ?_);refine(show f9 _ _ (OK "dict.__init__" s.heap.objs.size (.ref l) [] .none) _ _ _ from ?_);unfold OK;refine p9<|My L ?_;rw[o0<|by decide];refine p9<|oq c r j n (by simpa using B) λh1 x F=>?_;have k:∀b u,s.heap.get? b=a7 u->h1.get? b=a7 u:=λb u e=>F b u<|v7 _ e;rw[o0<|show (a8:Option c5).isNone=a9 from rfl];refine p9<|L1 ?_;obtain⟨Z,St,t,W,st⟩:=(TxSrc.tuple (prog:=X.prog) (w:=X.w) C).iter A.in1.in1 { s with heap:=h1,toks:=x } (by simpa using B) λo e=>k _ _ e;refine p9<|t _ _ ?_;have d:=F _ _ S;have J:s.heap.objs.size<h1.objs.size:=v9 d;have G:s.heap.get? s.heap.objs.size=a8:=by
  cases q:s.heap.get? s.heap.objs.size with
  |none=>rfl
  |some o=>exact o5 (v9 q)<|D4 _
 refine t4 ⟨MW ca _,Bp (A:=A.in1) (s:=s) I (by show A.units+1+20<j9;lia) W s.heap.objs.size ?_ G ?_ ps P y O its.size 0 _ _ [] _ _ rfl (z8 _) st ⟨⟨_,#[],v7 _ d,⟨rfl,rfl,rfl⟩,rfl,rfl⟩,.nil,NW⟩ (λb u e=>v7 _<|k b u e) λh2 T xs R M=>⟨rfl,h h2 T xs R M⟩⟩;simp only[x6,L6,or_false,not_or];exact⟨x9 J,NQ U⟩;intro b m;rw[LJ.mp m];cases q:s.heap.get? h1.objs.size with
 |none=>rfl
 |some o=>exact o5 (O6 (v9 q) J)<|D4 _
end
section
variable{X:Cx}{k:Nat}
def sf:C6:=λds M Q=>match ds with
 | [.tup xs]=>∃ps:List (D×D),xs=ps.map (λp=>.tup [p.1,p.2])/\(∀p∈ps,cT 8 p.1=a9/\fQ p.1=a9)/\ps.length<=1000/\Q (.ref M.length) (M++[.dkt<|dictOf ps])
 |_=>False
theorem Er(G:Room k X.A)(C:X.calm=a9):lV X (.type "dict") sf:=by
 rintro n s σ H vs us R I W ⟨ds,M,ρ,Q,y,b,q,K⟩;have un:=G.un;unfold sf at q;split at q;obtain⟨ps,L,E,hl,q⟩:=q
 first|have z:=Reps.inv_cons b|have z:=av.inv_cons b
 clear b;obtain⟨_,_,rfl,g,b⟩:=z;cases b;obtain⟨u,rfl,t⟩:=av.one W;subst L;obtain⟨a,ws,rfl,F,r⟩:=u3.inv_tup g;cases t;obtain⟨its,x,w,hz⟩:=I.tupN F;obtain⟨oa,e,D,⟨nn,h⟩,j⟩:=id w;have O:=r.length;have li:=x.length;rw[u6]at O;have f:H s.heap.objs.size=a8:=I.hok.fresh<|u5 _;have B:(s.heap.objs.size==d7)=bt:=beq_eq_false_iff_ne.mpr<|w9<|x9 I.big;refine Eu (A:=X.A) (ρ:=ρ) I (by lia) (I.ok.hd C) w.tup e j ps (by rw[y4];lia) (λi v J=>?_) (by rw[y4];lia) λh' Y xs N c=>?_;obtain⟨d,Z,t,g,m⟩:=mn r x (i:=i) (u:=v) (by simpa using J);rw[C5]at t;obtain⟨p,l,rfl⟩:=Me.mp t;exact⟨p,l,⟨Z,g,m⟩,E p<|F0 l⟩;have dl:=cZ (ps:=ps);refine⟨.ref s.heap.objs.size,_,I.laid (a:=s.heap.objs.size) (o:=.ext<|dX s.heap.objs.size xs) (t':=Y) N (u5 _)<|qw c.dx,rfl,?_⟩;exact K _ _ ⟨.ref M.length,M++[.dkt<|dictOf ps],ρ++[s.heap.objs.size],y.laidM (mo:=.dkt<|dictOf ps) f ⟨am (by lia),B,c.nd,xs,aK,Paired.mapP c.kv λ_ _ ⟨P,S,T,v,U,V⟩=>⟨P,S,T.grow<|Grow.laidR f,v,U.grow<|Grow.laidR f,V⟩⟩,Grow.laidR f,.ref y.last,q⟩;exact q.elim
theorem DO(i:Room k X.A)(f:X.calm=a9:=by kernel_rfl):HC X (.type "dict") sf:=⟨Er i f⟩
end
inductive TopB(mg:c6->Option c5):List c6->List (c6×Int)->Prop
 |nil:TopB mg [] []
 |b {x:c6}{B:List c6}{C:List (c6×Int)} (h:mg x=a8) (t:TopB mg B C):TopB mg (x::B) C
 |c {x:c6}{i:Int}{C:List (c6×Int)} (h:∃t,mg x=a7 (.int i t)) (t:TopB mg [] C):TopB mg [] ((x,i)::C)
theorem TopB.no(h:TopB mg B C)(c:B.contains x=a9):mg x=a8:=by
 induction h with
 |nil=>simp at c
 |b h _ i=>simp only[List.contains_cons,Nw,o8]at c;rcases c with rfl|c;exact h;exact i c
 |c _ _ _=>simp at c
noncomputable def nodB:List c6->Bool
 | []=>a9
 |x::xs=>!xs.contains x&&nodB xs
theorem JQ:∀{l:List c6},nodB l=a9->l.Nodup
 | [],_=>NW
 |x::xs,h=>by simp only[nodB,D3,Pm,List.contains_eq_mem,decide_eq_false_iff_not]at h;exact LX.mpr ⟨h.1,JQ h.2⟩
noncomputable def tgN:ge->List c6
 |.Name x _=>[x]
 |.Tuple es _ _=>es.filterMap fun|.Name x _=>a7 x|_=>a8
 |_=>[]
noncomputable abbrev Nn(N:List c6)(js:List Nat)(tg:ge):List c6:=tgN tg++js.map λj=>N.getD j ""
section
variable{X:Cx}{tg iter elt:ge}{ifs:List ge}{scope:f7}{nt i:Nat}{js:List Nat}{di:LR}{g:J4}{tt:E6}{te:v5}{pos pos' pos2:i3}{x:c6}
theorem k_lcN(hi:HI X tg iter di)(S:∀cl s0 H0 ex,HG (A3 X (Nn X.N js tg) scope cl s0 H0 ex) tg g)(D:∀cl s0 H0 ex,Om (A3 X (Nn X.N js tg) scope cl s0 H0 ex) ifs tt)(i:∀cl s0 H0 ex,HE (A3 X (Nn X.N js tg) scope cl s0 H0 ex) elt te)(B:pG X.env.scope.names X.N (Nn X.N js tg) nt js scope=a9:=by kernel_rfl) (f:X.calm=a9:=by kernel_rfl) (hs:∀x,j5 iter X.env x=pure x:=by intro _;kernel_rfl):HE X (.ListComp elt [⟨tg,iter,ifs,0⟩] scope pos) (E5 nt js di g tt te):=k_lc hi S D i B f hs
theorem sV(a:X.N.Nodup)(hi:HI X tg iter di)(S:∀cl s0 H0 ex,HG (A3 X (Nn X.N js tg) scope cl s0 H0 ex) tg g)(D:∀cl s0 H0 ex,Om (A3 X (Nn X.N js tg) scope cl s0 H0 ex) ifs tt)(e:∀cl s0 H0 ex,HE (A3 X (Nn X.N js tg) scope cl s0 H0 ex) elt te)(B:pG X.env.scope.names X.N (Nn X.N js tg) nt js scope=a9:=by kernel_rfl) (f:X.calm=a9:=by kernel_rfl) (hs:∀x,j5 iter X.env x=pure x:=by intro _;kernel_rfl) (w:i8 (.ListComp elt [⟨tg,iter,ifs,0⟩] scope pos) (a7<|.Name x pos') pos2.line X.env=pure a9:=by kernel_rfl)(h:X.N[i]?=a7 x:=by kernel_rfl) (c:Ip X.env.scope x=a9:=by kernel_rfl) (b:X.fn x=a9:=by kernel_rfl):HS X (.Assign [.Name x pos'] (.ListComp elt [⟨tg,iter,ifs,0⟩] scope pos) pos2) (pF nt js di g tt te i):=Dp a hi S D e B f hs w h c b
theorem gA(h:HA X es t):HA X es t:=h
theorem gE(h:HE X e te):HE X e te:=h
theorem gCall(h:HE X (.Call a b c pos) te):HE X (.Call a b c pos) te:=h
theorem gIx(h:HE X (.Subscript a b pos) te):HE X (.Subscript a b pos) te:=h
theorem KK(h:HE X (.Constant a b pos) te):HE X (.Constant a b pos) te:=h
theorem gT(h:HT X e tt):HT X e tt:=h
theorem gS{st:i6}{t:s9}(h:HS X st t):HS X st t:=h
theorem gOp(h:G1 X f r):G1 X f r:=h
theorem gC(h:HC X f r):HC X f r:=h
theorem Bg{b:List i6}{st:i6}{s:List i6}{t:s9}(h:b=st::s)(q:HB X (st::s) t):HB X b t:=h ▸ q
end
section
variable{P:c8}{w:c7}{K:u4}{mg:c6->Option c5}{base:d6}{x:c6}{st:i6}{N ps:List c6}{k:Nat}{Pr:w6}{B:List c6}{C:List (c6×Int)}{t:s9}
theorem u9.byD(T:TopB mg B C)(F:cu K mg x st ps)(i:FnScope N ps (au st))(n:cI Pr ps)(r:TopB mg B C->N.Nodup->DerT P w K mg base k x N st t)(p:∀ds M R,Pr ds M R->t (EE M R) (cN N ds) M):u9 P w K mg base (k+1) x ps Pr:=u9.byH F i n (r T i.nd) p
theorem DR(T:TopB mg B C)(F:Mw K x x st f fd)(i:FnScope N ps (au st))(n:cI Pr ps)(r:TopB mg B C->N.Nodup->DerT P w K mg base k x N st t)(p:∀ds M R,Pr ds M R->t (EE M R) (cN N ds) M):FnOk P w K mg base F8 (k+1) f fd ps (MG K Pr):=DQ F i n (r T i.nd) p
end
section
variable{prog:c8}{w:c7}{A:e9}{E:c5->f6->Prop}{s:f6}
theorem vF(B:s.heap.get? l=a7 o)(f:o.cls=.type "list"\/o.cls=.type "tuple")(d:o.data=.seq vs.toArray n)(h:Q vs { s with heap:=(s.heap.push<|m8 "list" #[] 0).update s.heap.objs.size (F9 (· ++ vs.toArray)) }) (z:vs.length<=sizeLine):f9 (h8 prog w) A (collect<|.ref l) Q E s:=by
 rcases f with f|f;exact collect_list ⟨o,B,f,n,d⟩ h z;unfold collect;refine p9<|wpAny_runValue<|MC entry_proto_collect' ?_;show f9 _ _ (do again (.builtin "list.__iadd__" ⟨[<-newList [],.ref l],[]⟩)) _ _ s;refine p9<|NV (t4 ⟨Code.quiet_builtin _ (by decide +kernel),MC entry_list_iadd' ?_⟩)<|z8 _;show f9 _ _ (QJ (.ref s.heap.objs.size) (.ref l)<|.ref s.heap.objs.size) _ _ { s with heap:=s.heap.push (m8 "list" #[] 0) };unfold QJ;have a:(s.heap.push<|m8 "list" #[] 0).get? l=a7 o:=v7 _ B;refine p9<|My (T:="tuple") ⟨o,a,f⟩ ?_;have D:(Nd "tuple" == Nd "tuple")=a9:=by rfl
 rw[o0<|by rw[D];simp];refine p9<|Ot a d ?_;refine p9<|Ot (xs:=#[]) (n:=0) (z0 _ rfl) rfl ?_;rw[o4<|by simp];refine p9 (NU (xs:=#[]) (n:=0) (z0 _ rfl) rfl ?_ (z8 _)<|by show (#[]++vs.toArray).size<=sizeLine+1;simp only[Array.size_append,y4,C8];lia);refine t4 ?_;show f9 (h8 prog w) A (do
   let o <-load s.heap.objs.size
   match o.data with
   |.seq xs _=>pure xs.toList
   |_=>unsupported "internal:collect") Q E { s with heap:=(s.heap.push<|m8 "list" #[] 0).update s.heap.objs.size (F9 (· ++ vs.toArray)) }
 refine p9<|wpAny_load (N0 (z0 _ rfl) _) ?_;show f9 _ _ (pure ((#[]:Array c5)++vs.toArray).toList) Q E _;rw[show ((#[]:Array c5)++vs.toArray).toList=vs by simp];exact t4 h
variable{h₀:d6}{L kS a:c9}{m:c6->Option c5}{vs:List c5}
theorem FG(hl:ks.length=vs.length)(h2:vs.length<2)(h:KatFin h₀ L m kS a ks e e1 vs (λs3=>P (.done<|.ret .none) s3) s):f9 (h8 prog w) A (ksk_end a bt vs.toArray e1 (.ref kS)<|Mm ks) P E s:=by
 have M:vs.toArray.size<2:=by rw[y4];exact h2
 unfold ksk_end;dsimp only;simp only[A9,p5];rw[o0 M,o0 M];refine p9<|t4 ?_;rw[StateT.run_pure];refine p9<|t4 ?_;dsimp only;refine kat_tail (out:=vs) ?_ (by lia) (by lia) rfl h;show ((Mm ks).zip vs.toArray).map (·.2)=vs.toArray
 match ks,vs,hl,h2 with
 | [],[],_,_=>simp
 | [k],[v],_,_=>simp
 | [],_::_,hl,_=>simp at hl
 |_::_,[],hl,_=>simp at hl
 |_::_::_,[_],hl,_=>simp at hl
 |_,_::_::_,_,h2=>simp at h2;lia
theorem FE{f:c5}{t:Nat}{P:PySem.Fin->f6->Prop}{Fin:List c5->Nat->f6->Prop}(o:s.heap.get? kS=a7 (m8 "list" #[] 0))(G:vs.length<64)(d:∀ks e s',ks.length=vs.length->Fin ks e s'->f9 (h8 prog w) A (ksk_end a bt vs.toArray t (.ref kS)<|Mm ks) P E s') (h:KatKeys prog w A h₀ L m kS f Fin vs [] 0 s):f9 (h8 prog w) A (ksk_rest a f bt vs.toArray t<|.ref kS) P E s:=by
 unfold ksk_rest;refine p9<|L1 ?_
 first
  |rw[List.forIn_toArray]
  |(rw[<-ND];simp only[List.toList_toArray])
  |rw[<-ND]
 refine p9<|E7 (kat_fold G (λx ks e s' C K D=>?_) vs [] 0 s (by simp) o h) (λ_ s' z=>?_) λ_ _ x=>x;refine p9<|MP<|E7 D (λk i o=>?_) λ_ _ F=>F.elim;obtain⟨q,g,T,N,U,c⟩:=o;obtain⟨H,r,v,S,I,J⟩:=U.split;rw[v]at N;have n:=N (kS,m8 "list" (Mm ks) e)<|F4 _<|.head _;have u:=LL i.heap kS (F9 (·.push k));have y:(Mm ks).push k=Mm (ks++[k]):=by simp
 obtain⟨j,b⟩:∃j,(i.heap.update kS (F9 (·.push k))).get? kS=a7 (m8 "list" (Mm<|ks++[k]) j):=⟨_,by rw[<-y];exact N0 n.1 (·.push k)⟩
 try dsimp only
 refine p9 (NU n.1 rfl ?_ (by rw[y4,Mc];lia)<|C7 (Nat.le_of_eq<|Array.size_push ..)<|by rw[y4,Mc];lia);exact t4 ⟨rfl,k,j,b,c _ j (kas_fr T u n.2.1 n.2.2)<|by rw[S];exact news_set N I J u b⟩;obtain⟨ks,e,p,B,l⟩:=z
 try dsimp only
 exact p9<|Ot p rfl<|d ks e s' B l
end
section
variable{X:Cx}{pins:List (c9×d5)}{σ:St}{H:Hp}{s:f6}{a:c9}
structure NM(X:Cx)(pins:List (c9×d5))(H:Hp)(a:c9):Prop where
 un:H a=a8
 ne:a≠X.env.locals
 fs:a∉X.fs
 s0:X.s₀.heap.objs.size<=a
 cl:∀x c,X.env.cells.lookup x=a7 c->c≠a
 pn:∀p∈X.pn++pins,p.1≠a
theorem q9.own(I:q9 X pins σ H s)(h:s.heap.objs.size<=a):NM X pins H a:=⟨I.hok.fresh h,λe=>by rw[e]at h;exact o5 (Fn I.lt h)<|D4 _,I.nofs h,C7 I.sz h,λx c e z=>by obtain⟨v,o,B,_⟩:=I.cell x c e;rw[z]at B;exact o5 (Fn (v9 B) h)<|D4 _,λp b e=>by have:=v9 (I.pin p b).1;rw[e]at this;exact o5 (Fn this h)<|D4 _⟩
theorem q9.turnF(I:q9 X pins σ H s)(w:NM X pins H a)(k:∀b u,b≠X.env.locals->b≠a->s.heap.get? b=a7 u->h'.get? b=a7 u)(j:s.heap.Ns X.env.locals m)(h:h'.Ns X.env.locals m):q9 X pins σ H { s with heap:=h' }:=by
 have g:∀b u,H b=a7 u->b≠a:=λb u e=>ad e w.un;refine I.step (g':=s.gens) (d':=s.drawn) (t':=s.toks) (ch:=[a]) (λb d=>?_) (λb u L _ f e _=>k b u L (by simpa using f) e) (λb u L _ f e _=>⟨u.slots,k b u L (by simpa using f) e⟩) (λb u _ e n=>n) (λb u f e=>?_) (λb xs q=>q) (λb u xs q=>q) (λb ps q=>⟨#[],by rw[q];simp⟩) (λl i=>?_) (λb u q=>?_) I.bare;obtain rfl:b=a:=by simpa using d
 exact⟨.inr w.s0,w.ne,w.cl,w.pn⟩;by_cases d:b=X.env.locals;subst d;obtain⟨o,_,_,B,_⟩:=h;exact⟨o,B⟩;exact⟨u,k b u d (by simpa using f) e⟩;have:m=l:=funext λx=>j.agree i x;subst this;exact h;refine(I.hok b u q).stay (λc v f r=>k c v ?_ ?_ r) (λc z=>z) λc xs z=>z;rcases f with rfl|f;exact ad q I.free;exact ad f I.free;rcases f with rfl|f;exact g _ _ q;exact g _ _ f
theorem q9.adoptF(I:q9 X pins σ H s)(w:NM X pins H a)(k:∀b u,b≠X.env.locals->b≠a->s.heap.get? b=a7 u->h'.get? b=a7 u)(l:s.heap.Ns X.env.locals m)(g:h'.Ns X.env.locals m)(i:cH X.prog X.w (v6 H a o) h' a o):q9 X pins σ (v6 H a o) { s with heap:=h' }:=by
 have d:=w.un;refine I.step (g':=s.gens) (d':=s.drawn) (t':=s.toks) (ch:=[a]) (λb h=>?_) (λb u L _ f e _=>k b u L (by simpa using f) e) (λb u L _ f e _=>⟨u.slots,k b u L (by simpa using f) e⟩) (λb u f e n=>by rw[ag<|by simpa using f];exact n) (λb u f e=>?_) (λb xs q=>by rw[ag<|ad q d];exact q) (λb u xs q=>by rw[ag<|ad q d];exact q) (λb ps q=>⟨#[],by rw[ag<|ad q d,q];simp⟩) (λp j=>?_) (λb u q=>?_) I.bare;obtain rfl:b=a:=by simpa using h
 exact⟨.inr w.s0,w.ne,w.cl,w.pn⟩;by_cases h:b=X.env.locals;subst h;obtain⟨t,_,_,B,_⟩:=g;exact⟨t,B⟩;exact⟨u,k b u h (by simpa using f) e⟩;have:m=p:=funext λx=>l.agree j x;subst this;exact g;by_cases h:b=a;subst h;rw[aK]at q;cases q;exact i;rw[ag h]at q;refine(I.hok b u q).stay (λc v f r=>k c v ?_ ?_ r) (λc z=>by rw[ag<|ad z d];exact z) λc xs z=>by rw[ag<|ad z d];exact z
 rcases f with rfl|f;exact ad q I.free;exact ad f I.free;rcases f with rfl|f;exact ad q d;exact ad f d
end
section
variable{X:Cx}{pins:List (c9×d5)}{σ:St}{ρ:List c9}{M:t7}
structure KySt(X:Cx)(pins:List (c9×d5))(σ:St)(ρ:List c9)(M:t7)(m:c6->Option c5)(kS aD:c9)(e1:Nat)(H0 H:Hp)(s:f6)(ks:List c5)(e:Nat):Prop where
 inv:q9 X pins σ H s
 ns:s.heap.Ns X.env.locals m
 sm:ve X.K ρ M H
 gr:Grow X.K ρ H0 ρ H
 hk:s.heap.get? kS=a7 (m8 "list" (Mm ks) e)
 hd:s.heap.get? aD=a7 (m8 "list" #[] e1)
 ok:NM X pins H kS
 od:NM X pins H aD
 ne:aD≠kS
theorem Hm(n:h.Ns L m):Fr (Att.noObjs h0) L h m:=⟨n,λb o e=>(by rw[Att.noObjs_get]at e;cases e),z8 _⟩
theorem uN(b:d≠L)(B:h.get? d=a7 od):News (Att.noObjs h0) L h ((d,od)::Att.ledger h L d):=by rintro⟨a,o⟩ p;rcases x6.mp p with e|p;cases e;exact⟨B,b,Att.noObjs_get _ _⟩;obtain⟨n,c,e⟩:=Att.mem_ledger.mp p;exact⟨e,n,Att.noObjs_get _ _⟩
theorem nq(N:News (Att.noObjs h0) L h' ((d,o)::Att.ledger h L d)):∀b u,b≠L->b≠d->h.get? b=a7 u->h'.get? b=a7 u:=λb u h1 h2 e=>(N (b,u)<|A6 _<|Att.mem_ledger.mpr ⟨h1,h2,e⟩).1
abbrev KeyG(X:Cx)(pins:List (c9×d5))(σ:St)(ρ:List c9)(M:t7)(f:c9)(key:D->D)(xs:List D):Prop:=∀(s:f6) (H:Hp) (d:D) (v:V) (u:c5),d∈xs->q9 X pins σ H s->ve X.K ρ M H->u3 X.K ρ H d v->aV v u ->k5 (h8 X.prog X.w) X.A.in1.in1 (.call (.ref f) ⟨[u],[]⟩) (CR F8 X.stack X.prog X.w H s (λv' H'=>VQ X.K ρ H (λx M'=>x=key d/\M'=M) v' H') E0) s
theorem FF{f:c9}{l:D->D}{xs:List D}(G:KeyG X pins σ ρ M f l xs){h0:d6}{m:c6->Option c5}{j S:c9}{N:Nat}{H0:Hp}{Fin:List c5->Nat->f6->Prop}{k:List D} (P:∀H s kvs ks e,KySt X pins σ ρ M m S j N H0 H s ks e->Reps X.K ρ H k kvs->av kvs ks->Fin ks e s):∀(r:List D) (ws:List V) (its:List c5) (done:List D) (kvs:List V) (ks:List c5) (e:Nat) (H:Hp) (s:f6),KySt X pins σ ρ M m S j N H0 H s ks e->Reps X.K ρ H r ws->av ws its->Reps X.K ρ H done kvs->av kvs ks ->done++r.map l=k->(∀d∈r,d∈xs)->KatKeys X.prog X.w X.A.in1.in1 (Att.noObjs h0) X.env.locals m S (.ref f) Fin its ks e s:=by
 intro r;induction r with
 |nil=>intro ws its done kvs ks e H s g r v Y vd R _;obtain rfl:=Reps.inv_nil r;obtain rfl:=av.inv_nil v;refine KatKeys.nil<|P H s kvs ks e g ?_ vd;rw[<-R,O7,G7];exact Y
 |cons d r ih =>
  intro ws its done kvs ks e H s g rr v Y vd R hP;obtain⟨ai,ws,rfl,r1,rr⟩:=Reps.inv_cons rr;obtain⟨u,its,rfl,ru,v⟩:=av.inv_cons v;have I:=g.inv;refine KatKeys.cons<|wpAny_call<|NP (G s H d ai u (hP d C1) I g.sm r1 ru) λZ s' y=>?_;cases Z with
  |error e=>exact y.elim
  |ok fl =>
   cases fl with
   |next=>exact y.elim
   |brk=>exact y.elim
   |cont=>exact y.elim
   |ret u' =>
    obtain⟨v',H',os,n,un,T,rv,q⟩:=y;obtain⟨F,Q,L,tk,U⟩:=s';obtain rfl:U=s.os:=os;obtain⟨_,_,aj,s1,g1,W,rfl,rfl⟩:=q;have O:aj=ρ:=by obtain⟨t,rfl⟩:=g1.pre;have h1:=s1.len;have h2:=g.sm.len;rw[A1]at h1;rw[Ry (show t.length=0 by lia),G7]
    subst O;have J:q9 X ((S,m8 "list" (Mm ks) e)::(j,m8 "list" #[] N)::pins) σ H s:=I.pins_of λp a=>by rcases x6.mp a with rfl|a;exact⟨g.hk,g.ok.un,g.ok.ne,g.ok.fs,λ_ z=>nomatch z⟩;rcases x6.mp a with rfl|a;exact⟨g.hd,g.od.un,g.od.ne,g.od.fs,λ_ z=>nomatch z⟩;exact I.pin p<|F4 _ a
    have E:=J.call (h':=F) (g':=Q) (d':=L) (t':=tk) (ch:=[]) un T n (λb z=>o5 z<|by simp);have pk:=E.pin (S,_)<|F4 _ C1;have pd:=E.pin (j,_)<|F4 _<|A6 _ C1;have I':q9 X pins σ H' ⟨F,Q,L,tk,s.os⟩:=E.pins_of λp a=>E.pin p<|F4 _<|A6 _<|A6 _ a;have B:F.Ns X.env.locals m:=by obtain⟨o,es,ep,ho,bf⟩:=g.ns;obtain⟨sl,hL⟩:=un.any ho I.free (by simp);exact⟨_,es,ep,hL,bf⟩
    have i:NM X pins H' S:=⟨pk.2.1,g.ok.ne,g.ok.fs,g.ok.s0,g.ok.cl,g.ok.pn⟩
    have C:NM X pins H' j:=⟨pd.2.1,g.od.ne,g.od.fs,g.od.s0,g.od.cl,g.od.pn⟩
    refine KatBack.intro (s:=⟨F,Q,L,tk,s.os⟩) (Hm B) (uN i.ne pk.1) (UpdF.head λp a=>(Att.mem_ledger.mp a).2.1) λh2 c F2 N2=>?_;have kp:=nq N2;refine ih ws its (done++[l d]) (kvs++[v']) (ks++[u']) c H' _ ⟨I'.turnF i kp B F2.ns,F2.ns,s1,⟨g.gr.pre,λx xs h=>g1.tup x xs<|g.gr.tup x xs h⟩,(N2 _ C1).1,kp j _ C.ne g.ne pd.1,i,C,g.ne⟩ (rr.grow g1) v ((Y.grow g1).append<|.cons W .nil) (vd.append<|.cons rv .nil) (by rw[<-R,C0,G9];rfl) λx hx=>hP x<|A6 _ hx
theorem wI{k n:Nat}{f l:c9}{o:d5}{s:f6}{H:Hp}{xs:List D}{ws:List V}{its:List c5}{y:D->D}{R:VK}(G:KeyG X pins σ ρ M f y xs)(hr:Room (k+2) X.A)(I:q9 X pins σ H s) (sm:ve X.K ρ M H) (r:Reps X.K ρ H xs ws) (rr:av ws its) (ho:s.heap.get? l=a7 o) (hc:o.cls=.type "list"\/o.cls=.type "tuple") (hd:o.data=.seq its.toArray n) (aj:its.length<64) (so:SrtG M (xs.map y)) (kk:∀v H',(∀Q:DK,(∀ys,ys.Perm xs->ys.Pairwise (λa b=>B8 M t9 (y b) (y a)=bt)->Q (.ref M.length) (M++[.lst ys]))->VQ X.K ρ H Q v H')->R v H'):f9 (h8 X.prog X.w) X.A (call (.builtin "sorted") [.ref l] [(AA0 "key",.ref f)]) (EP X pins σ R) X.xe s:=by
 have lw:=r.length;have li:=rr.length;have u:its.length<=sizeLine:=by rw[Mc];lia
 refine call_function_entry_kw kind_sorted plain_sorted entry_sorted (ksk_s1 _ _) ?_;unfold Builtin.«sorted»;refine p9 (m:=checkCount "sorted" 1 1 _)<|t4<|p9<|vF ho hc hd (p9<|NV ?_ u) u;generalize hg:((s.heap.push<|m8 "list" #[] 0).update s.heap.objs.size (F9 (· ++ its.toArray)))=g1;have P:g1.objs.size=s.heap.objs.size+1:=by rw[<-hg,Heap.size_update,size_push']
 have k1:∀b o,s.heap.get? b=a7 o->g1.get? b=a7 o:=λb o q=>by have an:=v9 q;rw[<-hg,Od _ _ _ _<|x9 an,Heap.get?_push_ne _ _ _<|x9 an];exact q
 show f9 _ _ _ _ _ { s with heap:=g1.push (m8 "list" its.toArray 0) };have O:(g1.push<|m8 "list" its.toArray 0).get? g1.objs.size=a7 (m8 "list" its.toArray 0):=z0 _ rfl;refine p9<|E2<|wpAny_call_entry_kw slot_list_sort (⟨_,O,rfl⟩) entry_list_sort ?body<|ksk_l1 _ _
 case body =>
  show f9 (h8 X.prog X.w) X.A.in1.in1 (Builtin.«list.sort» ⟨[.ref g1.objs.size],[(AA0 "key",.ref f)]⟩) _ _ _;rw[ksk_t1];unfold ksk_tree;refine p9<|Ot O rfl<|p9<|NU O rfl ?_ (by rw[y4];exact u)<|z8 _;obtain⟨e1,N⟩:∃e1,((g1.push<|m8 "list" its.toArray 0).update g1.objs.size<|F9 λ_=>(#[]:Array c5)).get? g1.objs.size=a7 (m8 "list" #[] e1):=⟨_,N0 O λ_=>#[]⟩
  refine p9<|seqEpoch_at N rfl<|p9<|wpAny_newTuple (p9<|NV (E2 ?_)<|z8 _) u;have k2:∀b o,s.heap.get? b=a7 o->((g1.push<|m8 "list" its.toArray 0).update g1.objs.size<|F9 λ_=>(#[]:Array c5)).get? b=a7 o:=λb o q=>by rw[Od _ _ _ _<|x9<|by rw[P];exact NC<|v9 q];exact v7 _<|k1 b o q
  have t:((g1.push<|m8 "list" its.toArray 0).update g1.objs.size<|F9 λ_=>(#[]:Array c5)).objs.size=g1.objs.size+1:=by rw[Heap.size_update,size_push']
  generalize ((g1.push<|m8 "list" its.toArray 0).update g1.objs.size<|F9 λ_=>(#[]:Array c5))=T at N k2 t ⊢;dsimp only;have k3:∀b o,T.get? b=a7 o->((T.push<|m8 "tuple" its.toArray 0).push<|m8 "list" #[] 0).get? b=a7 o:=λb o q=>v7 _<|v7 _ q;have J:((T.push<|m8 "tuple" its.toArray 0).push<|m8 "list" #[] 0).get? (T.push<|m8 "tuple" its.toArray 0).objs.size=a7 (m8 "list" #[] 0):=z0 _ rfl;have E:(T.push<|m8 "tuple" its.toArray 0).objs.size=T.objs.size+1:=size_push' _ _;generalize (T.push<|m8 "tuple" its.toArray 0).objs.size=kS at J E ⊢;generalize ((T.push<|m8 "tuple" its.toArray 0).push<|m8 "list" #[] 0)=g3 at J k3 ⊢;generalize g1.objs.size=Y at N P t ⊢;obtain⟨m,hn,_⟩:=I.loc;have st:KySt X pins σ ρ M m kS Y e1 H H { s with heap:=g3 } [] 0:=⟨I.kept (t':=s.toks) λb o q=>k3 b o<|k2 b o q,(by obtain⟨o',es,ep,aP,bf⟩:=hn;exact⟨o',es,ep,k3 _ _<|k2 _ _ aP,bf⟩),sm,.refl,J,k3 _ _ N,I.own (by rw[E,t,P];exact OA _ 3),I.own (by rw[P];exact OA _ 1),by rw[E,t];exact x9<|Nat.lt_add_of_pos_right (by decide:0<2)⟩
  have aS:Room k X.A.in1.in1:=(Room.in1 (k:=k+1) hr).in1;refine FE (h₀:=Att.noObjs s.heap) (L:=X.env.locals) (m:=m) (Fin:=λW e s'=>∃H' F,KySt X pins σ ρ M m kS Y e1 H H' s' W e/\Reps X.K ρ H' (xs.map y) F/\av F W) J aj (λW e s' hl ⟨H',F,g,rk,vk⟩=>?_)<|FF G (λH' s' F W e g r v=>⟨H',F,g,r,v⟩) xs ws its [] [] [] 0 H _ st r rr .nil .nil rfl λ_ q=>q;have ai:∀ys zs S,Reps X.K ρ H' ys zs->av zs S->ys.Perm xs->ys.Pairwise (λa b=>B8 M t9 (y b) (y a)=bt)->KatFin (Att.noObjs s.heap) X.env.locals m kS Y W e e1 S (λs4=>EP X pins σ R (.ref Y) s4) s':=λys zs S ry vy hp hw=>by refine KatFin.intro (Hm g.ns) (uN g.ok.ne g.hk) (UpdF.head λp hp=>(Att.mem_ledger.mp hp).2.1) λh2 c F2 N2=>?_;have kp:=nq N2;refine KasFin.intro (s:={ s' with heap:=h2 }) (Hm F2.ns) (uN g.od.ne<|kp Y _ g.od.ne g.ne g.hd) (UpdF.head λp hp=>(Att.mem_ledger.mp hp).2.1) λh3 c3 F3 N3=>?_;refine⟨.ref Y,_,(g.inv.turnF g.ok kp g.ns F2.ns).adoptF (o:=.lst zs) g.od (nq N3) F2.ns F3.ns ⟨?_,S,c3,vy,(N3 _ C1).1⟩,rfl,kk _ _ λQ hQ=>VQ.laidL g.sm g.gr ry g.od.un<|hQ ys hp hw⟩;rw[<-ry.length,hp.length_eq,lw,li];exact u
  by_cases h2:its.length<2;refine FG (hl) h2<|(ai xs ws its (r.grow g.gr) rr (NY _) ?_).mono λs4 hq=>⟨_,rfl,t4 ⟨_,rfl,hq⟩⟩
  match xs,(show xs.length<2 by lia) with
  | [],_=>exact Pp
  | [x],_=>exact Ri _ _
  |_::_::_,hx=>simp at hx;lia
  have as:2<=its.length:=by lia
  refine kat_end (b:=bt) (h₀:=Att.noObjs s.heap) (L:=X.env.locals) (m:=m) (e:=e) hl as aj ?_;have hu:X.A.in1.in1.units+t9<j9:=by have:=hr.un;have:t9=30:=rfl;show X.A.units+1+1+t9<j9;lia
  have kl:W.length=xs.length:=by lia
  refine E7 (mP g.inv g.sm so rk vk (by lia) hu) (λκ bk hk=>?_) λ_ _ x=>x;obtain⟨rfl,al⟩:=hk;show (MK its.length).kasWp (kas_ask X.prog X.w X.A.in1.in1 κ W) (λp s3=>KatFin (Att.noObjs s.heap) X.env.locals m kS Y W e e1 (p.toList.map λi=>its.getD i H9) _ s3) _;have U:∀i,i<xs.length->(xs.map y).getD i default=y (xs.getD i default):=λi hi=>by rw[J6,J6,C5,x3 hi];rfl
  refine Srt.wp_run (n:=its.length) (c:=λi j=>if i<xs.length then(if j<xs.length then B8 M t9 (y<|xs.getD i default) (y<|xs.getD j default)else a9)else bt) (λi j C hi hj hc=>?_) _ (Srt.sort_bd<|by lia).1 ?_;refine al i j C (by lia) (by lia) ?_;rw[o0 (by lia),o0<|by lia]at hc;unfold ltc;rw[U i (by lia),U j<|by lia];exact hc;have z:=Srt.All.run (c:=λi j=>if i<xs.length then(if j<xs.length then B8 M t9 (y<|xs.getD i default) (y<|xs.getD j default)else a9)else bt) _ (Srt.sort_bd (n:=its.length)<|by lia).2;obtain⟨o1,o2,o3⟩:=Gi so;have Z:∀x∈xs,y x∈xs.map y:=λx hx=>LK hx;have B:=Srt.sort_list (lt:=λa b=>B8 M t9 (y a)<|y b) xs (by lia) (λa ha=>o1 _<|Z a ha) (λa ha b hb d hd=>o2 _ (Z a ha) _ (Z b hb) _<|Z d hd)<|λa ha b hb d hd=>o3 _ (Z a ha) _ (Z b hb) _<|Z d hd
  try dsimp only at B
  rw[show xs.length=its.length by lia]at B z ⊢;generalize Srt.run _ (MK its.length)=p at z B ⊢;have hi:∀i∈p.toList,i<xs.length:=λi h=>by have:=z.mem_iff.mp h;rw[G4]at this;lia
  exact(ai _ _ _ ((r.grow g.gr).perm p.toList hi) (rr.perm p.toList λi h=>by have:=hi i h;lia) B.1 B.2).mono λs4 hq=>⟨_,rfl,t4 ⟨_,rfl,hq⟩⟩
end
structure BlkScC(X:Cx)(N':List c6)(nt:Nat)(js:List Nat)(scope:f7):Prop where
 kind:scope.kind=.function
 kinds:∀y∈scope.names,scope.names.lookup y.1=a7 y.2
 free:∀y∈scope.names,y.2=.free->(X.env.kindOf y.1=a7 .cell\/X.env.kindOf y.1=a7 .free)
 len:N'.length=nt+js.length
 fr:∀(k j:Nat),js[k]?=a7 j->∃x,N'[nt+k]?=a7 x/\X.N[j]?=a7 x/\scope.names.lookup x=a7 .free/\(X.env.kindOf x=a7 .cell\/X.env.kindOf x=a7 .free)
structure CfOk(h:d6)(k:Nat)(names:List (c6×k7))(acc cs:List (c6×c9)):Prop where
 look:∀z c,cs.lookup z=a7 c->(acc.lookup z=a7 c/\(z,Nt)∉names)\/((z,Nt)∈names/\k<=c/\h.IsCell c a8)
 inj:∀y z c,cs.lookup y=a7 c->cs.lookup z=a7 c->y=z
 old:∀z c,acc.lookup z=a7 c->∃c',cs.lookup z=a7 c'
 new:∀z,(z,Nt)∈names->∃c,cs.lookup z=a7 c
def HM(i:Nat):J4:=ah i
section
variable{K:u4}{ρ:List c9}{H:Hp}
theorem mq:∀{kvs:List (c6×D)}{vs:List V},Reps K ρ H (kvs.map (·.2)) vs->fS kvs k=a8->vQ (jb (kvs.map (·.1)) vs) (ABh k)=a8
 | [],_,_,_=>by rfl
 |(k',d')::kvs,_,.cons (v:=v) (vs:=vs) h t,e=>by
  have hk:k'≠k:=λz=>by subst z;simp[fS]at e
  have e':fS kvs k=a8:=by
   have:fS ((k',d')::kvs) k=fS kvs k:=by simp[fS,hk]
   rw[<-this];exact e
  have q:=mq t e';show vQ ((ABh k',v)::jb (kvs.map (·.1)) vs) (ABh k)=a8;rw[pK<|λz=>hk<|by injection z];exact q
end
section
variable{X:Cx}{o:ge}{pos:i3}{k:Nat}{name:c6}{id:String}{e:ge}{es:List ge}{to:v5}{t:F7}{apos cpos:i3}
def OT(r:Nat->C6)(e:v5)(t:F7):v5:=λS M Q=>e S M λx a=>match x with
 |.ref n=>(∃s,a[n]?=a7 (.dct s))/\t S a λds b=>r n ds b Q
 |_=>False
theorem d_mk(slot:Slot "dict" name id)(y:l7 (.builtin id)=pure (.type "method_descriptor"))(W:LD X id (nW X.K r))(Y:DE X o to)(V:DA X (e::es) t)(c:l8 o name X.env (eval o X.env)=eval o X.env:=by rfl)(f:((i4 cpos<|i5 (e::es) X.env).all (λx=>!x.1)&&(l9 cpos<|m3 [] X.env).all (λx=>x.1.isSome) && decide ((e::es).length+([]:List k6).length+(if ([]:List k6).isEmpty then 0 else 1)<30))=a9:=by rfl)(d:(apos.endLine==cpos.line)=a9:=by rfl) (hs:i5 (e::es) X.env=(bt,eval e X.env)::i5 es X.env:=by rfl) (h:(i4 cpos<|i5 es X.env).any (·.1)=bt:=by rfl):DE X (.Call (.Attribute o name apos) (e::es) [] cpos) (OT r to t):=by
 rintro p s σ H R I ⟨S,M,ρ,Q,sm,J,q,Z⟩;refine Rb c f d rfl<|v4 (Y p s σ H _ I ⟨S,M,ρ,_,sm,J,q,λv H' z=>z⟩) ?_;rintro u s1 ⟨v,L,C,rv,x,i,A,j,g1,r1,g⟩;cases r1 with
 |@ref n a G =>
  cases rv;obtain⟨⟨k,U⟩,g⟩:=(show (∃k,i[n]?=a7 (.dct k))/\t S i _ from g)
  obtain⟨ws,T,_⟩:=j.obj _ _ _ G U;obtain⟨z1,z2,ai,aj,D⟩:=HK C.hok T;refine⟨"dict",id,Qz,slot,y,D.typeIs,λb z=>?_,?_⟩;cases z;obtain⟨ob,_,_,h1,h2,_⟩:=D;exact⟨ob,h1,h2.2.1⟩;have F:=V cpos p s1 σ L _ C ⟨S,i,A,_,j,J.grow g1,g,λvs H' z=>z⟩;rw[hs]at F ⊢;refine OI (by show (bt||(i4 cpos<|i5 es X.env).any (·.1))=bt;rw[h]<;>rfl)<|Q5 ?_;refine v4 F ?_;rintro us s2 ⟨vs,N,O,l,ds,P,B,m,E,rr,q2⟩;exact W p s2 σ N (.ref a) vs (.ref a) us R O rfl l ⟨n,a,ds,P,B,Q,rfl,aC E.pre G,m,rr,q2,λv H' w=>Z v H'<|VQ.trans (g1.trans E) w⟩
 |_=>exact g.elim
def wQ(n:Nat):C6:=λds M Q=>match ds with
 | [.str x,d]=>∃s,M[n]?=a7 (.dct s)/\Q ((fS s x).getD d) M
 |_=>False
theorem Db:LD X "dict.get" (nW X.K wQ):=by
 rintro p s σ H x xs v us R I J G ⟨n,a,ds,M,ρ,Q,o,A,m,f,q,D⟩;unfold wQ at q;split at q;rename_i x d;obtain⟨b,y,q⟩:=q;have z:=Reps.inv_cons f;clear f;obtain⟨_,_,rfl,C,f⟩:=z;have z:=Reps.inv_cons f;clear f;obtain⟨_,_,rfl,E,f⟩:=z;obtain rfl:=Reps.inv_nil f;obtain rfl:=u3.inv_str C;obtain⟨T,L,rfl,t,h⟩:=av.two G;subst o;obtain rfl:v=E1 a:=J;obtain⟨O,u,r⟩:=m.obj _ _ _ A y;obtain⟨P,N,B,l,g⟩:=HK I.hok u;refine call_meetsIn Qv g.typeIs PySem.F.entry_dict_get (PySem.F.args_dict_get_3 _ _ _) (meets_dict_get_default (bR X.prog X.w) a (AT (k:=ABh x) t) N L) ⟨_,g.mapOf,?_⟩;cases c:fS b x with
 |none=>rw[c]at q;exact⟨_,H,I.tok _,(by have:=(l.val<|ABh x).getD h;rw[mq r c]at this;exact this),D _ _ ⟨d,M,ρ,m,.refl,E,q⟩⟩
 |some i=>rw[c]at q;obtain⟨Y,j,e⟩:=jg r c;exact⟨_,H,I.tok _,(by have:=(l.val<|ABh x).getD h;rw[j]at this;exact this),D _ _ ⟨i,M,ρ,m,.refl,e,q⟩⟩
 exact q.elim
def wP(n:Nat):C6:=λds M Q=>match ds with
 | [.str x,d]=>∃s,M[n]?=a7 (.dct s)/\s.length<sizeLine/\(∀y,fS s x=a7 y->Q y M)/\(fS s x=a8->Q d (M.set n<|.dct<|mU s x d))
 |_=>False
theorem Da:LD X "dict.setdefault" (nW X.K wP):=by
 rintro E s σ H x xs v us R I rx rs ⟨n,a,ds,M,ρ,Q,S,C,p,f,q,D⟩;unfold wP at q;split at q;rename_i x d;obtain⟨b,A,hl,Y,Z⟩:=q;have z:=Reps.inv_cons f;clear f;obtain⟨_,_,rfl,r1,f⟩:=z;have z:=Reps.inv_cons f;clear f;obtain⟨_,vd,rfl,G,f⟩:=z;obtain rfl:=Reps.inv_nil f;obtain rfl:=u3.inv_str r1;obtain⟨u1,L,rfl,O,y⟩:=av.two rs;subst S;obtain rfl:v=E1 a:=rx;obtain⟨ws,m,r⟩:=p.obj _ _ _ C A;obtain⟨z1,N,B,l,u⟩:=HK I.hok m;refine call_meetsIn PySem.F.slot_dict_setdefault u.typeIs PySem.F.entry_dict_setdefault (PySem.F.args_dict_setdefault_3 _ _ _) (kt_meets_setdefault (bR X.prog X.w) a (AT (k:=ABh x) O) N L) ⟨B,u,by rw[<-l.length];exact z1,λw' i=>?_,λi h' e sb=>?_⟩;cases c:fS b x with
 |none=>have:=l.val<|ABh x;rw[mq r c,i]at this;exact this.elim
 |some t=>obtain⟨w0,j,g⟩:=jg r c;have:=l.val<|ABh x;rw[j,i]at this;exact⟨_,H,I.tok _,this,D _ _ ⟨t,M,ρ,p,.refl,g,Y _ c⟩⟩
 cases c:fS b x with
 |some t=>obtain⟨w0,j,g⟩:=jg r c;have:=l.val<|ABh x;rw[j,i]at this;exact this.elim
 |none =>
  obtain⟨h,T,P⟩:=zR (k:=x) G r;obtain⟨w1,J⟩:=p.writeD C A m P;have U:∃q,h'.get? a=a7 q:=let ⟨q,_,_,hq,_⟩:=e;⟨q,hq⟩
  have lw:=r.length;have o:KV (jb ((mU b x d).map (·.1)) h) (stored B (ABh x) L):=by rw[<-T];exact l.put (ABh x) y
  have W:(jb ((mU b x d).map (·.1)) h).length<=sizeLine:=by
   have V:=P.length;have l2:(mU b x d).length<=b.length+1:=by unfold mU;split<;>simp
   rw[u6]at V;rw[jb,u6,List.length_zip,u6];lia
  exact⟨_,_,Bq I (by rw[m];exact Nq) sb U<|Fi W N o e,y,D _ _ ⟨d,_,ρ,w1,J,G.grow J,Z c⟩⟩
 exact q.elim
theorem GV(B:HE X o to)(f:HA X (e::es) t)(h:l8 o "get" X.env (eval o X.env)=eval o X.env:=by kernel_rfl)(w:((i4 cpos<|i5 (e::es) X.env).all (λx=>!x.1)&&(l9 cpos<|m3 [] X.env).all (λx=>x.1.isSome) && decide ((e::es).length+([]:List k6).length+(if ([]:List k6).isEmpty then 0 else 1)<30))=a9:=by kernel_rfl)(a:(apos.endLine==cpos.line)=a9:=by kernel_rfl) (hs:i5 (e::es) X.env=(bt,eval e X.env)::i5 es X.env:=by kernel_rfl) (n:(i4 cpos<|i5 es X.env).any (·.1)=bt:=by kernel_rfl):HE X (.Call (.Attribute o "get" apos) (e::es) [] cpos) (OT wQ to t):=⟨d_mk Qv PySem.F.type_dict_get Db B.ok f.ok h w a hs n⟩
theorem GU(B:HE X o to)(f:HA X (e::es) t)(h:l8 o "setdefault" X.env (eval o X.env)=eval o X.env:=by kernel_rfl)(w:((i4 cpos<|i5 (e::es) X.env).all (λx=>!x.1)&&(l9 cpos<|m3 [] X.env).all (λx=>x.1.isSome) && decide ((e::es).length+([]:List k6).length+(if ([]:List k6).isEmpty then 0 else 1)<30))=a9:=by kernel_rfl)(a:(apos.endLine==cpos.line)=a9:=by kernel_rfl) (hs:i5 (e::es) X.env=(bt,eval e X.env)::i5 es X.env:=by kernel_rfl) (n:(i4 cpos<|i5 es X.env).any (·.1)=bt:=by kernel_rfl):HE X (.Call (.Attribute o "setdefault" apos) (e::es) [] cpos) (OT wP to t):=⟨d_mk PySem.F.slot_dict_setdefault PySem.F.type_dict_setdefault Da B.ok f.ok h w a hs n⟩
end
noncomputable def iW(ps:List (c6×D)):List (c6×D):=ps.foldl (λs p=>mU s p.1 p.2) []
theorem pD:iW (ps++[p])=mU (iW ps) p.1 p.2:=by unfold iW;rw[Po];rfl
theorem tF(ps:List (c6×D)):(iW ps).length<=ps.length:=by
 have:∀(ps acc:List (c6×D)),(ps.foldl (λkvs p=>mU kvs p.1 p.2) acc).length<=acc.length+ps.length:=by
  intro ps;induction ps with
  |nil=>intro acc;exact u5 _
  |cons p ps i=>intro acc;have h1:=i<|mU acc p.1 p.2;have h2:=wS (kvs:=acc) (k:=p.1) (d:=p.2);rw[List.foldl_cons,C4];lia
 have h:=this ps [];rw[C8]at h;unfold iW;lia
section
variable{X:Cx}{pins:List (c9×d5)}{σ:St}{H:Hp}{ρ:List c9}{M:t7}{A:e9}{E:c5->f6->Prop}{s:f6}
def Oo(X:Cx)(ρ:List c9)(H:Hp)(h:d6)(a:c9)(kvs:List (c6×D)):Prop:=∃s us,Reps X.K ρ H (kvs.map (·.2)) s/\KV (jb (kvs.map (·.1)) s) us/\h.DictOf (bR X.prog X.w) a us
theorem Oo.at(x:Oo X ρ H h a kvs)(k:∀o,h.get? a=a7 o->h'.get? a=a7 o):Oo X ρ H h' a kvs:=by obtain⟨s,us,r,l,o,es,i,t,bf⟩:=x;exact⟨s,us,r,l,o,es,i,k _ t,bf⟩
theorem EZ{kvs:List (c6×D)}{s:List V}{us:List (C9×c5)}(r:Reps X.K ρ H (kvs.map (·.2)) s)(l:KV (jb (kvs.map (·.1)) s) us):us.length=kvs.length/\(jb (kvs.map (·.1)) s).length=kvs.length:=by
 have t:=r.length;have e:=l.length;rw[u6]at t;have R:(jb (kvs.map (·.1)) s).length=kvs.length:=by rw[jb,u6,List.length_zip,u6];lia
 lia
theorem Hy(I:q9 X pins σ H s)(hu:A.units+20<j9)(W:Walks X.prog X.w A.in1 J fp wr m P Sx)(S:c9)(l:S∉fp)(L:s.heap.get? S=a8) (B:∀b∈wr,s.heap.get? b=a8) (ps:List (c6×D)) (hm:ps.length=m) (y:∀i v,P i v->∃p:c6×D,ps[i]?=a7 p/\∃vv,u3 X.K ρ H (.tup [.str p.1,p.2]) vv/\aV vv v) (Q:m<=1000):∀(k i:Nat) (h:d6) (tk:Nat) (j:Int) (t:Tok),m-i=k->i<=m->Sx i h->Oo X ρ H h S (iW<|ps.take i)->(∀b u,s.heap.get? b=a7 u->h.get? b=a7 u) ->(∀h' tk,(∀b u,s.heap.get? b=a7 u->h'.get? b=a7 u)->Oo X ρ H h' S (iW ps)->R (.ok<|.ret .none) { s with heap:=h',toks:=tk }) ->k5 (h8 X.prog X.w) A (.builtin "dict.update.loop" ⟨[.ref S,.ref J,.int j t,.none],[]⟩) R { s with heap:=h,toks:=tk }:=by
 have n:S∉wr:=λh=>l<|W.sub _ h;intro k;induction k with
 |zero =>
  intro i h tk j t hk hi g F c Y;obtain rfl:i=m:=by lia
  refine MC jS ?_;rw[Nk ca _];refine(show f9 (h8 X.prog X.w) A.in1 (j1 (.ref J) >>= _) _ _ _ from p9<|W.done _ _ _ g λh' tk d=>?_);rw[<-hm,L7]at F;refine(show f9 (h8 X.prog X.w) A.in1 (Builtin.Dict.addKeywords S [] >>= _) _ _ _ from p9<|t4<|t4 ?_);exact Y h' tk (λb u e=>d b u (λz=>by rw[B b z]at e;cases e)<|c b u e)<|F.at λo e=>d S o n e
 |succ k ih =>
  intro i h tk j t hk hi g F c Y;refine MC jS ?_;rw[Nk ca _];refine(show f9 (h8 X.prog X.w) A.in1 (j1 (.ref J) >>= _) _ _ _ from p9<|W.item i _ _ _ (by lia) g λv h' tk hP q d=>?_);obtain⟨p,hp,vv,r,rv⟩:=y i v hP;have f:∀b u,s.heap.get? b=a7 u->h'.get? b=a7 u:=λb u e=>d b u (λz=>by rw[B b z]at e;cases e)<|c b u e;have I':q9 X pins σ H { s with heap:=h',toks:=tk }:=I.kept f;obtain⟨ws,us,Z,C,dd⟩:=F.at λo e=>d S o n e;have hl:=(EZ Z C).1;have dl:=tF<|ps.take i;rw[G0]at dl;obtain⟨a,vs,rfl,hq,E⟩:=u3.inv_tup r;obtain rfl:v=E1 a:=rv;obtain⟨_,_,rfl,r1,E⟩:=Reps.inv_cons E;obtain⟨_,vd,rfl,r2,E⟩:=Reps.inv_cons E;obtain rfl:=Reps.inv_nil E;obtain rfl:=u3.inv_str r1;obtain⟨its,U,pl,hz⟩:=I'.tuple hq;obtain⟨u1,u2,rfl,e1,e2⟩:=av.two U;obtain⟨x,d0⟩:=p;obtain⟨o,T,hc,nn,hd⟩:=pl;have hT:({ s with heap:=h',toks:=tk }:f6).TypeIs (.ref a) "tuple":=⟨o,T,hc⟩
  refine p9<|E2<|p9<|wpAny_tryCatch ?_;unfold Builtin.Dict.pairItems;refine p9<|My hT ?_;rw[o0<|by decide];refine p9<|LV T hd<|t4 ?_;refine(show f9 (h8 X.prog X.w) _ (i7 [u1,u2]<|dictSet S u1 u2) _ _ _ from E2 ?_);refine wpAny_dictSet_pairs (s:={ s with heap:=h',toks:=tk }) (AT (k:=ABh x) e1) dd (λh2 G sb=>?_) (am<|by lia);have V:∀b u,b≠S->h'.get? b=a7 u->h2.get? b=a7 u:=λb u Q e=>(sb.2 b Q).trans e;obtain⟨O,f1,N⟩:=zR (k:=x) r2 Z;have et:ps.take (i+1)=ps.take i++[(x,d0)]:=by rw[Mo,hp];rfl
  refine t4 ⟨MW ca _,ih (i+1) h2 _ _ _ (by lia) (by lia) (W.frame _ h' h2 q λb' M o e=>V b' o (λz=>l<|z ▸ M) e) ?_ (λb u e=>V b u (λz=>by rw[z,L]at e;cases e)<|f b u e) Y⟩;rw[et,pD];exact⟨O,_,N,by rw[<-f1];exact C.put (ABh x) e2,G⟩
theorem Et(I:q9 X pins σ H s)(Y:A.units+30<j9)(B:A.handled=a8)(C:s.heap.IsTuple l its)(f:s.heap.get? l=a7 ol)(j:ol.dict=a8)(ps:List (c6×D))(R:ps.length=its.size)(y:∀(i:Nat) v,its[i]?=a7 v->∃p:c6×D,ps[i]?=a7 p/\∃vv,u3 X.K ρ H (.tup [.str p.1,p.2]) vv/\aV vv v) (O:its.size<=1000)(h:∀h' tk,(∀b u,s.heap.get? b=a7 u->h'.get? b=a7 u)->Oo X ρ H h' s.heap.objs.size (iW ps)->Q (.ref s.heap.objs.size) { s with heap:=h',toks:=tk }):f9 (h8 X.prog X.w) A (call (.type "dict") [.ref l]) Q E s:=by
 refine callType_codes (Q₁:=λg s₁=>g=.ref s.heap.objs.size/\s₁={ s with heap:=s.heap.push { cls:=.type "dict",data:=.dict #[] } }) Ra (Rw _) Rf (kt_code_dict_new _ ⟨rfl,rfl⟩) ?_;rintro g s₁ ⟨rfl,rfl⟩;have S:(s.heap.push { cls:=.type "dict",data:=.dict #[] }).get? s.heap.objs.size=a7 { cls:=.type "dict",data:=.dict #[] }:=z0 _ rfl;have z:Ng { s with heap:=s.heap.push { cls:=.type "dict",data:=.dict #[] } } (.ref s.heap.objs.size) "dict":=⟨_,S,rfl⟩
 obtain⟨a,N,r,Z,n⟩:=id C;obtain rfl:a=ol:=A5<|N.symm.trans f;have c:(s.heap.push { cls:=.type "dict",data:=.dict #[] }).get? l=a7 a:=v7 _ f;have L:Ng { s with heap:=s.heap.push { cls:=.type "dict",data:=.dict #[] } } (.ref l) "tuple":=⟨a,c,r⟩
 have V:l<s.heap.objs.size:=v9 f;refine⟨z,Ro _ _,?_⟩;unfold Builtin.«dict.__init__»;refine p9 ?_;unfold Rn;refine p9<|OH z ?_;refine(show f9 _ _ (pure (s.heap.objs.size,[E1 l])) _ _ _ from t4 ?_);refine(show f9 _ _ (OK "dict.__init__" s.heap.objs.size (.ref l) [] .none) _ _ _ from ?_);unfold OK;refine p9<|My L ?_;rw[o0<|by decide];refine p9<|oq c r j n (by simpa using B) λh1 x F=>?_;have k:∀b u,s.heap.get? b=a7 u->h1.get? b=a7 u:=λb u e=>F b u<|v7 _ e;rw[o0<|show (a8:Option c5).isNone=a9 from rfl];refine p9<|L1 ?_;obtain⟨oI,St,t,W,st⟩:=(TxSrc.tuple (prog:=X.prog) (w:=X.w) C).iter A.in1.in1 { s with heap:=h1,toks:=x } (by simpa using B) λo e=>k _ _ e;refine p9<|t _ _ ?_;have d:=F _ _ S;have J:s.heap.objs.size<h1.objs.size:=v9 d;have G:s.heap.get? s.heap.objs.size=a8:=by
  cases q:s.heap.get? s.heap.objs.size with
  |none=>rfl
  |some o=>exact o5 (v9 q)<|D4 _
 refine t4 ⟨MW ca _,Hy (A:=A.in1) (s:=s) I (by show A.units+1+20<j9;lia) W s.heap.objs.size ?_ G ?_ ps R y O its.size 0 _ _ _ _ rfl (z8 _) st ⟨[],[],.nil,.nil,_,#[],_,v7 _ d,⟨rfl,rfl,rfl⟩,rfl,(λ_ P=>by simp at P),Pairs.nil,NW⟩ (λb u e=>v7 _<|k b u e) λh2 T U M=>⟨rfl,h h2 T U M⟩⟩;simp only[x6,L6,or_false,not_or];exact⟨x9 J,NQ V⟩;intro b m;rw[LJ.mp m];cases q:s.heap.get? h1.objs.size with
 |none=>rfl
 |some o=>exact o5 (O6 (v9 q) J)<|D4 _
end
section
variable{X:Cx}{k:Nat}
def wO:C6:=λds M Q=>match ds with
 | [.tup xs]=>∃ps:List (c6×D),xs=ps.map (λp=>.tup [.str p.1,p.2])/\ps.length<=1000/\Q (.ref M.length) (M++[.dct<|iW ps])
 |_=>False
theorem Es(J:Room k X.A)(D:X.calm=a9):lV X (.type "dict") wO:=by rintro n s σ H vs us R I S ⟨ds,M,ρ,Q,B,b,q,N⟩;have un:=J.un;unfold wO at q;split at q;obtain⟨ps,L,Y,q⟩:=q;have z:=Reps.inv_cons b;clear b;obtain⟨_,_,rfl,g,b⟩:=z;obtain rfl:=Reps.inv_nil b;obtain⟨u,rfl,t⟩:=av.one S;subst L;obtain⟨a,ws,rfl,G,r⟩:=u3.inv_tup g;cases t;obtain⟨its,y,x,hz⟩:=I.tupN G;obtain⟨oa,e,E,⟨nn,h⟩,j⟩:=id x;have P:=r.length;have li:=y.length;rw[u6]at P;have f:H s.heap.objs.size=a8:=I.hok.fresh<|u5 _;have C:(s.heap.objs.size==d7)=bt:=beq_eq_false_iff_ne.mpr<|w9<|x9 I.big;refine Et (A:=X.A) (ρ:=ρ) I (by lia) (I.ok.hd D) x.tup e j ps (by rw[y4];lia) (λi v K=>?_) (by rw[y4];lia) λh' T O c=>?_;obtain⟨d,Z,t,g,m⟩:=mn r y (i:=i) (u:=v) (by simpa using K);rw[C5]at t;obtain⟨p,F,rfl⟩:=Me.mp t;exact⟨p,F,Z,g,m⟩;obtain⟨w,V,U,l,c⟩:=c;have W:=tF ps;have ln:=(EZ U l).2;refine⟨.ref s.heap.objs.size,_,I.laid (a:=s.heap.objs.size) (o:=.dK (jb ((iW ps).map (·.1)) w)) (t':=T) O (u5 _)<|Fi (am<|by lia) C l c,rfl,?_⟩;exact N _ _ ⟨.ref M.length,M++[.dct<|iW ps],ρ++[s.heap.objs.size],B.laidM (mo:=.dct<|iW ps) f ⟨w,aK,U.grow<|Grow.laidR f⟩,Grow.laidR f,.ref B.last,q⟩;exact q.elim
theorem DP(i:Room k X.A)(f:X.calm=a9:=by kernel_rfl):HC X (.type "dict") wO:=⟨Es i f⟩
end
def BMain(mg:c6->Option c5)(base:d6):Prop:=∃m o,mg "__builtins__" = a7 (.ref m)/\m≠builtinsNs/\m≠d9/\base.get? m=a7 o/\o.cls=.type "module"/\o.dict=a7 builtinsNs/\o.data=.plain
def Self(X:Cx)(x:c6):Prop:=∃(f:c9) (oc:c5) (j:Option c9) (d:k4) (m:Array (Option c5)),X.mg x=a7 (.ref f)/\X.K.lookup f=a7 ⟨oc,j,.func d,m⟩/\X.env.code=d.code
theorem Self.code(S:Self X x)(I:q9 X pins σ H s)(h:tabIn X.K x=a7 (c,P)):X.env.code=.ref c:=by obtain⟨f,oc,j,g,m,h1,h2,a⟩:=S;unfold tabIn at h;split at h;rename_i e d;have t:=mg_of I.mod.kin I.mod.glob d;rw[h1]at t;cases t;split at h;rename_i l;rw[h2]at l;cases l;split at h;rename_i U b;split at h;split at h;cases h;rw[a,b];cases h;cases h;cases h;cases h;cases h
section
variable{K:u4}{ρ:List c9}{M:t7}{H:Hp}
theorem z7.writtenB(b:H p=a7 (.tbl ps))(h:z7 K H a xs):z7 K (v6 H p o) a xs:=by
 have F:∀u,H a=a7 u->(∀q,u≠.tbl q)->a≠p:=λu e q z=>by rw[z,b]at e;exact q ps (A5 e).symm
 rcases h with h|h;rcases h with h|⟨c,h⟩
 exact .inl (.inl<|by rw[ag<|F _ h λ_ z=>by cases z];exact h);exact .inl<|.inr ⟨c,by rw[ag<|F _ h λ_ z=>by cases z];exact h⟩;exact .inr h
theorem ve.writeB(S:ve K ρ M H)(t:ρ[n]?=a7 a)(u:M[n]?=a7 (.tb x b))(s:H a=a7 (.tbl ps)):ve K ρ (M.set n<|.tb x a9) (v6 H a<|.tbl ps')/\Grow K ρ H ρ (v6 H a<|.tbl ps'):=by
 have g:Grow K ρ H ρ (v6 H a<|.tbl ps'):=⟨N1,λ_ _ h=>z7.writtenB s h⟩
 have l:∀m,m≠n->(M.set n<|.tb x a9)[m]?=M[m]?:=λm i=>L8<|w9 i;have c:¬LY M[n]?:=λ⟨_,z⟩=>by rw[u]at z;cases z
 refine⟨⟨λm o b j e f=>?_,by rw[J7];exact S.len,λm d p e f=>?_⟩,g⟩;have q:=S.nd m o b j e f;by_cases h1:m=n;subst h1;rw[l o<|w9 j];exact .inr<|q.resolve_left c;rw[l m h1];by_cases h2:o=n;subst h2;exact .inl<|q.resolve_right c;rw[l o h2];exact q;by_cases i:m=n;subst i;have k:d=a:=A5<|e.symm.trans t;subst k;rw[Mr<|by rw[<-S.len];exact(x5.mp t).1]at f;cases f;exact⟨(S.obj m d _ t u).1,ps',aK,λz=>by cases z⟩;rw[l m i]at f;by_cases k:d=a;subst k;have r:=(S.nd m n d i e t).resolve_right c;rw[f]at r;exact(S.obj m d p e f).grow g<|.inr r;exact(S.obj m d p e f).grow g<|.inl<|ag k
end
theorem GD{P:c8}{w:c7}{K:u4}{mg:c6->Option c5}{base:d6}{A:e9}{a:List Env}{s:f6}{H:Hp}{k:Nat}{f U:c9}{B l:c6}{p:Arguments}{c:ge}{scope:f7}{C h:c5}{N ps:List c6}{te:v5}{ρ:List c9}{M:t7}{d:D}{v:V}{u:c5}{R:DK} (j:Env0 P w K mg base A a s H) (X:s.heap.get? f=a7 (kla_obj B l p c scope [] C U h)) (m:s.heap.CodeRec (.ref U) l) (S:FnScope N ps scope) (t:Room (k+1) A)(Q:BindsTo s (kla_fn B l p c scope [] C (.ref U) h) ⟨[u],[]⟩ (ps.zip [u])) (W:1=ps.length) (i:∀E,Room k (A.deeper<|k8 l scope s.heap.objs.size f<|.ref U)->DE (tO F8 P w K mg base N l scope f (.ref U) A a s H E).nox c te)(L:ve K ρ M H) (r:u3 K ρ H d v) (ru:aV v u) (Y:te (cN N [d]) M (bc M R)):k5 (h8 P w) A (.call (.ref f) ⟨[u],[]⟩) (CR F8 a P w H s (λv' H'=>VQ K ρ H R v' H') E0) s:=by
 have F:s.heap.NoLimit:=j.mod.nolimit.keeps λb o e=>(j.bs b o e).1;have g:∀y∈ps.zip [u],scope.names.lookup y.1=a7 .local\/(scope.names.lookup y.1=a7 .cell/\((cellsFrom (s.heap.objs.size+1) scope.names []).lookup y.1).isSome=a9):=λ⟨n,v⟩ Z=>by rcases S.par n (P6 Z).1 with q|q;exact .inl q;exact .inr ⟨q,Re _ _ _<|.inl q⟩
 refine kla_callFunE t.depth X rfl S.co S.gen rfl m<|Q _ _ _ _ ?_;refine wpAny_newFunctionEnv_cells S.kind g λenv T G x=>?_;subst T;refine⟨F.keeps x.toInCall.keep,kla_codeExpr ?_⟩;have I:q9 (tO F8 P w K mg base N l scope f (.ref U) A a s H E0) [] (start N [v]) H G:=sY S t.hd j W (.cons ru .nil) x;have O:=PE.nox<|i E0<|t.deeper _;refine E7 (O [] G (start N [v]) H (λv' H'=>VQ K ρ H (bc M R) v' H') I ⟨cN N [d],M,ρ,_,L,SRep.start (.cons r .nil) N,Y,λ_ _ z=>z⟩) (λu' s' hs=>?_) λe s' hs=>hs;obtain⟨v',H',J,rv,q⟩:=hs;exact⟨v',H',J.os,J.bare,J.base,J.hok,rv,VQ.endq L q⟩
section
variable{X:Cx}{pins:List (c9×d5)}{σ:St}{H:Hp}{s:f6}
theorem q9.writeB(I:q9 X pins σ H s)(h:H P=a7 (.tbl ps))(k:∀b u,b≠P->s.heap.get? b=a7 u->h'.get? b=a7 u)(B:h'.get? P=a7 (tabObj<|ps++more)):q9 X pins σ (v6 H P<|.tbl<|ps++more) { s with heap:=h',toks:=t' }:=by
 have R:∀b,H b=a8->b≠P:=λb n z=>by rw[z,h]at n;cases n
 have F:∀b u,H b=a7 u->(∀q,u≠.tbl q)->b≠P:=λb u e q z=>by rw[z,h]at e;exact q ps (A5 e).symm
 refine I.un ⟨λb u q n _ _=>k b u (R b n) q,λb u q n _ _=>⟨u.slots,k b u (R b n) q⟩,λb u q n _=>by rw[ag<|R b n];exact n,λb u q _=>?_,λb xs q=>by rw[ag<|F b _ q λ_ z=>by cases z];exact q,λb u xs q=>by rw[ag<|F b _ q λ_ z=>by cases z];exact q,λb qs q=>?_⟩ λb u q=>?_;by_cases d:b=P;subst d;exact⟨_,B⟩;exact⟨u,k b u d q⟩;by_cases d:b=P;subst d;rw[h]at q;cases q;exact⟨more,aK⟩;exact⟨#[],by rw[ag d,q];simp⟩;by_cases d:b=P;subst d;rw[aK]at q;cases q;exact B;rw[ag d]at q;refine(I.hok b u q).stay (λc v f r=>k c v ?_ r) (λc r=>by rw[ag<|F c _ r λ_ z=>by cases z];exact r) λc xs r=>by rw[ag<|F c _ r λ_ z=>by cases z];exact r
 rcases f with rfl|f;exact d;exact F c _ f λ_ z=>by cases z
theorem Do(I:q9 X pins σ H s)(r:H P=a7 (.tbl #[]))(C:∀h:d6,X.K.In h->CodeHd h c P)(g:X.env.code=.ref c)(B:BMain X.mg X.base)(x:closureFor scope X.env=pure []) (k:defaultsOf params X.env=([],[]))(h:∀f c' oc vs t ctv ps' s',q9 X ((f,kla_obj "<lambda>" (X.env.qual ++ "<lambda>") params body scope [] ((X.mg "__name__").getD .none) c' ctv)::(c',oc)::pins) σ (v6 H P<|.tbl ps') s'->oc.data=.fields vs->vs[1]?=a7 (.str (X.env.qual ++ "<lambda>") t)->Q (.ref f) s'):f9 (h8 X.prog X.w) A (eval (.Lambda params body scope pos) X.env) Q E s:=by
 have L:s.heap.get? P=a7 (tabObj #[]):=I.hok P _ r;have hg:s.heap.Ns d9 X.mg:=I.mod.glob.keeps I.bk;have N:∀b o,X.base.get? b=a7 o->b≠P:=λb o e z=>by have:=(I.bs b o e).2;rw[z,r]at this;cases this
 obtain⟨W,ob,R,T,U,G,V⟩:=B;have y:d9≠P:=by obtain⟨o,es,ep,e,_⟩:=I.mod.glob;exact N _ _ e
 refine kla_eval k<|kla_makeFunction x I.ok.glob hg g (C _ I.kIn) L trivial rfl y ⟨W,ob,R,T,U,N _ _ G,I.bk _ _ G,V⟩ λc' ctv h' tk hx d D m i=>?_;obtain⟨c2,oc,vs,t,Z,S,M,hv⟩:=m;cases Z;have O:P≠h'.objs.size:=λz=>by rw[z]at i;exact o5 (v9 i)<|D4 _
 have hs:s.heap.objs.size<=h'.objs.size:=C7 d<|NR D;have J:q9 X pins σ (v6 H P<|.tbl<|#[] ++ #[j4 pos.line,j4 pos.col,.ref c']) { s with heap:=h'.push<|kla_obj "<lambda>" (X.env.qual ++ "<lambda>") params body scope [] ((X.mg "__name__").getD .none) c' ctv,toks:=tk }:=by exact I.writeB r (λb u j e=>v7 _<|hx b u j e)<|v7 _ i
 have a:∀b,s.heap.objs.size<=b->b≠P->v6 H P (.tbl<|#[] ++ #[j4 pos.line,j4 pos.col,.ref c']) b=a8/\b≠X.env.locals/\b∉X.fs:=λb j hn=>by refine⟨by rw[ag hn];exact I.hok.fresh j,λz=>?_,I.nofs j⟩;rw[z]at j;exact o5 (Fn I.lt j)<|D4 _
 have Y:c'≠P:=λz=>by rw[z]at d;exact o5 (Fn (v9 L) d)<|D4 _
 refine h h'.objs.size c' oc vs t ctv _ _ (J.pins_of λp l=>?_) M hv;rcases x6.mp l with rfl|l;obtain⟨F,n,q⟩:=a h'.objs.size hs<|w9 O;exact⟨z0 _ rfl,F,n,q,λv z=>by cases z⟩;rcases x6.mp l with rfl|l;obtain⟨F,n,q⟩:=a c' d Y;exact⟨v7 _ S,F,n,q,λv z=>by rw[M]at z;cases z⟩;exact J.pin p<|F4 _ l
end
noncomputable def lamB(c:f7)(y:c6):Bool:=decide (c.kind=.function) && !c.isCoroutine && !c.isGenerator&&decide (c.names.lookup y=a7 .local)&&c.names.all λp=>decide<|p.2≠.free
theorem AG(h:lamB sc y=a9):FnScope [y] [y] sc:=by
 simp only[lamB,D3,o6,Pm,E9]at h;obtain⟨⟨⟨⟨h1,h2⟩,a⟩,f⟩,k⟩:=h;refine⟨h1,h2,a,LX.mpr ⟨L6,NW⟩,rfl,λx c=>?_,λp b=>k p b⟩;obtain rfl:x=y:=by simpa using c
 exact .inl f
def ma(x:c6)(N:List c6)(te:v5)(t:F7):v5:=λS M Q=>t S M λds c=>match ds with
 | [y]=>∃q xs l,c[q]?=a7 (.tb x bt)/\(y=.tup xs\/∃n,y=.ref n/\ar (c.set q<|.tb x a9) n xs)/\(∀d∈xs,te (cN N [d]) (c.set q<|.tb x a9)<|bc (c.set q<|.tb x a9) λz e=>z=l d/\e=c.set q (.tb x a9))/\SrtG (c.set q<|.tb x a9) (xs.map l) /\∀ys,ys.Perm xs->ys.Pairwise (λa b=>B8 (c.set q<|.tb x a9) t9 (l b) (l a)=bt)->Q (.ref c.length) (c.set q (.tb x a9)++[.lst ys])
 |_=>False
theorem AS(Sf:Self X x)(B:BMain X.mg X.base)(hr:Room (k+3) X.A)(he:HA X [e] t)(hm:X.mg "sorted" = a8)(ai:∀(s:f6) (H:Hp) (f:c9) (cdv:c5) (A:e9) (outer:List Env) (E:XK),Room k (A.deeper<|k8 (X.env.qual ++ "<lambda>") scope s.heap.objs.size f cdv)->HE (tO F8 X.prog X.w X.K X.mg X.base [y] (X.env.qual ++ "<lambda>") scope f cdv A outer s H E).nox body te)(Sc:FnScope [y] [y] scope) (aj:closureFor scope X.env=pure []) (P:defaultsOf params X.env=([],[]))(hb:∀(pm ctv:c5) (c':c9) (u:c5),bindArgs (kla_fn "<lambda>" (X.env.qual ++ "<lambda>") params body scope [] pm (.ref c') ctv) ⟨[u],[]⟩=pure [(y,u)])(al:X.env.kindOf "sorted" = a7 .globalImplicit:=by kernel_rfl) (hs:i5 [e] X.env=[(bt,eval e X.env)]:=by kernel_rfl):HE X (.Call (.Name "sorted" p) [e] [⟨a7 "key",.Lambda params body scope lpos,kpos⟩] pos) (ma x [y] te t):=by
 refine⟨λg s σ H R I h=>?_⟩;obtain⟨S,M,ρ,Q,sm,sr,q,kk⟩:=h;refine Oc (iq I al hm tY ?_ (by decide)<|by decide);unfold ma at q;refine callWith_kw (v4 (he.ok pos g s σ H (λvs H1=>AQ X.K ρ H _ vs H1) I ⟨S,M,ρ,_,sm,sr,q,λ_ _ z=>z⟩) ?_) (by rw[hs];rfl) (by rw[hs];rfl);rintro us s1 ⟨vs,H1,I1,r1,T⟩;obtain⟨ds,M1,as,V,g1,rs,T⟩:=T;split at T;rename_i y0;obtain⟨qn,xs,L,hq,hx,hP,so,O⟩:=T;obtain⟨v1,_,rfl,rx,rs⟩:=Reps.inv_cons rs;obtain rfl:=Reps.inv_nil rs;obtain⟨u,rfl,Z⟩:=av.one r1;obtain⟨Pa,ep,mo⟩:=V.get hq;obtain⟨⟨c,tc,C⟩,ps,hH,h0⟩:=mo;obtain rfl:=h0 rfl;refine kws_cons<|Do I1 hH C (Sf.code I1 tc) B aj P λf c' oc vs t' ctv ps' s2 N hd hv=>kws_nil ?_;obtain⟨i,Y⟩:=V.writeB (ps':=ps') ep hq hH;show f9 _ _ (call (.builtin "sorted") [u] [(AA0 "key",.ref f)]) _ _ _;have an:=so.len;rw[u6]at an;have F:Room (k+1+2) X.A:=hr;generalize v6 H1 Pa (.tbl ps')=H2 at i Y N;have ml:(M1.set qn<|.tb x a9).length=M1.length:=J7 ..;generalize M1.set qn (.tb x a9)=W at i hP so O hx ml;have G:KeyG X ((f,kla_obj "<lambda>" (X.env.qual ++ "<lambda>") params body scope [] ((X.mg "__name__").getD .none) c' ctv)::(c',oc)::g) σ as W f L xs:=λs H d v u hm I sm r Z=>by have p1:=(I.pin _<|F4 _ C1).1;have p2:=(I.pin (c',oc)<|F4 _<|A6 _ C1).1;exact GD (k:=k) I.env0.in1.in1 p1 ⟨c',oc,vs,t',rfl,p2,hd,hv⟩ Sc (Room.in1 (k:=k+2) F).in1 (.of_eq<|hb _ _ _ _) rfl (λE hr=>(ai s H f _ _ _ E hr).ok) sm r Z<|hP d hm
 have j:∀{v:c5}{s':f6},EP X ((f,kla_obj "<lambda>" (X.env.qual ++ "<lambda>") params body scope [] ((X.mg "__name__").getD .none) c' ctv)::(c',oc)::g) σ R v s'->EP X g σ R v s':=λ{v s'} ⟨v',H',J,rv,q⟩=>⟨v',H',J.pins_of λp hp=>J.pin p<|F4 _<|A6 _<|A6 _ hp,rv,q⟩
 have l:∀ys,ys.Perm xs->ys.Pairwise (λa b=>B8 W t9 (L b) (L a)=bt)->Q (.ref W.length) (W++[.lst ys]):=λys h1 h2=>by rw[ml];exact O ys h1 h2
 rcases hx with rfl|⟨n,rfl,hL⟩
 obtain⟨a,vs,rfl,D,r⟩:=u3.inv_tup<|rx.grow Y;cases Z;obtain⟨its,U,⟨o,ho,hc,n,m⟩,_⟩:=N.tuple D;have h1:=r.length;have h2:=U.length;exact E7 (wI G F N i r U ho (.inr hc) m (by lia) so λv H' z=>kk v H'<|VQ.trans g1<|VQ.trans Y<|z Q l) (λ_ _ z=>j z) λ_ _ z=>z;obtain⟨a,rfl,en⟩:=u3.inv_ref rx;cases Z;obtain⟨vs,D,r⟩:=ar.seq i hL en;obtain⟨its,U,⟨o,n,ho,hc,_,m⟩,_⟩:=N.list D;have h1:=r.length;have h2:=U.length;exact E7 (wI G F N i r U ho (.inl hc) m (by lia) so λv H' z=>kk v H'<|VQ.trans g1<|VQ.trans Y<|z Q l) (λ_ _ z=>j z) λ_ _ z=>z;exact T.elim
section
variable{P:c8}{w:c7}{K:u4}{mg:c6->Option c5}{base:d6}{x:c6}{st:i6}{N ps:List c6}{k:Nat}{Pr:w6}{B:List c6}{C:List (c6×Int)}{t:s9}
abbrev DerL(P:c8)(w:c7)(K:u4)(mg:c6->Option c5)(base:d6)(k:Nat)(x:c6)(N:List c6)(st:i6)(t:s9):Prop:=∀(f:c9) (cdv:c5) (A:e9) (outer:List Env) (s:f6) (H:Hp) (E:XK),Room k (A.deeper<|PyProof.Rows.envOfC x (au st) s.heap.objs.size f cdv)->Self (tO F8 P w K mg base N x (au st) f cdv A outer s H E).nox x->HB (tO F8 P w K mg base N x (au st) f cdv A outer s H E).nox (bU st) t
theorem u9.byL(T:TopB mg B C)(F:cu K mg x st ps)(u:FnScope N ps (au st))(n:cI Pr ps)(g:TopB mg B C->N.Nodup->DerL P w K mg base k x N st t)(X:∀ds M R,Pr ds M R->t (EE M R) (cN N ds) M):u9 P w K mg base (k+1) x ps Pr:=by obtain⟨f,L,p,y,O⟩:=F;refine⟨f,L,?_,y,p.kp,O⟩;obtain⟨oc,W,kV,J,pm,Y,e,Z,G,rfl,I,l⟩:=p.ex;refine KN I l u (λvs H Q E ⟨ds,M,ρ,R,s,r,q,_⟩=>by rw[<-r.length];exact n ds M R q) λA o s H vs Q E U h=>?_;obtain⟨ds,M,ρ,R,m,r,q,D⟩:=h;have V:=g T u.nd f e A o s H E U ⟨f,oc,W,_,G,y,I,rfl⟩;refine⟨lowS K t,J3.nox V.ok,cN N ds,M,ρ,_,m,SRep.start r N,X ds M R q,⟨λc H' ⟨S,d,a,s',i,b,j⟩=>?_,λv H' z=>D v H'<|VQ.endq m z,λc H' ⟨S,d,a,s',i,b,j⟩=>j.elim,λc H' ⟨S,d,a,s',i,b,j⟩=>j.elim⟩⟩;exact D .non H'<|VQ.endq m ⟨.non,d,a,s',i,.non,j⟩
end
def yi(z:c6):w6:=λds M R=>∃(ns:List Int) (m:MO),ns.length<=63/\(m.items=ns.map D.int/\m.isL=a9)/\ds=[.ref 0]/\M=[m,.tb z bt]/\∀a,R (.bl a9) a
theorem va{K:u4}{H:Hp}{a t c:c9}{z:c6}{ns:List Int}(l:ns.length<=63)(S:I0 K H a (ns.map V.int))(B:H t=a7 (.tbl #[]))(k:tabIn K z=a7 (c,t))(C:∀h:d6,K.In h->CodeHd h c t)(F:a≠t):MG K (yi z) [.ref a] H (λv _=>v=.bl a9) λ_ _ _=>False:=by
 have f:∀{mo:MO},mo.items=ns.map D.int/\mo.isL=a9->yL K [a,t] H a mo->MG K (yi z) [.ref a] H (λv _=>v=.bl a9) λ_ _ _=>False:=λ{mo} e ok=>by
  refine⟨[.ref 0],[mo,.tb z bt],[a,t],λd _=>d=.bl a9,⟨λn m b g e1 e2=>?_,rfl,λn b i e1 e2=>?_⟩,.cons (.ref rfl) .nil,⟨ns,mo,l,e,rfl,rfl,λ_=>rfl⟩,λv H' ⟨d,M,p,_,_,r,q⟩=>?_⟩
  match n,m,e1,e2 with
  | 0,0,_,_=>exact o5 rfl g
  | 1,1,_,_=>exact o5 rfl g
  | 0,1,e1,e2=>simp at e1 e2;exact o5 (e1.trans e2.symm) F
  | 1,0,e1,e2=>simp at e1 e2;exact o5 (e2.trans e1.symm) F
  |n+2,_,e1,_=>simp at e1
  |_,m+2,_,e2=>simp at e2
  match n,e1,e2 with
  | 0,e1,e2=>simp at e1 e2;subst e1 e2;exact ok
  | 1,e1,e2=>simp at e1 e2;subst e1 e2;exact⟨⟨c,k,C⟩,#[],B,λ_=>rfl⟩
  |n+2,e1,_=>simp at e1
  have j:d=.bl a9:=q;subst j;obtain rfl:=u3.inv_bl r;rfl
 rcases S with(h|⟨o,h⟩)|h;exact f (mo:=.lst _) ⟨rfl,rfl⟩ ⟨_,h,jG ns⟩;exact f (mo:=.fz _) ⟨rfl,rfl⟩ ⟨o,_,h,jG ns⟩;exact f (mo:=.kl _) ⟨rfl,rfl⟩ ⟨_,h,jG ns⟩
theorem AF{P:c8}{w:c7}{K:u4}{mg mb:c6->Option c5}{k:Nat}{S a t:c9}{fd:k4}{x:c6}{sp:Sp}{s₁:f6}{vs:List c5}{ns:List Int}(X:K.In s₁.heap) (L:s₁.heap.Ns d9 mg) (c:s₁.heap.Ns builtinsNs mb) (U:∀x:c6,x≠"__name__"->mb x=e8 x) (J:s₁.heap.NoLimit) (hg:s₁.gens = #[])(A:s₁.heap.get? a=a7 { cls:=.type "list",data:=.seq vs.toArray }) (hi:IntsAre vs ns) (hl:ns.length<=sizeLine) (hr:Room k callerA) (nt:noTabs K=a9) (B:s₁.heap.get? t=a7 (tabObj #[])) (Z:isCodeTable s₁.heap t) (BM:BMain mg s₁.heap)(F:∀base:d6,K.In base->base.Ns d9 mg->BMain mg base->FnOk P w K mg base F8 k S fd [x] sp) (p:∀(s:f6) (u:c5),BindsTo s fd ⟨[u],[]⟩ [(x,u)])(Y:∀H:Hp,I0 K H a (ns.map V.int)->H t=a7 (.tbl #[])->sp [.ref a] H (λv _=>v=.bl a9) λ_ _ _=>False):k5 (h8 P w) callerA (.call (.ref S) ⟨[.ref a],[]⟩) (λr s'=>r=.ok (.ret<|.bool a9)/\OldK s₁.heap s'.heap/\s'.os=s₁.os/\f8 s'.gens) s₁:=by
 have rv:=qT hi;have N:=hi.length;have aP:a≠t:=λe=>by rw[e,B]at A;cases A
 have i:∀H:Hp,(∀b,b≠t->H b=a8\/∃o xs,H b=a7 (.frz o<|.lst xs))->I0 K H a (ns.map V.int)->H t=a7 (.tbl #[])->D0 P w H s₁.heap->(∀b,H b≠a8->b=a\/b=t)->(H a≠a8->K.lookup a=a8) -> k5 (h8 P w) callerA (.call (.ref S) ⟨[.ref a],[]⟩) (λr s'=>r=.ok (.ret<|.bool a9)/\OldK s₁.heap s'.heap/\s'.os=s₁.os/\f8 s'.gens) s₁:=by
  intro H hO hS hT M hA hK;have f:∀{b:c9}{o:d5},s₁.heap.get? b=a7 o->H b=a8->(BR s₁.heap H).get? b=a7 o:=λe n=>DJ e n;have O:∀{b:c9}{o:d5},s₁.heap.get? b=a7 o->o.cls≠.type "list"\/(∀v n,o.data≠.seq v n)->o≠tabObj #[]->H b=a8:=λ{b o} e E d2=>by
   cases q:H b with
   |none=>rfl
   |some u=>rcases hA b (by rw[q];simp)with e'|e';subst e';rw[A]at e;cases e;rcases E with E|E;exact o5 rfl E;exact o5 rfl<|E _ _;subst e';rw[B]at e;cases e;exact o5 rfl d2
  have g:∀{b:c9}{m:c6->Option c5},s₁.heap.Ns b m->(BR s₁.heap H).Ns b m:=λ{b m} ⟨o,es,ep,e,d,r⟩=>⟨o,es,ep,f e (O e (.inr λv n z=>by rw[d]at z;cases z) λz=>by rw[z]at d;cases d),d,r⟩
  have G:K.In (BR s₁.heap H):=λb o e=>f (X b o e) (by
   cases q:H b with
   |none=>rfl
   |some u=>rcases hA b (by rw[q];simp)with e'|e';subst e';rw[hK<|by rw[q];simp]at e;cases e;subst e';have h2:=E9.mp nt (b,o)<|mem_of_lookupK e;have h3:=X b o e;rw[B]at h3;cases h3;exact o5 (show bt=a9 from h2) MF)
  have hM:Mod K mg (BR s₁.heap H):=⟨G,g L,⟨mb,g c,U⟩,let ⟨mc,h1,h2⟩:=J;⟨mc,g h1,h2⟩⟩
  have e0:Env0 P w K mg (BR s₁.heap H) callerA [] s₁ H:=⟨rfl,hM,λb o e=>Gq e,Nat.le_of_eq<|Be _ _,trivial,λb c=>o5 (show b∈([]:List c9)from c) (by simp),M,.of_eq hg⟩
  have R:BMain mg (BR s₁.heap H):=by obtain⟨R,ob,b1,b2,b3,b4,C,b6⟩:=BM;exact⟨R,ob,b1,b2,b3,f b4 (O b4 (.inl λz=>by rw[z]at C;injection C with h;exact o5 h<|by decide) λz=>by rw[z]at C;cases C),C,b6⟩
  refine NP ((F _ G (g L) R).run callerA [] s₁ H ⟨[.ref a],[]⟩ [.ref a] [.ref a] _ _ hr e0 (p s₁<|.ref a) (.cons rfl .nil)<|Y H hS hT) λr s' h=>?_;cases r with
  |error e=>exact h.elim
  |ok fl =>
   cases fl with
   |next=>exact MM h
   |brk=>exact MM h
   |cont=>exact MM h
   |ret u =>
    obtain⟨v,H',os,D,un,j,r',q⟩:=h;have q':v=.bl a9:=q;subst q';obtain rfl:u=Oq a9:=r';obtain⟨l,T⟩:=un.tbls t _ hT;have I:s'.heap.get? t=a7 (tabObj<|#[]++l):=j t _ T;have Q:∀b o,b≠t->s₁.heap.get? b=a7 o->s'.heap.get? b=a7 o:=λb o c e=>by
     cases q:H b with
     |none=>exact un.keep b o e q (by intro z;exact o5 (show b∈([]:List c9)from z)<|by simp)<|by simp
     |some u =>
      rcases hO b c with z|⟨ob,xs,z⟩
      rw[q]at z;cases z;have z2:=un.frzs b ob _ z;obtain⟨e1,_⟩:=M b _ z;obtain⟨e2,_⟩:=j b _ z2;rw[e]at e1;cases e1;exact e2
    refine⟨rfl,⟨λb o e=>?_,λb o e=>?_⟩,os,D⟩;by_cases c:b=t;subst c;rw[B]at e;cases e;exact .inr<|.inl ⟨Z,rfl,#[],l,rfl,I⟩;exact .inl<|Q b o c e;by_cases c:b=t;subst c;exact⟨_,I⟩;exact⟨o,Q b o c e⟩
 cases W:K.lookup a with
 |some o=>have e:=X a o W;rw[A]at e;cases e;refine i (v6 (λ_=>a8) t<|.tbl #[]) (λb c=>.inl<|ag c) (.inr ⟨_,vs.toArray,_,W,rfl,rfl,rfl,by rw[y4,N];exact hl,by simpa using rv⟩) aK (λb u z=>?_) (λb z=>?_) λz=>o5 (ag aP) z;by_cases c:b=t;subst c;rw[aK]at z;cases z;exact B;rw[ag c]at z;cases z;by_cases c:b=t;exact .inr c;exact o5 (ag c) z
 |none=>refine i (v6 (λb=>if b=a then a7 (.frz { cls:=.type "list",data:=.seq vs.toArray }<|.lst<|ns.map V.int)else a8) t<|.tbl #[]) (λb y=>?_) (.inl<|.inr ⟨{ cls:=.type "list",data:=.seq vs.toArray },(ag aP).trans<|o0 rfl⟩) aK (λb u z=>?_) (λb z=>?_) λ_=>W;rw[ag y];by_cases c:b=a;exact .inr ⟨_,_,o0 c⟩;exact .inl<|o4 c;by_cases y:b=t;subst y;rw[aK]at z;cases z;exact B;rw[ag y]at z;by_cases c:b=a;have z':=(o0 c).symm.trans z;cases z';subst c;exact⟨A,by rw[u6];exact hl,vs,_,rv,A⟩;have z':=(o4 c).symm.trans z;cases z';by_cases y:b=t;exact .inr y;rw[ag y]at z;by_cases c:b=a;exact .inl c;exact o5 (o4 c) z
theorem Cj{K:u4}{x:c6}{c P:c9}(h:tabIn K x=a7 (c,P)):∃o,K.lookup c=a7 o:=by unfold tabIn at h;split at h;split at h;split at h;rename_i U _;split at h;rename_i e;split at h;cases h;exact⟨_,e⟩;cases h;cases h;cases h;cases h;cases h
theorem law_walkL{l:PySem.W.OpenLaw}{q:c8}{m:List c6}{XP:(c6->Option c5)->d6->Prop}{YP:c7->d6->Prop}{d dz:DefRec}{K:Params->u4}{k:Nat}{st:i6}{x z:c6}{cz P:Params->c9}(hn:l.most=a7 63)(O:d.params.defaults=[])(hd:d.name = "law")(hr:Room k callerA)(hY:∀(w:c7) (h:d6),YP w h->(K w.params).In h) (nt:∀p,noTabs (K p)=a9) (hz:(recsOf q).find? (λe=>e.name==z)=a7 dz) (S:∀p,tabIn (K p) z=a7 (cz p,P p))(F:∀(w:c7) (mg:c6->Option c5) (h:d6),(K w.params).In h->h.Ns d9 mg->cu (K w.params) mg "law" st [x] /\ ∀(base:d6) (f:c9) (fd:k4),BMain mg base->Mw (K w.params) "law" "law" st f fd->FnOk l.prog w (K w.params) mg base F8 k f fd [x] (MG (K w.params)<|yi z))(hb:∀(kV doc pm:c5) (an:Option c9) (cdv ct:c5) (u:c5),bindArgs (Nf "law" "law" (iX st) (bU st) (au st) .none kV doc pm an cdv ct) ⟨[u],[]⟩=pure [(x,u)]):PySem.W.WalkO q m XP YP l.row.toRowW d [] (λf vs=>PySem.call f vs):=by
 refine Att.attach_call hn O λw aj s₁ mg mb fa o pm cd doc a vs ns G Y ho as al D j i n hg=>?_;have I:=hY w _ Y;rw[hd]at D;obtain⟨⟨f,fd,Z,hm,_⟩,C⟩:=F w mg _ I G.T.g;have e:=D.symm.trans hm;cases e;obtain⟨V,N⟩:=tab_of G.T I hz<|S w.params;obtain⟨aD,A⟩:=Cj<|S w.params;have CK:∀h:d6,(K w.params).In h->CodeHd h (cz w.params) (P w.params):=λh X=>by obtain⟨o2,U,y,tf,c,tg,Q,E,tt,e1,r⟩:=V;have e2:=I _ _ A;rw[e1]at e2;cases e2;exact⟨_,U,y,tf,c,tg,Q,E,tt,X _ _ A,r⟩
 have M:BMain mg s₁.heap:=by obtain⟨bm,ob,b1,b2,J,b4,b5,L⟩:=G.T.bmain;refine⟨bm,ob,b1,b2,λz=>?_,J,b4,b5,L⟩;obtain⟨og,es,ep,eg,dg,_⟩:=G.T.g;rw[z,eg]at J;cases J;rw[dg]at L;cases L
 have aP:a≠P w.params:=λe=>by rw[e,N]at j;cases j
 obtain⟨oc,od,kV,t,R,an,cdv,ct,aS,rfl,lk,ai⟩:=id Z.ex;exact AF I G.T.g G.T.b G.T.builtins G.T.nolimit hg j i (C7 n<|by decide) hr (nt _) N (V.tab N).isCodeTable M (λbase _ _ B=>C base _ _ B Z) (λs v=>.of_eq<|hb kV t R an cdv ct v) λH hS hT=>va n hS hT (S w.params) CK aP
end L2
namespace L2
open PySem PySem.Spec PyProof.Rows DL
def GtAt(A:e9)(s:f6)(x y:c5)(k:Bool):Prop:=∀(g:c8) (w:c7) (E:c5->f6->Prop) (Q:c5->f6->Prop),Q (.bool k) s->f9 (h8 g w) A (richCompare .Gt x y) Q E s
inductive GexAt(A:e9)(s:f6):List c5->List c5->Bool->Prop
 |nn:GexAt A s [] [] bt
 |nc {y:c5}{ys:List c5}:GexAt A s [] (y::ys) bt
 |cn {x:c5}{xs:List c5}:GexAt A s (x::xs) [] a9
 |eq {x y:c5}{xs ys:List c5}{k:Bool} (h:Ml A s x y a9) (t:GexAt A s xs ys k):GexAt A s (x::xs) (y::ys) k
 |ne {x y:c5}{xs ys:List c5}{k:Bool} (h:Ml A s x y bt) (t:GtAt A s x y k):GexAt A s (x::xs) (y::ys) k
section
variable{prog:c8}{w:c7}{A:e9}{E:c5->f6->Prop}{s:f6}{d:c9}{o:d5}{es:Array m7}{ep:Nat}{xs:List (D×c5×c5)}{k:D}{key:c5}{hs:D->Int}{Q:Option Nat->f6->Prop}
noncomputable def pM(es:Array m7)(h:Int)(i:Nat):Bool:=(es[i]?.map (·.hash))==a7 h
end
end L2
namespace LW
open PySem L2
local macro_rules | `(tactic| walk_at"sc")=>`(tactic| exact⟨rfl,rfl,rfl,by decide +kernel,rfl,by decide +kernel,by decide +kernel⟩)
local macro_rules | `(tactic| walk_at"dl")=>`(tactic| simp only[EE,ax,A0,Bs,vE,Mh,aq,t6,aa,af,aX,tN,Ir,El,dIfE,E5,vD,bV,ah,bp,bb,fI,lC,r9,OR,tM,dC,ab,eG,ko,Mg,gx,fH,OS,K2,dZ,qz,ER,qAdd,bn,Jc,pR,uD,zP,Il,Nm,Oj,Na,ON,lp,A2,NJ,FN,lJ,Io,u7,PK,bC,Iu,Ei,jV,aT,jW,dZip,dMl0,jI,mT,jH,Em,En,jX,tK,lT,tJ,Nb,ij,lB,tI,jZ,Im,xq,zQ,Ik,ku,ma,xp,HM,iD,sf,SqAt,FM,pF,OU,Mt,NK,mS,se,K9,RB,cN,Lm,C0,O7,Qa,G6,List.getElem?_cons_zero,Rh,C4,C8,List.replicate_zero,List.replicate_succ,List.set_cons_zero,List.set_cons_succ,Nr,Nat.reduceAdd,Nat.reduceSub,Option.join_some,p6,p5,A9])
noncomputable def top(i:Nat):i6:=PySem.Challenge.pw_talkmarks_k50_bells_due.main.body.getD i<|.Pass ⟨0,0,0,0⟩
noncomputable abbrev B_:List c6:=["len","any","dict","sorted","set","range","tuple","list","max","isinstance","zip","str"]
noncomputable abbrev C_:List (c6×Int):=[]
noncomputable abbrev iI:List c6:=["sign"]
noncomputable abbrev cb:List c6:=["text","name"]
noncomputable abbrev kC:List c6:=["saying","name"]
noncomputable abbrev kA:List c6:=["house","name"]
noncomputable abbrev gh:List c6:=["house","room"]
noncomputable abbrev kz:List c6:=["deed"]
noncomputable abbrev iG:List c6:=["deed"]
noncomputable abbrev iH:List c6:=["deed","vector"]
noncomputable abbrev dw:List c6:=["log","kind"]
noncomputable abbrev kD:List c6:=["log","kind","name"]
noncomputable abbrev fq:List c6:=["log","kind","name"]
noncomputable abbrev iJ:List c6:=["log","name"]
noncomputable abbrev mY:List c6:=["say"]
noncomputable abbrev kw:List c6:=["say"]
noncomputable abbrev iL:List c6:=["house","say","elders"]
noncomputable abbrev cC:List c6:=["house","log"]
noncomputable abbrev dY:List c6:=["deed","says"]
noncomputable abbrev fj:List c6:=["log","kind","says"]
noncomputable abbrev dW:List c6:=["log","says"]
noncomputable abbrev bQ:List c6:=["log","says"]
noncomputable abbrev gf:List c6:=["say","changes"]
noncomputable abbrev gc:List c6:=["house","log"]
noncomputable abbrev fu:List c6:=["house","log"]
noncomputable abbrev cy:List c6:=["log","name"]
noncomputable abbrev mZ:List c6:=["say","name","vectors","seen"]
noncomputable abbrev cA:List c6:=["house","log","name"]
noncomputable abbrev du:List c6:=["says","hushes"]
noncomputable abbrev iF:List c6:=["says","name"]
noncomputable abbrev kE:List c6:=["message","rooms","rung","hushes"]
noncomputable abbrev pX:List c6:=["message","name","own","quiet"]
noncomputable abbrev iM:List c6:=["house","log","name"]
noncomputable abbrev nb:List c6:=["_law_script","_law_k"]
noncomputable abbrev qc:List c6:=["_law_cell"]
noncomputable abbrev zZ:List c6:=["_law_held","_law_many"]
noncomputable abbrev Ae:List c6:=["_law_held"]
noncomputable abbrev uF:List c6:=["_law_held","_law_many"]
noncomputable abbrev uG:List c6:=["_law_cell"]
noncomputable abbrev pZ:List c6:=["_law_held","_law_names_here"]
noncomputable abbrev Ad:List c6:=["_law_held","_law_hands_here","_law_says"]
noncomputable abbrev pY:List c6:=["_law_held","_law_hands_here","_law_done"]
noncomputable abbrev zY:List c6:=["_law_held","_law_house_here","_law_hands_here","_law_says"]
noncomputable abbrev Gh:List c6:=["_law_held","_law_house_here","_law_hands_here","_law_says","_law_done"]
noncomputable abbrev uH:List c6:=["_law_house_here"]
noncomputable abbrev Gf:List c6:=["_law_cells","_law_house_here"]
noncomputable abbrev Ab:List c6:=["_law_log_here"]
noncomputable abbrev uE:List c6:=["_law_log_here","_law_name_here"]
noncomputable abbrev Ac:List c6:=["_law_log_here","_law_name_here","_law_message","_law_vectors","_law_seen"]
noncomputable abbrev kB:List c6:=["_law_saying_here","_law_name_here"]
noncomputable abbrev Ge:List c6:=["_law_said_here","_law_message","_law_name_here","_law_hushed"]
noncomputable abbrev iK:List c6:=["_law_house_here","_law_log_here","_law_name_here","_law_messages"]
noncomputable abbrev Aa:List c6:=["_law_told","_law_due"]
noncomputable abbrev Gg:List c6:=["_law_script"]
structure Tops(P:c8)(w:c7)(K:u4)(mg:c6->Option c5)(base:d6):Prop where
 f_is_letter:cu K mg "is_letter" (top 4) iI
 f_begins_with_name:cu K mg "begins_with_name" (top 5) cb
 f_is_named:cu K mg "is_named" (top 6) kC
 f_rooms_of:cu K mg "rooms_of" (top 8) kA
 f_members_of:cu K mg "members_of" (top 9) gh
 f_stamp_of:cu K mg "stamp_of" (top 11) kz
 f_person_of:cu K mg "person_of" (top 12) iG
 f_is_within:cu K mg "is_within" (top 13) iH
 f_deeds_of_kind:cu K mg "deeds_of_kind" (top 15) dw
 f_deeds_by:cu K mg "deeds_by" (top 16) kD
 f_stamps_told:cu K mg "stamps_told" (top 17) fq
 f_hushes_of:cu K mg "hushes_of" (top 19) iJ
 f_room_of:cu K mg "room_of" (top 21) mY
 f_under_of:cu K mg "under_of" (top 22) kw
 f_can_stand:cu K mg "can_stand" (top 23) iL
 f_says_that_count:cu K mg "says_that_count" (top 24) cC
 f_is_by_writer:cu K mg "is_by_writer" (top 25) dY
 f_writers_own:cu K mg "writers_own" (top 26) fj
 f_last_changes:cu K mg "last_changes" (top 27) dW
 f_stamps_taken_back:cu K mg "stamps_taken_back" (top 28) bQ
 f_message_of:cu K mg "message_of" (top 29) gf
 f_says_shown:cu K mg "says_shown" (top 30) gc
 f_messages_of:cu K mg "messages_of" (top 31) fu
 f_vectors_by_room:cu K mg "vectors_by_room" (top 33) cy
 f_is_read:cu K mg "is_read" (top 34) mZ
 f_unread_messages:cu K mg "unread_messages" (top 35) cA
 f_stamps_hushed:cu K mg "stamps_hushed" (top 37) du
 f_stamps_by:cu K mg "stamps_by" (top 38) iF
 f_can_ring:cu K mg "can_ring" (top 39) kE
 f_why_of:cu K mg "why_of" (top 40) pX
 f_bells_for:cu K mg "bells_for" (top 41) iM
 f_cell_at:cu K mg "_law_cell_at" (top 43) nb
 f_digits:cu K mg "_law_digits" (top 44) qc
 f_take:cu K mg "_law_take" (top 45) zZ
 f_name:cu K mg "_law_name" (top 46) Ae
 f_names:cu K mg "_law_names" (top 47) uF
 f_house:cu K mg "_law_house" (top 48) uG
 f_saying:cu K mg "_law_saying" (top 49) pZ
 f_pick:cu K mg "_law_pick" (top 50) Ad
 f_vector:cu K mg "_law_vector" (top 51) pY
 f_what:cu K mg "_law_what" (top 52) zY
 f_act:cu K mg "_law_act" (top 53) Gh
 f_hands:cu K mg "_law_hands" (top 54) uH
 f_log:cu K mg "_law_log" (top 55) Gf
 f_said:cu K mg "_law_said" (top 56) Ab
 f_reads:cu K mg "_law_reads" (top 57) uE
 f_read:cu K mg "_law_read" (top 58) Ac
 f_names_in:cu K mg "_law_names_in" (top 59) kB
 f_why:cu K mg "_law_why" (top 60) Ge
 f_due_bells:cu K mg "_law_due_bells" (top 61) iK
 f_same:cu K mg "_law_same" (top 62) Aa
 f_law:cu K mg "law" (top 63) Gg
 b:TopB mg B_ C_
 bm:BMain mg base
local macro_rules | `(tactic| walk_at"bb")=>`(tactic| first|exact LC|exact Ie|exact qD|exact LB|exact Ic|exact LA|exact tY|exact Lz|exact Ex)
local macro_rules | `(tactic| walk_at"tb")=>`(tactic| exact TopB.no (by k_dflt assumption) (by kernel_rfl))
local macro_rules | `(tactic| walk_at"dvr")=>`(tactic| (repeat' (first|(with_reducible first|(refine gA ?_;first|exact Kk|refine GQ ?_ ?_)|exact k_var|(refine KK ?_;first|exact k_int|exact k_bl|exact k_non|exact k_str)|(refine gCall ?_;first|refine GV ?_ ?_|refine GU ?_ ?_|refine yn (by k_dflt assumption) ?_ (by walk_at"tb") (by walk_at"tb")|refine yo ?_ (by walk_at"tb")|refine AS (by k_dflt assumption) (by k_dflt assumption) (by k_dflt assumption) ?_ (by walk_at"tb") (λ_ _ _ _ _ _ _ _=>?_) (by k_dflt (exact AG (by kernel_rfl))) (by k_dflt kernel_rfl) (by k_dflt kernel_rfl) (by k_dflt (intro _ _ _ _;kernel_rfl))|refine GX ?_ (by walk_at"tb") (by walk_at"bb") ?_|refine Dx ?_ (by walk_at"tb") (by walk_at"bb") ?_|refine k_cal (by k_dflt assumption) (by k_dflt assumption) ?_|refine GR (by k_dflt assumption) ?_ ?_|refine k_ms ?_ ?_ ?_|refine k_ml ?_ ?_ ?_|refine k_ml0 ?_ ?_)|(refine gIx ?_;first|refine GS ?_ ?_ ?_|refine Kn (by k_dflt assumption) ?_ ?_ (hs:=by k_dflt (intro _ _;kernel_rfl))|refine Kp (by k_dflt assumption) ?_ ?_ (hs:=by k_dflt (intro _ _;kernel_rfl))|refine k_ix ?_ ?_ (hs:=by k_dflt (intro _ _;kernel_rfl)))|(refine gT ?_;first|refine JY ?_ ?_ ?_|refine JX ?_|refine kw_t (EX ?_ ?_)|refine kw_t (JV ?_ ?_)|refine JW ?_)|(refine gE ?_;first|exact Ko|exact Km|exact Kl (by walk_at"tb") (by walk_at"bb")|refine k_op ?_ ?_ ?_|refine k_un Ku ?_|refine k_not ?_|refine k_cmp ?_ ?_ ?_|refine GW ?_ ?_ ?_ ?_ ?_|refine k_one ?_|refine k_and ?_ ?_|refine k_or ?_ ?_|refine GT ?_ ?_ ?_|refine k_tup ?_|refine k_lst ?_|refine k_lcN ?_ (λ_ _ _ _=>?_) (λ_ _ _ _=>?_) (λ_ _ _ _=>?_))|(refine gS ?_;first|exact xa|refine AK ?_|refine Fb ?_|refine Kb ?_ ?_ ?_|refine sV (by k_dflt assumption) ?_ (λ_ _ _ _=>?_) (λ_ _ _ _=>?_) (λ_ _ _ _=>?_)|refine Fa (by k_dflt assumption) ?_|refine Fd ?_ ?_|refine AJ (by k_dflt assumption) ?_ ?_ ?_|refine Fc ?_ ?_ ?_|refine wZ ?_ ?_)|(refine gOp ?_;first|exact Hg|exact ho_eq (by k_dflt assumption)|exact Hf|exact ho_gt|exact ho_in (by k_dflt assumption)|exact KA (by k_dflt assumption)|exact ho_is|exact DC|exact ho_le|exact ho_lt|exact Kz|exact Ky|exact ho_ne (by k_dflt assumption)|exact DB (by k_dflt assumption)|exact Kx|exact Kw|exact Kv)|(refine gC ?_;first|exact KH|exact Bf (by k_dflt assumption)|exact DP (by k_dflt assumption)|exact DO (by k_dflt assumption)|exact KG|exact KF|exact Hi|exact yr (by k_dflt assumption)|exact DN)|exact Ka|exact GI|exact GM|exact GO|refine JZ ?_|refine EX ?_ ?_|refine JV ?_ ?_|refine GE ?_|refine JU ?_|refine GH ?_|refine GL ?_|refine AM (by walk_at"tb") ?_|refine AL (by walk_at"tb") ?_|refine Kc (by walk_at"tb") ?_|refine Dr ?_|refine Ds ?_|refine Kd ?_|exact GP (by k_dflt assumption)|exact Kg (JQ (by kernel_rfl))|refine Dt ?_ ?_|refine Ke ?_|refine Kf ?_ ?_|exact Bc|exact Bb|exact yq|exact DF|exact Ba)|refine GK ?_ ?_|refine AK ?_|refine Fb ?_|refine Kb ?_ ?_ ?_|refine sV (by k_dflt assumption) ?_ (λ_ _ _ _=>?_) (λ_ _ _ _=>?_) (λ_ _ _ _=>?_)|refine Fa (by k_dflt assumption) ?_|refine Fd ?_ ?_|refine AJ (by k_dflt assumption) ?_ ?_ ?_|refine Fc ?_ ?_ ?_|refine wZ ?_ ?_|exact xa)))
local macro_rules | `(tactic| walk_at"dv")=>`(tactic| (intro _ _ _ _ _ _ _ _ _ _;refine Bg rfl ?_;walk_at"dvr"))
local macro_rules | `(tactic| walk_at"dvl")=>`(tactic| (intro _ _ _ _ _ _ _ _ _ _ _;refine Bg rfl ?_;walk_at"dvr"))
section
variable{P:c8}{w:c7}{K:u4}{mg:c6->Option c5}{base:d6}
noncomputable def iE(p:c6×Int):D:=.tup [.str p.1,.int p.2]
def Hd(d:D):Prop:=∃(x:c6) (k:Int),d=.tup [.str x,.int k]
theorem KC(f:Hd a)(d:Hd b):t8 M (n+1) a b=a9↔a=b:=by obtain⟨x,k,rfl⟩:=f;obtain⟨y,l,rfl⟩:=d;show (t8 M n (.str x) (.str y)&&(t8 M n (.int k) (.int l)&&a9))=a9↔_;rw[aM,kN];simp
theorem KB(f:Hd a):u8 M t9 a=a9:=by obtain⟨x,k,rfl⟩:=f;rfl
theorem hd_key(f:Hd a):cT 8 a=a9:=by obtain⟨x,k,rfl⟩:=f;rfl
noncomputable def kj(hs:List (D×Int)):List D:=hs.map λp=>.tup [p.1,.int p.2]
noncomputable def cw(hs:List (D×Int))(d:D)(m:Int):Bool:=match hs.find? λp=>decide (p.1=d) with
 |some p=>decide<|m<p.2
 |none=>bt
noncomputable def QT:Nat->D->Bool
 |n+1,.tup xs=>xs.all<|QT n
 | 0,.tup _=>bt
 |_,.ref _=>bt
 |_,.ty _=>bt
 |_,_=>a9
def F5(n:Nat)(d:D):Prop:=QT n d=a9
def om(n:Nat)(ds:List D):Prop:=ds.all (QT n)=a9
theorem F5.non:F5 n .non:=by cases n<;>rfl
theorem F5.bl(b:Bool):F5 n (.bl b):=by cases n<;>rfl
theorem F5.int(i:Int):F5 n (.int i):=by cases n<;>rfl
theorem F5.str(x:c6):F5 n (.str x):=by cases n<;>rfl
theorem om.nil:om n []:=rfl
theorem om.cons(h:F5 n d)(t:om n ds):om n (d::ds):=by unfold om F5 at *;rw[L3,h,t];rfl
theorem F5.tup(h:om n ds):F5 (n+1) (.tup ds):=h
theorem om.of(h:∀d∈ds,F5 n d):om n ds:=E9.mpr h
theorem cx:∀(n:Nat) (d:D),F5 n d->B7 k d:=by
 intro n;induction n with
 |zero =>
  intro d h;cases d with
  |tup xs=>cases h
  |ref i=>cases h
  |ty t=>cases h
  |non=>exact .non
  |bl b=>exact .bl b
  |int i=>exact .int i
  |str x=>exact .str x
 |succ n c =>
  intro d h;cases d with
  |tup xs=>exact .tup<|Bels.of λx a=>c x<|E9.mp h x a
  |ref i=>cases h
  |ty t=>cases h
  |non=>exact .non
  |bl b=>exact .bl b
  |int i=>exact .int i
  |str x=>exact .str x
theorem xm:∀{xs:List D},(∀x∈xs,f x x=a9)->C3 f xs xs=a9
 | [],_=>rfl
 |x::xs,h=>by show (f x x&&C3 f xs xs)=a9;rw[h x (by simp),xm λy hy=>h y<|A6 _ hy];rfl
theorem lq:∀(n m:Nat) (d:D),n<=m->F5 n d->u8 M m d=a9/\t8 M m d d=a9:=by
 intro n;induction n with
 |zero =>
  intro m d _ h;cases d with
  |tup xs=>cases h
  |ref i=>cases h
  |ty t=>cases h
  |non=>exact⟨An,by cases m<;>rfl⟩
  |bl b=>exact⟨ES,by cases m<;>cases b<;>rfl⟩
  |int i=>exact⟨qf,by rw[kN];exact p8 i⟩
  |str x=>exact⟨ao,by rw[aM];exact p8 x⟩
 |succ n c =>
  intro m d e h;cases m with
  |zero=>lia
  |succ m =>
   cases d with
   |tup xs=>exact⟨Gp λx a=>(c m x (by lia)<|E9.mp h x a).1,xm λx a=>(c m x (by lia)<|E9.mp h x a).2⟩
   |ref i=>cases h
   |ty t=>cases h
   |non=>exact⟨An,rfl⟩
   |bl b=>exact⟨ES,by cases b<;>rfl⟩
   |int i=>exact⟨qf,by rw[kN];exact p8 i⟩
   |str x=>exact⟨ao,by rw[aM];exact p8 x⟩
theorem DM(h:Hd d):F5 (n+1) d:=by obtain⟨x,i,rfl⟩:=h;exact .tup<|.cons (.str _)<|.cons (.int _) .nil
theorem KD(h:Hd d):B7 k d:=cx 1 d<|DM h
def Deed(d:D):Prop:=∃(t:Int) (h:D) (m:Int) (a:D),d=.tup [.int t,h,.int m,a]/\Hd h/\F5 5 a
theorem HN(h:Deed d):F5 6 d:=by obtain⟨t,c,m,a,rfl,b,f⟩:=h;exact .tup<|.cons (.int _)<|.cons (DM b)<|.cons (.int _)<|.cons f .nil
theorem Ej(h:Deed d):B7 k d:=cx 6 d<|HN h
theorem Ll(h:∀d∈ds,Deed d):Bels k ds:=Bels.of λd a=>Ej<|h d a
noncomputable def Hj:D->D
 |.tup (_::h::_)=>h
 |_=>.non
noncomputable def EU:D->Int
 |.tup (_::_::.int n::_)=>n
 |_=>0
noncomputable def many(log:List D)(h:D):Nat:=(log.filter λd=>decide<|Hj d=h).length
theorem jR:ba (ik kvs k d) k=a7 d:=by
 unfold ik;split;rename_i hs;unfold ba at hs ⊢;rw[Option.isSome_map]at hs;obtain⟨q,h⟩:=Rs.mp hs;rw[PY];have e:((λp:D×D=>decide<|p.1=k) ∘ λp:D×D=>if p.1=k then(p.1,d)else p)=λp=>decide (p.1=k):=by funext p;show decide ((if p.1=k then(p.1,d)else p).1=k)=decide (p.1=k);split<;>rfl
 rw[e,h];have a:q.1=k:=by have:=NZ h;exact oT_ this
 show a7 (if q.1=k then(q.1,d)else q).2=_;rw[o0 a];rename_i hs;unfold ba at hs ⊢;rw[Option.isSome_map,Option.not_isSome_iff_eq_none]at hs;rw[Qc,hs];simp
theorem nE(h:j≠k):ba (ik kvs k d) j=ba kvs j:=by
 unfold ik;split;unfold ba;rw[PY];have e:((λp:D×D=>decide<|p.1=j) ∘ λp:D×D=>if p.1=k then(p.1,d)else p)=λp=>decide (p.1=j):=by funext p;show decide ((if p.1=k then(p.1,d)else p).1=j)=decide (p.1=j);split<;>rfl
 rw[e];cases f:kvs.find? λp=>decide (p.1=j) with
 |none=>rfl
 |some q =>
  have a:q.1=j:=by have:=NZ f;exact oT_ this
  show a7 (if q.1=k then(q.1,d)else q).2=a7 q.2;rw[o4<|by rw[a];exact h]
 unfold ba;rw[Qc];cases f:kvs.find? λp=>decide (p.1=j) with
 |none=>simp[w9 h]
 |some q=>rfl
theorem cS:∀{kvs:List (D×D)}{p:D×D},(kvs.map (·.1)).Nodup->p∈kvs->ba kvs p.1=a7 p.2
 |q::kvs,p,nd,h=>by rw[C0,LX]at nd;unfold ba;rw[L4];rcases x6.mp h with rfl|h;rw[dT_ rfl];rfl;have:q.1≠p.1:=λz=>nd.1 (by rw[z];exact LK h);rw[dF_ this];exact cS nd.2 h
theorem bx(h:ba kvs k=a7 d):(k,d)∈kvs:=by
 unfold ba at h;obtain⟨q,a,rfl⟩:=Me.mp h;have e:q.1=k:=by have:=NZ a;exact oT_ this
 rw[<-e];exact Rt a
theorem bD{α:Type}{P:List α->Prop}(a:P [])(h1:∀l x,P l->P (l++[x]))(l:List α):P l:=by
 rw[<-List.reverse_reverse l];induction l.reverse with
 |nil=>exact a
 |cons x xs i=>rw[Qj];exact h1 _ _ i
theorem lY(h:ar M n xs)(ok:∀x∈xs,u8 (M++[MO.lst []]) 29 x=a9):(u8 (M++[MO.lst []]) t9 (.ref n)=a9/\u8 (M++[MO.lst []]) t9 (.ref M.length)=a9)/\t8 (M++[MO.lst []]) t9 (.ref n) (.ref M.length)=xs.isEmpty:=by have h1:ar (M++[MO.lst []]) n xs:=h.more _;have h2:ar (M++[MO.lst []]) M.length []:=aw;refine⟨⟨Am (n:=29) h1 ok,Am (n:=29) h2 λ_ z=>nomatch z⟩,?_⟩;exact(DX (n:=29) h1 h2).trans Ho
theorem lst_ne(h:m≠n)(l:ar M m xs):ar (M.set n x) m xs:=by rcases l with l|l|l;exact .inl (by rw[L8<|w9 h];exact l);exact .inr (.inl<|by rw[L8<|w9 h];exact l);exact .inr<|.inr<|by rw[L8<|w9 h];exact l
theorem ap{M:t7}{m n:Nat}{x y:MO}(h:m≠n)(l:M[m]?=a7 y):(M.set n x)[m]?=a7 y:=by rw[L8<|w9 h];exact l
theorem aL{M:t7}{m:Nat}{y:MO}(l:M[m]?=a7 y):m<M.length:=(x5.mp l).1
theorem JS(l:ar M m xs):m<M.length:=by rcases l with l|l|l<;>exact aL l
theorem ac{B:t7}{q:Nat}{x a:MO}(h:B[q]?=a7 x):(B++[a])[q]?=a7 x:=by rw[J2 (x5.mp h).1];exact h
theorem bI{B:t7}{q:Nat}{x a:MO}(h:B[q]?=a7 x):(B.set q a)[q]?=a7 a:=Mr (x5.mp h).1
theorem uT(p:M <+: B)(l:ar M q xs):ar B q xs:=by obtain⟨L,rfl⟩:=p;exact l.more L
theorem aG{M B:t7}{q:Nat}{x:MO}(p:M <+: B)(l:M[q]?=a7 x):B[q]?=a7 x:=by obtain⟨L,rfl⟩:=p;rw[J2<|aL l];exact l
theorem ints_bel(xs:List Int):Bels k (xs.map D.int):=Bels.of λd h=>by obtain⟨x,_,rfl⟩:=v8.mp h;exact .int x
theorem wG(xs:List c6):Bels k (xs.map D.str):=Bels.of λd h=>by obtain⟨x,_,rfl⟩:=v8.mp h;exact .str x
theorem wV{a b:Int}(h:0<b):0<=a % b:=Int.emod_nonneg _<|by lia
theorem wW{a b:Int}(h:0<b):a % b<b:=Int.emod_lt_of_pos _ h
theorem at_mod{α:Type}{xs:List α}{i:Int}(h:1<=xs.length):∃x∈xs,atI xs (i % (xs.length:Int))=a7 x:=by obtain⟨j,L,z,_⟩:=iw (xs:=xs) (wV (a:=i) (b:=xs.length)<|by lia) (wW<|by lia);exact⟨xs[j],L5 L,z⟩
theorem bM(p:M <+: B)(h:M.length<=q):M <+: B.set q x:=by obtain⟨L,rfl⟩:=p;rw[Q7 _ _ h];exact G2 _ _
noncomputable def dA(p:c6×Int):List D:=(rZ 0 p.2.toNat).map λk=>.tup [.str p.1,k]
noncomputable def aQ(ps:List (c6×Int)):List D:=ps.flatMap dA
def QZ(ps:List (c6×Int)):Prop:=ps.length<=4/\∀p∈ps,0<=p.2/\p.2<=3
theorem iV:(dA p).length=p.2.toNat:=by simp[dA,rZ]
theorem pA(h:∀p∈ps,0<=p.2/\p.2<=3):(aQ ps).length<=3*ps.length:=by
 induction ps with
 |nil=>simp[aQ]
 |cons p ps i =>
  have:=i λq a=>h q<|A6 _ a;have h1:=h p C1;have e:(aQ<|p::ps).length=p.2.toNat+(aQ ps).length:=by rw[aQ,List.flatMap_cons,A1,iV];rfl
  rw[e,C4];lia
theorem xh:∀d∈aQ ps,Hd d:=λd a=>by unfold aQ at a;obtain⟨p,_,h⟩:=List.mem_flatMap.mp a;unfold dA rZ at h;simp only[E8,v8]at h;obtain⟨i,_,rfl⟩:=h;exact⟨_,_,rfl⟩
theorem yt:Bels k (aQ ps):=Bels.of λd h=>KD<|xh d h
noncomputable def fZ(p:c6×List c6):D:=.tup [.str p.1,.tup<|p.2.map .str]
noncomputable def aI(ps:List (c6×Int))(rs:List (c6×List c6)):D:=.tup [.tup<|ps.map iE,.tup<|rs.map fZ]
def eD(x:c6):Prop:=∀c∈x.cps.toList,97<=c/\c<=122
theorem eD.app(h1:eD a)(h2:eD b):eD (a++b):=λx h=>by
 have e:(a++b).cps.toList=a.cps.toList++b.cps.toList:=by show (a.cps++b.cps).toList=_;simp
 rw[e]at h;exact(D7.mp h).elim (h1 x)<|h2 x
structure HouseF(ps:List (c6×Int))(rs:List (c6×List c6)):Prop where
 len:1<=ps.length/\ps.length<=4
 many:∀p∈ps,1<=p.2/\p.2<=3
 nm:∀p∈ps,p.1.length<=8
 rl:1<=rs.length/\rs.length<=4
 pnd:(ps.map (·.1)).Nodup
 rnd:(rs.map (·.1)).Nodup
 rm:∀r∈rs,r.2.length<=4
 sm:∀p∈ps,eD p.1
def St(d:D):Prop:=∃(t:Int) (z:c6) (k:Int),d=.tup [.int t,.tup [.str z,.int k]]
theorem St.key(h:St d):cT 8 d=a9:=by obtain⟨t,z,k,rfl⟩:=h;rfl
theorem St.ok(h:St d):u8 M t9 d=a9:=by obtain⟨t,z,k,rfl⟩:=h;rfl
theorem St.pl(h:St d):F5 (n+2) d:=by obtain⟨t,z,k,rfl⟩:=h;exact .tup<|.cons (.int _)<|.cons (.tup<|.cons (.str _)<|.cons (.int _) .nil) .nil
theorem St.eq(f:St a)(d:St b):t8 M (n+2) a b=decide (a=b):=by
 obtain⟨t,z,k,rfl⟩:=f;obtain⟨t',G,H,rfl⟩:=d;have e:t8 M (n+2) (.tup [.int t,.tup [.str z,.int k]]) (.tup [.int t',.tup [.str G,.int H]])=((t==t')&&(((z==G)&&((k==H)&&a9))&&a9)):=by show (t8 M (n+1) (.int t) (.int t')&&((t8 M n (.str z) (.str G)&&(t8 M n (.int k) (.int H)&&a9))&&a9))=_;rw[kN,aM,kN]
 rw[e];by_cases h:D.tup [.int t,.tup [.str z,.int k]]=.tup [.int t',.tup [.str G,.int H]];rw[dT_ h];simp only[D.tup.injEq,Oz,D.int.injEq,D.str.injEq,and_true]at h;obtain⟨rfl,rfl,rfl⟩:=h;simp;rw[dF_ h];simp only[D.tup.injEq,Oz,D.int.injEq,D.str.injEq,and_true]at h;refine Mp.mpr λq=>h ?_;simpa using q
theorem St.tup(h:St d):∃ks,d=.tup ks:=by obtain⟨t,z,k,rfl⟩:=h;exact⟨_,rfl⟩
def eA(d:D):Prop:=(∃x:c6,d=.tup [.str<|AA0 "room",.str x])\/(∃x:c6,d=.tup [.str<|AA0 "person",.str x])\/∃(t:Int) (z:c6) (k:Int),d=.tup [.str<|AA0 "under",.tup [.int t,.tup [.str z,.int k]]]
theorem eA.tup(h:eA d):∃ks,d=.tup ks:=by rcases h with⟨x,rfl⟩|⟨x,rfl⟩|⟨t,z,k,rfl⟩<;>exact⟨_,rfl⟩
theorem eA.key(h:eA d):cT 8 d=a9:=by rcases h with⟨x,rfl⟩|⟨x,rfl⟩|⟨t,z,k,rfl⟩<;>rfl
theorem eA.ok(h:eA d):A8 t9 d=a9:=by rcases h with⟨x,rfl⟩|⟨x,rfl⟩|⟨t,z,k,rfl⟩<;>rfl
theorem eA.pl(h:eA d):F5 3 d:=by rcases h with⟨x,rfl⟩|⟨x,rfl⟩|⟨t,z,k,rfl⟩<;>rfl
theorem eA.pl4(h:eA d):F5 4 d:=by rcases h with⟨x,rfl⟩|⟨x,rfl⟩|⟨t,z,k,rfl⟩<;>rfl
theorem eA.str(h:eA d):∃z r,d=.tup (.str z::r):=by rcases h with⟨x,rfl⟩|⟨x,rfl⟩|⟨t,z,k,rfl⟩<;>exact⟨_,_,rfl⟩
theorem eA.cm(f:eA a)(d:eA b):iY M t9 a b=a9:=by
 have c:(AA0 "room" == AA0 "person")=bt:=by decide +kernel
 have R:(AA0 "room" == AA0 "under")=bt:=by decide +kernel
 have p:(AA0 "person" == AA0 "room")=bt:=by decide +kernel
 have u:(AA0 "person" == AA0 "under")=bt:=by decide +kernel
 have g:(AA0 "under" == AA0 "room")=bt:=by decide +kernel
 have e:(AA0 "under" == AA0 "person")=bt:=by decide +kernel
 have F:∀{x y:c6}{r r':List D},(x==y)=bt->iY M t9 (.tup<|.str x::r) (.tup<|.str y::r')=a9:=λ{x y r r'} h=>by show (if t8 M 29 (.str x) (.str y)=a9 then Bv (t8 M 29) (iY M 29) r r' else iY M 29 (.str x) (.str y))=a9;rw[aM,h];rfl
 have s:∀{x y:c6}{z:c6},iY M t9 (.tup [.str z,.str x]) (.tup [.str z,.str y])=a9:=λ{x y z}=>by
  show (if t8 M 29 (.str z) (.str z)=a9 then(if t8 M 29 (.str x) (.str y)=a9 then a9 else a9)else a9)=a9
  repeat' split
  all_goals rfl
 rcases f with⟨x,rfl⟩|⟨x,rfl⟩|⟨t,z,k,rfl⟩<;>rcases d with⟨y,rfl⟩|⟨y,rfl⟩|⟨t',G,H,rfl⟩
 exact s;exact F c;exact F R;exact F p;exact s;exact F u;exact F g;exact F e
 ·show (if t8 M 29 (.str<|AA0 "under") (.str<|AA0 "under")=a9 then(if t8 M 29 (.tup [.int t,.tup [.str z,.int k]]) (.tup [.int t',.tup [.str G,.int H]])=a9 then a9 else(if t8 M 28 (.int t) (.int t')=a9 then(if t8 M 28 (.tup [.str z,.int k]) (.tup [.str G,.int H])=a9 then a9 else(if t8 M 27 (.str z) (.str G)=a9 then(if t8 M 27 (.int k) (.int H)=a9 then a9 else a9)else a9))else a9))else a9)=a9
  repeat' split
  all_goals rfl
theorem yQ(h:∀x∈xs,eA x)(l:xs.length<64):SrtG M xs:=SrtOk.g ⟨l,λx a=>(h x a).ok,λx a y O=>(h x a).cm<|h y O,.inr<|.inr<|.inl λx a=>(h x a).str⟩
def VecK(vs:List D):Prop:=∃hs:List (D×Int),vs=kj hs/\(∀p∈hs,Hd p.1)/\hs.length<=12/\(hs.map (·.1)).Nodup
structure ActK(rs:List (c6×List c6))(x:c6)(ds:List D):Prop where
 say:x=AA0 "say"->∃(r:c6) (u:D) (s:c6),ds=[.str r,u,.str s]/\r∈rs.map (·.1)/\(u=.non\/St u)
 change:x=AA0 "change"->∃(m:D) (s:c6),ds=[m,.str s]/\St m
 back:x=AA0 "back"->∃m:D,ds=[m]/\St m
 like:x=AA0 "like"->∃(m:D) (s:c6) (b:Bool),ds=[m,.str s,.bl b]/\St m
 read:x=AA0 "read"->∃(r:c6) (vs:List D),ds=[.str r,.tup vs]/\VecK vs
 seen:x=AA0 "seen"->∃m:D,ds=[m]/\St m
 rung:x=AA0 "rung"->∃m:D,ds=[m]/\St m
 hush:x=AA0 "hush"->∃(w:D) (b:Bool),ds=[w,.bl b]/\eA w
 lenS:x=AA0 "say"->∀(r u:D) (s:c6),ds=[r,u,.str s]->s.length<=100
 lenC:x=AA0 "change"->∀(m:D) (s:c6),ds=[m,.str s]->s.length<=100
section
variable{rs:List (c6×List c6)}
theorem bK{a b:c6}{P:Prop}(h:(a==b)=bt)(e:a=b):P:=o5 e<|beq_eq_false_iff_ne.mp h
theorem ActK.mkSay(i:r∈rs.map (·.1))(g:u=.non\/St u)(l:s.length<=100):ActK rs (AA0 "say") [.str r,u,.str s]:=⟨λ_=>⟨r,u,s,rfl,i,g⟩,bK (by decide +kernel),bK (by decide +kernel),bK (by decide +kernel),bK (by decide +kernel),bK (by decide +kernel),bK (by decide +kernel),bK (by decide +kernel),λ_ _ _ _ e=>by cases e;exact l,bK<|by decide +kernel⟩
theorem ActK.mkChange(h:St m)(l:s.length<=100):ActK rs (AA0 "change") [m,.str s]:=⟨bK (by decide +kernel),λ_=>⟨m,s,rfl,h⟩,bK (by decide +kernel),bK (by decide +kernel),bK (by decide +kernel),bK (by decide +kernel),bK (by decide +kernel),bK (by decide +kernel),bK (by decide +kernel),λ_ _ _ e=>by cases e;exact l⟩
theorem ActK.mkBack(h:St m):ActK rs (AA0 "back") [m]:=⟨bK (by decide +kernel),bK (by decide +kernel),λ_=>⟨m,rfl,h⟩,bK (by decide +kernel),bK (by decide +kernel),bK (by decide +kernel),bK (by decide +kernel),bK (by decide +kernel),bK (by decide +kernel),bK<|by decide +kernel⟩
theorem ActK.mkLike(h:St m):ActK rs (AA0 "like") [m,.str s,.bl b]:=⟨bK (by decide +kernel),bK (by decide +kernel),bK (by decide +kernel),λ_=>⟨m,s,b,rfl,h⟩,bK (by decide +kernel),bK (by decide +kernel),bK (by decide +kernel),bK (by decide +kernel),bK (by decide +kernel),bK<|by decide +kernel⟩
theorem ActK.mkRead(h:VecK vs):ActK rs (AA0 "read") [.str r,.tup vs]:=⟨bK (by decide +kernel),bK (by decide +kernel),bK (by decide +kernel),bK (by decide +kernel),λ_=>⟨r,vs,rfl,h⟩,bK (by decide +kernel),bK (by decide +kernel),bK (by decide +kernel),bK (by decide +kernel),bK<|by decide +kernel⟩
theorem ActK.mkSeen(h:St m):ActK rs (AA0 "seen") [m]:=⟨bK (by decide +kernel),bK (by decide +kernel),bK (by decide +kernel),bK (by decide +kernel),bK (by decide +kernel),λ_=>⟨m,rfl,h⟩,bK (by decide +kernel),bK (by decide +kernel),bK (by decide +kernel),bK<|by decide +kernel⟩
theorem ActK.mkRung(h:St m):ActK rs (AA0 "rung") [m]:=⟨bK (by decide +kernel),bK (by decide +kernel),bK (by decide +kernel),bK (by decide +kernel),bK (by decide +kernel),bK (by decide +kernel),λ_=>⟨m,rfl,h⟩,bK (by decide +kernel),bK (by decide +kernel),bK<|by decide +kernel⟩
theorem ActK.mkHush{w:D}{b:Bool}(h:eA w):ActK rs (AA0 "hush") [w,.bl b]:=⟨bK (by decide +kernel),bK (by decide +kernel),bK (by decide +kernel),bK (by decide +kernel),bK (by decide +kernel),bK (by decide +kernel),bK (by decide +kernel),λ_=>⟨w,b,rfl,h⟩,bK (by decide +kernel),bK<|by decide +kernel⟩
end
def aJ(ps:List (c6×Int))(rs:List (c6×List c6))(d:D):Prop:=∃(t:Int) (z:c6) (k m:Int) (x:c6) (ds:List D),d=.tup [.int t,.tup [.str z,.int k],.int m,.tup<|.str x::ds]/\1<=t/\D.tup [.str z,.int k]∈aQ ps/\om 4 ds/\ActK rs x ds
section
variable{ps:List (c6×Int)}{rs:List (c6×List c6)}
theorem aJ.pl(h:aJ ps rs d):F5 6 d:=by obtain⟨t,z,k,m,x,ds,rfl,_,_,p,_⟩:=h;exact .tup<|.cons (.int _)<|.cons (DM ⟨_,_,rfl⟩)<|.cons (.int _)<|.cons (.tup<|.cons (.str _) p) .nil
theorem aJ.bels(h:∀d∈ds,aJ ps rs d):Bels k ds:=Bels.of λd a=>cx 6 d (h d a).pl
end
noncomputable def bB:D->c6
 |.tup [_,_,_,.tup<|.str x::_]=>x
 |_=>AA0 ""
noncomputable def aR:D->c6
 |.tup (_::.tup (.str z::_)::_)=>z
 |_=>AA0 ""
noncomputable def t5:D->D
 |.tup (t::h::_)=>.tup [t,h]
 |_=>.non
noncomputable def aB:D->c6
 |.tup [_,_,_,.tup<|_::.str r::_]=>r
 |_=>AA0 ""
noncomputable def aW:D->D
 |.tup [_,_,_,.tup<|_::_::u::_]=>u
 |_=>.non
noncomputable def kn:D->D
 |.tup [_,_,_,.tup<|_::m::_]=>m
 |_=>.non
noncomputable def sayO:D->D
 |.tup [_,_,_,.tup<|_::_::_::s::_]=>s
 |_=>.non
noncomputable def numO:D->D
 |.tup [_,_,n,_]=>n
 |_=>.non
noncomputable def sortO:D->c6
 |.tup [_,_,_,.tup<|_::_::.str s::_]=>s
 |_=>AA0 ""
noncomputable def onO:D->Bool
 |.tup [_,_,_,.tup<|_::_::_::.bl b::_]=>b
 |_=>bt
noncomputable def ub(rs:List (c6×List c6))(r:c6):List c6:=((rs.find? λp=>decide<|p.1=r).map (·.2)).getD []
noncomputable def kinds(log:List D)(k:c6):List D:=log.filter λd=>decide<|bB d=k
section
variable{ps:List (c6×Int)}{rs:List (c6×List c6)}
theorem fY(h:aJ ps rs d)(e:bB d=AA0 "say"):∃(t:Int) (z:c6) (k num:Int) (r:c6) (u:D) (s:c6),d=.tup [.int t,.tup [.str z,.int k],.int num,.tup [.str<|AA0 "say",.str r,u,.str s]]/\1<=t/\D.tup [.str z,.int k]∈aQ ps/\r∈rs.map (·.1)/\(u=.non\/St u):=by obtain⟨t,z,k,num,x,ds,rfl,h1,h2,_,f⟩:=h;obtain rfl:x=AA0 "say":=e;obtain⟨r,u,s,rfl,i,g⟩:=f.say rfl;exact⟨t,z,k,num,r,u,s,rfl,h1,h2,i,g⟩
theorem nK(h:aJ ps rs d)(e:bB d=AA0 "change"):∃(t:Int) (z:c6) (k num:Int) (m:D) (s:c6),d=.tup [.int t,.tup [.str z,.int k],.int num,.tup [.str<|AA0 "change",m,.str s]]/\St m:=by obtain⟨t,z,k,num,x,ds,rfl,h1,h2,_,f⟩:=h;obtain rfl:x=AA0 "change":=e;obtain⟨m,s,rfl,a⟩:=f.change rfl;exact⟨t,z,k,num,m,s,rfl,a⟩
theorem BH(h:aJ ps rs d)(e:bB d=AA0 "back"):∃(t:Int) (z:c6) (k num:Int) (m:D),d=.tup [.int t,.tup [.str z,.int k],.int num,.tup [.str<|AA0 "back",m]]/\St m:=by obtain⟨t,z,k,num,x,ds,rfl,h1,h2,_,f⟩:=h;obtain rfl:x=AA0 "back":=e;obtain⟨m,rfl,a⟩:=f.back rfl;exact⟨t,z,k,num,m,rfl,a⟩
theorem like_of(h:aJ ps rs d)(e:bB d=AA0 "like"):∃(t:Int) (z:c6) (k num:Int) (m:D) (s:c6) (b:Bool),d=.tup [.int t,.tup [.str z,.int k],.int num,.tup [.str<|AA0 "like",m,.str s,.bl b]]/\St m:=by obtain⟨t,z,k,num,x,ds,rfl,h1,h2,_,f⟩:=h;obtain rfl:x=AA0 "like":=e;obtain⟨m,s,b,rfl,a⟩:=f.like rfl;exact⟨t,z,k,num,m,s,b,rfl,a⟩
end
section
variable{ps:List (c6×Int)}{rs:List (c6×List c6)}
theorem uC(h:aJ ps rs d)(e:bB d=AA0 "read"):∃(t:Int) (z:c6) (k num:Int) (r:c6) (hs:List (D×Int)),d=.tup [.int t,.tup [.str z,.int k],.int num,.tup [.str<|AA0 "read",.str r,.tup<|kj hs]]/\(∀p∈hs,Hd p.1)/\hs.length<=12:=by obtain⟨t,z,k,num,x,ds,rfl,h1,h2,_,f⟩:=h;obtain rfl:x=AA0 "read":=e;obtain⟨r,vs,rfl,hs,rfl,c,j,_⟩:=f.read rfl;exact⟨t,z,k,num,r,hs,rfl,c,j⟩
theorem FI(h:aJ ps rs (.tup [.int t,.tup [.str z,.int k],.int num,.tup [.str<|AA0 "read",.str r,.tup<|kj hs]])):(hs.map (·.1)).Nodup:=by
 obtain⟨t',G,H,n,x,ds,e,h1,h2,_,g⟩:=h;simp only[D.tup.injEq,Oz,D.int.injEq,D.str.injEq,and_true]at e;obtain⟨rfl,⟨rfl,rfl⟩,rfl,rfl,rfl⟩:=e;obtain⟨r',vs,e,u,c,d,m,i⟩:=g.read rfl;injection e with _ e;injection e with e;injection e with e;rw[<-e]at c;have j:∀(a b:List (D×Int)),kj a=kj b->a=b:=λa b q=>by
  refine List.map_inj_right (f:=λp:D×Int=>D.tup [p.1,.int p.2]) (λp l q=>?_) |>.mp q
  injection q with q;injection q with d q;injection q with q _;injection q with q;exact Prod.ext d q
 rw[j _ _ c];exact i
theorem uz(h:aJ ps rs d)(e:bB d=AA0 "seen"\/bB d=AA0 "rung"):∃(t:Int) (z:c6) (k num:Int) (x:c6) (m:D),d=.tup [.int t,.tup [.str z,.int k],.int num,.tup [.str x,m]]/\St m:=by obtain⟨t,z,k,num,x,ds,rfl,h1,h2,_,f⟩:=h;obtain⟨m,rfl,a⟩:∃m:D,ds=[m]/\St m:=e.elim (λe=>f.seen e) λe=>f.rung e;exact⟨t,z,k,num,x,m,rfl,a⟩
theorem AX(h:aJ ps rs d)(e:bB d=AA0 "hush"):∃(t:Int) (z:c6) (k num:Int) (w:D) (b:Bool),d=.tup [.int t,.tup [.str z,.int k],.int num,.tup [.str<|AA0 "hush",w,.bl b]]/\eA w:=by obtain⟨t,z,k,num,x,ds,rfl,h1,h2,_,f⟩:=h;obtain rfl:x=AA0 "hush":=e;obtain⟨w,b,rfl,a⟩:=f.hush rfl;exact⟨t,z,k,num,w,b,rfl,a⟩
theorem FH(h:aJ ps rs d)(e:bB d=AA0 "say"):∃s:c6,sayO d=.str s/\s.length<=100:=by obtain⟨t,z,k,m,x,ds,rfl,h1,h2,_,f⟩:=h;obtain rfl:x=AA0 "say":=e;obtain⟨r,u,s,rfl,i,g⟩:=f.say rfl;exact⟨s,rfl,f.lenS rfl _ _ _ rfl⟩
theorem yD(h:aJ ps rs d)(e:bB d=AA0 "change"):∃s:c6,aW d=.str s/\s.length<=100:=by obtain⟨t,z,k,n,x,ds,rfl,h1,h2,_,f⟩:=h;obtain rfl:x=AA0 "change":=e;obtain⟨m,s,rfl,a⟩:=f.change rfl;exact⟨s,rfl,f.lenC rfl _ _ rfl⟩
end
local macro_rules | `(tactic| walk_at"ifs")=>`(tactic| simp only[ER,A9,↓reduceIte,MV,Bool.not_false])
noncomputable def ii(rs:List (c6×List c6))(kvs:List (D×D))(d:D):Bool:=decide (aR d∈ub rs (aB d))&&(decide (aW d=.non)||match ba kvs (aW d) with
 |some e=>decide<|aB e=aB d
 |none=>bt)
noncomputable def uy(rs:List (c6×List c6))(kvs:List (D×D))(d:D):List (D×D):=if ii rs kvs d=a9 then ik kvs (t5 d) d else kvs
noncomputable def ay(rs:List (c6×List c6))(l:List D):List (D×D):=l.foldl (uy rs) []
theorem dB:ay rs (l++[d])=uy rs (ay rs l) d:=by unfold ay;rw[Po];rfl
noncomputable def ak(rs:List (c6×List c6))(log:List D):List (D×D):=ay rs<|kinds log<|AA0 "say"
theorem pp:kinds (log++[d]) k=kinds log k++if bB d=k then[d]else[]:=by unfold kinds;rw[OD];congr 1;by_cases h:bB d=k;rw[MZ,dT_ h,o0 rfl,o0 h];rfl;rw[MZ,dF_ h,o4 (by decide),o4 h];rfl
theorem aH(h:d∈kinds log k):d∈log/\bB d=k:=⟨(B9.mp h).1,oT_ (B9.mp h).2⟩
theorem bh:(kinds log k).length<=log.length:=LN _ _
structure TabK(l:List D)(kvs:List (D×D)):Prop where
 nd:(kvs.map (·.1)).Nodup
 en:∀p∈kvs,p.1=t5 p.2/\p.2∈l
 len:kvs.length<=l.length
theorem gM(h:p∈ik kvs k d):p=(k,d)\/p∈kvs:=by unfold ik at h;split at h;obtain⟨q,a,rfl⟩:=v8.mp h;split;rename_i e;rw[e];exact .inl rfl;exact .inr a;rcases D7.mp h with h|h;exact .inr h;exact .inl<|by simpa using h
theorem pU:(ik kvs k d).length<=kvs.length+1:=by unfold ik;split;rw[u6];lia;simp
theorem eW(l:List D):TabK l (ay rs l):=by
 refine bD (P:=λl=>TabK l<|ay rs l) ⟨.nil,(λ_ z=>nomatch z),u5 _⟩ (λl d i=>?_) l;rw[dB];unfold uy;have hs:∀p∈ay rs l,p.1=t5 p.2/\p.2∈l++[d]:=λp h=>⟨(i.en p h).1,LM _ (i.en p h).2⟩
 have g:=i.len;split;refine⟨pT i.nd,λp h=>?_,?_⟩;rcases gM h with rfl|h;exact⟨rfl,by simp⟩;exact hs p h;have:=pU (kvs:=ay rs l) (k:=t5 d) (d:=d);rw[A1,K0];lia;exact⟨i.nd,hs,by rw[A1,K0];lia⟩
theorem aO:TabK (kinds log<|AA0 "say") (ak rs log):=eW _
theorem xj(t:TabK l kvs)(h:ba kvs k=a7 e):k=t5 e/\e∈l:=t.en _<|bx h
noncomputable def L0(kvs:List (D×D))(d:D):Bool:=match ba kvs (kn d) with
 |some e=>decide<|aR d=aR e
 |none=>bt
def OZ(d:D):Prop:=∃(a:D) (z:c6) (r m:List D),d=.tup (a::.tup (.str z::r)::m)
section
variable{ps:List (c6×Int)}{rs:List (c6×List c6)}
theorem aJ.nm(h:aJ ps rs d):OZ d:=by obtain⟨t,z,k,m,x,ds,rfl,_⟩:=h;exact⟨_,_,_,_,rfl⟩
theorem aJ.st(h:aJ ps rs d):St (t5 d):=by obtain⟨t,z,k,m,x,ds,rfl,_⟩:=h;exact⟨_,_,_,rfl⟩
theorem St.cm(f:St a)(d:St b):iY M t9 a b=a9:=by
 obtain⟨t,z,k,rfl⟩:=f;obtain⟨t',G,H,rfl⟩:=d;show (if t8 M 29 (.int t) (.int t')=a9 then(if t8 M 29 (.tup [.str z,.int k]) (.tup [.str G,.int H])=a9 then a9 else(if t8 M 28 (.str z) (.str G)=a9 then(if t8 M 28 (.int k) (.int H)=a9 then a9 else a9)else a9))else a9)=a9
 repeat' split
 all_goals rfl
theorem zD(h:∀x∈xs,St x)(l:xs.length<64):SrtOk M xs:=by refine⟨l,λx a=>?_,λx a y O=>(h x a).cm<|h y O,.inr<|.inr<|.inr<|.inl λx a=>?_⟩;obtain⟨t,z,k,rfl⟩:=h x a;rfl;obtain⟨t,z,k,rfl⟩:=h x a;exact⟨_,_,rfl⟩
end
def ki(kvs:List (D×D))(log:List D)(k:D):Prop:=∃d∈kinds log (AA0 "back"),L0 kvs d=a9/\kn d=k
theorem pS(h:k∉kvs.map (·.1)):ik kvs k d=kvs++[(k,d)]:=by unfold ik;rw[o4];intro z;obtain⟨e,i⟩:=Rs.mp z;exact h (LK (f:=(·.1))<|bx i)
theorem tG(ps:List (D×D))(h:(ps.map (·.1)).Nodup):dictOf ps=ps:=by revert h;refine bD (P:=λps=>(ps.map (·.1)).Nodup->dictOf ps=ps) (λ_=>rfl) (λps p i h=>?_) ps;rw[G5]at h;have h':=Qb.mp h;rw[bT,i h'.1,pS];intro z;exact h'.2.2 _ z _ (by simp) rfl
theorem nD{M:t7}{x:c6}{l:List c6}:LZ M (.str x) (l.map .str)=decide (x∈l):=by unfold LZ;rw[O5];by_cases h:x∈l;rw[dT_ h];exact LH.mpr ⟨x,h,by show t8 M t9 (.str x) (.str x)=a9;rw[aM];exact p8 x⟩;rw[dF_ h];refine Mp.mpr λz=>?_;obtain⟨y,O,e⟩:=LH.mp z;have a:t8 M t9 (.str y) (.str x)=a9:=e;rw[aM]at a;exact h<|eq_of_beq a ▸ O
theorem mN{M:t7}{l:List c6}:(l.map D.str).all (u8 M t9)=a9:=E9.mpr λx h=>by obtain⟨y,_,rfl⟩:=v8.mp h;exact ao
noncomputable def aE(rs:List (c6×List c6))(log:List D):List (D×D):=(ak rs log).filter λp=>@decide (¬ki (ak rs log) log p.1)<|K8 _
theorem mQ:p∈aE rs log↔p∈ak rs log/\¬ki (ak rs log) log p.1:=by unfold aE;rw[B9];exact and_congr Iff.rfl<|@o7 _<|K8 _
theorem Cn:((aE rs log).map (·.1)).Nodup:=(List.filter_sublist.map _).nodup aO.nd
theorem IW(h:ba (ak rs log) k=a7 e)(d:¬ki (ak rs log) log k):ba (aE rs log) k=a7 e:=cS (p:=(k,e)) Cn<|mQ.mpr ⟨bx h,d⟩
noncomputable def aN(kvs:List (D×D))(log:List D):List (D×D):=dictOf<|((kinds log<|AA0 "change").filter<|L0 kvs).map λd=>(kn d,aW d)
noncomputable def At(ch:List (D×D))(d:D):D:=.tup [t5 d,.str<|aB d,aW d,.str<|aR d,(ba ch<|t5 d).getD<|sayO d,.bl (ba ch<|t5 d).isSome]
noncomputable def bH(rs:List (c6×List c6))(log:List D):List D:=(aE rs log).map λp=>At (aN (aE rs log) log) p.2
structure BackL(rs:List (c6×List c6))(log:List D)(ys:List D):Prop where
 st:∀x∈ys,St x
 mem:∀x,x∈ys↔ki (ak rs log) log x
 nd:ys.Nodup
 up:ys.Pairwise λa b=>¬A4 t9 b<A4 t9 a
noncomputable def Fm:D->D
 |.tup [_,_,_,a]=>a
 |_=>.non
noncomputable def lH(l:List D):List (D×D):=l.foldl (λs d=>ik s (t5 d)<|Fm d) []
noncomputable def nT(log:List D):List (D×D):=lH<|kinds log<|AA0 "say"
theorem gK:lH (l++[d])=ik (lH l) (t5 d) (Fm d):=by unfold lH;rw[Po];rfl
theorem xP:nT (log++[d])=if bB d=AA0 "say" then ik (nT log) (t5 d) (Fm d)else nT log:=by unfold nT;rw[pp];split;rw[gK];rw[G7]
theorem said_en(l:List D):∀p∈lH l,∃d∈l,p=(t5 d,Fm d):=by refine bD (P:=λl=>∀p∈lH l,∃d∈l,p=(t5 d,Fm d)) (λ_ z=>nomatch z) (λl d a p h=>?_) l;rw[gK]at h;rcases gM h with rfl|h;exact⟨d,by simp,rfl⟩;obtain⟨e,i,r⟩:=a p h;exact⟨e,LM _ i,r⟩
theorem Cr(l:List D):(lH l).length<=l.length:=by refine bD (P:=λl=>(lH l).length<=l.length) (u5 _) (λl d i=>?_) l;rw[gK,A1,K0];have:=pU (kvs:=lH l) (k:=t5 d) (d:=Fm d);lia
def MI(l:List D):Prop:=l.Pairwise λa b=>A4 t9 (t5 a)<A4 t9 (t5 b)
theorem MI.one(h:MI l):∀a∈l,∀b∈l,t5 a=t5 b->a=b:=by
 induction l with
 |nil=>intro a d;cases d
 |cons x l j =>
  obtain⟨h1,h2⟩:=List.pairwise_cons.mp h;intro a d b i e;rcases x6.mp d with g|c<;>rcases x6.mp i with L|f
  rw[g,L];have:=h1 b f;rw[<-g,e]at this;exact o5 this<|K7 _;have:=h1 a c;rw[<-L,e]at this;exact o5 this<|K7 _;exact j h2 a c b f e
theorem Cs(h:MI l):∀d∈l,ba (lH l) (t5 d)=a7 (Fm d):=by revert h;refine bD (P:=λl=>MI l->∀d∈l,ba (lH l) (t5 d)=a7 (Fm d)) (λ_ _ z=>nomatch z) (λl x i h d a=>?_) l;obtain⟨h1,_,b⟩:=Qr.mp h;rw[gK];rcases D7.mp a with a|a;have:=b d a x (by simp);rw[nE<|λe=>by rw[e]at this;exact K7 _ this];exact i h1 d a;rw[show d=x by simpa using a,jR]
inductive D9(rs:List (c6×List c6))(l:List D):D->Prop
 |top {d:D} (h:d∈l) (m:aR d∈ub rs (aB d)) (u:aW d=.non):D9 rs l d
 |sub {d e:D} (h:d∈l) (m:aR d∈ub rs (aB d)) (s:D9 rs l e) (u:aW d=t5 e) (o:A4 t9 (t5 e)<A4 t9 (t5 d)) (r:aB e=aB d):D9 rs l d
theorem D9.mem(h:D9 rs l d):d∈l:=by cases h<;>assumption
theorem D9.nm(h:D9 rs l d):aR d∈ub rs (aB d):=by cases h<;>assumption
theorem D9.more(h:D9 rs l d):D9 rs (l++l') d:=by
 induction h with
 |top h m u=>exact .top (LM _ h) m u
 |sub h m _ u o r i=>exact .sub (LM _ h) m i u o r
theorem D9.less(g:∀y∈l,A4 t9 (t5 y)<A4 t9 (t5 x))(h:D9 rs (l++[x]) d):d∈l->D9 rs l d:=by
 induction h with
 |top h m u=>exact λa=>.top a m u
 |sub h m s u o r b=>intro a;rename_i d e;rcases D7.mp s.mem with i|i;exact .sub a m (b i) u o r;rw[show e=x by simpa using i]at o;exact o5 (List.lt_trans o<|g d a)<|K7 _
theorem Bu(j:∀d∈l,aW d=.non\/St (aW d))(S:∀d∈l,St<|t5 d)(h:MI l):∀d∈l,ba (ay rs l) (t5 d)=a7 d↔D9 rs l d:=by
 revert h j S;refine bD (P:=λl=>(∀d∈l,aW d=.non\/St (aW d))->(∀d∈l,St<|t5 d)->MI l->∀d∈l,ba (ay rs l) (t5 d)=a7 d↔D9 rs l d) (λ_ _ _ _ z=>nomatch z) (λl x p j S h d a=>?_) l;obtain⟨h1,_,n⟩:=Qr.mp h;have c:∀y∈l,A4 t9 (t5 y)<A4 t9 (t5 x):=λy O=>n y O x (by simp);have i:=p (λd a=>j d<|LM _ a) (λd a=>S d<|LM _ a) h1;have k:=eW (rs:=rs) l;have q:ba (ay rs l) (t5 x)=a8:=by
  cases e:ba (ay rs l) (t5 x) with
  |none=>rfl
  |some f=>obtain⟨t,g⟩:=xj k e;have:=c f g;rw[<-t]at this;exact o5 this<|K7 _
 rw[dB];unfold uy;rcases D7.mp a with a|a;have F:t5 d≠t5 x:=λe=>by have:=c d a;rw[e]at this;exact K7 _ this
 have:ba (if ii rs (ay rs l) x=a9 then ik (ay rs l) (t5 x) x else ay rs l) (t5 d)=ba (ay rs l) (t5 d):=by split;exact nE F;rfl
 rw[this,i d a];exact⟨D9.more,λz=>z.less c a⟩;obtain rfl:d=x:=by simpa using a
 have T:ba (if ii rs (ay rs l) d=a9 then ik (ay rs l) (t5 d) d else ay rs l) (t5 d)=a7 d↔ii rs (ay rs l) d=a9:=by split;rename_i e;rw[jR];exact⟨λ_=>e,λ_=>rfl⟩;rename_i e;rw[q];exact⟨λz=>(by cases z),λz=>o5 z e⟩
 rw[T];unfold ii;rw[D3,Nw,o6,o6];constructor;rintro⟨m,u|u⟩;exact .top (by simp) m u;cases e:ba (ay rs l) (aW d) with
 |none=>rw[e]at u;cases u
 |some f=>rw[e]at u;obtain⟨t,g⟩:=xj k e;rw[t]at e;exact .sub (by simp) m ((i f g).mp e).more t (c f g)<|oT_ u
 intro s;cases s with
 |top _ m u=>exact⟨m,.inl u⟩
 |@sub _ e _ m s u o r =>
  have b:e∈l:=by rcases D7.mp s.mem with b|b;exact b;rw[show e=d by simpa using b]at o;exact o5 o<|K7 _
  refine⟨m,.inr ?_⟩;rw[u,(i e b).mpr<|s.less c b];exact dT_ r
theorem Bk{α:Type}{p q:α->Bool}{x:α}(hpq:∀y,p y=a9->q y=a9)(hq:q x=a9)(hp:p x=bt):∀{l:List α},x∈l->(l.filter p).length<(l.filter q).length
 |y::l,h=>by
  have mono:∀l:List α,(l.filter p).length<=(l.filter q).length:=λl=>by
   induction l with
   |nil=>exact u5 _
   |cons z l ih =>
    rw[MZ,MZ];cases e:p z with
    |true=>rw[hpq z e,o0 rfl,o0 rfl,C4,C4];lia
    |false=>rw[o4<|by decide];split;rw[C4];lia;exact ih
  rw[MZ,MZ];rcases x6.mp h with rfl|h;rw[hp,hq,o4 (by decide),o0 rfl,C4];have:=mono l;lia;have ih:=Bk hpq hq hp h;cases e:p y with
  |true=>rw[hpq y e,o0 rfl,o0 rfl,C4,C4];lia
  |false=>rw[o4<|by decide];split;rw[C4];lia;exact ih
def LQ(M:t7)(q:Nat):Prop:=∃n:Int,M[q]?=a7 (.lst [.int n])
def Hl(M B:t7)(q:Nat):Prop:=∃(n:Int) (L:t7),B=M.set q (.lst [.int n])++L
section
variable{M B:t7}{q m i:Nat}{n:Int}{x:MO}
theorem Co(h:M[q]?=a7 x):M.set q x=M:=by refine Qh λj=>?_;by_cases e:q=j;subst e;rw[Mr<|aL h,h];rw[L8 e]
theorem LQ.lt(h:LQ M q):q<M.length:=by obtain⟨n,h⟩:=h;exact aL h
theorem LQ.start(h:LQ M q):Hl M M q:=by obtain⟨n,h⟩:=h;exact⟨n,[],by rw[G7,Co h]⟩
theorem Hl.len(h:Hl M B q):M.length<=B.length:=by obtain⟨n,L,rfl⟩:=h;rw[A1,J7];lia
theorem Hl.hd(a:q<M.length)(h:Hl M B q):LQ B q:=by obtain⟨n,L,rfl⟩:=h;exact⟨n,by rw[J2 (by rw[J7];exact a),Mr a]⟩
theorem Hl.set(a:q<M.length)(h:Hl M B q):Hl M (B.set q<|.lst [.int n]) q:=by obtain⟨f,L,rfl⟩:=h;exact⟨n,L,by rw[List.set_append_left _ _ (by rw[J7];exact a),List.set_set]⟩
theorem Hl.more(h:Hl M B q):Hl M (B++L) q:=by obtain⟨f,b,rfl⟩:=h;exact⟨f,b++L,by rw[G9]⟩
theorem Hl.setO(h:Hl M B q)(d:M.length<=m):Hl M (B.set m x) q:=by obtain⟨f,L,rfl⟩:=h;exact⟨f,L.set (m-M.length) x,by rw[Q7 _ _ (by rw[J7];exact d),J7]⟩
theorem Hl.old(h:Hl M B q)(hi:i≠q)(e:M[i]?=a7 x):B[i]?=a7 x:=by obtain⟨f,L,rfl⟩:=h;rw[J2 (by rw[J7];exact aL e),L8<|w9 hi];exact e
theorem Hl.oldL(h:Hl M B q)(hi:i≠q)(e:ar M i xs):ar B i xs:=by rcases e with e|e|e;exact .inl<|h.old hi e;exact .inr<|.inl<|h.old hi e;exact .inr<|.inr<|h.old hi e
theorem Hl.fin(h:Hl M B q)(b:B7 M.length d)(k:∀n:Int,R d<|M.set q<|.lst [.int n]):bc M R d B:=by obtain⟨f,L,rfl⟩:=h;exact bc.chg (Mx.set .refl<|.cons (.int _) .nil) (k f) b<|G2 _ _
theorem Hl.finL(h:Hl M B q)(d:M.length<=m)(e:B[m]?=a7 (.lst xs))(b:Bels M.length xs)(k:∀n:Int,R (.ref M.length)<|M.set q (.lst [.int n])++[.lst xs]):bc M R (.ref m) B:=by obtain⟨f,L,rfl⟩:=h;exact bc.chgL (Mx.set .refl<|.cons (.int _) .nil) (k f) d e (G2 _ _) b
end
theorem Dz(u:Option Int)(n:Nat):Rx a8 u 1 n=Rx (a7 ((0:Nat):Int)) u 1 n:=by unfold Rx;simp only[show (1:Int) > 0 by decide,p6];congr 1
theorem wJ(x:c6)(b:Nat):(K5 x a8<|a7 (b:Int)).cps.toList=x.cps.toList.take b:=by have e:=jE x (a:=0) (b:=b)<|z8 _;rw[jF]at e ⊢;rw[Dz];rw[e];simp
theorem Cm(x:c6)(b:Nat):(K5 x a8<|a7 (b:Int)).length<=b:=by rw[cf,wJ,G0];lia
theorem Ck{M:t7}{l:List c6}(h:l.length<64):SrtOk M (l.map .str):=⟨by rw[u6];exact h,λx c=>by obtain⟨y,_,rfl⟩:=v8.mp c;rfl,λx c y O=>by obtain⟨a,_,rfl⟩:=v8.mp c;obtain⟨b,_,rfl⟩:=v8.mp O;rfl,.inl λx c=>by obtain⟨y,_,rfl⟩:=v8.mp c;exact⟨y,rfl⟩⟩
theorem sk{ys:List D}{xs:List c6}(h:ys.Perm (xs.map .str)):∃zs:List c6,ys=zs.map .str/\zs.Perm xs:=CC D.str Oi (λ_=>rfl) h
theorem yS:fS (mU kvs k d) k=a7 d:=by
 unfold mU;split;rename_i hs;obtain⟨p,h,e⟩:=LH.mp hs;unfold fS;rw[PY];have l:((λp:c6×D=>decide<|p.1=k) ∘ λp:c6×D=>if p.1=k then(p.1,d)else p)=λp=>decide (p.1=k):=by funext p;show decide ((if p.1=k then(p.1,d)else p).1=k)=decide (p.1=k);split<;>rfl
 rw[l];cases f:kvs.find? λp=>decide (p.1=k) with
 |none=>exact o5 e<|by simpa using List.find?_eq_none.mp f p h
 |some q =>
  have a:q.1=k:=by have:=NZ f;exact oT_ this
  show a7 (if q.1=k then(q.1,d)else q).2=_;rw[o0 a]
 rename_i hs;unfold fS;have:kvs.find? (λp=>decide<|p.1=k)=a8:=List.find?_eq_none.mpr λp h z=>hs<|LH.mpr ⟨p,h,z⟩;rw[Qc,this];simp
theorem xI(h:j≠k):fS (mU kvs k d) j=fS kvs j:=by
 unfold mU;split;unfold fS;rw[PY];have e:((λp:c6×D=>decide<|p.1=j) ∘ λp:c6×D=>if p.1=k then(p.1,d)else p)=λp=>decide (p.1=j):=by funext p;show decide ((if p.1=k then(p.1,d)else p).1=j)=decide (p.1=j);split<;>rfl
 rw[e];cases f:kvs.find? λp=>decide (p.1=j) with
 |none=>rfl
 |some q =>
  have a:q.1=j:=by have:=NZ f;exact oT_ this
  show a7 (if q.1=k then(q.1,d)else q).2=a7 q.2;rw[o4<|by rw[a];exact h]
 unfold fS;rw[Qc];cases f:kvs.find? λp=>decide (p.1=j) with
 |none=>simp[w9 h]
 |some q=>rfl
noncomputable def dE(log:List D)(k name:c6):List D:=(kinds log k).filter λd=>decide<|aR d=name
theorem cM(h:d∈dE log k name):d∈log/\bB d=k/\aR d=name:=⟨(aH (B9.mp h).1).1,(aH (B9.mp h).1).2,oT_ (B9.mp h).2⟩
theorem eP:(dE log k name).length<=log.length:=C7 (LN _ _) bh
theorem kG:dE (log++[d]) k name=dE log k name++if bB d=k/\aR d=name then[d]else[]:=by unfold dE;rw[pp,OD];congr 1;by_cases h1:bB d=k;rw[o0 h1,MZ,List.filter_nil];by_cases h2:aR d=name;rw[dT_ h2,o0 rfl,o0 ⟨h1,h2⟩];rw[dF_ h2,o4 (by decide),o4 λz=>h2 z.2];rw[o4 h1,o4 λz=>h1 z.1];rfl
noncomputable def bj(log:List D)(k name:c6):List D:=(dE log k name).map kn
noncomputable def Rz:D->D×Int
 |.tup [h,.int c]=>(h,c)
 |_=>(.non,0)
noncomputable def Cd:D->List (D×Int)
 |.tup vs=>vs.map Rz
 |_=>[]
theorem vN:Cd (.tup<|kj hs)=hs:=by show (kj hs).map Rz=hs;unfold kj;rw[E8];exact MU _
noncomputable def nR(log:List D)(name r:c6):List D:=((dE log (AA0 "read") name).filter λd=>decide<|aB d=r).map aW
structure VbAt(B:t7)(n:Nat)(tab:List (c6×D))(f:c6->List D):Prop where
 at_:B[n]?=a7 (.dct tab)
 got:∀k d,fS tab k=a7 d->∃m,d=.ref m/\n+1<m/\B[m]?=a7 (.lst<|f k)
 no:∀k,fS tab k=a8->f k=[]
 one:∀k k' m,fS tab k=a7 (.ref m)->fS tab k'=a7 (.ref m)->k=k'
theorem VbAt.pre(h:VbAt B n tab f)(p:B <+: B'):VbAt B' n tab f:=⟨aG p h.at_,λk d a=>let ⟨m,e,l,g⟩:=h.got k d a;⟨m,e,l,aG p g⟩,h.no,h.one⟩
theorem VbAt.kids(h:VbAt B n tab f)(a:B[q0]?=a7 (.lst [])):∃q,(fS tab k).getD (.ref q0)=.ref q/\B[q]?=a7 (.lst<|f k):=by
 cases e:fS tab k with
 |none=>exact⟨q0,rfl,by rw[h.no k e];exact a⟩
 |some d=>obtain⟨m,rfl,_,g⟩:=h.got k d e;exact⟨m,rfl,g⟩
noncomputable def lI(log:List D)(name:c6)(e:D):Bool:=decide (aR e=name)||(decide (t5 e∈bj log (AA0 "seen") name)||(nR log name<|aB e).any λv=>cw (Cd v) (Hj e)<|EU e)
noncomputable def fE(log:List D)(name:c6):List (D×D):=dictOf<|(dE log (AA0 "hush") name).map λd=>(kn d,aW d)
def HushP(log:List D)(name:c6)(w:D):Prop:=ba (fE log name) w=a7 (.bl a9)
noncomputable def bG(log:List D)(name:c6)(w:D):Bool:=decide<|ba (fE log name) w=a7 (.bl a9)
noncomputable def bd(H:D->Bool)(kvs:List (D×D)):List D:=kvs.foldl (λacc p=>if (H p.1||decide (aW p.2∈acc))=a9 then acc++[p.1]else acc) []
theorem eQ:bd H (kvs++[p])=if (H p.1||decide (aW p.2∈bd H kvs))=a9 then bd H kvs++[p.1]else bd H kvs:=by unfold bd;rw[Po];rfl
theorem jQ:∀x∈bd H kvs,x∈kvs.map (·.1):=by refine bD (P:=λkvs=>∀x∈bd H kvs,x∈kvs.map (·.1)) (λx h=>nomatch h) (λkvs p i x h=>?_) kvs;rw[eQ]at h;rw[G5,D7];split at h;rcases D7.mp h with h|h;exact .inl<|i x h;exact .inr h;exact .inl<|i x h
theorem AY:(bd H kvs).length<=kvs.length:=by refine bD (P:=λkvs=>(bd H kvs).length<=kvs.length) (u5 _) (λkvs p i=>?_) kvs;rw[eQ,A1,K0];split;rw[A1,K0];lia;lia
noncomputable def begB(y n:c6):Bool:=Ox y n && !(!gX (K5 y (a7 (n.length:Int))<|a7<|(n.length:Int)+1) "a" && !gX "z" (K5 y (a7 (n.length:Int))<|a7<|(n.length:Int)+1))
noncomputable def cL(s:D)(name:c6):Bool:=match s with
 |.str x=>((J0 x<|AA0 "@").drop 1).any λy=>begB y name
 |_=>bt
noncomputable def IX(rs:List (c6×List c6))(log:List D)(e:D):D:=(ba (aN (aE rs log) log)<|t5 e).getD<|sayO e
noncomputable def dG(rs:List (c6×List c6))(name:c6):List c6:=(rs.filter λp=>decide<|name∈p.2).map (·.1)
noncomputable def lK(kvs:List (D×D))(name:c6):List D:=(kvs.map (·.1)).filter λs=>decide<|aR ((ba kvs s).getD .non)=name
noncomputable def Ca(rs:List (c6×List c6))(log:List D)(name:c6)(e:D):Option c6:=if cL (IX rs log e) name=a9 then a7 (AA0 "named")
 else if aW e∈lK (ak rs log) name then a7 (AA0 "answered")
 else if (bG log name (.tup [.str<|AA0 "room",.str<|aB e])||decide (t5 e∈bd (λs=>bG log name<|.tup [.str<|AA0 "under",s]) (ak rs log)))=a9 then a8 else a7 (AA0 "heard")
noncomputable def zM(rs:List (c6×List c6))(log:List D)(name:c6)(e:D):Bool:=decide (aB e∈dG rs name)&&(!decide (t5 e∈bj log (AA0 "rung") name) && !bG log name (.tup [.str<|AA0 "person",.str<|aR e]))
noncomputable def lU(rs:List (c6×List c6))(log:List D)(name:c6)(e:D):Option D:=if zM rs log name e=a9 then(Ca rs log name e).map λw=>.tup [t5 e,.str w]else a8
noncomputable def cQ(rs:List (c6×List c6))(log:List D)(name:c6):List D:=((aE rs log).map (·.2)).filter λe=>!lI log name e
noncomputable def ka(rs:List (c6×List c6))(log:List D)(name:c6):List D:=(cQ rs log name).filterMap<|lU rs log name
theorem eA.eq(f:eA a)(e:eA b):t8 M t9 a b=decide (a=b):=by
 have l:∀{x y:c6}{c d:D},t8 M t9 (.tup [.str x,c]) (.tup [.str y,d])=((x==y)&&(t8 M 29 c d&&a9)):=λ{x y c d}=>by show (t8 M 29 (.str x) (.str y)&&(t8 M 29 c d&&a9))=_;rw[aM]
 have k:∀{x y:c6}{c d:D},t8 M 29 c d=decide (c=d)->t8 M t9 (.tup [.str x,c]) (.tup [.str y,d])=decide (D.tup [.str x,c]=.tup [.str y,d]):=λ{x y c d} h=>by rw[l,h,Nx];simp
 have s:∀{x y:c6},t8 M 29 (.str x) (.str y)=decide (D.str x=.str y):=λ{x y}=>by rw[aM,Nx];simp
 rcases f with⟨x,rfl⟩|⟨x,rfl⟩|⟨t,z,n,rfl⟩<;>rcases e with⟨y,rfl⟩|⟨y,rfl⟩|⟨t',G,g,rfl⟩
 exact k s;exact k s;exact k<|Eq.trans (b:=bt) rfl (dF_<|λz=>nomatch z).symm;exact k s;exact k s;exact k<|Eq.trans (b:=bt) rfl (dF_<|λz=>nomatch z).symm;exact k<|Eq.trans (b:=bt) rfl (dF_<|λz=>nomatch z).symm;exact k<|Eq.trans (b:=bt) rfl (dF_<|λz=>nomatch z).symm;exact k<|St.eq (n:=27) ⟨_,_,_,rfl⟩ ⟨_,_,_,rfl⟩
theorem gI{M:t7}{l:List D}(h:∀x∈l,eA x):l.all (u8 M t9)=a9:=E9.mpr λx a=>(lq 3 t9 x (by decide) (h x a).pl).1
theorem gP(a:eA x)(h:∀x∈l,eA x):LZ M x l=decide (x∈l):=by unfold LZ;by_cases d:x∈l;rw[dT_ d];exact LH.mpr ⟨x,d,by rw[a.eq a];exact dT_ rfl⟩;rw[dF_ d];refine Mp.mpr λz=>?_;obtain⟨y,O,e⟩:=LH.mp z;rw[(h y O).eq a]at e;exact d<|oT_ e ▸ O
theorem Kt(a:x=.non\/St x)(h:∀x∈l,St x):LZ M x l=decide (x∈l):=by
 rcases a with rfl|a;unfold LZ;have:D.non∉l:=λz=>by obtain⟨t,z,k,e⟩:=h _ z;cases e
 rw[dF_ this];refine Mp.mpr λz=>?_;obtain⟨y,O,e⟩:=LH.mp z;obtain⟨t,z,k,rfl⟩:=h y O;cases e;unfold LZ;by_cases d:x∈l;rw[dT_ d];exact LH.mpr ⟨x,d,by rw[show t9=28+2 from rfl,a.eq a];exact dT_ rfl⟩;rw[dF_ d];refine Mp.mpr λz=>?_;obtain⟨y,O,e⟩:=LH.mp z;rw[show t9=28+2 from rfl,(h y O).eq a]at e;exact d<|oT_ e ▸ O
noncomputable def fB(x:c6):Bool:=!gX x "a" && !gX "z" x
def dN:w6:=λds M R=>∃x:c6,ds=[.str x]/\R (.bl<|fB x) M
theorem qk:cI dN iI:=by rintro ds M R ⟨x,rfl,_⟩;rfl
def mG:s9:=bp<|tM Oj Oj (dC<|.str "a") (ab 0)<|dC<|.str "z"
theorem qN:z5 dN 1 mG:=by
 rintro ds M R ⟨x,rfl,h⟩;unfold mG;walk_at"dl";unfold fB at h;cases e:gX x "a" with
 |true=>rw[e]at h;exact bq<|bc.now h
 |false=>rw[e]at h;exact bA<|bc.now h
theorem sy(T:Tops P w K mg base):u9 P w K mg base 1 "is_letter" iI dN:=u9.byD (N:=["sign"]) T.b T.f_is_letter (by walk_at"sc") qk (by walk_at"dv") qN
noncomputable def Az(c:Nat):Bool:=decide (97<=c)&&decide (c<=122)
theorem qr(c:Nat):fB ⟨#[c]⟩=Az c:=by
 have l:∀a b:Nat,decide ([a] < [b])=decide (a<b):=λa b=>by rw[StrLaws.lt_cons_cons,StrLaws.lt_nil_nil];simp
 have t:gX ⟨#[c]⟩ "a" = decide (c<97):=l c 97;have e:gX "z" ⟨#[c]⟩=decide (122<c):=l 122 c;unfold fB Az;rw[t,e,Nx];simp only[D3,Pm,decide_eq_false_iff_not,o6];lia
theorem oi(x:c6)(h:x.cps.toList=[]):fB x=bt:=by have:x=⟨#[]⟩:=kq h;subst this;unfold fB;have:gX (⟨#[]⟩:c6) "a" = a9:=StrLaws.lt_nil_cons 97 [];rw[this];rfl
noncomputable def gB(t n:c6):Bool:=Ox t n && !fB (K5 t (a7 (n.length:Int))<|a7<|(n.length:Int)+1)
def bz:w6:=λds M R=>∃t n:c6,ds=[.str t,.str n]/\t.length<=100/\n.length<=100/\R (.bl<|gB t n) M
theorem gZ:cI bz cb:=by rintro ds M R ⟨t,n,rfl,_⟩;rfl
def cU:s9:=bp<|tN (OS mS (ab 0)<|aa (ab 1) af)<|El<|t6 dN<|aa (ab 2) af
def dF:s9:=ax (bb (Mg (ab 0) (gx<|t6 lJ<|aa (ab 1) af)<|gx<|r9 bn (t6 lJ<|aa (ab 1) af)<|dC<|.int 1) 2)<|cU
theorem iz:z5 bz 3 dF:=by
 rintro ds M R ⟨t,n,rfl,D,f,h⟩;simp only[dF,cU];walk_at"dl";refine⟨am (by lia),am (by lia),am (by lia),?_⟩;unfold gB at h;cases e:Ox t n with
 |false=>rw[e]at h;exact bq<|bc.now h
 |true=>rw[e]at h;exact bA ⟨_,rfl,bc.now h⟩
theorem iQ(T:Tops P w K mg base):u9 P w K mg base 2 "begins_with_name" cb bz:=u9.byD (N:=["text","name","behind"]) T.b T.f_begins_with_name (by walk_at"sc") gZ (by have:=sy T;walk_at"dv") iz
def fM:w6:=λds M R=>∃s n:c6,ds=[.str s,.str n]/\s.length<=100/\n.length<=100/\R (.bl<|cL (.str s) n) M
theorem sS:cI fM kC:=by rintro ds M R ⟨t,n,rfl,_⟩;rfl
theorem zI(x y:c6):(J0 x y).length<=x.length+2:=by unfold J0;split;simp;split;simp;rw[length_partsBetween];have:=StrLaws.occ_length_le x y 0 x.length<|x.length+1;lia
theorem cut1:cutD xs (a7 1) a8=xs.drop 1:=by unfold cutD;rw[HT.sIx_none,show (1:Int)=((1:Nat):Int)from rfl,HT.sIx_nat];by_cases h:1<=xs.length;rw[Ph h,Py<|by rw[Mn];exact u5 _];have:xs=[]:=Ry (by lia);subst this;rfl
def oQ:s9:=bp<|t6 Io<|aa (E5 1 [1] (bV<|Mg (OS se (ab 0)<|aa (dC<|.str "@") af) (gx<|dC<|.int 1) fH) (ah 0) vD<|t6 bz<|aa (ab 0)<|aa (ab 1) af) af
theorem ug:z5 fM 2 oQ:=by
 rintro ds M R ⟨s,n,rfl,hs,l,h⟩;simp only[oQ];walk_at"dl";have m:=zI s<|AA0 "@";refine⟨⟨by decide,am (by lia),am<|by lia⟩,_,aw,_,aw,λ_=>?_⟩;rw[cut1];refine cj (λd=>match d with|.str y=>.bl (gB y n)|_=>.non) (λS=>∃a,S=[a,a7<|.str n]) aw _ _ _ (λx b S ⟨a,c⟩=>?_) ⟨_,rfl⟩ ?_ ?_;rw[<-O8]at b;obtain⟨y,O,rfl⟩:=v8.mp b;subst c;refine⟨[a7<|.str y,a7<|.str n],⟨_,rfl⟩,λY e=>?_⟩;walk_at"dl";refine⟨y,n,rfl,?_,l,e⟩;obtain⟨k,i,j,_,_,rfl⟩:=(kt s 64 (by decide) y).mp O;rw[cf,StrLaws.strSub_toList,G0,Mn,<-cf];lia;rw[C8,Mn,u6];exact am (by lia);refine⟨((J0 s<|AA0 "@").drop 1).map (gB · n),?_,?_⟩;have:([]++((List.map D.str<|J0 s<|AA0 "@").drop 1).map λd=>match d with|.str y=>D.bl (gB y n)|_=>.non)=bls (((J0 s<|AA0 "@").drop 1).map (gB · n)):=by rw[G6,<-O8,E8];unfold bls;rw[E8];rfl
 rw[this];exact aw;have:(((J0 s<|AA0 "@").drop 1).map (gB · n)).any id=cL (.str s) n:=by rw[O5];rfl
 rw[this];exact bc.bl h<|by rw[G9,G9];exact G2 _ _
theorem uL(T:Tops P w K mg base):u9 P w K mg base 3 "is_named" kC fM:=u9.byD (N:=["saying","name"]) T.b T.f_is_named (by walk_at"sc") sS (by have:=iQ T;walk_at"dv") ug
def fK:w6:=λds M R=>∃(ps:List (c6×Int)) (a:List (c6×List c6)) (e:c6),ds=[aI ps a,.str e]/\a.length<=1000/\R (.ref M.length) (M++[.lst<|(dG a e).map .str])
theorem sQ:cI fK kA:=by rintro ds M R ⟨ps,a,e,rfl,_⟩;rfl
def oO:s9:=bp<|E5 1 [1] (bV<|r9 u7 (ab 0)<|dC<|.int 1) (ah 0) (aq<|r9 LP (ab 1)<|r9 u7 (ab 0)<|dC<|.int 1)<|r9 u7 (ab 0)<|dC<|.int 0
theorem ue:z5 fK 2 oO:=by
 rintro ds M R ⟨ps,s,n,rfl,g,h⟩;simp only[oO,aI];walk_at"dl";intro _;refine aU (λd=>match d with|.tup [_,.tup ms]=>decide (D.str n∈ms)|_=>bt) (λd=>match d with|.tup (x::_)=>x|_=>.non) (λS=>∃a,S=[a,a7<|.str n]) trivial _ _ _ ?_ ⟨_,rfl⟩ (by rw[C8,u6];exact am<|by lia) ?_;rintro d m S ⟨a,rfl⟩;obtain⟨p,c,rfl⟩:=v8.mp m;refine⟨[a7<|fZ p,a7<|.str n],⟨_,rfl⟩,λY Z b=>?_⟩;have b:if decide (D.str n∈p.2.map D.str)=a9 then Y (.str p.1) [a7<|fZ p,a7<|.str n] M else Z [a7<|fZ p,a7<|.str n] M:=b
 have J:(D.str n∈p.2.map D.str)↔n∈p.2:=by constructor;intro z;obtain⟨y,O,e⟩:=v8.mp z;injection e with e;exact e ▸ O;exact λz=>LK z
 unfold fZ at b ⊢;walk_at"dl";refine⟨⟨ao,mN⟩,?_⟩;rw[nD];by_cases e:n∈p.2;rw[dT_ e];rw[dT_<|J.mpr e]at b;exact b;rw[dF_ e];rw[dF_<|λz=>e<|J.mp z]at b;exact b;rw[G6,List.filter_map,E8];have e:((s.filter<|(λd:D=>match d with|.tup [_,.tup ms]=>decide (D.str n∈ms)|_=>bt) ∘ fZ).map<|(λd:D=>match d with|.tup (x::_)=>x|_=>.non) ∘ fZ)=(dG s n).map .str:=by
  unfold dG;rw[E8];have:((λd:D=>match d with|.tup [_,.tup ms]=>decide (D.str n∈ms)|_=>bt) ∘ fZ)=λp:c6×List c6=>decide (n∈p.2):=by funext p;show decide (D.str n∈p.2.map D.str)=decide (n∈p.2);rw[decide_eq_decide];constructor;intro z;obtain⟨y,O,e⟩:=v8.mp z;injection e with e;exact e ▸ O;exact λz=>LK z
  rw[this];rfl
 rw[e];exact .inl h
theorem uJ(T:Tops P w K mg base):u9 P w K mg base 1 "rooms_of" kA fK:=u9.byD (N:=["house","name"]) T.b T.f_rooms_of (by walk_at"sc") sQ (by walk_at"dv") ue
def cY:w6:=λds M R=>∃(ps:List (c6×Int)) (a:List (c6×List c6)) (r:c6),ds=[aI ps a,.str r]/\r∈a.map (·.1)/\R (.tup<|(ub a r).map .str) M
theorem oh:cI cY gh:=by rintro ds M R ⟨ps,a,r,rfl,_⟩;rfl
theorem nw:ub (p::rs) r=if p.1=r then p.2 else ub rs r:=by unfold ub;rw[L4];by_cases h:p.1=r;rw[dT_ h,o0 h];rfl;rw[dF_ h,o4 h]
def nS:s9:=xq
def kW:s9:=ax (lC (bV<|r9 u7 (ab 0)<|dC<|.int 1) (jV 2<|aT (ah 2)<|aT (ah 3) jW)<|A0 (aq<|r9 A2 (ab 2)<|ab 1) (bp<|ab 3) aX)<|nS
theorem pJ:z5 cY 4 kW:=by
 rintro ds M R ⟨ps,s,r,rfl,i,h⟩;simp only[kW,aI];walk_at"dl";intro _;refine jY (λys S c=>∃qs a b,ys=qs.map fZ/\c=M/\S=[a7<|aI ps s,a7<|.str r,a,b]/\ub s r=ub qs r/\r∈qs.map (·.1)) ?_ ?_ _ _ _ ⟨s,_,_,rfl,rfl,rfl,rfl,i⟩;rintro S c ⟨qs,a,b,q,rfl,rfl,e,d⟩;have:qs=[]:=by cases qs<;>simp_all
 subst this;cases d;rintro x xs S c ⟨qs,a,b,q,rfl,rfl,e,d⟩ L f;cases qs with
 |nil=>cases q
 |cons p qs=>rw[C0]at q;injection q with h1 h2;subst h1;refine⟨trivial,?_⟩;unfold fZ;walk_at"dl";refine⟨trivial,⟨ao,ao⟩,?_⟩;rw[aM];rw[nw]at e;by_cases q:p.1=r;rw[beq_iff_eq.mpr q];rw[o0 q]at e;refine bA<|bc.now ?_;rw[<-e];exact h;rw[beq_eq_false_iff_ne.mpr q];rw[o4 q]at e;rw[C0,x6]at d;exact bq<|z6.now<|f _ _ ⟨qs,_,_,h2,rfl,rfl,e,d.resolve_left<|w9 q⟩
theorem qd(T:Tops P w K mg base):u9 P w K mg base 1 "members_of" gh cY:=u9.byD (N:=["house","room","told","members"]) T.b T.f_members_of (by walk_at"sc") oh (by walk_at"dv") pJ
def cF:w6:=λds M R=>∃(a b:D) (r:List D),ds=[.tup<|a::b::r]/\R (.tup [a,b]) M
theorem sP:cI cF kz:=by rintro ds M R ⟨a,b,r,rfl,_⟩;rfl
def oE:s9:=bp<|eG<|aa (r9 u7 (ab 0)<|dC<|.int 0)<|aa (r9 u7 (ab 0)<|dC<|.int 1) af
theorem ud:z5 cF 1 oE:=by rintro ds M R ⟨a,b,r,rfl,h⟩;simp only[oE];walk_at"dl";exact⟨am (by lia),bc.now h⟩
theorem iO(T:Tops P w K mg base):u9 P w K mg base 1 "stamp_of" kz cF:=u9.byD (N:=["deed"]) T.b T.f_stamp_of (by walk_at"sc") sP (by walk_at"dv") ud
def aZ:w6:=λds M R=>∃(t x:D) (r m:List D),ds=[.tup<|t::.tup (x::r)::m]/\R x M
theorem qi:cI aZ iG:=by rintro ds M R ⟨t,x,r,m,rfl,_⟩;rfl
def mB:s9:=bp<|r9 u7 (r9 u7 (ab 0)<|dC<|.int 1)<|dC<|.int 0
theorem qK:z5 aZ 1 mB:=by rintro ds M R ⟨t,x,r,m,rfl,h⟩;simp only[mB];walk_at"dl";exact bc.now h
theorem bW(T:Tops P w K mg base):u9 P w K mg base 1 "person_of" iG aZ:=u9.byD (N:=["deed"]) T.b T.f_person_of (by walk_at"sc") qi (by walk_at"dv") qK
def dL:w6:=λds M R=>∃(t d:D) (m:Int) (r:List D) (hs:List (D×Int)),ds=[.tup<|t::d::.int m::r,.tup<|kj hs]/\Hd d/\(∀p∈hs,Hd p.1)/\hs.length<=1000/\R (.bl<|cw hs d m) M
theorem qj:cI dL iH:=by rintro ds M R ⟨t,d,m,r,hs,rfl,_⟩;rfl
def jm:s9:=bp<|dC<|.bl bt
def mE:s9:=ax (lC (bV<|ab 1) (jV 2<|aT (ah 2)<|aT (ah 3) jW)<|A0 (aq<|r9 A2 (ab 2)<|r9 u7 (ab 0)<|dC<|.int 1) (bp<|r9 Nm (r9 u7 (ab 0)<|dC<|.int 2)<|ab 3) aX)<|jm
theorem qL:z5 dL 4 mE:=by
 rintro ds M R ⟨t,d,m,r,hs,rfl,f,v,s,h⟩;simp only[mE];walk_at"dl";refine λ_=>?_;refine jY (λys S c=>c=M/\∃qs a b,ys=kj qs/\(∀p∈qs,Hd p.1)/\cw qs d m=cw hs d m/\S=[a7<|.tup<|t::d::.int m::r,a7<|.tup<|kj hs,a,b]) ?_ ?_ _ _ _ ⟨rfl,hs,_,_,rfl,v,rfl,rfl⟩;rintro S c ⟨rfl,qs,a,b,e,_,w,rfl⟩;obtain rfl:qs=[]:=by
  cases qs with
  |nil=>rfl
  |cons q qs=>cases e
 rw[<-w]at h;refine⟨trivial,?_⟩;simp only[jm];walk_at"dl";exact bc.now h;rintro x xs S c ⟨rfl,qs,a,b,e,i,w,rfl⟩ G l;cases qs with
 |nil=>cases e
 |cons q qs =>
  have j:x=.tup [q.1,.int q.2]/\xs=kj qs:=by unfold kj at e ⊢;rw[C0]at e;injection e with e1 e2;exact⟨e1,e2⟩
  obtain⟨rfl,rfl⟩:=j;refine⟨trivial,?_⟩;have Q:=i q (by simp);walk_at"dl";refine⟨trivial,⟨KB Q,KB f⟩,?_⟩;cases g:t8 c t9 q.1 d with
  |true =>
   have e:=(KC (n:=29) Q f).mp g;have k:cw (q::qs) d m=decide (m<q.2):=by unfold cw;rw[L4,dT_ e]
   rw[<-w,k]at h;exact bA<|bc.now h
  |false =>
   have e:q.1≠d:=λz=>by have:=(KC (M:=c) (n:=29) Q f).mpr z;rw[show t8 c (29+1) q.1 d=t8 c t9 q.1 d from rfl,g]at this;cases this
   refine bq<|z6.now<|l _ _ ⟨rfl,qs,_,_,rfl,λp o=>i p<|A6 _ o,?_,rfl⟩;rw[<-w];unfold cw;rw[L4,dF_ e]
theorem sw(T:Tops P w K mg base):u9 P w K mg base 1 "is_within" iH dL:=u9.byD (N:=["deed","vector","hand","count"]) T.b T.f_is_within (by walk_at"sc") qj (by walk_at"dv") qL
def bg:w6:=λds M R=>∃(ps:List (c6×Int)) (a:List (c6×List c6)) (log:List D) (k:c6),ds=[.tup log,.str k]/\(∀d∈log,aJ ps a d)/\log.length<=1000/\R (.ref M.length) (M++[.lst<|kinds log k])
theorem kJ:cI bg dw:=by rintro ds M R ⟨ps,a,log,k,rfl,_⟩;rfl
def fW:s9:=bp<|E5 1 [1] (bV<|ab 0) (ah 0) (aq<|r9 A2 (r9 u7 (r9 u7 (ab 0)<|dC<|.int 3)<|dC<|.int 0)<|ab 1)<|ab 0
theorem lG:z5 bg 2 fW:=by rintro ds M R ⟨ps,s,log,k,rfl,g,l,h⟩;simp only[fW];walk_at"dl";intro _;refine aU (λd=>decide<|bB d=k) id (λS=>∃a,S=[a,a7<|.str k]) trivial _ _ _ ?_ ⟨_,rfl⟩ (by rw[C8];exact am<|by lia) (by rw[G6,MU];exact .inl h);rintro d i S ⟨a,rfl⟩;obtain⟨t,z,H,m,x,ds,rfl,_⟩:=g d i;refine⟨[a7<|.tup [.int t,.tup [.str z,.int H],.int m,.tup<|.str x::ds],a7<|.str k],⟨_,rfl⟩,λY Z b=>?_⟩;walk_at"dl";have f:atI [D.int t,.tup [.str z,.int H],.int m,.tup<|.str x::ds] 3=a7 (.tup<|.str x::ds):=aF (j:=3) rfl;rw[f];dsimp only;rw[OU];refine⟨⟨ao,ao⟩,?_⟩;rw[aM];have c:bB (.tup [.int t,.tup [.str z,.int H],.int m,.tup<|.str x::ds])=x:=rfl;rw[c]at b;by_cases e:x=k;rw[beq_iff_eq.mpr e];rw[dT_ e]at b;exact bA b;rw[beq_eq_false_iff_ne.mpr e];rw[dF_ e]at b;exact bq b
theorem cR(T:Tops P w K mg base):u9 P w K mg base 1 "deeds_of_kind" dw bg:=u9.byD (N:=["log","kind"]) T.b T.f_deeds_of_kind (by walk_at"sc") kJ (by walk_at"dv") lG
def cG:w6:=λds M R=>∃(ps:List (c6×Int)) (a:List (c6×List c6)) (log:List D) (k e:c6),ds=[.tup log,.str k,.str e]/\(∀d∈log,aJ ps a d)/\log.length<=1000/\R (.ref M.length) (M++[.lst<|dE log k e])
theorem sT:cI cG kD:=by rintro ds M R ⟨ps,a,log,k,e,rfl,_⟩;rfl
def oY:s9:=bp<|E5 1 [2] (bV<|t6 bg<|aa (ab 0)<|aa (ab 1) af) (ah 0) (aq<|r9 A2 (t6 aZ<|aa (ab 0) af)<|ab 1)<|ab 0
theorem uh:z5 cG 3 oY:=by rintro ds M R ⟨ps,rs,log,k,n,rfl,c,g,h⟩;simp only[oY];walk_at"dl";unfold dE at h;have f:∀d∈kinds log k,aJ ps rs d:=λd q=>c d (B9.mp q).1;have l:(kinds log k).length<=1000:=C7 bh g;refine⟨ps,rs,log,k,rfl,c,g,?_⟩;generalize kinds log k=F at f l h;refine⟨F,aw,λ_=>?_⟩;refine aU (λd=>decide<|aR d=n) id (λS=>∃a,S=[a,a7<|.str n]) aw _ _ _ ?_ ⟨_,rfl⟩ (by rw[C8];exact am<|by lia) ?_;rintro d j S ⟨a,rfl⟩;obtain⟨t,z,H,m,x,ds,rfl,_⟩:=f d j;refine⟨[a7<|.tup [.int t,.tup [.str z,.int H],.int m,.tup<|.str x::ds],a7<|.str n],⟨_,rfl⟩,λY Z b=>?_⟩;walk_at"dl";refine⟨_,_,_,_,rfl,⟨ao,ao⟩,?_⟩;rw[aM];have i:aR (.tup [.int t,.tup [.str z,.int H],.int m,.tup<|.str x::ds])=z:=rfl;rw[i]at b;by_cases e:z=n;rw[beq_iff_eq.mpr e];rw[dT_ e]at b;exact bA b;rw[beq_eq_false_iff_ne.mpr e];rw[dF_ e]at b;exact bq b;rw[G6,MU,G9];exact bc.lst h (by simp) (by simp)<|aJ.bels (ps:=ps) (rs:=rs) λd q=>f d (B9.mp q).1
theorem iP(T:Tops P w K mg base):u9 P w K mg base 2 "deeds_by" kD cG:=u9.byD (N:=["log","kind","name"]) T.b T.f_deeds_by (by walk_at"sc") sT (by have:=bW T;have:=cR T;walk_at"dv") uh
def bO:w6:=λds M R=>∃(ps:List (c6×Int)) (a:List (c6×List c6)) (log:List D) (k e:c6),ds=[.tup log,.str k,.str e]/\(∀d∈log,aJ ps a d)/\log.length<=1000/\(k=AA0 "seen"\/k=AA0 "rung")/\((∀x∈bj log k e,St x)->R (.ref M.length) (M++[.lst<|bj log k e]))
theorem nA:cI bO fq:=by rintro ds M R ⟨ps,a,log,k,e,rfl,_⟩;rfl
def ji:s9:=bp<|E5 1 [] (bV<|t6 cG<|aa (ab 0)<|aa (ab 1)<|aa (ab 2) af) (ah 0) vD<|r9 u7 (r9 u7 (ab 0)<|dC<|.int 3)<|dC<|.int 1
theorem nO:z5 bO 3 ji:=by
 rintro ds M R ⟨ps,u,log,k,name,rfl,f,p,o,h⟩;simp only[ji];walk_at"dl";refine⟨ps,u,log,k,name,rfl,f,p,?_⟩;have s:=eP (log:=log) (k:=k) (name:=name);have i:∀d∈dE log k name,∃(t:Int) (z:c6) (k n:Int) (x:c6) (m:D),d=.tup [.int t,.tup [.str z,.int k],.int n,.tup [.str x,m]]/\St m:=λd b=>by obtain⟨h1,h2,_⟩:=cM b;exact uz (f d h1)<|o.imp (λe=>h2.trans e) λe=>h2.trans e
 have T:bj log k name=(dE log k name).map kn:=rfl;rw[T]at h;generalize dE log k name=F at s i h;have c:∀x∈F.map kn,St x:=λx r=>by obtain⟨d,b,rfl⟩:=v8.mp r;obtain⟨t,z,k,n,x,m,rfl,hs⟩:=i d b;exact hs
 refine⟨F,aw,λ_=>?_⟩;refine cj kn (λS=>∃a,S=[a]) aw _ _ _ (λd b S c=>?_) ⟨_,rfl⟩ (by rw[C8];exact am<|by lia) ?_;obtain⟨a,rfl⟩:=c;obtain⟨t,z,k,n,x,m,rfl,_⟩:=i d b;refine⟨[a7<|.tup [.int t,.tup [.str z,.int k],.int n,.tup [.str x,m]]],⟨_,rfl⟩,λY l=>?_⟩;walk_at"dl";have g:atI [D.int t,.tup [.str z,.int k],.int n,.tup [.str x,m]] 3=a7 (.tup [.str x,m]):=aF (j:=3) rfl;rw[g];dsimp only;rw[Mt];exact l;rw[G6,G9];exact bc.lst (h c) (by simp) (by simp)<|Bels.of λd q=>cx 2 d (c d q).pl
theorem ip(T:Tops P w K mg base):u9 P w K mg base 3 "stamps_told" fq bO:=u9.byD (N:=["log","kind","name"]) T.b T.f_stamps_told (by walk_at"sc") nA (by have:=iP T;walk_at"dv") nO
def dO:w6:=λds M R=>∃(ps:List (c6×Int)) (a:List (c6×List c6)) (log:List D) (e:c6),ds=[.tup log,.str e]/\(∀d∈log,aJ ps a d)/\(dE log (AA0 "hush") e).length<64/\log.length<=1000/\∀ys:List D,(∀w∈ys,eA w)->(∀w,w∈ys↔ba (fE log e) w=a7 (.bl a9))->R (.ref M.length) (M++[.lst ys])
theorem qm:cI dO iJ:=by rintro ds M R ⟨ps,a,log,e,rfl,_⟩;rfl
theorem tH(ps:List (D×D))(h:p∈dictOf ps):p∈ps:=by revert h;refine bD (P:=λps=>p∈dictOf ps->p∈ps) (λh=>h) (λps q i h=>?_) ps;rw[bT]at h;rcases gM h with rfl|h;simp;exact LM _<|i h
theorem nH(l:List (D×D)):((dictOf l).map (·.1)).Nodup:=by refine bD (P:=λl=>((dictOf l).map (·.1)).Nodup) .nil (λl p i=>?_) l;rw[bT];exact pT i
def jn:s9:=bp<|t6 ku<|aa (E5 1 [2] (lB<|ab 2) (ah 0) (aq<|lT (ab 1)<|ab 0)<|ab 0) af
def mH:s9:=ax (bb (t6 iD<|aa (E5 1 [] (bV<|t6 cG<|aa (ab 0)<|aa (dC<|.str "hush")<|aa (ab 1) af) (ah 0) vD<|eG<|aa (r9 u7 (r9 u7 (ab 0)<|dC<|.int 3)<|dC<|.int 1)<|aa (r9 u7 (r9 u7 (ab 0)<|dC<|.int 3)<|dC<|.int 2) af) af) 2)<|jn
theorem qO:z5 dO 3 mH:=by
 rintro ds M R ⟨ps,rs,log,name,rfl,v,G,V,h⟩;simp only[mH];walk_at"dl";refine⟨ps,rs,log,AA0 "hush",name,rfl,v,V,?_⟩;have ml:=eP (log:=log) (k:=AA0 "hush") (name:=name);have C:∀d∈dE log (AA0 "hush") name,∃(t:Int) (z:c6) (k n:Int) (w:D) (b:Bool),d=.tup [.int t,.tup [.str z,.int k],.int n,.tup [.str<|AA0 "hush",w,.bl b]]/\eA w:=λd m=>by obtain⟨h1,h2,_⟩:=cM m;exact AX (v d h1) h2
 have T:fE log name=dictOf ((dE log (AA0 "hush") name).map λd=>(kn d,aW d)):=rfl;rw[T]at h;generalize dE log (AA0 "hush") name=F at ml C h G;refine⟨F,aw,λ_=>?_⟩;refine cj (λd=>.tup [kn d,aW d]) (λS=>∃a,S=[a]) aw _ _ _ (λd m S P=>?_) ⟨_,rfl⟩ (by rw[C8];exact am<|by lia) ?_;obtain⟨a,rfl⟩:=P;obtain⟨t,z,k,n,w,b,rfl,_⟩:=C d m;refine⟨[a7<|.tup [.int t,.tup [.str z,.int k],.int n,.tup [.str<|AA0 "hush",w,.bl b]]],⟨_,rfl⟩,λY U=>?_⟩;walk_at"dl";have I:atI [D.int t,.tup [.str z,.int k],.int n,.tup [.str<|AA0 "hush",w,.bl b]] 3=a7 (.tup [.str<|AA0 "hush",w,.bl b]):=aF (j:=3) rfl;rw[I];dsimp only;rw[Mt];dsimp only;rw[NK];exact⟨am (by lia),U⟩;rw[G6];have K:F.map (λd=>D.tup [kn d,aW d])=(F.map λd=>(kn d,aW d)).map λp=>.tup [p.1,p.2]:=by rw[E8];rfl
 rw[K];have l:∀p∈F.map λd=>(kn d,aW d),eA p.1/\∃b,p.2=.bl b:=λp m=>by obtain⟨d,X,rfl⟩:=v8.mp m;obtain⟨t,z,k,n,w,b,rfl,i⟩:=C d X;exact⟨i,b,rfl⟩
 have pl:(F.map λd=>(kn d,aW d)).length=F.length:=u6 _;generalize (F.map λd=>(kn d,aW d))=qs at h l pl;refine⟨qs,aw,λp m=>?_,by lia,?_⟩;obtain⟨ks,e⟩:=(l p m).1.tup;exact⟨(l p m).1.key,by rw[e];rfl⟩;simp only[jn];walk_at"dl";have H:=nH qs;have A:∀p∈dictOf qs,eA p.1/\∃b,p.2=.bl b:=λp m=>l p<|tH _ m;have W:=cZ (ps:=qs);generalize dictOf qs=c at h H A W;refine⟨c,ae,λ_=>?_⟩;generalize N:M++[MO.lst F]++[MO.lst<|qs.map λp=>.tup [p.1,p.2]]=B;have pB:M <+: B:=by rw[<-N,G9];exact G2 _ _
 refine aU (λw=>decide<|ba c w=a7 (.bl a9)) id (λS=>∃a,S=[a,a7<|.ref B.length]) ae _ _ _ ?_ ⟨_,rfl⟩ (by rw[C8,u6];exact am<|by lia) ?_;rintro x m S ⟨a,rfl⟩;obtain⟨q,o,rfl⟩:=v8.mp m;have y:=cS H o;obtain⟨s,b,J⟩:=A q o;refine⟨[a7 q.1,a7<|.ref B.length],⟨_,rfl⟩,λY Z g=>?_⟩;rw[J]at y;rw[y]at g;obtain⟨ks,e⟩:=s.tup;have E:=s.key;rw[e]at g y E ⊢;walk_at"dl";refine⟨c,_,ae,E,y,?_⟩;cases b with
 |true=>rw[dT_ rfl]at g;exact bA g
 |false=>rw[dF_<|by simp]at g;exact bq g
 rw[G6,MU];have m:∀w,w∈(c.map (·.1)).filter (λw=>decide<|ba c w=a7 (.bl a9))↔ba c w=a7 (.bl a9):=λw=>by rw[B9,o7];exact⟨λz=>z.2,λz=>⟨LK (f:=(·.1))<|bx z,z⟩⟩
 have i:∀w∈(c.map (·.1)).filter (λw=>decide<|ba c w=a7 (.bl a9)),eA w:=λw i=>by obtain⟨p,l,rfl⟩:=v8.mp (B9.mp i).1;exact(A p l).1
 have Q:((c.map (·.1)).filter<|λw=>decide<|ba c w=a7 (.bl a9)).length<64:=by have:=LN (λw=>decide<|ba c w=a7 (.bl a9)) (c.map (·.1));rw[u6]at this;lia
 generalize (c.map (·.1)).filter (λw=>decide<|ba c w=a7 (.bl a9))=L at m i Q;refine⟨L,aw,yQ i Q,λys O hr=>?_⟩;obtain⟨u,rfl⟩:∃u,B=M++u:=by obtain⟨u,e⟩:=pB;exact⟨u,e.symm⟩
 have r:∀w∈ys,eA w:=λw q=>i w<|O.mem_iff.mp q;rw[G9,G9,G9];exact bc.lst (h ys r λw=>O.mem_iff.trans<|m w) (by simp) (by simp)<|Bels.of λd v=>cx 3 d (r d v).pl
theorem sA(T:Tops P w K mg base):u9 P w K mg base 3 "hushes_of" iJ dO:=u9.byD (N:=["log","name","hushes"]) T.b T.f_hushes_of (by walk_at"sc") qm (by have:=iP T;walk_at"dv") qO
def bX:w6:=λds M R=>∃(a b c x r:D) (l:List D),ds=[.tup [a,b,c,.tup<|x::r::l]]/\R r M
theorem uX:cI bX mY:=by rintro ds M R ⟨a,b,c,x,r,l,rfl,_⟩;rfl
def qX:s9:=bp<|r9 u7 (r9 u7 (ab 0)<|dC<|.int 3)<|dC<|.int 1
theorem xA:z5 bX 1 qX:=by rintro ds M R ⟨a,b,c,x,r,l,rfl,h⟩;simp only[qX];walk_at"dl";have e:atI [a,b,c,.tup<|x::r::l] 3=a7 (.tup<|x::r::l):=aF (j:=3) rfl;rw[e];dsimp only;rw[Mt];exact bc.now h
theorem kF(T:Tops P w K mg base):u9 P w K mg base 1 "room_of" mY bX:=u9.byD (N:=["say"]) T.b T.f_room_of (by walk_at"sc") uX (by walk_at"dv") xA
def cE:w6:=λds M R=>∃(a b c x r u:D) (l:List D),ds=[.tup [a,b,c,.tup<|x::r::u::l]]/\R u M
theorem sO:cI cE kw:=by rintro ds M R ⟨a,b,c,x,r,u,l,rfl,_⟩;rfl
def oB:s9:=bp<|r9 u7 (r9 u7 (ab 0)<|dC<|.int 3)<|dC<|.int 2
theorem uc:z5 cE 1 oB:=by rintro ds M R ⟨a,b,c,x,r,u,l,rfl,h⟩;simp only[oB];walk_at"dl";have d:atI [a,b,c,.tup<|x::r::u::l] 3=a7 (.tup<|x::r::u::l):=aF (j:=3) rfl;have e:atI (x::r::u::l) 2=a7 u:=aF (j:=2) rfl;rw[d];dsimp only;rw[e];exact bc.now h
theorem iN(T:Tops P w K mg base):u9 P w K mg base 1 "under_of" kw cE:=u9.byD (N:=["say"]) T.b T.f_under_of (by walk_at"sc") sO (by walk_at"dv") uc
def dR:w6:=λds M R=>∃(ps:List (c6×Int)) (a:List (c6×List c6)) (d:D) (q:Nat) (s:List (D×D)),ds=[aI ps a,d,.ref q]/\aJ ps a d/\bB d=AA0 "say"/\M[q]?=a7 (.dkt s)/\(∀p∈s,aJ ps a p.2/\bB p.2=AA0 "say")/\R (.bl<|ii a s d) M
theorem qp:cI dR iL:=by rintro ds M R ⟨ps,a,d,q,s,rfl,_⟩;rfl
def ju:s9:=bp<|Ir (r9 ON (ab 3)<|dC .non)<|tN (r9 Im (ab 3)<|ab 2)<|r9 A2 (t6 bX<|aa (lT (ab 2)<|ab 3) af)<|t6 bX<|aa (ab 1) af
def jv:s9:=ax (bb (t6 cE<|aa (ab 1) af) 3)<|ju
def mL:s9:=ax (A0 (aq<|r9 lh (t6 aZ<|aa (ab 1) af)<|t6 cY<|aa (ab 0)<|aa (t6 bX<|aa (ab 1) af) af) (bp<|dC<|.bl bt) aX)<|jv
theorem qQ:z5 dR 4 mL:=by
 rintro ds M R ⟨ps,b,d,q,a,rfl,p,w,j,y,h⟩;obtain⟨t,z,k,m,r,u,s,rfl,_,_,x,g⟩:=fY p w;simp only[mL];walk_at"dl";refine⟨_,_,_,_,rfl,_,_,_,_,_,_,rfl,ps,b,r,rfl,x,⟨ao,mN⟩,?_⟩;rw[nD];have n:ii b a (.tup [.int t,.tup [.str z,.int k],.int m,.tup [.str<|AA0 "say",.str r,u,.str s]])=(decide (z∈ub b r)&&(decide (u=.non)||match ba a u with
  |some e=>decide<|aB e=r
  |none=>bt)):=rfl
 rw[n]at h;by_cases i:z∈ub b r;rw[dT_ i]at h ⊢;refine bq ?_;simp only[jv,ju];walk_at"dl";refine⟨_,_,_,_,_,u,_,rfl,?_⟩;rcases g with rfl|g;walk_at"dl";refine bc.now ?_;simpa using h;obtain⟨t',G,H,rfl⟩:=g;rw[dF_<|by intro e;cases e]at h;walk_at"dl";refine⟨a,j,rfl,?_⟩;cases S:ba a (.tup [.int t',.tup [.str G,.int H]]) with
 |none=>rw[S]at h;exact bq<|bc.now h
 |some e =>
  rw[S]at h;obtain⟨v,c⟩:=y _<|bx S;obtain⟨F,D,C,A,f,L,B,l,_⟩:=fY v c;dsimp only at l;subst l;refine bA ⟨a,_,j,rfl,S,_,_,_,_,_,_,rfl,_,_,_,_,_,_,rfl,⟨ao,ao⟩,?_⟩;rw[aM];refine bc.now ?_;have o:(f==r)=decide (f=r):=by by_cases e:f=r;rw[dT_ e];exact beq_iff_eq.mpr e;rw[dF_ e];exact beq_eq_false_iff_ne.mpr e
  rw[o];exact h
 rw[dF_ i]at h ⊢;exact bA<|bc.now h
theorem sD(T:Tops P w K mg base):u9 P w K mg base 2 "can_stand" iL dR:=u9.byD (N:=["house","say","elders","under"]) T.b T.f_can_stand (by walk_at"sc") qp (by have:=qd T;have:=bW T;have:=kF T;have:=iN T;walk_at"dv") qQ
def bi:w6:=λds M R=>∃(ps:List (c6×Int)) (a:List (c6×List c6)) (log:List D),ds=[aI ps a,.tup log]/\(∀d∈log,aJ ps a d)/\log.length<=1000/\∀n B,M <+: B->B[n]?=a7 (.dkt<|ak a log)->R (.ref n) B
theorem iT:cI bi cC:=by rintro ds M R ⟨ps,a,log,rfl,_⟩;rfl
theorem lX(h:∀d∈log,aJ ps rs d)(g:∀d∈l,d∈kinds log (AA0 "say"))(t:TabK l kvs):∀p∈kvs,aJ ps rs p.2/\bB p.2=AA0 "say":=λp a=>by obtain⟨h1,h2⟩:=aH<|g _ (t.en p a).2;exact⟨h _ h1,h2⟩
def dn:s9:=bp<|ab 2
def dq:s9:=ax (lC (bV<|t6 bg<|aa (ab 1)<|aa (dC<|.str "say") af) (ah 3)<|A0 (aq<|t6 dR<|aa (ab 0)<|aa (ab 3)<|aa (ab 2) af) (tJ (ab 2) (t6 cF<|aa (ab 3) af)<|ab 3) aX)<|dn
def eL:s9:=ax (bb (tK) 2)<|dq
theorem je:z5 bi 4 eL:=by
 rintro ds M R ⟨ps,rs,log,rfl,c,o,h⟩;simp only[eL,dq];walk_at"dl";refine⟨ps,rs,log,_,rfl,c,o,?_⟩;have r:=bh (log:=log) (k:=AA0 "say");have m:∀d∈kinds log (AA0 "say"),aJ ps rs d/\bB d=AA0 "say":=λd q=>⟨c d (aH q).1,(aH q).2⟩
 have f:ay rs (kinds log<|AA0 "say")=ak rs log:=rfl;generalize A:kinds log (AA0 "say")=K at r m f;refine⟨K,aw,λ_=>?_⟩;refine aY (λi S b=>∃a,b=M++[.dkt<|ay rs<|K.take i,.lst K]/\S=[a7<|aI ps rs,a7<|.tup log,a7<|.ref M.length,a]) ?_ ?_ ⟨_,by simp[ay],rfl⟩;rintro S b ⟨a,rfl,rfl⟩;rw[L7,f];refine⟨.inl ?_,?_⟩;have:(M++[MO.dkt []]).length=M.length+1:=by simp
 rw[this];exact xi;simp only[dn];walk_at"dl";exact .inl<|h _ _ (G2 _ _) kL;rintro i y S b O ⟨a,rfl,rfl⟩ G l;have p:=F0 O;have n:K.take (i+1)=K.take i++[y]:=by rw[Mo,O];rfl
 rw[n,dB]at l;have g:=eW (rs:=rs)<|K.take i;have v:=lX c (λd q=>A ▸ Qt q) g;have j:=g.len;rw[G0]at j;generalize ay rs (K.take i)=s at l v j;obtain⟨e,u⟩:=m y p;refine⟨.inl ?_,?_⟩;have:(M++[MO.dkt []]).length=M.length+1:=by simp
 rw[this];exact xi;walk_at"dl";refine⟨ps,rs,y,_,s,rfl,e,u,kL,v,?_⟩;unfold uy at l;cases hs:ii rs s y with
 |true=>rw[hs,o0 rfl]at l;refine bA ?_;obtain⟨t,z,k,w,x,ds,rfl,_⟩:=e;refine⟨_,_,_,rfl,s,kL,rfl,aA (by lia),?_⟩;rw[iA];exact z6.now<|l _ _ ⟨_,rfl,rfl⟩
 |false=>rw[hs,o4<|by decide]at l;exact bq<|z6.now<|l _ _ ⟨_,rfl,rfl⟩
theorem dI(T:Tops P w K mg base):u9 P w K mg base 3 "says_that_count" cC bi:=u9.byD (N:=["house","log","says","deed"]) T.b T.f_says_that_count (by walk_at"sc") iT (by have:=iO T;have:=cR T;have:=sD T;walk_at"dv") je
def cr:w6:=λds M R=>∃(t:Int) (z:c6) (k n:Int) (x m:D) (l:List D) (q:Nat) (s:List (D×D)),ds=[.tup [.int t,.tup [.str z,.int k],.int n,.tup<|x::m::l],.ref q]/\St m/\M[q]?=a7 (.dkt s)/\(∀p∈s,OZ p.2)/\R (.bl<|L0 s<|.tup [.int t,.tup [.str z,.int k],.int n,.tup<|x::m::l]) M
theorem lP:cI cr dY:=by rintro ds M R ⟨t,z,k,n,x,m,l,q,s,rfl,_⟩;rfl
def fO:s9:=bp<|tN (r9 Im (ab 2)<|ab 1)<|r9 A2 (t6 aZ<|aa (ab 0) af)<|t6 aZ<|aa (lT (ab 1)<|ab 2) af
def ie:s9:=ax (bb (r9 u7 (r9 u7 (ab 0)<|dC<|.int 3)<|dC<|.int 1) 2)<|fO
theorem mj:z5 cr 3 ie:=by
 rintro ds M R ⟨t,z,k,n,x,m,l,q,s,rfl,f,b,v,h⟩;simp only[ie,fO];obtain⟨t',G,H,rfl⟩:=f;walk_at"dl";have c:atI [D.int t,.tup [.str z,.int k],.int n,.tup<|x::.tup [.int t',.tup [.str G,.int H]]::l] 3=a7 (.tup<|x::.tup [.int t',.tup [.str G,.int H]]::l):=aF (j:=3) rfl;rw[c];dsimp only;rw[Mt];refine⟨s,b,rfl,?_⟩;have d:L0 s (.tup [.int t,.tup [.str z,.int k],.int n,.tup<|x::.tup [.int t',.tup [.str G,.int H]]::l])=match ba s (.tup [.int t',.tup [.str G,.int H]]) with
  |some e=>decide<|z=aR e
  |none=>bt:=rfl
 rw[d]at h;cases S:ba s (.tup [.int t',.tup [.str G,.int H]]) with
 |none=>rw[S]at h;exact bq<|bc.now h
 |some e =>
  rw[S]at h;obtain⟨a,y,r,g,rfl⟩:=v _<|bx S;refine bA ⟨_,_,_,_,rfl,s,_,b,rfl,S,_,_,_,_,rfl,⟨ao,ao⟩,?_⟩;rw[aM];refine bc.now ?_;have o:(z==y)=decide (z=y):=by by_cases e:z=y;rw[dT_ e];exact beq_iff_eq.mpr e;rw[dF_ e];exact beq_eq_false_iff_ne.mpr e
  rw[o];exact h
theorem nj(T:Tops P w K mg base):u9 P w K mg base 2 "is_by_writer" dY cr:=u9.byD (N:=["deed","says","message"]) T.b T.f_is_by_writer (by walk_at"sc") lP (by have:=bW T;walk_at"dv") mj
def bN:w6:=λds M R=>∃(ps:List (c6×Int)) (a:List (c6×List c6)) (log:List D) (k:c6) (q:Nat) (s:List (D×D)),ds=[.tup log,.str k,.ref q]/\(∀d∈log,aJ ps a d)/\log.length<=1000/\(k=AA0 "change"\/k=AA0 "back")/\M[q]?=a7 (.dkt s)/\(∀p∈s,OZ p.2)/\R (.ref M.length) (M++[.lst<|(kinds log k).filter<|L0 s])
theorem ny:cI bN fj:=by rintro ds M R ⟨ps,a,log,k,q,s,rfl,_⟩;rfl
theorem JR(h:aJ ps rs d)(e:bB d=k)(b:k=AA0 "change"\/k=AA0 "back"):∃(t:Int) (z:c6) (k num:Int) (x m:D) (l:List D),d=.tup [.int t,.tup [.str z,.int k],.int num,.tup<|x::m::l]/\St m:=by rcases b with rfl|rfl;obtain⟨t,z,k,num,m,s,rfl,a⟩:=nK h e;exact⟨t,z,k,num,_,m,_,rfl,a⟩;obtain⟨t,z,k,num,m,rfl,a⟩:=BH h e;exact⟨t,z,k,num,_,m,_,rfl,a⟩
def jh:s9:=bp<|E5 1 [2] (bV<|t6 bg<|aa (ab 0)<|aa (ab 1) af) (ah 0) (aq<|t6 cr<|aa (ab 0)<|aa (ab 1) af)<|ab 0
theorem nN:z5 bN 3 jh:=by
 rintro ds M R ⟨ps,rs,log,k,q,s,rfl,c,g,f,j,v,h⟩;simp only[jh];walk_at"dl";refine⟨ps,rs,log,k,rfl,c,g,_,aw,λ_=>?_⟩;have o:=bh (log:=log) (k:=k);refine aU (L0 s) id (λS=>∃a,S=[a,a7<|.ref q]) aw _ _ _ ?_ ⟨_,rfl⟩ (by rw[C8];exact am<|by lia) ?_;rintro d i S ⟨a,rfl⟩;obtain⟨h1,h2⟩:=aH i;obtain⟨t,z,H,n,x,m,l,rfl,hs⟩:=JR (c d h1) h2 f;refine⟨[a7<|.tup [.int t,.tup [.str z,.int H],.int n,.tup<|x::m::l],a7<|.ref q],⟨_,rfl⟩,λY Z b=>?_⟩;walk_at"dl";refine⟨t,z,H,n,x,m,l,q,s,rfl,hs,ac j,v,?_⟩;cases e:L0 s (.tup [.int t,.tup [.str z,.int H],.int n,.tup<|x::m::l]) with
 |true=>rw[e]at b;exact bA b
 |false=>rw[e]at b;exact bq b
 rw[G6,MU,G9];exact bc.lst h (by simp) (by simp)<|aJ.bels (ps:=ps) (rs:=rs) λd m=>c d (aH (B9.mp m).1).1
theorem io(T:Tops P w K mg base):u9 P w K mg base 3 "writers_own" fj bN:=u9.byD (N:=["log","kind","says"]) T.b T.f_writers_own (by walk_at"sc") ny (by have:=cR T;have:=nj T;walk_at"dv") nN
def bJ:w6:=λds M R=>∃(ps:List (c6×Int)) (a:List (c6×List c6)) (log:List D) (q:Nat) (s:List (D×D)),ds=[.tup log,.ref q]/\(∀d∈log,aJ ps a d)/\log.length<=1000/\M[q]?=a7 (.dkt s)/\(∀p∈s,OZ p.2)/\∀n B,M <+: B->B[n]?=a7 (.dkt<|aN s log)->R (.ref n) B
theorem lO:cI bJ dW:=by rintro ds M R ⟨ps,a,log,q,s,rfl,_⟩;rfl
theorem pE(ps:List (D×D))(h:p∈dictOf ps):p∈ps:=by revert h;refine bD (P:=λps=>p∈dictOf ps->p∈ps) (λh=>h) (λps q i h=>?_) ps;rw[bT]at h;rcases gM h with rfl|h;simp;exact LM _<|i h
theorem nJ(h:∀d∈log,aJ ps rs d):∀p∈aN kvs log,∃s,p.2=.str s:=λp b=>by obtain⟨d,a,rfl⟩:=v8.mp<|pE _ b;obtain⟨h1,h2⟩:=aH (B9.mp a).1;obtain⟨t,z,k,n,m,s,rfl,hs⟩:=nK (h d h1) h2;exact⟨s,rfl⟩
def ic:s9:=bp<|t6 iD<|aa (E5 1 [] (bV<|t6 bN<|aa (ab 0)<|aa (dC<|.str "change")<|aa (ab 1) af) (ah 0) vD<|eG<|aa (r9 u7 (r9 u7 (ab 0)<|dC<|.int 3)<|dC<|.int 1)<|aa (r9 u7 (r9 u7 (ab 0)<|dC<|.int 3)<|dC<|.int 2) af) af
theorem mi:z5 bJ 2 ic:=by
 rintro ds M R ⟨ps,B,log,q,b,rfl,i,w,x,y,h⟩;simp only[ic];walk_at"dl";refine⟨ps,B,log,_,q,b,rfl,i,w,.inl rfl,x,y,_,aw,λ_=>?_⟩;have C:=bh (log:=log) (k:=AA0 "change");have r:=LN (L0 b)<|kinds log<|AA0 "change";have f:∀d∈(kinds log<|AA0 "change").filter (L0 b),∃(t:Int) (z:c6) (k n:Int) (m:D) (s:c6),d=.tup [.int t,.tup [.str z,.int k],.int n,.tup [.str<|AA0 "change",m,.str s]]/\St m:=λd m=>by obtain⟨h1,h2⟩:=aH (B9.mp m).1;exact nK (i d h1) h2
 have g:dictOf (((kinds log<|AA0 "change").filter<|L0 b).map λd=>(kn d,aW d))=aN b log:=rfl;generalize (kinds log<|AA0 "change").filter (L0 b)=F at r f g;refine cj (λd=>.tup [kn d,aW d]) (λS=>∃a,S=[a]) aw _ _ _ (λd c S u=>?_) ⟨_,rfl⟩ (by rw[C8];exact am<|by lia) ?_;obtain⟨a,rfl⟩:=u;obtain⟨t,z,k,n,m,s,rfl,_⟩:=f d c;refine⟨[a7<|.tup [.int t,.tup [.str z,.int k],.int n,.tup [.str<|AA0 "change",m,.str s]]],⟨_,rfl⟩,λY v=>?_⟩;walk_at"dl";have l:atI [D.int t,.tup [.str z,.int k],.int n,.tup [.str<|AA0 "change",m,.str s]] 3=a7 (.tup [.str<|AA0 "change",m,.str s]):=aF (j:=3) rfl;rw[l];dsimp only;rw[Mt];dsimp only;rw[NK];exact⟨am (by lia),v⟩;rw[G6];have o:F.map (λd=>D.tup [kn d,aW d])=(F.map λd=>(kn d,aW d)).map λp=>.tup [p.1,p.2]:=by rw[E8];rfl
 rw[o];refine⟨F.map λd=>(kn d,aW d),aw,λp c=>?_,by rw[u6];lia,?_⟩;obtain⟨d,A,rfl⟩:=v8.mp c;obtain⟨t,z,k,n,m,s,rfl,hs⟩:=f d A;obtain⟨E,e⟩:=hs.tup;exact⟨hs.key,by show fQ m=a9;rw[e];rfl⟩;rw[g];exact .inl<|h _ _ ((dH.trans dH).trans dH) ae
theorem gi(T:Tops P w K mg base):u9 P w K mg base 4 "last_changes" dW bJ:=u9.byD (N:=["log","says"]) T.b T.f_last_changes (by walk_at"sc") lO (by have:=io T;walk_at"dv") mi
def bu:w6:=λds M R=>∃(ps:List (c6×Int)) (r:List (c6×List c6)) (log:List D) (q:Nat) (s:List (D×D)),ds=[.tup log,.ref q]/\(∀d∈log,aJ ps r d)/\log.length<64/\M[q]?=a7 (.dkt s)/\(∀p∈s,OZ p.2)/\∀ys,(∀x∈ys,St x)->(∀x,x∈ys↔ki s log x)->ys.Nodup->(ys.Pairwise λa b=>¬A4 t9 b<A4 t9 a)->R (.ref M.length) (M++[.lst ys])
theorem gj:cI bu bQ:=by rintro ds M R ⟨ps,a,log,q,s,rfl,_⟩;rfl
def dm:s9:=bp<|jX<|E5 1 [] (bV<|t6 bN<|aa (ab 0)<|aa (dC<|.str "back")<|aa (ab 1) af) (ah 0) vD<|r9 u7 (r9 u7 (ab 0)<|dC<|.int 3)<|dC<|.int 1
theorem gW:z5 bu 2 dm:=by
 rintro ds M R ⟨ps,E,log,q,s,rfl,o,H,y,B,h⟩;simp only[dm];walk_at"dl";refine⟨ps,E,log,_,q,s,rfl,o,by lia,.inr rfl,y,B,_,aw,λ_=>?_⟩;have I:=bh (log:=log) (k:=AA0 "back");have u:=LN (L0 s)<|kinds log<|AA0 "back";have l:∀d∈(kinds log<|AA0 "back").filter (L0 s),∃(t:Int) (z:c6) (k n:Int) (m:D),d=.tup [.int t,.tup [.str z,.int k],.int n,.tup [.str<|AA0 "back",m]]/\St m:=λd m=>by obtain⟨h1,h2⟩:=aH (B9.mp m).1;exact BH (o d h1) h2
 have g:∀x,x∈((kinds log<|AA0 "back").filter<|L0 s).map kn↔ki s log x:=λx=>by constructor;intro f;obtain⟨d,m,rfl⟩:=v8.mp f;exact⟨d,(B9.mp m).1,(B9.mp m).2,rfl⟩;rintro⟨d,h1,h2,rfl⟩;exact LK<|B9.mpr ⟨h1,h2⟩
 generalize (kinds log<|AA0 "back").filter (L0 s)=F at u l g;refine cj kn (λS=>∃a,S=[a]) aw _ _ _ (λd i S v=>?_) ⟨_,rfl⟩ (by rw[C8];exact am<|by lia) ?_;obtain⟨a,rfl⟩:=v;obtain⟨t,z,k,n,m,rfl,_⟩:=l d i;refine⟨[a7<|.tup [.int t,.tup [.str z,.int k],.int n,.tup [.str<|AA0 "back",m]]],⟨_,rfl⟩,λY w=>?_⟩;walk_at"dl";have r:atI [D.int t,.tup [.str z,.int k],.int n,.tup [.str<|AA0 "back",m]] 3=a7 (.tup [.str<|AA0 "back",m]):=aF (j:=3) rfl;rw[r];dsimp only;rw[Mt];exact w;rw[G6];have hs:∀x∈F.map kn,St x:=λx f=>by obtain⟨d,i,rfl⟩:=v8.mp f;obtain⟨t,z,k,n,m,rfl,hs⟩:=l d i;exact hs
 refine⟨8,_,u5 _,.inl ⟨_,rfl,aw⟩,by rw[u6];lia,λx f=>?_,zD hs (by rw[u6];lia),λys X O A=>?_⟩;obtain⟨K,e⟩:=(hs x f).tup;exact⟨(hs x f).key,by rw[e];rfl⟩;have c:∀x∈ys,St x:=λx f=>hs x<|(O x).mp f;rw[G9,G9];have G:ys.Pairwise λa b=>¬A4 t9 b<A4 t9 a:=(List.Pairwise.and_mem.mp A).imp λ{a b} ⟨ha,g,q⟩=>by
  have p:=c a ha;have T:=c b g;have J:A8 t9 a=a9:=by obtain⟨t,z,k,e⟩:=p;rw[e];rfl
  have C:A8 t9 b=a9:=by obtain⟨t,z,k,e⟩:=T;rw[e];rfl
  rw[uS C J<|T.cm p]at q;exact of_decide_eq_false q
 exact bc.lst (h ys c (λx=>(O x).trans<|g x) X G) (by simp) (by simp)<|Bels.of λd m=>cx 2 d (c d m).pl
theorem gY(T:Tops P w K mg base):u9 P w K mg base 4 "stamps_taken_back" bQ bu:=u9.byD (N:=["log","says"]) T.b T.f_stamps_taken_back (by walk_at"sc") gj (by have:=io T;walk_at"dv") gW
def cq:w6:=λds M R=>∃(ps:List (c6×Int)) (a:List (c6×List c6)) (d:D) (q:Nat) (c:List (D×D)),ds=[d,.ref q]/\aJ ps a d/\bB d=AA0 "say"/\M[q]?=a7 (.dkt c)/\R (At c d) M
theorem nZ:cI cq gf:=by rintro ds M R ⟨ps,a,d,q,c,rfl,_⟩;rfl
def hX:s9:=bp<|eG<|aa (ab 2)<|aa (t6 bX<|aa (ab 0) af)<|aa (t6 cE<|aa (ab 0) af)<|aa (t6 aZ<|aa (ab 0) af)<|aa (ab 3)<|aa (r9 Im (ab 2)<|ab 1) af
def hZ:s9:=ax (bb (Nb ij (ab 1)<|aa (ab 2)<|aa (r9 u7 (r9 u7 (ab 0)<|dC<|.int 3)<|dC<|.int 3) af) 3)<|hX
def kU:s9:=ax (bb (t6 cF<|aa (ab 0) af) 2)<|hZ
theorem pI:z5 cq 4 kU:=by rintro ds M R ⟨ps,g,d,q,c,rfl,b,f,a,h⟩;obtain⟨t,z,k,m,r,u,s,rfl,_⟩:=fY b f;simp only[kU,hZ];walk_at"dl";refine⟨_,_,_,rfl,⟨_,a⟩,?_⟩;have e:atI [D.int t,.tup [.str z,.int k],.int m,.tup [.str<|AA0 "say",.str r,u,.str s]] 3=a7 (.tup [.str<|AA0 "say",.str r,u,.str s]):=aF (j:=3) rfl;have I:atI [.str<|AA0 "say",.str r,u,.str s] 3=a7 (.str s):=aF (j:=3) rfl;rw[e];dsimp only;rw[I];refine⟨c,a,rfl,?_⟩;simp only[hX];walk_at"dl";refine⟨_,_,_,_,_,_,rfl,_,_,_,_,_,_,_,rfl,_,_,_,_,rfl,c,a,rfl,am (by lia),bc.now h⟩
theorem jO(T:Tops P w K mg base):u9 P w K mg base 2 "message_of" gf cq:=u9.byD (N:=["say","changes","stamp","saying"]) T.b T.f_message_of (by walk_at"sc") nZ (by have:=iO T;have:=bW T;have:=kF T;have:=iN T;walk_at"dv") pI
def ck:w6:=λds M R=>∃(ps:List (c6×Int)) (a:List (c6×List c6)) (log:List D),ds=[aI ps a,.tup log]/\(∀d∈log,aJ ps a d)/\log.length<64/\∀n B,M <+: B->B[n]?=a7 (.dkt<|aE a log)->R (.ref n) B
theorem nY:cI ck gc:=by rintro ds M R ⟨ps,a,log,rfl,_⟩;rfl
theorem kX{M:t7}{l:List D}(h:∀x∈l,St x):l.all (u8 M t9)=a9:=E9.mpr λx a=>(h x a).ok
theorem pz(a:St x)(h:∀x∈l,St x):LZ M x l=decide (x∈l):=by unfold LZ;by_cases d:x∈l;rw[dT_ d];exact LH.mpr ⟨x,d,by rw[show t9=28+2 from rfl,a.eq a];exact dT_ rfl⟩;rw[dF_ d];refine Mp.mpr λz=>?_;obtain⟨y,O,e⟩:=LH.mp z;rw[show t9=28+2 from rfl,(h y O).eq a]at e;exact d<|oT_ e ▸ O
def hV:s9:=bp<|t6 iD<|aa (E5 1 [2,3] (lB<|ab 2) (ah 0) (aq<|r9 lh (ab 0)<|ab 2)<|eG<|aa (ab 0)<|aa (lT (ab 1)<|ab 0) af) af
def hW:s9:=ax (bb (t6 bu<|aa (ab 1)<|aa (ab 2) af) 3)<|hV
def kQ:s9:=ax (bb (t6 bi<|aa (ab 0)<|aa (ab 1) af) 2)<|hW
theorem pH:z5 ck 4 kQ:=by
 rintro ds M R ⟨ps,rs,log,rfl,m,E,h⟩;simp only[kQ];walk_at"dl";refine⟨ps,rs,log,rfl,m,by lia,λn B G l=>?_⟩;have t:=aO (rs:=rs) (log:=log);have I:=bh (log:=log) (k:=AA0 "say");have v:=lX m (λ_ q=>q) t;have H:=t.len;have X:=t.nd;have u:=t.en;have g:aE rs log=(ak rs log).filter λp=>@decide (¬ki (ak rs log) log p.1) (K8 _):=rfl;rw[g]at h;clear g;generalize ak rs log=s at h t H v X u l;simp only[hW];walk_at"dl";refine⟨ps,rs,log,n,s,rfl,m,E,l,λp c=>(v p c).1.nm,λys hs O _ _=>?_⟩;simp only[hV];walk_at"dl";have f:(B++[MO.lst ys])[n]?=a7 (.dkt s):=ac l;refine⟨s,f,λ_=>?_⟩;have sp:∀p∈s,St p.1:=λp c=>by rw[(u p c).1];exact(v p c).1.st
 refine aU (λk=>decide<|k∉ys) (λk=>.tup [k,(ba s k).getD .non]) (λS=>∃a,S=[a,a7<|.ref n,a7<|.ref B.length]) f _ _ _ ?_ ⟨_,rfl⟩ (by rw[C8,u6];exact am<|by lia) ?_;rintro x F S ⟨a,rfl⟩;obtain⟨p,c,rfl⟩:=v8.mp F;have d:=sp p c;have o:=cS X c;refine⟨[a7 p.1,a7<|.ref n,a7<|.ref B.length],⟨_,rfl⟩,λY Z b=>?_⟩;rw[o]at b;obtain⟨y,e⟩:=d.tup;have w:=d.key;rw[e]at b o w d ⊢;walk_at"dl";refine⟨ys,aw,⟨d.ok,kX hs⟩,?_⟩;rw[pz d hs];by_cases j:D.tup y∈ys;rw[dT_ j];rw[dF_<|λz=>z j]at b;exact bq b;rw[dF_ j];rw[dT_ j,o0 rfl]at b;exact bA ⟨s,_,f,w,o,am (by lia),b⟩;rw[G6];have C:((s.map (·.1)).filter λk=>decide<|k∉ys).map (λk=>D.tup [k,(ba s k).getD .non])=(s.filter λp=>decide<|p.1∉ys).map λp=>.tup [p.1,p.2]:=by rw[List.filter_map,E8];refine Q3 λp c=>?_;show D.tup [p.1,(ba s p.1).getD .non]=_;rw[cS X (B9.mp c).1];rfl
 rw[C];have r:((s.filter λp=>decide<|p.1∉ys).map (·.1)).Nodup:=(List.filter_sublist.map _).nodup X;refine⟨_,aw,λp c=>?_,?_,?_⟩;have d:=sp p (B9.mp c).1;obtain⟨y,e⟩:=d.tup;exact⟨d.key,by rw[e];rfl⟩;have:=LN (λp:D×D=>decide<|p.1∉ys) s;lia;rw[tG _ r];refine .inl<|h _ _ (((G.trans dH).trans dH).trans dH) ?_;have A:(s.filter λp=>decide<|p.1∉ys)=s.filter λp=>@decide (¬ki s log p.1) (K8 _):=List.filter_congr λp _=>by by_cases i:ki s log p.1;rw[dF_<|show ¬¬p.1∈ys from λz=>z<|(O _).mpr i,@decide_eq_false _ (K8 _)<|λz=>z i];rw[dT_<|show ¬p.1∈ys from λz=>i<|(O _).mp z,@decide_eq_true _ (K8 _) i]
 rw[<-A];exact ae
theorem jN(T:Tops P w K mg base):u9 P w K mg base 5 "says_shown" gc ck:=u9.byD (N:=["house","log","says","backs"]) T.b T.f_says_shown (by walk_at"sc") nY (by have:=dI T;have:=gY T;walk_at"dv") pH
def cK:w6:=λds M R=>∃(ps:List (c6×Int)) (a:List (c6×List c6)) (log:List D),ds=[aI ps a,.tup log]/\(∀d∈log,aJ ps a d)/\log.length<64/\R (.ref M.length) (M++[.lst<|bH a log])
theorem nB:cI cK fu:=by rintro ds M R ⟨ps,a,log,rfl,_⟩;rfl
theorem eN(h:∀d∈log,aJ ps rs d):∀p∈aE rs log,p.1=t5 p.2/\aJ ps rs p.2/\bB p.2=AA0 "say":=λp a=>by have h1:=(mQ.mp a).1;have b:=aO (rs:=rs) (log:=log);exact⟨(b.en p h1).1,lX h (λ_ q=>q) b p h1⟩
theorem wU(f:∀p∈ch,∃s,p.2=.str s)(h:aJ ps rs d)(c:bB d=AA0 "say"):B7 n (At ch d):=by
 obtain⟨t,z,k,m,r,u,s,rfl,_,_,_,g⟩:=fY h c;have b:B7 n u:=by rcases g with rfl|g;exact .non;exact cx 2 u g.pl
 refine .tup<|.cons (cx 2 _<|St.pl (n:=0) ⟨t,z,k,rfl⟩)<|.cons (.str _)<|.cons b<|.cons (.str _)<|.cons ?_<|.cons (.bl _) .nil;cases e:ba ch (t5<|.tup [.int t,.tup [.str z,.int k],.int m,.tup [.str<|AA0 "say",.str r,u,.str s]]) with
 |none=>exact .str _
 |some v=>obtain⟨s',a⟩:=f _<|bx e;dsimp only at a;rw[a];exact .str _
def fU:s9:=bp<|E5 1 [3] (tI<|ab 2) (ah 0) vD<|t6 cq<|aa (ab 0)<|aa (ab 1) af
def fV:s9:=ax (bb (t6 bJ<|aa (ab 1)<|aa (ab 2) af) 3)<|fU
def jk:s9:=ax (bb (t6 ck<|aa (ab 0)<|aa (ab 1) af) 2)<|fV
theorem nQ:z5 cK 4 jk:=by
 rintro ds M R ⟨ps,rs,log,rfl,g,t,h⟩;simp only[jk];walk_at"dl";refine⟨ps,rs,log,rfl,g,t,λn B G i=>?_⟩;have v:=eN (rs:=rs) g;have u:(aE rs log).length<=1000:=by have h1:=(aO (rs:=rs) (log:=log)).len;have h2:=bh (log:=log) (k:=AA0 "say");have x:(aE rs log).length<=(ak rs log).length:=LN _ _;lia
 have m:bH rs log=(aE rs log).map λp=>At (aN (aE rs log) log) p.2:=rfl;have j:=nJ (kvs:=aE rs log) g;simp only[fV];walk_at"dl";refine⟨ps,rs,log,n,aE rs log,rfl,g,by lia,i,λp b=>(v p b).2.1.nm,λo w e f=>?_⟩;rw[m]at h;generalize aE rs log=T at v u i f h j;generalize aN T log=q at f h j;have c:=aG e i;have pM:=G.trans e;simp only[fU];walk_at"dl";refine⟨T,c,λ_=>?_⟩;refine cj (At q) (λS=>∃a,S=[a,a7<|.ref o]) c _ _ _ (λd m S r=>?_) ⟨_,rfl⟩ (by rw[C8,u6];exact am<|by lia) ?_;obtain⟨a,rfl⟩:=r;obtain⟨p,b,rfl⟩:=v8.mp m;refine⟨[a7 p.2,a7<|.ref o],⟨_,rfl⟩,λY s=>?_⟩;walk_at"dl";exact⟨ps,rs,p.2,o,q,rfl,(v p b).2.1,(v p b).2.2,f,s⟩;rw[G6,E8];obtain⟨L,rfl⟩:=pM;rw[G9];refine bc.lst h (by simp) (by simp)<|Bels.of λd l=>?_;obtain⟨p,b,rfl⟩:=v8.mp l;exact wU j (v p b).2.1 (v p b).2.2
theorem nU(T:Tops P w K mg base):u9 P w K mg base 6 "messages_of" fu cK:=u9.byD (N:=["house","log","says","changes"]) T.b T.f_messages_of (by walk_at"sc") nB (by have:=gi T;have:=jO T;have:=jN T;walk_at"dv") nQ
def bE:w6:=λds M R=>∃(ps:List (c6×Int)) (a:List (c6×List c6)) (log:List D) (e:c6),ds=[.tup log,.str e]/\(∀d∈log,aJ ps a d)/\log.length<1000/\∀n B c,M <+: B->VbAt B n c (nR log e)->R (.ref n) B
theorem iR:cI bE cy:=by rintro ds M R ⟨ps,a,log,e,rfl,_⟩;rfl
def da:s9:=bp<|ab 2
def db:s9:=ax (lC (bV<|t6 cG<|aa (ab 0)<|aa (dC<|.str "read")<|aa (ab 1) af) (ah 3)<|fI<|K2 bC (OT wP (ab 2)<|aa (r9 u7 (r9 u7 (ab 3)<|dC<|.int 3)<|dC<|.int 1)<|aa (ko af) af)<|aa (r9 u7 (r9 u7 (ab 3)<|dC<|.int 3)<|dC<|.int 2) af)<|da
def eH:s9:=ax (bb (Em) 2)<|db
theorem jc:z5 bE 4 eH:=by
 rintro ds M R ⟨ps,Y,log,name,rfl,b,Z,h⟩;simp only[eH,db];walk_at"dl";refine⟨ps,Y,log,AA0 "read",name,rfl,b,by lia,?_⟩;have X:=eP (log:=log) (k:=AA0 "read") (name:=name);have K:∀d∈dE log (AA0 "read") name,∃(t:Int) (z:c6) (k n:Int) (r:c6) (hs:List (D×Int)),d=.tup [.int t,.tup [.str z,.int k],.int n,.tup [.str<|AA0 "read",.str r,.tup<|kj hs]]:=λd P=>by obtain⟨h1,h2,_⟩:=cM P;obtain⟨t,z,k,n,r,hs,e,_⟩:=uC (b d h1) h2;exact⟨t,z,k,n,r,hs,e⟩
 have V:nR log name=λr=>((dE log (AA0 "read") name).filter λd=>decide<|aB d=r).map aW:=rfl;rw[V]at h;generalize dE log (AA0 "read") name=F at X K h;have l:(M++[MO.dct []]).length=M.length+1:=by simp
 have J:(M++[MO.dct []]++[MO.lst F])[M.length+1]?=a7 (.lst F):=by rw[<-l];exact ae
 rw[l];refine⟨F,.inl J,λ_=>?_⟩;refine aY (λi S f=>∃(c:List (c6×D)) (a:Option D),M <+: f/\f[M.length+1]?=a7 (.lst F)/\VbAt f M.length c (λr=>((F.take i).filter λd=>decide<|aB d=r).map aW)/\c.length<=i/\S=[a7<|.tup log,a7<|.str name,a7<|.ref M.length,a]) ?_ ?_ ⟨[],_,dH.trans dH,J,⟨ac ae,λk d z=>(by cases z),λk _=>rfl,λ_ _ _ z=>(by cases z)⟩,u5 _,rfl⟩;rintro S f ⟨c,a,pM,p,tr,_,rfl⟩;rw[L7]at tr;refine⟨.inl p,?_⟩;simp only[da];walk_at"dl";exact .inl<|h _ _ _ pM tr;rintro i y S f O ⟨c,a,pM,p,tr,tl,rfl⟩ G x;have L:F.take (i+1)=F.take i++[y]:=by rw[Mo,O];rfl
 rw[L]at x;have hi:=(x5.mp O).1;obtain⟨t,z,k,n,r,hs,rfl⟩:=K y<|F0 O;have E:∀k,(((F.take i).filter λd=>decide<|aB d=k).map aW).length<=i:=λk=>by rw[u6];refine C7 (LN _ _) ?_;rw[G0];lia
 generalize q:(λH=>(((F.take i++[D.tup [.int t,.tup [.str z,.int k],.int n,.tup [.str<|AA0 "read",.str r,.tup<|kj hs]]]).filter λd=>decide<|aB d=H).map aW))=N at x;have v:∀H,N H=if r=H then(((F.take i).filter λd=>decide<|aB d=H).map aW)++[.tup<|kj hs]else(((F.take i).filter λd=>decide<|aB d=H).map aW):=λH=>by rw[<-q];dsimp only;rw[OD,G5,MZ,List.filter_nil];by_cases e:r=H;rw[o0 e,show decide (aB (.tup [.int t,.tup [.str z,.int k],.int n,.tup [.str<|AA0 "read",.str r,.tup<|kj hs]])=H)=a9 from dT_ e];rfl;rw[o4 e,show decide (aB (.tup [.int t,.tup [.str z,.int k],.int n,.tup [.str<|AA0 "read",.str r,.tup<|kj hs]])=H)=bt from dF_ e];exact G7 _
 clear q;refine⟨.inl p,?_⟩;walk_at"dl";have I:atI [D.int t,.tup [.str z,.int k],.int n,.tup [.str<|AA0 "read",.str r,.tup<|kj hs]] 3=a7 (.tup [.str<|AA0 "read",.str r,.tup<|kj hs]):=aF (j:=3) rfl;rw[I];dsimp only;rw[NK];dsimp only;show (∃kvs,f[M.length]?=a7 (MO.dct kvs))/\_;refine⟨⟨_,tr.at_⟩,?_⟩;walk_at"dl";rw[I];dsimp only;rw[Mt];dsimp only;refine⟨z8 _,c,ac tr.at_,aA (by lia),λy O=>?_,λQ=>?_⟩;obtain⟨m,rfl,nm,C⟩:=tr.got r y O;refine⟨⟨_,.inl<|ac C⟩,_,ac C,aA (by have:=E r;lia),z6.now<|x _ _ ⟨c,_,bM (pM.trans dH) (by lia),ap (by lia)<|ac p,⟨ap (by lia)<|ac tr.at_,λH d b=>?_,λH b=>?_,tr.one⟩,by lia,rfl⟩⟩;obtain⟨s,rfl,o,g⟩:=tr.got H d b;refine⟨s,rfl,o,?_⟩;rw[v];by_cases e:r=H;subst e;rw[O]at b;obtain rfl:m=s:=by injection b with b;injection b
 rw[bI<|ac C,o0 rfl];rw[o4 e];exact ap (λz=>e<|tr.one _ _ _ (z ▸ O) b)<|ac g;have e:r≠H:=λz=>by rw[<-z,O]at b;cases b
 rw[v,o4 e];exact tr.no H b;have W:M.length+1<f.length:=aL p;have A:((f++[MO.lst []]).set M.length<|.dct<|mU c r<|.ref f.length)[f.length]?=a7 (.lst []):=ap (by lia) ae;have B:∀H,fS (mU c r<|.ref f.length) H=if r=H then a7 (.ref f.length)else fS c H:=λH=>by by_cases e:r=H;rw[o0 e,<-e,yS];rw[o4 e,xI<|w9 e]
 refine⟨⟨_,.inl A⟩,_,A,aA (by rw[C8];lia),z6.now<|x _ _ ⟨mU c r<|.ref f.length,_,bM (bM (pM.trans dH)<|u5 _) (by lia),ap (by lia)<|ap (by lia)<|ac p,⟨ap (by lia)<|bI<|ac tr.at_,λH d b=>?_,λH b=>?_,λT U m h1 h2=>?_⟩,by have:=(wS (kvs:=c) (k:=r) (d:=.ref f.length)).1;lia,rfl⟩⟩;rw[B]at b;by_cases e:r=H;rw[o0 e]at b;subst e;exact⟨f.length,by injection b with b;exact b.symm,W,by rw[bI A,v,o0 rfl,tr.no _ Q]⟩;rw[o4 e]at b;obtain⟨s,rfl,o,g⟩:=tr.got H d b;have:=aL g;exact⟨s,rfl,o,by rw[v,o4 e];exact ap (by lia)<|ap (by lia)<|ac g⟩;rw[B]at b;by_cases e:r=H;rw[o0 e]at b;cases b;rw[o4 e]at b;rw[v,o4 e];exact tr.no H b;rw[B]at h1 h2;have u:∀H m,fS c H=a7 (.ref m)->m<f.length:=λH m h'=>by obtain⟨s,e,_,g⟩:=tr.got H _ h';injection e with e;rw[e];exact aL g
 by_cases l:r=T<;>by_cases w:r=U;rw[<-l,<-w];rw[o0 l]at h1;rw[o4 w]at h2;have:=u _ _ h2;injection h1 with h1;injection h1 with h1;lia;rw[o4 l]at h1;rw[o0 w]at h2;have:=u _ _ h1;injection h2 with h2;injection h2 with h2;lia;rw[o4 l]at h1;rw[o4 w]at h2;exact tr.one _ _ _ h1 h2
theorem jL(T:Tops P w K mg base):u9 P w K mg base 3 "vectors_by_room" cy bE:=u9.byD (N:=["log","name","vectors","deed"]) T.b T.f_vectors_by_room (by walk_at"sc") iR (by have:=iP T;walk_at"dv") jc
def gR:w6:=λds M R=>∃(ps:List (c6×Int)) (a:List (c6×List c6)) (log:List D) (n:c6) (e:D) (v qs:Nat) (c:List (c6×D)),ds=[e,.str n,.ref v,.ref qs]/\(∀d∈log,aJ ps a d)/\log.length<=1000/\aJ ps a e/\bB e=AA0 "say"/\VbAt M v c (nR log n)/\M[qs]?=a7 (.lst<|bj log (AA0 "seen") n)/\(∀x∈bj log (AA0 "seen") n,St x)/\R (.bl<|lI log n e) M
theorem uY:cI gR mZ:=by rintro ds M R ⟨ps,a,log,n,e,v,qs,c,rfl,_⟩;rfl
theorem Fx(h:∀d∈log,aJ ps rs d):∀v∈nR log name r,∃hs:List (D×Int),v=.tup (kj hs)/\(∀p∈hs,Hd p.1)/\hs.length<=12:=λv c=>by obtain⟨d,m,rfl⟩:=v8.mp c;obtain⟨h1,h2,_⟩:=cM (B9.mp m).1;obtain⟨t,z,k,n,r,hs,rfl,q,j⟩:=uC (h d h1) h2;exact⟨hs,rfl,q,j⟩
theorem Cb:(nR log name r).length<=log.length:=by unfold nR;rw[u6];exact C7 (LN _ _) eP
def mF:s9:=bp<|t6 Io<|aa (E5 1 [0] (bV<|OT wQ (ab 2)<|aa (t6 bX<|aa (ab 0) af)<|aa (ko af) af) (ah 0) vD<|t6 dL<|aa (ab 1)<|aa (ab 0) af) af
def rF:s9:=ax (A0 (Mh (aq<|r9 A2 (t6 aZ<|aa (ab 0) af)<|ab 1)<|aq<|r9 LP (t6 cF<|aa (ab 0) af)<|ab 3) (bp<|dC<|.bl a9) aX)<|mF
theorem xB:z5 gR 4 rF:=by
 rintro ds M R ⟨ps,H,log,name,e,C,qs,f,rfl,x,G,n,A,i,p,hs,h⟩;obtain⟨t,z,k,m,r,u,s,rfl,_⟩:=fY n A;have c:St (.tup [.int t,.tup [.str z,.int k]]):=⟨_,_,_,rfl⟩
 simp only[rF];walk_at"dl";refine⟨_,_,_,_,rfl,⟨ao,ao⟩,?_⟩;rw[aM];unfold lI at h;rw[show aR (.tup [.int t,.tup [.str z,.int k],.int m,.tup [.str<|AA0 "say",.str r,u,.str s]])=z from rfl,show t5 (.tup [.int t,.tup [.str z,.int k],.int m,.tup [.str<|AA0 "say",.str r,u,.str s]])=.tup [.int t,.tup [.str z,.int k]]from rfl,show aB (.tup [.int t,.tup [.str z,.int k],.int m,.tup [.str<|AA0 "say",.str r,u,.str s]])=r from rfl]at h;by_cases b:z=name;rw[beq_iff_eq.mpr b];rw[dT_ b]at h;exact bA<|bc.now h;rw[beq_eq_false_iff_ne.mpr b];rw[dF_ b,NS]at h;refine bq ⟨_,_,_,rfl,_,.inl p,⟨c.ok,kX hs⟩,?_⟩;rw[pz c hs];by_cases l:D.tup [.int t,.tup [.str z,.int k]]∈bj log (AA0 "seen") name;rw[dT_ l];rw[dT_ l]at h;exact bA<|bc.now h;rw[dF_ l];rw[dF_ l,NS]at h;refine bq ?_;simp only[mF];walk_at"dl";show (∃d,M[C]?=a7 (MO.dct d))/\_;refine⟨⟨_,i.at_⟩,?_⟩;walk_at"dl";refine⟨_,_,_,_,_,_,rfl,z8 _,f,ac i.at_,?_⟩;obtain⟨q,o,g⟩:=(i.pre<|dH (mo:=MO.lst [])).kids (k:=r) ae;rw[o];have pM:M <+: M++[MO.lst []]:=dH;generalize M++[MO.lst []]=B at g pM;have F:=Cb (log:=log) (name:=name) (r:=r);have Z:=Fx (name:=name) (r:=r) x;generalize nR log name r=L at g h F Z;refine⟨_,.inl g,λ_=>?_⟩;refine cj (λv=>.bl<|cw (Cd v) (.tup [.str z,.int k]) m) (λS=>∃a,S=[a,a7<|.tup [.int t,.tup [.str z,.int k],.int m,.tup [.str<|AA0 "say",.str r,u,.str s]]]) (.inl g) _ _ _ (λv y S w=>?_) ⟨_,rfl⟩ (by rw[C8];exact am<|by lia) ?_;obtain⟨a,rfl⟩:=w;obtain⟨hs,rfl,E,P⟩:=Z v y;refine⟨[a7<|.tup<|kj hs,a7<|.tup [.int t,.tup [.str z,.int k],.int m,.tup [.str<|AA0 "say",.str r,u,.str s]]],⟨_,rfl⟩,λY j=>?_⟩;rw[vN]at j;walk_at"dl";exact⟨_,_,_,_,hs,rfl,⟨_,_,rfl⟩,E,by lia,j⟩;refine⟨L.map λv=>cw (Cd v) (.tup [.str z,.int k]) m,?_,?_⟩;rw[G6,show bls (L.map λv=>cw (Cd v) (.tup [.str z,.int k]) m)=L.map λv=>.bl (cw (Cd v) (.tup [.str z,.int k]) m) by unfold bls;rw[E8];rfl];exact aw;rw[O5];exact bc.bl h<|pM.trans dH
theorem xT(T:Tops P w K mg base):u9 P w K mg base 2 "is_read" mZ gR:=u9.byD (N:=["say","name","vectors","seen"]) T.b T.f_is_read (by walk_at"sc") uY (by have:=iO T;have:=bW T;have:=sw T;have:=kF T;walk_at"dv") xB
def bF:w6:=λds M R=>∃(ps:List (c6×Int)) (a:List (c6×List c6)) (log:List D) (e:c6),ds=[aI ps a,.tup log,.str e]/\(∀d∈log,aJ ps a d)/\log.length<64/\R (.ref M.length) (M++[.lst<|(cQ a log e).map<|At<|aN (aE a log) log])
theorem iS:cI bF cA:=by rintro ds M R ⟨ps,a,log,e,rfl,_⟩;rfl
def dc:s9:=bp<|E5 1 [6,2,3,4] (tI<|ab 5) (ah 0) (Bs<|aq<|t6 gR<|aa (ab 0)<|aa (ab 2)<|aa (ab 3)<|aa (ab 4) af)<|t6 cq<|aa (ab 0)<|aa (ab 1) af
def df:s9:=ax (bb (t6 bJ<|aa (ab 1)<|aa (ab 5) af) 6)<|dc
def dh:s9:=ax (bb (t6 ck<|aa (ab 0)<|aa (ab 1) af) 5)<|df
def dj:s9:=ax (bb (t6 bO<|aa (ab 1)<|aa (dC<|.str "seen")<|aa (ab 2) af) 4)<|dh
def eI:s9:=ax (bb (t6 bE<|aa (ab 1)<|aa (ab 2) af) 3)<|dj
theorem jd:z5 bF 7 eI:=by
 rintro ds M R ⟨ps,rs,log,b,rfl,g,D,h⟩;simp only[eI];walk_at"dl";refine⟨ps,rs,log,b,rfl,g,by lia,λn B u G H=>?_⟩;simp only[dj];walk_at"dl";refine⟨ps,rs,log,_,b,rfl,g,by lia,.inl rfl,λhs=>?_⟩;have v:=H.pre<|dH (mo:=MO.lst<|bj log (AA0 "seen") b);have m:(B++[MO.lst<|bj log (AA0 "seen") b])[B.length]?=a7 (.lst<|bj log (AA0 "seen") b):=ae;have C:=G.trans<|dH (mo:=MO.lst<|bj log (AA0 "seen") b);generalize B++[MO.lst<|bj log (AA0 "seen") b]=I at v m C;generalize B.length=qs at m;simp only[dh];walk_at"dl";refine⟨ps,rs,log,rfl,g,D,λE J i z=>?_⟩;have s:=eN (rs:=rs) g;have O:(aE rs log).length<=1000:=by have h1:=(aO (rs:=rs) (log:=log)).len;have h2:=bh (log:=log) (k:=AA0 "say");have N:(aE rs log).length<=(ak rs log).length:=LN _ _;lia
 simp only[df];walk_at"dl";refine⟨ps,rs,log,E,aE rs log,rfl,g,by lia,z,λp j=>(s p j).2.1.nm,λt K f g3=>?_⟩;have w:=v.pre<|i.trans f;have o:=aG (i.trans f) m;have l:=aG f z;have F:=C.trans<|i.trans f;simp only[dc];walk_at"dl";refine⟨_,l,λ_=>?_⟩;refine aU (λe=>!lI log b e) (At<|aN (aE rs log) log) (λS=>∃a,S=[a,a7<|.ref t,a7<|.str b,a7<|.ref n,a7<|.ref qs]) l _ _ _ ?_ ⟨_,rfl⟩ (by rw[C8,u6];exact am<|by lia) ?_;rintro e r S ⟨a,rfl⟩;refine⟨[a7 e,a7<|.ref t,a7<|.str b,a7<|.ref n,a7<|.ref qs],⟨_,rfl⟩,λY Z c=>?_⟩;obtain⟨p,j,rfl⟩:=v8.mp r;obtain⟨_,x,y⟩:=s p j;walk_at"dl";refine⟨ps,rs,log,b,p.2,n,qs,u,rfl,g,by lia,x,y,w,o,hs,?_⟩;cases A:lI log b p.2 with
 |true=>rw[A]at c;exact c
 |false=>rw[A]at c;exact⟨ps,rs,p.2,t,_,rfl,x,y,g3,c⟩
 rw[G6];obtain⟨L,rfl⟩:=F;rw[G9];have U:((aE rs log).map (·.2)).filter (λe=>!lI log b e)=cQ rs log b:=rfl;rw[U];refine bc.lst h (by simp) (by simp)<|Bels.of λd q=>?_;obtain⟨e,r,rfl⟩:=v8.mp q;obtain⟨p,j,rfl⟩:=v8.mp (B9.mp r).1;exact wU (nJ g) (s p j).2.1 (s p j).2.2
theorem jM(T:Tops P w K mg base):u9 P w K mg base 6 "unread_messages" cA bF:=u9.byD (N:=["house","log","name","vectors","seen","says","changes"]) T.b T.f_unread_messages (by walk_at"sc") iS (by have:=ip T;have:=gi T;have:=jO T;have:=jN T;have:=jL T;have:=xT T;walk_at"dv") jd
def bP:w6:=λds M R=>∃(ps:List (c6×Int)) (a:List (c6×List c6)) (k:List (D×D)) (ys:List D) (q p:Nat) (H:D->Bool),ds=[.ref q,.ref p]/\M[q]?=a7 (.dkt k)/\M[p]?=a7 (.lst ys)/\(k.map (·.1)).Nodup/\(∀x∈k,x.1=t5 x.2/\aJ ps a x.2/\bB x.2=AA0 "say")/\k.length<1000/\(∀w∈ys,eA w)/\(∀s,D.tup [.str<|AA0 "under",s]∈ys↔H s=a9)/\R (.ref M.length) (M++[.lst<|bd H k])
theorem kI:cI bP du:=by rintro ds M R ⟨ps,a,s,ys,q,p,H,rfl,_⟩;rfl
def eJ:s9:=bp<|ab 2
def eK:s9:=ax (lC (lB<|ab 0) (ah 3)<|A0 (Mh (aq<|r9 LP (eG<|aa (dC<|.str "under")<|aa (ab 3) af)<|ab 1)<|aq<|r9 LP (t6 cE<|aa (lT (ab 0)<|ab 3) af)<|ab 2) (fI<|K2 bC (ab 2)<|aa (ab 3) af) aX)<|eJ
def fT:s9:=ax (bb (ko af) 2)<|eK
theorem lE:z5 bP 4 fT:=by
 rintro ds M R ⟨ps,rs,kvs,ys,q,p,H,rfl,m,Q,nd,N,kl,U,O,h⟩;simp only[fT,eK];walk_at"dl";have ql:=aL m;have pl:=aL Q;refine⟨z8 _,kvs,ac m,λ_=>?_⟩;refine aY (λi S g=>∃a:Option D,g=M++[.lst<|bd H<|kvs.take i]/\S=[a7<|.ref q,a7<|.ref p,a7<|.ref M.length,a]) ?_ ?_ ⟨_,rfl,rfl⟩;rintro S g ⟨a,rfl,rfl⟩;rw[u6,L7];refine⟨ac m,?_⟩;simp only[eJ];walk_at"dl";exact .inl h;rintro i y S g V ⟨a,rfl,rfl⟩ G l;rw[C5]at V;obtain⟨x,J,rfl⟩:=Me.mp V;have hi:=(x5.mp J).1;have Y:kvs.take (i+1)=kvs.take i++[x]:=by rw[Mo,J];rfl
 rw[Y,eQ]at l;have P:=F0 J;obtain⟨ex,C,W⟩:=N x P;have E:∀s∈bd H (kvs.take i),St s:=λs hs=>by obtain⟨z,hz,rfl⟩:=v8.mp<|jQ s hs;obtain⟨e,d,_⟩:=N z<|Qt hz;rw[e];exact d.st
 have X:=AY (H:=H) (kvs:=kvs.take i);rw[G0]at X;generalize bd H (kvs.take i)=F at l E X;have I:=cS nd P;have c:St x.1:=by rw[ex];exact C.st
 generalize x.2=e at l I C W;generalize x.1=s at l I c;obtain⟨t',f,b,rfl⟩:=c;obtain⟨t,z,k,K,r,u,s,rfl,_,_,_,T⟩:=fY C W;have c:St (.tup [.int t',.tup [.str f,.int b]]):=⟨_,_,_,rfl⟩
 have n:eA (.tup [.str<|AA0 "under",.tup [.int t',.tup [.str f,.int b]]]):=.inr<|.inr ⟨_,_,_,rfl⟩;have uo:∀B,u8 B t9 u=a9:=λB=>by rcases T with rfl|q;rfl;exact q.ok
 have Z:aW (.tup [.int t,.tup [.str z,.int k],.int K,.tup [.str<|AA0 "say",.str r,u,.str s]])=u:=rfl;rw[Z]at l;refine⟨ac m,?_⟩;walk_at"dl";refine⟨am (by lia),_,.inl<|ac Q,⟨(lq 3 t9 _ (by decide) n.pl).1,gI U⟩,?_⟩;rw[gP n U];have w:(M++[MO.lst F])[M.length]?=a7 (.lst F):=ae;have j:(∀L g,(∃a:Option D,g=M++[.lst<|F++[.tup [.int t',.tup [.str f,.int b]]]]/\L=[a7<|.ref q,a7<|.ref p,a7<|.ref M.length,a])->G L g)->∃xs,(M++[MO.lst F])[M.length]?=a7 (.lst xs)/\xs.length<sizeLine/\z6 (M++[MO.lst []]) G [a7<|.ref q,a7<|.ref p,a7<|.ref M.length,a7<|.tup [.int t',.tup [.str f,.int b]]] ((M++[MO.lst F]).set M.length<|MO.lst<|xs++[.tup [.int t',.tup [.str f,.int b]]]):=λl=>by refine⟨F,w,aA (by lia),?_⟩;rw[iA];exact z6.now<|l _ _ ⟨_,rfl,rfl⟩
 by_cases o:D.tup [.str<|AA0 "under",.tup [.int t',.tup [.str f,.int b]]]∈ys;rw[dT_ o];rw[(O _).mp o,Bool.true_or,o0 rfl]at l;exact bA ⟨⟨_,.inl w⟩,j l⟩;rw[dF_ o];have A:H (.tup [.int t',.tup [.str f,.int b]])=bt:=Mp.mpr λz=>o<|(O _).mpr z;rw[A,NS]at l;refine bq ⟨_,_,ac m,rfl,I,_,_,_,_,_,_,_,rfl,_,.inl w,⟨uo _,kX E⟩,?_⟩;rw[Kt T E];by_cases v:u∈F;rw[dT_ v];rw[dT_ v,o0 rfl]at l;exact bA ⟨⟨_,.inl w⟩,j l⟩;rw[dF_ v];rw[dF_ v,o4<|by decide]at l;exact bq<|z6.now<|l _ _ ⟨_,rfl,rfl⟩
theorem lL(T:Tops P w K mg base):u9 P w K mg base 2 "stamps_hushed" du bP:=u9.byD (N:=["says","hushes","hushed","stamp"]) T.b T.f_stamps_hushed (by walk_at"sc") kI (by have:=iN T;walk_at"dv") lE
def dJ:w6:=λds M R=>∃(ps:List (c6×Int)) (a:List (c6×List c6)) (s:List (D×D)) (q:Nat) (e:c6),ds=[.ref q,.str e]/\M[q]?=a7 (.dkt s)/\(s.map (·.1)).Nodup/\(∀x∈s,x.1=t5 x.2/\aJ ps a x.2)/\s.length<1000/\R (.ref M.length) (M++[.lst<|lK s e])
theorem qh:cI dJ iF:=by rintro ds M R ⟨ps,a,s,q,e,rfl,_⟩;rfl
def mv:s9:=bp<|E5 1 [0,1] (lB<|ab 0) (ah 0) (aq<|r9 A2 (t6 aZ<|aa (lT (ab 1)<|ab 0) af)<|ab 2)<|ab 0
theorem qJ:z5 dJ 2 mv:=by
 rintro ds M R ⟨ps,r,d,q,n,rfl,i,X,l,v,h⟩;simp only[mv];walk_at"dl";refine⟨d,i,λ_=>?_⟩;refine aU (λs=>decide<|aR ((ba d s).getD .non)=n) id (λS=>∃a,S=[a,a7<|.ref q,a7<|.str n]) i _ _ _ ?_ ⟨_,rfl⟩ (by rw[C8,u6];exact am<|by lia) ?_;rintro y O S ⟨a,rfl⟩;obtain⟨x,j,rfl⟩:=v8.mp O;obtain⟨m,f⟩:=l x j;have g:=cS X j;have c:St x.1:=by rw[m];exact f.st
 refine⟨[a7 x.1,a7<|.ref q,a7<|.str n],⟨_,rfl⟩,λY Z b=>?_⟩;rw[g]at b;generalize x.2=e at g f b;generalize x.1=s at g c b;obtain⟨t',G,H,rfl⟩:=c;obtain⟨t,z,k,o,w,ds,rfl,_⟩:=f;walk_at"dl";refine⟨_,_,i,rfl,g,_,_,_,_,rfl,⟨ao,ao⟩,?_⟩;rw[aM];have b:if decide (z=n)=a9 then Y (.tup [.int t',.tup [.str G,.int H]]) [a7<|.tup [.int t',.tup [.str G,.int H]],a7<|.ref q,a7<|.str n] M else Z [a7<|.tup [.int t',.tup [.str G,.int H]],a7<|.ref q,a7<|.str n] M:=b
 by_cases e:z=n;rw[beq_iff_eq.mpr e];rw[dT_ e]at b;exact b;rw[beq_eq_false_iff_ne.mpr e];rw[dF_ e]at b;exact b;rw[G6,MU];exact .inl h
theorem su(T:Tops P w K mg base):u9 P w K mg base 2 "stamps_by" iF dJ:=u9.byD (N:=["says","name"]) T.b T.f_stamps_by (by walk_at"sc") qh (by have:=bW T;walk_at"dv") qJ
def fN:w6:=λds M R=>∃(s u v w:D) (r z:c6) (a:List c6) (g ys:List D) (c j k:Nat),ds=[.tup [s,.str r,u,.str z,v,w],.ref c,.ref j,.ref k]/\M[c]?=a7 (.lst<|a.map .str)/\M[j]?=a7 (.lst g)/\M[k]?=a7 (.lst ys)/\St s/\(∀x∈g,St x)/\(∀x∈ys,eA x)/\R (.bl<|decide (r∈a)&&(!decide (s∈g) && !decide (D.tup [.str<|AA0 "person",.str z]∈ys))) M
theorem sU:cI fN kE:=by rintro ds M R ⟨s,u,v,w,r,z,a,g,ys,c,j,k,rfl,_⟩;rfl
def oZ:s9:=bp<|tN (r9 LP (r9 u7 (ab 0)<|dC<|.int 1)<|ab 1)<|tN (r9 lh (r9 u7 (ab 0)<|dC<|.int 0)<|ab 2)<|r9 lh (eG<|aa (dC<|.str "person")<|aa (r9 u7 (ab 0)<|dC<|.int 3) af)<|ab 3
theorem ui:z5 fN 4 oZ:=by
 rintro ds M R ⟨s,u,v,w,r,z,a,g,ys,q,j,k,rfl,g1,c,g3,hs,i,b,h⟩;have p:eA (.tup [.str<|AA0 "person",.str z]):=.inr<|.inl ⟨_,rfl⟩;simp only[oZ];walk_at"dl";refine⟨_,.inl g1,⟨ao,mN⟩,?_⟩;rw[nD];cases t:decide (r∈a) with
 |false=>rw[t]at h;exact bc.now h
 |true =>
  rw[t,Pb]at h;show ∃xs,ar M j xs/\_;refine⟨_,.inl c,⟨hs.ok,kX i⟩,?_⟩;rw[pz hs i];cases l:decide (s∈g) with
  |true=>rw[l]at h;exact bc.now h
  |false=>rw[l]at h;show 2<=sizeLine/\∃xs,ar M k xs/\_;refine⟨am (by lia),_,.inl g3,⟨(lq 3 t9 _ (by decide) p.pl).1,gI b⟩,?_⟩;rw[gP p b];rw[show (!bt && !decide (D.tup [.str<|AA0 "person",.str z]∈ys))=(decide (D.tup [.str<|AA0 "person",.str z]∈ys) != a9) by cases decide (D.tup [.str<|AA0 "person",.str z]∈ys)<;>rfl]at h;exact bc.now h
theorem uM(T:Tops P w K mg base):u9 P w K mg base 1 "can_ring" kE fN:=u9.byD (N:=["message","rooms","rung","hushes"]) T.b T.f_can_ring (by walk_at"sc") sU (by walk_at"dv") ui
def kb:w6:=λds M R=>∃(a b u d w:D) (s e:c6) (n:List D) (q:Nat) (quiet:Bool),ds=[.tup [a,b,u,d,.str s,w],.str e,.ref q,.bl quiet]/\M[q]?=a7 (.lst n)/\(∀x∈n,St x)/\(u=.non\/St u)/\s.length<=100/\e.length<=100/\R (if cL (.str s) e=a9 then .str (AA0 "named")else if u∈n then .str (AA0 "answered")else if quiet=a9 then .non else .str (AA0 "heard")) M
theorem ye:cI kb pX:=by rintro ds M R ⟨a,b,u,d,w,s,e,n,q,quiet,rfl,_⟩;rfl
def ou:s9:=bp<|dIfE (aq<|ab 3) (dC .non)<|dC<|.str "heard"
def ox:s9:=ax (A0 (aq<|r9 LP (r9 u7 (ab 0)<|dC<|.int 2)<|ab 2) (bp<|dC<|.str "answered") aX)<|ou
def vS:s9:=ax (A0 (aq<|t6 fM<|aa (r9 u7 (ab 0)<|dC<|.int 4)<|aa (ab 1) af) (bp<|dC<|.str "named") aX)<|ox
theorem yM:z5 kb 4 vS:=by
 rintro ds M R ⟨a,b,u,d,w,s,e,n,q,quiet,rfl,g,B,c,hs,f,h⟩;have o:u8 M t9 u=a9:=by rcases c with rfl|q;rfl;exact q.ok
 have I:atI [a,b,u,d,.str s,w] 4=a7 (.str s):=aF (j:=4) rfl;simp only[vS];walk_at"dl";rw[I];refine⟨s,e,rfl,hs,f,?_⟩;cases t:cL (.str s) e with
 |true=>rw[t,o0 rfl]at h;exact bA<|bc.now h
 |false =>
  rw[t,o4<|by decide]at h;refine bq ?_;simp only[ox];walk_at"dl";refine⟨_,.inl g,⟨o,kX B⟩,?_⟩;rw[Kt c B];by_cases l:u∈n;rw[dT_ l];rw[o0 l]at h;exact bA<|bc.now h;rw[dF_ l];rw[o4 l]at h;refine bq ?_;simp only[ou];walk_at"dl";cases quiet with
  |true=>rw[o0 rfl]at h;exact bA<|bc.now h
  |false=>rw[o4<|by decide]at h;exact bq<|bc.now h
theorem Ah(T:Tops P w K mg base):u9 P w K mg base 4 "why_of" pX kb:=u9.byD (N:=["message","name","own","quiet"]) T.b T.f_why_of (by walk_at"sc") ye (by have:=uL T;walk_at"dv") yM
def cO:w6:=λds M R=>∃(ps:List (c6×Int)) (a:List (c6×List c6)) (log:List D) (e:c6),ds=[aI ps a,.tup log,.str e]/\(∀d∈log,aJ ps a d)/\log.length<64/\a.length<=4/\e.length<=100/\R (.ref M.length) (M++[.lst<|ka a log e])
theorem qq:cI cO iM:=by rintro ds M R ⟨ps,a,log,e,rfl,_⟩;rfl
theorem wK(h:∀d∈log,aJ ps rs d)(n:aJ ps rs e)(A:bB e=AA0 "say"):∃s:c6,IX rs log e=.str s/\s.length<=100:=by
 unfold IX;cases S:ba (aN (aE rs log) log) (t5 e) with
 |none=>exact FH n A
 |some v=>obtain⟨d,m,t⟩:=v8.mp<|pE _<|bx S;obtain⟨h1,h2⟩:=aH (B9.mp m).1;have:=yD (h d h1) h2;injection t with _ e2;rw[<-e2];exact this
def ig:s9:=bp<|ab 9
def jw:s9:=A0 (vE (aq<|r9 lp (ab 12)<|dC .non)<|aq<|t6 fN<|aa (ab 10)<|aa (ab 3)<|aa (ab 4)<|aa (ab 5) af) (fI<|K2 bC (ab 9)<|aa (eG<|aa (r9 u7 (ab 10)<|dC<|.int 0)<|aa (ab 12) af) af) aX
def fe:s9:=ax (bb (t6 kb<|aa (ab 10)<|aa (ab 2)<|aa (ab 7)<|aa (ab 11) af) 12)<|jw
def jx:s9:=ax (lC (bV<|t6 bF<|aa (ab 0)<|aa (ab 1)<|aa (ab 2) af) (ah 10)<|ax (bb (Ir (r9 LP (eG<|aa (dC<|.str "room")<|aa (r9 u7 (ab 10)<|dC<|.int 1) af)<|ab 5)<|r9 LP (r9 u7 (ab 10)<|dC<|.int 0)<|ab 8) 11)<|fe)<|ig
def jy:s9:=ax (bb (ko af) 9)<|jx
def jz:s9:=ax (bb (t6 bP<|aa (ab 6)<|aa (ab 5) af) 8)<|jy
def jA:s9:=ax (bb (t6 dJ<|aa (ab 6)<|aa (ab 2) af) 7)<|jz
def jB:s9:=ax (bb (t6 bi<|aa (ab 0)<|aa (ab 1) af) 6)<|jA
def jC:s9:=ax (bb (t6 dO<|aa (ab 1)<|aa (ab 2) af) 5)<|jB
def jD:s9:=ax (bb (t6 bO<|aa (ab 1)<|aa (dC<|.str "rung")<|aa (ab 2) af) 4)<|jC
def mM:s9:=ax (bb (t6 fK<|aa (ab 0)<|aa (ab 2) af) 3)<|jD
theorem qR:z5 cO 13 mM:=by
 rintro ds M R ⟨ps,rs,log,n,rfl,I,hl,rl,nl,h⟩;have C:=aO (rs:=rs) (log:=log);have hv:=lX I (λ_ q=>q) C;have kl:=bh (log:=log) (k:=AA0 "say");have tl:=C.len;have sv:=eN (rs:=rs) I;simp only[mM];walk_at"dl";refine⟨ps,rs,n,rfl,by lia,?_⟩;have g3:(M++[MO.lst<|(dG rs n).map .str])[M.length]?=a7 (.lst<|(dG rs n).map .str):=ae;have f:M <+: M++[MO.lst<|(dG rs n).map .str]:=dH;generalize M++[MO.lst<|(dG rs n).map .str]=B1 at g3 f;generalize M.length=q3 at g3;simp only[jD];walk_at"dl";refine⟨ps,rs,log,_,n,rfl,I,by lia,.inr rfl,λbo=>?_⟩;have g:(B1++[MO.lst<|bj log (AA0 "rung") n])[B1.length]?=a7 (.lst<|bj log (AA0 "rung") n):=ae;replace g3:=ac (a:=MO.lst<|bj log (AA0 "rung") n) g3;replace f:=f.trans<|dH (mo:=MO.lst<|bj log (AA0 "rung") n);dsimp only;generalize B1++[MO.lst<|bj log (AA0 "rung") n]=B2 at g3 g f;generalize B1.length=q4 at g;simp only[jC];walk_at"dl";refine⟨ps,rs,log,n,rfl,I,Nat.lt_of_le_of_lt eP hl,by lia,λys hw hy=>?_⟩;have l:(B2++[MO.lst ys])[B2.length]?=a7 (.lst ys):=ae;replace g3:=ac (a:=MO.lst ys) g3;replace g:=ac (a:=MO.lst ys) g;replace f:=f.trans<|dH (mo:=MO.lst ys);dsimp only;generalize B2++[MO.lst ys]=B3 at g3 g l f;generalize B2.length=O at l;have K:∀w,decide (w∈ys)=bG log n w:=λw=>decide_eq_decide.mpr<|hy w;simp only[jB];walk_at"dl";refine⟨ps,rs,log,rfl,I,by lia,λP B4 p4 T=>?_⟩;replace g3:=aG p4 g3;replace g:=aG p4 g;replace l:=aG p4 l;replace f:=f.trans p4;dsimp only;simp only[jA];walk_at"dl";refine⟨ps,rs,ak rs log,P,n,rfl,T,C.nd,λx j=>⟨(C.en x j).1,(hv x j).1⟩,by lia,?_⟩;have ow:∀x∈lK (ak rs log) n,St x:=λx j=>by obtain⟨p,A,rfl⟩:=v8.mp (B9.mp j).1;rw[(C.en p A).1];exact(hv p A).1.st
 have N:(B4++[MO.lst<|lK (ak rs log) n])[B4.length]?=a7 (.lst<|lK (ak rs log) n):=ae;replace g3:=ac (a:=MO.lst<|lK (ak rs log) n) g3;replace g:=ac (a:=MO.lst<|lK (ak rs log) n) g;replace l:=ac (a:=MO.lst<|lK (ak rs log) n) l;replace T:=ac (a:=MO.lst<|lK (ak rs log) n) T;replace f:=f.trans<|dH (mo:=MO.lst<|lK (ak rs log) n);generalize B4++[MO.lst<|lK (ak rs log) n]=B5 at g3 g l T N f;generalize B4.length=q7 at N;simp only[jz];walk_at"dl";refine⟨ps,rs,ak rs log,ys,P,O,λs=>bG log n<|.tup [.str<|AA0 "under",s],rfl,T,l,C.nd,λx j=>⟨(C.en x j).1,hv x j⟩,by lia,hw,λs=>(by show _↔bG log n _=a9;rw[<-K,o7]),?_⟩;generalize hF:bd (λs=>bG log n<|.tup [.str<|AA0 "under",s]) (ak rs log)=F;have W:∀x∈F,St x:=λx j=>by rw[<-hF]at j;obtain⟨p,A,rfl⟩:=v8.mp<|jQ x j;rw[(C.en p A).1];exact(hv p A).1.st
 have g8:(B5++[MO.lst F])[B5.length]?=a7 (.lst F):=ae;replace g3:=ac (a:=MO.lst F) g3;replace g:=ac (a:=MO.lst F) g;replace l:=ac (a:=MO.lst F) l;replace N:=ac (a:=MO.lst F) N;replace f:=f.trans<|dH (mo:=MO.lst F);generalize B5++[MO.lst F]=B at g3 g l N g8 f;generalize B5.length=q8 at g8;simp only[jy];walk_at"dl";refine⟨z8 _,?_⟩;simp only[jx];walk_at"dl";refine⟨ps,rs,log,n,rfl,I,hl,?_⟩;generalize hU:(cQ rs log n).map (At<|aN (aE rs log) log)=U;have ul:U.length<=1000:=by rw[<-hU,u6];refine C7 (LN _ _) ?_;rw[u6];have:(aE rs log).length<=(ak rs log).length:=LN _ _;lia
 have g9:(B++[MO.lst []]++[MO.lst U])[B.length]?=a7 (.lst []):=ac ae;have H:(B++[MO.lst []]++[MO.lst U])[(B++[MO.lst []]).length]?=a7 (.lst U):=ae;have al:(B++[MO.lst []]).length=B.length+1:=by simp
 rw[al]at H ⊢;refine⟨_,.inl H,λ_=>?_⟩;have bl:∀i,(((cQ rs log n).take i).filterMap<|lU rs log n).length<=i:=λi=>by refine C7 (Rm _ _) ?_;rw[G0];lia
 refine aY (λi S m=>∃(a b c:Option D),B <+: m/\m[B.length]?=a7 (.lst<|((cQ rs log n).take i).filterMap<|lU rs log n)/\m[B.length+1]?=a7 (.lst U)/\S=[a7<|aI ps rs,a7<|.tup log,a7<|.str n,a7<|.ref q3,a7<|.ref q4,a7<|.ref O,a7<|.ref P,a7<|.ref q7,a7<|.ref q8,a7<|.ref B.length,a,b,c]) ?_ ?_ ⟨_,_,_,dH.trans dH,g9,H,rfl⟩;rintro S m ⟨a,b,c,pM,v,V,rfl⟩;have eU:U.length=(cQ rs log n).length:=by rw[<-hU,u6]
 rw[eU,L7]at v;refine⟨.inl V,?_⟩;simp only[ig];walk_at"dl";obtain⟨L,rfl⟩:∃L,B=M++L:=by obtain⟨L,e⟩:=f;exact⟨L,e.symm⟩
 have ed:(cQ rs log n).filterMap (lU rs log n)=ka rs log n:=rfl;rw[ed]at v;refine bc.chgL .refl h (by simp) v ((G2 _ _).trans pM)<|Bels.of λd bm=>?_;obtain⟨e,Y,eo⟩:=OG.mp bm;unfold lU at eo;split at eo;obtain⟨w,_,rfl⟩:=Me.mp eo;obtain⟨p,A,rfl⟩:=v8.mp (B9.mp Y).1;exact .tup<|.cons (cx 2 _ (sv p A).2.1.st.pl)<|.cons (.str _) .nil;cases eo;rintro i y S m hy ⟨a,b,c,pM,v,V,rfl⟩ G hG;rw[<-hU,C5]at hy;obtain⟨e,Y,rfl⟩:=Me.mp hy;have et:(cQ rs log n).take (i+1)=(cQ rs log n).take i++[e]:=by rw[Mo,Y];rfl
 have hi:=(x5.mp Y).1;rw[et,List.filterMap_append]at hG;have an:=bl i;obtain⟨p,A,ep⟩:=v8.mp (B9.mp<|F0 Y).1;obtain⟨_,de,ke⟩:=sv p A;have ep:p.2=e:=ep;rw[ep]at de ke;generalize ((cQ rs log n).take i).filterMap (lU rs log n)=bs at v hG an;have il:i<1000:=by rw[<-hU,u6]at ul;lia
 have aD:=aG pM g3;have aP:=aG pM g;have Q:=aG pM l;have aS:=aG pM N;have bk:=aG pM g8;refine⟨.inl V,?_⟩;obtain⟨s,es,sl⟩:=wK I de ke;have em:At (aN (aE rs log) log) e=.tup [t5 e,.str<|aB e,aW e,.str<|aR e,.str s,.bl (ba (aN (aE rs log) log)<|t5 e).isSome]:=by rw[<-es];rfl
 have J:=de.st;have hu:aW e=.non\/St (aW e):=by obtain⟨t,z,k,bS,r,u,s,rfl,_,_,_,hu⟩:=fY de ke;exact hu
 have ai:eA (.tup [.str<|AA0 "room",.str<|aB e]):=.inl ⟨_,rfl⟩;have o:lU rs log n e=(if zM rs log n e=a9 then(Ca rs log n e).map λw=>.tup [t5 e,.str w]else a8):=rfl;have as:Ca rs log n e=(if cL (.str s) n=a9 then a7 (AA0 "named")else if aW e∈lK (ak rs log) n then a7 (AA0 "answered")else if (bG log n (.tup [.str<|AA0 "room",.str<|aB e])||decide (t5 e∈F))=a9 then a8 else a7 (AA0 "heard")):=by unfold Ca;rw[es,hF]
 have aj:∀(E:DEnds) (quiet:Bool),E.nx=z6 (B++[MO.lst []]++[MO.lst U]) G->quiet=(bG log n (.tup [.str<|AA0 "room",.str<|aB e])||decide (t5 e∈F))->fe E [a7<|aI ps rs,a7<|.tup log,a7<|.str n,a7<|.ref q3,a7<|.ref q4,a7<|.ref O,a7<|.ref P,a7<|.ref q7,a7<|.ref q8,a7<|.ref B.length,a7<|.tup [t5 e,.str<|aB e,aW e,.str<|aR e,.str s,.bl (ba (aN (aE rs log) log)<|t5 e).isSome],a7<|.bl quiet,c] m:=λE quiet eE eq=>by
  have ev:(if cL (.str s) n=a9 then D.str (AA0 "named")else if aW e∈lK (ak rs log) n then .str (AA0 "answered")else if quiet=a9 then .non else .str (AA0 "heard"))=(match Ca rs log n e with|some w=>.str w|none=>.non):=by rw[as,eq];by_cases c1:cL (.str s) n=a9;rw[o0 c1,o0 c1];rw[o4 c1,o4 c1];by_cases c2:aW e∈lK (ak rs log) n;rw[o0 c2,o0 c2];rw[o4 c2,o4 c2];by_cases c3:(bG log n (.tup [.str<|AA0 "room",.str<|aB e])||decide (t5 e∈F))=a9;rw[o0 c3,o0 c3];rw[o4 c3,o4 c3]
  have e4:E.nx [a7<|aI ps rs,a7<|.tup log,a7<|.str n,a7<|.ref q3,a7<|.ref q4,a7<|.ref O,a7<|.ref P,a7<|.ref q7,a7<|.ref q8,a7<|.ref B.length,a7<|.tup [t5 e,.str<|aB e,aW e,.str<|aR e,.str s,.bl (ba (aN (aE rs log) log)<|t5 e).isSome],a7<|.bl quiet,a7 (match Ca rs log n e with|some w=>.str w|none=>.non)] (m.set B.length<|.lst<|bs++List.filterMap (lU rs log n) [e]):=by rw[eE];exact z6.now<|hG _ _ ⟨_,_,_,bM pM<|u5 _,bI v,ap (by lia) V,rfl⟩
  have no:lU rs log n e=a8->E.nx [a7<|aI ps rs,a7<|.tup log,a7<|.str n,a7<|.ref q3,a7<|.ref q4,a7<|.ref O,a7<|.ref P,a7<|.ref q7,a7<|.ref q8,a7<|.ref B.length,a7<|.tup [t5 e,.str<|aB e,aW e,.str<|aR e,.str s,.bl (ba (aN (aE rs log) log)<|t5 e).isSome],a7<|.bl quiet,a7 (match Ca rs log n e with|some w=>.str w|none=>.non)] m:=λz=>by rw[eE];refine z6.now<|hG _ _ ⟨_,_,_,pM,?_,V,rfl⟩;rw[Mq,z,Ql,G7];exact v
  simp only[fe];walk_at"dl";refine⟨_,_,_,_,_,s,n,lK (ak rs log) n,q7,quiet,rfl,aS,ow,hu,sl,nl,?_⟩;rw[ev];simp only[jw];cases Z:Ca rs log n e with
  |none=>rw[Z]at no o;walk_at"dl";refine no ?_;rw[o];split<;>rfl
  |some w =>
   rw[Z]at no o e4;walk_at"dl";refine⟨_,_,_,_,_,_,dG rs n,bj log (AA0 "rung") n,ys,q3,q4,O,rfl,aD,aP,Q,J,bo,hw,?_⟩;have er:(decide (aB e∈dG rs n)&&(!decide (t5 e∈bj log (AA0 "rung") n) && !decide (D.tup [.str<|AA0 "person",.str<|aR e]∈ys)))=zM rs log n e:=by rw[K];rfl
   rw[er];cases hb:zM rs log n e with
   |false=>rw[hb,o4<|by decide]at o;exact bq<|no o
   |true=>rw[hb,o0 rfl]at o;refine bA ⟨⟨_,.inl v⟩,am (by lia),_,v,aA (by lia),?_⟩;rw[Mq,o,Ql]at e4;exact e4
 rw[em];walk_at"dl";refine⟨am (by lia),_,.inl Q,⟨(lq 3 t9 _ (by decide) ai.pl).1,gI hw⟩,?_⟩;rw[gP ai hw,K];cases X:bG log n (.tup [.str<|AA0 "room",.str<|aB e]) with
 |true=>exact aj _ a9 rfl<|by rw[X];rfl
 |false=>show ∃xs,ar m q8 xs/\_;refine⟨_,.inl bk,⟨J.ok,kX W⟩,?_⟩;rw[pz J W];exact aj _ _ rfl<|by rw[X];cases decide (t5 e∈F)<;>rfl
theorem sE(T:Tops P w K mg base):u9 P w K mg base 7 "bells_for" iM cO:=u9.byD (N:=["house","log","name","rooms","rung","hushes","says","own","hushed","bells","message","quiet","why"]) T.b T.f_bells_for (by walk_at"sc") qq (by have:=uJ T;have:=ip T;have:=sA T;have:=dI T;have:=jM T;have:=lL T;have:=su T;have:=uM T;have:=Ah T;walk_at"dv") qR
noncomputable def Fl(ns:List Int)(k:Nat):Int:=ns.getD k 0
def gU:w6:=λds M R=>∃(n:Nat) (ns:List Int) (k:Nat),ds=[.ref n,.int k]/\ar M n (ns.map D.int)/\R (.int<|Fl ns k) M
theorem uZ:cI gU nb:=by rintro ds M R ⟨n,ns,k,rfl,_⟩;rfl
def mK:s9:=bp<|dC<|.int 0
def rQ:s9:=ax (A0 (aq<|r9 Nm (ab 1)<|t6 lJ<|aa (ab 0) af) (bp<|r9 u7 (ab 0)<|ab 1) aX)<|mK
theorem xC:z5 gU 2 rQ:=by rintro ds M R ⟨n,ns,k,rfl,L,h⟩;simp only[rQ,mK];walk_at"dl";refine⟨_,L,?_⟩;unfold Fl at h;by_cases a:k<ns.length;rw[dT_<|by simpa using a];refine bA ⟨_,L,?_⟩;rw[aF (v:=.int ns[k])<|by rw[C5,x3 a];rfl];rw[J6,x3 a]at h;exact bc.now h;rw[dF_<|by simpa using a];rw[J6,M8<|by lia]at h;exact bq<|bc.now h
theorem xU(T:Tops P w K mg base):u9 P w K mg base 1 "_law_cell_at" nb gU:=u9.byD (N:=["_law_script","_law_k"]) T.b T.f_cell_at (by walk_at"sc") uZ (by walk_at"dv") xC
def eX:w6:=λds M R=>∃(c:Int),ds=[.int c]/\∀n:Int,R (.ref M.length)<|M++[.lst [.int n]]
theorem yh:cI eX qc:=by rintro ds M R ⟨c,rfl,_⟩;rfl
def oR:s9:=bp<|ko<|aa (ab 3) af
def oS:s9:=bb (r9 bn (r9 pR (ab 3)<|dC<|.int 2147483587)<|r9 zP (r9 pR (ab 5)<|dC<|.int 69621)<|dC<|.int 2147483587) 3
def oT:s9:=ax (bb (r9 zP (r9 pR (ab 2)<|ab 2)<|dC<|.int 2147483629) 5)<|oS
def oU:s9:=ax (lC (dZ<|aa (dC<|.int 16) af) (ah 4)<|ax (bb (r9 zP (r9 bn (r9 bn (r9 pR (ab 2)<|dC<|.int 48271)<|r9 pR (dC<|.int 7919)<|ab 4)<|dC<|.int 11)<|dC<|.int 2147483647) 2)<|oT)<|oR
def oV:s9:=ax (bb (dC<|.int 0) 3)<|oU
def oW:s9:=ax (bb (r9 zP (ab 1)<|dC<|.int 2147483647) 2)<|oV
def oX:s9:=ax (A0 (aq<|r9 A2 (r9 zP (ab 0)<|dC<|.int 2)<|dC<|.int 0) (bp<|ko<|aa (ab 1) af) aX)<|oW
def wB:s9:=ax (bb (r9 uD (ab 0)<|dC<|.int 2) 1)<|oX
theorem yP:z5 eX 6 wB:=by
 rintro ds M R ⟨c,rfl,h⟩;simp only[wB,oX];walk_at"dl";refine⟨⟨by decide,by decide⟩,by decide,⟨rfl,rfl⟩,?_⟩;generalize g:t8 M t9 (.int<|c % 2) (.int 0)=b;cases b with
 |true=>exact bA ⟨am (by lia),.inl<|h _⟩
 |false=>refine bq ?_;simp only[oW,oV,oU];walk_at"dl";have U:=wV (a:=c / 2) (b:=2147483647) (by decide);have r:=wW (a:=c / 2) (b:=2147483647) (by decide);refine⟨by decide,⟨by decide,by decide⟩,?_⟩;refine aY (λi S d=>d=M/\∃(u e:Int) (a b:Option D),0<=u/\u<2147483647/\S=[a7<|.int c,a7<|.int<|c / 2,a7<|.int u,a7<|.int e,a,b]) ?_ ?_ ⟨rfl,_,_,_,_,U,r,rfl⟩;rintro S d ⟨rfl,u,e,a,b,_,_,rfl⟩;refine⟨trivial,?_⟩;simp only[oR];walk_at"dl";exact⟨am (by lia),.inl<|h _⟩;rintro i y S d O ⟨rfl,u,e,a,b,n,j,rfl⟩ G l;obtain⟨hi,rfl⟩:=fh.mp O;refine⟨trivial,?_⟩;walk_at"dl";refine⟨.inr ⟨by decide,by decide⟩,.inl ⟨by decide,by decide⟩,by decide,?_⟩;have f:=wV (a:=u*48271+7919*(0+(i:Int))+11) (b:=2147483647) (by decide);have F:=wW (a:=u*48271+7919*(0+(i:Int))+11) (b:=2147483647) (by decide);generalize (u*48271+7919*(0+(i:Int))+11) % 2147483647=v at f F;simp only[oT,oS];walk_at"dl";refine⟨.inl ⟨by lia,by lia⟩,by decide,.inr ⟨by decide,by decide⟩,.inr ⟨by decide,by decide⟩,by decide,?_⟩;exact z6.now<|l _ _ ⟨rfl,_,_,_,_,f,F,rfl⟩
theorem sC(T:Tops P w K mg base):u9 P w K mg base 1 "_law_digits" qc eX:=u9.byD (N:=["_law_cell","_law_rest","_law_number","_law_total","_law_k","_law_other"]) T.b T.f_digits (by walk_at"sc") yh (by walk_at"dv") yP
def az:w6:=λds M R=>∃(q:Nat) (m:Int),ds=[.ref q,.int m]/\LQ M q/\0<m/\m<100000000000/\∀i n:Int,0<=i->i<m->R (.int i) (M.set q<|.lst [.int n])
theorem Dh:cI az zZ:=by rintro ds M R ⟨q,m,rfl,_⟩;rfl
def vX:s9:=bp<|ab 2
def vY:s9:=ax (Iu (r9 uD (r9 u7 (ab 0)<|dC<|.int 0)<|ab 1)<|Ei (ab 0)<|dC<|.int 0)<|vX
def EG:s9:=ax (bb (r9 zP (r9 u7 (ab 0)<|dC<|.int 0)<|ab 1) 2)<|vY
theorem Fq:z5 az 3 EG:=by rintro ds M R ⟨q,m,rfl,⟨n,a⟩,F,V,h⟩;simp only[EG,vY,vX];walk_at"dl";refine⟨_,.inl a,?_⟩;rw[OU];refine⟨F,_,.inl a,?_⟩;rw[OU];exact⟨⟨F,by lia⟩,_,0,a,rfl,.inl<|h _ _ (wV F)<|wW F⟩
theorem fv(T:Tops P w K mg base):u9 P w K mg base 1 "_law_take" zZ az:=u9.byD (N:=["_law_held","_law_many","_law_digit"]) T.b T.f_take (by walk_at"sc") Dh (by walk_at"dv") Fq
def kP:w6:=λds M R=>∃(q:Nat),ds=[.ref q]/\LQ M q/\∀(z:c6) (n:Int),z.length<=8->eD z->R (.str z) (M.set q<|.lst [.int n])
theorem Dm:cI kP Ae:=by rintro ds M R ⟨q,rfl,_⟩;rfl
theorem vJ:∀c∈(AA0 "abcdefghijklmnopqrstuvwxyz").cps.toList,97<=c/\c<=122:=by decide +kernel
theorem eD.nil:eD (AA0 ""):=λc f=>by rw[show (AA0 "").cps.toList=[] by decide +kernel]at f;cases f
def wt:s9:=bp<|ab 2
def wu:s9:=ax (lC (dZ<|aa (r9 bn (dC<|.int 1)<|t6 az<|aa (ab 0)<|aa (dC<|.int 8) af) af) (ah 3)<|bb (r9 bn (ab 2)<|r9 u7 (ab 1)<|t6 az<|aa (ab 0)<|aa (dC<|.int 26) af) 2)<|wt
def wv:s9:=ax (bb (dC<|.str "") 2)<|wu
def EL:s9:=ax (bb (dC<|.str "abcdefghijklmnopqrstuvwxyz") 1)<|wv
theorem Fw:z5 kP 4 EL:=by
 rintro ds M R ⟨q,rfl,e,h⟩;have l:=e.lt;simp only[EL,wv,wu];walk_at"dl";refine⟨q,8,rfl,e,by decide,by decide,λi n x A=>?_⟩;have m:=e.start.set (n:=n) l;generalize M.set q (.lst [.int n])=B at m;walk_at"dl";refine⟨⟨by lia,by lia⟩,?_⟩;refine aY (λj S b=>Hl M b q/\∃(z:c6) (a:Option D),z.length=j/\eD z/\S=[a7<|.ref q,a7<|.str<|AA0 "abcdefghijklmnopqrstuvwxyz",a7<|.str z,a]) ?_ ?_ ⟨m,AA0 "",_,by decide +kernel,.nil,rfl⟩;rintro S b ⟨g,z,a,f,s,rfl⟩;refine⟨trivial,?_⟩;simp only[wt];walk_at"dl";rw[fg]at f;exact g.fin (.str _) λn=>h z n (by lia) s;rintro j y S b O ⟨g,z,a,f,s,rfl⟩ G p;have L:=(fh.mp O).1;refine⟨trivial,?_⟩;walk_at"dl";refine⟨q,26,rfl,g.hd l,by decide,by decide,λk n v w=>?_⟩;have g1:=g.set (n:=n) l;generalize b.set q (.lst [.int n])=I at g1;walk_at"dl";have t:(AA0 "abcdefghijklmnopqrstuvwxyz").cps.toList.length=26:=by decide +kernel
 have u:(AA0 "abcdefghijklmnopqrstuvwxyz").length=26:=by decide +kernel
 obtain⟨C,d,o,_⟩:=iw (xs:=(AA0 "abcdefghijklmnopqrstuvwxyz").cps.toList) v (by rw[t];exact w);refine⟨by rw[u];exact am (by lia),?_⟩;rw[o];have o1:∀c:Nat,(⟨#[c]⟩:c6).length=1:=λ_=>rfl;refine⟨by rw[o1];exact am (by lia),z6.now<|p _ _ ⟨g1,_,_,?_,s.app λc r=>?_,rfl⟩⟩;rw[cD,o1,f];rw[show c=_ from LJ.mp r];exact vJ _<|L5 d
theorem Al(T:Tops P w K mg base):u9 P w K mg base 2 "_law_name" Ae kP:=u9.byD (N:=["_law_held","_law_letters","_law_name_here","_law_k"]) T.b T.f_name (by walk_at"sc") Dm (by have:=fv T;walk_at"dv") Fw
def kh:w6:=λds M R=>∃(q:Nat) (m:Int),ds=[.ref q,.int m]/\LQ M q/\1<=m/\m<=4/\∀(xs:List c6) (n:Int),xs.Nodup->1<=xs.length->xs.length<=4->(∀x∈xs,x.length<=8/\eD x)->R (.ref M.length) (M.set q (.lst [.int n])++[.lst<|xs.map .str])
theorem AB:cI kh uF:=by rintro ds M R ⟨q,m,rfl,_⟩;rfl
theorem eD.cut(h:eD x)(b:Nat):eD (K5 x a8<|a7 (b:Int)):=λc f=>by rw[wJ]at f;exact h c<|Qt f
def mC:s9:=bp<|t6 ku<|aa (ab 4) af
def mD:s9:=A0 (aq<|r9 lh (ab 6)<|ab 4) (fI<|K2 bC (ab 4)<|aa (ab 6) af) aX
def rB:s9:=ax (A0 (aq<|ab 2) (bb (Mg (Mg (r9 bn (Mg (ab 3) fH<|gx<|dC<|.int 7)<|ab 6) fH<|gx<|r9 bn (t6 lJ<|aa (ab 3) af)<|ab 5) fH<|gx<|dC<|.int 8) 6) aX)<|mD
def rC:s9:=ax (lC (qz<|aa (dC<|.int 1)<|aa (ab 1) af) (ah 5)<|ax (bb (t6 kP<|aa (ab 0) af) 6)<|rB)<|mC
def rD:s9:=ax (bb (ko<|aa (ab 3) af) 4)<|rC
def rE:s9:=ax (bb (t6 kP<|aa (ab 0) af) 3)<|rD
def za:s9:=ax (bb (r9 A2 (t6 az<|aa (ab 0)<|aa (dC<|.int 2) af)<|dC<|.int 1) 2)<|rE
theorem BX:z5 kh 7 za:=by
 rintro ds M R ⟨q,m,rfl,B,m1,m4,h⟩;have r:=B.lt;simp only[za];walk_at"dl";refine⟨q,2,rfl,B,by decide,by decide,λi n _ _=>?_⟩;have v:=B.start.set (n:=n) r;generalize M.set q (.lst [.int n])=E at v;refine⟨⟨rfl,rfl⟩,?_⟩;generalize t8 E t9 (.int i) (.int 1)=u;simp only[rE];walk_at"dl";refine⟨q,rfl,v.hd r,λz n Z s=>?_⟩;have g1:=v.set (n:=n) r;generalize E.set q (.lst [.int n])=I at g1;simp only[rD];walk_at"dl";refine⟨am (by lia),?_⟩;have J:Hl M (I++[MO.lst [D.str z]]) q:=g1.more;have k:(I++[MO.lst [D.str z]])[I.length]?=a7 (.lst<|[z].map D.str):=ae;have pM:=g1.len;generalize I++[MO.lst [D.str z]]=F at J k;generalize I.length=p at k pM;simp only[rC];walk_at"dl";refine⟨⟨by decide,by decide,by lia,by lia⟩,?_⟩;refine aY (λj S f=>Hl M f q/\∃(xs:List c6) (a b:Option D),xs.Nodup/\1<=xs.length/\xs.length<=1+j/\(∀x∈xs,x.length<=8/\eD x)/\f[p]?=a7 (.lst<|xs.map .str)/\S=[a7<|.ref q,a7<|.int m,a7<|.bl u,a7<|.str z,a7<|.ref p,a,b]) ?_ ?_ ⟨J,[z],_,_,by simp,by simp,by simp,by simpa using⟨Z,s⟩,k,rfl⟩;rintro S f ⟨g,xs,a,b,X,N,P,t,k,rfl⟩;rw[fg]at P;refine⟨trivial,?_⟩;simp only[mC];walk_at"dl";refine⟨_,.inl k,(Ck<|by lia).g,λys O _=>?_⟩;obtain⟨Q,rfl,A⟩:=sk O;have hl:=A.length_eq;exact(g.more (L:=[.lst<|Q.map .str])).finL g.len ae (wG _) λn=>h Q n (A.nodup_iff.mpr X) (by lia) (by lia) λx l=>t x<|A.mem_iff.mp l;rintro j y S f O ⟨g,xs,a,b,X,N,P,t,k,rfl⟩ G K;obtain⟨hj,rfl⟩:=fh.mp O;refine⟨trivial,?_⟩;walk_at"dl";refine⟨q,rfl,g.hd r,λy n C d=>?_⟩;have g3:=g.set (n:=n) r;have c:(f.set q<|.lst [.int n])[p]?=a7 (.lst<|xs.map .str):=ap (by lia) k;generalize f.set q (.lst [.int n])=T at g3 c;have o:∀y:c6,y.length<=8->eD y->mD ⟨z6 F G,bc M R,λU f=>mC (EE M R) U f,z6 F G⟩ [a7<|.ref q,a7<|.int m,a7<|.bl u,a7<|.str z,a7<|.ref p,a7<|.int<|1+(j:Int),a7<|.str y] T:=λy C d=>by simp only[mD];walk_at"dl";refine⟨_,.inl c,⟨ao,mN⟩,?_⟩;rw[nD];by_cases w:y∈xs;rw[dT_ w];exact bq<|z6.now<|K _ _ ⟨g3,xs,_,_,X,N,by lia,t,c,rfl⟩;rw[dF_ w];refine bA ⟨⟨_,.inl c⟩,_,c,aA (by rw[u6];lia),?_⟩;refine z6.now<|K _ _ ⟨g3.setO pM,xs++[y],_,_,?_,?_,?_,λx l=>?_,?_,rfl⟩;exact Qb.mpr ⟨X,by simp,λa V b W e=>w<|by rw[show b=y by simpa using W]at e;exact e ▸ V⟩;rw[A1];lia;rw[A1,K0];lia;rcases D7.mp l with l|l;exact t x l;rw[show x=y by simpa using l];exact⟨C,d⟩;rw[G5];exact bI c
 simp only[rB];walk_at"dl";cases u with
 |false=>exact bq<|o y C d
 |true=>have s1:=Txt.slice_le z a8<|a7 7;have Y:=Txt.slice_le (K5 z a8 (a7 7)++y) a8<|a7<|(z.length:Int)+(1+(j:Int));rw[cD]at Y;refine bA ⟨am (by lia),am (by lia),am (by lia),by rw[cD];exact am (by lia),am (by lia),?_⟩;have H:=((s.cut 7).app d).cut<|z.length+(1+j);rw[show ((z.length+(1+j):Nat):Int)=(z.length:Int)+(1+(j:Int)) by lia]at H;exact o _ (Cm _ 8)<|H.cut 8
theorem CP(T:Tops P w K mg base):u9 P w K mg base 3 "_law_names" uF kh:=u9.byD (N:=["_law_held","_law_many","_law_alike","_law_base","_law_names_here","_law_k","_law_name_here"]) T.b T.f_names (by walk_at"sc") AB (by have:=fv T;have:=Al T;walk_at"dv") BX
def me:w6:=λds M R=>∃(c:Int),ds=[.int c]/\∀ps a,HouseF ps a->R (aI ps a) M
theorem AC:cI me uG:=by rintro ds M R ⟨c,rfl,_⟩;rfl
structure Mi(M B:t7)(q p:Nat)(ns:List c6):Prop where
 pre:M <+: B
 qM:M.length<=q
 hd:LQ B q
 ne:p≠q
 nm:B[p]?=a7 (.lst<|ns.map .str)
section
variable{M B:t7}{q p m:Nat}{ns:List c6}{n:Int}{x:MO}
theorem Mi.set(g:Mi M B q p ns):Mi M (B.set q<|.lst [.int n]) q p ns:=⟨bM g.pre g.qM,g.qM,⟨n,Mr g.hd.lt⟩,g.ne,ap g.ne g.nm⟩
theorem Mi.more(g:Mi M B q p ns):Mi M (B++L) q p ns:=⟨g.pre.trans<|G2 _ _,g.qM,by obtain⟨n,h⟩:=g.hd;exact⟨n,aG (G2 _ _) h⟩,g.ne,aG (G2 _ _) g.nm⟩
theorem Mi.setO(g:Mi M B q p ns)(h1:M.length<=m)(h2:q≠m)(a:p≠m):Mi M (B.set m x) q p ns:=⟨bM g.pre h1,g.qM,by obtain⟨n,h⟩:=g.hd;exact⟨n,ap h2 h⟩,g.ne,ap a g.nm⟩
end
def rG:s9:=bp<|eG<|aa (ab 3)<|aa (t6 jH<|aa (ab 4) af) af
def rH:s9:=fI<|K2 bC (ab 4)<|aa (eG<|aa (ab 5)<|aa (t6 jH<|aa (ab 7) af) af) af
def rJ:s9:=ax (pF 1 [2,6] (dZ<|aa (t6 lJ<|aa (ab 2) af) af) (ah 0) (aq<|r9 A2 (r9 zP (r9 uD (ab 2)<|r9 Ik (dC<|.int 1)<|ab 0)<|dC<|.int 2)<|dC<|.int 1) (r9 u7 (ab 1)<|ab 0) 7)<|rH
def mI:s9:=ax (lC (bV<|t6 kh<|aa (ab 1)<|aa (r9 bn (dC<|.int 1)<|t6 az<|aa (ab 1)<|aa (dC<|.int 4) af) af) (ah 5)<|ax (bb (r9 bn (dC<|.int 1)<|t6 az<|aa (ab 1)<|aa (r9 Jc (r9 Ik (dC<|.int 1)<|t6 lJ<|aa (ab 2) af)<|dC<|.int 1) af) 6)<|rJ)<|rG
def rK:s9:=ax (bb (ko af) 4)<|mI
def rL:s9:=ax (bb (t6 jH<|aa (E5 1 [1] (bV<|ab 2) (ah 0) vD<|eG<|aa (ab 0)<|aa (r9 bn (dC<|.int 1)<|t6 az<|aa (ab 1)<|aa (dC<|.int 3) af) af) af) 3)<|rK
def rN:s9:=ax (bb (t6 kh<|aa (ab 1)<|aa (r9 bn (dC<|.int 1)<|t6 az<|aa (ab 1)<|aa (dC<|.int 4) af) af) 2)<|rL
def zt:s9:=ax (bb (t6 eX<|aa (ab 0) af) 1)<|rN
theorem He(g:Mi M B q p ns)(n1:1<=ns.length)(n4:ns.length<=4)(rM:M.length<=r)(O:r≠q)(rp:r≠p)(C:B[r]?=a7 (.lst []))(h:∀rs:List (c6×List c6),1<=rs.length/\rs.length<=4->(rs.map (·.1)).Nodup->(∀r∈rs,r.2.length<=4)->R (aI ps rs) M):mI (EE M R) [y0,a7<|.ref q,a7<|.ref p,a7<|.tup<|ps.map iE,a7<|.ref r,y5,y6,y7] B:=by
 simp only[mI];walk_at"dl";refine⟨q,4,rfl,g.hd,by decide,by decide,λi n i0 i1=>?_⟩;have A:=g.set (n:=n);have t:(B.set q<|.lst [.int n])[r]?=a7 (.lst []):=ap O C;generalize B.set q (.lst [.int n])=f at A t;refine⟨q,1+i,rfl,A.hd,by lia,by lia,λl n wn w1 w4 w8=>?_⟩;have g1:=A.set (n:=n);have T:(f.set q<|.lst [.int n])[r]?=a7 (.lst []):=ap O t;have bl:(f.set q<|.lst [.int n]).length=f.length:=J7 ..;have g2:=g1.more (L:=[.lst<|l.map .str]);have E:=ac (a:=.lst<|l.map .str) T;have m:(f.set q (.lst [.int n])++[.lst<|l.map .str])[f.length]?=a7 (.lst<|l.map .str):=by rw[<-bl];exact ae
 have wM:M.length<=f.length:=A.pre.length_le;have wq:f.length≠q:=by have:=A.hd.lt;lia
 have wp:f.length≠p:=by have:=aL A.nm;lia
 have wr:f.length≠r:=by have:=aL t;lia
 generalize f.set q (.lst [.int n])++[.lst<|l.map .str]=B2 at g2 E m;generalize f.length=w at m wM wq wp wr;refine⟨_,.inl m,λ_=>?_⟩;refine aY (λj S o=>∃(rs:List (c6×List c6)) (a b c:Option D),Mi M o q p ns/\o[r]?=a7 (.lst<|rs.map fZ)/\o[w]?=a7 (.lst<|l.map .str)/\rs.map (·.1)=l.take j/\rs.length=j/\(∀x∈rs,x.2.length<=4)/\S=[y0,a7<|.ref q,a7<|.ref p,a7<|.tup<|ps.map iE,a7<|.ref r,a,b,c]) ?_ ?_ ⟨[],_,_,_,g2,E,m,rfl,rfl,(λ_ z=>nomatch z),rfl⟩;rintro S o ⟨rs,a,b,c,g,C,m,I,X,Z,rfl⟩;rw[u6]at I X;rw[L7]at I;refine⟨.inl m,?_⟩;simp only[rG];walk_at"dl";refine⟨_,.inl C,am (by lia),?_⟩;refine bc.keep (h rs ⟨by lia,by lia⟩ (by rw[I];exact wn) Z) ?_ g.pre;refine .tup<|.cons (.tup<|Bels.of λd V=>?_)<|.cons (.tup<|Bels.of λd V=>?_) .nil;obtain⟨x,_,rfl⟩:=v8.mp V;exact .tup<|.cons (.str _)<|.cons (.int _) .nil;obtain⟨x,_,rfl⟩:=v8.mp V;exact .tup<|.cons (.str _)<|.cons (.tup<|wG _) .nil;rintro j y S o hy ⟨rs,a,b,c,g,C,m,I,X,Z,rfl⟩ G hG;rw[C5]at hy;obtain⟨s,hs,rfl⟩:=Me.mp hy;have W:=(x5.mp hs).1;have et:l.take (j+1)=l.take j++[s]:=by rw[Mo,hs];rfl
 refine⟨.inl m,?_⟩;walk_at"dl";have pw:0<(1:Int)*2 ^ ns.length-1/\(1:Int)*2 ^ ns.length-1<100:=by
  have:ns.length=1\/ns.length=2\/ns.length=3\/ns.length=4:=by lia
  rcases this with e|e|e|e<;>rw[e]<;>decide
 refine⟨_,.inl g.nm,⟨by lia,by rw[u6];lia,by decide⟩,?_⟩;rw[u6,ME];refine⟨q,_,rfl,g.hd,pw.1,by lia,λi n i0 i1=>?_⟩;have g3:=g.set (n:=n);have F:(o.set q<|.lst [.int n])[r]?=a7 (.lst<|rs.map fZ):=ap O C;have H:(o.set q<|.lst [.int n])[w]?=a7 (.lst<|l.map .str):=ap wq m;generalize o.set q (.lst [.int n])=B3 at g3 F H;simp only[rJ];walk_at"dl";refine⟨_,.inl g3.nm,⟨by lia,by rw[u6];lia⟩,?_⟩;rw[u6,ME];refine qA (λys acc S P=>∃(xs:List c6) (Q:Option D),acc=xs.map D.str/\xs.length+ys.length<=4/\(∀y∈ys,∃j:Nat,y=.int (0+(j:Int))/\j<ns.length)/\P=B3/\S=[Q,a7<|.ref p,a7<|.int<|1+i]) ?_ ?_ _ _ _ _ ⟨[],_,rfl,by rw[C8,fg];lia,λy' k=>?_,rfl,rfl⟩;rintro acc S P ⟨xs,Q,rfl,N,_,rfl,rfl⟩;rw[C8,Nat.add_zero]at N;refine⟨trivial,?_⟩;simp only[rH];walk_at"dl";have g4:=g3.more (L:=[.lst<|xs.map .str]);have u:=ac (a:=.lst<|xs.map .str) F;have U:=ac (a:=.lst<|xs.map .str) H;refine⟨⟨_,.inl u⟩,_,aw,am (by lia),_,u,aA (by rw[u6];lia),?_⟩;refine z6.now<|hG _ _ ⟨rs++[(s,xs)],_,_,_,g4.setO rM (w9 O)<|w9 rp,?_,ap wr U,?_,?_,λx J=>?_,rfl⟩;rw[G5];exact bI u;rw[G5,I,et];rfl;rw[A1,X];rfl;rcases D7.mp J with J|J;exact Z x J;rw[show x=(s,xs) by simpa using J];exact N;rintro y' ys acc S P ⟨xs,Q,rfl,xl,k,rfl,rfl⟩ K hK;obtain⟨j,rfl,W⟩:=k y' (by simp);rw[C4]at xl;refine⟨trivial,?_⟩;walk_at"dl";have e3:atI (ns.map D.str) (0+(j:Int))=a7 (.str<|ns[j]'(by lia)):=by rw[Int.zero_add];exact aF<|by rw[C5,x3<|by lia];rfl
 have pw:Ii (1+i) (1*2 ^ (0+(j:Int)).toNat):=by
  rw[Int.zero_add,ME];have:j=0\/j=1\/j=2\/j=3:=by lia
  rcases this with rfl|rfl|rfl|rfl<;>exact⟨by decide,by decide⟩
 refine⟨⟨by lia,by lia,by decide⟩,pw,by decide,⟨qf,qf⟩,?_⟩;split;refine⟨_,.inl g3.nm,?_⟩;rw[e3];exact⟨by rw[u6];exact aA (by lia),hK _ _ _ ⟨xs++[_],_,by simp;rfl,by rw[A1,K0];lia,λz v=>k z<|A6 _ v,rfl,rfl⟩⟩;exact hK _ _ _ ⟨xs,_,rfl,by lia,λz v=>k z<|A6 _ v,rfl,rfl⟩;obtain⟨j,W⟩:=MQ k;obtain⟨Y,rfl⟩:=fh.mp W;exact⟨j,rfl,Y⟩
theorem BY:z5 me 8 zt:=by
 rintro ds M R ⟨c,rfl,h⟩;simp only[zt];walk_at"dl";refine⟨c,rfl,λn=>?_⟩;simp only[rN];walk_at"dl";refine⟨M.length,4,rfl,⟨n,ae⟩,by decide,by decide,λi f O P=>?_⟩;rw[iA];refine⟨M.length,1+i,rfl,⟨f,ae⟩,by lia,by lia,λns f X w C E=>?_⟩;rw[iA];have r:(M++[MO.lst [D.int f]]).length=M.length+1:=by simp
 have g:Mi M (M++[MO.lst [D.int f]]++[MO.lst<|ns.map .str]) M.length (M.length+1) ns:=⟨dH.trans dH,u5 _,⟨f,ac ae⟩,by lia,by rw[<-r];exact ae⟩
 have s:∀n:Int,(M++[MO.lst [D.int n]]).length=M.length+1:=λn=>by simp
 rw[s];generalize M++[MO.lst [D.int f]]++[MO.lst<|ns.map .str]=B at g;generalize N:M.length=q at g;generalize q+1=p at g;simp only[rL];walk_at"dl";refine⟨_,.inl g.nm,λ_=>?_⟩;refine qA (λys acc S d=>∃(ps:List (c6×Int)) (a:Option D) (i:Nat),Mi M d q p ns/\acc=ps.map iE/\ps.length=i/\ps.map (·.1)=ns.take i/\(∀x∈ps,(1<=x.2/\x.2<=3)/\(x.1.length<=8/\eD x.1))/\ys=(ns.map D.str).drop i/\i<=ns.length/\S=[a,a7<|.ref q]) ?_ ?_ _ _ _ _ ⟨[],_,0,g,rfl,rfl,rfl,(λ_ z=>nomatch z),by simp,z8 _,rfl⟩;rintro acc S d ⟨ps,a,i,g,rfl,o,m,j,e,v,rfl⟩;have hi:i=ns.length:=by have:=p7 K6 e;rw[C8,Mn,u6]at this;lia
 refine⟨.inl g.nm,_,aw,?_⟩;simp only[rK];walk_at"dl";refine⟨z8 _,?_⟩;have u:=(g.more (L:=[.lst<|ps.map iE])).more (L:=[.lst []]);have U:=g.pre.length_le;have V:=g.hd.lt;have F:=aL g.nm;have l:(d++[MO.lst<|ps.map iE]).length=d.length+1:=by simp
 refine He u w C (by rw[l];lia) (by rw[l];lia) (by rw[l];lia) ae λJ G I H=>h ps J ⟨⟨by lia,by lia⟩,λx b=>(j x b).1,λx b=>(j x b).2.1,G,by rw[m];exact X.sublist<|List.take_sublist _ _,I,H,λx b=>(j x b).2.2⟩;rintro y ys acc S d ⟨ps,a,i,g,rfl,o,m,j,e,v,rfl⟩ K A;have hi:i<ns.length:=by have:=p7 K6 e;rw[C4,Mn,u6]at this;lia
 have t:i<(ns.map D.str).length:=by rw[u6];exact hi
 rw[QG t]at e;injection e with h1 h2;rw[N6]at h1;subst h1;refine⟨.inl g.nm,?_⟩;walk_at"dl";refine⟨q,3,rfl,g.hd,by decide,by decide,λk f Q T=>?_⟩;refine⟨am (by lia),by rw[u6];exact aA (by lia),A _ _ _ ⟨ps++[(ns[i],1+k)],_,i+1,g.set,by rw[G5];rfl,by rw[A1,o];rfl,?_,λx b=>?_,h2,by lia,rfl⟩⟩;rw[G5,m,Mo,x3 hi];rfl;rcases D7.mp b with b|b;exact j x b;rw[show x=(ns[i],1+k) by simpa using b];exact⟨⟨by show 1<=1+k;lia,by show 1+k<=3;lia⟩,E _<|L5 hi⟩
theorem CQ(T:Tops P w K mg base):u9 P w K mg base 4 "_law_house" uG me:=u9.byD (N:=["_law_cell","_law_held","_law_names_here","_law_people","_law_rooms","_law_room","_law_bits","_law_members"]) T.b T.f_house (by walk_at"sc") AC (by have:=sC T;have:=fv T;have:=CP T;walk_at"dv") BY
def gG:w6:=λds M R=>∃(q p:Nat) (xs:List c6),ds=[.ref q,.ref p]/\LQ M q/\p≠q/\ar M p (xs.map .str)/\1<=xs.length/\xs.length<=1000/\(∀x∈xs,x.length<=8)/\∀(x:c6) (n:Int),x.length<=100->R (.str x) (M.set q<|.lst [.int n])
theorem yg:cI gG pZ:=by rintro ds M R ⟨q,p,xs,rfl,_⟩;rfl
def oF:s9:=bp<|Mg (ab 3) fH<|gx<|dC<|.int 60
def oG:s9:=bb (r9 bn (ab 3)<|r9 u7 (ab 6)<|t6 az<|aa (ab 0)<|aa (dC<|.int 7) af) 3
def oH:s9:=ax (bb (ko<|aa (r9 bn (dC<|.str "@")<|ab 5)<|aa (r9 bn (r9 bn (dC<|.str "@")<|ab 5)<|dC<|.str " ")<|aa (r9 bn (r9 bn (dC<|.str "@")<|ab 5)<|dC<|.str "x")<|aa (ab 5)<|aa (dC<|.str "hi ")<|aa (dC<|.str "@")<|aa (r9 bn (dC<|.str "@")<|ab 5) af) 6)<|oG
def oJ:s9:=ax (lC (dZ<|aa (r9 bn (dC<|.int 1)<|t6 az<|aa (ab 0)<|aa (dC<|.int 4) af) af) (ah 4)<|ax (bb (r9 u7 (ab 1)<|t6 az<|aa (ab 0)<|aa (t6 lJ<|aa (ab 1) af) af) 5)<|oH)<|oF
def oK:s9:=bp<|ab 3
def oM:s9:=ax (A0 (aq<|r9 A2 (t6 az<|aa (ab 0)<|aa (dC<|.int 3) af)<|dC<|.int 0) (ax (lC (dZ<|aa (r9 bn (dC<|.int 1)<|t6 az<|aa (ab 0)<|aa (dC<|.int 60) af) af) (ah 4)<|bb (r9 bn (ab 3)<|r9 u7 (ab 2)<|t6 az<|aa (ab 0)<|aa (dC<|.int 94) af) 3)<|oK) aX)<|oJ
def oN:s9:=ax (bb (dC<|.str "") 3)<|oM
def vZ:s9:=ax (bb (dC<|.str " !\"#$&'()*+,-./0123456789:;<=>?@ABCDEFGHIJKLMNOPQRSTUVWXYZ[\\]^_`abcdefghijklmnopqrstuvwxyz{|}~") 2)<|oN
theorem yO:z5 gG 7 vZ:=by
 rintro ds M R ⟨q,p,xs,rfl,F,N,H,x1,xl,x8,h⟩;have l:=F.lt;have I:(AA0 " !\"#$&'()*+,-./0123456789:;<=>?@ABCDEFGHIJKLMNOPQRSTUVWXYZ[\\]^_`abcdefghijklmnopqrstuvwxyz{|}~").cps.toList.length=94:=by decide +kernel
 have J:(AA0 " !\"#$&'()*+,-./0123456789:;<=>?@ABCDEFGHIJKLMNOPQRSTUVWXYZ[\\]^_`abcdefghijklmnopqrstuvwxyz{|}~").length=94:=by decide +kernel
 simp only[vZ,oN,oM];generalize AA0 " !\"#$&'()*+,-./0123456789:;<=>?@ABCDEFGHIJKLMNOPQRSTUVWXYZ[\\]^_`abcdefghijklmnopqrstuvwxyz{|}~" = sg at I J;walk_at"dl";refine⟨q,3,rfl,F,by decide,by decide,λi n _ _=>?_⟩;have r:=F.start.set (n:=n) l;generalize M.set q (.lst [.int n])=B at r;refine⟨⟨rfl,rfl⟩,?_⟩;generalize t8 B t9 (.int i) (.int 0)=b;have o1:∀c:Nat,(⟨#[c]⟩:c6).length=1:=λ_=>rfl;cases b with
 |true=>refine bA ⟨q,60,rfl,r.hd l,by decide,by decide,λi n X Y=>?_⟩;have g1:=r.set (n:=n) l;generalize B.set q (.lst [.int n])=Q at g1;walk_at"dl";refine⟨⟨by lia,by lia⟩,?_⟩;refine aY (λj S f=>Hl M f q/\∃(z:c6) (a:Option D),z.length=j/\S=[a7<|.ref q,a7<|.ref p,a7<|.str sg,a7<|.str z,a,a8,a8]) ?_ ?_ ⟨g1,AA0 "",_,by decide +kernel,rfl⟩;rintro S f ⟨g,z,a,o,rfl⟩;refine⟨trivial,?_⟩;simp only[oK];walk_at"dl";exact g.fin (.str _) λn=>h z n (by rw[fg]at o;lia);rintro j y S f O ⟨g,z,a,o,rfl⟩ G C;have W:=(fh.mp O).1;refine⟨trivial,?_⟩;walk_at"dl";refine⟨q,94,rfl,g.hd l,by decide,by decide,λk n v x=>?_⟩;have m:=g.set (n:=n) l;generalize f.set q (.lst [.int n])=A at m;obtain⟨K,d,u,_⟩:=iw (xs:=sg.cps.toList) v (by rw[I];exact x);refine⟨by rw[J];exact am (by lia),?_⟩;rw[u];refine⟨by rw[o1];exact am (by lia),z6.now<|C _ _ ⟨m,_,_,?_,rfl⟩⟩;rw[cD,o1,o]
 |false =>
  refine bq ?_;simp only[oJ];walk_at"dl";refine⟨q,4,rfl,r.hd l,by decide,by decide,λi n X Y=>?_⟩;have g1:=r.set (n:=n) l;generalize B.set q (.lst [.int n])=Q at g1;walk_at"dl";refine⟨⟨by lia,by lia⟩,?_⟩;refine aY (λj S f=>Hl M f q/\∃(z:c6) (a b c:Option D),z.length<=20*j/\S=[a7<|.ref q,a7<|.ref p,a7<|.str sg,a7<|.str z,a,b,c]) ?_ ?_ ⟨g1,AA0 "",_,_,_,by decide +kernel,rfl⟩;rintro S f ⟨g,z,a,b,c,o,rfl⟩;rw[fg]at o;refine⟨trivial,?_⟩;simp only[oF];walk_at"dl";exact⟨am (by lia),g.fin (.str _) λn=>h _ n (by have:=Txt.slice_le z a8<|a7 60;lia)⟩;rintro j y S f O ⟨g,z,a,b,c,o,rfl⟩ G C;have W:=(fh.mp O).1;have E:=g.oldL N H;refine⟨trivial,?_⟩;walk_at"dl";refine⟨_,E,q,_,rfl,g.hd l,by rw[u6];lia,by rw[u6];lia,λk n v x=>?_⟩;have m:=g.set (n:=n) l;have t:=m.oldL N H;generalize f.set q (.lst [.int n])=A at m t;obtain⟨K,d,u,_⟩:=iw (xs:=xs.map D.str) v x;rw[N6]at u;have w8:=x8 _ (L5<|by rw[u6]at d;exact d);refine⟨_,t,?_⟩;rw[u];generalize xs[K]'(by rw[u6]at d;exact d)=w at w8;have e:(AA0 "@").length=1:=by decide +kernel
  have T:(AA0 " ").length=1:=by decide +kernel
  have P:(AA0 "x").length=1:=by decide +kernel
  have Z:(AA0 "hi ").length=3:=by decide +kernel
  simp only[oH];walk_at"dl";refine⟨by rw[e];exact am (by lia),by rw[e];exact am (by lia),by rw[cD,e,T];exact am (by lia),by rw[e];exact am (by lia),by rw[cD,e,P];exact am (by lia),by rw[e];exact am (by lia),am (by lia),?_⟩;simp only[oG];walk_at"dl";refine⟨q,7,rfl,(m.more).hd l,by decide,by decide,λk n v x=>?_⟩;have g3:=(m.more (L:=[.lst [.str<|AA0 "@" ++ w,.str<|AA0 "@" ++ w++AA0 " ",.str<|AA0 "@" ++ w++AA0 "x",.str w,.str<|AA0 "hi ",.str<|AA0 "@",.str<|AA0 "@" ++ w]])).set (n:=n) l;have V:((A++[MO.lst [.str<|AA0 "@" ++ w,.str<|AA0 "@" ++ w++AA0 " ",.str<|AA0 "@" ++ w++AA0 "x",.str w,.str<|AA0 "hi ",.str<|AA0 "@",.str<|AA0 "@" ++ w]]).set q<|.lst [.int n])[A.length]?=a7 (.lst [.str<|AA0 "@" ++ w,.str<|AA0 "@" ++ w++AA0 " ",.str<|AA0 "@" ++ w++AA0 "x",.str w,.str<|AA0 "hi ",.str<|AA0 "@",.str<|AA0 "@" ++ w]):=ap (by have:=m.len;lia) ae;have U:∃s:c6,atI [D.str<|AA0 "@" ++ w,.str<|AA0 "@" ++ w++AA0 " ",.str<|AA0 "@" ++ w++AA0 "x",.str w,.str<|AA0 "hi ",.str<|AA0 "@",.str<|AA0 "@" ++ w] k=a7 (.str s)/\s.length<=20:=by
   have:k=0\/k=1\/k=2\/k=3\/k=4\/k=5\/k=6:=by lia
   rcases this with rfl|rfl|rfl|rfl|rfl|rfl|rfl;exact⟨_,aF (j:=0) rfl,by rw[cD,e];lia⟩;exact⟨_,aF (j:=1) rfl,by rw[cD,cD,e,T];lia⟩;exact⟨_,aF (j:=2) rfl,by rw[cD,cD,e,P];lia⟩;exact⟨_,aF (j:=3) rfl,by lia⟩;exact⟨_,aF (j:=4) rfl,by rw[Z];lia⟩;exact⟨_,aF (j:=5) rfl,by rw[e];lia⟩;exact⟨_,aF (j:=6) rfl,by rw[cD,e];lia⟩
  obtain⟨s,es,sl⟩:=U;refine⟨_,.inl V,?_⟩;rw[es];refine⟨am (by lia),z6.now<|C _ _ ⟨g3,_,_,_,_,?_,rfl⟩⟩;rw[cD];lia
theorem Aj(T:Tops P w K mg base):u9 P w K mg base 2 "_law_saying" pZ gG:=u9.byD (N:=["_law_held","_law_names_here","_law_signs","_law_saying_here","_law_k","_law_name_here","_law_pieces"]) T.b T.f_saying (by walk_at"sc") yg (by have:=fv T;walk_at"dv") yO
def dD:w6:=λds M R=>∃(q p s:Nat) (hs a:List D),ds=[.ref q,.ref p,.ref s]/\LQ M q/\p≠q/\s≠q/\ar M p hs/\(∀x∈hs,Hd x)/\1<=hs.length/\hs.length<=12/\ar M s a/\(∀x∈a,St x)/\a.length<=1000/\∀(d:D) (n:Int),St d->R d (M.set q<|.lst [.int n])
theorem Dl:cI dD Ad:=by rintro ds M R ⟨q,p,s,hs,a,rfl,_⟩;rfl
theorem St.bel(h:St d):B7 k d:=cx 2 d h.pl
def wk:s9:=bp<|r9 u7 (ab 2)<|t6 az<|aa (ab 0)<|aa (t6 lJ<|aa (ab 2) af) af
def wm:s9:=ax (A0 (aq<|r9 A2 (ab 3)<|dC<|.int 1) (bp<|eG<|aa (r9 bn (dC<|.int 1)<|t6 az<|aa (ab 0)<|aa (r9 FM (dC<|.int 10)<|dC<|.int 9) af)<|aa (r9 u7 (ab 1)<|t6 az<|aa (ab 0)<|aa (t6 lJ<|aa (ab 1) af) af) af) aX)<|wk
def wo:s9:=ax (A0 (Mh (aq<|r9 A2 (ab 3)<|dC<|.int 0)<|aq<|r9 A2 (ab 2)<|ko af) (bp<|eG<|aa (r9 bn (dC<|.int 1)<|t6 az<|aa (ab 0)<|aa (dC<|.int 70) af)<|aa (r9 u7 (ab 1)<|t6 az<|aa (ab 0)<|aa (t6 lJ<|aa (ab 1) af) af) af) aX)<|wm
def EK:s9:=ax (bb (t6 az<|aa (ab 0)<|aa (dC<|.int 8) af) 3)<|wo
theorem pW(l:q<M.length)(N:p≠q)(b:ar M p hs)(o:∀x∈hs,Hd x)(h1:1<=hs.length)(f:hs.length<=12)(h:∀(d:D) (n:Int),St d->R d (M.set q<|.lst [.int n]))(g:Hl M B q)(t:∀S B Q,Q (.int m) B->tm S B Q)(F:0<m)(V:m<100000000000):(bp<|eG<|aa (r9 bn (dC<|.int 1)<|t6 az<|aa (ab 0)<|aa tm af)<|aa (r9 u7 (ab 1)<|t6 az<|aa (ab 0)<|aa (t6 lJ<|aa (ab 1) af) af) af) (EE M R) [a7<|.ref q,a7<|.ref p,y2,y3] B:=by
 walk_at"dl";refine t _ _ _ ?_;refine⟨q,m,rfl,g.hd l,F,V,λi n s u=>?_⟩;have g1:=g.set (n:=n) l;generalize B.set q (.lst [.int n])=I at g1;refine⟨hs,g1.oldL N b,q,_,rfl,g1.hd l,by lia,by lia,λk n v r=>?_⟩;have a:=g1.set (n:=n) l;generalize I.set q (.lst [.int n])=w at a;obtain⟨j,L,e,_⟩:=iw (xs:=hs) v r;obtain⟨z,C,c⟩:=o _<|L5 L;refine⟨hs,a.oldL N b,?_⟩;rw[e];have:St (.tup [.int<|1+i,hs[j]]):=⟨1+i,z,C,by rw[c]⟩
 exact⟨am (by lia),a.fin this.bel λn=>h _ n this⟩
theorem Fv:z5 dD 4 EK:=by
 rintro ds M R ⟨q,p,s,hs,a,rfl,v,N,sq,r,e,h1,f,u,c,P,h⟩;have l:=v.lt;have o:∀{B:t7},∀x∈a,u8 B 29 x=a9:=λ{B} x b=>by obtain⟨t,z,k,rfl⟩:=c x b;rfl
 simp only[EK];walk_at"dl";refine⟨q,8,rfl,v,by decide,by decide,λi n _ _=>?_⟩;have g:=v.start.set (n:=n) l;generalize M.set q (.lst [.int n])=y at g;simp only[wo];walk_at"dl";refine⟨⟨rfl,rfl⟩,?_⟩;generalize t8 y t9 (.int i) (.int 0)=A;cases A with
 |true=>exact bA<|pW (m:=70) (tm:=dC<|.int 70) (y2:=a7<|.ref s) (y3:=a7<|.int i) l N r e h1 f h g (λ_ _ _ q=>q) (by decide)<|by decide
 |false =>
  refine bq ?_;obtain⟨w,D⟩:=lY (g.oldL sq u) o;refine⟨z8 _,w,?_⟩;rw[D];have g1:=g.more (L:=[.lst []]);generalize y++[MO.lst []]=I at g1;cases F:a.isEmpty with
  |true=>exact bA<|pW (m:=70) (tm:=dC<|.int 70) (y2:=a7<|.ref s) (y3:=a7<|.int i) l N r e h1 f h g1 (λ_ _ _ q=>q) (by decide)<|by decide
  |false =>
   refine bq ?_;simp only[wm];walk_at"dl";refine⟨⟨rfl,rfl⟩,?_⟩;generalize t8 I t9 (.int i) (.int 1)=C;cases C with
   |true=>exact bA<|pW (m:=10 ^ Int.toNat 9) (tm:=r9 FM (dC<|.int 10)<|dC<|.int 9) (y2:=a7<|.ref s) (y3:=a7<|.int i) l N r e h1 f h g1 (λ_ _ _ q=>⟨⟨by decide,by decide,by decide⟩,q⟩) (by decide)<|by decide
   |false =>
    refine bq ?_;simp only[wk];walk_at"dl";have O:1<=a.length:=by
     cases a with
     |nil=>cases F
     |cons x xs=>simp
    refine⟨a,g1.oldL sq u,q,_,rfl,g1.hd l,by lia,by lia,λk n H J=>?_⟩;have d:=g1.set (n:=n) l;generalize I.set q (.lst [.int n])=K at d;obtain⟨j,G,E,_⟩:=iw (xs:=a) H J;refine⟨a,d.oldL sq u,?_⟩;rw[E];have b:=c _<|L5 G;exact d.fin b.bel λn=>h _ n b
theorem Ak(T:Tops P w K mg base):u9 P w K mg base 2 "_law_pick" Ad dD:=u9.byD (N:=["_law_held","_law_hands_here","_law_says","_law_way"]) T.b T.f_pick (by walk_at"sc") Dl (by have:=fv T;walk_at"dv") Fv
def kg:w6:=λds M R=>∃(q p t:Nat) (hs:List D) (s:List (D×D)),ds=[.ref q,.ref p,.ref t]/\LQ M q/\p≠q/\t≠q/\ar M p hs/\(∀x∈hs,Hd x)/\hs.Nodup/\hs.length<=12/\M[t]?=a7 (.dkt s)/\(∀x∈s,∃v:Int,x.2=.int v/\0<=v/\v<=1000)/\∀(vs:List D) (n:Int),om 3 vs->VecK vs->R (.tup vs) (M.set q<|.lst [.int n])
theorem yf:cI kg pY:=by rintro ds M R ⟨q,p,t,hs,s,rfl,_⟩;rfl
theorem om.snoc(h:om n ds)(t:F5 n d):om n (ds++[d]):=by unfold om at h ⊢;rw[List.all_append,h];simpa [F5]using t
def oy:s9:=bp<|t6 jH<|aa (ab 3) af
def oz:s9:=A0 (aq<|r9 Na (ab 5)<|dC<|.int 0) (fI<|K2 bC (ab 3)<|aa (eG<|aa (ab 4)<|aa (ab 5) af) af) aX
def oA:s9:=ax (lC (bV<|ab 1) (ah 4)<|ax (bb (t6 az<|aa (ab 0)<|aa (r9 bn (Nb ij (ab 2)<|aa (ab 4)<|aa (dC<|.int 0) af)<|dC<|.int 3) af) 5)<|oz)<|oy
def vW:s9:=ax (bb (ko af) 3)<|oA
theorem yN:z5 kg 6 vW:=by
 rintro ds M R ⟨q,p,t,hs,m,rfl,C,N,U,j,L,x,J,P,Q,h⟩;have E:=C.lt;simp only[vW,oA];walk_at"dl";refine⟨z8 _,_,j.more _,λ_=>?_⟩;have I:Hl M (M++[MO.lst []]) q:=C.start.more;refine aY (λi S l=>∃(vs:List D) (a b:Option D),Hl M l q/\l[M.length]?=a7 (.lst vs)/\om 3 vs/\(∃s:List (D×Int),vs=kj s/\(∀p∈s,Hd p.1)/\s.length<=i/\(s.map (·.1)).Sublist (hs.take i))/\vs.length<=i/\S=[a7<|.ref q,a7<|.ref p,a7<|.ref t,a7<|.ref M.length,a,b]) ?_ ?_ ⟨[],_,_,I,ae,.nil,⟨[],rfl,(λ_ z=>nomatch z),u5 _,List.Sublist.refl _⟩,u5 _,rfl⟩;rintro S l ⟨vs,a,b,g,r,pv,⟨s,w,o,W,T⟩,V,rfl⟩;refine⟨g.oldL N j,?_⟩;simp only[oy];walk_at"dl";exact⟨_,.inl r,g.fin (cx 4 _<|.tup pv) λn=>h vs n pv ⟨s,w,o,by lia,by rw[L7]at T;exact T.nodup x⟩⟩;rintro i y S l O ⟨vs,a,b,g,r,pv,⟨s,w,o,W,T⟩,V,rfl⟩ G u;have hi:=(x5.mp O).1;have F:hs.take (i+1)=hs.take i++[y]:=by rw[Mo,O];rfl
 rw[F]at u;obtain⟨z,k,rfl⟩:=L y<|F0 O;refine⟨g.oldL N j,?_⟩;walk_at"dl";have B:=g.old U P;refine⟨⟨_,B⟩,_,B,rfl,?_⟩;have K:∃v:Int,(ba m<|.tup [.str z,.int k]).getD (.int 0)=.int v/\0<=v/\v<=1000:=by
  cases e:ba m (.tup [.str z,.int k]) with
  |none=>exact⟨0,rfl,by decide,by decide⟩
  |some d=>exact Q _<|bx e
 obtain⟨v,H,v0,v1⟩:=K;rw[H];refine⟨q,v+3,rfl,g.hd E,by lia,by lia,λc n Y Z=>?_⟩;have g1:=g.set (n:=n) E;have f:(l.set q<|.lst [.int n])[M.length]?=a7 (.lst vs):=ap (by lia) r;generalize l.set q (.lst [.int n])=X at g1 f;simp only[oz];walk_at"dl";by_cases A:c > 0;rw[dT_ A];refine bA ⟨⟨_,.inl f⟩,am (by lia),_,f,aA (by lia),?_⟩;exact z6.now<|u _ _ ⟨_,_,_,g1.setO<|u5 _,bI f,pv.snoc<|.tup<|.cons (DM ⟨_,_,rfl⟩)<|.cons (.int _) .nil,⟨s++[(.tup [.str z,.int k],c)],by rw[w];unfold kj;rw[G5];rfl,λp j=>by rcases D7.mp j with j|j;exact o p j;rw[LJ.mp j];exact⟨_,_,rfl⟩,by rw[A1,K0];lia,by rw[G5];exact T.append<|List.Sublist.refl _⟩,by rw[A1,K0];lia,rfl⟩;rw[dF_ A];exact bq<|z6.now<|u _ _ ⟨vs,_,_,g1,f,pv,⟨s,w,o,by lia,T.trans<|List.sublist_append_left _ _⟩,by lia,rfl⟩
theorem Ai(T:Tops P w K mg base):u9 P w K mg base 2 "_law_vector" pY kg:=u9.byD (N:=["_law_held","_law_hands_here","_law_done","_law_found","_law_hand","_law_count"]) T.b T.f_vector (by walk_at"sc") yf (by have:=fv T;walk_at"dv") yN
def qE:w6:=λds M R=>∃(q p s:Nat) (ps:List (c6×Int)) (r:List (c6×List c6)) (hs a:List D),ds=[.ref q,aI ps r,.ref p,.ref s]/\LQ M q/\HouseF ps r/\p≠q/\s≠q/\ar M p hs/\(∀x∈hs,Hd x)/\1<=hs.length/\hs.length<=12/\ar M s a/\(∀x∈a,St x)/\a.length<=1000/\∀(d:D) (n:Int),eA d->R d (M.set q<|.lst [.int n])
theorem Dg:cI qE zY:=by rintro ds M R ⟨q,p,s,ps,r,hs,a,rfl,_⟩;rfl
def vT:s9:=bp<|eG<|aa (dC<|.str "under")<|aa (t6 dD<|aa (ab 0)<|aa (ab 2)<|aa (ab 3) af) af
def vU:s9:=ax (A0 (aq<|r9 A2 (ab 4)<|dC<|.int 1) (bp<|eG<|aa (dC<|.str "person")<|aa (r9 u7 (r9 u7 (r9 u7 (ab 1)<|dC<|.int 0)<|t6 az<|aa (ab 0)<|aa (t6 lJ<|aa (r9 u7 (ab 1)<|dC<|.int 0) af) af)<|dC<|.int 0) af) aX)<|vT
def vV:s9:=ax (A0 (aq<|r9 A2 (ab 4)<|dC<|.int 0) (bp<|eG<|aa (dC<|.str "room")<|aa (r9 u7 (r9 u7 (r9 u7 (ab 1)<|dC<|.int 1)<|t6 az<|aa (ab 0)<|aa (t6 lJ<|aa (r9 u7 (ab 1)<|dC<|.int 1) af) af)<|dC<|.int 0) af) aX)<|vU
def EF:s9:=ax (bb (t6 az<|aa (ab 0)<|aa (dC<|.int 3) af) 4)<|vV
theorem Fp:z5 qE 5 EF:=by
 rintro ds M R ⟨q,p,s,ps,y,hs,g,rfl,b,o,N,sq,x,w,h1,f,u,c,C,h⟩;have l:=b.lt;have E:=o.len;have F:=o.rl;simp only[EF,aI];walk_at"dl";refine⟨q,3,rfl,b,by decide,by decide,λi n _ _=>?_⟩;have a:=b.start.set (n:=n) l;generalize M.set q (.lst [.int n])=B at a;simp only[vV];walk_at"dl";refine⟨⟨rfl,rfl⟩,?_⟩;generalize t8 B t9 (.int i) (.int 0)=A;cases A with
 |true=>refine bA ⟨q,_,rfl,a.hd l,by rw[u6];lia,by rw[u6];lia,λk n v D=>?_⟩;have g1:=a.set (n:=n) l;generalize B.set q (.lst [.int n])=I at g1;obtain⟨j,L,e,_⟩:=iw (xs:=y.map fZ) v D;rw[N6]at e;walk_at"dl";rw[e];unfold fZ;walk_at"dl";refine⟨am (by lia),g1.fin (.tup<|.cons (.str _)<|.cons (.str _) .nil) λn=>h _ n<|.inl ⟨_,rfl⟩⟩
 |false =>
  refine bq ?_;simp only[vU];walk_at"dl";refine⟨⟨rfl,rfl⟩,?_⟩;generalize t8 B t9 (.int i) (.int 1)=r;cases r with
  |true=>refine bA ⟨q,_,rfl,a.hd l,by rw[u6];lia,by rw[u6];lia,λk n v D=>?_⟩;have g1:=a.set (n:=n) l;generalize B.set q (.lst [.int n])=I at g1;obtain⟨j,L,e,_⟩:=iw (xs:=ps.map iE) v D;rw[N6]at e;walk_at"dl";rw[e];unfold iE;walk_at"dl";refine⟨am (by lia),g1.fin (.tup<|.cons (.str _)<|.cons (.str _) .nil) λn=>h _ n<|.inr<|.inl ⟨_,rfl⟩⟩
  |false=>refine bq ?_;simp only[vT];walk_at"dl";refine⟨q,p,s,hs,g,rfl,a.hd l,N,sq,a.oldL N x,w,h1,f,a.oldL sq u,c,C,λd n m=>?_⟩;have g1:=a.set (n:=n) l;generalize B.set q (.lst [.int n])=I at g1;exact⟨am (by lia),g1.fin (.tup<|.cons (.str _)<|.cons m.bel .nil) λn=>h _ n<|.inr<|.inr (by obtain⟨t,z,k,rfl⟩:=m;exact⟨t,z,k,rfl⟩)⟩
theorem Gk(T:Tops P w K mg base):u9 P w K mg base 3 "_law_what" zY qE:=u9.byD (N:=["_law_held","_law_house_here","_law_hands_here","_law_says","_law_way"]) T.b T.f_what (by walk_at"sc") Dg (by have:=fv T;have:=Ak T;walk_at"dv") Fp
def xy:w6:=λds M R=>∃(q p s t:Nat) (ps:List (c6×Int)) (r:List (c6×List c6)) (hs a:List D) (k:List (D×D)),ds=[.ref q,aI ps r,.ref p,.ref s,.ref t]/\LQ M q/\HouseF ps r/\(p≠q/\s≠q/\t≠q)/\ar M p hs/\(∀x∈hs,Hd x)/\hs.Nodup/\1<=hs.length/\hs.length<=12/\ar M s a/\(∀x∈a,St x)/\a.length<=1000/\M[t]?=a7 (.dkt k)/\(∀x∈k,∃v:Int,x.2=.int v/\0<=v/\v<=1000)/\∀(x:c6) (W:List D) (n:Int),om 4 W->ActK r x W->R (.tup<|.str x::W) (M.set q<|.lst [.int n])
theorem GA:cI xy Gh:=by rintro ds M R ⟨q,p,s,t,ps,r,hs,a,k,rfl,_⟩;rfl
theorem gD(g:Hl M B q)(h:∀(x:c6) (dl:List D) (n:Int),om 4 dl->ActK rs x dl->R (.tup<|.str x::dl) (M.set q<|.lst [.int n]))(p:om 4 dl)(f:ActK rs x dl):bc M R (.tup<|.str x::dl) B:=g.fin (cx 5 _<|.tup<|.cons (.str _) p) λn=>h x dl n p f
def wC:s9:=bp<|eG<|aa (dC<|.str "rung")<|aa (t6 dD<|aa (ab 0)<|aa (ab 2)<|aa (ab 3) af) af
def wD:s9:=ax (A0 (aq<|r9 A2 (ab 5)<|dC<|.int 9) (bp<|eG<|aa (dC<|.str "hush")<|aa (t6 qE<|aa (ab 0)<|aa (ab 1)<|aa (ab 2)<|aa (ab 3) af)<|aa (r9 Na (t6 az<|aa (ab 0)<|aa (dC<|.int 3) af)<|dC<|.int 0) af) aX)<|wC
def wE:s9:=ax (A0 (aq<|r9 A2 (ab 5)<|dC<|.int 8) (bp<|eG<|aa (dC<|.str "seen")<|aa (t6 dD<|aa (ab 0)<|aa (ab 2)<|aa (ab 3) af) af) aX)<|wD
def wF:s9:=ax (A0 (aq<|r9 A2 (ab 5)<|dC<|.int 7) (bp<|eG<|aa (dC<|.str "read")<|aa (ab 7)<|aa (t6 kg<|aa (ab 0)<|aa (ab 2)<|aa (ab 4) af) af) aX)<|wE
def zv:s9:=bp<|eG<|aa (dC<|.str "like")<|aa (t6 dD<|aa (ab 0)<|aa (ab 2)<|aa (ab 3) af)<|aa (ab 9)<|aa (r9 Na (t6 az<|aa (ab 0)<|aa (dC<|.int 3) af)<|dC<|.int 0) af
def zw:s9:=ax (A0 (aq<|r9 A2 (ab 5)<|dC<|.int 6) (ax (bb (r9 u7 (ko<|aa (dC<|.str "good")<|aa (dC<|.str "no")<|aa (t6 kP<|aa (ab 0) af) af)<|t6 az<|aa (ab 0)<|aa (dC<|.int 3) af) 9)<|zv) aX)<|wF
def zx:s9:=ax (A0 (aq<|r9 A2 (ab 5)<|dC<|.int 5) (bp<|eG<|aa (dC<|.str "back")<|aa (t6 dD<|aa (ab 0)<|aa (ab 2)<|aa (ab 3) af) af) aX)<|zw
def pP:s9:=ax (A0 (aq<|r9 A2 (ab 5)<|dC<|.int 4) (bp<|eG<|aa (dC<|.str "change")<|aa (t6 dD<|aa (ab 0)<|aa (ab 2)<|aa (ab 3) af)<|aa (t6 gG<|aa (ab 0)<|aa (ab 6) af) af) aX)<|zx
def uv:s9:=bp<|eG<|aa (dC<|.str "say")<|aa (ab 7)<|aa (ab 8)<|aa (t6 gG<|aa (ab 0)<|aa (ab 6) af) af
def uw:s9:=ax (A0 (vE (aq<|r9 Na (t6 az<|aa (ab 0)<|aa (dC<|.int 3) af)<|dC<|.int 0)<|aq<|r9 NJ (ab 3)<|ko af) (bb (t6 dD<|aa (ab 0)<|aa (ab 2)<|aa (ab 3) af) 8) aX)<|uv
def zy:s9:=ax (A0 (Mh (aq<|r9 Nm (ab 5)<|dC<|.int 4)<|vE (aq<|r9 A2 (ab 3)<|ko af)<|aq<|r9 Nm (ab 5)<|dC<|.int 7) (ax (bb (dC .non) 8)<|uw) aX)<|pP
def zA:s9:=ax (bb (r9 u7 (r9 u7 (r9 u7 (ab 1)<|dC<|.int 1)<|t6 az<|aa (ab 0)<|aa (t6 lJ<|aa (r9 u7 (ab 1)<|dC<|.int 1) af) af)<|dC<|.int 0) 7)<|zy
def zB:s9:=ax (pF 2 [] (bV<|r9 u7 (ab 1)<|dC<|.int 0) (jV 2<|aT (ah 0)<|aT (ah 1) jW) vD (ab 0) 6)<|zA
def IL:s9:=ax (bb (t6 az<|aa (ab 0)<|aa (dC<|.int 11) af) 5)<|zB
section
variable{M B:t7}{R:DK}{q p s t w:Nat}{ps:List (c6×Int)}{rs:List (c6×List c6)}{hs sts:List D}{kvs:List (D×D)}{kind:Int}{xs:List c6}{room:c6}{y8 y9:Option D}
theorem act_6(l:q<M.length)(X:HouseF ps rs)(F:p≠q/\s≠q/\t≠q)(r:ar M p hs)(m:∀x∈hs,Hd x)(o:hs.Nodup)(h1:1<=hs.length)(f:hs.length<=12)(u:ar M s sts)(c:∀x∈sts,St x)(H:sts.length<=1000)(Y:M[t]?=a7 (.dkt kvs))(Z:∀x∈kvs,∃v:Int,x.2=.int v/\0<=v/\v<=1000)(g:Hl M B q) (wM:M.length<=w) (W:B[w]?=a7 (.lst<|xs.map .str)) (x1:1<=xs.length) (x4:xs.length<=4) (x8:∀x∈xs,x.length<=8)(h:∀(x:c6) (dl:List D) (n:Int),om 4 dl->ActK rs x dl->R (.tup<|.str x::dl) (M.set q<|.lst [.int n])):pP (EE M R) [a7<|.ref q,a7<|aI ps rs,a7<|.ref p,a7<|.ref s,a7<|.ref t,a7<|.int kind,a7<|.ref w,a7<|.str room,y8,y9] B:=by
 have i:∀{B:t7}{Q:DK},Hl M B q->(∀(d:D) (B':t7),St d->Hl M B' q->(∀j x,M.length<=j->B[j]?=a7 x->B'[j]?=a7 x)->Q d B')->dD [.ref q,.ref p,.ref s] B Q:=λ{B Q} g k =>
  ⟨q,p,s,hs,sts,rfl,g.hd l,F.1,F.2.1,g.oldL F.1 r,m,h1,f,g.oldL F.2.1 u,c,H,λd n a=>k d _ a (g.set l) λj x hj e=>ap (by lia) e⟩
 simp only[pP];walk_at"dl";refine⟨⟨rfl,rfl⟩,?_⟩;generalize t8 B t9 (.int kind) (.int 4)=K;cases K with
 |true=>refine bA<|i g λd I a g1 b=>?_;refine⟨q,w,xs,rfl,g1.hd l,by lia,.inl<|b _ _ wM W,x1,by lia,x8,λz n J=>?_⟩;exact⟨am (by lia),gD (g1.set l) h (.cons a.pl<|.cons (.str _) .nil)<|.mkChange a J⟩
 |false =>
 refine bq ?_;simp only[zx];walk_at"dl";refine⟨⟨rfl,rfl⟩,?_⟩;generalize t8 B t9 (.int kind) (.int 5)=N;cases N with
 |true=>exact bA<|i g λd I a g1 b=>⟨am (by lia),gD g1 h (.cons a.pl .nil)<|.mkBack a⟩
 |false =>
 refine bq ?_;simp only[zw];walk_at"dl";refine⟨⟨rfl,rfl⟩,?_⟩;generalize t8 B t9 (.int kind) (.int 6)=O;cases O with
 |true =>
  refine bA ⟨q,rfl,g.hd l,λz n J _=>?_⟩;have g1:=g.set (n:=n) l;generalize B.set q (.lst [.int n])=I at g1;refine⟨am (by lia),q,3,rfl,(g1.more).hd l,by decide,by decide,λk n E G=>?_⟩;have C:=(g1.more (L:=[.lst [.str<|AA0 "good",.str<|AA0 "no",.str z]])).set (n:=n) l;have V:((I++[MO.lst [.str<|AA0 "good",.str<|AA0 "no",.str z]]).set q<|.lst [.int n])[I.length]?=a7 (.lst [.str<|AA0 "good",.str<|AA0 "no",.str z]):=ap (by have:=g1.len;lia) ae;generalize (I++[MO.lst [.str<|AA0 "good",.str<|AA0 "no",.str z]]).set q (.lst [.int n])=B2 at C V;have U:∃s:c6,atI [D.str<|AA0 "good",.str<|AA0 "no",.str z] k=a7 (.str s):=by
   have:k=0\/k=1\/k=2:=by lia
   rcases this with rfl|rfl|rfl;exact⟨_,aF (j:=0) rfl⟩;exact⟨_,aF (j:=1) rfl⟩;exact⟨_,aF (j:=2) rfl⟩
  obtain⟨so,es⟩:=U;refine⟨_,.inl V,?_⟩;rw[es];simp only[zv];walk_at"dl";refine i C λd B3 a g3 b=>?_;refine⟨q,3,rfl,g3.hd l,by decide,by decide,λk n E G=>?_⟩;exact⟨am (by lia),gD (g3.set l) h (.cons a.pl<|.cons (.str _)<|.cons (.bl _) .nil)<|.mkLike a⟩
 |false =>
 refine bq ?_;simp only[wF];walk_at"dl";refine⟨⟨rfl,rfl⟩,?_⟩;generalize t8 B t9 (.int kind) (.int 7)=P;cases P with
 |true=>refine bA ⟨q,p,t,hs,kvs,rfl,g.hd l,F.1,F.2.2,g.oldL F.1 r,m,o,f,g.old F.2.2 Y,Z,λvs n A y=>?_⟩;exact⟨am (by lia),gD (g.set l) h (.cons (.str _)<|.cons (.tup A) .nil)<|.mkRead y⟩
 |false =>
 refine bq ?_;simp only[wE];walk_at"dl";refine⟨⟨rfl,rfl⟩,?_⟩;generalize t8 B t9 (.int kind) (.int 8)=S;cases S with
 |true=>exact bA<|i g λd I a g1 b=>⟨am (by lia),gD g1 h (.cons a.pl .nil)<|.mkSeen a⟩
 |false =>
 refine bq ?_;simp only[wD];walk_at"dl";refine⟨⟨rfl,rfl⟩,?_⟩;generalize t8 B t9 (.int kind) (.int 9)=T;cases T with
 |true=>refine bA ⟨q,p,s,ps,rs,hs,sts,rfl,g.hd l,X,F.1,F.2.1,g.oldL F.1 r,m,h1,f,g.oldL F.2.1 u,c,H,λd n a=>?_⟩;have g1:=g.set (n:=n) l;generalize B.set q (.lst [.int n])=I at g1;refine⟨q,3,rfl,g1.hd l,by decide,by decide,λk n E G=>?_⟩;exact⟨am (by lia),gD (g1.set l) h (.cons a.pl4<|.cons (.bl _) .nil)<|.mkHush a⟩
 |false =>
 refine bq ?_;simp only[wC];walk_at"dl";exact i g λd I a g1 b=>⟨am (by lia),gD g1 h (.cons a.pl .nil)<|.mkRung a⟩
end
theorem IC:z5 xy 10 IL:=by
 rintro ds M R ⟨q,p,s,t,ps,C,hs,r,aj,rfl,hq,V,J,hp,hh,ai,h1,N,o,I,sl,ht,hv,h⟩;have l:=hq.lt;have l1:=V.len;have l2:=V.rl;simp only[IL];walk_at"dl";refine⟨q,11,rfl,hq,by decide,by decide,λc n _ _=>?_⟩;have Z:=hq.start.set (n:=n) l;generalize M.set q (.lst [.int n])=Q at Z;simp only[zB,aI];walk_at"dl";intro _;refine cj (λd=>(match d with|.tup (x::_)=>x|_=>.non)) (λS=>∃a b,S=[a,b]) trivial _ _ _ (λx O S hS=>?_) ⟨_,_,rfl⟩ (by rw[C8,u6];exact am<|by lia) ?_;obtain⟨a,b,rfl⟩:=hS;obtain⟨y,_,rfl⟩:=v8.mp O;refine⟨[a7<|.str y.1,a7<|.int y.2],⟨_,_,rfl⟩,λY hY=>?_⟩;unfold iE;walk_at"dl";exact⟨trivial,hY⟩;rw[G6];have en:(ps.map iE).map (λd=>(match d with|.tup (x::_)=>x|_=>.non))=(ps.map (·.1)).map D.str:=by rw[E8,E8];rfl
 rw[en];have g1:=Z.more (L:=[.lst ((ps.map (·.1)).map D.str)]);have i:(Q++[MO.lst ((ps.map (·.1)).map D.str)])[Q.length]?=a7 (.lst ((ps.map (·.1)).map D.str)):=ae;have wM:=Z.len;have x8:∀x∈ps.map (·.1),x.length<=8:=λx O=>by obtain⟨y,hy,rfl⟩:=v8.mp O;exact V.nm y hy
 have xl:(ps.map (·.1)).length=ps.length:=u6 _;generalize Q++[MO.lst ((ps.map (·.1)).map D.str)]=B1 at g1 i;generalize Q.length=w at i wM;generalize ps.map (·.1)=xs at i x8 xl;simp only[zA];walk_at"dl";refine⟨q,_,rfl,g1.hd l,by rw[u6];lia,by rw[u6];lia,λk n k0 k1=>?_⟩;have T:=g1.set (n:=n) l;have F:(B1.set q<|.lst [.int n])[w]?=a7 (.lst<|xs.map .str):=ap (by lia) i;generalize B1.set q (.lst [.int n])=B2 at T F;obtain⟨j,hj,ej,_⟩:=iw (xs:=C.map fZ) k0 k1;rw[N6]at ej;have G:j<C.length:=by rw[u6]at hj;exact hj
 have hr:(C[j]'G).1∈C.map (·.1):=LK<|L5 G;walk_at"dl";rw[ej];unfold fZ;walk_at"dl";generalize (C[j]'G).1=m at hr;have A:∀{B:t7},∀x∈r,u8 B 29 x=a9:=λ{B} x O=>by obtain⟨t,z,k,rfl⟩:=I x O;rfl
 have P:∀{B:t7}{y8 y9:Option D},Hl M B q->B[w]?=a7 (.lst<|xs.map .str)->pP (EE M R) [a7<|.ref q,a7<|aI ps C,a7<|.ref p,a7<|.ref s,a7<|.ref t,a7<|.int c,a7<|.ref w,a7<|.str m,y8,y9] B:=λg i=>act_6 l V J hp hh ai h1 N o I sl ht hv g wM i (by lia) (by lia) x8 h;have v:∀{E:DEnds}{B:t7}{y9:Option D},E.rt=bc M R->Hl M B q->B[w]?=a7 (.lst<|xs.map .str)->uw E [a7<|.ref q,a7<|aI ps C,a7<|.ref p,a7<|.ref s,a7<|.ref t,a7<|.int c,a7<|.ref w,a7<|.str m,a7 .non,y9] B:=λ{E B y9} eR g i=>by
  have e:∀{B:t7}{u:D},Hl M B q->B[w]?=a7 (.lst<|xs.map .str)->(u=.non\/St u)->uv E [a7<|.ref q,a7<|aI ps C,a7<|.ref p,a7<|.ref s,a7<|.ref t,a7<|.int c,a7<|.ref w,a7<|.str m,a7 u,y9] B:=λ{B u} g i W=>by
   simp only[uv];walk_at"dl";refine⟨q,w,xs,rfl,g.hd l,by lia,.inl i,by lia,by lia,x8,λz n zl=>?_⟩;have up:F5 4 u:=by rcases W with rfl|W;exact .non;exact W.pl
   refine⟨am (by lia),?_⟩;rw[eR];exact gD (g.set l) h (.cons (.str _)<|.cons up<|.cons (.str _) .nil)<|.mkSay hr W zl
  simp only[uw];walk_at"dl";refine⟨q,3,rfl,g.hd l,by decide,by decide,λk n k0 k1=>?_⟩;have g3:=g.set (n:=n) l;have H:(B.set q<|.lst [.int n])[w]?=a7 (.lst<|xs.map .str):=ap (by lia) i;generalize B.set q (.lst [.int n])=B3 at g3 H;walk_at"dl";by_cases hk:k > 0;rw[dT_ hk];obtain⟨K,X⟩:=lY (g3.oldL J.2.1 o) A;refine bA ⟨z8 _,K,?_⟩;rw[X];have f:=g3.more (L:=[.lst []]);have U:=ac (a:=.lst []) H;generalize B3++[MO.lst []]=B4 at f U;cases he:r.isEmpty with
  |true=>exact bq<|e f U<|.inl rfl
  |false=>refine bA ⟨q,p,s,hs,r,rfl,f.hd l,J.1,J.2.1,f.oldL J.1 hp,hh,h1,N,f.oldL J.2.1 o,I,sl,λd n hd=>?_⟩;exact e (f.set l) (ap (by lia) U)<|.inr hd
  rw[dF_ hk];exact bq<|e g3 H<|.inl rfl
 simp only[zy];walk_at"dl";by_cases h4:c<4;rw[dT_ h4];exact bA<|v rfl T F;rw[dF_ h4];obtain⟨K,X⟩:=lY (T.oldL J.2.1 o) A;refine bq ⟨z8 _,K,?_⟩;rw[X];have f:=T.more (L:=[.lst []]);have U:=ac (a:=.lst []) F;generalize B2++[MO.lst []]=B4 at f U;cases he:r.isEmpty with
 |true=>refine bA ?_;by_cases h7:c<7;rw[dT_ h7];exact bA<|v rfl f U;rw[dF_ h7];exact bq<|P f U
 |false=>exact bq<|P f U
theorem JI(T:Tops P w K mg base):u9 P w K mg base 4 "_law_act" Gh xy:=u9.byD (N:=["_law_held","_law_house_here","_law_hands_here","_law_says","_law_done","_law_kind","_law_names_here","_law_room","_law_under","_law_sort"]) T.b T.f_act (by walk_at"sc") GA (by have:=fv T;have:=Al T;have:=Aj T;have:=Ak T;have:=Ai T;have:=Gk T;walk_at"dv") IC
def mf:w6:=λds M R=>∃(ps:List (c6×Int)) (r:List D),ds=[.tup<|.tup (ps.map iE)::r]/\QZ ps/\R (.ref M.length) (M++[.lst<|aQ ps])
theorem AD:cI mf uH:=by rintro ds M R ⟨ps,r,rfl,_⟩;rfl
def rO:s9:=bp<|ab 1
def rP:s9:=ax (lC (bV<|r9 u7 (ab 0)<|dC<|.int 0) (jV 2<|aT (ah 2)<|aT (ah 3) jW)<|fI<|K2 mT (ab 1)<|aa (E5 1 [2] (dZ<|aa (ab 3) af) (ah 0) vD<|eG<|aa (ab 1)<|aa (ab 0) af) af)<|rO
def zu:s9:=ax (bb (ko af) 1)<|rP
theorem BZ:z5 mf 4 zu:=by
 rintro ds M R ⟨ps,r,rfl,⟨n,d⟩,h⟩;simp only[zu,rP];walk_at"dl";refine⟨z8 _,λ_=>?_⟩;have j:∀qs:List (c6×Int),(∀p∈qs,p∈ps)->qs.length<=4->(aQ qs).length<=12:=λqs h1 h2=>by have:=pA (ps:=qs) λp f=>d p<|h1 p f;lia
 refine jY (λys S c=>∃qs s a b L,ps=qs++s/\ys=s.map iE/\c=M++.lst (aQ qs)::L/\S=[a7<|.tup<|.tup (ps.map iE)::r,a7<|.ref M.length,a,b]) ?_ ?_ _ _ _ ⟨[],ps,_,_,[],rfl,rfl,rfl,rfl⟩;rintro S c ⟨qs,s,a,b,L,e,q,rfl,rfl⟩;have:s=[]:=by cases s<;>simp_all
 subst this;rw[G7]at e;subst e;refine⟨trivial,?_⟩;simp only[rO];walk_at"dl";exact bc.lst h (u5 _) kL yt;rintro x xs S c ⟨qs,s,a,b,L,e,q,rfl,rfl⟩ G l;cases s with
 |nil=>cases q
 |cons p s =>
  rw[C0]at q;injection q with e1 e2;subst e1;have f:=d p (by rw[e];simp);refine⟨trivial,?_⟩;unfold iE;walk_at"dl";refine⟨trivial,⟨_,.inl kL⟩,⟨by lia,by lia⟩,?_⟩;refine cj (λk=>.tup [.str p.1,k]) (λS=>∃a,S=[a,a7<|.str p.1]) trivial _ _ _ (λk o S g=>?_) ⟨_,rfl⟩ ?_ ?_;obtain⟨a,rfl⟩:=g;refine⟨[a7 k,a7<|.str p.1],⟨_,rfl⟩,λY i=>?_⟩;walk_at"dl";exact⟨am (by lia),i⟩;simp only[C8,fg];exact am (by lia);rw[G6];have V:(rZ 0 p.2.toNat).map (λk=>D.tup [.str p.1,k])=dA p:=rfl;rw[V];have t:=j qs (λz m=>by rw[e];exact LM _ m) (by have:=p7 K6 e;rw[A1]at this;lia);have u:(dA p).length<=3:=by rw[iV];lia
  rw[G9,Qa];refine⟨_,dA p,kL,?_,?_,am (by lia),?_⟩;rw[<-Qa,<-G9];exact ae;rw[A1,C4];lia;rw[iA];refine z6.now<|l _ _ ⟨qs++[p],s,_,_,L++[.lst<|dA p],by rw[G9];exact e,e2,?_,rfl⟩;rw[show aQ (qs++[p])=aQ qs++dA p by simp[aQ]]
theorem CS(T:Tops P w K mg base):u9 P w K mg base 1 "_law_hands" uH mf:=u9.byD (N:=["_law_house_here","_law_found","_law_name_here","_law_many"]) T.b T.f_hands (by walk_at"sc") AD (by walk_at"dv") BZ
structure LogS(ps:List (c6×Int))(rs:List (c6×List c6))(log:List D):Prop where
 dk:∀d∈log,aJ ps rs d
 up:log.Pairwise λa b=>A4 t9 (t5 a)<A4 t9 (t5 b)
 len:log.length<=60
 nn:∀d∈log,0<=EU d
def xx:w6:=λds M R=>∃(ps:List (c6×Int)) (a:List (c6×List c6)) (p U:Nat) (cs:List Int),ds=[.ref p,aI ps a]/\HouseF ps a/\ar M p (cs.map .int)/\p≠U/\cs.length<=60/\M[U]?=a7 (.tb (AA0 "_law_log") bt)/\∀log,LogS ps a log->log.length<=cs.length->R (.tup log) (M.set U<|.tb (AA0 "_law_log") a9)
theorem Gy:cI xx Gf:=by rintro ds M R ⟨ps,a,p,U,cs,rfl,_⟩;rfl
noncomputable def IH:D->Int
 |.tup (.int t::_)=>t
 |_=>0
noncomputable def RA:D->D
 |.tup (_::h::_)=>h
 |_=>.non
theorem tj(hf:HouseF ps rs):QZ ps/\1<=(aQ ps).length/\(aQ ps).length<=12:=by
 have f:QZ ps:=⟨hf.len.2,λq h=>⟨by have:=hf.many q h;lia,(hf.many q h).2⟩⟩
 have n:=pA f.2;refine⟨f,?_,by have:=f.1;lia⟩
 match ps,hf with
 | [],hf=>have:=hf.len.1;simp at this
 |p::ps,hf=>have:=(hf.many p<|by simp).1;rw[aQ,List.flatMap_cons,A1,iV];lia
theorem xg(h:(ps.map (·.1)).Nodup):(aQ ps).Nodup:=by unfold aQ;rw[Nl,List.pairwise_flatMap];refine⟨λp _=>?_,?_⟩;unfold dA rZ;rw[E8,N7];refine(Nl.mp P9).imp λ{a b} hne e=>hne ?_;have e:D.tup [.str p.1,.int<|0+(a:Int)]=.tup [.str p.1,.int<|0+(b:Int)]:=e;injection e with e;injection e with _ e;injection e with e;injection e with e;lia;refine(N7.mp<|Nl.mp h).imp λ{a b} hne x hx y hy e=>hne ?_;unfold dA at hx hy;obtain⟨i,_,rfl⟩:=v8.mp hx;obtain⟨j,_,c⟩:=v8.mp hy;rw[<-c]at e;injection e with e;injection e with e _;injection e with e
structure GenD(ps:List (c6×Int))(rs:List (c6×List c6))(deeds sts:List D)(las cnt:List (D×D))(n:Nat):Prop where
 dk:∀d∈deeds,aJ ps rs d
 nd:(deeds.map t5).Nodup
 nn:∀d∈deeds,0<=EU d
 la:∀d∈deeds,∃v:Int,ba las (RA d)=a7 (.int v)/\IH d<=v
 lv:∀x∈las,∃v:Int,x.2=.int v/\0<=v
 cv:∀x∈cnt,∃v:Int,x.2=.int v/\0<=v/\v<=n
 so:∀x∈sts,St x
 dl:deeds.length<=n
 sl:sts.length<=n
 ll:las.length<=n
 cl:cnt.length<=n
theorem GenD.next{ps:List (c6×Int)}{rs:List (c6×List c6)}{s q f:List D}{l i:List (D×D)}{n:Nat}{t o:Int}{z x:c6}{k c:Int}{W:List D}(g:GenD ps rs s q l i n)(B:D.tup [.str z,.int k]∈aQ ps)(G:1<=t)(u:∀v:Int,ba l (.tup [.str z,.int k])=a7 (.int v)->v<t)(Y:0<=c)(H:c<=n)(C:0<=o)(A:om 4 W)(p:ActK rs x W)(E:∀x∈f,St x) (F:f.length<=n+1):GenD ps rs (s++[.tup [.int t,.tup [.str z,.int k],.int o,.tup<|.str x::W]]) f (ik l (.tup [.str z,.int k])<|.int t) (ik i (.tup [.str z,.int k])<|.int<|c+1) (n+1):=by have h1:=g.dl;have h2:=g.ll;have I:=g.cl;refine⟨λd h=>?_,?_,λd h=>?_,λd h=>?_,λy O=>?_,λy O=>?_,E,by rw[A1,K0];lia,F,?_,?_⟩;rcases D7.mp h with h|h;exact g.dk d h;rw[show d=_ from by simpa using h];exact⟨_,_,_,_,_,_,rfl,G,B,A,p⟩;rw[G5];refine Qb.mpr ⟨g.nd,by simp,λa p b w e=>?_⟩;obtain⟨d,h,rfl⟩:=v8.mp p;rw[show b=_ from by simpa using w]at e;obtain⟨t',K,J,r,S,ds',rfl,_⟩:=g.dk d h;obtain⟨v,j,m⟩:=g.la _ h;simp only[t5,D.tup.injEq,Oz,D.int.injEq,D.str.injEq,and_true]at e;obtain⟨rfl,rfl,rfl⟩:=e;have:=u v j;simp only[IH]at m;lia;rcases D7.mp h with h|h;exact g.nn d h;rw[show d=_ from by simpa using h];exact C;rcases D7.mp h with h|h;obtain⟨v,j,m⟩:=g.la d h;by_cases e:RA d=.tup [.str z,.int k];rw[e]at j ⊢;exact⟨t,jR,by have:=u v j;lia⟩;exact⟨v,by rw[nE e];exact j,m⟩;rw[show d=_ from by simpa using h];exact⟨t,jR,Int.le_refl _⟩;rcases gM O with rfl|O;exact⟨t,rfl,by lia⟩;exact g.lv y O;rcases gM O with rfl|O;exact⟨c+1,rfl,by lia,by lia⟩;obtain⟨v,j,m,R⟩:=g.cv y O;exact⟨v,j,m,by lia⟩;have:=pU (kvs:=l) (k:=.tup [.str z,.int k]) (d:=.int t);lia;have:=pU (kvs:=i) (k:=.tup [.str z,.int k]) (d:=.int<|c+1);lia
structure E3(M B:t7)(hs deeds sts:List D)(las cnt:List (D×D)):Prop where
 pre:M <+: B
 hs:B[M.length]?=a7 (.lst hs)
 las:B[M.length+1]?=a7 (.dkt las)
 cnt:B[M.length+2]?=a7 (.dkt cnt)
 sts:B[M.length+3]?=a7 (.lst sts)
 deeds:B[M.length+4]?=a7 (.lst deeds)
section
variable{M B:t7}{hs deeds sts:List D}{las cnt:List (D×D)}{q:Nat}{x:MO}
theorem E3.more(g:E3 M B hs deeds sts las cnt):E3 M (B++L) hs deeds sts las cnt:=⟨g.pre.trans<|G2 _ _,aG (G2 _ _) g.hs,aG (G2 _ _) g.las,aG (G2 _ _) g.cnt,aG (G2 _ _) g.sts,aG (G2 _ _) g.deeds⟩
theorem E3.lt(g:E3 M B hs deeds sts las cnt):M.length+5<=B.length:=aL g.deeds
theorem E3.set(g:E3 M B hs deeds sts las cnt)(h:M.length+5<=q):E3 M (B.set q x) hs deeds sts las cnt:=⟨bM g.pre (by lia),ap (by lia) g.hs,ap (by lia) g.las,ap (by lia) g.cnt,ap (by lia) g.sts,ap (by lia) g.deeds⟩
theorem E3.setD(g:E3 M B hs deeds sts las cnt):E3 M (B.set (M.length+4)<|.lst ds') hs ds' sts las cnt:=⟨bM g.pre (by lia),ap (by lia) g.hs,ap (by lia) g.las,ap (by lia) g.cnt,ap (by lia) g.sts,bI g.deeds⟩
theorem E3.setS(g:E3 M B hs deeds sts las cnt):E3 M (B.set (M.length+3)<|.lst ds') hs deeds ds' las cnt:=⟨bM g.pre (by lia),ap (by lia) g.hs,ap (by lia) g.las,ap (by lia) g.cnt,bI g.sts,ap (by lia) g.deeds⟩
theorem E3.setC(g:E3 M B hs deeds sts las cnt):E3 M (B.set (M.length+2)<|.dkt kvs) hs deeds sts las kvs:=⟨bM g.pre (by lia),ap (by lia) g.hs,ap (by lia) g.las,bI g.cnt,ap (by lia) g.sts,ap (by lia) g.deeds⟩
theorem E3.setL(g:E3 M B hs deeds sts las cnt):E3 M (B.set (M.length+1)<|.dkt kvs) hs deeds sts kvs cnt:=⟨bM g.pre (by lia),ap (by lia) g.hs,bI g.las,ap (by lia) g.cnt,ap (by lia) g.sts,ap (by lia) g.deeds⟩
end
theorem Ha{kvs:List (D×D)}(h:∀x∈kvs,∃v:Int,x.2=.int v/\0<=v):∃vs:List Int,kvs.map (·.2)=vs.map D.int:=by
 induction kvs with
 |nil=>exact⟨[],rfl⟩
 |cons p kvs i=>obtain⟨v,e,_⟩:=h p (by simp);obtain⟨vs,l⟩:=i λx a=>h x<|A6 _ a;exact⟨v::vs,by rw[C0,C0,e,l]⟩
def ww:s9:=bp<|t6 jH<|aa (ma "_law_log" ["_law_deed"] (Mg (ab 0) fH<|gx<|dC<|.int 2)<|aa (ab 6) af) af
def wx:s9:=A0 (aq<|r9 A2 (r9 u7 (ab 12)<|dC<|.int 0)<|dC<|.str "say") (fI<|K2 bC (ab 5)<|aa (eG<|aa (ab 11)<|aa (ab 9) af) af) aX
def wy:s9:=ax (tJ (ab 4) (ab 9)<|r9 bn (Nb ij (ab 4)<|aa (ab 9)<|aa (dC<|.int 0) af)<|dC<|.int 1)<|wx
def wz:s9:=ax (tJ (ab 3) (ab 9)<|ab 11)<|wy
def wA:s9:=ax (fI<|K2 bC (ab 6)<|aa (eG<|aa (ab 11)<|aa (ab 9)<|aa (Nb ij (ab 4)<|aa (ab 9)<|aa (dC<|.int 0) af)<|aa (ab 12) af) af)<|wz
def pO:s9:=ax (bb (t6 xy<|aa (ab 8)<|aa (ab 1)<|aa (ab 2)<|aa (ab 5)<|aa (ab 4) af) 12)<|wA
def zb:s9:=ax (A0 (aq<|r9 A2 (ab 10)<|dC<|.int 3) (bb (r9 bn (dC<|.int 1)<|t6 zQ<|aa (r9 bn (ko<|aa (dC<|.int 0) af)<|jZ<|ab 3) af) 11) aX)<|pO
def zc:s9:=ax (bb (r9 bn (r9 bn (Nb ij (ab 3)<|aa (ab 9)<|aa (dC<|.int 0) af)<|dC<|.int 1)<|t6 az<|aa (ab 8)<|aa (r9 u7 (ko<|aa (dC<|.int 3)<|aa (dC<|.int 6)<|aa (r9 FM (dC<|.int 10)<|dC<|.int 7)<|aa (dC<|.int 1) af)<|ab 10) af) 11)<|zb
def zd:s9:=ax (bb (t6 az<|aa (ab 8)<|aa (dC<|.int 4) af) 10)<|zc
def ut:s9:=ax (bb (r9 u7 (ab 2)<|t6 az<|aa (ab 8)<|aa (t6 lJ<|aa (ab 2) af) af) 9)<|zd
def ze:s9:=ax (lC (bV<|ab 0) (ah 7)<|ax (bb (t6 eX<|aa (ab 7) af) 8)<|ut)<|ww
def zf:s9:=ax (bb (ko af) 6)<|ze
def zg:s9:=ax (bb (ko af) 5)<|zf
def zh:s9:=ax (bb (tK) 4)<|zg
def zi:s9:=ax (bb (tK) 3)<|zh
def IJ:s9:=ax (bb (t6 mf<|aa (ab 1) af) 2)<|zi
theorem EW{M B:t7}{E:DEnds}{s a hs:List D}{l i:List (D×D)}{n q:Nat}{t w:Int}{z:c6}{k:Int}{ps:List (c6×Int)}{rs:List (c6×List c6)}{K L p:Option D}(g:E3 M B hs s a l i)(G:GenD ps rs s a l i n)(W:HouseF ps rs)(Z:∀x∈hs,Hd x)(o:hs.Nodup)(h1:1<=hs.length)(m:hs.length<=12)(ai:n<60)(V:LQ B q)(qM:M.length+5<=q)(h:D.tup [.str z,.int k]∈aQ ps)(I:1<=t)(J:∀v:Int,ba l (.tup [.str z,.int k])=a7 (.int v)->v<t)(A:∀deeds' sts' las' cnt' B' y,E3 M B' hs deeds' sts' las' cnt'->GenD ps rs deeds' sts' las' cnt' (n+1)->E.nx [K,a7<|aI ps rs,a7<|.ref M.length,a7<|.ref<|M.length+1,a7<|.ref<|M.length+2,a7<|.ref<|M.length+3,a7<|.ref<|M.length+4,L,a7<|.ref q,a7<|.tup [.str z,.int k],a7<|.int w,a7<|.int t,y] B'):pO E [K,a7<|aI ps rs,a7<|.ref M.length,a7<|.ref<|M.length+1,a7<|.ref<|M.length+2,a7<|.ref<|M.length+3,a7<|.ref<|M.length+4,L,a7<|.ref q,a7<|.tup [.str z,.int k],a7<|.int w,a7<|.int t,p] B:=by
 have dl:=G.dl;have sl:=G.sl;have ll:=G.ll;have cl:=G.cl;simp only[pO];walk_at"dl";refine⟨q,_,_,_,ps,rs,hs,a,i,rfl,V,W,⟨by lia,by lia,by lia⟩,.inl g.hs,Z,o,h1,m,.inl g.sts,G.so,by lia,g.cnt,λx h=>by obtain⟨v,T,U,e3⟩:=G.cv x h;exact⟨v,T,U,by lia⟩,λx f H F C=>?_⟩;have g1:=g.set (x:=.lst [.int H]) qM;generalize B.set q (.lst [.int H])=N at g1;have X:∃c:Int,(ba i<|.tup [.str z,.int k]).getD (.int 0)=.int c/\0<=c/\c<=n:=by
  cases e:ba i (.tup [.str z,.int k]) with
  |none=>exact⟨0,rfl,by decide,by lia⟩
  |some d=>exact G.cv _<|bx e
 obtain⟨c,u,Y,r⟩:=X;simp only[wA];walk_at"dl";refine⟨⟨_,.inl g1.deeds⟩,⟨_,g1.cnt⟩,_,g1.cnt,rfl,?_⟩;rw[u];refine⟨am (by lia),_,g1.deeds,aA (by lia),?_⟩;have j:=g1.setD (ds':=s++[.tup [.int t,.tup [.str z,.int k],.int c,.tup<|.str x::f]]);generalize N.set (M.length+4) _=P at j;simp only[wz];walk_at"dl";refine⟨_,j.las,rfl,aA (by lia),?_⟩;have g3:=j.setL (kvs:=ik l (.tup [.str z,.int k])<|.int t);generalize P.set (M.length+1) _=Q at g3;simp only[wy];walk_at"dl";refine⟨⟨_,g3.cnt⟩,_,g3.cnt,rfl,?_⟩;rw[u];refine⟨_,g3.cnt,rfl,aA (by lia),?_⟩;have b:=g3.setC (kvs:=ik i (.tup [.str z,.int k])<|.int<|c+1);generalize Q.set (M.length+2) _=R at b;simp only[wx];walk_at"dl";refine⟨⟨ao,ao⟩,?_⟩;generalize t8 R t9 (.str x) (.str<|AA0 "say")=S;cases S with
 |true=>refine bA ⟨⟨_,.inl b.sts⟩,am (by lia),_,b.sts,aA (by lia),?_⟩;refine A _ _ _ _ _ _ b.setS (G.next h I J Y r Y F C (λy O=>?_)<|by rw[A1,K0];lia);rcases D7.mp O with O|O;exact G.so y O;rw[show y=_ from by simpa using O];exact⟨_,_,_,rfl⟩
 |false=>exact bq<|A _ _ _ _ _ _ b<|G.next h I J Y r Y F C G.so<|by lia
theorem Df{M B:t7}{E:DEnds}{s J:List D}{l F:List (D×D)}{n:Nat}{r:Int}{ps:List (c6×Int)}{rs:List (c6×List c6)}{y0 y8 y9 al an as:Option D}(g:E3 M B (aQ ps) s J l F)(G:GenD ps rs s J l F n)(N:HouseF ps rs)(P:n<60)(hE:∀deeds' sts' las' cnt' B' a b c d y,E3 M B' (aQ ps) deeds' sts' las' cnt'->GenD ps rs deeds' sts' las' cnt' (n+1)->E.nx [y0,a7<|aI ps rs,a7<|.ref M.length,a7<|.ref<|M.length+1,a7<|.ref<|M.length+2,a7<|.ref<|M.length+3,a7<|.ref<|M.length+4,a7<|.int r,a,b,c,d,y] B'):(ax (bb (t6 eX<|aa (ab 7) af) 8)<|ut) E [y0,a7<|aI ps rs,a7<|.ref M.length,a7<|.ref<|M.length+1,a7<|.ref<|M.length+2,a7<|.ref<|M.length+3,a7<|.ref<|M.length+4,a7<|.int r,y8,y9,al,an,as] B:=by
 obtain⟨aD,n1,O⟩:=tj N;have hh:∀x∈aQ ps,Hd x:=xh;have ll:=G.ll;walk_at"dl";refine⟨r,rfl,λU=>?_⟩;have t:LQ (B++[MO.lst [.int U]]) B.length:=⟨U,ae⟩
 have g0:=g.more (L:=[.lst [.int U]]);have V:=g.lt;generalize B++[MO.lst [D.int U]]=B0 at g0 t;generalize B.length=q at t V;have I:=t.lt;have ai:=t.start;have p:∀{C:t7},Hl B0 C q->E3 M C (aQ ps) s J l F:=λ{C} h=>by obtain⟨n2,L,rfl⟩:=h;exact(g0.set (x:=.lst [.int n2]) V).more
 simp only[ut];walk_at"dl";refine⟨_,.inl g0.hs,q,_,rfl,t,by lia,by lia,λi m i0 i1=>?_⟩;have h1:=ai.set (n:=m) I;generalize B0.set q (.lst [.int m])=B1 at h1;obtain⟨j,hj,ej,_⟩:=iw (xs:=aQ ps) i0 i1;have T:=L5 hj;refine⟨_,.inl (p h1).hs,?_⟩;rw[ej];obtain⟨z,k,ez⟩:=hh _ T;rw[ez]at T ⊢;simp only[zd];walk_at"dl";refine⟨q,4,rfl,h1.hd I,by decide,by decide,λo m w0 w1=>?_⟩;have h2:=h1.set (n:=m) I;generalize B1.set q (.lst [.int m])=B2 at h2;have hl:∃v:Int,(ba l<|.tup [.str z,.int k]).getD (.int 0)=.int v/\0<=v/\∀u:Int,ba l (.tup [.str z,.int k])=a7 (.int u)->u=v:=by
  cases e:ba l (.tup [.str z,.int k]) with
  |none=>exact⟨0,rfl,by decide,λu w=>by cases w⟩
  |some d=>obtain⟨v,Q,v0⟩:=G.lv _<|bx e;exact⟨v,Q,v0,λu w=>by rw[show d=.int v from Q]at w;cases w;rfl⟩
 obtain⟨v,Q,v0,vu⟩:=hl;simp only[zc];walk_at"dl";refine⟨⟨_,(p h2).las⟩,_,(p h2).las,rfl,?_⟩;rw[Q];have ex:∃m:Int,atI [D.int 3,.int 6,.int<|10 ^ Int.toNat 7,.int 1] o=a7 (.int m)/\0<m/\m<100000000000:=by
  have:o=0\/o=1\/o=2\/o=3:=by lia
  rcases this with rfl|rfl|rfl|rfl;exact⟨_,aF (j:=0) rfl,by decide,by decide⟩;exact⟨_,aF (j:=1) rfl,by decide,by decide⟩;exact⟨_,aF (j:=2) rfl,by decide,by decide⟩;exact⟨_,aF (j:=3) rfl,by decide,by decide⟩
 obtain⟨m0,em,mp,ml⟩:=ex;refine⟨⟨by decide,by decide,by decide⟩,am (by lia),_,aw,?_⟩;rw[em];refine⟨q,m0,rfl,(h2.more).hd I,mp,ml,λa m a0 a1=>?_⟩;have S:=(h2.more (L:=[.lst [D.int 3,.int 6,.int<|10 ^ Int.toNat 7,.int 1]])).set (n:=m) I;generalize (B2++[MO.lst [D.int 3,.int 6,.int<|10 ^ Int.toNat 7,.int 1]]).set q (.lst [.int m])=K at S;simp only[zb];walk_at"dl";refine⟨⟨rfl,rfl⟩,?_⟩;generalize t8 K t9 (.int o) (.int 3)=b3;cases b3 with
 |false=>refine bq ?_;exact EW (p S) G N hh (xg N.pnd) n1 O P (S.hd I) V T (by lia) (λu w=>by rw[vu u w];lia) λd' s' l' c' B' y g' X=>hE _ _ _ _ _ _ _ _ _ _ g' X
 |true =>
  obtain⟨vs,H⟩:=Ha G.lv;have vl:vs.length=l.length:=by have:=p7 K6 H;rw[u6,u6]at this;exact this.symm
  have h4:=S.more (L:=[.lst [.int 0]]);have g4:=p h4;have Y:(K++[MO.lst [D.int 0]])[K.length]?=a7 (.lst [.int 0]):=ae;generalize K++[MO.lst [D.int 0]]=R at h4 g4 Y;generalize K.length=r4 at Y;refine bA ⟨am (by lia),_,g4.las,?_⟩;rw[H];have h5:=h4.more (L:=[.lst<|vs.map .int]);have e5:=ac (a:=.lst<|vs.map .int) Y;have Z:(R++[MO.lst<|vs.map .int])[R.length]?=a7 (.lst<|vs.map .int):=ae;generalize R++[MO.lst<|vs.map .int]=W at h5 e5 Z;generalize R.length=r5 at Z;refine⟨_,_,e5,Z,am (by rw[u6,K0];lia),?_⟩;have h6:=h5.more (L:=[.lst<|[.int 0]++vs.map .int]);have e7:(W++[MO.lst<|[D.int 0]++vs.map .int])[W.length]?=a7 (.lst<|(0::vs).map .int):=ae;generalize W++[MO.lst<|[D.int 0]++vs.map .int]=B6 at h6 e7;refine⟨0::vs,.inl e7,by simp,λmx mm A=>?_⟩;have aP:=A 0 (by simp);refine EW (p h6) G N hh (xg N.pnd) n1 O P (h6.hd I) V T (by lia) (λu w=>?_) λd' s' l' c' B' y g' X=>hE _ _ _ _ _ _ _ _ _ _ g' X;have hu:D.int u∈l.map (·.2):=LK (f:=(·.2))<|bx w;rw[H]at hu;obtain⟨u',aj,eu⟩:=v8.mp hu;cases eu;have:=A u<|A6 _ aj;lia
theorem IA:z5 xx 13 IJ:=by
 rintro ds M R ⟨ps,r,p,U,cs,rfl,H,v,pt,cl,J,h⟩;obtain⟨w,n1,ai⟩:=tj H;simp only[IJ,aI];walk_at"dl";refine⟨ps,_,rfl,w,?_⟩;simp only[zi,zh,zg,zf];walk_at"dl";refine⟨z8 _,z8 _,?_⟩;have C:(M++[MO.lst<|aQ ps]).length=M.length+1:=by simp
 have E:(M++[MO.lst<|aQ ps]++[MO.dkt []]).length=M.length+2:=by simp
 have F:(M++[MO.lst<|aQ ps]++[MO.dkt []]++[MO.dkt []]).length=M.length+3:=by simp
 have I:(M++[MO.lst<|aQ ps]++[MO.dkt []]++[MO.dkt []]++[MO.lst []]).length=M.length+4:=by simp
 rw[C,E,F,I];have u:E3 M (M++[MO.lst<|aQ ps]++[MO.dkt []]++[MO.dkt []]++[MO.lst []]++[MO.lst []]) (aQ ps) [] [] [] []:=by refine⟨(((dH.trans dH).trans dH).trans dH).trans dH,ac<|ac<|ac<|ac ae,?_,?_,?_,?_⟩;rw[<-C];exact ac<|ac<|ac ae;rw[<-E];exact ac<|ac ae;rw[<-F];exact ac ae;rw[<-I];exact ae
 generalize M++[MO.lst<|aQ ps]++[MO.dkt []]++[MO.dkt []]++[MO.lst []]++[MO.lst []]=B0 at u;simp only[ze];walk_at"dl";refine⟨_,uT u.pre v,λ_=>?_⟩;refine aY (λi S n=>∃(s m:List D) (l j:List (D×D)) (a b c d e f:Option D),E3 M n (aQ ps) s m l j/\GenD ps r s m l j i/\S=[a7<|.ref p,a7<|aI ps r,a7<|.ref M.length,a7<|.ref<|M.length+1,a7<|.ref<|M.length+2,a7<|.ref<|M.length+3,a7<|.ref<|M.length+4,a,b,c,d,e,f]) ?_ ?_ ⟨[],[],[],[],_,_,_,_,_,_,u,⟨(λ_ z=>nomatch z),.nil,(λ_ z=>nomatch z),(λ_ z=>nomatch z),(λ_ z=>nomatch z),(λ_ z=>nomatch z),(λ_ z=>nomatch z),u5 _,u5 _,u5 _,u5 _⟩,rfl⟩;rintro S n ⟨s,m,l,j,a,b,c,d,e,f,g,G,rfl⟩;rw[u6]at G;have dl:=G.dl;refine⟨uT g.pre v,?_⟩;simp only[ww];walk_at"dl";have tl:=aL J;have Z:(n.set U<|.tb (AA0 "_law_log") a9)[M.length+4]?=a7 (.lst s):=ap (by lia) g.deeds;have hS:∀x∈s.map t5,St x:=λx hx=>by obtain⟨d,o,rfl⟩:=v8.mp hx;exact(G.dk d o).st
 refine⟨U,s,t5,aG g.pre J,.inr ⟨_,rfl,.inl Z⟩,λd o=>?_,(zD hS<|by rw[u6];lia).g,λys O hr=>?_⟩;obtain⟨t,z,k,aj,x,ds,rfl,_⟩:=G.dk d o;walk_at"dl";exact .inl ⟨rfl,rfl⟩;have ml:n.length=(n.set U<|.tb (AA0 "_law_log") a9).length:=(J7 ..).symm;refine⟨ys,by rw[ml];exact aw,?_⟩;have q:∀d∈ys,aJ ps r d:=λd o=>G.dk d<|O.mem_iff.mp o;have nd:(ys.map t5).Nodup:=(O.map _).nodup_iff.mpr G.nd;have ls:LogS ps r ys:=by
  refine⟨q,?_,by rw[O.length_eq];lia,λd o=>G.nn d<|O.mem_iff.mp o⟩;have n2:ys.Pairwise λa b=>t5 a≠t5 b:=N7.mp<|Nl.mp nd;refine(List.Pairwise.and_mem.mp<|hr.and n2).imp λ{a b} ⟨ha,hb,q1,q2⟩=>?_;have A:=(q a ha).st;have T:=(q b hb).st;have N:A8 t9 (t5 a)=a9:=by obtain⟨t,z,k,e⟩:=A;rw[e];rfl
  have P:A8 t9 (t5 b)=a9:=by obtain⟨t,z,k,e⟩:=T;rw[e];rfl
  rw[uS P N<|T.cm A]at q1;have q3:=of_decide_eq_false q1;refine M9 λq4=>q2 ?_;exact Hr (M:=[]) N P (A.cm T)<|List.le_antisymm (List.not_lt.mp q3)<|List.not_lt.mp q4
 obtain⟨L,hL⟩:=g.pre;have W:n.set U (.tb (AA0 "_law_log") a9)=M.set U (.tb (AA0 "_law_log") a9)++L:=by rw[<-hL,List.set_append_left _ _ tl]
 rw[W];refine bc.chg (Mx.set .refl .nil) (h ys ls<|by rw[O.length_eq];lia) (.tup<|aJ.bels q) ?_;rw[G9];exact G2 _ _;rintro i y S n O ⟨s,m,l,j,a,b,c,d,e,f,g,G,rfl⟩ K hK;rw[C5]at O;obtain⟨B,hc,rfl⟩:=Me.mp O;have hi:=(x5.mp hc).1;refine⟨uT g.pre v,?_⟩;simp only[ah,List.set_cons_zero,List.set_cons_succ];exact Df g G H (by lia) λV s' l' Q B' a b c d y Y X=>z6.now<|hK _ _ ⟨V,s',l',Q,_,_,_,_,_,_,Y,X,rfl⟩
theorem JH(T:Tops P w K mg base):u9 P w K mg base 8 "_law_log" Gf xx:=u9.byL (N:=["_law_cells","_law_house_here","_law_hands_here","_law_last","_law_done","_law_says","_law_deeds","_law_cell","_law_held","_law_hand","_law_way","_law_time","_law_act_here"]) T.b T.f_log (by walk_at"sc") Gy (by have:=T.bm;have:=sC T;have:=fv T;have:=JI T;have:=CS T;walk_at"dvl") IA
def qG:w6:=λds M R=>∃(ps:List (c6×Int)) (a:List (c6×List c6)) (log:List D),ds=[.tup log]/\(∀d∈log,aJ ps a d)/\log.length<=1000/\∀n B,M <+: B->B[n]?=a7 (.dkt<|nT log)->R (.ref n) B
theorem Dj:cI qG Ab:=by rintro ds M R ⟨ps,a,log,rfl,_⟩;rfl
def wc:s9:=bp<|ab 1
def wd:s9:=ax (lC (bV<|ab 0) (jV 4<|aT (ah 2)<|aT (ah 3)<|aT (ah 4)<|aT (ah 5) jW)<|A0 (aq<|r9 A2 (r9 u7 (ab 5)<|dC<|.int 0)<|dC<|.str "say") (tJ (ab 1) (eG<|aa (ab 2)<|aa (ab 3) af)<|ab 5) aX)<|wc
def EI:s9:=ax (bb (tK) 1)<|wd
theorem Ft:z5 qG 6 EI:=by
 rintro ds M R ⟨ps,r,log,rfl,n,q,h⟩;simp only[EI,wd];walk_at"dl";intro _;refine aY (λi S f=>∃a b c d,f=M++[.dkt<|nT<|log.take i]/\S=[a7<|.tup log,a7<|.ref M.length,a,b,c,d]) ?_ ?_ ⟨_,_,_,_,rfl,rfl⟩;rintro S f ⟨a,b,c,d,rfl,rfl⟩;rw[L7];refine⟨trivial,?_⟩;simp only[wc];walk_at"dl";exact .inl<|h _ _ dH ae;rintro i y S f O ⟨a,b,c,d,rfl,rfl⟩ G l;have o:=F0 O;have hi:=(x5.mp O).1;have j:log.take (i+1)=log.take i++[y]:=by rw[Mo,O];rfl
 rw[j,xP]at l;have s:=Cr<|kinds (log.take i)<|AA0 "say";have v:=bh (log:=log.take i) (k:=AA0 "say");rw[G0]at v;rw[show lH (kinds (log.take i)<|AA0 "say")=nT (log.take i)from rfl]at s;generalize nT (log.take i)=p at l s;obtain⟨t,z,k,m,x,ds,rfl,_⟩:=n y o;refine⟨trivial,?_⟩;walk_at"dl";refine⟨trivial,⟨ao,ao⟩,?_⟩;rw[aM];have g:bB (.tup [.int t,.tup [.str z,.int k],.int m,.tup<|.str x::ds])=x:=rfl;rw[g]at l;by_cases e:x=AA0 "say";rw[beq_iff_eq.mpr e];rw[o0 e]at l;refine bA ⟨am (by lia),_,ae,rfl,aA (by lia),?_⟩;rw[iA];exact z6.now<|l _ _ ⟨_,_,_,_,rfl,rfl⟩;rw[beq_eq_false_iff_ne.mpr e];rw[o4 e]at l;exact bq<|z6.now<|l _ _ ⟨_,_,_,_,rfl,rfl⟩
theorem Gn(T:Tops P w K mg base):u9 P w K mg base 1 "_law_said" Ab qG:=u9.byD (N:=["_law_log_here","_law_found","_law_time","_law_hand","_law_number","_law_act_here"]) T.b T.f_said (by walk_at"sc") Dj (by walk_at"dv") Ft
noncomputable def fR(log:List D)(name:c6):List D:=(dE log (AA0 "read") name).map λd=>.tup [.str<|aB d,aW d]
def md:w6:=λds M R=>∃(ps:List (c6×Int)) (s:List (c6×List c6)) (log:List D) (e:c6),ds=[.tup log,.str e]/\(∀d∈log,aJ ps s d)/\log.length<=60/\∀(n o a C:Nat) (B:t7) (hs:List D),M <+: B->B[n]?=a7 (.lst<|fR log e)->B[o]?=a7 (.lst<|bj log (AA0 "seen") e)->B[a]?=a7 (.lst<|bj log (AA0 "rung") e)->B[C]?=a7 (.lst hs)->(∀w∈hs,eA w)->(∀w,w∈hs↔ba (fE log e) w=a7 (.bl a9))->R (.tup [.ref n,.ref o,.ref a,.ref C]) B
theorem AA:cI md uE:=by rintro ds M R ⟨ps,a,log,e,rfl,_⟩;rfl
theorem qV:bj (log++[d]) k name=bj log k name++if bB d=k/\aR d=name then[kn d]else[]:=by unfold bj;rw[kG,G5];split<;>rfl
theorem xH:fR (log++[d]) name=fR log name++if bB d=AA0 "read"/\aR d=name then[.tup [.str<|aB d,aW d]]else[]:=by unfold fR;rw[kG,G5];split<;>rfl
theorem yp:fE (log++[d]) name=if bB d=AA0 "hush"/\aR d=name then ik (fE log name) (kn d) (aW d)else fE log name:=by unfold fE;rw[kG,G5];split;rw[List.map_singleton,bT];rw[O7,G7]
theorem vp(h:∀d∈log,aJ ps rs d):∀p∈fE log name,eA p.1/\∃b,p.2=.bl b:=λp a=>by obtain⟨d,m,rfl⟩:=v8.mp<|tH _ a;obtain⟨h1,h2,_⟩:=cM m;obtain⟨t,z,k,n,w,b,rfl,c⟩:=AX (h d h1) h2;exact⟨c,b,rfl⟩
theorem nr(h:log.length<=n):(dE log k name).length<=n:=C7 eP h
def qY:s9:=bp<|eG<|aa (ab 2)<|aa (ab 3)<|aa (ab 4)<|aa (E5 1 [5] (lB<|ab 5) (ah 0) (aq<|lT (ab 1)<|ab 0)<|ab 0) af
def mw:s9:=A0 (vE (aq<|r9 A2 (r9 u7 (ab 7)<|dC<|.int 0)<|ab 1)<|aq<|r9 A2 (r9 u7 (ab 9)<|dC<|.int 0)<|dC<|.str "hush") (tJ (ab 5) (r9 u7 (ab 9)<|dC<|.int 1)<|r9 u7 (ab 9)<|dC<|.int 2) aX
def my:s9:=ax (A0 (vE (aq<|r9 A2 (r9 u7 (ab 7)<|dC<|.int 0)<|ab 1)<|aq<|r9 A2 (r9 u7 (ab 9)<|dC<|.int 0)<|dC<|.str "rung") (fI<|K2 bC (ab 4)<|aa (r9 u7 (ab 9)<|dC<|.int 1) af) aX)<|mw
def mz:s9:=ax (A0 (vE (aq<|r9 A2 (r9 u7 (ab 7)<|dC<|.int 0)<|ab 1)<|aq<|r9 A2 (r9 u7 (ab 9)<|dC<|.int 0)<|dC<|.str "seen") (fI<|K2 bC (ab 3)<|aa (r9 u7 (ab 9)<|dC<|.int 1) af) aX)<|my
def qZ:s9:=ax (lC (bV<|ab 0) (jV 4<|aT (ah 6)<|aT (ah 7)<|aT (ah 8)<|aT (ah 9) jW)<|ax (A0 (vE (aq<|r9 A2 (r9 u7 (ab 7)<|dC<|.int 0)<|ab 1)<|aq<|r9 A2 (r9 u7 (ab 9)<|dC<|.int 0)<|dC<|.str "read") (fI<|K2 bC (ab 2)<|aa (eG<|aa (r9 u7 (ab 9)<|dC<|.int 1)<|aa (r9 u7 (ab 9)<|dC<|.int 2) af) af) aX)<|mz)<|qY
def rh:s9:=ax (bb (tK) 5)<|qZ
def rj:s9:=ax (bb (ko af) 4)<|rh
def rA:s9:=ax (bb (ko af) 3)<|rj
def yZ:s9:=ax (bb (ko af) 2)<|rA
theorem BW:z5 md 10 yZ:=by
 rintro ds M R ⟨ps,rs,log,name,rfl,hd,ll,h⟩;simp only[yZ,rA,rj,rh];walk_at"dl";refine⟨z8 _,z8 _,z8 _,?_⟩;have e1:(M++[MO.lst []]).length=M.length+1:=by simp
 have e2:(M++[MO.lst []]++[MO.lst []]).length=M.length+2:=by simp
 have e3:(M++[MO.lst []]++[MO.lst []]++[MO.lst []]).length=M.length+3:=by simp
 rw[e1,e2,e3];have p0:M <+: M++[MO.lst []]++[MO.lst []]++[MO.lst []]++[MO.dkt []]:=((dH.trans dH).trans dH).trans dH;have g1:(M++[MO.lst []]++[MO.lst []]++[MO.lst []]++[MO.dkt []])[M.length]?=a7 (.lst []):=ac<|ac<|ac ae;have l:(M++[MO.lst []]++[MO.lst []]++[MO.lst []]++[MO.dkt []])[M.length+1]?=a7 (.lst []):=by rw[<-e1];exact ac<|ac ae
 have g3:(M++[MO.lst []]++[MO.lst []]++[MO.lst []]++[MO.dkt []])[M.length+2]?=a7 (.lst []):=by rw[<-e2];exact ac ae
 have j:(M++[MO.lst []]++[MO.lst []]++[MO.lst []]++[MO.dkt []])[M.length+3]?=a7 (.dkt []):=by rw[<-e3];exact ae
 generalize M++[MO.lst []]++[MO.lst []]++[MO.lst []]++[MO.dkt []]=P at p0 g1 l g3 j;simp only[qZ];walk_at"dl";intro _;refine aY (λi S v=>∃(a b c d:Option D),M <+: v/\v[M.length]?=a7 (.lst<|fR (log.take i) name)/\v[M.length+1]?=a7 (.lst<|bj (log.take i) (AA0 "seen") name)/\v[M.length+2]?=a7 (.lst<|bj (log.take i) (AA0 "rung") name)/\v[M.length+3]?=a7 (.dkt<|fE (log.take i) name)/\S=[a7<|.tup log,a7<|.str name,a7<|.ref M.length,a7<|.ref<|M.length+1,a7<|.ref<|M.length+2,a7<|.ref<|M.length+3,a,b,c,d]) ?_ ?_ ⟨_,_,_,_,p0,g1,l,g3,j,rfl⟩;rintro S v ⟨a,b,c,d,pM,g1,l,g3,j,rfl⟩;rw[L7]at g1 l g3 j;have hq:=vp (name:=name) hd;have n1:((fE log name).map (·.1)).Nodup:=nH _;have hl:(fE log name).length<=60:=by unfold fE;refine C7 cZ ?_;rw[u6];exact nr ll
 refine⟨trivial,?_⟩;simp only[qY];walk_at"dl";refine⟨_,j,λ_=>?_⟩;refine aU (λw=>decide<|ba (fE log name) w=a7 (.bl a9)) id (λS=>∃a,S=[a,a7<|.ref<|M.length+3]) j _ _ _ ?_ ⟨_,rfl⟩ (by rw[C8,u6];exact am<|by lia) ?_;rintro x L S ⟨a,rfl⟩;obtain⟨p,N,rfl⟩:=v8.mp L;have K:=cS n1 N;obtain⟨H,b,eb⟩:=hq p N;refine⟨[a7 p.1,a7<|.ref<|M.length+3],⟨_,rfl⟩,λY Z s=>?_⟩;rw[eb]at K;rw[K]at s;obtain⟨ks,e⟩:=H.tup;have g:=H.key;rw[e]at s K g ⊢;walk_at"dl";refine⟨_,_,j,g,K,?_⟩;cases b with
 |true=>rw[dT_ rfl]at s;exact bA s
 |false=>rw[dF_<|by simp]at s;exact bq s
 rw[G6,MU];refine⟨am (by lia),.inl<|h _ _ _ _ _ _ (pM.trans dH) (ac g1) (ac l) (ac g3) ae (λw O=>?_) λw=>?_⟩;obtain⟨p,N,rfl⟩:=v8.mp (B9.mp O).1;exact(hq p N).1;rw[B9,o7];exact⟨λz=>z.2,λz=>⟨LK (f:=(·.1))<|bx z,z⟩⟩;rintro i y S v X ⟨a,b,c,d,pM,g1,l,g3,j,rfl⟩ G u;have hi:=(x5.mp X).1;have et:log.take (i+1)=log.take i++[y]:=by rw[Mo,X];rfl
 rw[et,xH,qV,qV,yp]at u;have tl:(log.take i).length<=60:=by rw[G0];lia
 have l1:(fR (log.take i) name).length<=60:=by unfold fR;rw[u6];exact nr tl
 have l2:∀k,(bj (log.take i) k name).length<=60:=λk=>by unfold bj;rw[u6];exact nr tl
 have l4:(fE (log.take i) name).length<=60:=by unfold fE;refine C7 cZ ?_;rw[u6];exact nr tl
 have ai:=l2<|AA0 "seen";have aj:=l2<|AA0 "rung";generalize fR (log.take i) name=V at g1 u l1;generalize bj (log.take i) (AA0 "seen") name=U at l u ai;generalize bj (log.take i) (AA0 "rung") name=T at g3 u aj;generalize fE (log.take i) name=Q at j u l4;have dy:=hd y<|F0 X;obtain⟨t,z,k,n,x,ds,rfl,_,_,_,J⟩:=dy;have e5:bB (.tup [.int t,.tup [.str z,.int k],.int n,.tup<|.str x::ds])=x:=rfl;have e6:aR (.tup [.int t,.tup [.str z,.int k],.int n,.tup<|.str x::ds])=z:=rfl;rw[e5,e6]at u;have F:∀{E:DEnds}{B:t7},E.nx=z6 P G->M <+: B->B[M.length]?=a7 (.lst<|V++(if x=AA0 "read"/\z=name then[.tup [.str<|aB<|.tup [.int t,.tup [.str z,.int k],.int n,.tup<|.str x::ds],aW<|.tup [.int t,.tup [.str z,.int k],.int n,.tup<|.str x::ds]]]else[]))->B[M.length+1]?=a7 (.lst<|U++(if x=AA0 "seen"/\z=name then[kn<|.tup [.int t,.tup [.str z,.int k],.int n,.tup<|.str x::ds]]else[]))->B[M.length+2]?=a7 (.lst<|T++(if x=AA0 "rung"/\z=name then[kn<|.tup [.int t,.tup [.str z,.int k],.int n,.tup<|.str x::ds]]else[]))->B[M.length+3]?=a7 (.dkt Q)->mw E [a7<|.tup log,a7<|.str name,a7<|.ref M.length,a7<|.ref<|M.length+1,a7<|.ref<|M.length+2,a7<|.ref<|M.length+3,a7<|.int t,a7<|.tup [.str z,.int k],a7<|.int n,a7<|.tup<|.str x::ds] B:=λ{E B} eE pM g1 l g3 j=>by
  simp only[mw];walk_at"dl";refine⟨⟨ao,ao⟩,?_⟩;rw[aM];have no:¬(x=AA0 "hush"/\z=name)->E.nx [a7<|.tup log,a7<|.str name,a7<|.ref M.length,a7<|.ref<|M.length+1,a7<|.ref<|M.length+2,a7<|.ref<|M.length+3,a7<|.int t,a7<|.tup [.str z,.int k],a7<|.int n,a7<|.tup<|.str x::ds] B:=λq=>by rw[eE];refine z6.now<|u _ _ ⟨_,_,_,_,pM,g1,l,g3,?_,rfl⟩;rw[o4 q];exact j
  by_cases o:z=name;rw[beq_iff_eq.mpr o];refine bA ⟨⟨ao,ao⟩,?_⟩;rw[aM];by_cases g:x=AA0 "hush";rw[beq_iff_eq.mpr g];obtain⟨w,b,rfl,O⟩:=J.hush g;obtain⟨ks,W⟩:=O.tup;have I:=O.key;rw[W]at I;rw[NK];dsimp only;rw[Mt,W];refine bA ⟨_,j,I,aA (by lia),?_⟩;rw[eE];refine z6.now<|u _ _ ⟨_,_,_,_,bM pM (by lia),ap (by lia) g1,ap (by lia) l,ap (by lia) g3,?_,rfl⟩;rw[o0 ⟨g,o⟩,bI j,<-W];rfl;rw[beq_eq_false_iff_ne.mpr g];exact bq<|no λq=>g q.1;rw[beq_eq_false_iff_ne.mpr o];exact bq<|no λq=>o q.2
 have C:∀{E:DEnds}{B:t7},E.nx=z6 P G->M <+: B->B[M.length]?=a7 (.lst<|V++(if x=AA0 "read"/\z=name then[.tup [.str<|aB<|.tup [.int t,.tup [.str z,.int k],.int n,.tup<|.str x::ds],aW<|.tup [.int t,.tup [.str z,.int k],.int n,.tup<|.str x::ds]]]else[]))->B[M.length+1]?=a7 (.lst<|U++(if x=AA0 "seen"/\z=name then[kn<|.tup [.int t,.tup [.str z,.int k],.int n,.tup<|.str x::ds]]else[]))->B[M.length+2]?=a7 (.lst T)->B[M.length+3]?=a7 (.dkt Q)->my E [a7<|.tup log,a7<|.str name,a7<|.ref M.length,a7<|.ref<|M.length+1,a7<|.ref<|M.length+2,a7<|.ref<|M.length+3,a7<|.int t,a7<|.tup [.str z,.int k],a7<|.int n,a7<|.tup<|.str x::ds] B:=λ{E B} eE pM g1 l g3 j=>by simp only[my];walk_at"dl";refine⟨⟨ao,ao⟩,?_⟩;rw[aM];by_cases o:z=name;rw[beq_iff_eq.mpr o];refine bA ⟨⟨ao,ao⟩,?_⟩;rw[aM];by_cases g:x=AA0 "rung";rw[beq_iff_eq.mpr g];obtain⟨m,rfl,L⟩:=J.rung g;rw[Mt];refine bA ⟨⟨_,.inl g3⟩,_,g3,aA (by lia),?_⟩;refine F eE (bM pM<|by lia) (ap (by lia) g1) (ap (by lia) l) ?_<|ap (by lia) j;rw[o0 ⟨g,o⟩,bI g3];rfl;rw[beq_eq_false_iff_ne.mpr g];exact bq<|F eE pM g1 l (by rw[o4 λq=>g q.1,G7];exact g3) j;rw[beq_eq_false_iff_ne.mpr o];exact bq<|F eE pM g1 l (by rw[o4 λq=>o q.2,G7];exact g3) j
 have A:∀{E:DEnds}{B:t7},E.nx=z6 P G->M <+: B->B[M.length]?=a7 (.lst<|V++(if x=AA0 "read"/\z=name then[.tup [.str<|aB<|.tup [.int t,.tup [.str z,.int k],.int n,.tup<|.str x::ds],aW<|.tup [.int t,.tup [.str z,.int k],.int n,.tup<|.str x::ds]]]else[]))->B[M.length+1]?=a7 (.lst U)->B[M.length+2]?=a7 (.lst T)->B[M.length+3]?=a7 (.dkt Q)->mz E [a7<|.tup log,a7<|.str name,a7<|.ref M.length,a7<|.ref<|M.length+1,a7<|.ref<|M.length+2,a7<|.ref<|M.length+3,a7<|.int t,a7<|.tup [.str z,.int k],a7<|.int n,a7<|.tup<|.str x::ds] B:=λ{E B} eE pM g1 l g3 j=>by simp only[mz];walk_at"dl";refine⟨⟨ao,ao⟩,?_⟩;rw[aM];by_cases o:z=name;rw[beq_iff_eq.mpr o];refine bA ⟨⟨ao,ao⟩,?_⟩;rw[aM];by_cases g:x=AA0 "seen";rw[beq_iff_eq.mpr g];obtain⟨m,rfl,L⟩:=J.seen g;rw[Mt];refine bA ⟨⟨_,.inl l⟩,_,l,aA (by lia),?_⟩;refine C eE (bM pM<|by lia) (ap (by lia) g1) ?_ (ap (by lia) g3)<|ap (by lia) j;rw[o0 ⟨g,o⟩,bI l];rfl;rw[beq_eq_false_iff_ne.mpr g];exact bq<|C eE pM g1 (by rw[o4 λq=>g q.1,G7];exact l) g3 j;rw[beq_eq_false_iff_ne.mpr o];exact bq<|C eE pM g1 (by rw[o4 λq=>o q.2,G7];exact l) g3 j
 refine⟨trivial,?_⟩;walk_at"dl";refine⟨trivial,⟨ao,ao⟩,?_⟩;rw[aM];by_cases o:z=name;rw[beq_iff_eq.mpr o];refine bA ⟨⟨ao,ao⟩,?_⟩;rw[aM];by_cases g:x=AA0 "read";rw[beq_iff_eq.mpr g];obtain⟨r,vs,rfl,L⟩:=J.read g;rw[Mt];dsimp only;rw[NK];refine bA ⟨⟨_,.inl g1⟩,am (by lia),_,g1,aA (by lia),?_⟩;refine A rfl (bM pM<|by lia) ?_ (ap (by lia) l) (ap (by lia) g3)<|ap (by lia) j;rw[o0 ⟨g,o⟩,bI g1];rfl;rw[beq_eq_false_iff_ne.mpr g];exact bq<|A rfl pM (by rw[o4 λq=>g q.1,G7];exact g1) l g3 j;rw[beq_eq_false_iff_ne.mpr o];exact bq<|A rfl pM (by rw[o4 λq=>o q.2,G7];exact g1) l g3 j
theorem CO(T:Tops P w K mg base):u9 P w K mg base 1 "_law_reads" uE md:=u9.byD (N:=["_law_log_here","_law_name_here","_law_vectors","_law_seen","_law_rung","_law_hushed","_law_time","_law_hand","_law_number","_law_act_here"]) T.b T.f_reads (by walk_at"sc") AA (by walk_at"dv") BW
def qH:w6:=λds M R=>∃(ps:List (c6×Int)) (a:List (c6×List c6)) (log:List D) (n:c6) (e v f:D) (k u:Nat),ds=[.tup log,.str n,.tup [t5 e,.str<|aB e,aW e,.str<|aR e,v,f],.ref k,.ref u]/\LogS ps a log/\e∈log/\bB e=AA0 "say"/\M[k]?=a7 (.lst<|fR log n)/\M[u]?=a7 (.lst<|bj log (AA0 "seen") n)/\R (.bl<|lI log n e) M
theorem Dk:cI qH Ac:=by rintro ds M R ⟨ps,a,log,n,e,v,f,k,u,rfl,_⟩;rfl
theorem xD(X:(ws.map (·.1)).Nodup)(n:0<=num):∃c:Int,(ba (dictOf<|ws.map λp=>(p.1,D.int p.2)) h).getD (.int 0)=.int c/\cw ws h num=decide (c > num):=by
 have C:((ws.map λp=>(p.1,D.int p.2)).map (·.1)).Nodup:=by rw[E8];exact X
 rw[tG _ C];unfold cw;cases a:ws.find? λp=>decide (p.1=h) with
 |none =>
  refine⟨0,?_,(dF_<|by lia).symm⟩;cases S:ba (ws.map λp=>(p.1,D.int p.2)) h with
  |none=>rfl
  |some v=>obtain⟨p,b,e⟩:=v8.mp<|bx S;have:=List.find?_eq_none.mp a p b;injection e with e _;exact o5 (dT_ e) this
 |some p =>
  have b:=Rt a;have e:p.1=h:=by have:=NZ a;exact oT_ this
  have:=cS C<|LK (f:=λp=>(p.1,D.int p.2)) b;dsimp only at this;rw[<-e,this];exact⟨p.2,rfl,rfl⟩
theorem CN(r:MI l)(i:e∈l):(l.filter λd=>decide<|t5 d=t5 e)=[e]:=by
 have nd:(l.filter λd=>decide<|t5 d=t5 e).Nodup:=by refine List.Nodup.sublist List.filter_sublist<|Nl.mpr<|r.imp λq z=>?_;rw[z]at q;exact K7 _ q
 have hm:∀d∈l.filter λd=>decide<|t5 d=t5 e,d=e:=λd h=>r.one d (B9.mp h).1 e i<|oT_ (B9.mp h).2;have hi:e∈l.filter λd=>decide (t5 d=t5 e):=B9.mpr ⟨i,dT_ rfl⟩;generalize l.filter (λd=>decide<|t5 d=t5 e)=m at nd hm hi
 match m,nd,hm,hi with
 | [a],_,hm,_=>rw[hm a<|by simp]
 |a::b::m,nd,hm,_=>rw[LX]at nd;exact o5 (by rw[hm a (by simp),<-hm b (by simp)];simp) nd.1
theorem Cc(h:∀d∈log,aJ ps rs d):∀v∈fR log name,∃(r:c6) (hs:List (D×Int)),v=.tup [.str r,.tup<|kj hs]/\(∀p∈hs,Hd p.1)/\hs.length<=12/\(hs.map (·.1)).Nodup:=λv c=>by obtain⟨d,m,rfl⟩:=v8.mp c;obtain⟨h1,h2,_⟩:=cM m;have a:=h d h1;obtain⟨t,z,k,n,r,hs,rfl,q,j⟩:=uC a h2;exact⟨r,hs,rfl,q,j,FI a⟩
noncomputable def Ol(r:c6)(h:D)(m:Int)(v:D):Bool:=match v with
 |.tup [.str r',u]=>decide (r'=r)&&cw (Cd u) h m
 |_=>bt
theorem Ez:(nR log name r).any (λv=>cw (Cd v) h num)=(fR log name).any (Ol r h num):=by unfold nR fR;rw[O5,O5,List.any_filter];rfl
def we:s9:=bp<|dC<|.bl bt
def wf:s9:=ax (lC (bV<|ab 3) (jV 2<|aT (ah 7)<|aT (ah 8) jW)<|A0 (vE (aq<|r9 A2 (ab 7)<|r9 u7 (ab 2)<|dC<|.int 1)<|aq<|r9 Na (Nb ij (t6 sf<|aa (ab 8) af)<|aa (r9 u7 (ab 5)<|dC<|.int 1)<|aa (dC<|.int 0) af)<|ab 6) (bp<|dC<|.bl a9) aX)<|we
def wg:s9:=ax (bb (r9 u7 (E5 1 [5] (bV<|ab 0) (ah 0) (aq<|r9 A2 (eG<|aa (r9 u7 (ab 0)<|dC<|.int 0)<|aa (r9 u7 (ab 0)<|dC<|.int 1) af)<|ab 1)<|r9 u7 (ab 0)<|dC<|.int 2)<|dC<|.int 0) 6)<|wf
def wj:s9:=ax (A0 (Mh (aq<|r9 A2 (r9 u7 (ab 2)<|dC<|.int 3)<|ab 1)<|aq<|r9 LP (ab 5)<|ab 4) (bp<|dC<|.bl a9) aX)<|wg
def EJ:s9:=ax (bb (r9 u7 (ab 2)<|dC<|.int 0) 5)<|wj
theorem Fu:z5 qH 9 EJ:=by
 rintro ds M R ⟨ps,rs,log,name,e,v,f,q3,q4,rfl,l,L,ke,g3,g4,h⟩;have U:=l.len;have c:=(l.dk e L).st;have X:∀x∈bj log (AA0 "seen") name,St x:=λx hx=>by obtain⟨d,A,rfl⟩:=v8.mp hx;obtain⟨h1,h2,_⟩:=cM A;obtain⟨t,z,k,n,x,m,rfl,hs⟩:=uz (l.dk d h1)<|.inl h2;exact hs
 have vl:(fR log name).length<=60:=by unfold fR;rw[u6];exact nr U
 have vo:=Cc (name:=name) l.dk;have nn:=l.nn e L;unfold lI at h;rw[Ez]at h;have P:atI [t5 e,.str<|aB e,aW e,.str<|aR e,v,f] 3=a7 (.str<|aR e):=aF (j:=3) rfl;simp only[EJ];walk_at"dl";simp only[wj];walk_at"dl";rw[P];refine⟨⟨ao,ao⟩,?_⟩;rw[aM];by_cases H:aR e=name;rw[beq_iff_eq.mpr H];rw[dT_ H,Bool.true_or]at h;exact bA<|bc.now h;rw[beq_eq_false_iff_ne.mpr H];rw[dF_ H,NS]at h;refine bq ⟨_,.inl g4,⟨c.ok,kX X⟩,?_⟩;rw[pz c X];by_cases I:t5 e∈bj log (AA0 "seen") name;rw[dT_ I];rw[dT_ I,Bool.true_or]at h;exact bA<|bc.now h;rw[dF_ I];rw[dF_ I,NS]at h;refine bq ?_;simp only[wg];walk_at"dl";intro _;refine aU (λd=>decide<|t5 d=t5 e) (λd=>.int<|EU d) (λS=>∃a,S=[a,a7<|t5 e]) trivial _ _ _ ?_ ⟨_,rfl⟩ (by rw[C8];exact am<|by lia) ?_;rintro d A S ⟨a,rfl⟩;obtain⟨t,z,k,n,x,ds,rfl,_⟩:=l.dk d A;refine⟨[a7<|.tup [.int t,.tup [.str z,.int k],.int n,.tup<|.str x::ds],a7<|t5 e],⟨_,rfl⟩,λY Z Q=>?_⟩;walk_at"dl";have F:St (.tup [.int t,.tup [.str z,.int k]]):=⟨_,_,_,rfl⟩
 refine⟨am (by lia),⟨F.ok,c.ok⟩,?_⟩;rw[show t9=28+2 from rfl,F.eq c];exact Q;rw[G6,CN l.up L,List.map_singleton];refine⟨_,aw,?_⟩;rw[OU];replace g3:=ac (a:=MO.lst [D.int<|EU e]) g3;have pM:M <+: M++[MO.lst [D.int<|EU e]]:=dH;generalize M++[MO.lst [D.int<|EU e]]=B at g3 pM;obtain⟨t,z,k,n,r,u,s,V,_⟩:=fY (l.dk e L) ke;have e1:t5 e=.tup [.int t,.tup [.str z,.int k]]:=by rw[V];rfl
 have e2:Hj e=.tup [.str z,.int k]:=by rw[V];rfl
 rw[e2]at h;simp only[wf];walk_at"dl";refine⟨_,.inl g3,λ_=>?_⟩;rw[e1];generalize EU e=n at nn h;refine aY (λi S O=>∃a b,B <+: O/\((fR log name).take i).any (Ol (aB e) (.tup [.str z,.int k]) n)=bt/\S=[a7<|.tup log,a7<|.str name,a7<|.tup [.tup [.int t,.tup [.str z,.int k]],.str<|aB e,aW e,.str<|aR e,v,f],a7<|.ref q3,a7<|.ref q4,a7<|.tup [.int t,.tup [.str z,.int k]],a7<|.int n,a,b]) ?_ ?_ ⟨_,_,List.prefix_refl _,rfl,rfl⟩;rintro S O ⟨a,b,o,N,rfl⟩;rw[L7]at N;rw[N]at h;refine⟨.inl<|aG o g3,?_⟩;simp only[we];walk_at"dl";exact bc.bl h<|pM.trans o;rintro i y S O hy ⟨a,b,o,N,rfl⟩ G W;have et:(fR log name).take (i+1)=(fR log name).take i++[y]:=by rw[Mo,hy];rfl
 have A:=F0 hy;have g:Ol (aB e) (.tup [.str z,.int k]) n y=a9->R (.bl a9) M:=λq=>by rw[LH.mpr ⟨y,A,q⟩]at h;exact h
 have C:Ol (aB e) (.tup [.str z,.int k]) n y=bt->((fR log name).take<|i+1).any (Ol (aB e) (.tup [.str z,.int k]) n)=bt:=λq=>by rw[et,List.any_append,N,Pc,q];rfl
 obtain⟨r',hs,rfl,v1,v2,v3⟩:=vo y A;have ei:Ol (aB e) (.tup [.str z,.int k]) n (.tup [.str r',.tup<|kj hs])=(decide (r'=aB e)&&cw hs (.tup [.str z,.int k]) n):=by show (decide (r'=aB e)&&cw (Cd<|.tup<|kj hs) (.tup [.str z,.int k]) n)=_;rw[vN]
 rw[ei]at g C;obtain⟨E,q1,q2⟩:=xD (h:=.tup [.str z,.int k]) v3 nn;refine⟨.inl<|aG o g3,?_⟩;walk_at"dl";refine⟨trivial,⟨ao,ao⟩,?_⟩;rw[aM];by_cases J:r'=aB e;rw[beq_iff_eq.mpr J];rw[dT_ J,Pb,q2]at g C;refine bA ⟨hs.map λp=>(p.1,.int p.2),by unfold kj;rw[E8];rfl,λp hp=>?_,by rw[u6];lia,⟨_,ae⟩,_,ae,rfl,?_⟩;obtain⟨w,T,rfl⟩:=v8.mp hp;obtain⟨x,y,P⟩:=v1 w T;dsimp only;rw[P];exact⟨rfl,rfl⟩;rw[q1];by_cases K:E > n;rw[dT_ K]at g;show if decide (n<E)=a9 then _ else _
 rw[dT_<|show n<E from K];exact bA<|bc.bl (g rfl)<|(pM.trans o).trans dH;rw[dF_ K]at C;show if decide (n<E)=a9 then _ else _
 rw[dF_<|show ¬n<E from K];exact bq<|z6.now<|W _ _ ⟨_,_,o.trans dH,C rfl,rfl⟩;rw[beq_eq_false_iff_ne.mpr J];rw[dF_ J]at C;exact bq<|z6.now<|W _ _ ⟨_,_,o,C rfl,rfl⟩
theorem Go(T:Tops P w K mg base):u9 P w K mg base 1 "_law_read" Ac qH:=u9.byD (N:=["_law_log_here","_law_name_here","_law_message","_law_vectors","_law_seen","_law_stamp","_law_number","_law_room","_law_vector_here"]) T.b T.f_read (by walk_at"sc") Dk (by walk_at"dv") Fu
def EC(l n:List Nat):Prop:=∃i,l[i]?=a7 64/\(l.drop<|i+1).take n.length=n/\∀c,l[i+1+n.length]?=a7 c->Az c=bt
theorem yF(t n:c6):gB t n=a9↔t.cps.toList.take n.cps.toList.length=n.cps.toList/\∀c,t.cps.toList[n.cps.toList.length]?=a7 c->Az c=bt:=by
 unfold gB;rw[zF,D3,o6,Pm,<-cf];refine and_congr Iff.rfl ?_;have e:(K5 t (a7 (n.length:Int))<|a7<|(n.length:Int)+1).cps.toList=(t.cps.toList.drop n.length).take 1:=by have:=jE t (a:=n.length) (b:=n.length+1) (by lia);rw[show ((n.length+1:Nat):Int)=(n.length:Int)+1 by lia,show n.length+1-n.length=1 by lia]at this;exact this
 cases q:t.cps.toList[n.length]? with
 |none=>rw[Qy<|List.getElem?_eq_none_iff.mp q]at e;rw[oi _<|by rw[e];rfl];simp
 |some c=>obtain⟨g,f⟩:=x5.mp q;rw[QG g,f]at e;have:K5 t (a7 (n.length:Int)) (a7<|(n.length:Int)+1)=⟨#[c]⟩:=kq (by rw[e];rfl);rw[this,qr];simp
theorem Ap(s n:c6)(G:eD n):(∃y,y∈(J0 s "@").drop 1/\gB y n=a9)↔EC s.cps.toList n.cps.toList:=by
 have w:("@":c6)=⟨#[64]⟩:=rfl;have a:∀k,n.cps.toList[k]?≠a7 64:=λk e=>by have:=G 64<|F0 e;lia
 generalize p:s.cps.toList=l;generalize E:n.cps.toList=m at a;have o:∀i j:Nat,i<j->j<=l.length->(j=l.length\/l[j]?=a7 64)->(∀k,i<k->k<j->l[k]?≠a7 64) -> (gB (Builtin.Str.strSub s (i+1) j) n=a9↔(l.drop<|i+1).take m.length=m/\∀c,l[i+1+m.length]?=a7 c->Az c=bt):=by
  intro i j A L d x;rw[yF,StrLaws.strSub_toList,p,E,List.take_take];have B:∀k,((l.drop<|i+1).take<|j-(i+1))[k]?=if k<j-(i+1)then l[i+1+k]? else a8:=λk=>by rw[Qm];split;rw[NE];rfl
  have b:(l.drop<|i+1).take m.length=m->i+1+m.length<=j:=λe=>by
   refine M9 λD=>?_;have g:m[j-(i+1)]?=l[j]?:=by rw[<-e,Qm,o0 (by lia),NE];congr 1;lia
   rcases d with z|z;have Q:=p7 K6 e;rw[G0,Mn]at Q;lia;rw[z]at g;exact a _ g
  constructor;rintro⟨e1,g⟩;have t:m.length<=j-(i+1):=by have:=p7 K6 e1;rw[G0]at this;lia
  rw[Ph t]at e1;refine⟨e1,λc f=>?_⟩;by_cases q:m.length<j-(i+1);exact g c (by rw[B,o0 q];exact f);have:i+1+m.length=j:=by lia
  rw[this]at f;rcases d with z|z;rw[M8<|by lia]at f;cases f;rw[z]at f;cases f;rfl;rintro⟨e1,g⟩;have t:=b e1;rw[Ph<|by lia];refine⟨e1,λc f=>?_⟩;rw[B]at f;split at f;exact g c f;cases f
 unfold EC;rw[w];constructor;rintro⟨y,hy,hb⟩;obtain⟨k,i,j,h1,h2,rfl⟩:=(kt s 64 (by decide) y).mp hy;rw[p]at h1 h2;obtain⟨F,r,u,v⟩:=rT h1 h2;exact⟨i,eM.mp<|F0 h1,(o i j F r u v).mp hb⟩;rintro⟨i,h1,h2⟩;obtain⟨k,C,e⟩:=Pv<|eM.mpr h1;have h:(bY l 64)[k]?=a7 i:=by rw[x3 C,e]
 obtain⟨j,L⟩:∃j,(bY l 64++[l.length])[k+1]?=a7 j:=⟨_,x3<|by rw[A1];simp;lia⟩
 obtain⟨F,r,u,v⟩:=rT h L;exact⟨_,(kt s 64 (by decide) _).mpr ⟨k,i,j,by rw[p];exact h,by rw[p];exact L,rfl⟩,(o i j F r u v).mpr h2⟩
theorem BK(c:Nat):decide (c∈(AA0 "abcdefghijklmnopqrstuvwxyz").cps.toList)=Az c:=by
 have g:(AA0 "abcdefghijklmnopqrstuvwxyz").cps.toList=(A7 26).map (· + 97):=by decide +kernel
 rw[g,Nx];unfold Az;simp only[v8,G4,o6,D3];constructor;rintro⟨a,ha,rfl⟩;lia;rintro⟨h1,h2⟩;exact⟨c-97,by lia,by lia⟩
def fL:w6:=λds M R=>∃s n:c6,ds=[.str s,.str n]/\s.length<=100/\n.length<=100/\eD n/\R (.bl<|cL (.str s) n) M
theorem sR:cI fL kB:=by rintro ds M R ⟨t,n,rfl,_⟩;rfl
theorem xX(f:eD n):cL (.str s) n=a9↔EC s.cps.toList n.cps.toList:=by rw[<-Ap s n f];show ((J0 s<|AA0 "@").drop 1).any (λy=>begB y n)=a9↔_;rw[LH];exact Iff.rfl
def kR:s9:=bp<|dC<|.bl bt
def kT:s9:=A0 (Mh (aq<|r9 A2 (ab 3)<|dC<|.str "")<|aq<|r9 lh (ab 3)<|dC<|.str "abcdefghijklmnopqrstuvwxyz") (bp<|dC<|.bl a9) aX
def oP:s9:=ax (lC (dZ<|aa (t6 lJ<|aa (ab 0) af) af) (ah 2)<|A0 (vE (aq<|r9 A2 (r9 u7 (ab 0)<|ab 2)<|dC<|.str "@")<|aq<|r9 A2 (Mg (ab 0) (gx<|r9 bn (ab 2)<|dC<|.int 1)<|gx<|r9 bn (r9 bn (ab 2)<|dC<|.int 1)<|t6 lJ<|aa (ab 1) af)<|ab 1) (ax (bb (Mg (ab 0) (gx<|r9 bn (r9 bn (ab 2)<|dC<|.int 1)<|t6 lJ<|aa (ab 1) af)<|gx<|r9 bn (r9 bn (ab 2)<|dC<|.int 2)<|t6 lJ<|aa (ab 1) af) 3)<|kT) aX)<|kR
theorem uf:z5 fL 4 oP:=by
 rintro ds M R ⟨s,n,rfl,hs,H,F,h⟩;have I:=cf (a:=s);have J:=cf (a:=n);have h':∀b:Bool,(b=a9↔EC s.cps.toList n.cps.toList)->R (.bl b) M:=λb E=>by rw[show b=cL (.str s) n from Bool.eq_iff_iff.mpr<|E.trans (xX F).symm];exact h
 simp only[oP];walk_at"dl";refine⟨am (by lia),⟨by lia,by lia⟩,?_⟩;refine aY (λi S d=>d=M/\(∃a b,S=[a7<|.str s,a7<|.str n,a,b])/\∀j,j<i->¬(s.cps.toList[j]?=a7 64/\(s.cps.toList.drop<|j+1).take n.cps.toList.length=n.cps.toList/\∀c,s.cps.toList[j+1+n.cps.toList.length]?=a7 c->Az c=bt)) ?_ ?_ ⟨rfl,⟨_,_,rfl⟩,λj L=>o5 L<|MY _⟩;rintro S d ⟨rfl,⟨a,b,rfl⟩,o⟩;refine⟨trivial,?_⟩;simp only[kR];walk_at"dl";rw[fg]at o;refine bc.now<|h' bt ⟨(λz=>by cases z),?_⟩;rintro⟨i,h1,h2⟩;exact o5 ⟨h1,h2⟩<|o i (by have:=(x5.mp h1).1;lia);rintro i y S d O ⟨rfl,⟨a,b,rfl⟩,o⟩ G C;obtain⟨hi,rfl⟩:=fh.mp O;refine⟨trivial,?_⟩;walk_at"dl";simp only[Int.zero_add];have m:∀{x:Option D},¬(s.cps.toList[i]?=a7 64/\(s.cps.toList.drop<|i+1).take n.cps.toList.length=n.cps.toList/\∀c,s.cps.toList[i+1+n.cps.toList.length]?=a7 c->Az c=bt) -> z6 d G [a7<|D.str s,a7<|D.str n,a7<|D.int i,x] d:=λ{x} f=>z6.now (C _ _ ⟨rfl,⟨_,_,rfl⟩,λj L=>by
  rcases Md j i with q|q;exact o j q;have:j=i:=by lia
  subst this;exact f⟩)
 have g:(s.cps.toList[i]?=a7 64/\(s.cps.toList.drop<|i+1).take n.cps.toList.length=n.cps.toList/\∀c,s.cps.toList[i+1+n.cps.toList.length]?=a7 c->Az c=bt)->bc d R (D.bl a9) d:=λf =>
  bc.now (h' a9 ⟨λ_=>⟨i,f⟩,λ_=>rfl⟩)
 have r:i<s.cps.toList.length:=by lia
 have u:s.cps.toList[i]?=a7 s.cps.toList[i]:=x3 r;refine⟨am (by lia),?_⟩;rw[aF u];refine⟨⟨rfl,rfl⟩,?_⟩;generalize s.cps.toList[i]=c at u;have k:(K5 s (a7<|(i:Int)+1)<|a7<|(i:Int)+1+(n.length:Int)).cps.toList=(s.cps.toList.drop<|i+1).take n.cps.toList.length:=by have:=jE s (a:=i+1) (b:=i+1+n.length) (by lia);rw[show ((i+1+n.length:Nat):Int)=(i:Int)+1+(n.length:Int) by lia,show ((i+1:Nat):Int)=(i:Int)+1 by lia,show i+1+n.length-(i+1)=n.cps.toList.length by lia]at this;exact this
 have e:(K5 s (a7<|(i:Int)+1+(n.length:Int))<|a7<|(i:Int)+2+(n.length:Int)).cps.toList=(s.cps.toList.drop<|i+1+n.cps.toList.length).take 1:=by have:=jE s (a:=i+1+n.length) (b:=i+2+n.length) (by lia);rw[show ((i+1+n.length:Nat):Int)=(i:Int)+1+(n.length:Int) by lia,show ((i+2+n.length:Nat):Int)=(i:Int)+2+(n.length:Int) by lia,show i+2+n.length-(i+1+n.length)=1 by lia]at this;rw[<-J];exact this
 by_cases f:c=64;subst f;rw[show t8 d t9 (D.str ⟨#[64]⟩) (D.str<|AA0 "@")=a9 from rfl];refine bA ⟨am (by lia),am (by lia),⟨rfl,rfl⟩,?_⟩;generalize K5 s (a7<|(i:Int)+1) (a7<|(i:Int)+1+(n.length:Int))=z at k;by_cases v:z=n;subst v;rw[show t8 d t9 (D.str z) (D.str z)=a9 by simp[t8]];refine bA ⟨am (by lia),am (by lia),am (by lia),?_⟩;generalize K5 s (a7<|(i:Int)+1+(z.length:Int)) (a7<|(i:Int)+2+(z.length:Int))=w at e;simp only[kT];walk_at"dl";refine⟨⟨ao,ao⟩,?_⟩;rw[aM];cases l:s.cps.toList[i+1+z.cps.toList.length]? with
 |none=>rw[Qy<|List.getElem?_eq_none_iff.mp l]at e;have p:w=AA0 "":=kq (by rw[e];decide +kernel);rw[beq_iff_eq.mpr p];exact bA<|g ⟨u,k.symm,λc f=>by rw[l]at f;cases f⟩
 |some c =>
  obtain⟨t,f⟩:=x5.mp l;rw[QG t,f]at e;have p:w=⟨#[c]⟩:=kq e;rw[p,beq_eq_false_iff_ne.mpr (λz=>by have:=p7 (λx:c6=>x.cps.toList) z;cases this)];refine bq ?_;show if ((!(QA (AA0 "abcdefghijklmnopqrstuvwxyz") ⟨#[c]⟩ 0 (AA0 "abcdefghijklmnopqrstuvwxyz").length 1).isEmpty) != a9)=a9 then _ else _
  rw[StrLaws.found_one,BK];cases A:Az c with
  |true=>exact bq<|m λ⟨_,_,B⟩=>by rw[B c l]at A;cases A
  |false=>exact bA<|g ⟨u,k.symm,λU h'=>by rw[l]at h';cases h';exact A⟩
 rw[show t8 d t9 (D.str z) (D.str n)=bt by simp[t8,v]];refine bq<|m ?_;rintro⟨_,h2,_⟩;refine v<|kq ?_;rw[k];exact h2;rw[show t8 d t9 (D.str ⟨#[c]⟩) (D.str<|AA0 "@")=bt by have:(⟨#[c]⟩:c6)≠AA0 "@":=λz=>f (by have:=p7 (λx:c6=>x.cps.toList) z;exact(O9 this).1);simp[t8,this]];refine bq<|m ?_;rintro⟨h1,_⟩;rw[u]at h1;exact f<|A5 h1
theorem uK(T:Tops P w K mg base):u9 P w K mg base 1 "_law_names_in" kB fL:=u9.byD (N:=["_law_saying_here","_law_name_here","_law_at","_law_behind"]) T.b T.f_names_in (by walk_at"sc") sR (by walk_at"dv") uf
def xw:w6:=λds M R=>∃(ps:List (c6×Int)) (a:List (c6×List c6)) (log:List D) (n:c6) (e f:D) (s:c6) (hs:List D) (q k:Nat),ds=[.ref q,.tup [t5 e,.str<|aB e,aW e,.str<|aR e,.str s,f],.str n,.ref k]/\LogS ps a log/\ba (ak a log) (t5 e)=a7 e/\M[q]?=a7 (.dkt<|nT log)/\M[k]?=a7 (.lst hs)/\(∀w∈hs,eA w)/\(∀w,w∈hs↔ba (fE log n) w=a7 (.bl a9))/\s.length<=100/\n.length<=100/\eD n/\R (if cL (.str s) n=a9 then .str (AA0 "named")else if aW e∈lK (ak a log) n then .str (AA0 "answered")else if (bG log n (.tup [.str<|AA0 "room",.str<|aB e])||decide (t5 e∈bd (λs=>bG log n<|.tup [.str<|AA0 "under",s]) (ak a log)))=a9 then .non else .str (AA0 "heard")) M
theorem Gx:cI xw Ge:=by rintro ds M R ⟨ps,a,log,n,e,f,s,hs,q,k,rfl,_⟩;rfl
theorem yw{α:Type}{p:α->Bool}{x:α}:[x].filter p=if p x=a9 then[x]else[]:=by rw[MZ];rfl
theorem yB(g:∀d∈l,aW d=.non\/St (aW d))(S:∀d∈l,St<|t5 d)(h:MI l):ay rs l=(l.filter λd=>@decide (D9 rs l d)<|K8 _).map λd=>(t5 d,d):=by
 revert h g S;refine bD (P:=λl=>(∀d∈l,aW d=.non\/St (aW d))->(∀d∈l,St<|t5 d)->MI l->ay rs l=(l.filter λd=>@decide (D9 rs l d)<|K8 _).map λd=>(t5 d,d)) (λ_ _ _=>rfl) (λl x r g S h=>?_) l;obtain⟨h1,_,o⟩:=Qr.mp h;have c:∀y∈l,A4 t9 (t5 y)<A4 t9 (t5 x):=λy O=>o y O x (by simp);have b:=r (λd a=>g d<|LM _ a) (λd a=>S d<|LM _ a) h1;have i:=Bu (rs:=rs) g S h x (by simp);have n:t5 x∉(ay rs l).map (·.1):=λz=>by obtain⟨p,q,e⟩:=v8.mp z;obtain⟨t,k⟩:=(eW (rs:=rs) l).en p q;have:=c p.2 k;rw[<-t,e]at this;exact K7 _ this
 have A:(l.filter λd=>@decide (D9 rs (l++[x]) d)<|K8 _)=l.filter λd=>@decide (D9 rs l d) (K8 _):=List.filter_congr λd a=>(@decide_eq_decide _ _ (K8 _)<|K8 _).mpr ⟨λz=>z.less c a,D9.more⟩;rw[OD,G5,A,<-b,yw];rw[dB]at i ⊢;unfold uy at i ⊢;split at i;rename_i e;rw[jR]at i;rw[o0 e,pS n,@decide_eq_true _ (K8 _)<|i.mp rfl];rfl;rename_i e;have m:ba (ay rs l) (t5 x)=a8:=by
  cases j:ba (ay rs l) (t5 x) with
  |none=>rfl
  |some v=>exact o5 (LK (f:=(·.1))<|bx j) n
 rw[m]at i;rw[o4 e,@decide_eq_false _ (K8 _) λz=>by cases i.mpr z];exact(G7 _).symm
section
variable{ps:List (c6×Int)}{rs:List (c6×List c6)}{log:List D}
theorem LogS.es(g:LogS ps rs log):ak rs log=((kinds log<|AA0 "say").filter λd=>@decide (D9 rs (kinds log<|AA0 "say") d)<|K8 _).map λd=>(t5 d,d):=by
 have h:∀d∈kinds log (AA0 "say"),aJ ps rs d/\bB d=AA0 "say":=λd q=>⟨g.dk d (aH q).1,(aH q).2⟩
 refine yB (λd q=>?_) (λd q=>(h d q).1.st)<|Pw _ g.up;obtain⟨t,z,k,m,r,u,s,rfl,_,_,_,a⟩:=fY (h d q).1 (h d q).2;exact a
theorem LogS.mem(g:LogS ps rs log):e∈(ak rs log).map (·.2)↔D9 rs (kinds log<|AA0 "say") e:=by rw[g.es,E8];constructor;intro h;obtain⟨d,a,rfl⟩:=v8.mp h;exact @of_decide_eq_true _ (K8 _) (B9.mp a).2;intro h;exact v8.mpr ⟨e,B9.mpr ⟨h.mem,@decide_eq_true _ (K8 _) h⟩,rfl⟩
theorem LogS.get(g:LogS ps rs log):ba (ak rs log) k=a7 e↔k=t5 e/\D9 rs (kinds log<|AA0 "say") e:=by constructor;intro h;exact⟨(xj aO h).1,g.mem.mp (LK (f:=(·.2))<|bx h)⟩;rintro⟨rfl,h⟩;obtain⟨q,a,t⟩:=v8.mp<|g.mem.mpr h;obtain⟨h1,_⟩:=aO.en q a;have:=cS aO.nd a;rw[h1,t]at this;exact this
end
noncomputable def KQ(l:List D)(k:D):Nat:=(l.filter λx=>decide<|A4 t9 (t5 x)<A4 t9 k).length
theorem KP(a:x∈l)(h:A4 t9 (t5 x)<A4 t9 k):KQ l (t5 x)<KQ l k:=Bk (p:=λy=>decide<|A4 t9 (t5 y)<A4 t9 (t5 x)) (q:=λy=>decide<|A4 t9 (t5 y)<A4 t9 k) (x:=x) (λy O=>dT_<|List.lt_trans (oT_ O) h) (dT_ h) (dF_<|K7 _) a
theorem sZ(r:MI l)(S:∀d∈l,St<|t5 d):(∀p∈ay rs l,aW p.2=.non\/aW p.2∈(ay rs l).map (·.1))/\∀p∈ay rs l,(p.1∈bd H (ay rs l)↔H p.1=a9\/aW p.2∈bd H (ay rs l)):=by
 revert r S;refine bD (P:=λl=>MI l->(∀d∈l,St<|t5 d)->(∀p∈ay rs l,aW p.2=.non\/aW p.2∈(ay rs l).map (·.1))/\∀p∈ay rs l,(p.1∈bd H (ay rs l)↔H p.1=a9\/aW p.2∈bd H (ay rs l))) (λ_ _=>⟨(λ_ z=>nomatch z),(λ_ z=>nomatch z)⟩) (λl x B r S=>?_) l;obtain⟨h1,_,y⟩:=Qr.mp r;obtain⟨i,j⟩:=B h1 λd A=>S d<|LM _ A;have D:=eW (rs:=rs) l;have b:t5 x∉(ay rs l).map (·.1):=λz=>by obtain⟨p,h,e⟩:=v8.mp z;obtain⟨v,w⟩:=D.en p h;have:=y p.2 w x (by simp);rw[<-v,e]at this;exact K7 _ this
 have xs:t5 x≠.non:=λz=>by obtain⟨t,n,k,e⟩:=S x (by simp);rw[e]at z;cases z
 rw[dB];unfold uy;by_cases hs:ii rs (ay rs l) x=a9;have a:aW x=.non\/aW x∈(ay rs l).map (·.1):=by
  unfold ii at hs;rw[D3,Nw]at hs;rcases hs.2 with q|q;exact .inl<|oT_ q;cases o:ba (ay rs l) (aW x) with
  |none=>rw[o]at q;cases q
  |some e=>exact .inr (LK (f:=(·.1))<|bx o)
 rw[o0 hs,pS b];generalize ay rs l=K at i j b a;have s:∀u,(u=.non\/u∈K.map (·.1))->u≠t5 x:=λu g e=>by rcases g with g|g;exact xs<|e.symm.trans g;exact b<|e ▸ g
 have m:∀u,u≠t5 x->(u∈bd H (K++[(t5 x,x)])↔u∈bd H K):=λu g=>by rw[eQ];split;rw[D7,LJ];exact⟨λz=>z.resolve_right g,.inl⟩;exact Iff.rfl
 refine⟨λp h=>?_,λp h=>?_⟩;rw[G5,D7];rcases D7.mp h with h|h;exact(i p h).imp id .inl;rw[LJ.mp h];exact a.imp id .inl;rcases D7.mp h with h|h;rw[m p.1 λe=>b (e ▸ LK (f:=(·.1)) h),m _<|s _<|i p h];exact j p h;rw[LJ.mp h];show t5 x∈_↔H (t5 x)=a9\/aW x∈_;rw[m _<|s _ a,eQ];have C:t5 x∉bd H K:=λz=>b<|jQ _ z;by_cases c:(H (t5 x)||decide (aW x∈bd H K))=a9;rw[o0 c];rw[Nw,o7]at c;exact⟨λ_=>c,λ_=>by simp⟩;rw[o4 c];rw[Nw,o7]at c;exact⟨λz=>o5 z C,λz=>o5 z c⟩;rw[o4 hs];exact⟨i,j⟩
theorem LogS.hush(g:LogS ps rs log)(S:ba (ak rs log) (t5 e)=a7 e):t5 e∈bd H (ak rs log)↔H (t5 e)=a9\/aW e∈bd H (ak rs log):=(sZ (H:=H) (Pw _ g.up) λd h=>(g.dk d (aH h).1).st).2 (t5 e,e)<|bx S
theorem wL(g:LogS ps rs log)(S:ba (ak rs log) (t5 e)=a7 e):∃(t:Int) (z:c6) (k:Int) (s:D),t5 e=.tup [.int t,.tup [.str z,.int k]]/\aR e=z/\ba (nT log) (t5 e)=a7 (.tup [.str<|AA0 "say",.str<|aB e,aW e,s])/\(aW e=.non\/St (aW e)):=by obtain⟨_,hs⟩:=g.get.mp S;obtain⟨V,W⟩:=aH hs.mem;have a:=Cs (Pw _ g.up) e hs.mem;obtain⟨t,z,k,m,r,u,s,rfl,_,_,_,h⟩:=fY (g.dk e V) W;exact⟨t,z,k,.str s,rfl,rfl,a,h⟩
theorem Af:x∈lK kvs name↔x∈kvs.map (·.1)/\aR ((ba kvs x).getD .non)=name:=by unfold lK;rw[B9,o7]
theorem AZ(h:D9 rs l e)(g:∀(H:D->Bool) (e:D),D9 rs l e->(t5 e∈bd H (ay rs l)↔H (t5 e)=a9\/aW e∈bd H (ay rs l)))(R:∀H:D->Bool,D.non∉bd H (ay rs l)):t5 e∈bd H (ay rs l)↔∃s,H s=a9/\t5 e∈bd (λx=>decide<|x=s) (ay rs l):=by
 induction h with
 |@top d h m u=>have hs:D9 rs l d:=.top h m u;rw[g _ _ hs,u];constructor;rintro(z|z);exact⟨_,z,(g _ _ hs).mpr<|.inl<|dT_ rfl⟩;exact o5 z<|R _;rintro⟨s,z,y⟩;rcases(g _ _ hs).mp y with y|y;exact .inl<|oT_ y ▸ z;rw[u]at y;exact o5 y<|R _
 |@sub d e h m s u o r i=>have hs:D9 rs l d:=.sub h m s u o r;rw[g _ _ hs,u,i];constructor;rintro(z|⟨x,z,y⟩);exact⟨_,z,(g _ _ hs).mpr<|.inl<|dT_ rfl⟩;exact⟨x,z,(g _ _ hs).mpr<|.inr<|u ▸ y⟩;rintro⟨x,z,y⟩;rcases(g _ _ hs).mp y with y|y;exact .inl<|oT_ y ▸ z;exact .inr ⟨x,z,u ▸ y⟩
theorem LogS.nonF(g:LogS ps rs log)(H:D->Bool):D.non∉bd H (ak rs log):=λz=>by obtain⟨p,h,d⟩:=v8.mp<|jQ _ z;obtain⟨c,j⟩:=aO.en p h;obtain⟨t,n,k,R⟩:=(g.dk p.2 (aH j).1).st;rw[<-c,d]at R;cases R
theorem LogS.any(g:LogS ps rs log)(S:ba (ak rs log) (t5 e)=a7 e):t5 e∈bd H (ak rs log)↔∃s,H s=a9/\t5 e∈bd (λx=>decide<|x=s) (ak rs log):=AZ (g.get.mp S).2 (λH e i=>g.hush<|g.get.mpr ⟨rfl,i⟩) g.nonF
theorem LogS.own(g:LogS ps rs log)(S:ba (ak rs log) (t5 e)=a7 e):(aW e=.non/\aW e∉lK (ak rs log) name)\/∃(t:Int) (z:c6) (k:Int),aW e=.tup [.int t,.tup [.str z,.int k]]/\(aW e∈lK (ak rs log) name↔z=name):=by have c:=(sZ (rs:=rs) (H:=λ_=>bt) (Pw _ g.up) λd f=>(g.dk d (aH f).1).st).1 (t5 e,e)<|bx S;have c:aW e=.non\/aW e∈(ak rs log).map (·.1):=c;rcases c with z|z;refine .inl ⟨z,λy=>?_⟩;rw[z,Af]at y;obtain⟨p,h,a⟩:=v8.mp y.1;obtain⟨q,j⟩:=aO.en p h;obtain⟨t,n,k,R⟩:=(g.dk p.2 (aH j).1).st;rw[<-q,a]at R;cases R;obtain⟨p,h,a⟩:=v8.mp z;obtain⟨q,j⟩:=aO.en p h;have b:=cS aO.nd h;obtain⟨t,n,k,m,x,ds,R,_⟩:=g.dk p.2 (aH j).1;refine .inr ⟨t,n,k,by rw[<-a,q,R];rfl,?_⟩;rw[Af,<-a,b,R];exact⟨λy=>y.2,λy=>⟨a ▸ z,y⟩⟩
def yV:s9:=bp<|dC<|.str "heard"
def uk:s9:=ax (A0 (Mh (aq<|r9 LP (eG<|aa (dC<|.str "room")<|aa (ab 5) af)<|ab 3)<|aq<|r9 NJ (E5 1 [3] (bV<|ab 10) (ah 0) (aq<|r9 LP (eG<|aa (dC<|.str "under")<|aa (ab 0) af)<|ab 1)<|ab 0)<|ko af) (bp<|dC .non) aX)<|yV
def yW:s9:=ax (xp (aq<|r9 lp (r9 u7 (lT (ab 0)<|r9 u7 (ab 10)<|OR Il<|dC<|.int 1)<|dC<|.int 2)<|dC .non)<|fI<|K2 bC (ab 10)<|aa (r9 u7 (lT (ab 0)<|r9 u7 (ab 10)<|OR Il<|dC<|.int 1)<|dC<|.int 2) af)<|uk
def um:s9:=ax (bb (ko<|aa (ab 4) af) 10)<|yW
def yX:s9:=ax (A0 (vE (aq<|r9 lp (ab 6)<|dC .non)<|aq<|r9 A2 (r9 u7 (r9 u7 (ab 6)<|dC<|.int 1)<|dC<|.int 0)<|ab 2) (bp<|dC<|.str "answered") aX)<|um
def yY:s9:=ax (A0 (aq<|t6 fL<|aa (ab 8)<|aa (ab 2) af) (bp<|dC<|.str "named") aX)<|yX
def II:s9:=ax (Iu (ab 1)<|jV 6<|aT (ah 4)<|aT (ah 5)<|aT (ah 6)<|aT (ah 7)<|aT (ah 8)<|aT (ah 9) jW)<|yY
theorem Iz:z5 xw 11 II:=by
 rintro ds M R ⟨ps,d,log,name,e,f,s,hs,q0,U,rfl,j,W,h0,h3,X,hy,sl,nl,sn,h⟩;have aD:=j.len;have kl:=bh (log:=log) (k:=AA0 "say");have Q:∀w,decide (w∈hs)=bG log name w:=λw=>decide_eq_decide.mpr<|hy w;have as:St (t5 e):=by obtain⟨t,z,k,_,es,_⟩:=wL j W;exact⟨t,z,k,es⟩
 simp only[II];walk_at"dl";refine⟨trivial,?_⟩;simp only[yY];walk_at"dl";refine⟨s,name,rfl,sl,nl,sn,?_⟩;cases c1:cL (.str s) name with
 |true=>rw[c1,o0 rfl]at h;exact bA<|bc.now h
 |false =>
 rw[c1,o4<|by decide]at h;refine bq ?_;have v:∀{E:DEnds},E.rt=bc M R->aW e∉lK (ak d log) name->um E [a7<|.ref q0,a7<|.tup [t5 e,.str<|aB e,aW e,.str<|aR e,.str s,f],a7<|.str name,a7<|.ref U,a7<|t5 e,a7<|.str<|aB e,a7<|aW e,a7<|.str<|aR e,a7<|.str s,a7 f,a8] M:=λ{E} eE I=>by
  rw[o4 I]at h;simp only[um];walk_at"dl";refine⟨am (by lia),?_⟩;have K:∀{ys:List D},(∀x∈ys,St x)->(∀s,s∈ys↔t5 e∈bd (λx=>decide<|x=s) (ak d log))->ys.length<=100->uk E [a7<|.ref q0,a7<|.tup [t5 e,.str<|aB e,aW e,.str<|aR e,.str s,f],a7<|.str name,a7<|.ref U,a7<|t5 e,a7<|.str<|aB e,a7<|aW e,a7<|.str<|aR e,a7<|.str s,a7 f,a7<|.ref M.length] (M++[.lst ys]):=λ{ys} i hi yl=>by
   have O:eA (.tup [.str<|AA0 "room",.str<|aB e]):=.inl ⟨_,rfl⟩;have A:=ac (a:=MO.lst ys) h3;have gy:(M++[MO.lst ys])[M.length]?=a7 (.lst ys):=ae;have pM:M <+: M++[MO.lst ys]:=dH;generalize M++[MO.lst ys]=B at A gy pM;simp only[uk];walk_at"dl";refine⟨am (by lia),_,.inl A,⟨(lq 3 t9 _ (by decide) O.pl).1,gI X⟩,?_⟩;rw[gP O X,Q];cases c3:bG log name (.tup [.str<|AA0 "room",.str<|aB e]) with
   |true=>rw[c3,Bool.true_or,o0 rfl]at h;show E.rt .non B;rw[eE];exact bc.non h pM
   |false =>
    rw[c3,NS]at h;show ∃xs,ar B M.length xs/\_;refine⟨_,.inl gy,λ_=>?_⟩;refine aU (λx=>bG log name<|.tup [.str<|AA0 "under",x]) id (λS=>∃a,S=[a,a7<|.ref U]) (.inl gy) _ _ _ ?_ ⟨_,rfl⟩ (by rw[C8];exact am<|by lia) ?_;rintro x c S ⟨a,rfl⟩;refine⟨[a7 x,a7<|.ref U],⟨_,rfl⟩,λY Z p=>?_⟩;obtain⟨t,z,k,rfl⟩:=i x c;have P:eA (.tup [.str<|AA0 "under",.tup [.int t,.tup [.str z,.int k]]]):=.inr<|.inr ⟨_,_,_,rfl⟩;walk_at"dl";refine⟨am (by lia),_,.inl A,⟨(lq 3 t9 _ (by decide) P.pl).1,gI X⟩,?_⟩;rw[gP P X,Q];cases hb:bG log name (.tup [.str<|AA0 "under",.tup [.int t,.tup [.str z,.int k]]]) with
    |true=>rw[hb]at p;exact p
    |false=>rw[hb]at p;exact p
    rw[G6,MU];have hm:=j.any (H:=λs=>bG log name<|.tup [.str<|AA0 "under",s]) W;have T:∀{B:t7},∀x∈ys.filter (λx=>bG log name<|.tup [.str<|AA0 "under",x]),u8 B 29 x=a9:=λ{B} x c=>by obtain⟨t,z,k,rfl⟩:=i x (B9.mp c).1;rfl
    have J:(ys.filter<|λx=>bG log name<|.tup [.str<|AA0 "under",x]).isEmpty = !decide (t5 e∈bd (λs=>bG log name<|.tup [.str<|AA0 "under",s]) (ak d log)):=by rw[Nx,List.isEmpty_iff,List.filter_eq_nil_iff,Pm,decide_eq_false_iff_not,hm];constructor;rintro q ⟨s,q1,q2⟩;exact q s ((hi s).mpr q2) q1;exact λq s hs q1=>q ⟨s,q1,(hi s).mp hs⟩
    generalize ys.filter (λx=>bG log name<|.tup [.str<|AA0 "under",x])=F at T J;have gF:(B++[MO.lst F])[B.length]?=a7 (.lst F):=ae;replace pM:=pM.trans<|dH (mo:=MO.lst F);generalize B++[MO.lst F]=B' at gF pM;generalize B.length=qF at gF;obtain⟨an,en⟩:=lY (M:=B') (.inl gF) T;refine⟨z8 _,an,?_⟩;rw[en,J,Bool.not_not];cases c4:decide (t5 e∈bd (λs=>bG log name<|.tup [.str<|AA0 "under",s]) (ak d log)) with
    |true=>rw[c4,o0 rfl]at h;rw[eE];exact bA<|bc.non h<|pM.trans dH
    |false=>rw[c4,o4<|by decide]at h;refine bq ?_;simp only[yV];walk_at"dl";rw[eE];exact bc.str h<|pM.trans dH
  simp only[yW];walk_at"dl";refine⟨λm S M'=>∃(ys:List D) (b:D),M'=M++[.lst<|ys++[t5 b]]/\ba (ak d log) (t5 b)=a7 b/\(∀x∈ys,St x)/\ys.length+KQ (kinds log<|AA0 "say") (t5 b)<=60/\KQ (kinds log<|AA0 "say") (t5 b)<m/\(∀s,t5 e∈bd (λx=>decide<|x=s) (ak d log)↔s∈ys\/t5 b∈bd (λx=>decide<|x=s) (ak d log))/\S=[a7<|.ref q0,a7<|.tup [t5 e,.str<|aB e,aW e,.str<|aR e,.str s,f],a7<|.str name,a7<|.ref U,a7<|t5 e,a7<|.str<|aB e,a7<|aW e,a7<|.str<|aR e,a7<|.str s,a7 f,a7<|.ref M.length],⟨_,[],e,rfl,W,(λ_ z=>nomatch z),?_,LI _,λs=>⟨.inr,λz=>z.resolve_left<|λy=>nomatch y⟩,rfl⟩,?_⟩;have:KQ (kinds log<|AA0 "say") (t5 e)<=(kinds log<|AA0 "say").length:=LN _ _;rw[C8];lia;rintro m S M' ⟨ys,b,rfl,C,i,yl,J,hi,rfl⟩;obtain⟨t,z,k,s',es,_,ha,hu⟩:=wL j C;have L:(M++[MO.lst<|ys++[t5 b]])[M.length]?=a7 (.lst<|ys++[t5 b]):=ae;have el:atI (ys++[t5 b]) (-1)=a7 (t5 b):=Ey _ _;have G:=ac (a:=MO.lst<|ys++[t5 b]) h0;have go:∀s,t5 b∈bd (λx=>decide<|x=s) (ak d log)↔t5 b=s\/aW b∈bd (λx=>decide<|x=s) (ak d log):=λs=>by rw[j.hush C,o7]
  rw[es]at ha el L G;have e2:atI [.str<|AA0 "say",.str<|aB b,aW b,s'] 2=a7 (aW b):=NK;rw[es];walk_at"dl";refine⟨_,.inl L,?_⟩;rw[el];dsimp only;refine⟨_,_,G,rfl,ha,?_⟩;dsimp only;rw[e2];obtain⟨_,N⟩:=j.get.mp C;cases N with
  |top m1 m2 u=>rw[u];walk_at"dl";refine K (λx c=>?_) (λs=>?_) (by rw[A1,K0];lia);rcases D7.mp c with c|c;exact i x c;rw[LJ.mp c];exact⟨_,_,_,rfl⟩;rw[hi s,go s,D7,LJ,u,es];exact⟨λz=>z.imp id λz=>.inl z.symm,λz=>z.imp id λz=>z.elim (λz=>z.symm) λz=>o5 z<|j.nonF _⟩
  |@sub _ g m1 m2 s2 u o r =>
   have aj:ba (ak d log) (t5 g)=a7 g:=j.get.mpr ⟨rfl,s2⟩;have lt:=KP (l:=kinds log<|AA0 "say") s2.mem o;have al:St (aW b):=hu.resolve_left λz=>by obtain⟨t,n,k,e3⟩:=(j.dk g (aH s2.mem).1).st;rw[z,e3]at u;cases u
   obtain⟨t',z',k',e5⟩:=al;have ai:∀s,t5 e∈bd (λx=>decide<|x=s) (ak d log)↔s∈ys++[.tup [.int t,.tup [.str z,.int k]]]\/t5 g∈bd (λx=>decide<|x=s) (ak d log):=λs=>by rw[hi s,go s,u,D7,LJ,es];constructor;rintro(z|z|z);exact .inl<|.inl z;exact .inl<|.inr z.symm;exact .inr z;rintro((z|z)|z);exact .inl z;exact .inr<|.inl z.symm;exact .inr<|.inr z
   rw[e5];walk_at"dl";refine⟨⟨_,.inl L⟩,_,.inl L,?_⟩;rw[el];dsimp only;refine⟨_,_,G,rfl,ha,?_⟩;dsimp only;rw[e2,e5];dsimp only;refine⟨_,L,aA (by rw[A1,K0];lia),?_⟩;rw[iA];rw[es]at yl J lt;refine⟨_,J,ys++[.tup [.int t,.tup [.str z,.int k]]],g,by rw[<-u,e5],aj,λx c=>?_,by rw[A1,K0];lia,lt,ai,trivial⟩;rcases D7.mp c with c|c;exact i x c;rw[LJ.mp c];exact⟨_,_,_,rfl⟩
 simp only[yX];rcases j.own (name:=name) W with⟨V,u1⟩|⟨t,z,k,V,u1⟩
 rw[V]at v ⊢;walk_at"dl";exact v rfl<|V ▸ u1;rw[V]at v ⊢;walk_at"dl";refine⟨⟨ao,ao⟩,?_⟩;rw[aM];by_cases I:z=name;rw[beq_iff_eq.mpr I];rw[o0<|u1.mpr I]at h;exact bA<|bc.now h;rw[beq_eq_false_iff_ne.mpr I];exact bq<|v rfl λy=>I<|u1.mp<|V ▸ y
theorem JG(T:Tops P w K mg base):u9 P w K mg base 2 "_law_why" Ge xw:=u9.byD (N:=["_law_said_here","_law_message","_law_name_here","_law_hushed","_law_stamp","_law_room","_law_under","_law_writer","_law_saying_here","_law_changed","_law_chain"]) T.b T.f_why (by walk_at"sc") Gx (by have:=uK T;walk_at"dv") Iz
def dP:w6:=λds M R=>∃(ps:List (c6×Int)) (a:List (c6×List c6)) (log:List D) (e:c6) (k:Nat),ds=[aI ps a,.tup log,.str e,.ref k]/\HouseF ps a/\LogS ps a log/\M[k]?=a7 (.lst<|bH a log)/\e.length<=100/\eD e/\R (.ref M.length) (M++[.lst<|ka a log e])
theorem qo:cI dP iK:=by rintro ds M R ⟨ps,a,log,e,k,rfl,_⟩;rfl
noncomputable def tX(c p j M q:Bool)(s:D):Option D:=if (c && !p)=a9 then(if j=a9 then a7 (.tup [s,.str<|AA0 "named"])else if M=a9 then a7 (.tup [s,.str<|AA0 "answered"])else if q=a9 then a8 else a7 (.tup [s,.str<|AA0 "heard"]))else a8
section
variable{rs:List (c6×List c6)}{log:List D}{d e s:D}{name:c6}
noncomputable def cB(rs:List (c6×List c6))(log:List D)(name:c6)(e:D):Bool:=decide (aB e∈dG rs name) && !decide (t5 e∈bj log (AA0 "rung") name)
noncomputable def qB(rs:List (c6×List c6))(log:List D)(name:c6)(e:D):Bool:=bG log name (.tup [.str<|AA0 "room",.str<|aB e])||decide (t5 e∈bd (λs=>bG log name<|.tup [.str<|AA0 "under",s]) (ak rs log))
theorem BG:lU rs log name e=tX (cB rs log name e) (bG log name<|.tup [.str<|AA0 "person",.str<|aR e]) (cL (IX rs log e) name) (decide<|aW e∈lK (ak rs log) name) (qB rs log name e) (t5 e):=by unfold lU zM Ca tX cB;have o:(bG log name (.tup [.str<|AA0 "room",.str<|aB e])||decide (t5 e∈bd (λs=>bG log name<|.tup [.str<|AA0 "under",s]) (ak rs log)))=qB rs log name e:=rfl;rw[o,<-Bool.and_assoc];generalize ((decide (aB e∈dG rs name) && !decide (t5 e∈bj log (AA0 "rung") name)) && !bG log name (.tup [.str<|AA0 "person",.str<|aR e]))=a;generalize cL (IX rs log e) name=b;generalize qB rs log name e=q;by_cases h:aW e∈lK (ak rs log) name;rw[o0 h,dT_ h];cases a<;>cases b<;>rfl;rw[o4 h,dF_ h];cases a<;>cases b<;>cases q<;>rfl
theorem G_tup:∀b,tX c pr nm an q s=a7 b->∃w,b=.tup [s,.str w]:=λb h=>by
 unfold tX at h
 repeat' split at h
 all_goals first|exact⟨_,(A5 h).symm⟩|cases h
theorem DU{f g:D->Option D}{l:List D}(h:∀x∈l,f x=g x):l.filterMap f=l.filterMap g:=by
 induction l with
 |nil=>rfl
 |cons x l i=>rw[Mq,Mq,h x (by simp),i λy O=>h y<|A6 _ O]
noncomputable def lQ(rs:List (c6×List c6))(log:List D)(name:c6)(e:D):Option D:=if lI log name e=a9 then a8 else lU rs log name e
theorem kO:ka rs log name=((aE rs log).map (·.2)).filterMap (lQ rs log name):=by unfold ka cQ;rw[List.filterMap_filter];refine DU λe _=>?_;unfold lQ;cases lI log name e<;>rfl
theorem xk:∀b,lQ rs log name e=a7 b->∃w,b=.tup [t5 e,.str w]:=λb h=>by unfold lQ at h;split at h;cases h;rw[BG]at h;exact G_tup b h
theorem xu(h:(c && !pr)=bt):tX c pr nm an q s=a8:=by unfold tX;rw[h];rfl
theorem Cu(X:(rs.map (·.1)).Nodup)(i:r∈rs.map (·.1)):r∈dG rs name↔name∈ub rs r:=by
 induction rs with
 |nil=>cases i
 |cons q rs a=>rw[nw];rw[C0,LX]at X;unfold dG at a ⊢;rw[MZ];by_cases c:q.1=r;rw[o0 c];have n:r∉(rs.filter λp=>decide<|name∈p.2).map (·.1):=λz=>X.1 (by rw[c];obtain⟨p,b,e⟩:=v8.mp z;rw[<-e];exact LK (f:=(·.1)) (B9.mp b).1);by_cases j:name∈q.2;rw[o0<|dT_ j,C0,c];exact⟨λ_=>j,λ_=>C1⟩;rw[o4<|by rw[dF_ j];decide];exact⟨λz=>o5 z n,λz=>o5 z j⟩;rw[o4 c];have h:r∈rs.map (·.1):=(x6.mp i).resolve_left<|w9 c;rw[<-a X.2 h];split;rw[C0,x6];exact⟨λz=>z.resolve_left<|w9 c,.inr⟩;exact Iff.rfl
end
noncomputable def iB(r:c6×List c6):c6×D:=(r.1,.tup<|r.2.map .str)
theorem Ee(ps:List (c6×D))(h:(ps.map (·.1)).Nodup):iW ps=ps:=by revert h;refine bD (P:=λps=>(ps.map (·.1)).Nodup->iW ps=ps) (λ_=>rfl) (λps p i h=>?_) ps;rw[G5]at h;have h':=Qb.mp h;rw[pD,i h'.1];unfold mU;rw[o4];intro z;obtain⟨q,a,e⟩:=LH.mp z;exact h'.2.2 _ (LK a) p.1 (by simp)<|oT_ e
theorem xQ{rs:List (c6×List c6)}(h:(rs.map (·.1)).Nodup):iW (rs.map iB)=rs.map iB:=Ee _<|by rw[E8];exact h
theorem rY:∀{rs:List (c6×List c6)},r∈rs.map (·.1)->fS (rs.map iB) r=a7 (.tup<|(ub rs r).map .str)
 |p::rs,h=>by rw[nw];unfold fS;rw[C0,L4];by_cases e:p.1=r;rw[o0 e,show decide ((iB p).1=r)=a9 from dT_ e];rfl;rw[o4 e,show decide ((iB p).1=r)=bt from dF_ e];rw[C0,x6]at h;exact rY<|h.resolve_left<|w9 e
theorem zL{rs:List (c6×List c6)}:rs.map fZ=(rs.map iB).map λp=>.tup [.str p.1,p.2]:=by rw[E8];rfl
def jo:s9:=bp<|ab 9
def cX:s9:=A0 (aq<|r9 lp (ab 13)<|dC .non) (fI<|K2 bC (ab 9)<|aa (eG<|aa (r9 u7 (ab 10)<|dC<|.int 0)<|aa (ab 13) af) af) aX
def eZ:s9:=A0 (vE (aq<|ab 11)<|vE (Bs<|aq<|ab 12)<|Bs<|aq<|t6 qH<|aa (ab 1)<|aa (ab 2)<|aa (ab 10)<|aa (ab 5)<|aa (ab 6) af) (ax (bb (t6 xw<|aa (ab 4)<|aa (ab 10)<|aa (ab 2)<|aa (ab 8) af) 13)<|cX) aX
def jp:s9:=ax (bb (Ir (r9 LP (r9 u7 (ab 10)<|dC<|.int 0)<|ab 7)<|r9 LP (eG<|aa (dC<|.str "person")<|aa (r9 u7 (ab 10)<|dC<|.int 3) af)<|ab 8) 12)<|eZ
def jq:s9:=ax (lC (bV<|ab 3) (ah 10)<|ax (bb (r9 LP (ab 2)<|En (t6 wO<|aa (r9 u7 (ab 0)<|dC<|.int 1) af)<|r9 u7 (ab 10)<|dC<|.int 1) 11)<|jp)<|jo
def jr:s9:=ax (bb (ko af) 9)<|jq
def jt:s9:=ax (Iu (t6 md<|aa (ab 1)<|aa (ab 2) af)<|jV 4<|aT (ah 5)<|aT (ah 6)<|aT (ah 7)<|aT (ah 8) jW)<|jr
def mJ:s9:=ax (bb (t6 qG<|aa (ab 1) af) 4)<|jt
theorem qP:z5 dP 14 mJ:=by
 rintro ds M R ⟨ps,rs,log,n,q3,rfl,hf,C,g3,nl,sn,h⟩;have bk:=C.len;have kl:=bh (log:=log) (k:=AA0 "say");have tb:=aO (rs:=rs) (log:=log);have tl:=tb.len;have sv:=eN (rs:=rs) C.dk;have cc:(aE rs log).length<=(ak rs log).length:=LN _ _;simp only[mJ];walk_at"dl";refine⟨ps,rs,log,rfl,C.dk,by lia,λO B1 p1 g4=>?_⟩;replace g3:=aG p1 g3;dsimp only;simp only[jt];walk_at"dl";refine⟨ps,rs,log,n,rfl,C.dk,bk,λK N n3 H B hs p2 h1 h2 h3 h4 hw hy=>⟨rfl,?_⟩⟩;replace g3:=aG p2 g3;replace g4:=aG p2 g4;have pB:=p1.trans p2;have aS:∀w,decide (w∈hs)=bG log n w:=λw=>decide_eq_decide.mpr<|hy w;have Y:∀x∈bj log (AA0 "rung") n,St x:=λx hx=>by obtain⟨d,hm,rfl⟩:=v8.mp hx;obtain⟨q1,q2,_⟩:=cM hm;obtain⟨t,z,k,bo,x,m,rfl,hs⟩:=uz (C.dk d q1)<|.inr q2;exact hs
 simp only[jr];walk_at"dl";refine⟨z8 _,?_⟩;simp only[jq];walk_at"dl";refine⟨_,.inl<|ac g3,λ_=>?_⟩;have hM:bH rs log=((aE rs log).map (·.2)).map (At<|aN (aE rs log) log):=by unfold bH;rw[E8];rfl
 have bS:=aL g3;have bl:∀i,((((aE rs log).map (·.2)).take i).filterMap<|lQ rs log n).length<=i:=λi=>by refine C7 (Rm _ _) ?_;rw[G0];lia
 refine aY (λi S Q=>∃(a b c d:Option D),B <+: Q/\Q[B.length]?=a7 (.lst ((((aE rs log).map (·.2)).take i).filterMap<|lQ rs log n))/\S=[a7<|aI ps rs,a7<|.tup log,a7<|.str n,a7<|.ref q3,a7<|.ref O,a7<|.ref K,a7<|.ref N,a7<|.ref n3,a7<|.ref H,a7<|.ref B.length,a,b,c,d]) ?_ ?_ ⟨_,_,_,_,dH,ae,rfl⟩;rintro S Q ⟨a,b,c,d,pM,v,rfl⟩;rw[hM,u6,L7,<-kO]at v;refine⟨.inl<|aG pM g3,?_⟩;simp only[jo];walk_at"dl";obtain⟨L,rfl⟩:∃L,B=M++L:=by obtain⟨L,e⟩:=pB;exact⟨L,e.symm⟩
 refine bc.chgL .refl h (by simp) v ((G2 _ _).trans pM)<|Bels.of λd T=>?_;rw[kO]at T;obtain⟨e,U,eo⟩:=OG.mp T;obtain⟨w,rfl⟩:=xk d eo;obtain⟨p,hp,rfl⟩:=v8.mp U;exact .tup<|.cons (cx 2 _ (sv p hp).2.1.st.pl)<|.cons (.str _) .nil;rintro i y S Q aj ⟨a,b,c,d,pM,v,rfl⟩ G hG;rw[hM,C5]at aj;obtain⟨e,U,rfl⟩:=Me.mp aj;have et:((aE rs log).map (·.2)).take (i+1)=((aE rs log).map (·.2)).take i++[e]:=by rw[Mo,U];rfl
 have hi:=(x5.mp U).1;rw[u6]at hi;rw[et,List.filterMap_append]at hG;have as:=bl i;obtain⟨p,hp,ep⟩:=v8.mp<|F0 U;have ep:p.2=e:=ep;obtain⟨e0,de,ke⟩:=sv p hp;have hg:=cS tb.nd (mQ.mp hp).1;rw[e0]at hg;rw[ep]at de ke hg;have aP:e∈log:=(aH (xj tb hg).2).1;generalize (((aE rs log).map (·.2)).take i).filterMap (lQ rs log n)=bs at v hG as;have l:=aG pM h1;have q:=aG pM h2;have A:=aG pM h3;have g:=aG pM h4;have j:=aG pM g4;have aD:=aG pM g3;obtain⟨s,es,sl⟩:=wK C.dk de ke;have em:At (aN (aE rs log) log) e=(.tup [t5 e,.str<|aB e,aW e,.str<|aR e,.str s,.bl (ba (aN (aE rs log) log)<|t5 e).isSome]):=by rw[<-es];rfl
 have Z:=de.st;have V:aB e∈rs.map (·.1):=by obtain⟨t,z,k,bo,r,u,s,rfl,_,_,hr,_⟩:=fY de ke;exact hr
 have ai:eA (.tup [.str<|AA0 "person",.str<|aR e]):=.inr<|.inl ⟨_,rfl⟩;have f:lQ rs log n e=if lI log n e=a9 then a8 else tX (cB rs log n e) (bG log n<|.tup [.str<|AA0 "person",.str<|aR e]) (cL (.str s) n) (decide<|aW e∈lK (ak rs log) n) (qB rs log n e) (t5 e):=by unfold lQ;rw[BG,es]
 have F:cB rs log n e=(decide (n∈ub rs (aB e)) && !decide (t5 e∈bj log (AA0 "rung") n)):=by unfold cB;rw[decide_eq_decide.mpr<|Cu hf.rnd V]
 refine⟨.inl aD,?_⟩;rw[em];simp only[aI];walk_at"dl";refine⟨rs.map iB,zL,by rw[u6];have:=hf.rl.2;lia,?_⟩;rw[xQ hf.rnd];refine⟨_,_,ae,rY V,⟨ao,mN⟩,?_⟩;rw[nD];have I:=pM.trans<|dH (mo:=MO.dct<|rs.map iB);replace v:=ac (a:=MO.dct<|rs.map iB) v;replace l:=ac (a:=MO.dct<|rs.map iB) l;replace q:=ac (a:=MO.dct<|rs.map iB) q;replace A:=ac (a:=MO.dct<|rs.map iB) A;replace g:=ac (a:=MO.dct<|rs.map iB) g;replace j:=ac (a:=MO.dct<|rs.map iB) j;generalize Q++[MO.dct<|rs.map iB]=P at I v l q A g j;have no:∀{E:DEnds}{x:Option D}{m o:Bool},E.nx=z6 (B++[MO.lst []]) G->lQ rs log n e=a8->E.nx [a7<|aI ps rs,a7<|.tup log,a7<|.str n,a7<|.ref q3,a7<|.ref O,a7<|.ref K,a7<|.ref N,a7<|.ref n3,a7<|.ref H,a7<|.ref B.length,a7<|.tup [t5 e,.str<|aB e,aW e,.str<|aR e,.str s,.bl (ba (aN (aE rs log) log)<|t5 e).isSome],a7<|.bl m,a7<|.bl o,x] P:=λ{E x m o} eE z=>by rw[eE];refine z6.now<|hG _ _ ⟨_,_,_,_,I,?_,rfl⟩;rw[Mq,z,Ql,G7];exact v
 have al:∀{E:DEnds}{m o:Bool},E.nx=z6 (B++[MO.lst []]) G->m=decide (n∈ub rs (aB e))->o=(decide (t5 e∈bj log (AA0 "rung") n)||bG log n (.tup [.str<|AA0 "person",.str<|aR e]))->eZ E [a7<|aI ps rs,a7<|.tup log,a7<|.str n,a7<|.ref q3,a7<|.ref O,a7<|.ref K,a7<|.ref N,a7<|.ref n3,a7<|.ref H,a7<|.ref B.length,a7<|.tup [t5 e,.str<|aB e,aW e,.str<|aR e,.str s,.bl (ba (aN (aE rs log) log)<|t5 e).isSome],a7<|.bl m,a7<|.bl o,d] P:=λ{E m o} eE em' eo=>by
  simp only[eZ];walk_at"dl";cases m with
  |false=>refine bq<|no eE ?_;rw[f,F,<-em'];rw[xu<|by rw[Pg,Pg]];split<;>rfl
  |true =>
   refine bA ?_;cases o with
   |true =>
    refine bq<|no eE ?_;rw[f,F,<-em'];have:((a9 && !decide (t5 e∈bj log (AA0 "rung") n)) && !bG log n (.tup [.str<|AA0 "person",.str<|aR e]))=bt:=by rw[Pb,<-Bool.not_or,<-eo];rfl
    rw[xu this];split<;>rfl
   |false =>
    refine bA ⟨ps,rs,log,n,e,_,_,K,N,rfl,C,aP,ke,l,q,?_⟩;cases X:lI log n e with
    |true=>rw[X,o0 rfl]at f;exact bq<|no eE f
    |false =>
     rw[X,o4 (by decide),F,<-em']at f;have:((a9 && !decide (t5 e∈bj log (AA0 "rung") n)) && !bG log n (.tup [.str<|AA0 "person",.str<|aR e]))=a9:=by rw[Pb,<-Bool.not_or,<-eo];rfl
     unfold tX at f;rw[this,o0 rfl]at f;refine bA ⟨ps,rs,log,n,e,_,s,hs,O,H,rfl,C,hg,j,g,hw,hy,sl,nl,sn,?_⟩;have an:∀w:c6,lQ rs log n e=a7 (.tup [t5 e,.str w])->E.nx [a7<|aI ps rs,a7<|.tup log,a7<|.str n,a7<|.ref q3,a7<|.ref O,a7<|.ref K,a7<|.ref N,a7<|.ref n3,a7<|.ref H,a7<|.ref B.length,a7<|.tup [t5 e,.str<|aB e,aW e,.str<|aR e,.str s,.bl (ba (aN (aE rs log) log)<|t5 e).isSome],a7<|.bl a9,a7<|.bl bt,a7<|.str w] (P.set B.length<|.lst<|bs++[.tup [t5 e,.str w]]):=λw z=>by rw[eE];refine z6.now<|hG _ _ ⟨_,_,_,_,bM I<|u5 _,?_,rfl⟩;rw[Mq,z,Ql];exact bI v
     have J:∀w:c6,lQ rs log n e=a7 (.tup [t5 e,.str w])->cX E [a7<|aI ps rs,a7<|.tup log,a7<|.str n,a7<|.ref q3,a7<|.ref O,a7<|.ref K,a7<|.ref N,a7<|.ref n3,a7<|.ref H,a7<|.ref B.length,a7<|.tup [t5 e,.str<|aB e,aW e,.str<|aR e,.str s,.bl (ba (aN (aE rs log) log)<|t5 e).isSome],a7<|.bl a9,a7<|.bl bt,a7<|.str w] P:=λw z=>by simp only[cX];walk_at"dl";exact⟨⟨_,.inl v⟩,am (by lia),_,v,aA (by lia),an w z⟩
     by_cases c1:cL (.str s) n=a9;rw[o0 c1];rw[o0 c1]at f;exact J _ f;rw[o4 c1];rw[o4 c1]at f;by_cases c2:aW e∈lK (ak rs log) n;rw[o0 c2];rw[o0<|dT_ c2]at f;exact J _ f;rw[o4 c2];rw[o4<|by rw[dF_ c2];decide]at f;have eq:(bG log n (.tup [.str<|AA0 "room",.str<|aB e])||decide (t5 e∈bd (λs=>bG log n<|.tup [.str<|AA0 "under",s]) (ak rs log)))=qB rs log n e:=rfl;rw[eq];by_cases c3:qB rs log n e=a9;rw[o0 c3];rw[o0 c3]at f;simp only[cX];walk_at"dl";exact no eE f;rw[o4 c3];rw[o4 c3]at f;exact J _ f
 simp only[jp];walk_at"dl";refine⟨_,.inl A,⟨Z.ok,kX Y⟩,?_⟩;rw[pz Z Y];have bm:∀b:Bool,(b != bt)=b:=λb=>by cases b<;>rfl
 cases W:decide (t5 e∈bj log (AA0 "rung") n) with
 |true=>exact al rfl (bm _)<|by rw[W];rfl
 |false=>show 2<=sizeLine/\∃xs,ar P H xs/\_;refine⟨am (by lia),_,.inl g,⟨(lq 3 t9 _ (by decide) ai.pl).1,gI hw⟩,?_⟩;rw[gP ai hw,aS];exact al rfl (bm _)<|by rw[W,NS];exact bm _
theorem sB(T:Tops P w K mg base):u9 P w K mg base 3 "_law_due_bells" iK dP:=u9.byD (N:=["_law_house_here","_law_log_here","_law_name_here","_law_messages","_law_said_here","_law_vectors","_law_seen","_law_rung","_law_hushed","_law_found","_law_message","_law_member","_law_out","_law_why_here"]) T.b T.f_due_bells (by walk_at"sc") qo (by have:=Gn T;have:=CO T;have:=Go T;have:=JG T;walk_at"dv") qP
def nM:w6:=λds M R=>∃(L:List D) (c j:Nat),ds=[.ref c,.ref j]/\M[c]?=a7 (.lst L)/\M[j]?=a7 (.lst L)/\L.length<=100/\(∀x∈L,∃(s:D) (w:c6),x=.tup [s,.str w]/\St s)/\R (.bl a9) M
theorem Di:cI nM Aa:=by rintro ds M R ⟨L,c,j,rfl,_⟩;rfl
def wa:s9:=bp<|dC<|.bl a9
def wb:s9:=ax (lC (dZip<|aa (ab 0)<|aa (ab 1) af) (jV 2<|aT (ah 2)<|aT (ah 3) jW)<|A0 (Mh (Bs<|aq<|t6 FN<|aa (ab 2)<|aa (dC<|.ty "tuple") af)<|Mh (aq<|r9 NJ (ab 2)<|ab 3)<|Bs<|aq<|t6 FN<|aa (r9 u7 (ab 2)<|dC<|.int 1)<|aa (dC<|.ty "str") af) (bp<|dC<|.bl bt) aX)<|wa
def EH:s9:=ax (A0 (Mh (Bs<|aq<|t6 FN<|aa (ab 0)<|aa (dC<|.ty "list") af)<|aq<|r9 NJ (t6 lJ<|aa (ab 0) af)<|t6 lJ<|aa (ab 1) af) (bp<|dC<|.bl bt) aX)<|wb
theorem Fs:z5 nM 4 EH:=by
 rintro ds M R ⟨L,b,j,rfl,g1,g,Q,k,h⟩;simp only[EH];walk_at"dl";rw[g1];show ("list"∈Fz/\"list"∈Ij)/\if (!yK "list" "list")=a9 then _ else _
 refine⟨⟨by decide,by decide⟩,?_⟩;rw[show yK "list" "list" = a9 by decide];refine bq ⟨_,.inl g1,_,.inl g,⟨rfl,rfl⟩,?_⟩;rw[kN,p8];refine bq ?_;simp only[wb];walk_at"dl";refine⟨L,L,λM=>ar M b L,λM=>ar M j L,⟨.inl g1,rfl⟩,⟨.inl g,rfl⟩,?_⟩;refine aY (λi S a=>a=M/\∃c d,S=[a7<|.ref b,a7<|.ref j,c,d]) ?_ ?_ ⟨rfl,_,_,rfl⟩;rintro S a ⟨rfl,c,d,rfl⟩;refine⟨⟨.inl g1,.inl g⟩,?_⟩;simp only[wa];walk_at"dl";exact bc.now h;rintro i y S a O ⟨rfl,c,d,rfl⟩ G f;refine⟨⟨.inl g1,.inl g⟩,?_⟩;obtain⟨x,m,rfl⟩:∃x,x∈L/\y=.tup [x,x]:=by
  unfold L2.zipD at O;rw[C5]at O;cases e:(L.zip L)[i]? with
  |none=>rw[e]at O;cases O
  |some p=>rw[e]at O;obtain⟨t,l⟩:=Ru.mp e;have:p.1=p.2:=A5<|t.symm.trans l;refine⟨p.1,F0 t,?_⟩;rw[<-A5 O];show D.tup [p.1,p.2]=_;rw[<-‹p.1=p.2›]
 obtain⟨s,w,rfl,hs⟩:=k x m;obtain⟨o1,q⟩:=lq (M:=a) 3 t9 (D.tup [s,.str w]) (by decide)<|.tup<|.cons hs.pl<|.cons (.str _) .nil;walk_at"dl";refine⟨trivial,⟨by decide,by decide⟩,?_⟩;rw[show yK "tuple" "tuple" = a9 by decide];refine bq ⟨⟨o1,o1⟩,?_⟩;rw[q];refine bq ⟨⟨by decide,by decide⟩,?_⟩;refine(o4<|show ¬((!yK "str" "str")=a9) by decide).mpr ?_;exact z6.now<|f _ _ ⟨rfl,_,_,rfl⟩
theorem Gm(T:Tops P w K mg base):u9 P w K mg base 1 "_law_same" Aa nM:=u9.byD (N:=["_law_told","_law_due","_law_one","_law_other"]) T.b T.f_same (by walk_at"sc") Di (by walk_at"dv") Fs
theorem Gz:cI (yi<|AA0 "_law_log") Gg:=by rintro ds M R ⟨ns,m,_,_,rfl,_⟩;rfl
theorem Ew(a:∀d∈log,aJ ps rs d):∀x∈ka rs log name,∃(s:D) (w:c6),x=.tup [s,.str w]/\St s:=λx h=>by rw[kO]at h;obtain⟨e,i,r⟩:=OG.mp h;obtain⟨w,rfl⟩:=xk x r;obtain⟨p,b,rfl⟩:=v8.mp i;exact⟨_,w,rfl,(eN a p b).2.1.st⟩
theorem BF:(ka rs log name).length<=log.length:=by unfold ka;refine C7 (Rm _ _)<|C7 (LN _ _) ?_;rw[u6];exact C7 (LN _ _)<|C7 aO.len bh
def zj:s9:=bp<|dC<|.bl a9
def zk:s9:=A0 (Bs<|aq<|t6 nM<|aa (t6 cO<|aa (ab 1)<|aa (ab 2)<|aa (ab 4) af)<|aa (ab 6) af) (bp<|dC<|.bl bt) aX
def zm:s9:=ax (fI<|dMl0 jI<|ab 7)<|zk
def zn:s9:=ax (fI<|K2 bC (ab 7)<|aa (eG<|aa (dC .non)<|aa (dC<|.str "") af) af)<|zm
def zo:s9:=ax (A0 (Bs<|aq<|t6 nM<|aa (ab 7)<|aa (ab 6) af) (bp<|dC<|.bl bt) aX)<|zn
def zp:s9:=ax (bb (t6 cO<|aa (ab 1)<|aa (ab 2)<|aa (ab 4) af) 7)<|zo
def zq:s9:=ax (lC (bV<|r9 u7 (ab 1)<|dC<|.int 0) (jV 2<|aT (ah 4)<|aT (ah 5) jW)<|ax (bb (t6 dP<|aa (ab 1)<|aa (ab 2)<|aa (ab 4)<|aa (ab 3) af) 6)<|zp)<|zj
def uu:s9:=ax (bb (t6 cK<|aa (ab 1)<|aa (ab 2) af) 3)<|zq
def zr:s9:=ax (bb (t6 xx<|aa (Mg (ab 0) (gx<|dC<|.int 1)<|gx<|dC<|.int 61)<|aa (ab 1) af) 2)<|uu
def IK:s9:=ax (bb (t6 me<|aa (t6 gU<|aa (ab 0)<|aa (dC<|.int 0) af) af) 1)<|zr
theorem IB:z5 (yi<|AA0 "_law_log") 8 IK:=by
 rintro ds M R ⟨ns,mo,H,⟨A,x⟩,rfl,rfl,h⟩;have m:ar [mo,.tb (AA0 "_law_log") bt] 0 (ns.map D.int):=by have:=sH (M:=[mo,.tb (AA0 "_law_log") bt]) (n:=0) (mo:=mo) rfl x;rw[A]at this;exact this
 simp only[IK];walk_at"dl";refine⟨0,ns,0,rfl,m,_,rfl,λps rs j=>?_⟩;simp only[zr];walk_at"dl";refine⟨_,m,?_⟩;have v:∃cs:List Int,cutD (ns.map D.int) (a7 1) (a7 61)=cs.map D.int/\cs.length<=60:=by unfold cutD;refine⟨(ns.drop<|HT.sIx (ns.map D.int).length 0<|a7 1).take<|HT.sIx (ns.map D.int).length (ns.map D.int).length (a7 61)-HT.sIx (ns.map D.int).length 0 (a7 1),by rw[List.map_take,O8],?_⟩;rw[G0];unfold HT.sIx;simp;lia
 obtain⟨cs,v,F⟩:=v;rw[v];refine⟨ps,rs,2,1,cs,rfl,j,.inl rfl,by decide,F,rfl,λlog l _=>?_⟩;have U:=l.len;show uu _ _ ([mo,.tb (AA0 "_law_log") a9,.lst<|cs.map D.int]:t7);generalize ([mo,.tb (AA0 "_law_log") a9,.lst<|cs.map D.int]:t7)=r;simp only[uu];walk_at"dl";refine⟨ps,rs,log,rfl,l.dk,by lia,?_⟩;have g3:(r++[MO.lst<|bH rs log])[r.length]?=a7 (.lst<|bH rs log):=ae;generalize r++[MO.lst<|bH rs log]=Q at g3;generalize r.length=k at g3;simp only[zq,aI];walk_at"dl";intro _;refine aY (λi S e=>∃(a b c d:Option D),e[k]?=a7 (.lst<|bH rs log)/\S=[a7<|.ref 0,a7<|aI ps rs,a7<|.tup log,a7<|.ref k,a,b,c,d]) ?_ ?_ ⟨_,_,_,_,g3,rfl⟩;rintro S e ⟨a,b,c,d,g3,rfl⟩;refine⟨trivial,?_⟩;simp only[zj];walk_at"dl";exact .inl<|h _;rintro i y S e J ⟨a,b,c,d,g3,rfl⟩ G I;obtain⟨p,O,rfl⟩:=v8.mp<|F0 J;have C:p.1.length<=100:=by have:=j.nm p O;lia
 have u:=Ew (rs:=rs) (name:=p.1) l.dk;have t:=BF (rs:=rs) (log:=log) (name:=p.1);refine⟨trivial,?_⟩;unfold iE;walk_at"dl";refine⟨trivial,ps,rs,log,p.1,k,rfl,j,l,g3,C,j.sm p O,?_⟩;generalize o:ka rs log p.1=L at u t;have B:(e++[MO.lst L])[e.length]?=a7 (.lst L):=ae;have E:k≠e.length:=by have:=aL g3;lia
 replace g3:=ac (a:=MO.lst L) g3;generalize e++[MO.lst L]=w at g3 B;generalize e.length=P at B E;simp only[zp];walk_at"dl";refine⟨ps,rs,log,p.1,rfl,l.dk,by lia,j.rl.2,C,?_⟩;rw[o];have N:(w++[MO.lst L])[w.length]?=a7 (.lst L):=ae;have q:k≠w.length:=by have:=aL g3;lia
 have f:P≠w.length:=by have:=aL B;lia
 replace g3:=ac (a:=MO.lst L) g3;replace B:=ac (a:=MO.lst L) B;generalize w++[MO.lst L]=K at g3 B N;generalize w.length=z at N q f;simp only[zo];walk_at"dl";refine⟨L,z,P,rfl,N,B,by lia,u,bq ?_⟩;simp only[zn];walk_at"dl";refine⟨⟨_,.inl N⟩,am (by lia),_,N,aA (by lia),?_⟩;replace g3:(K.set z<|.lst<|L++[.tup [.non,.str<|AA0 ""]])[k]?=a7 (.lst<|bH rs log):=ap q g3;replace B:(K.set z<|.lst<|L++[.tup [.non,.str<|AA0 ""]])[P]?=a7 (.lst L):=ap f B;have g:(K.set z<|.lst<|L++[.tup [.non,.str<|AA0 ""]])[z]?=a7 (.lst<|L++[.tup [.non,.str<|AA0 ""]]):=bI N;generalize K.set z (.lst<|L++[.tup [.non,.str<|AA0 ""]])=s at g3 B g;simp only[zm];walk_at"dl";refine⟨⟨_,.inl g⟩,_,g,?_⟩;replace g3:(s.set z<|.lst (L++[D.tup [.non,.str<|AA0 ""]]).reverse)[k]?=a7 (.lst<|bH rs log):=ap q g3;replace B:(s.set z<|.lst (L++[D.tup [.non,.str<|AA0 ""]]).reverse)[P]?=a7 (.lst L):=ap f B;generalize s.set z (.lst (L++[D.tup [.non,.str<|AA0 ""]]).reverse)=W at g3 B;simp only[zk];walk_at"dl";refine⟨ps,rs,log,p.1,rfl,l.dk,by lia,j.rl.2,C,?_⟩;rw[o];refine⟨L,_,P,rfl,ae,ac B,by lia,u,bq ?_⟩;exact z6.now<|I _ _ ⟨_,_,_,_,ac g3,rfl⟩
theorem ok_law(T:Tops P w K mg base)(F:Mw K "law" "law" (top 63) f fd):FnOk P w K mg base F8 9 f fd Gg (MG K<|yi "_law_log"):=DR (N:=["_law_script","_law_house_here","_law_log_here","_law_messages","_law_name_here","_law_many","_law_due","_law_told"]) T.b F (by walk_at"sc") Gz (by have:=nU T;have:=sE T;have:=xU T;have:=CQ T;have:=JH T;have:=sB T;have:=Gm T;walk_at"dv") IB
end
end LW
namespace PySem.W.Fast
def tw10047068981088574380:=Nat
def tw10065563508511916447:=Nat
def tw10078926526966929234:=Nat
def tw10141247401619185504:=Nat
def tw10165961231036286378:=Nat
def tw10166559251332185964:=Nat
def tw1016674974881400753:=Nat
def tw10232388150690694884:=Nat
def tw10238190380705830979:=Nat
def tw10262811566264035481:=Nat
def tw10280179207602277166:=Nat
def tw10458181477669348989:=Nat
def tw1050948726022184323:=Nat
def tw1063509255867508809:=Nat
def tw10674472893278045643:=Nat
def tw10680966006505426292:=Nat
def tw10692479503165449432:=Nat
def tw10767682831432908842:=Nat
def tw1077776910862842191:=Nat
def tw10786690437969082732:=Nat
def tw10790574389434992314:=Nat
def tw10850148264182569810:=Nat
def tw10922681659726648651:=Nat
def tw10960810193992443982:=Nat
def tw11106939198170743487:=Nat
def tw11182761066322866813:=Nat
def tw11183419347816863159:=Nat
def tw11206565483745299237:=Nat
def tw11244751195121055415:=Nat
def tw11269637895990342857:=Nat
def tw113282670505341172:=Nat
def tw11334518888257149917:=Nat
def tw1146245650806502012:=Nat
def tw11463193902645061561:=Nat
def tw11490660520209102856:=Nat
def tw11509095703806903393:=Nat
def tw11511736380709987128:=Nat
def tw11517959739344280304:=Nat
def tw11531144452433447114:=Nat
def tw11574884663114712003:=Nat
def tw11620439143003992055:=Nat
def tw1168173551616906361:=Nat
def tw11711107725080495948:=Nat
def tw11844482019833039893:=Nat
def tw11870696036978826714:=Nat
def tw12005296880783606578:=Nat
def tw12022575090045679348:=Nat
def tw12156362715745213687:=Nat
def tw12170376873314141147:=Nat
def tw1220252455027817895:=Nat
def tw12221316864849338244:=Nat
def tw12224554680371415020:=Nat
def tw12256022936962555280:=Nat
def tw12281593911104634990:=Nat
def tw12293208644257241911:=Nat
def tw12309103585900297840:=Nat
def tw12348470519857523606:=Nat
def tw12453041088960494460:=Nat
def tw12618344693278096189:=Nat
def tw12704711980033123208:=Nat
def tw12711147456109720107:=Nat
def tw12723558358025388663:=Nat
def tw12743252357020005835:=Nat
def tw12830146972199020194:=Nat
def tw12873045954192676615:=Nat
def tw12974192925512582958:=Nat
def tw13031027721358910589:=Nat
def tw13180398588861767614:=Nat
def tw13225279028519963037:=Nat
def tw13368128267229198737:=Nat
def tw13412472274875920145:=Nat
def tw13431622733039369584:=Nat
def tw13462324025596466864:=Nat
def tw13545210045220696003:=Nat
def tw13603504553298572067:=Nat
def tw13683779648209982767:=Nat
def tw13738233585509203447:=Nat
def tw13744120296226357679:=Nat
def tw13813259844111493534:=Nat
def tw13867887377412880619:=Nat
def tw13972952094186106488:=Nat
def tw13990685552342505020:=Nat
def tw13997205960001795524:=Nat
def tw13997784873006711312:=Nat
def tw13998036538002677288:=Nat
def tw14280153799828923183:=Nat
def tw14303288096688741478:=Nat
def tw14307744005135858502:=Nat
def tw14442127209416599229:=Nat
def tw14615275220409062729:=Nat
def tw1463724955138479159:=Nat
def tw14661229553190338718:=Nat
def tw14717328348496545863:=Nat
def tw14809654256442100205:=Nat
def tw14820487365204287863:=Nat
def tw14852709152448285153:=Nat
def tw1485851899874003284:=Nat
def tw14858637206460992220:=Nat
def tw14868516693310934967:=Nat
def tw14897282035718444241:=Nat
def tw14915782487281365432:=Nat
def tw14920695072782405912:=Nat
def tw14924518771023655906:=Nat
def tw14939645757539113357:=Nat
def tw15001272814764066492:=Nat
def tw15025281210471882086:=Nat
def tw15095654197987076170:=Nat
def tw15132712017251818180:=Nat
def tw15268542606881531912:=Nat
def tw15349578880019154579:=Nat
def tw15355029154167313906:=Nat
def tw15390122362299116433:=Nat
def tw15432590952239288361:=Nat
def tw15453118209048694841:=Nat
def tw1546443729317345834:=Nat
def tw15500871315392066812:=Nat
def tw15500910151035804170:=Nat
def tw15539466435378390264:=Nat
def tw15635949286890260733:=Nat
def tw15645121866089279106:=Nat
def tw15663430093192178531:=Nat
def tw15685883539985113376:=Nat
def tw15843779874376002871:=Nat
def tw15880443383334459243:=Nat
def tw15938948702901130187:=Nat
def tw15950619073076601984:=Nat
def tw1600021564812845842:=Nat
def tw16039328034307620145:=Nat
def tw16051861037301839619:=Nat
def tw1613970586664454796:=Nat
def tw16225515576322479892:=Nat
def tw16294417070554372711:=Nat
def tw16483790945587222914:=Nat
def tw16531636510195985949:=Nat
def tw1657558851304110012:=Nat
def tw16600963177555178846:=Nat
def tw1662996081842035598:=Nat
def tw16828563283384582973:=Nat
def tw16909034936425501476:=Nat
def tw16958710268762232433:=Nat
def tw17012706064087147383:=Nat
def tw17019167762456727882:=Nat
def tw17099731847981327808:=Nat
def tw17263951649050889031:=Nat
def tw17367133188309767432:=Nat
def tw17379201504253483392:=Nat
def tw17406956054904826801:=Nat
def tw17409314653839650673:=Nat
def tw1765405436714621181:=Nat
def tw17672587387990533306:=Nat
def tw17716511150622579576:=Nat
def tw1785557910304140091:=Nat
def tw17861323253275746291:=Nat
def tw17865414902629227284:=Nat
def tw17961681458745577190:=Nat
def tw18041712444646779127:=Nat
def tw18077944504322956904:=Nat
def tw18121209141567051647:=Nat
def tw18143521036914779206:=Nat
def tw18178913040174571675:=Nat
def tw18229095259394164697:=Nat
def tw18254427823374814031:=Nat
def tw18368718089626135153:=Nat
def tw1880399363535912406:=Nat
def tw1983314775190288694:=Nat
def tw1988179514936548657:=Nat
def tw2059344003446542355:=Nat
def tw2085836174424775628:=Nat
def tw2131685191055138603:=Nat
def tw2135684758825895760:=Nat
def tw2201409564004890824:=Nat
def tw2245972641633854849:=Nat
def tw2289632220602788698:=Nat
def tw2361906305933568664:=Nat
def tw2377427047851529328:=Nat
def tw2438111196721396630:=Nat
def tw2476028251078705330:=Nat
def tw2550477803732893284:=Nat
def tw2715368743664883686:=Nat
def tw2737627938889137939:=Nat
def tw2837479866733962652:=Nat
def tw290767741426035974:=Nat
def tw2963354863530738843:=Nat
def tw313690701643990493:=Nat
def tw3263346684574197941:=Nat
def tw3270101944181634273:=Nat
def tw3444790532344653481:=Nat
def tw3464126507765209941:=Nat
def tw3502517885388620716:=Nat
def tw3572226123371369721:=Nat
def tw3613195424553500308:=Nat
def tw3735090302104298002:=Nat
def tw3830443774614520145:=Nat
def tw3857766419582223717:=Nat
def tw4015714986289173288:=Nat
def tw4055701953986352892:=Nat
def tw4089109644590319308:=Nat
def tw4153311519234438799:=Nat
def tw4166770815756371250:=Nat
def tw4186578734039114022:=Nat
def tw4192234079874427244:=Nat
def tw428986891292543338:=Nat
def tw4294882823333726070:=Nat
def tw4364007511973779113:=Nat
def tw4381800467309004451:=Nat
def tw4419956480877551237:=Nat
def tw4607429575337900693:=Nat
def tw4636092808969352643:=Nat
def tw4643878282050067073:=Nat
def tw4687555061986302849:=Nat
def tw4703552758983718048:=Nat
def tw4772789602569839638:=Nat
def tw479429404388783560:=Nat
def tw4886197649000509847:=Nat
def tw502633018639729425:=Nat
def tw5028860760325923572:=Nat
def tw5085839968573218319:=Nat
def tw5115548958739463167:=Nat
def tw52414531284061352:=Nat
def tw5301894097032851853:=Nat
def tw5324655363421217437:=Nat
def tw5336024409079505724:=Nat
def tw5345611908312206587:=Nat
def tw5407346382113223564:=Nat
def tw5416051026205829556:=Nat
def tw54715218933948818:=Nat
def tw5515280044530111987:=Nat
def tw5602889319607920407:=Nat
def tw562172381651483856:=Nat
def tw5634722653879635324:=Nat
def tw5677594484869007600:=Nat
def tw5678412017038399361:=Nat
def tw5739902033114181513:=Nat
def tw5742150499499136143:=Nat
def tw5860655134325402659:=Nat
def tw5867520049627704441:=Nat
def tw5878614874523193203:=Nat
def tw5909062184637793024:=Nat
def tw5933464260188758541:=Nat
def tw5940163602955792771:=Nat
def tw5944248038638445642:=Nat
def tw5972858544022027784:=Nat
def tw5985631654934446623:=Nat
def tw6050014152246396984:=Nat
def tw6056117645338705444:=Nat
def tw6110442577798043274:=Nat
def tw6134864453815617390:=Nat
def tw6139864907418157001:=Nat
def tw6329822026159735827:=Nat
def tw63794750984474802:=Nat
def tw6393775647243048542:=Nat
def tw6404807795991776857:=Nat
def tw6425043584540406437:=Nat
def tw6443505644217755801:=Nat
def tw6507958962149313511:=Nat
def tw6580429626920776769:=Nat
def tw666572088468571609:=Nat
def tw6704151556380037085:=Nat
def tw6718486500146957202:=Nat
def tw6757736824821062269:=Nat
def tw6799762108981696163:=Nat
def tw6887558721561363711:=Nat
def tw6917381443729719808:=Nat
def tw6917634886701921031:=Nat
def tw692190995785548667:=Nat
def tw7135127745294984097:=Nat
def tw7139771816399757539:=Nat
def tw7155244859273907191:=Nat
def tw7195131923265001204:=Nat
def tw7200921136607093232:=Nat
def tw7210291847236394952:=Nat
def tw7237125643536334449:=Nat
def tw7250005819776359048:=Nat
def tw7360562305136908056:=Nat
def tw7427536025446582006:=Nat
def tw7711887075804392671:=Nat
def tw7736860326484614256:=Nat
def tw7758187090132500499:=Nat
def tw7776493817057892018:=Nat
def tw7802734250849422610:=Nat
def tw784353191136179666:=Nat
def tw7869238357425956591:=Nat
def tw7991151717482960342:=Nat
def tw8016084411934426482:=Nat
def tw8065432041453512406:=Nat
def tw8107872769752498713:=Nat
def tw8112135203155511307:=Nat
def tw8176521492761924623:=Nat
def tw8209455918613214826:=Nat
def tw8246885007514217198:=Nat
def tw8275485404394254290:=Nat
def tw8335881466544942199:=Nat
def tw8341381452171298168:=Nat
def tw8395566007172729787:=Nat
def tw8483394243877688072:=Nat
def tw8485451005699645389:=Nat
def tw8553212655343329306:=Nat
def tw860406411279401536:=Nat
def tw8683390158537628050:=Nat
def tw8822925320763018562:=Nat
def tw8858839311443994208:=Nat
def tw8941344598410068919:=Nat
def tw8959490637773280564:=Nat
def tw9096130515562720909:=Nat
def tw9164220260914396760:=Nat
def tw9205821068441128463:=Nat
def tw9352954490216858224:=Nat
def tw9361760824348999399:=Nat
def tw9379143997783543921:=Nat
def tw9419217941087843077:=Nat
def tw9431468691124503597:=Nat
def tw9479779653213378289:=Nat
def tw9528793028676245405:=Nat
def tw9559213926287296871:=Nat
def tw9629449598266721713:=Nat
def tw9630824968062781922:=Nat
def tw9687110881220599478:=Nat
def tw9714338246786423836:=Nat
def tw9749453395259415089:=Nat
def tw9754359242832001285:=Nat
def tw9792170262910348017:=Nat
def tw9802863746636370577:=Nat
def tw9805426324534114704:=Nat
def tw993868139957766278:=Nat
def tw9953575639609931927:=Nat
end PySem.W.Fast
theorem L2.us1{P:List AD8->Prop}(h:∀a0,P [a0]):∀us:List AD8,us.length=1->P us
 | [a0],_=>h a0
theorem L2.us2{P:List AD8->Prop}(h:∀a0 a1,P [a0,a1]):∀us:List AD8,us.length=2->P us
 | [a0,a1],_=>h a0 a1
theorem L2.us3{P:List AD8->Prop}(h:∀a0 a1 a2,P [a0,a1,a2]):∀us:List AD8,us.length=3->P us
 | [a0,a1,a2],_=>h a0 a1 a2
theorem L2.us4{P:List AD8->Prop}(h:∀a0 a1 a2 a3,P [a0,a1,a2,a3]):∀us:List AD8,us.length=4->P us
 | [a0,a1,a2,a3],_=>h a0 a1 a2 a3
theorem L2.us5{P:List AD8->Prop}(h:∀a0 a1 a2 a3 a4,P [a0,a1,a2,a3,a4]):∀us:List AD8,us.length=5->P us
 | [a0,a1,a2,a3,a4],_=>h a0 a1 a2 a3 a4
local macro_rules | `(tactic| walk_at"fk")=>`(tactic| ((case a=>k_is);(case l=>k_is);(case c=>k_is);(case k=>k_is)))
local macro_rules | `(tactic| walk_at"f1")=>`(tactic| (refine' L2.fnat_mk (by assumption) (by assumption) ?a ?l ?c ?k (λ_ _ _ _ _ _=>L2.us1 (λ_=>rfl));walk_at"fk"))
local macro_rules | `(tactic| walk_at"f2")=>`(tactic| (refine' L2.fnat_mk (by assumption) (by assumption) ?a ?l ?c ?k (λ_ _ _ _ _ _=>L2.us2 (λ_ _=>rfl));walk_at"fk"))
local macro_rules | `(tactic| walk_at"f3")=>`(tactic| (refine' L2.fnat_mk (by assumption) (by assumption) ?a ?l ?c ?k (λ_ _ _ _ _ _=>L2.us3 (λ_ _ _=>rfl));walk_at"fk"))
local macro_rules | `(tactic| walk_at"f4")=>`(tactic| (refine' L2.fnat_mk (by assumption) (by assumption) ?a ?l ?c ?k (λ_ _ _ _ _ _=>L2.us4 (λ_ _ _ _=>rfl));walk_at"fk"))
local macro_rules | `(tactic| walk_at"f5")=>`(tactic| (refine' L2.fnat_mk (by assumption) (by assumption) ?a ?l ?c ?k (λ_ _ _ _ _ _=>L2.us5 (λ_ _ _ _ _=>rfl));walk_at"fk"))
open PySem PySem.W PyProof.Rows
set_option maxRecDepth 100000 in
set_option maxHeartbeats 0 in
theorem PySem.Challenge.cw_talkmarks_k50_bells_due_holds : PySem.Challenge.rw_talkmarks_k50_bells_due.Holds := by
 w_on; o_law; k_head; (case hw=>w_witness2)
 k_fill
 refine L2.law_walkL (z:="_law_log") (l:=PySem.Challenge.rw_talkmarks_k50_bells_due) (k:=9) (st:=LW.top 63) (x:="_law_script") rfl rfl rfl ⟨rfl,by decide,by decide⟩ (fun w h Y=>PySem.W.km_in_of Y) (fun _=>by kernel_rfl) rfl (fun _=>rfl) ?F<|fun _ _ _ _ _ _ _=>rfl
 case F =>
  intro w mg h X G;have T:∀ P base,L2.BMain mg base→LW.Tops P w (L2.KOf X) mg base:=by
   intro P base m;dsimp only[L2.KOf];constructor;walk_at"f1";walk_at"f2";walk_at"f2";walk_at"f2";walk_at"f2";walk_at"f1";walk_at"f1";walk_at"f2";walk_at"f2";walk_at"f3";walk_at"f3";walk_at"f2";walk_at"f1";walk_at"f1";walk_at"f3";walk_at"f2";walk_at"f2";walk_at"f3";walk_at"f2";walk_at"f2";walk_at"f2";walk_at"f2";walk_at"f2";walk_at"f2";walk_at"f4";walk_at"f3";walk_at"f2";walk_at"f2";walk_at"f4";walk_at"f4";walk_at"f3";walk_at"f2";walk_at"f1";walk_at"f2";walk_at"f1";walk_at"f2";walk_at"f1";walk_at"f2";walk_at"f3";walk_at"f3";walk_at"f4";walk_at"f5";walk_at"f1";walk_at"f2";walk_at"f1";walk_at"f2";walk_at"f5";walk_at"f2";walk_at"f4";walk_at"f4";walk_at"f2";walk_at"f1"
   ·unfold LW.B_ LW.C_
    iterate 12 (refine' L2.TopB.b ?tq ?_; (case tq=>refine' PySem.W.mg_none_of X G ?tr; (case tr=>k_is)))
    exact .nil
   exact m
  refine ⟨?_,fun base f d m F=>LW.ok_law (T _ base m) F⟩
  try dsimp only[L2.KOf]
  walk_at"f1"
