import PyProof.Rows.All
import Wide.All
import OpenK.AllK
import Wide.FinOn
import Lean
import PyProof.EqAt
import PyProof.EqKinds
import PyProof.TupleCall
import PyProof.CompFree
import PyProof.NeKinds
import KE.KSortTup
import KE.KRevSl
import KE.KDictSum
import KE.KEqDict
import PyProof.Conv_int_bool
import PyProof.AttrMissHeap
import KE.KLam
import KE.KRevIter
import PySem.Challenge.RW_talkmarks_k43_where_one_is_named
open PySem renaming wpAny_bind->t6,wpAny_pure->t8,Spec->AAC,wpAny_newObj_type->G3,wpAny_callSpecial?_slot->MN,wpAny_call_entry->F9,wpAny_holding->E4,wpAny_dictEntries->Ni,wpAny_setField_rec->Nz,wpAny_dictEpoch->MY,wpAny_field->J3,wpAny_seqItems->MS,wpAny_fieldsOf->MR,wpAny_rule->Ix,wpAny_setState_of->Ny,wpAny_forIn_list->Nw,mem_of_lookup->Oe,wpAny_notOrdered_dict->OE,wpAny_setField->Nm,wpAny_mono->L7,wpAny_attempt->Nv,codeAny_builtin->NW,wpAny_ite_split->NV,wpAny_isInstance->Oc,eqIsQuiet_byValue->Oz,wpAny_specialOf->Ob,wpAny_typeNameOfWhole_itemiter->RJ,sizeLine_eq->Nl,wpAny_typeNameOfWhole_keyiter->RH,wpAny_typeNameOfWhole_valiter->RG,wpAny_truthy_bool->O3,wpAny_Call_method_late->QH,wpAny_askSetting->OY,wpAny_typeOf->NT,plainId_quiet->N9,builtinLookup_eq_fast->QG,wpAny_typeNameOf_itemiter->RB,wpAny_passesOwn->OX,wpAny_typeNameOf_keyiter->Rz,wpAny_typeNameOf_valiter->Ry,wpAny_setEntries_of->QC,Value->ADI,wpAny_Call_Name_kw->Qx,wpAny_callSpecialIfBoundUnlessNone?_slot->SW,call_meetsIn->Ot,wpAny_pyIter_slot->Qu,wpAny_updateDictKeys->Rp,isSubtype_stop->Pu,wpAny_pyHash_int->Qr,wpAny_pyHash_str->Qq,wpAny_loadPart'->SN,wpAny_Call_method0_late->Sj,typeLookup_type->Qn,wpAny_isOneOf_itemiter->Sb,wpAny_pyIter_list->Ri,atKey_none_of_get->Rg,codeAny_mono->Po,atKey_of_get->Pl,wpAny_isOneOf_valiter->R7,wpAny_handled->Qh,typeIs_str->OS,call_meets->OR,wpAny_execs_nil->Q9,evalArgs_none->R4,wpAny_of_eq->Pj
open PySem.Str renaming ofString->u3
open List renaming getElem?_eq_getElem->w9,length_map->v4,getElem?_eq_some_iff->z9,length_append->B6,size_toArray->A6,mem_cons_of_mem->C7,mem_map->z6,getElem?_map->C6,mem_cons->A3,mem_of_getElem?->E6,mem_cons_self->E3,map_cons->B9,length_cons->D4,getD_eq_getElem?_getD->L1,length_nil->C9,getElem?_append_left->L0,mem_append_right->I9,length_singleton->J2,all_eq_true->F0,mem_filter->E5,getElem?_append_right->MU,length_filter_le->K9,mem_map_of_mem->K1,length_take->F6,map_append->Fn,mem_append->F3,mem_singleton->K0,range->C2,append_assoc->J6,map_map->D7,nil_append->G2,mem_range->G1,getElem?_set_self->Nj,nodup_cons->J5,getElem?_set_ne->Na,prefix_append->MM,getElem?_of_mem->M9,length_drop->L8,mem_append_left->Np,take_add_one->M7,length->F8,take_length->MT,find?_cons->ML,getElem?_eq_none->NI,filter_cons->MZ,nodup_iff_pairwise_ne->OI,cons_lt_cons_iff->NZ,not_mem_nil->No,getElem_mem->Nn,append_nil->Nh,any_eq_true->Nx,drop_eq_getElem_cons->O9,all_cons->MX,getElem?_take_of_lt->O8,pairwise_iff_getElem->PK,filterMap_cons->OC,map_congr_left->OB,length_range->Od,length_set->NX,getElem?_drop->OA,take_of_length_le->PF,prefix_rfl->Oa,zip_cons_cons->O5,filter_append->O4,lookup_cons->Oy,getElem?_cons_succ->QI,nodup_append->OZ,replicate->Ow,getElem?_replicate->Rx,eraseIdx_cons_succ->Rw,getElem_of_mem->QE,length_reverse->ADG,filter_sublist->QB,drop_eq_nil_of_le->Ru,mem_filterMap->Qy,length_replicate->Rs,set_append_right->Rr,find?_some->Px,take_sublist->Qw,pairwise_map->Qt,mem_of_mem_take->Rq,lt_irrefl->Pw,getElem?_zip_eq_some->So,nodup_nil->Pq,map_id->Oq,range'->Op,forIn_cons->Qo,filter_cons_of_neg->Si,pairwise_singleton->Sh,getElem?_take->Rm,filter_nil->Ql,find?_eq_none->Rk,getElem?_cons_zero->Sf,find?_append->Re,find?_map->Qj,map_nil->Pn,getElem?_toArray->Sa,take_append_drop->R8,nodup_range->Rc,mem_of_mem_drop->R5,map_drop->Qg,filter_eq_self->R3,length_zip->Q3,filter_map->Q2,toArray->Qf,getD->OQ
open PySem.Heap renaming get?_push_of_some->z5,get?_push_size->A7,lt_size->A1,get?_update_self->MB,SameBut->I0,size_push->MF,get?_update_other->PH,get?_update_ne->QD,ExtBut->Qe
open PySem.W renaming Frag->u9,kas_desc->K2,keepIn->Ox,fnOf->N6,kas_rev->MK,kas_place->NE,kas_asc->Nd,findIn->Qk,kas_descPart->Pm,kas_sort->N5,codeIn->Q0,kitOne->QY,methodObj->RZ
open Nat renaming le_refl->v6,ne_of_lt->A4,zero_le->A9,lt_of_lt_of_le->K4,lt_succ_self->MG,lt_irrefl->J4,le_trans->J1,lt_or_ge->ME,not_lt_zero->NH,ne_of_gt->NF,lt_succ_of_lt->O2,lt_trichotomy->O1,le_of_lt->NU,sub_self->NS,not_lt->NO,le_add_right->Qp,add_sub_cancel->Rl,min_eq_left->Qm,le_succ->Pk
open Bool renaming false_eq_true->B5,and_eq_true->D9,false_ne_true->M8,eq_false_iff->NY,not_true->Ng,eq_iff_iff->OW,or_eq_true->Q7,false_and->Q1,and_false->QZ
open Option.some renaming inj->C0
open Array renaming getElem?_eq_getElem->G5,length_toList->E1,getElem?_toList->G4,getElem?_eq_some_iff->NA,getD_eq_getD_getElem?->OJ,getElem?_eq_none->O6,getD->Nk,forIn_toList->Py,toList_push->Qv
open Classical renaming propDecidable->K5,byContradiction->Og
open PySem.SetTable renaming below->E9,runEnd->K8,bits->NG,leap->N8,Probe->Ov,grown->OV,turns->Ps,fits->Pp,insertAt->Rh,sizeAbove->R0,fill->QW
open Int renaming toNat_natCast->J7,zero_add->Os,le_refl->Qd
open PySem.Heap.SameBut renaming update->L9
open Ne renaming symm->A2
open PySem.Value renaming ref->AB6,none->ABQ,bool->NR,type->OT
open Option renaming map_eq_some_iff->NJ,isSome_iff_exists->Sn,isSome_map->Rf,getD_some->Rb
open PySem.Builtin.Dict_items renaming ownsTuple->OK,ownedTupleFields->SR,ownedTupleIsFree->SO,pairFromOwner->SM,newIterator->SL,dictOf->SF
open PySem.Builtin.SmallTypes renaming nextOf->OH,ownedTupleIsFree->RM,ownedTupleHandOut->SU
open PyProof.Rows renaming slot_tuple_getitem->PM,callWith_type1->RE,get?_update_seq->Q4
open PySem.Builtin.Str renaming strKind->OG,strSliceIndices->PL,occurrences->O7
open PySem.NameKind renaming free->MQ,cell->Ou
open PySem.Builtin.Tuple renaming tupleHashOf->Pa,tupleItemsOf->RD,tupleExact->RA
open PySem.Around renaming under_plainId->Of
open PySem.Calls renaming callWith_builtin->OF,evalArgs_plain->QF,spliced_cons->R1
open Sum renaming inr->ABp
open PySem.Obj renaming data_mapDictKeys->OD,mapSeq->MP,isFreed_of_dict->PB,data_mapFields->Pz,mapFields->OU,isFreed_of_fields->R9,data_mapDict->Ra,putSet->Pi
open PySem.F renaming slot_dict_itemiterator_next->RL,plainAttrs_dict->PJ,slot_tuple_getattribute->RK,slot_dict_get->PD,slot_list_getattribute->RI,slot_dict_setdefault->RF,args_dict_itemiterator_next_1->SV,slot_dict_getitem->Sr,entry_dict_itemiterator_next->SS,args_tuple_add_2->Sm,entry_tuple_add->Sk,args_dict_get_3->Sg,slot_tuple_add->Se,entry_dict_get->Sd,type_dict_get->R6
open PySem.Txt renaming split->K3,slice->L6,startswith->Pt
open PySem.Builtin.Dict renaming showsAll->PC,updateFrom->Rv,keyAndDefault->SH,missedRemoval->SG
open PySem.SeqAt renaming EqAt->Nf
open PySem.SetTable.below renaming go->O0
open PySem.Shared renaming TypeIs->N7
open PySem.Builtin.Slice renaming slicePlaces->RC,sliceAdjust->Ss,sliceApplied->SI
open PySem.SetTable.layClean renaming free->Rt
open PySem.SeqAt.EqAt renaming int_str->QA,str_int->Qz,int_int->Ro,str_str->Rn,same->Q6
open False renaming elim->NQ
open True renaming intro->NP
open List.Sublist renaming refl->Qs
open List.Perm renaming refl->Pv,cons->QX
open PySem.Builtin.List renaming listTooLong->Sl,listLengthHint->SK,listExtendWith->SJ
open List.Pairwise renaming nil->Rj
open List.cons renaming inj->Qi,injEq->Q5
open ForInStep renaming yield->Q8
open PySem.SetTable.probe renaming go->RY
open Option renaming some->b7,none->b8
open Bool renaming true->b9,false->c5
open PySem renaming Value->c7,Str->c8,World->c9,Program->d5,Addr->d6,Obj->d7,Heap->d8,sysModules->d9,entryOfKey->e7,mainGlobals->e8,bootBuiltins->f6,Around->f7,Shared->f8,Scope->f9,wpAny->g7,Expr->g8,model->h7,backTo->i3,starEach->i4,Stmt->i5,holding->i6,swapsWith->i7,assign->i8,assignEach->i9,pyNext->j0,letOwnedTupleGo->j1,pyIter->j2,rawInt->j3,foldedSetIterable->j4,binaryOp->j5,compareOp->j6,behindInMarks->j7,cLine->j8,FuncData->j9,codeAny->k5,NameKind->k7,IsPart->l7,getItem->l8,sliceBounds->m3,typeOf->m5,attributeBase->m6,backToKw->m7,keywordEach->m8,Keyword->m9,DictEntry->n5,reduceHash->n6,firstArgMember->o0,IsPair->o4,pickOrder->o5,SetTable->o6,eqIsQuiet->o7,placesWithHash->o8
open PyProof.Rows renaming AllBare->ge,envOfC->k9,seqObj->n9
set_option autoImplicit true
set_option relaxedAutoImplicit true
set_option compiler.extract_closed false
set_option Elab.async false
set_option linter.all false
set_option maxRecDepth 100000
def p0:=@if_pos
def p4:=@if_neg
def p5:=@absurd
def p7:=@decide_eq_true_eq
def p8:=@beq_iff_eq
def r9:=@if_false
def s9:=@if_true
def t4:=@congrArg
def t5:=@beq_self_eq_true
-- CHANGE: your row's module here,as the last of these rows
theorem dF_{p:Prop}[Decidable p](h:¬p):decide p=c5:=decide_eq_false h
theorem dT_{p:Prop}[Decidable p](h:p):decide p=b9:=decide_eq_true h
theorem oT_{p:Prop}[Decidable p](h:decide p=b9):p:=of_decide_eq_true h
namespace L2
open PySem PySem.Spec PyProof.Rows
noncomputable abbrev E2:=Sum Int c8
noncomputable def za:E2->c7->Bool
 |.inl k,v=>Value.isInt k v
 |.inr x,v=>Value.isStrOf x v
noncomputable def keyH(w:c9):E2->Int
 |.inl k=>hashInt k
 |.inr x=>hashStr w x
theorem bq:∀{k:E2}{v:c7},za k v=b9->(∃i t,k=Sum.inl i/\v=Value.int i t)\/(∃x t,k=ABp x/\v=Value.str x t)
 |.inl i,v,h=>by obtain⟨t,e⟩:=Value.isInt_shape (k:=i) (v:=v) h;exact .inl ⟨i,t,rfl,e⟩
 |.inr x,v,h=>by obtain⟨t,e⟩:=Value.isStrOf_shape (x:=x) (v:=v) h;exact .inr ⟨x,t,rfl,e⟩
theorem Bw(i:Int)(t:Tok):za (.inl i) (.int i t)=b9:=by simp[za,Value.isInt]
theorem Bv(x:c8)(t:Tok):za (.inr x) (.str x t)=b9:=by simp[za,Value.isStrOf]
theorem KP(a b:Int):decide ((Sum.inl a:E2)=Sum.inl b)=(a==b):=by by_cases e:a=b;subst e;simp;have h:¬(Sum.inl a:E2)=Sum.inl b:=λq=>e<|Sum.inl.inj q;rw[dF_ h];exact(beq_eq_false_iff_ne.mpr e).symm
theorem FV(a b:c8):decide ((ABp a:E2)=ABp b)=decide (a=b):=by by_cases e:a=b;subst e;simp;have h:¬(ABp a:E2)=ABp b:=λq=>e<|Sum.inr.inj q;rw[dF_ h,dF_ e]
theorem KO(a:Int)(b:c8):decide ((Sum.inl a:E2)=ABp b)=c5:=dF_<|λq=>nomatch q
theorem KN(a:c8)(b:Int):decide ((ABp a:E2)=Sum.inl b)=c5:=dF_<|λq=>nomatch q
noncomputable def bV(prog:d5)(w:c9):PySem.KeyKind prog w E2 where
 is:=za
 hash:=keyH w
 inj:=λv a b f d=>by
  rcases bq f with⟨i,t,rfl,rfl⟩|⟨x,t,rfl,rfl⟩
  rcases bq d with⟨j,u,rfl,e⟩|⟨y,u,rfl,e⟩
  injection e with e1 _;rw[e1];exact nomatch e
  rcases bq d with⟨j,u,rfl,e⟩|⟨y,u,rfl,e⟩
  exact nomatch e
  injection e with e1 _;rw[e1]
 byValue:=λk v h=>by rcases bq h with⟨i,t,rfl,rfl⟩|⟨x,t,rfl,rfl⟩<;>rfl
 pyHash:=λc h=>by
  rcases bq c with⟨i,t,rfl,rfl⟩|⟨x,t,rfl,rfl⟩
  exact Qr h;exact Qq h
 eqBool:=λg c h=>by
  rcases bq g with⟨i,t,rfl,rfl⟩|⟨x,t,rfl,rfl⟩
  rcases bq c with⟨j,u,rfl,rfl⟩|⟨y,u,rfl,rfl⟩
  rw[KP]at h;exact wpAny_eqBool_int h;rw[KO]at h;exact QA i t y u _ _ _ _ h;rcases bq c with⟨j,u,rfl,rfl⟩|⟨y,u,rfl,rfl⟩
  rw[KN]at h;exact Qz x t j u _ _ _ _ h;rw[FV]at h;exact wpAny_eqBool_str h
 «strs»:=λk x t v h=>by
  rcases bq h with⟨i,u,rfl,e⟩|⟨y,u,rfl,e⟩
  exact nomatch e
  injection e with e1 _;subst e1;cases v<;>rfl
theorem wb(prog:d5)(w:c9)(i:Int)(t:Tok):(bV prog w).is (.inl i) (.int i t)=b9:=Bw i t
theorem wa(prog:d5)(w:c9)(x:c8)(t:Tok):(bV prog w).is (.inr x) (.str x t)=b9:=Bv x t
inductive V where
 |non|bl (b:Bool)|int (i:Int)|str (x:c8)|byt (b:Array UInt8)|flt (b:UInt64)|ref (a:d6)|ty (n:String)
 deriving DecidableEq
def aK:V->c7->Prop
 |.non,u=>u=ABQ
 |.bl b,u=>u=NR b
 |.int i,u=>∃t,u=Value.int i t
 |.str x,u=>∃t,u=Value.str x t
 |.byt b,u=>∃t,u=Value.bytes b t
 |.flt b,u=>∃t,u=Value.float b t
 |.ref a,u=>u=AB6 a
 |.ty n,u=>u=OT n
abbrev ay:List V->List c7->Prop:=Paired aK
theorem ay.length(r:ay xs us):xs.length=us.length:=Paired.length r
theorem ay.get:∀{xs:List V}{us:List c7}{i:Nat}{x:V},ay xs us->xs[i]?=b7 x->∃u,us[i]?=b7 u/\aK x u
 |_,_,_,_,.nil,e=>by simp at e
 |_,_,0,_,.cons r _,e=>by simp at e;subst e;exact⟨_,rfl,r⟩
 |_,_,i+1,x,.cons _ t,e=>by obtain⟨u,h1,h2⟩:=ay.get (i:=i) (x:=x) t (by simpa using e);exact⟨u,by simpa using h1,h2⟩
theorem ay.set(r:aK x u):∀{xs:List V}{us:List c7} (i:Nat),ay xs us->ay (xs.set i x) (us.set i u)
 |_,_,_,.nil=>.nil
 |_,_,0,.cons _ t=>.cons r t
 |_,_,i+1,.cons q t=>.cons q<|ay.set r i t
theorem ay.append(h:ay xs us)(s:ay ys ws):ay (xs++ys) (us++ws):=by
 induction h with
 |nil=>exact s
 |cons r t i=>exact .cons r i
theorem ay.take:∀{xs:List V}{us:List c7} (n:Nat),ay xs us->ay (xs.take n) (us.take n)
 |_,_,0,_=>.nil
 |_,_,_+1,.nil=>.nil
 |_,_,n+1,.cons r t=>.cons r<|ay.take n t
theorem ay.drop:∀{xs:List V}{us:List c7} (n:Nat),ay xs us->ay (xs.drop n) (us.drop n)
 |_,_,0,r=>r
 |_,_,_+1,.nil=>.nil
 |_,_,n+1,.cons _ t=>ay.drop n t
def CJ:Option V->Option c7->Prop
 |some v,b7 u=>aK v u
 |none,b8=>True
 |_,_=>False
def KV{κ:Type}:List (κ×V)->List (κ×c7)->Prop:=Paired λ(p:κ×V) (q:κ×c7)=>p.1=q.1/\aK p.2 q.2
noncomputable def kV:E2->V
 |.inl i=>.int i
 |.inr x=>.str x
inductive HO where
 |lst (xs:List V)
 |tup (xs:List V)
 |dK (kvs:List (E2×V))|dT (kvs:List (List E2×V))
 |set (S:Int->Bool) (n:Nat)
 |ins (C dx:d6) (fs:List (c8×V))
 |own (x:d6)
 |xd (fs:List (c8×V))
 |met (f x:d6)
 |rng (lo hi:Int)
 |frz (o:d7) (u:HO)
 |tbl (ps:Array c7)
 |ext (φ:d5->c9->d8->Prop)
abbrev Hp:=d6->Option HO
noncomputable def x3(H:Hp)(a:d6)(o:HO):Hp:=λb=>if b=a then b7 o else H b
theorem aR:x3 H a o a=b7 o:=by unfold x3;rw[p0 rfl]
theorem az(h:b≠a):x3 H a o b=H b:=by unfold x3;rw[p4 h]
theorem yN{H:Hp}{a b:d6}{o u:HO}(h:H a=b7 o)(h':H b=b7 u)(d:o≠u):a≠b:=by intro e;subst e;rw[h]at h';exact d<|C0 h'
theorem ae{H:Hp}{a b:d6}{o:HO}(h:H a=b7 o)(h':H b=b8):a≠b:=by intro e;subst e;rw[h]at h';cases h'
section
variable(P:d5)(w:c9)
def Fz(h:d8)(a:d6)(s:Array c7):Prop:=∃o,h.get? a=b7 o/\o.cls=.type "tuple"/\(∃n,o.data=.seq s n)/\o.dict=b8
theorem Fz.tup:Fz h a items->IsTup h a items:=λ⟨o,e,c,⟨n,d⟩,_⟩=>⟨o,e,c,n,d⟩
theorem Fz.new(h:d8)(s:Array c7):Fz (h.push { cls:=.type "tuple",data:=.seq s }) h.objs.size s:=⟨_,A7 _ rfl,rfl,⟨_,rfl⟩,rfl⟩
def bY(H:Hp)(h:d8)(a:d6):HO->Prop
 |.lst xs=>xs.length<=sizeLine/\∃(its:List c7) (n:Nat),ay xs its/\h.get? a=b7 { cls:=.type "list",data:=.seq its.toArray n }
 |.tup xs=>xs.length<=sizeLine/\∃its:List c7,ay xs its/\Fz h a its.toArray
 |.dK kvs=>kvs.length<=sizeLine/\(a==d9)=c5/\∃vs,KV kvs vs/\h.DictOf (bV P w) a vs
 |.dT kvs=>kvs.length<=sizeLine/\(a==d9)=c5/\∃xs:List (List E2×d6×c7),Paired (λ(p:List E2×V) (q:List E2×d6×c7)=>p.1=q.1/\H q.2.1=b7 (.tup<|p.1.map kV)/\aK p.2 q.2.2) kvs xs /\∃o es ep,h.get? a=b7 o/\o.ExactDict/\o.data=.dict es ep/\es.toList=xs.map (e7<|tupleKind<|bV P w)/\(xs.map (·.1)).Nodup
 |.set S n=>h.SetOf (intKind P w) a S n
 |.ins C dx fs=>H dx=b7 (.own a)/\fs.length<=1000/\dx≠a/\h.get? a=b7 (PySem.W.instObj C dx) /\∃mA,h.Ns1 dx mA/\(∀f,CJ (fs.lookup f)<|mA f)/\PySem.Within mA (fs.map (·.1))
 |.own _=>∃o,h.get? a=b7 o
 |.xd fs=>∃mA,h.Ns1 a mA/\∀f,CJ (fs.lookup f)<|mA f
 |.rng lo hi=>∃t u v,h.get? a=b7 { cls:=.type "range",data:=.fields #[.int lo t,.int hi u,.int 1 v] }
 |.frz o u=>h.get? a=b7 o/\bY H h a u
 |.tbl ps=>h.get? a=b7 { cls:=.none,data:=.fields ps }
 |.met f x=>h.get? a=b7 (RZ (.ref f)<|.ref x)
 |.ext φ=>φ P w h/\(∃o,h.get? a=b7 o)/\∀h1 h2:d8,φ P w h1->(∀o,h1.get? a=b7 o->h2.get? a=b7 o)->φ P w h2
def D8(H:Hp)(h:d8):Prop:=∀a o,H a=b7 o->bY P w H h a o
end
theorem bY.lt(x:bY P w H h a o):a<h.objs.size:=by
 cases o with
 |lst xs=>obtain⟨_,_,_,_,e⟩:=x;exact A1 e
 |tup xs=>obtain⟨_,_,_,p⟩:=x;exact p.tup.lt
 |dK kvs=>obtain⟨_,_,_,_,o,_,_,e,_⟩:=x;exact A1 e
 |dT kvs=>obtain⟨_,_,_,_,o,_,_,e,_⟩:=x;exact A1 e
 |set S n=>obtain⟨o,_,_,_,e,_⟩:=x;exact A1 e
 |ins C d s=>obtain⟨_,_,_,e,_⟩:=x;exact A1 e
 |own y=>obtain⟨_,e⟩:=x;exact A1 e
 |xd s=>obtain⟨_,⟨_,_,_,e,_⟩,_⟩:=x;exact A1 e
 |rng l hi=>obtain⟨_,_,_,e⟩:=x;exact A1 e
 |frz b u=>obtain⟨e,_⟩:=x;exact A1 e
 |tbl ps=>exact A1<|show h.get? a=b7 _ from x
 |met f y=>exact A1<|show h.get? a=b7 _ from x
 |ext φ=>obtain⟨_,⟨_,e⟩,_⟩:=x;exact A1 e
theorem Paired.mapP{α β:Type}{F G:α->β->Prop}:∀{l₁:List α}{l₂:List β},Paired F l₁ l₂->(∀a b,F a b->G a b)->Paired G l₁ l₂
 |_,_,.nil,_=>.nil
 |_,_,.cons r t,f=>.cons (f _ _ r)<|Paired.mapP t f
theorem bY.stay(x:bY P w H h a o)(k:∀b u,(b=a\/H b=b7 (.own a))->h.get? b=b7 u->h'.get? b=b7 u)(m:∀b,H b=b7 (.own a)->H' b=b7 (.own a)) (B:∀b xs,H b=b7 (.tup xs)->H' b=b7 (.tup xs)):bY P w H' h' a o:=by
 induction o with
 |lst xs=>obtain⟨z,its,n,r,e⟩:=x;exact⟨z,its,n,r,k _ _ (.inl rfl) e⟩
 |tup xs=>obtain⟨z,its,r,g,e,c⟩:=x;exact⟨z,its,r,g,k _ _ (.inl rfl) e,c⟩
 |dK kvs=>obtain⟨z,y,vs,r,g,es,i,e,c⟩:=x;exact⟨z,y,vs,r,g,es,i,k _ _ (.inl rfl) e,c⟩
 |dT kvs=>obtain⟨z,y,xs,r,g,es,i,e,c⟩:=x;exact⟨z,y,xs,Paired.mapP r λp q z=>⟨z.1,B _ _ z.2.1,z.2.2⟩,g,es,i,k _ _ (.inl rfl) e,c⟩
 |set S n=>obtain⟨g,es,i,t,e,c⟩:=x;exact⟨g,es,i,t,k _ _ (.inl rfl) e,c⟩
 |ins C F s=>obtain⟨d,z,E,e,A,⟨j,es,i,l,c⟩,r⟩:=x;exact⟨m _ d,z,E,k _ _ (.inl rfl) e,A,⟨j,es,i,k _ _ (.inr d) l,c⟩,r⟩
 |own y=>obtain⟨g,e⟩:=x;exact⟨g,k _ _ (.inl rfl) e⟩
 |xd s=>obtain⟨A,⟨j,es,i,e,c⟩,r⟩:=x;exact⟨A,⟨j,es,i,k _ _ (.inl rfl) e,c⟩,r⟩
 |rng G hi=>obtain⟨t,u,v,e⟩:=x;exact⟨t,u,v,k _ _ (.inl rfl) e⟩
 |frz g u D=>obtain⟨e,q⟩:=x;exact⟨k _ _ (.inl rfl) e,D q⟩
 |tbl ps=>have e:h.get? a=b7 { cls:=.none,data:=.fields ps }:=x;show h'.get? a=b7 { cls:=.none,data:=.fields ps };exact k a _ (.inl rfl) e
 |met f y=>have e:h.get? a=b7 (RZ (.ref f)<|.ref y):=x;show h'.get? a=b7 (RZ (.ref f)<|.ref y);exact k a _ (.inl rfl) e
 |ext φ=>obtain⟨p,⟨o,e⟩,st⟩:=x;exact⟨st _ _ p λo q=>k _ _ (.inl rfl) q,⟨o,k _ _ (.inl rfl) e⟩,st⟩
theorem D8.lt(x:D8 P w H h)(e:H a=b7 o):a<h.objs.size:=(x a o e).lt
theorem D8.fresh(x:D8 P w H h)(e:h.objs.size<=a):H a=b8:=by
 cases q:H a with
 |none=>rfl
 |some u=>exact p5 (K4 (x.lt q) e)<|J4 _
theorem D8.kept(x:D8 P w H h)(k:∀b u,h.get? b=b7 u->h'.get? b=b7 u):D8 P w H h':=λa o e =>
 (x a o e).stay (λb u _ q=>k b u q) (λ_ q=>q) λ_ _ q=>q
theorem D8.laid(x:D8 P w H h)(k:∀b u,h.get? b=b7 u->h'.get? b=b7 u)(hp:h.objs.size<=a)(n:bY P w (x3 H a o) h' a o):D8 P w (x3 H a o) h':=λb u e=>by have f:=x.fresh hp;by_cases d:b=a;subst d;rw[aR]at e;cases e;exact n;rw[az d]at e;exact(x b u e).stay (λc v _ q=>k c v q) (λc q=>by rw[az<|ae q f];exact q) λc xs q=>by rw[az<|ae q f];exact q
def Rd(H:Hp)(a:d6)(u:HO):Prop:=H a=b7 u\/∃o,H a=b7 (.frz o u)
theorem Rd.ok(r:Rd H a u)(x:D8 P w H h):bY P w H h a u:=by
 rcases r with r|⟨o,r⟩
 exact x a u r;obtain⟨_,q⟩:=x a _ r;exact q
def Qa:Option HO->Prop
 |some (.lst _)=>True
 |some (.dK _)=>True
 |some (.dT _)=>True
 |some (.set _ _)=>True
 |some (.ins _ _ _)=>True
 |some (.ext _)=>True
 |_=>False
theorem D8.write(ok:D8 P w H h)(m:Qa (H x))(i:e=x\/H e=b7 (.own x))(k:∀b u,b≠e->h.get? b=b7 u->h'.get? b=b7 u)(o:∃u,h'.get? e=b7 u)(g:bY P w (x3 H x o') h' x o'):D8 P w (x3 H x o') h':=λb u q=>by
 have n:∀c y,H c=b7 (.own y)->c≠x:=λc y r z=>by subst z;rw[r]at m;exact m
 have p:∀c xs,H c=b7 (.tup xs)->c≠x:=λc xs r z=>by subst z;rw[r]at m;exact m
 by_cases d:b=x;subst d;rw[aR]at q;cases q;exact g;rw[az d]at q;by_cases a:b=e;have j:H b=b7 (.own x):=by rcases i with z|z;exact p5 (a.trans z) d;rw[a];exact z
 rw[q]at j;cases j;obtain⟨v,l⟩:=o;exact⟨v,by rw[a];exact l⟩;refine(ok b u q).stay (λc v f r=>k c v ?_ r) (λc r=>by rw[az<|n c b r];exact r) λc xs r=>by rw[az<|p c xs r];exact r
 rcases f with rfl|f;exact a;rintro rfl;rcases i with z|z;exact n c b f z;rw[f]at z;cases z;exact d rfl
structure Un(fs ex:List d6)(H H':Hp)(h h':d8):Prop where
 keep:∀b o,h.get? b=b7 o->H b=b8->b∉fs->b∉ex->h'.get? b=b7 o
 slot:∀b o,h.get? b=b7 o->H b=b8->b∈fs->b∉ex->∃sl,h'.get? b=b7 { o with slots:=sl }
 free:∀b o,h.get? b=b7 o->H b=b8->b∉ex->H' b=b8
 there:∀b o,h.get? b=b7 o->b∉ex->∃o',h'.get? b=b7 o'
 tups:∀b xs,H b=b7 (.tup xs)->H' b=b7 (.tup xs)
 frzs:∀b o u,H b=b7 (.frz o u)->H' b=b7 (.frz o u)
 tbls:∀b ps,H b=b7 (.tbl ps)->∃more,H' b=b7 (.tbl<|ps++more)
theorem Un.any(u:Un fs ex H H1 h h1)(q:h.get? b=b7 ob)(n:H b=b8)(x:b∉ex):∃sl,h1.get? b=b7 { ob with slots:=sl }:=by by_cases d:b∈fs;exact u.slot b ob q n d x;exact⟨ob.slots,u.keep b ob q n d x⟩
theorem Un.kept(k:∀b u,h.get? b=b7 u->h'.get? b=b7 u):Un fs ex H H h h':=⟨λb o q _ _ _=>k b o q,λb o q _ _ _=>⟨o.slots,k b o q⟩,λ_ _ _ n _=>n,λb o q _=>⟨o,k b o q⟩,λ_ _ q=>q,λ_ _ _ q=>q,λ_ ps q=>⟨#[],by rw[q];simp⟩⟩
theorem Un.refl:Un fs ex H H h h:=Un.kept λ_ _ q=>q
theorem Un.laid(k:∀b u,h.get? b=b7 u->h'.get? b=b7 u)(hp:h.objs.size<=a)(f:H a=b8):Un fs ex H (x3 H a o) h h' where
 keep:=λb u q _ _ _=>k b u q
 slot:=λb u q _ _ _=>⟨u.slots,k b u q⟩
 free:=λb u q n _=>by rw[az<|A4<|K4 (A1 q) hp];exact n
 there:=λb u q _=>⟨u,k b u q⟩
 tups:=λb xs q=>by rw[az<|ae q f];exact q
 frzs:=λb u xs q=>by rw[az<|ae q f];exact q
 tbls:=λb ps q=>⟨#[],by rw[az<|ae q f,q];simp⟩
theorem Un.write(m:Qa (H x))(i:e=x\/H e=b7 (.own x))(k:∀b u,b≠e->h.get? b=b7 u->h'.get? b=b7 u)(c:∃u,h'.get? e=b7 u):Un fs ex H (x3 H x o) h h':=by
 have g:∀b,H b=b8->b≠x:=λb n z=>by subst z;rw[n]at m;exact m
 have f:∀b,H b=b8->b≠e:=λb n z=>by subst z;rcases i with r|r;exact g b n r;rw[n]at r;cases r
 have d:∀b u,H b=b7 u->¬Qa (b7 u)->b≠x:=λb u q j z=>by subst z;rw[q]at m;exact j m
 refine⟨λb u q n _ _=>k b u (f b n) q,λb u q n _ _=>⟨u.slots,k b u (f b n) q⟩,λb u q n _=>by rw[az<|g b n];exact n,λb u q _=>?_,λb xs q=>by rw[az<|d b _ q λz=>z];exact q,λb u xs q=>by rw[az<|d b _ q λz=>z];exact q,λb ps q=>⟨#[],by rw[az<|d b _ q λz=>z,q];simp⟩⟩;by_cases a:b=e;subst a;exact c;exact⟨u,k b u a q⟩
noncomputable def trk(h:d8)(H:Hp):List d6:=(C2 h.objs.size).filter λa=>(H a).isSome
noncomputable def EK(h:d8)(H:Hp):d8:=PySem.W.hideAll h<|trk h H
theorem BH(h:d8)(H:Hp):(EK h H).objs.size=h.objs.size:=PySem.W.hideAll_size _ _
theorem EJ(e:h.get? b=b7 o)(n:H b=b8):(EK h H).get? b=b7 o:=PySem.W.hideAll_get _ e λd=>by have q:(H b).isSome=b9:=(E5.mp d).2;rw[n]at q;simp at q
theorem Hb(e:(EK h H).get? b=b7 o):h.get? b=b7 o/\H b=b8:=by
 have a:h.get? b=b7 o:=PySem.W.of_hideAll (trk h H) e;refine⟨a,?_⟩;cases q:H b with
 |none=>rfl
 |some x=>have d:b∈trk h H:=E5.mpr ⟨G1.mpr<|A1 a,by simp[q]⟩;have z:(EK h H).get? b=b8:=PySem.W.hideAll_none (trk h H) d;rw[z]at e;cases e
noncomputable def IX(g h:d8)(L:d6):List (d6×d7):=(C2 h.objs.size).filterMap λa=>if a=L\/(g.get? a).isSome=b9 then b8 else(h.get? a).map λo=>(a,o)
noncomputable def aL(g h:d8)(L d:d6):List (d6×d7):=(IX g h L).filter λp=>decide<|p.1≠d
structure Mod(K:u9)(mg:c8->Option c7)(base:d8):Prop where
 kin:K.In base
 glob:base.Ns e8 mg
 blt:∃mb,base.Ns builtinsNs mb/\∀x:c8,x≠"__name__"->mb x=f6 x
 nolimit:base.NoLimit
/-- the context: a def's body (or a comprehension's block) running. base: fixed through the whole law;s₀,H₀: the entry;outer: the frames whose slots others may change (a def's callers);stack: all frames that run;
  ex: iterators that were made fI of the entry and are walked here (a comprehension's);fn: the names whose cells were made at the entry (a def: all;a comprehension's block: its own);calm: not fO an except suite;pn: pins that every state bears;xe: what is wanted of an exception that leaves the code -/
structure Cx where
 prog:d5
 w:c9
 K:u9
 mg:c8->Option c7
 base:d8
 A:f7
 N:List c8
 s₀:f8
 H₀:Hp
 env:Env
 outer:List Env
 stack:List Env
 ex:List d6
 fn:c8->Bool
 calm:Bool
 pn:List (d6×d7)
 xe:c7->f8->Prop
noncomputable def K6(l:List Env):List d6:=l.filterMap (·.frame)
noncomputable abbrev Cx.fs(X:Cx):List d6:=K6 X.outer
def ON(c:f9)(x:c8):Prop:=c.names.lookup x=b7 .local\/c.names.lookup x=b7 .cell\/c.names.lookup x=b7 .free
def Oo(c:f9)(x:c8):Prop:=c.names.lookup x=b7 .local\/c.names.lookup x=b7 .cell
def Look(env:Env)(h:d8)(m:c8->Option c7)(x:c8)(u:c7):Prop:=(env.kindOf x=b7 .local/\m x=b7 u)\/((env.kindOf x=b7 .cell\/env.kindOf x=b7 .free)/\∃c,env.cells.lookup x=b7 c/\h.IsCell c (b7 u))
structure Cx.Ok(X:Cx):Prop where
 mod:Mod X.K X.mg X.base
 kind:X.env.scope.kind=.function
 glob:X.env.globals=e8
 blt:X.env.builtins=builtinsNs
 above:X.s₀.heap.objs.size<=X.env.locals
 inj:∀x y c,X.env.cells.lookup x=b7 c->X.env.cells.lookup y=b7 c->x=y
 has:∀x,(X.env.kindOf x=b7 .cell\/X.env.kindOf x=b7 .free)->∃c,X.env.cells.lookup x=b7 c
 cab:∀x c,X.fn x=b9->X.env.cells.lookup x=b7 c->X.s₀.heap.objs.size<=c
 hd:X.calm=b9->X.A.handled=b8
 frames:X.A.frames=b7 X.stack
 stk:X.stack=X.outer\/(X.stack=X.env::X.outer/\X.env.frame=b7 X.env.locals)
 exf:∀b∈X.ex,b≠X.env.locals/\∀x c,X.env.cells.lookup x=b7 c->c≠b
 bs:∀b o,X.base.get? b=b7 o->X.s₀.heap.get? b=b7 o/\X.H₀ b=b8
 bsz:X.base.objs.size<=X.s₀.heap.objs.size
 noex:∀b o,X.base.get? b=b7 o->b∉X.ex
 exfs:∀b∈X.ex,b∉X.fs
 funs:X.s₀.heap.FunFrames X.base X.outer
 frf:∀b∈X.fs,X.H₀ b=b8
structure t9(X:Cx)(pins:List (d6×d7))(σ:List (Option V))(H:Hp)(s:f8):Prop where
 ok:X.Ok
 os:s.os=X.s₀.os
 bare:ge s.gens
 base:Un X.fs X.ex X.H₀ H X.s₀.heap s.heap
 loc:∃m,s.heap.Ns X.env.locals m/\∀(i:Nat) (x:c8) (v:V),X.N[i]?=b7 x->σ[i]?=b7 (b7 v)->ON X.env.scope x->∃u,aK v u/\Look X.env s.heap m x u
 cell:∀x c,X.env.cells.lookup x=b7 c->∃v,s.heap.IsCell c v
 free:H X.env.locals=b8
 freeC:∀x c,X.env.cells.lookup x=b7 c->H c=b8
 pin:∀p∈X.pn++pins,s.heap.get? p.1=b7 p.2/\H p.1=b8/\p.1≠X.env.locals/\p.1∉X.fs/\∀v,p.2.data≠.cell v
 hok:D8 X.prog X.w H s.heap
 len:σ.length=X.N.length
theorem Cx.Ok.nofr{X:Cx}(ok:X.Ok)(e:X.base.get? b=b7 o):b∉X.fs:=λd=>by have:=(ok.funs.mem d).1;rw[e]at this;cases this
theorem t9.bs{X:Cx}{pins:List (d6×d7)}{σ:List (Option V)}{H:Hp}{s:f8}(I:t9 X pins σ H s):∀b o,X.base.get? b=b7 o->s.heap.get? b=b7 o/\H b=b8:=λb o e =>
 ⟨I.base.keep b o (I.ok.bs b o e).1 (I.ok.bs b o e).2 (I.ok.nofr e)<|I.ok.noex b o e,I.base.free b o (I.ok.bs b o e).1 (I.ok.bs b o e).2<|I.ok.noex b o e⟩
theorem t9.bk(I:t9 X pins σ H s):∀b o,X.base.get? b=b7 o->s.heap.get? b=b7 o:=λb o e=>(I.bs b o e).1
theorem t9.mod(I:t9 X pins σ H s):Mod X.K X.mg X.base:=I.ok.mod
theorem t9.kIn(I:t9 X pins σ H s):X.K.In s.heap:=I.ok.mod.kin.keeps I.bk
theorem t9.lt(I:t9 X pins σ H s):X.env.locals<s.heap.objs.size:=let ⟨_,hn,_⟩:=I.loc;hn.lt
theorem t9.sz(I:t9 X pins σ H s):X.s₀.heap.objs.size<=s.heap.objs.size:=J1 I.ok.above<|NU I.lt
theorem t9.nofs(I:t9 X pins σ H s)(h:s.heap.objs.size<=a):a∉X.fs:=λd=>by obtain⟨_,o,m,_⟩:=I.ok.funs.mem d;exact p5 (K4 (A1 m)<|J1 I.sz h)<|J4 _
theorem t9.cne(I:t9 X pins σ H s):∀x c,X.env.cells.lookup x=b7 c->c≠X.env.locals:=λx c e z=>by obtain⟨v,o,b,d⟩:=I.cell x c e;obtain⟨m,⟨o',es,i,a,h,_⟩,_⟩:=I.loc;rw[z,a]at b;cases b;rw[h]at d;cases d
theorem t9.funs(I:t9 X pins σ H s):s.heap.FunFrames X.base X.outer:=by
 have a:∀(l:List Env),(∀b∈K6 l,b∈X.fs)->X.s₀.heap.FunFrames X.base l->s.heap.FunFrames X.base l:=by
  intro l;induction l with
  |nil=>intro _ _;trivial
  |cons env r j=>intro hs g;obtain⟨k,⟨L,o,f,n,m,c⟩,i⟩:=g;have h:L∈X.fs:=hs L (by unfold K6;rw[OC,f];exact E3);obtain⟨p,e⟩:=I.base.slot L o m (I.ok.frf L h) h λz=>I.ok.exfs L z h;exact⟨k,⟨L,_,f,n,e,c⟩,j (λb d=>hs b<|by unfold K6;rw[OC,f];exact C7 _ d) i⟩
 exact a X.outer (λ_ d=>d) I.ok.funs
theorem t9.stack(I:t9 X pins σ H s):s.heap.FunFrames X.base X.stack:=by
 rcases I.ok.stk with e|⟨e,f⟩
 rw[e];exact I.funs;rw[e];obtain⟨m,n,_⟩:=I.loc;refine .cons (by rw[I.ok.kind];decide) f n ?_ I.funs;exact Heap.get?_none_of_le<|J1 I.ok.bsz I.ok.above
theorem t9.stkSub(I:t9 X pins σ H s):∀b∈K6 X.stack,b∈X.env.locals::X.fs:=λb d=>by
 rcases I.ok.stk with e|⟨e,f⟩
 rw[e]at d;exact C7 _ d;rw[e]at d;unfold K6 at d;rw[OC,f]at d;exact d
theorem t9.stkFree(I:t9 X pins σ H s):∀b∈K6 X.stack,H b=b8:=λb d=>by rcases A3.mp (I.stkSub b d)with e|d;rw[e];exact I.free;obtain⟨_,o,m,_⟩:=I.ok.funs.mem d;exact I.base.free b o m (I.ok.frf b d) λz=>I.ok.exfs b z d
theorem t9.step{g':Array GenState}{t':Nat}{d':Drawn}{ch:List d6}(I:t9 X pins σ H s)(a:∀b∈ch,(b∈X.ex\/X.s₀.heap.objs.size<=b)/\b≠X.env.locals/\(∀x c,X.env.cells.lookup x=b7 c->c≠b)/\∀p∈X.pn++pins,p.1≠b)(g:∀b o,b≠X.env.locals->b∉X.fs->b∉ch->s.heap.get? b=b7 o->H b=b8->h'.get? b=b7 o)(slot:∀b o,b≠X.env.locals->b∈X.fs->b∉ch->s.heap.get? b=b7 o->H b=b8->∃sl,h'.get? b=b7 { o with slots:=sl }) (f:∀b o,b∉ch->s.heap.get? b=b7 o->H b=b8->H' b=b8)(A:∀b o,b∉ch->s.heap.get? b=b7 o->∃o',h'.get? b=b7 o')(G:∀b xs,H b=b7 (.tup xs)->H' b=b7 (.tup xs)) (E:∀b o u,H b=b7 (.frz o u)->H' b=b7 (.frz o u)) (F:∀b ps,H b=b7 (.tbl ps)->∃more,H' b=b7 (.tbl<|ps++more))(ns:∀m,s.heap.Ns X.env.locals m->h'.Ns X.env.locals m) (K:D8 X.prog X.w H' h') (R:ge g') :
  t9 X pins σ H' { s with heap:=h',gens:=g',drawn:=d',toks:=t' }:=by
 have L:∀b o,X.s₀.heap.get? b=b7 o->b≠X.env.locals:=λb o e=>A4<|K4 (A1 e) I.ok.above;have C:∀b o,X.s₀.heap.get? b=b7 o->b∉X.ex->b∉ch:=λb o e h y=>by rcases(a b y).1 with z|z;exact h z;exact p5 (K4 (A1 e) z)<|J4 _
 have cellK:∀x c,X.env.cells.lookup x=b7 c->∀v,s.heap.IsCell c v->h'.IsCell c v:=λx c e v ⟨o,B,J⟩=>by have j:c∉ch:=λz=>(a c z).2.2.1 x c e rfl;by_cases N:c∈X.fs;obtain⟨sl,q⟩:=slot c o (I.cne x c e) N j B<|I.freeC x c e;exact⟨_,q,J⟩;exact⟨o,g c o (I.cne x c e) N j B<|I.freeC x c e,J⟩
 refine⟨I.ok,I.os,R,⟨λb o e n y h=>?_,λb o e n y h=>?_,λb o e n h=>?_,λb o e h=>?_,λb xs e=>G b xs<|I.base.tups b xs e,λb o xs e=>E b o xs<|I.base.frzs b o xs e,λb ps e=>?_⟩,?_,λx c e=>?_,?_,λx c e=>?_,λp hp=>?_,K,I.len⟩;exact g b o (L b o e) y (C b o e h) (I.base.keep b o e n y h)<|I.base.free b o e n h;obtain⟨sl,t⟩:=I.base.slot b o e n y h;obtain⟨M,D⟩:=slot b _ (L b o e) y (C b o e h) t<|I.base.free b o e n h;exact⟨M,D⟩;obtain⟨o',t⟩:=I.base.there b o e h;exact f b o' (C b o e h) t<|I.base.free b o e n h;obtain⟨o',t⟩:=I.base.there b o e h;exact A b o' (C b o e h) t;obtain⟨U,t⟩:=I.base.tbls b ps e;obtain⟨V,D⟩:=F b _ t;exact⟨U++V,by rw[D,Array.append_assoc]⟩;obtain⟨m,T,S⟩:=I.loc;refine⟨m,ns m T,λi x v t D Q=>?_⟩;obtain⟨u,r,l⟩:=S i x v t D Q;refine⟨u,r,?_⟩;rcases l with l|⟨k,c,e,z⟩
 exact .inl l;exact .inr ⟨k,c,e,cellK x c e _ z⟩;obtain⟨v,z⟩:=I.cell x c e;exact⟨v,cellK x c e v z⟩;obtain⟨m,⟨o,_,_,B,_⟩,_⟩:=I.loc;exact f _ o (λz=>(a _ z).2.1 rfl) B I.free;obtain⟨v,o,B,J⟩:=I.cell x c e;exact f c o (λz=>(a c z).2.2.1 x c e rfl) B<|I.freeC x c e;obtain⟨e,n,O,P,d⟩:=I.pin p hp;have j:p.1∉ch:=λz=>(a p.1 z).2.2.2 p hp rfl;exact⟨g p.1 p.2 O P j e n,f p.1 p.2 j e n,O,P,d⟩
theorem t9.un{t':Nat}(I:t9 X pins σ H s)(u:Un X.fs [] H H' s.heap h')(K:D8 X.prog X.w H' h'):t9 X pins σ H' { s with heap:=h',toks:=t' }:=by obtain⟨m,⟨o,es,i,f,r⟩,_⟩:=id I.loc;obtain⟨p,L⟩:=u.any f I.free (by simp);exact I.step (g':=s.gens) (d':=s.drawn) (ch:=[]) (λ_ z=>nomatch z) (λb o _ h _ e n=>u.keep b o e n h<|by simp) (λb o _ h _ e n=>u.slot b o e n h<|by simp) (λb o _ e n=>u.free b o e n<|by simp) (λb o _ e=>u.there b o e<|by simp) u.tups u.frzs u.tbls (λj g=>by obtain⟨o',d,c,a,r'⟩:=g;rw[f]at a;cases a;exact⟨_,d,c,L,r'⟩) K I.bare
theorem t9.call{g':Array GenState}{t':Nat}{d':Drawn}{ch:List d6}(I:t9 X pins σ H s)(u:Un (K6 X.stack) ch H H' s.heap h')(K:D8 X.prog X.w H' h')(R:ge g')(a:∀b∈ch,(b∈X.ex\/X.s₀.heap.objs.size<=b)/\b≠X.env.locals/\(∀x c,X.env.cells.lookup x=b7 c->c≠b)/\∀p∈X.pn++pins,p.1≠b):t9 X pins σ H' { s with heap:=h',gens:=g',drawn:=d',toks:=t' }:=by obtain⟨m,⟨o,es,l,i,r⟩,_⟩:=id I.loc;obtain⟨t,L⟩:=u.any i I.free λz=>(a _ z).2.1 rfl;exact I.step (ch:=ch) a (λb o L j f e n=>u.keep b o e n (λz=>(A3.mp<|I.stkSub b z).elim L j) f) (λb o _ _ f e n=>u.any e n f) (λb o f e n=>u.free b o e n f) (λb o f e=>u.there b o e f) u.tups u.frzs u.tbls (λq k=>by obtain⟨o',g,d,h,r'⟩:=k;rw[i]at h;cases h;exact⟨_,g,d,L,r'⟩) K R
theorem t9.turned{t':Nat}{it:d6}(I:t9 X pins σ H s)(k:∀b o,b≠it->s.heap.get? b=b7 o->h'.get? b=b7 o)(j:H it=b8)(h:it≠X.env.locals)(h1:it∈X.ex\/X.s₀.heap.objs.size<=it) (h2:∀x c,X.env.cells.lookup x=b7 c->c≠it) (a:∀p∈X.pn++pins,p.1≠it):t9 X pins σ H { s with heap:=h',toks:=t' }:=by
 have t:∀b u,H b=b7 u->b≠it:=λb u e z=>by rw[z,j]at e;cases e
 refine I.step (g':=s.gens) (d':=s.drawn) (ch:=[it]) (λb d=>?_) (λb o _ _ f e _=>k b o (λz=>f<|by simp[z]) e) (λb o _ _ f e _=>⟨o.slots,k b o (λz=>f<|by simp[z]) e⟩) (λ_ _ _ _ n=>n) (λb o f e=>⟨o,k b o (λz=>f<|by simp[z]) e⟩) (λ_ _ e=>e) (λ_ _ _ e=>e) (λb ps e=>⟨#[],by rw[e];simp⟩) (λm g=>?_) (λb u e=>?_) I.bare;have e:b=it:=by simpa using d
 subst e;exact⟨h1,h,h2,a⟩;obtain⟨o,es,i,l,r⟩:=g;exact⟨o,es,i,k _ o (A2 h) l,r⟩;refine(I.hok b u e).stay (λc v f q=>k c v ?_ q) (λ_ q=>q) λ_ _ q=>q;rcases f with z|z;rw[z];exact t b u e;exact t c _ z
theorem t9.tok(I:t9 X pins σ H s)(t:Nat):t9 X pins σ H { s with toks:=t }:=I.un (h':=s.heap) (t':=t) Un.refl I.hok
theorem t9.kept(I:t9 X pins σ H s)(k:∀b u,s.heap.get? b=b7 u->h'.get? b=b7 u):t9 X pins σ H { s with heap:=h',toks:=t' }:=I.un (Un.kept k)<|I.hok.kept k
theorem t9.laid(I:t9 X pins σ H s)(k:∀b u,s.heap.get? b=b7 u->h'.get? b=b7 u)(hp:s.heap.objs.size<=a)(n:bY X.prog X.w (x3 H a o) h' a o):t9 X pins σ (x3 H a o) { s with heap:=h',toks:=t' }:=I.un (Un.laid k hp<|I.hok.fresh hp)<|I.hok.laid k hp n
theorem t9.write(I:t9 X pins σ H s)(m:Qa (H x))(i:e=x\/H e=b7 (.own x))(k:∀b u,b≠e->s.heap.get? b=b7 u->h'.get? b=b7 u)(h:∃u,h'.get? e=b7 u)(n:bY X.prog X.w (x3 H x o) h' x o):t9 X pins σ (x3 H x o) { s with heap:=h',toks:=t' }:=I.un (Un.write m i k h)<|I.hok.write m i k h n
theorem t9.pins_of(I:t9 X pins σ H s)(h:∀p∈pins',s.heap.get? p.1=b7 p.2/\H p.1=b8/\p.1≠X.env.locals/\p.1∉X.fs/\∀v,p.2.data≠.cell v):t9 X pins' σ H s:=⟨I.ok,I.os,I.bare,I.base,I.loc,I.cell,I.free,I.freeC,λp hp=>(F3.mp hp).elim (λz=>I.pin p<|Np _ z)<|h p,I.hok,I.len⟩
theorem xF{N:List c8}(h:N.Nodup){i j:Nat}{x:c8}(a:N[i]?=b7 x)(b:N[j]?=b7 x):i=j:=by obtain⟨h1,t⟩:=z9.mp a;obtain⟨h2,l⟩:=z9.mp b;exact(List.getElem_inj h).mp<|t.trans l.symm
theorem Aj{M:Model}{A:f7}{E:c7->f8->Prop}{i:Nat}{x:c8}{v:V}{u:c7}{Q:Unit->f8->Prop}(I:t9 X pins σ H s)(hN:X.N.Nodup)(hi:X.N[i]?=b7 x)(l:Oo X.env.scope x)(r:aK v u)(h:∀s',t9 X pins (σ.set i<|b7 v) H s'->(∃a,I0 a s.heap s'.heap/\(a=X.env.locals\/X.env.cells.lookup x=b7 a))->Q () s') (hf:X.fn x=b9\/X.env.scope.names.lookup x=b7 .local:=by first|exact .inl rfl|exact .inr rfl|assumption):g7 M A (storeName X.env x u) Q E s:=by
 obtain⟨m,hn,hl⟩:=id I.loc;have R:(X.env.scope.kind==.class||(X.env.scope.kind==.module&&X.env.locals != X.env.globals))=c5:=by rw[I.ok.kind];rfl
 have D:i<σ.length:=by rw[I.len];exact(z9.mp hi).1
 have G:=I.cne;have f:∀{a:d6}{h':d8},(∃o,s.heap.get? a=b7 o/\H a=b8)->I0 a s.heap h'->D8 X.prog X.w H h':=λ{a h'} ha hs b ob e=>by obtain⟨_,_,B⟩:=ha;refine(I.hok b ob e).stay (λc Y g q=>(hs.2 c ?_).trans q) (λ_ q=>q) λ_ _ q=>q;rintro rfl;rcases g with rfl|g;rw[B]at e;cases e;rw[B]at g;cases g
 rcases l with F|F;refine wpAny_storeName_local F hn (λh' ai hs=>?_) R;obtain⟨oL,_,_,aj,_⟩:=id hn;refine h _ ⟨I.ok,I.os,I.bare,⟨λb o e n J l=>?_,λb o e n J l=>?_,I.base.free,λb o e l=>?_,I.base.tups,I.base.frzs,I.base.tbls⟩,⟨_,ai,λj y v' t C Z=>?_⟩,λy c e=>?_,I.free,I.freeC,λp hp=>?_,f ⟨oL,aj,I.free⟩ hs,by simpa using I.len⟩ ⟨_,hs,.inl rfl⟩;exact(hs.2 b<|A4<|K4 (A1 e) I.ok.above).trans<|I.base.keep b o e n J l;obtain⟨sl,t⟩:=I.base.slot b o e n J l;exact⟨sl,(hs.2 b<|A4<|K4 (A1 e) I.ok.above).trans t⟩;obtain⟨o',t⟩:=I.base.there b o e l;exact⟨o',(hs.2 b<|A4<|K4 (A1 e) I.ok.above).trans t⟩;by_cases L:j=i;subst L;rw[hi]at t;cases t;rw[Nj D]at C;cases C;exact⟨u,r,.inl ⟨F,by simp⟩⟩;rw[Na<|A2 L]at C;obtain⟨u',r',q⟩:=hl j y v' t C Z;refine⟨u',r',?_⟩;rcases q with⟨k,e⟩|⟨k,c,e,z⟩
 refine .inl ⟨k,?_⟩;have:y≠x:=λe=>L<|xF hN t<|e ▸ hi;simp[this,e];exact .inr ⟨k,c,e,z.sameBut hs<|G y c e⟩;obtain⟨Y,z⟩:=I.cell y c e;exact⟨Y,z.sameBut hs<|G y c e⟩;obtain⟨e,n,W,nf,d⟩:=I.pin p hp;exact⟨(hs.2 p.1 W).trans e,n,W,nf,d⟩;have K:X.fn x=b9:=by rcases hf with z|z;exact z;rw[z]at F;cases F
 obtain⟨c,g⟩:=I.ok.has x<|.inl F;obtain⟨Y,z⟩:=I.cell x c g;refine wpAny_storeName_cell I.ok.kind F g z<|λh' O hs=>?_;obtain⟨oc,S,T⟩:=id z;refine h { s with heap:=h' } ⟨I.ok,I.os,I.bare,⟨λb o e n J l=>?_,λb o e n J l=>?_,I.base.free,λb o e l=>?_,I.base.tups,I.base.frzs,I.base.tbls⟩,⟨m,hn.sameBut hs<|A2<|G x c g,λj y v' t C Z=>?_⟩,λy U e=>?_,I.free,I.freeC,λp hp=>?_,f ⟨oc,S,I.freeC x c g⟩ hs,by simpa using I.len⟩ ⟨c,hs,.inr g⟩;exact(hs.2 b<|A4<|K4 (A1 e)<|I.ok.cab x c K g).trans<|I.base.keep b o e n J l;obtain⟨sl,t⟩:=I.base.slot b o e n J l;exact⟨sl,(hs.2 b<|A4<|K4 (A1 e)<|I.ok.cab x c K g).trans t⟩;obtain⟨o',t⟩:=I.base.there b o e l;exact⟨o',(hs.2 b<|A4<|K4 (A1 e)<|I.ok.cab x c K g).trans t⟩;by_cases L:j=i;subst L;rw[hi]at t;cases t;rw[Nj D]at C;cases C;exact⟨u,r,.inr ⟨.inl F,c,g,O⟩⟩;rw[Na<|A2 L]at C;obtain⟨u',r',q⟩:=hl j y v' t C Z;refine⟨u',r',?_⟩;rcases q with q|⟨k,U,e,z'⟩
 exact .inl q;refine .inr ⟨k,U,e,z'.sameBut hs ?_⟩;rintro rfl;exact L<|xF hN t<|I.ok.inj _ _ _ e g ▸ hi;by_cases P:U=c;subst P;exact⟨_,O⟩;obtain⟨w2,z2⟩:=I.cell y U e;exact⟨w2,z2.sameBut hs P⟩;obtain⟨e,n,W,nf,d⟩:=I.pin p hp;refine⟨(hs.2 p.1 ?_).trans e,n,W,nf,d⟩;intro q;rw[q,S]at e;have q':oc=p.2:=C0 e;exact d Y<|by rw[<-q'];exact T
theorem xt(I:t9 X pins σ H s)(b:X.N.Nodup)(hi:X.N[i]?=b7 x)(c:Oo X.env.scope x)(r:aK v u)(h:∀s',t9 X pins (σ.set i<|b7 v) H s'->Q () s') (f:X.fn x=b9\/X.env.scope.names.lookup x=b7 .local:=by first|exact .inl rfl|exact .inr rfl|assumption):g7 M A (storeName X.env x u) Q E s:=Aj I b hi c r (λs' a _=>h s' a) f
theorem t9.call'(I:t9 X pins σ H s)(m:s'.os=s.os)(u:Un (K6 X.stack) ch H H' s.heap s'.heap)(K:D8 X.prog X.w H' s'.heap)(R:ge s'.gens)(a:∀b∈ch,(b∈X.ex\/X.s₀.heap.objs.size<=b)/\b≠X.env.locals/\(∀x c,X.env.cells.lookup x=b7 c->c≠b)/\∀p∈X.pn++pins,p.1≠b):t9 X pins σ H' s':=by obtain⟨h',g',d',t',o'⟩:=s';have e:o'=s.os:=m;subst e;exact I.call (g':=g') (t':=t') (d':=d') u K R a
abbrev XK:=c7->Option d6->Hp->Prop
noncomputable abbrev St:=List<|Option V
abbrev VK:=V->Hp->Prop
abbrev TE:=St->Hp->VK->Prop
abbrev TT:=St->Hp->(Bool->Hp->Prop)->Prop
abbrev TA:=St->Hp->(List V->Hp->Prop)->Prop
structure Ends where
 nx:St->Hp->Prop
 rt:VK
 bk:St->Hp->Prop:=λ_ _=>False
 ct:St->Hp->Prop:=λ_ _=>False
abbrev TS:=Ends->St->Hp->Prop
inductive EP(X:Cx)(pins:List (d6×d7))(σ:St)(Q:VK)(u:c7)(s':f8):Prop
 |mk (v:_) (H':_) (f0:t9 X pins σ H' s') (f1:aK v u) (f2:Q v H')
inductive TP(X:Cx)(pins:List (d6×d7))(σ:St)(Q:Bool->Hp->Prop)(b:Bool)(s':f8):Prop
 |mk (H':_) (f0:t9 X pins σ H' s') (f1:Q b H')
inductive AP(X:Cx)(pins:List (d6×d7))(σ:St)(Q:List V->Hp->Prop)(us:List c7)(s':f8):Prop
 |mk (vs:_) (H':_) (f0:t9 X pins σ H' s') (f1:ay vs us) (f2:Q vs H')
def SP(X:Cx)(pins:List (d6×d7))(D:Ends)(f:Flow)(s':f8):Prop:=match f with
 |.next=>∃a H',t9 X pins a H' s'/\D.nx a H'
 |.brk=>∃a H',t9 X pins a H' s'/\D.bk a H'
 |.cont=>∃a H',t9 X pins a H' s'/\D.ct a H'
 |.ret u=>∃v a H',t9 X pins a H' s'/\aK v u/\D.rt v H'
def PE(X:Cx)(e:g8)(t:TE):Prop:=∀(p:List (d6×d7)) (s:f8) (σ:St) (H:Hp) (Q:VK),t9 X p σ H s->t σ H Q->g7 (h7 X.prog X.w) X.A (eval e X.env) (EP X p σ Q) X.xe s
def PT(X:Cx)(e:g8)(t:TT):Prop:=∀(p:List (d6×d7)) (s:f8) (σ:St) (H:Hp) (Q:Bool->Hp->Prop),t9 X p σ H s->t σ H Q->g7 (h7 X.prog X.w) X.A (isTrue e X.env<|eval e X.env) (TP X p σ Q) X.xe s
def PW(X:Cx)(e:g8)(t:TT):Prop:=∀(a:Sem c7) (p:List (d6×d7)) (s:f8) (σ:St) (H:Hp) (Q:Bool->Hp->Prop),t9 X p σ H s->t σ H Q->g7 (h7 X.prog X.w) X.A (isTrue e X.env a) (TP X p σ Q) X.xe s
theorem PW.pt(h:PW X e t):PT X e t:=h _
def PA(X:Cx)(es:List g8)(t:TA):Prop:=∀(a:Pos) (p:List (d6×d7)) (s:f8) (σ:St) (H:Hp) (Q:List V->Hp->Prop),t9 X p σ H s->t σ H Q->g7 (h7 X.prog X.w) X.A (spliced<|i3 a<|i4 es X.env) (AP X p σ Q) X.xe s
def PS(X:Cx)(st:i5)(t:TS):Prop:=∀(p:List (d6×d7)) (s:f8) (σ:St) (H:Hp) (D:Ends),t9 X p σ H s->t D σ H->g7 (h7 X.prog X.w) X.A (exec st X.env) (SP X p D) X.xe s
def L4(X:Cx)(st:List i5)(t:TS):Prop:=∀(p:List (d6×d7)) (s:f8) (σ:St) (H:Hp) (D:Ends),t9 X p σ H s->t D σ H->g7 (h7 X.prog X.w) X.A (execs st X.env) (SP X p D) X.xe s
theorem w6{α:Type}{t:Sem α}{Q Q':α->f8->Prop}{M:Model}{A:f7}{E:c7->f8->Prop}{s:f8}(h:g7 M A t Q E s)(b:∀a s,Q a s->Q' a s):g7 M A t Q' E s:=L7 h b λ_ _ x=>x
section
variable{X:Cx}
def tVar(i:Nat):TE:=λσ H Q=>∃v,σ[i]?=b7 (b7 v)/\Q v H
def tC(v:V):TE:=λ_ H Q=>Q v H
theorem FI(g:X.N[i]?=b7 x)(t:ON X.env.scope x)(b:(x==("__debug__":c8))=c5:=by decide)(d:(x==("__classdict__":c8))=c5:=by decide):PE X (.Name x pos) (tVar i):=by
 intro p s σ H Q I h;obtain⟨v,e,h⟩:=h;obtain⟨m,q,j⟩:=I.loc;obtain⟨u,r,l⟩:=j i x v g e t;have n:EP X p σ Q u s:=⟨v,H,I,r,h⟩
 rcases l with⟨k,o⟩|⟨k,c,f,a⟩
 exact wpAny_Name (wpAny_loadName_local I.ok.kind k q o n) b;rcases k with k|k;exact wpAny_Name (wpAny_loadName_cell I.ok.kind k f a n) b;exact wpAny_Name (wpAny_loadName_free I.ok.kind k f a n d) b
theorem JY{i j pos}:PE X (.Constant (.int i) j pos) (tC<|.int i):=λ_ _ _ H _ I h=>wpAny_Constant_int ⟨.int i,H,I.tok _,⟨_,rfl⟩,h⟩
theorem pe_bl{b j pos}:PE X (.Constant (.bool b) j pos) (tC<|.bl b):=λ_ _ _ H _ I h=>Constant_bool ⟨.bl b,H,I,rfl,h⟩
theorem JW{j pos}:PE X (.Constant .none j pos) (tC .non):=λ_ _ _ H _ I h=>Constant_none ⟨.non,H,I,rfl,h⟩
theorem JT{x j pos}:PE X (.Constant (.str x) j pos) (tC<|.str x):=λ_ _ _ H _ I h=>Calls.Constant_str ⟨.str x,H,I.tok _,⟨_,rfl⟩,h⟩
def Gl(X:Cx)(x:c8):Prop:=X.env.kindOf x=b7 .globalImplicit
theorem Hn(I:t9 X pins σ H s)(R:Gl X x)(m:X.mg x=b7 u)(h:Q u s)(d:(x==("__debug__":c8))=c5:=by decide):g7 (h7 X.prog X.w) X.A (eval (.Name x pos) X.env) Q E s:=Calls.Name_function_global I.ok.kind R (Calls.loadGlobal_global (by rw[I.ok.glob];exact I.mod.glob.keeps I.bk) m h) d
theorem lA(I:t9 X pins σ H s)(R:Gl X x)(m:X.mg x=b8)(c:f6 x=b7 u)(h:Q u s)(f:x≠"__name__":=by decide) (d:(x==("__debug__":c8))=c5:=by decide):g7 (h7 X.prog X.w) X.A (eval (.Name x pos) X.env) Q E s:=by obtain⟨mb,h1,h2⟩:=I.mod.blt;exact Calls.Name_function_global I.ok.kind R (Calls.loadGlobal_builtin (by rw[I.ok.glob];exact I.mod.glob.keeps I.bk) m (by rw[I.ok.blt];exact h1.keeps I.bk) ((h2 x f).trans c) h) d
theorem GS(R:Gl X x)(m:X.mg x=b8)(c:f6 x=b7 u)(r:aK v u)(f:x≠"__name__":=by decide)(d:(x==("__debug__":c8))=c5:=by decide):PE X (.Name x pos) (tC v):=λ_ _ _ H _ I h=>lA I R m c ⟨v,H,I,r,h⟩ f d
variable{a b:g8}{ta tb:TE}{pos:Pos}
theorem aK.none_iff(r:aK x v):(v==ABQ)=decide (x=.non):=by
 cases x with
 |non=>cases r;rfl
 |bl _=>cases r;rfl
 |int _=>obtain⟨t,rfl⟩:=r;rfl
 |str _=>obtain⟨t,rfl⟩:=r;rfl
 |byt _=>obtain⟨t,rfl⟩:=r;rfl
 |flt _=>obtain⟨t,rfl⟩:=r;rfl
 |ref _=>cases r;rfl
 |ty _=>cases r;rfl
def tB(t:TE):TT:=λσ H Q=>t σ H λx a=>∃c,x=.bl c/\Q c a
theorem JK(h:PE X e t)(i:∀whole,isTrue e X.env whole=(do let v <-whole;standAt e.pos;i6 [v] (truthy v)):=by intro _;rfl):PT X e (tB t):=by intro p s σ H Q I w;refine isTrue_plain (w6 (h p s σ H _ I w) ?_)<|i _;rintro v f ⟨x,a,b,r,c⟩;obtain⟨d,rfl,q⟩:=c;cases r;exact O3 ⟨a,b,q⟩
variable{tA tB':TT}{aL:List g8}
def tAnd(t u:TT):TT:=λσ H Q=>t σ H λc a=>if c=b9 then u σ a Q else Q c5 a
def tOr(t u:TT):TT:=λσ H Q=>t σ H λc a=>if c=b9 then Q b9 a else u σ a Q
def tNot(t:TT):TT:=λσ H Q=>t σ H λc a=>Q (!c) a
theorem GC(f:PT X a tA):PW X (.BoolOp .And [a] pos) tA:=by
 intro w p s σ H Q I h;refine isTrue_and<|w6 (f p s σ H Q I h) λc b e=>?_;cases c with
 |true=>exact isTrue_and_nil e
 |false=>exact e
theorem JH(f:PT X a tA):PW X (.BoolOp .Or [a] pos) tA:=by
 intro w p s σ H Q I h;refine isTrue_or<|w6 (f p s σ H Q I h) λc b e=>?_;cases c with
 |false=>exact isTrue_or_nil e
 |true=>exact e
theorem JJ(f:PT X a tA)(g:PW X (.BoolOp .And (b::aL) pos) tB'):PW X (.BoolOp .And (a::b::aL) pos) (tAnd tA tB'):=by
 intro w p s σ H Q I h;refine isTrue_and<|w6 (f p s σ H _ I h) ?_;rintro c i ⟨d,e,q⟩;cases c with
 |true=>exact g w p i σ d Q e q
 |false=>exact⟨d,e,q⟩
theorem pw_or(f:PT X a tA)(g:PW X (.BoolOp .Or (b::aL) pos) tB'):PW X (.BoolOp .Or (a::b::aL) pos) (tOr tA tB'):=by
 intro w p s σ H Q I h;refine isTrue_or<|w6 (f p s σ H _ I h) ?_;rintro c i ⟨d,e,q⟩;cases c with
 |true=>exact⟨d,e,q⟩
 |false=>exact g w p i σ d Q e q
theorem JL(f:PT X a tA):PT X (.UnaryOp .Not a pos) (tNot tA):=by intro p s σ H Q I h;refine isTrue_not<|w6 (f p s σ H (λc b=>Q (!c) b) I h) ?_;rintro c e ⟨b,d,q⟩;exact⟨b,d,q⟩
def tAndV(t b:TE):TE:=λσ H Q=>t σ H λx a=>∃c,x=.bl c/\if c=b9 then b σ a Q else Q (.bl c5) a
def tOrV(t b:TE):TE:=λσ H Q=>t σ H λx a=>∃c,x=.bl c/\if c=b9 then Q (.bl b9) a else b σ a Q
def tNotV(t:TE):TE:=λσ H Q=>t σ H λx a=>∃c,x=.bl c/\Q (.bl<|!c) a
theorem JU{op}(h:PE X a t):PE X (.BoolOp op [a] pos) t:=λp s σ H Q I w=>BoolOp_one<|h p s σ H Q I w
theorem Kb(f:PE X a ta)(g:PE X (.BoolOp .And (b::aL) pos) tb):PE X (.BoolOp .And (a::b::aL) pos) (tAndV ta tb):=by
 intro p s σ H Q I h;refine BoolOp_and<|w6 (f p s σ H _ I h) ?_;rintro v i ⟨x,d,e,r,q⟩;obtain⟨c,rfl,q⟩:=q;cases r;refine O3 ?_;cases c with
 |true=>exact g p i σ d Q e q
 |false=>exact⟨.bl c5,d,e,rfl,q⟩
theorem pe_or(f:PE X a ta)(g:PE X (.BoolOp .Or (b::aL) pos) tb):PE X (.BoolOp .Or (a::b::aL) pos) (tOrV ta tb):=by
 intro p s σ H Q I h;refine BoolOp_or<|w6 (f p s σ H _ I h) ?_;rintro v i ⟨x,d,e,r,q⟩;obtain⟨c,rfl,q⟩:=q;cases r;refine O3 ?_;cases c with
 |false=>exact g p i σ d Q e q
 |true=>exact⟨.bl b9,d,e,rfl,q⟩
theorem JV(f:PE X a ta):PE X (.UnaryOp .Not a pos) (tNotV ta):=by intro p s σ H Q I h;refine UnaryOp_<|w6 (f p s σ H _ I h) ?_;rintro v e ⟨x,b,d,r,q⟩;obtain⟨c,rfl,q⟩:=q;cases r;exact not_of<|O3 ⟨.bl<|!c,b,d,rfl,q⟩
end
def G6(K:u9)(H:Hp)(a:d6)(xs:List V):Prop:=Rd H a (.lst xs) \/∃(o:d7) (its:Array c7) (n:Nat),K.lookup a=b7 o/\o.cls=.type "list"/\o.dict=b8/\o.data=.seq its n/\its.size<=sizeLine/\ay xs its.toList
def B7(K:u9)(H:Hp)(a:d6)(xs:List V):Prop:=Rd H a (.tup xs) \/∃(o:d7) (its:Array c7) (n:Nat),K.lookup a=b7 o/\o.cls=.type "tuple"/\o.dict=b8/\o.data=.seq its n/\its.size<=sizeLine/\ay xs its.toList
noncomputable def absV:c7->Option V
 |.none=>b7 .non
 |.bool b=>b7<|.bl b
 |.int i _=>b7<|.int i
 |.str x _=>b7<|.str x
 |.bytes b _=>b7<|.byt b
 |.float b _=>b7<|.flt b
 |.ref a=>b7<|.ref a
 |.type n=>b7<|.ty n
 |_=>b8
theorem aK.abs(r:aK x u):absV u=b7 x:=by
 cases x with
 |non=>cases r;rfl
 |bl _=>cases r;rfl
 |int _=>obtain⟨t,rfl⟩:=r;rfl
 |str _=>obtain⟨t,rfl⟩:=r;rfl
 |byt _=>obtain⟨t,rfl⟩:=r;rfl
 |flt _=>obtain⟨t,rfl⟩:=r;rfl
 |ref _=>cases r;rfl
 |ty _=>cases r;rfl
theorem aK.inj(r:aK x u)(q:aK y u):x=y:=C0<|r.abs.symm.trans q.abs
theorem ay.inj(h:ay xs us)(h':ay ys us):xs=ys:=by
 induction h generalizing ys with
 |nil=>cases h';rfl
 |cons r t i=>cases h' with
  |cons r' t'=>rw[r.inj r',i t']
theorem B7.of{K:u9}(h:H a=b7 (.tup xs)):B7 K H a xs:=.inl<|.inl h
theorem t9.list(I:t9 X pins σ H s)(h:G6 X.K H a xs):∃its:List c7,ay xs its/\PlainL s.heap a its.toArray/\xs.length<=sizeLine:=by
 rcases h with h|⟨o,its,n,k,f,d,hs,b,r⟩
 obtain⟨z,its,n,r,e⟩:=h.ok I.hok;exact⟨its,r,⟨_,n,e,rfl,rfl,rfl⟩,z⟩;refine⟨its.toList,r,⟨o,n,I.kIn a o k,f,d,by simpa using hs⟩,?_⟩;have e:=r.length;simp only[E1]at e;lia
theorem t9.tuple(I:t9 X pins σ H s)(h:B7 X.K H a xs):∃its:List c7,ay xs its/\IsTup s.heap a its.toArray/\xs.length<=sizeLine:=by
 rcases h with h|⟨o,its,n,k,f,_,hs,b,r⟩
 obtain⟨z,its,r,p⟩:=h.ok I.hok;exact⟨its,r,p.tup,z⟩;refine⟨its.toList,r,⟨o,I.kIn a o k,f,n,by simpa using hs⟩,?_⟩;have e:=r.length;simp only[E1]at e;lia
theorem t9.list_inj(I:t9 X pins σ H s)(h:G6 X.K H a xs)(h':G6 X.K H a ys):xs=ys:=by
 obtain⟨its,r,⟨o,n,e,_,_,d⟩,_⟩:=I.list h;obtain⟨i,r',⟨o',f,c,_,_,b⟩,_⟩:=I.list h';rw[e]at c;cases c;rw[d]at b;injection b with d1 _;have:its=i:=by simpa using t4 Array.toList d1
 subst this;exact r.inj r'
theorem t9.tuple_inj(I:t9 X pins σ H s)(h:B7 X.K H a xs)(h':B7 X.K H a ys):xs=ys:=by
 obtain⟨its,r,⟨o,e,_,n,d⟩,_⟩:=I.tuple h;obtain⟨i,r',⟨o',c,_,f,b⟩,_⟩:=I.tuple h';rw[e]at c;cases c;rw[d]at b;injection b with d1 _;have:its=i:=by simpa using t4 Array.toList d1
 subst this;exact r.inj r'
noncomputable abbrev Cx.wish(X:Cx)(E:c7->f8->Prop):Cx:={ X with xe:=E }
noncomputable abbrev Cx.nox(X:Cx):Cx:=X.wish λ_ _=>False
theorem Cx.Ok.wish{X:Cx}(ok:X.Ok)(E:c7->f8->Prop):(X.wish E).Ok:=⟨ok.mod,ok.kind,ok.glob,ok.blt,ok.above,ok.inj,ok.has,ok.cab,ok.hd,ok.frames,ok.stk,ok.exf,ok.bs,ok.bsz,ok.noex,ok.exfs,ok.funs,ok.frf⟩
theorem Cx.Ok.unwish{X:Cx}{E:c7->f8->Prop}(ok:(X.wish E).Ok):X.Ok:=⟨ok.mod,ok.kind,ok.glob,ok.blt,ok.above,ok.inj,ok.has,ok.cab,ok.hd,ok.frames,ok.stk,ok.exf,ok.bs,ok.bsz,ok.noex,ok.exfs,ok.funs,ok.frf⟩
theorem t9.wish(I:t9 X pins σ H s)(E:c7->f8->Prop):t9 (X.wish E) pins σ H s:=⟨I.ok.wish E,I.os,I.bare,I.base,I.loc,I.cell,I.free,I.freeC,I.pin,I.hok,I.len⟩
theorem t9.unwish(I:t9 (X.wish E) pins σ H s):t9 X pins σ H s:=⟨I.ok.unwish,I.os,I.bare,I.base,I.loc,I.cell,I.free,I.freeC,I.pin,I.hok,I.len⟩
theorem SP.unwish(h:SP (X.wish E) pins D f s'):SP X pins D f s':=by
 cases f with
 |next=>obtain⟨a,H',I,q⟩:=h;exact⟨a,H',I.unwish,q⟩
 |brk=>obtain⟨a,H',I,q⟩:=h;exact⟨a,H',I.unwish,q⟩
 |cont=>obtain⟨a,H',I,q⟩:=h;exact⟨a,H',I.unwish,q⟩
 |ret u=>obtain⟨v,a,H',I,r,q⟩:=h;exact⟨v,a,H',I.unwish,r,q⟩
theorem L4.nox{st:List i5}{t:TS}(h:L4 X.nox st t):L4 X st t:=λp s σ H D I w =>
 L7 (h p s σ H D (I.wish _) w) (λ_ _ q=>q.unwish) λ_ _ z=>NQ z
def tNext:TS:=λD σ H=>D.nx σ H
def tSeq(t u:TS):TS:=λD σ H=>t { D with nx:=u D } σ H
theorem GI:L4 X [] tNext:=λ_ _ σ H _ I h=>Q9 ⟨σ,H,I,h⟩
theorem Dq{X:Cx}{st:i5}{aL:List i5}{t u:TS}(h1:PS X st t)(h2:L4 X aL u):L4 X (st::aL) (tSeq t u):=by
 intro p s σ H D I h;refine wpAny_execs_cons<|w6 (h1 p s σ H { D with nx:=u D } I h) λf c q=>?_;cases f with
 |next=>obtain⟨a,H',b,q⟩:=q;exact h2 p c a H' D b q
 |ret v=>exact q
 |brk=>exact q
 |cont=>exact q
theorem GH{X:Cx}{st:i5}{t:TS}(h1:PS X st t):L4 X [st] t:=by
 intro p s σ H D I h;refine wpAny_execs_cons<|w6 (h1 p s σ H D I h) λf a q=>?_;cases f with
 |next=>exact Q9 q
 |ret v=>exact q
 |brk=>exact q
 |cont=>exact q
theorem t9.quiet(I:t9 X pins σ H s):interactive X.env=c5:=by simp[interactive,I.ok.kind]
def tDrop(te:TE):TS:=λD σ H=>te σ H λ_ a=>D.nx σ a
theorem GJ(i:PE X e te)(hs:i7 e b8 pos.line X.env=pure c5:=by rfl):PS X (.Expr e pos) (tDrop te):=by intro p s σ H D I h;exact wpAny_Expr_any (w6 (i p s σ H _ I h) λv f ⟨x,a,b,r,c⟩=>⟨σ,a,b,c⟩) I.quiet hs
def tRet(te:TE):TS:=λD σ H=>te σ H D.rt
theorem JN(i:PE X e te):PS X (.Return (b7 e) pos) (tRet te):=by intro p s σ H D I h;refine wpAny_Return_some<|w6 (i p s σ H _ I h) ?_;rintro v f ⟨x,a,b,r,c⟩;exact⟨x,σ,a,b,r,c⟩
def tIfS(c:TT)(t u:TS):TS:=λD σ H=>c σ H λb a=>if b=b9 then t D σ a else u D σ a
theorem ps_if(k:PT X c tc)(i:L4 X a t)(j:L4 X b u):PS X (.If c a b pos) (tIfS tc t u):=by
 intro p s σ H D I h;refine wpAny_If<|w6 (k p s σ H _ I h) ?_;rintro d g ⟨e,f,q⟩;cases d with
 |true=>exact i p g σ e D f q
 |false=>exact j p g σ e D f q
abbrev TG:=V->St->Hp->(St->Hp->Prop)->Prop
abbrev P5:=List V->St->Hp->(St->Hp->Prop)->Prop
def PG(X:Cx)(a:g8)(t:TG):Prop:=∀(p:List (d6×d7)) (s:f8) (σ:St) (H:Hp) (v:V) (u:c7) (Q:St->Hp->Prop),t9 X p σ H s->aK v u->t v σ H Q ->g7 (h7 X.prog X.w) X.A (i8 a X.env u) (λ_ s'=>∃b H',t9 X p b H' s'/\Q b H') X.xe s
def P8(X:Cx)(b:List g8)(t:P5):Prop:=∀(p:List (d6×d7)) (s:f8) (σ:St) (H:Hp) (vs:List V) (us:List c7) (Q:St->Hp->Prop),t9 X p σ H s->ay vs us->t vs σ H Q ->g7 (h7 X.prog X.w) X.A (assignInOrder ((i9 b X.env).map (·.2)) us) (λ_ s'=>∃a H',t9 X p a H' s'/\Q a H') X.xe s
abbrev TSet:=V->V->V->Hp->(Hp->Prop)->Prop
def PSet(X:Cx)(t:TSet):Prop:=∀(p:List (d6×d7)) (s:f8) (σ:St) (H:Hp) (o i v:V) (b a u:c7) (Q:Hp->Prop),t9 X p σ H s->aK o b->aK i a->aK v u->t o i v H Q ->g7 (h7 X.prog X.w) X.A (setItem b a u) (λ_ s'=>∃H',t9 X p σ H' s'/\Q H') X.xe s
def Lz(i:Nat):TG:=λv σ H Q=>Q (σ.set i<|b7 v) H
theorem GO(b:X.N.Nodup)(hi:X.N[i]?=b7 x)(c:Oo X.env.scope x)(f:X.fn x=b9\/X.env.scope.names.lookup x=b7 .local:=by first|exact .inl rfl|exact .inr rfl|assumption):PG X (.Name x pos) (Lz i):=by intro p s σ H v u Q I r h;exact wpAny_assign_Name<|xt I b hi c r (λs' a=>⟨_,H,a,h⟩) f
def gNil:P5:=λvs σ H Q=>vs=[]/\Q σ H
def gCons(t:TG)(u:P5):P5:=λvs σ H Q=>∃v r,vs=v::r/\t v σ H λa H'=>u r a H' Q
theorem GN:P8 X [] gNil:=by intro p s σ H vs us Q I r h;obtain⟨e,h⟩:=h;subst e;cases r;exact assignInOrder_nil ⟨σ,H,I,h⟩
theorem Du(h1:PG X e t)(h2:P8 X es u)(hs:(i9 (e::es) X.env).map (·.2)=i8 e X.env::(i9 es X.env).map (·.2):=by rfl):P8 X (e::es) (gCons t u):=by
 intro p s σ H vs us Q I r h;obtain⟨v,i,d,h⟩:=h;subst d;cases r with
 |cons r f=>rw[hs];refine assignInOrder_cons<|w6 (h1 p s σ H _ _ _ I r h) ?_;rintro _ g ⟨a,b,c,q⟩;exact h2 p g a b _ _ Q c f q
def gTup(K:u9)(n:Nat)(t:P5):TG:=λv σ H Q=>∃a xs,v=.ref a/\B7 K H a xs/\xs.length=n/\t xs σ H Q
theorem JQ(i:X.calm=b9)(h:P8 X es t)(j:(i9 es X.env).length=n:=by rfl) (c:(i9 es X.env).findIdx? (·.1)=b8:=by rfl):PG X (.Tuple es k pos) (gTup X.K n t):=by intro p s σ H v u Q I r w;obtain⟨a,xs,g,q,l,w⟩:=w;subst g;cases r;obtain⟨its,d,B,z⟩:=I.tuple q;refine assign_Tuple_tuple (I.ok.hd i) B (by simp[j,<-l,d.length]) c λh' x=>?_;have f:t9 X p σ H { s with heap:=h' }:=I.kept (t':=s.toks) λb o e=>x b o (A4<|A1 e) e;exact h p _ σ H xs _ Q f (by simpa using d) w
def gSub(e d:TE)(t:TSet):TG:=λv σ H Q=>e σ H λo a=>d σ a λi b=>t o i v b λc=>Q σ c
theorem JR(m:PE X o to)(hi:PE X i ti)(hs:PSet X t)(g:∀v,i8 (.Subscript o i pos) X.env v=(do
   let ov <-i6 [v] (eval o X.env)
   let iv <-i6 [v,ov] (eval i X.env)
   standAt pos
   i6 [v,ov,iv] (setItem ov iv v)
   release [v,ov,iv] []):=by intro _;rfl):PG X (.Subscript o i pos) (gSub to ti t):=by intro p s σ H v u Q I r h;rw[g];refine t6<|E4<|w6 (m p s σ H _ I h) ?_;rintro ov w ⟨x,a,d,l,q⟩;refine t6<|E4<|w6 (hi p w σ a _ d q) ?_;rintro iv z ⟨y,b,e,n,j⟩;refine t6<|wpAny_standAt<|t6<|E4<|w6 (hs p z σ b x y v ov iv u _ e l n r j) ?_;rintro _ A ⟨c,f,k⟩;exact wpAny_release ⟨σ,c,f,k⟩
def tAsg(te:TE)(g:TG):TS:=λD σ H=>te σ H λx a=>g x σ a D.nx
theorem JP(i:PE X e te)(R:PG X tg g)(hs:swapsWithSole [tg] e pos.line X.env=pure c5:=by rfl)(w:swappedStores [tg] e X.env=pure b8:=by rfl)(h1:(i9 [tg] X.env).map (·.2)=[i8 tg X.env]:=by rfl):PS X (.Assign [tg] e pos) (tAsg te g):=by intro p s σ H D I h;refine wpAny_Assign_stores (w6 (i p s σ H _ I h) ?_) hs w;rintro v f ⟨x,a,b,r,c⟩;rw[h1];exact w6 (R p f σ a x v _ b r c) λ_ z q=>q
theorem JM(d:X.N.Nodup)(hi:X.N[i]?=b7 x)(j:Oo X.env.scope x)(f:PE X e te)(hs:i7 e (b7<|.Name x pos') pos.line X.env=pure c5:=by rfl)(g:X.fn x=b9\/X.env.scope.names.lookup x=b7 .local:=by first|exact .inl rfl|exact .inr rfl|assumption):PS X (.Assign [.Name x pos'] e pos) (tAsg te<|Lz i):=by intro p s σ H D I h;refine wpAny_Assign_Name (w6 (f p s σ H _ I h) ?_) hs;rintro v k ⟨y,a,b,r,q⟩;exact xt b d hi j r (λz c=>⟨_,a,c,q⟩) g
def FF(c:TT)(t:TS):TS:=λD σ H=>∃W:Nat->St->Hp->Prop,(∃m,W m σ H)/\∀m σ H,W m σ H ->c σ H λb d=>if b=b9 then ∃N:St->Hp->Prop,(∀a H',N a H'->∃j,j < m/\W j a H')/\t { D with nx:=N,ct:=N,bk:=D.nx } σ d else D.nx σ d
theorem Dr(hp:PassesOwn (h7 X.prog X.w) X.A X.env X.xe)(C:PT X c tc)(B:L4 X body tb):PS X (.While c body [] pos) (FF tc tb):=by
 intro p s σ H D I h;obtain⟨W,⟨E,J⟩,t⟩:=h;refine wpAny_While<|codeAny_whileLoop (λn s'=>∃g H',t9 X p g H' s'/\W n g H') ?_ E ⟨σ,H,I,J⟩;rintro n F ⟨d,r,z,K⟩;refine OX hp<|w6 (C p F d r _ z<|t n d r K) ?_;rintro b G ⟨u,x,j⟩;cases b with
 |true =>
  obtain⟨N,y,j⟩:=j;rw[p0 rfl];refine OX hp<|w6 (B p G d u _ x j) λf L k=>?_;cases f with
  |next=>obtain⟨a,e,i,o⟩:=k;obtain⟨l,m,q⟩:=y a e o;exact⟨l,m,a,e,i,q⟩
  |cont=>obtain⟨a,e,i,o⟩:=k;obtain⟨l,m,q⟩:=y a e o;exact⟨l,m,a,e,i,q⟩
  |brk=>exact k
  |ret v=>exact k
 |false=>rw[p4 M8];exact Q9 ⟨d,u,x,j⟩
structure It where
 go:Nat->Hp->Prop
 yld:Nat->Hp->V->Hp->Prop
 stop:Nat->Hp->Prop
def yf(X:Cx)(pins:List (d6×d7))(H:Hp)(b:d6):Prop:=H b=b8/\b≠X.env.locals/\b∉X.fs/\(b∈X.ex\/X.s₀.heap.objs.size<=b)/\(∀x c,X.env.cells.lookup x=b7 c->c≠b)/\∀p∈X.pn++pins,p.1≠b
theorem t9.fpOk(I:t9 X pins σ H s)(d:s.heap.objs.size<=b)(f:H' b=b8):yf X pins H' b:=by refine⟨f,NF<|K4 I.lt d,I.nofs d,.inr<|J1 I.sz d,λx c e z=>?_,λp hp z=>?_⟩;obtain⟨v,q⟩:=I.cell x c e;exact p5 (K4 q.lt<|by rw[z];exact d)<|J4 _;exact p5 (K4 (A1 (I.pin p hp).1)<|by rw[z];exact d)<|J4 _
structure Turn(P:d5)(w:c9)(K:u9)(tg:g8)(J:It)(fp:List d6)(it:d6)(tn:Nat->d8->Prop):Prop where
 mem:it∈fp
 obj:∀i h,tn i h->∀b∈fp,∃o,h.get? b=b7 o/\∀v,o.data≠.cell v
 keep:∀i h h',tn i h->(∀b∈fp,∀o,h.get? b=b7 o->h'.get? b=b7 o)->tn i h'
 item:∀(X:Cx),X.prog=P->X.w=w->X.K=K->X.calm=b9->∀(i:Nat) (pins:List (d6×d7)) (s:f8) (σ:St) (H:Hp) (E:c7->f8->Prop),t9 X pins σ H s->(∀b∈fp,yf X pins H b)->tn i s.heap->J.go i H ->g7 (h7 P w) X.A (j0<|.ref it) (λr s1=>∃u,r=b7 u /\ g7 (h7 P w) X.A (j1 tg (.ref it) u) (λ_ s2=>∃x H',t9 X pins σ H' s2/\aK x u/\J.yld i H x H'/\tn (i+1) s2.heap/\∀b∈fp,H' b=b8) E s1) E s
 done:∀(X:Cx),X.prog=P->X.w=w->X.K=K->X.calm=b9->∀(i:Nat) (pins:List (d6×d7)) (s:f8) (σ:St) (H:Hp) (E:c7->f8->Prop),t9 X pins σ H s->(∀b∈fp,yf X pins H b)->tn i s.heap->J.stop i H ->g7 (h7 P w) X.A (j0<|.ref it) (λr s1=>r=b8/\t9 X pins σ H s1) E s
 self:∀(A:f7) (i:Nat) (s:f8) (Q:c7->f8->Prop) (E:c7->f8->Prop),tn i s.heap->Q (.ref it) s->g7 (h7 P w) A (j2<|.ref it) Q E s
abbrev TI:=St->Hp->(It->Hp->Prop)->Prop
inductive P7(X:Cx)(pins:List (d6×d7))(σ:St)(tg:g8)(R:It->Hp->Prop)(itv:c7)(s2:f8):Prop
 |mk (it:d6) (fp:List d6) (tn:Nat->d8->Prop) (J:It) (H':Hp) (f0:itv=.ref it) (f1:t9 X pins σ H' s2) (f2:Turn X.prog X.w X.K tg J fp it tn) (f3:tn 0 s2.heap) (f4:(∀b∈fp,yf X pins H' b)) (f5:R J H')
def PI(X:Cx)(g r:g8)(wi:TI):Prop:=∀(p:List (d6×d7)) (s:f8) (σ:St) (H:Hp) (R:It->Hp->Prop),t9 X p σ H s->wi σ H R ->g7 (h7 X.prog X.w) X.A (eval r X.env) (λv f=>g7 (h7 X.prog X.w) X.A (j2 v) (P7 X p σ g R) X.xe f) X.xe s
theorem ww(m:s.heap.get? it=b7 o)(f:o.cls=.type n)(d:o.data=.fields vs)(a:["enumerate","zip","dict_itemiterator","dict_reverseitemiterator","odict_iterator","itertools.zip_longest","itertools.pairwise"].contains n=c5) (b:Q () s):g7 M A (j1 tg (.ref it) u) Q E s:=by
 unfold j1;cases tg<;>first
  |exact t8 b
  |(cases u<;>first
    |exact t8 b
    |(refine t6 (wpAny_load m ?_);rw[f,d];show g7 M A (if (["enumerate","zip","dict_itemiterator","dict_reverseitemiterator","odict_iterator","itertools.zip_longest","itertools.pairwise"].contains n&&vs[0]?==b7 (j3 _))=b9 then _ else _) Q E s;rw[p4 (by intro h;rw[a,Q1]at h;cases h)];exact t8 b))
noncomputable def SE(K:u9)(a:d6):It:=⟨λi H=>∃xs x,G6 K H a xs/\xs[i]?=b7 x,λi H x H'=>H'=H/\∀xs,G6 K H a xs->xs[i]?=b7 x,λi H=>∃xs,G6 K H a xs/\xs.length<=i⟩
noncomputable def SA(K:u9)(a:d6):It:=⟨λi H=>∃xs x,B7 K H a xs/\xs[i]?=b7 x,λi H x H'=>H'=H/\∀xs,B7 K H a xs->xs[i]?=b7 x,λi H=>∃xs,B7 K H a xs/\xs.length<=i⟩
noncomputable def QT(lo:Int)(n:Nat):It:=⟨λi _=>i<n,λi H x H'=>H'=H/\x=.int (lo+i),λi _=>n<=i⟩
theorem zF{P:d5}{w:c9}{K:u9}{U:g8}(a it:d6):Turn P w K U (SE K a) [it] it (λi h=>h.IsListIter it a i) where
 mem:=by simp
 obj:=λi h st b g=>by
  have e:b=it:=by simpa using g
  subst e;obtain⟨o,e,c,d⟩:=st;exact⟨o,e,λv z=>by rw[d]at z;cases z⟩
 keep:=λi h h' st k=>st.at λo e=>k it (by simp) o e
 item:=by intro X B C A G i f s σ H E I l st R;subst B C A;obtain⟨xs,x,q,D⟩:=R;obtain⟨its,F,p,Q⟩:=I.list q;obtain⟨u,N,S⟩:=F.get D;obtain⟨m,n,M,r,t,y⟩:=l it (by simp);refine wpAny_pyNext_list_item st p.isList (x:=u) (by simpa using N) λh' j T=>?_;have J:t9 X f σ H { s with heap:=h' }:=I.turned (t':=s.toks) (λb o g e=>(T.2 b g).trans e) m n r t y;obtain⟨o,e,c,d⟩:=id j;exact⟨u,rfl,ww (s:={ s with heap:=h' }) e c d (by decide) ⟨x,H,J,S,⟨rfl,λys O=>by rw[I.list_inj O q];exact D⟩,j,λb g=>(l b g).1⟩⟩
 done:=by intro X B C A G i f s σ H E I l st R;subst B C A;obtain⟨xs,q,D⟩:=R;obtain⟨its,F,p,Q⟩:=I.list q;obtain⟨m,n,M,r,t,y⟩:=l it (by simp);have V:=F.length;exact wpAny_pyNext_list_end (I.ok.hd G) st p.isList (by simp;lia) λh' L=>⟨rfl,I.turned (t':=s.toks) (λb o g e=>L b o g e) m n r t y⟩
 self:=λ_ _ _ _ _ st h=>wpAny_pyIter_listiter st h
theorem yu{P:d5}{w:c9}{K:u9}{U:g8}(a it:d6):Turn P w K U (SA K a) [it] it (λi h=>h.IsTupleIter it a i) where
 mem:=by simp
 obj:=λi h st b g=>by
  have e:b=it:=by simpa using g
  subst e;obtain⟨o,e,c,d⟩:=st;exact⟨o,e,λv z=>by rw[d]at z;cases z⟩
 keep:=λi h h' st k=>st.at λo e=>k it (by simp) o e
 item:=by intro X B C A G i f s σ H E I l st R;subst B C A;obtain⟨xs,x,q,D⟩:=R;obtain⟨its,F,p,Q⟩:=I.tuple q;obtain⟨u,N,S⟩:=F.get D;obtain⟨m,n,M,r,t,y⟩:=l it (by simp);refine wpAny_pyNext_tuple_item st (show s.heap.IsTuple a its.toArray from p) (x:=u) (by simpa using N) λh' j T=>?_;have J:t9 X f σ H { s with heap:=h' }:=I.turned (t':=s.toks) (λb o g e=>(T.2 b g).trans e) m n r t y;obtain⟨o,e,c,d⟩:=id j;exact⟨u,rfl,ww (s:={ s with heap:=h' }) e c d (by decide) ⟨x,H,J,S,⟨rfl,λys O=>by rw[I.tuple_inj O q];exact D⟩,j,λb g=>(l b g).1⟩⟩
 done:=by intro X B C A G i f s σ H E I l st R;subst B C A;obtain⟨xs,q,D⟩:=R;obtain⟨its,F,p,Q⟩:=I.tuple q;obtain⟨m,n,M,r,t,y⟩:=l it (by simp);have V:=F.length;exact wpAny_pyNext_tuple_end (I.ok.hd G) st (show s.heap.IsTuple a its.toArray from p) (by simp;lia) λh' L=>⟨rfl,I.turned (t':=s.toks) (λb o g e=>L b o g e) m n r t y⟩
 self:=λ_ _ _ _ _ st h=>wpAny_pyIter_tupleiter st h
theorem yw{P:d5}{w:c9}{K:u9}{D:g8}(it:d6)(lo:Int)(n:Nat):Turn P w K D (QT lo n) [it] it (λi h=>IsRangeIter h it (lo+(i:Nat)*1) ((n:Int)-(i:Nat)) 1) where
 mem:=by simp
 obj:=λi h st b d=>by
  have e:b=it:=by simpa using d
  subst e;exact⟨_,st,λv z=>by have F:Data.fields _=Data.cell v:=z;cases F⟩
 keep:=λi h h' st k=>k it (by simp) _ st
 item:=by intro X B l A g i p s σ H E I f st R;subst B l A;obtain⟨m,a,M,r,c,y⟩:=f it (by simp);have W:=Walks.range (prog:=X.prog) (w:=X.w) (I.ok.hd g) it lo 1 n;refine W.item i s _ _ R st λv h' q x j C=>?_;obtain⟨t,rfl⟩:=x;have u:t9 X p σ H { s with heap:=h',toks:=q }:=I.turned (λb o d e=>C b o (by simpa using d) e) m a r c y;refine⟨_,rfl,ww (s:={ s with heap:=h',toks:=q }) (n:="range_iterator") j rfl rfl (by decide) ⟨.int<|lo+i,H,u,⟨t,?_⟩,⟨rfl,rfl⟩,j,λb d=>(f b d).1⟩⟩;rw[Int.mul_one]
 done:=by intro X B l A g i p s σ H E I f st R;subst B l A;obtain⟨m,a,M,r,c,y⟩:=f it (by simp);exact wpAny_pyNext_range_end (I.ok.hd g) st (by have:n<=i:=R;lia) λh' L=>⟨rfl,I.turned (t':=s.toks) (λb o d e=>L b o d e) m a r c y⟩
 self:=λ_ _ _ _ _ st h=>wpAny_pyIter_rangeiter st h
theorem Dm{pins:List (d6×d7)}{σ:St}{H:Hp}{s:f8}{R:It->Hp->Prop}{E:c7->f8->Prop}{lo hi:Int}{t u v:Tok}{tk:Nat}(I:t9 X pins σ H s)(h1:-(2 ^ 62)<=lo)(h2:lo<2 ^ 62)(h:-(2 ^ 62)<=hi)(d:hi<2 ^ 62)(q:R (QT lo (hi-lo).toNat) H):g7 (h7 X.prog X.w) X.A (j2<|.ref s.heap.objs.size) (P7 X pins σ tg R) E { s with heap:=s.heap.push { cls:=.type "range",data:=.fields #[.int lo t,.int hi u,.int 1 v] },toks:=tk }:=by
 refine wpAny_pyIter_range (IsRange.new ..) (small_one h1 h2 h d) ?_;have a:t9 X pins σ H { s with heap:=s.heap.push { cls:=.type "range",data:=.fields #[.int lo t,.int hi u,.int 1 v] },toks:=tk }:=I.kept λb o e=>z5 _ e;refine⟨(s.heap.push { cls:=.type "range",data:=.fields #[.int lo t,.int hi u,.int 1 v] }).objs.size,[(s.heap.push { cls:=.type "range",data:=.fields #[.int lo t,.int hi u,.int 1 v] }).objs.size],_,_,H,rfl,a.kept (t':=tk) λb o e=>z5 _ e,yw _ lo (hi-lo).toNat,?_,λb f=>?_,q⟩;have c:lo+((0:Nat):Int)*1=lo:=by simp
 have l:(((hi-lo).toNat:Nat):Int)-((0:Nat):Int)=Builtin.Range.rangeSize lo hi 1:=by rw[rangeSize_one];split<;>lia
 show IsRangeIter _ _ (lo+((0:Nat):Int)*1) ((((hi-lo).toNat:Nat):Int)-((0:Nat):Int)) 1;rw[c,l];exact A7 _ rfl;have e:b=(s.heap.push { cls:=.type "range",data:=.fields #[.int lo t,.int hi u,.int 1 v] }).objs.size:=by simpa using f
 subst e;exact a.fpOk (v6 _)<|a.hok.fresh<|v6 _
def iRng1(t:TA):TI:=λσ H R=>t σ H λvs a=>∃j:Int,vs=[.int j]/\-(2 ^ 62)<=j/\j<2 ^ 62/\R (QT 0 j.toNat) a
theorem Ay{a:g8}{f:TA}{p c:Pos}(k:Gl X "range")(m:X.mg "range" = b8)(i:PA X [a] f)(hs:i4 [a] X.env=[(c5,eval a X.env)]:=by rfl):PI X tg (.Call (.Name "range" p) [a] [] c) (iRng1 f):=by
 intro b s σ H R I h;refine Call_<|lA I k m boot_range<|RE (w6 (i c b s σ H _ I h) ?_) hs rfl;rintro us v ⟨vs,u,g,n,d⟩;obtain⟨j,e,d,l,q⟩:=d;subst e;cases n with
 |cons r o=>cases o;obtain⟨t,rfl⟩:=r;exact call_range_1<|Dm g (by lia) (by lia) d l<|by simpa using q
def tFor(wi:TI)(g:TG)(t:TS):TS:=λD σ H=>wi σ H λJ c=>∃W:Nat->Nat->St->Hp->Prop,(∃m,W 0 m σ c)/\∀i m σ H,W i m σ H ->(J.stop i H/\D.nx σ H)\/(J.go i H/\∃N:St->Hp->Prop,(∀a H',N a H'->∃j,j < m/\W (i+1) j a H')/\∀x H',J.yld i H x H'->g x σ H' λb d=>t { D with nx:=N,ct:=N,bk:=D.nx } b d)
noncomputable def jL(fp:List d6)(h:d8):List (d6×d7):=fp.filterMap λb=>(h.get? b).map λo=>(b,o)
theorem ip(d:b∈fp)(e:h.get? b=b7 o):(b,o)∈jL fp h:=List.mem_filterMap.mpr ⟨b,d,by rw[e];rfl⟩
theorem ue(hp:p∈jL fp h):p.1∈fp/\h.get? p.1=b7 p.2:=by
 obtain⟨b,d,e⟩:=Qy.mp hp;cases q:h.get? b with
 |none=>rw[q]at e;cases e
 |some o=>rw[q]at e;have a:(b,o)=p:=C0 e;subst a;exact⟨d,q⟩
theorem t9.pinned(I:t9 X pins σ H s)(f:∀b∈fp,yf X pins H b)(c:∀b∈fp,∃o,s.heap.get? b=b7 o/\∀v,o.data≠.cell v):t9 X (pins++jL fp s.heap) σ H s:=I.pins_of λp hp=>(F3.mp hp).elim (λz=>I.pin p<|I9 _ z) λz=>by obtain⟨h,e⟩:=ue z;obtain⟨m,n,M,_⟩:=f p.1 h;obtain⟨o,a,d⟩:=c p.1 h;rw[e]at a;cases a;exact⟨e,m,n,M,d⟩
theorem t9.unpinned(I:t9 X (pins++pl) σ H s):t9 X pins σ H s:=I.pins_of λp hp=>I.pin p<|I9 _<|Np _ hp
theorem JO(hp:PassesOwn (h7 X.prog X.w) X.A X.env X.xe)(hc:X.calm=b9)(hi:PI X tg iter wi)(hg:PG X tg g)(l:L4 X body tb)(hs:∀x,j4 iter X.env x=pure x:=by intro _;rfl):PS X (.For tg iter body [] pos) (tFor wi g tb):=by
 intro p s σ H D I h;refine wpAny_For (w6 (hi p s σ H _ I h) λv s1 h1=>w6 h1 λai s2 h2=>?_) hs;obtain⟨it,C,tn,J,H2,e,I2,T,S,Z,W,⟨m0,w0⟩,L⟩:=h2;subst e
 -- what stays b9 of the iterator's objects through the loop
 have t:∀{H':Hp},(∀b∈C,H' b=b8)->∀b∈C,yf X p H' b:=λhn b l=>⟨hn b l,(Z b l).2⟩
 refine codeAny_forLoop_any (λn s'=>∃i q H',t9 X p q H' s'/\tn i s'.heap/\(∀b∈C,H' b=b8)/\W i n q H') ?_ m0 ⟨0,σ,H2,I2,S,λb l=>(Z b l).1,w0⟩;rintro n s3 ⟨i,y,M,Y,G,E,w3⟩;rcases L i n y M w3 with⟨stop,qn⟩|⟨go,N,hN,K⟩
 refine OX hp<|w6 (T.done X rfl rfl rfl hc i p s3 y M X.xe Y (t E) G stop) ?_;rintro r s4 ⟨Q,I4⟩;subst Q;exact Q9 ⟨y,M,I4,qn⟩
 ·refine OX hp (w6 (T.item X rfl rfl rfl hc i p s3 y M X.xe Y (t E) G go) ?_)
  rintro r s4 ⟨u,Q,h4⟩;subst Q;refine OX hp<|w6 h4 ?_;rintro _ s5 ⟨x,V,I5,r5,y5,B,P⟩;have O:=I5.pinned (t P)<|T.obj _ _ B;refine OX hp<|w6 (hg _ s5 y V x u _ O r5<|K x V y5) ?_;rintro _ s6 ⟨U,H6,I6,q6⟩;refine OX hp<|w6 (l _ s6 U H6 _ I6 q6) λf R z=>?_;have k:∀{a:St}{c:Hp},t9 X (p++jL C s5.heap) a c R->N a c->∃m,m<n/\∃i q H',t9 X p q H' R/\tn i R.heap/\(∀b∈C,H' b=b8)/\W i m q H':=λ{a c} j F=>by obtain⟨m',hm,w7⟩:=hN a c F;refine⟨m',hm,i+1,a,c,j.unpinned,T.keep _ _ _ B λb l o e=>(j.pin (b,o)<|I9 _<|I9 _<|ip l e).1,λb l=>?_,w7⟩;obtain⟨o,e,d⟩:=T.obj _ _ B b l;exact(j.pin (b,o)<|I9 _<|I9 _<|ip l e).2.1
  cases f with
  |next=>obtain⟨a,c,j,F⟩:=z;exact k j F
  |cont=>obtain⟨a,c,j,F⟩:=z;exact k j F
  |brk=>obtain⟨a,c,j,z⟩:=z;exact⟨a,c,j.unpinned,z⟩
  |ret v=>obtain⟨x7,a,c,j,r7,z⟩:=z;exact⟨x7,a,c,j.unpinned,r7,z⟩
abbrev R2:=V->V->Hp->VK->Prop
def D0(X:Cx)(f:c7->c7->Sem c7)(r:R2):Prop:=∀(p:List (d6×d7)) (s:f8) (σ:St) (H:Hp) (x y:V) (v u:c7) (Q:VK),t9 X p σ H s->aK x v->aK y u->r x y H Q ->g7 (h7 X.prog X.w) X.A (f v u) (EP X p σ Q) X.xe s
def UnR(X:Cx)(f:c7->Sem c7)(r:V->Hp->VK->Prop):Prop:=∀(p:List (d6×d7)) (s:f8) (σ:St) (H:Hp) (x:V) (v:c7) (Q:VK),t9 X p σ H s->aK x v->r x H Q ->g7 (h7 X.prog X.w) X.A (f v) (EP X p σ Q) X.xe s
def hX(X:Cx)(f:c7)(r:List V->Hp->VK->Prop):Prop:=∀(p:List (d6×d7)) (s:f8) (σ:St) (H:Hp) (xs:List V) (us:List c7) (Q:VK),t9 X p σ H s->ay xs us->r xs H Q ->g7 (h7 X.prog X.w) X.A (call f us) (EP X p σ Q) X.xe s
def PP(r:R2)(t c:TE):TE:=λσ H Q=>t σ H λx a=>c σ a λy b=>r x y b Q
def rI(C:Int->Int->Prop)(g:Int->Int->V):R2:=λx y H Q=>∃i j,x=.int i/\y=.int j/\C i j/\Q (g i j) H
def OL(g:Int->Int->V):R2:=λx y H Q=>∃i j,x=.int i/\y=.int j/\Q (g i j) H
theorem binT(d:PE X a ta)(g:PE X b tb){pins:List (d6×d7)}{s:f8}{σ:St}{H:Hp}{R:V->V->Hp->Prop}(I:t9 X pins σ H s)(h:ta σ H λx H1=>tb σ H1 λy H2=>R x y H2) {Q:c7->f8->Prop}{f:c7->c7->Sem c7}(i:∀v u s2 x y H2,t9 X pins σ H2 s2->aK x v->aK y u->R x y H2->g7 (h7 X.prog X.w) X.A (f v u) Q X.xe s2):g7 (h7 X.prog X.w) X.A (eval a X.env) (λv s₁=>g7 (h7 X.prog X.w) X.A (eval b X.env) (λu s₂=>g7 (h7 X.prog X.w) X.A (f v u) Q X.xe s₂) X.xe s₁) X.xe s:=by refine w6 (d pins s σ H _ I h) ?_;rintro v k ⟨x,H1,c,r,q⟩;refine w6 (g pins k σ H1 _ c q) ?_;rintro u s2 ⟨y,H2,e,n,j⟩;exact i v u s2 x y H2 e r n j
theorem pe_op{op:Operator}{r:R2}(m:D0 X (j5 op) r)(f:PE X a ta)(d:PE X b tb):PE X (.BinOp a op b pos) (PP r ta tb):=by intro p s σ H Q I h;exact wpAny_BinOp<|binT f d I h λv u z x y c e g i q=>m p z σ c x y v u Q e g i q
theorem PR{f:c7->c7->Sem c7}{C:Int->Int->Prop}{g:Int->Int->Int}(e:∀(i j:Int) (t u:Tok) (s:f8) (Q:c7->f8->Prop) (E:c7->f8->Prop),C i j->Q (.int (g i j) s.toks) { s with toks:=s.toks+1 }->g7 (h7 X.prog X.w) X.A (f (.int i t)<|.int j u) Q E s):D0 X f (rI C λi j=>.int<|g i j):=by intro p s σ H x y v u Q I r a h;obtain⟨i,j,rfl,rfl,c,q⟩:=h;obtain⟨t,rfl⟩:=r;obtain⟨t',rfl⟩:=a;exact e i j t t' s _ _ c ⟨.int<|g i j,H,I.tok _,⟨_,rfl⟩,q⟩
theorem opI0{f:c7->c7->Sem c7}{g:Int->Int->Int}(e:∀(i j:Int) (t u:Tok) (s:f8) (Q:c7->f8->Prop) (E:c7->f8->Prop),Q (.int (g i j) s.toks) { s with toks:=s.toks+1 }->g7 (h7 X.prog X.w) X.A (f (.int i t)<|.int j u) Q E s):D0 X f (OL λi j=>.int<|g i j):=by intro p s σ H x y v u Q I r a h;obtain⟨i,j,rfl,rfl,q⟩:=h;obtain⟨t,rfl⟩:=r;obtain⟨t',rfl⟩:=a;exact e i j t t' s _ _ ⟨.int<|g i j,H,I.tok _,⟨_,rfl⟩,q⟩
theorem opB0{f:c7->c7->Sem c7}{g:Int->Int->Bool}(e:∀(i j:Int) (t u:Tok) (s:f8) (Q:c7->f8->Prop) (E:c7->f8->Prop),Q (.bool<|g i j) s->g7 (h7 X.prog X.w) X.A (f (.int i t)<|.int j u) Q E s):D0 X f (OL λi j=>.bl<|g i j):=by intro p s σ H x y v u Q I r a h;obtain⟨i,j,rfl,rfl,q⟩:=h;obtain⟨t,rfl⟩:=r;obtain⟨t',rfl⟩:=a;exact e i j t t' s _ _ ⟨.bl<|g i j,H,I,rfl,q⟩
def CPow(i j:Int):Prop:=0<=j/\j<=1000000/\i.natAbs<2 ^ 64
def CMul(i j:Int):Prop:=(-(2 ^ 64)<i/\i<2 ^ 64)\/(-(2 ^ 64)<j/\j<2 ^ 64)
theorem CMul.ok(h:CMul i j):IntMulOk i j:=by
 rcases h with⟨h1,h2⟩|⟨h1,h2⟩
 exact .of_left<|intBits_le_64 h1 h2;exact .of_right<|intBits_le_64 h1 h2
theorem Kk:D0 X (j5 .Add) (OL λi j=>.int<|i+j):=opI0 λ_ _ _ _ _ _ _ q=>add_int q
theorem Ke:D0 X (j5 .Sub) (OL λi j=>.int<|i-j):=opI0 λ_ _ _ _ _ _ _ q=>sub_int q
theorem Kh:D0 X (j5 .Mult) (rI CMul λi j=>.int<|i*j):=PR λ_ _ _ _ _ _ _ f q=>mul_int q f.ok
theorem Ki:D0 X (j5 .Mod) (rI (λ_ j=>0<j) λi j=>.int<|i % j):=PR λi j _ _ _ _ _ f q=>by have h1:(0:Int)<j:=f;exact mod_int' (by lia)<|by rw[Int.fmod_eq_emod_of_nonneg i<|by lia];exact q
theorem Kg:D0 X (j5 .Pow) (rI CPow λi j=>.int<|i ^ j.toNat):=PR λ_ _ _ _ _ _ _ f q=>pow_int_small f.1 f.2.1 f.2.2 q
theorem Kf:D0 X (j5 .LShift) (rI CPow λi j=>.int<|i*2 ^ j.toNat):=PR λ_ _ _ _ _ _ _ f q=>lshift_int_small f.1 f.2.1 f.2.2 q
theorem op_lt:D0 X (j6 .Lt) (OL λi j=>.bl<|decide<|i<j):=opB0 λ_ _ _ _ _ _ _ q=>lt_int q
theorem op_le:D0 X (j6 .LtE) (OL λi j=>.bl<|decide<|i<=j):=opB0 λ_ _ _ _ _ _ _ q=>le_int q
theorem op_gt:D0 X (j6 .Gt) (OL λi j=>.bl<|decide<|j<i):=opB0 λ_ _ _ _ _ _ _ q=>gt_int q
theorem D0.or(h:D0 X f r)(h':D0 X f r'):D0 X f (λx y H Q=>r x y H Q\/r' x y H Q):=by intro p s σ H x y v u Q I g i q;rcases q with q|q;exact h p s σ H x y v u Q I g i q;exact h' p s σ H x y v u Q I g i q
theorem GQ(o:D0 X (j6 op) r)(f:PE X a ta)(d:PE X b tb)(m:j7 op b=c5):PE X (.Compare a [op] [b] pos) (PP r ta tb):=by intro p s σ H Q I h;exact wpAny_Compare1 (binT f d I h λv u z x y c e g i q=>o p z σ c x y v u Q e g i q) m
def Jr(t:TE):TT:=λσ H Q=>t σ H λx H'=>∃k,x=.bl k/\Q k H'
theorem GG(q:D0 X (j6 op) r)(m:PE X a ta)(n:PE X b tb)(o:j7 op b=c5):PT X (.Compare a [op] [b] pos) (Jr<|PP r ta tb):=by
 intro p s σ H Q I h;refine wpAny_isTrue_Compare1 (w6 (m p s σ H _ I h) λv E ⟨x,d,i,B,t⟩=>w6 (n p E σ d _ i t) λu F ⟨y,f,j,C,w⟩ =>
  w6 (q p F σ f x y v u _ j B C w) λc G ⟨z,g,l,D,k,e,A⟩=>?_) o
 subst e;cases D;exact O3 ⟨g,l,A⟩
def FG(r r':R2)(t e f:TE):TE:=λσ H Q=>t σ H λx a=>e σ a λy b=>r x y b λz c=>∃k,z=.bl k /\(if k=b9 then f σ c λY d=>r' y Y d Q else Q (.bl c5) c)
theorem Dx(E:D0 X (j6 op) r)(f:D0 X (j6 op') r')(A:PE X a ta)(B:PE X b tb)(C:PE X c tc)(D:lastMarks [op,op'] [b,c]=c5:=by with_unfolding_all rfl):PE X (.Compare a [op,op'] [b,c] pos) (FG r r' ta tb tc):=by
 intro p s σ H Q I h;refine Compare_chain (w6 (A p s σ H _ I h) λv N ⟨x,j,o,K,F⟩=>chain_link (w6 (B p N σ j _ o F) λu O ⟨y,l,t,n,G⟩ =>
  w6 (E p O σ l x y v u _ t K n G) λd P ⟨z,g,i,L,k,e,q⟩=>?_)) D
 subst e;cases L;refine O3 ?_;cases k with
 |false=>exact ite_ff ⟨.bl c5,g,i,rfl,q⟩
 |true=>exact ite_tt<|chain_last<|w6 (C p P σ g _ i q) λY R ⟨S,m,w,M,J⟩=>f p R σ m y S u Y Q w n M J
theorem pX:(sizeLine:Nat)<2 ^ 63:=by rw[Nl];decide
theorem yH:D0 X (j5 .Add) (λx y H Q=>∃i j,x=.str i/\y=.str j/\i.length+j.length<=sizeLine/\Q (.str<|i++j) H):=by intro p s σ H x y v u Q I g r h;obtain⟨i,j,rfl,rfl,b,q⟩:=h;obtain⟨t,rfl⟩:=g;obtain⟨t',rfl⟩:=r;exact add_str (λt' k=>⟨.str<|i++j,H,I.tok _,⟨_,rfl⟩,q⟩) b
theorem Gj(r:ay [x] us):∃u,us=[u]/\aK x u:=by
 cases r with
 |cons a n=>cases n;exact⟨_,rfl,a⟩
theorem vals2(r:ay [x,y] us):∃u w',us=[u,w']/\aK x u/\aK y w':=by
 cases r with
 |cons a n =>
  cases n with
  |cons D M=>cases M;exact⟨_,_,rfl,a,D⟩
theorem Cq(f:X.calm=b9):hX X (.builtin "max") (λxs H Q=>∃i j,xs=[.int i,.int j]/\Q (.int<|if j > i then j else i) H):=by
 intro p s σ H xs us Q I r h;obtain⟨i,j,rfl,q⟩:=h;obtain⟨u,Y,rfl,⟨t,rfl⟩,⟨t',rfl⟩⟩:=vals2 r;refine max_two_ints (I.ok.hd f) λh' a k=>⟨_,H,I.kept k,?_,q⟩
 by_cases L:j > i;rw[p0 L,p0 L];exact⟨_,rfl⟩;rw[p4 L,p4 L];exact⟨_,rfl⟩
structure ObjM(h:d8)(x dx C:d6)(mA:c8->Option c7):Prop where
 obj:h.get? x=b7 (PySem.W.instObj C dx)
 ns:h.Ns1 dx mA
 ne:dx≠x
theorem CJ.some_of(r:CJ (b7 v) o):∃u,o=b7 u/\aK v u:=by
 cases o with
 |none=>exact(show False from r).elim
 |some u=>exact⟨u,rfl,r⟩
structure Cls(K:u9)(C:d6):Prop where
 pg:PySem.W.plainGet K C Str.empty=b9
 hd:PySem.W.hasDictIn K C=b9
 po:PySem.W.plainOver K C=b9
 sa:Qk K (.ref C) "__setattr__" = b7 (b7<|.builtin "object.__setattr__")
structure Con(K:u9)(C:d6)(f:c8)(v:V)(u:c7):Prop where
 at_:Qk K (.ref C) f=b7 (b7 u)
 rel:aK v u
 get:PySem.W.specialIn K u "__get__" = b7 b8
 cp:PySem.W.copiedNames.contains f=c5
structure Meth(K:u9)(C:d6)(m:c8)(f:d6):Prop where
 at_:Qk K (.ref C) m=b7 (b7<|.ref f)
 fn:PySem.W.isFn K (.ref f)=b9
 kp:Ox K (.ref f)=b9
inductive TyOf(K:u9)(H:Hp):V->c7->Prop where
 |non:TyOf K H .non (.type "NoneType")
 |bl (x:Bool):TyOf K H (.bl x) (.type "bool")
 |int (i:Int):TyOf K H (.int i) (.type "int")
 |str (x:c8):TyOf K H (.str x) (.type "str")
 |flt (x:UInt64):TyOf K H (.flt x) (.type "float")
 |lst {a:d6}{xs:List V} (e:H a=b7 (.lst xs)):TyOf K H (.ref a) (.type "list")
 |frz {a:d6}{o:d7}{xs:List V} (e:H a=b7 (.frz o (.lst xs))):TyOf K H (.ref a) (.type "list")
 |tup {a:d6}{xs:List V} (e:H a=b7 (.tup xs)):TyOf K H (.ref a) (.type "tuple")
 |dK {a:d6}{kvs:List (E2×V)} (e:H a=b7 (.dK kvs)):TyOf K H (.ref a) (.type "dict")
 |dT {a:d6}{kvs:List (List E2×V)} (e:H a=b7 (.dT kvs)):TyOf K H (.ref a) (.type "dict")
 |ins {a C dx:d6}{fs:List (c8×V)} (e:H a=b7 (.ins C dx fs)) (cl:Cls K C) (ha:Qk K (.ref C) "__class__" = b7 (b7 (.builtin "object.__class__")))
   (hn:PySem.W.specialIn K (.builtin "object.__class__") "__get__" = b7 (b7<|.builtin "getset_descriptor.__get__")) (htk:PySem.W.takesIn K (.builtin "object.__class__")=b7 b9)
   (hm:PySem.W.mroIn K C (.type "object")=b7 b9):TyOf K H (.ref a) (.ref C)
structure Room(k:Nat)(A:f7):Prop where
 hd:A.handled=b8
 dp:A.depth+3*k+5<recursionLimit
 un:A.units+16*k+200<j8
theorem Room.mono(r:Room k A)(h:j<=k):Room j A:=⟨r.hd,by have:=r.dp;lia,by have:=r.un;lia⟩
theorem Room.deeper(r:Room (k+1) A)(env:Env):Room k (A.deeper env):=⟨r.hd,by have:=r.dp;show A.depth+1+3*k+5<_;lia,by have:=r.un;show A.units+3+16*k+200<_;lia⟩
theorem Room.depth(r:Room k A):A.depth<recursionLimit:=by have:=r.dp;lia
def tNil:TA:=λ_ H Q=>Q [] H
def tCons(t:TE)(tr:TA):TA:=λσ H Q=>t σ H λx a=>tr σ a λxs b=>Q (x::xs) b
theorem Kc:PA X [] tNil:=λ_ _ _ _ H Q I h=>Calls.spliced_nil ⟨[],H,I,.nil,h⟩
theorem GT(g:PE X e te)(i:PA X es t)(hs:i4 (e::es) X.env=(c5,eval e X.env)::i4 es X.env:=by rfl):PA X (e::es) (tCons te t):=by intro a p s σ H Q I h;rw[hs];show g7 _ _ (spliced<|(c5,eval e X.env)::i3 a (i4 es X.env)) _ _ s;refine R1<|w6 (g p s σ H _ I h) ?_;rintro u k ⟨x,b,d,r,q⟩;refine w6 (i a p k σ b _ d q) ?_;rintro us z ⟨xs,c,f,n,j⟩;exact⟨x::xs,c,f,.cons r n,j⟩
def tTup(t:TA):TE:=λσ H Q=>t σ H λxs a=>xs.length<=sizeLine/\∀p,a p=b8->Q (.ref p) (x3 a p<|.tup xs)
def tLst(t:TA):TE:=λσ H Q=>t σ H λxs a=>xs.length<=sizeLine/\∀p,a p=b8->Q (.ref p) (x3 a p<|.lst xs)
theorem JS{x1}(h:PA X es t):PE X (.Tuple es x1 pos) (tTup t):=by intro p s σ H Q I g;refine wpAny_Tuple_spliced<|w6 (h pos p s σ H _ I g) λus f ⟨xs,a,c,r,z,q⟩=>⟨by rw[<-r.length];exact z,?_⟩;have d:a f.heap.objs.size=b8:=c.hok.fresh<|v6 _;refine⟨.ref f.heap.objs.size,x3 a f.heap.objs.size<|.tup xs,c.laid (t':=f.toks) (λb u e=>z5 _ e) (v6 _) ?_,rfl,q _ d⟩;exact⟨z,us,r,⟨_,A7 _ rfl,rfl,⟨_,rfl⟩,rfl⟩⟩
theorem JX(h:PA X es t):PE X (.List es pos) (tLst t):=by intro p s σ H Q I g;refine wpAny_List_spliced<|w6 (h pos p s σ H _ I g) λus f ⟨xs,a,c,r,z,q⟩=>⟨by rw[<-r.length];exact z,?_⟩;have d:a f.heap.objs.size=b8:=c.hok.fresh<|v6 _;refine⟨.ref f.heap.objs.size,x3 a f.heap.objs.size<|.lst xs,c.laid (t':=f.toks) (λb u e=>z5 _ e) (v6 _) ?_,rfl,q _ d⟩;exact⟨z,us,0,r,A7 _ rfl⟩
abbrev Sp:=List V->Hp->VK->XK->Prop
abbrev NN:=List Env->Hp->f8->XK->c7->f8->Prop
structure Env0(P:d5)(w:c9)(K:u9)(mg:c8->Option c7)(base:d8)(A:f7)(outer:List Env)(s:f8)(H:Hp):Prop where
 frames:A.frames=b7 outer
 mod:Mod K mg base
 bs:∀b o,base.get? b=b7 o->s.heap.get? b=b7 o/\H b=b8
 bsz:base.objs.size<=s.heap.objs.size
 funs:s.heap.FunFrames base outer
 frf:∀b∈K6 outer,H b=b8
 hok:D8 P w H s.heap
 bare:ge s.gens
inductive CE(outer:List Env)(P:d5)(w:c9)(H:Hp)(s:f8)(Q:VK)(u:c7)(s':f8):Prop
 |mk (v:_) (H':_) (f0:s'.os=s.os) (f1:ge s'.gens) (f2:Un (K6 outer) [] H H' s.heap s'.heap) (f3:D8 P w H' s'.heap) (f4:aK v u) (f5:Q v H')
def CR(CX:NN)(o:List Env)(P:d5)(w:c9)(H:Hp)(s:f8)(Q:VK)(E:XK)(r:Result)(s':f8):Prop:=match r with
 |.ok (.ret u)=>CE o P w H s Q u s'
 |.ok _=>False
 |.error e=>CX o H s E e s'
structure FnOk(P:d5)(w:c9)(K:u9)(mg:c8->Option c7)(base:d8)(CX:NN)(k:Nat)(f:d6)(fd:j9)(ps:List c8)(sp:Sp):Prop where
 len:∀vs H Q E,sp vs H Q E->vs.length=ps.length
 run:∀(A:f7) (outer:List Env) (s:f8) (H:Hp) (args:Args) (us:List c7) (vs:List V) (Q:VK) (E:XK),Room k A->Env0 P w K mg base A outer s H->BindsTo s fd args (ps.zip us)->ay vs us->sp vs H Q E ->k5 (h7 P w) A (.call (.ref f) args) (CR CX outer P w H s Q E) s
theorem t9.env0(I:t9 X pins σ H s):Env0 X.prog X.w X.K X.mg X.base X.A X.stack s H:=⟨I.ok.frames,I.ok.mod,I.bs,J1 I.ok.bsz I.sz,I.stack,I.stkFree,I.hok,I.bare⟩
theorem t9.after(I:t9 X pins σ H s)(h:CE X.stack X.prog X.w H s Q u s'):EP X pins σ Q u s':=by obtain⟨v,H',c,e,n,K,r,q⟩:=h;obtain⟨a,g,d,t,o⟩:=s';obtain rfl:o=s.os:=c;exact⟨v,H',I.call (h':=a) (g':=g) (d':=d) (t':=t) (ch:=[]) n K e (λb z=>p5 z<|by simp),r,q⟩
def Ju(sp:Sp)(s:List V)(E:XK)(t:TA):TE:=λσ H Q=>t σ H λvs a=>sp (vs++s) a Q E
def ve(K:u9)(d:j9)(ps:List c8)(ds:List c7):Prop:=∀(s:f8) (us:List c7),K.In s.heap->(us++ds).length=ps.length->BindsTo s d ⟨us,[]⟩ (ps.zip<|us++ds)
theorem ve.all{K:u9}{d:j9}{ps:List c8}(h:∀us:List c7,us.length=ps.length->bindArgs d ⟨us,[]⟩=pure (ps.zip us)):ve K d ps []:=λs us _ g=>by rw[Nh]at g ⊢;exact .of_eq<|h us g
def CH(CX:NN)(X:Cx)(E:XK):Prop:=∀(p:List (d6×d7)) (σ:St) (H:Hp) (s:f8) (e:c7) (s':f8),t9 X p σ H s->CX X.stack H s E e s'->X.xe e s'
theorem JB(F:FnOk X.prog X.w X.K X.mg X.base CX k f fd ps sp)(i:Room k X.A)(d:ve X.K fd ps ds)(a:ay dvs ds)(x:CH CX X E)(I:t9 X pins σ H s) (r:ay vs us) (h:sp (vs++dvs) H Q E):g7 (h7 X.prog X.w) X.A (call (.ref f) us) (EP X pins σ Q) X.xe s:=by
 have n:ay (vs++dvs) (us++ds):=r.append a;have g:(us++ds).length=ps.length:=by rw[<-n.length];exact F.len _ _ _ _ h
 refine wpAny_call<|Po (F.run X.A X.stack s H ⟨us,[]⟩ (us++ds) (vs++dvs) Q E i I.env0 (d s us I.kIn g) n h) λr s' q=>?_;cases r with
 |error e=>exact x pins σ H s e s' I q
 |ok l =>
  cases l with
  |ret u=>exact I.after q
  |next=>exact NQ q
  |brk=>exact NQ q
  |cont=>exact NQ q
theorem GR(F:FnOk X.prog X.w X.K X.mg X.base CX k f fd ps sp)(o:Room k X.A)(R:Gl X x)(n:X.mg x=b7 (.ref f))(m:Ox X.K (.ref f)=b9)(g:ve X.K fd ps ds)(i:ay dvs ds)(u:CH CX X E)(d:PA X (e::es) t) (b:(x==("__debug__":c8))=c5:=by decide) (j:i4 (e::es) X.env=(c5,eval e X.env)::i4 es X.env:=by rfl) (l:(i3 pos<|i4 es X.env).any (·.1)=c5:=by rfl):PE X (.Call (.Name x p) (e::es) [] pos) (Ju sp dvs E t):=by intro a s σ H Q I h;refine Qx<|Hn I R n ?_ b;refine PySem.W.callWith_K (h₀:=X.base) I.ok.mod.kin m (w6 (d pos a s σ H _ I h) λus y ⟨vs,v,c,r,q⟩=>⟨c.kIn,?_⟩) j l;exact JB F o g i u c r q
structure Mk(K:u9)(C f:d6):Prop where
 makes:PySem.W.makesIn K C=b9
 init:Qk K (.ref C) "__init__" = b7 (b7<|.ref f)
 fn:PySem.W.isFn K (.ref f)=b9
 kp:Ox K (.ref C)=b9
structure KBinds(K:u9)(fd:j9)(ps ks:List c8)(g:List c7->List c7->List c7)(gV:List V->List V->List V):Prop where
 to:∀(s:f8) (us ws:List c7),K.In s.heap->(g us ws).length=ps.length->BindsTo s fd ⟨us,ks.zip ws⟩ (ps.zip<|g us ws)
 rel:∀{vs:List V}{us:List c7}{zs:List V}{ws:List c7},ay vs us->ay zs ws->ay (gV vs zs) (g us ws)
structure FnScope(N P:List c8)(sc:f9):Prop where
 kind:sc.kind=.function
 co:sc.isCoroutine=c5
 gen:sc.isGenerator=c5
 nd:N.Nodup
 pre:N.take P.length=P
 par:∀x∈P,sc.names.lookup x=b7 .local\/sc.names.lookup x=b7 .cell
 nofree:∀y∈sc.names,y.2≠.free
theorem uV{kindOf:c8->Option k7}{x:c8}:∀{binds:List (c8×c7)}{m:c8->Option c7},(∀v,(x,v)∉binds)->bindL kindOf binds m x=m x
 | [],_,_=>rfl
 |(n,v)::r,m,h=>by
  unfold bindL;rw[uV λw hw=>h w<|C7 _ hw];split;have:x≠n:=by rintro rfl;exact h v E3
  simp[this];rfl
theorem uX{kindOf:c8->Option k7}{x:c8}:∀{binds:List (c8×c7)}{m:c8->Option c7},(∀v,(x,v)∉binds)->bindC kindOf binds m x=m x
 | [],_,_=>rfl
 |(n,v)::r,m,h=>by
  unfold bindC;rw[uX λw hw=>h w<|C7 _ hw];split;rfl;have:x≠n:=by rintro rfl;exact h v E3
  simp[this]
theorem uW{kindOf:c8->Option k7}{x:c8}{v:c7}:∀{P:List c8}{vs:List c7}{i:Nat}{m:c8->Option c7},P.Nodup->P[i]?=b7 x->vs[i]?=b7 v->kindOf x=b7 .local ->bindL kindOf (P.zip vs) m x=b7 v
 | [],_,_,_,_,h,_,_=>by simp at h
 |_::_,[],_,_,_,_,h,_=>by simp at h
 |p::P,w::vs,0,m,nd,h1,h2,hk=>by simp at h1 h2;subst h1;subst h2;show bindL kindOf ((p,w)::P.zip vs) m p=_;unfold bindL;rw[uV λv hv=>(J5.mp nd).1 (List.of_mem_zip hv).1,p0 hk];simp
 |p::P,w::vs,i+1,m,nd,h1,h2,hk=>by show bindL kindOf ((p,w)::P.zip vs) m x=_;unfold bindL;exact uW (i:=i) (J5.mp nd).2 (by simpa using h1) (by simpa using h2) hk
theorem uY{kindOf:c8->Option k7}{x:c8}{v:c7}:∀{P:List c8}{vs:List c7}{i:Nat}{m:c8->Option c7},P.Nodup->P[i]?=b7 x->vs[i]?=b7 v->kindOf x≠b7 .local ->bindC kindOf (P.zip vs) m x=b7 v
 | [],_,_,_,_,h,_,_=>by simp at h
 |_::_,[],_,_,_,_,h,_=>by simp at h
 |p::P,w::vs,0,m,nd,h1,h2,hk=>by simp at h1 h2;subst h1;subst h2;show bindC kindOf ((p,w)::P.zip vs) m p=_;unfold bindC;rw[uX λv hv=>(J5.mp nd).1 (List.of_mem_zip hv).1,p4 hk];simp
 |p::P,w::vs,i+1,m,nd,h1,h2,hk=>by show bindC kindOf ((p,w)::P.zip vs) m x=_;unfold bindC;exact uY (i:=i) (J5.mp nd).2 (by simpa using h1) (by simpa using h2) hk
noncomputable def start(N:List c8)(vs:List V):St:=vs.map b7++Ow (N.length-vs.length) b8
noncomputable def zv(CX:NN)(P:d5)(w:c9)(K:u9)(mg:c8->Option c7)(base:d8)(N:List c8)(l:c8)(scope:f9)(f:d6)(d:c7)(A:f7)(outer:List Env)(s:f8)(H:Hp)(E:XK):Cx where
 prog:=P
 w:=w
 K:=K
 mg:=mg
 base:=base
 A:=A.deeper<|k9 l scope s.heap.objs.size f d
 N:=N
 s₀:=s
 H₀:=H
 env:=k9 l scope s.heap.objs.size f d
 outer:=outer
 stack:=k9 l scope s.heap.objs.size f d::outer
 ex:=[]
 calm:=b9
 fn:=λ_=>b9
 pn:=[]
 xe:=λe s'=>g7 (h7 P w) (A.deeper<|k9 l scope s.heap.objs.size f d) (leaving (k9 l scope s.heap.objs.size f d) e) (λ_ a=>CX outer H s E e a) (λb a=>CX outer H s E b a) s'
theorem xX{s:f9}{n:Nat}{x:c8}(h:s.names.lookup x=b7 .cell):∃c,(cellsFrom n s.names []).lookup x=b7 c:=by have q:=PySem.W.cellsFrom_some s.names n []<|.inl h;exact Sn.mp q
theorem BA{CX:NN}{P:d5}{w:c9}{K:u9}{mg:c8->Option c7}{base:d8}{N ps:List c8}{l:c8}{scope:f9}{f:d6}{m:c7}{A:f7}{o:List Env}{s C:f8}{H:Hp}{E:XK}{us:List c7}{vs:List V}(S:FnScope N ps scope) (F:A.handled=b8) (d:Env0 P w K mg base A o s H) (L:vs.length=ps.length) (r:ay vs us)(x:InCallC s s.heap.objs.size (bindL (k9 l scope s.heap.objs.size f m).kindOf (ps.zip us) λ_=>b8) (cellsFrom (s.heap.objs.size+1) scope.names []) (bindC (k9 l scope s.heap.objs.size f m).kindOf (ps.zip us) λ_=>b8) C):t9 (zv CX P w K mg base N l scope f m A o s H E) [] (start N vs) H C:=by
 have G:ps.length<=N.length:=by have:=t4 F8 S.pre;rw[F6]at this;lia
 obtain⟨h1,M,rfl,t⟩:=x.done;have g:∀b:d6,b∉(zv CX P w K mg base N l scope f m A o s H E).ex:=λb z=>p5 (show b∈([]:List d6)from z) (by simp);refine⟨⟨d.mod,S.kind,rfl,rfl,v6 _,λy z c h1 h2=>?_,λy O=>?_,λy c _ h=>?_,λ_=>F,Around.frames_deeper d.frames,.inr ⟨rfl,rfl⟩,λb z=>p5 z<|g b,d.bs,d.bsz,λb _ _=>g b,λb z=>p5 z<|g b,d.funs,d.frf⟩,rfl,d.bare,Un.kept t,⟨_,x.toInCall.ns,λi y v h1 h2 J=>?_⟩,λy c h=>⟨_,x.cell y c h⟩,d.hok.fresh<|v6 _,λy c h=>?_,λp hp=>p5 (show p∈([]:List (d6×d7))from hp) (by simp),d.hok.kept t,?_⟩;exact name_of_addr x.apart (Oe h1)<|Oe h2;have O:scope.names.lookup y=b7 .cell\/scope.names.lookup y=b7 .free:=O;rcases O with O|O;exact xX O;exact p5 rfl<|S.nofree _<|Oe O;exact NU<|x.above y c<|Oe h;have hi:i<vs.length:=by unfold start at h2;by_cases hi:i<vs.length;exact hi;rw[MU<|by simpa using hi]at h2;rw[Rx]at h2;split at h2<;>cases h2
 have D:vs[i]?=b7 v:=by
  unfold start at h2;rw[L0 (by simpa using hi),C6]at h2;cases e:vs[i]? with
  |none=>rw[e]at h2;cases h2
  |some a=>rw[e]at h2;cases h2;rfl
 obtain⟨u,B,I⟩:=r.get D;have hp:ps[i]?=b7 y:=by rw[<-S.pre,O8<|by lia];exact h1
 have j:ps.Nodup:=by rw[<-S.pre];exact S.nd.sublist<|Qw _ _
 refine⟨u,I,?_⟩;rcases S.par y (E6 hp)with k|k;exact .inl ⟨k,uW j hp B k⟩;obtain⟨c,e⟩:=xX (n:=s.heap.objs.size+1) k;refine .inr ⟨.inl k,c,e,?_⟩;have q:=x.cell y c e;rw[uY j hp B<|by show scope.names.lookup y≠_;rw[k];decide]at q;exact q;exact d.hok.fresh<|NU<|x.above y c<|Oe h;unfold start;show _=N.length;rw[B6,v4,Rs];lia
theorem fn_of{CX:NN}{P:d5}{w:c9}{K:u9}{mg:c8->Option c7}{base:d8}{k:Nat}{f:d6}{name l:c8}{p:Arguments}{a:List i5}{scope:f9}{T kV i U c R oc:c7}{M od:Option d6}{G:Array (Option c7)}{N ps:List c8}{sp:Sp} (lk:K.lookup f=b7 ⟨oc,od,.func<|N6 name l p a scope T kV i U M c R,G⟩) (C:Q0 K c l=b9) (S:FnScope N ps scope)(B:∀vs H Q E,sp vs H Q E->vs.length=ps.length)(h:∀(A:f7) (outer:List Env) (s:f8) (H:Hp) (vs:List V) (Q:VK) (E:XK),Room k (A.deeper<|k9 l scope s.heap.objs.size f c)->sp vs H Q E -> ∃t,L4 (zv CX P w K mg base N l scope f c A outer s H E) a t/\t { nx:=λ_ H'=>Q .non H',rt:=Q } (start N vs) H):FnOk P w K mg base CX (k+1) f (N6 name l p a scope T kV i U M c R) ps sp:=by
 refine⟨B,λA outer s H O us vs Q E D j hb r z=>?_⟩;have hl:=B _ _ _ _ z;have X:K.In s.heap:=j.mod.kin.keeps λb o e=>(j.bs b o e).1;have F:s.heap.NoLimit:=j.mod.nolimit.keeps λb o e=>(j.bs b o e).1;have g:∀y∈ps.zip us,scope.names.lookup y.1=b7 .local\/(scope.names.lookup y.1=b7 .cell/\((cellsFrom (s.heap.objs.size+1) scope.names []).lookup y.1).isSome=b9):=λ⟨n,v⟩ hy=>by rcases S.par n (List.of_mem_zip hy).1 with q|q;exact .inl q;exact .inr ⟨q,PySem.W.cellsFrom_some _ _ _<|.inl q⟩
 refine codeAny_call_function D.depth (X _ _ lk) rfl S.co S.gen rfl (PySem.W.codeRec_of X C)<|hb _ _ _ _ ?_;refine wpAny_newFunctionEnv_cells S.kind g λenv he Y x=>?_;subst he;refine⟨F.keeps x.toInCall.keep,codeAny_func ?_⟩;obtain⟨t,ht,hq⟩:=h A outer s H vs Q E (D.deeper _) z;have I:t9 (zv CX P w K mg base N l scope f c A outer s H E) [] (start N vs) H Y:=BA S D.hd j hl r x;refine L7 (ht [] Y (start N vs) H _ I hq) (λZ s' hs=>?_) λe s' hs=>hs;have m:∀{d:St}{H':Hp}{v:V}{u:c7},t9 (zv CX P w K mg base N l scope f c A outer s H E) [] d H' s'->aK v u->Q v H'->CE outer P w H s Q u s':=λ{d H' v u} J L q=>⟨v,H',J.os,J.bare,J.base,J.hok,L,q⟩
 cases Z with
 |ret u=>obtain⟨v,d,H',J,L,q⟩:=hs;exact m J L q
 |next=>obtain⟨d,H',J,q⟩:=hs;exact m (v:=V.non) (u:=ABQ) J rfl q
 |brk=>obtain⟨_,_,_,q⟩:=hs;exact NQ q
 |cont=>obtain⟨_,_,_,q⟩:=hs;exact NQ q
def RP(r:List V->Hp->VK->Prop)(t:TA):TE:=λσ H Q=>t σ H λvs a=>r vs a Q
theorem Dy{X:Cx}{x:c8}{p b:Pos}{e:g8}{es:List g8}{t:TA}{id:String}{r:List V->Hp->VK->Prop}(i:hX X (.builtin id) r)(R:Gl X x)(m:X.mg x=b8)(v:f6 x=b7 (.builtin id))(g:PA X (e::es) t)(n:x≠"__name__":=by decide)(c:(x==("__debug__":c8))=c5:=by decide)(j:i4 (e::es) X.env=(c5,eval e X.env)::i4 es X.env:=by rfl) (l:(i3 b<|i4 es X.env).any (·.1)=c5:=by rfl):PE X (.Call (.Name x p) (e::es) [] b) (RP r t):=by intro a s σ H Q I h;refine Qx<|lA I R m v ?_ n c;exact PyProof.Rows.callWith_builtin1 (w6 (g b a s σ H _ I h) λus o ⟨vs,d,f,k,q⟩=>i a o σ d vs us Q f k q) j l
theorem AB(g:hX X (.type T) r)(R:Gl X x)(m:X.mg x=b8)(v:f6 x=b7 (.type T))(f:PA X (e::es) t)(n:x≠"__name__":=by decide)(b:(x==("__debug__":c8))=c5:=by decide)(i:i4 (e::es) X.env=(c5,eval e X.env)::i4 es X.env:=by rfl) (l:(i3 pos<|i4 es X.env).any (·.1)=c5:=by rfl):PE X (.Call (.Name x p) (e::es) [] pos) (RP r t):=by intro a s σ H Q I h;refine Qx<|lA I R m v ?_ n b;exact RE (w6 (f pos a s σ H _ I h) λus k ⟨vs,c,d,j,q⟩=>g a k σ c vs us Q d j q) i l
end L2
namespace HT
open PySem PyProof.Rows
theorem rcLt_int(A:f7)(s:f8)(a:Int)(t:Tok)(c:Int)(u:Tok)(prog:d5)(w:c9)(E:c7->f8->Prop)(Q:c7->f8->Prop)(h:Q (.bool<|decide<|a<c) s):g7 (h7 prog w) A (richCompare .Lt (.int a t)<|.int c u) Q E s:=(PyProof.Rows.lt_int h:g7 (h7 prog w) A (j6 .Lt (.int a t)<|.int c u) Q E s)
theorem cat_tup(B:IsTup s.heap t vs.toArray)(r:IsTup s.heap b ws.toArray)(v:vs≠[])(h1:ws=[]->Q (.ref t) s) (h2:ws≠[]->Q (.ref s.heap.objs.size) { s with heap:=s.heap.push { cls:=.type "tuple",data:=.seq (vs++ws).toArray } })(z:vs.length+ws.length<=sizeLine):g7 (h7 prog w) A (j5 .Add (.ref t)<|.ref b) Q E s:=by
 obtain⟨⟨cls,k,data,q⟩,m,l,n,o⟩:=id B;obtain⟨⟨j,d,i,f⟩,h,a,p,c⟩:=id r;simp only at l o a c;subst l o a c;have e:vs.toArray++ws.toArray=(vs++ws).toArray:=by simp
 by_cases g:ws=[]
 exact concat_meets ⟨_,m,rfl⟩ ⟨_,h,rfl⟩ noFill_tuple_add seq_tuple_add Se Sk (Sm _ _) (tuple_addW1 t b vs.toArray ws.toArray n p k d q f (by simpa using v)<|by simp[g]) ⟨m,h,h1 g⟩;refine concat_meets ⟨_,m,rfl⟩ ⟨_,h,rfl⟩ noFill_tuple_add seq_tuple_add Se Sk (Sm _ _) (tuple_addW2 t b vs.toArray ws.toArray n p k d q f (by simpa using v) (by simpa using g)<|by rw[A6,A6];exact z) ⟨m,h,?_⟩;rw[e];exact h2 g
noncomputable def sIx(n d:Nat):Option Int->Nat
 |none=>d
 |some v=>if v<0 then(v+(n:Int)).toNat else min v.toNat n
theorem sIx_none(n d:Nat):sIx n d b8=d:=rfl
theorem sIx_nat(n d k:Nat):sIx n d (b7 (k:Int))=min k n:=by show (if (k:Int)<0 then((k:Int)+(n:Int)).toNat else min (k:Int).toNat n)=min k n;rw[p4 (by lia),J7]
theorem Jz(n d:Nat)(h:d<=n)(o:Option Int):sIx n d o<=n:=by
 cases o with
 |none=>exact h
 |some v=>show (if v<0 then(v+(n:Int)).toNat else min v.toNat n)<=n;by_cases c:v<0;rw[p0 c];lia;rw[p4 c];exact Nat.min_le_right _ _
theorem Ck(v:Int)(n d:Nat):(if v<0 then max (v+(n:Int)) 0 else min v (n:Int))=((sIx n d (b7 v):Nat):Int):=by
 show (if v<0 then max (v+(n:Int)) 0 else min v (n:Int))=(((if v<0 then(v+(n:Int)).toNat else min v.toNat n):Nat):Int)
 by_cases c:v<0;simp only[p0 c];lia;simp only[p4 c];lia
theorem zq(lo hi:Option Int)(n:Nat):Ss lo hi 1 (n:Int)=(((sIx n 0 lo:Nat):Int),((sIx n n hi:Nat):Int)):=by
 have h1:¬((1:Int)<0):=by lia
 unfold Ss;simp only[h1,r9];refine Prod.ext ?_ ?_;cases lo with
 |none=>rfl
 |some v=>exact Ck v n 0
 cases hi with
 |none=>rfl
 |some v=>exact Ck v n n
theorem yG(i j:Nat):RC (i:Int) (j:Int) 1=j-i:=by
 unfold RC;have h1:(1:Int) > 0:=by lia
 simp only[h1,s9,Int.ediv_one];split<;>lia
theorem pO(p:l7 v o)(h:Q o s):g7 (h7 prog w) A (Builtin.Slice.slicePartIndex v) Q E s:=by
 cases p with
 |none=>exact slicePart_none h
 |int i t=>exact slicePart_int h
theorem fY{p:d6}{l u:c7}{lo hi:Option Int}{n:Nat}{Q:Int×Int×Nat->f8->Prop}(hs:s.heap.IsSliceOf p l u .none)(d:l7 l lo)(e:l7 u hi)(h:Q (((sIx n 0 lo:Nat):Int),1,sIx n n hi-sIx n 0 lo) s):g7 (h7 prog w) A (SI (.ref p)<|pure (n:Int)) Q E s:=by obtain⟨o,b,c,a⟩:=id hs;unfold SI Builtin.Slice.sliceFields;refine t6<|t6<|J3 b a (x:=l) rfl<|t6<|J3 b a (x:=u) rfl<|t6<|J3 b a (x:=.none) rfl<|t8 ?_;refine t6<|slicePart_none ?_;show g7 _ _ (if ((1:Int)==0)=b9 then _ else _) _ _ s;rw[p4<|by decide];refine t6<|pO d<|t6<|pO e<|t6<|t8 ?_;show g7 _ _ (match Ss lo hi 1 (n:Int)with|(lo,hi)=>pure (lo,(1:Int),RC lo hi 1)) _ _ s;rw[zq lo hi n];show g7 _ _ (pure (((sIx n 0 lo:Nat):Int),(1:Int),RC ((sIx n 0 lo:Nat):Int) ((sIx n n hi:Nat):Int) 1)) _ _ s;rw[yG];exact t8 h
theorem Dt(xs:Array c7)(i k:Nat):((C2 k).filterMap λ(m:Nat)=>xs[((i:Int)+(m:Int)*1).toNat]?).toArray=((xs.toList.drop i).take k).toArray:=by
 have e:(λ(m:Nat)=>xs[((i:Int)+(m:Int)*1).toNat]?)=λm=>xs[i+m]?:=by
  funext m;have:((i:Int)+(m:Int)*1).toNat=i+m:=by lia
  rw[this]
 rw[e];have:=pick_run xs i k;rw[List.filterMap_map]at this;have l:((λx=>xs[x]?) ∘ λx=>i+x)=λm=>xs[i+m]?:=rfl;rw[l]at this;rw[this]
theorem getItem_tuple_cut{t p:d6}{i:Array c7}{l u:c7}{lo hi:Option Int}{Q:c7->f8->Prop}(B:IsTup s.heap t i)(hs:s.heap.IsSliceOf p l u .none)(j:l7 l lo)(k:l7 u hi)(f:¬(sIx i.size 0 lo=0/\sIx i.size i.size hi=i.size))(h:Q (.ref s.heap.objs.size) { s with heap:=s.heap.push { cls:=.type "tuple",data:=.seq ((i.toList.drop<|sIx i.size 0 lo).take<|sIx i.size i.size hi-sIx i.size 0 lo).toArray } })(z:i.size<=sizeLine):g7 (h7 prog w) A (l8 (.ref t)<|.ref p) Q E s:=by
 have e:sizeOk (.seq ((i.toList.drop<|sIx i.size 0 lo).take<|sIx i.size i.size hi-sIx i.size 0 lo).toArray):=by show ((i.toList.drop<|sIx i.size 0 lo).take<|sIx i.size i.size hi-sIx i.size 0 lo).toArray.size<=sizeLine;rw[A6,F6,L8,E1];lia
 have L:sIx i.size i.size hi<=i.size:=Jz _ _ (v6 _) hi;obtain⟨g,b,c,d⟩:=id hs;have a:s.TypeIs (.ref p) "slice":=⟨g,b,c⟩
 unfold l8
 try with_reducible refine E4 ?_
 first|refine t6 (t8 ?_)|skip
 refine t6<|wpAny_sequenceKey B.typeIs (by decide) ?_;refine t6<|MN (name:=u3 "__getitem__") B.typeIs PM<|F9 PM B.typeIs entry_tuple_getitem ?_<|args_tuple_getitem _ _;show g7 _ _ (RD (.ref t) >>= _) _ _ s;refine t6<|tupleItemsOf_ B ?_;refine t6<|NT a ?_;rw[p0<|by decide];refine t6<|fY hs j k ?_;have o:¬((((sIx i.size 0 lo:Nat):Int)==0&&(1:Int)==1&&(sIx i.size i.size hi-sIx i.size 0 lo)==i.size)=b9):=by intro q;rw[D9,D9]at q;have n:((sIx i.size 0 lo:Nat):Int)=0:=eq_of_beq q.1.1;have r:sIx i.size i.size hi-sIx i.size 0 lo=i.size:=eq_of_beq q.2;exact f ⟨by lia,by lia⟩
 show g7 _ _ (if (((sIx i.size 0 lo:Nat):Int)==0&&(1:Int)==1&&(sIx i.size i.size hi-sIx i.size 0 lo)==i.size)=b9 then _ else _) _ _ s;rw[p4 o,Dt]
 first
  |exact t6 (m:=RA _) (G3 (t8 ⟨_,rfl,t8 h⟩) e)
  |exact t6 (m:=RA _) (G3 (t6 (t8 (t8 ⟨_,rfl,t8 h⟩))) e)
  |exact t6 (t6 (m:=RA _) (G3 (t8 (t8 ⟨_,rfl,t8 h⟩)) e))
  |exact t6 (t6 (m:=RA _) (G3 (t8 ⟨_,rfl,t8 h⟩) e))
end HT
namespace L2
open PySem PySem.Spec PyProof.Rows
abbrev TO:=St->Hp->(Option Int->Hp->Prop)->Prop
def PO(X:Cx)(e:Option g8)(t:TO):Prop:=∀(p:List (d6×d7)) (s:f8) (σ:St) (H:Hp) (Q:Option Int->Hp->Prop),t9 X p σ H s->t σ H Q ->g7 (h7 X.prog X.w) X.A (evalPart e X.env) (λu s'=>∃o H',t9 X p σ H' s'/\l7 u o/\Q o H') X.xe s
def Gm:TO:=λ_ H Q=>Q b8 H
def tPart(t:TE):TO:=λσ H Q=>t σ H λx a=>∃i,x=.int i/\Q (b7 i) a
section
variable{X:Cx}{e:g8}{te:TE}{lo hi:Option g8}{tl th:TO}{pos p2:Pos}
theorem GM:PO X b8 Gm:=by intro p s σ H Q I h;rw[evalPart_none];exact t8 ⟨b8,H,I,.none,h⟩
theorem GL(h:PE X e te):PO X (b7 e) (tPart te):=by intro p s σ H Q I w;rw[evalPart_some];refine w6 (h p s σ H _ I w) ?_;rintro u f ⟨x,a,b,r,c⟩;obtain⟨i,rfl,q⟩:=c;obtain⟨t,rfl⟩:=r;exact⟨b7 i,a,b,.int i t,q⟩
def P6(X:Cx)(r:V->Option Int->Option Int->Hp->VK->Prop):Prop:=∀(p:List (d6×d7)) (s:f8) (σ:St) (H:Hp) (x:V) (v b u:c7) (l hi:Option Int) (a:d6) (Q:VK),t9 X p σ H s->aK x v->s.heap.IsSliceOf a b u .none->l7 b l->l7 u hi->r x l hi H Q ->∃T id,typeLookup (.type T) "__getitem__" = pure (b7<|.builtin id)/\s.TypeIs v T/\g7 (h7 X.prog X.w) X.A (l8 v<|.ref a) (EP X p σ Q) X.xe s
def tSl(r:V->Option Int->Option Int->Hp->VK->Prop)(te:TE)(t h:TO):TE:=λσ H Q=>te σ H λx a=>t σ a λl b=>h σ b λu c=>r x l u c Q
theorem Dv(z:P6 X r)(t:PE X e te)(y:PO X lo tl)(C:PO X hi th):PE X (.Subscript e (.Slice lo hi b8 p2) pos) (tSl r te tl th):=by intro p s σ H Q I h;refine Subscript_<|w6 (t p s σ H _ I h) ?_;rintro v L ⟨x,g,j,K,F⟩;refine wpAny_Slice<|w6 (y p L σ g _ j F) ?_;rintro c M ⟨l,i,k,D,G⟩;refine w6 (C p M σ i _ k G) ?_;rintro d a ⟨u,f,m,E,J⟩;rw[evalPart_none];refine t8 ?_;have n:t9 X p σ f { a with heap:=a.heap.push { cls:=.type "slice",data:=.fields #[c,d,.none] } }:=m.kept (t':=a.toks) λb N q=>z5 _ q;obtain⟨T,id,o,B,R⟩:=z p { a with heap:=a.heap.push { cls:=.type "slice",data:=.fields #[c,d,.none] } } σ f x v c d l u a.heap.objs.size Q n K (Heap.IsSliceOf.new ..) D E J;show g7 (h7 X.prog X.w) X.A (subscriptTail e (.Slice lo hi b8 p2) v<|.ref a.heap.objs.size) (EP X p σ Q) X.xe { a with heap:=a.heap.push { cls:=.type "slice",data:=.fields #[c,d,.none] } };exact tail_any (ops:=[.ref a.heap.objs.size,v]) B o R<|by with_unfolding_all rfl
noncomputable def Gb(xs:List V)(lo hi:Option Int):List V:=(xs.drop<|HT.sIx xs.length 0 lo).take<|HT.sIx xs.length xs.length hi-HT.sIx xs.length 0 lo
theorem oq(xs:List V)(lo hi:Option Int):(Gb xs lo hi).length<=xs.length:=by unfold Gb;rw[F6,L8];lia
def rSlT(K:u9):V->Option Int->Option Int->Hp->VK->Prop:=λx l hi H Q=>∃a xs,x=.ref a/\B7 K H a xs /\¬(HT.sIx xs.length 0 l=0/\HT.sIx xs.length xs.length hi=xs.length)/\∀p,H p=b8->Q (.ref p) (x3 H p<|.tup<|Gb xs l hi)
theorem Jx:P6 X (rSlT X.K):=by
 intro p s σ H x v j u l hi i Q I g hs d e h;obtain⟨a,xs,rfl,c,w,q⟩:=h;cases g;obtain⟨its,r,B,z⟩:=I.tuple c;have n:its.toArray.size=xs.length:=by rw[A6];exact r.length.symm
 refine⟨"tuple",_,PM.lookup,B.typeIs,?_⟩;refine HT.getItem_tuple_cut B hs d e (by rw[n];exact w) ?_ (by rw[n];exact z);rw[n];refine⟨.ref s.heap.objs.size,_,I.laid (t':=s.toks) (o:=.tup<|Gb xs l hi) (λb f q=>z5 _ q) (v6 _) ?_,rfl,q _<|I.hok.fresh<|v6 _⟩;exact⟨J1 (oq xs l hi) z,_,(r.drop<|HT.sIx xs.length 0 l).take<|HT.sIx xs.length xs.length hi-HT.sIx xs.length 0 l,Fz.new _ _⟩
def rCatT(K:u9):R2:=λx y H Q=>∃a b xs ys,x=.ref a/\y=.ref b/\B7 K H a xs/\B7 K H b ys/\xs≠[]/\xs.length+ys.length<=sizeLine /\(ys=[]->Q (.ref a) H)/\(ys≠[]->∀p,H p=b8->Q (.ref p) (x3 H p<|.tup<|xs++ys))
theorem ay.nil_iff(r:ay xs us):us=[]↔xs=[]:=by
 cases r with
 |nil=>simp
 |cons _ _=>simp
theorem GX:D0 X (j5 .Add) (rCatT X.K):=by intro p s σ H x y v u Q I m t h;obtain⟨a,b,xs,ys,rfl,rfl,f,d,e,c,k,l⟩:=h;cases m;cases t;obtain⟨its,r,g,_⟩:=I.tuple f;obtain⟨i,n,j,_⟩:=I.tuple d;refine HT.cat_tup g j (λz=>e<|r.nil_iff.mp z) (λz=>⟨.ref a,H,I,rfl,k<|n.nil_iff.mp z⟩) (λz=>?_) (by rw[<-r.length,<-n.length];exact c);refine⟨.ref s.heap.objs.size,_,I.laid (t':=s.toks) (o:=.tup<|xs++ys) (λb A q=>z5 _ q) (v6 _) ?_,rfl,l (λw=>z<|n.nil_iff.mpr w) _<|I.hok.fresh<|v6 _⟩;exact⟨by rw[B6];exact c,_,r.append n,Fz.new _ _⟩
end
noncomputable def NB(n:Nat)(i:Int):Option Nat:=if 0<=i then(if i<n then b7 i.toNat else b8)else if -(n:Int)<=i then b7 (i+n).toNat else b8
noncomputable def atI{α:Type}(xs:List α)(i:Int):Option α:=(NB xs.length i).bind λj=>xs[j]?
theorem Bz(h:NB n i=b7 j):seqIndex? i n=b7 j/\j<n/\-(n:Int)<=i/\i<n:=by unfold NB at h;by_cases a:0<=i;rw[p0 a]at h;by_cases h1:i<n;rw[p0 h1]at h;have e:i.toNat=j:=C0 h;exact⟨by rw[seqIndex_of a h1,e],by lia,by lia,h1⟩;rw[p4 h1]at h;cases h;rw[p4 a]at h;by_cases h1:-(n:Int)<=i;rw[p0 h1]at h;have e:(i+n).toNat=j:=C0 h;exact⟨by rw[seqIndex_neg (by lia) h1,e],by lia,h1,by lia⟩;rw[p4 h1]at h;cases h
theorem wJ{α:Type}{xs:List α}{i:Int}{v:α}(h:atI xs i=b7 v):∃j,seqIndex? i xs.length=b7 j/\xs[j]?=b7 v/\j<xs.length/\-(xs.length:Int)<=i/\i<xs.length:=by
 unfold atI at h;cases e:NB xs.length i with
 |none=>rw[e]at h;cases h
 |some j=>rw[e]at h;obtain⟨h1,h2,a,d⟩:=Bz e;exact⟨j,h1,h,h2,a,d⟩
theorem aq{α:Type}{xs:List α}{j:Nat}{v:α}(h:xs[j]?=b7 v):atI xs (j:Int)=b7 v:=by
 have L:j<xs.length:=(z9.mp h).1;have e:NB xs.length (j:Int)=b7 j:=by unfold NB;rw[p0 (by lia),p0<|by lia];simp
 unfold atI;rw[e];exact h
def wL(b:g8):Prop:=∀o i,subscripted b c5 o i=operate [o,i] (l8 o i)
def Nc(X:Cx)(r:R2):Prop:=∀(a e:g8) (p:List (d6×d7)) (s:f8) (σ:St) (H:Hp) (x y:V) (v u:c7) (Q:VK),t9 X p σ H s->aK x v->aK y u->r x y H Q ->subscripted e c5 v u=operate [v,u] (l8 v u)->g7 (h7 X.prog X.w) X.A (subscriptTail a e v u) (EP X p σ Q) X.xe s
def G9(X:Cx)(id:String)(r:V->List V->Hp->VK->Prop):Prop:=∀(p:List (d6×d7)) (s:f8) (σ:St) (H:Hp) (x:V) (xs:List V) (v:c7) (us:List c7) (Q:VK),t9 X p σ H s->aK x v->ay xs us->r x xs H Q ->g7 (h7 X.prog X.w) X.A (call (.builtin id)<|v::us) (EP X p σ Q) X.xe s
section
variable{X:Cx}{a b:g8}{ta tb:TE}{pos:Pos}
theorem Nc.or(h:Nc X r)(h':Nc X r'):Nc X (λx y H Q=>r x y H Q\/r' x y H Q):=by intro a e p s σ H x y v u Q I g i q hs;rcases q with q|q;exact h a e p s σ H x y v u Q I g i q hs;exact h' a e p s σ H x y v u Q I g i q hs
theorem pe_ix(i:Nc X r)(f:PE X a ta)(d:PE X b tb)(hs:wL b):PE X (.Subscript a b pos) (PP r ta tb):=by intro p s σ H Q I h;exact Subscript_<|binT f d I h λv u z x y c e g j q=>i a b p z σ c x y v u Q e g j q<|hs _ _
def rIxL(K:u9):R2:=λx y H Q=>∃p xs i v,x=.ref p/\y=.int i/\G6 K H p xs/\atI xs i=b7 v/\Q v H
def rIxT(K:u9):R2:=λx y H Q=>∃p xs i v,x=.ref p/\y=.int i/\B7 K H p xs/\atI xs i=b7 v/\Q v H
def rIxS:R2:=λx y H Q=>∃z i c,x=.str z/\y=.int i/\z.length<=sizeLine/\atI z.cps.toList i=b7 c/\Q (.str ⟨#[c]⟩) H
theorem HY:Nc X (rIxL X.K):=by
 intro c e a s σ H x y v u Q I B C h hs;obtain⟨p,xs,i,z,rfl,rfl,A,m,q⟩:=h;cases B;obtain⟨t,rfl⟩:=C;obtain⟨its,r,d,F⟩:=I.list A;obtain⟨j,h1,h2,D,k,l⟩:=wJ m;obtain⟨w,f,b⟩:=r.get h2;have o:=r.length;have E:=pX;have n:EP X a σ Q w s:=⟨z,H,I,b,q⟩
 by_cases g:0<=i;have L:i.toNat=j:=by rw[seqIndex_of g l]at h1;exact C0 h1
 exact item_listR d.isList g (by lia) (by rw[L];simpa using f) n hs;have L:(i+(its.toArray.size:Int)).toNat=j:=by rw[seqIndex_neg (by lia) k]at h1;rw[A6,<-o];exact C0 h1
 exact subscriptTail_builtinR (x:=w) d.isList.typeIs slot_list_getitem.lookup (wpAny_getItem_list_neg (Q:=λr s'=>r=w/\EP X a σ Q r s') d.isList (by lia) (by rw[A6]<;>lia) (by lia) (by rw[L];simpa using f) ⟨rfl,n⟩) hs
theorem Lf:Nc X (rIxT X.K):=by
 intro c e a s σ H x y v u Q I m o h hs;obtain⟨p,xs,i,z,rfl,rfl,k,g,q⟩:=h;cases m;obtain⟨t,rfl⟩:=o;obtain⟨its,r,d,E⟩:=I.tuple k;obtain⟨j,h1,h2,A,B,C⟩:=wJ g;obtain⟨w,f,b⟩:=r.get h2;have l:=r.length;have D:=pX;have n:EP X a σ Q w s:=⟨z,H,I,b,q⟩
 exact subscriptTail_builtinR (x:=w) d.typeIs slot_tuple_getitem.lookup (getItem_tuple (j:=j) (Q:=λr s'=>r=w/\EP X a σ Q r s') d (by lia) (by lia) (by rw[A6,<-l];exact h1) (by simpa using f) ⟨rfl,n⟩) hs
theorem Lg:Nc X rIxS:=by
 intro a e p s σ H x y v u Q I r m h hs;obtain⟨z,i,c,rfl,rfl,w,g,q⟩:=h;obtain⟨t,rfl⟩:=r;obtain⟨t',rfl⟩:=m;obtain⟨j,h1,h2,n,d,f⟩:=wJ g;have k:z.cps.toList.length=z.length:=by simp[Str.length]
 rw[k]at h1 d f;have o:=pX;exact tail_any (OS s z t) slot_str_getitem.lookup (getItem_str (c:=c) (by have b:decide (i < -(2 ^ 63:Int))=c5:=dF_ (by lia);have l:decide (i ≥ 2 ^ 63)=c5:=dF_ (by lia);rw[b,l,Bool.or_false]) (by rw[h1];simpa using h2) ⟨.str ⟨#[c]⟩,H,I.tok _,⟨_,rfl⟩,q⟩) hs
def rIx(K:u9):R2:=λx y H Q=>rIxL K x y H Q\/rIxT K x y H Q\/rIxS x y H Q
theorem Lh:Nc X (rIx X.K):=HY.or<|Lf.or Lg
theorem yS(its:List c7)(n j:Nat)(u:c7):MP (·.setIfInBounds j u) { cls:=.type "list",data:=.seq its.toArray n }={ cls:=.type "list",data:=.seq (its.set j u).toArray n }:=by simp[MP]
theorem t9.lst(I:t9 X pins σ H s)(h:H p=b7 (.lst xs)):∃(its:List c7) (n:Nat),ay xs its/\s.heap.get? p=b7 { cls:=.type "list",data:=.seq its.toArray n }/\xs.length<=sizeLine:=by obtain⟨z,its,n,r,e⟩:=I.hok p _ h;exact⟨its,n,r,e,z⟩
theorem t9.lstUpd{pins:List (d6×d7)}{σ:St}{H:Hp}{s:f8}{p:d6}{xs ys:List V}{its its':List c7}{n a:Nat}{f:d7->d7}(I:t9 X pins σ H s)(h:H p=b7 (.lst xs))(m:s.heap.get? p=b7 { cls:=.type "list",data:=.seq its.toArray n }) (c:f { cls:=.type "list",data:=.seq its.toArray n }={ cls:=.type "list",data:=.seq its'.toArray a }) (r:ay ys its') (hz:ys.length<=sizeLine) (t:Nat):t9 X pins σ (x3 H p<|.lst ys) { s with heap:=s.heap.update p f,toks:=t }:=by
 have e:(s.heap.update p f).get? p=b7 { cls:=.type "list",data:=.seq its'.toArray a }:=by rw[MB f m (by rw[c]<;>rfl),c]
 refine I.write (x:=p) (e:=p) (by rw[h];trivial) (.inl rfl) (λb u d q=>(PH _ _<|A2 d).trans q) ⟨_,e⟩ ?_;exact⟨hz,its',a,r,e⟩
def rSetL:V->V->V->Hp->(Hp->Prop)->Prop:=λo i v H Q=>∃p xs k j,o=.ref p/\i=.int k/\H p=b7 (.lst xs)/\NB xs.length k=b7 j/\Q (x3 H p<|.lst<|xs.set j v)
theorem Di:PSet X rSetL:=by
 intro a s σ H o i v B A u Q I w l x h;obtain⟨p,xs,k,j,rfl,rfl,hp,L,q⟩:=h;cases w;obtain⟨t,rfl⟩:=l;obtain⟨its,n,r,m,z⟩:=I.lst hp;obtain⟨h1,h2,e,f⟩:=Bz L;have g:=r.length;have y:=pX;have c:t9 X a σ (x3 H p<|.lst<|xs.set j v) { s with heap:=s.heap.update p (MP (·.setIfInBounds j u)) }:=I.lstUpd hp m (yS its n j u) (r.set x j) (by rw[NX];exact z) s.toks;by_cases d:0<=k;have b:k.toNat=j:=by rw[seqIndex_of d f]at h1;exact C0 h1
 exact PySem.W.ki_setAt m d (by lia) (by rw[A6,<-g];exact f) (by rw[b];exact⟨_,c,q⟩);have b:(k+(its.toArray.size:Int)).toNat=j:=by rw[seqIndex_neg (by lia) e]at h1;rw[A6,<-g];exact C0 h1
 exact PySem.W.ki_setBack m (by lia) (by rw[A6,<-g];exact e) (by lia)<|by rw[b];exact⟨_,c,q⟩
theorem tN(lo hi:Option Int)(n:Nat):(m3 lo hi b8 n).1=((HT.sIx n 0 lo:Nat):Int)/\(m3 lo hi b8 n).2.1=((HT.sIx n n hi:Nat):Int)/\(m3 lo hi b8 n).2.2=1:=by
 refine⟨?_,?_,rfl⟩;cases lo with
 |none=>simp[m3,HT.sIx]
 |some i=>simp only[m3,HT.sIx,Option.getD_none,show (1:Int) > 0 by decide,s9];by_cases h:i<0;simp only[h,s9]<;>lia;simp only[h,r9]<;>lia
 cases hi with
 |none=>simp[m3,HT.sIx]
 |some i=>simp only[m3,HT.sIx,Option.getD_none,show (1:Int) > 0 by decide,s9];by_cases h:i<0;simp only[h,s9]<;>lia;simp only[h,r9]<;>lia
theorem qH(its:List c7)(lo hi:Option Int):slicePick its.toArray lo hi b8=((its.drop<|HT.sIx its.length 0 lo).take<|HT.sIx its.length its.length hi-HT.sIx its.length 0 lo).toArray:=by obtain⟨h1,h2,a⟩:=tN lo hi its.toArray.size;unfold slicePick;rw[h1,h2,a];simp only[sliceRange_one,pick_run,A6]<;>rfl
def rSlL(K:u9):V->Option Int->Option Int->Hp->VK->Prop:=λx l hi H Q=>∃a xs,x=.ref a/\G6 K H a xs/\∀p,H p=b8->Q (.ref p) (x3 H p<|.lst<|Gb xs l hi)
theorem Gs:P6 X (rSlL X.K):=by intro p s σ H x v j u l hi i Q I g hs d e h;obtain⟨a,xs,rfl,c,q⟩:=h;cases g;obtain⟨its,r,B,z⟩:=I.list c;have n:=r.length;refine⟨"list",_,slot_list_getitem.lookup,B.isList.typeIs,?_⟩;refine wpAny_getItem_list_slice B.isList hs d e .none (by simp) ?_ (by rw[A6]<;>lia);rw[qH,<-n];refine⟨.ref s.heap.objs.size,_,I.laid (t':=s.toks) (o:=.lst<|Gb xs l hi) (λb f q=>z5 _ q) (v6 _) ?_,rfl,q _<|I.hok.fresh<|v6 _⟩;exact⟨J1 (oq xs l hi) z,_,0,(r.drop<|HT.sIx xs.length 0 l).take<|HT.sIx xs.length xs.length hi-HT.sIx xs.length 0 l,A7 _ rfl⟩
theorem uU:hX X (.builtin "len") (λxs H Q=>∃p ys,xs=[.ref p]/\(G6 X.K H p ys\/B7 X.K H p ys)/\Q (.int ys.length) H):=by intro b s σ H xs us Q I r h;obtain⟨p,ys,rfl,a,q⟩:=h;obtain⟨u,rfl,g⟩:=Gj r;cases g;have f:=pX;rcases a with a|a;obtain⟨its,r',d,z⟩:=I.list a;have n:=r'.length;exact Calls.call_len_list d.isList (by simp only[A6]<;>lia) ⟨.int ys.length,H,I.tok _,⟨s.toks+1,by rw[A6,n]⟩,q⟩;obtain⟨its,r',d,z⟩:=I.tuple a;have n:=r'.length;exact len_tuple d (by simp only[A6]<;>lia) ⟨.int ys.length,H,I.tok _,⟨s.toks+1,by rw[A6,n]⟩,q⟩
theorem uT:hX X (.builtin "len") (λxs H Q=>∃z,xs=[.str z]/\z.length<=sizeLine/\Q (.int z.length) H):=by intro p s σ H xs us Q I r h;obtain⟨z,rfl,b,q⟩:=h;obtain⟨u,rfl,t,rfl⟩:=Gj r;have f:=pX;exact len_str (by lia) ⟨.int z.length,H,I.tok _,⟨_,rfl⟩,q⟩
theorem hX.or(h:hX X f r)(h':hX X f r'):hX X f (λxs H Q=>r xs H Q\/r' xs H Q):=by intro p s σ H xs us Q I a q;rcases q with q|q;exact h p s σ H xs us Q I a q;exact h' p s σ H xs us Q I a q
theorem rR:hX X (.type "tuple") (λxs H Q=>∃p ys,xs=[.ref p]/\((G6 X.K H p ys/\∀l,H l=b8->Q (.ref l) (x3 H l<|.tup ys))\/(B7 X.K H p ys/\Q (.ref p) H))):=by
 intro a s σ H xs us Q I r h;obtain⟨p,ys,rfl,h⟩:=h;obtain⟨u,rfl,x⟩:=Gj r;cases x;rcases h with⟨c,q⟩|⟨c,q⟩
 obtain⟨its,r',d,z⟩:=I.list c;have n:=r'.length;refine call_tuple_list d.isList (λh' k=>?_) (by simp only[A6]<;>lia);have f:t9 X a σ H { s with heap:=h' }:=I.kept (t':=s.toks) k;have g:t9 X a σ (x3 H h'.objs.size<|.tup ys) { s with heap:=h'.push { cls:=.type "tuple",data:=.seq its.toArray } }:=f.laid (t':=s.toks) (λb o e=>z5 _ e) (v6 _)<|show bY X.prog X.w _ _ _ (.tup ys)from⟨z,its,r',Fz.new _ _⟩;exact⟨.ref h'.objs.size,_,g,rfl,q _<|f.hok.fresh<|v6 _⟩;obtain⟨its,r',d,z⟩:=I.tuple c;exact call_tuple_same d ⟨.ref p,H,I,rfl,q⟩
def RN(K:u9)(T:String)(x:V)(H:Hp):Prop:=match x with
 |.str _=>T = "str"
 |.int _=>T = "int"
 |.ref p=>(T = "list"/\∃xs,G6 K H p xs)\/(T = "tuple"/\∃o,K.lookup p=b7 o/\o.cls=.type "tuple"/\o.dict=b8) \/(T = "dict"/\((∃kvs,H p=b7 (.dK kvs))\/∃kvs,H p=b7 (.dT kvs)))\/(T = "set"/\∃S n,H p=b7 (.set S n))
 |_=>False
theorem FB(I:t9 X pins σ H s)(r:aK x v)(y:RN X.K T x H):s.TypeIs v T/\∀a,v=.ref a->∃ob,s.heap.get? a=b7 ob/\ob.dict=b8:=by
 cases x with
 |str z=>obtain⟨t,rfl⟩:=r;cases (show T = "str" from y);exact⟨OS s z t,λ_ e=>nomatch e⟩
 |int i=>obtain⟨t,rfl⟩:=r;cases (show T = "int" from y);exact⟨typeIs_int s i t,λ_ e=>nomatch e⟩
 |ref p =>
  cases r;rcases y with⟨rfl,xs,q⟩|⟨rfl,o,k,h,d⟩|⟨rfl,k⟩|⟨rfl,S,n,k⟩
  obtain⟨its,_,f,_⟩:=I.list q;refine⟨f.isList.typeIs,λa e=>?_⟩;cases e;obtain⟨o,n,e,c,d,_⟩:=f;exact⟨o,e,d⟩;refine⟨⟨o,I.kIn p o k,h⟩,λa e=>?_⟩;cases e;exact⟨o,I.kIn _ o k,d⟩;have z:∃o,s.heap.get? p=b7 o/\o.ExactDict:=by
   rcases k with⟨kvs,k⟩|⟨kvs,k⟩
   obtain⟨_,_,_,_,o,_,_,e,b,_⟩:=I.hok p _ k;exact⟨o,e,b⟩;obtain⟨_,_,_,_,o,_,_,e,b,_⟩:=I.hok p _ k;exact⟨o,e,b⟩
  obtain⟨o,e,b⟩:=z;refine⟨⟨o,e,b.1⟩,λa l=>?_⟩;cases l;exact⟨o,e,b.2.1⟩;obtain⟨o,_,_,_,e,b,_⟩:=I.hok p _ k;refine⟨⟨o,e,b.1⟩,λa l=>?_⟩;cases l;exact⟨o,e,b.2.1⟩
 |_=>exact NQ y
def tBM0(K:u9)(T:String)(r:V->List V->Hp->VK->Prop)(e:TE):TE:=λσ H Q=>e σ H λx a=>RN K T x a/\r x [] a Q
def tBM(K:u9)(T:String)(r:V->List V->Hp->VK->Prop)(e:TE)(t:TA):TE:=λσ H Q=>e σ H λx a=>RN K T x a/\t σ a λxs b=>r x xs b Q
variable{o e:g8}{es:List g8}{to:TE}{t:TA}{name:c8}{apos cpos:Pos}{T id:String}{r:V->List V->Hp->VK->Prop}
theorem JZ(g:PlainAttrs T)(slot:Slot T name id)(y:m5 (.builtin id)=pure (.type "method_descriptor"))(m:G9 X id r)(f:PE X o to)(e:m6 o name X.env (eval o X.env)=eval o X.env:=by rfl) (a:(apos.endLine==cpos.line)=b9:=by rfl):PE X (.Call (.Attribute o name apos) [] [] cpos) (tBM0 X.K T r to):=by intro p s σ H Q I h;refine Sj e a<|w6 (f p s σ H _ I h) ?_;rintro v i ⟨x,d,b,c,t,q⟩;obtain⟨h1,h2⟩:=FB b c t;exact⟨T,id,g,slot,y,h1,h2,OF rfl<|R4<|m p i σ d x [] v [] Q b c .nil q⟩
theorem Ka(u:PlainAttrs T)(slot:Slot T name id)(y:m5 (.builtin id)=pure (.type "method_descriptor"))(l:G9 X id r)(q:PE X o to)(k:PA X (e::es) t)(b:m6 o name X.env (eval o X.env)=eval o X.env:=by rfl)(w:((i3 cpos<|i4 (e::es) X.env).all (λx=>!x.1)&&(m7 cpos<|m8 [] X.env).all (λx=>x.1.isSome) && decide ((e::es).length+([]:List m9).length+(if ([]:List m9).isEmpty then 0 else 1)<30))=b9:=by rfl)(c:(apos.endLine==cpos.line)=b9:=by rfl) (hs:i4 (e::es) X.env=(c5,eval e X.env)::i4 es X.env:=by rfl) (n:(i3 cpos<|i4 es X.env).any (·.1)=c5:=by rfl):PE X (.Call (.Attribute o name apos) (e::es) [] cpos) (tBM X.K T r to t):=by intro p s σ H Q I h;refine QH b w c rfl<|w6 (q p s σ H _ I h) ?_;rintro v D ⟨x,g,d,f,F,z⟩;obtain⟨h1,h2⟩:=FB d f F;refine⟨T,id,u,slot,y,h1,h2,?_⟩;have A:=k cpos p D σ g _ d z;rw[hs]at A ⊢;refine OF (by show (c5||(i3 cpos<|i4 es X.env).any (·.1))=c5;rw[n]<;>rfl)<|QF ?_;refine w6 A ?_;rintro us E ⟨vs,i,j,C,B⟩;exact l p E σ i x vs v us Q j f C B
/- xs.append(e),list.index on a module's tuple .. are G9 facts of 06m -/
end
def QS(X:Cx)(id:String)(r:V->List V->Hp->VK->Prop):Prop:=∀(p:List (d6×d7)) (s:f8) (σ:St) (H:Hp) (x:V) (xs:List V) (v:c7) (us:List c7) (Q:VK),t9 X p σ H s->aK x v->ay xs us->r x xs H Q ->g7 (h7 X.prog X.w) X.A (call (.builtin id)<|v::us) (EP X p σ Q) X.xe s
theorem ay.one(h:ay [x] us):∃u,us=[u]/\aK x u:=by
 cases h with
 |cons r t=>cases t;exact⟨_,rfl,r⟩
theorem ay.two(h:ay [x,y] us):∃u v,us=[u,v]/\aK x u/\aK y v:=by
 cases h with
 |cons r t=>obtain⟨v,e,q⟩:=ay.one t;subst e;exact⟨_,v,rfl,r,q⟩
theorem ay.zero:∀{us:List c7},ay [] us->us=[]
 |_,.nil=>rfl
theorem ay.dropLast(h:ay xs us):ay xs.dropLast us.dropLast:=by
 induction h with
 |nil=>exact .nil
 |cons r t i =>
  cases t with
  |nil=>exact .nil
  |cons q t'=>exact .cons r i
theorem zh{α:Type}(l:List α):l.eraseIdx (l.length-1)=l.dropLast:=by
 induction l with
 |nil=>rfl
 |cons a r i =>
  cases r with
  |nil=>rfl
  |cons b r =>
   have e:(a::b::r).length-1=((b::r).length-1)+1:=by have h1:(a::b::r).length=r.length+2:=rfl;have h2:(b::r).length=r.length+1:=rfl;lia
   rw[e,Rw,i]
   all_goals rfl
theorem t9.lset{its its':List c7}{n:Nat}{f:Array c7->Array c7}{t':Nat}(I:t9 X pins σ H s)(h:H l=b7 (.lst xs))(e:s.heap.get? l=b7 { cls:=.type "list",data:=.seq its.toArray n }) (a:f its.toArray=its'.toArray) (c:ay ys its') (hz:ys.length<=sizeLine):t9 X pins σ (x3 H l<|.lst ys) { s with heap:=s.heap.update l<|MP f,toks:=t' }:=by have q:=PySem.IsL.update e f;rw[a]at q;refine I.write (x:=l) (e:=l) (by rw[h];exact trivial) (.inl rfl) (λb u d g=>(PH s.heap (MP f)<|A2 d).trans g) ⟨_,q⟩ ?_;exact⟨hz,its',_,c,q⟩
theorem t9.lnew(I:t9 X pins σ H s)(c:ay ys its)(hz:ys.length<=sizeLine):t9 X pins σ (x3 H s.heap.objs.size<|.lst ys) { s with heap:=s.heap.push { cls:=.type "list",data:=.seq its.toArray },toks:=t' }:=I.laid (λ_ _ q=>z5 _ q) (v6 _) ⟨hz,its,0,c,A7 _ rfl⟩
theorem t9.fresh(I:t9 X pins σ H s):H s.heap.objs.size=b8:=I.hok.fresh<|v6 _
theorem t9.lstM(I:t9 X pins σ H s)(h:H l=b7 (.lst xs)):xs.length<=sizeLine/\∃(its:List c7) (n:Nat),ay xs its/\xs.length=its.length/\s.heap.get? l=b7 { cls:=.type "list",data:=.seq its.toArray n }:=by obtain⟨z,its,n,r,e⟩:=I.hok l _ h;exact⟨z,its,n,r,r.length,e⟩
theorem DO(h:n<=sizeLine):Sl n=c5:=by unfold Sl;exact dF_<|by lia
def GB:V->List V->Hp->VK->Prop:=λx vs H Q=>∃l xs y,x=.ref l/\vs=[y]/\H l=b7 (.lst xs)/\xs.length<sizeLine/\Q .non (x3 H l<|.lst<|xs++[y])
theorem AU:QS X "list.append" GB:=by intro p s σ H x vs v us Q I g d h;obtain⟨l,xs,y,rfl,rfl,a,c,q⟩:=h;cases g;obtain⟨u,rfl,S⟩:=d.one;obtain⟨z,its,n,r,b,e⟩:=I.lstM a;refine OR F.slot_list_append ⟨_,e,rfl⟩ F.entry_list_append (F.args_list_append_2 _ _) (PySem.list_append l its.toArray n u<|by rw[A6];lia) ⟨e,?_⟩;refine⟨.non,_,I.lset (its':=its++[u]) a e (by simp) (r.append<|.cons S .nil) ?_,rfl,q⟩;rw[B6,J2];lia
def GA:V->List V->Hp->VK->Prop:=λx vs H Q=>∃l b xs s,x=.ref l/\vs=[.ref b]/\H l=b7 (.lst xs)/\H b=b7 (.lst s)/\xs.length+s.length<=sizeLine/\Q .non (x3 H l<|.lst<|xs++s)
theorem AS:QS X "list.extend" GA:=by
 intro p s σ H x vs v us Q I o m h;obtain⟨l,b,xs,A,rfl,rfl,c,hB,w,q⟩:=h;cases o;obtain⟨u,rfl,S⟩:=m.one;cases S;obtain⟨z,its,n,r,t,e⟩:=I.lstM c;obtain⟨y,i,j,k,f,d⟩:=I.lstM hB;have a:its.toArray.size+i.toArray.size<=sizeLine:=by rw[A6,A6];lia
 have g:¬(!its.toArray.isEmpty&&Sl (its.toArray.size+i.toArray.size))=b9:=by rw[DO a,QZ];exact M8
 refine OR F.slot_list_extend ⟨_,e,rfl⟩ F.entry_list_extend (F.args_list_extend_2 _ _) (AutoSeq1.list_extend_list_list_0 l its.toArray n b i.toArray j g (by rw[A6];lia)<|by lia) ⟨e,d,?_⟩;refine⟨.non,_,I.lset (its':=its++i) c e (by simp) (r.append k) ?_,rfl,q⟩;rw[B6];lia
def rPop:V->List V->Hp->VK->Prop:=λx vs H Q=>∃l xs y,x=.ref l/\vs=[]/\H l=b7 (.lst xs)/\xs[xs.length-1]?=b7 y/\Q y (x3 H l<|.lst xs.dropLast)
theorem Kv:QS X "list.pop" rPop:=by
 intro p s σ H x vs v us Q I i f h;obtain⟨l,xs,y,rfl,rfl,c,O,q⟩:=h;cases i;have a:=f.zero;subst a;obtain⟨z,its,n,r,g,e⟩:=I.lstM c;obtain⟨u,d,S⟩:=r.get O;have b:its.toArray[its.toArray.size-1]?=b7 u:=by show its.toArray[its.length-1]?=b7 u;rw[<-G4,<-g];exact d
 refine OR F.slot_list_pop ⟨_,e,rfl⟩ F.entry_list_pop (F.args_list_pop_1 _) (MeetsSeq.list_pop_last l its.toArray n u b<|by rw[A6];lia) ⟨e,?_⟩;refine⟨y,_,I.lset (its':=its.dropLast) c e ?_ r.dropLast ?_,S,q⟩;show its.toArray.eraseIdxIfInBounds (its.toArray.size-1)=its.dropLast.toArray;rw[A6,List.eraseIdxIfInBounds_toArray,zh];rw[List.length_dropLast];lia
def JD:V->List V->Hp->VK->Prop:=λx vs H Q=>∃l xs,x=.ref l/\vs=[]/\H l=b7 (.lst xs)/\Q .non (x3 H l<|.lst [])
theorem Eb:QS X "list.clear" JD:=by intro p s σ H x vs v us Q I g d h;obtain⟨l,xs,rfl,rfl,b,q⟩:=h;cases g;have a:=d.zero;subst a;obtain⟨z,its,n,r,c,e⟩:=I.lstM b;refine OR F.slot_list_clear ⟨_,e,rfl⟩ F.entry_list_clear (F.args_list_clear_1 _) (AutoSeq1.list_clear_list_0 l its.toArray n<|by rw[A6];lia) ⟨e,?_⟩;exact⟨.non,_,I.lset (its':=[]) (ys:=[]) b e rfl .nil<|A9 _,rfl,q⟩
def rCat:R2:=λx y H Q=>∃l b xs s,x=.ref l/\y=.ref b/\H l=b7 (.lst xs)/\H b=b7 (.lst s)/\xs.length+s.length<=sizeLine/\∀p,H p=b8->Q (.ref p) (x3 H p<|.lst<|xs++s)
theorem Kj:D0 X (j5 .Add) rCat:=by
 intro p s σ H x y v u Q I j k h;obtain⟨l,b,xs,A,rfl,rfl,d,hB,o,q⟩:=h;cases j;cases k;obtain⟨z,its,n,r,m,e⟩:=I.lstM d;obtain⟨w,i,t,g,f,a⟩:=I.lstM hB;refine PySem.P.add_list e a ?_ (by rw[A6,A6];lia);have c:its.toArray++i.toArray=(its++i).toArray:=by simp
 rw[c];exact⟨.ref _,_,I.lnew (t':=s.toks) (r.append g) (by rw[B6];lia),rfl,q _ I.fresh⟩
end L2
namespace Att
open PySem PySem.W PySem.Calls PyProof.Rows
theorem og:∀(ns:List Int) (vs:List c7),WellAll P h vs (ns.map WData.int)->IntsAre vs ns:=by
 intro ns;induction ns with
 |nil=>intro vs w;rw[Pn]at w;cases w;exact .nil
 |cons n ns i =>
  intro vs w;rw[B9]at w;cases w with
  |cons a b=>cases a;exact .cons _ _<|i _ b
theorem Ap{l:OpenLaw}{n:Nat}(o:l.most=b7 n){P:Params}{h:d8}{args:List WData}{s:List c7}(e:l.row.toRowW.claim.pre args=b9) (j:WellAll P h s args):∃a vs ns,s=[AB6 a]/\args=[WData.list<|ns.map WData.int]/\h.get? a=b7 { cls:=.type "list",data:=.seq vs.toArray }/\IntsAre vs ns/\ns.length<=n:=by
 have i:WShape.hasAll [] args [.list .int]=b9:=(pre_splitW e).1;have k:l.pre.holds [] { args:=args }=b9:=(pre_splitW e).2;obtain⟨d,r,rfl,h1,h2⟩:=hasAllW_cons i;obtain rfl:=hasAllW_nil h2;obtain⟨xs,rfl,m⟩:=hasW_list h1;obtain⟨ns,rfl⟩:=items_int m;have c:ns.length<=n:=by
  unfold OpenLaw.pre at k;have f:(WTm.not<|.lt (.lit<|.int (n:Int))<|.len<|.arg 0).holds [] { args:=[.list<|ns.map .int] }=b9:=by have f:=(holds_andW k).1;rw[o]at f;exact f
  have g:=condW_of f<|w_not<|w_lt w_lit<|w_len_list<|w_arg rfl;rw[v4]at g;refine Nat.le_of_not_lt λq=>?_;have t:(n:Int)<((ns.length:Nat):Int):=by lia
  first
   |(rw[dT_ t]at g;exact p5 g (by decide))
   |(simp at g;lia)
 cases j with
 |cons K w =>
  cases w;cases K with
  |list p b=>exact⟨_,_,ns,rfl,rfl,p,og ns _ b,c⟩
theorem Ax(l:OpenLaw)(args:List WData):l.row.toRowW.claim.post args (.bool b9) args=b9:=postW_of (r:=l.row.toRowW) (X:=(b9==b9))
  (show WShape.has [] (.bool b9) .bool=b9 by first|rfl|decide|simp[WShape.has,WShape.arms,WShape.armsAll])
  (show (WTm.eq .res<|.lit<|.bool b9).value [] { args:=args,res:=b7<|.bool b9,after:=args }=b7 (.bool<|b9==b9)from w_eq_bool (w_res rfl) w_lit) rfl
theorem attach_call{l:OpenLaw}{n:Nat}{q:d5}{e:List c8}{P:(c8->Option c7)->d8->Prop}{YP:c9->d8->Prop}{d:DefRec}(A:l.most=b7 n) (i:d.params.defaults=[])(c:∀(w:c9) (s₀ s₁:f8) (mg mb:c8->Option c7) (fa:d6) (o:d7) (pm cd doc:c7) (a:d6) (vs:List c7) (ns:List Int),Ground q e [] P w s₀ mg mb s₁.heap->YP w s₁.heap -> s₁.heap.get? fa=b7 o->o.data=.func (docDef d.name d.params d.body d.scope pm cd doc)->s₁.heap.CodeRec cd d.name->mg d.name=b7 (.ref fa) ->s₁.heap.get? a=b7 { cls:=.type "list",data:=.seq vs.toArray }->IntsAre vs ns->ns.length<=n->s₁.gens = #[] ->k5 (h7 l.prog w) callerA (.call (.ref fa) ⟨[.ref a],[]⟩) (λr s'=>r=.ok (.ret<|.bool b9)/\OldK s₁.heap s'.heap/\s'.os=s₁.os/\ge s'.gens) s₁):WalkO q e P YP l.row.toRowW d [] (λf vs=>PySem.call f vs):=by intro w s₀ s₁ mg mb G Y fa o pm cd doc T kV B u g D k R O v F b y E m x;obtain rfl:T=.none:=Dflts.none D i;obtain rfl:kV=.none:=Dflts.noKw D;obtain⟨a,vs,ns,rfl,rfl,j,s,h⟩:=Ap A b m;refine enter_call<|Po (c w s₀ s₁ mg mb fa o pm cd doc a vs ns G Y B (fd_plain u) g k j s h R) λr s' C=>?_;obtain⟨rfl,h2,p,t⟩:=C;exact⟨.inl ⟨.bool b9,.bool b9,[],rfl,λ_=>rfl,.bool b9,Ax l _,λ_=>⟨Rj,λ_ z=>(nomatch z)⟩⟩,h2,p,t⟩
noncomputable def xG(h:d8):d8:={ h with objs:=#[] }
theorem kD(h:d8)(b:d6):(xG h).get? b=b8:=by
 cases e:(xG h).get? b with
 |none=>rfl
 |some o=>exact p5 (A1 e)<|NH _
noncomputable def ledger(h:d8)(L d:d6):List (d6×d7):=(C2 h.objs.size).filterMap λa=>if a=L\/a=d then b8 else(h.get? a).map λo=>(a,o)
theorem mem_ledger:(a,o)∈ledger h L d↔a≠L/\a≠d/\h.get? a=b7 o:=by unfold ledger;rw[Qy];constructor;rintro⟨b,_,e⟩;split at e;cases e;rename_i c;obtain⟨o',m,f⟩:=NJ.mp e;cases f;exact⟨λq=>c<|.inl q,λq=>c<|.inr q,m⟩;rintro⟨n1,n2,m⟩;refine⟨a,G1.mpr<|A1 m,?_⟩;rw[p4<|show ¬(a=L\/a=d)from λq=>q.elim n1 n2,m]<;>rfl
theorem news_ledger(b:d≠L)(m:h.get? d=b7 od):News (xG h) L h ([]++(d,od)::ledger h L d):=by rintro⟨a,o⟩ hp;rcases A3.mp hp with e|hp;cases e;exact⟨m,b,kD _ _⟩;obtain⟨n,p,e⟩:=mem_ledger.mp hp;exact⟨e,n,kD _ _⟩
theorem fr_all(n:h.Ns L m):Fr (xG h) L h m:=⟨n,λb o e=>(by rw[kD]at e;cases e),A9 _⟩
end Att
namespace L2
open PySem PySem.Spec PyProof.Rows
theorem sA:∀{vs:List c7}{ns:List Int},IntsAre vs ns->ay (ns.map V.int) vs
 |_,_,.nil=>.nil
 |_,_,.cons n t h=>.cons ⟨t,rfl⟩<|sA h
def Only(H:Hp):Prop:=∀b,H b=b8\/∃o xs,H b=b7 (.frz o<|.lst xs)
theorem Ek{P:d5}{w:c9}{K:u9}{mg mb:c8->Option c7}{CX:NN}{k:Nat}{I a:d6}{R:j9}{x:c8}{sp:Sp}{s₁:f8}{vs:List c7}{ns:List Int}(O:K.In s₁.heap) (y:s₁.heap.Ns e8 mg) (c:s₁.heap.Ns builtinsNs mb) (J:∀x:c8,x≠"__name__"->mb x=f6 x) (t:s₁.heap.NoLimit) (hg:s₁.gens = #[])(E:s₁.heap.get? a=b7 { cls:=.type "list",data:=.seq vs.toArray }) (hi:IntsAre vs ns) (U:ns.length<=sizeLine) (hr:Room k callerA)(F:∀base:d8,K.In base->base.Ns e8 mg->FnOk P w K mg base CX k I R [x] sp) (j:∀(s:f8) (u:c7),BindsTo s R ⟨[u],[]⟩ [(x,u)])(M:∀H:Hp,Only H->G6 K H a (ns.map V.int)->sp [.ref a] H (λv _=>v=.bl b9) λ_ _ _=>False)(X:∀H e s',CX [] H s₁ (λ_ _ _=>False) e s'->False):k5 (h7 P w) callerA (.call (.ref I) ⟨[.ref a],[]⟩) (λr s'=>r=.ok (.ret<|.bool b9)/\OldK s₁.heap s'.heap/\s'.os=s₁.os/\ge s'.gens) s₁:=by
 have W:=sA hi;have C:=hi.length
 -- from an abstract heap in which nothing but the script may be tracked
 have i:∀H:Hp,Only H->G6 K H a (ns.map V.int)->D8 P w H s₁.heap->(∀b,H b≠b8->b=a)->(H a≠b8->K.lookup a=b8) -> k5 (h7 P w) callerA (.call (.ref I) ⟨[.ref a],[]⟩) (λr s'=>r=.ok (.ret<|.bool b9)/\OldK s₁.heap s'.heap/\s'.os=s₁.os/\ge s'.gens) s₁:=by
  intro H T hS A S hK;have f:∀{b:d6}{o:d7},s₁.heap.get? b=b7 o->H b=b8->(EK s₁.heap H).get? b=b7 o:=λe n=>EJ e n;have N:∀{b:d6}{o:d7}{es:Array n5}{ep:Nat},s₁.heap.get? b=b7 o->o.data=.dict es ep->H b=b8:=λ{b o es ep} e d=>by
   cases q:H b with
   |none=>rfl
   |some u=>have G:b=a:=S b (by rw[q];simp);subst G;rw[E]at e;cases e;have Z:Data.seq vs.toArray _=Data.dict es ep:=d;cases Z
  have g:∀{b:d6}{m:c8->Option c7},s₁.heap.Ns b m->(EK s₁.heap H).Ns b m:=λ{b m} ⟨o,es,ep,e,d,r⟩=>⟨o,es,ep,f e<|N e d,d,r⟩
  have p:K.In (EK s₁.heap H):=λb o e=>f (O b o e) (by
   cases q:H b with
   |none=>rfl
   |some u=>have G:b=a:=S b (by rw[q];simp);subst G;rw[hK<|by rw[q];simp]at e;cases e)
  have hM:Mod K mg (EK s₁.heap H):=⟨p,g y,⟨mb,g c,J⟩,let ⟨mc,h1,h2⟩:=t;⟨mc,g h1,h2⟩⟩
  have e0:Env0 P w K mg (EK s₁.heap H) callerA [] s₁ H:=⟨rfl,hM,λb o e=>Hb e,Nat.le_of_eq<|BH _ _,trivial,λb c=>p5 (show b∈([]:List d6)from c) (by simp),A,.of_eq hg⟩
  refine Po ((F _ p<|g y).run callerA [] s₁ H ⟨[.ref a],[]⟩ [.ref a] [.ref a] _ _ hr e0 (j s₁<|.ref a) (.cons rfl .nil)<|M H T hS) λr s' h=>?_;cases r with
  |error e=>exact(X H e s' h).elim
  |ok fl =>
   cases fl with
   |next=>exact NQ h
   |brk=>exact NQ h
   |cont=>exact NQ h
   |ret u =>
    obtain⟨v,H',os,l,Y,B,r',q⟩:=h;have q':v=.bl b9:=q;subst q';obtain rfl:u=NR b9:=r';refine⟨rfl,OldK.of_keep λb o e=>?_,os,l⟩;cases q:H b with
    |none=>exact Y.keep b o e q (by intro z;exact p5 (show b∈([]:List d6)from z)<|by simp)<|by simp
    |some u =>
     rcases T b with z|⟨ob,xs,z⟩
     rw[q]at z;cases z;have z2:=Y.frzs b ob _ z;obtain⟨Q,_⟩:=A b _ z;obtain⟨e2,_⟩:=B b _ z2;rw[e]at Q;cases Q;exact e2
 cases L:K.lookup a with
 |some o =>
  -- the script is one of the module's own objects
  have e:=O a o L;rw[E]at e;cases e;refine i (λ_=>b8) (λ_=>.inl rfl) (.inr ⟨_,vs.toArray,_,L,rfl,rfl,rfl,by rw[A6,C];exact U,by simpa using W⟩) (λb u z=>by have D:(b8:Option HO)=b7 u:=z;cases D) (λb z=>p5 rfl z) λz=>p5 rfl z
 |none=>refine i (λb=>if b=a then b7 (.frz { cls:=.type "list",data:=.seq vs.toArray }<|.lst<|ns.map V.int)else b8) (λb=>?_) (.inl<|.inr ⟨{ cls:=.type "list",data:=.seq vs.toArray },p0 rfl⟩) (λb u z=>?_) (λb z=>?_) λ_=>L;by_cases c:b=a;exact .inr ⟨_,_,p0 c⟩;exact .inl<|p4 c;by_cases c:b=a;have D:=(p0 c).symm.trans z;cases D;subst c;exact⟨E,by rw[v4];exact U,vs,_,W,E⟩;have D:=(p4 c).symm.trans z;cases D;by_cases c:b=a;exact c;exact p5 (p4 c) z
noncomputable abbrev KOf{K:u9}{h:d8}(_:K.In h):u9:=K
theorem walk_of{l:PySem.W.OpenLaw}{n k:Nat}{q:d5}{j:List c8}{P:(c8->Option c7)->d8->Prop}{YP:c9->d8->Prop}{d:DefRec}{K:Params->u9}{CX:c9->NN}{sp:c9->Sp}{x:c8}(J:l.most=b7 n) (t:n<=sizeLine) (p:d.params.defaults=[]) (L:Room k callerA)(D:∀(w:c9) (h:d8),YP w h->(K w.params).In h)(F:∀(w:c9) (mg:c8->Option c7) (fa:d6) (h:d8),(K w.params).In h->h.Ns e8 mg->mg d.name=b7 (.ref fa) -> ∃fd:j9,(∀(s:f8) (u:c7),BindsTo s fd ⟨[u],[]⟩ [(x,u)]) /\∀base:d8,(K w.params).In base->base.Ns e8 mg->FnOk l.prog w (K w.params) mg base (CX w) k fa fd [x] (sp w))(z:∀(w:c9) (H:Hp) (a:d6) (ns:List Int),ns.length<=n->Only H->G6 (K w.params) H a (ns.map V.int)->sp w [.ref a] H (λv _=>v=.bl b9) λ_ _ _=>False)(X:∀(w:c9) (H:Hp) (s:f8) (e:c7) (s':f8),CX w [] H s (λ_ _ _=>False) e s'->False):PySem.W.WalkO q j P YP l.row.toRowW d [] (λf vs=>PySem.call f vs):=by refine Att.attach_call J p λw A s₁ mg mb fa o U M B a vs ns G Y Q N I r m i c R=>?_;have y:=D w _ Y;obtain⟨fd,E,C⟩:=F w mg fa _ y G.T.g r;exact Ek y G.T.g G.T.b G.T.builtins G.T.nolimit R m i (J1 c t) L C E (λH O S=>z w H a ns c O S) λH e s'=>X w H s₁ e s'
noncomputable def jr(s:i5):Arguments:=match s with
 |.FunctionDef _ a _ _ _ _ _ _ _ _=>a
 |_=>{ posonlyargs:=[],args:=[],vararg:=b8,kwonlyargs:=[],kw_defaults:=[],kwarg:=b8,defaults:=[] }
noncomputable def cq(s:i5):List i5:=match s with
 |.FunctionDef _ _ b _ _ _ _ _ _ _=>b
 |_=>[]
noncomputable def aC(s:i5):f9:=match s with
 |.FunctionDef _ _ _ _ _ _ sc _ _ _=>sc
 |_=>{ kind:=.function,names:=[],isGenerator:=c5,isCoroutine:=c5 }
abbrev L5:NN:=λ_ _ _ _ _ _=>False
abbrev E0:XK:=λ_ _ _=>False
theorem pass0:CH L5 X E0:=λ_ _ _ _ _ _ _ h=>h.elim
structure Nu(K:u9)(x qual:c8)(st:i5)(f:d6)(fd:j9):Prop where
 ex:∃(oc:c7) (od:Option d6) (kV doc pm:c7) (an:Option d6) (cdv ct:c7) (osl:Array (Option c7)),fd=N6 x qual (jr st) (cq st) (aC st) .none kV doc pm an cdv ct/\K.lookup f=b7 ⟨oc,od,.func fd,osl⟩/\Q0 K cdv qual=b9
 kp:Ox K (.ref f)=b9
theorem Nu.ok{P:d5}{w:c9}{K:u9}{mg:c8->Option c7}{base:d8}{x l:c8}{st:i5}{f:d6}{a:j9}{N ps:List c8}{k:Nat}{sp:Sp}(F:Nu K x l st f a)(S:FnScope N ps (aC st))(B:∀vs H Q E,sp vs H Q E->vs.length=ps.length)(y:∀(cdv:c7) (A:f7) (outer:List Env) (s:f8) (H:Hp) (vs:List V) (Q:VK) (E:XK),Room k (A.deeper<|k9 l (aC st) s.heap.objs.size f cdv)->sp vs H Q E -> ∃t,L4 (zv L5 P w K mg base N l (aC st) f cdv A outer s H E).nox (cq st) t/\t { nx:=λ_ H'=>Q .non H',rt:=Q } (start N vs) H):FnOk P w K mg base L5 (k+1) f a ps sp:=by obtain⟨c,j,kV,i,U,M,cdv,R,G,rfl,b,d⟩:=F.ex;refine fn_of b d S B λA outer s H vs Q E r z=>?_;obtain⟨t,h,q⟩:=y cdv A outer s H vs Q E r z;exact⟨t,h.nox,q⟩
theorem Nu.binds{K:u9}{x l:c8}{st:i5}{f:d6}{d:j9}{ps:List c8}(F:Nu K x l st f d)(h:∀(kV doc pm:c7) (an:Option d6) (cdv ct:c7) (us:List c7),us.length=ps.length->bindArgs (N6 x l (jr st) (cq st) (aC st) .none kV doc pm an cdv ct) ⟨us,[]⟩=pure (ps.zip us)):ve K d ps []:=by obtain⟨c,j,kV,doc,pm,an,cdv,ct,G,rfl,b,a⟩:=F.ex;exact .all<|h kV doc pm an cdv ct
theorem LB{K:u9}{x q:c8}{st:i5}{f:d6}{o:c7}{j M:Option d6}{G:Array (Option c7)}{kV i U v R:c7}(l:K.lookup f=b7 ⟨o,j,.func<|N6 x q (jr st) (cq st) (aC st) .none kV i U M v R,G⟩)(c:Q0 K v q=b9) (k:Ox K (.ref f)=b9):Nu K x q st f (N6 x q (jr st) (cq st) (aC st) .none kV i U M v R):=⟨⟨o,j,kV,i,U,M,v,R,G,rfl,l,c⟩,k⟩
theorem ar(h:n<=1000):n<sizeLine:=Nat.lt_of_le_of_lt h<|by decide
theorem pv(i:Nat)(h:X.N[i]?=b7 x:=by rfl)(c:ON X.env.scope x:=by first|exact Or.inl rfl|exact Or.inr (Or.inl rfl)|exact Or.inr<|Or.inr rfl)(a:(x==("__debug__":c8))=c5:=by decide)(d:(x==("__classdict__":c8))=c5:=by decide):PE X (.Name x pos) (tVar i):=FI h c a d
theorem cD{A B:Prop}(h:B):if c5=b9 then A else B:=by rw[p4 M8];exact h
theorem cQ{A B:Prop}(h:A):if b9=b9 then A else B:=by rw[p0 rfl];exact h
section
variable{κ:Type}[DecidableEq κ]
noncomputable def wQ(kvs:List (κ×V))(k:κ):Option V:=(kvs.find? λv=>decide<|v.1=k).map (·.2)
noncomputable def putK(kvs:List (κ×V))(k:κ)(v:V):List (κ×V):=if (kvs.any λa=>decide<|a.1=k)=b9 then kvs.map (λa=>if a.1=k then(a.1,v)else a)else kvs++[(k,v)]
theorem wP{p:κ×V}{r:List (κ×V)}{k:κ}(e:p.1=k):wQ (p::r) k=b7 p.2:=by simp[wQ,ML,e]
theorem qA{p:κ×V}{r:List (κ×V)}{k:κ}(e:¬p.1=k):wQ (p::r) k=wQ r k:=by simp[wQ,ML,e]
theorem CJ.getD(r:CJ o u)(a:aK d d'):aK (o.getD d) (u.getD d'):=by
 cases o with
 |none=>cases u with
  |none=>exact a
  |some _=>exact(show False from r).elim
 |some _=>cases u with
  |none=>exact(show False from r).elim
  |some _=>exact r
theorem KV.val{kvs:List (κ×V)}{vs:List (κ×c7)}(r:KV kvs vs)(k:κ):CJ (wQ kvs k) (valueAt vs k):=by
 unfold KV at r;induction r with
 |nil=>exact NP
 |@cons p q ps qs h t i =>
  obtain⟨h1,h2⟩:=h;by_cases e:p.1=k;have a:q.1=k:=h1.symm.trans e;have b:valueAt (q::qs) k=b7 q.2:=by simp[valueAt,ML,a]
  rw[wP e,b];exact h2;have a:¬q.1=k:=λz=>e<|h1.trans z;have b:valueAt (q::qs) k=valueAt qs k:=by simp[valueAt,ML,a]
  rw[qA e,b];exact i
theorem KV.any(r:KV kvs vs)(k:κ):(kvs.any λkv=>decide<|kv.1=k)=vs.any λkv=>decide (kv.1=k):=by
 unfold KV at r;induction r with
 |nil=>rfl
 |cons h t i=>rw[List.any_cons,List.any_cons,i,h.1]
theorem KV.repl(r:KV kvs vs)(k:κ)(a:aK y u):KV (kvs.map λkv=>if kv.1=k then(kv.1,y)else kv) (vs.map λkv=>if kv.1=k then(kv.1,u)else kv):=by
 unfold KV at r ⊢;induction r with
 |nil=>exact .nil
 |@cons p q ps qs h t i=>rw[B9,B9];refine .cons ?_ i;obtain⟨h1,h2⟩:=h;by_cases e:p.1=k;rw[p0 e,p0<|h1.symm.trans e];exact⟨h1,a⟩;rw[p4 e,p4<|λz=>e<|h1.trans z];exact⟨h1,h2⟩
theorem KV.put(r:KV kvs vs)(k:κ)(i:aK y u):KV (putK kvs k y) (stored vs k u):=by unfold putK stored;rw[r.any k];by_cases e:(vs.any λv=>decide<|v.1=k)=b9;rw[p0 e,p0 e];exact r.repl k i;rw[p4 e,p4 e];exact Paired.snoc r ⟨rfl,i⟩
theorem KV.length(r:KV kvs vs):kvs.length=vs.length:=Paired.length r
end
theorem By(r:aK (kV k) u):(bV P w).is k u=b9:=by
 cases k with
 |inl i=>obtain⟨t,e⟩:=(show ∃t,u=Value.int i t from r);subst e;exact wb P w i t
 |inr x=>obtain⟨t,e⟩:=(show ∃t,u=Value.str x t from r);subst e;exact wa P w x t
theorem uG:∀{ks:List E2}{us:List c7},ay (ks.map kV) us->ItemsAre (bV P w) ks us
 | [],_,r=>by rw[Pn]at r;cases r;exact .nil
 |k::ks,_,r=>by
  rw[B9]at r;cases r with
  |cons h t=>exact .cons (By h)<|uG t
abbrev KT(H:Hp):List (List E2×V)->List (List E2×d6×c7)->Prop:=Paired λp q=>p.1=q.1/\H q.2.1=b7 (.tup<|p.1.map kV)/\aK p.2 q.2.2
theorem KT.val{H:Hp}{kvs:List (List E2×V)}{xs:List (List E2×d6×c7)}(r:KT H kvs xs)(k:List E2):CJ (wQ kvs k) ((atKey xs k).map (·.2)):=by
 induction r with
 |nil=>exact NP
 |@cons p q ps qs h t i =>
  obtain⟨h1,_,h2⟩:=h;by_cases e:p.1=k;have a:q.1=k:=h1.symm.trans e;have b:atKey (q::qs) k=b7 q.2:=by simp[atKey,ML,a]
  rw[wP e,b];exact h2;have a:¬q.1=k:=λz=>e<|h1.trans z;have b:atKey (q::qs) k=atKey qs k:=by simp[atKey,ML,a]
  rw[qA e,b];exact i
theorem JC(ok:D8 P w H h)(e:Rd H a u):bY P w H h a u:=e.ok ok
theorem IB(ok:D8 P w H h)(e:Rd H a (.dK kvs)):kvs.length<=sizeLine/\(a==d9)=c5/\∃vs,KV kvs vs/\h.DictOf (bV P w) a vs:=show bY P w H h a (.dK kvs)from JC ok e
theorem IC(ok:D8 P w H h)(e:H a=b7 (.dK kvs)):kvs.length<=sizeLine/\(a==d9)=c5/\∃vs,KV kvs vs/\h.DictOf (bV P w) a vs:=IB ok<|.inl e
theorem FW(ok:D8 P w H h)(e:H a=b7 (.tup<|ks.map kV)):(tupleKind<|bV P w).is h ks a:=by
 obtain⟨_,its,r,o,h1,h2,⟨n,b⟩,_⟩:=(show bY P w H h a (.tup<|ks.map kV)from ok a _ e)
 exact⟨o,its.toArray,n,h1,h2,b,by simpa using uG r⟩
theorem LJ(ok:D8 P w H h)(e:Rd H a (.dT kvs)):kvs.length<=sizeLine/\(a==d9)=c5 /\∃xs,KT H kvs xs/\h.DictOfH (tupleKind<|bV P w) a xs:=by
 obtain⟨z,y,xs,r,o,es,i,h1,h2,f,g,j⟩:=(show bY P w H h a (.dT kvs)from JC ok e)
 refine⟨z,y,xs,r,o,es,i,h1,h2,f,g,λx b=>?_,j⟩;have c:∀{l:List (List E2×V)}{m:List (List E2×d6×c7)},KT H l m->∀x∈m,(tupleKind<|bV P w).is h x.1 x.2.1:=by
  intro l m q;induction q with
  |nil=>intro x b;exact nomatch b
  |@cons p q ps qs d t k=>intro x b;rcases A3.mp b with e|b;subst e;exact FW ok (by rw[<-d.1];exact d.2.1);exact k x b
 exact c r x b
def DGet(H:Hp)(a:d6)(y:V)(r:Option V):Prop:=(∃kvs k,Rd H a (.dK kvs)/\y=kV k/\r=wQ kvs k)\/∃kvs k b,Rd H a (.dT kvs)/\y=.ref b/\H b=b7 (.tup<|k.map kV)/\r=wQ kvs k
theorem t9.big(I:t9 X pins σ H s):d9<s.heap.objs.size:=by have h:e8<s.heap.objs.size:=(I.mod.glob.keeps I.bk).lt;exact Nat.lt_trans (by decide) h
theorem Cg(q:A.units+1<j8)(I:t9 X pins σ H s)(g:DGet H a y (b7 v))(m:aK y u)(h:∀w' s',t9 X pins σ H s'->aK v w'->Q w' s'):g7 (h7 X.prog X.w) A (l8 (.ref a) u) Q E s:=by
 rcases g with⟨kvs,k,e,f,l⟩|⟨kvs,k,b,e,f,L,l⟩
 subst f;obtain⟨z,n,vs,r,d⟩:=IB I.hok e;obtain⟨w',j,c⟩:=CJ.some_of (v:=v) (o:=valueAt vs k) (by rw[l];exact r.val k);exact wpAny_getItem_of (By m) d.mapOf j<|h w' _ (I.tok _) c;subst f;cases (show u=AB6 b from m);obtain⟨z,n,xs,r,d⟩:=LJ I.hok e;obtain⟨w',j,c⟩:=CJ.some_of (v:=v) (o:=(atKey xs k).map (·.2)) (by rw[l];exact r.val k);obtain⟨p,hp,i⟩:=NJ.mp j;refine wpAny_getItem_heap (tupleKind_room_in1 q) (FW I.hok L) d hp ?_;rw[i];exact h w' _ (I.tok _) c
theorem rO(I:t9 X pins σ H s)(m:Qa (H a))(hs:I0 a s.heap h')(i:∃q,h'.get? a=b7 q)(n:bY X.prog X.w (x3 H a ob) h' a ob):t9 X pins σ (x3 H a ob) { s with heap:=h',toks:=t' }:=I.write (x:=a) (e:=a) m (.inl rfl) (λb q d z=>(hs.2 b d).trans z) i n
theorem Ga(z:kvs.length<=sizeLine)(d:(a==d9)=c5)(r:KV kvs vs)(k:h'.DictOf (bV P w) a vs):bY P w H' h' a (.dK kvs):=⟨z,d,vs,r,k⟩
def Gd(i:g8):Prop:=∀b a,subscripted i c5 b a=operate [b,a] (l8 b a)
theorem vJ{prog:d5}{w:c9}{A:f7}{E:c7->f8->Prop}{s:f8}{env:Env}{a e:g8}{p:Pos}{T id:String}{Q:c7->f8->Prop}(l:typeLookup (.type T) "__getitem__" = pure (b7<|.builtin id)) (hs:Gd e)(h:g7 (h7 prog w) A (eval a env) (λo s₁=>g7 (h7 prog w) A (eval e env) (λi s₂=>s₂.TypeIs o T/\g7 (h7 prog w) A (l8 o i) Q E s₂) E s₁) E s):g7 (h7 prog w) A (eval (.Subscript a e p) env) Q E s:=by
 refine Subscript_<|L7 h (λo s₁ d=>L7 d (λi s₂ b=>?_) λ_ _ x=>x) λ_ _ x=>x;obtain⟨g,b⟩:=b;unfold subscriptTail;refine t6 ?_;rw[getitemInPython_of_ne g.not_modules];refine t6<|Ob g l ?_;have n:g7 (h7 prog w) A (subscripted e c5 o i) (λr c=>g7 (h7 prog w) A (letTemporaryGo a o r >>= λ_=>pure r) Q E c) E s₂:=by rw[hs o i];exact wpAny_operating<|L7 b (λr c f=>t6<|wpAny_letTemporaryGo<|t8 f) λ_ _ x=>x
 first
  |exact t8 (t6 n)
  |exact t6 (t8 (t6 n))
  |exact t6 n
theorem wC(I:t9 X pins σ H s)(g:DGet H a y o):s.TypeIs (.ref a) "dict":=by
 rcases g with⟨kvs,k,e,_,_⟩|⟨kvs,k,b,e,_,_,_⟩
 obtain⟨_,_,vs,_,d⟩:=IB I.hok e;exact d.typeIs;obtain⟨_,_,xs,_,d⟩:=LJ I.hok e;exact d.typeIs
def tDGet(d t:TE):TE:=λσ H Q=>d σ H λx c=>t σ c λy b=>∃a v,x=.ref a/\DGet b a y (b7 v)/\Q v b
theorem GP(l:X.A.units+1<j8)(m:PE X o td)(hi:PE X i ty)(hs:Gd i):PE X (.Subscript o i pos) (tDGet td ty):=by intro p s σ H Q I h;refine vJ Sr.lookup hs<|w6 (m p s σ H _ I h) ?_;rintro u w ⟨x,c,f,r,q⟩;refine w6 (hi p w σ c _ f q) ?_;rintro z B ⟨y,d,e,t,a,v,k,g,n⟩;subst k;obtain rfl:u=AB6 a:=r;exact⟨wC e g,Cg l e g t λY C j b=>⟨v,d,j,b,n⟩⟩
theorem Fb(h:d8)(d:d9<h.objs.size):bY P w H (h.push { cls:=.type "dict",data:=.dict #[] }) h.objs.size (.dK []):=⟨A9 _,beq_eq_false_iff_ne.mpr<|A2<|A4 d,[],.nil,Heap.DictOf.new h⟩
def Jt:TE:=λ_ H Q=>∀p,H p=b8->Q (.ref p) (x3 H p<|.dK [])
theorem Dw:PE X (.Dict [] [] pos) Jt:=λp s σ H Q I h =>
 wpAny_Dict_empty ⟨.ref s.heap.objs.size,_,I.laid (a:=s.heap.objs.size) (o:=.dK []) (t':=s.toks) (λ_ _ q=>z5 _ q) (v6 _)<|Fb s.heap I.big,rfl,h _<|I.hok.fresh<|v6 _⟩
end L2
namespace DL
open PySem
theorem ju(env:Env):∀(names:List (c8×k7)) (acc:List (c8×d6)),(∀p∈names,p.2=MQ->∃c,env.cells.lookup p.1=b7 c) ->∃cl,(forIn (m:=Sem) names acc λ(p:c8×k7) (r:List (c8×d6)) =>
    if (p.2==MQ)=b9 then(do let a <-cellOf env p.1;pure (Q8<|(p.1,a)::r))else pure (Q8 r))=pure cl /\
   (∀z c,cl.lookup z=b7 c->acc.lookup z=b7 c\/env.cells.lookup z=b7 c) /\
   (∀z c,acc.lookup z=b7 c->∃c',cl.lookup z=b7 c') /\
   (∀p∈names,p.2=MQ->∃c,cl.lookup p.1=b7 c)
 | [],acc,_=>⟨acc,rfl,λ_ _ h=>.inl h,λz c h=>⟨c,h⟩,λ_ h=>nomatch h⟩
 |(n,k)::aL,acc,hyp=>by
  by_cases hk:k=MQ;subst hk;obtain⟨c0,hc0⟩:=hyp (n,.free) E3 rfl;obtain⟨cl,e,h1,h2,h3⟩:=ju env aL ((n,c0)::acc) λp hp=>hyp p<|C7 _ hp;have ce:cellOf env n=pure c0:=by unfold cellOf;rw[hc0]
  have own:∃c',cl.lookup n=b7 c':=h2 n c0 (by simp[Oy]);refine⟨cl,?_,λz c hz=>?_,λz c hz=>?_,λp hp hf=>?_⟩;rw[Qo];simp only[t5,s9,ce,pure_bind];exact e;rcases h1 z c hz with q|q;rw[Oy]at q;by_cases hz':(z==n)=b9;rw[hz']at q;have:z=n:=by simpa using hz'
  subst this;cases q;exact .inr hc0;have hz'':(z==n)=c5:=by simpa using hz'
  rw[hz'']at q;exact .inl q;exact .inr q;by_cases hz':z=n;subst hz';exact own;refine h2 z c ?_;rw[Oy];have hz'':(z==n)=c5:=by simpa using hz'
  rw[hz''];exact hz;rcases A3.mp hp with rfl|hp;exact own;exact h3 p hp hf;have hb:(k==MQ)=c5:=by simpa using hk
  obtain⟨cl,e,h1,h2,h3⟩:=ju env aL acc λp hp=>hyp p<|C7 _ hp;refine⟨cl,?_,h1,h2,λp hp hf=>?_⟩;rw[Qo];simp only[hb,B5,r9,pure_bind];exact e;rcases A3.mp hp with rfl|hp;exact p5 hf hk;exact h3 p hp hf
theorem lI(h:∀p∈scope.names,p.2=MQ->∃c,env.cells.lookup p.1=b7 c):∃cl,closureFor scope env=pure cl/\(∀z c,cl.lookup z=b7 c->env.cells.lookup z=b7 c)/\(∀p∈scope.names,p.2=MQ->∃c,cl.lookup p.1=b7 c):=by obtain⟨cl,e,h1,h2,a⟩:=ju env scope.names [] h;refine⟨cl,?_,λz c b=>?_,a⟩;unfold closureFor;simp only[bind_pure];exact e;rcases h1 z c b with q|q;simp at q;exact q
theorem gy{env:Env}:∀{names:List (c8×k7)}{x:c8}{k:k7},(names.map λ(p:c8×k7)=>if (p.2==MQ&&env.scope.kind==.function&&env.kindOf p.1==b7 .cell)=b9 then(p.1,Ou)else(p.1,p.2)).lookup x=b7 k ->(names.lookup x=b7 k\/(k=Ou/\names.lookup x=b7 .free))
 | [],_,_,h=>by simp at h
 |(n,j)::aL,x,k,h=>by
  have ih:=@gy env aL x k;rw[B9,Oy]at h;by_cases hx:(x==n)=b9;have hl:List.lookup x ((n,j)::aL)=b7 j:=by rw[Oy,hx]
  rw[hl];by_cases hc:(j==MQ&&env.scope.kind==.function&&env.kindOf n==b7 .cell)=b9;simp only[hc,s9,hx]at h;cases h;have:j=MQ:=by simp only[D9]at hc;simpa using hc.1.1
  exact .inr ⟨rfl,by rw[this]⟩;simp only[hc,B5,r9,hx]at h;exact .inl h;have hx':(x==n)=c5:=by simpa using hx
  have hl:List.lookup x ((n,j)::aL)=List.lookup x aL:=by rw[Oy,hx']
  rw[hl];refine ih ?_;by_cases hc:(j==MQ&&env.scope.kind==.function&&env.kindOf n==b7 .cell)=b9;simp only[hc,s9,hx']at h;exact h;simp only[hc,B5,r9,hx']at h;exact h
theorem qD(s:List g8)(env:Env):compTests s env =
  (forIn s b9 λc r=>if r=b9 then do let ok <-isTrue c env (eval c env);pure (Q8 ok)else pure (Q8 r)):=by unfold compTests;simp only[bind_pure]
theorem zk(J:Nat->f8->Prop)(E:c7->f8->Prop)(b:∀e s',E e s'->notedBy (h7 prog w) A env (λe s'=>R (.error e) s') e s')(t:∀n s,J n s->g7 (h7 prog w) A (j0 it) (λr s1=>match r with
   |none=>R (.ok .next) s1
   |some v=>g7 (h7 prog w) A (j1 target it v) (λ_ s2=>g7 (h7 prog w) A (i8 target env v) (λ_ s3 =>
     g7 (h7 prog w) A (compTests ifs env) (λok s4 =>
      if ok=b9 then g7 (h7 prog w) A (eval elt env) (λy s5=>g7 (h7 prog w) A (call (.builtin "list.append") [acc,y]) (λ_ s6=>∃m,m<n/\J m s6) E s5) E s4
      else ∃m,m<n/\J m s4) E s3) E s2) E s1) E s)
  (n:Nat) (h:J n s):k5 (h7 prog w) A (.compLoop (.ListComp elt [⟨target,iter,ifs,0⟩] scope pos) 0 it acc env) R s:=by
 refine codeAny_loop rfl J (λn s f=>?_) n h;show g7 _ A ((compTurn (.ListComp elt [⟨target,iter,ifs,0⟩] scope pos) 0 it acc env).onRaise<|λx=>do noteFrame x env;theTreesLotGoes x) _ _ s;refine wpAny_noted ?_;rw[compTurn_list];refine t6<|wpAny_standAt<|t6<|L7 (t n s f) (λr s1 h1=>?_) b;cases r with
 |none=>exact t8 h1
 |some v =>
  refine t6<|L7 h1 (λ_ s2 h2=>?_) b;refine t6<|L7 h2 (λ_ s3 a=>?_) b;rw[qD]at a;refine t6<|L7 a (λok s4 d=>?_) b;cases ok with
  |false=>exact t8 ⟨rfl,d⟩
  |true=>exact t6<|t6<|L7 d (λy s5 l=>t6<|L7 l (λ_ s6 c=>t8<|t8 ⟨rfl,c⟩) b) b
end DL
namespace L2
open PySem PySem.Spec PyProof.Rows DL
theorem lx{env:Env}:∀{names:List (c8×k7)}{x:c8},names.lookup x=b7 .free ->((names.map λ(p:c8×k7)=>if (p.2==MQ&&env.scope.kind==.function&&env.kindOf p.1==b7 .cell)=b9 then(p.1,Ou)else(p.1,p.2)).lookup x=b7 .cell \/ (names.map λ(p:c8×k7)=>if (p.2==MQ&&env.scope.kind==.function&&env.kindOf p.1==b7 .cell)=b9 then(p.1,Ou)else(p.1,p.2)).lookup x=b7 .free)
 | [],_,h=>by simp at h
 |(n,j)::aL,x,h=>by
  have ih:=@lx env aL x;rw[B9,Oy];rw[Oy]at h;by_cases hc:(j==MQ&&env.scope.kind==.function&&env.kindOf n==b7 .cell)=b9;by_cases hx:(x==n)=b9;simp[hc,hx];have hx':(x==n)=c5:=by simpa using hx
  rw[hx']at h;simp only[hc,s9,hx'];exact ih h;by_cases hx:(x==n)=b9;rw[hx]at h;cases h;right;simp only[hc,B5,r9,hx];have hx':(x==n)=c5:=by simpa using hx
  rw[hx']at h;simp only[hc,B5,r9,hx'];exact ih h
noncomputable def C3(X:Cx)(N':List c8)(scope:f9)(l:List (c8×d6))(s₀:f8)(H₀:Hp)(ex:List d6):Cx:={ X with N:=N',s₀:=s₀,H₀:=H₀,env:=compEnvC scope l s₀.heap.objs.size X.env,outer:=X.stack,ex:=ex,fn:=λx=>scope.names.lookup x==b7 .cell,pn:=[],xe:=λ_ _=>False }
structure BlkSc(X:Cx)(N':List c8)(nt:Nat)(js:List Nat)(scope:f9):Prop where
 kind:scope.kind=.function
 nocell:∀y∈scope.names,y.2≠.cell
 loc:∀y∈scope.names,y.2=.local->scope.names.lookup y.1=b7 .local
 free:∀y∈scope.names,y.2=.free->(X.env.kindOf y.1=b7 .cell\/X.env.kindOf y.1=b7 .free)
 len:N'.length=nt+js.length
 fr:∀(k j:Nat),js[k]?=b7 j->∃x,N'[nt+k]?=b7 x/\X.N[j]?=b7 x/\scope.names.lookup x=b7 .free/\(X.env.kindOf x=b7 .cell\/X.env.kindOf x=b7 .free)
noncomputable def bst(t:Nat)(s:List Nat)(σ:St):St:=Ow t b8++s.map λj=>(σ[j]?).join
theorem Ct(t:Nat)(s:List Nat)(σ:St):(bst t s σ).length=t+s.length:=by simp[bst]
theorem IS(h:(bst nt js σ)[i]?=b7 (b7 v)):∃k j,i=nt+k/\js[k]?=b7 j/\σ[j]?=b7 (b7 v):=by
 unfold bst at h;by_cases hi:i<nt;rw[L0 (by simpa using hi),Rx]at h;simp[hi]at h;rw[MU (by simpa using NO.mp hi),Rs,C6]at h;cases e:js[i-nt]? with
 |none=>rw[e]at h;cases h
 |some j =>
  rw[e]at h;refine⟨i-nt,j,by lia,e,?_⟩;have h':(σ[j]?).join=b7 v:=by simpa using h
  cases q:σ[j]? with
  |none=>rw[q]at h';cases h'
  |some o=>rw[q]at h';exact t4 b7 h'
def NM(X:Cx)(i:List g8)(t:TT):Prop:=∀(p:List (d6×d7)) (s:f8) (σ:St) (H:Hp) (Q:Bool->Hp->Prop),t9 X p σ H s->t σ H Q->g7 (h7 X.prog X.w) X.A (compTests i X.env) (TP X p σ Q) X.xe s
def ttNil:TT:=λ_ H Q=>Q b9 H
theorem GF:NM X [] ttNil:=λp s σ H Q I h=>by rw[qD];exact wpAny_tests_nil ⟨H,I,h⟩
theorem GE(h:PT X c t):NM X [c] t:=λp s σ H Q I q=>by rw[qD];exact wpAny_tests_one<|h p s σ H Q I q
def RO(t:Nat)(s:List Nat)(wi:TI)(g:TG)(tt:TT)(te:TE):TE:=λσ H Q=>wi σ H λJ d=>∃W:Nat->Nat->List V->St->Hp->Prop,(∃m,W 0 m [] (bst t s σ) d) /\∀i m vs τ H,W i m vs τ H->(J.stop i H/\∀p,H p=b8->Q (.ref p) (x3 H p<|.lst vs)) \/(J.go i H/\∀x H',J.yld i H x H'->g x τ H' λa e=>tt a e λb c=>if b=b9 then te a c λy f=>vs.length<sizeLine/\∃j,j < m/\W (i+1) j (vs++[y]) a f else ∃j,j < m/\W (i+1) j vs a c)
noncomputable abbrev cX(its:List c7)(k:Nat):d7:={ cls:=.type "list",data:=.seq its.toArray k }
theorem t9.blkOk(B:BlkSc X N' nt js scope)(I:t9 X pins σ H s)(a:∀z c,cl.lookup z=b7 c->X.env.cells.lookup z=b7 c) (f:∀p∈scope.names,p.2=MQ->∃c,cl.lookup p.1=b7 c) (i:∀b∈fp,yf X pins H b) (j:∀b∈fp,b<s.heap.objs.size):(C3 X N' scope cl { s with heap:=s.heap.push ob } H<|s.heap.objs.size::fp).Ok:=by
 have J:t9 X pins σ H { s with heap:=s.heap.push ob }:=I.kept (t':=s.toks) λb o e=>z5 _ e;have ltc:∀z c,cl.lookup z=b7 c->c<s.heap.objs.size:=λz c e=>by obtain⟨v,q⟩:=I.cell z c<|a z c e;exact q.lt
 have C:(s.heap.push ob).objs.size=s.heap.objs.size+1:=MF ..;refine⟨I.ok.mod,B.kind,I.ok.glob,I.ok.blt,v6 _,λy z c h1 h2=>I.ok.inj y z c (a y c h1)<|a z c h2,λy O=>?_,λy c h=>?_,I.ok.hd,I.ok.frames,.inl rfl,λb d=>?_,λb o e=>?_,?_,λb o e d=>?_,λb d=>?_,J.stack,I.stkFree⟩;have l:scope.names.lookup y=b7 .free:=by
  rcases O with O|O;rcases gy (env:=X.env) (names:=scope.names) (x:=y) (k:=.cell) O with q|⟨_,q⟩
  exact p5 rfl<|B.nocell _<|Oe q;exact q;rcases gy (env:=X.env) (names:=scope.names) (x:=y) (k:=.free) O with q|⟨q,_⟩
  exact q;cases q
 exact f (y,.free) (Oe l) rfl;exact p5 rfl<|B.nocell _<|Oe<|beq_iff_eq.mp<|show (scope.names.lookup y==b7 Ou)=b9 from h;show b≠(s.heap.push ob).objs.size/\∀x c,cl.lookup x=b7 c->c≠b;rw[C];rcases A3.mp d with rfl|d;exact⟨A4<|MG _,λx c e=>A4<|ltc x c e⟩;exact⟨A4<|O2<|j b d,λx c e=>(i b d).2.2.2.2.1 x c<|a x c e⟩;exact⟨z5 _ (I.bs b o e).1,(I.bs b o e).2⟩;show X.base.objs.size<=(s.heap.push ob).objs.size;rw[C];exact Nat.le_succ_of_le<|J1 I.ok.bsz I.sz;rcases A3.mp d with rfl|d;exact p5 (A1 (I.bs _ o e).1)<|J4 _;rcases(i b d).2.2.2.1 with z|z;exact I.ok.noex b o e z;exact p5 (K4 (A1 (I.ok.bs b o e).1) z)<|J4 _;intro m;have g:=I.stkSub b m;rcases A3.mp d with rfl|d;rcases A3.mp g with q|q;exact p5 I.lt (by rw[<-q];exact J4 _);exact I.nofs (v6 _) q;rcases A3.mp g with q|q;exact(i b d).2.1 q;exact(i b d).2.2.1 q
theorem t9.blkStart(B:BlkSc X N' nt js scope)(I:t9 X pins σ H s)(a:∀z c,cl.lookup z=b7 c->X.env.cells.lookup z=b7 c) (f:∀p∈scope.names,p.2=MQ->∃c,cl.lookup p.1=b7 c) (J:∀b∈fp,yf X pins H b) (m:∀b∈fp,b<s.heap.objs.size)(g:∀b o,(s.heap.push<|cX [] 0).get? b=b7 o->h1.get? b=b7 o) (K:h1.Ns (s.heap.push<|cX [] 0).objs.size mm):t9 (C3 X N' scope cl { s with heap:=s.heap.push (cX [] 0) } H<|s.heap.objs.size::fp) [(s.heap.objs.size,cX [] 0)] (bst nt js σ) H { s with heap:=h1,toks:=tk }:=by
 have d:∀b o,s.heap.get? b=b7 o->h1.get? b=b7 o:=λb o e=>g b o<|z5 _ e;have C:(s.heap.push<|cX [] 0).objs.size=s.heap.objs.size+1:=MF ..;refine⟨I.blkOk B a f J m,rfl,I.bare,Un.kept g,⟨mm,K,λi x v D E S=>?_⟩,λx c e=>?_,?_,λx c e=>I.freeC x c<|a x c e,λp hp=>?_,I.hok.kept d,?_⟩;obtain⟨k,j,rfl,L,t⟩:=IS E;obtain⟨R,P,Q,A,y⟩:=B.fr k j L;have F:x=R:=C0<|D.symm.trans P;subst F;obtain⟨V,M,n⟩:=I.loc;have w:ON X.env.scope x:=y.elim (λz=>.inr<|.inl z) λz=>.inr<|.inr z;obtain⟨u,r,h⟩:=n j x v Q t w;refine⟨u,r,?_⟩;rcases h with⟨q,_⟩|⟨q,c,G,l⟩
 rcases y with z|z<;>(rw[q]at z;cases z)
 obtain⟨U,O⟩:=f (x,.free) (Oe A) rfl;have:U=c:=C0<|(a x U O).symm.trans G;subst this;exact .inr ⟨lx (env:=X.env) A,U,O,l.keeps d⟩;obtain⟨v,q⟩:=I.cell x c<|a x c e;exact⟨v,q.keeps d⟩;exact I.hok.fresh (by show s.heap.objs.size<=(s.heap.push<|cX [] 0).objs.size;rw[C];exact Pk _);have e:p=(s.heap.objs.size,cX [] 0):=by simpa [C3]using hp
 subst e;refine⟨g _ _<|A7 _ rfl,I.hok.fresh<|v6 _,?_,?_,λv z=>by cases z⟩;show s.heap.objs.size≠(s.heap.push<|cX [] 0).objs.size;rw[C];exact A4<|MG _;intro N;rcases A3.mp (I.stkSub _ N)with q|q;exact p5 I.lt (by rw[<-q];exact J4 _);exact I.nofs (v6 _) q;rw[Ct];exact B.len.symm
theorem t9.blkEnd(I:t9 X pins σ H s)(F:∀b∈fp,yf X pins H b)(a:t9 (C3 X N' scope cl { s with heap:=s.heap.push (cX [] 0) } H<|s.heap.objs.size::fp) [(s.heap.objs.size,cX its k)] τ H' s')(L:ay vs its) (G:vs.length<=sizeLine) (T:I0 (s.heap.push<|cX [] 0).objs.size s'.heap h'):t9 X pins σ (x3 H' s.heap.objs.size<|.lst vs) { s' with heap:=h' }:=by
 have l:(s.heap.push<|cX [] 0).objs.size=s.heap.objs.size+1:=MF ..;have C:s.heap.objs.size≠(s.heap.push<|cX [] 0).objs.size:=by rw[l];exact A4<|MG _
 obtain⟨K,D,_⟩:=a.pin (s.heap.objs.size,cX its k) (by simp[C3]);have i:s'.heap.get? s.heap.objs.size=b7 (cX its k):=K;have f:H' s.heap.objs.size=b8:=D;have j:H' (s.heap.push<|cX [] 0).objs.size=b8:=a.free;have u:Un (K6 X.stack) (s.heap.objs.size::fp) H H' (s.heap.push<|cX [] 0) s'.heap:=a.base;have E:∀b o,s.heap.get? b=b7 o->b≠s.heap.objs.size/\b≠(s.heap.push<|cX [] 0).objs.size:=λb o e=>by have:=A1 e;exact⟨A4 this,by rw[l];exact A4<|O2 this⟩
 have p:∀b o,s.heap.get? b=b7 o->(s.heap.push<|cX [] 0).get? b=b7 o:=λb o e=>z5 _ e;have g:∀b o,s.heap.get? b=b7 o->b∉fp->b∉s.heap.objs.size::fp:=λb o e x J=>by rcases A3.mp J with q|q;exact(E b o e).1 q;exact x q
 refine I.call' (s':={ s' with heap:=h' }) (ch:=fp) a.os ⟨λb o e n d x=>?_,λb o e n d x=>?_,λb o e n x=>?_,λb o e x=>?_,λb xs e=>?_,λb o w e=>?_,λb ps e=>?_⟩ (λb w q=>?_) a.bare λb d=>?_;exact(T.2 b (E b o e).2).trans<|u.keep b o (p b o e) n d<|g b o e x;obtain⟨M,z⟩:=u.slot b o (p b o e) n d<|g b o e x;exact⟨M,(T.2 b (E b o e).2).trans z⟩;rw[az (E b o e).1];exact u.free b o (p b o e) n<|g b o e x;obtain⟨o',z⟩:=u.there b o (p b o e)<|g b o e x;exact⟨o',(T.2 b (E b o e).2).trans z⟩;have z:=u.tups b xs e;rw[az<|ae z f];exact z;have z:=u.frzs b o w e;rw[az<|ae z f];exact z;obtain⟨m,z⟩:=u.tbls b ps e;exact⟨m,by rw[az<|ae z f];exact z⟩;by_cases d:b=s.heap.objs.size;subst d;rw[aR]at q;cases q;exact⟨G,its,k,L,(T.2 _ C).trans i⟩;rw[az d]at q;refine(a.hok b w q).stay (λc v h r=>(T.2 c ?_).trans r) (λc z=>by rw[az<|ae z f];exact z) λc xs z=>by rw[az<|ae z f];exact z
 rcases h with rfl|h;exact ae q j;exact ae h j;obtain⟨_,t,_,y,A,B⟩:=F b d;exact⟨y,t,A,B⟩
theorem Bk{s tg N:g8}{M:List g8}{scope:f9}{bk:Pos}{N':List c8}{l:List (c8×d6)}{J:It}{fp:List d6}{it:d6}{tn:Nat->d8->Prop}{g:TG}{tt:TT}{te:TE}{Q:VK}{W:Nat->Nat->List V->St->Hp->Prop}{R:Result->f8->Prop}{s0:f8}{H0:Hp}{D:d6} (hc:X.calm=b9)(hg:PG (C3 X N' scope l s0 H0<|D::fp) tg g) (ht:NM (C3 X N' scope l s0 H0<|D::fp) M tt) (he:PE (C3 X N' scope l s0 H0<|D::fp) s te)(T:Turn X.prog X.w X.K tg J fp it tn) (L:D∉fp)(S:∀i m vs τ H,W i m vs τ H->(J.stop i H/\∀p,H p=b8->Q (.ref p) (x3 H p<|.lst vs)) \/ (J.go i H/\∀x H',J.yld i H x H'->g x τ H' λτ2 H2=>tt τ2 H2 λb f=>if b=b9 then te τ2 f λy H4=>vs.length<sizeLine/\∃m',m' < m/\W (i+1) m' (vs++[y]) τ2 H4 else ∃m',m' < m/\W (i+1) m' vs τ2 f))(t:∀b∈fp,b≠s0.heap.objs.size/\b∉K6 X.stack/\∀x c,l.lookup x=b7 c->c≠b) (I:D≠s0.heap.objs.size) (aD:D∉K6 X.stack) (as:∀x c,l.lookup x=b7 c->c≠D)(aj:∀τ H' s' vs its k,t9 (C3 X N' scope l s0 H0<|D::fp) [(D,cX its k)] τ H' s'->ay vs its->vs.length<=sizeLine->Q (.ref D) (x3 H' D<|.lst vs)->R (.ok .next) s')
  (m0:Nat) {j:St}{s3:f8}{f:Hp} (I3:t9 (C3 X N' scope l s0 H0<|D::fp) [(D,cX [] 0)] j f s3) (bs:tn 0 s3.heap) (al:∀b∈fp,f b=b8) (w0:W 0 m0 [] j f) :
  k5 (h7 X.prog X.w) X.A (.compLoop (.ListComp s [⟨tg,N,M,0⟩] scope bk) 0 (.ref it) (.ref D)<|compEnvC scope l s0.heap.objs.size X.env) R s3:=by
 have h:∀{ob:d7}{H':Hp},(∀b∈fp,H' b=b8)->∀b∈fp,yf (C3 X N' scope l s0 H0<|D::fp) [(D,ob)] H' b:=λ{ob H'} hn b d=>by
  obtain⟨a1,a2,a3⟩:=t b d;refine⟨hn b d,a1,a2,.inl<|C7 _ d,a3,λp hp z=>?_⟩;have e:p=(D,ob):=by simpa [C3]using hp
  subst e;exact L<|by rw[show D=b from z];exact d
 refine zk (λn s'=>∃i τ H' vs its k,t9 (C3 X N' scope l s0 H0<|D::fp) [(D,cX its k)] τ H' s'/\tn i s'.heap/\(∀b∈fp,H' b=b8)/\ay vs its/\vs.length<=sizeLine/\W i n vs τ H') (λ_ _=>False) (λ_ _ z=>z.elim) ?_ m0 ⟨0,j,f,[],[],0,I3,bs,al,.nil,A9 _,w0⟩;rintro n s' ⟨i,τ,H',vs,its,k,I',O,E,Z,hl,w'⟩;rcases S i n vs τ H' w' with⟨stop,q⟩|⟨go,P⟩
 refine w6 (T.done (C3 X N' scope l s0 H0<|D::fp) rfl rfl rfl hc i _ s' τ H' (λ_ _=>False) I' (h E) O stop) ?_;rintro r s4 ⟨hr,I4⟩;subst hr;exact aj τ H' s4 vs its k I4 Z hl<|q D (I'.pin (D,cX its k)<|by simp[C3]).2.1;refine w6 (T.item (C3 X N' scope l s0 H0<|D::fp) rfl rfl rfl hc i _ s' τ H' (λ_ _=>False) I' (h E) O go) ?_;rintro r s4 ⟨u,hr,h4⟩;subst hr;refine w6 h4 ?_;rintro _ s5 ⟨x,H5,I5,r5,y5,B,an⟩;have ai:=I5.pinned (h an)<|T.obj _ _ B;refine w6 (hg _ s5 τ H5 x u _ ai r5<|P x H5 y5) ?_;rintro _ s6 ⟨a,H6,I6,q6⟩;refine w6 (ht _ s6 a H6 _ I6 q6) ?_;rintro ok s7 ⟨H7,Y,q7⟩;have F:∀{b:d6}{o:d7},b∈fp->s5.heap.get? b=b7 o->(b,o)∈(C3 X N' scope l s0 H0<|D::fp).pn++([(D,cX its k)]++jL fp s5.heap):=λd e=>I9 _<|I9 _<|ip d e;cases ok with
 |false =>
  obtain⟨m',hm,w7⟩:=(show ∃m',m' < n/\W (i+1) m' vs a H7 from q7)
  refine⟨m',hm,i+1,a,H7,vs,its,k,Y.unpinned,T.keep _ _ _ B λb d o e=>(Y.pin (b,o)<|F d e).1,λb d=>?_,Z,hl,w7⟩;obtain⟨o,e,_⟩:=T.obj _ _ B b d;exact(Y.pin (b,o)<|F d e).2.1
 |true =>
  refine w6 (he _ s7 a H7 _ Y q7) ?_;rintro yv s8 ⟨y,U,I8,r8,q8⟩;obtain⟨be,m',hm,w8⟩:=q8;obtain⟨oD,fD,_⟩:=I8.pin (D,cX its k) (I9 _<|Np _<|by simp);have C:U D=b8:=fD;refine append_at (its:=its.toArray) (n:=k) oD (λh9 bl o9=>?_) (by rw[A6,<-Z.length];exact hl);have J8:t9 (C3 X N' scope l s0 H0<|D::fp) (jL fp s5.heap) a U s8:=I8.pins_of λp hp=>I8.pin p<|I9 _<|I9 _ hp;have J9:t9 (C3 X N' scope l s0 H0<|D::fp) (jL fp s5.heap) a U { s8 with heap:=h9 }:=J8.turned (t':=s8.toks) (it:=D) (λb o d e=>(bl.2 b d).trans e) C I (.inl E3) as λp hp z=>by
   have aS:p∈jL fp s5.heap:=by simpa [C3]using hp
   exact L<|by rw[<-z];exact(ue aS).1
  have G:∀{b:d6}{o:d7},b∈fp->s5.heap.get? b=b7 o->(b,o)∈(C3 X N' scope l s0 H0<|D::fp).pn++jL fp s5.heap:=λd e=>I9 _<|ip d e;refine⟨m',hm,i+1,a,U,vs++[y],its++[yv],k+1,J9.pins_of λp hp=>?_,T.keep _ _ _ B λb d o e=>(J9.pin (b,o)<|G d e).1,λb d=>?_,Z.append<|.cons r8 .nil,?_,w8⟩;have e:p=(D,cX (its++[yv])<|k+1):=by simpa using hp
  subst e;refine⟨?_,C,I,aD,λv z=>by cases z⟩;rw[show cX (its++[yv]) (k+1)=({ cls:=.type "list",data:=.seq (its.toArray.push yv) (k+1) }:d7) by rw[List.push_toArray]];exact o9;obtain⟨o,e,_⟩:=T.obj _ _ B b d;exact(J9.pin (b,o)<|G d e).2.1;rw[B6];exact be
theorem pe_lc{t N r:g8}{u:List g8}{scope:f9}{G:Pos}{N':List c8}{nt:Nat}{js:List Nat}{wi:TI}{g:TG}{tt:TT}{te:TE}(B:BlkSc X N' nt js scope)(hc:X.calm=b9)(hi:PI X N r wi)(hg:∀cl s0 H0 ex,PG (C3 X N' scope cl s0 H0 ex) N g) (ht:∀cl s0 H0 ex,NM (C3 X N' scope cl s0 H0 ex) u tt) (he:∀cl s0 H0 ex,PE (C3 X N' scope cl s0 H0 ex) t te)(hs:∀x,j4 r X.env x=pure x:=by intro _;rfl):PE X (.ListComp t [⟨N,r,u,0⟩] scope G) (RO nt js wi g tt te):=by
 intro i s σ H Q I h;rw[eval_ListComp];obtain⟨cl,O,d,C⟩:=lI (scope:=scope) (env:=X.env) λp hp hf=>I.ok.has p.1<|B.free p hp hf;refine wpAny_comprehension_free (use:=b8) rfl hs O B.kind B.loc ?_;refine w6 (hi i s σ H _ I h) λv s1 h1=>w6 h1 λai a h2=>?_;obtain⟨it,P,tn,J,H2,e,j,T,S,M,W,⟨m0,w0⟩,L⟩:=h2;subst e;refine G3<|wpAny_newFunctionEnv B.nocell (by intro y hy;simp at hy) (λh1 D E=>?_) B.kind;have m:∀b∈P,b<a.heap.objs.size:=λb f=>by obtain⟨o,e,_⟩:=T.obj _ _ S b f;exact A1 e
 have Z:(a.heap.push<|cX [] 0).objs.size=a.heap.objs.size+1:=MF ..;have F:∀b o,(a.heap.push<|cX [] 0).get? b=b7 o->h1.get? b=b7 o:=λb o e=>(E.2 b<|A4<|A1 e).trans<|z5 _ e;have I3:=j.blkStart (tk:=a.toks+([]:List (c8×c7)).length) B d C M m F D;have K:tn 0 h1:=T.keep _ _ _ S λb _ o e=>F b o<|z5 _ e;have U:a.heap.objs.size∉P:=λz=>J4 _<|m _ z;have V:a.heap.objs.size∉K6 X.stack:=λz=>by rcases A3.mp (j.stkSub _ z)with q|q;exact p5 j.lt (by rw[<-q];exact J4 _);exact j.nofs (v6 _) q
 have R:a.heap.objs.size≠(a.heap.push<|cX [] 0).objs.size:=by rw[Z];exact A4<|MG _
 have ltc:∀z c,cl.lookup z=b7 c->c<a.heap.objs.size:=λz c e=>by obtain⟨v,q⟩:=j.cell z c<|d z c e;exact q.lt
 have n:∀b∈P,b≠(a.heap.push<|cX [] 0).objs.size/\b∉K6 X.stack/\∀x c,cl.lookup x=b7 c->c≠b:=λb f=>by refine⟨by rw[Z];exact A4<|O2<|m b f,λz=>?_,λx c e=>(M b f).2.2.2.2.1 x c<|d x c e⟩;rcases A3.mp (j.stkSub b z)with q|q;exact(M b f).2.1 q;exact(M b f).2.2.1 q
 have l:k5 (h7 X.prog X.w) X.A (.compLoop (.ListComp t [⟨N,r,u,0⟩] scope G) 0 (.ref it) (.ref a.heap.objs.size)<|compEnvC scope cl (a.heap.push<|cX [] 0).objs.size X.env) (compPost (h7 X.prog X.w) X.A X.xe b8 (EP X i σ Q) (.ref a.heap.objs.size) (a.heap.push<|cX [] 0).objs.size) { a with heap:=h1,toks:=a.toks+([]:List (c8×c7)).length }:=by refine Bk (s0:={ a with heap:=a.heap.push (cX [] 0) }) (H0:=H2) (N':=N') (Q:=Q) hc (hg _ _ _ _) (ht _ _ _ _) (he _ _ _ _) T U L n R V (λx c e=>A4<|ltc x c e) ?_ m0 I3 K (λb f=>(M b f).1) w0;intro τ H' s' vs its k Y rv hl q;obtain⟨mm,hn,_⟩:=id Y.loc;exact⟨mm,hn,λh' sb=>⟨.ref a.heap.objs.size,_,j.blkEnd M Y rv hl sb,rfl,q⟩⟩
 exact codeAny_compStart_list l<|T.self _ 0 _ _ _ K l
section
inductive D where
 |non|bl (b:Bool)|int (i:Int)|str (x:c8)|ty (n:String)|tup (ds:List D)|ref (n:Nat)
inductive MO where
 |lst (xs:List D)
 |fz (xs:List D)
 |kl (xs:List D)
 |dct (kvs:List (c8×D))
 |dkt (kvs:List (D×D))
 |dkq (e:Nat) (kvs:List (D×D))
 |dkm (kvs:List (D×D))
 |fdc (o:d7) (kvs:List (c8×D))
 |tb (x:c8) (b:Bool)
 |exc (x:c8)
noncomputable abbrev u8:=List MO
noncomputable def MO.isL:MO->Bool
 |.dct _=>c5
 |.dkt _=>c5
 |.dkq _ _=>c5
 |.fdc _ _=>c5
 |.dkm _=>c5
 |.tb _ _=>c5
 |.exc _=>c5
 |_=>b9
noncomputable def jv(s:List c8)(vs:List V):List (E2×V):=(s.zip vs).map λp=>(ABp p.1,p.2)
mutual
inductive u6(K:u9)(ρ:List d6)(H:Hp):D->V->Prop
 |non:u6 K ρ H .non .non
 |bl (b:Bool):u6 K ρ H (.bl b) (.bl b)
 |int (i:Int):u6 K ρ H (.int i) (.int i)
 |str (x:c8):u6 K ρ H (.str x) (.str x)
 |ty (n:String):u6 K ρ H (.ty n) (.ty n)
 |tup {a:d6}{vs:List V}{ds:List D} (h:B7 K H a vs) (r:Reps K ρ H ds vs):u6 K ρ H (.tup ds) (.ref a)
 |ref {n:Nat}{a:d6} (h:ρ[n]?=b7 a):u6 K ρ H (.ref n) (.ref a)
inductive Reps(K:u9)(ρ:List d6)(H:Hp):List D->List V->Prop
 |nil:Reps K ρ H [] []
 |cons {d:D}{v:V}{ds:List D}{vs:List V} (h:u6 K ρ H d v) (t:Reps K ρ H ds vs):Reps K ρ H (d::ds) (v::vs)
end
def KList(K:u9)(a:d6)(xs:List V):Prop:=∃(o:d7) (its:Array c7) (n:Nat),K.lookup a=b7 o/\o.cls=.type "list"/\o.dict=b8/\o.data=.seq its n/\its.size<=sizeLine/\ay xs its.toList
noncomputable def da:Nat->D->Bool
 |_,.str _=>b9
 |_,.int _=>b9
 |n+1,.tup ds=>ds.all<|da n
 |_,_=>c5
noncomputable def A5(w:c9):Nat->D->Int
 |_,.str x=>hashStr w x
 |_,.int i=>hashInt i
 |n+1,.tup ds=>n6<|Pa<|ds.map<|A5 w n
 |_,_=>0
def dX(a:d6)(xs:List (D×d6×c7)):d5->c9->d8->Prop:=λ_ w h =>
 ∃(o:d7) (es:Array n5),h.get? a=b7 o/\o.ExactDict/\o.data=.dict es xs.length/\es.toList=xs.map λx=>⟨A5 w 8 x.1,.ref x.2.1,x.2.2⟩
def dQ(a:d6)(e:Nat)(xs:List (D×d6×c7)):d5->c9->d8->Prop:=λ_ w h =>
 ∃(o:d7) (es:Array n5),h.get? a=b7 o/\o.ExactDict/\o.data=.dict es e/\es.toList=xs.map λx=>⟨A5 w 8 x.1,.ref x.2.1,x.2.2⟩
noncomputable def yZ:D->Bool
 |.non=>b9
 |.tup ks=>da 8<|.tup ks
 |_=>c5
noncomputable def Ol(w:c9):D->Int
 |.non=>n6 0xFCA86420
 |d=>A5 w 8 d
noncomputable def BZ(hs:D->Int)(x:D×c7×c7):n5:=⟨hs x.1,x.2.1,x.2.2⟩
def dM(a:d6)(xs:List (D×c7×c7)):d5->c9->d8->Prop:=λ_ w h =>
 ∃(o:d7) (es:Array n5),h.get? a=b7 o/\o.ExactDict/\o.data=.dict es xs.length/\es.toList=xs.map (BZ<|Ol w)
def Nb(K:u9)(ρ:List d6)(H:Hp)(p:D×D)(q:D×c7×c7):Prop:=p.1=q.1/\yZ p.1=b9/\(∃u,u6 K ρ H p.1 u/\aK u q.2.1)/\∃v,u6 K ρ H p.2 v/\aK v q.2.2
def rZ(K:u9)(ρ:List d6)(H:Hp)(p:D×D)(q:D×d6×c7):Prop:=p.1=q.1/\da 8 p.1=b9/\u6 K ρ H p.1 (.ref q.2.1)/\∃v,u6 K ρ H p.2 v/\aK v q.2.2
def excO(a:d6)(C:c7):d5->c9->d8->Prop:=λ_ _ h=>∃o vs,h.get? a=b7 o/\o.cls=C/\o.data=.fields vs
def zw(K:u9)(ρ:List d6)(H:Hp)(a:d6):MO->Prop
 |.lst ds=>∃vs,H a=b7 (.lst vs)/\Reps K ρ H ds vs
 |.fz ds=>∃o vs,H a=b7 (.frz o<|.lst vs)/\Reps K ρ H ds vs
 |.kl ds=>∃vs,KList K a vs/\Reps K ρ H ds vs
 |.dct kvs=>∃vs,H a=b7 (.dK (jv (kvs.map (·.1)) vs))/\Reps K ρ H (kvs.map (·.2)) vs
 |.dkt kvs=>kvs.length<=sizeLine/\(a==d9)=c5/\(kvs.map (·.1)).Nodup/\∃xs,H a=b7 (.ext<|dX a xs)/\Paired (rZ K ρ H) kvs xs
 |.dkq e kvs=>kvs.length<=sizeLine/\(a==d9)=c5/\(kvs.map (·.1)).Nodup/\∃xs,H a=b7 (.ext<|dQ a e xs)/\Paired (rZ K ρ H) kvs xs
 |.dkm kvs=>kvs.length<=sizeLine/\(a==d9)=c5/\(kvs.map (·.1)).Nodup/\∃xs,H a=b7 (.ext<|dM a xs)/\Paired (Nb K ρ H) kvs xs
 |.fdc o kvs=>∃vs,H a=b7 (.frz o (.dK (jv (kvs.map (·.1)) vs)))/\Reps K ρ H (kvs.map (·.2)) vs
 |.tb x b=>(∃c,PySem.W.tabIn K x=b7 (c,a)/\∀h:d8,K.In h->PySem.W.CodeHd h c a)/\∃ps,H a=b7 (.tbl ps)/\(b=c5->ps = #[])
 |.exc x=>∃C,PySem.W.nsIn K e8 x=b7 (b7<|.ref C)/\H a=b7 (.ext<|excO a<|.ref C)
def MH(mo:Option MO):Prop:=∃ds,mo=b7 (.kl ds)
def ak(M:u8)(n:Nat)(xs:List D):Prop:=M[n]?=b7 (.lst xs)\/M[n]?=b7 (.fz xs)\/M[n]?=b7 (.kl xs)
structure v9(K:u9)(ρ:List d6)(M:u8)(H:Hp):Prop where
 nd:∀(n m:Nat) (a:d6),n≠m->ρ[n]?=b7 a->ρ[m]?=b7 a->MH M[n]?\/MH M[m]?
 len:ρ.length=M.length
 obj:∀(n:Nat) (a:d6) (mo:MO),ρ[n]?=b7 a->M[n]?=b7 mo->zw K ρ H a mo
structure Grow(K:u9)(ρ:List d6)(H:Hp)(ρ':List d6)(H':Hp):Prop where
 pre:ρ <+: ρ'
 tup:∀a xs,B7 K H a xs->B7 K H' a xs
theorem Grow.refl{K:u9}{ρ:List d6}{H:Hp}:Grow K ρ H ρ H:=⟨Oa,λ_ _ h=>h⟩
theorem Grow.trans{K:u9}{ρ c d:List d6}{H e f:Hp}(a:Grow K ρ H c e)(b:Grow K c e d f):Grow K ρ H d f:=⟨a.pre.trans b.pre,λx xs h=>b.tup x xs<|a.tup x xs h⟩
theorem ao{α:Type}{l l':List α}(h:l <+: l'){n:Nat}{a:α}(e:l[n]?=b7 a):l'[n]?=b7 a:=by obtain⟨t,rfl⟩:=h;rw[L0 (z9.mp e).1];exact e
theorem u6.grow{K:u9}{ρ ρ':List d6}{H H':Hp}(g:Grow K ρ H ρ' H'){d:D}{v:V}(h:u6 K ρ H d v):u6 K ρ' H' d v:=u6.rec (motive_1:=λd v _=>u6 K ρ' H' d v) (motive_2:=λds vs _=>Reps K ρ' H' ds vs) .non .bl .int .str .ty (λh _ r=>.tup (g.tup _ _ h) r) (λh=>.ref<|ao g.pre h) .nil (λ_ _ h t=>.cons h t) h
theorem Reps.grow{K:u9}{ρ ρ':List d6}{H H':Hp}(g:Grow K ρ H ρ' H'){ds:List D}{vs:List V}(h:Reps K ρ H ds vs):Reps K ρ' H' ds vs:=Reps.rec (motive_1:=λd v _=>u6 K ρ' H' d v) (motive_2:=λds vs _=>Reps K ρ' H' ds vs) .non .bl .int .str .ty (λh _ r=>.tup (g.tup _ _ h) r) (λh=>.ref<|ao g.pre h) .nil (λ_ _ h t=>.cons h t) h
section
variable{K:u9}{ρ ρ':List d6}{H H':Hp}{M:u8}
theorem Reps.length(h:Reps K ρ H ds vs):ds.length=vs.length:=Reps.rec (motive_1:=λ_ _ _=>True) (motive_2:=λds vs _=>ds.length=vs.length) trivial (λ_=>trivial) (λ_=>trivial) (λ_=>trivial) (λ_=>trivial) (λ_ _ _=>trivial) (λ_=>trivial) rfl (λ_ _ _ t=>t4 Nat.succ t) h
theorem Reps.append(h:Reps K ρ H ds vs)(s:Reps K ρ H es ws):Reps K ρ H (ds++es) (vs++ws):=Reps.rec (motive_1:=λ_ _ _=>True) (motive_2:=λds vs _=>Reps K ρ H (ds++es)<|vs++ws) trivial (λ_=>trivial) (λ_=>trivial) (λ_=>trivial) (λ_=>trivial) (λ_ _ _=>trivial) (λ_=>trivial) s (λh _ _ t=>.cons h t) h
theorem Reps.get:∀{ds:List D}{vs:List V}{i:Nat}{d:D},Reps K ρ H ds vs->ds[i]?=b7 d->∃v,vs[i]?=b7 v/\u6 K ρ H d v
 |_,_,_,_,.nil,e=>by simp at e
 |_,_,0,_,.cons r _,e=>by simp at e;subst e;exact⟨_,rfl,r⟩
 |_,_,i+1,d,.cons _ t,e=>by obtain⟨v,h1,h2⟩:=Reps.get (i:=i) (d:=d) t (by simpa using e);exact⟨v,by simpa using h1,h2⟩
theorem Reps.getV:∀{ds:List D}{vs:List V}{i:Nat}{v:V},Reps K ρ H ds vs->vs[i]?=b7 v->∃d,ds[i]?=b7 d/\u6 K ρ H d v
 |_,_,_,_,.nil,e=>by simp at e
 |_,_,0,_,.cons r _,e=>by simp at e;subst e;exact⟨_,rfl,r⟩
 |_,_,i+1,d,.cons _ t,e=>by obtain⟨v,h1,h2⟩:=Reps.getV (i:=i) (v:=d) t (by simpa using e);exact⟨v,by simpa using h1,h2⟩
theorem Reps.take:∀{ds:List D}{vs:List V} (n:Nat),Reps K ρ H ds vs->Reps K ρ H (ds.take n) (vs.take n)
 |_,_,0,_=>by simpa using .nil
 |_,_,_+1,.nil=>.nil
 |_,_,n+1,.cons r t=>.cons r<|Reps.take n t
theorem Reps.drop:∀{ds:List D}{vs:List V} (n:Nat),Reps K ρ H ds vs->Reps K ρ H (ds.drop n) (vs.drop n)
 |_,_,0,r=>r
 |_,_,_+1,.nil=>.nil
 |_,_,n+1,.cons _ t=>Reps.drop n t
theorem B7.laid(hp:H p=b8)(h:B7 K H a xs):B7 K (x3 H p o) a xs:=by
 rcases h with h|h;rcases h with h|⟨b,h⟩
 exact .inl (.inl<|by rw[az<|ae h hp];exact h);exact .inl<|.inr ⟨b,by rw[az<|ae h hp];exact h⟩;exact .inr h
theorem B7.written(hp:H p=b7 (.lst vs))(h:B7 K H a xs):B7 K (x3 H p o) a xs:=by
 rcases h with h|h;rcases h with h|⟨b,h⟩
 exact .inl (.inl<|by rw[az<|yN h hp<|by intro z;cases z];exact h);exact .inl<|.inr ⟨b,by rw[az<|yN h hp<|by intro z;cases z];exact h⟩;exact .inr h
theorem Grow.laid(hp:H p=b8):Grow K ρ H ρ (x3 H p o):=⟨Oa,λ_ _ h=>B7.laid hp h⟩
theorem Grow.laidR(hp:H p=b8):Grow K ρ H (ρ++[p]) (x3 H p o):=⟨MM _ _,λ_ _ h=>B7.laid hp h⟩
theorem v9.tracked(S:v9 K ρ M H){n:Nat}{a:d6}(e:ρ[n]?=b7 a):(∃o,H a=b7 o)\/MH M[n]?:=by
 have f:n<M.length:=by rw[<-S.len];exact(z9.mp e).1
 have d:M[n]?=b7 M[n]:=w9 f;have h:=S.obj n a _ e d;rw[d];cases c:M[n] with
 |lst ds=>rw[c]at h;obtain⟨vs,h,_⟩:=h;exact .inl ⟨_,h⟩
 |fz ds=>rw[c]at h;obtain⟨o,vs,h,_⟩:=h;exact .inl ⟨_,h⟩
 |kl ds=>exact .inr ⟨ds,rfl⟩
 |dct kvs=>rw[c]at h;obtain⟨vs,h,_⟩:=h;exact .inl ⟨_,h⟩
 |dkt kvs=>rw[c]at h;obtain⟨_,_,_,xs,h,_⟩:=h;exact .inl ⟨_,h⟩
 |dkq _ kvs=>rw[c]at h;obtain⟨_,_,_,xs,h,_⟩:=h;exact .inl ⟨_,h⟩
 |fdc o kvs=>rw[c]at h;obtain⟨vs,h,_⟩:=h;exact .inl ⟨_,h⟩
 |dkm kvs=>rw[c]at h;obtain⟨_,_,_,xs,h,_⟩:=h;exact .inl ⟨_,h⟩
 |tb x b=>rw[c]at h;obtain⟨_,ps,h,_⟩:=h;exact .inl ⟨_,h⟩
 |exc x=>rw[c]at h;obtain⟨_,_,h⟩:=h;exact .inl ⟨_,h⟩
theorem zw.grow(g:Grow K ρ H ρ' H')(hs:H' a=H a\/MH (b7 mo))(h:zw K ρ H a mo):zw K ρ' H' a mo:=by
 cases mo with
 |lst ds =>
  obtain⟨vs,e,r⟩:=h;rcases hs with hs|⟨_,z⟩
  exact⟨vs,by rw[hs];exact e,r.grow g⟩;cases z
 |fz ds =>
  obtain⟨o,vs,e,r⟩:=h;rcases hs with hs|⟨_,z⟩
  exact⟨o,vs,by rw[hs];exact e,r.grow g⟩;cases z
 |fdc o kvs =>
  obtain⟨vs,e,r⟩:=h;rcases hs with hs|⟨_,z⟩
  exact⟨vs,by rw[hs];exact e,r.grow g⟩;cases z
 |tb x b =>
  obtain⟨c,ps,e,q⟩:=h;rcases hs with hs|⟨_,z⟩
  exact⟨c,ps,by rw[hs];exact e,q⟩;cases z
 |exc x =>
  obtain⟨C,e,q⟩:=h;rcases hs with hs|⟨_,z⟩
  exact⟨C,e,by rw[hs];exact q⟩;cases z
 |kl ds=>obtain⟨vs,e,r⟩:=h;exact⟨vs,e,r.grow g⟩
 |dkm kvs =>
  obtain⟨h1,h2,d,xs,e,r⟩:=h;rcases hs with hs|⟨_,z⟩
  exact⟨h1,h2,d,xs,by rw[hs];exact e,Paired.mapP r λ_ _ ⟨f,j,⟨u,k,l⟩,v,J,i⟩=>⟨f,j,⟨u,k.grow g,l⟩,v,J.grow g,i⟩⟩;cases z
 |dct kvs =>
  obtain⟨vs,e,r⟩:=h;rcases hs with hs|⟨_,z⟩
  exact⟨vs,by rw[hs];exact e,r.grow g⟩;cases z
 |dkt kvs =>
  obtain⟨h1,h2,d,xs,e,r⟩:=h;rcases hs with hs|⟨_,z⟩
  exact⟨h1,h2,d,xs,by rw[hs];exact e,Paired.mapP r λ_ _ ⟨f,j,k,v,J,i⟩=>⟨f,j,k.grow g,v,J.grow g,i⟩⟩;cases z
 |dkq _ kvs =>
  obtain⟨h1,h2,d,xs,e,r⟩:=h;rcases hs with hs|⟨_,z⟩
  exact⟨h1,h2,d,xs,by rw[hs];exact e,Paired.mapP r λ_ _ ⟨f,j,k,v,J,i⟩=>⟨f,j,k.grow g,v,J.grow g,i⟩⟩;cases z
theorem v9.keeps{p:d6}{o:HO}(S:v9 K ρ M H)(hp:H p=b8){n:Nat}{a:d6}{mo:MO}(t:ρ[n]?=b7 a)(l:M[n]?=b7 mo):x3 H p o a=H a\/MH (b7 mo):=by rcases S.tracked t with⟨c,b⟩|q;exact .inl<|az<|ae b hp;rw[l]at q;exact .inr q
theorem v9.laid{p:d6}{o:HO}(S:v9 K ρ M H)(hp:H p=b8):v9 K ρ M (x3 H p o):=⟨S.nd,S.len,λn a m t l=>(S.obj n a m t l).grow (Grow.laid hp)<|S.keeps hp t l⟩
theorem ba{α:Type}{l:List α}{x y:α}{n:Nat}(h:(l++[x])[n]?=b7 y):l[n]?=b7 y\/(n=l.length/\y=x):=by
 by_cases f:n<l.length;rw[L0 f]at h;exact .inl h;have a:n=l.length:=by have:=(z9.mp h).1;rw[B6,J2]at this;lia
 subst a;rw[MU<|v6 _,NS]at h;simp at h;exact .inr ⟨rfl,h.symm⟩
theorem MH.more{mo:MO}{n:Nat}(h:MH M[n]?):MH (M++[mo])[n]?:=by obtain⟨ds,e⟩:=h;exact⟨ds,by rw[L0 (z9.mp e).1];exact e⟩
theorem v9.laidL{p:d6}{ds:List D}{vs:List V}(S:v9 K ρ M H)(hp:H p=b8)(r:Reps K ρ H ds vs):v9 K (ρ++[p]) (M++[.lst ds]) (x3 H p<|.lst vs):=by
 have g:Grow K ρ H (ρ++[p]) (x3 H p<|.lst vs):=Grow.laidR hp;have d:∀(n:Nat),ρ[n]?=b7 p->MH M[n]?:=λn e=>by rcases S.tracked e with⟨o,q⟩|q;rw[hp]at q;cases q;exact q
 refine⟨λn m a h t l=>?_,by rw[B6,B6,S.len];rfl,λn a j t l=>?_⟩;rcases ba t with f|⟨f,g1⟩
 rcases ba l with b|⟨b,c⟩
 exact(S.nd n m a h f b).elim (λz=>.inl z.more) λz=>.inr z.more;subst c;exact .inl (d n f).more;rcases ba l with b|⟨b,c⟩
 subst g1;exact .inr (d m b).more;exact p5 (f.trans b.symm) h;rcases ba t with f|⟨f,g1⟩
 have i:n<M.length:=by rw[<-S.len];exact(z9.mp f).1
 rw[L0 i]at l;exact(S.obj n a j f l).grow g<|S.keeps hp f l;subst g1 f;rw[S.len,MU<|v6 _,NS]at l;simp at l;subst l;exact⟨vs,aR,r.grow g⟩
theorem v9.last(S:v9 K ρ M H):(ρ++[p])[M.length]?=b7 p:=by rw[<-S.len,MU<|v6 _,NS];rfl
theorem v9.write(S:v9 K ρ M H)(t:ρ[n]?=b7 a)(u:M[n]?=b7 (.lst ds))(s:H a=b7 (.lst vs))(r:Reps K ρ H ds' vs'):v9 K ρ (M.set n<|.lst ds') (x3 H a<|.lst vs')/\Grow K ρ H ρ (x3 H a<|.lst vs'):=by
 have g:Grow K ρ H ρ (x3 H a<|.lst vs'):=⟨Oa,λ_ _ h=>B7.written s h⟩
 have k:∀m,m≠n->(M.set n<|.lst ds')[m]?=M[m]?:=λm e=>Na<|A2 e;have c:¬MH M[n]?:=λ⟨_,z⟩=>by rw[u]at z;cases z
 refine⟨⟨λm l b i d f=>?_,by rw[NX];exact S.len,λm b o d f=>?_⟩,g⟩;have q:=S.nd m l b i d f;by_cases h1:m=n;subst h1;rw[k l<|A2 i];exact .inr<|q.resolve_left c;rw[k m h1];by_cases h2:l=n;subst h2;exact .inl<|q.resolve_right c;rw[k l h2];exact q;by_cases e:m=n;subst e;have j:b=a:=C0<|d.symm.trans t;subst j;rw[Nj<|by rw[<-S.len];exact(z9.mp t).1]at f;cases f;exact⟨vs',aR,r.grow g⟩;rw[k m e]at f;by_cases j:b=a;subst j;have q:=S.nd m n b e d t;have p:=q.resolve_right c;rw[f]at p;exact(S.obj m b o d f).grow g<|.inr p;exact(S.obj m b o d f).grow g<|.inl<|az j
theorem ak.seq(S:v9 K ρ M H)(h:ak M n xs)(e:ρ[n]?=b7 a):∃vs,G6 K H a vs/\Reps K ρ H xs vs:=by rcases h with h|h|h;obtain⟨vs,q,r⟩:=S.obj n a _ e h;exact⟨vs,.inl<|.inl q,r⟩;obtain⟨o,vs,q,r⟩:=S.obj n a _ e h;exact⟨vs,.inl<|.inr ⟨o,q⟩,r⟩;obtain⟨vs,q,r⟩:=S.obj n a _ e h;exact⟨vs,.inr q,r⟩
theorem v9.get(S:v9 K ρ M H){n:Nat}{mo:MO}(e:M[n]?=b7 mo):∃a,ρ[n]?=b7 a/\zw K ρ H a mo:=by
 have f:n<ρ.length:=by rw[S.len];exact(z9.mp e).1
 exact⟨ρ[n],w9 f,S.obj n _ mo (w9 f) e⟩
end
noncomputable abbrev SD:=List<|Option D
structure SRep(K:u9)(ρ:List d6)(H:Hp)(S:SD)(σ:St):Prop where
 len:S.length=σ.length
 get:∀(i:Nat) (d:D),S[i]?=b7 (b7 d)->∃v,σ[i]?=b7 (b7 v)/\u6 K ρ H d v
theorem SRep.grow{K:u9}{ρ ρ':List d6}{H H':Hp}{S:SD}{σ:St}(r:SRep K ρ H S σ)(g:Grow K ρ H ρ' H'):SRep K ρ' H' S σ:=⟨r.len,λi d e=>let ⟨v,h1,h2⟩:=r.get i d e;⟨v,h1,h2.grow g⟩⟩
theorem SRep.set{K:u9}{ρ:List d6}{H:Hp}{S:SD}{σ:St}(r:SRep K ρ H S σ)(i:Nat){d:D}{v:V}(h:u6 K ρ H d v):SRep K ρ H (S.set i<|b7 d) (σ.set i<|b7 v):=by refine⟨by rw[NX,NX];exact r.len,λj e L=>?_⟩;by_cases a:i=j;subst a;by_cases g:i<S.length;rw[Nj g]at L;cases L;exact⟨v,by rw[Nj<|by rw[<-r.len];exact g],h⟩;rw[NI<|by rw[NX];lia]at L;cases L;rw[Na a]at L;rw[Na a];exact r.get j e L
abbrev DK:=D->u8->Prop
abbrev x6:=SD->u8->DK->Prop
abbrev H9:=SD->u8->(Bool->u8->Prop)->Prop
abbrev F5:=SD->u8->(List D->u8->Prop)->Prop
structure DEnds where
 nx:SD->u8->Prop
 rt:DK
 bk:SD->u8->Prop:=λ_ _=>False
 ct:SD->u8->Prop:=λ_ _=>False
abbrev u4:=DEnds->SD->u8->Prop
abbrev MJ:=D->SD->u8->(SD->u8->Prop)->Prop
abbrev Ge:=List D->SD->u8->(SD->u8->Prop)->Prop
abbrev F7:=D->D->u8->DK->Prop
abbrev RX:=D->u8->DK->Prop
abbrev C5:=List D->u8->DK->Prop
section
variable(K:u9)
inductive VQ(ρ:List d6)(H:Hp)(Q:DK)(v:V)(H':Hp):Prop
 |mk (d:D) (M':u8) (ρ':List d6) (s:v9 K ρ' M' H') (g:Grow K ρ H ρ' H') (r:u6 K ρ' H' d v) (q:Q d M')
inductive BQ(ρ:List d6)(H:Hp)(Q:Bool->u8->Prop)(b:Bool)(H':Hp):Prop
 |mk (M':u8) (ρ':List d6) (s:v9 K ρ' M' H') (g:Grow K ρ H ρ' H') (q:Q b M')
inductive AQ(ρ:List d6)(H:Hp)(Q:List D->u8->Prop)(vs:List V)(H':Hp):Prop
 |mk (ds:List D) (M':u8) (ρ':List d6) (s:v9 K ρ' M' H') (g:Grow K ρ H ρ' H') (r:Reps K ρ' H' ds vs) (q:Q ds M')
inductive SQ(ρ:List d6)(H:Hp)(Q:SD->u8->Prop)(σ':St)(H':Hp):Prop
 |mk (S':SD) (M':u8) (ρ':List d6) (s:v9 K ρ' M' H') (g:Grow K ρ H ρ' H') (r:SRep K ρ' H' S' σ') (q:Q S' M')
structure P4(ρ:List d6)(H:Hp)(F:DEnds)(E:Ends):Prop where
 nx:∀σ' H',SQ K ρ H F.nx σ' H'->E.nx σ' H'
 rt:∀v H',VQ K ρ H F.rt v H'->E.rt v H'
 bk:∀σ' H',SQ K ρ H F.bk σ' H'->E.bk σ' H'
 ct:∀σ' H',SQ K ρ H F.ct σ' H'->E.ct σ' H'
inductive lowE(t:x6)(σ:St)(H:Hp)(R:VK):Prop
 |mk (S:SD) (M:u8) (ρ:List d6) (Q:DK) (s:v9 K ρ M H) (sr:SRep K ρ H S σ) (q:t S M Q) (k:∀v H',VQ K ρ H Q v H'->R v H')
inductive lowT(t:H9)(σ:St)(H:Hp)(R:Bool->Hp->Prop):Prop
 |mk (S:SD) (M:u8) (ρ:List d6) (Q:Bool->u8->Prop) (s:v9 K ρ M H) (sr:SRep K ρ H S σ) (q:t S M Q) (k:∀v H',BQ K ρ H Q v H'->R v H')
inductive lowA(t:F5)(σ:St)(H:Hp)(R:List V->Hp->Prop):Prop
 |mk (S:SD) (M:u8) (ρ:List d6) (Q:List D->u8->Prop) (s:v9 K ρ M H) (sr:SRep K ρ H S σ) (q:t S M Q) (k:∀v H',AQ K ρ H Q v H'->R v H')
inductive lowS(t:u4)(E:Ends)(σ:St)(H:Hp):Prop
 |mk (S:SD) (M:u8) (ρ:List d6) (F:DEnds) (s:v9 K ρ M H) (sr:SRep K ρ H S σ) (q:t F S M) (k:P4 K ρ H F E)
inductive lowG(g:MJ)(v:V)(σ:St)(H:Hp)(R:St->Hp->Prop):Prop
 |mk (d:D) (S:SD) (M:u8) (ρ:List d6) (Q:SD->u8->Prop) (s:v9 K ρ M H) (sr:SRep K ρ H S σ) (r:u6 K ρ H d v) (q:g d S M Q) (k:∀σ' H',SQ K ρ H Q σ' H'->R σ' H')
inductive lowGs(g:Ge)(vs:List V)(σ:St)(H:Hp)(R:St->Hp->Prop):Prop
 |mk (ds:List D) (S:SD) (M:u8) (ρ:List d6) (Q:SD->u8->Prop) (s:v9 K ρ M H) (sr:SRep K ρ H S σ) (r:Reps K ρ H ds vs) (q:g ds S M Q) (k:∀σ' H',SQ K ρ H Q σ' H'->R σ' H')
inductive lowR(r:F7)(vx vy:V)(H:Hp)(R:VK):Prop
 |mk (x y:D) (M:u8) (ρ:List d6) (Q:DK) (s:v9 K ρ M H) (r1:u6 K ρ H x vx) (r2:u6 K ρ H y vy) (q:r x y M Q) (k:∀v H',VQ K ρ H Q v H'->R v H')
inductive lowU(r:RX)(vx:V)(H:Hp)(R:VK):Prop
 |mk (x:D) (M:u8) (ρ:List d6) (Q:DK) (s:v9 K ρ M H) (r1:u6 K ρ H x vx) (q:r x M Q) (k:∀v H',VQ K ρ H Q v H'->R v H')
inductive lowC(r:C5)(vs:List V)(H:Hp)(R:VK):Prop
 |mk (ds:List D) (M:u8) (ρ:List d6) (Q:DK) (s:v9 K ρ M H) (r1:Reps K ρ H ds vs) (q:r ds M Q) (k:∀v H',VQ K ρ H Q v H'->R v H')
end
def DE(X:Cx)(e:g8)(t:x6):Prop:=PE X e<|lowE X.K t
def DT(X:Cx)(e:g8)(t:H9):Prop:=PT X e<|lowT X.K t
def DW(X:Cx)(e:g8)(t:H9):Prop:=PW X e<|lowT X.K t
def DA(X:Cx)(es:List g8)(t:F5):Prop:=PA X es<|lowA X.K t
def DS(X:Cx)(st:i5)(t:u4):Prop:=PS X st<|lowS X.K t
def ND(X:Cx)(st:List i5)(t:u4):Prop:=L4 X st<|lowS X.K t
def DG(X:Cx)(t:g8)(g:MJ):Prop:=PG X t<|lowG X.K g
def Qb(X:Cx)(t:List g8)(g:Ge):Prop:=P8 X t<|lowGs X.K g
def G8(X:Cx)(f:c7->c7->Sem c7)(r:F7):Prop:=D0 X f<|lowR X.K r
def UnD(X:Cx)(f:c7->Sem c7)(r:RX):Prop:=UnR X f<|lowU X.K r
def lX(X:Cx)(f:c7)(r:C5):Prop:=hX X f<|lowC X.K r
section
variable{K:u9}{ρ ρ1:List d6}{H H1:Hp}
theorem VQ.trans(g:Grow K ρ H ρ1 H1)(h:VQ K ρ1 H1 Q v H'):VQ K ρ H Q v H':=by obtain⟨d,M',ρ',s,a,r,q⟩:=h;exact⟨d,M',ρ',s,g.trans a,r,q⟩
theorem BQ.trans(g:Grow K ρ H ρ1 H1)(h:BQ K ρ1 H1 Q v H'):BQ K ρ H Q v H':=by obtain⟨M',ρ',s,a,q⟩:=h;exact⟨M',ρ',s,g.trans a,q⟩
theorem SQ.trans(g:Grow K ρ H ρ1 H1)(h:SQ K ρ1 H1 Q v H'):SQ K ρ H Q v H':=by obtain⟨d,M',ρ',s,a,r,q⟩:=h;exact⟨d,M',ρ',s,g.trans a,r,q⟩
theorem P4.trans(g:Grow K ρ H ρ1 H1)(h:P4 K ρ H F E):P4 K ρ1 H1 F E:=⟨λa H' q=>h.nx a H'<|SQ.trans g q,λv H' q=>h.rt v H'<|VQ.trans g q,λa H' q=>h.bk a H'<|SQ.trans g q,λa H' q=>h.ct a H'<|SQ.trans g q⟩
theorem VQ.now(s:v9 K ρ M H)(r:u6 K ρ H d v)(q:Q d M):VQ K ρ H Q v H:=⟨d,M,ρ,s,.refl,r,q⟩
end
section
variable{K:u9}{ρ:List d6}{H:Hp}{v:V}{vs:List V}
theorem u6.inv_non(h:u6 K ρ H .non v):v=.non:=by cases h;rfl
theorem u6.inv_bl(h:u6 K ρ H (.bl b) v):v=.bl b:=by cases h;rfl
theorem u6.inv_int(h:u6 K ρ H (.int i) v):v=.int i:=by cases h;rfl
theorem u6.inv_str(h:u6 K ρ H (.str x) v):v=.str x:=by cases h;rfl
theorem u6.inv_ty(h:u6 K ρ H (.ty n) v):v=.ty n:=by cases h;rfl
theorem u6.inv_tup(h:u6 K ρ H (.tup ds) v):∃a vs,v=.ref a/\B7 K H a vs/\Reps K ρ H ds vs:=by cases h with|tup h r=>exact⟨_,_,rfl,h,r⟩
theorem u6.inv_ref(h:u6 K ρ H (.ref n) v):∃a,v=.ref a/\ρ[n]?=b7 a:=by cases h with|ref h=>exact⟨_,rfl,h⟩
theorem ay.inv_cons(h:ay (x::vs) us):∃u ws,us=u::ws/\aK x u/\ay vs ws:=by cases h with|cons h t=>exact⟨_,_,rfl,h,t⟩
theorem ay.inv_nil(h:ay [] us):us=[]:=by cases h;rfl
theorem Reps.inv_nil(h:Reps K ρ H [] vs):vs=[]:=by cases h;rfl
theorem Reps.inv_cons(h:Reps K ρ H (d::ds) vs):∃v ws,vs=v::ws/\u6 K ρ H d v/\Reps K ρ H ds ws:=by cases h with|cons h t=>exact⟨_,_,rfl,h,t⟩
end
end
theorem PE.imp(h:PE X e t')(i:∀σ H R,t σ H R->t' σ H R):PE X e t:=λp s σ H R I q=>h p s σ H R I<|i σ H R q
theorem PT.imp(h:PT X e t')(i:∀σ H R,t σ H R->t' σ H R):PT X e t:=λp s σ H R I q=>h p s σ H R I<|i σ H R q
theorem PW.imp(h:PW X e t')(i:∀σ H R,t σ H R->t' σ H R):PW X e t:=λw p s σ H R I q=>h w p s σ H R I<|i σ H R q
theorem PA.imp(h:PA X e t')(i:∀σ H R,t σ H R->t' σ H R):PA X e t:=λa p s σ H R I q=>h a p s σ H R I<|i σ H R q
theorem PS.imp(h:PS X e t')(i:∀E σ H,t E σ H->t' E σ H):PS X e t:=λp s σ H R I q=>h p s σ H R I<|i R σ H q
theorem L4.imp(h:L4 X e t')(i:∀E σ H,t E σ H->t' E σ H):L4 X e t:=λp s σ H R I q=>h p s σ H R I<|i R σ H q
theorem D0.imp(h:D0 X f r')(i:∀x y H R,r x y H R->r' x y H R):D0 X f r:=λp s σ H x y v u R I a b q=>h p s σ H x y v u R I a b<|i x y H R q
theorem hX.imp(h:hX X f r')(i:∀xs H R,r xs H R->r' xs H R):hX X f r:=λp s σ H xs us R I a q=>h p s σ H xs us R I a<|i xs H R q
section
variable{X:Cx}{a b c:g8}{ta tb tc:x6}{pos:Pos}
def ab(i:Nat):x6:=λS M Q=>match S[i]? with
 |some (b7 d)=>Q d M
 |_=>False
def dC(d:D):x6:=λ_ M Q=>Q d M
theorem Ed{K:u9}{i:Nat}(σ:St)(H:Hp)(R:VK)(h:lowE K (ab i) σ H R):tVar i σ H R:=by
 obtain⟨S,M,ρ,Q,s,r,q,k⟩:=h;unfold ab at q;cases e:S[i]? with
 |none=>rw[e]at q;exact q.elim
 |some o =>
  cases o with
  |none=>rw[e]at q;exact q.elim
  |some d=>rw[e]at q;obtain⟨v,c,a⟩:=r.get i d e;exact⟨v,c,k v H<|VQ.now s a q⟩
theorem d_var(h:X.N[i]?=b7 x:=by rfl)(c:ON X.env.scope x:=by first|exact Or.inl rfl|exact Or.inr (Or.inl rfl)|exact Or.inr<|Or.inr rfl)(a:(x==("__debug__":c8))=c5:=by decide)(d:(x==("__classdict__":c8))=c5:=by decide):DE X (.Name x pos) (ab i):=PE.imp (FI h c a d) Ed
noncomputable def cV:D->Option V
 |.non=>b7 .non
 |.bl b=>b7<|.bl b
 |.int i=>b7<|.int i
 |.str x=>b7<|.str x
 |.ty n=>b7<|.ty n
 |_=>b8
theorem Cr{K:u9}{ρ:List d6}{H:Hp}{d:D}{v:V}(h:cV d=b7 v):u6 K ρ H d v:=by
 cases d with
 |non=>cases h;exact .non
 |bl b=>cases h;exact .bl b
 |int b=>cases h;exact .int b
 |str b=>cases h;exact .str b
 |ty b=>cases h;exact .ty b
 |tup b=>cases h
 |ref b=>cases h
theorem um{K:u9}{d:D}{v:V}(a:cV d=b7 v)(σ:St)(H:Hp)(R:VK)(h:lowE K (dC d) σ H R):tC v σ H R:=by obtain⟨S,M,ρ,Q,s,r,q,k⟩:=h;exact k v H<|VQ.now s (Cr a) q
theorem d_int{i:Int}{j:Nat}:DE X (.Constant (.int i) j pos) (dC<|.int i):=PE.imp JY<|um rfl
theorem d_bl{i:Bool}{j:Nat}:DE X (.Constant (.bool i) j pos) (dC<|.bl i):=PE.imp pe_bl<|um rfl
theorem d_non{j:Nat}:DE X (.Constant .none j pos) (dC .non):=PE.imp JW<|um rfl
theorem d_str{i:c8}{j:Nat}:DE X (.Constant (.str i) j pos) (dC<|.str i):=PE.imp JT<|um rfl
theorem Md{x:c8}{T:String}(m:X.mg x=b8)(c:f6 x=b7 (.type T))(R:Gl X x:=by rfl)(f:x≠"__name__":=by decide)(d:(x==("__debug__":c8))=c5:=by decide):DE X (.Name x pos) (dC<|.ty T):=PE.imp (GS (v:=.ty T) R m c rfl f d)<|um rfl
theorem low2{K:u9}{S:SD}{M:u8}{ρ:List d6}{σ:St}{H:Hp}{P:D->D->u8->Prop}{G:V->V->Hp->Prop}(s:v9 K ρ M H)(r:SRep K ρ H S σ)(h:ta S M λx M1=>tb S M1 λy M2=>P x y M2)(k:∀x y vx vy M2 ρ2 H2,v9 K ρ2 M2 H2->Grow K ρ H ρ2 H2->u6 K ρ2 H2 x vx->u6 K ρ2 H2 y vy->P x y M2->G vx vy H2):lowE K ta σ H λvx H1=>lowE K tb σ H1 λvy H2=>G vx vy H2:=by refine⟨S,M,ρ,_,s,r,h,?_⟩;rintro vx H1 ⟨x,M1,c,f,g1,a,q⟩;refine⟨S,M1,c,_,f,r.grow g1,q,?_⟩;rintro vy H2 ⟨y,M2,ρ2,z,g,n,j⟩;exact k x y vx vy M2 ρ2 H2 z (g1.trans g) (a.grow g) n j
def t7(r:F7)(t b:x6):x6:=λS M Q=>t S M λx M1=>b S M1 λy M2=>r x y M2 Q
theorem qX{K:u9}{r:F7}(σ:St)(H:Hp)(R:VK)(h:lowE K (t7 r ta tb) σ H R):PP (lowR K r) (lowE K ta) (lowE K tb) σ H R:=by obtain⟨S,M,ρ,Q,s,b,q,k⟩:=h;exact low2 s b q λx y f g M2 d e z c a n j=>⟨x,y,M2,d,Q,z,a,n,j,λv H' w=>k v H'<|VQ.trans c w⟩
theorem d_op(m:G8 X (j5 op) r)(f:DE X a ta)(d:DE X b tb):DE X (.BinOp a op b pos) (t7 r ta tb):=PE.imp (pe_op m f d) qX
theorem d_cmp(o:G8 X (j6 op) r)(f:DE X a ta)(d:DE X b tb)(m:j7 op b=c5:=by with_unfolding_all rfl):DE X (.Compare a [op] [b] pos) (t7 r ta tb):=PE.imp (GQ o f d m) qX
def au(t:x6):H9:=λS M Q=>t S M λx M'=>match x with
 |.bl b=>Q b M'
 |_=>False
theorem uk{K:u9}{t:x6}(σ:St)(H:Hp)(R:Bool->Hp->Prop)(h:lowT K (au t) σ H R):Jr (lowE K t) σ H R:=by
 obtain⟨S,M,ρ,Q,s,r,q,k⟩:=h;refine⟨S,M,ρ,_,s,r,q,?_⟩;rintro v H' ⟨d,M',ρ',s',a,r',j⟩;cases r' with
 |bl b=>exact⟨b,rfl,k b H' ⟨M',ρ',s',a,j⟩⟩
 |_=>exact j.elim
theorem LL(o:G8 X (j6 op) r)(f:DE X a ta)(d:DE X b tb)(m:j7 op b=c5:=by with_unfolding_all rfl):DT X (.Compare a [op] [b] pos) (au<|t7 r ta tb):=by refine PT.imp (GG o f d m) λσ H R h=>?_;obtain⟨S,M,ρ,Q,s,c,q,k⟩:=uk σ H R h;exact qX σ H _ ⟨S,M,ρ,Q,s,c,q,k⟩
theorem LI(h:DE X e t)(i:∀whole,isTrue e X.env whole=(do let v <-whole;standAt e.pos;i6 [v] (truthy v)):=by intro _;rfl):DT X e (au t):=PT.imp (JK h i) uk
def QO(z:D)(k:Bool->Prop):Prop:=match z with
 |.bl b=>k b
 |_=>False
theorem FJ{b:Bool}{k:Bool->Prop}:QO (.bl b) k=k b:=rfl
def uQ(r r':F7)(t d f:x6):x6:=λS M Q=>t S M λx M1=>d S M1 λy M2=>r x y M2 λz a=>QO z λb=>if b=b9 then f S a λw c=>r' y w c Q else Q (.bl c5) a
theorem yU{K:u9}{r r':F7}(σ:St)(H:Hp)(R:VK)(h:lowE K (uQ r r' ta tb tc) σ H R):FG (lowR K r) (lowR K r') (lowE K ta) (lowE K tb) (lowE K tc) σ H R:=by
 obtain⟨S,M,ρ,Q,s,j,q,k⟩:=h;refine low2 s j q λx y G I M2 e C u g p n o=>⟨x,y,M2,e,_,u,p,n,o,?_⟩
 rintro L l ⟨z,c,a,A,g3,D,d⟩;cases D with
 |bl b =>
  cases b with
  |false=>exact⟨c5,rfl,cD<|k _ l ⟨_,c,a,A,g.trans g3,.bl c5,(show Q (.bl c5) c from d)⟩⟩
  |true=>refine⟨b9,rfl,cQ ⟨S,c,a,_,A,j.grow<|g.trans g3,(show tc S c _ from d),?_⟩⟩;rintro F E ⟨w,m,f,B,i,t,J⟩;exact⟨y,w,m,f,Q,B,n.grow<|g3.trans i,t,J,λv H' Y=>k v H'<|VQ.trans ((g.trans g3).trans i) Y⟩
 |_=>exact d.elim
theorem IJ(o:G8 X (j6 op) r)(h:G8 X (j6 op') r')(f:DE X a ta)(d:DE X b tb)(e:DE X c tc)(m:lastMarks [op,op'] [b,c]=c5:=by with_unfolding_all rfl):DE X (.Compare a [op,op'] [b,c] pos) (uQ r r' ta tb tc):=PE.imp (Dx o h f d e m) yU
variable{tA tB:H9}{aL:List g8}
def wE(t u:H9):H9:=λS M Q=>t S M λb M1=>if b=b9 then u S M1 Q else Q c5 M1
def N4(t u:H9):H9:=λS M Q=>t S M λb M1=>if b=b9 then Q b9 M1 else u S M1 Q
def Fj(t:H9):H9:=λS M Q=>t S M λb M1=>Q (!b) M1
theorem Ip(f:DT X a tA):DW X (.BoolOp .And [a] pos) tA:=GC f
theorem LG(f:DT X a tA):DW X (.BoolOp .Or [a] pos) tA:=JH f
theorem LH(h:DT X a tA)(i:DW X (.BoolOp .And (b::aL) pos) tB):DW X (.BoolOp .And (a::b::aL) pos) (wE tA tB):=by
 refine PW.imp (JJ h i) ?_;rintro σ H R ⟨S,M,ρ,Q,s,r,q,k⟩;refine⟨S,M,ρ,_,s,r,q,?_⟩;rintro c g ⟨M1,d,f,g1,e⟩;cases c with
 |true=>exact cQ ⟨S,M1,d,Q,f,r.grow g1,(show tB S M1 Q from e),λv H' w=>k v H'<|BQ.trans g1 w⟩
 |false=>exact cD<|k c5 g ⟨M1,d,f,g1,e⟩
theorem dw_or(h:DT X a tA)(i:DW X (.BoolOp .Or (b::aL) pos) tB):DW X (.BoolOp .Or (a::b::aL) pos) (N4 tA tB):=by
 refine PW.imp (pw_or h i) ?_;rintro σ H R ⟨S,M,ρ,Q,s,r,q,k⟩;refine⟨S,M,ρ,_,s,r,q,?_⟩;rintro c g ⟨M1,d,f,g1,e⟩;cases c with
 |false=>exact cD ⟨S,M1,d,Q,f,r.grow g1,(show tB S M1 Q from e),λv H' w=>k v H'<|BQ.trans g1 w⟩
 |true=>exact cQ<|k b9 g ⟨M1,d,f,g1,e⟩
theorem dw_t(h:DW X e t):DT X e t:=PW.pt h
theorem LK(f:DT X a tA):DT X (.UnaryOp .Not a pos) (Fj tA):=by refine PT.imp (JL f) ?_;rintro σ H R ⟨S,M,ρ,Q,s,r,q,k⟩;refine⟨S,M,ρ,_,s,r,q,?_⟩;rintro c d ⟨M1,b,g,g1,e⟩;exact k (!c) d ⟨M1,b,g,g1,e⟩
def oU(t a:x6):x6:=λS M Q=>t S M λx M1=>QO x λb=>if b=b9 then a S M1 Q else Q (.bl c5) M1
def dOrV(t a:x6):x6:=λS M Q=>t S M λx M1=>QO x λb=>if b=b9 then Q (.bl b9) M1 else a S M1 Q
def Ch(t:x6):x6:=λS M Q=>t S M λx M1=>match x with
 |.bl b=>Q (.bl<|!b) M1
 |_=>False
theorem d_one{op}(h:DE X a ta):DE X (.BoolOp op [a] pos) ta:=JU h
theorem d_and(i:DE X a ta)(j:DE X (.BoolOp .And (b::aL) pos) tb):DE X (.BoolOp .And (a::b::aL) pos) (oU ta tb):=by
 refine PE.imp (Kb i j) ?_;rintro σ H R ⟨S,M,ρ,Q,s,r,q,k⟩;refine⟨S,M,ρ,_,s,r,q,?_⟩;rintro v h ⟨d,M1,e,g,g1,l,f⟩;cases l with
 |bl c =>
  cases c with
  |true=>exact⟨b9,rfl,cQ ⟨S,M1,e,Q,g,r.grow g1,(show tb S M1 Q from f),λv H' w=>k v H'<|VQ.trans g1 w⟩⟩
  |false=>exact⟨c5,rfl,cD<|k _ h ⟨_,M1,e,g,g1,.bl c5,(show Q (.bl c5) M1 from f)⟩⟩
 |_=>exact f.elim
theorem d_or(i:DE X a ta)(j:DE X (.BoolOp .Or (b::aL) pos) tb):DE X (.BoolOp .Or (a::b::aL) pos) (dOrV ta tb):=by
 refine PE.imp (pe_or i j) ?_;rintro σ H R ⟨S,M,ρ,Q,s,r,q,k⟩;refine⟨S,M,ρ,_,s,r,q,?_⟩;rintro v h ⟨d,M1,e,g,g1,l,f⟩;cases l with
 |bl c =>
  cases c with
  |false=>exact⟨c5,rfl,cD ⟨S,M1,e,Q,g,r.grow g1,(show tb S M1 Q from f),λv H' w=>k v H'<|VQ.trans g1 w⟩⟩
  |true=>exact⟨b9,rfl,cQ<|k _ h ⟨_,M1,e,g,g1,.bl b9,(show Q (.bl b9) M1 from f)⟩⟩
 |_=>exact f.elim
theorem d_not(h:DE X a ta):DE X (.UnaryOp .Not a pos) (Ch ta):=by
 refine PE.imp (JV h) ?_;rintro σ H R ⟨S,M,ρ,Q,s,i,q,k⟩;refine⟨S,M,ρ,_,s,i,q,?_⟩;rintro v f ⟨d,M1,b,g,g1,r,e⟩;cases r with
 |bl c=>exact⟨c,rfl,k _ f ⟨_,M1,b,g,g1,.bl<|!c,e⟩⟩
 |_=>exact e.elim
variable{e:g8}{es:List g8}{te:x6}{t:F5}
def af:F5:=λ_ M Q=>Q [] M
def aa(te:x6)(t:F5):F5:=λS M Q=>te S M λd M1=>t S M1 λds M2=>Q (d::ds) M2
theorem Mc:DA X [] af:=by refine PA.imp Kc ?_;rintro σ H R ⟨S,M,ρ,Q,s,b,q,k⟩;exact k [] H ⟨[],M,ρ,s,.refl,.nil,q⟩
theorem IH(h:DE X e te)(i:DA X es t)(hs:i4 (e::es) X.env=(c5,eval e X.env)::i4 es X.env:=by rfl):DA X (e::es) (aa te t):=by refine PA.imp (GT h i hs) ?_;rintro σ H R ⟨S,M,ρ,Q,s,b,q,k⟩;refine⟨S,M,ρ,_,s,b,q,?_⟩;rintro v o ⟨d,M1,c,m,g1,r,j⟩;refine⟨S,M1,c,_,m,b.grow g1,j,?_⟩;rintro vs f ⟨ds,M2,a,z,g,n,l⟩;exact k _ f ⟨d::ds,M2,a,z,g1.trans g,.cons (r.grow g) n,l⟩
def eZ(t:F5):x6:=λS M Q=>t S M λds M1=>ds.length<=sizeLine/\Q (.tup ds) M1
def jV(t:F5):x6:=λS M Q=>t S M λds M1=>ds.length<=sizeLine/\Q (.ref M1.length) (M1++[.lst ds])
theorem VQ.laidT{K:u9}{ρ c:List d6}{H a:Hp}{M1:u8}{ds:List D}{vs:List V}{Q:DK}{p:d6}(f:v9 K c M1 a)(g1:Grow K ρ H c a)(r:Reps K c a ds vs)(hp:a p=b8)(q:Q (.tup ds) M1):VQ K ρ H Q (.ref p) (x3 a p<|.tup vs):=⟨.tup ds,M1,c,f.laid hp,g1.trans<|Grow.laid hp,.tup (B7.of aR)<|r.grow<|Grow.laid hp,q⟩
theorem VQ.laidL{K:u9}{ρ c:List d6}{H a:Hp}{M1:u8}{ds:List D}{vs:List V}{Q:DK}{p:d6}(f:v9 K c M1 a)(g1:Grow K ρ H c a)(r:Reps K c a ds vs)(hp:a p=b8)(q:Q (.ref M1.length) (M1++[.lst ds])):VQ K ρ H Q (.ref p) (x3 a p<|.lst vs):=⟨.ref M1.length,M1++[.lst ds],c++[p],f.laidL hp r,g1.trans<|Grow.laidR hp,.ref f.last,q⟩
theorem d_tup{x1}(h:DA X es t):DE X (.Tuple es x1 pos) (eZ t):=by refine PE.imp (JS h) ?_;rintro σ H R ⟨S,M,ρ,Q,s,b,q,k⟩;refine⟨S,M,ρ,_,s,b,q,?_⟩;rintro vs d ⟨ds,M1,a,f,g1,r,z,c⟩;exact⟨by rw[<-r.length];exact z,λp hp=>k _ _<|VQ.laidT f g1 r hp c⟩
theorem d_lst(h:DA X es t):DE X (.List es pos) (jV t):=by refine PE.imp (JX h) ?_;rintro σ H R ⟨S,M,ρ,Q,s,b,q,k⟩;refine⟨S,M,ρ,_,s,b,q,?_⟩;rintro vs d ⟨ds,M1,a,f,g1,r,z,c⟩;exact⟨by rw[<-r.length];exact z,λp hp=>k _ _<|VQ.laidL f g1 r hp c⟩
def u5(r:C5)(t:F5):x6:=λS M Q=>t S M λds M1=>r ds M1 Q
theorem AZ{K:u9}{r:C5}(σ:St)(H:Hp)(R:VK)(h:lowE K (u5 r t) σ H R):RP (lowC K r) (lowA K t) σ H R:=by obtain⟨S,M,ρ,Q,s,d,q,k⟩:=h;refine⟨S,M,ρ,_,s,d,q,?_⟩;rintro vs e ⟨ds,M1,c,f,g1,b,a⟩;exact⟨ds,M1,c,Q,f,b,a,λv H' w=>k v H'<|VQ.trans g1 w⟩
theorem IK{x:c8}{p:Pos}{id:String}{r:C5}(c:lX X (.builtin id) r)(d:X.mg x=b8)(v:f6 x=b7 (.builtin id))(f:DA X (e::es) t)(R:Gl X x:=by rfl)(n:x≠"__name__":=by decide)(b:(x==("__debug__":c8))=c5:=by decide)(i:i4 (e::es) X.env=(c5,eval e X.env)::i4 es X.env:=by rfl) (l:(i3 pos<|i4 es X.env).any (·.1)=c5:=by rfl):DE X (.Call (.Name x p) (e::es) [] pos) (u5 r t):=PE.imp (Dy c R d v f n b i l) AZ
theorem Fh(c:lX X (.type T) r)(d:X.mg x=b8)(v:f6 x=b7 (.type T))(f:DA X (e::es) t)(R:Gl X x:=by rfl)(n:x≠"__name__":=by decide)(b:(x==("__debug__":c8))=c5:=by decide)(i:i4 (e::es) X.env=(c5,eval e X.env)::i4 es X.env:=by rfl) (l:(i3 pos<|i4 es X.env).any (·.1)=c5:=by rfl):DE X (.Call (.Name x p) (e::es) [] pos) (u5 r t):=PE.imp (AB c R d v f n b i l) AZ
abbrev A0:=List D->u8->DK->Prop
def Nq(K:u9)(P:A0):Sp:=λvs H Q _=>∃ds M ρ R,v9 K ρ M H/\Reps K ρ H ds vs/\P ds M R/\∀v H',VQ K ρ H R v H'->Q v H'
theorem AX{K:u9}{P:A0}(σ:St)(H:Hp)(R:VK)(h:lowE K (u5 P t) σ H R):Ju (Nq K P) [] E0 (lowA K t) σ H R:=by obtain⟨S,M,ρ,Q,s,b,q,k⟩:=h;exact⟨S,M,ρ,_,s,b,q,λvs d ⟨ds,M1,c,f,g1,r,a⟩=>⟨ds,M1,c,Q,f,by rw[Nh];exact r,a,λv H' w=>k v H'<|VQ.trans g1 w⟩⟩
theorem Ml(F:FnOk X.prog X.w X.K X.mg X.base L5 k f fd ps (Nq X.K P))(r:Room k X.A)(m:X.mg x=b7 (.ref f))(h:Ox X.K (.ref f)=b9)(d:ve X.K fd ps [])(a:DA X (e::es) t) (R:Gl X x:=by rfl) (b:(x==("__debug__":c8))=c5:=by decide) (i:i4 (e::es) X.env=(c5,eval e X.env)::i4 es X.env:=by rfl) (l:(i3 pos<|i4 es X.env).any (·.1)=c5:=by rfl):DE X (.Call (.Name x p) (e::es) [] pos) (u5 P t):=PE.imp (GR F r R m h d .nil pass0 a b i l) AX
end
def aT:u4:=λE S M=>E.nx S M
def aB(t u:u4):u4:=λE S M=>t { E with nx:=λa M'=>u E a M' } S M
theorem LP:ND X [] aT:=by refine L4.imp GI ?_;rintro E σ H ⟨S,M,ρ,F,s,b,q,k⟩;exact k.nx σ H ⟨S,M,ρ,s,.refl,b,q⟩
theorem LO{X:Cx}{st:i5}{t:u4}(h:DS X st t):ND X [st] t:=GH h
theorem Iy{X:Cx}{st:i5}{aL:List i5}{t u:u4}(h1:DS X st t)(h2:ND X aL u):ND X (st::aL) (aB t u):=by refine L4.imp (Dq h1 h2) ?_;rintro E σ H ⟨S,M,ρ,F,s,r,q,k⟩;exact⟨S,M,ρ,_,s,r,q,⟨λc H' ⟨b,M',ρ',s',g,a,j⟩=>⟨b,M',ρ',F,s',a,j,k.trans g⟩,k.rt,k.bk,k.ct⟩⟩
def gX(te:x6):u4:=λE S M=>te S M λ_ M1=>E.nx S M1
theorem Iw(i:DE X e te)(hs:i7 e b8 pos.line X.env=pure c5:=by rfl):DS X (.Expr e pos) (gX te):=by refine PS.imp (GJ i hs) ?_;rintro E σ H ⟨S,M,ρ,F,s,b,q,k⟩;refine⟨S,M,ρ,_,s,b,q,?_⟩;rintro v a ⟨d,M1,c,g,g1,r,f⟩;exact k.nx σ a ⟨S,M1,c,g,g1,b.grow g1,f⟩
def bi(te:x6):u4:=λE S M=>te S M E.rt
theorem LN(i:DE X e te):DS X (.Return (b7 e) pos) (bi te):=by refine PS.imp (JN i) ?_;rintro E σ H ⟨S,M,ρ,F,s,b,q,k⟩;exact⟨S,M,ρ,_,s,b,q,λv a w=>k.rt v a w⟩
def B8(c:H9)(t u:u4):u4:=λE S M=>c S M λb M1=>if b=b9 then t E S M1 else u E S M1
theorem ds_if(i:DT X c tc)(h:ND X a t)(g:ND X b u):DS X (.If c a b pos) (B8 tc t u):=by
 refine PS.imp (ps_if i h g) ?_;rintro E σ H ⟨S,M,ρ,F,s,r,q,k⟩;refine⟨S,M,ρ,_,s,r,q,?_⟩;rintro c j ⟨M1,d,f,g1,e⟩;cases c with
 |true=>exact cQ ⟨S,M1,d,F,f,r.grow g1,(show t F S M1 from e),k.trans g1⟩
 |false=>exact cD ⟨S,M1,d,F,f,r.grow g1,(show u F S M1 from e),k.trans g1⟩
def bb(te:x6)(i:Nat):u4:=λE S M=>te S M λd M1=>E.nx (S.set i<|b7 d) M1
theorem LM(h:X.N.Nodup)(f:DE X e te)(hi:X.N[i]?=b7 x:=by rfl)(j:Oo X.env.scope x:=by first|exact Or.inl rfl|exact Or.inr rfl)(hs:i7 e (b7<|.Name x pos') pos.line X.env=pure c5:=by rfl)(g:X.fn x=b9\/X.env.scope.names.lookup x=b7 .local:=by first|exact .inl rfl|exact .inr rfl|assumption):DS X (.Assign [.Name x pos'] e pos) (bb te i):=by refine PS.imp (JM h hi j f hs g) ?_;rintro E σ H ⟨S,M,ρ,F,s,b,q,k⟩;refine⟨S,M,ρ,_,s,b,q,?_⟩;rintro v a ⟨d,M1,c,m,g1,r,l⟩;exact k.nx _ a ⟨_,M1,c,m,g1,(b.grow g1).set i r,l⟩
def ag(i:Nat):MJ:=λd S M Q=>Q (S.set i<|b7 d) M
theorem wD(h:X.N.Nodup)(hi:X.N[i]?=b7 x:=by rfl)(a:Oo X.env.scope x:=by first|exact Or.inl rfl|exact Or.inr rfl)(f:X.fn x=b9\/X.env.scope.names.lookup x=b7 .local:=by first|exact .inl rfl|exact .inr rfl|assumption):DG X (.Name x pos) (ag i):=λp s σ H v u R I r ⟨d,S,M,ρ,Q,m,c,b,q,k⟩=>GO h hi a f p s σ H v u R I r<|k _ H ⟨_,M,ρ,m,.refl,c.set i b,q⟩
theorem yt{P:d5}{w:c9}{K:u9}{Z:g8}(it:d6)(n:Nat)(M:Nat->c7->Prop)(PX:Nat->V->Prop)(Sx:Nat->d8->Prop)(W:∀A':f7,A'.handled=b8->Walks P w A' it [it] [it] n M Sx) (l:∀i v,M i v->∃x,aK x v/\PX i x)(j:∀i h,Sx i h->∃(o:d7) (nm:String) (vs:Array c7),h.get? it=b7 o/\o.cls=.type nm/\o.data=.fields vs/\["enumerate","zip","dict_itemiterator","dict_reverseitemiterator","odict_iterator","itertools.zip_longest","itertools.pairwise"].contains nm=c5)(a:∀(i:Nat) (h h':d8),Sx i h->(∀o,h.get? it=b7 o->h'.get? it=b7 o)->Sx i h')(g:∀(A:f7) (i:Nat) (s:f8) (Q:c7->f8->Prop) (E:c7->f8->Prop),Sx i s.heap->Q (.ref it) s->g7 (h7 P w) A (j2<|.ref it) Q E s):Turn P w K Z ⟨λi _=>i<n,λi H x H'=>H'=H/\PX i x,λi _=>i=n⟩ [it] it Sx where
 mem:=by simp
 obj:=λi h st b f=>by
  have e:b=it:=by simpa using f
  subst e;obtain⟨o,nm,vs,e,_,d,_⟩:=j i h st;exact⟨o,e,λv z=>by rw[d]at z;cases z⟩
 keep:=λi h h' st k=>a i h h' st λo e=>k it (by simp) o e
 item:=by intro X D G C F i p s σ H E I q st R;subst D G C;obtain⟨r,t,O,u,y,B⟩:=q it (by simp);refine(W X.A<|I.ok.hd F).item i s _ _ R st λv h' L T m J=>?_;obtain⟨x,Y,U⟩:=l i v T;have N:t9 X p σ H { s with heap:=h',toks:=L }:=I.turned (λb o f e=>J b o (by simpa using f) e) r t u y B;obtain⟨o,nm,vs,e,c,d,S⟩:=j _ _ m;exact⟨v,rfl,ww (s:={ s with heap:=h',toks:=L }) e c d S ⟨x,H,N,Y,⟨rfl,U⟩,m,λb f=>(q b f).1⟩⟩
 done:=by intro X D G C F i p s σ H E I q st R;subst D G C;obtain⟨r,t,O,u,y,B⟩:=q it (by simp);have hi:i=n:=R;subst hi;exact(W X.A<|I.ok.hd F).done s _ _ st λh' L J=>⟨rfl,I.turned (λb o f e=>J b o (by simpa using f) e) r t u y B⟩
 self:=g
noncomputable def Ao(x:c8):List D:=x.cps.toList.map λc=>.str ⟨#[c]⟩
structure RU where
 items:List D
 ok:u8->Prop
abbrev MW:=SD->u8->(RU->u8->Prop)->Prop
structure MI(K:u9)(src:RU)(ρ0:List d6)(H0:Hp)(J:It):Prop where
 go:∀(i:Nat) ρ M H,v9 K ρ M H->Grow K ρ0 H0 ρ H->src.ok M->i<src.items.length->J.go i H
 yld:∀(i:Nat) ρ M H x H',v9 K ρ M H->Grow K ρ0 H0 ρ H->src.ok M->i<src.items.length->J.yld i H x H'->∃d ρ',src.items[i]?=b7 d/\v9 K ρ' M H'/\Grow K ρ H ρ' H'/\u6 K ρ' H' d x
 stop:∀(ρ:List d6) M H,v9 K ρ M H->Grow K ρ0 H0 ρ H->src.ok M->J.stop src.items.length H
def IQ(K:u9)(ρ:List d6)(H:Hp)(Q:RU->u8->Prop):It->Hp->Prop:=λJ H'=>∃src M' ρ',v9 K ρ' M' H'/\Grow K ρ H ρ' H'/\MI K src ρ' H' J/\Q src M'
def lowI(K:u9)(i:MW):TI:=λσ H R=>∃S M ρ Q,v9 K ρ M H/\SRep K ρ H S σ/\i S M Q/\∀J H',IQ K ρ H Q J H'->R J H'
def DI(X:Cx)(g r:g8)(i:MW):Prop:=PI X g r<|lowI X.K i
theorem MI.tup{K:u9}{ρ:List d6}{H:Hp}{a:d6}{vs:List V}{ds:List D}(h:B7 K H a vs)(r:Reps K ρ H ds vs)(q:∀ys,B7 K H a ys->ys=vs):MI K ⟨ds,λ_=>True⟩ ρ H (SA K a) where
 go:=λi ρ' M H' s g _ hi=>by
  have l:i<vs.length:=by rw[<-r.length];exact hi
  exact⟨vs,vs[i],g.tup a vs h,w9 l⟩
 yld:=λi ρ' M H' x e s g _ hi y=>by obtain⟨rfl,y⟩:=y;obtain⟨d,b,c⟩:=(r.grow g).getV<|y vs<|g.tup a vs h;exact⟨d,ρ',b,s,.refl,c⟩
 stop:=λρ' M H' s g _=>⟨vs,g.tup a vs h,by rw[<-r.length];exact v6 _⟩
theorem MI.lst{K:u9}{ρ:List d6}{H:Hp}{n:Nat}{a:d6}{ds:List D}(e:ρ[n]?=b7 a):MI K ⟨ds,λM=>ak M n ds⟩ ρ H (SE K a) where
 go:=λi ρ' M H' s g ok hi=>by
  obtain⟨vs,h,r⟩:=ak.seq s ok<|ao g.pre e;have l:i<vs.length:=by rw[<-r.length];exact hi
  exact⟨vs,vs[i],h,w9 l⟩
 yld:=λi ρ' M H' x f s g ok hi y=>by obtain⟨rfl,y⟩:=y;obtain⟨vs,h,r⟩:=ak.seq s ok<|ao g.pre e;obtain⟨d,b,c⟩:=r.getV<|y vs h;exact⟨d,ρ',b,s,.refl,c⟩
 stop:=λρ' M H' s g ok=>by obtain⟨vs,h,r⟩:=ak.seq s ok<|ao g.pre e;exact⟨vs,h,by rw[<-r.length];exact v6 _⟩
theorem MI.plain{K:u9}{ρ:List d6}{H:Hp}{ds:List D}{J:It}(R:∀i H,i<ds.length->J.go i H)(O:∀i H x H',i<ds.length->J.yld i H x H'->H'=H/\∃d,ds[i]?=b7 d/\cV d=b7 x)(hs:∀H,J.stop ds.length H):MI K ⟨ds,λ_=>True⟩ ρ H J where
 go:=λi ρ' M H' s g _ hi=>R i H' hi
 yld:=λi ρ' M H' x b s g _ hi y=>by obtain⟨rfl,d,h,c⟩:=O i _ x b hi y;exact⟨d,ρ',h,s,.refl,Cr c⟩
 stop:=λρ' M H' s g _=>hs H'
def bE(te:x6):MW:=λS M R=>te S M λd M1=>match d with
 |.tup ds=>ds.length<=sizeLine->R ⟨ds,λ_=>True⟩ M1
 |.str x=>R ⟨Ao x,λ_=>True⟩ M1
 |.ref n=>∃xs,ak M1 n xs/\(xs.length<=sizeLine->R ⟨xs,λM=>ak M n xs⟩ M1)
 |_=>False
theorem LX(hl:DE X l tl):DI X tg l (bE tl):=by
 intro m s σ H R I h;obtain⟨S,M,ρ,Q,sm,sr,q,k⟩:=h;refine w6 (hl m s σ H _ I ⟨S,M,ρ,_,sm,sr,q,λv H' w=>w⟩) ?_;rintro u f ⟨v,D,g,T,d,M1,C,j,g1,r1,B⟩;cases r1 with
 |non=>exact B.elim
 |bl b=>exact B.elim
 |int i=>exact B.elim
 |ty n=>exact B.elim
 |@tup a vs ds J r =>
  cases T;obtain⟨its,rr,p,P⟩:=g.tuple J;refine wpAny_pyIter_tuple (show f.heap.IsTuple a its.toArray from p) ?_;refine⟨f.heap.objs.size,[f.heap.objs.size],_,_,D,rfl,g.kept (t':=f.toks) λb o e=>z5 _ e,yu a _,⟨_,A7 _ rfl,rfl,rfl⟩,λb G=>?_,k _ D ⟨⟨ds,λ_=>True⟩,M1,C,j,g1,MI.tup J r λys hy=>g.tuple_inj hy J,?_⟩⟩;have e:b=f.heap.objs.size:=by simpa using G
  subst e;exact g.fpOk (v6 _)<|g.hok.fresh<|v6 _;exact(show ds.length<=sizeLine->Q ⟨ds,λ_=>True⟩ M1 from B)<|by rw[r.length];exact P
 |@ref n a V =>
  cases T;obtain⟨xs,hL,q2⟩:=(show ∃xs,ak M1 n xs/\(xs.length<=sizeLine->Q ⟨xs,λM=>ak M n xs⟩ M1)from B)
  obtain⟨vs,J,r⟩:=ak.seq j hL V;obtain⟨its,rr,p,P⟩:=g.list J;refine Ri p.isList ?_;refine⟨f.heap.objs.size,[f.heap.objs.size],_,_,D,rfl,g.kept (t':=f.toks) λb o e=>z5 _ e,zF a _,⟨_,A7 _ rfl,rfl,rfl⟩,λb G=>?_,k _ D ⟨⟨xs,λM=>ak M n xs⟩,M1,C,j,g1,MI.lst V,q2<|by rw[r.length];exact P⟩⟩;have e:b=f.heap.objs.size:=by simpa using G
  subst e;exact g.fpOk (v6 _)<|g.hok.fresh<|v6 _
 |str x =>
  obtain⟨t,rfl⟩:=T;have F:∀(z:String) (K:d7),(K.cls=.type z/\K.data=.fields #[.str x t,.int 0 0]) -> (∀L:f7,L.handled=b8->Walks X.prog X.w L f.heap.objs.size [f.heap.objs.size] [f.heap.objs.size] x.cps.size (SignAt x) (λi h=>h.IsStrIter f.heap.objs.size z x t i)) -> (∀(A:f7) (i:Nat) (s:f8) (Q:c7->f8->Prop) (E:c7->f8->Prop),s.heap.IsStrIter f.heap.objs.size z x t i->Q (.ref f.heap.objs.size) s->g7 (h7 X.prog X.w) A (j2<|.ref f.heap.objs.size) Q E s) -> ["enumerate","zip","dict_itemiterator","dict_reverseitemiterator","odict_iterator","itertools.zip_longest","itertools.pairwise"].contains z=c5->(f.heap.push K).IsStrIter f.heap.objs.size z x t 0 -> P7 X m σ tg R (.ref f.heap.objs.size) { f with heap:=f.heap.push K }:=λz K ai W y O st=>by
   refine⟨f.heap.objs.size,[f.heap.objs.size],_,_,D,rfl,g.kept (t':=f.toks) λb o e=>z5 _ e,yt (PX:=λi v=>∃c,x.cps[i]?=b7 c/\v=.str ⟨#[c]⟩) _ _ _ _ W (λi v ⟨c,u,Y,Z⟩=>⟨.str ⟨#[c]⟩,⟨u,Z⟩,c,Y,rfl⟩) (λi h st=>?_) (λi h h' st k=>?_) y,st,λb G=>?_,k _ D ⟨⟨Ao x,λ_=>True⟩,M1,C,j,g1,MI.plain ?_ ?_ ?_,B⟩⟩;obtain⟨o,e,c,d⟩:=st;exact⟨o,z,_,e,c,d,O⟩;obtain⟨o,e,r⟩:=st;exact⟨o,k o e,r⟩;have e:b=f.heap.objs.size:=by simpa using G
   subst e;exact g.fpOk (v6 _)<|g.hok.fresh<|v6 _;intro i _ hi;simpa [Ao]using hi;rintro i H x' H' _ ⟨rfl,c,e,rfl⟩;exact⟨rfl,.str ⟨#[c]⟩,by simp[Ao,e],rfl⟩;intro H;simp[Ao]
  cases U:x.cps.all (· < 128);exact wpAny_pyIter_wide U<|F _ _ ⟨rfl,rfl⟩ (λL N=>Walks.strWide N _ x t) (λ_ _ _ _ _ st h=>wpAny_pyIter_striter_wide st h) (by decide) ⟨_,A7 _ rfl,rfl,rfl⟩;exact wpAny_pyIter_ascii U<|F _ _ ⟨rfl,rfl⟩ (λL N=>Walks.strAscii N _ x t) (λ_ _ _ _ _ st h=>wpAny_pyIter_striter_ascii st h) (by decide) ⟨_,A7 _ rfl,rfl,rfl⟩
noncomputable def iG(lo:Int)(n:Nat):List D:=(C2 n).map λi=>.int<|lo+((i:Nat):Int)
theorem MI.rng{K:u9}{ρ:List d6}{H:Hp}(lo:Int)(n:Nat):MI K ⟨iG lo n,λ_=>True⟩ ρ H (QT lo n):=by
 refine MI.plain (λi _ hi=>?_) (λi H x H' hi y=>?_) λH=>?_;show i<n;simpa [iG]using hi;obtain⟨e,rfl⟩:=y;have h:i<n:=by simpa [iG]using hi
 exact⟨e,.int<|lo+i,by simp[iG,h],rfl⟩;show n<=(iG lo n).length;simp[iG]
def bW(t:F5):MW:=λS M R=>t S M λds M1=>match ds with
 | [.int j]=>(-(2 ^ 62)<=j/\j<2 ^ 62)/\R ⟨iG 0 j.toNat,λ_=>True⟩ M1
 |_=>False
theorem PI.imp(h:PI X tg iter t')(i:∀σ H R,t σ H R->t' σ H R):PI X tg iter t:=λp s σ H R I q=>h p s σ H R I<|i σ H R q
theorem Cb(m:X.mg "range" = b8)(f:DA X [a] ta)(g:Gl X "range":=by rfl)(hs:i4 [a] X.env=[(c5,eval a X.env)]:=by rfl):DI X tg (.Call (.Name "range" p) [a] [] pos) (bW ta):=by
 refine PI.imp (Ay g m f hs) ?_;rintro σ H R ⟨S,M,ρ,Q,s,l,q,k⟩;refine⟨S,M,ρ,_,s,l,q,?_⟩;rintro vs e ⟨ds,M1,d,i,g1,b,c⟩
 try dsimp only at c
 split at c;rename_i j;obtain⟨⟨h1,h2⟩,h⟩:=c
 first|have z:=Reps.inv_cons b|have z:=ay.inv_cons b
 clear b;obtain⟨_,_,rfl,r,t⟩:=z;cases r;cases t;exact⟨j,rfl,h1,h2,k _ e ⟨_,M1,d,i,g1,MI.rng 0 j.toNat,h⟩⟩;exact c.elim
section
mutual
inductive D3(k:Nat):D->Prop
 |non:D3 k .non
 |bl (b:Bool):D3 k (.bl b)
 |int (i:Int):D3 k (.int i)
 |str (x:c8):D3 k (.str x)
 |ty (n:String):D3 k (.ty n)
 |tup {ds:List D} (h:Bels k ds):D3 k (.tup ds)
 |ref {n:Nat} (h:n<k):D3 k (.ref n)
inductive Bels(k:Nat):List D->Prop
 |nil:Bels k []
 |cons {d:D}{ds:List D} (h:D3 k d) (t:Bels k ds):Bels k (d::ds)
end
noncomputable def MO.items:MO->List D
 |.lst xs=>xs
 |.fz xs=>xs
 |.kl xs=>xs
 |.dct kvs=>kvs.map (·.2)
 |.dkt kvs=>kvs.map (·.2)
 |.dkq _ kvs=>kvs.map (·.2)
 |.fdc _ kvs=>kvs.map (·.2)
 |.dkm kvs=>kvs.map (·.2)
 |.tb _ _=>[]
 |.exc _=>[]
theorem u6.bel{K:u9}{ρ:List d6}{H:Hp}{d:D}{v:V}(h:u6 K ρ H d v):D3 ρ.length d:=u6.rec (motive_1:=λd v _=>D3 ρ.length d) (motive_2:=λds vs _=>Bels ρ.length ds) .non .bl .int .str .ty (λ_ _ r=>.tup r) (λh=>.ref (z9.mp h).1) .nil (λ_ _ h t=>.cons h t) h
theorem Reps.bel{K:u9}{ρ:List d6}{H:Hp}{ds:List D}{vs:List V}(h:Reps K ρ H ds vs):Bels ρ.length ds:=Reps.rec (motive_1:=λd v _=>D3 ρ.length d) (motive_2:=λds vs _=>Bels ρ.length ds) .non .bl .int .str .ty (λ_ _ r=>.tup r) (λh=>.ref (z9.mp h).1) .nil (λ_ _ h t=>.cons h t) h
theorem D3.inv(b:D3 k d):(∀ds,d=.tup ds->Bels k ds)/\∀n,d=.ref n->n<k:=by
 cases b with
 |tup b=>exact⟨(λ_ e=>by injection e with e;exact e ▸ b),(λ_ e=>by cases e)⟩
 |ref b=>exact⟨(λ_ e=>by cases e),(λ_ e=>by injection e with e;exact e ▸ b)⟩
 |_=>exact⟨(λ_ e=>by cases e),(λ_ e=>by cases e)⟩
theorem Bels.inv{k:Nat}{d:D}{ds:List D}(b:Bels k (d::ds)):D3 k d/\Bels k ds:=by
 cases b with
 |cons b c=>exact⟨b,c⟩
theorem u6.cut{K:u9}{ρ:List d6}{H:Hp}{k:Nat}{d:D}{v:V}(h:u6 K ρ H d v):D3 k d->u6 K (ρ.take k) H d v:=u6.rec (motive_1:=λd v _=>D3 k d->u6 K (ρ.take k) H d v) (motive_2:=λds vs _=>Bels k ds->Reps K (ρ.take k) H ds vs) (λ_=>.non) (λb _=>.bl b) (λb _=>.int b) (λb _=>.str b) (λb _=>.ty b) (λh _ r b=>.tup h<|r<|b.inv.1 _ rfl)
  (λh b=>.ref<|by rw[O8<|b.inv.2 _ rfl];exact h) (λ_=>.nil) (λ_ _ h t b=>.cons (h b.inv.1)<|t b.inv.2) h
theorem Reps.cut{K:u9}{ρ:List d6}{H:Hp}{k:Nat}{ds:List D}{vs:List V}(h:Reps K ρ H ds vs):Bels k ds->Reps K (ρ.take k) H ds vs:=Reps.rec (motive_1:=λd v _=>D3 k d->u6 K (ρ.take k) H d v) (motive_2:=λds vs _=>Bels k ds->Reps K (ρ.take k) H ds vs) (λ_=>.non) (λb _=>.bl b) (λb _=>.int b) (λb _=>.str b) (λb _=>.ty b) (λh _ r b=>.tup h<|r<|b.inv.1 _ rfl)
  (λh b=>.ref<|by rw[O8<|b.inv.2 _ rfl];exact h) (λ_=>.nil) (λ_ _ h t b=>.cons (h b.inv.1)<|t b.inv.2) h
theorem D3.mono{j k:Nat}(h:j<=k){d:D}(b:D3 j d):D3 k d:=D3.rec (motive_1:=λd _=>D3 k d) (motive_2:=λds _=>Bels k ds) .non .bl .int .str .ty (λ_ b=>.tup b) (λb=>.ref<|K4 b h) .nil (λ_ _ b c=>.cons b c) b
theorem Bels.mono{j k:Nat}(h:j<=k){ds:List D}(b:Bels j ds):Bels k ds:=Bels.rec (motive_1:=λd _=>D3 k d) (motive_2:=λds _=>Bels k ds) .non .bl .int .str .ty (λ_ b=>.tup b) (λb=>.ref<|K4 b h) .nil (λ_ _ b c=>.cons b c) b
theorem Bels.of:∀{xs:List D},(∀d∈xs,D3 k d)->Bels k xs
 | [],_=>.nil
 |d::ds,h=>.cons (h d E3)<|Bels.of λe he=>h e<|C7 _ he
section
variable{K:u9}{ρ ρ':List d6}{H H':Hp}{M M':u8}
theorem xN:∀(n:Nat) (d:D),da n d=b9->D3 k d:=by
 intro n;induction n with
 |zero =>
  intro d h;cases d with
  |str x=>exact .str x
  |int x=>exact .int x
  |_=>cases h
 |succ n i =>
  intro d h;cases d with
  |str x=>exact .str x
  |int x=>exact .int x
  |tup ds=>exact .tup<|Bels.of λx a=>i x<|F0.mp (show ds.all (da n)=b9 from h) x a
  |_=>cases h
theorem Bn(r:Paired (rZ K ρ H) kvs xs):Bels ρ.length (kvs.map (·.2)):=by
 induction r with
 |nil=>exact .nil
 |cons q _ i=>obtain⟨_,_,_,v,J,_⟩:=q;exact .cons J.bel i
theorem Bm(r:Paired (rZ K ρ H) kvs xs)(b:Bels k (kvs.map (·.2))):Paired (rZ K (ρ.take k) H) kvs xs:=by
 induction r with
 |nil=>exact .nil
 |cons q _ i =>
  obtain⟨d,j,e,v,J,f⟩:=q;rw[B9]at b;cases b with
  |cons a c=>exact .cons ⟨d,j,e.cut<|xN _ _ j,v,J.cut a,f⟩<|i c
theorem Et:∀(d:D),yZ d=b9->D3 k d
 |.non,_=>.non
 |.tup ks,h=>xN 8 _ h
 |.bl _,h=>nomatch h
 |.int _,h=>nomatch h
 |.str _,h=>nomatch h
 |.ty _,h=>nomatch h
 |.ref _,h=>nomatch h
theorem Hu(r:Paired (Nb K ρ H) kvs xs):Bels ρ.length (kvs.map (·.2)):=by
 induction r with
 |nil=>exact .nil
 |cons q _ i=>obtain⟨_,_,_,v,J,_⟩:=q;exact .cons J.bel i
theorem Hs(r:Paired (Nb K ρ H) kvs xs)(b:Bels k (kvs.map (·.2))):Paired (Nb K (ρ.take k) H) kvs xs:=by
 induction r with
 |nil=>exact .nil
 |cons q _ i =>
  obtain⟨d,j,⟨u,e,l⟩,v,J,f⟩:=q;rw[B9]at b;cases b with
  |cons a c=>exact .cons ⟨d,j,⟨u,e.cut<|Et _ j,l⟩,v,J.cut a,f⟩<|i c
theorem zw.bels(h:zw K ρ H a mo):Bels ρ.length mo.items:=by
 cases mo with
 |lst ds=>obtain⟨vs,_,r⟩:=h;exact r.bel
 |fz ds=>obtain⟨o,vs,_,r⟩:=h;exact r.bel
 |kl ds=>obtain⟨vs,_,r⟩:=h;exact r.bel
 |dct kvs=>obtain⟨vs,_,r⟩:=h;exact r.bel
 |dkt kvs=>obtain⟨_,_,_,xs,_,r⟩:=h;exact Bn r
 |dkq _ kvs=>obtain⟨_,_,_,xs,_,r⟩:=h;exact Bn r
 |fdc o kvs=>obtain⟨vs,_,r⟩:=h;exact r.bel
 |dkm kvs=>obtain⟨_,_,_,xs,_,r⟩:=h;exact Hu r
 |tb x b=>exact .nil
 |exc x=>exact .nil
theorem zw.cut(h:zw K ρ H a mo)(b:Bels k mo.items):zw K (ρ.take k) H a mo:=by
 cases mo with
 |lst ds=>obtain⟨vs,e,r⟩:=h;exact⟨vs,e,r.cut b⟩
 |fz ds=>obtain⟨o,vs,e,r⟩:=h;exact⟨o,vs,e,r.cut b⟩
 |kl ds=>obtain⟨vs,e,r⟩:=h;exact⟨vs,e,r.cut b⟩
 |dct kvs=>obtain⟨vs,e,r⟩:=h;exact⟨vs,e,r.cut b⟩
 |dkt kvs=>obtain⟨h1,h2,c,xs,e,r⟩:=h;exact⟨h1,h2,c,xs,e,Bm r b⟩
 |dkq _ kvs=>obtain⟨h1,h2,c,xs,e,r⟩:=h;exact⟨h1,h2,c,xs,e,Bm r b⟩
 |fdc o kvs=>obtain⟨vs,e,r⟩:=h;exact⟨vs,e,r.cut b⟩
 |dkm kvs=>obtain⟨h1,h2,c,xs,e,r⟩:=h;exact⟨h1,h2,c,xs,e,Hs r b⟩
 |tb x b=>exact h
 |exc x=>exact h
theorem v9.bels(S:v9 K ρ M H){n:Nat}{mo:MO}(e:M[n]?=b7 mo):Bels M.length mo.items:=by obtain⟨a,_,h⟩:=S.get e;rw[<-S.len];exact h.bels
theorem v9.cut(S:v9 K ρ M H)(k:Nat)(d:∀(n:Nat) (mo:MO),n<k->M[n]?=b7 mo->Bels k mo.items):v9 K (ρ.take k) (M.take k) H:=by
 have lt:∀{n:Nat}{a:d6},(ρ.take k)[n]?=b7 a->n<k/\ρ[n]?=b7 a:=λ{n a} e=>by
  have h1:=(z9.mp e).1;rw[F6]at h1;have h2:n<k:=by lia
  rw[O8 h2]at e;exact⟨h2,e⟩
 refine⟨λn m a h t l=>?_,by rw[F6,F6,S.len],λn a mo t l=>?_⟩;obtain⟨b,f⟩:=lt t;obtain⟨g,c⟩:=lt l;rw[O8 b,O8 g];exact S.nd n m a h f c;obtain⟨b,f⟩:=lt t;rw[O8 b]at l;exact(S.obj n a mo f l).cut<|d n mo b l
theorem SRep.cut(r:SRep K ρ H S σ)(g:S'.length=S.length)(h:∀(i:Nat) d,S'[i]?=b7 (b7 d)->S[i]?=b7 (b7 d)/\D3 k d):SRep K (ρ.take k) H S' σ:=⟨g.trans r.len,λi d e=>let ⟨e',b⟩:=h i d e;let ⟨v,hv,rv⟩:=r.get i d e';⟨v,hv,rv.cut b⟩⟩
theorem Grow.cut(g:Grow K ρ H ρ' H')(h:ρ.length<=k):Grow K ρ H (ρ'.take k) H':=by refine⟨?_,g.tup⟩;obtain⟨t,rfl⟩:=g.pre;rw[List.take_append];rw[PF h];exact MM _ _
end
inductive FgtS(k:Nat):SD->SD->Prop
 |nil:FgtS k [] []
 |keep {d:D}{S S':SD} (h:D3 k d) (t:FgtS k S S'):FgtS k (b7 d::S) (b7 d::S')
 |drop {o:Option D}{S S':SD} (t:FgtS k S S'):FgtS k (o::S) (b8::S')
theorem FgtS.len(h:FgtS k S S'):S'.length=S.length:=by
 induction h with
 |nil=>rfl
 |keep _ _ i=>rw[D4,D4,i]
 |drop _ i=>rw[D4,D4,i]
theorem FgtS.get(h:FgtS k S S'):∀(i:Nat) d,S'[i]?=b7 (b7 d)->S[i]?=b7 (b7 d)/\D3 k d:=by
 induction h with
 |nil=>intro i d e;simp at e
 |keep b _ a =>
  intro i d e;cases i with
  |zero=>simp at e;subst e;exact⟨rfl,b⟩
  |succ i=>exact a i d<|by simpa using e
 |drop _ a =>
  intro i d e;cases i with
  |zero=>simp at e
  |succ i=>exact a i d<|by simpa using e
def C1(b:u8)(P:SD->u8->Prop)(S:SD)(M:u8):Prop:=P S M\/(∃k a,b.length<=k/\FgtS k S a/\(∀(n:Nat) mo,n<k->M[n]?=b7 mo->Bels k mo.items)/\P a (M.take k))\/∃a,FgtS b.length S a/\b <+: M/\P a b
theorem De{α:Type}{l l':List α}(h:l <+: l'):l'.take l.length=l:=by obtain⟨t,rfl⟩:=h;rw[List.take_append_of_le_length<|v6 _,MT]
theorem SQ.fgt{K:u9}{ρ:List d6}{H:Hp}{b:u8}{P:SD->u8->Prop}{c:St}{H':Hp}(s0:v9 K ρ b H)(h:SQ K ρ H (C1 b P) c H'):SQ K ρ H P c H':=by
 have d:ρ.length<=b.length:=by rw[s0.len];exact v6 _
 obtain⟨S,M',ρ',s',g,a,j⟩:=h;rcases j with j|⟨k,S2,h1,h2,f,q⟩|⟨S2,h2,hp,q⟩
 exact⟨S,M',ρ',s',g,a,j⟩;exact⟨S2,M'.take k,ρ'.take k,s'.cut k f,g.cut<|J1 d h1,a.cut h2.len h2.get,q⟩;have s:=s'.cut b.length λn m i e=>by obtain⟨t,rfl⟩:=hp;rw[L0 i]at e;exact s0.bels e
 rw[De hp]at s;exact⟨S2,b,ρ'.take b.length,s,g.cut d,a.cut h2.len h2.get,q⟩
def uP(ok:u8->Prop)(g:MJ)(tb:u4)(E:DEnds)(k0:u8):List D->SD->u8->Prop
 | [],S,M=>ok M/\E.nx S M
 |x::xs,S,M=>ok M/\g x S M λS2 M2=>tb ⟨C1 k0<|uP ok g tb E k0 xs,E.rt,E.nx,C1 k0<|uP ok g tb E k0 xs⟩ S2 M2
def lW(i:MW)(g:MJ)(b:u4):u4:=λE S M=>i S M λsrc M1=>uP src.ok g b E M1 src.items S M1
theorem uJ{α:Type}{l:List α}{i:Nat}{x:α}(h:l[i]?=b7 x):l.drop i=x::l.drop (i+1):=by obtain⟨hi,e⟩:=z9.mp h;rw[O9 hi,e]
theorem Ec{K:u9}{N:MW}{g:MJ}{p:u4}(E:Ends)(σ:St)(H:Hp)(h:lowS K (lW N g p) E σ H):tFor (lowI K N) (lowG K g) (lowS K p) E σ H:=by
 obtain⟨S,M,ρ,F,s,R,q,k⟩:=h;refine⟨S,M,ρ,_,s,R,q,?_⟩;rintro J A ⟨src,M1,c,Q,g1,it,q1⟩;have B:=k.trans g1;refine⟨λi m τ f=>∃S2 M2 a,v9 K a M2 f/\Grow K c A a f/\SRep K a f S2 τ/\i<=src.items.length/\m=src.items.length-i/\uP src.ok g p F M1 (src.items.drop i) S2 M2,⟨_,S,M1,c,Q,.refl,R.grow g1,A9 _,rfl,q1⟩,?_⟩;rintro i m τ f ⟨S2,M2,a,w,l,o,hi,rfl,u⟩;by_cases t:i<src.items.length;have O:src.items[i]?=b7 src.items[i]:=w9 t;rw[uJ O]at u;obtain⟨ok,C⟩:=(show src.ok M2/\g src.items[i] S2 M2 _ from u)
 refine .inr ⟨it.go i a M2 f w l ok t,_,λai H' z=>z,λx T y=>?_⟩;obtain⟨d,I,hd,s3,g3,r3⟩:=it.yld i a M2 f x T w l ok t y;have ed:d=src.items[i]:=C0<|hd.symm.trans O;subst ed;refine⟨_,S2,M2,I,_,s3,o.grow g3,r3,C,?_⟩;rintro aj U ⟨Y,W,r,s4,g4,D,q4⟩;have j:=(l.trans g3).trans g4;refine⟨Y,W,r,_,s4,D,q4,?_⟩;have n:∀b V,SQ K r U (C1 M1<|uP src.ok g p F M1<|src.items.drop<|i+1) b V -> ∃P,P < src.items.length-i/\∃S2 M2 a,v9 K a M2 V/\Grow K c A a V/\SRep K a V S2 b/\i+1<=src.items.length/\P=src.items.length-(i+1)/\uP src.ok g p F M1 (src.items.drop<|i+1) S2 M2:=λb V z=>by obtain⟨Z,X,L,s5,g5,G,q5⟩:=SQ.fgt (ρ:=c) (H:=A) Q<|SQ.trans j z;exact⟨_,by lia,Z,X,L,s5,g5,G,t,rfl,q5⟩
 exact⟨n,λv V z=>B.rt v V<|VQ.trans j z,λb V z=>B.nx b V<|SQ.trans j z,n⟩;have e:i=src.items.length:=by lia
 subst e;rw[List.drop_of_length_le<|v6 _]at u;obtain⟨ok,C⟩:=(show src.ok M2/\F.nx S2 M2 from u)
 exact .inl ⟨it.stop a M2 f w l ok,B.nx τ f ⟨S2,M2,a,w,l,o,C⟩⟩
theorem LQ(hi:DI X tg iter di)(R:DG X tg g)(d:ND X body tb)(hp:PassesOwn (h7 X.prog X.w) X.A X.env X.xe:=by exact PassesOwn.never)(f:X.calm=b9:=by rfl)(hs:∀x,j4 iter X.env x=pure x:=by intro _;rfl):DS X (.For tg iter body [] pos) (lW di g tb):=PS.imp (JO hp f hi R d hs) Ec
noncomputable def Mb(t:Nat)(s:List Nat)(S:SD):SD:=Ow t b8++s.map λj=>(S[j]?).join
def oo(ok:u8->Prop)(g:MJ)(tt:H9)(te:x6)(Q:DK):List D->List D->SD->u8->Prop
 | [],acc,S,M=>ok M/\Q (.ref M.length) (M++[.lst acc])
 |x::xs,acc,S,M=>ok M/\g x S M λS2 M2=>tt S2 M2 λb M3=>if b=b9 then te S2 M3 λy M4=>acc.length<sizeLine/\oo ok g tt te Q xs (acc++[y]) S2 M4 else oo ok g tt te Q xs acc S2 M3
def E7(t:Nat)(s:List Nat)(i:MW)(g:MJ)(tt:H9)(te:x6):x6:=λS M Q=>i S M λsrc M1=>oo src.ok g tt te Q src.items [] (Mb t s S) M1
theorem SRep.bst{K:u9}{ρ:List d6}{H:Hp}{S:SD}{σ:St}(r:SRep K ρ H S σ)(t:Nat)(s:List Nat):SRep K ρ H (Mb t s S) (L2.bst t s σ):=by
 refine⟨by simp[Mb,Ct],λi d e=>?_⟩;unfold Mb at e;unfold L2.bst;by_cases hi:i<t;rw[L0 (by simpa using hi),Rx]at e;simp[hi]at e;rw[MU (by simpa using NO.mp hi),Rs,C6]at e;rw[MU (by simpa using NO.mp hi),Rs,C6];cases q:s[i-t]? with
 |none=>rw[q]at e;cases e
 |some j =>
  rw[q]at e;have a:(S[j]?).join=b7 d:=by simpa using e
  cases b:S[j]? with
  |none=>rw[b]at a;cases a
  |some o=>rw[b]at a;have l:o=b7 d:=a;subst l;obtain⟨v,c,f⟩:=r.get j d b;exact⟨v,by simp[c],f⟩
theorem AY{K:u9}{B:Nat}{A:List Nat}{O:MW}{g:MJ}{tt:H9}{te:x6}(σ:St)(H:Hp)(R:VK)(h:lowE K (E7 B A O g tt te) σ H R):RO B A (lowI K O) (lowG K g) (lowT K tt) (lowE K te) σ H R:=by
 obtain⟨S,M,ρ,Q,s,U,q,k⟩:=h;refine⟨S,M,ρ,_,s,U,q,?_⟩;rintro J V ⟨src,M1,n,s1,g1,it,q1⟩;refine⟨λi m vs τ c=>∃S2 M2 a acc,v9 K a M2 c/\Grow K n V a c/\SRep K a c S2 τ/\Reps K a c acc vs/\i<=src.items.length/\m=src.items.length-i/\oo src.ok g tt te Q (src.items.drop i) acc S2 M2,⟨_,_,M1,n,[],s1,.refl,(U.grow g1).bst B A,.nil,A9 _,rfl,q1⟩,?_⟩;rintro i m vs τ c ⟨S2,M2,a,acc,z,l,F,r,hi,rfl,o⟩;by_cases t:i<src.items.length;have P:src.items[i]?=b7 src.items[i]:=w9 t;rw[uJ P]at o;obtain⟨ok,C⟩:=(show src.ok M2/\g src.items[i] S2 M2 _ from o)
 refine .inr ⟨it.go i a M2 c z l ok t,λx W y=>?_⟩;obtain⟨d,G,hd,s3,g3,r3⟩:=it.yld i a M2 c x W z l ok t y;have ed:d=src.items[i]:=C0<|hd.symm.trans P;subst ed;refine⟨_,S2,M2,G,_,s3,F.grow g3,r3,C,?_⟩;rintro ai H4 ⟨Y,Z,I,s4,u,D,q4⟩;refine⟨Y,Z,I,_,s4,D,q4,?_⟩;rintro b H5 ⟨X,L,s5,f,T⟩;have j:=((l.trans g3).trans u).trans f;cases b with
 |false=>exact cD ⟨_,by lia,Y,X,L,acc,s5,j,D.grow f,r.grow<|(g3.trans u).trans f,t,rfl,(show oo src.ok g tt te Q (src.items.drop<|i+1) acc Y X from T)⟩
 |true=>refine cQ ⟨Y,X,L,_,s5,D.grow f,(show te Y X _ from T),?_⟩;rintro v H6 ⟨y',M6,N,s6,w,r6,hl,q6⟩;have E:=r.grow<|((g3.trans u).trans f).trans w;exact⟨by rw[<-r.length];exact hl,_,by lia,Y,M6,N,acc++[y'],s6,j.trans w,D.grow<|f.trans w,E.append<|.cons r6 .nil,t,rfl,q6⟩
 have e:i=src.items.length:=by lia
 subst e;rw[List.drop_of_length_le<|v6 _]at o;obtain⟨ok,C⟩:=(show src.ok M2/\Q (.ref M2.length) (M2++[.lst acc])from o)
 exact .inl ⟨it.stop a M2 c z l ok,λp hp=>k _ _<|VQ.laidL z (g1.trans l) r hp C⟩
theorem d_lc(B:BlkSc X N' nt js scope)(hi:DI X tg iter di)(R:∀cl s0 H0 ex,DG (C3 X N' scope cl s0 H0 ex) tg g) (t:∀cl s0 H0 ex,NM (C3 X N' scope cl s0 H0 ex) ifs<|lowT X.K tt) (i:∀cl s0 H0 ex,DE (C3 X N' scope cl s0 H0 ex) elt te) (f:X.calm=b9:=by rfl)(hs:∀x,j4 iter X.env x=pure x:=by intro _;rfl):DE X (.ListComp elt [⟨tg,iter,ifs,0⟩] scope pos) (E7 nt js di g tt te):=PE.imp (pe_lc (g:=lowG X.K g) (tt:=lowT X.K tt) (te:=lowE X.K te) B f hi (λcl s0 H0 ex=>R cl s0 H0 ex) t (λcl s0 H0 ex=>i cl s0 H0 ex) hs) AY
def oj:H9:=λ_ M Q=>Q b9 M
theorem Ir:NM X [] (lowT X.K oj):=λp s σ H R I ⟨S,M,ρ,Q,m,b,q,k⟩=>GF p s σ H R I<|k b9 H ⟨M,ρ,m,.refl,q⟩
theorem Iq(h:DT X c t):NM X [c] (lowT X.K t):=GE h
def Qc(M M1:u8):Prop:=M1.length=M.length/\∀(i:Nat) (m:MO),M1[i]?=b7 m->M[i]?=b7 m\/Bels M.length m.items
theorem Qc.refl:Qc M M:=⟨rfl,λ_ _ h=>.inl h⟩
def aY(M:u8)(R:DK):DK:=λd M'=>R d M'\/(∃M1,Qc M M1/\D3 M.length d/\M1 <+: M'/\R d M1)\/∃M1 n xs,Qc M M1/\d=.ref n/\M.length<=n/\M'[n]?=b7 (.lst xs)/\M1 <+: M'/\Bels M.length xs/\R (.ref M.length) (M1++[.lst xs])
theorem eD{α:Type}{l l':List α}(h:l <+: l'):l'.take l.length=l:=by obtain⟨t,rfl⟩:=h;rw[List.take_append_of_le_length<|v6 _,MT]
theorem VQ.endq{K:u9}{ρ:List d6}{M:u8}{H:Hp}{R:DK}{v:V}{H':Hp}(s:v9 K ρ M H)(h:VQ K ρ H (aY M R) v H'):VQ K ρ H R v H':=by
 obtain⟨d,M',ρ',s',w,r',T⟩:=h;have j:ρ'.take M.length=ρ:=by rw[<-s.len];exact eD w.pre
 rcases T with q|⟨M1,c,b,f,q⟩|⟨M1,n,xs,c,rfl,S,e,f,b,q⟩
 exact⟨d,M',ρ',s',w,r',q⟩;have g:=s'.cut M.length λn o u e=>by
  have D:M1[n]?=b7 o:=by obtain⟨t,rfl⟩:=f;rw[L0<|by rw[c.1];exact u]at e;exact e
  exact(c.2 n o D).elim (λz=>s.bels z) id
 have J:M'.take M.length=M1:=by rw[<-c.1];exact eD f
 rw[j,J]at g;have B:=r'.cut b;rw[j]at B;exact⟨d,M1,ρ,g,⟨Oa,w.tup⟩,B,q⟩;have g:=s'.cut M.length λn o u e=>by
  have D:M1[n]?=b7 o:=by obtain⟨t,rfl⟩:=f;rw[L0<|by rw[c.1];exact u]at e;exact e
  exact(c.2 n o D).elim (λz=>s.bels z) id
 have J:M'.take M.length=M1:=by rw[<-c.1];exact eD f
 rw[j,J]at g;obtain⟨a,rfl,u⟩:=u6.inv_ref r';obtain⟨vs,P,W⟩:=s'.obj n a _ u e;have B:=W.cut b;rw[j]at B;have N:Grow K ρ H' (ρ++[a]) H':=⟨MM _ _,λ_ _ h=>h⟩
 have A:∀(m:Nat),ρ[m]?=b7 a->MH M1[m]?:=λm F=>by
  have Q:m≠n:=λz=>by
   have:m<M.length:=by rw[<-s.len];exact(z9.mp F).1
   lia
  have q:=s'.nd m n a Q (ao w.pre F) u;have G:m<M.length:=by rw[<-s.len];exact(z9.mp F).1
  rcases q with⟨ds,z⟩|⟨ds,z⟩
  refine⟨ds,?_⟩;have k:m<M1.length:=by rw[c.1];exact G
  have:=ao f<|w9 k;rw[z]at this;rw[w9 k];exact this.symm;rw[e]at z;cases z
 refine⟨.ref M.length,M1++[.lst xs],ρ++[a],⟨λy U C x E l=>?_,by rw[B6,B6,g.len];rfl,λy C o E l=>?_⟩,⟨MM _ _,w.tup⟩,.ref (by have:=g.last (p:=a);rw[c.1]at this;exact this),q⟩;rcases ba E with i|⟨i,L⟩
 rcases ba l with r|⟨r,O⟩
 exact(g.nd y U C x i r).elim (λz=>.inl z.more) λz=>.inr z.more;subst O;exact .inl (A y i).more;rcases ba l with r|⟨r,O⟩
 subst L;exact .inr (A U r).more;exact p5 (i.trans r.symm) x;rcases ba E with i|⟨i,L⟩
 have I:y<M1.length:=by rw[<-g.len];exact(z9.mp i).1
 rw[L0 I]at l;exact(g.obj y C o i l).grow N<|.inl rfl;subst L i;rw[g.len,MU<|v6 _,NS]at l;simp at l;subst l;exact⟨vs,P,B.grow N⟩
noncomputable def eR(N:List c8)(ds:List D):SD:=ds.map b7++Ow (N.length-ds.length) b8
theorem SRep.start{K:u9}{ρ:List d6}{H:Hp}{ds:List D}{vs:List V}(r:Reps K ρ H ds vs)(N:List c8):SRep K ρ H (eR N ds) (L2.start N vs):=by
 refine⟨by simp[eR,L2.start,r.length],λi d e=>?_⟩;unfold eR at e;unfold L2.start;by_cases hi:i<ds.length;rw[L0 (by simpa using hi),C6]at e;rw[L0 (by simpa [<-r.length]using hi),C6];have a:ds[i]?=b7 d:=by rw[w9 hi]at e ⊢;simpa using e
 obtain⟨v,c,b⟩:=r.get a;exact⟨v,by rw[c];rfl,b⟩;rw[MU (by simpa using NO.mp hi),Rx]at e;split at e<;>cases e
theorem d_fn{P:d5}{w:c9}{K:u9}{mg:c8->Option c7}{base:d8}{x l:c8}{st:i5}{f:d6}{d:j9}{N ps:List c8}{k:Nat}(c:A0)(F:Nu K x l st f d)(e:FnScope N ps (aC st))(B:∀ds M R,c ds M R->ds.length=ps.length)(y:∀(cdv:c7) (A:f7) (outer:List Env) (s:f8) (H:Hp) (E:XK),Room k (A.deeper<|k9 l (aC st) s.heap.objs.size f cdv) -> ∃t,ND (zv L5 P w K mg base N l (aC st) f cdv A outer s H E).nox (cq st) t/\∀ds M R,c ds M R->t ⟨λ_ M'=>aY M R .non M',aY M R,λ_ _=>False,λ_ _=>False⟩ (eR N ds) M):FnOk P w K mg base L5 (k+1) f d ps (Nq K c):=by refine F.ok e (λvs H Q E ⟨ds,M,ρ,R,s,r,q,_⟩=>by rw[<-r.length];exact B ds M R q) λcdv A outer s H vs Q E n h=>?_;obtain⟨ds,M,ρ,R,m,r,q,C⟩:=h;obtain⟨t,o,i⟩:=y cdv A outer s H E n;refine⟨lowS K t,o,eR N ds,M,ρ,_,m,SRep.start r N,i ds M R q,⟨λb H' ⟨S,M',ρ',s',g,a,j⟩=>?_,λv H' z=>C v H'<|VQ.endq m z,λb H' ⟨S,M',ρ',s',g,a,j⟩=>j.elim,λb H' ⟨S,M',ρ',s',g,a,j⟩=>j.elim⟩⟩;exact C .non H'<|VQ.endq m ⟨.non,M',ρ',s',g,.non,j⟩
end
theorem dfin(I:t9 X pins σ H s)(m:v9 X.K ρ M H)(k:∀v H',VQ X.K ρ H Q v H'->R v H')(c:cV d=b7 v)(r:aK v u)(q:Q d M):EP X pins σ R u s:=⟨v,H,I,r,k v H<|VQ.now m (Cr c) q⟩
theorem gW(I:t9 X pins σ H s)(m:v9 X.K ρ M H)(k:∀v H',VQ X.K ρ H Q v H'->R v H')(q:Q (.bl b) M):EP X pins σ R (.bool b) s:=⟨.bl b,H,I,rfl,k _ H<|VQ.now m (.bl b) q⟩
def qAdd:F7:=λx y M Q=>match x,y with
 |.int i,.int j=>Q (.int<|i+j) M
 |.str a,.str b=>a.length+b.length<=sizeLine/\Q (.str<|a++b) M
 |.ref n,.ref m=>∃xs ys,M[n]?=b7 (.lst xs)/\M[m]?=b7 (.lst ys)/\xs.length+ys.length<=sizeLine/\Q (.ref M.length) (M++[.lst<|xs++ys])
 |_,_=>False
theorem Kt:G8 X (j5 .Add) qAdd:=by refine D0.imp (Kk.or<|yH.or Kj) ?_;rintro v b H R ⟨x,y,M,ρ,Q,m,r,n,q,k⟩;unfold qAdd at q;split at q;cases r;cases n;exact .inl ⟨_,_,rfl,rfl,k _ H<|VQ.now m (.int _) q⟩;cases r;cases n;exact .inr<|.inl ⟨_,_,rfl,rfl,q.1,k _ H<|VQ.now m (.str _) q.2⟩;obtain⟨xs,ys,t,l,g,q⟩:=q;obtain⟨_,rfl,h1⟩:=u6.inv_ref r;obtain⟨_,rfl,h2⟩:=u6.inv_ref n;obtain⟨vs,f,g1⟩:=m.obj _ _ _ h1 t;obtain⟨s,a,c⟩:=m.obj _ _ _ h2 l;exact .inr<|.inr ⟨_,_,vs,s,rfl,rfl,f,a,by rw[<-g1.length,<-c.length];exact g,λp hp=>k _ _<|VQ.laidL m .refl (g1.append c) hp q⟩;exact q.elim
def Ja:F7:=λx y M Q=>match x,y with
 |.int i,.int j=>Q (.int<|i-j) M
 |_,_=>False
theorem Ko:G8 X (j5 .Sub) Ja:=by refine D0.imp Ke ?_;rintro f g H R ⟨x,y,M,ρ,Q,m,r,n,q,k⟩;unfold Ja at q;split at q;cases r;cases n;exact⟨_,_,rfl,rfl,k _ H<|VQ.now m (.int _) q⟩;exact q.elim
def vc(i j:Int):Prop:=0<j/\j<340282366920938463463374607431768211456
theorem DB:D0 X (j5 .FloorDiv) (rI vc λi j=>.int<|i / j):=PR λi j _ _ _ _ _ f q=>by have h1:(0:Int)<j:=f.1;have h2:j<340282366920938463463374607431768211456:=f.2;have a:j.natAbs.log2<128:=(Nat.log2_lt<|by lia).mpr (by rw[show (2:Nat) ^ 128=340282366920938463463374607431768211456 by decide];lia);exact floordiv_int (by lia) (by rw[Int.fdiv_eq_ediv_of_nonneg i<|by lia];exact q)<|.inl<|PyProof.noPylong_of_log2<|by lia
def aN:F7:=λx y M Q=>match x,y with
 |.int i,.int j=>vc i j/\Q (.int<|i / j) M
 |_,_=>False
theorem He:G8 X (j5 .FloorDiv) aN:=by refine D0.imp DB ?_;rintro f g H R ⟨x,y,M,ρ,Q,m,r,n,q,k⟩;unfold aN at q;split at q;cases r;cases n;exact⟨_,_,rfl,rfl,q.1,k _ H<|VQ.now m (.int _) q.2⟩;exact q.elim
def cA:F7:=λx y M Q=>match x,y with
 |.int i,.int j=>0<j/\Q (.int<|i % j) M
 |_,_=>False
theorem Kr:G8 X (j5 .Mod) cA:=by refine D0.imp Ki ?_;rintro f g H R ⟨x,y,M,ρ,Q,m,r,n,q,k⟩;unfold cA at q;split at q;cases r;cases n;exact⟨_,_,rfl,rfl,q.1,k _ H<|VQ.now m (.int _) q.2⟩;exact q.elim
noncomputable def iF(a b:c8):Bool:=decide<|a.cps.toList<b.cps.toList
def NK:F7:=λx y M Q=>match x,y with
 |.int i,.int j=>Q (.bl<|decide<|i<j) M
 |.str a,.str b=>Q (.bl<|iF a b) M
 |_,_=>False
def Pc:F7:=λx y M Q=>match x,y with
 |.int i,.int j=>Q (.bl<|decide<|i<=j) M
 |.str a,.str b=>Q (.bl<|!iF b a) M
 |_,_=>False
def N1:F7:=λx y M Q=>match x,y with
 |.int i,.int j=>Q (.bl<|decide<|j<i) M
 |.str a,.str b=>Q (.bl<|iF b a) M
 |_,_=>False
theorem od_lt:G8 X (j6 .Lt) NK:=by rintro p s σ H f a v u R I g i ⟨x,y,M,ρ,Q,m,r,n,q,k⟩;unfold NK at q;split at q;cases r;cases n;exact op_lt p s σ H _ _ v u R I g i ⟨_,_,rfl,rfl,k _ H<|VQ.now m (.bl _) q⟩;cases r;cases n;obtain⟨t,rfl⟩:=g;obtain⟨t',rfl⟩:=i;exact PySem.P.lt_str<|gW I m k q;exact q.elim
theorem od_le:G8 X (j6 .LtE) Pc:=by rintro p s σ H f a v u R I g i ⟨x,y,M,ρ,Q,m,r,n,q,k⟩;unfold Pc at q;split at q;cases r;cases n;exact op_le p s σ H _ _ v u R I g i ⟨_,_,rfl,rfl,k _ H<|VQ.now m (.bl _) q⟩;cases r;cases n;obtain⟨t,rfl⟩:=g;obtain⟨t',rfl⟩:=i;exact PySem.P.le_str<|gW I m k q;exact q.elim
theorem od_gt:G8 X (j6 .Gt) N1:=by rintro p s σ H f a v u R I g i ⟨x,y,M,ρ,Q,m,r,n,q,k⟩;unfold N1 at q;split at q;cases r;cases n;exact op_gt p s σ H _ _ v u R I g i ⟨_,_,rfl,rfl,k _ H<|VQ.now m (.bl _) q⟩;cases r;cases n;obtain⟨t,rfl⟩:=g;obtain⟨t',rfl⟩:=i;exact PySem.P.gt_str<|gW I m k q;exact q.elim
def N0:F7:=λx y M Q=>match x,y with
 |.bl a,.bl b=>Q (.bl<|a==b) M
 |.non,.non=>Q (.bl b9) M
 |_,.non=>Q (.bl c5) M
 |_,_=>False
theorem Gy{K:u9}{ρ:List d6}{H:Hp}{x:D}{v:V}(r:u6 K ρ H x v)(h:x≠.non):v≠.non:=by cases r<;>first|exact p5 rfl h|(intro z;cases z)
theorem od_is:G8 X (j6 .Is) N0:=by
 rintro p s σ H f a v u R I g i ⟨x,y,M,ρ,Q,m,r,n,q,k⟩;unfold N0 at q;split at q;cases r;cases n;cases g;cases i;exact is_bool<|gW I m k q;cases r;cases n;cases g;cases i;exact is_none_gen<|dfin (d:=.bl b9) I m k rfl rfl q;rename_i h1 h2;cases n;cases i;refine is_none_gen<|dfin (d:=.bl c5) I m k rfl ?_ q;have:=Gy r λz=>by subst z;exact h2 rfl
 rw[g.none_iff,dF_ this];rfl;exact q.elim
noncomputable def L3(M:u8):D->String
 |.non=>"NoneType"
 |.bl _=>"bool"
 |.int _=>"int"
 |.str _=>"str"
 |.ty _=>"type"
 |.tup _=>"tuple"
 |.ref n=>match M[n]? with
  |some mo=>if mo.isL=b9 then "list" else "?"
  |none=>"?"
noncomputable def FY(t T:String):Bool:=t==T||(t == "bool" && T == "int")
noncomputable def IZ:List String:=["NoneType","bool","int","str","list","tuple"]
noncomputable def Jn:List String:=["bool","int","str","list","tuple"]
theorem HH(K:u9)(B:t∈IZ)(o:T∈Jn):QY K (.type t) (.type T)=b7 (FY t T):=by simp only[IZ,Jn,A3,No,or_false]at B o;rcases B with rfl|rfl|rfl|rfl|rfl|rfl<;>rcases o with rfl|rfl|rfl|rfl|rfl<;>kernel_rfl
theorem FX(I:t9 X pins σ H s)(k:v9 X.K ρ M H)(r:u6 X.K ρ H d v)(g:aK v u)(j:L3 M d∈IZ)(p:∀(Hx:d8->Prop),PySem.W.KitX X.K u (.type<|L3 M d) Hx->Hx s.heap->u≠.builtin "__main__.__loader__#opaque"->g7 (h7 X.prog X.w) X.A (call (.builtin "isinstance") [u,c]) Q X.xe s):g7 (h7 X.prog X.w) X.A (call (.builtin "isinstance") [u,c]) Q X.xe s:=by
 cases r with
 |non=>cases g;exact p _ PySem.W.kitx_none NP<|λz=>nomatch z
 |bl y=>cases g;exact p _ PySem.W.kitx_bool NP<|λz=>nomatch z
 |int i=>obtain⟨t,rfl⟩:=g;exact p _ PySem.W.kitx_int NP<|λz=>nomatch z
 |str i=>obtain⟨t,rfl⟩:=g;exact p _ PySem.W.kitx_str NP<|λz=>nomatch z
 |ty n=>exact p5 j<|by simp only[L3];decide
 |tup h rr=>cases g;obtain⟨its,_,⟨o,h1,h2,_⟩,_⟩:=I.tuple h;exact p _ PySem.W.kitx_tuple ⟨o,h1,h2⟩<|λz=>nomatch z
 |@ref n a e =>
  cases g;have B:n<M.length:=by rw[<-k.len];exact(z9.mp e).1
  have m:M[n]?=b7 M[n]:=w9 B;have f:(match M[n]? with|some mo=>if mo.isL=b9 then "list" else "?" |none=>"?")∈IZ:=j;rw[m]at f;have l:M[n].isL=b9:=by
   cases q:M[n].isL with
   |true=>rfl
   |false=>simp only[q,B5,r9]at f;exact p5 f<|by decide
  have L:ak M n M[n].items:=by
   cases q:M[n] with
   |lst xs=>exact .inl<|by rw[m,q];rfl
   |fz xs=>exact .inr<|.inl<|by rw[m,q];rfl
   |kl xs=>exact .inr<|.inr<|by rw[m,q];rfl
   |dct xs=>rw[q]at l;cases l
   |dkt xs=>rw[q]at l;cases l
   |dkq _ xs=>rw[q]at l;cases l
   |fdc o xs=>rw[q]at l;cases l
   |dkm xs=>rw[q]at l;cases l
   |tb x b=>rw[q]at l;cases l
   |exc x=>rw[q]at l;cases l
  obtain⟨vs,C,_⟩:=ak.seq k L e;obtain⟨its,_,⟨o,E,h1,h2,_⟩,_⟩:=I.list C;have D:L3 M (.ref n) = "list":=by
   show (match M[n]? with|some mo=>if mo.isL=b9 then "list" else "?" |none=>"?") = "list"
   rw[m];exact p0 l
  rw[D]at p;exact p _ PySem.W.kitx_list ⟨o,h1,h2⟩<|λz=>nomatch z
def yF:C5:=λds M Q=>match ds with
 | [d,.ty T]=>(L3 M d∈IZ/\T∈Jn)/\Q (.bl<|FY (L3 M d) T) M
 | [d,.tup [.ty T,.ty T']]=>(L3 M d∈IZ/\T∈Jn/\T'∈Jn)/\Q (.bl<|FY (L3 M d) T||FY (L3 M d) T') M
 |_=>False
theorem Mq:lX X (.builtin "isinstance") yF:=by
 rintro i s σ H vs us R I v ⟨ds,M,ρ,Q,m,r,q,k⟩;unfold yF at q;split at q;rename_i d T;obtain⟨⟨h1,h2⟩,q⟩:=q
 first|have z:=Reps.inv_cons r|have z:=ay.inv_cons r
 clear r;obtain⟨_,_,rfl,f,r⟩:=z
 first|have z:=Reps.inv_cons r|have z:=ay.inv_cons r
 clear r;obtain⟨_,_,rfl,g,r⟩:=z;cases r;cases g;obtain⟨u,J,rfl,e,l⟩:=ay.two v;cases l;refine FX I m f e h1 λHx Z p x=>?_;exact PySem.W.kia_one Z I.kIn p (HH X.K h1 h2) x λh=>gW (I.tok h) m k q;rename_i d T c;obtain⟨⟨h1,h2,A⟩,q⟩:=q
 first|have z:=Reps.inv_cons r|have z:=ay.inv_cons r
 clear r;obtain⟨_,_,rfl,f,r⟩:=z
 first|have z:=Reps.inv_cons r|have z:=ay.inv_cons r
 clear r;obtain⟨_,_,rfl,g,r⟩:=z;cases r;obtain⟨u,J,rfl,e,l⟩:=ay.two v;obtain⟨a,S,rfl,B,t⟩:=u6.inv_tup g;cases l;obtain⟨its,D,⟨o,g1,y,n,g3⟩,_⟩:=I.tuple B
 first|have z:=Reps.inv_cons t|have z:=ay.inv_cons t
 clear t;obtain⟨_,_,rfl,E,t⟩:=z
 first|have z:=Reps.inv_cons t|have z:=ay.inv_cons t
 clear t;obtain⟨_,_,rfl,F,t⟩:=z;cases t;cases E;cases F;obtain⟨O,P,rfl,j,w⟩:=ay.two D;cases j;cases w;obtain⟨L,N,C,G⟩:=o;cases y;cases g3;refine FX I m f e h1 λHx Z p x=>?_;refine PySem.W.kia_tup Z I.kIn p g1 (b:=FY (L3 M d) T||FY (L3 M d) c) ?_ x λh=>gW (I.tok h) m k q;show (match QY X.K (.type<|L3 M d) (.type T)with|some b9=>b7 b9|some c5=>PySem.W.kitAny X.K (.type<|L3 M d) [.type c]|none=>b8)=_;rw[HH X.K h1 h2];cases FY (L3 M d) T with
 |true=>rfl
 |false=>show (match QY X.K (.type<|L3 M d) (.type c)with|some b9=>b7 b9|some c5=>b7 c5|none=>b8)=_;rw[HH X.K h1 A];cases FY (L3 M d) c<;>rfl
 exact q.elim
def ii:C5:=λds M Q=>match ds with
 | [.str x]=>x.length<=sizeLine/\Q (.int x.length) M
 | [.tup xs]=>Q (.int xs.length) M
 | [.ref n]=>∃xs,ak M n xs/\Q (.int xs.length) M
 |_=>False
theorem Mp:lX X (.builtin "len") ii:=by
 refine hX.imp (uU.or uT) ?_;rintro vs H R ⟨ds,M,ρ,Q,m,a,q,k⟩;unfold ii at q;split at q
 first|have z:=Reps.inv_cons a|have z:=ay.inv_cons a
 clear a;obtain⟨_,_,rfl,b,a⟩:=z;cases a;cases b;exact .inr ⟨_,rfl,q.1,k _ H<|VQ.now m (.int _) q.2⟩
 first|have z:=Reps.inv_cons a|have z:=ay.inv_cons a
 clear a;obtain⟨_,_,rfl,b,a⟩:=z;cases a;cases b with
 |tup h r=>exact .inl ⟨_,_,rfl,.inr h,k _ H<|VQ.now m (by rw[<-r.length];exact .int _) q⟩
 obtain⟨xs,L,q⟩:=q
 first|have z:=Reps.inv_cons a|have z:=ay.inv_cons a
 clear a;obtain⟨_,_,rfl,b,a⟩:=z;cases a;obtain⟨_,rfl,e⟩:=u6.inv_ref b;obtain⟨s,c,r⟩:=ak.seq m L e;exact .inl ⟨_,_,rfl,.inl c,k _ H<|VQ.now m (by rw[<-r.length];exact .int _) q⟩;exact q.elim
noncomputable def bls(s:List Bool):List D:=s.map .bl
theorem Reps.bls{K:u9}{ρ:List d6}{H:Hp}:∀{bs:List Bool}{vs:List V},Reps K ρ H (L2.bls bs) vs->vs=bs.map V.bl
 | [],_,h=>by cases h;rfl
 |b::bs,_,h=>by
  cases h with
  |cons r t=>cases r;rw[Reps.bls t];rfl
theorem wO:∀{bs:List Bool}{us:List c7},ay (bs.map V.bl) us->us=bs.map NR
 | [],_,h=>by cases h;rfl
 |b::bs,_,h=>by
  cases h with
  |cons r t=>cases r;rw[wO t];rfl
theorem ql{pins:List (d6×d7)}{σ:St}{H:Hp}{s:f8}{a:d6}{c:List Bool}{G:f8->Prop}(I:t9 X pins σ H s)(z:X.calm=b9)(C:G6 X.K H a (c.map V.bl))(j:∀s',t9 X pins σ H s'->G s'):∀(E:c7->f8->Prop),g7 (h7 X.prog X.w) X.A.in1 (j2<|.ref a) (λit s₂=>∃I fp wr n P St tr,it=AB6 I/\Walks X.prog X.w X.A.in1 I fp wr n P St/\St 0 s₂.heap/\TruthOf X.prog X.w X.A.in1 P tr /\ (n=c.length/\(∀i,i<c.length->tr i=c.getD i c5))/\∀h' tk,(∀b o,b∉wr->s₂.heap.get? b=b7 o->h'.get? b=b7 o)->G { s₂ with heap:=h',toks:=tk }) E s:=by
 intro E;obtain⟨its,F,p,L⟩:=I.list C;have d:=wO F;subst d;have l:=p.isList;have t:a<s.heap.objs.size:=by obtain⟨o,n,e,_⟩:=p;exact A1 e
 refine Ri l ?_;have k:t9 X pins σ H { s with heap:=s.heap.push { cls:=.type "list_iterator",data:=.fields #[.ref a,.int 0 0] } }:=I.kept (t':=s.toks) λb o e=>z5 _ e;refine⟨s.heap.objs.size,_,_,_,_,_,λi=>c.getD i c5,rfl,Walks.list (A:=X.A.in1) (I.ok.hd z) s.heap.objs.size a (A4 t) (c.map NR).toArray,⟨⟨_,A7 _ rfl,rfl,rfl⟩,l.push _⟩,?_,⟨by simp,λi _=>rfl⟩,λh' tk D=>?_⟩;intro i v s' Q' J B Q;have h:(c.map NR).toArray[i]?=b7 v:=B;rw[Sa,C6]at h;cases e:c[i]? with
 |none=>rw[e]at h;cases h
 |some b =>
  rw[e]at h;cases h;refine O3 ?_;have:c.getD i c5=b:=by rw[L1,e];rfl
  have g:Q' (c.getD i c5) s':=Q;rw[this]at g;exact g
 have f:=I.fpOk (H':=H) (v6 _)<|I.hok.fresh<|v6 _;obtain⟨m,q,M,r,u,y⟩:=f;exact j _<|k.turned (t':=tk) (it:=s.heap.objs.size) (λb o x e=>D b o (by simpa using x) e) m q r u y
theorem CD{s:List Bool}{tr:Nat->Bool}(h:∀i,i<s.length->tr i=s.getD i c5):(C2 s.length).all tr=s.all id:=by rw[OW,F0,F0];constructor;intro g b d;obtain⟨i,hi,e⟩:=List.mem_iff_getElem.mp d;have:=g i<|G1.mpr hi;rw[h i hi,L1,w9 hi]at this;rw[<-e];exact this;intro g i hi;have a:=G1.mp hi;rw[h i a,L1,w9 a];exact g _<|Nn a
theorem CA{s:List Bool}{tr:Nat->Bool}(h:∀i,i<s.length->tr i=s.getD i c5):(C2 s.length).any tr=s.any id:=by rw[OW,Nx,Nx];constructor;rintro⟨i,hi,g⟩;have a:=G1.mp hi;rw[h i a,L1,w9 a]at g;exact⟨_,Nn a,g⟩;rintro⟨b,hb,g⟩;obtain⟨i,hi,e⟩:=List.mem_iff_getElem.mp hb;refine⟨i,G1.mpr hi,?_⟩;rw[h i hi,L1,w9 hi,e];exact g
def Jd:C5:=λds M Q=>match ds with
 | [.ref n]=>∃s,ak M n (bls s)/\Q (.bl<|s.all id) M
 |_=>False
def Jc:C5:=λds M Q=>match ds with
 | [.ref n]=>∃s,ak M n (bls s)/\Q (.bl<|s.any id) M
 |_=>False
theorem Ms(i:X.calm=b9:=by rfl):lX X (.builtin "all") Jd:=by
 rintro p s σ H vs us R I v ⟨ds,M,ρ,Q,m,a,q,k⟩;unfold Jd at q;split at q;obtain⟨c,L,q⟩:=q
 first|have z:=Reps.inv_cons a|have z:=ay.inv_cons a
 clear a;obtain⟨_,_,rfl,l,a⟩:=z;cases a;obtain⟨u,rfl,t⟩:=ay.one v;obtain⟨_,rfl,e⟩:=u6.inv_ref l;cases t;obtain⟨y,h,r⟩:=ak.seq m L e;rw[r.bls]at h;refine call_all_walk<|w6 (ql (G:=λs'=>EP X p σ R (.bool<|c.all id) s') I i h (λs' b=>gW b m k q) _) ?_;rintro it x ⟨J,C,w,n,P,Sx,tr,t,W,st,T,⟨d,g⟩,f⟩;subst d;exact⟨J,C,w,_,P,Sx,tr,t,W,st,T,λh' o j=>by rw[CD g];exact f h' o j⟩;exact q.elim
theorem Mr(i:X.calm=b9:=by rfl):lX X (.builtin "any") Jc:=by
 rintro p s σ H vs us R I v ⟨ds,M,ρ,Q,m,a,q,k⟩;unfold Jc at q;split at q;obtain⟨c,L,q⟩:=q
 first|have z:=Reps.inv_cons a|have z:=ay.inv_cons a
 clear a;obtain⟨_,_,rfl,l,a⟩:=z;cases a;obtain⟨u,rfl,t⟩:=ay.one v;obtain⟨_,rfl,e⟩:=u6.inv_ref l;cases t;obtain⟨y,h,r⟩:=ak.seq m L e;rw[r.bls]at h;refine call_any_walk<|w6 (ql (G:=λs'=>EP X p σ R (.bool<|c.any id) s') I i h (λs' b=>gW b m k q) _) ?_;rintro it x ⟨J,C,w,n,P,Sx,tr,t,W,st,T,⟨d,g⟩,f⟩;subst d;exact⟨J,C,w,_,P,Sx,tr,t,W,st,T,λh' o j=>by rw[CA g];exact f h' o j⟩;exact q.elim
end L2
namespace L2
open PySem PySem.Spec PyProof.Rows DL _root_.HT
theorem rG{t p:d6}{i:Array c7}{l u:c7}{lo hi:Option Int}{Q:c7->f8->Prop}(B:IsTup s.heap t i)(hs:s.heap.IsSliceOf p l u .none)(f:l7 l lo)(g:l7 u hi)(d:sIx i.size 0 lo=0/\sIx i.size i.size hi=i.size) (h:Q (.ref t) s):g7 (h7 prog w) A (l8 (.ref t)<|.ref p) Q E s:=by
 obtain⟨o,b,c,e⟩:=id hs;have a:s.TypeIs (.ref p) "slice":=⟨o,b,c⟩
 unfold l8
 try with_reducible refine E4 ?_
 first|refine t6 (t8 ?_)|skip
 refine t6<|wpAny_sequenceKey B.typeIs (by decide)<|t6<|MN (name:=u3 "__getitem__") B.typeIs PM<|F9 PM B.typeIs entry_tuple_getitem ?_<|args_tuple_getitem _ _;refine(show g7 (h7 prog w) _ (RD (.ref t) >>= _) _ _ s from t6<|tupleItemsOf_ B<|t6<|NT a ?_);rw[p0<|by decide];refine t6<|fY hs f g ?_;refine(show g7 (h7 prog w) _ (if (((sIx i.size 0 lo:Nat):Int)==0&&(1:Int)==1&&(sIx i.size i.size hi-sIx i.size 0 lo)==i.size)=b9 then _ else _) _ _ s from ?_);rw[p0<|by rw[d.1,d.2];simp];unfold Builtin.Tuple.tupleIsExact;refine t6<|t6<|NT B.typeIs<|t8 ?_;rw[p0<|by decide];exact t6<|Ix<|t8 ⟨_,rfl,t8 h⟩
end L2
namespace L2
open PySem PySem.Spec PyProof.Rows DL
section
variable{X:Cx}{a b:g8}{ta tb:x6}{pos:Pos}
theorem Nc.imp(h:Nc X r')(i:∀x y H R,r x y H R->r' x y H R):Nc X r:=λa e p s σ H x y v u R I g b q hs=>h a e p s σ H x y v u R I g b (i x y H R q) hs
theorem Reps.atI{K:u9}{ρ:List d6}{H:Hp}{ds:List D}{vs:List V}{i:Int}{d:D}(r:Reps K ρ H ds vs)(h:L2.atI ds i=b7 d):∃v,L2.atI vs i=b7 v/\u6 K ρ H d v:=by
 unfold L2.atI at h ⊢;rw[r.length]at h;cases e:NB vs.length i with
 |none=>rw[e]at h;cases h
 |some j=>rw[e]at h;obtain⟨v,c,a⟩:=r.get<|show ds[j]?=b7 d from h;exact⟨v,c,a⟩
def v5:F7:=λx y M Q=>match x,y with
 |.tup xs,.int i=>match L2.atI xs i with
  |some d=>Q d M
  |none=>False
 |.str z,.int i=>z.length<=sizeLine/\match L2.atI z.cps.toList i with
  |some c=>Q (.str ⟨#[c]⟩) M
  |none=>False
 |.ref n,.int i=>∃xs,ak M n xs/\match L2.atI xs i with
  |some d=>Q d M
  |none=>False
 |_,_=>False
theorem HV:Nc X (lowR X.K v5):=by refine Nc.imp Lh ?_;rintro p s H R ⟨x,y,M,ρ,Q,m,b,f,q,k⟩;unfold v5 at q;split at q;rename_i xs i;split at q;rename_i d e;cases f;obtain⟨_,_,rfl,h,r⟩:=u6.inv_tup b;obtain⟨v,a,g⟩:=r.atI e;exact .inr<|.inl ⟨_,_,_,v,rfl,rfl,h,a,k _ H<|VQ.now m g q⟩;exact q.elim;rename_i z i;obtain⟨o,q⟩:=q;split at q;rename_i c e;cases f;cases b;exact .inr<|.inr ⟨z,i,c,rfl,rfl,o,e,k _ H<|VQ.now m (.str _) q⟩;exact q.elim;rename_i n i;obtain⟨xs,L,q⟩:=q;split at q;rename_i d e;cases f;obtain⟨_,rfl,j⟩:=u6.inv_ref b;obtain⟨vs,l,r⟩:=ak.seq m L j;obtain⟨v,a,g⟩:=r.atI e;exact .inl ⟨_,_,_,v,rfl,rfl,l,a,k _ H<|VQ.now m g q⟩;exact q.elim;exact q.elim
theorem d_ix(f:DE X a ta)(d:DE X b tb)(hs:wL b:=by intro _ _;rfl):DE X (.Subscript a b pos) (t7 v5 ta tb):=PE.imp (pe_ix HV f d hs) qX
abbrev OP:=SD->u8->(Option Int->u8->Prop)->Prop
def Kx(K:u9)(t:OP):TO:=λσ H R=>∃S M ρ Q,v9 K ρ M H/\SRep K ρ H S σ/\t S M Q/\∀o H',(∃M' ρ',v9 K ρ' M' H'/\Grow K ρ H ρ' H'/\Q o M')->R o H'
def kJ:OP:=λ_ M Q=>Q b8 M
def lV(t:x6):OP:=λS M Q=>t S M λx M1=>match x with
 |.int i=>Q (b7 i) M1
 |_=>False
theorem PO.imp(h:PO X e t')(i:∀σ H R,t σ H R->t' σ H R):PO X e t:=λp s σ H R I q=>h p s σ H R I<|i σ H R q
theorem IA:PO X b8 (Kx X.K kJ):=by refine PO.imp GM ?_;rintro σ H R ⟨S,M,ρ,Q,s,b,q,k⟩;exact k b8 H ⟨M,ρ,s,.refl,q⟩
theorem Iz(h:DE X e te):PO X (b7 e) (Kx X.K<|lV te):=by
 refine PO.imp (GL h) ?_;rintro σ H R ⟨S,M,ρ,Q,s,g,q,k⟩;refine⟨S,M,ρ,_,s,g,q,?_⟩;rintro v b ⟨d,M1,c,f,g1,r,a⟩;cases r with
 |int i=>exact⟨i,rfl,k _ b ⟨M1,c,f,g1,a⟩⟩
 |_=>exact a.elim
theorem Jy:P6 X (λx lo hi H Q=>∃z,x=.str z/\z.length<=sizeLine/\Q (.str<|L6 z lo hi) H):=by
 intro b s σ H x v w y lo hi n Q I r hs f m h;obtain⟨z,rfl,d,q⟩:=h;obtain⟨t,rfl⟩:=r;have a:∀{v:c7}{o:Option Int},l7 v o->∃p:Option (Int×Tok),v=partValue p/\p.map (·.1)=o:=λh=>by
  cases h with
  |none=>exact⟨b8,rfl,rfl⟩
  |int i t=>exact⟨b7 (i,t),rfl,rfl⟩
 obtain⟨g,rfl,e⟩:=a f;obtain⟨j,rfl,c⟩:=a m;subst e c;refine⟨"str",_,slot_str_getitem.lookup,OS _ _ _,wpAny_getItem_str_slice (l:=g) (u:=j) (st:=b8) hs rfl ?_⟩;exact post_val_or_str ⟨J1 (Txt.slice_le z _ _) d,λt' k=>⟨.str _,H,I.tok k,⟨t',rfl⟩,q⟩⟩
noncomputable def cutD(xs:List D)(lo hi:Option Int):List D:=(xs.drop<|HT.sIx xs.length 0 lo).take<|HT.sIx xs.length xs.length hi-HT.sIx xs.length 0 lo
theorem Reps.cutD{K:u9}{ρ:List d6}{H:Hp}{ds:List D}{vs:List V}(r:Reps K ρ H ds vs)(lo hi:Option Int):Reps K ρ H (L2.cutD ds lo hi) (Gb vs lo hi):=by unfold L2.cutD Gb;rw[r.length];exact(r.drop _).take _
def QN:D->Option Int->Option Int->u8->DK->Prop:=λx l hi M Q=>match x with
 |.str z=>z.length<=sizeLine/\Q (.str<|L6 z l hi) M
 |.ref n=>∃xs,ak M n xs/\Q (.ref M.length) (M++[.lst<|cutD xs l hi])
 |.tup xs=>Q (.tup<|cutD xs l hi) M
 |_=>False
def lowSl(K:u9)(r:D->Option Int->Option Int->u8->DK->Prop):V->Option Int->Option Int->Hp->VK->Prop:=λf l hi H R=>∃x M ρ Q,v9 K ρ M H/\u6 K ρ H x f/\r x l hi M Q/\∀v H',VQ K ρ H Q v H'->R v H'
theorem sld:P6 X (lowSl X.K QN):=by
 rintro b s σ H x v j o l hi i R I g hs c u ⟨d,M,ρ,Q,m,f,q,k⟩;unfold QN at q;split at q;cases f;exact Jy b s σ H _ v j o l hi i R I g hs c u ⟨_,rfl,q.1,k _ H<|VQ.now m (.str _) q.2⟩;obtain⟨xs,L,q⟩:=q;obtain⟨_,rfl,t⟩:=u6.inv_ref f;obtain⟨vs,y,r⟩:=ak.seq m L t;exact Gs b s σ H _ v j o l hi i R I g hs c u ⟨_,vs,rfl,y,λp hp=>k _ _<|VQ.laidL m .refl (r.cutD l hi) hp q⟩;obtain⟨_,_,rfl,h,r⟩:=u6.inv_tup f;rename_i xs a vs;by_cases w:HT.sIx xs.length 0 l=0/\HT.sIx xs.length xs.length hi=xs.length;cases g;obtain⟨its,z,B,A⟩:=I.tuple h;have n:its.toArray.size=xs.length:=by rw[A6,r.length];exact z.length.symm
 have e:L2.cutD xs l hi=xs:=by unfold L2.cutD;rw[w.1,w.2,List.drop_zero,Nat.sub_zero,MT]
 rw[e]at q;exact⟨"tuple",_,PM.lookup,B.typeIs,rG B hs c u (by rw[n];exact w) ⟨.ref _,H,I,rfl,k _ H<|VQ.now m (.tup h r) q⟩⟩;exact Jx b s σ H _ v j o l hi i R I g hs c u ⟨_,_,rfl,h,by rw[<-r.length];exact w,λp hp=>k _ _<|VQ.laidT m .refl (r.cutD l hi) hp q⟩;exact q.elim
def N3(te:x6)(t h:OP):x6:=λS M Q=>te S M λx M1=>t S M1 λl M2=>h S M2 λu a=>QN x l u a Q
theorem II{e:g8}{te:x6}{lo hi:Option g8}{t h:OP}{p:Pos}(j:DE X e te)(m:PO X lo (Kx X.K t))(n:PO X hi (Kx X.K h)):DE X (.Subscript e (.Slice lo hi b8 p) pos) (N3 te t h):=by refine PE.imp (Dv sld j m n) ?_;rintro σ H R ⟨S,M,ρ,Q,s,b,q,k⟩;refine⟨S,M,ρ,_,s,b,q,?_⟩;rintro v C ⟨d,M1,a,z,g1,y,o⟩;refine⟨S,M1,a,_,z,b.grow g1,o,?_⟩;rintro l D ⟨M2,f,A,c,r⟩;refine⟨S,M2,f,_,A,b.grow<|g1.trans c,r,?_⟩;rintro u E ⟨i,g,B,g3,x⟩;exact⟨d,i,g,Q,B,y.grow<|c.trans g3,x,λv H' w=>k v H'<|VQ.trans ((g1.trans c).trans g3) w⟩
def lL:F7:=λx y M Q=>match x,y with
 |.int i,.int j=>CMul i j/\Q (.int<|i*j) M
 |.str z,.int n=>(0<=n/\n<2 ^ 63/\z.length*n.toNat<=sizeLine)/\Q (.str<|Txt.mul z n) M
 |_,_=>False
theorem vZ(b:0<=n)(h:z.length*n.toNat<=sizeLine)(f:n<2 ^ 63):MulOk z n:=by
 refine⟨?_,λh1 h2=>?_,λh1 h2=>?_⟩;have a:decide (n < -(2 ^ 63:Int))=c5:=dF_ (by lia);have l:decide (n ≥ 2 ^ 63)=c5:=dF_ (by lia);rw[a,l];rfl;have c:(z.length:Int)*n<=2 ^ 24:=by
  have e:((z.length*n.toNat:Nat):Int)=(z.length:Int)*n:=by rw[Int.natCast_mul,Int.toNat_of_nonneg b]
  have h':((z.length*n.toNat:Nat):Int)<=(2 ^ 24:Nat):=Int.ofNat_le.mpr h;rw[e]at h';exact h'
 have s:0<n:=by lia
 intro t;have:=Int.lt_of_lt_of_le (Int.lt_mul_of_ediv_lt s t) c;lia;unfold PySem.Builtin.Str.tooLong;simpa using h
theorem Hc:G8 X (j5 .Mult) lL:=by
 rintro p s σ H f b v u R I g i ⟨x,y,M,ρ,Q,m,r,a,q,k⟩;unfold lL at q;split at q;cases r;cases a;exact Kh p s σ H _ _ v u R I g i ⟨_,_,rfl,rfl,q.1,k _ H<|VQ.now m (.int _) q.2⟩;rename_i z n;cases r;cases a;obtain⟨t,rfl⟩:=g;obtain⟨t',rfl⟩:=i;obtain⟨⟨h,h2,h1⟩,q⟩:=q;exact PySem.SB.mul (vZ h h1 h2) λt' j=>⟨.str _,H,I.tok j,⟨t',rfl⟩,k _ H<|VQ.now m (.str _) q⟩
 exact q.elim
variable{o e:g8}{es:List g8}{to:x6}{t:F5}{name:c8}{apos cpos:Pos}{id:String}
def AW(K:u9)(r:c8->C5):V->List V->Hp->VK->Prop:=λf vs H R=>∃z ds M ρ Q,f=.str z/\v9 K ρ M H/\Reps K ρ H ds vs/\r z ds M Q/\∀v H',VQ K ρ H Q v H'->R v H'
def iI(K:u9)(r:Nat->C5):V->List V->Hp->VK->Prop:=λf vs H R=>∃n a ds M ρ Q,f=.ref a/\ρ[n]?=b7 a/\v9 K ρ M H/\Reps K ρ H ds vs/\r n ds M Q/\∀v H',VQ K ρ H Q v H'->R v H'
def Pd(r:c8->C5)(e:x6)(t:F5):x6:=λS M Q=>e S M λx M1=>match x with
 |.str z=>t S M1 λds M2=>r z ds M2 Q
 |_=>False
def MV(r:Nat->C5)(e:x6)(t:F5):x6:=λS M Q=>e S M λx M1=>match x with
 |.ref n=>(∃xs,ak M1 n xs)/\t S M1 λds M2=>r n ds M2 Q
 |_=>False
theorem d_ms(slot:Slot "str" name id)(y:m5 (.builtin id)=pure (.type "method_descriptor"))(m:G9 X id (AW X.K r))(p:DE X o to)(l:DA X (e::es) t)(h:m6 o name X.env (eval o X.env)=eval o X.env:=by rfl)(b:((i3 cpos<|i4 (e::es) X.env).all (λx=>!x.1)&&(m7 cpos<|m8 [] X.env).all (λx=>x.1.isSome) && decide ((e::es).length+([]:List m9).length+(if ([]:List m9).isEmpty then 0 else 1)<30))=b9:=by rfl)(a:(apos.endLine==cpos.line)=b9:=by rfl) (hs:i4 (e::es) X.env=(c5,eval e X.env)::i4 es X.env:=by rfl) (n:(i3 cpos<|i4 es X.env).any (·.1)=c5:=by rfl):DE X (.Call (.Attribute o name apos) (e::es) [] cpos) (Pd r to t):=by
 refine PE.imp (Ka PySem.F.plainAttrs_str slot y m p l h b a hs n) ?_;rintro σ H R ⟨S,M,ρ,Q,s,i,q,k⟩;refine⟨S,M,ρ,_,s,i,q,?_⟩;rintro v E ⟨d,M1,c,C,g1,A,g⟩;cases A with
 |str z=>exact⟨rfl,S,M1,c,_,C,i.grow g1,g,λvs G ⟨ds,M2,f,D,j,B,u⟩=>⟨z,ds,M2,f,Q,rfl,D,B,u,λv H' w=>k v H'<|VQ.trans (g1.trans j) w⟩⟩
 |_=>exact g.elim
theorem d_ml(slot:Slot "list" name id)(y:m5 (.builtin id)=pure (.type "method_descriptor"))(A:G9 X id (iI X.K r))(B:DE X o to)(z:DA X (e::es) t)(b:m6 o name X.env (eval o X.env)=eval o X.env:=by rfl)(f:((i3 cpos<|i4 (e::es) X.env).all (λx=>!x.1)&&(m7 cpos<|m8 [] X.env).all (λx=>x.1.isSome) && decide ((e::es).length+([]:List m9).length+(if ([]:List m9).isEmpty then 0 else 1)<30))=b9:=by rfl)(c:(apos.endLine==cpos.line)=b9:=by rfl) (hs:i4 (e::es) X.env=(c5,eval e X.env)::i4 es X.env:=by rfl) (h:(i3 cpos<|i4 es X.env).any (·.1)=c5:=by rfl):DE X (.Call (.Attribute o name apos) (e::es) [] cpos) (MV r to t):=by
 refine PE.imp (Ka PySem.F.plainAttrs_list slot y A B z b f c hs h) ?_;rintro σ H R ⟨S,M,ρ,Q,s,u,q,k⟩;refine⟨S,M,ρ,_,s,u,q,?_⟩;rintro v J ⟨d,M1,i,p,g1,E,g⟩;cases E with
 |@ref n a m =>
  obtain⟨⟨xs,L⟩,g⟩:=(show (∃xs,ak M1 n xs)/\t S M1 _ from g)
  obtain⟨vs,C,_⟩:=ak.seq p L m;refine⟨.inl ⟨rfl,vs,C⟩,S,M1,i,_,p,u.grow g1,g,?_⟩;rintro vs N ⟨ds,M2,j,I,l,G,D⟩;exact⟨n,a,ds,M2,j,Q,rfl,ao l.pre m,I,G,D,λv H' w=>k v H'<|VQ.trans (g1.trans l) w⟩
 |_=>exact g.elim
def bR(n:Nat):C5:=λds M Q=>match ds with
 | [d]=>∃xs,M[n]?=b7 (.lst xs)/\xs.length<sizeLine/\Q .non (M.set n<|.lst<|xs++[d])
 |_=>False
theorem yQ:G9 X "list.append" (iI X.K bR):=by
 rintro p s σ H x xs v us R I l j ⟨n,a,ds,M,ρ,Q,c,b,m,f,q,k⟩;unfold bR at q;split at q;rename_i d;obtain⟨ys,e,g,q⟩:=q
 first|have z:=Reps.inv_cons f|have z:=ay.inv_cons f
 clear f;obtain⟨_,_,rfl,i,f⟩:=z;cases f;obtain⟨vs,h,r⟩:=m.obj n a _ b e;obtain⟨w,o⟩:=m.write b e h<|r.append<|.cons i .nil;exact AU p s σ H x _ v us R I l j ⟨a,vs,_,c,rfl,h,by rw[<-r.length];exact g,k _ _ ⟨.non,_,ρ,w,o,.non,q⟩⟩;exact q.elim
end
def cz(K:u9)(mg:c8->Option c7)(x:c8)(st:i5)(ps:List c8):Prop:=∃f d,Nu K x x st f d/\mg x=b7 (.ref f)/\ve K d ps []
def v8(P:d5)(w:c9)(K:u9)(mg:c8->Option c7)(base:d8)(k:Nat)(x:c8)(ps:List c8)(c:A0):Prop:=∃f d,FnOk P w K mg base L5 k f d ps (Nq K c)/\mg x=b7 (.ref f)/\Ox K (.ref f)=b9/\ve K d ps []
theorem fnat_mk{K:u9}{h:d8}{mg:c8->Option c7}{x:c8}{st:i5}{ps:List c8}{f:d6}{b:c7}{j M:Option d6}{o:Array (Option c7)}{kV i U v R:c7}(X:K.In h) (G:h.Ns e8 mg) (a:PySem.W.nsIn K e8 x=b7 (b7<|.ref f))(l:K.lookup f=b7 ⟨b,j,.func<|N6 x x (jr st) (cq st) (aC st) .none kV i U M v R,o⟩)(c:Q0 K v x=b9) (k:Ox K (.ref f)=b9)(h:∀(kV i U:c7) (M:Option d6) (v R:c7) (us:List c7),us.length=ps.length->bindArgs (N6 x x (jr st) (cq st) (aC st) .none kV i U M v R) ⟨us,[]⟩=pure (ps.zip us)):cz K mg x st ps:=have F:=LB (st:=st) l c k
 ⟨f,_,F,PySem.W.mg_of X G a,F.binds h⟩
theorem v8.of{P:d5}{w:c9}{K:u9}{mg:c8->Option c7}{base:d8}{x:c8}{st:i5}{N ps:List c8}{k:Nat}{c:A0}(F:cz K mg x st ps)(e:FnScope N ps (aC st))(B:∀ds M R,c ds M R->ds.length=ps.length) {t:u4}(r:∀(f:d6) (cdv:c7) (A:f7) (outer:List Env) (s:f8) (H:Hp) (E:XK),Room k (A.deeper<|k9 x (aC st) s.heap.objs.size f cdv)->ND (zv L5 P w K mg base N x (aC st) f cdv A outer s H E).nox (cq st) t)(p:∀ds M R,c ds M R->t ⟨λ_ M'=>aY M R .non M',aY M R,λ_ _=>False,λ_ _=>False⟩ (eR N ds) M):v8 P w K mg base (k+1) x ps c:=by obtain⟨f,d,a,m,b⟩:=F;exact⟨f,d,d_fn c a e B λcdv A outer s H E i=>⟨t,r f cdv A outer s H E i,p⟩,m,a.kp,b⟩
theorem Il{P:d5}{w:c9}{K:u9}{mg:c8->Option c7}{base:d8}{x:c8}{st:i5}{N ps:List c8}{k:Nat}{c:A0}{f:d6}{d:j9}(F:Nu K x x st f d)(e:FnScope N ps (aC st))(B:∀ds M R,c ds M R->ds.length=ps.length) {t:u4}(r:∀(f:d6) (cdv:c7) (A:f7) (outer:List Env) (s:f8) (H:Hp) (E:XK),Room k (A.deeper<|k9 x (aC st) s.heap.objs.size f cdv)->ND (zv L5 P w K mg base N x (aC st) f cdv A outer s H E).nox (cq st) t)(p:∀ds M R,c ds M R->t ⟨λ_ M'=>aY M R .non M',aY M R,λ_ _=>False,λ_ _=>False⟩ (eR N ds) M):FnOk P w K mg base L5 (k+1) f d ps (Nq K c):=d_fn c F e B λcdv A outer s H E i=>⟨t,r f cdv A outer s H E i,p⟩
theorem d_cal(C:v8 X.prog X.w X.K X.mg X.base j x ps P)(r:Room k X.A)(a:DA X (e::es) t)(hj:j<=k:=by decide)(R:Gl X x:=by rfl) (b:(x==("__debug__":c8))=c5:=by decide) (i:i4 (e::es) X.env=(c5,eval e X.env)::i4 es X.env:=by rfl) (l:(i3 pos<|i4 es X.env).any (·.1)=c5:=by rfl):DE X (.Call (.Name x p) (e::es) [] pos) (u5 P t):=by obtain⟨f,c,F,m,h,d⟩:=C;exact Ml F (r.mono hj) m h d a R b i l
def Hq:A0:=λds M R=>∃(ns:List Int) (m:MO),ns.length<=63/\(m.items=ns.map D.int/\m.isL=b9)/\ds=[.ref 0]/\M=[m]/\∀M',R (.bl b9) M'
theorem uj(h:M[n]?=b7 mo)(g:mo.isL=b9):ak M n mo.items:=by
 cases mo with
 |lst xs=>exact .inl h
 |fz xs=>exact .inr<|.inl h
 |kl xs=>exact .inr<|.inr h
 |dct xs=>cases g
 |dkt xs=>cases g
 |dkq _ xs=>cases g
 |fdc o xs=>cases g
 |dkm xs=>cases g
 |tb x b=>cases g
 |exc x=>cases g
theorem jK{K:u9}{ρ:List d6}{H:Hp}:∀(ns:List Int),Reps K ρ H (ns.map D.int) (ns.map V.int)
 | []=>.nil
 |n::ns=>.cons (.int n)<|jK ns
theorem yY{K:u9}{H:Hp}{a:d6}{ns:List Int}(g:ns.length<=63)(S:G6 K H a (ns.map V.int)):Nq K Hq [.ref a] H (λv _=>v=.bl b9) λ_ _ _=>False:=by
 have c:∀{mo:MO},mo.items=ns.map D.int/\mo.isL=b9->zw K [a] H a mo->Nq K Hq [.ref a] H (λv _=>v=.bl b9) λ_ _ _=>False:=λ{mo} e ok=>by refine⟨[.ref 0],[mo],[a],λd _=>d=.bl b9,⟨λn m b f t l=>?_,rfl,λn b i t l=>?_⟩,.cons (.ref rfl) .nil,⟨ns,mo,g,e,rfl,rfl,λ_=>rfl⟩,λv H' ⟨d,M',ρ',_,_,r,q⟩=>?_⟩;have h1:=(z9.mp t).1;have h2:=(z9.mp l).1;simp at h1 h2;lia;have h1:=(z9.mp t).1;simp at h1;subst h1;simp at t l;subst t l;exact ok;have j:d=.bl b9:=q;subst j;cases r;rfl
 rcases S with(h|⟨o,h⟩)|h;exact c (mo:=.lst _) ⟨rfl,rfl⟩ ⟨_,h,jK ns⟩;exact c (mo:=.fz _) ⟨rfl,rfl⟩ ⟨o,_,h,jK ns⟩;exact c (mo:=.kl _) ⟨rfl,rfl⟩ ⟨_,h,jK ns⟩
theorem law_walk{l:PySem.W.OpenLaw}{q:d5}{b:List c8}{P:(c8->Option c7)->d8->Prop}{YP:c9->d8->Prop}{d:DefRec}{K:Params->u9}{k:Nat}{st:i5}{x:c8}(y:l.most=b7 63)(i:d.params.defaults=[])(p:d.name = "law")(A:Room k callerA)(D:∀(w:c9) (h:d8),YP w h->(K w.params).In h)(F:∀(w:c9) (mg:c8->Option c7) (h:d8),(K w.params).In h->h.Ns e8 mg->cz (K w.params) mg "law" st [x] /\ ∀(base:d8) (f:d6) (fd:j9),Nu (K w.params) "law" "law" st f fd->FnOk l.prog w (K w.params) mg base L5 k f fd [x] (Nq (K w.params) Hq))(m:∀(kV doc pm:c7) (an:Option d6) (cdv ct:c7) (u:c7),bindArgs (N6 "law" "law" (jr st) (cq st) (aC st) .none kV doc pm an cdv ct) ⟨[u],[]⟩=pure [(x,u)]):PySem.W.WalkO q b P YP l.row.toRowW d [] (λf vs=>PySem.call f vs):=by refine L2.walk_of (n:=63) (k:=k) (x:=x) (CX:=λ_=>L5) (sp:=λw=>Nq (K w.params) Hq) y (by decide) i A D (λw mg I h X G g=>?_) (λw H a ns r _ S=>yY r S) λ_ _ _ _ _ z=>z;rw[p]at g;obtain⟨⟨f,fd,c,t,_⟩,C⟩:=F w mg h X G;have e:=g.symm.trans t;cases e;have j:=λbase=>C base _ _ c;obtain⟨J,L,kV,doc,pm,an,cdv,ct,B,rfl,E,o⟩:=id c.ex;exact⟨_,λs v=>.of_eq<|m kV doc pm an cdv ct v,λbase _ _=>j base⟩
noncomputable def qm(m:List (c8×k7))(N N':List c8)(t:Nat)(s:List Nat)(c:f9):Bool:=c.kind==.function&&c.names.all (λy=>y.2 != .cell&&(y.2 != .local||c.names.lookup y.1==b7 .local)&&(y.2 != .free||(m.lookup y.1==b7 .cell||m.lookup y.1==b7 .free))) &&
 N'.length==t+s.length&&(C2 s.length).all λk=>match s[k]?,N'[t+k]? with
  |some j,b7 x=>N[j]?==b7 x&&c.names.lookup x==b7 .free&&(m.lookup x==b7 .cell||m.lookup x==b7 .free)
  |_,_=>c5
theorem BlkSc.chk(h:qm X.env.scope.names X.N N' nt js scope=b9):BlkSc X N' nt js scope:=by
 unfold qm at h;simp only[D9,F0,p8,Q7,bne_iff_ne]at h;obtain⟨⟨⟨h1,h2⟩,a⟩,d⟩:=h;refine⟨h1,λy O=>(h2 y O).1.1,λy O e=>((h2 y O).1.2.resolve_left<|λz=>z e),λy O e=>((h2 y O).2.resolve_left<|λz=>z e),a,λk j e=>?_⟩;have b:k<js.length:=(z9.mp e).1;have q:=d k<|G1.mpr b;rw[e]at q;cases f:N'[nt+k]? with
 |none=>rw[f]at q;exact p5 q<|by simp
 |some x=>rw[f]at q;simp only[D9,p8,Q7]at q;exact⟨x,rfl,q.1.1,q.1.2,q.2⟩
noncomputable def D6(f:D->D->Bool):List D->List D->Bool
 | [],[]=>b9
 |x::xs,y::ys=>f x y&&D6 f xs ys
 |_,_=>c5
noncomputable def u7(M:u8):Nat->D->D->Bool
 |_,.non,.non=>b9
 |_,.bl a,.bl b=>a==b
 |_,.bl a,.int b=>(if a then 1 else 0)==b
 |_,.int a,.bl b=>a==(if b then 1 else 0)
 |_,.int a,.int b=>a==b
 |_,.str a,.str b=>a==b
 |n+1,.tup xs,.tup ys=>D6 (u7 M n) xs ys
 |n+1,.ref i,.ref j=>match M[i]?,M[j]? with
  |some a,b7 b=>D6 (u7 M n) a.items b.items
  |_,_=>c5
 |_,_,_=>c5
noncomputable def v7(M:u8):Nat->D->Bool
 |_,.ty _=>c5
 |n+1,.tup xs=>xs.all<|v7 M n
 |n+1,.ref i=>match M[i]? with
  |some a=>a.isL&&a.items.all (v7 M n)
  |none=>c5
 | 0,.tup _=>c5
 | 0,.ref _=>c5
 |_,_=>b9
theorem BT:∀{xs ys:List D},D6 f xs ys=b9->xs.length=ys.length
 | [],[],_=>rfl
 | [],_::_,h=>by simp[D6]at h
 |_::_,[],h=>by simp[D6]at h
 |x::xs,y::ys,h=>by simp only[D6,D9]at h;rw[D4,D4,BT h.2]
theorem CC(n:Nat)(e:Nat->Bool):(C2<|n+1).all e=(e 0&&(C2 n).all λj=>e<|j+1):=by rw[List.range_succ_eq_map,MX,List.all_map];rfl
theorem oh:∀{xs ys:List D}{e:Nat->Bool},xs.length=ys.length->(∀(j:Nat) x y,xs[j]?=b7 x->ys[j]?=b7 y->e j=f x y)->(C2 xs.length).all e=D6 f xs ys
 | [],[],e,_,_=>by simp[D6]
 | [],_::_,_,h,_=>by simp at h
 |_::_,[],_,h,_=>by simp at h
 |x::xs,y::ys,e,h,he=>by rw[D4,CC,D6,he 0 x y rfl rfl,oh (by simpa using h) λj x' y' h1 h2=>he (j+1) x' y' (by simpa using h1)<|by simpa using h2]
theorem BS(h:xs.length≠ys.length):D6 f xs ys=c5:=by
 cases q:D6 f xs ys with
 |false=>rfl
 |true=>exact p5 (BT q) h
theorem jz{vs:List V}{us:List c7}(h:ay vs us){j:Nat}{v:V}(e:vs[j]?=b7 v):∃u,us[j]?=b7 u/\aK v u:=by
 induction h generalizing j with
 |nil=>simp at e
 |cons r _ i =>
  cases j with
  |zero=>simp at e;subst e;exact⟨_,rfl,r⟩
  |succ j=>exact i<|by simpa using e
section
variable{X:Cx}{pins:List (d6×d7)}{σ:St}{H:Hp}{s:f8}{ρ:List d6}{M:u8}
theorem np(I:t9 X pins σ H s)(m:v9 X.K ρ M H){i:Nat}{a:d6}{mo:MO}(e:ρ[i]?=b7 a)(d:M[i]?=b7 mo)(g:mo.isL=b9):∃vs its,G6 X.K H a vs/\Reps X.K ρ H mo.items vs/\ay vs its/\PlainL s.heap a its.toArray:=by obtain⟨vs,q,r⟩:=ak.seq m (uj d g) e;obtain⟨its,f,l,_⟩:=I.list q;exact⟨vs,its,q,r,f,l⟩
theorem eO(d:M[i]?=b7 mo)(o:v7 M (n+1) (.ref i)=b9):mo.isL=b9/\mo.items.all (v7 M n)=b9:=by have o':(match M[i]? with|some a=>a.isL&&a.items.all (v7 M n)|none=>c5)=b9:=o;rw[d]at o';exact(D9 _ _).mp o'
theorem ET(I:t9 X pins σ H s)(m:v9 X.K ρ M H):∀(n:Nat) (x y:D) (v:V),u6 X.K ρ H x v->u6 X.K ρ H y v->v7 M n x=b9->v7 M n y=b9->u7 M n x y=b9:=by
 have l:∀(n:Nat),(∀(x y:D) (v:V),u6 X.K ρ H x v->u6 X.K ρ H y v->v7 M n x=b9->v7 M n y=b9->u7 M n x y=b9) -> ∀(xs ys:List D) (vs:List V),Reps X.K ρ H xs vs->Reps X.K ρ H ys vs->xs.all (v7 M n)=b9->ys.all (v7 M n)=b9->D6 (u7 M n) xs ys=b9:=by
  intro n t xs;induction xs with
  |nil=>intro ys vs h1 h2 _ _;cases h1;cases h2;rfl
  |cons x xs hi =>
   intro ys vs h1 h2 o1 o2;cases h1 with
   |cons J P =>
    cases h2 with
    |cons N Q=>rw[MX,D9]at o1 o2;rw[D6,t _ _ _ J N o1.1 o2.1,hi _ _ P Q o1.2 o2.2];rfl
 intro n;induction n with
 |zero=>intro x y v h1 h2 o1 o2;cases h1<;>cases h2<;>first|(simp[v7]at o1;done)|rfl|simp[u7]
 |succ n t =>
  intro x y v h1 h2 o1 o2;cases h1 with
  |non=>cases h2;rfl
  |bl b=>cases h2;simp[u7]
  |int b=>cases h2;simp[u7]
  |str b=>cases h2;simp[u7]
  |ty b=>simp[v7]at o1
  |@tup a vs ds q r =>
   cases h2 with
   |tup h r'=>have e:=I.tuple_inj q h;subst e;exact l n t _ _ _ r r' (by simpa [v7]using o1)<|by simpa [v7]using o2
   |@ref i _ e =>
    exfalso;obtain⟨its,_,⟨o,u,w,_⟩,_⟩:=I.tuple q;have hi:i<M.length:=by rw[<-m.len];exact(z9.mp e).1
    obtain⟨k,d,_,_,_,⟨o',E,f,g,_⟩⟩:=np I m e (w9 hi) (eO (w9 hi) o2).1;rw[u]at f;cases f;rw[w]at g;injection g with f3;exact p5 f3<|by decide
  |@ref i a e =>
   have hi:i<M.length:=by rw[<-m.len];exact(z9.mp e).1
   have p:=w9 hi;obtain⟨vs,its,q,r,R,F⟩:=np I m e p (eO p o1).1;cases h2 with
   |tup h r'=>exfalso;obtain⟨d,_,⟨o,u,w,_⟩,_⟩:=I.tuple h;obtain⟨o',E,f,g,_⟩:=F;rw[u]at f;cases f;rw[w]at g;injection g with f3;exact p5 f3<|by decide
   |@ref j _ B =>
    have L:j<M.length:=by rw[<-m.len];exact(z9.mp B).1
    have c:=w9 L;obtain⟨k,d,h,r',O,G⟩:=np I m B c (eO c o2).1;have C:vs=k:=I.list_inj q h;subst C;have z:=(eO p o1).2;have A:=(eO c o2).2;simp only[u7,p,c];exact l n t _ _ _ r r' z A
theorem lD(I:t9 X pins σ H s)(sm:v9 X.K ρ M H):∀(n:Nat) (A:f7) (x y:D) (vx vy:V) (u v:c7),A.units+n<j8->u6 X.K ρ H x vx->aK vx u->u6 X.K ρ H y vy->aK vy v->v7 M n x=b9->v7 M n y=b9 ->Nf A s u v (u7 M n x y)/\SeqAt.RcAt A s u v (u7 M n x y)/\SeqAt.RcNeAt A s u v (!u7 M n x y):=by
 intro n;induction n with
 |zero =>
  intro A x y vx vy u v hu R w o l o1 o2;cases R with
  |ty b=>simp[v7]at o1
  |tup b=>simp[v7]at o1
  |ref b=>simp[v7]at o1
  |non =>
   cases w;cases o with
   |ty b=>simp[v7]at o2
   |tup b=>simp[v7]at o2
   |ref b=>simp[v7]at o2
   |non=>cases l;exact⟨Q6 _,SeqAt.RcAt.none_none,SeqAt.RcNeAt.none_none⟩
   |bl b=>cases l;exact⟨SeqAt.EqAt.none_bool _,SeqAt.RcAt.none_bool _,SeqAt.RcNeAt.none_bool _⟩
   |int b=>obtain⟨t,rfl⟩:=l;exact⟨SeqAt.EqAt.none_int _ _,SeqAt.RcAt.none_int _ _,SeqAt.RcNeAt.none_int _ _⟩
   |str b=>obtain⟨t,rfl⟩:=l;exact⟨SeqAt.EqAt.none_str _ _,SeqAt.RcAt.none_str _ _,SeqAt.RcNeAt.none_str _ _⟩
  |bl a =>
   cases w;cases o with
   |ty b=>simp[v7]at o2
   |tup b=>simp[v7]at o2
   |ref b=>simp[v7]at o2
   |non=>cases l;exact⟨SeqAt.EqAt.bool_none _,SeqAt.RcAt.bool_none _,SeqAt.RcNeAt.bool_none _⟩
   |bl b=>cases l;exact⟨SeqAt.EqAt.bool_bool _ _,SeqAt.RcAt.bool_bool _ _,SeqAt.RcNeAt.bool_bool _ _⟩
   |int b=>obtain⟨t,rfl⟩:=l;exact⟨SeqAt.EqAt.bool_int _ _ _,SeqAt.RcAt.bool_int _ _ _,SeqAt.RcNeAt.bool_int _ _ _⟩
   |str b=>obtain⟨t,rfl⟩:=l;exact⟨SeqAt.EqAt.bool_str _ _ _,SeqAt.RcAt.bool_str _ _ _,SeqAt.RcNeAt.bool_str _ _ _⟩
  |int a =>
   obtain⟨t0,rfl⟩:=w;cases o with
   |ty b=>simp[v7]at o2
   |tup b=>simp[v7]at o2
   |ref b=>simp[v7]at o2
   |non=>cases l;exact⟨SeqAt.EqAt.int_none _ _,SeqAt.RcAt.int_none _ _,SeqAt.RcNeAt.int_none _ _⟩
   |bl b=>cases l;exact⟨SeqAt.EqAt.int_bool _ _ _,SeqAt.RcAt.int_bool _ _ _,SeqAt.RcNeAt.int_bool _ _ _⟩
   |int b=>obtain⟨t,rfl⟩:=l;exact⟨Ro _ _ _ _,SeqAt.RcAt.int_int _ _ _ _,SeqAt.RcNeAt.int_int _ _ _ _⟩
   |str b=>obtain⟨t,rfl⟩:=l;exact⟨QA _ _ _ _,SeqAt.RcAt.int_str _ _ _ _,SeqAt.RcNeAt.int_str _ _ _ _⟩
  |str a =>
   obtain⟨t0,rfl⟩:=w;cases o with
   |ty b=>simp[v7]at o2
   |tup b=>simp[v7]at o2
   |ref b=>simp[v7]at o2
   |non=>cases l;exact⟨SeqAt.EqAt.str_none _ _,SeqAt.RcAt.str_none _ _,SeqAt.RcNeAt.str_none _ _⟩
   |bl b=>cases l;exact⟨SeqAt.EqAt.str_bool _ _ _,SeqAt.RcAt.str_bool _ _ _,SeqAt.RcNeAt.str_bool _ _ _⟩
   |int b=>obtain⟨t,rfl⟩:=l;exact⟨Qz _ _ _ _,SeqAt.RcAt.str_int _ _ _ _,SeqAt.RcNeAt.str_int _ _ _ _⟩
   |str b=>obtain⟨t,rfl⟩:=l;exact⟨Rn _ _ _ _,SeqAt.RcAt.str_str _ _ _ _,SeqAt.RcNeAt.str_str _ _ _ _⟩
 |succ n ih =>
  intro A x y vx vy u v hu R w o l o1 o2;have c:A.units<j8:=by lia
  have ai:A.in1.units+n<j8:=by show A.units+1+n<j8;lia
  -- what a list or a tuple is,as the heap has it
  have tupAt:∀{a:d6}{vs:List V}{ds:List D},B7 X.K H a vs->Reps X.K ρ H ds vs->∃its:List c7,ay vs its/\s.heap.IsTuple a its.toArray/\ds.length=its.length:=λ{a vs ds} q r=>by obtain⟨its,m,d,_⟩:=I.tuple q;exact⟨its,m,d,r.length.trans m.length⟩
  have lstAt:∀{i:Nat}{a:d6},ρ[i]?=b7 a->v7 M (n+1) (.ref i)=b9->∃p,M[i]?=b7 p/\∃vs its,Reps X.K ρ H p.items vs/\ay vs its/\s.heap.IsList a its.toArray/\p.items.length=its.length:=λ{i a} e ok=>by
   have hi:i<M.length:=by rw[<-sm.len];exact(z9.mp e).1
   have z:=w9 hi;obtain⟨vs,its,q,r,m,d⟩:=np I sm e z (eO z ok).1;exact⟨_,z,vs,its,r,m,d.isList,r.length.trans m.length⟩
  have g:∀{xs ys:List D}{vs Y:List V}{its f:List c7},Reps X.K ρ H xs vs->ay vs its->Reps X.K ρ H ys Y->ay Y f->xs.all (v7 M n)=b9->ys.all (v7 M n)=b9 -> ∀(j:Nat) (h1:j<its.toArray.size) (h2:j<f.toArray.size),Nf A.in1 s its.toArray[j] f.toArray[j] (u7 M n (xs.getD j .non)<|ys.getD j .non):=λ{xs ys vs Y its f} R q1 o q2 o1 o2 j h1 h2=>by
   have l1:j<xs.length:=by rw[R.length,q1.length];simpa using h1
   have l2:j<ys.length:=by rw[o.length,q2.length];simpa using h2
   obtain⟨v1,g1,p1⟩:=R.get<|w9 l1;obtain⟨v2,g2,p2⟩:=o.get<|w9 l2;obtain⟨u1,k1,m1⟩:=jz q1 g1;obtain⟨u2,k2,m2⟩:=jz q2 g2;have z1:its.toArray[j]=u1:=by have:=(z9.mp k1).2;simpa using this
   have z2:f.toArray[j]=u2:=by have:=(z9.mp k2).2;simpa using this
   rw[z1,z2];have y1:xs.getD j .non=xs[j]:=by simp[OQ,w9 l1]
   have y2:ys.getD j .non=ys[j]:=by simp[OQ,w9 l2]
   rw[y1,y2];exact(ih A.in1 _ _ _ _ _ _ ai p1 m1 p2 m2 (F0.mp o1 _<|Nn l1)<|F0.mp o2 _<|Nn l2).1
  have W:∀(xs ys:List D),xs.length=ys.length->(C2 xs.length).all (λj=>u7 M n (xs.getD j .non)<|ys.getD j .non)=D6 (u7 M n) xs ys:=λxs ys h=>oh h λj x y h1 h2=>by simp[OQ,h1,h2]
  have N:∀{a b:d6}{k:Bool},u6 X.K ρ H x (.ref a)->u6 X.K ρ H y (.ref b)->u7 M (n+1) x y=k->SeqAt.RcAt A s (.ref a) (.ref b) k->SeqAt.RcNeAt A s (.ref a) (.ref b) (!k) -> Nf A s (.ref a) (.ref b) (u7 M (n+1) x y)/\SeqAt.RcAt A s (.ref a) (.ref b) (u7 M (n+1) x y)/\SeqAt.RcNeAt A s (.ref a) (.ref b) (!u7 M (n+1) x y):=λ{a b k} p1 p2 Z h1 h2=>by subst Z;refine⟨?_,h1,h2⟩;by_cases S:a=b;subst S;rw[ET I sm (n+1) x y _ p1 p2 o1 o2];exact Q6 _;exact SeqAt.EqAt.of_refs S h1
  cases R with
  |ty b=>simp[v7]at o1
  |non =>
   cases w;cases o with
   |ty b=>simp[v7]at o2
   |tup q r=>cases l;obtain⟨its,m,d,_⟩:=tupAt q r;exact⟨SeqAt.EqAt.none_tuple d c,SeqAt.RcAt.none_tuple d c,SeqAt.RcNeAt.none_tuple d c⟩
   |ref e=>cases l;obtain⟨p,z,vs,its,r,m,d,_⟩:=lstAt e o2;exact⟨SeqAt.EqAt.none_list d c,SeqAt.RcAt.none_list d c,SeqAt.RcNeAt.none_list d c⟩
   |non=>cases l;exact⟨Q6 _,SeqAt.RcAt.none_none,SeqAt.RcNeAt.none_none⟩
   |bl b=>cases l;exact⟨SeqAt.EqAt.none_bool _,SeqAt.RcAt.none_bool _,SeqAt.RcNeAt.none_bool _⟩
   |int b=>obtain⟨t,rfl⟩:=l;exact⟨SeqAt.EqAt.none_int _ _,SeqAt.RcAt.none_int _ _,SeqAt.RcNeAt.none_int _ _⟩
   |str b=>obtain⟨t,rfl⟩:=l;exact⟨SeqAt.EqAt.none_str _ _,SeqAt.RcAt.none_str _ _,SeqAt.RcNeAt.none_str _ _⟩
  |bl a =>
   cases w;cases o with
   |ty b=>simp[v7]at o2
   |tup q r=>cases l;obtain⟨its,m,d,_⟩:=tupAt q r;exact⟨SeqAt.EqAt.bool_tuple _ d c,SeqAt.RcAt.bool_tuple _ d c,SeqAt.RcNeAt.bool_tuple _ d c⟩
   |ref e=>cases l;obtain⟨p,z,vs,its,r,m,d,_⟩:=lstAt e o2;exact⟨SeqAt.EqAt.bool_list _ d c,SeqAt.RcAt.bool_list _ d c,SeqAt.RcNeAt.bool_list _ d c⟩
   |non=>cases l;exact⟨SeqAt.EqAt.bool_none _,SeqAt.RcAt.bool_none _,SeqAt.RcNeAt.bool_none _⟩
   |bl b=>cases l;exact⟨SeqAt.EqAt.bool_bool _ _,SeqAt.RcAt.bool_bool _ _,SeqAt.RcNeAt.bool_bool _ _⟩
   |int b=>obtain⟨t,rfl⟩:=l;exact⟨SeqAt.EqAt.bool_int _ _ _,SeqAt.RcAt.bool_int _ _ _,SeqAt.RcNeAt.bool_int _ _ _⟩
   |str b=>obtain⟨t,rfl⟩:=l;exact⟨SeqAt.EqAt.bool_str _ _ _,SeqAt.RcAt.bool_str _ _ _,SeqAt.RcNeAt.bool_str _ _ _⟩
  |int a =>
   obtain⟨t0,rfl⟩:=w;cases o with
   |ty b=>simp[v7]at o2
   |tup q r=>cases l;obtain⟨its,m,d,_⟩:=tupAt q r;exact⟨SeqAt.EqAt.int_tuple _ _ d c,SeqAt.RcAt.int_tuple _ _ d c,SeqAt.RcNeAt.int_tuple _ _ d c⟩
   |ref e=>cases l;obtain⟨p,z,vs,its,r,m,d,_⟩:=lstAt e o2;exact⟨SeqAt.EqAt.int_list _ _ d c,SeqAt.RcAt.int_list _ _ d c,SeqAt.RcNeAt.int_list _ _ d c⟩
   |non=>cases l;exact⟨SeqAt.EqAt.int_none _ _,SeqAt.RcAt.int_none _ _,SeqAt.RcNeAt.int_none _ _⟩
   |bl b=>cases l;exact⟨SeqAt.EqAt.int_bool _ _ _,SeqAt.RcAt.int_bool _ _ _,SeqAt.RcNeAt.int_bool _ _ _⟩
   |int b=>obtain⟨t,rfl⟩:=l;exact⟨Ro _ _ _ _,SeqAt.RcAt.int_int _ _ _ _,SeqAt.RcNeAt.int_int _ _ _ _⟩
   |str b=>obtain⟨t,rfl⟩:=l;exact⟨QA _ _ _ _,SeqAt.RcAt.int_str _ _ _ _,SeqAt.RcNeAt.int_str _ _ _ _⟩
  |str a =>
   obtain⟨t0,rfl⟩:=w;cases o with
   |ty b=>simp[v7]at o2
   |tup q r=>cases l;obtain⟨its,m,d,_⟩:=tupAt q r;exact⟨SeqAt.EqAt.str_tuple _ _ d c,SeqAt.RcAt.str_tuple _ _ d c,SeqAt.RcNeAt.str_tuple _ _ d c⟩
   |ref e=>cases l;obtain⟨p,z,vs,its,r,m,d,_⟩:=lstAt e o2;exact⟨SeqAt.EqAt.str_list _ _ d c,SeqAt.RcAt.str_list _ _ d c,SeqAt.RcNeAt.str_list _ _ d c⟩
   |non=>cases l;exact⟨SeqAt.EqAt.str_none _ _,SeqAt.RcAt.str_none _ _,SeqAt.RcNeAt.str_none _ _⟩
   |bl b=>cases l;exact⟨SeqAt.EqAt.str_bool _ _ _,SeqAt.RcAt.str_bool _ _ _,SeqAt.RcNeAt.str_bool _ _ _⟩
   |int b=>obtain⟨t,rfl⟩:=l;exact⟨Qz _ _ _ _,SeqAt.RcAt.str_int _ _ _ _,SeqAt.RcNeAt.str_int _ _ _ _⟩
   |str b=>obtain⟨t,rfl⟩:=l;exact⟨Rn _ _ _ _,SeqAt.RcAt.str_str _ _ _ _,SeqAt.RcNeAt.str_str _ _ _ _⟩
  |@tup a vs ds q r =>
   cases w;obtain⟨its,m,d,Q⟩:=tupAt q r;cases o with
   |ty b=>simp[v7]at o2
   |non=>cases l;exact⟨SeqAt.EqAt.tuple_none d c,SeqAt.RcAt.tuple_none d c,SeqAt.RcNeAt.tuple_none d c⟩
   |bl b=>cases l;exact⟨SeqAt.EqAt.tuple_bool _ d c,SeqAt.RcAt.tuple_bool _ d c,SeqAt.RcNeAt.tuple_bool _ d c⟩
   |int b=>obtain⟨t,rfl⟩:=l;exact⟨SeqAt.EqAt.tuple_int _ _ d c,SeqAt.RcAt.tuple_int _ _ d c,SeqAt.RcNeAt.tuple_int _ _ d c⟩
   |str b=>obtain⟨t,rfl⟩:=l;exact⟨SeqAt.EqAt.tuple_str _ _ d c,SeqAt.RcAt.tuple_str _ _ d c,SeqAt.RcNeAt.tuple_str _ _ d c⟩
   |ref e=>cases l;obtain⟨p,z,al,U,r',O,G,_⟩:=lstAt e o2;exact⟨SeqAt.EqAt.tuple_list d G c,SeqAt.RcAt.tuple_list d G c,SeqAt.RcNeAt.tuple_list d G c⟩
   |@tup b Y es L r' =>
    cases l;obtain⟨f,O,G,C⟩:=tupAt L r';have E:ds.all (v7 M n)=b9:=by simpa [v7]using o1
    have F:es.all (v7 M n)=b9:=by simpa [v7]using o2
    have aj:((C2<|min its.toArray.size f.toArray.size).all (λj=>u7 M n (ds.getD j .non)<|es.getD j .non)&&its.toArray.size==f.toArray.size)=D6 (u7 M n) ds es:=by rw[A6,A6];by_cases J:ds.length=es.length;rw[<-Q,<-C,<-J,Nat.min_self,W ds es J];simp;rw[BS J,<-Q,<-C];simp[J]
    have h1:=SeqAt.RcAt.tuples d G c<|g r m r' O E F;have h2:=SeqAt.RcNeAt.tuples d G c<|g r m r' O E F;rw[aj]at h1 h2;exact N (.tup q r) (.tup L r') rfl h1 h2
  |@ref i a e =>
   cases w;obtain⟨p,z,vs,its,r,m,d,Q⟩:=lstAt e o1;cases o with
   |ty b=>simp[v7]at o2
   |non=>cases l;exact⟨SeqAt.EqAt.list_none d c,SeqAt.RcAt.list_none d c,SeqAt.RcNeAt.list_none d c⟩
   |bl b=>cases l;exact⟨SeqAt.EqAt.list_bool _ d c,SeqAt.RcAt.list_bool _ d c,SeqAt.RcNeAt.list_bool _ d c⟩
   |int b=>obtain⟨t,rfl⟩:=l;exact⟨SeqAt.EqAt.list_int _ _ d c,SeqAt.RcAt.list_int _ _ d c,SeqAt.RcNeAt.list_int _ _ d c⟩
   |str b=>obtain⟨t,rfl⟩:=l;exact⟨SeqAt.EqAt.list_str _ _ d c,SeqAt.RcAt.list_str _ _ d c,SeqAt.RcNeAt.list_str _ _ d c⟩
   |tup L r'=>cases l;obtain⟨U,O,G,_⟩:=tupAt L r';exact⟨SeqAt.EqAt.list_tuple d G c,SeqAt.RcAt.list_tuple d G c,SeqAt.RcNeAt.list_tuple d G c⟩
   |@ref j b e' =>
    cases l;obtain⟨P,T,Y,f,r',O,G,C⟩:=lstAt e' o2;have E:p.items.all (v7 M n)=b9:=(eO z o1).2;have F:P.items.all (v7 M n)=b9:=(eO T o2).2;have Z:u7 M (n+1) (.ref i) (.ref j)=D6 (u7 M n) p.items P.items:=by simp only[u7,z,T]
    by_cases J:p.items.length=P.items.length;have B:its.toArray.size=f.toArray.size:=by rw[A6,A6,<-Q,<-C,J]
    have h1:=SeqAt.RcAt.lists d G B c<|g r m r' O E F;have h2:=SeqAt.RcNeAt.lists d G B c<|g r m r' O E F;rw[A6,<-Q,W _ _ J]at h1 h2;exact N (.ref e) (.ref e') Z h1 h2;have B:(its.toArray.size != f.toArray.size)=b9:=by rw[A6,A6,<-Q,<-C];simpa using J
    have h1:=SeqAt.RcAt.lists_lengths d G B c;have h2:=SeqAt.RcNeAt.lists_lengths d G B c;exact N (.ref e) (.ref e') (Z.trans<|BS J) h1 h2
noncomputable def w4:Nat:=30
def C4:F7:=λx y M Q=>(v7 M w4 x=b9/\v7 M w4 y=b9)/\Q (.bl<|u7 M w4 x y) M
def PQ:F7:=λx y M Q=>(v7 M w4 x=b9/\v7 M w4 y=b9)/\Q (.bl<|!u7 M w4 x y) M
noncomputable def NL(M:u8)(x:D)(ys:List D):Bool:=ys.any λy=>u7 M w4 y x
def JG(g:Bool):F7:=λx y M Q=>match y with
 |.tup ys=>(v7 M w4 x=b9/\ys.all (v7 M w4)=b9)/\Q (.bl<|NL M x ys != g) M
 |.ref n=>∃ys,ak M n ys/\(v7 M w4 x=b9/\ys.all (v7 M w4)=b9)/\Q (.bl<|NL M x ys != g) M
 |.str z=>match x with
  |.str p=>Q (.bl<|(!(O7 z p 0 z.length 1).isEmpty) != g) M
  |_=>False
 |_=>False
abbrev Oh:F7:=JG c5
abbrev nv:F7:=JG b9
end
theorem wR(i:Room k A):A.units+w4<j8:=by have:=i.un;unfold w4;lia
theorem od_eq{X:Cx}(i:Room k X.A):G8 X (j6 .Eq) C4:=by rintro p s σ H f b v u R I g a ⟨x,y,M,ρ,Q,m,r,n,⟨⟨o1,o2⟩,q⟩,k⟩;exact(lD I m w4 X.A x y f b v u (wR i) r g n a o1 o2).2.1 _ _ _ _<|gW I m k q
theorem od_ne{X:Cx}(i:Room k X.A):G8 X (j6 .NotEq) PQ:=by rintro p s σ H f b v u R I g a ⟨x,y,M,ρ,Q,m,r,n,⟨⟨o1,o2⟩,q⟩,k⟩;exact(lD I m w4 X.A x y f b v u (wR i) r g n a o1 o2).2.2 _ _ _ _<|gW I m k q
theorem uI{pins:List (d6×d7)}{σ:St}{H:Hp}{s:f8}{ρ:List d6}{M:u8}(I:t9 X pins σ H s)(m:v9 X.K ρ M H):∀(n:Nat) (x y z:D) (v:V),u6 X.K ρ H x v->u6 X.K ρ H y v->v7 M n x=b9->v7 M n y=b9->u7 M n x z=u7 M n y z:=by
 have l:∀(n:Nat),(∀(x y z:D) (v:V),u6 X.K ρ H x v->u6 X.K ρ H y v->v7 M n x=b9->v7 M n y=b9->u7 M n x z=u7 M n y z) -> ∀(xs ys d:List D) (vs:List V),Reps X.K ρ H xs vs->Reps X.K ρ H ys vs->xs.all (v7 M n)=b9->ys.all (v7 M n)=b9->D6 (u7 M n) xs d=D6 (u7 M n) ys d:=by
  intro n w xs;induction xs with
  |nil=>intro ys d vs h1 h2 _ _;cases h1;cases h2;rfl
  |cons x xs hi =>
   intro ys d vs h1 h2 o1 o2;cases h1 with
   |cons N Q =>
    cases h2 with
    |cons O R =>
     cases d with
     |nil=>rfl
     |cons z d=>rw[MX,D9]at o1 o2;rw[D6,D6,w _ _ z _ N O o1.1 o2.1,hi _ d _ Q R o1.2 o2.2]
 intro n;induction n with
 |zero=>intro x y z v h1 h2 o1 o2;cases h1<;>cases h2<;>first|rfl|(cases z<;>rfl)
 |succ n w =>
  intro x y z v h1 h2 o1 o2;cases h1 with
  |non=>cases h2;rfl
  |bl b=>cases h2;rfl
  |int b=>cases h2;rfl
  |str b=>cases h2;rfl
  |ty b=>cases h2;rfl
  |@tup a vs ds u r =>
   cases h2 with
   |tup h r' =>
    have e:=I.tuple_inj u h;subst e;cases z with
    |tup d=>exact l n w _ _ d _ r r' o1 o2
    |_=>rfl
   |@ref i _ e =>
    exfalso;obtain⟨its,_,⟨o,A,B,_⟩,_⟩:=I.tuple u;have hi:i<M.length:=by rw[<-m.len];exact(z9.mp e).1
    obtain⟨q,f,_,_,_,⟨o',F,g,p,_⟩⟩:=np I m e (w9 hi) (eO (w9 hi) o2).1;rw[A]at g;cases g;rw[B]at p;injection p with f3;exact p5 f3<|by decide
  |@ref i a e =>
   have hi:i<M.length:=by rw[<-m.len];exact(z9.mp e).1
   have t:=w9 hi;obtain⟨vs,its,u,r,T,G⟩:=np I m e t (eO t o1).1;cases h2 with
   |tup h r'=>exfalso;obtain⟨f,_,⟨o,A,B,_⟩,_⟩:=I.tuple h;obtain⟨o',F,g,p,_⟩:=G;rw[A]at g;cases g;rw[B]at p;injection p with f3;exact p5 f3<|by decide
   |@ref j _ C =>
    have L:j<M.length:=by rw[<-m.len];exact(z9.mp C).1
    have c:=w9 L;obtain⟨q,f,h,r',P,J⟩:=np I m C c (eO c o2).1;have E:vs=q:=I.list_inj u h;subst E;cases z with
    |ref k =>
     simp only[u7,t,c];cases M[k]? with
     |none=>rfl
     |some S=>exact l n w _ _ _ _ r r' (eO t o1).2 (eO c o2).2
    |_=>rfl
theorem BB{k:Nat}(E:Room k X.A){pins:List (d6×d7)}{σ:St}{H:Hp}{s:f8}{ρ:List d6}{M:u8}(I:t9 X pins σ H s)(m:v9 X.K ρ M H){x:D}{l:V}{v:c7}(G:u6 X.K ρ H x l)(N:aK l v)(o1:v7 M w4 x=b9):∀{ys:List D}{ws:List V}{its:List c7},Reps X.K ρ H ys ws->ay ws its->ys.all (v7 M w4)=b9->∃e:c7->Bool,(∀u∈its,Nf X.A.in1 s u v<|e u)/\its.any e=NL M x ys:=by
 have w:X.A.in1.units+w4<j8:=by have:=E.un;show X.A.units+1+w4<j8;unfold w4;lia
 intro ys ws its i vs ok
 classical
 refine⟨λu=>if h:∃d a,u6 X.K ρ H d a/\aK a u/\v7 M w4 d=b9 then u7 M w4 h.choose x else c5,λu B=>?_,?_⟩;obtain⟨j,L,z⟩:=QE B;have y:j<ws.length:=by rw[vs.length];exact L
 obtain⟨d,n,f⟩:=i.getV<|w9 y;obtain⟨J,b,S⟩:=jz vs<|w9 y;have:J=u:=by rw[w9 L]at b;cases b;exact z
 subst this;have o:=F0.mp ok _<|E6 n;have h:∃d a,u6 X.K ρ H d a/\aK a J/\v7 M w4 d=b9:=⟨d,_,f,S,o⟩
 show Nf X.A.in1 s J v (if h:_ then _ else _);rw[dif_pos h];obtain⟨a,g,p,c⟩:=h.choose_spec;have C:=aK.inj p S;subst C;rw[uI I m w4 _ d x _ g f c o];exact(lD I m w4 X.A.in1 d x _ l _ v w f S G N (F0.mp ok _<|E6 n) o1).1;clear w o1;unfold NL;induction ys generalizing ws its with
 |nil=>cases i;cases vs;rfl
 |cons d ds F =>
  cases i with
  |cons r t =>
  cases vs with
  |cons q t' =>
   rename_i a O u us;rw[MX,D9]at ok;have h:∃d a,u6 X.K ρ H d a/\aK a u/\v7 M w4 d=b9:=⟨d,_,r,q,ok.1⟩
   rw[List.any_cons,List.any_cons,F t t' ok.2,dif_pos h];obtain⟨P,g,p,c⟩:=h.choose_spec;have C:=aK.inj p q;subst C;rw[uI I m w4 _ d x _ g r c ok.1]
theorem FL{X:Cx}(g:Bool)(D:Room k X.A):G8 X (j6<|if g then .NotIn else .In) (JG g):=by
 rintro E s σ H K N v u R I B C ⟨x,y,M,ρ,Q,m,n,G,q,k⟩;cases G with
 |non=>exact q.elim
 |bl b=>exact q.elim
 |int b=>exact q.elim
 |ty b=>exact q.elim
 |str z =>
  cases n with
  |str p =>
   obtain⟨t,rfl⟩:=B;obtain⟨t',rfl⟩:=C;cases g with
   |false=>exact in_str<|gW I m k<|by simpa [JG]using q
   |true=>exact notIn_str<|gW I m k<|by simpa [JG]using q
  |_=>exact q.elim
 |@tup a J ys j r =>
  cases C;obtain⟨⟨o1,o2⟩,q⟩:=(show (v7 M w4 x=b9/\_)/\_ from q)
  obtain⟨its,o,l,F⟩:=I.tuple j;obtain⟨e,i,f⟩:=BB D I m n B o1 r o o2;have d:its.toArray.any e=NL M x ys:=by rw[<-f];simp
  cases g with
  |false=>exact SeqAt.in_tupleAt e l (λw c=>i w<|by simpa using c)<|by rw[d];exact gW I m k<|by simpa using q
  |true=>exact SeqAt.notIn_tupleAt e l (λw c=>i w<|by simpa using c)<|by rw[d];exact gW I m k<|by simpa using q
 |ref h =>
  cases C;obtain⟨ys,L,⟨o1,o2⟩,q⟩:=(show ∃ys,ak M _ ys/\(v7 M w4 x=b9/\_)/\_ from q)
  obtain⟨J,j,r⟩:=ak.seq m L h;obtain⟨its,o,l,F⟩:=I.list j;obtain⟨e,i,f⟩:=BB D I m n B o1 r o o2;have d:its.toArray.any e=NL M x ys:=by rw[<-f];simp
  cases g with
  |false=>exact SeqAt.in_listAt e l.isList (λw c=>i w<|by simpa using c)<|by rw[d];exact gW I m k<|by simpa using q
  |true=>exact SeqAt.notIn_listAt e l.isList (λw c=>i w<|by simpa using c)<|by rw[d];exact gW I m k<|by simpa using q
theorem od_in(i:Room k X.A):G8 X (j6 .In) Oh:=FL c5 i
theorem DN(i:Room k X.A):G8 X (j6 .NotIn) nv:=FL b9 i
theorem Mv:f6 "len" = b7 (.builtin "len"):=by decide +kernel
theorem My:f6 "all" = b7 (.builtin "all"):=by decide +kernel
theorem Mx:f6 "any" = b7 (.builtin "any"):=by decide +kernel
theorem rU:f6 "isinstance" = b7 (.builtin "isinstance"):=by decide +kernel
theorem Cv:f6 "sorted" = b7 (.builtin "sorted"):=by decide +kernel
theorem Mw:f6 "int" = b7 (.type "int"):=by decide +kernel
theorem Mt:f6 "str" = b7 (.type "str"):=by decide +kernel
theorem IW:f6 "bool" = b7 (.type "bool"):=by decide +kernel
theorem IU:f6 "list" = b7 (.type "list"):=by decide +kernel
theorem Fw:f6 "tuple" = b7 (.type "tuple"):=by decide +kernel
theorem IV:f6 "dict" = b7 (.type "dict"):=by decide +kernel
noncomputable def visB(c:f9)(x:c8):Bool:=match c.names.lookup x with
 |some .local=>b9
 |some .cell=>b9
 |some .free=>b9
 |_=>c5
theorem Jm(h:visB sc x=b9):ON sc x:=by unfold visB at h;unfold ON;split at h;rename_i e;exact .inl e;rename_i e;exact .inr<|.inl e;rename_i e;exact .inr<|.inr e;cases h
noncomputable def Jf(c:f9)(x:c8):Bool:=match c.names.lookup x with
 |some .local=>b9
 |some .cell=>b9
 |_=>c5
theorem Ba(h:Jf sc x=b9):Oo sc x:=by unfold Jf at h;unfold Oo;split at h;rename_i e;exact .inl e;rename_i e;exact .inr e;cases h
structure HE(X:Cx)(e:g8)(t:x6):Prop where
 ok:DE X e t
structure HT(X:Cx)(e:g8)(t:H9):Prop where
 ok:DT X e t
structure HW(X:Cx)(e:g8)(t:H9):Prop where
 ok:DW X e t
structure HA(X:Cx)(es:List g8)(t:F5):Prop where
 ok:DA X es t
structure HS(X:Cx)(e:i5)(t:u4):Prop where
 ok:DS X e t
structure HB(X:Cx)(e:List i5)(t:u4):Prop where
 ok:ND X e t
structure HG(X:Cx)(e:g8)(t:MJ):Prop where
 ok:DG X e t
structure HI(X:Cx)(tg e:g8)(t:MW):Prop where
 ok:DI X tg e t
structure Pe(X:Cx)(e:List g8)(t:H9):Prop where
 ok:NM X e (lowT X.K t)
structure HO'(X:Cx)(e:Option g8)(t:OP):Prop where
 ok:PO X e (Kx X.K t)
structure J0(X:Cx)(f:c7->c7->Sem c7)(r:F7):Prop where
 ok:G8 X f r
structure HUn(X:Cx)(f:c7->Sem c7)(r:RX):Prop where
 ok:UnD X f r
structure HC(X:Cx)(f:c7)(r:C5):Prop where
 ok:lX X f r
structure QU(X:Cx)(name:c8)(r:c8->C5):Prop where
 ok:∃id,Slot "str" name id/\m5 (.builtin id)=pure (.type "method_descriptor")/\G9 X id (AW X.K r)
structure Pf(X:Cx)(name:c8)(r:Nat->C5):Prop where
 ok:∃id,Slot "list" name id/\m5 (.builtin id)=pure (.type "method_descriptor")/\G9 X id (iI X.K r)
theorem k_var(h:X.N[i]?=b7 x:=by kernel_rfl)(c:visB X.env.scope x=b9:=by kernel_rfl)(a:(x==("__debug__":c8))=c5:=by kernel_rfl)(d:(x==("__classdict__":c8))=c5:=by kernel_rfl):HE X (.Name x pos) (ab i):=⟨d_var h (Jm c) a d⟩
theorem k_int:HE X (.Constant (.int i) j pos) (dC<|.int i):=⟨d_int⟩
theorem k_bl:HE X (.Constant (.bool i) j pos) (dC<|.bl i):=⟨d_bl⟩
theorem k_non:HE X (.Constant .none j pos) (dC .non):=⟨d_non⟩
theorem k_str:HE X (.Constant (.str i) j pos) (dC<|.str i):=⟨d_str⟩
theorem KR(m:X.mg x=b8)(c:f6 x=b7 (.type T))(R:X.env.kindOf x=b7 .globalImplicit:=by kernel_rfl)(f:(x==("__name__":c8))=c5:=by kernel_rfl)(d:(x==("__debug__":c8))=c5:=by kernel_rfl):HE X (.Name x pos) (dC<|.ty T):=⟨Md m c R (by simpa using f) d⟩
theorem k_op(m:J0 X (j5 op) r)(f:HE X a ta)(d:HE X b tb):HE X (.BinOp a op b pos) (t7 r ta tb):=⟨d_op m.ok f.ok d.ok⟩
theorem k_cmp(o:J0 X (j6 op) r)(f:HE X a ta)(d:HE X b tb)(m:j7 op b=c5:=by kernel_rfl):HE X (.Compare a [op] [b] pos) (t7 r ta tb):=⟨d_cmp o.ok f.ok d.ok m⟩
theorem KC(o:J0 X (j6 op) r)(f:HE X a ta)(d:HE X b tb)(m:j7 op b=c5:=by kernel_rfl):HT X (.Compare a [op] [b] pos) (au<|t7 r ta tb):=⟨LL o.ok f.ok d.ok m⟩
theorem HR(o:J0 X (j6 op) r)(h:J0 X (j6 op') r')(f:HE X a ta)(d:HE X b tb)(e:HE X c tc)(m:lastMarks [op,op'] [b,c]=c5:=by kernel_rfl):HE X (.Compare a [op,op'] [b,c] pos) (uQ r r' ta tb tc):=⟨IJ o.ok h.ok f.ok d.ok e.ok m⟩
theorem KA(h:HE X e te)(i:∀whole,isTrue e X.env whole=(do let v <-whole;standAt e.pos;i6 [v] (truthy v)):=by intro _;kernel_rfl):HT X e (au te):=⟨LI h.ok i⟩
theorem Hr(f:HT X a tA):HW X (.BoolOp .And [a] pos) tA:=⟨Ip f.ok⟩
theorem Ky(f:HT X a tA):HW X (.BoolOp .Or [a] pos) tA:=⟨LG f.ok⟩
theorem FO{X:Cx}{a b:g8}{aL:List g8}{s:Pos}{A tB:H9}(f:HT X a A)(d:HW X (.BoolOp .And (b::aL) s) tB):HW X (.BoolOp .And (a::b::aL) s) (wE A tB):=⟨LH f.ok d.ok⟩
theorem Kz{X:Cx}{a b:g8}{aL:List g8}{s:Pos}{A tB:H9}(f:HT X a A)(d:HW X (.BoolOp .Or (b::aL) s) tB):HW X (.BoolOp .Or (a::b::aL) s) (N4 A tB):=⟨dw_or f.ok d.ok⟩
theorem kw_t(h:HW X e tA):HT X e tA:=⟨dw_t h.ok⟩
theorem KB(f:HT X a tA):HT X (.UnaryOp .Not a pos) (Fj tA):=⟨LK f.ok⟩
theorem k_one{op}(h:HE X a ta):HE X (.BoolOp op [a] pos) ta:=⟨d_one h.ok⟩
theorem k_and{X:Cx}{a b:g8}{aL:List g8}{t c:x6}{s:Pos}(f:HE X a t)(d:HE X (.BoolOp .And (b::aL) s) c):HE X (.BoolOp .And (a::b::aL) s) (oU t c):=⟨d_and f.ok d.ok⟩
theorem k_or{X:Cx}{a b:g8}{aL:List g8}{t c:x6}{s:Pos}(f:HE X a t)(d:HE X (.BoolOp .Or (b::aL) s) c):HE X (.BoolOp .Or (a::b::aL) s) (dOrV t c):=⟨d_or f.ok d.ok⟩
theorem k_not(f:HE X a ta):HE X (.UnaryOp .Not a pos) (Ch ta):=⟨d_not f.ok⟩
theorem KQ:HA X [] af:=⟨Mc⟩
theorem HL(f:HE X e te)(i:HA X es t)(hs:i4 (e::es) X.env=(c5,eval e X.env)::i4 es X.env:=by kernel_rfl):HA X (e::es) (aa te t):=⟨IH f.ok i.ok hs⟩
theorem k_tup{x1}(h:HA X es t):HE X (.Tuple es x1 pos) (eZ t):=⟨d_tup h.ok⟩
theorem k_lst(h:HA X es t):HE X (.List es pos) (jV t):=⟨d_lst h.ok⟩
theorem HU{id:String}{r:C5}(c:HC X (.builtin id) r)(d:X.mg x=b8)(v:f6 x=b7 (.builtin id))(f:HA X (e::es) t)(R:X.env.kindOf x=b7 .globalImplicit:=by kernel_rfl)(n:(x==("__name__":c8))=c5:=by kernel_rfl)(b:(x==("__debug__":c8))=c5:=by kernel_rfl)(i:i4 (e::es) X.env=(c5,eval e X.env)::i4 es X.env:=by kernel_rfl) (l:(i3 pos<|i4 es X.env).any (·.1)=c5:=by kernel_rfl):HE X (.Call (.Name x p) (e::es) [] pos) (u5 r t):=⟨IK c.ok d v f.ok R (by simpa using n) b i l⟩
theorem Ew(c:HC X (.type T) r)(d:X.mg x=b8)(v:f6 x=b7 (.type T))(f:HA X (e::es) t)(R:X.env.kindOf x=b7 .globalImplicit:=by kernel_rfl)(n:(x==("__name__":c8))=c5:=by kernel_rfl)(b:(x==("__debug__":c8))=c5:=by kernel_rfl)(i:i4 (e::es) X.env=(c5,eval e X.env)::i4 es X.env:=by kernel_rfl) (l:(i3 pos<|i4 es X.env).any (·.1)=c5:=by kernel_rfl):HE X (.Call (.Name x p) (e::es) [] pos) (u5 r t):=⟨Fh c.ok d v f.ok R (by simpa using n) b i l⟩
theorem k_cal(C:v8 X.prog X.w X.K X.mg X.base j x ps P)(r:Room k X.A)(f:HA X (e::es) t)(hj:Nat.ble j k=b9:=by kernel_rfl)(R:X.env.kindOf x=b7 .globalImplicit:=by kernel_rfl) (b:(x==("__debug__":c8))=c5:=by kernel_rfl) (i:i4 (e::es) X.env=(c5,eval e X.env)::i4 es X.env:=by kernel_rfl) (l:(i3 pos<|i4 es X.env).any (·.1)=c5:=by kernel_rfl):HE X (.Call (.Name x p) (e::es) [] pos) (u5 P t):=⟨d_cal C r f.ok (Nat.le_of_ble_eq_true hj) R b i l⟩
theorem k_ix(f:HE X a ta)(d:HE X b tb)(hs:wL b:=by intro _ _;kernel_rfl):HE X (.Subscript a b pos) (t7 v5 ta tb):=⟨d_ix f.ok d.ok hs⟩
theorem HF:HO' X b8 kJ:=⟨IA⟩
theorem HD(h:HE X e te):HO' X (b7 e) (lV te):=⟨Iz h.ok⟩
theorem HN{lo hi:Option g8}{t h:OP}{j:Pos}(i:HE X e te)(g:HO' X lo t)(u:HO' X hi h):HE X (.Subscript e (.Slice lo hi b8 j) pos) (N3 te t h):=⟨II i.ok g.ok u.ok⟩
theorem k_ms(d:QU X name r)(m:HE X o to)(f:HA X (e::es) t)(h:m6 o name X.env (eval o X.env)=eval o X.env:=by kernel_rfl)(w:((i3 cpos<|i4 (e::es) X.env).all (λx=>!x.1)&&(m7 cpos<|m8 [] X.env).all (λx=>x.1.isSome) && decide ((e::es).length+([]:List m9).length+(if ([]:List m9).isEmpty then 0 else 1)<30))=b9:=by kernel_rfl)(a:(apos.endLine==cpos.line)=b9:=by kernel_rfl) (hs:i4 (e::es) X.env=(c5,eval e X.env)::i4 es X.env:=by kernel_rfl) (n:(i3 cpos<|i4 es X.env).any (·.1)=c5:=by kernel_rfl):HE X (.Call (.Attribute o name apos) (e::es) [] cpos) (Pd r to t):=let ⟨_,h1,h2,h3⟩:=d.ok;⟨d_ms h1 h2 h3 m.ok f.ok h w a hs n⟩
theorem k_ml(d:Pf X name r)(m:HE X o to)(f:HA X (e::es) t)(h:m6 o name X.env (eval o X.env)=eval o X.env:=by kernel_rfl)(w:((i3 cpos<|i4 (e::es) X.env).all (λx=>!x.1)&&(m7 cpos<|m8 [] X.env).all (λx=>x.1.isSome) && decide ((e::es).length+([]:List m9).length+(if ([]:List m9).isEmpty then 0 else 1)<30))=b9:=by kernel_rfl)(a:(apos.endLine==cpos.line)=b9:=by kernel_rfl) (hs:i4 (e::es) X.env=(c5,eval e X.env)::i4 es X.env:=by kernel_rfl) (n:(i3 cpos<|i4 es X.env).any (·.1)=c5:=by kernel_rfl):HE X (.Call (.Attribute o name apos) (e::es) [] cpos) (MV r to t):=let ⟨_,h1,h2,h3⟩:=d.ok;⟨d_ml h1 h2 h3 m.ok f.ok h w a hs n⟩
theorem KF:HB X [] aT:=⟨LP⟩
theorem KD{X:Cx}{st:i5}{b:u4}(h:HS X st b):HB X [st] b:=⟨LO h.ok⟩
theorem Hz{X:Cx}{st:i5}{s:List i5}{b us:u4}(h1:HS X st b)(h2:HB X s us):HB X (st::s) (aB b us):=⟨Iy h1.ok h2.ok⟩
theorem Bp(i:HE X e te)(hs:i7 e b8 pos.line X.env=pure c5:=by kernel_rfl):HS X (.Expr e pos) (gX te):=⟨Iw i.ok hs⟩
theorem FS(i:HE X e te):HS X (.Return (b7 e) pos) (bi te):=⟨LN i.ok⟩
theorem KG(h:HT X c tA)(f:HB X aS ts)(d:HB X bS us):HS X (.If c aS bS pos) (B8 tA ts us):=⟨ds_if h.ok f.ok d.ok⟩
theorem FR(h:X.N.Nodup)(a:HE X e te)(hi:X.N[i]?=b7 x:=by kernel_rfl)(b:Jf X.env.scope x=b9:=by kernel_rfl)(hs:i7 e (b7<|.Name x pos') pos.line X.env=pure c5:=by kernel_rfl)(f:X.fn x=b9:=by kernel_rfl):HS X (.Assign [.Name x pos'] e pos) (bb te i):=⟨LM h a.ok hi (Ba b) hs<|.inl f⟩
theorem HK(h:X.N.Nodup)(hi:X.N[i]?=b7 x:=by kernel_rfl)(a:Jf X.env.scope x=b9:=by kernel_rfl)(f:X.fn x=b9:=by kernel_rfl):HG X (.Name x pos) (ag i):=⟨wD h hi (Ba a)<|.inl f⟩
theorem KM(h:X.N.Nodup)(hi:X.N[i]?=b7 x:=by kernel_rfl)(f:X.env.scope.names.lookup x=b7 .local:=by kernel_rfl):HG X (.Name x pos) (ag i):=⟨wD h hi (.inl f)<|.inr f⟩
theorem KI(h:HE X e te):HI X tg e (bE te):=⟨LX h.ok⟩
theorem FT{a:List i5}{b:u4}(hi:HI X tg iter di)(R:HG X tg g)(d:HB X a b)(hp:PassesOwn (h7 X.prog X.w) X.A X.env X.xe:=by exact PassesOwn.never)(f:X.calm=b9:=by kernel_rfl)(hs:∀x,j4 iter X.env x=pure x:=by intro _;kernel_rfl):HS X (.For tg iter a [] pos) (lW di g b):=⟨LQ hi.ok R.ok d.ok hp f hs⟩
theorem Hw:Pe X [] oj:=⟨Ir⟩
theorem Hv(h:HT X c tA):Pe X [c] tA:=⟨Iq h.ok⟩
theorem k_lc(hi:HI X tg iter di)(R:∀cl s0 H0 ex,HG (C3 X N' scope cl s0 H0 ex) tg g) (t:∀cl s0 H0 ex,Pe (C3 X N' scope cl s0 H0 ex) ifs tt) (i:∀cl s0 H0 ex,HE (C3 X N' scope cl s0 H0 ex) elt te) (B:qm X.env.scope.names X.N N' nt js scope=b9:=by kernel_rfl) (f:X.calm=b9:=by kernel_rfl)(hs:∀x,j4 iter X.env x=pure x:=by intro _;kernel_rfl):HE X (.ListComp elt [⟨tg,iter,ifs,0⟩] scope pos) (E7 nt js di g tt te):=⟨d_lc (BlkSc.chk B) hi.ok (λcl s0 H0 ex=>(R cl s0 H0 ex).ok) (λcl s0 H0 ex=>(t cl s0 H0 ex).ok) (λcl s0 H0 ex=>(i cl s0 H0 ex).ok) f hs⟩
theorem Bs(d:X.mg "range" = b8)(f:HA X [a] t)(R:X.env.kindOf "range" = b7 .globalImplicit:=by kernel_rfl)(hs:i4 [a] X.env=[(c5,eval a X.env)]:=by kernel_rfl):HI X tg (.Call (.Name "range" p) [a] [] pos) (bW t):=⟨Cb d f.ok R hs⟩
theorem Lj:J0 X (j5 .Sub) Ja:=⟨Ko⟩
theorem Lm:J0 X (j5 .Mult) lL:=⟨Hc⟩
theorem Ic:J0 X (j5 .FloorDiv) aN:=⟨He⟩
theorem Ln:J0 X (j5 .Mod) cA:=⟨Kr⟩
theorem ho_lt:J0 X (j6 .Lt) NK:=⟨od_lt⟩
theorem ho_le:J0 X (j6 .LtE) Pc:=⟨od_le⟩
theorem ho_gt:J0 X (j6 .Gt) N1:=⟨od_gt⟩
theorem ho_is:J0 X (j6 .Is) N0:=⟨od_is⟩
theorem ho_eq(i:Room k X.A):J0 X (j6 .Eq) C4:=⟨od_eq i⟩
theorem ho_ne(i:Room k X.A):J0 X (j6 .NotEq) PQ:=⟨od_ne i⟩
theorem ho_in(i:Room k X.A):J0 X (j6 .In) Oh:=⟨od_in i⟩
theorem ED(i:Room k X.A):J0 X (j6 .NotIn) nv:=⟨DN i⟩
theorem Ls:HC X (.builtin "len") ii:=⟨Mp⟩
theorem Lw(f:X.calm=b9:=by kernel_rfl):HC X (.builtin "all") Jd:=⟨Ms f⟩
theorem Lv(f:X.calm=b9:=by kernel_rfl):HC X (.builtin "any") Jc:=⟨Mr f⟩
theorem Lu:HC X (.builtin "isinstance") yF:=⟨Mq⟩
theorem BG:Pf X "append" bR:=⟨_,PySem.F.slot_list_append,PySem.F.type_list_append,yQ⟩
theorem v8.byH{P:d5}{w:c9}{K:u9}{mg:c8->Option c7}{base:d8}{x:c8}{st:i5}{N ps:List c8}{k:Nat}{c:A0}(F:cz K mg x st ps)(e:FnScope N ps (aC st))(B:∀ds M R,c ds M R->ds.length=ps.length) {t:u4}(r:∀(f:d6) (cdv:c7) (A:f7) (outer:List Env) (s:f8) (H:Hp) (E:XK),Room k (A.deeper<|k9 x (aC st) s.heap.objs.size f cdv)->HB (zv L5 P w K mg base N x (aC st) f cdv A outer s H E).nox (cq st) t)(p:∀ds M R,c ds M R->t ⟨λ_ M'=>aY M R .non M',aY M R,λ_ _=>False,λ_ _=>False⟩ (eR N ds) M):v8 P w K mg base (k+1) x ps c:=v8.of F e B (λf cdv A outer s H E i=>(r f cdv A outer s H E i).ok) p
theorem EO{P:d5}{w:c9}{K:u9}{mg:c8->Option c7}{base:d8}{x:c8}{st:i5}{N ps:List c8}{k:Nat}{c:A0}{f:d6}{d:j9}(F:Nu K x x st f d)(e:FnScope N ps (aC st))(B:∀ds M R,c ds M R->ds.length=ps.length) {t:u4}(r:∀(f:d6) (cdv:c7) (A:f7) (outer:List Env) (s:f8) (H:Hp) (E:XK),Room k (A.deeper<|k9 x (aC st) s.heap.objs.size f cdv)->HB (zv L5 P w K mg base N x (aC st) f cdv A outer s H E).nox (cq st) t)(p:∀ds M R,c ds M R->t ⟨λ_ M'=>aY M R .non M',aY M R,λ_ _=>False,λ_ _=>False⟩ (eR N ds) M):FnOk P w K mg base L5 (k+1) f d ps (Nq K c):=Il F e B (λf cdv A outer s H E i=>(r f cdv A outer s H E i).ok) p
theorem jW(I:List D->SD->u8->Prop)(h0:∀S M,I [] S M->ok M/\E.nx S M)(h1:∀x xs S M,I (x::xs) S M->∀L:SD->u8->Prop,(∀S' M',I xs S' M'->L S' M')->ok M/\g x S M λS2 M2=>tb ⟨C1 k0 L,E.rt,E.nx,C1 k0 L⟩ S2 M2):∀xs S M,I xs S M->uP ok g tb E k0 xs S M
 | [],S,M,h=>h0 S M h
 |x::xs,S,M,h=>h1 x xs S M h _<|jW I h0 h1 xs
theorem aX(I:Nat->SD->u8->Prop)(a:∀S M,I xs.length S M->ok M/\E.nx S M)(h1:∀i x S M,xs[i]?=b7 x->I i S M->∀L:SD->u8->Prop,(∀S' M',I (i+1) S' M'->L S' M')->ok M/\g x S M λS2 M2=>tb ⟨C1 k0 L,E.rt,E.nx,C1 k0 L⟩ S2 M2)(h:I 0 S M):uP ok g tb E k0 xs S M:=by
 refine jW (λys S M=>∃i,xs.drop i=ys/\i+ys.length=xs.length/\I i S M) ?_ ?_ xs S M ⟨0,rfl,by simp,h⟩;rintro S M ⟨i,_,e,q⟩;have:i=xs.length:=by simpa using e
 subst this;exact a S M q;rintro x ys S M ⟨i,e,l,q⟩ L b;have c:xs[i]?=b7 x:=by
  have:(xs.drop i)[0]?=b7 x:=by rw[e];rfl
  simpa using this
 refine h1 i x S M c q L λS' M' j=>b S' M' ⟨i+1,?_,by simp at l;lia,j⟩;rw[<-List.drop_drop,e];rfl
theorem C1.now(h:P S M):C1 k0 P S M:=.inl h
theorem cf{lo:Int}{n i:Nat}{x:D}:(iG lo n)[i]?=b7 x↔i<n/\x=.int (lo+(i:Int)):=by unfold iG;rw[C6];by_cases h:i<n;simp[h,eq_comm];simp[h]
theorem aW{lo:Int}{n:Nat}:(iG lo n).length=n:=by simp[iG]
theorem aU(p:D->Bool)(f:D->D)(I:SD->Prop)(hok:ok M):∀(xs acc:List D) (S:SD),(∀x∈xs,∀S,I S->∃S',I S'/\∀(Y:D->SD->u8->Prop) (Z:SD->u8->Prop),(if p x=b9 then Y (f x) S' M else Z S' M) -> g x S M λS2 M2=>tt S2 M2 λb M3=>if b=b9 then te S2 M3 λy M4=>Y y S2 M4 else Z S2 M3) ->I S->acc.length+xs.length<=sizeLine->Q (.ref M.length) (M++[.lst<|acc++(xs.filter p).map f])->oo ok g tt te Q xs acc S M
 | [],acc,S,_,_,_,q=>⟨hok,by simpa using q⟩
 |x::xs,acc,S,step,hS,hl,q=>by obtain⟨S',hS',k⟩:=step x E3 S hS;refine⟨hok,k (λy S2 M4=>acc.length<sizeLine/\oo ok g tt te Q xs (acc++[y]) S2 M4) (λS2 M3=>oo ok g tt te Q xs acc S2 M3) ?_⟩;have step':=λy hy=>step y<|C7 _ hy;rw[D4]at hl;by_cases hp:p x=b9;rw[p0 hp];refine⟨by lia,aU p f I hok xs _ S' step' hS' (by rw[B6,J2];lia) ?_⟩;rw[List.filter_cons_of_pos hp,B9]at q;rw[J6];exact q;rw[p4 hp];refine aU p f I hok xs acc S' step' hS' (by lia) ?_;rw[Si hp]at q;exact q
theorem bd(f:D->D)(I:SD->Prop)(c:ok M)(xs acc:List D) (S:SD) (K:∀x∈xs,∀S,I S->∃S',I S'/\∀(Y:D->SD->u8->Prop),Y (f x) S' M->g x S M λS2 M2=>te S2 M2 λy M4=>Y y S2 M4)(a:I S) (l:acc.length+xs.length<=sizeLine) (q:Q (.ref M.length) (M++[.lst<|acc++xs.map f])):oo ok g oj te Q xs acc S M:=by refine aU (λ_=>b9) f I c xs acc S (λx d S a=>?_) a l (by rw[R3.mpr λ_ _=>rfl];exact q);obtain⟨S',b,k⟩:=K x d S a;refine⟨S',b,λY Z h=>?_⟩;rw[p0 rfl]at h;have:=k Y h;simp only[oj,s9];exact this
theorem am:(M++[mo])[M.length]?=b7 mo:=by simp
theorem ad:ak (M++[.lst xs]) M.length xs:=.inl am
theorem ak.more(h:ak M n xs)(L:u8):ak (M++L) n xs:=by
 have l:∀{mo:MO},M[n]?=b7 mo->(M++L)[n]?=b7 mo:=λe=>by rw[L0 (z9.mp e).1];exact e
 rcases h with h|h|h;exact .inl<|l h;exact .inr<|.inl<|l h;exact .inr<|.inr<|l h
theorem ak.ty(h:ak M n xs):L3 M (.ref n) = "list":=by
 show (match M[n]? with|some mo=>if mo.isL=b9 then "list" else "?" |none=>"?") = "list"
 rcases h with h|h|h<;>(rw[h];rfl)
theorem aY.keep(h:R d M)(b:D3 M.length d)(p:M <+: M'):aY M R d M':=.inr<|.inl ⟨M,.refl,b,p,h⟩
theorem aY.now(h:R d M):aY M R d M:=.inl h
theorem aY.bl(h:R (.bl b) M)(p:M <+: M'):aY M R (.bl b) M':=.keep h (.bl b) p
theorem aY.str(h:R (.str b) M)(p:M <+: M'):aY M R (.str b) M':=.keep h (.str b) p
theorem bt:M <+: M++[mo]:=MM _ _
theorem qF{a b:c8}(h:a.cps.toList=b.cps.toList):a=b:=by cases a;cases b;simp only[Array.toList_inj]at h;simpa using h
theorem bx{a:c8}:a.length=a.cps.toList.length:=by show a.cps.size=_;simp
theorem rV{a b:c8}:(a++b).cps.toList=a.cps.toList++b.cps.toList:=by show (a.cps++b.cps).toList=_;simp
theorem bA{a b:c8}:(a++b).length=a.length+b.length:=by rw[bx,bx,bx,rV,B6]
theorem fv:(⟨#[c]⟩:c8).length=1:=rfl
theorem ah(h:n<=1000):n<=sizeLine:=NU<|ar h
theorem Cy{α:Type}{xs:List α}{i:Int}(a:0<=i)(h1:i<xs.length):∃(j:Nat) (hj:j<xs.length),atI xs i=b7 xs[j]/\(j:Int)=i:=by
 have hj:i.toNat<xs.length:=by lia
 refine⟨i.toNat,hj,?_,by lia⟩;have e:i=((i.toNat:Nat):Int):=by lia
 have q:atI xs ((i.toNat:Nat):Int)=b7 xs[i.toNat]:=aq<|w9 hj;rw[<-e]at q;exact q
theorem ak.get(h:ak M n xs):∃mo,M[n]?=b7 mo/\mo.items=xs/\mo.isL=b9:=by rcases h with h|h|h<;>exact⟨_,h,rfl,rfl⟩
theorem xS(h1:ak M i xs)(h2:ak M j ys):u7 M (n+1) (.ref i) (.ref j)=D6 (u7 M n) xs ys:=by obtain⟨a,f,rfl,h⟩:=h1.get;obtain⟨b,d,rfl,c⟩:=h2.get;simp only[u7,f,d]
theorem qT(h1:ak M i xs)(h:∀x∈xs,v7 M n x=b9):v7 M (n+1) (.ref i)=b9:=by obtain⟨a,f,rfl,b⟩:=h1.get;simp only[v7,f,b,Bool.true_and];exact F0.mpr h
theorem Ha(h:∀x∈xs,v7 M n x=b9):v7 M (n+1) (.tup xs)=b9:=by simp only[v7];exact F0.mpr h
theorem ap:v7 M n (.str x)=b9:=by cases n<;>rfl
theorem aH:v7 M n (.int x)=b9:=by cases n<;>rfl
theorem FK:v7 M n (.bl x)=b9:=by cases n<;>rfl
theorem AJ:v7 M n .non=b9:=by cases n<;>rfl
theorem Im:D6 f xs []=xs.isEmpty:=by cases xs<;>rfl
theorem gQ:u7 M n (.int a) (.int b)=(a==b):=by cases n<;>rfl
theorem aV:u7 M n (.str a) (.str b)=(a==b):=by cases n<;>rfl
def gU:Ge:=λds S M Q=>match ds with
 | []=>Q S M
 |_=>False
def aI(t:MJ)(u:Ge):Ge:=λds S M Q=>match ds with
 |d::r=>t d S M λa M'=>u r a M' Q
 | []=>False
def gR(n:Nat)(t:Ge):MJ:=λd S M Q=>match d with
 |.tup ds=>ds.length=n/\t ds S M Q
 |_=>False
theorem ID:Qb X [] gU:=by
 rintro p s σ H vs us R I r ⟨ds,S,M,ρ,Q,m,b,f,q,k⟩;cases f with
 |nil=>exact GN p s σ H _ us R I r ⟨rfl,k σ H ⟨S,M,ρ,m,.refl,b,q⟩⟩
 |cons _ _=>exact q.elim
theorem Ff(h1:DG X e t)(h2:Qb X es u)(hs:(i9 (e::es) X.env).map (·.2)=i8 e X.env::(i9 es X.env).map (·.2):=by rfl):Qb X (e::es) (aI t u):=by
 rintro p s σ H vs us R I r ⟨ds,S,M,ρ,Q,m,i,f,q,k⟩;cases f with
 |nil=>exact q.elim
 |cons g f=>refine Du h1 h2 hs p s σ H _ us R I r ⟨_,_,rfl,_,S,M,ρ,_,m,i,g,q,?_⟩;rintro j l ⟨S1,M1,c,h,g1,a,d⟩;exact⟨_,S1,M1,c,Q,h,a,f.grow g1,d,λb H' w=>k b H'<|SQ.trans g1 w⟩
theorem LZ(h:Qb X es t)(a:X.calm=b9:=by rfl)(b:(i9 es X.env).length=n:=by rfl) (c:(i9 es X.env).findIdx? (·.1)=b8:=by rfl):DG X (.Tuple es j pos) (gR n t):=by
 rintro p s σ H v u R I r ⟨d,S,M,ρ,Q,m,i,g,q,k⟩;cases g with
 |tup e f=>exact JQ a h b c p s σ H _ u R I r ⟨_,_,rfl,e,by rw[<-f.length];exact q.1,_,S,M,ρ,Q,m,i,f,q.2,k⟩
 |_=>exact q.elim
def Mm(te:x6)(g:MJ):u4:=λE S M=>te S M λd M1=>g d S M1 E.nx
theorem LR(i:DE X e te)(R:DG X tg g)(hs:swapsWithSole [tg] e pos.line X.env=pure c5:=by rfl)(h:swappedStores [tg] e X.env=pure b8:=by rfl)(h1:(i9 [tg] X.env).map (·.2)=[i8 tg X.env]:=by rfl):DS X (.Assign [tg] e pos) (Mm te g):=by refine PS.imp (JP i R hs h h1) ?_;rintro E σ H ⟨S,M,ρ,F,s,b,q,k⟩;refine⟨S,M,ρ,_,s,b,q,?_⟩;rintro v l ⟨d,M1,c,j,g1,r,f⟩;exact⟨d,S,M1,c,_,j,b.grow g1,r,f,λa H' w=>k.nx a H'<|SQ.trans g1 w⟩
def qSet:D->D->D->u8->(u8->Prop)->Prop:=λo i v M Q=>match o,i with
 |.ref n,.int k=>∃xs j,M[n]?=b7 (.lst xs)/\NB xs.length k=b7 j/\Q (M.set n<|.lst<|xs.set j v)
 |_,_=>False
theorem Reps.set{K:u9}{ρ:List d6}{H:Hp}{d:D}{v:V}(r:u6 K ρ H d v):∀{ds:List D}{vs:List V} (i:Nat),Reps K ρ H ds vs->Reps K ρ H (ds.set i d) (vs.set i v)
 |_,_,_,.nil=>.nil
 |_,_,0,.cons _ t=>.cons r t
 |_,_,i+1,.cons q t=>.cons q<|Reps.set r i t
def Cd(e d:x6):MJ:=λv S M Q=>e S M λo M1=>d S M1 λi M2=>qSet o i v M2 λa=>Q S a
theorem Ma(C:DE X o to)(hi:DE X i ti)(B:∀v,i8 (.Subscript o i pos) X.env v=(do
   let ov <-i6 [v] (eval o X.env)
   let iv <-i6 [v,ov] (eval i X.env)
   standAt pos
   i6 [v,ov,iv] (setItem ov iv v)
   release [v,ov,iv] []):=by intro _;rfl):DG X (.Subscript o i pos) (Cd to ti):=by
 rintro p s σ H v u R I r ⟨d,S,M,ρ,Q,N,g,J,q,k⟩;refine JR C hi Di B p s σ H v u R I r ⟨S,M,ρ,_,N,g,q,?_⟩;rintro V P ⟨o',M1,h,K,g1,F,D⟩;refine⟨S,M1,h,_,K,g.grow g1,D,?_⟩;rintro U T ⟨i',M2,l,z,c,G,b⟩;have f:=F.grow c;cases f with
 |@ref n a t =>
  cases G with
  |int j =>
   obtain⟨xs,x,e,L,E⟩:=(show ∃xs w,M2[n]?=b7 (.lst xs)/\NB xs.length j=b7 w/\Q S (M2.set n<|.lst<|xs.set w d)from b)
   obtain⟨vs,m,y⟩:=z.obj n a _ t e;obtain⟨O,A⟩:=z.write t e m<|Reps.set (J.grow<|g1.trans c) x y;exact⟨a,vs,j,x,rfl,rfl,m,by rw[<-y.length];exact L,k σ _ ⟨S,_,l,O,(g1.trans c).trans A,g.grow<|(g1.trans c).trans A,E⟩⟩
  |_=>exact b.elim
 |_=>exact b.elim
def iS:C5:=λds M Q=>match ds with
 | [.ref n]=>∃xs,ak M n xs/\Q (.tup xs) M
 | [.tup xs]=>Q (.tup xs) M
 |_=>False
theorem Fs:lX X (.type "tuple") iS:=by
 refine hX.imp rR ?_;rintro vs H R ⟨ds,M,ρ,Q,m,a,q,k⟩;unfold iS at q;split at q;obtain⟨xs,L,q⟩:=q
 first|have z:=Reps.inv_cons a|have z:=ay.inv_cons a
 clear a;obtain⟨_,_,rfl,b,a⟩:=z;cases a;obtain⟨_,rfl,e⟩:=u6.inv_ref b;obtain⟨s,h,r⟩:=ak.seq m L e;exact⟨_,s,rfl,.inl ⟨h,λl g=>k _ _<|VQ.laidT m .refl r g q⟩⟩
 first|have z:=Reps.inv_cons a|have z:=ay.inv_cons a
 clear a;obtain⟨_,_,rfl,b,a⟩:=z;cases a;cases b with
 |tup h r=>exact⟨_,_,rfl,.inr ⟨h,k _ H<|VQ.now m (.tup h r) q⟩⟩
 exact q.elim
theorem DC:D0 X (j5 .Add) (λx y H Q=>∃a b ys,x=.ref a/\y=.ref b/\B7 X.K H a []/\B7 X.K H b ys/\Q (.ref b) H):=by intro t s σ H x y v u Q I G J h;obtain⟨a,b,ys,rfl,rfl,A,B,q⟩:=h;cases G;cases J;obtain⟨its,F,D,_⟩:=I.tuple A;obtain⟨r,M,E,_⟩:=I.tuple B;have e:its=[]:=F.nil_iff.mpr rfl;subst e;obtain⟨⟨w,z,l,L⟩,p,m,n,o⟩:=id D;obtain⟨⟨k,g,i,j⟩,f,c,C,d⟩:=id E;simp only at m o c d;subst m o c d;exact concat_meets ⟨_,p,rfl⟩ ⟨_,f,rfl⟩ noFill_tuple_add seq_tuple_add Se Sk (Sm _ _) (tuple_addW0 a b _ _ n C z g L j<|by simp) ⟨p,f,⟨.ref b,H,I,rfl,q⟩⟩
def aM:F7:=λx y M Q=>match x,y with
 |.tup xs,.tup ys=>xs.length+ys.length<=sizeLine/\Q (.tup<|xs++ys) M
 |_,_=>qAdd x y M Q
theorem Hf:G8 X (j5 .Add) aM:=by
 rintro c s σ H f e v u R I g i ⟨x,y,M,ρ,Q,m,r,n,q,k⟩;unfold aM at q;split at q;rename_i xs ys;obtain⟨a,vs,rfl,h1,E⟩:=u6.inv_tup r;obtain⟨b,w,rfl,h2,F⟩:=u6.inv_tup n;have l:=E.length;have d:=F.length;cases xs with
 |nil=>cases E;exact DC c s σ H _ _ v u R I g i ⟨a,b,w,rfl,rfl,h1,h2,k _ H<|VQ.now m (.tup h2 F) q.2⟩
 |cons j h =>
  refine GX c s σ H _ _ v u R I g i ⟨a,b,vs,w,rfl,rfl,h1,h2,?_,by rw[<-l,<-d];exact q.1,λz=>?_,λ_ p hp=>k _ _<|VQ.laidT m .refl (E.append F) hp q.2⟩;intro z;subst z;simp at l;subst z;have:ys=[]:=by simpa using d
  subst this;rw[Nh]at q;exact k _ H<|VQ.now m (.tup h1 E) q.2
 exact Kt c s σ H f e v u R I g i ⟨x,y,M,ρ,Q,m,r,n,q,k⟩
def ny(n:Nat):C5:=λds M Q=>match ds with
 | [.ref m]=>∃xs ys,M[n]?=b7 (.lst xs)/\M[m]?=b7 (.lst ys)/\n≠m/\xs.length+ys.length<=sizeLine/\Q .non (M.set n<|.lst<|xs++ys)
 |_=>False
theorem yP:G9 X "list.extend" (iI X.K ny):=by
 rintro p s σ H x xs v us R I A y ⟨n,a,ds,M,ρ,Q,j,g,c,f,q,k⟩;unfold ny at q;split at q;rename_i m;obtain⟨ys,E,e,l,u,o,q⟩:=q
 first|have z:=Reps.inv_cons f|have z:=ay.inv_cons f
 clear f;obtain⟨_,_,rfl,w,f⟩:=z;cases f;obtain⟨b,rfl,t⟩:=u6.inv_ref w;obtain⟨vs,d,r⟩:=c.obj n a _ g e;obtain⟨D,h,i⟩:=c.obj m b _ t l;obtain⟨B,C⟩:=c.write g e d<|r.append i;exact AS p s σ H x _ v us R I A y ⟨a,b,vs,D,j,rfl,d,h,by rw[<-r.length,<-i.length];exact o,k _ _ ⟨.non,_,ρ,B,C,.non,q⟩⟩;exact q.elim
end L2
namespace Srt
open PySem PySem.W PyProof.Rows
noncomputable def run{α:Type}(c:Nat->Nat->Bool):KasT α->α
 |.ret a=>a
 |.ask i j k=>run c<|k<|c i j
theorem ig{α β:Type}{c:Nat->Nat->Bool}{f:α->KasT β}:∀t:KasT α,run c (t.bind f)=run c (f<|run c t)
 |.ret a=>rfl
 |.ask i j k=>ig<|k<|c i j
def Bd{α:Type}(n:Nat):KasT α->Prop
 |.ret _=>True
 |.ask i j k=>i<n/\j<n/\∀b,Bd n<|k b
def All{α:Type}(P:α->Prop):KasT α->Prop
 |.ret a=>P a
 |.ask _ _ k=>∀b,All P<|k b
theorem All.mono{α:Type}{P Q:α->Prop}(h:∀a,P a->Q a):∀t:KasT α,All P t->All Q t
 |.ret a,q=>h a q
 |.ask _ _ k,q=>λb=>All.mono h (k b)<|q b
theorem All.bind{α β:Type}{P:β->Prop}{f:α->KasT β}:∀t:KasT α,All (λa=>All P<|f a) t->All P (t.bind f)
 |.ret a,q=>q
 |.ask _ _ k,q=>λb=>All.bind (k b)<|q b
theorem Bd.bindA{α β:Type}{n:Nat}{f:α->KasT β}:∀t:KasT α,Bd n t->All (λa=>Bd n<|f a) t->Bd n (t.bind f)
 |.ret a,_,q=>q
 |.ask _ _ k,b,q=>⟨b.1,b.2.1,λx=>Bd.bindA (k x) (b.2.2 x)<|q x⟩
theorem All.run{α:Type}{P:α->Prop}{c:Nat->Nat->Bool}:∀t:KasT α,All P t->P (Srt.run c t)
 |.ret a,q=>q
 |.ask i j k,q=>All.run (k<|c i j)<|q _
theorem wp_run{α:Type}{cmp:Nat->Nat->(Bool->f8->Prop)->f8->Prop}{c:Nat->Nat->Bool}{n:Nat}{s:f8}{Q:α->f8->Prop}(hc:∀i j (C:Bool->f8->Prop),i<n->j<n->C (c i j) s->cmp i j C s):∀t:KasT α,Bd n t->Q (run c t) s->t.kasWp cmp Q s
 |.ret a,_,q=>q
 |.ask i j k,b,q=>hc i j _ b.1 b.2.1<|wp_run hc (k<|c i j) (b.2.2 _) q
structure MD(c:Nat->Nat->Bool):Prop where
 irr:∀a,c a a=c5
 tr:∀a b d,c a b=b9->c b d=b9->c a d=b9
 neg:∀a b d,c a d=b9->c a b=b9\/c b d=b9
section
variable{c:Nat->Nat->Bool}(O:MD c)
def le(c:Nat->Nat->Bool)(a b:Nat):Prop:=c b a=c5
theorem le_refl(O:MD c)(a:Nat):le c a a:=O.irr a
theorem le_trans(O:MD c)(h1:le c a b)(h2:le c b d):le c a d:=by
 unfold le at *;cases q:c d a with
 |false=>rfl
 |true=>rcases O.neg d b a q with h|h;rw[h2]at h;cases h;rw[h1]at h;cases h
theorem le_of_lt(O:MD c)(h:c a b=b9):le c a b:=by
 unfold le;cases q:c b a with
 |false=>rfl
 |true=>have:=O.tr a b a h q;rw[O.irr]at this;cases this
noncomputable abbrev at_(p:Array Nat)(k:Nat):Nat:=p.getD k 0
def Up(c:Nat->Nat->Bool)(p:Array Nat)(m:Nat):Prop:=∀i j,i<=j->j<m->le c (at_ p i) (at_ p j)
def Dn(c:Nat->Nat->Bool)(p:Array Nat)(m:Nat):Prop:=∀i j,i<=j->j<m->le c (at_ p j) (at_ p i)
def Pg(c:Nat->Nat->Bool)(p:Array Nat)(a b:Nat):Prop:=∀i j,a<=i->i<b->a<=j->j<b->le c (at_ p i) (at_ p j)
theorem Up.one(O:MD c)(p:Array Nat):Up c p 1:=λi j a L=>by
 have:i=j:=by lia
 subst this;exact le_refl O _
theorem Up.snoc(O:MD c)(h:Up c p n)(h1:1<=n)(g:le c (at_ p<|n-1) (at_ p n)):Up c p (n+1):=λi j a L=>by
 by_cases b:j<n;exact h i j a b;have:j=n:=by lia
 subst this;by_cases hi:i=j;subst hi;exact le_refl O _;exact le_trans O (h i (j-1) (by lia)<|by lia) g
theorem Dn.snoc(O:MD c)(h:Dn c p n)(h1:1<=n)(g:le c (at_ p n) (at_ p<|n-1)):Dn c p (n+1):=λi j a L=>by
 by_cases b:j<n;exact h i j a b;have:j=n:=by lia
 subst this;by_cases hi:i=j;subst hi;exact le_refl O _;exact le_trans O g<|h i (j-1) (by lia)<|by lia
theorem iW(hj:j<=p.size)(k:Nat):at_ (MK p i j) k=if i<=k/\k<j then at_ p (i+j-1-k)else at_ p k:=by have e:=getElem?_mirror_all (xs:=p) (i:=i) hj k;unfold at_ MK;rw[OJ,e];by_cases h:i<=k/\k<j;rw[p0 h,p0 h,OJ];rw[p4 h,p4 h,OJ]
theorem va(b:k<p.size)(a:d<=k)(i:Nat):at_ (bubble p k d) i=if i=k-d then at_ p k else if k-d<i/\i<=k then at_ p (i-1)else at_ p i:=by have e:=getElem?_bubble (xs:=p) b d a i;unfold at_;rw[OJ,e];by_cases h:i=k-d;rw[p0 h,p0 h,OJ];rw[p4 h,p4 h];by_cases h':k-d<i/\i<=k;rw[p0 h',p0 h',OJ];rw[p4 h',p4 h',OJ]
theorem Dn.rev(h:Dn c p n)(f:n<=p.size):Up c (MK p 0 n) n:=λi j a L=>by rw[iW f,iW f,p0 ⟨A9 _,by lia⟩,p0 ⟨A9 _,L⟩];exact h _ _ (by lia)<|by lia
theorem Dn.revEq(O:MD c)(h:Dn c p n)(f:n<=p.size)(e:Pg c p a n):Dn c (MK p a n) n:=λi j b L=>by rw[iW f,iW f];by_cases h1:a<=i/\i<n;by_cases h2:a<=j/\j<n;rw[p0 h1,p0 h2];exact e _ _ (by lia) (by lia) (by lia) (by lia);exact p5 ⟨by lia,L⟩ h2;by_cases h2:a<=j/\j<n;rw[p4 h1,p0 h2];exact h _ _ (by lia) (by lia);rw[p4 h1,p4 h2];exact h _ _ b L
theorem wK(O:MD c):∀(f n:Nat),1<=n->Up c p n->Up c p (run c<|Nd p f n)/\n<=run c (Nd p f n)/\run c (Nd p f n)<=n+f /\(run c (Nd p f n)<n+f->c (at_ p<|run c<|Nd p f n) (at_ p<|run c (Nd p f n)-1)=b9)
 | 0,n,_,h=>⟨h,v6 _,v6 _,λz=>p5 z<|J4 _⟩
 |f+1,n,h1,h=>by
  show Up c p (run c<|if c (at_ p n) (at_ p<|n-1)=b9 then .ret n else Nd p f (n+1))/\n<=run c (if c (at_ p n) (at_ p<|n-1)=b9 then .ret n else Nd p f (n+1)) /\ run c (if c (at_ p n) (at_ p<|n-1)=b9 then .ret n else Nd p f (n+1))<=n+(f+1)/\(run c (if c (at_ p n) (at_ p<|n-1)=b9 then .ret n else Nd p f (n+1))<n+(f+1) -> c (at_ p<|run c<|if c (at_ p n) (at_ p<|n-1)=b9 then .ret n else Nd p f (n+1)) (at_ p<|run c (if c (at_ p n) (at_ p<|n-1)=b9 then .ret n else Nd p f (n+1))-1)=b9)
  by_cases q:c (at_ p n) (at_ p<|n-1)=b9;rw[p0 q];exact⟨h,v6 _,Qp _ _,λ_=>q⟩;rw[p4 q];obtain⟨a1,a2,a3,a4⟩:=wK O f (n+1) (by lia) (h.snoc O h1<|by unfold le;simpa using q);exact⟨a1,by lia,by lia,λz=>a4<|by lia⟩
theorem fj:(MK p i j).size=p.size:=mirror_size _ _ _ _
def CI(c:Nat->Nat->Bool)(z n m:Nat)(r:Array Nat×Nat×Nat):Prop:=r.1.size=z/\Dn c r.1 r.2.1/\n<=r.2.1/\r.2.1<=m/\r.2.2+1<=r.2.1/\Pg c r.1 (r.2.1-(r.2.2+1)) r.2.1
def rX(c:Nat->Nat->Bool)(z nrem:Nat)(r:Nat×Array Nat):Prop:=r.2.size=z/\Up c r.2 r.1/\1<=r.1/\r.1<=nrem
def wM(c:Nat->Nat->Bool)(p:Array Nat)(k m:Nat):Prop:=m<=k/\(∀i,i<m->le c (at_ p i) (at_ p k))/\∀i,m<=i->i<k->c (at_ p k) (at_ p i)=b9
theorem mh(O:MD c):∀(f:Nat) (p:Array Nat) (n q:Nat),q+1<=n->n+f<=p.size->Dn c p n->Pg c p (n-(q+1)) n ->CI c p.size n (n+f) (run c<|K2 f p n q)
 | 0,p,n,q,h1,h2,hd,he=>⟨rfl,hd,v6 _,v6 _,h1,he⟩
 |f+1,p,n,q,h1,h2,hd,he=>by
  have hn:n<=p.size:=by lia
  show CI c p.size n (n+(f+1)) (run c<|if c (at_ p n) (at_ p<|n-1)=b9 then(if q > 0 then K2 f (MK p (n-(q+1)) n) (n+1) 0 else K2 f p (n+1) 0) else .ask (at_ p<|n-1) (at_ p n) λd=>if d=b9 then .ret (p,n,q)else K2 f p (n+1) (q+1));by_cases hc:c (at_ p n) (at_ p<|n-1)=b9;rw[p0 hc];by_cases hq:q > 0;rw[p0 hq];have hd':Dn c (MK p (n-(q+1)) n) (n+1):=by refine(hd.revEq O hn he).snoc O (by lia) ?_;rw[iW hn,iW hn,p4 (by lia),p0 ⟨by lia,by lia⟩];exact le_trans O (le_of_lt O hc)<|he _ _ (by lia) (by lia) (by lia)<|by lia
  have r:=mh O f (MK p (n-(q+1)) n) (n+1) 0 (by lia) (by rw[fj];lia) hd' (λi j a1 a2 a3 a4=>by
   have:i=n:=by lia
   have:j=n:=by lia
   subst_vars
   exact le_refl O _)
  obtain⟨a1,a2,a3,a4,a5,a6⟩:=r;exact⟨a1.trans fj,a2,by lia,by lia,a5,a6⟩;rw[p4 hq];have r:=mh O f p (n+1) 0 (by lia) (by lia) (hd.snoc O (by lia)<|le_of_lt O hc) (λi j a1 a2 a3 a4=>by
   have:i=n:=by lia
   have:j=n:=by lia
   subst_vars
   exact le_refl O _)
  obtain⟨a1,a2,a3,a4,a5,a6⟩:=r;exact⟨a1,a2,by lia,by lia,a5,a6⟩;rw[p4 hc];show CI c p.size n (n+(f+1)) (run c<|if c (at_ p<|n-1) (at_ p n)=b9 then .ret (p,n,q)else K2 f p (n+1) (q+1));by_cases hc':c (at_ p<|n-1) (at_ p n)=b9;rw[p0 hc'];exact⟨rfl,hd,v6 _,by show n<=_;lia,h1,he⟩;rw[p4 hc'];have l1:le c (at_ p n) (at_ p<|n-1):=by unfold le;simpa using hc'
  have l2:le c (at_ p<|n-1) (at_ p n):=by unfold le;simpa using hc
  have r:=mh O f p (n+1) (q+1) (by lia) (by lia) (hd.snoc O (by lia) l1) (λi j a1 a2 a3 a4=>by by_cases hi:i=n;by_cases hj:j=n;subst hi hj;exact le_refl O _;subst hi;exact le_trans O l1 (he _ _ (by lia) (by lia) (by lia)<|by lia);by_cases hj:j=n;subst hj;exact le_trans O (he _ _ (by lia) (by lia) (by lia)<|by lia) l2;exact he _ _ (by lia) (by lia) (by lia)<|by lia);obtain⟨a1,a2,a3,a4,a5,a6⟩:=r;exact⟨a1,a2,by lia,by lia,a5,a6⟩
theorem sD(O:MD c)(h1:1<=n)(f:n<=nrem)(hz:nrem<=p.size)(d:Dn c p n):rX c p.size nrem (run c<|kas_tail3 n nrem p):=by unfold kas_tail3;rw[ig];obtain⟨C,a,b,_⟩:=wK O (nrem-n) n h1 (d.rev<|by lia);exact⟨fj,C,J1 h1 a,J1 b<|by lia⟩
theorem lG(O:MD c)(h1:1<=n)(x:n+1<=nrem)(hz:nrem<=p.size)(m:Pg c p 0 n)(k:c (at_ p n) (at_ p<|n-1)=b9):rX c p.size nrem (run c<|Pm n nrem p):=by
 have l:Dn c p (n+1):=by refine Dn.snoc O (λi j o L=>m _ _ (by lia) (by lia) (by lia)<|by lia) h1<|le_of_lt O k
 unfold Pm;rw[ig];obtain⟨a,g,u,v,w,h⟩:=mh O (nrem-(n+1)) p (n+1) 0 (by lia) (by lia) l (λi j C r s t=>by
  have:i=n:=by lia
  have:j=n:=by lia
  subst_vars
  exact le_refl O _)
 by_cases q:(run c<|K2 (nrem-(n+1)) p (n+1) 0).2.2 > 0;rw[p0 q];obtain⟨d,b,e,f⟩:=sD O (p:=MK (run c<|K2 (nrem-(n+1)) p (n+1) 0).1 ((run c<|K2 (nrem-(n+1)) p (n+1) 0).2.1-((run c<|K2 (nrem-(n+1)) p (n+1) 0).2.2+1)) (run c<|K2 (nrem-(n+1)) p (n+1) 0).2.1) (n:=(run c<|K2 (nrem-(n+1)) p (n+1) 0).2.1) (nrem:=nrem) (by lia) (by lia) (by rw[fj,a];exact hz)<|g.revEq O (by rw[a];lia) h;exact⟨d.trans<|fj.trans a,b,e,f⟩;rw[p4 q];obtain⟨d,b,e,f⟩:=sD O (p:=(run c<|K2 (nrem-(n+1)) p (n+1) 0).1) (n:=(run c<|K2 (nrem-(n+1)) p (n+1) 0).2.1) (nrem:=nrem) (by lia) (by lia) (by rw[a];exact hz) g;exact⟨d.trans a,b,e,f⟩
theorem Cj(O:MD c)(h1:1<=nrem)(hz:nrem<=p.size):rX c p.size nrem (run c<|kas_count nrem p):=by
 unfold kas_count;rw[ig];obtain⟨C,a,o,l⟩:=wK O (nrem-1) 1 (v6 _)<|Up.one O p;generalize run c (Nd p (nrem-1) 1)=n at C a o l;by_cases k:(n==nrem)=b9;rw[p0 k];exact⟨rfl,C,a,by show n<=nrem;lia⟩;rw[p4 k];have x:n≠nrem:=by simpa using k
 have t:c (at_ p n) (at_ p<|n-1)=b9:=l (by lia);by_cases h2:n > 1;rw[p0 h2];show rX c p.size nrem (run c<|if c (at_ p 0) (at_ p<|n-1)=b9 then .ret (n,p)else Pm n nrem (MK p 0 n));by_cases f:c (at_ p 0) (at_ p<|n-1)=b9;rw[p0 f];exact⟨rfl,C,a,by show n<=nrem;lia⟩;rw[p4 f];have g:n<=p.size:=by lia
 have y:le c (at_ p<|n-1) (at_ p 0):=by unfold le;simpa using f
 have m:Pg c p 0 n:=λi j b d u v=>le_trans O (C i (n-1) (by lia)<|by lia)<|le_trans O y<|C 0 j (by lia) v;have e:Pg c (MK p 0 n) 0 n:=λi j b d u v=>by rw[iW g,iW g,p0 ⟨b,d⟩,p0 ⟨u,v⟩];exact m _ _ (by lia) (by lia) (by lia)<|by lia
 have h:c (at_ (MK p 0 n) n) (at_ (MK p 0 n)<|n-1)=b9:=by rw[iW g,iW g,p4 (by lia),p0 ⟨by lia,by lia⟩];rcases O.neg _ (at_ p<|0+n-1-(n-1)) _ t with z|z;exact z;have:=m (n-1) (0+n-1-(n-1)) (by lia) (by lia) (by lia) (by lia);unfold le at this;rw[this]at z;cases z
 obtain⟨q,r,s,w⟩:=lG O (p:=MK p 0 n) (n:=n) (nrem:=nrem) (by lia) (by lia) (by rw[fj];exact hz) e h;exact⟨q.trans fj,r,s,w⟩;rw[p4 h2];have:n=1:=by lia
 subst this;exact lG O (by lia) (by lia) hz (λi j b d u v=>by
  have:i=0:=by lia
  have:j=0:=by lia
  subst_vars
  exact le_refl O _) t
theorem nA(O:MD c)(hu:Up c p k):∀(f l r:Nat),l<=r->r<=k->r-l<=f->(∀i,i<l->le c (at_ p i) (at_ p k))->(∀i,r<=i->i<k->c (at_ p k) (at_ p i)=b9) ->wM c p k (run c<|NE p k f l r)
 | 0,l,r,h1,h2,h3,h4,h5=>⟨by show l<=k;lia,h4,λi a1 a2=>h5 i (by have a1':l<=i:=a1;lia) a2⟩
 |f+1,l,r,h1,h2,h3,h4,h5=>by
  show wM c p k (run c<|if l ≥ r then .ret l else .ask (at_ p k) (at_ p<|(l+r) / 2) λc=>if c=b9 then NE p k f l ((l+r) / 2)else NE p k f ((l+r) / 2+1) r);by_cases hl:l ≥ r;rw[p0 hl];exact⟨by show l<=k;lia,h4,λi a1 a2=>h5 i (by have a1':l<=i:=a1;lia) a2⟩;rw[p4 hl];show wM c p k (run c<|if c (at_ p k) (at_ p<|(l+r) / 2)=b9 then NE p k f l ((l+r) / 2)else NE p k f ((l+r) / 2+1) r);by_cases hc:c (at_ p k) (at_ p<|(l+r) / 2)=b9;rw[p0 hc];refine nA O hu f l ((l+r) / 2) (by lia) (by lia) (by lia) h4 λi a1 a2=>?_;rcases O.neg _ (at_ p i) _ hc with z|z;exact z;have:=hu ((l+r) / 2) i a1 a2;unfold le at this;rw[this]at z;cases z;rw[p4 hc];have lm:le c (at_ p<|(l+r) / 2) (at_ p k):=by unfold le;simpa using hc
  refine nA O hu f ((l+r) / 2+1) r (by lia) h2 (by lia) (λi hi=>?_) h5;exact le_trans O (hu i ((l+r) / 2) (by lia)<|by lia) lm
theorem Cs(O:MD c)(f:k<p.size)(g:Up c p k)(l:m<=k)(h1:∀i,i<m->le c (at_ p i) (at_ p k))(h2:∀i,m<=i->i<k->c (at_ p k) (at_ p i)=b9):Up c (bubble p k<|k-m) (k+1):=by
 intro i j d L;have e:k-(k-m)=m:=by lia
 rw[va f (by lia),va f (by lia),e];by_cases hi:i=m;rw[p0 hi];by_cases h:j=m;rw[p0 h];exact le_refl O _;rw[p4 h,p0 ⟨by lia,by lia⟩];exact le_of_lt O (h2 _ (by lia)<|by lia);rw[p4 hi];by_cases a:m<i/\i<=k;rw[p0 a,p4 (by lia),p0 ⟨by lia,by lia⟩];exact g _ _ (by lia) (by lia);rw[p4 a];by_cases h:j=m;rw[p0 h];exact h1 i (by lia);rw[p4 h];by_cases b:m<j/\j<=k;rw[p0 b];exact g _ _ (by lia) (by lia);rw[p4 b];exact g _ _ d<|by lia
theorem Cu(O:MD c):∀(f:Nat) (p:Array Nat) (k:Nat),k+f<=p.size->Up c p k->(run c<|kas_bin f p k).size=p.size/\Up c (run c<|kas_bin f p k) (k+f)
 | 0,p,k,_,h=>⟨rfl,h⟩
 |f+1,p,k,hz,h=>by show (run c<|(NE p k k 0 k).bind λl=>kas_bin f (bubble p k<|k-l)<|k+1).size=p.size/\Up c (run c<|(NE p k k 0 k).bind λl=>kas_bin f (bubble p k<|k-l)<|k+1) (k+(f+1));rw[ig];obtain⟨a1,a2,a3⟩:=nA O h k 0 k (A9 _) (v6 _) (by lia) (λi hi=>p5 hi<|NH _) λi a1 a2=>p5 a2 (by lia);obtain⟨b1,b2⟩:=Cu O f (bubble p k<|k-run c (NE p k k 0 k)) (k+1) (by rw[bubble_size];lia)<|Cs O (by lia) h a1 a2 a3;exact⟨b1.trans<|bubble_size _ _ _,by rw[show k+(f+1)=k+1+f by lia];exact b2⟩
theorem Gp(O:MD c)(h1:1<=n):(run c<|N5 n).size=n/\Up c (run c<|N5 n) n:=by
 have hs:(Qf<|C2 n).size=n:=by simp
 unfold N5;rw[ig];obtain⟨C,a,b,t⟩:=Cj O (p:=Qf<|C2 n) h1 (by rw[hs];exact v6 _);rw[hs]at C;generalize run c (kas_count n<|Qf<|C2 n)=r at C a b t;by_cases g:r.1<n;rw[p0 g];obtain⟨d,e⟩:=Cu O (n-max r.1 1) r.2 (max r.1 1) (by rw[C];lia) (by rw[show max r.1 1=r.1 by lia];exact a);exact⟨d.trans C,by rw[show n=max r.1 1+(n-max r.1 1) by lia];simpa using e⟩;rw[p4 g];have f:r.1=n:=by lia
 rw[f]at a;exact⟨C,a⟩
def E8(n:Nat)(p:Array Nat):Prop:=p.toList.Perm<|C2 n
theorem E8.lt(h:E8 n p)(a:0<n)(k:Nat):at_ p k<n:=by
 unfold at_;rw[OJ];cases e:p[k]? with
 |none=>simpa using a
 |some x =>
  have:x∈p.toList:=by rw[<-G4]at e;exact E6 e
  have:=h.mem_iff.mp this;simpa using this
theorem E8.rev(h:E8 n p):E8 n (MK p i j):=(Array.perm_iff_toList_perm.mp<|mirror_perm p i j<|(j-i) / 2).trans h
theorem E8.bub(h:E8 n p):E8 n (bubble p i j):=(Array.perm_iff_toList_perm.mp<|bubble_perm p i j).trans h
section
variable{n:Nat}(h0:0<n)
theorem Cz(h0:0<n)(h:E8 n p):∀(f k:Nat),Bd n (Nd p f k)
 | 0,_=>trivial
 |f+1,k=>⟨h.lt h0 _,h.lt h0 _,λb=>by cases b with
  |true=>exact trivial
  |false=>exact Cz h0 h f<|k+1⟩
theorem rN(h0:0<n):∀(f:Nat) (p:Array Nat) (k q:Nat),E8 n p->Bd n (K2 f p k q)/\All (λr=>E8 n r.1) (K2 f p k q)
 | 0,p,k,q,h=>⟨trivial,h⟩
 |f+1,p,k,q,h=>by
  have key:∀b,(Bd n<|if b=b9 then(if q > 0 then K2 f (MK p (k-(q+1)) k) (k+1) 0 else K2 f p (k+1) 0) else KasT.ask (p.getD (k-1) 0) (p.getD k 0) λd=>if d=b9 then KasT.ret (p,k,q)else K2 f p (k+1) (q+1))/\All (λr=>E8 n r.1) (if b=b9 then(if q > 0 then K2 f (MK p (k-(q+1)) k) (k+1) 0 else K2 f p (k+1) 0) else KasT.ask (p.getD (k-1) 0) (p.getD k 0) λd=>if d=b9 then KasT.ret (p,k,q)else K2 f p (k+1) (q+1)):=λb=>by
   cases b with
   |true=>rw[p0 rfl];by_cases hq:q > 0;rw[p0 hq];exact rN h0 f _ _ _ h.rev;rw[p4 hq];exact rN h0 f _ _ _ h
   |false =>
    rw[p4<|by simp];have a:=rN h0 f p (k+1) (q+1) h;refine⟨⟨h.lt h0 _,h.lt h0 _,λb=>?_⟩,λb=>?_⟩;cases b with
    |true=>exact trivial
    |false=>exact a.1
    cases b with
    |true=>exact h
    |false=>exact a.2
  exact⟨⟨h.lt h0 _,h.lt h0 _,λb=>(key b).1⟩,λb=>(key b).2⟩
theorem lY(c:0<n)(h:E8 n p):Bd n (kas_tail3 k m p)/\All (λr=>E8 n r.2) (kas_tail3 k m p):=by
 have v:∀{t:KasT Nat}{Q:Prop},Q->All (λ_=>Q) t:=λ{t Q} q=>by
  induction t with
  |ret a=>exact q
  |ask i j k d=>exact λb=>d b
 unfold kas_tail3;exact⟨Bd.bindA _ (Cz c h.rev _ _)<|v trivial,All.bind _<|v h.rev⟩
theorem fH(a:0<n)(h:E8 n p):Bd n (Pm k m p)/\All (λr=>E8 n r.2) (Pm k m p):=by unfold Pm;obtain⟨b,c⟩:=rN a (m-(k+1)) p (k+1) 0 h;refine⟨Bd.bindA _ b<|c.mono<|λr i=>?_,All.bind _<|c.mono<|λr i=>?_⟩;by_cases q:r.2.2 > 0;rw[p0 q];exact(lY a i.rev).1;rw[p4 q];exact(lY a i).1;by_cases q:r.2.2 > 0;rw[p0 q];exact(lY a i.rev).2;rw[p4 q];exact(lY a i).2
theorem Fo(c:0<n)(h:E8 n p):Bd n (kas_count m p)/\All (λr=>E8 n r.2) (kas_count m p):=by
 have v:∀{t:KasT Nat}{Q:Nat->Prop},(∀a,Q a)->All Q t:=λ{t Q} q=>by
  induction t with
  |ret a=>exact q a
  |ask i j k d=>exact λb=>d b
 unfold kas_count;refine⟨Bd.bindA _ (Cz c h _ _)<|v λk=>?_,All.bind _<|v λk=>?_⟩;by_cases h1:(k==m)=b9;rw[p0 h1];exact trivial;rw[p4 h1];by_cases h2:k > 1;rw[p0 h2];refine⟨h.lt c _,h.lt c _,λb=>?_⟩;cases b with
 |true=>exact trivial
 |false=>exact(fH c h.rev).1
 rw[p4 h2];exact(fH c h).1;by_cases h1:(k==m)=b9;rw[p0 h1];exact h;rw[p4 h1];by_cases h2:k > 1;rw[p0 h2];intro b;cases b with
 |true=>exact h
 |false=>exact(fH c h.rev).2
 rw[p4 h2];exact(fH c h).2
theorem qK(h0:0<n)(h:E8 n p):∀(f l r:Nat),Bd n (NE p k f l r)
 | 0,_,_=>trivial
 |f+1,l,r=>by
  show Bd n (if l ≥ r then KasT.ret l else KasT.ask (p.getD k 0) (p.getD ((l+r) / 2) 0) λc=>if c=b9 then NE p k f l ((l+r) / 2)else NE p k f ((l+r) / 2+1) r);by_cases hl:l ≥ r;rw[p0 hl];exact trivial;rw[p4 hl];refine⟨h.lt h0 _,h.lt h0 _,λb=>?_⟩;cases b with
  |true=>exact qK h0 h f _ _
  |false=>exact qK h0 h f _ _
theorem xZ(h0:0<n):∀(f:Nat) (p:Array Nat) (k:Nat),E8 n p->Bd n (kas_bin f p k)/\All (λr=>E8 n r) (kas_bin f p k)
 | 0,p,k,h=>⟨trivial,h⟩
 |f+1,p,k,h=>by
  have triv:∀{t:KasT Nat}{Q:Nat->Prop},(∀a,Q a)->All Q t:=λ{t Q} q=>by
   induction t with
   |ret a=>exact q a
   |ask i j k ih=>exact λb=>ih b
  exact⟨Bd.bindA _ (qK h0 h _ _ _)<|triv λl=>(xZ h0 f _ _ h.bub).1,All.bind _<|triv λl=>(xZ h0 f _ _ h.bub).2⟩
theorem sort_bd(a:0<n):Bd n (N5 n)/\All (λr=>E8 n r) (N5 n):=by
 have h:E8 n (Qf<|C2 n):=by unfold E8;simp
 obtain⟨b,c⟩:=Fo a (m:=n) h;unfold N5;refine⟨Bd.bindA _ b<|c.mono λr i=>?_,All.bind _<|c.mono λr i=>?_⟩;by_cases g:r.1<n;rw[p0 g];exact(xZ a _ _ _ i).1;rw[p4 g];exact trivial;by_cases g:r.1<n;rw[p0 g];exact(xZ a _ _ _ i).2;rw[p4 g];exact i
end
theorem sort_list{α:Type}[Inhabited α]{lt:α->α->Bool}(xs:List α)(h1:1<=xs.length)(r:∀a∈xs,lt a a=c5)(tr:∀a∈xs,∀b∈xs,∀d∈xs,lt a b=b9->lt b d=b9->lt a d=b9)(n:∀a∈xs,∀b∈xs,∀d∈xs,lt a d=b9->lt a b=b9\/lt b d=b9):let c:=λi j=>if i<xs.length then(if j<xs.length then lt (xs.getD i default) (xs.getD j default)else b9)else c5
  let p:=run c<|N5 xs.length
  let ys:=p.toList.map λi=>xs.getD i default
  ys.Perm xs/\ys.Pairwise λa b=>lt b a=c5:=by
 intro c p ys;have m:∀i,i<xs.length->xs.getD i default∈xs:=λi hi=>by rw[L1,w9 hi];exact Nn hi
 have O:MD c:=by refine⟨λa=>?_,λa b d=>?_,λa b d=>?_⟩;show (if a<xs.length then(if a<xs.length then lt _ _ else b9)else c5)=c5;by_cases f:a<xs.length;rw[p0 f,p0 f];exact r _<|m a f;rw[p4 f];show (if a<xs.length then(if b<xs.length then lt _ _ else b9)else c5)=b9->(if b<xs.length then(if d<xs.length then lt _ _ else b9)else c5)=b9->(if a<xs.length then(if d<xs.length then lt _ _ else b9)else c5)=b9;by_cases f:a<xs.length;by_cases h:b<xs.length;by_cases g:d<xs.length;rw[p0 f,p0 h,p0 h,p0 g,p0 f,p0 g];exact tr _ (m a f) _ (m b h) _<|m d g;intro _ _;rw[p0 f,p4 g];rw[p4<|show ¬b<xs.length from h];intro _ z;rw[p4 h]at z;cases z;intro z;rw[p4 f]at z;cases z;show (if a<xs.length then(if d<xs.length then lt _ _ else b9)else c5)=b9->(if a<xs.length then(if b<xs.length then lt _ _ else b9)else c5)=b9\/(if b<xs.length then(if d<xs.length then lt _ _ else b9)else c5)=b9;by_cases f:a<xs.length;by_cases h:b<xs.length;by_cases g:d<xs.length;rw[p0 f,p0 g,p0 f,p0 h,p0 h,p0 g];exact n _ (m a f) _ (m b h) _<|m d g;intro _;right;rw[p0 h,p4 g];intro _;left;rw[p0 f,p4 h];intro z;rw[p4 f]at z;cases z
 have E:E8 xs.length p:=All.run _ (sort_bd<|by lia).2;obtain⟨hs,U⟩:=Gp O h1;refine⟨?_,?_⟩;have e:(C2 xs.length).map (λi=>xs.getD i default)=xs:=by apply List.ext_getElem?;intro i;rw[C6];by_cases hi:i<xs.length;rw[List.getElem?_range hi];simp[L1,w9 hi];rw[NI (by simpa using hi),NI<|by simpa using hi];rfl
 have:=E.map λi=>xs.getD i default;rw[e]at this;exact this;show (p.toList.map λi=>xs.getD i default).Pairwise λa b=>lt b a=c5;rw[PK];intro i j hi L t;rw[v4,E1]at hi L;have u:p.size=xs.length:=hs;have l:=U i j (by lia) (by lia);have o:∀k,at_ p k<xs.length:=λk=>E.lt (by lia) k;unfold le at l;have l':(if at_ p j<xs.length then(if at_ p i<xs.length then lt (xs.getD (at_ p j) default) (xs.getD (at_ p i) default)else b9)else c5)=c5:=l;rw[p0<|o j,p0<|o i]at l';have q:p.toList[i]=at_ p i:=by unfold at_;simp[Nk,hi]
 have s:p.toList[j]=at_ p j:=by unfold at_;simp[Nk,L]
 rw[List.getElem_map,List.getElem_map,q,s];exact l'
end
end Srt
namespace L2
open PySem PySem.Spec PyProof.Rows DL
def zt(A:f7)(s:f8)(x y:c7)(k:Bool):Prop:=∀(g:d5) (w:c9) (E:c7->f8->Prop) (Q:c7->f8->Prop),Q (.bool k) s->g7 (h7 g w) A (richCompare .Lt x y) Q E s
inductive LexAt(A:f7)(s:f8):List c7->List c7->Bool->Prop
 |nn:LexAt A s [] [] c5
 |nc {y:c7}{ys:List c7}:LexAt A s [] (y::ys) b9
 |cn {x:c7}{xs:List c7}:LexAt A s (x::xs) [] c5
 |eq {x y:c7}{xs ys:List c7}{k:Bool} (h:Nf A s x y b9) (t:LexAt A s xs ys k):LexAt A s (x::xs) (y::ys) k
 |ne {x y:c7}{xs ys:List c7}{k:Bool} (h:Nf A s x y c5) (t:zt A s x y k):LexAt A s (x::xs) (y::ys) k
section
open PySem.SeqAt
open PySem.AutoSeq1 (wpAny_loadPart')
open PySem.MeetsSeq PySem.MeetsSeq2 PySem.MeetsSeq3
theorem sB(l b:d6)(a i:Array c7)(n C:Nat)(u f:Option d6)(D o:Array (Option c7))(k:Bool):Meets (Builtin.«tuple.__lt__» ⟨[.ref l,.ref b],[]⟩)
   (λA R s=>s.heap.get? l=b7 (⟨.type "tuple",u,.seq a n,D⟩:d7)/\s.heap.get? b=b7 { cls:=.type "tuple",dict:=f,data:=.seq i C,slots:=o } /\ LexAt A.in1 s a.toList i.toList k/\R (.ok<|.ret<|.bool k) s) :=
 .of_wp λp w A R s h=>by
  obtain⟨hp,g,d,r,q⟩:=s;obtain⟨z,v,c,h⟩:=h;have M:=AutoSeq1.sub_tuple_tuple
  wp_walk using SN z,SN v,Nw _ (λaL b s'=>b.1=b8/\s'=⟨hp,g,d,r,q⟩/\∃(vs e:List c7),aL=vs.zip e /\ LexAt A.in1 ⟨hp,g,d,r,q⟩ vs e k/\vs.length+i.size=e.length+a.size) _
  case turn =>
   rintro⟨y,x⟩ aL b s' ⟨hb',rfl,vs,e,hz,hlex,hlen⟩;cases hlex with
   |nn=>cases hz
   |nc=>cases hz
   |cn=>cases hz
   |eq j t =>
    rw[O5]at hz;injection hz with hyx hrest;injection hyx with hy c;subst hy c;refine t6<|j p w _ _ ?_
    wp_walk
    exact⟨rfl,rfl,_,_,hrest,t,by simp only[D4]at hlen;lia⟩
   |ne j t =>
    rw[O5]at hz;injection hz with hyx hrest;injection hyx with hy c;subst hy c;refine t6<|j p w _ _ ?_;have m:=t p w
    wp_walk using m
    exact⟨_,rfl,by simpa using h⟩
  case fin =>
   rintro⟨b1,b2⟩ s' ⟨hb',rfl,vs,e,hz,hlex,hlen⟩;simp only at hb';subst hb';have B:k=decide (a.size<i.size):=by
    cases hlex with
    |nn=>simp only[C9]at hlen;exact(dF_<|by lia).symm
    |nc=>simp only[C9,D4]at hlen;exact(dT_<|by lia).symm
    |cn=>simp only[C9,D4]at hlen;exact(dF_<|by lia).symm
    |eq _ _=>rw[O5]at hz;cases hz
    |ne _ _=>rw[O5]at hz;cases hz
   rw[B]at h
   wp_walk
   exact⟨_,rfl,by simpa [Builtin.Tuple.tupleCompareSizes]using h⟩
  case h =>
   exact⟨rfl,rfl,a.toList,i.toList,rfl,c,by simp;lia⟩
end
theorem zt.tuples(v:s.heap.IsTuple l items)(u:s.heap.IsTuple b items2)(y:A.units<j8)(z:LexAt A.in1 s items.toList items2.toList k):zt A s (.ref l) (.ref b) k:=λq w E Q h=>by obtain⟨⟨r,t,g,C⟩,p,m,n,o⟩:=id v;obtain⟨⟨j,e,i,f⟩,d,a,B,c⟩:=id u;simp only at m o a c;subst m o a c;exact richCompare_meets_room (op:=.Lt) ⟨_,p,rfl⟩ ⟨_,d,rfl⟩ PySem.F.slot_tuple_lt PySem.F.entry_tuple_lt (PySem.F.args_tuple_lt_2 _ _) (sB l b items items2 n B t e C f k) ⟨p,d,z,show NR k≠Value.notImplemented/\Q (.bool k) s from⟨(λx=>nomatch x),h⟩⟩ y
noncomputable def rY(f g:D->D->Bool):List D->List D->Bool
 | [],[]=>c5
 | [],_::_=>b9
 |_::_,[]=>c5
 |x::xs,y::ys=>if f x y=b9 then rY f g xs ys else g x y
noncomputable def C8(M:u8):Nat->D->D->Bool
 |_,.int a,.int b=>decide<|a<b
 |_,.str a,.str b=>iF a b
 |n+1,.tup xs,.tup ys=>rY (u7 M n) (C8 M n) xs ys
 |_,_,_=>c5
noncomputable def zm(f g:D->D->Bool):List D->List D->Bool
 |x::xs,y::ys=>if f x y=b9 then zm f g xs ys else g x y
 |_,_=>b9
noncomputable def lH(M:u8):Nat->D->D->Bool
 |_,.int _,.int _=>b9
 |_,.str _,.str _=>b9
 |n+1,.tup xs,.tup ys=>zm (u7 M n) (lH M n) xs ys
 |_,_,_=>c5
theorem zt.ints(A:f7)(s:f8)(a:Int)(t:Tok)(c:Int)(u:Tok):zt A s (.int a t) (.int c u) (decide<|a<c):=λg w E Q h=>HT.rcLt_int A s a t c u g w E Q h
theorem zt.texts(A:f7)(s:f8)(a:c8)(t:Tok)(c:c8)(u:Tok):zt A s (.str a t) (.str c u) (iF a c):=λg w E Q h =>
 (PySem.P.lt_str (show Q (.bool<|decide<|a.cps.toList<c.cps.toList) s from h):g7 (h7 g w) A (j6 .Lt (.str a t)<|.str c u) Q E s)
theorem FN(I:t9 X pins σ H s)(Z:v9 X.K ρ M H):∀(n:Nat) (A:f7) (x y:D) (vx vy:V) (u v:c7),A.units+n<j8->u6 X.K ρ H x vx->aK vx u->u6 X.K ρ H y vy->aK vy v->v7 M n x=b9->v7 M n y=b9->lH M n x y=b9 ->zt A s u v (C8 M n x y):=by
 intro n;induction n with
 |zero =>
  intro A x y vx vy u v T L c g l o1 o2 m;cases L with
  |int a =>
   cases g with
   |int b=>obtain⟨t,rfl⟩:=c;obtain⟨t',rfl⟩:=l;exact zt.ints A s a t b t'
   |_=>simp[lH]at m
  |str a =>
   cases g with
   |str b=>obtain⟨t,rfl⟩:=c;obtain⟨t',rfl⟩:=l;exact zt.texts A s a t b t'
   |_=>simp[lH]at m
  |_=>simp[lH]at m
 |succ n U =>
  intro A x y vx vy u v T L c g l o1 o2 m;have F:A.units<j8:=by lia
  have i:A.in1.units+n<j8:=by show A.units+1+n<j8;lia
  have G:∀(ds es:List D) (vs E:List V) (its f:List c7),Reps X.K ρ H ds vs->ay vs its->Reps X.K ρ H es E->ay E f->ds.all (v7 M n)=b9->es.all (v7 M n)=b9->zm (u7 M n) (lH M n) ds es=b9 -> LexAt A.in1 s its f (rY (u7 M n) (C8 M n) ds es):=by
   intro ds;induction ds with
   |nil =>
    intro es vs E its f p w o j _ _ _;cases p;cases w;cases o with
    |nil=>cases j;exact .nn
    |cons _ _=>cases j;exact .nc
   |cons d ds hi =>
    intro es vs E its f p w o j B C k;cases p with
    |cons N p =>
     cases w with
     |cons Q w =>
      cases o with
      |nil=>cases j;exact .cn
      |@cons e _ S _ P o =>
       cases j with
       |cons R j=>rw[MX,D9]at B C;have z:=(lD I Z n A.in1 d _ _ _ _ _ i N Q P R B.1 C.1).1;rw[rY];rw[zm]at k;by_cases q:u7 M n d e=b9;rw[q]at z;rw[p0 q]at k ⊢;exact .eq z<|hi _ _ _ _ _ p w o j B.2 C.2 k;have h:=NY.mpr q;rw[h]at z;rw[p4 q]at k ⊢;exact .ne z<|U A.in1 _ _ _ _ _ _ i N Q P R B.1 C.1 k
  cases L with
  |int a =>
   cases g with
   |int b=>obtain⟨t,rfl⟩:=c;obtain⟨t',rfl⟩:=l;exact zt.ints A s a t b t'
   |_=>simp[lH]at m
  |str a =>
   cases g with
   |str b=>obtain⟨t,rfl⟩:=c;obtain⟨t',rfl⟩:=l;exact zt.texts A s a t b t'
   |_=>simp[lH]at m
  |tup q r =>
   cases g with
   |tup h r'=>cases c;cases l;obtain⟨its,Y,W,_⟩:=I.tuple q;obtain⟨f,O,J,_⟩:=I.tuple h;refine zt.tuples W J F ?_;exact G _ _ _ _ _ _ r Y r' O (by simpa [v7]using o1) (by simpa [v7]using o2) m
   |_=>simp[lH]at m
  |_=>simp[lH]at m
noncomputable def D5:Nat->D->Bool
 |_,.int _=>b9
 |_,.str _=>b9
 |n+1,.tup xs=>xs.all<|D5 n
 |_,_=>c5
noncomputable def Jg(f:D->List Int):List D->List Int
 | []=>[0]
 |x::xs=>1::(f x++Jg f xs)
noncomputable def F4:Nat->D->List Int
 |_,.int i=>[0,i]
 |_,.str x=>1::(x.cps.toList.map (λ(c:Nat)=>(c:Int)+1)++[0])
 |n+1,.tup xs=>2::Jg (F4 n) xs
 |_,_=>[3]
def cK(x y:List Int):Prop:=∀a b,x++a<y++b
theorem cK.cons(i:Int)(h:cK x y):cK (i::x) (i::y):=λa b=>NZ.mpr<|.inr ⟨rfl,h a b⟩
theorem cK.head(x y:List Int)(h:i<j):cK (i::x) (j::y):=λa b=>NZ.mpr<|.inl h
theorem cK.lt(h:cK x y):x<y:=by have:=h [] [];simpa using this
theorem cK.pre(z:List Int)(h:cK x y):cK (z++x) (z++y):=by
 induction z with
 |nil=>exact h
 |cons i z a=>exact a.cons i
theorem cK.more(u v:List Int)(h:cK x y):cK (x++u) (y++v):=λa b=>by rw[J6,J6];exact h _ _
def RS(x y:D)(n:Nat)(l:Bool)(r:Bool):Prop:=(x=y/\l=c5/\r=c5)\/(x≠y/\l=b9/\r=c5/\cK (F4 n x) (F4 n y))\/(x≠y/\l=c5/\r=b9/\cK (F4 n y) (F4 n x))
theorem uR:∀(x y:List Nat),(x=y)\/(x<y/\¬y<x/\cK (x.map (λ(c:Nat)=>(c:Int)+1)++[0]) (y.map (λ(c:Nat)=>(c:Int)+1)++[0]))\/(¬x<y/\y<x/\cK (y.map (λ(c:Nat)=>(c:Int)+1)++[0]) (x.map (λ(c:Nat)=>(c:Int)+1)++[0]))
 | [],[]=>.inl rfl
 | [],c::y=>.inr<|.inl ⟨List.nil_lt_cons _ _,List.not_lt_nil _,cK.head _ _<|by dsimp only;lia⟩
 |c::x,[]=>.inr<|.inr ⟨List.not_lt_nil _,List.nil_lt_cons _ _,cK.head _ _<|by dsimp only;lia⟩
 |c::x,e::y=>by
  rcases O1 c e with h|h|h;refine .inr<|.inl ⟨NZ.mpr<|.inl h,λz=>?_,cK.head _ _<|by dsimp only;lia⟩;rcases NZ.mp z with z|⟨z,_⟩<;>lia
  subst h;rcases uR x y with q|⟨q1,q2,q3⟩|⟨q1,q2,q3⟩
  exact .inl (by rw[q]);refine .inr<|.inl ⟨NZ.mpr<|.inr ⟨rfl,q1⟩,λz=>?_,q3.cons _⟩;rcases NZ.mp z with z|⟨_,z⟩
  lia;exact q2 z;refine .inr<|.inr ⟨λz=>?_,NZ.mpr<|.inr ⟨rfl,q2⟩,q3.cons _⟩;rcases NZ.mp z with z|⟨_,z⟩
  lia;exact q1 z;refine .inr<|.inr ⟨λz=>?_,NZ.mpr<|.inl h,cK.head _ _<|by dsimp only;lia⟩;rcases NZ.mp z with z|⟨z,_⟩<;>lia
theorem LF(M:u8):∀(n:Nat) (x y:D),D5 n x=b9->D5 n y=b9->(u7 M n x y=b9↔x=y):=by
 have l:∀(n:Nat),(∀(x y:D),D5 n x=b9->D5 n y=b9->(u7 M n x y=b9↔x=y))->∀(xs ys:List D),xs.all (D5 n)=b9->ys.all (D5 n)=b9->(D6 (u7 M n) xs ys=b9↔xs=ys):=by
  intro n i xs;induction xs with
  |nil=>intro ys _ _;cases ys<;>simp[D6]
  |cons x xs hi =>
   intro ys h1 h2;cases ys with
   |nil=>simp[D6]
   |cons y ys=>rw[MX,D9]at h1 h2;rw[D6,D9,i x y h1.1 h2.1,hi ys h1.2 h2.2,Q5]
 intro n;induction n with
 |zero=>intro x y h1 h2;cases x<;>simp[D5]at h1<;>cases y<;>simp[D5]at h2<;>simp[u7]
 |succ n i =>
  intro x y h1 h2;cases x with
  |int a=>cases y<;>simp[D5]at h2<;>simp[u7]
  |str a=>cases y<;>simp[D5]at h2<;>simp[u7]
  |tup xs =>
   cases y with
   |tup ys=>simp only[u7,D.tup.injEq];exact l n i xs ys (by simpa [D5]using h1)<|by simpa [D5]using h2
   |int a=>simp[u7]
   |str a=>simp[u7]
   |_=>simp[D5]at h2
  |_=>simp[D5]at h1
theorem Kn(M:u8):∀(n:Nat) (x:D),D5 n x=b9->v7 M n x=b9:=by
 intro n;induction n with
 |zero=>intro x h;cases x<;>simp[D5]at h<;>rfl
 |succ n i =>
  intro x h;cases x with
  |int a=>rfl
  |str a=>rfl
  |tup xs=>simp only[v7];rw[F0];intro y O;exact i y<|F0.mp (show xs.all (D5 n)=b9 from h) y O
  |_=>simp[D5]at h
theorem tri_D(M:u8):∀(n:Nat) (x y:D),D5 n x=b9->D5 n y=b9->lH M n x y=b9->RS x y n (C8 M n x y) (C8 M n y x):=by
 have base:∀(n:Nat) (a b:Int),RS (.int a) (.int b) n (decide<|a<b) (decide<|b<a):=λn a b=>by
  have e:∀a,F4 n (.int a)=[0,a]:=λa=>by cases n<;>rfl
  rcases Int.lt_trichotomy a b with h|h|h;exact .inr<|.inl ⟨by simp;lia,dT_ h,dF_ (by lia),by rw[e,e];exact(cK.head [] [] h).cons 0⟩;subst h;exact .inl ⟨rfl,dF_ (by lia),dF_<|by lia⟩;exact .inr<|.inr ⟨by simp;lia,dF_ (by lia),dT_ h,by rw[e,e];exact(cK.head [] [] h).cons 0⟩
 have s:∀(n:Nat) (a b:c8),RS (.str a) (.str b) n (iF a b) (iF b a):=λn a b=>by
  have e:∀a:c8,F4 n (.str a)=1::(a.cps.toList.map (λ(c:Nat)=>(c:Int)+1)++[0]):=λa=>by cases n<;>rfl
  unfold iF;rcases uR a.cps.toList b.cps.toList with h|⟨h1,h2,d⟩|⟨h1,h2,d⟩
  have:a=b:=qF h;subst this;exact .inl ⟨rfl,dF_<|Pw _,dF_<|Pw _⟩;exact .inr<|.inl ⟨λz=>by cases z;exact h2 h1,dT_ h1,dF_ h2,by rw[e,e];exact d.cons 1⟩;exact .inr<|.inr ⟨λz=>by cases z;exact h1 h2,dF_ h1,dT_ h2,by rw[e,e];exact d.cons 1⟩
 intro n;induction n with
 |zero=>intro x y h1 h2 d;cases x<;>simp[D5]at h1<;>cases y<;>simp[D5]at h2<;>first|exact base 0 _ _|exact s 0 _ _|simp[lH]at d
 |succ n m =>
  intro x y h1 h2 d;have l:∀(xs ys:List D),xs.all (D5 n)=b9->ys.all (D5 n)=b9->zm (u7 M n) (lH M n) xs ys=b9 -> (xs=ys/\rY (u7 M n) (C8 M n) xs ys=c5/\rY (u7 M n) (C8 M n) ys xs=c5) \/ (xs≠ys/\rY (u7 M n) (C8 M n) xs ys=b9/\rY (u7 M n) (C8 M n) ys xs=c5/\cK (Jg (F4 n) xs) (Jg (F4 n) ys)) \/ (xs≠ys/\rY (u7 M n) (C8 M n) xs ys=c5/\rY (u7 M n) (C8 M n) ys xs=b9/\cK (Jg (F4 n) ys) (Jg (F4 n) xs)):=by
   intro xs;induction xs with
   |nil =>
    intro ys _ _ _;cases ys with
    |nil=>exact .inl ⟨rfl,rfl,rfl⟩
    |cons y ys=>exact .inr<|.inl ⟨by simp,rfl,rfl,cK.head _ _<|by decide⟩
   |cons x xs hi =>
    intro ys h1 h2 d;cases ys with
    |nil=>exact .inr<|.inr ⟨by simp,rfl,rfl,cK.head _ _<|by decide⟩
    |cons y ys =>
     rw[MX,D9]at h1 h2;rw[zm]at d;have i:=LF M n x y h1.1 h2.1;have j:=LF M n y x h2.1 h1.1;rw[rY,rY];by_cases q:x=y;subst q;rw[p0<|i.mpr rfl]at d;rw[p0<|i.mpr rfl,p0<|i.mpr rfl];rcases hi ys h1.2 h2.2 d with⟨C,f,g⟩|⟨C,f,g,t⟩|⟨C,f,g,t⟩
     exact .inl ⟨by rw[C],f,g⟩;exact .inr<|.inl ⟨λz=>C (Qi z).2,f,g,(t.pre<|F4 n x).cons 1⟩;exact .inr<|.inr ⟨λz=>C (Qi z).2,f,g,(t.pre<|F4 n x).cons 1⟩;have k:¬u7 M n x y=b9:=λz=>q<|i.mp z;have p:¬u7 M n y x=b9:=λz=>q (j.mp z).symm;rw[p4 k]at d;rw[p4 k,p4 p];rcases m x y h1.1 h2.1 d with⟨C,_⟩|⟨C,f,g,t⟩|⟨C,f,g,t⟩
     exact p5 C q;exact .inr<|.inl ⟨λz=>q (Qi z).1,f,g,(t.more _ _).cons 1⟩;exact .inr<|.inr ⟨λz=>q (Qi z).1,f,g,(t.more _ _).cons 1⟩
  cases x with
  |int a=>cases y<;>simp[D5]at h2<;>first|exact base (n+1) _ _|simp[lH]at d
  |str a=>cases y<;>simp[D5]at h2<;>first|exact s (n+1) _ _|simp[lH]at d
  |tup xs =>
   cases y with
   |tup ys =>
    rcases l xs ys (by simpa [D5]using h1) (by simpa [D5]using h2) d with⟨C,f,g⟩|⟨C,f,g,t⟩|⟨C,f,g,t⟩
    exact .inl ⟨by rw[C],f,g⟩;exact .inr<|.inl ⟨λz=>C<|D.tup.inj z,f,g,t.cons 2⟩;exact .inr<|.inr ⟨λz=>C<|D.tup.inj z,f,g,t.cons 2⟩
   |_=>simp[lH]at d
  |_=>simp[D5]at h1
theorem wc(h1:D5 n x=b9)(h2:D5 n y=b9)(h:lH M n x y=b9):C8 M n x y=decide (F4 n x<F4 n y):=by
 rcases tri_D M n x y h1 h2 h with⟨C,a,b⟩|⟨C,a,b,t⟩|⟨C,a,b,t⟩
 subst C;rw[a,dF_<|Pw _];rw[a,dT_ t.lt];rw[a,dF_<|λz=>Pw _<|List.lt_trans z t.lt]
end L2
namespace L2
open PySem PySem.Spec PyProof.Rows DL PySem.W
theorem t9.laidF(I:t9 X pins σ H s)(k:∀b u,b≠X.env.locals->s.heap.get? b=b7 u->h'.get? b=b7 u)(p:s.heap.Ns X.env.locals m)(h:h'.Ns X.env.locals m)(hp:s.heap.get? a=b8) (f:H a=b8) (j:bY X.prog X.w (x3 H a o) h' a o):t9 X pins σ (x3 H a o) { s with heap:=h',toks:=t' }:=by
 have i:∀b u,s.heap.get? b=b7 u->b≠a:=λb u e z=>by subst z;rw[hp]at e;cases e
 refine I.step (g':=s.gens) (d':=s.drawn) (ch:=[]) (λ_ z=>nomatch z) (λb u L _ _ e _=>k b u L e) (λb u L _ _ e _=>⟨u.slots,k b u L e⟩) (λb u _ e n=>by rw[az<|i b u e];exact n) (λb u _ e=>?_) (λb xs q=>by rw[az<|ae q f];exact q) (λb u xs q=>by rw[az<|ae q f];exact q) (λb ps q=>⟨#[],by rw[az<|ae q f,q];simp⟩) (λy l=>?_) (λb w q=>?_) I.bare;by_cases d:b=X.env.locals;subst d;obtain⟨o',_,_,t,_⟩:=h;exact⟨o',t⟩;exact⟨u,k b u d e⟩;have:m=y:=funext λx=>p.agree l x;subst this;exact h;by_cases d:b=a;subst d;rw[aR]at q;cases q;exact j;rw[az d]at q;refine(I.hok b w q).stay (λc v g r=>k c v ?_ r) (λc z=>by rw[az<|ae z f];exact z) λc xs z=>by rw[az<|ae z f];exact z
 rcases g with rfl|g;exact ae q I.free;exact ae g I.free
theorem t9.keptF(I:t9 X pins σ H s)(k:∀b u,b≠X.env.locals->s.heap.get? b=b7 u->h'.get? b=b7 u)(i:s.heap.Ns X.env.locals m)(a:h'.Ns X.env.locals m):t9 X pins σ H { s with heap:=h',toks:=t' }:=by refine I.step (g':=s.gens) (d':=s.drawn) (ch:=[]) (λ_ z=>nomatch z) (λb u h _ _ e _=>k b u h e) (λb u h _ _ e _=>⟨u.slots,k b u h e⟩) (λb u _ e n=>n) (λb u _ e=>?_) (λb xs q=>q) (λb u xs q=>q) (λb ps q=>⟨#[],by rw[q];simp⟩) (λj g=>?_) (λb w q=>?_) I.bare;by_cases d:b=X.env.locals;subst d;obtain⟨o',_,_,o,_⟩:=a;exact⟨o',o⟩;exact⟨u,k b u d e⟩;have:m=j:=funext λx=>i.agree g x;subst this;exact a;refine(I.hok b w q).stay (λc v f r=>k c v ?_ r) (λc z=>z) λc xs z=>z;rcases f with rfl|f;exact ae q I.free;exact ae f I.free
theorem tK{prog:d5}{w:c9}{A:f7}{E:c7->f8->Prop}{s:f8}{l:d6}{vs:List c7}{Q:c7->f8->Prop}(u:s.heap.IsList l vs.toArray)(h2:vs.length<2)(h:∀D h' n,s.heap.objs.size<=D->(∀b o,s.heap.get? b=b7 o->h'.get? b=b7 o)->h'.get? D=b7 { cls:=.type "list",data:=.seq vs.toArray n }->Q (.ref D) { s with heap:=h' }):g7 (h7 prog w) A (call (.builtin "sorted")<|[AB6 l]) Q E s:=by
 have f:vs.length<=sizeLine:=by rw[Nl];lia
 refine Calls.call_function_entry kind_sorted plain_sorted entry_sorted (args_sorted1<|.ref l) ?_;unfold Builtin.«sorted»;refine t6 (m:=checkCount "sorted" 1 1 _)<|t8<|t6<|collect_list u (t6<|wpAny_newList ?_ f) f;generalize R:((s.heap.push<|n9 "list" #[] 0).update s.heap.objs.size (MP (· ++ vs.toArray)))=g1;have z:g1.objs.size=s.heap.objs.size+1:=by rw[<-R,Heap.size_update,size_push']
 have B:∀b o,s.heap.get? b=b7 o->g1.get? b=b7 o:=λb o q=>by have d:=A1 q;rw[<-R,QD _ _ _ _<|A4 d,Heap.get?_push_ne _ _ _<|A4 d];exact q
 show g7 _ _ _ _ _ { s with heap:=g1.push (n9 "list" vs.toArray 0) };have L:(g1.push<|n9 "list" vs.toArray 0).get? g1.objs.size=b7 (n9 "list" vs.toArray 0):=A7 _ rfl;refine t6<|E4<|F9 slot_list_sort (⟨_,L,rfl⟩) entry_list_sort ?body<|args_list_sort<|.ref _
 case body =>
  rw[list_sort_plain];refine t6<|listItems_at L rfl ?_;refine t6<|listUpdate_at L rfl ?_ (by rw[A6,Nl];lia)<|A9 _;obtain⟨k,e⟩:∃k,((g1.push<|n9 "list" vs.toArray 0).update g1.objs.size<|MP λ_=>(#[]:Array c7)).get? g1.objs.size=b7 (n9 "list" #[] k):=⟨_,Q4 L λ_=>#[]⟩
  refine t6<|seqEpoch_at e rfl<|t6<|wpAny_newTuple (t6<|wpAny_newList (E4 ?_)<|A9 _) f;dsimp only;have g:vs.toArray.size<2:=by rw[A6];exact h2
  rw[p0 g,p0 g];refine t6<|t8 ?_;rw[StateT.run_pure];refine t6<|t8 ?_;dsimp only;generalize c:(((g1.push<|n9 "list" vs.toArray 0).update g1.objs.size<|MP λ_=>(#[]:Array c7)).push<|n9 "tuple" vs.toArray 0).push (n9 "list" #[] 0)=g3;have a:g3.get? g1.objs.size=b7 (n9 "list" #[] k):=by rw[<-c];exact z5 _<|z5 _ e
  have x:∀b o,b≠g1.objs.size->s.heap.get? b=b7 o->g3.get? b=b7 o:=λb o i q=>by have y:=B b o q;rw[<-c];refine z5 _<|z5 _ ?_;rw[QD _ _ _ _ i];exact z5 _ y
  refine t6<|seqEpoch_at a rfl ?_;have r:∀us:List c7,us.length<2->(us.toArray.zip us.toArray).map (·.2)=us.toArray:=λus hu=>by
   match us,hu with
   | [],_=>simp
   | [v],_=>simp
   |_::_::_,hu=>simp at hu;lia
  have t:(arrOf<|SortSt.mk' general' (vs.toArray.zip vs.toArray) #[] 7 b8).map (·.2)=vs.toArray:=r vs h2;rw[t];refine t6 (listUpdate_at a rfl ?_ (A9 _)<|by rw[A6,Nl];lia);simp only[show failedOf (SortSt.mk' general' (vs.toArray.zip vs.toArray) #[] 7 b8)=b8 from rfl,bne_self_eq_false,B5,r9];refine t8 ⟨_,rfl,t8 ⟨_,rfl,?_⟩⟩;obtain⟨j,p⟩:∃j,(g3.update g1.objs.size<|MP λ_=>vs.toArray).get? g1.objs.size=b7 (n9 "list" vs.toArray j):=⟨_,Q4 a λ_=>vs.toArray⟩
  refine h g1.objs.size _ j (by lia) (λb o q=>?_) p;have i:b≠g1.objs.size:=A4 (by rw[z];exact O2<|A1 q);rw[QD _ _ _ _ i];exact x b o i q
structure SrtOk(M:u8)(xs:List D):Prop where
 len:xs.length<64
 ok:∀x∈xs,D5 w4 x=b9
 cm:∀x∈xs,∀y∈xs,lH M w4 x y=b9
 kd:(∀x∈xs,∃z,x=.str z)\/(∀x∈xs,∃i,x=.int i)\/(∀x∈xs,∃z r,x=.tup (.str z::r))\/(∀x∈xs,∃i r,x=.tup (.int i::r))\/(∀x∈xs,∃z r,x=.tup (.tup z::r))
structure SrtG(M:u8)(xs:List D):Prop where
 len:xs.length<64
 okd:∀x∈xs,v7 M w4 x=b9
 cm:∀x∈xs,∀y∈xs,lH M w4 x y=b9
 kd:(∀x∈xs,∃z,x=.str z)\/(∀x∈xs,∃i,x=.int i)\/(∀x∈xs,∃z r,x=.tup (.str z::r))\/(∀x∈xs,∃i r,x=.tup (.int i::r))\/(∀x∈xs,∃z r,x=.tup (.tup z::r))
 od:∃en:D->List Int,∀a∈xs,∀b∈xs,C8 M w4 a b=decide (en a<en b)
theorem SrtOk.g(o:SrtOk M xs):SrtG M xs:=⟨o.len,λx h=>Kn M _ _<|o.ok x h,o.cm,o.kd,F4 w4,λa f b d=>wc (o.ok a f) (o.ok b d)<|o.cm a f b d⟩
def Jh(M:u8)(ys:List D):Prop:=ys.Pairwise λa b=>C8 M w4 b a=c5
def kn:C5:=λds M Q=>match ds with
 | [.ref n]=>∃xs,ak M n xs/\SrtG M xs/\∀ys,ys.Perm xs->Jh M ys->Q (.ref M.length) (M++[.lst ys])
 |_=>False
theorem Reps.perm{K:u9}{ρ:List d6}{H:Hp}{ds:List D}{vs:List V}(r:Reps K ρ H ds vs)(is:List Nat)(hi:∀i∈is,i<ds.length):Reps K ρ H (is.map λi=>ds.getD i .non) (is.map λi=>vs.getD i .non):=by
 induction is with
 |nil=>exact .nil
 |cons i is a=>have h:=hi i E3;obtain⟨v,e,d⟩:=r.get<|w9 h;refine .cons ?_<|a λj L=>hi j<|C7 _ L;show u6 K ρ H (ds.getD i .non) (vs.getD i .non);rw[L1,L1,e,w9 h];exact d
theorem ay.perm(r:ay vs us)(is:List Nat)(hi:∀i∈is,i<vs.length):ay (is.map λi=>vs.getD i .non) (is.map λi=>us.getD i .none):=by
 induction is with
 |nil=>exact .nil
 |cons i is a=>have h:=hi i E3;obtain⟨v,e,d⟩:=jz r<|w9 h;refine .cons ?_<|a λj L=>hi j<|C7 _ L;show aK (vs.getD i .non) (us.getD i .none);rw[L1,L1,e,w9 h];exact d
instance:Inhabited D:=⟨.non⟩
theorem Hg(o:HO)(x:bY P w H h a o):∃u,h.get? a=b7 u:=by
 cases o with
 |lst _=>obtain⟨_,_,_,_,e⟩:=x;exact⟨_,e⟩
 |tup _=>obtain⟨_,_,_,o,e,_⟩:=x;exact⟨o,e⟩
 |dK _=>obtain⟨_,_,_,_,_,_,_,e,_⟩:=x;exact⟨_,e⟩
 |dT _=>obtain⟨_,_,_,_,o,_,_,e,_⟩:=x;exact⟨o,e⟩
 |set _ _=>obtain⟨o,_,_,_,e,_⟩:=x;exact⟨_,e⟩
 |ins _ _ _=>obtain⟨_,_,_,e,_⟩:=x;exact⟨_,e⟩
 |own _=>exact x
 |xd _=>obtain⟨_,⟨_,_,_,e,_⟩,_⟩:=x;exact⟨_,e⟩
 |rng _ _=>obtain⟨_,_,_,e⟩:=x;exact⟨_,e⟩
 |frz _ _=>obtain⟨e,_⟩:=x;exact⟨_,e⟩
 |tbl _=>exact⟨_,x⟩
 |met _ _=>exact⟨_,x⟩
 |ext _=>obtain⟨_,e,_⟩:=x;exact e
theorem D8.none(x:D8 P w H h)(e:h.get? a=b8):H a=b8:=by
 cases q:H a with
 |none=>rfl
 |some o=>exfalso;obtain⟨u,g⟩:=Hg o<|x a o q;rw[e]at g;cases g
theorem Hj(I:t9 X pins σ H s)(m:v9 X.K ρ M H)(n:Nat)(A:f7)(u:A.units+n<j8):∀(ds es:List D) (vs ws:List V) (its jts:List c7),Reps X.K ρ H ds vs->ay vs its->Reps X.K ρ H es ws->ay ws jts->ds.all (v7 M n)=b9->es.all (v7 M n)=b9 ->zm (u7 M n) (lH M n) ds es=b9->LexAt A s its jts (rY (u7 M n) (C8 M n) ds es):=by
 intro ds;induction ds with
 |nil =>
  intro es vs ws its jts g c p j _ _ _;cases g;cases c;cases p with
  |nil=>cases j;exact .nn
  |cons _ _=>cases j;exact .nc
 |cons d ds hi =>
  intro es vs ws its jts g c p j B C k;cases g with
  |cons a g =>
   cases c with
   |cons f c =>
    cases p with
    |nil=>cases j;exact .cn
    |@cons e _ o _ b p =>
     cases j with
     |cons l j=>rw[MX,D9]at B C;have i:=(lD I m n A d _ _ _ _ _ u a f b l B.1 C.1).1;rw[rY];rw[zm]at k;by_cases q:u7 M n d e=b9;rw[q]at i;rw[p0 q]at k ⊢;exact .eq i<|hi _ _ _ _ _ g c p j B.2 C.2 k;have h:=NY.mpr q;rw[h]at i;rw[p4 q]at k ⊢;exact .ne i<|FN I m n A _ _ _ _ _ _ u a f b l B.1 C.1 k
theorem Ev(h:LexAt A s its jts k):∀(i:Nat),(b&&i==0)=c5->(b&&i+1==0)=c5->Q k s->KatLex prog w A b (decide<|its.length<jts.length) Q (its.zip jts) i s:=by
 have n:∀i:Nat,(b&&i+1==0)=c5:=λi=>by cases b<;>simp
 induction h with
 |nn=>intro i _ _ q;exact q
 |nc=>intro i _ _ q;exact(show Q (decide<|0<_+1) s by rw[dT_<|Nat.succ_pos _];exact q)
 |cn=>intro i _ _ q;exact(show Q (decide<|_+1<0) s by rw[dF_<|NH _];exact q)
 |@eq x y xs ys k e t a=>intro i d _ q;refine kat_cons<|e prog w _ _<|kat_yes ?_;have:=a (i+1) (n i) (n<|i+1) q;rw[show decide ((x::xs).length<(y::ys).length)=decide (xs.length<ys.length) by simp];exact this
 |@ne x y xs ys k e t=>intro i d _ q;refine kat_cons<|e prog w _ _<|kat_no ?_;rw[d];exact kat_one _ _<|t prog w _ _ q
theorem Bx(i:Nf A s p q e)(g:e=c5->∀Q':Bool->f8->Prop,Q' l s->g7 (h7 prog w) A (oneLt' (b&&0==0) p q) Q' (λ_ _=>False) s)(B:e=b9->LexAt A s its jts k)(h:Q (if e=b9 then k else l) s):KatLex prog w A b (decide<|(p::its).length<(q::jts).length) Q ((p::its).zip<|q::jts) 0 s:=by
 refine kat_cons<|i prog w _ _ ?_;cases e with
 |true=>refine kat_yes ?_;rw[show decide ((p::its).length<(q::jts).length)=decide (its.length<jts.length) by simp];exact Ev (B rfl) 1 (by cases b<;>rfl) (by cases b<;>rfl) h
 |false=>exact kat_no<|g rfl _ h
section
variable{X:Cx}{pins:List (d6×d7)}{σ:St}{H:Hp}{s:f8}{ρ:List d6}{M:u8}
theorem ur{M:Model}{h:d8}{x:c8}{t:Tok}:Looks M h (m5<|.str x t) (.type "str"):=Looks.of_pure rfl
theorem ut{M:Model}{h:d8}{x:Int}{t:Tok}:Looks M h (m5<|.int x t) (.type "int"):=Looks.of_pure rfl
theorem Reps.getD'(r:Reps X.K ρ H ds vs)(f:ay vs its)(h:i<ds.length):∃v,u6 X.K ρ H (ds.getD i default) v/\aK v (its.getD i .none)/\ds.getD i default∈ds:=by obtain⟨v,e,d⟩:=r.get<|w9 h;obtain⟨u,a,S⟩:=jz f e;refine⟨v,?_,?_,?_⟩;rw[L1,w9 h];exact d;rw[L1,a];exact S;rw[L1,w9 h];exact Nn h
theorem Reps.mem(r:Reps X.K ρ H ds vs)(f:ay vs its)(h:u∈its):∃d v,d∈ds/\u6 X.K ρ H d v/\aK v u:=by
 induction ds generalizing vs its with
 |nil=>cases r;cases f;cases h
 |cons g ds i =>
  cases r with
  |cons e r =>
   cases f with
   |cons c q=>rcases(A3 (a:=u)).mp h with rfl|h;exact⟨_,_,E3,e,c⟩;obtain⟨d,v,h1,h2,b⟩:=i r q h;exact⟨d,v,C7 _ h1,h2,b⟩
theorem wu(I:t9 X pins σ H s)(r:Reps X.K ρ H xs ws)(b:ay ws its)(a:∀x∈xs,∃f r,x=.tup (f::r)):∃fs,KatTups s.heap its fs/\fs.length=its.length/\∀u∈fs,∃d v,u6 X.K ρ H d v/\aK v u/\∃r,D.tup (d::r)∈xs:=by
 induction xs generalizing ws its with
 |nil=>cases r;cases b;exact⟨[],.nil,rfl,λ_ z=>nomatch z⟩
 |cons d ds y =>
  cases r with
  |cons E r =>
   cases b with
   |cons B q =>
    obtain⟨fs,h1,h2,j⟩:=y r q λx h=>a x<|C7 _ h;obtain⟨f,aL,rfl⟩:=a d E3;cases E with
    |tup w c =>
     cases B;obtain⟨its,e,A,F⟩:=I.tuple w;cases c with
     |cons C c =>
      cases e with
      |cons i e=>obtain⟨o,p,k,n,m⟩:=A;refine⟨_::fs,.cons p k m rfl h1,by simp[h2],λu g=>?_⟩;rcases A3.mp g with rfl|g;exact⟨_,_,C,i,_,E3⟩;obtain⟨d,v,t,l,r',Q⟩:=j u g;exact⟨d,v,t,l,r',C7 _ Q⟩
noncomputable def ltc(M:u8)(xs:List D)(i j:Nat):Bool:=C8 M w4 (xs.getD i default)<|xs.getD j default
theorem tL(I:t9 X pins σ H s)(sm:v9 X.K ρ M H){xs:List D}{ws:List V}{its:List c7}(so:SrtG M xs)(r:Reps X.K ρ H xs ws)(J:ay ws its)(h2:2<=its.length){A:f7}(P:A.units+w4<j8):g7 (h7 X.prog X.w) A (keyKind' its.toArray) (λκ s'=>s'=s/\∀i j (C:Bool->f8->Prop),i<its.length->j<its.length->C (ltc M xs i j) s->kas_ask X.prog X.w A κ its i j C s) (λ_ _=>False) s:=by
 have lw:=r.length;have li:=J.length;have le:xs.length=its.length:=by lia
 have O:∀(b:Bool),(∀x∈xs,∃f r,x=.tup (f::r))->(∀(f g:D) (vf vg:V) (p q:c7) (r r':List D),D.tup (f::r)∈xs->D.tup (g::r')∈xs->u6 X.K ρ H f vf->aK vf p->u6 X.K ρ H g vg->aK vg q -> (u7 M 29 f g=c5->∀Q':Bool->f8->Prop,Q' (C8 M 29 f g) s->g7 (h7 X.prog X.w) A (oneLt' (b&&0==0) p q) Q' (λ_ _=>False) s)) -> ∀i j (C:Bool->f8->Prop),i<its.length->j<its.length->C (ltc M xs i j) s->kas_ask X.prog X.w A (tuples' b) its i j C s:=by
  intro b F ai i j C hi hj E;unfold kas_ask;obtain⟨v1,c,m,U⟩:=r.getD' J (show i<xs.length by lia);obtain⟨v2,G,L,B⟩:=r.getD' J (show j<xs.length by lia);unfold ltc at E;have k1:=so.okd _ U;have k2:=so.okd _ B;have k3:=so.cm _ U _ B;generalize xs.getD i default=x at *;generalize xs.getD j default=y at *;obtain⟨f,rf,rfl⟩:=F _ U;obtain⟨g,rg,rfl⟩:=F _ B;cases c with
  |tup S rs =>
   cases G with
   |tup be Z =>
    generalize its.getD i .none=u1 at *;generalize its.getD j .none=u2 at *;cases m;cases L;obtain⟨as,ra,pa,_⟩:=I.tuple S;obtain⟨bs,rb,pb,_⟩:=I.tuple be;obtain⟨o,ho,_,n,hd⟩:=pa;obtain⟨o',aS,_,n',aD⟩:=pb;refine kat_lt ho hd aS aD ?_;cases rs with
    |cons a1 rs =>
     cases ra with
     |@cons _ p _ la b1 ra =>
      cases Z with
      |cons a2 Z =>
       cases rb with
       |@cons _ q _ lb b2 rb =>
        have aj:A.units+29<j8:=by have:w4=30:=rfl;lia
        have z1:v7 M 29 f=b9/\rf.all (v7 M 29)=b9:=by
         have:(f::rf).all (v7 M 29)=b9:=k1
         rwa [MX,D9]at this
        have z2:v7 M 29 g=b9/\rg.all (v7 M 29)=b9:=by
         have:(g::rg).all (v7 M 29)=b9:=k2
         rwa [MX,D9]at this
        have z3:(if u7 M 29 f g=b9 then zm (u7 M 29) (lH M 29) rf rg else lH M 29 f g)=b9:=k3;have he:=(lD I sm 29 A _ _ _ _ _ _ aj a1 b1 a2 b2 z1.1 z2.1).1;have R:C (if u7 M 29 f g=b9 then rY (u7 M 29) (C8 M 29) rf rg else C8 M 29 f g) s:=E;cases W:u7 M 29 f g with
        |true=>rw[W]at he R z3;have:=Bx (prog:=X.prog) (w:=X.w) (b:=b) (Q:=C) (l:=b9) he (λz=>nomatch z) (λ_=>Hj I sm 29 A aj _ _ _ _ _ _ rs ra Z rb z1.2 z2.2 z3) R;simpa using this
        |false=>rw[W]at he R;have:=Bx (prog:=X.prog) (w:=X.w) (b:=b) (Q:=C) (l:=C8 M 29 f g) (its:=la) (jts:=lb) (k:=b9) he (λ_=>ai f g _ _ _ _ _ _ U B a1 b1 a2 b2 W) (λz=>nomatch z) R;simpa using this
 have N:∀(κ:SortKind),(∀i j (C:Bool->f8->Prop),i<its.length->j<its.length->C (ltc M xs i j) s->kas_ask X.prog X.w A κ its i j C s)->(s=s/\∀i j (C:Bool->f8->Prop),i<its.length->j<its.length->C (ltc M xs i j) s->kas_ask X.prog X.w A κ its i j C s):=λκ h=>⟨rfl,h⟩
 have an:A.units+29<j8:=by have:w4=30:=rfl;lia
 rcases so.kd with a|a|a|a|a;refine kas_kind (T:=.type "str") h2 (λu P=>?_) (by decide) (by decide)<|N _ λi j C hi hj E=>?_;obtain⟨d,v,U,c,m⟩:=r.mem J P;obtain⟨z,rfl⟩:=a d U;cases c;obtain⟨t,rfl⟩:=m;exact ur;unfold kas_ask;obtain⟨v1,c,m,U⟩:=r.getD' J (show i<xs.length by lia);obtain⟨v2,G,L,B⟩:=r.getD' J (show j<xs.length by lia);unfold ltc at E;obtain⟨z,hz⟩:=a _ U;obtain⟨z',Y⟩:=a _ B;rw[hz]at c E;rw[Y]at G E;cases c;cases G;obtain⟨t,h1⟩:=m;obtain⟨t',h2⟩:=L;rw[h1,h2];exact kas_lt_str E;refine kas_kind (T:=.type "int") h2 (λu P=>?_) (by decide) (by decide)<|N _ λi j C hi hj E=>?_;obtain⟨d,v,U,c,m⟩:=r.mem J P;obtain⟨z,rfl⟩:=a d U;cases c;obtain⟨t,rfl⟩:=m;exact ut;unfold kas_ask;obtain⟨v1,c,m,U⟩:=r.getD' J (show i<xs.length by lia);obtain⟨v2,G,L,B⟩:=r.getD' J (show j<xs.length by lia);unfold ltc at E;obtain⟨z,hz⟩:=a _ U;obtain⟨z',Y⟩:=a _ B;rw[hz]at c E;rw[Y]at G E;cases c;cases G;obtain⟨t,h1⟩:=m;obtain⟨t',h2⟩:=L;rw[h1,h2];exact kat_lt_int E;obtain⟨fs,t1,t2,t3⟩:=wu I r J λx F=>(a x F).elim λz ⟨r,e⟩=>⟨_,_,e⟩
 refine kat_kind (T:=.type "str") t1 (by lia) (λu P=>?_) (by decide)<|N _<|O _ (λx F=>(a x F).elim λz ⟨r,e⟩=>⟨_,_,e⟩) λf g vf vg p q r r' U B c m G L S Q' h=>?_;obtain⟨d,v,c,m,r',U⟩:=t3 u P;obtain⟨z,al,e⟩:=a _ U;cases e;cases c;obtain⟨t,rfl⟩:=m;exact ur;obtain⟨z,_,e⟩:=a _ U;cases e;obtain⟨z',_,e'⟩:=a _ B;cases e';cases c;cases G;obtain⟨t,rfl⟩:=m;obtain⟨t',rfl⟩:=L;exact oneLt_str h;obtain⟨fs,t1,t2,t3⟩:=wu I r J λx F=>(a x F).elim λz ⟨r,e⟩=>⟨_,_,e⟩
 refine kat_kind (T:=.type "int") t1 (by lia) (λu P=>?_) (by decide)<|N _<|O _ (λx F=>(a x F).elim λz ⟨r,e⟩=>⟨_,_,e⟩) λf g vf vg p q r r' U B c m G L S Q' h=>?_;obtain⟨d,v,c,m,r',U⟩:=t3 u P;obtain⟨z,al,e⟩:=a _ U;cases e;cases c;obtain⟨t,rfl⟩:=m;exact ut;obtain⟨z,_,e⟩:=a _ U;cases e;obtain⟨z',_,e'⟩:=a _ B;cases e';cases c;cases G;obtain⟨t,rfl⟩:=m;obtain⟨t',rfl⟩:=L;exact oneLt_int h;obtain⟨fs,t1,t2,t3⟩:=wu I r J λx F=>(a x F).elim λz ⟨r,e⟩=>⟨_,_,e⟩
 refine kat_kind (T:=.type "tuple") t1 (by lia) (λu P=>?_) (by decide)<|N _<|O _ (λx F=>(a x F).elim λz ⟨r,e⟩=>⟨_,_,e⟩) λf g vf vg p q r r' U B c m G L S Q' h=>?_;obtain⟨d,v,c,m,r',U⟩:=t3 u P;obtain⟨z,al,e⟩:=a _ U;cases e;cases c with
 |tup S rs=>cases m;obtain⟨_,_,pl,_⟩:=I.tuple S;obtain⟨o,ho,E,_⟩:=pl;rw[<-E];exact(show Looks _ s.heap (m5<|.ref _) o.cls from(Looks.ld ho).andThen .now)
 have k1:v7 M 29 f=b9:=by have:(f::r).all (v7 M 29)=b9:=so.okd _ U;rw[MX,D9]at this;exact this.1
 have k2:v7 M 29 g=b9:=by have:(g::r').all (v7 M 29)=b9:=so.okd _ B;rw[MX,D9]at this;exact this.1
 have k3:(if u7 M 29 f g=b9 then zm (u7 M 29) (lH M 29) r r' else lH M 29 f g)=b9:=so.cm _ U _ B;rw[S]at k3;exact kat_one _ _<|FN I sm 29 A _ _ _ _ _ _ an c m G L k1 k2 k3 _ _ _ _ h
end
theorem Kd(o:SrtG M xs):(∀a∈xs,C8 M w4 a a=c5)/\(∀a∈xs,∀b∈xs,∀d∈xs,C8 M w4 a b=b9->C8 M w4 b d=b9->C8 M w4 a d=b9)/\∀a∈xs,∀b∈xs,∀d∈xs,C8 M w4 a d=b9->C8 M w4 a b=b9\/C8 M w4 b d=b9:=by obtain⟨n,e⟩:=o.od;refine⟨λa f=>?_,λa f b c d g h1 h2=>?_,λa f b c d g h=>?_⟩;rw[e a f a f,dF_<|Pw _];rw[e a f b c,p7]at h1;rw[e b c d g,p7]at h2;rw[e a f d g,p7];exact List.lt_trans h1 h2;rw[e a f d g,p7]at h;rw[e a f b c,e b c d g,p7,p7];by_cases z:n a<n b;exact .inl z;have F:n b<=n a:=z;exact .inr<|List.lt_of_le_of_lt F h
theorem Dh{k:Nat}{l:d6}{xs:List D}{F:List V}{its:List c7}{R:VK}(hr:Room k X.A)(I:t9 X pins σ H s)(sm:v9 X.K ρ M H)(so:SrtG M xs)(r:Reps X.K ρ H xs F)(P:ay F its)(Z:s.heap.IsList l its.toArray)(hz:F.length<=sizeLine)(h2:2<=its.length)(G:its.length<64)(E:l≠X.env.locals) (kk:∀v H',((∀Q:DK,(∀ys,ys.Perm xs->Jh M ys->Q (.ref M.length) (M++[.lst ys]))->VQ X.K ρ H Q v H'))->R v H'):g7 (h7 X.prog X.w) X.A (call (.builtin "sorted") [.ref l]) (EP X pins σ R) X.xe s:=by
 obtain⟨m,O,hm⟩:=I.loc;have lw:=r.length;have li:=P.length;obtain⟨ol,f,_⟩:=id Z;have g:∀a o,(a,o)∈[]++(l,ol)::Att.ledger s.heap X.env.locals l↔a≠X.env.locals/\s.heap.get? a=b7 o:=λa o=>by rw[G2,A3,Att.mem_ledger];constructor;rintro(h|⟨h1,_,h3⟩);cases h;exact⟨E,f⟩;exact⟨h1,h3⟩;rintro⟨h1,h2⟩;by_cases z:a=l;subst z;rw[f]at h2;cases h2;exact .inl rfl;exact .inr ⟨h1,z,h2⟩
 refine kat_sorted (Att.fr_all O) (Att.news_ledger E f) Z h2 G λD e1 h' T N lt=>?_;have kp:∀b u,b≠X.env.locals->s.heap.get? b=b7 u->h'.get? b=b7 u:=λb u J e=>(N (b,u)<|C7 _<|(g b u).mpr ⟨J,e⟩).1;have L:D≠X.env.locals:=(N _ E3).2.1;have W:s.heap.get? D=b8:=by
  cases q:s.heap.get? D with
  |none=>rfl
  |some o=>exact p5 (lt (D,o)<|(g D o).mpr ⟨L,q⟩)<|J4 _
 have I':t9 X pins σ H { s with heap:=h' }:=I.keptF (t':=s.toks) kp O T.ns;have hu:X.A.in1.in1.units+w4<j8:=by have:=hr.un;have:w4=30:=rfl;show X.A.units+1+1+w4<j8;lia
 refine L7 (tL I' sm so r P h2 hu) (λκ s' hk=>?_) λ_ _ x=>x;obtain⟨rfl,B⟩:=hk;refine Srt.wp_run (n:=its.length) (c:=λi j=>if i<xs.length then(if j<xs.length then C8 M w4 (xs.getD i default) (xs.getD j default)else b9)else c5) (λi j C hi hj Y=>?_) _ (Srt.sort_bd<|by lia).1 ?_;refine B i j C hi hj ?_;rw[p0 (by lia),p0<|by lia]at Y;exact Y;have t:=Srt.All.run (c:=λi j=>if i<xs.length then(if j<xs.length then C8 M w4 (xs.getD i default) (xs.getD j default)else b9)else c5) _ (Srt.sort_bd (n:=its.length)<|by lia).2;obtain⟨o1,o2,o3⟩:=Kd so;have d:=Srt.sort_list xs (by lia) o1 o2 o3
 try dsimp only at d
 rw[show xs.length=its.length by lia]at d t ⊢;generalize Srt.run _ (N5 its.length)=p at t d ⊢;have hi:∀i∈p.toList,i<xs.length:=λi h=>by have:=t.mem_iff.mp h;rw[G1]at this;lia
 refine KasFin.intro T N (UpdF.head λq hq=>A4<|lt q hq) λh2 c F2 U=>?_;have r':=r.perm p.toList hi;have S:=P.perm p.toList (λi h=>by have:=hi i h;lia);have y:H D=b8:=D8.none I.hok W;refine⟨.ref D,_,I.laidF (t':=s.toks) (o:=.lst<|p.toList.map λi=>F.getD i .non) (λb u J e=>(U (b,u)<|C7 _<|(g b u).mpr ⟨J,e⟩).1) O F2.ns W y ⟨?_,_,c,S,(U _ E3).1⟩,rfl,kk _ _ λQ hQ=>VQ.laidL sm .refl r' y<|hQ _ d.1 d.2⟩;rw[v4];have:=d.1.length_eq;rw[v4]at this;lia
theorem t9.sqL_ne(I:t9 X pins σ H s)(h:G6 X.K H a xs):a≠X.env.locals:=by
 rcases h with h|⟨o,its,n,k,_⟩
 rcases h with h|⟨_,h⟩
 exact ae h I.free;exact ae h I.free;have:=A1<|I.mod.kin a o k;exact A4<|K4 this<|J1 I.ok.bsz I.ok.above
theorem Cn(j:Room k X.A):lX X (.builtin "sorted") kn:=by
 rintro p s σ H vs us R I l ⟨ds,M,ρ,Q,m,rs,q,C⟩;unfold kn at q;split at q;obtain⟨xs,L,c,q⟩:=q;cases rs with
 |cons r1 rs =>
  cases rs;obtain⟨u,rfl,t⟩:=ay.one l;cases r1 with
  |ref e =>
   cases t;obtain⟨w,b,r⟩:=ak.seq m L e;obtain⟨its,f,d,z⟩:=I.list b;have B:=r.length;have y:=f.length;by_cases h2:its.length<2;refine tK d.isList h2 λD h' n a g i=>?_;refine⟨.ref D,_,I.laid (t':=s.toks) (o:=.lst w) g a ⟨z,its,n,f,i⟩,rfl,C _ _<|VQ.laidL m .refl r (I.hok.fresh a)<|q xs (Pv _) ?_⟩;unfold Jh
   match xs,(show xs.length<2 by lia) with
   | [],_=>exact Rj
   | [x],_=>exact Sh _ _
   |_::_::_,hx=>simp at hx;lia
   have h:2<=its.length:=by lia
   have G:its.length<64:=by have:=c.len;lia
   exact Dh j I m c r f d.isList z h G (I.sqL_ne b) λv H' x=>C v H'<|x Q q
 exact q.elim
theorem uf(h:s.heap.IsTupleIter it t i)(B:s.heap.IsTuple t items)(a:items[i]?=b7 x)(b:∀h',h'.IsTupleIter it t (i+1)->I0 it s.heap h'->Q x { s with heap:=h' }):g7 (h7 prog w) A (OH<|.ref it) Q E s:=by obtain⟨o,m,c,d⟩:=id h;obtain⟨e,f,_,n,l⟩:=B;unfold OH;refine t6<|MN (name:=u3 "__next__") h.typeIs F.slot_tuple_iterator_next<|F9 F.slot_tuple_iterator_next h.typeIs F.entry_tuple_iterator_next ?_<|F.args_tuple_iterator_next_1<|.ref it;refine(show g7 (h7 prog w) _ (field (.ref it) 0 >>= _) _ _ s from t6<|J3 m d (x:=.ref t) rfl ?_);refine(show g7 (h7 prog w) _ (if (AB6 t==ABQ)=b9 then _ else field (.ref it) 1 >>= _) _ _ s from ?_);rw[p4<|show ¬(AB6 t==ABQ)=b9 from M8];refine t6<|J3 m d (x:=.int i 0) rfl<|show g7 (h7 prog w) _ (seqItems? (.ref t) >>= _) _ _ s from t6<|MS f l ?_;simp only[J7,a];refine t6<|Nm m d (by simp)<|t8 ⟨x,rfl,t8<|b _ ⟨_,MB _ m<|R9<|Pz d _,(Obj.cls_mapFields ..).trans c,?_⟩<|L9 ..⟩;rw[Pz d];simp[j3]
theorem lN(c:A.handled=b8)(h:s.heap.IsTupleIter it t i)(B:s.heap.IsTuple t items)(j:items[i]?=b8)(g:∀h' e,Qe it s.heap h'->(∃o,h'.get? e=b7 o/\o.cls=.type "StopIteration")->E (.ref e) { s with heap:=h' }):g7 (h7 prog w) A (OH<|.ref it) Q E s:=by
 obtain⟨o,b,k,d⟩:=id h;obtain⟨p,f,_,n,l⟩:=B;unfold OH;refine t6<|MN (name:=u3 "__next__") h.typeIs F.slot_tuple_iterator_next<|F9 F.slot_tuple_iterator_next h.typeIs F.entry_tuple_iterator_next ?_<|F.args_tuple_iterator_next_1<|.ref it;refine(show g7 (h7 prog w) _ (field (.ref it) 0 >>= _) _ _ s from t6<|J3 b d (x:=.ref t) rfl ?_);refine(show g7 (h7 prog w) _ (if (AB6 t==ABQ)=b9 then _ else field (.ref it) 1 >>= _) _ _ s from ?_);rw[p4<|show ¬(AB6 t==ABQ)=b9 from M8];refine t6<|J3 b d (x:=.int i 0) rfl<|show g7 (h7 prog w) _ (seqItems? (.ref t) >>= _) _ _ s from t6<|MS f l ?_;simp only[J7,j];refine t6<|Ix<|t6<|Nm b d (by simp)<|show g7 (h7 prog w) _ (newExc (.type "StopIteration") [] >>= _) _ _ _ from t6 ?_;simp only[newExc,newTuple];refine t6 (G3 (t6 (m:=o0 _ _)<|Pj (a:=ABQ) (by first|rfl|(simp only[o0];rfl))<|G3 ?_<|by size_fits)<|by size_fits);simp only[raiseNew];refine t6<|Qh ?_
 first|rw[show A.in1.handled=b8 from c]|rw[c]
 exact t6<|t8<|wpAny_throw<|g _ _ (((L9 ..).extBut.push _).push _)<|⟨_,A7 _ rfl,rfl⟩
theorem wB(g:A.handled=b8)(it t:d6)(c:t≠it)(a:Array c7):Draws prog w A it [it,t] a.size (λi v=>a[i]?=b7 v) (λi h=>h.IsTupleIter it t i/\h.IsTuple t a) where
 live:=λ_ _ ⟨⟨o,m,_⟩,_⟩=>⟨o,m⟩
 frame:=λ_ _ _ ⟨h1,o,e,r⟩ k=>⟨h1.at λo e=>k it (E3) o e,o,k t (by simp) o e,r⟩
 item:=λi s Q E hi ⟨h1,h2⟩ f=>by refine uf h1 h2 (x:=a[i]) (G5 hi) λh' b u=>f _ h' s.toks (G5 hi) ⟨b,?_⟩ u;obtain⟨o,e,r⟩:=h2;exact⟨o,u.extBut _ _ c e,r⟩
 done:=λs Q E ⟨h1,h2⟩ d=>lN g h1 h2 (O6<|v6 _) d
structure ZA(z TI TO i1 i2:d6)(f1 f2:List d6):Prop where
 nd:[z,TI,TO,i1,i2].Nodup
 z1:z∉f1
 o1:TO∉f1
 y1:i2∉f1
 z2:z∉f2
 o2:TO∉f2
 x2:i1∉f2
theorem eQ{prog:d5}{w:c9}{A:f7}{it c:d6}{fp:List d6}{n k:Nat}{P:Nat->c7->Prop}{St:Nat->d8->Prop}{h h':d8}(D:Draws prog w A it fp n P St)(f:c∉fp)(hs:Qe c h h')(st:St k h):St k h':=D.frame k h h' st λb d o e=>hs b o (λq=>f<|q ▸ d) e
section
variable{prog:d5}{w:c9}{A:f7}{E:c7->f8->Prop}{s:f8}{z TI TO i1 i2:d6}{f1 f2:List d6}{n1 n2 k:Nat}{P1 P2:Nat->c7->Prop}{S1 S2:Nat->d8->Prop}{a b:c7}
theorem CK{Q:c7->f8->Prop}(D:Draws prog w A i1 f1 n1 P1 S1)(p:Draws prog w A i2 f2 n2 P2 S2)(Z:ZA z TI TO i1 i2 f1 f2)(hz:IsZip s.heap z TI TO .none)(I:o4 s.heap TI (.ref i1) (.ref i2))(J:o4 s.heap TO a b)(L:S1 k s.heap) (S:S2 k s.heap) (l1:k<n1) (l2:k<n2)(hQ:∀h' tk x y T,P1 k x->P2 k y->s.heap.objs.size<=T->IsZip h' z TI TO (j3 T)->o4 h' TO x y->S1 (k+1) h'->S2 (k+1) h'->o4 h' T x y->(∀c o,c≠z->c≠TO->c≠i1->c≠i2->s.heap.get? c=b7 o->h'.get? c=b7 o)->Q (.ref T) { s with heap:=h',toks:=tk }):g7 (h7 prog w) A (Builtin.«zip.__next__» ⟨[.ref z],[]⟩) (λfin s'=>∃v,fin=.done (.ret v)/\Q v s') E s:=by
 have X:=Z.nd;simp only[J5,A3,No,or_false,not_or]at X;obtain⟨⟨aj,O,P,R⟩,⟨U,V,W⟩,⟨r,t⟩,ai,_⟩:=X;refine(show g7 (h7 prog w) A (field (.ref z) 2 >>= _) _ _ _ from t6<|J3 hz rfl (x:=.bool c5) rfl ?_);refine(show g7 (h7 prog w) A (field (.ref z) 3 >>= _) _ _ _ from t6<|J3 hz rfl (x:=.ref TI) rfl<|t6<|MS I rfl ?_);refine(show g7 (h7 prog w) A (RM (.ref z) >>= _) _ _ _ from t6 ?_);unfold RM;refine t6<|J3 hz rfl (x:=ABQ) rfl<|t8 ?_;simp only[s9];refine t6<|Ix<|t6<|J3 hz rfl (x:=.ref TO) rfl<|t6<|Nz hz (by simp) λh₁ (hz₁:IsZip h₁ z TI TO .ellipsis) hs₁=>t6 ?_;simp only[List.zipIdx_cons,List.zipIdx_nil,Qo,List.forIn_nil];refine t6<|t6<|wpAny_onRaise<|show g7 (h7 prog w) A (OH (.ref i1) >>= _) _ _ _ from t6 ?_;refine D.item k _ _ _ l1 (eQ D Z.z1 hs₁.extBut L) λx u M px m h=>t8 ?_;have f:o4 u TO a b:=h.extBut _ _ r<|hs₁.extBut _ _ (A2 O) J;refine t6<|MS f rfl<|t6<|wpAny_updateSeq_pair f λh₃ (hTO₃:o4 h₃ TO x b) hs₃=>t6<|wpAny_letGo<|t8 ?_;refine t6<|t6<|wpAny_onRaise<|show g7 (h7 prog w) A (OH (.ref i2) >>= _) _ _ _ from t6 ?_;refine p.item k _ _ _ l2 (eQ p Z.o2 hs₃.extBut<|eQ p Z.x2 h.extBut<|eQ p Z.z2 hs₁.extBut S) λy B N py n d=>t8 ?_;have g:o4 B TO x b:=d.extBut _ _ t hTO₃;refine t6<|MS g rfl<|t6<|wpAny_updateSeq_pair g λh₅ (hTO₅:o4 h₅ TO x y) hs₅=>t6<|wpAny_letGo<|t8<|t8 ?_;refine t6<|MS hTO₅ rfl<|t6<|wpAny_newTuple ?_;have i:IsZip h₅ z TI TO .ellipsis:=hs₅.extBut _ _ O<|d.extBut _ _ R<|hs₃.extBut _ _ O<|h.extBut _ _ P hz₁;have kp:∀c o,c≠z->c≠TO->c≠i1->c≠i2->s.heap.get? c=b7 o->h₅.get? c=b7 o:=λc o j C G H e=>hs₅.extBut _ _ C<|d.extBut _ _ H<|hs₃.extBut _ _ C<|h.extBut _ _ G<|hs₁.extBut _ _ j e;have sz:h₅.objs.size=s.heap.objs.size:=by rw[hs₅.1,d.1,hs₃.1,h.1];exact hs₁.1
 have t1:=eQ D Z.o1 hs₅.extBut<|eQ D Z.y1 d.extBut<|eQ D Z.o1 hs₃.extBut m;have t2:=eQ p Z.o2 hs₅.extBut n;refine(show g7 (h7 prog w) A (SU (.ref z) (.ref h₅.objs.size) >>= _) _ _ _ from t6 ?_);unfold SU;have l:IsZip (h₅.push { cls:=.type "tuple",data:=.seq #[x,y] }) z TI TO .ellipsis:=z5 _ i;refine t6<|Nz l (by simp) λh₇ (hz₇:IsZip h₇ z TI TO (j3 h₅.objs.size)) hs₇=>Nz hz₇ (by simp) λh₈ (hz₈:IsZip h₈ z TI TO (j3 h₅.objs.size)) hs₈=>?_;have F:∀c o,c≠z->h₅.get? c=b7 o->h₈.get? c=b7 o:=λc o j e=>hs₈.extBut _ _ j<|hs₇.extBut _ _ j<|z5 _ e;have Y:h₅.objs.size≠z:=NF<|A1 i;refine t8 ⟨_,rfl,hQ h₈ _ x y h₅.objs.size px py (Nat.le_of_eq sz.symm) hz₈ (F _ _ (A2 O) hTO₅) ?_ ?_ (hs₈.extBut _ _ Y<|hs₇.extBut _ _ Y<|A7 _ rfl) λc o j C G H e=>F c o j<|kp c o j C G H e⟩;exact D.frame _ _ _ t1 λc K o e=>F c o (λq=>Z.z1<|q ▸ K) e;exact p.frame _ _ _ t2 λc K o e=>F c o (λq=>Z.z2<|q ▸ K) e
theorem CM{Q:Fin->f8->Prop}(D:Draws prog w A i1 f1 n1 P1 S1)(v:Draws prog w A i2 f2 n2 P2 S2)(Z:ZA z TI TO i1 i2 f1 f2)(hz:IsZip s.heap z TI TO .none)(I:o4 s.heap TI (.ref i1) (.ref i2))(J:o4 s.heap TO a b)(L:S1 k s.heap) (S:S2 k s.heap) (Y:k=n1\/(k<n1/\k=n2))(H:∀h' tk e,(∀c o,c≠z->c≠TO->c≠i1->c≠i2->s.heap.get? c=b7 o->h'.get? c=b7 o)->(∃o,h'.get? e=b7 o/\o.cls=.type "StopIteration")->E (.ref e) { s with heap:=h',toks:=tk }):g7 (h7 prog w) A (Builtin.«zip.__next__» ⟨[.ref z],[]⟩) Q E s:=by
 have X:=Z.nd;simp only[J5,A3,No,or_false,not_or]at X;obtain⟨⟨aj,O,P,R⟩,⟨U,V,W⟩,⟨T,F⟩,ai,_⟩:=X;refine(show g7 (h7 prog w) A (field (.ref z) 2 >>= _) _ _ _ from t6<|J3 hz rfl (x:=.bool c5) rfl ?_);refine(show g7 (h7 prog w) A (field (.ref z) 3 >>= _) _ _ _ from t6<|J3 hz rfl (x:=.ref TI) rfl<|t6<|MS I rfl ?_);refine(show g7 (h7 prog w) A (RM (.ref z) >>= _) _ _ _ from t6 ?_);unfold RM;refine t6<|J3 hz rfl (x:=ABQ) rfl<|t8 ?_;simp only[s9];refine t6<|Ix<|t6<|J3 hz rfl (x:=.ref TO) rfl<|t6<|Nz hz (by simp) λh₁ (hz₁:IsZip h₁ z TI TO .ellipsis) hs₁=>t6 ?_;simp only[List.zipIdx_cons,List.zipIdx_nil,Qo,List.forIn_nil];refine t6<|t6<|wpAny_onRaise<|show g7 (h7 prog w) A (OH (.ref i1) >>= _) _ _ _ from t6 ?_;rcases Y with rfl|⟨l1,rfl⟩
 refine D.done _ _ _ (eQ D Z.z1 hs₁.extBut L) ?_;rintro p e h ⟨y,f,i⟩;have m:IsZip p z TI TO .ellipsis:=h _ _ P hz₁;have t:e≠z:=λq=>by subst q;rw[m]at f;cases f;simp at i
 exact Nz m (by simp) λr _ d=>H r _ e (λc o u _ G _ q=>d.extBut _ _ u<|h _ _ G<|hs₁.extBut _ _ u q) ⟨y,d.extBut _ _ t f,i⟩;refine D.item k _ _ _ l1 (eQ D Z.z1 hs₁.extBut L) λx p M px C h=>t8 ?_;have g:o4 p TO a b:=h.extBut _ _ T<|hs₁.extBut _ _ (A2 O) J;refine t6<|MS g rfl<|t6<|wpAny_updateSeq_pair g λr (hTO₃:o4 r TO x b) d=>t6<|wpAny_letGo<|t8 ?_;refine t6<|t6<|wpAny_onRaise<|show g7 (h7 prog w) A (OH (.ref i2) >>= _) _ _ _ from t6 ?_;refine v.done _ _ _ (eQ v Z.o2 d.extBut<|eQ v Z.x2 h.extBut<|eQ v Z.z2 hs₁.extBut S) ?_;rintro B e j ⟨y,f,i⟩;have n:IsZip B z TI TO .ellipsis:=j _ _ R<|d.extBut _ _ O<|h.extBut _ _ P hz₁;have t:e≠z:=λq=>by subst q;rw[n]at f;cases f;simp at i
 exact Nz n (by simp) λh₅ _ l=>H h₅ _ e (λc o u K G N q=>l.extBut _ _ u<|j _ _ N<|d.extBut _ _ K<|h.extBut _ _ G<|hs₁.extBut _ _ u q) ⟨y,l.extBut _ _ t f,i⟩
end
section
variable{X:Cx}{pins:List (d6×d7)}{σ:St}{H:Hp}{s:f8}{h':d8}
theorem t9.turnedL{t':Nat}{fp:List d6}(I:t9 X pins σ H s)(h:∀b∈fp,yf X pins H b)(k:∀b o,b∉fp->s.heap.get? b=b7 o->h'.get? b=b7 o):t9 X pins σ H { s with heap:=h',toks:=t' }:=by
 have p:∀b u,H b=b7 u->b∉fp:=λb u e z=>by rw[(h b z).1]at e;cases e
 refine I.step (g':=s.gens) (d':=s.drawn) (ch:=fp) (λb d=>⟨(h b d).2.2.2.1,(h b d).2.1,(h b d).2.2.2.2.1,(h b d).2.2.2.2.2⟩) (λb o _ _ f e _=>k b o f e) (λb o _ _ f e _=>⟨o.slots,k b o f e⟩) (λ_ _ _ _ n=>n) (λb o f e=>⟨o,k b o f e⟩) (λ_ _ e=>e) (λ_ _ _ e=>e) (λb ps e=>⟨#[],by rw[e];simp⟩) (λm a=>?_) (λb u e=>?_) I.bare;obtain⟨o,es,i,g,r⟩:=a;exact⟨o,es,i,k _ o (λz=>(h _ z).2.1 rfl) g,r⟩;refine(I.hok b u e).stay (λc v f q=>k c v ?_ q) (λ_ q=>q) λ_ _ q=>q;rcases f with rfl|z;exact p _ u e;exact p _ _ z
theorem t9.turnedT{t':Nat}{fp:List d6}{T:d6}{o:HO}(I:t9 X pins σ H s)(h:∀b∈fp,yf X pins H b)(k:∀b o,b∉fp->s.heap.get? b=b7 o->h'.get? b=b7 o)(j:s.heap.objs.size<=T)(i:bY X.prog X.w (x3 H T o) h' T o):t9 X pins σ (x3 H T o) { s with heap:=h',toks:=t' }:=by
 have a:H T=b8:=I.hok.fresh j;have g:∀b u,s.heap.get? b=b7 u->b≠T:=λb u e=>A4<|K4 (A1 e) j;have p:∀b u,H b=b7 u->b∉fp:=λb u e z=>by rw[(h b z).1]at e;cases e
 refine I.step (g':=s.gens) (d':=s.drawn) (ch:=fp) (λb d=>⟨(h b d).2.2.2.1,(h b d).2.1,(h b d).2.2.2.2.1,(h b d).2.2.2.2.2⟩) (λb o _ _ f e _=>k b o f e) (λb o _ _ f e _=>⟨o.slots,k b o f e⟩) (λb u _ e n=>by rw[az<|g b u e];exact n) (λb o f e=>⟨o,k b o f e⟩) (λb xs q=>by rw[az<|ae q a];exact q) (λb u xs q=>by rw[az<|ae q a];exact q) (λb ps q=>⟨#[],by rw[az<|ae q a,q];simp⟩) (λm t=>?_) (λb u e=>?_) I.bare;obtain⟨o,es,l,x,r⟩:=t;exact⟨o,es,l,k _ o (λz=>(h _ z).2.1 rfl) x,r⟩;by_cases d:b=T;subst d;rw[aR]at e;cases e;exact i;rw[az d]at e;refine(I.hok b u e).stay (λc v f q=>k c v ?_ q) (λc q=>by rw[az<|ae q a];exact q) λc xs q=>by rw[az<|ae q a];exact q
 rcases f with rfl|z;exact p _ u e;exact p _ _ z
def Sq(t:Bool)(K:u9)(H:Hp)(a:d6)(xs:List V):Prop:=if t=b9 then B7 K H a xs else G6 K H a xs
def NC(t:Bool)(h:d8)(i l:d6)(k:Nat):Prop:=if t=b9 then h.IsTupleIter i l k else h.IsListIter i l k
def Nr(t:Bool)(h:d8)(l:d6)(xs:Array c7):Prop:=if t=b9 then h.IsTuple l xs else h.IsList l xs
theorem NC.at(x:NC t h i l k)(e:∀o,h.get? i=b7 o->h'.get? i=b7 o):NC t h' i l k:=by
 cases t with
 |true=>exact(show h.IsTupleIter i l k from x).at e
 |false=>exact(show h.IsListIter i l k from x).at e
theorem NC.obj(x:NC t h i l k):∃o,h.get? i=b7 o/\∀v,o.data≠.cell v:=by
 cases t with
 |true =>
  obtain⟨o,e,c,d⟩:=(show h.IsTupleIter i l k from x)
  exact⟨o,e,λv z=>by rw[d]at z;cases z⟩
 |false =>
  obtain⟨o,e,c,d⟩:=(show h.IsListIter i l k from x)
  exact⟨o,e,λv z=>by rw[d]at z;cases z⟩
theorem Sq.is(I:t9 X pins σ H s)(h:Sq t X.K H a xs):∃its,ay xs its/\Nr t s.heap a its.toArray/\xs.length<=sizeLine:=by
 cases t with
 |true=>exact I.tuple<|show B7 X.K H a xs from h
 |false=>obtain⟨its,f,d,b⟩:=I.list<|show G6 X.K H a xs from h;exact⟨its,f,d.isList,b⟩
theorem Sq.inj(I:t9 X pins σ H s)(h:Sq t X.K H a xs)(h':Sq t X.K H a ys):xs=ys:=by
 cases t with
 |true=>exact I.tuple_inj h h'
 |false=>exact I.list_inj h h'
theorem Sq.ne(I:t9 X pins σ H s)(h:Sq t X.K H a xs)(f:yf X pins H b):a≠b:=by
 have c:∀o,X.K.lookup a=b7 o->a≠b:=λo k=>by have d:=I.mod.kin a o k;rcases f.2.2.2.1 with z|z;intro q;subst q;exact I.ok.noex a o d z;exact A4<|K4 (A1 d)<|J1 I.ok.bsz z
 cases t with
 |true =>
  rcases(show B7 X.K H a xs from h)with(h|⟨_,h⟩)|⟨o,its,n,k,_⟩
  exact ae h f.1;exact ae h f.1;exact c o k
 |false =>
  rcases(show G6 X.K H a xs from h)with(h|⟨_,h⟩)|⟨o,its,n,k,_⟩
  exact ae h f.1;exact ae h f.1;exact c o k
theorem jT(a:A.handled=b8)(t:Bool)(it l:d6)(b:l≠it)(s:Array c7):Draws prog w A it [it,l] s.size (λi v=>s[i]?=b7 v) (λi h=>NC t h it l i/\Nr t h l s):=by
 cases t with
 |true=>exact wB a it l b s
 |false=>exact Draws.list a it l b s
noncomputable def Sz(K:u9)(E F:Bool)(b g:d6):It:=⟨λi H=>∃xs ys x y,Sq E K H b xs/\Sq F K H g ys/\xs[i]?=b7 x/\ys[i]?=b7 y,λi H v H'=>∃T x y,v=.ref T/\H T=b8/\H'=x3 H T (.tup [x,y])/\(∀xs,Sq E K H b xs->xs[i]?=b7 x)/\∀ys,Sq F K H g ys->ys[i]?=b7 y,λi H=>∃xs ys,Sq E K H b xs/\Sq F K H g ys/\(i=xs.length\/(i<xs.length/\i=ys.length))⟩
def Sw(E F:Bool)(z TI TO c d l g:d6)(i:Nat)(h:d8):Prop:=IsZip h z TI TO .none/\o4 h TI (.ref c) (.ref d)/\(∃a b,o4 h TO a b)/\NC E h c l i/\NC F h d g i
theorem CZ{P:d5}{w:c9}{K:u9}{Y:List g8}{x1:Nat}{cd:Pos}{t1 t2:Bool}{z TI TO j l M G:d6}(nd:[z,TI,TO,j,l].Nodup):Turn P w K (.Tuple Y x1 cd) (Sz K t1 t2 M G) [z,TI,TO,j,l] z (Sw t1 t2 z TI TO j l M G) where
 mem:=E3
 obj:=λi h ⟨u,g,⟨a,b,J⟩,h1,h2⟩ c d=>by simp only[A3,No,or_false]at d;rcases d with rfl|rfl|rfl|rfl|rfl;exact⟨_,u,λv q=>nomatch q⟩;exact⟨_,g,λv q=>nomatch q⟩;exact⟨_,J,λv q=>nomatch q⟩;exact h1.obj;exact h2.obj
 keep:=λi h h' ⟨u,g,⟨a,b,J⟩,h1,h2⟩ k=>⟨k z (by simp) _ u,k TI (by simp) _ g,⟨a,b,k TO (by simp) _ J⟩,h1.at λo e=>k j (by simp) o e,h2.at λo e=>k l (by simp) o e⟩
 item:=by
  rintro X hP hw hK d i as s σ H E I S ⟨u,g,⟨a,b,J⟩,h1,h2⟩ ⟨xs,ys,x,y,n,p,hx,hy⟩;subst hP hw hK;obtain⟨us,ru,iu,bM⟩:=n.is I;obtain⟨vs,rv,iv,bS⟩:=p.is I;have lu:=ru.length;have lv:=rv.length;have f:=S;have C:=nd;simp only[J5,A3,No,or_false,not_or]at C;obtain⟨⟨Q,aD,L,R⟩,⟨U,V,W⟩,⟨r,t⟩,B,_⟩:=C;have a1:M≠j:=n.ne I (f j<|by simp);have a2:G≠l:=p.ne I (f l<|by simp);have Z:ZA z TI TO j l [j,M] [l,G]:=⟨nd,by simp[L,A2<|n.ne I<|f z<|by simp],by simp[r,A2<|n.ne I<|f TO<|by simp],by simp[A2 B,A2<|n.ne I<|f l<|by simp],by simp[R,A2<|p.ne I<|f z<|by simp],by simp[t,A2<|p.ne I<|f TO<|by simp],by simp[B,A2<|p.ne I<|f j<|by simp]⟩
  have ix:i<us.length:=by have:=(z9.mp hx).1;lia
  have iy:i<vs.length:=by have:=(z9.mp hy).1;lia
  have hT:s.TypeIs (.ref z) "zip":=⟨_,u,rfl⟩
  unfold j0;refine t6<|Nv<|MN (name:=u3 "__next__") hT F.slot_zip_next<|F9 F.slot_zip_next hT F.entry_zip_next ?_<|F.args_zip_next_1<|.ref z;refine CK (k:=i) (jT (show X.A.in1.handled=b8 from I.ok.hd d) t1 j M a1 us.toArray) (jT (show X.A.in1.handled=b8 from I.ok.hd d) t2 l G a2 vs.toArray) Z u g J ⟨h1,iu⟩ ⟨h2,iv⟩ (by simpa using ix) (by simpa using iy) λh' tk px py T al an D bs ai s1 s2 hp hk=>t8 ⟨_,rfl,?_⟩;refine wpAny_letOwnedTupleGo_zip bs λh2 bw m=>?_;have cl:T≠z:=λq=>by subst q;exact p5 (A1 u)<|Nat.not_lt_of_le D
  obtain⟨N,aS,ce⟩:=ru.get hx;obtain⟨O,be,ch⟩:=rv.get hy;have e1:N=px:=by rw[Sa,aS]at al;exact C0 al
  have e2:O=py:=by rw[Sa,be]at an;exact C0 an
  subst e1 e2;have bl:o4 h2 T N O:=m.extBut _ _ cl hp;refine⟨.ref T,x3 H T<|.tup [x,y],?_,rfl,⟨T,x,y,rfl,I.hok.fresh D,rfl,λzs hq=>by rw[hq.inj I n];exact hx,λzs hq=>by rw[hq.inj I p];exact hy⟩,⟨bw,m.extBut _ _ (A2 Q)<|hk _ _ (A2 Q) U V W g,⟨_,_,m.extBut _ _ (A2 aD) ai⟩,s1.1.at λo e=>m.extBut _ _ (A2 L) e,s2.1.at λo e=>m.extBut _ _ (A2 R) e⟩,λc d=>?_⟩;refine I.turnedT (t':=tk) S (λc o d e=>?_) D ⟨by simp[Nl],[N,O],.cons ce<|.cons ch .nil,⟨_,bl,rfl,⟨0,rfl⟩,rfl⟩⟩;simp only[A3,No,or_false,not_or]at d;exact m.extBut _ _ d.1<|hk _ _ d.1 d.2.2.1 d.2.2.2.1 d.2.2.2.2 e;obtain⟨oc,ec⟩:∃o,s.heap.get? c=b7 o:=by simp only[A3,No,or_false]at d;rcases d with rfl|rfl|rfl|rfl|rfl;exact⟨_,u⟩;exact⟨_,g⟩;exact⟨_,J⟩;obtain⟨o,e,_⟩:=h1.obj;exact⟨o,e⟩;obtain⟨o,e,_⟩:=NC.obj ‹NC t2 s.heap _ G i›;exact⟨o,e⟩
  rw[az<|A4<|K4 (A1 ec) D];exact(S c d).1
 done:=by
  rintro X hP hw hK d i as s σ H E I S ⟨u,g,⟨a,b,J⟩,h1,h2⟩ ⟨xs,ys,n,p,aj⟩;subst hP hw hK;obtain⟨us,ru,iu,bM⟩:=n.is I;obtain⟨vs,rv,iv,bS⟩:=p.is I;have lu:=ru.length;have lv:=rv.length;have f:=S;have C:=nd;simp only[J5,A3,No,or_false,not_or]at C;obtain⟨⟨Q,aD,L,R⟩,⟨U,V,W⟩,⟨r,t⟩,B,_⟩:=C;have a1:M≠j:=n.ne I (f j<|by simp);have a2:G≠l:=p.ne I (f l<|by simp);have Z:ZA z TI TO j l [j,M] [l,G]:=⟨nd,by simp[L,A2<|n.ne I<|f z<|by simp],by simp[r,A2<|n.ne I<|f TO<|by simp],by simp[A2 B,A2<|n.ne I<|f l<|by simp],by simp[R,A2<|p.ne I<|f z<|by simp],by simp[t,A2<|p.ne I<|f TO<|by simp],by simp[B,A2<|p.ne I<|f j<|by simp]⟩
  have hT:s.TypeIs (.ref z) "zip":=⟨_,u,rfl⟩
  unfold j0;refine t6<|Nv<|MN (name:=u3 "__next__") hT F.slot_zip_next<|F9 F.slot_zip_next hT F.entry_zip_next ?_<|F.args_zip_next_1<|.ref z;refine CM (k:=i) (jT (show X.A.in1.handled=b8 from I.ok.hd d) t1 j M a1 us.toArray) (jT (show X.A.in1.handled=b8 from I.ok.hd d) t2 l G a2 vs.toArray) Z u g J ⟨h1,iu⟩ ⟨h2,iv⟩ ?_ λh' tk e hk ⟨o,ho,bk⟩=>?_;rw[A6,A6,<-lu,<-lv];exact aj;refine t6<|Oc (T:="StopIteration") (b:=b9) ⟨o,ho,bk⟩ Pu<|t8 ⟨rfl,?_⟩;refine I.turnedL (t':=tk) S λc o d e=>?_;simp only[A3,No,or_false,not_or]at d;exact hk _ _ d.1 d.2.2.1 d.2.2.2.1 d.2.2.2.2 e
 self:=λ_ _ _ _ _ st h=>wpAny_pyIter_zip st.1 h
end
noncomputable abbrev PU(t:Bool)(l:d6):d7:={ cls:=.type<|if t=b9 then "tuple_iterator" else "list_iterator",data:=.fields #[.ref l,.int 0 0] }
theorem xO(h:Nr t s.heap l xs)(q:Q (.ref s.heap.objs.size) { s with heap:=s.heap.push (PU t l) }):g7 (h7 prog w) A (j2<|.ref l) Q E s:=by
 cases t with
 |true=>exact wpAny_pyIter_tuple (show s.heap.IsTuple l xs from h) q
 |false=>exact Ri (show s.heap.IsList l xs from h) q
noncomputable abbrev QM(h:d8)(t1:Bool)(l1:d6):d8:=h.push<|PU t1 l1
noncomputable abbrev QL(h:d8)(t1 t2:Bool)(l1 l2:d6):d8:=(QM h t1 l1).push<|PU t2 l2
noncomputable abbrev QK(h:d8)(t1 t2:Bool)(l1 l2:d6):d8:=(QL h t1 t2 l1 l2).push { cls:=.type "tuple",data:=.seq #[.ref h.objs.size,.ref (QM h t1 l1).objs.size] }
noncomputable abbrev QJ(h:d8)(t1 t2:Bool)(l1 l2:d6):d8:=(QK h t1 t2 l1 l2).push { cls:=.type "tuple",data:=.seq #[.none,.none] }
noncomputable abbrev Pb(h:d8)(t1 t2:Bool)(l1 l2:d6):d8:=(QJ h t1 t2 l1 l2).push { cls:=.type "zip",data:=.fields #[.none,.bool c5,.bool c5,.ref (QL h t1 t2 l1 l2).objs.size,.ref (QK h t1 t2 l1 l2).objs.size] }
theorem Nr.push(x:Nr t h l xs)(o:d7):Nr t (h.push o) l xs:=by
 cases t with
 |true=>obtain⟨u,e,r⟩:=(show h.IsTuple l xs from x);exact(show (h.push o).IsTuple l xs from⟨u,z5 _ e,r⟩)
 |false=>obtain⟨u,e,r⟩:=(show h.IsList l xs from x);exact(show (h.push o).IsList l xs from⟨u,z5 _ e,r⟩)
theorem CL(E F:Bool)(b l:d6)(xs ys:Array c7):Meets (Builtin.«zip.__new__» ⟨[.type "zip",.ref b,.ref l],[]⟩) (λ_ R s=>Nr E s.heap b xs/\Nr F s.heap l ys/\R (.ok<|.ret<|.ref (QJ s.heap E F b l).objs.size) { s with heap:=Pb s.heap E F b l }):=.of_wp λp w A R s h=>by
  obtain⟨hp,g,d,q,o⟩:=s;obtain⟨a,f,h⟩:=h;have c:=sub_zip;have r:Nr E (Shared.heap ⟨hp,g,d,q,o⟩) b xs:=a;have n:Nr F (Shared.heap ⟨hp.push<|PU E b,g,d,q,o⟩) l ys:=f.push _
  wp_walk using xO r,xO n
  exact⟨_,rfl,h⟩
theorem Cp(h1:Nr t1 s.heap l1 xs)(h2:Nr t2 s.heap l2 ys)(h:∀h',Sw t1 t2 (s.heap.objs.size+4) (s.heap.objs.size+2) (s.heap.objs.size+3) s.heap.objs.size (s.heap.objs.size+1) l1 l2 0 h'->(∀c o,s.heap.get? c=b7 o->h'.get? c=b7 o)->Q (.ref<|s.heap.objs.size+4) { s with heap:=h' }):g7 (h7 prog w) A (call (.type "zip") [.ref l1,.ref l2]) Q E s:=by
 refine callType_new F.called_zip (by decide) (F.typeCall_zip_2 _ _) (F.newCall_zip_2 _ _) (λj=>F.args_object_init_3 j _ _) F.entry_zip_new (CL t1 t2 l1 l2 xs ys) ⟨h1,h2,?_⟩;have z:(QM s.heap t1 l1).objs.size=s.heap.objs.size+1:=MF ..;have y:(QL s.heap t1 t2 l1 l2).objs.size=s.heap.objs.size+2:=by rw[MF,z]
 have b:(QK s.heap t1 t2 l1 l2).objs.size=s.heap.objs.size+3:=by rw[MF,y]
 have k:(QJ s.heap t1 t2 l1 l2).objs.size=s.heap.objs.size+4:=by rw[MF,b]
 have p:∀{h:d8}{c:d6}{o:d7} (u:d7),h.get? c=b7 o->(h.push u).get? c=b7 o:=λu e=>z5 _ e;have f:(Pb s.heap t1 t2 l1 l2).get? (QJ s.heap t1 t2 l1 l2).objs.size=b7 _:=A7 _ rfl;have i:(Pb s.heap t1 t2 l1 l2).get? (QK s.heap t1 t2 l1 l2).objs.size=b7 _:=p _<|A7 _ rfl;have g3:(Pb s.heap t1 t2 l1 l2).get? (QL s.heap t1 t2 l1 l2).objs.size=b7 _:=p _<|p _<|A7 _ rfl;have g:(Pb s.heap t1 t2 l1 l2).get? (QM s.heap t1 l1).objs.size=b7 _:=p _<|p _<|p _<|A7 _ rfl;have g1:(Pb s.heap t1 t2 l1 l2).get? s.heap.objs.size=b7 _:=p _<|p _<|p _<|p _<|A7 _ rfl;have d:∀(t:Bool) (h:d8) (a l:d6),h.get? a=b7 (PU t l)->NC t h a l 0:=λt h a l e=>by cases t<;>exact⟨_,e,rfl,rfl⟩
 show _/\_;rw[y,b,k]at f;rw[z,y]at g3;rw[b]at i;rw[z]at g;rw[k];exact⟨⟨_,f,rfl⟩,h _ ⟨f,g3,⟨_,_,i⟩,d _ _ _ _ g1,d _ _ _ _ g⟩ λc o q=>p _<|p _<|p _<|p _<|p _ q⟩
noncomputable def zipD(xs ys:List D):List D:=(xs.zip ys).map λp=>.tup [p.1,p.2]
def CG(M:u8)(x:D)(xs:List D)(ok:u8->Prop):Prop:=match x with
 |.tup ds=>xs=ds/\ok=λ_=>True
 |.ref n=>ak M n xs/\ok=λM=>ak M n xs
 |_=>False
def dZip(t:F5):MW:=λS M R=>t S M λds M1=>match ds with
 | [x,y]=>∃xs ys o1 o2,CG M1 x xs o1/\CG M1 y ys o2/\R ⟨zipD xs ys,λM=>o1 M/\o2 M⟩ M1
 |_=>False
theorem Fv:f6 "zip" = b7 (.type "zip"):=by decide +kernel
theorem CG.sq{X:Cx}(m:v9 X.K ρ M H)(h:CG M x xs ok)(r:u6 X.K ρ H x v)(e:aK v u):∃(t:Bool) (l:d6),u=.ref l/\ok M/\∀ρ' M' H',v9 X.K ρ' M' H'->Grow X.K ρ H ρ' H'->ok M'->∃vs,Sq t X.K H' l vs/\Reps X.K ρ' H' xs vs:=by
 unfold CG at h;split at h;obtain⟨rfl,rfl⟩:=h;obtain⟨a,vs,rfl,q,r⟩:=u6.inv_tup r;cases e;exact⟨b9,a,rfl,trivial,λρ' M' H' s g _=>⟨vs,g.tup a vs q,r.grow g⟩⟩;obtain⟨h,rfl⟩:=h;cases r with
 |@ref n a f=>cases e;exact⟨c5,a,rfl,h,λρ' M' H' s g ok=>ak.seq s ok<|ao g.pre f⟩
 exact h.elim
theorem MI.zip{ρ:List d6}{H:Hp}{xs ys:List D}{o1 o2:u8->Prop}{E F:Bool}{l f:d6}{K:u9}(h1:∀ρ' M' H',v9 K ρ' M' H'->Grow K ρ H ρ' H'->o1 M'->∃vs,Sq E K H' l vs/\Reps K ρ' H' xs vs) (h2:∀ρ' M' H',v9 K ρ' M' H'->Grow K ρ H ρ' H'->o2 M'->∃vs,Sq F K H' f vs/\Reps K ρ' H' ys vs):MI K ⟨zipD xs ys,λM=>o1 M/\o2 M⟩ ρ H (Sz K E F l f) where
 go:=λi ρ' M' H' m g ok hi=>by
  obtain⟨vs,c,r⟩:=h1 ρ' M' H' m g ok.1;obtain⟨s,j,n⟩:=h2 ρ' M' H' m g ok.2;have v:i<xs.length/\i<ys.length:=by simpa [zipD,Nat.lt_min]using hi
  have t:=r.length;have h:=n.length;exact⟨vs,s,_,_,c,j,w9 (by lia),w9<|by lia⟩
 yld:=λi ρ' M' H' x A m g ok hi y=>by obtain⟨vs,c,r⟩:=h1 ρ' M' H' m g ok.1;obtain⟨s,j,n⟩:=h2 ρ' M' H' m g ok.2;obtain⟨T,a,b,rfl,o,rfl,k,p⟩:=y;obtain⟨d,q,w⟩:=r.getV<|k vs c;obtain⟨e,u,z⟩:=n.getV<|p s j;refine⟨.tup [d,e],ρ',?_,m.laid o,Grow.laid o,.tup (B7.of aR)<|.cons (w.grow<|Grow.laid o)<|.cons (z.grow<|Grow.laid o) .nil⟩;show (zipD xs ys)[i]?=_;have:(xs.zip ys)[i]?=b7 (d,e):=So.mpr ⟨q,u⟩;rw[zipD,C6,this];rfl
 stop:=λρ' M' H' m g ok=>by obtain⟨vs,c,r⟩:=h1 ρ' M' H' m g ok.1;obtain⟨s,j,n⟩:=h2 ρ' M' H' m g ok.2;have t:=r.length;have h:=n.length;refine⟨vs,s,c,j,?_⟩;show (zipD xs ys).length=_\/_;rw[zipD,v4,Q3];lia
theorem LV(E:X.mg "zip" = b8)(C:DA X [a,b] ta)(D:Gl X "zip":=by rfl)(hs:i4 [a,b] X.env=[(c5,eval a X.env),(c5,eval b X.env)]:=by rfl)(m:i4 [b] X.env=[(c5,eval b X.env)]:=by rfl):DI X (.Tuple elts x1 q) (.Call (.Name "zip" p) [a,b] [] pos) (dZip ta):=by
 intro i s σ H R I h;obtain⟨S,M,ρ,Q,W,Y,F,k⟩:=h;refine Call_ (lA I D E Fv<|RE (w6 (C pos i s σ H _ I ⟨S,M,ρ,_,W,Y,F,λv H' w=>w⟩) ?_) (by rw[hs,m])<|by rw[m];rfl);rintro us d ⟨vs,l,g,r,ds,M1,e,j,g1,f,n⟩
 try dsimp only at n
 split at n;obtain⟨xs,ys,o1,o2,Z,w2,T⟩:=n
 first|have z:=Reps.inv_cons f|have z:=ay.inv_cons f
 clear f;obtain⟨_,_,rfl,A,f⟩:=z
 first|have z:=Reps.inv_cons f|have z:=ay.inv_cons f
 clear f;obtain⟨_,_,rfl,B,f⟩:=z;cases f
 first|have z:=Reps.inv_cons r|have z:=ay.inv_cons r
 clear r;obtain⟨_,_,rfl,x,r⟩:=z
 first|have z:=Reps.inv_cons r|have z:=ay.inv_cons r
 clear r;obtain⟨_,_,rfl,y,r⟩:=z;cases r;obtain⟨t1,l1,rfl,K,o⟩:=Z.sq j A x;obtain⟨t2,l2,rfl,L,t⟩:=w2.sq j B y;obtain⟨as,U,_⟩:=o e M1 l j .refl K;obtain⟨bs,V,_⟩:=t e M1 l j .refl L;obtain⟨is,_,G,_⟩:=U.is g;obtain⟨js,_,J,_⟩:=V.is g;refine Cp G J λh' st N=>?_;refine wpAny_pyIter_zip st.1 ?_;have P:[d.heap.objs.size+4,d.heap.objs.size+2,d.heap.objs.size+3,d.heap.objs.size,d.heap.objs.size+1].Nodup:=by simp
 refine⟨d.heap.objs.size+4,_,_,_,l,rfl,g.kept (t':=d.toks) N,CZ P,st,λc u=>?_,k _ l ⟨_,M1,e,j,g1,MI.zip o t,T⟩⟩;have O:d.heap.objs.size<=c:=by simp only[A3,No,or_false]at u;rcases u with rfl|rfl|rfl|rfl|rfl<;>first|exact Qp _ _|exact v6 _
 exact g.fpOk O<|g.hok.fresh O;exact n.elim
def nu(z:c8):C5:=λds M Q=>match ds with
 | [.str y]=>Q (.bl<|Pt z y) M
 |_=>False
theorem AR:G9 X "str.startswith" (AW X.K nu):=by
 rintro p s σ H x xs v us R I g a ⟨z,ds,M,ρ,Q,c,m,f,q,k⟩;subst c;obtain⟨t,rfl⟩:=g;unfold nu at q;split at q
 first|have h:=Reps.inv_cons f|have h:=ay.inv_cons f
 clear f;obtain⟨_,_,rfl,r,f⟩:=h;cases f;cases r;obtain⟨u,rfl,t',rfl⟩:=ay.one a;exact PySem.SC.startswith ⟨.bl _,H,I,rfl,k _ H<|VQ.now m (.bl _) q⟩
 exact q.elim
def tV(z:c8):C5:=λds M Q=>match ds with
 | [.str y]=>(y.length≠0/\z.length<=sizeLine/\(K3 z y).length<=sizeLine)/\Q (.ref M.length) (M++[.lst<|(K3 z y).map .str])
 |_=>False
theorem sy:∀(tk:Nat) (xs:List c8),ay (xs.map V.str) (strsFrom tk xs)
 |_,[]=>.nil
 |tk,x::xs=>.cons ⟨_,rfl⟩<|sy (tk+1) xs
theorem tQ{K:u9}{ρ:List d6}{H:Hp}:∀xs:List c8,Reps K ρ H (xs.map D.str) (xs.map V.str)
 | []=>.nil
 |x::xs=>.cons (.str x)<|tQ xs
theorem DR:G9 X "str.split" (AW X.K tV):=by
 rintro c s σ H x xs v us R I A w ⟨z,ds,M,ρ,Q,j,B,f,q,k⟩;subst j;obtain⟨t,rfl⟩:=A;unfold tV at q;split at q;rename_i y;obtain⟨⟨O,l,i⟩,q⟩:=q
 first|have a:=Reps.inv_cons f|have a:=ay.inv_cons f
 clear f;obtain⟨_,_,rfl,m,f⟩:=a;cases f;cases m;obtain⟨u,rfl,t',rfl⟩:=ay.one w;have n:∀(p:List c8) (us:List c7) (g:Nat),K3 z y=p->ay (p.map V.str) us->EP X c σ R (.ref s.heap.objs.size) { s with toks:=g,heap:=s.heap.push { cls:=.type "list",data:=.seq us.toArray } }:=λp us g e r=>by subst e;exact⟨.ref _,_,I.laid (t':=g) (o:=.lst<|(K3 z y).map V.str) (λb C q=>z5 _ q) (v6 _) ⟨by rw[v4];exact i,us,0,r,A7 _ rfl⟩,rfl,k _ _<|VQ.laidL B .refl (tQ _) (I.hok.fresh<|v6 _) q⟩
 have h:(y.length==0)=c5:=by simpa using O
 cases h1:(decide (z.length<y.length)||decide (OG z<OG y));cases d:(O7 z y 0 z.length<|z.length+1).isEmpty;have e:K3 z y=Builtin.Str.partsBetween z (O7 z y 0 z.length<|z.length+1) y.length:=by unfold K3;rw[h1,d];rfl
 exact OR F.slot_str_split (OS _ _ _) F.entry_str_split (F.args_str_split_2 _ _) (meets_str_split_sep z y t t' h1 h d l<|by rw[<-e];exact i)<|n _ _ _ e<|sy _ _;have e:K3 z y=[z]:=by unfold K3;rw[h1,d];rfl
 exact OR F.slot_str_split (OS _ _ _) F.entry_str_split (F.args_str_split_2 _ _) (meets_str_split_not_found z y t t' h1 h d)<|n _ [.str z t] s.toks e<|.cons ⟨_,rfl⟩ .nil;have e:K3 z y=[z]:=by unfold K3;rw[h1];rfl
 exact OR F.slot_str_split (OS _ _ _) F.entry_str_split (F.args_str_split_2 _ _) (meets_str_split_cannot_occur z y t t' h1)<|n _ [.str z t] s.toks e<|.cons ⟨_,rfl⟩ .nil;exact q.elim
theorem wd{D:d6}{vs:List c7}{n:Nat}{Q:c7->f8->Prop}(m:s.heap.get? D=b7 (n9 "list" vs.toArray n))(h2:vs.length<2)(h:∀h' c,(∀b o,b≠D->s.heap.get? b=b7 o->h'.get? b=b7 o)->h'.get? D=b7 (n9 "list" vs.toArray c)->Q .none { s with heap:=h' }):g7 (h7 prog w) A (call (.builtin "list.sort") [.ref D]) Q E s:=by
 have f:vs.length<=sizeLine:=by rw[Nl];lia
 refine F9 slot_list_sort (⟨_,m,rfl⟩) entry_list_sort ?_<|args_list_sort<|.ref D;rw[list_sort_plain];refine t6<|listItems_at m rfl<|t6<|listUpdate_at m rfl ?_ (by rw[A6];exact f)<|A9 _;obtain⟨k,e⟩:∃k,(s.heap.update D<|MP λ_=>(#[]:Array c7)).get? D=b7 (n9 "list" #[] k):=⟨_,Q4 m λ_=>#[]⟩
 refine t6<|seqEpoch_at e rfl<|t6<|wpAny_newTuple (t6<|wpAny_newList (E4 ?_)<|A9 _) f;dsimp only;have g:vs.toArray.size<2:=by rw[A6];exact h2
 rw[p0 g,p0 g];refine t6<|t8 ?_;rw[StateT.run_pure];refine t6<|t8 ?_;dsimp only;generalize d:((s.heap.update D<|MP λ_=>(#[]:Array c7)).push<|n9 "tuple" vs.toArray 0).push (n9 "list" #[] 0)=g3;have a:g3.get? D=b7 (n9 "list" #[] k):=by rw[<-d];exact z5 _<|z5 _ e
 have p:∀b o,b≠D->s.heap.get? b=b7 o->g3.get? b=b7 o:=λb o i q=>by rw[<-d];refine z5 _<|z5 _ ?_;rw[QD _ _ _ _ i];exact q
 refine t6<|seqEpoch_at a rfl ?_;have r:∀us:List c7,us.length<2->(us.toArray.zip us.toArray).map (·.2)=us.toArray:=λus hu=>by
  match us,hu with
  | [],_=>simp
  | [v],_=>simp
  |_::_::_,hu=>simp at hu;lia
 have t:(arrOf<|SortSt.mk' general' (vs.toArray.zip vs.toArray) #[] 7 b8).map (·.2)=vs.toArray:=r vs h2;rw[t];refine t6 (listUpdate_at a rfl ?_ (A9 _)<|by rw[A6];exact Nat.le_succ_of_le f);simp only[show failedOf (SortSt.mk' general' (vs.toArray.zip vs.toArray) #[] 7 b8)=b8 from rfl,bne_self_eq_false,B5,r9];obtain⟨j,l⟩:∃j,(g3.update D<|MP λ_=>vs.toArray).get? D=b7 (n9 "list" vs.toArray j):=⟨_,Q4 a λ_=>vs.toArray⟩
 refine t8 ⟨_,rfl,h _ j (λb o i q=>?_) l⟩;rw[QD _ _ _ _ i];exact p b o i q
theorem Gq{k:Nat}{D:d6}{xs:List L2.D}{P:List V}{its:List c7}{R:VK}{h1:d8}{tk n:Nat}{m:c8->Option c7}{A:f7}{E:c7->f8->Prop}(hr:Room k X.A)(hA:A.units<=X.A.units+4)(I:t9 X pins σ H s)(sm:v9 X.K ρ M H)(so:SrtG M xs)(r:Reps X.K ρ H xs P)(O:ay P its)(T:s.heap.Ns X.env.locals m) (F:h1.Ns X.env.locals m) (l:∀b u,b≠X.env.locals->s.heap.get? b=b7 u->h1.get? b=b7 u) (L:s.heap.get? D=b8) (G:D≠X.env.locals) (ho:h1.get? D=b7 (n9 "list" its.toArray n))(kk:∀v H',((∀Q:DK,(∀ys,ys.Perm xs->Jh M ys->Q (.ref M.length) (M++[.lst ys]))->VQ X.K ρ H Q v H'))->R v H'):g7 (h7 X.prog X.w) A (call (.builtin "list.sort") [.ref D]) (λ_ s'=>EP X pins σ R (.ref D) s') E { s with heap:=h1,toks:=tk }:=by
 have lw:=r.length;have li:=O.length;have ai:=so.len;have N:H D=b8:=D8.none I.hok L;have y:∀b u,s.heap.get? b=b7 u->b≠D:=λb u e q=>by subst q;rw[L]at e;cases e
 by_cases h2:its.length<2;refine wd ho h2 λh' c J Y=>?_;have W:h'.Ns X.env.locals m:=by obtain⟨o,es,ep,e,aL⟩:=F;exact⟨o,es,ep,J _ _ (A2 G) e,aL⟩
 refine⟨.ref D,_,I.laidF (t':=tk) (o:=.lst P) (λb u g e=>J b u (y b u e)<|l b u g e) T W L N ⟨by rw[Nl];lia,its,c,O,Y⟩,rfl,kk _ _ λQ S=>VQ.laidL sm .refl r N<|S xs (Pv _) ?_⟩;unfold Jh
 match xs,(show xs.length<2 by lia) with
 | [],_=>exact Rj
 | [x],_=>exact Sh _ _
 |_::_::_,hx=>simp at hx;lia
 have z:2<=its.length:=by lia
 have f:∀a o,(a,o)∈Att.ledger h1 X.env.locals D↔a≠X.env.locals/\a≠D/\h1.get? a=b7 o:=λa o=>Att.mem_ledger;have U:UpdF D (n9 "list" its.toArray n) ([]++(D,n9 "list" its.toArray n)::Att.ledger h1 X.env.locals D) λo'=>(D,o')::Att.ledger h1 X.env.locals D:=UpdF.head λp hp=>((f p.1 p.2).mp hp).2.1;refine kat_lsort (s:={ s with heap:=h1,toks:=tk }) (vs:=its) (Att.fr_all F) (Att.news_ledger G ho) U rfl z (by lia) λe1 h' F' N'=>?_;have kp:∀b u,b≠X.env.locals->s.heap.get? b=b7 u->h'.get? b=b7 u:=λb u g e=>(N' (b,u)<|C7 _<|(f b u).mpr ⟨g,y b u e,l b u g e⟩).1;have I':t9 X pins σ H { s with heap:=h',toks:=tk }:=I.keptF (t':=tk) kp T F'.ns;have hu:A.in1.units+w4<j8:=by have:=hr.un;have:w4=30:=rfl;show A.units+1+w4<j8;lia
 refine L7 (tL I' sm so r O z hu) (λκ s' hk=>?_) λ_ _ x=>x;obtain⟨rfl,B⟩:=hk;refine Srt.wp_run (n:=its.length) (c:=λi j=>if i<xs.length then(if j<xs.length then C8 M w4 (xs.getD i default) (xs.getD j default)else b9)else c5) (λi j C hi hj hc=>?_) _ (Srt.sort_bd<|by lia).1 ?_;refine B i j C hi hj ?_;rw[p0 (by lia),p0<|by lia]at hc;exact hc;have t:=Srt.All.run (c:=λi j=>if i<xs.length then(if j<xs.length then C8 M w4 (xs.getD i default) (xs.getD j default)else b9)else c5) _ (Srt.sort_bd (n:=its.length)<|by lia).2;obtain⟨o1,o2,o3⟩:=Kd so;have d:=Srt.sort_list xs (by lia) o1 o2 o3
 try dsimp only at d
 rw[show xs.length=its.length by lia]at d t ⊢;generalize Srt.run _ (N5 its.length)=p at t d ⊢;have hi:∀i∈p.toList,i<xs.length:=λi h=>by have:=t.mem_iff.mp h;rw[G1]at this;lia
 refine KasFin.intro F' N' (UpdF.head λq hq=>((f q.1 q.2).mp hq).2.1) λh2 c F2 N2=>?_;have r':=r.perm p.toList hi;have Z:=O.perm p.toList (λi h=>by have:=hi i h;lia);refine⟨.ref D,_,I.laidF (t':=tk) (o:=.lst<|p.toList.map λi=>P.getD i .non) (λb u g e=>(N2 (b,u)<|C7 _<|(f b u).mpr ⟨g,y b u e,l b u g e⟩).1) T F2.ns L N ⟨?_,_,c,Z,(N2 _ E3).1⟩,rfl,kk _ _ λQ S=>VQ.laidL sm .refl r' N<|S _ d.1 d.2⟩;rw[v4];have:=d.1.length_eq;rw[v4]at this;rw[Nl];lia
section
variable{K:u9}{ρ:List d6}{H:Hp}{M:u8}
theorem v9.laidM(S:v9 K ρ M H)(hp:H p=b8)(ok:zw K (ρ++[p]) (x3 H p o) p mo):v9 K (ρ++[p]) (M++[mo]) (x3 H p o):=by
 have g:Grow K ρ H (ρ++[p]) (x3 H p o):=Grow.laidR hp;have d:∀(n:Nat),ρ[n]?=b7 p->MH M[n]?:=λn e=>by rcases S.tracked e with⟨o,q⟩|q;rw[hp]at q;cases q;exact q
 refine⟨λn m a h t l=>?_,by rw[B6,B6,S.len];rfl,λn a i t l=>?_⟩;rcases ba t with f|⟨f,g1⟩
 rcases ba l with b|⟨b,c⟩
 exact(S.nd n m a h f b).elim (λz=>.inl z.more) λz=>.inr z.more;subst c;exact .inl (d n f).more;rcases ba l with b|⟨b,c⟩
 subst g1;exact .inr (d m b).more;exact p5 (f.trans b.symm) h;rcases ba t with f|⟨f,g1⟩
 have j:n<M.length:=by rw[<-S.len];exact(z9.mp f).1
 rw[L0 j]at l;exact(S.obj n a i f l).grow g<|S.keeps hp f l;subst g1 f;rw[S.len,MU<|v6 _,NS]at l;simp at l;subst l;exact ok
theorem B7.writtenD(hp:H p=b7 (.dK kv))(h:B7 K H a xs):B7 K (x3 H p o) a xs:=by
 rcases h with h|h;rcases h with h|⟨b,h⟩
 exact .inl (.inl<|by rw[az<|yN h hp<|by intro z;cases z];exact h);exact .inl<|.inr ⟨b,by rw[az<|yN h hp<|by intro z;cases z];exact h⟩;exact .inr h
theorem v9.writeD(S:v9 K ρ M H)(t:ρ[n]?=b7 a)(u:M[n]?=b7 (.dct kvs))(s:H a=b7 (.dK kv))(r:Reps K ρ H (kvs'.map (·.2)) vs'):v9 K ρ (M.set n<|.dct kvs') (x3 H a (.dK (jv (kvs'.map (·.1)) vs')))/\Grow K ρ H ρ (x3 H a (.dK (jv (kvs'.map (·.1)) vs'))):=by
 have g:Grow K ρ H ρ (x3 H a (.dK (jv (kvs'.map (·.1)) vs'))):=⟨Oa,λ_ _ h=>B7.writtenD s h⟩
 have k:∀m,m≠n->(M.set n<|.dct kvs')[m]?=M[m]?:=λm e=>Na<|A2 e;have c:¬MH M[n]?:=λ⟨_,z⟩=>by rw[u]at z;cases z
 refine⟨⟨λm l b i d f=>?_,by rw[NX];exact S.len,λm b o d f=>?_⟩,g⟩;have q:=S.nd m l b i d f;by_cases h1:m=n;subst h1;rw[k l<|A2 i];exact .inr<|q.resolve_left c;rw[k m h1];by_cases h2:l=n;subst h2;exact .inl<|q.resolve_right c;rw[k l h2];exact q;by_cases e:m=n;subst e;have j:b=a:=C0<|d.symm.trans t;subst j;rw[Nj<|by rw[<-S.len];exact(z9.mp t).1]at f;cases f;exact⟨vs',aR,r.grow g⟩;rw[k m e]at f;by_cases j:b=a;subst j;have p:=(S.nd m n b e d t).resolve_right c;rw[f]at p;exact(S.obj m b o d f).grow g<|.inr p;exact(S.obj m b o d f).grow g<|.inl<|az j
noncomputable def gh(kvs:List (c8×D))(k:c8):Option D:=(kvs.find? λp=>decide<|p.1=k).map (·.2)
noncomputable def lZ(kvs:List (c8×D))(k:c8)(d:D):List (c8×D):=if (kvs.any λp=>decide<|p.1=k)=b9 then kvs.map (λp=>if p.1=k then(p.1,d)else p)else kvs++[(k,d)]
theorem HZ(a b:c8):decide ((ABp a:E2)=ABp b)=decide (a=b):=FV a b
theorem jA:∀{kvs:List (c8×D)}{vs:List V},Reps K ρ H (kvs.map (·.2)) vs->gh kvs k=b7 d->∃v,wQ (jv (kvs.map (·.1)) vs) (ABp k)=b7 v/\u6 K ρ H d v
 | [],_,_,e=>by simp[gh]at e
 |(k',d')::kvs,_,.cons h t,e=>by
  by_cases q:k'=k;subst q;have:d'=d:=by simpa [gh]using e
  subst this;exact⟨_,by simp[jv,wQ],h⟩;have e':gh kvs k=b7 d:=by simpa [gh,ML,q]using e
  obtain⟨v,h1,h2⟩:=jA t e';refine⟨v,?_,h2⟩;have:¬(ABp k':E2)=ABp k:=λz=>q<|Sum.inr.inj z;simpa [jv,wQ,ML,this]using h1
theorem ya:∀{kvs:List (c8×D)}{vs:List V},Reps K ρ H (kvs.map (·.2)) vs->((jv (kvs.map (·.1)) vs).any λkv=>decide<|kv.1=ABp k)=kvs.any λp=>decide (p.1=k)
 | [],_,_=>rfl
 |(k',d')::kvs,_,.cons h t=>by
  have ih:=ya (k:=k) t;show (decide ((ABp k':E2)=ABp k)||(jv (kvs.map (·.1)) _).any _)=(decide (k'=k)||kvs.any _)
  rw[ih,HZ]
theorem xJ(hd:u6 K ρ H d v):∀{kvs:List (c8×D)}{vs:List V},Reps K ρ H (kvs.map (·.2)) vs->∃vs',(jv (kvs.map (·.1)) vs).map (λkv=>if kv.1=ABp k then(kv.1,v)else kv)=jv ((kvs.map λp=>if p.1=k then(p.1,d)else p).map (·.1)) vs'/\Reps K ρ H ((kvs.map λp=>if p.1=k then(p.1,d)else p).map (·.2)) vs'
 | [],_,.nil=>⟨[],rfl,.nil⟩
 |(k',d')::kvs,_,.cons (v:=v') h t=>by obtain⟨vs',e,r⟩:=xJ (k:=k) hd t;by_cases q:k'=k;subst q;refine⟨v::vs',?_,?_⟩;simp only[B9,s9,jv,O5]at e ⊢;rw[e];simp only[B9,s9];exact .cons hd r;have q':¬(ABp k':E2)=ABp k:=λz=>q<|Sum.inr.inj z;refine⟨v'::vs',?_,?_⟩;simp only[B9,p4 q,p4 q',jv,O5]at e ⊢;rw[e];simp only[B9,p4 q];exact .cons h r
theorem tM:∀{kvs:List (c8×D)}{vs:List V},Reps K ρ H (kvs.map (·.2)) vs->jv (kvs.map (·.1)) vs++[(ABp k,v)]=jv (kvs.map (·.1)++[k]) (vs++[v])
 | [],_,.nil=>rfl
 |(k',d')::kvs,_,.cons h t=>by have:=tM (k:=k) (v:=v) t;simp only[B9,jv,O5,List.cons_append]at this ⊢;rw[this]
theorem Av(h:u6 K ρ H d v)(r:Reps K ρ H (kvs.map (·.2)) vs):∃vs',putK (jv (kvs.map (·.1)) vs) (ABp k) v=jv ((lZ kvs k d).map (·.1)) vs'/\Reps K ρ H ((lZ kvs k d).map (·.2)) vs':=by unfold putK lZ;rw[ya r];by_cases q:(kvs.any λp=>decide<|p.1=k)=b9;rw[p0 q,p0 q];exact xJ h r;rw[p4 q,p4 q];refine⟨vs++[v],?_,?_⟩;rw[tM r,Fn];rfl;rw[Fn];exact r.append<|.cons h .nil
end
def Fl:x6:=λ_ M Q=>Q (.ref M.length)<|M++[.dct []]
theorem Mi:DE X (.Dict [] [] pos) Fl:=by refine PE.imp Dw ?_;rintro σ H R ⟨S,M,ρ,Q,s,b,q,k⟩;refine λp hp=>?_;have j:Q (.ref M.length) (M++[.dct []]):=q;exact k _ _ ⟨.ref M.length,M++[.dct []],ρ++[p],s.laidM (mo:=.dct []) hp ⟨[],aR,.nil⟩,Grow.laidR hp,.ref s.last,j⟩
def Ci(t a:x6):x6:=λS M Q=>t S M λx M1=>a S M1 λy M2=>match x,y with
 |.ref n,.str k=>∃kvs d,M2[n]?=b7 (.dct kvs)/\gh kvs k=b7 d/\Q d M2
 |_,_=>False
theorem Mj{X:Cx}{o i:g8}{t y:x6}{a:Pos}(x:X.A.units+1<j8)(p:DE X o t)(hi:DE X i y)(hs:Gd i):DE X (.Subscript o i a) (Ci t y):=by
 refine PE.imp (GP x p hi hs) ?_;rintro σ H R ⟨S,M,ρ,Q,s,r,q,k⟩;refine⟨S,M,ρ,_,s,r,q,?_⟩;rintro v J ⟨d,M1,c,I,g1,E,C⟩;refine⟨S,M1,c,_,I,r.grow g1,C,?_⟩;rintro u K ⟨e,M2,f,z,g,F,j⟩
 try dsimp only at j
 split at j;obtain⟨kvs,d,m,B,D⟩:=j;obtain⟨_,rfl,n⟩:=u6.inv_ref E;cases F;obtain⟨vs,l,G⟩:=z.obj _ _ _ (ao g.pre n) m;obtain⟨w,h,b⟩:=jA G B;exact⟨_,w,rfl,.inl ⟨_,ABp _,.inl l,rfl,h.symm⟩,k _ _ ⟨d,M2,f,z,g1.trans g,b,D⟩⟩;exact j.elim
structure QV(X:Cx)(es:List g8)(t:Ge):Prop where
 ok:Qb X es t
section
variable{X:Cx}{e a b c o i tg:g8}{es aL:List g8}{te ta tb tc to ti:x6}{t:F5}{pos p p2 pos':Pos}{x:c8}{k:Nat}{g:MJ}{u:Ge}{name:c8}{apos cpos:Pos}
theorem HJ:QV X [] gU:=⟨ID⟩
theorem Es(h1:HG X e g)(h2:QV X es u)(hs:(i9 (e::es) X.env).map (·.2)=i8 e X.env::(i9 es X.env).map (·.2):=by kernel_rfl):QV X (e::es) (aI g u):=⟨Ff h1.ok h2.ok hs⟩
theorem KK(h:QV X es u)(f:X.calm=b9:=by kernel_rfl)(a:(i9 es X.env).length=n:=by kernel_rfl)(c:(i9 es X.env).findIdx? (·.1)=b8:=by kernel_rfl):HG X (.Tuple es j pos) (gR n u):=⟨LZ h.ok f a c⟩
theorem KL(m:HE X o to)(hi:HE X i ti)(f:∀v,i8 (.Subscript o i pos) X.env v=(do
   let ov <-i6 [v] (eval o X.env)
   let iv <-i6 [v,ov] (eval i X.env)
   standAt pos
   i6 [v,ov,iv] (setItem ov iv v)
   release [v,ov,iv] []):=by intro _;kernel_rfl):HG X (.Subscript o i pos) (Cd to ti):=⟨Ma m.ok hi.ok f⟩
theorem FU(i:HE X e te)(R:HG X tg g)(hs:swapsWithSole [tg] e pos.line X.env=pure c5:=by kernel_rfl)(w:swappedStores [tg] e X.env=pure b8:=by kernel_rfl)(h1:(i9 [tg] X.env).map (·.2)=[i8 tg X.env]:=by kernel_rfl):HS X (.Assign [tg] e pos) (Mm te g):=⟨LR i.ok R.ok hs w h1⟩
theorem KH(d:X.mg "zip" = b8)(f:HA X [a,b] t)(R:X.env.kindOf "zip" = b7 .globalImplicit:=by kernel_rfl)(hs:i4 [a,b] X.env=[(c5,eval a X.env),(c5,eval b X.env)]:=by kernel_rfl)(m:i4 [b] X.env=[(c5,eval b X.env)]:=by kernel_rfl):HI X (.Tuple es x1 q) (.Call (.Name "zip" p) [a,b] [] pos) (dZip t):=⟨LV d f.ok R hs m⟩
theorem Ie:J0 X (j5 .Add) aM:=⟨Hf⟩
theorem EL:HC X (.type "tuple") iS:=⟨Fs⟩
theorem BE:QU X "startswith" nu:=⟨_,PySem.F.slot_str_startswith,PySem.F.type_str_startswith,AR⟩
theorem EF:QU X "split" tV:=⟨_,PySem.F.slot_str_split,PySem.F.type_str_split,DR⟩
theorem BF:Pf X "extend" ny:=⟨_,PySem.F.slot_list_extend,PySem.F.type_list_extend,yP⟩
def dMl0(r:Nat->C5)(e:x6):x6:=λS M Q=>e S M λx M1=>match x with
 |.ref n=>(∃xs,ak M1 n xs)/\r n [] M1 Q
 |_=>False
theorem k_ml0(m:Pf X name r)(j:HE X o to)(e:m6 o name X.env (eval o X.env)=eval o X.env:=by kernel_rfl)(h:(apos.endLine==cpos.line)=b9:=by kernel_rfl):HE X (.Call (.Attribute o name apos) [] [] cpos) (dMl0 r to):=by
 obtain⟨id,h1,h2,i⟩:=m.ok;refine⟨PE.imp (JZ PySem.F.plainAttrs_list h1 h2 i j.ok e h) ?_⟩;rintro σ H R ⟨S,M,ρ,Q,s,t,q,k⟩;refine⟨S,M,ρ,_,s,t,q,?_⟩;rintro v u ⟨d,M1,b,g,g1,p,c⟩;cases p with
 |@ref n a f =>
  obtain⟨⟨xs,L⟩,c⟩:=(show (∃xs,ak M1 n xs)/\r n [] M1 _ from c)
  obtain⟨vs,l,_⟩:=ak.seq g L f;exact⟨.inl ⟨rfl,vs,l⟩,n,a,[],M1,b,Q,rfl,f,g,.nil,c,λv H' w=>k v H'<|VQ.trans g1 w⟩
 |_=>exact c.elim
theorem Ld:HE X (.Dict [] [] pos) Fl:=⟨Mi⟩
theorem Dl(i:Room k X.A):X.A.units+1<j8:=by have:=i.un;lia
theorem Le(r:Room k X.A)(m:HE X o to)(hi:HE X i ti)(hs:Gd i:=by intro _ _;kernel_rfl):HE X (.Subscript o i pos) (Ci to ti):=⟨Mj (Dl r) m.ok hi.ok hs⟩
end
theorem v8.never{P:d5}{w:c9}{K:u9}{mg:c8->Option c7}{base:d8}{k:Nat}{x:c8}{st:i5}{ps:List c8}{c:A0}(F:cz K mg x st ps)(h:∀ds M R,¬c ds M R):v8 P w K mg base k x ps c:=by obtain⟨f,d,a,m,b⟩:=F;refine⟨f,d,⟨λvs H Q E q=>?_,λA o s H O us vs Q E _ _ _ _ q=>?_⟩,m,a.kp,b⟩;obtain⟨ds,M,ρ,R,_,_,q,_⟩:=q;exact(h ds M R q).elim;obtain⟨ds,M,ρ,R,_,_,q,_⟩:=q;exact(h ds M R q).elim
def Js(t:Nat)(s:List Nat)(wi:TI)(g:TG)(tt:TT)(te:TE)(N:TG):TS:=λD σ H=>RO t s wi g tt te σ H λv a=>N v σ a D.nx
theorem Ds(B:BlkSc X N' nt js scope)(hc:X.calm=b9)(hi:PI X tg iter wi)(hg:∀cl s0 H0 ex,PG (C3 X N' scope cl s0 H0 ex) tg g) (ht:∀cl s0 H0 ex,NM (C3 X N' scope cl s0 H0 ex) ifs tt) (he:∀cl s0 H0 ex,PE (C3 X N' scope cl s0 H0 ex) elt te) (hn:PG X (.Name x pos') gN)(hs:∀x,j4 iter X.env x=pure x) (an:i7 (.ListComp elt [⟨tg,iter,ifs,0⟩] scope pos) (b7<|.Name x pos') pos2.line X.env=pure b9):PS X (.Assign [.Name x pos'] (.ListComp elt [⟨tg,iter,ifs,0⟩] scope pos) pos2) (Js nt js wi g tt te gN):=by
 intro f s σ H Dn I h;rw[exec_Assign_Name_used _ _ _ _ an];refine t6<|wpAny_standAt ?_;obtain⟨cl,U,j,D⟩:=lI (scope:=scope) (env:=X.env) λp hp hf=>I.ok.has p.1<|B.free p hp hf;refine t6<|show g7 (h7 X.prog X.w) X.A (comprehension (.ListComp elt [⟨tg,iter,ifs,0⟩] scope pos) scope X.env _ (newList []) c5 (eval iter X.env) (b7<|i8 (.Name x pos') X.env) >>= λ_=>pure ()) _ _ _ from t6 ?_;refine wpAny_comprehension_free (use:=b7<|i8 (.Name x pos') X.env) (Q:=λ_ r=>g7 (h7 X.prog X.w) X.A (pure ()) (λ_ s3=>g7 (h7 X.prog X.w) X.A (pure Flow.next) (SP X f Dn) X.xe s3) X.xe r) rfl hs U B.kind B.loc ?_;refine w6 (hi f s σ H _ I h) λv s1 h1=>w6 h1 λaD a h2=>?_;obtain⟨it,fp,tn,J,H2,e,l,T,S,M,W,⟨m0,w0⟩,L⟩:=h2;subst e;refine G3<|wpAny_newFunctionEnv B.nocell (by intro y hy;simp at hy) (λh1 E F=>?_) B.kind;have n:∀b∈fp,b<a.heap.objs.size:=λb i=>by obtain⟨o,e,_⟩:=T.obj _ _ S b i;exact A1 e
 have hC:(a.heap.push<|cX [] 0).objs.size=a.heap.objs.size+1:=MF ..;have G:∀b o,(a.heap.push<|cX [] 0).get? b=b7 o->h1.get? b=b7 o:=λb o e=>(F.2 b<|A4<|A1 e).trans<|z5 _ e;have I3:=l.blkStart (tk:=a.toks+([]:List (c8×c7)).length) B j D M n G E;have K:tn 0 h1:=T.keep _ _ _ S λb _ o e=>G b o<|z5 _ e;have ai:a.heap.objs.size∉fp:=λz=>J4 _<|n _ z;have aj:a.heap.objs.size∉K6 X.stack:=λz=>by rcases A3.mp (l.stkSub _ z)with q|q;exact p5 l.lt (by rw[<-q];exact J4 _);exact l.nofs (v6 _) q
 have u:a.heap.objs.size≠(a.heap.push<|cX [] 0).objs.size:=by rw[hC];exact A4<|MG _
 have ltc:∀z c,cl.lookup z=b7 c->c<a.heap.objs.size:=λz c e=>by obtain⟨v,q⟩:=l.cell z c<|j z c e;exact q.lt
 have t:∀b∈fp,b≠(a.heap.push<|cX [] 0).objs.size/\b∉K6 X.stack/\∀x c,cl.lookup x=b7 c->c≠b:=λb i=>by refine⟨by rw[hC];exact A4<|O2<|n b i,λz=>?_,λx c e=>(M b i).2.2.2.2.1 x c<|j x c e⟩;rcases A3.mp (l.stkSub b z)with q|q;exact(M b i).2.1 q;exact(M b i).2.2.1 q
 have as:a.heap.objs.size<=(a.heap.push<|cX [] 0).objs.size:=by rw[hC];exact Pk _
 have m:k5 (h7 X.prog X.w) X.A (.compLoop (.ListComp elt [⟨tg,iter,ifs,0⟩] scope pos) 0 (.ref it) (.ref a.heap.objs.size)<|compEnvC scope cl (a.heap.push<|cX [] 0).objs.size X.env) (compPost (h7 X.prog X.w) X.A X.xe (b7<|i8 (.Name x pos') X.env) (λ_ r=>g7 (h7 X.prog X.w) X.A (pure ()) (λ_ s3=>g7 (h7 X.prog X.w) X.A (pure Flow.next) (SP X f Dn) X.xe s3) X.xe r) (.ref a.heap.objs.size) (a.heap.push<|cX [] 0).objs.size) { a with heap:=h1,toks:=a.toks+([]:List (c8×c7)).length }:=by
  refine Bk (s0:={ a with heap:=a.heap.push (cX [] 0) }) (H0:=H2) (N':=N') (Q:=λv H1=>gN v σ H1 Dn.nx) hc (hg _ _ _ _) (ht _ _ _ _) (he _ _ _ _) T ai L t u aj (λx c e=>A4<|ltc x c e) ?_ m0 I3 K (λb i=>(M b i).1) w0;intro τ H' s' vs its k P rv hl q;obtain⟨mm,al,_⟩:=id P.loc;obtain⟨C,es,V,eC,aL⟩:=id al;have I5:t9 X f σ (x3 H' a.heap.objs.size<|.lst vs) s':=l.blkEnd M P rv hl ⟨rfl,λ_ _=>rfl⟩;have Y:x3 H' a.heap.objs.size (.lst vs) (a.heap.push<|cX [] 0).objs.size=b8:=by rw[az<|A2 u];exact P.free
  have Z:∀Hx:Hp,Hx (a.heap.push<|cX [] 0).objs.size=b8->yf X f Hx (a.heap.push<|cX [] 0).objs.size:=λHx hx=>l.fpOk as hx;have dC:∀v,C.data≠.cell v:=λv z=>by
   have:∃es V,C.data=.dict es V:=by
    first
     |(obtain⟨d,_⟩:=aL;exact⟨_,_,d⟩)
     |(obtain⟨_,d,_⟩:=aL;exact⟨_,_,d⟩)
     |(obtain⟨_,_,d,_⟩:=aL;exact⟨_,_,d⟩)
   obtain⟨_,_,d⟩:=this;rw[d]at z;cases z
  have I6:t9 X (f++[((a.heap.push<|cX [] 0).objs.size,C)]) σ (x3 H' a.heap.objs.size<|.lst vs) s':=I5.pins_of λp hp=>by
   rcases F3.mp hp with hp|hp;exact I5.pin p<|I9 _ hp;have:p=((a.heap.push<|cX [] 0).objs.size,C):=by simpa using hp
   subst this;exact⟨eC,Y,(Z _ Y).2.1,(Z _ Y).2.2.1,dC⟩
  refine w6 (hn _ s' σ _ (.ref a.heap.objs.size) (.ref a.heap.objs.size) _ I6 rfl q) ?_;rintro _ s7 ⟨N,O,R,q7⟩;obtain⟨p1,p2,_⟩:=R.pin ((a.heap.push<|cX [] 0).objs.size,C)<|I9 _<|I9 _ E3;refine⟨mm,⟨C,es,V,p1,aL⟩,λh' sb=>t8<|t8 ⟨N,O,?_,q7⟩⟩;have I8:t9 X f N O s7:=R.pins_of λp hp=>R.pin p<|I9 _<|Np _ hp;refine I8.turnedL (t':=s7.toks) (fp:=[(a.heap.push<|cX [] 0).objs.size]) (λb i=>?_) λb o i e=>(sb.2 b<|by simpa using i).trans e;have:b=(a.heap.push<|cX [] 0).objs.size:=by simpa using i
  subst this;exact Z O p2
 exact codeAny_compStart_list m<|T.self _ 0 _ _ _ K m
def iV(t:Nat)(s:List Nat)(a:MW)(g:MJ)(tt:H9)(te:x6)(i:Nat):u4:=λE S M=>E7 t s a g tt te S M λd M1=>ag i d S M1 E.nx
theorem EZ(B:BlkSc X N' nt js scope)(f:X.calm=b9)(hi:DI X tg iter di)(R:∀cl s0 H0 ex,DG (C3 X N' scope cl s0 H0 ex) tg g) (t:∀cl s0 H0 ex,NM (C3 X N' scope cl s0 H0 ex) ifs<|lowT X.K tt) (e:∀cl s0 H0 ex,DE (C3 X N' scope cl s0 H0 ex) elt te) (n:DG X (.Name x pos') (ag i))(hs:∀x,j4 iter X.env x=pure x) (h:i7 (.ListComp elt [⟨tg,iter,ifs,0⟩] scope pos) (b7<|.Name x pos') pos2.line X.env=pure b9):DS X (.Assign [.Name x pos'] (.ListComp elt [⟨tg,iter,ifs,0⟩] scope pos) pos2) (iV nt js di g tt te i):=PS.imp (Ds (g:=lowG X.K g) (tt:=lowT X.K tt) (te:=lowE X.K te) B f hi (λcl s0 H0 ex=>R cl s0 H0 ex) t (λcl s0 H0 ex=>e cl s0 H0 ex) n hs h) λE σ H ⟨S,M,ρ,F,s,b,q,k⟩ =>
  AY σ H _ ⟨S,M,ρ,_,s,b,q,λv m ⟨d,M1,c,l,g1,r,j⟩=>⟨d,S,M1,c,_,l,b.grow g1,r,j,λa H' w=>k.nx a H'<|SQ.trans g1 w⟩⟩
theorem Em(a:X.N.Nodup)(hi:HI X tg iter di)(R:∀cl s0 H0 ex,HG (C3 X N' scope cl s0 H0 ex) tg g) (t:∀cl s0 H0 ex,Pe (C3 X N' scope cl s0 H0 ex) ifs tt) (e:∀cl s0 H0 ex,HE (C3 X N' scope cl s0 H0 ex) elt te) (B:qm X.env.scope.names X.N N' nt js scope=b9:=by kernel_rfl) (f:X.calm=b9:=by kernel_rfl)(hs:∀x,j4 iter X.env x=pure x:=by intro _;kernel_rfl) (w:i7 (.ListComp elt [⟨tg,iter,ifs,0⟩] scope pos) (b7<|.Name x pos') pos2.line X.env=pure b9:=by kernel_rfl)(h:X.N[i]?=b7 x:=by kernel_rfl) (c:Jf X.env.scope x=b9:=by kernel_rfl) (b:X.fn x=b9:=by kernel_rfl):HS X (.Assign [.Name x pos'] (.ListComp elt [⟨tg,iter,ifs,0⟩] scope pos) pos2) (iV nt js di g tt te i):=⟨EZ (BlkSc.chk B) f hi.ok (λcl s0 H0 ex=>(R cl s0 H0 ex).ok) (λcl s0 H0 ex=>(t cl s0 H0 ex).ok) (λcl s0 H0 ex=>(e cl s0 H0 ex).ok) (wD a h (Ba c)<|.inl b) hs w⟩
theorem QR:atI (a::r) 0=b7 a:=by have:=aq (xs:=a::r) (j:=0) (v:=a) rfl;simpa using this
theorem On:atI (a::b::r) 1=b7 b:=by have:=aq (xs:=a::b::r) (j:=1) (v:=b) rfl;simpa using this
theorem QQ:atI (a::b::c::r) 2=b7 c:=by have:=aq (xs:=a::b::c::r) (j:=2) (v:=c) rfl;simpa using this
theorem aY.lst(h:R (.ref M.length) (M++[.lst xs]))(f:M.length<=n)(e:(M++L)[n]?=b7 (.lst xs))(b:Bels M.length xs):aY M R (.ref n) (M++L):=.inr<|.inr ⟨M,n,xs,.refl,rfl,f,e,MM _ _,b,h⟩
theorem aY.chgL(c:Qc M M1)(h:R (.ref M.length) (M1++[.lst xs]))(f:M.length<=n)(e:M'[n]?=b7 (.lst xs))(p:M1 <+: M')(b:Bels M.length xs):aY M R (.ref n) M':=.inr<|.inr ⟨M1,n,xs,c,rfl,f,e,p,b,h⟩
theorem nj:(M++a::L).set M.length b=M++b::L:=by rw[Rr _ _<|v6 _];simp
theorem ck:(M++a::L)[M.length]?=b7 a:=by simp
theorem GK:M <+: M++L:=MM _ _
theorem iw(I:List D->List D->SD->u8->Prop)(h0:∀acc S M,I [] acc S M->ok M/\Q (.ref M.length) (M++[.lst acc]))(h1:∀x xs acc S M,I (x::xs) acc S M->∀K:List D->SD->u8->Prop,(∀acc S M,I xs acc S M->K acc S M)->ok M/\g x S M λS2 M2=>tt S2 M2 λb M3=>if b=b9 then te S2 M3 λy M4=>acc.length<sizeLine/\K (acc++[y]) S2 M4 else K acc S2 M3):∀xs acc S M,I xs acc S M->oo ok g tt te Q xs acc S M
 | [],acc,S,M,h=>h0 acc S M h
 |x::xs,acc,S,M,h=>h1 x xs acc S M h _<|iw I h0 h1 xs
noncomputable def PN:D->c8
 |.str x=>x
 |_=>Str.empty
theorem Az{ys:List D}{s:List c8}(h:ys.Perm (s.map D.str)):∃ns:List c8,ys=ns.map D.str/\ns.Perm s:=by
 refine⟨ys.map PN,?_,?_⟩;rw[D7];have:∀y∈ys,(D.str ∘ PN) y=y:=λy O=>by obtain⟨x,_,rfl⟩:=z6.mp<|h.mem_iff.mp O;rfl
 exact(OB this ▸ (List.map_id' ys).symm:ys=ys.map (D.str ∘ PN));have:=h.map PN;rw[D7]at this;have e:(PN ∘ D.str)=id:=rfl
 rwa [e,Oq]at this
theorem yz{M:u8}{s:List c8}(h:s.length<64):SrtOk M (s.map D.str):=by refine⟨by rw[v4];exact h,λx a=>?_,λx a y O=>?_,.inl λx a=>?_⟩;obtain⟨z,_,rfl⟩:=z6.mp a;rfl;obtain⟨z,_,rfl⟩:=z6.mp a;obtain⟨F,_,rfl⟩:=z6.mp O;rfl;obtain⟨z,_,rfl⟩:=z6.mp a;exact⟨z,rfl⟩
theorem xB:(lZ kvs k d).length<=kvs.length+1/\1<=(lZ kvs k d).length:=by unfold lZ;by_cases q:(kvs.any λp=>decide<|p.1=k)=b9;rw[p0 q,v4];obtain⟨p,hp,_⟩:=Nx.mp q;have:0<kvs.length:=List.length_pos_of_mem hp;lia;rw[p4 q,B6,J2];lia
theorem ir:(M++a::b::L)[M.length+1]?=b7 b:=by rw[MU (by lia),show M.length+1-M.length=1 by lia];rfl
noncomputable def bj(w:c9):d7:={ cls:=.type "set",dict:=b8,data:=.set #[] 0 (.fresh 0 0<|!w.params.followText "set-order") }
theorem wG(a:c7)(h:Q₁ (.ref s.heap.objs.size) { s with heap:=s.heap.push (bj w) }):k5 (h7 prog w) A (.call (.builtin "set.__new__") ⟨[.type "set",a],[]⟩) (wants Q₁ E) s:=by
 refine codeAny_of_tree<|show g7 (h7 prog w) A.in1 (do checkBuiltinCall "set.__new__" ⟨[.type "set",a],[]⟩;again (.builtin "set.__new__" ⟨[.type "set",a],[]⟩)) _ _ s from ?_;refine t6<|Pj (F.newCall_set_1 a)<|t8 ⟨N9 F.plain_set_new _,NW F.entry_set_new ?_⟩;rw[Of F.plain_set_new _];have c:=sub_set_self;obtain⟨hp,g,d,q,o⟩:=s;unfold Builtin.«set.__new__» Builtin.Frozenset.newClass;dsimp only
 wp_walk
 refine OY<|t8 ?_;simp only[newObj];exact t6<|wpAny_alloc<|t8<|t8 h
structure TxSrc(prog:d5)(w:c9)(h:d8)(l:d6)(T:String)(n:Nat)(P:Nat->c7->Prop):Prop where
 obj:∃o,h.get? l=b7 o/\o.cls=.type T
 ns:isSubtype (.type T) (.type "set")=pure c5
 nf:isSubtype (.type T) (.type "frozenset")=pure c5
 nd:(OT T==OT "dict")=c5
 iter:∀(A:f7) (s':f8),A.handled=b8->(∀o,h.get? l=b7 o->s'.heap.get? l=b7 o)->∃(oI:d7) (St:Nat->d8->Prop),(∀(E:c7->f8->Prop) (Q:c7->f8->Prop),Q (.ref s'.heap.objs.size) { s' with heap:=s'.heap.push oI }->g7 (h7 prog w) A (j2<|.ref l) Q E s') /\Walks prog w A s'.heap.objs.size [s'.heap.objs.size,l] [s'.heap.objs.size] n P St/\St 0 (s'.heap.push oI)
theorem vI:isSubtype (.type "tuple") (.type "set")=pure c5:=by rw[isSubtype_type];kernel_rfl
theorem tF:isSubtype (.type "tuple") (.type "frozenset")=pure c5:=by rw[isSubtype_type];kernel_rfl
theorem TxSrc.list(g:h.IsList l its):TxSrc prog w h l "list" its.size (λi v=>its[i]?=b7 v):=by
 refine⟨let ⟨o,e,c,_⟩:=g;⟨o,e,c⟩,F.sub_list_set,F.sub_list_frozenset,by decide,λA s' b k=>?_⟩;have a:s'.heap.IsList l its:=g.at k;have lt:l<s'.heap.objs.size:=let ⟨o,e,_⟩:=a;A1 e
 exact⟨_,_,λE Q q=>Ri a q,Walks.list b _ l (A4 lt) its,⟨_,A7 _ rfl,rfl,rfl⟩,a.push _⟩
theorem TxSrc.tuple(g:h.IsTuple l its):TxSrc prog w h l "tuple" its.size (λi v=>its[i]?=b7 v):=by
 refine⟨let ⟨o,e,c,_⟩:=g;⟨o,e,c⟩,vI,tF,by decide,λA s' b k=>?_⟩;have a:s'.heap.IsTuple l its:=let ⟨o,e,r⟩:=g;⟨o,k o e,r⟩
 have lt:l<s'.heap.objs.size:=let ⟨o,e,_⟩:=a;A1 e
 exact⟨_,_,λE Q q=>wpAny_pyIter_tuple a q,Walks.tuple b _ l (A4 lt) its,⟨_,A7 _ rfl,rfl,rfl⟩,let ⟨o,e,r⟩:=a;⟨o,z5 _ e,r⟩⟩
theorem bm:Slot "set_iterator" "__next__" "set_iterator.__next__":=.of (owner:="set_iterator") (n:="__next__") (by rw[Qn,QG];kernel_rfl) (by decide +kernel) (by decide +kernel) (by decide +kernel) (by first|exact .inl (by decide +kernel)|exact .inr<|by decide +kernel)<|by rw[isSubtype_type];kernel_rfl
theorem fG:entryFor table "set_iterator.__next__" = b7 Builtin.«set_iterator.__next__»:=entryFor_of_tree<|by kernel_rfl
theorem nK:Manifest.owners.lookup (String.ofList ['r','o','t','a','r','e','t','i','_','t','e','s'].reverse)=b7 Manifest.sig_set_iterator:=by kernel_rfl
theorem iz(a:c7):argsOk "set_iterator.__next__" ⟨[a],[]⟩:=by unfold argsOk;rw[signature?_of (id:="set_iterator.__next__") (n:=['_','_','t','x','e','n','_','_']) (o:=['r','o','t','a','r','e','t','i','_','t','e','s']) (by kernel_rfl) nK];kernel_rfl
theorem rJ:entryFor table "set.__iter__" = b7 Builtin.«frozenset.__iter__»:=entryFor_alias (id':="frozenset.__iter__") (by kernel_rfl) rfl (by decide +kernel)<|by kernel_rfl
theorem kI{α:Type}:∀(l:List α) (i:Nat) (h:i<l.length),(l[i]::l.eraseIdx i).Perm l
 |x::l,0,_=>Pv _
 |x::l,i+1,h=>by
  have h':i<l.length:=by simpa using h
  exact(List.Perm.swap x l[i]<|l.eraseIdx i).trans<|QX x<|kI l i h'
theorem zp(f:n≠0)(h:∀i d,i<n->Q i { s with drawn:=d }):g7 M A (choose src n) Q E s:=by intro Γ p a;show Sem.wp M Γ (Sem.choose src n λi=>Sem.pure i) _ _ p s;rw[Sem.wp_choose];refine⟨f,?_⟩;rw[Sem.wp_pure];exact h _ _<|Nat.mod_lt _<|Nat.pos_of_ne_zero f
theorem uK{α:Type}{M:Model}{A:f7}{E:c7->f8->Prop}:∀(n:Nat) (xs:List α) (s:f8) (Q:List α->f8->Prop),xs.length=n->(∀ys d,ys.Perm xs->Q ys { s with drawn:=d })->g7 M A (drawOrder n xs) Q E s
 | 0,xs,s,Q,e,h=>by
  cases xs with
  |nil=>exact t8<|h [] s.drawn<|Pv _
  |cons _ _=>cases e
 |n+1,[],s,Q,e,h=>by cases e
 |n+1,x::xs,s,Q,e,h=>by unfold drawOrder;refine t6<|zp (by simp) λi d hi=>?_;rw[w9 hi];refine t6<|uK n ((x::xs).eraseIdx i) { s with drawn:=d } _ (by rw[List.length_eraseIdx_of_lt hi];simp at e ⊢;lia) λys d' hp=>t8<|h _ d' ?_;exact(QX _ hp).trans<|kI _ i hi
theorem nB{α:Type}(next:Nat->Nat)(xs:Array α):(o5 next xs).toList.Perm xs.toList:=by
 have o:∀(l k:Nat) (left:List α) (out:Array α),left.length=l->(pickOrder.go next l k left out).toList.Perm (out.toList++left):=by
  intro l;induction l with
  |zero =>
   intro k left out e;cases left with
   |nil=>simp[pickOrder.go]
   |cons _ _=>cases e
  |succ n i=>intro k left out e;have hi:next k % left.length<left.length:=Nat.mod_lt _ (by lia);unfold pickOrder.go;rw[w9 hi];dsimp only;refine(i (k+1) _ _<|by rw[List.length_eraseIdx_of_lt hi];lia).trans ?_;rw[Qv,J6];exact List.Perm.append_left _<|kI _ _ hi
 have:=o xs.size 0 xs.toList #[] (by simp);simpa [o5]using this
noncomputable def fE(first:c7)(i n:Nat)(a:d6)(ep:Nat):d7:={ cls:=.type "set_iterator",data:=.fields #[first,j3 i,.ref a,j3 n,j3 ep] }
structure SetAt(h:d8)(a:d6)(o:d7)(es:Array (Int×c7))(ep:Nat)(t:o6):Prop where
 ob:h.get? a=b7 o
 dt:o.data=.set es ep t
 ft:t.fits es.size=b9
theorem pL(c:A.handled=b8)(h:∀h' e,(∀b o,s.heap.get? b=b7 o->h'.get? b=b7 o)->(∃o,h'.get? e=b7 o/\o.cls=.type "StopIteration")->F (.ref e) { s with heap:=h' }):g7 (h7 prog w) A (do raiseNew (<-newExc (.type "StopIteration") []):Sem Fin) Q F s:=by refine t6 ?_;simp only[newExc,newTuple];refine t6 (G3 (t6 (m:=o0 _ _)<|Pj (a:=ABQ) (by first|rfl|(simp only[o0];rfl))<|G3 ?_<|by size_fits)<|by size_fits);simp only[raiseNew];refine t6<|Qh ?_;rw[c];exact t6<|t8<|wpAny_throw<|h _ _ (λb o e=>z5 _<|z5 _ e) ⟨_,A7 _ rfl,rfl⟩
theorem nQ{slot i next:Nat}{x:c7}{Q:Option c7->f8->Prop}(I:s.heap.get? it=b7 (fE (j3 slot) i es.size a ep))(S:SetAt s.heap a o es ep t)(f:∀(A:f7) (E:c7->f8->Prop) (Q:Option (c7×Nat)->f8->Prop),Q (b7 (x,next)) s->g7 (h7 prog w) A (setNext a slot i ep) Q E s)(b:∀h',h'.get? it=b7 (fE (j3 next) (i+1) es.size a ep)->I0 it s.heap h'->Q (b7 x) { s with heap:=h' }):g7 (h7 prog w) A (j0<|.ref it) Q E s:=by
 have T:s.TypeIs (.ref it) "set_iterator":=⟨_,I,rfl⟩
 unfold j0;refine t6<|Nv<|MN (name:=u3 "__next__") T bm<|F9 bm T fG ?_<|iz _;unfold Builtin.«set_iterator.__next__»;refine t6<|t8<|t6<|MR I rfl ?_;dsimp only[fE,j3];refine t6<|QC S.ob S.dt S.ft ?_;rw[p4<|by simp];refine t6<|f _ _ _ ?_;dsimp only;refine t6<|Nm I rfl (by simp)<|t6<|Nm (MB _ I rfl) rfl (by simp)<|t8 ⟨x,rfl,t8<|b _ ?_<|(L9 ..).trans<|L9 ..⟩;refine(MB _ (MB _ I rfl) rfl).trans ?_;simp[fE,OU,j3]
theorem fy{slot i:Nat}{Q:Option c7->f8->Prop}(j:A.handled=b8)(I:s.heap.get? it=b7 (fE (j3 slot) i es.size a ep))(S:SetAt s.heap a o es ep t)(n:∀(A:f7) (E:c7->f8->Prop) (Q:Option (c7×Nat)->f8->Prop),Q b8 s->g7 (h7 prog w) A (setNext a slot i ep) Q E s)(c:∀h',(∀b o,b≠it->s.heap.get? b=b7 o->h'.get? b=b7 o)->Q b8 { s with heap:=h' }):g7 (h7 prog w) A (j0<|.ref it) Q E s:=by
 have h:s.TypeIs (.ref it) "set_iterator":=⟨_,I,rfl⟩
 unfold j0;refine t6<|Nv<|MN (name:=u3 "__next__") h bm<|F9 bm h fG ?_<|iz _;unfold Builtin.«set_iterator.__next__»;refine t6<|t8<|t6<|MR I rfl ?_;dsimp only[fE,j3];refine t6<|QC S.ob S.dt S.ft ?_;rw[p4<|by simp];refine t6<|n _ _ _ ?_;dsimp only;refine t6<|Nm I rfl (by simp) ?_;refine pL (by simp[j]) ?_;rintro h' e k ⟨y,g,f⟩;refine t6<|Oc (T:="StopIteration") (b:=b9) ⟨y,g,f⟩ Pu<|t8<|c h' λb l d L=>k b l ?_;exact((L9 ..).2 b d).trans L
theorem yM{tt:d6}{ps:List Nat}{i j:Nat}{e:Int×c7}{Q:Option c7->f8->Prop}(I:s.heap.get? it=b7 (fE (.ref tt) i es.size a ep))(B:s.heap.IsTuple tt (ps.map λ(k:Nat)=>j3 k).toArray)(S:SetAt s.heap a o es ep t)(hj:ps[i]?=b7 j) (d:es[j]?=b7 e) (c:∀h',h'.get? it=b7 (fE (.ref tt) (i+1) es.size a ep)->I0 it s.heap h'->Q (b7 e.2) { s with heap:=h' }):g7 (h7 prog w) A (j0<|.ref it) Q E s:=by
 have T:s.TypeIs (.ref it) "set_iterator":=⟨_,I,rfl⟩
 obtain⟨f,b,_,n,h⟩:=B;unfold j0;refine t6<|Nv<|MN (name:=u3 "__next__") T bm<|F9 bm T fG ?_<|iz _;unfold Builtin.«set_iterator.__next__»;refine t6<|t8<|t6<|MR I rfl ?_;dsimp only[fE,j3];refine t6<|QC S.ob S.dt S.ft ?_;rw[p4<|by simp];refine t6<|MS b h ?_;have x:(ps.map λ(k:Nat)=>j3 k).toArray[i]?=b7 (.int j 0):=by simp[hj,j3]
 simp only[J7,x];unfold setNextDrawn;refine t6<|t6<|Ny S.ob S.dt S.ft ?_;simp only[bne_self_eq_false,B5,r9,d];refine t8<|t6<|Nm I rfl (by simp)<|t8 ⟨_,rfl,t8<|c _ ?_<|L9 ..⟩;refine(MB _ I rfl).trans ?_;simp[fE,OU,j3]
theorem oK{tt:d6}{ps:List Nat}{i:Nat}{Q:Option c7->f8->Prop}(m:A.handled=b8)(I:s.heap.get? it=b7 (fE (.ref tt) i es.size a ep))(B:s.heap.IsTuple tt (ps.map λ(k:Nat)=>j3 k).toArray)(S:SetAt s.heap a o es ep t)(hj:ps[i]?=b8) (f:∀h',(∀b o,b≠it->s.heap.get? b=b7 o->h'.get? b=b7 o)->Q b8 { s with heap:=h' }):g7 (h7 prog w) A (j0<|.ref it) Q E s:=by
 have d:s.TypeIs (.ref it) "set_iterator":=⟨_,I,rfl⟩
 obtain⟨r,c,_,q,h⟩:=B;unfold j0;refine t6<|Nv<|MN (name:=u3 "__next__") d bm<|F9 bm d fG ?_<|iz _;unfold Builtin.«set_iterator.__next__»;refine t6<|t8<|t6<|MR I rfl ?_;dsimp only[fE,j3];refine t6<|QC S.ob S.dt S.ft ?_;rw[p4<|by simp];refine t6<|MS c h ?_;have x:(ps.map λ(k:Nat)=>j3 k).toArray[i]?=b8:=by simpa using hj
 simp only[J7,x];refine t6<|Nm I rfl (by simp)<|t6<|Nm (MB _ I rfl) rfl (by simp) ?_;refine pL (by simp[m]) ?_;rintro h' e n ⟨y,l,j⟩;refine t6<|Oc (T:="StopIteration") (b:=b9) ⟨y,l,j⟩ Pu<|t8<|f h' λb p g L=>n b p ?_;exact(((L9 ..).trans<|L9 ..).2 b g).trans L
end L2
namespace L2
theorem nodup_le{α:Type}[DecidableEq α]:∀(l xs:List α),l.Nodup->(∀x∈l,x∈xs)->l.length<=xs.length
 | [],xs,_,_=>A9 _
 |a::l,xs,nd,h=>by have ha:a∈xs:=h a E3;have nd':=J5.mp nd;have ih:=nodup_le l (xs.erase a) nd'.2 λx hx=>(List.mem_erase_of_ne<|show x≠a from λz=>nd'.1<|by rw[<-z];exact hx).mpr<|h x<|C7 _ hx;rw[List.length_erase_of_mem ha]at ih;have:0<xs.length:=List.length_pos_of_mem ha;rw[D4];lia
end L2
namespace Ht
open PySem
noncomputable def P3(m:Nat)(p:Ov):Ov:=if p.more > 0 then { p with j:=p.j+1,more:=p.more-1 } else
 { p with j:=(N8 m p.i p.perturb).1,more:=K8 m (N8 m p.i p.perturb).1-(N8 m p.i p.perturb).1,i:=(N8 m p.i p.perturb).1,perturb:=(N8 m p.i p.perturb).2 }
noncomputable def ki(m i t:Nat):Ov:={ j:=i,more:=K8 m i-i,i,perturb:=t,dummy:=b8 }
noncomputable def ng(m:Nat)(p:Ov):Nat->Ov
 | 0=>p
 |n+1=>P3 m<|ng m p n
noncomputable def sq(m:Nat)(h:Int)(n:Nat):Ov:=ng m (ki m (NG h % (m+1))<|NG h) n
theorem tG(m:Nat)(p:Ov)(a b:Nat):ng m p (a+b)=ng m (ng m p a) b:=by
 induction b with
 |zero=>rfl
 |succ b i=>rw[Nat.add_succ,ng,i];rfl
theorem JA(m i:Nat):K8 m i-i<=9:=by unfold K8;split<;>lia
theorem BC(m i pt:Nat):∀k,k<=K8 m i-i->ng m (ki m i pt) k={ j:=i+k,more:=K8 m i-i-k,i,perturb:=pt,dummy:=b8 }
 | 0,_=>by simp[ng,ki]
 |k+1,h=>by rw[ng,BC m i pt k<|by lia];unfold P3;rw[p0<|show K8 m i-i-k > 0 by lia];simp only[SetTable.Probe.mk.injEq,true_and,and_true];lia
theorem DP(m i t:Nat):ng m (ki m i t) (K8 m i-i+1)=ki m (N8 m i t).1 (N8 m i t).2:=by rw[ng,BC m i t _<|v6 _];unfold P3;rw[p4<|show ¬K8 m i-i-(K8 m i-i) > 0 by lia];rfl
noncomputable def fh(m:Nat)(h:Int):Nat->Nat×Nat
 | 0=>(NG h % (m+1),NG h)
 |k+1=>N8 m (fh m h k).1 (fh m h k).2
noncomputable def fI(m:Nat)(h:Int):Nat->Nat
 | 0=>0
 |k+1=>fI m h k+(K8 m (fh m h k).1-(fh m h k).1+1)
theorem Fy(m:Nat)(h:Int)(k:Nat):fI m h k<=10*k:=by
 induction k with
 |zero=>exact v6 _
 |succ k i=>have:=JA m (fh m h k).1;unfold fI;lia
theorem FH(m:Nat)(h:Int)(k:Nat):sq m h (fI m h k)=ki m (fh m h k).1 (fh m h k).2:=by
 induction k with
 |zero=>rfl
 |succ k i=>unfold sq at i ⊢;unfold fI;rw[tG,i,DP];rfl
theorem Am(m:Nat)(h:Int)(k r:Nat)(i:r<=K8 m (fh m h k).1-(fh m h k).1):(sq m h<|fI m h k+r).j=(fh m h k).1+r:=by have e:=FH m h k;unfold sq at e ⊢;rw[tG,e,BC _ _ _ _ i]
theorem IT(h:Int):NG h<2 ^ 64:=by unfold NG;have a:=Int.emod_nonneg h (show (2 ^ 64:Int)≠0 by decide);have h1:=Int.emod_lt_of_pos h (show (0:Int)<2 ^ 64 by decide);lia
theorem pR(m:Nat)(h:Int):∀k,(fh m h k).2=NG h / 32 ^ k
 | 0=>by simp[fh]
 |k+1=>by show (fh m h k).2 / 32=_;rw[pR m h k,Nat.div_div_eq_div_mul,<-Nat.pow_succ]
theorem tZ(m:Nat)(h:Int)(k:Nat)(a:13<=k):(fh m h k).2=0:=by
 rw[pR];apply Nat.div_eq_of_lt;have h1:=IT h;have h2:32 ^ 13<=32 ^ k:=Nat.pow_le_pow_right (by decide) a;have b:(2:Nat) ^ 64<32 ^ 13:=by decide
 lia
noncomputable def wN(m i:Nat):Nat:=(i*5+1) % (m+1)
noncomputable def cc(m i:Nat):Nat->Nat
 | 0=>i
 |k+1=>wN m<|cc m i k
theorem fe(m i a b:Nat):cc m i (a+b)=cc m (cc m i a) b:=by
 induction b with
 |zero=>rfl
 |succ b h=>rw[Nat.add_succ,cc,h];rfl
theorem vL(m:Nat)(h:Int)(r:Nat):(fh m h<|13+r).1=cc m (fh m h 13).1 r:=by
 induction r with
 |zero=>rfl
 |succ r i=>show (N8 m (fh m h<|13+r).1 (fh m h<|13+r).2).1=wN m (cc m (fh m h 13).1 r);rw[tZ m h _ (by lia),i];rfl
theorem vM(m:Nat)(h:Int):∀k,(fh m h k).1<=m
 | 0=>Nat.lt_succ_iff.mp<|Nat.mod_lt _<|Nat.succ_pos _
 |k+1=>Nat.lt_succ_iff.mp<|Nat.mod_lt _<|Nat.succ_pos _
def Ji(m:Nat):Prop:=cc m 0 (m+1)=0/\∀s,s<=m->∃k,k<=m/\cc m 0 k=s
noncomputable def vT(m:Nat):Nat->Nat->List Nat
 | 0,_=>[]
 |n+1,i=>i::vT m n (wN m i)
theorem nL(m:Nat):∀(n i k:Nat),k<n->(vT m n i)[k]?=b7 (cc m i k)
 | 0,_,_,h=>p5 h<|NH _
 |n+1,i,0,_=>rfl
 |n+1,i,k+1,h=>by rw[vT,QI,nL m n (wN m i) k (by lia),<-show cc m (cc m i 1) k=cc m i (k+1)from by rw[<-fe,Nat.add_comm]];rfl
theorem wx(m:Nat)(h:((vT m (m+2) 0)[m+1]?==b7 0&&(C2<|m+1).all λs=>(vT m (m+1) 0).contains s)=b9):Ji m:=by
 rw[D9,p8,F0]at h;refine⟨?_,λs hs=>?_⟩;have:=nL m (m+2) 0 (m+1) (by lia);rw[h.1]at this;exact(C0 this).symm;have:=h.2 s (G1.mpr<|by lia);rw[List.contains_iff_mem]at this;obtain⟨k,a⟩:=M9 this;have g:k<m+1:=by
  have:=(z9.mp a).1;have B:∀n i,(vT m n i).length=n:=by
   intro n;induction n with
   |zero=>intro i;rfl
   |succ n b=>intro i;simp[vT,b]
  rw[B]at this;exact this
 rw[nL m _ 0 k g]at a;exact⟨k,by lia,C0 a⟩
theorem full7:Ji 7:=wx 7<|by decide +kernel
theorem LC:Ji 31:=wx 31<|by decide +kernel
theorem Ik:Ji 127:=wx 127<|by decide +kernel
theorem BM(F:Ji m)(hi:i<=m)(hs:s<=m):∃k,k<=m/\cc m i k=s:=by obtain⟨a,f,c⟩:=F.2 i hi;obtain⟨b,d,L⟩:=F.2 s hs;by_cases h:a<=b;refine⟨b-a,by lia,?_⟩;rw[<-c,<-fe,show a+(b-a)=b by lia];exact L;refine⟨m+1-a+b,by lia,?_⟩;rw[<-c,<-fe,show a+(m+1-a+b)=(m+1)+b by lia,fe,F.1];exact L
def oV(m:Nat):Prop:=m=7\/m=31\/m=127
theorem oV.full(h:oV m):Ji m:=by rcases h with rfl|rfl|rfl;exact full7;exact LC;exact Ik
theorem Gc(d:oV m)(h:Int)(hs:s<=m):∃k,k<=m+13/\(fh m h k).1=s:=by obtain⟨r,i,e⟩:=BM d.full (vM m h 13) hs;exact⟨13+r,by lia,by rw[vL];exact e⟩
theorem Gz(d:oV m)(h:Int)(hs:s<=m):∃n,n<10*(m+15)/\(sq m h n).j=s:=by obtain⟨k,a,e⟩:=Gc d h hs;refine⟨fI m h k,by have:=Fy m h k;lia,?_⟩;rw[FH];exact e
theorem Jw(h:Int):∀n,∃k r,r<=K8 m (fh m h k).1-(fh m h k).1/\n=fI m h k+r
 | 0=>⟨0,0,A9 _,rfl⟩
 |n+1=>by obtain⟨k,r,hr,e⟩:=Jw (m:=m) h n;by_cases q:r<K8 m (fh m h k).1-(fh m h k).1;exact⟨k,r+1,q,by lia⟩;exact⟨k+1,0,A9 _,by rw[fI];lia⟩
theorem Al(h:Int)(n:Nat):(sq m h n).j<=m:=by obtain⟨k,r,i,e⟩:=Jw (m:=m) h n;rw[e,Am m h k r i];have:=vM m h k;unfold K8 at i;split at i<;>lia
theorem below_spec(xs:Array Nat)(v:xs.toList.Pairwise (· < ·))(j:Nat):E9 xs j<=xs.size/\(∀k (h:k<xs.size),k<E9 xs j->xs[k]<j)/\∀k (h:k<xs.size),E9 xs j<=k->j<=xs[k]:=by
 have m:∀a b (g:a<xs.size) (i:b<xs.size),a<b->xs[a]<xs[b]:=λa b g i h=>by have:=PK.mp v a b (by simpa using g) (by simpa using i) h;simpa using this
 have r:∀(l o hi:Nat),o<=hi->hi<=xs.size->hi-o<=l->(∀k (h:k<xs.size),k<o->xs[k]<j)->(∀k (h:k<xs.size),hi<=k->j<=xs[k]) -> O0 xs j l o hi<=xs.size/\(∀k (h:k<xs.size),k<O0 xs j l o hi->xs[k]<j)/\∀k (h:k<xs.size),O0 xs j l o hi<=k->j<=xs[k]:=by
  intro l;induction l with
  |zero =>
   intro o hi h1 h2 s d c;have:o=hi:=by lia
   subst this;exact⟨h2,d,c⟩
  |succ l n =>
   intro o hi h1 h2 s d c;unfold O0;by_cases h:o<hi;rw[p0 h];have f:(o+hi) / 2<xs.size:=by lia
   have p:xs.getD ((o+hi) / 2) j=xs[(o+hi) / 2]:=by simp[Nk,f]
   simp only[p];by_cases q:xs[(o+hi) / 2]<j;rw[p0 q];refine n _ _ (by lia) h2 (by lia) (λk e u=>?_) c;rcases ME k ((o+hi) / 2)with z|z;exact Nat.lt_trans (m k _ e f z) q;have:k=(o+hi) / 2:=by lia
   subst this;exact q;rw[p4 q];refine n _ _ (by lia) (by lia) (by lia) d λk e t=>?_;rcases ME ((o+hi) / 2) k with z|z;exact J1 (NO.mp q)<|NU<|m _ k f e z;have:k=(o+hi) / 2:=by lia
   subst this;exact NO.mp q;rw[p4 h];have:o=hi:=by lia
   subst this;exact⟨h2,d,c⟩
 exact r xs.size 0 xs.size (A9 _) (v6 _) (by lia) (λk _ h=>p5 h<|NH _) λk h h'=>p5 h<|NO.mpr h'
theorem below_at(r:xs.toList.Pairwise (· < ·))(h:xs[i]?=b7 j):E9 xs j=i:=by
 obtain⟨hi,e⟩:=NA.mp h;obtain⟨g,c,u⟩:=below_spec xs r j;have m:∀a b (f:a<xs.size) (d:b<xs.size),a<b->xs[a]<xs[b]:=λa b f d h=>by have:=PK.mp r a b (by simpa using f) (by simpa using d) h;simpa using this
 rcases O1 (E9 xs j) i with q|q|q;have d:E9 xs j<xs.size:=by lia
 have:=u _ d<|v6 _;have:=m _ i d hi q;lia;exact q;have:=c i hi q;lia
theorem slot_live{t:o6}(r:t.place.toList.Pairwise (· < ·)){i j:Nat}(h:t.place[i]?=b7 j):t.slot j=.live i:=by unfold SetTable.slot;simp only[below_at r h];rw[p0<|by rw[h];simp]
theorem yD{t:o6}(d:t.dummies = #[]){j:Nat}(h:j∉t.place.toList):t.slot j=.empty:=by
 unfold SetTable.slot;have e:¬(t.place[E9 t.place j]?==b7 j)=b9:=λz=>h (by rw[p8]at z;have:=Array.mem_of_getElem? z;simpa using this);have l:SetTable.has t.dummies j=c5:=by rw[d];rfl
 simp only[e,r9,l,B5]
theorem go_spec{t:o6}(r:t.place.toList.Pairwise (· < ·))(x:t.dummies = #[])(hashAt:Nat->Int)(h:Int):∀(fuel n N:Nat),n<=N->N<n+fuel->(sq t.mask h N).j∉t.place.toList->(∀k,n<=k->k<N->(sq t.mask h k).j∈t.place.toList) ->(∀k,(sq t.mask h k).dummy=b8) ->((∀k i,n<=k->k<N->t.place[i]?=b7 (sq t.mask h k).j->hashAt i≠h)/\RY t hashAt h fuel (sq t.mask h n)=b7 (.empty (sq t.mask h N).j b8)) \/∃n' i,n<=n'/\n' < N/\t.place[i]?=b7 (sq t.mask h n').j/\hashAt i=h/\(∀k i,n<=k->k<n'->t.place[i]?=b7 (sq t.mask h k).j->hashAt i≠h)/\RY t hashAt h fuel (sq t.mask h n)=b7 (.candidate (sq t.mask h n').j i<|sq t.mask h<|n'+1):=by
 intro fuel;induction fuel with
 |zero=>intro n N h1 h2;lia
 |succ fuel A =>
  intro n N h1 h2 g l m;unfold RY;by_cases e:n=N;subst e;rw[yD x g];exact .inl ⟨λk i a b=>by lia,by rw[m]⟩;have y:=l n (v6 _) (by lia);obtain⟨i,hi⟩:=M9 y;have d:t.place[i]?=b7 (sq t.mask h n).j:=by rw[<-G4];exact hi
  rw[slot_live r d];dsimp only;have u:∀i',t.place[i']?=b7 (sq t.mask h n).j->i'=i:=λi' z=>by rw[<-below_at r z,below_at r d]
  by_cases q:hashAt i=h;simp only[p8,q,s9];exact .inr ⟨n,i,v6 _,by lia,d,q,λk i a b=>by lia,rfl⟩;simp only[p8,q,r9];rcases A (n+1) N (by lia) (by lia) g (λk a b=>l k (by lia) b) m with⟨B,C⟩|⟨n',i',D,o,p,s,v,w⟩
  refine .inl ⟨λk i' a b c=>?_,C⟩;rcases ME n k with z|z;exact B k i' z b c;have:k=n:=by lia
  subst this;rw[u i' c];exact q;refine .inr ⟨n',i',by lia,o,p,s,λk f a b c=>?_,w⟩;rcases ME n k with z|z;exact v k f z b c;have:k=n:=by lia
  subst this;rw[u f c];exact q
theorem sq_dummy(m:Nat)(h:Int):∀n,(sq m h n).dummy=b8
 | 0=>rfl
 |n+1=>by show (P3 m<|sq m h n).dummy=b8;unfold P3;split;exact sq_dummy m h n;exact sq_dummy m h n
structure TOk(t:o6)(hs:List Int):Prop where
 msk:oV t.mask
 len:t.place.size=hs.length
 nod:t.dummies = #[]
 ris:t.place.toList.Pairwise (· < ·)
 rng:∀j∈t.place.toList,j<=t.mask
 few:t.place.size*5<t.mask*3
 path:∀(i:Nat) (h:Int) (j:Nat),hs[i]?=b7 h->t.place[i]?=b7 j->∃n,(sq t.mask h n).j=j/\∀n',n' < n->(sq t.mask h n').j∈t.place.toList
theorem BJ{m:Nat}{l:List Nat}(n:l.Nodup)(i:∀j∈l,j<=m)(g:l.length<=m):∃j,j<=m/\j∉l:=by refine Og λf=>?_;have a:∀j∈C2 (m+1),j∈l:=λj L=>Og λh=>f ⟨j,by have:=G1.mp L;lia,h⟩;have:=L2.nodup_le (C2<|m+1) l Rc a;rw[Od]at this;lia
theorem wy{m:Nat}(f:oV m){l:List Nat}(i:l.Nodup)(r:∀j∈l,j<=m)(g:l.length<=m)(h:Int):∃N,N<10*(m+15)/\(sq m h N).j∉l/\∀k,k<N->(sq m h k).j∈l:=by
 obtain⟨s,hs,u⟩:=BJ i r g;obtain⟨n,I,t⟩:=Gz f h hs;have:∀b n,n<b->(sq m h n).j∉l->∃N,N<=n/\(sq m h N).j∉l/\∀k,k<N->(sq m h k).j∈l:=by
  intro b;induction b with
  |zero=>intro n h;lia
  |succ b p=>intro n v o;by_cases q:∀k,k<n->(sq m h k).j∈l;exact⟨n,v6 _,o,q⟩;have:∃k,k<n/\(sq m h k).j∉l:=Og λz=>q λk e=>Og λF=>z ⟨k,e,F⟩;obtain⟨k,e,d⟩:=this;obtain⟨N,C,a,c⟩:=p k (by lia) d;exact⟨N,by lia,a,c⟩
 obtain⟨N,C,a,c⟩:=this (n+1) n (MG _) (by rw[t];exact u);exact⟨N,by lia,a,c⟩
theorem TOk.empty{t:o6}{hs:List Int}(T:TOk t hs)(h:Int):∃N,N<10*(t.mask+15)/\(sq t.mask h N).j∉t.place.toList/\∀k,k<N->(sq t.mask h k).j∈t.place.toList:=by refine wy T.msk (T.ris.imp λh=>A4 h) T.rng ?_ h;have:=T.few;rw[E1];rcases T.msk with e|e|e<;>lia
theorem Aw{t:o6}(r:t.place.toList.Pairwise (· < ·)){j:Nat}(hj:j∉t.place.toList):(t.put j).1.place.toList=t.place.toList.take (E9 t.place j)++j::t.place.toList.drop (E9 t.place j)/\(t.put j).1.place.toList.Pairwise (· < ·):=by
 obtain⟨o,m,u⟩:=below_spec t.place r j;have e:(t.put j).1.place.toList=t.place.toList.take (E9 t.place j)++j::t.place.toList.drop (E9 t.place j):=by show (Rh t.place (E9 t.place j) j).toList=_;rw[SetTable.toList_insertAt]
 refine⟨e,?_⟩;rw[e,List.pairwise_append];refine⟨r.sublist<|Qw ..,List.pairwise_cons.mpr ⟨λx c=>?_,r.sublist<|List.drop_sublist ..⟩,λx c y O=>?_⟩;obtain⟨k,h⟩:=M9 c;rw[OA]at h;have d:t.place[E9 t.place j+k]?=b7 x:=by rw[<-G4];exact h
 obtain⟨g,f⟩:=NA.mp d;have:=u _ g<|Qp _ _;rw[f]at this;rcases ME j x with z|z;exact z;have:x=j:=by lia
 subst this;exact p5 (R5 c) hj;obtain⟨k,h⟩:=M9 c;rw[Rm]at h;split at h;rename_i l;have d:t.place[k]?=b7 x:=by rw[<-G4];exact h
 obtain⟨g,f⟩:=NA.mp d;have h1:=m k g l;rw[f]at h1;rcases A3.mp O with rfl|O;exact h1;obtain⟨C,a⟩:=M9 O;rw[OA]at a;have b:t.place[E9 t.place j+C]?=b7 y:=by rw[<-G4];exact a
 obtain⟨i,n⟩:=NA.mp b;have:=u _ i<|Qp _ _;rw[n]at this;lia;cases h
end Ht
namespace L2
open PySem PySem.Spec PyProof.Rows DL PySem.W
theorem gx:Slot "set_iterator" "__iter__" "set_iterator.__iter__":=.of (owner:="set_iterator") (n:="__iter__") (by rw[Qn,QG];kernel_rfl) (by decide +kernel) (by decide +kernel) (by decide +kernel) (by first|exact .inl (by decide +kernel)|exact .inr<|by decide +kernel)<|by rw[isSubtype_type];kernel_rfl
theorem lU:entryFor table "set_iterator.__iter__" = b7 Builtin.«dict_keyiterator.__iter__»:=entryFor_alias (id':="dict_keyiterator.__iter__") (by kernel_rfl) rfl (by decide +kernel)<|by kernel_rfl
theorem ox(a:c7):argsOk "set_iterator.__iter__" ⟨[a],[]⟩:=by unfold argsOk;rw[signature?_of (id:="set_iterator.__iter__") (n:=['_','_','r','e','t','i','_','_']) (o:=['r','o','t','a','r','e','t','i','_','t','e','s']) (by kernel_rfl) nK];kernel_rfl
theorem ie(I:s.heap.get? it=b7 (fE first i n a ep))(h:Q (.ref it) s):g7 (h7 prog w) A (j2<|.ref it) Q E s:=by
 have o:s.TypeIs (.ref it) "set_iterator":=⟨_,I,rfl⟩
 refine Qu o gx<|F9 gx o lU (show g7 _ _ (ret<|.ref it) _ _ s from ?_)<|ox _;exact t8 ⟨_,rfl,"set_iterator",_,o,bm.lookup,h⟩
theorem SetAt.at(S:SetAt h a o es ep t)(k:∀o,h.get? a=b7 o->h'.get? a=b7 o):SetAt h' a o es ep t:=⟨k _ S.ob,S.dt,S.ft⟩
theorem kZ(d:w.params.followText "set-order" = b9)(S:SetAt s.heap a o es ep t)(h:Q (((o5 (w.params.setOrder a ep) es)[i]?).map λe=>(e.2,0)) s):g7 (h7 prog w) A (setNext a 0 i ep) Q E s:=by unfold setNext;refine t6<|Ny S.ob S.dt S.ft ?_;unfold setsByText;refine t6<|t6<|OY<|t8 ?_;simp only[h7,d,s9,bne_self_eq_false,B5,r9];unfold setWalk;refine t6<|t6<|Ny S.ob S.dt S.ft ?_;unfold setsByText;refine t6<|t6<|OY<|t8 ?_;simp only[h7,d,s9];exact t6<|OY<|t8<|t8 h
theorem yo(d:w.params.followText "set-order" = b9)(m:A.handled=b8)(f:a≠it):Walks prog w A it [it,a] [it] es.size (λi v=>((o5 (w.params.setOrder a ep) es).toList.map (·.2))[i]?=b7 v) (λi h=>h.get? it=b7 (fE (j3 0) i es.size a ep)/\SetAt h a o es ep t) where
 sub:=λb d=>by simp at d;simp[d]
 frame:=λ_ _ _ st l=>⟨l it (by simp) _ st.1,st.2.at λo e=>l a (by simp) o e⟩
 item:=λi s Q E hi st c=>by
  have g:(o5 (w.params.setOrder a ep) es).size=es.size:=by have:=(nB (w.params.setOrder a ep) es).length_eq;simpa using this
  obtain⟨e,j⟩:∃e,(o5 (w.params.setOrder a ep) es)[i]?=b7 e:=⟨_,G5<|by rw[g];exact hi⟩
  refine nQ (slot:=0) (next:=0) (x:=e.2) st.1 st.2 (λA E Q q=>kZ d st.2<|by rw[j];exact q) λh' h1 T=>c _ h' s.toks (by simp[j]) ⟨h1,st.2.at λo e=>(T.2 a f).trans e⟩ λb o d e=>(T.2 b<|by simpa using d).trans e
 done:=λs Q E st c=>by
  have g:(o5 (w.params.setOrder a ep) es).size=es.size:=by have:=(nB (w.params.setOrder a ep) es).length_eq;simpa using this
  refine fy (slot:=0) m st.1 st.2 (λA E Q q=>kZ d st.2 ?_) λh' k=>c h' s.toks λb o d e=>k b o (by simpa using d) e;rw[O6<|by rw[g];exact v6 _];exact q
 self:=λ_ _ _ _ st c=>ie st.1 c
theorem vC{tt:d6}{ps:List Nat}(hp:ps.Perm (C2 es.size))(x:A.handled=b8)(m:a≠it)(n:tt≠it):Walks prog w A it [it,a,tt] [it] es.size (λi v=>(ps.filterMap λj=>(es[j]?).map (·.2))[i]?=b7 v) (λi h=>h.get? it=b7 (fE (.ref tt) i es.size a ep)/\SetAt h a o es ep t/\h.IsTuple tt (ps.map λ(k:Nat)=>j3 k).toArray) where
 sub:=λb f=>by simp at f;simp[f]
 frame:=λ_ _ _ st g=>⟨g it (by simp) _ st.1,st.2.1.at λo e=>g a (by simp) o e,let ⟨o,e,r⟩:=st.2.2;⟨o,g tt (by simp) _ e,r⟩⟩
 item:=λi s Q E hi st d=>by
  have q:ps.length=es.size:=by have:=hp.length_eq;simpa using this
  have l:∀j∈ps,j<es.size:=λj L=>by have:=hp.mem_iff.mp L;simpa using this
  have L:ps[i]?=b7 ps[i]:=w9 (by lia);have c:ps[i]<es.size:=l _<|Nn _;have p:es[ps[i]]?=b7 es[ps[i]]:=G5 c;have u:(ps.filterMap λj=>(es[j]?).map (·.2))=ps.map λj=>(es.getD j default).2:=by
   clear L q hp hi st d p c;induction ps with
   |nil=>rfl
   |cons j r y=>have L:=l j E3;rw[OC,G5 L,B9,<-y λk g=>l k<|C7 _ g];simp[Nk,L]
  refine yM st.1 st.2.2 st.2.1 L p λh' h1 T=>d _ h' s.toks ?_ ⟨h1,st.2.1.at λo e=>(T.2 a m).trans e,let ⟨o,e,r⟩:=st.2.2;⟨o,(T.2 tt n).trans e,r⟩⟩ λb o f e=>(T.2 b<|by simpa using f).trans e;rw[u,C6,L];simp[Nk,c]
 done:=λs Q E st d=>by
  have q:ps.length=es.size:=by have:=hp.length_eq;simpa using this
  exact oK x st.1 st.2.2 st.2.1 (NI<|by lia) λh' k=>d h' s.toks λb o f e=>k b o (by simpa using f) e
 self:=λ_ _ _ _ st d=>ie st.1 d
theorem lg(b:w.params.followText "set-order" = c5)(d:t.led=b9)(c:es.size<=1)(S:SetAt s.heap a o es ep t)(h:Q (match es[E9 t.place slot]?,t.place[E9 t.place slot]? with|some (_,x),b7 j=>b7 (x,j+1)|_,_=>b8) s):g7 (h7 prog w) A (setNext a slot i ep) Q E s:=by unfold setNext;refine t6<|Ny S.ob S.dt S.ft ?_;unfold setsByText;refine t6<|t6<|OY<|t8 ?_;simp only[h7,b,B5,r9];refine NV (λz=>?_) λ_=>?_;have F:(!t.plain&&decide (es.size > 1))=b9:=z;simp at F;lia;refine t6<|show g7 (h7 prog w) A (if (!t.led && !es.isEmpty)=b9 then unsupported _ else pure ()) _ _ s from ?_;rw[d];simp only[Ng,Q1,B5,r9];exact t8<|t8 h
theorem uZ(j k:Nat):E9 #[j] k=if j<k then 1 else 0:=by unfold E9;simp only[A6,D4,C9];unfold O0;simp only[Nat.zero_lt_succ,s9];by_cases h:j<k;simp[h,O0];simp[h,O0]
theorem yp(d:w.params.followText "set-order" = c5)(c:t.led=b9)(g:es.size<=1)(r:A.handled=b8)(l:a≠it):Walks prog w A it [it,a] [it] es.size (λi v=>(es.toList.map (·.2))[i]?=b7 v) (λi h=>h.get? it=b7 (fE (j3 (if i=0 then 0 else t.place.getD 0 0+1:Nat)) i es.size a ep)/\SetAt h a o es ep t) where
 sub:=λb d=>by simp at d;simp[d]
 frame:=λ_ _ _ st n=>⟨n it (by simp) _ st.1,st.2.at λo e=>n a (by simp) o e⟩
 item:=λi s Q E hi st f=>by
  obtain rfl:i=0:=by lia
  have ps:t.place.size=1:=by have:=st.2.ft;simp[Pp]at this;lia
  obtain⟨j,L⟩:∃j,t.place = #[j]:=⟨t.place[0],by apply Array.ext (by simpa using ps);intro i h1 h2;simp at h2;subst h2;rfl⟩
  have m:es[0]?=b7 es[0]:=G5 hi;refine nQ (slot:=0) (next:=j+1) (x:=es[0].2) st.1 st.2 (λA E Q q=>lg d c g st.2 ?_) λh' h1 T=>f _ h' s.toks ?_ ⟨?_,st.2.at λo e=>(T.2 a l).trans e⟩ λb o d e=>(T.2 b<|by simpa using d).trans e;rw[L,uZ,p4<|NH _,m];exact q;rw[C6,G4,m];rfl;simpa [L]using h1
 done:=λs Q E st f=>by
  refine fy (slot:=if es.size=0 then 0 else t.place.getD 0 0+1) r st.1 st.2 (λA E Q q=>lg d c g st.2 ?_) λh' k=>f h' s.toks λb o d e=>k b o (by simpa using d) e;have ps:t.place.size=es.size:=by have:=st.2.ft;simp[Pp]at this;lia
  by_cases z:es.size=0;have:es = #[]:=Array.eq_empty_of_size_eq_zero z;subst this;simpa using q;obtain⟨j,L⟩:∃j,t.place = #[j]:=⟨t.place[0],by apply Array.ext (by simp;lia);intro i h1 h2;simp at h2;subst h2;rfl⟩
  have p:E9 t.place (if es.size=0 then 0 else t.place.getD 0 0+1)=1:=by rw[p4 z,L,uZ];simp
  rw[p,O6<|by lia];exact q
 self:=λ_ _ _ _ st f=>ie st.1 f
theorem lh(c:w.params.followText "set-order" = c5)(d:t.led=b9)(b:(!t.plain&&decide (es.size > 1))=c5)(S:SetAt s.heap a o es ep t)(h:Q (match es[E9 t.place slot]?,t.place[E9 t.place slot]? with|some (_,x),b7 j=>b7 (x,j+1)|_,_=>b8) s):g7 (h7 prog w) A (setNext a slot i ep) Q E s:=by unfold setNext;refine t6<|Ny S.ob S.dt S.ft ?_;unfold setsByText;refine t6<|t6<|OY<|t8 ?_;simp only[h7,c,B5,r9];refine NV (λz=>?_) λ_=>?_;have F:(!t.plain&&decide (es.size > 1))=b9:=z;rw[b]at F;cases F;refine t6<|show g7 (h7 prog w) A (if (!t.led && !es.isEmpty)=b9 then unsupported _ else pure ()) _ _ s from ?_;rw[d];simp only[Ng,Q1,B5,r9];exact t8<|t8 h
theorem yq(d:w.params.followText "set-order" = c5)(c:t.led=b9)(j:(!t.plain&&decide (es.size > 1))=c5)(F:t.place.toList.Pairwise (· < ·))(H:A.handled=b8)(r:a≠it):Walks prog w A it [it,a] [it] es.size (λi v=>(es.toList.map (·.2))[i]?=b7 v) (λi h=>h.get? it=b7 (fE (j3 (if i=0 then 0 else t.place.getD (i-1) 0+1:Nat)) i es.size a ep)/\SetAt h a o es ep t):=by
 have l:∀i,i<=t.place.size->E9 t.place (if i=0 then 0 else t.place.getD (i-1) 0+1)=i:=λi hi=>by
  obtain⟨n,f,u⟩:=Ht.below_spec t.place F<|if i=0 then 0 else t.place.getD (i-1) 0+1;have m:∀a b (B:a<t.place.size) (d:b<t.place.size),a<b->t.place[a]<t.place[b]:=λa b B d h=>by have:=PK.mp F a b (by simpa using B) (by simpa using d) h;simpa using this
  by_cases z:i=0;rw[p0 z]at n f u ⊢;rcases Nat.eq_zero_or_pos (E9 t.place 0)with q|q;rw[q,z];have:=f 0 (by lia) q;lia;rw[p4 z]at n f u ⊢;have p:i-1<t.place.size:=by lia
  have G:t.place.getD (i-1) 0=t.place[i-1]:=by simp[Nk,p]
  rw[G]at n f u ⊢;rcases O1 (E9 t.place<|t.place[i-1]+1) i with q|q|q;have:=u (i-1) p (by lia);lia;exact q;have:=f i (by lia) q;have:=m (i-1) i p (by lia) (by lia);lia
 exact {
  sub:=λb d=>by simp at d;simp[d]
  frame:=λ_ _ _ st D=>⟨D it (by simp) _ st.1,st.2.at λo e=>D a (by simp) o e⟩
  item:=λi s Q E hi st g=>by
   have ps:t.place.size=es.size:=by have:=st.2.ft;simp[Pp]at this;lia
   have hp:i<t.place.size:=by lia
   have C:es[i]?=b7 es[i]:=G5 hi;have y:t.place[i]?=b7 t.place[i]:=G5 hp;refine nQ (next:=t.place[i]+1) (x:=es[i].2) st.1 st.2 (λA E Q q=>lh d c j st.2 ?_) λh' h1 T=>g _ h' s.toks ?_ ⟨?_,st.2.at λo e=>(T.2 a r).trans e⟩ λb o d e=>(T.2 b<|by simpa using d).trans e;rw[l i (by lia),C,y];exact q;rw[C6,G4,C];rfl;rw[p4<|Nat.succ_ne_zero i,Rl,show t.place.getD i 0=t.place[i] by simp[Nk,hp]];exact h1
  done:=λs Q E st g=>by
   have ps:t.place.size=es.size:=by have:=st.2.ft;simp[Pp]at this;lia
   refine fy H st.1 st.2 (λA E Q q=>lh d c j st.2 ?_) λh' k=>g h' s.toks λb o d e=>k b o (by simpa using d) e;rw[l es.size (by lia),O6<|v6 _];exact q
  self:=λ_ _ _ _ st g=>ie st.1 g }
theorem Ey(S:SetAt s.heap a o es ep t)(y:o.cls=.type "set")(u:t.plain=b9->es.size<=1\/t.place.toList.Pairwise (· < ·))(g:t.led = !w.params.followText "set-order")(hz:es.size<=sizeLine)(h:∀(it:d6) (h':d8) (d:Drawn) (vs:List c7) (fp:List d6) (St:Nat->d8->Prop),(∀b o,s.heap.get? b=b7 o->h'.get? b=b7 o)->vs.Perm (es.toList.map (·.2))->s.heap.objs.size<=it->it<h'.objs.size->(∀b∈fp,b=a\/s.heap.objs.size<=b/\b<h'.objs.size) -> (∀A':f7,A'.handled=b8->Walks prog w A' it fp [it] es.size (λi v=>vs[i]?=b7 v) St)->St 0 h'->Q (.ref it) { s with heap:=h',drawn:=d }):g7 (h7 prog w) A (j2<|.ref a) Q E s:=by
 have T:s.TypeIs (.ref a) "set":=⟨o,S.ob,y⟩
 have r:a<s.heap.objs.size:=A1 S.ob;refine Qu T F.slot_set_iter<|F9 F.slot_set_iter T rJ ?_<|F.args_set_iter_1 _;unfold Builtin.«frozenset.__iter__»;refine t6<|show g7 (h7 prog w) _ (pure a) _ _ s from t8 ?_;unfold Builtin.Frozenset.sizeOf;refine t6<|t6<|QC S.ob S.dt S.ft<|t8 ?_;unfold setDrawn;refine t6<|t6<|Ny S.ob S.dt S.ft ?_;unfold setsByText;refine t6<|t6<|OY<|t8<|t8 ?_;by_cases p:(!w.params.followText "set-order" && (!t.plain&&decide (es.size > 1)))=b9;refine NV (λ_=>?_) λz=>p5 p z;refine t6<|uK _ _ _ _ (by simp) λps d hp=>?_;refine t6<|show g7 (h7 prog w) _ (newObj (.type "tuple")<|.seq (ps.map λ(i:Nat)=>j3 i).toArray) _ _ _ from G3 ?_ (by have e:=hp.length_eq;rw[Od]at e;show (ps.map λ(i:Nat)=>j3 i).toArray.size<=sizeLine;rw[A6,v4,e];exact hz);have S1:=S.at (h':=s.heap.push { cls:=.type "tuple",data:=.seq (ps.map λ(i:Nat)=>j3 i).toArray }) λo e=>z5 _ e;refine t6<|wpAny_setEpoch_of (s:={ s with heap:=_,drawn:=d }) S1.ob S1.dt S1.ft ?_;refine t6 (show g7 (h7 prog w) _ (newObj (.type "set_iterator")<|.fields #[.ref s.heap.objs.size,j3 0,.ref a,j3 es.size,j3 ep]) _ _ _ from G3 ?_<|by size_fits);refine t8 ⟨_,rfl,"set_iterator",_,⟨_,A7 _ rfl,rfl⟩,bm.lookup,?_⟩;have n:(s.heap.push { cls:=.type "tuple",data:=.seq (ps.map λ(i:Nat)=>j3 i).toArray }).objs.size=s.heap.objs.size+1:=MF ..;refine h _ _ d (ps.filterMap λj=>(es[j]?).map (·.2)) _ _ (λb o e=>z5 _<|z5 _ e) ?_ (by show s.heap.objs.size<=(s.heap.push _).objs.size;rw[n];exact Pk _) (by show _<((s.heap.push _).push _).objs.size;rw[MF (h:=s.heap.push _)];exact MG _) ?_ (λA' k=>vC (o:=o) (t:=t) (ep:=ep) hp k (A4<|by rw[n];exact O2 r)<|A4<|by rw[n];exact MG _) ⟨A7 _ rfl,S1.at λo e=>z5 _ e,⟨_,z5 _<|A7 _ rfl,rfl,_,rfl⟩⟩;refine(hp.filterMap _).trans ?_;have x:(C2 es.size).filterMap (λj=>(es[j]?).map (·.2))=((C2 es.size).filterMap λj=>es[j]?).map (·.2):=by rw[List.map_filterMap]
 rw[x,filterMap_getElem?_range];intro b c;rw[MF,n];rcases A3.mp c with rfl|c;exact .inr ⟨by rw[n];exact Pk _,by rw[n];exact MG _⟩;rcases A3.mp c with rfl|c;exact .inl rfl;rw[K0.mp c];exact .inr ⟨v6 _,O2<|MG _⟩;refine NV (λz=>p5 z p) λ_=>?_;refine t6<|t8<|t6<|wpAny_setEpoch_of S.ob S.dt S.ft ?_;refine t6 (show g7 (h7 prog w) _ (newObj (.type "set_iterator")<|.fields #[j3 0,j3 0,.ref a,j3 es.size,j3 ep]) _ _ _ from G3 ?_<|by size_fits);refine t8 ⟨_,rfl,"set_iterator",_,⟨_,A7 _ rfl,rfl⟩,bm.lookup,?_⟩;have S1:=S.at (h':=s.heap.push<|fE (j3 0) 0 es.size a ep) λo e=>z5 _ e;have l:∀b∈[s.heap.objs.size,a],b=a\/s.heap.objs.size<=b/\b<(s.heap.push<|fE (j3 0) 0 es.size a ep).objs.size:=λb c=>by rcases A3.mp c with rfl|c;exact .inr ⟨v6 _,by rw[MF];exact MG _⟩;exact .inl<|K0.mp c
 by_cases c:w.params.followText "set-order" = b9;refine h _ _ s.drawn ((o5 (w.params.setOrder a ep) es).toList.map (·.2)) _ _ (λb o e=>z5 _ e) ((nB _ es).map _) (v6 _) (by rw[MF];exact MG _) l (λA' k=>yo (o:=o) (t:=t) (ep:=ep) c k<|A4 r) ⟨A7 _ rfl,S1⟩;have f:w.params.followText "set-order" = c5:=by simpa using c
 have m:(!t.plain&&decide (es.size > 1))=c5:=by rw[f]at p;simpa using p
 have ah:es.size<=1\/t.place.toList.Pairwise (· < ·):=by by_cases q:t.plain=b9;exact u q;simp[q]at m;exact .inl m
 rcases ah with h1|B;refine h _ _ s.drawn (es.toList.map (·.2)) _ _ (λb o e=>z5 _ e) (Pv _) (v6 _) (by rw[MF];exact MG _) l (λA' k=>yp (o:=o) (t:=t) (ep:=ep) f (by rw[g,f];rfl) h1 k<|A4 r) ⟨?_,S1⟩;rw[p0 rfl];exact A7 _ rfl;refine h _ _ s.drawn (es.toList.map (·.2)) _ _ (λb o e=>z5 _ e) (Pv _) (v6 _) (by rw[MF];exact MG _) l (λA' k=>yq (o:=o) (t:=t) (ep:=ep) f (by rw[g,f];rfl) m B k<|A4 r) ⟨?_,S1⟩;rw[p0 rfl];exact A7 _ rfl
end L2
namespace L2
open PySem PySem.Spec PyProof.Rows DL PySem.W PySem.Calls PyProof.V
theorem EI(o:s.TypeIs (.ref a) "set")(h:Q c5 s):g7 (h7 prog w) A (SK<|.ref a) Q E s:=by
 unfold SK;refine t6<|Ob o F.slot_set_len.lookup ?_;generalize hi:("set.__len__":String)=t
 wp_delta
 rw[show splitId t=b7 ("set","__len__") by rw[<-hi];decide +kernel];rw[<-hi];refine t6<|Oc (T:="set") (b:=b9) o sub_set_self<|NV (λz=>p5 z<|by decide) λ_=>NV (λ_=>t6<|NT o<|t8 h) λz=>p5 (by decide +kernel) z
theorem zg{R:Result->f8->Prop}(N:A.handled=b8)(S:SetAt s.heap a o es ep t)(B:o.cls=.type "set")(G:t.plain=b9->es.size<=1\/t.place.toList.Pairwise (· < ·))(v:t.led = !w.params.followText "set-order")(hz:es.size<=sizeLine){D:d6}{c₀:Nat} (p:D≠a) (M:s.heap.get? D=b7 { cls:=.type "list",data:=.seq #[] c₀ }) (res:c7)(Y:∀h' tk d vs c,(∀b u,b≠D->s.heap.get? b=b7 u->h'.get? b=b7 u)->h'.get? D=b7 { cls:=.type "list",data:=.seq vs c }->vs.toList.Perm (es.toList.map (·.2))->R (.ok<|.ret res) { s with heap:=h',toks:=tk,drawn:=d }):g7 (h7 prog w) A.in1 (SJ (.ref D) (.ref a) res)
   (λfin s'=>match fin with|.done f=>R (.ok f) s'|.again c'=>c'.quiet=b9/\k5 (h7 prog w) A c' R s') (λe s'=>R (.error e) s') s:=by
 have ld:D<s.heap.objs.size:=A1 M;have Z:s.TypeIs (.ref a) "set":=⟨o,S.ob,B⟩
 unfold SJ;refine t6<|NT Z ?_;have Q:Builtin.List.listSameRef (.ref D) (.ref a)=c5:=by simp[Builtin.List.listSameRef,p]
 have T:(OT "set" == OT "list")=c5:=by decide
 have U:(OT "set" == OT "tuple")=c5:=by decide
 simp only[Q,T,U,Bool.or_false,B5,r9];refine t6<|Ey S B G v hz λit h1 d vs X St H pv I ai C W st=>?_;have L:D∉X:=λz=>by
  rcases C D z with e|⟨e,_⟩
  exact p e;exact p5 ld<|NO.mpr e
 have lv:vs.length=es.size:=by have:=pv.length_eq;simpa using this
 have K:∀(h:d8) (g:Nat),St 0 h->(∀b u,b≠D->h1.get? b=b7 u->h.get? b=b7 u)->h.get? D=b7 { cls:=.type "list",data:=.seq #[] g } -> k5 (h7 prog w) A (.builtin "list.extend.loop" ⟨[.ref D,.ref it,res],[]⟩) R { s with heap:=h,drawn:=d }:=λh g J kk y=>by
  refine codeAny_extend_loopS (W A.in1<|by simp[N]).toS hz D L res es.size 0 _ #[] g rfl (A9 _) J y (ItemsOf.nil _) λs' acc c' O m j=>?_;rw[Moved.eq_with O];have V:acc.toList=vs:=by
   apply List.ext_getElem?;intro i;by_cases hi:i<es.size;have E:i<acc.size:=by rw[j.1];exact hi
   have h1:acc[i]?=b7 acc[i]:=G5 E;rw[G4,h1];exact(j.2 i _ h1).symm;rw[NI (by rw[E1,j.1];lia),NI<|by lia]
  refine Y s'.heap s'.toks d acc c' (λb u k e=>O.heap b u (λz=>?_)<|kk b u k<|H b u e) m (by rw[V];exact pv);rcases A3.mp z with P|z;exact k P;rw[K0.mp z]at e;exact p5 (A1 e)<|NO.mpr I
 have l:=H _ _ M;refine t6<|E4<|EI (s:={ s with heap:=h1,drawn:=d }) ⟨o,H _ _ S.ob,B⟩ ?_;refine NV (λz=>?_) λ_=>t8 ⟨N9 F.plain_extend_loop _,K h1 c₀ st (λ_ _ _ e=>e) l⟩;refine t6 (Ix (t6 (show g7 (h7 prog w) _ (updateSeq D (·.push .none) >>= λ_=>updateSeq D (·.pop)) _ _ _ from t6<|wpAny_updateSeq l rfl ?_)));have n:=MB (MP (·.push ABQ)) l rfl;refine wpAny_updateSeq (hz:=by seq_fits) n rfl ?_;have x:=MB (MP (·.pop)) n rfl;have r:∀b,b≠D->((h1.update D (MP (·.push ABQ))).update D (MP (·.pop))).get? b=h1.get? b:=λb k=>by rw[PH _ _<|A2 k,PH _ _<|A2 k]
 refine t8 ⟨N9 F.plain_extend_loop _,K _ _ ((W A N).frame 0 _ _ st λb k u e=>(r b λq=>L<|q ▸ k).trans e) (λb u k e=>(r b k).trans e) x⟩
theorem yB{Q:c7->f8->Prop}(H:A.handled=b8)(S:SetAt s.heap a o es ep t)(G:o.cls=.type "set")(y:t.plain=b9->es.size<=1\/t.place.toList.Pairwise (· < ·))(j:t.led = !w.params.followText "set-order")(hz:es.size<=sizeLine)(h:∀h' tk d D (vs:List c7),(∀b u,s.heap.get? b=b7 u->h'.get? b=b7 u)->s.heap.get? D=b8->h'.get? D=b7 { cls:=.type "list",data:=.seq vs.toArray }->vs.Perm (es.toList.map (·.2)) -> g7 (h7 prog w) A.in1 (call (.builtin "list.sort") [.ref D]) (λ_ s'=>Q (.ref D) s') E { s with heap:=h',toks:=tk,drawn:=d }):g7 (h7 prog w) A (call (.builtin "sorted") [.ref a]) Q E s:=by
 have I:a<s.heap.objs.size:=A1 S.ob;refine call_function_entry kind_sorted plain_sorted entry_sorted (args_sorted1 _) ?_;unfold Builtin.«sorted»;refine t6 (m:=checkCount "sorted" 1 1 _)<|t8 ?_;unfold collect;refine t6<|t6<|wpAny_runValue<|NW F.entry_proto_collect ?_;rw[Of F.plain_proto_collect _];refine(show g7 (h7 prog w) _ (newList [] >>= λl=>again<|.builtin "list.__iadd__" ⟨[l,.ref a],[]⟩) _ _ s from t6<|G3<|t8 ⟨N9 F.plain_list_iadd _,NW F.entry_list_iadd ?_⟩);rw[Of F.plain_list_iadd _];have S1:=S.at (h':=s.heap.push { cls:=.type "list",data:=.seq ([]:List c7).toArray }) λo e=>z5 _ e;have B:=zg (prog:=prog) (A:=A.in1) (s:={ s with heap:=s.heap.push { cls:=.type "list",data:=.seq ([]:List c7).toArray } }) (D:=s.heap.objs.size) (c₀:=0) (res:=.ref s.heap.objs.size) (R:=λr s'=>∃h' tk d vs c,r=.ok (.ret<|.ref s.heap.objs.size)/\s'={ s with heap:=h',toks:=tk,drawn:=d }/\(∀b u,s.heap.get? b=b7 u->h'.get? b=b7 u)/\h'.get? s.heap.objs.size=b7 { cls:=.type "list",data:=.seq vs c }/\vs.toList.Perm (es.toList.map (·.2))) (by simp[H]) S1 G y j hz (NF I) (A7 _ rfl) λh' tk d vs c k g p=>⟨h',tk,d,vs,c,rfl,rfl,λb u e=>k b u (A4<|A1 e)<|z5 _ e,g,p⟩
 have i:∀h' tk d (vs:Array c7) c,(∀b u,s.heap.get? b=b7 u->h'.get? b=b7 u)->h'.get? s.heap.objs.size=b7 { cls:=.type "list",data:=.seq vs c }->vs.toList.Perm (es.toList.map (·.2)) -> g7 (h7 prog w) A.in1 (do let ob <-load s.heap.objs.size;match ob.data with|.seq xs _=>pure xs.toList|_=>unsupported "internal:collect":Sem (List c7)) (λxs s'=>g7 (h7 prog w) A.in1 (do let l <-newList xs;let _ <-i6 [l] (call (.builtin "list.sort") [l] []);ret l) (λn s'=>∃v,n=Fin.done (Flow.ret v)/\Q v s') E s') E { s with heap:=h',toks:=tk,drawn:=d }:=λh' tk d vs c C g p=>by
  refine t6 (wpAny_load g<|t8<|t6<|wpAny_newList ?_<|by rw[p.length_eq];simpa using hz);have J:s.heap.objs.size<h'.objs.size:=A1 g;refine t6<|E4<|L7 (h (h'.push { cls:=.type "list",data:=.seq vs.toList.toArray }) tk d h'.objs.size vs.toList (λb u e=>z5 _<|C b u e) ?_ (A7 _ rfl) p) (λ_ s' q=>t8 ⟨_,rfl,q⟩) λ_ _ z=>z;cases q:s.heap.get? h'.objs.size with
  |none=>rfl
  |some o'=>exact p5 (A1<|C _ _ q)<|J4 _
 refine L7 B (λn s' x=>?_) λe s' ⟨_,_,_,_,_,z,_⟩=>by cases z
 cases n with
 |done f=>obtain⟨h',tk,d,vs,c,z,rfl,C,g,p⟩:=x;cases z;exact i h' tk d vs c C g p
 |again c'=>refine⟨x.1,Po x.2 ?_⟩;rintro r K ⟨h',tk,d,vs,c,z,e,C,g,p⟩;subst z e;exact i h' tk d vs c C g p
end L2
namespace L2
open PySem PySem.Spec PyProof.Rows DL PySem.W
theorem t9.drew(I:t9 X pins σ H s):t9 X pins σ H { s with drawn:=d }:=⟨I.ok,I.os,I.bare,I.base,I.loc,I.cell,I.free,I.freeC,I.pin,I.hok,I.len⟩
end L2
namespace L2
open PySem PySem.Spec PyProof.Rows DL PySem.Builtin PySem.Builtin.Str PySem.StrLaws
theorem Cl(a b B:Nat):strSliceIndices (b7 (a:Int)) (b7 (b:Int)) 1 B=strSliceIndices (b7 ((min a B:Nat):Int)) (b7 ((min b B:Nat):Int)) 1 B:=by
 have e:∀i:Nat,max (0:Int) (min (i:Int) (B:Int))=max (0:Int) (min ((min i B:Nat):Int) (B:Int)):=λi=>by lia
 have n:∀i:Nat,¬((i:Int)<0):=λi=>by lia
 simp only[strSliceIndices,n,r9,show ((1:Int) > 0)=True by simp,s9];rw[e a,e b]
theorem ff(x:c8)(l u:Option Int):(L6 x l u).cps.toList=if (strSliceIndices l u 1 x.length).length=x.length then x.cps.toList else(strSliceIndices l u 1 x.length).filterMap (x.cps[·]?):=by unfold L6;by_cases h:(strSliceIndices l u 1 x.length).length=x.length;rw[p0 (by simp[h]),p0 h];rw[p4 (by simp[h]),p4 h]
theorem jJ(x:c8){a b:Nat}(S:a<=b):(L6 x (b7 (a:Int))<|b7 (b:Int)).cps.toList=(x.cps.toList.drop a).take (b-a):=by
 have d:min a x.length<=min b x.length:=by lia
 have l:(strSliceIndices (b7 ((min a x.length:Nat):Int)) (b7 ((min b x.length:Nat):Int)) 1 x.length).filterMap (x.cps[·]?)=(x.cps.toList.drop<|min a x.length).take (min b x.length-min a x.length):=sliced_plain x d<|Nat.min_le_right ..;have Q:=bx (a:=x);have n:(x.cps.toList.drop<|min a x.length).take (min b x.length-min a x.length)=(x.cps.toList.drop a).take (b-a):=by by_cases f:a<=x.length;rw[Qm f];by_cases c:b<=x.length;rw[Qm c];rw[Nat.min_eq_right (by lia),PF (by rw[L8];lia),PF<|by rw[L8];lia];rw[Ru (i:=a) (by lia),Ru (i:=min a x.length)<|by lia];simp
 rw[ff,Cl,l,n];split;rename_i h;rw[strSliceIndices_plain d<|Nat.min_le_right ..]at h;simp only[v4,Od]at h;have e:min a x.length=0:=by lia
 by_cases g:x.length=0;have:x.cps.toList=[]:=List.eq_nil_of_length_eq_zero (by lia);rw[this];simp;have:a=0:=by lia
 subst this;rw[List.drop_zero,PF<|by lia];rfl
theorem Ak(x y:c8):Pt x y=decide (x.cps.toList.take y.length=y.cps.toList):=by unfold Pt;rw[subAt_eq,List.drop_zero,Nat.zero_add,OW];have b:=bx (a:=x);have g:=bx (a:=y);simp only[D9,p7,p8];constructor;exact λh=>h.2;intro h;refine⟨?_,h⟩;have:=t4 F8 h;rw[F6]at this;lia
noncomputable def cb(l:List Nat)(c:Nat):List Nat:=(C2 l.length).filter λi=>l[i]?==b7 c
theorem AK(x:c8)(c:Nat):occurrences x ⟨#[c]⟩ 0 x.length (x.length+1)=cb x.cps.toList c:=by
 have Q:=bx (a:=x);rw[occ_eq];have o:∀(k m:Nat) (st:Array Nat×Nat),m+k=x.length+1->st.1.toList=(C2 m).filter (λi=>x.cps.toList[i]?==b7 c)->st.2<=m -> (forIn (Op m k) st<|occBody x ⟨#[c]⟩ x.length<|x.length+1).run.fst.toList=(C2<|m+k).filter (λi=>x.cps.toList[i]?==b7 c):=by
  intro k;induction k with
  |zero=>intro m st e h1 h2;exact h1
  |succ k b =>
   intro m st e h1 h2;rw[List.range'_succ,Qo];unfold occBody;have hs:st.1.size<=m:=by have:=t4 F8 h1;rw[E1]at this;have l:=K9 (λi=>x.cps.toList[i]?==b7 c)<|C2 m;rw[Od]at l;lia
   have y:=subAt_one x c m;have r:(C2<|m+1).filter (λi=>x.cps.toList[i]?==b7 c)=(C2 m).filter (λi=>x.cps.toList[i]?==b7 c)++if x.cps.toList[m]?=b7 c then[m]else[]:=by rw[List.range_succ,O4];congr 1;by_cases z:x.cps.toList[m]?=b7 c;rw[List.filter_cons_of_pos (by rw[p8];exact z),p0 z];rfl;rw[Si (by rw[p8];exact z),p4 z];rfl
   by_cases z:x.cps.toList[m]?=b7 c;obtain⟨B,C⟩:=y.mpr z;rw[p0 ⟨⟨⟨by lia,h2⟩,B⟩,C⟩];rw[p0 z]at r;have:=b (m+1) (st.1.push m,m+(⟨#[c]⟩:c8).length) (by lia) (by rw[Qv,h1,r])<|show m+1<=m+1 from v6 _;rw[show m+(k+1)=m+1+k by lia];exact this;rw[p4 λh=>z<|y.mp ⟨h.1.2,h.2⟩];rw[p4 z,Nh]at r;have:=b (m+1) (st.1,st.2) (by lia) (by rw[h1,r]) (by show st.2<=m+1;lia);rw[show m+(k+1)=m+1+k by lia];exact this
 have:=o (x.length+1) 0 (#[],0) (by lia) rfl<|v6 _;rw[show x.length+1-0=x.length+1 by lia,this];unfold cb;rw[<-Q,Nat.zero_add,List.range_succ,O4];have:x.cps.toList[x.length]?=b8:=NI (by lia);rw[Si (by rw[p8,this];simp),Ql,Nh]
theorem eN:i∈cb l c↔l[i]?=b7 c:=by unfold cb;rw[List.mem_filter,G1,p8];exact⟨λh=>h.2,λh=>⟨(z9.mp h).1,h⟩⟩
theorem yA(l:List Nat)(c:Nat):(cb l c).Pairwise (· < ·):=List.Pairwise.filter _<|List.pairwise_lt_range
theorem tJ(hi:(cb l c)[k]?=b7 i)(hj:((cb l c)++[l.length])[k+1]?=b7 j):i<j/\j<=l.length/\(j=l.length\/l[j]?=b7 c)/\∀m,i<m->m<j->l[m]?≠b7 c:=by
 have w:=yA l c;have y:i<l.length:=(z9.mp<|eN.mp<|E6 hi).1;obtain⟨r,u⟩:=z9.mp hi;have f:∀a b (o:a<(cb l c).length) (p:b<(cb l c).length),a<b->(cb l c)[a]<(cb l c)[b]:=λa b o p h=>PK.mp w a b o p h;by_cases g:k+1<(cb l c).length;rw[L0 g]at hj;obtain⟨_,z⟩:=z9.mp hj;have d:=eN.mp<|E6 hj;refine⟨by rw[<-u,<-z];exact f _ _ _ _<|MG _,NU (z9.mp d).1,.inr d,λm h1 h2 n=>?_⟩;obtain⟨t,B,v⟩:=QE<|eN.mpr n;rcases O1 t k with q|q|q;have:=f t k B r q;lia;subst q;lia;rcases ME (k+1) t with s|s;have:=f (k+1) t g B s;lia;have:t=k+1:=by lia
 subst this;lia;have e:k+1=(cb l c).length:=by lia
 rw[MU (by lia),e,NS]at hj;simp at hj;subst hj;refine⟨y,v6 _,.inl rfl,λm h1 h2 n=>?_⟩;obtain⟨t,B,v⟩:=QE<|eN.mpr n;rcases O1 t k with q|q|q;have:=f t k B r q;lia;subst q;lia;lia
theorem kj(x:c8)(c:Nat)(f:c<256):∀y,y∈(K3 x ⟨#[c]⟩).drop 1↔∃k i j,(cb x.cps.toList c)[k]?=b7 i/\(cb x.cps.toList c++[x.cps.toList.length])[k+1]?=b7 j/\y=strSub x (i+1) j:=by
 intro y;have Q:=bx (a:=x);unfold K3;have b8:cb x.cps.toList c=[]->(y∈([x]:List c8).drop 1↔∃k i j,(cb x.cps.toList c)[k]?=b7 i/\(cb x.cps.toList c++[x.cps.toList.length])[k+1]?=b7 j/\y=strSub x (i+1) j):=λe=>by rw[e];simp
 by_cases h1:(decide (x.length<(⟨#[c]⟩:c8).length)||decide (OG x<OG ⟨#[c]⟩))=b9;rw[p0 h1];apply b8;rw[fv]at h1;have B:OG (⟨#[c]⟩:c8)=1:=by simp[OG,f]
 have d:1<=OG x:=by unfold OG;split<;>(try split)<;>lia
 have:x.length=0:=by rw[B]at h1;simp only[Q7,p7]at h1;lia
 unfold cb;rw[<-Q,this];rfl;rw[p4 h1,AK];by_cases h2:(cb x.cps.toList c).isEmpty=b9;rw[p0 h2];exact b8<|List.isEmpty_iff.mp h2;rw[p4 h2];unfold partsBetween;rw[fv,<-Qg];have e:((0::(cb x.cps.toList c).map (· + 1)).zip<|cb x.cps.toList c++[x.length]).drop 1=((cb x.cps.toList c).map (· + 1)).zip ((cb x.cps.toList c++[x.cps.toList.length]).drop 1):=by
  cases q:cb x.cps.toList c with
  |nil=>rw[q]at h2;exact p5 rfl h2
  |cons a r=>rw[Q];rfl
 rw[e,z6];constructor;rintro⟨⟨i,j⟩,hm,rfl⟩;obtain⟨k,h⟩:=M9 hm;obtain⟨C,b⟩:=So.mp h;rw[C6]at C;cases q:(cb x.cps.toList c)[k]? with
 |none=>rw[q]at C;cases C
 |some i'=>rw[q]at C;have:i'+1=i:=C0 C;subst this;rw[OA,Nat.add_comm]at b;exact⟨k,i',j,q,b,rfl⟩
 rintro⟨k,i,j,h1,h2,rfl⟩;refine⟨(i+1,j),?_,rfl⟩;have:(((cb x.cps.toList c).map (· + 1)).zip<|(cb x.cps.toList c++[x.cps.toList.length]).drop 1)[k]?=b7 (i+1,j):=by rw[List.getElem?_zip_eq_some];refine⟨by rw[C6,h1];rfl,?_⟩;rw[OA,Nat.add_comm];exact h2
 exact E6 this
end L2
namespace L2
open PySem PySem.Spec PyProof.Rows DL PySem.W
def Jb:F7:=λx y M Q=>match x,y with
 |.int i,.int j=>CPow i j/\Q (.int<|i ^ j.toNat) M
 |_,_=>False
theorem Kq:G8 X (j5 .Pow) Jb:=by refine D0.imp Kg ?_;rintro f g H R ⟨x,y,M,ρ,Q,m,r,n,q,k⟩;unfold Jb at q;split at q;cases r;cases n;exact⟨_,_,rfl,rfl,q.1,k _ H<|VQ.now m (.int _) q.2⟩;exact q.elim
theorem Ll:J0 X (j5 .Pow) Jb:=⟨Kq⟩
def nw(z:c8):C5:=λds M Q=>match ds with
 | [.str y]=>∃i aL,O7 z y 0 z.length 1=i::aL/\Q (.int (i:Nat)) M
 |_=>False
theorem DY:G9 X "str.index" (AW X.K nw):=by
 rintro p s σ H x xs v us R I g a ⟨z,ds,M,ρ,Q,c,b,f,q,k⟩;subst c;obtain⟨t,rfl⟩:=g;unfold nw at q;split at q;obtain⟨i,aL,m,q⟩:=q
 first|have h:=Reps.inv_cons f|have h:=ay.inv_cons f
 clear f;obtain⟨_,_,rfl,r,f⟩:=h;cases f;cases r;obtain⟨u,rfl,t',rfl⟩:=ay.one a;exact call_gives F.slot_str_index (OS _ _ _) F.entry_str_index (F.args_str_index_2 _ _) (gives_str_index _ _ _ _ i aL m) ⟨.int _,H,I.tok _,⟨_,rfl⟩,k _ H<|VQ.now b (.int _) q⟩;exact q.elim
theorem EG:QU X "index" nw:=⟨_,PySem.F.slot_str_index,PySem.F.type_str_index,DY⟩
end L2
namespace Ht
open PySem
def Nt(ow:Array (Option Nat))(s:Nat):Prop:=∃i,ow[s]?=b7 (b7 i)
theorem getD_none(hs:s<ow.size):(ow.getD s<|b7 0).isNone=b9↔¬Nt ow s:=by
 have e:ow[s]?=b7 ow[s]:=G5 hs;have l:ow.getD s (b7 0)=ow[s]:=by simp[Nk,hs]
 rw[l];unfold Nt;rw[e];cases ow[s]<;>simp
theorem BN(hz:ow.size=m+1)(h:Int):∀(fuel k0 k:Nat),k0<=k->k<k0+fuel->¬Nt ow (fh m h k).1->(∀n,n<fI m h k0->Nt ow (sq m h n).j) ->∃N,Rt m ow fuel (fh m h k0).1 (fh m h k0).2=b7 (sq m h N).j/\¬Nt ow (sq m h N).j/\∀n,n<N->Nt ow (sq m h n).j:=by
 intro fuel;induction fuel with
 |zero=>intro k0 k h1 h2;lia
 |succ fuel l =>
  intro k0 k h1 h2 c d;have p:=vM m h k0;have u:K8 m (fh m h k0).1<=m/\(fh m h k0).1<=K8 m (fh m h k0).1:=by unfold K8;split<;>lia
  unfold Rt;cases f:(C2<|K8 m (fh m h k0).1+1-(fh m h k0).1).find? λk=>(ow.getD ((fh m h k0).1+k)<|b7 0).isNone with
  |some r =>
   have i:=Px f;have b:=List.mem_of_find?_eq_some f;rw[G1]at b;refine⟨fI m h k0+r,by rw[Am m h k0 r<|by lia],?_,λn g=>?_⟩;rw[Am m h k0 r<|by lia];exact(getD_none<|by lia).mp i;rcases ME n (fI m h k0)with q|q;exact d n q;obtain⟨r',rfl⟩:∃r',n=fI m h k0+r':=⟨n-fI m h k0,by lia⟩
   rw[Am m h k0 r'<|by lia];refine Og λo=>?_;have t:r' < r:=by lia
   have z:=(getD_none (ow:=ow) (s:=(fh m h k0).1+r')<|by lia).mpr o;have:=List.find?_range_eq_some.mp f;have:=this.2.2 r' t;rw[z]at this;exact p5 this<|by simp
  |none =>
   have a:∀r,r<=K8 m (fh m h k0).1-(fh m h k0).1->Nt ow ((fh m h k0).1+r):=λr i=>by refine Og λo=>?_;have z:=(getD_none (ow:=ow) (s:=(fh m h k0).1+r)<|by lia).mpr o;have:=Rk.mp f r (G1.mpr<|by lia);exact this z
   have v:k0≠k:=λe=>by subst e;exact c<|a 0<|A9 _
   refine l (k0+1) k (by lia) (by lia) c λn g=>?_;unfold fI at g;rcases ME n (fI m h k0)with q|q;exact d n q;obtain⟨r',rfl⟩:∃r',n=fI m h k0+r':=⟨n-fI m h k0,by lia⟩
   rw[Am m h k0 r'<|by lia];exact a r'<|by lia
structure Laid(m:Nat)(hs:List Int)(ow:Array (Option Nat))(k:Nat):Prop where
 sz:ow.size=m+1
 lt:∀s i:Nat,ow[s]?=b7 (b7 i)->i<k
 inj:∀s s' i:Nat,ow[s]?=b7 (b7 i)->ow[s']?=b7 (b7 i)->s=s'
 all:∀i:Nat,i<k->∃s:Nat,ow[s]?=b7 (b7 i)
 path:∀(s i:Nat) (h:Int),ow[s]?=b7 (b7 i)->hs[i]?=b7 h->∃n,(sq m h n).j=s/\∀n',n' < n->Nt ow (sq m h n').j
theorem Laid.room(L:Laid m hs ow k)(q:k<=m):∃s,s<=m/\¬Nt ow s:=by
 refine Og λo=>?_;have c:∀s,s<=m->Nt ow s:=λs hs=>Og λz=>o ⟨s,hs,z⟩;have d:∀s,s∈C2 (m+1)->((ow.getD s b8).getD 0)∈C2 k:=λs u=>by
  obtain⟨i,e⟩:=c s (by have:=G1.mp u;lia);have:ow.getD s b8=b7 i:=by obtain⟨g,z⟩:=NA.mp e;simp[Nk,g,z]
  rw[this];exact G1.mpr<|L.lt s i e
 have X:((C2<|m+1).map λs=>(ow.getD s b8).getD 0).Nodup:=by
  rw[OI,Qt];have base:=Rc (n:=m+1);rw[OI]at base;refine base.imp_of_mem λ{a b} ha hb hne e=>hne ?_;obtain⟨i,f⟩:=c a (by have:=G1.mp ha;lia);obtain⟨j,h⟩:=c b (by have:=G1.mp hb;lia);have t:ow.getD a b8=b7 i:=by obtain⟨g,z⟩:=NA.mp f;simp[Nk,g,z]
  have l:ow.getD b b8=b7 j:=by obtain⟨g,z⟩:=NA.mp h;simp[Nk,g,z]
  rw[t,l]at e;have:i=j:=e;subst this;exact L.inj a b i f h
 have:=L2.nodup_le _ (C2 k) X λx p=>by obtain⟨s,u,rfl⟩:=z6.mp p;exact d s u
 rw[v4,Od,Od]at this;lia
theorem Laid.step(D:oV m)(L:Laid m hs ow k)(A:k<=m)(y:hs[k]?=b7 h):∃j,Rt m ow (Ps m) (NG h % (m+1)) (NG h)=b7 j/\Laid m hs (ow.setIfInBounds j<|b7 k) (k+1):=by
 obtain⟨s,g,l⟩:=L.room A;obtain⟨H,B,e⟩:=Gc D h g;obtain⟨N,v,M,x⟩:=BN L.sz h (Ps m) 0 H (A9 _) (by unfold Ps;lia) (by rw[e];exact l) λn E=>p5 E<|NH _;refine⟨(sq m h N).j,v,?_⟩;have G:(sq m h N).j<ow.size:=by have:=Al (m:=m) h N;rw[L.sz];lia
 have a:(ow.setIfInBounds (sq m h N).j<|b7 k)[(sq m h N).j]?=b7 (b7 k):=by rw[Array.getElem?_setIfInBounds_self_of_lt G]
 have r:∀s,s≠(sq m h N).j->(ow.setIfInBounds (sq m h N).j<|b7 k)[s]?=ow[s]?:=λs f=>Array.getElem?_setIfInBounds_ne<|A2 f;have w:∀s,Nt ow s->Nt (ow.setIfInBounds (sq m h N).j<|b7 k) s:=λs ⟨i,z⟩=>by by_cases q:s=(sq m h N).j;subst q;exact⟨k,a⟩;exact⟨i,by rw[r s q];exact z⟩
 have d:∀s i,(ow.setIfInBounds (sq m h N).j<|b7 k)[s]?=b7 (b7 i)->(s=(sq m h N).j/\i=k)\/(s≠(sq m h N).j/\ow[s]?=b7 (b7 i)):=λs i z=>by by_cases q:s=(sq m h N).j;subst q;rw[a]at z;cases z;exact .inl ⟨rfl,rfl⟩;rw[r s q]at z;exact .inr ⟨q,z⟩
 refine⟨by rw[Array.size_setIfInBounds];exact L.sz,λs i z=>?_,λs s' i z F=>?_,λi hi=>?_,λs i h' z b=>?_⟩;rcases d s i z with⟨_,e⟩|⟨_,z⟩
 lia;have:=L.lt s i z;lia;rcases d s i z with⟨t,p⟩|⟨_,z⟩
 rcases d s' i F with⟨Q,_⟩|⟨_,F⟩
 rw[t,Q];have:=L.lt s' i F;lia;rcases d s' i F with⟨_,I⟩|⟨_,F⟩
 have:=L.lt s i z;lia;exact L.inj s s' i z F;by_cases q:i=k;subst q;exact⟨_,a⟩;obtain⟨s,z⟩:=L.all i (by lia);refine⟨s,?_⟩;rw[r s λe=>M ⟨i,by rw[<-e];exact z⟩];exact z;rcases d s i z with⟨t,p⟩|⟨_,z⟩
 subst t p;rw[y]at b;cases b;exact⟨N,rfl,λo c=>w _<|x o c⟩;obtain⟨n,C,u⟩:=L.path s i h' z b;exact⟨n,C,λo c=>w _<|u o c⟩
theorem Ho(l:oV m)(hs:List Int)(q:hs.length<=m):∃ow,SetTable.layClean m hs.toArray=b7 ow/\Laid m hs ow hs.length:=by
 have start:Laid m hs (Array.replicate (m+1) b8) 0:=by
  have n:∀s i:Nat,(Array.replicate (m+1) (b8:Option Nat))[s]?≠b7 (b7 i):=λs i z=>by rw[Array.getElem?_replicate]at z;split at z<;>cases z
  exact⟨by simp,λs i z=>p5 z<|n s i,λs _ i z=>p5 z<|n s i,λi hi=>p5 hi<|NH _,λs i _ z=>p5 z<|n s i⟩
 have g:∀(aL:List Int) (k:Nat) (ow:Array (Option Nat)),hs.drop k=aL->k+aL.length=hs.length->Laid m hs ow k -> ∃o,aL.foldl (init:=b7 (ow,k)) (λacc h=>do
    let (owner,k) <-acc
    let j <-Rt m owner (Ps m) (NG h % (m+1)) (NG h)
    pure (owner.setIfInBounds j<|b7 k,k+1))=b7 (o,hs.length)/\Laid m hs o hs.length:=by
  intro aL;induction aL with
  |nil =>
   intro k ow e a L;have:k=hs.length:=by simpa using a
   subst this;exact⟨ow,rfl,L⟩
  |cons h aL p =>
   intro k ow e a L;have d:hs[k]?=b7 h:=by
    have:(hs.drop k)[0]?=b7 h:=by rw[e];rfl
    rw[OA]at this;simpa using this
   rw[D4]at a;obtain⟨j,f,b⟩:=L.step l (by lia) d;obtain⟨o,g1,c⟩:=p (k+1) (ow.setIfInBounds j<|b7 k) (by
    have:hs.drop (k+1)=(hs.drop k).drop 1:=by rw[List.drop_drop]
    rw[this,e];rfl) (by lia) b
   refine⟨o,?_,c⟩;rw[List.foldl_cons];simp only[Option.bind_eq_bind,Option.bind_some,f,Option.pure_def];exact g1
 obtain⟨ow,g1,c⟩:=g hs 0 _ rfl (by simp) start;refine⟨ow,?_,c⟩;unfold SetTable.layClean;rw[<-Array.foldl_toList];have:hs.toArray.toList=hs:=by simp
 rw[this,g1];rfl
theorem nC{α:Type}[DecidableEq α]:∀{l l':List α},l.Nodup->l'.Nodup->(∀x,x∈l↔x∈l')->l.Perm l'
 | [],l',_,_,h=>by have:l'=[]:=List.eq_nil_iff_forall_not_mem.mpr λx hx=>p5 ((h x).mpr hx) (by simp);rw[this]
 |x::l,l',n,n',h=>by have hx:x∈l':=(h x).mp E3;have n1:=J5.mp n;refine(QX x<|nC n1.2 (n'.erase x) λy=>?_).trans (List.perm_cons_erase hx).symm;by_cases e:y=x;subst e;constructor;intro z;exact p5 z n1.1;intro z;exact p5 z<|List.Nodup.not_mem_erase n';rw[List.mem_erase_of_ne e,<-h y,A3];exact⟨.inr,λz=>z.resolve_left e⟩
noncomputable def bO(m:Nat)(ow:Array (Option Nat)):List (Nat×Nat):=(C2<|m+1).filterMap λj=>(ow.getD j b8).map (j,·)
theorem fA(L:Laid m hs ow k):(s,i)∈bO m ow↔ow[s]?=b7 (b7 i):=by
 unfold bO;rw[Qy];constructor;rintro⟨j,hj,e⟩;have h:j<ow.size:=by rw[L.sz];exact G1.mp hj
 have l:ow.getD j b8=ow[j]:=by simp[Nk,h]
 rw[l]at e;cases q:ow[j] with
 |none=>rw[q]at e;cases e
 |some i'=>rw[q]at e;have:=C0 e;cases this;rw[G5 h,q]
 intro e;obtain⟨g,z⟩:=NA.mp e;refine⟨s,G1.mpr (by rw[<-L.sz];exact g),?_⟩;have l:ow.getD s b8=ow[s]:=by simp[Nk,g]
 rw[l,z];rfl
theorem uu(m:Nat)(ow:Array (Option Nat)):((bO m ow).map (·.1)).Pairwise (· < ·):=by unfold bO;rw[Qt];refine List.Pairwise.filterMap (R:=(· < ·)) _ (λa c h b d e f=>?_)<|List.pairwise_lt_range;obtain⟨x,_,rfl⟩:=NJ.mp d;obtain⟨y,_,rfl⟩:=NJ.mp f;exact h
theorem uv(L:Laid m hs ow hs.length):((bO m ow).map (·.2)).Perm (C2 hs.length):=by
 have n:(bO m ow).Nodup:=by have:=uu m ow;rw[Qt]at this;exact this.imp λh e=>by rw[e]at h;exact J4 _ h
 have X:((bO m ow).map (·.2)).Nodup:=by rw[OI,Qt];rw[OI]at n;refine n.imp_of_mem λ{a b} ha hb hne e=>hne ?_;obtain⟨s,i⟩:=a;obtain⟨s',i'⟩:=b;have c:i=i':=e;subst c;rw[L.inj s s' i ((fA L).mp ha)<|(fA L).mp hb]
 refine nC X Rc λi=>?_;rw[G1,z6];constructor;rintro⟨⟨s,i'⟩,hm,rfl⟩;exact L.lt s i'<|(fA L).mp hm;intro hi;obtain⟨s,e⟩:=L.all i hi;exact⟨(s,i),(fA L).mpr e,rfl⟩
theorem rF{α:Type}{l:List α}{p:Nat}{x y:α}(hp:p<=l.length){i:Nat}(h:(l.take p++x::l.drop p)[i]?=b7 y):(i<p/\l[i]?=b7 y)\/(i=p/\y=x)\/(p<i/\l[i-1]?=b7 y):=by
 have lt:(l.take p).length=p:=by rw[F6];lia
 rcases O1 i p with q|q|q;rw[L0 (by lia),Rm,p0 q]at h;exact .inl ⟨q,h⟩;subst q;rw[MU (by lia),lt,NS]at h;exact .inr<|.inl ⟨rfl,(C0 h).symm⟩;rw[MU (by lia),lt]at h;obtain⟨r,a⟩:∃r,i-p=r+1:=⟨i-p-1,by lia⟩
 rw[a,QI,OA]at h;exact .inr<|.inr ⟨q,by rw[show i-1=p+r by lia];exact h⟩
structure TPre(t:o6)(hs:List Int):Prop where
 msk:oV t.mask
 len:t.place.size=hs.length
 nod:t.dummies = #[]
 ris:t.place.toList.Pairwise (· < ·)
 rng:∀j∈t.place.toList,j<=t.mask
 path:∀(i:Nat) (h:Int) (j:Nat),hs[i]?=b7 h->t.place[i]?=b7 j->∃n,(sq t.mask h n).j=j/\∀n',n' < n->(sq t.mask h n').j∈t.place.toList
theorem put_pre(T:TOk t hs)(h2:(sq t.mask h N).j∉t.place.toList)(u:∀k,k<N->(sq t.mask h k).j∈t.place.toList)(v:Bool):(t.put (sq t.mask h N).j).2<=hs.length/\TPre { (t.put (sq t.mask h N).j).1 with plain:=v } (hs.take (t.put (sq t.mask h N).j).2++h::hs.drop (t.put (sq t.mask h N).j).2):=by
 obtain⟨e,r⟩:=Aw T.ris h2;obtain⟨g,_,_⟩:=below_spec t.place T.ris (sq t.mask h N).j;have l:E9 t.place (sq t.mask h N).j<=hs.length:=by rw[<-T.len];exact g
 refine⟨l,⟨T.msk,?_,?_,r,λj L=>?_,λi h' j d L=>?_⟩⟩;have:=t4 F8 e;rw[E1,B6,D4,F6,L8,E1]at this;show (t.put (sq t.mask h N).j).1.place.size=(hs.take (E9 t.place (sq t.mask h N).j)++h::hs.drop (E9 t.place (sq t.mask h N).j)).length;rw[this,B6,D4,F6,L8,T.len];show (if SetTable.has t.dummies (sq t.mask h N).j then SetTable.eraseAt t.dummies (E9 t.dummies (sq t.mask h N).j)else t.dummies) = #[];rw[T.nod];rfl;have a:j∈(t.put (sq t.mask h N).j).1.place.toList:=L;rw[e]at a;rcases F3.mp a with q|q;exact T.rng j<|Rq q;rcases A3.mp q with q|q;rw[q];exact Al h N;exact T.rng j<|R5 q;have s:∀x,x∈t.place.toList->x∈(t.put (sq t.mask h N).j).1.place.toList:=λx m=>by rw[e];rw[<-R8 (E9 t.place (sq t.mask h N).j) t.place.toList]at m;rcases F3.mp m with q|q;exact Np _ q;exact I9 _<|C7 _ q
 have a:(t.put (sq t.mask h N).j).1.place.toList[i]?=b7 j:=by rw[G4];exact L
 rw[e]at a;have o:∀k,hs[k]?=b7 h'->t.place[k]?=b7 j->∃n,(sq t.mask h' n).j=j/\∀f,f < n->(sq t.mask h' f).j∈(t.put (sq t.mask h N).j).1.place.toList:=λk w y=>by obtain⟨n,C,p⟩:=T.path k h' j w y;exact⟨n,C,λf c=>s _<|p f c⟩
 rcases rF (by rw[E1];exact g) a with⟨q,z⟩|⟨q,z⟩|⟨q,z⟩
 rcases rF l d with⟨b,F⟩|⟨b,F⟩|⟨b,F⟩
 exact o i F (by rw[<-G4];exact z);lia;lia;rcases rF l d with⟨b,F⟩|⟨b,F⟩|⟨b,F⟩
 lia;subst z F;exact⟨N,rfl,λf c=>s _<|u f c⟩;lia;rcases rF l d with⟨b,F⟩|⟨b,F⟩|⟨b,F⟩
 lia;lia;exact o (i-1) F<|by rw[<-G4];exact z
theorem TPre.ok(T:TPre t hs)(h:t.tooFull=c5):TOk t hs:=by refine⟨T.msk,T.len,T.nod,T.ris,T.rng,?_,T.path⟩;unfold SetTable.tooFull QW at h;rw[T.nod]at h;simp at h;simpa using h
theorem TPre.anew(T:TPre t hs)(h:t.tooFull=b9)(M:(hs.length-1)*5<t.mask*3)(E:hs.length<=64):R0 (OV hs.length)<=sizeLine/\∃t2 ord,t.relaid hs.toArray (OV hs.length)=b7 (t2,ord)/\ord.toList.Perm (C2 hs.length)/\TOk t2 (ord.toList.map λi=>hs.getD i 0)/\t2.led=t.led:=by
 have u:hs.length*5 ≥ t.mask*3:=by unfold SetTable.tooFull QW at h;rw[T.nod,T.len]at h;simpa using h
 have D:∃m,R0 (OV hs.length)=m+1/\oV m/\hs.length<=m/\hs.length*5<m*3:=by
  rcases T.msk with e|e|e;have:hs.length=5:=by lia
  rw[this];exact⟨31,by decide +kernel,.inr<|.inl rfl,by decide,by decide⟩;have:hs.length=19:=by lia
  rw[this];exact⟨127,by decide +kernel,.inr<|.inr rfl,by decide,by decide⟩;lia
 obtain⟨m,e,l,H,f⟩:=D;refine⟨by rw[e,Nl];rcases l with rfl|rfl|rfl<;>lia,?_⟩;obtain⟨ow,B,L⟩:=Ho l hs H;unfold SetTable.relaid;rw[e,Rl];unfold SetTable.laid;rw[B];refine⟨_,_,rfl,?_,?_,rfl⟩;show ((bO m ow).map (·.2)).toArray.toList.Perm _;simpa using uv L;have d:((bO m ow).map (·.1)).toArray.toList=(bO m ow).map (·.1):=by simp
 have K:((bO m ow).map (·.2)).toArray.toList=(bO m ow).map (·.2):=by simp
 have J:(bO m ow).length=hs.length:=by have:=(uv L).length_eq;simpa using this
 refine⟨l,?_,rfl,?_,λj g=>?_,?_,λi h' j F g=>?_⟩;show ((bO m ow).map (·.1)).toArray.size=(((bO m ow).map (·.2)).toArray.toList.map λi=>hs.getD i 0).length;simp;show ((bO m ow).map (·.1)).toArray.toList.Pairwise _;rw[d];exact uu m ow;have a:j∈((bO m ow).map (·.1)).toArray.toList:=g;rw[d]at a;obtain⟨⟨s,i⟩,o,rfl⟩:=z6.mp a;have:=(NA.mp<|(fA L).mp o).1;rw[L.sz]at this;show s<=m;lia;show ((bO m ow).map (·.1)).toArray.size*5<m*3;rw[A6,v4,J];exact f;have b:(((bO m ow).map (·.2)).map λi=>hs.getD i 0)[i]?=b7 h':=by rw[<-K];exact F
 have a:((bO m ow).map (·.1))[i]?=b7 j:=by rw[<-d,G4];exact g
 rw[D7,C6]at b;rw[C6]at a;cases q:(bO m ow)[i]? with
 |none=>rw[q]at a;cases a
 |some p =>
  obtain⟨s,k⟩:=p;rw[q]at b a;have y:s=j:=C0 a;have A:hs.getD k 0=h':=C0 b;subst y;have c:=(fA L).mp<|E6 q;have v:=L.lt s k c;have G:hs[k]?=b7 h':=by rw[w9 v];rw[<-A];simp[OQ,v]
  obtain⟨n,C,x⟩:=L.path s k h' c G;refine⟨n,C,λw r=>?_⟩;obtain⟨I,z⟩:=x w r;show (sq m h' w).j∈((bO m ow).map (·.1)).toArray.toList;rw[d];exact z6.mpr ⟨(_,I),(fA L).mpr z,rfl⟩
end Ht
namespace L2
open PySem PySem.Spec PyProof.Rows DL PySem.W
theorem rC:∀(n:Nat) (d:D),da n d=b9->v7 M n d=b9
 | 0,d,h=>by cases d<;>first|rfl|cases h
 |n+1,d,h=>by
  cases d with
  |tup ds=>have h':ds.all (da n)=b9:=h;show ds.all (v7 M n)=b9;rw[F0]at h' ⊢;exact λx hx=>rC n x<|h' x hx
  |str x=>rfl
  |int i=>rfl
  |_=>cases h
theorem jo:∀(n:Nat) (x y:D),da n x=b9->da n y=b9->(u7 M n x y=b9↔x=y):=by
 intro n;induction n with
 |zero =>
  intro x y h1 h2;cases x with
  |str a =>
   cases y with
   |str b=>simp[u7]
   |int b=>simp[u7]
   |_=>cases h2
  |int a =>
   cases y with
   |str b=>simp[u7]
   |int b=>simp[u7]
   |_=>cases h2
  |_=>cases h1
 |succ n h =>
  have o:∀xs ys:List D,xs.all (da n)=b9->ys.all (da n)=b9->(D6 (u7 M n) xs ys=b9↔xs=ys):=by
   intro xs;induction xs with
   |nil=>intro ys _ _;cases ys<;>simp[D6]
   |cons x xs i =>
    intro ys C c;cases ys with
    |nil=>simp[D6]
    |cons y ys=>rw[MX,D9]at C c;show (u7 M n x y&&D6 (u7 M n) xs ys)=b9↔_;rw[D9,h x y C.1 c.1,i ys C.2 c.2,Q5]
  intro x y h1 h2;cases x with
  |str a =>
   cases y with
   |str b=>simp[u7]
   |int b=>simp[u7]
   |tup ys=>simp[u7]
   |_=>cases h2
  |int a =>
   cases y with
   |str b=>simp[u7]
   |int b=>simp[u7]
   |tup ys=>simp[u7]
   |_=>cases h2
  |tup xs =>
   cases y with
   |str b=>simp[u7]
   |int b=>simp[u7]
   |tup ys=>rw[D.tup.injEq];exact o _ _ h1 h2
   |_=>cases h2
  |_=>cases h1
theorem Lx(sm:v9 X.K ρ M H):∀(n:Nat) (A:f7) (s:f8) (d:D) (v:V) (u:c7) (E:c7->f8->Prop) (Q:Int->f8->Prop),A.units+n<j8->t9 X pins σ H s->u6 X.K ρ H d v->aK v u->da n d=b9 ->(∀tk,Q (A5 X.w n d) { s with toks:=tk })->g7 (h7 X.prog X.w) A (pyHash u) Q E s:=by
 intro n;induction n with
 |zero =>
  intro A s d v u E Q P I r f m h;cases r with
  |str x=>obtain⟨t,rfl⟩:=f;exact Qq<|h _
  |int x=>obtain⟨t,rfl⟩:=f;exact Qr<|h _
  |_=>cases m
 |succ n R =>
  intro A s d v u E Q P I r f m h;cases r with
  |str x=>obtain⟨t,rfl⟩:=f;exact Qq<|h _
  |int x=>obtain⟨t,rfl⟩:=f;exact Qr<|h _
  |@tup a vs ds O Y =>
   cases f;obtain⟨its,W,p,_⟩:=I.tuple O;obtain⟨o,B,L,nn,N⟩:=id p;have T:s.TypeIs (.ref a) "tuple":=⟨o,B,L⟩
   have y:ds.all (da n)=b9:=m;unfold pyHash
   first|unfold pyHashByItsType|skip
   first|refine t6 (wpAny_cRoomFor_or (.inr<|by lia) ?_)|skip
   refine t6<|Ob T F.slot_tuple_hash.lookup ?_;refine(show g7 (h7 X.prog X.w) _ (if (b7 (Value.builtin "tuple.__hash__")==b7 ABQ)=b9 then _ else _) Q E s from ?_);rw[p4<|by rw[beq_builtin_none];exact M8];refine t6<|Ob T F.slot_tuple_hash.lookup ?_;refine(show g7 (h7 X.prog X.w) _ (callSpecialIfBoundUnlessNone? (.ref a) "__hash__" _ >>= _) Q E s from t6<|SW T F.slot_tuple_hash<|F9 F.slot_tuple_hash T F.entry_tuple_hash ?_<|F.args_tuple_hash_1 _);refine(show g7 (h7 X.prog X.w) _ (RD (.ref a) >>= _) _ _ s from t6<|wpAny_tupleItemsOf B N<|t6 ?_);rw[<-Py];refine Nw _ (λaL (b:Array Int) s'=>∃done left q,ds=done++left/\Reps X.K ρ H left q/\ay q aL/\b.toList=done.map (A5 X.w n)/\∃tk,s'={ s with toks:=tk }) _ ?_ ?_ _ _ ⟨[],ds,vs,rfl,Y,by simpa using W,rfl,s.toks,rfl⟩;rintro x aL b s' ⟨done,left,q,e,h1,h2,k,tk,rfl⟩;cases h2 with
   |@cons Z _ i _ S G =>
    cases h1 with
    |@cons j _ c _ U J =>
     refine t6<|R _ _ j Z x _ _ (by show A.units+1+n<j8;lia) (I.tok tk) U S ?_ λg=>?_;have:=F0.mp y j (by rw[e];simp);exact this
     first
      |exact t8 ⟨done++[j],c,i,by rw[e];simp,J,G,by simp[k],g,rfl⟩
      |exact t6 (t8 (t8 ⟨done++[j],c,i,by rw[e];simp,J,G,by simp[k],g,rfl⟩))
   rintro b s' ⟨done,left,q,e,h1,h2,k,tk,rfl⟩;cases h2;cases h1;rw[Nh]at e;subst e;refine(show g7 (h7 X.prog X.w) _ (retInt<|Pa b.toList) _ _ _ from ?_);rw[k];refine wpAny_ret_mkInt ?_;have l:A5 X.w (n+1) (.tup ds)=n6 (Pa<|ds.map<|A5 X.w n):=rfl;generalize Pa (ds.map<|A5 X.w n)=z at l;refine(show g7 (h7 X.prog X.w) _ (if (decide (-(2:Int) ^ 63<=z)&&decide (z<2 ^ 63))=b9 then _ else _) Q E _ from ?_);unfold n6 at l;by_cases C:(decide (-(2:Int) ^ 63<=z)&&decide (z<2 ^ 63))=b9;rw[p0 C]at l ⊢;exact t8 (by rw[<-l];exact h _);rw[p4 C]at l ⊢;exact t6<|Ix<|t8<|by rw[<-l];exact h _
  |_=>cases m
theorem hbv_D(S:v9 X.K ρ M H):∀(n k:Nat) (A:f7) (s:f8) (d:D) (v:V) (u:c7) (E:c7->f8->Prop) (Q:Bool->f8->Prop),n<=k->t9 X pins σ H s->u6 X.K ρ H d v->aK v u->da n d=b9->(∀b,Q b s)->g7 (h7 X.prog X.w) A (hashByValue k u) Q E s:=by
 intro n;induction n with
 |zero =>
  intro k A s d v u E Q z I r c e h;cases r with
  |str x=>obtain⟨t,rfl⟩:=c;cases k<;>exact t8<|h _
  |int x=>obtain⟨t,rfl⟩:=c;cases k<;>exact t8<|h _
  |_=>cases e
 |succ n G =>
  intro k A s d v u E Q z I r c e h;cases r with
  |str x=>obtain⟨t,rfl⟩:=c;cases k<;>exact t8<|h _
  |int x=>obtain⟨t,rfl⟩:=c;cases k<;>exact t8<|h _
  |@tup a vs ds B O =>
   cases c;obtain⟨k,rfl⟩:∃J,k=J+1:=⟨k-1,by lia⟩
   obtain⟨its,j,p,_⟩:=I.tuple B;obtain⟨o,m,l,R,q⟩:=id p;have T:s.TypeIs (.ref a) "tuple":=⟨o,m,l⟩
   have y:ds.all (da n)=b9:=e;unfold hashByValue;refine t6<|Ob T F.slot_tuple_hash.lookup ?_;dsimp only;refine t6<|MS m q ?_;simp only[Rb];rw[<-Py];refine t6 ?_;refine Nw _ (λaL r s'=>s'=s/\r.1=b8/\∃left f,(∀x∈left,da n x=b9)/\Reps X.K ρ H left f/\ay f aL) _ ?_ ?_ _ _ ⟨rfl,rfl,ds,vs,F0.mp y,O,by simpa using j⟩;rintro x aL r s' ⟨rfl,i,left,f,g,h1,h2⟩;cases h2 with
   |cons L N =>
    cases h1 with
    |cons U P =>
     refine t6<|G k _ _ _ _ x _ _ (by lia) I U L (g _ E3) λb=>?_;cases b with
     |false=>exact t8<|t8<|h _
     |true=>exact t8 ⟨rfl,rfl,_,_,λx C=>g x<|C7 _ C,P,N⟩
   rintro⟨r1,j⟩ s' ⟨rfl,i,_⟩;simp only at i;subst i;exact t8<|h _
  |_=>cases e
theorem As(P:v9 X.K ρ M H):∀(n k:Nat) (A:f7) (s:f8) (d:D) (v:V) (u:c7) (E:c7->f8->Prop) (Q:Bool->f8->Prop),n<=k->t9 X pins σ H s->u6 X.K ρ H d v->aK v u->da n d=b9->Q b9 s->g7 (h7 X.prog X.w) A (o7 k u) Q E s:=by
 intro n;induction n with
 |zero =>
  intro k A s d v u E Q q I r b e h;cases r with
  |str x=>obtain⟨t,rfl⟩:=b;rw[Oz k (v:=.str x t) rfl];exact t8 h
  |int x=>obtain⟨t,rfl⟩:=b;rw[Oz k (v:=.int x t) rfl];exact t8 h
  |_=>cases e
 |succ n C =>
  intro k A s d v u E Q q I r b e h;cases r with
  |str x=>obtain⟨t,rfl⟩:=b;rw[Oz k (v:=.str x t) rfl];exact t8 h
  |int x=>obtain⟨t,rfl⟩:=b;rw[Oz k (v:=.int x t) rfl];exact t8 h
  |@tup a vs ds z N =>
   cases b;obtain⟨k,rfl⟩:∃G,k=G+1:=⟨k-1,by lia⟩
   obtain⟨its,f,p,_⟩:=I.tuple z;obtain⟨o,m,j,R,l⟩:=id p;have T:s.TypeIs (.ref a) "tuple":=⟨o,m,j⟩
   have y:ds.all (da n)=b9:=e;unfold o7;refine t6<|Ob T F.slot_tuple_eq.lookup ?_;refine(show g7 (h7 X.prog X.w) A (isInstance (.ref a) (.type "tuple") >>= _) _ _ s from t6<|Oc T isSubtype_tuple_tuple ?_);simp only[Ng,B5,r9];refine t6<|MS m l ?_;simp only[Rb];refine t6 ?_;rw[<-Py];refine Nw _ (λaL r s'=>s'=s/\r.1=b8/\∃left c,(∀x∈left,da n x=b9)/\Reps X.K ρ H left c/\ay c aL) _ ?_ ?_ _ _ ⟨rfl,rfl,ds,vs,F0.mp y,N,by simpa using f⟩;rintro x aL r s' ⟨rfl,i,left,c,g,h1,h2⟩;cases h2 with
   |cons J L =>
    cases h1 with
    |cons U O=>refine t6<|C k _ _ _ _ x _ _ (by lia) I U J (g _ E3) ?_;simp only[Ng,B5,r9];exact t8 ⟨rfl,rfl,_,_,λx B=>g x<|C7 _ B,O,L⟩
   rintro⟨r1,f⟩ s' ⟨rfl,i,_⟩;simp only at i;subst i;exact t8 h
  |_=>cases e
theorem Mo(O:v9 X.K ρ M H):∀(n k:Nat) (A:f7) (s:f8) (d:D) (v:V) (u:c7) (E:c7->f8->Prop) (Q:Bool->f8->Prop),n<=k->t9 X pins σ H s->u6 X.K ρ H d v->aK v u->da n d=b9->Q c5 s->g7 (h7 X.prog X.w) A (ofAClassStatement k u) Q E s:=by
 intro n;induction n with
 |zero =>
  intro k A s d v u E Q q I r b e h;cases r with
  |str x=>obtain⟨t,rfl⟩:=b;cases k<;>exact t8 h
  |int x=>obtain⟨t,rfl⟩:=b;cases k<;>exact t8 h
  |_=>cases e
 |succ n C =>
  intro k A s d v u E Q q I r b e h;cases r with
  |str x=>obtain⟨t,rfl⟩:=b;cases k<;>exact t8 h
  |int x=>obtain⟨t,rfl⟩:=b;cases k<;>exact t8 h
  |@tup a vs ds z L =>
   cases b;obtain⟨k,rfl⟩:∃F,k=F+1:=⟨k-1,by lia⟩
   obtain⟨its,f,p,_⟩:=I.tuple z;obtain⟨o,m,j,R,l⟩:=id p;have T:s.TypeIs (.ref a) "tuple":=⟨o,m,j⟩
   have y:ds.all (da n)=b9:=e;unfold ofAClassStatement;refine t6<|NT T ?_;dsimp only;simp only[t5,s9];refine t6<|t8 ?_;simp only[Ng,B5,r9];refine t6<|MS m l ?_;dsimp only;refine t6 ?_;rw[<-Py];refine Nw _ (λaL r s'=>s'=s/\r.1=b8/\∃left c,(∀x∈left,da n x=b9)/\Reps X.K ρ H left c/\ay c aL) _ ?_ ?_ _ _ ⟨rfl,rfl,ds,vs,F0.mp y,L,by simpa using f⟩;rintro x aL r s' ⟨rfl,i,left,c,g,h1,h2⟩;cases h2 with
   |cons G J =>
    cases h1 with
    |cons U N=>refine t6<|C k _ _ _ _ x _ _ (by lia) I U G (g _ E3) ?_;simp only[B5,r9];exact t8 ⟨rfl,rfl,_,_,λx B=>g x<|C7 _ B,N,J⟩
   rintro⟨r1,f⟩ s' ⟨rfl,i,_⟩;simp only at i;subst i;exact t8 h
  |_=>cases e
noncomputable def gP:D->Bool
 |.tup _=>b9
 |_=>c5
def E8(X:Cx)(ρ:List d6)(H:Hp)(n:Nat)(d:D)(e:Int×c7):Prop:=(∃v,u6 X.K ρ H d v/\aK v e.2)/\e.1=A5 X.w n d/\da n d=b9/\gP d=b9
structure KSet(X:Cx)(ρ:List d6)(H:Hp)(h:d8)(a:d6)(n:Nat)(ds:List D)(o:d7)(es:Array (Int×c7))(ep:Nat)(t:o6):Prop where
 ob:h.get? a=b7 o
 ex:o.ExactSet
 dt:o.data=.set es ep t
 en:Paired (E8 X ρ H n) ds es.toList
 nd:ds.Nodup
 tk:Ht.TOk t (es.toList.map (·.1))
 ld:t.led = !X.w.params.followText "set-order"
theorem cE{α β:Type}{R:α->β->Prop}:∀{xs:List α}{ys:List β}{i:Nat}{y:β},Paired R xs ys->ys[i]?=b7 y->∃x,xs[i]?=b7 x/\R x y
 |_,_,i,y,.nil,e=>by simp at e
 |_,_,0,y,.cons r _,e=>by simp at e;subst e;exact⟨_,rfl,r⟩
 |_,_,i+1,y,.cons _ t,e=>by obtain⟨x,h1,h2⟩:=cE (i:=i) t (by simpa using e);exact⟨x,by simpa using h1,h2⟩
theorem jM{α β:Type}{R:α->β->Prop}:∀{xs:List α}{ys:List β}{i:Nat}{x:α},Paired R xs ys->xs[i]?=b7 x->∃y,ys[i]?=b7 y/\R x y
 |_,_,i,y,.nil,e=>by simp at e
 |_,_,0,y,.cons r _,e=>by simp at e;subst e;exact⟨_,rfl,r⟩
 |_,_,i+1,y,.cons _ t,e=>by obtain⟨x,h1,h2⟩:=jM (i:=i) t (by simpa using e);exact⟨x,by simpa using h1,h2⟩
theorem KSet.fits(S:KSet X ρ H h a n ds o es ep t):t.fits es.size=b9:=by
 have h1:=S.tk.len;have h2:=S.tk.few;rw[v4,E1]at h1;unfold Pp;have b:t.fill=t.place.size:=by unfold QW;rw[S.tk.nod];rfl
 rw[b];simp only[D9,p8,p7];lia
theorem CW(m:v9 X.K ρ M H)(I:t9 X pins σ H s)(f:n<=8)(r:u6 X.K ρ H d v)(c:aK v u)(e:da n d=b9)(h:Q c5 s):∀(l:List c7),(∀y∈l,∃d' v',u6 X.K ρ H d' v'/\aK v' y/\da n d'=b9)->g7 (h7 X.prog X.w) A (searchCouldBeSeen u l) Q E s:=by intro l g;unfold searchCouldBeSeen;refine t6 ?_;refine Nw _ (λaL r s'=>s'=s/\r.1=b8/\∀y∈aL,∃d' v',u6 X.K ρ H d' v'/\aK v' y/\da n d'=b9) _ ?_ ?_ _ _ ⟨rfl,rfl,g⟩;rintro y aL r' s' ⟨rfl,i,O⟩;have t:∀z∈aL,∃d' v',u6 X.K ρ H d' v'/\aK v' z/\da n d'=b9:=λz j=>O z<|C7 _ j;obtain⟨d',v',a,b,k⟩:=O y E3;dsimp only;refine NV (λ_=>t8 ⟨rfl,rfl,t⟩) λ_=>?_;refine t6<|As m n 8 A _ d v u _ _ f I r c e ?_;simp only[Ng,B5,r9];refine t6<|As m n 8 A _ d' v' y _ _ f I a b k ?_;simp only[Ng,B5,r9];refine t6<|Mo m n 8 A _ d v u _ _ f I r c e ?_;simp only[B5,r9];refine t6<|Mo m n 8 A _ d' v' y _ _ f I a b k ?_;simp only[B5,r9];exact t8 ⟨rfl,rfl,t⟩;rintro⟨a,b⟩ s' ⟨rfl,i,_⟩;simp only at i;subst i;exact t8 h
theorem Dj(sm:v9 X.K ρ M H)(I:t9 X pins σ H s)(hn:n<=8)(hu:A.units+n<j8)(S:KSet X ρ H s.heap a n ds o es ep t)(r:u6 X.K ρ H d v)(rv:aK v u)(D:da n d=b9)(c:d∈ds->Q (.there b8) s) (bk:N<10*(t.mask+15)) (F:(Ht.sq t.mask (A5 X.w n d) N).j∉t.place.toList) (ai:∀k,k<N->(Ht.sq t.mask (A5 X.w n d) k).j∈t.place.toList)(G:d∉ds->Q (.free (Ht.sq t.mask (A5 X.w n d) N).j c5) s):∀(fuel m:Nat) (stand:Option Ov),m<=N->N<m+fuel->stand.getD (t.probeStart<|A5 X.w n d)=Ht.sq t.mask (A5 X.w n d) m->(∀k i:Nat,k<m->t.place[i]?=b7 (Ht.sq t.mask (A5 X.w n d) k).j->ds[i]?≠b7 d) ->g7 (h7 X.prog X.w) A (setSearchFrom a u (A5 X.w n d) b9 fuel stand) Q E s:=by
 intro fuel;induction fuel with
 |zero=>intro m stand h1 h2;lia
 |succ fuel ih =>
  intro m stand h1 h2 hs hb;unfold setSearchFrom;refine t6<|Ny S.ob S.dt S.fits ?_;dsimp only;have gw:t.gaveWay=c5:=by unfold SetTable.gaveWay;rcases S.tk.msk with e|e|e<;>rw[e]<;>rfl
  rw[gw];simp only[B5,r9];rw[hs];rcases Ht.go_spec S.tk.ris S.tk.nod (λi=>(es[i]?.map (·.1)).getD 0) (A5 X.w n d) (10*Ps t.mask) m N h1 (by unfold Ps;lia) F (λk _ hk=>ai k hk) (Ht.sq_dummy _ _)with⟨z1,z2⟩|⟨m',i,a1,a2,a3,a4,a5,a6⟩
  generalize J:SetTable.probe t _ (A5 X.w n d) (Ht.sq t.mask (A5 X.w n d) m)=pr;obtain rfl:pr=_:=J.symm.trans z2;dsimp only;refine t8<|G λhd=>?_;obtain⟨i,hi⟩:=M9 hd;obtain⟨e,C,_,T,_⟩:=jM S.en hi;have g:es[i]?=b7 e:=by rw[<-G4];exact C
  have hh:(es.toList.map (·.1))[i]?=b7 (A5 X.w n d):=by rw[C6,C];exact t4 b7 T
  have hl:i<t.place.size:=by rw[S.tk.len];exact(z9.mp hh).1
  obtain⟨O,b1,b2⟩:=S.tk.path i _ t.place[i] hh<|G5 hl;have an:O<N:=by rcases O1 O N with q|q|q;exact q;subst q;exact p5 (show (Ht.sq t.mask (A5 X.w n d) O).j∈t.place.toList by rw[b1];simp) F;exact p5 (b2 N q) F
  have hp:t.place[i]?=b7 (Ht.sq t.mask (A5 X.w n d) O).j:=by rw[b1];exact G5 hl
  rcases ME O m with q|q;exact hb O i q hp hi;refine z1 O i q an hp ?_;rw[g];exact T;generalize J:SetTable.probe t _ (A5 X.w n d) (Ht.sq t.mask (A5 X.w n d) m)=pr;obtain rfl:pr=_:=J.symm.trans a6;dsimp only;have al:i<es.size:=by have:=(NA.mp a3).1;rw[S.tk.len,v4,E1]at this;exact this
  have l:es[i]?=b7 es[i]:=G5 al;obtain⟨p,PY,⟨v0,r0,W⟩,be,L,as⟩:=cE S.en (i:=i) (y:=es[i]) (by rw[G4];exact l);have Y:∀(f:Bool->Sem SetFound),g7 (h7 X.prog X.w) A (f c5) Q E s->g7 (h7 X.prog X.w) A (searchCouldBeSeen u ((es.filter (·.1==A5 X.w n d)).toList.map (·.2)) >>= f) Q E s:=λf hf=>by
   refine t6<|CW sm I hn r rv D hf _ λy hy=>?_;obtain⟨e,C,rfl⟩:=z6.mp hy;have aj:e∈es.toList:=by
    have:e∈es.filter (·.1==A5 X.w n d):=by simpa using C
    simpa using(Array.mem_filter.mp this).1
   obtain⟨j,hj⟩:=M9 aj;obtain⟨d1,_,⟨v1,r1,aS⟩,_,aD,_⟩:=cE S.en hj;exact⟨d1,v1,r1,aS,aD⟩
  have x:∃b,es[i].2=AB6 b:=by
   cases r0 with
   |tup _ _=>exact⟨_,W⟩
   |_=>cases as
  obtain⟨b,x⟩:=x;have U:Nf A s es[i].2 u (u7 M n p d):=(lD I sm n A p d v0 v es[i].2 u hu r0 W r rv (rC n p L)<|rC n d D).1;refine NV (λ_=>Y _ ?_) λ_=>?_;simp only[B5,r9];rw[l];dsimp only;refine t6<|E4<|U _ _ _ _<|t6<|Ny S.ob S.dt S.fits ?_;dsimp only;by_cases B:u7 M n p d=b9;rw[B];simp only[Bool.and_self,s9];have:p=d:=(jo n p d L D).mp B;subst this;exact t8<|c<|E6 PY;rw[NY.mpr B];simp only[QZ,B5,r9];have R:t.sameMemory t.moves t.mask=b7 b9:=by unfold SetTable.sameMemory;simp
  rw[R];dsimp only;simp only[s9];rw[Ht.slot_live S.tk.ris a3];dsimp only;rw[l];have P:g7 (h7 X.prog X.w) A (isSame es[i].2 es[i].2) (λb s'=>b=b9/\s'=s) E s:=by unfold isSame;rw[x];simp only[t5,s9];exact t8<|And.intro rfl rfl
  refine t6<|L7 P (λb s' ⟨Z,e2⟩=>?_) λ_ _ z=>z;subst Z e2;refine t6<|t8 ?_;simp only[s9];refine ih (m'+1) _ (by lia) (by lia) rfl λk i' hk hp h=>?_;rcases ME k m with q|q;exact hb k i' q hp h;rcases ME k m' with V|V;refine a5 k i' q V hp ?_;obtain⟨e,C,_,T,_⟩:=jM S.en h;have g:es[i']?=b7 e:=by rw[<-G4];exact C
  rw[g];exact T;have:k=m':=by lia
  subst this;have:i'=i:=by rw[<-Ht.below_at S.tk.ris hp,Ht.below_at S.tk.ris a3]
  subst this;rw[PY]at h;cases h;exact B<|(jo n d d D D).mpr rfl;rw[l];dsimp only;refine t6<|E4<|U _ _ _ _<|t6<|Ny S.ob S.dt S.fits ?_;dsimp only;by_cases B:u7 M n p d=b9;rw[B];simp only[Bool.and_self,s9];have:p=d:=(jo n p d L D).mp B;subst this;exact t8<|c<|E6 PY;rw[NY.mpr B];simp only[QZ,B5,r9];have R:t.sameMemory t.moves t.mask=b7 b9:=by unfold SetTable.sameMemory;simp
  rw[R];dsimp only;simp only[s9];rw[Ht.slot_live S.tk.ris a3];dsimp only;rw[l];have P:g7 (h7 X.prog X.w) A (isSame es[i].2 es[i].2) (λb s'=>b=b9/\s'=s) E s:=by unfold isSame;rw[x];simp only[t5,s9];exact t8<|And.intro rfl rfl
  refine t6<|L7 P (λb s' ⟨Z,e2⟩=>?_) λ_ _ z=>z;subst Z e2;refine t6<|t8 ?_;simp only[s9];refine ih (m'+1) _ (by lia) (by lia) rfl λk i' hk hp h=>?_;rcases ME k m with q|q;exact hb k i' q hp h;rcases ME k m' with V|V;refine a5 k i' q V hp ?_;obtain⟨e,C,_,T,_⟩:=jM S.en h;have g:es[i']?=b7 e:=by rw[<-G4];exact C
  rw[g];exact T;have:k=m':=by lia
  subst this;have:i'=i:=by rw[<-Ht.below_at S.tk.ris hp,Ht.below_at S.tk.ris a3]
  subst this;rw[PY]at h;cases h;exact B<|(jo n d d D D).mpr rfl
theorem Paired.ins{α β:Type}{R:α->β->Prop}{x:α}{y:β}(r:R x y):∀{xs:List α}{ys:List β} (p:Nat),Paired R xs ys->Paired R (xs.take p++x::xs.drop p) (ys.take p++y::ys.drop p)
 |_,_,0,h=>by simpa using .cons r h
 |_,_,p+1,.nil=>.cons r .nil
 |_,_,p+1,.cons h t=>.cons h<|Paired.ins r p t
theorem Paired.pick{α β:Type}{R:α->β->Prop}:∀{xs:List α}{ys:List β} (is:List Nat),Paired R xs ys->(∀i∈is,i<xs.length)->Paired R (is.filterMap (xs[·]?)) (is.filterMap (ys[·]?))
 |_,_,[],_,_=>.nil
 |xs,ys,i::is,h,hi=>by have hl:=hi i E3;have e:xs[i]?=b7 xs[i]:=w9 hl;obtain⟨y,hy,r⟩:=jM h e;rw[OC,OC,e,hy];exact .cons r<|Paired.pick is h λj hj=>hi j<|C7 _ hj
theorem pQ{α:Type}{l:List α}{is:List Nat}(h:is.Perm (C2 l.length)):(is.filterMap (l[·]?)).Perm l:=by
 have:=h.filterMap (l[·]?)
 rwa [List.filterMap_getElem?_range_length]at this
section
variable{X:Cx}{pins:List (d6×d7)}{σ:St}{H:Hp}{ρ:List d6}{M:u8}{A:f7}{E:c7->f8->Prop}{s:f8}{a:d6}{n:Nat}{ds:List D}{o:d7}{es:Array (Int×c7)}{ep:Nat}{t:o6}
def KS(X:Cx)(ρ:List d6)(H:Hp)(h:d8)(a:d6)(n:Nat)(ds:List D):Prop:=∃o es i t,KSet X ρ H h a n ds o es i t
set_option maxHeartbeats 1000000 in
theorem add_D(sm:v9 X.K ρ M H)(I:t9 X pins σ H s)(hn:n<=8)(hu:A.units+n+1<j8)(S:KS X ρ H s.heap a n ds)(bl:ds.length+1<=64)(r:u6 X.K ρ H d v)(rv:aK v u)(kd:da n d=b9)(it:gP d=b9)(h:∀b h' tk ds',(∀c u,c≠a->s.heap.get? c=b7 u->h'.get? c=b7 u)->KS X ρ H h' a n ds'->(∀x,x∈ds'↔x∈ds\/x=d)->ds'.length<=ds.length+1->Q b { s with heap:=h',toks:=tk }):g7 (h7 X.prog X.w) A (setAdd a u) Q E s:=by
 obtain⟨o,es,ep,t,S⟩:=S;obtain⟨R,rfl⟩:∃R,u=AB6 R:=by
  cases r with
  |tup _ _=>exact⟨_,rv⟩
  |_=>cases it
 unfold setAdd;refine E4<|t6<|Lx sm n A s d v _ _ _ (by lia) I r rv kd λtk=>?_;unfold setAddHashed setAddHashedIn;refine E4<|t6<|Ny (s:={ s with toks:=tk }) S.ob S.dt S.fits ?_;dsimp only;have bs:byScan (.ref R) es=c5:=rfl;rw[bs];simp only[B5,r9];obtain⟨N,ai,aj,al⟩:=S.tk.empty<|A5 X.w n d;have I1:t9 X pins σ H { s with toks:=tk }:=I.tok tk;unfold setSearch;refine t6<|Dj (s:={ s with toks:=tk }) sm I1 hn (by lia) S r rv kd (λhd=>?_) ai aj al (λhd=>?_) 100000 0 b8 (A9 _) ?_ rfl λk i hk=>p5 hk<|NH _;exact t8<|h _ s.heap tk ds (λ_ _ _ e=>e) ⟨o,es,ep,t,S⟩ (λx=>⟨.inl,λz=>z.elim id λe=>e ▸ hd⟩)<|Pk _;dsimp only;refine t6<|Ny (s:={ s with toks:=tk }) S.ob S.dt S.fits ?_;dsimp only;have J:=S.tk.len;rw[v4,E1]at J;have dl:ds.length=es.size:=by have:=Paired.length S.en;simpa using this
 have F:∀O:Bool,g7 (h7 X.prog X.w) A (do
   storeSet a (Rh es (t.put (Ht.sq t.mask (A5 X.w n d) N).j).2 (A5 X.w n d,AB6 R)) { (t.put (Ht.sq t.mask (A5 X.w n d) N).j).1 with plain:=O }
   if (!c5&&({ (t.put (Ht.sq t.mask (A5 X.w n d) N).j).1 with plain:=O }:o6).tooFull)=b9 then do
     setRelay a (OV<|es.size+1)
     pure b9
    else pure b9) Q E { s with toks:=tk }:=λO=>by
  obtain⟨pb,T⟩:=Ht.put_pre S.tk aj al O;have G:({ (t.put (Ht.sq t.mask (A5 X.w n d) N).j).1 with plain:=O }:o6).led=t.led:=rfl;have L:({ (t.put (Ht.sq t.mask (A5 X.w n d) N).j).1 with plain:=O }:o6).mask=t.mask:=rfl;generalize ({ (t.put (Ht.sq t.mask (A5 X.w n d) N).j).1 with plain:=O }:o6)=y at T G L;generalize (t.put (Ht.sq t.mask (A5 X.w n d) N).j).2=p at pb T;rw[v4,E1]at pb;have e1:(Rh es p (A5 X.w n d,AB6 R)).toList=es.toList.take p++(A5 X.w n d,AB6 R)::es.toList.drop p:=SetTable.toList_insertAt ..;generalize Rh es p (A5 X.w n d,AB6 R)=f at e1;have aS:f.toList.map (·.1)=(es.toList.map (·.1)).take p++A5 X.w n d::(es.toList.map (·.1)).drop p:=by rw[e1,Fn,B9,List.map_take,Qg]
  rw[<-aS]at T;have D:f.size=es.size+1:=by have:=t4 F8 e1;rw[E1,B6,D4,F6,L8,E1]at this;lia
  have Y:Paired (E8 X ρ H n) (ds.take p++d::ds.drop p) f.toList:=by rw[e1];exact Paired.ins ⟨⟨v,r,rv⟩,rfl,kd,it⟩ p S.en
  have U:(ds.take p++d::ds.drop p).Perm (d::ds):=by refine List.perm_middle.trans<|QX d ?_;rw[R8]
  have an:(ds.take p++d::ds.drop p).Nodup:=U.nodup_iff.mpr<|J5.mpr ⟨hd,S.nd⟩;have Z:y.fits f.size=b9:=by
   have l1:=T.len;rw[v4,E1]at l1;have h3:y.fill=y.place.size:=by unfold QW;rw[T.nod];rfl
   have fw:=S.tk.few;unfold Pp;rw[h3];simp only[D9,p8,p7];rw[J]at fw;rcases S.tk.msk with e|e|e<;>rw[L,e]<;>rw[e]at fw<;>lia
  have zz:f.size<=sizeLine:=by rw[Nl];lia
  refine t6<|wpAny_storeSet_of (s:={ s with toks:=tk }) S.ob S.dt ?_ zz;have C:(s.heap.update a<|Pi f y).get? a=b7 { o with data:=.set f (ep+1) y }:=by
   have q:=MB (Pi f y) S.ob<|by rw[putSet_of f y S.dt];rfl
   rwa [putSet_of f y S.dt]at q
  have as:∀c u,c≠a->s.heap.get? c=b7 u->(s.heap.update a<|Pi f y).get? c=b7 u:=λc u hc e=>(PH _ _<|A2 hc).trans e;by_cases tf:y.tooFull=b9;rw[tf];simp only[Bool.not_false,Bool.and_self,s9];have aD:((f.toList.map (·.1)).length-1)*5<y.mask*3:=by have fw:=S.tk.few;rw[J]at fw;rw[v4,E1,D,L];simpa using fw
  obtain⟨zl,W,m,g1,g2,T2,be⟩:=T.anew tf aD (by rw[v4,E1];lia);rw[v4,E1]at g2 zl;have eg:OV (es.size+1)=OV (f.toList.map (·.1)).length:=by rw[v4,E1,D]
  unfold setRelay;refine t6<|t6<|Ny (s:={ s with heap:=_,toks:=tk }) C rfl Z ?_;dsimp only;rw[eg];have nz:¬R0 (OV (f.toList.map (·.1)).length) > sizeLine:=by rw[v4,E1];lia
  simp only[nz,r9];have ea:f.map (·.1)=(f.toList.map (·.1)).toArray:=by apply Array.ext';simp
  rw[ea,g1];have B:(m.filterMap (f[·]?)).toList=m.toList.filterMap (f.toList[·]?):=by rw[Array.toList_filterMap];congr 1;funext i;rw[G4]
  have V:(m.filterMap (f[·]?)).size=f.size:=by have:=(pQ (l:=f.toList) (is:=m.toList)<|by rw[E1];exact g2).length_eq;rw[<-B,E1,E1]at this;exact this
  refine t6 (show g7 (h7 X.prog X.w) A (if ((m.filterMap (f[·]?)).size != f.size)=b9 then _ else pure (m.filterMap (f[·]?),W)) _ _ _ from ?_);rw[p4<|by rw[V];simp];refine t8 ?_;generalize m.filterMap (f[·]?)=g at B V;have P:(m.toList.filterMap ((ds.take p++d::ds.drop p)[·]?)).Perm (ds.take p++d::ds.drop p):=pQ (by
   have:(ds.take p++d::ds.drop p).length=f.size:=by rw[U.length_eq,D4,dl,D]
   rw[this];exact g2)
  refine wpAny_storeSet_of (s:={ s with heap:=_,toks:=tk }) C rfl ?_ (by rw[V];exact zz);have bk:((s.heap.update a<|Pi f y).update a<|Pi g W).get? a=b7 { o with data:=.set g (ep+1+1) W }:=by
   have q:=MB (Pi g W) C<|by rw[putSet_of g W (es:=f) (ep:=ep+1) (t:=y) rfl];rfl
   rwa [putSet_of g W (es:=f) (ep:=ep+1) (t:=y) rfl]at q
  refine t8 (h _ _ tk (m.toList.filterMap ((ds.take p++d::ds.drop p)[·]?)) (λc u hc e=>(PH _ _<|A2 hc).trans<|as c u hc e) ⟨_,g,_,W,bk,S.ex,rfl,?_,P.nodup_iff.mpr an,?_,be.trans<|G.trans S.ld⟩ (λx=>?_) ?_);rw[B];refine Paired.pick _ Y λi hi=>?_;have:=g2.mem_iff.mp hi;rw[G1]at this;rw[U.length_eq,D4,dl,<-D];exact this;have e2:g.toList.map (·.1)=m.toList.map λi=>(f.toList.map (·.1)).getD i 0:=by
   rw[B];have:∀(is:List Nat),(∀i∈is,i<f.toList.length)->(is.filterMap (f.toList[·]?)).map (·.1)=is.map λi=>(f.toList.map (·.1)).getD i 0:=by
    intro is;induction is with
    |nil=>intro _;rfl
    |cons i is ih=>intro hi;have hl:=hi i E3;rw[OC,w9 hl,B9,B9,ih λj hj=>hi j<|C7 _ hj];congr 1;rw[L1,C6,w9 hl];rfl
   refine this _ λi hi=>?_;have:=g2.mem_iff.mp hi;rw[G1]at this;rw[E1];exact this
  rw[e2];exact T2;rw[P.mem_iff,U.mem_iff,A3];exact⟨λz=>z.symm,λz=>z.symm⟩;rw[P.length_eq,U.length_eq];exact v6 _;rw[NY.mpr tf];simp only[QZ,B5,r9];refine t8<|h _ _ tk _ as ⟨_,f,_,y,C,S.ex,rfl,Y,an,T.ok<|NY.mpr tf,G.trans S.ld⟩ (λx=>?_) ?_;rw[U.mem_iff,A3];exact⟨λz=>z.symm,λz=>z.symm⟩;rw[U.length_eq];exact v6 _
 refine NV (λ_=>t6<|hbv_D sm n 8 A _ d v _ _ _ hn I1 r rv kd λb=>?_) λ_=>?_;cases b with
 |true=>exact F (t.put (Ht.sq t.mask (A5 X.w n d) N).j).1.plain
 |false=>exact F c5
 exact F (t.put (Ht.sq t.mask (A5 X.w n d) N).j).1.plain;have:=ai;rcases S.tk.msk with e|e|e<;>rw[e]at this<;>lia
end
theorem KS.at(x:KS X ρ H h a n ds)(k:∀o,h.get? a=b7 o->h'.get? a=b7 o):KS X ρ H h' a n ds:=by obtain⟨o,es,i,t,S⟩:=x;exact⟨o,es,i,t,k _ S.ob,S.ex,S.dt,S.en,S.nd,S.tk,S.ld⟩
theorem Hy(sm:v9 X.K ρ M H)(I:t9 X pins σ H s)(hn:n<=8)(hu:A.units+n+2<j8)(W:Walks X.prog X.w A.in1 J fp wr m P Sx)(S:d6)(f:S∉fp)(G:s.heap.get? S=b8) (B:∀b∈wr,s.heap.get? b=b8) (l:Nat->D) (y:∀i v,P i v->∃vv,u6 X.K ρ H (l i) vv/\aK vv v/\da n (l i)=b9/\gP (l i)=b9) (hb:m<=63):∀(k i:Nat) (h:d8) (tk:Nat) (ds:List D),m-i=k->i<=m->Sx i h->KS X ρ H h S n ds->(∀x,x∈ds↔∃j,j<i/\l j=x)->ds.length<=i->(∀b u,s.heap.get? b=b7 u->h.get? b=b7 u) ->(∀h' tk ds',(∀b u,s.heap.get? b=b7 u->h'.get? b=b7 u)->KS X ρ H h' S n ds'->(∀x,x∈ds'↔∃j,j<m/\l j=x)->ds'.length<=m->R (.ok<|.ret .none) { s with heap:=h',toks:=tk }) ->k5 (h7 X.prog X.w) A (.builtin "set.update.loop" ⟨[.ref S,.ref J],[]⟩) R { s with heap:=h,toks:=tk }:=by
 have g:S∉wr:=λh=>f<|W.sub _ h;intro k;induction k with
 |zero =>
  intro i h tk ds hk hi t E O U a Y;obtain rfl:i=m:=by lia
  refine NW F.entry_set_update_loop ?_;rw[Of F.plain_set_update_loop _];refine(show g7 (h7 X.prog X.w) A.in1 (j0 (.ref J) >>= _) _ _ _ from t6<|W.done _ _ _ t λh' tk d=>?_);refine t8<|Y h' tk ds (λb u e=>d b u (λz=>by rw[B b z]at e;cases e)<|a b u e) (E.at λo e=>d S o g e) O U
 |succ k ih=>intro i h tk ds hk hi t E O U a Y;refine NW F.entry_set_update_loop ?_;rw[Of F.plain_set_update_loop _];refine(show g7 (h7 X.prog X.w) A.in1 (j0 (.ref J) >>= _) _ _ _ from t6<|W.item i _ _ _ (by lia) t λv h' tk hP p d=>?_);obtain⟨vv,r,rv,kd,it⟩:=y i v hP;have c:∀b u,s.heap.get? b=b7 u->h'.get? b=b7 u:=λb u e=>d b u (λz=>by rw[B b z]at e;cases e)<|a b u e;have Z:t9 X pins σ H { s with heap:=h',toks:=tk }:=I.kept c;refine t6<|E4<|add_D (s:={ s with heap:=h',toks:=tk }) sm Z hn (by show A.units+1+n+1<j8;lia) (E.at λo e=>d S o g e) (by lia) r rv kd it λb h2 T C V L Q ai=>?_;refine t8 ⟨N9 F.plain_set_update_loop _,ih (i+1) h2 T C (by lia) (by lia) (W.frame _ h' h2 p λb' N o e=>V b' o (λz=>f<|z ▸ N) e) L (λx=>?_) (by lia) (λb u e=>V b u (λz=>by rw[z,G]at e;cases e)<|c b u e) Y⟩;rw[Q,O];constructor;rintro(⟨j,hj,e⟩|rfl);exact⟨j,by lia,e⟩;exact⟨i,by lia,rfl⟩;rintro⟨j,hj,rfl⟩;by_cases q:j=i;subst q;exact .inr rfl;exact .inl ⟨j,by lia,rfl⟩
theorem En(e:h.get? a=b7 (bj X.w)):KS X ρ H h a n []:=⟨_,#[],0,_,e,⟨rfl,rfl,rfl⟩,rfl,.nil,Pq,⟨.inl rfl,rfl,rfl,Rj,λj L=>by simp[SetTable.fresh]at L,(by show 0*5<7*3;decide),λi h j b=>by simp at b⟩,rfl⟩
section
theorem Ia(Z:v9 X.K ρ M H)(I:t9 X pins σ H s)(B:m<=8)(hu:A.units+m+3<j8){l:d6}{T:String}{n:Nat}{P:Nat->c7->Prop}{G:f8->Prop}(O:A.handled=b8)(K:TxSrc X.prog X.w s.heap l T n P)(a:Nat->D)(y:∀i v,P i v->∃vv,u6 X.K ρ H (a i) vv/\aK vv v/\da m (a i)=b9/\gP (a i)=b9)(N:n<=63)(h:∀h' tk ds,(∀b o,s.heap.get? b=b7 o->h'.get? b=b7 o)->KS X ρ H h' s.heap.objs.size m ds->(∀x,x∈ds↔∃j,j<n/\a j=x)->ds.length<=n->G { s with heap:=h',toks:=tk }):g7 (h7 X.prog X.w) A (Builtin.«set.__init__» ⟨[.ref s.heap.objs.size,.ref l],[]⟩) (λfin s'=>fin=.done (.ret .none)/\G s') E { s with heap:=s.heap.push (bj X.w) }:=by
 have S:(s.heap.push<|bj X.w).get? s.heap.objs.size=b7 (bj X.w):=A7 _ rfl;have hT:N7 { s with heap:=s.heap.push (bj X.w) } (.ref s.heap.objs.size) "set":=⟨_,S,rfl⟩
 obtain⟨F,f,r⟩:=K.obj;have c:(s.heap.push<|bj X.w).get? l=b7 F:=z5 _ f;have L:N7 { s with heap:=s.heap.push (bj X.w) } (.ref l) T:=⟨F,c,r⟩
 have Y:l<s.heap.objs.size:=A1 f;have J:(s.heap.push<|bj X.w).objs.size=s.heap.objs.size+1:=MF ..;obtain⟨oI,St,t,W,st⟩:=K.iter A.in1 { s with heap:=s.heap.push (bj X.w) } O λo e=>z5 _ e;have ns:=K.ns;have nf:=K.nf;have nd:=K.nd;unfold Builtin.«set.__init__» noKeywords Builtin.Frozenset.updateFrom;generalize d:j2=PI
 wp_walk
 subst d;refine wpAny_of_in1<|t _ _ ?_;have k:s.heap.objs.size∉[(s.heap.push<|bj X.w).objs.size,l]:=by rw[J];simp only[A3,No,or_false,not_or];exact⟨A4<|MG _,NF Y⟩
 have g:s.heap.get? s.heap.objs.size=b8:=by
  cases q:s.heap.get? s.heap.objs.size with
  |none=>rfl
  |some o=>exact p5 (A1 q)<|J4 _
 have C:∀b∈[(s.heap.push<|bj X.w).objs.size],s.heap.get? b=b8:=λb p=>by
  rw[K0.mp p,J];cases q:s.heap.get? (s.heap.objs.size+1) with
  |none=>rfl
  |some o=>exact p5 (A1 q)<|NO.mpr<|Pk _
 refine t6<|wpAny_runValue<|Hy (s:=s) Z I B (by first|exact(show A.units+m+2<j8 by lia)|exact(show A.units+1+m+2<j8 by lia)) W s.heap.objs.size k g C a y N n 0 _ _ [] rfl (A9 _) st (En<|z5 _ S) (λx=>by simp) (v6 _) (λb u e=>z5 _<|z5 _ e) λh' tk V Q z U R=>?_;exact t8<|t8 ⟨rfl,h h' tk V Q z U R⟩
set_option maxHeartbeats 1000000 in
theorem IP(C:v9 X.K ρ M H)(I:t9 X pins σ H s)(B:m<=8)(Z:A.units+m+20<j8){l:d6}{T:String}{n:Nat}{P:Nat->c7->Prop}{Q:c7->f8->Prop}(t:A.handled=b8)(K:TxSrc X.prog X.w s.heap l T n P)(a:Nat->D)(y:∀i v,P i v->∃vv,u6 X.K ρ H (a i) vv/\aK vv v/\da m (a i)=b9/\gP (a i)=b9)(p:n<=63)(h:∀h' tk ds,(∀b o,s.heap.get? b=b7 o->h'.get? b=b7 o)->KS X ρ H h' s.heap.objs.size m ds->(∀x,x∈ds↔∃j,j<n/\a j=x)->ds.length<=n->Q (.ref s.heap.objs.size) { s with heap:=h',toks:=tk }):g7 (h7 X.prog X.w) A (call (.type "set") [.ref l]) Q E s:=by
 have O:=F.called_set.made;have W:=F.called_set.sub;have U:=F.called_set.notType;have L:=F.called_set.canCreate;have Y:=F.typeCall_set_1<|.ref l;obtain⟨c,tl,V⟩:=F.called_set.mro;refine wpAny_call<|codeAny_of_tree<|show g7 _ _ (callAny (.type "set") _) _ _ _ from t8 ⟨Code.quiet_builtin _ (by decide +kernel),NW F.entry_type_call ?_⟩;rw[Around.under_plain (weight_type_call_type "set" [.ref l] []) rfl]
 repeat (any_goals (first|assumption|wp_step))
 refine Po (wG (.ref l) (E:=E) (Q₁:=λobj s₁=>obj=.ref s.heap.objs.size/\s₁={ s with heap:=s.heap.push (bj X.w) }) ⟨rfl,rfl⟩) λr s₁ hr=>?_
 match r,hr with
 |.error e,hr=>exact hr
 |.ok (.ret obj),⟨e1,e2⟩ =>
  subst e1 e2;have S:(s.heap.push<|bj X.w).get? s.heap.objs.size=b7 (bj X.w):=A7 _ rfl;have k:N7 { s with heap:=s.heap.push (bj X.w) } (.ref s.heap.objs.size) "set":=⟨_,S,rfl⟩
  have N:=F.called_set.init.lookup;have J:=F.called_set.init.bind<|.ref s.heap.objs.size
  repeat (any_goals (first|assumption|wp_step))
  refine Po (codeAny_call_builtin (R:=wants (λr s₂=>r=.none/\Q (.ref s.heap.objs.size) s₂) E) F.called_set.init.plain F.entry_set_init<|check_set_init_1 k ?_) λd s₂ hr₂=>?_;refine L7 (Ia (G:=λu=>Q (.ref s.heap.objs.size) u) C I B (by first|(show A.units+1+1+1+m+3<j8;lia)|(show A.units+1+1+m+3<j8;lia)|(show A.units+1+m+3<j8;lia)) (by simp[t]) K a y p h) (λf s' ⟨e,g⟩=>?_) λ_ _ z=>z;subst e;exact⟨rfl,g⟩
  ·match d,hr₂ with
   |.error e,hr₂=>exact hr₂
   |.ok (.ret r),⟨e,q⟩ =>
    subst e
    repeat (any_goals (first|assumption|wp_step))
end
def SqAt(M:u8)(d:D)(xs:List D):Prop:=(∃n,d=.ref n/\ak M n xs)\/d=.tup xs
theorem SrtOk.sub(h:SrtOk M xs)(s:∀y∈ys,y∈xs)(l:ys.length<64):SrtOk M ys:=by refine⟨l,λx a=>h.ok x<|s x a,λx a y O=>h.cm x (s x a) y<|s y O,?_⟩;rcases h.kd with k|k|k|k|k;exact .inl λx a=>k x<|s x a;exact .inr<|.inl λx a=>k x<|s x a;exact .inr<|.inr<|.inl λx a=>k x<|s x a;exact .inr<|.inr<|.inr<|.inl λx a=>k x<|s x a;exact .inr<|.inr<|.inr<|.inr λx a=>k x<|s x a
theorem Jv(I:t9 X pins σ H s)(m:v9 X.K ρ M H)(r:u6 X.K ρ H d v)(c:aK v u)(t:SqAt M d xs):∃(a:d6) (T:String) (its:Array c7) (vs:List V),u=.ref a/\TxSrc X.prog X.w s.heap a T its.size (λi v=>its[i]?=b7 v)/\Reps X.K ρ H xs vs/\ay vs its.toList:=by
 rcases t with⟨n,rfl,h⟩|rfl;cases r with
 |@ref _ a e=>cases c;obtain⟨vs,hs,f⟩:=h.seq m e;obtain⟨its,b,p,_⟩:=I.list hs;exact⟨a,_,its.toArray,vs,rfl,TxSrc.list p.isList,f,by simpa using b⟩
 cases r with
 |@tup a vs _ hs f=>cases c;obtain⟨its,b,p,_⟩:=I.tuple hs;exact⟨a,_,its.toArray,vs,rfl,TxSrc.tuple p,f,by simpa using b⟩
theorem qz{X:Cx}:∀{ds:List D}{vs:List V}{its:List c7}{i:Nat}{u:c7}{ρ:List d6}{H:Hp},Reps X.K ρ H ds vs->ay vs its->its[i]?=b7 u->∃d v,ds[i]?=b7 d/\u6 X.K ρ H d v/\aK v u
 |_,_,_,i,u,_,_,.nil,h,e=>by cases h;simp at e
 |_,_,_,0,u,_,_,.cons r _,h,e=>by
  cases h with
  |cons a _=>simp at e;subst e;exact⟨_,_,rfl,r,a⟩
 |_,_,_,i+1,u,_,_,.cons _ t,h,e=>by
  cases h with
  |cons _ b=>obtain⟨d,v,e1,r,rv⟩:=qz (i:=i) t b (by simpa using e);exact⟨d,v,by simpa using e1,r,rv⟩
theorem ents:∀{ds:List D}{es:List (Int×c7)},Paired (E8 X ρ H n) ds es->∃vs,Reps X.K ρ H ds vs/\ay vs (es.map (·.2))
 |_,_,.nil=>⟨[],.nil,.nil⟩
 |_,_,.cons ⟨⟨v,r,rv⟩,_⟩ t=>by obtain⟨vs,a,b⟩:=ents t;exact⟨v::vs,.cons r a,.cons rv b⟩
theorem AA{X:Cx}(p:us'.Perm us):∀{ds:List D}{vs:List V},Reps X.K ρ H ds vs->ay vs us->∃ds' vs',ds'.Perm ds/\Reps X.K ρ H ds' vs'/\ay vs' us':=by
 induction p with
 |nil=>intro ds vs r h;exact⟨ds,vs,.refl _,r,h⟩
 |cons x _ o =>
  intro ds vs r h;cases h with
  |cons a b =>
   cases r with
   |cons c d=>obtain⟨ds',vs',h1,h2,e⟩:=o d b;exact⟨_,_,h1.cons _,.cons c h2,.cons a e⟩
 |swap x y l =>
  intro ds vs r h;cases h with
  |cons a b =>
   cases b with
   |cons g j =>
    cases r with
    |cons c d =>
     cases d with
     |cons k m=>exact⟨_,_,.swap _ _ _,.cons k<|.cons c m,.cons g<|.cons a j⟩
 |trans _ _ i f=>intro ds vs r h;obtain⟨ds',vs',h1,h2,e⟩:=f r h;obtain⟨C,v,g1,n,g3⟩:=i h2 e;exact⟨C,v,g1.trans h1,n,g3⟩
def jU(te:x6):x6:=λS M Q=>te S M λd M1=>∃n xs,n<=8/\SqAt M1 d xs/\xs.length<64/\(∀x∈xs,da n x=b9/\gP x=b9)/\SrtOk M1 xs/\∀ys:List D,ys.Nodup->(∀x,x∈ys↔x∈xs)->Jh M1 ys->Q (.ref M1.length) (M1++[.lst ys])
section
set_option maxHeartbeats 1000000 in
theorem zj(hr:Room k X.A)(hc:X.calm=b9)(he:DE X e te)(W:X.mg "sorted" = b8)(Y:X.mg "set" = b8)(P:X.env.kindOf "sorted" = b7 .globalImplicit)(U:X.env.kindOf "set" = b7 .globalImplicit)(h1:i4 [e] X.env=[(c5,eval e X.env)]) (h2:i4 [Expr.Call (.Name "set" p') [e] [] pos'] X.env=[(c5,eval (Expr.Call (.Name "set" p') [e] [] pos') X.env)]):DE X (.Call (.Name "sorted" p) [.Call (.Name "set" p') [e] [] pos'] [] pos) (jU te):=by
 rintro pins s σ H R I ⟨S,M,ρ,Q,sm,sr,q,kk⟩;refine Qx<|lA I P W (by rfl) ?_;refine callWith_builtin1 ?_ (by rw[h2];rfl) rfl;rw[h2];refine R1 ?_;refine Qx<|lA I U Y (by rfl) ?_;refine callWith_type1 ?_ (by rw[h1];rfl) rfl;rw[h1];refine R1<|w6 (he pins s σ H _ I ⟨S,M,ρ,_,sm,sr,q,λv H' z=>z⟩) ?_;rintro u s1 ⟨v,H1,B,rv,d,M1,bw,c,g1,r1,cases⟩;refine Calls.spliced_nil ?_;obtain⟨n,xs,n8,sq,hl,hk,so,G⟩:=cases;obtain⟨a,T,its,ws,rfl,src,w,vx⟩:=Jv B c r1 rv sq;have li:its.size=xs.length:=by have h1:=vx.length;have h2:=w.length;simp at h1;lia
 have un:=hr.un;refine IP c B n8 (by lia) (B.ok.hd hc) src (λi=>xs.getD i .non) (λi v e=>?_) (by lia) λh2 f ds k2 l V aS=>?_;obtain⟨d,vv,e1,r,rv⟩:=qz w vx (by rw[G4];exact e);have F:xs.getD i .non=d:=by rw[L1,e1];rfl
 have:=hk d<|E6 e1;exact⟨vv,by rw[F];exact r,rv,by rw[F];exact this.1,by rw[F];exact this.2⟩;refine Calls.spliced_nil ?_;have E:=B.kept (t':=f) k2;obtain⟨o,es,ep,t,K⟩:=l;have be:ds.length=es.size:=by have:=K.en.length;simpa using this
 have hz:es.size<=sizeLine:=by rw[Nl];lia
 refine yB (s:={ s1 with heap:=h2,toks:=f }) (E.ok.hd hc) ⟨K.ob,K.dt,K.fits⟩ K.ex.1 (λz=>.inr K.tk.ris) K.ld hz λh3 bk dr D vs k3 J N pv=>?_;have h:∀x,x∈ds↔x∈xs:=λx=>by
  rw[V x,li];constructor;rintro⟨j,L,rfl⟩;have e:xs.getD j .non=xs[j]:=by simp[OQ,L]
  rw[e];exact Nn L;intro hx;obtain⟨j,L,e⟩:=QE hx;exact⟨j,L,by rw[show xs.getD j .non=xs[j] by simp[OQ,L]];exact e⟩
 obtain⟨bs,al,as⟩:=ents K.en;obtain⟨ds',bl,C,an,aD⟩:=AA pv al as;obtain⟨m,Z,_⟩:=E.loc;have O:D≠X.env.locals:=λz=>by obtain⟨oL,_,_,hL,_⟩:=Z;rw[z]at J;rw[J]at hL;cases hL
 have ai:h3.Ns X.env.locals m:=Z.at' λo e=>k3 _ _ e;refine Gq (X:=X) (pins:=pins) (σ:=σ) (s:={ s1 with heap:=h2,toks:=f,drawn:=dr }) (n:=0) hr (by show X.A.units+1<=X.A.units+4;lia) E.drew c (so.sub (ys:=ds') (λy hy=>(h y).mp<|C.mem_iff.mp hy)<|by rw[C.length_eq];lia).g an aD Z ai (λb u _ e=>k3 b u e) J O N λv H' x=>?_;refine kk v H' ?_;have:=x (λd M'=>Q d M') λys hp aj=>?_;obtain⟨d,M',ρ',a1,a2,a3,a4⟩:=this;exact⟨d,M',ρ',a1,g1.trans a2,a3,a4⟩;exact G ys ((hp.trans C).nodup_iff.mpr K.nd) (λx=>((hp.trans C).mem_iff).trans<|h x) aj
theorem zc(r:Room k X.A)(i:HE X e te)(W:X.mg "sorted" = b8)(Q:X.mg "set" = b8)(f:X.calm=b9:=by kernel_rfl)(P:X.env.kindOf "sorted" = b7 .globalImplicit:=by kernel_rfl)(U:X.env.kindOf "set" = b7 .globalImplicit:=by kernel_rfl)(h1:i4 [e] X.env=[(c5,eval e X.env)]:=by kernel_rfl) (h2:i4 [Expr.Call (.Name "set" p') [e] [] pos'] X.env=[(c5,eval (Expr.Call (.Name "set" p') [e] [] pos') X.env)]:=by kernel_rfl):HE X (.Call (.Name "sorted" p) [.Call (.Name "set" p') [e] [] pos'] [] pos) (jU te):=⟨zj r f i.ok W Q P U h1 h2⟩
end
def gg(h:d8):Nat->D->c7->Prop
 |_,.str x,v=>∃t,v=.str x t
 |_,.int i,v=>∃t,v=.int i t
 |n+1,.tup ds,v=>∃a its,v=.ref a/\h.IsTuple a its/\Paired (gg h n) ds its.toList
 |_,_,_=>False
noncomputable def PZ:Nat->D->Nat
 |n+1,.tup ds=>(ds.map<|PZ n).sum+1
 |_,_=>1
theorem jR:∀(n:Nat) (d:D) (v:c7),gg h n d v->da n d=b9:=by
 intro n;induction n with
 |zero=>intro d v k;cases d<;>first|rfl|exact k.elim
 |succ n b =>
  intro d v k;cases d with
  |str x=>rfl
  |int x=>rfl
  |tup ds =>
   obtain⟨a,its,_,_,p⟩:=k;show ds.all (da n)=b9;generalize its.toList=l at p;induction p with
   |nil=>rfl
   |cons r _ i=>rw[MX,b _ _ r,i];rfl
  |_=>exact k.elim
theorem wv{h:d8}{a:d6}{xs ys:Array c7}(h1:h.IsTuple a xs)(h2:h.IsTuple a ys):xs=ys:=by obtain⟨o,t,_,n,d⟩:=h1;obtain⟨o',l,_,f,b⟩:=h2;obtain rfl:o=o':=C0<|t.symm.trans l;rw[d]at b;injection b
theorem nZ{h:d8}:∀(n:Nat) (x y:D) (v:c7),gg h n x v->gg h n y v->x=y:=by
 intro n;induction n with
 |zero =>
  intro x y v B C;cases x with
  |str a =>
   obtain⟨t,rfl⟩:=B;cases y with
   |str b=>obtain⟨t',e⟩:=C;injection e with e;rw[e]
   |int b=>obtain⟨t',e⟩:=C;cases e
   |_=>exact C.elim
  |int a =>
   obtain⟨t,rfl⟩:=B;cases y with
   |str b=>obtain⟨t',e⟩:=C;cases e
   |int b=>obtain⟨t',e⟩:=C;injection e with e;rw[e]
   |_=>exact C.elim
  |_=>exact B.elim
 |succ n c =>
  intro x y v B C;cases x with
  |str a =>
   obtain⟨t,rfl⟩:=B;cases y with
   |str b=>obtain⟨t',e⟩:=C;injection e with e;rw[e]
   |int b=>obtain⟨t',e⟩:=C;cases e
   |tup b=>obtain⟨_,_,e,_⟩:=C;cases e
   |_=>exact C.elim
  |int a =>
   obtain⟨t,rfl⟩:=B;cases y with
   |str b=>obtain⟨t',e⟩:=C;cases e
   |int b=>obtain⟨t',e⟩:=C;injection e with e;rw[e]
   |tup b=>obtain⟨_,_,e,_⟩:=C;cases e
   |_=>exact C.elim
  |tup xs =>
   obtain⟨a,its,rfl,E,g⟩:=B;cases y with
   |str b=>obtain⟨t',e⟩:=C;cases e
   |int b=>obtain⟨t',e⟩:=C;cases e
   |tup ys =>
    obtain⟨_,i,e,F,j⟩:=C;cases e;obtain rfl:=wv E F;congr 1;generalize its.toList=l at g j;induction g generalizing ys with
    |nil=>cases j;rfl
    |cons r _ d=>cases j with
     |cons r' t'=>rw[c _ _ _ r r',d _ t']
   |_=>exact C.elim
  |_=>exact B.elim
theorem zb(k:∀a its,h.IsTuple a its->h'.IsTuple a its):∀(n:Nat) (d:D) (v:c7),gg h n d v->gg h' n d v:=by
 intro n;induction n with
 |zero=>intro d v q;cases d<;>first|exact q|exact q.elim
 |succ n i =>
  intro d v q;cases d with
  |str x=>exact q
  |int x=>exact q
  |tup ds=>obtain⟨a,its,e,t,p⟩:=q;exact⟨a,its,e,k _ _ t,Paired.mapP p λx y r=>i x y r⟩
  |_=>exact q.elim
theorem wt{es ep}(q:gg h n k v)(g:h.get? d=b7 o)(f:o.data=.dict es ep)(hs:I0 d h h'):gg h' n k v:=by
 refine zb (λa its ⟨o',e,c,m,t⟩=>?_) n k v q;have b:a≠d:=by rintro rfl;obtain rfl:o'=o:=C0<|e.symm.trans g;rw[f]at t;cases t
 exact⟨o',(hs.2 a b).trans e,c,m,t⟩
theorem pZ:∀(n:Nat) (A:f7) (s:f8) (d:D) (u:c7) (E:c7->f8->Prop) (Q:Int->f8->Prop),A.units+n<j8->gg s.heap n d u ->Q (A5 w n d) { s with toks:=s.toks+PZ n d }->g7 (h7 prog w) A (pyHash u) Q E s:=by
 intro n;induction n with
 |zero =>
  intro A s d u E Q r k h;cases d with
  |str x=>obtain⟨t,rfl⟩:=k;exact Qq h
  |int x=>obtain⟨t,rfl⟩:=k;exact Qr h
  |_=>exact k.elim
 |succ n v =>
  intro A s d u E Q r k h;cases d with
  |str x=>obtain⟨t,rfl⟩:=k;exact Qq h
  |int x=>obtain⟨t,rfl⟩:=k;exact Qr h
  |tup ds =>
   obtain⟨a,its,rfl,⟨o,m,j,R,q⟩,p⟩:=k;have T:s.TypeIs (.ref a) "tuple":=⟨o,m,j⟩
   unfold pyHash
   first|unfold pyHashByItsType|skip
   first|refine t6 (wpAny_cRoomFor_or (.inr<|by lia) ?_)|skip
   refine t6<|Ob T F.slot_tuple_hash.lookup ?_;refine(show g7 (h7 prog w) _ (if (b7 (Value.builtin "tuple.__hash__")==b7 ABQ)=b9 then _ else _) Q E s from ?_);rw[p4<|by rw[beq_builtin_none];exact M8];refine t6<|Ob T F.slot_tuple_hash.lookup ?_;refine(show g7 (h7 prog w) _ (callSpecialIfBoundUnlessNone? (.ref a) "__hash__" _ >>= _) Q E s from t6<|SW T F.slot_tuple_hash<|F9 F.slot_tuple_hash T F.entry_tuple_hash ?_<|F.args_tuple_hash_1 _);refine(show g7 (h7 prog w) _ (RD (.ref a) >>= _) _ _ s from t6<|wpAny_tupleItemsOf m q<|t6 ?_);rw[<-Py];refine Nw _ (λaL (b:Array Int) s'=>∃done left,ds=done++left/\Paired (gg s.heap n) left aL/\b.toList=done.map (A5 w n)/\s'={ s with toks:=s.toks+(done.map<|PZ n).sum }) _ ?_ ?_ _ _ ⟨[],ds,rfl,p,rfl,rfl⟩;rintro x aL b s' ⟨done,left,e,h1,f,rfl⟩;cases h1 with
   |@cons g _ c _ U J =>
    refine t6<|v _ _ g x _ _ (by show A.units+1+n<j8;lia) U ?_
    first
     |exact t8 ⟨done++[g],c,by rw[e];simp,J,by simp[f],by simp[Nat.add_assoc]⟩
     |exact t6 (t8 (t8 ⟨done++[g],c,by rw[e];simp,J,by simp[f],by simp[Nat.add_assoc]⟩))
   rintro b s' ⟨done,left,e,h1,f,rfl⟩;cases h1;rw[Nh]at e;subst e;refine(show g7 (h7 prog w) _ (retInt<|Pa b.toList) _ _ _ from ?_);rw[f];refine wpAny_ret_mkInt ?_;have l:A5 w (n+1) (.tup ds)=n6 (Pa<|ds.map<|A5 w n):=rfl;have h':Q (A5 w (n+1)<|.tup ds) { s with toks:=s.toks+(ds.map<|PZ n).sum+1 }:=h;generalize Pa (ds.map<|A5 w n)=z at l;refine(show g7 (h7 prog w) _ (if (decide (-(2:Int) ^ 63<=z)&&decide (z<2 ^ 63))=b9 then _ else _) Q E _ from ?_);unfold n6 at l;by_cases i:(decide (-(2:Int) ^ 63<=z)&&decide (z<2 ^ 63))=b9;rw[p0 i]at l ⊢;exact t8 (by rw[<-l];exact h');rw[p4 i]at l ⊢;exact t6<|Ix<|t8<|by rw[<-l];exact h'
  |_=>exact k.elim
theorem nY:∀(n k:Nat) (A:f7) (s:f8) (d:D) (u:c7) (E:c7->f8->Prop) (Q:Bool->f8->Prop),n<=k->gg s.heap n d u->Q b9 s->g7 (h7 prog w) A (o7 k u) Q E s:=by
 intro n;induction n with
 |zero =>
  intro k A s d u E Q c q h;cases d with
  |str x=>obtain⟨t,rfl⟩:=q;rw[Oz k (v:=.str x t) rfl];exact t8 h
  |int x=>obtain⟨t,rfl⟩:=q;rw[Oz k (v:=.int x t) rfl];exact t8 h
  |_=>exact q.elim
 |succ n e =>
  intro k A s d u E Q c q h;cases d with
  |str x=>obtain⟨t,rfl⟩:=q;rw[Oz k (v:=.str x t) rfl];exact t8 h
  |int x=>obtain⟨t,rfl⟩:=q;rw[Oz k (v:=.int x t) rfl];exact t8 h
  |tup ds =>
   obtain⟨a,its,rfl,⟨o,m,f,R,b⟩,p⟩:=q;obtain⟨k,rfl⟩:∃H,k=H+1:=⟨k-1,by lia⟩
   have T:s.TypeIs (.ref a) "tuple":=⟨o,m,f⟩
   unfold o7;refine t6<|Ob T F.slot_tuple_eq.lookup ?_;refine(show g7 (h7 prog w) A (isInstance (.ref a) (.type "tuple") >>= _) _ _ s from t6<|Oc T isSubtype_tuple_tuple ?_);simp only[Ng,B5,r9];refine t6<|MS m b ?_;simp only[Rb];refine t6 ?_;refine(show g7 (h7 prog w) A (forIn its _ _) _ _ s from ?_);rw[<-Py];refine Nw _ (λaL r s'=>r.1=b8/\s'=s/\∃left,Paired (gg s.heap n) left aL) _ ?_ ?_ _ _ ⟨rfl,rfl,ds,p⟩;rintro x aL r s' ⟨i,rfl,left,h1⟩;cases h1 with
   |cons U J=>refine t6<|e k _ _ _ x _ _ (by lia) U ?_;simp only[Ng,B5,r9];exact t8 ⟨rfl,rfl,_,J⟩
   rintro⟨r1,r2⟩ s' ⟨i,rfl,_⟩;simp only at i;subst i;exact t8 h
  |_=>exact q.elim
theorem lB{h:d8}{n:Nat}{ds:List D}{its:Array c7}(p:Paired (gg h n) ds its.toList):ds.length=its.size:=by
 rw[<-E1];generalize its.toList=l at p;induction p with
 |nil=>rfl
 |cons _ _ i=>rw[D4,D4,i]
theorem Eu:∀(n:Nat) (A:f7) (s:f8) (x y:D) (u v:c7),A.units+n<j8->gg s.heap n x u->gg s.heap n y v->Nf A s u v (u7 [] n x y):=by
 intro n;induction n with
 |zero =>
  intro A s x y u v E B C;cases x with
  |str a =>
   obtain⟨t,rfl⟩:=B;cases y with
   |str b=>obtain⟨t',rfl⟩:=C;exact Rn _ _ _ _
   |int b=>obtain⟨t',rfl⟩:=C;exact Qz _ _ _ _
   |_=>exact C.elim
  |int a =>
   obtain⟨t,rfl⟩:=B;cases y with
   |str b=>obtain⟨t',rfl⟩:=C;exact QA _ _ _ _
   |int b=>obtain⟨t',rfl⟩:=C;exact Ro _ _ _ _
   |_=>exact C.elim
  |_=>exact B.elim
 |succ n F =>
  intro A s x y u v E B C;have c:A.units<j8:=by lia
  have k:A.in1.units+n<j8:=by show A.units+1+n<j8;lia
  cases x with
  |str a =>
   obtain⟨t,rfl⟩:=B;cases y with
   |str b=>obtain⟨t',rfl⟩:=C;exact Rn _ _ _ _
   |int b=>obtain⟨t',rfl⟩:=C;exact Qz _ _ _ _
   |tup b=>obtain⟨_,_,rfl,l,_⟩:=C;exact SeqAt.EqAt.str_tuple _ _ l c
   |_=>exact C.elim
  |int a =>
   obtain⟨t,rfl⟩:=B;cases y with
   |str b=>obtain⟨t',rfl⟩:=C;exact QA _ _ _ _
   |int b=>obtain⟨t',rfl⟩:=C;exact Ro _ _ _ _
   |tup b=>obtain⟨_,_,rfl,l,_⟩:=C;exact SeqAt.EqAt.int_tuple _ _ l c
   |_=>exact C.elim
  |tup xs =>
   obtain⟨a,its,rfl,l,p⟩:=id B;cases y with
   |str b=>obtain⟨t',rfl⟩:=C;exact SeqAt.EqAt.tuple_str _ _ l c
   |int b=>obtain⟨t',rfl⟩:=C;exact SeqAt.EqAt.tuple_int _ _ l c
   |tup ys =>
    obtain⟨b,f,rfl,G,o⟩:=id C;by_cases S:a=b;subst S;have e:=nZ (n+1) _ _ _ B C;rw[e,(jo (M:=[]) (n+1) _ _ (jR _ _ _ C)<|jR _ _ _ C).mpr rfl];exact Q6 _;have Q:=lB p;have g:=lB o;have d:∀(j:Nat) (h1:j<its.size) (h2:j<f.size),Nf A.in1 s its[j] f[j] (u7 [] n (xs.getD j .non)<|ys.getD j .non):=λj h1 h2=>by
     obtain⟨q,w,H⟩:=cE p (i:=j) (y:=its[j]) (by rw[G4];exact G5 h1);obtain⟨r,z,I⟩:=cE o (i:=j) (y:=f[j]) (by rw[G4];exact G5 h2);have J:xs.getD j .non=q:=by rw[L1,w];rfl
     have K:ys.getD j .non=r:=by rw[L1,z];rfl
     rw[J,K];exact F A.in1 s q r _ _ k H I
    have m:((C2<|min its.size f.size).all (λj=>u7 [] n (xs.getD j .non)<|ys.getD j .non)&&its.size==f.size)=D6 (u7 [] n) xs ys:=by
     by_cases h:xs.length=ys.length;have W:(C2 xs.length).all (λj=>u7 [] n (xs.getD j .non)<|ys.getD j .non)=D6 (u7 [] n) xs ys:=oh h λj x y h1 h2=>by simp[OQ,h1,h2]
     rw[<-Q,<-g,<-h,Nat.min_self,W];simp;rw[BS h,<-Q,<-g];simp[h]
    have h1:=SeqAt.RcAt.tuples l G c d;rw[m]at h1;exact SeqAt.EqAt.of_refs S h1
   |_=>exact C.elim
  |_=>exact B.elim
noncomputable instance decD:DecidableEq D:=λa b=>K5<|a=b
noncomputable def aZ(prog:d5)(w:c9):HeapKind prog w D where
 is:=λh d a=>gg h 8 d<|.ref a
 hash:=A5 w 8
 draws:=PZ 8
 room:=λA=>A.units+8<j8
 inj:=λx y=>nZ 8 _ _ _ x y
 keeps:=λx m c hs=>wt x m c hs
 pyHash:=λg k h=>pZ 8 _ _ _ _ _ _ g k h
 eqBool:=λ{A E s x y a b Q} g k1 k2 h=>by
  refine Eu 8 A s x y _ _ g k1 k2 _ _ _ _ ?_;have e:u7 [] 8 x y=decide (x=y):=by rw[OW,jo 8 x y (jR _ _ _ k1)<|jR _ _ _ k2,p7]
  rw[e];exact h
 quiet:=λk h=>nY 8 8 _ _ _ _ _ _ (v6 _) k h
noncomputable def aG(kvs:List (D×D))(k:D):Option D:=(kvs.find? λp=>decide<|p.1=k).map (·.2)
noncomputable def gD(kvs:List (D×D))(k d:D):List (D×D):=if (aG kvs k).isSome then kvs.map (λp=>if p.1=k then(p.1,d)else p)else kvs++[(k,d)]
section
variable{K:u9}{ρ:List d6}{H:Hp}{M:u8}{kvs:List (D×D)}{xs:List (D×d6×c7)}
theorem pY(r:Paired (rZ K ρ H) kvs xs)(k:D):(aG kvs k=b8/\atKey xs k=b8)\/∃d p v,aG kvs k=b7 d/\atKey xs k=b7 p/\u6 K ρ H d v/\aK v p.2:=by
 unfold aG atKey;induction r with
 |nil=>exact .inl ⟨rfl,rfl⟩
 |@cons p q ps qs h t i=>obtain⟨h1,_,_,v,a,l⟩:=h;rw[ML,ML];by_cases e:p.1=k;rw[dT_ e,dT_<|h1.symm.trans e];exact .inr ⟨_,_,v,rfl,rfl,a,l⟩;rw[dF_ e,dF_<|λz=>e<|h1.trans z];exact i
theorem FP(r:Paired (rZ K ρ H) kvs xs)(n:da 8 k=b9)(o:u6 K ρ H k (.ref b))(f:u6 K ρ H d v)(g:aK v u):Paired (rZ K ρ H) (gD kvs k d) (storedH xs k b u):=by
 unfold gD storedH;have s:(aG kvs k).isSome=(atKey xs k).isSome:=by rcases pY r k with⟨a,l⟩|⟨_,_,_,a,l,_⟩<;>rw[a,l]<;>rfl
 rw[s];by_cases q:(atKey xs k).isSome=b9;rw[p0 q,p0 q];clear s q;induction r with
 |nil=>exact .nil
 |@cons p q ps qs h t i=>rw[B9,B9];refine .cons ?_ i;obtain⟨h1,h2,c,w,j,m⟩:=h;by_cases e:p.1=k;rw[p0 e,putAt,p0<|h1.symm.trans e];exact⟨h1,h2,c,v,f,g⟩;rw[p4 e,putAt,p4<|λz=>e<|h1.trans z];exact⟨h1,h2,c,w,j,m⟩
 rw[p4 q,p4 q];clear s q;induction r with
 |nil=>exact .cons ⟨rfl,n,o,v,f,g⟩ .nil
 |cons h t i=>exact .cons h i
theorem dH(r:Paired (rZ K ρ H) kvs xs):xs.map (·.1)=kvs.map (·.1):=by
 induction r with
 |nil=>rfl
 |cons h t i=>rw[B9,B9,i,h.1]
theorem ij:(gD kvs k d).length<=kvs.length+1:=by unfold gD;split;rw[v4];lia;rw[B6];exact v6 _
theorem B7.writtenX{a p:d6}{xs:List V}{φ:d5->c9->d8->Prop}{o:HO}(hp:H p=b7 (.ext φ))(h:B7 K H a xs):B7 K (x3 H p o) a xs:=by
 rcases h with h|h;rcases h with h|⟨b,h⟩
 exact .inl (.inl<|by rw[az<|yN h hp<|by intro z;cases z];exact h);exact .inl<|.inr ⟨b,by rw[az<|yN h hp<|by intro z;cases z];exact h⟩;exact .inr h
theorem v9.writeT(S:v9 K ρ M H)(t:ρ[n]?=b7 a)(u:M[n]?=b7 (.dkt kvs))(s:H a=b7 (.ext<|dX a xs))(w:kvs'.length<=sizeLine)(hs:(a==d9)=c5)(X:(kvs'.map (·.1)).Nodup)(r:Paired (rZ K ρ H) kvs' xs'):v9 K ρ (M.set n<|.dkt kvs') (x3 H a<|.ext<|dX a xs')/\Grow K ρ H ρ (x3 H a<|.ext<|dX a xs'):=by
 have g:Grow K ρ H ρ (x3 H a<|.ext<|dX a xs'):=⟨Oa,λ_ _ h=>B7.writtenX s h⟩
 have k:∀m,m≠n->(M.set n<|.dkt kvs')[m]?=M[m]?:=λm e=>Na<|A2 e;have c:¬MH M[n]?:=λ⟨_,z⟩=>by rw[u]at z;cases z
 refine⟨⟨λm l b i d f=>?_,by rw[NX];exact S.len,λm b o d f=>?_⟩,g⟩;have q:=S.nd m l b i d f;by_cases h1:m=n;subst h1;rw[k l<|A2 i];exact .inr<|q.resolve_left c;rw[k m h1];by_cases h2:l=n;subst h2;exact .inl<|q.resolve_right c;rw[k l h2];exact q;by_cases e:m=n;subst e;have j:b=a:=C0<|d.symm.trans t;subst j;rw[Nj<|by rw[<-S.len];exact(z9.mp t).1]at f;cases f;refine⟨w,hs,X,xs',aR,Paired.mapP r ?_⟩;rintro _ _ ⟨x,y,A,v,J,B⟩;exact⟨x,y,A.grow g,v,J.grow g,B⟩;rw[k m e]at f;by_cases j:b=a;subst j;have p:=(S.nd m n b e d t).resolve_right c;rw[f]at p;exact(S.obj m b o d f).grow g<|.inr p;exact(S.obj m b o d f).grow g<|.inl<|az j
end
theorem dE(I:t9 X pins σ H s):∀(n:Nat) (d:D) (v:V) (u:c7),u6 X.K ρ H d v->aK v u->da n d=b9->gg s.heap n d u:=by
 intro n;induction n with
 |zero =>
  intro d v u r b k;cases r with
  |str x=>exact b
  |int x=>exact b
  |_=>cases k
 |succ n e =>
  intro d v u r b k;cases r with
  |str x=>exact b
  |int x=>exact b
  |@tup a vs ds q f =>
   cases b;obtain⟨its,j,p,z⟩:=I.tuple q;have h:∀x∈ds,da n x=b9:=F0.mp<|show ds.all (da n)=b9 from k;refine⟨a,its.toArray,rfl,p,?_⟩;rw[List.toList_toArray];clear p q k z;induction j generalizing ds with
   |nil=>cases f;exact .nil
   |cons g l i =>
    cases f with
    |cons h1 E=>exact .cons (e _ _ _ h1 g<|h _ E3)<|i E λx c=>h x<|C7 _ c
  |_=>cases k
theorem lF{X:Cx}{pins:List (d6×d7)}{σ:St}{H:Hp}{s:f8}{ρ:List d6}{M:u8}(I:t9 X pins σ H s)(m:v9 X.K ρ M H){n:Nat}{a:d6}{kvs:List (D×D)}(e:ρ[n]?=b7 a)(u:M[n]?=b7 (.dkt kvs)):∃xs,H a=b7 (.ext<|dX a xs)/\Paired (rZ X.K ρ H) kvs xs/\s.heap.DictOfH (aZ X.prog X.w) a xs/\(a==d9)=c5/\kvs.length<=sizeLine/\xs.length=kvs.length/\(kvs.map (·.1)).Nodup:=by
 obtain⟨h1,h2,h,xs,b,r⟩:=m.obj _ _ _ e u;obtain⟨⟨o,es,t,l,Q,c⟩,_⟩:=(show bY X.prog X.w H s.heap a (.ext<|dX a xs)from I.hok a _ b)
 have Z:=dH r;refine⟨xs,b,r,⟨o,es,_,t,l,Q,c,λx d=>?_,by rw[Z];exact h⟩,h2,h1,?_,h⟩;obtain⟨i,hi⟩:=M9 d;obtain⟨p,_,q,j,k,_⟩:=cE r hi;rw[<-q];exact dE I 8 _ _ _ k rfl j;have:=t4 F8 Z
 rwa [v4,v4]at this
theorem wA(d:dX a xs P w h'):bY P w H' h' a (.ext<|dX a xs):=by obtain⟨o,es,t,l,Q,I⟩:=d;refine⟨⟨o,es,t,l,Q,I⟩,⟨o,t⟩,?_⟩;rintro h1 h2 ⟨o,es,t,l,Q,I⟩ k;exact⟨o,es,k _ t,l,Q,I⟩
theorem FZ(I:t9 X pins σ H s)(h:H a=b7 (.ext<|dX a xs)):dX a xs X.prog X.w s.heap:=(show bY X.prog X.w H s.heap a (.ext<|dX a xs)from I.hok a _ h).1
theorem setE(x:(aZ prog w).room A.in1)(t:(aZ prog w).is s.heap k b)(u:s.heap.DictOfH (aZ prog w) d xs) (y:dX d xs prog w s.heap) (hz:xs.length<=sizeLine)(n:∀h',dX d (storedH xs k b v) prog w h'->I0 d s.heap h'->Q () { s with heap:=h',toks:=s.toks+(aZ prog w).draws k }):g7 (h7 prog w) A (setItem (.ref d) (.ref b) v) Q E s:=by
 have T:=u.typeIs;obtain⟨_,_,_,_,_,_,_,g,f⟩:=u;obtain⟨o,es,m,r,h,c⟩:=y;have i:es.toList=xs.map (e7<|aZ prog w):=c;unfold setItem
 try with_reducible refine E4 ?_
 refine t6<|wpAny_sequenceKey T (by decide)<|t6<|MN (name:=u3 "__setitem__") T slot_dict_setitem<|F9 slot_dict_setitem T entry_dict_setitem ?_<|args_dict_setitem _ _ _;refine(show g7 (h7 prog w) _ (Builtin.Dict.notOrdered "__setitem__" ⟨[.ref d,.ref b,v],[]⟩ >>= _) _ _ s from t6<|OE T ?_);refine(show g7 (h7 prog w) _ (dictSet d (.ref b) v >>= _) _ _ s from t6 ?_);unfold dictSet
 try with_reducible refine E4 ?_
 refine t6<|(aZ prog w).pyHash x t ?_;unfold dictSetHashed
 try with_reducible refine E4 ?_
 have B:es.size=xs.length:=size_of_entries i;refine t6<|wpAny_dictFind_heap (s:={ s with toks:=s.toks+(aZ prog w).draws k }) x t m h i g f (λa=>?_) λj p L=>?_;refine t6<|Ix<|Rp (hz:=by lia) (s:={ s with toks:=s.toks+(aZ prog w).draws k }) m h<|t8 ⟨.none,rfl,t8<|n _ ⟨_,es.push ⟨(aZ prog w).hash k,.ref b,v⟩,MB _ m<|PB<|OD h _,r.mapDictKeys _,?_,?_⟩<|L9 ..⟩;rw[OD h,storedH_new<|Rg a,B6];rfl;rw[storedH_new<|Rg a];rw[Qv,i,Fn];rfl;refine t6<|Ix<|t6<|wpAny_updateDict (s:={ s with toks:=s.toks+(aZ prog w).draws k }) m h<|wpAny_point<|t8 ⟨.none,rfl,t8<|n _ ⟨_,es.modify j λe=>{ e with val:=v },MB _ m<|PB<|Ra h _,r.mapDict _,?_,?_⟩<|L9 ..⟩;rw[Ra h,storedH_old<|Pl f L,v4];rw[storedH_old<|Pl f L];have q:=modify_map_putAt (e7<|aZ prog w) (λe:n5=>{ e with val:=v }) k v (λ_ _=>rfl) f L;rw[<-i]at q;obtain⟨l⟩:=es;have z:(Array.modify ⟨l⟩ j λe:n5=>{ e with val:=v }).toList=(xs.map<|putAt k v).map (e7<|aZ prog w):=by simpa using q
 exact z
section
variable{X:Cx}{o i value:g8}{td ty tv:x6}{pos pos':Pos}{k:Nat}
def uO:x6:=λ_ M Q=>Q (.ref M.length)<|M++[.dkt []]
theorem Me:DE X (.Dict [] [] pos) uO:=by rintro p s σ H R I ⟨S,M,ρ,Q,m,b,q,C⟩;have f:H s.heap.objs.size=b8:=I.hok.fresh<|v6 _;have d:(s.heap.objs.size==d9)=c5:=beq_eq_false_iff_ne.mpr<|A2<|A4 I.big;refine wpAny_Dict_empty ⟨.ref s.heap.objs.size,_,I.laid (a:=s.heap.objs.size) (o:=.ext<|dX s.heap.objs.size []) (t':=s.toks) (λ_ _ q=>z5 _ q) (v6 _)<|wA ⟨_,#[],A7 _ rfl,⟨rfl,rfl,rfl⟩,rfl,rfl⟩,rfl,?_⟩;exact C _ _ ⟨.ref M.length,M++[.dkt []],ρ++[s.heap.objs.size],m.laidM (mo:=.dkt []) f ⟨A9 _,d,Pq,[],aR,.nil⟩,Grow.laidR f,.ref m.last,(show Q (.ref M.length) (M++[.dkt []])from q)⟩
def gf(t a:x6):x6:=λS M Q=>t S M λx M1=>a S M1 λy M2=>match x,y with
 |.ref n,.tup ks=>∃kvs d,M2[n]?=b7 (.dkt kvs)/\da 8 (.tup ks)=b9/\aG kvs (.tup ks)=b7 d/\Q d M2
 |_,_=>False
theorem Mf(P:Room k X.A)(O:DE X o td)(hi:DE X i ty)(hs:Gd i):DE X (.Subscript o i pos) (gf td ty):=by
 rintro c s σ H R I ⟨S,M,ρ,Q,sm,F,q,V⟩;have un:=P.un;refine vJ Sr.lookup hs<|w6 (O c s σ H _ I ⟨S,M,ρ,_,sm,F,q,λv H' z=>z⟩) ?_;rintro u s1 ⟨v,G,K,rv,x,M1,l,h,g1,Z,W⟩;refine w6 (hi c s1 σ G _ K ⟨S,M1,l,_,h,F.grow g1,W,λv H' z=>z⟩) ?_;rintro iv s2 ⟨w,J,f,g,y,M2,m,e,C,r2,j⟩;cases x with
 |ref n =>
  cases y with
  |tup E =>
   obtain⟨kvs,d,L,U,D,Y⟩:=j;obtain⟨a,rfl,N⟩:=u6.inv_ref Z;obtain rfl:u=AB6 a:=rv;obtain⟨xs,hH,r,B,T,hl,hx,_⟩:=lF f e (ao C.pre N) L;have t:=dE f 8 _ _ _ r2 g U;rcases pY r (.tup E)with⟨z,_⟩|⟨d',p,v',e1,e2,e3,e4⟩
   rw[D]at z;cases z;rw[D]at e1;cases e1;obtain⟨b,_,rfl,_⟩:=id t;refine⟨B.typeIs,wpAny_getItem_heap (knd:=aZ X.prog X.w) (k:=.tup E) (by show X.A.units+1+8<j8;lia) t B e2 ⟨v',J,f.tok _,e4,V _ _ ⟨d,M2,m,e,g1.trans C,e3,Y⟩⟩⟩
  |_=>exact j.elim
 |_=>exact j.elim
def om(d b t:x6):u4:=λE S M=>t S M λv M1=>d S M1 λx M2=>b S M2 λy a=>match x,y with
 |.ref n,.tup ks=>∃kvs,a[n]?=b7 (.dkt kvs)/\da 8 (.tup ks)=b9/\kvs.length<sizeLine/\E.nx S (a.set n<|.dkt<|gD kvs (.tup ks) v)
 |_,_=>False
theorem qJ(h:(kvs.map (·.1)).Nodup):((gD kvs y v).map (·.1)).Nodup:=by
 unfold gD;split;rw[D7];have:((λx:D×D=>x.1) ∘ λp:D×D=>if p.1=y then(p.1,v)else p)=λx=>x.1:=by funext p;show (if p.1=y then(p.1,v)else p).1=p.1;split<;>rfl
 rw[this];exact h;rename_i q;rw[Fn,List.map_singleton,OZ];refine⟨h,by simp,λa f b d=>?_⟩;rw[K0.mp d];rintro rfl;obtain⟨p,hp,e⟩:=z6.mp f;refine q ?_;unfold aG;rw[Rf,List.find?_isSome];exact⟨p,hp,by simpa using e⟩
theorem Iu(hr:Room k X.A)(ho:DE X o td)(hi:DE X i ty)(hv:DE X value tv)(hs:i7 value (b7<|.Subscript o i pos') pos.line X.env=pure c5):DS X (.Assign [.Subscript o i pos'] value pos) (om td ty tv):=by
 rintro p s σ H E I ⟨S,M,ρ,F,sm,j,q,kk⟩;have un:=hr.un;refine wpAny_Assign_Subscript (w6 (hv p s σ H _ I ⟨S,M,ρ,_,sm,j,q,λv H' z=>z⟩) λr s1 ⟨v,U,W,rv,dv,M1,G,C,g1,r1,q1⟩=>w6 (ho p s1 σ U _ W ⟨S,M1,G,_,C,j.grow g1,q1,λv H' z=>z⟩) λu s2 ⟨vx,V,Y,rx,x,M2,J,D,g,r2,q2⟩=>w6 (hi p s2 σ V _ Y ⟨S,M2,J,_,D,(j.grow g1).grow g,q2,λv H' z=>z⟩) ?_) hs;rintro iv s3 ⟨vy,H3,f,Q,y,M3,K,e,g3,P,B⟩;cases x with
 |ref n =>
  cases y with
  |tup O =>
   obtain⟨kvs,L,N,hl,q4⟩:=B;obtain⟨a,rfl,hn⟩:=u6.inv_ref r2;obtain rfl:u=AB6 a:=rx;have h:=ao g3.pre hn;obtain⟨xs,l,r,Z,T,_,hx,nd⟩:=lF f e h L;have t:=dE f 8 _ _ _ P Q N;obtain⟨b,_,rfl,_⟩:=id t;obtain⟨_,_,rfl,m,rr⟩:=u6.inv_tup P;cases Q;have r':=FP r N (.tup m rr) ((r1.grow g).grow g3) rv;have pl:=ij (kvs:=kvs) (k:=.tup O) (d:=dv);obtain⟨w1,R⟩:=e.writeT h L l (by have:=pl;lia) T (qJ nd) r';refine setE (k:=.tup O) (by show X.A.units+1+8<j8;lia) t Z (FZ f l) (by lia) λh' c w=>?_;have he:∃q,h'.get? a=b7 q:=let ⟨q,_,m,_⟩:=c;⟨q,m⟩
   exact⟨σ,_,rO f (by rw[l];exact NP) w he<|wA c,kk.nx σ _<|SQ.trans ((g1.trans g).trans g3) ⟨S,_,K,w1,R,(((j.grow g1).grow g).grow g3).grow R,q4⟩⟩
  |_=>exact B.elim
 |_=>exact B.elim
def QP(r:Nat->C5)(e:x6)(t:F5):x6:=λS M Q=>e S M λx M1=>match x with
 |.ref n=>(∃kvs,M1[n]?=b7 (.dkt kvs))/\t S M1 λds M2=>r n ds M2 Q
 |_=>False
variable{name:c8}{id:String}{e:g8}{es:List g8}{to:x6}{t:F5}{apos cpos:Pos}
theorem d_mt{r:Nat->C5}(slot:Slot "dict" name id)(y:m5 (.builtin id)=pure (.type "method_descriptor"))(P:G9 X id (iI X.K r))(T:DE X o to)(O:DA X (e::es) t)(c:m6 o name X.env (eval o X.env)=eval o X.env:=by rfl)(f:((i3 cpos<|i4 (e::es) X.env).all (λx=>!x.1)&&(m7 cpos<|m8 [] X.env).all (λx=>x.1.isSome) && decide ((e::es).length+([]:List m9).length+(if ([]:List m9).isEmpty then 0 else 1)<30))=b9:=by rfl)(d:(apos.endLine==cpos.line)=b9:=by rfl) (hs:i4 (e::es) X.env=(c5,eval e X.env)::i4 es X.env:=by rfl) (h:(i3 cpos<|i4 es X.env).any (·.1)=c5:=by rfl):DE X (.Call (.Attribute o name apos) (e::es) [] cpos) (QP r to t):=by
 rintro p s σ H R I ⟨S,M,ρ,Q,sm,F,q,V⟩;refine QH c f d rfl<|w6 (T p s σ H _ I ⟨S,M,ρ,_,sm,F,q,λv H' z=>z⟩) ?_;rintro u s1 ⟨v,G,A,rv,x,M1,l,j,g1,Z,g⟩;cases Z with
 |@ref n a E =>
  cases rv;obtain⟨⟨kvs,N⟩,g⟩:=(show (∃kvs,M1[n]?=b7 (.dkt kvs))/\t S M1 _ from g)
  obtain⟨xs,hH,r,B,U,hl,hx,nd⟩:=lF A j E N;refine⟨"dict",id,PJ,slot,y,B.typeIs,λb z=>?_,?_⟩;cases z;obtain⟨W,_,_,h1,h2,_⟩:=B;exact⟨W,h1,h2.2.1⟩;have D:=O cpos p s1 σ G _ A ⟨S,M1,l,_,j,F.grow g1,g,λvs H' z=>z⟩;rw[hs]at D ⊢;refine OF (by show (c5||(i3 cpos<|i4 es X.env).any (·.1))=c5;rw[h]<;>rfl)<|QF ?_;refine w6 D ?_;rintro us s2 ⟨vs,J,L,i,ds,M2,m,k,C,rr,Y⟩;exact P p s2 σ J (.ref a) vs (.ref a) us R L rfl i ⟨n,a,ds,M2,m,Q,rfl,ao C.pre E,k,rr,Y,λv H' w=>V v H'<|VQ.trans (g1.trans C) w⟩
 |_=>exact g.elim
def tU(n:Nat):C5:=λds M Q=>match ds with
 | [.tup ks,d]=>∃kvs,M[n]?=b7 (.dkt kvs)/\da 8 (.tup ks)=b9/\Q ((aG kvs<|.tup ks).getD d) M
 |_=>False
theorem DQ(o:Room k X.A):G9 X "dict.get" (iI X.K tU):=by
 rintro g s σ H x xs v us R I F E ⟨n,a,ds,M,ρ,Q,i,j,m,f,q,C⟩;have S:=o.un;unfold tU at q;split at q;rename_i e d;obtain⟨kvs,u,y,q⟩:=q
 first|have z:=Reps.inv_cons f|have z:=ay.inv_cons f
 clear f;obtain⟨_,_,rfl,B,f⟩:=z
 first|have z:=Reps.inv_cons f|have z:=ay.inv_cons f
 clear f;obtain⟨_,_,rfl,D,f⟩:=z;cases f;obtain⟨P,G,rfl,h,l⟩:=ay.two E;subst i;cases F;obtain⟨ys,J,r,c,T,L,N,O⟩:=lF I m j u;have t:=dE I 8 _ _ _ B h y;obtain⟨b,_,rfl,_⟩:=id t;refine Ot PD c.typeIs Sd (Sg _ _ _) (meetsH_dict_get_default (aZ X.prog X.w) a b T G) ⟨by show X.A.units+1+8<j8;lia,.tup e,ys,t,c,?_⟩;rcases pY r (.tup e)with⟨z1,z2⟩|⟨d',p,v',z1,z2,z3,z4⟩
 rw[z2];rw[z1]at q;exact⟨_,H,I.tok _,l,C _ _ ⟨d,M,ρ,m,.refl,D,q⟩⟩;rw[z2];rw[z1]at q;exact⟨_,H,I.tok _,z4,C _ _ ⟨d',M,ρ,m,.refl,z3,q⟩⟩;exact q.elim
end
def dL(h:d8)(d:d6)(es:Array n5)(ep:Nat):Prop:=∃o,h.get? d=b7 o/\o.ExactDict/\o.data=.dict es ep
theorem dL.ty{s:f8}{d:d6}{es:Array n5}{ep:Nat}(x:dL s.heap d es ep):s.TypeIs (.ref d) "dict":=by obtain⟨o,h1,h2,_⟩:=x;exact⟨o,h1,h2.1⟩
theorem dL.to(x:dL h d es ep)(k:∀o,h.get? d=b7 o->h'.get? d=b7 o):dL h' d es ep:=by obtain⟨o,h1,h2⟩:=x;exact⟨o,k o h1,h2⟩
theorem EW{Q:c7->f8->Prop}(h:(d==d9)=c5)(m:dL s.heap d es ep)(b:Q (.ref s.heap.objs.size) { s with heap:=s.heap.push { cls:=.type "dict_keyiterator",data:=.fields #[.ref d,.int 0 0,.int es.size 0,.int ep 0] } }):g7 (h7 prog w) A (j2<|.ref d) Q E s:=by have T:=m.ty;obtain⟨o,h1,h2,a⟩:=m;refine Qu T F.slot_dict_iter<|F9 F.slot_dict_iter T F.entry_dict_iter ?_<|F.args_dict_iter_1 _;unfold Builtin.«dict.__iter__»;refine t6 ?_;unfold Builtin.Dict.dictSlotNone;refine t6<|OE T<|t8 ?_;refine(show g7 (h7 prog w) _ (PC d >>= _) _ _ s from ?_);unfold PC;rw[h];refine t6<|t8<|t6<|Ni h1 a<|t6<|MY h1 a ?_;exact t6<|G3<|t8 ⟨_,rfl,"dict_keyiterator",_,⟨_,A7 _ rfl,rfl⟩,F.slot_dict_keyiterator_next.lookup,by simpa [j3]using b⟩
theorem EV(h:s.heap.IsKeyIter it d i es.size ep)(e:dL s.heap d es ep)(hi:i<es.size)(c:∀h',h'.IsKeyIter it d (i+1) es.size ep->I0 it s.heap h'->Q (b7 es[i].key) { s with heap:=h' }):g7 (h7 prog w) A (j0<|.ref it) Q E s:=by
 obtain⟨o,m,f,a⟩:=id h;obtain⟨j,B,C,k⟩:=id e;unfold j0;refine t6<|Nv<|MN (name:=u3 "__next__") h.typeIs F.slot_dict_keyiterator_next<|F9 F.slot_dict_keyiterator_next h.typeIs F.entry_dict_keyiterator_next ?_<|F.args_dict_keyiterator_next_1 _;refine t6<|t8<|t6<|t6 ?_
 first|refine t6 (RH h.typeIs<|t8<|t6<|MR m a ?_)|refine t6<|Rz h.typeIs<|t8<|t6<|MR m a ?_
 rw[show OK "dict_keyiterator" = c5 by decide];refine(show g7 (h7 prog w) _ (if (AB6 d==ABQ)=b9 then _ else _) _ _ s from ?_);rw[p4<|by exact M8];refine t6<|t8<|t6<|Ni B k ?_;rw[p4<|by simp];refine t6<|t8<|t6<|MY B k ?_;rw[p4<|by simp];refine t8 ?_;dsimp only;rw[p4 (show ¬((i:Int)<0)from by lia),J7,G5 hi];dsimp only;refine t6 ?_
 first|refine t6 (RH h.typeIs<|t8 ?_)|refine t6<|Rz h.typeIs<|t8 ?_
 refine t6<|wpAny_isOneOf_keyiter h.typeIs ?_;refine(show g7 (h7 prog w) _ (setField (.ref it) 1 (j3<|(i:Int)+1) >>= _) _ _ s from t6<|Nm m a (by simp) ?_);have b:(s.heap.update it (OU (·.setIfInBounds 1 (j3<|(i:Int)+1)))).IsKeyIter it d (i+1) es.size ep:=by refine⟨_,MB _ m<|R9<|Pz a _,(Obj.cls_mapFields ..).trans f,?_⟩;rw[Pz a];simp[j3]
 refine t6 (E4 (t6 (wpAny_isOneOf_keyiter (s:={ s with heap:=s.heap.update it (OU (·.setIfInBounds 1 (j3<|(i:Int)+1))) }) b.typeIs ?_)));refine(show g7 (h7 prog w) _ (pure es[i].key) _ _ _ from ?_);exact t8<|t8 ⟨_,rfl,t8<|c _ b<|L9 ..⟩
theorem Io(g:A.handled=b8)(h:s.heap.IsKeyIter it d es.size es.size ep)(i:dL s.heap d es ep)(f:∀h',Qe it s.heap h'->Q b8 { s with heap:=h' }):g7 (h7 prog w) A (j0<|.ref it) Q E s:=by
 obtain⟨o,e,j,c⟩:=id h;obtain⟨l,B,C,k⟩:=id i;unfold j0;refine t6<|Nv<|MN (name:=u3 "__next__") h.typeIs F.slot_dict_keyiterator_next<|F9 F.slot_dict_keyiterator_next h.typeIs F.entry_dict_keyiterator_next ?_<|F.args_dict_keyiterator_next_1 _;refine t6<|t8<|t6<|t6 ?_
 first|refine t6 (RH h.typeIs<|t8<|t6<|MR e c ?_)|refine t6<|Rz h.typeIs<|t8<|t6<|MR e c ?_
 rw[show OK "dict_keyiterator" = c5 by decide];refine(show g7 (h7 prog w) _ (if (AB6 d==ABQ)=b9 then _ else _) _ _ s from ?_);rw[p4<|by exact M8];refine t6<|t8<|t6<|Ni B k ?_;rw[p4<|by simp];refine t6<|t8<|t6<|MY B k ?_;rw[p4<|by simp];refine t8 ?_;dsimp only;rw[p4 (show ¬((es.size:Int)<0)from by lia),J7,O6<|v6 es.size];dsimp only;refine t6 ?_
 first|refine t6 (RH h.typeIs<|t8 ?_)|refine t6<|Rz h.typeIs<|t8 ?_
 refine(show g7 (h7 prog w) _ (setField (.ref it) 0 .none >>= _) _ _ s from t6<|Nm e c (by simp) ?_);refine(show g7 (h7 prog w) _ (newExc (.type "StopIteration") [] >>= _) _ _ _ from t6 ?_);simp only[newExc,newTuple];refine t6 (G3 ?_<|by size_fits);refine t6 (m:=o0 _ _)<|Pj (a:=ABQ) (by first|rfl|(simp only[o0];rfl)) ?_;refine G3 ?_ (by size_fits);simp only[raiseNew];refine t6<|Qh ?_;rw[show A.in1.handled=b8 from g];refine t6<|t8<|wpAny_throw ?_;refine t6<|Oc (b:=b9) (T:="StopIteration") ⟨_,A7 _ rfl,rfl⟩ Pu ?_;exact t8<|f _<|((L9 ..).extBut.push _).push _
noncomputable def Ite(a:d6)(n:Nat):It:=⟨λi H=>∃xs,H a=b7 (.ext<|dX a xs)/\xs.length=n/\i<n,λi H v H'=>H'=H/\∀xs,H a=b7 (.ext<|dX a xs)->∃x,xs[i]?=b7 x/\v=.ref x.2.1,λi H=>(∃xs,H a=b7 (.ext<|dX a xs)/\xs.length=n)/\i=n⟩
theorem lE(I:t9 X pins σ H s)(b:H a=b7 (.ext<|dX a xs)):∃es,dL s.heap a es xs.length/\es.size=xs.length/\∀(i:Nat) x,xs[i]?=b7 x->∃e,es[i]?=b7 e/\e.key=.ref x.2.1/\e.val=x.2.2:=by
 obtain⟨o,es,h1,h2,h,d⟩:=FZ I b;refine⟨es,⟨o,h1,h2,h⟩,?_,λi x c=>?_⟩;have:=t4 F8 d
 rwa [E1,v4]at this
 refine⟨⟨A5 X.w 8 x.1,.ref x.2.1,x.2.2⟩,?_,rfl,rfl⟩;rw[<-G4,d,C6,c];rfl
theorem rK(x:dL h a es ep)(y:dL h a es' ep'):es=es'/\ep=ep':=by obtain⟨o,h1,_,d⟩:=x;obtain⟨o',c,_,b⟩:=y;obtain rfl:o=o':=C0<|h1.symm.trans c;rw[d]at b;injection b with e1 e2;exact⟨e1,e2⟩
theorem Db{P:d5}{w:c9}{K:u9}{tg:g8}(a it:d6)(n:Nat):Turn P w K tg (Ite a n) [it] it (λi h=>h.IsKeyIter it a i n n) where
 mem:=by simp
 obj:=λi h st b f=>by
  obtain rfl:b=it:=by simpa using f
  obtain⟨o,e,c,d⟩:=st;exact⟨o,e,λv z=>by rw[d]at z;cases z⟩
 keep:=λi h h' st k=>st.at λo e=>k it (by simp) o e
 item:=by
  intro X J L G T i p s σ H E I m st R;subst J L G;obtain⟨xs,D,rfl,hi⟩:=R;obtain⟨es,F,l,S⟩:=lE I D;obtain⟨e,M,N,e3⟩:=S i xs[i]<|w9 hi;obtain⟨t,u,f2,x,B,C⟩:=m it (by simp);have g:i<es.size:=by lia
  have O:es[i]=e:=by rw[G5 g]at M;exact C0 M
  rw[<-l]at F st;refine EV st F g λh' j sb=>?_;rw[O,N];have W:t9 X p σ H { s with heap:=h' }:=I.turned (t':=s.toks) (λb o f e=>(sb.2 b f).trans e) t u x B C;obtain⟨o,q1,q2,q3⟩:=id j;refine⟨_,rfl,ww (s:={ s with heap:=h' }) q1 q2 q3 (by decide) ⟨.ref xs[i].2.1,H,W,rfl,⟨rfl,λys hy=>?_⟩,by rw[l]at j;exact j,λb f=>(m b f).1⟩⟩;obtain⟨Z,r,Y,q⟩:=lE I hy;obtain⟨rfl,ep⟩:=rK F r;have U:i<ys.length:=by lia
  obtain⟨e',V,y,_⟩:=q i ys[i]<|w9 U;rw[G5 g,O]at V;obtain rfl:=C0 V;rw[N]at y;injection y with y;exact⟨ys[i],w9 U,by rw[y]⟩
 done:=by intro X J L G T i p s σ H E I m st R;subst J L G;obtain⟨⟨xs,D,rfl⟩,rfl⟩:=R;obtain⟨es,F,l,S⟩:=lE I D;obtain⟨t,u,f2,x,B,C⟩:=m it (by simp);rw[<-l]at F st;exact Io (I.ok.hd T) st F λh' he=>⟨rfl,I.turned (t':=s.toks) (λb o f e=>he b o f e) t u x B C⟩
 self:=λA i s Q E st hQ=>wpAny_pyIter_keyiter st hQ
def xV(t:x6):MW:=λS M R=>t S M λd M1=>match d with
 |.ref n=>∃kvs,M1[n]?=b7 (.dkt kvs)/\(kvs.length<=sizeLine->R ⟨kvs.map (·.1),λM=>M[n]?=b7 (.dkt kvs)⟩ M1)
 |_=>False
theorem Fe{l:g8}{G:x6}(U:DE X l G):DI X tg l (xV G):=by
 intro j s σ H R I h;obtain⟨S,M,ρ,Q,sm,sr,q,k⟩:=h;refine w6 (U j s σ H _ I ⟨S,M,ρ,_,sm,sr,q,λv H' w=>w⟩) ?_;rintro u B ⟨v,E,c,rv,d,M1,D,t,g1,Z,F⟩;cases Z with
 |@ref n a A =>
  cases rv;obtain⟨kvs,N,Y⟩:=(show ∃kvs,M1[n]?=b7 (.dkt kvs)/\(kvs.length<=sizeLine->Q ⟨kvs.map (·.1),λM=>M[n]?=b7 (.dkt kvs)⟩ M1)from F)
  obtain⟨xs,L,r,dd,T,V,hx,nd⟩:=lF c t A N;obtain⟨es,K,J,_⟩:=lE c L;refine EW T K ?_;rw[J];refine⟨B.heap.objs.size,[B.heap.objs.size],_,_,E,rfl,c.kept (t':=B.toks) λb o e=>z5 _ e,Db a _ xs.length,⟨_,A7 _ rfl,rfl,rfl⟩,λb P=>?_,k _ E ⟨⟨kvs.map (·.1),λM=>M[n]?=b7 (.dkt kvs)⟩,M1,D,t,g1,?_,Y V⟩⟩;obtain rfl:b=B.heap.objs.size:=by simpa using P
  exact c.fpOk (v6 _)<|c.hok.fresh<|v6 _;refine⟨λi ρ' M' H' s' g ok hi=>?_,λi ρ' M' H' x H2 s' g ok hi y=>?_,λρ' M' H' s' g ok=>?_⟩;obtain⟨_,_,_,ys,O,m⟩:=s'.obj _ _ _ (ao g.pre A) ok;have W:ys.length=kvs.length:=by have:=t4 F8<|dH m;rwa [v4,v4]at this
  exact⟨ys,O,by lia,by rw[v4]at hi;lia⟩;obtain⟨rfl,f⟩:=y;obtain⟨_,_,_,ys,O,m⟩:=s'.obj _ _ _ (ao g.pre A) ok;obtain⟨z,C,rfl⟩:=f ys O;obtain⟨p,hp,_,_,rp,_⟩:=cE m C;exact⟨p.1,ρ',by rw[C6,hp];rfl,s',.refl,rp⟩;obtain⟨_,_,_,ys,O,m⟩:=s'.obj _ _ _ (ao g.pre A) ok;have W:ys.length=kvs.length:=by have:=t4 F8<|dH m;rwa [v4,v4]at this
  exact⟨⟨ys,O,by lia⟩,by rw[v4];lia⟩
 |_=>exact F.elim
theorem zi(a:(d==d9)=c5)(m:dL s.heap d es ep)(b:Q (.ref s.heap.objs.size) { s with heap:=s.heap.push { cls:=.type "dict_values",data:=.fields #[.ref d] } }):g7 (h7 prog w) A (call (.builtin "dict.values") [.ref d]) Q E s:=by refine Ot PySem.F.slot_dict_values m.ty PySem.F.entry_dict_values (PySem.F.args_dict_values_1 _) (S:=λ_ R s'=>s'=s/\R (.ok<|.ret<|.ref s.heap.objs.size) { s with heap:=s.heap.push { cls:=.type "dict_values",data:=.fields #[.ref d] } }) (.of_wp ?_) ⟨rfl,b⟩;rintro A R s' ⟨rfl,h⟩;refine t6 ?_;unfold Builtin.Dict.noArgs;refine t6<|OE m.ty<|t8 ?_;refine(show g7 (h7 prog w) _ (PC d >>= _) _ _ s' from ?_);unfold PC;rw[a];exact t6<|t8<|t6<|G3<|t8 ⟨_,rfl,h⟩
theorem BV(c:s.heap.IsValuesView v d)(m:dL s.heap d es ep)(b:Q (.ref s.heap.objs.size) { s with heap:=s.heap.push { cls:=.type "dict_valueiterator",data:=.fields #[.ref d,.int 0 0,.int es.size 0,.int ep 0] } }):g7 (h7 prog w) A (j2<|.ref v) Q E s:=by obtain⟨g,e,P,f⟩:=id c;obtain⟨o,h1,h2,a⟩:=m;refine Qu c.typeIs F.slot_dict_values_iter<|F9 F.slot_dict_values_iter c.typeIs F.entry_dict_values_iter ?_<|F.args_dict_values_iter_1 _;unfold Builtin.«dict_values.__iter__»;refine t6<|t8<|t6 ?_;unfold SF;refine t6<|J3 e f (x:=.ref d) rfl<|t8<|t6 ?_;unfold SL;refine t6<|Ni h1 a<|t6<|MY h1 a ?_;simp only[show OK "dict_valueiterator" = c5 by decide,B5,r9];exact G3<|t8 ⟨_,rfl,"dict_valueiterator",_,⟨_,A7 _ rfl,rfl⟩,F.slot_dict_valueiterator_next.lookup,by simpa [j3]using b⟩
theorem BU(h:s.heap.IsValIter it d i es.size ep)(e:dL s.heap d es ep)(hi:i<es.size)(c:∀h',h'.IsValIter it d (i+1) es.size ep->I0 it s.heap h'->Q (b7 es[i].val) { s with heap:=h' }):g7 (h7 prog w) A (j0<|.ref it) Q E s:=by
 obtain⟨o,m,f,a⟩:=id h;obtain⟨j,B,C,k⟩:=id e;unfold j0;refine t6<|Nv<|MN (name:=u3 "__next__") h.typeIs F.slot_dict_valueiterator_next<|F9 F.slot_dict_valueiterator_next h.typeIs F.entry_dict_valueiterator_next ?_<|F.args_dict_valueiterator_next_1 _;refine t6<|t8<|t6<|t6 ?_
 first|refine t6 (RG h.typeIs<|t8<|t6<|MR m a ?_)|refine t6<|Ry h.typeIs<|t8<|t6<|MR m a ?_
 rw[show OK "dict_valueiterator" = c5 by decide];refine(show g7 (h7 prog w) _ (if (AB6 d==ABQ)=b9 then _ else _) _ _ s from ?_);rw[p4<|by exact M8];refine t6<|t8<|t6<|Ni B k ?_;rw[p4<|by simp];refine t6<|t8<|t6<|MY B k ?_;rw[p4<|by simp];refine t8 ?_;dsimp only;rw[p4 (show ¬((i:Int)<0)from by lia),J7,G5 hi];dsimp only;refine t6 ?_
 first|refine t6 (RG h.typeIs<|t8 ?_)|refine t6<|Ry h.typeIs<|t8 ?_
 refine t6<|R7 h.typeIs ?_;refine(show g7 (h7 prog w) _ (setField (.ref it) 1 (j3<|(i:Int)+1) >>= _) _ _ s from t6<|Nm m a (by simp) ?_);have b:(s.heap.update it (OU (·.setIfInBounds 1 (j3<|(i:Int)+1)))).IsValIter it d (i+1) es.size ep:=by refine⟨_,MB _ m<|R9<|Pz a _,(Obj.cls_mapFields ..).trans f,?_⟩;rw[Pz a];simp[j3]
 refine t6 (E4 (t6 (R7 (s:={ s with heap:=s.heap.update it (OU (·.setIfInBounds 1 (j3<|(i:Int)+1))) }) b.typeIs (t6 (R7 (s:={ s with heap:=s.heap.update it (OU (·.setIfInBounds 1 (j3<|(i:Int)+1))) }) b.typeIs ?_)))));refine(show g7 (h7 prog w) _ (pure es[i].val) _ _ _ from ?_);exact t8<|t8 ⟨_,rfl,t8<|c _ b<|L9 ..⟩
theorem EU(g:A.handled=b8)(h:s.heap.IsValIter it d es.size es.size ep)(i:dL s.heap d es ep)(f:∀h',Qe it s.heap h'->Q b8 { s with heap:=h' }):g7 (h7 prog w) A (j0<|.ref it) Q E s:=by
 obtain⟨o,e,j,c⟩:=id h;obtain⟨l,B,C,k⟩:=id i;unfold j0;refine t6<|Nv<|MN (name:=u3 "__next__") h.typeIs F.slot_dict_valueiterator_next<|F9 F.slot_dict_valueiterator_next h.typeIs F.entry_dict_valueiterator_next ?_<|F.args_dict_valueiterator_next_1 _;refine t6<|t8<|t6<|t6 ?_
 first|refine t6 (RG h.typeIs<|t8<|t6<|MR e c ?_)|refine t6<|Ry h.typeIs<|t8<|t6<|MR e c ?_
 rw[show OK "dict_valueiterator" = c5 by decide];refine(show g7 (h7 prog w) _ (if (AB6 d==ABQ)=b9 then _ else _) _ _ s from ?_);rw[p4<|by exact M8];refine t6<|t8<|t6<|Ni B k ?_;rw[p4<|by simp];refine t6<|t8<|t6<|MY B k ?_;rw[p4<|by simp];refine t8 ?_;dsimp only;rw[p4 (show ¬((es.size:Int)<0)from by lia),J7,O6<|v6 es.size];dsimp only;refine t6 ?_
 first|refine t6 (RG h.typeIs<|t8 ?_)|refine t6<|Ry h.typeIs<|t8 ?_
 refine(show g7 (h7 prog w) _ (setField (.ref it) 0 .none >>= _) _ _ s from t6<|Nm e c (by simp) ?_);refine(show g7 (h7 prog w) _ (newExc (.type "StopIteration") [] >>= _) _ _ _ from t6 ?_);simp only[newExc,newTuple];refine t6 (G3 ?_<|by size_fits);refine t6 (m:=o0 _ _)<|Pj (a:=ABQ) (by first|rfl|(simp only[o0];rfl)) ?_;refine G3 ?_ (by size_fits);simp only[raiseNew];refine t6<|Qh ?_;rw[show A.in1.handled=b8 from g];refine t6<|t8<|wpAny_throw ?_;refine t6<|Oc (b:=b9) (T:="StopIteration") ⟨_,A7 _ rfl,rfl⟩ Pu ?_;exact t8<|f _<|((L9 ..).extBut.push _).push _
noncomputable def Itv(a:d6)(n:Nat):It:=⟨λi H=>∃xs x v,H a=b7 (.ext<|dX a xs)/\xs.length=n/\xs[i]?=b7 x/\aK v x.2.2,λi H v H'=>H'=H/\∀xs,H a=b7 (.ext<|dX a xs)->∃x,xs[i]?=b7 x/\aK v x.2.2,λi H=>(∃xs,H a=b7 (.ext<|dX a xs)/\xs.length=n)/\i=n⟩
theorem zE{P:d5}{w:c9}{K:u9}{tg:g8}(a it:d6)(n:Nat):Turn P w K tg (Itv a n) [it] it (λi h=>h.IsValIter it a i n n) where
 mem:=by simp
 obj:=λi h st b f=>by
  obtain rfl:b=it:=by simpa using f
  obtain⟨o,e,c,d⟩:=st;exact⟨o,e,λv z=>by rw[d]at z;cases z⟩
 keep:=λi h h' st k=>st.at λo e=>k it (by simp) o e
 item:=by
  intro X L M J T i p s σ H E I m st R;subst L M J;obtain⟨xs,x,v,G,rfl,hx,V⟩:=R;obtain⟨es,F,l,S⟩:=lE I G;obtain⟨e,t,e2,N⟩:=S i x hx;obtain⟨u,y,f2,B,C,D⟩:=m it (by simp);have g:i<es.size:=(NA.mp t).1;have O:es[i]=e:=by rw[G5 g]at t;exact C0 t
  rw[<-l]at F st;refine BU st F g λh' j sb=>?_;rw[O,N];have Z:t9 X p σ H { s with heap:=h' }:=I.turned (t':=s.toks) (λb o f e=>(sb.2 b f).trans e) u y B C D;obtain⟨o,q1,q2,q3⟩:=id j;refine⟨_,rfl,ww (s:={ s with heap:=h' }) q1 q2 q3 (by decide) ⟨v,H,Z,V,⟨rfl,λys hy=>?_⟩,by rw[l]at j;exact j,λb f=>(m b f).1⟩⟩;obtain⟨aj,r,ai,q⟩:=lE I hy;obtain⟨rfl,ep⟩:=rK F r;have U:i<ys.length:=by lia
  obtain⟨e',W,_,Y⟩:=q i ys[i]<|w9 U;rw[G5 g,O]at W;obtain rfl:=C0 W;rw[N]at Y;exact⟨ys[i],w9 U,by rw[<-Y];exact V⟩
 done:=by intro X L M J T i p s σ H E I m st R;subst L M J;obtain⟨⟨xs,G,rfl⟩,rfl⟩:=R;obtain⟨es,F,l,S⟩:=lE I G;obtain⟨u,y,f2,B,C,D⟩:=m it (by simp);rw[<-l]at F st;exact EU (I.ok.hd T) st F λh' he=>⟨rfl,I.turned (t':=s.toks) (λb o f e=>he b o f e) u y B C D⟩
 self:=λA i s Q E st hQ=>wpAny_pyIter_valiter st hQ
def uN(e:x6):MW:=λS M R=>e S M λd M1=>match d with
 |.ref n=>∃kvs,M1[n]?=b7 (.dkt kvs)/\(kvs.length<=sizeLine->R ⟨kvs.map (·.2),λM=>M[n]?=b7 (.dkt kvs)⟩ M1)
 |_=>False
theorem Fd(ho:DE X o to)(j:m6 o "values" X.env (eval o X.env)=eval o X.env:=by rfl)(l:(apos.endLine==cpos.line)=b9:=by rfl):DI X tg (.Call (.Attribute o "values" apos) [] [] cpos) (uN to):=by
 intro c s σ H R I h;obtain⟨S,M,ρ,Q,sm,sr,q,k⟩:=h;refine Sj j l<|w6 (ho c s σ H _ I ⟨S,M,ρ,_,sm,sr,q,λv H' w=>w⟩) ?_;rintro u C ⟨v,E,J,B,d,M1,P,D,g1,r1,Y⟩;cases r1 with
 |@ref n a G =>
  cases B;obtain⟨kvs,hM,q2⟩:=(show ∃kvs,M1[n]?=b7 (.dkt kvs)/\(kvs.length<=sizeLine->Q ⟨kvs.map (·.2),λM=>M[n]?=b7 (.dkt kvs)⟩ M1)from Y)
  obtain⟨xs,hH,r,U,T,hz,hx,nd⟩:=lF J D G hM;obtain⟨es,V,Z,_⟩:=lE J hH;refine⟨"dict","dict.values",PJ,PySem.F.slot_dict_values,PySem.F.type_dict_values,U.typeIs,λb z=>?_,OF rfl<|R4<|zi T V ?_⟩;cases z;obtain⟨ob,_,_,h1,h2,_⟩:=U;exact⟨ob,h1,h2.2.1⟩;have t:t9 X c σ E { C with heap:=C.heap.push { cls:=.type "dict_values",data:=.fields #[.ref a] } }:=J.kept (t':=C.toks) λb o e=>z5 _ e;have K:dL ({ C with heap:=C.heap.push { cls:=.type "dict_values",data:=.fields #[.ref a] } }:f8).heap a es xs.length:=V.to λo e=>z5 _ e;refine BV (d:=a) ⟨_,A7 _ rfl,rfl,rfl⟩ K ?_;rw[Z];have L:∀f:f8,t9 X c σ E f->P7 X c σ tg R (.ref f.heap.objs.size) { f with heap:=f.heap.push { cls:=.type "dict_valueiterator",data:=.fields #[.ref a,.int 0 0,.int xs.length 0,.int xs.length 0] } }:=λf t=>by
   refine⟨f.heap.objs.size,[f.heap.objs.size],_,_,E,rfl,t.kept (t':=f.toks) λb o e=>z5 _ e,zE a _ xs.length,⟨_,A7 _ rfl,rfl,rfl⟩,λb hb=>?_,k _ E ⟨⟨kvs.map (·.2),λM=>M[n]?=b7 (.dkt kvs)⟩,M1,P,D,g1,?_,q2 hz⟩⟩;obtain rfl:b=f.heap.objs.size:=by simpa using hb
   exact t.fpOk (v6 _)<|t.hok.fresh<|v6 _;refine⟨λi ρ' M' H' s' g ok hi=>?_,λi ρ' M' H' x H2 s' g ok hi y=>?_,λρ' M' H' s' g ok=>?_⟩;obtain⟨_,_,_,ys,O,m⟩:=s'.obj _ _ _ (ao g.pre G) ok;have ly:ys.length=kvs.length:=by have:=t4 F8<|dH m;rwa [v4,v4]at this
   rw[v4]at hi;have W:i<ys.length:=by lia
   obtain⟨p,_,_,_,_,v,_,B⟩:=cE m<|w9 W;exact⟨ys,ys[i],v,O,by lia,w9 W,B⟩;obtain⟨rfl,A⟩:=y;obtain⟨_,_,_,ys,O,m⟩:=s'.obj _ _ _ (ao g.pre G) ok;obtain⟨z,N,rz⟩:=A ys O;obtain⟨p,hp,_,_,_,v,rp,B⟩:=cE m N;obtain rfl:x=v:=rz.inj B;exact⟨p.2,ρ',by rw[C6,hp];rfl,s',.refl,rp⟩;obtain⟨_,_,_,ys,O,m⟩:=s'.obj _ _ _ (ao g.pre G) ok;have ly:ys.length=kvs.length:=by have:=t4 F8<|dH m;rwa [v4,v4]at this
   exact⟨⟨ys,O,by lia⟩,by rw[v4];lia⟩
  exact L _ t
 |_=>exact Y.elim
def Au:F7:=λx y M Q=>match x,y with
 |.tup ks,.ref n=>∃kvs,M[n]?=b7 (.dkt kvs)/\da 8 (.tup ks)=b9/\Q (.bl (aG kvs<|.tup ks).isSome) M
 |_,_=>False
theorem Ks(i:Room k X.A):G8 X (j6 .In) Au:=by
 rintro p s σ H G J v u R I o z ⟨x,y,M,ρ,Q,m,j,l,q,C⟩;have F:=i.un;cases x with
 |tup c =>
  cases y with
  |ref n =>
   obtain⟨kvs,h,g,q⟩:=q;obtain⟨a,rfl,f⟩:=u6.inv_ref l;cases z;obtain⟨xs,B,r,d,T,D,E,_⟩:=lF I m f h;have t:=dE I 8 _ _ _ j o g;obtain⟨b,_,rfl,_⟩:=id t;refine wpAny_in_heap (knd:=aZ X.prog X.w) (k:=.tup c) (by show X.A.units+1+8<j8;lia) t T d ?_;have e:(atKey xs<|.tup c).isSome=(aG kvs<|.tup c).isSome:=by rcases pY r (.tup c)with⟨z1,z2⟩|⟨_,_,_,z1,z2,_⟩<;>rw[z1,z2]<;>rfl
   rw[e];exact gW (I.tok _) m C q
  |_=>exact q.elim
 |_=>exact q.elim
def qi:u4:=λ_ _ _=>False
theorem EY{st:i5}:DS X st qi:=λp s σ H E I ⟨S,M,ρ,F,m,b,q,C⟩=>q.elim
theorem KW:HE X (.Dict [] [] pos) uO:=⟨Me⟩
theorem KY(r:Room k X.A)(m:HE X o to)(hi:HE X i ti)(hs:Gd i:=by intro _ _;kernel_rfl):HE X (.Subscript o i pos) (gf to ti):=⟨Mf r m.ok hi.ok hs⟩
theorem Bo(r:Room k X.A)(m:HE X o to)(hi:HE X i ti)(c:HE X e te)(hs:i7 e (b7<|.Subscript o i pos') pos.line X.env=pure c5:=by kernel_rfl):HS X (.Assign [.Subscript o i pos'] e pos) (om to ti te):=⟨Iu r m.ok hi.ok c.ok hs⟩
theorem HM(i:Room k X.A)(m:HE X o to)(f:HA X (e::es) t)(h:m6 o "get" X.env (eval o X.env)=eval o X.env:=by kernel_rfl)(w:((i3 cpos<|i4 (e::es) X.env).all (λx=>!x.1)&&(m7 cpos<|m8 [] X.env).all (λx=>x.1.isSome) && decide ((e::es).length+([]:List m9).length+(if ([]:List m9).isEmpty then 0 else 1)<30))=b9:=by kernel_rfl)(a:(apos.endLine==cpos.line)=b9:=by kernel_rfl) (hs:i4 (e::es) X.env=(c5,eval e X.env)::i4 es X.env:=by kernel_rfl) (n:(i3 cpos<|i4 es X.env).any (·.1)=c5:=by kernel_rfl):HE X (.Call (.Attribute o "get" apos) (e::es) [] cpos) (QP tU to t):=⟨d_mt PD R6 (DQ i) m.ok f.ok h w a hs n⟩
theorem Er(h:HE X e te):HI X tg e (xV te):=⟨Fe h.ok⟩
theorem Ep(m:HE X o to)(e:m6 o "values" X.env (eval o X.env)=eval o X.env:=by kernel_rfl)(a:(apos.endLine==cpos.line)=b9:=by kernel_rfl):HI X tg (.Call (.Attribute o "values" apos) [] [] cpos) (uN to):=⟨Fd m.ok e a⟩
theorem Lo(i:Room k X.A):J0 X (j6 .In) Au:=⟨Ks i⟩
theorem xM{X:Cx}{st:i5}:HS X st qi:=⟨EY⟩
theorem Mu:f6 "max" = b7 (.builtin "max"):=by decide +kernel
end L2
namespace L2
open PySem PySem.Spec PyProof.Rows DL PySem.W PySem.Calls PyProof.V
def cY(h:d8)(it d:d6)(i n ep:Nat)(j x ok b:c7):Prop:=h.get? it=b7 { cls:=.type "dict_itemiterator",dict:=b8,data:=.fields #[j,x,.ref d,.int i 0,.int n 0,.int ep 0,ok,b],slots:=#[] }
def ye(h:d8)(it d S:d6)(i n ep:Nat):Prop:=∃j x ok b,cY h it d i n ep j x ok b/\((j=.none/\x=.bool c5)\/∃(a:d6) (f:Bool) (o:d7),j=j3 a/\x=.bool f/\h.get? a=b7 o/\a≠it/\a≠S)
theorem BW(a:(d==d9)=c5)(m:dL s.heap d es ep)(b:Q (.ref s.heap.objs.size) { s with heap:=s.heap.push { cls:=.type "dict_items",data:=.fields #[.ref d] } }):g7 (h7 prog w) A (call (.builtin "dict.items") [.ref d]) Q E s:=by refine Ot PySem.F.slot_dict_items m.ty PySem.F.entry_dict_items (PySem.F.args_dict_items_1 _) (S:=λ_ R s'=>s'=s/\R (.ok<|.ret<|.ref s.heap.objs.size) { s with heap:=s.heap.push { cls:=.type "dict_items",data:=.fields #[.ref d] } }) (.of_wp ?_) ⟨rfl,b⟩;rintro A R s' ⟨rfl,h⟩;unfold Builtin.«dict.items»;refine t6 ?_;unfold Builtin.Dict.noArgs;refine t6<|OE m.ty<|t8 ?_;refine(show g7 (h7 prog w) _ (PC d >>= _) _ _ s' from ?_);unfold PC;rw[a];exact t6<|t8<|t6<|G3<|t8 ⟨_,rfl,h⟩
theorem BY(c:s.heap.IsItemsView v d)(m:dL s.heap d es ep)(b:Q (.ref s.heap.objs.size) { s with heap:=s.heap.push { cls:=.type "dict_itemiterator",data:=.fields #[.none,.bool c5,.ref d,.int 0 0,.int es.size 0,.int ep 0,.none,.none] } }):g7 (h7 prog w) A (j2<|.ref v) Q E s:=by obtain⟨g,e,P,f⟩:=id c;obtain⟨o,h1,h2,a⟩:=m;refine Qu c.typeIs F.slot_dict_items_iter<|F9 F.slot_dict_items_iter c.typeIs F.entry_dict_items_iter ?_<|F.args_dict_items_iter_1 _;unfold Builtin.«dict_items.__iter__»;refine t6<|t8<|t6 ?_;unfold SF;refine t6<|J3 e f (x:=.ref d) rfl<|t8<|t6 ?_;unfold SL;refine t6<|Ni h1 a<|t6<|MY h1 a ?_;simp only[show OK "dict_itemiterator" = b9 by decide,s9];exact G3 (t8 ⟨_,rfl,"dict_itemiterator",_,⟨_,A7 _ rfl,rfl⟩,F.slot_dict_itemiterator_next.lookup,by simpa [j3,SR]using b⟩)<|by simp only[sizeOk,SR,A6,B6,D4,C9,Nl];lia
theorem BX(V:ye s.heap it d S i es.size ep)(hS:S<s.heap.objs.size)(hm:dL s.heap d es ep)(hi:i<es.size)(hQ:∀h',ye h' it d S (i+1) es.size ep->h'.get? s.heap.objs.size=b7 { cls:=.type "tuple",data:=.seq #[es[i].key,es[i].val] }->h'.objs.size=s.heap.objs.size+1 -> (∀b o,b≠it->s.heap.get? b=b7 o->h'.get? b=b7 o)->(∀ok ov,cY s.heap it d i es.size ep .none (.bool c5) ok ov->cY h' it d (i+1) es.size ep (j3 s.heap.objs.size) (.bool c5) es[i].key es[i].val)->Q (b7<|.ref s.heap.objs.size) { s with heap:=h' }):g7 (h7 prog w) A (j0<|.ref it) Q E s:=by
 obtain⟨hp,g,r,u,q⟩:=s;obtain⟨x0,x1,ok,ov,h,W⟩:=V;obtain⟨od,Z,k2,k3⟩:=id hm;have T:N7 ⟨hp,g,r,u,q⟩ (.ref it) "dict_itemiterator":=⟨_,h,rfl⟩
 unfold j0;refine t6<|Nv<|MN (name:=u3 "__next__") T RL<|F9 RL T SS ?_<|SV _;refine t6<|t8<|t6<|t6 ?_
 first|refine t6 (RJ T<|t8<|t6<|MR h rfl ?_)|refine t6<|RB T<|t8<|t6<|MR h rfl ?_
 rw[show OK "dict_itemiterator" = b9 by decide];refine(show g7 (h7 prog w) _ (if (AB6 d==ABQ)=b9 then _ else _) _ _ _ from ?_);rw[p4<|by exact M8];refine t6<|t8<|t6<|Ni Z k3 ?_;rw[p4<|by simp];refine t6<|t8<|t6<|MY Z k3 ?_;rw[p4<|by simp];refine t8 ?_;dsimp only;rw[p4 (show ¬((i:Int)<0)from by lia),J7,G5 hi];dsimp only;refine t6 ?_
 first|refine t6 (RJ T<|t8 ?_)|refine t6<|RB T<|t8 ?_
 refine t6<|Sb T ?_;refine(show g7 (h7 prog w) _ (setField (.ref it) 3 (j3<|(i:Int)+1) >>= _) _ _ ⟨hp,g,r,u,q⟩from t6<|Nz h (by simp) λm he hs=>?_);have F:I0 it hp m:=hs;have D:cY m it d (i+1) es.size ep x0 x1 ok ov:=by unfold cY;rw[show ((i+1:Nat):Int)=(i:Int)+1 by lia];simpa [j3]using he
 have v:N7 ⟨m,g,r,u,q⟩ (.ref it) "dict_itemiterator":=⟨_,D,rfl⟩
 refine t6<|E4<|t6<|Sb v<|t6<|Sb v ?_;refine(show g7 (h7 prog w) _ (SM (.ref it) 6 es[i].key es[i].val) _ _ ⟨m,g,r,u,q⟩from ?_);unfold SM;refine t6<|wpAny_newTuple ?_;have B:cY (m.push { cls:=.type "tuple",data:=.seq #[es[i].key,es[i].val] }) it d (i+1) es.size ep x0 x1 ok ov:=z5 _ D;generalize O:m.push { cls:=.type "tuple",data:=.seq #[es[i].key,es[i].val] }=hB at B;have Y:m.objs.size=hp.objs.size:=F.1;have p:it<hp.objs.size:=A1 h;have tB:hB.get? hp.objs.size=b7 { cls:=.type "tuple",data:=.seq #[es[i].key,es[i].val] }:=by rw[<-O,<-Y];exact A7 _ rfl
 have zB:hB.objs.size=hp.objs.size+1:=by rw[<-O,MF,Y]
 have kB:∀b o,b≠it->hp.get? b=b7 o->hB.get? b=b7 o:=λb o k e=>by rw[<-O];exact z5 _<|F.extBut b o k e
 refine(show g7 (h7 prog w) _ (SO (.ref it) >>= _) _ _ ⟨hB,g,r,u,q⟩from ?_);rw[Y];have n:∀C:d8,ye C it d S (i+1) es.size ep->I0 it hB C->(∀ok ov,cY hp it d i es.size ep .none (.bool c5) ok ov->cY C it d (i+1) es.size ep (j3 hp.objs.size) (.bool c5) es[i].key es[i].val)->Q (b7<|.ref hp.objs.size) ⟨C,g,r,u,q⟩:=λC st t =>
  hQ C st (t.extBut _ _ (NF p) tB) (by show C.objs.size=hp.objs.size+1;rw[t.1,zB]) λb o k e=>t.extBut b o k<|kB b o k e
 refine t6 ?_;unfold SO;rcases W with⟨rfl,rfl⟩|⟨a,f,G,rfl,rfl,ga,j,y⟩
 refine t6<|J3 B rfl (x:=.none) rfl<|t8 ?_;simp only[s9];refine t6<|J3 B rfl (x:=ok) rfl<|t6<|J3 B rfl (x:=ov) rfl ?_;refine t6<|Nz B (by simp) λl N X=>?_;refine t6<|Nz (show cY l it d (i+1) es.size ep .none (.bool c5) es[i].key ov from N) (by simp) λR e4 s4=>?_;refine t6<|Nz (show cY R it d (i+1) es.size ep .none (.bool c5) es[i].key es[i].val from e4) (by simp) λU e5 s5=>?_;refine t6<|Nz (show cY U it d (i+1) es.size ep (j3 hp.objs.size) (.bool c5) es[i].key es[i].val from e5) (by simp) λM e6 s6=>?_;have p6:cY M it d (i+1) es.size ep (j3 hp.objs.size) (.bool c5) es[i].key es[i].val:=e6;have t:I0 it hB M:=by have c:I0 it hB l:=X;have J:I0 it l R:=s4;have K:I0 it R U:=s5;have L:I0 it U M:=s6;exact⟨by rw[L.1,K.1,J.1,c.1],λb k=>by rw[L.2 b k,K.2 b k,J.2 b k,c.2 b k]⟩
 exact t6<|wpAny_letGo<|t8<|t8 ⟨_,rfl,t8<|n M ⟨_,_,_,_,p6,.inr ⟨_,c5,_,rfl,rfl,t.extBut _ _ (NF p) tB,NF p,NF hS⟩⟩ t λ_ _ _=>p6⟩;have P:hB.get? a=b7 G:=kB a G j ga;have no:∀{C:d8} (H I:c7),cY hp it d i es.size ep .none (.bool c5) H I->cY C it d (i+1) es.size ep (j3 hp.objs.size) (.bool c5) es[i].key es[i].val:=λH I z=>p5 (h.symm.trans z) (by simp[j3]);refine t6<|J3 B rfl (x:=j3 a) rfl ?_;refine(show g7 (h7 prog w) _ (loadIfAlive ((a:Int).toNat) >>= _) _ _ _ from ?_);rw[J7];refine t6<|kdx_alive P ?_;simp only[Option.isNone_some,B5,r9];refine t6<|J3 B rfl (x:=.bool f) rfl ?_;cases f with
 |true=>rw[p4<|show ¬((NR b9 != NR b9)=b9)from M8];refine t8 ?_;simp only[B5,r9];exact t8<|t8 ⟨_,rfl,t8<|n hB ⟨_,_,_,_,B,.inr ⟨a,b9,G,rfl,rfl,P,j,y⟩⟩ (Heap.SameBut.refl _ _) no⟩
 |false=>rw[p0<|show (NR c5 != NR b9)=b9 from rfl];refine t6<|Nz B (by simp) λl N X=>?_;have p3:cY l it d (i+1) es.size ep (j3 a) (.bool b9) ok ov:=N;have c:I0 it hB l:=X;refine t8 ?_;simp only[B5,r9];exact t8<|t8 ⟨_,rfl,t8<|n l ⟨_,_,_,_,p3,.inr ⟨a,b9,G,rfl,rfl,c.extBut a G j P,j,y⟩⟩ c no⟩
theorem EX(f:A.handled=b8)(c:ye s.heap it d S es.size es.size ep)(g:dL s.heap d es ep)(e:∀h',Qe it s.heap h'->Q b8 { s with heap:=h' }):g7 (h7 prog w) A (j0<|.ref it) Q E s:=by
 obtain⟨x,i,ok,v,h,W⟩:=c;obtain⟨j,B,C,k⟩:=id g;have o:s.TypeIs (.ref it) "dict_itemiterator":=⟨_,h,rfl⟩
 unfold j0;refine t6<|Nv<|MN (name:=u3 "__next__") o RL<|F9 RL o SS ?_<|SV _;refine t6<|t8<|t6<|t6 ?_
 first|refine t6 (RJ o<|t8<|t6<|MR h rfl ?_)|refine t6<|RB o<|t8<|t6<|MR h rfl ?_
 rw[show OK "dict_itemiterator" = b9 by decide];refine(show g7 (h7 prog w) _ (if (AB6 d==ABQ)=b9 then _ else _) _ _ s from ?_);rw[p4<|by exact M8];refine t6<|t8<|t6<|Ni B k ?_;rw[p4<|by simp];refine t6<|t8<|t6<|MY B k ?_;rw[p4<|by simp];refine t8 ?_;dsimp only;rw[p4 (show ¬((es.size:Int)<0)from by lia),J7,O6<|v6 es.size];dsimp only;refine t6 ?_
 first|refine t6 (RJ o<|t8 ?_)|refine t6<|RB o<|t8 ?_
 refine(show g7 (h7 prog w) _ (setField (.ref it) 2 .none >>= _) _ _ s from t6<|Nm h rfl (by simp) ?_);refine(show g7 (h7 prog w) _ (newExc (.type "StopIteration") [] >>= _) _ _ _ from t6 ?_);simp only[newExc,newTuple];refine t6 (G3 ?_<|by size_fits);refine t6 (m:=o0 _ _)<|Pj (a:=ABQ) (by first|rfl|(simp only[o0];rfl)) ?_;refine G3 ?_ (by size_fits);simp only[raiseNew];refine t6<|Qh ?_;rw[show A.in1.handled=b8 from f];refine t6<|t8<|wpAny_throw ?_;refine t6<|Oc (b:=b9) (T:="StopIteration") ⟨_,A7 _ rfl,rfl⟩ Pu ?_;exact t8<|e _<|((L9 ..).extBut.push _).push _
structure PairsAt(es:Array n5)(lo:d6)(h:d8)(as:List d6):Prop where
 nd:as.Nodup
 above:∀a∈as,lo<a
 tup:∀(j:Nat) (a:d6),as[j]?=b7 a->∃e,es[j]?=b7 e/\h.get? a=b7 { cls:=.type "tuple",data:=.seq #[e.key,e.val] }
end L2
namespace L2
open PySem PySem.Spec PyProof.Rows DL PySem.W
def JE:F7:=λx y M Q=>match x,y with
 |.int i,.int j=>CPow i j/\Q (.int<|i*2 ^ j.toNat) M
 |_,_=>False
theorem Kp:G8 X (j5 .LShift) JE:=by refine D0.imp Kf ?_;rintro f g H R ⟨x,y,M,ρ,Q,m,r,n,q,k⟩;unfold JE at q;split at q;cases r;cases n;exact⟨_,_,rfl,rfl,q.1,k _ H<|VQ.now m (.int _) q.2⟩;exact q.elim
theorem Lk:J0 X (j5 .LShift) JE:=⟨Kp⟩
def At:C5:=λds M Q=>match ds with
 | [.int i,.int j]=>Q (.int<|if j > i then j else i) M
 |_=>False
theorem IN(f:X.calm=b9):lX X (.builtin "max") At:=by
 refine hX.imp (Cq f) ?_;rintro vs H R ⟨ds,M,ρ,Q,m,a,q,k⟩;unfold At at q;split at q
 first|have z:=Reps.inv_cons a|have z:=ay.inv_cons a
 clear a;obtain⟨_,_,rfl,r,a⟩:=z
 first|have z:=Reps.inv_cons a|have z:=ay.inv_cons a
 clear a;obtain⟨_,_,rfl,n,a⟩:=z;cases a;cases r;cases n;exact⟨_,_,rfl,k _ H<|VQ.now m (.int _) q⟩;exact q.elim
theorem Ii(f:X.calm=b9:=by kernel_rfl):HC X (.builtin "max") At:=⟨IN f⟩
theorem zd(i:Room k X.A):HC X (.builtin "sorted") kn:=⟨Cn i⟩
noncomputable def dictOf(ps:List (D×D)):List (D×D):=ps.foldl (λkvs p=>gD kvs p.1 p.2) []
theorem dI:dictOf (ps++[p])=gD (dictOf ps) p.1 p.2:=by unfold dictOf;rw[List.foldl_append];rfl
theorem uH:∀(ps kvs:List (D×D)),(ps.foldl (λkvs p=>gD kvs p.1 p.2) kvs).length<=kvs.length+ps.length
 | [],_=>v6 _
 |p::ps,kvs=>by have h1:=uH ps<|gD kvs p.1 p.2;have h2:=ij (kvs:=kvs) (k:=p.1) (d:=p.2);rw[List.foldl_cons,D4];lia
theorem qh:(dictOf ps).length<=ps.length:=by have:=uH ps [];rw[C9,Nat.zero_add]at this;exact this
theorem jS:entryFor table "dict.update.loop" = b7 Builtin.«dict.update.loop»:=entryFor_of_tree<|by kernel_rfl
theorem cO:plainId "dict.update.loop" = b9:=by decide +kernel
theorem kE:typeLookup (.type "list") "__getattr__" = pure b8:=by rw[Qn,QG];kernel_rfl
theorem oM:typeLookup (.type "list") "keys" = pure b8:=by rw[Qn,QG];kernel_rfl
section
variable{prog:d5}{w:c9}{A:f7}{E:c7->f8->Prop}{h:d8}{g:Array GenState}{d:Drawn}{t:Nat}{os:OsState}{a:d6}{o:d7}
theorem Bb(x:h.get? a=b7 o)(i:o.cls=.type "list")(b:o.dict=b8)(c:o.data=.seq its nn)(f:A.handled=b8)(q:∀h' tk e,Heap.NewAttrErr h h' e (.ref a) "keys"->R (.error<|.ref e) ⟨h',g,d,tk,os⟩):k5 (h7 prog w) A (.call (.builtin "list.__getattribute__") ⟨[.ref a,.str "keys" u],[]⟩) R ⟨h,g,d,t,os⟩:=by
 obtain⟨j,k,C,G⟩:=o;obtain rfl:j=.type "list":=i;obtain rfl:k=b8:=b;obtain rfl:C=.seq its nn:=c;have T:(⟨h,g,d,t,os⟩:f8).TypeIs (.ref a) "list":=⟨_,x,rfl⟩
 have l:=oM;refine codeAny_call_builtin RI.plain PySem.F.entry_list_ga<|RI.check _ _ _ _ _ _ _ _ T (PySem.F.args_list_getattribute_2 _ _) ?_;unfold Builtin.«object.__getattribute__»
 repeat (any_goals (first|assumption|wp_step))
 refine wpAny_raiseAttrError (o:=.ref a) (name:="keys") (by first|exact f|simpa using f) q ?_;exact attrMsg_fits (by decide +kernel)<|by size_fits
theorem we(x:h.get? a=b7 o)(k:o.cls=.type "list")(c:o.dict=b8)(f:o.data=.seq its nn)(j:A.handled=b8)(q:∀h' tk,(∀b ob,h.get? b=b7 ob->h'.get? b=b7 ob)->Q b8 ⟨h',g,d,tk,os⟩):g7 (h7 prog w) A (getAttr? (.ref a) "keys") Q E ⟨h,g,d,t,os⟩:=by
 obtain⟨l,m,C,G⟩:=o;obtain rfl:l=.type "list":=k;obtain rfl:m=b8:=c;obtain rfl:C=.seq its nn:=f;have T:∀tk,(⟨h,g,d,tk,os⟩:f8).TypeIs (.ref a) "list":=λ_=>⟨_,x,rfl⟩
 have n:=sub_AttributeError;have M:=RI.lookup;have r:=RI.bind<|.ref a;have y:=kE;unfold getAttr? getAttrBy? getAttrBy
 repeat (any_goals (first|assumption|exact T _|wp_step))
 refine Bb x rfl rfl rfl (by first|exact j|simpa using j) λh' tk e i=>?_;obtain⟨t',J,p⟩:=i.there;unfold getattributeRaised
 repeat (any_goals (first|assumption|wp_step))
 exact q _ _ i.keeps
end
theorem dsetE(u:(aZ prog w).room A)(t:(aZ prog w).is s.heap k b)(x:s.heap.DictOfH (aZ prog w) d xs) (y:dX d xs prog w s.heap) (hz:xs.length<=sizeLine)(n:∀h',dX d (storedH xs k b v) prog w h'->I0 d s.heap h'->Q () { s with heap:=h',toks:=s.toks+(aZ prog w).draws k }):g7 (h7 prog w) A (dictSet d (.ref b) v) Q E s:=by
 obtain⟨_,_,_,_,_,_,_,g,f⟩:=x;obtain⟨o,es,m,r,h,c⟩:=y;have i:es.toList=xs.map (e7<|aZ prog w):=c;unfold dictSet
 try with_reducible refine E4 ?_
 refine t6<|(aZ prog w).pyHash u t ?_;unfold dictSetHashed
 try with_reducible refine E4 ?_
 have B:es.size=xs.length:=size_of_entries i;refine t6<|wpAny_dictFind_heap (s:={ s with toks:=s.toks+(aZ prog w).draws k }) u t m h i g f (λa=>?_) λj p L=>?_;refine t6<|Ix<|Rp (hz:=by lia) (s:={ s with toks:=s.toks+(aZ prog w).draws k }) m h<|n _ ⟨_,es.push ⟨(aZ prog w).hash k,.ref b,v⟩,MB _ m<|PB<|OD h _,r.mapDictKeys _,?_,?_⟩<|L9 ..;rw[OD h,storedH_new<|Rg a,B6];rfl;rw[storedH_new<|Rg a];rw[Qv,i,Fn];rfl;refine t6<|Ix<|t6<|wpAny_updateDict (s:={ s with toks:=s.toks+(aZ prog w).draws k }) m h<|wpAny_point<|n _ ⟨_,es.modify j λe=>{ e with val:=v },MB _ m<|PB<|Ra h _,r.mapDict _,?_,?_⟩<|L9 ..;rw[Ra h,storedH_old<|Pl f L,v4];rw[storedH_old<|Pl f L];have q:=modify_map_putAt (e7<|aZ prog w) (λe:n5=>{ e with val:=v }) k v (λ_ _=>rfl) f L;rw[<-i]at q;obtain⟨l⟩:=es;have z:(Array.modify ⟨l⟩ j λe:n5=>{ e with val:=v }).toList=(xs.map<|putAt k v).map (e7<|aZ prog w):=by simpa using q
 exact z
structure DD(X:Cx)(ρ:List d6)(H:Hp)(h:d8)(a:d6)(kvs:List (D×D))(xs:List (D×d6×c7)):Prop where
 dx:dX a xs X.prog X.w h
 kv:Paired (rZ X.K ρ H) kvs xs
 nd:(kvs.map (·.1)).Nodup
theorem DD.at(x:DD X ρ H h a kvs xs)(k:∀o,h.get? a=b7 o->h'.get? a=b7 o):DD X ρ H h' a kvs xs:=by obtain⟨⟨o,es,t,l,Q,I⟩,v,d⟩:=x;exact⟨⟨o,es,k _ t,l,Q,I⟩,v,d⟩
theorem DD.len(x:DD X ρ H h a kvs xs):xs.length=kvs.length:=by
 have:=t4 F8<|dH x.kv
 rwa [v4,v4]at this
theorem DD.of(I:t9 X pins σ H s)(x:DD X ρ H s.heap a kvs xs):s.heap.DictOfH (aZ X.prog X.w) a xs:=by obtain⟨o,es,t,l,Q,e⟩:=x.dx;have Z:=dH x.kv;refine⟨o,es,_,t,l,Q,e,λy O=>?_,by rw[Z];exact x.nd⟩;obtain⟨i,hi⟩:=M9 O;obtain⟨p,_,c,j,k,_⟩:=cE x.kv hi;rw[<-c];exact dE I 8 _ _ _ k rfl j
theorem IG(I:t9 X pins σ H s)(hu:A.units+20<j8)(W:Walks X.prog X.w A.in1 J fp wr m P Sx)(S:d6)(x:S∉fp)(N:s.heap.get? S=b8) (E:∀b∈wr,s.heap.get? b=b8) (ps:List (D×D)) (hm:ps.length=m) (C:∀i v,P i v->∃p,ps[i]?=b7 p/\(∃vv,u6 X.K ρ H (.tup [p.1,p.2]) vv/\aK vv v)/\da 8 p.1=b9/\gP p.1=b9) (hb:m<=1000):∀(k i:Nat) (h:d8) (tk:Nat) (xs:List (D×d6×c7)) (j:Int) (t:Tok),m-i=k->i<=m->Sx i h->DD X ρ H h S (dictOf<|ps.take i) xs->(∀b u,s.heap.get? b=b7 u->h.get? b=b7 u) ->(∀h' tk xs',(∀b u,s.heap.get? b=b7 u->h'.get? b=b7 u)->DD X ρ H h' S (dictOf ps) xs'->R (.ok<|.ret .none) { s with heap:=h',toks:=tk }) ->k5 (h7 X.prog X.w) A (.builtin "dict.update.loop" ⟨[.ref S,.ref J,.int j t,.none],[]⟩) R { s with heap:=h,toks:=tk }:=by
 have y:S∉wr:=λh=>x<|W.sub _ h;intro k;induction k with
 |zero =>
  intro i h tk xs j t hk hi q G f Y;obtain rfl:i=m:=by lia
  refine NW jS ?_;rw[Of cO _];refine(show g7 (h7 X.prog X.w) A.in1 (j0 (.ref J) >>= _) _ _ _ from t6<|W.done _ _ _ q λh' tk d=>?_);rw[<-hm,MT]at G;refine(show g7 (h7 X.prog X.w) A.in1 (Builtin.Dict.addKeywords S [] >>= _) _ _ _ from t6<|t8<|t8 ?_);exact Y h' tk xs (λb u e=>d b u (λz=>by rw[E b z]at e;cases e)<|f b u e)<|G.at λo e=>d S o y e
 |succ k ih =>
  intro i h tk xs j t hk hi q G f Y;refine NW jS ?_;rw[Of cO _];refine(show g7 (h7 X.prog X.w) A.in1 (j0 (.ref J) >>= _) _ _ _ from t6<|W.item i _ _ _ (by lia) q λv h' tk hP B d=>?_);obtain⟨p,hp,⟨vv,r,rv⟩,kd,it⟩:=C i v hP;have n:∀b u,s.heap.get? b=b7 u->h'.get? b=b7 u:=λb u e=>d b u (λz=>by rw[E b z]at e;cases e)<|f b u e;have L:t9 X pins σ H { s with heap:=h',toks:=tk }:=I.kept n;have c:=G.at λo e=>d S o y e;have hl:=c.len;have dl:=qh (ps:=ps.take i);have dd:=c.of (s:={ s with heap:=h',toks:=tk }) L;obtain⟨a,vs,rfl,hq,l⟩:=u6.inv_tup r;cases rv
  first|have g:=Reps.inv_cons l|have g:=ay.inv_cons l
  clear l;obtain⟨_,_,rfl,r1,l⟩:=g
  first|have g:=Reps.inv_cons l|have g:=ay.inv_cons l
  clear l;obtain⟨_,_,rfl,r2,l⟩:=g;cases l;obtain⟨its,U,pl,hz⟩:=L.tuple hq;obtain⟨u1,u2,rfl,Z,e2⟩:=ay.two U;obtain⟨k0,d0⟩:=p;cases k0 with
  |tup ks =>
   have F:=dE L 8 _ _ _ r1 Z kd;obtain⟨b,_,rfl,_⟩:=id F;obtain⟨_,_,rfl,Q,V⟩:=u6.inv_tup r1;cases Z;obtain⟨o,ho,hc,nn,hd⟩:=pl;have hT:({ s with heap:=h',toks:=tk }:f8).TypeIs (.ref a) "tuple":=⟨o,ho,hc⟩
   refine t6<|E4<|t6<|wpAny_tryCatch ?_;unfold Builtin.Dict.pairItems;refine t6<|NT hT ?_;rw[p0<|by decide];refine t6<|MS ho hd<|t8 ?_;refine(show g7 (h7 X.prog X.w) _ (i6 [.ref b,u2]<|dictSet S (.ref b) u2) _ _ _ from E4 ?_);refine dsetE (k:=.tup ks) (s:={ s with heap:=h',toks:=tk }) (by show A.units+1+8<j8;lia) F dd c.dx (ah<|by rw[hl];rw[F6]at dl;lia) λh2 M sb=>?_;have k2:∀b u,b≠S->h'.get? b=b7 u->h2.get? b=b7 u:=λb u hb e=>(sb.2 b hb).trans e;have T:=FP c.kv kd (.tup Q V) r2 e2;have et:ps.take (i+1)=ps.take i++[(.tup ks,d0)]:=by rw[M7,hp];rfl
   refine t8 ⟨N9 cO _,ih (i+1) h2 _ _ _ _ (by lia) (by lia) (W.frame _ h' h2 B λb' O o e=>k2 b' o (λz=>x<|z ▸ O) e) ⟨M,?_,?_⟩ (λb u e=>k2 b u (λz=>by rw[z,N]at e;cases e)<|n b u e) Y⟩;rw[et,dI];exact T;rw[et,dI];exact qJ c.nd
  |_=>cases it
theorem IR(I:t9 X pins σ H s)(Y:A.units+30<j8)(B:A.handled=b8)(C:s.heap.IsList l its)(f:s.heap.get? l=b7 ol)(t:ol.dict=b8)(ps:List (D×D))(R:ps.length=its.size)(y:∀(i:Nat) v,its[i]?=b7 v->∃p:D×D,ps[i]?=b7 p/\(∃vv,u6 X.K ρ H (.tup [p.1,p.2]) vv/\aK vv v)/\da 8 p.1=b9/\gP p.1=b9) (P:its.size<=1000)(h:∀h' tk xs,(∀b u,s.heap.get? b=b7 u->h'.get? b=b7 u)->DD X ρ H h' s.heap.objs.size (dictOf ps) xs->Q (.ref s.heap.objs.size) { s with heap:=h',toks:=tk }):g7 (h7 X.prog X.w) A (call (.type "dict") [.ref l]) Q E s:=by
 refine callType_codes (Q₁:=λj s₁=>j=.ref s.heap.objs.size/\s₁={ s with heap:=s.heap.push { cls:=.type "dict",data:=.dict #[] } }) PySem.F.kt_called_dict (PySem.F.kt_typeCall_dict_1 _) PySem.F.entry_dict_init (kt_code_dict_new _ ⟨rfl,rfl⟩) ?_;rintro j s₁ ⟨rfl,rfl⟩;have S:(s.heap.push { cls:=.type "dict",data:=.dict #[] }).get? s.heap.objs.size=b7 { cls:=.type "dict",data:=.dict #[] }:=A7 _ rfl;have z:N7 { s with heap:=s.heap.push { cls:=.type "dict",data:=.dict #[] } } (.ref s.heap.objs.size) "dict":=⟨_,S,rfl⟩
 obtain⟨a,O,r,Z,m⟩:=id C;obtain rfl:a=ol:=C0<|O.symm.trans f;have c:(s.heap.push { cls:=.type "dict",data:=.dict #[] }).get? l=b7 a:=z5 _ f;have L:N7 { s with heap:=s.heap.push { cls:=.type "dict",data:=.dict #[] } } (.ref l) "list":=⟨a,c,r⟩
 have V:l<s.heap.objs.size:=A1 f;refine⟨z,PySem.F.args_dict_init_2 _ _,?_⟩;unfold Builtin.«dict.__init__»;refine t6 ?_;unfold Builtin.Dict.selfAndRest;refine t6<|OE z ?_;refine(show g7 _ _ (pure (s.heap.objs.size,[AB6 l])) _ _ _ from t8 ?_);refine(show g7 _ _ (Rv "dict.__init__" s.heap.objs.size (.ref l) [] .none) _ _ _ from ?_);unfold Rv;refine t6<|NT L ?_;rw[p0<|by decide];refine t6<|we c r t m (by simpa using B) λh1 x J=>?_;have k:∀b u,s.heap.get? b=b7 u->h1.get? b=b7 u:=λb u e=>J b u<|z5 _ e;rw[p0<|show (b8:Option c7).isNone=b9 from rfl];refine t6<|Ix ?_;obtain⟨oI,St,n,W,st⟩:=(TxSrc.list (prog:=X.prog) (w:=X.w) C).iter A.in1.in1 { s with heap:=h1,toks:=x } (by simpa using B) λo e=>k _ _ e;refine t6<|n _ _ ?_;have d:=J _ _ S;have M:s.heap.objs.size<h1.objs.size:=A1 d;have G:s.heap.get? s.heap.objs.size=b8:=by
  cases q:s.heap.get? s.heap.objs.size with
  |none=>rfl
  |some o=>exact p5 (A1 q)<|J4 _
 refine t8 ⟨N9 cO _,IG (A:=A.in1) (s:=s) I (by show A.units+1+20<j8;lia) W s.heap.objs.size ?_ G ?_ ps R y P its.size 0 _ _ [] _ _ rfl (A9 _) st ⟨⟨_,#[],z5 _ d,⟨rfl,rfl,rfl⟩,rfl,rfl⟩,.nil,Pq⟩ (λb u e=>z5 _<|k b u e) λh2 T xs U N=>⟨rfl,h h2 T xs U N⟩⟩;simp only[A3,No,or_false,not_or];exact⟨A4 M,NF V⟩;intro b g;rw[K0.mp g];cases q:s.heap.get? h1.objs.size with
 |none=>rfl
 |some o=>exact p5 (Nat.lt_trans (A1 q) M)<|J4 _
def iZ:C5:=λds M Q=>match ds with
 | [.ref n]=>∃ps:List (D×D),ak M n (ps.map λp=>.tup [p.1,p.2])/\(∀p∈ps,da 8 p.1=b9/\gP p.1=b9)/\ps.length<=1000/\Q (.ref M.length) (M++[.dkt<|dictOf ps])
 |_=>False
theorem Co(G:Room k X.A)(C:X.calm=b9):lX X (.type "dict") iZ:=by
 rintro w s σ H vs us R I W ⟨ds,M,ρ,Q,n,c,q,K⟩;have un:=G.un;unfold iZ at q;split at q;obtain⟨ps,L,E,hl,q⟩:=q
 first|have z:=Reps.inv_cons c|have z:=ay.inv_cons c
 clear c;obtain⟨_,_,rfl,l,c⟩:=z;cases c;obtain⟨u,rfl,t⟩:=ay.one W;obtain⟨a,rfl,e⟩:=u6.inv_ref l;cases t;obtain⟨ws,F,r⟩:=ak.seq n L e;obtain⟨its,y,x,hz⟩:=I.list F;obtain⟨oa,nn,j,D,b,h⟩:=id x;have O:=r.length;have li:=y.length;rw[v4]at O;have f:H s.heap.objs.size=b8:=I.hok.fresh<|v6 _;have B:(s.heap.objs.size==d9)=c5:=beq_eq_false_iff_ne.mpr<|A2<|A4 I.big;refine IR (A:=X.A) (ρ:=ρ) I (by lia) (I.ok.hd C) x.isList j b ps (by rw[A6];lia) (λi v J=>?_) (by rw[A6];lia) λh' Y xs N g=>?_;obtain⟨d,Z,t,l,m⟩:=qz r y (i:=i) (u:=v) (by simpa using J);rw[C6]at t;obtain⟨p,hp,rfl⟩:=NJ.mp t;exact⟨p,hp,⟨Z,l,m⟩,E p<|E6 hp⟩;have dl:=qh (ps:=ps);refine⟨.ref s.heap.objs.size,_,I.laid (a:=s.heap.objs.size) (o:=.ext<|dX s.heap.objs.size xs) (t':=Y) N (v6 _)<|wA g.dx,rfl,?_⟩;exact K _ _ ⟨.ref M.length,M++[.dkt<|dictOf ps],ρ++[s.heap.objs.size],n.laidM (mo:=.dkt<|dictOf ps) f ⟨ah (by lia),B,g.nd,xs,aR,Paired.mapP g.kv λ_ _ ⟨P,S,T,v,U,V⟩=>⟨P,S,T.grow<|Grow.laidR f,v,U.grow<|Grow.laidR f,V⟩⟩,Grow.laidR f,.ref n.last,q⟩;exact q.elim
theorem BI(i:Room k X.A)(f:X.calm=b9:=by kernel_rfl):HC X (.type "dict") iZ:=⟨Co i f⟩
noncomputable abbrev EE(M:u8)(R:DK):DEnds:=⟨λ_ M'=>aY M R .non M',aY M R,λ_ _=>False,λ_ _=>False⟩
noncomputable def Sv(n:Nat)(ds:List D):SD:=ds.map b7++Ow (n-ds.length) b8
abbrev A8(Pr:A0)(n:Nat)(t:u4):Prop:=∀ds M R,Pr ds M R->t (EE M R) (Sv n ds) M
abbrev cN(Pr:A0)(p:List c8):Prop:=∀ds M R,Pr ds M R->ds.length=p.length
abbrev DerT(P:d5)(w:c9)(K:u9)(mg:c8->Option c7)(base:d8)(k:Nat)(x:c8)(N:List c8)(st:i5)(t:u4):Prop:=∀(f:d6) (cdv:c7) (A:f7) (outer:List Env) (s:f8) (H:Hp) (E:XK),Room k (A.deeper<|PyProof.Rows.envOfC x (aC st) s.heap.objs.size f cdv)->HB (zv L5 P w K mg base N x (aC st) f cdv A outer s H E).nox (cq st) t
def xU(c:H9)(t:u4):u4:=λE S M=>∃W:Nat->SD->u8->Prop,(∃m,W m S M)/\∀m S M,W m S M ->c S M λb M1=>if b=b9 then t ⟨λa M'=>∃j,j < m/\W j a M',E.rt,E.nx,λa M'=>∃j,j < m/\W j a M'⟩ S M1 else E.nx S M1
theorem yT{K:u9}{c:H9}{l:u4}(E:Ends)(σ:St)(H:Hp)(h:lowS K (xU c l) E σ H):FF (lowT K c) (lowS K l) E σ H:=by
 obtain⟨S,M,ρ,F,s,B,⟨W,⟨x,J⟩,t⟩,k⟩:=h;refine⟨λm τ f=>∃S2 M2 d,v9 K d M2 f/\Grow K ρ H d f/\SRep K d f S2 τ/\W m S2 M2,⟨x,S,M,ρ,s,.refl,B,J⟩,?_⟩;rintro m τ f ⟨S2,M2,d,y,u,o,C⟩;refine⟨S2,M2,d,_,y,o,t m S2 M2 C,?_⟩;rintro b p ⟨i,e,A,g3,q⟩;have g:=u.trans g3;cases b with
 |true =>
  have n:∀a V,SQ K e p (λr M'=>∃j,j < m/\W j r M') a V->∃j,j < m/\∃S2 M2 d,v9 K d M2 V/\Grow K ρ H d V/\SRep K d V S2 a/\W j S2 M2:=λa V ⟨Z,X,L,s5,w,G,j,lt,D⟩=>⟨j,lt,Z,X,L,s5,g.trans w,G,D⟩
  refine cQ ⟨_,λI H' z=>z,S2,i,e,_,A,o.grow g3,(show l _ S2 i from q),?_⟩;exact⟨n,λv V z=>k.rt v V<|VQ.trans g z,λa V z=>k.nx a V<|SQ.trans g z,n⟩
 |false=>exact cD<|k.nx τ p ⟨S2,i,e,A,g,o.grow g3,(show F.nx S2 i from q)⟩
theorem xL(f:HT X c tc)(d:HB X body tb)(hp:PassesOwn (h7 X.prog X.w) X.A X.env X.xe:=by exact PassesOwn.never):HS X (.While c body [] pos) (xU tc tb):=⟨PS.imp (Dr hp f.ok d.ok) yT⟩
theorem qC:typeLookup (.type "tuple") "keys" = pure b8:=by rw[Qn,QG];kernel_rfl
section
variable{prog:d5}{w:c9}{A:f7}{E:c7->f8->Prop}{h:d8}{g:Array GenState}{d:Drawn}{t:Nat}{os:OsState}{a:d6}{o:d7}
theorem Dc(x:h.get? a=b7 o)(i:o.cls=.type "tuple")(b:o.dict=b8)(c:o.data=.seq its nn)(f:A.handled=b8)(q:∀h' tk e,Heap.NewAttrErr h h' e (.ref a) "keys"->R (.error<|.ref e) ⟨h',g,d,tk,os⟩):k5 (h7 prog w) A (.call (.builtin "tuple.__getattribute__") ⟨[.ref a,.str "keys" u],[]⟩) R ⟨h,g,d,t,os⟩:=by
 obtain⟨j,k,C,G⟩:=o;obtain rfl:j=.type "tuple":=i;obtain rfl:k=b8:=b;obtain rfl:C=.seq its nn:=c;have T:(⟨h,g,d,t,os⟩:f8).TypeIs (.ref a) "tuple":=⟨_,x,rfl⟩
 have l:=qC;refine codeAny_call_builtin RK.plain PySem.F.entry_tuple_ga<|RK.check _ _ _ _ _ _ _ _ T (PySem.F.args_tuple_getattribute_2 _ _) ?_;unfold Builtin.«object.__getattribute__»
 repeat (any_goals (first|assumption|wp_step))
 refine wpAny_raiseAttrError (o:=.ref a) (name:="keys") (by first|exact f|simpa using f) q ?_;exact attrMsg_fits (by decide +kernel)<|by size_fits
theorem yy(x:h.get? a=b7 o)(k:o.cls=.type "tuple")(c:o.dict=b8)(f:o.data=.seq its nn)(j:A.handled=b8)(q:∀h' tk,(∀b ob,h.get? b=b7 ob->h'.get? b=b7 ob)->Q b8 ⟨h',g,d,tk,os⟩):g7 (h7 prog w) A (getAttr? (.ref a) "keys") Q E ⟨h,g,d,t,os⟩:=by
 obtain⟨l,m,C,G⟩:=o;obtain rfl:l=.type "tuple":=k;obtain rfl:m=b8:=c;obtain rfl:C=.seq its nn:=f;have T:∀tk,(⟨h,g,d,tk,os⟩:f8).TypeIs (.ref a) "tuple":=λ_=>⟨_,x,rfl⟩
 have n:=sub_AttributeError;have M:=RK.lookup;have r:=RK.bind<|.ref a;have y:=PySem.am_tuple_getattr_none;unfold getAttr? getAttrBy? getAttrBy
 repeat (any_goals (first|assumption|exact T _|wp_step))
 refine Dc x rfl rfl rfl (by first|exact j|simpa using j) λh' tk e i=>?_;obtain⟨t',J,p⟩:=i.there;unfold getattributeRaised
 repeat (any_goals (first|assumption|wp_step))
 exact q _ _ i.keeps
end
theorem t9.tupN(I:t9 X pins σ H s)(h:B7 X.K H a xs):∃its:List c7,ay xs its/\Fz s.heap a its.toArray/\xs.length<=sizeLine:=by
 rcases h with h|⟨o,its,n,k,f,d,hs,b,r⟩
 obtain⟨z,its,r,p⟩:=h.ok I.hok;exact⟨its,r,p,z⟩;refine⟨its.toList,r,⟨o,I.kIn a o k,f,⟨n,by simpa using hs⟩,d⟩,?_⟩;have e:=r.length;simp only[E1]at e;lia
inductive TopB(mg:c8->Option c7):List c8->List (c8×Int)->Prop
 |nil:TopB mg [] []
 |b {x:c8}{B:List c8}{C:List (c8×Int)} (h:mg x=b8) (t:TopB mg B C):TopB mg (x::B) C
 |c {x:c8}{i:Int}{C:List (c8×Int)} (h:∃t,mg x=b7 (.int i t)) (t:TopB mg [] C):TopB mg [] ((x,i)::C)
theorem TopB.no(h:TopB mg B C)(c:B.contains x=b9):mg x=b8:=by
 induction h with
 |nil=>simp at c
 |b h _ i=>simp only[List.contains_cons,Q7,p8]at c;rcases c with rfl|c;exact h;exact i c
 |c _ _ _=>simp at c
noncomputable def nodB:List c8->Bool
 | []=>b9
 |x::xs=>!xs.contains x&&nodB xs
theorem Ku:∀{l:List c8},nodB l=b9->l.Nodup
 | [],_=>Pq
 |x::xs,h=>by simp only[nodB,D9,Bool.not_eq_true',List.contains_eq_mem,decide_eq_false_iff_not]at h;exact J5.mpr ⟨h.1,Ku h.2⟩
noncomputable def tgN:g8->List c8
 |.Name x _=>[x]
 |.Tuple es _ _=>es.filterMap fun|.Name x _=>b7 x|_=>b8
 |_=>[]
noncomputable abbrev Oj(N:List c8)(js:List Nat)(tg:g8):List c8:=tgN tg++js.map λj=>N.getD j ""
theorem k_lcN(hi:HI X tg iter di)(R:∀cl s0 H0 ex,HG (C3 X (Oj X.N js tg) scope cl s0 H0 ex) tg g)(t:∀cl s0 H0 ex,Pe (C3 X (Oj X.N js tg) scope cl s0 H0 ex) ifs tt)(i:∀cl s0 H0 ex,HE (C3 X (Oj X.N js tg) scope cl s0 H0 ex) elt te)(B:qm X.env.scope.names X.N (Oj X.N js tg) nt js scope=b9:=by kernel_rfl) (f:X.calm=b9:=by kernel_rfl) (hs:∀x,j4 iter X.env x=pure x:=by intro _;kernel_rfl):HE X (.ListComp elt [⟨tg,iter,ifs,0⟩] scope pos) (E7 nt js di g tt te):=k_lc hi R t i B f hs
theorem uF(a:X.N.Nodup)(hi:HI X tg iter di)(R:∀cl s0 H0 ex,HG (C3 X (Oj X.N js tg) scope cl s0 H0 ex) tg g)(t:∀cl s0 H0 ex,Pe (C3 X (Oj X.N js tg) scope cl s0 H0 ex) ifs tt)(e:∀cl s0 H0 ex,HE (C3 X (Oj X.N js tg) scope cl s0 H0 ex) elt te)(B:qm X.env.scope.names X.N (Oj X.N js tg) nt js scope=b9:=by kernel_rfl) (f:X.calm=b9:=by kernel_rfl) (hs:∀x,j4 iter X.env x=pure x:=by intro _;kernel_rfl) (w:i7 (.ListComp elt [⟨tg,iter,ifs,0⟩] scope pos) (b7<|.Name x pos') pos2.line X.env=pure b9:=by kernel_rfl)(h:X.N[i]?=b7 x:=by kernel_rfl) (c:Jf X.env.scope x=b9:=by kernel_rfl) (b:X.fn x=b9:=by kernel_rfl):HS X (.Assign [.Name x pos'] (.ListComp elt [⟨tg,iter,ifs,0⟩] scope pos) pos2) (iV nt js di g tt te i):=Em a hi R t e B f hs w h c b
theorem gA(h:HA X es t):HA X es t:=h
theorem gE(h:HE X e te):HE X e te:=h
theorem gCall(h:HE X (.Call a b c pos) te):HE X (.Call a b c pos) te:=h
theorem gIx(h:HE X (.Subscript a b pos) te):HE X (.Subscript a b pos) te:=h
theorem LA(h:HE X (.Constant a b pos) te):HE X (.Constant a b pos) te:=h
theorem gT(h:HT X e tt):HT X e tt:=h
theorem gS{st:i5}{t:u4}(h:HS X st t):HS X st t:=h
theorem gOp(h:J0 X f r):J0 X f r:=h
theorem gC(h:HC X f r):HC X f r:=h
theorem Ij{b:List i5}{st:i5}{s:List i5}{t:u4}(h:b=st::s)(q:HB X (st::s) t):HB X b t:=h ▸ q
section
variable{P:d5}{w:c9}{K:u9}{mg:c8->Option c7}{base:d8}{x:c8}{st:i5}{N ps:List c8}{k:Nat}{Pr:A0}{B:List c8}{C:List (c8×Int)}{t:u4}
theorem v8.byD(T:TopB mg B C)(F:cz K mg x st ps)(e:FnScope N ps (aC st))(n:cN Pr ps)(r:TopB mg B C->N.Nodup->DerT P w K mg base k x N st t)(p:∀ds M R,Pr ds M R->t (EE M R) (eR N ds) M):v8 P w K mg base (k+1) x ps Pr:=v8.byH F e n (r T e.nd) p
theorem EQ(T:TopB mg B C)(F:Nu K x x st f fd)(e:FnScope N ps (aC st))(n:cN Pr ps)(r:TopB mg B C->N.Nodup->DerT P w K mg base k x N st t)(p:∀ds M R,Pr ds M R->t (EE M R) (eR N ds) M):FnOk P w K mg base L5 (k+1) f fd ps (Nq K Pr):=EO F e n (r T e.nd) p
end
structure Sy(X:Cx)(pins:List (d6×d7))(H:Hp)(a:d6):Prop where
 un:H a=b8
 ne:a≠X.env.locals
 fs:a∉X.fs
 s0:X.s₀.heap.objs.size<=a
 cl:∀x c,X.env.cells.lookup x=b7 c->c≠a
 pn:∀p∈X.pn++pins,p.1≠a
structure KySt(X:Cx)(pins:List (d6×d7))(σ:St)(ρ:List d6)(M:u8)(m:c8->Option c7)(kS aD:d6)(e1:Nat)(H0 H:Hp)(s:f8)(ks:List c7)(e:Nat):Prop where
 inv:t9 X pins σ H s
 ns:s.heap.Ns X.env.locals m
 sm:v9 X.K ρ M H
 gr:Grow X.K ρ H0 ρ H
 hk:s.heap.get? kS=b7 (n9 "list" (Qf ks) e)
 hd:s.heap.get? aD=b7 (n9 "list" #[] e1)
 ok:Sy X pins H kS
 od:Sy X pins H aD
 ne:aD≠kS
structure BlkScC(X:Cx)(N':List c8)(nt:Nat)(js:List Nat)(scope:f9):Prop where
 kind:scope.kind=.function
 kinds:∀y∈scope.names,scope.names.lookup y.1=b7 y.2
 free:∀y∈scope.names,y.2=.free->(X.env.kindOf y.1=b7 .cell\/X.env.kindOf y.1=b7 .free)
 len:N'.length=nt+js.length
 fr:∀(k j:Nat),js[k]?=b7 j->∃x,N'[nt+k]?=b7 x/\X.N[j]?=b7 x/\scope.names.lookup x=b7 .free/\(X.env.kindOf x=b7 .cell\/X.env.kindOf x=b7 .free)
structure CfOk(h:d8)(k:Nat)(names:List (c8×k7))(acc cs:List (c8×d6)):Prop where
 look:∀z c,cs.lookup z=b7 c->(acc.lookup z=b7 c/\(z,Ou)∉names)\/((z,Ou)∈names/\k<=c/\h.IsCell c b8)
 inj:∀y z c,cs.lookup y=b7 c->cs.lookup z=b7 c->y=z
 old:∀z c,acc.lookup z=b7 c->∃c',cs.lookup z=b7 c'
 new:∀z,(z,Ou)∈names->∃c,cs.lookup z=b7 c
def IE(i:Nat):MJ:=ag i
noncomputable def IF(kvs:List (D×D))(k:D):List (D×D):=kvs.filter λp=>!decide (p.1=k)
def sd(M:u8)(n:Nat)(kvs:List (D×D)):Prop:=M[n]?=b7 (.dkt kvs)\/∃e,M[n]?=b7 (.dkq e kvs)
theorem lC{α:Type}(f:α->D)(k:D):∀(l:List α) (j:Nat) (x:α),(l.map f).Nodup->l[j]?=b7 x->f x=k->l.eraseIdx j=l.filter λy=>!decide (f y=k)
 | [],j,x,_,h,_=>by simp at h
 |y::l,0,x,nd,h,e=>by
  obtain rfl:y=x:=by simpa using h
  rw[B9,J5]at nd;rw[List.eraseIdx_cons_zero,MZ,p4<|by rw[e];simp];refine(R3.mpr λz hz=>?_).symm;have:f z≠k:=λq=>nd.1 (by rw[e,<-q];exact K1 hz);simp[this]
 |y::l,j+1,x,nd,h,e=>by
  rw[B9,J5]at nd;have hx:l[j]?=b7 x:=by simpa using h
  have:f y≠k:=λq=>nd.1 (by rw[q,<-e];exact K1<|E6 hx);rw[Rw,MZ,p0 (by simp[this]),lC f k l j x nd.2 hx e]
theorem uh{α β:Type}(f:α->β):∀(l:List α) (j:Nat),(l.eraseIdx j).map f=(l.map f).eraseIdx j
 | [],_=>rfl
 |_::_,0=>rfl
 |x::l,j+1=>by rw[Rw,B9,B9,Rw,uh f l j]
theorem wz{α:Type}(f:α->D)(k:D)(l:List α)(h:∀x∈l,f x≠k):l.filter (λy=>!decide (f y=k))=l:=R3.mpr λz b=>by simp[h z b]
theorem qL{α β:Type}{R:α->β->Prop}{p:α->Bool}{q:β->Bool}{xs:List α}{ys:List β}(r:Paired R xs ys)(h:∀x y,R x y->p x=q y):Paired R (xs.filter p) (ys.filter q):=by
 induction r with
 |nil=>exact .nil
 |@cons x y xs ys h1 t i=>rw[MZ,MZ,h _ _ h1];cases q y;exact i;exact .cons h1 i
theorem takeE(u:(aZ prog w).room A)(t:(aZ prog w).is s.heap k b)(r:s.heap.DictOfH (aZ prog w) d xs) (x:dQ d e xs prog w s.heap) (hz:xs.length<=sizeLine)(a:(∀(j:Nat) (p:d6×c7),xs[j]?≠b7 (k,p))->Q b8 { s with toks:=s.toks+(aZ prog w).draws k })(c:∀(j:Nat) (p:d6×c7),xs[j]?=b7 (k,p)->∀h',dQ d (e+1) (xs.eraseIdx j) prog w h'->I0 d s.heap h'->Q (b7 ⟨A5 w 8 k,.ref p.1,p.2⟩) { s with heap:=h',toks:=s.toks+(aZ prog w).draws k }):g7 (h7 prog w) A (Builtin.Dict.takeOut d<|.ref b) Q E s:=by
 obtain⟨_,_,_,_,_,_,_,g,v⟩:=r;obtain⟨o,es,m,q,f,h⟩:=x;have n:es.toList=xs.map (e7<|aZ prog w):=h;have y:es.size=xs.length:=size_of_entries n;unfold Builtin.Dict.takeOut
 try with_reducible refine E4 ?_
 refine t6<|(aZ prog w).pyHash u t ?_;refine t6<|wpAny_dictFind_heap (s:={ s with toks:=s.toks+(aZ prog w).draws k }) u t m f n g v (λi=>t8<|a i) λj p L=>?_;refine t6<|Ni (s:={ s with toks:=s.toks+(aZ prog w).draws k }) m f ?_;have z:es[j]?=b7 ⟨A5 w 8 k,.ref p.1,p.2⟩:=by rw[<-G4,h,C6,L];rfl
 rw[z];refine t6<|Rp (hz:=by lia) (s:={ s with toks:=s.toks+(aZ prog w).draws k }) m f<|t8<|c j p L _ ⟨_,es.eraseIdxIfInBounds j,MB _ m<|PB<|OD f _,q.mapDictKeys _,OD f _,?_⟩<|L9 ..;have:(es.eraseIdxIfInBounds j).toList=es.toList.eraseIdx j:=by obtain⟨l⟩:=es;simp
 rw[this,h];exact(uh _ _ _).symm
theorem yR(a b:d6)(hs:(a==d9)=c5)(d:c7):MeetsIn prog w (Builtin.«dict.pop» ⟨[.ref a,.ref b,d],[]⟩) (λA R s=>(aZ prog w).room A.in1/\∃k xs e,(aZ prog w).is s.heap k b/\s.heap.DictOfH (aZ prog w) a xs/\dQ a e xs prog w s.heap/\xs.length<=sizeLine /\ ((∀(j:Nat) (p:d6×c7),xs[j]?≠b7 (k,p))->∀t,s.toks<=t->R (.ok<|.ret d) { s with toks:=t }) /\∀(j:Nat) (p:d6×c7),xs[j]?=b7 (k,p)->∀h',dQ a (e+1) (xs.eraseIdx j) prog w h'->I0 a s.heap h'->R (.ok<|.ret p.2) { s with heap:=h',toks:=s.toks+(aZ prog w).draws k }):=.of_wp λA R s ⟨u,k,xs,e,c,f,x,z,h1,h2⟩=>by
  obtain⟨o,es,n,r,g,i⟩:=id x;unfold Builtin.«dict.pop»;refine t6 ?_;unfold SH;refine t6<|OE f.typeIs ?_;show g7 _ _ (pure (a,AB6 b,b7 d)) _ _ s;refine t8 ?_;have hp:(keyPart<|AB6 b).isSome=c5:=rfl;simp only[hp,B5,r9];refine t6<|Ni n g<|t6<|t8 ?_;cases m:es.isEmpty;simp only[B5,r9];refine t6<|takeE u c f x z (λh=>?_) λj p L h' q T=>?_;simp only[Option.isNone_none,s9];unfold SG;simp only[hs,B5,r9];exact t6<|t8<|t6<|Ix<|t8 ⟨d,rfl,h1 h _<|Qp _ _⟩;simp only[Option.isNone_some,B5,r9];exact t6<|wpAny_letGo<|t8 ⟨p.2,rfl,h2 j p L h' q T⟩;simp only[s9];have h:∀(j:Nat) (p:d6×c7),xs[j]?≠b7 (k,p):=by
   intro j p L;have:es.toList=[]:=by
    obtain⟨l⟩:=es;cases l with
    |nil=>rfl
    |cons _ _=>cases m
   rw[i]at this;rw[List.map_eq_nil_iff.mp this]at L;simp at L
  refine t6<|Ix<|t6<|t8 ?_;simp only[Option.isNone_none,s9];unfold SG;simp only[hs,B5,r9];exact t6<|t8<|t6<|Ix<|t8 ⟨d,rfl,h1 h _<|v6 _⟩
section
variable{K:u9}{ρ:List d6}{H:Hp}{M:u8}{kvs:List (D×D)}{xs:List (D×d6×c7)}
theorem v9.writeQ(S:v9 K ρ M H)(t:ρ[n]?=b7 a)(u:sd M n kvs)(w:H a=b7 (.ext<|dQ a e xs))(x:kvs'.length<=sizeLine)(hs:(a==d9)=c5)(X:(kvs'.map (·.1)).Nodup)(r:Paired (rZ K ρ H) kvs' xs'):v9 K ρ (M.set n<|.dkq e' kvs') (x3 H a<|.ext<|dQ a e' xs')/\Grow K ρ H ρ (x3 H a<|.ext<|dQ a e' xs'):=by
 have g:Grow K ρ H ρ (x3 H a<|.ext<|dQ a e' xs'):=⟨Oa,λ_ _ h=>B7.writtenX w h⟩
 have l:∀m,m≠n->(M.set n<|.dkq e' kvs')[m]?=M[m]?:=λm i=>Na<|A2 i;have c:¬MH M[n]?:=λ⟨_,z⟩=>by rcases u with u|⟨_,u⟩<;>(rw[u]at z;cases z)
 refine⟨⟨λm o b j d f=>?_,by rw[NX];exact S.len,λm b p d f=>?_⟩,g⟩;have q:=S.nd m o b j d f;by_cases h1:m=n;subst h1;rw[l o<|A2 j];exact .inr<|q.resolve_left c;rw[l m h1];by_cases h2:o=n;subst h2;exact .inl<|q.resolve_right c;rw[l o h2];exact q;by_cases i:m=n;subst i;have k:b=a:=C0<|d.symm.trans t;subst k;rw[Nj<|by rw[<-S.len];exact(z9.mp t).1]at f;cases f;refine⟨x,hs,X,xs',aR,Paired.mapP r ?_⟩;rintro _ _ ⟨y,A,B,v,J,C⟩;exact⟨y,A,B.grow g,v,J.grow g,C⟩;rw[l m i]at f;by_cases k:b=a;subst k;have s:=(S.nd m n b i d t).resolve_right c;rw[f]at s;exact(S.obj m b p d f).grow g<|.inr s;exact(S.obj m b p d f).grow g<|.inl<|az k
theorem v9.asQ(S:v9 K ρ M H)(t:ρ[n]?=b7 a)(u:sd M n kvs):∃e,v9 K ρ (M.set n<|.dkq e kvs) H:=by
 have p:n<M.length:=by rw[<-S.len];exact(z9.mp t).1
 obtain⟨e,o⟩:∃e,kvs.length<=sizeLine/\(a==d9)=c5/\(kvs.map (·.1)).Nodup/\∃xs,H a=b7 (.ext<|dQ a e xs)/\Paired (rZ K ρ H) kvs xs:=by
  rcases u with u|⟨e,u⟩
  obtain⟨h1,h2,i,xs,l,r⟩:=S.obj _ _ _ t u;exact⟨xs.length,h1,h2,i,xs,l,r⟩;exact⟨e,S.obj _ _ _ t u⟩
 have k:∀m,m≠n->(M.set n<|.dkq e kvs)[m]?=M[m]?:=λm g=>Na<|A2 g;have c:¬MH M[n]?:=λ⟨_,z⟩=>by rcases u with u|⟨_,u⟩<;>(rw[u]at z;cases z)
 refine⟨e,λm j b h d f=>?_,by rw[NX];exact S.len,λm b s d f=>?_⟩;have q:=S.nd m j b h d f;by_cases h1:m=n;subst h1;rw[k j<|A2 h];exact .inr<|q.resolve_left c;rw[k m h1];by_cases h2:j=n;subst h2;exact .inl<|q.resolve_right c;rw[k j h2];exact q;by_cases g:m=n;subst g;rw[Nj p]at f;cases f;obtain rfl:b=a:=C0<|d.symm.trans t;exact o;rw[k m g]at f;exact S.obj m b s d f
end
theorem xT(I:t9 X pins σ H s)(m:v9 X.K ρ M H)(e:ρ[n]?=b7 a)(u:sd M n kvs):∃xs ep,H a=b7 (.ext<|dQ a ep xs)/\Paired (rZ X.K ρ H) kvs xs/\s.heap.DictOfH (aZ X.prog X.w) a xs/\(a==d9)=c5/\kvs.length<=sizeLine/\xs.length=kvs.length/\(kvs.map (·.1)).Nodup:=by
 rcases u with u|⟨ep,u⟩
 obtain⟨xs,h,r⟩:=lF I m e u;exact⟨xs,xs.length,h,r⟩;obtain⟨h1,h2,b,xs,h,r⟩:=m.obj _ _ _ e u;obtain⟨⟨o,es,t,l,Q,c⟩,_⟩:=(show bY X.prog X.w H s.heap a (.ext<|dQ a ep xs)from I.hok a _ h)
 have Z:=dH r;refine⟨xs,ep,h,r,⟨o,es,_,t,l,Q,c,λx d=>?_,by rw[Z];exact b⟩,h2,h1,?_,b⟩;obtain⟨i,hi⟩:=M9 d;obtain⟨p,_,q,j,k,_⟩:=cE r hi;rw[<-q];exact dE I 8 _ _ _ k rfl j;have:=t4 F8 Z
 rwa [v4,v4]at this
theorem ES(d:dQ a e xs P w h'):bY P w H' h' a (.ext<|dQ a e xs):=by obtain⟨o,es,t,l,Q,I⟩:=d;refine⟨⟨o,es,t,l,Q,I⟩,⟨o,t⟩,?_⟩;rintro h1 h2 ⟨o,es,t,l,Q,I⟩ k;exact⟨o,es,k _ t,l,Q,I⟩
theorem LU(I:t9 X pins σ H s)(h:H a=b7 (.ext<|dQ a e xs)):dQ a e xs X.prog X.w s.heap:=(show bY X.prog X.w H s.heap a (.ext<|dQ a e xs)from I.hok a _ h).1
section
variable{X:Cx}{o:g8}{pos:Pos}{k:Nat}{name:c8}{id:String}{e:g8}{es:List g8}{to:x6}{t:F5}{apos cpos:Pos}
def RR(r:Nat->C5)(e:x6)(t:F5):x6:=λS M Q=>e S M λx M1=>match x with
 |.ref n=>(∃kvs,sd M1 n kvs)/\t S M1 λds M2=>r n ds M2 Q
 |_=>False
theorem d_mq(slot:Slot "dict" name id)(y:m5 (.builtin id)=pure (.type "method_descriptor"))(P:G9 X id (iI X.K r))(T:DE X o to)(O:DA X (e::es) t)(c:m6 o name X.env (eval o X.env)=eval o X.env:=by rfl)(f:((i3 cpos<|i4 (e::es) X.env).all (λx=>!x.1)&&(m7 cpos<|m8 [] X.env).all (λx=>x.1.isSome) && decide ((e::es).length+([]:List m9).length+(if ([]:List m9).isEmpty then 0 else 1)<30))=b9:=by rfl)(d:(apos.endLine==cpos.line)=b9:=by rfl) (hs:i4 (e::es) X.env=(c5,eval e X.env)::i4 es X.env:=by rfl) (h:(i3 cpos<|i4 es X.env).any (·.1)=c5:=by rfl):DE X (.Call (.Attribute o name apos) (e::es) [] cpos) (RR r to t):=by
 rintro p s σ H R I ⟨S,M,ρ,Q,sm,F,q,V⟩;refine QH c f d rfl<|w6 (T p s σ H _ I ⟨S,M,ρ,_,sm,F,q,λv H' z=>z⟩) ?_;rintro u s1 ⟨v,G,A,rv,x,M1,l,j,g1,Z,g⟩;cases Z with
 |@ref n a E =>
  cases rv;obtain⟨⟨kvs,N⟩,g⟩:=(show (∃kvs,sd M1 n kvs)/\t S M1 _ from g)
  obtain⟨xs,ep,hH,r,B,U,hl,hx,nd⟩:=xT A j E N;refine⟨"dict",id,PJ,slot,y,B.typeIs,λb z=>?_,?_⟩;cases z;obtain⟨W,_,_,h1,h2,_⟩:=B;exact⟨W,h1,h2.2.1⟩;have D:=O cpos p s1 σ G _ A ⟨S,M1,l,_,j,F.grow g1,g,λvs H' z=>z⟩;rw[hs]at D ⊢;refine OF (by show (c5||(i3 cpos<|i4 es X.env).any (·.1))=c5;rw[h]<;>rfl)<|QF ?_;refine w6 D ?_;rintro us s2 ⟨vs,J,L,i,ds,M2,m,k,C,rr,Y⟩;exact P p s2 σ J (.ref a) vs (.ref a) us R L rfl i ⟨n,a,ds,M2,m,Q,rfl,ao C.pre E,k,rr,Y,λv H' w=>V v H'<|VQ.trans (g1.trans C) w⟩
 |_=>exact g.elim
def Do(n:Nat):C5:=λds M Q=>match ds with
 | [.tup ks,d]=>∃kvs,sd M n kvs/\da 8 (.tup ks)=b9/\∀e,Q ((aG kvs<|.tup ks).getD d)<|M.set n<|.dkq e<|IF kvs<|.tup ks
 |_=>False
theorem Hh(hr:Room k X.A):G9 X "dict.pop" (iI X.K Do):=by
 rintro U s σ H x xs v us R I rx rs ⟨n,a,ds,M,ρ,Q,ez,o,J,f,q,P⟩;have un:=hr.un;unfold Do at q;split at q;rename_i c d;obtain⟨kvs,u,kd,q⟩:=q;have z:=Reps.inv_cons f;clear f;obtain⟨_,_,rfl,r1,f⟩:=z;have z:=Reps.inv_cons f;clear f;obtain⟨_,_,rfl,r2,f⟩:=z;obtain rfl:=Reps.inv_nil f;obtain⟨u1,u2,rfl,Y,Z⟩:=ay.two rs;subst ez;cases rx;obtain⟨ys,O,i,r,N,T,hl,hx,S⟩:=xT I J o u;have g:=dE I 8 _ _ _ r1 Y kd;obtain⟨b,_,rfl,_⟩:=id g;have C:(ys.map (·.1)).Nodup:=by rw[dH r];exact S
 refine Ot PySem.F.slot_dict_pop N.typeIs PySem.F.entry_dict_pop (PySem.F.args_dict_pop_3 _ _ _) (yR a b T u2) ⟨by show X.A.units+1+8<j8;lia,.tup c,ys,O,g,N,LU I i,by lia,λw t ht=>?_,λj p L h' V sb=>?_⟩;have h:∀x∈kvs,x.1≠D.tup c:=by
  intro x m B;have l:D.tup c∈ys.map (·.1):=by rw[dH r,<-B];exact K1 m
  obtain⟨y,hy,G⟩:=z6.mp l;obtain⟨j,L⟩:=M9 hy;exact w j y.2<|by rw[L,<-G]
 have hg:aG kvs (.tup c)=b8:=by unfold aG;rw[Rk.mpr λx m=>by simp[h x m]];rfl
 rw[hg,show IF kvs (.tup c)=kvs from wz _ _ _ h]at q;obtain⟨e,sq⟩:=J.asQ o u;exact⟨_,H,I.tok _,Z,P _ _ ⟨d,_,ρ,sq,.refl,r2,q e⟩⟩;rcases pY r (.tup c)with⟨z1,z2⟩|⟨d',p',v',z1,z2,z3,z4⟩
 rw[Pl C L]at z2;cases z2;rw[Pl C L]at z2;cases z2;rw[z1]at q;have re:Paired (rZ X.K ρ H) (IF kvs<|.tup c) (ys.eraseIdx j):=by rw[lC (·.1) (.tup c) ys j _ C L rfl];exact qL r λx y E=>by rw[E.1]
 obtain⟨w1,W⟩:=J.writeQ (e':=O+1) o u i (J1 (K9 _ _) hl) T (S.sublist<|List.Sublist.map _ List.filter_sublist) re;have he:∃q,h'.get? a=b7 q:=let ⟨q,_,hq,_⟩:=V;⟨q,hq⟩
 exact⟨v',_,rO I (by rw[i];exact NP) sb he<|ES V,z4,P _ _ ⟨d',_,ρ,w1,W,z3.grow W,q _⟩⟩;exact q.elim
theorem KU(i:Room k X.A)(m:HE X o to)(f:HA X (e::es) t)(h:m6 o "pop" X.env (eval o X.env)=eval o X.env:=by kernel_rfl)(w:((i3 cpos<|i4 (e::es) X.env).all (λx=>!x.1)&&(m7 cpos<|m8 [] X.env).all (λx=>x.1.isSome) && decide ((e::es).length+([]:List m9).length+(if ([]:List m9).isEmpty then 0 else 1)<30))=b9:=by kernel_rfl)(a:(apos.endLine==cpos.line)=b9:=by kernel_rfl) (hs:i4 (e::es) X.env=(c5,eval e X.env)::i4 es X.env:=by kernel_rfl) (n:(i3 cpos<|i4 es X.env).any (·.1)=c5:=by kernel_rfl):HE X (.Call (.Attribute o "pop" apos) (e::es) [] cpos) (RR Do to t):=⟨d_mq PySem.F.slot_dict_pop PySem.F.type_dict_pop (Hh i) m.ok f.ok h w a hs n⟩
end
def IL(t a:x6):x6:=λS M Q=>t S M λx M1=>a S M1 λy M2=>match x,y with
 |.ref n,.tup ks=>∃kvs d,sd M2 n kvs/\da 8 (.tup ks)=b9/\aG kvs (.tup ks)=b7 d/\Q d M2
 |_,_=>False
theorem Mg(P:Room k X.A)(O:DE X o td)(hi:DE X i ty)(hs:Gd i):DE X (.Subscript o i pos) (IL td ty):=by
 rintro c s σ H R I ⟨S,M,ρ,Q,sm,F,q,V⟩;have un:=P.un;refine vJ Sr.lookup hs<|w6 (O c s σ H _ I ⟨S,M,ρ,_,sm,F,q,λv H' z=>z⟩) ?_;rintro u s1 ⟨v,G,K,rv,x,M1,l,h,g1,Z,W⟩;refine w6 (hi c s1 σ G _ K ⟨S,M1,l,_,h,F.grow g1,W,λv H' z=>z⟩) ?_;rintro iv s2 ⟨w,J,f,g,y,M2,m,e,C,r2,j⟩;cases x with
 |ref n =>
  cases y with
  |tup E =>
   obtain⟨kvs,d,L,U,D,Y⟩:=j;obtain⟨a,rfl,N⟩:=u6.inv_ref Z;obtain rfl:u=AB6 a:=rv;obtain⟨xs,ep,hH,r,B,T,hl,hx,_⟩:=xT f e (ao C.pre N) L;have t:=dE f 8 _ _ _ r2 g U;rcases pY r (.tup E)with⟨z,_⟩|⟨d',p,v',e1,e2,e3,e4⟩
   rw[D]at z;cases z;rw[D]at e1;cases e1;obtain⟨b,_,rfl,_⟩:=id t;refine⟨B.typeIs,wpAny_getItem_heap (knd:=aZ X.prog X.w) (k:=.tup E) (by show X.A.units+1+8<j8;lia) t B e2 ⟨v',J,f.tok _,e4,V _ _ ⟨d,M2,m,e,g1.trans C,e3,Y⟩⟩⟩
  |_=>exact j.elim
 |_=>exact j.elim
theorem rL(I:t9 X pins σ H s)(b:H a=b7 (.ext<|dQ a ep xs)):∃es,dL s.heap a es ep/\es.size=xs.length/\∀(i:Nat) x,xs[i]?=b7 x->∃e,es[i]?=b7 e/\e.key=.ref x.2.1/\e.val=x.2.2:=by
 obtain⟨o,es,h1,h2,h,d⟩:=LU I b;refine⟨es,⟨o,h1,h2,h⟩,?_,λi x c=>?_⟩;have:=t4 F8 d
 rwa [E1,v4]at this
 refine⟨⟨A5 X.w 8 x.1,.ref x.2.1,x.2.2⟩,?_,rfl,rfl⟩;rw[<-G4,d,C6,c];rfl
theorem KZ(r:Room k X.A)(m:HE X o td)(hi:HE X i ty)(hs:Gd i:=by intro _ _;kernel_rfl):HE X (.Subscript o i pos) (IL td ty):=⟨Mg r m.ok hi.ok hs⟩
theorem my{K:u9}{ρ:List d6}{H:Hp}:∀{kvs:List (c8×D)}{vs:List V},Reps K ρ H (kvs.map (·.2)) vs->gh kvs k=b8->wQ (jv (kvs.map (·.1)) vs) (ABp k)=b8
 | [],_,_,_=>by rfl
 |(k',d')::kvs,_,.cons (v:=v) (vs:=vs) h t,e=>by
  have hk:k'≠k:=λz=>by subst z;simp[gh]at e
  have e':gh kvs k=b8:=by
   have:gh ((k',d')::kvs) k=gh kvs k:=by simp[gh,hk]
   rw[<-this];exact e
  have q:=my t e';show wQ ((ABp k',v)::jv (kvs.map (·.1)) vs) (ABp k)=b8;rw[qA<|λz=>hk<|by injection z];exact q
def P0(r:Nat->C5)(e:x6)(t:F5):x6:=λS M Q=>e S M λx M1=>match x with
 |.ref n=>(∃kvs,M1[n]?=b7 (.dct kvs))/\t S M1 λds M2=>r n ds M2 Q
 |_=>False
theorem d_mk{X:Cx}{o:g8}{name:c8}{id:String}{e:g8}{es:List g8}{L:x6}{t:F5}{d c:Pos}(slot:Slot "dict" name id)(y:m5 (.builtin id)=pure (.type "method_descriptor"))(W:G9 X id (iI X.K r))(Y:DE X o L)(V:DA X (e::es) t)(f:m6 o name X.env (eval o X.env)=eval o X.env:=by rfl)(i:((i3 c<|i4 (e::es) X.env).all (λx=>!x.1)&&(m7 c<|m8 [] X.env).all (λx=>x.1.isSome) && decide ((e::es).length+([]:List m9).length+(if ([]:List m9).isEmpty then 0 else 1)<30))=b9:=by rfl)(g:(d.endLine==c.line)=b9:=by rfl) (hs:i4 (e::es) X.env=(c5,eval e X.env)::i4 es X.env:=by rfl) (h:(i3 c<|i4 es X.env).any (·.1)=c5:=by rfl):DE X (.Call (.Attribute o name d) (e::es) [] c) (P0 r L t):=by
 rintro p s σ H R I ⟨S,M,ρ,Q,sm,J,q,Z⟩;refine QH f i g rfl<|w6 (Y p s σ H _ I ⟨S,M,ρ,_,sm,J,q,λv H' z=>z⟩) ?_;rintro u s1 ⟨v,N,C,rv,x,M1,A,j,g1,r1,k⟩;cases r1 with
 |@ref n a G =>
  cases rv;obtain⟨⟨kvs,U⟩,k⟩:=(show (∃kvs,M1[n]?=b7 (.dct kvs))/\t S M1 _ from k)
  obtain⟨ws,T,_⟩:=j.obj _ _ _ G U;obtain⟨z1,z2,ai,aj,D⟩:=IC C.hok T;refine⟨"dict",id,PJ,slot,y,D.typeIs,λb z=>?_,?_⟩;cases z;obtain⟨ob,_,_,h1,h2,_⟩:=D;exact⟨ob,h1,h2.2.1⟩;have F:=V c p s1 σ N _ C ⟨S,M1,A,_,j,J.grow g1,k,λvs H' z=>z⟩;rw[hs]at F ⊢;refine OF (by show (c5||(i3 c<|i4 es X.env).any (·.1))=c5;rw[h]<;>rfl)<|QF ?_;refine w6 F ?_;rintro us s2 ⟨vs,O,P,l,ds,M2,B,m,E,rr,q2⟩;exact W p s2 σ O (.ref a) vs (.ref a) us R P rfl l ⟨n,a,ds,M2,B,Q,rfl,ao E.pre G,m,rr,q2,λv H' w=>Z v H'<|VQ.trans (g1.trans E) w⟩
 |_=>exact k.elim
def xy(n:Nat):C5:=λds M Q=>match ds with
 | [.str x,d]=>∃kvs,M[n]?=b7 (.dct kvs)/\Q ((gh kvs x).getD d) M
 |_=>False
theorem Ea{X:Cx}:G9 X "dict.get" (iI X.K xy):=by
 rintro p s σ H x xs v us R I F E ⟨n,a,ds,M,ρ,Q,j,y,m,f,q,C⟩;unfold xy at q;split at q;rename_i x d;obtain⟨kvs,u,q⟩:=q;have z:=Reps.inv_cons f;clear f;obtain⟨_,_,rfl,B,f⟩:=z;have z:=Reps.inv_cons f;clear f;obtain⟨_,_,rfl,D,f⟩:=z;obtain rfl:=Reps.inv_nil f;obtain rfl:=u6.inv_str B;obtain⟨P,G,rfl,t,g⟩:=ay.two E;subst j;obtain rfl:v=AB6 a:=F;obtain⟨L,o,r⟩:=m.obj _ _ _ y u;obtain⟨N,J,A,l,e⟩:=IC I.hok o;refine Ot PD e.typeIs Sd (Sg _ _ _) (meets_dict_get_default (bV X.prog X.w) a (By (k:=ABp x) t) J G) ⟨_,e.mapOf,?_⟩;cases c:gh kvs x with
 |none=>rw[c]at q;exact⟨_,H,I.tok _,(by have:=(l.val<|ABp x).getD g;rw[my r c]at this;exact this),C _ _ ⟨d,M,ρ,m,.refl,D,q⟩⟩
 |some h=>rw[c]at q;obtain⟨Y,i,b⟩:=jA r c;exact⟨_,H,I.tok _,(by have:=(l.val<|ABp x).getD g;rw[i]at this;exact this),C _ _ ⟨h,M,ρ,m,.refl,b,q⟩⟩
 exact q.elim
def xx(n:Nat):C5:=λds M Q=>match ds with
 | [.str x,d]=>∃kvs,M[n]?=b7 (.dct kvs)/\kvs.length<sizeLine/\(∀y,gh kvs x=b7 y->Q y M)/\(gh kvs x=b8->Q d (M.set n<|.dct<|lZ kvs x d))
 |_=>False
theorem DZ:G9 X "dict.setdefault" (iI X.K xx):=by
 rintro D s σ H x xs v us R I rx rs ⟨n,a,ds,M,ρ,Q,P,B,o,f,q,C⟩;unfold xx at q;split at q;rename_i x d;obtain⟨kvs,y,hl,W,Y⟩:=q;have z:=Reps.inv_cons f;clear f;obtain⟨_,_,rfl,Z,f⟩:=z;have z:=Reps.inv_cons f;clear f;obtain⟨_,vd,rfl,E,f⟩:=z;obtain rfl:=Reps.inv_nil f;obtain rfl:=u6.inv_str Z;obtain⟨u1,G,rfl,N,u⟩:=ay.two rs;subst P;obtain rfl:v=AB6 a:=rx;obtain⟨ws,j,r⟩:=o.obj _ _ _ B y;obtain⟨z1,L,A,l,t⟩:=IC I.hok j;refine Ot RF t.typeIs PySem.F.entry_dict_setdefault (PySem.F.args_dict_setdefault_3 _ _ _) (kt_meets_setdefault (bV X.prog X.w) a (By (k:=ABp x) N) L G) ⟨A,t,by rw[<-l.length];exact z1,λw' h=>?_,λh h' b sb=>?_⟩;cases c:gh kvs x with
 |none=>have:=l.val<|ABp x;rw[my r c,h]at this;exact this.elim
 |some p=>obtain⟨w0,i,e⟩:=jA r c;have:=l.val<|ABp x;rw[i,h]at this;exact⟨_,H,I.tok _,this,C _ _ ⟨p,M,ρ,o,.refl,e,W _ c⟩⟩
 cases c:gh kvs x with
 |some p=>obtain⟨w0,i,e⟩:=jA r c;have:=l.val<|ABp x;rw[i,h]at this;exact this.elim
 |none =>
  obtain⟨g,S,O⟩:=Av (k:=x) E r;obtain⟨w1,J⟩:=o.writeD B y j O;have T:∃q,h'.get? a=b7 q:=let ⟨q,_,_,hq,_⟩:=b;⟨q,hq⟩
  have lw:=r.length;have m:KV (jv ((lZ kvs x d).map (·.1)) g) (stored A (ABp x) G):=by rw[<-S];exact l.put (ABp x) u
  have V:(jv ((lZ kvs x d).map (·.1)) g).length<=sizeLine:=by
   have U:=O.length;have l2:(lZ kvs x d).length<=kvs.length+1:=by unfold lZ;split<;>simp
   rw[v4]at U;rw[jv,v4,Q3,v4];lia
  exact⟨_,_,rO I (by rw[j];exact NP) sb T<|Ga V L m b,u,C _ _ ⟨d,_,ρ,w1,J,E.grow J,Y c⟩⟩
 exact q.elim
theorem HQ(m:HE X o to)(f:HA X (e::es) t)(h:m6 o "get" X.env (eval o X.env)=eval o X.env:=by kernel_rfl)(w:((i3 cpos<|i4 (e::es) X.env).all (λx=>!x.1)&&(m7 cpos<|m8 [] X.env).all (λx=>x.1.isSome) && decide ((e::es).length+([]:List m9).length+(if ([]:List m9).isEmpty then 0 else 1)<30))=b9:=by kernel_rfl)(a:(apos.endLine==cpos.line)=b9:=by kernel_rfl) (hs:i4 (e::es) X.env=(c5,eval e X.env)::i4 es X.env:=by kernel_rfl) (n:(i3 cpos<|i4 es X.env).any (·.1)=c5:=by kernel_rfl):HE X (.Call (.Attribute o "get" apos) (e::es) [] cpos) (P0 xy to t):=⟨d_mk PD R6 Ea m.ok f.ok h w a hs n⟩
theorem HP(m:HE X o to)(f:HA X (e::es) t)(h:m6 o "setdefault" X.env (eval o X.env)=eval o X.env:=by kernel_rfl)(w:((i3 cpos<|i4 (e::es) X.env).all (λx=>!x.1)&&(m7 cpos<|m8 [] X.env).all (λx=>x.1.isSome) && decide ((e::es).length+([]:List m9).length+(if ([]:List m9).isEmpty then 0 else 1)<30))=b9:=by kernel_rfl)(a:(apos.endLine==cpos.line)=b9:=by kernel_rfl) (hs:i4 (e::es) X.env=(c5,eval e X.env)::i4 es X.env:=by kernel_rfl) (n:(i3 cpos<|i4 es X.env).any (·.1)=c5:=by kernel_rfl):HE X (.Call (.Attribute o "setdefault" apos) (e::es) [] cpos) (P0 xx to t):=⟨d_mk RF PySem.F.type_dict_setdefault DZ m.ok f.ok h w a hs n⟩
noncomputable def jq(ps:List (c8×D)):List (c8×D):=ps.foldl (λkvs p=>lZ kvs p.1 p.2) []
theorem qf:jq (ps++[p])=lZ (jq ps) p.1 p.2:=by unfold jq;rw[List.foldl_append];rfl
theorem uL(ps:List (c8×D)):(jq ps).length<=ps.length:=by
 have:∀(ps acc:List (c8×D)),(ps.foldl (λkvs p=>lZ kvs p.1 p.2) acc).length<=acc.length+ps.length:=by
  intro ps;induction ps with
  |nil=>intro acc;exact v6 _
  |cons p ps i=>intro acc;have h1:=i<|lZ acc p.1 p.2;have h2:=xB (kvs:=acc) (k:=p.1) (d:=p.2);rw[List.foldl_cons,D4];lia
 have h:=this ps [];rw[C9]at h;unfold jq;lia
def Ph(X:Cx)(ρ:List d6)(H:Hp)(h:d8)(a:d6)(kvs:List (c8×D)):Prop:=∃s us,Reps X.K ρ H (kvs.map (·.2)) s/\KV (jv (kvs.map (·.1)) s) us/\h.DictOf (bV X.prog X.w) a us
theorem Ph.at(x:Ph X ρ H h a kvs)(k:∀o,h.get? a=b7 o->h'.get? a=b7 o):Ph X ρ H h' a kvs:=by obtain⟨s,us,r,l,o,es,i,t,aL⟩:=x;exact⟨s,us,r,l,o,es,i,k _ t,aL⟩
theorem FQ{X:Cx}{H:Hp}{ρ:List d6}{kvs:List (c8×D)}{s:List V}{us:List (E2×c7)}(r:Reps X.K ρ H (kvs.map (·.2)) s)(l:KV (jv (kvs.map (·.1)) s) us):us.length=kvs.length/\(jv (kvs.map (·.1)) s).length=kvs.length:=by
 have t:=r.length;have e:=l.length;rw[v4]at t;have Q:(jv (kvs.map (·.1)) s).length=kvs.length:=by rw[jv,v4,Q3,v4];lia
 lia
theorem Iv{X:Cx}{pins:List (d6×d7)}{σ:St}{H:Hp}{ρ:List d6}{A:f7}{s:f8}(I:t9 X pins σ H s)(hu:A.units+20<j8)(W:Walks X.prog X.w A.in1 J fp wr m P Sx)(S:d6)(l:S∉fp)(L:s.heap.get? S=b8) (B:∀b∈wr,s.heap.get? b=b8) (ps:List (c8×D)) (hm:ps.length=m) (y:∀i v,P i v->∃p:c8×D,ps[i]?=b7 p/\∃vv,u6 X.K ρ H (.tup [.str p.1,p.2]) vv/\aK vv v) (Q:m<=1000):∀(k i:Nat) (h:d8) (tk:Nat) (j:Int) (t:Tok),m-i=k->i<=m->Sx i h->Ph X ρ H h S (jq<|ps.take i)->(∀b u,s.heap.get? b=b7 u->h.get? b=b7 u) ->(∀h' tk,(∀b u,s.heap.get? b=b7 u->h'.get? b=b7 u)->Ph X ρ H h' S (jq ps)->R (.ok<|.ret .none) { s with heap:=h',toks:=tk }) ->k5 (h7 X.prog X.w) A (.builtin "dict.update.loop" ⟨[.ref S,.ref J,.int j t,.none],[]⟩) R { s with heap:=h,toks:=tk }:=by
 have n:S∉wr:=λh=>l<|W.sub _ h;intro k;induction k with
 |zero =>
  intro i h tk j t hk hi g F c Y;obtain rfl:i=m:=by lia
  refine NW jS ?_;rw[Of cO _];refine(show g7 (h7 X.prog X.w) A.in1 (j0 (.ref J) >>= _) _ _ _ from t6<|W.done _ _ _ g λh' tk d=>?_);rw[<-hm,MT]at F;refine(show g7 (h7 X.prog X.w) A.in1 (Builtin.Dict.addKeywords S [] >>= _) _ _ _ from t6<|t8<|t8 ?_);exact Y h' tk (λb u e=>d b u (λz=>by rw[B b z]at e;cases e)<|c b u e)<|F.at λo e=>d S o n e
 |succ k ih =>
  intro i h tk j t hk hi g F c Y;refine NW jS ?_;rw[Of cO _];refine(show g7 (h7 X.prog X.w) A.in1 (j0 (.ref J) >>= _) _ _ _ from t6<|W.item i _ _ _ (by lia) g λv h' tk hP q d=>?_);obtain⟨p,hp,vv,r,rv⟩:=y i v hP;have f:∀b u,s.heap.get? b=b7 u->h'.get? b=b7 u:=λb u e=>d b u (λz=>by rw[B b z]at e;cases e)<|c b u e;have I':t9 X pins σ H { s with heap:=h',toks:=tk }:=I.kept f;obtain⟨ws,us,Z,C,dd⟩:=F.at λo e=>d S o n e;have hl:=(FQ Z C).1;have dl:=uL<|ps.take i;rw[F6]at dl;obtain⟨a,vs,rfl,hq,E⟩:=u6.inv_tup r;obtain rfl:v=AB6 a:=rv;obtain⟨_,_,rfl,r1,E⟩:=Reps.inv_cons E;obtain⟨_,vd,rfl,r2,E⟩:=Reps.inv_cons E;obtain rfl:=Reps.inv_nil E;obtain rfl:=u6.inv_str r1;obtain⟨its,U,pl,hz⟩:=I'.tuple hq;obtain⟨u1,u2,rfl,e1,e2⟩:=ay.two U;obtain⟨x,d0⟩:=p;obtain⟨o,T,hc,nn,hd⟩:=pl;have hT:({ s with heap:=h',toks:=tk }:f8).TypeIs (.ref a) "tuple":=⟨o,T,hc⟩
  refine t6<|E4<|t6<|wpAny_tryCatch ?_;unfold Builtin.Dict.pairItems;refine t6<|NT hT ?_;rw[p0<|by decide];refine t6<|MS T hd<|t8 ?_;refine(show g7 (h7 X.prog X.w) _ (i6 [u1,u2]<|dictSet S u1 u2) _ _ _ from E4 ?_);refine wpAny_dictSet_pairs (s:={ s with heap:=h',toks:=tk }) (By (k:=ABp x) e1) dd (λh2 G sb=>?_) (ah<|by lia);have V:∀b u,b≠S->h'.get? b=b7 u->h2.get? b=b7 u:=λb u Q e=>(sb.2 b Q).trans e;obtain⟨N,f1,O⟩:=Av (k:=x) r2 Z;have et:ps.take (i+1)=ps.take i++[(x,d0)]:=by rw[M7,hp];rfl
  refine t8 ⟨N9 cO _,ih (i+1) h2 _ _ _ (by lia) (by lia) (W.frame _ h' h2 q λb' M o e=>V b' o (λz=>l<|z ▸ M) e) ?_ (λb u e=>V b u (λz=>by rw[z,L]at e;cases e)<|f b u e) Y⟩;rw[et,qf];exact⟨N,_,O,by rw[<-f1];exact C.put (ABp x) e2,G⟩
theorem Fu(I:t9 X pins σ H s)(Z:A.units+30<j8)(B:A.handled=b8)(C:s.heap.IsTuple l its)(f:s.heap.get? l=b7 ol)(t:ol.dict=b8)(ps:List (c8×D))(U:ps.length=its.size)(y:∀(i:Nat) v,its[i]?=b7 v->∃p:c8×D,ps[i]?=b7 p/\∃vv,u6 X.K ρ H (.tup [.str p.1,p.2]) vv/\aK vv v) (P:its.size<=1000)(h:∀h' tk,(∀b u,s.heap.get? b=b7 u->h'.get? b=b7 u)->Ph X ρ H h' s.heap.objs.size (jq ps)->Q (.ref s.heap.objs.size) { s with heap:=h',toks:=tk }):g7 (h7 X.prog X.w) A (call (.type "dict") [.ref l]) Q E s:=by
 refine callType_codes (Q₁:=λj s₁=>j=.ref s.heap.objs.size/\s₁={ s with heap:=s.heap.push { cls:=.type "dict",data:=.dict #[] } }) PySem.F.kt_called_dict (PySem.F.kt_typeCall_dict_1 _) PySem.F.entry_dict_init (kt_code_dict_new _ ⟨rfl,rfl⟩) ?_;rintro j s₁ ⟨rfl,rfl⟩;have S:(s.heap.push { cls:=.type "dict",data:=.dict #[] }).get? s.heap.objs.size=b7 { cls:=.type "dict",data:=.dict #[] }:=A7 _ rfl;have z:N7 { s with heap:=s.heap.push { cls:=.type "dict",data:=.dict #[] } } (.ref s.heap.objs.size) "dict":=⟨_,S,rfl⟩
 obtain⟨a,O,r,nn,m⟩:=id C;obtain rfl:a=ol:=C0<|O.symm.trans f;have c:(s.heap.push { cls:=.type "dict",data:=.dict #[] }).get? l=b7 a:=z5 _ f;have L:N7 { s with heap:=s.heap.push { cls:=.type "dict",data:=.dict #[] } } (.ref l) "tuple":=⟨a,c,r⟩
 have Y:l<s.heap.objs.size:=A1 f;refine⟨z,PySem.F.args_dict_init_2 _ _,?_⟩;unfold Builtin.«dict.__init__»;refine t6 ?_;unfold Builtin.Dict.selfAndRest;refine t6<|OE z ?_;refine(show g7 _ _ (pure (s.heap.objs.size,[AB6 l])) _ _ _ from t8 ?_);refine(show g7 _ _ (Rv "dict.__init__" s.heap.objs.size (.ref l) [] .none) _ _ _ from ?_);unfold Rv;refine t6<|NT L ?_;rw[p0<|by decide];refine t6<|yy c r t m (by simpa using B) λh1 x J=>?_;have k:∀b u,s.heap.get? b=b7 u->h1.get? b=b7 u:=λb u e=>J b u<|z5 _ e;rw[p0<|show (b8:Option c7).isNone=b9 from rfl];refine t6<|Ix ?_;obtain⟨oI,St,n,W,st⟩:=(TxSrc.tuple (prog:=X.prog) (w:=X.w) C).iter A.in1.in1 { s with heap:=h1,toks:=x } (by simpa using B) λo e=>k _ _ e;refine t6<|n _ _ ?_;have d:=J _ _ S;have M:s.heap.objs.size<h1.objs.size:=A1 d;have G:s.heap.get? s.heap.objs.size=b8:=by
  cases q:s.heap.get? s.heap.objs.size with
  |none=>rfl
  |some o=>exact p5 (A1 q)<|J4 _
 refine t8 ⟨N9 cO _,Iv (A:=A.in1) (s:=s) I (by show A.units+1+20<j8;lia) W s.heap.objs.size ?_ G ?_ ps U y P its.size 0 _ _ _ _ rfl (A9 _) st ⟨[],[],.nil,.nil,_,#[],_,z5 _ d,⟨rfl,rfl,rfl⟩,rfl,(λ_ R=>by simp at R),Pairs.nil,Pq⟩ (λb u e=>z5 _<|k b u e) λh2 T V N=>⟨rfl,h h2 T V N⟩⟩;simp only[A3,No,or_false,not_or];exact⟨A4 M,NF Y⟩;intro b g;rw[K0.mp g];cases q:s.heap.get? h1.objs.size with
 |none=>rfl
 |some o=>exact p5 (Nat.lt_trans (A1 q) M)<|J4 _
def xw:C5:=λds M Q=>match ds with
 | [.tup xs]=>∃ps:List (c8×D),xs=ps.map (λp=>.tup [.str p.1,p.2])/\ps.length<=1000/\Q (.ref M.length) (M++[.dct<|jq ps])
 |_=>False
theorem Ft(G:Room k X.A)(D:X.calm=b9):lX X (.type "dict") xw:=by rintro n s σ H vs us R I P ⟨ds,M,ρ,Q,B,c,q,K⟩;have un:=G.un;unfold xw at q;split at q;obtain⟨ps,L,W,q⟩:=q;have z:=Reps.inv_cons c;clear c;obtain⟨_,_,rfl,g,c⟩:=z;obtain rfl:=Reps.inv_nil c;obtain⟨u,rfl,t⟩:=ay.one P;subst L;obtain⟨a,ws,rfl,F,r⟩:=u6.inv_tup g;cases t;obtain⟨its,y,x,Y⟩:=I.tupN F;obtain⟨oa,j,E,⟨nn,h⟩,b⟩:=id x;have O:=r.length;have li:=y.length;rw[v4]at O;have f:H s.heap.objs.size=b8:=I.hok.fresh<|v6 _;have C:(s.heap.objs.size==d9)=c5:=beq_eq_false_iff_ne.mpr<|A2<|A4 I.big;refine Fu (A:=X.A) (ρ:=ρ) I (by lia) (I.ok.hd D) x.tup j b ps (by rw[A6];lia) (λi v J=>?_) (by rw[A6];lia) λh' S N e=>?_;obtain⟨d,Z,t,g,m⟩:=qz r y (i:=i) (u:=v) (by simpa using J);rw[C6]at t;obtain⟨p,hp,rfl⟩:=NJ.mp t;exact⟨p,hp,Z,g,m⟩;obtain⟨w,T,U,l,e⟩:=e;have V:=uL ps;have ln:=(FQ U l).2;refine⟨.ref s.heap.objs.size,_,I.laid (a:=s.heap.objs.size) (o:=.dK (jv ((jq ps).map (·.1)) w)) (t':=S) N (v6 _)<|Ga (ah<|by lia) C l e,rfl,?_⟩;exact K _ _ ⟨.ref M.length,M++[.dct<|jq ps],ρ++[s.heap.objs.size],B.laidM (mo:=.dct<|jq ps) f ⟨w,aR,U.grow<|Grow.laidR f⟩,Grow.laidR f,.ref B.last,q⟩;exact q.elim
theorem EM(i:Room k X.A)(f:X.calm=b9:=by kernel_rfl):HC X (.type "dict") xw:=⟨Ft i f⟩
end L2
namespace L2
open PySem PySem.Spec PyProof.Rows DL
def GtAt(A:f7)(s:f8)(x y:c7)(k:Bool):Prop:=∀(g:d5) (w:c9) (E:c7->f8->Prop) (Q:c7->f8->Prop),Q (.bool k) s->g7 (h7 g w) A (richCompare .Gt x y) Q E s
inductive GexAt(A:f7)(s:f8):List c7->List c7->Bool->Prop
 |nn:GexAt A s [] [] c5
 |nc {y:c7}{ys:List c7}:GexAt A s [] (y::ys) c5
 |cn {x:c7}{xs:List c7}:GexAt A s (x::xs) [] b9
 |eq {x y:c7}{xs ys:List c7}{k:Bool} (h:Nf A s x y b9) (t:GexAt A s xs ys k):GexAt A s (x::xs) (y::ys) k
 |ne {x y:c7}{xs ys:List c7}{k:Bool} (h:Nf A s x y c5) (t:GtAt A s x y k):GexAt A s (x::xs) (y::ys) k
section
variable{prog:d5}{w:c9}{A:f7}{E:c7->f8->Prop}{s:f8}{d:d6}{o:d7}{es:Array n5}{ep:Nat}{xs:List (D×c7×c7)}{k:D}{key:c7}{hs:D->Int}{Q:Option Nat->f8->Prop}
theorem rM(i:es.toList=xs.map (BZ hs))(j:Nat):es[j]?=(xs[j]?).map (BZ hs):=by rw[<-G4,i,C6]
def CF(xs:List (D×c7×c7))(k:D)(i:Nat)(h:Option Nat):Prop:=(h=b8/\∀j p,j<i->xs[j]?≠b7 (k,p))\/∃j p,h=b7 j/\j<i/\xs[j]?=b7 (k,p)
noncomputable def pM(es:Array n5)(h:Int)(i:Nat):Bool:=(es[i]?.map (·.hash))==b7 h
theorem jB(e:es.toList=xs.map (BZ hs))(a:∀j,i<=j->j<x->pM es (hs k) j=c5)(h:CF xs k i hit)(d:i<=x):CF xs k x hit:=by
 rcases h with⟨c,o⟩|⟨j,p,h1,f,L⟩
 refine .inl ⟨c,λj p b L=>?_⟩;rcases ME j i with h|h;exact o j p h L;have:=a j h b;unfold pM at this;rw[rM e j,L]at this;simp[BZ]at this;exact .inr ⟨j,p,h1,by lia,L⟩
theorem bZ(h:CF xs k x hit)(c:xs[x]?=b7 (k',p'))(e:¬k'=k):CF xs k (x+1) hit:=by
 rcases h with⟨a,o⟩|⟨j,p,h1,b,L⟩
 refine .inl ⟨a,λj p b L=>?_⟩;rcases ME j x with h|h;exact o j p h L;obtain rfl:j=x:=by lia
 rw[c]at L;exact e (by injection L with L;injection L);exact .inr ⟨j,p,h1,by lia,L⟩
theorem io(f:(xs.map (·.1)).Nodup){i j:Nat}{p q:c7×c7}(hi:xs[i]?=b7 (k,p))(hj:xs[j]?=b7 (k,q)):i=j:=by
 have h:(xs.map (·.1))[i]?=b7 k:=by rw[C6,hi];rfl
 have a:(xs.map (·.1))[j]?=b7 k:=by rw[C6,hj];rfl
 exact(List.getElem?_inj (z9.mp h).1 f).mp<|h.trans a.symm
theorem qB(e:es.toList=xs.map (BZ hs))(r:(Op i<|es.size-i).filter (pM es<|hs k)=[])(h:CF xs k i hit):CF xs k xs.length hit:=by
 have z:es.size=xs.length:=by rw[<-E1,e,v4]
 rcases ME i xs.length with hi|hi;refine jB e (λj h1 h2=>?_) h<|NU hi;have:=List.filter_eq_nil_iff.mp r j<|List.mem_range'_1.mpr ⟨h1,by lia⟩;simpa using this;rcases h with⟨a,o⟩|⟨j,p,h1,f,L⟩
 exact .inl ⟨a,λj p L=>o j p<|by lia⟩;exact .inr ⟨j,p,h1,(z9.mp L).1,L⟩
theorem oW{d:List c7}{Q:Bool->f8->Prop}(k:∀(Q:Bool->f8->Prop) (E:c7->f8->Prop),Q b9 s->g7 (h7 prog w) A (o7 8 key) Q E s)(qs:∀v∈d,∀(Q:Bool->f8->Prop) (E:c7->f8->Prop),Q b9 s->g7 (h7 prog w) A (o7 8 v) Q E s) (h:Q c5 s):g7 (h7 prog w) A (tableMayTell key d) Q E s:=by unfold tableMayTell;split;exact t8 h;refine t6<|k _ _ ?_;simp only[Ng,B5,r9];refine t6 ?_;refine Nw _ (λaL r s'=>s'=s/\r=(b8,())/\∀v∈aL,v∈d) _ ?_ ?_ _ _ ⟨rfl,rfl,λ_ c=>c⟩;rintro x aL r s' ⟨rfl,rfl,i⟩;refine t6<|qs x (i x E3) _ _ ?_;simp only[Ng,B5,r9];exact t8 ⟨rfl,rfl,λv c=>i v<|C7 _ c⟩;rintro r s' ⟨rfl,rfl,_⟩;exact t8 h
theorem ER(S:s.heap.get? d=b7 o)(N:o.data=.dict es ep)(I:es.toList=xs.map (BZ hs))(hn:(xs.map (·.1)).Nodup)(kk:key=.none\/∃a,key=.ref a)(qk:∀(Q:Bool->f8->Prop) (E:c7->f8->Prop),Q b9 s->g7 (h7 prog w) A (o7 8 key) Q E s)(qx:∀x∈xs,∀(Q:Bool->f8->Prop) (E:c7->f8->Prop),Q b9 s->g7 (h7 prog w) A (o7 8 x.2.1) Q E s)(aj:∀x∈xs,x.2.1=key->x.1=k)(X:∀x∈xs,∀(Q:Bool->f8->Prop) (E:c7->f8->Prop),Q (decide<|x.1=k) s->g7 (h7 prog w) A (eqBool x.2.1 key) Q E s)(R:(∀(j:Nat) (p:c7×c7),xs[j]?≠b7 (k,p))->Q b8 s) (n:∀(j:Nat) (p:c7×c7),xs[j]?=b7 (k,p)->Q (b7 j) s):g7 (h7 prog w) A (dictFind d key<|hs k) Q E s:=by
 have ai:es.size=xs.length:=by rw[<-E1,I,v4]
 have K:∀e∈es,∃x∈xs,e=BZ hs x:=by intro e P;have:e∈xs.map (BZ hs):=I ▸ Array.mem_toList_iff.mpr P;obtain⟨x,T,rfl⟩:=z6.mp this;exact⟨x,T,rfl⟩
 have V:¬(es.any λe=>e.key==key&&e.hash != hs k)=b9:=by rw[<-Array.any_toList,Nx];rintro⟨e,P,hc⟩;obtain⟨x,T,rfl⟩:=K e<|Array.mem_toList_iff.mp P;simp only[BZ,D9,p8,bne_iff_ne,ne_eq]at hc;exact hc.2<|by rw[aj x T hc.1]
 have Z:∀v∈(o8 es.size (λi=>es[i]?.map (·.hash))<|hs k).filterMap (λi=>es[i]?.map (·.key)),∃x∈xs,v=x.2.1:=by
  intro v hv;obtain⟨i,_,hi⟩:=Qy.mp hv;cases O:es[i]? with
  |none=>rw[O]at hi;cases hi
  |some e =>
   rw[O]at hi;obtain rfl:e.key=v:=by simpa using hi
   obtain⟨x,T,rfl⟩:=K e<|Array.mem_of_getElem? O;exact⟨x,T,rfl⟩
 have M:∀f,CF xs k xs.length f->Q f s:=by rintro f (⟨rfl,hno⟩|⟨j,p,rfl,_,L⟩);exact R λj p L=>hno j p (z9.mp L).1 L;exact n j p L
 have start:o8 es.size (λi=>es[i]?.map (·.hash)) (hs k)=(Op 0<|es.size-0).filter (pM es<|hs k):=by rw[o8,List.range_eq_range',Nat.sub_zero];rfl
 have U:CF xs k 0 b8:=.inl ⟨rfl,λ_ _ h=>p5 h<|NH _⟩;have G:∀{x i:Nat}{aL:List Nat},x::aL=(Op i<|es.size-i).filter (pM es<|hs k)->i<=es.size->∃C u v,xs[x]?=b7 (C,u,v)/\es[x]?=b7 ⟨hs C,u,v⟩/\i<=x/\x+1<=es.size/\aL=(Op (x+1)<|es.size-(x+1)).filter (pM es<|hs k)/\∀j,i<=j->j<x->pM es (hs k) j=c5:=by
  intro x i aL B hi;obtain⟨r,an,al,m,t⟩:=filter_range'_cons _ _ _ _ _ B.symm;have l:x<es.size:=by lia
  obtain⟨⟨C,u,v⟩,c⟩:∃y,xs[x]?=b7 y:=⟨xs[x]'(by rw[<-ai];exact l),w9 _⟩
  exact⟨C,u,v,c,by rw[rM I x,c];rfl,r,l,by rw[t];congr 2;lia,m⟩
 unfold dictFind
 try with_reducible refine E4 ?_
 refine t6<|Ni S N ?_;have W:∀v∈(o8 es.size (λi=>es[i]?.map (·.hash))<|hs k).filterMap (λi=>es[i]?.map (·.key)),∀(Q:Bool->f8->Prop) (E:c7->f8->Prop),Q b9 s->g7 (h7 prog w) A (o7 8 v) Q E s:=λv hv=>by obtain⟨x,T,rfl⟩:=Z v hv;exact qx x T
 rcases kk with rfl|⟨a,rfl⟩
 dsimp only;by_cases J:((ABQ::(o8 es.size (λi=>es[i]?.map (·.hash))<|hs k).filterMap (λi=>es[i]?.map (·.key))).all carriedByValue)=b9;rw[p0 J];unfold dictWalkPlain;refine t6 ?_;rw[start];refine Nw _ (λaL b s'=>s'=s/\b=(b8,())/\∃i,aL=(Op i<|es.size-i).filter (pM es<|hs k)/\i<=es.size/\CF xs k i b8) _ ?_ ?_ _ _ ⟨rfl,rfl,0,rfl,A9 _,U⟩;rintro x aL b s' ⟨rfl,rfl,i,B,hi,H⟩;obtain⟨C,u,v,c,D,r,l,t,m⟩:=G B hi;have H:=jB I m H r;rw[D];dsimp only;by_cases F:(hs C==hs k)=b9;rw[p0 F];refine t6<|MY S N<|t6<|X _ (E6 c) _ _<|t6<|MY S N ?_;show g7 _ _ (if (ep != ep)=b9 then _ else _) _ E _;rw[p4<|by simp];by_cases g:C=k;rw[dT_ g];subst g;rw[p0 rfl];exact t6<|Ix<|t8<|t8<|n x _ c;rw[dF_ g,p4<|by decide];exact t6<|Ix<|t8 ⟨rfl,rfl,x+1,t,l,bZ H c g⟩;rw[p4 F];exact t8 ⟨rfl,rfl,x+1,t,l,bZ H c λe=>F<|by rw[e];simp⟩;rintro b s' ⟨rfl,rfl,i,B,hi,H⟩;exact t8<|M b8<|qB I B.symm H;rw[p4 J];by_cases q:(((o8 es.size (λi=>es[i]?.map (·.hash))<|hs k).filterMap (λi=>es[i]?.map (·.key)))==[ABQ])=b9 <;>
 (first|rw[p0 q]|rw[p4 q])<;>(first|refine t6 (t8 ?_)|refine t6<|oW qk W ?_)<;>(
  rw[p4<|by simp];refine t6 ?_;rw[start];refine Nw _ (λaL b s'=>s'=s/\∃i f,b=(b8,f)/\aL=(Op i<|es.size-i).filter (pM es<|hs k)/\i<=es.size/\CF xs k i f) _ ?_ ?_ _ _ ⟨rfl,0,b8,rfl,rfl,A9 _,U⟩;rintro x aL b s' ⟨rfl,i,f,rfl,B,hi,H⟩;obtain⟨C,u,v,c,D,r,l,t,m⟩:=G B hi;have H:=jB I m H r;rw[D];dsimp only;by_cases F:(hs C==hs k)=b9;rw[p0 F];refine t6<|MY S N<|t6<|X _ (E6 c) _ _<|t6<|MY S N ?_;show g7 _ _ (if (ep != ep)=b9 then _ else _) _ E _;rw[p4<|by simp];by_cases g:C=k;rw[dT_ g];subst g;rcases H with⟨rfl,_⟩|⟨j,p,_,Y,L⟩
  first|rw[p0 rfl]|skip
  simp only[Option.isSome_none,B5,r9]
  first|refine t6 (t8 ?_)|skip
  refine t6<|Ix ?_;split;exact t8<|t8<|n x _ c;exact t8 ⟨rfl,x+1,b7 x,rfl,t,l,.inr ⟨x,_,rfl,MG x,c⟩⟩;exact p5 (io hn L c) (by lia);rw[dF_ g];simp only[B5,r9];refine t6<|Ix ?_
  first|rw[p4<|by simp]|skip
  first
   |exact t8 ⟨rfl,x+1,f,rfl,t,l,bZ H c g⟩
   |exact t6 (t8 (t8 ⟨rfl,x+1,f,rfl,t,l,bZ H c g⟩))
  rw[p4 F];exact t8 ⟨rfl,x+1,f,rfl,t,l,bZ H c λe=>F<|by rw[e];simp⟩;rintro b s' ⟨rfl,i,f,rfl,B,hi,H⟩;have z:=M f<|qB I B.symm H;exact t8 z)
 dsimp only;rw[p4 (show ¬((AB6 a::(o8 es.size (λi=>es[i]?.map (·.hash))<|hs k).filterMap (λi=>es[i]?.map (·.key))).all carriedByValue)=b9 by simp[carriedByValue]),p4 V];by_cases q:(((o8 es.size (λi=>es[i]?.map (·.hash))<|hs k).filterMap (λi=>es[i]?.map (·.key)))==[AB6 a])=b9 <;>
 (first|rw[p0 q]|rw[p4 q])<;>(first|refine t6 (t8 ?_)|refine t6<|oW qk W ?_)<;>(
  rw[p4<|by simp];refine t6 ?_;rw[start];refine Nw _ (λaL b s'=>s'=s/\∃i f,b=(b8,f)/\aL=(Op i<|es.size-i).filter (pM es<|hs k)/\i<=es.size/\CF xs k i f) _ ?_ ?_ _ _ ⟨rfl,0,b8,rfl,rfl,A9 _,U⟩;rintro x aL b s' ⟨rfl,i,f,rfl,B,hi,H⟩;obtain⟨C,u,v,c,D,r,l,t,m⟩:=G B hi;have H:=jB I m H r;rw[D];dsimp only;by_cases F:(hs C==hs k)=b9;rw[p0 F];refine t6<|MY S N<|t6<|X _ (E6 c) _ _<|t6<|MY S N ?_;show g7 _ _ (if (ep != ep)=b9 then _ else _) _ E _;rw[p4<|by simp];by_cases g:C=k;rw[dT_ g];subst g;rcases H with⟨rfl,_⟩|⟨j,p,_,Y,L⟩
  first|rw[p0 rfl]|skip
  simp only[Option.isSome_none,B5,r9]
  first|refine t6 (t8 ?_)|skip
  refine t6<|Ix ?_;split;exact t8<|t8<|n x _ c;exact t8 ⟨rfl,x+1,b7 x,rfl,t,l,.inr ⟨x,_,rfl,MG x,c⟩⟩;exact p5 (io hn L c) (by lia);rw[dF_ g];simp only[B5,r9];refine t6<|Ix ?_
  first|rw[p4<|by simp]|skip
  first
   |exact t8 ⟨rfl,x+1,f,rfl,t,l,bZ H c g⟩
   |exact t6 (t8 (t8 ⟨rfl,x+1,f,rfl,t,l,bZ H c g⟩))
  rw[p4 F];exact t8 ⟨rfl,x+1,f,rfl,t,l,bZ H c λe=>F<|by rw[e];simp⟩;rintro b s' ⟨rfl,i,f,rfl,B,hi,H⟩;have z:=M f<|qB I B.symm H;exact t8 z)
end
section
variable{X:Cx}{pins:List (d6×d7)}{σ:St}{H:Hp}{s:f8}{ρ:List d6}{M:u8}{kvs:List (D×D)}{xs:List (D×c7×c7)}
theorem Bu(h:yZ d=b9):v7 M 8 d=b9:=by
 cases d with
 |non=>rfl
 |tup s=>exact rC 8 _ h
 |_=>cases h
theorem nX(I:t9 X pins σ H s)(r:u6 X.K ρ H k u)(e:aK u key)(b:yZ k=b9):(k=.non/\key=.none)\/∃ks a,k=.tup ks/\key=.ref a/\gg s.heap 8 (.tup ks) (.ref a):=by
 cases k with
 |non=>obtain rfl:=u6.inv_non r;exact .inl ⟨rfl,e⟩
 |tup ks=>have t:=dE I 8 _ _ _ r e b;obtain⟨a,its,rfl,h⟩:=id t;exact .inr ⟨ks,a,rfl,rfl,t⟩
 |_=>cases b
theorem xQ(I:t9 X pins σ H s)(g:A.units+8<j8)(r:u6 X.K ρ H k u)(e:aK u key)(b:yZ k=b9)(h:∀tk,Q (Ol X.w k) { s with toks:=tk }):g7 (h7 X.prog X.w) A (pyHash key) Q E s:=by
 rcases nX I r e b with⟨rfl,rfl⟩|⟨c,a,rfl,rfl,t⟩
 exact PySem.W.pyHash_slot (T:="NoneType") rfl PySem.F.slot_NoneType_hash PySem.F.entry_NoneType_hash (PySem.F.args_NoneType_hash_1 _) (beq_builtin_none _) (.inr<|by lia)<|t6<|t8<|t6<|wpAny_mkInt<|t8 ⟨_,_,rfl,h _⟩;exact pZ 8 _ _ _ _ _ _ g t<|h _
theorem LD(I:t9 X pins σ H s)(m:v9 X.K ρ M H)(g:A.units+8<j8)(r:u6 X.K ρ H k u)(e:aK u key)(a:yZ k=b9)(r':u6 X.K ρ H k' u')(e':aK u' key')(d:yZ k'=b9):Nf A s key key' (decide<|k=k'):=by
 have h:=(lD I m 8 A k k' _ _ _ _ g r e r' e' (Bu a)<|Bu d).1;have q:u7 M 8 k k'=decide (k=k'):=by
  cases k with
  |non=>cases k' with
   |non=>rw[dT_ rfl];rfl
   |tup _=>rw[dF_ λz=>by cases z];rfl
   |_=>cases d
  |tup c=>cases k' with
   |non=>rw[dF_ λz=>by cases z];rfl
   |tup b=>rw[OW,jo 8 _ _ a d,p7]
   |_=>cases d
  |_=>cases a
 rw[q]at h;exact h
theorem tS(I:t9 X pins σ H s)(r:u6 X.K ρ H k u)(e:aK u key)(b:yZ k=b9)(h:Q b9 s):g7 (h7 X.prog X.w) A (o7 8 key) Q E s:=by
 rcases nX I r e b with⟨rfl,rfl⟩|⟨c,a,rfl,rfl,t⟩
 exact t8 h;exact nY 8 8 _ _ _ _ _ _ (v6 _) t h
theorem Dz:∀{kvs:List (D×D)}{xs:List (D×c7×c7)}{x:D×c7×c7},Paired (Nb X.K ρ H) kvs xs->x∈xs->∃p∈kvs,Nb X.K ρ H p x
 |_,_,x,.cons q t,h=>by rcases A3.mp h with rfl|h;exact⟨_,E3,q⟩;obtain⟨p,hp,z⟩:=Dz t h;exact⟨p,C7 _ hp,z⟩
theorem me(r:Paired (Nb X.K ρ H) kvs xs):xs.map (·.1)=kvs.map (·.1):=by
 induction r with
 |nil=>rfl
 |cons h t i=>rw[B9,B9,i,h.1]
theorem rB(r:Paired (Nb X.K ρ H) kvs xs)(k:D):(aG kvs k=b8/\∀(j:Nat) (p:c7×c7),xs[j]?≠b7 (k,p))\/∃(d:D) (v:V) (j:Nat) (u u':c7),aG kvs k=b7 d/\xs[j]?=b7 (k,u,u')/\u6 X.K ρ H d v/\aK v u':=by
 unfold aG;induction r with
 |nil=>exact .inl ⟨rfl,λj p z=>by simp at z⟩
 |@cons p q ps qs h t i =>
  obtain⟨h1,_,_,v,b,l⟩:=h;rw[ML];by_cases e:p.1=k;rw[dT_ e];exact .inr ⟨_,v,0,q.2.1,q.2.2,rfl,by rw[Sf,<-e,h1],b,l⟩;rw[dF_ e];rcases i with⟨g,n⟩|⟨d,v,j,u,u',g,a,f,m⟩
  refine .inl ⟨g,λj c z=>?_⟩;cases j with
  |zero=>rw[Sf]at z;injection z with z;exact e<|by rw[h1,z]
  |succ j=>rw[QI]at z;exact n j c z
  exact .inr ⟨d,v,j+1,u,u',g,by rw[QI];exact a,f,m⟩
theorem Ca(I:t9 X pins σ H s)(m:v9 X.K ρ M H){n:Nat}{a:d6}(e:ρ[n]?=b7 a)(u:M[n]?=b7 (.dkm kvs)):∃xs,H a=b7 (.ext<|dM a xs)/\Paired (Nb X.K ρ H) kvs xs/\dM a xs X.prog X.w s.heap/\(a==d9)=c5/\kvs.length<=sizeLine/\xs.length=kvs.length/\(kvs.map (·.1)).Nodup:=by
 obtain⟨h1,h2,b,xs,h,r⟩:=m.obj _ _ _ e u;refine⟨xs,h,r,(show bY X.prog X.w H s.heap a (.ext<|dM a xs)from I.hok a _ h).1,h2,h1,?_,b⟩;have:=t4 F8<|me r
 rwa [v4,v4]at this
theorem BP(I:t9 X pins σ H s)(R:v9 X.K ρ M H)(L:A.units+8<j8)(r:Paired (Nb X.K ρ H) kvs xs)(P:(kvs.map (·.1)).Nodup)(G:s.heap.get? a=b7 o) (D:o.data=.dict es ep) (F:es.toList=xs.map (BZ<|Ol X.w)) (v:u6 X.K ρ H k u) (Z:aK u key) (n:yZ k=b9)(c:(∀(j:Nat) (p:c7×c7),xs[j]?≠b7 (k,p))->Q b8 s) (d:∀(j:Nat) (p:c7×c7),xs[j]?=b7 (k,p)->Q (b7 j) s):g7 (h7 X.prog X.w) A (dictFind a key<|Ol X.w k) Q E s:=by
 refine ER G D F (by rw[me r];exact P) ?_ (λQ E h=>tS I v Z n h) (λx g Q E h=>?_) (λx g e=>?_) (λx g Q E h=>?_) c d;rcases nX I v Z n with⟨rfl,rfl⟩|⟨N,b,rfl,rfl,_⟩
 exact .inl rfl;exact .inr ⟨b,rfl⟩;obtain⟨p,_,t,q,⟨C,l,J⟩,_⟩:=Dz r g;exact tS I l J q h;obtain⟨p,_,t,q,⟨C,l,J⟩,_⟩:=Dz r g;rw[e]at J;rw[<-t];rcases nX I l J q with⟨y,m⟩|⟨N,b,y,m,B⟩<;>rcases nX I v Z n with⟨z,f⟩|⟨O,S,z,f,i⟩
 rw[y,z];rw[m]at f;cases f;rw[m]at f;cases f;rw[m]at f;cases f;rw[y,z];exact nZ 8 _ _ _ B i;obtain⟨p,_,t,q,⟨C,l,J⟩,_⟩:=Dz r g;rw[<-t]at h;exact LD I R L l J q v Z n _ _ _ _ h
theorem v9.writeM(S:v9 X.K ρ M H)(t:ρ[n]?=b7 a)(x:M[n]?=b7 (.dkm kvs))(w:H a=b7 (.ext<|dM a xs))(y:kvs'.length<=sizeLine)(hs:(a==d9)=c5)(A:(kvs'.map (·.1)).Nodup)(r:Paired (Nb X.K ρ H) kvs' xs'):v9 X.K ρ (M.set n<|.dkm kvs') (x3 H a<|.ext<|dM a xs')/\Grow X.K ρ H ρ (x3 H a<|.ext<|dM a xs'):=by
 have g:Grow X.K ρ H ρ (x3 H a<|.ext<|dM a xs'):=⟨Oa,λ_ _ h=>B7.writtenX w h⟩
 have k:∀m,m≠n->(M.set n<|.dkm kvs')[m]?=M[m]?:=λm e=>Na<|A2 e;have c:¬MH M[n]?:=λ⟨_,z⟩=>by rw[x]at z;cases z
 refine⟨⟨λm j b i d f=>?_,by rw[NX];exact S.len,λm b p d f=>?_⟩,g⟩;have q:=S.nd m j b i d f;by_cases h1:m=n;subst h1;rw[k j<|A2 i];exact .inr<|q.resolve_left c;rw[k m h1];by_cases h2:j=n;subst h2;exact .inl<|q.resolve_right c;rw[k j h2];exact q;by_cases e:m=n;subst e;obtain rfl:b=a:=C0<|d.symm.trans t;rw[Nj<|by rw[<-S.len];exact(z9.mp t).1]at f;cases f;refine⟨y,hs,A,xs',aR,Paired.mapP r ?_⟩;rintro _ _ ⟨B,C,⟨u,D,l⟩,v,J,E⟩;exact⟨B,C,⟨u,D.grow g,l⟩,v,J.grow g,E⟩;rw[k m e]at f;by_cases o:b=a;subst o;have s:=(S.nd m n b e d t).resolve_right c;rw[f]at s;exact(S.obj m b p d f).grow g<|.inr s;exact(S.obj m b p d f).grow g<|.inl<|az o
theorem xR(d:dM a xs P w h'):bY P w H' h' a (.ext<|dM a xs):=by obtain⟨o,es,t,l,Q,I⟩:=d;refine⟨⟨o,es,t,l,Q,I⟩,⟨o,t⟩,?_⟩;rintro h1 h2 ⟨o,es,t,l,Q,I⟩ k;exact⟨o,es,k _ t,l,Q,I⟩
theorem tY(h:aG kvs k=b8):gD kvs k d=kvs++[(k,d)]:=by unfold gD;rw[h];rfl
theorem AC(r:Paired (Nb X.K ρ H) kvs xs)(h:Nb X.K ρ H p q):Paired (Nb X.K ρ H) (kvs++[p]) (xs++[q]):=by
 induction r with
 |nil=>exact .cons h .nil
 |cons z _ i=>exact .cons z i
end
section
variable{X:Cx}{o i value:g8}{td ty tv:x6}{pos pos':Pos}{k:Nat}
def Fk:x6:=λ_ M Q=>Q (.ref M.length)<|M++[.dkm []]
theorem Mh:DE X (.Dict [] [] pos) Fk:=by rintro p s σ H R I ⟨S,M,ρ,Q,m,b,q,C⟩;have f:H s.heap.objs.size=b8:=I.hok.fresh<|v6 _;have d:(s.heap.objs.size==d9)=c5:=beq_eq_false_iff_ne.mpr<|A2<|A4 I.big;refine wpAny_Dict_empty ⟨.ref s.heap.objs.size,_,I.laid (a:=s.heap.objs.size) (o:=.ext<|dM s.heap.objs.size []) (t':=s.toks) (λ_ _ q=>z5 _ q) (v6 _)<|xR ⟨_,#[],A7 _ rfl,⟨rfl,rfl,rfl⟩,rfl,rfl⟩,rfl,?_⟩;exact C _ _ ⟨.ref M.length,M++[.dkm []],ρ++[s.heap.objs.size],m.laidM (mo:=.dkm []) f ⟨A9 _,d,Pq,[],aR,.nil⟩,Grow.laidR f,.ref m.last,(show Q (.ref M.length) (M++[.dkm []])from q)⟩
def OM(r:Nat->C5)(e:x6)(t:F5):x6:=λS M Q=>e S M λx M1=>match x with
 |.ref n=>(∃kvs,M1[n]?=b7 (.dkm kvs))/\t S M1 λds M2=>r n ds M2 Q
 |_=>False
variable{name:c8}{id:String}{e:g8}{es:List g8}{to:x6}{t:F5}{apos cpos:Pos}
theorem d_mm{r:Nat->C5}(slot:Slot "dict" name id)(y:m5 (.builtin id)=pure (.type "method_descriptor"))(P:G9 X id (iI X.K r))(T:DE X o to)(O:DA X (e::es) t)(c:m6 o name X.env (eval o X.env)=eval o X.env:=by rfl)(f:((i3 cpos<|i4 (e::es) X.env).all (λx=>!x.1)&&(m7 cpos<|m8 [] X.env).all (λx=>x.1.isSome) && decide ((e::es).length+([]:List m9).length+(if ([]:List m9).isEmpty then 0 else 1)<30))=b9:=by rfl)(d:(apos.endLine==cpos.line)=b9:=by rfl) (hs:i4 (e::es) X.env=(c5,eval e X.env)::i4 es X.env:=by rfl) (h:(i3 cpos<|i4 es X.env).any (·.1)=c5:=by rfl):DE X (.Call (.Attribute o name apos) (e::es) [] cpos) (OM r to t):=by
 rintro p s σ H R I ⟨S,M,ρ,Q,sm,F,q,V⟩;refine QH c f d rfl<|w6 (T p s σ H _ I ⟨S,M,ρ,_,sm,F,q,λv H' z=>z⟩) ?_;rintro u s1 ⟨v,G,A,rv,x,M1,l,j,g1,Y,g⟩;cases Y with
 |@ref n a D =>
  obtain rfl:u=AB6 a:=rv;obtain⟨⟨kvs,N⟩,g⟩:=(show (∃kvs,M1[n]?=b7 (.dkm kvs))/\t S M1 _ from g)
  obtain⟨xs,hH,r,⟨E,eb,h1,h2,h3,h4⟩,U,hl,hx,nd⟩:=Ca A j D N;refine⟨"dict",id,PJ,slot,y,⟨E,h1,h2.1⟩,λb z=>?_,?_⟩;cases z;exact⟨E,h1,h2.2.1⟩;have C:=O cpos p s1 σ G _ A ⟨S,M1,l,_,j,F.grow g1,g,λvs H' z=>z⟩;rw[hs]at C ⊢;refine OF (by show (c5||(i3 cpos<|i4 es X.env).any (·.1))=c5;rw[h]<;>rfl)<|QF ?_;refine w6 C ?_;rintro us s2 ⟨vs,J,L,i,ds,M2,m,k,B,Z,W⟩;exact P p s2 σ J (.ref a) vs (.ref a) us R L rfl i ⟨n,a,ds,M2,m,Q,rfl,ao B.pre D,k,Z,W,λv H' w=>V v H'<|VQ.trans (g1.trans B) w⟩
 |_=>exact g.elim
def pP(n:Nat):C5:=λds M Q=>match ds with
 | [k,d]=>∃kvs,M[n]?=b7 (.dkm kvs)/\yZ k=b9/\Q ((aG kvs k).getD d) M
 |_=>False
theorem DV(hr:Room k X.A):G9 X "dict.get" (iI X.K pP):=by
 rintro E s σ H x xs v us R I rx rs ⟨n,a,ds,M,ρ,Q,W,Z,m,f,q,C⟩;have un:=hr.un;unfold pP at q;split at q;rename_i k d;obtain⟨kvs,Y,B,q⟩:=q;have z:=Reps.inv_cons f;clear f;obtain⟨_,_,rfl,F,f⟩:=z;have z:=Reps.inv_cons f;clear f;obtain⟨_,_,rfl,r2,f⟩:=z;obtain rfl:=Reps.inv_nil f;obtain⟨P,N,rfl,t,V⟩:=ay.two rs;subst W;obtain rfl:v=AB6 a:=rx;obtain⟨ys,hH,r,⟨ob,eb,h1,h2,i,l⟩,T,hl,hx,D⟩:=Ca I m Z Y;refine Ot PD ⟨ob,h1,h2.1⟩ Sd (Sg _ _ _) (.of_wp λA R s (h:g7 (h7 X.prog X.w) A.in1 (Builtin.«dict.get» ⟨[.ref a,P,N],[]⟩) (λc s'=>∃v,c=.done (.ret v)/\R (.ok<|.ret v) s') (λe s'=>R (.error e) s') s)=>h) ?_;show g7 _ _ (dictGet a P >>= _) _ _ s;unfold dictGet;refine t6 ?_
 try with_reducible refine E4 ?_
 refine t6<|xQ I (by show X.A.units+1+8<j8;lia) F t B λG=>?_;refine t6<|BP (I.tok G) m (by show X.A.units+1+8<j8;lia) r D h1 i l F t B (λo=>?_) λj p L=>?_;rcases rB r k with⟨b,_⟩|⟨g,O,j,u,J,b,y,S,U⟩
 rw[b]at q;refine t8 ?_;show g7 _ _ (Builtin.Dict.missed a P >>= _) _ _ _;exact t6<|wpAny_missed_other T<|t8 ⟨N,rfl,_,H,I.tok _,V,C _ _ ⟨d,M,ρ,m,.refl,r2,q⟩⟩;exact p5 y<|o j _;refine t6<|Ni (s:={ s with toks:=G }) h1 i ?_;rcases rB r k with⟨_,o⟩|⟨g,O,j',u,J,b,y,S,U⟩
 exact p5 L<|o j p;have:j=j':=io (by rw[me r];exact D) L y;subst this;rw[L]at y;rw[rM l j,L];rw[b]at q;obtain rfl:p=(u,J):=by injection y with y;injection y
 exact t8<|t8 ⟨J,rfl,O,H,I.tok _,U,C _ _ ⟨g,M,ρ,m,.refl,S,q⟩⟩;exact q.elim
def tW(n:Nat):C5:=λds M Q=>match ds with
 | [k,d]=>∃kvs,M[n]?=b7 (.dkm kvs)/\yZ k=b9/\kvs.length<sizeLine/\(∀y,aG kvs k=b7 y->Q y M)/\(aG kvs k=b8->Q d (M.set n<|.dkm<|kvs++[(k,d)]))
 |_=>False
theorem DU(hr:Room k X.A):G9 X "dict.setdefault" (iI X.K tW):=by
 rintro ai s σ H x xs v us R I rx rs ⟨n,a,ds,M,ρ,Q,ez,W,m,f,q,Y⟩;have un:=hr.un;unfold tW at q;split at q;rename_i k d;obtain⟨kvs,V,o,kl,q1,q2⟩:=q;have z:=Reps.inv_cons f;clear f;obtain⟨_,_,rfl,E,f⟩:=z;have z:=Reps.inv_cons f;clear f;obtain⟨_,_,rfl,r2,f⟩:=z;obtain rfl:=Reps.inv_nil f;obtain⟨P,G,rfl,i,N⟩:=ay.two rs;subst ez;obtain rfl:v=AB6 a:=rx;obtain⟨ys,U,r,⟨Z,O,h1,h2,b,g⟩,T,hl,hx,B⟩:=Ca I m W V;have aj:O.size=ys.length:=by rw[<-E1,g,v4]
 refine Ot RF ⟨Z,h1,h2.1⟩ PySem.F.entry_dict_setdefault (PySem.F.args_dict_setdefault_3 _ _ _) (.of_wp λA R s (h:g7 (h7 X.prog X.w) A.in1 (Builtin.«dict.setdefault» ⟨[.ref a,P,G],[]⟩) (λl s'=>∃v,l=.done (.ret v)/\R (.ok<|.ret v) s') (λe s'=>R (.error e) s') s)=>h) ?_;unfold Builtin.«dict.setdefault»;refine t6 ?_;unfold SH;refine t6<|OE (show s.TypeIs (.ref a) "dict" from⟨Z,h1,h2.1⟩) ?_;show g7 _ _ (pure (a,P,b7 G)) _ _ s;refine t8 ?_;show g7 _ _ (if (a==d9)=b9 then _ else(dictSetDefault a P G >>= _)) _ _ s;rw[p4<|by rw[T];exact M8];unfold dictSetDefault;refine t6 ?_
 try with_reducible refine E4 ?_
 refine t6<|xQ I (by show X.A.units+1+8<j8;lia) E i o λt=>?_;refine t6<|BP (I.tok t) m (by show X.A.units+1+8<j8;lia) r B h1 b g E i o (λD=>?_) λj p L=>?_;have S:aG kvs k=b8:=by
  rcases rB r k with⟨J,_⟩|⟨_,_,j,_,_,_,y,_⟩
  exact J;exact p5 y<|D j _
 have C:((kvs++[(k,d)]).map (·.1)).Nodup:=by rw[<-tY S];exact qJ B
 obtain⟨w1,w2⟩:=m.writeM (xs':=ys++[(k,P,G)]) W V U (by rw[B6,J2];lia) T C<|AC r ⟨rfl,o,⟨_,E,i⟩,_,r2,N⟩;have sb:I0 a s.heap (s.heap.update a<|Obj.mapDictKeys λe=>e.push ⟨Ol X.w k,P,G⟩):=L9 ..;have c:dM a (ys++[(k,P,G)]) X.prog X.w (s.heap.update a<|Obj.mapDictKeys λe=>e.push ⟨Ol X.w k,P,G⟩):=by refine⟨_,O.push ⟨Ol X.w k,P,G⟩,MB _ h1<|PB<|OD b _,h2.mapDictKeys _,?_,?_⟩;rw[OD b,B6];rfl;rw[Qv,g,Fn];rfl
 have he:∃q,(s.heap.update a<|Obj.mapDictKeys λe=>e.push ⟨Ol X.w k,P,G⟩).get? a=b7 q:=let ⟨q,_,hq,_⟩:=c;⟨q,hq⟩
 refine t6<|Ix<|t6<|Rp (hz:=by lia) (s:={ s with toks:=t }) h1 b<|t8<|t8 ⟨G,rfl,?_⟩;exact⟨_,_,rO (I.tok t) (by rw[U];exact NP) sb he<|xR c,N,Y _ _ ⟨d,_,ρ,w1,w2,r2.grow w2,q2 S⟩⟩;refine t6<|Ni (s:={ s with toks:=t }) h1 b ?_;rcases rB r k with⟨_,D⟩|⟨d',v',j',u,u',J,y,z3,z4⟩
 exact p5 L<|D j p;have:j=j':=io (by rw[me r];exact B) L y;subst this;rw[L]at y;rw[rM g j,L];obtain rfl:p=(u,u'):=by injection y with y;injection y
 exact t6<|Ix<|t8<|t8 ⟨u',rfl,v',H,I.tok _,z4,Y _ _ ⟨d',M,ρ,m,.refl,z3,q1 _ J⟩⟩;exact q.elim
end
theorem Lb:HE X (.Dict [] [] pos) Fk:=⟨Mh⟩
theorem Lc(i:Room k X.A)(m:HE X o to)(f:HA X (e::es) t)(h:m6 o "get" X.env (eval o X.env)=eval o X.env:=by kernel_rfl)(w:((i3 cpos<|i4 (e::es) X.env).all (λx=>!x.1)&&(m7 cpos<|m8 [] X.env).all (λx=>x.1.isSome) && decide ((e::es).length+([]:List m9).length+(if ([]:List m9).isEmpty then 0 else 1)<30))=b9:=by kernel_rfl)(a:(apos.endLine==cpos.line)=b9:=by kernel_rfl) (hs:i4 (e::es) X.env=(c5,eval e X.env)::i4 es X.env:=by kernel_rfl) (n:(i3 cpos<|i4 es X.env).any (·.1)=c5:=by kernel_rfl):HE X (.Call (.Attribute o "get" apos) (e::es) [] cpos) (OM pP to t):=⟨d_mm PD R6 (DV i) m.ok f.ok h w a hs n⟩
theorem La(i:Room k X.A)(m:HE X o to)(f:HA X (e::es) t)(h:m6 o "setdefault" X.env (eval o X.env)=eval o X.env:=by kernel_rfl)(w:((i3 cpos<|i4 (e::es) X.env).all (λx=>!x.1)&&(m7 cpos<|m8 [] X.env).all (λx=>x.1.isSome) && decide ((e::es).length+([]:List m9).length+(if ([]:List m9).isEmpty then 0 else 1)<30))=b9:=by kernel_rfl)(a:(apos.endLine==cpos.line)=b9:=by kernel_rfl) (hs:i4 (e::es) X.env=(c5,eval e X.env)::i4 es X.env:=by kernel_rfl) (n:(i3 cpos<|i4 es X.env).any (·.1)=c5:=by kernel_rfl):HE X (.Call (.Attribute o "setdefault" apos) (e::es) [] cpos) (OM tW to t):=⟨d_mm RF PySem.F.type_dict_setdefault (DU i) m.ok f.ok h w a hs n⟩
def JF(n:Nat):C5:=λds M Q=>match ds with
 | []=>∃xs d,M[n]?=b7 (.lst<|xs++[d])/\Q d (M.set n<|.lst xs)
 |_=>False
theorem Hi:G9 X "list.pop" (iI X.K JF):=by
 rintro p s σ H x xs v us R I o j ⟨n,a,ds,M,ρ,Q,c,f,m,g,q,k⟩;unfold JF at q;split at q;obtain⟨ys,d,e,q⟩:=q;obtain rfl:=Reps.inv_nil g;obtain⟨vs,h,r⟩:=m.obj n a _ f e;have l:=r.length;rw[B6,J2]at l;obtain⟨y,O,t⟩:=r.get (i:=ys.length) (d:=d) (by simp);have b:Reps X.K ρ H ys vs.dropLast:=by have:=r.take ys.length;rw[List.take_left]at this;rw[List.dropLast_eq_take,<-l,Rl];exact this
 obtain⟨u,w⟩:=m.write f e h b;exact Kv p s σ H x _ v us R I o j ⟨a,vs,y,c,rfl,h,by rw[<-l,Rl];exact O,k _ _ ⟨d,_,ρ,u,w,t.grow w,q⟩⟩;exact q.elim
theorem Lp:Pf X "pop" JF:=⟨_,PySem.F.slot_list_pop,PySem.F.type_list_pop,Hi⟩
noncomputable def Itb(K:u9)(a:d6)(n:Nat):It:=⟨λi H=>i<n/\∃xs x,G6 K H a xs/\xs[n-1-i]?=b7 x,λi H x H'=>H'=H/\∀xs,G6 K H a xs->xs[n-1-i]?=b7 x,λi H=>i=n⟩
theorem Da{P:d5}{w:c9}{K:u9}{V:g8}(a it:d6)(n:Nat):Turn P w K V (Itb K a n) [it] it (λi h=>i<=n/\h.IsRevIter it a ((n:Int)-1-(i:Int))) where
 mem:=by simp
 obj:=λi h st b g=>by
  obtain rfl:b=it:=by simpa using g
  obtain⟨_,o,e,c,d⟩:=st;exact⟨o,e,λv z=>by rw[d]at z;cases z⟩
 keep:=λi h h' st k=>⟨st.1,st.2.at λo e=>k it (by simp) o e⟩
 item:=by intro X B C A D i f s σ H E I l st R;subst B C A;obtain⟨hi,xs,x,F,G⟩:=R;obtain⟨its,T,p,W⟩:=I.list F;obtain⟨u,N,Q⟩:=T.get G;obtain⟨m,q,M,r,t,y⟩:=l it (by simp);have S:=st.2;rw[show (n:Int)-1-(i:Int)=((n-1-i:Nat):Int) by lia]at S;refine wpAny_pyNext_rev_item S p.isList (x:=u) (by simpa using N) λh' j U=>?_;rw[show ((n-1-i:Nat):Int)-1=(n:Int)-1-((i+1:Nat):Int) by lia]at j;have J:t9 X f σ H { s with heap:=h' }:=I.turned (t':=s.toks) (λb o g e=>(U.2 b g).trans e) m q r t y;obtain⟨o,e,c,d⟩:=id j;exact⟨u,rfl,ww (s:={ s with heap:=h' }) e c d (by decide) ⟨x,H,J,Q,⟨rfl,λys O=>by rw[I.list_inj O F];exact G⟩,⟨hi,j⟩,λb g=>(l b g).1⟩⟩
 done:=by intro X B C A D i f s σ H E I l st R;subst B C A;obtain rfl:i=n:=R;obtain⟨m,q,M,r,t,y⟩:=l it (by simp);have S:=st.2;rw[show (i:Int)-1-(i:Int) = -1 by lia]at S;exact wpAny_pyNext_rev_end (I.ok.hd D) S λh' L=>⟨rfl,I.turned (t':=s.toks) (λb o g e=>L b o g e) m q r t y⟩
 self:=λ_ _ _ _ _ st h=>wpAny_pyIter_revIter st.2 h
theorem rT:f6 "reversed" = b7 (.type "reversed"):=by decide +kernel
def Fi(t:F5):MW:=λS M R=>t S M λds M1=>match ds with
 | [.ref n]=>∃xs,ak M1 n xs/\(xs.length<=sizeLine->R ⟨xs.reverse,λM=>ak M n xs⟩ M1)
 |_=>False
theorem LY{a:g8}{E:F5}{p f:Pos}(T:X.mg "reversed" = b8)(J:DA X [a] E)(O:Gl X "reversed":=by rfl)(hs:i4 [a] X.env=[(c5,eval a X.env)]:=by rfl):DI X tg (.Call (.Name "reversed" p) [a] [] f) (Fi E):=by
 intro c s σ H R I h;obtain⟨S,M,ρ,Q,sm,sr,U,k⟩:=h;refine Call_<|lA I O T rT<|RE (w6 (J f c s σ H _ I ⟨S,M,ρ,_,sm,sr,U,λv H' w=>w⟩) ?_) hs rfl;rintro us z ⟨vs,D,m,r1,ds,M1,C,j,g1,t,q⟩
 try dsimp only at q
 split at q;rename_i n;obtain⟨xs,L,Z⟩:=q;have B:=Reps.inv_cons t;clear t;obtain⟨_,_,rfl,F,t⟩:=B;obtain rfl:=Reps.inv_nil t;obtain⟨u,rfl,G⟩:=ay.one r1;obtain⟨a,rfl,A⟩:=u6.inv_ref F;obtain rfl:u=AB6 a:=G;obtain⟨ws,V,r⟩:=ak.seq j L A;obtain⟨its,rv,p,hz⟩:=m.list V;have W:=r.length;have Y:=rv.length;refine call_reversed_list p.isList ?_;refine wpAny_pyIter_revIter (l:=a) (i:=((its.toArray.size:Int)-1)) ⟨_,A7 _ rfl,rfl,rfl⟩ ?_;refine⟨z.heap.objs.size,[z.heap.objs.size],_,_,D,rfl,m.kept (t':=z.toks) λb o e=>z5 _ e,Da a _ xs.length,⟨A9 _,_,A7 _ rfl,rfl,?_⟩,λb K=>?_,k _ D ⟨⟨xs.reverse,λM=>ak M n xs⟩,M1,C,j,g1,?_,Z<|by lia⟩⟩;show Data.fields #[.ref a,j3<|(its.toArray.size:Int)-1]=Data.fields #[.ref a,j3<|(xs.length:Int)-1-((0:Nat):Int)];rw[A6,<-Y,<-W,show ((xs.length:Int)-1-((0:Nat):Int))=(xs.length:Int)-1 by lia];obtain rfl:b=z.heap.objs.size:=by simpa using K
 exact m.fpOk (v6 _)<|m.hok.fresh<|v6 _;refine⟨λi ρ' M' H' s' g ok hi=>?_,λi ρ' M' H' x H2 s' g ok hi y=>?_,λρ' M' H' s' g ok=>?_⟩;rw[ADG]at hi;obtain⟨vs,h,r⟩:=ak.seq s' ok<|ao g.pre A;have P:xs.length-1-i<vs.length:=by rw[<-r.length];lia
 exact⟨hi,vs,vs[xs.length-1-i],h,w9 P⟩;rw[ADG]at hi;obtain⟨rfl,y⟩:=y;obtain⟨vs,h,r⟩:=ak.seq s' ok<|ao g.pre A;obtain⟨d,N,rd⟩:=r.getV<|y vs h;exact⟨d,ρ',by rw[List.getElem?_reverse hi];exact N,s',.refl,rd⟩;exact(ADG:xs.reverse.length=xs.length);exact q.elim
theorem KJ(d:X.mg "reversed" = b8)(f:HA X [a] ta)(R:X.env.kindOf "reversed" = b7 .globalImplicit:=by kernel_rfl)(hs:i4 [a] X.env=[(c5,eval a X.env)]:=by kernel_rfl):HI X tg (.Call (.Name "reversed" p) [a] [] pos) (Fi ta):=⟨LY d f.ok R hs⟩
section
open PySem.W
structure ExcK(K:Frag)(D:d6):Prop where
 ga:findIn K (.ref D) "__getattribute__" = b7 (b7<|.builtin "BaseException.__getattribute__")
 gt:findIn K (.ref D) "__getattr__" = b7 b8
 mb:mroIn K D (.type "BaseException")=b7 b9
 mo:mroIn K D (.type "object")=b7 b9
 cl:findIn K (.ref D) "__class__" = b7 (b7<|.builtin "object.__class__")
end
inductive Fly(P:d5)(w:c9)(stk:List Env)(H:Hp)(h0:d8)(a:d6)(C:c7)(H1:Hp)(h:d8):Prop
 |mk (B:d8) (a0:c7) (fly:Heap.FlyingW B stk a C a0 h) (un:Un (K6 stk) [] H H1 h0 h) (hok:D8 P w H1 h)
  (old:∀b o,h0.get? b=b7 o->b∉K6 stk->∃o',B.get? b=b7 o'/\(H b=b8->o'=o)) (trk:∀b u,H1 b=b7 u->∃o,B.get? b=b7 o)
structure DefX(X:Cx):Prop where
 stk:X.stack=X.env::X.outer
 fr:X.env.frame=b7 X.env.locals
 ex:X.ex=[]
def CXe(P:d5)(w:c9):NN:=λk H s E e s'=>∃a C b,e=.ref a/\s'.os=s.os/\ge s'.gens/\Fly P w k H s.heap a C b s'.heap/\E C b8 b
noncomputable abbrev vE:List c7:=[.type "ValueError",.type "Exception",.type "BaseException",.type "object"]
abbrev DX:=c8->u8->Prop
abbrev RW:=DX->u4
abbrev DTEX:=DX->x6
abbrev DSpX:=List D->u8->DK->DX->Prop
inductive XQ(K:u9)(ρ:List d6)(H:Hp)(R:DX)(C:c7)(dx:Option d6)(H':Hp):Prop
 |mk (x:c8) (c:d6) (M':u8) (ρ':List d6) (e:C=.ref c) (hx:PySem.W.nsIn K e8 x=b7 (b7 (.ref c))) (s:v9 K ρ' M' H') (g:Grow K ρ H ρ' H') (q:R x M')
inductive lowX(K:u9)(E:XK)(t:RW)(D:Ends)(σ:St)(H:Hp):Prop
 |mk (S:SD) (M:u8) (ρ:List d6) (F:DEnds) (R:DX) (s:v9 K ρ M H) (sr:SRep K ρ H S σ) (q:t R F S M) (k:P4 K ρ H F D) (x:∀C dx H',XQ K ρ H R C dx H'->E C dx H')
inductive lowXE(K:u9)(E:XK)(t:DTEX)(σ:St)(H:Hp)(Q:VK):Prop
 |mk (S:SD) (M:u8) (ρ:List d6) (F:DK) (R:DX) (s:v9 K ρ M H) (sr:SRep K ρ H S σ) (q:t R S M F) (k:∀v H',VQ K ρ H F v H'->Q v H') (x:∀C dx H',XQ K ρ H R C dx H'->E C dx H')
structure XA(b:Bool)(X:Cx)(pins:List (d6×d7))(E:XK)(P:St->Prop)(Ex:c7->f8->Prop):Prop where
 on:∀σ H1 s1 e s',P σ->t9 X pins σ H1 s1->CXe X.prog X.w X.stack H1 s1 E e s'->Ex e s'
 all:b=b9->∀σ,P σ
 made:b=b9->∀σ H1 s1 h' e C vs,t9 X pins σ H1 s1->Heap.MadeExcOf s1.heap h' e C vs->E C b8 H1->Ex (.ref e) { s1 with heap:=h' }
structure HX(b:Bool)(X:Cx)(st:i5)(t:RW):Prop where
 ok:∀(pins:List (d6×d7)) (s:f8) (σ:St) (H:Hp) (D:Ends) (E:XK) (P:St->Prop) (Ex:c7->f8->Prop),XA b X pins E P Ex->P σ->t9 X pins σ H s->lowX X.K E t D σ H->g7 (h7 X.prog X.w) X.A (exec st X.env) (SP X pins D) Ex s
structure HXs(b:Bool)(X:Cx)(st:List i5)(t:RW):Prop where
 ok:∀(pins:List (d6×d7)) (s:f8) (σ:St) (H:Hp) (D:Ends) (E:XK) (P:St->Prop) (Ex:c7->f8->Prop),XA b X pins E P Ex->P σ->t9 X pins σ H s->lowX X.K E t D σ H->g7 (h7 X.prog X.w) X.A (execs st X.env) (SP X pins D) Ex s
structure HXE(b:Bool)(X:Cx)(e:g8)(t:DTEX):Prop where
 ok:∀(pins:List (d6×d7)) (s:f8) (σ:St) (H:Hp) (Q:VK) (E:XK) (P:St->Prop) (Ex:c7->f8->Prop),XA b X pins E P Ex->P σ->t9 X pins σ H s->lowXE X.K E t σ H Q->g7 (h7 X.prog X.w) X.A (eval e X.env) (EP X pins σ Q) Ex s
structure ClsX(K:u9)(x:c8)(C:d6):Prop where
 at_:PySem.W.nsIn K e8 x=b7 (b7<|.ref C)
 exc:PySem.W.excIn K C vE "ValueError.__new__" = b9
 own:ExcK K C
 val:QY K (.ref C) (.type "ValueError")=b7 b9
structure RoomH(k:Nat)(A:f7):Prop where
 dp:A.depth+3*k+5<recursionLimit
 un:A.units+16*k+200<j8
structure FnH(P:d5)(w:c9)(K:u9)(mg:c8->Option c7)(base:d8)(k:Nat)(f:d6)(fd:j9)(ps:List c8)(sp:Sp):Prop where
 len:∀vs H Q E,sp vs H Q E->vs.length=ps.length
 run:∀(A:f7) (outer:List Env) (s:f8) (H:Hp) (args:Args) (us:List c7) (vs:List V) (Q:VK) (E:XK),RoomH k A->Env0 P w K mg base A outer s H->BindsTo s fd args (ps.zip us)->ay vs us->sp vs H Q E ->k5 (h7 P w) A (.call (.ref f) args) (CR L5 outer P w H s Q E) s
end L2
namespace L2
open PySem PySem.Spec PyProof.Rows DL PySem.W
noncomputable def Itq(a:d6)(n ep:Nat):It:=⟨λi H=>∃xs x v,H a=b7 (.ext<|dQ a ep xs)/\xs.length=n/\xs[i]?=b7 x/\aK v x.2.2,λi H v H'=>∃(T:d6) (x:D×d6×c7) (y:V),v=.ref T/\H T=b8/\H'=x3 H T (.tup [.ref x.2.1,y])/\aK y x.2.2/\∀xs,H a=b7 (.ext<|dQ a ep xs)->∃z:D×d6×c7,xs[i]?=b7 z/\z.2=x.2,λi H=>(∃xs,H a=b7 (.ext<|dQ a ep xs)/\xs.length=n)/\i=n⟩
def OutQ(h:d8)(it d:d6)(i n ep:Nat):Prop:=∃ok b,cY h it d i n ep .none (.bool c5) ok b
theorem yx{P:d5}{w:c9}{K:u9}{Y:List g8}{x1:Nat}{U:Pos}(a it:d6)(n ep:Nat):Turn P w K (.Tuple Y x1 U) (Itq a n ep) [it] it (λi h=>OutQ h it a i n ep) where
 mem:=by simp
 obj:=λi h st b j=>by
  obtain rfl:b=it:=by simpa using j
  obtain⟨ok,g,e⟩:=st;exact⟨_,e,λv z=>by cases z⟩
 keep:=λi h h' ⟨ok,g,e⟩ k=>⟨ok,g,k it (by simp) _ e⟩
 item:=by
  rintro X M T L t i q s σ H E I u ⟨ok,g,st⟩ R;subst M T L;obtain⟨xs,x,v,J,rfl,hx,hv⟩:=R;obtain⟨es,F,r,eg⟩:=rL I J;obtain⟨e,B,V,W⟩:=eg i x hx;obtain⟨G,f1,f2,f3,f4,f5⟩:=u it (by simp);have f:i<es.size:=(NA.mp B).1;have Z:es[i]=e:=by rw[G5 f]at B;exact C0 B
  rw[<-r]at st;have l:it<s.heap.objs.size:=A1 st;refine BX (S:=it) ⟨_,_,_,_,st,.inl ⟨rfl,rfl⟩⟩ l F f λh' _ hT hz hk op=>?_;have o':=op _ _ st;rw[Z,V,W]at hT o';refine⟨_,rfl,?_⟩;refine wpAny_letOwnedTupleGo_items (s:={ s with heap:=h' }) (show IsItemIterOut h' it a (i+1) es.size ep (.ref x.2.1) x.2.2 s.heap.objs.size from o') λh2 p O=>?_;have d:I0 it h' h2:=O;have N:h2.get? s.heap.objs.size=b7 { cls:=.type "tuple",data:=.seq #[.ref x.2.1,x.2.2] }:=d.extBut _ _ (NF l) hT;refine⟨.ref s.heap.objs.size,x3 H s.heap.objs.size<|.tup [.ref x.2.1,v],?_,rfl,⟨s.heap.objs.size,x,v,rfl,I.hok.fresh<|v6 _,rfl,hv,λys hy=>?_⟩,?_,λb j=>?_⟩;refine I.turnedT (t':=s.toks) u (λc o t e=>?_) (v6 _) ⟨by simp[Nl],[.ref x.2.1,x.2.2],.cons rfl<|.cons hv .nil,⟨_,N,rfl,⟨0,rfl⟩,rfl⟩⟩;have m:c≠it:=by simpa using t
  exact d.extBut _ _ m<|hk _ _ m e;obtain⟨aj,D,ai,C⟩:=rL I hy;obtain⟨rfl,_⟩:=rK F D;have hj:i<ys.length:=by lia
  obtain⟨e',z1,y,z2⟩:=C i ys[i]<|w9 hj;rw[G5 f,Z]at z1;obtain rfl:=C0 z1;rw[V]at y;rw[W]at z2;injection y with y;exact⟨ys[i],w9 hj,Prod.ext y.symm z2.symm⟩;rw[r]at p;exact⟨_,_,p⟩;obtain rfl:b=it:=by simpa using j
  rw[az<|A4 l];exact G
 done:=by rintro X M T L t i q s σ H E I u ⟨ok,g,st⟩ R;subst M T L;obtain⟨⟨xs,J,rfl⟩,rfl⟩:=R;obtain⟨es,F,r,eg⟩:=rL I J;obtain⟨G,f1,f2,f3,f4,f5⟩:=u it (by simp);rw[<-r]at st;exact EX (S:=it) (I.ok.hd t) ⟨_,_,_,_,st,.inl ⟨rfl,rfl⟩⟩ F λh' he=>⟨rfl,I.turned (t':=s.toks) (λb o j e=>he b o j e) G f1 f3 f4 f5⟩
 self:=λA i s Q E ⟨ok,g,st⟩ hQ=>kcp_self (show IsItemIter s.heap it a i n ep ok g from st) hQ
theorem Fa{K:u9}{M:u8}{n:Nat}{a:d6}{kvs:List (D×D)}(u:sd M n kvs):∃ep,∀ρ' M' H',v9 K ρ' M' H'->ρ'[n]?=b7 a->M'[n]?=M[n]?->∃ys,H' a=b7 (.ext<|dQ a ep ys)/\Paired (rZ K ρ' H') kvs ys/\ys.length=kvs.length:=by
 have B:∀{ρ':List d6}{H':Hp}{ys:List (D×d6×c7)},Paired (rZ K ρ' H') kvs ys->ys.length=kvs.length:=λi=>by have:=t4 F8<|dH i;rwa [v4,v4]at this
 rcases u with u|⟨ep,u⟩
 refine⟨kvs.length,λρ' M' H' s' f ok=>?_⟩;obtain⟨_,_,_,ys,O,i⟩:=s'.obj _ _ _ f<|ok.trans u;refine⟨ys,?_,i,B i⟩;rw[<-B i];exact O;refine⟨ep,λρ' M' H' s' f ok=>?_⟩;obtain⟨_,_,_,ys,O,i⟩:=s'.obj _ _ _ f<|ok.trans u;exact⟨ys,O,i,B i⟩
def rP(e:x6):MW:=λS M R=>e S M λd M1=>match d with
 |.ref n=>∃kvs,sd M1 n kvs/\(kvs.length<=sizeLine->R ⟨kvs.map<|λp=>.tup [p.1,p.2],λM=>M[n]?=M1[n]?⟩ M1)
 |_=>False
theorem Cc(ho:DE X o to)(l:m6 o "items" X.env (eval o X.env)=eval o X.env:=by rfl)(m:(apos.endLine==cpos.line)=b9:=by rfl):DI X (.Tuple elts x1 pos) (.Call (.Attribute o "items" apos) [] [] cpos) (rP to):=by
 intro c s σ H R I h;obtain⟨S,M,ρ,Q,sm,sr,q,k⟩:=h;refine Sj l m<|w6 (ho c s σ H _ I ⟨S,M,ρ,_,sm,sr,q,λv H' w=>w⟩) ?_;rintro u G ⟨v,B,P,A,d,M1,J,t,g1,r1,q1⟩;cases r1 with
 |@ref n a E =>
  obtain rfl:u=AB6 a:=A;obtain⟨kvs,hM,q2⟩:=(show ∃kvs,sd M1 n kvs/\(kvs.length<=sizeLine->Q ⟨kvs.map<|λp=>.tup [p.1,p.2],λM=>M[n]?=M1[n]?⟩ M1)from q1)
  obtain⟨_,_,_,_,dd,Y,hz,_⟩:=xT P t E hM;obtain⟨V,f⟩:=Fa (K:=X.K) (a:=a) hM;obtain⟨xs,hH,r,hx⟩:=f J M1 B t E rfl;obtain⟨es,em,el,_⟩:=rL P hH;refine⟨"dict","dict.items",PJ,PySem.F.slot_dict_items,PySem.F.type_dict_items,dd.typeIs,λb z=>?_,OF rfl<|R4<|BW Y em ?_⟩;cases z;obtain⟨ob,_,_,h1,h2,_⟩:=dd;exact⟨ob,h1,h2.2.1⟩;have C:t9 X c σ B { G with heap:=G.heap.push { cls:=.type "dict_items",data:=.fields #[.ref a] } }:=P.kept (t':=G.toks) λb o e=>z5 _ e;have U:dL ({ G with heap:=G.heap.push { cls:=.type "dict_items",data:=.fields #[.ref a] } }:f8).heap a es V:=em.to λo e=>z5 _ e;refine BY (d:=a) ⟨_,A7 _ rfl,rfl,rfl⟩ U ?_;rw[el];have W:∀j:f8,t9 X c σ B j->P7 X c σ (.Tuple elts x1 pos) R (.ref j.heap.objs.size) { j with heap:=j.heap.push { cls:=.type "dict_itemiterator",data:=.fields #[.none,.bool c5,.ref a,.int 0 0,.int xs.length 0,.int V 0,.none,.none] } }:=λj C=>by
   refine⟨j.heap.objs.size,[j.heap.objs.size],_,_,B,rfl,C.kept (t':=j.toks) λb o e=>z5 _ e,yx a _ xs.length V,⟨_,_,A7 _ rfl⟩,λb hb=>?_,k _ B ⟨⟨kvs.map<|λp=>.tup [p.1,p.2],λM=>M[n]?=M1[n]?⟩,M1,J,t,g1,?_,q2 hz⟩⟩;obtain rfl:b=j.heap.objs.size:=by simpa using hb
   exact C.fpOk (v6 _)<|C.hok.fresh<|v6 _;refine⟨λi ρ' M' H' s' g ok hi=>?_,λi ρ' M' H' x H2 s' g ok hi y=>?_,λρ' M' H' s' g ok=>?_⟩;obtain⟨ys,O,N,ly⟩:=f ρ' M' H' s' (ao g.pre E) ok;rw[v4]at hi;have hj:i<ys.length:=by lia
   obtain⟨p,_,_,_,_,v,_,A⟩:=cE N<|w9 hj;exact⟨ys,ys[i],v,O,by lia,w9 hj,A⟩;obtain⟨T,x0,y0,rfl,L,rfl,rz,D⟩:=y;obtain⟨ys,O,N,_⟩:=f ρ' M' H' s' (ao g.pre E) ok;obtain⟨z,Z,ez⟩:=D ys O;obtain⟨p,hp,_,_,rk,v,rp,A⟩:=cE N Z;rw[ez]at rk A;obtain rfl:y0=v:=rz.inj A;exact⟨.tup [p.1,p.2],ρ',by rw[C6,hp];rfl,s'.laid L,Grow.laid L,.tup (B7.of aR)<|.cons (rk.grow<|Grow.laid L)<|.cons (rp.grow<|Grow.laid L) .nil⟩;obtain⟨ys,O,N,ly⟩:=f ρ' M' H' s' (ao g.pre E) ok;exact⟨⟨ys,O,by lia⟩,by rw[v4];lia⟩
  exact W _ C
 |_=>exact q1.elim
theorem Bt(m:HE X o to)(e:m6 o "items" X.env (eval o X.env)=eval o X.env:=by kernel_rfl)(a:(apos.endLine==cpos.line)=b9:=by kernel_rfl):HI X (.Tuple elts x1 pos) (.Call (.Attribute o "items" apos) [] [] cpos) (rP to):=⟨Cc m.ok e a⟩
end L2
namespace L2
open PySem PySem.Spec PyProof.Rows DL
def tX(n:Nat):C5:=λds M Q=>match ds with
 | []=>∃xs,M[n]?=b7 (.lst xs)/\Q .non (M.set n<|.lst [])
 |_=>False
theorem AT:G9 X "list.clear" (iI X.K tX):=by rintro p s σ H x xs v us R I g d ⟨n,a,ds,M,ρ,Q,c,f,m,b,q,k⟩;unfold tX at q;split at q;obtain⟨ys,e,q⟩:=q;obtain rfl:=Reps.inv_nil b;obtain⟨vs,h,r⟩:=m.obj n a _ f e;obtain⟨w,i⟩:=m.write f e h (ds':=[]) .nil;exact Eb p s σ H x _ v us R I g d ⟨a,vs,c,rfl,h,k _ _ ⟨.non,_,ρ,w,i,.non,q⟩⟩;exact q.elim
theorem EH:Pf X "clear" tX:=⟨_,PySem.F.slot_list_clear,PySem.F.type_list_clear,AT⟩
abbrev DTAX:=DX->F5
inductive lowXA(K:u9)(E:XK)(t:DTAX)(σ:St)(H:Hp)(Q:List V->Hp->Prop):Prop
 |mk (S:SD) (M:u8) (ρ:List d6) (F:List D->u8->Prop) (R:DX) (s:v9 K ρ M H) (sr:SRep K ρ H S σ) (q:t R S M F) (k:∀v H',AQ K ρ H F v H'->Q v H') (x:∀C dx H',XQ K ρ H R C dx H'->E C dx H')
structure HXA(b:Bool)(X:Cx)(es:List g8)(t:DTAX):Prop where
 ok:∀(pos:Pos) (pins:List (d6×d7)) (s:f8) (σ:St) (H:Hp) (Q:List V->Hp->Prop) (E:XK) (P:St->Prop) (Ex:c7->f8->Prop),XA b X pins E P Ex->P σ->t9 X pins σ H s->lowXA X.K E t σ H Q->g7 (h7 X.prog X.w) X.A (spliced<|i3 pos<|i4 es X.env) (AP X pins σ Q) Ex s
end L2
namespace L2
open PySem PySem.Spec PyProof.Rows DL PySem.W
end L2
namespace LW
open PySem L2
local macro_rules | `(tactic| walk_at"sc")=>`(tactic| exact⟨rfl,rfl,rfl,by decide +kernel,rfl,by decide +kernel,by decide +kernel⟩)
local macro_rules | `(tactic| walk_at"dl")=>`(tactic| simp only[EE,aB,B8,Fj,wE,N4,au,u5,aa,af,aT,oU,dOrV,Ch,E7,oj,bE,ag,bi,bb,gX,lW,t7,uQ,dC,ab,eZ,jV,N3,lV,kJ,Pd,MV,bW,FJ,qAdd,aM,Ja,lL,aN,cA,NK,Pc,N1,N0,C4,PQ,yF,ii,Jd,Jc,v5,QN,bR,Mm,Cd,gR,aI,gU,dZip,dMl0,tX,ny,iS,Fl,Ci,jU,uO,gf,om,QP,tU,xV,uN,Au,rP,qi,At,Fk,OM,pP,tW,JF,Fi,JE,kn,xU,IE,iZ,SqAt,Jb,nw,iV,QR,On,QQ,nu,tV,L3,Sv,eR,Mb,B9,Pn,List.cons_append,G2,Sf,QI,D4,C9,List.replicate_zero,List.replicate_succ,List.set_cons_zero,List.set_cons_succ,NS,Nat.reduceAdd,Nat.reduceSub,Option.join_some,s9,r9,B5])
noncomputable def top(i:Nat):i5:=PySem.Challenge.pw_talkmarks_k43_where_one_is_named.main.body.getD i<|.Pass ⟨0,0,0,0⟩
noncomputable abbrev B_:List c8:=["len","any","dict","sorted","set","reversed","range","tuple","max","str","isinstance","int","bool","list","zip","all"]
noncomputable abbrev C_:List (c8×Int):=[]
noncomputable abbrev jd:List c8:=["sign"]
noncomputable abbrev cg:List c8:=["text","name"]
noncomputable abbrev kx:List c8:=["saying","name"]
noncomputable abbrev je:List c8:=["pairs"]
noncomputable abbrev nH:List c8:=["house","thing"]
noncomputable abbrev kt:List c8:=["house","name"]
noncomputable abbrev gJ:List c8:=["house","room"]
noncomputable abbrev kr:List c8:=["deed"]
noncomputable abbrev ja:List c8:=["deed"]
noncomputable abbrev jc:List c8:=["deed","vector"]
noncomputable abbrev dF:List c8:=["log","kind"]
noncomputable abbrev kz:List c8:=["log","kind","name"]
noncomputable abbrev fu:List c8:=["log","kind","name"]
noncomputable abbrev nE:List c8:=["say"]
noncomputable abbrev ko:List c8:=["say"]
noncomputable abbrev jf:List c8:=["house","say","elders"]
noncomputable abbrev cH:List c8:=["house","log"]
noncomputable abbrev eH:List c8:=["deed","says"]
noncomputable abbrev fq:List c8:=["log","kind","says"]
noncomputable abbrev eG:List c8:=["log","says"]
noncomputable abbrev bU:List c8:=["log","says"]
noncomputable abbrev gI:List c8:=["say","changes"]
noncomputable abbrev gH:List c8:=["house","log"]
noncomputable abbrev cF:List c8:=["log","name"]
noncomputable abbrev nI:List c8:=["say","name","vectors","seen"]
noncomputable abbrev cG:List c8:=["house","log","name"]
noncomputable abbrev cR:List c8:=["says","room"]
noncomputable abbrev gK:List c8:=["depth","stamps"]
noncomputable abbrev eE:List c8:=["beneath"]
noncomputable abbrev nD:List c8:=["house","log","room"]
noncomputable abbrev eF:List c8:=["house","log","name","room"]
noncomputable abbrev nG:List c8:=["house","log","name","room"]
noncomputable abbrev jb:List c8:=["house","log","name","room"]
noncomputable abbrev kq:List c8:=["house","log","name","room"]
noncomputable abbrev gG:List c8:=["house","log","name"]
noncomputable abbrev nJ:List c8:=["_law_script","_law_k"]
noncomputable abbrev vP:List c8:=["_law_cell","_law_k"]
noncomputable abbrev AF:List c8:=["_law_cell","_law_k"]
noncomputable abbrev nF:List c8:=["_law_script","_law_start","_law_most"]
noncomputable abbrev vO:List c8:=["_law_number","_law_many"]
noncomputable abbrev vQ:List c8:=["_law_cell"]
noncomputable abbrev vR:List c8:=["_law_house_here"]
noncomputable abbrev qO:List c8:=["_law_number","_law_names_here"]
noncomputable abbrev AE:List c8:=["_law_number","_law_says","_law_hands_here"]
noncomputable abbrev qN:List c8:=["_law_number","_law_hands_here","_law_counts"]
noncomputable abbrev AD:List c8:=["_law_number","_law_house_here","_law_says","_law_hands_here"]
noncomputable abbrev GW:List c8:=["_law_number","_law_house_here","_law_says","_law_hands_here","_law_counts"]
noncomputable abbrev GU:List c8:=["_law_house_here","_law_numbers_here","_law_hands_here"]
noncomputable abbrev kA:List c8:=["_law_house_here","_law_log_here"]
noncomputable abbrev vN:List c8:=["_law_house_here","_law_log_here"]
noncomputable abbrev kw:List c8:=["_law_saying_here","_law_name"]
noncomputable abbrev vS:List c8:=["_law_told_here","_law_due"]
noncomputable abbrev GV:List c8:=["_law_script"]
structure Tops(P:d5)(w:c9)(K:u9)(mg:c8->Option c7)(base:d8):Prop where
 f_is_letter:cz K mg "is_letter" (top 4) jd
 f_begins_with_name:cz K mg "begins_with_name" (top 5) cg
 f_is_named:cz K mg "is_named" (top 6) kx
 f_firsts_of:cz K mg "firsts_of" (top 8) je
 f_is_room:cz K mg "is_room" (top 9) nH
 f_rooms_of:cz K mg "rooms_of" (top 10) kt
 f_members_of:cz K mg "members_of" (top 11) gJ
 f_stamp_of:cz K mg "stamp_of" (top 13) kr
 f_person_of:cz K mg "person_of" (top 14) ja
 f_is_within:cz K mg "is_within" (top 15) jc
 f_deeds_of_kind:cz K mg "deeds_of_kind" (top 17) dF
 f_deeds_by:cz K mg "deeds_by" (top 18) kz
 f_stamps_told:cz K mg "stamps_told" (top 19) fu
 f_room_of:cz K mg "room_of" (top 21) nE
 f_under_of:cz K mg "under_of" (top 22) ko
 f_can_stand:cz K mg "can_stand" (top 23) jf
 f_says_that_count:cz K mg "says_that_count" (top 24) cH
 f_is_by_writer:cz K mg "is_by_writer" (top 25) eH
 f_writers_own:cz K mg "writers_own" (top 26) fq
 f_last_changes:cz K mg "last_changes" (top 27) eG
 f_stamps_taken_back:cz K mg "stamps_taken_back" (top 28) bU
 f_message_of:cz K mg "message_of" (top 29) gI
 f_says_shown:cz K mg "says_shown" (top 30) gH
 f_vectors_by_room:cz K mg "vectors_by_room" (top 32) cF
 f_is_read:cz K mg "is_read" (top 33) nI
 f_unread_messages:cz K mg "unread_messages" (top 34) cG
 f_stamps_beneath:cz K mg "stamps_beneath" (top 36) cR
 f_last_first:cz K mg "last_first" (top 37) gK
 f_rows_of_tree:cz K mg "rows_of_tree" (top 38) eE
 f_rows_of:cz K mg "rows_of" (top 39) nD
 f_new_messages:cz K mg "new_messages" (top 41) eF
 f_new_for:cz K mg "new_for" (top 42) nG
 f_named_for:cz K mg "named_for" (top 43) jb
 f_total_of:cz K mg "total_of" (top 44) kq
 f_totals_for:cz K mg "totals_for" (top 45) gG
 f_cell_at:cz K mg "_law_cell_at" (top 47) nJ
 f_mixed:cz K mg "_law_mixed" (top 48) vP
 f_free:cz K mg "_law_free" (top 49) AF
 f_numbers:cz K mg "_law_numbers" (top 50) nF
 f_names:cz K mg "_law_names" (top 51) vO
 f_house:cz K mg "_law_house" (top 52) vQ
 f_hands:cz K mg "_law_hands" (top 53) vR
 f_saying:cz K mg "_law_saying" (top 54) qO
 f_told:cz K mg "_law_told" (top 55) AE
 f_vector:cz K mg "_law_vector" (top 56) qN
 f_what:cz K mg "_law_what" (top 57) AD
 f_act:cz K mg "_law_act" (top 58) GW
 f_log:cz K mg "_law_log" (top 59) GU
 f_counting:cz K mg "_law_counting" (top 60) kA
 f_shown:cz K mg "_law_shown" (top 61) vN
 f_names_it:cz K mg "_law_names_it" (top 62) kw
 f_alike:cz K mg "_law_alike" (top 63) vS
 f_law:cz K mg "law" (top 64) GV
 b:TopB mg B_ C_
local macro_rules | `(tactic| walk_at"bb")=>`(tactic| first|exact My|exact Mx|exact IW|exact IV|exact Mw|exact rU|exact Mv|exact IU|exact Mu|exact Cv|exact Mt|exact Fw)
local macro_rules | `(tactic| walk_at"tb")=>`(tactic| exact TopB.no (by k_dflt assumption) (by kernel_rfl))
local macro_rules | `(tactic| walk_at"dvr")=>`(tactic| (repeat' (first|(with_reducible first|(refine gA ?_;first|exact KQ|refine HL ?_ ?_)|exact k_var|(refine LA ?_;first|exact k_int|exact k_bl|exact k_non|exact k_str)|(refine gCall ?_;first|refine KU (by k_dflt assumption) ?_ ?_|refine HQ ?_ ?_|refine HP ?_ ?_|refine zc (by k_dflt assumption) ?_ (by walk_at"tb") (by walk_at"tb")|refine HU ?_ (by walk_at"tb") (by walk_at"bb") ?_|refine Ew ?_ (by walk_at"tb") (by walk_at"bb") ?_|refine k_cal (by k_dflt assumption) (by k_dflt assumption) ?_ (hj:=Nat.ble_eq_true_of_le (by lia))|refine HM (by k_dflt assumption) ?_ ?_|refine Lc (by k_dflt assumption) ?_ ?_|refine La (by k_dflt assumption) ?_ ?_|refine k_ms ?_ ?_ ?_|refine k_ml ?_ ?_ ?_|refine k_ml0 ?_ ?_)|(refine gIx ?_;first|refine HN ?_ ?_ ?_|refine KY (by k_dflt assumption) ?_ ?_ (hs:=by k_dflt (intro _ _;kernel_rfl))|refine Le (by k_dflt assumption) ?_ ?_ (hs:=by k_dflt (intro _ _;kernel_rfl))|refine KZ (by k_dflt assumption) ?_ ?_ (hs:=by k_dflt (intro _ _;kernel_rfl))|refine k_ix ?_ ?_ (hs:=by k_dflt (intro _ _;kernel_rfl)))|(refine gT ?_;first|refine KC ?_ ?_ ?_|refine KB ?_|refine kw_t (FO ?_ ?_)|refine kw_t (Kz ?_ ?_)|refine KA ?_)|(refine gE ?_;first|exact Ld|exact KW|exact Lb|exact KR (by walk_at"tb") (by walk_at"bb")|refine k_op ?_ ?_ ?_|refine k_not ?_|refine k_cmp ?_ ?_ ?_|refine HR ?_ ?_ ?_ ?_ ?_|refine k_one ?_|refine k_and ?_ ?_|refine k_or ?_ ?_|refine k_tup ?_|refine k_lst ?_|refine k_lcN ?_ (λ_ _ _ _=>?_) (λ_ _ _ _=>?_) (λ_ _ _ _=>?_))|(refine gS ?_;first|exact xM|refine Bp ?_|refine FS ?_|refine KG ?_ ?_ ?_|refine uF (by k_dflt assumption) ?_ (λ_ _ _ _=>?_) (λ_ _ _ _=>?_) (λ_ _ _ _=>?_)|refine FR (by k_dflt assumption) ?_|refine FU ?_ ?_|refine Bo (by k_dflt assumption) ?_ ?_ ?_|refine FT ?_ ?_ ?_|refine xL ?_ ?_)|(refine gOp ?_;first|exact Ie|exact ho_eq (by k_dflt assumption)|exact Ic|exact ho_gt|exact ho_in (by k_dflt assumption)|exact Lo (by k_dflt assumption)|exact ho_is|exact ho_le|exact ho_lt|exact Ln|exact Lm|exact ho_ne (by k_dflt assumption)|exact ED (by k_dflt assumption)|exact Ll|exact Lk|exact Lj)|(refine gC ?_;first|exact Lw|exact Lv|exact BI (by k_dflt assumption)|exact EM (by k_dflt assumption)|exact Lu|exact Ls|exact Ii|exact zd (by k_dflt assumption)|exact EL)|exact KF|exact Hw|exact HF|exact HJ|refine KD ?_|refine FO ?_ ?_|refine Kz ?_ ?_|refine Hr ?_|refine Ky ?_|refine Hv ?_|refine HD ?_|refine Bs (by walk_at"tb") ?_|refine KH (by walk_at"tb") ?_|refine KJ (by walk_at"tb") ?_|refine Ep ?_|refine Er ?_|refine Bt ?_|refine KI ?_|exact HK (by k_dflt assumption)|exact KM (Ku (by kernel_rfl))|refine Es ?_ ?_|refine KK ?_|refine KL ?_ ?_|exact BG|exact EH|exact BF|exact EG|exact Lp|exact EF|exact BE)|refine Hz ?_ ?_|refine Bp ?_|refine FS ?_|refine KG ?_ ?_ ?_|refine uF (by k_dflt assumption) ?_ (λ_ _ _ _=>?_) (λ_ _ _ _=>?_) (λ_ _ _ _=>?_)|refine FR (by k_dflt assumption) ?_|refine FU ?_ ?_|refine Bo (by k_dflt assumption) ?_ ?_ ?_|refine FT ?_ ?_ ?_|refine xL ?_ ?_|exact xM)))
local macro_rules | `(tactic| walk_at"dv")=>`(tactic| (intro _ _ _ _ _ _ _ _ _ _;refine Ij rfl ?_;walk_at"dvr"))
section
variable{P:d5}{w:c9}{K:u9}{mg:c8->Option c7}{base:d8}
noncomputable def iH(p:c8×Int):D:=.tup [.str p.1,.int p.2]
def Hd(d:D):Prop:=∃(x:c8) (k:Int),d=.tup [.str x,.int k]
theorem Ih(f:Hd a)(d:Hd b):u7 M (n+1) a b=b9↔a=b:=by obtain⟨x,k,rfl⟩:=f;obtain⟨y,l,rfl⟩:=d;show (u7 M n (.str x) (.str y)&&(u7 M n (.int k) (.int l)&&b9))=b9↔_;rw[aV,gQ];simp
theorem Lq(f:Hd a):v7 M w4 a=b9:=by obtain⟨x,k,rfl⟩:=f;rfl
noncomputable def qy(hs:List (D×Int)):List D:=hs.map λp=>.tup [p.1,.int p.2]
noncomputable def fO(hs:List (D×Int))(d:D)(num:Int):Bool:=match hs.find? λp=>decide (p.1=d) with
 |some p=>decide<|num<p.2
 |none=>c5
noncomputable def RQ:Nat->D->Bool
 |n+1,.tup xs=>xs.all<|RQ n
 | 0,.tup _=>c5
 |_,.ref _=>c5
 |_,.ty _=>c5
 |_,_=>b9
def G7(n:Nat)(d:D):Prop:=RQ n d=b9
def oA(n:Nat)(ds:List D):Prop:=ds.all (RQ n)=b9
theorem G7.non:G7 n .non:=by cases n<;>rfl
theorem G7.bl(b:Bool):G7 n (.bl b):=by cases n<;>rfl
theorem G7.int(i:Int):G7 n (.int i):=by cases n<;>rfl
theorem G7.str(x:c8):G7 n (.str x):=by cases n<;>rfl
theorem oA.nil:oA n []:=rfl
theorem oA.cons(h:G7 n d)(t:oA n ds):oA n (d::ds):=by unfold oA G7 at *;rw[MX,h,t];rfl
theorem G7.tup(h:oA n ds):G7 (n+1) (.tup ds):=h
theorem oA.of(h:∀d∈ds,G7 n d):oA n ds:=F0.mpr h
theorem bT:∀(n:Nat) (d:D),G7 n d->D3 k d:=by
 intro n;induction n with
 |zero =>
  intro d h;cases d with
  |tup xs=>cases h
  |ref i=>cases h
  |ty t=>cases h
  |non=>exact .non
  |bl b=>exact .bl b
  |int i=>exact .int i
  |str x=>exact .str x
 |succ n c =>
  intro d h;cases d with
  |tup xs=>exact .tup<|Bels.of λx a=>c x<|F0.mp h x a
  |ref i=>cases h
  |ty t=>cases h
  |non=>exact .non
  |bl b=>exact .bl b
  |int i=>exact .int i
  |str x=>exact .str x
theorem rH:∀{xs:List D},(∀x∈xs,f x x=b9)->D6 f xs xs=b9
 | [],_=>rfl
 |x::xs,h=>by show (f x x&&D6 f xs xs)=b9;rw[h x (by simp),rH λy hy=>h y<|C7 _ hy];rfl
theorem xC:∀(n m:Nat) (d:D),n<=m->G7 n d->v7 M m d=b9/\u7 M m d d=b9:=by
 intro n;induction n with
 |zero =>
  intro m d _ h;cases d with
  |tup xs=>cases h
  |ref i=>cases h
  |ty t=>cases h
  |non=>exact⟨AJ,by cases m<;>rfl⟩
  |bl b=>exact⟨FK,by cases m<;>cases b<;>rfl⟩
  |int i=>exact⟨aH,by rw[gQ];exact t5 i⟩
  |str x=>exact⟨ap,by rw[aV];exact t5 x⟩
 |succ n c =>
  intro m d e h;cases m with
  |zero=>lia
  |succ m =>
   cases d with
   |tup xs=>exact⟨Ha λx a=>(c m x (by lia)<|F0.mp h x a).1,rH λx a=>(c m x (by lia)<|F0.mp h x a).2⟩
   |ref i=>cases h
   |ty t=>cases h
   |non=>exact⟨AJ,rfl⟩
   |bl b=>exact⟨FK,by cases b<;>rfl⟩
   |int i=>exact⟨aH,by rw[gQ];exact t5 i⟩
   |str x=>exact⟨ap,by rw[aV];exact t5 x⟩
theorem Ig(h:Hd d):G7 (n+1) d:=by obtain⟨x,i,rfl⟩:=h;exact .tup<|.cons (.str _)<|.cons (.int _) .nil
theorem Lr(h:Hd d):D3 k d:=bT 1 d<|Ig h
noncomputable def BL:D->D
 |.tup (_::h::_)=>h
 |_=>.non
noncomputable def numD:D->Int
 |.tup (_::_::.int n::_)=>n
 |_=>0
noncomputable def many(log:List D)(h:D):Nat:=(log.filter λd=>decide<|BL d=h).length
theorem iq:aG (gD kvs k d) k=b7 d:=by
 unfold gD;split;rename_i hs;unfold aG at hs ⊢;rw[Rf]at hs;obtain⟨q,h⟩:=Sn.mp hs;rw[Qj];have e:((λp:D×D=>decide<|p.1=k) ∘ λp:D×D=>if p.1=k then(p.1,d)else p)=λp=>decide (p.1=k):=by funext p;show decide ((if p.1=k then(p.1,d)else p).1=k)=decide (p.1=k);split<;>rfl
 rw[e,h];have a:q.1=k:=by have:=Px h;exact oT_ this
 show b7 (if q.1=k then(q.1,d)else q).2=_;rw[p0 a];rename_i hs;unfold aG at hs ⊢;rw[Rf,Option.not_isSome_iff_eq_none]at hs;rw[Re,hs];simp
theorem eP(h:j≠k):aG (gD kvs k d) j=aG kvs j:=by
 unfold gD;split;unfold aG;rw[Qj];have e:((λp:D×D=>decide<|p.1=j) ∘ λp:D×D=>if p.1=k then(p.1,d)else p)=λp=>decide (p.1=j):=by funext p;show decide ((if p.1=k then(p.1,d)else p).1=j)=decide (p.1=j);split<;>rfl
 rw[e];cases f:kvs.find? λp=>decide (p.1=j) with
 |none=>rfl
 |some q =>
  have a:q.1=j:=by have:=Px f;exact oT_ this
  show b7 (if q.1=k then(q.1,d)else q).2=b7 q.2;rw[p4<|by rw[a];exact h]
 unfold aG;rw[Re];cases f:kvs.find? λp=>decide (p.1=j) with
 |none=>simp[A2 h]
 |some q=>rfl
theorem gM:∀{kvs:List (D×D)}{p:D×D},(kvs.map (·.1)).Nodup->p∈kvs->aG kvs p.1=b7 p.2
 |q::kvs,p,nd,h=>by rw[B9,J5]at nd;unfold aG;rw[ML];rcases A3.mp h with rfl|h;rw[dT_ rfl];rfl;have:q.1≠p.1:=λz=>nd.1 (by rw[z];exact K1 h);rw[dF_ this];exact gM nd.2 h
theorem bz(h:aG kvs k=b7 d):(k,d)∈kvs:=by
 unfold aG at h;obtain⟨q,a,rfl⟩:=NJ.mp h;have e:q.1=k:=by have:=Px a;exact oT_ this
 rw[<-e];exact List.mem_of_find?_eq_some a
theorem jI{α:Type}{P:List α->Prop}(a:P [])(h1:∀l x,P l->P (l++[x]))(l:List α):P l:=by
 rw[<-List.reverse_reverse l];induction l.reverse with
 |nil=>exact a
 |cons x xs i=>rw[List.reverse_cons];exact h1 _ _ i
theorem qU(h:ak M n xs)(ok:∀x∈xs,v7 (M++[MO.lst []]) 29 x=b9):(v7 (M++[MO.lst []]) w4 (.ref n)=b9/\v7 (M++[MO.lst []]) w4 (.ref M.length)=b9)/\u7 (M++[MO.lst []]) w4 (.ref n) (.ref M.length)=xs.isEmpty:=by have h1:ak (M++[MO.lst []]) n xs:=h.more _;have h2:ak (M++[MO.lst []]) M.length []:=ad;refine⟨⟨qT (n:=29) h1 ok,qT (n:=29) h2 λ_ z=>nomatch z⟩,?_⟩;exact(xS (n:=29) h1 h2).trans Im
theorem AV(h:m≠n)(l:ak M m xs):ak (M.set n x) m xs:=by rcases l with l|l|l;exact .inl (by rw[Na<|A2 h];exact l);exact .inr (.inl<|by rw[Na<|A2 h];exact l);exact .inr<|.inr<|by rw[Na<|A2 h];exact l
theorem aJ{M:u8}{m n:Nat}{x y:MO}(h:m≠n)(l:M[m]?=b7 y):(M.set n x)[m]?=b7 y:=by rw[Na<|A2 h];exact l
theorem aA{M:u8}{m:Nat}{y:MO}(l:M[m]?=b7 y):m<M.length:=(z9.mp l).1
theorem ui(l:ak M m xs):m<M.length:=by rcases l with l|l|l<;>exact aA l
theorem ac{B:u8}{q:Nat}{x a:MO}(h:B[q]?=b7 x):(B++[a])[q]?=b7 x:=by rw[L0 (z9.mp h).1];exact h
theorem bP{B:u8}{q:Nat}{x a:MO}(h:B[q]?=b7 x):(B.set q a)[q]?=b7 a:=Nj (z9.mp h).1
theorem cj(p:M <+: B)(l:ak M q xs):ak B q xs:=by obtain⟨L,rfl⟩:=p;exact l.more L
theorem bn{M B:u8}{q:Nat}{x:MO}(p:M <+: B)(l:M[q]?=b7 x):B[q]?=b7 x:=by obtain⟨L,rfl⟩:=p;rw[L0<|aA l];exact l
theorem xP(xs:List Int):Bels k (xs.map D.int):=Bels.of λd h=>by obtain⟨x,_,rfl⟩:=z6.mp h;exact .int x
theorem Df(xs:List c8):Bels k (xs.map D.str):=Bels.of λd h=>by obtain⟨x,_,rfl⟩:=z6.mp h;exact .str x
theorem ci{a b:Int}(h:0<b):0<=a % b:=Int.emod_nonneg _<|by lia
theorem cC{a b:Int}(h:0<b):a % b<b:=Int.emod_lt_of_pos _ h
theorem jZ{α:Type}{xs:List α}{i:Int}(h:1<=xs.length):∃x∈xs,atI xs (i % (xs.length:Int))=b7 x:=by obtain⟨j,L,z,_⟩:=Cy (xs:=xs) (ci (a:=i) (b:=xs.length)<|by lia) (cC<|by lia);exact⟨xs[j],Nn L,z⟩
def eX(x:c8):Prop:=∀c∈x.cps.toList,97<=c/\c<=122
theorem eX.app(h1:eX a)(h2:eX b):eX (a++b):=λx h=>by
 have e:(a++b).cps.toList=a.cps.toList++b.cps.toList:=by show (a.cps++b.cps).toList=_;simp
 rw[e]at h;exact(F3.mp h).elim (h1 x)<|h2 x
theorem bp(p:M <+: B)(h:M.length<=q):M <+: B.set q x:=by obtain⟨L,rfl⟩:=p;rw[Rr _ _ h];exact MM _ _
noncomputable def cT(p:c8×Int):List D:=(iG 0 p.2.toNat).map λk=>.tup [.str p.1,k]
noncomputable def bh(ps:List (c8×Int)):List D:=ps.flatMap cT
def RV(ps:List (c8×Int)):Prop:=ps.length<=4/\∀p∈ps,0<=p.2/\p.2<=3
theorem jp:(cT p).length=p.2.toNat:=by simp[cT,iG]
theorem qc(h:∀p∈ps,0<=p.2/\p.2<=3):(bh ps).length<=3*ps.length:=by
 induction ps with
 |nil=>simp[bh]
 |cons p ps i =>
  have:=i λq a=>h q<|C7 _ a;have h1:=h p E3;have e:(bh<|p::ps).length=p.2.toNat+(bh ps).length:=by rw[bh,List.flatMap_cons,B6,jp];rfl
  rw[e,D4];lia
theorem rE:∀d∈bh ps,Hd d:=λd h=>by unfold bh at h;obtain⟨p,_,hp⟩:=List.mem_flatMap.mp h;unfold cT iG at hp;simp only[D7,z6]at hp;obtain⟨i,_,rfl⟩:=hp;exact⟨_,_,rfl⟩
theorem ze:Bels k (bh ps):=Bels.of λd h=>Lr<|rE d h
noncomputable def fi(p:c8×List c8):D:=.tup [.str p.1,.tup<|p.2.map .str]
noncomputable def ax(ps:List (c8×Int))(rs:List (c8×List c8)):D:=.tup [.tup<|ps.map iH,.tup<|rs.map fi]
structure HouseF(ps:List (c8×Int))(rs:List (c8×List c8)):Prop where
 len:1<=ps.length/\ps.length<=4
 many:∀p∈ps,1<=p.2/\p.2<=3
 nm:∀p∈ps,p.1.length<=8
 rl:1<=rs.length/\rs.length<=4
 pnd:(ps.map (·.1)).Nodup
 rnd:(rs.map (·.1)).Nodup
 sb:∀r∈rs,r.2.Sublist (ps.map (·.1))
 sm:∀p∈ps,eX p.1
def St(d:D):Prop:=∃(t:Int) (z:c8) (k:Int),d=.tup [.int t,.tup [.str z,.int k]]
theorem St.key(h:St d):da 8 d=b9:=by obtain⟨t,z,k,rfl⟩:=h;rfl
theorem St.ok(h:St d):v7 M w4 d=b9:=by obtain⟨t,z,k,rfl⟩:=h;rfl
theorem St.pl(h:St d):G7 (n+2) d:=by obtain⟨t,z,k,rfl⟩:=h;exact .tup<|.cons (.int _)<|.cons (.tup<|.cons (.str _)<|.cons (.int _) .nil) .nil
theorem St.eq(f:St a)(d:St b):u7 M (n+2) a b=decide (a=b):=by
 obtain⟨t,z,k,rfl⟩:=f;obtain⟨t',F,H,rfl⟩:=d;have e:u7 M (n+2) (.tup [.int t,.tup [.str z,.int k]]) (.tup [.int t',.tup [.str F,.int H]])=((t==t')&&(((z==F)&&((k==H)&&b9))&&b9)):=by show (u7 M (n+1) (.int t) (.int t')&&((u7 M n (.str z) (.str F)&&(u7 M n (.int k) (.int H)&&b9))&&b9))=_;rw[gQ,aV,gQ]
 rw[e];by_cases h:D.tup [.int t,.tup [.str z,.int k]]=.tup [.int t',.tup [.str F,.int H]];rw[dT_ h];simp only[D.tup.injEq,Q5,D.int.injEq,D.str.injEq,and_true]at h;obtain⟨rfl,rfl,rfl⟩:=h;simp;rw[dF_ h];simp only[D.tup.injEq,Q5,D.int.injEq,D.str.injEq,and_true]at h;refine NY.mpr λq=>h ?_;simpa using q
theorem St.tup(h:St d):∃ks,d=.tup ks:=by obtain⟨t,z,k,rfl⟩:=h;exact⟨_,rfl⟩
def Mz(d:D):Prop:=(∃x:c8,d=.tup [.str<|u3 "room",.str x])\/(∃x:c8,d=.tup [.str<|u3 "person",.str x])\/∃(t:Int) (z:c8) (k:Int),d=.tup [.str<|u3 "under",.tup [.int t,.tup [.str z,.int k]]]
theorem Mz.pl4(h:Mz d):G7 4 d:=by rcases h with⟨x,rfl⟩|⟨x,rfl⟩|⟨t,z,k,rfl⟩<;>rfl
def VecK(vs:List D):Prop:=∃hs:List (D×Int),vs=qy hs/\(∀p∈hs,Hd p.1)/\hs.length<=12/\(hs.map (·.1)).Nodup
structure ActK(rs:List (c8×List c8))(x:c8)(ds:List D):Prop where
 say:x=u3 "say"->∃(r:c8) (u:D) (s:c8),ds=[.str r,u,.str s]/\r∈rs.map (·.1)/\(u=.non\/St u)
 change:x=u3 "change"->∃(m:D) (s:c8),ds=[m,.str s]/\St m
 back:x=u3 "back"->∃m:D,ds=[m]/\St m
 like:x=u3 "like"->∃(m:D) (s:c8) (b:Bool),ds=[m,.str s,.bl b]/\St m
 read:x=u3 "read"->∃(r:c8) (vs:List D),ds=[.str r,.tup vs]/\VecK vs
 seen:x=u3 "seen"->∃m:D,ds=[m]/\St m
 rung:x=u3 "rung"->∃m:D,ds=[m]/\St m
 hush:x=u3 "hush"->∃(w:D) (b:Bool),ds=[w,.bl b]/\Mz w
 lenS:x=u3 "say"->∀(r u:D) (s:c8),ds=[r,u,.str s]->s.length<=100
 lenC:x=u3 "change"->∀(m:D) (s:c8),ds=[m,.str s]->s.length<=100
section
variable{rs:List (c8×List c8)}
theorem bG{a b:c8}{P:Prop}(e:a=b)(h:(a==b)=c5:=by decide +kernel):P:=p5 e<|beq_eq_false_iff_ne.mp h
theorem ActK.mkSay(i:r∈rs.map (·.1))(g:u=.non\/St u)(l:s.length<=100):ActK rs (u3 "say") [.str r,u,.str s]:=⟨λ_=>⟨r,u,s,rfl,i,g⟩,(bG ·),(bG ·),(bG ·),(bG ·),(bG ·),(bG ·),(bG ·),λ_ _ _ _ e=>by cases e;exact l,(bG ·)⟩
theorem ActK.mkChange(h:St m)(l:s.length<=100):ActK rs (u3 "change") [m,.str s]:=⟨(bG ·),λ_=>⟨m,s,rfl,h⟩,(bG ·),(bG ·),(bG ·),(bG ·),(bG ·),(bG ·),(bG ·),λ_ _ _ e=>by cases e;exact l⟩
theorem ActK.mkBack(h:St m):ActK rs (u3 "back") [m]:=⟨(bG ·),(bG ·),λ_=>⟨m,rfl,h⟩,(bG ·),(bG ·),(bG ·),(bG ·),(bG ·),(bG ·),(bG ·)⟩
theorem ActK.mkLike(h:St m):ActK rs (u3 "like") [m,.str s,.bl b]:=⟨(bG ·),(bG ·),(bG ·),λ_=>⟨m,s,b,rfl,h⟩,(bG ·),(bG ·),(bG ·),(bG ·),(bG ·),(bG ·)⟩
theorem ActK.mkRead(h:VecK vs):ActK rs (u3 "read") [.str r,.tup vs]:=⟨(bG ·),(bG ·),(bG ·),(bG ·),λ_=>⟨r,vs,rfl,h⟩,(bG ·),(bG ·),(bG ·),(bG ·),(bG ·)⟩
theorem ActK.mkSeen(h:St m):ActK rs (u3 "seen") [m]:=⟨(bG ·),(bG ·),(bG ·),(bG ·),(bG ·),λ_=>⟨m,rfl,h⟩,(bG ·),(bG ·),(bG ·),(bG ·)⟩
theorem ActK.mkRung(h:St m):ActK rs (u3 "rung") [m]:=⟨(bG ·),(bG ·),(bG ·),(bG ·),(bG ·),(bG ·),λ_=>⟨m,rfl,h⟩,(bG ·),(bG ·),(bG ·)⟩
theorem ActK.mkHush{w:D}{b:Bool}(h:Mz w):ActK rs (u3 "hush") [w,.bl b]:=⟨(bG ·),(bG ·),(bG ·),(bG ·),(bG ·),(bG ·),(bG ·),λ_=>⟨w,b,rfl,h⟩,(bG ·),(bG ·)⟩
end
def aF(ps:List (c8×Int))(rs:List (c8×List c8))(d:D):Prop:=∃(t:Int) (z:c8) (k m:Int) (x:c8) (ds:List D),d=.tup [.int t,.tup [.str z,.int k],.int m,.tup<|.str x::ds]/\1<=t/\D.tup [.str z,.int k]∈bh ps/\oA 4 ds/\ActK rs x ds
section
variable{ps:List (c8×Int)}{rs:List (c8×List c8)}
theorem aF.pl(h:aF ps rs d):G7 6 d:=by obtain⟨t,z,k,m,x,ds,rfl,_,_,hp,_⟩:=h;exact .tup<|.cons (.int _)<|.cons (Ig ⟨_,_,rfl⟩)<|.cons (.int _)<|.cons (.tup<|.cons (.str _) hp) .nil
theorem aF.bels(h:∀d∈ds,aF ps rs d):Bels k ds:=Bels.of λd a=>bT 6 d (h d a).pl
end
noncomputable def bv:D->c8
 |.tup [_,_,_,.tup<|.str x::_]=>x
 |_=>u3 ""
noncomputable def dG:D->c8
 |.tup (_::.tup (.str z::_)::_)=>z
 |_=>u3 ""
noncomputable def x9:D->D
 |.tup (t::h::_)=>.tup [t,h]
 |_=>.non
noncomputable def bI:D->c8
 |.tup [_,_,_,.tup<|_::.str r::_]=>r
 |_=>u3 ""
noncomputable def gj:D->D
 |.tup [_,_,_,.tup<|_::_::u::_]=>u
 |_=>.non
noncomputable def pV:D->D
 |.tup [_,_,_,.tup<|_::m::_]=>m
 |_=>.non
noncomputable def Dk:D->D
 |.tup [_,_,_,.tup<|_::_::_::s::_]=>s
 |_=>.non
noncomputable def Je:D->D
 |.tup [_,_,n,_]=>n
 |_=>.non
noncomputable def pW(rs:List (c8×List c8))(r:c8):List c8:=((rs.find? λp=>decide<|p.1=r).map (·.2)).getD []
noncomputable def kinds(log:List D)(k:c8):List D:=log.filter λd=>decide<|bv d=k
section
variable{ps:List (c8×Int)}{rs:List (c8×List c8)}
theorem fZ(h:aF ps rs d)(e:bv d=u3 "say"):∃(t:Int) (z:c8) (k num:Int) (r:c8) (u:D) (s:c8),d=.tup [.int t,.tup [.str z,.int k],.int num,.tup [.str<|u3 "say",.str r,u,.str s]]/\1<=t/\D.tup [.str z,.int k]∈bh ps/\r∈rs.map (·.1)/\(u=.non\/St u):=by obtain⟨t,z,k,num,x,ds,rfl,h1,h2,_,f⟩:=h;obtain rfl:x=u3 "say":=e;obtain⟨r,u,s,rfl,i,g⟩:=f.say rfl;exact⟨t,z,k,num,r,u,s,rfl,h1,h2,i,g⟩
theorem jY(h:aF ps rs d)(e:bv d=u3 "change"):∃(t:Int) (z:c8) (k num:Int) (m:D) (s:c8),d=.tup [.int t,.tup [.str z,.int k],.int num,.tup [.str<|u3 "change",m,.str s]]/\St m:=by obtain⟨t,z,k,num,x,ds,rfl,h1,h2,_,f⟩:=h;obtain rfl:x=u3 "change":=e;obtain⟨m,s,rfl,a⟩:=f.change rfl;exact⟨t,z,k,num,m,s,rfl,a⟩
theorem wI(h:aF ps rs d)(e:bv d=u3 "back"):∃(t:Int) (z:c8) (k num:Int) (m:D),d=.tup [.int t,.tup [.str z,.int k],.int num,.tup [.str<|u3 "back",m]]/\St m:=by obtain⟨t,z,k,num,x,ds,rfl,h1,h2,_,f⟩:=h;obtain rfl:x=u3 "back":=e;obtain⟨m,rfl,a⟩:=f.back rfl;exact⟨t,z,k,num,m,rfl,a⟩
end
section
variable{ps:List (c8×Int)}{rs:List (c8×List c8)}
theorem Ar(h:aF ps rs d)(e:bv d=u3 "read"):∃(t:Int) (z:c8) (k num:Int) (r:c8) (hs:List (D×Int)),d=.tup [.int t,.tup [.str z,.int k],.int num,.tup [.str<|u3 "read",.str r,.tup<|qy hs]]/\(∀p∈hs,Hd p.1)/\hs.length<=12:=by obtain⟨t,z,k,num,x,ds,rfl,h1,h2,_,f⟩:=h;obtain rfl:x=u3 "read":=e;obtain⟨r,vs,rfl,hs,rfl,c,j,_⟩:=f.read rfl;exact⟨t,z,k,num,r,hs,rfl,c,j⟩
theorem Gw(h:aF ps rs d)(e:bv d=u3 "seen"\/bv d=u3 "rung"):∃(t:Int) (z:c8) (k num:Int) (x:c8) (m:D),d=.tup [.int t,.tup [.str z,.int k],.int num,.tup [.str x,m]]/\St m:=by obtain⟨t,z,k,num,x,ds,rfl,h1,h2,_,f⟩:=h;obtain⟨m,rfl,a⟩:∃m:D,ds=[m]/\St m:=e.elim (λe=>f.seen e) λe=>f.rung e;exact⟨t,z,k,num,x,m,rfl,a⟩
end
section
variable{ps:List (c8×Int)}{rs:List (c8×List c8)}
theorem Gx(h:aF ps rs d)(e:bv d=u3 "say"):∃s:c8,Dk d=.str s/\s.length<=100:=by obtain⟨t,z,k,m,x,ds,rfl,h1,h2,_,f⟩:=h;obtain rfl:x=u3 "say":=e;obtain⟨r,u,s,rfl,i,g⟩:=f.say rfl;exact⟨s,rfl,f.lenS rfl _ _ _ rfl⟩
theorem zn(h:aF ps rs d)(e:bv d=u3 "change"):∃s:c8,gj d=.str s/\s.length<=100:=by obtain⟨t,z,k,n,x,ds,rfl,h1,h2,_,f⟩:=h;obtain rfl:x=u3 "change":=e;obtain⟨m,s,rfl,a⟩:=f.change rfl;exact⟨s,rfl,f.lenC rfl _ _ rfl⟩
end
local macro_rules | `(tactic| walk_at"ifs")=>`(tactic| simp only[FJ,B5,↓reduceIte,Ng,Bool.not_false])
noncomputable def tH(rs:List (c8×List c8))(kvs:List (D×D))(d:D):Bool:=decide (dG d∈pW rs (bI d))&&(decide (gj d=.non)||match aG kvs (gj d) with
 |some e=>decide<|bI e=bI d
 |none=>c5)
noncomputable def vK(rs:List (c8×List c8))(kvs:List (D×D))(d:D):List (D×D):=if tH rs kvs d=b9 then gD kvs (x9 d) d else kvs
noncomputable def eW(rs:List (c8×List c8))(l:List D):List (D×D):=l.foldl (vK rs) []
theorem jt:eW rs (l++[d])=vK rs (eW rs l) d:=by unfold eW;rw[List.foldl_append];rfl
noncomputable def av(rs:List (c8×List c8))(log:List D):List (D×D):=eW rs<|kinds log<|u3 "say"
theorem kG:kinds (log++[d]) k=kinds log k++if bv d=k then[d]else[]:=by unfold kinds;rw[O4];congr 1;by_cases h:bv d=k;rw[MZ,dT_ h,p0 rfl,p0 h];rfl;rw[MZ,dF_ h,p4 (by decide),p4 h];rfl
theorem bD(h:d∈kinds log k):d∈log/\bv d=k:=⟨(E5.mp h).1,oT_ (E5.mp h).2⟩
theorem bu:(kinds log k).length<=log.length:=K9 _ _
structure TabK(l:List D)(kvs:List (D×D)):Prop where
 nd:(kvs.map (·.1)).Nodup
 en:∀p∈kvs,p.1=x9 p.2/\p.2∈l
 len:kvs.length<=l.length
theorem xA(h:p∈gD kvs k d):p=(k,d)\/p∈kvs:=by unfold gD at h;split at h;obtain⟨q,a,rfl⟩:=z6.mp h;split;rename_i e;rw[e];exact .inl rfl;exact .inr a;rcases F3.mp h with h|h;exact .inr h;exact .inl<|by simpa using h
theorem GD:(gD kvs k d).length<=kvs.length+1:=by unfold gD;split;rw[v4];lia;simp
theorem qj(l:List D):TabK l (eW rs l):=by
 refine jI (P:=λl=>TabK l<|eW rs l) ⟨.nil,(λ_ z=>nomatch z),v6 _⟩ (λl d i=>?_) l;rw[jt];unfold vK;have hs:∀p∈eW rs l,p.1=x9 p.2/\p.2∈l++[d]:=λp hp=>⟨(i.en p hp).1,Np _ (i.en p hp).2⟩
 have g:=i.len;split;refine⟨qJ i.nd,λp hp=>?_,?_⟩;rcases xA hp with rfl|hp;exact⟨rfl,by simp⟩;exact hs p hp;have:=GD (kvs:=eW rs l) (k:=x9 d) (d:=d);rw[B6,J2];lia;exact⟨i.nd,hs,by rw[B6,J2];lia⟩
theorem bo:TabK (kinds log<|u3 "say") (av rs log):=qj _
theorem Ly(t:TabK l kvs)(h:aG kvs k=b7 e):k=x9 e/\e∈l:=t.en _<|bz h
noncomputable def G0(kvs:List (D×D))(d:D):Bool:=match aG kvs (pV d) with
 |some e=>decide<|dG d=dG e
 |none=>c5
def P9(d:D):Prop:=∃(a:D) (z:c8) (r n:List D),d=.tup (a::.tup (.str z::r)::n)
section
variable{ps:List (c8×Int)}{rs:List (c8×List c8)}
theorem aF.nm(h:aF ps rs d):P9 d:=by obtain⟨t,z,k,m,x,ds,rfl,_⟩:=h;exact⟨_,_,_,_,rfl⟩
theorem aF.st(h:aF ps rs d):St (x9 d):=by obtain⟨t,z,k,m,x,ds,rfl,_⟩:=h;exact⟨_,_,_,rfl⟩
theorem St.cm(f:St a)(d:St b):lH M w4 a b=b9:=by
 obtain⟨t,z,k,rfl⟩:=f;obtain⟨t',F,H,rfl⟩:=d;show (if u7 M 29 (.int t) (.int t')=b9 then(if u7 M 29 (.tup [.str z,.int k]) (.tup [.str F,.int H])=b9 then b9 else(if u7 M 28 (.str z) (.str F)=b9 then(if u7 M 28 (.int k) (.int H)=b9 then b9 else b9)else b9))else b9)=b9
 repeat' split
 all_goals rfl
theorem Gn(h:∀x∈xs,St x)(l:xs.length<64):SrtOk M xs:=by refine⟨l,λx a=>?_,λx a y O=>(h x a).cm<|h y O,.inr<|.inr<|.inr<|.inl λx a=>?_⟩;obtain⟨t,z,k,rfl⟩:=h x a;rfl;obtain⟨t,z,k,rfl⟩:=h x a;exact⟨_,_,rfl⟩
end
def aQ(kvs:List (D×D))(log:List D)(k:D):Prop:=∃d∈kinds log (u3 "back"),G0 kvs d=b9/\pV d=k
theorem xz(h:k∉kvs.map (·.1)):gD kvs k d=kvs++[(k,d)]:=by unfold gD;rw[p4];intro z;obtain⟨e,i⟩:=Sn.mp z;exact h (K1 (f:=(·.1))<|bz i)
theorem uM(ps:List (D×D))(h:(ps.map (·.1)).Nodup):dictOf ps=ps:=by revert h;refine jI (P:=λps=>(ps.map (·.1)).Nodup->dictOf ps=ps) (λ_=>rfl) (λps p i h=>?_) ps;rw[Fn]at h;have h':=OZ.mp h;rw[dI,i h'.1,xz];intro z;exact h'.2.2 _ z _ (by simp) rfl
theorem kH{M:u8}{x:c8}{l:List c8}:NL M (.str x) (l.map .str)=decide (x∈l):=by unfold NL;rw[List.any_map];by_cases h:x∈l;rw[dT_ h];exact Nx.mpr ⟨x,h,by show u7 M w4 (.str x) (.str x)=b9;rw[aV];exact t5 x⟩;rw[dF_ h];refine NY.mpr λz=>?_;obtain⟨y,O,e⟩:=Nx.mp z;have a:u7 M w4 (.str y) (.str x)=b9:=e;rw[aV]at a;exact h<|eq_of_beq a ▸ O
theorem kh{M:u8}{l:List c8}:(l.map D.str).all (v7 M w4)=b9:=F0.mpr λx h=>by obtain⟨y,_,rfl⟩:=z6.mp h;exact ap
noncomputable def aE(rs:List (c8×List c8))(log:List D):List (D×D):=(av rs log).filter λp=>@decide (¬aQ (av rs log) log p.1)<|K5 _
theorem nh:p∈aE rs log↔p∈av rs log/\¬aQ (av rs log) log p.1:=by unfold aE;rw[List.mem_filter];exact and_congr Iff.rfl<|@decide_eq_true_iff _<|K5 _
theorem xu:((aE rs log).map (·.1)).Nodup:=(QB.map _).nodup bo.nd
noncomputable def aw(kvs:List (D×D))(log:List D):List (D×D):=dictOf<|((kinds log<|u3 "change").filter<|G0 kvs).map λd=>(pV d,gj d)
noncomputable def nR(ch:List (D×D))(d:D):D:=.tup [x9 d,.str<|bI d,gj d,.str<|dG d,(aG ch<|x9 d).getD<|Dk d,.bl (aG ch<|x9 d).isSome]
structure BackL(rs:List (c8×List c8))(log:List D)(ys:List D):Prop where
 st:∀x∈ys,St x
 mem:∀x,x∈ys↔aQ (av rs log) log x
 nd:ys.Nodup
 up:ys.Pairwise λa b=>¬F4 w4 b<F4 w4 a
inductive RT(rs:List (c8×List c8))(l:List D):D->Prop
 |top {d:D} (h:d∈l) (m:dG d∈pW rs (bI d)) (u:gj d=.non):RT rs l d
 |sub {d e:D} (h:d∈l) (m:dG d∈pW rs (bI d)) (s:RT rs l e) (u:gj d=x9 e) (o:F4 w4 (x9 e)<F4 w4 (x9 d)) (r:bI e=bI d):RT rs l d
theorem zC:gh (lZ kvs k d) k=b7 d:=by
 unfold lZ;split;rename_i hs;obtain⟨p,hp,e⟩:=Nx.mp hs;unfold gh;rw[Qj];have l:((λp:c8×D=>decide<|p.1=k) ∘ λp:c8×D=>if p.1=k then(p.1,d)else p)=λp=>decide (p.1=k):=by funext p;show decide ((if p.1=k then(p.1,d)else p).1=k)=decide (p.1=k);split<;>rfl
 rw[l];cases f:kvs.find? λp=>decide (p.1=k) with
 |none=>exact p5 e<|by simpa using Rk.mp f p hp
 |some q =>
  have h:q.1=k:=by have:=Px f;exact oT_ this
  show b7 (if q.1=k then(q.1,d)else q).2=_;rw[p0 h]
 rename_i hs;unfold gh;have:kvs.find? (λp=>decide<|p.1=k)=b8:=Rk.mpr λp hp z=>hs<|Nx.mpr ⟨p,hp,z⟩;rw[Re,this];simp
theorem yr(h:j≠k):gh (lZ kvs k d) j=gh kvs j:=by
 unfold lZ;split;unfold gh;rw[Qj];have e:((λp:c8×D=>decide<|p.1=j) ∘ λp:c8×D=>if p.1=k then(p.1,d)else p)=λp=>decide (p.1=j):=by funext p;show decide ((if p.1=k then(p.1,d)else p).1=j)=decide (p.1=j);split<;>rfl
 rw[e];cases f:kvs.find? λp=>decide (p.1=j) with
 |none=>rfl
 |some q =>
  have a:q.1=j:=by have:=Px f;exact oT_ this
  show b7 (if q.1=k then(q.1,d)else q).2=b7 q.2;rw[p4<|by rw[a];exact h]
 unfold gh;rw[Re];cases f:kvs.find? λp=>decide (p.1=j) with
 |none=>simp[A2 h]
 |some q=>rfl
noncomputable def lO(log:List D)(k name:c8):List D:=(kinds log k).filter λd=>decide<|dG d=name
theorem nS(h:d∈lO log k name):d∈log/\bv d=k/\dG d=name:=⟨(bD (E5.mp h).1).1,(bD (E5.mp h).1).2,oT_ (E5.mp h).2⟩
theorem nT:(lO log k name).length<=log.length:=J1 (K9 _ _) bu
noncomputable def lK(log:List D)(k name:c8):List D:=(lO log k name).map pV
noncomputable def Su:D->D×Int
 |.tup [h,.int c]=>(h,c)
 |_=>(.non,0)
noncomputable def IY:D->List (D×Int)
 |.tup vs=>vs.map Su
 |_=>[]
theorem CV:IY (.tup<|qy hs)=hs:=by show (qy hs).map Su=hs;unfold qy;rw[D7];exact Oq _
noncomputable def sw(log:List D)(name r:c8):List D:=((lO log (u3 "read") name).filter λd=>decide<|bI d=r).map gj
structure VbAt(B:u8)(n:Nat)(tab:List (c8×D))(f:c8->List D):Prop where
 at_:B[n]?=b7 (.dct tab)
 got:∀k d,gh tab k=b7 d->∃m,d=.ref m/\n+1<m/\B[m]?=b7 (.lst<|f k)
 no:∀k,gh tab k=b8->f k=[]
 one:∀k k' m,gh tab k=b7 (.ref m)->gh tab k'=b7 (.ref m)->k=k'
theorem VbAt.pre(h:VbAt B n tab f)(p:B <+: B'):VbAt B' n tab f:=⟨bn p h.at_,λk d a=>let ⟨m,e,l,g⟩:=h.got k d a;⟨m,e,l,bn p g⟩,h.no,h.one⟩
theorem VbAt.kids(h:VbAt B n tab f)(a:B[q0]?=b7 (.lst [])):∃q,(gh tab k).getD (.ref q0)=.ref q/\B[q]?=b7 (.lst<|f k):=by
 cases e:gh tab k with
 |none=>exact⟨q0,rfl,by rw[h.no k e];exact a⟩
 |some d=>obtain⟨m,rfl,_,g⟩:=h.got k d e;exact⟨m,rfl,g⟩
noncomputable def qI(log:List D)(name:c8)(e:D):Bool:=decide (dG e=name)||(decide (x9 e∈lK log (u3 "seen") name)||(sw log name<|bI e).any λv=>fO (IY v) (BL e)<|numD e)
noncomputable def begB(y n:c8):Bool:=Pt y n && !(!iF (L6 y (b7 (n.length:Int))<|b7<|(n.length:Int)+1) "a" && !iF "z" (L6 y (b7 (n.length:Int))<|b7<|(n.length:Int)+1))
noncomputable def bN(s:D)(name:c8):Bool:=match s with
 |.str x=>((K3 x<|u3 "@").drop 1).any λy=>begB y name
 |_=>c5
noncomputable def oG(rs:List (c8×List c8))(log:List D)(e:D):D:=(aG (aw (aE rs log) log)<|x9 e).getD<|Dk e
noncomputable def bL(rs:List (c8×List c8))(name:c8):List c8:=(rs.filter λp=>decide<|name∈p.2).map (·.1)
noncomputable def eA(rs:List (c8×List c8))(log:List D)(name:c8):List D:=((aE rs log).map (·.2)).filter λe=>!qI log name e
theorem Dp(h:k∉kvs.map (·.1)):lZ kvs k d=kvs++[(k,d)]:=by unfold lZ;rw[p4];intro z;obtain⟨p,hp,e⟩:=Nx.mp z;exact h<|oT_ e ▸ K1 hp
noncomputable def aO(r:c8)(es:List D)(k:D):List D:=(es.filter λe=>decide (bI e=r)&&decide (gj e=k)).map x9
theorem Bq:aO r (es++[e]) k=if bI e=r/\gj e=k then aO r es k++[x9 e]else aO r es k:=by unfold aO;rw[O4,Fn,MZ,Ql];by_cases h:bI e=r/\gj e=k;rw[p0 h,dT_ h.1,dT_ h.2];rfl;rw[p4 h,p4];simp;intro z;have:=(D9 _ _).mp z;exact h ⟨oT_ this.1,oT_ this.2⟩
structure TreeAt(B:u8)(n:Nat)(tab:List (D×D))(f:D->List D):Prop where
 at_:B[n]?=b7 (.dkm tab)
 got:∀k d,aG tab k=b7 d->∃m,d=.ref m/\n<m/\B[m]?=b7 (.lst<|f k)
 no:∀k,aG tab k=b8->f k=[]
 one:∀k k' m,aG tab k=b7 (.ref m)->aG tab k'=b7 (.ref m)->k=k'
noncomputable def cZ(n:Int)(xs:List D):List D:=xs.reverse.map λx=>.tup [.int n,x]
inductive RunW(f:D->List D):List D->List D->List D->Prop
 |done {rows:List D}:RunW f rows [] rows
 |step {rows todo out:List D}{n:Int}{x:D} (h:RunW f (rows++[.tup [.int n,x]]) (todo++cZ (n+1) (f x)) out):RunW f rows (todo++[.tup [.int n,x]]) out
theorem RunW.uni(h:RunW f rows todo out)(h':RunW f rows todo out'):out=out':=by
 induction h generalizing out' with
 |done =>
  generalize e:([]:List D)=t at h';cases h' with
  |done=>rfl
  |step h=>simp at e
 |@step rows todo out n x h i =>
  generalize e:todo++[.tup [.int n,x]]=t at h';cases h' with
  |done=>simp at e
  |@step _ a _ p b h2=>obtain⟨rfl,l⟩:=List.append_inj' e rfl;injection l with l;injection l with l;injection l with e3 e4;injection e3 with e3;injection e4 with e4;subst e3 e4;exact i h2
noncomputable def gd:D->D
 |.tup [_,s]=>s
 |_=>.non
structure TreeW(r:c8)(es rows todo:List D):Prop where
 nd:((rows++todo).map gd).Nodup
 ok:∀x∈rows++todo,∃(k:Int) (e:D),x=.tup [.int k,x9 e]/\e∈es/\bI e=r/\(gj e=.non\/gj e∈rows.map gd)
theorem mf:x∈aO r es k↔∃e∈es,x9 e=x/\bI e=r/\gj e=k:=by unfold aO;rw[z6];constructor;rintro⟨e,he,rfl⟩;have h1:=E5.mp he;have h2:=(D9 _ _).mp h1.2;exact⟨e,h1.1,rfl,oT_ h2.1,oT_ h2.2⟩;rintro⟨e,he,rfl,h1,h2⟩;exact⟨e,E5.mpr ⟨he,by rw[dT_ h1,dT_ h2];rfl⟩,rfl⟩
theorem tO:x∈cZ n xs↔∃s∈xs,x=.tup [.int n,s]:=by unfold cZ;rw[z6];refine⟨λ⟨s,h,e⟩=>⟨s,List.mem_reverse.mp h,e.symm⟩,?_⟩;rintro⟨s,h,e⟩;exact⟨s,List.mem_reverse.mpr h,e.symm⟩
theorem nq:(cZ n xs).map gd=xs.reverse:=by unfold cZ;rw[D7];exact Oq _
section
variable{r:c8}{es rows todo:List D}
theorem Br(h:(es.map x9).Nodup)(k:D):(aO r es k).Nodup:=(QB.map _).nodup h
theorem Go(h:(es.map x9).Nodup)(f:a∈es)(d:b∈es)(e:x9 a=x9 b):a=b:=by
 induction es with
 |nil=>cases f
 |cons x es i =>
  rw[B9,J5]at h;rcases A3.mp f with f|f<;>rcases A3.mp d with d|d
  rw[f,d];rw[f]at e;exact p5 (e ▸ K1 d) h.1;rw[d]at e;exact p5 (e ▸ K1 f) h.1;exact i h.2 f d
theorem TreeW.start(h:(es.map x9).Nodup):TreeW r es [] (cZ 0<|aO r es .non):=by refine⟨?_,λx a=>?_⟩;rw[G2,nq];exact(List.reverse_perm _).nodup_iff.mpr<|Br h _;obtain⟨s,hs,rfl⟩:=tO.mp a;obtain⟨e,i,rfl,h1,h2⟩:=mf.mp hs;exact⟨0,e,rfl,i,h1,.inl h2⟩
theorem TreeW.step(h:(es.map x9).Nodup)(S:∀e∈es,x9 e≠.non)(w:TreeW r es rows (todo++[.tup [.int k,s]])):TreeW r es (rows++[.tup [.int k,s]]) (todo++cZ (k+1) (aO r es s)):=by
 obtain⟨L,l,A,j,_⟩:=w.ok (.tup [.int k,s]) (by simp);have d:s=x9 l:=by injection A with q;injection q with _ q;injection q
 have F:s≠.non:=by rw[d];exact S l j
 have K:=w.nd;have G:s∉rows.map gd:=λz=>by rw[Fn]at K;have:=(OZ.mp K).2.2 s z s (by rw[Fn];exact I9 _<|by simp[gd]);exact this rfl
 refine⟨?_,λx c=>?_⟩;have p:(rows++[D.tup [.int k,s]]++(todo++cZ (k+1) (aO r es s))).Perm (rows++(todo++[D.tup [.int k,s]])++cZ (k+1) (aO r es s)):=by rw[J6,J6];refine List.Perm.append_left _ ?_;rw[<-J6];exact List.Perm.append_right _ List.perm_append_comm
 rw[(p.map gd).nodup_iff,Fn,OZ];refine⟨K,by rw[nq];exact(List.reverse_perm _).nodup_iff.mpr<|Br h _,λa v b m e=>?_⟩;subst e;rw[nq,List.mem_reverse]at m;obtain⟨e,i,o,_,M⟩:=mf.mp m;obtain⟨x,c,u⟩:=z6.mp v;obtain⟨H,n,rfl,f,_,t⟩:=w.ok x c;have:n=e:=Go h f i<|u.trans o.symm;subst this;rcases t with t|t;exact F<|M.symm.trans t;exact G<|M ▸ t;have I:∀y,y∈rows.map gd->y∈(rows++[D.tup [.int k,s]]).map gd:=λy O=>by rw[Fn];exact Np _ O
 have g:∀x,x∈rows++(todo++[D.tup [.int k,s]])->∃(H:Int) (e:D),x=.tup [.int H,x9 e]/\e∈es/\bI e=r/\(gj e=.non\/gj e∈(rows++[D.tup [.int k,s]]).map gd):=λx c=>by obtain⟨H,e,B,C,E,J⟩:=w.ok x c;exact⟨H,e,B,C,E,J.imp_right<|I _⟩
 rcases F3.mp c with c|c;rcases F3.mp c with c|c;exact g x<|Np _ c;exact g x<|I9 _<|I9 _ c;rcases F3.mp c with c|c;exact g x<|I9 _<|Np _ c;obtain⟨y,O,rfl⟩:=tO.mp c;obtain⟨e,i,rfl,h1,h2⟩:=mf.mp O;exact⟨k+1,e,rfl,i,h1,.inr<|by rw[h2,Fn];exact I9 _<|by simp[gd]⟩
theorem AL{l l':List D}(X:l.Nodup)(h:∀x∈l,x∈l'):l.length<=l'.length:=by
 induction l generalizing l' with
 |nil=>exact A9 _
 |cons x l i =>
  obtain⟨n,p⟩:=J5.mp X;obtain⟨s,t,rfl⟩:=List.append_of_mem (h x<|by simp);have:=i (l':=s++t) p λy O=>by have:=h y<|C7 _ O;rcases F3.mp this with q|q;exact Np _ q;rcases A3.mp q with rfl|q;exact p5 O n;exact I9 _ q
  rw[B6]at this;rw[B6,D4,D4];lia
theorem TreeW.len(w:TreeW r es rows todo):rows.length+todo.length<=es.length:=by
 have:=AL w.nd (l':=es.map x9) λx h=>by obtain⟨y,O,rfl⟩:=z6.mp h;obtain⟨k,e,rfl,i,_⟩:=w.ok y O;exact K1 i
 rw[v4,v4,B6]at this;exact this
theorem Eo:(aO r es k).length<=es.length:=by unfold aO;rw[v4];exact K9 _ _
end
theorem TreeAt.pre(h:TreeAt B n tab f)(p:B <+: B'):TreeAt B' n tab f:=⟨bn p h.at_,λk d a=>let ⟨m,e,l,g⟩:=h.got k d a;⟨m,e,l,bn p g⟩,h.no,h.one⟩
theorem TreeAt.kids(h:TreeAt B n tab f)(a:B[q0]?=b7 (.lst [])):∃q,(aG tab k).getD (.ref q0)=.ref q/\B[q]?=b7 (.lst<|f k):=by
 cases e:aG tab k with
 |none=>exact⟨q0,rfl,by rw[h.no k e];exact a⟩
 |some d=>obtain⟨m,rfl,_,g⟩:=h.got k d e;exact⟨m,rfl,g⟩
noncomputable def Om:D->Int
 |.tup [.int k,_]=>k
 |_=>0
structure DepI(u:D->D)(rows todo:List D):Prop where
 to:∀T1 t T2,todo=T1++t::T2->∀A p B,rows=A++p::B->u (gd t)=gd p->Om t=Om p+1/\∀b∈B++T2,Om t<=Om b
 old:∀A p B x C,rows=A++p::(B++x::C)->u (gd x)=gd p->Om x=Om p+1/\∀b∈B,Om x<=Om b
noncomputable def PY:D->D
 |.tup (x::_)=>x
 |d=>d
noncomputable def outR(rs:List (c8×List c8))(log:List D)(r:c8):List D:=Classical.epsilon λout=>RunW (aO r ((av rs log).map (·.2))) [] (cZ 0 (aO r ((av rs log).map (·.2)) .non)) out
theorem RunW.out{rs:List (c8×List c8)}{log out:List D}{r:c8}(h:RunW (aO r ((av rs log).map (·.2))) [] (cZ 0 (aO r ((av rs log).map (·.2)) .non)) out):out=outR rs log r:=h.uni (Classical.epsilon_spec (p:=λout=>RunW (aO r ((av rs log).map (·.2))) [] (cZ 0 (aO r ((av rs log).map (·.2)) .non)) out) ⟨out,h⟩)
noncomputable def FM(rs:List (c8×List c8))(log:List D)(name:c8)(s:D):Option D:=(aG (aE rs log) s).filter λe=>!qI log name e
noncomputable def gi(rs:List (c8×List c8))(log:List D)(name r:c8):List D:=(outR rs log r).filterMap λx=>FM rs log name<|gd x
theorem AM(h:FM rs log name s=b7 e):aG (aE rs log) s=b7 e/\qI log name e=c5:=by obtain⟨h1,h2⟩:=Option.filter_eq_some_iff.mp h;exact⟨h1,by simpa using h2⟩
theorem md(h:e∈gi rs log name r):∃s,s∈(outR rs log r).map gd/\aG (aE rs log) s=b7 e/\qI log name e=c5:=by obtain⟨x,a,t⟩:=Qy.mp h;exact⟨_,K1 a,AM t⟩
noncomputable def vh(rs:List (c8×List c8))(log:List D)(name:c8):List (D×D):=(eA rs log name).map λe=>(x9 e,nR (aw (aE rs log) log) e)
theorem zf(o:∀q∈T,q.1=x9 q.2)(X:(T.map (·.1)).Nodup):aG (((T.map (·.2)).filter p).map λe=>(x9 e,f e)) s=((aG T s).filter p).map f:=by
 induction T with
 |nil=>rfl
 |cons q T i =>
  rw[B9,J5]at X;have e:=o q E3;have i:=i (λq a=>o q<|C7 _ a) X.2;have g1:∀{k d:D}{L:List (D×D)},aG ((k,d)::L) s=if k=s then b7 d else aG L s:=λ{k d L}=>by unfold aG;rw[ML];by_cases h:k=s;rw[dT_ h,p0 h];rfl;rw[dF_ h,p4 h]
  obtain⟨k,d⟩:=q;dsimp only at e;subst e;rw[g1,B9,MZ];by_cases hs:x9 d=s;rw[p0 hs];have n:aG T s=b8:=by
   cases R:aG T s with
   |none=>rfl
   |some v=>exact p5 (hs ▸ K1 (f:=(·.1)) (bz R)) X.1
  rw[n]at i;cases hp:p d with
  |true=>rw[p0 rfl,B9,g1,p0 hs];show _=Option.map f (if p d=b9 then b7 d else b8);rw[hp];rfl
  |false=>rw[p4 (by simp),i];show _=Option.map f (if p d=b9 then b7 d else b8);rw[hp];rfl
  rw[p4 hs];cases hp:p d with
  |true=>rw[p0 rfl,B9,g1,p4 hs,i]
  |false=>rw[p4 (by simp),i]
noncomputable def fF(x:c8):Bool:=!iF x "a" && !iF "z" x
def dW:A0:=λds M R=>∃x:c8,ds=[.str x]/\R (.bl<|fF x) M
theorem rj:cN dW jd:=by rintro ds M R ⟨x,rfl,_⟩;rfl
def mS:u4:=bi<|uQ Pc Pc (dC<|.str "a") (ab 0)<|dC<|.str "z"
theorem sk:A8 dW 1 mS:=by
 rintro ds M R ⟨x,rfl,h⟩;unfold mS;walk_at"dl";unfold fF at h;cases e:iF x "a" with
 |true=>rw[e]at h;exact cD<|aY.now h
 |false=>rw[e]at h;exact cQ<|aY.now h
theorem ub(T:Tops P w K mg base):v8 P w K mg base 1 "is_letter" jd dW:=v8.byD (N:=["sign"]) T.b T.f_is_letter (by walk_at"sc") rj (by walk_at"dv") sk
noncomputable def Bc(c:Nat):Bool:=decide (97<=c)&&decide (c<=122)
theorem rD(c:Nat):fF ⟨#[c]⟩=Bc c:=by
 have l:∀a b:Nat,decide ([a] < [b])=decide (a<b):=λa b=>by rw[StrLaws.lt_cons_cons,StrLaws.lt_nil_nil];simp
 have t:iF ⟨#[c]⟩ "a" = decide (c<97):=l c 97;have e:iF "z" ⟨#[c]⟩=decide (122<c):=l 122 c;unfold fF Bc;rw[t,e,OW];simp only[D9,Bool.not_eq_true',decide_eq_false_iff_not,p7];lia
theorem oT(x:c8)(h:x.cps.toList=[]):fF x=c5:=by have:x=⟨#[]⟩:=qF h;subst this;unfold fF;have:iF (⟨#[]⟩:c8) "a" = b9:=StrLaws.lt_nil_cons 97 [];rw[this];rfl
noncomputable def gY(t n:c8):Bool:=Pt t n && !fF (L6 t (b7 (n.length:Int))<|b7<|(n.length:Int)+1)
def br:A0:=λds M R=>∃t n:c8,ds=[.str t,.str n]/\t.length<=100/\n.length<=100/\R (.bl<|gY t n) M
theorem iJ:cN br cg:=by rintro ds M R ⟨t,n,rfl,_⟩;rfl
def cU:u4:=bi<|oU (Pd nu (ab 0)<|aa (ab 1) af)<|Ch<|u5 dW<|aa (ab 2) af
def dP:u4:=aB (bb (N3 (ab 0) (lV<|u5 ii<|aa (ab 1) af)<|lV<|t7 aM (u5 ii<|aa (ab 1) af)<|dC<|.int 1) 2)<|cU
theorem iX:A8 br 3 dP:=by
 rintro ds M R ⟨t,n,rfl,B,f,h⟩;simp only[dP,cU];walk_at"dl";refine⟨ah (by lia),ah (by lia),ah (by lia),?_⟩;unfold gY at h;cases e:Pt t n with
 |false=>rw[e]at h;exact cD<|aY.now h
 |true=>rw[e]at h;exact cQ ⟨_,rfl,aY.now h⟩
theorem jh(T:Tops P w K mg base):v8 P w K mg base 2 "begins_with_name" cg br:=v8.byD (N:=["text","name","behind"]) T.b T.f_begins_with_name (by walk_at"sc") iJ (by have:=ub T;walk_at"dv") iX
def fM:A0:=λds M R=>∃s n:c8,ds=[.str s,.str n]/\s.length<=100/\n.length<=100/\R (.bl<|bN (.str s) n) M
theorem uC:cN fM kx:=by rintro ds M R ⟨t,n,rfl,_⟩;rfl
theorem An(x y:c8):(K3 x y).length<=x.length+2:=by unfold K3;split;simp;split;simp;rw[length_partsBetween];have:=StrLaws.occ_length_le x y 0 x.length<|x.length+1;lia
theorem cut1:cutD xs (b7 1) b8=xs.drop 1:=by unfold cutD;rw[HT.sIx_none,show (1:Int)=((1:Nat):Int)from rfl,HT.sIx_nat];by_cases h:1<=xs.length;rw[Qm h,PF<|by rw[L8];exact v6 _];have:xs=[]:=List.eq_nil_of_length_eq_zero (by lia);subst this;rfl
def pH:u4:=bi<|u5 Jc<|aa (E7 1 [1] (bE<|N3 (Pd tV (ab 0)<|aa (dC<|.str "@") af) (lV<|dC<|.int 1) kJ) (ag 0) oj<|u5 br<|aa (ab 0)<|aa (ab 1) af) af
theorem vt:A8 fM 2 pH:=by
 rintro ds M R ⟨s,n,rfl,hs,l,h⟩;simp only[pH];walk_at"dl";have p:=An s<|u3 "@";refine⟨⟨by decide,ah (by lia),ah<|by lia⟩,_,ad,_,ad,λ_=>?_⟩;rw[cut1];refine bd (λd=>match d with|.str y=>.bl (gY y n)|_=>.non) (λS=>∃a,S=[a,b7<|.str n]) ad _ _ _ (λx b S ⟨a,c⟩=>?_) ⟨_,rfl⟩ ?_ ?_;rw[<-Qg]at b;obtain⟨y,O,rfl⟩:=z6.mp b;subst c;refine⟨[b7<|.str y,b7<|.str n],⟨_,rfl⟩,λY e=>?_⟩;walk_at"dl";refine⟨y,n,rfl,?_,l,e⟩;obtain⟨k,i,j,_,_,rfl⟩:=(kj s 64 (by decide) y).mp O;rw[bx,StrLaws.strSub_toList,F6,L8,<-bx];lia;rw[C9,L8,v4];exact ah (by lia);refine⟨((K3 s<|u3 "@").drop 1).map (gY · n),?_,?_⟩;have:([]++((List.map D.str<|K3 s<|u3 "@").drop 1).map λd=>match d with|.str y=>D.bl (gY y n)|_=>.non)=bls (((K3 s<|u3 "@").drop 1).map (gY · n)):=by rw[G2,<-Qg,D7];unfold bls;rw[D7];rfl
 rw[this];exact ad;have:(((K3 s<|u3 "@").drop 1).map (gY · n)).any id=bN (.str s) n:=by rw[List.any_map];rfl
 rw[this];exact aY.bl h<|by rw[J6,J6];exact MM _ _
theorem vX(T:Tops P w K mg base):v8 P w K mg base 3 "is_named" kx fM:=v8.byD (N:=["saying","name"]) T.b T.f_is_named (by walk_at"sc") uC (by have:=jh T;walk_at"dv") vt
noncomputable def iU:D->D
 |.tup (a::_)=>a
 |_=>.non
def dY:A0:=λds M R=>∃xs:List D,ds=[.tup xs]/\(∀x∈xs,∃a r,x=.tup (a::r))/\R (.ref M.length) (M++[.lst<|xs.map iU])
theorem rq:cN dY je:=by rintro ds M R ⟨xs,rfl,_⟩;rfl
def mV:u4:=bi<|E7 1 [] (bE<|ab 0) (ag 0) oj<|t7 v5 (ab 0)<|dC<|.int 0
theorem ss:A8 dY 1 mV:=by rintro ds M R ⟨xs,rfl,x,h⟩;simp only[mV];walk_at"dl";intro g;refine bd iU (λS=>∃a,S=[a]) trivial _ _ _ ?_ ⟨_,rfl⟩ ?_ ?_;rintro y O S ⟨a,rfl⟩;obtain⟨b,r,rfl⟩:=x y O;refine⟨[b7<|.tup<|b::r],⟨_,rfl⟩,λY D=>?_⟩;walk_at"dl";exact D;simpa using g;exact .inl h
theorem uc(T:Tops P w K mg base):v8 P w K mg base 1 "firsts_of" je dY:=v8.byD (N:=["pairs"]) T.b T.f_firsts_of (by walk_at"sc") rq (by walk_at"dv") ss
def iC:A0:=λds M R=>∃(ps:List (c8×Int)) (a:List (c8×List c8)) (r:c8),ds=[ax ps a,.str r]/\r∈a.map (·.1)/\R (.bl b9) M
theorem wm:cN iC nH:=by rintro ds M R ⟨ps,a,r,rfl,_⟩;rfl
def sW:u4:=bi<|t7 Oh (ab 1)<|u5 dY<|aa (t7 v5 (ab 0)<|dC<|.int 1) af
theorem yk:A8 iC 2 sW:=by
 rintro ds M R ⟨ps,a,r,rfl,i,h⟩;simp only[sW,ax];walk_at"dl";refine⟨_,rfl,λx b=>?_,?_⟩;obtain⟨p,_,rfl⟩:=z6.mp b;exact⟨_,_,rfl⟩;have e:(a.map fi).map iU=(a.map (·.1)).map .str:=by rw[D7,D7];rfl
 rw[e];refine⟨_,ad,⟨ap,kh⟩,?_⟩;rw[kH,dT_ i];exact aY.bl h bt
theorem yK(T:Tops P w K mg base):v8 P w K mg base 2 "is_room" nH iC:=v8.byD (N:=["house","thing"]) T.b T.f_is_room (by walk_at"sc") wm (by have:=uc T;walk_at"dv") yk
def fK:A0:=λds M R=>∃(ps:List (c8×Int)) (a:List (c8×List c8)) (e:c8),ds=[ax ps a,.str e]/\a.length<=1000/\R (.ref M.length) (M++[.lst<|(bL a e).map .str])
theorem uA:cN fK kt:=by rintro ds M R ⟨ps,a,e,rfl,_⟩;rfl
def pF:u4:=bi<|E7 1 [1] (bE<|t7 v5 (ab 0)<|dC<|.int 1) (ag 0) (au<|t7 Oh (ab 1)<|t7 v5 (ab 0)<|dC<|.int 1)<|t7 v5 (ab 0)<|dC<|.int 0
theorem vp:A8 fK 2 pF:=by
 rintro ds M R ⟨ps,s,n,rfl,g,h⟩;simp only[pF,ax];walk_at"dl";intro _;refine aU (λd=>match d with|.tup [_,.tup ms]=>decide (D.str n∈ms)|_=>c5) (λd=>match d with|.tup (x::_)=>x|_=>.non) (λS=>∃a,S=[a,b7<|.str n]) trivial _ _ _ ?_ ⟨_,rfl⟩ (by rw[C9,v4];exact ah<|by lia) ?_;rintro d m S ⟨a,rfl⟩;obtain⟨p,hp,rfl⟩:=z6.mp m;refine⟨[b7<|fi p,b7<|.str n],⟨_,rfl⟩,λY Z b=>?_⟩;have b:if decide (D.str n∈p.2.map D.str)=b9 then Y (.str p.1) [b7<|fi p,b7<|.str n] M else Z [b7<|fi p,b7<|.str n] M:=b
 have F:(D.str n∈p.2.map D.str)↔n∈p.2:=by constructor;intro z;obtain⟨y,O,e⟩:=z6.mp z;injection e with e;exact e ▸ O;exact λz=>K1 z
 unfold fi at b ⊢;walk_at"dl";refine⟨⟨ap,kh⟩,?_⟩;rw[kH];by_cases e:n∈p.2;rw[dT_ e];rw[dT_<|F.mpr e]at b;exact b;rw[dF_ e];rw[dF_<|λz=>e<|F.mp z]at b;exact b;rw[G2,Q2,D7];have e:((s.filter<|(λd:D=>match d with|.tup [_,.tup ms]=>decide (D.str n∈ms)|_=>c5) ∘ fi).map<|(λd:D=>match d with|.tup (x::_)=>x|_=>.non) ∘ fi)=(bL s n).map .str:=by
  unfold bL;rw[D7];have:((λd:D=>match d with|.tup [_,.tup ms]=>decide (D.str n∈ms)|_=>c5) ∘ fi)=λp:c8×List c8=>decide (n∈p.2):=by funext p;show decide (D.str n∈p.2.map D.str)=decide (n∈p.2);rw[decide_eq_decide];constructor;intro z;obtain⟨y,O,e⟩:=z6.mp z;injection e with e;exact e ▸ O;exact λz=>K1 z
  rw[this];rfl
 rw[e];exact .inl h
theorem vV(T:Tops P w K mg base):v8 P w K mg base 1 "rooms_of" kt fK:=v8.byD (N:=["house","name"]) T.b T.f_rooms_of (by walk_at"sc") uA (by walk_at"dv") vp
def cv:A0:=λds M R=>∃(ps:List (c8×Int)) (a:List (c8×List c8)) (r:c8),ds=[ax ps a,.str r]/\r∈a.map (·.1)/\R (.tup<|(pW a r).map .str) M
theorem oQ:cN cv gJ:=by rintro ds M R ⟨ps,a,r,rfl,_⟩;rfl
theorem nU:pW (p::rs) r=if p.1=r then p.2 else pW rs r:=by unfold pW;rw[ML];by_cases h:p.1=r;rw[dT_ h,p0 h];rfl;rw[dF_ h,p4 h]
def oF:u4:=qi
def kT:u4:=aB (lW (bE<|t7 v5 (ab 0)<|dC<|.int 1) (gR 2<|aI (ag 2)<|aI (ag 3) gU)<|B8 (au<|t7 C4 (ab 2)<|ab 1) (bi<|ab 3) aT)<|oF
theorem qu:A8 cv 4 kT:=by
 rintro ds M R ⟨ps,s,r,rfl,i,h⟩;simp only[kT,ax];walk_at"dl";intro _;refine jW (λys S M'=>∃qs a b,ys=qs.map fi/\M'=M/\S=[b7<|ax ps s,b7<|.str r,a,b]/\pW s r=pW qs r/\r∈qs.map (·.1)) ?_ ?_ _ _ _ ⟨s,_,_,rfl,rfl,rfl,rfl,i⟩;rintro S M' ⟨qs,a,b,q,rfl,rfl,e,d⟩;have:qs=[]:=by cases qs<;>simp_all
 subst this;cases d;rintro x xs S M' ⟨qs,a,b,q,rfl,rfl,e,d⟩ L c;cases qs with
 |nil=>cases q
 |cons p qs=>rw[B9]at q;injection q with h1 h2;subst h1;refine⟨trivial,?_⟩;unfold fi;walk_at"dl";refine⟨trivial,⟨ap,ap⟩,?_⟩;rw[aV];rw[nU]at e;by_cases q:p.1=r;rw[beq_iff_eq.mpr q];rw[p0 q]at e;refine cQ<|aY.now ?_;rw[<-e];exact h;rw[beq_eq_false_iff_ne.mpr q];rw[p4 q]at e;rw[B9,A3]at d;exact cD<|C1.now<|c _ _ ⟨qs,_,_,h2,rfl,rfl,e,d.resolve_left<|A2 q⟩
theorem jP(T:Tops P w K mg base):v8 P w K mg base 1 "members_of" gJ cv:=v8.byD (N:=["house","room","told","members"]) T.b T.f_members_of (by walk_at"sc") oQ (by walk_at"dv") qu
def bX:A0:=λds M R=>∃(a b:D) (r:List D),ds=[.tup<|a::b::r]/\R (.tup [a,b]) M
theorem uz:cN bX kr:=by rintro ds M R ⟨a,b,r,rfl,_⟩;rfl
def pj:u4:=bi<|eZ<|aa (t7 v5 (ab 0)<|dC<|.int 0)<|aa (t7 v5 (ab 0)<|dC<|.int 1) af
theorem vn:A8 bX 1 pj:=by rintro ds M R ⟨a,b,r,rfl,h⟩;simp only[pj];walk_at"dl";exact⟨ah (by lia),aY.now h⟩
theorem fx(T:Tops P w K mg base):v8 P w K mg base 1 "stamp_of" kr bX:=v8.byD (N:=["deed"]) T.b T.f_stamp_of (by walk_at"sc") uz (by walk_at"dv") vn
def bg:A0:=λds M R=>∃(t x:D) (r n:List D),ds=[.tup<|t::.tup (x::r)::n]/\R x M
theorem qY:cN bg ja:=by rintro ds M R ⟨t,x,r,n,rfl,_⟩;rfl
def mF:u4:=bi<|t7 v5 (t7 v5 (ab 0)<|dC<|.int 1)<|dC<|.int 0
theorem sf:A8 bg 1 mF:=by rintro ds M R ⟨t,x,r,n,rfl,h⟩;simp only[mF];walk_at"dl";exact aY.now h
theorem cP(T:Tops P w K mg base):v8 P w K mg base 1 "person_of" ja bg:=v8.byD (N:=["deed"]) T.b T.f_person_of (by walk_at"sc") qY (by walk_at"dv") sf
def dU:A0:=λds M R=>∃(t d:D) (m:Int) (r:List D) (hs:List (D×Int)),ds=[.tup<|t::d::.int m::r,.tup<|qy hs]/\Hd d/\(∀p∈hs,Hd p.1)/\hs.length<=1000/\R (.bl<|fO hs d m) M
theorem rh:cN dU jc:=by rintro ds M R ⟨t,d,m,r,hs,rfl,_⟩;rfl
def jE:u4:=bi<|dC<|.bl c5
def mQ:u4:=aB (lW (bE<|ab 1) (gR 2<|aI (ag 2)<|aI (ag 3) gU)<|B8 (au<|t7 C4 (ab 2)<|t7 v5 (ab 0)<|dC<|.int 1) (bi<|t7 NK (t7 v5 (ab 0)<|dC<|.int 2)<|ab 3) aT)<|jE
theorem sj:A8 dU 4 mQ:=by
 rintro ds M R ⟨t,d,m,r,hs,rfl,c,v,l,h⟩;simp only[mQ];walk_at"dl";refine λ_=>?_;refine jW (λys S M'=>M'=M/\∃qs a b,ys=qy qs/\(∀p∈qs,Hd p.1)/\fO qs d m=fO hs d m/\S=[b7<|.tup<|t::d::.int m::r,b7<|.tup<|qy hs,a,b]) ?_ ?_ _ _ _ ⟨rfl,hs,_,_,rfl,v,rfl,rfl⟩;rintro S M' ⟨rfl,qs,a,b,e,_,w,rfl⟩;obtain rfl:qs=[]:=by
  cases qs with
  |nil=>rfl
  |cons q qs=>cases e
 rw[<-w]at h;refine⟨trivial,?_⟩;simp only[jE];walk_at"dl";exact aY.now h;rintro x xs S M' ⟨rfl,qs,a,b,e,g,w,rfl⟩ G k;cases qs with
 |nil=>cases e
 |cons q qs =>
  have i:x=.tup [q.1,.int q.2]/\xs=qy qs:=by unfold qy at e ⊢;rw[B9]at e;injection e with e1 e2;exact⟨e1,e2⟩
  obtain⟨rfl,rfl⟩:=i;refine⟨trivial,?_⟩;have Q:=g q (by simp);walk_at"dl";refine⟨trivial,⟨Lq Q,Lq c⟩,?_⟩;cases f:u7 M' w4 q.1 d with
  |true =>
   have e:=(Ih (n:=29) Q c).mp f;have j:fO (q::qs) d m=decide (m<q.2):=by unfold fO;rw[ML,dT_ e]
   rw[<-w,j]at h;exact cQ<|aY.now h
  |false =>
   have e:q.1≠d:=λz=>by have:=(Ih (M:=M') (n:=29) Q c).mpr z;rw[show u7 M' (29+1) q.1 d=u7 M' w4 q.1 d from rfl,f]at this;cases this
   refine cD<|C1.now<|k _ _ ⟨rfl,qs,_,_,rfl,λp hp=>g p<|C7 _ hp,?_,rfl⟩;rw[<-w];unfold fO;rw[ML,dF_ e]
theorem ua(T:Tops P w K mg base):v8 P w K mg base 1 "is_within" jc dU:=v8.byD (N:=["deed","vector","hand","count"]) T.b T.f_is_within (by walk_at"sc") rh (by walk_at"dv") sj
def bc:A0:=λds M R=>∃(ps:List (c8×Int)) (a:List (c8×List c8)) (log:List D) (k:c8),ds=[.tup log,.str k]/\(∀d∈log,aF ps a d)/\log.length<=1000/\R (.ref M.length) (M++[.lst<|kinds log k])
theorem kF:cN bc dF:=by rintro ds M R ⟨ps,a,log,k,rfl,_⟩;rfl
def gu:u4:=bi<|E7 1 [1] (bE<|ab 0) (ag 0) (au<|t7 C4 (t7 v5 (t7 v5 (ab 0)<|dC<|.int 3)<|dC<|.int 0)<|ab 1)<|ab 0
theorem lJ:A8 bc 2 gu:=by rintro ds M R ⟨ps,s,log,k,rfl,f,l,h⟩;simp only[gu];walk_at"dl";intro _;refine aU (λd=>decide<|bv d=k) id (λS=>∃a,S=[a,b7<|.str k]) trivial _ _ _ ?_ ⟨_,rfl⟩ (by rw[C9];exact ah<|by lia) (by rw[G2,Oq];exact .inl h);rintro d g S ⟨a,rfl⟩;obtain⟨t,z,H,m,x,ds,rfl,_⟩:=f d g;refine⟨[b7<|.tup [.int t,.tup [.str z,.int H],.int m,.tup<|.str x::ds],b7<|.str k],⟨_,rfl⟩,λY Z b=>?_⟩;walk_at"dl";have Q:atI [D.int t,.tup [.str z,.int H],.int m,.tup<|.str x::ds] 3=b7 (.tup<|.str x::ds):=aq (j:=3) rfl;rw[Q];dsimp only;rw[QR];refine⟨⟨ap,ap⟩,?_⟩;rw[aV];have c:bv (.tup [.int t,.tup [.str z,.int H],.int m,.tup<|.str x::ds])=x:=rfl;rw[c]at b;by_cases e:x=k;rw[beq_iff_eq.mpr e];rw[dT_ e]at b;exact cQ b;rw[beq_eq_false_iff_ne.mpr e];rw[dF_ e]at b;exact cD b
theorem cS(T:Tops P w K mg base):v8 P w K mg base 1 "deeds_of_kind" dF bc:=v8.byD (N:=["log","kind"]) T.b T.f_deeds_of_kind (by walk_at"sc") kF (by walk_at"dv") lJ
def dJ:A0:=λds M R=>∃(ps:List (c8×Int)) (a:List (c8×List c8)) (log:List D) (k e:c8),ds=[.tup log,.str k,.str e]/\(∀d∈log,aF ps a d)/\log.length<=1000/\R (.ref M.length) (M++[.lst<|lO log k e])
theorem uD:cN dJ kz:=by rintro ds M R ⟨ps,a,log,k,e,rfl,_⟩;rfl
def pJ:u4:=bi<|E7 1 [2] (bE<|u5 bc<|aa (ab 0)<|aa (ab 1) af) (ag 0) (au<|t7 C4 (u5 bg<|aa (ab 0) af)<|ab 1)<|ab 0
theorem vA:A8 dJ 3 pJ:=by rintro ds M R ⟨ps,rs,log,k,n,rfl,c,g,h⟩;simp only[pJ];walk_at"dl";unfold lO at h;have f:∀d∈kinds log k,aF ps rs d:=λd q=>c d (E5.mp q).1;have l:(kinds log k).length<=1000:=J1 bu g;refine⟨ps,rs,log,k,rfl,c,g,?_⟩;generalize kinds log k=F at f l h;refine⟨F,ad,λ_=>?_⟩;refine aU (λd=>decide<|dG d=n) id (λS=>∃a,S=[a,b7<|.str n]) ad _ _ _ ?_ ⟨_,rfl⟩ (by rw[C9];exact ah<|by lia) ?_;rintro d j S ⟨a,rfl⟩;obtain⟨t,z,H,m,x,ds,rfl,_⟩:=f d j;refine⟨[b7<|.tup [.int t,.tup [.str z,.int H],.int m,.tup<|.str x::ds],b7<|.str n],⟨_,rfl⟩,λY Z b=>?_⟩;walk_at"dl";refine⟨_,_,_,_,rfl,⟨ap,ap⟩,?_⟩;rw[aV];have i:dG (.tup [.int t,.tup [.str z,.int H],.int m,.tup<|.str x::ds])=z:=rfl;rw[i]at b;by_cases e:z=n;rw[beq_iff_eq.mpr e];rw[dT_ e]at b;exact cQ b;rw[beq_eq_false_iff_ne.mpr e];rw[dF_ e]at b;exact cD b;rw[G2,Oq,J6];exact aY.lst h (by simp) (by simp)<|aF.bels (ps:=ps) (rs:=rs) λd q=>f d (E5.mp q).1
theorem nP(T:Tops P w K mg base):v8 P w K mg base 2 "deeds_by" kz dJ:=v8.byD (N:=["log","kind","name"]) T.b T.f_deeds_by (by walk_at"sc") uD (by have:=cP T;have:=cS T;walk_at"dv") vA
def cL:A0:=λds M R=>∃(ps:List (c8×Int)) (a:List (c8×List c8)) (log:List D) (k e:c8),ds=[.tup log,.str k,.str e]/\(∀d∈log,aF ps a d)/\log.length<=1000/\(k=u3 "seen"\/k=u3 "rung")/\((∀x∈lK log k e,St x)->R (.ref M.length) (M++[.lst<|lK log k e]))
theorem nW:cN cL fu:=by rintro ds M R ⟨ps,a,log,k,e,rfl,_⟩;rfl
def jD:u4:=bi<|E7 1 [] (bE<|u5 dJ<|aa (ab 0)<|aa (ab 1)<|aa (ab 2) af) (ag 0) oj<|t7 v5 (t7 v5 (ab 0)<|dC<|.int 3)<|dC<|.int 1
theorem oE:A8 cL 3 jD:=by
 rintro ds M R ⟨ps,s,log,k,name,rfl,g,o,l,h⟩;simp only[jD];walk_at"dl";refine⟨ps,s,log,k,name,rfl,g,o,?_⟩;have r:=nT (log:=log) (k:=k) (name:=name);have f:∀d∈lO log k name,∃(t:Int) (z:c8) (k n:Int) (x:c8) (m:D),d=.tup [.int t,.tup [.str z,.int k],.int n,.tup [.str x,m]]/\St m:=λd b=>by obtain⟨h1,h2,_⟩:=nS b;exact Gw (g d h1)<|l.imp (λe=>h2.trans e) λe=>h2.trans e
 have T:lK log k name=(lO log k name).map pV:=rfl;rw[T]at h;generalize lO log k name=F at r f h;have c:∀x∈F.map pV,St x:=λx p=>by obtain⟨d,b,rfl⟩:=z6.mp p;obtain⟨t,z,k,n,x,m,rfl,hs⟩:=f d b;exact hs
 refine⟨F,ad,λ_=>?_⟩;refine bd pV (λS=>∃a,S=[a]) ad _ _ _ (λd b S c=>?_) ⟨_,rfl⟩ (by rw[C9];exact ah<|by lia) ?_;obtain⟨a,rfl⟩:=c;obtain⟨t,z,k,n,x,m,rfl,_⟩:=f d b;refine⟨[b7<|.tup [.int t,.tup [.str z,.int k],.int n,.tup [.str x,m]]],⟨_,rfl⟩,λY i=>?_⟩;walk_at"dl";have Q:atI [D.int t,.tup [.str z,.int k],.int n,.tup [.str x,m]] 3=b7 (.tup [.str x,m]):=aq (j:=3) rfl;rw[Q];dsimp only;rw[On];exact i;rw[G2,J6];exact aY.lst (h c) (by simp) (by simp)<|Bels.of λd q=>bT 2 d (c d q).pl
theorem oJ(T:Tops P w K mg base):v8 P w K mg base 3 "stamps_told" fu cL:=v8.byD (N:=["log","kind","name"]) T.b T.f_stamps_told (by walk_at"sc") nW (by have:=nP T;walk_at"dv") oE
def bK:A0:=λds M R=>∃(a b c x r:D) (l:List D),ds=[.tup [a,b,c,.tup<|x::r::l]]/\R r M
theorem wg:cN bK nE:=by rintro ds M R ⟨a,b,c,x,r,l,rfl,_⟩;rfl
def sI:u4:=bi<|t7 v5 (t7 v5 (ab 0)<|dC<|.int 3)<|dC<|.int 1
theorem yh:A8 bK 1 sI:=by rintro ds M R ⟨a,b,c,x,r,l,rfl,h⟩;simp only[sI];walk_at"dl";have Q:atI [a,b,c,.tup<|x::r::l] 3=b7 (.tup<|x::r::l):=aq (j:=3) rfl;rw[Q];dsimp only;rw[On];exact aY.now h
theorem ik(T:Tops P w K mg base):v8 P w K mg base 1 "room_of" nE bK:=v8.byD (N:=["say"]) T.b T.f_room_of (by walk_at"sc") wg (by walk_at"dv") yh
def cI:A0:=λds M R=>∃(a b c x r u:D) (l:List D),ds=[.tup [a,b,c,.tup<|x::r::u::l]]/\R u M
theorem ux:cN cI ko:=by rintro ds M R ⟨a,b,c,x,r,u,l,rfl,_⟩;rfl
def pf:u4:=bi<|t7 v5 (t7 v5 (ab 0)<|dC<|.int 3)<|dC<|.int 2
theorem vj:A8 cI 1 pf:=by rintro ds M R ⟨a,b,c,x,r,u,l,rfl,h⟩;simp only[pf];walk_at"dl";have Q:atI [a,b,c,.tup<|x::r::u::l] 3=b7 (.tup<|x::r::u::l):=aq (j:=3) rfl;have e:atI (x::r::u::l) 2=b7 u:=aq (j:=2) rfl;rw[Q];dsimp only;rw[e];exact aY.now h
theorem jg(T:Tops P w K mg base):v8 P w K mg base 1 "under_of" ko cI:=v8.byD (N:=["say"]) T.b T.f_under_of (by walk_at"sc") ux (by walk_at"dv") vj
def dZ:A0:=λds M R=>∃(ps:List (c8×Int)) (a:List (c8×List c8)) (d:D) (q:Nat) (kvs:List (D×D)),ds=[ax ps a,d,.ref q]/\aF ps a d/\bv d=u3 "say"/\M[q]?=b7 (.dkt kvs)/\(∀p∈kvs,aF ps a p.2/\bv p.2=u3 "say")/\R (.bl<|tH a kvs d) M
theorem rA:cN dZ jf:=by rintro ds M R ⟨ps,a,d,q,kvs,rfl,_⟩;rfl
def jF:u4:=bi<|dOrV (t7 N0 (ab 3)<|dC .non)<|oU (t7 Au (ab 3)<|ab 2)<|t7 C4 (u5 bK<|aa (gf (ab 2)<|ab 3) af)<|u5 bK<|aa (ab 1) af
def jG:u4:=aB (bb (u5 cI<|aa (ab 1) af) 3)<|jF
def mX:u4:=aB (B8 (au<|t7 nv (u5 bg<|aa (ab 1) af)<|u5 cv<|aa (ab 0)<|aa (u5 bK<|aa (ab 1) af) af) (bi<|dC<|.bl c5) aT)<|jG
theorem su:A8 dZ 4 mX:=by
 rintro ds M R ⟨ps,a,d,q,kvs,rfl,p,w,i,y,h⟩;obtain⟨t,z,k,m,r,u,s,rfl,_,_,x,c⟩:=fZ p w;simp only[mX];walk_at"dl";refine⟨_,_,_,_,rfl,_,_,_,_,_,_,rfl,ps,a,r,rfl,x,⟨ap,kh⟩,?_⟩;rw[kH];have j:tH a kvs (.tup [.int t,.tup [.str z,.int k],.int m,.tup [.str<|u3 "say",.str r,u,.str s]])=(decide (z∈pW a r)&&(decide (u=.non)||match aG kvs u with
  |some e=>decide<|bI e=r
  |none=>c5)):=rfl
 rw[j]at h;by_cases f:z∈pW a r;rw[dT_ f]at h ⊢;refine cD ?_;simp only[jG,jF];walk_at"dl";refine⟨_,_,_,_,_,u,_,rfl,?_⟩;rcases c with rfl|c;walk_at"dl";refine aY.now ?_;simpa using h;obtain⟨t',F,H,rfl⟩:=c;rw[dF_<|by intro e;cases e]at h;walk_at"dl";refine⟨kvs,i,rfl,?_⟩;cases g:aG kvs (.tup [.int t',.tup [.str F,.int H]]) with
 |none=>rw[g]at h;exact cD<|aY.now h
 |some e =>
  rw[g]at h;obtain⟨v,b⟩:=y _<|bz g;obtain⟨D,E,C,A,n,G,B,l,_⟩:=fZ v b;dsimp only at l;subst l;refine cQ ⟨kvs,_,i,rfl,g,_,_,_,_,_,_,rfl,_,_,_,_,_,_,rfl,⟨ap,ap⟩,?_⟩;rw[aV];refine aY.now ?_;have o:(n==r)=decide (n=r):=by by_cases e:n=r;rw[dT_ e];exact beq_iff_eq.mpr e;rw[dF_ e];exact beq_eq_false_iff_ne.mpr e
  rw[o];exact h
 rw[dF_ f]at h ⊢;exact cQ<|aY.now h
theorem ud(T:Tops P w K mg base):v8 P w K mg base 2 "can_stand" jf dZ:=v8.byD (N:=["house","say","elders","under"]) T.b T.f_can_stand (by walk_at"sc") rA (by have:=jP T;have:=cP T;have:=ik T;have:=jg T;walk_at"dv") su
def bf:A0:=λds M R=>∃(ps:List (c8×Int)) (a:List (c8×List c8)) (log:List D),ds=[ax ps a,.tup log]/\(∀d∈log,aF ps a d)/\log.length<=1000/\∀n B,M <+: B->B[n]?=b7 (.dkt<|av a log)->R (.ref n) B
theorem jn:cN bf cH:=by rintro ds M R ⟨ps,a,log,rfl,_⟩;rfl
theorem hZ(h:∀d∈log,aF ps rs d)(g:∀d∈l,d∈kinds log (u3 "say"))(t:TabK l kvs):∀p∈kvs,aF ps rs p.2/\bv p.2=u3 "say":=λp hp=>by obtain⟨h1,h2⟩:=bD<|g _ (t.en p hp).2;exact⟨h _ h1,h2⟩
def dB:u4:=bi<|ab 2
def dD:u4:=aB (lW (bE<|u5 bc<|aa (ab 1)<|aa (dC<|.str "say") af) (ag 3)<|B8 (au<|u5 dZ<|aa (ab 0)<|aa (ab 3)<|aa (ab 2) af) (om (ab 2) (u5 bX<|aa (ab 3) af)<|ab 3) aT)<|dB
def eL:u4:=aB (bb (uO) 2)<|dD
theorem jy:A8 bf 4 eL:=by
 rintro ds M R ⟨ps,rs,log,rfl,c,n,h⟩;simp only[eL,dD];walk_at"dl";refine⟨ps,rs,log,_,rfl,c,n,?_⟩;have p:=bu (log:=log) (k:=u3 "say");have m:∀d∈kinds log (u3 "say"),aF ps rs d/\bv d=u3 "say":=λd q=>⟨c d (bD q).1,(bD q).2⟩
 have f:eW rs (kinds log<|u3 "say")=av rs log:=rfl;generalize A:kinds log (u3 "say")=K at p m f;refine⟨K,ad,λ_=>?_⟩;refine aX (λi S M'=>∃a,M'=M++[.dkt<|eW rs<|K.take i,.lst K]/\S=[b7<|ax ps rs,b7<|.tup log,b7<|.ref M.length,a]) ?_ ?_ ⟨_,by simp[eW],rfl⟩;rintro S M' ⟨a,rfl,rfl⟩;rw[MT,f];refine⟨.inl ?_,?_⟩;have:(M++[MO.dkt []]).length=M.length+1:=by simp
 rw[this];exact ir;simp only[dB];walk_at"dl";exact .inl<|h _ _ (MM _ _) ck;rintro i y S M' O ⟨a,rfl,rfl⟩ G b;have o:=E6 O;have j:K.take (i+1)=K.take i++[y]:=by rw[M7,O];rfl
 rw[j,jt]at b;have g:=qj (rs:=rs)<|K.take i;have v:=hZ c (λd q=>A ▸ Rq q) g;have l:=g.len;rw[F6]at l;generalize eW rs (K.take i)=kvs at b v l;obtain⟨e,r⟩:=m y o;refine⟨.inl ?_,?_⟩;have:(M++[MO.dkt []]).length=M.length+1:=by simp
 rw[this];exact ir;walk_at"dl";refine⟨ps,rs,y,_,kvs,rfl,e,r,ck,v,?_⟩;unfold vK at b;cases hs:tH rs kvs y with
 |true=>rw[hs,p0 rfl]at b;refine cQ ?_;obtain⟨t,z,k,s,x,ds,rfl,_⟩:=e;refine⟨_,_,_,rfl,kvs,ck,rfl,ar (by lia),?_⟩;rw[nj];exact C1.now<|b _ _ ⟨_,rfl,rfl⟩
 |false=>rw[hs,p4<|by decide]at b;exact cD<|C1.now<|b _ _ ⟨_,rfl,rfl⟩
theorem dR(T:Tops P w K mg base):v8 P w K mg base 3 "says_that_count" cH bf:=v8.byD (N:=["house","log","says","deed"]) T.b T.f_says_that_count (by walk_at"sc") jn (by have:=fx T;have:=cS T;have:=ud T;walk_at"dv") jy
def cy:A0:=λds M R=>∃(t:Int) (z:c8) (k n:Int) (x m:D) (l:List D) (q:Nat) (kvs:List (D×D)),ds=[.tup [.int t,.tup [.str z,.int k],.int n,.tup<|x::m::l],.ref q]/\St m/\M[q]?=b7 (.dkt kvs)/\(∀p∈kvs,P9 p.2)/\R (.bl<|G0 kvs<|.tup [.int t,.tup [.str z,.int k],.int n,.tup<|x::m::l]) M
theorem lT:cN cy eH:=by rintro ds M R ⟨t,z,k,n,x,m,l,q,kvs,rfl,_⟩;rfl
def fX:u4:=bi<|oU (t7 Au (ab 2)<|ab 1)<|t7 C4 (u5 bg<|aa (ab 0) af)<|u5 bg<|aa (gf (ab 1)<|ab 2) af
def iR:u4:=aB (bb (t7 v5 (t7 v5 (ab 0)<|dC<|.int 3)<|dC<|.int 1) 2)<|fX
theorem mx:A8 cy 3 iR:=by
 rintro ds M R ⟨t,z,k,n,x,m,l,q,kvs,rfl,c,b,v,h⟩;simp only[iR,fX];obtain⟨t',F,H,rfl⟩:=c;walk_at"dl";have Q:atI [D.int t,.tup [.str z,.int k],.int n,.tup<|x::.tup [.int t',.tup [.str F,.int H]]::l] 3=b7 (.tup<|x::.tup [.int t',.tup [.str F,.int H]]::l):=aq (j:=3) rfl;rw[Q];dsimp only;rw[On];refine⟨kvs,b,rfl,?_⟩;have d:G0 kvs (.tup [.int t,.tup [.str z,.int k],.int n,.tup<|x::.tup [.int t',.tup [.str F,.int H]]::l])=match aG kvs (.tup [.int t',.tup [.str F,.int H]]) with
  |some e=>decide<|z=dG e
  |none=>c5:=rfl
 rw[d]at h;cases g:aG kvs (.tup [.int t',.tup [.str F,.int H]]) with
 |none=>rw[g]at h;exact cD<|aY.now h
 |some e =>
  rw[g]at h;obtain⟨a,y,r,f,rfl⟩:=v _<|bz g;refine cQ ⟨_,_,_,_,rfl,kvs,_,b,rfl,g,_,_,_,_,rfl,⟨ap,ap⟩,?_⟩;rw[aV];refine aY.now ?_;have o:(z==y)=decide (z=y):=by by_cases e:z=y;rw[dT_ e];exact beq_iff_eq.mpr e;rw[dF_ e];exact beq_eq_false_iff_ne.mpr e
  rw[o];exact h
theorem nO(T:Tops P w K mg base):v8 P w K mg base 2 "is_by_writer" eH cy:=v8.byD (N:=["deed","says","message"]) T.b T.f_is_by_writer (by walk_at"sc") lT (by have:=cP T;walk_at"dv") mx
def bQ:A0:=λds M R=>∃(ps:List (c8×Int)) (a:List (c8×List c8)) (log:List D) (k:c8) (q:Nat) (kvs:List (D×D)),ds=[.tup log,.str k,.ref q]/\(∀d∈log,aF ps a d)/\log.length<=1000/\(k=u3 "change"\/k=u3 "back")/\M[q]?=b7 (.dkt kvs)/\(∀p∈kvs,P9 p.2)/\R (.ref M.length) (M++[.lst<|(kinds log k).filter<|G0 kvs])
theorem nV:cN bQ fq:=by rintro ds M R ⟨ps,a,log,k,q,kvs,rfl,_⟩;rfl
theorem Kw(h:aF ps rs d)(e:bv d=k)(b:k=u3 "change"\/k=u3 "back"):∃(t:Int) (z:c8) (k num:Int) (x m:D) (l:List D),d=.tup [.int t,.tup [.str z,.int k],.int num,.tup<|x::m::l]/\St m:=by rcases b with rfl|rfl;obtain⟨t,z,k,num,m,s,rfl,a⟩:=jY h e;exact⟨t,z,k,num,_,m,_,rfl,a⟩;obtain⟨t,z,k,num,m,rfl,a⟩:=wI h e;exact⟨t,z,k,num,_,m,_,rfl,a⟩
def jC:u4:=bi<|E7 1 [2] (bE<|u5 bc<|aa (ab 0)<|aa (ab 1) af) (ag 0) (au<|u5 cy<|aa (ab 0)<|aa (ab 1) af)<|ab 0
theorem oB:A8 bQ 3 jC:=by
 rintro ds M R ⟨ps,rs,log,k,q,kvs,rfl,c,g,f,j,v,h⟩;simp only[jC];walk_at"dl";refine⟨ps,rs,log,k,rfl,c,g,_,ad,λ_=>?_⟩;have o:=bu (log:=log) (k:=k);refine aU (G0 kvs) id (λS=>∃a,S=[a,b7<|.ref q]) ad _ _ _ ?_ ⟨_,rfl⟩ (by rw[C9];exact ah<|by lia) ?_;rintro d i S ⟨a,rfl⟩;obtain⟨h1,h2⟩:=bD i;obtain⟨t,z,H,n,x,m,l,rfl,hs⟩:=Kw (c d h1) h2 f;refine⟨[b7<|.tup [.int t,.tup [.str z,.int H],.int n,.tup<|x::m::l],b7<|.ref q],⟨_,rfl⟩,λY Z b=>?_⟩;walk_at"dl";refine⟨t,z,H,n,x,m,l,q,kvs,rfl,hs,ac j,v,?_⟩;cases e:G0 kvs (.tup [.int t,.tup [.str z,.int H],.int n,.tup<|x::m::l]) with
 |true=>rw[e]at b;exact cQ b
 |false=>rw[e]at b;exact cD b
 rw[G2,Oq,J6];exact aY.lst h (by simp) (by simp)<|aF.bels (ps:=ps) (rs:=rs) λd m=>c d (bD (E5.mp m).1).1
theorem iT(T:Tops P w K mg base):v8 P w K mg base 3 "writers_own" fq bQ:=v8.byD (N:=["log","kind","says"]) T.b T.f_writers_own (by walk_at"sc") nV (by have:=cS T;have:=nO T;walk_at"dv") oB
def cx:A0:=λds M R=>∃(ps:List (c8×Int)) (a:List (c8×List c8)) (log:List D) (q:Nat) (kvs:List (D×D)),ds=[.tup log,.ref q]/\(∀d∈log,aF ps a d)/\log.length<=1000/\M[q]?=b7 (.dkt kvs)/\(∀p∈kvs,P9 p.2)/\∀n B,M <+: B->B[n]?=b7 (.dkt<|aw kvs log)->R (.ref n) B
theorem lR:cN cx eG:=by rintro ds M R ⟨ps,a,log,q,kvs,rfl,_⟩;rfl
theorem qg(ps:List (D×D))(h:p∈dictOf ps):p∈ps:=by revert h;refine jI (P:=λps=>p∈dictOf ps->p∈ps) (λh=>h) (λps q i h=>?_) ps;rw[dI]at h;rcases xA h with rfl|h;simp;exact Np _<|i h
theorem ou(h:∀d∈log,aF ps rs d):∀p∈aw kvs log,∃s,p.2=.str s:=λp hp=>by obtain⟨d,a,rfl⟩:=z6.mp<|qg _ hp;obtain⟨h1,h2⟩:=bD (E5.mp a).1;obtain⟨t,z,k,n,m,s,rfl,hs⟩:=jY (h d h1) h2;exact⟨s,rfl⟩
def iQ:u4:=bi<|u5 iZ<|aa (E7 1 [] (bE<|u5 bQ<|aa (ab 0)<|aa (dC<|.str "change")<|aa (ab 1) af) (ag 0) oj<|eZ<|aa (t7 v5 (t7 v5 (ab 0)<|dC<|.int 3)<|dC<|.int 1)<|aa (t7 v5 (t7 v5 (ab 0)<|dC<|.int 3)<|dC<|.int 2) af) af
theorem mw:A8 cx 2 iQ:=by
 rintro ds M R ⟨ps,y,log,q,kvs,rfl,g,u,v,w,h⟩;simp only[iQ];walk_at"dl";refine⟨ps,y,log,_,q,kvs,rfl,g,u,.inl rfl,v,w,_,ad,λ_=>?_⟩;have A:=bu (log:=log) (k:=u3 "change");have i:=K9 (G0 kvs)<|kinds log<|u3 "change";have c:∀d∈(kinds log<|u3 "change").filter (G0 kvs),∃(t:Int) (z:c8) (k n:Int) (m:D) (s:c8),d=.tup [.int t,.tup [.str z,.int k],.int n,.tup [.str<|u3 "change",m,.str s]]/\St m:=λd m=>by obtain⟨h1,h2⟩:=bD (E5.mp m).1;exact jY (g d h1) h2
 have f:dictOf (((kinds log<|u3 "change").filter<|G0 kvs).map λd=>(pV d,gj d))=aw kvs log:=rfl;generalize (kinds log<|u3 "change").filter (G0 kvs)=F at i c f;refine bd (λd=>.tup [pV d,gj d]) (λS=>∃a,S=[a]) ad _ _ _ (λd b S o=>?_) ⟨_,rfl⟩ (by rw[C9];exact ah<|by lia) ?_;obtain⟨a,rfl⟩:=o;obtain⟨t,z,k,n,m,s,rfl,_⟩:=c d b;refine⟨[b7<|.tup [.int t,.tup [.str z,.int k],.int n,.tup [.str<|u3 "change",m,.str s]]],⟨_,rfl⟩,λY r=>?_⟩;walk_at"dl";have Q:atI [D.int t,.tup [.str z,.int k],.int n,.tup [.str<|u3 "change",m,.str s]] 3=b7 (.tup [.str<|u3 "change",m,.str s]):=aq (j:=3) rfl;rw[Q];dsimp only;rw[On];dsimp only;rw[QQ];exact⟨ah (by lia),r⟩;rw[G2];have l:F.map (λd=>D.tup [pV d,gj d])=(F.map λd=>(pV d,gj d)).map λp=>.tup [p.1,p.2]:=by rw[D7];rfl
 rw[l];refine⟨F.map λd=>(pV d,gj d),ad,λp b=>?_,by rw[v4];lia,?_⟩;obtain⟨d,x,rfl⟩:=z6.mp b;obtain⟨t,z,k,n,m,s,rfl,hs⟩:=c d x;obtain⟨B,e⟩:=hs.tup;exact⟨hs.key,by show gP m=b9;rw[e];rfl⟩;rw[f];exact .inl<|h _ _ ((bt.trans bt).trans bt) am
theorem nN(T:Tops P w K mg base):v8 P w K mg base 4 "last_changes" eG cx:=v8.byD (N:=["log","says"]) T.b T.f_last_changes (by walk_at"sc") lR (by have:=iT T;walk_at"dv") mw
def aP:A0:=λds M R=>∃(ps:List (c8×Int)) (s:List (c8×List c8)) (log:List D) (q:Nat) (kvs:List (D×D)),ds=[.tup log,.ref q]/\(∀d∈log,aF ps s d)/\log.length<64/\M[q]?=b7 (.dkt kvs)/\(∀p∈kvs,P9 p.2)/\∀ys,(∀x∈ys,St x)->(∀x,x∈ys↔aQ kvs log x)->ys.Nodup->(ys.Pairwise λa b=>¬F4 w4 b<F4 w4 a)->R (.ref M.length) (M++[.lst ys])
theorem gO:cN aP bU:=by rintro ds M R ⟨ps,a,log,q,kvs,rfl,_⟩;rfl
def dA:u4:=bi<|jU<|E7 1 [] (bE<|u5 bQ<|aa (ab 0)<|aa (dC<|.str "back")<|aa (ab 1) af) (ag 0) oj<|t7 v5 (t7 v5 (ab 0)<|dC<|.int 3)<|dC<|.int 1
theorem iE:A8 aP 2 dA:=by
 rintro ds M R ⟨ps,C,log,q,kvs,rfl,l,G,v,y,h⟩;simp only[dA];walk_at"dl";refine⟨ps,C,log,_,q,kvs,rfl,l,by lia,.inr rfl,v,y,_,ad,λ_=>?_⟩;have H:=bu (log:=log) (k:=u3 "back");have p:=K9 (G0 kvs)<|kinds log<|u3 "back";have i:∀d∈(kinds log<|u3 "back").filter (G0 kvs),∃(t:Int) (z:c8) (k n:Int) (m:D),d=.tup [.int t,.tup [.str z,.int k],.int n,.tup [.str<|u3 "back",m]]/\St m:=λd m=>by obtain⟨h1,h2⟩:=bD (E5.mp m).1;exact wI (l d h1) h2
 have f:∀x,x∈((kinds log<|u3 "back").filter<|G0 kvs).map pV↔aQ kvs log x:=λx=>by constructor;intro c;obtain⟨d,m,rfl⟩:=z6.mp c;exact⟨d,(E5.mp m).1,(E5.mp m).2,rfl⟩;rintro⟨d,h1,h2,rfl⟩;exact K1<|E5.mpr ⟨h1,h2⟩
 generalize (kinds log<|u3 "back").filter (G0 kvs)=F at p i f;refine bd pV (λS=>∃a,S=[a]) ad _ _ _ (λd g S r=>?_) ⟨_,rfl⟩ (by rw[C9];exact ah<|by lia) ?_;obtain⟨a,rfl⟩:=r;obtain⟨t,z,k,n,m,rfl,_⟩:=i d g;refine⟨[b7<|.tup [.int t,.tup [.str z,.int k],.int n,.tup [.str<|u3 "back",m]]],⟨_,rfl⟩,λY u=>?_⟩;walk_at"dl";have Q:atI [D.int t,.tup [.str z,.int k],.int n,.tup [.str<|u3 "back",m]] 3=b7 (.tup [.str<|u3 "back",m]):=aq (j:=3) rfl;rw[Q];dsimp only;rw[On];exact u;rw[G2];have hs:∀x∈F.map pV,St x:=λx c=>by obtain⟨d,g,rfl⟩:=z6.mp c;obtain⟨t,z,k,n,m,rfl,hs⟩:=i d g;exact hs
 refine⟨8,_,v6 _,.inl ⟨_,rfl,ad⟩,by rw[v4];lia,λx c=>?_,Gn hs (by rw[v4];lia),λys X O w=>?_⟩;obtain⟨I,e⟩:=(hs x c).tup;exact⟨(hs x c).key,by rw[e];rfl⟩;have s:∀x∈ys,St x:=λx c=>hs x<|(O x).mp c;rw[J6,J6];have E:ys.Pairwise λa b=>¬F4 w4 b<F4 w4 a:=(List.Pairwise.and_mem.mp w).imp λ{a b} ⟨ha,f,q⟩=>by
  have o:=s a ha;have T:=s b f;have A:D5 w4 a=b9:=by obtain⟨t,z,k,e⟩:=o;rw[e];rfl
  have B:D5 w4 b=b9:=by obtain⟨t,z,k,e⟩:=T;rw[e];rfl
  rw[wc B A<|T.cm o]at q;exact of_decide_eq_false q
 exact aY.lst (h ys s (λx=>(O x).trans<|f x) X E) (by simp) (by simp)<|Bels.of λd m=>bT 2 d (s d m).pl
theorem cW(T:Tops P w K mg base):v8 P w K mg base 4 "stamps_taken_back" bU aP:=v8.byD (N:=["log","says"]) T.b T.f_stamps_taken_back (by walk_at"sc") gO (by have:=iT T;walk_at"dv") iE
def dc:A0:=λds M R=>∃(ps:List (c8×Int)) (a:List (c8×List c8)) (d:D) (q:Nat) (b:List (D×D)),ds=[d,.ref q]/\aF ps a d/\bv d=u3 "say"/\M[q]?=b7 (.dkt b)/\R (nR b d) M
theorem oP:cN dc gI:=by rintro ds M R ⟨ps,a,d,q,b,rfl,_⟩;rfl
def iO:u4:=bi<|eZ<|aa (ab 2)<|aa (u5 bK<|aa (ab 0) af)<|aa (u5 cI<|aa (ab 0) af)<|aa (u5 bg<|aa (ab 0) af)<|aa (ab 3)<|aa (t7 Au (ab 2)<|ab 1) af
def iP:u4:=aB (bb (QP tU (ab 1)<|aa (ab 2)<|aa (t7 v5 (t7 v5 (ab 0)<|dC<|.int 3)<|dC<|.int 3) af) 3)<|iO
def kR:u4:=aB (bb (u5 bX<|aa (ab 0) af) 2)<|iP
theorem qr:A8 dc 4 kR:=by rintro ds M R ⟨ps,f,d,q,b,rfl,c,e,a,h⟩;obtain⟨t,z,k,m,r,u,s,rfl,_⟩:=fZ c e;simp only[kR,iP];walk_at"dl";refine⟨_,_,_,rfl,⟨_,a⟩,?_⟩;have Q:atI [D.int t,.tup [.str z,.int k],.int m,.tup [.str<|u3 "say",.str r,u,.str s]] 3=b7 (.tup [.str<|u3 "say",.str r,u,.str s]):=aq (j:=3) rfl;have I:atI [.str<|u3 "say",.str r,u,.str s] 3=b7 (.str s):=aq (j:=3) rfl;rw[Q];dsimp only;rw[I];refine⟨b,a,rfl,?_⟩;simp only[iO];walk_at"dl";refine⟨_,_,_,_,_,_,rfl,_,_,_,_,_,_,_,rfl,_,_,_,_,rfl,b,a,rfl,ah (by lia),aY.now h⟩
theorem qR(T:Tops P w K mg base):v8 P w K mg base 2 "message_of" gI dc:=v8.byD (N:=["say","changes","stamp","saying"]) T.b T.f_message_of (by walk_at"sc") oP (by have:=fx T;have:=cP T;have:=ik T;have:=jg T;walk_at"dv") qr
def db:A0:=λds M R=>∃(ps:List (c8×Int)) (a:List (c8×List c8)) (log:List D),ds=[ax ps a,.tup log]/\(∀d∈log,aF ps a d)/\log.length<64/\∀n B,M <+: B->B[n]?=b7 (.dkt<|aE a log)->R (.ref n) B
theorem oO:cN db gH:=by rintro ds M R ⟨ps,a,log,rfl,_⟩;rfl
theorem Ai{M:u8}{l:List D}(h:∀x∈l,St x):l.all (v7 M w4)=b9:=F0.mpr λx a=>(h x a).ok
theorem BD(a:St x)(h:∀x∈l,St x):NL M x l=decide (x∈l):=by unfold NL;by_cases d:x∈l;rw[dT_ d];exact Nx.mpr ⟨x,d,by rw[show w4=28+2 from rfl,a.eq a];exact dT_ rfl⟩;rw[dF_ d];refine NY.mpr λz=>?_;obtain⟨y,O,e⟩:=Nx.mp z;rw[show w4=28+2 from rfl,(h y O).eq a]at e;exact d<|oT_ e ▸ O
def iK:u4:=bi<|u5 iZ<|aa (E7 1 [2,3] (xV<|ab 2) (ag 0) (au<|t7 nv (ab 0)<|ab 2)<|eZ<|aa (ab 0)<|aa (gf (ab 1)<|ab 0) af) af
def iL:u4:=aB (bb (u5 aP<|aa (ab 1)<|aa (ab 2) af) 3)<|iK
def kL:u4:=aB (bb (u5 bf<|aa (ab 0)<|aa (ab 1) af) 2)<|iL
theorem qq:A8 db 4 kL:=by
 rintro ds M R ⟨ps,rs,log,rfl,g,y,h⟩;simp only[kL];walk_at"dl";refine⟨ps,rs,log,rfl,g,by lia,λn B C hB=>?_⟩;have t:=bo (rs:=rs) (log:=log);have F:=bu (log:=log) (k:=u3 "say");have v:=hZ g (λ_ q=>q) t;have E:=t.len;have X:=t.nd;have m:=t.en;have i:aE rs log=(av rs log).filter λp=>@decide (¬aQ (av rs log) log p.1) (K5 _):=rfl;rw[i]at h;clear i;generalize av rs log=kvs at h t E v X m hB;simp only[iL];walk_at"dl";refine⟨ps,rs,log,n,kvs,rfl,g,y,hB,λp hp=>(v p hp).1.nm,λys hs O _ _=>?_⟩;simp only[iK];walk_at"dl";have c:(B++[MO.lst ys])[n]?=b7 (.dkt kvs):=ac hB;refine⟨kvs,c,λ_=>?_⟩;have sp:∀p∈kvs,St p.1:=λp hp=>by rw[(m p hp).1];exact(v p hp).1.st
 refine aU (λk=>decide<|k∉ys) (λk=>.tup [k,(aG kvs k).getD .non]) (λS=>∃a,S=[a,b7<|.ref n,b7<|.ref B.length]) c _ _ _ ?_ ⟨_,rfl⟩ (by rw[C9,v4];exact ah<|by lia) ?_;rintro x A S ⟨a,rfl⟩;obtain⟨p,hp,rfl⟩:=z6.mp A;have s:=sp p hp;have j:=gM X hp;refine⟨[b7 p.1,b7<|.ref n,b7<|.ref B.length],⟨_,rfl⟩,λY Z b=>?_⟩;rw[j]at b;obtain⟨r,e⟩:=s.tup;have o:=s.key;rw[e]at b j o s ⊢;walk_at"dl";refine⟨ys,ad,⟨s.ok,Ai hs⟩,?_⟩;rw[BD s hs];by_cases f:D.tup r∈ys;rw[dT_ f];rw[dF_<|λz=>z f]at b;exact cD b;rw[dF_ f];rw[dT_ f,p0 rfl]at b;exact cQ ⟨kvs,_,c,o,j,ah (by lia),b⟩;rw[G2];have w:((kvs.map (·.1)).filter λk=>decide<|k∉ys).map (λk=>D.tup [k,(aG kvs k).getD .non])=(kvs.filter λp=>decide<|p.1∉ys).map λp=>.tup [p.1,p.2]:=by rw[Q2,D7];refine OB λp hp=>?_;show D.tup [p.1,(aG kvs p.1).getD .non]=_;rw[gM X (E5.mp hp).1];rfl
 rw[w];have l:((kvs.filter λp=>decide<|p.1∉ys).map (·.1)).Nodup:=(QB.map _).nodup X;refine⟨_,ad,λp hp=>?_,?_,?_⟩;have s:=sp p (E5.mp hp).1;obtain⟨r,e⟩:=s.tup;exact⟨s.key,by rw[e];rfl⟩;have:=K9 (λp:D×D=>decide<|p.1∉ys) kvs;lia;rw[uM _ l];refine .inl<|h _ _ (((C.trans bt).trans bt).trans bt) ?_;have u:(kvs.filter λp=>decide<|p.1∉ys)=kvs.filter λp=>@decide (¬aQ kvs log p.1) (K5 _):=List.filter_congr λp _=>by by_cases d:aQ kvs log p.1;rw[dF_<|show ¬¬p.1∈ys from λz=>z<|(O _).mpr d,@decide_eq_false _ (K5 _)<|λz=>z d];rw[dT_<|show ¬p.1∈ys from λz=>d<|(O _).mp z,@decide_eq_true _ (K5 _) d]
 rw[<-u];exact am
theorem qQ(T:Tops P w K mg base):v8 P w K mg base 5 "says_shown" gH db:=v8.byD (N:=["house","log","says","backs"]) T.b T.f_says_shown (by walk_at"sc") oO (by have:=dR T;have:=cW T;walk_at"dv") qq
def bB:A0:=λds M R=>∃(ps:List (c8×Int)) (a:List (c8×List c8)) (log:List D) (e:c8),ds=[.tup log,.str e]/\(∀d∈log,aF ps a d)/\log.length<1000/\∀n B b,M <+: B->VbAt B n b (sw log e)->R (.ref n) B
theorem ji:cN bB cF:=by rintro ds M R ⟨ps,a,log,e,rfl,_⟩;rfl
def dj:u4:=bi<|ab 2
def dn:u4:=aB (lW (bE<|u5 dJ<|aa (ab 0)<|aa (dC<|.str "read")<|aa (ab 1) af) (ag 3)<|gX<|MV bR (P0 xx (ab 2)<|aa (t7 v5 (t7 v5 (ab 3)<|dC<|.int 3)<|dC<|.int 1)<|aa (jV af) af)<|aa (t7 v5 (t7 v5 (ab 3)<|dC<|.int 3)<|dC<|.int 2) af)<|dj
def eJ:u4:=aB (bb (Fl) 2)<|dn
theorem jw:A8 bB 4 eJ:=by
 rintro ds M R ⟨ps,X,log,name,rfl,b,Y,h⟩;simp only[eJ,dn];walk_at"dl";refine⟨ps,X,log,u3 "read",name,rfl,b,by lia,?_⟩;have W:=nT (log:=log) (k:=u3 "read") (name:=name);have I:∀d∈lO log (u3 "read") name,∃(t:Int) (z:c8) (k n:Int) (r:c8) (hs:List (D×Int)),d=.tup [.int t,.tup [.str z,.int k],.int n,.tup [.str<|u3 "read",.str r,.tup<|qy hs]]:=λd L=>by obtain⟨h1,h2,_⟩:=nS L;obtain⟨t,z,k,n,r,hs,e,_⟩:=Ar (b d h1) h2;exact⟨t,z,k,n,r,hs,e⟩
 have V:sw log name=λr=>((lO log (u3 "read") name).filter λd=>decide<|bI d=r).map gj:=rfl;rw[V]at h;generalize lO log (u3 "read") name=F at W I h;have f:(M++[MO.dct []]).length=M.length+1:=by simp
 have E:(M++[MO.dct []]++[MO.lst F])[M.length+1]?=b7 (.lst F):=by rw[<-f];exact am
 rw[f];refine⟨F,.inl E,λ_=>?_⟩;refine aX (λi S M'=>∃(c:List (c8×D)) (a:Option D),M <+: M'/\M'[M.length+1]?=b7 (.lst F)/\VbAt M' M.length c (λr=>((F.take i).filter λd=>decide<|bI d=r).map gj)/\c.length<=i/\S=[b7<|.tup log,b7<|.str name,b7<|.ref M.length,a]) ?_ ?_ ⟨[],_,bt.trans bt,E,⟨ac am,λk d z=>(by cases z),λk _=>rfl,λ_ _ _ z=>(by cases z)⟩,v6 _,rfl⟩;rintro S M' ⟨c,a,pM,o,tr,_,rfl⟩;rw[MT]at tr;refine⟨.inl o,?_⟩;simp only[dj];walk_at"dl";exact .inl<|h _ _ _ pM tr;rintro i y S M' O ⟨c,a,pM,o,tr,tl,rfl⟩ G w;have J:F.take (i+1)=F.take i++[y]:=by rw[M7,O];rfl
 rw[J]at w;have hi:=(z9.mp O).1;obtain⟨t,z,k,n,r,hs,rfl⟩:=I y<|E6 O;have C:∀k,(((F.take i).filter λd=>decide<|bI d=k).map gj).length<=i:=λk=>by rw[v4];refine J1 (K9 _ _) ?_;rw[F6];lia
 generalize p:(λH=>(((F.take i++[D.tup [.int t,.tup [.str z,.int k],.int n,.tup [.str<|u3 "read",.str r,.tup<|qy hs]]]).filter λd=>decide<|bI d=H).map gj))=K at w;have u:∀H,K H=if r=H then(((F.take i).filter λd=>decide<|bI d=H).map gj)++[.tup<|qy hs]else(((F.take i).filter λd=>decide<|bI d=H).map gj):=λH=>by rw[<-p];dsimp only;rw[O4,Fn,MZ,Ql];by_cases e:r=H;rw[p0 e,show decide (bI (.tup [.int t,.tup [.str z,.int k],.int n,.tup [.str<|u3 "read",.str r,.tup<|qy hs]])=H)=b9 from dT_ e];rfl;rw[p4 e,show decide (bI (.tup [.int t,.tup [.str z,.int k],.int n,.tup [.str<|u3 "read",.str r,.tup<|qy hs]])=H)=c5 from dF_ e];exact Nh _
 clear p;refine⟨.inl o,?_⟩;walk_at"dl";have Q:atI [D.int t,.tup [.str z,.int k],.int n,.tup [.str<|u3 "read",.str r,.tup<|qy hs]] 3=b7 (.tup [.str<|u3 "read",.str r,.tup<|qy hs]):=aq (j:=3) rfl;rw[Q];dsimp only;rw[QQ];dsimp only;show (∃kvs,M'[M.length]?=b7 (MO.dct kvs))/\_;refine⟨⟨_,tr.at_⟩,?_⟩;walk_at"dl";rw[Q];dsimp only;rw[On];dsimp only;refine⟨A9 _,c,ac tr.at_,ar (by lia),λy O=>?_,λN=>?_⟩;obtain⟨m,rfl,Z,A⟩:=tr.got r y O;refine⟨⟨_,.inl<|ac A⟩,_,ac A,ar (by have:=C r;lia),C1.now<|w _ _ ⟨c,_,bp (pM.trans bt) (by lia),aJ (by lia)<|ac o,⟨aJ (by lia)<|ac tr.at_,λH d b=>?_,λH b=>?_,tr.one⟩,by lia,rfl⟩⟩;obtain⟨q,rfl,l,g⟩:=tr.got H d b;refine⟨q,rfl,l,?_⟩;rw[u];by_cases e:r=H;subst e;rw[O]at b;obtain rfl:m=q:=by injection b with b;injection b
 rw[bP<|ac A,p0 rfl];rw[p4 e];exact aJ (λz=>e<|tr.one _ _ _ (z ▸ O) b)<|ac g;have e:r≠H:=λz=>by rw[<-z,O]at b;cases b
 rw[u,p4 e];exact tr.no H b;have U:M.length+1<M'.length:=aA o;have x:((M'++[MO.lst []]).set M.length<|.dct<|lZ c r<|.ref M'.length)[M'.length]?=b7 (.lst []):=aJ (by lia) am;have B:∀H,gh (lZ c r<|.ref M'.length) H=if r=H then b7 (.ref M'.length)else gh c H:=λH=>by by_cases e:r=H;rw[p0 e,<-e,zC];rw[p4 e,yr<|A2 e]
 refine⟨⟨_,.inl x⟩,_,x,ar (by rw[C9];lia),C1.now<|w _ _ ⟨lZ c r<|.ref M'.length,_,bp (bp (pM.trans bt)<|v6 _) (by lia),aJ (by lia)<|aJ (by lia)<|ac o,⟨aJ (by lia)<|bP<|ac tr.at_,λH d b=>?_,λH b=>?_,λP T m h1 h2=>?_⟩,by have:=(xB (kvs:=c) (k:=r) (d:=.ref M'.length)).1;lia,rfl⟩⟩;rw[B]at b;by_cases e:r=H;rw[p0 e]at b;subst e;exact⟨M'.length,by injection b with b;exact b.symm,U,by rw[bP x,u,p0 rfl,tr.no _ N]⟩;rw[p4 e]at b;obtain⟨q,rfl,l,g⟩:=tr.got H d b;have:=aA g;exact⟨q,rfl,l,by rw[u,p4 e];exact aJ (by lia)<|aJ (by lia)<|ac g⟩;rw[B]at b;by_cases e:r=H;rw[p0 e]at b;cases b;rw[p4 e]at b;rw[u,p4 e];exact tr.no H b;rw[B]at h1 h2;have s:∀H m,gh c H=b7 (.ref m)->m<M'.length:=λH m h'=>by obtain⟨q,e,_,g⟩:=tr.got H _ h';injection e with e;rw[e];exact aA g
 by_cases f:r=P<;>by_cases v:r=T;rw[<-f,<-v];rw[p0 f]at h1;rw[p4 v]at h2;have:=s _ _ h2;injection h1 with h1;injection h1 with h1;lia;rw[p4 f]at h1;rw[p0 v]at h2;have:=s _ _ h1;injection h2 with h2;injection h2 with h2;lia;rw[p4 f]at h1;rw[p4 v]at h2;exact tr.one _ _ _ h1 h2
theorem jN(T:Tops P w K mg base):v8 P w K mg base 3 "vectors_by_room" cF bB:=v8.byD (N:=["log","name","vectors","deed"]) T.b T.f_vectors_by_room (by walk_at"sc") ji (by have:=nP T;walk_at"dv") jw
def iD:A0:=λds M R=>∃(ps:List (c8×Int)) (a:List (c8×List c8)) (log:List D) (n:c8) (e:D) (v qs:Nat) (b:List (c8×D)),ds=[e,.str n,.ref v,.ref qs]/\(∀d∈log,aF ps a d)/\log.length<=1000/\aF ps a e/\bv e=u3 "say"/\VbAt M v b (sw log n)/\M[qs]?=b7 (.lst<|lK log (u3 "seen") n)/\(∀x∈lK log (u3 "seen") n,St x)/\R (.bl<|qI log n e) M
theorem wn:cN iD nI:=by rintro ds M R ⟨ps,a,log,n,e,v,qs,b,rfl,_⟩;rfl
theorem Gi(h:∀d∈log,aF ps rs d):∀v∈sw log name r,∃hs:List (D×Int),v=.tup (qy hs)/\(∀p∈hs,Hd p.1)/\hs.length<=12:=λv c=>by obtain⟨d,m,rfl⟩:=z6.mp c;obtain⟨h1,h2,_⟩:=nS (E5.mp m).1;obtain⟨t,z,k,n,r,hs,rfl,q,j⟩:=Ar (h d h1) h2;exact⟨hs,rfl,q,j⟩
theorem CU:(sw log name r).length<=log.length:=by unfold sw;rw[v4];exact J1 (K9 _ _) nT
def mR:u4:=bi<|u5 Jc<|aa (E7 1 [0] (bE<|P0 xy (ab 2)<|aa (u5 bK<|aa (ab 0) af)<|aa (jV af) af) (ag 0) oj<|u5 dU<|aa (ab 1)<|aa (ab 0) af) af
def sX:u4:=aB (B8 (N4 (au<|t7 C4 (u5 bg<|aa (ab 0) af)<|ab 1)<|au<|t7 Oh (u5 bX<|aa (ab 0) af)<|ab 3) (bi<|dC<|.bl b9) aT)<|mR
theorem ym:A8 iD 4 sX:=by
 rintro ds M R ⟨ps,F,log,name,e,y,qs,d,rfl,p,E,j,x,f,n,hs,h⟩;obtain⟨t,z,k,m,r,u,s,rfl,_⟩:=fZ j x;have c:St (.tup [.int t,.tup [.str z,.int k]]):=⟨_,_,_,rfl⟩
 simp only[sX];walk_at"dl";refine⟨_,_,_,_,rfl,⟨ap,ap⟩,?_⟩;rw[aV];unfold qI at h;rw[show dG (.tup [.int t,.tup [.str z,.int k],.int m,.tup [.str<|u3 "say",.str r,u,.str s]])=z from rfl,show x9 (.tup [.int t,.tup [.str z,.int k],.int m,.tup [.str<|u3 "say",.str r,u,.str s]])=.tup [.int t,.tup [.str z,.int k]]from rfl,show bI (.tup [.int t,.tup [.str z,.int k],.int m,.tup [.str<|u3 "say",.str r,u,.str s]])=r from rfl]at h;by_cases b:z=name;rw[beq_iff_eq.mpr b];rw[dT_ b]at h;exact cQ<|aY.now h;rw[beq_eq_false_iff_ne.mpr b];rw[dF_ b,Bool.false_or]at h;refine cD ⟨_,_,_,rfl,_,.inl n,⟨c.ok,Ai hs⟩,?_⟩;rw[BD c hs];by_cases l:D.tup [.int t,.tup [.str z,.int k]]∈lK log (u3 "seen") name;rw[dT_ l];rw[dT_ l]at h;exact cQ<|aY.now h;rw[dF_ l];rw[dF_ l,Bool.false_or]at h;refine cD ?_;simp only[mR];walk_at"dl";show (∃kvs,M[y]?=b7 (MO.dct kvs))/\_;refine⟨⟨_,f.at_⟩,?_⟩;walk_at"dl";refine⟨_,_,_,_,_,_,rfl,A9 _,d,ac f.at_,?_⟩;obtain⟨q,X,g⟩:=(f.pre<|bt (mo:=MO.lst [])).kids (k:=r) am;rw[X];have pM:M <+: M++[MO.lst []]:=bt;generalize M++[MO.lst []]=B at g pM;have C:=CU (log:=log) (name:=name) (r:=r);have V:=Gi (name:=name) (r:=r) p;generalize sw log name r=L at g h C V;refine⟨_,.inl g,λ_=>?_⟩;refine bd (λv=>.bl<|fO (IY v) (.tup [.str z,.int k]) m) (λS=>∃a,S=[a,b7<|.tup [.int t,.tup [.str z,.int k],.int m,.tup [.str<|u3 "say",.str r,u,.str s]]]) (.inl g) _ _ _ (λv w S o=>?_) ⟨_,rfl⟩ (by rw[C9];exact ah<|by lia) ?_;obtain⟨a,rfl⟩:=o;obtain⟨hs,rfl,A,P⟩:=V v w;refine⟨[b7<|.tup<|qy hs,b7<|.tup [.int t,.tup [.str z,.int k],.int m,.tup [.str<|u3 "say",.str r,u,.str s]]],⟨_,rfl⟩,λY i=>?_⟩;rw[CV]at i;walk_at"dl";exact⟨_,_,_,_,hs,rfl,⟨_,_,rfl⟩,A,by lia,i⟩;refine⟨L.map λv=>fO (IY v) (.tup [.str z,.int k]) m,?_,?_⟩;rw[G2,show bls (L.map λv=>fO (IY v) (.tup [.str z,.int k]) m)=L.map λv=>.bl (fO (IY v) (.tup [.str z,.int k]) m) by unfold bls;rw[D7];rfl];exact ad;rw[List.any_map];exact aY.bl h<|pM.trans bt
theorem yL(T:Tops P w K mg base):v8 P w K mg base 2 "is_read" nI iD:=v8.byD (N:=["say","name","vectors","seen"]) T.b T.f_is_read (by walk_at"sc") wn (by have:=fx T;have:=cP T;have:=ua T;have:=ik T;walk_at"dv") ym
def bC:A0:=λds M R=>∃(ps:List (c8×Int)) (a:List (c8×List c8)) (log:List D) (e:c8),ds=[ax ps a,.tup log,.str e]/\(∀d∈log,aF ps a d)/\log.length<64/\R (.ref M.length) (M++[.lst<|(eA a log e).map<|nR<|aw (aE a log) log])
theorem jk:cN bC cG:=by rintro ds M R ⟨ps,a,log,e,rfl,_⟩;rfl
theorem bH(h:∀d∈log,aF ps rs d):∀p∈aE rs log,p.1=x9 p.2/\aF ps rs p.2/\bv p.2=u3 "say":=λp hp=>by have h1:=(nh.mp hp).1;have b:=bo (rs:=rs) (log:=log);exact⟨(b.en p h1).1,hZ h (λ_ q=>q) b p h1⟩
theorem xI(f:∀p∈ch,∃s,p.2=.str s)(h:aF ps rs d)(c:bv d=u3 "say"):D3 n (nR ch d):=by
 obtain⟨t,z,k,m,r,u,s,rfl,_,_,_,g⟩:=fZ h c;have b:D3 n u:=by rcases g with rfl|g;exact .non;exact bT 2 u g.pl
 refine .tup<|.cons (bT 2 _<|St.pl (n:=0) ⟨t,z,k,rfl⟩)<|.cons (.str _)<|.cons b<|.cons (.str _)<|.cons ?_<|.cons (.bl _) .nil;cases e:aG ch (x9<|.tup [.int t,.tup [.str z,.int k],.int m,.tup [.str<|u3 "say",.str r,u,.str s]]) with
 |none=>exact .str _
 |some v=>obtain⟨s',a⟩:=f _<|bz e;dsimp only at a;rw[a];exact .str _
def dq:u4:=bi<|E7 1 [6,2,3,4] (uN<|ab 5) (ag 0) (Fj<|au<|u5 iD<|aa (ab 0)<|aa (ab 2)<|aa (ab 3)<|aa (ab 4) af)<|u5 dc<|aa (ab 0)<|aa (ab 1) af
def du:u4:=aB (bb (u5 cx<|aa (ab 1)<|aa (ab 5) af) 6)<|dq
def dw:u4:=aB (bb (u5 db<|aa (ab 0)<|aa (ab 1) af) 5)<|du
def dz:u4:=aB (bb (u5 cL<|aa (ab 1)<|aa (dC<|.str "seen")<|aa (ab 2) af) 4)<|dw
def eK:u4:=aB (bb (u5 bB<|aa (ab 1)<|aa (ab 2) af) 3)<|dz
theorem jx:A8 bC 7 eK:=by
 rintro ds M R ⟨ps,rs,log,b,rfl,g,C,h⟩;simp only[eK];walk_at"dl";refine⟨ps,rs,log,b,rfl,g,by lia,λn B t F G=>?_⟩;simp only[dz];walk_at"dl";refine⟨ps,rs,log,_,b,rfl,g,by lia,.inl rfl,λhs=>?_⟩;have v:=G.pre<|bt (mo:=MO.lst<|lK log (u3 "seen") b);have l:(B++[MO.lst<|lK log (u3 "seen") b])[B.length]?=b7 (.lst<|lK log (u3 "seen") b):=am;have A:=F.trans<|bt (mo:=MO.lst<|lK log (u3 "seen") b);generalize B++[MO.lst<|lK log (u3 "seen") b]=H at v l A;generalize B.length=qs at l;simp only[dw];walk_at"dl";refine⟨ps,rs,log,rfl,g,C,λD I i y=>?_⟩;have s:=bH (rs:=rs) g;have N:(aE rs log).length<=1000:=by have h1:=(bo (rs:=rs) (log:=log)).len;have h2:=bu (log:=log) (k:=u3 "say");have K:(aE rs log).length<=(av rs log).length:=K9 _ _;lia
 simp only[du];walk_at"dl";refine⟨ps,rs,log,D,aE rs log,rfl,g,by lia,y,λp hp=>(s p hp).2.1.nm,λr J f g3=>?_⟩;have u:=v.pre<|i.trans f;have m:=bn (i.trans f) l;have j:=bn f y;have E:=A.trans<|i.trans f;simp only[dq];walk_at"dl";refine⟨_,j,λ_=>?_⟩;refine aU (λe=>!qI log b e) (nR<|aw (aE rs log) log) (λS=>∃a,S=[a,b7<|.ref r,b7<|.str b,b7<|.ref n,b7<|.ref qs]) j _ _ _ ?_ ⟨_,rfl⟩ (by rw[C9,v4];exact ah<|by lia) ?_;rintro e o S ⟨a,rfl⟩;refine⟨[b7 e,b7<|.ref r,b7<|.str b,b7<|.ref n,b7<|.ref qs],⟨_,rfl⟩,λY Z c=>?_⟩;obtain⟨p,hp,rfl⟩:=z6.mp o;obtain⟨_,w,x⟩:=s p hp;walk_at"dl";refine⟨ps,rs,log,b,p.2,n,qs,t,rfl,g,by lia,w,x,u,m,hs,?_⟩;cases z:qI log b p.2 with
 |true=>rw[z]at c;exact c
 |false=>rw[z]at c;exact⟨ps,rs,p.2,r,_,rfl,w,x,g3,c⟩
 rw[G2];obtain⟨L,rfl⟩:=E;rw[J6];have U:((aE rs log).map (·.2)).filter (λe=>!qI log b e)=eA rs log b:=rfl;rw[U];refine aY.lst h (by simp) (by simp)<|Bels.of λd q=>?_;obtain⟨e,o,rfl⟩:=z6.mp q;obtain⟨p,hp,rfl⟩:=z6.mp (E5.mp o).1;exact xI (ou g) (s p hp).2.1 (s p hp).2.2
theorem jO(T:Tops P w K mg base):v8 P w K mg base 6 "unread_messages" cG bC:=v8.byD (N:=["house","log","name","vectors","seen","says","changes"]) T.b T.f_unread_messages (by walk_at"sc") jk (by have:=oJ T;have:=nN T;have:=qR T;have:=qQ T;have:=jN T;have:=yL T;walk_at"dv") jx
def bJ:A0:=λds M R=>∃(ps:List (c8×Int)) (a:List (c8×List c8)) (q:Nat) (r:c8) (kvs:List (D×D)),ds=[.ref q,.str r]/\M[q]?=b7 (.dkt kvs)/\(∀p∈kvs,aF ps a p.2/\bv p.2=u3 "say")/\kvs.length<=1000/\∀n B b,M <+: B->TreeAt B n b (aO r (kvs.map (·.2)))->R (.ref n) B
theorem jQ:cN bJ cR:=by rintro ds M R ⟨ps,a,q,r,kvs,rfl,_⟩;rfl
def dN:u4:=bi<|ab 2
def dO:u4:=aB (lW (uN<|ab 0) (ag 3)<|B8 (au<|t7 C4 (u5 bK<|aa (ab 3) af)<|ab 1) (gX<|MV bR (OM tW (ab 2)<|aa (u5 cI<|aa (ab 3) af)<|aa (jV af) af)<|aa (u5 bX<|aa (ab 3) af) af) aT)<|dN
def fP:u4:=aB (bb (Fk) 2)<|dO
theorem kb:A8 bJ 4 fP:=by
 rintro ds M R ⟨ps,rs,q,r,kvs,rfl,E,X,kl,h⟩;simp only[fP,dO];walk_at"dl";refine⟨kvs,ac E,λ_=>?_⟩;have Z:=aA E;refine aX (λi S M'=>∃(c:List (D×D)) (a:Option D),M <+: M'/\TreeAt M' M.length c (aO r ((kvs.map (·.2)).take i))/\c.length<=i/\S=[b7<|.ref q,b7<|.str r,b7<|.ref M.length,a]) ?_ ?_ ⟨[],_,bt,⟨am,λk d z=>(by cases z),λk _=>rfl,λ_ _ _ z=>(by cases z)⟩,v6 _,rfl⟩;rintro S M' ⟨c,a,pM,tr,_,rfl⟩;rw[MT]at tr;refine⟨bn pM E,?_⟩;simp only[dN];walk_at"dl";exact .inl<|h _ _ _ pM tr;rintro i e S M' B ⟨c,a,pM,tr,tl,rfl⟩ G j;have Q:(kvs.map (·.2)).take (i+1)=(kvs.map (·.2)).take i++[e]:=by rw[M7,B];rfl
 rw[Q]at j;have hi:=(z9.mp B).1;rw[v4]at hi;have Y:=E6 B;obtain⟨p,hp,rfl⟩:=z6.mp Y;obtain⟨P,U⟩:=X p hp;generalize p.2=e at B Q j P U;refine⟨bn pM E,?_⟩;walk_at"dl";have C:∀k,(aO r ((kvs.map (·.2)).take i) k).length<=i:=λk=>by unfold aO;rw[v4];refine J1 (K9 _ _) ?_;rw[F6];lia
 generalize (kvs.map (·.2)).take i=es at tr j C;obtain⟨t,z,k,o,r',u,s,rfl,_,_,_,hu⟩:=fZ P U;have J:∀H,aO r (es++[.tup [.int t,.tup [.str z,.int k],.int o,.tup [.str<|u3 "say",.str r',u,.str s]]]) H=if r'=r/\u=H then aO r es H++[.tup [.int t,.tup [.str z,.int k]]]else aO r es H:=λH=>Bq
 generalize es++[.tup [.int t,.tup [.str z,.int k],.int o,.tup [.str<|u3 "say",.str r',u,.str s]]]=f at J j;have ku:yZ u=b9:=by
  rcases hu with rfl|⟨t',z',H,rfl⟩
  rfl;rfl
 refine⟨_,_,_,_,_,_,rfl,⟨ap,ap⟩,?_⟩;rw[aV];by_cases F:r'=r;rw[beq_iff_eq.mpr F];have W:aO r f u=aO r es u++[.tup [.int t,.tup [.str z,.int k]]]:=by rw[J,p0 ⟨F,rfl⟩]
 have I:∀H,H≠u->aO r f H=aO r es H:=λH ne=>by rw[J,p4 λw=>ne w.2.symm]
 refine cQ ⟨⟨_,tr.at_⟩,_,_,_,_,_,_,_,rfl,A9 _,c,ac tr.at_,ku,ar (by lia),λy O=>?_,λT=>?_⟩;obtain⟨m,rfl,nm,L⟩:=tr.got u y O;refine⟨⟨_,.inl<|ac L⟩,_,_,_,rfl,_,ac L,ar (by have:=C u;lia),C1.now<|j _ _ ⟨c,_,bp (pM.trans bt)<|NU nm,⟨aJ (by lia)<|ac tr.at_,λH d b=>?_,λH b=>?_,tr.one⟩,by lia,rfl⟩⟩;obtain⟨n,rfl,l,g⟩:=tr.got H d b;refine⟨n,rfl,l,?_⟩;by_cases e:H=u;subst e;rw[O]at b;obtain rfl:m=n:=by injection b with b;injection b
 rw[bP<|ac L,W];rw[I H e];exact aJ (λz=>e<|tr.one _ _ _ (z ▸ b) O)<|ac g;have e:H≠u:=λz=>by rw[z,O]at b;cases b
 rw[I H e];exact tr.no H b;have lM:M.length<M'.length:=aA tr.at_;have K:((M'++[MO.lst []]).set M.length<|.dkm<|c++[(u,.ref M'.length)])[M'.length]?=b7 (.lst []):=aJ (by lia) am;have N:∀H,aG (c++[(u,.ref M'.length)]) H=if H=u then b7 (.ref M'.length)else aG c H:=λH=>by rw[<-tY T];by_cases e:H=u;rw[p0 e,e,iq];rw[p4 e,eP e]
 refine⟨⟨_,.inl K⟩,_,_,_,rfl,_,K,ar (by rw[C9];lia),C1.now<|j _ _ ⟨c++[(u,.ref M'.length)],_,bp (bp (pM.trans bt)<|v6 _) (by lia),⟨aJ (by lia)<|bP<|ac tr.at_,λH d b=>?_,λH b=>?_,λk1 k2 m h1 h2=>?_⟩,by rw[B6,J2];lia,rfl⟩⟩;rw[N]at b;by_cases e:H=u;rw[p0 e]at b;subst e;exact⟨M'.length,by injection b with b;exact b.symm,lM,by rw[bP K,W,tr.no _ T]⟩;rw[p4 e]at b;obtain⟨n,rfl,l,g⟩:=tr.got H d b;have:=aA g;exact⟨n,rfl,l,by rw[I H e];exact aJ (by lia)<|aJ (by lia)<|ac g⟩;rw[N]at b;by_cases e:H=u;rw[p0 e]at b;cases b;rw[p4 e]at b;rw[I H e];exact tr.no H b;rw[N]at h1 h2;have v:∀H m,aG c H=b7 (.ref m)->m<M'.length:=λH m h'=>by obtain⟨n,e,_,g⟩:=tr.got H _ h';injection e with e;rw[e];exact aA g
 by_cases x:k1=u<;>by_cases A:k2=u;rw[x,A];rw[p0 x]at h1;rw[p4 A]at h2;have:=v _ _ h2;injection h1 with h1;injection h1 with h1;lia;rw[p4 x]at h1;rw[p0 A]at h2;have:=v _ _ h1;injection h2 with h2;injection h2 with h2;lia;rw[p4 x]at h1;rw[p4 A]at h2;exact tr.one _ _ _ h1 h2;rw[beq_eq_false_iff_ne.mpr F];have V:∀H,aO r f H=aO r es H:=λH=>by rw[J,p4 λw=>F w.1]
 exact cD<|C1.now<|j _ _ ⟨c,_,pM,⟨tr.at_,λH d b=>by rw[V];exact tr.got H d b,λH b=>by rw[V];exact tr.no H b,tr.one⟩,by lia,rfl⟩
theorem kC(T:Tops P w K mg base):v8 P w K mg base 2 "stamps_beneath" cR bJ:=v8.byD (N:=["says","room","beneath","say"]) T.b T.f_stamps_beneath (by walk_at"sc") jQ (by have:=fx T;have:=ik T;have:=jg T;walk_at"dv") kb
def cw:A0:=λds M R=>∃(n:Int) (q:Nat) (xs:List D),ds=[.int n,.ref q]/\ak M q xs/\(∀x∈xs,St x)/\R (.ref M.length) (M++[.lst<|cZ n xs])
theorem oR:cN cw gK:=by rintro ds M R ⟨n,q,xs,rfl,_⟩;rfl
def kU:u4:=bi<|E7 1 [0] (Fi<|aa (ab 1) af) (ag 0) oj<|eZ<|aa (ab 1)<|aa (ab 0) af
theorem qw:A8 cw 2 kU:=by rintro ds M R ⟨n,q,xs,rfl,L,hs,h⟩;simp only[kU];walk_at"dl";refine⟨xs,L,λg=>?_⟩;refine bd (λx=>.tup [.int n,x]) (λS=>∃a,S=[a,b7<|.int n]) L _ _ _ (λx c S b=>?_) ⟨_,rfl⟩ (by rw[C9,ADG];lia)<|.inl h;obtain⟨a,rfl⟩:=b;refine⟨[b7 x,b7<|.int n],⟨_,rfl⟩,λY D=>?_⟩;walk_at"dl";exact⟨ah (by lia),D⟩
theorem qS(T:Tops P w K mg base):v8 P w K mg base 1 "last_first" gK cw:=v8.byD (N:=["depth","stamps"]) T.b T.f_last_first (by walk_at"sc") oR (by walk_at"dv") qw
def cu:A0:=λds M R=>∃(n:Nat) (b:List (D×D)) (es:List D) (r:c8),ds=[.ref n]/\TreeAt M n b (aO r es)/\(∀e∈es,St (x9 e)/\(gj e=.non\/St (gj e)))/\(es.map x9).Nodup/\es.length<=100/\∀out,RunW (aO r es) [] (cZ 0<|aO r es .non) out->(∀x∈out,∃k s,x=.tup [.int k,s]/\St s)->out.length<=es.length->R (.ref M.length) (M++[.lst out])
theorem lP:cN cu eE:=by rintro ds M R ⟨n,b,es,r,rfl,_⟩;rfl
theorem yC(h:a<=1000):a<=sizeLine:=ah<|by lia
theorem iteT'{b:Bool}{A B:Prop}(e:b=b9)(h:A):if b=b9 then A else B:=by rw[p0 e];exact h
def fQ:u4:=bi<|ab 1
def fR:u4:=gX<|MV ny (ab 2)<|aa (u5 cw<|aa (t7 aM (t7 v5 (ab 3)<|dC<|.int 0)<|dC<|.int 1)<|aa (OM pP (ab 0)<|aa (t7 v5 (ab 3)<|dC<|.int 1)<|aa (jV af) af) af) af
def fS:u4:=aB (gX<|MV bR (ab 1)<|aa (ab 3) af)<|fR
def fT:u4:=aB (xU (au<|t7 N1 (u5 ii<|aa (ab 2) af)<|dC<|.int 0)<|aB (bb (dMl0 JF<|ab 2) 3)<|fS)<|fQ
def fU:u4:=aB (bb (u5 cw<|aa (dC<|.int 0)<|aa (OM pP (ab 0)<|aa (dC .non)<|aa (jV af) af) af) 2)<|fT
def iM:u4:=aB (bb (jV af) 1)<|fU
theorem mq:A8 cu 4 iM:=by
 rintro ds M R ⟨n,N,es,r,rfl,tr,hs,X,el,h⟩;have y:M <+: M++[MO.lst []]++[MO.lst []]:=bt.trans bt;have g0:(M++[MO.lst []]++[MO.lst []])[(M++[MO.lst []]).length]?=b7 (.lst []):=am;have C:(M++[MO.lst []]++[MO.lst []])[M.length]?=b7 (.lst []):=ac am;have V:∀k,∀x∈aO r es k,St x:=λk x J=>by obtain⟨e,l,rfl,_⟩:=mf.mp J;exact(hs e l).1
 simp only[iM,fU];walk_at"dl";refine⟨A9 _,⟨_,ac tr.at_⟩,A9 _,_,ac<|ac tr.at_,rfl,?_⟩;obtain⟨q,Z,gq⟩:=(tr.pre y).kids (k:=.non) g0;rw[Z];refine⟨0,q,_,rfl,.inl gq,V _,?_⟩;have U:M.length<(M++[MO.lst []]++[MO.lst []]).length:=by simp
 have I:(M++[MO.lst []]++[MO.lst []]++[MO.lst<|cZ 0<|aO r es .non])[(M++[MO.lst []]++[MO.lst []]).length]?=b7 (.lst<|cZ 0<|aO r es .non):=am;replace C:=ac (a:=MO.lst<|cZ 0<|aO r es .non) C;replace y:=y.trans<|bt (mo:=MO.lst<|cZ 0<|aO r es .non);generalize M++[MO.lst []]++[MO.lst []]++[MO.lst<|cZ 0<|aO r es .non]=B at I C y;generalize (M++[MO.lst []]++[MO.lst []]).length=L at I U;have W:∀e∈es,x9 e≠.non:=λe l z=>by obtain⟨t,z',k,P⟩:=(hs e l).1;rw[z]at P;cases P
 simp only[fT];walk_at"dl";refine⟨λm S M'=>∃(b o:List D) (a:Option D),M <+: M'/\M'[M.length]?=b7 (.lst b)/\M'[L]?=b7 (.lst o)/\TreeW r es b o/\(∀out,RunW (aO r es) b o out->RunW (aO r es) [] (cZ 0<|aO r es .non) out)/\m+b.length=es.length/\S=[b7<|.ref n,b7<|.ref M.length,b7<|.ref L,a],⟨es.length,[],_,_,y,C,I,.start X,λ_ z=>z,rfl,rfl⟩,?_⟩;rintro m S M' ⟨b,o,a,pM,T,E,w,Q,hm,rfl⟩;have wl:=w.len;walk_at"dl";refine⟨_,.inl E,?_⟩;have j:∀x∈b,∃k s,x=D.tup [.int k,s]/\St s:=λx J=>by obtain⟨k,e,q1,q2,_⟩:=w.ok x<|Np _ J;exact⟨k,_,q1,(hs e q2).1⟩
 rcases List.eq_nil_or_concat o with rfl|⟨c,x,rfl⟩
 refine cD ?_;simp only[fQ];walk_at"dl";refine aY.chgL .refl (h b (Q _ .done) j<|by lia) (v6 _) T pM<|Bels.of λd hd=>?_;obtain⟨k,s,rfl,q⟩:=j d hd;exact .tup<|.cons (.int _)<|.cons (bT 2 _ q.pl) .nil;rw[List.concat_eq_append]at *;have wo:=w.ok x (by simp);obtain⟨k,e,rfl,l,_⟩:=wo;have Y:=w.step X W;have O:=Y.len;have G:∀out,RunW (aO r es) (b++[.tup [.int k,x9 e]]) (c++cZ (k+1) (aO r es<|x9 e)) out->RunW (aO r es) [] (cZ 0<|aO r es .non) out:=λout z=>Q out (by have:=RunW.step z;simpa using this);have ks:=Eo (r:=r) (es:=es) (k:=x9 e);have ke:yZ (x9 e)=b9:=by obtain⟨t,z,k,q⟩:=(hs e l).1;rw[q];rfl
 have K:=V<|x9 e;rw[B6,B6,J2]at O;generalize x9 e=s at *;rw[B6,J2]at wl;refine iteT' (dT_<|by rw[B6,J2];lia) ⟨⟨_,.inl E⟩,c,_,E,?_⟩;have A:=bp (x:=MO.lst c) pM<|NU U;have g:=aJ (x:=MO.lst c) (A4 U) T;have v:=bP (a:=MO.lst c) E;generalize M'.set L (MO.lst c)=M1 at A g v;simp only[fS];walk_at"dl";refine⟨⟨_,.inl g⟩,_,g,ar (by lia),?_⟩;have p:=bp (x:=MO.lst<|b++[.tup [.int k,s]]) A<|v6 _;have u:=bP (a:=MO.lst<|b++[.tup [.int k,s]]) g;have f:=aJ (x:=MO.lst<|b++[.tup [.int k,s]]) (A2<|A4 U) v;generalize M1.set M.length (MO.lst<|b++[.tup [.int k,s]])=M2 at p u f;simp only[fR];walk_at"dl";have i:=tr.pre p;refine⟨⟨_,.inl f⟩,⟨_,i.at_⟩,A9 _,N,ac i.at_,ke,?_⟩;obtain⟨q',F,H⟩:=(i.pre<|bt (mo:=MO.lst [])).kids (k:=s) (q0:=M2.length) am;rw[F];refine⟨k+1,q',_,rfl,.inl H,K,?_⟩;have lq:=aA f;refine⟨_,_,ac<|ac f,am,by rw[B6];lia,yC (by unfold cZ;rw[v4,ADG];lia),m-1,?_,b++[.tup [.int k,s]],_,_,bp ((p.trans bt).trans bt)<|NU U,aJ (A4 U)<|ac<|ac u,bP<|ac<|ac f,Y,G,?_,rfl⟩;lia;rw[B6,J2];lia
theorem nM(T:Tops P w K mg base):v8 P w K mg base 2 "rows_of_tree" eE cu:=v8.byD (N:=["beneath","rows","to_do","row"]) T.b T.f_rows_of_tree (by walk_at"sc") lP (by have:=qS T;walk_at"dv") mq
def iA:A0:=λds M R=>∃(ps:List (c8×Int)) (a:List (c8×List c8)) (log:List D) (r:c8),ds=[ax ps a,.tup log,.str r]/\r∈a.map (·.1)/\(∀d∈log,aF ps a d)/\log.length<64/\∀out,RunW (aO r ((av a log).map (·.2))) [] (cZ 0 (aO r ((av a log).map (·.2)) .non)) out->(∀x∈out,∃k s,x=.tup [.int k,s]/\St s)->out.length<=log.length->R (.ref M.length) (M++[.lst<|out.filter λx=>@decide (¬aQ (av a log) log (gd x))<|K5 _])
theorem wf:cN iA nD:=by rintro ds M R ⟨ps,a,log,r,rfl,_⟩;rfl
def mC:u4:=bi<|E7 1 [4] (bE<|u5 cu<|aa (u5 bJ<|aa (ab 3)<|aa (ab 2) af) af) (ag 0) (au<|t7 nv (t7 v5 (ab 0)<|dC<|.int 1)<|ab 1)<|ab 0
def mD:u4:=aB (bb (u5 aP<|aa (ab 1)<|aa (ab 3) af) 4)<|mC
def mE:u4:=aB (bb (u5 bf<|aa (ab 0)<|aa (ab 1) af) 3)<|mD
def sH:u4:=aB (B8 (Fj<|au<|u5 iC<|aa (ab 0)<|aa (ab 2) af) (qi) aT)<|mE
theorem yg:A8 iA 5 sH:=by
 rintro ds M R ⟨ps,rs,log,r,rfl,G,l,F,h⟩;simp only[sH];walk_at"dl";refine⟨ps,rs,r,rfl,G,cD ?_⟩;simp only[mE];walk_at"dl";refine⟨ps,rs,log,rfl,l,by lia,λn B C hB=>?_⟩;have f:=bo (rs:=rs) (log:=log);have y:=hZ l (λ_ q=>q) f;have kl:=bu (log:=log) (k:=u3 "say");have tl:=f.len;simp only[mD];walk_at"dl";refine⟨ps,rs,log,n,av rs log,rfl,l,F,hB,λp hp=>(y p hp).1.nm,λys c O T _=>?_⟩;have j:(B++[MO.lst ys])[B.length]?=b7 (.lst ys):=am;replace hB:=ac (a:=MO.lst ys) hB;replace C:=C.trans<|bt (mo:=MO.lst ys);generalize B++[MO.lst ys]=U at j hB C;generalize B.length=V at j;simp only[mC];walk_at"dl";refine⟨ps,rs,n,r,av rs log,rfl,hB,y,by lia,λN I A D tr=>?_⟩;have W:∀e∈(av rs log).map (·.2),St (x9 e)/\(gj e=.non\/St (gj e)):=λe E=>by obtain⟨p,hp,rfl⟩:=z6.mp E;obtain⟨h1,h2⟩:=y p hp;generalize p.2=e at h1 h2;obtain⟨t,z,k,P,r',u,s,rfl,_,_,_,H⟩:=fZ h1 h2;exact⟨⟨t,z,k,rfl⟩,H⟩
 have X:(((av rs log).map (·.2)).map x9).Nodup:=by
  have:((av rs log).map (·.2)).map x9=(av rs log).map (·.1):=by rw[D7];exact OB λp hp=>(f.en p hp).1.symm
  rw[this];exact f.nd
 refine⟨N,A,_,r,rfl,tr,W,X,by rw[v4];lia,λout J w Q=>?_⟩;rw[v4]at Q;have g:=ac (a:=MO.lst out)<|bn D j;have i:=(C.trans D).trans<|bt (mo:=MO.lst out);have o:(I++[MO.lst out])[I.length]?=b7 (.lst out):=am;generalize I++[MO.lst out]=B3 at g i o;refine⟨_,.inl o,λ_=>?_⟩;refine aU (λx=>@decide (¬aQ (av rs log) log (gd x))<|K5 _) id (λS=>∃a,S=[a,b7<|.ref V]) (.inl o) _ _ _ ?_ ⟨_,rfl⟩ (by rw[C9];exact ah<|by lia) ?_;rintro x K S ⟨a,rfl⟩;refine⟨[b7 x,b7<|.ref V],⟨_,rfl⟩,λY Z b=>?_⟩;obtain⟨k,s,rfl,hs⟩:=w x K;walk_at"dl";refine⟨_,.inl g,⟨hs.ok,Ai c⟩,?_⟩;rw[BD hs c];by_cases m:s∈ys;rw[dT_ m];rw[show @decide (¬aQ (av rs log) log (gd<|.tup [.int k,s])) (K5 _)=c5 from @decide_eq_false _ (K5 _) λz=>z<|(O s).mp m]at b;exact b;rw[dF_ m];rw[show @decide (¬aQ (av rs log) log (gd<|.tup [.int k,s])) (K5 _)=b9 from @decide_eq_true _ (K5 _) λz=>m<|(O s).mpr z]at b;exact b;rw[G2,Oq];refine aY.chgL .refl (h out J w<|by lia) (by obtain⟨L,rfl⟩:=i;simp) am (i.trans bt)<|Bels.of λd v=>?_;obtain⟨k,s,rfl,q⟩:=w d (E5.mp v).1;exact .tup<|.cons (.int _)<|.cons (bT 2 _ q.pl) .nil
theorem yI(T:Tops P w K mg base):v8 P w K mg base 5 "rows_of" nD iA:=v8.byD (N:=["house","log","room","says","backs"]) T.b T.f_rows_of (by walk_at"sc") wf (by have:=yK T;have:=dR T;have:=cW T;have:=kC T;have:=nM T;walk_at"dv") yg
def bF:A0:=λds M R=>∃(ps:List (c8×Int)) (a:List (c8×List c8)) (log:List D) (e r:c8),ds=[ax ps a,.tup log,.str e,.str r]/\r∈a.map (·.1)/\e∈pW a r/\(∀d∈log,aF ps a d)/\log.length<64/\((gi a log e r).length<=log.length->R (.ref M.length) (M++[.lst<|(gi a log e r).map<|nR<|aw (aE a log) log]))
theorem lQ:cN bF eF:=by rintro ds M R ⟨ps,a,log,e,r,rfl,_⟩;rfl
theorem zD(h:∀d∈log,aF ps rs d):∀e∈eA rs log name,aF ps rs e/\bv e=u3 "say":=λe i=>by obtain⟨p,hp,rfl⟩:=z6.mp (E5.mp i).1;exact(bH h p hp).2
theorem CY(h:∀d∈log,aF ps rs d):aG (vh rs log name) s=(FM rs log name s).map (nR<|aw (aE rs log) log):=zf (λq a=>(bH h q a).1) xu
theorem Gk(h:∀d∈log,aF ps rs d):((vh rs log name).map (·.1)).Nodup:=by
 have e:(vh rs log name).map (·.1)=(eA rs log name).map x9:=by unfold vh;rw[D7];rfl
 have l:((aE rs log).map (·.2)).map x9=(aE rs log).map (·.1):=by rw[D7];exact OB λp hp=>(bH h p hp).1.symm
 rw[e];refine(QB.map _).nodup ?_;rw[l];exact xu
theorem xH{rs:List (c8×List c8)}{log:List D}{name:c8}{f:D->D}{g:D->Option D}(hg:∀s,g s=(FM rs log name s).map f):∀out:List D,(((out.filter λx=>@decide (¬aQ (av rs log) log (gd x))<|K5 _).filter λx=>(g<|gd x).isSome).map λx=>(g<|gd x).getD .non)=(out.filterMap λx=>FM rs log name<|gd x).map f
 | []=>rfl
 |x::out=>by
  have ih:=xH hg out;rw[MZ,OC];cases hn:FM rs log name (gd x) with
  |none=>rw[<-ih];split;rw[MZ,hg,hn];rfl;rfl
  |some e =>
   have hb:=(nh.mp<|bz (AM hn).1).2;have hs:(g<|gd x).isSome=b9:=by rw[hg,hn];rfl
   rw[@decide_eq_true _ (K5 _) hb,p0 rfl,MZ,p0 hs,B9,ih,hg,hn];rfl
def fV:u4:=bi<|E7 2 [4] (bE<|u5 iA<|aa (ab 0)<|aa (ab 1)<|aa (ab 3) af) (gR 2<|aI (ag 0)<|aI (ag 1) gU) (au<|t7 Au (ab 1)<|ab 2)<|gf (ab 2)<|ab 1
def fW:u4:=aB (bb (u5 iZ<|aa (E7 1 [] (bE<|u5 bC<|aa (ab 0)<|aa (ab 1)<|aa (ab 2) af) (ag 0) oj<|eZ<|aa (t7 v5 (ab 0)<|dC<|.int 0)<|aa (ab 0) af) af) 4)<|fV
def iN:u4:=aB (B8 (au<|t7 nv (ab 2)<|u5 cv<|aa (ab 0)<|aa (ab 3) af) (qi) aT)<|fW
theorem mv:A8 bF 5 iN:=by
 rintro ds M R ⟨ps,rs,log,name,r,rfl,F,T,g,E,h⟩;simp only[iN];walk_at"dl";refine⟨ps,rs,r,rfl,F,⟨ap,kh⟩,?_⟩;rw[kH,dT_ T];refine cD ?_;simp only[fW];walk_at"dl";refine⟨ps,rs,log,name,rfl,g,E,_,ad,λ_=>?_⟩;have o:=zD (name:=name) g;have ul:(eA rs log name).length<=100:=by have h1:=(bo (rs:=rs) (log:=log)).len;have h2:=bu (log:=log) (k:=u3 "say");have h3:(aE rs log).length<=(av rs log).length:=K9 _ _;have O:(eA rs log name).length<=((aE rs log).map (·.2)).length:=K9 _ _;rw[v4]at O;lia
 refine bd (λm=>.tup [iU m,m]) (λS=>∃a,S=[a]) ad _ _ _ (λm Q S P=>?_) ⟨_,rfl⟩ (by rw[C9,v4];exact ah<|by lia) ?_;obtain⟨a,rfl⟩:=P;obtain⟨e,i,rfl⟩:=z6.mp Q;refine⟨[b7<|nR (aw (aE rs log) log) e],⟨_,rfl⟩,λY A=>?_⟩;obtain⟨t,z,k,w,r',u,s,rfl,_⟩:=fZ (o e i).1 (o e i).2;unfold nR at A ⊢;walk_at"dl";exact⟨ah (by decide),A⟩;rw[G2,D7];have K:(eA rs log name).map ((λm=>D.tup [iU m,m]) ∘ nR (aw (aE rs log) log))=(vh rs log name).map λp=>.tup [p.1,p.2]:=by unfold vh;rw[D7];refine OB λe i=>?_;obtain⟨t,z,k,w,r',u,s,rfl,_⟩:=fZ (o e i).1 (o e i).2;rfl
 rw[K];refine⟨_,ad,λp hp=>?_,by unfold vh;rw[v4];lia,?_⟩;obtain⟨e,i,rfl⟩:=z6.mp hp;have I:=(o e i).1.st;obtain⟨G,q⟩:=I.tup;exact⟨I.key,by show gP (x9 e)=b9;rw[q];rfl⟩;rw[uM _<|Gk g];have C:=(bt (M:=M) (mo:=MO.lst<|(eA rs log name).map<|nR<|aw (aE rs log) log)).trans<|bt (mo:=MO.lst<|(vh rs log name).map λp=>D.tup [p.1,p.2]);generalize M++[MO.lst<|(eA rs log name).map<|nR<|aw (aE rs log) log]++[MO.lst<|(vh rs log name).map λp=>D.tup [p.1,p.2]]=B at C;have j:(B++[MO.dkt<|vh rs log name])[B.length]?=b7 (.dkt<|vh rs log name):=am;replace C:=C.trans<|bt (mo:=MO.dkt<|vh rs log name);generalize B++[MO.dkt<|vh rs log name]=H at j C;generalize B.length=J at j;simp only[fV];walk_at"dl";refine⟨ps,rs,log,r,rfl,F,g,E,λout V U ol=>?_⟩;have N:=V.out;have l:(H++[MO.lst<|out.filter λx=>@decide (¬aQ (av rs log) log (gd x))<|K5 _])[H.length]?=b7 (.lst<|out.filter λx=>@decide (¬aQ (av rs log) log (gd x))<|K5 _):=am;replace j:=ac (a:=MO.lst<|out.filter λx=>@decide (¬aQ (av rs log) log (gd x))<|K5 _) j;replace C:=C.trans<|bt (mo:=MO.lst<|out.filter λx=>@decide (¬aQ (av rs log) log (gd x))<|K5 _);have fl:=K9 (λx=>@decide (¬aQ (av rs log) log (gd x))<|K5 _) out;have nr:=xH (rs:=rs) (log:=log) (name:=name) (f:=nR<|aw (aE rs log) log) (λs=>CY (s:=s) g) out;generalize H++[MO.lst<|out.filter λx=>@decide (¬aQ (av rs log) log (gd x))<|K5 _]=B2 at l j C;generalize H.length=qo at l;refine⟨_,.inl l,λ_=>?_⟩;refine aU (λx=>(aG (vh rs log name)<|gd x).isSome) (λx=>(aG (vh rs log name)<|gd x).getD .non) (λS=>∃a b,S=[a,b,b7<|.ref J]) (.inl l) _ _ _ ?_ ⟨_,_,rfl⟩ (by rw[C9];exact ah<|by lia) ?_;rintro x W S ⟨a,b,rfl⟩;obtain⟨k,s,rfl,hs⟩:=U x (E5.mp W).1;refine⟨[b7<|.int k,b7 s,b7<|.ref J],⟨_,_,rfl⟩,λY Z c=>?_⟩;have v:=hs.key;obtain⟨G,e⟩:=hs.tup;have es:gd (.tup [.int k,s])=s:=rfl;rw[es]at c;rw[e]at c v ⊢;walk_at"dl";refine⟨trivial,_,j,v,?_⟩;cases n:aG (vh rs log name) (.tup G) with
 |none=>rw[n]at c;exact c
 |some d=>rw[n]at c;exact⟨_,_,j,v,n,c⟩
 rw[G2,nr];have y:(out.filterMap λx=>FM rs log name<|gd x)=gi rs log name r:=by unfold gi;rw[<-N]
 rw[y];have X:(gi rs log name r).length<=log.length:=by have:=List.length_filterMap_le (λx=>FM rs log name<|gd x) out;rw[y]at this;lia
 refine aY.chgL .refl (h X) (by obtain⟨L,rfl⟩:=C;simp) am (C.trans bt)<|Bels.of λd q=>?_;obtain⟨e,i,rfl⟩:=z6.mp q;obtain⟨s,_,h1,_⟩:=md i;exact xI (ou g) (bH g _<|bz h1).2.1 (bH g _<|bz h1).2.2
theorem gL(T:Tops P w K mg base):v8 P w K mg base 7 "new_messages" eF bF:=v8.byD (N:=["house","log","name","room","unread"]) T.b T.f_new_messages (by walk_at"sc") lQ (by have:=jP T;have:=jO T;have:=yI T;walk_at"dv") mv
def dh:A0:=λds M R=>∃(ps:List (c8×Int)) (a:List (c8×List c8)) (log:List D) (e r:c8),ds=[ax ps a,.tup log,.str e,.str r]/\r∈a.map (·.1)/\e∈pW a r/\(∀d∈log,aF ps a d)/\log.length<64/\((gi a log e r).length<=log.length->(∀x∈(gi a log e r).map x9,St x)->R (.ref M.length) (M++[.lst<|(gi a log e r).map x9]))
theorem wk:cN dh nG:=by rintro ds M R ⟨ps,a,log,e,r,rfl,_⟩;rfl
theorem eI(h:∀d∈log,aF ps rs d):∀e∈gi rs log name r,aF ps rs e/\bv e=u3 "say":=λe i=>by obtain⟨s,_,h1,_⟩:=md i;exact(bH h _<|bz h1).2
def sK:u4:=bi<|E7 1 [] (bE<|u5 bF<|aa (ab 0)<|aa (ab 1)<|aa (ab 2)<|aa (ab 3) af) (ag 0) oj<|t7 v5 (ab 0)<|dC<|.int 0
theorem yj:A8 dh 4 sK:=by
 rintro ds M R ⟨ps,c,log,n,r,rfl,v,p,b,j,h⟩;simp only[sK];walk_at"dl";refine⟨ps,c,log,n,r,rfl,v,p,b,j,λy=>⟨_,ad,λ_=>?_⟩⟩;refine bd iU (λS=>∃a,S=[a]) ad _ _ _ (λm o S g=>?_) ⟨_,rfl⟩ (by rw[C9,v4];exact ah<|by lia) ?_;obtain⟨a,rfl⟩:=g;obtain⟨e,i,rfl⟩:=z6.mp o;refine⟨[b7<|nR (aw (aE c log) log) e],⟨_,rfl⟩,λY D=>?_⟩;obtain⟨t,z,k,f,r',u,s,rfl,_⟩:=fZ (eI b e i).1 (eI b e i).2;unfold nR at D ⊢;walk_at"dl";exact D;have l:((gi c log n r).map<|nR<|aw (aE c log) log).map iU=(gi c log n r).map x9:=by rw[D7];refine OB λe i=>?_;obtain⟨t,z,k,f,r',u,s,rfl,_⟩:=fZ (eI b e i).1 (eI b e i).2;rfl
 have hs:∀x∈(gi c log n r).map x9,St x:=λx w=>by obtain⟨e,i,rfl⟩:=z6.mp w;exact(eI b e i).1.st
 rw[G2,l];exact aY.chgL .refl (h y hs) (by simp) am (bt.trans bt)<|Bels.of λd q=>bT 2 d (hs d q).pl
theorem pS(T:Tops P w K mg base):v8 P w K mg base 8 "new_for" nG dh:=v8.byD (N:=["house","log","name","room"]) T.b T.f_new_for (by walk_at"sc") wk (by have:=gL T;walk_at"dv") yj
def ca:A0:=λds M R=>∃(ps:List (c8×Int)) (a:List (c8×List c8)) (log:List D) (n r:c8),ds=[ax ps a,.tup log,.str n,.str r]/\r∈a.map (·.1)/\n∈pW a r/\(∀d∈log,aF ps a d)/\log.length<64/\n.length<=100/\((gi a log n r).length<=log.length->R (.ref M.length) (M++[.lst<|((gi a log n r).filter λe=>bN (oG a log e) n).map x9]))
theorem qZ:cN ca jb:=by rintro ds M R ⟨ps,a,log,e,r,rfl,_⟩;rfl
noncomputable def fifD:D->D
 |.tup [_,_,_,_,s,_]=>s
 |_=>.non
theorem xv(h:∀d∈log,aF ps rs d)(j:aF ps rs e)(x:bv e=u3 "say"):∃s:c8,oG rs log e=.str s/\s.length<=100:=by
 unfold oG;cases R:aG (aw (aE rs log) log) (x9 e) with
 |none=>exact Gx j x
 |some v=>obtain⟨d,m,t⟩:=z6.mp<|qg _<|bz R;obtain⟨h1,h2⟩:=bD (E5.mp m).1;have:=zn (h d h1) h2;injection t with _ e2;rw[<-e2];exact this
def mP:u4:=bi<|E7 1 [2] (bE<|u5 bF<|aa (ab 0)<|aa (ab 1)<|aa (ab 2)<|aa (ab 3) af) (ag 0) (au<|u5 fM<|aa (t7 v5 (ab 0)<|dC<|.int 4)<|aa (ab 1) af)<|t7 v5 (ab 0)<|dC<|.int 0
theorem sg:A8 ca 4 mP:=by
 rintro ds M R ⟨ps,g,log,n,r,rfl,y,x,o,v,z,h⟩;simp only[mP];walk_at"dl";refine⟨ps,g,log,n,r,rfl,y,x,o,v,λA=>⟨_,ad,λ_=>?_⟩⟩;have F:∀e∈gi g log n r,∃a b c d s f,nR (aw (aE g log) log) e=.tup [a,b,c,d,.str s,f]/\a=x9 e/\oG g log e=.str s/\s.length<=100:=λe i=>by obtain⟨h1,h2⟩:=eI o e i;obtain⟨s,t,l⟩:=xv o h1 h2;have Q:(aG (aw (aE g log) log)<|x9 e).getD (Dk e)=.str s:=t;exact⟨_,_,_,_,s,_,by unfold nR;rw[Q],rfl,t,l⟩
 refine aU (λm=>bN (fifD m) n) iU (λS=>∃a,S=[a,b7<|.str n]) ad _ _ _ ?_ ⟨_,rfl⟩ (by rw[C9,v4];exact ah<|by lia) ?_;rintro m w S ⟨a,rfl⟩;obtain⟨e,i,rfl⟩:=z6.mp w;refine⟨[b7<|nR (aw (aE g log) log) e,b7<|.str n],⟨_,rfl⟩,λY Z k=>?_⟩;obtain⟨a,b,c,d,s,f,t,l,Q,I⟩:=F e i;rw[t]at k ⊢;walk_at"dl";rw[show atI [a,b,c,d,D.str s,f] 4=b7 (.str s)from aq (j:=4) rfl];refine⟨s,n,rfl,I,z,?_⟩;exact k;have p:(((gi g log n r).map<|nR<|aw (aE g log) log).filter λm=>bN (fifD m) n).map iU=((gi g log n r).filter λe=>bN (oG g log e) n).map x9:=by
  rw[Q2,D7];have u:(gi g log n r).filter ((λm=>bN (fifD m) n) ∘ nR (aw (aE g log) log))=(gi g log n r).filter λe=>bN (oG g log e) n:=List.filter_congr λe i=>by obtain⟨a,b,c,d,s,f,t,l,Q,I⟩:=F e i;show bN (fifD<|nR (aw (aE g log) log) e) n=_;rw[t,Q];rfl
  rw[u];refine OB λe i=>?_;obtain⟨a,b,c,d,s,f,t,l,Q,I⟩:=F e (E5.mp i).1;show iU (nR (aw (aE g log) log) e)=_;rw[t,<-l];rfl
 rw[G2,p];refine aY.chgL .refl (h A) (by simp) am (bt.trans bt)<|Bels.of λd q=>?_;obtain⟨e,i,rfl⟩:=z6.mp q;exact bT 2 _ (eI o e (E5.mp i).1).1.st.pl
theorem lz(T:Tops P w K mg base):v8 P w K mg base 8 "named_for" jb ca:=v8.byD (N:=["house","log","name","room"]) T.b T.f_named_for (by walk_at"sc") qZ (by have:=vX T;have:=gL T;walk_at"dv") sg
noncomputable def zu(rs:List (c8×List c8))(log:List D)(name r:c8):D:=.tup [.str r,.int ((gi rs log name r).length:Int),.int (((gi rs log name r).filter λe=>bN (oG rs log e) name).length:Int)]
def fJ:A0:=λds M R=>∃(ps:List (c8×Int)) (a:List (c8×List c8)) (log:List D) (e r:c8),ds=[ax ps a,.tup log,.str e,.str r]/\r∈a.map (·.1)/\e∈pW a r/\(∀d∈log,aF ps a d)/\log.length<64/\e.length<=100/\R (zu a log e r) M
theorem uy:cN fJ kq:=by rintro ds M R ⟨ps,a,log,e,r,rfl,_⟩;rfl
def ph:u4:=bi<|eZ<|aa (ab 3)<|aa (u5 ii<|aa (u5 dh<|aa (ab 0)<|aa (ab 1)<|aa (ab 2)<|aa (ab 3) af) af)<|aa (u5 ii<|aa (u5 ca<|aa (ab 0)<|aa (ab 1)<|aa (ab 2)<|aa (ab 3) af) af) af
theorem vm:A8 fJ 4 ph:=by rintro ds M R ⟨ps,a,log,e,r,rfl,i,f,d,g,n,h⟩;simp only[ph];walk_at"dl";refine⟨ps,a,log,e,r,rfl,i,f,d,g,λl _=>⟨_,ad,?_⟩⟩;refine⟨ps,a,log,e,r,rfl,i,f,d,g,n,λ_=>⟨_,ad,ah (by decide),?_⟩⟩;rw[v4,v4];exact aY.keep h (.tup<|.cons (.str _)<|.cons (.int _)<|.cons (.int _) .nil)<|bt.trans bt
theorem vU(T:Tops P w K mg base):v8 P w K mg base 9 "total_of" kq fJ:=v8.byD (N:=["house","log","name","room"]) T.b T.f_total_of (by walk_at"sc") uy (by have:=pS T;have:=lz T;walk_at"dv") vm
def cr:A0:=λds M R=>∃(ps:List (c8×Int)) (a:List (c8×List c8)) (log:List D) (e:c8),ds=[ax ps a,.tup log,.str e]/\HouseF ps a/\(∀d∈log,aF ps a d)/\log.length<64/\e.length<=100/\R (.ref M.length) (M++[.lst<|(bL a e).map<|zu a log e])
theorem oN:cN cr gG:=by rintro ds M R ⟨ps,a,log,e,rfl,_⟩;rfl
noncomputable def strO:D->c8
 |.str x=>x
 |_=>u3 ""
theorem qW:∀{rs:List (c8×List c8)},(rs.map (·.1)).Nodup->r∈rs->pW rs r.1=r.2
 |p::rs,nd,h=>by rw[nU];rw[B9,J5]at nd;rcases A3.mp h with rfl|h;rw[p0 rfl];have ne:p.1≠r.1:=λz=>nd.1 (by rw[z];exact K1 h);rw[p4 ne];exact qW nd.2 h
def kK:u4:=bi<|E7 1 [0,1,2] (bE<|u5 fK<|aa (ab 0)<|aa (ab 2) af) (ag 0) oj<|u5 fJ<|aa (ab 1)<|aa (ab 2)<|aa (ab 3)<|aa (ab 0) af
theorem qp:A8 cr 3 kK:=by
 rintro ds M R ⟨ps,s,log,e,rfl,f,g,l,n,h⟩;simp only[kK];walk_at"dl";have k:=f.rl;have o:(bL s e).length<=4:=by have:=K9 (λp:c8×List c8=>decide<|e∈p.2) s;unfold bL;rw[v4];lia
 refine⟨ps,s,e,rfl,by lia,_,ad,λ_=>?_⟩;refine bd (λd=>zu s log e<|strO d) (λS=>∃a,S=[a,b7<|ax ps s,b7<|.tup log,b7<|.str e]) ad _ _ _ (λd i S c=>?_) ⟨_,rfl⟩ (by rw[C9,v4];exact ah<|by lia) ?_;obtain⟨a,rfl⟩:=c;obtain⟨r,j,rfl⟩:=z6.mp i;obtain⟨b,m,rfl⟩:=z6.mp j;obtain⟨h1,h2⟩:=E5.mp m;refine⟨[b7<|.str b.1,b7<|ax ps s,b7<|.tup log,b7<|.str e],⟨_,rfl⟩,λY D=>?_⟩;walk_at"dl";exact⟨ps,s,log,e,b.1,rfl,K1 h1,by rw[qW f.rnd h1];exact oT_ h2,g,l,n,D⟩;rw[G2,D7];refine aY.chgL .refl h (by simp) am (bt.trans bt)<|Bels.of λd q=>?_;obtain⟨r,_,rfl⟩:=z6.mp q;exact .tup<|.cons (.str _)<|.cons (.int _)<|.cons (.int _) .nil
theorem qP(T:Tops P w K mg base):v8 P w K mg base 10 "totals_for" gG cr:=v8.byD (N:=["house","log","name"]) T.b T.f_totals_for (by walk_at"sc") oN (by have:=vV T;have:=vU T;walk_at"dv") qp
noncomputable def Cm(ns:List Int)(k:Nat):Int:=ns.getD k 0
def eY:A0:=λds M R=>∃(n:Nat) (ns:List Int) (k:Nat),ds=[.ref n,.int k]/\ak M n (ns.map D.int)/\R (.int<|Cm ns k) M
theorem wq:cN eY nJ:=by rintro ds M R ⟨n,ns,k,rfl,_⟩;rfl
def mW:u4:=bi<|dC<|.int 0
def tE:u4:=aB (B8 (au<|t7 NK (ab 1)<|u5 ii<|aa (ab 0) af) (bi<|t7 v5 (ab 0)<|ab 1) aT)<|mW
theorem yn:A8 eY 2 tE:=by rintro ds M R ⟨n,ns,k,rfl,L,h⟩;simp only[tE,mW];walk_at"dl";refine⟨_,L,?_⟩;unfold Cm at h;by_cases a:k<ns.length;rw[dT_<|by simpa using a];refine cQ ⟨_,L,?_⟩;rw[aq (v:=.int ns[k])<|by rw[C6,w9 a];rfl];rw[L1,w9 a]at h;exact aY.now h;rw[dF_<|by simpa using a];rw[L1,NI<|by lia]at h;exact cD<|aY.now h
theorem pT(T:Tops P w K mg base):v8 P w K mg base 1 "_law_cell_at" nJ eY:=v8.byD (N:=["_law_script","_law_k"]) T.b T.f_cell_at (by walk_at"sc") wq (by walk_at"dv") yn
def dS:A0:=λds M R=>∃(c k:Int),ds=[.int c,.int k]/\(0<=k/\k<=1000)/\∀i:Int,R (.int i) M
theorem Bg:cN dS vP:=by rintro ds M R ⟨c,k,rfl,_⟩;rfl
def sV:u4:=bi<|t7 cA (t7 aM (t7 aM (t7 lL (ab 2)<|dC<|.int 69621)<|t7 lL (t7 lL (dC<|.int 7919)<|ab 1)<|ab 1)<|dC<|.int 5)<|dC<|.int 1999999973
def zI:u4:=aB (bb (t7 cA (t7 lL (t7 aM (t7 aM (t7 cA (ab 0)<|dC<|.int 2147483629)<|t7 lL (dC<|.int 7919)<|ab 1)<|dC<|.int 11)<|dC<|.int 48271)<|dC<|.int 2147483587) 2)<|sV
theorem CP:A8 dS 3 zI:=by rintro ds M R ⟨c,k,rfl,⟨L,B⟩,h⟩;simp only[zI,sV];walk_at"dl";exact⟨by decide,.inl ⟨by decide,by decide⟩,.inr ⟨by decide,by decide⟩,by decide,.inr ⟨by decide,by decide⟩,.inl ⟨by decide,by decide⟩,.inr ⟨by lia,by lia⟩,by decide,aY.now<|h _⟩
theorem xD(T:Tops P w K mg base):v8 P w K mg base 1 "_law_mixed" vP dS:=v8.byD (N:=["_law_cell","_law_k","_law_number"]) T.b T.f_mixed (by walk_at"sc") Bg (by walk_at"dv") CP
def oz:A0:=λds M R=>∃(c k:Int),ds=[.int c,.int k]/\(0<=k/\k<=900)/\∀i:Int,R (.int i) M
theorem Eh:cN oz AF:=by rintro ds M R ⟨c,k,rfl,_⟩;rfl
def xm:u4:=bi<|u5 dS<|aa (u5 dS<|aa (ab 0)<|aa (ab 1) af)<|aa (t7 aM (ab 1)<|dC<|.int 9) af
def FE:u4:=aB (B8 (au<|t7 C4 (t7 cA (ab 0)<|dC<|.int 2)<|dC<|.int 0) (bi<|t7 aN (ab 0)<|dC<|.int 2) aT)<|xm
theorem Gh:A8 oz 2 FE:=by
 rintro ds M R ⟨c,k,rfl,⟨L,B⟩,h⟩;simp only[FE,xm];walk_at"dl";refine⟨by decide,⟨aH,aH⟩,?_⟩;cases u7 M w4 (.int<|c % 2) (.int 0) with
 |true=>exact cQ ⟨⟨by decide,by decide⟩,aY.now<|h _⟩
 |false=>exact cD ⟨c,k,rfl,⟨L,by lia⟩,λi=>⟨i,k+9,rfl,⟨by lia,by lia⟩,λj=>aY.now<|h j⟩⟩
theorem GZ(T:Tops P w K mg base):v8 P w K mg base 2 "_law_free" AF oz:=v8.byD (N:=["_law_cell","_law_k"]) T.b T.f_free (by walk_at"sc") Eh (by have:=xD T;walk_at"dv") Gh
def iB:A0:=λds M R=>∃(n:Nat) (ns:List Int) (a m:Nat),ds=[.ref n,.int a,.int m]/\ak M n (ns.map D.int)/\ns.length<=100/\a<=10/\m<=100/\∀xs:List Int,xs.length<=m->R (.ref M.length) (M++[.lst<|xs.map .int])
theorem wj:cN iB nF:=by rintro ds M R ⟨n,ns,a,m,rfl,_⟩;rfl
theorem Ez{ns:List Int}{lo hi:Option Int}:∃l:List Int,cutD (ns.map D.int) lo hi=l.map D.int:=by unfold cutD;rw[<-Qg,<-List.map_take];exact⟨_,rfl⟩
theorem Fm{xs:List D}{s m:Nat}:(cutD xs (b7<|(s:Int)+1)<|b7<|(s:Int)+1+(m:Int)).length<=m:=by unfold cutD;rw[F6,show ((s:Int)+1)=((s+1:Nat):Int) by lia,show (((s+1:Nat):Int)+(m:Int))=((s+1+m:Nat):Int) by lia,HT.sIx_nat,HT.sIx_nat];lia
def kM:u4:=bi<|ab 4
def kN:u4:=gX<|MV bR (ab 4)<|aa (t7 aM (t7 lL (ab 9)<|dC<|.int 1000003)<|u5 dS<|aa (ab 9)<|aa (t7 aM (ab 7)<|dC<|.int 5) af) af
def gp:u4:=aB (lW (bW<|aa (u5 ii<|aa (ab 8) af) af) (ag 7)<|aB (bb (u5 dS<|aa (u5 dS<|aa (t7 v5 (ab 8)<|ab 7)<|aa (ab 7) af)<|aa (dC<|.int 3) af) 9)<|kN)<|kM
def mG:u4:=aB (B8 (au<|t7 C4 (ab 8)<|jV af) (iV 1 [3] (bW<|aa (t7 cA (t7 aN (ab 3)<|dC<|.int 2)<|t7 aM (ab 2)<|dC<|.int 1) af) (ag 0) oj (t7 aM (t7 aN (ab 1)<|dC<|.int 2)<|t7 lL (dC<|.int 7)<|ab 0) 8) aT)<|gp
def mH:u4:=aB (bb (N3 (ab 0) (lV<|t7 aM (ab 1)<|dC<|.int 1)<|lV<|t7 aM (t7 aM (ab 1)<|dC<|.int 1)<|ab 2) 8)<|mG
def mI:u4:=bi<|ab 4
def mJ:u4:=bb (t7 aN (ab 5)<|t7 Jb (dC<|.int 10)<|dC<|.int 24) 5
def mK:u4:=aB (lW (bW<|aa (ab 6) af) (ag 7)<|aB (gX<|MV bR (ab 4)<|aa (t7 cA (ab 5)<|t7 Jb (dC<|.int 10)<|dC<|.int 24) af)<|mJ)<|mI
def mL:u4:=aB (bb (t7 aN (ab 5)<|t7 aM (ab 2)<|dC<|.int 1) 5)<|mK
def mM:u4:=aB (bb (t7 cA (ab 5)<|t7 aM (ab 2)<|dC<|.int 1) 6)<|mL
def mN:u4:=aB (B8 (au<|t7 C4 (t7 cA (ab 3)<|dC<|.int 2)<|dC<|.int 0) (aB (bb (t7 aN (ab 3)<|dC<|.int 2) 5)<|mM) aT)<|mH
def mO:u4:=aB (bb (jV af) 4)<|mN
def sJ:u4:=aB (bb (u5 eY<|aa (ab 0)<|aa (ab 1) af) 3)<|mO
theorem pU{M L:u8}{R:DK}{cs:List Int}{c m:Nat}{r y1 g j k l s y9:Option D}(f:ak (M++MO.lst []::L) c (cs.map D.int))(n:c≠M.length)(t:cs.length<=m)(U:m<=100)(h:∀xs:List Int,xs.length<=m->R (.ref M.length) (M++[.lst<|xs.map .int])):gp (EE M R) [r,y1,g,j,b7<|.ref M.length,k,l,s,b7<|.ref c,y9] (M++MO.lst []::L):=by
 simp only[gp];walk_at"dl";refine⟨_,f,⟨by lia,by rw[v4];lia⟩,?_⟩;refine aX (λi S M'=>∃(xs:List Int) (a b:Option D),xs.length=i/\(∃d,M'=M++MO.lst (xs.map .int)::d)/\ak M' c (cs.map D.int)/\S=[r,y1,g,j,b7<|.ref M.length,k,l,a,b7<|.ref c,b]) ?_ ?_ ⟨[],_,_,rfl,⟨L,rfl⟩,f,rfl⟩;rintro S M' ⟨xs,a,b,x,⟨d,rfl⟩,O,rfl⟩;rw[aW,v4,J7]at x;refine⟨trivial,?_⟩;simp only[kM];walk_at"dl";exact aY.lst (h xs<|by lia) (v6 _) ck<|xP xs;rintro i y S M' q ⟨xs,a,b,x,⟨d,rfl⟩,O,rfl⟩ G p;obtain⟨hi,rfl⟩:=cf.mp q;rw[v4,J7]at hi;refine⟨trivial,?_⟩;walk_at"dl";have e:atI (cs.map D.int) (0+(i:Int))=b7 (.int cs[i]):=by rw[Os];exact aq<|by rw[C6,w9 hi];rfl
 refine⟨_,O,?_⟩;rw[e];refine⟨_,_,rfl,⟨by lia,by lia⟩,λv=>⟨v,3,rfl,⟨by decide,by decide⟩,λo=>?_⟩⟩;simp only[kN];walk_at"dl";refine⟨⟨_,.inl ck⟩,.inr ⟨by decide,by decide⟩,o,_,rfl,⟨by lia,by lia⟩,λw=>⟨xs.map .int,ck,by rw[v4];exact ar (by lia),C1.now<|p _ _ ⟨xs++[o*1000003+w],_,_,by simp[x],⟨d,?_⟩,AV n O,rfl⟩⟩⟩;rw[nj];simp
theorem yi:A8 iB 10 sJ:=by
 rintro ds M R ⟨n,ns,a,m,rfl,L,B,C,U,h⟩;simp only[sJ];walk_at"dl";refine⟨n,ns,a,rfl,L,?_⟩;generalize Cm ns a=c;simp only[mO,mN];walk_at"dl";refine⟨A9 _,by decide,⟨aH,aH⟩,?_⟩;have E:(0:Int)<(m:Int)+1:=by lia
 cases u7 (M++[MO.lst []]) w4 (.int<|c % 2) (.int 0) with
 |true=>refine cQ ?_;simp only[mM,mL];walk_at"dl";have A:=ci (a:=c / 2) E;have z:=cC (a:=c / 2) E;refine⟨⟨by decide,by decide⟩,E,⟨E,by lia⟩,?_⟩;simp only[mK];walk_at"dl";refine⟨⟨by lia,by lia⟩,?_⟩;refine aX (λi S M'=>∃(xs:List Int) (r:Int) (b:Option D),xs.length=i/\M'=M++MO.lst (xs.map .int)::[]/\S=[b7<|.ref n,b7<|.int a,b7<|.int m,b7<|.int c,b7<|.ref M.length,b7<|.int r,b7<|.int<|c / 2 % ((m:Int)+1),b,b8,b8]) ?_ ?_ ⟨[],_,_,rfl,rfl,rfl⟩;rintro S M' ⟨xs,r,b,f,rfl,rfl⟩;rw[aW]at f;refine⟨trivial,?_⟩;simp only[mI];walk_at"dl";exact aY.lst (h xs<|by lia) (v6 _) ck<|xP xs;rintro i y S M' O ⟨xs,r,b,f,rfl,rfl⟩ G q;obtain⟨hi,rfl⟩:=cf.mp O;refine⟨trivial,?_⟩;simp only[mJ];walk_at"dl";refine⟨⟨_,.inl ck⟩,⟨by decide,by decide,by decide⟩,by decide,xs.map .int,ck,by rw[v4];exact ar (by lia),⟨by decide,by decide,by decide⟩,⟨by decide,by decide⟩,C1.now<|q _ _ ⟨xs++[r % 10 ^ Int.toNat 24],_,_,by simp[f],?_,rfl⟩⟩;rw[nj];simp
 |false =>
  refine cD ?_;simp only[mH];walk_at"dl";obtain⟨cs,e⟩:=Ez (ns:=ns) (lo:=b7<|(a:Int)+1) (hi:=b7<|(a:Int)+1+(m:Int));have j:cs.length<=m:=by have:=Fm (xs:=ns.map D.int) (s:=a) (m:=m);rw[e,v4]at this;exact this
  refine⟨_,L.more _,?_⟩;rw[e,J6];simp only[mG];walk_at"dl";have p:(M++[MO.lst []]).length=M.length+1:=by simp
  rw[p];have w:ak (M++MO.lst []::[MO.lst<|cs.map D.int]) (M.length+1) (cs.map D.int):=.inl ir;obtain⟨o,l⟩:=qU w λx f=>by obtain⟨i,_,rfl⟩:=z6.mp f;exact aH
  refine⟨A9 _,o,?_⟩;rw[l];cases hs:(cs.map D.int).isEmpty with
  |true =>
   have A:=ci (a:=c / 2) E;have z:=cC (a:=c / 2) E;refine cQ ⟨⟨by decide,by decide⟩,E,⟨by lia,by lia⟩,?_⟩;refine bd (λd=>match d with|.int k=>.int (c / 2+7*k)|_=>.non) (λS=>∃b,S=[b,b7<|.int c]) trivial _ _ _ (λk v S t=>?_) ⟨_,rfl⟩ ?_ ?_;obtain⟨b,rfl⟩:=t;obtain⟨i,hi⟩:=M9 v;obtain⟨_,rfl⟩:=cf.mp hi;refine⟨[b7<|.int<|0+(i:Int),b7<|.int c],⟨_,rfl⟩,λY u=>?_⟩;walk_at"dl";exact⟨⟨by decide,by decide⟩,.inl ⟨by decide,by decide⟩,u⟩;rw[C9,aW];exact ah (by lia);obtain⟨ds,g,V⟩:∃ds:List Int,(iG 0 (c / 2 % ((m:Int)+1)).toNat).map (λd=>match d with|.int k=>D.int (c / 2+7*k)|_=>.non)=ds.map D.int/\ds.length<=m:=by refine⟨(C2 (c / 2 % ((m:Int)+1)).toNat).map λ(i:Nat)=>c / 2+7*(0+(i:Int)),?_,by rw[v4,Od];lia⟩;unfold iG;rw[D7,D7];rfl
   rw[G2,g,J6,J6];refine pU (cs:=ds) ?_ ?_ V U h;exact .inl (by simp);simp
  |false=>refine cD ?_;rw[J6];exact pU (.inl ir) (by lia) j U h
theorem yJ(T:Tops P w K mg base):v8 P w K mg base 2 "_law_numbers" nF iB:=v8.byD (N:=["_law_script","_law_start","_law_most","_law_head","_law_found","_law_rest","_law_many","_law_k","_law_cells","_law_one"]) T.b T.f_numbers (by walk_at"sc") wj (by have:=pT T;have:=xD T;walk_at"dv") yi
def ka:A0:=λds M R=>∃(c:Int) (m:Nat),ds=[.int c,.int m]/\1<=m/\m<=4/\∀xs:List c8,xs.length=m->(∀x∈xs,x.length<=8/\eX x)->xs.Nodup->R (.ref M.length) (M++[.lst<|xs.map .str])
theorem Bf:cN ka vO:=by rintro ds M R ⟨c,m,rfl,_⟩;rfl
theorem EA(u:Option Int)(n:Nat):PL b8 u 1 n=PL (b7 ((0:Nat):Int)) u 1 n:=by unfold PL;simp only[show (1:Int) > 0 by decide,s9];congr 1
theorem Li(l:Option Int)(n:Nat):PL l b8 1 n=PL l (b7 ((n:Nat):Int)) 1 n:=by unfold PL;simp only[show (1:Int) > 0 by decide,s9];congr 1;rw[p4<|by lia];lia
theorem qG(x:c8)(b:Nat):(L6 x b8<|b7 (b:Int)).cps.toList=x.cps.toList.take b:=by have e:=jJ x (a:=0) (b:=b)<|A9 _;rw[ff]at e ⊢;rw[EA];rw[e];simp
theorem pN(x:c8)(a:Nat)(h:a<=x.length):(L6 x (b7 (a:Int)) b8).cps.toList=x.cps.toList.drop a:=by have e:=jJ x (a:=a) (b:=x.length) h;rw[ff]at e ⊢;rw[Li];rw[e];rw[PF];rw[L8,bx];lia
theorem yb(a:0<=i)(h1:i<26):∃c:Nat,atI (u3 "abcdefghijklmnopqrstuvwxyz").cps.toList i=b7 c/\(97<=c/\c<=122)/\c=97+i.toNat:=by
 have g:(u3 "abcdefghijklmnopqrstuvwxyz").cps.toList=(C2 26).map (· + 97):=by decide +kernel
 obtain⟨j,L,e,z⟩:=Cy (xs:=(u3 "abcdefghijklmnopqrstuvwxyz").cps.toList) a (by rw[g];simpa using h1);refine⟨_,e,?_⟩;have l:(u3 "abcdefghijklmnopqrstuvwxyz").cps.toList[j]?=b7 (j+97):=by rw[g,v4,Od]at L;rw[g,C6,List.getElem?_range L];rfl
 rw[w9 L]at l;have Q:=C0 l;have h:j<26:=by rw[g,v4,Od]at L;exact L
 rw[Q];lia
theorem BR{at_ s o:Nat}{a:List c8}(l:a.length<=4)(h:∀(j:Nat) z,a[j]?=b7 z->z.length=s/\z.cps.toList[at_]?=b7 (97+(o+j) % 26)):a.Nodup:=by rw[OI,PK];intro i j hi L b e;have h1:=(h i _<|w9 hi).2;have h2:=(h j _<|w9 L).2;rw[e,h2]at h1;have:=C0 h1;lia
theorem Fx(h:97<=ch/\ch<=122):∃(i:Nat) (aL:List Nat),O7 (u3 "abcdefghijklmnopqrstuvwxyz") ⟨#[ch]⟩ 0 (u3 "abcdefghijklmnopqrstuvwxyz").length 1=i::aL:=by
 have f:=StrLaws.found_one (u3 "abcdefghijklmnopqrstuvwxyz") ch;have g:(u3 "abcdefghijklmnopqrstuvwxyz").cps.toList=(C2 26).map (· + 97):=by decide +kernel
 have d:ch∈(u3 "abcdefghijklmnopqrstuvwxyz").cps.toList:=by rw[g];exact z6.mpr ⟨ch-97,G1.mpr (by lia),by lia⟩
 rw[dT_ d]at f;cases e:O7 (u3 "abcdefghijklmnopqrstuvwxyz") ⟨#[ch]⟩ 0 (u3 "abcdefghijklmnopqrstuvwxyz").length 1 with
 |nil=>rw[e]at f;cases f
 |cons i r=>exact⟨i,r,rfl⟩
def kg:u4:=bi<|u5 kn<|aa (ab 8) af
def sL:u4:=aB (B8 (wE (au<|t7 N1 (ab 1)<|dC<|.int 1)<|au<|t7 C4 (t7 cA (ab 0)<|dC<|.int 3)<|dC<|.int 1) (Mm (t7 aM (t7 v5 (ab 8)<|dC<|.int 0)<|dC<|.str "b")<|Cd (ab 8)<|dC<|.int 1) aT)<|kg
def sM:u4:=aB (iV 1 [5,4,2,7] (bW<|aa (ab 1) af) (ag 0) oj (t7 aM (t7 aM (N3 (ab 1) kJ<|lV<|ab 2)<|t7 v5 (ab 3)<|t7 cA (t7 aM (ab 4)<|ab 0)<|dC<|.int 26)<|N3 (ab 1) (lV<|t7 aM (ab 2)<|dC<|.int 1) kJ) 8)<|sL
def sN:u4:=aB (bb (Pd nw (ab 2)<|aa (t7 v5 (ab 5)<|ab 4) af) 7)<|sM
def sO:u4:=bb (t7 aN (ab 0)<|dC<|.int 26) 0
def sP:u4:=aB (lW (bW<|aa (ab 3) af) (ag 6)<|aB (bb (t7 aM (ab 5)<|t7 v5 (ab 2)<|t7 cA (ab 0)<|dC<|.int 26) 5)<|sO)<|sN
def sQ:u4:=aB (bb (dC<|.str "") 5)<|sP
def sR:u4:=aB (bb (t7 aN (ab 0)<|dC<|.int 49) 0)<|sQ
def sT:u4:=aB (bb (t7 cA (t7 aN (ab 0)<|dC<|.int 7)<|ab 3) 4)<|sR
def sU:u4:=aB (bb (t7 aM (dC<|.int 1)<|t7 cA (ab 0)<|dC<|.int 7) 3)<|sT
def zH:u4:=aB (bb (dC<|.str "abcdefghijklmnopqrstuvwxyz") 2)<|sU
theorem qV{M L:u8}{R:DK}{m:Nat}{xs:List c8}{r y1 y j d k e f:Option D}(i:m<=4)(l:xs.length=m)(c:∀x∈xs,x.length<=8/\eX x)(X:xs.Nodup)(h:∀xs:List c8,xs.length=m->(∀x∈xs,x.length<=8/\eX x)->xs.Nodup->R (.ref M.length) (M++[.lst<|xs.map .str])):kg (EE M R) [r,y1,y,j,d,k,e,f,b7<|.ref M.length] (M++MO.lst (xs.map .str)::L):=by simp only[kg];walk_at"dl";refine⟨xs.map .str,.inl ck,(yz<|by lia).g,λys O _=>?_⟩;obtain⟨s,rfl,b⟩:=Az O;rw[J6];exact aY.lst (h s (by rw[b.length_eq,l]) (λx a=>c x<|b.mem_iff.mp a)<|b.nodup_iff.mpr X) (by simp) (by simp)<|Df s
theorem CO:A8 ka 9 zH:=by
 rintro ds M R ⟨c,m,rfl,m1,Q,h⟩;have o:(u3 "abcdefghijklmnopqrstuvwxyz").length<=sizeLine:=by decide +kernel
 have s0:=ci (a:=c) (b:=7) (by decide);have s1:=cC (a:=c) (b:=7) (by decide);simp only[zH,sU,sT];walk_at"dl";obtain⟨s,hs⟩:∃n:Nat,(n:Int)=1+c % 7:=⟨(1+c % 7).toNat,by lia⟩
 rw[<-hs];have z1:1<=s:=by lia
 have z7:s<=7:=by lia
 have a0:=ci (a:=c / 7) (b:=s) (by lia);have U:=cC (a:=c / 7) (b:=s) (by lia);obtain⟨at_,ha⟩:∃n:Nat,(n:Int)=c / 7 % (s:Int):=⟨(c / 7 % (s:Int)).toNat,by lia⟩
 refine⟨by decide,⟨by decide,by decide⟩,by lia,?_⟩;rw[<-ha]at U ⊢;simp only[sR,sQ,sP];walk_at"dl";refine⟨⟨by decide,by decide⟩,⟨by lia,by lia⟩,?_⟩;refine aX (λi S M'=>∃(x:c8) (r:Int) (b:Option D),M'=M/\x.length=i/\(∀q∈x.cps.toList,97<=q/\q<=122)/\S=[b7<|.int r,b7<|.int m,b7<|.str<|u3 "abcdefghijklmnopqrstuvwxyz",b7<|.int s,b7<|.int at_,b7<|.str x,b,b8,b8]) ?_ ?_ ⟨u3 "",_,_,rfl,by decide +kernel,(λq u=>by rw[show (u3 "").cps.toList=[] by decide +kernel]at u;cases u),rfl⟩;rintro S M' ⟨base,r,b,rfl,f,u,rfl⟩;rw[aW,J7]at f;refine⟨trivial,?_⟩;have ai:=bx (a:=base);have C:at_<base.cps.toList.length:=by lia
 have V:atI base.cps.toList (at_:Int)=b7 base.cps.toList[at_]:=aq<|w9 C;have E:=u _<|Nn C;simp only[sN];walk_at"dl";refine⟨ah (by lia),?_⟩;rw[V];generalize base.cps.toList[at_]=ch at E;obtain⟨J,v,ho⟩:=Fx E;refine⟨J,v,ho,?_⟩;simp only[sM];walk_at"dl";refine⟨⟨by lia,by lia⟩,?_⟩;have w:(L6 base b8<|b7 (at_:Int)).length=at_:=by rw[bx,qG,F6];lia
 have I:(L6 base (b7<|(at_:Int)+1) b8).length=s-(at_+1):=by have B:=pN base (at_+1) (by lia);rw[show ((at_+1:Nat):Int)=(at_:Int)+1 by lia]at B;rw[bx,B,L8];lia
 refine iw (λys acc S M1=>∃(d:List c8) (a:Option D),acc=d.map .str/\(∀(j:Nat) z,d[j]?=b7 z->z.length=s/\z.cps.toList[at_]?=b7 (97+(J+j) % 26))/\(∀z∈d,eX z)/\d.length+ys.length=m/\ys=(iG 0 m).drop d.length/\M1=M'/\S=[a,b7<|.str base,b7<|.int at_,b7<|.str<|u3 "abcdefghijklmnopqrstuvwxyz",b7<|.int J]) ?_ ?_ _ _ _ _ ⟨[],_,rfl,(λj z o=>by simp at o),(λ_ z=>nomatch z),by rw[aW,J7];simp,by rw[J7];rfl,rfl,rfl⟩;rintro acc S M1 ⟨d,a,rfl,p,A,hl,_,rfl,rfl⟩;rw[C9,Nat.add_zero]at hl;refine⟨trivial,?_⟩;have z7':∀z∈d,z.length=s:=λz o=>by obtain⟨j,N⟩:=M9 o;exact(p j z N).1
 have z8:∀z∈d,z.length<=8/\eX z:=λz o=>⟨by have:=z7' z o;lia,A z o⟩
 have znd:d.Nodup:=BR (by lia) p;simp only[sL];walk_at"dl";by_cases W:(1:Int)<m;rw[dT_ W];refine cQ ⟨by decide,⟨aH,aH⟩,?_⟩;cases u7 (M1++[MO.lst<|d.map .str]) w4 (.int<|r % 3) (.int 1) with
 |true =>
  match d,hl,z7',z8,znd with
  |z0::z1::zr,hl,z7',z8,znd =>
   have l0:=z7' z0 (by simp);refine cQ ⟨_,ad,?_⟩;rw[B9,QR];refine⟨?_,_,1,am,?_,?_⟩;rw[show (u3 "b").length=1 by decide +kernel];exact ah (by lia);rw[D4,v4,D4];unfold NB;rw[p0<|by decide];simp;lia;rw[nj,B9,List.set_cons_succ,List.set_cons_zero];have lb:(z0++u3 "b").length=s+1:=by rw[bA,show (u3 "b").length=1 by decide +kernel,l0]
   refine qV (xs:=z0::(z0++u3 "b")::zr) Q (by simpa using hl) (λx f=>?_) ?_ h;rcases A3.mp f with rfl|f;exact z8 x (by simp);rcases A3.mp f with rfl|f;exact⟨by lia,(z8 z0<|by simp).2.app λc l=>by
    have X:(u3 "b").cps.toList=[98]:=by decide +kernel
    rw[X,List.mem_singleton]at l;lia⟩
   exact z8 x (by simp[f]);rw[J5,J5]at znd ⊢;refine⟨λf=>?_,λf=>?_,znd.2.2⟩;rcases A3.mp f with e|f;rw[<-e]at lb;lia;exact znd.1<|C7 _ f;have:=z7' _<|C7 _<|C7 _ f;lia
  | [z0],hl,_,_,_=>exact p5 hl<|by simp only[J2];lia
  | [],hl,_,_,_=>exact p5 hl<|by simp only[C9];lia
 |false=>exact cD<|qV Q hl z8 znd h
 rw[dF_ W];exact cD<|qV Q hl z8 znd h;rintro y ys acc S M1 ⟨d,a,rfl,p,A,hl,O,rfl,rfl⟩ K hK;have F:d.length<(iG 0 m).length:=by rw[D4]at hl;rw[aW];lia
 rw[O9 F]at O;obtain⟨rfl,rfl⟩:=Qi O;have Z:(iG 0 m)[d.length]=.int (d.length:Int):=by have:=(cf (lo:=0) (n:=m) (i:=d.length) (x:=(iG 0 m)[d.length])).mp<|w9 F;rw[this.2];congr 1;lia
 rw[Z];refine⟨trivial,?_⟩;rw[D4]at hl;walk_at"dl";obtain⟨H,L,t,Y⟩:=yb (i:=((J:Int)+(d.length:Int)) % 26) (ci<|by decide) (cC<|by decide);refine⟨ah (by lia),by decide,o,?_⟩;rw[L];refine⟨by rw[fv,w];exact ah (by lia),ah (by lia),by rw[bA,fv,w,I];exact ah (by lia),by rw[v4];exact ar (by lia),hK _ _ _ ⟨d++[L6 base b8 (b7 (at_:Int))++⟨#[H]⟩++L6 base (b7<|(at_:Int)+1) b8],_,by simp,λj z g=>?_,λz g=>?_,by rw[B6,J2];lia,by rw[B6,J2],rfl,rfl⟩⟩;by_cases N:j<d.length;rw[L0 N]at g;exact p j z g;obtain⟨rfl,rfl⟩:j=d.length/\z=L6 base b8 (b7 (at_:Int))++⟨#[H]⟩++L6 base (b7<|(at_:Int)+1) b8:=by
  have P:=(z9.mp g).1;rw[B6,J2]at P;obtain rfl:j=d.length:=by lia
  rw[MU<|v6 _,NS]at g;exact⟨rfl,(C0 g).symm⟩
 refine⟨by rw[bA,bA,fv,w,I];lia,?_⟩;have st:=qG base at_;have lt:(base.cps.toList.take at_).length=at_:=by rw[F6];lia
 rw[rV,rV,st,J6,MU (by lia),lt,NS];show b7 H=_;rw[Y];congr 2;rcases F3.mp g with q|q;exact A z q;rw[K0.mp q];have T:eX base:=u;have B:=pN base (at_+1) (by lia);rw[show ((at_+1:Nat):Int)=(at_:Int)+1 by lia]at B;refine eX.app (eX.app (λc l=>?_) λc l=>?_) λc l=>?_;rw[qG]at l;exact T c<|Rq l;rw[show c=H by simpa using l];exact t;rw[B]at l;exact T c<|R5 l;rintro i y S M' O ⟨x,r,b,rfl,f,u,rfl⟩ G hG;obtain⟨hi,rfl⟩:=cf.mp O;refine⟨trivial,?_⟩;simp only[sO];walk_at"dl";obtain⟨H,L,t⟩:=yb (i:=r % 26) (ci<|by decide) (cC<|by decide);refine⟨by decide,o,?_⟩;rw[L];refine⟨by rw[fv,f];exact ah (by lia),⟨by decide,by decide⟩,C1.now<|hG _ _ ⟨x++⟨#[H]⟩,_,_,rfl,by rw[bA,fv,f],λq k=>?_,rfl⟩⟩;rw[rV]at k;rcases F3.mp k with k|k;exact u q k;have:q=H:=by simpa using k
 rw[this];exact t.1
theorem DH(T:Tops P w K mg base):v8 P w K mg base 1 "_law_names" vO ka:=v8.byD (N:=["_law_number","_law_many","_law_letters","_law_size","_law_at","_law_base","_law_j","_law_turned","_law_names_here"]) T.b T.f_names (by walk_at"sc") Bf (by walk_at"dv") CO
def mj:A0:=λds M R=>∃(c:Int),ds=[.int c]/\∀ps a,HouseF ps a->R (ax ps a) M
theorem Bh:cN mj vQ:=by rintro ds M R ⟨c,rfl,_⟩;rfl
theorem EB:G7 4 (ax ps rs):=by refine .tup<|.cons (.tup<|oA.of λd h=>?_)<|.cons (.tup<|oA.of λd h=>?_) .nil;obtain⟨p,_,rfl⟩:=z6.mp h;exact .tup<|.cons (.str _)<|.cons (.int _) .nil;obtain⟨p,_,rfl⟩:=z6.mp h;refine .tup<|.cons (.str _)<|.cons (.tup<|oA.of λd h=>?_) .nil;obtain⟨q,_,rfl⟩:=z6.mp h;exact .str _
theorem BO{a b c d:Int}{k:Nat}(h:k<4)(f:vc 0 a)(e:vc 0 b)(g:vc 0 c)(i:vc 0 d):∃z:Int,atI [D.int a,.int b,.int c,.int d] (0+(k:Int))=b7 (.int z)/\vc 0 z:=by
 rw[Os]
 match k,h with
 | 0,_=>exact⟨a,aq (j:=0) rfl,f⟩
 | 1,_=>exact⟨b,aq (j:=1) rfl,e⟩
 | 2,_=>exact⟨c,aq (j:=2) rfl,g⟩
 | 3,_=>exact⟨d,aq (j:=3) rfl,i⟩
def pI:u4:=bi<|eZ<|aa (u5 iS<|aa (ab 4) af)<|aa (u5 iS<|aa (E7 1 [9,5] (bW<|aa (u5 ii<|aa (ab 5) af) af) (ag 0) oj<|eZ<|aa (t7 v5 (ab 1)<|ab 0)<|aa (t7 v5 (ab 2)<|ab 0) af) af) af
def ic:u4:=aB (bb (u5 ka<|aa (t7 aN (ab 1)<|dC<|.int 262144)<|aa (u5 ii<|aa (ab 5) af) af) 9)<|pI
def mT:u4:=gX<|MV bR (ab 5)<|aa (u5 iS<|aa (ab 8) af) af
def sY:u4:=aB (B8 (au<|t7 C4 (ab 8)<|jV af) (bb (jV<|aa (t7 v5 (ab 3)<|t7 cA (ab 7)<|ab 2) af) 8) aT)<|mT
def sZ:u4:=aB (iV 1 [3,7] (bW<|aa (ab 2) af) (ag 0) (au<|t7 C4 (t7 cA (t7 aN (ab 2)<|t7 JE (dC<|.int 1)<|ab 0)<|dC<|.int 2)<|dC<|.int 1) (t7 v5 (ab 1)<|ab 0) 8)<|sY
def tj:u4:=aB (lW (bW<|aa (t7 aM (dC<|.int 1)<|t7 cA (ab 1)<|dC<|.int 4) af) (ag 6)<|aB (bb (t7 cA (t7 aN (ab 1)<|t7 v5 (jV<|aa (dC<|.int 4)<|aa (dC<|.int 64)<|aa (dC<|.int 1024)<|aa (dC<|.int 16384) af)<|ab 6)<|dC<|.int 16) 7)<|sZ)<|ic
def mU:u4:=aB (bb (jV af) 5)<|tj
def tp:u4:=aB (bb (u5 oz<|aa (t7 aN (ab 0)<|dC<|.int 5)<|aa (dC<|.int 2) af) 1)<|mU
def tq:u4:=aB (iV 1 [3,1] (bW<|aa (ab 2) af) (ag 0) oj (eZ<|aa (t7 v5 (ab 1)<|ab 0)<|aa (t7 aM (dC<|.int 1)<|t7 cA (t7 aN (ab 2)<|t7 v5 (jV<|aa (dC<|.int 4)<|aa (dC<|.int 12)<|aa (dC<|.int 36)<|aa (dC<|.int 108) af)<|ab 0)<|dC<|.int 3) af) 4)<|tp
def tw:u4:=aB (bb (u5 ka<|aa (t7 aN (ab 1)<|dC<|.int 324)<|aa (ab 2) af) 3)<|tq
def tx:u4:=aB (bb (t7 aM (dC<|.int 1)<|t7 cA (ab 1)<|dC<|.int 4) 2)<|tw
def zY:u4:=aB (bb (u5 oz<|aa (ab 0)<|aa (dC<|.int 1) af) 1)<|tx
theorem EC{M B:u8}{R:DK}{f:Nat}{ps:List (c8×Int)}{s:List (List c8)}{ns:List c8}{o:Int}{J:Nat}{L N P T V W:Option D}(G:M <+: B)(E:ak B J (ps.map iH))(k:ak B f (s.map λm=>.tup<|m.map .str))(F:∀m∈s,m.Sublist ns)(X:ns.length<=4)(U:1<=s.length)(Q:s.length<=4)(w:∀rs,1<=rs.length/\rs.length<=4->(rs.map (·.1)).Nodup->(∀r∈rs,r.2.Sublist ns)->HouseF ps rs)(h:∀ps rs,HouseF ps rs->R (ax ps rs) M):ic (EE M R) [L,b7<|.int o,N,P,b7<|.ref J,b7<|.ref f,T,V,W,b8] B:=by
 simp only[ic];walk_at"dl";refine⟨⟨by decide,by decide⟩,_,k,?_⟩;rw[v4];refine⟨_,s.length,rfl,U,Q,λxs Z Y j=>?_⟩;have p:M <+: B++[MO.lst<|xs.map .str]:=G.trans bt;have c:=E.more [MO.lst<|xs.map D.str];have l:=k.more [MO.lst<|xs.map D.str];have e:ak (B++[MO.lst<|xs.map .str]) B.length (xs.map .str):=ad;generalize B++[MO.lst<|xs.map .str]=H at p c l e;generalize B.length=I at e;simp only[pI];walk_at"dl";refine⟨_,c,_,l,⟨by lia,by rw[v4];lia⟩,?_⟩;rw[v4,J7];refine iw (λys acc S M1=>∃(rs:List (c8×List c8)) (a:Option D) (i:Nat),acc=rs.map fi/\rs.length=i/\(rs.map (·.1)=xs.take i/\∀r∈rs,r.2.Sublist ns)/\ys=(iG 0 s.length).drop i/\i<=s.length/\M1=H/\S=[a,b7<|.ref I,b7<|.ref f]) ?_ ?_ _ _ _ _ ⟨[],_,0,rfl,rfl,⟨rfl,λ_ z=>nomatch z⟩,by simp,A9 _,rfl,rfl⟩;rintro acc S M1 ⟨rs,a,i,rfl,n,⟨x,g⟩,d,C,rfl,rfl⟩;have hi:i=s.length:=by have:=t4 F8 d;rw[C9,L8,aW]at this;lia
 refine⟨trivial,_,ad,ah (by lia),aY.keep (h ps rs<|w rs ⟨by lia,by lia⟩ (by rw[x];exact j.sublist<|Qw _ _) g) (bT 4 _ EB)<|p.trans bt⟩;rintro y ys acc S M1 ⟨rs,a,i,rfl,n,⟨x,g⟩,d,C,rfl,rfl⟩ K A;have hi:i<s.length:=by have:=t4 F8 d;rw[D4,L8,aW]at this;lia
 have O:(iG 0 s.length)[i]?=b7 y/\ys=(iG 0 s.length).drop (i+1):=by
  have t:i<(iG 0 s.length).length:=by rw[aW];exact hi
  rw[O9 t]at d;injection d with h1 h2;exact⟨by rw[w9 t,h1],h2⟩
 obtain⟨_,rfl⟩:=cf.mp O.1;refine⟨trivial,?_⟩;walk_at"dl";have v:atI (xs.map D.str) (0+(i:Int))=b7 (.str<|xs[i]'(by lia)):=by rw[Os];exact aq<|by rw[C6,w9<|by lia];rfl
 have u:atI (s.map λm=>D.tup<|m.map .str) (0+(i:Int))=b7 (.tup<|(s[i]).map .str):=by rw[Os];exact aq<|by rw[C6,w9 hi];rfl
 refine⟨_,e,?_⟩;rw[v];refine⟨_,l,?_⟩;rw[u];refine⟨ah (by lia),by rw[v4];exact ar (by lia),A _ _ _ ⟨rs++[(xs[i]'(by lia),s[i])],_,i+1,by simp[fi],by simp[n],⟨by rw[Fn,x,M7,w9<|by lia];rfl,λq b=>?_⟩,O.2,hi,rfl,rfl⟩⟩;rcases F3.mp b with b|b;exact g q b;rw[K0.mp b];exact F _<|Nn _
theorem Ib{M B:u8}{R:DK}{many:Nat}{ps:List (c8×Int)}{ns:List c8}{f:Int}{A J:Nat}{y0:Option D}(pB:M <+: B)(l3:ak B A (ns.map .str))(l4:ak B J (ps.map iH))(nl:ns.length=many)(n1:1<=many)(n4:many<=4)(hf:∀rs,1<=rs.length/\rs.length<=4->(rs.map (·.1)).Nodup->(∀r∈rs,r.2.Sublist ns)->HouseF ps rs)(h:∀ps rs,HouseF ps rs->R (ax ps rs) M):mU (EE M R) [y0,b7<|.int f,b7<|.int many,b7<|.ref A,b7<|.ref J,b8,b8,b8,b8,b8] B:=by
 have b3:=ui l3;have b4:=ui l4;simp only[mU,tj];walk_at"dl";have s0:=ci (a:=f) (b:=4) (by decide);have s1:=cC (a:=f) (b:=4) (by decide);refine⟨A9 _,by decide,⟨by lia,by lia⟩,?_⟩;obtain⟨rm,ai⟩:∃n:Nat,(n:Int)=1+f % 4:=⟨(1+f % 4).toNat,by lia⟩
 rw[<-ai,J7];refine aX (λi S M'=>∃(v:List (List c8)) (a b d:Option D),v.length=i/\(∀m∈v,m.Sublist ns)/\M <+: M'/\ak M' A (ns.map .str)/\ak M' J (ps.map iH)/\M'[B.length]?=b7 (.lst<|v.map λm=>.tup<|m.map .str)/\S=[y0,b7<|.int f,b7<|.int many,b7<|.ref A,b7<|.ref J,b7<|.ref B.length,a,b,d,b8]) ?_ ?_ ⟨[],_,_,_,rfl,(λ_ z=>nomatch z),pB.trans bt,l3.more _,l4.more _,am,rfl⟩;rintro S M' ⟨v,a,b,d,ml,mm,pM,k3,k4,W,rfl⟩;rw[aW]at ml;exact⟨trivial,EC pM k4 (.inl W) mm (by lia) (by lia) (by lia) hf h⟩;rintro i y S M' hy ⟨v,a,b,d,ml,mm,pM,k3,k4,W,rfl⟩ G hG;obtain⟨hi,rfl⟩:=cf.mp hy;have bM:=aA W;refine⟨trivial,?_⟩;walk_at"dl";obtain⟨z,ez,hz⟩:=BO (a:=4) (b:=64) (c:=1024) (d:=16384) (k:=i) (by lia) ⟨by decide,by decide⟩ ⟨by decide,by decide⟩ ⟨by decide,by decide⟩ ⟨by decide,by decide⟩;refine⟨ah (by lia),_,ad,?_⟩;rw[ez];refine⟨hz,by decide,?_⟩;have b0:=ci (a:=f / z) (b:=16) (by decide);generalize f / z % 16=s at b0;have U:M <+: M'++[MO.lst [D.int 4,D.int 64,D.int 1024,D.int 16384]]:=pM.trans bt;have q:=k3.more [MO.lst [D.int 4,D.int 64,D.int 1024,D.int 16384]];have P:=k4.more [MO.lst [D.int 4,D.int 64,D.int 1024,D.int 16384]];have F:=ac (a:=MO.lst [D.int 4,D.int 64,D.int 1024,D.int 16384]) W;generalize M'++[MO.lst [D.int 4,D.int 64,D.int 1024,D.int 16384]]=M1 at U q P F;simp only[sZ];walk_at"dl";refine⟨⟨by lia,by lia⟩,?_⟩;have E:∀(xs:List c8) (V:Nat) (M2:u8),xs.Sublist ns->M <+: M2->ak M2 A (ns.map .str)->ak M2 J (ps.map iH)->M2[B.length]?=b7 (.lst<|v.map λm=>.tup<|m.map .str)->ak M2 V (xs.map .str) -> mT ⟨C1 (B++[MO.lst []]) G,aY M R,λS M'=>ic (EE M R) S M',C1 (B++[MO.lst []]) G⟩ [y0,b7<|.int f,b7<|.int many,b7<|.ref A,b7<|.ref J,b7<|.ref B.length,b7<|.int<|0+(i:Int),b7<|.int s,b7<|.ref V,b8] M2:=λxs V M2 x4 p2 aj al g an=>by simp only[mT];walk_at"dl";refine⟨⟨_,.inl g⟩,_,an,_,g,by rw[v4];exact ar (by lia),C1.now<|hG _ _ ⟨v++[xs],_,_,_,by simp[ml],λm I=>?_,?_,AV (by lia) aj,AV (by lia) al,?_,rfl⟩⟩;rcases F3.mp I with I|I;exact mm m I;rw[K0.mp I];exact x4;obtain⟨L,rfl⟩:=pB;obtain⟨L2,rfl⟩:=p2;rw[Rr _ _<|by simp];exact MM _ _;rw[bP g];simp
 rw[J7];refine iw (λys acc S M2=>∃(xs:List c8) (a:Option D) (X:Nat),acc=xs.map .str/\xs.Sublist (ns.take X)/\ys=(iG 0 many).drop X/\X<=many/\M2=M1/\S=[a,b7<|.ref A,b7<|.int s]) ?_ ?_ _ _ _ _ ⟨[],_,0,rfl,List.nil_sublist _,rfl,A9 _,rfl,rfl⟩;rintro acc S M2 ⟨xs,a2,X,rfl,T,_,_,rfl,rfl⟩;have T:=T.trans<|Qw _ _;refine⟨trivial,?_⟩;simp only[sY];walk_at"dl";have O:=q.more [MO.lst<|xs.map D.str];have u:=P.more [MO.lst<|xs.map D.str];have l:=ac (a:=MO.lst<|xs.map D.str) F;have w:M <+: M2++[MO.lst<|xs.map D.str]:=U.trans bt;have Y:ak (M2++[MO.lst<|xs.map D.str]) M2.length (xs.map .str):=ad;generalize M2++[MO.lst<|xs.map D.str]=M3 at O u l w Y;generalize M2.length=V at Y;obtain⟨as,C⟩:=qU Y λx N=>by obtain⟨i,_,rfl⟩:=z6.mp N;exact ap
 refine⟨A9 _,as,?_⟩;rw[C];have t:=O.more [MO.lst []];cases (xs.map D.str).isEmpty with
 |true =>
  have Q:∃x:c8,x∈ns/\atI (ns.map D.str) (s % (many:Int))=b7 (.str x):=by obtain⟨d,hd,e⟩:=jZ (xs:=ns.map D.str) (i:=s) (by rw[v4];lia);rw[v4,nl]at e;obtain⟨x,N,rfl⟩:=z6.mp hd;exact⟨x,N,e⟩
  obtain⟨x,N,Q⟩:=Q;refine cQ ⟨by lia,_,t,?_⟩;rw[Q];refine⟨ah (by lia),E [x] _ _ (List.singleton_sublist.mpr N) ((w.trans bt).trans bt) (t.more _) ((u.more _).more _) (ac<|ac l) ad⟩
 |false=>exact cD<|E xs V _ T (w.trans bt) t (u.more _) (ac l)<|Y.more _
 rintro y' ys acc S M2 ⟨xs,a2,j,rfl,T,o,jm,rfl,rfl⟩ K hK;have Z:j<many:=by have:=t4 F8 o;rw[D4,L8,aW]at this;lia
 have p:(iG 0 many)[j]?=b7 y'/\ys=(iG 0 many).drop (j+1):=by
  have H:j<(iG 0 many).length:=by rw[aW];exact Z
  rw[O9 H]at o;injection o with h1 h2;exact⟨by rw[w9 H,h1],h2⟩
 obtain⟨_,rfl⟩:=cf.mp p.1;have et:ns.take (j+1)=ns.take j++[ns[j]'(by lia)]:=by rw[M7,w9<|by lia];rfl
 have xl:xs.length<=4:=by have:=T.length_le;rw[F6]at this;lia
 refine⟨trivial,?_⟩;walk_at"dl";have Q:atI (ns.map D.str) (0+(j:Int))=b7 (.str<|ns[j]'(by lia)):=by rw[Os];exact aq<|by rw[C6,w9<|by lia];rfl
 have pw:vc s (1*2 ^ (0+(j:Int)).toNat):=by
  rw[Os,J7];have:j=0\/j=1\/j=2\/j=3:=by lia
  rcases this with rfl|rfl|rfl|rfl<;>exact⟨by decide,by decide⟩
 refine⟨⟨by lia,by lia,by decide⟩,pw,by decide,⟨aH,aH⟩,?_⟩;split;refine⟨_,q,?_⟩;rw[Q];exact⟨by rw[v4];exact ar (by lia),hK _ _ _ ⟨xs++[_],_,j+1,by simp;rfl,by rw[et];exact T.append<|Qs _,p.2,Z,rfl,rfl⟩⟩;exact hK _ _ _ ⟨xs,_,j+1,rfl,by rw[et];exact T.trans<|List.sublist_append_left _ _,p.2,Z,rfl,rfl⟩
theorem CQ:A8 mj 10 zY:=by
 rintro ds M R ⟨c,rfl,h⟩;simp only[zY];walk_at"dl";refine⟨c,1,rfl,⟨by decide,by decide⟩,λj=>?_⟩;simp only[tx];walk_at"dl";have V:=ci (a:=j) (b:=4) (by decide);have L:=cC (a:=j) (b:=4) (by decide);refine⟨by decide,?_⟩;obtain⟨many,u⟩:∃n:Nat,(n:Int)=1+j % 4:=⟨(1+j % 4).toNat,by lia⟩
 rw[<-u];simp only[tw];walk_at"dl";refine⟨⟨by decide,by decide⟩,_,many,rfl,by lia,by lia,λns o E m=>?_⟩;have l:ak (M++[MO.lst<|ns.map .str]) M.length (ns.map .str):=ad;have C:M <+: M++[MO.lst<|ns.map D.str]:=bt;generalize M++[MO.lst<|ns.map .str]=B at l C;generalize M.length=F at l;simp only[tq];walk_at"dl";refine⟨⟨by lia,by lia⟩,?_⟩;rw[J7];refine iw (λys acc S M1=>∃(ps:List (c8×Int)) (a:Option D) (i:Nat),acc=ps.map iH/\ps.length=i/\ps.map (·.1)=ns.take i/\(∀p∈ps,(1<=p.2/\p.2<=3)/\p.1.length<=8/\eX p.1)/\ys=(iG 0 many).drop i/\i<=many/\B <+: M1/\S=[a,b7<|.ref F,b7<|.int j]) ?_ ?_ _ _ _ _ ⟨[],_,0,rfl,rfl,rfl,(λ_ z=>nomatch z),by simp,A9 _,List.prefix_refl _,rfl⟩;rintro acc S M1 ⟨ps,a,i,rfl,r,g,hp,f,x,pM,rfl⟩;have hi:i=many:=by have:=t4 F8 f;rw[C9,L8,aW]at this;lia
 refine⟨trivial,?_⟩;simp only[tp];walk_at"dl";refine⟨⟨by decide,by decide⟩,_,2,rfl,⟨by decide,by decide⟩,λI=>?_⟩;exact Ib ((C.trans pM).trans bt) ((cj pM l).more _) ad o (by lia) (by lia) (λJ v H G=>⟨⟨by lia,by lia⟩,λp e=>(hp p e).1,λp e=>(hp p e).2.1,v,by rw[g];exact m.sublist<|Qw _ _,H,λq e=>by rw[g,hi,<-o,MT];exact G q e,λp e=>(hp p e).2.2⟩) h;rintro y ys acc S M1 ⟨ps,a,i,rfl,r,g,hp,f,x,pM,rfl⟩ K A;have hi:i<many:=by have:=t4 F8 f;rw[D4,L8,aW]at this;lia
 have O:(iG 0 many)[i]?=b7 y/\ys=(iG 0 many).drop (i+1):=by
  have t:i<(iG 0 many).length:=by rw[aW];exact hi
  rw[O9 t]at f;injection f with h1 h2;exact⟨by rw[w9 t,h1],h2⟩
 obtain⟨_,rfl⟩:=cf.mp O.1;refine⟨trivial,?_⟩;walk_at"dl";have Q:atI (ns.map D.str) (0+(i:Int))=b7 (.str<|ns[i]'(by lia)):=by rw[Os];exact aq<|by rw[C6,w9<|by lia];rfl
 obtain⟨z,s,w⟩:=BO (a:=4) (b:=12) (c:=36) (d:=108) (k:=i) (by lia) ⟨by decide,by decide⟩ ⟨by decide,by decide⟩ ⟨by decide,by decide⟩ ⟨by decide,by decide⟩;refine⟨_,cj pM l,?_⟩;rw[Q];refine⟨ah (by lia),_,ad,?_⟩;rw[s];have Z:=ci (a:=j / z) (b:=3) (by decide);have N:=cC (a:=j / z) (b:=3) (by decide);refine⟨w,by decide,ah (by lia),by rw[v4];exact ar (by lia),A _ _ _ ⟨ps++[(ns[i]'(by lia),1+j / z % 3)],_,i+1,by simp[iH],by simp[r],by rw[Fn,g,M7,w9<|by lia];rfl,λp e=>?_,O.2,hi,pM.trans bt,rfl⟩⟩;rcases F3.mp e with e|e;exact hp p e;rw[K0.mp e];exact⟨⟨by dsimp only;lia,by dsimp only;lia⟩,E _<|Nn _⟩
theorem DJ(T:Tops P w K mg base):v8 P w K mg base 3 "_law_house" vQ mj:=v8.byD (N:=["_law_cell","_law_number","_law_many","_law_names_here","_law_people","_law_rooms","_law_k","_law_bits","_law_members","_law_called"]) T.b T.f_house (by walk_at"sc") Bh (by have:=GZ T;have:=DH T;walk_at"dv") CQ
def mn:A0:=λds M R=>∃(ps:List (c8×Int)) (r:List D),ds=[.tup<|.tup (ps.map iH)::r]/\RV ps/\R (.ref M.length) (M++[.lst<|bh ps])
theorem Bi:cN mn vR:=by rintro ds M R ⟨ps,r,rfl,_⟩;rfl
def tz:u4:=bi<|ab 1
def tD:u4:=aB (lW (bE<|t7 v5 (ab 0)<|dC<|.int 0) (gR 2<|aI (ag 2)<|aI (ag 3) gU)<|bb (t7 aM (ab 1)<|E7 1 [2] (bW<|aa (ab 3) af) (ag 0) oj<|eZ<|aa (ab 1)<|aa (ab 0) af) 1)<|tz
def zZ:u4:=aB (bb (jV af) 1)<|tD
theorem CS:A8 mn 4 zZ:=by
 rintro ds M R ⟨ps,r,rfl,⟨m,d⟩,h⟩;simp only[zZ,tD];walk_at"dl";refine⟨A9 _,λ_=>?_⟩;have l:∀qs:List (c8×Int),(∀p∈qs,p∈ps)->qs.length<=4->(bh qs).length<=12:=λqs h1 h2=>by have:=qc (ps:=qs) λp hp=>d p<|h1 p hp;lia
 refine jW (λys S M'=>∃qs s a b q L,ps=qs++s/\ys=s.map iH/\M'=M++L/\M.length<=q/\M'[q]?=b7 (.lst<|bh qs)/\S=[b7<|.tup<|.tup (ps.map iH)::r,b7<|.ref q,a,b]) ?_ ?_ _ _ _ ⟨[],ps,_,_,_,[.lst []],rfl,rfl,rfl,v6 _,am,rfl⟩;rintro S M' ⟨qs,s,a,b,q,L,e,c,rfl,f,g,rfl⟩;have:s=[]:=by cases s<;>simp_all
 subst this;rw[Nh]at e;subst e;refine⟨trivial,?_⟩;simp only[tz];walk_at"dl";exact aY.lst h f g ze;rintro x xs S M' ⟨qs,s,a,b,q,L,e,c,rfl,f,g,rfl⟩ G i;cases s with
 |nil=>cases c
 |cons p s =>
  rw[B9]at c;injection c with e1 e2;subst e1;have hp:=d p (by rw[e];simp);refine⟨trivial,?_⟩;unfold iH;walk_at"dl";refine⟨trivial,⟨by lia,by lia⟩,?_⟩;refine bd (λk=>.tup [.str p.1,k]) (λS=>∃a,S=[a,b7<|.str p.1]) trivial _ _ _ (λk n S j=>?_) ⟨_,rfl⟩ ?_ ?_;obtain⟨a,rfl⟩:=j;refine⟨[b7 k,b7<|.str p.1],⟨_,rfl⟩,λY D=>?_⟩;walk_at"dl";exact⟨ah (by lia),D⟩;simp only[C9,aW];exact ah (by lia);have y:ps.length=qs.length+(s.length+1):=by rw[e];simp
  have o:=l qs (λq c=>by rw[e];simp[c]) (by lia);have t:(cT p).length<=3:=by rw[jp];lia
  rw[G2];refine⟨bh qs,cT p,ac g,am,ah (by lia),?_⟩;refine C1.now<|i _ _ ⟨qs++[p],s,_,_,_,L++[.lst<|cT p]++[.lst<|bh qs++cT p],by rw[e];simp,e2,by simp[cT],?_,?_,rfl⟩;simp only[B6,J2];lia;have:bh (qs++[p])=bh qs++cT p:=by simp[bh]
  rw[this];exact am
theorem DM(T:Tops P w K mg base):v8 P w K mg base 1 "_law_hands" vR mn:=v8.byD (N:=["_law_house_here","_law_hands_here","_law_name","_law_many"]) T.b T.f_hands (by walk_at"sc") Bi (by walk_at"dv") CS
def hW:A0:=λds M R=>∃(c:Int) (q:Nat) (xs:List c8),ds=[.int c,.ref q]/\ak M q (xs.map .str)/\1<=xs.length/\xs.length<=1000/\(∀x∈xs,x.length<=8)/\∀x:c8,x.length<=100->R (.str x) M
theorem yW:cN hW qO:=by rintro ds M R ⟨c,q,xs,rfl,_⟩;rfl
def pp:u4:=bi<|ab 4
def pq:u4:=bb (t7 aN (ab 0)<|dC<|.int 3) 0
def pz:u4:=aB (lW (bW<|aa (t7 aM (dC<|.int 1)<|t7 cA (ab 0)<|dC<|.int 8) af) (ag 5)<|aB (bb (t7 aM (ab 4)<|t7 v5 (t7 aM (t7 aM (dC<|.str " !@")<|ab 2)<|dC<|.str "abzAZ09.~")<|t7 cA (t7 aN (ab 0)<|dC<|.int 8)<|t7 aM (dC<|.int 12)<|u5 ii<|aa (ab 2) af) 4)<|pq)<|pp
def pA:u4:=aB (bb (t7 lL (dC<|.str "@")<|t7 cA (ab 3)<|dC<|.int 2) 4)<|pz
def pC:u4:=aB (B8 (au<|t7 NK (ab 3)<|dC<|.int 8) (bi<|t7 v5 (jV<|aa (dC<|.str "hi")<|aa (t7 aM (dC<|.str "@")<|ab 2)<|aa (t7 aM (t7 aM (dC<|.str "x @")<|ab 2)<|dC<|.str "!")<|aa (t7 aM (t7 aM (dC<|.str "@")<|ab 2)<|dC<|.str "b")<|aa (t7 aM (dC<|.str "no @ ")<|ab 2)<|aa (t7 aM (dC<|.str "Hi @A@")<|ab 2)<|aa (ab 2)<|aa (dC<|.str "?") af)<|ab 3) aT)<|pA
def pD:u4:=aB (bb (t7 aN (ab 0)<|dC<|.int 48) 0)<|pC
def pE:u4:=aB (bb (t7 cA (t7 aN (ab 0)<|dC<|.int 4)<|dC<|.int 12) 3)<|pD
def wV:u4:=aB (bb (t7 v5 (ab 1)<|t7 cA (ab 0)<|u5 ii<|aa (ab 1) af) 2)<|pE
theorem zy:A8 hW 6 wV:=by
 rintro ds M R ⟨c,q,xs,rfl,L,H,W,I,h⟩;simp only[wV];walk_at"dl";obtain⟨d,n,g⟩:=jZ (xs:=xs.map D.str) (i:=c) (by rw[v4];exact H);obtain⟨z,p,rfl⟩:=z6.mp n;have z8:=I z p;refine⟨_,L,by rw[v4];lia,_,L,?_⟩;rw[g];simp only[pE,pD];walk_at"dl";have J:=ci (a:=c / 4) (b:=12) (by decide);have K:=cC (a:=c / 4) (b:=12) (by decide);refine⟨⟨by decide,by decide⟩,by decide,⟨by decide,by decide⟩,?_⟩;generalize c / 4 % 12=w at J K;generalize c / 48=r;simp only[pC];walk_at"dl";have o:(u3 "@").length=1:=by decide +kernel
 have s:(u3 "x @").length=3:=by decide +kernel
 have u:(u3 "!").length=1:=by decide +kernel
 have T:(u3 "b").length=1:=by decide +kernel
 have A:(u3 "no @ ").length=5:=by decide +kernel
 have v:(u3 "Hi @A@").length=6:=by decide +kernel
 by_cases f:w<8;rw[dT_ f];refine cQ ⟨by rw[o];exact ah (by lia),by rw[s];exact ah (by lia),by rw[bA,s,u];exact ah (by lia),by rw[o];exact ah (by lia),by rw[bA,o,T];exact ah (by lia),by rw[A];exact ah (by lia),by rw[v];exact ah (by lia),ah (by lia),_,ad,?_⟩;have x:∃y:c8,y.length<=100/\atI [D.str<|u3 "hi",D.str<|u3 "@" ++ z,D.str<|u3 "x @" ++ z++u3 "!",D.str<|u3 "@" ++ z++u3 "b",D.str<|u3 "no @ " ++ z,D.str<|u3 "Hi @A@" ++ z,D.str z,D.str<|u3 "?"] w=b7 (.str y):=by
  have:w=0\/w=1\/w=2\/w=3\/w=4\/w=5\/w=6\/w=7:=by lia
  rcases this with rfl|rfl|rfl|rfl|rfl|rfl|rfl|rfl;exact⟨u3 "hi",by decide +kernel,aq (j:=0) rfl⟩;exact⟨u3 "@" ++ z,by rw[bA];lia,aq (j:=1) rfl⟩;exact⟨u3 "x @" ++ z++u3 "!",by rw[bA,bA];lia,aq (j:=2) rfl⟩;exact⟨u3 "@" ++ z++u3 "b",by rw[bA,bA];lia,aq (j:=3) rfl⟩;exact⟨u3 "no @ " ++ z,by rw[bA];lia,aq (j:=4) rfl⟩;exact⟨u3 "Hi @A@" ++ z,by rw[bA];lia,aq (j:=5) rfl⟩;exact⟨z,by lia,aq (j:=6) rfl⟩;exact⟨u3 "?",by decide +kernel,aq (j:=7) rfl⟩
 obtain⟨y,l,k⟩:=x;rw[k];exact aY.str (h _ l) bt;rw[dF_ f];refine cD ?_;simp only[pA];walk_at"dl";have Z:=ci (a:=w) (b:=2) (by decide);have U:=cC (a:=w) (b:=2) (by decide);have t:(Txt.mul (u3 "@")<|w % 2).length<=1:=by
  have:w % 2=0\/w % 2=1:=by lia
  rcases this with e|e<;>rw[e]<;>decide +kernel
 refine⟨by decide,⟨Z,by lia,by rw[o];exact ah<|by lia⟩,?_⟩;generalize Txt.mul (u3 "@") (w % 2)=V at t;simp only[pz];walk_at"dl";have P:=ci (a:=r) (b:=8) (by decide);have Q:=cC (a:=r) (b:=8) (by decide);refine⟨by decide,⟨by lia,by lia⟩,?_⟩;refine aX (λi S M'=>∃(y:c8) (r':Int) (b:Option D),y.length<=1+i/\M'=M/\S=[b7<|.int r',b7<|.ref q,b7<|.str z,b7<|.int w,b7<|.str y,b]) ?_ ?_ ⟨V,_,_,by lia,rfl,rfl⟩;rintro S M' ⟨y,r',b,l,rfl,rfl⟩;refine⟨trivial,?_⟩;simp only[pp];walk_at"dl";refine aY.now<|h _ ?_;rw[aW]at l;lia;rintro i X S M' O ⟨y,r',b,l,rfl,rfl⟩ G m;obtain⟨hi,rfl⟩:=cf.mp O;refine⟨trivial,?_⟩;simp only[pq];walk_at"dl";have E:(u3 " !@").length=3:=by decide +kernel
 have F:(u3 "abzAZ09.~").length=9:=by decide +kernel
 have C:(u3 " !@" ++ z++u3 "abzAZ09.~").length=12+z.length:=by rw[bA,bA,E,F];lia
 refine⟨by rw[E];exact ah (by lia),by rw[bA,E,F];exact ah (by lia),⟨by decide,by decide⟩,ah (by lia),by lia,ah (by lia),?_⟩;have B:=bx (a:=u3 " !@" ++ z++u3 "abzAZ09.~");obtain⟨N,_,Y⟩:=jZ (xs:=(u3 " !@" ++ z++u3 "abzAZ09.~").cps.toList) (i:=r' / 8) (by lia);rw[<-B,C,show (((12+z.length:Nat)):Int)=12+(z.length:Int) by lia]at Y;rw[Y];exact⟨by rw[fv];exact ah (by lia),⟨by decide,by decide⟩,C1.now<|m _ _ ⟨_,_,_,by rw[bA,fv];lia,rfl,rfl⟩⟩
theorem AI(T:Tops P w K mg base):v8 P w K mg base 1 "_law_saying" qO hW:=v8.byD (N:=["_law_number","_law_names_here","_law_name","_law_way","_law_saying_here","_law_k"]) T.b T.f_saying (by walk_at"sc") yW (by walk_at"dv") zy
def OO(s:List D):Prop:=∀x∈s,∃(t:Int) (z:c8) (k:Int),x=.tup [.int t,.tup [.str z,.int k]]
def oy:A0:=λds M R=>∃(c:Int) (p q:Nat) (s hs:List D),ds=[.int c,.ref p,.ref q]/\ak M p s/\OO s/\s.length<=1000/\ak M q hs/\(∀x∈hs,Hd x)/\1<=hs.length/\hs.length<=1000/\∀(t:Int) (z:c8) (k:Int),R (.tup [.int t,.tup [.str z,.int k]]) M
theorem Eg:cN oy AE:=by rintro ds M R ⟨c,p,q,s,hs,rfl,_⟩;rfl
theorem tI:D3 n (.tup [.int t,.tup [.str z,.int k]]):=bT 2 _ rfl
def qE:u4:=bi<|t7 v5 (ab 1)<|t7 Ja (t7 Ja (u5 ii<|aa (ab 1) af)<|dC<|.int 1)<|t7 cA (t7 aN (ab 0)<|dC<|.int 8)<|u5 ii<|aa (ab 1) af
def FD:u4:=aB (B8 (N4 (au<|t7 C4 (ab 1)<|jV af)<|au<|t7 C4 (t7 cA (ab 0)<|dC<|.int 8)<|dC<|.int 7) (bi<|eZ<|aa (t7 aM (dC<|.int 1)<|t7 cA (t7 aN (ab 0)<|dC<|.int 8)<|dC<|.int 50)<|aa (t7 v5 (ab 2)<|t7 cA (t7 aN (ab 0)<|dC<|.int 400)<|u5 ii<|aa (ab 2) af) af) aT)<|qE
theorem Dd(C:M <+: B)(a:ak B q hs)(e:∀x∈hs,Hd x)(h1:1<=hs.length)(g:hs.length<=1000)(h:∀(t:Int) (z:c8) (k:Int),R (.tup [.int t,.tup [.str z,.int k]]) M):(eZ<|aa (t7 aM (dC<|.int 1)<|t7 cA (t7 aN (ab 0)<|dC<|.int 8)<|dC<|.int 50)<|aa (t7 v5 (ab 2)<|t7 cA (t7 aN (ab 0)<|dC<|.int 400)<|u5 ii<|aa (ab 2) af) af) [b7<|.int c,y1,b7<|.ref q] B (aY M R):=by walk_at"dl";obtain⟨d,b,F⟩:=jZ (xs:=hs) (i:=c / 400) h1;obtain⟨z,k,rfl⟩:=e d b;refine⟨⟨by decide,by decide⟩,by decide,⟨by decide,by decide⟩,_,a,by lia,_,a,?_⟩;rw[F];exact⟨ah (by lia),aY.keep (h _ _ _) tI C⟩
theorem Gg:A8 oy 3 FD:=by
 rintro ds M R ⟨c,p,q,s,hs,rfl,hp,f,C,v,r,h1,u,h⟩;have e:FD=aB (B8 (N4 (au<|t7 C4 (ab 1)<|jV af)<|au<|t7 C4 (t7 cA (ab 0)<|dC<|.int 8)<|dC<|.int 7) (bi<|eZ<|aa (t7 aM (dC<|.int 1)<|t7 cA (t7 aN (ab 0)<|dC<|.int 8)<|dC<|.int 50)<|aa (t7 v5 (ab 2)<|t7 cA (t7 aN (ab 0)<|dC<|.int 400)<|u5 ii<|aa (ab 2) af) af) aT) qE:=rfl;have n:=Dd (M:=M) (B:=M++[MO.lst []]) (R:=R) (c:=c) (q:=q) (hs:=hs) (y1:=b7<|.ref p) bt (v.more _) r h1 u h;rw[e];generalize (eZ<|aa (t7 aM (dC<|.int 1)<|t7 cA (t7 aN (ab 0)<|dC<|.int 8)<|dC<|.int 50)<|aa (t7 v5 (ab 2)<|t7 cA (t7 aN (ab 0)<|dC<|.int 400)<|u5 ii<|aa (ab 2) af) af)=tn at n;walk_at"dl";obtain⟨o,l⟩:=qU hp λx y=>by obtain⟨t,z,k,rfl⟩:=f x y;rfl
 refine⟨A9 _,o,?_⟩;rw[l];cases w:s.isEmpty with
 |true=>exact cQ n
 |false =>
  refine cD ⟨by decide,⟨aH,aH⟩,?_⟩;cases u7 (M++[MO.lst []]) w4 (.int<|c % 8) (.int 7) with
  |true=>exact cQ n
  |false =>
   refine cD ?_;have A:1<=s.length:=by cases s<;>simp_all
   simp only[qE];walk_at"dl";have d:=hp.more [MO.lst []];have E:=ci (a:=c / 8) (b:=s.length) (by lia);have U:=cC (a:=c / 8) (b:=s.length) (by lia);refine⟨_,d,⟨by decide,by decide⟩,_,d,by lia,_,d,?_⟩;obtain⟨j,L,g,_⟩:=Cy (xs:=s) (i:=(s.length:Int)-1-c / 8 % (s.length:Int)) (by lia) (by lia);rw[g];obtain⟨t,z,k,m⟩:=f _<|Nn L;dsimp only;rw[m];exact aY.keep (h _ _ _) tI bt
theorem AH(T:Tops P w K mg base):v8 P w K mg base 1 "_law_told" AE oy:=v8.byD (N:=["_law_number","_law_says","_law_hands_here"]) T.b T.f_told (by walk_at"sc") Eg (by walk_at"dv") Gg
def hV:A0:=λds M R=>∃(c:Int) (q n:Nat) (hs:List D) (t:List (D×D)),ds=[.int c,.ref q,.ref n]/\ak M q hs/\(∀x∈hs,Hd x)/\hs.Nodup/\hs.length<=12/\M[n]?=b7 (.dkt t)/\(∀x∈hs,∃i:Int,aG t x=b7 (.int i))/\∀vs:List D,oA 3 vs->VecK vs->R (.tup vs) M
theorem yV:cN hV qN:=by rintro ds M R ⟨c,q,n,hs,t,rfl,_⟩;rfl
theorem ma{k:Nat}{vs:List (D×Int)}(h:∀p∈vs,Hd p.1):oA (k+2) (vs.map λp=>D.tup [p.1,.int p.2]):=oA.of λd a=>by obtain⟨p,hp,rfl⟩:=z6.mp a;exact .tup<|.cons (Ig<|h p hp)<|.cons (.int _) .nil
def oX:u4:=bi<|u5 iS<|aa (ab 3) af
def oY:u4:=bb (t7 aN (ab 0)<|dC<|.int 5) 0
def oZ:u4:=aB (lW (bE<|ab 1) (ag 4)<|aB (B8 (au<|t7 C4 (t7 cA (ab 0)<|dC<|.int 2)<|dC<|.int 1) (gX<|MV bR (ab 3)<|aa (eZ<|aa (ab 4)<|aa (t7 aM (dC<|.int 1)<|t7 cA (t7 aN (ab 0)<|dC<|.int 2)<|dC<|.int 6) af) af) aT)<|oY)<|oX
def pc:u4:=aB (bb (jV af) 3)<|oZ
def pe:u4:=aB (bb (t7 aN (ab 0)<|dC<|.int 2) 0)<|pc
def wU:u4:=aB (B8 (au<|t7 C4 (t7 cA (ab 0)<|dC<|.int 2)<|dC<|.int 0) (bi<|u5 iS<|aa (E7 1 [2] (bE<|ab 1) (ag 0) (au<|t7 N1 (gf (ab 1)<|ab 0)<|dC<|.int 0)<|eZ<|aa (ab 0)<|aa (gf (ab 1)<|ab 0) af) af) aT)<|pe
theorem zx:A8 hV 5 wU:=by
 rintro ds M R ⟨c,q,n,hs,t,rfl,b,g,d,u,j,o,h⟩;simp only[wU];walk_at"dl";refine⟨by decide,⟨aH,aH⟩,?_⟩;cases u7 M w4 (.int<|c % 2) (.int 0) with
 |true=>refine cQ ⟨_,b,λ_=>?_⟩;refine iw (λys acc S M'=>∃(vs:List (D×Int)) (a:Option D),acc=vs.map (λp=>.tup [p.1,.int p.2])/\(∀p∈vs,Hd p.1)/\vs.length+ys.length<=hs.length/\(∀y∈ys,y∈hs)/\(vs.map (·.1)++ys).Sublist hs/\M'=M/\S=[a,b7<|.ref n]) ?_ ?_ _ _ _ _ ⟨[],_,rfl,(λ_ z=>nomatch z),by simp,λ_ z=>z,Qs _,rfl,rfl⟩;rintro acc S M' ⟨vs,a,rfl,v,l,_,T,rfl,rfl⟩;exact⟨b,_,ad,aY.keep (h _ (ma v) ⟨vs,rfl,v,by simp at l;lia,by rw[Nh]at T;exact T.nodup d⟩) (bT 4 _<|.tup<|ma v) bt⟩;rintro y ys acc S M' ⟨vs,a,rfl,v,l,O,T,rfl,rfl⟩ K A;refine⟨b,?_⟩;obtain⟨i,hi⟩:=o y (O y<|by simp);obtain⟨z,k,rfl⟩:=g y (O y<|by simp);rw[D4]at l;walk_at"dl";refine⟨t,_,j,rfl,hi,?_⟩;walk_at"dl";split;refine⟨t,_,j,rfl,hi,ah (by lia),by rw[v4];exact ar (by lia),A _ _ _ ⟨vs++[(.tup [.str z,.int k],i)],_,by simp,λp hp=>?_,by rw[B6,J2];lia,λX h'=>O X<|C7 _ h',by rw[Fn,J6];exact T,rfl,rfl⟩⟩;rcases F3.mp hp with hp|hp;exact v p hp;rw[K0.mp hp];exact⟨_,_,rfl⟩;exact A _ _ _ ⟨vs,_,rfl,v,by lia,λX h'=>O X<|C7 _ h',((Qs _).append<|List.sublist_cons_self _ _).trans T,rfl,rfl⟩
 |false =>
  refine cD ?_;simp only[pe,pc,oZ];walk_at"dl";refine⟨⟨by decide,by decide⟩,A9 _,_,b.more _,λ_=>?_⟩;refine aX (λi S M'=>∃(vs:List (D×Int)) (r:Int) (a:Option D),vs.length<=i/\(∀p∈vs,Hd p.1)/\(vs.map (·.1)).Sublist (hs.take i)/\M'=M++MO.lst (vs.map λp=>.tup [p.1,.int p.2])::[]/\S=[b7<|.int r,b7<|.ref q,b7<|.ref n,b7<|.ref M.length,a]) ?_ ?_ ⟨[],_,_,v6 _,(λ_ z=>nomatch z),Qs _,rfl,rfl⟩;rintro S M' ⟨vs,r,a,l,v,T,rfl,rfl⟩;rw[MT]at T;refine⟨b.more _,?_⟩;simp only[oX];walk_at"dl";exact⟨_,.inl ck,aY.keep (h _ (ma v) ⟨vs,rfl,v,by lia,T.nodup d⟩) (bT 4 _<|.tup<|ma v) GK⟩;rintro i y S M' O ⟨vs,r,a,l,v,T,rfl,rfl⟩ G e;have m:hs.take (i+1)=hs.take i++[y]:=by rw[M7,O];rfl
  rw[m]at e;have s:=(z9.mp O).1;have f:=g y<|E6 O;refine⟨b.more _,?_⟩;simp only[oY];walk_at"dl";refine⟨by decide,⟨aH,aH⟩,?_⟩;split;refine⟨⟨_,.inl ck⟩,⟨by decide,by decide⟩,by decide,ah (by lia),_,ck,by rw[v4];exact ar (by lia),⟨by decide,by decide⟩,C1.now<|e _ _ ⟨vs++[(y,1+r / 2 % 6)],_,_,by rw[B6,J2];lia,λp hp=>?_,by rw[Fn];exact T.append<|Qs _,by rw[nj];simp,rfl⟩⟩;rcases F3.mp hp with hp|hp;exact v p hp;rw[K0.mp hp];exact f;exact⟨⟨by decide,by decide⟩,C1.now<|e _ _ ⟨vs,_,_,by lia,v,T.trans<|List.sublist_append_left _ _,rfl,rfl⟩⟩
theorem AG(T:Tops P w K mg base):v8 P w K mg base 1 "_law_vector" qN hV:=v8.byD (N:=["_law_number","_law_hands_here","_law_counts","_law_found","_law_hand"]) T.b T.f_vector (by walk_at"sc") yV (by walk_at"dv") zx
def rW:A0:=λds M R=>∃(c:Int) (ps:List (c8×Int)) (a:List (c8×List c8)) (p q:Nat) (s hs:List D),ds=[.int c,ax ps a,.ref p,.ref q]/\HouseF ps a/\ak M p s/\OO s/\s.length<=1000/\ak M q hs/\(∀x∈hs,Hd x)/\1<=hs.length/\hs.length<=1000/\∀w:D,Mz w->R w M
theorem Ef:cN rW AD:=by rintro ds M R ⟨c,ps,a,p,q,s,hs,rfl,_⟩;rfl
def wS:u4:=bi<|eZ<|aa (dC<|.str "under")<|aa (u5 oy<|aa (t7 aN (ab 0)<|dC<|.int 3)<|aa (ab 2)<|aa (ab 3) af) af
def wT:u4:=aB (B8 (au<|t7 C4 (t7 cA (ab 0)<|dC<|.int 3)<|dC<|.int 1) (bi<|eZ<|aa (dC<|.str "person")<|aa (t7 v5 (t7 v5 (t7 v5 (ab 1)<|dC<|.int 0)<|t7 cA (t7 aN (ab 0)<|dC<|.int 3)<|u5 ii<|aa (t7 v5 (ab 1)<|dC<|.int 0) af)<|dC<|.int 0) af) aT)<|wS
def FC:u4:=aB (B8 (au<|t7 C4 (t7 cA (ab 0)<|dC<|.int 3)<|dC<|.int 0) (bi<|eZ<|aa (dC<|.str "room")<|aa (t7 v5 (t7 v5 (t7 v5 (ab 1)<|dC<|.int 1)<|t7 cA (t7 aN (ab 0)<|dC<|.int 3)<|u5 ii<|aa (t7 v5 (ab 1)<|dC<|.int 1) af)<|dC<|.int 0) af) aT)<|wT
theorem Gf:A8 rW 4 FC:=by
 rintro ds M R ⟨c,ps,j,p,q,s,hs,rfl,f,hp,o,l,e,b,h1,g,h⟩;simp only[FC,ax];walk_at"dl";refine⟨by decide,⟨aH,aH⟩,?_⟩;cases u7 M w4 (.int<|c % 3) (.int 0) with
 |true=>obtain⟨d,a,F⟩:=jZ (xs:=j.map fi) (i:=c / 3) (by rw[v4];exact f.rl.1);obtain⟨r,_,rfl⟩:=z6.mp a;refine cQ ⟨⟨by decide,by decide⟩,by rw[v4];have:=f.rl.1;lia,?_⟩;rw[F];unfold fi;walk_at"dl";exact⟨ah (by lia),aY.now<|h _<|.inl ⟨_,rfl⟩⟩
 |false =>
  refine cD ?_;simp only[wT];walk_at"dl";refine⟨by decide,⟨aH,aH⟩,?_⟩;cases u7 M w4 (.int<|c % 3) (.int 1) with
  |true=>obtain⟨d,a,F⟩:=jZ (xs:=ps.map iH) (i:=c / 3) (by rw[v4];exact f.len.1);obtain⟨r,_,rfl⟩:=z6.mp a;refine cQ ⟨⟨by decide,by decide⟩,by rw[v4];have:=f.len.1;lia,?_⟩;rw[F];unfold iH;walk_at"dl";exact⟨ah (by lia),aY.now<|h _<|.inr<|.inl ⟨_,rfl⟩⟩
  |false=>refine cD ?_;simp only[wS];walk_at"dl";exact⟨⟨by decide,by decide⟩,_,p,q,s,hs,rfl,hp,o,l,e,b,h1,g,λt z k=>⟨ah (by lia),aY.now<|h _<|.inr<|.inr ⟨_,_,_,rfl⟩⟩⟩
theorem GY(T:Tops P w K mg base):v8 P w K mg base 2 "_law_what" AD rW:=v8.byD (N:=["_law_number","_law_house_here","_law_says","_law_hands_here"]) T.b T.f_what (by walk_at"sc") Ef (by have:=AH T;walk_at"dv") Gf
def yd:A0:=λds M R=>∃(c:Int) (ps:List (c8×Int)) (a:List (c8×List c8)) (p q n:Nat) (s hs:List D) (t:List (D×D)),ds=[.int c,ax ps a,.ref p,.ref q,.ref n]/\HouseF ps a/\ak M p s/\OO s/\s.length<=1000/\ak M q hs/\(∀x∈hs,Hd x)/\1<=hs.length/\hs.length<=12/\hs.Nodup/\M[n]?=b7 (.dkt t)/\(∀x∈hs,∃i:Int,aG t x=b7 (.int i)) /\∀(x:c8) (ds:List D),oA 4 ds->ActK a x ds->R (.tup<|.str x::ds) M
theorem Hm:cN yd GW:=by rintro ds M R ⟨c,ps,a,p,q,n,s,hs,t,rfl,_⟩;rfl
theorem Dg:G7 (n+2) (.tup [.int t,.tup [.str z,.int k]]):=.tup<|.cons (.int _)<|.cons (.tup<|.cons (.str _)<|.cons (.int _) .nil) .nil
def xn:u4:=bi<|t7 v5 (jV<|aa (eZ<|aa (dC<|.str "rung")<|aa (ab 8) af)<|aa (eZ<|aa (dC<|.str "read")<|aa (ab 7)<|aa (u5 hV<|aa (t7 aN (ab 0)<|dC<|.int 4)<|aa (ab 3)<|aa (ab 4) af) af) af)<|t7 cA (t7 aN (ab 0)<|dC<|.int 3)<|dC<|.int 2
def xo:u4:=aB (B8 (au<|t7 C4 (ab 5)<|dC<|.int 14) (bi<|eZ<|aa (dC<|.str "hush")<|aa (u5 rW<|aa (t7 aN (ab 0)<|dC<|.int 3)<|aa (ab 1)<|aa (ab 2)<|aa (ab 3) af)<|aa (t7 N1 (t7 cA (ab 0)<|dC<|.int 3)<|dC<|.int 0) af) aT)<|xn
def xp:u4:=aB (B8 (au<|t7 C4 (ab 5)<|dC<|.int 13) (bi<|eZ<|aa (dC<|.str "seen")<|aa (ab 8) af) aT)<|xo
def xq:u4:=aB (B8 (au<|t7 C4 (ab 5)<|dC<|.int 12) (bi<|eZ<|aa (dC<|.str "read")<|aa (ab 7)<|aa (u5 hV<|aa (t7 aN (ab 0)<|dC<|.int 4)<|aa (ab 3)<|aa (ab 4) af) af) aT)<|xp
def xr:u4:=bi<|eZ<|aa (dC<|.str "like")<|aa (ab 8)<|aa (t7 v5 (ab 10)<|t7 cA (t7 aN (ab 0)<|dC<|.int 2000)<|u5 ii<|aa (ab 10) af)<|aa (t7 N1 (t7 cA (ab 0)<|dC<|.int 4)<|dC<|.int 0) af
def Aa:u4:=aB (B8 (au<|t7 NK (ab 5)<|dC<|.int 12) (aB (bb (t7 aM (ab 6)<|jV<|aa (dC<|.str "good") af) 10)<|xr) aT)<|xq
def Ab:u4:=aB (B8 (au<|t7 C4 (ab 5)<|dC<|.int 8) (bi<|eZ<|aa (dC<|.str "back")<|aa (ab 8) af) aT)<|Aa
def Ac:u4:=aB (B8 (au<|t7 NK (ab 5)<|dC<|.int 8) (bi<|eZ<|aa (dC<|.str "change")<|aa (ab 8)<|aa (u5 hW<|aa (t7 aN (ab 0)<|dC<|.int 12)<|aa (ab 6) af) af) aT)<|Ab
def Ad:u4:=bi<|eZ<|aa (dC<|.str "say")<|aa (ab 7)<|aa (ab 9)<|aa (u5 hW<|aa (t7 aN (ab 0)<|dC<|.int 12)<|aa (ab 6) af) af
def vH:u4:=aB (B8 (au<|t7 NK (ab 5)<|dC<|.int 6) (aB (bb (t7 v5 (jV<|aa (dC .non)<|aa (ab 8)<|aa (ab 8) af)<|t7 cA (t7 aN (ab 0)<|dC<|.int 4)<|dC<|.int 3) 9)<|Ad) aT)<|Ac
def Ae:u4:=aB (bb (u5 oy<|aa (t7 aN (ab 0)<|dC<|.int 4)<|aa (ab 2)<|aa (ab 3) af) 8)<|vH
def Af:u4:=aB (bb (t7 v5 (t7 v5 (t7 v5 (ab 1)<|dC<|.int 1)<|t7 cA (ab 0)<|u5 ii<|aa (t7 v5 (ab 1)<|dC<|.int 1) af)<|dC<|.int 0) 7)<|Ae
def Ag:u4:=aB (iV 2 [] (bE<|t7 v5 (ab 1)<|dC<|.int 0) (gR 2<|aI (ag 0)<|aI (ag 1) gU) oj (ab 0) 6)<|Af
def Ah:u4:=aB (bb (t7 aN (ab 0)<|dC<|.int 16) 0)<|Ag
def Jq:u4:=aB (bb (t7 cA (ab 0)<|dC<|.int 16) 5)<|Ah
theorem gZ(C:M <+: B)(h:∀(x:c8) (ds:List D),oA 4 ds->ActK rs x ds->R (.tup<|.str x::ds) M)(d:oA 4 ds)(a:ActK rs x ds):aY M R (.tup<|.str x::ds) B:=aY.keep (h x ds d a) (bT 5 _<|.tup<|.cons (.str _) d) C
theorem act_5{M B:u8}{R:DK}{c e:Int}{ps:List (c8×Int)}{rs:List (c8×List c8)}{p q n E:Nat}{s hs:List D}{f:List (D×D)}{m:c8}{t:Int}{z:c8}{k:Int}{ns:List c8}(C:M <+: B)(hf:HouseF ps rs)(hp:ak B p s)(so:OO s)(sl:s.length<=1000)(H:ak B q hs)(G:∀x∈hs,Hd x)(h1:1<=hs.length)(O:hs.length<=12)(l:hs.Nodup)(P:B[n]?=b7 (.dkt f))(N:∀x∈hs,∃i:Int,aG f x=b7 (.int i))(F:B[E]?=b7 (.lst<|ns.map .str))(U:1<=ns.length)(n4:ns.length<=4)(V:∀x∈ns,x.length<=8)(I:m∈rs.map (·.1))(h:∀(x:c8) (ds:List D),oA 4 ds->ActK rs x ds->R (.tup<|.str x::ds) M):vH (EE M R) [b7<|.int c,b7<|ax ps rs,b7<|.ref p,b7<|.ref q,b7<|.ref n,b7<|.int e,b7<|.ref E,b7<|.str m,b7<|.tup [.int t,.tup [.str z,.int k]],b8,b8] B:=by
 have sp:∀{j:Nat},G7 (j+2) (.tup [.int t,.tup [.str z,.int k]]):=Dg;have S:St (.tup [.int t,.tup [.str z,.int k]]):=⟨_,_,_,rfl⟩
 generalize hS:D.tup [.int t,.tup [.str z,.int k]]=st at sp S;simp only[vH];walk_at"dl";by_cases T:e<6;rw[dT_ T];refine cQ ?_;have Z:=ci (a:=c / 4) (b:=3) (by decide);have K:=cC (a:=c / 4) (b:=3) (by decide);refine⟨ah (by lia),⟨by decide,by decide⟩,by decide,_,ad,?_⟩;obtain⟨u,X,pu,hu⟩:∃u,atI [D.non,st,st] (c / 4 % 3)=b7 u/\G7 4 u/\(u=.non\/St u):=by
  generalize c / 4 % 3=v at Z K;have:v=0\/v=1\/v=2:=by lia
  rcases this with rfl|rfl|rfl;exact⟨_,aq (j:=0) rfl,.non,.inl rfl⟩;exact⟨_,aq (j:=1) rfl,sp,.inr S⟩;exact⟨_,aq (j:=2) rfl,sp,.inr S⟩
 rw[X];simp only[Ad];walk_at"dl";exact⟨⟨by decide,by decide⟩,_,E,ns,rfl,.inl<|ac F,U,by lia,V,λx L=>⟨ah (by lia),gZ (C.trans bt) h (.cons (.str _)<|.cons pu<|.cons (.str _) .nil)<|.mkSay I hu L⟩⟩;rw[dF_ T];refine cD ?_;simp only[Ac];walk_at"dl";by_cases Y:e<8;rw[dT_ Y];exact cQ ⟨⟨by decide,by decide⟩,_,E,ns,rfl,.inl F,U,by lia,V,λx L=>⟨ah (by lia),gZ C h (.cons sp<|.cons (.str _) .nil)<|.mkChange S L⟩⟩;rw[dF_ Y];refine cD ?_;simp only[Ab];walk_at"dl";refine⟨⟨aH,aH⟩,?_⟩;split;exact⟨ah (by lia),gZ C h (.cons sp .nil)<|.mkBack S⟩;simp only[Aa];walk_at"dl";by_cases o:e<12;rw[dT_ o];have J:(ns.map D.str++[D.str<|u3 "good"]).length=ns.length+1:=by simp
 refine cQ ⟨ah (by lia),_,_,ac F,am,by rw[<-B6,J];exact ah (by lia),?_⟩;simp only[xr];walk_at"dl";obtain⟨d,g,W⟩:=jZ (xs:=ns.map D.str++[D.str<|u3 "good"]) (i:=c / 2000) (by lia);obtain⟨y,rfl⟩:∃y:c8,d=.str y:=by rcases F3.mp g with g|g;obtain⟨y,_,rfl⟩:=z6.mp g;exact⟨y,rfl⟩;exact⟨_,K0.mp g⟩
 refine⟨⟨by decide,by decide⟩,_,ad,by lia,_,ad,?_⟩;rw[W];exact⟨by decide,ah (by lia),gZ ((C.trans bt).trans bt) h (.cons sp<|.cons (.str _)<|.cons (.bl _) .nil)<|.mkLike S⟩;rw[dF_ o];refine cD ?_;simp only[xq];walk_at"dl";refine⟨⟨aH,aH⟩,?_⟩;have r:∀{vs:List D}{B':u8},M <+: B'->oA 3 vs->VecK vs->aY M R (.tup [.str<|u3 "read",.str m,.tup vs]) B':=λpb pv A=>gZ pb h (.cons (.str _)<|.cons (.tup pv) .nil)<|.mkRead A;split;exact⟨⟨by decide,by decide⟩,_,q,n,hs,f,rfl,H,G,l,O,P,N,λvs pv A=>⟨ah (by lia),r C pv A⟩⟩;simp only[xp];walk_at"dl";refine⟨⟨aH,aH⟩,?_⟩;split;exact⟨ah (by lia),gZ C h (.cons sp .nil)<|.mkSeen S⟩;simp only[xo];walk_at"dl";refine⟨⟨aH,aH⟩,?_⟩;split;exact⟨⟨by decide,by decide⟩,_,ps,rs,p,q,s,hs,rfl,hf,hp,so,sl,H,G,h1,by lia,λw Q=>⟨by decide,ah (by lia),gZ C h (.cons Q.pl4<|.cons (.bl _) .nil)<|.mkHush Q⟩⟩;simp only[xn];walk_at"dl";have Z:=ci (a:=c / 3) (b:=2) (by decide);have K:=cC (a:=c / 3) (b:=2) (by decide);refine⟨ah (by lia),⟨by decide,by decide⟩,_,q,n,hs,f,rfl,H,G,l,O,P,N,λvs pv A=>⟨ah (by lia),ah (by lia),⟨by decide,by decide⟩,by decide,_,ad,?_⟩⟩;generalize c / 3 % 2=v at Z K;have:v=0\/v=1:=by lia
 rcases this with rfl|rfl;rw[QR];exact gZ (C.trans bt) h (.cons sp .nil)<|.mkRung S;rw[On];exact r (C.trans bt) pv A
theorem Jl:A8 yd 11 Jq:=by
 rintro ds M R ⟨c,ps,O,p,q,n,s,hs,E,rfl,f,hp,y,w,o,m,h1,K,g,L,J,h⟩;simp only[Jq,Ah];walk_at"dl";refine⟨by decide,⟨by decide,by decide⟩,?_⟩;generalize c % 16=v;generalize c / 16=A;simp only[Ag,ax];walk_at"dl";intro _;refine bd (λd=>match d with|.tup (x::_)=>x|_=>.non) (λS=>∃a b,S=[a,b]) trivial _ _ _ (λd e S H=>?_) ⟨_,_,rfl⟩ ?_ ?_;obtain⟨a,b,rfl⟩:=H;obtain⟨r,u,rfl⟩:=z6.mp e;refine⟨[b7<|.str r.1,b7<|.int r.2],⟨_,_,rfl⟩,λY I=>?_⟩;unfold iH;walk_at"dl";exact⟨trivial,I⟩;rw[C9,v4];have:=f.len.2;exact ah (by lia);have G:(ps.map iH).map (λd=>match d with|.tup (x::_)=>x|_=>.non)=(ps.map (·.1)).map D.str:=by rw[D7,D7];rfl
 rw[G2,G];have l:(M++[MO.lst ((ps.map (·.1)).map D.str)])[M.length]?=b7 (.lst ((ps.map (·.1)).map D.str)):=am;have C:M <+: M++[MO.lst ((ps.map (·.1)).map D.str)]:=bt;generalize M++[MO.lst ((ps.map (·.1)).map D.str)]=B at l C;generalize M.length=P at l;simp only[Af];walk_at"dl";obtain⟨d,e,F⟩:=jZ (xs:=O.map fi) (i:=A) (by rw[v4];exact f.rl.1);obtain⟨r,u,rfl⟩:=z6.mp e;refine⟨by rw[v4];have:=f.rl.1;lia,?_⟩;rw[F];rw[show fi r=.tup [.str r.1,.tup<|r.2.map .str]from rfl];walk_at"dl";simp only[Ae];walk_at"dl";refine⟨⟨by decide,by decide⟩,_,p,q,s,hs,rfl,cj C hp,y,w,cj C o,m,h1,by lia,λt z k=>?_⟩;exact act_5 (ns:=ps.map (·.1)) C f (cj C hp) y w (cj C o) m h1 K g (bn C L) J l (by rw[v4];exact f.len.1) (by rw[v4];exact f.len.2) (λx N=>by obtain⟨r',j,rfl⟩:=z6.mp N;exact f.nm r' j) (K1 u) h
theorem Km(T:Tops P w K mg base):v8 P w K mg base 3 "_law_act" GW yd:=v8.byD (N:=["_law_number","_law_house_here","_law_says","_law_hands_here","_law_counts","_law_kind","_law_names_here","_law_room","_law_message","_law_under","_law_sorts"]) T.b T.f_act (by walk_at"sc") Hm (by have:=AI T;have:=AH T;have:=AG T;have:=GY T;walk_at"dv") Jl
noncomputable def sC:D->Int
 |.tup (.int t::_)=>t
 |_=>0
theorem uw:∀{xs:List D},(∀x∈xs,f x x=b9)->rY f g xs xs=c5
 | [],_=>rfl
 |x::xs,h=>by show (if f x x=b9 then rY f g xs xs else g x x)=c5;rw[p0<|h x<|by simp];exact uw λy hy=>h y<|C7 _ hy
theorem uS:∀{xs:List D},(∀x∈xs,f x x=b9)->zm f g xs xs=b9
 | [],_=>rfl
 |x::xs,h=>by show (if f x x=b9 then zm f g xs xs else g x x)=b9;rw[p0<|h x<|by simp];exact uS λy hy=>h y<|C7 _ hy
structure GenH(ps:List (c8×Int))(rs:List (c8×List c8))(hs deeds:List D)(cnt las:List (D×D))(g:Int):Prop where
 deed:∀d∈deeds,aF ps rs d
 up:deeds.Pairwise λa b=>BL a=BL b->sC a<sC b
 last:∀h∈hs,∃t:Int,aG las h=b7 (.int t)/\(0<=t/\t<=g)/\∀d∈deeds,BL d=h->sC d<=t
 cnt:∀h∈hs,∃i:Int,aG cnt h=b7 (.int i)/\0<=i
 nn:∀d∈deeds,0<=numD d
 le:∀d∈deeds,sC d<=g
theorem JI{α:Type}{r:α->α->Prop}:∀{l:List α}{a b:α},l.Pairwise r->a∈l->b∈l->a≠b->r a b\/r b a
 |x::l,a,b,h,ha,hb,ne=>by rw[List.pairwise_cons]at h;rcases A3.mp ha with e1|h1;rcases A3.mp hb with e2|h2;exact p5 (e1.trans e2.symm) ne;rw[e1];exact .inl<|h.1 b h2;rcases A3.mp hb with e2|h2;rw[e2];exact .inr<|h.1 a h1;exact JI h.2 h1 h2 ne
theorem GenH.step{ps:List (c8×Int)}{rs:List (c8×List c8)}{hs s:List D}{f l:List (D×D)}{g:Int}(G:GenH ps rs hs s f l g){z:c8}{k t T num i:Int}{x:c8}{ds:List D}(j:D.tup [.str z,.int k]∈hs)(B:aG l (.tup [.str z,.int k])=b7 (.int t))(A:t<T)(w:0<=num)(X:0<=i)(y:oA 4 ds)(v:ActK rs x ds)(n:∀x∈hs,x∈bh ps):GenH ps rs hs (s++[.tup [.int T,.tup [.str z,.int k],.int num,.tup<|.str x::ds]]) (gD f (.tup [.str z,.int k])<|.int i) (gD l (.tup [.str z,.int k])<|.int T) (if T > g then T else g):=by
 have p:g<=(if T > g then T else g):=by split<;>lia
 have Tle:T<=(if T > g then T else g):=by split<;>lia
 refine⟨λd m=>?_,?_,λh m=>?_,λh m=>?_,λd m=>?_,λd m=>?_⟩;rcases F3.mp m with m|m;exact G.deed d m;rw[K0.mp m];exact⟨T,z,k,num,x,ds,rfl,by obtain⟨t',c,q,_⟩:=G.last _ j;rw[B]at c;injection c with c;injection c with c;lia,n _ j,y,v⟩;refine List.pairwise_append.mpr ⟨G.up,Sh _ _,λa r b u=>?_⟩;rw[K0.mp u];intro e;obtain⟨t',c,_,le⟩:=G.last _ j;rw[B]at c;injection c with c;injection c with c;have:=le a r e;show sC a<T;lia;by_cases e:h=.tup [.str z,.int k];subst e;refine⟨T,iq,⟨by obtain⟨t',c,q,_⟩:=G.last _ j;rw[B]at c;injection c with c;injection c with c;lia,Tle⟩,λd m e=>?_⟩;rcases F3.mp m with m|m;obtain⟨t',c,_,le⟩:=G.last _ j;rw[B]at c;injection c with c;injection c with c;have:=le d m e;lia;rw[K0.mp m];exact Qd _;obtain⟨t',c,h1,le⟩:=G.last h m;refine⟨t',by rw[eP e];exact c,⟨h1.1,by have:=h1.2;lia⟩,λd m o=>?_⟩;rcases F3.mp m with m|m;exact le d m o;rw[K0.mp m]at o;exact p5 o.symm e;by_cases e:h=.tup [.str z,.int k];subst e;exact⟨_,iq,X⟩;rw[eP e];exact G.cnt h m;rcases F3.mp m with m|m;exact G.nn d m;rw[K0.mp m];exact w;rcases F3.mp m with m|m;exact Int.le_trans (G.le d m) p;rw[K0.mp m];exact Tle
theorem Cf(G:GenH ps rs hs deeds cnt las g)(l:deeds.length<64):SrtG M deeds:=by
 have s:∀d∈deeds,v7 M w4 d=b9/\u7 M w4 d d=b9:=λd r=>xC 6 w4 d (by decide) (G.deed d r).pl;have p:∀{a:D}{xs:List D},a=.tup xs->G7 6 a->∀x∈xs,u7 M 29 x x=b9:=λ{a xs} e h x hx=>by subst e;exact(xC 5 29 x (by decide)<|F0.mp h x hx).2
 have c:∀{t z k n x ds t' F H j R ds'},D.tup [.int t,.tup [.str z,.int k],.int n,.tup<|.str x::ds]∈deeds->D.tup [.int t',.tup [.str F,.int H],.int j,.tup<|.str R::ds']∈deeds->D.tup [.int t,.tup [.str z,.int k],.int n,.tup<|.str x::ds]≠D.tup [.int t',.tup [.str F,.int H],.int j,.tup<|.str R::ds']->t=t'->u7 M 29 (.tup [.str z,.int k]) (.tup [.str F,.int H])=c5:=by intro t z k n x ds t' F H j R ds' f i E m;refine NY.mpr λe=>?_;have T:=(Ih (M:=M) (n:=28) (a:=.tup [.str z,.int k]) (b:=.tup [.str F,.int H]) ⟨_,_,rfl⟩ ⟨_,_,rfl⟩).mp e;rcases JI G.up f i E with q|q;have:=q T;simp only[sC]at this;lia;have:=q T.symm;simp only[sC]at this;lia
 refine⟨l,λd r=>(s d r).1,λa f b i=>?_,.inr<|.inr<|.inr<|.inl λa f=>?_,λd=>F4 w4<|x9 d,λa f b i=>?_⟩
 ·by_cases e:a=b
  subst e;obtain⟨t,z,k,n,x,ds,e,_⟩:=G.deed a f;have:=p e (G.deed a f).pl;rw[e];exact uS this
  ·obtain⟨t,z,k,n,x,ds,rfl,_⟩:=G.deed a f
   obtain⟨t',F,H,j,R,ds',rfl,_⟩:=G.deed b i;have o:=c f i e;show (if u7 M 29 (.int t) (.int t')=b9 then(if u7 M 29 (.tup [.str z,.int k]) (.tup [.str F,.int H])=b9 then zm (u7 M 29) (lH M 29) [.int n,.tup<|.str x::ds] [.int j,.tup<|.str R::ds']else(if u7 M 28 (.str z) (.str F)=b9 then(if u7 M 28 (.int k) (.int H)=b9 then b9 else b9)else b9))else b9)=b9;rw[gQ];by_cases m:t=t'
   ·rw[o m]
    repeat' split
    all_goals first|rfl|contradiction
   rw[beq_eq_false_iff_ne.mpr m];rfl
 obtain⟨t,z,k,n,x,ds,rfl,_⟩:=G.deed a f;exact⟨_,_,rfl⟩
 ·have st:∀{t t':Int}{z F:c8}{k H:Int},C8 M w4 (.tup [.int t,.tup [.str z,.int k]]) (.tup [.int t',.tup [.str F,.int H]])=decide (F4 w4 (.tup [.int t,.tup [.str z,.int k]])<F4 w4 (.tup [.int t',.tup [.str F,.int H]])):=λ{t t' z F k H}=>by
   refine wc rfl rfl ?_;show (if u7 M 29 (.int t) (.int t')=b9 then(if u7 M 29 (.tup [.str z,.int k]) (.tup [.str F,.int H])=b9 then b9 else(if u7 M 28 (.str z) (.str F)=b9 then(if u7 M 28 (.int k) (.int H)=b9 then b9 else b9)else b9))else b9)=b9
   repeat' split
   all_goals rfl
  by_cases e:a=b;subst e;obtain⟨t,z,k,n,x,ds,e,_⟩:=G.deed a f;have:=p e (G.deed a f).pl;rw[dF_<|Pw _,e];exact uw this;obtain⟨t,z,k,n,x,ds,rfl,_⟩:=G.deed a f;obtain⟨t',F,H,j,R,ds',rfl,_⟩:=G.deed b i;have o:=c f i e;refine Eq.trans ?_ st;show (if u7 M 29 (.int t) (.int t')=b9 then(if u7 M 29 (.tup [.str z,.int k]) (.tup [.str F,.int H])=b9 then rY (u7 M 29) (C8 M 29) [.int n,.tup<|.str x::ds] [.int j,.tup<|.str R::ds']else C8 M 29 (.tup [.str z,.int k]) (.tup [.str F,.int H]))else C8 M 29 (.int t) (.int t'))=(if u7 M 29 (.int t) (.int t')=b9 then(if u7 M 29 (.tup [.str z,.int k]) (.tup [.str F,.int H])=b9 then c5 else C8 M 29 (.tup [.str z,.int k]) (.tup [.str F,.int H]))else C8 M 29 (.int t) (.int t'))
  rw[gQ];by_cases m:t=t';rw[o m];rfl;rw[beq_eq_false_iff_ne.mpr m];rfl
def yc:A0:=λds M R=>∃(ps:List (c8×Int)) (a:List (c8×List c8)) (p q:Nat) (ns:List Int) (hs:List D),ds=[ax ps a,.ref p,.ref q]/\HouseF ps a/\ak M p (ns.map .int)/\ns.length<=40/\ak M q hs/\(∀x∈hs,x∈bh ps)/\1<=hs.length/\hs.length<=12/\hs.Nodup/\∀log:List D,(∀d∈log,aF ps a d)->(∀d∈log,sC d<=200)->(∀d∈log,0<=numD d)->log.length<=40->R (.tup log) M
theorem Hk:cN yc GU:=by rintro ds M R ⟨ps,a,p,q,ns,hs,rfl,_⟩;rfl
structure K7(M B:u8)(deeds sts:List D)(cnt las:List (D×D)):Prop where
 pre:M <+: B
 deeds:B[M.length]?=b7 (.lst deeds)
 sts:B[M.length+1]?=b7 (.lst sts)
 cnt:B[M.length+2]?=b7 (.dkt cnt)
 las:B[M.length+3]?=b7 (.dkt las)
section
variable{M B:u8}{deeds sts:List D}{cnt las:List (D×D)}
theorem K7.more{L:u8}(g:K7 M B deeds sts cnt las):K7 M (B++L) deeds sts cnt las:=⟨g.pre.trans<|MM _ _,bn (MM _ _) g.deeds,bn (MM _ _) g.sts,bn (MM _ _) g.cnt,bn (MM _ _) g.las⟩
theorem K7.setDeeds(g:K7 M B deeds sts cnt las):K7 M (B.set M.length<|.lst deeds') deeds' sts cnt las:=⟨bp g.pre<|v6 _,bP g.deeds,aJ (by lia) g.sts,aJ (by lia) g.cnt,aJ (by lia) g.las⟩
theorem K7.setSts(g:K7 M B deeds sts cnt las):K7 M (B.set (M.length+1)<|.lst sts') deeds sts' cnt las:=⟨bp g.pre (by lia),aJ (by lia) g.deeds,bP g.sts,aJ (by lia) g.cnt,aJ (by lia) g.las⟩
theorem K7.setCnt(g:K7 M B deeds sts cnt las):K7 M (B.set (M.length+2)<|.dkt cnt') deeds sts cnt' las:=⟨bp g.pre (by lia),aJ (by lia) g.deeds,aJ (by lia) g.sts,bP g.cnt,aJ (by lia) g.las⟩
theorem K7.setLas(g:K7 M B deeds sts cnt las):K7 M (B.set (M.length+3)<|.dkt las') deeds sts cnt las':=⟨bp g.pre (by lia),aJ (by lia) g.deeds,aJ (by lia) g.sts,aJ (by lia) g.cnt,bP g.las⟩
end
def wW:u4:=bi<|u5 iS<|aa (u5 kn<|aa (ab 3) af) af
def wX:u4:=B8 (au<|t7 C4 (t7 v5 (ab 11)<|dC<|.int 0)<|dC<|.str "say") (gX<|MV bR (ab 4)<|aa (eZ<|aa (ab 10)<|aa (ab 7) af) af) aT
def wY:u4:=aB (bb (u5 At<|aa (ab 8)<|aa (ab 10) af) 8)<|wX
def wZ:u4:=aB (om (ab 6) (ab 7)<|ab 10)<|wY
def xa:u4:=aB (om (ab 5) (ab 7)<|t7 aM (gf (ab 5)<|ab 7)<|dC<|.int 1)<|wZ
def xb:u4:=aB (gX<|MV bR (ab 3)<|aa (eZ<|aa (ab 10)<|aa (ab 7)<|aa (gf (ab 5)<|ab 7)<|aa (ab 11) af) af)<|xa
def xc:u4:=aB (bb (u5 yd<|aa (t7 aN (ab 9)<|dC<|.int 20)<|aa (ab 0)<|aa (ab 4)<|aa (ab 2)<|aa (ab 5) af) 11)<|xb
def zJ:u4:=aB (bb (t7 aM (t7 v5 (jV<|aa (ab 8)<|aa (gf (ab 6)<|ab 7)<|aa (t7 aM (gf (ab 6)<|ab 7)<|t7 cA (t7 aN (ab 9)<|dC<|.int 4)<|dC<|.int 5)<|aa (ab 8) af)<|t7 cA (ab 9)<|dC<|.int 4)<|dC<|.int 1) 10)<|xc
def vD:u4:=aB (bb (t7 aN (ab 9)<|dC<|.int 12) 9)<|zJ
def zK:u4:=aB (lW (bE<|ab 1) (ag 9)<|aB (bb (t7 v5 (ab 2)<|t7 cA (ab 9)<|u5 ii<|aa (ab 2) af) 7)<|vD)<|wW
def zL:u4:=aB (bb (dC<|.int 0) 8)<|zK
def zM:u4:=om (ab 6) (ab 7)<|dC<|.int 0
def zN:u4:=aB (lW (bE<|ab 2) (ag 7)<|aB (om (ab 5) (ab 7)<|dC<|.int 0)<|zM)<|zL
def zO:u4:=aB (bb (uO) 6)<|zN
def zP:u4:=aB (bb (uO) 5)<|zO
def zQ:u4:=aB (bb (jV af) 4)<|zP
def Jo:u4:=aB (bb (jV af) 3)<|zQ
theorem Ee{M B:u8}{E:DEnds}{s f hs:List D}{e l:List (D×D)}{C num:Int}{ps:List (c8×Int)}{rs:List (c8×List c8)}{p q:Nat}{y7 P Q:Option D}{n:Nat}(g:K7 M B s f e l)(G:GenH ps rs hs s e l C)(hf:HouseF ps rs)(V:ak M q hs)(h:∀x∈hs,x∈bh ps)(h1:1<=hs.length)(hl:hs.length<=12)(I:hs.Nodup)(N:OO f)(sl:f.length<=n)(dl:s.length<=n)(cl:e.length<=12+n)(ll:l.length<=12+n)(ai:n<40)(gn:C<=5*(n:Int))(S:∀deeds' sts' cnt' las' gr' B' a b c d,K7 M B' deeds' sts' cnt' las'->GenH ps rs hs deeds' cnt' las' gr'->gr'<=5*((n:Int)+1)->OO sts'->sts'.length<=n+1->deeds'.length<=n+1->cnt'.length<=12+(n+1)->las'.length<=12+(n+1)->E.nx [b7<|ax ps rs,b7<|.ref p,b7<|.ref q,b7<|.ref M.length,b7<|.ref<|M.length+1,b7<|.ref<|M.length+2,b7<|.ref<|M.length+3,a,b7<|.int gr',b,c,d] B'):(aB (bb (t7 v5 (ab 2)<|t7 cA (ab 9)<|u5 ii<|aa (ab 2) af) 7)<|vD) E [b7<|ax ps rs,b7<|.ref p,b7<|.ref q,b7<|.ref M.length,b7<|.ref<|M.length+1,b7<|.ref<|M.length+2,b7<|.ref<|M.length+3,y7,b7<|.int C,b7<|.int num,P,Q] B:=by
 have r:=cj g.pre V;have U:∀x∈hs,Hd x:=λx K=>rE x<|h x K;obtain⟨d,F,ed⟩:=jZ (xs:=hs) (i:=num) h1;obtain⟨z,k,rfl⟩:=U d F;obtain⟨t,J,⟨_,X⟩,_⟩:=G.last _ F;walk_at"dl";refine⟨_,r,by lia,_,r,?_⟩;rw[ed];simp only[vD,zJ];walk_at"dl";refine⟨⟨by decide,by decide⟩,l,_,g.las,rfl,J,l,_,g.las,rfl,J,⟨by decide,by decide⟩,by decide,ah (by lia),by decide,_,ad,?_⟩;generalize num / 12=c;have v0:=ci (a:=c) (b:=4) (by decide);have v1:=cC (a:=c) (b:=4) (by decide);have w0:=ci (a:=c / 4) (b:=5) (by decide);have w1:=cC (a:=c / 4) (b:=5) (by decide);obtain⟨u,eu,tu,ug⟩:∃u:Int,atI [D.int C,D.int t,D.int<|t+c / 4 % 5,D.int C] (c % 4)=b7 (.int u)/\t<=u/\u<=C+4:=by
  generalize c / 4 % 5=w at w0 w1;generalize c % 4=v at v0 v1;have:v=0\/v=1\/v=2\/v=3:=by lia
  rcases this with rfl|rfl|rfl|rfl;exact⟨_,aq (j:=0) rfl,X,by lia⟩;exact⟨_,aq (j:=1) rfl,Qd _,by lia⟩;exact⟨_,aq (j:=2) rfl,by lia,by lia⟩;exact⟨_,aq (j:=3) rfl,X,by lia⟩
 rw[eu];walk_at"dl";have g1:=g.more (L:=[MO.lst [D.int C,D.int t,D.int<|t+c / 4 % 5,D.int C]]);generalize B++[MO.lst [D.int C,D.int t,D.int<|t+c / 4 % 5,D.int C]]=Y at g1;have W:t<u+1:=by lia
 have Tg:u+1<=C+5:=by lia
 generalize u+1=T at W Tg;obtain⟨i,hi,i0⟩:=G.cnt _ F;simp only[xc];walk_at"dl";refine⟨⟨by decide,by decide⟩,_,ps,rs,M.length+1,q,M.length+2,f,hs,e,rfl,hf,.inl g1.sts,N,by lia,cj g1.pre V,U,h1,hl,I,g1.cnt,λx K=>(G.cnt x K).imp λ_ q=>q.1,λx ds pl H=>?_⟩;simp only[xb];walk_at"dl";refine⟨⟨_,.inl g1.deeds⟩,e,_,g1.cnt,rfl,hi,ah (by lia),_,g1.deeds,ar (by lia),?_⟩;have A:=g1.setDeeds (deeds':=s++[.tup [.int T,.tup [.str z,.int k],.int i,.tup<|.str x::ds]]);generalize Y.set M.length _=Z at A;simp only[xa];walk_at"dl";refine⟨e,_,A.cnt,rfl,hi,?_⟩;walk_at"dl";refine⟨e,A.cnt,rfl,ar (by lia),?_⟩;have g3:=A.setCnt (cnt':=gD e (.tup [.str z,.int k])<|.int<|i+1);generalize Z.set (M.length+2) _=B3 at g3;simp only[wZ];walk_at"dl";refine⟨l,g3.las,rfl,ar (by lia),?_⟩;have m:=g3.setLas (las':=gD l (.tup [.str z,.int k])<|.int T);generalize B3.set (M.length+3) _=B4 at m;have R:=G.step (num:=i) (i:=i+1) F J W i0 (by lia) pl H h;have o:(if T > C then T else C)<=5*((n:Int)+1):=by split<;>lia
 have l1:=ij (kvs:=e) (k:=.tup [.str z,.int k]) (d:=.int<|i+1);have l2:=ij (kvs:=l) (k:=.tup [.str z,.int k]) (d:=.int T);simp only[wY];walk_at"dl";simp only[wX];walk_at"dl";refine⟨⟨ap,ap⟩,?_⟩;split;refine⟨⟨_,.inl m.sts⟩,ah (by lia),f,m.sts,ar (by lia),S _ _ _ _ _ _ _ _ _ _ m.setSts R o (λy O=>?_) (by rw[B6,J2];lia) (by rw[B6,J2];lia) (by lia)<|by lia⟩;rcases F3.mp O with O|O;exact N y O;exact⟨T,z,k,K0.mp O⟩;exact S _ _ _ _ _ _ _ _ _ _ m R o N (by lia) (by rw[B6,J2];lia) (by lia)<|by lia
theorem Jj:A8 yc 12 Jo:=by
 rintro ds M R ⟨ps,v,p,q,ns,hs,rfl,Y,hp,nl,u,n,h1,hl,H,h⟩;have Z:∀x∈hs,Hd x:=λx f=>rE x<|n x f;simp only[Jo,zQ,zP,zO];walk_at"dl";refine⟨A9 _,A9 _,?_⟩;have J:(M++[MO.lst []]).length=M.length+1:=by simp
 have L:(M++[MO.lst []]++[MO.lst []]).length=M.length+2:=by simp
 have N:(M++[MO.lst []]++[MO.lst []]++[MO.dkt []]).length=M.length+3:=by simp
 rw[J,L,N];have w:K7 M (M++[MO.lst []]++[MO.lst []]++[MO.dkt []]++[MO.dkt []]) [] [] [] []:=by refine⟨((bt.trans bt).trans bt).trans bt,ac<|ac<|ac am,?_,?_,?_⟩;rw[<-J];exact ac<|ac am;rw[<-L];exact ac am;rw[<-N];exact am
 generalize M++[MO.lst []]++[MO.lst []]++[MO.dkt []]++[MO.dkt []]=B0 at w;simp only[zN];walk_at"dl";refine⟨_,cj w.pre u,λ_=>?_⟩;refine aX (λi S M'=>∃(t l:List (D×D)) (a:Option D),K7 M M' [] [] t l/\(∀x∈hs.take i,aG t x=b7 (.int 0)/\aG l x=b7 (.int 0))/\t.length<=i/\l.length<=i/\S=[b7<|ax ps v,b7<|.ref p,b7<|.ref q,b7<|.ref M.length,b7<|.ref<|M.length+1,b7<|.ref<|M.length+2,b7<|.ref<|M.length+3,a,b8,b8,b8,b8]) ?_ ?_ ⟨[],[],_,w,(λ_ z=>nomatch z),v6 _,v6 _,rfl⟩;rintro S M' ⟨t,l,a,g,o,r,Q,rfl⟩;rw[MT]at o;refine⟨cj g.pre u,?_⟩;simp only[zL,zK];walk_at"dl";refine⟨_,cj g.pre hp,λ_=>?_⟩;refine aX (λi S M'=>∃(s j:List D) (t l:List (D×D)) (C:Int) (a b c d:Option D),K7 M M' s j t l/\GenH ps v hs s t l C/\C<=5*(i:Int)/\OO j/\j.length<=i/\s.length<=i/\t.length<=12+i/\l.length<=12+i/\S=[b7<|ax ps v,b7<|.ref p,b7<|.ref q,b7<|.ref M.length,b7<|.ref<|M.length+1,b7<|.ref<|M.length+2,b7<|.ref<|M.length+3,a,b7<|.int C,b,c,d]) ?_ ?_ ⟨[],[],t,l,0,_,_,_,_,g,⟨(λ_ z=>nomatch z),.nil,λx f=>⟨0,(o x f).2,⟨Qd _,Qd _⟩,(λ_ z=>nomatch z)⟩,λx f=>⟨0,(o x f).1,Qd _⟩,(λ_ z=>nomatch z),(λ_ z=>nomatch z)⟩,by lia,(λ_ z=>nomatch z),v6 _,v6 _,by lia,by lia,rfl⟩;rintro S M' ⟨s,j,t,l,C,a,b,c,d,g,G,B,U,T,V,r,Q,rfl⟩;rw[v4]at V B;refine⟨cj g.pre hp,?_⟩;simp only[wW];walk_at"dl";refine⟨s,.inl g.deeds,Cf G (by lia),λys O _=>⟨ys,ad,?_⟩⟩;have P:∀d∈ys,aF ps v d:=λd m=>G.deed d<|O.mem_iff.mp m;exact aY.keep (h ys P (λd m=>Int.le_trans (G.le d<|O.mem_iff.mp m)<|by lia) (λd m=>G.nn d<|O.mem_iff.mp m)<|by rw[O.length_eq];lia) (.tup<|aF.bels P)<|g.pre.trans bt;rintro i y S M' O ⟨s,j,t,l,C,a,b,c,d,g,G,B,U,T,V,r,Q,rfl⟩ K F;refine⟨cj g.pre hp,?_⟩;rw[C6]at O;obtain⟨ai,hn,rfl⟩:=NJ.mp O;have hi:=(z9.mp hn).1;simp only[ag,List.set_cons_zero,List.set_cons_succ];exact Ee g G Y u n h1 hl H U T V r Q (by lia) B λdeeds' sts' cnt' las' gr' B' a b c d X W E I s1 s2 s3 s4=>C1.now<|F _ _ ⟨deeds',sts',cnt',las',gr',_,_,_,_,X,W,E,I,s1,s2,s3,s4,rfl⟩;rintro i y S M' O ⟨t,l,a,g,o,r,Q,rfl⟩ K F;have hi:=(z9.mp O).1;refine⟨cj g.pre u,?_⟩;obtain⟨z,k,rfl⟩:=Z y<|E6 O;simp only[zM];walk_at"dl";refine⟨t,g.cnt,rfl,ar (by lia),?_⟩;have A:=g.setCnt (cnt':=gD t (.tup [.str z,.int k])<|.int 0);have l1:=ij (kvs:=t) (k:=.tup [.str z,.int k]) (d:=.int 0);have l2:=ij (kvs:=l) (k:=.tup [.str z,.int k]) (d:=.int 0);generalize M'.set (M.length+2) _=B2 at A;refine⟨l,A.las,rfl,ar (by lia),C1.now<|F _ _ ⟨_,_,_,A.setLas,λx f=>?_,by lia,by lia,rfl⟩⟩;rw[M7,O]at f;by_cases e:x=.tup [.str z,.int k];subst e;exact⟨iq,iq⟩;rw[eP e,eP e];rcases F3.mp f with f|f;exact o x f;exact p5 (by simpa using f) e
theorem Kl(T:Tops P w K mg base):v8 P w K mg base 4 "_law_log" GU yc:=v8.byD (N:=["_law_house_here","_law_numbers_here","_law_hands_here","_law_log_here","_law_says","_law_counts","_law_last","_law_hand","_law_greatest","_law_number","_law_time","_law_act_here"]) T.b T.f_log (by walk_at"sc") Hk (by have:=Km T;walk_at"dv") Jj
noncomputable def yX(e:D):D:=.tup [.str<|bI e,gj e,.str<|dG e,Dk e,Je e]
noncomputable def oS(kvs:List (D×D)):List (D×D):=kvs.map λp=>(p.1,yX p.2)
def fN:A0:=λds M R=>∃(ps:List (c8×Int)) (a:List (c8×List c8)) (log:List D),ds=[ax ps a,.tup log]/\HouseF ps a/\(∀d∈log,aF ps a d)/\log.length<=1000/\∀n B,M <+: B->B[n]?=b7 (.dkt<|oS<|av a log)->R (.ref n) B
theorem uE:cN fN kA:=by rintro ds M R ⟨ps,a,log,rfl,_⟩;rfl
theorem fB:aG (oS kvs) k=(aG kvs k).map yX:=by unfold aG oS;rw[Qj,Option.map_map,Option.map_map];rfl
theorem El:gD (oS kvs) k (yX d)=oS (gD kvs k d):=by
 unfold gD;rw[fB,Rf];split;unfold oS;rw[D7,D7];refine OB λp _=>?_;show (if p.1=k then(p.1,yX d)else(p.1,yX p.2))=((if p.1=k then(p.1,d)else p).1,yX (if p.1=k then(p.1,d)else p).2)
 split<;>rfl;unfold oS;rw[Fn];rfl
theorem xK:(oS kvs).length=kvs.length:=by unfold oS;rw[v4]
theorem wF:av rs (log++[d])=if bv d=u3 "say" then vK rs (av rs log) d else av rs log:=by unfold av;rw[kG];split;rw[jt];rw[Nh]
noncomputable def oH(r:c8×List c8):c8×D:=(r.1,.tup<|r.2.map .str)
theorem Fc(ps:List (c8×D))(h:(ps.map (·.1)).Nodup):jq ps=ps:=by revert h;refine jI (P:=λps=>(ps.map (·.1)).Nodup->jq ps=ps) (λ_=>rfl) (λps p i h=>?_) ps;rw[Fn]at h;have h':=OZ.mp h;rw[qf,i h'.1,Dp];intro z;exact h'.2.2 _ z _ (by simp) rfl
theorem yE{rs:List (c8×List c8)}(h:(rs.map (·.1)).Nodup):jq (rs.map oH)=rs.map oH:=Fc _<|by rw[D7];exact h
theorem tP:∀{rs:List (c8×List c8)},r∈rs.map (·.1)->gh (rs.map oH) r=b7 (.tup<|(pW rs r).map .str)
 |p::rs,h=>by rw[nU];unfold gh;rw[B9,ML];by_cases e:p.1=r;rw[p0 e,show decide ((oH p).1=r)=b9 from dT_ e];rfl;rw[p4 e,show decide ((oH p).1=r)=c5 from dF_ e];rw[B9,A3]at h;exact tP<|h.resolve_left<|A2 e
theorem Aq{rs:List (c8×List c8)}:rs.map fi=(rs.map oH).map λp=>.tup [.str p.1,p.2]:=by rw[D7];rfl
theorem wH{a b:c8}:(a==b)=decide (a=b):=by by_cases e:a=b;rw[dT_ e];exact beq_iff_eq.mpr e;rw[dF_ e];exact beq_eq_false_iff_ne.mpr e
def kW:u4:=bi<|ab 3
def kX:u4:=aB (lW (bE<|ab 1) (gR 4<|aI (ag 4)<|aI (ag 5)<|aI (ag 6)<|aI (ag 7) gU)<|B8 (wE (au<|t7 C4 (t7 v5 (ab 7)<|dC<|.int 0)<|dC<|.str "say")<|au<|t7 Oh (t7 v5 (ab 5)<|dC<|.int 0)<|Ci (ab 2)<|t7 v5 (ab 7)<|dC<|.int 1) (B8 (N4 (au<|t7 N0 (t7 v5 (ab 7)<|dC<|.int 2)<|dC .non)<|wE (au<|t7 Au (t7 v5 (ab 7)<|dC<|.int 2)<|ab 3)<|au<|t7 C4 (t7 v5 (gf (ab 3)<|t7 v5 (ab 7)<|dC<|.int 2)<|dC<|.int 0)<|t7 v5 (ab 7)<|dC<|.int 1) (om (ab 3) (eZ<|aa (ab 4)<|aa (ab 5) af)<|eZ<|aa (t7 v5 (ab 7)<|dC<|.int 1)<|aa (t7 v5 (ab 7)<|dC<|.int 2)<|aa (t7 v5 (ab 5)<|dC<|.int 0)<|aa (t7 v5 (ab 7)<|dC<|.int 3)<|aa (ab 6) af) aT) aT)<|kW
def kY:u4:=aB (bb (uO) 3)<|kX
def pK:u4:=aB (bb (u5 xw<|aa (t7 v5 (ab 0)<|dC<|.int 1) af) 2)<|kY
def IM:u4:=B8 (N4 (au<|t7 N0 (t7 v5 (ab 7)<|dC<|.int 2)<|dC .non)<|wE (au<|t7 Au (t7 v5 (ab 7)<|dC<|.int 2)<|ab 3)<|au<|t7 C4 (t7 v5 (gf (ab 3)<|t7 v5 (ab 7)<|dC<|.int 2)<|dC<|.int 0)<|t7 v5 (ab 7)<|dC<|.int 1) (om (ab 3) (eZ<|aa (ab 4)<|aa (ab 5) af)<|eZ<|aa (t7 v5 (ab 7)<|dC<|.int 1)<|aa (t7 v5 (ab 7)<|dC<|.int 2)<|aa (t7 v5 (ab 5)<|dC<|.int 0)<|aa (t7 v5 (ab 7)<|dC<|.int 3)<|aa (ab 6) af) aT
theorem rQ{B:u8}{n:Nat}{x:MO}(g:B[n]?=b7 x):B.set n x=B:=by refine List.ext_getElem? λj=>?_;by_cases e:n=j;subst e;rw[Nj<|aA g,g];rw[Na e]
theorem Mn(f:u=.non\/St u)(v:kvs.length<1000)(S:B[n]?=b7 (.dkt<|oS kvs))(h:∀B',B'=B.set n (.dkt (oS (if (decide (u=.non)||match aG kvs u with
   |some e=>decide<|bI e=r
   |none=>c5)=b9 then gD kvs (.tup [.int t,.tup [.str z,.int k]]) (.tup [.int t,.tup [.str z,.int k],.int num,.tup [.str<|u3 "say",.str r,u,.str s]])else kvs)))->E.nx [x0,x1,x2,b7<|.ref n,b7<|.int t,b7<|.tup [.str z,.int k],b7<|.int num,b7<|.tup [.str<|u3 "say",.str r,u,.str s]] B') :
  IM E [x0,x1,x2,b7<|.ref n,b7<|.int t,b7<|.tup [.str z,.int k],b7<|.int num,b7<|.tup [.str<|u3 "say",.str r,u,.str s]] B:=by
 have Q:∀a b c:D,atI [a,b,c,.str s] 3=b7 (.str s):=λa b c=>aq (j:=3) rfl;have g:=(rQ S).symm;have d:∀{P:Prop},(B.set n (.dkt<|gD (oS kvs) (.tup [.int t,.tup [.str z,.int k]])<|.tup [.str r,u,.str z,.str s,.int num])=B.set n (.dkt<|oS<|gD kvs (.tup [.int t,.tup [.str z,.int k]])<|.tup [.int t,.tup [.str z,.int k],.int num,.tup [.str<|u3 "say",.str r,u,.str s]])->P)->P:=λq=>q (by rw[<-El];rfl);have l:(oS kvs).length<1000:=by rw[xK];exact v
 simp only[IM];rcases f with rfl|⟨t',F,H,rfl⟩
 rw[dT_ rfl,Bool.true_or,p0 rfl]at h;walk_at"dl";rw[Q];exact d λe=>⟨ah (by lia),ah (by lia),_,S,rfl,ar (by lia),h _ e⟩
 rw[dF_ (p:=D.tup [.int t',.tup [.str F,.int H]]=.non) (by intro e;cases e),Bool.false_or]at h;walk_at"dl";refine⟨_,S,rfl,?_⟩;rw[fB];cases R:aG kvs (.tup [.int t',.tup [.str F,.int H]]) with
 |none=>rw[R]at h;exact cD<|h _ g
 |some e =>
  refine cQ ⟨_,yX e,S,rfl,by rw[fB,R];rfl,?_⟩;unfold yX;walk_at"dl";refine⟨⟨ap,ap⟩,?_⟩;rw[aV,wH];cases o:decide (bI e=r) with
  |true=>simp only[R,o,s9]at h;refine cQ ?_;rw[Q];exact d λe=>⟨ah (by lia),ah (by lia),_,S,rfl,ar (by lia),h _ e⟩
  |false=>simp only[R,o,B5,r9]at h;exact cD<|h _ g
theorem Fp{B:u8}{E:DEnds}{ps:List (c8×Int)}{rs:List (c8×List c8)}{d:D}{kvs:List (D×D)}{C:Option D}{y w A F:Option D}{q n:Nat}(G:HouseF ps rs)(i:aF ps rs d)(H:∀p∈kvs,aF ps rs p.2/\bv p.2=u3 "say")(v:kvs.length<1000)(j:B[q]?=b7 (.dct<|rs.map oH))(S:B[n]?=b7 (.dkt<|oS kvs))(h:∀a b c d' B',B'=B.set n (.dkt<|oS<|if bv d=u3 "say" then vK rs kvs d else kvs)->E.nx [b7<|ax ps rs,C,b7<|.ref q,b7<|.ref n,a,b,c,d'] B'):(gR 4<|aI (ag 4)<|aI (ag 5)<|aI (ag 6)<|aI (ag 7) gU) d [b7<|ax ps rs,C,b7<|.ref q,b7<|.ref n,y,w,A,F] B λS2 M2=>(B8 (wE (au<|t7 C4 (t7 v5 (ab 7)<|dC<|.int 0)<|dC<|.str "say")<|au<|t7 Oh (t7 v5 (ab 5)<|dC<|.int 0)<|Ci (ab 2)<|t7 v5 (ab 7)<|dC<|.int 1) IM aT) E S2 M2:=by
 by_cases f:bv d=u3 "say";rw[p0 f]at h;obtain⟨t,z,k,m,r,u,s,rfl,_,_,l,o⟩:=fZ i f;unfold vK at h;rw[show tH rs kvs (.tup [.int t,.tup [.str z,.int k],.int m,.tup [.str<|u3 "say",.str r,u,.str s]])=(decide (z∈pW rs r)&&(decide (u=.non)||match aG kvs u with
  |some e=>decide<|bI e=r
  |none=>c5))from rfl]at h
 walk_at"dl";refine⟨trivial,⟨ap,ap⟩,?_⟩;rw[aV,t5];refine cQ ⟨_,_,j,tP l,⟨ap,kh⟩,?_⟩;rw[kH];by_cases g:z∈pW rs r;rw[dT_ g,Bool.true_and]at h;rw[dT_ g];exact cQ<|Mn o v S λ_ e=>h _ _ _ _ _ e;rw[dF_ g,Q1]at h;rw[dF_ g];exact cD<|h _ _ _ _ _ (rQ S).symm;rw[p4 f]at h;obtain⟨t,z,k,m,x,ds,rfl,_⟩:=i;walk_at"dl";refine⟨trivial,⟨ap,ap⟩,?_⟩;rw[aV,show (x==u3 "say")=c5 from beq_eq_false_iff_ne.mpr f];refine cD ?_;exact h _ _ _ _ _ (rQ S).symm
theorem vB:A8 fN 8 pK:=by
 rintro ds M R ⟨ps,rs,log,rfl,f,g,r,h⟩;simp only[pK,ax];walk_at"dl";refine⟨rs.map oH,Aq,by rw[v4];have:=f.rl.2;lia,?_⟩;rw[yE f.rnd];simp only[kY,kX];walk_at"dl";intro _;have l:(M++[MO.dct<|rs.map oH]).length=M.length+1:=by simp
 refine aX (λi S M'=>∃a b c d,M'=M++[.dct<|rs.map oH,.dkt<|oS<|av rs<|log.take i]/\S=[b7<|ax ps rs,b7<|.tup log,b7<|.ref M.length,b7<|.ref<|M.length+1,a,b,c,d]) ?_ ?_ ⟨_,_,_,_,by simp[oS,av,kinds,eW],by rw[l];rfl⟩;rintro S M' ⟨a,b,c,d,rfl,rfl⟩;rw[MT];refine⟨trivial,?_⟩;simp only[kW];walk_at"dl";exact .inl<|h _ _ (MM _ _) ir;rintro i y S M' O ⟨a,b,c,d,rfl,rfl⟩ G e;have n:=E6 O;have m:log.take (i+1)=log.take i++[y]:=by rw[M7,O];rfl
 rw[m,wF]at e;have t:=bo (rs:=rs) (log:=log.take i);have j:∀d∈log.take i,aF ps rs d:=λd q=>g d<|Rq q;have v:=hZ j (λ_ q=>q) t;have p:=t.len;have o:=bu (log:=log.take i) (k:=u3 "say");rw[F6]at o;have hi:=(z9.mp O).1;generalize av rs (log.take i)=kvs at e v p;refine⟨trivial,?_⟩;refine Fp f (g y n) v (by lia) ck ir ?_;rintro a b c d B rfl;refine C1.now<|e _ _ ⟨a,b,c,d,?_,rfl⟩;rw[Rr _ _ (by lia),show M.length+1-M.length=1 by lia];rfl
theorem vY(T:Tops P w K mg base):v8 P w K mg base 1 "_law_counting" kA fN:=v8.byD (N:=["_law_house_here","_law_log_here","_law_members","_law_found","_law_time","_law_hand","_law_number","_law_act_here"]) T.b T.f_counting (by walk_at"sc") uE (by walk_at"dv") vB
def MC(C:List (D×D))(f:D->D->D)(B:u8)(n:Nat)(p:D×D):Prop:=∃e m,p.2=.ref m/\n<m/\aG C p.1=b7 e/\B[m]?=b7 (.lst [.str<|bI e,.str<|dG e,f p.1 e,Je e])
noncomputable def xW(C:List (D×D))(log:List D)(k e:D):D:=(aG (aw C log) k).getD<|Dk e
def mi:A0:=λds M R=>∃(ps:List (c8×Int)) (a:List (c8×List c8)) (log:List D),ds=[ax ps a,.tup log]/\HouseF ps a/\(∀d∈log,aF ps a d)/\log.length<=1000/\∀n B kvs,M <+: B->sd B n kvs->(∀p∈kvs,MC (av a log) (xW (av a log) log) B n p/\¬aQ (av a log) log p.1)->(kvs.map (·.1)).Nodup->kvs.length<=log.length->(∀k e,aG (av a log) k=b7 e->¬aQ (av a log) log k->∃d,aG kvs k=b7 d)->R (.ref n) B
theorem Be:cN mi vN:=by rintro ds M R ⟨ps,a,log,rfl,_⟩;rfl
theorem jX:aG (aw C<|log++[d]) k=if bv d=u3 "change"/\G0 C d=b9/\pV d=k then b7 (gj d)else aG (aw C log) k:=by unfold aw;rw[kG,O4,Fn];by_cases h:bv d=u3 "change";rw[p0 h,MZ,Ql];by_cases b:G0 C d=b9;rw[p0 b,B9,Pn,dI];by_cases m:pV d=k;rw[p0 ⟨h,b,m⟩];dsimp only;rw[m,iq];rw[p4 λz=>m z.2.2];exact eP<|A2 m;rw[p4 b,Pn,Nh,p4 λz=>b z.2.1];rw[p4 h,Ql,Pn,Nh,p4 λz=>h z.1]
theorem Fq(h:aG C s=aG T s)(log:List D):aG (aw C log) s=aG (aw T log) s:=by
 refine jI (P:=λlog=>aG (aw C log) s=aG (aw T log) s) rfl (λl d i=>?_) log;rw[jX,jX,i];by_cases m:pV d=s;have:G0 C d=G0 T d:=by unfold G0;rw[m,h]
 rw[this];rw[p4 λz=>m z.2.2,p4 λz=>m z.2.2]
theorem Fg:aG (IF kvs k) j=if j=k then b8 else aG kvs j:=by unfold aG IF;rw[List.find?_filter];split;rename_i e;subst e;rw[Option.map_eq_none_iff,List.find?_eq_none];intro p _;by_cases e:p.1=j<;>simp[e];rename_i h;congr 1;congr 1;funext p;by_cases e:p.1=j;have:¬p.1=k:=λz=>h<|e.symm.trans z;simp[e,h];simp[e]
theorem rS(R:aG C m=b7 e):G0 C (.tup [.int t,.tup [.str z,.int k],.int num,.tup<|x::m::l])=decide (z=dG e):=by
 show (match aG C m with
  |some e=>decide<|z=dG e
  |none=>c5)=_
 rw[R]
theorem xY(R:aG C m=b8):G0 C (.tup [.int t,.tup [.str z,.int k],.int num,.tup<|x::m::l])=c5:=by
 show (match aG C m with
  |some e=>decide<|z=dG e
  |none=>c5)=_
 rw[R]
theorem cJ:aQ C (log++[d]) k↔aQ C log k\/(bv d=u3 "back"/\G0 C d=b9/\pV d=k):=by
 unfold aQ;rw[kG];constructor;rintro⟨x,h,h1,h2⟩;rcases F3.mp h with h|h;exact .inl ⟨x,h,h1,h2⟩;split at h;rename_i a;obtain rfl:x=d:=by simpa using h
 exact .inr ⟨a,h1,h2⟩;cases h;rintro(⟨x,h,h1,h2⟩|⟨a,h1,h2⟩);exact⟨x,Np _ h,h1,h2⟩;exact⟨d,I9 _ (by rw[p0 a];simp),h1,h2⟩
theorem MC.more(h:MC C f B n p):MC C f (B++[x]) n p:=by obtain⟨e,m,h1,h2,a,d⟩:=h;exact⟨e,m,h1,h2,a,ac d⟩
theorem MC.setN(h:MC C f B n p):MC C f (B.set n x) n p:=by obtain⟨e,m,h1,h2,a,d⟩:=h;exact⟨e,m,h1,h2,a,aJ (by lia) d⟩
theorem MC.to(h:MC C f B n p)(b:∀e,aG C p.1=b7 e->f p.1 e=g p.1 e):MC C g B n p:=by obtain⟨e,m,h1,h2,a,d⟩:=h;exact⟨e,m,h1,h2,a,by rw[<-b e a];exact d⟩
theorem Gr{l:List (D×D)}(X:(l.map (·.2)).Nodup){p q:D×D}(hp:p∈l)(c:q∈l)(e:p.2=q.2):p=q:=by
 induction l with
 |nil=>cases hp
 |cons x l d =>
  rw[B9,J5]at X;rcases A3.mp hp with i|h<;>rcases A3.mp c with b|a
  rw[i,b];rw[i]at e;exact p5 (e ▸ K1 a) X.1;rw[b]at e;exact p5 (e ▸ K1 h) X.1;exact d X.2 h a
def sE:u4:=bi<|ab 3
def mz:u4:=aB (lW (bE<|ab 1) (gR 4<|aI (ag 6)<|aI (ag 7)<|aI (ag 8)<|aI (ag 9) gU)<|B8 (wE (au<|t7 C4 (t7 v5 (ab 9)<|dC<|.int 0)<|dC<|.str "back")<|wE (au<|t7 Au (t7 v5 (ab 9)<|dC<|.int 1)<|ab 2)<|au<|t7 C4 (t7 v5 (gf (ab 2)<|t7 v5 (ab 9)<|dC<|.int 1)<|dC<|.int 2)<|t7 v5 (ab 7)<|dC<|.int 0) (gX<|RR Do (ab 3)<|aa (t7 v5 (ab 9)<|dC<|.int 1)<|aa (dC .non) af) aT)<|sE
def mB:u4:=aB (lW (bE<|ab 1) (gR 4<|aI (ag 6)<|aI (ag 7)<|aI (ag 8)<|aI (ag 9) gU)<|B8 (wE (au<|t7 C4 (t7 v5 (ab 9)<|dC<|.int 0)<|dC<|.str "change")<|wE (au<|t7 Au (t7 v5 (ab 9)<|dC<|.int 1)<|ab 2)<|au<|t7 C4 (t7 v5 (gf (ab 2)<|t7 v5 (ab 9)<|dC<|.int 1)<|dC<|.int 2)<|t7 v5 (ab 7)<|dC<|.int 0) (Mm (t7 v5 (ab 9)<|dC<|.int 2)<|Cd (gf (ab 3)<|t7 v5 (ab 9)<|dC<|.int 1)<|dC<|.int 2) aT)<|mz
def sF:u4:=aB (lW (rP<|ab 2) (gR 2<|aI (ag 4)<|aI (ag 5) gU)<|om (ab 3) (ab 4)<|jV<|aa (t7 v5 (ab 5)<|dC<|.int 0)<|aa (t7 v5 (ab 5)<|dC<|.int 2)<|aa (t7 v5 (ab 5)<|dC<|.int 3)<|aa (t7 v5 (ab 5)<|dC<|.int 4) af)<|mB
def sG:u4:=aB (bb (uO) 3)<|sF
def zG:u4:=aB (bb (u5 fN<|aa (ab 0)<|aa (ab 1) af) 2)<|sG
section
variable{M B:u8}{R:DK}{ps:List (c8×Int)}{rs:List (c8×List c8)}{log:List D}{C kvs:List (D×D)}{c:Nat}
theorem Gu(V:∀d∈log,aF ps rs d)(hl:log.length<=1000)(X:M <+: B)(hB:B[c]?=b7 (.dkt<|oS C))(v:∀p∈kvs,MC C (xW C log) M' B.length p)(l:∀k e,aG C k=b7 e->∃d,aG kvs k=b7 d)(q:(kvs.map (·.1)).Nodup)(j:kvs.length<=log.length)(pM:B <+: M')(f:M'[B.length]?=b7 (.dkt kvs))(h:∀n B kvs,M <+: B->sd B n kvs->(∀p∈kvs,MC C (xW C log) B n p/\¬aQ C log p.1)->(kvs.map (·.1)).Nodup->kvs.length<=log.length->(∀k e,aG C k=b7 e->¬aQ C log k->∃d,aG kvs k=b7 d)->R (.ref n) B):mz (EE M R) [b7<|ax ps rs,b7<|.tup log,b7<|.ref c,b7<|.ref B.length,a,b,y6,y7,y8,y9] M':=by
 have Y:=aA hB;simp only[mz];walk_at"dl";intro _;refine aX (λi S M'=>∃(kvs:List (D×D)) (y6 y7 y8 y9:Option D),B <+: M'/\sd M' B.length kvs/\(∀p∈kvs,MC C (xW C log) M' B.length p/\¬aQ C (log.take i) p.1)/\(kvs.map (·.1)).Nodup/\kvs.length<=log.length/\(∀k e,aG C k=b7 e->¬aQ C (log.take i) k->∃d,aG kvs k=b7 d)/\S=[b7<|ax ps rs,b7<|.tup log,b7<|.ref c,b7<|.ref B.length,a,b,y6,y7,y8,y9]) ?_ ?_ ⟨kvs,_,_,_,_,pM,.inl f,λp hp=>⟨v p hp,λ⟨d,z,_⟩=>nomatch z⟩,q,j,λk e g _=>l k e g,rfl⟩;rintro S M' ⟨kvs,y6,y7,y8,y9,pM,f,v,q,j,l,rfl⟩;rw[MT]at v l;refine⟨trivial,?_⟩;simp only[sE];walk_at"dl";exact .inl<|h _ _ _ (X.trans pM) f v q j l;rintro i y S M' O ⟨kvs,y6,y7,y8,y9,pM,f,v,q,j,l,rfl⟩ G s;have o:∀k e,aG C k=b7 e->¬aQ C (log.take i++[y]) k->∃d,aG kvs k=b7 d:=λk e g r=>l k e g λw=>r<|cJ.mpr<|.inl w;have W:=E6 O;have Q:log.take (i+1)=log.take i++[y]:=by rw[M7,O];rfl
 rw[Q]at s;have K:=V y W;have L:=bn pM hB;refine⟨trivial,?_⟩;by_cases E:bv y=u3 "back";obtain⟨t,z,k,J,m,rfl,hs⟩:=wI K E;obtain⟨t',F,H,rfl⟩:=hs;walk_at"dl";refine⟨trivial,⟨ap,ap⟩,?_⟩;rw[aV,show (u3 "back" == u3 "back")=b9 from t5 _];refine cQ ⟨_,L,rfl,?_⟩;rw[fB];cases A:aG C (.tup [.int t',.tup [.str F,.int H]]) with
 |none =>
  refine cD<|C1.now<|s _ _ ⟨kvs,_,_,_,_,pM,f,λp hp=>⟨(v p hp).1,λw=>?_⟩,q,j,o,rfl⟩;rcases cJ.mp w with w|⟨_,w,_⟩
  exact(v p hp).2 w;rw[xY A]at w;cases w
 |some e =>
  refine cQ ⟨_,yX e,L,rfl,by rw[fB,A];rfl,?_⟩;unfold yX;walk_at"dl";refine⟨⟨ap,ap⟩,?_⟩;rw[aV,wH];by_cases u:dG e=z;rw[dT_ u];refine cQ ⟨⟨kvs,f⟩,kvs,f,rfl,λ_=>?_⟩;have I:∀p∈IF kvs (.tup [.int t',.tup [.str F,.int H]]),p∈kvs/\p.1≠.tup [.int t',.tup [.str F,.int H]]:=λp hp=>by have:=E5.mp hp;exact⟨this.1,λe=>by simp[e]at this⟩
  have U:B.length<M'.length:=by rcases f with f|⟨_,f⟩<;>exact aA f
  refine C1.now<|s _ _ ⟨IF kvs<|.tup [.int t',.tup [.str F,.int H]],_,_,_,_,bp pM<|v6 _,.inr ⟨_,Nj U⟩,λp hp=>⟨(v p (I p hp).1).1.setN,λw=>?_⟩,(QB.map _).nodup q,J1 (K9 _ _) j,λN P T r=>?_,rfl⟩;rcases cJ.mp w with w|⟨_,_,w⟩
  exact(v p (I p hp).1).2 w;exact(I p hp).2 w.symm;rw[Fg];by_cases Z:N=.tup [.int t',.tup [.str F,.int H]];exact p5 (cJ.mpr<|.inr ⟨E,by rw[rS A];exact dT_ u.symm,Z.symm⟩) r;rw[p4 Z];exact o N P T r;rw[dF_ u];refine cD<|C1.now<|s _ _ ⟨kvs,_,_,_,_,pM,f,λp hp=>⟨(v p hp).1,λw=>?_⟩,q,j,o,rfl⟩;rcases cJ.mp w with w|⟨_,w,_⟩
  exact(v p hp).2 w;rw[rS A]at w;exact u (oT_ w).symm
 have r:∀p,aQ C (log.take i++[y]) p->aQ C (log.take i) p:=λp w=>by
  rcases cJ.mp w with w|⟨w,_,_⟩
  exact w;exact p5 w E
 obtain⟨t,z,k,J,x,ds,rfl,_⟩:=K;walk_at"dl";refine⟨trivial,⟨ap,ap⟩,?_⟩;rw[aV,show (x==u3 "back")=c5 from beq_eq_false_iff_ne.mpr E];exact cD<|C1.now<|s _ _ ⟨kvs,_,_,_,_,pM,f,λp hp=>⟨(v p hp).1,λw=>(v p hp).2<|r _ w⟩,q,j,o,rfl⟩
theorem Gv{M':u8}{a b u A W y9:Option D}(T:∀d∈log,aF ps rs d)(hl:log.length<=1000)(_:C.length<=log.length)(pB:M <+: B)(hB:B[c]?=b7 (.dkt<|oS C))(v:∀p∈kvs,MC C (xW C []) M' B.length p)(nm:(kvs.map (·.2)).Nodup)(l:∀k e,aG C k=b7 e->∃d,aG kvs k=b7 d)(X:(kvs.map (·.1)).Nodup)(kl:kvs.length<=log.length)(pM:B <+: M')(g:M'[B.length]?=b7 (.dkt kvs))(h:∀n B kvs,M <+: B->sd B n kvs->(∀p∈kvs,MC C (xW C log) B n p/\¬aQ C log p.1)->(kvs.map (·.1)).Nodup->kvs.length<=log.length->(∀k e,aG C k=b7 e->¬aQ C log k->∃d,aG kvs k=b7 d)->R (.ref n) B):mB (EE M R) [b7<|ax ps rs,b7<|.tup log,b7<|.ref c,b7<|.ref B.length,a,b,u,A,W,y9] M':=by
 have cB:=aA hB;simp only[mB];walk_at"dl";intro _;refine aX (λi S M'=>∃(u A W y9:Option D),B <+: M'/\M'[B.length]?=b7 (.dkt kvs)/\(∀p∈kvs,MC C (xW C<|log.take i) M' B.length p)/\S=[b7<|ax ps rs,b7<|.tup log,b7<|.ref c,b7<|.ref B.length,a,b,u,A,W,y9]) ?_ ?_ ⟨_,_,_,_,pM,g,v,rfl⟩;rintro S M' ⟨u,A,W,y9,pM,g,v,rfl⟩;rw[MT]at v;refine⟨trivial,?_⟩;exact Gu T hl pB hB v l X kl pM g h;rintro i y S M' U ⟨u,A,W,y9,pM,g,v,rfl⟩ G j;have hm:=E6 U;have et:log.take (i+1)=log.take i++[y]:=by rw[M7,U];rfl
 rw[et]at j;have O:=T y hm;have P:=bn pM hB;have f:(∀p∈kvs,¬(bv y=u3 "change"/\G0 C y=b9/\pV y=p.1))->∀p∈kvs,MC C (xW C<|log.take i++[y]) M' B.length p:=λno p hp=>(v p hp).to λe _=>by unfold xW;rw[jX,p4<|no p hp]
 refine⟨trivial,?_⟩;by_cases H:bv y=u3 "change";obtain⟨t,z,k,r,m,s,rfl,hs⟩:=jY O H;obtain⟨t',N,K,rfl⟩:=hs;walk_at"dl";refine⟨trivial,⟨ap,ap⟩,?_⟩;rw[aV,show (u3 "change" == u3 "change")=b9 from t5 _];refine cQ ⟨_,P,rfl,?_⟩;rw[fB];cases o:aG C (.tup [.int t',.tup [.str N,.int K]]) with
 |none=>exact cD<|C1.now<|j _ _ ⟨_,_,_,_,pM,g,f (λp hp z=>by have:=z.2.1;rw[xY o]at this;cases this),rfl⟩
 |some e =>
  refine cQ ⟨_,yX e,P,rfl,by rw[fB,o];rfl,?_⟩;unfold yX;walk_at"dl";refine⟨⟨ap,ap⟩,?_⟩;rw[aV,wH];by_cases E:dG e=z;rw[dT_ E];obtain⟨d,g1⟩:=l _ _ o;obtain⟨e',L,h1,h2,J,Q⟩:=v _<|bz g1;dsimp only at h1 J;subst h1;refine cQ ⟨kvs,_,g,rfl,g1,_,2,Q,rfl,?_⟩;refine C1.now<|j _ _ ⟨_,_,_,_,bp pM (by lia),aJ (by lia) g,λp hp=>?_,rfl⟩;obtain⟨e1,V,q,Y,I,Z⟩:=v p hp;have bw:G0 C (.tup [.int t,.tup [.str z,.int k],.int r,.tup [.str<|u3 "change",.tup [.int t',.tup [.str N,.int K]],.str s]])=b9:=by rw[rS o];exact dT_ E.symm
  by_cases F:p.1=.tup [.int t',.tup [.str N,.int K]];obtain⟨pk,pd⟩:=p;dsimp only at F q I Z;subst F;obtain rfl:pd=.ref L:=C0<|(gM X hp).symm.trans g1;injection q with q;subst q;rw[I]at J;cases J;refine⟨_,L,rfl,Y,I,?_⟩;unfold xW;rw[jX,p0 ⟨H,bw,rfl⟩];exact bP Q;have ne:V≠L:=λz=>F (by have:=Gr nm hp (bz g1) (by rw[q,z]);rw[this]);refine⟨e1,V,q,Y,I,?_⟩;unfold xW;rw[jX,p4 λz=>F z.2.2.symm];exact aJ ne Z;rw[dF_ E];refine cD<|C1.now<|j _ _ ⟨_,_,_,_,pM,g,f λp hp w=>?_,rfl⟩;have:=w.2.1;rw[rS o]at this;exact E (oT_ this).symm
 have ns:=f λp hp z=>H z.1;obtain⟨t,z,k,r,x,ds,rfl,_⟩:=O;walk_at"dl";refine⟨trivial,⟨ap,ap⟩,?_⟩;rw[aV,show (x==u3 "change")=c5 from beq_eq_false_iff_ne.mpr H];exact cD<|C1.now<|j _ _ ⟨_,_,_,_,pM,g,ns,rfl⟩
end
theorem CN:A8 mi 10 zG:=by
 rintro ds M R ⟨ps,rs,log,rfl,Y,s,K,h⟩;simp only[zG];walk_at"dl";refine⟨ps,rs,log,rfl,Y,s,K,λc B pB hB=>?_⟩;have t:=bo (rs:=rs) (log:=log);have kl:=bu (log:=log) (k:=u3 "say");have N:=hZ s (λ_ q=>q) t;have tl:=t.len;have X:=t.nd;have E:=t.en;generalize av rs log=C at h t tl N X E hB;have sp:∀p∈C,St p.1:=λp hp=>by rw[(E p hp).1];exact(N p hp).1.st
 have cB:=aA hB;simp only[sG,sF];walk_at"dl";refine⟨_,.inl<|ac hB,λ_=>?_⟩;have r:∀M',B <+: M'->M'[c]?=(B++[MO.dkt []])[c]?:=λM' p=>(bn p hB).trans (ac hB).symm;refine aX (λi S M'=>∃(kvs:List (D×D)) (a b:Option D),B <+: M'/\M'[B.length]?=b7 (.dkt kvs)/\(∀p∈kvs,MC C (xW C []) M' B.length p)/\kvs.map (·.1)=(C.take i).map (·.1)/\(kvs.map (·.2)).Nodup/\S=[b7<|ax ps rs,b7<|.tup log,b7<|.ref c,b7<|.ref B.length,a,b,b8,b8,b8,b8]) ?_ ?_ ⟨[],_,_,bt,am,(λ_ z=>nomatch z),rfl,.nil,rfl⟩;rintro S M' ⟨kvs,a,b,pM,o,v,Z,A,rfl⟩;rw[v4,xK,MT]at Z;have u:kvs.length=C.length:=by simpa using t4 F8 Z
 have Q:(kvs.map (·.1)).Nodup:=by rw[Z];exact X
 have n:∀k e,aG C k=b7 e->∃d,aG kvs k=b7 d:=λk e g=>by
  have:k∈kvs.map (·.1):=by rw[Z];exact K1 (f:=(·.1))<|bz g
  obtain⟨q,l,rfl⟩:=z6.mp this;exact⟨_,gM Q l⟩
 refine⟨r _ pM,?_⟩;exact Gv s K (by lia) pB hB v A n Q (by lia) pM o h;rintro i y S M' O ⟨kvs,a,b,pM,o,v,m,A,rfl⟩ G H;unfold oS at O;rw[D7,C6]at O;obtain⟨p,hp,rfl⟩:=NJ.mp O;have L:=E6 hp;have hi:=(z9.mp hp).1;have F:C.take (i+1)=C.take i++[p]:=by rw[M7,hp];rfl
 have u:kvs.length<=C.length:=by have:=t4 F8 m;rw[v4,v4,F6]at this;lia
 have w:p.1∉kvs.map (·.1):=λz=>by rw[m]at z;have P:=X;rw[<-R8 (i+1) C,F,Fn,Fn]at P;exact(OZ.mp (OZ.mp P).1).2.2 _ z _ (by simp) rfl
 have T:=sp p L;have I:=gM X L;have U:=aA o;refine⟨r _ pM,?_⟩;rw[F]at H;obtain⟨ks,Z⟩:=T.tup;have J:=T.key;obtain⟨k,e⟩:=p;dsimp only at Z I J w;subst Z;simp only[Function.comp_apply,yX];walk_at"dl";have V:atI [D.str<|bI e,gj e,.str<|dG e,Dk e,Je e] 3=b7 (Dk e):=aq (j:=3) rfl;have W:atI [D.str<|bI e,gj e,.str<|dG e,Dk e,Je e] 4=b7 (Je e):=aq (j:=4) rfl;simp only[V,W];refine⟨trivial,ah (by lia),kvs,ac o,J,ar (by lia),?_⟩;rw[xz w];refine C1.now<|H _ _ ⟨kvs++[(.tup ks,.ref M'.length)],_,_,bp (pM.trans bt)<|v6 _,bP<|ac o,λq l=>?_,by rw[Fn,Fn,m];rfl,?_,rfl⟩;rcases F3.mp l with l|l;exact(v q l).more.setN;rw[K0.mp l];exact⟨e,M'.length,rfl,U,I,aJ (by lia) am⟩;rw[Fn];refine List.nodup_append.mpr ⟨A,by simp,λx hx y O z=>?_⟩;obtain⟨q,l,rfl⟩:=z6.mp hx;obtain⟨e1,m1,q1,_,_,q4⟩:=v q l;rw[show y=.ref M'.length by simpa using O,q1]at z;injection z with z;have:=aA q4;lia
theorem DF(T:Tops P w K mg base):v8 P w K mg base 2 "_law_shown" vN mi:=v8.byD (N:=["_law_house_here","_law_log_here","_law_counting_here","_law_shown_here","_law_stamp","_law_told_here","_law_time","_law_hand","_law_number","_law_act_here"]) T.b T.f_shown (by walk_at"sc") Be (by have:=vY T;walk_at"dv") CN
def FA(l n:List Nat):Prop:=∃i,l[i]?=b7 64/\(l.drop<|i+1).take n.length=n/\∀c,l[i+1+n.length]?=b7 c->Bc c=c5
theorem zo(t n:c8):gY t n=b9↔t.cps.toList.take n.cps.toList.length=n.cps.toList/\∀c,t.cps.toList[n.cps.toList.length]?=b7 c->Bc c=c5:=by
 unfold gY;rw[Ak,D9,p7,Bool.not_eq_true',<-bx];refine and_congr Iff.rfl ?_;have e:(L6 t (b7 (n.length:Int))<|b7<|(n.length:Int)+1).cps.toList=(t.cps.toList.drop n.length).take 1:=by have:=jJ t (a:=n.length) (b:=n.length+1) (by lia);rw[show ((n.length+1:Nat):Int)=(n.length:Int)+1 by lia,show n.length+1-n.length=1 by lia]at this;exact this
 cases q:t.cps.toList[n.length]? with
 |none=>rw[Ru<|List.getElem?_eq_none_iff.mp q]at e;rw[oT _<|by rw[e];rfl];simp
 |some c=>obtain⟨g,f⟩:=z9.mp q;rw[O9 g,f]at e;have:L6 t (b7 (n.length:Int)) (b7<|(n.length:Int)+1)=⟨#[c]⟩:=qF (by rw[e];rfl);rw[this,rD];simp
theorem AO(s n:c8)(G:eX n):(∃y,y∈(K3 s "@").drop 1/\gY y n=b9)↔FA s.cps.toList n.cps.toList:=by
 have w:("@":c8)=⟨#[64]⟩:=rfl;have a:∀k,n.cps.toList[k]?≠b7 64:=λk e=>by have:=G 64<|E6 e;lia
 generalize p:s.cps.toList=l;generalize F:n.cps.toList=m at a;have o:∀i j:Nat,i<j->j<=l.length->(j=l.length\/l[j]?=b7 64)->(∀k,i<k->k<j->l[k]?≠b7 64) -> (gY (Builtin.Str.strSub s (i+1) j) n=b9↔(l.drop<|i+1).take m.length=m/\∀c,l[i+1+m.length]?=b7 c->Bc c=c5):=by
  intro i j A L d x;rw[zo,StrLaws.strSub_toList,p,F,List.take_take];have B:∀k,((l.drop<|i+1).take<|j-(i+1))[k]?=if k<j-(i+1)then l[i+1+k]? else b8:=λk=>by rw[Rm];split;rw[OA];rfl
  have b:(l.drop<|i+1).take m.length=m->i+1+m.length<=j:=λe=>by
   refine Og λE=>?_;have g:m[j-(i+1)]?=l[j]?:=by rw[<-e,Rm,p0 (by lia),OA];congr 1;lia
   rcases d with z|z;have Q:=t4 F8 e;rw[F6,L8]at Q;lia;rw[z]at g;exact a _ g
  constructor;rintro⟨e1,g⟩;have t:m.length<=j-(i+1):=by have:=t4 F8 e1;rw[F6]at this;lia
  rw[Qm t]at e1;refine⟨e1,λc f=>?_⟩;by_cases q:m.length<j-(i+1);exact g c (by rw[B,p0 q];exact f);have:i+1+m.length=j:=by lia
  rw[this]at f;rcases d with z|z;rw[NI<|by lia]at f;cases f;rw[z]at f;cases f;rfl;rintro⟨e1,g⟩;have t:=b e1;rw[Qm<|by lia];refine⟨e1,λc f=>?_⟩;rw[B]at f;split at f;exact g c f;cases f
 unfold FA;rw[w];constructor;rintro⟨y,hy,hb⟩;obtain⟨k,i,j,h1,h2,rfl⟩:=(kj s 64 (by decide) y).mp hy;rw[p]at h1 h2;obtain⟨C,r,u,v⟩:=tJ h1 h2;exact⟨i,eN.mp<|E6 h1,(o i j C r u v).mp hb⟩;rintro⟨i,h1,h2⟩;obtain⟨k,D,e⟩:=QE<|eN.mpr h1;have h:(cb l 64)[k]?=b7 i:=by rw[w9 D,e]
 obtain⟨j,L⟩:∃j,(cb l 64++[l.length])[k+1]?=b7 j:=⟨_,w9<|by rw[B6];simp;lia⟩
 obtain⟨C,r,u,v⟩:=tJ h L;exact⟨_,(kj s 64 (by decide) _).mpr ⟨k,i,j,by rw[p];exact h,by rw[p];exact L,rfl⟩,(o i j C r u v).mpr h2⟩
theorem CB(c:Nat):decide (c∈(u3 "abcdefghijklmnopqrstuvwxyz").cps.toList)=Bc c:=by
 have g:(u3 "abcdefghijklmnopqrstuvwxyz").cps.toList=(C2 26).map (· + 97):=by decide +kernel
 rw[g,OW];unfold Bc;simp only[z6,G1,p7,D9];constructor;rintro⟨a,ha,rfl⟩;lia;rintro⟨h1,h2⟩;exact⟨c-97,by lia,by lia⟩
theorem yO(f:eX n):bN (.str s) n=b9↔FA s.cps.toList n.cps.toList:=by rw[<-AO s n f];show ((K3 s<|u3 "@").drop 1).any (λy=>begB y n)=b9↔_;rw[Nx];exact Iff.rfl
def fL:A0:=λds M R=>∃s n:c8,ds=[.str s,.str n]/\s.length<=100/\n.length<=100/\eX n/\R (.bl<|bN (.str s) n) M
theorem uB:cN fL kw:=by rintro ds M R ⟨t,n,rfl,_⟩;rfl
theorem Cw{l m:List Nat}{i:Nat}:(l.drop i).take (m.length+1)=64::m↔l[i]?=b7 64/\(l.drop<|i+1).take m.length=m:=by rcases ME i l.length with h|h;rw[O9 h,List.take_succ_cons,w9 h];constructor;intro e;injection e with e1 e2;exact⟨by rw[e1],e2⟩;rintro⟨e1,e2⟩;rw[e2,C0 e1];rw[Ru h,NI h];constructor;intro e;cases e;rintro⟨e,_⟩;cases e
def kO:u4:=bi<|dC<|.bl c5
def kP:u4:=B8 (wE (au<|t7 C4 (N3 (ab 0) (lV<|ab 3)<|lV<|ab 4)<|t7 aM (dC<|.str "@")<|ab 1)<|N4 (au<|t7 C4 (ab 4)<|u5 ii<|aa (ab 0) af)<|au<|t7 nv (t7 v5 (ab 0)<|ab 4)<|ab 2) (bi<|dC<|.bl b9) aT
def kQ:u4:=aB (lW (bW<|aa (u5 ii<|aa (ab 0) af) af) (ag 3)<|aB (bb (t7 aM (t7 aM (ab 3)<|dC<|.int 1)<|u5 ii<|aa (ab 1) af) 4)<|kP)<|kO
def pG:u4:=aB (bb (dC<|.str "abcdefghijklmnopqrstuvwxyz") 2)<|kQ
theorem vq:A8 fL 5 pG:=by
 rintro ds M R ⟨s,n,rfl,hs,w,F,h⟩;have A:=bx (a:=s);have J:=bx (a:=n);have h':∀b:Bool,(b=b9↔FA s.cps.toList n.cps.toList)->R (.bl b) M:=λb l=>by rw[show b=bN (.str s) n from Bool.eq_iff_iff.mpr<|l.trans (yO F).symm];exact h
 simp only[pG];walk_at"dl";simp only[kQ];walk_at"dl";refine⟨ah (by lia),⟨by lia,by lia⟩,?_⟩;refine aX (λi S M'=>M'=M/\(∃a b,S=[b7<|.str s,b7<|.str n,b7<|.str<|u3 "abcdefghijklmnopqrstuvwxyz",a,b])/\∀j,j<i->¬(s.cps.toList[j]?=b7 64/\(s.cps.toList.drop<|j+1).take n.cps.toList.length=n.cps.toList/\∀c,s.cps.toList[j+1+n.cps.toList.length]?=b7 c->Bc c=c5)) ?_ ?_ ⟨rfl,⟨_,_,rfl⟩,λj L=>p5 L<|NH _⟩;rintro S M' ⟨rfl,⟨a,b,rfl⟩,o⟩;refine⟨trivial,?_⟩;simp only[kO];walk_at"dl";rw[aW]at o;refine aY.now<|h' c5 ⟨(λz=>by cases z),?_⟩;rintro⟨i,h1,h2⟩;exact p5 ⟨h1,h2⟩<|o i (by have:=(z9.mp h1).1;lia)
 ·rintro i y S M' O ⟨rfl,⟨a,b,rfl⟩,o⟩ G u
  obtain⟨hi,rfl⟩:=cf.mp O;refine⟨trivial,?_⟩;walk_at"dl";simp only[Os];refine⟨ah (by lia),?_⟩;have m:∀{x:Option D},¬(s.cps.toList[i]?=b7 64/\(s.cps.toList.drop<|i+1).take n.cps.toList.length=n.cps.toList/\∀c,s.cps.toList[i+1+n.cps.toList.length]?=b7 c->Bc c=c5) -> C1 M' G [b7<|D.str s,b7<|D.str n,b7<|.str<|u3 "abcdefghijklmnopqrstuvwxyz",b7<|D.int i,x] M':=λ{x} f=>C1.now (u _ _ ⟨rfl,⟨_,_,rfl⟩,λj L=>by
   rcases ME j i with q|q;exact o j q;have:j=i:=by lia
   subst this;exact f⟩)
  have e:(s.cps.toList[i]?=b7 64/\(s.cps.toList.drop<|i+1).take n.cps.toList.length=n.cps.toList/\∀c,s.cps.toList[i+1+n.cps.toList.length]?=b7 c->Bc c=c5)->aY M' R (D.bl b9) M':=λf =>
   aY.now (h' b9 ⟨λ_=>⟨i,f⟩,λ_=>rfl⟩)
  simp only[kP];walk_at"dl";have r:(L6 s (b7 (i:Int))<|b7<|(i:Int)+1+(n.length:Int)).cps.toList=(s.cps.toList.drop i).take (n.cps.toList.length+1):=by have:=jJ s (a:=i) (b:=i+1+n.length) (by lia);rw[show ((i+1+n.length:Nat):Int)=(i:Int)+1+(n.length:Int) by lia,show i+1+n.length-i=n.cps.toList.length+1 by lia]at this;exact this
  have k:(u3 "@" ++ n).cps.toList=64::n.cps.toList:=by show ((u3 "@").cps++n.cps).toList=_;rw[Array.toList_append];rfl
  have v:(u3 "@").length=1:=by decide +kernel
  refine⟨ah (by lia),by rw[v];exact ah (by lia),⟨ap,ap⟩,?_⟩;rw[aV];by_cases g:(s.cps.toList.drop i).take (n.cps.toList.length+1)=64::n.cps.toList
  case neg =>
   rw[beq_eq_false_iff_ne.mpr λz=>g<|by rw[<-r,z,k]];refine cD<|m ?_;rintro⟨h1,h2,_⟩;exact g<|Cw.mpr ⟨h1,h2⟩
  rw[beq_iff_eq.mpr<|qF<|by rw[r,g,k]];obtain⟨h1,h2⟩:=Cw.mp g;have p:i+1+n.length<=s.length:=by have:=t4 F8 h2;rw[F6,L8]at this;have:=(z9.mp h1).1;lia
  refine cQ ⟨ah (by lia),⟨aH,aH⟩,?_⟩;rw[gQ];by_cases l:i+1+n.length=s.length;rw[beq_iff_eq.mpr<|show (i:Int)+1+(n.length:Int)=(s.length:Int) by lia];refine cQ<|e ⟨h1,h2,λc f=>?_⟩;rw[NI<|by lia]at f;cases f;rw[beq_eq_false_iff_ne.mpr<|show (i:Int)+1+(n.length:Int)≠(s.length:Int) by lia];obtain⟨c,Y⟩:∃c,s.cps.toList[i+1+n.cps.toList.length]?=b7 c:=⟨_,w9<|by lia⟩
  refine cD ⟨ah (by lia),?_⟩;rw[show (i:Int)+1+(n.length:Int)=((i+1+n.cps.toList.length:Nat):Int) by lia,aq Y];show if ((!(O7 (u3 "abcdefghijklmnopqrstuvwxyz") ⟨#[c]⟩ 0 (u3 "abcdefghijklmnopqrstuvwxyz").length 1).isEmpty) != b9)=b9 then _ else _
  rw[StrLaws.found_one,CB];cases d:Bc c with
  |true=>exact cD<|m λ⟨_,_,t⟩=>by rw[t c Y]at d;cases d
  |false=>exact cQ<|e ⟨h1,h2,λU h'=>by rw[Y]at h';cases h';exact d⟩
theorem vW(T:Tops P w K mg base):v8 P w K mg base 1 "_law_names_it" kw fL:=v8.byD (N:=["_law_saying_here","_law_name","_law_letters","_law_at","_law_behind"]) T.b T.f_names_it (by walk_at"sc") uB (by walk_at"dv") vq
noncomputable def Oi:Nat->D->Bool
 | 0,_=>c5
 |_+1,.non=>b9
 |_+1,.int _=>b9
 |_+1,.str _=>b9
 |n+1,.tup xs=>decide (xs.length<=99)&&xs.all (Oi n)
 |_,_=>c5
def MA(M:u8)(n:Nat)(a b:D):Prop:=(a=b/\Oi n a=b9)\/∃(i j m:Nat) (xs:List D),n=m+1/\a=.ref i/\b=.ref j/\ak M i xs/\ak M j xs/\xs.length<=1000/\xs.all (Oi m)=b9
def dg:Nat->A0:=λn ds M R=>∃a b,ds=[a,b]/\MA M n a b/\R (.bl b9) M
theorem Bj:∀n ds M R,dg n ds M R->ds.length=["_law_told_here","_law_due"].length:=by rintro n ds M R ⟨a,b,rfl,_⟩;rfl
theorem AN:∀ds M R,¬dg 0 ds M R:=by
 rintro ds M R ⟨a,b,rfl,h,_⟩;rcases h with⟨rfl,h⟩|⟨i,j,m,xs,h,_⟩
 cases a<;>cases h;cases h
def mY(n:Nat):u4:=bi<|oU (t7 C4 (u5 ii<|aa (ab 0) af)<|u5 ii<|aa (ab 1) af)<|u5 Jd<|aa (E7 2 [] (dZip<|aa (ab 0)<|aa (ab 1) af) (gR 2<|aI (ag 0)<|aI (ag 1) gU) oj<|u5 (dg n)<|aa (ab 0)<|aa (ab 1) af) af
def mZ(n:Nat):u4:=aB (B8 (wE (au<|u5 yF<|aa (ab 1)<|aa (dC<|.ty "tuple") af)<|Fj<|au<|u5 yF<|aa (ab 0)<|aa (dC<|.ty "tuple") af) (bi<|dC<|.bl c5) aT)<|mY n
def na(n:Nat):u4:=aB (B8 (wE (au<|u5 yF<|aa (ab 1)<|aa (dC<|.ty "list") af)<|Fj<|au<|u5 yF<|aa (ab 0)<|aa (dC<|.ty "list") af) (bi<|dC<|.bl c5) aT)<|mZ n
def jH(n:Nat):u4:=aB (B8 (au<|u5 yF<|aa (ab 1)<|aa (dC<|.ty "int") af) (bi<|oU (u5 yF<|aa (ab 0)<|aa (dC<|.ty "int") af)<|oU (Ch<|u5 yF<|aa (ab 0)<|aa (dC<|.ty "bool") af)<|t7 C4 (ab 0)<|ab 1) aT)<|na n
def gv(n:Nat):u4:=aB (B8 (au<|u5 yF<|aa (ab 1)<|aa (dC<|.ty "str") af) (bi<|oU (u5 yF<|aa (ab 0)<|aa (dC<|.ty "str") af)<|t7 C4 (ab 0)<|ab 1) aT)<|jH n
def iY(n:Nat):u4:=aB (B8 (au<|t7 N0 (ab 1)<|dC .non) (bi<|t7 N0 (ab 0)<|dC .non) aT)<|gv n
theorem CT:∀n ds M R,dg (n+1) ds M R->iY n (EE M R) (eR ["_law_told_here","_law_due"] ds) M:=by
 rintro n ds M R ⟨a,b,rfl,hs,h⟩;have f:∀(xs:List D) (H:u8->Prop),H M->xs.length<=1000->xs.all (Oi n)=b9->oo H (gR 2<|aI (ag 0)<|aI (ag 1) gU) oj (u5 (dg n)<|aa (ab 0)<|aa (ab 1) af) (λd M1=>Jd [d] M1<|aY M R) (L2.zipD xs xs) [] [b8,b8] M:=by
  intro xs H B g ok;refine bd (λ_=>.bl b9) (λS=>∃c d,S=[c,d]) B _ _ _ (λy O S o=>?_) ⟨_,_,rfl⟩ ?_ ?_;obtain⟨c,d,rfl⟩:=o;obtain⟨x,s,rfl⟩:∃x,x∈xs/\y=.tup [x,x]:=by
   obtain⟨i,hi⟩:=M9 O;unfold L2.zipD at hi;rw[C6]at hi;cases e:(xs.zip xs)[i]? with
   |none=>rw[e]at hi;cases hi
   |some p=>rw[e]at hi;obtain⟨t,l⟩:=So.mp e;have:p.1=p.2:=C0<|t.symm.trans l;refine⟨p.1,E6 t,?_⟩;rw[<-C0 hi];show D.tup [p.1,p.2]=_;rw[<-‹p.1=p.2›]
  refine⟨[b7 x,b7 x],⟨_,_,rfl⟩,λY q=>?_⟩;walk_at"dl";exact⟨trivial,x,x,rfl,.inl ⟨rfl,F0.mp ok x s⟩,q⟩;rw[C9];unfold L2.zipD;rw[v4,Q3];exact ah (by lia);rw[G2];obtain⟨k,r⟩:∃k,(L2.zipD xs xs).map (λ_=>D.bl b9)=(Ow k b9).map D.bl:=⟨(L2.zipD xs xs).length,by rw[List.map_const',List.map_replicate]⟩
  rw[r];refine⟨Ow k b9,ad,?_⟩;rw[show (Ow k b9).all id=b9 by simp];exact aY.bl h bt
 rcases hs with⟨rfl,ok⟩|⟨i,j,m,xs,e,rfl,rfl,hi,L,g,ok⟩
 cases a with
 |non=>simp only[iY];walk_at"dl";exact aY.now h
 |int k=>simp only[iY,gv,jH];walk_at"dl";simp(config:={ decide:=b9 }) only[and_self,true_and,↓reduceIte,u7,v7,t5];exact⟨rfl,aY.now h⟩
 |str k=>simp only[iY,gv];walk_at"dl";simp(config:={ decide:=b9 }) only[and_self,true_and,↓reduceIte,u7,v7,t5];exact⟨rfl,aY.now h⟩
 |tup xs=>have H:(decide (xs.length<=99)&&xs.all (Oi n))=b9:=ok;rw[D9,p7]at H;simp only[iY,gv,jH,na,mZ,mY];walk_at"dl";simp(config:={ decide:=b9 }) only[and_self,true_and,↓reduceIte,v7,t5,show ∀k:Int,u7 M w4 (.int k) (.int k)=b9 from λk=>by simp[u7],Ng,B5];exact⟨rfl,xs,xs,_,_,⟨rfl,rfl⟩,⟨rfl,rfl⟩,f xs _ ⟨trivial,trivial⟩ (by lia) H.2⟩
 |_=>cases ok
 have:m=n:=by lia
 subst this;simp only[iY,gv,jH,na,mZ,mY];have t:=hi.ty;have l:=L.ty;simp only[L3]at t l;walk_at"dl";simp(config:={ decide:=b9 }) only[t,l,and_self,true_and,↓reduceIte];refine⟨xs,hi,xs,L,⟨rfl,rfl⟩,?_⟩;rw[show u7 M w4 (.int (xs.length:Int)) (.int (xs.length:Int))=b9 by simp[u7]];simp only[Ng,B5,↓reduceIte];exact⟨xs,xs,_,_,⟨hi,rfl⟩,⟨L,rfl⟩,f xs _ ⟨hi,L⟩ g ok⟩
theorem Ce(T:Tops P w K mg base)(n:Nat)(C:v8 P w K mg base (0+n) "_law_alike" vS (dg n)):TopB mg B_ C_->List.Nodup (["_law_told_here","_law_due"]:List c8)->DerT P w K mg base (0+n) "_law_alike" ["_law_told_here","_law_due"] (top 63) (iY n):=by walk_at"dv"
theorem xE(T:Tops P w K mg base):∀n,v8 P w K mg base (0+n) "_law_alike" vS (dg n)
 | 0=>v8.never T.f_alike AN
 |n+1=>v8.byD (N:=["_law_told_here","_law_due"]) T.b T.f_alike (by walk_at"sc") (Bj<|n+1) (Ce T n<|xE T n)<|CT n
theorem Hl:cN Hq GV:=by rintro ds M R ⟨ns,m,_,_,rfl,_⟩;rfl
theorem BK(hf:HouseF ps rs):RV ps/\1<=(bh ps).length/\(bh ps).length<=12:=by
 have f:RV ps:=⟨hf.len.2,λq h=>⟨by have:=hf.many q h;lia,(hf.many q h).2⟩⟩
 have n:=qc f.2;refine⟨f,?_,by have:=f.1;lia⟩
 match ps,hf with
 | [],hf=>have:=hf.len.1;simp at this
 |p::ps,hf=>have:=(hf.many p<|by simp).1;rw[bh,List.flatMap_cons,B6,jp];lia
theorem LS(p:M <+: B)(h:sd M n kvs):sd B n kvs:=by
 rcases h with h|⟨e,h⟩
 exact .inl<|bn p h;exact .inr ⟨e,bn p h⟩
theorem EN(h:(ps.map (·.1)).Nodup):(bh ps).Nodup:=by unfold bh;rw[OI,List.pairwise_flatMap];refine⟨λp _=>?_,?_⟩;unfold cT iG;rw[D7,Qt];refine(OI.mp Rc).imp λ{a b} hne e=>hne ?_;have e:D.tup [.str p.1,.int<|0+(a:Int)]=.tup [.str p.1,.int<|0+(b:Int)]:=e;injection e with e;injection e with _ e;injection e with e;injection e with e;lia;refine(List.pairwise_map.mp<|OI.mp h).imp λ{a b} hne x hx y hy e=>hne ?_;unfold cT at hx hy;obtain⟨i,_,rfl⟩:=z6.mp hx;obtain⟨j,_,c⟩:=z6.mp hy;rw[<-c]at e;injection e with e;injection e with e _;injection e with e
theorem tR(hi:ak M i xs)(hj:ak M j xs)(h:∀x∈xs,v7 M 29 x=b9/\u7 M 29 x x=b9):(v7 M w4 (.ref i)=b9/\v7 M w4 (.ref j)=b9)/\u7 M w4 (.ref i) (.ref j)=b9:=⟨⟨qT (n:=29) hi λx a=>(h x a).1,qT (n:=29) hj λx a=>(h x a).1⟩,(xS (n:=29) hi hj).trans<|rH λx a=>(h x a).2⟩
def xf:u4:=bi<|dC<|.bl b9
def xg:u4:=B8 (au<|t7 PQ (u5 cr<|aa (ab 1)<|aa (ab 2)<|aa (ab 4) af)<|ab 6) (bi<|dC<|.bl c5) aT
def xh:u4:=aB (gX<|MV bR (ab 12)<|aa (eZ<|aa (dC<|.str "")<|aa (dC<|.int 0)<|aa (dC<|.int 0) af) af)<|xg
def xi:u4:=aB (B8 (Fj<|au<|u5 (dg 5)<|aa (ab 12)<|aa (ab 6) af) (bi<|dC<|.bl c5) aT)<|xh
def xj:u4:=aB (bb (u5 cr<|aa (ab 1)<|aa (ab 2)<|aa (ab 4) af) 12)<|xi
def xk:u4:=gX<|MV bR (ab 6)<|aa (eZ<|aa (ab 7)<|aa (u5 ii<|aa (ab 9) af)<|aa (u5 ii<|aa (ab 10) af) af) af
def zR:u4:=aB (B8 (au<|t7 PQ (u5 ca<|aa (ab 1)<|aa (ab 2)<|aa (ab 4)<|aa (ab 7) af)<|ab 10) (bi<|dC<|.bl c5) aT)<|xk
def zS:u4:=aB (gX<|dMl0 tX<|ab 11)<|zR
def zT:u4:=aB (B8 (Fj<|au<|u5 (dg 5)<|aa (ab 11)<|aa (ab 10) af) (bi<|dC<|.bl c5) aT)<|zS
def zU:u4:=aB (bb (u5 ca<|aa (ab 1)<|aa (ab 2)<|aa (ab 4)<|aa (ab 7) af) 11)<|zT
def vF:u4:=aB (iV 1 [3,4] (bE<|ab 9) (ag 0) (au<|u5 fL<|aa (t7 v5 (IL (ab 1)<|ab 0)<|dC<|.int 2)<|aa (ab 2) af) (ab 0) 10)<|zU
def vG:u4:=aB (lW (bE<|t7 v5 (ab 1)<|dC<|.int 1) (gR 2<|aI (ag 7)<|aI (ag 8) gU)<|B8 (au<|t7 Oh (ab 4)<|ab 8) (aB (bb (u5 dh<|aa (ab 1)<|aa (ab 2)<|aa (ab 4)<|aa (ab 7) af) 9)<|vF) aT)<|xj
def zV:u4:=aB (lW (bE<|t7 v5 (ab 1)<|dC<|.int 0) (gR 2<|aI (ag 4)<|aI (ag 5) gU)<|aB (bb (jV af) 6)<|vG)<|xf
def zW:u4:=aB (bb (u5 mi<|aa (ab 1)<|aa (ab 2) af) 3)<|zV
def zX:u4:=aB (bb (u5 yc<|aa (ab 1)<|aa (u5 iB<|aa (ab 0)<|aa (dC<|.int 1)<|aa (dC<|.int 40) af)<|aa (u5 mn<|aa (ab 1) af) af) 2)<|zW
def Jp:u4:=aB (bb (u5 mj<|aa (u5 eY<|aa (ab 0)<|aa (dC<|.int 0) af) af) 1)<|zX
theorem Ei(n:∀d∈log,aF ps rs d)(ll:log.length<=40)(J:name.length<=100)(sn:eX name)(y:∀s e,aG (aE rs log) s=b7 e->∃m a b c,aG kvs s=b7 (.ref m)/\B[m]?=b7 (.lst [a,b,oG rs log e,c]))(gk:sd B n3 kvs)(pM:B <+: M')(U:B.length<=q6)(w:M'[q6]?=b7 (.lst L))(l4:L.length<=4)(I:r∈rs.map (·.1))(H:name∈pW rs r)(hG:∀a b c M1,B <+: M1->M1[q6]?=b7 (.lst<|L++[zu rs log name r])->E.nx [x0,b7<|ax ps rs,b7<|.tup log,b7<|.ref n3,b7<|.str name,x5,b7<|.ref q6,b7<|.str r,x8,a,b,c,y12] M1):(aB (bb (u5 dh<|aa (ab 1)<|aa (ab 2)<|aa (ab 4)<|aa (ab 7) af) 9)<|vF) E [x0,b7<|ax ps rs,b7<|.tup log,b7<|.ref n3,b7<|.str name,x5,b7<|.ref q6,b7<|.str r,x8,y9,y10,y11,y12] M':=by
 walk_at"dl";refine⟨ps,rs,log,name,r,rfl,I,H,n,by lia,λnl hs=>?_⟩;have f:(M'++[MO.lst<|(gi rs log name r).map x9])[M'.length]?=b7 (.lst<|(gi rs log name r).map x9):=am;have q9:M'.length≠q6:=by have:=aA w;lia
 replace w:=ac (a:=MO.lst<|(gi rs log name r).map x9) w;replace pM:=pM.trans<|bt (mo:=MO.lst<|(gi rs log name r).map x9);generalize M'++[MO.lst<|(gi rs log name r).map x9]=M1 at f w pM;generalize M'.length=p9 at f q9;simp only[vF];walk_at"dl";refine⟨_,.inl f,λ_=>?_⟩;have P:∀s∈(gi rs log name r).map x9,∃e∈gi rs log name r,s=x9 e/\aG (aE rs log) s=b7 e:=λs u=>by obtain⟨e,l,rfl⟩:=z6.mp u;obtain⟨s',_,h1,_⟩:=md l;have G:s'=x9 e:=(bH n _<|bz h1).1;subst G;exact⟨e,l,rfl,h1⟩
 refine aU (λs=>bN (oG rs log<|(aG (aE rs log) s).getD .non) name) id (λS=>∃a,S=[a,b7<|.ref n3,b7<|.str name]) (.inl f) _ _ _ ?_ ⟨_,rfl⟩ (by rw[C9,v4];exact ah<|by lia) ?_;rintro s u S ⟨a,rfl⟩;obtain⟨e,l,G,h1⟩:=P s u;obtain⟨m,a',b,c,g1,g2⟩:=y s e h1;obtain⟨x,D,V⟩:=xv n (eI n e l).1 (eI n e l).2;refine⟨[b7 s,b7<|.ref n3,b7<|.str name],⟨_,rfl⟩,λY Z p=>?_⟩;rw[h1,Rb,D]at p;have R:=(hs s u).key;obtain⟨ks,W⟩:=(hs s u).tup;rw[W]at R g1 p ⊢;walk_at"dl";refine⟨kvs,_,LS pM gk,R,g1,_,.inl<|bn pM g2,?_⟩;rw[QQ,D];exact⟨x,name,rfl,V,J,sn,p⟩;have X:((gi rs log name r).map x9).filter (λs=>bN (oG rs log<|(aG (aE rs log) s).getD .non) name)=((gi rs log name r).filter λe=>bN (oG rs log e) name).map x9:=by rw[Q2];refine t4 (List.map x9)<|List.filter_congr λe l=>?_;obtain⟨e',_,G,h1⟩:=P (x9 e)<|K1 l;obtain⟨s',_,h2,_⟩:=md l;have D:s'=x9 e:=(bH n _<|bz h2).1;subst D;show bN (oG rs log<|(aG (aE rs log)<|x9 e).getD .non) name=_;rw[h2];rfl
 rw[G2,Oq,X];have nf:=K9 (λe=>bN (oG rs log e) name)<|gi rs log name r;have ns:∀x∈((gi rs log name r).filter λe=>bN (oG rs log e) name).map x9,St x:=λx A=>by obtain⟨e,l,rfl⟩:=z6.mp A;exact(eI n e (E5.mp l).1).1.st
 have o:(((gi rs log name r).filter λe=>bN (oG rs log e) name).map x9).length=((gi rs log name r).filter λe=>bN (oG rs log e) name).length:=v4 ..;generalize Q:((gi rs log name r).filter λe=>bN (oG rs log e) name).map x9=N at ns o;have g:(M1++[MO.lst N])[M1.length]?=b7 (.lst N):=am;have K:M1.length≠q6:=by have:=aA w;lia
 replace f:=ac (a:=MO.lst N) f;replace w:=ac (a:=MO.lst N) w;replace pM:=pM.trans<|bt (mo:=MO.lst N);generalize M1++[MO.lst N]=M2 at f g w pM;generalize M1.length=v at g K;simp only[zU];walk_at"dl";refine⟨ps,rs,log,name,r,rfl,I,H,n,by lia,J,λ_=>?_⟩;rw[Q];have h:(M2++[MO.lst N])[M2.length]?=b7 (.lst N):=am;have q:q6≠M2.length/\v≠M2.length/\p9≠M2.length/\B.length<=M2.length:=by have:=aA w;have:=aA g;have:=aA f;have:=pM.length_le;exact⟨by lia,by lia,by lia,by lia⟩
 replace f:=ac (a:=MO.lst N) f;replace g:=ac (a:=MO.lst N) g;replace w:=ac (a:=MO.lst N) w;replace pM:=pM.trans<|bt (mo:=MO.lst N);generalize M2++[MO.lst N]=T at f g h w pM;generalize M2.length=C at h q;have lS:N.all (Oi 4)=b9:=F0.mpr λx A=>by obtain⟨t,z,k,rfl⟩:=ns x A;rfl
 simp only[zT];walk_at"dl";refine⟨_,_,rfl,.inr ⟨C,v,4,N,rfl,rfl,rfl,.inl h,.inl g,by lia,lS⟩,?_⟩;walk_at"ifs";simp only[zS];walk_at"dl";refine⟨⟨_,.inl h⟩,_,h,?_⟩;replace f:=aJ (x:=.lst []) q.2.2.1 f;replace g:=aJ (x:=.lst []) q.2.1 g;replace w:=aJ (x:=.lst []) q.1 w;replace pM:=bp (x:=.lst []) pM q.2.2.2;generalize T.set C (.lst [])=F at f g w pM;simp only[zR];walk_at"dl";refine⟨ps,rs,log,name,r,rfl,I,H,n,by lia,J,λ_=>?_⟩;rw[Q];have O:=tR (M:=F++[MO.lst N]) (i:=F.length) (j:=v) (xs:=N) ad (.inl<|ac g) λx A=>xC 2 29 x (by decide) (ns x A).pl;refine⟨O.1,?_⟩;rw[O.2];refine cD ?_;replace f:=ac (a:=MO.lst N) f;replace g:=ac (a:=MO.lst N) g;replace w:=ac (a:=MO.lst N) w;replace pM:=pM.trans<|bt (mo:=MO.lst N);clear O;generalize F++[MO.lst N]=M5 at f g w pM;simp only[xk];walk_at"dl";refine⟨⟨_,.inl w⟩,_,.inl f,_,.inl g,ah (by decide),_,w,ah (by lia),?_⟩;rw[v4,o];exact hG _ _ _ _ (bp pM U)<|Nj<|aA w
theorem Ej{B o:u8}{E:DEnds}{ps:List (c8×Int)}{rs:List (c8×List c8)}{log:List D}{kvs:List (D×D)}{name:c8}{O:Nat}{V:Option D}{W:D}{F H v h k C:Option D}(L:HouseF ps rs)(P:∀d∈log,aF ps rs d)(ll:log.length<=40)(R:name.length<=100)(sn:eX name)(u:∀s e,aG (aE rs log) s=b7 e->∃m a b c,aG kvs s=b7 (.ref m)/\B[m]?=b7 (.lst [a,b,oG rs log e,c]))(gk:sd B O kvs)(n:B <+: o)(Y:∀a b c d e f M1,B <+: M1->E.nx [V,b7<|ax ps rs,b7<|.tup log,b7<|.ref O,b7<|.str name,b7 W,b7<|.ref o.length,a,b,c,d,e,f] M1):vG E [V,b7<|ax ps rs,b7<|.tup log,b7<|.ref O,b7<|.str name,b7 W,b7<|.ref o.length,F,H,v,h,k,C] (o++[MO.lst []]):=by
 simp only[vG,ax];walk_at"dl";intro _;have w:(o++[MO.lst []])[o.length]?=b7 (.lst []):=am;have q6:=n.length_le;replace n:=n.trans<|bt (mo:=MO.lst []);generalize o++[MO.lst []]=M1 at w n;generalize o.length=I at w q6 Y;have rl:=L.rl;refine aX (λi S M'=>∃F H v h k,B <+: M'/\M'[I]?=b7 (.lst<|(bL (rs.take i) name).map<|zu rs log name)/\S=[V,b7<|ax ps rs,b7<|.tup log,b7<|.ref O,b7<|.str name,b7 W,b7<|.ref I,F,H,v,h,k,C]) ?_ ?_ ⟨_,_,_,_,_,n,w,rfl⟩;rintro S M' ⟨F,H,v,h,k,pM,w,rfl⟩;rw[v4,MT]at w;refine⟨trivial,?_⟩;simp only[xj];walk_at"dl";have rn:(bL rs name).length<=4:=by have:=K9 (λp:c8×List c8=>decide<|name∈p.2) rs;unfold bL;rw[v4];lia
 have nl:((bL rs name).map<|zu rs log name).length<=4:=by rw[v4];exact rn
 refine⟨ps,rs,log,name,rfl,L,P,by lia,R,?_⟩;have U:∀x∈(bL rs name).map (zu rs log name),Oi 4 x=b9/\∀M:u8,v7 M 29 x=b9/\u7 M 29 x x=b9:=λx J=>by obtain⟨r,_,rfl⟩:=z6.mp J;exact⟨rfl,λM=>xC 2 29 _ (by decide) rfl⟩
 generalize hN:(bL rs name).map (zu rs log name)=N at U w nl;have l:(M'++[MO.lst N])[M'.length]?=b7 (.lst N):=am;have t:I≠M'.length/\B.length<=M'.length:=by have:=aA w;have:=pM.length_le;exact⟨by lia,by lia⟩
 replace w:=ac (a:=MO.lst N) w;replace pM:=pM.trans<|bt (mo:=MO.lst N);generalize M'++[MO.lst N]=M2 at l w pM;generalize M'.length=K at l t;have lS:N.all (Oi 4)=b9:=F0.mpr λx J=>(U x J).1;simp only[xi];walk_at"dl";refine⟨_,_,rfl,.inr ⟨K,I,4,N,rfl,rfl,rfl,.inl l,.inl w,by lia,lS⟩,?_⟩;walk_at"ifs";simp only[xh];walk_at"dl";refine⟨⟨_,.inl l⟩,ah (by decide),_,l,ah (by lia),?_⟩;replace w:=aJ (x:=.lst<|N++[D.tup [D.str<|u3 "",D.int 0,D.int 0]]) t.1 w;replace pM:=bp (x:=.lst<|N++[D.tup [D.str<|u3 "",D.int 0,D.int 0]]) pM t.2;generalize M2.set K (.lst<|N++[D.tup [D.str<|u3 "",D.int 0,D.int 0]])=X at w pM;simp only[xg];walk_at"dl";refine⟨ps,rs,log,name,rfl,L,P,by lia,R,?_⟩;rw[hN];have rf:=tR (M:=X++[MO.lst N]) (i:=X.length) (j:=I) (xs:=N) ad (.inl<|ac w) λx J=>(U x J).2 _;refine⟨rf.1,?_⟩;rw[rf.2];exact Y _ _ _ _ _ _ _<|pM.trans bt;rintro i y S M' hy ⟨F,H,v,h,k,pM,w,rfl⟩ G z;rw[C6]at hy;obtain⟨q,hi,rfl⟩:=NJ.mp hy;have Z:=E6 hi;have il:i<rs.length:=(z9.mp hi).1;have et:rs.take (i+1)=rs.take i++[q]:=by rw[M7,hi];rfl
 have er:=qW L.rnd Z;have hr:q.1∈rs.map (·.1):=K1 Z;have lf:((bL (rs.take i) name).map<|zu rs log name).length<=4:=by have:=K9 (λp:c8×List c8=>decide<|name∈p.2)<|rs.take i;unfold bL;rw[v4,v4];rw[F6]at this;lia
 refine⟨trivial,?_⟩;unfold fi;walk_at"dl";refine⟨trivial,⟨ap,kh⟩,?_⟩;rw[kH];rw[et]at z;have ea:bL (rs.take i++[q]) name=bL (rs.take i) name++bL [q] name:=by unfold bL;rw[O4,Fn]
 rw[ea,Fn]at z;by_cases A:name∈q.2;rw[dT_ A];have Q:(bL [q] name).map (zu rs log name)=[zu rs log name q.1]:=by unfold bL;rw[MZ,p0<|dT_ A];rfl
 rw[Q]at z;rw[<-er]at A;exact Ei (y9:=v) P ll R sn u gk pM q6 w lf hr A λa b c M2 T g=>C1.now<|z _ _ ⟨_,_,_,_,_,T,g,rfl⟩;rw[dF_ A];have Q:(bL [q] name).map (zu rs log name)=[]:=by unfold bL;rw[MZ,p4<|by simpa using A];rfl
 rw[Q,Nh]at z;exact C1.now<|z _ _ ⟨_,_,_,_,_,pM,w,rfl⟩
theorem Jk:A8 Hq 13 Jp:=by
 rintro ds M R ⟨ns,mo,ai,⟨J,I⟩,rfl,rfl,h⟩;have t:ak [mo] 0 (ns.map D.int):=by have:=uj (M:=[mo]) (n:=0) (mo:=mo) rfl I;rw[J]at this;exact this
 simp only[Jp];walk_at"dl";refine⟨0,ns,0,rfl,t,_,rfl,λps r l=>?_⟩;obtain⟨z,K,L⟩:=BK l;simp only[zX];walk_at"dl";refine⟨0,ns,1,40,rfl,t,by lia,by decide,by decide,λxs xl=>⟨ps,_,rfl,z,ps,r,1,2,xs,bh ps,rfl,l,?_,by lia,?_,λ_ q=>q,K,L,EN l.pnd,λlog Q tm nn ll=>?_⟩⟩;exact .inl rfl;exact .inl rfl;generalize [mo]++[MO.lst<|xs.map D.int]++[MO.lst<|bh ps]=B0;simp only[zW];walk_at"dl";refine⟨ps,r,log,rfl,l,Q,by lia,λn3 B kvs _ gk Y nk kl P=>?_⟩;have o:∀s e,aG (aE r log) s=b7 e->∃m a b c,aG kvs s=b7 (.ref m)/\B[m]?=b7 (.lst [a,b,oG r log e,c]):=λs e W=>by
  have g:=nh.mp<|bz W;obtain⟨d,V⟩:=P s e (gM bo.nd g.1) g.2;obtain⟨⟨e',m,h1,_,A,U⟩,_⟩:=Y _<|bz V;dsimp only at h1 A U;subst h1;have E:aG (av r log) s=b7 e:=gM bo.nd g.1;rw[E]at A;cases A;have es:s=x9 e:=(Ly bo E).1;refine⟨m,.str<|bI e,.str<|dG e,Je e,V,?_⟩;have Z:xW (av r log) log s e=oG r log e:=by unfold xW oG;rw[Fq (T:=aE r log) (E.trans W.symm) log,<-es]
  rw[U,Z]
 clear Y P nk;simp only[zV,ax];walk_at"dl";intro _;refine aX (λi S M'=>∃u v w F H x j k C,B <+: M'/\S=[b7<|.ref 0,b7<|ax ps r,b7<|.tup log,b7<|.ref n3,u,v,w,F,H,x,j,k,C]) ?_ ?_ ⟨_,_,_,_,_,_,_,_,_,Oa,rfl⟩;rintro S M' ⟨u,v,w,F,H,x,j,k,C,pM,rfl⟩;refine⟨trivial,?_⟩;simp only[xf];walk_at"dl";exact .inl<|h _;rintro i y S M0 X ⟨u,v,w,F,H,x,j,k,C,N,rfl⟩ G hG;rw[C6]at X;obtain⟨p,g,rfl⟩:=NJ.mp X;replace g:=E6 g;refine⟨trivial,?_⟩;have K:p.1.length<=100:=by have:=l.nm p g;lia
 have sn:eX p.1:=l.sm p g;unfold iH;walk_at"dl";exact⟨trivial,ah (by decide),Ej l Q ll K sn o gk N λa b c d e f M1 O=>C1.now<|hG _ _ ⟨_,_,_,_,_,_,_,_,_,O,rfl⟩⟩
theorem ok_law(T:Tops P w K mg base)(F:Nu K "law" "law" (top 64) f fd):FnOk P w K mg base L5 11 f fd GV (Nq K Hq):=EQ (N:=["_law_script","_law_house_here","_law_log_here","_law_shown_here","_law_name","_law_many","_law_due","_law_room","_law_members","_law_fresh","_law_naming","_law_found","_law_told_here"]) T.b F (by walk_at"sc") Hl (by have:=pS T;have:=lz T;have:=qP T;have:=pT T;have:=yJ T;have:=DJ T;have:=DM T;have:=Kl T;have:=DF T;have:=vW T;have:=xE T 5;walk_at"dv") Jk
end
end LW
namespace PySem.W.Fast
def tw10012944498049512331:=Nat
def tw10036429230153252406:=Nat
def tw10109627994629001530:=Nat
def tw10109880689991851611:=Nat
def tw1021679584220385456:=Nat
def tw10242688270036935123:=Nat
def tw10264905315857953031:=Nat
def tw10280412391049112105:=Nat
def tw10312799978514407619:=Nat
def tw10426868772478200592:=Nat
def tw10430822297992661604:=Nat
def tw10577569273912090394:=Nat
def tw10669344124436115538:=Nat
def tw10706812252420138225:=Nat
def tw10745613660481034978:=Nat
def tw10867180146102664081:=Nat
def tw10875296208297971011:=Nat
def tw10935762266520433395:=Nat
def tw10959800068784631633:=Nat
def tw10974129847876562406:=Nat
def tw11072610743032798866:=Nat
def tw11122299483951701845:=Nat
def tw11138665271294938310:=Nat
def tw11212984158955653159:=Nat
def tw11226160043066972293:=Nat
def tw11280338046088577597:=Nat
def tw11299136810590591914:=Nat
def tw11320595633086451886:=Nat
def tw11381602916727642304:=Nat
def tw11388798106235447107:=Nat
def tw11506660921933055972:=Nat
def tw11630546735164313869:=Nat
def tw11647228718248830782:=Nat
def tw1176256079663024551:=Nat
def tw11830649312376870886:=Nat
def tw11911793303524075068:=Nat
def tw11953912855449351652:=Nat
def tw12004359081080293400:=Nat
def tw12059408081624655594:=Nat
def tw12071533514406922571:=Nat
def tw12077404794590682410:=Nat
def tw12119980449884877646:=Nat
def tw12189183768445684722:=Nat
def tw12208583083797404712:=Nat
def tw12236187183042921458:=Nat
def tw12271702590084694028:=Nat
def tw12429508392465798797:=Nat
def tw12523731135654756284:=Nat
def tw12531023224461191444:=Nat
def tw12531257799245867953:=Nat
def tw12636543578981391867:=Nat
def tw12669539224025542422:=Nat
def tw12763849807254580716:=Nat
def tw12788514243527180279:=Nat
def tw12842210354926058015:=Nat
def tw12917333007037279500:=Nat
def tw13212067649453580598:=Nat
def tw13293621739202368800:=Nat
def tw13315848632100096615:=Nat
def tw13335214182219690490:=Nat
def tw13338954892246891250:=Nat
def tw13343846422193995515:=Nat
def tw13347691104989346233:=Nat
def tw13357405770160005487:=Nat
def tw13397483092028979058:=Nat
def tw13415082543433958898:=Nat
def tw13420334550330441883:=Nat
def tw13478190330333524959:=Nat
def tw13485000835736745338:=Nat
def tw13570935532259992628:=Nat
def tw13672707379305565350:=Nat
def tw13707500523004494737:=Nat
def tw13720909614716195175:=Nat
def tw13733460613906006860:=Nat
def tw13833620309443875323:=Nat
def tw13882380999683647413:=Nat
def tw13886040717739002451:=Nat
def tw13941745015520926156:=Nat
def tw14000163934027172208:=Nat
def tw14058466307261916129:=Nat
def tw14095315222349591332:=Nat
def tw14121917779325564491:=Nat
def tw14150689143190630336:=Nat
def tw14171847080280104730:=Nat
def tw14175264998670776459:=Nat
def tw14204430831427708975:=Nat
def tw14383626605184491212:=Nat
def tw14513522071047450130:=Nat
def tw14546219233487920031:=Nat
def tw14616129199517279876:=Nat
def tw14642500340266589915:=Nat
def tw1478179714445168877:=Nat
def tw15007899596889450630:=Nat
def tw15078919983217577476:=Nat
def tw15081989748096898154:=Nat
def tw15103845686138931878:=Nat
def tw15186970781625186083:=Nat
def tw15257730514905968729:=Nat
def tw1527862683111472535:=Nat
def tw1529505000026635644:=Nat
def tw15377238938740412038:=Nat
def tw15443041492514818667:=Nat
def tw15498699241148245100:=Nat
def tw15513292282979259796:=Nat
def tw15553930883997267028:=Nat
def tw15558872054074844012:=Nat
def tw15646651073460760539:=Nat
def tw15740388038696366130:=Nat
def tw15769457712633491209:=Nat
def tw15885941064501382808:=Nat
def tw16002961705442617417:=Nat
def tw1603509648034219732:=Nat
def tw16107289725576410181:=Nat
def tw16174555384959131590:=Nat
def tw16236651676232207963:=Nat
def tw16280241012228860619:=Nat
def tw16480973452090584985:=Nat
def tw16551737857559040302:=Nat
def tw16736773465934487501:=Nat
def tw16744760858708116353:=Nat
def tw16754263990331505121:=Nat
def tw16809199086873239176:=Nat
def tw16815422913941849737:=Nat
def tw16891899824670394793:=Nat
def tw16908779015210627022:=Nat
def tw17047994365380336569:=Nat
def tw1711354904764962478:=Nat
def tw17177597424467069741:=Nat
def tw17266971887815647761:=Nat
def tw17309551443108761211:=Nat
def tw17310130613769968678:=Nat
def tw17389586890120746173:=Nat
def tw17425319167594414585:=Nat
def tw17477894695937201831:=Nat
def tw17491501911171696842:=Nat
def tw17586659673920513425:=Nat
def tw17658858364922550914:=Nat
def tw17707450244035569210:=Nat
def tw17786627611068703728:=Nat
def tw17791219128361456674:=Nat
def tw17889204234661829138:=Nat
def tw17940329024514690789:=Nat
def tw17940975739460128038:=Nat
def tw1805296723525710144:=Nat
def tw18139657047808733203:=Nat
def tw18148119071370280059:=Nat
def tw1815209437960773745:=Nat
def tw18242452448841613248:=Nat
def tw18281979755824305346:=Nat
def tw18323266296710541835:=Nat
def tw18323310489370257819:=Nat
def tw18351807759782875677:=Nat
def tw18404188316008736275:=Nat
def tw1895356278039715289:=Nat
def tw1902427913833284740:=Nat
def tw1955040381466893223:=Nat
def tw1981243270509724606:=Nat
def tw1991385878116974595:=Nat
def tw2018087559816098283:=Nat
def tw2077210949472507107:=Nat
def tw2130768102468500866:=Nat
def tw2150694089648774090:=Nat
def tw2202626906308667153:=Nat
def tw2229308295586068336:=Nat
def tw2256368153564489684:=Nat
def tw2306259903381487458:=Nat
def tw2390551856845659757:=Nat
def tw2408712608177154508:=Nat
def tw2436709524738416678:=Nat
def tw2530588244016892103:=Nat
def tw2563741189110198108:=Nat
def tw2647412405999128984:=Nat
def tw2662803454834407587:=Nat
def tw2776266559802262581:=Nat
def tw2784420585979556129:=Nat
def tw2807500718402369240:=Nat
def tw2909116556724112808:=Nat
def tw2920712472672575679:=Nat
def tw3036234202137504411:=Nat
def tw3051255537525701687:=Nat
def tw3103804088434037596:=Nat
def tw3112057012689018282:=Nat
def tw320787276787091212:=Nat
def tw3225918376508228432:=Nat
def tw3316797702259196741:=Nat
def tw3368013562081404381:=Nat
def tw337178754481106561:=Nat
def tw3383001533641623248:=Nat
def tw3394349952024248771:=Nat
def tw3445729157974826683:=Nat
def tw3546933722976512962:=Nat
def tw3551781901793538681:=Nat
def tw3554164862197418307:=Nat
def tw3620477895043892728:=Nat
def tw3640528456335140183:=Nat
def tw3659767191218428461:=Nat
def tw3682708127012384163:=Nat
def tw3821567982250259786:=Nat
def tw3909984653730526643:=Nat
def tw3915534744370728234:=Nat
def tw3973208010443826052:=Nat
def tw4115910923589260988:=Nat
def tw4210015373854078052:=Nat
def tw422362520319741580:=Nat
def tw4257463326075949714:=Nat
def tw4353724845227244320:=Nat
def tw4425343545994484128:=Nat
def tw4457820371757726737:=Nat
def tw4476144775631753681:=Nat
def tw4495394054762695632:=Nat
def tw4534789482228089522:=Nat
def tw4592498946847091691:=Nat
def tw4592874271157078488:=Nat
def tw4605331122737923377:=Nat
def tw461931255395194330:=Nat
def tw4642267921167066545:=Nat
def tw4658830198184781389:=Nat
def tw4718000004450940464:=Nat
def tw4725817694178981711:=Nat
def tw4794859570492014525:=Nat
def tw4818838787422920259:=Nat
def tw5056679346592528279:=Nat
def tw512462155583144010:=Nat
def tw5219455002035179084:=Nat
def tw5336363444136887829:=Nat
def tw5363958322137206577:=Nat
def tw5442557483183181210:=Nat
def tw5447404632235365509:=Nat
def tw5476274781310921766:=Nat
def tw5549305849446462825:=Nat
def tw5554236577533851024:=Nat
def tw580064574246730892:=Nat
def tw5816052251245569384:=Nat
def tw5860153443841169733:=Nat
def tw5932983747012727923:=Nat
def tw5954268951853739843:=Nat
def tw5984159331278211283:=Nat
def tw6053102735644826038:=Nat
def tw6093475230886213622:=Nat
def tw6177681427448550747:=Nat
def tw6199332976848147921:=Nat
def tw6260285027931812400:=Nat
def tw6262714532692518180:=Nat
def tw6470964730060340108:=Nat
def tw6484296945279990125:=Nat
def tw6496155192203504899:=Nat
def tw6540025240468010061:=Nat
def tw6548214924755117373:=Nat
def tw6560606899853387875:=Nat
def tw6577014217352346232:=Nat
def tw6611683682239396391:=Nat
def tw6614962975877600805:=Nat
def tw6765319548936702924:=Nat
def tw6867600297102153749:=Nat
def tw6911669848964807667:=Nat
def tw6937782817743781964:=Nat
def tw6948265355693429231:=Nat
def tw6996596641214992271:=Nat
def tw7076325270803055079:=Nat
def tw7082019836097454778:=Nat
def tw7086384520298538470:=Nat
def tw7177550502580979082:=Nat
def tw7182545756185375209:=Nat
def tw721637996189967255:=Nat
def tw7240561529424312631:=Nat
def tw7247370078610390286:=Nat
def tw7249524008494995653:=Nat
def tw7569351719868606829:=Nat
def tw760838367007828207:=Nat
def tw7631586413431848619:=Nat
def tw7771497274898028210:=Nat
def tw7839425607525551721:=Nat
def tw7854751752018890966:=Nat
def tw7863824149038334231:=Nat
def tw7874403930651756439:=Nat
def tw796132870383779824:=Nat
def tw799905091292059736:=Nat
def tw8002653685178497361:=Nat
def tw8127112059445499919:=Nat
def tw8127587032445148478:=Nat
def tw8253907231978487635:=Nat
def tw8266843937918662436:=Nat
def tw8306113877224050578:=Nat
def tw8374040076128483100:=Nat
def tw8409829799193677106:=Nat
def tw8516107961281202104:=Nat
def tw8544536743010870264:=Nat
def tw873712588721167974:=Nat
def tw8763036650070143398:=Nat
def tw8809768752117722855:=Nat
def tw8826316996931793856:=Nat
def tw8862591309245461007:=Nat
def tw8895491916700484223:=Nat
def tw8919890857323544230:=Nat
def tw8995329194221164999:=Nat
def tw9013899140961181682:=Nat
def tw9026610381040877436:=Nat
def tw9132932121529013752:=Nat
def tw9167234875191407409:=Nat
def tw9176551905235706971:=Nat
def tw9255114914090727964:=Nat
def tw9278635186337688262:=Nat
def tw9357592068931003227:=Nat
def tw9406331042578251459:=Nat
def tw9477437547610291845:=Nat
def tw9550297607745575394:=Nat
def tw9637383469550345909:=Nat
def tw9647613154033638716:=Nat
def tw9650671285197262025:=Nat
def tw9688975517426262110:=Nat
def tw969745580609791886:=Nat
def tw9818102343776308303:=Nat
def tw9866022408344525027:=Nat
def tw9867076731459369858:=Nat
def tw9871932137333739433:=Nat
def tw9877297299679309106:=Nat
def tw9877968539063723235:=Nat
def tw991385626544965758:=Nat
def tw9962005263454541047:=Nat
end PySem.W.Fast
theorem L2.us1{P:List ADI->Prop}(h:∀a0,P [a0]):∀us:List ADI,us.length=1->P us
 | [a0],_=>h a0
theorem L2.us2{P:List ADI->Prop}(h:∀a0 a1,P [a0,a1]):∀us:List ADI,us.length=2->P us
 | [a0,a1],_=>h a0 a1
theorem L2.us3{P:List ADI->Prop}(h:∀a0 a1 a2,P [a0,a1,a2]):∀us:List ADI,us.length=3->P us
 | [a0,a1,a2],_=>h a0 a1 a2
theorem L2.us4{P:List ADI->Prop}(h:∀a0 a1 a2 a3,P [a0,a1,a2,a3]):∀us:List ADI,us.length=4->P us
 | [a0,a1,a2,a3],_=>h a0 a1 a2 a3
theorem L2.us5{P:List ADI->Prop}(h:∀a0 a1 a2 a3 a4,P [a0,a1,a2,a3,a4]):∀us:List ADI,us.length=5->P us
 | [a0,a1,a2,a3,a4],_=>h a0 a1 a2 a3 a4
local macro_rules | `(tactic| walk_at"fk")=>`(tactic| ((case a=>k_is);(case l=>k_is);(case c=>k_is);(case k=>k_is)))
local macro_rules | `(tactic| walk_at"f1")=>`(tactic| (refine' L2.fnat_mk (by assumption) (by assumption) ?a ?l ?c ?k (λ_ _ _ _ _ _=>L2.us1 (λ_=>rfl));walk_at"fk"))
local macro_rules | `(tactic| walk_at"f2")=>`(tactic| (refine' L2.fnat_mk (by assumption) (by assumption) ?a ?l ?c ?k (λ_ _ _ _ _ _=>L2.us2 (λ_ _=>rfl));walk_at"fk"))
local macro_rules | `(tactic| walk_at"f3")=>`(tactic| (refine' L2.fnat_mk (by assumption) (by assumption) ?a ?l ?c ?k (λ_ _ _ _ _ _=>L2.us3 (λ_ _ _=>rfl));walk_at"fk"))
local macro_rules | `(tactic| walk_at"f4")=>`(tactic| (refine' L2.fnat_mk (by assumption) (by assumption) ?a ?l ?c ?k (λ_ _ _ _ _ _=>L2.us4 (λ_ _ _ _=>rfl));walk_at"fk"))
local macro_rules | `(tactic| walk_at"f5")=>`(tactic| (refine' L2.fnat_mk (by assumption) (by assumption) ?a ?l ?c ?k (λ_ _ _ _ _ _=>L2.us5 (λ_ _ _ _ _=>rfl));walk_at"fk"))
open PySem PySem.W PyProof.Rows
set_option maxRecDepth 100000 in
set_option maxHeartbeats 0 in
theorem PySem.Challenge.cw_talkmarks_k43_where_one_is_named_holds : PySem.Challenge.rw_talkmarks_k43_where_one_is_named.Holds := by
 w_on; o_law; k_head; (case hw=>w_witness2)
 k_fill
 refine L2.law_walk (l:=PySem.Challenge.rw_talkmarks_k43_where_one_is_named) (k:=11) (st:=LW.top 64) (x:="_law_script") rfl rfl rfl ⟨rfl,by decide,by decide⟩ (fun w h Y=>PySem.W.kIn_of Y) ?F<|fun _ _ _ _ _ _ _=>rfl
 case F =>
  intro w mg h X G;have T:∀ P base,LW.Tops P w (L2.KOf X) mg base:=by
   intro P base;dsimp only[L2.KOf];constructor;walk_at"f1";walk_at"f2";walk_at"f2";walk_at"f1";walk_at"f2";walk_at"f2";walk_at"f2";walk_at"f1";walk_at"f1";walk_at"f2";walk_at"f2";walk_at"f3";walk_at"f3";walk_at"f1";walk_at"f1";walk_at"f3";walk_at"f2";walk_at"f2";walk_at"f3";walk_at"f2";walk_at"f2";walk_at"f2";walk_at"f2";walk_at"f2";walk_at"f4";walk_at"f3";walk_at"f2";walk_at"f2";walk_at"f1";walk_at"f3";walk_at"f4";walk_at"f4";walk_at"f4";walk_at"f4";walk_at"f3";walk_at"f2";walk_at"f2";walk_at"f2";walk_at"f3";walk_at"f2";walk_at"f1";walk_at"f1";walk_at"f2";walk_at"f3";walk_at"f3";walk_at"f4";walk_at"f5";walk_at"f3";walk_at"f2";walk_at"f2";walk_at"f2";walk_at"f2";walk_at"f1"
   ·unfold LW.B_ LW.C_
    iterate 16 (refine' L2.TopB.b ?tq ?_; (case tq=>refine' PySem.W.mg_none_of X G ?tr; (case tr=>k_is)))
    exact .nil
  exact ⟨(T PySem.Challenge.pw_talkmarks_k43_where_one_is_named {}).f_law,fun base f d F=>LW.ok_law (T _ base) F⟩
