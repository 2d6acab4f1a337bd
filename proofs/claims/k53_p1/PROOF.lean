import PyProof.Rows.All
import Wide.All
import OpenK.AllK
import Wide.FinOn
import Lean
import PyProof.EqAt
import PyProof.EqKinds
import PyProof.TupleCall
import PyProof.CompFree
import PyProof.NeKinds
import KE.KSortTup
import KE.KRevSl
import KE.KDictSum
import KE.KEqDict
import PyProof.Conv_int_bool
import PyProof.AttrMissHeap
import KE.KLam
import KE.KRevIter
import PySem.Challenge.RW_talkmarks_k53_bells_of_what_is_said_anew
open PySem.Str renaming ofString->AA0
open PySem renaming wpAny_bind->p6,wpAny_pure->q9,Spec->AAE,wpAny_holding->D7,wpAny_newObj_type->J7,wpAny_call_entry->J6,wpAny_callSpecial?_slot->Lp,wpAny_mono->E5,wpAny_setState_of->Ld,mem_of_lookup->LR,codeAny_builtin->Lb,wpAny_fieldsOf->La,wpAny_ite_split->Ly,eqIsQuiet_byValue->Mg,wpAny_setField->Lx,wpAny_specialOf->LP,wpAny_Call_Name_kw->ML,sizeLine_eq->KY,wpAny_forIn_list->Mb,wpAny_typeNameOfWhole_keyiter->O1,wpAny_typeNameOfWhole_valiter->O0,wpAny_typeOf->Ll,wpAny_truthy_bool->MJ,Value->K9,wpAny_askSetting->MG,wpAny_isInstance->MF,plainId_quiet->LO,builtinLookup_eq_fast->NT,wpAny_attempt->LN,wpAny_notOrdered_dict->NS,wpAny_seqItems->L7,wpAny_dictEntries->Nf,wpAny_typeNameOf_keyiter->OT,wpAny_typeNameOf_valiter->OS,wpAny_setEntries_of->NQ,wpAny_rule->Lj,wpAny_callSpecialIfBoundUnlessNone?_slot->P0,wpAny_dictEpoch->Nc,wpAny_newList->My,wpAny_pyHash_int->NL,wpAny_pyHash_str->NK,codeAny_mono->Mt,wpAny_passesOwn->NI,wpAny_loadPart'->PZ,typeLookup_type->NH,wpAny_Call_method_late->Pp,wpAny_pyIter_slot->Ou,atKey_none_of_get->Os,wpAny_isOneOf_valiter->Pl
open PySem.Heap renaming get?_push_of_some->v5,get?_push_size->z6,lt_size->v7,get?_update_self->Kt,size_push->K0,get?_update_other->Ni,get?_update_ne->MM,SameBut->Lm
open List renaming length_map->u4,getElem?_eq_getElem->v9,getElem?_eq_some_iff->w6,mem_cons_of_mem->A0,size_toArray->x3,length_append->z5,mem_map->v6,mem_cons_self->C6,mem_filter->A3,mem_append_right->E3,length_cons->C2,getElem?_append_left->G9,getD_eq_getElem?_getD->J3,length_nil->B8,mem_cons->z9,getElem?_map->D0,mem_append->C9,length_singleton->G8,map_cons->C0,length_filter_le->J2,nil_append->D5,prefix_append->F9,mem_of_getElem?->J1,all_eq_true->E6,mem_map_of_mem->G7,getElem?_append_right->KP,append_assoc->F8,range->A2,length_take->G2,mem_append_left->Ks,mem_singleton->Km,getElem?_set_self->KO,map_append->G1,getElem_mem->J0,getElem?_set_ne->KH,mem_range->F7,map_map->E2,filterMap_cons->KG,append_nil->I9,length_set->J5,any_eq_true->Kq,getElem?_of_mem->Lo,filter_cons->KN,find?_cons->KC,getElem?_eq_none->LF,cons_lt_cons_iff->LD,length_drop->K1,lt_irrefl->KB,all_cons->KA,filter_append->LC,getElem?_take_of_lt->MN,nodup_cons->Lc,length->Kl,take_length->LA,mem_filterMap->Ml,getElem?_drop->Mj,toArray->KZ,nodup_iff_pairwise_ne->NW,take_add_one->Mf,filter_congr->Me,zip_cons_cons->MK,lookup_cons->Md,getElem_map->Mc,eq_nil_of_length_eq_zero->O2,filter_nil->L9,take_of_length_le->NU,drop_eq_getElem_cons->OW,pairwise_iff_getElem->OV,prefix_rfl->ME,length_range->Ng,getElem?_replicate->OR,getElem_of_mem->NR,map_id->Lv,drop_eq_nil_of_le->ON,length_replicate->OL,find?_some->Nd,foldl_append->NM,mem_of_mem_take->OI,nodup_nil->M9,map_congr_left->OG,filter_cons_of_neg->Pw,pairwise_singleton->Pv,getElem?_cons_succ->Pu,getElem?_take->OB,filter_map->NF,filter_filter->Oz,filter_eq_nil_iff->Po,ext_getElem?->Ox,pairwise_map->Ot,find?_append->Op,nodup_append->Oo,replicate->ND,set_append_right->Pm,cons_append->On,not_mem_nil->Om,pairwise_append->Pj,map_drop->NB,of_mem_zip->Oj,filter_sublist->Pi,find?_map->Od,getD->Ms
open PySem.W renaming Frag->u0,kas_desc->G5,keepIn->L8,fnOf->LL,kas_rev->Kn,kas_place->Li,cellsFrom_some->Ps,kas_asc->KL,findIn->NE,kas_sort->Lh,kas_descPart->M7,codeIn->Og,methodObj->Pg
open Nat renaming le_refl->u6,ne_of_lt->w9,zero_le->w5,lt_of_lt_of_le->G0,le_trans->B9,lt_irrefl->D8,lt_succ_self->Kr,lt_or_ge->KM,not_lt_zero->Lz,lt_succ_of_lt->Mh,lt_trichotomy->MI,sub_self->L4,not_lt->Lu,le_add_right->NJ,le_of_lt->Mu,min_eq_left->NG,le_succ->MY,ne_of_gt->NA
open Bool renaming false_eq_true->A7,and_eq_true->C5,eq_false_iff->KD,false_ne_true->LQ,not_true->Lw,or_eq_true->Ma,eq_iff_iff->MD,not_eq_true'->Oq,and_false->Of
open Array renaming getElem?_eq_getElem->G4,length_toList->D6,getElem?_toList->G3,getElem?_eq_some_iff->Lr,getD_eq_getD_getElem?->Mn,forIn_toList->Mi,getElem?_eq_none->Nh,getD->KU,toList_push->Ow
open Option.some renaming inj->A6
open PySem.SetTable renaming below->D4,runEnd->I0,bits->Ln,leap->LM,Probe->L6,grown->Mz,turns->Na,fits->M8,insertAt->Ov,sizeAbove->Ph,fill->Oc
open Classical renaming propDecidable->KI,byContradiction->Lq
open PySem.Heap.SameBut renaming update->KF
open Option renaming map_eq_some_iff->Le,isSome_iff_exists->PD
open Ne renaming symm->z8
open PySem.Obj renaming mapSeq->Fn,mapFields->Mw,data_mapDictKeys->OH,isFreed_of_dict->OF,data_mapFields->OA,data_mapDict->Ol,putSet->MW
open PyProof.Rows renaming slot_tuple_getitem->Nj,get?_update_seq->MB,callWith_type1->PJ,listUpdate_at->Mx,listItems_at->MZ
open PySem.Builtin.Str renaming strKind->Mm,occurrences->OQ,strSliceIndices->PH
open PySem.NameKind renaming free->Kp,cell->L5
open PySem.Builtin.Tuple renaming tupleHashOf->MP,tupleItemsOf->OY,tupleExact->OU
open PySem.Around renaming under_plainId->LS
open Sum renaming inr->ABX
open Int renaming toNat_natCast->LB
open PySem.Value renaming ref->F6,none->Kz,type->LK,bool->MX
open PySem.Txt renaming split->G6,slice->Kk,startswith->Nb
open PySem.Builtin.Dict_items renaming ownsTuple->NX
open PySem.F renaming slot_tuple_getattribute->O4,slot_list_getattribute->O3,plainAttrs_dict->OP,slot_dict_get->OK,args_tuple_add_2->PC,slot_dict_values->Py,entry_tuple_add->Px,slot_tuple_add->Pq
open PySem.SetTable.below renaming go->MH
open PySem.Builtin.List renaming listExtendWith->OZ,listTooLong->PB,listLengthHint->PY
open PySem.Calls renaming callWith_builtin->NV,spliced_cons->OE,spliced_nil->Oy,evalArgs_plain->Pk
open PySem.SeqAt renaming EqAt->KW
open PySem.Builtin.Slice renaming slicePlaces->OX,sliceAdjust->PF,sliceApplied->PU
open List.cons renaming injEq->MC,inj->NC
open PySem.Builtin.Dict renaming updateFrom->OO,showsAll->OJ
open False renaming elim->Lk
open List.Perm renaming refl->MA,cons->Oe
open PySem.SetTable.layClean renaming free->OM
open PySem.SeqAt.EqAt renaming int_str->NP,str_int->NO,int_int->OD,str_str->OC,same->Oh
open List.Pairwise renaming nil->NN
open PySem.Shared renaming TypeIs->Mv
open ForInStep renaming yield->Oi
open PySem.Expr renaming Call->L3
open PySem.SetTable.probe renaming go->Pf
open Option renaming some->a7,none->a8
open Bool renaming true->a9,false->bt
open PySem renaming Value->c4,Str->c5,World->c6,Program->c7,Addr->c8,Obj->c9,Heap->d5,sysModules->d6,entryOfKey->d7,mainGlobals->d8,bootBuiltins->d9,Around->e8,Shared->e9,Scope->f7,wpAny->f9,Expr->h8,model->i3,Pos->i4,backTo->i5,starEach->i6,Stmt->i7,holding->i8,swapsWith->i9,assign->j0,assignEach->j1,pyNext->j2,letOwnedTupleGo->j3,pyIter->j4,rawInt->j5,foldedSetIterable->j6,binaryOp->j7,compareOp->j8,behindInMarks->j9,cLine->k4,FuncData->k5,codeAny->k6,Keyword->k7,NameKind->k8,IsPart->l3,getItem->l4,typeIs_str->l5,sliceBounds->l6,attributeBase->l7,backToKw->l8,keywordEach->l9,reduceHash->m3,DictEntry->m5,pickOrder->m7,SetTable->m8,firstArgMember->m9
open PyProof.Rows renaming AllBare->f8,envOfC->k9,seqObj->m6
set_option autoImplicit true
set_option relaxedAutoImplicit true
set_option compiler.extract_closed false
set_option Elab.async false
set_option linter.all false
set_option maxRecDepth 100000
def n5:=@if_pos
def n6:=@if_neg
def n9:=@absurd
def o0:=@decide_eq_true_eq
def o4:=@decide_eq_true_iff
def o5:=@beq_iff_eq
def o6:=@if_false
def o7:=@if_true
def o8:=@congrArg
def p5:=@beq_self_eq_true
-- CHANGE: your row's module here,as the last of these rows
theorem dF_{p:Prop}[Decidable p](h:¬p):decide p=bt:=decide_eq_false h
theorem dT_{p:Prop}[Decidable p](h:p):decide p=a9:=decide_eq_true h
theorem oT_{p:Prop}[Decidable p](h:decide p=a9):p:=of_decide_eq_true h
namespace L2
open PySem PySem.Spec PyProof.Rows
noncomputable abbrev C7:=Sum Int c5
noncomputable def xM:C7->c4->Bool
 |.inl k,v=>Value.isInt k v
 |.inr x,v=>Value.isStrOf x v
noncomputable def keyH(w:c6):C7->Int
 |.inl k=>hashInt k
 |.inr x=>hashStr w x
theorem br:∀{k:C7}{v:c4},xM k v=a9->(∃i t,k=Sum.inl i/\v=Value.int i t)\/(∃x t,k=ABX x/\v=Value.str x t)
 |.inl i,v,h=>by obtain⟨t,e⟩:=Value.isInt_shape (k:=i) (v:=v) h;exact .inl ⟨i,t,rfl,e⟩
 |.inr x,v,h=>by obtain⟨t,e⟩:=Value.isStrOf_shape (x:=x) (v:=v) h;exact .inr ⟨x,t,rfl,e⟩
theorem Ao(i:Int)(t:Tok):xM (.inl i) (.int i t)=a9:=by simp[xM,Value.isInt]
theorem An(x:c5)(t:Tok):xM (.inr x) (.str x t)=a9:=by simp[xM,Value.isStrOf]
theorem IW(a b:Int):decide ((Sum.inl a:C7)=Sum.inl b)=(a==b):=by by_cases e:a=b;subst e;simp;have h:¬(Sum.inl a:C7)=Sum.inl b:=λq=>e<|Sum.inl.inj q;rw[dF_ h];exact(beq_eq_false_iff_ne.mpr e).symm
theorem Ed(a b:c5):decide ((ABX a:C7)=ABX b)=decide (a=b):=by by_cases e:a=b;subst e;simp;have h:¬(ABX a:C7)=ABX b:=λq=>e<|Sum.inr.inj q;rw[dF_ h,dF_ e]
theorem IV(a:Int)(b:c5):decide ((Sum.inl a:C7)=ABX b)=bt:=dF_<|λq=>nomatch q
theorem IU(a:c5)(b:Int):decide ((ABX a:C7)=Sum.inl b)=bt:=dF_<|λq=>nomatch q
noncomputable def bT(prog:c7)(w:c6):PySem.KeyKind prog w C7 where
 is:=xM
 hash:=keyH w
 inj:=λv a b f d=>by
  rcases br f with⟨i,t,rfl,rfl⟩|⟨x,t,rfl,rfl⟩
  rcases br d with⟨j,u,rfl,e⟩|⟨y,u,rfl,e⟩
  injection e with e1 _;rw[e1];exact nomatch e
  rcases br d with⟨j,u,rfl,e⟩|⟨y,u,rfl,e⟩
  exact nomatch e
  injection e with e1 _;rw[e1]
 byValue:=λk v h=>by rcases br h with⟨i,t,rfl,rfl⟩|⟨x,t,rfl,rfl⟩<;>rfl
 pyHash:=λc h=>by
  rcases br c with⟨i,t,rfl,rfl⟩|⟨x,t,rfl,rfl⟩
  exact NL h;exact NK h
 eqBool:=λg c h=>by
  rcases br g with⟨i,t,rfl,rfl⟩|⟨x,t,rfl,rfl⟩
  rcases br c with⟨j,u,rfl,rfl⟩|⟨y,u,rfl,rfl⟩
  rw[IW]at h;exact wpAny_eqBool_int h;rw[IV]at h;exact NP i t y u _ _ _ _ h;rcases br c with⟨j,u,rfl,rfl⟩|⟨y,u,rfl,rfl⟩
  rw[IU]at h;exact NO x t j u _ _ _ _ h;rw[Ed]at h;exact wpAny_eqBool_str h
 «strs»:=λk x t v h=>by
  rcases br h with⟨i,u,rfl,e⟩|⟨y,u,rfl,e⟩
  exact nomatch e
  injection e with e1 _;subst e1;cases v<;>rfl
theorem uB(prog:c7)(w:c6)(i:Int)(t:Tok):(bT prog w).is (.inl i) (.int i t)=a9:=Ao i t
theorem uA(prog:c7)(w:c6)(x:c5)(t:Tok):(bT prog w).is (.inr x) (.str x t)=a9:=An x t
inductive V where
 |non|bl (b:Bool)|int (i:Int)|str (x:c5)|byt (b:Array UInt8)|flt (b:UInt64)|ref (a:c8)|ty (n:String)
 deriving DecidableEq
noncomputable def aM:V->c4->Prop
 |.non,u=>u=Kz
 |.bl b,u=>u=MX b
 |.int i,u=>∃t,u=Value.int i t
 |.str x,u=>∃t,u=Value.str x t
 |.byt b,u=>∃t,u=Value.bytes b t
 |.flt b,u=>∃t,u=Value.float b t
 |.ref a,u=>u=F6 a
 |.ty n,u=>u=LK n
noncomputable abbrev aC:List V->List c4->Prop:=Paired aM
theorem aC.length(r:aC xs us):xs.length=us.length:=Paired.length r
theorem aC.get:∀{xs:List V}{us:List c4}{i:Nat}{x:V},aC xs us->xs[i]?=a7 x->∃u,us[i]?=a7 u/\aM x u
 |_,_,_,_,.nil,e=>by simp at e
 |_,_,0,_,.cons r _,e=>by simp at e;subst e;exact⟨_,rfl,r⟩
 |_,_,i+1,x,.cons _ t,e=>by obtain⟨u,h1,h2⟩:=aC.get (i:=i) (x:=x) t (by simpa using e);exact⟨u,by simpa using h1,h2⟩
theorem aC.set(r:aM x u):∀{xs:List V}{us:List c4} (i:Nat),aC xs us->aC (xs.set i x) (us.set i u)
 |_,_,_,.nil=>.nil
 |_,_,0,.cons _ t=>.cons r t
 |_,_,i+1,.cons q t=>.cons q<|aC.set r i t
theorem aC.append(h:aC xs us)(s:aC ys ws):aC (xs++ys) (us++ws):=by
 induction h with
 |nil=>exact s
 |cons r t i=>exact .cons r i
theorem aC.take:∀{xs:List V}{us:List c4} (n:Nat),aC xs us->aC (xs.take n) (us.take n)
 |_,_,0,_=>.nil
 |_,_,_+1,.nil=>.nil
 |_,_,n+1,.cons r t=>.cons r<|aC.take n t
theorem aC.drop:∀{xs:List V}{us:List c4} (n:Nat),aC xs us->aC (xs.drop n) (us.drop n)
 |_,_,0,r=>r
 |_,_,_+1,.nil=>.nil
 |_,_,n+1,.cons _ t=>aC.drop n t
noncomputable def Bq:Option V->Option c4->Prop
 |some v,a7 u=>aM v u
 |none,a8=>True
 |_,_=>False
noncomputable def KV{κ:Type}:List (κ×V)->List (κ×c4)->Prop:=Paired λ(p:κ×V) (q:κ×c4)=>p.1=q.1/\aM p.2 q.2
noncomputable def kV:C7->V
 |.inl i=>.int i
 |.inr x=>.str x
inductive HO where
 |lst (xs:List V)
 |tup (xs:List V)
 |dK (kvs:List (C7×V))|dT (kvs:List (List C7×V))
 |set (S:Int->Bool) (n:Nat)
 |ins (C dx:c8) (fs:List (c5×V))
 |own (x:c8)
 |xd (fs:List (c5×V))
 |met (f x:c8)
 |rng (lo hi:Int)
 |frz (o:c9) (u:HO)
 |tbl (ps:Array c4)
 |ext (φ:c7->c6->d5->Prop)
noncomputable abbrev Hp:=c8->Option HO
noncomputable def v4(H:Hp)(a:c8)(o:HO):Hp:=λb=>if b=a then a7 o else H b
theorem aK:v4 H a o a=a7 o:=by unfold v4;rw[n5 rfl]
theorem am(h:b≠a):v4 H a o b=H b:=by unfold v4;rw[n6 h]
theorem xz{H:Hp}{a b:c8}{o u:HO}(h:H a=a7 o)(h':H b=a7 u)(d:o≠u):a≠b:=by intro e;subst e;rw[h]at h';exact d<|A6 h'
theorem ae{H:Hp}{a b:c8}{o:HO}(h:H a=a7 o)(h':H b=a8):a≠b:=by intro e;subst e;rw[h]at h';cases h'
section
variable(P:c7)(w:c6)
noncomputable def Dx(h:d5)(a:c8)(s:Array c4):Prop:=∃o,h.get? a=a7 o/\o.cls=.type "tuple"/\(∃n,o.data=.seq s n)/\o.dict=a8
theorem Dx.tup:Dx h a items->IsTup h a items:=λ⟨o,e,c,⟨n,d⟩,_⟩=>⟨o,e,c,n,d⟩
theorem Dx.new(h:d5)(s:Array c4):Dx (h.push { cls:=.type "tuple",data:=.seq s }) h.objs.size s:=⟨_,z6 _ rfl,rfl,⟨_,rfl⟩,rfl⟩
noncomputable def cL(H:Hp)(h:d5)(a:c8):HO->Prop
 |.lst xs=>xs.length<=sizeLine/\∃(its:List c4) (n:Nat),aC xs its/\h.get? a=a7 { cls:=.type "list",data:=.seq its.toArray n }
 |.tup xs=>xs.length<=sizeLine/\∃its:List c4,aC xs its/\Dx h a its.toArray
 |.dK kvs=>kvs.length<=sizeLine/\(a==d6)=bt/\∃vs,KV kvs vs/\h.DictOf (bT P w) a vs
 |.dT kvs=>kvs.length<=sizeLine/\(a==d6)=bt/\∃xs:List (List C7×c8×c4),Paired (λ(p:List C7×V) (q:List C7×c8×c4)=>p.1=q.1/\H q.2.1=a7 (.tup<|p.1.map kV)/\aM p.2 q.2.2) kvs xs /\∃o es ep,h.get? a=a7 o/\o.ExactDict/\o.data=.dict es ep/\es.toList=xs.map (d7<|tupleKind<|bT P w)/\(xs.map (·.1)).Nodup
 |.set S n=>h.SetOf (intKind P w) a S n
 |.ins C dx fs=>H dx=a7 (.own a)/\fs.length<=1000/\dx≠a/\h.get? a=a7 (PySem.W.instObj C dx) /\∃mA,h.Ns1 dx mA/\(∀f,Bq (fs.lookup f)<|mA f)/\PySem.Within mA (fs.map (·.1))
 |.own _=>∃o,h.get? a=a7 o
 |.xd fs=>∃mA,h.Ns1 a mA/\∀f,Bq (fs.lookup f)<|mA f
 |.rng lo hi=>∃t u v,h.get? a=a7 { cls:=.type "range",data:=.fields #[.int lo t,.int hi u,.int 1 v] }
 |.frz o u=>h.get? a=a7 o/\cL H h a u
 |.tbl ps=>h.get? a=a7 { cls:=.none,data:=.fields ps }
 |.met f x=>h.get? a=a7 (Pg (.ref f)<|.ref x)
 |.ext φ=>φ P w h/\(∃o,h.get? a=a7 o)/\∀h1 h2:d5,φ P w h1->(∀o,h1.get? a=a7 o->h2.get? a=a7 o)->φ P w h2
noncomputable def C8(H:Hp)(h:d5):Prop:=∀a o,H a=a7 o->cL P w H h a o
end
section
variable{P:c7}{w:c6}{H H':Hp}{h h':d5}{a:c8}{o:HO}
theorem cL.lt(x:cL P w H h a o):a<h.objs.size:=by
 cases o with
 |lst xs=>obtain⟨_,_,_,_,e⟩:=x;exact v7 e
 |tup xs=>obtain⟨_,_,_,p⟩:=x;exact p.tup.lt
 |dK s=>obtain⟨_,_,_,_,o,_,_,e,_⟩:=x;exact v7 e
 |dT s=>obtain⟨_,_,_,_,o,_,_,e,_⟩:=x;exact v7 e
 |set S n=>obtain⟨o,_,_,_,e,_⟩:=x;exact v7 e
 |ins C d b=>obtain⟨_,_,_,e,_⟩:=x;exact v7 e
 |own y=>obtain⟨_,e⟩:=x;exact v7 e
 |xd b=>obtain⟨_,⟨_,_,_,e,_⟩,_⟩:=x;exact v7 e
 |rng l hi=>obtain⟨_,_,_,e⟩:=x;exact v7 e
 |frz c u=>obtain⟨e,_⟩:=x;exact v7 e
 |tbl ps=>exact v7<|show h.get? a=a7 _ from x
 |met f y=>exact v7<|show h.get? a=a7 _ from x
 |ext φ=>obtain⟨_,⟨_,e⟩,_⟩:=x;exact v7 e
theorem Paired.mapP{α β:Type}{F G:α->β->Prop}:∀{l₁:List α}{l₂:List β},Paired F l₁ l₂->(∀a b,F a b->G a b)->Paired G l₁ l₂
 |_,_,.nil,_=>.nil
 |_,_,.cons r t,f=>.cons (f _ _ r)<|Paired.mapP t f
theorem cL.stay(x:cL P w H h a o)(k:∀b u,(b=a\/H b=a7 (.own a))->h.get? b=a7 u->h'.get? b=a7 u)(B:∀b,H b=a7 (.own a)->H' b=a7 (.own a)) (D:∀b xs,H b=a7 (.tup xs)->H' b=a7 (.tup xs)):cL P w H' h' a o:=by
 induction o with
 |lst xs=>obtain⟨z,its,n,r,e⟩:=x;exact⟨z,its,n,r,k _ _ (.inl rfl) e⟩
 |tup xs=>obtain⟨z,its,r,g,e,c⟩:=x;exact⟨z,its,r,g,k _ _ (.inl rfl) e,c⟩
 |dK s=>obtain⟨z,y,vs,r,g,es,i,e,c⟩:=x;exact⟨z,y,vs,r,g,es,i,k _ _ (.inl rfl) e,c⟩
 |dT s=>obtain⟨z,y,xs,r,g,es,i,e,c⟩:=x;exact⟨z,y,xs,Paired.mapP r λp q z=>⟨z.1,D _ _ z.2.1,z.2.2⟩,g,es,i,k _ _ (.inl rfl) e,c⟩
 |set S n=>obtain⟨g,es,i,t,e,c⟩:=x;exact⟨g,es,i,t,k _ _ (.inl rfl) e,c⟩
 |ins C G m=>obtain⟨d,z,F,e,A,⟨j,es,i,l,c⟩,r⟩:=x;exact⟨B _ d,z,F,k _ _ (.inl rfl) e,A,⟨j,es,i,k _ _ (.inr d) l,c⟩,r⟩
 |own y=>obtain⟨g,e⟩:=x;exact⟨g,k _ _ (.inl rfl) e⟩
 |xd m=>obtain⟨A,⟨j,es,i,e,c⟩,r⟩:=x;exact⟨A,⟨j,es,i,k _ _ (.inl rfl) e,c⟩,r⟩
 |rng I hi=>obtain⟨t,u,v,e⟩:=x;exact⟨t,u,v,k _ _ (.inl rfl) e⟩
 |frz g u E=>obtain⟨e,q⟩:=x;exact⟨k _ _ (.inl rfl) e,E q⟩
 |tbl ps=>have e:h.get? a=a7 { cls:=.none,data:=.fields ps }:=x;show h'.get? a=a7 { cls:=.none,data:=.fields ps };exact k a _ (.inl rfl) e
 |met f y=>have e:h.get? a=a7 (Pg (.ref f)<|.ref y):=x;show h'.get? a=a7 (Pg (.ref f)<|.ref y);exact k a _ (.inl rfl) e
 |ext φ=>obtain⟨p,⟨o,e⟩,st⟩:=x;exact⟨st _ _ p λo q=>k _ _ (.inl rfl) q,⟨o,k _ _ (.inl rfl) e⟩,st⟩
theorem C8.lt(x:C8 P w H h)(e:H a=a7 o):a<h.objs.size:=(x a o e).lt
theorem C8.fresh(x:C8 P w H h)(e:h.objs.size<=a):H a=a8:=by
 cases q:H a with
 |none=>rfl
 |some u=>exact n9 (G0 (x.lt q) e)<|D8 _
theorem C8.kept(x:C8 P w H h)(k:∀b u,h.get? b=a7 u->h'.get? b=a7 u):C8 P w H h':=λa o e =>
 (x a o e).stay (λb u _ q=>k b u q) (λ_ q=>q) λ_ _ q=>q
theorem C8.laid(x:C8 P w H h)(k:∀b u,h.get? b=a7 u->h'.get? b=a7 u)(p:h.objs.size<=a)(n:cL P w (v4 H a o) h' a o):C8 P w (v4 H a o) h':=λb u e=>by have f:=x.fresh p;by_cases d:b=a;subst d;rw[aK]at e;cases e;exact n;rw[am d]at e;exact(x b u e).stay (λc v _ q=>k c v q) (λc q=>by rw[am<|ae q f];exact q) λc xs q=>by rw[am<|ae q f];exact q
end
noncomputable def Rd(H:Hp)(a:c8)(u:HO):Prop:=H a=a7 u\/∃o,H a=a7 (.frz o u)
theorem Rd.ok(r:Rd H a u)(x:C8 P w H h):cL P w H h a u:=by
 rcases r with r|⟨o,r⟩
 exact x a u r;obtain⟨_,q⟩:=x a _ r;exact q
noncomputable def Nw:Option HO->Prop
 |some (.lst _)=>True
 |some (.dK _)=>True
 |some (.dT _)=>True
 |some (.set _ _)=>True
 |some (.ins _ _ _)=>True
 |some (.ext _)=>True
 |_=>False
section
variable{P:c7}{w:c6}{H:Hp}{h h':d5}{x e:c8}{o':HO}
theorem C8.write(ok:C8 P w H h)(m:Nw (H x))(i:e=x\/H e=a7 (.own x))(k:∀b u,b≠e->h.get? b=a7 u->h'.get? b=a7 u)(o:∃u,h'.get? e=a7 u)(g:cL P w (v4 H x o') h' x o'):C8 P w (v4 H x o') h':=λb u q=>by
 have n:∀c y,H c=a7 (.own y)->c≠x:=λc y r z=>by subst z;rw[r]at m;exact m
 have p:∀c xs,H c=a7 (.tup xs)->c≠x:=λc xs r z=>by subst z;rw[r]at m;exact m
 by_cases d:b=x;subst d;rw[aK]at q;cases q;exact g;rw[am d]at q;by_cases a:b=e;have j:H b=a7 (.own x):=by rcases i with z|z;exact n9 (a.trans z) d;rw[a];exact z
 rw[q]at j;cases j;obtain⟨v,l⟩:=o;exact⟨v,by rw[a];exact l⟩;refine(ok b u q).stay (λc v f r=>k c v ?_ r) (λc r=>by rw[am<|n c b r];exact r) λc xs r=>by rw[am<|p c xs r];exact r
 rcases f with rfl|f;exact a;rintro rfl;rcases i with z|z;exact n c b f z;rw[f]at z;cases z;exact d rfl
end
structure Un(fs ex:List c8)(H H':Hp)(h h':d5):Prop where
 keep:∀b o,h.get? b=a7 o->H b=a8->b∉fs->b∉ex->h'.get? b=a7 o
 slot:∀b o,h.get? b=a7 o->H b=a8->b∈fs->b∉ex->∃sl,h'.get? b=a7 { o with slots:=sl }
 free:∀b o,h.get? b=a7 o->H b=a8->b∉ex->H' b=a8
 there:∀b o,h.get? b=a7 o->b∉ex->∃o',h'.get? b=a7 o'
 tups:∀b xs,H b=a7 (.tup xs)->H' b=a7 (.tup xs)
 frzs:∀b o u,H b=a7 (.frz o u)->H' b=a7 (.frz o u)
 tbls:∀b ps,H b=a7 (.tbl ps)->∃more,H' b=a7 (.tbl<|ps++more)
section
variable{fs fs' ex ex':List c8}{H H1 H2:Hp}{h h1 h2 h':d5}{a x e:c8}{o:HO}
theorem Un.any(u:Un fs ex H H1 h h1)(q:h.get? b=a7 ob)(n:H b=a8)(x:b∉ex):∃sl,h1.get? b=a7 { ob with slots:=sl }:=by by_cases d:b∈fs;exact u.slot b ob q n d x;exact⟨ob.slots,u.keep b ob q n d x⟩
theorem Un.kept(k:∀b u,h.get? b=a7 u->h'.get? b=a7 u):Un fs ex H H h h':=⟨λb c q _ _ _=>k b c q,λb c q _ _ _=>⟨c.slots,k b c q⟩,λ_ _ _ n _=>n,λb c q _=>⟨c,k b c q⟩,λ_ _ q=>q,λ_ _ _ q=>q,λ_ ps q=>⟨#[],by rw[q];simp⟩⟩
theorem Un.refl:Un fs ex H H h h:=Un.kept λ_ _ q=>q
theorem Un.laid(k:∀b u,h.get? b=a7 u->h'.get? b=a7 u)(p:h.objs.size<=a)(f:H a=a8):Un fs ex H (v4 H a o) h h' where
 keep:=λb u q _ _ _=>k b u q
 slot:=λb u q _ _ _=>⟨u.slots,k b u q⟩
 free:=λb u q n _=>by rw[am<|w9<|G0 (v7 q) p];exact n
 there:=λb u q _=>⟨u,k b u q⟩
 tups:=λb xs q=>by rw[am<|ae q f];exact q
 frzs:=λb u xs q=>by rw[am<|ae q f];exact q
 tbls:=λb ps q=>⟨#[],by rw[am<|ae q f,q];simp⟩
theorem Un.write(m:Nw (H x))(i:e=x\/H e=a7 (.own x))(k:∀b u,b≠e->h.get? b=a7 u->h'.get? b=a7 u)(c:∃u,h'.get? e=a7 u):Un fs ex H (v4 H x o) h h':=by
 have g:∀b,H b=a8->b≠x:=λb n z=>by subst z;rw[n]at m;exact m
 have f:∀b,H b=a8->b≠e:=λb n z=>by subst z;rcases i with r|r;exact g b n r;rw[n]at r;cases r
 have d:∀b u,H b=a7 u->¬Nw (a7 u)->b≠x:=λb u q j z=>by subst z;rw[q]at m;exact j m
 refine⟨λb u q n _ _=>k b u (f b n) q,λb u q n _ _=>⟨u.slots,k b u (f b n) q⟩,λb u q n _=>by rw[am<|g b n];exact n,λb u q _=>?_,λb xs q=>by rw[am<|d b _ q λz=>z];exact q,λb u xs q=>by rw[am<|d b _ q λz=>z];exact q,λb ps q=>⟨#[],by rw[am<|d b _ q λz=>z,q];simp⟩⟩;by_cases a:b=e;subst a;exact c;exact⟨u,k b u a q⟩
end
noncomputable def NY(h:d5)(H:Hp):List c8:=(A2 h.objs.size).filter λa=>(H a).isSome
noncomputable def Bo(h:d5)(H:Hp):d5:=PySem.W.hideAll h<|NY h H
theorem AB(h:d5)(H:Hp):(Bo h H).objs.size=h.objs.size:=PySem.W.hideAll_size _ _
theorem CP(e:h.get? b=a7 o)(n:H b=a8):(Bo h H).get? b=a7 o:=PySem.W.hideAll_get _ e λd=>by have q:(H b).isSome=a9:=(A3.mp d).2;rw[n]at q;simp at q
theorem Ff(e:(Bo h H).get? b=a7 o):h.get? b=a7 o/\H b=a8:=by
 have a:h.get? b=a7 o:=PySem.W.of_hideAll (NY h H) e;refine⟨a,?_⟩;cases q:H b with
 |none=>rfl
 |some x=>have d:b∈NY h H:=A3.mpr ⟨F7.mpr<|v7 a,by simp[q]⟩;have z:(Bo h H).get? b=a8:=PySem.W.hideAll_none (NY h H) d;rw[z]at e;cases e
noncomputable def GH(g h:d5)(L:c8):List (c8×c9):=(A2 h.objs.size).filterMap λa=>if a=L\/(g.get? a).isSome=a9 then a8 else(h.get? a).map λo=>(a,o)
noncomputable def aY(g h:d5)(L d:c8):List (c8×c9):=(GH g h L).filter λp=>decide<|p.1≠d
structure Mod(K:u0)(mg:c5->Option c4)(base:d5):Prop where
 kin:K.In base
 glob:base.Ns d8 mg
 blt:∃mb,base.Ns builtinsNs mb/\∀x:c5,x≠"__name__"->mb x=d9 x
 nolimit:base.NoLimit
/-- the context: a def's body (or a comprehension's block) running. base: fixed through the whole law;s₀,H₀: the entry;outer: the frames whose slots others may change (a def's callers);stack: all frames that run;
  ex: iterators that were made fJ of the entry and are walked here (a comprehension's);fn: the names whose cells were made at the entry (a def: all;a comprehension's block: its own);calm: not fO an except suite;pn: pins that every state bears;xe: what is wanted of an exception that leaves the code -/
structure Cx where
 prog:c7
 w:c6
 K:u0
 mg:c5->Option c4
 base:d5
 A:e8
 N:List c5
 s₀:e9
 H₀:Hp
 env:Env
 outer:List Env
 stack:List Env
 ex:List c8
 fn:c5->Bool
 calm:Bool
 pn:List (c8×c9)
 xe:c4->e9->Prop
noncomputable def Kh(l:List Env):List c8:=l.filterMap (·.frame)
noncomputable abbrev Cx.fs(X:Cx):List c8:=Kh X.outer
noncomputable def Mp(c:f7)(x:c5):Prop:=c.names.lookup x=a7 .local\/c.names.lookup x=a7 .cell\/c.names.lookup x=a7 .free
noncomputable def L1(c:f7)(x:c5):Prop:=c.names.lookup x=a7 .local\/c.names.lookup x=a7 .cell
noncomputable def Look(env:Env)(h:d5)(m:c5->Option c4)(x:c5)(u:c4):Prop:=(env.kindOf x=a7 .local/\m x=a7 u)\/((env.kindOf x=a7 .cell\/env.kindOf x=a7 .free)/\∃c,env.cells.lookup x=a7 c/\h.IsCell c (a7 u))
structure Cx.Ok(X:Cx):Prop where
 mod:Mod X.K X.mg X.base
 kind:X.env.scope.kind=.function
 glob:X.env.globals=d8
 blt:X.env.builtins=builtinsNs
 above:X.s₀.heap.objs.size<=X.env.locals
 inj:∀x y c,X.env.cells.lookup x=a7 c->X.env.cells.lookup y=a7 c->x=y
 has:∀x,(X.env.kindOf x=a7 .cell\/X.env.kindOf x=a7 .free)->∃c,X.env.cells.lookup x=a7 c
 cab:∀x c,X.fn x=a9->X.env.cells.lookup x=a7 c->X.s₀.heap.objs.size<=c
 hd:X.calm=a9->X.A.handled=a8
 frames:X.A.frames=a7 X.stack
 stk:X.stack=X.outer\/(X.stack=X.env::X.outer/\X.env.frame=a7 X.env.locals)
 exf:∀b∈X.ex,b≠X.env.locals/\∀x c,X.env.cells.lookup x=a7 c->c≠b
 bs:∀b o,X.base.get? b=a7 o->X.s₀.heap.get? b=a7 o/\X.H₀ b=a8
 bsz:X.base.objs.size<=X.s₀.heap.objs.size
 noex:∀b o,X.base.get? b=a7 o->b∉X.ex
 exfs:∀b∈X.ex,b∉X.fs
 funs:X.s₀.heap.FunFrames X.base X.outer
 frf:∀b∈X.fs,X.H₀ b=a8
structure p8(X:Cx)(pins:List (c8×c9))(σ:List (Option V))(H:Hp)(s:e9):Prop where
 ok:X.Ok
 os:s.os=X.s₀.os
 bare:f8 s.gens
 base:Un X.fs X.ex X.H₀ H X.s₀.heap s.heap
 loc:∃m,s.heap.Ns X.env.locals m/\∀(i:Nat) (x:c5) (v:V),X.N[i]?=a7 x->σ[i]?=a7 (a7 v)->Mp X.env.scope x->∃u,aM v u/\Look X.env s.heap m x u
 cell:∀x c,X.env.cells.lookup x=a7 c->∃v,s.heap.IsCell c v
 free:H X.env.locals=a8
 freeC:∀x c,X.env.cells.lookup x=a7 c->H c=a8
 pin:∀p∈X.pn++pins,s.heap.get? p.1=a7 p.2/\H p.1=a8/\p.1≠X.env.locals/\p.1∉X.fs/\∀v,p.2.data≠.cell v
 hok:C8 X.prog X.w H s.heap
 len:σ.length=X.N.length
section
variable{X:Cx}{pins:List (c8×c9)}{σ:List (Option V)}{H H':Hp}{s:e9}{h':d5}
theorem Cx.Ok.nofr(ok:X.Ok)(e:X.base.get? b=a7 o):b∉X.fs:=λd=>by have:=(ok.funs.mem d).1;rw[e]at this;cases this
theorem p8.bs(I:p8 X pins σ H s):∀b o,X.base.get? b=a7 o->s.heap.get? b=a7 o/\H b=a8:=λb o e =>
 ⟨I.base.keep b o (I.ok.bs b o e).1 (I.ok.bs b o e).2 (I.ok.nofr e)<|I.ok.noex b o e,I.base.free b o (I.ok.bs b o e).1 (I.ok.bs b o e).2<|I.ok.noex b o e⟩
theorem p8.bk(I:p8 X pins σ H s):∀b o,X.base.get? b=a7 o->s.heap.get? b=a7 o:=λb o e=>(I.bs b o e).1
theorem p8.mod(I:p8 X pins σ H s):Mod X.K X.mg X.base:=I.ok.mod
theorem p8.kIn(I:p8 X pins σ H s):X.K.In s.heap:=I.ok.mod.kin.keeps I.bk
theorem p8.lt(I:p8 X pins σ H s):X.env.locals<s.heap.objs.size:=let ⟨_,hn,_⟩:=I.loc;hn.lt
theorem p8.sz(I:p8 X pins σ H s):X.s₀.heap.objs.size<=s.heap.objs.size:=B9 I.ok.above<|Mu I.lt
theorem p8.nofs(I:p8 X pins σ H s)(h:s.heap.objs.size<=a):a∉X.fs:=λd=>by obtain⟨_,o,B,_⟩:=I.ok.funs.mem d;exact n9 (G0 (v7 B)<|B9 I.sz h)<|D8 _
theorem p8.cne(I:p8 X pins σ H s):∀x c,X.env.cells.lookup x=a7 c->c≠X.env.locals:=λx c e z=>by obtain⟨v,o,B,d⟩:=I.cell x c e;obtain⟨m,⟨b,es,i,a,h,_⟩,_⟩:=I.loc;rw[z,a]at B;cases B;rw[h]at d;cases d
theorem p8.funs(I:p8 X pins σ H s):s.heap.FunFrames X.base X.outer:=by
 have a:∀(l:List Env),(∀b∈Kh l,b∈X.fs)->X.s₀.heap.FunFrames X.base l->s.heap.FunFrames X.base l:=by
  intro l;induction l with
  |nil=>intro _ _;trivial
  |cons env r j=>intro hs g;obtain⟨k,⟨L,o,f,n,B,c⟩,i⟩:=g;have h:L∈X.fs:=hs L (by unfold Kh;rw[KG,f];exact C6);obtain⟨m,e⟩:=I.base.slot L o B (I.ok.frf L h) h λz=>I.ok.exfs L z h;exact⟨k,⟨L,_,f,n,e,c⟩,j (λb d=>hs b<|by unfold Kh;rw[KG,f];exact A0 _ d) i⟩
 exact a X.outer (λ_ d=>d) I.ok.funs
theorem p8.stack(I:p8 X pins σ H s):s.heap.FunFrames X.base X.stack:=by
 rcases I.ok.stk with e|⟨e,f⟩
 rw[e];exact I.funs;rw[e];obtain⟨m,n,_⟩:=I.loc;refine .cons (by rw[I.ok.kind];decide) f n ?_ I.funs;exact Heap.get?_none_of_le<|B9 I.ok.bsz I.ok.above
theorem p8.stkSub(I:p8 X pins σ H s):∀b∈Kh X.stack,b∈X.env.locals::X.fs:=λb d=>by
 rcases I.ok.stk with e|⟨e,f⟩
 rw[e]at d;exact A0 _ d;rw[e]at d;unfold Kh at d;rw[KG,f]at d;exact d
theorem p8.stkFree(I:p8 X pins σ H s):∀b∈Kh X.stack,H b=a8:=λb d=>by rcases z9.mp (I.stkSub b d)with e|d;rw[e];exact I.free;obtain⟨_,o,B,_⟩:=I.ok.funs.mem d;exact I.base.free b o B (I.ok.frf b d) λz=>I.ok.exfs b z d
theorem p8.step{g':Array GenState}{t':Nat}{d':Drawn}{ch:List c8}(I:p8 X pins σ H s)(a:∀b∈ch,(b∈X.ex\/X.s₀.heap.objs.size<=b)/\b≠X.env.locals/\(∀x c,X.env.cells.lookup x=a7 c->c≠b)/\∀p∈X.pn++pins,p.1≠b)(g:∀b o,b≠X.env.locals->b∉X.fs->b∉ch->s.heap.get? b=a7 o->H b=a8->h'.get? b=a7 o)(slot:∀b o,b≠X.env.locals->b∈X.fs->b∉ch->s.heap.get? b=a7 o->H b=a8->∃sl,h'.get? b=a7 { o with slots:=sl }) (f:∀b o,b∉ch->s.heap.get? b=a7 o->H b=a8->H' b=a8)(A:∀b o,b∉ch->s.heap.get? b=a7 o->∃o',h'.get? b=a7 o')(G:∀b xs,H b=a7 (.tup xs)->H' b=a7 (.tup xs)) (E:∀b o u,H b=a7 (.frz o u)->H' b=a7 (.frz o u)) (F:∀b ps,H b=a7 (.tbl ps)->∃more,H' b=a7 (.tbl<|ps++more))(ns:∀m,s.heap.Ns X.env.locals m->h'.Ns X.env.locals m) (K:C8 X.prog X.w H' h') (S:f8 g') :
  p8 X pins σ H' { s with heap:=h',gens:=g',drawn:=d',toks:=t' }:=by
 have L:∀b o,X.s₀.heap.get? b=a7 o->b≠X.env.locals:=λb o e=>w9<|G0 (v7 e) I.ok.above;have C:∀b o,X.s₀.heap.get? b=a7 o->b∉X.ex->b∉ch:=λb o e h y=>by rcases(a b y).1 with z|z;exact h z;exact n9 (G0 (v7 e) z)<|D8 _
 have cellK:∀x c,X.env.cells.lookup x=a7 c->∀v,s.heap.IsCell c v->h'.IsCell c v:=λx c e v ⟨o,B,J⟩=>by have j:c∉ch:=λz=>(a c z).2.2.1 x c e rfl;by_cases N:c∈X.fs;obtain⟨sl,q⟩:=slot c o (I.cne x c e) N j B<|I.freeC x c e;exact⟨_,q,J⟩;exact⟨o,g c o (I.cne x c e) N j B<|I.freeC x c e,J⟩
 refine⟨I.ok,I.os,S,⟨λb o e n y h=>?_,λb o e n y h=>?_,λb o e n h=>?_,λb o e h=>?_,λb xs e=>G b xs<|I.base.tups b xs e,λb o xs e=>E b o xs<|I.base.frzs b o xs e,λb ps e=>?_⟩,?_,λx c e=>?_,?_,λx c e=>?_,λp O=>?_,K,I.len⟩;exact g b o (L b o e) y (C b o e h) (I.base.keep b o e n y h)<|I.base.free b o e n h;obtain⟨sl,t⟩:=I.base.slot b o e n y h;obtain⟨M,D⟩:=slot b _ (L b o e) y (C b o e h) t<|I.base.free b o e n h;exact⟨M,D⟩;obtain⟨o',t⟩:=I.base.there b o e h;exact f b o' (C b o e h) t<|I.base.free b o e n h;obtain⟨o',t⟩:=I.base.there b o e h;exact A b o' (C b o e h) t;obtain⟨V,t⟩:=I.base.tbls b ps e;obtain⟨W,D⟩:=F b _ t;exact⟨V++W,by rw[D,Array.append_assoc]⟩;obtain⟨m,U,T⟩:=I.loc;refine⟨m,ns m U,λi x v t D R=>?_⟩;obtain⟨u,r,l⟩:=T i x v t D R;refine⟨u,r,?_⟩;rcases l with l|⟨k,c,e,z⟩
 exact .inl l;exact .inr ⟨k,c,e,cellK x c e _ z⟩;obtain⟨v,z⟩:=I.cell x c e;exact⟨v,cellK x c e v z⟩;obtain⟨m,⟨o,_,_,B,_⟩,_⟩:=I.loc;exact f _ o (λz=>(a _ z).2.1 rfl) B I.free;obtain⟨v,o,B,J⟩:=I.cell x c e;exact f c o (λz=>(a c z).2.2.1 x c e rfl) B<|I.freeC x c e;obtain⟨e,n,P,Q,d⟩:=I.pin p O;have j:p.1∉ch:=λz=>(a p.1 z).2.2.2 p O rfl;exact⟨g p.1 p.2 P Q j e n,f p.1 p.2 j e n,P,Q,d⟩
theorem p8.un{t':Nat}(I:p8 X pins σ H s)(u:Un X.fs [] H H' s.heap h')(K:C8 X.prog X.w H' h'):p8 X pins σ H' { s with heap:=h',toks:=t' }:=by obtain⟨m,⟨o,es,i,B,r⟩,_⟩:=id I.loc;obtain⟨l,L⟩:=u.any B I.free (by simp);exact I.step (g':=s.gens) (d':=s.drawn) (ch:=[]) (λ_ z=>nomatch z) (λb o _ h _ e n=>u.keep b o e n h<|by simp) (λb o _ h _ e n=>u.slot b o e n h<|by simp) (λb o _ e n=>u.free b o e n<|by simp) (λb o _ e=>u.there b o e<|by simp) u.tups u.frzs u.tbls (λg f=>by obtain⟨j,d,c,a,r'⟩:=f;rw[B]at a;cases a;exact⟨_,d,c,L,r'⟩) K I.bare
theorem p8.call{g':Array GenState}{t':Nat}{d':Drawn}{ch:List c8}(I:p8 X pins σ H s)(u:Un (Kh X.stack) ch H H' s.heap h')(K:C8 X.prog X.w H' h')(S:f8 g')(a:∀b∈ch,(b∈X.ex\/X.s₀.heap.objs.size<=b)/\b≠X.env.locals/\(∀x c,X.env.cells.lookup x=a7 c->c≠b)/\∀p∈X.pn++pins,p.1≠b):p8 X pins σ H' { s with heap:=h',gens:=g',drawn:=d',toks:=t' }:=by obtain⟨m,⟨o,es,k,B,r⟩,_⟩:=id I.loc;obtain⟨t,L⟩:=u.any B I.free λz=>(a _ z).2.1 rfl;exact I.step (ch:=ch) a (λb o L i f e n=>u.keep b o e n (λz=>(z9.mp<|I.stkSub b z).elim L i) f) (λb o _ _ f e n=>u.any e n f) (λb o f e n=>u.free b o e n f) (λb o f e=>u.there b o e f) u.tups u.frzs u.tbls (λl j=>by obtain⟨q,g,d,h,r'⟩:=j;rw[B]at h;cases h;exact⟨_,g,d,L,r'⟩) K S
theorem p8.turned{t':Nat}{it:c8}(I:p8 X pins σ H s)(k:∀b o,b≠it->s.heap.get? b=a7 o->h'.get? b=a7 o)(j:H it=a8)(h:it≠X.env.locals)(h1:it∈X.ex\/X.s₀.heap.objs.size<=it) (h2:∀x c,X.env.cells.lookup x=a7 c->c≠it) (a:∀p∈X.pn++pins,p.1≠it):p8 X pins σ H { s with heap:=h',toks:=t' }:=by
 have t:∀b u,H b=a7 u->b≠it:=λb u e z=>by rw[z,j]at e;cases e
 refine I.step (g':=s.gens) (d':=s.drawn) (ch:=[it]) (λb d=>?_) (λb o _ _ f e _=>k b o (λz=>f<|by simp[z]) e) (λb o _ _ f e _=>⟨o.slots,k b o (λz=>f<|by simp[z]) e⟩) (λ_ _ _ _ n=>n) (λb o f e=>⟨o,k b o (λz=>f<|by simp[z]) e⟩) (λ_ _ e=>e) (λ_ _ _ e=>e) (λb ps e=>⟨#[],by rw[e];simp⟩) (λm g=>?_) (λb u e=>?_) I.bare;have e:b=it:=by simpa using d
 subst e;exact⟨h1,h,h2,a⟩;obtain⟨o,es,i,B,r⟩:=g;exact⟨o,es,i,k _ o (z8 h) B,r⟩;refine(I.hok b u e).stay (λc v f q=>k c v ?_ q) (λ_ q=>q) λ_ _ q=>q;rcases f with z|z;rw[z];exact t b u e;exact t c _ z
theorem p8.tok(I:p8 X pins σ H s)(t:Nat):p8 X pins σ H { s with toks:=t }:=I.un (h':=s.heap) (t':=t) Un.refl I.hok
theorem p8.kept(I:p8 X pins σ H s)(k:∀b u,s.heap.get? b=a7 u->h'.get? b=a7 u):p8 X pins σ H { s with heap:=h',toks:=t' }:=I.un (Un.kept k)<|I.hok.kept k
theorem p8.laid(I:p8 X pins σ H s)(k:∀b u,s.heap.get? b=a7 u->h'.get? b=a7 u)(p:s.heap.objs.size<=a)(n:cL X.prog X.w (v4 H a o) h' a o):p8 X pins σ (v4 H a o) { s with heap:=h',toks:=t' }:=I.un (Un.laid k p<|I.hok.fresh p)<|I.hok.laid k p n
theorem p8.write(I:p8 X pins σ H s)(m:Nw (H x))(i:e=x\/H e=a7 (.own x))(k:∀b u,b≠e->s.heap.get? b=a7 u->h'.get? b=a7 u)(h:∃u,h'.get? e=a7 u)(n:cL X.prog X.w (v4 H x o) h' x o):p8 X pins σ (v4 H x o) { s with heap:=h',toks:=t' }:=I.un (Un.write m i k h)<|I.hok.write m i k h n
theorem p8.pins_of(I:p8 X pins σ H s)(h:∀p∈pins',s.heap.get? p.1=a7 p.2/\H p.1=a8/\p.1≠X.env.locals/\p.1∉X.fs/\∀v,p.2.data≠.cell v):p8 X pins' σ H s:=⟨I.ok,I.os,I.bare,I.base,I.loc,I.cell,I.free,I.freeC,λp a=>(C9.mp a).elim (λz=>I.pin p<|Ks _ z)<|h p,I.hok,I.len⟩
theorem wy{N:List c5}(h:N.Nodup){i j:Nat}{x:c5}(a:N[i]?=a7 x)(b:N[j]?=a7 x):i=j:=by obtain⟨h1,t⟩:=w6.mp a;obtain⟨h2,l⟩:=w6.mp b;exact(List.getElem_inj h).mp<|t.trans l.symm
theorem za{M:Model}{A:e8}{E:c4->e9->Prop}{i:Nat}{x:c5}{v:V}{u:c4}{Q:Unit->e9->Prop}(I:p8 X pins σ H s)(hN:X.N.Nodup)(hi:X.N[i]?=a7 x)(l:L1 X.env.scope x)(r:aM v u)(h:∀s',p8 X pins (σ.set i<|a7 v) H s'->(∃a,Lm a s.heap s'.heap/\(a=X.env.locals\/X.env.cells.lookup x=a7 a))->Q () s') (hf:X.fn x=a9\/X.env.scope.names.lookup x=a7 .local:=by first|exact .inl rfl|exact .inr rfl|assumption):f9 M A (storeName X.env x u) Q E s:=by
 obtain⟨m,hn,hl⟩:=id I.loc;have R:(X.env.scope.kind==.class||(X.env.scope.kind==.module&&X.env.locals != X.env.globals))=bt:=by rw[I.ok.kind];rfl
 have D:i<σ.length:=by rw[I.len];exact(w6.mp hi).1
 have G:=I.cne;have f:∀{a:c8}{h':d5},(∃o,s.heap.get? a=a7 o/\H a=a8)->Lm a s.heap h'->C8 X.prog X.w H h':=λ{a h'} ha hs b ob e=>by obtain⟨_,_,B⟩:=ha;refine(I.hok b ob e).stay (λc Y g q=>(hs.2 c ?_).trans q) (λ_ q=>q) λ_ _ q=>q;rintro rfl;rcases g with rfl|g;rw[B]at e;cases e;rw[B]at g;cases g
 rcases l with F|F;refine wpAny_storeName_local F hn (λh' ai hs=>?_) R;obtain⟨oL,_,_,aj,_⟩:=id hn;refine h _ ⟨I.ok,I.os,I.bare,⟨λb o e n J l=>?_,λb o e n J l=>?_,I.base.free,λb o e l=>?_,I.base.tups,I.base.frzs,I.base.tbls⟩,⟨_,ai,λj y v' t C Z=>?_⟩,λy c e=>?_,I.free,I.freeC,λp hp=>?_,f ⟨oL,aj,I.free⟩ hs,by simpa using I.len⟩ ⟨_,hs,.inl rfl⟩;exact(hs.2 b<|w9<|G0 (v7 e) I.ok.above).trans<|I.base.keep b o e n J l;obtain⟨sl,t⟩:=I.base.slot b o e n J l;exact⟨sl,(hs.2 b<|w9<|G0 (v7 e) I.ok.above).trans t⟩;obtain⟨o',t⟩:=I.base.there b o e l;exact⟨o',(hs.2 b<|w9<|G0 (v7 e) I.ok.above).trans t⟩;by_cases L:j=i;subst L;rw[hi]at t;cases t;rw[KO D]at C;cases C;exact⟨u,r,.inl ⟨F,by simp⟩⟩;rw[KH<|z8 L]at C;obtain⟨u',r',q⟩:=hl j y v' t C Z;refine⟨u',r',?_⟩;rcases q with⟨k,e⟩|⟨k,c,e,z⟩
 refine .inl ⟨k,?_⟩;have:y≠x:=λe=>L<|wy hN t<|e ▸ hi;simp[this,e];exact .inr ⟨k,c,e,z.sameBut hs<|G y c e⟩;obtain⟨Y,z⟩:=I.cell y c e;exact⟨Y,z.sameBut hs<|G y c e⟩;obtain⟨e,n,W,nf,d⟩:=I.pin p hp;exact⟨(hs.2 p.1 W).trans e,n,W,nf,d⟩;have K:X.fn x=a9:=by rcases hf with z|z;exact z;rw[z]at F;cases F
 obtain⟨c,g⟩:=I.ok.has x<|.inl F;obtain⟨Y,z⟩:=I.cell x c g;refine wpAny_storeName_cell I.ok.kind F g z<|λh' O hs=>?_;obtain⟨oc,S,T⟩:=id z;refine h { s with heap:=h' } ⟨I.ok,I.os,I.bare,⟨λb o e n J l=>?_,λb o e n J l=>?_,I.base.free,λb o e l=>?_,I.base.tups,I.base.frzs,I.base.tbls⟩,⟨m,hn.sameBut hs<|z8<|G x c g,λj y v' t C Z=>?_⟩,λy U e=>?_,I.free,I.freeC,λp hp=>?_,f ⟨oc,S,I.freeC x c g⟩ hs,by simpa using I.len⟩ ⟨c,hs,.inr g⟩;exact(hs.2 b<|w9<|G0 (v7 e)<|I.ok.cab x c K g).trans<|I.base.keep b o e n J l;obtain⟨sl,t⟩:=I.base.slot b o e n J l;exact⟨sl,(hs.2 b<|w9<|G0 (v7 e)<|I.ok.cab x c K g).trans t⟩;obtain⟨o',t⟩:=I.base.there b o e l;exact⟨o',(hs.2 b<|w9<|G0 (v7 e)<|I.ok.cab x c K g).trans t⟩;by_cases L:j=i;subst L;rw[hi]at t;cases t;rw[KO D]at C;cases C;exact⟨u,r,.inr ⟨.inl F,c,g,O⟩⟩;rw[KH<|z8 L]at C;obtain⟨u',r',q⟩:=hl j y v' t C Z;refine⟨u',r',?_⟩;rcases q with q|⟨k,U,e,z'⟩
 exact .inl q;refine .inr ⟨k,U,e,z'.sameBut hs ?_⟩;rintro rfl;exact L<|wy hN t<|I.ok.inj _ _ _ e g ▸ hi;by_cases P:U=c;subst P;exact⟨_,O⟩;obtain⟨w2,z2⟩:=I.cell y U e;exact⟨w2,z2.sameBut hs P⟩;obtain⟨e,n,W,nf,d⟩:=I.pin p hp;refine⟨(hs.2 p.1 ?_).trans e,n,W,nf,d⟩;intro q;rw[q,S]at e;have q':oc=p.2:=A6 e;exact d Y<|by rw[<-q'];exact T
theorem wd(I:p8 X pins σ H s)(b:X.N.Nodup)(hi:X.N[i]?=a7 x)(c:L1 X.env.scope x)(r:aM v u)(h:∀s',p8 X pins (σ.set i<|a7 v) H s'->Q () s') (f:X.fn x=a9\/X.env.scope.names.lookup x=a7 .local:=by first|exact .inl rfl|exact .inr rfl|assumption):f9 M A (storeName X.env x u) Q E s:=za I b hi c r (λs' a _=>h s' a) f
theorem p8.call'(I:p8 X pins σ H s)(B:s'.os=s.os)(u:Un (Kh X.stack) ch H H' s.heap s'.heap)(K:C8 X.prog X.w H' s'.heap)(S:f8 s'.gens)(a:∀b∈ch,(b∈X.ex\/X.s₀.heap.objs.size<=b)/\b≠X.env.locals/\(∀x c,X.env.cells.lookup x=a7 c->c≠b)/\∀p∈X.pn++pins,p.1≠b):p8 X pins σ H' s':=by obtain⟨h',g',d',t',o⟩:=s';have e:o=s.os:=B;subst e;exact I.call (g':=g') (t':=t') (d':=d') u K S a
end
noncomputable abbrev XK:=c4->Option c8->Hp->Prop
noncomputable abbrev St:=List<|Option V
noncomputable abbrev VK:=V->Hp->Prop
noncomputable abbrev TE:=St->Hp->VK->Prop
noncomputable abbrev TT:=St->Hp->(Bool->Hp->Prop)->Prop
noncomputable abbrev TA:=St->Hp->(List V->Hp->Prop)->Prop
structure Ends where
 nx:St->Hp->Prop
 rt:VK
 bk:St->Hp->Prop:=λ_ _=>False
 ct:St->Hp->Prop:=λ_ _=>False
noncomputable abbrev TS:=Ends->St->Hp->Prop
inductive EP(X:Cx)(pins:List (c8×c9))(σ:St)(Q:VK)(u:c4)(s':e9):Prop
 |mk (v:_) (H':_) (f0:p8 X pins σ H' s') (f1:aM v u) (f2:Q v H')
inductive TP(X:Cx)(pins:List (c8×c9))(σ:St)(Q:Bool->Hp->Prop)(b:Bool)(s':e9):Prop
 |mk (H':_) (f0:p8 X pins σ H' s') (f1:Q b H')
inductive AP(X:Cx)(pins:List (c8×c9))(σ:St)(Q:List V->Hp->Prop)(us:List c4)(s':e9):Prop
 |mk (vs:_) (H':_) (f0:p8 X pins σ H' s') (f1:aC vs us) (f2:Q vs H')
noncomputable def SP(X:Cx)(pins:List (c8×c9))(D:Ends)(f:Flow)(s':e9):Prop:=match f with
 |.next=>∃a H',p8 X pins a H' s'/\D.nx a H'
 |.brk=>∃a H',p8 X pins a H' s'/\D.bk a H'
 |.cont=>∃a H',p8 X pins a H' s'/\D.ct a H'
 |.ret u=>∃v a H',p8 X pins a H' s'/\aM v u/\D.rt v H'
noncomputable def PE(X:Cx)(e:h8)(t:TE):Prop:=∀(p:List (c8×c9)) (s:e9) (σ:St) (H:Hp) (Q:VK),p8 X p σ H s->t σ H Q->f9 (i3 X.prog X.w) X.A (eval e X.env) (EP X p σ Q) X.xe s
noncomputable def PT(X:Cx)(e:h8)(t:TT):Prop:=∀(p:List (c8×c9)) (s:e9) (σ:St) (H:Hp) (Q:Bool->Hp->Prop),p8 X p σ H s->t σ H Q->f9 (i3 X.prog X.w) X.A (isTrue e X.env<|eval e X.env) (TP X p σ Q) X.xe s
noncomputable def PW(X:Cx)(e:h8)(t:TT):Prop:=∀(a:Sem c4) (p:List (c8×c9)) (s:e9) (σ:St) (H:Hp) (Q:Bool->Hp->Prop),p8 X p σ H s->t σ H Q->f9 (i3 X.prog X.w) X.A (isTrue e X.env a) (TP X p σ Q) X.xe s
theorem PW.pt(h:PW X e t):PT X e t:=h _
noncomputable def PA(X:Cx)(es:List h8)(t:TA):Prop:=∀(a:i4) (p:List (c8×c9)) (s:e9) (σ:St) (H:Hp) (Q:List V->Hp->Prop),p8 X p σ H s->t σ H Q->f9 (i3 X.prog X.w) X.A (spliced<|i5 a<|i6 es X.env) (AP X p σ Q) X.xe s
noncomputable def PS(X:Cx)(st:i7)(t:TS):Prop:=∀(p:List (c8×c9)) (s:e9) (σ:St) (H:Hp) (D:Ends),p8 X p σ H s->t D σ H->f9 (i3 X.prog X.w) X.A (exec st X.env) (SP X p D) X.xe s
noncomputable def J4(X:Cx)(st:List i7)(t:TS):Prop:=∀(p:List (c8×c9)) (s:e9) (σ:St) (H:Hp) (D:Ends),p8 X p σ H s->t D σ H->f9 (i3 X.prog X.w) X.A (execs st X.env) (SP X p D) X.xe s
theorem ve{α:Type}{t:Sem α}{Q Q':α->e9->Prop}{M:Model}{A:e8}{E:c4->e9->Prop}{s:e9}(h:f9 M A t Q E s)(b:∀a s,Q a s->Q' a s):f9 M A t Q' E s:=E5 h b λ_ _ x=>x
section
variable{X:Cx}
noncomputable def tVar(i:Nat):TE:=λσ H Q=>∃v,σ[i]?=a7 (a7 v)/\Q v H
noncomputable def tC(v:V):TE:=λ_ H Q=>Q v H
theorem DN(g:X.N[i]?=a7 x)(t:Mp X.env.scope x)(b:(x==("__debug__":c5))=bt:=by decide)(d:(x==("__classdict__":c5))=bt:=by decide):PE X (.Name x pos) (tVar i):=by
 intro p s σ H Q I h;obtain⟨v,e,h⟩:=h;obtain⟨m,q,j⟩:=I.loc;obtain⟨u,r,l⟩:=j i x v g e t;have n:EP X p σ Q u s:=⟨v,H,I,r,h⟩
 rcases l with⟨k,o⟩|⟨k,c,f,a⟩
 exact wpAny_Name (wpAny_loadName_local I.ok.kind k q o n) b;rcases k with k|k;exact wpAny_Name (wpAny_loadName_cell I.ok.kind k f a n) b;exact wpAny_Name (wpAny_loadName_free I.ok.kind k f a n d) b
theorem Ia{i j pos}:PE X (.Constant (.int i) j pos) (tC<|.int i):=λ_ _ _ H _ I h=>wpAny_Constant_int ⟨.int i,H,I.tok _,⟨_,rfl⟩,h⟩
theorem pe_bl{b j pos}:PE X (.Constant (.bool b) j pos) (tC<|.bl b):=λ_ _ _ H _ I h=>Constant_bool ⟨.bl b,H,I,rfl,h⟩
theorem HY{j pos}:PE X (.Constant .none j pos) (tC .non):=λ_ _ _ H _ I h=>Constant_none ⟨.non,H,I,rfl,h⟩
theorem HU{x j pos}:PE X (.Constant (.str x) j pos) (tC<|.str x):=λ_ _ _ H _ I h=>Calls.Constant_str ⟨.str x,H,I.tok _,⟨_,rfl⟩,h⟩
noncomputable def Gl(X:Cx)(x:c5):Prop:=X.env.kindOf x=a7 .globalImplicit
theorem Fp(I:p8 X pins σ H s)(S:Gl X x)(m:X.mg x=a7 u)(h:Q u s)(d:(x==("__debug__":c5))=bt:=by decide):f9 (i3 X.prog X.w) X.A (eval (.Name x pos) X.env) Q E s:=Calls.Name_function_global I.ok.kind S (Calls.loadGlobal_global (by rw[I.ok.glob];exact I.mod.glob.keeps I.bk) m h) d
theorem kP(I:p8 X pins σ H s)(S:Gl X x)(m:X.mg x=a8)(c:d9 x=a7 u)(h:Q u s)(f:x≠"__name__":=by decide) (d:(x==("__debug__":c5))=bt:=by decide):f9 (i3 X.prog X.w) X.A (eval (.Name x pos) X.env) Q E s:=by obtain⟨mb,h1,h2⟩:=I.mod.blt;exact Calls.Name_function_global I.ok.kind S (Calls.loadGlobal_builtin (by rw[I.ok.glob];exact I.mod.glob.keeps I.bk) m (by rw[I.ok.blt];exact h1.keeps I.bk) ((h2 x f).trans c) h) d
variable{a b:h8}{ta tb:TE}{pos:i4}
theorem aM.none_iff(r:aM x v):(v==Kz)=decide (x=.non):=by
 cases x with
 |non=>cases r;rfl
 |bl _=>cases r;rfl
 |int _=>obtain⟨t,rfl⟩:=r;rfl
 |str _=>obtain⟨t,rfl⟩:=r;rfl
 |byt _=>obtain⟨t,rfl⟩:=r;rfl
 |flt _=>obtain⟨t,rfl⟩:=r;rfl
 |ref _=>cases r;rfl
 |ty _=>cases r;rfl
noncomputable def tB(t:TE):TT:=λσ H Q=>t σ H λx a=>∃c,x=.bl c/\Q c a
theorem HH(h:PE X e t)(i:∀whole,isTrue e X.env whole=(do let v <-whole;standAt e.pos;i8 [v] (truthy v)):=by intro _;rfl):PT X e (tB t):=by intro p s σ H Q I w;refine isTrue_plain (ve (h p s σ H _ I w) ?_)<|i _;rintro v f ⟨x,a,b,r,c⟩;obtain⟨d,rfl,q⟩:=c;cases r;exact MJ ⟨a,b,q⟩
variable{tA tB':TT}{aY:List h8}
noncomputable def tAnd(t u:TT):TT:=λσ H Q=>t σ H λc a=>if c=a9 then u σ a Q else Q bt a
noncomputable def tOr(t u:TT):TT:=λσ H Q=>t σ H λc a=>if c=a9 then Q a9 a else u σ a Q
noncomputable def tNot(t:TT):TT:=λσ H Q=>t σ H λc a=>Q (!c) a
theorem EH(f:PT X a tA):PW X (.BoolOp .And [a] pos) tA:=by
 intro w p s σ H Q I h;refine isTrue_and<|ve (f p s σ H Q I h) λc b e=>?_;cases c with
 |true=>exact isTrue_and_nil e
 |false=>exact e
theorem HD(f:PT X a tA):PW X (.BoolOp .Or [a] pos) tA:=by
 intro w p s σ H Q I h;refine isTrue_or<|ve (f p s σ H Q I h) λc b e=>?_;cases c with
 |false=>exact isTrue_or_nil e
 |true=>exact e
theorem HF(f:PT X a tA)(g:PW X (.BoolOp .And (b::aY) pos) tB'):PW X (.BoolOp .And (a::b::aY) pos) (tAnd tA tB'):=by
 intro w p s σ H Q I h;refine isTrue_and<|ve (f p s σ H _ I h) ?_;rintro c i ⟨d,e,q⟩;cases c with
 |true=>exact g w p i σ d Q e q
 |false=>exact⟨d,e,q⟩
theorem pw_or(f:PT X a tA)(g:PW X (.BoolOp .Or (b::aY) pos) tB'):PW X (.BoolOp .Or (a::b::aY) pos) (tOr tA tB'):=by
 intro w p s σ H Q I h;refine isTrue_or<|ve (f p s σ H _ I h) ?_;rintro c i ⟨d,e,q⟩;cases c with
 |true=>exact⟨d,e,q⟩
 |false=>exact g w p i σ d Q e q
theorem HJ(f:PT X a tA):PT X (.UnaryOp .Not a pos) (tNot tA):=by intro p s σ H Q I h;refine isTrue_not<|ve (f p s σ H (λc b=>Q (!c) b) I h) ?_;rintro c e ⟨b,d,q⟩;exact⟨b,d,q⟩
noncomputable def tAndV(t b:TE):TE:=λσ H Q=>t σ H λx a=>∃c,x=.bl c/\if c=a9 then b σ a Q else Q (.bl bt) a
noncomputable def tOrV(t b:TE):TE:=λσ H Q=>t σ H λx a=>∃c,x=.bl c/\if c=a9 then Q (.bl a9) a else b σ a Q
noncomputable def tNotV(t:TE):TE:=λσ H Q=>t σ H λx a=>∃c,x=.bl c/\Q (.bl<|!c) a
theorem HV{op}(h:PE X a t):PE X (.BoolOp op [a] pos) t:=λp s σ H Q I w=>BoolOp_one<|h p s σ H Q I w
theorem Ic(f:PE X a ta)(g:PE X (.BoolOp .And (b::aY) pos) tb):PE X (.BoolOp .And (a::b::aY) pos) (tAndV ta tb):=by
 intro p s σ H Q I h;refine BoolOp_and<|ve (f p s σ H _ I h) ?_;rintro v i ⟨x,d,e,r,q⟩;obtain⟨c,rfl,q⟩:=q;cases r;refine MJ ?_;cases c with
 |true=>exact g p i σ d Q e q
 |false=>exact⟨.bl bt,d,e,rfl,q⟩
theorem pe_or(f:PE X a ta)(g:PE X (.BoolOp .Or (b::aY) pos) tb):PE X (.BoolOp .Or (a::b::aY) pos) (tOrV ta tb):=by
 intro p s σ H Q I h;refine BoolOp_or<|ve (f p s σ H _ I h) ?_;rintro v i ⟨x,d,e,r,q⟩;obtain⟨c,rfl,q⟩:=q;cases r;refine MJ ?_;cases c with
 |false=>exact g p i σ d Q e q
 |true=>exact⟨.bl a9,d,e,rfl,q⟩
theorem HX(f:PE X a ta):PE X (.UnaryOp .Not a pos) (tNotV ta):=by intro p s σ H Q I h;refine UnaryOp_<|ve (f p s σ H _ I h) ?_;rintro v e ⟨x,b,d,r,q⟩;obtain⟨c,rfl,q⟩:=q;cases r;exact not_of<|MJ ⟨.bl<|!c,b,d,rfl,q⟩
noncomputable def tIf(t:TT)(b d:TE):TE:=λσ H Q=>t σ H λc a=>if c=a9 then b σ a Q else d σ a Q
theorem BU(k:PT X c tA)(i:PE X a ta)(j:PE X b tb):PE X (.IfExp c a b pos) (tIf tA ta tb):=by
 intro p s σ H Q I h;refine wpAny_IfExp<|ve (k p s σ H _ I h) ?_;rintro d g ⟨e,f,q⟩;cases d with
 |true=>exact i p g σ e Q f q
 |false=>exact j p g σ e Q f q
end
noncomputable def Ki(K:u0)(H:Hp)(a:c8)(xs:List V):Prop:=Rd H a (.lst xs) \/∃(o:c9) (its:Array c4) (n:Nat),K.lookup a=a7 o/\o.cls=.type "list"/\o.dict=a8/\o.data=.seq its n/\its.size<=sizeLine/\aC xs its.toList
noncomputable def z0(K:u0)(H:Hp)(a:c8)(xs:List V):Prop:=Rd H a (.tup xs) \/∃(o:c9) (its:Array c4) (n:Nat),K.lookup a=a7 o/\o.cls=.type "tuple"/\o.dict=a8/\o.data=.seq its n/\its.size<=sizeLine/\aC xs its.toList
noncomputable def absV:c4->Option V
 |.none=>a7 .non
 |.bool b=>a7<|.bl b
 |.int i _=>a7<|.int i
 |.str x _=>a7<|.str x
 |.bytes b _=>a7<|.byt b
 |.float b _=>a7<|.flt b
 |.ref a=>a7<|.ref a
 |.type n=>a7<|.ty n
 |_=>a8
theorem aM.abs(r:aM x u):absV u=a7 x:=by
 cases x with
 |non=>cases r;rfl
 |bl _=>cases r;rfl
 |int _=>obtain⟨t,rfl⟩:=r;rfl
 |str _=>obtain⟨t,rfl⟩:=r;rfl
 |byt _=>obtain⟨t,rfl⟩:=r;rfl
 |flt _=>obtain⟨t,rfl⟩:=r;rfl
 |ref _=>cases r;rfl
 |ty _=>cases r;rfl
theorem aM.inj(r:aM x u)(q:aM y u):x=y:=A6<|r.abs.symm.trans q.abs
theorem aC.inj(h:aC xs us)(h':aC ys us):xs=ys:=by
 induction h generalizing ys with
 |nil=>cases h';rfl
 |cons r t i=>cases h' with
  |cons r' t'=>rw[r.inj r',i t']
section
variable{X:Cx}{pins:List (c8×c9)}{σ:St}{H:Hp}{s:e9}{a:c8}{xs ys:List V}
theorem z0.of{K:u0}(h:H a=a7 (.tup xs)):z0 K H a xs:=.inl<|.inl h
theorem p8.list(I:p8 X pins σ H s)(h:Ki X.K H a xs):∃its:List c4,aC xs its/\PlainL s.heap a its.toArray/\xs.length<=sizeLine:=by
 rcases h with h|⟨o,its,n,k,f,d,hs,b,r⟩
 obtain⟨z,its,n,r,e⟩:=h.ok I.hok;exact⟨its,r,⟨_,n,e,rfl,rfl,rfl⟩,z⟩;refine⟨its.toList,r,⟨o,n,I.kIn a o k,f,d,by simpa using hs⟩,?_⟩;have e:=r.length;simp only[D6]at e;lia
theorem p8.tuple(I:p8 X pins σ H s)(h:z0 X.K H a xs):∃its:List c4,aC xs its/\IsTup s.heap a its.toArray/\xs.length<=sizeLine:=by
 rcases h with h|⟨o,its,n,k,f,_,hs,b,r⟩
 obtain⟨z,its,r,p⟩:=h.ok I.hok;exact⟨its,r,p.tup,z⟩;refine⟨its.toList,r,⟨o,I.kIn a o k,f,n,by simpa using hs⟩,?_⟩;have e:=r.length;simp only[D6]at e;lia
theorem p8.list_inj(I:p8 X pins σ H s)(h:Ki X.K H a xs)(h':Ki X.K H a ys):xs=ys:=by
 obtain⟨its,r,⟨o,n,e,_,_,d⟩,_⟩:=I.list h;obtain⟨i,r',⟨g,f,c,_,_,b⟩,_⟩:=I.list h';rw[e]at c;cases c;rw[d]at b;injection b with d1 _;have:its=i:=by simpa using o8 Array.toList d1
 subst this;exact r.inj r'
theorem p8.tuple_inj(I:p8 X pins σ H s)(h:z0 X.K H a xs)(h':z0 X.K H a ys):xs=ys:=by
 obtain⟨its,r,⟨o,e,_,n,d⟩,_⟩:=I.tuple h;obtain⟨i,r',⟨g,c,_,f,b⟩,_⟩:=I.tuple h';rw[e]at c;cases c;rw[d]at b;injection b with d1 _;have:its=i:=by simpa using o8 Array.toList d1
 subst this;exact r.inj r'
end
noncomputable abbrev Cx.wish(X:Cx)(E:c4->e9->Prop):Cx:={ X with xe:=E }
noncomputable abbrev Cx.nox(X:Cx):Cx:=X.wish λ_ _=>False
theorem Cx.Ok.wish{X:Cx}(ok:X.Ok)(E:c4->e9->Prop):(X.wish E).Ok:=⟨ok.mod,ok.kind,ok.glob,ok.blt,ok.above,ok.inj,ok.has,ok.cab,ok.hd,ok.frames,ok.stk,ok.exf,ok.bs,ok.bsz,ok.noex,ok.exfs,ok.funs,ok.frf⟩
theorem Cx.Ok.unwish{X:Cx}{E:c4->e9->Prop}(ok:(X.wish E).Ok):X.Ok:=⟨ok.mod,ok.kind,ok.glob,ok.blt,ok.above,ok.inj,ok.has,ok.cab,ok.hd,ok.frames,ok.stk,ok.exf,ok.bs,ok.bsz,ok.noex,ok.exfs,ok.funs,ok.frf⟩
section
variable{X:Cx}{pins:List (c8×c9)}{σ:St}{H:Hp}{s:e9}{E:c4->e9->Prop}
theorem p8.wish(I:p8 X pins σ H s)(E:c4->e9->Prop):p8 (X.wish E) pins σ H s:=⟨I.ok.wish E,I.os,I.bare,I.base,I.loc,I.cell,I.free,I.freeC,I.pin,I.hok,I.len⟩
theorem p8.unwish(I:p8 (X.wish E) pins σ H s):p8 X pins σ H s:=⟨I.ok.unwish,I.os,I.bare,I.base,I.loc,I.cell,I.free,I.freeC,I.pin,I.hok,I.len⟩
theorem SP.unwish(h:SP (X.wish E) pins D f s'):SP X pins D f s':=by
 cases f with
 |next=>obtain⟨a,H',I,q⟩:=h;exact⟨a,H',I.unwish,q⟩
 |brk=>obtain⟨a,H',I,q⟩:=h;exact⟨a,H',I.unwish,q⟩
 |cont=>obtain⟨a,H',I,q⟩:=h;exact⟨a,H',I.unwish,q⟩
 |ret u=>obtain⟨v,a,H',I,r,q⟩:=h;exact⟨v,a,H',I.unwish,r,q⟩
theorem PE.nox(h:PE X.nox e t):PE X e t:=λp s σ H Q I w =>
 E5 (h p s σ H Q (I.wish _) w) (λ_ _ ⟨v,H',a,r,q⟩=>⟨v,H',a.unwish,r,q⟩) λ_ _ z=>Lk z
theorem J4.nox{st:List i7}{t:TS}(h:J4 X.nox st t):J4 X st t:=λp s σ H D I w =>
 E5 (h p s σ H D (I.wish _) w) (λ_ _ q=>q.unwish) λ_ _ z=>Lk z
end
section
variable{X:Cx}{st:i7}{aY:List i7}{t u:TS}{e:h8}{te:TE}{pos:i4}
noncomputable def tNext:TS:=λD σ H=>D.nx σ H
noncomputable def tSeq(t u:TS):TS:=λD σ H=>t { D with nx:=u D } σ H
theorem EM:J4 X [] tNext:=λ_ _ σ H _ I h=>wpAny_execs_nil ⟨σ,H,I,h⟩
theorem BN(h1:PS X st t)(h2:J4 X aY u):J4 X (st::aY) (tSeq t u):=by
 intro p s σ H D I h;refine wpAny_execs_cons<|ve (h1 p s σ H { D with nx:=u D } I h) λf c q=>?_;cases f with
 |next=>obtain⟨a,H',b,q⟩:=q;exact h2 p c a H' D b q
 |ret v=>exact q
 |brk=>exact q
 |cont=>exact q
theorem EL(h1:PS X st t):J4 X [st] t:=by
 intro p s σ H D I h;refine wpAny_execs_cons<|ve (h1 p s σ H D I h) λf a q=>?_;cases f with
 |next=>exact wpAny_execs_nil q
 |ret v=>exact q
 |brk=>exact q
 |cont=>exact q
theorem p8.quiet(I:p8 X pins σ H s):interactive X.env=bt:=by simp[interactive,I.ok.kind]
noncomputable def tDrop(te:TE):TS:=λD σ H=>te σ H λ_ a=>D.nx σ a
theorem EN(i:PE X e te)(hs:i9 e a8 pos.line X.env=pure bt:=by rfl):PS X (.Expr e pos) (tDrop te):=by intro p s σ H D I h;exact wpAny_Expr_any (ve (i p s σ H _ I h) λv f ⟨x,a,b,r,c⟩=>⟨σ,a,b,c⟩) I.quiet hs
noncomputable def tRet(te:TE):TS:=λD σ H=>te σ H D.rt
theorem HL(i:PE X e te):PS X (.Return (a7 e) pos) (tRet te):=by intro p s σ H D I h;refine wpAny_Return_some<|ve (i p s σ H _ I h) ?_;rintro v f ⟨x,a,b,r,c⟩;exact⟨x,σ,a,b,r,c⟩
noncomputable def tIfS(c:TT)(t u:TS):TS:=λD σ H=>c σ H λb a=>if b=a9 then t D σ a else u D σ a
theorem ps_if(k:PT X c tc)(i:J4 X a t)(j:J4 X b u):PS X (.If c a b pos) (tIfS tc t u):=by
 intro p s σ H D I h;refine wpAny_If<|ve (k p s σ H _ I h) ?_;rintro d g ⟨e,f,q⟩;cases d with
 |true=>exact i p g σ e D f q
 |false=>exact j p g σ e D f q
end
noncomputable abbrev TG:=V->St->Hp->(St->Hp->Prop)->Prop
noncomputable abbrev Nr:=List V->St->Hp->(St->Hp->Prop)->Prop
noncomputable def PG(X:Cx)(a:h8)(t:TG):Prop:=∀(p:List (c8×c9)) (s:e9) (σ:St) (H:Hp) (v:V) (u:c4) (Q:St->Hp->Prop),p8 X p σ H s->aM v u->t v σ H Q ->f9 (i3 X.prog X.w) X.A (j0 a X.env u) (λ_ s'=>∃b H',p8 X p b H' s'/\Q b H') X.xe s
noncomputable def Nu(X:Cx)(b:List h8)(t:Nr):Prop:=∀(p:List (c8×c9)) (s:e9) (σ:St) (H:Hp) (vs:List V) (us:List c4) (Q:St->Hp->Prop),p8 X p σ H s->aC vs us->t vs σ H Q ->f9 (i3 X.prog X.w) X.A (assignInOrder ((j1 b X.env).map (·.2)) us) (λ_ s'=>∃a H',p8 X p a H' s'/\Q a H') X.xe s
noncomputable abbrev TSet:=V->V->V->Hp->(Hp->Prop)->Prop
noncomputable def PSet(X:Cx)(t:TSet):Prop:=∀(p:List (c8×c9)) (s:e9) (σ:St) (H:Hp) (o i v:V) (b a u:c4) (Q:Hp->Prop),p8 X p σ H s->aM o b->aM i a->aM v u->t o i v H Q ->f9 (i3 X.prog X.w) X.A (setItem b a u) (λ_ s'=>∃H',p8 X p σ H' s'/\Q H') X.xe s
section
variable{X:Cx}{pos:i4}
noncomputable def Ju(i:Nat):TG:=λv σ H Q=>Q (σ.set i<|a7 v) H
theorem ES(b:X.N.Nodup)(hi:X.N[i]?=a7 x)(c:L1 X.env.scope x)(f:X.fn x=a9\/X.env.scope.names.lookup x=a7 .local:=by first|exact .inl rfl|exact .inr rfl|assumption):PG X (.Name x pos) (Ju i):=by intro p s σ H v u Q I r h;exact wpAny_assign_Name<|wd I b hi c r (λs' a=>⟨_,H,a,h⟩) f
noncomputable def gNil:Nr:=λvs σ H Q=>vs=[]/\Q σ H
noncomputable def gCons(t:TG)(u:Nr):Nr:=λvs σ H Q=>∃v r,vs=v::r/\t v σ H λa H'=>u r a H' Q
theorem ER:Nu X [] gNil:=by intro p s σ H vs us Q I r h;obtain⟨e,h⟩:=h;subst e;cases r;exact assignInOrder_nil ⟨σ,H,I,h⟩
theorem BR(h1:PG X e t)(h2:Nu X es u)(hs:(j1 (e::es) X.env).map (·.2)=j0 e X.env::(j1 es X.env).map (·.2):=by rfl):Nu X (e::es) (gCons t u):=by
 intro p s σ H vs us Q I r h;obtain⟨v,i,d,h⟩:=h;subst d;cases r with
 |cons r f=>rw[hs];refine assignInOrder_cons<|ve (h1 p s σ H _ _ _ I r h) ?_;rintro _ g ⟨a,b,c,q⟩;exact h2 p g a b _ _ Q c f q
noncomputable def gTup(K:u0)(n:Nat)(t:Nr):TG:=λv σ H Q=>∃a xs,v=.ref a/\z0 K H a xs/\xs.length=n/\t xs σ H Q
theorem HP(i:X.calm=a9)(h:Nu X es t)(j:(j1 es X.env).length=n:=by rfl) (c:(j1 es X.env).findIdx? (·.1)=a8:=by rfl):PG X (.Tuple es k pos) (gTup X.K n t):=by intro p s σ H v u Q I r w;obtain⟨a,xs,g,q,l,w⟩:=w;subst g;cases r;obtain⟨its,d,D,z⟩:=I.tuple q;refine assign_Tuple_tuple (I.ok.hd i) D (by simp[j,<-l,d.length]) c λh' x=>?_;have f:p8 X p σ H { s with heap:=h' }:=I.kept (t':=s.toks) λb o e=>x b o (w9<|v7 e) e;exact h p _ σ H xs _ Q f (by simpa using d) w
noncomputable def gSub(e d:TE)(t:TSet):TG:=λv σ H Q=>e σ H λo a=>d σ a λi b=>t o i v b λc=>Q σ c
theorem HQ(B:PE X o to)(hi:PE X i ti)(hs:PSet X t)(g:∀v,j0 (.Subscript o i pos) X.env v=(do
   let ov <-i8 [v] (eval o X.env)
   let iv <-i8 [v,ov] (eval i X.env)
   standAt pos
   i8 [v,ov,iv] (setItem ov iv v)
   release [v,ov,iv] []):=by intro _;rfl):PG X (.Subscript o i pos) (gSub to ti t):=by intro p s σ H v u Q I r h;rw[g];refine p6<|D7<|ve (B p s σ H _ I h) ?_;rintro ov n ⟨x,a,d,l,q⟩;refine p6<|D7<|ve (hi p n σ a _ d q) ?_;rintro iv w ⟨y,b,e,m,j⟩;refine p6<|wpAny_standAt<|p6<|D7<|ve (hs p w σ b x y v ov iv u _ e l m r j) ?_;rintro _ z ⟨c,f,k⟩;exact wpAny_release ⟨σ,c,f,k⟩
noncomputable def tAsg(te:TE)(g:TG):TS:=λD σ H=>te σ H λx a=>g x σ a D.nx
theorem HN(i:PE X e te)(S:PG X tg g)(hs:swapsWithSole [tg] e pos.line X.env=pure bt:=by rfl)(w:swappedStores [tg] e X.env=pure a8:=by rfl)(h1:(j1 [tg] X.env).map (·.2)=[j0 tg X.env]:=by rfl):PS X (.Assign [tg] e pos) (tAsg te g):=by intro p s σ H D I h;refine wpAny_Assign_stores (ve (i p s σ H _ I h) ?_) hs w;rintro v f ⟨x,a,b,r,c⟩;rw[h1];exact ve (S p f σ a x v _ b r c) λ_ d q=>q
theorem HK(d:X.N.Nodup)(hi:X.N[i]?=a7 x)(j:L1 X.env.scope x)(f:PE X e te)(hs:i9 e (a7<|.Name x pos') pos.line X.env=pure bt:=by rfl)(g:X.fn x=a9\/X.env.scope.names.lookup x=a7 .local:=by first|exact .inl rfl|exact .inr rfl|assumption):PS X (.Assign [.Name x pos'] e pos) (tAsg te<|Ju i):=by intro p s σ H D I h;refine wpAny_Assign_Name (ve (f p s σ H _ I h) ?_) hs;rintro v k ⟨y,a,b,r,q⟩;exact wd b d hi j r (λw c=>⟨_,a,c,q⟩) g
end
structure It where
 go:Nat->Hp->Prop
 yld:Nat->Hp->V->Hp->Prop
 stop:Nat->Hp->Prop
noncomputable def ym(X:Cx)(pins:List (c8×c9))(H:Hp)(b:c8):Prop:=H b=a8/\b≠X.env.locals/\b∉X.fs/\(b∈X.ex\/X.s₀.heap.objs.size<=b)/\(∀x c,X.env.cells.lookup x=a7 c->c≠b)/\∀p∈X.pn++pins,p.1≠b
theorem p8.fpOk(I:p8 X pins σ H s)(d:s.heap.objs.size<=b)(f:H' b=a8):ym X pins H' b:=by refine⟨f,NA<|G0 I.lt d,I.nofs d,.inr<|B9 I.sz d,λx c e z=>?_,λp h z=>?_⟩;obtain⟨v,q⟩:=I.cell x c e;exact n9 (G0 q.lt<|by rw[z];exact d)<|D8 _;exact n9 (G0 (v7 (I.pin p h).1)<|by rw[z];exact d)<|D8 _
structure Turn(P:c7)(w:c6)(K:u0)(tg:h8)(J:It)(fp:List c8)(it:c8)(tn:Nat->d5->Prop):Prop where
 mem:it∈fp
 obj:∀i h,tn i h->∀b∈fp,∃o,h.get? b=a7 o/\∀v,o.data≠.cell v
 keep:∀i h h',tn i h->(∀b∈fp,∀o,h.get? b=a7 o->h'.get? b=a7 o)->tn i h'
 item:∀(X:Cx),X.prog=P->X.w=w->X.K=K->X.calm=a9->∀(i:Nat) (pins:List (c8×c9)) (s:e9) (σ:St) (H:Hp) (E:c4->e9->Prop),p8 X pins σ H s->(∀b∈fp,ym X pins H b)->tn i s.heap->J.go i H ->f9 (i3 P w) X.A (j2<|.ref it) (λr s1=>∃u,r=a7 u /\ f9 (i3 P w) X.A (j3 tg (.ref it) u) (λ_ s2=>∃x H',p8 X pins σ H' s2/\aM x u/\J.yld i H x H'/\tn (i+1) s2.heap/\∀b∈fp,H' b=a8) E s1) E s
 done:∀(X:Cx),X.prog=P->X.w=w->X.K=K->X.calm=a9->∀(i:Nat) (pins:List (c8×c9)) (s:e9) (σ:St) (H:Hp) (E:c4->e9->Prop),p8 X pins σ H s->(∀b∈fp,ym X pins H b)->tn i s.heap->J.stop i H ->f9 (i3 P w) X.A (j2<|.ref it) (λr s1=>r=a8/\p8 X pins σ H s1) E s
 self:∀(A:e8) (i:Nat) (s:e9) (Q:c4->e9->Prop) (E:c4->e9->Prop),tn i s.heap->Q (.ref it) s->f9 (i3 P w) A (j4<|.ref it) Q E s
noncomputable abbrev TI:=St->Hp->(It->Hp->Prop)->Prop
inductive N9(X:Cx)(pins:List (c8×c9))(σ:St)(tg:h8)(R:It->Hp->Prop)(itv:c4)(s2:e9):Prop
 |mk (it:c8) (fp:List c8) (tn:Nat->d5->Prop) (J:It) (H':Hp) (f0:itv=.ref it) (f1:p8 X pins σ H' s2) (f2:Turn X.prog X.w X.K tg J fp it tn) (f3:tn 0 s2.heap) (f4:(∀b∈fp,ym X pins H' b)) (f5:R J H')
noncomputable def PI(X:Cx)(g r:h8)(wi:TI):Prop:=∀(p:List (c8×c9)) (s:e9) (σ:St) (H:Hp) (R:It->Hp->Prop),p8 X p σ H s->wi σ H R ->f9 (i3 X.prog X.w) X.A (eval r X.env) (λv f=>f9 (i3 X.prog X.w) X.A (j4 v) (N9 X p σ g R) X.xe f) X.xe s
theorem xT(B:s.heap.get? it=a7 o)(f:o.cls=.type n)(d:o.data=.fields vs)(a:["enumerate","zip","dict_itemiterator","dict_reverseitemiterator","odict_iterator","itertools.zip_longest","itertools.pairwise"].contains n=bt) (b:Q () s):f9 M A (j3 tg (.ref it) u) Q E s:=by
 unfold j3;cases tg<;>first
  |exact q9 b
  |(cases u<;>first
    |exact q9 b
    |(refine p6 (wpAny_load B ?_);rw[f,d];show f9 M A (if (["enumerate","zip","dict_itemiterator","dict_reverseitemiterator","odict_iterator","itertools.zip_longest","itertools.pairwise"].contains n&&vs[0]?==a7 (j5 _))=a9 then _ else _) Q E s;rw[n6 (by intro h;rw[a,Bool.false_and]at h;cases h)];exact q9 b))
noncomputable def PQ(K:u0)(a:c8):It:=⟨λi H=>∃xs x,Ki K H a xs/\xs[i]?=a7 x,λi H x H'=>H'=H/\∀xs,Ki K H a xs->xs[i]?=a7 x,λi H=>∃xs,Ki K H a xs/\xs.length<=i⟩
noncomputable def PP(K:u0)(a:c8):It:=⟨λi H=>∃xs x,z0 K H a xs/\xs[i]?=a7 x,λi H x H'=>H'=H/\∀xs,z0 K H a xs->xs[i]?=a7 x,λi H=>∃xs,z0 K H a xs/\xs.length<=i⟩
noncomputable def Nx(l:Int)(n:Nat):It:=⟨λi _=>i<n,λi H x H'=>H'=H/\x=.int (l+i),λi _=>n<=i⟩
theorem yy{P:c7}{w:c6}{K:u0}{U:h8}(a it:c8):Turn P w K U (PQ K a) [it] it (λi h=>h.IsListIter it a i) where
 mem:=by simp
 obj:=λi h st b g=>by
  have e:b=it:=by simpa using g
  subst e;obtain⟨o,e,c,d⟩:=st;exact⟨o,e,λv z=>by rw[d]at z;cases z⟩
 keep:=λi h h' st k=>st.at λo e=>k it (by simp) o e
 item:=by intro X B C A G i f s σ H E I l st S;subst B C A;obtain⟨xs,x,q,D⟩:=S;obtain⟨its,F,p,Q⟩:=I.list q;obtain⟨u,N,R⟩:=F.get D;obtain⟨m,n,M,r,t,y⟩:=l it (by simp);refine wpAny_pyNext_list_item st p.isList (x:=u) (by simpa using N) λh' j T=>?_;have J:p8 X f σ H { s with heap:=h' }:=I.turned (t':=s.toks) (λb o g e=>(T.2 b g).trans e) m n r t y;obtain⟨o,e,c,d⟩:=id j;exact⟨u,rfl,xT (s:={ s with heap:=h' }) e c d (by decide) ⟨x,H,J,R,⟨rfl,λys O=>by rw[I.list_inj O q];exact D⟩,j,λb g=>(l b g).1⟩⟩
 done:=by intro X B C A G i f s σ H E I l st S;subst B C A;obtain⟨xs,q,D⟩:=S;obtain⟨its,F,p,Q⟩:=I.list q;obtain⟨m,n,M,r,t,y⟩:=l it (by simp);have V:=F.length;exact wpAny_pyNext_list_end (I.ok.hd G) st p.isList (by simp;lia) λh' L=>⟨rfl,I.turned (t':=s.toks) (λb o g e=>L b o g e) m n r t y⟩
 self:=λ_ _ _ _ _ st h=>wpAny_pyIter_listiter st h
theorem xi{P:c7}{w:c6}{K:u0}{U:h8}(a it:c8):Turn P w K U (PP K a) [it] it (λi h=>h.IsTupleIter it a i) where
 mem:=by simp
 obj:=λi h st b g=>by
  have e:b=it:=by simpa using g
  subst e;obtain⟨o,e,c,d⟩:=st;exact⟨o,e,λv z=>by rw[d]at z;cases z⟩
 keep:=λi h h' st k=>st.at λo e=>k it (by simp) o e
 item:=by intro X B C A G i f s σ H E I l st S;subst B C A;obtain⟨xs,x,q,D⟩:=S;obtain⟨its,F,p,Q⟩:=I.tuple q;obtain⟨u,N,R⟩:=F.get D;obtain⟨m,n,M,r,t,y⟩:=l it (by simp);refine wpAny_pyNext_tuple_item st (show s.heap.IsTuple a its.toArray from p) (x:=u) (by simpa using N) λh' j T=>?_;have J:p8 X f σ H { s with heap:=h' }:=I.turned (t':=s.toks) (λb o g e=>(T.2 b g).trans e) m n r t y;obtain⟨o,e,c,d⟩:=id j;exact⟨u,rfl,xT (s:={ s with heap:=h' }) e c d (by decide) ⟨x,H,J,R,⟨rfl,λys O=>by rw[I.tuple_inj O q];exact D⟩,j,λb g=>(l b g).1⟩⟩
 done:=by intro X B C A G i f s σ H E I l st S;subst B C A;obtain⟨xs,q,D⟩:=S;obtain⟨its,F,p,Q⟩:=I.tuple q;obtain⟨m,n,M,r,t,y⟩:=l it (by simp);have V:=F.length;exact wpAny_pyNext_tuple_end (I.ok.hd G) st (show s.heap.IsTuple a its.toArray from p) (by simp;lia) λh' L=>⟨rfl,I.turned (t':=s.toks) (λb o g e=>L b o g e) m n r t y⟩
 self:=λ_ _ _ _ _ st h=>wpAny_pyIter_tupleiter st h
theorem xj{P:c7}{w:c6}{K:u0}{F:h8}(it:c8)(l:Int)(n:Nat):Turn P w K F (Nx l n) [it] it (λi h=>IsRangeIter h it (l+(i:Nat)*1) ((n:Int)-(i:Nat)) 1) where
 mem:=by simp
 obj:=λi h st b d=>by
  have e:b=it:=by simpa using d
  subst e;exact⟨_,st,λv z=>by have G:Data.fields _=Data.cell v:=z;cases G⟩
 keep:=λi h h' st k=>k it (by simp) _ st
 item:=by intro X B q A g i p s σ H E I f st S;subst B q A;obtain⟨m,a,M,r,c,y⟩:=f it (by simp);have W:=Walks.range (prog:=X.prog) (w:=X.w) (I.ok.hd g) it l 1 n;refine W.item i s _ _ S st λv h' u C j D=>?_;obtain⟨t,rfl⟩:=C;have x:p8 X p σ H { s with heap:=h',toks:=u }:=I.turned (λb o d e=>D b o (by simpa using d) e) m a r c y;refine⟨_,rfl,xT (s:={ s with heap:=h',toks:=u }) (n:="range_iterator") j rfl rfl (by decide) ⟨.int<|l+i,H,x,⟨t,?_⟩,⟨rfl,rfl⟩,j,λb d=>(f b d).1⟩⟩;rw[Int.mul_one]
 done:=by intro X B q A g i p s σ H E I f st S;subst B q A;obtain⟨m,a,M,r,c,y⟩:=f it (by simp);exact wpAny_pyNext_range_end (I.ok.hd g) st (by have:n<=i:=S;lia) λh' L=>⟨rfl,I.turned (t':=s.toks) (λb o d e=>L b o d e) m a r c y⟩
 self:=λ_ _ _ _ _ st h=>wpAny_pyIter_rangeiter st h
section
variable{X:Cx}{tg:h8}
theorem wk{pins:List (c8×c9)}{σ:St}{H:Hp}{s:e9}{R:It->Hp->Prop}{E:c4->e9->Prop}{l hi:Int}{t u v:Tok}{tk:Nat}(I:p8 X pins σ H s)(h1:-(2 ^ 62)<=l)(h2:l<2 ^ 62)(h:-(2 ^ 62)<=hi)(f:hi<2 ^ 62)(q:R (Nx l (hi-l).toNat) H):f9 (i3 X.prog X.w) X.A (j4<|.ref s.heap.objs.size) (N9 X pins σ tg R) E { s with heap:=s.heap.push { cls:=.type "range",data:=.fields #[.int l t,.int hi u,.int 1 v] },toks:=tk }:=by
 refine wpAny_pyIter_range (IsRange.new ..) (small_one h1 h2 h f) ?_;have a:p8 X pins σ H { s with heap:=s.heap.push { cls:=.type "range",data:=.fields #[.int l t,.int hi u,.int 1 v] },toks:=tk }:=I.kept λb o e=>v5 _ e;refine⟨(s.heap.push { cls:=.type "range",data:=.fields #[.int l t,.int hi u,.int 1 v] }).objs.size,[(s.heap.push { cls:=.type "range",data:=.fields #[.int l t,.int hi u,.int 1 v] }).objs.size],_,_,H,rfl,a.kept (t':=tk) λb o e=>v5 _ e,xj _ l (hi-l).toNat,?_,λb g=>?_,q⟩;have c:l+((0:Nat):Int)*1=l:=by simp
 have d:(((hi-l).toNat:Nat):Int)-((0:Nat):Int)=Builtin.Range.rangeSize l hi 1:=by rw[rangeSize_one];split<;>lia
 show IsRangeIter _ _ (l+((0:Nat):Int)*1) ((((hi-l).toNat:Nat):Int)-((0:Nat):Int)) 1;rw[c,d];exact z6 _ rfl;have e:b=(s.heap.push { cls:=.type "range",data:=.fields #[.int l t,.int hi u,.int 1 v] }).objs.size:=by simpa using g
 subst e;exact a.fpOk (u6 _)<|a.hok.fresh<|u6 _
noncomputable def iRng1(t:TA):TI:=λσ H R=>t σ H λvs a=>∃j:Int,vs=[.int j]/\-(2 ^ 62)<=j/\j<2 ^ 62/\R (Nx 0 j.toNat) a
noncomputable def iRng2(t:TA):TI:=λσ H R=>t σ H λvs a=>∃i j:Int,vs=[.int i,.int j]/\(-(2 ^ 62)<=i/\i<2 ^ 62/\-(2 ^ 62)<=j/\j<2 ^ 62)/\R (Nx i (j-i).toNat) a
theorem zw{a:h8}{f:TA}{p c:i4}(S:Gl X "range")(m:X.mg "range" = a8)(i:PA X [a] f)(hs:i6 [a] X.env=[(bt,eval a X.env)]:=by rfl):PI X tg (.Call (.Name "range" p) [a] [] c) (iRng1 f):=by
 intro b s σ H R I h;refine Call_<|kP I S m boot_range<|PJ (ve (i c b s σ H _ I h) ?_) hs rfl;rintro us u ⟨vs,o,g,l,d⟩;obtain⟨j,e,d,k,q⟩:=d;subst e;cases l with
 |cons r n=>cases n;obtain⟨t,rfl⟩:=r;exact call_range_1<|wk g (by lia) (by lia) d k<|by simpa using q
theorem zv(S:Gl X "range")(m:X.mg "range" = a8)(l:PA X [a,b] ta)(hs:i6 [a,b] X.env=[(bt,eval a X.env),(bt,eval b X.env)]:=by rfl)(c:i6 [b] X.env=[(bt,eval b X.env)]:=by rfl):PI X tg (.Call (.Name "range" p) [a,b] [] pos) (iRng2 ta):=by
 intro d s σ H R I h;refine Call_ (kP I S m boot_range<|PJ (ve (l pos d s σ H _ I h) ?_) (by rw[hs,c])<|by rw[c];rfl);rintro us x ⟨vs,w,k,v,f⟩;obtain⟨i,j,e,⟨f,n,o,u⟩,q⟩:=f;subst e;cases v with
 |cons r g =>
  cases g with
  |cons r' g=>cases g;obtain⟨t,rfl⟩:=r;obtain⟨t',rfl⟩:=r';exact call_range_2<|wk k f n o u q
noncomputable def tFor(wi:TI)(g:TG)(t:TS):TS:=λD σ H=>wi σ H λJ d=>∃W:Nat->Nat->St->Hp->Prop,(∃m,W 0 m σ d)/\∀i m σ H,W i m σ H ->(J.stop i H/\D.nx σ H)\/(J.go i H/\∃N:St->Hp->Prop,(∀a H',N a H'->∃c,c < m/\W (i+1) c a H')/\∀x H',J.yld i H x H'->g x σ H' λb e=>t { D with nx:=N,ct:=N,bk:=D.nx } b e)
noncomputable def jy(fp:List c8)(h:d5):List (c8×c9):=fp.filterMap λb=>(h.get? b).map λo=>(b,o)
theorem gK(d:b∈fp)(e:h.get? b=a7 o):(b,o)∈jy fp h:=List.mem_filterMap.mpr ⟨b,d,by rw[e];rfl⟩
theorem sw(c:p∈jy fp h):p.1∈fp/\h.get? p.1=a7 p.2:=by
 obtain⟨b,d,e⟩:=Ml.mp c;cases q:h.get? b with
 |none=>rw[q]at e;cases e
 |some o=>rw[q]at e;have a:(b,o)=p:=A6 e;subst a;exact⟨d,q⟩
theorem p8.pinned(I:p8 X pins σ H s)(f:∀b∈fp,ym X pins H b)(B:∀b∈fp,∃o,s.heap.get? b=a7 o/\∀v,o.data≠.cell v):p8 X (pins++jy fp s.heap) σ H s:=I.pins_of λp c=>(C9.mp c).elim (λz=>I.pin p<|E3 _ z) λz=>by obtain⟨h,e⟩:=sw z;obtain⟨m,n,M,_⟩:=f p.1 h;obtain⟨o,a,d⟩:=B p.1 h;rw[e]at a;cases a;exact⟨e,m,n,M,d⟩
theorem p8.unpinned(I:p8 X (pins++pl) σ H s):p8 X pins σ H s:=I.pins_of λp h=>I.pin p<|E3 _<|Ks _ h
theorem HM(F:PassesOwn (i3 X.prog X.w) X.A X.env X.xe)(hc:X.calm=a9)(hi:PI X tg iter wi)(hg:PG X tg g)(l:J4 X body tb)(hs:∀x,j6 iter X.env x=pure x:=by intro _;rfl):PS X (.For tg iter body [] pos) (tFor wi g tb):=by
 intro p s σ H D I h;refine wpAny_For (ve (hi p s σ H _ I h) λv s1 h1=>ve h1 λai s2 h2=>?_) hs;obtain⟨it,C,tn,J,H2,e,I2,T,U,f2,W,⟨m0,w0⟩,M⟩:=h2;subst e
 -- what stays a9 of the iterator's objects through the loop
 have t:∀{H':Hp},(∀b∈C,H' b=a8)->∀b∈C,ym X p H' b:=λhn b l=>⟨hn b l,(f2 b l).2⟩
 refine codeAny_forLoop_any (λn s'=>∃i q H',p8 X p q H' s'/\tn i s'.heap/\(∀b∈C,H' b=a8)/\W i n q H') ?_ m0 ⟨0,σ,H2,I2,U,λb l=>(f2 b l).1,w0⟩;rintro n s3 ⟨i,y,O,Z,K,E,w3⟩;rcases M i n y O w3 with⟨stop,qn⟩|⟨go,N,hN,L⟩
 refine NI F<|ve (T.done X rfl rfl rfl hc i p s3 y O X.xe Z (t E) K stop) ?_;rintro r s4 ⟨R,I4⟩;subst R;exact wpAny_execs_nil ⟨y,O,I4,qn⟩
 ·refine NI F (ve (T.item X rfl rfl rfl hc i p s3 y O X.xe Z (t E) K go) ?_)
  rintro r s4 ⟨u,R,h4⟩;subst R;refine NI F<|ve h4 ?_;rintro _ s5 ⟨x,Y,I5,r5,y5,B,Q⟩;have P:=I5.pinned (t Q)<|T.obj _ _ B;refine NI F<|ve (hg _ s5 y Y x u _ P r5<|L x Y y5) ?_;rintro _ s6 ⟨V,H6,I6,q6⟩;refine NI F<|ve (l _ s6 V H6 _ I6 q6) λf S z=>?_;have k:∀{a:St}{c:Hp},p8 X (p++jy C s5.heap) a c S->N a c->∃m,m<n/\∃i q H',p8 X p q H' S/\tn i S.heap/\(∀b∈C,H' b=a8)/\W i m q H':=λ{a c} j G=>by obtain⟨m',hm,w7⟩:=hN a c G;refine⟨m',hm,i+1,a,c,j.unpinned,T.keep _ _ _ B λb l o e=>(j.pin (b,o)<|E3 _<|E3 _<|gK l e).1,λb l=>?_,w7⟩;obtain⟨o,e,d⟩:=T.obj _ _ B b l;exact(j.pin (b,o)<|E3 _<|E3 _<|gK l e).2.1
  cases f with
  |next=>obtain⟨a,c,j,G⟩:=z;exact k j G
  |cont=>obtain⟨a,c,j,G⟩:=z;exact k j G
  |brk=>obtain⟨a,c,j,z⟩:=z;exact⟨a,c,j.unpinned,z⟩
  |ret v=>obtain⟨x7,a,c,j,r7,z⟩:=z;exact⟨x7,a,c,j.unpinned,r7,z⟩
end
noncomputable abbrev R2:=V->V->Hp->VK->Prop
noncomputable def C1(X:Cx)(f:c4->c4->Sem c4)(r:R2):Prop:=∀(p:List (c8×c9)) (s:e9) (σ:St) (H:Hp) (x y:V) (v u:c4) (Q:VK),p8 X p σ H s->aM x v->aM y u->r x y H Q ->f9 (i3 X.prog X.w) X.A (f v u) (EP X p σ Q) X.xe s
noncomputable def N8(X:Cx)(f:c4->Sem c4)(r:V->Hp->VK->Prop):Prop:=∀(p:List (c8×c9)) (s:e9) (σ:St) (H:Hp) (x:V) (v:c4) (Q:VK),p8 X p σ H s->aM x v->r x H Q ->f9 (i3 X.prog X.w) X.A (f v) (EP X p σ Q) X.xe s
noncomputable def iS(X:Cx)(f:c4)(r:List V->Hp->VK->Prop):Prop:=∀(p:List (c8×c9)) (s:e9) (σ:St) (H:Hp) (xs:List V) (us:List c4) (Q:VK),p8 X p σ H s->aC xs us->r xs H Q ->f9 (i3 X.prog X.w) X.A (call f us) (EP X p σ Q) X.xe s
noncomputable def Nk(r:R2)(t c:TE):TE:=λσ H Q=>t σ H λx a=>c σ a λy b=>r x y b Q
noncomputable def tUn(r:V->Hp->VK->Prop)(t:TE):TE:=λσ H Q=>t σ H λx a=>r x a Q
noncomputable def rI(C:Int->Int->Prop)(g:Int->Int->V):R2:=λx y H Q=>∃i j,x=.int i/\y=.int j/\C i j/\Q (g i j) H
noncomputable def Mo(g:Int->Int->V):R2:=λx y H Q=>∃i j,x=.int i/\y=.int j/\Q (g i j) H
noncomputable def rU(g:Int->V):V->Hp->VK->Prop:=λx H Q=>∃i,x=.int i/\Q (g i) H
section
variable{X:Cx}{a b c:h8}{ta tb tc:TE}{pos:i4}
theorem binT(d:PE X a ta)(g:PE X b tb){pins:List (c8×c9)}{s:e9}{σ:St}{H:Hp}{R:V->V->Hp->Prop}(I:p8 X pins σ H s)(h:ta σ H λx H1=>tb σ H1 λy H2=>R x y H2) {Q:c4->e9->Prop}{f:c4->c4->Sem c4}(i:∀v u s2 x y H2,p8 X pins σ H2 s2->aM x v->aM y u->R x y H2->f9 (i3 X.prog X.w) X.A (f v u) Q X.xe s2):f9 (i3 X.prog X.w) X.A (eval a X.env) (λv s₁=>f9 (i3 X.prog X.w) X.A (eval b X.env) (λu s₂=>f9 (i3 X.prog X.w) X.A (f v u) Q X.xe s₂) X.xe s₁) X.xe s:=by refine ve (d pins s σ H _ I h) ?_;rintro v k ⟨x,H1,c,r,q⟩;refine ve (g pins k σ H1 _ c q) ?_;rintro u s2 ⟨y,H2,e,m,j⟩;exact i v u s2 x y H2 e r m j
theorem pe_op{op:Operator}{r:R2}(B:C1 X (j7 op) r)(f:PE X a ta)(d:PE X b tb):PE X (.BinOp a op b pos) (Nk r ta tb):=by intro p s σ H Q I h;exact wpAny_BinOp<|binT f d I h λv u w x y c e g i q=>B p w σ c x y v u Q e g i q
theorem pe_un(B:N8 X (unaryOp op) r)(f:PE X a ta):PE X (.UnaryOp op a pos) (tUn r ta):=by intro p s σ H Q I h;refine UnaryOp_<|ve (f p s σ H _ I h) ?_;rintro v e ⟨x,b,c,d,q⟩;exact B p e σ b x v Q c d q
theorem Nl{f:c4->c4->Sem c4}{C:Int->Int->Prop}{g:Int->Int->Int}(e:∀(i j:Int) (t u:Tok) (s:e9) (Q:c4->e9->Prop) (E:c4->e9->Prop),C i j->Q (.int (g i j) s.toks) { s with toks:=s.toks+1 }->f9 (i3 X.prog X.w) X.A (f (.int i t)<|.int j u) Q E s):C1 X f (rI C λi j=>.int<|g i j):=by intro p s σ H x y v u Q I r a h;obtain⟨i,j,rfl,rfl,c,q⟩:=h;obtain⟨t,rfl⟩:=r;obtain⟨t',rfl⟩:=a;exact e i j t t' s _ _ c ⟨.int<|g i j,H,I.tok _,⟨_,rfl⟩,q⟩
theorem opI0{f:c4->c4->Sem c4}{g:Int->Int->Int}(e:∀(i j:Int) (t u:Tok) (s:e9) (Q:c4->e9->Prop) (E:c4->e9->Prop),Q (.int (g i j) s.toks) { s with toks:=s.toks+1 }->f9 (i3 X.prog X.w) X.A (f (.int i t)<|.int j u) Q E s):C1 X f (Mo λi j=>.int<|g i j):=by intro p s σ H x y v u Q I r a h;obtain⟨i,j,rfl,rfl,q⟩:=h;obtain⟨t,rfl⟩:=r;obtain⟨t',rfl⟩:=a;exact e i j t t' s _ _ ⟨.int<|g i j,H,I.tok _,⟨_,rfl⟩,q⟩
theorem opB0{f:c4->c4->Sem c4}{g:Int->Int->Bool}(e:∀(i j:Int) (t u:Tok) (s:e9) (Q:c4->e9->Prop) (E:c4->e9->Prop),Q (.bool<|g i j) s->f9 (i3 X.prog X.w) X.A (f (.int i t)<|.int j u) Q E s):C1 X f (Mo λi j=>.bl<|g i j):=by intro p s σ H x y v u Q I r a h;obtain⟨i,j,rfl,rfl,q⟩:=h;obtain⟨t,rfl⟩:=r;obtain⟨t',rfl⟩:=a;exact e i j t t' s _ _ ⟨.bl<|g i j,H,I,rfl,q⟩
noncomputable def CPow(i j:Int):Prop:=0<=j/\j<=1000000/\i.natAbs<2 ^ 64
noncomputable def CMul(i j:Int):Prop:=(-(2 ^ 64)<i/\i<2 ^ 64)\/(-(2 ^ 64)<j/\j<2 ^ 64)
theorem CMul.ok(h:CMul i j):IntMulOk i j:=by
 rcases h with⟨h1,h2⟩|⟨h1,h2⟩
 exact .of_left<|intBits_le_64 h1 h2;exact .of_right<|intBits_le_64 h1 h2
theorem Im:C1 X (j7 .Add) (Mo λi j=>.int<|i+j):=opI0 λ_ _ _ _ _ _ _ q=>add_int q
theorem Ig:C1 X (j7 .Sub) (Mo λi j=>.int<|i-j):=opI0 λ_ _ _ _ _ _ _ q=>sub_int q
theorem Ij:C1 X (j7 .Mult) (rI CMul λi j=>.int<|i*j):=Nl λ_ _ _ _ _ _ _ f q=>mul_int q f.ok
theorem Ik:C1 X (j7 .Mod) (rI (λ_ j=>0<j) λi j=>.int<|i % j):=Nl λi j _ _ _ _ _ f q=>by have h1:(0:Int)<j:=f;exact mod_int' (by lia)<|by rw[Int.fmod_eq_emod_of_nonneg i<|by lia];exact q
theorem Ii:C1 X (j7 .Pow) (rI CPow λi j=>.int<|i ^ j.toNat):=Nl λ_ _ _ _ _ _ _ f q=>pow_int_small f.1 f.2.1 f.2.2 q
theorem Ih:C1 X (j7 .LShift) (rI CPow λi j=>.int<|i*2 ^ j.toNat):=Nl λ_ _ _ _ _ _ _ f q=>lshift_int_small f.1 f.2.1 f.2.2 q
theorem unI{f:c4->Sem c4}{g:Int->Int}(e:∀(i:Int) (t:Tok) (s:e9) (Q:c4->e9->Prop) (E:c4->e9->Prop),Q (.int (g i) s.toks) { s with toks:=s.toks+1 }->f9 (i3 X.prog X.w) X.A (f<|.int i t) Q E s):N8 X f (rU λi=>.int<|g i):=by intro p s σ H x v Q I r h;obtain⟨i,rfl,q⟩:=h;obtain⟨t,rfl⟩:=r;exact e i t s _ _ ⟨.int<|g i,H,I.tok _,⟨_,rfl⟩,q⟩
theorem GZ:N8 X (unaryOp .USub) (rU λi=>.int (-i)):=unI λ_ _ _ _ _ q=>neg_int q
end
section
variable{X:Cx}{a b c:h8}{ta tb tc:TE}{pos:i4}
theorem op_lt:C1 X (j8 .Lt) (Mo λi j=>.bl<|decide<|i<j):=opB0 λ_ _ _ _ _ _ _ q=>lt_int q
theorem op_le:C1 X (j8 .LtE) (Mo λi j=>.bl<|decide<|i<=j):=opB0 λ_ _ _ _ _ _ _ q=>le_int q
theorem op_gt:C1 X (j8 .Gt) (Mo λi j=>.bl<|decide<|j<i):=opB0 λ_ _ _ _ _ _ _ q=>gt_int q
theorem C1.or(h:C1 X f r)(h':C1 X f r'):C1 X f (λx y H Q=>r x y H Q\/r' x y H Q):=by intro p s σ H x y v u Q I g i q;rcases q with q|q;exact h p s σ H x y v u Q I g i q;exact h' p s σ H x y v u Q I g i q
theorem EU(B:C1 X (j8 op) r)(f:PE X a ta)(d:PE X b tb)(m:j9 op b=bt):PE X (.Compare a [op] [b] pos) (Nk r ta tb):=by intro p s σ H Q I h;exact wpAny_Compare1 (binT f d I h λv u w x y c e g i q=>B p w σ c x y v u Q e g i q) m
noncomputable def Hh(t:TE):TT:=λσ H Q=>t σ H λx H'=>∃k,x=.bl k/\Q k H'
theorem EK(B:C1 X (j8 op) r)(m:PE X a ta)(n:PE X b tb)(o:j9 op b=bt):PT X (.Compare a [op] [b] pos) (Hh<|Nk r ta tb):=by
 intro p s σ H Q I h;refine wpAny_isTrue_Compare1 (ve (m p s σ H _ I h) λv E ⟨x,d,i,A,q⟩=>ve (n p E σ d _ i q) λu F ⟨y,f,j,C,t⟩ =>
  ve (B p F σ f x y v u _ j A C t) λc G ⟨z,g,l,D,k,e,w⟩=>?_) o
 subst e;cases D;exact MJ ⟨g,l,w⟩
noncomputable def DJ(r r':R2)(t e f:TE):TE:=λσ H Q=>t σ H λx a=>e σ a λy b=>r x y b λz c=>∃k,z=.bl k /\(if k=a9 then f σ c λY d=>r' y Y d Q else Q (.bl bt) c)
theorem BW(E:C1 X (j8 op) r)(f:C1 X (j8 op') r')(A:PE X a ta)(B:PE X b tb)(C:PE X c tc)(D:lastMarks [op,op'] [b,c]=bt:=by with_unfolding_all rfl):PE X (.Compare a [op,op'] [b,c] pos) (DJ r r' ta tb tc):=by
 intro p s σ H Q I h;refine Compare_chain (ve (A p s σ H _ I h) λv N ⟨x,j,o,K,F⟩=>chain_link (ve (B p N σ j _ o F) λu O ⟨y,l,t,m,G⟩ =>
  ve (E p O σ l x y v u _ t K m G) λd P ⟨z,g,i,L,k,e,q⟩=>?_)) D
 subst e;cases L;refine MJ ?_;cases k with
 |false=>exact ite_ff ⟨.bl bt,g,i,rfl,q⟩
 |true=>exact ite_tt<|chain_last<|ve (C p P σ g _ i q) λY R ⟨S,n,w,M,J⟩=>f p R σ n y S u Y Q w m M J
theorem oW:(sizeLine:Nat)<2 ^ 63:=by rw[KY];decide
theorem xt:C1 X (j7 .Add) (λx y H Q=>∃i j,x=.str i/\y=.str j/\i.length+j.length<=sizeLine/\Q (.str<|i++j) H):=by intro p s σ H x y v u Q I g r h;obtain⟨i,j,rfl,rfl,b,q⟩:=h;obtain⟨t,rfl⟩:=g;obtain⟨t',rfl⟩:=r;exact add_str (λt' k=>⟨.str<|i++j,H,I.tok _,⟨_,rfl⟩,q⟩) b
theorem Es(r:aC [x] us):∃u,us=[u]/\aM x u:=by
 cases r with
 |cons a m=>cases m;exact⟨_,rfl,a⟩
end
structure ObjM(h:d5)(x dx C:c8)(mA:c5->Option c4):Prop where
 obj:h.get? x=a7 (PySem.W.instObj C dx)
 ns:h.Ns1 dx mA
 ne:dx≠x
theorem Bq.some_of(r:Bq (a7 v) o):∃u,o=a7 u/\aM v u:=by
 cases o with
 |none=>exact(show False from r).elim
 |some u=>exact⟨u,rfl,r⟩
structure Cls(K:u0)(C:c8):Prop where
 pg:PySem.W.plainGet K C Str.empty=a9
 hd:PySem.W.hasDictIn K C=a9
 po:PySem.W.plainOver K C=a9
 sa:NE K (.ref C) "__setattr__" = a7 (a7<|.builtin "object.__setattr__")
structure Con(K:u0)(C:c8)(f:c5)(v:V)(u:c4):Prop where
 at_:NE K (.ref C) f=a7 (a7 u)
 rel:aM v u
 get:PySem.W.specialIn K u "__get__" = a7 a8
 cp:PySem.W.copiedNames.contains f=bt
structure Meth(K:u0)(C:c8)(m:c5)(f:c8):Prop where
 at_:NE K (.ref C) m=a7 (a7<|.ref f)
 fn:PySem.W.isFn K (.ref f)=a9
 kp:L8 K (.ref f)=a9
section
variable{X:Cx}{pins:List (c8×c9)}{σ:St}{H:Hp}{s:e9}{A:e8}{E:c4->e9->Prop}{Q:c4->e9->Prop}{c:c4}{b:Bool}
inductive TyOf(K:u0)(H:Hp):V->c4->Prop where
 |non:TyOf K H .non (.type "NoneType")
 |bl (x:Bool):TyOf K H (.bl x) (.type "bool")
 |int (i:Int):TyOf K H (.int i) (.type "int")
 |str (x:c5):TyOf K H (.str x) (.type "str")
 |flt (x:UInt64):TyOf K H (.flt x) (.type "float")
 |lst {a:c8}{xs:List V} (e:H a=a7 (.lst xs)):TyOf K H (.ref a) (.type "list")
 |frz {a:c8}{o:c9}{xs:List V} (e:H a=a7 (.frz o (.lst xs))):TyOf K H (.ref a) (.type "list")
 |tup {a:c8}{xs:List V} (e:H a=a7 (.tup xs)):TyOf K H (.ref a) (.type "tuple")
 |dK {a:c8}{kvs:List (C7×V)} (e:H a=a7 (.dK kvs)):TyOf K H (.ref a) (.type "dict")
 |dT {a:c8}{kvs:List (List C7×V)} (e:H a=a7 (.dT kvs)):TyOf K H (.ref a) (.type "dict")
 |ins {a C dx:c8}{fs:List (c5×V)} (e:H a=a7 (.ins C dx fs)) (cl:Cls K C) (ha:NE K (.ref C) "__class__" = a7 (a7 (.builtin "object.__class__")))
   (hn:PySem.W.specialIn K (.builtin "object.__class__") "__get__" = a7 (a7<|.builtin "getset_descriptor.__get__")) (htk:PySem.W.takesIn K (.builtin "object.__class__")=a7 a9)
   (hm:PySem.W.mroIn K C (.type "object")=a7 a9):TyOf K H (.ref a) (.ref C)
end
structure Room(k:Nat)(A:e8):Prop where
 hd:A.handled=a8
 dp:A.depth+3*k+5<recursionLimit
 un:A.units+16*k+200<k4
theorem Room.mono(r:Room k A)(h:j<=k):Room j A:=⟨r.hd,by have:=r.dp;lia,by have:=r.un;lia⟩
theorem Room.deeper(r:Room (k+1) A)(env:Env):Room k (A.deeper env):=⟨r.hd,by have:=r.dp;show A.depth+1+3*k+5<_;lia,by have:=r.un;show A.units+3+16*k+200<_;lia⟩
theorem Room.in1(r:Room (k+1) A):Room k A.in1:=⟨r.hd,by have:=r.dp;show A.depth+3*k+5<_;lia,by have:=r.un;show A.units+1+16*k+200<_;lia⟩
theorem Room.depth(r:Room k A):A.depth<recursionLimit:=by have:=r.dp;lia
noncomputable def tNil:TA:=λ_ H Q=>Q [] H
noncomputable def tCons(t:TE)(tr:TA):TA:=λσ H Q=>t σ H λx a=>tr σ a λxs b=>Q (x::xs) b
section
variable{X:Cx}{e:h8}{es:List h8}{te:TE}{t:TA}{pos:i4}
theorem Ie:PA X [] tNil:=λ_ _ _ _ H Q I h=>Oy ⟨[],H,I,.nil,h⟩
theorem EW(g:PE X e te)(i:PA X es t)(hs:i6 (e::es) X.env=(bt,eval e X.env)::i6 es X.env:=by rfl):PA X (e::es) (tCons te t):=by intro a p s σ H Q I h;rw[hs];show f9 _ _ (spliced<|(bt,eval e X.env)::i5 a (i6 es X.env)) _ _ s;refine OE<|ve (g p s σ H _ I h) ?_;rintro u k ⟨x,b,d,r,q⟩;refine ve (i a p k σ b _ d q) ?_;rintro us w ⟨xs,c,f,m,j⟩;exact⟨x::xs,c,f,.cons r m,j⟩
noncomputable def tTup(t:TA):TE:=λσ H Q=>t σ H λxs a=>xs.length<=sizeLine/\∀p,a p=a8->Q (.ref p) (v4 a p<|.tup xs)
noncomputable def tLst(t:TA):TE:=λσ H Q=>t σ H λxs a=>xs.length<=sizeLine/\∀p,a p=a8->Q (.ref p) (v4 a p<|.lst xs)
theorem HR{x1}(h:PA X es t):PE X (.Tuple es x1 pos) (tTup t):=by intro p s σ H Q I g;refine wpAny_Tuple_spliced<|ve (h pos p s σ H _ I g) λus f ⟨xs,a,c,r,z,q⟩=>⟨by rw[<-r.length];exact z,?_⟩;have d:a f.heap.objs.size=a8:=c.hok.fresh<|u6 _;refine⟨.ref f.heap.objs.size,v4 a f.heap.objs.size<|.tup xs,c.laid (t':=f.toks) (λb u e=>v5 _ e) (u6 _) ?_,rfl,q _ d⟩;exact⟨z,us,r,⟨_,z6 _ rfl,rfl,⟨_,rfl⟩,rfl⟩⟩
theorem HZ(h:PA X es t):PE X (.List es pos) (tLst t):=by intro p s σ H Q I g;refine wpAny_List_spliced<|ve (h pos p s σ H _ I g) λus f ⟨xs,a,c,r,z,q⟩=>⟨by rw[<-r.length];exact z,?_⟩;have d:a f.heap.objs.size=a8:=c.hok.fresh<|u6 _;refine⟨.ref f.heap.objs.size,v4 a f.heap.objs.size<|.lst xs,c.laid (t':=f.toks) (λb u e=>v5 _ e) (u6 _) ?_,rfl,q _ d⟩;exact⟨z,us,0,r,z6 _ rfl⟩
end
noncomputable abbrev Sp:=List V->Hp->VK->XK->Prop
noncomputable abbrev LJ:=List Env->Hp->e9->XK->c4->e9->Prop
structure Env0(P:c7)(w:c6)(K:u0)(mg:c5->Option c4)(base:d5)(A:e8)(outer:List Env)(s:e9)(H:Hp):Prop where
 frames:A.frames=a7 outer
 mod:Mod K mg base
 bs:∀b o,base.get? b=a7 o->s.heap.get? b=a7 o/\H b=a8
 bsz:base.objs.size<=s.heap.objs.size
 funs:s.heap.FunFrames base outer
 frf:∀b∈Kh outer,H b=a8
 hok:C8 P w H s.heap
 bare:f8 s.gens
inductive CE(outer:List Env)(P:c7)(w:c6)(H:Hp)(s:e9)(Q:VK)(u:c4)(s':e9):Prop
 |mk (v:_) (H':_) (f0:s'.os=s.os) (f1:f8 s'.gens) (f2:Un (Kh outer) [] H H' s.heap s'.heap) (f3:C8 P w H' s'.heap) (f4:aM v u) (f5:Q v H')
noncomputable def CR(CX:LJ)(o:List Env)(P:c7)(w:c6)(H:Hp)(s:e9)(Q:VK)(E:XK)(r:Result)(s':e9):Prop:=match r with
 |.ok (.ret u)=>CE o P w H s Q u s'
 |.ok _=>False
 |.error e=>CX o H s E e s'
structure FnOk(P:c7)(w:c6)(K:u0)(mg:c5->Option c4)(base:d5)(CX:LJ)(k:Nat)(f:c8)(fd:k5)(ps:List c5)(sp:Sp):Prop where
 len:∀vs H Q E,sp vs H Q E->vs.length=ps.length
 run:∀(A:e8) (outer:List Env) (s:e9) (H:Hp) (args:Args) (us:List c4) (vs:List V) (Q:VK) (E:XK),Room k A->Env0 P w K mg base A outer s H->BindsTo s fd args (ps.zip us)->aC vs us->sp vs H Q E ->k6 (i3 P w) A (.call (.ref f) args) (CR CX outer P w H s Q E) s
theorem Env0.in1{P:c7}{w:c6}{K:u0}{mg:c5->Option c4}{base:d5}{A:e8}{o:List Env}{s:e9}{H:Hp}(e:Env0 P w K mg base A o s H):Env0 P w K mg base A.in1 o s H:=⟨e.frames,e.mod,e.bs,e.bsz,e.funs,e.frf,e.hok,e.bare⟩
section
variable{X:Cx}{pins:List (c8×c9)}{σ:St}{H:Hp}{s s':e9}
theorem p8.env0(I:p8 X pins σ H s):Env0 X.prog X.w X.K X.mg X.base X.A X.stack s H:=⟨I.ok.frames,I.ok.mod,I.bs,B9 I.ok.bsz I.sz,I.stack,I.stkFree,I.hok,I.bare⟩
theorem p8.after(I:p8 X pins σ H s)(h:CE X.stack X.prog X.w H s Q u s'):EP X pins σ Q u s':=by obtain⟨v,H',c,e,n,K,r,q⟩:=h;obtain⟨a,g,d,t,o⟩:=s';obtain rfl:o=s.os:=c;exact⟨v,H',I.call (h':=a) (g':=g) (d':=d) (t':=t) (ch:=[]) n K e (λb z=>n9 z<|by simp),r,q⟩
end
noncomputable def Hk(sp:Sp)(s:List V)(E:XK)(t:TA):TE:=λσ H Q=>t σ H λvs a=>sp (vs++s) a Q E
noncomputable def tM(K:u0)(d:k5)(ps:List c5)(ds:List c4):Prop:=∀(s:e9) (us:List c4),K.In s.heap->(us++ds).length=ps.length->BindsTo s d ⟨us,[]⟩ (ps.zip<|us++ds)
theorem tM.all{K:u0}{d:k5}{ps:List c5}(h:∀us:List c4,us.length=ps.length->bindArgs d ⟨us,[]⟩=pure (ps.zip us)):tM K d ps []:=λs us _ g=>by rw[I9]at g ⊢;exact .of_eq<|h us g
noncomputable def Bl(CX:LJ)(X:Cx)(E:XK):Prop:=∀(p:List (c8×c9)) (σ:St) (H:Hp) (s:e9) (e:c4) (s':e9),p8 X p σ H s->CX X.stack H s E e s'->X.xe e s'
section
variable{X:Cx}{CX:LJ}{k:Nat}{f C:c8}{fd:k5}{ps:List c5}{sp:Sp}{dvs:List V}{ds:List c4}{E:XK}{x m:c5}{p pos apos:i4}{e o:h8}{es:List h8}{ta:TE}{t:TA}
theorem Hv(F:FnOk X.prog X.w X.K X.mg X.base CX k f fd ps sp)(i:Room k X.A)(d:tM X.K fd ps ds)(a:aC dvs ds)(x:Bl CX X E)(I:p8 X pins σ H s) (r:aC vs us) (h:sp (vs++dvs) H Q E):f9 (i3 X.prog X.w) X.A (call (.ref f) us) (EP X pins σ Q) X.xe s:=by
 have m:aC (vs++dvs) (us++ds):=r.append a;have g:(us++ds).length=ps.length:=by rw[<-m.length];exact F.len _ _ _ _ h
 refine wpAny_call<|Mt (F.run X.A X.stack s H ⟨us,[]⟩ (us++ds) (vs++dvs) Q E i I.env0 (d s us I.kIn g) m h) λr s' q=>?_;cases r with
 |error e=>exact x pins σ H s e s' I q
 |ok l =>
  cases l with
  |ret u=>exact I.after q
  |next=>exact Lk q
  |brk=>exact Lk q
  |cont=>exact Lk q
theorem EV(F:FnOk X.prog X.w X.K X.mg X.base CX k f fd ps sp)(o:Room k X.A)(S:Gl X x)(n:X.mg x=a7 (.ref f))(m:L8 X.K (.ref f)=a9)(g:tM X.K fd ps ds)(i:aC dvs ds)(u:Bl CX X E)(d:PA X (e::es) t) (b:(x==("__debug__":c5))=bt:=by decide) (j:i6 (e::es) X.env=(bt,eval e X.env)::i6 es X.env:=by rfl) (l:(i5 pos<|i6 es X.env).any (·.1)=bt:=by rfl):PE X (.Call (.Name x p) (e::es) [] pos) (Hk sp dvs E t):=by intro a s σ H Q I h;refine ML<|Fp I S n ?_ b;refine PySem.W.callWith_K (h₀:=X.base) I.ok.mod.kin m (ve (d pos a s σ H _ I h) λus y ⟨vs,v,c,r,q⟩=>⟨c.kIn,?_⟩) j l;exact Hv F o g i u c r q
structure Mk(K:u0)(C f:c8):Prop where
 makes:PySem.W.makesIn K C=a9
 init:NE K (.ref C) "__init__" = a7 (a7<|.ref f)
 fn:PySem.W.isFn K (.ref f)=a9
 kp:L8 K (.ref C)=a9
end
section
variable{X:Cx}{CX:LJ}{k:Nat}{f C:c8}{fd:k5}{ps ks:List c5}{sp:Sp}{E:XK}{x m:c5}{p pos apos kpos:i4}{e o:h8}{es:List h8}{kws:List k7}{te ta:TE}{t tk:TA}{nm:Option c5}
structure KBinds(K:u0)(fd:k5)(ps ks:List c5)(g:List c4->List c4->List c4)(gV:List V->List V->List V):Prop where
 to:∀(s:e9) (us ws:List c4),K.In s.heap->(g us ws).length=ps.length->BindsTo s fd ⟨us,ks.zip ws⟩ (ps.zip<|g us ws)
 rel:∀{vs:List V}{us:List c4}{zs:List V}{ws:List c4},aC vs us->aC zs ws->aC (gV vs zs) (g us ws)
variable{g:List c4->List c4->List c4}{gV:List V->List V->List V}
end
structure FnScope(N P:List c5)(sc:f7):Prop where
 kind:sc.kind=.function
 co:sc.isCoroutine=bt
 gen:sc.isGenerator=bt
 nd:N.Nodup
 pre:N.take P.length=P
 par:∀x∈P,sc.names.lookup x=a7 .local\/sc.names.lookup x=a7 .cell
 nofree:∀y∈sc.names,y.2≠.free
theorem tE{kindOf:c5->Option k8}{x:c5}:∀{binds:List (c5×c4)}{m:c5->Option c4},(∀v,(x,v)∉binds)->bindL kindOf binds m x=m x
 | [],_,_=>rfl
 |(n,v)::r,m,h=>by
  unfold bindL;rw[tE λw hw=>h w<|A0 _ hw];split;have:x≠n:=by rintro rfl;exact h v C6
  simp[this];rfl
theorem tG{kindOf:c5->Option k8}{x:c5}:∀{binds:List (c5×c4)}{m:c5->Option c4},(∀v,(x,v)∉binds)->bindC kindOf binds m x=m x
 | [],_,_=>rfl
 |(n,v)::r,m,h=>by
  unfold bindC;rw[tG λw hw=>h w<|A0 _ hw];split;rfl;have:x≠n:=by rintro rfl;exact h v C6
  simp[this]
theorem tF{kindOf:c5->Option k8}{x:c5}{v:c4}:∀{P:List c5}{vs:List c4}{i:Nat}{m:c5->Option c4},P.Nodup->P[i]?=a7 x->vs[i]?=a7 v->kindOf x=a7 .local ->bindL kindOf (P.zip vs) m x=a7 v
 | [],_,_,_,_,h,_,_=>by simp at h
 |_::_,[],_,_,_,_,h,_=>by simp at h
 |p::P,w::vs,0,m,nd,h1,h2,hk=>by simp at h1 h2;subst h1;subst h2;show bindL kindOf ((p,w)::P.zip vs) m p=_;unfold bindL;rw[tE λv hv=>(Lc.mp nd).1 (Oj hv).1,n5 hk];simp
 |p::P,w::vs,i+1,m,nd,h1,h2,hk=>by show bindL kindOf ((p,w)::P.zip vs) m x=_;unfold bindL;exact tF (i:=i) (Lc.mp nd).2 (by simpa using h1) (by simpa using h2) hk
theorem tH{kindOf:c5->Option k8}{x:c5}{v:c4}:∀{P:List c5}{vs:List c4}{i:Nat}{m:c5->Option c4},P.Nodup->P[i]?=a7 x->vs[i]?=a7 v->kindOf x≠a7 .local ->bindC kindOf (P.zip vs) m x=a7 v
 | [],_,_,_,_,h,_,_=>by simp at h
 |_::_,[],_,_,_,_,h,_=>by simp at h
 |p::P,w::vs,0,m,nd,h1,h2,hk=>by simp at h1 h2;subst h1;subst h2;show bindC kindOf ((p,w)::P.zip vs) m p=_;unfold bindC;rw[tG λv hv=>(Lc.mp nd).1 (Oj hv).1,n6 hk];simp
 |p::P,w::vs,i+1,m,nd,h1,h2,hk=>by show bindC kindOf ((p,w)::P.zip vs) m x=_;unfold bindC;exact tH (i:=i) (Lc.mp nd).2 (by simpa using h1) (by simpa using h2) hk
noncomputable def start(N:List c5)(vs:List V):St:=vs.map a7++ND (N.length-vs.length) a8
noncomputable def tu(CX:LJ)(P:c7)(w:c6)(K:u0)(mg:c5->Option c4)(base:d5)(N:List c5)(l:c5)(scope:f7)(f:c8)(d:c4)(A:e8)(outer:List Env)(s:e9)(H:Hp)(E:XK):Cx where
 prog:=P
 w:=w
 K:=K
 mg:=mg
 base:=base
 A:=A.deeper<|k9 l scope s.heap.objs.size f d
 N:=N
 s₀:=s
 H₀:=H
 env:=k9 l scope s.heap.objs.size f d
 outer:=outer
 stack:=k9 l scope s.heap.objs.size f d::outer
 ex:=[]
 calm:=a9
 fn:=λ_=>a9
 pn:=[]
 xe:=λe s'=>f9 (i3 P w) (A.deeper<|k9 l scope s.heap.objs.size f d) (leaving (k9 l scope s.heap.objs.size f d) e) (λ_ a=>CX outer H s E e a) (λb a=>CX outer H s E b a) s'
theorem wR{s:f7}{n:Nat}{x:c5}(h:s.names.lookup x=a7 .cell):∃c,(cellsFrom n s.names []).lookup x=a7 c:=by have q:=Ps s.names n []<|.inl h;exact PD.mp q
theorem sP{CX:LJ}{P:c7}{w:c6}{K:u0}{mg:c5->Option c4}{base:d5}{N ps:List c5}{l:c5}{scope:f7}{f:c8}{t:c4}{A:e8}{o:List Env}{s D:e9}{H:Hp}{E:XK}{us:List c4}{vs:List V}(S:FnScope N ps scope) (G:A.handled=a8) (d:Env0 P w K mg base A o s H) (M:vs.length=ps.length) (r:aC vs us)(x:InCallC s s.heap.objs.size (bindL (k9 l scope s.heap.objs.size f t).kindOf (ps.zip us) λ_=>a8) (cellsFrom (s.heap.objs.size+1) scope.names []) (bindC (k9 l scope s.heap.objs.size f t).kindOf (ps.zip us) λ_=>a8) D):p8 (tu CX P w K mg base N l scope f t A o s H E) [] (start N vs) H D:=by
 have I:ps.length<=N.length:=by have:=o8 Kl S.pre;rw[G2]at this;lia
 obtain⟨h1,Q,rfl,B⟩:=x.done;have g:∀b:c8,b∉(tu CX P w K mg base N l scope f t A o s H E).ex:=λb z=>n9 (show b∈([]:List c8)from z) (by simp);refine⟨⟨d.mod,S.kind,rfl,rfl,u6 _,λy z c h1 h2=>?_,λy O=>?_,λy c _ h=>?_,λ_=>G,Around.frames_deeper d.frames,.inr ⟨rfl,rfl⟩,λb z=>n9 z<|g b,d.bs,d.bsz,λb _ _=>g b,λb z=>n9 z<|g b,d.funs,d.frf⟩,rfl,d.bare,Un.kept B,⟨_,x.toInCall.ns,λi y v h1 h2 L=>?_⟩,λy c h=>⟨_,x.cell y c h⟩,d.hok.fresh<|u6 _,λy c h=>?_,λp j=>n9 (show p∈([]:List (c8×c9))from j) (by simp),d.hok.kept B,?_⟩;exact name_of_addr x.apart (LR h1)<|LR h2;have O:scope.names.lookup y=a7 .cell\/scope.names.lookup y=a7 .free:=O;rcases O with O|O;exact wR O;exact n9 rfl<|S.nofree _<|LR O;exact Mu<|x.above y c<|LR h;have hi:i<vs.length:=by unfold start at h2;by_cases hi:i<vs.length;exact hi;rw[KP<|by simpa using hi]at h2;rw[OR]at h2;split at h2<;>cases h2
 have F:vs[i]?=a7 v:=by
  unfold start at h2;rw[G9 (by simpa using hi),D0]at h2;cases e:vs[i]? with
  |none=>rw[e]at h2;cases h2
  |some a=>rw[e]at h2;cases h2;rfl
 obtain⟨u,C,J⟩:=r.get F;have j:ps[i]?=a7 y:=by rw[<-S.pre,MN<|by lia];exact h1
 have m:ps.Nodup:=by rw[<-S.pre];exact S.nd.sublist<|List.take_sublist _ _
 refine⟨u,J,?_⟩;rcases S.par y (J1 j)with k|k;exact .inl ⟨k,tF m j C k⟩;obtain⟨c,e⟩:=wR (n:=s.heap.objs.size+1) k;refine .inr ⟨.inl k,c,e,?_⟩;have q:=x.cell y c e;rw[tH m j C<|by show scope.names.lookup y≠_;rw[k];decide]at q;exact q;exact d.hok.fresh<|Mu<|x.above y c<|LR h;unfold start;show _=N.length;rw[z5,u4,OL];lia
theorem Jy{CX:LJ}{P:c7}{w:c6}{K:u0}{mg:c5->Option c4}{base:d5}{k:Nat}{f:c8}{name l:c5}{p:Arguments}{a:List i7}{scope:f7}{T kV i U c R oc:c4}{M od:Option c8}{G:Array (Option c4)}{N ps:List c5}{sp:Sp} (lk:K.lookup f=a7 ⟨oc,od,.func<|LL name l p a scope T kV i U M c R,G⟩) (C:Og K c l=a9) (S:FnScope N ps scope)(B:∀vs H Q E,sp vs H Q E->vs.length=ps.length)(h:∀(A:e8) (outer:List Env) (s:e9) (H:Hp) (vs:List V) (Q:VK) (E:XK),Room k (A.deeper<|k9 l scope s.heap.objs.size f c)->sp vs H Q E -> ∃t,J4 (tu CX P w K mg base N l scope f c A outer s H E) a t/\t { nx:=λ_ H'=>Q .non H',rt:=Q } (start N vs) H):FnOk P w K mg base CX (k+1) f (LL name l p a scope T kV i U M c R) ps sp:=by
 refine⟨B,λA outer s H O us vs Q E D j hb r z=>?_⟩;have hl:=B _ _ _ _ z;have X:K.In s.heap:=j.mod.kin.keeps λb o e=>(j.bs b o e).1;have F:s.heap.NoLimit:=j.mod.nolimit.keeps λb o e=>(j.bs b o e).1;have g:∀y∈ps.zip us,scope.names.lookup y.1=a7 .local\/(scope.names.lookup y.1=a7 .cell/\((cellsFrom (s.heap.objs.size+1) scope.names []).lookup y.1).isSome=a9):=λ⟨n,v⟩ hy=>by rcases S.par n (Oj hy).1 with q|q;exact .inl q;exact .inr ⟨q,Ps _ _ _<|.inl q⟩
 refine codeAny_call_function D.depth (X _ _ lk) rfl S.co S.gen rfl (PySem.W.codeRec_of X C)<|hb _ _ _ _ ?_;refine wpAny_newFunctionEnv_cells S.kind g λenv he Y x=>?_;subst he;refine⟨F.keeps x.toInCall.keep,codeAny_func ?_⟩;obtain⟨t,ht,hq⟩:=h A outer s H vs Q E (D.deeper _) z;have I:p8 (tu CX P w K mg base N l scope f c A outer s H E) [] (start N vs) H Y:=sP S D.hd j hl r x;refine E5 (ht [] Y (start N vs) H _ I hq) (λZ s' hs=>?_) λe s' hs=>hs;have m:∀{d:St}{H':Hp}{v:V}{u:c4},p8 (tu CX P w K mg base N l scope f c A outer s H E) [] d H' s'->aM v u->Q v H'->CE outer P w H s Q u s':=λ{d H' v u} J L q=>⟨v,H',J.os,J.bare,J.base,J.hok,L,q⟩
 cases Z with
 |ret u=>obtain⟨v,d,H',J,L,q⟩:=hs;exact m J L q
 |next=>obtain⟨d,H',J,q⟩:=hs;exact m (v:=V.non) (u:=Kz) J rfl q
 |brk=>obtain⟨_,_,_,q⟩:=hs;exact Lk q
 |cont=>obtain⟨_,_,_,q⟩:=hs;exact Lk q
section
variable{X:Cx}{x:c5}{p pos:i4}{e:h8}{es:List h8}{t:TA}{id T:String}{r:List V->Hp->VK->Prop}
noncomputable def O6(r:List V->Hp->VK->Prop)(t:TA):TE:=λσ H Q=>t σ H λvs a=>r vs a Q
theorem BX(g:iS X (.builtin id) r)(S:Gl X x)(m:X.mg x=a8)(v:d9 x=a7 (.builtin id))(f:PA X (e::es) t)(n:x≠"__name__":=by decide)(b:(x==("__debug__":c5))=bt:=by decide)(i:i6 (e::es) X.env=(bt,eval e X.env)::i6 es X.env:=by rfl) (l:(i5 pos<|i6 es X.env).any (·.1)=bt:=by rfl):PE X (.Call (.Name x p) (e::es) [] pos) (O6 r t):=by intro a s σ H Q I h;refine ML<|kP I S m v ?_ n b;exact PyProof.Rows.callWith_builtin1 (ve (f pos a s σ H _ I h) λus k ⟨vs,c,d,j,q⟩=>g a k σ c vs us Q d j q) i l
theorem zy(g:iS X (.type T) r)(S:Gl X x)(m:X.mg x=a8)(v:d9 x=a7 (.type T))(f:PA X (e::es) t)(n:x≠"__name__":=by decide)(b:(x==("__debug__":c5))=bt:=by decide)(i:i6 (e::es) X.env=(bt,eval e X.env)::i6 es X.env:=by rfl) (l:(i5 pos<|i6 es X.env).any (·.1)=bt:=by rfl):PE X (.Call (.Name x p) (e::es) [] pos) (O6 r t):=by intro a s σ H Q I h;refine ML<|kP I S m v ?_ n b;exact PJ (ve (f pos a s σ H _ I h) λus k ⟨vs,c,d,j,q⟩=>g a k σ c vs us Q d j q) i l
end
end L2
namespace HT
open PySem PyProof.Rows
theorem rcLt_int(A:e8)(s:e9)(a:Int)(t:Tok)(c:Int)(u:Tok)(prog:c7)(w:c6)(E:c4->e9->Prop)(Q:c4->e9->Prop)(h:Q (.bool<|decide<|a<c) s):f9 (i3 prog w) A (richCompare .Lt (.int a t)<|.int c u) Q E s:=(PyProof.Rows.lt_int h:f9 (i3 prog w) A (j8 .Lt (.int a t)<|.int c u) Q E s)
section
variable{prog:c7}{w:c6}{A:e8}{E:c4->e9->Prop}{s:e9}
theorem cat_tup(D:IsTup s.heap t vs.toArray)(q:IsTup s.heap b ws.toArray)(v:vs≠[])(h1:ws=[]->Q (.ref t) s) (h2:ws≠[]->Q (.ref s.heap.objs.size) { s with heap:=s.heap.push { cls:=.type "tuple",data:=.seq (vs++ws).toArray } })(z:vs.length+ws.length<=sizeLine):f9 (i3 prog w) A (j7 .Add (.ref t)<|.ref b) Q E s:=by
 obtain⟨⟨cls,k,data,p⟩,B,l,n,m⟩:=id D;obtain⟨⟨j,d,i,f⟩,h,a,o,c⟩:=id q;simp only at l m a c;subst l m a c;have e:vs.toArray++ws.toArray=(vs++ws).toArray:=by simp
 by_cases g:ws=[]
 exact concat_meets ⟨_,B,rfl⟩ ⟨_,h,rfl⟩ noFill_tuple_add seq_tuple_add Pq Px (PC _ _) (tuple_addW1 t b vs.toArray ws.toArray n o k d p f (by simpa using v)<|by simp[g]) ⟨B,h,h1 g⟩;refine concat_meets ⟨_,B,rfl⟩ ⟨_,h,rfl⟩ noFill_tuple_add seq_tuple_add Pq Px (PC _ _) (tuple_addW2 t b vs.toArray ws.toArray n o k d p f (by simpa using v) (by simpa using g)<|by rw[x3,x3];exact z) ⟨B,h,?_⟩;rw[e];exact h2 g
noncomputable def sIx(n d:Nat):Option Int->Nat
 |none=>d
 |some v=>if v<0 then(v+(n:Int)).toNat else min v.toNat n
theorem sIx_none(n d:Nat):sIx n d a8=d:=rfl
theorem sIx_nat(n d k:Nat):sIx n d (a7 (k:Int))=min k n:=by show (if (k:Int)<0 then((k:Int)+(n:Int)).toNat else min (k:Int).toNat n)=min k n;rw[n6 (by lia),LB]
theorem Hs(n d:Nat)(h:d<=n)(o:Option Int):sIx n d o<=n:=by
 cases o with
 |none=>exact h
 |some v=>show (if v<0 then(v+(n:Int)).toNat else min v.toNat n)<=n;by_cases c:v<0;rw[n5 c];lia;rw[n6 c];exact Nat.min_le_right _ _
theorem AV(v:Int)(n d:Nat):(if v<0 then max (v+(n:Int)) 0 else min v (n:Int))=((sIx n d (a7 v):Nat):Int):=by
 show (if v<0 then max (v+(n:Int)) 0 else min v (n:Int))=(((if v<0 then(v+(n:Int)).toNat else min v.toNat n):Nat):Int)
 by_cases c:v<0;simp only[n5 c];lia;simp only[n6 c];lia
theorem yh(l hi:Option Int)(n:Nat):PF l hi 1 (n:Int)=(((sIx n 0 l:Nat):Int),((sIx n n hi:Nat):Int)):=by
 have h1:¬((1:Int)<0):=by lia
 unfold PF;simp only[h1,o6];refine Prod.ext ?_ ?_;cases l with
 |none=>rfl
 |some v=>exact AV v n 0
 cases hi with
 |none=>rfl
 |some v=>exact AV v n n
theorem xr(i j:Nat):OX (i:Int) (j:Int) 1=j-i:=by
 unfold OX;have h1:(1:Int) > 0:=by lia
 simp only[h1,o7,Int.ediv_one];split<;>lia
theorem oS(p:l3 v o)(h:Q o s):f9 (i3 prog w) A (Builtin.Slice.slicePartIndex v) Q E s:=by
 cases p with
 |none=>exact slicePart_none h
 |int i t=>exact slicePart_int h
theorem fQ{m:c8}{v u:c4}{l hi:Option Int}{n:Nat}{Q:Int×Int×Nat->e9->Prop}(hs:s.heap.IsSliceOf m v u .none)(p:l3 v l)(d:l3 u hi)(h:Q (((sIx n 0 l:Nat):Int),1,sIx n n hi-sIx n 0 l) s):f9 (i3 prog w) A (PU (.ref m)<|pure (n:Int)) Q E s:=by obtain⟨o,b,c,a⟩:=id hs;unfold PU Builtin.Slice.sliceFields;refine p6<|p6<|wpAny_field b a (x:=v) rfl<|p6<|wpAny_field b a (x:=u) rfl<|p6<|wpAny_field b a (x:=.none) rfl<|q9 ?_;refine p6<|slicePart_none ?_;show f9 _ _ (if ((1:Int)==0)=a9 then _ else _) _ _ s;rw[n6<|by decide];refine p6<|oS p<|p6<|oS d<|p6<|q9 ?_;show f9 _ _ (match PF l hi 1 (n:Int)with|(l,hi)=>pure (l,(1:Int),OX l hi 1)) _ _ s;rw[yh l hi n];show f9 _ _ (pure (((sIx n 0 l:Nat):Int),(1:Int),OX ((sIx n 0 l:Nat):Int) ((sIx n n hi:Nat):Int) 1)) _ _ s;rw[xr];exact q9 h
theorem BP(xs:Array c4)(i k:Nat):((A2 k).filterMap λ(m:Nat)=>xs[((i:Int)+(m:Int)*1).toNat]?).toArray=((xs.toList.drop i).take k).toArray:=by
 have e:(λ(m:Nat)=>xs[((i:Int)+(m:Int)*1).toNat]?)=λm=>xs[i+m]?:=by
  funext m;have:((i:Int)+(m:Int)*1).toNat=i+m:=by lia
  rw[this]
 rw[e];have:=pick_run xs i k;rw[List.filterMap_map]at this;have l:((λx=>xs[x]?) ∘ λx=>i+x)=λm=>xs[i+m]?:=rfl;rw[l]at this;rw[this]
theorem getItem_tuple_cut{t d:c8}{i:Array c4}{v u:c4}{l hi:Option Int}{Q:c4->e9->Prop}(D:IsTup s.heap t i)(hs:s.heap.IsSliceOf d v u .none)(p:l3 v l)(k:l3 u hi)(g:¬(sIx i.size 0 l=0/\sIx i.size i.size hi=i.size))(h:Q (.ref s.heap.objs.size) { s with heap:=s.heap.push { cls:=.type "tuple",data:=.seq ((i.toList.drop<|sIx i.size 0 l).take<|sIx i.size i.size hi-sIx i.size 0 l).toArray } })(z:i.size<=sizeLine):f9 (i3 prog w) A (l4 (.ref t)<|.ref d) Q E s:=by
 have e:sizeOk (.seq ((i.toList.drop<|sIx i.size 0 l).take<|sIx i.size i.size hi-sIx i.size 0 l).toArray):=by show ((i.toList.drop<|sIx i.size 0 l).take<|sIx i.size i.size hi-sIx i.size 0 l).toArray.size<=sizeLine;rw[x3,G2,K1,D6];lia
 have L:sIx i.size i.size hi<=i.size:=Hs _ _ (u6 _) hi;obtain⟨j,b,c,f⟩:=id hs;have a:s.TypeIs (.ref d) "slice":=⟨j,b,c⟩
 unfold l4
 try with_reducible refine D7 ?_
 first|refine p6 (q9 ?_)|skip
 refine p6<|wpAny_sequenceKey D.typeIs (by decide) ?_;refine p6<|Lp (name:=AA0 "__getitem__") D.typeIs Nj<|J6 Nj D.typeIs entry_tuple_getitem ?_<|args_tuple_getitem _ _;show f9 _ _ (OY (.ref t) >>= _) _ _ s;refine p6<|tupleItemsOf_ D ?_;refine p6<|Ll a ?_;rw[n5<|by decide];refine p6<|fQ hs p k ?_;have o:¬((((sIx i.size 0 l:Nat):Int)==0&&(1:Int)==1&&(sIx i.size i.size hi-sIx i.size 0 l)==i.size)=a9):=by intro q;rw[C5,C5]at q;have n:((sIx i.size 0 l:Nat):Int)=0:=eq_of_beq q.1.1;have r:sIx i.size i.size hi-sIx i.size 0 l=i.size:=eq_of_beq q.2;exact g ⟨by lia,by lia⟩
 show f9 _ _ (if (((sIx i.size 0 l:Nat):Int)==0&&(1:Int)==1&&(sIx i.size i.size hi-sIx i.size 0 l)==i.size)=a9 then _ else _) _ _ s;rw[n6 o,BP]
 first
  |exact p6 (m:=OU _) (J7 (q9 ⟨_,rfl,q9 h⟩) e)
  |exact p6 (m:=OU _) (J7 (p6 (q9 (q9 ⟨_,rfl,q9 h⟩))) e)
  |exact p6 (p6 (m:=OU _) (J7 (q9 (q9 ⟨_,rfl,q9 h⟩)) e))
  |exact p6 (p6 (m:=OU _) (J7 (q9 ⟨_,rfl,q9 h⟩) e))
end
end HT
namespace L2
open PySem PySem.Spec PyProof.Rows
noncomputable abbrev TO:=St->Hp->(Option Int->Hp->Prop)->Prop
noncomputable def PO(X:Cx)(e:Option h8)(t:TO):Prop:=∀(p:List (c8×c9)) (s:e9) (σ:St) (H:Hp) (Q:Option Int->Hp->Prop),p8 X p σ H s->t σ H Q ->f9 (i3 X.prog X.w) X.A (evalPart e X.env) (λu s'=>∃o H',p8 X p σ H' s'/\l3 u o/\Q o H') X.xe s
noncomputable def Et:TO:=λ_ H Q=>Q a8 H
noncomputable def tPart(t:TE):TO:=λσ H Q=>t σ H λx a=>∃i,x=.int i/\Q (a7 i) a
section
variable{X:Cx}{e:h8}{te:TE}{lo hi:Option h8}{tl th:TO}{pos p2:i4}
theorem EQ:PO X a8 Et:=by intro p s σ H Q I h;rw[evalPart_none];exact q9 ⟨a8,H,I,.none,h⟩
theorem EO(h:PE X e te):PO X (a7 e) (tPart te):=by intro p s σ H Q I w;rw[evalPart_some];refine ve (h p s σ H _ I w) ?_;rintro u f ⟨x,a,b,r,c⟩;obtain⟨i,rfl,q⟩:=c;obtain⟨t,rfl⟩:=r;exact⟨a7 i,a,b,.int i t,q⟩
noncomputable def Nt(X:Cx)(r:V->Option Int->Option Int->Hp->VK->Prop):Prop:=∀(p:List (c8×c9)) (s:e9) (σ:St) (H:Hp) (x:V) (v a u:c4) (l hi:Option Int) (m:c8) (Q:VK),p8 X p σ H s->aM x v->s.heap.IsSliceOf m a u .none->l3 a l->l3 u hi->r x l hi H Q ->∃T id,typeLookup (.type T) "__getitem__" = pure (a7<|.builtin id)/\s.TypeIs v T/\f9 (i3 X.prog X.w) X.A (l4 v<|.ref m) (EP X p σ Q) X.xe s
noncomputable def tSl(r:V->Option Int->Option Int->Hp->VK->Prop)(te:TE)(t h:TO):TE:=λσ H Q=>te σ H λx a=>t σ a λl b=>h σ b λu c=>r x l u c Q
theorem BT(y:Nt X r)(o:PE X e te)(t:PO X lo tl)(B:PO X hi th):PE X (.Subscript e (.Slice lo hi a8 p2) pos) (tSl r te tl th):=by intro p s σ H Q I h;refine Subscript_<|ve (o p s σ H _ I h) ?_;rintro v L ⟨x,f,i,K,F⟩;refine wpAny_Slice<|ve (t p L σ f _ i F) ?_;rintro a M ⟨l,g,j,C,G⟩;refine ve (B p M σ g _ j G) ?_;rintro c z ⟨u,d,k,E,J⟩;rw[evalPart_none];refine q9 ?_;have m:p8 X p σ d { z with heap:=z.heap.push { cls:=.type "slice",data:=.fields #[a,c,.none] } }:=k.kept (t':=z.toks) λb N q=>v5 _ q;obtain⟨T,id,n,D,S⟩:=y p { z with heap:=z.heap.push { cls:=.type "slice",data:=.fields #[a,c,.none] } } σ d x v a c l u z.heap.objs.size Q m K (Heap.IsSliceOf.new ..) C E J;show f9 (i3 X.prog X.w) X.A (subscriptTail e (.Slice lo hi a8 p2) v<|.ref z.heap.objs.size) (EP X p σ Q) X.xe { z with heap:=z.heap.push { cls:=.type "slice",data:=.fields #[a,c,.none] } };exact tail_any (ops:=[.ref z.heap.objs.size,v]) D n S<|by with_unfolding_all rfl
noncomputable def Eh(xs:List V)(l hi:Option Int):List V:=(xs.drop<|HT.sIx xs.length 0 l).take<|HT.sIx xs.length xs.length hi-HT.sIx xs.length 0 l
theorem nh(xs:List V)(l hi:Option Int):(Eh xs l hi).length<=xs.length:=by unfold Eh;rw[G2,K1];lia
noncomputable def rSlT(K:u0):V->Option Int->Option Int->Hp->VK->Prop:=λx l hi H Q=>∃a xs,x=.ref a/\z0 K H a xs /\¬(HT.sIx xs.length 0 l=0/\HT.sIx xs.length xs.length hi=xs.length)/\∀p,H p=a8->Q (.ref p) (v4 H p<|.tup<|Eh xs l hi)
theorem Ho:Nt X (rSlT X.K):=by
 intro p s σ H x v f i l hi m Q I g hs d u h;obtain⟨a,xs,rfl,c,w,q⟩:=h;cases g;obtain⟨its,r,D,z⟩:=I.tuple c;have n:its.toArray.size=xs.length:=by rw[x3];exact r.length.symm
 refine⟨"tuple",_,Nj.lookup,D.typeIs,?_⟩;refine HT.getItem_tuple_cut D hs d u (by rw[n];exact w) ?_ (by rw[n];exact z);rw[n];refine⟨.ref s.heap.objs.size,_,I.laid (t':=s.toks) (o:=.tup<|Eh xs l hi) (λb e q=>v5 _ q) (u6 _) ?_,rfl,q _<|I.hok.fresh<|u6 _⟩;exact⟨B9 (nh xs l hi) z,_,(r.drop<|HT.sIx xs.length 0 l).take<|HT.sIx xs.length xs.length hi-HT.sIx xs.length 0 l,Dx.new _ _⟩
noncomputable def rCatT(K:u0):R2:=λx y H Q=>∃a b xs ys,x=.ref a/\y=.ref b/\z0 K H a xs/\z0 K H b ys/\xs≠[]/\xs.length+ys.length<=sizeLine /\(ys=[]->Q (.ref a) H)/\(ys≠[]->∀p,H p=a8->Q (.ref p) (v4 H p<|.tup<|xs++ys))
theorem aC.nil_iff(r:aC xs us):us=[]↔xs=[]:=by
 cases r with
 |nil=>simp
 |cons _ _=>simp
theorem Fb:C1 X (j7 .Add) (rCatT X.K):=by intro p s σ H x y v u Q I n t h;obtain⟨a,b,xs,ys,rfl,rfl,f,d,e,c,k,l⟩:=h;cases n;cases t;obtain⟨its,r,g,_⟩:=I.tuple f;obtain⟨i,m,j,_⟩:=I.tuple d;refine HT.cat_tup g j (λz=>e<|r.nil_iff.mp z) (λz=>⟨.ref a,H,I,rfl,k<|m.nil_iff.mp z⟩) (λz=>?_) (by rw[<-r.length,<-m.length];exact c);refine⟨.ref s.heap.objs.size,_,I.laid (t':=s.toks) (o:=.tup<|xs++ys) (λb A q=>v5 _ q) (u6 _) ?_,rfl,l (λw=>z<|m.nil_iff.mpr w) _<|I.hok.fresh<|u6 _⟩;exact⟨by rw[z5];exact c,_,r.append m,Dx.new _ _⟩
end
noncomputable def K4(n:Nat)(i:Int):Option Nat:=if 0<=i then(if i<n then a7 i.toNat else a8)else if -(n:Int)<=i then a7 (i+n).toNat else a8
noncomputable def atI{α:Type}(xs:List α)(i:Int):Option α:=(K4 xs.length i).bind λj=>xs[j]?
theorem As(h:K4 n i=a7 j):seqIndex? i n=a7 j/\j<n/\-(n:Int)<=i/\i<n:=by unfold K4 at h;by_cases a:0<=i;rw[n5 a]at h;by_cases h1:i<n;rw[n5 h1]at h;have e:i.toNat=j:=A6 h;exact⟨by rw[seqIndex_of a h1,e],by lia,by lia,h1⟩;rw[n6 h1]at h;cases h;rw[n6 a]at h;by_cases h1:-(n:Int)<=i;rw[n5 h1]at h;have e:(i+n).toNat=j:=A6 h;exact⟨by rw[seqIndex_neg (by lia) h1,e],by lia,h1,by lia⟩;rw[n6 h1]at h;cases h
theorem uZ{α:Type}{xs:List α}{i:Int}{v:α}(h:atI xs i=a7 v):∃j,seqIndex? i xs.length=a7 j/\xs[j]?=a7 v/\j<xs.length/\-(xs.length:Int)<=i/\i<xs.length:=by
 unfold atI at h;cases e:K4 xs.length i with
 |none=>rw[e]at h;cases h
 |some j=>rw[e]at h;obtain⟨h1,h2,a,f⟩:=As e;exact⟨j,h1,h,h2,a,f⟩
theorem aA{α:Type}{xs:List α}{j:Nat}{v:α}(h:xs[j]?=a7 v):atI xs (j:Int)=a7 v:=by
 have L:j<xs.length:=(w6.mp h).1;have e:K4 xs.length (j:Int)=a7 j:=by unfold K4;rw[n5 (by lia),n5<|by lia];simp
 unfold atI;rw[e];exact h
theorem wT{α:Type}(xs:List α)(v:α):atI (xs++[v]) (-1)=a7 v:=by
 have g:(xs++[v]).length=xs.length+1:=by simp
 have e:K4 (xs++[v]).length (-1)=a7 xs.length:=by unfold K4;rw[g,n6 (by decide),n5<|by lia];congr 1;lia
 unfold atI;rw[e];show (xs++[v])[xs.length]?=a7 v;simp
noncomputable def vh(b:h8):Prop:=∀o i,subscripted b bt o i=operate [o,i] (l4 o i)
noncomputable def KJ(X:Cx)(r:R2):Prop:=∀(a e:h8) (p:List (c8×c9)) (s:e9) (σ:St) (H:Hp) (x y:V) (v u:c4) (Q:VK),p8 X p σ H s->aM x v->aM y u->r x y H Q ->subscripted e bt v u=operate [v,u] (l4 v u)->f9 (i3 X.prog X.w) X.A (subscriptTail a e v u) (EP X p σ Q) X.xe s
noncomputable def Kw(X:Cx)(id:String)(r:V->List V->Hp->VK->Prop):Prop:=∀(p:List (c8×c9)) (s:e9) (σ:St) (H:Hp) (x:V) (xs:List V) (v:c4) (us:List c4) (Q:VK),p8 X p σ H s->aM x v->aC xs us->r x xs H Q ->f9 (i3 X.prog X.w) X.A (call (.builtin id)<|v::us) (EP X p σ Q) X.xe s
section
variable{X:Cx}{a b:h8}{ta tb:TE}{pos:i4}
theorem KJ.or(h:KJ X r)(h':KJ X r'):KJ X (λx y H Q=>r x y H Q\/r' x y H Q):=by intro a e p s σ H x y v u Q I g i q hs;rcases q with q|q;exact h a e p s σ H x y v u Q I g i q hs;exact h' a e p s σ H x y v u Q I g i q hs
theorem pe_ix(i:KJ X r)(f:PE X a ta)(d:PE X b tb)(hs:vh b):PE X (.Subscript a b pos) (Nk r ta tb):=by intro p s σ H Q I h;exact Subscript_<|binT f d I h λv u w x y c e g j q=>i a b p w σ c x y v u Q e g j q<|hs _ _
noncomputable def rIxL(K:u0):R2:=λx y H Q=>∃p xs i v,x=.ref p/\y=.int i/\Ki K H p xs/\atI xs i=a7 v/\Q v H
noncomputable def rIxT(K:u0):R2:=λx y H Q=>∃p xs i v,x=.ref p/\y=.int i/\z0 K H p xs/\atI xs i=a7 v/\Q v H
noncomputable def rIxS:R2:=λx y H Q=>∃z i c,x=.str z/\y=.int i/\z.length<=sizeLine/\atI z.cps.toList i=a7 c/\Q (.str ⟨#[c]⟩) H
theorem FN:KJ X (rIxL X.K):=by
 intro c e a s σ H x y v u Q I B C h hs;obtain⟨p,xs,i,z,rfl,rfl,A,m,q⟩:=h;cases B;obtain⟨t,rfl⟩:=C;obtain⟨its,r,l,F⟩:=I.list A;obtain⟨j,h1,h2,D,g,k⟩:=uZ m;obtain⟨w,d,b⟩:=r.get h2;have o:=r.length;have E:=oW;have n:EP X a σ Q w s:=⟨z,H,I,b,q⟩
 by_cases f:0<=i;have L:i.toNat=j:=by rw[seqIndex_of f k]at h1;exact A6 h1
 exact item_listR l.isList f (by lia) (by rw[L];simpa using d) n hs;have L:(i+(its.toArray.size:Int)).toNat=j:=by rw[seqIndex_neg (by lia) g]at h1;rw[x3,<-o];exact A6 h1
 exact subscriptTail_builtinR (x:=w) l.isList.typeIs slot_list_getitem.lookup (wpAny_getItem_list_neg (Q:=λr s'=>r=w/\EP X a σ Q r s') l.isList (by lia) (by rw[x3]<;>lia) (by lia) (by rw[L];simpa using d) ⟨rfl,n⟩) hs
theorem Jc:KJ X (rIxT X.K):=by
 intro c e a s σ H x y v u Q I m o h hs;obtain⟨p,xs,i,z,rfl,rfl,k,f,q⟩:=h;cases m;obtain⟨t,rfl⟩:=o;obtain⟨its,r,l,E⟩:=I.tuple k;obtain⟨j,h1,h2,A,B,C⟩:=uZ f;obtain⟨w,d,b⟩:=r.get h2;have g:=r.length;have D:=oW;have n:EP X a σ Q w s:=⟨z,H,I,b,q⟩
 exact subscriptTail_builtinR (x:=w) l.typeIs slot_tuple_getitem.lookup (getItem_tuple (j:=j) (Q:=λr s'=>r=w/\EP X a σ Q r s') l (by lia) (by lia) (by rw[x3,<-g];exact h1) (by simpa using d) ⟨rfl,n⟩) hs
theorem Jd:KJ X rIxS:=by
 intro a e p s σ H x y v u Q I r m h hs;obtain⟨z,i,c,rfl,rfl,w,d,q⟩:=h;obtain⟨t,rfl⟩:=r;obtain⟨t',rfl⟩:=m;obtain⟨j,h1,h2,n,f,k⟩:=uZ d;have g:z.cps.toList.length=z.length:=by simp[Str.length]
 rw[g]at h1 f k;have o:=oW;exact tail_any (l5 s z t) slot_str_getitem.lookup (getItem_str (c:=c) (by have b:decide (i < -(2 ^ 63:Int))=bt:=dF_ (by lia);have l:decide (i ≥ 2 ^ 63)=bt:=dF_ (by lia);rw[b,l,Bool.or_false]) (by rw[h1];simpa using h2) ⟨.str ⟨#[c]⟩,H,I.tok _,⟨_,rfl⟩,q⟩) hs
noncomputable def rIx(K:u0):R2:=λx y H Q=>rIxL K x y H Q\/rIxT K x y H Q\/rIxS x y H Q
theorem Je:KJ X (rIx X.K):=FN.or<|Jc.or Jd
theorem xE(its:List c4)(n j:Nat)(u:c4):Fn (·.setIfInBounds j u) { cls:=.type "list",data:=.seq its.toArray n }={ cls:=.type "list",data:=.seq (its.set j u).toArray n }:=by simp[Fn]
theorem p8.lst(I:p8 X pins σ H s)(h:H p=a7 (.lst xs)):∃(its:List c4) (n:Nat),aC xs its/\s.heap.get? p=a7 { cls:=.type "list",data:=.seq its.toArray n }/\xs.length<=sizeLine:=by obtain⟨z,its,n,r,e⟩:=I.hok p _ h;exact⟨its,n,r,e,z⟩
theorem p8.lstUpd{pins:List (c8×c9)}{σ:St}{H:Hp}{s:e9}{p:c8}{xs ys:List V}{its its':List c4}{n a:Nat}{f:c9->c9}(I:p8 X pins σ H s)(h:H p=a7 (.lst xs))(B:s.heap.get? p=a7 { cls:=.type "list",data:=.seq its.toArray n }) (c:f { cls:=.type "list",data:=.seq its.toArray n }={ cls:=.type "list",data:=.seq its'.toArray a }) (r:aC ys its') (hz:ys.length<=sizeLine) (t:Nat):p8 X pins σ (v4 H p<|.lst ys) { s with heap:=s.heap.update p f,toks:=t }:=by
 have e:(s.heap.update p f).get? p=a7 { cls:=.type "list",data:=.seq its'.toArray a }:=by rw[Kt f B (by rw[c]<;>rfl),c]
 refine I.write (x:=p) (e:=p) (by rw[h];trivial) (.inl rfl) (λb u d q=>(Ni _ _<|z8 d).trans q) ⟨_,e⟩ ?_;exact⟨hz,its',a,r,e⟩
noncomputable def rSetL:V->V->V->Hp->(Hp->Prop)->Prop:=λo i v H Q=>∃p xs k j,o=.ref p/\i=.int k/\H p=a7 (.lst xs)/\K4 xs.length k=a7 j/\Q (v4 H p<|.lst<|xs.set j v)
theorem BH:PSet X rSetL:=by
 intro a s σ H o i v C A u Q I w m x h;obtain⟨p,xs,k,j,rfl,rfl,l,L,q⟩:=h;cases w;obtain⟨t,rfl⟩:=m;obtain⟨its,n,r,B,z⟩:=I.lst l;obtain⟨h1,h2,e,f⟩:=As L;have g:=r.length;have y:=oW;have c:p8 X a σ (v4 H p<|.lst<|xs.set j v) { s with heap:=s.heap.update p (Fn (·.setIfInBounds j u)) }:=I.lstUpd l B (xE its n j u) (r.set x j) (by rw[J5];exact z) s.toks;by_cases d:0<=k;have b:k.toNat=j:=by rw[seqIndex_of d f]at h1;exact A6 h1
 exact PySem.W.ki_setAt B d (by lia) (by rw[x3,<-g];exact f) (by rw[b];exact⟨_,c,q⟩);have b:(k+(its.toArray.size:Int)).toNat=j:=by rw[seqIndex_neg (by lia) e]at h1;rw[x3,<-g];exact A6 h1
 exact PySem.W.ki_setBack B (by lia) (by rw[x3,<-g];exact e) (by lia)<|by rw[b];exact⟨_,c,q⟩
theorem rR(l hi:Option Int)(n:Nat):(l6 l hi a8 n).1=((HT.sIx n 0 l:Nat):Int)/\(l6 l hi a8 n).2.1=((HT.sIx n n hi:Nat):Int)/\(l6 l hi a8 n).2.2=1:=by
 refine⟨?_,?_,rfl⟩;cases l with
 |none=>simp[l6,HT.sIx]
 |some i=>simp only[l6,HT.sIx,Option.getD_none,show (1:Int) > 0 by decide,o7];by_cases h:i<0;simp only[h,o7]<;>lia;simp only[h,o6]<;>lia
 cases hi with
 |none=>simp[l6,HT.sIx]
 |some i=>simp only[l6,HT.sIx,Option.getD_none,show (1:Int) > 0 by decide,o7];by_cases h:i<0;simp only[h,o7]<;>lia;simp only[h,o6]<;>lia
theorem pG(its:List c4)(l hi:Option Int):slicePick its.toArray l hi a8=((its.drop<|HT.sIx its.length 0 l).take<|HT.sIx its.length its.length hi-HT.sIx its.length 0 l).toArray:=by obtain⟨h1,h2,a⟩:=rR l hi its.toArray.size;unfold slicePick;rw[h1,h2,a];simp only[sliceRange_one,pick_run,x3]<;>rfl
noncomputable def rSlL(K:u0):V->Option Int->Option Int->Hp->VK->Prop:=λx l hi H Q=>∃a xs,x=.ref a/\Ki K H a xs/\∀p,H p=a8->Q (.ref p) (v4 H p<|.lst<|Eh xs l hi)
theorem Ew:Nt X (rSlL X.K):=by intro p s σ H x v f i l hi m Q I g hs d u h;obtain⟨a,xs,rfl,c,q⟩:=h;cases g;obtain⟨its,r,D,z⟩:=I.list c;have n:=r.length;refine⟨"list",_,slot_list_getitem.lookup,D.isList.typeIs,?_⟩;refine wpAny_getItem_list_slice D.isList hs d u .none (by simp) ?_ (by rw[x3]<;>lia);rw[pG,<-n];refine⟨.ref s.heap.objs.size,_,I.laid (t':=s.toks) (o:=.lst<|Eh xs l hi) (λb e q=>v5 _ q) (u6 _) ?_,rfl,q _<|I.hok.fresh<|u6 _⟩;exact⟨B9 (nh xs l hi) z,_,0,(r.drop<|HT.sIx xs.length 0 l).take<|HT.sIx xs.length xs.length hi-HT.sIx xs.length 0 l,z6 _ rfl⟩
theorem tD:iS X (.builtin "len") (λxs H Q=>∃p ys,xs=[.ref p]/\(Ki X.K H p ys\/z0 X.K H p ys)/\Q (.int ys.length) H):=by intro b s σ H xs us Q I r h;obtain⟨p,ys,rfl,a,q⟩:=h;obtain⟨u,rfl,g⟩:=Es r;cases g;have f:=oW;rcases a with a|a;obtain⟨its,r',l,z⟩:=I.list a;have n:=r'.length;exact Calls.call_len_list l.isList (by simp only[x3]<;>lia) ⟨.int ys.length,H,I.tok _,⟨s.toks+1,by rw[x3,n]⟩,q⟩;obtain⟨its,r',l,z⟩:=I.tuple a;have n:=r'.length;exact len_tuple l (by simp only[x3]<;>lia) ⟨.int ys.length,H,I.tok _,⟨s.toks+1,by rw[x3,n]⟩,q⟩
theorem tx:iS X (.builtin "len") (λxs H Q=>∃z,xs=[.str z]/\z.length<=sizeLine/\Q (.int z.length) H):=by intro p s σ H xs us Q I r h;obtain⟨z,rfl,b,q⟩:=h;obtain⟨u,rfl,t,rfl⟩:=Es r;have f:=oW;exact len_str (by lia) ⟨.int z.length,H,I.tok _,⟨_,rfl⟩,q⟩
theorem iS.or(h:iS X f r)(h':iS X f r'):iS X f (λxs H Q=>r xs H Q\/r' xs H Q):=by intro p s σ H xs us Q I a q;rcases q with q|q;exact h p s σ H xs us Q I a q;exact h' p s σ H xs us Q I a q
theorem qy:iS X (.type "tuple") (λxs H Q=>∃p ys,xs=[.ref p]/\((Ki X.K H p ys/\∀l,H l=a8->Q (.ref l) (v4 H l<|.tup ys))\/(z0 X.K H p ys/\Q (.ref p) H))):=by
 intro a s σ H xs us Q I r h;obtain⟨p,ys,rfl,h⟩:=h;obtain⟨u,rfl,x⟩:=Es r;cases x;rcases h with⟨c,q⟩|⟨c,q⟩
 obtain⟨its,r',d,z⟩:=I.list c;have n:=r'.length;refine call_tuple_list d.isList (λh' k=>?_) (by simp only[x3]<;>lia);have f:p8 X a σ H { s with heap:=h' }:=I.kept (t':=s.toks) k;have g:p8 X a σ (v4 H h'.objs.size<|.tup ys) { s with heap:=h'.push { cls:=.type "tuple",data:=.seq its.toArray } }:=f.laid (t':=s.toks) (λb o e=>v5 _ e) (u6 _)<|show cL X.prog X.w _ _ _ (.tup ys)from⟨z,its,r',Dx.new _ _⟩;exact⟨.ref h'.objs.size,_,g,rfl,q _<|f.hok.fresh<|u6 _⟩;obtain⟨its,r',d,z⟩:=I.tuple c;exact call_tuple_same d ⟨.ref p,H,I,rfl,q⟩
noncomputable def PL(K:u0)(T:String)(x:V)(H:Hp):Prop:=match x with
 |.str _=>T = "str"
 |.int _=>T = "int"
 |.ref p=>(T = "list"/\∃xs,Ki K H p xs)\/(T = "tuple"/\∃o,K.lookup p=a7 o/\o.cls=.type "tuple"/\o.dict=a8) \/(T = "dict"/\((∃s,H p=a7 (.dK s))\/∃s,H p=a7 (.dT s)))\/(T = "set"/\∃S n,H p=a7 (.set S n))
 |_=>False
theorem Hb(I:p8 X pins σ H s)(r:aM x v)(y:PL X.K T x H):s.TypeIs v T/\∀a,v=.ref a->∃ob,s.heap.get? a=a7 ob/\ob.dict=a8:=by
 cases x with
 |str z=>obtain⟨t,rfl⟩:=r;cases (show T = "str" from y);exact⟨l5 s z t,λ_ e=>nomatch e⟩
 |int i=>obtain⟨t,rfl⟩:=r;cases (show T = "int" from y);exact⟨typeIs_int s i t,λ_ e=>nomatch e⟩
 |ref p =>
  cases r;rcases y with⟨rfl,xs,q⟩|⟨rfl,o,k,h,d⟩|⟨rfl,k⟩|⟨rfl,S,n,k⟩
  obtain⟨its,_,g,_⟩:=I.list q;refine⟨g.isList.typeIs,λa e=>?_⟩;cases e;obtain⟨o,n,e,c,d,_⟩:=g;exact⟨o,e,d⟩;refine⟨⟨o,I.kIn p o k,h⟩,λa e=>?_⟩;cases e;exact⟨o,I.kIn _ o k,d⟩;have z:∃o,s.heap.get? p=a7 o/\o.ExactDict:=by
   rcases k with⟨f,k⟩|⟨f,k⟩
   obtain⟨_,_,_,_,o,_,_,e,b,_⟩:=I.hok p _ k;exact⟨o,e,b⟩;obtain⟨_,_,_,_,o,_,_,e,b,_⟩:=I.hok p _ k;exact⟨o,e,b⟩
  obtain⟨o,e,b⟩:=z;refine⟨⟨o,e,b.1⟩,λa l=>?_⟩;cases l;exact⟨o,e,b.2.1⟩;obtain⟨o,_,_,_,e,b,_⟩:=I.hok p _ k;refine⟨⟨o,e,b.1⟩,λa l=>?_⟩;cases l;exact⟨o,e,b.2.1⟩
 |_=>exact Lk y
noncomputable def tBM(K:u0)(T:String)(r:V->List V->Hp->VK->Prop)(e:TE)(t:TA):TE:=λσ H Q=>e σ H λx a=>PL K T x a/\t σ a λxs b=>r x xs b Q
variable{o e:h8}{es:List h8}{to:TE}{t:TA}{name:c5}{apos cpos:i4}{T id:String}{r:V->List V->Hp->VK->Prop}
theorem Ib(q:PlainAttrs T)(slot:Slot T name id)(y:typeOf (.builtin id)=pure (.type "method_descriptor"))(l:Kw X id r)(B:PE X o to)(k:PA X (e::es) t)(b:l7 o name X.env (eval o X.env)=eval o X.env:=by rfl)(w:((i5 cpos<|i6 (e::es) X.env).all (λx=>!x.1)&&(l8 cpos<|l9 [] X.env).all (λx=>x.1.isSome) && decide ((e::es).length+([]:List k7).length+(if ([]:List k7).isEmpty then 0 else 1)<30))=a9:=by rfl)(c:(apos.endLine==cpos.line)=a9:=by rfl) (hs:i6 (e::es) X.env=(bt,eval e X.env)::i6 es X.env:=by rfl) (n:(i5 cpos<|i6 es X.env).any (·.1)=bt:=by rfl):PE X (.Call (.Attribute o name apos) (e::es) [] cpos) (tBM X.K T r to t):=by intro p s σ H Q I h;refine Pp b w c rfl<|ve (B p s σ H _ I h) ?_;rintro v D ⟨x,g,d,f,F,u⟩;obtain⟨h1,h2⟩:=Hb d f F;refine⟨T,id,q,slot,y,h1,h2,?_⟩;have A:=k cpos p D σ g _ d u;rw[hs]at A ⊢;refine NV (by show (bt||(i5 cpos<|i6 es X.env).any (·.1))=bt;rw[n]<;>rfl)<|Pk ?_;refine ve A ?_;rintro us E ⟨vs,i,j,C,z⟩;exact l p E σ i x vs v us Q j f C z
/- xs.append(e),list.index on a module's tuple .. are Kw facts of 06m -/
end
noncomputable def PN(X:Cx)(id:String)(r:V->List V->Hp->VK->Prop):Prop:=∀(p:List (c8×c9)) (s:e9) (σ:St) (H:Hp) (x:V) (xs:List V) (v:c4) (us:List c4) (Q:VK),p8 X p σ H s->aM x v->aC xs us->r x xs H Q ->f9 (i3 X.prog X.w) X.A (call (.builtin id)<|v::us) (EP X p σ Q) X.xe s
theorem aC.one(h:aC [x] us):∃u,us=[u]/\aM x u:=by
 cases h with
 |cons r t=>cases t;exact⟨_,rfl,r⟩
theorem aC.two(h:aC [x,y] us):∃u v,us=[u,v]/\aM x u/\aM y v:=by
 cases h with
 |cons r t=>obtain⟨v,e,q⟩:=aC.one t;subst e;exact⟨_,v,rfl,r,q⟩
section
variable{X:Cx}{pins:List (c8×c9)}{σ:St}{H:Hp}{s:e9}{l b:c8}{xs ys zs:List V}
theorem p8.lset{its its':List c4}{n:Nat}{f:Array c4->Array c4}{t':Nat}(I:p8 X pins σ H s)(h:H l=a7 (.lst xs))(e:s.heap.get? l=a7 { cls:=.type "list",data:=.seq its.toArray n }) (a:f its.toArray=its'.toArray) (c:aC ys its') (hz:ys.length<=sizeLine):p8 X pins σ (v4 H l<|.lst ys) { s with heap:=s.heap.update l<|Fn f,toks:=t' }:=by have q:=PySem.IsL.update e f;rw[a]at q;refine I.write (x:=l) (e:=l) (by rw[h];exact trivial) (.inl rfl) (λb u d g=>(Ni s.heap (Fn f)<|z8 d).trans g) ⟨_,q⟩ ?_;exact⟨hz,its',_,c,q⟩
theorem p8.lnew(I:p8 X pins σ H s)(c:aC ys its)(hz:ys.length<=sizeLine):p8 X pins σ (v4 H s.heap.objs.size<|.lst ys) { s with heap:=s.heap.push { cls:=.type "list",data:=.seq its.toArray },toks:=t' }:=I.laid (λ_ _ q=>v5 _ q) (u6 _) ⟨hz,its,0,c,z6 _ rfl⟩
theorem p8.fresh(I:p8 X pins σ H s):H s.heap.objs.size=a8:=I.hok.fresh<|u6 _
theorem p8.lstM(I:p8 X pins σ H s)(h:H l=a7 (.lst xs)):xs.length<=sizeLine/\∃(its:List c4) (n:Nat),aC xs its/\xs.length=its.length/\s.heap.get? l=a7 { cls:=.type "list",data:=.seq its.toArray n }:=by obtain⟨z,its,n,r,e⟩:=I.hok l _ h;exact⟨z,its,n,r,r.length,e⟩
theorem Cg(h:n<=sizeLine):PB n=bt:=by unfold PB;exact dF_<|by lia
end
section
variable{X:Cx}
noncomputable def EF:V->List V->Hp->VK->Prop:=λx vs H Q=>∃l xs y,x=.ref l/\vs=[y]/\H l=a7 (.lst xs)/\xs.length<sizeLine/\Q .non (v4 H l<|.lst<|xs++[y])
theorem zR:PN X "list.append" EF:=by intro p s σ H x vs v us Q I g d h;obtain⟨l,xs,y,rfl,rfl,a,c,q⟩:=h;cases g;obtain⟨u,rfl,R⟩:=d.one;obtain⟨z,its,n,r,b,e⟩:=I.lstM a;refine call_meets F.slot_list_append ⟨_,e,rfl⟩ F.entry_list_append (F.args_list_append_2 _ _) (PySem.list_append l its.toArray n u<|by rw[x3];lia) ⟨e,?_⟩;refine⟨.non,_,I.lset (its':=its++[u]) a e (by simp) (r.append<|.cons R .nil) ?_,rfl,q⟩;rw[z5,G8];lia
noncomputable def ED:V->List V->Hp->VK->Prop:=λx vs H Q=>∃l b xs s,x=.ref l/\vs=[.ref b]/\H l=a7 (.lst xs)/\H b=a7 (.lst s)/\xs.length+s.length<=sizeLine/\Q .non (v4 H l<|.lst<|xs++s)
theorem zQ:PN X "list.extend" ED:=by
 intro p s σ H x vs v us Q I k j h;obtain⟨l,b,xs,A,rfl,rfl,c,B,w,q⟩:=h;cases k;obtain⟨u,rfl,R⟩:=j.one;cases R;obtain⟨z,its,n,r,t,e⟩:=I.lstM c;obtain⟨y,i,o,m,f,d⟩:=I.lstM B;have a:its.toArray.size+i.toArray.size<=sizeLine:=by rw[x3,x3];lia
 have g:¬(!its.toArray.isEmpty&&PB (its.toArray.size+i.toArray.size))=a9:=by rw[Cg a,Of];exact LQ
 refine call_meets F.slot_list_extend ⟨_,e,rfl⟩ F.entry_list_extend (F.args_list_extend_2 _ _) (AutoSeq1.list_extend_list_list_0 l its.toArray n b i.toArray o g (by rw[x3];lia)<|by lia) ⟨e,d,?_⟩;refine⟨.non,_,I.lset (its':=its++i) c e (by simp) (r.append m) ?_,rfl,q⟩;rw[z5];lia
noncomputable def rCat:R2:=λx y H Q=>∃l b xs s,x=.ref l/\y=.ref b/\H l=a7 (.lst xs)/\H b=a7 (.lst s)/\xs.length+s.length<=sizeLine/\∀p,H p=a8->Q (.ref p) (v4 H p<|.lst<|xs++s)
theorem Il:C1 X (j7 .Add) rCat:=by
 intro p s σ H x y v u Q I g j h;obtain⟨l,b,xs,A,rfl,rfl,d,B,o,q⟩:=h;cases g;cases j;obtain⟨z,its,n,r,k,e⟩:=I.lstM d;obtain⟨w,i,t,m,f,a⟩:=I.lstM B;refine PySem.P.add_list e a ?_ (by rw[x3,x3];lia);have c:its.toArray++i.toArray=(its++i).toArray:=by simp
 rw[c];exact⟨.ref _,_,I.lnew (t':=s.toks) (r.append m) (by rw[z5];lia),rfl,q _ I.fresh⟩
end
end L2
namespace Att
open PySem PySem.W PySem.Calls PyProof.Rows
theorem mT:∀(ns:List Int) (vs:List c4),WellAll P h vs (ns.map WData.int)->IntsAre vs ns:=by
 intro ns;induction ns with
 |nil=>intro vs w;rw[List.map_nil]at w;cases w;exact .nil
 |cons n ns i =>
  intro vs w;rw[C0]at w;cases w with
  |cons a b=>cases a;exact .cons _ _<|i _ b
theorem zg{l:OpenLaw}{n:Nat}(o:l.most=a7 n){P:Params}{h:d5}{args:List WData}{s:List c4}(e:l.row.toRowW.claim.pre args=a9) (i:WellAll P h s args):∃a vs ns,s=[F6 a]/\args=[WData.list<|ns.map WData.int]/\h.get? a=a7 { cls:=.type "list",data:=.seq vs.toArray }/\IntsAre vs ns/\ns.length<=n:=by
 have g:WShape.hasAll [] args [.list .int]=a9:=(pre_splitW e).1;have j:l.pre.holds [] { args:=args }=a9:=(pre_splitW e).2;obtain⟨d,r,rfl,h1,h2⟩:=hasAllW_cons g;obtain rfl:=hasAllW_nil h2;obtain⟨xs,rfl,m⟩:=hasW_list h1;obtain⟨ns,rfl⟩:=items_int m;have c:ns.length<=n:=by
  unfold OpenLaw.pre at j;have f:(WTm.not<|.lt (.lit<|.int (n:Int))<|.len<|.arg 0).holds [] { args:=[.list<|ns.map .int] }=a9:=by have f:=(holds_andW j).1;rw[o]at f;exact f
  have k:=condW_of f<|w_not<|w_lt w_lit<|w_len_list<|w_arg rfl;rw[u4]at k;refine Nat.le_of_not_lt λq=>?_;have p:(n:Int)<((ns.length:Nat):Int):=by lia
  first
   |(rw[dT_ p]at k;exact n9 k (by decide))
   |(simp at k;lia)
 cases i with
 |cons w t =>
  cases t;cases w with
  |list B b=>exact⟨_,_,ns,rfl,rfl,B,mT ns _ b,c⟩
theorem zu(l:OpenLaw)(args:List WData):l.row.toRowW.claim.post args (.bool a9) args=a9:=postW_of (r:=l.row.toRowW) (X:=(a9==a9))
  (show WShape.has [] (.bool a9) .bool=a9 by first|rfl|decide|simp[WShape.has,WShape.arms,WShape.armsAll])
  (show (WTm.eq .res<|.lit<|.bool a9).value [] { args:=args,res:=a7<|.bool a9,after:=args }=a7 (.bool<|a9==a9)from w_eq_bool (w_res rfl) w_lit) rfl
theorem attach_call{l:OpenLaw}{n:Nat}{q:c7}{e:List c5}{P:(c5->Option c4)->d5->Prop}{YP:c6->d5->Prop}{d:DefRec}(A:l.most=a7 n) (i:d.params.defaults=[])(c:∀(w:c6) (s₀ s₁:e9) (mg mb:c5->Option c4) (fa:c8) (o:c9) (pm cd doc:c4) (a:c8) (vs:List c4) (ns:List Int),Ground q e [] P w s₀ mg mb s₁.heap->YP w s₁.heap -> s₁.heap.get? fa=a7 o->o.data=.func (docDef d.name d.params d.body d.scope pm cd doc)->s₁.heap.CodeRec cd d.name->mg d.name=a7 (.ref fa) ->s₁.heap.get? a=a7 { cls:=.type "list",data:=.seq vs.toArray }->IntsAre vs ns->ns.length<=n->s₁.gens = #[] ->k6 (i3 l.prog w) callerA (.call (.ref fa) ⟨[.ref a],[]⟩) (λr s'=>r=.ok (.ret<|.bool a9)/\OldK s₁.heap s'.heap/\s'.os=s₁.os/\f8 s'.gens) s₁):WalkO q e P YP l.row.toRowW d [] (λf vs=>PySem.call f vs):=by intro w s₀ s₁ mg mb G Y fa o pm cd doc T kV B u g D k S O v F b y E m x;obtain rfl:T=.none:=Dflts.none D i;obtain rfl:kV=.none:=Dflts.noKw D;obtain⟨a,vs,ns,rfl,rfl,j,s,h⟩:=zg A b m;refine enter_call<|Mt (c w s₀ s₁ mg mb fa o pm cd doc a vs ns G Y B (fd_plain u) g k j s h S) λr s' C=>?_;obtain⟨rfl,h2,p,t⟩:=C;exact⟨.inl ⟨.bool a9,.bool a9,[],rfl,λ_=>rfl,.bool a9,zu l _,λ_=>⟨NN,λ_ z=>(nomatch z)⟩⟩,h2,p,t⟩
section
variable{prog:c7}{w:c6}{A:e8}{E:c4->e9->Prop}{s:e9}{K:Frag}
noncomputable def noObjs(h:d5):d5:={ h with objs:=#[] }
theorem noObjs_get(h:d5)(b:c8):(noObjs h).get? b=a8:=by
 cases e:(noObjs h).get? b with
 |none=>rfl
 |some o=>exact n9 (v7 e)<|Lz _
noncomputable def ledger(h:d5)(L d:c8):List (c8×c9):=(A2 h.objs.size).filterMap λa=>if a=L\/a=d then a8 else(h.get? a).map λo=>(a,o)
theorem mem_ledger:(a,o)∈ledger h L d↔a≠L/\a≠d/\h.get? a=a7 o:=by unfold ledger;rw[Ml];constructor;rintro⟨b,_,e⟩;split at e;cases e;rename_i c;obtain⟨g,B,f⟩:=Le.mp e;cases f;exact⟨λq=>c<|.inl q,λq=>c<|.inr q,B⟩;rintro⟨n1,n2,B⟩;refine⟨a,F7.mpr<|v7 B,?_⟩;rw[n6<|show ¬(a=L\/a=d)from λq=>q.elim n1 n2,B]<;>rfl
theorem news_ledger(b:d≠L)(B:h.get? d=a7 od):News (noObjs h) L h ([]++(d,od)::ledger h L d):=by rintro⟨a,o⟩ p;rcases z9.mp p with e|p;cases e;exact⟨B,b,noObjs_get _ _⟩;obtain⟨n,c,e⟩:=mem_ledger.mp p;exact⟨e,n,noObjs_get _ _⟩
theorem fr_all(n:h.Ns L m):Fr (noObjs h) L h m:=⟨n,λb o e=>(by rw[noObjs_get]at e;cases e),w5 _⟩
end
end Att
namespace L2
open PySem PySem.Spec PyProof.Rows
theorem qN:∀{vs:List c4}{ns:List Int},IntsAre vs ns->aC (ns.map V.int) vs
 |_,_,.nil=>.nil
 |_,_,.cons n t h=>.cons ⟨t,rfl⟩<|qN h
noncomputable abbrev KOf{K:u0}{h:d5}(_:K.In h):u0:=K
noncomputable def iP(s:i7):Arguments:=match s with
 |.FunctionDef _ a _ _ _ _ _ _ _ _=>a
 |_=>{ posonlyargs:=[],args:=[],vararg:=a8,kwonlyargs:=[],kw_defaults:=[],kwarg:=a8,defaults:=[] }
noncomputable def bU(s:i7):List i7:=match s with
 |.FunctionDef _ _ b _ _ _ _ _ _ _=>b
 |_=>[]
noncomputable def av(s:i7):f7:=match s with
 |.FunctionDef _ _ _ _ _ _ sc _ _ _=>sc
 |_=>{ kind:=.function,names:=[],isGenerator:=bt,isCoroutine:=bt }
noncomputable abbrev E9:LJ:=λ_ _ _ _ _ _=>False
noncomputable abbrev E0:XK:=λ_ _ _=>False
theorem pass0:Bl E9 X E0:=λ_ _ _ _ _ _ _ h=>h.elim
structure K7(K:u0)(x qual:c5)(st:i7)(f:c8)(fd:k5):Prop where
 ex:∃(oc:c4) (od:Option c8) (kV doc pm:c4) (an:Option c8) (cdv ct:c4) (osl:Array (Option c4)),fd=LL x qual (iP st) (bU st) (av st) .none kV doc pm an cdv ct/\K.lookup f=a7 ⟨oc,od,.func fd,osl⟩/\Og K cdv qual=a9
 kp:L8 K (.ref f)=a9
section
variable{P:c7}{w:c6}{K:u0}{mg:c5->Option c4}{base:d5}
theorem K7.ok{x l:c5}{st:i7}{f:c8}{a:k5}{N ps:List c5}{k:Nat}{sp:Sp}(F:K7 K x l st f a)(S:FnScope N ps (av st))(B:∀vs H Q E,sp vs H Q E->vs.length=ps.length)(y:∀(cdv:c4) (A:e8) (outer:List Env) (s:e9) (H:Hp) (vs:List V) (Q:VK) (E:XK),Room k (A.deeper<|k9 l (av st) s.heap.objs.size f cdv)->sp vs H Q E -> ∃t,J4 (tu E9 P w K mg base N l (av st) f cdv A outer s H E).nox (bU st) t/\t { nx:=λ_ H'=>Q .non H',rt:=Q } (start N vs) H):FnOk P w K mg base E9 (k+1) f a ps sp:=by obtain⟨oc,j,kV,i,U,M,cdv,R,G,rfl,b,d⟩:=F.ex;refine Jy b d S B λA outer s H vs Q E r z=>?_;obtain⟨t,h,q⟩:=y cdv A outer s H vs Q E r z;exact⟨t,h.nox,q⟩
theorem K7.binds{x l:c5}{st:i7}{f:c8}{d:k5}{ps:List c5}(F:K7 K x l st f d)(h:∀(kV doc pm:c4) (an:Option c8) (cdv ct:c4) (us:List c4),us.length=ps.length->bindArgs (LL x l (iP st) (bU st) (av st) .none kV doc pm an cdv ct) ⟨us,[]⟩=pure (ps.zip us)):tM K d ps []:=by obtain⟨oc,j,kV,doc,pm,an,cdv,ct,G,rfl,b,a⟩:=F.ex;exact .all<|h kV doc pm an cdv ct
theorem Jw{x q:c5}{st:i7}{f:c8}{oc:c4}{j M:Option c8}{G:Array (Option c4)}{kV i U v R:c4}(l:K.lookup f=a7 ⟨oc,j,.func<|LL x q (iP st) (bU st) (av st) .none kV i U M v R,G⟩)(c:Og K v q=a9) (k:L8 K (.ref f)=a9):K7 K x q st f (LL x q (iP st) (bU st) (av st) .none kV i U M v R):=⟨⟨oc,j,kV,i,U,M,v,R,G,rfl,l,c⟩,k⟩
end
theorem aL(h:n<=1000):n<sizeLine:=Nat.lt_of_le_of_lt h<|by decide
section
variable{X:Cx}
theorem pv(i:Nat)(h:X.N[i]?=a7 x:=by rfl)(c:Mp X.env.scope x:=by first|exact Or.inl rfl|exact Or.inr (Or.inl rfl)|exact Or.inr<|Or.inr rfl)(a:(x==("__debug__":c5))=bt:=by decide)(d:(x==("__classdict__":c5))=bt:=by decide):PE X (.Name x pos) (tVar i):=DN h c a d
end
theorem bE{A B:Prop}(h:B):if bt=a9 then A else B:=by rw[n6 LQ];exact h
theorem bH{A B:Prop}(h:A):if a9=a9 then A else B:=by rw[n5 rfl];exact h
section
variable{κ:Type}[DecidableEq κ]
noncomputable def vq(kvs:List (κ×V))(k:κ):Option V:=(kvs.find? λv=>decide<|v.1=k).map (·.2)
noncomputable def putK(kvs:List (κ×V))(k:κ)(v:V):List (κ×V):=if (kvs.any λa=>decide<|a.1=k)=a9 then kvs.map (λa=>if a.1=k then(a.1,v)else a)else kvs++[(k,v)]
theorem vp{p:κ×V}{r:List (κ×V)}{k:κ}(e:p.1=k):vq (p::r) k=a7 p.2:=by simp[vq,KC,e]
theorem pA{p:κ×V}{r:List (κ×V)}{k:κ}(e:¬p.1=k):vq (p::r) k=vq r k:=by simp[vq,KC,e]
theorem Bq.getD(r:Bq o u)(a:aM d d'):aM (o.getD d) (u.getD d'):=by
 cases o with
 |none=>cases u with
  |none=>exact a
  |some _=>exact(show False from r).elim
 |some _=>cases u with
  |none=>exact(show False from r).elim
  |some _=>exact r
theorem KV.val{kvs:List (κ×V)}{vs:List (κ×c4)}(r:KV kvs vs)(k:κ):Bq (vq kvs k) (valueAt vs k):=by
 unfold KV at r;induction r with
 |nil=>exact True.intro
 |@cons p q ps qs h t i =>
  obtain⟨h1,h2⟩:=h;by_cases e:p.1=k;have a:q.1=k:=h1.symm.trans e;have b:valueAt (q::qs) k=a7 q.2:=by simp[valueAt,KC,a]
  rw[vp e,b];exact h2;have a:¬q.1=k:=λz=>e<|h1.trans z;have b:valueAt (q::qs) k=valueAt qs k:=by simp[valueAt,KC,a]
  rw[pA e,b];exact i
theorem KV.any(r:KV kvs vs)(k:κ):(kvs.any λkv=>decide<|kv.1=k)=vs.any λkv=>decide (kv.1=k):=by
 unfold KV at r;induction r with
 |nil=>rfl
 |cons h t i=>rw[List.any_cons,List.any_cons,i,h.1]
theorem KV.repl(r:KV kvs vs)(k:κ)(a:aM y u):KV (kvs.map λkv=>if kv.1=k then(kv.1,y)else kv) (vs.map λkv=>if kv.1=k then(kv.1,u)else kv):=by
 unfold KV at r ⊢;induction r with
 |nil=>exact .nil
 |@cons p q ps qs h t i=>rw[C0,C0];refine .cons ?_ i;obtain⟨h1,h2⟩:=h;by_cases e:p.1=k;rw[n5 e,n5<|h1.symm.trans e];exact⟨h1,a⟩;rw[n6 e,n6<|λz=>e<|h1.trans z];exact⟨h1,h2⟩
theorem KV.put(r:KV kvs vs)(k:κ)(i:aM y u):KV (putK kvs k y) (stored vs k u):=by unfold putK stored;rw[r.any k];by_cases e:(vs.any λv=>decide<|v.1=k)=a9;rw[n5 e,n5 e];exact r.repl k i;rw[n6 e,n6 e];exact Paired.snoc r ⟨rfl,i⟩
theorem KV.length(r:KV kvs vs):kvs.length=vs.length:=Paired.length r
end
theorem Ar(r:aM (kV k) u):(bT P w).is k u=a9:=by
 cases k with
 |inl i=>obtain⟨t,e⟩:=(show ∃t,u=Value.int i t from r);subst e;exact uB P w i t
 |inr x=>obtain⟨t,e⟩:=(show ∃t,u=Value.str x t from r);subst e;exact uA P w x t
theorem sO:∀{ks:List C7}{us:List c4},aC (ks.map kV) us->ItemsAre (bT P w) ks us
 | [],_,r=>by rw[List.map_nil]at r;cases r;exact .nil
 |k::ks,_,r=>by
  rw[C0]at r;cases r with
  |cons h t=>exact .cons (Ar h)<|sO t
noncomputable abbrev KT(H:Hp):List (List C7×V)->List (List C7×c8×c4)->Prop:=Paired λp q=>p.1=q.1/\H q.2.1=a7 (.tup<|p.1.map kV)/\aM p.2 q.2.2
theorem KT.val{H:Hp}{kvs:List (List C7×V)}{xs:List (List C7×c8×c4)}(r:KT H kvs xs)(k:List C7):Bq (vq kvs k) ((atKey xs k).map (·.2)):=by
 induction r with
 |nil=>exact True.intro
 |@cons p q ps qs h t i =>
  obtain⟨h1,_,h2⟩:=h;by_cases e:p.1=k;have a:q.1=k:=h1.symm.trans e;have b:atKey (q::qs) k=a7 q.2:=by simp[atKey,KC,a]
  rw[vp e,b];exact h2;have a:¬q.1=k:=λz=>e<|h1.trans z;have b:atKey (q::qs) k=atKey qs k:=by simp[atKey,KC,a]
  rw[pA e,b];exact i
section
variable{P:c7}{w:c6}{H:Hp}{h:d5}{a:c8}
theorem Hw(ok:C8 P w H h)(e:Rd H a u):cL P w H h a u:=e.ok ok
theorem Go(ok:C8 P w H h)(e:Rd H a (.dK kvs)):kvs.length<=sizeLine/\(a==d6)=bt/\∃vs,KV kvs vs/\h.DictOf (bT P w) a vs:=show cL P w H h a (.dK kvs)from Hw ok e
theorem Gp(ok:C8 P w H h)(e:H a=a7 (.dK kvs)):kvs.length<=sizeLine/\(a==d6)=bt/\∃vs,KV kvs vs/\h.DictOf (bT P w) a vs:=Go ok<|.inl e
theorem Ee(ok:C8 P w H h)(e:H a=a7 (.tup<|ks.map kV)):(tupleKind<|bT P w).is h ks a:=by
 obtain⟨_,its,r,o,h1,h2,⟨n,b⟩,_⟩:=(show cL P w H h a (.tup<|ks.map kV)from ok a _ e)
 exact⟨o,its.toArray,n,h1,h2,b,by simpa using sO r⟩
theorem JD(ok:C8 P w H h)(e:Rd H a (.dT kvs)):kvs.length<=sizeLine/\(a==d6)=bt /\∃xs,KT H kvs xs/\h.DictOfH (tupleKind<|bT P w) a xs:=by
 obtain⟨z,y,xs,r,o,es,i,h1,h2,f,g,k⟩:=(show cL P w H h a (.dT kvs)from Hw ok e)
 refine⟨z,y,xs,r,o,es,i,h1,h2,f,g,λx b=>?_,k⟩;have c:∀{l:List (List C7×V)}{m:List (List C7×c8×c4)},KT H l m->∀x∈m,(tupleKind<|bT P w).is h x.1 x.2.1:=by
  intro l m q;induction q with
  |nil=>intro x b;exact nomatch b
  |@cons p q ps qs d t j=>intro x b;rcases z9.mp b with e|b;subst e;exact Ee ok (by rw[<-d.1];exact d.2.1);exact j x b
 exact c r x b
end
noncomputable def DGet(H:Hp)(a:c8)(y:V)(r:Option V):Prop:=(∃s k,Rd H a (.dK s)/\y=kV k/\r=vq s k)\/∃s k b,Rd H a (.dT s)/\y=.ref b/\H b=a7 (.tup<|k.map kV)/\r=vq s k
section
variable{X:Cx}{pins:List (c8×c9)}{σ:St}{H:Hp}{s:e9}{a:c8}{y v:V}{u r:c4}{o:Option V}{A:e8}{E:c4->e9->Prop}
theorem p8.big(I:p8 X pins σ H s):d6<s.heap.objs.size:=by have h:d8<s.heap.objs.size:=(I.mod.glob.keeps I.bk).lt;exact Nat.lt_trans (by decide) h
theorem AS(x:A.units+1<k4)(I:p8 X pins σ H s)(g:DGet H a y (a7 v))(n:aM y u)(h:∀w' s',p8 X pins σ H s'->aM v w'->Q w' s'):f9 (i3 X.prog X.w) A (l4 (.ref a) u) Q E s:=by
 rcases g with⟨m,k,e,f,l⟩|⟨m,k,b,e,f,L,l⟩
 subst f;obtain⟨z,q,vs,r,d⟩:=Go I.hok e;obtain⟨w',j,c⟩:=Bq.some_of (v:=v) (o:=valueAt vs k) (by rw[l];exact r.val k);exact wpAny_getItem_of (Ar n) d.mapOf j<|h w' _ (I.tok _) c;subst f;cases (show u=F6 b from n);obtain⟨z,q,xs,r,d⟩:=JD I.hok e;obtain⟨w',j,c⟩:=Bq.some_of (v:=v) (o:=(atKey xs k).map (·.2)) (by rw[l];exact r.val k);obtain⟨p,t,i⟩:=Le.mp j;refine wpAny_getItem_heap (tupleKind_room_in1 x) (Ee I.hok L) d t ?_;rw[i];exact h w' _ (I.tok _) c
theorem AR(I:p8 X pins σ H s)(m:Nw (H a))(hs:Lm a s.heap h')(i:∃q,h'.get? a=a7 q)(n:cL X.prog X.w (v4 H a ob) h' a ob):p8 X pins σ (v4 H a ob) { s with heap:=h',toks:=t' }:=I.write (x:=a) (e:=a) m (.inl rfl) (λb q d z=>(hs.2 b d).trans z) i n
theorem Eg(z:kvs.length<=sizeLine)(d:(a==d6)=bt)(r:KV kvs vs)(k:h'.DictOf (bT P w) a vs):cL P w H' h' a (.dK kvs):=⟨z,d,vs,r,k⟩
end
noncomputable def GT(i:h8):Prop:=∀b a,subscripted i bt b a=operate [b,a] (l4 b a)
theorem yY{prog:c7}{w:c6}{A:e8}{E:c4->e9->Prop}{s:e9}{env:Env}{a e:h8}{p:i4}{T id:String}{Q:c4->e9->Prop}(l:typeLookup (.type T) "__getitem__" = pure (a7<|.builtin id)) (hs:GT e)(h:f9 (i3 prog w) A (eval a env) (λo s₁=>f9 (i3 prog w) A (eval e env) (λi s₂=>s₂.TypeIs o T/\f9 (i3 prog w) A (l4 o i) Q E s₂) E s₁) E s):f9 (i3 prog w) A (eval (.Subscript a e p) env) Q E s:=by
 refine Subscript_<|E5 h (λo s₁ d=>E5 d (λi s₂ b=>?_) λ_ _ x=>x) λ_ _ x=>x;obtain⟨g,b⟩:=b;unfold subscriptTail;refine p6 ?_;rw[getitemInPython_of_ne g.not_modules];refine p6<|LP g l ?_;have n:f9 (i3 prog w) A (subscripted e bt o i) (λr c=>f9 (i3 prog w) A (letTemporaryGo a o r >>= λ_=>pure r) Q E c) E s₂:=by rw[hs o i];exact wpAny_operating<|E5 b (λr c f=>p6<|wpAny_letTemporaryGo<|q9 f) λ_ _ x=>x
 first
  |exact q9 (p6 n)
  |exact p6 (q9 (p6 n))
  |exact p6 n
theorem uT(I:p8 X pins σ H s)(g:DGet H a y o):s.TypeIs (.ref a) "dict":=by
 rcases g with⟨c,k,e,_,_⟩|⟨c,k,b,e,_,_,_⟩
 obtain⟨_,_,vs,_,d⟩:=Go I.hok e;exact d.typeIs;obtain⟨_,_,xs,_,d⟩:=JD I.hok e;exact d.typeIs
noncomputable def tDGet(d t:TE):TE:=λσ H Q=>d σ H λx c=>t σ c λy b=>∃a v,x=.ref a/\DGet b a y (a7 v)/\Q v b
section
variable{X:Cx}{o i e value:h8}{pos pos' tpos:i4}{td ty tv:TE}
theorem ET(l:X.A.units+1<k4)(B:PE X o td)(hi:PE X i ty)(hs:GT i):PE X (.Subscript o i pos) (tDGet td ty):=by intro p s σ H Q I h;refine yY PySem.F.slot_dict_getitem.lookup hs<|ve (B p s σ H _ I h) ?_;rintro u t ⟨x,c,f,r,q⟩;refine ve (hi p t σ c _ f q) ?_;rintro w z ⟨y,d,e,n,a,v,k,g,m⟩;subst k;obtain rfl:u=F6 a:=r;exact⟨uT e g,AS l e g n λY C j b=>⟨v,d,j,b,m⟩⟩
end
theorem De(h:d5)(d:d6<h.objs.size):cL P w H (h.push { cls:=.type "dict",data:=.dict #[] }) h.objs.size (.dK []):=⟨w5 _,beq_eq_false_iff_ne.mpr<|z8<|w9 d,[],.nil,Heap.DictOf.new h⟩
noncomputable def Hj:TE:=λ_ H Q=>∀p,H p=a8->Q (.ref p) (v4 H p<|.dK [])
section
variable{X:Cx}{pos:i4}
theorem BV:PE X (.Dict [] [] pos) Hj:=λp s σ H Q I h =>
 wpAny_Dict_empty ⟨.ref s.heap.objs.size,_,I.laid (a:=s.heap.objs.size) (o:=.dK []) (t':=s.toks) (λ_ _ q=>v5 _ q) (u6 _)<|De s.heap I.big,rfl,h _<|I.hok.fresh<|u6 _⟩
end
end L2
namespace DL
open PySem
theorem iR(env:Env):∀(names:List (c5×k8)) (acc:List (c5×c8)),(∀p∈names,p.2=Kp->∃c,env.cells.lookup p.1=a7 c) ->∃cl,(forIn (m:=Sem) names acc λ(p:c5×k8) (r:List (c5×c8)) =>
    if (p.2==Kp)=a9 then(do let a <-cellOf env p.1;pure (Oi<|(p.1,a)::r))else pure (Oi r))=pure cl /\
   (∀z c,cl.lookup z=a7 c->acc.lookup z=a7 c\/env.cells.lookup z=a7 c) /\
   (∀z c,acc.lookup z=a7 c->∃c',cl.lookup z=a7 c') /\
   (∀p∈names,p.2=Kp->∃c,cl.lookup p.1=a7 c)
 | [],acc,_=>⟨acc,rfl,λ_ _ h=>.inl h,λz c h=>⟨c,h⟩,λ_ h=>nomatch h⟩
 |(n,k)::aY,acc,hyp=>by
  by_cases hk:k=Kp;subst hk;obtain⟨c0,hc0⟩:=hyp (n,.free) C6 rfl;obtain⟨cl,e,h1,h2,h3⟩:=iR env aY ((n,c0)::acc) λp hp=>hyp p<|A0 _ hp;have ce:cellOf env n=pure c0:=by unfold cellOf;rw[hc0]
  have own:∃c',cl.lookup n=a7 c':=h2 n c0 (by simp[Md]);refine⟨cl,?_,λz c hz=>?_,λz c hz=>?_,λp hp hf=>?_⟩;rw[List.forIn_cons];simp only[p5,o7,ce,pure_bind];exact e;rcases h1 z c hz with q|q;rw[Md]at q;by_cases hz':(z==n)=a9;rw[hz']at q;have:z=n:=by simpa using hz'
  subst this;cases q;exact .inr hc0;have hz'':(z==n)=bt:=by simpa using hz'
  rw[hz'']at q;exact .inl q;exact .inr q;by_cases hz':z=n;subst hz';exact own;refine h2 z c ?_;rw[Md];have hz'':(z==n)=bt:=by simpa using hz'
  rw[hz''];exact hz;rcases z9.mp hp with rfl|hp;exact own;exact h3 p hp hf;have hb:(k==Kp)=bt:=by simpa using hk
  obtain⟨cl,e,h1,h2,h3⟩:=iR env aY acc λp hp=>hyp p<|A0 _ hp;refine⟨cl,?_,h1,h2,λp hp hf=>?_⟩;rw[List.forIn_cons];simp only[hb,A7,o6,pure_bind];exact e;rcases z9.mp hp with rfl|hp;exact n9 hf hk;exact h3 p hp hf
theorem kU(h:∀p∈scope.names,p.2=Kp->∃c,env.cells.lookup p.1=a7 c):∃cl,closureFor scope env=pure cl/\(∀z c,cl.lookup z=a7 c->env.cells.lookup z=a7 c)/\(∀p∈scope.names,p.2=Kp->∃c,cl.lookup p.1=a7 c):=by obtain⟨cl,e,h1,h2,a⟩:=iR env scope.names [] h;refine⟨cl,?_,λz c b=>?_,a⟩;unfold closureFor;simp only[bind_pure];exact e;rcases h1 z c b with q|q;simp at q;exact q
theorem fZ{env:Env}:∀{names:List (c5×k8)}{x:c5}{k:k8},(names.map λ(p:c5×k8)=>if (p.2==Kp&&env.scope.kind==.function&&env.kindOf p.1==a7 .cell)=a9 then(p.1,L5)else(p.1,p.2)).lookup x=a7 k ->(names.lookup x=a7 k\/(k=L5/\names.lookup x=a7 .free))
 | [],_,_,h=>by simp at h
 |(n,j)::aY,x,k,h=>by
  have ih:=@fZ env aY x k;rw[C0,Md]at h;by_cases hx:(x==n)=a9;have hl:List.lookup x ((n,j)::aY)=a7 j:=by rw[Md,hx]
  rw[hl];by_cases hc:(j==Kp&&env.scope.kind==.function&&env.kindOf n==a7 .cell)=a9;simp only[hc,o7,hx]at h;cases h;have:j=Kp:=by simp only[C5]at hc;simpa using hc.1.1
  exact .inr ⟨rfl,by rw[this]⟩;simp only[hc,A7,o6,hx]at h;exact .inl h;have hx':(x==n)=bt:=by simpa using hx
  have hl:List.lookup x ((n,j)::aY)=List.lookup x aY:=by rw[Md,hx']
  rw[hl];refine ih ?_;by_cases hc:(j==Kp&&env.scope.kind==.function&&env.kindOf n==a7 .cell)=a9;simp only[hc,o7,hx']at h;exact h;simp only[hc,A7,o6,hx']at h;exact h
section
variable{prog:c7}{w:c6}{A:e8}{R:Result->e9->Prop}{s:e9}
theorem pD(s:List h8)(env:Env):compTests s env =
  (forIn s a9 λc r=>if r=a9 then do let ok <-isTrue c env (eval c env);pure (Oi ok)else pure (Oi r)):=by unfold compTests;simp only[bind_pure]
theorem yb(J:Nat->e9->Prop)(F:c4->e9->Prop)(b:∀e s',F e s'->notedBy (i3 prog w) A env (λe s'=>R (.error e) s') e s')(M:∀n s,J n s->f9 (i3 prog w) A (j2 it) (λr s1=>match r with
   |none=>R (.ok .next) s1
   |some v=>f9 (i3 prog w) A (j3 target it v) (λ_ s2=>f9 (i3 prog w) A (j0 target env v) (λ_ s3 =>
     f9 (i3 prog w) A (compTests ifs env) (λok s4 =>
      if ok=a9 then f9 (i3 prog w) A (eval elt env) (λy s5=>f9 (i3 prog w) A (call (.builtin "list.append") [acc,y]) (λ_ s6=>∃m,m<n/\J m s6) F s5) F s4
      else ∃m,m<n/\J m s4) F s3) F s2) F s1) F s)
  (n:Nat) (h:J n s):k6 (i3 prog w) A (.compLoop (.ListComp elt [⟨target,iter,ifs,0⟩] scope pos) 0 it acc env) R s:=by
 refine codeAny_loop rfl J (λn s d=>?_) n h;show f9 _ A ((compTurn (.ListComp elt [⟨target,iter,ifs,0⟩] scope pos) 0 it acc env).onRaise<|λx=>do noteFrame x env;theTreesLotGoes x) _ _ s;refine wpAny_noted ?_;rw[compTurn_list];refine p6<|wpAny_standAt<|p6<|E5 (M n s d) (λr s1 h1=>?_) b;cases r with
 |none=>exact q9 h1
 |some v =>
  refine p6<|E5 h1 (λ_ s2 h2=>?_) b;refine p6<|E5 h2 (λ_ s3 a=>?_) b;rw[pD]at a;refine p6<|E5 a (λok s4 f=>?_) b;cases ok with
  |false=>exact q9 ⟨rfl,f⟩
  |true=>exact p6<|p6<|E5 f (λy s5 k=>p6<|E5 k (λ_ s6 c=>q9<|q9 ⟨rfl,c⟩) b) b
end
end DL
namespace L2
open PySem PySem.Spec PyProof.Rows DL
theorem kM{env:Env}:∀{names:List (c5×k8)}{x:c5},names.lookup x=a7 .free ->((names.map λ(p:c5×k8)=>if (p.2==Kp&&env.scope.kind==.function&&env.kindOf p.1==a7 .cell)=a9 then(p.1,L5)else(p.1,p.2)).lookup x=a7 .cell \/ (names.map λ(p:c5×k8)=>if (p.2==Kp&&env.scope.kind==.function&&env.kindOf p.1==a7 .cell)=a9 then(p.1,L5)else(p.1,p.2)).lookup x=a7 .free)
 | [],_,h=>by simp at h
 |(n,j)::aY,x,h=>by
  have ih:=@kM env aY x;rw[C0,Md];rw[Md]at h;by_cases hc:(j==Kp&&env.scope.kind==.function&&env.kindOf n==a7 .cell)=a9;by_cases hx:(x==n)=a9;simp[hc,hx];have hx':(x==n)=bt:=by simpa using hx
  rw[hx']at h;simp only[hc,o7,hx'];exact ih h;by_cases hx:(x==n)=a9;rw[hx]at h;cases h;right;simp only[hc,A7,o6,hx];have hx':(x==n)=bt:=by simpa using hx
  rw[hx']at h;simp only[hc,A7,o6,hx'];exact ih h
noncomputable def z7(X:Cx)(N':List c5)(scope:f7)(l:List (c5×c8))(s₀:e9)(H₀:Hp)(ex:List c8):Cx:={ X with N:=N',s₀:=s₀,H₀:=H₀,env:=compEnvC scope l s₀.heap.objs.size X.env,outer:=X.stack,ex:=ex,fn:=λx=>scope.names.lookup x==a7 .cell,pn:=[],xe:=λ_ _=>False }
structure BlkSc(X:Cx)(N':List c5)(nt:Nat)(js:List Nat)(scope:f7):Prop where
 kind:scope.kind=.function
 nocell:∀y∈scope.names,y.2≠.cell
 loc:∀y∈scope.names,y.2=.local->scope.names.lookup y.1=a7 .local
 free:∀y∈scope.names,y.2=.free->(X.env.kindOf y.1=a7 .cell\/X.env.kindOf y.1=a7 .free)
 len:N'.length=nt+js.length
 fr:∀(k j:Nat),js[k]?=a7 j->∃x,N'[nt+k]?=a7 x/\X.N[j]?=a7 x/\scope.names.lookup x=a7 .free/\(X.env.kindOf x=a7 .cell\/X.env.kindOf x=a7 .free)
noncomputable def bst(t:Nat)(s:List Nat)(σ:St):St:=ND t a8++s.map λj=>(σ[j]?).join
theorem Bb(t:Nat)(s:List Nat)(σ:St):(bst t s σ).length=t+s.length:=by simp[bst]
theorem GD(h:(bst nt js σ)[i]?=a7 (a7 v)):∃k j,i=nt+k/\js[k]?=a7 j/\σ[j]?=a7 (a7 v):=by
 unfold bst at h;by_cases hi:i<nt;rw[G9 (by simpa using hi),OR]at h;simp[hi]at h;rw[KP (by simpa using Lu.mp hi),OL,D0]at h;cases e:js[i-nt]? with
 |none=>rw[e]at h;cases h
 |some j =>
  rw[e]at h;refine⟨i-nt,j,by lia,e,?_⟩;have h':(σ[j]?).join=a7 v:=by simpa using h
  cases q:σ[j]? with
  |none=>rw[q]at h';cases h'
  |some o=>rw[q]at h';exact o8 a7 h'
noncomputable def Ls(X:Cx)(i:List h8)(t:TT):Prop:=∀(p:List (c8×c9)) (s:e9) (σ:St) (H:Hp) (Q:Bool->Hp->Prop),p8 X p σ H s->t σ H Q->f9 (i3 X.prog X.w) X.A (compTests i X.env) (TP X p σ Q) X.xe s
noncomputable def ttNil:TT:=λ_ H Q=>Q a9 H
theorem EJ:Ls X [] ttNil:=λp s σ H Q I h=>by rw[pD];exact wpAny_tests_nil ⟨H,I,h⟩
theorem EI(h:PT X c t):Ls X [c] t:=λp s σ H Q I q=>by rw[pD];exact wpAny_tests_one<|h p s σ H Q I q
noncomputable def O5(t:Nat)(s:List Nat)(wi:TI)(g:TG)(tt:TT)(te:TE):TE:=λσ H Q=>wi σ H λJ e=>∃W:Nat->Nat->List V->St->Hp->Prop,(∃m,W 0 m [] (bst t s σ) e) /\∀i m vs τ H,W i m vs τ H->(J.stop i H/\∀p,H p=a8->Q (.ref p) (v4 H p<|.lst vs)) \/(J.go i H/\∀x H',J.yld i H x H'->g x τ H' λa f=>tt a f λb d=>if b=a9 then te a d λy h=>vs.length<sizeLine/\∃c,c < m/\W (i+1) c (vs++[y]) a h else ∃c,c < m/\W (i+1) c vs a d)
noncomputable abbrev cS(its:List c4)(k:Nat):c9:={ cls:=.type "list",data:=.seq its.toArray k }
section
variable{X:Cx}{pins:List (c8×c9)}{σ:St}{H:Hp}{s:e9}
theorem p8.blkOk(B:BlkSc X N' nt js scope)(I:p8 X pins σ H s)(a:∀z c,cl.lookup z=a7 c->X.env.cells.lookup z=a7 c) (f:∀p∈scope.names,p.2=Kp->∃c,cl.lookup p.1=a7 c) (i:∀b∈fp,ym X pins H b) (j:∀b∈fp,b<s.heap.objs.size):(z7 X N' scope cl { s with heap:=s.heap.push ob } H<|s.heap.objs.size::fp).Ok:=by
 have J:p8 X pins σ H { s with heap:=s.heap.push ob }:=I.kept (t':=s.toks) λb o e=>v5 _ e;have ltc:∀z c,cl.lookup z=a7 c->c<s.heap.objs.size:=λz c e=>by obtain⟨v,q⟩:=I.cell z c<|a z c e;exact q.lt
 have C:(s.heap.push ob).objs.size=s.heap.objs.size+1:=K0 ..;refine⟨I.ok.mod,B.kind,I.ok.glob,I.ok.blt,u6 _,λy z c h1 h2=>I.ok.inj y z c (a y c h1)<|a z c h2,λy O=>?_,λy c h=>?_,I.ok.hd,I.ok.frames,.inl rfl,λb d=>?_,λb o e=>?_,?_,λb o e d=>?_,λb d=>?_,J.stack,I.stkFree⟩;have l:scope.names.lookup y=a7 .free:=by
  rcases O with O|O;rcases fZ (env:=X.env) (names:=scope.names) (x:=y) (k:=.cell) O with q|⟨_,q⟩
  exact n9 rfl<|B.nocell _<|LR q;exact q;rcases fZ (env:=X.env) (names:=scope.names) (x:=y) (k:=.free) O with q|⟨q,_⟩
  exact q;cases q
 exact f (y,.free) (LR l) rfl;exact n9 rfl<|B.nocell _<|LR<|beq_iff_eq.mp<|show (scope.names.lookup y==a7 L5)=a9 from h;show b≠(s.heap.push ob).objs.size/\∀x c,cl.lookup x=a7 c->c≠b;rw[C];rcases z9.mp d with rfl|d;exact⟨w9<|Kr _,λx c e=>w9<|ltc x c e⟩;exact⟨w9<|Mh<|j b d,λx c e=>(i b d).2.2.2.2.1 x c<|a x c e⟩;exact⟨v5 _ (I.bs b o e).1,(I.bs b o e).2⟩;show X.base.objs.size<=(s.heap.push ob).objs.size;rw[C];exact Nat.le_succ_of_le<|B9 I.ok.bsz I.sz;rcases z9.mp d with rfl|d;exact n9 (v7 (I.bs _ o e).1)<|D8 _;rcases(i b d).2.2.2.1 with z|z;exact I.ok.noex b o e z;exact n9 (G0 (v7 (I.ok.bs b o e).1) z)<|D8 _;intro m;have g:=I.stkSub b m;rcases z9.mp d with rfl|d;rcases z9.mp g with q|q;exact n9 I.lt (by rw[<-q];exact D8 _);exact I.nofs (u6 _) q;rcases z9.mp g with q|q;exact(i b d).2.1 q;exact(i b d).2.2.1 q
theorem p8.blkStart(B:BlkSc X N' nt js scope)(I:p8 X pins σ H s)(a:∀z c,cl.lookup z=a7 c->X.env.cells.lookup z=a7 c) (f:∀p∈scope.names,p.2=Kp->∃c,cl.lookup p.1=a7 c) (J:∀b∈fp,ym X pins H b) (m:∀b∈fp,b<s.heap.objs.size)(g:∀b o,(s.heap.push<|cS [] 0).get? b=a7 o->h1.get? b=a7 o) (K:h1.Ns (s.heap.push<|cS [] 0).objs.size mm):p8 (z7 X N' scope cl { s with heap:=s.heap.push (cS [] 0) } H<|s.heap.objs.size::fp) [(s.heap.objs.size,cS [] 0)] (bst nt js σ) H { s with heap:=h1,toks:=tk }:=by
 have d:∀b o,s.heap.get? b=a7 o->h1.get? b=a7 o:=λb o e=>g b o<|v5 _ e;have C:(s.heap.push<|cS [] 0).objs.size=s.heap.objs.size+1:=K0 ..;refine⟨I.blkOk B a f J m,rfl,I.bare,Un.kept g,⟨mm,K,λi x v D E T=>?_⟩,λx c e=>?_,?_,λx c e=>I.freeC x c<|a x c e,λp N=>?_,I.hok.kept d,?_⟩;obtain⟨k,j,rfl,L,t⟩:=GD E;obtain⟨S,Q,R,A,y⟩:=B.fr k j L;have F:x=S:=A6<|D.symm.trans Q;subst F;obtain⟨W,M,n⟩:=I.loc;have w:Mp X.env.scope x:=y.elim (λz=>.inr<|.inl z) λz=>.inr<|.inr z;obtain⟨u,r,h⟩:=n j x v R t w;refine⟨u,r,?_⟩;rcases h with⟨q,_⟩|⟨q,c,G,l⟩
 rcases y with z|z<;>(rw[q]at z;cases z)
 obtain⟨U,O⟩:=f (x,.free) (LR A) rfl;have:U=c:=A6<|(a x U O).symm.trans G;subst this;exact .inr ⟨kM (env:=X.env) A,U,O,l.keeps d⟩;obtain⟨v,q⟩:=I.cell x c<|a x c e;exact⟨v,q.keeps d⟩;exact I.hok.fresh (by show s.heap.objs.size<=(s.heap.push<|cS [] 0).objs.size;rw[C];exact MY _);have e:p=(s.heap.objs.size,cS [] 0):=by simpa [z7]using N
 subst e;refine⟨g _ _<|z6 _ rfl,I.hok.fresh<|u6 _,?_,?_,λv z=>by cases z⟩;show s.heap.objs.size≠(s.heap.push<|cS [] 0).objs.size;rw[C];exact w9<|Kr _;intro P;rcases z9.mp (I.stkSub _ P)with q|q;exact n9 I.lt (by rw[<-q];exact D8 _);exact I.nofs (u6 _) q;rw[Bb];exact B.len.symm
theorem p8.blkEnd(I:p8 X pins σ H s)(E:∀b∈fp,ym X pins H b)(a:p8 (z7 X N' scope cl { s with heap:=s.heap.push (cS [] 0) } H<|s.heap.objs.size::fp) [(s.heap.objs.size,cS its k)] τ H' s')(M:aC vs its) (G:vs.length<=sizeLine) (T:Lm (s.heap.push<|cS [] 0).objs.size s'.heap h'):p8 X pins σ (v4 H' s.heap.objs.size<|.lst vs) { s' with heap:=h' }:=by
 have l:(s.heap.push<|cS [] 0).objs.size=s.heap.objs.size+1:=K0 ..;have C:s.heap.objs.size≠(s.heap.push<|cS [] 0).objs.size:=by rw[l];exact w9<|Kr _
 obtain⟨L,D,_⟩:=a.pin (s.heap.objs.size,cS its k) (by simp[z7]);have i:s'.heap.get? s.heap.objs.size=a7 (cS its k):=L;have f:H' s.heap.objs.size=a8:=D;have j:H' (s.heap.push<|cS [] 0).objs.size=a8:=a.free;have u:Un (Kh X.stack) (s.heap.objs.size::fp) H H' (s.heap.push<|cS [] 0) s'.heap:=a.base;have F:∀b o,s.heap.get? b=a7 o->b≠s.heap.objs.size/\b≠(s.heap.push<|cS [] 0).objs.size:=λb o e=>by have:=v7 e;exact⟨w9 this,by rw[l];exact w9<|Mh this⟩
 have p:∀b o,s.heap.get? b=a7 o->(s.heap.push<|cS [] 0).get? b=a7 o:=λb o e=>v5 _ e;have g:∀b o,s.heap.get? b=a7 o->b∉fp->b∉s.heap.objs.size::fp:=λb o e x J=>by rcases z9.mp J with q|q;exact(F b o e).1 q;exact x q
 refine I.call' (s':={ s' with heap:=h' }) (ch:=fp) a.os ⟨λb o e n d x=>?_,λb o e n d x=>?_,λb o e n x=>?_,λb o e x=>?_,λb xs e=>?_,λb o w e=>?_,λb ps e=>?_⟩ (λb w q=>?_) a.bare λb d=>?_;exact(T.2 b (F b o e).2).trans<|u.keep b o (p b o e) n d<|g b o e x;obtain⟨N,z⟩:=u.slot b o (p b o e) n d<|g b o e x;exact⟨N,(T.2 b (F b o e).2).trans z⟩;rw[am (F b o e).1];exact u.free b o (p b o e) n<|g b o e x;obtain⟨K,z⟩:=u.there b o (p b o e)<|g b o e x;exact⟨K,(T.2 b (F b o e).2).trans z⟩;have z:=u.tups b xs e;rw[am<|ae z f];exact z;have z:=u.frzs b o w e;rw[am<|ae z f];exact z;obtain⟨m,z⟩:=u.tbls b ps e;exact⟨m,by rw[am<|ae z f];exact z⟩;by_cases d:b=s.heap.objs.size;subst d;rw[aK]at q;cases q;exact⟨G,its,k,M,(T.2 _ C).trans i⟩;rw[am d]at q;refine(a.hok b w q).stay (λc v h r=>(T.2 c ?_).trans r) (λc z=>by rw[am<|ae z f];exact z) λc xs z=>by rw[am<|ae z f];exact z
 rcases h with rfl|h;exact ae q j;exact ae h j;obtain⟨_,t,_,y,A,B⟩:=E b d;exact⟨y,t,A,B⟩
theorem Ae{C tg O:h8}{N:List h8}{scope:f7}{bk:i4}{N':List c5}{l:List (c5×c8)}{J:It}{fp:List c8}{it:c8}{tn:Nat->d5->Prop}{g:TG}{tt:TT}{te:TE}{Q:VK}{W:Nat->Nat->List V->St->Hp->Prop}{R:Result->e9->Prop}{s0:e9}{H0:Hp}{D:c8} (hc:X.calm=a9)(hg:PG (z7 X N' scope l s0 H0<|D::fp) tg g) (ht:Ls (z7 X N' scope l s0 H0<|D::fp) N tt) (he:PE (z7 X N' scope l s0 H0<|D::fp) C te)(T:Turn X.prog X.w X.K tg J fp it tn) (M:D∉fp)(U:∀i m vs τ H,W i m vs τ H->(J.stop i H/\∀p,H p=a8->Q (.ref p) (v4 H p<|.lst vs)) \/ (J.go i H/\∀x H',J.yld i H x H'->g x τ H' λτ2 H2=>tt τ2 H2 λb f=>if b=a9 then te τ2 f λy H4=>vs.length<sizeLine/\∃m',m' < m/\W (i+1) m' (vs++[y]) τ2 H4 else ∃m',m' < m/\W (i+1) m' vs τ2 f))(t:∀b∈fp,b≠s0.heap.objs.size/\b∉Kh X.stack/\∀x c,l.lookup x=a7 c->c≠b) (L:D≠s0.heap.objs.size) (aD:D∉Kh X.stack) (as:∀x c,l.lookup x=a7 c->c≠D)(aj:∀τ H' s' vs its k,p8 (z7 X N' scope l s0 H0<|D::fp) [(D,cS its k)] τ H' s'->aC vs its->vs.length<=sizeLine->Q (.ref D) (v4 H' D<|.lst vs)->R (.ok .next) s')
  (m0:Nat) {s:St}{s3:e9}{f:Hp} (I3:p8 (z7 X N' scope l s0 H0<|D::fp) [(D,cS [] 0)] s f s3) (bm:tn 0 s3.heap) (al:∀b∈fp,f b=a8) (w0:W 0 m0 [] s f) :
  k6 (i3 X.prog X.w) X.A (.compLoop (.ListComp C [⟨tg,O,N,0⟩] scope bk) 0 (.ref it) (.ref D)<|compEnvC scope l s0.heap.objs.size X.env) R s3:=by
 have h:∀{ob:c9}{H':Hp},(∀b∈fp,H' b=a8)->∀b∈fp,ym (z7 X N' scope l s0 H0<|D::fp) [(D,ob)] H' b:=λ{ob H'} hn b d=>by
  obtain⟨a1,a2,a3⟩:=t b d;refine⟨hn b d,a1,a2,.inl<|A0 _ d,a3,λp j z=>?_⟩;have e:p=(D,ob):=by simpa [z7]using j
  subst e;exact M<|by rw[show D=b from z];exact d
 refine yb (λn s'=>∃i τ H' vs its k,p8 (z7 X N' scope l s0 H0<|D::fp) [(D,cS its k)] τ H' s'/\tn i s'.heap/\(∀b∈fp,H' b=a8)/\aC vs its/\vs.length<=sizeLine/\W i n vs τ H') (λ_ _=>False) (λ_ _ z=>z.elim) ?_ m0 ⟨0,s,f,[],[],0,I3,bm,al,.nil,w5 _,w0⟩;rintro n s' ⟨i,τ,H',vs,its,k,I',P,I,rv,hl,w'⟩;rcases U i n vs τ H' w' with⟨stop,q⟩|⟨go,S⟩
 refine ve (T.done (z7 X N' scope l s0 H0<|D::fp) rfl rfl rfl hc i _ s' τ H' (λ_ _=>False) I' (h I) P stop) ?_;rintro r s4 ⟨hr,I4⟩;subst hr;exact aj τ H' s4 vs its k I4 rv hl<|q D (I'.pin (D,cS its k)<|by simp[z7]).2.1;refine ve (T.item (z7 X N' scope l s0 H0<|D::fp) rfl rfl rfl hc i _ s' τ H' (λ_ _=>False) I' (h I) P go) ?_;rintro r s4 ⟨u,hr,h4⟩;subst hr;refine ve h4 ?_;rintro _ s5 ⟨x,H5,I5,r5,y5,B,an⟩;have ai:=I5.pinned (h an)<|T.obj _ _ B;refine ve (hg _ s5 τ H5 x u _ ai r5<|S x H5 y5) ?_;rintro _ s6 ⟨a,H6,I6,q6⟩;refine ve (ht _ s6 a H6 _ I6 q6) ?_;rintro ok s7 ⟨H7,Z,q7⟩;have F:∀{b:c8}{o:c9},b∈fp->s5.heap.get? b=a7 o->(b,o)∈(z7 X N' scope l s0 H0<|D::fp).pn++([(D,cS its k)]++jy fp s5.heap):=λd e=>E3 _<|E3 _<|gK d e;cases ok with
 |false =>
  obtain⟨m',hm,w7⟩:=(show ∃m',m' < n/\W (i+1) m' vs a H7 from q7)
  refine⟨m',hm,i+1,a,H7,vs,its,k,Z.unpinned,T.keep _ _ _ B λb d o e=>(Z.pin (b,o)<|F d e).1,λb d=>?_,rv,hl,w7⟩;obtain⟨o,e,_⟩:=T.obj _ _ B b d;exact(Z.pin (b,o)<|F d e).2.1
 |true =>
  refine ve (he _ s7 a H7 _ Z q7) ?_;rintro yv s8 ⟨y,Y,I8,r8,q8⟩;obtain⟨aS,m',hm,w8⟩:=q8;obtain⟨oD,fD,_⟩:=I8.pin (D,cS its k) (E3 _<|Ks _<|by simp);have E:Y D=a8:=fD;refine append_at (its:=its.toArray) (n:=k) oD (λh9 bl o9=>?_) (by rw[x3,<-rv.length];exact hl);have J8:p8 (z7 X N' scope l s0 H0<|D::fp) (jy fp s5.heap) a Y s8:=I8.pins_of λp j=>I8.pin p<|E3 _<|E3 _ j;have J9:p8 (z7 X N' scope l s0 H0<|D::fp) (jy fp s5.heap) a Y { s8 with heap:=h9 }:=J8.turned (t':=s8.toks) (it:=D) (λb o d e=>(bl.2 b d).trans e) E L (.inl C6) as λp j z=>by
   have aP:p∈jy fp s5.heap:=by simpa [z7]using j
   exact M<|by rw[<-z];exact(sw aP).1
  have G:∀{b:c8}{o:c9},b∈fp->s5.heap.get? b=a7 o->(b,o)∈(z7 X N' scope l s0 H0<|D::fp).pn++jy fp s5.heap:=λd e=>E3 _<|gK d e;refine⟨m',hm,i+1,a,Y,vs++[y],its++[yv],k+1,J9.pins_of λp j=>?_,T.keep _ _ _ B λb d o e=>(J9.pin (b,o)<|G d e).1,λb d=>?_,rv.append<|.cons r8 .nil,?_,w8⟩;have e:p=(D,cS (its++[yv])<|k+1):=by simpa using j
  subst e;refine⟨?_,E,L,aD,λv z=>by cases z⟩;rw[show cS (its++[yv]) (k+1)=({ cls:=.type "list",data:=.seq (its.toArray.push yv) (k+1) }:c9) by rw[List.push_toArray]];exact o9;obtain⟨o,e,_⟩:=T.obj _ _ B b d;exact(J9.pin (b,o)<|G d e).2.1;rw[z5];exact aS
end
section
variable{X:Cx}
theorem pe_lc{C N r:h8}{n:List h8}{scope:f7}{G:i4}{N':List c5}{nt:Nat}{js:List Nat}{wi:TI}{g:TG}{tt:TT}{te:TE}(B:BlkSc X N' nt js scope)(hc:X.calm=a9)(hi:PI X N r wi)(hg:∀cl s0 H0 ex,PG (z7 X N' scope cl s0 H0 ex) N g) (ht:∀cl s0 H0 ex,Ls (z7 X N' scope cl s0 H0 ex) n tt) (he:∀cl s0 H0 ex,PE (z7 X N' scope cl s0 H0 ex) C te)(hs:∀x,j6 r X.env x=pure x:=by intro _;rfl):PE X (.ListComp C [⟨N,r,n,0⟩] scope G) (O5 nt js wi g tt te):=by
 intro i s σ H Q I h;rw[eval_ListComp];obtain⟨cl,O,d,u⟩:=kU (scope:=scope) (env:=X.env) λp hp hf=>I.ok.has p.1<|B.free p hp hf;refine wpAny_comprehension_free (use:=a8) rfl hs O B.kind B.loc ?_;refine ve (hi i s σ H _ I h) λv s1 h1=>ve h1 λai a h2=>?_;obtain⟨it,P,tn,J,H2,e,j,T,U,M,W,⟨m0,w0⟩,L⟩:=h2;subst e;refine J7<|wpAny_newFunctionEnv B.nocell (by intro y hy;simp at hy) (λh1 D E=>?_) B.kind;have m:∀b∈P,b<a.heap.objs.size:=λb f=>by obtain⟨o,e,_⟩:=T.obj _ _ U b f;exact v7 e
 have Z:(a.heap.push<|cS [] 0).objs.size=a.heap.objs.size+1:=K0 ..;have F:∀b o,(a.heap.push<|cS [] 0).get? b=a7 o->h1.get? b=a7 o:=λb o e=>(E.2 b<|w9<|v7 e).trans<|v5 _ e;have I3:=j.blkStart (tk:=a.toks+([]:List (c5×c4)).length) B d u M m F D;have K:tn 0 h1:=T.keep _ _ _ U λb _ o e=>F b o<|v5 _ e;have S:a.heap.objs.size∉P:=λz=>D8 _<|m _ z;have V:a.heap.objs.size∉Kh X.stack:=λz=>by rcases z9.mp (j.stkSub _ z)with q|q;exact n9 j.lt (by rw[<-q];exact D8 _);exact j.nofs (u6 _) q
 have R:a.heap.objs.size≠(a.heap.push<|cS [] 0).objs.size:=by rw[Z];exact w9<|Kr _
 have ltc:∀z c,cl.lookup z=a7 c->c<a.heap.objs.size:=λz c e=>by obtain⟨v,q⟩:=j.cell z c<|d z c e;exact q.lt
 have t:∀b∈P,b≠(a.heap.push<|cS [] 0).objs.size/\b∉Kh X.stack/\∀x c,cl.lookup x=a7 c->c≠b:=λb f=>by refine⟨by rw[Z];exact w9<|Mh<|m b f,λz=>?_,λx c e=>(M b f).2.2.2.2.1 x c<|d x c e⟩;rcases z9.mp (j.stkSub b z)with q|q;exact(M b f).2.1 q;exact(M b f).2.2.1 q
 have l:k6 (i3 X.prog X.w) X.A (.compLoop (.ListComp C [⟨N,r,n,0⟩] scope G) 0 (.ref it) (.ref a.heap.objs.size)<|compEnvC scope cl (a.heap.push<|cS [] 0).objs.size X.env) (compPost (i3 X.prog X.w) X.A X.xe a8 (EP X i σ Q) (.ref a.heap.objs.size) (a.heap.push<|cS [] 0).objs.size) { a with heap:=h1,toks:=a.toks+([]:List (c5×c4)).length }:=by refine Ae (s0:={ a with heap:=a.heap.push (cS [] 0) }) (H0:=H2) (N':=N') (Q:=Q) hc (hg _ _ _ _) (ht _ _ _ _) (he _ _ _ _) T S L t R V (λx c e=>w9<|ltc x c e) ?_ m0 I3 K (λb f=>(M b f).1) w0;intro τ H' s' vs its k Y rv hl q;obtain⟨mm,hn,_⟩:=id Y.loc;exact⟨mm,hn,λh' sb=>⟨.ref a.heap.objs.size,_,j.blkEnd M Y rv hl sb,rfl,q⟩⟩
 exact codeAny_compStart_list l<|T.self _ 0 _ _ _ K l
end
section
inductive D where
 |non|bl (b:Bool)|int (i:Int)|str (x:c5)|ty (n:String)|tup (ds:List D)|ref (n:Nat)
inductive MO where
 |lst (xs:List D)
 |fz (xs:List D)
 |kl (xs:List D)
 |dct (kvs:List (c5×D))
 |dkt (kvs:List (D×D))
 |dkq (kvs:List (D×D))
 |dkm (kvs:List (D×D))
 |fdc (o:c9) (kvs:List (c5×D))
 |tb (x:c5) (b:Bool)
 |exc (x:c5)
noncomputable abbrev t5:=List MO
noncomputable def MO.isL:MO->Bool
 |.dct _=>bt
 |.dkt _=>bt
 |.dkq _=>bt
 |.fdc _ _=>bt
 |.dkm _=>bt
 |.tb _ _=>bt
 |.exc _=>bt
 |_=>a9
noncomputable def iU(s:List c5)(vs:List V):List (C7×V):=(s.zip vs).map λp=>(ABX p.1,p.2)
mutual
inductive t9(K:u0)(ρ:List c8)(H:Hp):D->V->Prop
 |non:t9 K ρ H .non .non
 |bl (b:Bool):t9 K ρ H (.bl b) (.bl b)
 |int (i:Int):t9 K ρ H (.int i) (.int i)
 |str (x:c5):t9 K ρ H (.str x) (.str x)
 |ty (n:String):t9 K ρ H (.ty n) (.ty n)
 |tup {a:c8}{vs:List V}{ds:List D} (h:z0 K H a vs) (r:Reps K ρ H ds vs):t9 K ρ H (.tup ds) (.ref a)
 |ref {n:Nat}{a:c8} (h:ρ[n]?=a7 a):t9 K ρ H (.ref n) (.ref a)
inductive Reps(K:u0)(ρ:List c8)(H:Hp):List D->List V->Prop
 |nil:Reps K ρ H [] []
 |cons {d:D}{v:V}{ds:List D}{vs:List V} (h:t9 K ρ H d v) (t:Reps K ρ H ds vs):Reps K ρ H (d::ds) (v::vs)
end
noncomputable def KList(K:u0)(a:c8)(xs:List V):Prop:=∃(o:c9) (its:Array c4) (n:Nat),K.lookup a=a7 o/\o.cls=.type "list"/\o.dict=a8/\o.data=.seq its n/\its.size<=sizeLine/\aC xs its.toList
noncomputable def cW:Nat->D->Bool
 |_,.str _=>a9
 |_,.int _=>a9
 |n+1,.tup ds=>ds.all<|cW n
 |_,_=>bt
noncomputable def x5(w:c6):Nat->D->Int
 |_,.str x=>hashStr w x
 |_,.int i=>hashInt i
 |n+1,.tup ds=>m3<|MP<|ds.map<|x5 w n
 |_,_=>0
noncomputable def dX(a:c8)(xs:List (D×c8×c4)):c7->c6->d5->Prop:=λ_ w h =>
 ∃(o:c9) (es:Array m5),h.get? a=a7 o/\o.ExactDict/\o.data=.dict es xs.length/\es.toList=xs.map λx=>⟨x5 w 8 x.1,.ref x.2.1,x.2.2⟩
noncomputable def dQ(a:c8)(e:Nat)(xs:List (D×c8×c4)):c7->c6->d5->Prop:=λ_ w h =>
 ∃(o:c9) (es:Array m5),h.get? a=a7 o/\o.ExactDict/\o.data=.dict es e/\es.toList=xs.map λx=>⟨x5 w 8 x.1,.ref x.2.1,x.2.2⟩
noncomputable def keyM:D->Bool
 |.non=>a9
 |.tup ks=>cW 8<|.tup ks
 |_=>bt
noncomputable def hkM(w:c6):D->Int
 |.non=>m3 0xFCA86420
 |d=>x5 w 8 d
noncomputable def entM(hs:D->Int)(x:D×c4×c4):m5:=⟨hs x.1,x.2.1,x.2.2⟩
noncomputable def dM(a:c8)(xs:List (D×c4×c4)):c7->c6->d5->Prop:=λ_ w h =>
 ∃(o:c9) (es:Array m5),h.get? a=a7 o/\o.ExactDict/\o.data=.dict es xs.length/\es.toList=xs.map (entM<|hkM w)
noncomputable def Oa(K:u0)(ρ:List c8)(H:Hp)(p:D×D)(q:D×c4×c4):Prop:=p.1=q.1/\keyM p.1=a9/\(∃u,t9 K ρ H p.1 u/\aM u q.2.1)/\∃v,t9 K ρ H p.2 v/\aM v q.2.2
noncomputable def yj(K:u0)(ρ:List c8)(H:Hp)(p:D×D)(q:D×c8×c4):Prop:=p.1=q.1/\cW 8 p.1=a9/\t9 K ρ H p.1 (.ref q.2.1)/\∃v,t9 K ρ H p.2 v/\aM v q.2.2
noncomputable def excO(a:c8)(C:c4):c7->c6->d5->Prop:=λ_ _ h=>∃o vs,h.get? a=a7 o/\o.cls=C/\o.data=.fields vs
noncomputable def yk(K:u0)(ρ:List c8)(H:Hp)(a:c8):MO->Prop
 |.lst ds=>∃vs,H a=a7 (.lst vs)/\Reps K ρ H ds vs
 |.fz ds=>∃o vs,H a=a7 (.frz o<|.lst vs)/\Reps K ρ H ds vs
 |.kl ds=>∃vs,KList K a vs/\Reps K ρ H ds vs
 |.dct kvs=>∃vs,H a=a7 (.dK (iU (kvs.map (·.1)) vs))/\Reps K ρ H (kvs.map (·.2)) vs
 |.dkt kvs=>kvs.length<=sizeLine/\(a==d6)=bt/\(kvs.map (·.1)).Nodup/\∃xs,H a=a7 (.ext<|dX a xs)/\Paired (yj K ρ H) kvs xs
 |.dkq kvs=>kvs.length<=sizeLine/\(a==d6)=bt/\(kvs.map (·.1)).Nodup/\∃xs,(∃e,H a=a7 (.ext<|dQ a e xs))/\Paired (yj K ρ H) kvs xs
 |.dkm kvs=>kvs.length<=sizeLine/\(a==d6)=bt/\(kvs.map (·.1)).Nodup/\∃xs,H a=a7 (.ext<|dM a xs)/\Paired (Oa K ρ H) kvs xs
 |.fdc o kvs=>∃vs,H a=a7 (.frz o (.dK (iU (kvs.map (·.1)) vs)))/\Reps K ρ H (kvs.map (·.2)) vs
 |.tb x b=>(∃c,PySem.W.tabIn K x=a7 (c,a)/\∀h:d5,K.In h->PySem.W.CodeHd h c a)/\∃ps,H a=a7 (.tbl ps)/\(b=bt->ps = #[])
 |.exc x=>∃C,PySem.W.nsIn K d8 x=a7 (a7<|.ref C)/\H a=a7 (.ext<|excO a<|.ref C)
noncomputable def Ku(mo:Option MO):Prop:=∃ds,mo=a7 (.kl ds)
noncomputable def ax(M:t5)(n:Nat)(xs:List D):Prop:=M[n]?=a7 (.lst xs)\/M[n]?=a7 (.fz xs)\/M[n]?=a7 (.kl xs)
structure u8(K:u0)(ρ:List c8)(M:t5)(H:Hp):Prop where
 nd:∀(n m:Nat) (a:c8),n≠m->ρ[n]?=a7 a->ρ[m]?=a7 a->Ku M[n]?\/Ku M[m]?
 len:ρ.length=M.length
 obj:∀(n:Nat) (a:c8) (mo:MO),ρ[n]?=a7 a->M[n]?=a7 mo->yk K ρ H a mo
structure Grow(K:u0)(ρ:List c8)(H:Hp)(ρ':List c8)(H':Hp):Prop where
 pre:ρ <+: ρ'
 tup:∀a xs,z0 K H a xs->z0 K H' a xs
theorem Grow.refl{K:u0}{ρ:List c8}{H:Hp}:Grow K ρ H ρ H:=⟨ME,λ_ _ h=>h⟩
theorem Grow.trans{K:u0}{ρ c d:List c8}{H e f:Hp}(a:Grow K ρ H c e)(b:Grow K c e d f):Grow K ρ H d f:=⟨a.pre.trans b.pre,λx xs h=>b.tup x xs<|a.tup x xs h⟩
theorem aE{α:Type}{l l':List α}(h:l <+: l'){n:Nat}{a:α}(e:l[n]?=a7 a):l'[n]?=a7 a:=by obtain⟨t,rfl⟩:=h;rw[G9 (w6.mp e).1];exact e
theorem t9.grow{K:u0}{ρ a:List c8}{H H':Hp}(g:Grow K ρ H a H'){d:D}{v:V}(h:t9 K ρ H d v):t9 K a H' d v:=t9.rec (motive_1:=λd v _=>t9 K a H' d v) (motive_2:=λds vs _=>Reps K a H' ds vs) .non .bl .int .str .ty (λh _ r=>.tup (g.tup _ _ h) r) (λh=>.ref<|aE g.pre h) .nil (λ_ _ h t=>.cons h t) h
theorem Reps.grow{K:u0}{ρ a:List c8}{H H':Hp}(g:Grow K ρ H a H'){ds:List D}{vs:List V}(h:Reps K ρ H ds vs):Reps K a H' ds vs:=Reps.rec (motive_1:=λd v _=>t9 K a H' d v) (motive_2:=λds vs _=>Reps K a H' ds vs) .non .bl .int .str .ty (λh _ r=>.tup (g.tup _ _ h) r) (λh=>.ref<|aE g.pre h) .nil (λ_ _ h t=>.cons h t) h
section
variable{K:u0}{ρ ρ':List c8}{H H':Hp}{M:t5}
theorem Reps.length(h:Reps K ρ H ds vs):ds.length=vs.length:=Reps.rec (motive_1:=λ_ _ _=>True) (motive_2:=λds vs _=>ds.length=vs.length) trivial (λ_=>trivial) (λ_=>trivial) (λ_=>trivial) (λ_=>trivial) (λ_ _ _=>trivial) (λ_=>trivial) rfl (λ_ _ _ t=>o8 Nat.succ t) h
theorem Reps.append(h:Reps K ρ H ds vs)(s:Reps K ρ H es ws):Reps K ρ H (ds++es) (vs++ws):=Reps.rec (motive_1:=λ_ _ _=>True) (motive_2:=λds vs _=>Reps K ρ H (ds++es)<|vs++ws) trivial (λ_=>trivial) (λ_=>trivial) (λ_=>trivial) (λ_=>trivial) (λ_ _ _=>trivial) (λ_=>trivial) s (λh _ _ t=>.cons h t) h
theorem Reps.get:∀{ds:List D}{vs:List V}{i:Nat}{d:D},Reps K ρ H ds vs->ds[i]?=a7 d->∃v,vs[i]?=a7 v/\t9 K ρ H d v
 |_,_,_,_,.nil,e=>by simp at e
 |_,_,0,_,.cons r _,e=>by simp at e;subst e;exact⟨_,rfl,r⟩
 |_,_,i+1,d,.cons _ t,e=>by obtain⟨v,h1,h2⟩:=Reps.get (i:=i) (d:=d) t (by simpa using e);exact⟨v,by simpa using h1,h2⟩
theorem Reps.getV:∀{ds:List D}{vs:List V}{i:Nat}{v:V},Reps K ρ H ds vs->vs[i]?=a7 v->∃d,ds[i]?=a7 d/\t9 K ρ H d v
 |_,_,_,_,.nil,e=>by simp at e
 |_,_,0,_,.cons r _,e=>by simp at e;subst e;exact⟨_,rfl,r⟩
 |_,_,i+1,d,.cons _ t,e=>by obtain⟨v,h1,h2⟩:=Reps.getV (i:=i) (v:=d) t (by simpa using e);exact⟨v,by simpa using h1,h2⟩
theorem Reps.take:∀{ds:List D}{vs:List V} (n:Nat),Reps K ρ H ds vs->Reps K ρ H (ds.take n) (vs.take n)
 |_,_,0,_=>by simpa using .nil
 |_,_,_+1,.nil=>.nil
 |_,_,n+1,.cons r t=>.cons r<|Reps.take n t
theorem Reps.drop:∀{ds:List D}{vs:List V} (n:Nat),Reps K ρ H ds vs->Reps K ρ H (ds.drop n) (vs.drop n)
 |_,_,0,r=>r
 |_,_,_+1,.nil=>.nil
 |_,_,n+1,.cons _ t=>Reps.drop n t
theorem z0.laid(b:H p=a8)(h:z0 K H a xs):z0 K (v4 H p o) a xs:=by
 rcases h with h|h;rcases h with h|⟨c,h⟩
 exact .inl (.inl<|by rw[am<|ae h b];exact h);exact .inl<|.inr ⟨c,by rw[am<|ae h b];exact h⟩;exact .inr h
theorem z0.written(b:H p=a7 (.lst vs))(h:z0 K H a xs):z0 K (v4 H p o) a xs:=by
 rcases h with h|h;rcases h with h|⟨c,h⟩
 exact .inl (.inl<|by rw[am<|xz h b<|by intro z;cases z];exact h);exact .inl<|.inr ⟨c,by rw[am<|xz h b<|by intro z;cases z];exact h⟩;exact .inr h
theorem Grow.laid(a:H p=a8):Grow K ρ H ρ (v4 H p o):=⟨ME,λ_ _ h=>z0.laid a h⟩
theorem Grow.laidR(a:H p=a8):Grow K ρ H (ρ++[p]) (v4 H p o):=⟨F9 _ _,λ_ _ h=>z0.laid a h⟩
theorem u8.tracked(S:u8 K ρ M H){n:Nat}{a:c8}(e:ρ[n]?=a7 a):(∃o,H a=a7 o)\/Ku M[n]?:=by
 have f:n<M.length:=by rw[<-S.len];exact(w6.mp e).1
 have d:M[n]?=a7 M[n]:=v9 f;have h:=S.obj n a _ e d;rw[d];cases c:M[n] with
 |lst ds=>rw[c]at h;obtain⟨vs,h,_⟩:=h;exact .inl ⟨_,h⟩
 |fz ds=>rw[c]at h;obtain⟨o,vs,h,_⟩:=h;exact .inl ⟨_,h⟩
 |kl ds=>exact .inr ⟨ds,rfl⟩
 |dct s=>rw[c]at h;obtain⟨vs,h,_⟩:=h;exact .inl ⟨_,h⟩
 |dkt s=>rw[c]at h;obtain⟨_,_,_,xs,h,_⟩:=h;exact .inl ⟨_,h⟩
 |dkq s=>rw[c]at h;obtain⟨_,_,_,xs,⟨_,h⟩,_⟩:=h;exact .inl ⟨_,h⟩
 |fdc o s=>rw[c]at h;obtain⟨vs,h,_⟩:=h;exact .inl ⟨_,h⟩
 |dkm s=>rw[c]at h;obtain⟨_,_,_,xs,h,_⟩:=h;exact .inl ⟨_,h⟩
 |tb x b=>rw[c]at h;obtain⟨_,ps,h,_⟩:=h;exact .inl ⟨_,h⟩
 |exc x=>rw[c]at h;obtain⟨_,_,h⟩:=h;exact .inl ⟨_,h⟩
theorem yk.grow(g:Grow K ρ H ρ' H')(hs:H' a=H a\/Ku (a7 mo))(h:yk K ρ H a mo):yk K ρ' H' a mo:=by
 cases mo with
 |lst ds =>
  obtain⟨vs,e,r⟩:=h;rcases hs with hs|⟨_,z⟩
  exact⟨vs,by rw[hs];exact e,r.grow g⟩;cases z
 |fz ds =>
  obtain⟨o,vs,e,r⟩:=h;rcases hs with hs|⟨_,z⟩
  exact⟨o,vs,by rw[hs];exact e,r.grow g⟩;cases z
 |fdc o s =>
  obtain⟨vs,e,r⟩:=h;rcases hs with hs|⟨_,z⟩
  exact⟨vs,by rw[hs];exact e,r.grow g⟩;cases z
 |tb x b =>
  obtain⟨c,ps,e,q⟩:=h;rcases hs with hs|⟨_,z⟩
  exact⟨c,ps,by rw[hs];exact e,q⟩;cases z
 |exc x =>
  obtain⟨C,e,q⟩:=h;rcases hs with hs|⟨_,z⟩
  exact⟨C,e,by rw[hs];exact q⟩;cases z
 |kl ds=>obtain⟨vs,e,r⟩:=h;exact⟨vs,e,r.grow g⟩
 |dkm s =>
  obtain⟨h1,h2,d,xs,e,r⟩:=h;rcases hs with hs|⟨_,z⟩
  exact⟨h1,h2,d,xs,by rw[hs];exact e,Paired.mapP r λ_ _ ⟨f,j,⟨u,k,m⟩,v,i,l⟩=>⟨f,j,⟨u,k.grow g,m⟩,v,i.grow g,l⟩⟩;cases z
 |dct s =>
  obtain⟨vs,e,r⟩:=h;rcases hs with hs|⟨_,z⟩
  exact⟨vs,by rw[hs];exact e,r.grow g⟩;cases z
 |dkt s =>
  obtain⟨h1,h2,d,xs,e,r⟩:=h;rcases hs with hs|⟨_,z⟩
  exact⟨h1,h2,d,xs,by rw[hs];exact e,Paired.mapP r λ_ _ ⟨f,j,k,v,i,l⟩=>⟨f,j,k.grow g,v,i.grow g,l⟩⟩;cases z
 |dkq s =>
  obtain⟨h1,h2,d,xs,e,r⟩:=h;rcases hs with hs|⟨_,z⟩
  exact⟨h1,h2,d,xs,by rw[hs];exact e,Paired.mapP r λ_ _ ⟨f,j,k,v,i,l⟩=>⟨f,j,k.grow g,v,i.grow g,l⟩⟩;cases z
theorem u8.keeps{p:c8}{o:HO}(S:u8 K ρ M H)(h:H p=a8){n:Nat}{a:c8}{mo:MO}(t:ρ[n]?=a7 a)(l:M[n]?=a7 mo):v4 H p o a=H a\/Ku (a7 mo):=by rcases S.tracked t with⟨c,b⟩|q;exact .inl<|am<|ae b h;rw[l]at q;exact .inr q
theorem u8.laid{p:c8}{o:HO}(S:u8 K ρ M H)(h:H p=a8):u8 K ρ M (v4 H p o):=⟨S.nd,S.len,λn a m t l=>(S.obj n a m t l).grow (Grow.laid h)<|S.keeps h t l⟩
theorem bb{α:Type}{l:List α}{x y:α}{n:Nat}(h:(l++[x])[n]?=a7 y):l[n]?=a7 y\/(n=l.length/\y=x):=by
 by_cases f:n<l.length;rw[G9 f]at h;exact .inl h;have a:n=l.length:=by have:=(w6.mp h).1;rw[z5,G8]at this;lia
 subst a;rw[KP<|u6 _,L4]at h;simp at h;exact .inr ⟨rfl,h.symm⟩
theorem Ku.more{mo:MO}{n:Nat}(h:Ku M[n]?):Ku (M++[mo])[n]?:=by obtain⟨ds,e⟩:=h;exact⟨ds,by rw[G9 (w6.mp e).1];exact e⟩
theorem u8.laidL{p:c8}{ds:List D}{vs:List V}(S:u8 K ρ M H)(c:H p=a8)(r:Reps K ρ H ds vs):u8 K (ρ++[p]) (M++[.lst ds]) (v4 H p<|.lst vs):=by
 have g:Grow K ρ H (ρ++[p]) (v4 H p<|.lst vs):=Grow.laidR c;have d:∀(n:Nat),ρ[n]?=a7 p->Ku M[n]?:=λn e=>by rcases S.tracked e with⟨o,q⟩|q;rw[c]at q;cases q;exact q
 refine⟨λn m a h t l=>?_,by rw[z5,z5,S.len];rfl,λn a k t l=>?_⟩;rcases bb t with f|⟨f,g1⟩
 rcases bb l with b|⟨b,i⟩
 exact(S.nd n m a h f b).elim (λz=>.inl z.more) λz=>.inr z.more;subst i;exact .inl (d n f).more;rcases bb l with b|⟨b,i⟩
 subst g1;exact .inr (d m b).more;exact n9 (f.trans b.symm) h;rcases bb t with f|⟨f,g1⟩
 have j:n<M.length:=by rw[<-S.len];exact(w6.mp f).1
 rw[G9 j]at l;exact(S.obj n a k f l).grow g<|S.keeps c f l;subst g1 f;rw[S.len,KP<|u6 _,L4]at l;simp at l;subst l;exact⟨vs,aK,r.grow g⟩
theorem u8.last(S:u8 K ρ M H):(ρ++[p])[M.length]?=a7 p:=by rw[<-S.len,KP<|u6 _,L4];rfl
theorem u8.write(S:u8 K ρ M H)(t:ρ[n]?=a7 a)(u:M[n]?=a7 (.lst ds))(s:H a=a7 (.lst vs))(r:Reps K ρ H ds' vs'):u8 K ρ (M.set n<|.lst ds') (v4 H a<|.lst vs')/\Grow K ρ H ρ (v4 H a<|.lst vs'):=by
 have g:Grow K ρ H ρ (v4 H a<|.lst vs'):=⟨ME,λ_ _ h=>z0.written s h⟩
 have k:∀m,m≠n->(M.set n<|.lst ds')[m]?=M[m]?:=λm e=>KH<|z8 e;have c:¬Ku M[n]?:=λ⟨_,z⟩=>by rw[u]at z;cases z
 refine⟨⟨λm l b i d f=>?_,by rw[J5];exact S.len,λm b o d f=>?_⟩,g⟩;have q:=S.nd m l b i d f;by_cases h1:m=n;subst h1;rw[k l<|z8 i];exact .inr<|q.resolve_left c;rw[k m h1];by_cases h2:l=n;subst h2;exact .inl<|q.resolve_right c;rw[k l h2];exact q;by_cases e:m=n;subst e;have j:b=a:=A6<|d.symm.trans t;subst j;rw[KO<|by rw[<-S.len];exact(w6.mp t).1]at f;cases f;exact⟨vs',aK,r.grow g⟩;rw[k m e]at f;by_cases j:b=a;subst j;have q:=S.nd m n b e d t;have p:=q.resolve_right c;rw[f]at p;exact(S.obj m b o d f).grow g<|.inr p;exact(S.obj m b o d f).grow g<|.inl<|am j
theorem ax.seq(S:u8 K ρ M H)(h:ax M n xs)(e:ρ[n]?=a7 a):∃vs,Ki K H a vs/\Reps K ρ H xs vs:=by rcases h with h|h|h;obtain⟨vs,q,r⟩:=S.obj n a _ e h;exact⟨vs,.inl<|.inl q,r⟩;obtain⟨o,vs,q,r⟩:=S.obj n a _ e h;exact⟨vs,.inl<|.inr ⟨o,q⟩,r⟩;obtain⟨vs,q,r⟩:=S.obj n a _ e h;exact⟨vs,.inr q,r⟩
theorem u8.get(S:u8 K ρ M H){n:Nat}{mo:MO}(e:M[n]?=a7 mo):∃a,ρ[n]?=a7 a/\yk K ρ H a mo:=by
 have f:n<ρ.length:=by rw[S.len];exact(w6.mp e).1
 exact⟨ρ[n],v9 f,S.obj n _ mo (v9 f) e⟩
end
noncomputable abbrev SD:=List<|Option D
structure SRep(K:u0)(ρ:List c8)(H:Hp)(S:SD)(σ:St):Prop where
 len:S.length=σ.length
 get:∀(i:Nat) (d:D),S[i]?=a7 (a7 d)->∃v,σ[i]?=a7 (a7 v)/\t9 K ρ H d v
theorem SRep.grow{K:u0}{ρ a:List c8}{H H':Hp}{S:SD}{σ:St}(r:SRep K ρ H S σ)(g:Grow K ρ H a H'):SRep K a H' S σ:=⟨r.len,λi d e=>let ⟨v,h1,h2⟩:=r.get i d e;⟨v,h1,h2.grow g⟩⟩
theorem SRep.set{K:u0}{ρ:List c8}{H:Hp}{S:SD}{σ:St}(r:SRep K ρ H S σ)(i:Nat){d:D}{v:V}(h:t9 K ρ H d v):SRep K ρ H (S.set i<|a7 d) (σ.set i<|a7 v):=by refine⟨by rw[J5,J5];exact r.len,λj e L=>?_⟩;by_cases a:i=j;subst a;by_cases g:i<S.length;rw[KO g]at L;cases L;exact⟨v,by rw[KO<|by rw[<-r.len];exact g],h⟩;rw[LF<|by rw[J5];lia]at L;cases L;rw[KH a]at L;rw[KH a];exact r.get j e L
noncomputable abbrev DK:=D->t5->Prop
noncomputable abbrev u9:=SD->t5->DK->Prop
noncomputable abbrev F5:=SD->t5->(Bool->t5->Prop)->Prop
noncomputable abbrev F4:=SD->t5->(List D->t5->Prop)->Prop
structure DEnds where
 nx:SD->t5->Prop
 rt:DK
 bk:SD->t5->Prop:=λ_ _=>False
 ct:SD->t5->Prop:=λ_ _=>False
noncomputable abbrev p9:=DEnds->SD->t5->Prop
noncomputable abbrev Ix:=D->SD->t5->(SD->t5->Prop)->Prop
noncomputable abbrev Ek:=List D->SD->t5->(SD->t5->Prop)->Prop
noncomputable abbrev E1:=D->D->t5->DK->Prop
noncomputable abbrev Ny:=D->t5->DK->Prop
noncomputable abbrev D1:=List D->t5->DK->Prop
section
variable(K:u0)
inductive VQ(ρ:List c8)(H:Hp)(Q:DK)(v:V)(H':Hp):Prop
 |mk (d:D) (M':t5) (ρ':List c8) (s:u8 K ρ' M' H') (g:Grow K ρ H ρ' H') (r:t9 K ρ' H' d v) (q:Q d M')
inductive BQ(ρ:List c8)(H:Hp)(Q:Bool->t5->Prop)(b:Bool)(H':Hp):Prop
 |mk (M':t5) (ρ':List c8) (s:u8 K ρ' M' H') (g:Grow K ρ H ρ' H') (q:Q b M')
inductive AQ(ρ:List c8)(H:Hp)(Q:List D->t5->Prop)(vs:List V)(H':Hp):Prop
 |mk (ds:List D) (M':t5) (ρ':List c8) (s:u8 K ρ' M' H') (g:Grow K ρ H ρ' H') (r:Reps K ρ' H' ds vs) (q:Q ds M')
inductive SQ(ρ:List c8)(H:Hp)(Q:SD->t5->Prop)(σ':St)(H':Hp):Prop
 |mk (S':SD) (M':t5) (ρ':List c8) (s:u8 K ρ' M' H') (g:Grow K ρ H ρ' H') (r:SRep K ρ' H' S' σ') (q:Q S' M')
structure N7(ρ:List c8)(H:Hp)(F:DEnds)(E:Ends):Prop where
 nx:∀σ' H',SQ K ρ H F.nx σ' H'->E.nx σ' H'
 rt:∀v H',VQ K ρ H F.rt v H'->E.rt v H'
 bk:∀σ' H',SQ K ρ H F.bk σ' H'->E.bk σ' H'
 ct:∀σ' H',SQ K ρ H F.ct σ' H'->E.ct σ' H'
inductive lowE(t:u9)(σ:St)(H:Hp)(R:VK):Prop
 |mk (S:SD) (M:t5) (ρ:List c8) (Q:DK) (s:u8 K ρ M H) (sr:SRep K ρ H S σ) (q:t S M Q) (k:∀v H',VQ K ρ H Q v H'->R v H')
inductive lowT(t:F5)(σ:St)(H:Hp)(R:Bool->Hp->Prop):Prop
 |mk (S:SD) (M:t5) (ρ:List c8) (Q:Bool->t5->Prop) (s:u8 K ρ M H) (sr:SRep K ρ H S σ) (q:t S M Q) (k:∀v H',BQ K ρ H Q v H'->R v H')
inductive lowA(t:F4)(σ:St)(H:Hp)(R:List V->Hp->Prop):Prop
 |mk (S:SD) (M:t5) (ρ:List c8) (Q:List D->t5->Prop) (s:u8 K ρ M H) (sr:SRep K ρ H S σ) (q:t S M Q) (k:∀v H',AQ K ρ H Q v H'->R v H')
inductive lowS(t:p9)(E:Ends)(σ:St)(H:Hp):Prop
 |mk (S:SD) (M:t5) (ρ:List c8) (F:DEnds) (s:u8 K ρ M H) (sr:SRep K ρ H S σ) (q:t F S M) (k:N7 K ρ H F E)
inductive lowG(g:Ix)(v:V)(σ:St)(H:Hp)(R:St->Hp->Prop):Prop
 |mk (d:D) (S:SD) (M:t5) (ρ:List c8) (Q:SD->t5->Prop) (s:u8 K ρ M H) (sr:SRep K ρ H S σ) (r:t9 K ρ H d v) (q:g d S M Q) (k:∀σ' H',SQ K ρ H Q σ' H'->R σ' H')
inductive lowGs(g:Ek)(vs:List V)(σ:St)(H:Hp)(R:St->Hp->Prop):Prop
 |mk (ds:List D) (S:SD) (M:t5) (ρ:List c8) (Q:SD->t5->Prop) (s:u8 K ρ M H) (sr:SRep K ρ H S σ) (r:Reps K ρ H ds vs) (q:g ds S M Q) (k:∀σ' H',SQ K ρ H Q σ' H'->R σ' H')
inductive lowR(r:E1)(vx vy:V)(H:Hp)(R:VK):Prop
 |mk (x y:D) (M:t5) (ρ:List c8) (Q:DK) (s:u8 K ρ M H) (r1:t9 K ρ H x vx) (r2:t9 K ρ H y vy) (q:r x y M Q) (k:∀v H',VQ K ρ H Q v H'->R v H')
inductive lowU(r:Ny)(vx:V)(H:Hp)(R:VK):Prop
 |mk (x:D) (M:t5) (ρ:List c8) (Q:DK) (s:u8 K ρ M H) (r1:t9 K ρ H x vx) (q:r x M Q) (k:∀v H',VQ K ρ H Q v H'->R v H')
inductive lowC(r:D1)(vs:List V)(H:Hp)(R:VK):Prop
 |mk (ds:List D) (M:t5) (ρ:List c8) (Q:DK) (s:u8 K ρ M H) (r1:Reps K ρ H ds vs) (q:r ds M Q) (k:∀v H',VQ K ρ H Q v H'->R v H')
end
noncomputable def DE(X:Cx)(e:h8)(t:u9):Prop:=PE X e<|lowE X.K t
noncomputable def DT(X:Cx)(e:h8)(t:F5):Prop:=PT X e<|lowT X.K t
noncomputable def DW(X:Cx)(e:h8)(t:F5):Prop:=PW X e<|lowT X.K t
noncomputable def DA(X:Cx)(es:List h8)(t:F4):Prop:=PA X es<|lowA X.K t
noncomputable def DS(X:Cx)(st:i7)(t:p9):Prop:=PS X st<|lowS X.K t
noncomputable def Lg(X:Cx)(st:List i7)(t:p9):Prop:=J4 X st<|lowS X.K t
noncomputable def DG(X:Cx)(t:h8)(g:Ix):Prop:=PG X t<|lowG X.K g
noncomputable def Nz(X:Cx)(t:List h8)(g:Ek):Prop:=Nu X t<|lowGs X.K g
noncomputable def E8(X:Cx)(f:c4->c4->Sem c4)(r:E1):Prop:=C1 X f<|lowR X.K r
noncomputable def O8(X:Cx)(f:c4->Sem c4)(r:Ny):Prop:=N8 X f<|lowU X.K r
noncomputable def nN(X:Cx)(f:c4)(r:D1):Prop:=iS X f<|lowC X.K r
section
variable{K:u0}{ρ ρ1:List c8}{H H1:Hp}
theorem VQ.trans(g:Grow K ρ H ρ1 H1)(h:VQ K ρ1 H1 Q v H'):VQ K ρ H Q v H':=by obtain⟨d,M,a,s,b,r,q⟩:=h;exact⟨d,M,a,s,g.trans b,r,q⟩
theorem BQ.trans(g:Grow K ρ H ρ1 H1)(h:BQ K ρ1 H1 Q v H'):BQ K ρ H Q v H':=by obtain⟨M,a,s,b,q⟩:=h;exact⟨M,a,s,g.trans b,q⟩
theorem SQ.trans(g:Grow K ρ H ρ1 H1)(h:SQ K ρ1 H1 Q v H'):SQ K ρ H Q v H':=by obtain⟨d,M,a,s,b,r,q⟩:=h;exact⟨d,M,a,s,g.trans b,r,q⟩
theorem N7.trans(g:Grow K ρ H ρ1 H1)(h:N7 K ρ H F E):N7 K ρ1 H1 F E:=⟨λa H' q=>h.nx a H'<|SQ.trans g q,λv H' q=>h.rt v H'<|VQ.trans g q,λa H' q=>h.bk a H'<|SQ.trans g q,λa H' q=>h.ct a H'<|SQ.trans g q⟩
theorem VQ.now(s:u8 K ρ M H)(r:t9 K ρ H d v)(q:Q d M):VQ K ρ H Q v H:=⟨d,M,ρ,s,.refl,r,q⟩
end
section
variable{K:u0}{ρ:List c8}{H:Hp}{v:V}{vs:List V}
theorem t9.inv_non(h:t9 K ρ H .non v):v=.non:=by cases h;rfl
theorem t9.inv_bl(h:t9 K ρ H (.bl b) v):v=.bl b:=by cases h;rfl
theorem t9.inv_int(h:t9 K ρ H (.int i) v):v=.int i:=by cases h;rfl
theorem t9.inv_str(h:t9 K ρ H (.str x) v):v=.str x:=by cases h;rfl
theorem t9.inv_ty(h:t9 K ρ H (.ty n) v):v=.ty n:=by cases h;rfl
theorem t9.inv_tup(h:t9 K ρ H (.tup ds) v):∃a vs,v=.ref a/\z0 K H a vs/\Reps K ρ H ds vs:=by cases h with|tup h r=>exact⟨_,_,rfl,h,r⟩
theorem t9.inv_ref(h:t9 K ρ H (.ref n) v):∃a,v=.ref a/\ρ[n]?=a7 a:=by cases h with|ref h=>exact⟨_,rfl,h⟩
theorem aC.inv_cons(h:aC (x::vs) us):∃u ws,us=u::ws/\aM x u/\aC vs ws:=by cases h with|cons h t=>exact⟨_,_,rfl,h,t⟩
theorem aC.inv_nil(h:aC [] us):us=[]:=by cases h;rfl
theorem Reps.inv_nil(h:Reps K ρ H [] vs):vs=[]:=by cases h;rfl
theorem Reps.inv_cons(h:Reps K ρ H (d::ds) vs):∃v ws,vs=v::ws/\t9 K ρ H d v/\Reps K ρ H ds ws:=by cases h with|cons h t=>exact⟨_,_,rfl,h,t⟩
end
end
theorem PE.imp(h:PE X e t')(i:∀σ H R,t σ H R->t' σ H R):PE X e t:=λp s σ H R I q=>h p s σ H R I<|i σ H R q
theorem PT.imp(h:PT X e t')(i:∀σ H R,t σ H R->t' σ H R):PT X e t:=λp s σ H R I q=>h p s σ H R I<|i σ H R q
theorem PW.imp(h:PW X e t')(i:∀σ H R,t σ H R->t' σ H R):PW X e t:=λw p s σ H R I q=>h w p s σ H R I<|i σ H R q
theorem PA.imp(h:PA X e t')(i:∀σ H R,t σ H R->t' σ H R):PA X e t:=λa p s σ H R I q=>h a p s σ H R I<|i σ H R q
theorem PS.imp(h:PS X e t')(i:∀E σ H,t E σ H->t' E σ H):PS X e t:=λp s σ H R I q=>h p s σ H R I<|i R σ H q
theorem J4.imp(h:J4 X e t')(i:∀E σ H,t E σ H->t' E σ H):J4 X e t:=λp s σ H R I q=>h p s σ H R I<|i R σ H q
theorem C1.imp(h:C1 X f r')(i:∀x y H R,r x y H R->r' x y H R):C1 X f r:=λp s σ H x y v u R I a b q=>h p s σ H x y v u R I a b<|i x y H R q
theorem iS.imp(h:iS X f r')(i:∀xs H R,r xs H R->r' xs H R):iS X f r:=λp s σ H xs us R I a q=>h p s σ H xs us R I a<|i xs H R q
section
variable{X:Cx}{a b c:h8}{ta tb tc:u9}{pos:i4}
noncomputable def ab(i:Nat):u9:=λS M Q=>match S[i]? with
 |some (a7 d)=>Q d M
 |_=>False
noncomputable def dC(d:D):u9:=λ_ M Q=>Q d M
theorem Co{K:u0}{i:Nat}(σ:St)(H:Hp)(R:VK)(h:lowE K (ab i) σ H R):tVar i σ H R:=by
 obtain⟨S,M,ρ,Q,s,r,q,k⟩:=h;unfold ab at q;cases e:S[i]? with
 |none=>rw[e]at q;exact q.elim
 |some o =>
  cases o with
  |none=>rw[e]at q;exact q.elim
  |some d=>rw[e]at q;obtain⟨v,c,a⟩:=r.get i d e;exact⟨v,c,k v H<|VQ.now s a q⟩
theorem d_var(h:X.N[i]?=a7 x:=by rfl)(c:Mp X.env.scope x:=by first|exact Or.inl rfl|exact Or.inr (Or.inl rfl)|exact Or.inr<|Or.inr rfl)(a:(x==("__debug__":c5))=bt:=by decide)(d:(x==("__classdict__":c5))=bt:=by decide):DE X (.Name x pos) (ab i):=PE.imp (DN h c a d) Co
noncomputable def cV:D->Option V
 |.non=>a7 .non
 |.bl b=>a7<|.bl b
 |.int i=>a7<|.int i
 |.str x=>a7<|.str x
 |.ty n=>a7<|.ty n
 |_=>a8
theorem AZ{K:u0}{ρ:List c8}{H:Hp}{d:D}{v:V}(h:cV d=a7 v):t9 K ρ H d v:=by
 cases d with
 |non=>cases h;exact .non
 |bl b=>cases h;exact .bl b
 |int b=>cases h;exact .int b
 |str b=>cases h;exact .str b
 |ty b=>cases h;exact .ty b
 |tup b=>cases h
 |ref b=>cases h
theorem wE{K:u0}{d:D}{v:V}(a:cV d=a7 v)(σ:St)(H:Hp)(R:VK)(h:lowE K (dC d) σ H R):tC v σ H R:=by obtain⟨S,M,ρ,Q,s,r,q,k⟩:=h;exact k v H<|VQ.now s (AZ a) q
theorem d_int{i:Int}{j:Nat}:DE X (.Constant (.int i) j pos) (dC<|.int i):=PE.imp Ia<|wE rfl
theorem d_bl{i:Bool}{j:Nat}:DE X (.Constant (.bool i) j pos) (dC<|.bl i):=PE.imp pe_bl<|wE rfl
theorem d_non{j:Nat}:DE X (.Constant .none j pos) (dC .non):=PE.imp HY<|wE rfl
theorem d_str{i:c5}{j:Nat}:DE X (.Constant (.str i) j pos) (dC<|.str i):=PE.imp HU<|wE rfl
theorem low2{K:u0}{S:SD}{M:t5}{ρ:List c8}{σ:St}{H:Hp}{P:D->D->t5->Prop}{G:V->V->Hp->Prop}(s:u8 K ρ M H)(r:SRep K ρ H S σ)(h:ta S M λx M1=>tb S M1 λy M2=>P x y M2)(k:∀x y vx vy M2 ρ2 H2,u8 K ρ2 M2 H2->Grow K ρ H ρ2 H2->t9 K ρ2 H2 x vx->t9 K ρ2 H2 y vy->P x y M2->G vx vy H2):lowE K ta σ H λvx H1=>lowE K tb σ H1 λvy H2=>G vx vy H2:=by refine⟨S,M,ρ,_,s,r,h,?_⟩;rintro vx H1 ⟨x,M1,c,f,g1,a,q⟩;refine⟨S,M1,c,_,f,r.grow g1,q,?_⟩;rintro vy H2 ⟨y,M2,ρ2,w,i,m,j⟩;exact k x y vx vy M2 ρ2 H2 w (g1.trans i) (a.grow i) m j
noncomputable def p7(r:E1)(t c:u9):u9:=λS M Q=>t S M λx a=>c S a λy b=>r x y b Q
theorem pW{K:u0}{r:E1}(σ:St)(H:Hp)(R:VK)(h:lowE K (p7 r ta tb) σ H R):Nk (lowR K r) (lowE K ta) (lowE K tb) σ H R:=by obtain⟨S,M,ρ,Q,s,e,q,k⟩:=h;exact low2 s e q λx y g l b d f c i a m j=>⟨x,y,b,d,Q,c,a,m,j,λv H' w=>k v H'<|VQ.trans i w⟩
theorem d_op(B:E8 X (j7 op) r)(f:DE X a ta)(d:DE X b tb):DE X (.BinOp a op b pos) (p7 r ta tb):=PE.imp (pe_op B f d) pW
theorem d_cmp(B:E8 X (j8 op) r)(f:DE X a ta)(d:DE X b tb)(m:j9 op b=bt:=by with_unfolding_all rfl):DE X (.Compare a [op] [b] pos) (p7 r ta tb):=PE.imp (EU B f d m) pW
noncomputable def ay(t:u9):F5:=λS M Q=>t S M λx a=>match x with
 |.bl b=>Q b a
 |_=>False
theorem sA{K:u0}{t:u9}(σ:St)(H:Hp)(R:Bool->Hp->Prop)(h:lowT K (ay t) σ H R):Hh (lowE K t) σ H R:=by
 obtain⟨S,M,ρ,Q,s,e,q,k⟩:=h;refine⟨S,M,ρ,_,s,e,q,?_⟩;rintro v H' ⟨d,c,a,s',g,r',j⟩;cases r' with
 |bl b=>exact⟨b,rfl,k b H' ⟨c,a,s',g,j⟩⟩
 |_=>exact j.elim
theorem JF(B:E8 X (j8 op) r)(f:DE X a ta)(d:DE X b tb)(m:j9 op b=bt:=by with_unfolding_all rfl):DT X (.Compare a [op] [b] pos) (ay<|p7 r ta tb):=by refine PT.imp (EK B f d m) λσ H R h=>?_;obtain⟨S,M,ρ,Q,s,e,q,k⟩:=sA σ H R h;exact pW σ H _ ⟨S,M,ρ,Q,s,e,q,k⟩
theorem JC(h:DE X e t)(i:∀whole,isTrue e X.env whole=(do let v <-whole;standAt e.pos;i8 [v] (truthy v)):=by intro _;rfl):DT X e (ay t):=PT.imp (HH h i) sA
noncomputable def N0(z:D)(k:Bool->Prop):Prop:=match z with
 |.bl b=>k b
 |_=>False
theorem DO{b:Bool}{k:Bool->Prop}:N0 (.bl b) k=k b:=rfl
noncomputable def tp(r r':E1)(t f g:u9):u9:=λS M Q=>t S M λx c=>f S c λy d=>r x y d λz a=>N0 z λb=>if b=a9 then g S a λw e=>r' y w e Q else Q (.bl bt) a
theorem xF{K:u0}{r r':E1}(σ:St)(H:Hp)(R:VK)(h:lowE K (tp r r' ta tb tc) σ H R):DJ (lowR K r) (lowR K r') (lowE K ta) (lowE K tb) (lowE K tc) σ H R:=by
 obtain⟨S,M,ρ,Q,s,l,q,k⟩:=h;refine low2 s l q λx y J L o e F C i A m t=>⟨x,y,o,e,_,C,A,m,t,?_⟩
 rintro N n ⟨z,c,a,j,g3,D,d⟩;cases D with
 |bl b =>
  cases b with
  |false=>exact⟨bt,rfl,bE<|k _ n ⟨_,c,a,j,i.trans g3,.bl bt,(show Q (.bl bt) c from d)⟩⟩
  |true=>refine⟨a9,rfl,bH ⟨S,c,a,_,j,l.grow<|i.trans g3,(show tc S c _ from d),?_⟩⟩;rintro I G ⟨w,p,f,E,g,B,u⟩;exact⟨y,w,p,f,Q,E,m.grow<|g3.trans g,B,u,λv H' Y=>k v H'<|VQ.trans ((i.trans g3).trans g) Y⟩
 |_=>exact d.elim
theorem Gy(B:E8 X (j8 op) r)(h:E8 X (j8 op') r')(f:DE X a ta)(d:DE X b tb)(e:DE X c tc)(m:lastMarks [op,op'] [b,c]=bt:=by with_unfolding_all rfl):DE X (.Compare a [op,op'] [b,c] pos) (tp r r' ta tb tc):=PE.imp (BW B h f d e m) xF
variable{tA tB:F5}{aY:List h8}
noncomputable def Bp(t u:F5):F5:=λS M Q=>t S M λb a=>if b=a9 then u S a Q else Q bt a
noncomputable def LH(t u:F5):F5:=λS M Q=>t S M λb a=>if b=a9 then Q a9 a else u S a Q
noncomputable def JY(t:F5):F5:=λS M Q=>t S M λb a=>Q (!b) a
theorem Ge(f:DT X a tA):DW X (.BoolOp .And [a] pos) tA:=EH f
theorem JA(f:DT X a tA):DW X (.BoolOp .Or [a] pos) tA:=HD f
theorem JB(i:DT X a tA)(j:DW X (.BoolOp .And (b::aY) pos) tB):DW X (.BoolOp .And (a::b::aY) pos) (Bp tA tB):=by
 refine PW.imp (HF i j) ?_;rintro σ H R ⟨S,M,ρ,Q,s,r,q,k⟩;refine⟨S,M,ρ,_,s,r,q,?_⟩;rintro c h ⟨e,d,g,g1,f⟩;cases c with
 |true=>exact bH ⟨S,e,d,Q,g,r.grow g1,(show tB S e Q from f),λv H' w=>k v H'<|BQ.trans g1 w⟩
 |false=>exact bE<|k bt h ⟨e,d,g,g1,f⟩
theorem dw_or(i:DT X a tA)(j:DW X (.BoolOp .Or (b::aY) pos) tB):DW X (.BoolOp .Or (a::b::aY) pos) (LH tA tB):=by
 refine PW.imp (pw_or i j) ?_;rintro σ H R ⟨S,M,ρ,Q,s,r,q,k⟩;refine⟨S,M,ρ,_,s,r,q,?_⟩;rintro c h ⟨e,d,g,g1,f⟩;cases c with
 |false=>exact bE ⟨S,e,d,Q,g,r.grow g1,(show tB S e Q from f),λv H' w=>k v H'<|BQ.trans g1 w⟩
 |true=>exact bH<|k a9 h ⟨e,d,g,g1,f⟩
theorem dw_t(h:DW X e t):DT X e t:=PW.pt h
theorem JE(f:DT X a tA):DT X (.UnaryOp .Not a pos) (JY tA):=by refine PT.imp (HJ f) ?_;rintro σ H R ⟨S,M,ρ,Q,s,r,q,k⟩;refine⟨S,M,ρ,_,s,r,q,?_⟩;rintro c d ⟨e,b,h,g1,g⟩;exact k (!c) d ⟨e,b,h,g1,g⟩
noncomputable def nL(t c:u9):u9:=λS M Q=>t S M λx a=>N0 x λb=>if b=a9 then c S a Q else Q (.bl bt) a
noncomputable def JX(t c:u9):u9:=λS M Q=>t S M λx a=>N0 x λb=>if b=a9 then Q (.bl a9) a else c S a Q
noncomputable def Dm(t:u9):u9:=λS M Q=>t S M λx a=>match x with
 |.bl b=>Q (.bl<|!b) a
 |_=>False
theorem d_one{op}(h:DE X a ta):DE X (.BoolOp op [a] pos) ta:=HV h
theorem d_and(j:DE X a ta)(l:DE X (.BoolOp .And (b::aY) pos) tb):DE X (.BoolOp .And (a::b::aY) pos) (nL ta tb):=by
 refine PE.imp (Ic j l) ?_;rintro σ H R ⟨S,M,ρ,Q,s,r,q,k⟩;refine⟨S,M,ρ,_,s,r,q,?_⟩;rintro v i ⟨d,f,e,h,g1,m,g⟩;cases m with
 |bl c =>
  cases c with
  |true=>exact⟨a9,rfl,bH ⟨S,f,e,Q,h,r.grow g1,(show tb S f Q from g),λv H' w=>k v H'<|VQ.trans g1 w⟩⟩
  |false=>exact⟨bt,rfl,bE<|k _ i ⟨_,f,e,h,g1,.bl bt,(show Q (.bl bt) f from g)⟩⟩
 |_=>exact g.elim
theorem d_or(j:DE X a ta)(l:DE X (.BoolOp .Or (b::aY) pos) tb):DE X (.BoolOp .Or (a::b::aY) pos) (JX ta tb):=by
 refine PE.imp (pe_or j l) ?_;rintro σ H R ⟨S,M,ρ,Q,s,r,q,k⟩;refine⟨S,M,ρ,_,s,r,q,?_⟩;rintro v i ⟨d,f,e,h,g1,m,g⟩;cases m with
 |bl c =>
  cases c with
  |false=>exact⟨bt,rfl,bE ⟨S,f,e,Q,h,r.grow g1,(show tb S f Q from g),λv H' w=>k v H'<|VQ.trans g1 w⟩⟩
  |true=>exact⟨a9,rfl,bH<|k _ i ⟨_,f,e,h,g1,.bl a9,(show Q (.bl a9) f from g)⟩⟩
 |_=>exact g.elim
theorem d_not(h:DE X a ta):DE X (.UnaryOp .Not a pos) (Dm ta):=by
 refine PE.imp (HX h) ?_;rintro σ H R ⟨S,M,ρ,Q,s,j,q,k⟩;refine⟨S,M,ρ,_,s,j,q,?_⟩;rintro v f ⟨d,g,b,i,g1,r,e⟩;cases r with
 |bl c=>exact⟨c,rfl,k _ f ⟨_,g,b,i,g1,.bl<|!c,e⟩⟩
 |_=>exact e.elim
noncomputable def dIfE(t:F5)(c d:u9):u9:=λS M Q=>t S M λb a=>if b=a9 then c S a Q else d S a Q
theorem Gx(j:DT X t tA)(h:DE X a ta)(i:DE X b tb):DE X (.IfExp t a b pos) (dIfE tA ta tb):=by
 refine PE.imp (BU j h i) ?_;rintro σ H R ⟨S,M,ρ,Q,s,r,q,k⟩;refine⟨S,M,ρ,_,s,r,q,?_⟩;rintro c l ⟨e,d,g,g1,f⟩;cases c with
 |true=>exact bH ⟨S,e,d,Q,g,r.grow g1,(show ta S e Q from f),λv H' w=>k v H'<|VQ.trans g1 w⟩
 |false=>exact bE ⟨S,e,d,Q,g,r.grow g1,(show tb S e Q from f),λv H' w=>k v H'<|VQ.trans g1 w⟩
variable{e:h8}{es:List h8}{te:u9}{t:F4}
noncomputable def af:F4:=λ_ M Q=>Q [] M
noncomputable def aa(te:u9)(t:F4):F4:=λS M Q=>te S M λd a=>t S a λds b=>Q (d::ds) b
theorem JR:DA X [] af:=by refine PA.imp Ie ?_;rintro σ H R ⟨S,M,ρ,Q,s,e,q,k⟩;exact k [] H ⟨[],M,ρ,s,.refl,.nil,q⟩
theorem Gv(h:DE X e te)(j:DA X es t)(hs:i6 (e::es) X.env=(bt,eval e X.env)::i6 es X.env:=by rfl):DA X (e::es) (aa te t):=by refine PA.imp (EW h j hs) ?_;rintro σ H R ⟨S,M,ρ,Q,s,r,q,k⟩;refine⟨S,M,ρ,_,s,r,q,?_⟩;rintro v u ⟨d,f,c,p,g1,n,l⟩;refine⟨S,f,c,_,p,r.grow g1,l,?_⟩;rintro vs b ⟨ds,g,a,w,i,o,m⟩;exact k _ b ⟨d::ds,g,a,w,g1.trans i,.cons (n.grow i) o,m⟩
noncomputable def fH(t:F4):u9:=λS M Q=>t S M λds a=>ds.length<=sizeLine/\Q (.tup ds) a
noncomputable def iV(t:F4):u9:=λS M Q=>t S M λds a=>ds.length<=sizeLine/\Q (.ref a.length) (a++[.lst ds])
theorem VQ.laidT{K:u0}{ρ c:List c8}{H a:Hp}{M:t5}{ds:List D}{vs:List V}{Q:DK}{p:c8}(f:u8 K c M a)(g1:Grow K ρ H c a)(r:Reps K c a ds vs)(h:a p=a8)(q:Q (.tup ds) M):VQ K ρ H Q (.ref p) (v4 a p<|.tup vs):=⟨.tup ds,M,c,f.laid h,g1.trans<|Grow.laid h,.tup (z0.of aK)<|r.grow<|Grow.laid h,q⟩
theorem VQ.laidL{K:u0}{ρ c:List c8}{H a:Hp}{M:t5}{ds:List D}{vs:List V}{Q:DK}{p:c8}(f:u8 K c M a)(g1:Grow K ρ H c a)(r:Reps K c a ds vs)(h:a p=a8)(q:Q (.ref M.length) (M++[.lst ds])):VQ K ρ H Q (.ref p) (v4 a p<|.lst vs):=⟨.ref M.length,M++[.lst ds],c++[p],f.laidL h r,g1.trans<|Grow.laidR h,.ref f.last,q⟩
theorem d_tup{x1}(h:DA X es t):DE X (.Tuple es x1 pos) (fH t):=by refine PE.imp (HR h) ?_;rintro σ H R ⟨S,M,ρ,Q,s,e,q,k⟩;refine⟨S,M,ρ,_,s,e,q,?_⟩;rintro vs d ⟨ds,g,b,f,g1,r,z,c⟩;exact⟨by rw[<-r.length];exact z,λp a=>k _ _<|VQ.laidT f g1 r a c⟩
theorem d_lst(h:DA X es t):DE X (.List es pos) (iV t):=by refine PE.imp (HZ h) ?_;rintro σ H R ⟨S,M,ρ,Q,s,e,q,k⟩;refine⟨S,M,ρ,_,s,e,q,?_⟩;rintro vs d ⟨ds,g,b,f,g1,r,z,c⟩;exact⟨by rw[<-r.length];exact z,λp a=>k _ _<|VQ.laidL f g1 r a c⟩
noncomputable def r9(r:D1)(t:F4):u9:=λS M Q=>t S M λds a=>r ds a Q
theorem zW{K:u0}{r:D1}(σ:St)(H:Hp)(R:VK)(h:lowE K (r9 r t) σ H R):O6 (lowC K r) (lowA K t) σ H R:=by obtain⟨S,M,ρ,Q,s,e,q,k⟩:=h;refine⟨S,M,ρ,_,s,e,q,?_⟩;rintro vs g ⟨ds,a,c,f,g1,d,b⟩;exact⟨ds,a,c,Q,f,d,b,λv H' w=>k v H'<|VQ.trans g1 w⟩
theorem Gz{x:c5}{p:i4}{id:String}{r:D1}(c:nN X (.builtin id) r)(d:X.mg x=a8)(v:d9 x=a7 (.builtin id))(f:DA X (e::es) t)(S:Gl X x:=by rfl)(n:x≠"__name__":=by decide)(b:(x==("__debug__":c5))=bt:=by decide)(i:i6 (e::es) X.env=(bt,eval e X.env)::i6 es X.env:=by rfl) (l:(i5 pos<|i6 es X.env).any (·.1)=bt:=by rfl):DE X (.Call (.Name x p) (e::es) [] pos) (r9 r t):=PE.imp (BX c S d v f n b i l) zW
theorem Dl(c:nN X (.type T) r)(d:X.mg x=a8)(v:d9 x=a7 (.type T))(f:DA X (e::es) t)(S:Gl X x:=by rfl)(n:x≠"__name__":=by decide)(b:(x==("__debug__":c5))=bt:=by decide)(i:i6 (e::es) X.env=(bt,eval e X.env)::i6 es X.env:=by rfl) (l:(i5 pos<|i6 es X.env).any (·.1)=bt:=by rfl):DE X (.Call (.Name x p) (e::es) [] pos) (r9 r t):=PE.imp (zy c S d v f n b i l) zW
noncomputable abbrev v8:=List D->t5->DK->Prop
noncomputable def Lf(K:u0)(P:v8):Sp:=λvs H Q _=>∃ds M ρ R,u8 K ρ M H/\Reps K ρ H ds vs/\P ds M R/\∀v H',VQ K ρ H R v H'->Q v H'
theorem zU{K:u0}{P:v8}(σ:St)(H:Hp)(R:VK)(h:lowE K (r9 P t) σ H R):Hk (Lf K P) [] E0 (lowA K t) σ H R:=by obtain⟨S,M,ρ,Q,s,e,q,k⟩:=h;exact⟨S,M,ρ,_,s,e,q,λvs d ⟨ds,a,c,f,g1,r,b⟩=>⟨ds,a,c,Q,f,by rw[I9];exact r,b,λv H' w=>k v H'<|VQ.trans g1 w⟩⟩
theorem JW(F:FnOk X.prog X.w X.K X.mg X.base E9 k f fd ps (Lf X.K P))(r:Room k X.A)(m:X.mg x=a7 (.ref f))(h:L8 X.K (.ref f)=a9)(d:tM X.K fd ps [])(a:DA X (e::es) t) (S:Gl X x:=by rfl) (b:(x==("__debug__":c5))=bt:=by decide) (i:i6 (e::es) X.env=(bt,eval e X.env)::i6 es X.env:=by rfl) (l:(i5 pos<|i6 es X.env).any (·.1)=bt:=by rfl):DE X (.Call (.Name x p) (e::es) [] pos) (r9 P t):=PE.imp (EV F r S m h d .nil pass0 a b i l) zU
end
section
variable{X:Cx}{st:i7}{aY:List i7}{t u:p9}{e:h8}{te:u9}{pos:i4}
noncomputable def bf:p9:=λE S M=>E.nx S M
noncomputable def aB(t u:p9):p9:=λE S M=>t { E with nx:=λb a=>u E b a } S M
theorem JJ:Lg X [] bf:=by refine J4.imp EM ?_;rintro E σ H ⟨S,M,ρ,F,s,e,q,k⟩;exact k.nx σ H ⟨S,M,ρ,s,.refl,e,q⟩
theorem JI(h:DS X st t):Lg X [st] t:=EL h
theorem Gk(h1:DS X st t)(h2:Lg X aY u):Lg X (st::aY) (aB t u):=by refine J4.imp (BN h1 h2) ?_;rintro E σ H ⟨S,M,ρ,F,s,e,q,k⟩;exact⟨S,M,ρ,_,s,e,q,⟨λf H' ⟨d,c,b,s',g,a,j⟩=>⟨d,c,b,F,s',a,j,k.trans g⟩,k.rt,k.bk,k.ct⟩⟩
noncomputable def lq(te:u9):p9:=λE S M=>te S M λ_ a=>E.nx S a
theorem Gj(i:DE X e te)(hs:i9 e a8 pos.line X.env=pure bt:=by rfl):DS X (.Expr e pos) (lq te):=by refine PS.imp (EN i hs) ?_;rintro E σ H ⟨S,M,ρ,F,s,r,q,k⟩;refine⟨S,M,ρ,_,s,r,q,?_⟩;rintro v a ⟨d,b,c,g,g1,h,f⟩;exact k.nx σ a ⟨S,b,c,g,g1,r.grow g1,f⟩
noncomputable def bq(te:u9):p9:=λE S M=>te S M E.rt
theorem JH(i:DE X e te):DS X (.Return (a7 e) pos) (bq te):=by refine PS.imp (HL i) ?_;rintro E σ H ⟨S,M,ρ,F,s,r,q,k⟩;exact⟨S,M,ρ,_,s,r,q,λv a w=>k.rt v a w⟩
noncomputable def A1(c:F5)(t u:p9):p9:=λE S M=>c S M λb a=>if b=a9 then t E S a else u E S a
theorem ds_if(j:DT X c tc)(h:Lg X a t)(i:Lg X b u):DS X (.If c a b pos) (A1 tc t u):=by
 refine PS.imp (ps_if j h i) ?_;rintro E σ H ⟨S,M,ρ,F,s,r,q,k⟩;refine⟨S,M,ρ,_,s,r,q,?_⟩;rintro c l ⟨e,d,g,g1,f⟩;cases c with
 |true=>exact bH ⟨S,e,d,F,g,r.grow g1,(show t F S e from f),k.trans g1⟩
 |false=>exact bE ⟨S,e,d,F,g,r.grow g1,(show u F S e from f),k.trans g1⟩
noncomputable def aT(te:u9)(i:Nat):p9:=λE S M=>te S M λd a=>E.nx (S.set i<|a7 d) a
theorem JG(h:X.N.Nodup)(f:DE X e te)(hi:X.N[i]?=a7 x:=by rfl)(j:L1 X.env.scope x:=by first|exact Or.inl rfl|exact Or.inr rfl)(hs:i9 e (a7<|.Name x pos') pos.line X.env=pure bt:=by rfl)(g:X.fn x=a9\/X.env.scope.names.lookup x=a7 .local:=by first|exact .inl rfl|exact .inr rfl|assumption):DS X (.Assign [.Name x pos'] e pos) (aT te i):=by refine PS.imp (HK h hi j f hs g) ?_;rintro E σ H ⟨S,M,ρ,F,s,r,q,k⟩;refine⟨S,M,ρ,_,s,r,q,?_⟩;rintro v a ⟨d,b,c,n,g1,m,l⟩;exact k.nx _ a ⟨_,b,c,n,g1,(r.grow g1).set i m,l⟩
noncomputable def ao(i:Nat):Ix:=λd S M Q=>Q (S.set i<|a7 d) M
theorem uV(h:X.N.Nodup)(hi:X.N[i]?=a7 x:=by rfl)(a:L1 X.env.scope x:=by first|exact Or.inl rfl|exact Or.inr rfl)(f:X.fn x=a9\/X.env.scope.names.lookup x=a7 .local:=by first|exact .inl rfl|exact .inr rfl|assumption):DG X (.Name x pos) (ao i):=λp s σ H v u R I r ⟨d,S,M,ρ,Q,m,e,b,q,k⟩=>ES h hi a f p s σ H v u R I r<|k _ H ⟨_,M,ρ,m,.refl,e.set i b,q⟩
end
theorem xh{P:c7}{w:c6}{K:u0}{Z:h8}(it:c8)(n:Nat)(M:Nat->c4->Prop)(PX:Nat->V->Prop)(Sx:Nat->d5->Prop)(W:∀A':e8,A'.handled=a8->Walks P w A' it [it] [it] n M Sx) (l:∀i v,M i v->∃x,aM x v/\PX i x)(j:∀i h,Sx i h->∃(o:c9) (nm:String) (vs:Array c4),h.get? it=a7 o/\o.cls=.type nm/\o.data=.fields vs/\["enumerate","zip","dict_itemiterator","dict_reverseitemiterator","odict_iterator","itertools.zip_longest","itertools.pairwise"].contains nm=bt)(a:∀(i:Nat) (h h':d5),Sx i h->(∀o,h.get? it=a7 o->h'.get? it=a7 o)->Sx i h')(g:∀(A:e8) (i:Nat) (s:e9) (Q:c4->e9->Prop) (E:c4->e9->Prop),Sx i s.heap->Q (.ref it) s->f9 (i3 P w) A (j4<|.ref it) Q E s):Turn P w K Z ⟨λi _=>i<n,λi H x H'=>H'=H/\PX i x,λi _=>i=n⟩ [it] it Sx where
 mem:=by simp
 obj:=λi h st b f=>by
  have e:b=it:=by simpa using f
  subst e;obtain⟨o,nm,vs,e,_,d,_⟩:=j i h st;exact⟨o,e,λv z=>by rw[d]at z;cases z⟩
 keep:=λi h h' st k=>a i h h' st λo e=>k it (by simp) o e
 item:=by intro X D G C F i p s σ H E I q st S;subst D G C;obtain⟨r,t,O,u,y,B⟩:=q it (by simp);refine(W X.A<|I.ok.hd F).item i s _ _ S st λv h' L T m J=>?_;obtain⟨x,Y,U⟩:=l i v T;have N:p8 X p σ H { s with heap:=h',toks:=L }:=I.turned (λb o f e=>J b o (by simpa using f) e) r t u y B;obtain⟨o,nm,vs,e,c,d,R⟩:=j _ _ m;exact⟨v,rfl,xT (s:={ s with heap:=h',toks:=L }) e c d R ⟨x,H,N,Y,⟨rfl,U⟩,m,λb f=>(q b f).1⟩⟩
 done:=by intro X D G C F i p s σ H E I q st S;subst D G C;obtain⟨r,t,O,u,y,B⟩:=q it (by simp);have hi:i=n:=S;subst hi;exact(W X.A<|I.ok.hd F).done s _ _ st λh' L J=>⟨rfl,I.turned (λb o f e=>J b o (by simpa using f) e) r t u y B⟩
 self:=g
noncomputable def zf(x:c5):List D:=x.cps.toList.map λc=>.str ⟨#[c]⟩
structure Pb where
 items:List D
 ok:t5->Prop
noncomputable abbrev Ky:=SD->t5->(Pb->t5->Prop)->Prop
structure Kx(K:u0)(src:Pb)(ρ0:List c8)(H0:Hp)(J:It):Prop where
 go:∀(i:Nat) ρ M H,u8 K ρ M H->Grow K ρ0 H0 ρ H->src.ok M->i<src.items.length->J.go i H
 yld:∀(i:Nat) ρ M H x H',u8 K ρ M H->Grow K ρ0 H0 ρ H->src.ok M->i<src.items.length->J.yld i H x H'->∃d ρ',src.items[i]?=a7 d/\u8 K ρ' M H'/\Grow K ρ H ρ' H'/\t9 K ρ' H' d x
 stop:∀(ρ:List c8) M H,u8 K ρ M H->Grow K ρ0 H0 ρ H->src.ok M->J.stop src.items.length H
noncomputable def IQ(K:u0)(ρ:List c8)(H:Hp)(Q:Pb->t5->Prop):It->Hp->Prop:=λJ H'=>∃src M a,u8 K a M H'/\Grow K ρ H a H'/\Kx K src a H' J/\Q src M
noncomputable def lowI(K:u0)(i:Ky):TI:=λσ H R=>∃S M ρ Q,u8 K ρ M H/\SRep K ρ H S σ/\i S M Q/\∀J H',IQ K ρ H Q J H'->R J H'
noncomputable def DI(X:Cx)(g r:h8)(i:Ky):Prop:=PI X g r<|lowI X.K i
theorem Kx.tup{K:u0}{ρ:List c8}{H:Hp}{a:c8}{vs:List V}{ds:List D}(h:z0 K H a vs)(r:Reps K ρ H ds vs)(q:∀ys,z0 K H a ys->ys=vs):Kx K ⟨ds,λ_=>True⟩ ρ H (PP K a) where
 go:=λi b M H' s g _ hi=>by
  have l:i<vs.length:=by rw[<-r.length];exact hi
  exact⟨vs,vs[i],g.tup a vs h,v9 l⟩
 yld:=λi b M H' x f s g _ hi y=>by obtain⟨rfl,y⟩:=y;obtain⟨d,c,e⟩:=(r.grow g).getV<|y vs<|g.tup a vs h;exact⟨d,b,c,s,.refl,e⟩
 stop:=λb M H' s g _=>⟨vs,g.tup a vs h,by rw[<-r.length];exact u6 _⟩
theorem Kx.lst{K:u0}{ρ:List c8}{H:Hp}{n:Nat}{a:c8}{ds:List D}(e:ρ[n]?=a7 a):Kx K ⟨ds,λM=>ax M n ds⟩ ρ H (PQ K a) where
 go:=λi b M H' s g ok hi=>by
  obtain⟨vs,h,r⟩:=ax.seq s ok<|aE g.pre e;have l:i<vs.length:=by rw[<-r.length];exact hi
  exact⟨vs,vs[i],h,v9 l⟩
 yld:=λi b M H' x j s g ok hi y=>by obtain⟨rfl,y⟩:=y;obtain⟨vs,h,r⟩:=ax.seq s ok<|aE g.pre e;obtain⟨d,c,f⟩:=r.getV<|y vs h;exact⟨d,b,c,s,.refl,f⟩
 stop:=λb M H' s g ok=>by obtain⟨vs,h,r⟩:=ax.seq s ok<|aE g.pre e;exact⟨vs,h,by rw[<-r.length];exact u6 _⟩
theorem Kx.plain{K:u0}{ρ:List c8}{H:Hp}{ds:List D}{J:It}(S:∀i H,i<ds.length->J.go i H)(O:∀i H x H',i<ds.length->J.yld i H x H'->H'=H/\∃d,ds[i]?=a7 d/\cV d=a7 x)(hs:∀H,J.stop ds.length H):Kx K ⟨ds,λ_=>True⟩ ρ H J where
 go:=λi a M H' s g _ hi=>S i H' hi
 yld:=λi a M H' x b s g _ hi y=>by obtain⟨rfl,d,h,c⟩:=O i _ x b hi y;exact⟨d,a,h,s,.refl,AZ c⟩
 stop:=λa M H' s g _=>hs H'
section
variable{X:Cx}{tg:h8}
noncomputable def bI(te:u9):Ky:=λS M R=>te S M λd a=>match d with
 |.tup ds=>ds.length<=sizeLine->R ⟨ds,λ_=>True⟩ a
 |.str x=>R ⟨zf x,λ_=>True⟩ a
 |.ref n=>∃xs,ax a n xs/\(xs.length<=sizeLine->R ⟨xs,λM=>ax M n xs⟩ a)
 |_=>False
theorem JM(hl:DE X l tl):DI X tg l (bI tl):=by
 intro m s σ H R I h;obtain⟨S,M,ρ,Q,sm,sr,q,k⟩:=h;refine ve (hl m s σ H _ I ⟨S,M,ρ,_,sm,sr,q,λv H' w=>w⟩) ?_;rintro u f ⟨v,D,g,U,d,F,C,j,g1,r1,B⟩;cases r1 with
 |non=>exact B.elim
 |bl b=>exact B.elim
 |int i=>exact B.elim
 |ty n=>exact B.elim
 |@tup a vs ds K r =>
  cases U;obtain⟨its,rr,p,T⟩:=g.tuple K;refine wpAny_pyIter_tuple (show f.heap.IsTuple a its.toArray from p) ?_;refine⟨f.heap.objs.size,[f.heap.objs.size],_,_,D,rfl,g.kept (t':=f.toks) λb o e=>v5 _ e,xi a _,⟨_,z6 _ rfl,rfl,rfl⟩,λb J=>?_,k _ D ⟨⟨ds,λ_=>True⟩,F,C,j,g1,Kx.tup K r λys hy=>g.tuple_inj hy K,?_⟩⟩;have e:b=f.heap.objs.size:=by simpa using J
  subst e;exact g.fpOk (u6 _)<|g.hok.fresh<|u6 _;exact(show ds.length<=sizeLine->Q ⟨ds,λ_=>True⟩ F from B)<|by rw[r.length];exact T
 |@ref n a Y =>
  cases U;obtain⟨xs,hL,q2⟩:=(show ∃xs,ax F n xs/\(xs.length<=sizeLine->Q ⟨xs,λM=>ax M n xs⟩ F)from B)
  obtain⟨vs,K,r⟩:=ax.seq j hL Y;obtain⟨its,rr,p,T⟩:=g.list K;refine wpAny_pyIter_list p.isList ?_;refine⟨f.heap.objs.size,[f.heap.objs.size],_,_,D,rfl,g.kept (t':=f.toks) λb o e=>v5 _ e,yy a _,⟨_,z6 _ rfl,rfl,rfl⟩,λb J=>?_,k _ D ⟨⟨xs,λM=>ax M n xs⟩,F,C,j,g1,Kx.lst Y,q2<|by rw[r.length];exact T⟩⟩;have e:b=f.heap.objs.size:=by simpa using J
  subst e;exact g.fpOk (u6 _)<|g.hok.fresh<|u6 _
 |str x =>
  obtain⟨t,rfl⟩:=U;have G:∀(z:String) (L:c9),(L.cls=.type z/\L.data=.fields #[.str x t,.int 0 0]) -> (∀N:e8,N.handled=a8->Walks X.prog X.w N f.heap.objs.size [f.heap.objs.size] [f.heap.objs.size] x.cps.size (SignAt x) (λi h=>h.IsStrIter f.heap.objs.size z x t i)) -> (∀(A:e8) (i:Nat) (s:e9) (Q:c4->e9->Prop) (E:c4->e9->Prop),s.heap.IsStrIter f.heap.objs.size z x t i->Q (.ref f.heap.objs.size) s->f9 (i3 X.prog X.w) A (j4<|.ref f.heap.objs.size) Q E s) -> ["enumerate","zip","dict_itemiterator","dict_reverseitemiterator","odict_iterator","itertools.zip_longest","itertools.pairwise"].contains z=bt->(f.heap.push L).IsStrIter f.heap.objs.size z x t 0 -> N9 X m σ tg R (.ref f.heap.objs.size) { f with heap:=f.heap.push L }:=λz L ai W y P st=>by
   refine⟨f.heap.objs.size,[f.heap.objs.size],_,_,D,rfl,g.kept (t':=f.toks) λb o e=>v5 _ e,xh (PX:=λi v=>∃c,x.cps[i]?=a7 c/\v=.str ⟨#[c]⟩) _ _ _ _ W (λi v ⟨c,u,Z,e2⟩=>⟨.str ⟨#[c]⟩,⟨u,e2⟩,c,Z,rfl⟩) (λi h st=>?_) (λi h h' st k=>?_) y,st,λb J=>?_,k _ D ⟨⟨zf x,λ_=>True⟩,F,C,j,g1,Kx.plain ?_ ?_ ?_,B⟩⟩;obtain⟨o,e,c,d⟩:=st;exact⟨o,z,_,e,c,d,P⟩;obtain⟨o,e,r⟩:=st;exact⟨o,k o e,r⟩;have e:b=f.heap.objs.size:=by simpa using J
   subst e;exact g.fpOk (u6 _)<|g.hok.fresh<|u6 _;intro i _ hi;simpa [zf]using hi;rintro i H x' H' _ ⟨rfl,c,e,rfl⟩;exact⟨rfl,.str ⟨#[c]⟩,by simp[zf,e],rfl⟩;intro H;simp[zf]
  cases V:x.cps.all (· < 128);exact wpAny_pyIter_wide V<|G _ _ ⟨rfl,rfl⟩ (λN O=>Walks.strWide O _ x t) (λ_ _ _ _ _ st h=>wpAny_pyIter_striter_wide st h) (by decide) ⟨_,z6 _ rfl,rfl,rfl⟩;exact wpAny_pyIter_ascii V<|G _ _ ⟨rfl,rfl⟩ (λN O=>Walks.strAscii O _ x t) (λ_ _ _ _ _ st h=>wpAny_pyIter_striter_ascii st h) (by decide) ⟨_,z6 _ rfl,rfl,rfl⟩
noncomputable def tN(l:Int)(n:Nat):List D:=(A2 n).map λi=>.int<|l+((i:Nat):Int)
theorem Kx.rng{K:u0}{ρ:List c8}{H:Hp}(l:Int)(n:Nat):Kx K ⟨tN l n,λ_=>True⟩ ρ H (Nx l n):=by
 refine Kx.plain (λi _ hi=>?_) (λi H x H' hi y=>?_) λH=>?_;show i<n;simpa [tN]using hi;obtain⟨e,rfl⟩:=y;have h:i<n:=by simpa [tN]using hi
 exact⟨e,.int<|l+i,by simp[tN,h],rfl⟩;show n<=(tN l n).length;simp[tN]
noncomputable def eH(t:F4):Ky:=λS M R=>t S M λds a=>match ds with
 | [.int j]=>(-(2 ^ 62)<=j/\j<2 ^ 62)/\R ⟨tN 0 j.toNat,λ_=>True⟩ a
 |_=>False
noncomputable def qw(t:F4):Ky:=λS M R=>t S M λds a=>match ds with
 | [.int i,.int j]=>(-(2 ^ 62)<=i/\i<2 ^ 62/\-(2 ^ 62)<=j/\j<2 ^ 62)/\R ⟨tN i (j-i).toNat,λ_=>True⟩ a
 |_=>False
theorem PI.imp(h:PI X tg iter t')(i:∀σ H R,t σ H R->t' σ H R):PI X tg iter t:=λp s σ H R I q=>h p s σ H R I<|i σ H R q
theorem AO(m:X.mg "range" = a8)(h:DA X [a] ta)(g:Gl X "range":=by rfl)(hs:i6 [a] X.env=[(bt,eval a X.env)]:=by rfl):DI X tg (.Call (.Name "range" p) [a] [] pos) (eH ta):=by
 refine PI.imp (zw g m h hs) ?_;rintro σ H R ⟨S,M,ρ,Q,s,n,q,k⟩;refine⟨S,M,ρ,_,s,n,q,?_⟩;rintro vs e ⟨ds,f,d,l,g1,b,c⟩
 try dsimp only at c
 split at c;rename_i j;obtain⟨⟨h1,h2⟩,i⟩:=c
 first|have z:=Reps.inv_cons b|have z:=aC.inv_cons b
 clear b;obtain⟨_,_,rfl,r,t⟩:=z;cases r;cases t;exact⟨j,rfl,h1,h2,k _ e ⟨_,f,d,l,g1,Kx.rng 0 j.toNat,i⟩⟩;exact c.elim
theorem AN(o:X.mg "range" = a8)(m:DA X [a,b] ta)(n:Gl X "range":=by rfl)(hs:i6 [a,b] X.env=[(bt,eval a X.env),(bt,eval b X.env)]:=by rfl)(d:i6 [b] X.env=[(bt,eval b X.env)]:=by rfl):DI X tg (.Call (.Name "range" p) [a,b] [] pos) (qw ta):=by
 refine PI.imp (zv n o m hs d) ?_;rintro σ H R ⟨S,M,ρ,Q,s,w,q,k⟩;refine⟨S,M,ρ,_,s,w,q,?_⟩;rintro vs g ⟨ds,l,f,v,g1,e,c⟩
 try dsimp only at c
 split at c;rename_i i j;obtain⟨h,u⟩:=c
 first|have z:=Reps.inv_cons e|have z:=aC.inv_cons e
 clear e;obtain⟨_,_,rfl,r,t⟩:=z;cases r;cases t with
 |cons r t=>cases r;cases t;exact⟨i,j,rfl,h,k _ g ⟨_,l,f,v,g1,Kx.rng i (j-i).toNat,u⟩⟩
 exact c.elim
end
section
mutual
inductive A5(k:Nat):D->Prop
 |non:A5 k .non
 |bl (b:Bool):A5 k (.bl b)
 |int (i:Int):A5 k (.int i)
 |str (x:c5):A5 k (.str x)
 |ty (n:String):A5 k (.ty n)
 |tup {ds:List D} (h:Bels k ds):A5 k (.tup ds)
 |ref {n:Nat} (h:n<k):A5 k (.ref n)
inductive Bels(k:Nat):List D->Prop
 |nil:Bels k []
 |cons {d:D}{ds:List D} (h:A5 k d) (t:Bels k ds):Bels k (d::ds)
end
noncomputable def MO.items:MO->List D
 |.lst xs=>xs
 |.fz xs=>xs
 |.kl xs=>xs
 |.dct kvs=>kvs.map (·.2)
 |.dkt kvs=>kvs.map (·.2)
 |.dkq kvs=>kvs.map (·.2)
 |.fdc _ kvs=>kvs.map (·.2)
 |.dkm kvs=>kvs.map (·.2)
 |.tb _ _=>[]
 |.exc _=>[]
theorem t9.bel{K:u0}{ρ:List c8}{H:Hp}{d:D}{v:V}(h:t9 K ρ H d v):A5 ρ.length d:=t9.rec (motive_1:=λd v _=>A5 ρ.length d) (motive_2:=λds vs _=>Bels ρ.length ds) .non .bl .int .str .ty (λ_ _ r=>.tup r) (λh=>.ref (w6.mp h).1) .nil (λ_ _ h t=>.cons h t) h
theorem Reps.bel{K:u0}{ρ:List c8}{H:Hp}{ds:List D}{vs:List V}(h:Reps K ρ H ds vs):Bels ρ.length ds:=Reps.rec (motive_1:=λd v _=>A5 ρ.length d) (motive_2:=λds vs _=>Bels ρ.length ds) .non .bl .int .str .ty (λ_ _ r=>.tup r) (λh=>.ref (w6.mp h).1) .nil (λ_ _ h t=>.cons h t) h
theorem A5.inv(b:A5 k d):(∀ds,d=.tup ds->Bels k ds)/\∀n,d=.ref n->n<k:=by
 cases b with
 |tup b=>exact⟨(λ_ e=>by injection e with e;exact e ▸ b),(λ_ e=>by cases e)⟩
 |ref b=>exact⟨(λ_ e=>by cases e),(λ_ e=>by injection e with e;exact e ▸ b)⟩
 |_=>exact⟨(λ_ e=>by cases e),(λ_ e=>by cases e)⟩
theorem Bels.inv{k:Nat}{d:D}{ds:List D}(b:Bels k (d::ds)):A5 k d/\Bels k ds:=by
 cases b with
 |cons b c=>exact⟨b,c⟩
theorem t9.cut{K:u0}{ρ:List c8}{H:Hp}{k:Nat}{d:D}{v:V}(h:t9 K ρ H d v):A5 k d->t9 K (ρ.take k) H d v:=t9.rec (motive_1:=λd v _=>A5 k d->t9 K (ρ.take k) H d v) (motive_2:=λds vs _=>Bels k ds->Reps K (ρ.take k) H ds vs) (λ_=>.non) (λb _=>.bl b) (λb _=>.int b) (λb _=>.str b) (λb _=>.ty b) (λh _ r b=>.tup h<|r<|b.inv.1 _ rfl)
  (λh b=>.ref<|by rw[MN<|b.inv.2 _ rfl];exact h) (λ_=>.nil) (λ_ _ h t b=>.cons (h b.inv.1)<|t b.inv.2) h
theorem Reps.cut{K:u0}{ρ:List c8}{H:Hp}{k:Nat}{ds:List D}{vs:List V}(h:Reps K ρ H ds vs):Bels k ds->Reps K (ρ.take k) H ds vs:=Reps.rec (motive_1:=λd v _=>A5 k d->t9 K (ρ.take k) H d v) (motive_2:=λds vs _=>Bels k ds->Reps K (ρ.take k) H ds vs) (λ_=>.non) (λb _=>.bl b) (λb _=>.int b) (λb _=>.str b) (λb _=>.ty b) (λh _ r b=>.tup h<|r<|b.inv.1 _ rfl)
  (λh b=>.ref<|by rw[MN<|b.inv.2 _ rfl];exact h) (λ_=>.nil) (λ_ _ h t b=>.cons (h b.inv.1)<|t b.inv.2) h
theorem A5.mono{j k:Nat}(h:j<=k){d:D}(b:A5 j d):A5 k d:=A5.rec (motive_1:=λd _=>A5 k d) (motive_2:=λds _=>Bels k ds) .non .bl .int .str .ty (λ_ b=>.tup b) (λb=>.ref<|G0 b h) .nil (λ_ _ b c=>.cons b c) b
theorem Bels.mono{j k:Nat}(h:j<=k){ds:List D}(b:Bels j ds):Bels k ds:=Bels.rec (motive_1:=λd _=>A5 k d) (motive_2:=λds _=>Bels k ds) .non .bl .int .str .ty (λ_ b=>.tup b) (λb=>.ref<|G0 b h) .nil (λ_ _ b c=>.cons b c) b
theorem Bels.of:∀{xs:List D},(∀d∈xs,A5 k d)->Bels k xs
 | [],_=>.nil
 |d::ds,h=>.cons (h d C6)<|Bels.of λe he=>h e<|A0 _ he
section
variable{K:u0}{ρ ρ':List c8}{H H':Hp}{M M':t5}
theorem wH:∀(n:Nat) (d:D),cW n d=a9->A5 k d:=by
 intro n;induction n with
 |zero =>
  intro d h;cases d with
  |str x=>exact .str x
  |int x=>exact .int x
  |_=>cases h
 |succ n i =>
  intro d h;cases d with
  |str x=>exact .str x
  |int x=>exact .int x
  |tup ds=>exact .tup<|Bels.of λx a=>i x<|E6.mp (show ds.all (cW n)=a9 from h) x a
  |_=>cases h
theorem Ai(r:Paired (yj K ρ H) kvs xs):Bels ρ.length (kvs.map (·.2)):=by
 induction r with
 |nil=>exact .nil
 |cons q _ i=>obtain⟨_,_,_,v,u,_⟩:=q;exact .cons u.bel i
theorem Ah(r:Paired (yj K ρ H) kvs xs)(b:Bels k (kvs.map (·.2))):Paired (yj K (ρ.take k) H) kvs xs:=by
 induction r with
 |nil=>exact .nil
 |cons q _ i =>
  obtain⟨d,j,e,v,u,l⟩:=q;rw[C0]at b;cases b with
  |cons a c=>exact .cons ⟨d,j,e.cut<|wH _ _ j,v,u.cut a,l⟩<|i c
theorem CC:∀(d:D),keyM d=a9->A5 k d
 |.non,_=>.non
 |.tup ks,h=>wH 8 _ h
 |.bl _,h=>nomatch h
 |.int _,h=>nomatch h
 |.str _,h=>nomatch h
 |.ty _,h=>nomatch h
 |.ref _,h=>nomatch h
theorem Fv(r:Paired (Oa K ρ H) kvs xs):Bels ρ.length (kvs.map (·.2)):=by
 induction r with
 |nil=>exact .nil
 |cons q _ i=>obtain⟨_,_,_,v,u,_⟩:=q;exact .cons u.bel i
theorem Fu(r:Paired (Oa K ρ H) kvs xs)(b:Bels k (kvs.map (·.2))):Paired (Oa K (ρ.take k) H) kvs xs:=by
 induction r with
 |nil=>exact .nil
 |cons q _ i =>
  obtain⟨d,j,⟨u,e,m⟩,v,f,l⟩:=q;rw[C0]at b;cases b with
  |cons a c=>exact .cons ⟨d,j,⟨u,e.cut<|CC _ j,m⟩,v,f.cut a,l⟩<|i c
theorem yk.bels(h:yk K ρ H a mo):Bels ρ.length mo.items:=by
 cases mo with
 |lst ds=>obtain⟨vs,_,r⟩:=h;exact r.bel
 |fz ds=>obtain⟨o,vs,_,r⟩:=h;exact r.bel
 |kl ds=>obtain⟨vs,_,r⟩:=h;exact r.bel
 |dct s=>obtain⟨vs,_,r⟩:=h;exact r.bel
 |dkt s=>obtain⟨_,_,_,xs,_,r⟩:=h;exact Ai r
 |dkq s=>obtain⟨_,_,_,xs,_,r⟩:=h;exact Ai r
 |fdc o s=>obtain⟨vs,_,r⟩:=h;exact r.bel
 |dkm s=>obtain⟨_,_,_,xs,_,r⟩:=h;exact Fv r
 |tb x b=>exact .nil
 |exc x=>exact .nil
theorem yk.cut(h:yk K ρ H a mo)(b:Bels k mo.items):yk K (ρ.take k) H a mo:=by
 cases mo with
 |lst ds=>obtain⟨vs,e,r⟩:=h;exact⟨vs,e,r.cut b⟩
 |fz ds=>obtain⟨o,vs,e,r⟩:=h;exact⟨o,vs,e,r.cut b⟩
 |kl ds=>obtain⟨vs,e,r⟩:=h;exact⟨vs,e,r.cut b⟩
 |dct s=>obtain⟨vs,e,r⟩:=h;exact⟨vs,e,r.cut b⟩
 |dkt s=>obtain⟨h1,h2,c,xs,e,r⟩:=h;exact⟨h1,h2,c,xs,e,Ah r b⟩
 |dkq s=>obtain⟨h1,h2,c,xs,e,r⟩:=h;exact⟨h1,h2,c,xs,e,Ah r b⟩
 |fdc o s=>obtain⟨vs,e,r⟩:=h;exact⟨vs,e,r.cut b⟩
 |dkm s=>obtain⟨h1,h2,c,xs,e,r⟩:=h;exact⟨h1,h2,c,xs,e,Fu r b⟩
 |tb x b=>exact h
 |exc x=>exact h
theorem u8.bels(S:u8 K ρ M H){n:Nat}{mo:MO}(e:M[n]?=a7 mo):Bels M.length mo.items:=by obtain⟨a,_,h⟩:=S.get e;rw[<-S.len];exact h.bels
theorem u8.cut(S:u8 K ρ M H)(k:Nat)(d:∀(n:Nat) (mo:MO),n<k->M[n]?=a7 mo->Bels k mo.items):u8 K (ρ.take k) (M.take k) H:=by
 have lt:∀{n:Nat}{a:c8},(ρ.take k)[n]?=a7 a->n<k/\ρ[n]?=a7 a:=λ{n a} e=>by
  have h1:=(w6.mp e).1;rw[G2]at h1;have h2:n<k:=by lia
  rw[MN h2]at e;exact⟨h2,e⟩
 refine⟨λn m a h t l=>?_,by rw[G2,G2,S.len],λn a mo t l=>?_⟩;obtain⟨b,f⟩:=lt t;obtain⟨g,c⟩:=lt l;rw[MN b,MN g];exact S.nd n m a h f c;obtain⟨b,f⟩:=lt t;rw[MN b]at l;exact(S.obj n a mo f l).cut<|d n mo b l
theorem SRep.cut(r:SRep K ρ H S σ)(g:S'.length=S.length)(h:∀(i:Nat) d,S'[i]?=a7 (a7 d)->S[i]?=a7 (a7 d)/\A5 k d):SRep K (ρ.take k) H S' σ:=⟨g.trans r.len,λi d e=>let ⟨e',b⟩:=h i d e;let ⟨v,hv,rv⟩:=r.get i d e';⟨v,hv,rv.cut b⟩⟩
theorem Grow.cut(g:Grow K ρ H ρ' H')(h:ρ.length<=k):Grow K ρ H (ρ'.take k) H':=by refine⟨?_,g.tup⟩;obtain⟨t,rfl⟩:=g.pre;rw[List.take_append];rw[NU h];exact F9 _ _
end
inductive FgtS(k:Nat):SD->SD->Prop
 |nil:FgtS k [] []
 |keep {d:D}{S S':SD} (h:A5 k d) (t:FgtS k S S'):FgtS k (a7 d::S) (a7 d::S')
 |drop {o:Option D}{S S':SD} (t:FgtS k S S'):FgtS k (o::S) (a8::S')
theorem FgtS.len(h:FgtS k S S'):S'.length=S.length:=by
 induction h with
 |nil=>rfl
 |keep _ _ i=>rw[C2,C2,i]
 |drop _ i=>rw[C2,C2,i]
theorem FgtS.get(h:FgtS k S S'):∀(i:Nat) d,S'[i]?=a7 (a7 d)->S[i]?=a7 (a7 d)/\A5 k d:=by
 induction h with
 |nil=>intro i d e;simp at e
 |keep b _ a =>
  intro i d e;cases i with
  |zero=>simp at e;subst e;exact⟨rfl,b⟩
  |succ i=>exact a i d<|by simpa using e
 |drop _ a =>
  intro i d e;cases i with
  |zero=>simp at e
  |succ i=>exact a i d<|by simpa using e
noncomputable def A9(a:t5)(P:SD->t5->Prop)(S:SD)(M:t5):Prop:=P S M\/(∃k b,a.length<=k/\FgtS k S b/\(∀(n:Nat) mo,n<k->M[n]?=a7 mo->Bels k mo.items)/\P b (M.take k))\/∃b,FgtS a.length S b/\a <+: M/\P b a
theorem BB{α:Type}{l l':List α}(h:l <+: l'):l'.take l.length=l:=by obtain⟨t,rfl⟩:=h;rw[List.take_append_of_le_length<|u6 _,LA]
theorem SQ.fgt{K:u0}{ρ:List c8}{H:Hp}{M:t5}{P:SD->t5->Prop}{c:St}{H':Hp}(s0:u8 K ρ M H)(h:SQ K ρ H (A9 M P) c H'):SQ K ρ H P c H':=by
 have f:ρ.length<=M.length:=by rw[s0.len];exact u6 _
 obtain⟨i,d,b,s',g,a,j⟩:=h;rcases j with j|⟨k,S,h1,h2,l,q⟩|⟨S,h2,p,q⟩
 exact⟨i,d,b,s',g,a,j⟩;exact⟨S,d.take k,b.take k,s'.cut k l,g.cut<|B9 f h1,a.cut h2.len h2.get,q⟩;have s:=s'.cut M.length λn o m e=>by obtain⟨t,rfl⟩:=p;rw[G9 m]at e;exact s0.bels e
 rw[BB p]at s;exact⟨S,M,b.take M.length,s,g.cut f,a.cut h2.len h2.get,q⟩
noncomputable def tj(ok:t5->Prop)(g:Ix)(tb:p9)(E:DEnds)(k0:t5):List D->SD->t5->Prop
 | [],S,M=>ok M/\E.nx S M
 |x::xs,S,M=>ok M/\g x S M λS2 M2=>tb ⟨A9 k0<|tj ok g tb E k0 xs,E.rt,E.nx,A9 k0<|tj ok g tb E k0 xs⟩ S2 M2
noncomputable def nK(i:Ky)(g:Ix)(b:p9):p9:=λE S M=>i S M λsrc a=>tj src.ok g b E a src.items S a
theorem sV{α:Type}{l:List α}{i:Nat}{x:α}(h:l[i]?=a7 x):l.drop i=x::l.drop (i+1):=by obtain⟨hi,e⟩:=w6.mp h;rw[OW hi,e]
theorem Cm{K:u0}{Q:Ky}{g:Ix}{w:p9}(E:Ends)(σ:St)(H:Hp)(h:lowS K (nK Q g w) E σ H):tFor (lowI K Q) (lowG K g) (lowS K w) E σ H:=by
 obtain⟨S,M,ρ,F,s,V,q,k⟩:=h;refine⟨S,M,ρ,_,s,V,q,?_⟩;rintro J D ⟨src,p,j,U,g1,it,q1⟩;have G:=k.trans g1;refine⟨λi m τ l=>∃f b a,u8 K a b l/\Grow K j D a l/\SRep K a l f τ/\i<=src.items.length/\m=src.items.length-i/\tj src.ok g w F p (src.items.drop i) f b,⟨_,S,p,j,U,.refl,V.grow g1,w5 _,rfl,q1⟩,?_⟩;rintro i m τ l ⟨f,b,a,C,r,u,hi,rfl,B⟩;by_cases t:i<src.items.length;have R:src.items[i]?=a7 src.items[i]:=v9 t;rw[sV R]at B;obtain⟨ok,I⟩:=(show src.ok b/\g src.items[i] f b _ from B)
 refine .inr ⟨it.go i a b l C r ok t,_,λai H' z=>z,λx W y=>?_⟩;obtain⟨d,O,hd,s3,g3,r3⟩:=it.yld i a b l x W C r ok t y;have ed:d=src.items[i]:=A6<|hd.symm.trans R;subst ed;refine⟨_,f,b,O,_,s3,u.grow g3,r3,I,?_⟩;rintro aj X ⟨S4,Z,A,s4,g4,L,q4⟩;have o:=(r.trans g3).trans g4;refine⟨S4,Z,A,_,s4,L,q4,?_⟩;have n:∀c Y,SQ K A X (A9 p<|tj src.ok g w F p<|src.items.drop<|i+1) c Y -> ∃T,T < src.items.length-i/\∃f b a,u8 K a b Y/\Grow K j D a Y/\SRep K a Y f c/\i+1<=src.items.length/\T=src.items.length-(i+1)/\tj src.ok g w F p (src.items.drop<|i+1) f b:=λc Y z=>by obtain⟨S5,M5,P,s5,g5,N,q5⟩:=SQ.fgt (ρ:=j) (H:=D) U<|SQ.trans o z;exact⟨_,by lia,S5,M5,P,s5,g5,N,t,rfl,q5⟩
 exact⟨n,λv Y z=>G.rt v Y<|VQ.trans o z,λc Y z=>G.nx c Y<|SQ.trans o z,n⟩;have e:i=src.items.length:=by lia
 subst e;rw[List.drop_of_length_le<|u6 _]at B;obtain⟨ok,I⟩:=(show src.ok b/\F.nx f b from B)
 exact .inl ⟨it.stop a b l C r ok,G.nx τ l ⟨f,b,a,C,r,u,I⟩⟩
section
variable{X:Cx}
theorem JK(hi:DI X tg iter di)(S:DG X tg g)(d:Lg X body tb)(p:PassesOwn (i3 X.prog X.w) X.A X.env X.xe:=by exact PassesOwn.never)(f:X.calm=a9:=by rfl)(hs:∀x,j6 iter X.env x=pure x:=by intro _;rfl):DS X (.For tg iter body [] pos) (nK di g tb):=PS.imp (HM p f hi S d hs) Cm
noncomputable def JQ(t:Nat)(s:List Nat)(S:SD):SD:=ND t a8++s.map λj=>(S[j]?).join
noncomputable def ng(ok:t5->Prop)(g:Ix)(tt:F5)(te:u9)(Q:DK):List D->List D->SD->t5->Prop
 | [],acc,S,M=>ok M/\Q (.ref M.length) (M++[.lst acc])
 |x::xs,acc,S,M=>ok M/\g x S M λS2 M2=>tt S2 M2 λb M3=>if b=a9 then te S2 M3 λy M4=>acc.length<sizeLine/\ng ok g tt te Q xs (acc++[y]) S2 M4 else ng ok g tt te Q xs acc S2 M3
noncomputable def D2(t:Nat)(s:List Nat)(i:Ky)(g:Ix)(tt:F5)(te:u9):u9:=λS M Q=>i S M λsrc a=>ng src.ok g tt te Q src.items [] (JQ t s S) a
theorem SRep.bst{K:u0}{ρ:List c8}{H:Hp}{S:SD}{σ:St}(r:SRep K ρ H S σ)(t:Nat)(s:List Nat):SRep K ρ H (JQ t s S) (L2.bst t s σ):=by
 refine⟨by simp[JQ,Bb],λi d e=>?_⟩;unfold JQ at e;unfold L2.bst;by_cases hi:i<t;rw[G9 (by simpa using hi),OR]at e;simp[hi]at e;rw[KP (by simpa using Lu.mp hi),OL,D0]at e;rw[KP (by simpa using Lu.mp hi),OL,D0];cases q:s[i-t]? with
 |none=>rw[q]at e;cases e
 |some j =>
  rw[q]at e;have a:(S[j]?).join=a7 d:=by simpa using e
  cases b:S[j]? with
  |none=>rw[b]at a;cases a
  |some o=>rw[b]at a;have l:o=a7 d:=a;subst l;obtain⟨v,c,f⟩:=r.get j d b;exact⟨v,by simp[c],f⟩
theorem zV{K:u0}{F:Nat}{E:List Nat}{V:Ky}{g:Ix}{tt:F5}{te:u9}(σ:St)(H:Hp)(R:VK)(h:lowE K (D2 F E V g tt te) σ H R):O5 F E (lowI K V) (lowG K g) (lowT K tt) (lowE K te) σ H R:=by
 obtain⟨S,M,ρ,Q,s,Y,q,k⟩:=h;refine⟨S,M,ρ,_,s,Y,q,?_⟩;rintro J Z ⟨src,M1,u,s1,g1,it,q1⟩;refine⟨λi m vs τ f=>∃n c a acc,u8 K a c f/\Grow K u Z a f/\SRep K a f n τ/\Reps K a f acc vs/\i<=src.items.length/\m=src.items.length-i/\ng src.ok g tt te Q (src.items.drop i) acc n c,⟨_,_,M1,u,[],s1,.refl,(Y.grow g1).bst F E,.nil,w5 _,rfl,q1⟩,?_⟩;rintro i m vs τ f ⟨n,c,a,acc,B,r,N,A,hi,rfl,z⟩;by_cases t:i<src.items.length;have W:src.items[i]?=a7 src.items[i]:=v9 t;rw[sV W]at z;obtain⟨ok,G⟩:=(show src.ok c/\g src.items[i] n c _ from z)
 refine .inr ⟨it.go i a c f B r ok t,λx H3 y=>?_⟩;obtain⟨d,O,hd,s3,g3,r3⟩:=it.yld i a c f x H3 B r ok t y;have ed:d=src.items[i]:=A6<|hd.symm.trans W;subst ed;refine⟨_,n,c,O,_,s3,N.grow g3,r3,G,?_⟩;rintro ai H4 ⟨j,M4,T,s4,C,L,q4⟩;refine⟨j,M4,T,_,s4,L,q4,?_⟩;rintro b H5 ⟨w,P,s5,l,X⟩;have o:=((r.trans g3).trans C).trans l;cases b with
 |false=>exact bE ⟨_,by lia,j,w,P,acc,s5,o,L.grow l,A.grow<|(g3.trans C).trans l,t,rfl,(show ng src.ok g tt te Q (src.items.drop<|i+1) acc j w from X)⟩
 |true=>refine bH ⟨j,w,P,_,s5,L.grow l,(show te j w _ from X),?_⟩;rintro v H6 ⟨y',M6,U,s6,D,r6,hl,q6⟩;have I:=A.grow<|((g3.trans C).trans l).trans D;exact⟨by rw[<-A.length];exact hl,_,by lia,j,M6,U,acc++[y'],s6,o.trans D,L.grow<|l.trans D,I.append<|.cons r6 .nil,t,rfl,q6⟩
 have e:i=src.items.length:=by lia
 subst e;rw[List.drop_of_length_le<|u6 _]at z;obtain⟨ok,G⟩:=(show src.ok c/\Q (.ref c.length) (c++[.lst acc])from z)
 exact .inl ⟨it.stop a c f B r ok,λp hp=>k _ _<|VQ.laidL B (g1.trans r) A hp G⟩
theorem d_lc(B:BlkSc X N' nt js scope)(hi:DI X tg iter di)(S:∀cl s0 H0 ex,DG (z7 X N' scope cl s0 H0 ex) tg g) (D:∀cl s0 H0 ex,Ls (z7 X N' scope cl s0 H0 ex) ifs<|lowT X.K tt) (i:∀cl s0 H0 ex,DE (z7 X N' scope cl s0 H0 ex) elt te) (f:X.calm=a9:=by rfl)(hs:∀x,j6 iter X.env x=pure x:=by intro _;rfl):DE X (.ListComp elt [⟨tg,iter,ifs,0⟩] scope pos) (D2 nt js di g tt te):=PE.imp (pe_lc (g:=lowG X.K g) (tt:=lowT X.K tt) (te:=lowE X.K te) B f hi (λcl s0 H0 ex=>S cl s0 H0 ex) D (λcl s0 H0 ex=>i cl s0 H0 ex) hs) zV
noncomputable def sY:F5:=λ_ M Q=>Q a9 M
theorem Gg:Ls X [] (lowT X.K sY):=λp s σ H R I ⟨S,M,ρ,Q,m,e,q,k⟩=>EJ p s σ H R I<|k a9 H ⟨M,ρ,m,.refl,q⟩
theorem Gf(h:DT X c t):Ls X [c] (lowT X.K t):=EI h
end
noncomputable def K8(M a:t5):Prop:=a.length=M.length/\∀(i:Nat) (m:MO),a[i]?=a7 m->M[i]?=a7 m\/Bels M.length m.items
theorem K8.refl:K8 M M:=⟨rfl,λ_ _ h=>.inl h⟩
theorem K8.set(c:K8 M M1)(b:Bels M.length mo.items):K8 M (M1.set n mo):=by refine⟨by rw[J5];exact c.1,λi m h=>?_⟩;by_cases e:n=i;subst e;by_cases g:n<M1.length;rw[KO g]at h;cases h;exact .inr b;rw[LF<|by rw[J5];lia]at h;cases h;rw[KH e]at h;exact c.2 i m h
noncomputable def bg(M:t5)(R:DK):DK:=λd b=>R d b\/(∃a,K8 M a/\A5 M.length d/\a <+: b/\R d a)\/∃a n xs,K8 M a/\d=.ref n/\M.length<=n/\b[n]?=a7 (.lst xs)/\a <+: b/\Bels M.length xs/\R (.ref M.length) (a++[.lst xs])
theorem dZ{α:Type}{l l':List α}(h:l <+: l'):l'.take l.length=l:=by obtain⟨t,rfl⟩:=h;rw[List.take_append_of_le_length<|u6 _,LA]
theorem VQ.endq{K:u0}{ρ:List c8}{M:t5}{H:Hp}{R:DK}{v:V}{H':Hp}(s:u8 K ρ M H)(h:VQ K ρ H (bg M R) v H'):VQ K ρ H R v H':=by
 obtain⟨d,E,D,s',x,r',Y⟩:=h;have k:D.take M.length=ρ:=by rw[<-s.len];exact dZ x.pre
 rcases Y with q|⟨g,c,b,f,q⟩|⟨g,n,xs,c,rfl,X,e,f,b,q⟩
 exact⟨d,E,D,s',x,r',q⟩;have i:=s'.cut M.length λn r w e=>by
  have G:g[n]?=a7 r:=by obtain⟨t,rfl⟩:=f;rw[G9<|by rw[c.1];exact w]at e;exact e
  exact(c.2 n r G).elim (λz=>s.bels z) id
 have O:E.take M.length=g:=by rw[<-c.1];exact dZ f
 rw[k,O]at i;have C:=r'.cut b;rw[k]at C;exact⟨d,g,ρ,i,⟨ME,x.tup⟩,C,q⟩;have i:=s'.cut M.length λn r w e=>by
  have G:g[n]?=a7 r:=by obtain⟨t,rfl⟩:=f;rw[G9<|by rw[c.1];exact w]at e;exact e
  exact(c.2 n r G).elim (λz=>s.bels z) id
 have O:E.take M.length=g:=by rw[<-c.1];exact dZ f
 rw[k,O]at i;obtain⟨a,rfl,w⟩:=t9.inv_ref r';obtain⟨vs,U,Z⟩:=s'.obj n a _ w e;have C:=Z.cut b;rw[k]at C;have Q:Grow K ρ H' (ρ++[a]) H':=⟨F9 _ _,λ_ _ h=>h⟩
 have B:∀(m:Nat),ρ[m]?=a7 a->Ku g[m]?:=λm J=>by
  have W:m≠n:=λz=>by
   have:m<M.length:=by rw[<-s.len];exact(w6.mp J).1
   lia
  have q:=s'.nd m n a W (aE x.pre J) w;have L:m<M.length:=by rw[<-s.len];exact(w6.mp J).1
  rcases q with⟨ds,z⟩|⟨ds,z⟩
  refine⟨ds,?_⟩;have o:m<g.length:=by rw[c.1];exact L
  have:=aE f<|v9 o;rw[z]at this;rw[v9 o];exact this.symm;rw[e]at z;cases z
 refine⟨.ref M.length,g++[.lst xs],ρ++[a],⟨λA S F y I l=>?_,by rw[z5,z5,i.len];rfl,λA F r I l=>?_⟩,⟨F9 _ _,x.tup⟩,.ref (by have:=i.last (p:=a);rw[c.1]at this;exact this),q⟩;rcases bb I with j|⟨j,P⟩
 rcases bb l with u|⟨u,T⟩
 exact(i.nd A S F y j u).elim (λz=>.inl z.more) λz=>.inr z.more;subst T;exact .inl (B A j).more;rcases bb l with u|⟨u,T⟩
 subst P;exact .inr (B S u).more;exact n9 (j.trans u.symm) y;rcases bb I with j|⟨j,P⟩
 have N:A<g.length:=by rw[<-i.len];exact(w6.mp j).1
 rw[G9 N]at l;exact(i.obj A F r j l).grow Q<|.inl rfl;subst P j;rw[i.len,KP<|u6 _,L4]at l;simp at l;subst l;exact⟨vs,U,C.grow Q⟩
noncomputable def cJ(N:List c5)(ds:List D):SD:=ds.map a7++ND (N.length-ds.length) a8
theorem SRep.start{K:u0}{ρ:List c8}{H:Hp}{ds:List D}{vs:List V}(r:Reps K ρ H ds vs)(N:List c5):SRep K ρ H (cJ N ds) (L2.start N vs):=by
 refine⟨by simp[cJ,L2.start,r.length],λi d e=>?_⟩;unfold cJ at e;unfold L2.start;by_cases hi:i<ds.length;rw[G9 (by simpa using hi),D0]at e;rw[G9 (by simpa [<-r.length]using hi),D0];have a:ds[i]?=a7 d:=by rw[v9 hi]at e ⊢;simpa using e
 obtain⟨v,c,b⟩:=r.get a;exact⟨v,by rw[c];rfl,b⟩;rw[KP (by simpa using Lu.mp hi),OR]at e;split at e<;>cases e
theorem d_fn{P:c7}{w:c6}{K:u0}{mg:c5->Option c4}{base:d5}{x l:c5}{st:i7}{f:c8}{e:k5}{N ps:List c5}{k:Nat}(d:v8)(F:K7 K x l st f e)(i:FnScope N ps (av st))(B:∀ds M R,d ds M R->ds.length=ps.length)(y:∀(cdv:c4) (A:e8) (outer:List Env) (s:e9) (H:Hp) (E:XK),Room k (A.deeper<|k9 l (av st) s.heap.objs.size f cdv) -> ∃t,Lg (tu E9 P w K mg base N l (av st) f cdv A outer s H E).nox (bU st) t/\∀ds M R,d ds M R->t ⟨λ_ M'=>bg M R .non M',bg M R,λ_ _=>False,λ_ _=>False⟩ (cJ N ds) M):FnOk P w K mg base E9 (k+1) f e ps (Lf K d):=by refine F.ok i (λvs H Q E ⟨ds,M,ρ,R,s,r,q,_⟩=>by rw[<-r.length];exact B ds M R q) λcdv A outer s H vs Q E o h=>?_;obtain⟨ds,M,ρ,R,m,r,q,D⟩:=h;obtain⟨t,p,n⟩:=y cdv A outer s H E o;refine⟨lowS K t,p,cJ N ds,M,ρ,_,m,SRep.start r N,n ds M R q,⟨λc H' ⟨S,M',a,s',g,b,j⟩=>?_,λv H' z=>D v H'<|VQ.endq m z,λc H' ⟨S,M',a,s',g,b,j⟩=>j.elim,λc H' ⟨S,M',a,s',g,b,j⟩=>j.elim⟩⟩;exact D .non H'<|VQ.endq m ⟨.non,M',a,s',g,.non,j⟩
end
section
variable{X:Cx}
theorem dfin(I:p8 X pins σ H s)(m:u8 X.K ρ M H)(k:∀v H',VQ X.K ρ H Q v H'->R v H')(c:cV d=a7 v)(r:aM v u)(q:Q d M):EP X pins σ R u s:=⟨v,H,I,r,k v H<|VQ.now m (AZ c) q⟩
theorem iO(I:p8 X pins σ H s)(m:u8 X.K ρ M H)(k:∀v H',VQ X.K ρ H Q v H'->R v H')(q:Q (.bl b) M):EP X pins σ R (.bool b) s:=⟨.bl b,H,I,rfl,k _ H<|VQ.now m (.bl b) q⟩
noncomputable def qAdd:E1:=λx y M Q=>match x,y with
 |.int i,.int j=>Q (.int<|i+j) M
 |.str a,.str b=>a.length+b.length<=sizeLine/\Q (.str<|a++b) M
 |.ref n,.ref m=>∃xs ys,M[n]?=a7 (.lst xs)/\M[m]?=a7 (.lst ys)/\xs.length+ys.length<=sizeLine/\Q (.ref M.length) (M++[.lst<|xs++ys])
 |_,_=>False
theorem IA:E8 X (j7 .Add) qAdd:=by refine C1.imp (Im.or<|xt.or Il) ?_;rintro v b H R ⟨x,y,M,ρ,Q,m,r,a,q,k⟩;unfold qAdd at q;split at q;cases r;cases a;exact .inl ⟨_,_,rfl,rfl,k _ H<|VQ.now m (.int _) q⟩;cases r;cases a;exact .inr<|.inl ⟨_,_,rfl,rfl,q.1,k _ H<|VQ.now m (.str _) q.2⟩;obtain⟨xs,ys,t,l,g,q⟩:=q;obtain⟨_,rfl,h1⟩:=t9.inv_ref r;obtain⟨_,rfl,h2⟩:=t9.inv_ref a;obtain⟨vs,n,g1⟩:=m.obj _ _ _ h1 t;obtain⟨s,f,i⟩:=m.obj _ _ _ h2 l;exact .inr<|.inr ⟨_,_,vs,s,rfl,rfl,n,f,by rw[<-g1.length,<-i.length];exact g,λp h=>k _ _<|VQ.laidL m .refl (g1.append i) h q⟩;exact q.elim
noncomputable def Hy:E1:=λx y M Q=>match x,y with
 |.int i,.int j=>Q (.int<|i-j) M
 |_,_=>False
theorem Iu:E8 X (j7 .Sub) Hy:=by refine C1.imp Ig ?_;rintro g l H R ⟨x,y,M,ρ,Q,s,r,m,q,k⟩;unfold Hy at q;split at q;cases r;cases m;exact⟨_,_,rfl,rfl,k _ H<|VQ.now s (.int _) q⟩;exact q.elim
noncomputable def GI(i j:Int):Prop:=0<j/\j<340282366920938463463374607431768211456
theorem BZ:C1 X (j7 .FloorDiv) (rI GI λi j=>.int<|i / j):=Nl λi j _ _ _ _ _ f q=>by have h1:(0:Int)<j:=f.1;have h2:j<340282366920938463463374607431768211456:=f.2;have a:j.natAbs.log2<128:=(Nat.log2_lt<|by lia).mpr (by rw[show (2:Nat) ^ 128=340282366920938463463374607431768211456 by decide];lia);exact floordiv_int (by lia) (by rw[Int.fdiv_eq_ediv_of_nonneg i<|by lia];exact q)<|.inl<|PyProof.noPylong_of_log2<|by lia
noncomputable def ug:E1:=λx y M Q=>match x,y with
 |.int i,.int j=>GI i j/\Q (.int<|i / j) M
 |_,_=>False
theorem Fh:E8 X (j7 .FloorDiv) ug:=by refine C1.imp BZ ?_;rintro g l H R ⟨x,y,M,ρ,Q,s,r,m,q,k⟩;unfold ug at q;split at q;cases r;cases m;exact⟨_,_,rfl,rfl,q.1,k _ H<|VQ.now s (.int _) q.2⟩;exact q.elim
noncomputable def zq:E1:=λx y M Q=>match x,y with
 |.int i,.int j=>0<j/\Q (.int<|i % j) M
 |_,_=>False
theorem Iy:E8 X (j7 .Mod) zq:=by refine C1.imp Ik ?_;rintro g l H R ⟨x,y,M,ρ,Q,s,r,m,q,k⟩;unfold zq at q;split at q;cases r;cases m;exact⟨_,_,rfl,rfl,q.1,k _ H<|VQ.now s (.int _) q.2⟩;exact q.elim
noncomputable def gW(a b:c5):Bool:=decide<|a.cps.toList<b.cps.toList
noncomputable def LG:E1:=λx y M Q=>match x,y with
 |.int i,.int j=>Q (.bl<|decide<|i<j) M
 |.str a,.str b=>Q (.bl<|gW a b) M
 |_,_=>False
noncomputable def MR:E1:=λx y M Q=>match x,y with
 |.int i,.int j=>Q (.bl<|decide<|i<=j) M
 |.str a,.str b=>Q (.bl<|!gW b a) M
 |_,_=>False
noncomputable def LU:E1:=λx y M Q=>match x,y with
 |.int i,.int j=>Q (.bl<|decide<|j<i) M
 |.str a,.str b=>Q (.bl<|gW b a) M
 |_,_=>False
theorem od_lt:E8 X (j8 .Lt) LG:=by rintro p s σ H b l v u R I g i ⟨x,y,M,ρ,Q,a,r,m,q,k⟩;unfold LG at q;split at q;cases r;cases m;exact op_lt p s σ H _ _ v u R I g i ⟨_,_,rfl,rfl,k _ H<|VQ.now a (.bl _) q⟩;cases r;cases m;obtain⟨t,rfl⟩:=g;obtain⟨t',rfl⟩:=i;exact PySem.P.lt_str<|iO I a k q;exact q.elim
theorem od_le:E8 X (j8 .LtE) MR:=by rintro p s σ H b l v u R I g i ⟨x,y,M,ρ,Q,a,r,m,q,k⟩;unfold MR at q;split at q;cases r;cases m;exact op_le p s σ H _ _ v u R I g i ⟨_,_,rfl,rfl,k _ H<|VQ.now a (.bl _) q⟩;cases r;cases m;obtain⟨t,rfl⟩:=g;obtain⟨t',rfl⟩:=i;exact PySem.P.le_str<|iO I a k q;exact q.elim
theorem od_gt:E8 X (j8 .Gt) LU:=by rintro p s σ H b l v u R I g i ⟨x,y,M,ρ,Q,a,r,m,q,k⟩;unfold LU at q;split at q;cases r;cases m;exact op_gt p s σ H _ _ v u R I g i ⟨_,_,rfl,rfl,k _ H<|VQ.now a (.bl _) q⟩;cases r;cases m;obtain⟨t,rfl⟩:=g;obtain⟨t',rfl⟩:=i;exact PySem.P.gt_str<|iO I a k q;exact q.elim
noncomputable def MS:E1:=λx y M Q=>match x,y with
 |.bl a,.bl b=>Q (.bl<|a==b) M
 |.non,.non=>Q (.bl a9) M
 |_,.non=>Q (.bl bt) M
 |_,_=>False
noncomputable def rW:E1:=λx y M Q=>match x,y with
 |.bl a,.bl b=>Q (.bl<|a != b) M
 |.non,.non=>Q (.bl bt) M
 |_,.non=>Q (.bl a9) M
 |_,_=>False
theorem zk{K:u0}{ρ:List c8}{H:Hp}{x:D}{v:V}(r:t9 K ρ H x v)(h:x≠.non):v≠.non:=by cases r<;>first|exact n9 rfl h|(intro z;cases z)
theorem od_is:E8 X (j8 .Is) MS:=by
 rintro p s σ H b l v u R I g i ⟨x,y,M,ρ,Q,a,r,m,q,k⟩;unfold MS at q;split at q;cases r;cases m;cases g;cases i;exact is_bool<|iO I a k q;cases r;cases m;cases g;cases i;exact is_none_gen<|dfin (d:=.bl a9) I a k rfl rfl q;rename_i h1 h2;cases m;cases i;refine is_none_gen<|dfin (d:=.bl bt) I a k rfl ?_ q;have:=zk r λz=>by subst z;exact h2 rfl
 rw[g.none_iff,dF_ this];rfl;exact q.elim
theorem Cf:E8 X (j8 .IsNot) rW:=by
 rintro p s σ H b l v u R I g i ⟨x,y,M,ρ,Q,a,r,m,q,k⟩;unfold rW at q;split at q;cases r;cases m;cases g;cases i;exact isnot_bool<|iO I a k q;cases r;cases m;cases g;cases i;exact isnot_none_gen<|dfin (d:=.bl bt) I a k rfl rfl q;rename_i h1 h2;cases m;cases i;refine isnot_none_gen<|dfin (d:=.bl a9) I a k rfl ?_ q;have:=zk r λz=>by subst z;exact h2 rfl
 rw[g.none_iff,dF_ this];rfl;exact q.elim
noncomputable def tyD(M:t5):D->String
 |.non=>"NoneType"
 |.bl _=>"bool"
 |.int _=>"int"
 |.str _=>"str"
 |.ty _=>"type"
 |.tup _=>"tuple"
 |.ref n=>match M[n]? with
  |some mo=>if mo.isL=a9 then "list" else "?"
  |none=>"?"
noncomputable def iT:D1:=λds M Q=>match ds with
 | [.str x]=>x.length<=sizeLine/\Q (.int x.length) M
 | [.tup xs]=>Q (.int xs.length) M
 | [.ref n]=>∃xs,ax M n xs/\Q (.int xs.length) M
 |_=>False
theorem Kb:nN X (.builtin "len") iT:=by
 refine iS.imp (tD.or tx) ?_;rintro vs H R ⟨ds,M,ρ,Q,m,a,q,k⟩;unfold iT at q;split at q
 first|have z:=Reps.inv_cons a|have z:=aC.inv_cons a
 clear a;obtain⟨_,_,rfl,b,a⟩:=z;cases a;cases b;exact .inr ⟨_,rfl,q.1,k _ H<|VQ.now m (.int _) q.2⟩
 first|have z:=Reps.inv_cons a|have z:=aC.inv_cons a
 clear a;obtain⟨_,_,rfl,b,a⟩:=z;cases a;cases b with
 |tup h r=>exact .inl ⟨_,_,rfl,.inr h,k _ H<|VQ.now m (by rw[<-r.length];exact .int _) q⟩
 obtain⟨xs,L,q⟩:=q
 first|have z:=Reps.inv_cons a|have z:=aC.inv_cons a
 clear a;obtain⟨_,_,rfl,b,a⟩:=z;cases a;obtain⟨_,rfl,e⟩:=t9.inv_ref b;obtain⟨s,c,r⟩:=ax.seq m L e;exact .inl ⟨_,_,rfl,.inl c,k _ H<|VQ.now m (by rw[<-r.length];exact .int _) q⟩;exact q.elim
noncomputable def bls(s:List Bool):List D:=s.map .bl
theorem Reps.bls{K:u0}{ρ:List c8}{H:Hp}:∀{bs:List Bool}{vs:List V},Reps K ρ H (L2.bls bs) vs->vs=bs.map V.bl
 | [],_,h=>by cases h;rfl
 |b::bs,_,h=>by
  cases h with
  |cons r t=>cases r;rw[Reps.bls t];rfl
theorem vn:∀{bs:List Bool}{us:List c4},aC (bs.map V.bl) us->us=bs.map MX
 | [],_,h=>by cases h;rfl
 |b::bs,_,h=>by
  cases h with
  |cons r t=>cases r;rw[vn t];rfl
theorem yd{pins:List (c8×c9)}{σ:St}{H:Hp}{s:e9}{a:c8}{c:List Bool}{G:e9->Prop}(I:p8 X pins σ H s)(z:X.calm=a9)(C:Ki X.K H a (c.map V.bl))(j:∀s',p8 X pins σ H s'->G s'):∀(E:c4->e9->Prop),f9 (i3 X.prog X.w) X.A.in1 (j4<|.ref a) (λit s₂=>∃I fp wr n P St tr,it=F6 I/\Walks X.prog X.w X.A.in1 I fp wr n P St/\St 0 s₂.heap/\TruthOf X.prog X.w X.A.in1 P tr /\ (n=c.length/\(∀i,i<c.length->tr i=c.getD i bt))/\∀h' tk,(∀b o,b∉wr->s₂.heap.get? b=a7 o->h'.get? b=a7 o)->G { s₂ with heap:=h',toks:=tk }) E s:=by
 intro E;obtain⟨its,F,p,L⟩:=I.list C;have d:=vn F;subst d;have l:=p.isList;have t:a<s.heap.objs.size:=by obtain⟨o,n,e,_⟩:=p;exact v7 e
 refine wpAny_pyIter_list l ?_;have k:p8 X pins σ H { s with heap:=s.heap.push { cls:=.type "list_iterator",data:=.fields #[.ref a,.int 0 0] } }:=I.kept (t':=s.toks) λb o e=>v5 _ e;refine⟨s.heap.objs.size,_,_,_,_,_,λi=>c.getD i bt,rfl,Walks.list (A:=X.A.in1) (I.ok.hd z) s.heap.objs.size a (w9 t) (c.map MX).toArray,⟨⟨_,z6 _ rfl,rfl,rfl⟩,l.push _⟩,?_,⟨by simp,λi _=>rfl⟩,λh' tk D=>?_⟩;intro i v s' Q' J B Q;have h:(c.map MX).toArray[i]?=a7 v:=B;rw[List.getElem?_toArray,D0]at h;cases e:c[i]? with
 |none=>rw[e]at h;cases h
 |some b =>
  rw[e]at h;cases h;refine MJ ?_;have:c.getD i bt=b:=by rw[J3,e];rfl
  have g:Q' (c.getD i bt) s':=Q;rw[this]at g;exact g
 have f:=I.fpOk (H':=H) (u6 _)<|I.hok.fresh<|u6 _;obtain⟨m,q,M,r,u,y⟩:=f;exact j _<|k.turned (t':=tk) (it:=s.heap.objs.size) (λb o x e=>D b o (by simpa using x) e) m q r u y
theorem Bi{s:List Bool}{tr:Nat->Bool}(h:∀i,i<s.length->tr i=s.getD i bt):(A2 s.length).any tr=s.any id:=by rw[MD,Kq,Kq];constructor;rintro⟨i,hi,g⟩;have a:=F7.mp hi;rw[h i a,J3,v9 a]at g;exact⟨_,J0 a,g⟩;rintro⟨b,hb,g⟩;obtain⟨i,hi,e⟩:=List.mem_iff_getElem.mp hb;refine⟨i,F7.mpr hi,?_⟩;rw[h i hi,J3,v9 hi,e];exact g
noncomputable def GO:D1:=λds M Q=>match ds with
 | [.ref n]=>∃s,ax M n (bls s)/\Q (.bl<|s.any id) M
 |_=>False
theorem Kc(i:X.calm=a9:=by rfl):nN X (.builtin "any") GO:=by
 rintro p s σ H vs us R I v ⟨ds,M,ρ,Q,m,a,q,k⟩;unfold GO at q;split at q;obtain⟨c,L,q⟩:=q
 first|have z:=Reps.inv_cons a|have z:=aC.inv_cons a
 clear a;obtain⟨_,_,rfl,j,a⟩:=z;cases a;obtain⟨u,rfl,t⟩:=aC.one v;obtain⟨_,rfl,e⟩:=t9.inv_ref j;cases t;obtain⟨x,h,r⟩:=ax.seq m L e;rw[r.bls]at h;refine call_any_walk<|ve (yd (G:=λs'=>EP X p σ R (.bool<|c.any id) s') I i h (λs' b=>iO b m k q) _) ?_;rintro it o ⟨J,C,w,n,P,Sx,tr,t,W,st,T,⟨d,g⟩,f⟩;subst d;exact⟨J,C,w,_,P,Sx,tr,t,W,st,T,λh' l D=>by rw[Bi g];exact f h' l D⟩;exact q.elim
end
end L2
namespace L2
open PySem PySem.Spec PyProof.Rows DL _root_.HT
section
variable{prog:c7}{w:c6}{A:e8}{E:c4->e9->Prop}{s:e9}
theorem qk{t m:c8}{i:Array c4}{v u:c4}{l hi:Option Int}{Q:c4->e9->Prop}(D:IsTup s.heap t i)(hs:s.heap.IsSliceOf m v u .none)(p:l3 v l)(f:l3 u hi)(d:sIx i.size 0 l=0/\sIx i.size i.size hi=i.size) (h:Q (.ref t) s):f9 (i3 prog w) A (l4 (.ref t)<|.ref m) Q E s:=by
 obtain⟨o,b,c,e⟩:=id hs;have a:s.TypeIs (.ref m) "slice":=⟨o,b,c⟩
 unfold l4
 try with_reducible refine D7 ?_
 first|refine p6 (q9 ?_)|skip
 refine p6<|wpAny_sequenceKey D.typeIs (by decide)<|p6<|Lp (name:=AA0 "__getitem__") D.typeIs Nj<|J6 Nj D.typeIs entry_tuple_getitem ?_<|args_tuple_getitem _ _;refine(show f9 (i3 prog w) _ (OY (.ref t) >>= _) _ _ s from p6<|tupleItemsOf_ D<|p6<|Ll a ?_);rw[n5<|by decide];refine p6<|fQ hs p f ?_;refine(show f9 (i3 prog w) _ (if (((sIx i.size 0 l:Nat):Int)==0&&(1:Int)==1&&(sIx i.size i.size hi-sIx i.size 0 l)==i.size)=a9 then _ else _) _ _ s from ?_);rw[n5<|by rw[d.1,d.2];simp];unfold Builtin.Tuple.tupleIsExact;refine p6<|p6<|Ll D.typeIs<|q9 ?_;rw[n5<|by decide];exact p6<|Lj<|q9 ⟨_,rfl,q9 h⟩
end
end L2
namespace L2
open PySem PySem.Spec PyProof.Rows DL
section
variable{X:Cx}{a b:h8}{ta tb:u9}{pos:i4}
theorem KJ.imp(h:KJ X r')(i:∀x y H R,r x y H R->r' x y H R):KJ X r:=λa e p s σ H x y v u R I g b q hs=>h a e p s σ H x y v u R I g b (i x y H R q) hs
theorem Reps.atI{K:u0}{ρ:List c8}{H:Hp}{ds:List D}{vs:List V}{i:Int}{d:D}(r:Reps K ρ H ds vs)(h:L2.atI ds i=a7 d):∃v,L2.atI vs i=a7 v/\t9 K ρ H d v:=by
 unfold L2.atI at h ⊢;rw[r.length]at h;cases e:K4 vs.length i with
 |none=>rw[e]at h;cases h
 |some j=>rw[e]at h;obtain⟨v,c,a⟩:=r.get<|show ds[j]?=a7 d from h;exact⟨v,c,a⟩
noncomputable def u5:E1:=λx y M Q=>match x,y with
 |.tup xs,.int i=>match L2.atI xs i with
  |some d=>Q d M
  |none=>False
 |.str z,.int i=>z.length<=sizeLine/\match L2.atI z.cps.toList i with
  |some c=>Q (.str ⟨#[c]⟩) M
  |none=>False
 |.ref n,.int i=>∃xs,ax M n xs/\match L2.atI xs i with
  |some d=>Q d M
  |none=>False
 |_,_=>False
theorem FM:KJ X (lowR X.K u5):=by refine KJ.imp Je ?_;rintro p s H R ⟨x,y,M,ρ,Q,m,b,f,q,k⟩;unfold u5 at q;split at q;rename_i xs i;split at q;rename_i d e;cases f;obtain⟨_,_,rfl,h,r⟩:=t9.inv_tup b;obtain⟨v,a,g⟩:=r.atI e;exact .inr<|.inl ⟨_,_,_,v,rfl,rfl,h,a,k _ H<|VQ.now m g q⟩;exact q.elim;rename_i z i;obtain⟨o,q⟩:=q;split at q;rename_i c e;cases f;cases b;exact .inr<|.inr ⟨z,i,c,rfl,rfl,o,e,k _ H<|VQ.now m (.str _) q⟩;exact q.elim;rename_i n i;obtain⟨xs,L,q⟩:=q;split at q;rename_i d e;cases f;obtain⟨_,rfl,j⟩:=t9.inv_ref b;obtain⟨vs,l,r⟩:=ax.seq m L j;obtain⟨v,a,g⟩:=r.atI e;exact .inl ⟨_,_,_,v,rfl,rfl,l,a,k _ H<|VQ.now m g q⟩;exact q.elim;exact q.elim
theorem d_ix(f:DE X a ta)(d:DE X b tb)(hs:vh b:=by intro _ _;rfl):DE X (.Subscript a b pos) (p7 u5 ta tb):=PE.imp (pe_ix FM f d hs) pW
noncomputable abbrev Mr:=SD->t5->(Option Int->t5->Prop)->Prop
noncomputable def IF(K:u0)(t:Mr):TO:=λσ H R=>∃S M ρ Q,u8 K ρ M H/\SRep K ρ H S σ/\t S M Q/\∀o H',(∃b a,u8 K a b H'/\Grow K ρ H a H'/\Q o b)->R o H'
noncomputable def fI:Mr:=λ_ M Q=>Q a8 M
noncomputable def gx(t:u9):Mr:=λS M Q=>t S M λx a=>match x with
 |.int i=>Q (a7 i) a
 |_=>False
theorem PO.imp(h:PO X e t')(i:∀σ H R,t σ H R->t' σ H R):PO X e t:=λp s σ H R I q=>h p s σ H R I<|i σ H R q
theorem Gn:PO X a8 (IF X.K fI):=by refine PO.imp EQ ?_;rintro σ H R ⟨S,M,ρ,Q,s,e,q,k⟩;exact k a8 H ⟨M,ρ,s,.refl,q⟩
theorem Gm(h:DE X e te):PO X (a7 e) (IF X.K<|gx te):=by
 refine PO.imp (EO h) ?_;rintro σ H R ⟨S,M,ρ,Q,s,j,q,k⟩;refine⟨S,M,ρ,_,s,j,q,?_⟩;rintro v b ⟨d,f,c,g,g1,r,a⟩;cases r with
 |int i=>exact⟨i,rfl,k _ b ⟨f,c,g,g1,a⟩⟩
 |_=>exact a.elim
theorem Hq:Nt X (λx lo hi H Q=>∃z,x=.str z/\z.length<=sizeLine/\Q (.str<|Kk z lo hi) H):=by
 intro b s σ H x v w y lo hi n Q I r hs f m h;obtain⟨z,rfl,d,q⟩:=h;obtain⟨t,rfl⟩:=r;have a:∀{v:c4}{o:Option Int},l3 v o->∃p:Option (Int×Tok),v=partValue p/\p.map (·.1)=o:=λh=>by
  cases h with
  |none=>exact⟨a8,rfl,rfl⟩
  |int i t=>exact⟨a7 (i,t),rfl,rfl⟩
 obtain⟨g,rfl,e⟩:=a f;obtain⟨j,rfl,c⟩:=a m;subst e c;refine⟨"str",_,slot_str_getitem.lookup,l5 _ _ _,wpAny_getItem_str_slice (l:=g) (u:=j) (st:=a8) hs rfl ?_⟩;exact post_val_or_str ⟨B9 (Txt.slice_le z _ _) d,λt' k=>⟨.str _,H,I.tok k,⟨t',rfl⟩,q⟩⟩
noncomputable def cutD(xs:List D)(l hi:Option Int):List D:=(xs.drop<|HT.sIx xs.length 0 l).take<|HT.sIx xs.length xs.length hi-HT.sIx xs.length 0 l
theorem Reps.cutD{K:u0}{ρ:List c8}{H:Hp}{ds:List D}{vs:List V}(r:Reps K ρ H ds vs)(l hi:Option Int):Reps K ρ H (L2.cutD ds l hi) (Eh vs l hi):=by unfold L2.cutD Eh;rw[r.length];exact(r.drop _).take _
noncomputable def NZ:D->Option Int->Option Int->t5->DK->Prop:=λx l hi M Q=>match x with
 |.str z=>z.length<=sizeLine/\Q (.str<|Kk z l hi) M
 |.ref n=>∃xs,ax M n xs/\Q (.ref M.length) (M++[.lst<|cutD xs l hi])
 |.tup xs=>Q (.tup<|cutD xs l hi) M
 |_=>False
noncomputable def lowSl(K:u0)(r:D->Option Int->Option Int->t5->DK->Prop):V->Option Int->Option Int->Hp->VK->Prop:=λg l hi H R=>∃x M ρ Q,u8 K ρ M H/\t9 K ρ H x g/\r x l hi M Q/\∀v H',VQ K ρ H Q v H'->R v H'
theorem sld:Nt X (lowSl X.K NZ):=by
 rintro b s σ H x v o t l hi j R I g hs c u ⟨d,M,ρ,Q,m,i,q,k⟩;unfold NZ at q;split at q;cases i;exact Hq b s σ H _ v o t l hi j R I g hs c u ⟨_,rfl,q.1,k _ H<|VQ.now m (.str _) q.2⟩;obtain⟨xs,L,q⟩:=q;obtain⟨_,rfl,y⟩:=t9.inv_ref i;obtain⟨vs,z,r⟩:=ax.seq m L y;exact Ew b s σ H _ v o t l hi j R I g hs c u ⟨_,vs,rfl,z,λp f=>k _ _<|VQ.laidL m .refl (r.cutD l hi) f q⟩;obtain⟨_,_,rfl,h,r⟩:=t9.inv_tup i;rename_i xs a vs;by_cases w:HT.sIx xs.length 0 l=0/\HT.sIx xs.length xs.length hi=xs.length;cases g;obtain⟨its,A,D,B⟩:=I.tuple h;have n:its.toArray.size=xs.length:=by rw[x3,r.length];exact A.length.symm
 have e:L2.cutD xs l hi=xs:=by unfold L2.cutD;rw[w.1,w.2,List.drop_zero,Nat.sub_zero,LA]
 rw[e]at q;exact⟨"tuple",_,Nj.lookup,D.typeIs,qk D hs c u (by rw[n];exact w) ⟨.ref _,H,I,rfl,k _ H<|VQ.now m (.tup h r) q⟩⟩;exact Ho b s σ H _ v o t l hi j R I g hs c u ⟨_,_,rfl,h,by rw[<-r.length];exact w,λp f=>k _ _<|VQ.laidT m .refl (r.cutD l hi) f q⟩;exact q.elim
noncomputable def KQ(te:u9)(t h:Mr):u9:=λS M Q=>te S M λx a=>t S a λl b=>h S b λu c=>NZ x l u c Q
theorem Gw{e:h8}{te:u9}{o hi:Option h8}{t h:Mr}{x:i4}(m:DE X e te)(n:PO X o (IF X.K t))(p:PO X hi (IF X.K h)):DE X (.Subscript e (.Slice o hi a8 x) pos) (KQ te t h):=by refine PE.imp (BT sld m n p) ?_;rintro σ H R ⟨S,M,ρ,Q,s,r,q,k⟩;refine⟨S,M,ρ,_,s,r,q,?_⟩;rintro v F ⟨d,f,c,C,g1,B,y⟩;refine⟨S,f,c,_,C,r.grow g1,y,?_⟩;rintro l G ⟨g,a,D,i,z⟩;refine⟨S,g,a,_,D,r.grow<|g1.trans i,z,?_⟩;rintro u I ⟨j,b,E,g3,A⟩;exact⟨d,j,b,Q,E,B.grow<|i.trans g3,A,λv H' w=>k v H'<|VQ.trans ((g1.trans i).trans g3) w⟩
noncomputable def pH:E1:=λx y M Q=>match x,y with
 |.int i,.int j=>CMul i j/\Q (.int<|i*j) M
 |.str z,.int n=>(0<=n/\n<2 ^ 63/\z.length*n.toNat<=sizeLine)/\Q (.str<|Txt.mul z n) M
 |_,_=>False
theorem uz(b:0<=n)(h:z.length*n.toNat<=sizeLine)(f:n<2 ^ 63):MulOk z n:=by
 refine⟨?_,λh1 h2=>?_,λh1 h2=>?_⟩;have a:decide (n < -(2 ^ 63:Int))=bt:=dF_ (by lia);have l:decide (n ≥ 2 ^ 63)=bt:=dF_ (by lia);rw[a,l];rfl;have c:(z.length:Int)*n<=2 ^ 24:=by
  have e:((z.length*n.toNat:Nat):Int)=(z.length:Int)*n:=by rw[Int.natCast_mul,Int.toNat_of_nonneg b]
  have h':((z.length*n.toNat:Nat):Int)<=(2 ^ 24:Nat):=Int.ofNat_le.mpr h;rw[e]at h';exact h'
 have s:0<n:=by lia
 intro t;have:=Int.lt_of_lt_of_le (Int.lt_mul_of_ediv_lt s t) c;lia;unfold PySem.Builtin.Str.tooLong;simpa using h
theorem Fg:E8 X (j7 .Mult) pH:=by
 rintro p s σ H b l v u R I g i ⟨x,y,M,ρ,Q,a,r,m,q,k⟩;unfold pH at q;split at q;cases r;cases m;exact Ij p s σ H _ _ v u R I g i ⟨_,_,rfl,rfl,q.1,k _ H<|VQ.now a (.int _) q.2⟩;rename_i z n;cases r;cases m;obtain⟨t,rfl⟩:=g;obtain⟨t',rfl⟩:=i;obtain⟨⟨h,h2,h1⟩,q⟩:=q;exact PySem.SB.mul (uz h h1 h2) λt' j=>⟨.str _,H,I.tok j,⟨t',rfl⟩,k _ H<|VQ.now a (.str _) q⟩
 exact q.elim
variable{o e:h8}{es:List h8}{to:u9}{t:F4}{name:c5}{apos cpos:i4}{id:String}
noncomputable def Cn(K:u0)(r:c5->D1):V->List V->Hp->VK->Prop:=λg vs H R=>∃z ds M ρ Q,g=.str z/\u8 K ρ M H/\Reps K ρ H ds vs/\r z ds M Q/\∀v H',VQ K ρ H Q v H'->R v H'
noncomputable def pV(K:u0)(r:Nat->D1):V->List V->Hp->VK->Prop:=λg vs H R=>∃n a ds M ρ Q,g=.ref a/\ρ[n]?=a7 a/\u8 K ρ M H/\Reps K ρ H ds vs/\r n ds M Q/\∀v H',VQ K ρ H Q v H'->R v H'
noncomputable def No(r:c5->D1)(e:u9)(t:F4):u9:=λS M Q=>e S M λx a=>match x with
 |.str z=>t S a λds b=>r z ds b Q
 |_=>False
noncomputable def K5(r:Nat->D1)(e:u9)(t:F4):u9:=λS M Q=>e S M λx a=>match x with
 |.ref n=>(∃xs,ax a n xs)/\t S a λds b=>r n ds b Q
 |_=>False
theorem d_ms(slot:Slot "str" name id)(y:typeOf (.builtin id)=pure (.type "method_descriptor"))(u:Kw X id (Cn X.K r))(B:DE X o to)(p:DA X (e::es) t)(b:l7 o name X.env (eval o X.env)=eval o X.env:=by rfl)(h:((i5 cpos<|i6 (e::es) X.env).all (λx=>!x.1)&&(l8 cpos<|l9 [] X.env).all (λx=>x.1.isSome) && decide ((e::es).length+([]:List k7).length+(if ([]:List k7).isEmpty then 0 else 1)<30))=a9:=by rfl)(c:(apos.endLine==cpos.line)=a9:=by rfl) (hs:i6 (e::es) X.env=(bt,eval e X.env)::i6 es X.env:=by rfl) (n:(i5 cpos<|i6 es X.env).any (·.1)=bt:=by rfl):DE X (.Call (.Attribute o name apos) (e::es) [] cpos) (No r to t):=by
 refine PE.imp (Ib PySem.F.plainAttrs_str slot y u B p b h c hs n) ?_;rintro σ H R ⟨S,M,ρ,Q,s,i,q,k⟩;refine⟨S,M,ρ,_,s,i,q,?_⟩;rintro v I ⟨d,j,a,E,g1,C,g⟩;cases C with
 |str z=>exact⟨rfl,S,j,a,_,E,i.grow g1,g,λvs J ⟨ds,l,f,G,m,D,A⟩=>⟨z,ds,l,f,Q,rfl,G,D,A,λv H' w=>k v H'<|VQ.trans (g1.trans m) w⟩⟩
 |_=>exact g.elim
theorem d_ml(slot:Slot "list" name id)(y:typeOf (.builtin id)=pure (.type "method_descriptor"))(C:Kw X id (pV X.K r))(D:DE X o to)(B:DA X (e::es) t)(b:l7 o name X.env (eval o X.env)=eval o X.env:=by rfl)(f:((i5 cpos<|i6 (e::es) X.env).all (λx=>!x.1)&&(l8 cpos<|l9 [] X.env).all (λx=>x.1.isSome) && decide ((e::es).length+([]:List k7).length+(if ([]:List k7).isEmpty then 0 else 1)<30))=a9:=by rfl)(c:(apos.endLine==cpos.line)=a9:=by rfl) (hs:i6 (e::es) X.env=(bt,eval e X.env)::i6 es X.env:=by rfl) (h:(i5 cpos<|i6 es X.env).any (·.1)=bt:=by rfl):DE X (.Call (.Attribute o name apos) (e::es) [] cpos) (K5 r to t):=by
 refine PE.imp (Ib PySem.F.plainAttrs_list slot y C D B b f c hs h) ?_;rintro σ H R ⟨S,M,ρ,Q,s,z,q,k⟩;refine⟨S,M,ρ,_,s,z,q,?_⟩;rintro v O ⟨d,i,j,u,g1,I,g⟩;cases I with
 |@ref n a p =>
  obtain⟨⟨xs,L⟩,g⟩:=(show (∃xs,ax i n xs)/\t S i _ from g)
  obtain⟨vs,E,_⟩:=ax.seq u L p;refine⟨.inl ⟨rfl,vs,E⟩,S,i,j,_,u,z.grow g1,g,?_⟩;rintro vs P ⟨ds,A,l,N,m,J,G⟩;exact⟨n,a,ds,A,l,Q,rfl,aE m.pre p,N,J,G,λv H' w=>k v H'<|VQ.trans (g1.trans m) w⟩
 |_=>exact g.elim
noncomputable def cN(n:Nat):D1:=λds M Q=>match ds with
 | [d]=>∃xs,M[n]?=a7 (.lst xs)/\xs.length<sizeLine/\Q .non (M.set n<|.lst<|xs++[d])
 |_=>False
theorem xC:Kw X "list.append" (pV X.K cN):=by
 rintro p s σ H x xs v us R I l j ⟨n,a,ds,M,ρ,Q,c,b,m,f,q,k⟩;unfold cN at q;split at q;rename_i d;obtain⟨ys,e,g,q⟩:=q
 first|have z:=Reps.inv_cons f|have z:=aC.inv_cons f
 clear f;obtain⟨_,_,rfl,i,f⟩:=z;cases f;obtain⟨vs,h,r⟩:=m.obj n a _ b e;obtain⟨w,t⟩:=m.write b e h<|r.append<|.cons i .nil;exact zR p s σ H x _ v us R I l j ⟨a,vs,_,c,rfl,h,by rw[<-r.length];exact g,k _ _ ⟨.non,_,ρ,w,t,.non,q⟩⟩;exact q.elim
end
noncomputable def cG(K:u0)(mg:c5->Option c4)(x:c5)(st:i7)(ps:List c5):Prop:=∃f d,K7 K x x st f d/\mg x=a7 (.ref f)/\tM K d ps []
noncomputable def u7(P:c7)(w:c6)(K:u0)(mg:c5->Option c4)(base:d5)(k:Nat)(x:c5)(ps:List c5)(r:v8):Prop:=∃f d,FnOk P w K mg base E9 k f d ps (Lf K r)/\mg x=a7 (.ref f)/\L8 K (.ref f)=a9/\tM K d ps []
theorem fnat_mk{K:u0}{h:d5}{mg:c5->Option c4}{x:c5}{st:i7}{ps:List c5}{f:c8}{oc:c4}{j M:Option c8}{o:Array (Option c4)}{kV i U v R:c4}(X:K.In h) (G:h.Ns d8 mg) (a:PySem.W.nsIn K d8 x=a7 (a7<|.ref f))(l:K.lookup f=a7 ⟨oc,j,.func<|LL x x (iP st) (bU st) (av st) .none kV i U M v R,o⟩)(c:Og K v x=a9) (k:L8 K (.ref f)=a9)(h:∀(kV i U:c4) (M:Option c8) (v R:c4) (us:List c4),us.length=ps.length->bindArgs (LL x x (iP st) (bU st) (av st) .none kV i U M v R) ⟨us,[]⟩=pure (ps.zip us)):cG K mg x st ps:=have F:=Jw (st:=st) l c k
 ⟨f,_,F,PySem.W.mg_of X G a,F.binds h⟩
theorem u7.of{P:c7}{w:c6}{K:u0}{mg:c5->Option c4}{base:d5}{x:c5}{st:i7}{N ps:List c5}{k:Nat}{d:v8}(F:cG K mg x st ps)(i:FnScope N ps (av st))(B:∀ds M R,d ds M R->ds.length=ps.length) {t:p9}(r:∀(f:c8) (cdv:c4) (A:e8) (outer:List Env) (s:e9) (H:Hp) (E:XK),Room k (A.deeper<|k9 x (av st) s.heap.objs.size f cdv)->Lg (tu E9 P w K mg base N x (av st) f cdv A outer s H E).nox (bU st) t)(p:∀ds M R,d ds M R->t ⟨λ_ M'=>bg M R .non M',bg M R,λ_ _=>False,λ_ _=>False⟩ (cJ N ds) M):u7 P w K mg base (k+1) x ps d:=by obtain⟨f,b,a,m,h⟩:=F;exact⟨f,b,d_fn d a i B λcdv A outer s H E c=>⟨t,r f cdv A outer s H E c,p⟩,m,a.kp,h⟩
theorem FZ{P:c7}{w:c6}{K:u0}{mg:c5->Option c4}{base:d5}{x:c5}{st:i7}{N ps:List c5}{k:Nat}{d:v8}{f:c8}{a:k5}(F:K7 K x x st f a)(i:FnScope N ps (av st))(B:∀ds M R,d ds M R->ds.length=ps.length) {t:p9}(r:∀(f:c8) (cdv:c4) (A:e8) (outer:List Env) (s:e9) (H:Hp) (E:XK),Room k (A.deeper<|k9 x (av st) s.heap.objs.size f cdv)->Lg (tu E9 P w K mg base N x (av st) f cdv A outer s H E).nox (bU st) t)(p:∀ds M R,d ds M R->t ⟨λ_ M'=>bg M R .non M',bg M R,λ_ _=>False,λ_ _=>False⟩ (cJ N ds) M):FnOk P w K mg base E9 (k+1) f a ps (Lf K d):=d_fn d F i B λcdv A outer s H E h=>⟨t,r f cdv A outer s H E h,p⟩
section
variable{X:Cx}{e:h8}{es:List h8}{t:F4}{pos:i4}
theorem d_cal(C:u7 X.prog X.w X.K X.mg X.base j x ps P)(r:Room k X.A)(a:DA X (e::es) t)(L:j<=k:=by decide)(S:Gl X x:=by rfl) (b:(x==("__debug__":c5))=bt:=by decide) (i:i6 (e::es) X.env=(bt,eval e X.env)::i6 es X.env:=by rfl) (l:(i5 pos<|i6 es X.env).any (·.1)=bt:=by rfl):DE X (.Call (.Name x p) (e::es) [] pos) (r9 P t):=by obtain⟨f,c,F,m,h,d⟩:=C;exact JW F (r.mono L) m h d a S b i l
end
theorem mP(h:M[n]?=a7 mo)(g:mo.isL=a9):ax M n mo.items:=by
 cases mo with
 |lst xs=>exact .inl h
 |fz xs=>exact .inr<|.inl h
 |kl xs=>exact .inr<|.inr h
 |dct xs=>cases g
 |dkt xs=>cases g
 |dkq xs=>cases g
 |fdc o xs=>cases g
 |dkm xs=>cases g
 |tb x b=>cases g
 |exc x=>cases g
theorem jv{K:u0}{ρ:List c8}{H:Hp}:∀(ns:List Int),Reps K ρ H (ns.map D.int) (ns.map V.int)
 | []=>.nil
 |n::ns=>.cons (.int n)<|jv ns
noncomputable def pe(m:List (c5×k8))(N N':List c5)(t:Nat)(s:List Nat)(c:f7):Bool:=c.kind==.function&&c.names.all (λy=>y.2 != .cell&&(y.2 != .local||c.names.lookup y.1==a7 .local)&&(y.2 != .free||(m.lookup y.1==a7 .cell||m.lookup y.1==a7 .free))) &&
 N'.length==t+s.length&&(A2 s.length).all λk=>match s[k]?,N'[t+k]? with
  |some j,a7 x=>N[j]?==a7 x&&c.names.lookup x==a7 .free&&(m.lookup x==a7 .cell||m.lookup x==a7 .free)
  |_,_=>bt
theorem BlkSc.chk(h:pe X.env.scope.names X.N N' nt js scope=a9):BlkSc X N' nt js scope:=by
 unfold pe at h;simp only[C5,E6,o5,Ma,bne_iff_ne]at h;obtain⟨⟨⟨h1,h2⟩,a⟩,b⟩:=h;refine⟨h1,λy O=>(h2 y O).1.1,λy O e=>((h2 y O).1.2.resolve_left<|λz=>z e),λy O e=>((h2 y O).2.resolve_left<|λz=>z e),a,λk j e=>?_⟩;have c:k<js.length:=(w6.mp e).1;have q:=b k<|F7.mpr c;rw[e]at q;cases f:N'[nt+k]? with
 |none=>rw[f]at q;exact n9 q<|by simp
 |some x=>rw[f]at q;simp only[C5,o5,Ma]at q;exact⟨x,rfl,q.1.1,q.1.2,q.2⟩
section
variable{X:Cx}{a:h8}{ta:u9}{pos:i4}
noncomputable def Nn(r:Ny)(t:u9):u9:=λS M Q=>t S M λx a=>r x a Q
theorem d_un(B:O8 X (unaryOp op) r)(f:DE X a ta):DE X (.UnaryOp op a pos) (Nn r ta):=by refine PE.imp (pe_un B f) ?_;rintro σ H R ⟨S,M,ρ,Q,s,i,q,k⟩;refine⟨S,M,ρ,_,s,i,q,?_⟩;rintro v j ⟨d,b,c,h,g1,g,e⟩;exact⟨d,b,c,Q,h,g,e,λv H' w=>k v H'<|VQ.trans g1 w⟩
noncomputable def GM:Ny:=λx M Q=>match x with
 |.int i=>Q (.int (-i)) M
 |_=>False
theorem Ha:O8 X (unaryOp .USub) GM:=by rintro p s σ H a v R I g ⟨x,M,ρ,Q,m,r,q,k⟩;unfold GM at q;split at q;cases r;exact GZ p s σ H _ v R I g ⟨_,rfl,k _ H<|VQ.now m (.int _) q⟩;exact q.elim
end
noncomputable def C3(f:D->D->Bool):List D->List D->Bool
 | [],[]=>a9
 |x::xs,y::ys=>f x y&&C3 f xs ys
 |_,_=>bt
noncomputable def t4(M:t5):Nat->D->D->Bool
 |_,.non,.non=>a9
 |_,.bl a,.bl b=>a==b
 |_,.bl a,.int b=>(if a then 1 else 0)==b
 |_,.int a,.bl b=>a==(if b then 1 else 0)
 |_,.int a,.int b=>a==b
 |_,.str a,.str b=>a==b
 |n+1,.tup xs,.tup ys=>C3 (t4 M n) xs ys
 |n+1,.ref i,.ref j=>match M[i]?,M[j]? with
  |some a,a7 b=>C3 (t4 M n) a.items b.items
  |_,_=>bt
 |_,_,_=>bt
noncomputable def u3(M:t5):Nat->D->Bool
 |_,.ty _=>bt
 |n+1,.tup xs=>xs.all<|u3 M n
 |n+1,.ref i=>match M[i]? with
  |some a=>a.isL&&a.items.all (u3 M n)
  |none=>bt
 | 0,.tup _=>bt
 | 0,.ref _=>bt
 |_,_=>a9
theorem AK:∀{xs ys:List D},C3 f xs ys=a9->xs.length=ys.length
 | [],[],_=>rfl
 | [],_::_,h=>by simp[C3]at h
 |_::_,[],h=>by simp[C3]at h
 |x::xs,y::ys,h=>by simp only[C3,C5]at h;rw[C2,C2,AK h.2]
theorem Bk(n:Nat)(e:Nat->Bool):(A2<|n+1).all e=(e 0&&(A2 n).all λj=>e<|j+1):=by rw[List.range_succ_eq_map,KA,List.all_map];rfl
theorem mW:∀{xs ys:List D}{e:Nat->Bool},xs.length=ys.length->(∀(j:Nat) x y,xs[j]?=a7 x->ys[j]?=a7 y->e j=f x y)->(A2 xs.length).all e=C3 f xs ys
 | [],[],e,_,_=>by simp[C3]
 | [],_::_,_,h,_=>by simp at h
 |_::_,[],_,h,_=>by simp at h
 |x::xs,y::ys,e,h,he=>by rw[C2,Bk,C3,he 0 x y rfl rfl,mW (by simpa using h) λj x' y' h1 h2=>he (j+1) x' y' (by simpa using h1)<|by simpa using h2]
theorem AJ(h:xs.length≠ys.length):C3 f xs ys=bt:=by
 cases q:C3 f xs ys with
 |false=>rfl
 |true=>exact n9 (AK q) h
theorem iZ{vs:List V}{us:List c4}(h:aC vs us){j:Nat}{v:V}(e:vs[j]?=a7 v):∃u,us[j]?=a7 u/\aM v u:=by
 induction h generalizing j with
 |nil=>simp at e
 |cons r _ i =>
  cases j with
  |zero=>simp at e;subst e;exact⟨_,rfl,r⟩
  |succ j=>exact i<|by simpa using e
section
variable{X:Cx}{pins:List (c8×c9)}{σ:St}{H:Hp}{s:e9}{ρ:List c8}{M:t5}
theorem mn(I:p8 X pins σ H s)(m:u8 X.K ρ M H){i:Nat}{a:c8}{mo:MO}(e:ρ[i]?=a7 a)(d:M[i]?=a7 mo)(g:mo.isL=a9):∃vs its,Ki X.K H a vs/\Reps X.K ρ H mo.items vs/\aC vs its/\PlainL s.heap a its.toArray:=by obtain⟨vs,q,r⟩:=ax.seq m (mP d g) e;obtain⟨its,f,p,_⟩:=I.list q;exact⟨vs,its,q,r,f,p⟩
theorem eW(d:M[i]?=a7 mo)(o:u3 M (n+1) (.ref i)=a9):mo.isL=a9/\mo.items.all (u3 M n)=a9:=by have b:(match M[i]? with|some a=>a.isL&&a.items.all (u3 M n)|none=>bt)=a9:=o;rw[d]at b;exact(C5 _ _).mp b
theorem CY(I:p8 X pins σ H s)(m:u8 X.K ρ M H):∀(n:Nat) (x y:D) (v:V),t9 X.K ρ H x v->t9 X.K ρ H y v->u3 M n x=a9->u3 M n y=a9->t4 M n x y=a9:=by
 have l:∀(n:Nat),(∀(x y:D) (v:V),t9 X.K ρ H x v->t9 X.K ρ H y v->u3 M n x=a9->u3 M n y=a9->t4 M n x y=a9) -> ∀(xs ys:List D) (vs:List V),Reps X.K ρ H xs vs->Reps X.K ρ H ys vs->xs.all (u3 M n)=a9->ys.all (u3 M n)=a9->C3 (t4 M n) xs ys=a9:=by
  intro n w xs;induction xs with
  |nil=>intro ys vs h1 h2 _ _;cases h1;cases h2;rfl
  |cons x xs hi =>
   intro ys vs h1 h2 c f;cases h1 with
   |cons P S =>
    cases h2 with
    |cons Q T=>rw[KA,C5]at c f;rw[C3,w _ _ _ P Q c.1 f.1,hi _ _ S T c.2 f.2];rfl
 intro n;induction n with
 |zero=>intro x y v h1 h2 c f;cases h1<;>cases h2<;>first|(simp[u3]at c;done)|rfl|simp[t4]
 |succ n w =>
  intro x y v h1 h2 c f;cases h1 with
  |non=>cases h2;rfl
  |bl b=>cases h2;simp[t4]
  |int b=>cases h2;simp[t4]
  |str b=>cases h2;simp[t4]
  |ty b=>simp[u3]at c
  |@tup a vs ds u r =>
   cases h2 with
   |tup h r'=>have e:=I.tuple_inj u h;subst e;exact l n w _ _ _ r r' (by simpa [u3]using c)<|by simpa [u3]using f
   |@ref i _ e =>
    exfalso;obtain⟨its,_,⟨o,z,A,_⟩,_⟩:=I.tuple u;have hi:i<M.length:=by rw[<-m.len];exact(w6.mp e).1
    obtain⟨q,g,_,_,_,⟨J,G,k,p,_⟩⟩:=mn I m e (v9 hi) (eW (v9 hi) f).1;rw[z]at k;cases k;rw[A]at p;injection p with f3;exact n9 f3<|by decide
  |@ref i a e =>
   have hi:i<M.length:=by rw[<-m.len];exact(w6.mp e).1
   have t:=v9 hi;obtain⟨vs,its,u,r,U,N⟩:=mn I m e t (eW t c).1;cases h2 with
   |tup h r'=>exfalso;obtain⟨g,_,⟨o,z,A,_⟩,_⟩:=I.tuple h;obtain⟨J,G,k,p,_⟩:=N;rw[z]at k;cases k;rw[A]at p;injection p with f3;exact n9 f3<|by decide
   |@ref j _ E =>
    have L:j<M.length:=by rw[<-m.len];exact(w6.mp E).1
    have d:=v9 L;obtain⟨q,g,h,r',R,O⟩:=mn I m E d (eW d f).1;have F:vs=q:=I.list_inj u h;subst F;have B:=(eW t c).2;have C:=(eW d f).2;simp only[t4,t,d];exact l n w _ _ _ r r' B C
theorem mY(I:p8 X pins σ H s)(sm:u8 X.K ρ M H):∀(n:Nat) (A:e8) (x y:D) (vx vy:V) (u v:c4),A.units+n<k4->t9 X.K ρ H x vx->aM vx u->t9 X.K ρ H y vy->aM vy v->u3 M n x=a9->u3 M n y=a9 ->KW A s u v (t4 M n x y)/\SeqAt.RcAt A s u v (t4 M n x y)/\SeqAt.RcNeAt A s u v (!t4 M n x y):=by
 intro n;induction n with
 |zero =>
  intro A x y vx vy u v hu T z o l F f;cases T with
  |ty b=>simp[u3]at F
  |tup b=>simp[u3]at F
  |ref b=>simp[u3]at F
  |non =>
   cases z;cases o with
   |ty b=>simp[u3]at f
   |tup b=>simp[u3]at f
   |ref b=>simp[u3]at f
   |non=>cases l;exact⟨Oh _,SeqAt.RcAt.none_none,SeqAt.RcNeAt.none_none⟩
   |bl b=>cases l;exact⟨SeqAt.EqAt.none_bool _,SeqAt.RcAt.none_bool _,SeqAt.RcNeAt.none_bool _⟩
   |int b=>obtain⟨t,rfl⟩:=l;exact⟨SeqAt.EqAt.none_int _ _,SeqAt.RcAt.none_int _ _,SeqAt.RcNeAt.none_int _ _⟩
   |str b=>obtain⟨t,rfl⟩:=l;exact⟨SeqAt.EqAt.none_str _ _,SeqAt.RcAt.none_str _ _,SeqAt.RcNeAt.none_str _ _⟩
  |bl a =>
   cases z;cases o with
   |ty b=>simp[u3]at f
   |tup b=>simp[u3]at f
   |ref b=>simp[u3]at f
   |non=>cases l;exact⟨SeqAt.EqAt.bool_none _,SeqAt.RcAt.bool_none _,SeqAt.RcNeAt.bool_none _⟩
   |bl b=>cases l;exact⟨SeqAt.EqAt.bool_bool _ _,SeqAt.RcAt.bool_bool _ _,SeqAt.RcNeAt.bool_bool _ _⟩
   |int b=>obtain⟨t,rfl⟩:=l;exact⟨SeqAt.EqAt.bool_int _ _ _,SeqAt.RcAt.bool_int _ _ _,SeqAt.RcNeAt.bool_int _ _ _⟩
   |str b=>obtain⟨t,rfl⟩:=l;exact⟨SeqAt.EqAt.bool_str _ _ _,SeqAt.RcAt.bool_str _ _ _,SeqAt.RcNeAt.bool_str _ _ _⟩
  |int a =>
   obtain⟨t0,rfl⟩:=z;cases o with
   |ty b=>simp[u3]at f
   |tup b=>simp[u3]at f
   |ref b=>simp[u3]at f
   |non=>cases l;exact⟨SeqAt.EqAt.int_none _ _,SeqAt.RcAt.int_none _ _,SeqAt.RcNeAt.int_none _ _⟩
   |bl b=>cases l;exact⟨SeqAt.EqAt.int_bool _ _ _,SeqAt.RcAt.int_bool _ _ _,SeqAt.RcNeAt.int_bool _ _ _⟩
   |int b=>obtain⟨t,rfl⟩:=l;exact⟨OD _ _ _ _,SeqAt.RcAt.int_int _ _ _ _,SeqAt.RcNeAt.int_int _ _ _ _⟩
   |str b=>obtain⟨t,rfl⟩:=l;exact⟨NP _ _ _ _,SeqAt.RcAt.int_str _ _ _ _,SeqAt.RcNeAt.int_str _ _ _ _⟩
  |str a =>
   obtain⟨t0,rfl⟩:=z;cases o with
   |ty b=>simp[u3]at f
   |tup b=>simp[u3]at f
   |ref b=>simp[u3]at f
   |non=>cases l;exact⟨SeqAt.EqAt.str_none _ _,SeqAt.RcAt.str_none _ _,SeqAt.RcNeAt.str_none _ _⟩
   |bl b=>cases l;exact⟨SeqAt.EqAt.str_bool _ _ _,SeqAt.RcAt.str_bool _ _ _,SeqAt.RcNeAt.str_bool _ _ _⟩
   |int b=>obtain⟨t,rfl⟩:=l;exact⟨NO _ _ _ _,SeqAt.RcAt.str_int _ _ _ _,SeqAt.RcNeAt.str_int _ _ _ _⟩
   |str b=>obtain⟨t,rfl⟩:=l;exact⟨OC _ _ _ _,SeqAt.RcAt.str_str _ _ _ _,SeqAt.RcNeAt.str_str _ _ _ _⟩
 |succ n ih =>
  intro A x y vx vy u v hu T z o l F f;have c:A.units<k4:=by lia
  have ai:A.in1.units+n<k4:=by show A.units+1+n<k4;lia
  -- what a list or a tuple is,as the heap has it
  have tupAt:∀{a:c8}{vs:List V}{ds:List D},z0 X.K H a vs->Reps X.K ρ H ds vs->∃its:List c4,aC vs its/\s.heap.IsTuple a its.toArray/\ds.length=its.length:=λ{a vs ds} q r=>by obtain⟨its,m,p,_⟩:=I.tuple q;exact⟨its,m,p,r.length.trans m.length⟩
  have lstAt:∀{i:Nat}{a:c8},ρ[i]?=a7 a->u3 M (n+1) (.ref i)=a9->∃w,M[i]?=a7 w/\∃vs its,Reps X.K ρ H w.items vs/\aC vs its/\s.heap.IsList a its.toArray/\w.items.length=its.length:=λ{i a} e ok=>by
   have hi:i<M.length:=by rw[<-sm.len];exact(w6.mp e).1
   have B:=v9 hi;obtain⟨vs,its,q,r,m,p⟩:=mn I sm e B (eW B ok).1;exact⟨_,B,vs,its,r,m,p.isList,r.length.trans m.length⟩
  have g:∀{xs ys:List D}{vs ws:List V}{its d:List c4},Reps X.K ρ H xs vs->aC vs its->Reps X.K ρ H ys ws->aC ws d->xs.all (u3 M n)=a9->ys.all (u3 M n)=a9 -> ∀(j:Nat) (h1:j<its.toArray.size) (h2:j<d.toArray.size),KW A.in1 s its.toArray[j] d.toArray[j] (t4 M n (xs.getD j .non)<|ys.getD j .non):=λ{xs ys vs ws its d} T q1 o q2 F f j h1 h2=>by
   have l1:j<xs.length:=by rw[T.length,q1.length];simpa using h1
   have l2:j<ys.length:=by rw[o.length,q2.length];simpa using h2
   obtain⟨v1,g1,p1⟩:=T.get<|v9 l1;obtain⟨v2,g2,p2⟩:=o.get<|v9 l2;obtain⟨u1,k1,m1⟩:=iZ q1 g1;obtain⟨u2,k2,m2⟩:=iZ q2 g2;have z1:its.toArray[j]=u1:=by have:=(w6.mp k1).2;simpa using this
   have z2:d.toArray[j]=u2:=by have:=(w6.mp k2).2;simpa using this
   rw[z1,z2];have y1:xs.getD j .non=xs[j]:=by simp[Ms,v9 l1]
   have y2:ys.getD j .non=ys[j]:=by simp[Ms,v9 l2]
   rw[y1,y2];exact(ih A.in1 _ _ _ _ _ _ ai p1 m1 p2 m2 (E6.mp F _<|J0 l1)<|E6.mp f _<|J0 l2).1
  have Z:∀(xs ys:List D),xs.length=ys.length->(A2 xs.length).all (λj=>t4 M n (xs.getD j .non)<|ys.getD j .non)=C3 (t4 M n) xs ys:=λxs ys h=>mW h λj x y h1 h2=>by simp[Ms,h1,h2]
  have P:∀{a b:c8}{k:Bool},t9 X.K ρ H x (.ref a)->t9 X.K ρ H y (.ref b)->t4 M (n+1) x y=k->SeqAt.RcAt A s (.ref a) (.ref b) k->SeqAt.RcNeAt A s (.ref a) (.ref b) (!k) -> KW A s (.ref a) (.ref b) (t4 M (n+1) x y)/\SeqAt.RcAt A s (.ref a) (.ref b) (t4 M (n+1) x y)/\SeqAt.RcNeAt A s (.ref a) (.ref b) (!t4 M (n+1) x y):=λ{a b k} p1 p2 ek h1 h2=>by subst ek;refine⟨?_,h1,h2⟩;by_cases U:a=b;subst U;rw[CY I sm (n+1) x y _ p1 p2 F f];exact Oh _;exact SeqAt.EqAt.of_refs U h1
  cases T with
  |ty b=>simp[u3]at F
  |non =>
   cases z;cases o with
   |ty b=>simp[u3]at f
   |tup q r=>cases l;obtain⟨its,m,p,_⟩:=tupAt q r;exact⟨SeqAt.EqAt.none_tuple p c,SeqAt.RcAt.none_tuple p c,SeqAt.RcNeAt.none_tuple p c⟩
   |ref e=>cases l;obtain⟨w,B,vs,its,r,m,p,_⟩:=lstAt e f;exact⟨SeqAt.EqAt.none_list p c,SeqAt.RcAt.none_list p c,SeqAt.RcNeAt.none_list p c⟩
   |non=>cases l;exact⟨Oh _,SeqAt.RcAt.none_none,SeqAt.RcNeAt.none_none⟩
   |bl b=>cases l;exact⟨SeqAt.EqAt.none_bool _,SeqAt.RcAt.none_bool _,SeqAt.RcNeAt.none_bool _⟩
   |int b=>obtain⟨t,rfl⟩:=l;exact⟨SeqAt.EqAt.none_int _ _,SeqAt.RcAt.none_int _ _,SeqAt.RcNeAt.none_int _ _⟩
   |str b=>obtain⟨t,rfl⟩:=l;exact⟨SeqAt.EqAt.none_str _ _,SeqAt.RcAt.none_str _ _,SeqAt.RcNeAt.none_str _ _⟩
  |bl a =>
   cases z;cases o with
   |ty b=>simp[u3]at f
   |tup q r=>cases l;obtain⟨its,m,p,_⟩:=tupAt q r;exact⟨SeqAt.EqAt.bool_tuple _ p c,SeqAt.RcAt.bool_tuple _ p c,SeqAt.RcNeAt.bool_tuple _ p c⟩
   |ref e=>cases l;obtain⟨w,B,vs,its,r,m,p,_⟩:=lstAt e f;exact⟨SeqAt.EqAt.bool_list _ p c,SeqAt.RcAt.bool_list _ p c,SeqAt.RcNeAt.bool_list _ p c⟩
   |non=>cases l;exact⟨SeqAt.EqAt.bool_none _,SeqAt.RcAt.bool_none _,SeqAt.RcNeAt.bool_none _⟩
   |bl b=>cases l;exact⟨SeqAt.EqAt.bool_bool _ _,SeqAt.RcAt.bool_bool _ _,SeqAt.RcNeAt.bool_bool _ _⟩
   |int b=>obtain⟨t,rfl⟩:=l;exact⟨SeqAt.EqAt.bool_int _ _ _,SeqAt.RcAt.bool_int _ _ _,SeqAt.RcNeAt.bool_int _ _ _⟩
   |str b=>obtain⟨t,rfl⟩:=l;exact⟨SeqAt.EqAt.bool_str _ _ _,SeqAt.RcAt.bool_str _ _ _,SeqAt.RcNeAt.bool_str _ _ _⟩
  |int a =>
   obtain⟨t0,rfl⟩:=z;cases o with
   |ty b=>simp[u3]at f
   |tup q r=>cases l;obtain⟨its,m,p,_⟩:=tupAt q r;exact⟨SeqAt.EqAt.int_tuple _ _ p c,SeqAt.RcAt.int_tuple _ _ p c,SeqAt.RcNeAt.int_tuple _ _ p c⟩
   |ref e=>cases l;obtain⟨w,B,vs,its,r,m,p,_⟩:=lstAt e f;exact⟨SeqAt.EqAt.int_list _ _ p c,SeqAt.RcAt.int_list _ _ p c,SeqAt.RcNeAt.int_list _ _ p c⟩
   |non=>cases l;exact⟨SeqAt.EqAt.int_none _ _,SeqAt.RcAt.int_none _ _,SeqAt.RcNeAt.int_none _ _⟩
   |bl b=>cases l;exact⟨SeqAt.EqAt.int_bool _ _ _,SeqAt.RcAt.int_bool _ _ _,SeqAt.RcNeAt.int_bool _ _ _⟩
   |int b=>obtain⟨t,rfl⟩:=l;exact⟨OD _ _ _ _,SeqAt.RcAt.int_int _ _ _ _,SeqAt.RcNeAt.int_int _ _ _ _⟩
   |str b=>obtain⟨t,rfl⟩:=l;exact⟨NP _ _ _ _,SeqAt.RcAt.int_str _ _ _ _,SeqAt.RcNeAt.int_str _ _ _ _⟩
  |str a =>
   obtain⟨t0,rfl⟩:=z;cases o with
   |ty b=>simp[u3]at f
   |tup q r=>cases l;obtain⟨its,m,p,_⟩:=tupAt q r;exact⟨SeqAt.EqAt.str_tuple _ _ p c,SeqAt.RcAt.str_tuple _ _ p c,SeqAt.RcNeAt.str_tuple _ _ p c⟩
   |ref e=>cases l;obtain⟨w,B,vs,its,r,m,p,_⟩:=lstAt e f;exact⟨SeqAt.EqAt.str_list _ _ p c,SeqAt.RcAt.str_list _ _ p c,SeqAt.RcNeAt.str_list _ _ p c⟩
   |non=>cases l;exact⟨SeqAt.EqAt.str_none _ _,SeqAt.RcAt.str_none _ _,SeqAt.RcNeAt.str_none _ _⟩
   |bl b=>cases l;exact⟨SeqAt.EqAt.str_bool _ _ _,SeqAt.RcAt.str_bool _ _ _,SeqAt.RcNeAt.str_bool _ _ _⟩
   |int b=>obtain⟨t,rfl⟩:=l;exact⟨NO _ _ _ _,SeqAt.RcAt.str_int _ _ _ _,SeqAt.RcNeAt.str_int _ _ _ _⟩
   |str b=>obtain⟨t,rfl⟩:=l;exact⟨OC _ _ _ _,SeqAt.RcAt.str_str _ _ _ _,SeqAt.RcNeAt.str_str _ _ _ _⟩
  |@tup a vs ds q r =>
   cases z;obtain⟨its,m,p,S⟩:=tupAt q r;cases o with
   |ty b=>simp[u3]at f
   |non=>cases l;exact⟨SeqAt.EqAt.tuple_none p c,SeqAt.RcAt.tuple_none p c,SeqAt.RcNeAt.tuple_none p c⟩
   |bl b=>cases l;exact⟨SeqAt.EqAt.tuple_bool _ p c,SeqAt.RcAt.tuple_bool _ p c,SeqAt.RcNeAt.tuple_bool _ p c⟩
   |int b=>obtain⟨t,rfl⟩:=l;exact⟨SeqAt.EqAt.tuple_int _ _ p c,SeqAt.RcAt.tuple_int _ _ p c,SeqAt.RcNeAt.tuple_int _ _ p c⟩
   |str b=>obtain⟨t,rfl⟩:=l;exact⟨SeqAt.EqAt.tuple_str _ _ p c,SeqAt.RcAt.tuple_str _ _ p c,SeqAt.RcNeAt.tuple_str _ _ p c⟩
   |ref e=>cases l;obtain⟨w,B,al,Y,r',R,O,_⟩:=lstAt e f;exact⟨SeqAt.EqAt.tuple_list p O c,SeqAt.RcAt.tuple_list p O c,SeqAt.RcNeAt.tuple_list p O c⟩
   |@tup b ws es N r' =>
    cases l;obtain⟨d,R,O,E⟩:=tupAt N r';have G:ds.all (u3 M n)=a9:=by simpa [u3]using F
    have J:es.all (u3 M n)=a9:=by simpa [u3]using f
    have aj:((A2<|min its.toArray.size d.toArray.size).all (λj=>t4 M n (ds.getD j .non)<|es.getD j .non)&&its.toArray.size==d.toArray.size)=C3 (t4 M n) ds es:=by rw[x3,x3];by_cases L:ds.length=es.length;rw[<-S,<-E,<-L,Nat.min_self,Z ds es L];simp;rw[AJ L,<-S,<-E];simp[L]
    have h1:=SeqAt.RcAt.tuples p O c<|g r m r' R G J;have h2:=SeqAt.RcNeAt.tuples p O c<|g r m r' R G J;rw[aj]at h1 h2;exact P (.tup q r) (.tup N r') rfl h1 h2
  |@ref i a e =>
   cases z;obtain⟨w,B,vs,its,r,m,p,S⟩:=lstAt e F;cases o with
   |ty b=>simp[u3]at f
   |non=>cases l;exact⟨SeqAt.EqAt.list_none p c,SeqAt.RcAt.list_none p c,SeqAt.RcNeAt.list_none p c⟩
   |bl b=>cases l;exact⟨SeqAt.EqAt.list_bool _ p c,SeqAt.RcAt.list_bool _ p c,SeqAt.RcNeAt.list_bool _ p c⟩
   |int b=>obtain⟨t,rfl⟩:=l;exact⟨SeqAt.EqAt.list_int _ _ p c,SeqAt.RcAt.list_int _ _ p c,SeqAt.RcNeAt.list_int _ _ p c⟩
   |str b=>obtain⟨t,rfl⟩:=l;exact⟨SeqAt.EqAt.list_str _ _ p c,SeqAt.RcAt.list_str _ _ p c,SeqAt.RcNeAt.list_str _ _ p c⟩
   |tup N r'=>cases l;obtain⟨Y,R,O,_⟩:=tupAt N r';exact⟨SeqAt.EqAt.list_tuple p O c,SeqAt.RcAt.list_tuple p O c,SeqAt.RcNeAt.list_tuple p O c⟩
   |@ref j b e' =>
    cases l;obtain⟨Q,W,ws,d,r',R,O,E⟩:=lstAt e' f;have G:w.items.all (u3 M n)=a9:=(eW B F).2;have J:Q.items.all (u3 M n)=a9:=(eW W f).2;have ek:t4 M (n+1) (.ref i) (.ref j)=C3 (t4 M n) w.items Q.items:=by simp only[t4,B,W]
    by_cases L:w.items.length=Q.items.length;have C:its.toArray.size=d.toArray.size:=by rw[x3,x3,<-S,<-E,L]
    have h1:=SeqAt.RcAt.lists p O C c<|g r m r' R G J;have h2:=SeqAt.RcNeAt.lists p O C c<|g r m r' R G J;rw[x3,<-S,Z _ _ L]at h1 h2;exact P (.ref e) (.ref e') ek h1 h2;have C:(its.toArray.size != d.toArray.size)=a9:=by rw[x3,x3,<-S,<-E];simpa using L
    have h1:=SeqAt.RcAt.lists_lengths p O C c;have h2:=SeqAt.RcNeAt.lists_lengths p O C c;exact P (.ref e) (.ref e') (ek.trans<|AJ L) h1 h2
noncomputable def t8:Nat:=30
noncomputable def x9:E1:=λx y M Q=>(u3 M t8 x=a9/\u3 M t8 y=a9)/\Q (.bl<|t4 M t8 x y) M
noncomputable def K2:E1:=λx y M Q=>(u3 M t8 x=a9/\u3 M t8 y=a9)/\Q (.bl<|!t4 M t8 x y) M
noncomputable def Kv(M:t5)(x:D)(ys:List D):Bool:=ys.any λy=>t4 M t8 y x
noncomputable def Hz(g:Bool):E1:=λx y M Q=>match y with
 |.tup ys=>(u3 M t8 x=a9/\ys.all (u3 M t8)=a9)/\Q (.bl<|Kv M x ys != g) M
 |.ref n=>∃ys,ax M n ys/\(u3 M t8 x=a9/\ys.all (u3 M t8)=a9)/\Q (.bl<|Kv M x ys != g) M
 |.str z=>match x with
  |.str p=>Q (.bl<|(!(OQ z p 0 z.length 1).isEmpty) != g) M
  |_=>False
 |_=>False
noncomputable abbrev K3:E1:=Hz bt
noncomputable abbrev kN:E1:=Hz a9
end
section
variable{X:Cx}
theorem vt(i:Room k A):A.units+t8<k4:=by have:=i.un;unfold t8;lia
theorem od_eq(i:Room k X.A):E8 X (j8 .Eq) x9:=by rintro p s σ H d l v u R I g b ⟨x,y,M,ρ,Q,m,r,a,⟨⟨c,f⟩,q⟩,k⟩;exact(mY I m t8 X.A x y d l v u (vt i) r g a b c f).2.1 _ _ _ _<|iO I m k q
theorem od_ne(i:Room k X.A):E8 X (j8 .NotEq) K2:=by rintro p s σ H d l v u R I g b ⟨x,y,M,ρ,Q,m,r,a,⟨⟨c,f⟩,q⟩,k⟩;exact(mY I m t8 X.A x y d l v u (vt i) r g a b c f).2.2 _ _ _ _<|iO I m k q
theorem sS{pins:List (c8×c9)}{σ:St}{H:Hp}{s:e9}{ρ:List c8}{M:t5}(I:p8 X pins σ H s)(m:u8 X.K ρ M H):∀(n:Nat) (x y z:D) (v:V),t9 X.K ρ H x v->t9 X.K ρ H y v->u3 M n x=a9->u3 M n y=a9->t4 M n x z=t4 M n y z:=by
 have p:∀(n:Nat),(∀(x y z:D) (v:V),t9 X.K ρ H x v->t9 X.K ρ H y v->u3 M n x=a9->u3 M n y=a9->t4 M n x z=t4 M n y z) -> ∀(xs ys c:List D) (vs:List V),Reps X.K ρ H xs vs->Reps X.K ρ H ys vs->xs.all (u3 M n)=a9->ys.all (u3 M n)=a9->C3 (t4 M n) xs c=C3 (t4 M n) ys c:=by
  intro n B xs;induction xs with
  |nil=>intro ys c vs h1 h2 _ _;cases h1;cases h2;rfl
  |cons x xs hi =>
   intro ys c vs h1 h2 l f;cases h1 with
   |cons Q T =>
    cases h2 with
    |cons R U =>
     cases c with
     |nil=>rfl
     |cons z c=>rw[KA,C5]at l f;rw[C3,C3,B _ _ z _ Q R l.1 f.1,hi _ c _ T U l.2 f.2]
 intro n;induction n with
 |zero=>intro x y z v h1 h2 l f;cases h1<;>cases h2<;>first|rfl|(cases z<;>rfl)
 |succ n B =>
  intro x y z v h1 h2 l f;cases h1 with
  |non=>cases h2;rfl
  |bl b=>cases h2;rfl
  |int b=>cases h2;rfl
  |str b=>cases h2;rfl
  |ty b=>cases h2;rfl
  |@tup a vs ds A r =>
   cases h2 with
   |tup h r' =>
    have e:=I.tuple_inj A h;subst e;cases z with
    |tup c=>exact p n B _ _ c _ r r' l f
    |_=>rfl
   |@ref i _ e =>
    exfalso;obtain⟨its,_,⟨o,C,E,_⟩,_⟩:=I.tuple A;have hi:i<M.length:=by rw[<-m.len];exact(w6.mp e).1
    obtain⟨u,g,_,_,_,⟨N,J,q,t,_⟩⟩:=mn I m e (v9 hi) (eW (v9 hi) f).1;rw[C]at q;cases q;rw[E]at t;injection t with f3;exact n9 f3<|by decide
  |@ref i a e =>
   have hi:i<M.length:=by rw[<-m.len];exact(w6.mp e).1
   have w:=v9 hi;obtain⟨vs,its,A,r,Y,O⟩:=mn I m e w (eW w l).1;cases h2 with
   |tup h r'=>exfalso;obtain⟨g,_,⟨o,C,E,_⟩,_⟩:=I.tuple h;obtain⟨N,J,q,t,_⟩:=O;rw[C]at q;cases q;rw[E]at t;injection t with f3;exact n9 f3<|by decide
   |@ref j _ F =>
    have L:j<M.length:=by rw[<-m.len];exact(w6.mp F).1
    have d:=v9 L;obtain⟨u,g,h,r',S,P⟩:=mn I m F d (eW d f).1;have G:vs=u:=I.list_inj A h;subst G;cases z with
    |ref k =>
     simp only[t4,w,d];cases M[k]? with
     |none=>rfl
     |some W=>exact p n B _ _ _ _ r r' (eW w l).2 (eW d f).2
    |_=>rfl
theorem At{k:Nat}(G:Room k X.A){pins:List (c8×c9)}{σ:St}{H:Hp}{s:e9}{ρ:List c8}{M:t5}(I:p8 X pins σ H s)(m:u8 X.K ρ M H){x:D}{n:V}{v:c4}(N:t9 X.K ρ H x n)(O:aM n v)(B:u3 M t8 x=a9):∀{ys:List D}{ws:List V}{its:List c4},Reps X.K ρ H ys ws->aC ws its->ys.all (u3 M t8)=a9->∃e:c4->Bool,(∀u∈its,KW X.A.in1 s u v<|e u)/\its.any e=Kv M x ys:=by
 have y:X.A.in1.units+t8<k4:=by have:=G.un;show X.A.units+1+t8<k4;unfold t8;lia
 intro ys ws its i vs ok
 classical
 refine⟨λu=>if h:∃d a,t9 X.K ρ H d a/\aM a u/\u3 M t8 d=a9 then t4 M t8 h.choose x else bt,λu E=>?_,?_⟩;obtain⟨j,L,C⟩:=NR E;have z:j<ws.length:=by rw[vs.length];exact L
 obtain⟨d,w,f⟩:=i.getV<|v9 z;obtain⟨l,b,R⟩:=iZ vs<|v9 z;have:l=u:=by rw[v9 L]at b;cases b;exact C
 subst this;have o:=E6.mp ok _<|J1 w;have h:∃d a,t9 X.K ρ H d a/\aM a l/\u3 M t8 d=a9:=⟨d,_,f,R,o⟩
 show KW X.A.in1 s l v (if h:_ then _ else _);rw[dif_pos h];obtain⟨a,g,p,c⟩:=h.choose_spec;have F:=aM.inj p R;subst F;rw[sS I m t8 _ d x _ g f c o];exact(mY I m t8 X.A.in1 d x _ n _ v y f R N O (E6.mp ok _<|J1 w) B).1;clear y B;unfold Kv;induction ys generalizing ws its with
 |nil=>cases i;cases vs;rfl
 |cons d ds J =>
  cases i with
  |cons r t =>
  cases vs with
  |cons q t' =>
   rename_i a P u us;rw[KA,C5]at ok;have h:∃d a,t9 X.K ρ H d a/\aM a u/\u3 M t8 d=a9:=⟨d,_,r,q,ok.1⟩
   rw[List.any_cons,List.any_cons,J t t' ok.2,dif_pos h];obtain⟨Q,g,p,c⟩:=h.choose_spec;have F:=aM.inj p q;subst F;rw[sS I m t8 _ d x _ g r c ok.1]
theorem DQ(g:Bool)(F:Room k X.A):E8 X (j8<|if g then .NotIn else .In) (Hz g):=by
 rintro G s σ H O P v u R I D E ⟨x,y,M,ρ,Q,m,B,K,q,k⟩;cases K with
 |non=>exact q.elim
 |bl b=>exact q.elim
 |int b=>exact q.elim
 |ty b=>exact q.elim
 |str z =>
  cases B with
  |str p =>
   obtain⟨t,rfl⟩:=D;obtain⟨t',rfl⟩:=E;cases g with
   |false=>exact in_str<|iO I m k<|by simpa [Hz]using q
   |true=>exact notIn_str<|iO I m k<|by simpa [Hz]using q
  |_=>exact q.elim
 |@tup a N ys j r =>
  cases E;obtain⟨⟨o,n⟩,q⟩:=(show (u3 M t8 x=a9/\_)/\_ from q)
  obtain⟨its,C,l,J⟩:=I.tuple j;obtain⟨e,i,f⟩:=At F I m B D o r C n;have d:its.toArray.any e=Kv M x ys:=by rw[<-f];simp
  cases g with
  |false=>exact SeqAt.in_tupleAt e l (λw c=>i w<|by simpa using c)<|by rw[d];exact iO I m k<|by simpa using q
  |true=>exact SeqAt.notIn_tupleAt e l (λw c=>i w<|by simpa using c)<|by rw[d];exact iO I m k<|by simpa using q
 |ref h =>
  cases E;obtain⟨ys,L,⟨o,n⟩,q⟩:=(show ∃ys,ax M _ ys/\(u3 M t8 x=a9/\_)/\_ from q)
  obtain⟨N,j,r⟩:=ax.seq m L h;obtain⟨its,C,l,J⟩:=I.list j;obtain⟨e,i,f⟩:=At F I m B D o r C n;have d:its.toArray.any e=Kv M x ys:=by rw[<-f];simp
  cases g with
  |false=>exact SeqAt.in_listAt e l.isList (λw c=>i w<|by simpa using c)<|by rw[d];exact iO I m k<|by simpa using q
  |true=>exact SeqAt.notIn_listAt e l.isList (λw c=>i w<|by simpa using c)<|by rw[d];exact iO I m k<|by simpa using q
theorem od_in(i:Room k X.A):E8 X (j8 .In) K3:=DQ bt i
theorem Ce(i:Room k X.A):E8 X (j8 .NotIn) kN:=DQ a9 i
end
theorem Ke:d9 "len" = a7 (.builtin "len"):=by decide +kernel
theorem Kf:d9 "any" = a7 (.builtin "any"):=by decide +kernel
theorem tK:d9 "sorted" = a7 (.builtin "sorted"):=by decide +kernel
theorem Du:d9 "tuple" = a7 (.type "tuple"):=by decide +kernel
theorem GF:d9 "dict" = a7 (.type "dict"):=by decide +kernel
noncomputable def visB(c:f7)(x:c5):Bool:=match c.names.lookup x with
 |some .local=>a9
 |some .cell=>a9
 |some .free=>a9
 |_=>bt
theorem GY(h:visB sc x=a9):Mp sc x:=by unfold visB at h;unfold Mp;split at h;rename_i e;exact .inl e;rename_i e;exact .inr<|.inl e;rename_i e;exact .inr<|.inr e;cases h
noncomputable def GP(c:f7)(x:c5):Bool:=match c.names.lookup x with
 |some .local=>a9
 |some .cell=>a9
 |_=>bt
theorem zX(h:GP sc x=a9):L1 sc x:=by unfold GP at h;unfold L1;split at h;rename_i e;exact .inl e;rename_i e;exact .inr e;cases h
structure HE(X:Cx)(e:h8)(t:u9):Prop where
 ok:DE X e t
structure HT(X:Cx)(e:h8)(t:F5):Prop where
 ok:DT X e t
structure HW(X:Cx)(e:h8)(t:F5):Prop where
 ok:DW X e t
structure HA(X:Cx)(es:List h8)(t:F4):Prop where
 ok:DA X es t
structure HS(X:Cx)(e:i7)(t:p9):Prop where
 ok:DS X e t
structure HB(X:Cx)(e:List i7)(t:p9):Prop where
 ok:Lg X e t
structure HG(X:Cx)(e:h8)(t:Ix):Prop where
 ok:DG X e t
structure HI(X:Cx)(tg e:h8)(t:Ky):Prop where
 ok:DI X tg e t
structure MT(X:Cx)(e:List h8)(t:F5):Prop where
 ok:Ls X e (lowT X.K t)
structure HO'(X:Cx)(e:Option h8)(t:Mr):Prop where
 ok:PO X e (IF X.K t)
structure F0(X:Cx)(f:c4->c4->Sem c4)(r:E1):Prop where
 ok:E8 X f r
structure PR(X:Cx)(f:c4->Sem c4)(r:Ny):Prop where
 ok:O8 X f r
structure HC(X:Cx)(f:c4)(r:D1):Prop where
 ok:nN X f r
structure Pc(X:Cx)(name:c5)(r:c5->D1):Prop where
 ok:∃id,Slot "str" name id/\typeOf (.builtin id)=pure (.type "method_descriptor")/\Kw X id (Cn X.K r)
structure Pd(X:Cx)(name:c5)(r:Nat->D1):Prop where
 ok:∃id,Slot "list" name id/\typeOf (.builtin id)=pure (.type "method_descriptor")/\Kw X id (pV X.K r)
section
variable{X:Cx}{e a b c o:h8}{es aY:List h8}{te ta tb tc to:u9}{t:F4}{pos p:i4}{x:c5}{tA tB:F5}{k:Nat}
theorem k_var(h:X.N[i]?=a7 x:=by kernel_rfl)(c:visB X.env.scope x=a9:=by kernel_rfl)(a:(x==("__debug__":c5))=bt:=by kernel_rfl)(d:(x==("__classdict__":c5))=bt:=by kernel_rfl):HE X (.Name x pos) (ab i):=⟨d_var h (GY c) a d⟩
theorem k_int:HE X (.Constant (.int i) j pos) (dC<|.int i):=⟨d_int⟩
theorem k_bl:HE X (.Constant (.bool i) j pos) (dC<|.bl i):=⟨d_bl⟩
theorem k_non:HE X (.Constant .none j pos) (dC .non):=⟨d_non⟩
theorem k_str:HE X (.Constant (.str i) j pos) (dC<|.str i):=⟨d_str⟩
theorem k_op(B:F0 X (j7 op) r)(f:HE X a ta)(d:HE X b tb):HE X (.BinOp a op b pos) (p7 r ta tb):=⟨d_op B.ok f.ok d.ok⟩
theorem k_un(B:PR X (unaryOp op) r)(f:HE X a ta):HE X (.UnaryOp op a pos) (Nn r ta):=⟨d_un B.ok f.ok⟩
theorem k_cmp(B:F0 X (j8 op) r)(f:HE X a ta)(d:HE X b tb)(m:j9 op b=bt:=by kernel_rfl):HE X (.Compare a [op] [b] pos) (p7 r ta tb):=⟨d_cmp B.ok f.ok d.ok m⟩
theorem IK(B:F0 X (j8 op) r)(f:HE X a ta)(d:HE X b tb)(m:j9 op b=bt:=by kernel_rfl):HT X (.Compare a [op] [b] pos) (ay<|p7 r ta tb):=⟨JF B.ok f.ok d.ok m⟩
theorem FK(B:F0 X (j8 op) r)(h:F0 X (j8 op') r')(f:HE X a ta)(d:HE X b tb)(e:HE X c tc)(m:lastMarks [op,op'] [b,c]=bt:=by kernel_rfl):HE X (.Compare a [op,op'] [b,c] pos) (tp r r' ta tb tc):=⟨Gy B.ok h.ok f.ok d.ok e.ok m⟩
theorem II(h:HE X e te)(i:∀whole,isTrue e X.env whole=(do let v <-whole;standAt e.pos;i8 [v] (truthy v)):=by intro _;kernel_rfl):HT X e (ay te):=⟨JC h.ok i⟩
theorem Ft(f:HT X a tA):HW X (.BoolOp .And [a] pos) tA:=⟨Ge f.ok⟩
theorem IG(f:HT X a tA):HW X (.BoolOp .Or [a] pos) tA:=⟨JA f.ok⟩
theorem DV(f:HT X a tA)(d:HW X (.BoolOp .And (b::aY) pos) tB):HW X (.BoolOp .And (a::b::aY) pos) (Bp tA tB):=⟨JB f.ok d.ok⟩
theorem IH(f:HT X a tA)(d:HW X (.BoolOp .Or (b::aY) pos) tB):HW X (.BoolOp .Or (a::b::aY) pos) (LH tA tB):=⟨dw_or f.ok d.ok⟩
theorem kw_t(h:HW X e tA):HT X e tA:=⟨dw_t h.ok⟩
theorem IJ(f:HT X a tA):HT X (.UnaryOp .Not a pos) (JY tA):=⟨JE f.ok⟩
theorem k_one{op}(h:HE X a ta):HE X (.BoolOp op [a] pos) ta:=⟨d_one h.ok⟩
theorem k_and(f:HE X a ta)(d:HE X (.BoolOp .And (b::aY) pos) tb):HE X (.BoolOp .And (a::b::aY) pos) (nL ta tb):=⟨d_and f.ok d.ok⟩
theorem k_or(f:HE X a ta)(d:HE X (.BoolOp .Or (b::aY) pos) tb):HE X (.BoolOp .Or (a::b::aY) pos) (JX ta tb):=⟨d_or f.ok d.ok⟩
theorem k_not(f:HE X a ta):HE X (.UnaryOp .Not a pos) (Dm ta):=⟨d_not f.ok⟩
theorem FH(h:HT X c tA)(f:HE X a ta)(d:HE X b tb):HE X (.IfExp c a b pos) (dIfE tA ta tb):=⟨Gx h.ok f.ok d.ok⟩
theorem IX:HA X [] af:=⟨JR⟩
theorem FE(f:HE X e te)(i:HA X es t)(hs:i6 (e::es) X.env=(bt,eval e X.env)::i6 es X.env:=by kernel_rfl):HA X (e::es) (aa te t):=⟨Gv f.ok i.ok hs⟩
theorem k_tup{x1}(h:HA X es t):HE X (.Tuple es x1 pos) (fH t):=⟨d_tup h.ok⟩
theorem k_lst(h:HA X es t):HE X (.List es pos) (iV t):=⟨d_lst h.ok⟩
theorem FL{id:String}{r:D1}(c:HC X (.builtin id) r)(d:X.mg x=a8)(v:d9 x=a7 (.builtin id))(f:HA X (e::es) t)(S:X.env.kindOf x=a7 .globalImplicit:=by kernel_rfl)(n:(x==("__name__":c5))=bt:=by kernel_rfl)(b:(x==("__debug__":c5))=bt:=by kernel_rfl)(i:i6 (e::es) X.env=(bt,eval e X.env)::i6 es X.env:=by kernel_rfl) (l:(i5 pos<|i6 es X.env).any (·.1)=bt:=by kernel_rfl):HE X (.Call (.Name x p) (e::es) [] pos) (r9 r t):=⟨Gz c.ok d v f.ok S (by simpa using n) b i l⟩
theorem CG(c:HC X (.type T) r)(d:X.mg x=a8)(v:d9 x=a7 (.type T))(f:HA X (e::es) t)(S:X.env.kindOf x=a7 .globalImplicit:=by kernel_rfl)(n:(x==("__name__":c5))=bt:=by kernel_rfl)(b:(x==("__debug__":c5))=bt:=by kernel_rfl)(i:i6 (e::es) X.env=(bt,eval e X.env)::i6 es X.env:=by kernel_rfl) (l:(i5 pos<|i6 es X.env).any (·.1)=bt:=by kernel_rfl):HE X (.Call (.Name x p) (e::es) [] pos) (r9 r t):=⟨Dl c.ok d v f.ok S (by simpa using n) b i l⟩
theorem k_cal(C:u7 X.prog X.w X.K X.mg X.base j x ps P)(r:Room k X.A)(f:HA X (e::es) t)(L:Nat.ble j k=a9:=by kernel_rfl)(S:X.env.kindOf x=a7 .globalImplicit:=by kernel_rfl) (b:(x==("__debug__":c5))=bt:=by kernel_rfl) (i:i6 (e::es) X.env=(bt,eval e X.env)::i6 es X.env:=by kernel_rfl) (l:(i5 pos<|i6 es X.env).any (·.1)=bt:=by kernel_rfl):HE X (.Call (.Name x p) (e::es) [] pos) (r9 P t):=⟨d_cal C r f.ok (Nat.le_of_ble_eq_true L) S b i l⟩
theorem k_ix(f:HE X a ta)(d:HE X b tb)(hs:vh b:=by intro _ _;kernel_rfl):HE X (.Subscript a b pos) (p7 u5 ta tb):=⟨d_ix f.ok d.ok hs⟩
theorem FB:HO' X a8 fI:=⟨Gn⟩
theorem FA(h:HE X e te):HO' X (a7 e) (gx te):=⟨Gm h.ok⟩
theorem FG{l hi:Option h8}{t h:Mr}{j:i4}(i:HE X e te)(g:HO' X l t)(u:HO' X hi h):HE X (.Subscript e (.Slice l hi a8 j) pos) (KQ te t h):=⟨Gw i.ok g.ok u.ok⟩
variable{name:c5}{apos cpos:i4}
theorem k_ms(d:Pc X name r)(B:HE X o to)(f:HA X (e::es) t)(b:l7 o name X.env (eval o X.env)=eval o X.env:=by kernel_rfl)(w:((i5 cpos<|i6 (e::es) X.env).all (λx=>!x.1)&&(l8 cpos<|l9 [] X.env).all (λx=>x.1.isSome) && decide ((e::es).length+([]:List k7).length+(if ([]:List k7).isEmpty then 0 else 1)<30))=a9:=by kernel_rfl)(c:(apos.endLine==cpos.line)=a9:=by kernel_rfl) (hs:i6 (e::es) X.env=(bt,eval e X.env)::i6 es X.env:=by kernel_rfl) (n:(i5 cpos<|i6 es X.env).any (·.1)=bt:=by kernel_rfl):HE X (.Call (.Attribute o name apos) (e::es) [] cpos) (No r to t):=let ⟨_,h1,h2,h3⟩:=d.ok;⟨d_ms h1 h2 h3 B.ok f.ok b w c hs n⟩
theorem k_ml(d:Pd X name r)(B:HE X o to)(f:HA X (e::es) t)(b:l7 o name X.env (eval o X.env)=eval o X.env:=by kernel_rfl)(w:((i5 cpos<|i6 (e::es) X.env).all (λx=>!x.1)&&(l8 cpos<|l9 [] X.env).all (λx=>x.1.isSome) && decide ((e::es).length+([]:List k7).length+(if ([]:List k7).isEmpty then 0 else 1)<30))=a9:=by kernel_rfl)(c:(apos.endLine==cpos.line)=a9:=by kernel_rfl) (hs:i6 (e::es) X.env=(bt,eval e X.env)::i6 es X.env:=by kernel_rfl) (n:(i5 cpos<|i6 es X.env).any (·.1)=bt:=by kernel_rfl):HE X (.Call (.Attribute o name apos) (e::es) [] cpos) (K5 r to t):=let ⟨_,h1,h2,h3⟩:=d.ok;⟨d_ml h1 h2 h3 B.ok f.ok b w c hs n⟩
variable{st:i7}{sts:List i7}{ts us:p9}{aS bS:List i7}
theorem IM:HB X [] bf:=⟨JJ⟩
theorem IL(h:HS X st ts):HB X [st] ts:=⟨JI h.ok⟩
theorem Fz(h1:HS X st ts)(h2:HB X sts us):HB X (st::sts) (aB ts us):=⟨Gk h1.ok h2.ok⟩
theorem Ak(i:HE X e te)(hs:i9 e a8 pos.line X.env=pure bt:=by kernel_rfl):HS X (.Expr e pos) (lq te):=⟨Gj i.ok hs⟩
theorem Ea(i:HE X e te):HS X (.Return (a7 e) pos) (bq te):=⟨JH i.ok⟩
theorem IN(h:HT X c tA)(f:HB X aS ts)(d:HB X bS us):HS X (.If c aS bS pos) (A1 tA ts us):=⟨ds_if h.ok f.ok d.ok⟩
theorem DZ(h:X.N.Nodup)(a:HE X e te)(hi:X.N[i]?=a7 x:=by kernel_rfl)(b:GP X.env.scope x=a9:=by kernel_rfl)(hs:i9 e (a7<|.Name x pos') pos.line X.env=pure bt:=by kernel_rfl)(f:X.fn x=a9:=by kernel_rfl):HS X (.Assign [.Name x pos'] e pos) (aT te i):=⟨JG h a.ok hi (zX b) hs<|.inl f⟩
theorem FD(h:X.N.Nodup)(hi:X.N[i]?=a7 x:=by kernel_rfl)(a:GP X.env.scope x=a9:=by kernel_rfl)(f:X.fn x=a9:=by kernel_rfl):HG X (.Name x pos) (ao i):=⟨uV h hi (zX a)<|.inl f⟩
theorem IT(h:X.N.Nodup)(hi:X.N[i]?=a7 x:=by kernel_rfl)(f:X.env.scope.names.lookup x=a7 .local:=by kernel_rfl):HG X (.Name x pos) (ao i):=⟨uV h hi (.inl f)<|.inr f⟩
variable{tg iter:h8}{di:Ky}{g:Ix}
theorem IP(h:HE X e te):HI X tg e (bI te):=⟨JM h.ok⟩
theorem Eb{a:List i7}{b:p9}(hi:HI X tg iter di)(S:HG X tg g)(d:HB X a b)(p:PassesOwn (i3 X.prog X.w) X.A X.env X.xe:=by exact PassesOwn.never)(f:X.calm=a9:=by kernel_rfl)(hs:∀x,j6 iter X.env x=pure x:=by intro _;kernel_rfl):HS X (.For tg iter a [] pos) (nK di g b):=⟨JK hi.ok S.ok d.ok p f hs⟩
theorem Fx:MT X [] sY:=⟨Gg⟩
theorem Fw(h:HT X c tA):MT X [c] tA:=⟨Gf h.ok⟩
theorem k_lc(hi:HI X tg iter di)(S:∀cl s0 H0 ex,HG (z7 X N' scope cl s0 H0 ex) tg g) (D:∀cl s0 H0 ex,MT (z7 X N' scope cl s0 H0 ex) ifs tt) (i:∀cl s0 H0 ex,HE (z7 X N' scope cl s0 H0 ex) elt te) (B:pe X.env.scope.names X.N N' nt js scope=a9:=by kernel_rfl) (f:X.calm=a9:=by kernel_rfl)(hs:∀x,j6 iter X.env x=pure x:=by intro _;kernel_rfl):HE X (.ListComp elt [⟨tg,iter,ifs,0⟩] scope pos) (D2 nt js di g tt te):=⟨d_lc (BlkSc.chk B) hi.ok (λcl s0 H0 ex=>(S cl s0 H0 ex).ok) (λcl s0 H0 ex=>(D cl s0 H0 ex).ok) (λcl s0 H0 ex=>(i cl s0 H0 ex).ok) f hs⟩
theorem Am(d:X.mg "range" = a8)(f:HA X [a] t)(S:X.env.kindOf "range" = a7 .globalImplicit:=by kernel_rfl)(hs:i6 [a] X.env=[(bt,eval a X.env)]:=by kernel_rfl):HI X tg (.Call (.Name "range" p) [a] [] pos) (eH t):=⟨AO d f.ok S hs⟩
theorem Al(d:X.mg "range" = a8)(f:HA X [a,b] t)(S:X.env.kindOf "range" = a7 .globalImplicit:=by kernel_rfl)(hs:i6 [a,b] X.env=[(bt,eval a X.env),(bt,eval b X.env)]:=by kernel_rfl)(c:i6 [b] X.env=[(bt,eval b X.env)]:=by kernel_rfl):HI X tg (.Call (.Name "range" p) [a,b] [] pos) (qw t):=⟨AN d f.ok S hs c⟩
theorem Jh:F0 X (j7 .Sub) Hy:=⟨Iu⟩
theorem Jk:F0 X (j7 .Mult) pH:=⟨Fg⟩
theorem FT:F0 X (j7 .FloorDiv) ug:=⟨Fh⟩
theorem Jl:F0 X (j7 .Mod) zq:=⟨Iy⟩
theorem ho_lt:F0 X (j8 .Lt) LG:=⟨od_lt⟩
theorem ho_le:F0 X (j8 .LtE) MR:=⟨od_le⟩
theorem ho_gt:F0 X (j8 .Gt) LU:=⟨od_gt⟩
theorem ho_is:F0 X (j8 .Is) MS:=⟨od_is⟩
theorem CM:F0 X (j8 .IsNot) rW:=⟨Cf⟩
theorem ho_eq(i:Room k X.A):F0 X (j8 .Eq) x9:=⟨od_eq i⟩
theorem ho_ne(i:Room k X.A):F0 X (j8 .NotEq) K2:=⟨od_ne i⟩
theorem ho_in(i:Room k X.A):F0 X (j8 .In) K3:=⟨od_in i⟩
theorem CL(i:Room k X.A):F0 X (j8 .NotIn) kN:=⟨Ce i⟩
theorem Jg:PR X (unaryOp .USub) GM:=⟨Ha⟩
theorem Jq:HC X (.builtin "len") iT:=⟨Kb⟩
theorem Jr(f:X.calm=a9:=by kernel_rfl):HC X (.builtin "any") GO:=⟨Kc f⟩
theorem AA:Pd X "append" cN:=⟨_,PySem.F.slot_list_append,PySem.F.type_list_append,xC⟩
end
theorem u7.byH{P:c7}{w:c6}{K:u0}{mg:c5->Option c4}{base:d5}{x:c5}{st:i7}{N ps:List c5}{k:Nat}{d:v8}(F:cG K mg x st ps)(i:FnScope N ps (av st))(B:∀ds M R,d ds M R->ds.length=ps.length) {t:p9}(r:∀(f:c8) (cdv:c4) (A:e8) (outer:List Env) (s:e9) (H:Hp) (E:XK),Room k (A.deeper<|k9 x (av st) s.heap.objs.size f cdv)->HB (tu E9 P w K mg base N x (av st) f cdv A outer s H E).nox (bU st) t)(p:∀ds M R,d ds M R->t ⟨λ_ M'=>bg M R .non M',bg M R,λ_ _=>False,λ_ _=>False⟩ (cJ N ds) M):u7 P w K mg base (k+1) x ps d:=u7.of F i B (λf cdv A outer s H E h=>(r f cdv A outer s H E h).ok) p
theorem CV{P:c7}{w:c6}{K:u0}{mg:c5->Option c4}{base:d5}{x:c5}{st:i7}{N ps:List c5}{k:Nat}{d:v8}{f:c8}{a:k5}(F:K7 K x x st f a)(i:FnScope N ps (av st))(B:∀ds M R,d ds M R->ds.length=ps.length) {t:p9}(r:∀(f:c8) (cdv:c4) (A:e8) (outer:List Env) (s:e9) (H:Hp) (E:XK),Room k (A.deeper<|k9 x (av st) s.heap.objs.size f cdv)->HB (tu E9 P w K mg base N x (av st) f cdv A outer s H E).nox (bU st) t)(p:∀ds M R,d ds M R->t ⟨λ_ M'=>bg M R .non M',bg M R,λ_ _=>False,λ_ _=>False⟩ (cJ N ds) M):FnOk P w K mg base E9 (k+1) f a ps (Lf K d):=FZ F i B (λf cdv A outer s H E h=>(r f cdv A outer s H E h).ok) p
section
variable{ok:t5->Prop}{g:Ix}{tb:p9}{E:DEnds}{k0:t5}
theorem jJ(I:List D->SD->t5->Prop)(h0:∀S M,I [] S M->ok M/\E.nx S M)(h1:∀x xs S M,I (x::xs) S M->∀L:SD->t5->Prop,(∀S' M',I xs S' M'->L S' M')->ok M/\g x S M λS2 M2=>tb ⟨A9 k0 L,E.rt,E.nx,A9 k0 L⟩ S2 M2):∀xs S M,I xs S M->tj ok g tb E k0 xs S M
 | [],S,M,h=>h0 S M h
 |x::xs,S,M,h=>h1 x xs S M h _<|jJ I h0 h1 xs
theorem bA(I:Nat->SD->t5->Prop)(a:∀S M,I xs.length S M->ok M/\E.nx S M)(h1:∀i x S M,xs[i]?=a7 x->I i S M->∀L:SD->t5->Prop,(∀S' M',I (i+1) S' M'->L S' M')->ok M/\g x S M λS2 M2=>tb ⟨A9 k0 L,E.rt,E.nx,A9 k0 L⟩ S2 M2)(h:I 0 S M):tj ok g tb E k0 xs S M:=by
 refine jJ (λys S M=>∃i,xs.drop i=ys/\i+ys.length=xs.length/\I i S M) ?_ ?_ xs S M ⟨0,rfl,by simp,h⟩;rintro S M ⟨i,_,e,q⟩;have:i=xs.length:=by simpa using e
 subst this;exact a S M q;rintro x ys S M ⟨i,e,l,q⟩ L b;have c:xs[i]?=a7 x:=by
  have:(xs.drop i)[0]?=a7 x:=by rw[e];rfl
  simpa using this
 refine h1 i x S M c q L λS' M' j=>b S' M' ⟨i+1,?_,by simp at l;lia,j⟩;rw[<-List.drop_drop,e];rfl
theorem A9.now(h:P S M):A9 k0 P S M:=.inl h
theorem fi{l:Int}{n i:Nat}{x:D}:(tN l n)[i]?=a7 x↔i<n/\x=.int (l+(i:Int)):=by unfold tN;rw[D0];by_cases h:i<n;simp[h,eq_comm];simp[h]
theorem fh{l:Int}{n:Nat}:(tN l n).length=n:=by simp[tN]
end
theorem aF(p:D->Bool)(f:D->D)(I:SD->Prop)(hok:ok M):∀(xs acc:List D) (S:SD),(∀x∈xs,∀S,I S->∃S',I S'/\∀(Y:D->SD->t5->Prop) (Z:SD->t5->Prop),(if p x=a9 then Y (f x) S' M else Z S' M) -> g x S M λS2 M2=>tt S2 M2 λb M3=>if b=a9 then te S2 M3 λy M4=>Y y S2 M4 else Z S2 M3) ->I S->acc.length+xs.length<=sizeLine->Q (.ref M.length) (M++[.lst<|acc++(xs.filter p).map f])->ng ok g tt te Q xs acc S M
 | [],acc,S,_,_,_,q=>⟨hok,by simpa using q⟩
 |x::xs,acc,S,step,hS,hl,q=>by obtain⟨S',hS',k⟩:=step x C6 S hS;refine⟨hok,k (λy S2 M4=>acc.length<sizeLine/\ng ok g tt te Q xs (acc++[y]) S2 M4) (λS2 M3=>ng ok g tt te Q xs acc S2 M3) ?_⟩;have step':=λy hy=>step y<|A0 _ hy;rw[C2]at hl;by_cases hp:p x=a9;rw[n5 hp];refine⟨by lia,aF p f I hok xs _ S' step' hS' (by rw[z5,G8];lia) ?_⟩;rw[List.filter_cons_of_pos hp,C0]at q;rw[F8];exact q;rw[n6 hp];refine aF p f I hok xs acc S' step' hS' (by lia) ?_;rw[Pw hp]at q;exact q
theorem bJ(f:D->D)(I:SD->Prop)(K:ok M)(xs acc:List D) (S:SD) (L:∀x∈xs,∀S,I S->∃S',I S'/\∀(Y:D->SD->t5->Prop),Y (f x) S' M->g x S M λS2 M2=>te S2 M2 λy M4=>Y y S2 M4)(a:I S) (l:acc.length+xs.length<=sizeLine) (q:Q (.ref M.length) (M++[.lst<|acc++xs.map f])):ng ok g sY te Q xs acc S M:=by refine aF (λ_=>a9) f I K xs acc S (λx c S a=>?_) a l (by rw[List.filter_eq_self.mpr λ_ _=>rfl];exact q);obtain⟨S',b,k⟩:=L x c S a;refine⟨S',b,λY Z h=>?_⟩;rw[n5 rfl]at h;have:=k Y h;simp only[sY,o7];exact this
theorem ad:(M++[mo])[M.length]?=a7 mo:=by simp
theorem au:ax (M++[.lst xs]) M.length xs:=.inl ad
theorem ax.more(h:ax M n xs)(L:t5):ax (M++L) n xs:=by
 have l:∀{mo:MO},M[n]?=a7 mo->(M++L)[n]?=a7 mo:=λe=>by rw[G9 (w6.mp e).1];exact e
 rcases h with h|h|h;exact .inl<|l h;exact .inr<|.inl<|l h;exact .inr<|.inr<|l h
theorem bg.keep(h:R d M)(b:A5 M.length d)(p:M <+: M'):bg M R d M':=.inr<|.inl ⟨M,.refl,b,p,h⟩
theorem bg.now(h:R d M):bg M R d M:=.inl h
theorem bg.bl(h:R (.bl b) M)(p:M <+: M'):bg M R (.bl b) M':=.keep h (.bl b) p
theorem dL:M <+: M++[mo]:=F9 _ _
theorem jV{a b:c5}(h:a.cps.toList=b.cps.toList):a=b:=by cases a;cases b;simp only[Array.toList_inj]at h;simpa using h
theorem cf{a:c5}:a.length=a.cps.toList.length:=by show a.cps.size=_;simp
theorem GG{a b:c5}:(a++b).cps.toList=a.cps.toList++b.cps.toList:=by show (a.cps++b.cps).toList=_;simp
theorem cC{a b:c5}:(a++b).length=a.length+b.length:=by rw[cf,cf,cf,GG,z5]
theorem zG:(⟨#[c]⟩:c5).length=1:=rfl
theorem ak(h:n<=1000):n<=sizeLine:=Mu<|aL h
theorem dF{α:Type}{xs:List α}{i:Int}(a:0<=i)(h1:i<xs.length):∃(j:Nat) (hj:j<xs.length),atI xs i=a7 xs[j]/\(j:Int)=i:=by
 have hj:i.toNat<xs.length:=by lia
 refine⟨i.toNat,hj,?_,by lia⟩;have e:i=((i.toNat:Nat):Int):=by lia
 have q:atI xs ((i.toNat:Nat):Int)=a7 xs[i.toNat]:=aA<|v9 hj;rw[<-e]at q;exact q
section
variable{M:t5}
theorem ax.get(h:ax M n xs):∃mo,M[n]?=a7 mo/\mo.items=xs/\mo.isL=a9:=by rcases h with h|h|h<;>exact⟨_,h,rfl,rfl⟩
theorem wL(h1:ax M i xs)(h2:ax M j ys):t4 M (n+1) (.ref i) (.ref j)=C3 (t4 M n) xs ys:=by obtain⟨a,f,rfl,h⟩:=h1.get;obtain⟨b,d,rfl,c⟩:=h2.get;simp only[t4,f,d]
theorem pT(h1:ax M i xs)(h:∀x∈xs,u3 M n x=a9):u3 M (n+1) (.ref i)=a9:=by obtain⟨a,f,rfl,b⟩:=h1.get;simp only[u3,f,b,Bool.true_and];exact E6.mpr h
theorem Fe(h:∀x∈xs,u3 M n x=a9):u3 M (n+1) (.tup xs)=a9:=by simp only[u3];exact E6.mpr h
theorem ar:u3 M n (.str x)=a9:=by cases n<;>rfl
theorem pU:u3 M n (.int x)=a9:=by cases n<;>rfl
theorem DP:u3 M n (.bl x)=a9:=by cases n<;>rfl
theorem zM:u3 M n .non=a9:=by cases n<;>rfl
theorem Gb:C3 f xs []=xs.isEmpty:=by cases xs<;>rfl
theorem mX:t4 M n (.int a) (.int b)=(a==b):=by cases n<;>rfl
theorem aN:t4 M n (.str a) (.str b)=(a==b):=by cases n<;>rfl
end
section
variable{X:Cx}{pos:i4}
noncomputable def nJ:Ek:=λds S M Q=>match ds with
 | []=>Q S M
 |_=>False
noncomputable def cK(t:Ix)(u:Ek):Ek:=λds S M Q=>match ds with
 |d::r=>t d S M λb a=>u r b a Q
 | []=>False
noncomputable def nI(n:Nat)(t:Ek):Ix:=λd S M Q=>match d with
 |.tup ds=>ds.length=n/\t ds S M Q
 |_=>False
theorem Gq:Nz X [] nJ:=by
 rintro p s σ H vs us R I r ⟨ds,S,M,ρ,Q,m,e,f,q,k⟩;cases f with
 |nil=>exact ER p s σ H _ us R I r ⟨rfl,k σ H ⟨S,M,ρ,m,.refl,e,q⟩⟩
 |cons _ _=>exact q.elim
theorem Di(h1:DG X e t)(h2:Nz X es u)(hs:(j1 (e::es) X.env).map (·.2)=j0 e X.env::(j1 es X.env).map (·.2):=by rfl):Nz X (e::es) (cK t u):=by
 rintro p s σ H vs us R I r ⟨ds,S,M,ρ,Q,m,l,f,q,k⟩;cases f with
 |nil=>exact q.elim
 |cons i f=>refine BR h1 h2 hs p s σ H _ us R I r ⟨_,_,rfl,_,S,M,ρ,_,m,l,i,q,?_⟩;rintro n o ⟨g,d,c,j,g1,a,h⟩;exact⟨_,g,d,c,Q,j,a,f.grow g1,h,λb H' w=>k b H'<|SQ.trans g1 w⟩
theorem JN(h:Nz X es t)(a:X.calm=a9:=by rfl)(b:(j1 es X.env).length=n:=by rfl) (c:(j1 es X.env).findIdx? (·.1)=a8:=by rfl):DG X (.Tuple es j pos) (nI n t):=by
 rintro p s σ H v u R I r ⟨d,S,M,ρ,Q,m,i,g,q,k⟩;cases g with
 |tup e f=>exact HP a h b c p s σ H _ u R I r ⟨_,_,rfl,e,by rw[<-f.length];exact q.1,_,S,M,ρ,Q,m,i,f,q.2,k⟩
 |_=>exact q.elim
noncomputable def dAsg(te:u9)(g:Ix):p9:=λE S M=>te S M λd a=>g d S a E.nx
theorem JL(i:DE X e te)(h:DG X tg g)(hs:swapsWithSole [tg] e pos.line X.env=pure bt:=by rfl)(f:swappedStores [tg] e X.env=pure a8:=by rfl)(h1:(j1 [tg] X.env).map (·.2)=[j0 tg X.env]:=by rfl):DS X (.Assign [tg] e pos) (dAsg te g):=by refine PS.imp (HN i h hs f h1) ?_;rintro E σ H ⟨S,M,ρ,F,s,r,q,k⟩;refine⟨S,M,ρ,_,s,r,q,?_⟩;rintro v n ⟨d,b,c,m,g1,l,j⟩;exact⟨d,S,b,c,_,m,r.grow g1,l,j,λa H' w=>k.nx a H'<|SQ.trans g1 w⟩
noncomputable def qSet:D->D->D->t5->(t5->Prop)->Prop:=λo i v M Q=>match o,i with
 |.ref n,.int k=>∃xs j,M[n]?=a7 (.lst xs)/\K4 xs.length k=a7 j/\Q (M.set n<|.lst<|xs.set j v)
 |_,_=>False
theorem Reps.set{K:u0}{ρ:List c8}{H:Hp}{d:D}{v:V}(r:t9 K ρ H d v):∀{ds:List D}{vs:List V} (i:Nat),Reps K ρ H ds vs->Reps K ρ H (ds.set i d) (vs.set i v)
 |_,_,_,.nil=>.nil
 |_,_,0,.cons _ t=>.cons r t
 |_,_,i+1,.cons q t=>.cons q<|Reps.set r i t
noncomputable def Dj(e d:u9):Ix:=λv S M Q=>e S M λo a=>d S a λi b=>qSet o i v b λc=>Q S c
theorem JO(E:DE X o to)(hi:DE X i ti)(D:∀v,j0 (.Subscript o i pos) X.env v=(do
   let ov <-i8 [v] (eval o X.env)
   let iv <-i8 [v,ov] (eval i X.env)
   standAt pos
   i8 [v,ov,iv] (setItem ov iv v)
   release [v,ov,iv] []):=by intro _;rfl):DG X (.Subscript o i pos) (Dj to ti):=by
 rintro p s σ H v u R I r ⟨d,S,M,ρ,Q,P,f,N,q,k⟩;refine HQ E hi BH D p s σ H v u R I r ⟨S,M,ρ,_,P,f,q,?_⟩;rintro Z U ⟨W,C,h,O,g1,J,F⟩;refine⟨S,C,h,_,O,f.grow g1,F,?_⟩;rintro Y V ⟨i',m,l,A,g,K,b⟩;have c:=J.grow g;cases c with
 |@ref n a w =>
  cases K with
  |int j =>
   obtain⟨xs,y,e,L,G⟩:=(show ∃xs x,m[n]?=a7 (.lst xs)/\K4 xs.length j=a7 x/\Q S (m.set n<|.lst<|xs.set x d)from b)
   obtain⟨vs,t,z⟩:=A.obj n a _ w e;obtain⟨T,B⟩:=A.write w e t<|Reps.set (N.grow<|g1.trans g) y z;exact⟨a,vs,j,y,rfl,rfl,t,by rw[<-z.length];exact L,k σ _ ⟨S,_,l,T,(g1.trans g).trans B,f.grow<|(g1.trans g).trans B,G⟩⟩
  |_=>exact b.elim
 |_=>exact b.elim
noncomputable def jw:D1:=λds M Q=>match ds with
 | [.ref n]=>∃xs,ax M n xs/\Q (.tup xs) M
 | [.tup xs]=>Q (.tup xs) M
 |_=>False
theorem Dr:nN X (.type "tuple") jw:=by
 refine iS.imp qy ?_;rintro vs H R ⟨ds,M,ρ,Q,m,a,q,k⟩;unfold jw at q;split at q;obtain⟨xs,L,q⟩:=q
 first|have z:=Reps.inv_cons a|have z:=aC.inv_cons a
 clear a;obtain⟨_,_,rfl,b,a⟩:=z;cases a;obtain⟨_,rfl,e⟩:=t9.inv_ref b;obtain⟨s,h,r⟩:=ax.seq m L e;exact⟨_,s,rfl,.inl ⟨h,λl g=>k _ _<|VQ.laidT m .refl r g q⟩⟩
 first|have z:=Reps.inv_cons a|have z:=aC.inv_cons a
 clear a;obtain⟨_,_,rfl,b,a⟩:=z;cases a;cases b with
 |tup h r=>exact⟨_,_,rfl,.inr ⟨h,k _ H<|VQ.now m (.tup h r) q⟩⟩
 exact q.elim
theorem Ca:C1 X (j7 .Add) (λx y H Q=>∃a b ys,x=.ref a/\y=.ref b/\z0 X.K H a []/\z0 X.K H b ys/\Q (.ref b) H):=by intro r s σ H x y v u Q I G J h;obtain⟨a,b,ys,rfl,rfl,z,A,q⟩:=h;cases G;cases J;obtain⟨its,F,D,_⟩:=I.tuple z;obtain⟨p,M,E,_⟩:=I.tuple A;have e:its=[]:=F.nil_iff.mpr rfl;subst e;obtain⟨⟨t,w,l,L⟩,B,m,n,o⟩:=id D;obtain⟨⟨k,g,i,j⟩,f,c,C,d⟩:=id E;simp only at m o c d;subst m o c d;exact concat_meets ⟨_,B,rfl⟩ ⟨_,f,rfl⟩ noFill_tuple_add seq_tuple_add Pq Px (PC _ _) (tuple_addW0 a b _ _ n C w g L j<|by simp) ⟨B,f,⟨.ref b,H,I,rfl,q⟩⟩
noncomputable def aW:E1:=λx y M Q=>match x,y with
 |.tup xs,.tup ys=>xs.length+ys.length<=sizeLine/\Q (.tup<|xs++ys) M
 |_,_=>qAdd x y M Q
theorem Fi:E8 X (j7 .Add) aW:=by
 rintro c s σ H f j v u R I g i ⟨x,y,M,ρ,Q,m,r,e,q,k⟩;unfold aW at q;split at q;rename_i xs ys;obtain⟨a,vs,rfl,h1,S⟩:=t9.inv_tup r;obtain⟨b,w,rfl,h2,T⟩:=t9.inv_tup e;have l:=S.length;have d:=T.length;cases xs with
 |nil=>cases S;exact Ca c s σ H _ _ v u R I g i ⟨a,b,w,rfl,rfl,h1,h2,k _ H<|VQ.now m (.tup h2 T) q.2⟩
 |cons o n =>
  refine Fb c s σ H _ _ v u R I g i ⟨a,b,vs,w,rfl,rfl,h1,h2,?_,by rw[<-l,<-d];exact q.1,λz=>?_,λ_ p h=>k _ _<|VQ.laidT m .refl (S.append T) h q.2⟩;intro z;subst z;simp at l;subst z;have:ys=[]:=by simpa using d
  subst this;rw[I9]at q;exact k _ H<|VQ.now m (.tup h1 S) q.2
 exact IA c s σ H f j v u R I g i ⟨x,y,M,ρ,Q,m,r,e,q,k⟩
noncomputable def my(n:Nat):D1:=λds M Q=>match ds with
 | [.ref m]=>∃xs ys,M[n]?=a7 (.lst xs)/\M[m]?=a7 (.lst ys)/\n≠m/\xs.length+ys.length<=sizeLine/\Q .non (M.set n<|.lst<|xs++ys)
 |_=>False
theorem xB:Kw X "list.extend" (pV X.K my):=by
 rintro p s σ H x xs v us R I A y ⟨n,a,ds,M,ρ,Q,j,g,c,f,q,k⟩;unfold my at q;split at q;rename_i m;obtain⟨ys,E,e,l,u,o,q⟩:=q
 first|have z:=Reps.inv_cons f|have z:=aC.inv_cons f
 clear f;obtain⟨_,_,rfl,w,f⟩:=z;cases f;obtain⟨b,rfl,t⟩:=t9.inv_ref w;obtain⟨vs,d,r⟩:=c.obj n a _ g e;obtain⟨D,h,i⟩:=c.obj m b _ t l;obtain⟨B,C⟩:=c.write g e d<|r.append i;exact zQ p s σ H x _ v us R I A y ⟨a,b,vs,D,j,rfl,d,h,by rw[<-r.length,<-i.length];exact o,k _ _ ⟨.non,_,ρ,B,C,.non,q⟩⟩;exact q.elim
end
end L2
namespace Srt
open PySem PySem.W PyProof.Rows
noncomputable def run{α:Type}(c:Nat->Nat->Bool):KasT α->α
 |.ret a=>a
 |.ask i j k=>run c<|k<|c i j
theorem gI{α β:Type}{c:Nat->Nat->Bool}{f:α->KasT β}:∀t:KasT α,run c (t.bind f)=run c (f<|run c t)
 |.ret a=>rfl
 |.ask i j k=>gI<|k<|c i j
noncomputable def Bd{α:Type}(n:Nat):KasT α->Prop
 |.ret _=>True
 |.ask i j k=>i<n/\j<n/\∀b,Bd n<|k b
noncomputable def All{α:Type}(P:α->Prop):KasT α->Prop
 |.ret a=>P a
 |.ask _ _ k=>∀b,All P<|k b
theorem All.mono{α:Type}{P Q:α->Prop}(h:∀a,P a->Q a):∀t:KasT α,All P t->All Q t
 |.ret a,q=>h a q
 |.ask _ _ k,q=>λb=>All.mono h (k b)<|q b
theorem All.bind{α β:Type}{P:β->Prop}{f:α->KasT β}:∀t:KasT α,All (λa=>All P<|f a) t->All P (t.bind f)
 |.ret a,q=>q
 |.ask _ _ k,q=>λb=>All.bind (k b)<|q b
theorem Bd.bindA{α β:Type}{n:Nat}{f:α->KasT β}:∀t:KasT α,Bd n t->All (λa=>Bd n<|f a) t->Bd n (t.bind f)
 |.ret a,_,q=>q
 |.ask _ _ k,b,q=>⟨b.1,b.2.1,λx=>Bd.bindA (k x) (b.2.2 x)<|q x⟩
theorem All.run{α:Type}{P:α->Prop}{c:Nat->Nat->Bool}:∀t:KasT α,All P t->P (Srt.run c t)
 |.ret a,q=>q
 |.ask i j k,q=>All.run (k<|c i j)<|q _
theorem wp_run{α:Type}{cmp:Nat->Nat->(Bool->e9->Prop)->e9->Prop}{c:Nat->Nat->Bool}{n:Nat}{s:e9}{Q:α->e9->Prop}(hc:∀i j (C:Bool->e9->Prop),i<n->j<n->C (c i j) s->cmp i j C s):∀t:KasT α,Bd n t->Q (run c t) s->t.kasWp cmp Q s
 |.ret a,_,q=>q
 |.ask i j k,b,q=>hc i j _ b.1 b.2.1<|wp_run hc (k<|c i j) (b.2.2 _) q
structure Kj(c:Nat->Nat->Bool):Prop where
 irr:∀a,c a a=bt
 tr:∀a b d,c a b=a9->c b d=a9->c a d=a9
 neg:∀a b d,c a d=a9->c a b=a9\/c b d=a9
section
variable{c:Nat->Nat->Bool}(O:Kj c)
noncomputable def le(c:Nat->Nat->Bool)(a b:Nat):Prop:=c b a=bt
theorem le_refl(O:Kj c)(a:Nat):le c a a:=O.irr a
theorem le_trans(O:Kj c)(h1:le c a b)(h2:le c b d):le c a d:=by
 unfold le at *;cases q:c d a with
 |false=>rfl
 |true=>rcases O.neg d b a q with h|h;rw[h2]at h;cases h;rw[h1]at h;cases h
theorem le_of_lt(O:Kj c)(h:c a b=a9):le c a b:=by
 unfold le;cases q:c b a with
 |false=>rfl
 |true=>have:=O.tr a b a h q;rw[O.irr]at this;cases this
noncomputable abbrev at_(p:Array Nat)(k:Nat):Nat:=p.getD k 0
noncomputable def Up(c:Nat->Nat->Bool)(p:Array Nat)(m:Nat):Prop:=∀i j,i<=j->j<m->le c (at_ p i) (at_ p j)
noncomputable def Dn(c:Nat->Nat->Bool)(p:Array Nat)(m:Nat):Prop:=∀i j,i<=j->j<m->le c (at_ p j) (at_ p i)
noncomputable def MU(c:Nat->Nat->Bool)(p:Array Nat)(a b:Nat):Prop:=∀i j,a<=i->i<b->a<=j->j<b->le c (at_ p i) (at_ p j)
theorem Up.one(O:Kj c)(p:Array Nat):Up c p 1:=λi j a L=>by
 have:i=j:=by lia
 subst this;exact le_refl O _
theorem Up.snoc(O:Kj c)(h:Up c p n)(h1:1<=n)(g:le c (at_ p<|n-1) (at_ p n)):Up c p (n+1):=λi j a L=>by
 by_cases b:j<n;exact h i j a b;have:j=n:=by lia
 subst this;by_cases hi:i=j;subst hi;exact le_refl O _;exact le_trans O (h i (j-1) (by lia)<|by lia) g
theorem Dn.snoc(O:Kj c)(h:Dn c p n)(h1:1<=n)(g:le c (at_ p n) (at_ p<|n-1)):Dn c p (n+1):=λi j a L=>by
 by_cases b:j<n;exact h i j a b;have:j=n:=by lia
 subst this;by_cases hi:i=j;subst hi;exact le_refl O _;exact le_trans O g<|h i (j-1) (by lia)<|by lia
theorem io(L:j<=p.size)(k:Nat):at_ (Kn p i j) k=if i<=k/\k<j then at_ p (i+j-1-k)else at_ p k:=by have e:=getElem?_mirror_all (xs:=p) (i:=i) L k;unfold at_ Kn;rw[Mn,e];by_cases h:i<=k/\k<j;rw[n5 h,n5 h,Mn];rw[n6 h,n6 h,Mn]
theorem tL(b:k<p.size)(a:d<=k)(i:Nat):at_ (bubble p k d) i=if i=k-d then at_ p k else if k-d<i/\i<=k then at_ p (i-1)else at_ p i:=by have e:=getElem?_bubble (xs:=p) b d a i;unfold at_;rw[Mn,e];by_cases h:i=k-d;rw[n5 h,n5 h,Mn];rw[n6 h,n6 h];by_cases h':k-d<i/\i<=k;rw[n5 h',n5 h',Mn];rw[n6 h',n6 h',Mn]
theorem Dn.rev(h:Dn c p n)(f:n<=p.size):Up c (Kn p 0 n) n:=λi j a L=>by rw[io f,io f,n5 ⟨w5 _,by lia⟩,n5 ⟨w5 _,L⟩];exact h _ _ (by lia)<|by lia
theorem Dn.revEq(O:Kj c)(h:Dn c p n)(f:n<=p.size)(e:MU c p a n):Dn c (Kn p a n) n:=λi j b L=>by rw[io f,io f];by_cases h1:a<=i/\i<n;by_cases h2:a<=j/\j<n;rw[n5 h1,n5 h2];exact e _ _ (by lia) (by lia) (by lia) (by lia);exact n9 ⟨by lia,L⟩ h2;by_cases h2:a<=j/\j<n;rw[n6 h1,n5 h2];exact h _ _ (by lia) (by lia);rw[n6 h1,n6 h2];exact h _ _ b L
theorem va(O:Kj c):∀(f n:Nat),1<=n->Up c p n->Up c p (run c<|KL p f n)/\n<=run c (KL p f n)/\run c (KL p f n)<=n+f /\(run c (KL p f n)<n+f->c (at_ p<|run c<|KL p f n) (at_ p<|run c (KL p f n)-1)=a9)
 | 0,n,_,h=>⟨h,u6 _,u6 _,λz=>n9 z<|D8 _⟩
 |f+1,n,h1,h=>by
  show Up c p (run c<|if c (at_ p n) (at_ p<|n-1)=a9 then .ret n else KL p f (n+1))/\n<=run c (if c (at_ p n) (at_ p<|n-1)=a9 then .ret n else KL p f (n+1)) /\ run c (if c (at_ p n) (at_ p<|n-1)=a9 then .ret n else KL p f (n+1))<=n+(f+1)/\(run c (if c (at_ p n) (at_ p<|n-1)=a9 then .ret n else KL p f (n+1))<n+(f+1) -> c (at_ p<|run c<|if c (at_ p n) (at_ p<|n-1)=a9 then .ret n else KL p f (n+1)) (at_ p<|run c (if c (at_ p n) (at_ p<|n-1)=a9 then .ret n else KL p f (n+1))-1)=a9)
  by_cases q:c (at_ p n) (at_ p<|n-1)=a9;rw[n5 q];exact⟨h,u6 _,NJ _ _,λ_=>q⟩;rw[n6 q];obtain⟨a1,a2,a3,a4⟩:=va O f (n+1) (by lia) (h.snoc O h1<|by unfold le;simpa using q);exact⟨a1,by lia,by lia,λz=>a4<|by lia⟩
theorem fj:(Kn p i j).size=p.size:=mirror_size _ _ _ _
noncomputable def Bm(c:Nat->Nat->Bool)(z n m:Nat)(r:Array Nat×Nat×Nat):Prop:=r.1.size=z/\Dn c r.1 r.2.1/\n<=r.2.1/\r.2.1<=m/\r.2.2+1<=r.2.1/\MU c r.1 (r.2.1-(r.2.2+1)) r.2.1
noncomputable def qD(c:Nat->Nat->Bool)(z nrem:Nat)(r:Nat×Array Nat):Prop:=r.2.size=z/\Up c r.2 r.1/\1<=r.1/\r.1<=nrem
noncomputable def vj(c:Nat->Nat->Bool)(p:Array Nat)(k m:Nat):Prop:=m<=k/\(∀i,i<m->le c (at_ p i) (at_ p k))/\∀i,m<=i->i<k->c (at_ p k) (at_ p i)=a9
theorem lC(O:Kj c):∀(f:Nat) (p:Array Nat) (n q:Nat),q+1<=n->n+f<=p.size->Dn c p n->MU c p (n-(q+1)) n ->Bm c p.size n (n+f) (run c<|G5 f p n q)
 | 0,p,n,q,h1,h2,hd,he=>⟨rfl,hd,u6 _,u6 _,h1,he⟩
 |f+1,p,n,q,h1,h2,hd,he=>by
  have hn:n<=p.size:=by lia
  show Bm c p.size n (n+(f+1)) (run c<|if c (at_ p n) (at_ p<|n-1)=a9 then(if q > 0 then G5 f (Kn p (n-(q+1)) n) (n+1) 0 else G5 f p (n+1) 0) else .ask (at_ p<|n-1) (at_ p n) λd=>if d=a9 then .ret (p,n,q)else G5 f p (n+1) (q+1));by_cases hc:c (at_ p n) (at_ p<|n-1)=a9;rw[n5 hc];by_cases hq:q > 0;rw[n5 hq];have hd':Dn c (Kn p (n-(q+1)) n) (n+1):=by refine(hd.revEq O hn he).snoc O (by lia) ?_;rw[io hn,io hn,n6 (by lia),n5 ⟨by lia,by lia⟩];exact le_trans O (le_of_lt O hc)<|he _ _ (by lia) (by lia) (by lia)<|by lia
  have r:=lC O f (Kn p (n-(q+1)) n) (n+1) 0 (by lia) (by rw[fj];lia) hd' (λi j a1 a2 a3 a4=>by
   have:i=n:=by lia
   have:j=n:=by lia
   subst_vars
   exact le_refl O _)
  obtain⟨a1,a2,a3,a4,a5,a6⟩:=r;exact⟨a1.trans fj,a2,by lia,by lia,a5,a6⟩;rw[n6 hq];have r:=lC O f p (n+1) 0 (by lia) (by lia) (hd.snoc O (by lia)<|le_of_lt O hc) (λi j a1 a2 a3 a4=>by
   have:i=n:=by lia
   have:j=n:=by lia
   subst_vars
   exact le_refl O _)
  obtain⟨a1,a2,a3,a4,a5,a6⟩:=r;exact⟨a1,a2,by lia,by lia,a5,a6⟩;rw[n6 hc];show Bm c p.size n (n+(f+1)) (run c<|if c (at_ p<|n-1) (at_ p n)=a9 then .ret (p,n,q)else G5 f p (n+1) (q+1));by_cases hc':c (at_ p<|n-1) (at_ p n)=a9;rw[n5 hc'];exact⟨rfl,hd,u6 _,by show n<=_;lia,h1,he⟩;rw[n6 hc'];have l1:le c (at_ p n) (at_ p<|n-1):=by unfold le;simpa using hc'
  have l2:le c (at_ p<|n-1) (at_ p n):=by unfold le;simpa using hc
  have r:=lC O f p (n+1) (q+1) (by lia) (by lia) (hd.snoc O (by lia) l1) (λi j a1 a2 a3 a4=>by by_cases hi:i=n;by_cases hj:j=n;subst hi hj;exact le_refl O _;subst hi;exact le_trans O l1 (he _ _ (by lia) (by lia) (by lia)<|by lia);by_cases hj:j=n;subst hj;exact le_trans O (he _ _ (by lia) (by lia) (by lia)<|by lia) l2;exact he _ _ (by lia) (by lia) (by lia)<|by lia);obtain⟨a1,a2,a3,a4,a5,a6⟩:=r;exact⟨a1,a2,by lia,by lia,a5,a6⟩
theorem qP(O:Kj c)(h1:1<=n)(f:n<=nrem)(hz:nrem<=p.size)(d:Dn c p n):qD c p.size nrem (run c<|kas_tail3 n nrem p):=by unfold kas_tail3;rw[gI];obtain⟨F,a,b,_⟩:=va O (nrem-n) n h1 (d.rev<|by lia);exact⟨fj,F,B9 h1 a,B9 b<|by lia⟩
theorem kT(O:Kj c)(h1:1<=n)(x:n+1<=nrem)(hz:nrem<=p.size)(m:MU c p 0 n)(k:c (at_ p n) (at_ p<|n-1)=a9):qD c p.size nrem (run c<|M7 n nrem p):=by
 have l:Dn c p (n+1):=by refine Dn.snoc O (λi j o L=>m _ _ (by lia) (by lia) (by lia)<|by lia) h1<|le_of_lt O k
 unfold M7;rw[gI];obtain⟨a,g,u,v,w,h⟩:=lC O (nrem-(n+1)) p (n+1) 0 (by lia) (by lia) l (λi j F r s t=>by
  have:i=n:=by lia
  have:j=n:=by lia
  subst_vars
  exact le_refl O _)
 by_cases q:(run c<|G5 (nrem-(n+1)) p (n+1) 0).2.2 > 0;rw[n5 q];obtain⟨d,b,e,f⟩:=qP O (p:=Kn (run c<|G5 (nrem-(n+1)) p (n+1) 0).1 ((run c<|G5 (nrem-(n+1)) p (n+1) 0).2.1-((run c<|G5 (nrem-(n+1)) p (n+1) 0).2.2+1)) (run c<|G5 (nrem-(n+1)) p (n+1) 0).2.1) (n:=(run c<|G5 (nrem-(n+1)) p (n+1) 0).2.1) (nrem:=nrem) (by lia) (by lia) (by rw[fj,a];exact hz)<|g.revEq O (by rw[a];lia) h;exact⟨d.trans<|fj.trans a,b,e,f⟩;rw[n6 q];obtain⟨d,b,e,f⟩:=qP O (p:=(run c<|G5 (nrem-(n+1)) p (n+1) 0).1) (n:=(run c<|G5 (nrem-(n+1)) p (n+1) 0).2.1) (nrem:=nrem) (by lia) (by lia) (by rw[a];exact hz) g;exact⟨d.trans a,b,e,f⟩
theorem AT(O:Kj c)(h1:1<=nrem)(hz:nrem<=p.size):qD c p.size nrem (run c<|kas_count nrem p):=by
 unfold kas_count;rw[gI];obtain⟨F,a,o,l⟩:=va O (nrem-1) 1 (u6 _)<|Up.one O p;generalize run c (KL p (nrem-1) 1)=n at F a o l;by_cases k:(n==nrem)=a9;rw[n5 k];exact⟨rfl,F,a,by show n<=nrem;lia⟩;rw[n6 k];have x:n≠nrem:=by simpa using k
 have t:c (at_ p n) (at_ p<|n-1)=a9:=l (by lia);by_cases h2:n > 1;rw[n5 h2];show qD c p.size nrem (run c<|if c (at_ p 0) (at_ p<|n-1)=a9 then .ret (n,p)else M7 n nrem (Kn p 0 n));by_cases f:c (at_ p 0) (at_ p<|n-1)=a9;rw[n5 f];exact⟨rfl,F,a,by show n<=nrem;lia⟩;rw[n6 f];have g:n<=p.size:=by lia
 have y:le c (at_ p<|n-1) (at_ p 0):=by unfold le;simpa using f
 have m:MU c p 0 n:=λi j b d u v=>le_trans O (F i (n-1) (by lia)<|by lia)<|le_trans O y<|F 0 j (by lia) v;have e:MU c (Kn p 0 n) 0 n:=λi j b d u v=>by rw[io g,io g,n5 ⟨b,d⟩,n5 ⟨u,v⟩];exact m _ _ (by lia) (by lia) (by lia)<|by lia
 have h:c (at_ (Kn p 0 n) n) (at_ (Kn p 0 n)<|n-1)=a9:=by rw[io g,io g,n6 (by lia),n5 ⟨by lia,by lia⟩];rcases O.neg _ (at_ p<|0+n-1-(n-1)) _ t with z|z;exact z;have:=m (n-1) (0+n-1-(n-1)) (by lia) (by lia) (by lia) (by lia);unfold le at this;rw[this]at z;cases z
 obtain⟨q,r,s,w⟩:=kT O (p:=Kn p 0 n) (n:=n) (nrem:=nrem) (by lia) (by lia) (by rw[fj];exact hz) e h;exact⟨q.trans fj,r,s,w⟩;rw[n6 h2];have:n=1:=by lia
 subst this;exact kT O (by lia) (by lia) hz (λi j b d u v=>by
  have:i=0:=by lia
  have:j=0:=by lia
  subst_vars
  exact le_refl O _) t
theorem mB(O:Kj c)(hu:Up c p k):∀(f l r:Nat),l<=r->r<=k->r-l<=f->(∀i,i<l->le c (at_ p i) (at_ p k))->(∀i,r<=i->i<k->c (at_ p k) (at_ p i)=a9) ->vj c p k (run c<|Li p k f l r)
 | 0,l,r,h1,h2,h3,h4,h5=>⟨by show l<=k;lia,h4,λi a1 a2=>h5 i (by have a1':l<=i:=a1;lia) a2⟩
 |f+1,l,r,h1,h2,h3,h4,h5=>by
  show vj c p k (run c<|if l ≥ r then .ret l else .ask (at_ p k) (at_ p<|(l+r) / 2) λc=>if c=a9 then Li p k f l ((l+r) / 2)else Li p k f ((l+r) / 2+1) r);by_cases hl:l ≥ r;rw[n5 hl];exact⟨by show l<=k;lia,h4,λi a1 a2=>h5 i (by have a1':l<=i:=a1;lia) a2⟩;rw[n6 hl];show vj c p k (run c<|if c (at_ p k) (at_ p<|(l+r) / 2)=a9 then Li p k f l ((l+r) / 2)else Li p k f ((l+r) / 2+1) r);by_cases hc:c (at_ p k) (at_ p<|(l+r) / 2)=a9;rw[n5 hc];refine mB O hu f l ((l+r) / 2) (by lia) (by lia) (by lia) h4 λi a1 a2=>?_;rcases O.neg _ (at_ p i) _ hc with z|z;exact z;have:=hu ((l+r) / 2) i a1 a2;unfold le at this;rw[this]at z;cases z;rw[n6 hc];have lm:le c (at_ p<|(l+r) / 2) (at_ p k):=by unfold le;simpa using hc
  refine mB O hu f ((l+r) / 2+1) r (by lia) h2 (by lia) (λi hi=>?_) h5;exact le_trans O (hu i ((l+r) / 2) (by lia)<|by lia) lm
theorem Ba(O:Kj c)(f:k<p.size)(g:Up c p k)(l:m<=k)(h1:∀i,i<m->le c (at_ p i) (at_ p k))(h2:∀i,m<=i->i<k->c (at_ p k) (at_ p i)=a9):Up c (bubble p k<|k-m) (k+1):=by
 intro i j d L;have e:k-(k-m)=m:=by lia
 rw[tL f (by lia),tL f (by lia),e];by_cases hi:i=m;rw[n5 hi];by_cases h:j=m;rw[n5 h];exact le_refl O _;rw[n6 h,n5 ⟨by lia,by lia⟩];exact le_of_lt O (h2 _ (by lia)<|by lia);rw[n6 hi];by_cases a:m<i/\i<=k;rw[n5 a,n6 (by lia),n5 ⟨by lia,by lia⟩];exact g _ _ (by lia) (by lia);rw[n6 a];by_cases h:j=m;rw[n5 h];exact h1 i (by lia);rw[n6 h];by_cases b:m<j/\j<=k;rw[n5 b];exact g _ _ (by lia) (by lia);rw[n6 b];exact g _ _ d<|by lia
theorem Bc(O:Kj c):∀(f:Nat) (p:Array Nat) (k:Nat),k+f<=p.size->Up c p k->(run c<|kas_bin f p k).size=p.size/\Up c (run c<|kas_bin f p k) (k+f)
 | 0,p,k,_,h=>⟨rfl,h⟩
 |f+1,p,k,hz,h=>by show (run c<|(Li p k k 0 k).bind λl=>kas_bin f (bubble p k<|k-l)<|k+1).size=p.size/\Up c (run c<|(Li p k k 0 k).bind λl=>kas_bin f (bubble p k<|k-l)<|k+1) (k+(f+1));rw[gI];obtain⟨a1,a2,a3⟩:=mB O h k 0 k (w5 _) (u6 _) (by lia) (λi hi=>n9 hi<|Lz _) λi a1 a2=>n9 a2 (by lia);obtain⟨b1,b2⟩:=Bc O f (bubble p k<|k-run c (Li p k k 0 k)) (k+1) (by rw[bubble_size];lia)<|Ba O (by lia) h a1 a2 a3;exact⟨b1.trans<|bubble_size _ _ _,by rw[show k+(f+1)=k+1+f by lia];exact b2⟩
theorem Eu(O:Kj c)(h1:1<=n):(run c<|Lh n).size=n/\Up c (run c<|Lh n) n:=by
 have hs:(KZ<|A2 n).size=n:=by simp
 unfold Lh;rw[gI];obtain⟨F,a,b,t⟩:=AT O (p:=KZ<|A2 n) h1 (by rw[hs];exact u6 _);rw[hs]at F;generalize run c (kas_count n<|KZ<|A2 n)=r at F a b t;by_cases g:r.1<n;rw[n5 g];obtain⟨d,e⟩:=Bc O (n-max r.1 1) r.2 (max r.1 1) (by rw[F];lia) (by rw[show max r.1 1=r.1 by lia];exact a);exact⟨d.trans F,by rw[show n=max r.1 1+(n-max r.1 1) by lia];simpa using e⟩;rw[n6 g];have f:r.1=n:=by lia
 rw[f]at a;exact⟨F,a⟩
noncomputable def D3(n:Nat)(p:Array Nat):Prop:=p.toList.Perm<|A2 n
theorem D3.lt(h:D3 n p)(a:0<n)(k:Nat):at_ p k<n:=by
 unfold at_;rw[Mn];cases e:p[k]? with
 |none=>simpa using a
 |some x =>
  have:x∈p.toList:=by rw[<-G3]at e;exact J1 e
  have:=h.mem_iff.mp this;simpa using this
theorem D3.rev(h:D3 n p):D3 n (Kn p i j):=(Array.perm_iff_toList_perm.mp<|mirror_perm p i j<|(j-i) / 2).trans h
theorem D3.bub(h:D3 n p):D3 n (bubble p i j):=(Array.perm_iff_toList_perm.mp<|bubble_perm p i j).trans h
section
variable{n:Nat}(h0:0<n)
theorem Bh(h0:0<n)(h:D3 n p):∀(f k:Nat),Bd n (KL p f k)
 | 0,_=>trivial
 |f+1,k=>⟨h.lt h0 _,h.lt h0 _,λb=>by cases b with
  |true=>exact trivial
  |false=>exact Bh h0 h f<|k+1⟩
theorem qr(h0:0<n):∀(f:Nat) (p:Array Nat) (k q:Nat),D3 n p->Bd n (G5 f p k q)/\All (λr=>D3 n r.1) (G5 f p k q)
 | 0,p,k,q,h=>⟨trivial,h⟩
 |f+1,p,k,q,h=>by
  have key:∀b,(Bd n<|if b=a9 then(if q > 0 then G5 f (Kn p (k-(q+1)) k) (k+1) 0 else G5 f p (k+1) 0) else KasT.ask (p.getD (k-1) 0) (p.getD k 0) λd=>if d=a9 then KasT.ret (p,k,q)else G5 f p (k+1) (q+1))/\All (λr=>D3 n r.1) (if b=a9 then(if q > 0 then G5 f (Kn p (k-(q+1)) k) (k+1) 0 else G5 f p (k+1) 0) else KasT.ask (p.getD (k-1) 0) (p.getD k 0) λd=>if d=a9 then KasT.ret (p,k,q)else G5 f p (k+1) (q+1)):=λb=>by
   cases b with
   |true=>rw[n5 rfl];by_cases hq:q > 0;rw[n5 hq];exact qr h0 f _ _ _ h.rev;rw[n6 hq];exact qr h0 f _ _ _ h
   |false =>
    rw[n6<|by simp];have a:=qr h0 f p (k+1) (q+1) h;refine⟨⟨h.lt h0 _,h.lt h0 _,λb=>?_⟩,λb=>?_⟩;cases b with
    |true=>exact trivial
    |false=>exact a.1
    cases b with
    |true=>exact h
    |false=>exact a.2
  exact⟨⟨h.lt h0 _,h.lt h0 _,λb=>(key b).1⟩,λb=>(key b).2⟩
theorem lz(c:0<n)(h:D3 n p):Bd n (kas_tail3 k m p)/\All (λr=>D3 n r.2) (kas_tail3 k m p):=by
 have v:∀{t:KasT Nat}{Q:Prop},Q->All (λ_=>Q) t:=λ{t Q} q=>by
  induction t with
  |ret a=>exact q
  |ask i j k d=>exact λb=>d b
 unfold kas_tail3;exact⟨Bd.bindA _ (Bh c h.rev _ _)<|v trivial,All.bind _<|v h.rev⟩
theorem fG(a:0<n)(h:D3 n p):Bd n (M7 k m p)/\All (λr=>D3 n r.2) (M7 k m p):=by unfold M7;obtain⟨b,c⟩:=qr a (m-(k+1)) p (k+1) 0 h;refine⟨Bd.bindA _ b<|c.mono<|λr i=>?_,All.bind _<|c.mono<|λr i=>?_⟩;by_cases q:r.2.2 > 0;rw[n5 q];exact(lz a i.rev).1;rw[n6 q];exact(lz a i).1;by_cases q:r.2.2 > 0;rw[n5 q];exact(lz a i.rev).2;rw[n6 q];exact(lz a i).2
theorem Dq(c:0<n)(h:D3 n p):Bd n (kas_count m p)/\All (λr=>D3 n r.2) (kas_count m p):=by
 have v:∀{t:KasT Nat}{Q:Nat->Prop},(∀a,Q a)->All Q t:=λ{t Q} q=>by
  induction t with
  |ret a=>exact q a
  |ask i j k d=>exact λb=>d b
 unfold kas_count;refine⟨Bd.bindA _ (Bh c h _ _)<|v λk=>?_,All.bind _<|v λk=>?_⟩;by_cases h1:(k==m)=a9;rw[n5 h1];exact trivial;rw[n6 h1];by_cases h2:k > 1;rw[n5 h2];refine⟨h.lt c _,h.lt c _,λb=>?_⟩;cases b with
 |true=>exact trivial
 |false=>exact(fG c h.rev).1
 rw[n6 h2];exact(fG c h).1;by_cases h1:(k==m)=a9;rw[n5 h1];exact h;rw[n6 h1];by_cases h2:k > 1;rw[n5 h2];intro b;cases b with
 |true=>exact h
 |false=>exact(fG c h.rev).2
 rw[n6 h2];exact(fG c h).2
theorem pK(h0:0<n)(h:D3 n p):∀(f l r:Nat),Bd n (Li p k f l r)
 | 0,_,_=>trivial
 |f+1,l,r=>by
  show Bd n (if l ≥ r then KasT.ret l else KasT.ask (p.getD k 0) (p.getD ((l+r) / 2) 0) λc=>if c=a9 then Li p k f l ((l+r) / 2)else Li p k f ((l+r) / 2+1) r);by_cases hl:l ≥ r;rw[n5 hl];exact trivial;rw[n6 hl];refine⟨h.lt h0 _,h.lt h0 _,λb=>?_⟩;cases b with
  |true=>exact pK h0 h f _ _
  |false=>exact pK h0 h f _ _
theorem wS(h0:0<n):∀(f:Nat) (p:Array Nat) (k:Nat),D3 n p->Bd n (kas_bin f p k)/\All (λr=>D3 n r) (kas_bin f p k)
 | 0,p,k,h=>⟨trivial,h⟩
 |f+1,p,k,h=>by
  have triv:∀{t:KasT Nat}{Q:Nat->Prop},(∀a,Q a)->All Q t:=λ{t Q} q=>by
   induction t with
   |ret a=>exact q a
   |ask i j k ih=>exact λb=>ih b
  exact⟨Bd.bindA _ (pK h0 h _ _ _)<|triv λl=>(wS h0 f _ _ h.bub).1,All.bind _<|triv λl=>(wS h0 f _ _ h.bub).2⟩
theorem sort_bd(a:0<n):Bd n (Lh n)/\All (λr=>D3 n r) (Lh n):=by
 have h:D3 n (KZ<|A2 n):=by unfold D3;simp
 obtain⟨b,c⟩:=Dq a (m:=n) h;unfold Lh;refine⟨Bd.bindA _ b<|c.mono λr i=>?_,All.bind _<|c.mono λr i=>?_⟩;by_cases g:r.1<n;rw[n5 g];exact(wS a _ _ _ i).1;rw[n6 g];exact trivial;by_cases g:r.1<n;rw[n5 g];exact(wS a _ _ _ i).2;rw[n6 g];exact i
end
theorem sort_list{α:Type}[Inhabited α]{lt:α->α->Bool}(xs:List α)(h1:1<=xs.length)(r:∀a∈xs,lt a a=bt)(tr:∀a∈xs,∀b∈xs,∀d∈xs,lt a b=a9->lt b d=a9->lt a d=a9)(n:∀a∈xs,∀b∈xs,∀d∈xs,lt a d=a9->lt a b=a9\/lt b d=a9):let c:=λi j=>if i<xs.length then(if j<xs.length then lt (xs.getD i default) (xs.getD j default)else a9)else bt
  let p:=run c<|Lh xs.length
  let ys:=p.toList.map λi=>xs.getD i default
  ys.Perm xs/\ys.Pairwise λa b=>lt b a=bt:=by
 intro c p ys;have m:∀i,i<xs.length->xs.getD i default∈xs:=λi hi=>by rw[J3,v9 hi];exact J0 hi
 have O:Kj c:=by refine⟨λa=>?_,λa b d=>?_,λa b d=>?_⟩;show (if a<xs.length then(if a<xs.length then lt _ _ else a9)else bt)=bt;by_cases f:a<xs.length;rw[n5 f,n5 f];exact r _<|m a f;rw[n6 f];show (if a<xs.length then(if b<xs.length then lt _ _ else a9)else bt)=a9->(if b<xs.length then(if d<xs.length then lt _ _ else a9)else bt)=a9->(if a<xs.length then(if d<xs.length then lt _ _ else a9)else bt)=a9;by_cases f:a<xs.length;by_cases h:b<xs.length;by_cases g:d<xs.length;rw[n5 f,n5 h,n5 h,n5 g,n5 f,n5 g];exact tr _ (m a f) _ (m b h) _<|m d g;intro _ _;rw[n5 f,n6 g];rw[n6<|show ¬b<xs.length from h];intro _ z;rw[n6 h]at z;cases z;intro z;rw[n6 f]at z;cases z;show (if a<xs.length then(if d<xs.length then lt _ _ else a9)else bt)=a9->(if a<xs.length then(if b<xs.length then lt _ _ else a9)else bt)=a9\/(if b<xs.length then(if d<xs.length then lt _ _ else a9)else bt)=a9;by_cases f:a<xs.length;by_cases h:b<xs.length;by_cases g:d<xs.length;rw[n5 f,n5 g,n5 f,n5 h,n5 h,n5 g];exact n _ (m a f) _ (m b h) _<|m d g;intro _;right;rw[n5 h,n6 g];intro _;left;rw[n5 f,n6 h];intro z;rw[n6 f]at z;cases z
 have E:D3 xs.length p:=All.run _ (sort_bd<|by lia).2;obtain⟨hs,U⟩:=Eu O h1;refine⟨?_,?_⟩;have e:(A2 xs.length).map (λi=>xs.getD i default)=xs:=by apply Ox;intro i;rw[D0];by_cases hi:i<xs.length;rw[List.getElem?_range hi];simp[J3,v9 hi];rw[LF (by simpa using hi),LF<|by simpa using hi];rfl
 have:=E.map λi=>xs.getD i default;rw[e]at this;exact this;show (p.toList.map λi=>xs.getD i default).Pairwise λa b=>lt b a=bt;rw[List.pairwise_iff_getElem];intro i j hi L t;rw[u4,D6]at hi L;have u:p.size=xs.length:=hs;have l:=U i j (by lia) (by lia);have o:∀k,at_ p k<xs.length:=λk=>E.lt (by lia) k;unfold le at l;have l':(if at_ p j<xs.length then(if at_ p i<xs.length then lt (xs.getD (at_ p j) default) (xs.getD (at_ p i) default)else a9)else bt)=bt:=l;rw[n5<|o j,n5<|o i]at l';have q:p.toList[i]=at_ p i:=by unfold at_;simp[KU,hi]
 have s:p.toList[j]=at_ p j:=by unfold at_;simp[KU,L]
 rw[Mc,Mc,q,s];exact l'
end
end Srt
namespace L2
open PySem PySem.Spec PyProof.Rows DL
noncomputable def yi(A:e8)(s:e9)(x y:c4)(k:Bool):Prop:=∀(g:c7) (w:c6) (E:c4->e9->Prop) (Q:c4->e9->Prop),Q (.bool k) s->f9 (i3 g w) A (richCompare .Lt x y) Q E s
inductive LexAt(A:e8)(s:e9):List c4->List c4->Bool->Prop
 |nn:LexAt A s [] [] bt
 |nc {y:c4}{ys:List c4}:LexAt A s [] (y::ys) a9
 |cn {x:c4}{xs:List c4}:LexAt A s (x::xs) [] bt
 |eq {x y:c4}{xs ys:List c4}{k:Bool} (h:KW A s x y a9) (t:LexAt A s xs ys k):LexAt A s (x::xs) (y::ys) k
 |ne {x y:c4}{xs ys:List c4}{k:Bool} (h:KW A s x y bt) (t:yi A s x y k):LexAt A s (x::xs) (y::ys) k
section
open PySem.SeqAt
open PySem.AutoSeq1 (wpAny_loadPart')
open PySem.MeetsSeq PySem.MeetsSeq2 PySem.MeetsSeq3
theorem qO(l b:c8)(a i:Array c4)(n D:Nat)(v f:Option c8)(E o:Array (Option c4))(k:Bool):Meets (Builtin.«tuple.__lt__» ⟨[.ref l,.ref b],[]⟩)
   (λA R s=>s.heap.get? l=a7 (⟨.type "tuple",v,.seq a n,E⟩:c9)/\s.heap.get? b=a7 { cls:=.type "tuple",dict:=f,data:=.seq i D,slots:=o } /\ LexAt A.in1 s a.toList i.toList k/\R (.ok<|.ret<|.bool k) s) :=
 .of_wp λp w A R s h=>by
  obtain⟨q,g,d,u,r⟩:=s;obtain⟨B,z,c,h⟩:=h;have M:=AutoSeq1.sub_tuple_tuple
  wp_walk using PZ B,PZ z,Mb _ (λaY b s'=>b.1=a8/\s'=⟨q,g,d,u,r⟩/\∃(vs e:List c4),aY=vs.zip e /\ LexAt A.in1 ⟨q,g,d,u,r⟩ vs e k/\vs.length+i.size=e.length+a.size) _
  case turn =>
   rintro⟨y,x⟩ aY b s' ⟨hb',rfl,vs,e,hz,hlex,hlen⟩;cases hlex with
   |nn=>cases hz
   |nc=>cases hz
   |cn=>cases hz
   |eq j t =>
    rw[MK]at hz;injection hz with hyx hrest;injection hyx with hy c;subst hy c;refine p6<|j p w _ _ ?_
    wp_walk
    exact⟨rfl,rfl,_,_,hrest,t,by simp only[C2]at hlen;lia⟩
   |ne j t =>
    rw[MK]at hz;injection hz with hyx hrest;injection hyx with hy c;subst hy c;refine p6<|j p w _ _ ?_;have m:=t p w
    wp_walk using m
    exact⟨_,rfl,by simpa using h⟩
  case fin =>
   rintro⟨b1,b2⟩ s' ⟨hb',rfl,vs,e,hz,hlex,hlen⟩;simp only at hb';subst hb';have C:k=decide (a.size<i.size):=by
    cases hlex with
    |nn=>simp only[B8]at hlen;exact(dF_<|by lia).symm
    |nc=>simp only[B8,C2]at hlen;exact(dT_<|by lia).symm
    |cn=>simp only[B8,C2]at hlen;exact(dF_<|by lia).symm
    |eq _ _=>rw[MK]at hz;cases hz
    |ne _ _=>rw[MK]at hz;cases hz
   rw[C]at h
   wp_walk
   exact⟨_,rfl,by simpa [Builtin.Tuple.tupleCompareSizes]using h⟩
  case h =>
   exact⟨rfl,rfl,a.toList,i.toList,rfl,c,by simp;lia⟩
end
theorem yi.tuples(u:s.heap.IsTuple l items)(r:s.heap.IsTuple b items2)(v:A.units<k4)(y:LexAt A.in1 s items.toList items2.toList k):yi A s (.ref l) (.ref b) k:=λp w E Q h=>by obtain⟨⟨t,q,g,C⟩,B,m,n,o⟩:=id u;obtain⟨⟨j,e,i,f⟩,d,a,z,c⟩:=id r;simp only at m o a c;subst m o a c;exact richCompare_meets_room (op:=.Lt) ⟨_,B,rfl⟩ ⟨_,d,rfl⟩ PySem.F.slot_tuple_lt PySem.F.entry_tuple_lt (PySem.F.args_tuple_lt_2 _ _) (qO l b items items2 n z q e C f k) ⟨B,d,y,show MX k≠Value.notImplemented/\Q (.bool k) s from⟨(λx=>nomatch x),h⟩⟩ v
noncomputable def uG(f g:D->D->Bool):List D->List D->Bool
 | [],[]=>bt
 | [],_::_=>a9
 |_::_,[]=>bt
 |x::xs,y::ys=>if f x y=a9 then uG f g xs ys else g x y
noncomputable def A8(M:t5):Nat->D->D->Bool
 |_,.int a,.int b=>decide<|a<b
 |_,.str a,.str b=>gW a b
 |n+1,.tup xs,.tup ys=>uG (t4 M n) (A8 M n) xs ys
 |_,_,_=>bt
noncomputable def AU(f g:D->D->Bool):List D->List D->Bool
 |x::xs,y::ys=>if f x y=a9 then AU f g xs ys else g x y
 |_,_=>a9
noncomputable def iQ(M:t5):Nat->D->D->Bool
 |_,.int _,.int _=>a9
 |_,.str _,.str _=>a9
 |n+1,.tup xs,.tup ys=>AU (t4 M n) (iQ M n) xs ys
 |_,_,_=>bt
theorem yi.ints(A:e8)(s:e9)(a:Int)(t:Tok)(c:Int)(u:Tok):yi A s (.int a t) (.int c u) (decide<|a<c):=λg w E Q h=>HT.rcLt_int A s a t c u g w E Q h
theorem yi.texts(A:e8)(s:e9)(a:c5)(t:Tok)(c:c5)(u:Tok):yi A s (.str a t) (.str c u) (gW a c):=λg w E Q h =>
 (PySem.P.lt_str (show Q (.bool<|decide<|a.cps.toList<c.cps.toList) s from h):f9 (i3 g w) A (j8 .Lt (.str a t)<|.str c u) Q E s)
section
variable{X:Cx}{pins:List (c8×c9)}{σ:St}{H:Hp}{s:e9}{ρ:List c8}{M:t5}
theorem DR(I:p8 X pins σ H s)(sm:u8 X.K ρ M H):∀(n:Nat) (A:e8) (x y:D) (vx vy:V) (u v:c4),A.units+n<k4->t9 X.K ρ H x vx->aM vx u->t9 X.K ρ H y vy->aM vy v->u3 M n x=a9->u3 M n y=a9->iQ M n x y=a9 ->yi A s u v (A8 M n x y):=by
 intro n;induction n with
 |zero =>
  intro A x y vx vy u v W J c g l S T m;cases J with
  |int a =>
   cases g with
   |int b=>obtain⟨t,rfl⟩:=c;obtain⟨t',rfl⟩:=l;exact yi.ints A s a t b t'
   |_=>simp[iQ]at m
  |str a =>
   cases g with
   |str b=>obtain⟨t,rfl⟩:=c;obtain⟨t',rfl⟩:=l;exact yi.texts A s a t b t'
   |_=>simp[iQ]at m
  |_=>simp[iQ]at m
 |succ n Y =>
  intro A x y vx vy u v W J c g l S T m;have E:A.units<k4:=by lia
  have i:A.in1.units+n<k4:=by show A.units+1+n<k4;lia
  have F:∀(ds es:List D) (vs C:List V) (its j:List c4),Reps X.K ρ H ds vs->aC vs its->Reps X.K ρ H es C->aC C j->ds.all (u3 M n)=a9->es.all (u3 M n)=a9->AU (t4 M n) (iQ M n) ds es=a9 -> LexAt A.in1 s its j (uG (t4 M n) (A8 M n) ds es):=by
   intro ds;induction ds with
   |nil =>
    intro es vs C its j p w o q _ _ _;cases p;cases w;cases o with
    |nil=>cases q;exact .nn
    |cons _ _=>cases q;exact .nc
   |cons d ds hi =>
    intro es vs C its j p w o q G B k;cases p with
    |cons L p =>
     cases w with
     |cons P w =>
      cases o with
      |nil=>cases q;exact .cn
      |@cons e _ U _ N o =>
       cases q with
       |cons Q q=>rw[KA,C5]at G B;have z:=(mY I sm n A.in1 d _ _ _ _ _ i L P N Q G.1 B.1).1;rw[uG];rw[AU]at k;by_cases f:t4 M n d e=a9;rw[f]at z;rw[n5 f]at k ⊢;exact .eq z<|hi _ _ _ _ _ p w o q G.2 B.2 k;have h:=KD.mpr f;rw[h]at z;rw[n6 f]at k ⊢;exact .ne z<|Y A.in1 _ _ _ _ _ _ i L P N Q G.1 B.1 k
  cases J with
  |int a =>
   cases g with
   |int b=>obtain⟨t,rfl⟩:=c;obtain⟨t',rfl⟩:=l;exact yi.ints A s a t b t'
   |_=>simp[iQ]at m
  |str a =>
   cases g with
   |str b=>obtain⟨t,rfl⟩:=c;obtain⟨t',rfl⟩:=l;exact yi.texts A s a t b t'
   |_=>simp[iQ]at m
  |tup f r =>
   cases g with
   |tup h r'=>cases c;cases l;obtain⟨its,rr,Z,_⟩:=I.tuple f;obtain⟨j,R,O,_⟩:=I.tuple h;refine yi.tuples Z O E ?_;exact F _ _ _ _ _ _ r rr r' R (by simpa [u3]using S) (by simpa [u3]using T) m
   |_=>simp[iQ]at m
  |_=>simp[iQ]at m
end
noncomputable def A4:Nat->D->Bool
 |_,.int _=>a9
 |_,.str _=>a9
 |n+1,.tup xs=>xs.all<|A4 n
 |_,_=>bt
noncomputable def GQ(f:D->List Int):List D->List Int
 | []=>[0]
 |x::xs=>1::(f x++GQ f xs)
noncomputable def C4:Nat->D->List Int
 |_,.int i=>[0,i]
 |_,.str x=>1::(x.cps.toList.map (λ(c:Nat)=>(c:Int)+1)++[0])
 |n+1,.tup xs=>2::GQ (C4 n) xs
 |_,_=>[3]
noncomputable def cH(x y:List Int):Prop:=∀a b,x++a<y++b
theorem cH.cons(i:Int)(h:cH x y):cH (i::x) (i::y):=λa b=>LD.mpr<|.inr ⟨rfl,h a b⟩
theorem cH.head(x y:List Int)(h:i<j):cH (i::x) (j::y):=λa b=>LD.mpr<|.inl h
theorem cH.lt(h:cH x y):x<y:=by have:=h [] [];simpa using this
theorem cH.pre(z:List Int)(h:cH x y):cH (z++x) (z++y):=by
 induction z with
 |nil=>exact h
 |cons i z a=>exact a.cons i
theorem cH.more(u v:List Int)(h:cH x y):cH (x++u) (y++v):=λa b=>by rw[F8,F8];exact h _ _
noncomputable def O9(x y:D)(n:Nat)(l:Bool)(r:Bool):Prop:=(x=y/\l=bt/\r=bt)\/(x≠y/\l=a9/\r=bt/\cH (C4 n x) (C4 n y))\/(x≠y/\l=bt/\r=a9/\cH (C4 n y) (C4 n x))
theorem tw:∀(x y:List Nat),(x=y)\/(x<y/\¬y<x/\cH (x.map (λ(c:Nat)=>(c:Int)+1)++[0]) (y.map (λ(c:Nat)=>(c:Int)+1)++[0]))\/(¬x<y/\y<x/\cH (y.map (λ(c:Nat)=>(c:Int)+1)++[0]) (x.map (λ(c:Nat)=>(c:Int)+1)++[0]))
 | [],[]=>.inl rfl
 | [],c::y=>.inr<|.inl ⟨List.nil_lt_cons _ _,List.not_lt_nil _,cH.head _ _<|by dsimp only;lia⟩
 |c::x,[]=>.inr<|.inr ⟨List.not_lt_nil _,List.nil_lt_cons _ _,cH.head _ _<|by dsimp only;lia⟩
 |c::x,e::y=>by
  rcases MI c e with h|h|h;refine .inr<|.inl ⟨LD.mpr<|.inl h,λz=>?_,cH.head _ _<|by dsimp only;lia⟩;rcases LD.mp z with z|⟨z,_⟩<;>lia
  subst h;rcases tw x y with q|⟨q1,q2,q3⟩|⟨q1,q2,q3⟩
  exact .inl (by rw[q]);refine .inr<|.inl ⟨LD.mpr<|.inr ⟨rfl,q1⟩,λz=>?_,q3.cons _⟩;rcases LD.mp z with z|⟨_,z⟩
  lia;exact q2 z;refine .inr<|.inr ⟨λz=>?_,LD.mpr<|.inr ⟨rfl,q2⟩,q3.cons _⟩;rcases LD.mp z with z|⟨_,z⟩
  lia;exact q1 z;refine .inr<|.inr ⟨λz=>?_,LD.mpr<|.inl h,cH.head _ _<|by dsimp only;lia⟩;rcases LD.mp z with z|⟨z,_⟩<;>lia
theorem Jz(M:t5):∀(n:Nat) (x y:D),A4 n x=a9->A4 n y=a9->(t4 M n x y=a9↔x=y):=by
 have l:∀(n:Nat),(∀(x y:D),A4 n x=a9->A4 n y=a9->(t4 M n x y=a9↔x=y))->∀(xs ys:List D),xs.all (A4 n)=a9->ys.all (A4 n)=a9->(C3 (t4 M n) xs ys=a9↔xs=ys):=by
  intro n i xs;induction xs with
  |nil=>intro ys _ _;cases ys<;>simp[C3]
  |cons x xs hi =>
   intro ys h1 h2;cases ys with
   |nil=>simp[C3]
   |cons y ys=>rw[KA,C5]at h1 h2;rw[C3,C5,i x y h1.1 h2.1,hi ys h1.2 h2.2,MC]
 intro n;induction n with
 |zero=>intro x y h1 h2;cases x<;>simp[A4]at h1<;>cases y<;>simp[A4]at h2<;>simp[t4]
 |succ n i =>
  intro x y h1 h2;cases x with
  |int a=>cases y<;>simp[A4]at h2<;>simp[t4]
  |str a=>cases y<;>simp[A4]at h2<;>simp[t4]
  |tup xs =>
   cases y with
   |tup ys=>simp only[t4,D.tup.injEq];exact l n i xs ys (by simpa [A4]using h1)<|by simpa [A4]using h2
   |int a=>simp[t4]
   |str a=>simp[t4]
   |_=>simp[A4]at h2
  |_=>simp[A4]at h1
theorem Ir(M:t5):∀(n:Nat) (x:D),A4 n x=a9->u3 M n x=a9:=by
 intro n;induction n with
 |zero=>intro x h;cases x<;>simp[A4]at h<;>rfl
 |succ n i =>
  intro x h;cases x with
  |int a=>rfl
  |str a=>rfl
  |tup xs=>simp only[u3];rw[E6];intro y O;exact i y<|E6.mp (show xs.all (A4 n)=a9 from h) y O
  |_=>simp[A4]at h
theorem Hc(M:t5):∀(n:Nat) (x y:D),A4 n x=a9->A4 n y=a9->iQ M n x y=a9->O9 x y n (A8 M n x y) (A8 M n y x):=by
 have base:∀(n:Nat) (a b:Int),O9 (.int a) (.int b) n (decide<|a<b) (decide<|b<a):=λn a b=>by
  have e:∀a,C4 n (.int a)=[0,a]:=λa=>by cases n<;>rfl
  rcases Int.lt_trichotomy a b with h|h|h;exact .inr<|.inl ⟨by simp;lia,dT_ h,dF_ (by lia),by rw[e,e];exact(cH.head [] [] h).cons 0⟩;subst h;exact .inl ⟨rfl,dF_ (by lia),dF_<|by lia⟩;exact .inr<|.inr ⟨by simp;lia,dF_ (by lia),dT_ h,by rw[e,e];exact(cH.head [] [] h).cons 0⟩
 have s:∀(n:Nat) (a b:c5),O9 (.str a) (.str b) n (gW a b) (gW b a):=λn a b=>by
  have e:∀a:c5,C4 n (.str a)=1::(a.cps.toList.map (λ(c:Nat)=>(c:Int)+1)++[0]):=λa=>by cases n<;>rfl
  unfold gW;rcases tw a.cps.toList b.cps.toList with h|⟨h1,h2,d⟩|⟨h1,h2,d⟩
  have:a=b:=jV h;subst this;exact .inl ⟨rfl,dF_<|KB _,dF_<|KB _⟩;exact .inr<|.inl ⟨λz=>by cases z;exact h2 h1,dT_ h1,dF_ h2,by rw[e,e];exact d.cons 1⟩;exact .inr<|.inr ⟨λz=>by cases z;exact h1 h2,dF_ h1,dT_ h2,by rw[e,e];exact d.cons 1⟩
 intro n;induction n with
 |zero=>intro x y h1 h2 d;cases x<;>simp[A4]at h1<;>cases y<;>simp[A4]at h2<;>first|exact base 0 _ _|exact s 0 _ _|simp[iQ]at d
 |succ n m =>
  intro x y h1 h2 d;have l:∀(xs ys:List D),xs.all (A4 n)=a9->ys.all (A4 n)=a9->AU (t4 M n) (iQ M n) xs ys=a9 -> (xs=ys/\uG (t4 M n) (A8 M n) xs ys=bt/\uG (t4 M n) (A8 M n) ys xs=bt) \/ (xs≠ys/\uG (t4 M n) (A8 M n) xs ys=a9/\uG (t4 M n) (A8 M n) ys xs=bt/\cH (GQ (C4 n) xs) (GQ (C4 n) ys)) \/ (xs≠ys/\uG (t4 M n) (A8 M n) xs ys=bt/\uG (t4 M n) (A8 M n) ys xs=a9/\cH (GQ (C4 n) ys) (GQ (C4 n) xs)):=by
   intro xs;induction xs with
   |nil =>
    intro ys _ _ _;cases ys with
    |nil=>exact .inl ⟨rfl,rfl,rfl⟩
    |cons y ys=>exact .inr<|.inl ⟨by simp,rfl,rfl,cH.head _ _<|by decide⟩
   |cons x xs hi =>
    intro ys h1 h2 d;cases ys with
    |nil=>exact .inr<|.inr ⟨by simp,rfl,rfl,cH.head _ _<|by decide⟩
    |cons y ys =>
     rw[KA,C5]at h1 h2;rw[AU]at d;have i:=Jz M n x y h1.1 h2.1;have j:=Jz M n y x h2.1 h1.1;rw[uG,uG];by_cases q:x=y;subst q;rw[n5<|i.mpr rfl]at d;rw[n5<|i.mpr rfl,n5<|i.mpr rfl];rcases hi ys h1.2 h2.2 d with⟨F,f,g⟩|⟨F,f,g,t⟩|⟨F,f,g,t⟩
     exact .inl ⟨by rw[F],f,g⟩;exact .inr<|.inl ⟨λz=>F (NC z).2,f,g,(t.pre<|C4 n x).cons 1⟩;exact .inr<|.inr ⟨λz=>F (NC z).2,f,g,(t.pre<|C4 n x).cons 1⟩;have k:¬t4 M n x y=a9:=λz=>q<|i.mp z;have o:¬t4 M n y x=a9:=λz=>q (j.mp z).symm;rw[n6 k]at d;rw[n6 k,n6 o];rcases m x y h1.1 h2.1 d with⟨F,_⟩|⟨F,f,g,t⟩|⟨F,f,g,t⟩
     exact n9 F q;exact .inr<|.inl ⟨λz=>q (NC z).1,f,g,(t.more _ _).cons 1⟩;exact .inr<|.inr ⟨λz=>q (NC z).1,f,g,(t.more _ _).cons 1⟩
  cases x with
  |int a=>cases y<;>simp[A4]at h2<;>first|exact base (n+1) _ _|simp[iQ]at d
  |str a=>cases y<;>simp[A4]at h2<;>first|exact s (n+1) _ _|simp[iQ]at d
  |tup xs =>
   cases y with
   |tup ys =>
    rcases l xs ys (by simpa [A4]using h1) (by simpa [A4]using h2) d with⟨F,f,g⟩|⟨F,f,g,t⟩|⟨F,f,g,t⟩
    exact .inl ⟨by rw[F],f,g⟩;exact .inr<|.inl ⟨λz=>F<|D.tup.inj z,f,g,t.cons 2⟩;exact .inr<|.inr ⟨λz=>F<|D.tup.inj z,f,g,t.cons 2⟩
   |_=>simp[iQ]at d
  |_=>simp[A4]at h1
theorem uC(h1:A4 n x=a9)(h2:A4 n y=a9)(h:iQ M n x y=a9):A8 M n x y=decide (C4 n x<C4 n y):=by
 rcases Hc M n x y h1 h2 h with⟨F,a,b⟩|⟨F,a,b,t⟩|⟨F,a,b,t⟩
 subst F;rw[a,dF_<|KB _];rw[a,dT_ t.lt];rw[a,dF_<|λz=>KB _<|List.lt_trans z t.lt]
theorem Gd(h1:A4 n x=a9)(h2:A4 n y=a9)(a:iQ M n x y=a9)(e:C4 n x=C4 n y):x=y:=by
 rcases Hc M n x y h1 h2 a with⟨F,_⟩|⟨_,_,_,t⟩|⟨_,_,_,t⟩
 exact F;have:=t.lt;rw[e]at this;exact n9 this<|KB _;have:=t.lt;rw[e]at this;exact n9 this<|KB _
end L2
namespace L2
open PySem PySem.Spec PyProof.Rows DL PySem.W
section
variable{X:Cx}{pins:List (c8×c9)}{σ:St}{H:Hp}{s:e9}
theorem p8.laidF(I:p8 X pins σ H s)(k:∀b u,b≠X.env.locals->s.heap.get? b=a7 u->h'.get? b=a7 u)(p:s.heap.Ns X.env.locals m)(h:h'.Ns X.env.locals m)(t:s.heap.get? a=a8) (f:H a=a8) (j:cL X.prog X.w (v4 H a o) h' a o):p8 X pins σ (v4 H a o) { s with heap:=h',toks:=t' }:=by
 have i:∀b u,s.heap.get? b=a7 u->b≠a:=λb u e z=>by subst z;rw[t]at e;cases e
 refine I.step (g':=s.gens) (d':=s.drawn) (ch:=[]) (λ_ z=>nomatch z) (λb u L _ _ e _=>k b u L e) (λb u L _ _ e _=>⟨u.slots,k b u L e⟩) (λb u _ e n=>by rw[am<|i b u e];exact n) (λb u _ e=>?_) (λb xs q=>by rw[am<|ae q f];exact q) (λb u xs q=>by rw[am<|ae q f];exact q) (λb ps q=>⟨#[],by rw[am<|ae q f,q];simp⟩) (λy l=>?_) (λb w q=>?_) I.bare;by_cases d:b=X.env.locals;subst d;obtain⟨A,_,_,B,_⟩:=h;exact⟨A,B⟩;exact⟨u,k b u d e⟩;have:m=y:=funext λx=>p.agree l x;subst this;exact h;by_cases d:b=a;subst d;rw[aK]at q;cases q;exact j;rw[am d]at q;refine(I.hok b w q).stay (λc v g r=>k c v ?_ r) (λc z=>by rw[am<|ae z f];exact z) λc xs z=>by rw[am<|ae z f];exact z
 rcases g with rfl|g;exact ae q I.free;exact ae g I.free
theorem p8.keptF(I:p8 X pins σ H s)(k:∀b u,b≠X.env.locals->s.heap.get? b=a7 u->h'.get? b=a7 u)(i:s.heap.Ns X.env.locals m)(a:h'.Ns X.env.locals m):p8 X pins σ H { s with heap:=h',toks:=t' }:=by refine I.step (g':=s.gens) (d':=s.drawn) (ch:=[]) (λ_ z=>nomatch z) (λb u h _ _ e _=>k b u h e) (λb u h _ _ e _=>⟨u.slots,k b u h e⟩) (λb u _ e n=>n) (λb u _ e=>?_) (λb xs q=>q) (λb u xs q=>q) (λb ps q=>⟨#[],by rw[q];simp⟩) (λj g=>?_) (λb w q=>?_) I.bare;by_cases d:b=X.env.locals;subst d;obtain⟨o,_,_,B,_⟩:=a;exact⟨o,B⟩;exact⟨u,k b u d e⟩;have:m=j:=funext λx=>i.agree g x;subst this;exact a;refine(I.hok b w q).stay (λc v f r=>k c v ?_ r) (λc z=>z) λc xs z=>z;rcases f with rfl|f;exact ae q I.free;exact ae f I.free
end
section
variable{prog:c7}{w:c6}{A:e8}{E:c4->e9->Prop}{s:e9}
theorem rP{l:c8}{vs:List c4}{Q:c4->e9->Prop}(u:s.heap.IsList l vs.toArray)(h2:vs.length<2)(h:∀D h' n,s.heap.objs.size<=D->(∀b o,s.heap.get? b=a7 o->h'.get? b=a7 o)->h'.get? D=a7 { cls:=.type "list",data:=.seq vs.toArray n }->Q (.ref D) { s with heap:=h' }):f9 (i3 prog w) A (call (.builtin "sorted")<|[F6 l]) Q E s:=by
 have f:vs.length<=sizeLine:=by rw[KY];lia
 refine Calls.call_function_entry kind_sorted plain_sorted entry_sorted (args_sorted1<|.ref l) ?_;unfold Builtin.«sorted»;refine p6 (m:=checkCount "sorted" 1 1 _)<|q9<|p6<|collect_list u (p6<|My ?_ f) f;generalize S:((s.heap.push<|m6 "list" #[] 0).update s.heap.objs.size (Fn (· ++ vs.toArray)))=g1;have z:g1.objs.size=s.heap.objs.size+1:=by rw[<-S,Heap.size_update,size_push']
 have G:∀b o,s.heap.get? b=a7 o->g1.get? b=a7 o:=λb o q=>by have d:=v7 q;rw[<-S,MM _ _ _ _<|w9 d,Heap.get?_push_ne _ _ _<|w9 d];exact q
 show f9 _ _ _ _ _ { s with heap:=g1.push (m6 "list" vs.toArray 0) };have L:(g1.push<|m6 "list" vs.toArray 0).get? g1.objs.size=a7 (m6 "list" vs.toArray 0):=z6 _ rfl;refine p6<|D7<|J6 slot_list_sort (⟨_,L,rfl⟩) entry_list_sort ?body<|args_list_sort<|.ref _
 case body =>
  rw[list_sort_plain];refine p6<|MZ L rfl ?_;refine p6<|Mx L rfl ?_ (by rw[x3,KY];lia)<|w5 _;obtain⟨k,e⟩:∃k,((g1.push<|m6 "list" vs.toArray 0).update g1.objs.size<|Fn λ_=>(#[]:Array c4)).get? g1.objs.size=a7 (m6 "list" #[] k):=⟨_,MB L λ_=>#[]⟩
  refine p6<|seqEpoch_at e rfl<|p6<|wpAny_newTuple (p6<|My (D7 ?_)<|w5 _) f;dsimp only;have g:vs.toArray.size<2:=by rw[x3];exact h2
  rw[n5 g,n5 g];refine p6<|q9 ?_;rw[StateT.run_pure];refine p6<|q9 ?_;dsimp only;generalize c:(((g1.push<|m6 "list" vs.toArray 0).update g1.objs.size<|Fn λ_=>(#[]:Array c4)).push<|m6 "tuple" vs.toArray 0).push (m6 "list" #[] 0)=g3;have a:g3.get? g1.objs.size=a7 (m6 "list" #[] k):=by rw[<-c];exact v5 _<|v5 _ e
  have x:∀b o,b≠g1.objs.size->s.heap.get? b=a7 o->g3.get? b=a7 o:=λb o i q=>by have y:=G b o q;rw[<-c];refine v5 _<|v5 _ ?_;rw[MM _ _ _ _ i];exact v5 _ y
  refine p6<|seqEpoch_at a rfl ?_;have r:∀us:List c4,us.length<2->(us.toArray.zip us.toArray).map (·.2)=us.toArray:=λus hu=>by
   match us,hu with
   | [],_=>simp
   | [v],_=>simp
   |_::_::_,hu=>simp at hu;lia
  have t:(arrOf<|SortSt.mk' general' (vs.toArray.zip vs.toArray) #[] 7 a8).map (·.2)=vs.toArray:=r vs h2;rw[t];refine p6 (Mx a rfl ?_ (w5 _)<|by rw[x3,KY];lia);simp only[show failedOf (SortSt.mk' general' (vs.toArray.zip vs.toArray) #[] 7 a8)=a8 from rfl,bne_self_eq_false,A7,o6];refine q9 ⟨_,rfl,q9 ⟨_,rfl,?_⟩⟩;obtain⟨j,p⟩:∃j,(g3.update g1.objs.size<|Fn λ_=>vs.toArray).get? g1.objs.size=a7 (m6 "list" vs.toArray j):=⟨_,MB a λ_=>vs.toArray⟩
  refine h g1.objs.size _ j (by lia) (λb o q=>?_) p;have i:b≠g1.objs.size:=w9 (by rw[z];exact Mh<|v7 q);rw[MM _ _ _ _ i];exact x b o i q
end
structure SrtOk(M:t5)(xs:List D):Prop where
 len:xs.length<64
 ok:∀x∈xs,A4 t8 x=a9
 cm:∀x∈xs,∀y∈xs,iQ M t8 x y=a9
 kd:(∀x∈xs,∃z,x=.str z)\/(∀x∈xs,∃i,x=.int i)\/(∀x∈xs,∃z r,x=.tup (.str z::r))\/(∀x∈xs,∃i r,x=.tup (.int i::r))\/(∀x∈xs,∃z r,x=.tup (.tup z::r))
structure SrtG(M:t5)(xs:List D):Prop where
 len:xs.length<64
 okd:∀x∈xs,u3 M t8 x=a9
 cm:∀x∈xs,∀y∈xs,iQ M t8 x y=a9
 kd:(∀x∈xs,∃z,x=.str z)\/(∀x∈xs,∃i,x=.int i)\/(∀x∈xs,∃z r,x=.tup (.str z::r))\/(∀x∈xs,∃i r,x=.tup (.int i::r))\/(∀x∈xs,∃z r,x=.tup (.tup z::r))
 od:∃en:D->List Int,∀a∈xs,∀b∈xs,A8 M t8 a b=decide (en a<en b)
theorem SrtOk.g(o:SrtOk M xs):SrtG M xs:=⟨o.len,λx h=>Ir M _ _<|o.ok x h,o.cm,o.kd,C4 t8,λa f b d=>uC (o.ok a f) (o.ok b d)<|o.cm a f b d⟩
noncomputable def GS(M:t5)(ys:List D):Prop:=ys.Pairwise λa b=>A8 M t8 b a=bt
noncomputable def jY:D1:=λds M Q=>match ds with
 | [.ref n]=>∃xs,ax M n xs/\SrtG M xs/\∀ys,ys.Perm xs->GS M ys->Q (.ref M.length) (M++[.lst ys])
 |_=>False
theorem Reps.perm{K:u0}{ρ:List c8}{H:Hp}{ds:List D}{vs:List V}(r:Reps K ρ H ds vs)(is:List Nat)(hi:∀i∈is,i<ds.length):Reps K ρ H (is.map λi=>ds.getD i .non) (is.map λi=>vs.getD i .non):=by
 induction is with
 |nil=>exact .nil
 |cons i is a=>have h:=hi i C6;obtain⟨v,e,d⟩:=r.get<|v9 h;refine .cons ?_<|a λj L=>hi j<|A0 _ L;show t9 K ρ H (ds.getD i .non) (vs.getD i .non);rw[J3,J3,e,v9 h];exact d
theorem aC.perm(r:aC vs us)(is:List Nat)(hi:∀i∈is,i<vs.length):aC (is.map λi=>vs.getD i .non) (is.map λi=>us.getD i .none):=by
 induction is with
 |nil=>exact .nil
 |cons i is a=>have h:=hi i C6;obtain⟨v,e,d⟩:=iZ r<|v9 h;refine .cons ?_<|a λj L=>hi j<|A0 _ L;show aM (vs.getD i .non) (us.getD i .none);rw[J3,J3,e,v9 h];exact d
instance:Inhabited D:=⟨.non⟩
section
variable{X:Cx}{pins:List (c8×c9)}{σ:St}{H:Hp}{s:e9}{ρ:List c8}{M:t5}
theorem Fj(o:HO)(x:cL P w H h a o):∃u,h.get? a=a7 u:=by
 cases o with
 |lst _=>obtain⟨_,_,_,_,e⟩:=x;exact⟨_,e⟩
 |tup _=>obtain⟨_,_,_,o,e,_⟩:=x;exact⟨o,e⟩
 |dK _=>obtain⟨_,_,_,_,_,_,_,e,_⟩:=x;exact⟨_,e⟩
 |dT _=>obtain⟨_,_,_,_,o,_,_,e,_⟩:=x;exact⟨o,e⟩
 |set _ _=>obtain⟨o,_,_,_,e,_⟩:=x;exact⟨_,e⟩
 |ins _ _ _=>obtain⟨_,_,_,e,_⟩:=x;exact⟨_,e⟩
 |own _=>exact x
 |xd _=>obtain⟨_,⟨_,_,_,e,_⟩,_⟩:=x;exact⟨_,e⟩
 |rng _ _=>obtain⟨_,_,_,e⟩:=x;exact⟨_,e⟩
 |frz _ _=>obtain⟨e,_⟩:=x;exact⟨_,e⟩
 |tbl _=>exact⟨_,x⟩
 |met _ _=>exact⟨_,x⟩
 |ext _=>obtain⟨_,e,_⟩:=x;exact e
theorem C8.none(x:C8 P w H h)(e:h.get? a=a8):H a=a8:=by
 cases q:H a with
 |none=>rfl
 |some o=>exfalso;obtain⟨u,g⟩:=Fj o<|x a o q;rw[e]at g;cases g
theorem Fk(I:p8 X pins σ H s)(m:u8 X.K ρ M H)(n:Nat)(A:e8)(u:A.units+n<k4):∀(ds es:List D) (vs ws:List V) (its jts:List c4),Reps X.K ρ H ds vs->aC vs its->Reps X.K ρ H es ws->aC ws jts->ds.all (u3 M n)=a9->es.all (u3 M n)=a9 ->AU (t4 M n) (iQ M n) ds es=a9->LexAt A s its jts (uG (t4 M n) (A8 M n) ds es):=by
 intro ds;induction ds with
 |nil =>
  intro es vs ws its jts g c p j _ _ _;cases g;cases c;cases p with
  |nil=>cases j;exact .nn
  |cons _ _=>cases j;exact .nc
 |cons d ds hi =>
  intro es vs ws its jts g c p j G B k;cases g with
  |cons F g =>
   cases c with
   |cons b c =>
    cases p with
    |nil=>cases j;exact .cn
    |@cons e _ l _ a p =>
     cases j with
     |cons f j=>rw[KA,C5]at G B;have i:=(mY I m n A d _ _ _ _ _ u F b a f G.1 B.1).1;rw[uG];rw[AU]at k;by_cases q:t4 M n d e=a9;rw[q]at i;rw[n5 q]at k ⊢;exact .eq i<|hi _ _ _ _ _ g c p j G.2 B.2 k;have h:=KD.mpr q;rw[h]at i;rw[n6 q]at k ⊢;exact .ne i<|DR I m n A _ _ _ _ _ _ u F b a f G.1 B.1 k
end
section
variable{prog:c7}{w:c6}{A:e8}{s:e9}{b:Bool}{Q:Bool->e9->Prop}
theorem CF(h:LexAt A s its jts k):∀(i:Nat),(b&&i==0)=bt->(b&&i+1==0)=bt->Q k s->KatLex prog w A b (decide<|its.length<jts.length) Q (its.zip jts) i s:=by
 have n:∀i:Nat,(b&&i+1==0)=bt:=λi=>by cases b<;>simp
 induction h with
 |nn=>intro i _ _ q;exact q
 |nc=>intro i _ _ q;exact(show Q (decide<|0<_+1) s by rw[dT_<|Nat.succ_pos _];exact q)
 |cn=>intro i _ _ q;exact(show Q (decide<|_+1<0) s by rw[dF_<|Lz _];exact q)
 |@eq x y xs ys k e t a=>intro i d _ q;refine kat_cons<|e prog w _ _<|kat_yes ?_;have:=a (i+1) (n i) (n<|i+1) q;rw[show decide ((x::xs).length<(y::ys).length)=decide (xs.length<ys.length) by simp];exact this
 |@ne x y xs ys k e t=>intro i d _ q;refine kat_cons<|e prog w _ _<|kat_no ?_;rw[d];exact kat_one _ _<|t prog w _ _ q
theorem Ap(i:KW A s p q e)(g:e=bt->∀Q':Bool->e9->Prop,Q' l s->f9 (i3 prog w) A (oneLt' (b&&0==0) p q) Q' (λ_ _=>False) s)(D:e=a9->LexAt A s its jts k)(h:Q (if e=a9 then k else l) s):KatLex prog w A b (decide<|(p::its).length<(q::jts).length) Q ((p::its).zip<|q::jts) 0 s:=by
 refine kat_cons<|i prog w _ _ ?_;cases e with
 |true=>refine kat_yes ?_;rw[show decide ((p::its).length<(q::jts).length)=decide (its.length<jts.length) by simp];exact CF (D rfl) 1 (by cases b<;>rfl) (by cases b<;>rfl) h
 |false=>exact kat_no<|g rfl _ h
end
section
variable{X:Cx}{pins:List (c8×c9)}{σ:St}{H:Hp}{s:e9}{ρ:List c8}{M:t5}
theorem sB{M:Model}{h:d5}{x:c5}{t:Tok}:Looks M h (typeOf<|.str x t) (.type "str"):=Looks.of_pure rfl
theorem sC{M:Model}{h:d5}{x:Int}{t:Tok}:Looks M h (typeOf<|.int x t) (.type "int"):=Looks.of_pure rfl
theorem Reps.getD'(r:Reps X.K ρ H ds vs)(f:aC vs its)(h:i<ds.length):∃v,t9 X.K ρ H (ds.getD i default) v/\aM v (its.getD i .none)/\ds.getD i default∈ds:=by obtain⟨v,e,d⟩:=r.get<|v9 h;obtain⟨u,a,R⟩:=iZ f e;refine⟨v,?_,?_,?_⟩;rw[J3,v9 h];exact d;rw[J3,a];exact R;rw[J3,v9 h];exact J0 h
theorem Reps.mem(r:Reps X.K ρ H ds vs)(f:aC vs its)(h:u∈its):∃d v,d∈ds/\t9 X.K ρ H d v/\aM v u:=by
 induction ds generalizing vs its with
 |nil=>cases r;cases f;cases h
 |cons g ds i =>
  cases r with
  |cons e r =>
   cases f with
   |cons c q=>rcases(z9 (a:=u)).mp h with rfl|h;exact⟨_,_,C6,e,c⟩;obtain⟨d,v,h1,h2,b⟩:=i r q h;exact⟨d,v,A0 _ h1,h2,b⟩
theorem uO(I:p8 X pins σ H s)(r:Reps X.K ρ H xs ws)(b:aC ws its)(a:∀x∈xs,∃f r,x=.tup (f::r)):∃fs,KatTups s.heap its fs/\fs.length=its.length/\∀u∈fs,∃d v,t9 X.K ρ H d v/\aM v u/\∃r,D.tup (d::r)∈xs:=by
 induction xs generalizing ws its with
 |nil=>cases r;cases b;exact⟨[],.nil,rfl,λ_ z=>nomatch z⟩
 |cons d ds w =>
  cases r with
  |cons C r =>
   cases b with
   |cons A q =>
    obtain⟨fs,h1,h2,j⟩:=w r q λx h=>a x<|A0 _ h;obtain⟨f,aY,rfl⟩:=a d C6;cases C with
    |tup p c =>
     cases A;obtain⟨its,e,y,E⟩:=I.tuple p;cases c with
     |cons F c =>
      cases e with
      |cons i e=>obtain⟨o,B,k,n,m⟩:=y;refine⟨_::fs,.cons B k m rfl h1,by simp[h2],λu g=>?_⟩;rcases z9.mp g with rfl|g;exact⟨_,_,F,i,_,C6⟩;obtain⟨d,v,t,l,r',R⟩:=j u g;exact⟨d,v,t,l,r',A0 _ R⟩
noncomputable def ltc(M:t5)(xs:List D)(i j:Nat):Bool:=A8 M t8 (xs.getD i default)<|xs.getD j default
theorem mf(I:p8 X pins σ H s)(sm:u8 X.K ρ M H){xs:List D}{ws:List V}{its:List c4}(so:SrtG M xs)(r:Reps X.K ρ H xs ws)(J:aC ws its)(h2:2<=its.length){A:e8}(P:A.units+t8<k4):f9 (i3 X.prog X.w) A (keyKind' its.toArray) (λκ s'=>s'=s/\∀i j (C:Bool->e9->Prop),i<its.length->j<its.length->C (ltc M xs i j) s->kas_ask X.prog X.w A κ its i j C s) (λ_ _=>False) s:=by
 have lw:=r.length;have li:=J.length;have le:xs.length=its.length:=by lia
 have O:∀(b:Bool),(∀x∈xs,∃f r,x=.tup (f::r))->(∀(f g:D) (vf vg:V) (p q:c4) (r r':List D),D.tup (f::r)∈xs->D.tup (g::r')∈xs->t9 X.K ρ H f vf->aM vf p->t9 X.K ρ H g vg->aM vg q -> (t4 M 29 f g=bt->∀Q':Bool->e9->Prop,Q' (A8 M 29 f g) s->f9 (i3 X.prog X.w) A (oneLt' (b&&0==0) p q) Q' (λ_ _=>False) s)) -> ∀i j (C:Bool->e9->Prop),i<its.length->j<its.length->C (ltc M xs i j) s->kas_ask X.prog X.w A (tuples' b) its i j C s:=by
  intro b F ai i j C hi hj E;unfold kas_ask;obtain⟨v1,c,B,m⟩:=r.getD' J (show i<xs.length by lia);obtain⟨v2,G,L,W⟩:=r.getD' J (show j<xs.length by lia);unfold ltc at E;have k1:=so.okd _ m;have k2:=so.okd _ W;have k3:=so.cm _ m _ W;generalize xs.getD i default=x at *;generalize xs.getD j default=y at *;obtain⟨f,rf,rfl⟩:=F _ m;obtain⟨g,rg,rfl⟩:=F _ W;cases c with
  |tup S rs =>
   cases G with
   |tup aS Z =>
    generalize its.getD i .none=u1 at *;generalize its.getD j .none=u2 at *;cases B;cases L;obtain⟨as,ra,pa,_⟩:=I.tuple S;obtain⟨bs,rb,pb,_⟩:=I.tuple aS;obtain⟨o,ho,_,n,hd⟩:=pa;obtain⟨o',aP,_,n',aD⟩:=pb;refine kat_lt ho hd aP aD ?_;cases rs with
    |cons a1 rs =>
     cases ra with
     |@cons _ p _ la b1 ra =>
      cases Z with
      |cons a2 Z =>
       cases rb with
       |@cons _ q _ lb b2 rb =>
        have aj:A.units+29<k4:=by have:t8=30:=rfl;lia
        have z1:u3 M 29 f=a9/\rf.all (u3 M 29)=a9:=by
         have:(f::rf).all (u3 M 29)=a9:=k1
         rwa [KA,C5]at this
        have z2:u3 M 29 g=a9/\rg.all (u3 M 29)=a9:=by
         have:(g::rg).all (u3 M 29)=a9:=k2
         rwa [KA,C5]at this
        have z3:(if t4 M 29 f g=a9 then AU (t4 M 29) (iQ M 29) rf rg else iQ M 29 f g)=a9:=k3;have he:=(mY I sm 29 A _ _ _ _ _ _ aj a1 b1 a2 b2 z1.1 z2.1).1;have R:C (if t4 M 29 f g=a9 then uG (t4 M 29) (A8 M 29) rf rg else A8 M 29 f g) s:=E;cases U:t4 M 29 f g with
        |true=>rw[U]at he R z3;have:=Ap (prog:=X.prog) (w:=X.w) (b:=b) (Q:=C) (l:=a9) he (λz=>nomatch z) (λ_=>Fk I sm 29 A aj _ _ _ _ _ _ rs ra Z rb z1.2 z2.2 z3) R;simpa using this
        |false=>rw[U]at he R;have:=Ap (prog:=X.prog) (w:=X.w) (b:=b) (Q:=C) (l:=A8 M 29 f g) (its:=la) (jts:=lb) (k:=a9) he (λ_=>ai f g _ _ _ _ _ _ m W a1 b1 a2 b2 U) (λz=>nomatch z) R;simpa using this
 have N:∀(κ:SortKind),(∀i j (C:Bool->e9->Prop),i<its.length->j<its.length->C (ltc M xs i j) s->kas_ask X.prog X.w A κ its i j C s)->(s=s/\∀i j (C:Bool->e9->Prop),i<its.length->j<its.length->C (ltc M xs i j) s->kas_ask X.prog X.w A κ its i j C s):=λκ h=>⟨rfl,h⟩
 have an:A.units+29<k4:=by have:t8=30:=rfl;lia
 rcases so.kd with a|a|a|a|a;refine kas_kind (T:=.type "str") h2 (λu P=>?_) (by decide) (by decide)<|N _ λi j C hi hj E=>?_;obtain⟨d,v,m,c,B⟩:=r.mem J P;obtain⟨z,rfl⟩:=a d m;cases c;obtain⟨t,rfl⟩:=B;exact sB;unfold kas_ask;obtain⟨v1,c,B,m⟩:=r.getD' J (show i<xs.length by lia);obtain⟨v2,G,L,W⟩:=r.getD' J (show j<xs.length by lia);unfold ltc at E;obtain⟨z,hz⟩:=a _ m;obtain⟨z',Y⟩:=a _ W;rw[hz]at c E;rw[Y]at G E;cases c;cases G;obtain⟨t,h1⟩:=B;obtain⟨t',h2⟩:=L;rw[h1,h2];exact kas_lt_str E;refine kas_kind (T:=.type "int") h2 (λu P=>?_) (by decide) (by decide)<|N _ λi j C hi hj E=>?_;obtain⟨d,v,m,c,B⟩:=r.mem J P;obtain⟨z,rfl⟩:=a d m;cases c;obtain⟨t,rfl⟩:=B;exact sC;unfold kas_ask;obtain⟨v1,c,B,m⟩:=r.getD' J (show i<xs.length by lia);obtain⟨v2,G,L,W⟩:=r.getD' J (show j<xs.length by lia);unfold ltc at E;obtain⟨z,hz⟩:=a _ m;obtain⟨z',Y⟩:=a _ W;rw[hz]at c E;rw[Y]at G E;cases c;cases G;obtain⟨t,h1⟩:=B;obtain⟨t',h2⟩:=L;rw[h1,h2];exact kat_lt_int E;obtain⟨fs,t1,t2,t3⟩:=uO I r J λx F=>(a x F).elim λz ⟨r,e⟩=>⟨_,_,e⟩
 refine kat_kind (T:=.type "str") t1 (by lia) (λu P=>?_) (by decide)<|N _<|O _ (λx F=>(a x F).elim λz ⟨r,e⟩=>⟨_,_,e⟩) λf g vf vg p q r r' m W c B G L S Q' h=>?_;obtain⟨d,v,c,B,r',m⟩:=t3 u P;obtain⟨z,al,e⟩:=a _ m;cases e;cases c;obtain⟨t,rfl⟩:=B;exact sB;obtain⟨z,_,e⟩:=a _ m;cases e;obtain⟨z',_,e'⟩:=a _ W;cases e';cases c;cases G;obtain⟨t,rfl⟩:=B;obtain⟨t',rfl⟩:=L;exact oneLt_str h;obtain⟨fs,t1,t2,t3⟩:=uO I r J λx F=>(a x F).elim λz ⟨r,e⟩=>⟨_,_,e⟩
 refine kat_kind (T:=.type "int") t1 (by lia) (λu P=>?_) (by decide)<|N _<|O _ (λx F=>(a x F).elim λz ⟨r,e⟩=>⟨_,_,e⟩) λf g vf vg p q r r' m W c B G L S Q' h=>?_;obtain⟨d,v,c,B,r',m⟩:=t3 u P;obtain⟨z,al,e⟩:=a _ m;cases e;cases c;obtain⟨t,rfl⟩:=B;exact sC;obtain⟨z,_,e⟩:=a _ m;cases e;obtain⟨z',_,e'⟩:=a _ W;cases e';cases c;cases G;obtain⟨t,rfl⟩:=B;obtain⟨t',rfl⟩:=L;exact oneLt_int h;obtain⟨fs,t1,t2,t3⟩:=uO I r J λx F=>(a x F).elim λz ⟨r,e⟩=>⟨_,_,e⟩
 refine kat_kind (T:=.type "tuple") t1 (by lia) (λu P=>?_) (by decide)<|N _<|O _ (λx F=>(a x F).elim λz ⟨r,e⟩=>⟨_,_,e⟩) λf g vf vg p q r r' m W c B G L S Q' h=>?_;obtain⟨d,v,c,B,r',m⟩:=t3 u P;obtain⟨z,al,e⟩:=a _ m;cases e;cases c with
 |tup S rs=>cases B;obtain⟨_,_,pl,_⟩:=I.tuple S;obtain⟨o,ho,E,_⟩:=pl;rw[<-E];exact(show Looks _ s.heap (typeOf<|.ref _) o.cls from(Looks.ld ho).andThen .now)
 have k1:u3 M 29 f=a9:=by have:(f::r).all (u3 M 29)=a9:=so.okd _ m;rw[KA,C5]at this;exact this.1
 have k2:u3 M 29 g=a9:=by have:(g::r').all (u3 M 29)=a9:=so.okd _ W;rw[KA,C5]at this;exact this.1
 have k3:(if t4 M 29 f g=a9 then AU (t4 M 29) (iQ M 29) r r' else iQ M 29 f g)=a9:=so.cm _ m _ W;rw[S]at k3;exact kat_one _ _<|DR I sm 29 A _ _ _ _ _ _ an c B G L k1 k2 k3 _ _ _ _ h
end
section
variable{X:Cx}{pins:List (c8×c9)}{σ:St}{H:Hp}{s:e9}{ρ:List c8}{M:t5}
theorem Fa(o:SrtG M xs):(∀a∈xs,A8 M t8 a a=bt)/\(∀a∈xs,∀b∈xs,∀d∈xs,A8 M t8 a b=a9->A8 M t8 b d=a9->A8 M t8 a d=a9)/\∀a∈xs,∀b∈xs,∀d∈xs,A8 M t8 a d=a9->A8 M t8 a b=a9\/A8 M t8 b d=a9:=by obtain⟨n,e⟩:=o.od;refine⟨λa f=>?_,λa f b c d g h1 h2=>?_,λa f b c d g h=>?_⟩;rw[e a f a f,dF_<|KB _];rw[e a f b c,o0]at h1;rw[e b c d g,o0]at h2;rw[e a f d g,o0];exact List.lt_trans h1 h2;rw[e a f d g,o0]at h;rw[e a f b c,e b c d g,o0,o0];by_cases z:n a<n b;exact .inl z;have G:n b<=n a:=z;exact .inr<|List.lt_of_le_of_lt G h
theorem BE{k:Nat}{l:c8}{xs:List D}{F:List V}{its:List c4}{R:VK}(hr:Room k X.A)(I:p8 X pins σ H s)(sm:u8 X.K ρ M H)(so:SrtG M xs)(r:Reps X.K ρ H xs F)(P:aC F its)(Z:s.heap.IsList l its.toArray)(hz:F.length<=sizeLine)(h2:2<=its.length)(G:its.length<64)(E:l≠X.env.locals) (kk:∀v H',((∀Q:DK,(∀ys,ys.Perm xs->GS M ys->Q (.ref M.length) (M++[.lst ys]))->VQ X.K ρ H Q v H'))->R v H'):f9 (i3 X.prog X.w) X.A (call (.builtin "sorted") [.ref l]) (EP X pins σ R) X.xe s:=by
 obtain⟨m,O,hm⟩:=I.loc;have lw:=r.length;have li:=P.length;obtain⟨ol,f,_⟩:=id Z;have g:∀a o,(a,o)∈[]++(l,ol)::Att.ledger s.heap X.env.locals l↔a≠X.env.locals/\s.heap.get? a=a7 o:=λa o=>by rw[D5,z9,Att.mem_ledger];constructor;rintro(h|⟨h1,_,h3⟩);cases h;exact⟨E,f⟩;exact⟨h1,h3⟩;rintro⟨h1,h2⟩;by_cases z:a=l;subst z;rw[f]at h2;cases h2;exact .inl rfl;exact .inr ⟨h1,z,h2⟩
 refine kat_sorted (Att.fr_all O) (Att.news_ledger E f) Z h2 G λD e1 h' T N lt=>?_;have kp:∀b u,b≠X.env.locals->s.heap.get? b=a7 u->h'.get? b=a7 u:=λb u J e=>(N (b,u)<|A0 _<|(g b u).mpr ⟨J,e⟩).1;have L:D≠X.env.locals:=(N _ C6).2.1;have W:s.heap.get? D=a8:=by
  cases q:s.heap.get? D with
  |none=>rfl
  |some o=>exact n9 (lt (D,o)<|(g D o).mpr ⟨L,q⟩)<|D8 _
 have I':p8 X pins σ H { s with heap:=h' }:=I.keptF (t':=s.toks) kp O T.ns;have hu:X.A.in1.in1.units+t8<k4:=by have:=hr.un;have:t8=30:=rfl;show X.A.units+1+1+t8<k4;lia
 refine E5 (mf I' sm so r P h2 hu) (λκ s' hk=>?_) λ_ _ x=>x;obtain⟨rfl,B⟩:=hk;refine Srt.wp_run (n:=its.length) (c:=λi j=>if i<xs.length then(if j<xs.length then A8 M t8 (xs.getD i default) (xs.getD j default)else a9)else bt) (λi j C hi hj Y=>?_) _ (Srt.sort_bd<|by lia).1 ?_;refine B i j C hi hj ?_;rw[n5 (by lia),n5<|by lia]at Y;exact Y;have t:=Srt.All.run (c:=λi j=>if i<xs.length then(if j<xs.length then A8 M t8 (xs.getD i default) (xs.getD j default)else a9)else bt) _ (Srt.sort_bd (n:=its.length)<|by lia).2;obtain⟨o1,o2,o3⟩:=Fa so;have d:=Srt.sort_list xs (by lia) o1 o2 o3
 try dsimp only at d
 rw[show xs.length=its.length by lia]at d t ⊢;generalize Srt.run _ (Lh its.length)=p at t d ⊢;have hi:∀i∈p.toList,i<xs.length:=λi h=>by have:=t.mem_iff.mp h;rw[F7]at this;lia
 refine KasFin.intro T N (UpdF.head λq hq=>w9<|lt q hq) λh2 c F2 U=>?_;have r':=r.perm p.toList hi;have S:=P.perm p.toList (λi h=>by have:=hi i h;lia);have y:H D=a8:=C8.none I.hok W;refine⟨.ref D,_,I.laidF (t':=s.toks) (o:=.lst<|p.toList.map λi=>F.getD i .non) (λb u J e=>(U (b,u)<|A0 _<|(g b u).mpr ⟨J,e⟩).1) O F2.ns W y ⟨?_,_,c,S,(U _ C6).1⟩,rfl,kk _ _ λQ hQ=>VQ.laidL sm .refl r' y<|hQ _ d.1 d.2⟩;rw[u4];have:=d.1.length_eq;rw[u4]at this;lia
end
theorem p8.sqL_ne(I:p8 X pins σ H s)(h:Ki X.K H a xs):a≠X.env.locals:=by
 rcases h with h|⟨o,its,n,k,_⟩
 rcases h with h|⟨_,h⟩
 exact ae h I.free;exact ae h I.free;have:=v7<|I.mod.kin a o k;exact w9<|G0 this<|B9 I.ok.bsz I.ok.above
section
variable{X:Cx}
theorem AX(i:Room k X.A):nN X (.builtin "sorted") jY:=by
 rintro p s σ H vs us R I j ⟨ds,M,ρ,Q,m,rs,q,c⟩;unfold jY at q;split at q;obtain⟨xs,L,d,q⟩:=q;cases rs with
 |cons r1 rs =>
  cases rs;obtain⟨u,rfl,t⟩:=aC.one j;cases r1 with
  |ref e =>
   cases t;obtain⟨w,b,r⟩:=ax.seq m L e;obtain⟨its,f,l,z⟩:=I.list b;have C:=r.length;have y:=f.length;by_cases h2:its.length<2;refine rP l.isList h2 λD h' n a g B=>?_;refine⟨.ref D,_,I.laid (t':=s.toks) (o:=.lst w) g a ⟨z,its,n,f,B⟩,rfl,c _ _<|VQ.laidL m .refl r (I.hok.fresh a)<|q xs (MA _) ?_⟩;unfold GS
   match xs,(show xs.length<2 by lia) with
   | [],_=>exact NN
   | [x],_=>exact Pv _ _
   |_::_::_,hx=>simp at hx;lia
   have h:2<=its.length:=by lia
   have G:its.length<64:=by have:=d.len;lia
   exact BE i I m d r f l.isList z h G (I.sqL_ne b) λv H' x=>c v H'<|x Q q
 exact q.elim
end
structure ZA(z TI TO i1 i2:c8)(f1 f2:List c8):Prop where
 nd:[z,TI,TO,i1,i2].Nodup
 z1:z∉f1
 o1:TO∉f1
 y1:i2∉f1
 z2:z∉f2
 o2:TO∉f2
 x2:i1∉f2
section
variable{X:Cx}{pins:List (c8×c9)}{σ:St}{H:Hp}{s:e9}{h':d5}
theorem p8.turnedL{t':Nat}{fp:List c8}(I:p8 X pins σ H s)(h:∀b∈fp,ym X pins H b)(k:∀b o,b∉fp->s.heap.get? b=a7 o->h'.get? b=a7 o):p8 X pins σ H { s with heap:=h',toks:=t' }:=by
 have p:∀b u,H b=a7 u->b∉fp:=λb u e z=>by rw[(h b z).1]at e;cases e
 refine I.step (g':=s.gens) (d':=s.drawn) (ch:=fp) (λb d=>⟨(h b d).2.2.2.1,(h b d).2.1,(h b d).2.2.2.2.1,(h b d).2.2.2.2.2⟩) (λb o _ _ f e _=>k b o f e) (λb o _ _ f e _=>⟨o.slots,k b o f e⟩) (λ_ _ _ _ n=>n) (λb o f e=>⟨o,k b o f e⟩) (λ_ _ e=>e) (λ_ _ _ e=>e) (λb ps e=>⟨#[],by rw[e];simp⟩) (λm a=>?_) (λb u e=>?_) I.bare;obtain⟨o,es,i,B,r⟩:=a;exact⟨o,es,i,k _ o (λz=>(h _ z).2.1 rfl) B,r⟩;refine(I.hok b u e).stay (λc v f q=>k c v ?_ q) (λ_ q=>q) λ_ _ q=>q;rcases f with rfl|z;exact p _ u e;exact p _ _ z
end
noncomputable def zipD(xs ys:List D):List D:=(xs.zip ys).map λp=>.tup [p.1,p.2]
noncomputable def RowAt(M:t5)(x:D)(xs:List D)(ok:t5->Prop):Prop:=match x with
 |.tup ds=>xs=ds/\ok=λ_=>True
 |.ref n=>ax M n xs/\ok=λM=>ax M n xs
 |_=>False
section
variable{X:Cx}
noncomputable def mw(z:c5):D1:=λds M Q=>match ds with
 | [.str y]=>Q (.bl<|Nb z y) M
 |_=>False
theorem zP:Kw X "str.startswith" (Cn X.K mw):=by
 rintro p s σ H x xs v us R I g a ⟨z,ds,M,ρ,Q,c,m,f,q,k⟩;subst c;obtain⟨t,rfl⟩:=g;unfold mw at q;split at q
 first|have h:=Reps.inv_cons f|have h:=aC.inv_cons f
 clear f;obtain⟨_,_,rfl,r,f⟩:=h;cases f;cases r;obtain⟨u,rfl,t',rfl⟩:=aC.one a;exact PySem.SC.startswith ⟨.bl _,H,I,rfl,k _ H<|VQ.now m (.bl _) q⟩
 exact q.elim
noncomputable def rV(z:c5):D1:=λds M Q=>match ds with
 | [.str y]=>(y.length≠0/\z.length<=sizeLine/\(G6 z y).length<=sizeLine)/\Q (.ref M.length) (M++[.lst<|(G6 z y).map .str])
 |_=>False
theorem qL:∀(tk:Nat) (xs:List c5),aC (xs.map V.str) (strsFrom tk xs)
 |_,[]=>.nil
 |tk,x::xs=>.cons ⟨_,rfl⟩<|qL (tk+1) xs
theorem rT{K:u0}{ρ:List c8}{H:Hp}:∀xs:List c5,Reps K ρ H (xs.map D.str) (xs.map V.str)
 | []=>.nil
 |x::xs=>.cons (.str x)<|rT xs
theorem Cj:Kw X "str.split" (Cn X.K rV):=by
 rintro c s σ H x xs v us R I A w ⟨z,ds,M,ρ,Q,j,B,f,q,k⟩;subst j;obtain⟨t,rfl⟩:=A;unfold rV at q;split at q;rename_i y;obtain⟨⟨O,l,i⟩,q⟩:=q
 first|have a:=Reps.inv_cons f|have a:=aC.inv_cons f
 clear f;obtain⟨_,_,rfl,m,f⟩:=a;cases f;cases m;obtain⟨u,rfl,t',rfl⟩:=aC.one w;have n:∀(p:List c5) (us:List c4) (g:Nat),G6 z y=p->aC (p.map V.str) us->EP X c σ R (.ref s.heap.objs.size) { s with toks:=g,heap:=s.heap.push { cls:=.type "list",data:=.seq us.toArray } }:=λp us g e r=>by subst e;exact⟨.ref _,_,I.laid (t':=g) (o:=.lst<|(G6 z y).map V.str) (λb C q=>v5 _ q) (u6 _) ⟨by rw[u4];exact i,us,0,r,z6 _ rfl⟩,rfl,k _ _<|VQ.laidL B .refl (rT _) (I.hok.fresh<|u6 _) q⟩
 have h:(y.length==0)=bt:=by simpa using O
 cases h1:(decide (z.length<y.length)||decide (Mm z<Mm y));cases d:(OQ z y 0 z.length<|z.length+1).isEmpty;have e:G6 z y=Builtin.Str.partsBetween z (OQ z y 0 z.length<|z.length+1) y.length:=by unfold G6;rw[h1,d];rfl
 exact call_meets F.slot_str_split (l5 _ _ _) F.entry_str_split (F.args_str_split_2 _ _) (meets_str_split_sep z y t t' h1 h d l<|by rw[<-e];exact i)<|n _ _ _ e<|qL _ _;have e:G6 z y=[z]:=by unfold G6;rw[h1,d];rfl
 exact call_meets F.slot_str_split (l5 _ _ _) F.entry_str_split (F.args_str_split_2 _ _) (meets_str_split_not_found z y t t' h1 h d)<|n _ [.str z t] s.toks e<|.cons ⟨_,rfl⟩ .nil;have e:G6 z y=[z]:=by unfold G6;rw[h1];rfl
 exact call_meets F.slot_str_split (l5 _ _ _) F.entry_str_split (F.args_str_split_2 _ _) (meets_str_split_cannot_occur z y t t' h1)<|n _ [.str z t] s.toks e<|.cons ⟨_,rfl⟩ .nil;exact q.elim
end
section
variable{prog:c7}{w:c6}{A:e8}{E:c4->e9->Prop}{s:e9}
theorem uE{D:c8}{vs:List c4}{n:Nat}{Q:c4->e9->Prop}(B:s.heap.get? D=a7 (m6 "list" vs.toArray n))(h2:vs.length<2)(h:∀h' c,(∀b o,b≠D->s.heap.get? b=a7 o->h'.get? b=a7 o)->h'.get? D=a7 (m6 "list" vs.toArray c)->Q .none { s with heap:=h' }):f9 (i3 prog w) A (call (.builtin "list.sort") [.ref D]) Q E s:=by
 have f:vs.length<=sizeLine:=by rw[KY];lia
 refine J6 slot_list_sort (⟨_,B,rfl⟩) entry_list_sort ?_<|args_list_sort<|.ref D;rw[list_sort_plain];refine p6<|MZ B rfl<|p6<|Mx B rfl ?_ (by rw[x3];exact f)<|w5 _;obtain⟨k,e⟩:∃k,(s.heap.update D<|Fn λ_=>(#[]:Array c4)).get? D=a7 (m6 "list" #[] k):=⟨_,MB B λ_=>#[]⟩
 refine p6<|seqEpoch_at e rfl<|p6<|wpAny_newTuple (p6<|My (D7 ?_)<|w5 _) f;dsimp only;have g:vs.toArray.size<2:=by rw[x3];exact h2
 rw[n5 g,n5 g];refine p6<|q9 ?_;rw[StateT.run_pure];refine p6<|q9 ?_;dsimp only;generalize d:((s.heap.update D<|Fn λ_=>(#[]:Array c4)).push<|m6 "tuple" vs.toArray 0).push (m6 "list" #[] 0)=g3;have a:g3.get? D=a7 (m6 "list" #[] k):=by rw[<-d];exact v5 _<|v5 _ e
 have m:∀b o,b≠D->s.heap.get? b=a7 o->g3.get? b=a7 o:=λb o i q=>by rw[<-d];refine v5 _<|v5 _ ?_;rw[MM _ _ _ _ i];exact q
 refine p6<|seqEpoch_at a rfl ?_;have r:∀us:List c4,us.length<2->(us.toArray.zip us.toArray).map (·.2)=us.toArray:=λus hu=>by
  match us,hu with
  | [],_=>simp
  | [v],_=>simp
  |_::_::_,hu=>simp at hu;lia
 have t:(arrOf<|SortSt.mk' general' (vs.toArray.zip vs.toArray) #[] 7 a8).map (·.2)=vs.toArray:=r vs h2;rw[t];refine p6 (Mx a rfl ?_ (w5 _)<|by rw[x3];exact Nat.le_succ_of_le f);simp only[show failedOf (SortSt.mk' general' (vs.toArray.zip vs.toArray) #[] 7 a8)=a8 from rfl,bne_self_eq_false,A7,o6];obtain⟨j,l⟩:∃j,(g3.update D<|Fn λ_=>vs.toArray).get? D=a7 (m6 "list" vs.toArray j):=⟨_,MB a λ_=>vs.toArray⟩
 refine q9 ⟨_,rfl,h _ j (λb o i q=>?_) l⟩;rw[MM _ _ _ _ i];exact m b o i q
end
section
variable{X:Cx}{pins:List (c8×c9)}{σ:St}{H:Hp}{s:e9}{ρ:List c8}{M:t5}
theorem Ev{k:Nat}{D:c8}{xs:List L2.D}{P:List V}{its:List c4}{R:VK}{h1:d5}{tk n:Nat}{m:c5->Option c4}{A:e8}{E:c4->e9->Prop}(hr:Room k X.A)(hA:A.units<=X.A.units+4)(I:p8 X pins σ H s)(sm:u8 X.K ρ M H)(so:SrtG M xs)(r:Reps X.K ρ H xs P)(O:aC P its)(T:s.heap.Ns X.env.locals m) (N:h1.Ns X.env.locals m) (l:∀b u,b≠X.env.locals->s.heap.get? b=a7 u->h1.get? b=a7 u) (J:s.heap.get? D=a8) (F:D≠X.env.locals) (ho:h1.get? D=a7 (m6 "list" its.toArray n))(kk:∀v H',((∀Q:DK,(∀ys,ys.Perm xs->GS M ys->Q (.ref M.length) (M++[.lst ys]))->VQ X.K ρ H Q v H'))->R v H'):f9 (i3 X.prog X.w) A (call (.builtin "list.sort") [.ref D]) (λ_ s'=>EP X pins σ R (.ref D) s') E { s with heap:=h1,toks:=tk }:=by
 have lw:=r.length;have li:=O.length;have ai:=so.len;have L:H D=a8:=C8.none I.hok J;have y:∀b u,s.heap.get? b=a7 u->b≠D:=λb u e q=>by subst q;rw[J]at e;cases e
 by_cases h2:its.length<2;refine uE ho h2 λh' c G Y=>?_;have W:h'.Ns X.env.locals m:=by obtain⟨o,es,ep,e,aY⟩:=N;exact⟨o,es,ep,G _ _ (z8 F) e,aY⟩
 refine⟨.ref D,_,I.laidF (t':=tk) (o:=.lst P) (λb u g e=>G b u (y b u e)<|l b u g e) T W J L ⟨by rw[KY];lia,its,c,O,Y⟩,rfl,kk _ _ λQ S=>VQ.laidL sm .refl r L<|S xs (MA _) ?_⟩;unfold GS
 match xs,(show xs.length<2 by lia) with
 | [],_=>exact NN
 | [x],_=>exact Pv _ _
 |_::_::_,hx=>simp at hx;lia
 have z:2<=its.length:=by lia
 have f:∀a o,(a,o)∈Att.ledger h1 X.env.locals D↔a≠X.env.locals/\a≠D/\h1.get? a=a7 o:=λa o=>Att.mem_ledger;have U:UpdF D (m6 "list" its.toArray n) ([]++(D,m6 "list" its.toArray n)::Att.ledger h1 X.env.locals D) λo'=>(D,o')::Att.ledger h1 X.env.locals D:=UpdF.head λp hp=>((f p.1 p.2).mp hp).2.1;refine kat_lsort (s:={ s with heap:=h1,toks:=tk }) (vs:=its) (Att.fr_all N) (Att.news_ledger F ho) U rfl z (by lia) λe1 h' F' N'=>?_;have kp:∀b u,b≠X.env.locals->s.heap.get? b=a7 u->h'.get? b=a7 u:=λb u g e=>(N' (b,u)<|A0 _<|(f b u).mpr ⟨g,y b u e,l b u g e⟩).1;have I':p8 X pins σ H { s with heap:=h',toks:=tk }:=I.keptF (t':=tk) kp T F'.ns;have hu:A.in1.units+t8<k4:=by have:=hr.un;have:t8=30:=rfl;show A.units+1+t8<k4;lia
 refine E5 (mf I' sm so r O z hu) (λκ s' hk=>?_) λ_ _ x=>x;obtain⟨rfl,B⟩:=hk;refine Srt.wp_run (n:=its.length) (c:=λi j=>if i<xs.length then(if j<xs.length then A8 M t8 (xs.getD i default) (xs.getD j default)else a9)else bt) (λi j C hi hj hc=>?_) _ (Srt.sort_bd<|by lia).1 ?_;refine B i j C hi hj ?_;rw[n5 (by lia),n5<|by lia]at hc;exact hc;have t:=Srt.All.run (c:=λi j=>if i<xs.length then(if j<xs.length then A8 M t8 (xs.getD i default) (xs.getD j default)else a9)else bt) _ (Srt.sort_bd (n:=its.length)<|by lia).2;obtain⟨o1,o2,o3⟩:=Fa so;have d:=Srt.sort_list xs (by lia) o1 o2 o3
 try dsimp only at d
 rw[show xs.length=its.length by lia]at d t ⊢;generalize Srt.run _ (Lh its.length)=p at t d ⊢;have hi:∀i∈p.toList,i<xs.length:=λi h=>by have:=t.mem_iff.mp h;rw[F7]at this;lia
 refine KasFin.intro F' N' (UpdF.head λq hq=>((f q.1 q.2).mp hq).2.1) λh2 c F2 N2=>?_;have r':=r.perm p.toList hi;have Z:=O.perm p.toList (λi h=>by have:=hi i h;lia);refine⟨.ref D,_,I.laidF (t':=tk) (o:=.lst<|p.toList.map λi=>P.getD i .non) (λb u g e=>(N2 (b,u)<|A0 _<|(f b u).mpr ⟨g,y b u e,l b u g e⟩).1) T F2.ns J L ⟨?_,_,c,Z,(N2 _ C6).1⟩,rfl,kk _ _ λQ S=>VQ.laidL sm .refl r' L<|S _ d.1 d.2⟩;rw[u4];have:=d.1.length_eq;rw[u4]at this;rw[KY];lia
end
section
variable{K:u0}{ρ:List c8}{H:Hp}{M:t5}
theorem u8.laidM(S:u8 K ρ M H)(c:H p=a8)(ok:yk K (ρ++[p]) (v4 H p o) p mo):u8 K (ρ++[p]) (M++[mo]) (v4 H p o):=by
 have g:Grow K ρ H (ρ++[p]) (v4 H p o):=Grow.laidR c;have d:∀(n:Nat),ρ[n]?=a7 p->Ku M[n]?:=λn e=>by rcases S.tracked e with⟨o,q⟩|q;rw[c]at q;cases q;exact q
 refine⟨λn m a h t l=>?_,by rw[z5,z5,S.len];rfl,λn a i t l=>?_⟩;rcases bb t with f|⟨f,g1⟩
 rcases bb l with b|⟨b,j⟩
 exact(S.nd n m a h f b).elim (λz=>.inl z.more) λz=>.inr z.more;subst j;exact .inl (d n f).more;rcases bb l with b|⟨b,j⟩
 subst g1;exact .inr (d m b).more;exact n9 (f.trans b.symm) h;rcases bb t with f|⟨f,g1⟩
 have k:n<M.length:=by rw[<-S.len];exact(w6.mp f).1
 rw[G9 k]at l;exact(S.obj n a i f l).grow g<|S.keeps c f l;subst g1 f;rw[S.len,KP<|u6 _,L4]at l;simp at l;subst l;exact ok
theorem z0.writtenD(b:H p=a7 (.dK kv))(h:z0 K H a xs):z0 K (v4 H p o) a xs:=by
 rcases h with h|h;rcases h with h|⟨c,h⟩
 exact .inl (.inl<|by rw[am<|xz h b<|by intro z;cases z];exact h);exact .inl<|.inr ⟨c,by rw[am<|xz h b<|by intro z;cases z];exact h⟩;exact .inr h
theorem u8.writeD(S:u8 K ρ M H)(t:ρ[n]?=a7 a)(u:M[n]?=a7 (.dct kvs))(s:H a=a7 (.dK kv))(r:Reps K ρ H (kvs'.map (·.2)) vs'):u8 K ρ (M.set n<|.dct kvs') (v4 H a (.dK (iU (kvs'.map (·.1)) vs')))/\Grow K ρ H ρ (v4 H a (.dK (iU (kvs'.map (·.1)) vs'))):=by
 have g:Grow K ρ H ρ (v4 H a (.dK (iU (kvs'.map (·.1)) vs'))):=⟨ME,λ_ _ h=>z0.writtenD s h⟩
 have k:∀m,m≠n->(M.set n<|.dct kvs')[m]?=M[m]?:=λm e=>KH<|z8 e;have c:¬Ku M[n]?:=λ⟨_,z⟩=>by rw[u]at z;cases z
 refine⟨⟨λm l b i d f=>?_,by rw[J5];exact S.len,λm b o d f=>?_⟩,g⟩;have q:=S.nd m l b i d f;by_cases h1:m=n;subst h1;rw[k l<|z8 i];exact .inr<|q.resolve_left c;rw[k m h1];by_cases h2:l=n;subst h2;exact .inl<|q.resolve_right c;rw[k l h2];exact q;by_cases e:m=n;subst e;have j:b=a:=A6<|d.symm.trans t;subst j;rw[KO<|by rw[<-S.len];exact(w6.mp t).1]at f;cases f;exact⟨vs',aK,r.grow g⟩;rw[k m e]at f;by_cases j:b=a;subst j;have p:=(S.nd m n b e d t).resolve_right c;rw[f]at p;exact(S.obj m b o d f).grow g<|.inr p;exact(S.obj m b o d f).grow g<|.inl<|am j
noncomputable def fT(kvs:List (c5×D))(k:c5):Option D:=(kvs.find? λp=>decide<|p.1=k).map (·.2)
noncomputable def mz(kvs:List (c5×D))(k:c5)(d:D):List (c5×D):=if (kvs.any λp=>decide<|p.1=k)=a9 then kvs.map (λp=>if p.1=k then(p.1,d)else p)else kvs++[(k,d)]
theorem FP(a b:c5):decide ((ABX a:C7)=ABX b)=decide (a=b):=Ed a b
theorem ja:∀{kvs:List (c5×D)}{vs:List V},Reps K ρ H (kvs.map (·.2)) vs->fT kvs k=a7 d->∃v,vq (iU (kvs.map (·.1)) vs) (ABX k)=a7 v/\t9 K ρ H d v
 | [],_,_,e=>by simp[fT]at e
 |(k',d')::kvs,_,.cons h t,e=>by
  by_cases q:k'=k;subst q;have:d'=d:=by simpa [fT]using e
  subst this;exact⟨_,by simp[iU,vq],h⟩;have e':fT kvs k=a7 d:=by simpa [fT,KC,q]using e
  obtain⟨v,h1,h2⟩:=ja t e';refine⟨v,?_,h2⟩;have:¬(ABX k':C7)=ABX k:=λz=>q<|Sum.inr.inj z;simpa [iU,vq,KC,this]using h1
theorem wU:∀{kvs:List (c5×D)}{vs:List V},Reps K ρ H (kvs.map (·.2)) vs->((iU (kvs.map (·.1)) vs).any λkv=>decide<|kv.1=ABX k)=kvs.any λp=>decide (p.1=k)
 | [],_,_=>rfl
 |(k',d')::kvs,_,.cons h t=>by
  have ih:=wU (k:=k) t;show (decide ((ABX k':C7)=ABX k)||(iU (kvs.map (·.1)) _).any _)=(decide (k'=k)||kvs.any _)
  rw[ih,FP]
theorem wD(hd:t9 K ρ H d v):∀{kvs:List (c5×D)}{vs:List V},Reps K ρ H (kvs.map (·.2)) vs->∃vs',(iU (kvs.map (·.1)) vs).map (λkv=>if kv.1=ABX k then(kv.1,v)else kv)=iU ((kvs.map λp=>if p.1=k then(p.1,d)else p).map (·.1)) vs'/\Reps K ρ H ((kvs.map λp=>if p.1=k then(p.1,d)else p).map (·.2)) vs'
 | [],_,.nil=>⟨[],rfl,.nil⟩
 |(k',d')::kvs,_,.cons (v:=v') h t=>by obtain⟨vs',e,r⟩:=wD (k:=k) hd t;by_cases q:k'=k;subst q;refine⟨v::vs',?_,?_⟩;simp only[C0,o7,iU,MK]at e ⊢;rw[e];simp only[C0,o7];exact .cons hd r;have q':¬(ABX k':C7)=ABX k:=λz=>q<|Sum.inr.inj z;refine⟨v'::vs',?_,?_⟩;simp only[C0,n6 q,n6 q',iU,MK]at e ⊢;rw[e];simp only[C0,n6 q];exact .cons h r
theorem rQ:∀{kvs:List (c5×D)}{vs:List V},Reps K ρ H (kvs.map (·.2)) vs->iU (kvs.map (·.1)) vs++[(ABX k,v)]=iU (kvs.map (·.1)++[k]) (vs++[v])
 | [],_,.nil=>rfl
 |(k',d')::kvs,_,.cons h t=>by have:=rQ (k:=k) (v:=v) t;simp only[C0,iU,MK,On]at this ⊢;rw[this]
theorem zr(h:t9 K ρ H d v)(r:Reps K ρ H (kvs.map (·.2)) vs):∃vs',putK (iU (kvs.map (·.1)) vs) (ABX k) v=iU ((mz kvs k d).map (·.1)) vs'/\Reps K ρ H ((mz kvs k d).map (·.2)) vs':=by unfold putK mz;rw[wU r];by_cases q:(kvs.any λp=>decide<|p.1=k)=a9;rw[n5 q,n5 q];exact wD h r;rw[n6 q,n6 q];refine⟨vs++[v],?_,?_⟩;rw[rQ r,G1];rfl;rw[G1];exact r.append<|.cons h .nil
end
section
variable{X:Cx}{o i value:h8}{td ty tv:u9}{pos pos':i4}
noncomputable def Do:u9:=λ_ M Q=>Q (.ref M.length)<|M++[.dct []]
theorem JU:DE X (.Dict [] [] pos) Do:=by refine PE.imp BV ?_;rintro σ H R ⟨S,M,ρ,Q,s,e,q,k⟩;refine λp h=>?_;have j:Q (.ref M.length) (M++[.dct []]):=q;exact k _ _ ⟨.ref M.length,M++[.dct []],ρ++[p],s.laidM (mo:=.dct []) h ⟨[],aK,.nil⟩,Grow.laidR h,.ref s.last,j⟩
noncomputable def Dp(t c:u9):u9:=λS M Q=>t S M λx a=>c S a λy b=>match x,y with
 |.ref n,.str k=>∃s d,b[n]?=a7 (.dct s)/\fT s k=a7 d/\Q d b
 |_,_=>False
theorem JV(x:X.A.units+1<k4)(B:DE X o td)(hi:DE X i ty)(hs:GT i):DE X (.Subscript o i pos) (Dp td ty):=by
 refine PE.imp (ET x B hi hs) ?_;rintro σ H R ⟨S,M,ρ,Q,s,r,q,k⟩;refine⟨S,M,ρ,_,s,r,q,?_⟩;rintro v J ⟨d,h,c,I,g1,E,C⟩;refine⟨S,h,c,_,I,r.grow g1,C,?_⟩;rintro u K ⟨e,l,a,f,g,F,j⟩
 try dsimp only at j
 split at j;obtain⟨z,d,n,y,D⟩:=j;obtain⟨_,rfl,p⟩:=t9.inv_ref E;cases F;obtain⟨vs,m,G⟩:=f.obj _ _ _ (aE g.pre p) n;obtain⟨w,t,b⟩:=ja G y;exact⟨_,w,rfl,.inl ⟨_,ABX _,.inl m,rfl,t.symm⟩,k _ _ ⟨d,l,a,f,g1.trans g,b,D⟩⟩;exact j.elim
end
structure Ob(X:Cx)(es:List h8)(t:Ek):Prop where
 ok:Nz X es t
section
variable{X:Cx}{e a b c o i tg:h8}{es aY:List h8}{te ta tb tc to ti:u9}{t:F4}{pos p p2 pos':i4}{x:c5}{k:Nat}{g:Ix}{u:Ek}{name:c5}{apos cpos:i4}
theorem FC:Ob X [] nJ:=⟨Gq⟩
theorem CB(h1:HG X e g)(h2:Ob X es u)(hs:(j1 (e::es) X.env).map (·.2)=j0 e X.env::(j1 es X.env).map (·.2):=by kernel_rfl):Ob X (e::es) (cK g u):=⟨Di h1.ok h2.ok hs⟩
theorem IR(h:Ob X es u)(f:X.calm=a9:=by kernel_rfl)(a:(j1 es X.env).length=n:=by kernel_rfl)(c:(j1 es X.env).findIdx? (·.1)=a8:=by kernel_rfl):HG X (.Tuple es j pos) (nI n u):=⟨JN h.ok f a c⟩
theorem IS(B:HE X o to)(hi:HE X i ti)(f:∀v,j0 (.Subscript o i pos) X.env v=(do
   let ov <-i8 [v] (eval o X.env)
   let iv <-i8 [v,ov] (eval i X.env)
   standAt pos
   i8 [v,ov,iv] (setItem ov iv v)
   release [v,ov,iv] []):=by intro _;kernel_rfl):HG X (.Subscript o i pos) (Dj to ti):=⟨JO B.ok hi.ok f⟩
theorem Ec(i:HE X e te)(S:HG X tg g)(hs:swapsWithSole [tg] e pos.line X.env=pure bt:=by kernel_rfl)(w:swappedStores [tg] e X.env=pure a8:=by kernel_rfl)(h1:(j1 [tg] X.env).map (·.2)=[j0 tg X.env]:=by kernel_rfl):HS X (.Assign [tg] e pos) (dAsg te g):=⟨JL i.ok S.ok hs w h1⟩
theorem FU:F0 X (j7 .Add) aW:=⟨Fi⟩
theorem CS:HC X (.type "tuple") jw:=⟨Dr⟩
theorem Ay:Pc X "startswith" mw:=⟨_,PySem.F.slot_str_startswith,PySem.F.type_str_startswith,zP⟩
theorem CN:Pc X "split" rV:=⟨_,PySem.F.slot_str_split,PySem.F.type_str_split,Cj⟩
theorem Az:Pd X "extend" my:=⟨_,PySem.F.slot_list_extend,PySem.F.type_list_extend,xB⟩
theorem Ja:HE X (.Dict [] [] pos) Do:=⟨JU⟩
theorem BK(i:Room k X.A):X.A.units+1<k4:=by have:=i.un;lia
theorem Jb(r:Room k X.A)(B:HE X o to)(hi:HE X i ti)(hs:GT i:=by intro _ _;kernel_rfl):HE X (.Subscript o i pos) (Dp to ti):=⟨JV (BK r) B.ok hi.ok hs⟩
end
section
variable{X:Cx}
noncomputable def Hi(t:Nat)(s:List Nat)(wi:TI)(g:TG)(tt:TT)(te:TE)(N:TG):TS:=λD σ H=>O5 t s wi g tt te σ H λv a=>N v σ a D.nx
theorem BO(B:BlkSc X N' nt js scope)(hc:X.calm=a9)(hi:PI X tg iter wi)(hg:∀cl s0 H0 ex,PG (z7 X N' scope cl s0 H0 ex) tg g) (ht:∀cl s0 H0 ex,Ls (z7 X N' scope cl s0 H0 ex) ifs tt) (he:∀cl s0 H0 ex,PE (z7 X N' scope cl s0 H0 ex) elt te) (hn:PG X (.Name x pos') gN)(hs:∀x,j6 iter X.env x=pure x) (an:i9 (.ListComp elt [⟨tg,iter,ifs,0⟩] scope pos) (a7<|.Name x pos') pos2.line X.env=pure a9):PS X (.Assign [.Name x pos'] (.ListComp elt [⟨tg,iter,ifs,0⟩] scope pos) pos2) (Hi nt js wi g tt te gN):=by
 intro f s σ H Dn I h;rw[exec_Assign_Name_used _ _ _ _ an];refine p6<|wpAny_standAt ?_;obtain⟨cl,Y,j,E⟩:=kU (scope:=scope) (env:=X.env) λp l hf=>I.ok.has p.1<|B.free p l hf;refine p6<|show f9 (i3 X.prog X.w) X.A (comprehension (.ListComp elt [⟨tg,iter,ifs,0⟩] scope pos) scope X.env _ (newList []) bt (eval iter X.env) (a7<|j0 (.Name x pos') X.env) >>= λ_=>pure ()) _ _ _ from p6 ?_;refine wpAny_comprehension_free (use:=a7<|j0 (.Name x pos') X.env) (Q:=λ_ u=>f9 (i3 X.prog X.w) X.A (pure ()) (λ_ s3=>f9 (i3 X.prog X.w) X.A (pure Flow.next) (SP X f Dn) X.xe s3) X.xe u) rfl hs Y B.kind B.loc ?_;refine ve (hi f s σ H _ I h) λv s1 h1=>ve h1 λaD a h2=>?_;obtain⟨it,fp,tn,J,H2,e,m,T,U,M,W,⟨m0,w0⟩,N⟩:=h2;subst e;refine J7<|wpAny_newFunctionEnv B.nocell (by intro y hy;simp at hy) (λh1 F G=>?_) B.kind;have r:∀b∈fp,b<a.heap.objs.size:=λb i=>by obtain⟨o,e,_⟩:=T.obj _ _ U b i;exact v7 e
 have hC:(a.heap.push<|cS [] 0).objs.size=a.heap.objs.size+1:=K0 ..;have K:∀b o,(a.heap.push<|cS [] 0).get? b=a7 o->h1.get? b=a7 o:=λb o e=>(G.2 b<|w9<|v7 e).trans<|v5 _ e;have I3:=m.blkStart (tk:=a.toks+([]:List (c5×c4)).length) B j E M r K F;have L:tn 0 h1:=T.keep _ _ _ U λb _ o e=>K b o<|v5 _ e;have ai:a.heap.objs.size∉fp:=λz=>D8 _<|r _ z;have aj:a.heap.objs.size∉Kh X.stack:=λz=>by rcases z9.mp (m.stkSub _ z)with q|q;exact n9 m.lt (by rw[<-q];exact D8 _);exact m.nofs (u6 _) q
 have D:a.heap.objs.size≠(a.heap.push<|cS [] 0).objs.size:=by rw[hC];exact w9<|Kr _
 have ltc:∀z c,cl.lookup z=a7 c->c<a.heap.objs.size:=λz c e=>by obtain⟨v,q⟩:=m.cell z c<|j z c e;exact q.lt
 have t:∀b∈fp,b≠(a.heap.push<|cS [] 0).objs.size/\b∉Kh X.stack/\∀x c,cl.lookup x=a7 c->c≠b:=λb i=>by refine⟨by rw[hC];exact w9<|Mh<|r b i,λz=>?_,λx c e=>(M b i).2.2.2.2.1 x c<|j x c e⟩;rcases z9.mp (m.stkSub b z)with q|q;exact(M b i).2.1 q;exact(M b i).2.2.1 q
 have as:a.heap.objs.size<=(a.heap.push<|cS [] 0).objs.size:=by rw[hC];exact MY _
 have n:k6 (i3 X.prog X.w) X.A (.compLoop (.ListComp elt [⟨tg,iter,ifs,0⟩] scope pos) 0 (.ref it) (.ref a.heap.objs.size)<|compEnvC scope cl (a.heap.push<|cS [] 0).objs.size X.env) (compPost (i3 X.prog X.w) X.A X.xe (a7<|j0 (.Name x pos') X.env) (λ_ u=>f9 (i3 X.prog X.w) X.A (pure ()) (λ_ s3=>f9 (i3 X.prog X.w) X.A (pure Flow.next) (SP X f Dn) X.xe s3) X.xe u) (.ref a.heap.objs.size) (a.heap.push<|cS [] 0).objs.size) { a with heap:=h1,toks:=a.toks+([]:List (c5×c4)).length }:=by
  refine Ae (s0:={ a with heap:=a.heap.push (cS [] 0) }) (H0:=H2) (N':=N') (Q:=λv H1=>gN v σ H1 Dn.nx) hc (hg _ _ _ _) (ht _ _ _ _) (he _ _ _ _) T ai N t D aj (λx c e=>w9<|ltc x c e) ?_ m0 I3 L (λb i=>(M b i).1) w0;intro τ H' s' vs its k S rv hl q;obtain⟨mm,al,_⟩:=id S.loc;obtain⟨C,es,Z,eC,aY⟩:=id al;have I5:p8 X f σ (v4 H' a.heap.objs.size<|.lst vs) s':=m.blkEnd M S rv hl ⟨rfl,λ_ _=>rfl⟩;have fC:v4 H' a.heap.objs.size (.lst vs) (a.heap.push<|cS [] 0).objs.size=a8:=by rw[am<|z8 D];exact S.free
  have fk:∀R:Hp,R (a.heap.push<|cS [] 0).objs.size=a8->ym X f R (a.heap.push<|cS [] 0).objs.size:=λR hx=>m.fpOk as hx;have dC:∀v,C.data≠.cell v:=λv z=>by
   have:∃es Z,C.data=.dict es Z:=by
    first
     |(obtain⟨d,_⟩:=aY;exact⟨_,_,d⟩)
     |(obtain⟨_,d,_⟩:=aY;exact⟨_,_,d⟩)
     |(obtain⟨_,_,d,_⟩:=aY;exact⟨_,_,d⟩)
   obtain⟨_,_,d⟩:=this;rw[d]at z;cases z
  have I6:p8 X (f++[((a.heap.push<|cS [] 0).objs.size,C)]) σ (v4 H' a.heap.objs.size<|.lst vs) s':=I5.pins_of λp l=>by
   rcases C9.mp l with l|l;exact I5.pin p<|E3 _ l;have:p=((a.heap.push<|cS [] 0).objs.size,C):=by simpa using l
   subst this;exact⟨eC,fC,(fk _ fC).2.1,(fk _ fC).2.2.1,dC⟩
  refine ve (hn _ s' σ _ (.ref a.heap.objs.size) (.ref a.heap.objs.size) _ I6 rfl q) ?_;rintro _ s7 ⟨O,P,V,q7⟩;obtain⟨p1,p2,_⟩:=V.pin ((a.heap.push<|cS [] 0).objs.size,C)<|E3 _<|E3 _ C6;refine⟨mm,⟨C,es,Z,p1,aY⟩,λh' sb=>q9<|q9 ⟨O,P,?_,q7⟩⟩;have I8:p8 X f O P s7:=V.pins_of λp l=>V.pin p<|E3 _<|Ks _ l;refine I8.turnedL (t':=s7.toks) (fp:=[(a.heap.push<|cS [] 0).objs.size]) (λb i=>?_) λb o i e=>(sb.2 b<|by simpa using i).trans e;have:b=(a.heap.push<|cS [] 0).objs.size:=by simpa using i
  subst this;exact fk P p2
 exact codeAny_compStart_list n<|T.self _ 0 _ _ _ L n
noncomputable def ik(t:Nat)(s:List Nat)(b:Ky)(g:Ix)(tt:F5)(te:u9)(i:Nat):p9:=λE S M=>D2 t s b g tt te S M λd a=>ao i d S a E.nx
theorem Dd(B:BlkSc X N' nt js scope)(f:X.calm=a9)(hi:DI X tg iter di)(l:∀cl s0 H0 ex,DG (z7 X N' scope cl s0 H0 ex) tg g) (D:∀cl s0 H0 ex,Ls (z7 X N' scope cl s0 H0 ex) ifs<|lowT X.K tt) (j:∀cl s0 H0 ex,DE (z7 X N' scope cl s0 H0 ex) elt te) (n:DG X (.Name x pos') (ao i))(hs:∀x,j6 iter X.env x=pure x) (h:i9 (.ListComp elt [⟨tg,iter,ifs,0⟩] scope pos) (a7<|.Name x pos') pos2.line X.env=pure a9):DS X (.Assign [.Name x pos'] (.ListComp elt [⟨tg,iter,ifs,0⟩] scope pos) pos2) (ik nt js di g tt te i):=PS.imp (BO (g:=lowG X.K g) (tt:=lowT X.K tt) (te:=lowE X.K te) B f hi (λcl s0 H0 ex=>l cl s0 H0 ex) D (λcl s0 H0 ex=>j cl s0 H0 ex) n hs h) λE σ H ⟨S,M,ρ,F,s,e,q,k⟩ =>
  zV σ H _ ⟨S,M,ρ,_,s,e,q,λv p ⟨d,b,c,o,g1,r,m⟩=>⟨d,S,b,c,_,o,e.grow g1,r,m,λa H' w=>k.nx a H'<|SQ.trans g1 w⟩⟩
theorem Cw(a:X.N.Nodup)(hi:HI X tg iter di)(S:∀cl s0 H0 ex,HG (z7 X N' scope cl s0 H0 ex) tg g) (D:∀cl s0 H0 ex,MT (z7 X N' scope cl s0 H0 ex) ifs tt) (e:∀cl s0 H0 ex,HE (z7 X N' scope cl s0 H0 ex) elt te) (B:pe X.env.scope.names X.N N' nt js scope=a9:=by kernel_rfl) (f:X.calm=a9:=by kernel_rfl)(hs:∀x,j6 iter X.env x=pure x:=by intro _;kernel_rfl) (w:i9 (.ListComp elt [⟨tg,iter,ifs,0⟩] scope pos) (a7<|.Name x pos') pos2.line X.env=pure a9:=by kernel_rfl)(h:X.N[i]?=a7 x:=by kernel_rfl) (c:GP X.env.scope x=a9:=by kernel_rfl) (b:X.fn x=a9:=by kernel_rfl):HS X (.Assign [.Name x pos'] (.ListComp elt [⟨tg,iter,ifs,0⟩] scope pos) pos2) (ik nt js di g tt te i):=⟨Dd (BlkSc.chk B) f hi.ok (λcl s0 H0 ex=>(S cl s0 H0 ex).ok) (λcl s0 H0 ex=>(D cl s0 H0 ex).ok) (λcl s0 H0 ex=>(e cl s0 H0 ex).ok) (uV a h (zX c)<|.inl b) hs w⟩
end
theorem LZ:atI (a::r) 0=a7 a:=by have:=aA (xs:=a::r) (j:=0) (v:=a) rfl;simpa using this
theorem LI:atI (a::b::r) 1=a7 b:=by have:=aA (xs:=a::b::r) (j:=1) (v:=b) rfl;simpa using this
theorem N6:atI (a::b::c::r) 2=a7 c:=by have:=aA (xs:=a::b::c::r) (j:=2) (v:=c) rfl;simpa using this
theorem bg.lst(h:R (.ref M.length) (M++[.lst xs]))(f:M.length<=n)(e:(M++L)[n]?=a7 (.lst xs))(b:Bels M.length xs):bg M R (.ref n) (M++L):=.inr<|.inr ⟨M,n,xs,.refl,rfl,f,e,F9 _ _,b,h⟩
theorem bg.chg(c:K8 M M1)(h:R d M1)(b:A5 M.length d)(p:M1 <+: M'):bg M R d M':=.inr<|.inl ⟨M1,c,b,p,h⟩
theorem bg.chgL(c:K8 M M1)(h:R (.ref M.length) (M1++[.lst xs]))(f:M.length<=n)(e:M'[n]?=a7 (.lst xs))(p:M1 <+: M')(b:Bels M.length xs):bg M R (.ref n) M':=.inr<|.inr ⟨M1,n,xs,c,rfl,f,e,p,b,h⟩
theorem mj:(M++a::L).set M.length b=M++b::L:=by rw[Pm _ _<|u6 _];simp
theorem kw:(M++a::L)[M.length]?=a7 a:=by simp
theorem qx(I:List D->List D->SD->t5->Prop)(h0:∀acc S M,I [] acc S M->ok M/\Q (.ref M.length) (M++[.lst acc]))(h1:∀x xs acc S M,I (x::xs) acc S M->∀K:List D->SD->t5->Prop,(∀acc S M,I xs acc S M->K acc S M)->ok M/\g x S M λS2 M2=>tt S2 M2 λb M3=>if b=a9 then te S2 M3 λy M4=>acc.length<sizeLine/\K (acc++[y]) S2 M4 else K acc S2 M3):∀xs acc S M,I xs acc S M->ng ok g tt te Q xs acc S M
 | [],acc,S,M,h=>h0 acc S M h
 |x::xs,acc,S,M,h=>h1 x xs acc S M h _<|qx I h0 h1 xs
noncomputable def MQ:D->c5
 |.str x=>x
 |_=>Str.empty
theorem rY{ys:List D}{s:List c5}(h:ys.Perm (s.map D.str)):∃ns:List c5,ys=ns.map D.str/\ns.Perm s:=by
 refine⟨ys.map MQ,?_,?_⟩;rw[E2];have:∀y∈ys,(D.str ∘ MQ) y=y:=λy O=>by obtain⟨x,_,rfl⟩:=v6.mp<|h.mem_iff.mp O;rfl
 exact(OG this ▸ (List.map_id' ys).symm:ys=ys.map (D.str ∘ MQ));have:=h.map MQ;rw[E2]at this;have e:(MQ ∘ D.str)=id:=rfl
 rwa [e,Lv]at this
theorem wv:(mz kvs k d).length<=kvs.length+1/\1<=(mz kvs k d).length:=by unfold mz;by_cases q:(kvs.any λp=>decide<|p.1=k)=a9;rw[n5 q,u4];obtain⟨p,h,_⟩:=Kq.mp q;have:0<kvs.length:=List.length_pos_of_mem h;lia;rw[n6 q,z5,G8];lia
theorem wK:(M++a::b::L)[M.length+1]?=a7 b:=by rw[KP (by lia),show M.length+1-M.length=1 by lia];rfl
theorem BS{α:Type}(f:α->D)(g:D->α)(S:∀a,g (f a)=a){ys:List D}{l:List α}(h:ys.Perm (l.map f)):∃l':List α,ys=l'.map f/\l'.Perm l:=by
 refine⟨ys.map g,?_,?_⟩;rw[E2];have:∀y∈ys,(f ∘ g) y=y:=λy O=>by obtain⟨x,_,rfl⟩:=v6.mp<|h.mem_iff.mp O;show f (g<|f x)=f x;rw[S]
 exact(OG this ▸ (List.map_id' ys).symm:ys=ys.map (f ∘ g));have:=h.map g;rw[E2]at this;have e:(g ∘ f)=id:=funext S
 rwa [e,Lv]at this
section
variable{prog:c7}{w:c6}{A:e8}{E:c4->e9->Prop}{s:e9}
noncomputable def bh(w:c6):c9:={ cls:=.type "set",dict:=a8,data:=.set #[] 0 (.fresh 0 0<|!w.params.followText "set-order") }
theorem uX(a:c4)(h:Q₁ (.ref s.heap.objs.size) { s with heap:=s.heap.push (bh w) }):k6 (i3 prog w) A (.call (.builtin "set.__new__") ⟨[.type "set",a],[]⟩) (wants Q₁ E) s:=by
 refine codeAny_of_tree<|show f9 (i3 prog w) A.in1 (do checkBuiltinCall "set.__new__" ⟨[.type "set",a],[]⟩;again (.builtin "set.__new__" ⟨[.type "set",a],[]⟩)) _ _ s from ?_;refine p6<|wpAny_of_eq (F.newCall_set_1 a)<|q9 ⟨LO F.plain_set_new _,Lb F.entry_set_new ?_⟩;rw[LS F.plain_set_new _];have b:=sub_set_self;obtain⟨p,g,d,u,c⟩:=s;unfold Builtin.«set.__new__» Builtin.Frozenset.newClass;dsimp only
 wp_walk
 refine MG<|q9 ?_;simp only[newObj];exact p6<|wpAny_alloc<|q9<|q9 h
end
structure TxSrc(prog:c7)(w:c6)(h:d5)(l:c8)(T:String)(n:Nat)(P:Nat->c4->Prop):Prop where
 obj:∃o,h.get? l=a7 o/\o.cls=.type T
 ns:isSubtype (.type T) (.type "set")=pure bt
 nf:isSubtype (.type T) (.type "frozenset")=pure bt
 nd:(LK T==LK "dict")=bt
 iter:∀(A:e8) (s':e9),A.handled=a8->(∀o,h.get? l=a7 o->s'.heap.get? l=a7 o)->∃(oI:c9) (St:Nat->d5->Prop),(∀(E:c4->e9->Prop) (Q:c4->e9->Prop),Q (.ref s'.heap.objs.size) { s' with heap:=s'.heap.push oI }->f9 (i3 prog w) A (j4<|.ref l) Q E s') /\Walks prog w A s'.heap.objs.size [s'.heap.objs.size,l] [s'.heap.objs.size] n P St/\St 0 (s'.heap.push oI)
theorem ub:isSubtype (.type "tuple") (.type "set")=pure bt:=by rw[isSubtype_type];kernel_rfl
theorem rK:isSubtype (.type "tuple") (.type "frozenset")=pure bt:=by rw[isSubtype_type];kernel_rfl
theorem TxSrc.list(g:h.IsList l its):TxSrc prog w h l "list" its.size (λi v=>its[i]?=a7 v):=by
 refine⟨let ⟨o,e,c,_⟩:=g;⟨o,e,c⟩,F.sub_list_set,F.sub_list_frozenset,by decide,λA s' b k=>?_⟩;have a:s'.heap.IsList l its:=g.at k;have lt:l<s'.heap.objs.size:=let ⟨o,e,_⟩:=a;v7 e
 exact⟨_,_,λE Q q=>wpAny_pyIter_list a q,Walks.list b _ l (w9 lt) its,⟨_,z6 _ rfl,rfl,rfl⟩,a.push _⟩
theorem TxSrc.tuple(g:h.IsTuple l its):TxSrc prog w h l "tuple" its.size (λi v=>its[i]?=a7 v):=by
 refine⟨let ⟨o,e,c,_⟩:=g;⟨o,e,c⟩,ub,rK,by decide,λA s' b k=>?_⟩;have a:s'.heap.IsTuple l its:=let ⟨o,e,r⟩:=g;⟨o,k o e,r⟩
 have lt:l<s'.heap.objs.size:=let ⟨o,e,_⟩:=a;v7 e
 exact⟨_,_,λE Q q=>wpAny_pyIter_tuple a q,Walks.tuple b _ l (w9 lt) its,⟨_,z6 _ rfl,rfl,rfl⟩,let ⟨o,e,r⟩:=a;⟨o,v5 _ e,r⟩⟩
theorem bj:Slot "set_iterator" "__next__" "set_iterator.__next__":=.of (owner:="set_iterator") (n:="__next__") (by rw[NH,NT];kernel_rfl) (by decide +kernel) (by decide +kernel) (by decide +kernel) (by first|exact .inl (by decide +kernel)|exact .inr<|by decide +kernel)<|by rw[isSubtype_type];kernel_rfl
theorem fF:entryFor table "set_iterator.__next__" = a7 Builtin.«set_iterator.__next__»:=entryFor_of_tree<|by kernel_rfl
theorem mH:Manifest.owners.lookup (String.ofList ['r','o','t','a','r','e','t','i','_','t','e','s'].reverse)=a7 Manifest.sig_set_iterator:=by kernel_rfl
theorem gQ(a:c4):argsOk "set_iterator.__next__" ⟨[a],[]⟩:=by unfold argsOk;rw[signature?_of (id:="set_iterator.__next__") (n:=['_','_','t','x','e','n','_','_']) (o:=['r','o','t','a','r','e','t','i','_','t','e','s']) (by kernel_rfl) mH];kernel_rfl
theorem qq:entryFor table "set.__iter__" = a7 Builtin.«frozenset.__iter__»:=entryFor_alias (id':="frozenset.__iter__") (by kernel_rfl) rfl (by decide +kernel)<|by kernel_rfl
theorem kz{α:Type}:∀(l:List α) (i:Nat) (h:i<l.length),(l[i]::l.eraseIdx i).Perm l
 |x::l,0,_=>MA _
 |x::l,i+1,h=>by
  have h':i<l.length:=by simpa using h
  exact(List.Perm.swap x l[i]<|l.eraseIdx i).trans<|Oe x<|kz l i h'
theorem yg(f:n≠0)(h:∀i d,i<n->Q i { s with drawn:=d }):f9 M A (choose src n) Q E s:=by intro Γ p a;show Sem.wp M Γ (Sem.choose src n λi=>Sem.pure i) _ _ p s;rw[Sem.wp_choose];refine⟨f,?_⟩;rw[Sem.wp_pure];exact h _ _<|Nat.mod_lt _<|Nat.pos_of_ne_zero f
theorem sW{α:Type}{M:Model}{A:e8}{E:c4->e9->Prop}:∀(n:Nat) (xs:List α) (s:e9) (Q:List α->e9->Prop),xs.length=n->(∀ys d,ys.Perm xs->Q ys { s with drawn:=d })->f9 M A (drawOrder n xs) Q E s
 | 0,xs,s,Q,e,h=>by
  cases xs with
  |nil=>exact q9<|h [] s.drawn<|MA _
  |cons _ _=>cases e
 |n+1,[],s,Q,e,h=>by cases e
 |n+1,x::xs,s,Q,e,h=>by unfold drawOrder;refine p6<|yg (by simp) λi d hi=>?_;rw[v9 hi];refine p6<|sW n ((x::xs).eraseIdx i) { s with drawn:=d } _ (by rw[List.length_eraseIdx_of_lt hi];simp at e ⊢;lia) λys d' hp=>q9<|h _ d' ?_;exact(Oe _ hp).trans<|kz _ i hi
theorem mC{α:Type}(next:Nat->Nat)(xs:Array α):(m7 next xs).toList.Perm xs.toList:=by
 have o:∀(l k:Nat) (left:List α) (t:Array α),left.length=l->(pickOrder.go next l k left t).toList.Perm (t.toList++left):=by
  intro l;induction l with
  |zero =>
   intro k left t e;cases left with
   |nil=>simp[pickOrder.go]
   |cons _ _=>cases e
  |succ n i=>intro k left t e;have hi:next k % left.length<left.length:=Nat.mod_lt _ (by lia);unfold pickOrder.go;rw[v9 hi];dsimp only;refine(i (k+1) _ _<|by rw[List.length_eraseIdx_of_lt hi];lia).trans ?_;rw[Ow,F8];exact List.Perm.append_left _<|kz _ _ hi
 have:=o xs.size 0 xs.toList #[] (by simp);simpa [m7]using this
noncomputable def fB(first:c4)(i n:Nat)(a:c8)(ep:Nat):c9:={ cls:=.type "set_iterator",data:=.fields #[first,j5 i,.ref a,j5 n,j5 ep] }
structure SetAt(h:d5)(a:c8)(o:c9)(es:Array (Int×c4))(ep:Nat)(t:m8):Prop where
 ob:h.get? a=a7 o
 dt:o.data=.set es ep t
 ft:t.fits es.size=a9
section
variable{prog:c7}{w:c6}{A:e8}{E:c4->e9->Prop}{s:e9}{a it:c8}{o:c9}{es:Array (Int×c4)}{ep:Nat}{t:m8}
theorem oR(c:A.handled=a8)(h:∀h' e,(∀b o,s.heap.get? b=a7 o->h'.get? b=a7 o)->(∃o,h'.get? e=a7 o/\o.cls=.type "StopIteration")->F (.ref e) { s with heap:=h' }):f9 (i3 prog w) A (do raiseNew (<-newExc (.type "StopIteration") []):Sem Fin) Q F s:=by refine p6 ?_;simp only[newExc,newTuple];refine p6 (J7 (p6 (m:=m9 _ _)<|wpAny_of_eq (a:=Kz) (by first|rfl|(simp only[m9];rfl))<|J7 ?_<|by size_fits)<|by size_fits);simp only[raiseNew];refine p6<|wpAny_handled ?_;rw[c];exact p6<|q9<|wpAny_throw<|h _ _ (λb o e=>v5 _<|v5 _ e) ⟨_,z6 _ rfl,rfl⟩
theorem mL{slot i next:Nat}{x:c4}{Q:Option c4->e9->Prop}(I:s.heap.get? it=a7 (fB (j5 slot) i es.size a ep))(S:SetAt s.heap a o es ep t)(f:∀(A:e8) (E:c4->e9->Prop) (Q:Option (c4×Nat)->e9->Prop),Q (a7 (x,next)) s->f9 (i3 prog w) A (setNext a slot i ep) Q E s)(b:∀h',h'.get? it=a7 (fB (j5 next) (i+1) es.size a ep)->Lm it s.heap h'->Q (a7 x) { s with heap:=h' }):f9 (i3 prog w) A (j2<|.ref it) Q E s:=by
 have n:s.TypeIs (.ref it) "set_iterator":=⟨_,I,rfl⟩
 unfold j2;refine p6<|LN<|Lp (name:=AA0 "__next__") n bj<|J6 bj n fF ?_<|gQ _;unfold Builtin.«set_iterator.__next__»;refine p6<|q9<|p6<|La I rfl ?_;dsimp only[fB,j5];refine p6<|NQ S.ob S.dt S.ft ?_;rw[n6<|by simp];refine p6<|f _ _ _ ?_;dsimp only;refine p6<|Lx I rfl (by simp)<|p6<|Lx (Kt _ I rfl) rfl (by simp)<|q9 ⟨x,rfl,q9<|b _ ?_<|(KF ..).trans<|KF ..⟩;refine(Kt _ (Kt _ I rfl) rfl).trans ?_;simp[fB,Mw,j5]
theorem fx{slot i:Nat}{Q:Option c4->e9->Prop}(g:A.handled=a8)(I:s.heap.get? it=a7 (fB (j5 slot) i es.size a ep))(S:SetAt s.heap a o es ep t)(j:∀(A:e8) (E:c4->e9->Prop) (Q:Option (c4×Nat)->e9->Prop),Q a8 s->f9 (i3 prog w) A (setNext a slot i ep) Q E s)(h:∀h',(∀b o,b≠it->s.heap.get? b=a7 o->h'.get? b=a7 o)->Q a8 { s with heap:=h' }):f9 (i3 prog w) A (j2<|.ref it) Q E s:=by
 have n:s.TypeIs (.ref it) "set_iterator":=⟨_,I,rfl⟩
 unfold j2;refine p6<|LN<|Lp (name:=AA0 "__next__") n bj<|J6 bj n fF ?_<|gQ _;unfold Builtin.«set_iterator.__next__»;refine p6<|q9<|p6<|La I rfl ?_;dsimp only[fB,j5];refine p6<|NQ S.ob S.dt S.ft ?_;rw[n6<|by simp];refine p6<|j _ _ _ ?_;dsimp only;refine p6<|Lx I rfl (by simp) ?_;refine oR (by simp[g]) ?_;rintro h' e k ⟨m,c,f⟩;refine p6<|MF (T:="StopIteration") (b:=a9) ⟨m,c,f⟩ isSubtype_stop<|q9<|h h' λb l d L=>k b l ?_;exact((KF ..).2 b d).trans L
theorem xy{tt:c8}{ps:List Nat}{i j:Nat}{e:Int×c4}{Q:Option c4->e9->Prop}(I:s.heap.get? it=a7 (fB (.ref tt) i es.size a ep))(B:s.heap.IsTuple tt (ps.map λ(k:Nat)=>j5 k).toArray)(S:SetAt s.heap a o es ep t)(L:ps[i]?=a7 j) (d:es[j]?=a7 e) (c:∀h',h'.get? it=a7 (fB (.ref tt) (i+1) es.size a ep)->Lm it s.heap h'->Q (a7 e.2) { s with heap:=h' }):f9 (i3 prog w) A (j2<|.ref it) Q E s:=by
 have n:s.TypeIs (.ref it) "set_iterator":=⟨_,I,rfl⟩
 obtain⟨g,b,_,f,h⟩:=B;unfold j2;refine p6<|LN<|Lp (name:=AA0 "__next__") n bj<|J6 bj n fF ?_<|gQ _;unfold Builtin.«set_iterator.__next__»;refine p6<|q9<|p6<|La I rfl ?_;dsimp only[fB,j5];refine p6<|NQ S.ob S.dt S.ft ?_;rw[n6<|by simp];refine p6<|L7 b h ?_;have x:(ps.map λ(k:Nat)=>j5 k).toArray[i]?=a7 (.int j 0):=by simp[L,j5]
 simp only[LB,x];unfold setNextDrawn;refine p6<|p6<|Ld S.ob S.dt S.ft ?_;simp only[bne_self_eq_false,A7,o6,d];refine q9<|p6<|Lx I rfl (by simp)<|q9 ⟨_,rfl,q9<|c _ ?_<|KF ..⟩;refine(Kt _ I rfl).trans ?_;simp[fB,Mw,j5]
theorem nC{tt:c8}{ps:List Nat}{i:Nat}{Q:Option c4->e9->Prop}(l:A.handled=a8)(I:s.heap.get? it=a7 (fB (.ref tt) i es.size a ep))(B:s.heap.IsTuple tt (ps.map λ(k:Nat)=>j5 k).toArray)(S:SetAt s.heap a o es ep t)(m:ps[i]?=a8) (d:∀h',(∀b o,b≠it->s.heap.get? b=a7 o->h'.get? b=a7 o)->Q a8 { s with heap:=h' }):f9 (i3 prog w) A (j2<|.ref it) Q E s:=by
 have n:s.TypeIs (.ref it) "set_iterator":=⟨_,I,rfl⟩
 obtain⟨v,c,_,u,h⟩:=B;unfold j2;refine p6<|LN<|Lp (name:=AA0 "__next__") n bj<|J6 bj n fF ?_<|gQ _;unfold Builtin.«set_iterator.__next__»;refine p6<|q9<|p6<|La I rfl ?_;dsimp only[fB,j5];refine p6<|NQ S.ob S.dt S.ft ?_;rw[n6<|by simp];refine p6<|L7 c h ?_;have x:(ps.map λ(k:Nat)=>j5 k).toArray[i]?=a8:=by simpa using m
 simp only[LB,x];refine p6<|Lx I rfl (by simp)<|p6<|Lx (Kt _ I rfl) rfl (by simp) ?_;refine oR (by simp[l]) ?_;rintro h' e p ⟨r,j,g⟩;refine p6<|MF (T:="StopIteration") (b:=a9) ⟨r,j,g⟩ isSubtype_stop<|q9<|d h' λb q f L=>p b q ?_;exact(((KF ..).trans<|KF ..).2 b f).trans L
end
end L2
namespace L2
theorem nodup_le{α:Type}[DecidableEq α]:∀(l xs:List α),l.Nodup->(∀x∈l,x∈xs)->l.length<=xs.length
 | [],xs,_,_=>w5 _
 |a::l,xs,nd,h=>by have ha:a∈xs:=h a C6;have nd':=Lc.mp nd;have ih:=nodup_le l (xs.erase a) nd'.2 λx hx=>(List.mem_erase_of_ne<|show x≠a from λz=>nd'.1<|by rw[<-z];exact hx).mpr<|h x<|A0 _ hx;rw[List.length_erase_of_mem ha]at ih;have:0<xs.length:=List.length_pos_of_mem ha;rw[C2];lia
end L2
namespace Ht
open PySem
noncomputable def Nq(m:Nat)(p:L6):L6:=if p.more > 0 then { p with j:=p.j+1,more:=p.more-1 } else
 { p with j:=(LM m p.i p.perturb).1,more:=I0 m (LM m p.i p.perturb).1-(LM m p.i p.perturb).1,i:=(LM m p.i p.perturb).1,perturb:=(LM m p.i p.perturb).2 }
noncomputable def jW(m i t:Nat):L6:={ j:=i,more:=I0 m i-i,i,perturb:=t,dummy:=a8 }
noncomputable def me(m:Nat)(p:L6):Nat->L6
 | 0=>p
 |n+1=>Nq m<|me m p n
noncomputable def sq(m:Nat)(h:Int)(n:Nat):L6:=me m (jW m (Ln h % (m+1))<|Ln h) n
theorem rL(m:Nat)(p:L6)(a b:Nat):me m p (a+b)=me m (me m p a) b:=by
 induction b with
 |zero=>rfl
 |succ b i=>rw[Nat.add_succ,me,i];rfl
theorem Hu(m i:Nat):I0 m i-i<=9:=by unfold I0;split<;>lia
theorem Au(m i pt:Nat):∀k,k<=I0 m i-i->me m (jW m i pt) k={ j:=i+k,more:=I0 m i-i-k,i,perturb:=pt,dummy:=a8 }
 | 0,_=>by simp[me,jW]
 |k+1,h=>by rw[me,Au m i pt k<|by lia];unfold Nq;rw[n5<|show I0 m i-i-k > 0 by lia];simp only[SetTable.Probe.mk.injEq,true_and,and_true];lia
theorem Ch(m i t:Nat):me m (jW m i t) (I0 m i-i+1)=jW m (LM m i t).1 (LM m i t).2:=by rw[me,Au m i t _<|u6 _];unfold Nq;rw[n6<|show ¬I0 m i-i-(I0 m i-i) > 0 by lia];rfl
noncomputable def fg(m:Nat)(h:Int):Nat->Nat×Nat
 | 0=>(Ln h % (m+1),Ln h)
 |k+1=>LM m (fg m h k).1 (fg m h k).2
noncomputable def fJ(m:Nat)(h:Int):Nat->Nat
 | 0=>0
 |k+1=>fJ m h k+(I0 m (fg m h k).1-(fg m h k).1+1)
theorem Dv(m:Nat)(h:Int)(k:Nat):fJ m h k<=10*k:=by
 induction k with
 |zero=>exact u6 _
 |succ k i=>have:=Hu m (fg m h k).1;unfold fJ;lia
theorem DM(m:Nat)(h:Int)(k:Nat):sq m h (fJ m h k)=jW m (fg m h k).1 (fg m h k).2:=by
 induction k with
 |zero=>rfl
 |succ k i=>unfold sq at i ⊢;unfold fJ;rw[rL,i,Ch];rfl
theorem zd(m:Nat)(h:Int)(k r:Nat)(i:r<=I0 m (fg m h k).1-(fg m h k).1):(sq m h<|fJ m h k+r).j=(fg m h k).1+r:=by have e:=DM m h k;unfold sq at e ⊢;rw[rL,e,Au _ _ _ _ i]
theorem GE(h:Int):Ln h<2 ^ 64:=by unfold Ln;have a:=Int.emod_nonneg h (show (2 ^ 64:Int)≠0 by decide);have h1:=Int.emod_lt_of_pos h (show (0:Int)<2 ^ 64 by decide);lia
theorem oV(m:Nat)(h:Int):∀k,(fg m h k).2=Ln h / 32 ^ k
 | 0=>by simp[fg]
 |k+1=>by show (fg m h k).2 / 32=_;rw[oV m h k,Nat.div_div_eq_div_mul,<-Nat.pow_succ]
theorem rX(m:Nat)(h:Int)(k:Nat)(a:13<=k):(fg m h k).2=0:=by
 rw[oV];apply Nat.div_eq_of_lt;have h1:=GE h;have h2:32 ^ 13<=32 ^ k:=Nat.pow_le_pow_right (by decide) a;have b:(2:Nat) ^ 64<32 ^ 13:=by decide
 lia
noncomputable def vm(m i:Nat):Nat:=(i*5+1) % (m+1)
noncomputable def ca(m i:Nat):Nat->Nat
 | 0=>i
 |k+1=>vm m<|ca m i k
theorem eZ(m i a b:Nat):ca m i (a+b)=ca m (ca m i a) b:=by
 induction b with
 |zero=>rfl
 |succ b h=>rw[Nat.add_succ,ca,h];rfl
theorem ud(m:Nat)(h:Int)(r:Nat):(fg m h<|13+r).1=ca m (fg m h 13).1 r:=by
 induction r with
 |zero=>rfl
 |succ r i=>show (LM m (fg m h<|13+r).1 (fg m h<|13+r).2).1=vm m (ca m (fg m h 13).1 r);rw[rX m h _ (by lia),i];rfl
theorem ue(m:Nat)(h:Int):∀k,(fg m h k).1<=m
 | 0=>Nat.lt_succ_iff.mp<|Nat.mod_lt _<|Nat.succ_pos _
 |k+1=>Nat.lt_succ_iff.mp<|Nat.mod_lt _<|Nat.succ_pos _
noncomputable def GU(m:Nat):Prop:=ca m 0 (m+1)=0/\∀s,s<=m->∃k,k<=m/\ca m 0 k=s
noncomputable def um(m:Nat):Nat->Nat->List Nat
 | 0,_=>[]
 |n+1,i=>i::um m n (vm m i)
theorem mI(m:Nat):∀(n i k:Nat),k<n->(um m n i)[k]?=a7 (ca m i k)
 | 0,_,_,h=>n9 h<|Lz _
 |n+1,i,0,_=>rfl
 |n+1,i,k+1,h=>by rw[um,Pu,mI m n (vm m i) k (by lia),<-show ca m (ca m i 1) k=ca m i (k+1)from by rw[<-eZ,Nat.add_comm]];rfl
theorem uQ(m:Nat)(h:((um m (m+2) 0)[m+1]?==a7 0&&(A2<|m+1).all λs=>(um m (m+1) 0).contains s)=a9):GU m:=by
 rw[C5,o5,E6]at h;refine⟨?_,λs hs=>?_⟩;have:=mI m (m+2) 0 (m+1) (by lia);rw[h.1]at this;exact(A6 this).symm;have:=h.2 s (F7.mpr<|by lia);rw[List.contains_iff_mem]at this;obtain⟨k,a⟩:=Lo this;have g:k<m+1:=by
  have:=(w6.mp a).1;have B:∀n i,(um m n i).length=n:=by
   intro n;induction n with
   |zero=>intro i;rfl
   |succ n b=>intro i;simp[um,b]
  rw[B]at this;exact this
 rw[mI m _ 0 k g]at a;exact⟨k,by lia,A6 a⟩
theorem full7:GU 7:=uQ 7<|by decide +kernel
theorem Jx:GU 31:=uQ 31<|by decide +kernel
theorem FX:GU 127:=uQ 127<|by decide +kernel
theorem AG(F:GU m)(hi:i<=m)(hs:s<=m):∃k,k<=m/\ca m i k=s:=by obtain⟨a,f,c⟩:=F.2 i hi;obtain⟨b,d,L⟩:=F.2 s hs;by_cases h:a<=b;refine⟨b-a,by lia,?_⟩;rw[<-c,<-eZ,show a+(b-a)=b by lia];exact L;refine⟨m+1-a+b,by lia,?_⟩;rw[<-c,<-eZ,show a+(m+1-a+b)=(m+1)+b by lia,eZ,F.1];exact L
noncomputable def nM(m:Nat):Prop:=m=7\/m=31\/m=127
theorem nM.full(h:nM m):GU m:=by rcases h with rfl|rfl|rfl;exact full7;exact Jx;exact FX
theorem Ei(d:nM m)(h:Int)(hs:s<=m):∃k,k<=m+13/\(fg m h k).1=s:=by obtain⟨r,i,e⟩:=AG d.full (ue m h 13) hs;exact⟨13+r,by lia,by rw[ud];exact e⟩
theorem EC(d:nM m)(h:Int)(hs:s<=m):∃n,n<10*(m+15)/\(sq m h n).j=s:=by obtain⟨k,a,e⟩:=Ei d h hs;refine⟨fJ m h k,by have:=Dv m h k;lia,?_⟩;rw[DM];exact e
theorem Hn(h:Int):∀n,∃k r,r<=I0 m (fg m h k).1-(fg m h k).1/\n=fJ m h k+r
 | 0=>⟨0,0,w5 _,rfl⟩
 |n+1=>by obtain⟨k,r,hr,e⟩:=Hn (m:=m) h n;by_cases q:r<I0 m (fg m h k).1-(fg m h k).1;exact⟨k,r+1,q,by lia⟩;exact⟨k+1,0,w5 _,by rw[fJ];lia⟩
theorem zc(h:Int)(n:Nat):(sq m h n).j<=m:=by obtain⟨k,r,i,e⟩:=Hn (m:=m) h n;rw[e,zd m h k r i];have:=ue m h k;unfold I0 at i;split at i<;>lia
theorem below_spec(xs:Array Nat)(v:xs.toList.Pairwise (· < ·))(j:Nat):D4 xs j<=xs.size/\(∀k (h:k<xs.size),k<D4 xs j->xs[k]<j)/\∀k (h:k<xs.size),D4 xs j<=k->j<=xs[k]:=by
 have m:∀a b (g:a<xs.size) (i:b<xs.size),a<b->xs[a]<xs[b]:=λa b g i h=>by have:=OV.mp v a b (by simpa using g) (by simpa using i) h;simpa using this
 have r:∀(l o hi:Nat),o<=hi->hi<=xs.size->hi-o<=l->(∀k (h:k<xs.size),k<o->xs[k]<j)->(∀k (h:k<xs.size),hi<=k->j<=xs[k]) -> MH xs j l o hi<=xs.size/\(∀k (h:k<xs.size),k<MH xs j l o hi->xs[k]<j)/\∀k (h:k<xs.size),MH xs j l o hi<=k->j<=xs[k]:=by
  intro l;induction l with
  |zero =>
   intro o hi h1 h2 s f c;have:o=hi:=by lia
   subst this;exact⟨h2,f,c⟩
  |succ l n =>
   intro o hi h1 h2 s f c;unfold MH;by_cases h:o<hi;rw[n5 h];have e:(o+hi) / 2<xs.size:=by lia
   have p:xs.getD ((o+hi) / 2) j=xs[(o+hi) / 2]:=by simp[KU,e]
   simp only[p];by_cases q:xs[(o+hi) / 2]<j;rw[n5 q];refine n _ _ (by lia) h2 (by lia) (λk d u=>?_) c;rcases KM k ((o+hi) / 2)with z|z;exact Nat.lt_trans (m k _ d e z) q;have:k=(o+hi) / 2:=by lia
   subst this;exact q;rw[n6 q];refine n _ _ (by lia) (by lia) (by lia) f λk d t=>?_;rcases KM ((o+hi) / 2) k with z|z;exact B9 (Lu.mp q)<|Mu<|m _ k e d z;have:k=(o+hi) / 2:=by lia
   subst this;exact Lu.mp q;rw[n6 h];have:o=hi:=by lia
   subst this;exact⟨h2,f,c⟩
 exact r xs.size 0 xs.size (w5 _) (u6 _) (by lia) (λk _ h=>n9 h<|Lz _) λk h h'=>n9 h<|Lu.mpr h'
theorem below_at(r:xs.toList.Pairwise (· < ·))(h:xs[i]?=a7 j):D4 xs j=i:=by
 obtain⟨hi,e⟩:=Lr.mp h;obtain⟨g,c,u⟩:=below_spec xs r j;have m:∀a b (f:a<xs.size) (d:b<xs.size),a<b->xs[a]<xs[b]:=λa b f d h=>by have:=OV.mp r a b (by simpa using f) (by simpa using d) h;simpa using this
 rcases MI (D4 xs j) i with q|q|q;have d:D4 xs j<xs.size:=by lia
 have:=u _ d<|u6 _;have:=m _ i d hi q;lia;exact q;have:=c i hi q;lia
theorem slot_live{t:m8}(r:t.place.toList.Pairwise (· < ·)){i j:Nat}(h:t.place[i]?=a7 j):t.slot j=.live i:=by unfold SetTable.slot;simp only[below_at r h];rw[n5<|by rw[h];simp]
theorem xo{t:m8}(d:t.dummies = #[]){j:Nat}(h:j∉t.place.toList):t.slot j=.empty:=by
 unfold SetTable.slot;have e:¬(t.place[D4 t.place j]?==a7 j)=a9:=λz=>h (by rw[o5]at z;have:=Array.mem_of_getElem? z;simpa using this);have l:SetTable.has t.dummies j=bt:=by rw[d];rfl
 simp only[e,o6,l,A7]
theorem go_spec{t:m8}(r:t.place.toList.Pairwise (· < ·))(x:t.dummies = #[])(hashAt:Nat->Int)(h:Int):∀(fuel n N:Nat),n<=N->N<n+fuel->(sq t.mask h N).j∉t.place.toList->(∀k,n<=k->k<N->(sq t.mask h k).j∈t.place.toList) ->(∀k,(sq t.mask h k).dummy=a8) ->((∀k i,n<=k->k<N->t.place[i]?=a7 (sq t.mask h k).j->hashAt i≠h)/\Pf t hashAt h fuel (sq t.mask h n)=a7 (.empty (sq t.mask h N).j a8)) \/∃n' i,n<=n'/\n' < N/\t.place[i]?=a7 (sq t.mask h n').j/\hashAt i=h/\(∀k i,n<=k->k<n'->t.place[i]?=a7 (sq t.mask h k).j->hashAt i≠h)/\Pf t hashAt h fuel (sq t.mask h n)=a7 (.candidate (sq t.mask h n').j i<|sq t.mask h<|n'+1):=by
 intro fuel;induction fuel with
 |zero=>intro n N h1 h2;lia
 |succ fuel A =>
  intro n N h1 h2 g l m;unfold Pf;by_cases e:n=N;subst e;rw[xo x g];exact .inl ⟨λk i a b=>by lia,by rw[m]⟩;have y:=l n (u6 _) (by lia);obtain⟨i,hi⟩:=Lo y;have d:t.place[i]?=a7 (sq t.mask h n).j:=by rw[<-G3];exact hi
  rw[slot_live r d];dsimp only;have u:∀i',t.place[i']?=a7 (sq t.mask h n).j->i'=i:=λi' z=>by rw[<-below_at r z,below_at r d]
  by_cases q:hashAt i=h;simp only[o5,q,o7];exact .inr ⟨n,i,u6 _,by lia,d,q,λk i a b=>by lia,rfl⟩;simp only[o5,q,o6];rcases A (n+1) N (by lia) (by lia) g (λk a b=>l k (by lia) b) m with⟨B,C⟩|⟨n',i',F,o,p,s,v,w⟩
  refine .inl ⟨λk i' a b c=>?_,C⟩;rcases KM n k with z|z;exact B k i' z b c;have:k=n:=by lia
  subst this;rw[u i' c];exact q;refine .inr ⟨n',i',by lia,o,p,s,λk f a b c=>?_,w⟩;rcases KM n k with z|z;exact v k f z b c;have:k=n:=by lia
  subst this;rw[u f c];exact q
theorem sq_dummy(m:Nat)(h:Int):∀n,(sq m h n).dummy=a8
 | 0=>rfl
 |n+1=>by show (Nq m<|sq m h n).dummy=a8;unfold Nq;split;exact sq_dummy m h n;exact sq_dummy m h n
structure TOk(t:m8)(hs:List Int):Prop where
 msk:nM t.mask
 len:t.place.size=hs.length
 nod:t.dummies = #[]
 ris:t.place.toList.Pairwise (· < ·)
 rng:∀j∈t.place.toList,j<=t.mask
 few:t.place.size*5<t.mask*3
 path:∀(i:Nat) (h:Int) (j:Nat),hs[i]?=a7 h->t.place[i]?=a7 j->∃n,(sq t.mask h n).j=j/\∀n',n' < n->(sq t.mask h n').j∈t.place.toList
theorem AD{m:Nat}{l:List Nat}(n:l.Nodup)(i:∀j∈l,j<=m)(g:l.length<=m):∃j,j<=m/\j∉l:=by refine Lq λf=>?_;have a:∀j∈A2 (m+1),j∈l:=λj L=>Lq λh=>f ⟨j,by have:=F7.mp L;lia,h⟩;have:=L2.nodup_le (A2<|m+1) l List.nodup_range a;rw[Ng]at this;lia
theorem uR{m:Nat}(f:nM m){l:List Nat}(i:l.Nodup)(r:∀j∈l,j<=m)(g:l.length<=m)(h:Int):∃N,N<10*(m+15)/\(sq m h N).j∉l/\∀k,k<N->(sq m h k).j∈l:=by
 obtain⟨s,hs,u⟩:=AD i r g;obtain⟨n,o,M⟩:=EC f h hs;have:∀b n,n<b->(sq m h n).j∉l->∃N,N<=n/\(sq m h N).j∉l/\∀k,k<N->(sq m h k).j∈l:=by
  intro b;induction b with
  |zero=>intro n h;lia
  |succ b t=>intro n v p;by_cases q:∀k,k<n->(sq m h k).j∈l;exact⟨n,u6 _,p,q⟩;have:∃k,k<n/\(sq m h k).j∉l:=Lq λz=>q λk e=>Lq λG=>z ⟨k,e,G⟩;obtain⟨k,e,d⟩:=this;obtain⟨N,F,a,c⟩:=t k (by lia) d;exact⟨N,by lia,a,c⟩
 obtain⟨N,F,a,c⟩:=this (n+1) n (Kr _) (by rw[M];exact u);exact⟨N,by lia,a,c⟩
theorem TOk.empty{t:m8}{hs:List Int}(T:TOk t hs)(h:Int):∃N,N<10*(t.mask+15)/\(sq t.mask h N).j∉t.place.toList/\∀k,k<N->(sq t.mask h k).j∈t.place.toList:=by refine uR T.msk (T.ris.imp λh=>w9 h) T.rng ?_ h;have:=T.few;rw[D6];rcases T.msk with e|e|e<;>lia
theorem zt{t:m8}(r:t.place.toList.Pairwise (· < ·)){j:Nat}(L:j∉t.place.toList):(t.put j).1.place.toList=t.place.toList.take (D4 t.place j)++j::t.place.toList.drop (D4 t.place j)/\(t.put j).1.place.toList.Pairwise (· < ·):=by
 obtain⟨o,m,u⟩:=below_spec t.place r j;have e:(t.put j).1.place.toList=t.place.toList.take (D4 t.place j)++j::t.place.toList.drop (D4 t.place j):=by show (Ov t.place (D4 t.place j) j).toList=_;rw[SetTable.toList_insertAt]
 refine⟨e,?_⟩;rw[e,List.pairwise_append];refine⟨r.sublist<|List.take_sublist ..,List.pairwise_cons.mpr ⟨λx c=>?_,r.sublist<|List.drop_sublist ..⟩,λx c y O=>?_⟩;obtain⟨k,h⟩:=Lo c;rw[Mj]at h;have d:t.place[D4 t.place j+k]?=a7 x:=by rw[<-G3];exact h
 obtain⟨g,f⟩:=Lr.mp d;have:=u _ g<|NJ _ _;rw[f]at this;rcases KM j x with z|z;exact z;have:x=j:=by lia
 subst this;exact n9 (List.mem_of_mem_drop c) L;obtain⟨k,h⟩:=Lo c;rw[OB]at h;split at h;rename_i l;have d:t.place[k]?=a7 x:=by rw[<-G3];exact h
 obtain⟨g,f⟩:=Lr.mp d;have h1:=m k g l;rw[f]at h1;rcases z9.mp O with rfl|O;exact h1;obtain⟨B,a⟩:=Lo O;rw[Mj]at a;have b:t.place[D4 t.place j+B]?=a7 y:=by rw[<-G3];exact a
 obtain⟨i,n⟩:=Lr.mp b;have:=u _ i<|NJ _ _;rw[n]at this;lia;cases h
end Ht
namespace L2
open PySem PySem.Spec PyProof.Rows DL PySem.W
theorem fY:Slot "set_iterator" "__iter__" "set_iterator.__iter__":=.of (owner:="set_iterator") (n:="__iter__") (by rw[NH,NT];kernel_rfl) (by decide +kernel) (by decide +kernel) (by decide +kernel) (by first|exact .inl (by decide +kernel)|exact .inr<|by decide +kernel)<|by rw[isSubtype_type];kernel_rfl
theorem lp:entryFor table "set_iterator.__iter__" = a7 Builtin.«dict_keyiterator.__iter__»:=entryFor_alias (id':="dict_keyiterator.__iter__") (by kernel_rfl) rfl (by decide +kernel)<|by kernel_rfl
theorem np(a:c4):argsOk "set_iterator.__iter__" ⟨[a],[]⟩:=by unfold argsOk;rw[signature?_of (id:="set_iterator.__iter__") (n:=['_','_','r','e','t','i','_','_']) (o:=['r','o','t','a','r','e','t','i','_','t','e','s']) (by kernel_rfl) mH];kernel_rfl
section
variable{prog:c7}{w:c6}{A:e8}{E:c4->e9->Prop}{s:e9}{a it:c8}{o:c9}{es:Array (Int×c4)}{ep:Nat}{t:m8}
theorem gG(I:s.heap.get? it=a7 (fB first i n a ep))(h:Q (.ref it) s):f9 (i3 prog w) A (j4<|.ref it) Q E s:=by
 have T:s.TypeIs (.ref it) "set_iterator":=⟨_,I,rfl⟩
 refine Ou T fY<|J6 fY T lp (show f9 _ _ (ret<|.ref it) _ _ s from ?_)<|np _;exact q9 ⟨_,rfl,"set_iterator",_,T,bj.lookup,h⟩
theorem SetAt.at(S:SetAt h a o es ep t)(k:∀o,h.get? a=a7 o->h'.get? a=a7 o):SetAt h' a o es ep t:=⟨k _ S.ob,S.dt,S.ft⟩
theorem kI(d:w.params.followText "set-order" = a9)(S:SetAt s.heap a o es ep t)(h:Q (((m7 (w.params.setOrder a ep) es)[i]?).map λe=>(e.2,0)) s):f9 (i3 prog w) A (setNext a 0 i ep) Q E s:=by unfold setNext;refine p6<|Ld S.ob S.dt S.ft ?_;unfold setsByText;refine p6<|p6<|MG<|q9 ?_;simp only[i3,d,o7,bne_self_eq_false,A7,o6];unfold setWalk;refine p6<|p6<|Ld S.ob S.dt S.ft ?_;unfold setsByText;refine p6<|p6<|MG<|q9 ?_;simp only[i3,d,o7];exact p6<|MG<|q9<|q9 h
theorem xa(d:w.params.followText "set-order" = a9)(m:A.handled=a8)(f:a≠it):Walks prog w A it [it,a] [it] es.size (λi v=>((m7 (w.params.setOrder a ep) es).toList.map (·.2))[i]?=a7 v) (λi h=>h.get? it=a7 (fB (j5 0) i es.size a ep)/\SetAt h a o es ep t) where
 sub:=λb d=>by simp at d;simp[d]
 frame:=λ_ _ _ st l=>⟨l it (by simp) _ st.1,st.2.at λo e=>l a (by simp) o e⟩
 item:=λi s Q E hi st c=>by
  have g:(m7 (w.params.setOrder a ep) es).size=es.size:=by have:=(mC (w.params.setOrder a ep) es).length_eq;simpa using this
  obtain⟨e,j⟩:∃e,(m7 (w.params.setOrder a ep) es)[i]?=a7 e:=⟨_,G4<|by rw[g];exact hi⟩
  refine mL (slot:=0) (next:=0) (x:=e.2) st.1 st.2 (λA E Q q=>kI d st.2<|by rw[j];exact q) λh' h1 T=>c _ h' s.toks (by simp[j]) ⟨h1,st.2.at λo e=>(T.2 a f).trans e⟩ λb o d e=>(T.2 b<|by simpa using d).trans e
 done:=λs Q E st c=>by
  have g:(m7 (w.params.setOrder a ep) es).size=es.size:=by have:=(mC (w.params.setOrder a ep) es).length_eq;simpa using this
  refine fx (slot:=0) m st.1 st.2 (λA E Q q=>kI d st.2 ?_) λh' k=>c h' s.toks λb o d e=>k b o (by simpa using d) e;rw[Nh<|by rw[g];exact u6 _];exact q
 self:=λ_ _ _ _ st c=>gG st.1 c
theorem tV{tt:c8}{ps:List Nat}(p:ps.Perm (A2 es.size))(y:A.handled=a8)(m:a≠it)(n:tt≠it):Walks prog w A it [it,a,tt] [it] es.size (λi v=>(ps.filterMap λj=>(es[j]?).map (·.2))[i]?=a7 v) (λi h=>h.get? it=a7 (fB (.ref tt) i es.size a ep)/\SetAt h a o es ep t/\h.IsTuple tt (ps.map λ(k:Nat)=>j5 k).toArray) where
 sub:=λb f=>by simp at f;simp[f]
 frame:=λ_ _ _ st g=>⟨g it (by simp) _ st.1,st.2.1.at λo e=>g a (by simp) o e,let ⟨o,e,r⟩:=st.2.2;⟨o,g tt (by simp) _ e,r⟩⟩
 item:=λi s Q E hi st d=>by
  have u:ps.length=es.size:=by have:=p.length_eq;simpa using this
  have l:∀j∈ps,j<es.size:=λj L=>by have:=p.mem_iff.mp L;simpa using this
  have L:ps[i]?=a7 ps[i]:=v9 (by lia);have c:ps[i]<es.size:=l _<|J0 _;have q:es[ps[i]]?=a7 es[ps[i]]:=G4 c;have x:(ps.filterMap λj=>(es[j]?).map (·.2))=ps.map λj=>(es.getD j default).2:=by
   clear L u p hi st d q c;induction ps with
   |nil=>rfl
   |cons j r z=>have L:=l j C6;rw[KG,G4 L,C0,<-z λk g=>l k<|A0 _ g];simp[KU,L]
  refine xy st.1 st.2.2 st.2.1 L q λh' h1 T=>d _ h' s.toks ?_ ⟨h1,st.2.1.at λo e=>(T.2 a m).trans e,let ⟨o,e,r⟩:=st.2.2;⟨o,(T.2 tt n).trans e,r⟩⟩ λb o f e=>(T.2 b<|by simpa using f).trans e;rw[x,D0,L];simp[KU,c]
 done:=λs Q E st d=>by
  have u:ps.length=es.size:=by have:=p.length_eq;simpa using this
  exact nC y st.1 st.2.2 st.2.1 (LF<|by lia) λh' k=>d h' s.toks λb o f e=>k b o (by simpa using f) e
 self:=λ_ _ _ _ st d=>gG st.1 d
theorem kJ(b:w.params.followText "set-order" = bt)(d:t.led=a9)(c:es.size<=1)(S:SetAt s.heap a o es ep t)(h:Q (match es[D4 t.place slot]?,t.place[D4 t.place slot]? with|some (_,x),a7 j=>a7 (x,j+1)|_,_=>a8) s):f9 (i3 prog w) A (setNext a slot i ep) Q E s:=by unfold setNext;refine p6<|Ld S.ob S.dt S.ft ?_;unfold setsByText;refine p6<|p6<|MG<|q9 ?_;simp only[i3,b,A7,o6];refine Ly (λz=>?_) λ_=>?_;have G:(!t.plain&&decide (es.size > 1))=a9:=z;simp at G;lia;refine p6<|show f9 (i3 prog w) A (if (!t.led && !es.isEmpty)=a9 then unsupported _ else pure ()) _ _ s from ?_;rw[d];simp only[Lw,Bool.false_and,A7,o6];exact q9<|q9 h
theorem tI(j k:Nat):D4 #[j] k=if j<k then 1 else 0:=by unfold D4;simp only[x3,C2,B8];unfold MH;simp only[Nat.zero_lt_succ,o7];by_cases h:j<k;simp[h,MH];simp[h,MH]
theorem xb(d:w.params.followText "set-order" = bt)(c:t.led=a9)(g:es.size<=1)(r:A.handled=a8)(l:a≠it):Walks prog w A it [it,a] [it] es.size (λi v=>(es.toList.map (·.2))[i]?=a7 v) (λi h=>h.get? it=a7 (fB (j5 (if i=0 then 0 else t.place.getD 0 0+1:Nat)) i es.size a ep)/\SetAt h a o es ep t) where
 sub:=λb d=>by simp at d;simp[d]
 frame:=λ_ _ _ st n=>⟨n it (by simp) _ st.1,st.2.at λo e=>n a (by simp) o e⟩
 item:=λi s Q E hi st f=>by
  obtain rfl:i=0:=by lia
  have ps:t.place.size=1:=by have:=st.2.ft;simp[M8]at this;lia
  obtain⟨j,L⟩:∃j,t.place = #[j]:=⟨t.place[0],by apply Array.ext (by simpa using ps);intro i h1 h2;simp at h2;subst h2;rfl⟩
  have m:es[0]?=a7 es[0]:=G4 hi;refine mL (slot:=0) (next:=j+1) (x:=es[0].2) st.1 st.2 (λA E Q q=>kJ d c g st.2 ?_) λh' h1 T=>f _ h' s.toks ?_ ⟨?_,st.2.at λo e=>(T.2 a l).trans e⟩ λb o d e=>(T.2 b<|by simpa using d).trans e;rw[L,tI,n6<|Lz _,m];exact q;rw[D0,G3,m];rfl;simpa [L]using h1
 done:=λs Q E st f=>by
  refine fx (slot:=if es.size=0 then 0 else t.place.getD 0 0+1) r st.1 st.2 (λA E Q q=>kJ d c g st.2 ?_) λh' k=>f h' s.toks λb o d e=>k b o (by simpa using d) e;have ps:t.place.size=es.size:=by have:=st.2.ft;simp[M8]at this;lia
  by_cases z:es.size=0;have:es = #[]:=Array.eq_empty_of_size_eq_zero z;subst this;simpa using q;obtain⟨j,L⟩:∃j,t.place = #[j]:=⟨t.place[0],by apply Array.ext (by simp;lia);intro i h1 h2;simp at h2;subst h2;rfl⟩
  have p:D4 t.place (if es.size=0 then 0 else t.place.getD 0 0+1)=1:=by rw[n6 z,L,tI];simp
  rw[p,Nh<|by lia];exact q
 self:=λ_ _ _ _ st f=>gG st.1 f
theorem kK(c:w.params.followText "set-order" = bt)(d:t.led=a9)(b:(!t.plain&&decide (es.size > 1))=bt)(S:SetAt s.heap a o es ep t)(h:Q (match es[D4 t.place slot]?,t.place[D4 t.place slot]? with|some (_,x),a7 j=>a7 (x,j+1)|_,_=>a8) s):f9 (i3 prog w) A (setNext a slot i ep) Q E s:=by unfold setNext;refine p6<|Ld S.ob S.dt S.ft ?_;unfold setsByText;refine p6<|p6<|MG<|q9 ?_;simp only[i3,c,A7,o6];refine Ly (λz=>?_) λ_=>?_;have G:(!t.plain&&decide (es.size > 1))=a9:=z;rw[b]at G;cases G;refine p6<|show f9 (i3 prog w) A (if (!t.led && !es.isEmpty)=a9 then unsupported _ else pure ()) _ _ s from ?_;rw[d];simp only[Lw,Bool.false_and,A7,o6];exact q9<|q9 h
theorem xc(d:w.params.followText "set-order" = bt)(c:t.led=a9)(j:(!t.plain&&decide (es.size > 1))=bt)(G:t.place.toList.Pairwise (· < ·))(I:A.handled=a8)(r:a≠it):Walks prog w A it [it,a] [it] es.size (λi v=>(es.toList.map (·.2))[i]?=a7 v) (λi h=>h.get? it=a7 (fB (j5 (if i=0 then 0 else t.place.getD (i-1) 0+1:Nat)) i es.size a ep)/\SetAt h a o es ep t):=by
 have l:∀i,i<=t.place.size->D4 t.place (if i=0 then 0 else t.place.getD (i-1) 0+1)=i:=λi hi=>by
  obtain⟨n,f,u⟩:=Ht.below_spec t.place G<|if i=0 then 0 else t.place.getD (i-1) 0+1;have m:∀a b (B:a<t.place.size) (d:b<t.place.size),a<b->t.place[a]<t.place[b]:=λa b B d h=>by have:=OV.mp G a b (by simpa using B) (by simpa using d) h;simpa using this
  by_cases z:i=0;rw[n5 z]at n f u ⊢;rcases Nat.eq_zero_or_pos (D4 t.place 0)with q|q;rw[q,z];have:=f 0 (by lia) q;lia;rw[n6 z]at n f u ⊢;have p:i-1<t.place.size:=by lia
  have H:t.place.getD (i-1) 0=t.place[i-1]:=by simp[KU,p]
  rw[H]at n f u ⊢;rcases MI (D4 t.place<|t.place[i-1]+1) i with q|q|q;have:=u (i-1) p (by lia);lia;exact q;have:=f i (by lia) q;have:=m (i-1) i p (by lia) (by lia);lia
 exact {
  sub:=λb d=>by simp at d;simp[d]
  frame:=λ_ _ _ st D=>⟨D it (by simp) _ st.1,st.2.at λo e=>D a (by simp) o e⟩
  item:=λi s Q E hi st g=>by
   have ps:t.place.size=es.size:=by have:=st.2.ft;simp[M8]at this;lia
   have F:i<t.place.size:=by lia
   have C:es[i]?=a7 es[i]:=G4 hi;have y:t.place[i]?=a7 t.place[i]:=G4 F;refine mL (next:=t.place[i]+1) (x:=es[i].2) st.1 st.2 (λA E Q q=>kK d c j st.2 ?_) λh' h1 T=>g _ h' s.toks ?_ ⟨?_,st.2.at λo e=>(T.2 a r).trans e⟩ λb o d e=>(T.2 b<|by simpa using d).trans e;rw[l i (by lia),C,y];exact q;rw[D0,G3,C];rfl;rw[n6<|Nat.succ_ne_zero i,Nat.add_sub_cancel,show t.place.getD i 0=t.place[i] by simp[KU,F]];exact h1
  done:=λs Q E st g=>by
   have ps:t.place.size=es.size:=by have:=st.2.ft;simp[M8]at this;lia
   refine fx I st.1 st.2 (λA E Q q=>kK d c j st.2 ?_) λh' k=>g h' s.toks λb o d e=>k b o (by simpa using d) e;rw[l es.size (by lia),Nh<|u6 _];exact q
  self:=λ_ _ _ _ st g=>gG st.1 g }
end
section
variable{prog:c7}{w:c6}{A:e8}{E:c4->e9->Prop}{s:e9}{a:c8}{o:c9}{es:Array (Int×c4)}{ep:Nat}{t:m8}
theorem CI(S:SetAt s.heap a o es ep t)(C:o.cls=.type "set")(y:t.plain=a9->es.size<=1\/t.place.toList.Pairwise (· < ·))(k:t.led = !w.params.followText "set-order")(hz:es.size<=sizeLine)(h:∀(it:c8) (h':d5) (d:Drawn) (vs:List c4) (fp:List c8) (St:Nat->d5->Prop),(∀b o,s.heap.get? b=a7 o->h'.get? b=a7 o)->vs.Perm (es.toList.map (·.2))->s.heap.objs.size<=it->it<h'.objs.size->(∀b∈fp,b=a\/s.heap.objs.size<=b/\b<h'.objs.size) -> (∀A':e8,A'.handled=a8->Walks prog w A' it fp [it] es.size (λi v=>vs[i]?=a7 v) St)->St 0 h'->Q (.ref it) { s with heap:=h',drawn:=d }):f9 (i3 prog w) A (j4<|.ref a) Q E s:=by
 have T:s.TypeIs (.ref a) "set":=⟨o,S.ob,C⟩
 have u:a<s.heap.objs.size:=v7 S.ob;refine Ou T F.slot_set_iter<|J6 F.slot_set_iter T qq ?_<|F.args_set_iter_1 _;unfold Builtin.«frozenset.__iter__»;refine p6<|show f9 (i3 prog w) _ (pure a) _ _ s from q9 ?_;unfold Builtin.Frozenset.sizeOf;refine p6<|p6<|NQ S.ob S.dt S.ft<|q9 ?_;unfold setDrawn;refine p6<|p6<|Ld S.ob S.dt S.ft ?_;unfold setsByText;refine p6<|p6<|MG<|q9<|q9 ?_;by_cases r:(!w.params.followText "set-order" && (!t.plain&&decide (es.size > 1)))=a9;refine Ly (λ_=>?_) λz=>n9 r z;refine p6<|sW _ _ _ _ (by simp) λps d x=>?_;refine p6<|show f9 (i3 prog w) _ (newObj (.type "tuple")<|.seq (ps.map λ(i:Nat)=>j5 i).toArray) _ _ _ from J7 ?_ (by have e:=x.length_eq;rw[Ng]at e;show (ps.map λ(i:Nat)=>j5 i).toArray.size<=sizeLine;rw[x3,u4,e];exact hz);have g:=S.at (h':=s.heap.push { cls:=.type "tuple",data:=.seq (ps.map λ(i:Nat)=>j5 i).toArray }) λo e=>v5 _ e;refine p6<|wpAny_setEpoch_of (s:={ s with heap:=_,drawn:=d }) g.ob g.dt g.ft ?_;refine p6 (show f9 (i3 prog w) _ (newObj (.type "set_iterator")<|.fields #[.ref s.heap.objs.size,j5 0,.ref a,j5 es.size,j5 ep]) _ _ _ from J7 ?_<|by size_fits);refine q9 ⟨_,rfl,"set_iterator",_,⟨_,z6 _ rfl,rfl⟩,bj.lookup,?_⟩;have p:(s.heap.push { cls:=.type "tuple",data:=.seq (ps.map λ(i:Nat)=>j5 i).toArray }).objs.size=s.heap.objs.size+1:=K0 ..;refine h _ _ d (ps.filterMap λj=>(es[j]?).map (·.2)) _ _ (λb o e=>v5 _<|v5 _ e) ?_ (by show s.heap.objs.size<=(s.heap.push _).objs.size;rw[p];exact MY _) (by show _<((s.heap.push _).push _).objs.size;rw[K0 (h:=s.heap.push _)];exact Kr _) ?_ (λA' m=>tV (o:=o) (t:=t) (ep:=ep) x m (w9<|by rw[p];exact Mh u)<|w9<|by rw[p];exact Kr _) ⟨z6 _ rfl,g.at λo e=>v5 _ e,⟨_,v5 _<|z6 _ rfl,rfl,_,rfl⟩⟩;refine(x.filterMap _).trans ?_;have B:(A2 es.size).filterMap (λj=>(es[j]?).map (·.2))=((A2 es.size).filterMap λj=>es[j]?).map (·.2):=by rw[List.map_filterMap]
 rw[B,filterMap_getElem?_range];intro b c;rw[K0,p];rcases z9.mp c with rfl|c;exact .inr ⟨by rw[p];exact MY _,by rw[p];exact Kr _⟩;rcases z9.mp c with rfl|c;exact .inl rfl;rw[Km.mp c];exact .inr ⟨u6 _,Mh<|Kr _⟩;refine Ly (λz=>n9 z r) λ_=>?_;refine p6<|q9<|p6<|wpAny_setEpoch_of S.ob S.dt S.ft ?_;refine p6 (show f9 (i3 prog w) _ (newObj (.type "set_iterator")<|.fields #[j5 0,j5 0,.ref a,j5 es.size,j5 ep]) _ _ _ from J7 ?_<|by size_fits);refine q9 ⟨_,rfl,"set_iterator",_,⟨_,z6 _ rfl,rfl⟩,bj.lookup,?_⟩;have g:=S.at (h':=s.heap.push<|fB (j5 0) 0 es.size a ep) λo e=>v5 _ e;have l:∀b∈[s.heap.objs.size,a],b=a\/s.heap.objs.size<=b/\b<(s.heap.push<|fB (j5 0) 0 es.size a ep).objs.size:=λb c=>by rcases z9.mp c with rfl|c;exact .inr ⟨u6 _,by rw[K0];exact Kr _⟩;exact .inl<|Km.mp c
 by_cases c:w.params.followText "set-order" = a9;refine h _ _ s.drawn ((m7 (w.params.setOrder a ep) es).toList.map (·.2)) _ _ (λb o e=>v5 _ e) ((mC _ es).map _) (u6 _) (by rw[K0];exact Kr _) l (λA' m=>xa (o:=o) (t:=t) (ep:=ep) c m<|w9 u) ⟨z6 _ rfl,g⟩;have f:w.params.followText "set-order" = bt:=by simpa using c
 have n:(!t.plain&&decide (es.size > 1))=bt:=by rw[f]at r;simpa using r
 have ak:es.size<=1\/t.place.toList.Pairwise (· < ·):=by by_cases q:t.plain=a9;exact y q;simp[q]at n;exact .inl n
 rcases ak with h1|D;refine h _ _ s.drawn (es.toList.map (·.2)) _ _ (λb o e=>v5 _ e) (MA _) (u6 _) (by rw[K0];exact Kr _) l (λA' m=>xb (o:=o) (t:=t) (ep:=ep) f (by rw[k,f];rfl) h1 m<|w9 u) ⟨?_,g⟩;rw[n5 rfl];exact z6 _ rfl;refine h _ _ s.drawn (es.toList.map (·.2)) _ _ (λb o e=>v5 _ e) (MA _) (u6 _) (by rw[K0];exact Kr _) l (λA' m=>xc (o:=o) (t:=t) (ep:=ep) f (by rw[k,f];rfl) n D m<|w9 u) ⟨?_,g⟩;rw[n5 rfl];exact z6 _ rfl
end
end L2
namespace L2
open PySem PySem.Spec PyProof.Rows DL PySem.W PySem.Calls PyProof.V
section
variable{prog:c7}{w:c6}{A:e8}{E:c4->e9->Prop}{s:e9}{a:c8}{o:c9}{es:Array (Int×c4)}{ep:Nat}{t:m8}
theorem CO(n:s.TypeIs (.ref a) "set")(h:Q bt s):f9 (i3 prog w) A (PY<|.ref a) Q E s:=by
 unfold PY;refine p6<|LP n F.slot_set_len.lookup ?_;generalize hi:("set.__len__":String)=t
 wp_delta
 rw[show splitId t=a7 ("set","__len__") by rw[<-hi];decide +kernel];rw[<-hi];refine p6<|MF (T:="set") (b:=a9) n sub_set_self<|Ly (λz=>n9 z<|by decide) λ_=>Ly (λ_=>p6<|Ll n<|q9 h) λz=>n9 (by decide +kernel) z
theorem xU{R:Result->e9->Prop}(N:A.handled=a8)(S:SetAt s.heap a o es ep t)(B:o.cls=.type "set")(G:t.plain=a9->es.size<=1\/t.place.toList.Pairwise (· < ·))(v:t.led = !w.params.followText "set-order")(hz:es.size<=sizeLine){D:c8}{c₀:Nat} (p:D≠a) (L:s.heap.get? D=a7 { cls:=.type "list",data:=.seq #[] c₀ }) (res:c4)(Y:∀h' tk d vs c,(∀b u,b≠D->s.heap.get? b=a7 u->h'.get? b=a7 u)->h'.get? D=a7 { cls:=.type "list",data:=.seq vs c }->vs.toList.Perm (es.toList.map (·.2))->R (.ok<|.ret res) { s with heap:=h',toks:=tk,drawn:=d }):f9 (i3 prog w) A.in1 (OZ (.ref D) (.ref a) res)
   (λfin s'=>match fin with|.done f=>R (.ok f) s'|.again c'=>c'.quiet=a9/\k6 (i3 prog w) A c' R s') (λe s'=>R (.error e) s') s:=by
 have ld:D<s.heap.objs.size:=v7 L;have Z:s.TypeIs (.ref a) "set":=⟨o,S.ob,B⟩
 unfold OZ;refine p6<|Ll Z ?_;have Q:Builtin.List.listSameRef (.ref D) (.ref a)=bt:=by simp[Builtin.List.listSameRef,p]
 have T:(LK "set" == LK "list")=bt:=by decide
 have U:(LK "set" == LK "tuple")=bt:=by decide
 simp only[Q,T,U,Bool.or_false,A7,o6];refine p6<|CI S B G v hz λit h1 d vs X St H pv I ai C W st=>?_;have M:D∉X:=λz=>by
  rcases C D z with e|⟨e,_⟩
  exact p e;exact n9 ld<|Lu.mpr e
 have lv:vs.length=es.size:=by have:=pv.length_eq;simpa using this
 have K:∀(h:d5) (g:Nat),St 0 h->(∀b u,b≠D->h1.get? b=a7 u->h.get? b=a7 u)->h.get? D=a7 { cls:=.type "list",data:=.seq #[] g } -> k6 (i3 prog w) A (.builtin "list.extend.loop" ⟨[.ref D,.ref it,res],[]⟩) R { s with heap:=h,drawn:=d }:=λh g J kk y=>by
  refine codeAny_extend_loopS (W A.in1<|by simp[N]).toS hz D M res es.size 0 _ #[] g rfl (w5 _) J y (ItemsOf.nil _) λs' acc c' O m j=>?_;rw[Moved.eq_with O];have V:acc.toList=vs:=by
   apply Ox;intro i;by_cases hi:i<es.size;have E:i<acc.size:=by rw[j.1];exact hi
   have h1:acc[i]?=a7 acc[i]:=G4 E;rw[G3,h1];exact(j.2 i _ h1).symm;rw[LF (by rw[D6,j.1];lia),LF<|by lia]
  refine Y s'.heap s'.toks d acc c' (λb u k e=>O.heap b u (λz=>?_)<|kk b u k<|H b u e) m (by rw[V];exact pv);rcases z9.mp z with P|z;exact k P;rw[Km.mp z]at e;exact n9 (v7 e)<|Lu.mpr I
 have l:=H _ _ L;refine p6<|D7<|CO (s:={ s with heap:=h1,drawn:=d }) ⟨o,H _ _ S.ob,B⟩ ?_;refine Ly (λz=>?_) λ_=>q9 ⟨LO F.plain_extend_loop _,K h1 c₀ st (λ_ _ _ e=>e) l⟩;refine p6 (Lj (p6 (show f9 (i3 prog w) _ (updateSeq D (·.push .none) >>= λ_=>updateSeq D (·.pop)) _ _ _ from p6<|wpAny_updateSeq l rfl ?_)));have n:=Kt (Fn (·.push Kz)) l rfl;refine wpAny_updateSeq (hz:=by seq_fits) n rfl ?_;have x:=Kt (Fn (·.pop)) n rfl;have r:∀b,b≠D->((h1.update D (Fn (·.push Kz))).update D (Fn (·.pop))).get? b=h1.get? b:=λb k=>by rw[Ni _ _<|z8 k,Ni _ _<|z8 k]
 refine q9 ⟨LO F.plain_extend_loop _,K _ _ ((W A N).frame 0 _ _ st λb k u e=>(r b λq=>M<|q ▸ k).trans e) (λb u k e=>(r b k).trans e) x⟩
theorem xn{Q:c4->e9->Prop}(I:A.handled=a8)(S:SetAt s.heap a o es ep t)(H:o.cls=.type "set")(B:t.plain=a9->es.size<=1\/t.place.toList.Pairwise (· < ·))(y:t.led = !w.params.followText "set-order")(hz:es.size<=sizeLine)(h:∀h' tk d D (vs:List c4),(∀b u,s.heap.get? b=a7 u->h'.get? b=a7 u)->s.heap.get? D=a8->h'.get? D=a7 { cls:=.type "list",data:=.seq vs.toArray }->vs.Perm (es.toList.map (·.2)) -> f9 (i3 prog w) A.in1 (call (.builtin "list.sort") [.ref D]) (λ_ s'=>Q (.ref D) s') E { s with heap:=h',toks:=tk,drawn:=d }):f9 (i3 prog w) A (call (.builtin "sorted") [.ref a]) Q E s:=by
 have J:a<s.heap.objs.size:=v7 S.ob;refine call_function_entry kind_sorted plain_sorted entry_sorted (args_sorted1 _) ?_;unfold Builtin.«sorted»;refine p6 (m:=checkCount "sorted" 1 1 _)<|q9 ?_;unfold collect;refine p6<|p6<|wpAny_runValue<|Lb F.entry_proto_collect ?_;rw[LS F.plain_proto_collect _];refine(show f9 (i3 prog w) _ (newList [] >>= λl=>again<|.builtin "list.__iadd__" ⟨[l,.ref a],[]⟩) _ _ s from p6<|J7<|q9 ⟨LO F.plain_list_iadd _,Lb F.entry_list_iadd ?_⟩);rw[LS F.plain_list_iadd _];have G:=S.at (h':=s.heap.push { cls:=.type "list",data:=.seq ([]:List c4).toArray }) λo e=>v5 _ e;have C:=xU (prog:=prog) (A:=A.in1) (s:={ s with heap:=s.heap.push { cls:=.type "list",data:=.seq ([]:List c4).toArray } }) (D:=s.heap.objs.size) (c₀:=0) (res:=.ref s.heap.objs.size) (R:=λr s'=>∃h' tk d vs c,r=.ok (.ret<|.ref s.heap.objs.size)/\s'={ s with heap:=h',toks:=tk,drawn:=d }/\(∀b u,s.heap.get? b=a7 u->h'.get? b=a7 u)/\h'.get? s.heap.objs.size=a7 { cls:=.type "list",data:=.seq vs c }/\vs.toList.Perm (es.toList.map (·.2))) (by simp[I]) G H B y hz (NA J) (z6 _ rfl) λh' tk d vs c k g p=>⟨h',tk,d,vs,c,rfl,rfl,λb u e=>k b u (w9<|v7 e)<|v5 _ e,g,p⟩
 have i:∀h' tk d (vs:Array c4) c,(∀b u,s.heap.get? b=a7 u->h'.get? b=a7 u)->h'.get? s.heap.objs.size=a7 { cls:=.type "list",data:=.seq vs c }->vs.toList.Perm (es.toList.map (·.2)) -> f9 (i3 prog w) A.in1 (do let ob <-load s.heap.objs.size;match ob.data with|.seq xs _=>pure xs.toList|_=>unsupported "internal:collect":Sem (List c4)) (λxs s'=>f9 (i3 prog w) A.in1 (do let l <-newList xs;let _ <-i8 [l] (call (.builtin "list.sort") [l] []);ret l) (λn s'=>∃v,n=Fin.done (Flow.ret v)/\Q v s') E s') E { s with heap:=h',toks:=tk,drawn:=d }:=λh' tk d vs c j g p=>by
  refine p6 (wpAny_load g<|q9<|p6<|My ?_<|by rw[p.length_eq];simpa using hz);have K:s.heap.objs.size<h'.objs.size:=v7 g;refine p6<|D7<|E5 (h (h'.push { cls:=.type "list",data:=.seq vs.toList.toArray }) tk d h'.objs.size vs.toList (λb u e=>v5 _<|j b u e) ?_ (z6 _ rfl) p) (λ_ s' q=>q9 ⟨_,rfl,q⟩) λ_ _ z=>z;cases q:s.heap.get? h'.objs.size with
  |none=>rfl
  |some o'=>exact n9 (v7<|j _ _ q)<|D8 _
 refine E5 C (λn s' x=>?_) λe s' ⟨_,_,_,_,_,z,_⟩=>by cases z
 cases n with
 |done f=>obtain⟨h',tk,d,vs,c,z,rfl,j,g,p⟩:=x;cases z;exact i h' tk d vs c j g p
 |again c'=>refine⟨x.1,Mt x.2 ?_⟩;rintro r L ⟨h',tk,d,vs,c,z,e,j,g,p⟩;subst z e;exact i h' tk d vs c j g p
end
end L2
namespace L2
open PySem PySem.Spec PyProof.Rows DL PySem.W
section
variable{X:Cx}{e:h8}{te:u9}{p p' pos pos':i4}{k:Nat}
theorem p8.drew(I:p8 X pins σ H s):p8 X pins σ H { s with drawn:=d }:=⟨I.ok,I.os,I.bare,I.base,I.loc,I.cell,I.free,I.freeC,I.pin,I.hok,I.len⟩
end
end L2
namespace L2
open PySem PySem.Spec PyProof.Rows DL PySem.Builtin PySem.Builtin.Str PySem.StrLaws
theorem AW(a b B:Nat):strSliceIndices (a7 (a:Int)) (a7 (b:Int)) 1 B=strSliceIndices (a7 ((min a B:Nat):Int)) (a7 ((min b B:Nat):Int)) 1 B:=by
 have e:∀i:Nat,max (0:Int) (min (i:Int) (B:Int))=max (0:Int) (min ((min i B:Nat):Int) (B:Int)):=λi=>by lia
 have n:∀i:Nat,¬((i:Int)<0):=λi=>by lia
 simp only[strSliceIndices,n,o6,show ((1:Int) > 0)=True by simp,o7];rw[e a,e b]
theorem ju(x:c5)(l u:Option Int):(Kk x l u).cps.toList=if (strSliceIndices l u 1 x.length).length=x.length then x.cps.toList else(strSliceIndices l u 1 x.length).filterMap (x.cps[·]?):=by unfold Kk;by_cases h:(strSliceIndices l u 1 x.length).length=x.length;rw[n5 (by simp[h]),n5 h];rw[n6 (by simp[h]),n6 h]
theorem jt(x:c5){a b:Nat}(U:a<=b):(Kk x (a7 (a:Int))<|a7 (b:Int)).cps.toList=(x.cps.toList.drop a).take (b-a):=by
 have d:min a x.length<=min b x.length:=by lia
 have l:(strSliceIndices (a7 ((min a x.length:Nat):Int)) (a7 ((min b x.length:Nat):Int)) 1 x.length).filterMap (x.cps[·]?)=(x.cps.toList.drop<|min a x.length).take (min b x.length-min a x.length):=sliced_plain x d<|Nat.min_le_right ..;have S:=cf (a:=x);have n:(x.cps.toList.drop<|min a x.length).take (min b x.length-min a x.length)=(x.cps.toList.drop a).take (b-a):=by by_cases f:a<=x.length;rw[NG f];by_cases c:b<=x.length;rw[NG c];rw[Nat.min_eq_right (by lia),NU (by rw[K1];lia),NU<|by rw[K1];lia];rw[ON (i:=a) (by lia),ON (i:=min a x.length)<|by lia];simp
 rw[ju,AW,l,n];split;rename_i h;rw[strSliceIndices_plain d<|Nat.min_le_right ..]at h;simp only[u4,Ng]at h;have e:min a x.length=0:=by lia
 by_cases g:x.length=0;have:x.cps.toList=[]:=O2 (by lia);rw[this];simp;have:a=0:=by lia
 subst this;rw[List.drop_zero,NU<|by lia];rfl
theorem zb(x y:c5):Nb x y=decide (x.cps.toList.take y.length=y.cps.toList):=by unfold Nb;rw[subAt_eq,List.drop_zero,Nat.zero_add,MD];have b:=cf (a:=x);have g:=cf (a:=y);simp only[C5,o0,o5];constructor;exact λh=>h.2;intro h;refine⟨?_,h⟩;have:=o8 Kl h;rw[G2]at this;lia
noncomputable def bZ(l:List Nat)(c:Nat):List Nat:=(A2 l.length).filter λi=>l[i]?==a7 c
theorem zN(x:c5)(c:Nat):occurrences x ⟨#[c]⟩ 0 x.length (x.length+1)=bZ x.cps.toList c:=by
 have S:=cf (a:=x);rw[occ_eq];have o:∀(k m:Nat) (st:Array Nat×Nat),m+k=x.length+1->st.1.toList=(A2 m).filter (λi=>x.cps.toList[i]?==a7 c)->st.2<=m -> (forIn (List.range' m k) st<|occBody x ⟨#[c]⟩ x.length<|x.length+1).run.fst.toList=(A2<|m+k).filter (λi=>x.cps.toList[i]?==a7 c):=by
  intro k;induction k with
  |zero=>intro m st e h1 h2;exact h1
  |succ k b =>
   intro m st e h1 h2;rw[List.range'_succ,List.forIn_cons];unfold occBody;have hs:st.1.size<=m:=by have:=o8 Kl h1;rw[D6]at this;have l:=J2 (λi=>x.cps.toList[i]?==a7 c)<|A2 m;rw[Ng]at l;lia
   have y:=subAt_one x c m;have r:(A2<|m+1).filter (λi=>x.cps.toList[i]?==a7 c)=(A2 m).filter (λi=>x.cps.toList[i]?==a7 c)++if x.cps.toList[m]?=a7 c then[m]else[]:=by rw[List.range_succ,LC];congr 1;by_cases z:x.cps.toList[m]?=a7 c;rw[List.filter_cons_of_pos (by rw[o5];exact z),n5 z];rfl;rw[Pw (by rw[o5];exact z),n6 z];rfl
   by_cases z:x.cps.toList[m]?=a7 c;obtain⟨G,B⟩:=y.mpr z;rw[n5 ⟨⟨⟨by lia,h2⟩,G⟩,B⟩];rw[n5 z]at r;have:=b (m+1) (st.1.push m,m+(⟨#[c]⟩:c5).length) (by lia) (by rw[Ow,h1,r])<|show m+1<=m+1 from u6 _;rw[show m+(k+1)=m+1+k by lia];exact this;rw[n6 λh=>z<|y.mp ⟨h.1.2,h.2⟩];rw[n6 z,I9]at r;have:=b (m+1) (st.1,st.2) (by lia) (by rw[h1,r]) (by show st.2<=m+1;lia);rw[show m+(k+1)=m+1+k by lia];exact this
 have:=o (x.length+1) 0 (#[],0) (by lia) rfl<|u6 _;rw[show x.length+1-0=x.length+1 by lia,this];unfold bZ;rw[<-S,Nat.zero_add,List.range_succ,LC];have:x.cps.toList[x.length]?=a8:=LF (by lia);rw[Pw (by rw[o5,this];simp),L9,I9]
theorem eP:i∈bZ l c↔l[i]?=a7 c:=by unfold bZ;rw[A3,F7,o5];exact⟨λh=>h.2,λh=>⟨(w6.mp h).1,h⟩⟩
theorem xm(l:List Nat)(c:Nat):(bZ l c).Pairwise (· < ·):=List.Pairwise.filter _<|List.pairwise_lt_range
theorem rO(hi:(bZ l c)[k]?=a7 i)(L:((bZ l c)++[l.length])[k+1]?=a7 j):i<j/\j<=l.length/\(j=l.length\/l[j]?=a7 c)/\∀m,i<m->m<j->l[m]?≠a7 c:=by
 have w:=xm l c;have y:i<l.length:=(w6.mp<|eP.mp<|J1 hi).1;obtain⟨r,u⟩:=w6.mp hi;have f:∀a b (o:a<(bZ l c).length) (p:b<(bZ l c).length),a<b->(bZ l c)[a]<(bZ l c)[b]:=λa b o p h=>OV.mp w a b o p h;by_cases g:k+1<(bZ l c).length;rw[G9 g]at L;obtain⟨_,C⟩:=w6.mp L;have d:=eP.mp<|J1 L;refine⟨by rw[<-u,<-C];exact f _ _ _ _<|Kr _,Mu (w6.mp d).1,.inr d,λm h1 h2 n=>?_⟩;obtain⟨t,D,v⟩:=NR<|eP.mpr n;rcases MI t k with q|q|q;have:=f t k D r q;lia;subst q;lia;rcases KM (k+1) t with s|s;have:=f (k+1) t g D s;lia;have:t=k+1:=by lia
 subst this;lia;have e:k+1=(bZ l c).length:=by lia
 rw[KP (by lia),e,L4]at L;simp at L;subst L;refine⟨y,u6 _,.inl rfl,λm h1 h2 n=>?_⟩;obtain⟨t,D,v⟩:=NR<|eP.mpr n;rcases MI t k with q|q|q;have:=f t k D r q;lia;subst q;lia;lia
theorem jX(x:c5)(c:Nat)(f:c<256):∀y,y∈(G6 x ⟨#[c]⟩).drop 1↔∃k i j,(bZ x.cps.toList c)[k]?=a7 i/\(bZ x.cps.toList c++[x.cps.toList.length])[k+1]?=a7 j/\y=strSub x (i+1) j:=by
 intro y;have S:=cf (a:=x);unfold G6;have a8:bZ x.cps.toList c=[]->(y∈([x]:List c5).drop 1↔∃k i j,(bZ x.cps.toList c)[k]?=a7 i/\(bZ x.cps.toList c++[x.cps.toList.length])[k+1]?=a7 j/\y=strSub x (i+1) j):=λe=>by rw[e];simp
 by_cases h1:(decide (x.length<(⟨#[c]⟩:c5).length)||decide (Mm x<Mm ⟨#[c]⟩))=a9;rw[n5 h1];apply a8;rw[zG]at h1;have G:Mm (⟨#[c]⟩:c5)=1:=by simp[Mm,f]
 have B:1<=Mm x:=by unfold Mm;split<;>(try split)<;>lia
 have:x.length=0:=by rw[G]at h1;simp only[Ma,o0]at h1;lia
 unfold bZ;rw[<-S,this];rfl;rw[n6 h1,zN];by_cases h2:(bZ x.cps.toList c).isEmpty=a9;rw[n5 h2];exact a8<|List.isEmpty_iff.mp h2;rw[n6 h2];unfold partsBetween;rw[zG,<-NB];have e:((0::(bZ x.cps.toList c).map (· + 1)).zip<|bZ x.cps.toList c++[x.length]).drop 1=((bZ x.cps.toList c).map (· + 1)).zip ((bZ x.cps.toList c++[x.cps.toList.length]).drop 1):=by
  cases q:bZ x.cps.toList c with
  |nil=>rw[q]at h2;exact n9 rfl h2
  |cons a r=>rw[S];rfl
 rw[e,v6];constructor;rintro⟨⟨i,j⟩,hm,rfl⟩;obtain⟨k,h⟩:=Lo hm;obtain⟨F,b⟩:=List.getElem?_zip_eq_some.mp h;rw[D0]at F;cases q:(bZ x.cps.toList c)[k]? with
 |none=>rw[q]at F;cases F
 |some i'=>rw[q]at F;have:i'+1=i:=A6 F;subst this;rw[Mj,Nat.add_comm]at b;exact⟨k,i',j,q,b,rfl⟩
 rintro⟨k,i,j,h1,h2,rfl⟩;refine⟨(i+1,j),?_,rfl⟩;have:(((bZ x.cps.toList c).map (· + 1)).zip<|(bZ x.cps.toList c++[x.cps.toList.length]).drop 1)[k]?=a7 (i+1,j):=by rw[List.getElem?_zip_eq_some];refine⟨by rw[D0,h1];rfl,?_⟩;rw[Mj,Nat.add_comm];exact h2
 exact J1 this
end L2
namespace L2
open PySem PySem.Spec PyProof.Rows DL PySem.W
section
variable{X:Cx}
noncomputable def EG:E1:=λx y M Q=>match x,y with
 |.int i,.int j=>CPow i j/\Q (.int<|i ^ j.toNat) M
 |_,_=>False
theorem Iw:E8 X (j7 .Pow) EG:=by refine C1.imp Ii ?_;rintro g l H R ⟨x,y,M,ρ,Q,s,r,m,q,k⟩;unfold EG at q;split at q;cases r;cases m;exact⟨_,_,rfl,rfl,q.1,k _ H<|VQ.now s (.int _) q.2⟩;exact q.elim
theorem Jj:F0 X (j7 .Pow) EG:=⟨Iw⟩
end
end L2
namespace Ht
open PySem
noncomputable def K6(ow:Array (Option Nat))(s:Nat):Prop:=∃i,ow[s]?=a7 (a7 i)
theorem getD_none(hs:s<ow.size):(ow.getD s<|a7 0).isNone=a9↔¬K6 ow s:=by
 have e:ow[s]?=a7 ow[s]:=G4 hs;have l:ow.getD s (a7 0)=ow[s]:=by simp[KU,hs]
 rw[l];unfold K6;rw[e];cases ow[s]<;>simp
theorem AH(hz:ow.size=m+1)(h:Int):∀(fuel k0 k:Nat),k0<=k->k<k0+fuel->¬K6 ow (fg m h k).1->(∀n,n<fJ m h k0->K6 ow (sq m h n).j) ->∃N,OM m ow fuel (fg m h k0).1 (fg m h k0).2=a7 (sq m h N).j/\¬K6 ow (sq m h N).j/\∀n,n<N->K6 ow (sq m h n).j:=by
 intro fuel;induction fuel with
 |zero=>intro k0 k h1 h2;lia
 |succ fuel l =>
  intro k0 k h1 h2 c d;have p:=ue m h k0;have u:I0 m (fg m h k0).1<=m/\(fg m h k0).1<=I0 m (fg m h k0).1:=by unfold I0;split<;>lia
  unfold OM;cases f:(A2<|I0 m (fg m h k0).1+1-(fg m h k0).1).find? λk=>(ow.getD ((fg m h k0).1+k)<|a7 0).isNone with
  |some r =>
   have i:=Nd f;have b:=List.mem_of_find?_eq_some f;rw[F7]at b;refine⟨fJ m h k0+r,by rw[zd m h k0 r<|by lia],?_,λn g=>?_⟩;rw[zd m h k0 r<|by lia];exact(getD_none<|by lia).mp i;rcases KM n (fJ m h k0)with q|q;exact d n q;obtain⟨r',rfl⟩:∃r',n=fJ m h k0+r':=⟨n-fJ m h k0,by lia⟩
   rw[zd m h k0 r'<|by lia];refine Lq λo=>?_;have t:r' < r:=by lia
   have z:=(getD_none (ow:=ow) (s:=(fg m h k0).1+r')<|by lia).mpr o;have:=List.find?_range_eq_some.mp f;have:=this.2.2 r' t;rw[z]at this;exact n9 this<|by simp
  |none =>
   have a:∀r,r<=I0 m (fg m h k0).1-(fg m h k0).1->K6 ow ((fg m h k0).1+r):=λr i=>by refine Lq λo=>?_;have z:=(getD_none (ow:=ow) (s:=(fg m h k0).1+r)<|by lia).mpr o;have:=List.find?_eq_none.mp f r (F7.mpr<|by lia);exact this z
   have v:k0≠k:=λe=>by subst e;exact c<|a 0<|w5 _
   refine l (k0+1) k (by lia) (by lia) c λn g=>?_;unfold fJ at g;rcases KM n (fJ m h k0)with q|q;exact d n q;obtain⟨r',rfl⟩:∃r',n=fJ m h k0+r':=⟨n-fJ m h k0,by lia⟩
   rw[zd m h k0 r'<|by lia];exact a r'<|by lia
structure Laid(m:Nat)(hs:List Int)(ow:Array (Option Nat))(k:Nat):Prop where
 sz:ow.size=m+1
 lt:∀s i:Nat,ow[s]?=a7 (a7 i)->i<k
 inj:∀s s' i:Nat,ow[s]?=a7 (a7 i)->ow[s']?=a7 (a7 i)->s=s'
 all:∀i:Nat,i<k->∃s:Nat,ow[s]?=a7 (a7 i)
 path:∀(s i:Nat) (h:Int),ow[s]?=a7 (a7 i)->hs[i]?=a7 h->∃n,(sq m h n).j=s/\∀n',n' < n->K6 ow (sq m h n').j
theorem Laid.room(L:Laid m hs ow k)(q:k<=m):∃s,s<=m/\¬K6 ow s:=by
 refine Lq λh=>?_;have c:∀s,s<=m->K6 ow s:=λs hs=>Lq λz=>h ⟨s,hs,z⟩;have d:∀s,s∈A2 (m+1)->((ow.getD s a8).getD 0)∈A2 k:=λs u=>by
  obtain⟨i,e⟩:=c s (by have:=F7.mp u;lia);have:ow.getD s a8=a7 i:=by obtain⟨g,z⟩:=Lr.mp e;simp[KU,g,z]
  rw[this];exact F7.mpr<|L.lt s i e
 have p:((A2<|m+1).map λs=>(ow.getD s a8).getD 0).Nodup:=by
  rw[NW,Ot];have base:=List.nodup_range (n:=m+1);rw[NW]at base;refine base.imp_of_mem λ{a b} ha hb hne e=>hne ?_;obtain⟨i,f⟩:=c a (by have:=F7.mp ha;lia);obtain⟨j,C⟩:=c b (by have:=F7.mp hb;lia);have t:ow.getD a a8=a7 i:=by obtain⟨g,z⟩:=Lr.mp f;simp[KU,g,z]
  have l:ow.getD b a8=a7 j:=by obtain⟨g,z⟩:=Lr.mp C;simp[KU,g,z]
  rw[t,l]at e;have:i=j:=e;subst this;exact L.inj a b i f C
 have:=L2.nodup_le _ (A2 k) p λx o=>by obtain⟨s,u,rfl⟩:=v6.mp o;exact d s u
 rw[u4,Ng,Ng]at this;lia
theorem Laid.step(C:nM m)(L:Laid m hs ow k)(A:k<=m)(y:hs[k]?=a7 h):∃j,OM m ow (Na m) (Ln h % (m+1)) (Ln h)=a7 j/\Laid m hs (ow.setIfInBounds j<|a7 k) (k+1):=by
 obtain⟨s,g,l⟩:=L.room A;obtain⟨H,B,e⟩:=Ei C h g;obtain⟨N,v,M,x⟩:=AH L.sz h (Na m) 0 H (w5 _) (by unfold Na;lia) (by rw[e];exact l) λn D=>n9 D<|Lz _;refine⟨(sq m h N).j,v,?_⟩;have E:(sq m h N).j<ow.size:=by have:=zc (m:=m) h N;rw[L.sz];lia
 have a:(ow.setIfInBounds (sq m h N).j<|a7 k)[(sq m h N).j]?=a7 (a7 k):=by rw[Array.getElem?_setIfInBounds_self_of_lt E]
 have r:∀s,s≠(sq m h N).j->(ow.setIfInBounds (sq m h N).j<|a7 k)[s]?=ow[s]?:=λs f=>Array.getElem?_setIfInBounds_ne<|z8 f;have w:∀s,K6 ow s->K6 (ow.setIfInBounds (sq m h N).j<|a7 k) s:=λs ⟨i,z⟩=>by by_cases q:s=(sq m h N).j;subst q;exact⟨k,a⟩;exact⟨i,by rw[r s q];exact z⟩
 have d:∀s i,(ow.setIfInBounds (sq m h N).j<|a7 k)[s]?=a7 (a7 i)->(s=(sq m h N).j/\i=k)\/(s≠(sq m h N).j/\ow[s]?=a7 (a7 i)):=λs i z=>by by_cases q:s=(sq m h N).j;subst q;rw[a]at z;cases z;exact .inl ⟨rfl,rfl⟩;rw[r s q]at z;exact .inr ⟨q,z⟩
 refine⟨by rw[Array.size_setIfInBounds];exact L.sz,λs i z=>?_,λs s' i z G=>?_,λi hi=>?_,λs i h' z b=>?_⟩;rcases d s i z with⟨_,e⟩|⟨_,z⟩
 lia;have:=L.lt s i z;lia;rcases d s i z with⟨t,p⟩|⟨_,z⟩
 rcases d s' i G with⟨R,_⟩|⟨_,G⟩
 rw[t,R];have:=L.lt s' i G;lia;rcases d s' i G with⟨_,I⟩|⟨_,G⟩
 have:=L.lt s i z;lia;exact L.inj s s' i z G;by_cases q:i=k;subst q;exact⟨_,a⟩;obtain⟨s,z⟩:=L.all i (by lia);refine⟨s,?_⟩;rw[r s λe=>M ⟨i,by rw[<-e];exact z⟩];exact z;rcases d s i z with⟨t,p⟩|⟨_,z⟩
 subst t p;rw[y]at b;cases b;exact⟨N,rfl,λo c=>w _<|x o c⟩;obtain⟨n,F,u⟩:=L.path s i h' z b;exact⟨n,F,λo c=>w _<|u o c⟩
theorem Fq(l:nM m)(hs:List Int)(q:hs.length<=m):∃ow,SetTable.layClean m hs.toArray=a7 ow/\Laid m hs ow hs.length:=by
 have start:Laid m hs (Array.replicate (m+1) a8) 0:=by
  have n:∀s i:Nat,(Array.replicate (m+1) (a8:Option Nat))[s]?≠a7 (a7 i):=λs i z=>by rw[Array.getElem?_replicate]at z;split at z<;>cases z
  exact⟨by simp,λs i z=>n9 z<|n s i,λs _ i z=>n9 z<|n s i,λi hi=>n9 hi<|Lz _,λs i _ z=>n9 z<|n s i⟩
 have c:∀(aY:List Int) (k:Nat) (ow:Array (Option Nat)),hs.drop k=aY->k+aY.length=hs.length->Laid m hs ow k -> ∃o,aY.foldl (init:=a7 (ow,k)) (λacc h=>do
    let (owner,k) <-acc
    let j <-OM m owner (Na m) (Ln h % (m+1)) (Ln h)
    pure (owner.setIfInBounds j<|a7 k,k+1))=a7 (o,hs.length)/\Laid m hs o hs.length:=by
  intro aY;induction aY with
  |nil =>
   intro k ow e a L;have:k=hs.length:=by simpa using a
   subst this;exact⟨ow,rfl,L⟩
  |cons h aY p =>
   intro k ow e a L;have d:hs[k]?=a7 h:=by
    have:(hs.drop k)[0]?=a7 h:=by rw[e];rfl
    rw[Mj]at this;simpa using this
   rw[C2]at a;obtain⟨j,f,b⟩:=L.step l (by lia) d;obtain⟨o,g1,g⟩:=p (k+1) (ow.setIfInBounds j<|a7 k) (by
    have:hs.drop (k+1)=(hs.drop k).drop 1:=by rw[List.drop_drop]
    rw[this,e];rfl) (by lia) b
   refine⟨o,?_,g⟩;rw[List.foldl_cons];simp only[Option.bind_eq_bind,Option.bind_some,f,Option.pure_def];exact g1
 obtain⟨ow,g1,g⟩:=c hs 0 _ rfl (by simp) start;refine⟨ow,?_,g⟩;unfold SetTable.layClean;rw[<-Array.foldl_toList];have:hs.toArray.toList=hs:=by simp
 rw[this,g1];rfl
theorem mD{α:Type}[DecidableEq α]:∀{l l':List α},l.Nodup->l'.Nodup->(∀x,x∈l↔x∈l')->l.Perm l'
 | [],l',_,_,h=>by have:l'=[]:=List.eq_nil_iff_forall_not_mem.mpr λx hx=>n9 ((h x).mpr hx) (by simp);rw[this]
 |x::l,l',n,n',h=>by have hx:x∈l':=(h x).mp C6;have n1:=Lc.mp n;refine(Oe x<|mD n1.2 (n'.erase x) λy=>?_).trans (List.perm_cons_erase hx).symm;by_cases e:y=x;subst e;constructor;intro z;exact n9 z n1.1;intro z;exact n9 z<|List.Nodup.not_mem_erase n';rw[List.mem_erase_of_ne e,<-h y,z9];exact⟨.inr,λz=>z.resolve_left e⟩
noncomputable def bM(m:Nat)(ow:Array (Option Nat)):List (Nat×Nat):=(A2<|m+1).filterMap λj=>(ow.getD j a8).map (j,·)
theorem fA(L:Laid m hs ow k):(s,i)∈bM m ow↔ow[s]?=a7 (a7 i):=by
 unfold bM;rw[Ml];constructor;rintro⟨j,hj,e⟩;have h:j<ow.size:=by rw[L.sz];exact F7.mp hj
 have l:ow.getD j a8=ow[j]:=by simp[KU,h]
 rw[l]at e;cases q:ow[j] with
 |none=>rw[q]at e;cases e
 |some i'=>rw[q]at e;have:=A6 e;cases this;rw[G4 h,q]
 intro e;obtain⟨g,z⟩:=Lr.mp e;refine⟨s,F7.mpr (by rw[<-L.sz];exact g),?_⟩;have l:ow.getD s a8=ow[s]:=by simp[KU,g]
 rw[l,z];rfl
theorem sD(m:Nat)(ow:Array (Option Nat)):((bM m ow).map (·.1)).Pairwise (· < ·):=by unfold bM;rw[Ot];refine List.Pairwise.filterMap (R:=(· < ·)) _ (λa c h b d e f=>?_)<|List.pairwise_lt_range;obtain⟨x,_,rfl⟩:=Le.mp d;obtain⟨y,_,rfl⟩:=Le.mp f;exact h
theorem sE(L:Laid m hs ow hs.length):((bM m ow).map (·.2)).Perm (A2 hs.length):=by
 have n:(bM m ow).Nodup:=by have:=sD m ow;rw[Ot]at this;exact this.imp λh e=>by rw[e]at h;exact D8 _ h
 have p:((bM m ow).map (·.2)).Nodup:=by rw[NW,Ot];rw[NW]at n;refine n.imp_of_mem λ{a b} ha hb hne e=>hne ?_;obtain⟨s,i⟩:=a;obtain⟨s',i'⟩:=b;have c:i=i':=e;subst c;rw[L.inj s s' i ((fA L).mp ha)<|(fA L).mp hb]
 refine mD p List.nodup_range λi=>?_;rw[F7,v6];constructor;rintro⟨⟨s,i'⟩,hm,rfl⟩;exact L.lt s i'<|(fA L).mp hm;intro hi;obtain⟨s,e⟩:=L.all i hi;exact⟨(s,i),(fA L).mpr e,rfl⟩
theorem qj{α:Type}{l:List α}{p:Nat}{x y:α}(b:p<=l.length){i:Nat}(h:(l.take p++x::l.drop p)[i]?=a7 y):(i<p/\l[i]?=a7 y)\/(i=p/\y=x)\/(p<i/\l[i-1]?=a7 y):=by
 have lt:(l.take p).length=p:=by rw[G2];lia
 rcases MI i p with q|q|q;rw[G9 (by lia),OB,n5 q]at h;exact .inl ⟨q,h⟩;subst q;rw[KP (by lia),lt,L4]at h;exact .inr<|.inl ⟨rfl,(A6 h).symm⟩;rw[KP (by lia),lt]at h;obtain⟨r,a⟩:∃r,i-p=r+1:=⟨i-p-1,by lia⟩
 rw[a,Pu,Mj]at h;exact .inr<|.inr ⟨q,by rw[show i-1=p+r by lia];exact h⟩
structure TPre(t:m8)(hs:List Int):Prop where
 msk:nM t.mask
 len:t.place.size=hs.length
 nod:t.dummies = #[]
 ris:t.place.toList.Pairwise (· < ·)
 rng:∀j∈t.place.toList,j<=t.mask
 path:∀(i:Nat) (h:Int) (j:Nat),hs[i]?=a7 h->t.place[i]?=a7 j->∃n,(sq t.mask h n).j=j/\∀n',n' < n->(sq t.mask h n').j∈t.place.toList
theorem put_pre(T:TOk t hs)(h2:(sq t.mask h N).j∉t.place.toList)(u:∀k,k<N->(sq t.mask h k).j∈t.place.toList)(v:Bool):(t.put (sq t.mask h N).j).2<=hs.length/\TPre { (t.put (sq t.mask h N).j).1 with plain:=v } (hs.take (t.put (sq t.mask h N).j).2++h::hs.drop (t.put (sq t.mask h N).j).2):=by
 obtain⟨e,r⟩:=zt T.ris h2;obtain⟨g,_,_⟩:=below_spec t.place T.ris (sq t.mask h N).j;have l:D4 t.place (sq t.mask h N).j<=hs.length:=by rw[<-T.len];exact g
 refine⟨l,⟨T.msk,?_,?_,r,λj L=>?_,λi h' j d L=>?_⟩⟩;have:=o8 Kl e;rw[D6,z5,C2,G2,K1,D6]at this;show (t.put (sq t.mask h N).j).1.place.size=(hs.take (D4 t.place (sq t.mask h N).j)++h::hs.drop (D4 t.place (sq t.mask h N).j)).length;rw[this,z5,C2,G2,K1,T.len];show (if SetTable.has t.dummies (sq t.mask h N).j then SetTable.eraseAt t.dummies (D4 t.dummies (sq t.mask h N).j)else t.dummies) = #[];rw[T.nod];rfl;have a:j∈(t.put (sq t.mask h N).j).1.place.toList:=L;rw[e]at a;rcases C9.mp a with q|q;exact T.rng j<|OI q;rcases z9.mp q with q|q;rw[q];exact zc h N;exact T.rng j<|List.mem_of_mem_drop q;have s:∀x,x∈t.place.toList->x∈(t.put (sq t.mask h N).j).1.place.toList:=λx m=>by rw[e];rw[<-List.take_append_drop (D4 t.place (sq t.mask h N).j) t.place.toList]at m;rcases C9.mp m with q|q;exact Ks _ q;exact E3 _<|A0 _ q
 have a:(t.put (sq t.mask h N).j).1.place.toList[i]?=a7 j:=by rw[G3];exact L
 rw[e]at a;have o:∀k,hs[k]?=a7 h'->t.place[k]?=a7 j->∃n,(sq t.mask h' n).j=j/\∀f,f < n->(sq t.mask h' f).j∈(t.put (sq t.mask h N).j).1.place.toList:=λk B y=>by obtain⟨n,F,p⟩:=T.path k h' j B y;exact⟨n,F,λf c=>s _<|p f c⟩
 rcases qj (by rw[D6];exact g) a with⟨q,z⟩|⟨q,z⟩|⟨q,z⟩
 rcases qj l d with⟨b,G⟩|⟨b,G⟩|⟨b,G⟩
 exact o i G (by rw[<-G3];exact z);lia;lia;rcases qj l d with⟨b,G⟩|⟨b,G⟩|⟨b,G⟩
 lia;subst z G;exact⟨N,rfl,λf c=>s _<|u f c⟩;lia;rcases qj l d with⟨b,G⟩|⟨b,G⟩|⟨b,G⟩
 lia;lia;exact o (i-1) G<|by rw[<-G3];exact z
theorem TPre.ok(T:TPre t hs)(h:t.tooFull=bt):TOk t hs:=by refine⟨T.msk,T.len,T.nod,T.ris,T.rng,?_,T.path⟩;unfold SetTable.tooFull Oc at h;rw[T.nod]at h;simp at h;simpa using h
theorem TPre.anew(T:TPre t hs)(h:t.tooFull=a9)(M:(hs.length-1)*5<t.mask*3)(D:hs.length<=64):Ph (Mz hs.length)<=sizeLine/\∃t2 ord,t.relaid hs.toArray (Mz hs.length)=a7 (t2,ord)/\ord.toList.Perm (A2 hs.length)/\TOk t2 (ord.toList.map λi=>hs.getD i 0)/\t2.led=t.led:=by
 have u:hs.length*5 ≥ t.mask*3:=by unfold SetTable.tooFull Oc at h;rw[T.nod,T.len]at h;simpa using h
 have C:∃m,Ph (Mz hs.length)=m+1/\nM m/\hs.length<=m/\hs.length*5<m*3:=by
  rcases T.msk with e|e|e;have:hs.length=5:=by lia
  rw[this];exact⟨31,by decide +kernel,.inr<|.inl rfl,by decide,by decide⟩;have:hs.length=19:=by lia
  rw[this];exact⟨127,by decide +kernel,.inr<|.inr rfl,by decide,by decide⟩;lia
 obtain⟨m,e,g,H,f⟩:=C;refine⟨by rw[e,KY];rcases g with rfl|rfl|rfl<;>lia,?_⟩;obtain⟨ow,B,L⟩:=Fq g hs H;unfold SetTable.relaid;rw[e,Nat.add_sub_cancel];unfold SetTable.laid;rw[B];refine⟨_,_,rfl,?_,?_,rfl⟩;show ((bM m ow).map (·.2)).toArray.toList.Perm _;simpa using sE L;have l:((bM m ow).map (·.1)).toArray.toList=(bM m ow).map (·.1):=by simp
 have K:((bM m ow).map (·.2)).toArray.toList=(bM m ow).map (·.2):=by simp
 have J:(bM m ow).length=hs.length:=by have:=(sE L).length_eq;simpa using this
 refine⟨g,?_,rfl,?_,λj d=>?_,?_,λi h' j E d=>?_⟩;show ((bM m ow).map (·.1)).toArray.size=(((bM m ow).map (·.2)).toArray.toList.map λi=>hs.getD i 0).length;simp;show ((bM m ow).map (·.1)).toArray.toList.Pairwise _;rw[l];exact sD m ow;have a:j∈((bM m ow).map (·.1)).toArray.toList:=d;rw[l]at a;obtain⟨⟨s,i⟩,o,rfl⟩:=v6.mp a;have:=(Lr.mp<|(fA L).mp o).1;rw[L.sz]at this;show s<=m;lia;show ((bM m ow).map (·.1)).toArray.size*5<m*3;rw[x3,u4,J];exact f;have b:(((bM m ow).map (·.2)).map λi=>hs.getD i 0)[i]?=a7 h':=by rw[<-K];exact E
 have a:((bM m ow).map (·.1))[i]?=a7 j:=by rw[<-l,G3];exact d
 rw[E2,D0]at b;rw[D0]at a;cases q:(bM m ow)[i]? with
 |none=>rw[q]at a;cases a
 |some p =>
  obtain⟨s,k⟩:=p;rw[q]at b a;have y:s=j:=A6 a;have A:hs.getD k 0=h':=A6 b;subst y;have c:=(fA L).mp<|J1 q;have v:=L.lt s k c;have G:hs[k]?=a7 h':=by rw[v9 v];rw[<-A];simp[Ms,v]
  obtain⟨n,F,x⟩:=L.path s k h' c G;refine⟨n,F,λw r=>?_⟩;obtain⟨I,z⟩:=x w r;show (sq m h' w).j∈((bM m ow).map (·.1)).toArray.toList;rw[l];exact List.mem_map.mpr ⟨(_,I),(fA L).mpr z,rfl⟩
end Ht
namespace L2
open PySem PySem.Spec PyProof.Rows DL PySem.W
theorem uL:∀(n:Nat) (d:D),cW n d=a9->u3 M n d=a9
 | 0,d,h=>by cases d<;>first|rfl|cases h
 |n+1,d,h=>by
  cases d with
  |tup ds=>have h':ds.all (cW n)=a9:=h;show ds.all (u3 M n)=a9;rw[E6]at h' ⊢;exact λx hx=>uL n x<|h' x hx
  |str x=>rfl
  |int i=>rfl
  |_=>cases h
theorem kt:∀(n:Nat) (x y:D),cW n x=a9->cW n y=a9->(t4 M n x y=a9↔x=y):=by
 intro n;induction n with
 |zero =>
  intro x y h1 h2;cases x with
  |str a =>
   cases y with
   |str b=>simp[t4]
   |int b=>simp[t4]
   |_=>cases h2
  |int a =>
   cases y with
   |str b=>simp[t4]
   |int b=>simp[t4]
   |_=>cases h2
  |_=>cases h1
 |succ n h =>
  have o:∀xs ys:List D,xs.all (cW n)=a9->ys.all (cW n)=a9->(C3 (t4 M n) xs ys=a9↔xs=ys):=by
   intro xs;induction xs with
   |nil=>intro ys _ _;cases ys<;>simp[C3]
   |cons x xs i =>
    intro ys F c;cases ys with
    |nil=>simp[C3]
    |cons y ys=>rw[KA,C5]at F c;show (t4 M n x y&&C3 (t4 M n) xs ys)=a9↔_;rw[C5,h x y F.1 c.1,i ys F.2 c.2,MC]
  intro x y h1 h2;cases x with
  |str a =>
   cases y with
   |str b=>simp[t4]
   |int b=>simp[t4]
   |tup ys=>simp[t4]
   |_=>cases h2
  |int a =>
   cases y with
   |str b=>simp[t4]
   |int b=>simp[t4]
   |tup ys=>simp[t4]
   |_=>cases h2
  |tup xs =>
   cases y with
   |str b=>simp[t4]
   |int b=>simp[t4]
   |tup ys=>rw[D.tup.injEq];exact o _ _ h1 h2
   |_=>cases h2
  |_=>cases h1
section
variable{X:Cx}{pins:List (c8×c9)}{σ:St}{H:Hp}{ρ:List c8}{M:t5}
theorem Js(sm:u8 X.K ρ M H):∀(n:Nat) (A:e8) (s:e9) (d:D) (v:V) (u:c4) (E:c4->e9->Prop) (Q:Int->e9->Prop),A.units+n<k4->p8 X pins σ H s->t9 X.K ρ H d v->aM v u->cW n d=a9 ->(∀tk,Q (x5 X.w n d) { s with toks:=tk })->f9 (i3 X.prog X.w) A (pyHash u) Q E s:=by
 intro n;induction n with
 |zero =>
  intro A s d v u E Q P I r f m h;cases r with
  |str x=>obtain⟨t,rfl⟩:=f;exact NK<|h _
  |int x=>obtain⟨t,rfl⟩:=f;exact NL<|h _
  |_=>cases m
 |succ n R =>
  intro A s d v u E Q P I r f m h;cases r with
  |str x=>obtain⟨t,rfl⟩:=f;exact NK<|h _
  |int x=>obtain⟨t,rfl⟩:=f;exact NL<|h _
  |@tup a vs ds O Y =>
   cases f;obtain⟨its,W,p,_⟩:=I.tuple O;obtain⟨o,B,L,nn,N⟩:=id p;have T:s.TypeIs (.ref a) "tuple":=⟨o,B,L⟩
   have y:ds.all (cW n)=a9:=m;unfold pyHash
   first|unfold pyHashByItsType|skip
   first|refine p6 (wpAny_cRoomFor_or (.inr<|by lia) ?_)|skip
   refine p6<|LP T F.slot_tuple_hash.lookup ?_;refine(show f9 (i3 X.prog X.w) _ (if (a7 (Value.builtin "tuple.__hash__")==a7 Kz)=a9 then _ else _) Q E s from ?_);rw[n6<|by rw[beq_builtin_none];exact LQ];refine p6<|LP T F.slot_tuple_hash.lookup ?_;refine(show f9 (i3 X.prog X.w) _ (callSpecialIfBoundUnlessNone? (.ref a) "__hash__" _ >>= _) Q E s from p6<|P0 T F.slot_tuple_hash<|J6 F.slot_tuple_hash T F.entry_tuple_hash ?_<|F.args_tuple_hash_1 _);refine(show f9 (i3 X.prog X.w) _ (OY (.ref a) >>= _) _ _ s from p6<|wpAny_tupleItemsOf B N<|p6 ?_);rw[<-Mi];refine Mb _ (λaY (b:Array Int) s'=>∃done left q,ds=done++left/\Reps X.K ρ H left q/\aC q aY/\b.toList=done.map (x5 X.w n)/\∃tk,s'={ s with toks:=tk }) _ ?_ ?_ _ _ ⟨[],ds,vs,rfl,Y,by simpa using W,rfl,s.toks,rfl⟩;rintro x aY b s' ⟨done,left,q,e,h1,h2,k,tk,rfl⟩;cases h2 with
   |@cons Z _ i _ S G =>
    cases h1 with
    |@cons j _ c _ U J =>
     refine p6<|R _ _ j Z x _ _ (by show A.units+1+n<k4;lia) (I.tok tk) U S ?_ λg=>?_;have:=E6.mp y j (by rw[e];simp);exact this
     first
      |exact q9 ⟨done++[j],c,i,by rw[e];simp,J,G,by simp[k],g,rfl⟩
      |exact p6 (q9 (q9 ⟨done++[j],c,i,by rw[e];simp,J,G,by simp[k],g,rfl⟩))
   rintro b s' ⟨done,left,q,e,h1,h2,k,tk,rfl⟩;cases h2;cases h1;rw[I9]at e;subst e;refine(show f9 (i3 X.prog X.w) _ (retInt<|MP b.toList) _ _ _ from ?_);rw[k];refine wpAny_ret_mkInt ?_;have l:x5 X.w (n+1) (.tup ds)=m3 (MP<|ds.map<|x5 X.w n):=rfl;generalize MP (ds.map<|x5 X.w n)=z at l;refine(show f9 (i3 X.prog X.w) _ (if (decide (-(2:Int) ^ 63<=z)&&decide (z<2 ^ 63))=a9 then _ else _) Q E _ from ?_);unfold m3 at l;by_cases C:(decide (-(2:Int) ^ 63<=z)&&decide (z<2 ^ 63))=a9;rw[n5 C]at l ⊢;exact q9 (by rw[<-l];exact h _);rw[n6 C]at l ⊢;exact p6<|Lj<|q9<|by rw[<-l];exact h _
  |_=>cases m
end
section
variable{X:Cx}{pins:List (c8×c9)}{σ:St}{H:Hp}{ρ:List c8}{M:t5}
theorem hbv_D(S:u8 X.K ρ M H):∀(n k:Nat) (A:e8) (s:e9) (d:D) (v:V) (u:c4) (E:c4->e9->Prop) (Q:Bool->e9->Prop),n<=k->p8 X pins σ H s->t9 X.K ρ H d v->aM v u->cW n d=a9->(∀b,Q b s)->f9 (i3 X.prog X.w) A (hashByValue k u) Q E s:=by
 intro n;induction n with
 |zero =>
  intro k A s d v u E Q q I r c e h;cases r with
  |str x=>obtain⟨t,rfl⟩:=c;cases k<;>exact q9<|h _
  |int x=>obtain⟨t,rfl⟩:=c;cases k<;>exact q9<|h _
  |_=>cases e
 |succ n G =>
  intro k A s d v u E Q q I r c e h;cases r with
  |str x=>obtain⟨t,rfl⟩:=c;cases k<;>exact q9<|h _
  |int x=>obtain⟨t,rfl⟩:=c;cases k<;>exact q9<|h _
  |@tup a vs ds z O =>
   cases c;obtain⟨k,rfl⟩:∃J,k=J+1:=⟨k-1,by lia⟩
   obtain⟨its,m,p,_⟩:=I.tuple z;obtain⟨o,B,j,R,l⟩:=id p;have T:s.TypeIs (.ref a) "tuple":=⟨o,B,j⟩
   have y:ds.all (cW n)=a9:=e;unfold hashByValue;refine p6<|LP T F.slot_tuple_hash.lookup ?_;dsimp only;refine p6<|L7 B l ?_;simp only[Option.getD_some];rw[<-Mi];refine p6 ?_;refine Mb _ (λaY r s'=>s'=s/\r.1=a8/\∃left f,(∀x∈left,cW n x=a9)/\Reps X.K ρ H left f/\aC f aY) _ ?_ ?_ _ _ ⟨rfl,rfl,ds,vs,E6.mp y,O,by simpa using m⟩;rintro x aY r s' ⟨rfl,i,left,f,g,h1,h2⟩;cases h2 with
   |cons L N =>
    cases h1 with
    |cons U P =>
     refine p6<|G k _ _ _ _ x _ _ (by lia) I U L (g _ C6) λb=>?_;cases b with
     |false=>exact q9<|q9<|h _
     |true=>exact q9 ⟨rfl,rfl,_,_,λx C=>g x<|A0 _ C,P,N⟩
   rintro⟨r1,m⟩ s' ⟨rfl,i,_⟩;simp only at i;subst i;exact q9<|h _
  |_=>cases e
theorem zp(P:u8 X.K ρ M H):∀(n k:Nat) (A:e8) (s:e9) (d:D) (v:V) (u:c4) (E:c4->e9->Prop) (Q:Bool->e9->Prop),n<=k->p8 X pins σ H s->t9 X.K ρ H d v->aM v u->cW n d=a9->Q a9 s->f9 (i3 X.prog X.w) A (eqIsQuiet k u) Q E s:=by
 intro n;induction n with
 |zero =>
  intro k A s d v u E Q l I r b e h;cases r with
  |str x=>obtain⟨t,rfl⟩:=b;rw[Mg k (v:=.str x t) rfl];exact q9 h
  |int x=>obtain⟨t,rfl⟩:=b;rw[Mg k (v:=.int x t) rfl];exact q9 h
  |_=>cases e
 |succ n C =>
  intro k A s d v u E Q l I r b e h;cases r with
  |str x=>obtain⟨t,rfl⟩:=b;rw[Mg k (v:=.str x t) rfl];exact q9 h
  |int x=>obtain⟨t,rfl⟩:=b;rw[Mg k (v:=.int x t) rfl];exact q9 h
  |@tup a vs ds q N =>
   cases b;obtain⟨k,rfl⟩:∃G,k=G+1:=⟨k-1,by lia⟩
   obtain⟨its,m,p,_⟩:=I.tuple q;obtain⟨o,B,f,R,j⟩:=id p;have T:s.TypeIs (.ref a) "tuple":=⟨o,B,f⟩
   have y:ds.all (cW n)=a9:=e;unfold eqIsQuiet;refine p6<|LP T F.slot_tuple_eq.lookup ?_;refine(show f9 (i3 X.prog X.w) A (isInstance (.ref a) (.type "tuple") >>= _) _ _ s from p6<|MF T isSubtype_tuple_tuple ?_);simp only[Lw,A7,o6];refine p6<|L7 B j ?_;simp only[Option.getD_some];refine p6 ?_;rw[<-Mi];refine Mb _ (λaY r s'=>s'=s/\r.1=a8/\∃left c,(∀x∈left,cW n x=a9)/\Reps X.K ρ H left c/\aC c aY) _ ?_ ?_ _ _ ⟨rfl,rfl,ds,vs,E6.mp y,N,by simpa using m⟩;rintro x aY r s' ⟨rfl,i,left,c,g,h1,h2⟩;cases h2 with
   |cons J L =>
    cases h1 with
    |cons U O=>refine p6<|C k _ _ _ _ x _ _ (by lia) I U J (g _ C6) ?_;simp only[Lw,A7,o6];exact q9 ⟨rfl,rfl,_,_,λx z=>g x<|A0 _ z,O,L⟩
   rintro⟨r1,m⟩ s' ⟨rfl,i,_⟩;simp only at i;subst i;exact q9 h
  |_=>cases e
theorem Ka(O:u8 X.K ρ M H):∀(n k:Nat) (A:e8) (s:e9) (d:D) (v:V) (u:c4) (E:c4->e9->Prop) (Q:Bool->e9->Prop),n<=k->p8 X pins σ H s->t9 X.K ρ H d v->aM v u->cW n d=a9->Q bt s->f9 (i3 X.prog X.w) A (ofAClassStatement k u) Q E s:=by
 intro n;induction n with
 |zero =>
  intro k A s d v u E Q l I r b e h;cases r with
  |str x=>obtain⟨t,rfl⟩:=b;cases k<;>exact q9 h
  |int x=>obtain⟨t,rfl⟩:=b;cases k<;>exact q9 h
  |_=>cases e
 |succ n C =>
  intro k A s d v u E Q l I r b e h;cases r with
  |str x=>obtain⟨t,rfl⟩:=b;cases k<;>exact q9 h
  |int x=>obtain⟨t,rfl⟩:=b;cases k<;>exact q9 h
  |@tup a vs ds q L =>
   cases b;obtain⟨k,rfl⟩:∃F,k=F+1:=⟨k-1,by lia⟩
   obtain⟨its,m,p,_⟩:=I.tuple q;obtain⟨o,B,f,R,j⟩:=id p;have T:s.TypeIs (.ref a) "tuple":=⟨o,B,f⟩
   have y:ds.all (cW n)=a9:=e;unfold ofAClassStatement;refine p6<|Ll T ?_;dsimp only;simp only[p5,o7];refine p6<|q9 ?_;simp only[Lw,A7,o6];refine p6<|L7 B j ?_;dsimp only;refine p6 ?_;rw[<-Mi];refine Mb _ (λaY r s'=>s'=s/\r.1=a8/\∃left c,(∀x∈left,cW n x=a9)/\Reps X.K ρ H left c/\aC c aY) _ ?_ ?_ _ _ ⟨rfl,rfl,ds,vs,E6.mp y,L,by simpa using m⟩;rintro x aY r s' ⟨rfl,i,left,c,g,h1,h2⟩;cases h2 with
   |cons G J =>
    cases h1 with
    |cons U N=>refine p6<|C k _ _ _ _ x _ _ (by lia) I U G (g _ C6) ?_;simp only[A7,o6];exact q9 ⟨rfl,rfl,_,_,λx z=>g x<|A0 _ z,N,J⟩
   rintro⟨r1,m⟩ s' ⟨rfl,i,_⟩;simp only at i;subst i;exact q9 h
  |_=>cases e
end
noncomputable def ij:D->Bool
 |.tup _=>a9
 |_=>bt
noncomputable def D3(X:Cx)(ρ:List c8)(H:Hp)(n:Nat)(d:D)(e:Int×c4):Prop:=(∃v,t9 X.K ρ H d v/\aM v e.2)/\e.1=x5 X.w n d/\cW n d=a9/\ij d=a9
structure KSet(X:Cx)(ρ:List c8)(H:Hp)(h:d5)(a:c8)(n:Nat)(ds:List D)(o:c9)(es:Array (Int×c4))(ep:Nat)(t:m8):Prop where
 ob:h.get? a=a7 o
 ex:o.ExactSet
 dt:o.data=.set es ep t
 en:Paired (D3 X ρ H n) ds es.toList
 nd:ds.Nodup
 tk:Ht.TOk t (es.toList.map (·.1))
 ld:t.led = !X.w.params.followText "set-order"
theorem eA{α β:Type}{R:α->β->Prop}:∀{xs:List α}{ys:List β}{i:Nat}{y:β},Paired R xs ys->ys[i]?=a7 y->∃x,xs[i]?=a7 x/\R x y
 |_,_,i,y,.nil,e=>by simp at e
 |_,_,0,y,.cons r _,e=>by simp at e;subst e;exact⟨_,rfl,r⟩
 |_,_,i+1,y,.cons _ t,e=>by obtain⟨x,h1,h2⟩:=eA (i:=i) t (by simpa using e);exact⟨x,by simpa using h1,h2⟩
theorem jz{α β:Type}{R:α->β->Prop}:∀{xs:List α}{ys:List β}{i:Nat}{x:α},Paired R xs ys->xs[i]?=a7 x->∃y,ys[i]?=a7 y/\R x y
 |_,_,i,y,.nil,e=>by simp at e
 |_,_,0,y,.cons r _,e=>by simp at e;subst e;exact⟨_,rfl,r⟩
 |_,_,i+1,y,.cons _ t,e=>by obtain⟨x,h1,h2⟩:=jz (i:=i) t (by simpa using e);exact⟨x,by simpa using h1,h2⟩
theorem KSet.fits(S:KSet X ρ H h a n ds o es ep t):t.fits es.size=a9:=by
 have h1:=S.tk.len;have h2:=S.tk.few;rw[u4,D6]at h1;unfold M8;have b:t.fill=t.place.size:=by unfold Oc;rw[S.tk.nod];rfl
 rw[b];simp only[C5,o5,o0];lia
section
variable{X:Cx}{pins:List (c8×c9)}{σ:St}{H:Hp}{ρ:List c8}{M:t5}{A:e8}{E:c4->e9->Prop}{s:e9}{a:c8}{n:Nat}{ds:List D}{o:c9}{es:Array (Int×c4)}{ep:Nat}{t:m8}
theorem By(m:u8 X.K ρ M H)(I:p8 X pins σ H s)(f:n<=8)(r:t9 X.K ρ H d v)(c:aM v u)(e:cW n d=a9)(h:Q bt s):∀(l:List c4),(∀y∈l,∃d' v',t9 X.K ρ H d' v'/\aM v' y/\cW n d'=a9)->f9 (i3 X.prog X.w) A (searchCouldBeSeen u l) Q E s:=by intro l g;unfold searchCouldBeSeen;refine p6 ?_;refine Mb _ (λaY r s'=>s'=s/\r.1=a8/\∀y∈aY,∃d' v',t9 X.K ρ H d' v'/\aM v' y/\cW n d'=a9) _ ?_ ?_ _ _ ⟨rfl,rfl,g⟩;rintro y aY r' s' ⟨rfl,i,O⟩;have t:∀z∈aY,∃d' v',t9 X.K ρ H d' v'/\aM v' z/\cW n d'=a9:=λz j=>O z<|A0 _ j;obtain⟨d',v',a,b,k⟩:=O y C6;dsimp only;refine Ly (λ_=>q9 ⟨rfl,rfl,t⟩) λ_=>?_;refine p6<|zp m n 8 A _ d v u _ _ f I r c e ?_;simp only[Lw,A7,o6];refine p6<|zp m n 8 A _ d' v' y _ _ f I a b k ?_;simp only[Lw,A7,o6];refine p6<|Ka m n 8 A _ d v u _ _ f I r c e ?_;simp only[A7,o6];refine p6<|Ka m n 8 A _ d' v' y _ _ f I a b k ?_;simp only[A7,o6];exact q9 ⟨rfl,rfl,t⟩;rintro⟨a,b⟩ s' ⟨rfl,i,_⟩;simp only at i;subst i;exact q9 h
theorem BI(sm:u8 X.K ρ M H)(I:p8 X pins σ H s)(hn:n<=8)(hu:A.units+n<k4)(S:KSet X ρ H s.heap a n ds o es ep t)(r:t9 X.K ρ H d v)(rv:aM v u)(G:cW n d=a9)(c:d∈ds->Q (.there a8) s) (bl:N<10*(t.mask+15)) (J:(Ht.sq t.mask (x5 X.w n d) N).j∉t.place.toList) (aj:∀k,k<N->(Ht.sq t.mask (x5 X.w n d) k).j∈t.place.toList)(L:d∉ds->Q (.free (Ht.sq t.mask (x5 X.w n d) N).j bt) s):∀(fuel m:Nat) (stand:Option L6),m<=N->N<m+fuel->stand.getD (t.probeStart<|x5 X.w n d)=Ht.sq t.mask (x5 X.w n d) m->(∀k i:Nat,k<m->t.place[i]?=a7 (Ht.sq t.mask (x5 X.w n d) k).j->ds[i]?≠a7 d) ->f9 (i3 X.prog X.w) A (setSearchFrom a u (x5 X.w n d) a9 fuel stand) Q E s:=by
 intro fuel;induction fuel with
 |zero=>intro m stand h1 h2;lia
 |succ fuel ih =>
  intro m stand h1 h2 hs hb;unfold setSearchFrom;refine p6<|Ld S.ob S.dt S.fits ?_;dsimp only;have gw:t.gaveWay=bt:=by unfold SetTable.gaveWay;rcases S.tk.msk with e|e|e<;>rw[e]<;>rfl
  rw[gw];simp only[A7,o6];rw[hs];rcases Ht.go_spec S.tk.ris S.tk.nod (λi=>(es[i]?.map (·.1)).getD 0) (x5 X.w n d) (10*Na t.mask) m N h1 (by unfold Na;lia) J (λk _ hk=>aj k hk) (Ht.sq_dummy _ _)with⟨z1,z2⟩|⟨m',i,a1,a2,a3,a4,a5,a6⟩
  generalize O:SetTable.probe t _ (x5 X.w n d) (Ht.sq t.mask (x5 X.w n d) m)=pr;obtain rfl:pr=_:=O.symm.trans z2;dsimp only;refine q9<|L λhd=>?_;obtain⟨i,hi⟩:=Lo hd;obtain⟨e,F,_,V,_⟩:=jz S.en hi;have g:es[i]?=a7 e:=by rw[<-G3];exact F
  have hh:(es.toList.map (·.1))[i]?=a7 (x5 X.w n d):=by rw[D0,F];exact o8 a7 V
  have hl:i<t.place.size:=by rw[S.tk.len];exact(w6.mp hh).1
  obtain⟨R,b1,b2⟩:=S.tk.path i _ t.place[i] hh<|G4 hl;have as:R<N:=by rcases MI R N with q|q|q;exact q;subst q;exact n9 (show (Ht.sq t.mask (x5 X.w n d) R).j∈t.place.toList by rw[b1];simp) J;exact n9 (b2 N q) J
  have p:t.place[i]?=a7 (Ht.sq t.mask (x5 X.w n d) R).j:=by rw[b1];exact G4 hl
  rcases KM R m with q|q;exact hb R i q p hi;refine z1 R i q as p ?_;rw[g];exact V;generalize O:SetTable.probe t _ (x5 X.w n d) (Ht.sq t.mask (x5 X.w n d) m)=pr;obtain rfl:pr=_:=O.symm.trans a6;dsimp only;have an:i<es.size:=by have:=(Lr.mp a3).1;rw[S.tk.len,u4,D6]at this;exact this
  have l:es[i]?=a7 es[i]:=G4 an;obtain⟨x,C,⟨v0,r0,Z⟩,bk,P,aD⟩:=eA S.en (i:=i) (y:=es[i]) (by rw[G3];exact l);have ai:∀(f:Bool->Sem SetFound),f9 (i3 X.prog X.w) A (f bt) Q E s->f9 (i3 X.prog X.w) A (searchCouldBeSeen u ((es.filter (·.1==x5 X.w n d)).toList.map (·.2)) >>= f) Q E s:=λf hf=>by
   refine p6<|By sm I hn r rv G hf _ λy hy=>?_;obtain⟨e,F,rfl⟩:=v6.mp hy;have al:e∈es.toList:=by
    have:e∈es.filter (·.1==x5 X.w n d):=by simpa using F
    simpa using(Array.mem_filter.mp this).1
   obtain⟨j,hj⟩:=Lo al;obtain⟨d1,_,⟨v1,r1,aS⟩,_,aP,_⟩:=eA S.en hj;exact⟨d1,v1,r1,aS,aP⟩
  have B:∃b,es[i].2=F6 b:=by
   cases r0 with
   |tup _ _=>exact⟨_,Z⟩
   |_=>cases aD
  obtain⟨b,B⟩:=B;have W:KW A s es[i].2 u (t4 M n x d):=(mY I sm n A x d v0 v es[i].2 u hu r0 Z r rv (uL n x P)<|uL n d G).1;refine Ly (λ_=>ai _ ?_) λ_=>?_;simp only[A7,o6];rw[l];dsimp only;refine p6<|D7<|W _ _ _ _<|p6<|Ld S.ob S.dt S.fits ?_;dsimp only;by_cases D:t4 M n x d=a9;rw[D];simp only[Bool.and_self,o7];have:x=d:=(kt n x d P G).mp D;subst this;exact q9<|c<|J1 C;rw[KD.mpr D];simp only[Of,A7,o6];have U:t.sameMemory t.moves t.mask=a7 a9:=by unfold SetTable.sameMemory;simp
  rw[U];dsimp only;simp only[o7];rw[Ht.slot_live S.tk.ris a3];dsimp only;rw[l];have T:f9 (i3 X.prog X.w) A (isSame es[i].2 es[i].2) (λb s'=>b=a9/\s'=s) E s:=by unfold isSame;rw[B];simp only[p5,o7];exact q9<|And.intro rfl rfl
  refine p6<|E5 T (λb s' ⟨e1,e2⟩=>?_) λ_ _ z=>z;subst e1 e2;refine p6<|q9 ?_;simp only[o7];refine ih (m'+1) _ (by lia) (by lia) rfl λk i' hk p h=>?_;rcases KM k m with q|q;exact hb k i' q p h;rcases KM k m' with Y|Y;refine a5 k i' q Y p ?_;obtain⟨e,F,_,V,_⟩:=jz S.en h;have g:es[i']?=a7 e:=by rw[<-G3];exact F
  rw[g];exact V;have:k=m':=by lia
  subst this;have:i'=i:=by rw[<-Ht.below_at S.tk.ris p,Ht.below_at S.tk.ris a3]
  subst this;rw[C]at h;cases h;exact D<|(kt n d d G G).mpr rfl;rw[l];dsimp only;refine p6<|D7<|W _ _ _ _<|p6<|Ld S.ob S.dt S.fits ?_;dsimp only;by_cases D:t4 M n x d=a9;rw[D];simp only[Bool.and_self,o7];have:x=d:=(kt n x d P G).mp D;subst this;exact q9<|c<|J1 C;rw[KD.mpr D];simp only[Of,A7,o6];have U:t.sameMemory t.moves t.mask=a7 a9:=by unfold SetTable.sameMemory;simp
  rw[U];dsimp only;simp only[o7];rw[Ht.slot_live S.tk.ris a3];dsimp only;rw[l];have T:f9 (i3 X.prog X.w) A (isSame es[i].2 es[i].2) (λb s'=>b=a9/\s'=s) E s:=by unfold isSame;rw[B];simp only[p5,o7];exact q9<|And.intro rfl rfl
  refine p6<|E5 T (λb s' ⟨e1,e2⟩=>?_) λ_ _ z=>z;subst e1 e2;refine p6<|q9 ?_;simp only[o7];refine ih (m'+1) _ (by lia) (by lia) rfl λk i' hk p h=>?_;rcases KM k m with q|q;exact hb k i' q p h;rcases KM k m' with Y|Y;refine a5 k i' q Y p ?_;obtain⟨e,F,_,V,_⟩:=jz S.en h;have g:es[i']?=a7 e:=by rw[<-G3];exact F
  rw[g];exact V;have:k=m':=by lia
  subst this;have:i'=i:=by rw[<-Ht.below_at S.tk.ris p,Ht.below_at S.tk.ris a3]
  subst this;rw[C]at h;cases h;exact D<|(kt n d d G G).mpr rfl
end
theorem Paired.ins{α β:Type}{R:α->β->Prop}{x:α}{y:β}(r:R x y):∀{xs:List α}{ys:List β} (p:Nat),Paired R xs ys->Paired R (xs.take p++x::xs.drop p) (ys.take p++y::ys.drop p)
 |_,_,0,h=>by simpa using .cons r h
 |_,_,p+1,.nil=>.cons r .nil
 |_,_,p+1,.cons h t=>.cons h<|Paired.ins r p t
theorem Paired.pick{α β:Type}{R:α->β->Prop}:∀{xs:List α}{ys:List β} (is:List Nat),Paired R xs ys->(∀i∈is,i<xs.length)->Paired R (is.filterMap (xs[·]?)) (is.filterMap (ys[·]?))
 |_,_,[],_,_=>.nil
 |xs,ys,i::is,h,hi=>by have hl:=hi i C6;have e:xs[i]?=a7 xs[i]:=v9 hl;obtain⟨y,hy,r⟩:=jz h e;rw[KG,KG,e,hy];exact .cons r<|Paired.pick is h λj hj=>hi j<|A0 _ hj
theorem oU{α:Type}{l:List α}{is:List Nat}(h:is.Perm (A2 l.length)):(is.filterMap (l[·]?)).Perm l:=by
 have:=h.filterMap (l[·]?)
 rwa [List.filterMap_getElem?_range_length]at this
section
variable{X:Cx}{pins:List (c8×c9)}{σ:St}{H:Hp}{ρ:List c8}{M:t5}{A:e8}{E:c4->e9->Prop}{s:e9}{a:c8}{n:Nat}{ds:List D}{o:c9}{es:Array (Int×c4)}{ep:Nat}{t:m8}
noncomputable def KS(X:Cx)(ρ:List c8)(H:Hp)(h:d5)(a:c8)(n:Nat)(ds:List D):Prop:=∃o es i t,KSet X ρ H h a n ds o es i t
set_option maxHeartbeats 1000000 in
theorem add_D(sm:u8 X.K ρ M H)(I:p8 X pins σ H s)(hn:n<=8)(hu:A.units+n+1<k4)(S:KS X ρ H s.heap a n ds)(bl:ds.length+1<=64)(r:t9 X.K ρ H d v)(rv:aM v u)(kd:cW n d=a9)(it:ij d=a9)(h:∀b h' tk ds',(∀c u,c≠a->s.heap.get? c=a7 u->h'.get? c=a7 u)->KS X ρ H h' a n ds'->(∀x,x∈ds'↔x∈ds\/x=d)->ds'.length<=ds.length+1->Q b { s with heap:=h',toks:=tk }):f9 (i3 X.prog X.w) A (setAdd a u) Q E s:=by
 obtain⟨o,es,ep,t,S⟩:=S;obtain⟨R,rfl⟩:∃R,u=F6 R:=by
  cases r with
  |tup _ _=>exact⟨_,rv⟩
  |_=>cases it
 unfold setAdd;refine D7<|p6<|Js sm n A s d v _ _ _ (by lia) I r rv kd λtk=>?_;unfold setAddHashed setAddHashedIn;refine D7<|p6<|Ld (s:={ s with toks:=tk }) S.ob S.dt S.fits ?_;dsimp only;have bs:byScan (.ref R) es=bt:=rfl;rw[bs];simp only[A7,o6];obtain⟨N,ai,aj,al⟩:=S.tk.empty<|x5 X.w n d;have I1:p8 X pins σ H { s with toks:=tk }:=I.tok tk;unfold setSearch;refine p6<|BI (s:={ s with toks:=tk }) sm I1 hn (by lia) S r rv kd (λhd=>?_) ai aj al (λhd=>?_) 100000 0 a8 (w5 _) ?_ rfl λk i hk=>n9 hk<|Lz _;exact q9<|h _ s.heap tk ds (λ_ _ _ e=>e) ⟨o,es,ep,t,S⟩ (λx=>⟨.inl,λz=>z.elim id λe=>e ▸ hd⟩)<|MY _;dsimp only;refine p6<|Ld (s:={ s with toks:=tk }) S.ob S.dt S.fits ?_;dsimp only;have J:=S.tk.len;rw[u4,D6]at J;have dl:ds.length=es.size:=by have:=Paired.length S.en;simpa using this
 have F:∀O:Bool,f9 (i3 X.prog X.w) A (do
   storeSet a (Ov es (t.put (Ht.sq t.mask (x5 X.w n d) N).j).2 (x5 X.w n d,F6 R)) { (t.put (Ht.sq t.mask (x5 X.w n d) N).j).1 with plain:=O }
   if (!bt&&({ (t.put (Ht.sq t.mask (x5 X.w n d) N).j).1 with plain:=O }:m8).tooFull)=a9 then do
     setRelay a (Mz<|es.size+1)
     pure a9
    else pure a9) Q E { s with toks:=tk }:=λO=>by
  obtain⟨pb,T⟩:=Ht.put_pre S.tk aj al O;have G:({ (t.put (Ht.sq t.mask (x5 X.w n d) N).j).1 with plain:=O }:m8).led=t.led:=rfl;have L:({ (t.put (Ht.sq t.mask (x5 X.w n d) N).j).1 with plain:=O }:m8).mask=t.mask:=rfl;generalize ({ (t.put (Ht.sq t.mask (x5 X.w n d) N).j).1 with plain:=O }:m8)=y at T G L;generalize (t.put (Ht.sq t.mask (x5 X.w n d) N).j).2=p at pb T;rw[u4,D6]at pb;have e1:(Ov es p (x5 X.w n d,F6 R)).toList=es.toList.take p++(x5 X.w n d,F6 R)::es.toList.drop p:=SetTable.toList_insertAt ..;generalize Ov es p (x5 X.w n d,F6 R)=f at e1;have aP:f.toList.map (·.1)=(es.toList.map (·.1)).take p++x5 X.w n d::(es.toList.map (·.1)).drop p:=by rw[e1,G1,C0,List.map_take,NB]
  rw[<-aP]at T;have D:f.size=es.size+1:=by have:=o8 Kl e1;rw[D6,z5,C2,G2,K1,D6]at this;lia
  have Y:Paired (D3 X ρ H n) (ds.take p++d::ds.drop p) f.toList:=by rw[e1];exact Paired.ins ⟨⟨v,r,rv⟩,rfl,kd,it⟩ p S.en
  have U:(ds.take p++d::ds.drop p).Perm (d::ds):=by refine List.perm_middle.trans<|Oe d ?_;rw[List.take_append_drop]
  have an:(ds.take p++d::ds.drop p).Nodup:=U.nodup_iff.mpr<|Lc.mpr ⟨hd,S.nd⟩;have Z:y.fits f.size=a9:=by
   have l1:=T.len;rw[u4,D6]at l1;have h3:y.fill=y.place.size:=by unfold Oc;rw[T.nod];rfl
   have fw:=S.tk.few;unfold M8;rw[h3];simp only[C5,o5,o0];rw[J]at fw;rcases S.tk.msk with e|e|e<;>rw[L,e]<;>rw[e]at fw<;>lia
  have zz:f.size<=sizeLine:=by rw[KY];lia
  refine p6<|wpAny_storeSet_of (s:={ s with toks:=tk }) S.ob S.dt ?_ zz;have C:(s.heap.update a<|MW f y).get? a=a7 { o with data:=.set f (ep+1) y }:=by
   have q:=Kt (MW f y) S.ob<|by rw[putSet_of f y S.dt];rfl
   rwa [putSet_of f y S.dt]at q
  have as:∀c u,c≠a->s.heap.get? c=a7 u->(s.heap.update a<|MW f y).get? c=a7 u:=λc u hc e=>(Ni _ _<|z8 hc).trans e;by_cases tf:y.tooFull=a9;rw[tf];simp only[Bool.not_false,Bool.and_self,o7];have aD:((f.toList.map (·.1)).length-1)*5<y.mask*3:=by have fw:=S.tk.few;rw[J]at fw;rw[u4,D6,D,L];simpa using fw
  obtain⟨zl,W,m,g1,g2,T2,aS⟩:=T.anew tf aD (by rw[u4,D6];lia);rw[u4,D6]at g2 zl;have eg:Mz (es.size+1)=Mz (f.toList.map (·.1)).length:=by rw[u4,D6,D]
  unfold setRelay;refine p6<|p6<|Ld (s:={ s with heap:=_,toks:=tk }) C rfl Z ?_;dsimp only;rw[eg];have nz:¬Ph (Mz (f.toList.map (·.1)).length) > sizeLine:=by rw[u4,D6];lia
  simp only[nz,o6];have ea:f.map (·.1)=(f.toList.map (·.1)).toArray:=by apply Array.ext';simp
  rw[ea,g1];have B:(m.filterMap (f[·]?)).toList=m.toList.filterMap (f.toList[·]?):=by rw[Array.toList_filterMap];congr 1;funext i;rw[G3]
  have V:(m.filterMap (f[·]?)).size=f.size:=by have:=(oU (l:=f.toList) (is:=m.toList)<|by rw[D6];exact g2).length_eq;rw[<-B,D6,D6]at this;exact this
  refine p6 (show f9 (i3 X.prog X.w) A (if ((m.filterMap (f[·]?)).size != f.size)=a9 then _ else pure (m.filterMap (f[·]?),W)) _ _ _ from ?_);rw[n6<|by rw[V];simp];refine q9 ?_;generalize m.filterMap (f[·]?)=g at B V;have P:(m.toList.filterMap ((ds.take p++d::ds.drop p)[·]?)).Perm (ds.take p++d::ds.drop p):=oU (by
   have:(ds.take p++d::ds.drop p).length=f.size:=by rw[U.length_eq,C2,dl,D]
   rw[this];exact g2)
  refine wpAny_storeSet_of (s:={ s with heap:=_,toks:=tk }) C rfl ?_ (by rw[V];exact zz);have bk:((s.heap.update a<|MW f y).update a<|MW g W).get? a=a7 { o with data:=.set g (ep+1+1) W }:=by
   have q:=Kt (MW g W) C<|by rw[putSet_of g W (es:=f) (ep:=ep+1) (t:=y) rfl];rfl
   rwa [putSet_of g W (es:=f) (ep:=ep+1) (t:=y) rfl]at q
  refine q9 (h _ _ tk (m.toList.filterMap ((ds.take p++d::ds.drop p)[·]?)) (λc u hc e=>(Ni _ _<|z8 hc).trans<|as c u hc e) ⟨_,g,_,W,bk,S.ex,rfl,?_,P.nodup_iff.mpr an,?_,aS.trans<|G.trans S.ld⟩ (λx=>?_) ?_);rw[B];refine Paired.pick _ Y λi hi=>?_;have:=g2.mem_iff.mp hi;rw[F7]at this;rw[U.length_eq,C2,dl,<-D];exact this;have e2:g.toList.map (·.1)=m.toList.map λi=>(f.toList.map (·.1)).getD i 0:=by
   rw[B];have:∀(is:List Nat),(∀i∈is,i<f.toList.length)->(is.filterMap (f.toList[·]?)).map (·.1)=is.map λi=>(f.toList.map (·.1)).getD i 0:=by
    intro is;induction is with
    |nil=>intro _;rfl
    |cons i is ih=>intro hi;have hl:=hi i C6;rw[KG,v9 hl,C0,C0,ih λj hj=>hi j<|A0 _ hj];congr 1;rw[J3,D0,v9 hl];rfl
   refine this _ λi hi=>?_;have:=g2.mem_iff.mp hi;rw[F7]at this;rw[D6];exact this
  rw[e2];exact T2;rw[P.mem_iff,U.mem_iff,z9];exact⟨λz=>z.symm,λz=>z.symm⟩;rw[P.length_eq,U.length_eq];exact u6 _;rw[KD.mpr tf];simp only[Of,A7,o6];refine q9<|h _ _ tk _ as ⟨_,f,_,y,C,S.ex,rfl,Y,an,T.ok<|KD.mpr tf,G.trans S.ld⟩ (λx=>?_) ?_;rw[U.mem_iff,z9];exact⟨λz=>z.symm,λz=>z.symm⟩;rw[U.length_eq];exact u6 _
 refine Ly (λ_=>p6<|hbv_D sm n 8 A _ d v _ _ _ hn I1 r rv kd λb=>?_) λ_=>?_;cases b with
 |true=>exact F (t.put (Ht.sq t.mask (x5 X.w n d) N).j).1.plain
 |false=>exact F bt
 exact F (t.put (Ht.sq t.mask (x5 X.w n d) N).j).1.plain;have:=ai;rcases S.tk.msk with e|e|e<;>rw[e]at this<;>lia
end
section
variable{X:Cx}{pins:List (c8×c9)}{σ:St}{H:Hp}{ρ:List c8}{M:t5}{A:e8}{E:c4->e9->Prop}{s:e9}{n:Nat}
theorem KS.at(x:KS X ρ H h a n ds)(k:∀o,h.get? a=a7 o->h'.get? a=a7 o):KS X ρ H h' a n ds:=by obtain⟨o,es,i,t,S⟩:=x;exact⟨o,es,i,t,k _ S.ob,S.ex,S.dt,S.en,S.nd,S.tk,S.ld⟩
theorem Fy(sm:u8 X.K ρ M H)(I:p8 X pins σ H s)(hn:n<=8)(hu:A.units+n+2<k4)(W:Walks X.prog X.w A.in1 J fp wr m P Sx)(S:c8)(f:S∉fp)(G:s.heap.get? S=a8) (B:∀b∈wr,s.heap.get? b=a8) (l:Nat->D) (y:∀i v,P i v->∃vv,t9 X.K ρ H (l i) vv/\aM vv v/\cW n (l i)=a9/\ij (l i)=a9) (hb:m<=63):∀(k i:Nat) (h:d5) (tk:Nat) (ds:List D),m-i=k->i<=m->Sx i h->KS X ρ H h S n ds->(∀x,x∈ds↔∃j,j<i/\l j=x)->ds.length<=i->(∀b u,s.heap.get? b=a7 u->h.get? b=a7 u) ->(∀h' tk ds',(∀b u,s.heap.get? b=a7 u->h'.get? b=a7 u)->KS X ρ H h' S n ds'->(∀x,x∈ds'↔∃j,j<m/\l j=x)->ds'.length<=m->R (.ok<|.ret .none) { s with heap:=h',toks:=tk }) ->k6 (i3 X.prog X.w) A (.builtin "set.update.loop" ⟨[.ref S,.ref J],[]⟩) R { s with heap:=h,toks:=tk }:=by
 have g:S∉wr:=λh=>f<|W.sub _ h;intro k;induction k with
 |zero =>
  intro i h tk ds hk hi t E O U a Y;obtain rfl:i=m:=by lia
  refine Lb F.entry_set_update_loop ?_;rw[LS F.plain_set_update_loop _];refine(show f9 (i3 X.prog X.w) A.in1 (j2 (.ref J) >>= _) _ _ _ from p6<|W.done _ _ _ t λh' tk d=>?_);refine q9<|Y h' tk ds (λb u e=>d b u (λz=>by rw[B b z]at e;cases e)<|a b u e) (E.at λo e=>d S o g e) O U
 |succ k ih=>intro i h tk ds hk hi t E O U a Y;refine Lb F.entry_set_update_loop ?_;rw[LS F.plain_set_update_loop _];refine(show f9 (i3 X.prog X.w) A.in1 (j2 (.ref J) >>= _) _ _ _ from p6<|W.item i _ _ _ (by lia) t λv h' tk hP p d=>?_);obtain⟨vv,r,rv,kd,it⟩:=y i v hP;have c:∀b u,s.heap.get? b=a7 u->h'.get? b=a7 u:=λb u e=>d b u (λz=>by rw[B b z]at e;cases e)<|a b u e;have Z:p8 X pins σ H { s with heap:=h',toks:=tk }:=I.kept c;refine p6<|D7<|add_D (s:={ s with heap:=h',toks:=tk }) sm Z hn (by show A.units+1+n+1<k4;lia) (E.at λo e=>d S o g e) (by lia) r rv kd it λb h2 T C V L Q ai=>?_;refine q9 ⟨LO F.plain_set_update_loop _,ih (i+1) h2 T C (by lia) (by lia) (W.frame _ h' h2 p λb' N o e=>V b' o (λz=>f<|z ▸ N) e) L (λx=>?_) (by lia) (λb u e=>V b u (λz=>by rw[z,G]at e;cases e)<|c b u e) Y⟩;rw[Q,O];constructor;rintro(⟨j,hj,e⟩|rfl);exact⟨j,by lia,e⟩;exact⟨i,by lia,rfl⟩;rintro⟨j,hj,rfl⟩;by_cases q:j=i;subst q;exact .inr rfl;exact .inl ⟨j,by lia,rfl⟩
theorem Cy(e:h.get? a=a7 (bh X.w)):KS X ρ H h a n []:=⟨_,#[],0,_,e,⟨rfl,rfl,rfl⟩,rfl,.nil,M9,⟨.inl rfl,rfl,rfl,NN,λj L=>by simp[SetTable.fresh]at L,(by show 0*5<7*3;decide),λi h j b=>by simp at b⟩,rfl⟩
end
section
variable{X:Cx}{pins:List (c8×c9)}{σ:St}{H:Hp}{ρ:List c8}{M:t5}{A:e8}{E:c4->e9->Prop}{s:e9}{m:Nat}
theorem FQ(Z:u8 X.K ρ M H)(I:p8 X pins σ H s)(B:m<=8)(hu:A.units+m+3<k4){l:c8}{T:String}{n:Nat}{P:Nat->c4->Prop}{G:e9->Prop}(O:A.handled=a8)(K:TxSrc X.prog X.w s.heap l T n P)(a:Nat->D)(y:∀i v,P i v->∃vv,t9 X.K ρ H (a i) vv/\aM vv v/\cW m (a i)=a9/\ij (a i)=a9)(N:n<=63)(h:∀h' tk ds,(∀b o,s.heap.get? b=a7 o->h'.get? b=a7 o)->KS X ρ H h' s.heap.objs.size m ds->(∀x,x∈ds↔∃j,j<n/\a j=x)->ds.length<=n->G { s with heap:=h',toks:=tk }):f9 (i3 X.prog X.w) A (Builtin.«set.__init__» ⟨[.ref s.heap.objs.size,.ref l],[]⟩) (λfin s'=>fin=.done (.ret .none)/\G s') E { s with heap:=s.heap.push (bh X.w) }:=by
 have S:(s.heap.push<|bh X.w).get? s.heap.objs.size=a7 (bh X.w):=z6 _ rfl;have hT:Mv { s with heap:=s.heap.push (bh X.w) } (.ref s.heap.objs.size) "set":=⟨_,S,rfl⟩
 obtain⟨F,f,r⟩:=K.obj;have c:(s.heap.push<|bh X.w).get? l=a7 F:=v5 _ f;have L:Mv { s with heap:=s.heap.push (bh X.w) } (.ref l) T:=⟨F,c,r⟩
 have Y:l<s.heap.objs.size:=v7 f;have J:(s.heap.push<|bh X.w).objs.size=s.heap.objs.size+1:=K0 ..;obtain⟨oI,St,t,W,st⟩:=K.iter A.in1 { s with heap:=s.heap.push (bh X.w) } O λo e=>v5 _ e;have ns:=K.ns;have nf:=K.nf;have nd:=K.nd;unfold Builtin.«set.__init__» noKeywords Builtin.Frozenset.updateFrom;generalize d:j4=PI
 wp_walk
 subst d;refine wpAny_of_in1<|t _ _ ?_;have k:s.heap.objs.size∉[(s.heap.push<|bh X.w).objs.size,l]:=by rw[J];simp only[z9,Om,or_false,not_or];exact⟨w9<|Kr _,NA Y⟩
 have g:s.heap.get? s.heap.objs.size=a8:=by
  cases q:s.heap.get? s.heap.objs.size with
  |none=>rfl
  |some o=>exact n9 (v7 q)<|D8 _
 have C:∀b∈[(s.heap.push<|bh X.w).objs.size],s.heap.get? b=a8:=λb p=>by
  rw[Km.mp p,J];cases q:s.heap.get? (s.heap.objs.size+1) with
  |none=>rfl
  |some o=>exact n9 (v7 q)<|Lu.mpr<|MY _
 refine p6<|wpAny_runValue<|Fy (s:=s) Z I B (by first|exact(show A.units+m+2<k4 by lia)|exact(show A.units+1+m+2<k4 by lia)) W s.heap.objs.size k g C a y N n 0 _ _ [] rfl (w5 _) st (Cy<|v5 _ S) (λx=>by simp) (u6 _) (λb u e=>v5 _<|v5 _ e) λh' tk V Q z U R=>?_;exact q9<|q9 ⟨rfl,h h' tk V Q z U R⟩
set_option maxHeartbeats 1000000 in
theorem GB(C:u8 X.K ρ M H)(I:p8 X pins σ H s)(B:m<=8)(Z:A.units+m+20<k4){l:c8}{T:String}{n:Nat}{P:Nat->c4->Prop}{Q:c4->e9->Prop}(t:A.handled=a8)(K:TxSrc X.prog X.w s.heap l T n P)(a:Nat->D)(y:∀i v,P i v->∃vv,t9 X.K ρ H (a i) vv/\aM vv v/\cW m (a i)=a9/\ij (a i)=a9)(p:n<=63)(h:∀h' tk ds,(∀b o,s.heap.get? b=a7 o->h'.get? b=a7 o)->KS X ρ H h' s.heap.objs.size m ds->(∀x,x∈ds↔∃j,j<n/\a j=x)->ds.length<=n->Q (.ref s.heap.objs.size) { s with heap:=h',toks:=tk }):f9 (i3 X.prog X.w) A (call (.type "set") [.ref l]) Q E s:=by
 have O:=F.called_set.made;have W:=F.called_set.sub;have U:=F.called_set.notType;have L:=F.called_set.canCreate;have Y:=F.typeCall_set_1<|.ref l;obtain⟨c,tl,V⟩:=F.called_set.mro;refine wpAny_call<|codeAny_of_tree<|show f9 _ _ (callAny (.type "set") _) _ _ _ from q9 ⟨Code.quiet_builtin _ (by decide +kernel),Lb F.entry_type_call ?_⟩;rw[Around.under_plain (weight_type_call_type "set" [.ref l] []) rfl]
 repeat (any_goals (first|assumption|wp_step))
 refine Mt (uX (.ref l) (E:=E) (Q₁:=λobj s₁=>obj=.ref s.heap.objs.size/\s₁={ s with heap:=s.heap.push (bh X.w) }) ⟨rfl,rfl⟩) λr s₁ hr=>?_
 match r,hr with
 |.error e,hr=>exact hr
 |.ok (.ret obj),⟨e1,e2⟩ =>
  subst e1 e2;have S:(s.heap.push<|bh X.w).get? s.heap.objs.size=a7 (bh X.w):=z6 _ rfl;have k:Mv { s with heap:=s.heap.push (bh X.w) } (.ref s.heap.objs.size) "set":=⟨_,S,rfl⟩
  have N:=F.called_set.init.lookup;have J:=F.called_set.init.bind<|.ref s.heap.objs.size
  repeat (any_goals (first|assumption|wp_step))
  refine Mt (codeAny_call_builtin (R:=wants (λr s₂=>r=.none/\Q (.ref s.heap.objs.size) s₂) E) F.called_set.init.plain F.entry_set_init<|check_set_init_1 k ?_) λd s₂ hr₂=>?_;refine E5 (FQ (G:=λu=>Q (.ref s.heap.objs.size) u) C I B (by first|(show A.units+1+1+1+m+3<k4;lia)|(show A.units+1+1+m+3<k4;lia)|(show A.units+1+m+3<k4;lia)) (by simp[t]) K a y p h) (λf s' ⟨e,g⟩=>?_) λ_ _ z=>z;subst e;exact⟨rfl,g⟩
  ·match d,hr₂ with
   |.error e,hr₂=>exact hr₂
   |.ok (.ret r),⟨e,q⟩ =>
    subst e
    repeat (any_goals (first|assumption|wp_step))
end
noncomputable def SqAt(M:t5)(d:D)(xs:List D):Prop:=(∃n,d=.ref n/\ax M n xs)\/d=.tup xs
theorem SrtOk.sub(h:SrtOk M xs)(s:∀y∈ys,y∈xs)(l:ys.length<64):SrtOk M ys:=by refine⟨l,λx a=>h.ok x<|s x a,λx a y O=>h.cm x (s x a) y<|s y O,?_⟩;rcases h.kd with k|k|k|k|k;exact .inl λx a=>k x<|s x a;exact .inr<|.inl λx a=>k x<|s x a;exact .inr<|.inr<|.inl λx a=>k x<|s x a;exact .inr<|.inr<|.inr<|.inl λx a=>k x<|s x a;exact .inr<|.inr<|.inr<|.inr λx a=>k x<|s x a
section
variable{X:Cx}{e:h8}{te:u9}{p p' pos pos':i4}{k:Nat}
theorem Hm(I:p8 X pins σ H s)(e:u8 X.K ρ M H)(r:t9 X.K ρ H d v)(b:aM v u)(t:SqAt M d xs):∃(a:c8) (T:String) (its:Array c4) (vs:List V),u=.ref a/\TxSrc X.prog X.w s.heap a T its.size (λi v=>its[i]?=a7 v)/\Reps X.K ρ H xs vs/\aC vs its.toList:=by
 rcases t with⟨n,rfl,h⟩|rfl;cases r with
 |@ref _ a c=>cases b;obtain⟨vs,hs,f⟩:=h.seq e c;obtain⟨its,m,p,_⟩:=I.list hs;exact⟨a,_,its.toArray,vs,rfl,TxSrc.list p.isList,f,by simpa using m⟩
 cases r with
 |@tup a vs _ hs f=>cases b;obtain⟨its,m,p,_⟩:=I.tuple hs;exact⟨a,_,its.toArray,vs,rfl,TxSrc.tuple p,f,by simpa using m⟩
theorem pz:∀{ds:List D}{vs:List V}{its:List c4}{i:Nat}{u:c4}{ρ:List c8}{H:Hp},Reps X.K ρ H ds vs->aC vs its->its[i]?=a7 u->∃d v,ds[i]?=a7 d/\t9 X.K ρ H d v/\aM v u
 |_,_,_,i,u,_,_,.nil,h,e=>by cases h;simp at e
 |_,_,_,0,u,_,_,.cons r _,h,e=>by
  cases h with
  |cons a _=>simp at e;subst e;exact⟨_,_,rfl,r,a⟩
 |_,_,_,i+1,u,_,_,.cons _ t,h,e=>by
  cases h with
  |cons _ b=>obtain⟨d,v,e1,r,rv⟩:=pz (i:=i) t b (by simpa using e);exact⟨d,v,by simpa using e1,r,rv⟩
theorem ents:∀{ds:List D}{es:List (Int×c4)},Paired (D3 X ρ H n) ds es->∃vs,Reps X.K ρ H ds vs/\aC vs (es.map (·.2))
 |_,_,.nil=>⟨[],.nil,.nil⟩
 |_,_,.cons ⟨⟨v,r,rv⟩,_⟩ t=>by obtain⟨vs,a,b⟩:=ents t;exact⟨v::vs,.cons r a,.cons rv b⟩
theorem zx(p:us'.Perm us):∀{ds:List D}{vs:List V},Reps X.K ρ H ds vs->aC vs us->∃ds' vs',ds'.Perm ds/\Reps X.K ρ H ds' vs'/\aC vs' us':=by
 induction p with
 |nil=>intro ds vs r h;exact⟨ds,vs,.refl _,r,h⟩
 |cons x _ o =>
  intro ds vs r h;cases h with
  |cons a b =>
   cases r with
   |cons c d=>obtain⟨ds',vs',h1,h2,e⟩:=o d b;exact⟨_,_,h1.cons _,.cons c h2,.cons a e⟩
 |swap x y l =>
  intro ds vs r h;cases h with
  |cons a b =>
   cases b with
   |cons g j =>
    cases r with
    |cons c d =>
     cases d with
     |cons k m=>exact⟨_,_,.swap _ _ _,.cons k<|.cons c m,.cons g<|.cons a j⟩
 |trans _ _ i f=>intro ds vs r h;obtain⟨ds',vs',h1,h2,e⟩:=f r h;obtain⟨C,v,g1,n,g3⟩:=i h2 e;exact⟨C,v,g1.trans h1,n,g3⟩
end
noncomputable def jI(te:u9):u9:=λS M Q=>te S M λd a=>∃n xs,n<=8/\SqAt a d xs/\xs.length<64/\(∀x∈xs,cW n x=a9/\ij x=a9)/\SrtOk a xs/\∀ys:List D,ys.Nodup->(∀x,x∈ys↔x∈xs)->GS a ys->Q (.ref a.length) (a++[.lst ys])
section
variable{X:Cx}{e:h8}{te:u9}{p p' pos pos':i4}{k:Nat}
set_option maxHeartbeats 1000000 in
theorem xW(hr:Room k X.A)(hc:X.calm=a9)(he:DE X e te)(Y:X.mg "sorted" = a8)(Z:X.mg "set" = a8)(U:X.env.kindOf "sorted" = a7 .globalImplicit)(V:X.env.kindOf "set" = a7 .globalImplicit)(h1:i6 [e] X.env=[(bt,eval e X.env)]) (h2:i6 [L3 (.Name "set" p') [e] [] pos'] X.env=[(bt,eval (L3 (.Name "set" p') [e] [] pos') X.env)]):DE X (.Call (.Name "sorted" p) [.Call (.Name "set" p') [e] [] pos'] [] pos) (jI te):=by
 rintro pins s σ H R I ⟨S,M,ρ,Q,sm,sr,q,kk⟩;refine ML<|kP I U Y (by rfl) ?_;refine callWith_builtin1 ?_ (by rw[h2];rfl) rfl;rw[h2];refine OE ?_;refine ML<|kP I V Z (by rfl) ?_;refine callWith_type1 ?_ (by rw[h1];rfl) rfl;rw[h1];refine OE<|ve (he pins s σ H _ I ⟨S,M,ρ,_,sm,sr,q,λv H' z=>z⟩) ?_;rintro u s1 ⟨v,H1,B,rv,d,M1,bs,c,g1,r1,cases⟩;refine Oy ?_;obtain⟨n,xs,n8,sq,hl,hk,so,J⟩:=cases;obtain⟨a,T,its,ws,rfl,src,w,vx⟩:=Hm B c r1 rv sq;have li:its.size=xs.length:=by have h1:=vx.length;have h2:=w.length;simp at h1;lia
 have un:=hr.un;refine GB c B n8 (by lia) (B.ok.hd hc) src (λi=>xs.getD i .non) (λi v e=>?_) (by lia) λh2 f ds k2 l W aS=>?_;obtain⟨d,vv,e1,r,rv⟩:=pz w vx (by rw[G3];exact e);have G:xs.getD i .non=d:=by rw[J3,e1];rfl
 have:=hk d<|J1 e1;exact⟨vv,by rw[G];exact r,rv,by rw[G];exact this.1,by rw[G];exact this.2⟩;refine Oy ?_;have E:=B.kept (t':=f) k2;obtain⟨o,es,ep,t,K⟩:=l;have bk:ds.length=es.size:=by have:=K.en.length;simpa using this
 have hz:es.size<=sizeLine:=by rw[KY];lia
 refine xn (s:={ s1 with heap:=h2,toks:=f }) (E.ok.hd hc) ⟨K.ob,K.dt,K.fits⟩ K.ex.1 (λz=>.inr K.tk.ris) K.ld hz λh3 bl dr D vs k3 N O pv=>?_;have h:∀x,x∈ds↔x∈xs:=λx=>by
  rw[W x,li];constructor;rintro⟨j,L,rfl⟩;have e:xs.getD j .non=xs[j]:=by simp[Ms,L]
  rw[e];exact J0 L;intro hx;obtain⟨j,L,e⟩:=NR hx;exact⟨j,L,by rw[show xs.getD j .non=xs[j] by simp[Ms,L]];exact e⟩
 obtain⟨bn,al,as⟩:=ents K.en;obtain⟨ds',bm,C,an,aD⟩:=zx pv al as;obtain⟨m,hn,_⟩:=E.loc;have P:D≠X.env.locals:=λz=>by obtain⟨oL,_,_,hL,_⟩:=hn;rw[z]at N;rw[N]at hL;cases hL
 have ai:h3.Ns X.env.locals m:=hn.at' λo e=>k3 _ _ e;refine Ev (X:=X) (pins:=pins) (σ:=σ) (s:={ s1 with heap:=h2,toks:=f,drawn:=dr }) (n:=0) hr (by show X.A.units+1<=X.A.units+4;lia) E.drew c (so.sub (ys:=ds') (λy hy=>(h y).mp<|C.mem_iff.mp hy)<|by rw[C.length_eq];lia).g an aD hn ai (λb u _ e=>k3 b u e) N P O λv H' x=>?_;refine kk v H' ?_;have:=x (λd F=>Q d F) λys hp aj=>?_;obtain⟨d,F,aP,a1,a2,a3,a4⟩:=this;exact⟨d,F,aP,a1,g1.trans a2,a3,a4⟩;exact J ys ((hp.trans C).nodup_iff.mpr K.nd) (λx=>((hp.trans C).mem_iff).trans<|h x) aj
theorem xP(r:Room k X.A)(i:HE X e te)(Y:X.mg "sorted" = a8)(Q:X.mg "set" = a8)(f:X.calm=a9:=by kernel_rfl)(U:X.env.kindOf "sorted" = a7 .globalImplicit:=by kernel_rfl)(V:X.env.kindOf "set" = a7 .globalImplicit:=by kernel_rfl)(h1:i6 [e] X.env=[(bt,eval e X.env)]:=by kernel_rfl) (h2:i6 [L3 (.Name "set" p') [e] [] pos'] X.env=[(bt,eval (L3 (.Name "set" p') [e] [] pos') X.env)]:=by kernel_rfl):HE X (.Call (.Name "sorted" p) [.Call (.Name "set" p') [e] [] pos'] [] pos) (jI te):=⟨xW r f i.ok Y Q U V h1 h2⟩
end
noncomputable def gD(h:d5):Nat->D->c4->Prop
 |_,.str x,v=>∃t,v=.str x t
 |_,.int i,v=>∃t,v=.int i t
 |n+1,.tup ds,v=>∃a its,v=.ref a/\h.IsTuple a its/\Paired (gD h n) ds its.toList
 |_,_,_=>False
noncomputable def Nm:Nat->D->Nat
 |n+1,.tup ds=>(ds.map<|Nm n).sum+1
 |_,_=>1
theorem jF:∀(n:Nat) (d:D) (v:c4),gD h n d v->cW n d=a9:=by
 intro n;induction n with
 |zero=>intro d v k;cases d<;>first|rfl|exact k.elim
 |succ n b =>
  intro d v k;cases d with
  |str x=>rfl
  |int x=>rfl
  |tup ds =>
   obtain⟨a,its,_,_,p⟩:=k;show ds.all (cW n)=a9;generalize its.toList=l at p;induction p with
   |nil=>rfl
   |cons r _ i=>rw[KA,b _ _ r,i];rfl
  |_=>exact k.elim
theorem uP{h:d5}{a:c8}{xs ys:Array c4}(h1:h.IsTuple a xs)(h2:h.IsTuple a ys):xs=ys:=by obtain⟨o,t,_,n,d⟩:=h1;obtain⟨c,l,_,f,b⟩:=h2;obtain rfl:o=c:=A6<|t.symm.trans l;rw[d]at b;injection b
theorem sN{h:d5}:∀(n:Nat) (x y:D) (v:c4),gD h n x v->gD h n y v->x=y:=by
 intro n;induction n with
 |zero =>
  intro x y v G B;cases x with
  |str a =>
   obtain⟨t,rfl⟩:=G;cases y with
   |str b=>obtain⟨t',e⟩:=B;injection e with e;rw[e]
   |int b=>obtain⟨t',e⟩:=B;cases e
   |_=>exact B.elim
  |int a =>
   obtain⟨t,rfl⟩:=G;cases y with
   |str b=>obtain⟨t',e⟩:=B;cases e
   |int b=>obtain⟨t',e⟩:=B;injection e with e;rw[e]
   |_=>exact B.elim
  |_=>exact G.elim
 |succ n d =>
  intro x y v G B;cases x with
  |str a =>
   obtain⟨t,rfl⟩:=G;cases y with
   |str b=>obtain⟨t',e⟩:=B;injection e with e;rw[e]
   |int b=>obtain⟨t',e⟩:=B;cases e
   |tup b=>obtain⟨_,_,e,_⟩:=B;cases e
   |_=>exact B.elim
  |int a =>
   obtain⟨t,rfl⟩:=G;cases y with
   |str b=>obtain⟨t',e⟩:=B;cases e
   |int b=>obtain⟨t',e⟩:=B;injection e with e;rw[e]
   |tup b=>obtain⟨_,_,e,_⟩:=B;cases e
   |_=>exact B.elim
  |tup xs =>
   obtain⟨a,its,rfl,S,g⟩:=G;cases y with
   |str b=>obtain⟨t',e⟩:=B;cases e
   |int b=>obtain⟨t',e⟩:=B;cases e
   |tup ys =>
    obtain⟨_,i,e,T,j⟩:=B;cases e;obtain rfl:=uP S T;congr 1;generalize its.toList=l at g j;induction g generalizing ys with
    |nil=>cases j;rfl
    |cons r _ c=>cases j with
     |cons r' t'=>rw[d _ _ _ r r',c _ t']
   |_=>exact B.elim
  |_=>exact G.elim
theorem xN(k:∀a its,h.IsTuple a its->h'.IsTuple a its):∀(n:Nat) (d:D) (v:c4),gD h n d v->gD h' n d v:=by
 intro n;induction n with
 |zero=>intro d v q;cases d<;>first|exact q|exact q.elim
 |succ n i =>
  intro d v q;cases d with
  |str x=>exact q
  |int x=>exact q
  |tup ds=>obtain⟨a,its,e,t,p⟩:=q;exact⟨a,its,e,k _ _ t,Paired.mapP p λx y r=>i x y r⟩
  |_=>exact q.elim
theorem uN{es ep}(q:gD h n k v)(B:h.get? d=a7 o)(g:o.data=.dict es ep)(hs:Lm d h h'):gD h' n k v:=by
 refine xN (λa its ⟨f,e,c,m,t⟩=>?_) n k v q;have b:a≠d:=by rintro rfl;obtain rfl:f=o:=A6<|e.symm.trans B;rw[g]at t;cases t
 exact⟨f,(hs.2 a b).trans e,c,m,t⟩
section
variable{prog:c7}{w:c6}
theorem xO:∀(n:Nat) (A:e8) (s:e9) (d:D) (u:c4) (E:c4->e9->Prop) (Q:Int->e9->Prop),A.units+n<k4->gD s.heap n d u ->Q (x5 w n d) { s with toks:=s.toks+Nm n d }->f9 (i3 prog w) A (pyHash u) Q E s:=by
 intro n;induction n with
 |zero =>
  intro A s d u E Q q k h;cases d with
  |str x=>obtain⟨t,rfl⟩:=k;exact NK h
  |int x=>obtain⟨t,rfl⟩:=k;exact NL h
  |_=>exact k.elim
 |succ n r =>
  intro A s d u E Q q k h;cases d with
  |str x=>obtain⟨t,rfl⟩:=k;exact NK h
  |int x=>obtain⟨t,rfl⟩:=k;exact NL h
  |tup ds =>
   obtain⟨a,its,rfl,⟨o,B,j,R,m⟩,p⟩:=k;have T:s.TypeIs (.ref a) "tuple":=⟨o,B,j⟩
   unfold pyHash
   first|unfold pyHashByItsType|skip
   first|refine p6 (wpAny_cRoomFor_or (.inr<|by lia) ?_)|skip
   refine p6<|LP T F.slot_tuple_hash.lookup ?_;refine(show f9 (i3 prog w) _ (if (a7 (Value.builtin "tuple.__hash__")==a7 Kz)=a9 then _ else _) Q E s from ?_);rw[n6<|by rw[beq_builtin_none];exact LQ];refine p6<|LP T F.slot_tuple_hash.lookup ?_;refine(show f9 (i3 prog w) _ (callSpecialIfBoundUnlessNone? (.ref a) "__hash__" _ >>= _) Q E s from p6<|P0 T F.slot_tuple_hash<|J6 F.slot_tuple_hash T F.entry_tuple_hash ?_<|F.args_tuple_hash_1 _);refine(show f9 (i3 prog w) _ (OY (.ref a) >>= _) _ _ s from p6<|wpAny_tupleItemsOf B m<|p6 ?_);rw[<-Mi];refine Mb _ (λaY (b:Array Int) s'=>∃done left,ds=done++left/\Paired (gD s.heap n) left aY/\b.toList=done.map (x5 w n)/\s'={ s with toks:=s.toks+(done.map<|Nm n).sum }) _ ?_ ?_ _ _ ⟨[],ds,rfl,p,rfl,rfl⟩;rintro x aY b s' ⟨done,left,e,h1,f,rfl⟩;cases h1 with
   |@cons g _ c _ U J =>
    refine p6<|r _ _ g x _ _ (by show A.units+1+n<k4;lia) U ?_
    first
     |exact q9 ⟨done++[g],c,by rw[e];simp,J,by simp[f],by simp[Nat.add_assoc]⟩
     |exact p6 (q9 (q9 ⟨done++[g],c,by rw[e];simp,J,by simp[f],by simp[Nat.add_assoc]⟩))
   rintro b s' ⟨done,left,e,h1,f,rfl⟩;cases h1;rw[I9]at e;subst e;refine(show f9 (i3 prog w) _ (retInt<|MP b.toList) _ _ _ from ?_);rw[f];refine wpAny_ret_mkInt ?_;have l:x5 w (n+1) (.tup ds)=m3 (MP<|ds.map<|x5 w n):=rfl;have h':Q (x5 w (n+1)<|.tup ds) { s with toks:=s.toks+(ds.map<|Nm n).sum+1 }:=h;generalize MP (ds.map<|x5 w n)=z at l;refine(show f9 (i3 prog w) _ (if (decide (-(2:Int) ^ 63<=z)&&decide (z<2 ^ 63))=a9 then _ else _) Q E _ from ?_);unfold m3 at l;by_cases i:(decide (-(2:Int) ^ 63<=z)&&decide (z<2 ^ 63))=a9;rw[n5 i]at l ⊢;exact q9 (by rw[<-l];exact h');rw[n6 i]at l ⊢;exact p6<|Lj<|q9<|by rw[<-l];exact h'
  |_=>exact k.elim
theorem uM:∀(n k:Nat) (A:e8) (s:e9) (d:D) (u:c4) (E:c4->e9->Prop) (Q:Bool->e9->Prop),n<=k->gD s.heap n d u->Q a9 s->f9 (i3 prog w) A (eqIsQuiet k u) Q E s:=by
 intro n;induction n with
 |zero =>
  intro k A s d u E Q c q h;cases d with
  |str x=>obtain⟨t,rfl⟩:=q;rw[Mg k (v:=.str x t) rfl];exact q9 h
  |int x=>obtain⟨t,rfl⟩:=q;rw[Mg k (v:=.int x t) rfl];exact q9 h
  |_=>exact q.elim
 |succ n e =>
  intro k A s d u E Q c q h;cases d with
  |str x=>obtain⟨t,rfl⟩:=q;rw[Mg k (v:=.str x t) rfl];exact q9 h
  |int x=>obtain⟨t,rfl⟩:=q;rw[Mg k (v:=.int x t) rfl];exact q9 h
  |tup ds =>
   obtain⟨a,its,rfl,⟨o,B,f,R,b⟩,p⟩:=q;obtain⟨k,rfl⟩:∃H,k=H+1:=⟨k-1,by lia⟩
   have T:s.TypeIs (.ref a) "tuple":=⟨o,B,f⟩
   unfold eqIsQuiet;refine p6<|LP T F.slot_tuple_eq.lookup ?_;refine(show f9 (i3 prog w) A (isInstance (.ref a) (.type "tuple") >>= _) _ _ s from p6<|MF T isSubtype_tuple_tuple ?_);simp only[Lw,A7,o6];refine p6<|L7 B b ?_;simp only[Option.getD_some];refine p6 ?_;refine(show f9 (i3 prog w) A (forIn its _ _) _ _ s from ?_);rw[<-Mi];refine Mb _ (λaY r s'=>r.1=a8/\s'=s/\∃left,Paired (gD s.heap n) left aY) _ ?_ ?_ _ _ ⟨rfl,rfl,ds,p⟩;rintro x aY r s' ⟨i,rfl,left,h1⟩;cases h1 with
   |cons U J=>refine p6<|e k _ _ _ x _ _ (by lia) U ?_;simp only[Lw,A7,o6];exact q9 ⟨rfl,rfl,_,J⟩
   rintro⟨r1,r2⟩ s' ⟨i,rfl,_⟩;simp only at i;subst i;exact q9 h
  |_=>exact q.elim
theorem kQ{h:d5}{n:Nat}{ds:List D}{its:Array c4}(p:Paired (gD h n) ds its.toList):ds.length=its.size:=by
 rw[<-D6];generalize its.toList=l at p;induction p with
 |nil=>rfl
 |cons _ _ i=>rw[C2,C2,i]
theorem CD:∀(n:Nat) (A:e8) (s:e9) (x y:D) (u v:c4),A.units+n<k4->gD s.heap n x u->gD s.heap n y v->KW A s u v (t4 [] n x y):=by
 intro n;induction n with
 |zero =>
  intro A s x y u v z G B;cases x with
  |str a =>
   obtain⟨t,rfl⟩:=G;cases y with
   |str b=>obtain⟨t',rfl⟩:=B;exact OC _ _ _ _
   |int b=>obtain⟨t',rfl⟩:=B;exact NO _ _ _ _
   |_=>exact B.elim
  |int a =>
   obtain⟨t,rfl⟩:=G;cases y with
   |str b=>obtain⟨t',rfl⟩:=B;exact NP _ _ _ _
   |int b=>obtain⟨t',rfl⟩:=B;exact OD _ _ _ _
   |_=>exact B.elim
  |_=>exact G.elim
 |succ n C =>
  intro A s x y u v z G B;have c:A.units<k4:=by lia
  have h:A.in1.units+n<k4:=by show A.units+1+n<k4;lia
  cases x with
  |str a =>
   obtain⟨t,rfl⟩:=G;cases y with
   |str b=>obtain⟨t',rfl⟩:=B;exact OC _ _ _ _
   |int b=>obtain⟨t',rfl⟩:=B;exact NO _ _ _ _
   |tup b=>obtain⟨_,_,rfl,p,_⟩:=B;exact SeqAt.EqAt.str_tuple _ _ p c
   |_=>exact B.elim
  |int a =>
   obtain⟨t,rfl⟩:=G;cases y with
   |str b=>obtain⟨t',rfl⟩:=B;exact NP _ _ _ _
   |int b=>obtain⟨t',rfl⟩:=B;exact OD _ _ _ _
   |tup b=>obtain⟨_,_,rfl,p,_⟩:=B;exact SeqAt.EqAt.int_tuple _ _ p c
   |_=>exact B.elim
  |tup xs =>
   obtain⟨a,its,rfl,p,k⟩:=id G;cases y with
   |str b=>obtain⟨t',rfl⟩:=B;exact SeqAt.EqAt.tuple_str _ _ p c
   |int b=>obtain⟨t',rfl⟩:=B;exact SeqAt.EqAt.tuple_int _ _ p c
   |tup ys =>
    obtain⟨b,d,rfl,O,m⟩:=id B;by_cases U:a=b;subst U;have e:=sN (n+1) _ _ _ G B;rw[e,(kt (M:=[]) (n+1) _ _ (jF _ _ _ B)<|jF _ _ _ B).mpr rfl];exact Oh _;have S:=kQ k;have E:=kQ m;have f:∀(j:Nat) (h1:j<its.size) (h2:j<d.size),KW A.in1 s its[j] d[j] (t4 [] n (xs.getD j .non)<|ys.getD j .non):=λj h1 h2=>by
     obtain⟨o,r,F⟩:=eA k (i:=j) (y:=its[j]) (by rw[G3];exact G4 h1);obtain⟨q,w,H⟩:=eA m (i:=j) (y:=d[j]) (by rw[G3];exact G4 h2);have I:xs.getD j .non=o:=by rw[J3,r];rfl
     have J:ys.getD j .non=q:=by rw[J3,w];rfl
     rw[I,J];exact C A.in1 s o q _ _ h F H
    have l:((A2<|min its.size d.size).all (λj=>t4 [] n (xs.getD j .non)<|ys.getD j .non)&&its.size==d.size)=C3 (t4 [] n) xs ys:=by
     by_cases g:xs.length=ys.length;have Z:(A2 xs.length).all (λj=>t4 [] n (xs.getD j .non)<|ys.getD j .non)=C3 (t4 [] n) xs ys:=mW g λj x y h1 h2=>by simp[Ms,h1,h2]
     rw[<-S,<-E,<-g,Nat.min_self,Z];simp;rw[AJ g,<-S,<-E];simp[g]
    have h1:=SeqAt.RcAt.tuples p O c f;rw[l]at h1;exact SeqAt.EqAt.of_refs U h1
   |_=>exact B.elim
  |_=>exact G.elim
end
noncomputable instance decD:DecidableEq D:=λa b=>KI<|a=b
noncomputable def cg(prog:c7)(w:c6):HeapKind prog w D where
 is:=λh d a=>gD h 8 d<|.ref a
 hash:=x5 w 8
 draws:=Nm 8
 room:=λA=>A.units+8<k4
 inj:=λx y=>sN 8 _ _ _ x y
 keeps:=λx B c hs=>uN x B c hs
 pyHash:=λg k h=>xO 8 _ _ _ _ _ _ g k h
 eqBool:=λ{A E s x y a b Q} g k1 k2 h=>by
  refine CD 8 A s x y _ _ g k1 k2 _ _ _ _ ?_;have e:t4 [] 8 x y=decide (x=y):=by rw[MD,kt 8 x y (jF _ _ _ k1)<|jF _ _ _ k2,o0]
  rw[e];exact h
 quiet:=λk h=>uM 8 8 _ _ _ _ _ _ (u6 _) k h
noncomputable def aX(kvs:List (D×D))(k:D):Option D:=(kvs.find? λp=>decide<|p.1=k).map (·.2)
noncomputable def iu(kvs:List (D×D))(k d:D):List (D×D):=if (aX kvs k).isSome then kvs.map (λp=>if p.1=k then(p.1,d)else p)else kvs++[(k,d)]
section
variable{K:u0}{ρ:List c8}{H:Hp}{M:t5}{kvs:List (D×D)}{xs:List (D×c8×c4)}
theorem wF(r:Paired (yj K ρ H) kvs xs)(k:D):(aX kvs k=a8/\atKey xs k=a8)\/∃d p v,aX kvs k=a7 d/\atKey xs k=a7 p/\t9 K ρ H d v/\aM v p.2:=by
 unfold aX atKey;induction r with
 |nil=>exact .inl ⟨rfl,rfl⟩
 |@cons p q ps qs h t i=>obtain⟨h1,_,_,v,f,a⟩:=h;rw[KC,KC];by_cases e:p.1=k;rw[dT_ e,dT_<|h1.symm.trans e];exact .inr ⟨_,_,v,rfl,rfl,f,a⟩;rw[dF_ e,dF_<|λz=>e<|h1.trans z];exact i
theorem DX(r:Paired (yj K ρ H) kvs xs)(n:cW 8 k=a9)(o:t9 K ρ H k (.ref b))(f:t9 K ρ H d v)(g:aM v u):Paired (yj K ρ H) (iu kvs k d) (storedH xs k b u):=by
 unfold iu storedH;have s:(aX kvs k).isSome=(atKey xs k).isSome:=by rcases wF r k with⟨a,l⟩|⟨_,_,_,a,l,_⟩<;>rw[a,l]<;>rfl
 rw[s];by_cases q:(atKey xs k).isSome=a9;rw[n5 q,n5 q];clear s q;induction r with
 |nil=>exact .nil
 |@cons p q ps qs h t i=>rw[C0,C0];refine .cons ?_ i;obtain⟨h1,h2,c,w,j,m⟩:=h;by_cases e:p.1=k;rw[n5 e,putAt,n5<|h1.symm.trans e];exact⟨h1,h2,c,v,f,g⟩;rw[n6 e,putAt,n6<|λz=>e<|h1.trans z];exact⟨h1,h2,c,w,j,m⟩
 rw[n6 q,n6 q];clear s q;induction r with
 |nil=>exact .cons ⟨rfl,n,o,v,f,g⟩ .nil
 |cons h t i=>exact .cons h i
theorem iK(r:Paired (yj K ρ H) kvs xs):xs.map (·.1)=kvs.map (·.1):=by
 induction r with
 |nil=>rfl
 |cons h t i=>rw[C0,C0,i,h.1]
theorem wu:(iu kvs k d).length<=kvs.length+1:=by unfold iu;split;rw[u4];lia;rw[z5];exact u6 _
theorem z0.writtenX{a p:c8}{xs:List V}{φ:c7->c6->d5->Prop}{o:HO}(b:H p=a7 (.ext φ))(h:z0 K H a xs):z0 K (v4 H p o) a xs:=by
 rcases h with h|h;rcases h with h|⟨c,h⟩
 exact .inl (.inl<|by rw[am<|xz h b<|by intro z;cases z];exact h);exact .inl<|.inr ⟨c,by rw[am<|xz h b<|by intro z;cases z];exact h⟩;exact .inr h
theorem u8.writeT(S:u8 K ρ M H)(t:ρ[n]?=a7 a)(u:M[n]?=a7 (.dkt kvs))(s:H a=a7 (.ext<|dX a xs))(w:kvs'.length<=sizeLine)(hs:(a==d6)=bt)(x:(kvs'.map (·.1)).Nodup)(r:Paired (yj K ρ H) kvs' xs'):u8 K ρ (M.set n<|.dkt kvs') (v4 H a<|.ext<|dX a xs')/\Grow K ρ H ρ (v4 H a<|.ext<|dX a xs'):=by
 have g:Grow K ρ H ρ (v4 H a<|.ext<|dX a xs'):=⟨ME,λ_ _ h=>z0.writtenX s h⟩
 have k:∀m,m≠n->(M.set n<|.dkt kvs')[m]?=M[m]?:=λm e=>KH<|z8 e;have c:¬Ku M[n]?:=λ⟨_,z⟩=>by rw[u]at z;cases z
 refine⟨⟨λm l b i d f=>?_,by rw[J5];exact S.len,λm b o d f=>?_⟩,g⟩;have q:=S.nd m l b i d f;by_cases h1:m=n;subst h1;rw[k l<|z8 i];exact .inr<|q.resolve_left c;rw[k m h1];by_cases h2:l=n;subst h2;exact .inl<|q.resolve_right c;rw[k l h2];exact q;by_cases e:m=n;subst e;have j:b=a:=A6<|d.symm.trans t;subst j;rw[KO<|by rw[<-S.len];exact(w6.mp t).1]at f;cases f;refine⟨w,hs,x,xs',aK,Paired.mapP r ?_⟩;rintro _ _ ⟨y,A,B,v,C,D⟩;exact⟨y,A,B.grow g,v,C.grow g,D⟩;rw[k m e]at f;by_cases j:b=a;subst j;have p:=(S.nd m n b e d t).resolve_right c;rw[f]at p;exact(S.obj m b o d f).grow g<|.inr p;exact(S.obj m b o d f).grow g<|.inl<|am j
end
section
variable{X:Cx}{pins:List (c8×c9)}{σ:St}{H:Hp}{s:e9}{ρ:List c8}{M:t5}
theorem iq(I:p8 X pins σ H s):∀(n:Nat) (d:D) (v:V) (u:c4),t9 X.K ρ H d v->aM v u->cW n d=a9->gD s.heap n d u:=by
 intro n;induction n with
 |zero =>
  intro d v u r b k;cases r with
  |str x=>exact b
  |int x=>exact b
  |_=>cases k
 |succ n e =>
  intro d v u r b k;cases r with
  |str x=>exact b
  |int x=>exact b
  |@tup a vs ds q f =>
   cases b;obtain⟨its,m,p,z⟩:=I.tuple q;have h:∀x∈ds,cW n x=a9:=E6.mp<|show ds.all (cW n)=a9 from k;refine⟨a,its.toArray,rfl,p,?_⟩;rw[List.toList_toArray];clear p q k z;induction m generalizing ds with
   |nil=>cases f;exact .nil
   |cons g j i =>
    cases f with
    |cons h1 S=>exact .cons (e _ _ _ h1 g<|h _ C6)<|i S λx c=>h x<|A0 _ c
  |_=>cases k
theorem kR(I:p8 X pins σ H s)(m:u8 X.K ρ M H){n:Nat}{a:c8}{kvs:List (D×D)}(e:ρ[n]?=a7 a)(u:M[n]?=a7 (.dkt kvs)):∃xs,H a=a7 (.ext<|dX a xs)/\Paired (yj X.K ρ H) kvs xs/\s.heap.DictOfH (cg X.prog X.w) a xs/\(a==d6)=bt/\kvs.length<=sizeLine/\xs.length=kvs.length/\(kvs.map (·.1)).Nodup:=by
 obtain⟨h1,h2,h,xs,b,r⟩:=m.obj _ _ _ e u;obtain⟨⟨o,es,t,l,R,c⟩,_⟩:=(show cL X.prog X.w H s.heap a (.ext<|dX a xs)from I.hok a _ b)
 have k:=iK r;refine⟨xs,b,r,⟨o,es,_,t,l,R,c,λx d=>?_,by rw[k];exact h⟩,h2,h1,?_,h⟩;obtain⟨i,hi⟩:=Lo d;obtain⟨p,_,q,j,f,_⟩:=eA r hi;rw[<-q];exact iq I 8 _ _ _ f rfl j;have:=o8 Kl k
 rwa [u4,u4]at this
theorem uS(d:dX a xs P w h'):cL P w H' h' a (.ext<|dX a xs):=by obtain⟨o,es,t,l,R,I⟩:=d;refine⟨⟨o,es,t,l,R,I⟩,⟨o,t⟩,?_⟩;rintro h1 h2 ⟨o,es,t,l,R,I⟩ k;exact⟨o,es,k _ t,l,R,I⟩
theorem Ef(I:p8 X pins σ H s)(h:H a=a7 (.ext<|dX a xs)):dX a xs X.prog X.w s.heap:=(show cL X.prog X.w H s.heap a (.ext<|dX a xs)from I.hok a _ h).1
end
theorem setE(x:(cg prog w).room A.in1)(t:(cg prog w).is s.heap k b)(u:s.heap.DictOfH (cg prog w) d xs) (y:dX d xs prog w s.heap) (hz:xs.length<=sizeLine)(m:∀h',dX d (storedH xs k b v) prog w h'->Lm d s.heap h'->Q () { s with heap:=h',toks:=s.toks+(cg prog w).draws k }):f9 (i3 prog w) A (setItem (.ref d) (.ref b) v) Q E s:=by
 have n:=u.typeIs;obtain⟨_,_,_,_,_,_,_,g,f⟩:=u;obtain⟨o,es,B,r,h,c⟩:=y;have i:es.toList=xs.map (d7<|cg prog w):=c;unfold setItem
 try with_reducible refine D7 ?_
 refine p6<|wpAny_sequenceKey n (by decide)<|p6<|Lp (name:=AA0 "__setitem__") n slot_dict_setitem<|J6 slot_dict_setitem n entry_dict_setitem ?_<|args_dict_setitem _ _ _;refine(show f9 (i3 prog w) _ (Builtin.Dict.notOrdered "__setitem__" ⟨[.ref d,.ref b,v],[]⟩ >>= _) _ _ s from p6<|NS n ?_);refine(show f9 (i3 prog w) _ (dictSet d (.ref b) v >>= _) _ _ s from p6 ?_);unfold dictSet
 try with_reducible refine D7 ?_
 refine p6<|(cg prog w).pyHash x t ?_;unfold dictSetHashed
 try with_reducible refine D7 ?_
 have C:es.size=xs.length:=size_of_entries i;refine p6<|wpAny_dictFind_heap (s:={ s with toks:=s.toks+(cg prog w).draws k }) x t B h i g f (λa=>?_) λj p L=>?_;refine p6<|Lj<|wpAny_updateDictKeys (hz:=by lia) (s:={ s with toks:=s.toks+(cg prog w).draws k }) B h<|q9 ⟨.none,rfl,q9<|m _ ⟨_,es.push ⟨(cg prog w).hash k,.ref b,v⟩,Kt _ B<|OF<|OH h _,r.mapDictKeys _,?_,?_⟩<|KF ..⟩;rw[OH h,storedH_new<|Os a,z5];rfl;rw[storedH_new<|Os a];rw[Ow,i,G1];rfl;refine p6<|Lj<|p6<|wpAny_updateDict (s:={ s with toks:=s.toks+(cg prog w).draws k }) B h<|wpAny_point<|q9 ⟨.none,rfl,q9<|m _ ⟨_,es.modify j λe=>{ e with val:=v },Kt _ B<|OF<|Ol h _,r.mapDict _,?_,?_⟩<|KF ..⟩;rw[Ol h,storedH_old<|atKey_of_get f L,u4];rw[storedH_old<|atKey_of_get f L];have q:=modify_map_putAt (d7<|cg prog w) (λe:m5=>{ e with val:=v }) k v (λ_ _=>rfl) f L;rw[<-i]at q;obtain⟨l⟩:=es;have z:(Array.modify ⟨l⟩ j λe:m5=>{ e with val:=v }).toList=(xs.map<|putAt k v).map (d7<|cg prog w):=by simpa using q
 exact z
section
variable{X:Cx}{o i value:h8}{td ty tv:u9}{pos pos':i4}{k:Nat}
noncomputable def ya:u9:=λ_ M Q=>Q (.ref M.length)<|M++[.dkt []]
theorem JS:DE X (.Dict [] [] pos) ya:=by rintro p s σ H R I ⟨S,M,ρ,Q,m,e,q,D⟩;have f:H s.heap.objs.size=a8:=I.hok.fresh<|u6 _;have d:(s.heap.objs.size==d6)=bt:=beq_eq_false_iff_ne.mpr<|z8<|w9 I.big;refine wpAny_Dict_empty ⟨.ref s.heap.objs.size,_,I.laid (a:=s.heap.objs.size) (o:=.ext<|dX s.heap.objs.size []) (t':=s.toks) (λ_ _ q=>v5 _ q) (u6 _)<|uS ⟨_,#[],z6 _ rfl,⟨rfl,rfl,rfl⟩,rfl,rfl⟩,rfl,?_⟩;exact D _ _ ⟨.ref M.length,M++[.dkt []],ρ++[s.heap.objs.size],m.laidM (mo:=.dkt []) f ⟨w5 _,d,M9,[],aK,.nil⟩,Grow.laidR f,.ref m.last,(show Q (.ref M.length) (M++[.dkt []])from q)⟩
noncomputable def qu(t c:u9):u9:=λS M Q=>t S M λx a=>c S a λy b=>match x,y with
 |.ref n,.tup ks=>∃s d,b[n]?=a7 (.dkt s)/\cW 8 (.tup ks)=a9/\aX s (.tup ks)=a7 d/\Q d b
 |_,_=>False
theorem JT(V:Room k X.A)(U:DE X o td)(hi:DE X i ty)(hs:GT i):DE X (.Subscript o i pos) (qu td ty):=by
 rintro c s σ H R I ⟨S,M,ρ,Q,sm,G,q,Z⟩;have un:=V.un;refine yY PySem.F.slot_dict_getitem.lookup hs<|ve (U c s σ H _ I ⟨S,M,ρ,_,sm,G,q,λv H' z=>z⟩) ?_;rintro u s1 ⟨v,J,L,rv,x,N,l,h,g1,r1,q1⟩;refine ve (hi c s1 σ J _ L ⟨S,N,l,_,h,G.grow g1,q1,λv H' z=>z⟩) ?_;rintro iv s2 ⟨w,K,f,g,y,O,m,e,C,r2,j⟩;cases x with
 |ref n =>
  cases y with
  |tup E =>
   obtain⟨ai,d,P,Y,D,q3⟩:=j;obtain⟨a,rfl,T⟩:=t9.inv_ref r1;obtain rfl:u=F6 a:=rv;obtain⟨xs,hH,r,B,W,hl,hx,_⟩:=kR f e (aE C.pre T) P;have t:=iq f 8 _ _ _ r2 g Y;rcases wF r (.tup E)with⟨z,_⟩|⟨d',p,v',e1,e2,e3,e4⟩
   rw[D]at z;cases z;rw[D]at e1;cases e1;obtain⟨b,_,rfl,_⟩:=id t;refine⟨B.typeIs,wpAny_getItem_heap (knd:=cg X.prog X.w) (k:=.tup E) (by show X.A.units+1+8<k4;lia) t B e2 ⟨v',K,f.tok _,e4,Z _ _ ⟨d,O,m,e,g1.trans C,e3,q3⟩⟩⟩
  |_=>exact j.elim
 |_=>exact j.elim
noncomputable def xZ(d e t:u9):p9:=λE S M=>t S M λv b=>d S b λx c=>e S c λy a=>match x,y with
 |.ref n,.tup ks=>∃s,a[n]?=a7 (.dkt s)/\cW 8 (.tup ks)=a9/\s.length<sizeLine/\E.nx S (a.set n<|.dkt<|iu s (.tup ks) v)
 |_,_=>False
theorem pI(h:(kvs.map (·.1)).Nodup):((iu kvs y v).map (·.1)).Nodup:=by
 unfold iu;split;rw[E2];have:((λx:D×D=>x.1) ∘ λp:D×D=>if p.1=y then(p.1,v)else p)=λx=>x.1:=by funext p;show (if p.1=y then(p.1,v)else p).1=p.1;split<;>rfl
 rw[this];exact h;rename_i q;rw[G1,List.map_singleton,List.nodup_append];refine⟨h,by simp,λa f b d=>?_⟩;rw[Km.mp d];rintro rfl;obtain⟨p,c,e⟩:=v6.mp f;refine q ?_;unfold aX;rw[Option.isSome_map,List.find?_isSome];exact⟨p,c,by simpa using e⟩
theorem Gh(hr:Room k X.A)(ho:DE X o td)(hi:DE X i ty)(hv:DE X value tv)(hs:i9 value (a7<|.Subscript o i pos') pos.line X.env=pure bt):DS X (.Assign [.Subscript o i pos'] value pos) (xZ td ty tv):=by
 rintro p s σ H E I ⟨S,M,ρ,F,sm,j,q,kk⟩;have un:=hr.un;refine wpAny_Assign_Subscript (ve (hv p s σ H _ I ⟨S,M,ρ,_,sm,j,q,λv H' z=>z⟩) λr s1 ⟨v,T,V,rv,dv,Z,G,C,g1,r1,q1⟩=>ve (ho p s1 σ T _ V ⟨S,Z,G,_,C,j.grow g1,q1,λv H' z=>z⟩) λu s2 ⟨vx,U,Y,rx,x,M2,J,D,g,r2,q2⟩=>ve (hi p s2 σ U _ Y ⟨S,M2,J,_,D,(j.grow g1).grow g,q2,λv H' z=>z⟩) ?_) hs;rintro iv s3 ⟨vy,H3,f,Q,y,M3,K,e,g3,P,B⟩;cases x with
 |ref n =>
  cases y with
  |tup O =>
   obtain⟨kvs,L,N,hl,q4⟩:=B;obtain⟨a,rfl,hn⟩:=t9.inv_ref r2;obtain rfl:u=F6 a:=rx;have h:=aE g3.pre hn;obtain⟨xs,l,r,dd,W,_,hx,nd⟩:=kR f e h L;have t:=iq f 8 _ _ _ P Q N;obtain⟨b,_,rfl,_⟩:=id t;obtain⟨_,_,rfl,m,rr⟩:=t9.inv_tup P;cases Q;have r':=DX r N (.tup m rr) ((r1.grow g).grow g3) rv;have pl:=wu (kvs:=kvs) (k:=.tup O) (d:=dv);obtain⟨w1,R⟩:=e.writeT h L l (by have:=pl;lia) W (pI nd) r';refine setE (k:=.tup O) (by show X.A.units+1+8<k4;lia) t dd (Ef f l) (by lia) λh' c w=>?_;have he:∃q,h'.get? a=a7 q:=let ⟨q,_,m,_⟩:=c;⟨q,m⟩
   exact⟨σ,_,AR f (by rw[l];exact True.intro) w he<|uS c,kk.nx σ _<|SQ.trans ((g1.trans g).trans g3) ⟨S,_,K,w1,R,(((j.grow g1).grow g).grow g3).grow R,q4⟩⟩
  |_=>exact B.elim
 |_=>exact B.elim
noncomputable def LY(r:Nat->D1)(e:u9)(t:F4):u9:=λS M Q=>e S M λx a=>match x with
 |.ref n=>(∃s,a[n]?=a7 (.dkt s))/\t S a λds b=>r n ds b Q
 |_=>False
variable{name:c5}{id:String}{e:h8}{es:List h8}{to:u9}{t:F4}{apos cpos:i4}
theorem d_mt{r:Nat->D1}(slot:Slot "dict" name id)(y:typeOf (.builtin id)=pure (.type "method_descriptor"))(V:Kw X id (pV X.K r))(W:DE X o to)(U:DA X (e::es) t)(c:l7 o name X.env (eval o X.env)=eval o X.env:=by rfl)(f:((i5 cpos<|i6 (e::es) X.env).all (λx=>!x.1)&&(l8 cpos<|l9 [] X.env).all (λx=>x.1.isSome) && decide ((e::es).length+([]:List k7).length+(if ([]:List k7).isEmpty then 0 else 1)<30))=a9:=by rfl)(d:(apos.endLine==cpos.line)=a9:=by rfl) (hs:i6 (e::es) X.env=(bt,eval e X.env)::i6 es X.env:=by rfl) (h:(i5 cpos<|i6 es X.env).any (·.1)=bt:=by rfl):DE X (.Call (.Attribute o name apos) (e::es) [] cpos) (LY r to t):=by
 rintro p s σ H R I ⟨S,M,ρ,Q,sm,J,q,Z⟩;refine Pp c f d rfl<|ve (W p s σ H _ I ⟨S,M,ρ,_,sm,J,q,λv H' z=>z⟩) ?_;rintro u s1 ⟨v,L,C,rv,x,i,A,j,g1,r1,g⟩;cases r1 with
 |@ref n a G =>
  cases rv;obtain⟨⟨k,T⟩,g⟩:=(show (∃k,i[n]?=a7 (.dkt k))/\t S i _ from g)
  obtain⟨xs,hH,r,D,Y,hl,hx,nd⟩:=kR C j G T;refine⟨"dict",id,OP,slot,y,D.typeIs,λb z=>?_,?_⟩;cases z;obtain⟨ob,_,_,h1,h2,_⟩:=D;exact⟨ob,h1,h2.2.1⟩;have F:=U cpos p s1 σ L _ C ⟨S,i,A,_,j,J.grow g1,g,λvs H' z=>z⟩;rw[hs]at F ⊢;refine NV (by show (bt||(i5 cpos<|i6 es X.env).any (·.1))=bt;rw[h]<;>rfl)<|Pk ?_;refine ve F ?_;rintro us s2 ⟨vs,N,O,l,ds,P,B,m,E,rr,q2⟩;exact V p s2 σ N (.ref a) vs (.ref a) us R O rfl l ⟨n,a,ds,P,B,Q,rfl,aE E.pre G,m,rr,q2,λv H' w=>Z v H'<|VQ.trans (g1.trans E) w⟩
 |_=>exact g.elim
noncomputable def jx(n:Nat):D1:=λds M Q=>match ds with
 | [.tup ks,d]=>∃s,M[n]?=a7 (.dkt s)/\cW 8 (.tup ks)=a9/\Q ((aX s<|.tup ks).getD d) M
 |_=>False
theorem Ci(o:Room k X.A):Kw X "dict.get" (pV X.K jx):=by
 rintro g s σ H x xs v us R I J G ⟨n,a,ds,M,ρ,Q,i,j,m,f,q,D⟩;have U:=o.un;unfold jx at q;split at q;rename_i e d;obtain⟨B,u,y,q⟩:=q
 first|have z:=Reps.inv_cons f|have z:=aC.inv_cons f
 clear f;obtain⟨_,_,rfl,C,f⟩:=z
 first|have z:=Reps.inv_cons f|have z:=aC.inv_cons f
 clear f;obtain⟨_,_,rfl,E,f⟩:=z;cases f;obtain⟨T,L,rfl,h,l⟩:=aC.two G;subst i;cases J;obtain⟨ys,N,r,c,W,O,P,S⟩:=kR I m j u;have t:=iq I 8 _ _ _ C h y;obtain⟨b,_,rfl,_⟩:=id t;refine call_meetsIn OK c.typeIs PySem.F.entry_dict_get (PySem.F.args_dict_get_3 _ _ _) (meetsH_dict_get_default (cg X.prog X.w) a b W L) ⟨by show X.A.units+1+8<k4;lia,.tup e,ys,t,c,?_⟩;rcases wF r (.tup e)with⟨z1,z2⟩|⟨d',p,v',z1,z2,z3,z4⟩
 rw[z2];rw[z1]at q;exact⟨_,H,I.tok _,l,D _ _ ⟨d,M,ρ,m,.refl,E,q⟩⟩;rw[z2];rw[z1]at q;exact⟨_,H,I.tok _,z4,D _ _ ⟨d',M,ρ,m,.refl,z3,q⟩⟩;exact q.elim
end
noncomputable def eJ(h:d5)(d:c8)(es:Array m5)(ep:Nat):Prop:=∃o,h.get? d=a7 o/\o.ExactDict/\o.data=.dict es ep
theorem eJ.ty{s:e9}{d:c8}{es:Array m5}{ep:Nat}(x:eJ s.heap d es ep):s.TypeIs (.ref d) "dict":=by obtain⟨o,h1,h2,_⟩:=x;exact⟨o,h1,h2.1⟩
theorem eJ.lt(x:eJ h d es ep):d<h.objs.size:=by obtain⟨o,h1,_⟩:=x;exact v7 h1
theorem eJ.to(x:eJ h d es ep)(k:∀o,h.get? d=a7 o->h'.get? d=a7 o):eJ h' d es ep:=by obtain⟨o,h1,h2⟩:=x;exact⟨o,k o h1,h2⟩
section
variable{prog:c7}{w:c6}{A:e8}{E:c4->e9->Prop}{s:e9}{d:c8}{es:Array m5}{ep:Nat}
theorem Db{Q:c4->e9->Prop}(h:(d==d6)=bt)(m:eJ s.heap d es ep)(b:Q (.ref s.heap.objs.size) { s with heap:=s.heap.push { cls:=.type "dict_keyiterator",data:=.fields #[.ref d,.int 0 0,.int es.size 0,.int ep 0] } }):f9 (i3 prog w) A (j4<|.ref d) Q E s:=by have n:=m.ty;obtain⟨o,h1,h2,a⟩:=m;refine Ou n F.slot_dict_iter<|J6 F.slot_dict_iter n F.entry_dict_iter ?_<|F.args_dict_iter_1 _;unfold Builtin.«dict.__iter__»;refine p6 ?_;unfold Builtin.Dict.dictSlotNone;refine p6<|NS n<|q9 ?_;refine(show f9 (i3 prog w) _ (OJ d >>= _) _ _ s from ?_);unfold OJ;rw[h];refine p6<|q9<|p6<|Nf h1 a<|p6<|Nc h1 a ?_;exact p6<|J7<|q9 ⟨_,rfl,"dict_keyiterator",_,⟨_,z6 _ rfl,rfl⟩,F.slot_dict_keyiterator_next.lookup,by simpa [j5]using b⟩
theorem Da(t:s.heap.IsKeyIter it d i es.size ep)(m:eJ s.heap d es ep)(hi:i<es.size)(b:∀h',h'.IsKeyIter it d (i+1) es.size ep->Lm it s.heap h'->Q (a7 es[i].key) { s with heap:=h' }):f9 (i3 prog w) A (j2<|.ref it) Q E s:=by
 obtain⟨o,B,f,a⟩:=id t;obtain⟨j,G,c,k⟩:=id m;unfold j2;refine p6<|LN<|Lp (name:=AA0 "__next__") t.typeIs F.slot_dict_keyiterator_next<|J6 F.slot_dict_keyiterator_next t.typeIs F.entry_dict_keyiterator_next ?_<|F.args_dict_keyiterator_next_1 _;refine p6<|q9<|p6<|p6 ?_
 first|refine p6 (O1 t.typeIs<|q9<|p6<|La B a ?_)|refine p6<|OT t.typeIs<|q9<|p6<|La B a ?_
 simp only[show NX "dict_keyiterator" = bt by decide,A7,o6];refine(show f9 (i3 prog w) _ (if (F6 d==Kz)=a9 then _ else _) _ _ s from ?_);rw[n6<|by exact LQ];refine p6<|q9<|p6<|Nf G k ?_;rw[n6<|by simp];refine p6<|q9<|p6<|Nc G k ?_;rw[n6<|by simp];refine q9 ?_;simp only[show ¬((i:Int)<0)from by lia,o6,LB,G4 hi];refine p6 ?_
 first|refine p6 (O1 t.typeIs<|q9 ?_)|refine p6<|OT t.typeIs<|q9 ?_
 refine p6<|wpAny_isOneOf_keyiter t.typeIs ?_;refine(show f9 (i3 prog w) _ (setField (.ref it) 1 (j5<|(i:Int)+1) >>= _) _ _ s from p6<|Lx B a (by simp) ?_);have h:(s.heap.update it (Mw (·.setIfInBounds 1 (j5<|(i:Int)+1)))).IsKeyIter it d (i+1) es.size ep:=by refine⟨_,Kt _ B<|Obj.isFreed_of_fields<|OA a _,(Obj.cls_mapFields ..).trans f,?_⟩;rw[OA a];simp[j5]
 refine p6 (D7 (p6 (wpAny_isOneOf_keyiter (s:={ s with heap:=s.heap.update it (Mw (·.setIfInBounds 1 (j5<|(i:Int)+1))) }) h.typeIs ?_)));refine(show f9 (i3 prog w) _ (pure es[i].key) _ _ _ from ?_);exact q9<|q9 ⟨_,rfl,q9<|b _ h<|KF ..⟩
theorem Gc(e:A.handled=a8)(t:s.heap.IsKeyIter it d es.size es.size ep)(f:eJ s.heap d es ep)(c:∀h',Heap.ExtBut it s.heap h'->Q a8 { s with heap:=h' }):f9 (i3 prog w) A (j2<|.ref it) Q E s:=by
 obtain⟨o,B,g,h⟩:=id t;obtain⟨j,G,i,k⟩:=id f;unfold j2;refine p6<|LN<|Lp (name:=AA0 "__next__") t.typeIs F.slot_dict_keyiterator_next<|J6 F.slot_dict_keyiterator_next t.typeIs F.entry_dict_keyiterator_next ?_<|F.args_dict_keyiterator_next_1 _;refine p6<|q9<|p6<|p6 ?_
 first|refine p6 (O1 t.typeIs<|q9<|p6<|La B h ?_)|refine p6<|OT t.typeIs<|q9<|p6<|La B h ?_
 simp only[show NX "dict_keyiterator" = bt by decide,A7,o6];refine(show f9 (i3 prog w) _ (if (F6 d==Kz)=a9 then _ else _) _ _ s from ?_);rw[n6<|by exact LQ];refine p6<|q9<|p6<|Nf G k ?_;rw[n6<|by simp];refine p6<|q9<|p6<|Nc G k ?_;rw[n6<|by simp];refine q9 ?_;simp only[show ¬((es.size:Int)<0)from by lia,o6,LB,Nh<|u6 es.size];refine p6 ?_
 first|refine p6 (O1 t.typeIs<|q9 ?_)|refine p6<|OT t.typeIs<|q9 ?_
 refine(show f9 (i3 prog w) _ (setField (.ref it) 0 .none >>= _) _ _ s from p6<|Lx B h (by simp) ?_);refine(show f9 (i3 prog w) _ (newExc (.type "StopIteration") [] >>= _) _ _ _ from p6 ?_);simp only[newExc,newTuple];refine p6 (J7 ?_<|by size_fits);refine p6 (m:=m9 _ _)<|wpAny_of_eq (a:=Kz) (by first|rfl|(simp only[m9];rfl)) ?_;refine J7 ?_ (by size_fits);simp only[raiseNew];refine p6<|wpAny_handled ?_;rw[show A.in1.handled=a8 from e];refine p6<|q9<|wpAny_throw ?_;refine p6<|MF (b:=a9) (T:="StopIteration") ⟨_,z6 _ rfl,rfl⟩ isSubtype_stop ?_;exact q9<|c _<|((KF ..).extBut.push _).push _
end
noncomputable def Ite(a:c8)(n:Nat):It:=⟨λi H=>∃xs,H a=a7 (.ext<|dX a xs)/\xs.length=n/\i<n,λi H v H'=>H'=H/\∀xs,H a=a7 (.ext<|dX a xs)->∃x,xs[i]?=a7 x/\v=.ref x.2.1,λi H=>(∃xs,H a=a7 (.ext<|dX a xs)/\xs.length=n)/\i=n⟩
section
variable{X:Cx}{pins:List (c8×c9)}{σ:St}{H:Hp}{s:e9}
theorem jH(I:p8 X pins σ H s)(b:H a=a7 (.ext<|dX a xs)):∃es,eJ s.heap a es xs.length/\es.size=xs.length/\∀(i:Nat) x,xs[i]?=a7 x->∃e,es[i]?=a7 e/\e.key=.ref x.2.1/\e.val=x.2.2:=by
 obtain⟨o,es,h1,h2,h,f⟩:=Ef I b;refine⟨es,⟨o,h1,h2,h⟩,?_,λi x c=>?_⟩;have:=o8 Kl f
 rwa [D6,u4]at this
 refine⟨⟨x5 X.w 8 x.1,.ref x.2.1,x.2.2⟩,?_,rfl,rfl⟩;rw[<-G3,f,D0,c];rfl
theorem wO(x:eJ h a es ep)(y:eJ h a es' ep'):es=es'/\ep=ep':=by obtain⟨o,h1,_,d⟩:=x;obtain⟨e,c,_,b⟩:=y;obtain rfl:o=e:=A6<|h1.symm.trans c;rw[d]at b;injection b with e1 e2;exact⟨e1,e2⟩
end
theorem Bz{P:c7}{w:c6}{K:u0}{tg:h8}(a it:c8)(n:Nat):Turn P w K tg (Ite a n) [it] it (λi h=>h.IsKeyIter it a i n n) where
 mem:=by simp
 obj:=λi h st b f=>by
  obtain rfl:b=it:=by simpa using f
  obtain⟨o,e,c,d⟩:=st;exact⟨o,e,λv z=>by rw[d]at z;cases z⟩
 keep:=λi h h' st k=>st.at λo e=>k it (by simp) o e
 item:=by
  intro X G L F T i p s σ H E I m st S;subst G L F;obtain⟨xs,D,rfl,hi⟩:=S;obtain⟨es,J,l,R⟩:=jH I D;obtain⟨e,M,N,e3⟩:=R i xs[i]<|v9 hi;obtain⟨t,u,f2,x,B,C⟩:=m it (by simp);have g:i<es.size:=by lia
  have O:es[i]=e:=by rw[G4 g]at M;exact A6 M
  rw[<-l]at J st;refine Da st J g λh' j sb=>?_;rw[O,N];have W:p8 X p σ H { s with heap:=h' }:=I.turned (t':=s.toks) (λb o f e=>(sb.2 b f).trans e) t u x B C;obtain⟨o,q1,q2,q3⟩:=id j;refine⟨_,rfl,xT (s:={ s with heap:=h' }) q1 q2 q3 (by decide) ⟨.ref xs[i].2.1,H,W,rfl,⟨rfl,λys hy=>?_⟩,by rw[l]at j;exact j,λb f=>(m b f).1⟩⟩;obtain⟨Z,r,Y,q⟩:=jH I hy;obtain⟨rfl,ep⟩:=wO J r;have U:i<ys.length:=by lia
  obtain⟨e',V,y,_⟩:=q i ys[i]<|v9 U;rw[G4 g,O]at V;obtain rfl:=A6 V;rw[N]at y;injection y with y;exact⟨ys[i],v9 U,by rw[y]⟩
 done:=by intro X G L F T i p s σ H E I m st S;subst G L F;obtain⟨⟨xs,D,rfl⟩,rfl⟩:=S;obtain⟨es,J,l,R⟩:=jH I D;obtain⟨t,u,f2,x,B,C⟩:=m it (by simp);rw[<-l]at J st;exact Gc (I.ok.hd T) st J λh' he=>⟨rfl,I.turned (t':=s.toks) (λb o f e=>he b o f e) t u x B C⟩
 self:=λA i s Q E st hQ=>wpAny_pyIter_keyiter st hQ
section
variable{X:Cx}{tg:h8}
noncomputable def nb(t:u9):Ky:=λS M R=>t S M λd a=>match d with
 |.ref n=>∃s,a[n]?=a7 (.dkt s)/\(s.length<=sizeLine->R ⟨s.map (·.1),λM=>M[n]?=a7 (.dkt s)⟩ a)
 |_=>False
theorem Dh{l:h8}{N:u9}(Z:DE X l N):DI X tg l (nb N):=by
 intro t s σ H R I h;obtain⟨S,M,ρ,Q,sm,sr,q,k⟩:=h;refine ve (Z t s σ H _ I ⟨S,M,ρ,_,sm,sr,q,λv H' w=>w⟩) ?_;rintro u D ⟨v,J,j,rv,d,E,G,B,g1,r1,L⟩;cases r1 with
 |@ref n a C =>
  cases rv;obtain⟨c,V,q2⟩:=(show ∃c,E[n]?=a7 (.dkt c)/\(c.length<=sizeLine->Q ⟨c.map (·.1),λM=>M[n]?=a7 (.dkt c)⟩ E)from L)
  obtain⟨xs,U,r,dd,W,hz,hx,nd⟩:=kR j B C V;obtain⟨es,T,P,_⟩:=jH j U;refine Db W T ?_;rw[P];refine⟨D.heap.objs.size,[D.heap.objs.size],_,_,J,rfl,j.kept (t':=D.toks) λb o e=>v5 _ e,Bz a _ xs.length,⟨_,z6 _ rfl,rfl,rfl⟩,λb Y=>?_,k _ J ⟨⟨c.map (·.1),λM=>M[n]?=a7 (.dkt c)⟩,E,G,B,g1,?_,q2 hz⟩⟩;obtain rfl:b=D.heap.objs.size:=by simpa using Y
  exact j.fpOk (u6 _)<|j.hok.fresh<|u6 _;refine⟨λi f K H' s' g ok hi=>?_,λi f K H' x H2 s' g ok hi y=>?_,λf K H' s' g ok=>?_⟩;obtain⟨_,_,_,ys,O,A⟩:=s'.obj _ _ _ (aE g.pre C) ok;have ly:ys.length=c.length:=by have:=o8 Kl<|iK A;rwa [u4,u4]at this
  exact⟨ys,O,by lia,by rw[u4]at hi;lia⟩;obtain⟨rfl,m⟩:=y;obtain⟨_,_,_,ys,O,A⟩:=s'.obj _ _ _ (aE g.pre C) ok;obtain⟨z,F,rfl⟩:=m ys O;obtain⟨p,hp,_,_,rp,_⟩:=eA A F;exact⟨p.1,f,by rw[D0,hp];rfl,s',.refl,rp⟩;obtain⟨_,_,_,ys,O,A⟩:=s'.obj _ _ _ (aE g.pre C) ok;have ly:ys.length=c.length:=by have:=o8 Kl<|iK A;rwa [u4,u4]at this
  exact⟨⟨ys,O,by lia⟩,by rw[u4];lia⟩
 |_=>exact L.elim
end
section
variable{prog:c7}{w:c6}{A:e8}{E:c4->e9->Prop}{s:e9}{d:c8}{es:Array m5}{ep:Nat}
theorem oY(a:(d==d6)=bt)(m:eJ s.heap d es ep)(b:Q (.ref s.heap.objs.size) { s with heap:=s.heap.push { cls:=.type "dict_values",data:=.fields #[.ref d] } }):f9 (i3 prog w) A (call (.builtin "dict.values") [.ref d]) Q E s:=by refine call_meetsIn Py m.ty PySem.F.entry_dict_values (PySem.F.args_dict_values_1 _) (S:=λ_ R s'=>s'=s/\R (.ok<|.ret<|.ref s.heap.objs.size) { s with heap:=s.heap.push { cls:=.type "dict_values",data:=.fields #[.ref d] } }) (.of_wp ?_) ⟨rfl,b⟩;rintro A R s' ⟨rfl,h⟩;refine p6 ?_;unfold Builtin.Dict.noArgs;refine p6<|NS m.ty<|q9 ?_;refine(show f9 (i3 prog w) _ (OJ d >>= _) _ _ s' from ?_);unfold OJ;rw[a];exact p6<|q9<|p6<|J7<|q9 ⟨_,rfl,h⟩
theorem sU(c:s.heap.IsValuesView v d)(m:eJ s.heap d es ep)(b:Q (.ref s.heap.objs.size) { s with heap:=s.heap.push { cls:=.type "dict_valueiterator",data:=.fields #[.ref d,.int 0 0,.int es.size 0,.int ep 0] } }):f9 (i3 prog w) A (j4<|.ref v) Q E s:=by obtain⟨g,e,h,f⟩:=id c;obtain⟨o,h1,h2,a⟩:=m;refine Ou c.typeIs F.slot_dict_values_iter<|J6 F.slot_dict_values_iter c.typeIs F.entry_dict_values_iter ?_<|F.args_dict_values_iter_1 _;unfold Builtin.«dict_values.__iter__»;refine p6<|q9<|p6 ?_;unfold Builtin.Dict_items.dictOf;refine p6<|wpAny_field e f (x:=.ref d) rfl<|q9<|p6 ?_;unfold Builtin.Dict_items.newIterator;refine p6<|Nf h1 a<|p6<|Nc h1 a ?_;simp only[show NX "dict_valueiterator" = bt by decide,A7,o6];exact J7<|q9 ⟨_,rfl,"dict_valueiterator",_,⟨_,z6 _ rfl,rfl⟩,F.slot_dict_valueiterator_next.lookup,by simpa [j5]using b⟩
theorem sT(t:s.heap.IsValIter it d i es.size ep)(m:eJ s.heap d es ep)(hi:i<es.size)(b:∀h',h'.IsValIter it d (i+1) es.size ep->Lm it s.heap h'->Q (a7 es[i].val) { s with heap:=h' }):f9 (i3 prog w) A (j2<|.ref it) Q E s:=by
 obtain⟨o,B,f,a⟩:=id t;obtain⟨j,G,c,k⟩:=id m;unfold j2;refine p6<|LN<|Lp (name:=AA0 "__next__") t.typeIs F.slot_dict_valueiterator_next<|J6 F.slot_dict_valueiterator_next t.typeIs F.entry_dict_valueiterator_next ?_<|F.args_dict_valueiterator_next_1 _;refine p6<|q9<|p6<|p6 ?_
 first|refine p6 (O0 t.typeIs<|q9<|p6<|La B a ?_)|refine p6<|OS t.typeIs<|q9<|p6<|La B a ?_
 simp only[show NX "dict_valueiterator" = bt by decide,A7,o6];refine(show f9 (i3 prog w) _ (if (F6 d==Kz)=a9 then _ else _) _ _ s from ?_);rw[n6<|by exact LQ];refine p6<|q9<|p6<|Nf G k ?_;rw[n6<|by simp];refine p6<|q9<|p6<|Nc G k ?_;rw[n6<|by simp];refine q9 ?_;simp only[show ¬((i:Int)<0)from by lia,o6,LB,G4 hi];refine p6 ?_
 first|refine p6 (O0 t.typeIs<|q9 ?_)|refine p6<|OS t.typeIs<|q9 ?_
 refine p6<|Pl t.typeIs ?_;refine(show f9 (i3 prog w) _ (setField (.ref it) 1 (j5<|(i:Int)+1) >>= _) _ _ s from p6<|Lx B a (by simp) ?_);have h:(s.heap.update it (Mw (·.setIfInBounds 1 (j5<|(i:Int)+1)))).IsValIter it d (i+1) es.size ep:=by refine⟨_,Kt _ B<|Obj.isFreed_of_fields<|OA a _,(Obj.cls_mapFields ..).trans f,?_⟩;rw[OA a];simp[j5]
 refine p6 (D7 (p6 (Pl (s:={ s with heap:=s.heap.update it (Mw (·.setIfInBounds 1 (j5<|(i:Int)+1))) }) h.typeIs (p6 (Pl (s:={ s with heap:=s.heap.update it (Mw (·.setIfInBounds 1 (j5<|(i:Int)+1))) }) h.typeIs ?_)))));refine(show f9 (i3 prog w) _ (pure es[i].val) _ _ _ from ?_);exact q9<|q9 ⟨_,rfl,q9<|b _ h<|KF ..⟩
theorem wN(e:A.handled=a8)(t:s.heap.IsValIter it d es.size es.size ep)(f:eJ s.heap d es ep)(c:∀h',Heap.ExtBut it s.heap h'->Q a8 { s with heap:=h' }):f9 (i3 prog w) A (j2<|.ref it) Q E s:=by
 obtain⟨o,B,g,h⟩:=id t;obtain⟨j,G,i,k⟩:=id f;unfold j2;refine p6<|LN<|Lp (name:=AA0 "__next__") t.typeIs F.slot_dict_valueiterator_next<|J6 F.slot_dict_valueiterator_next t.typeIs F.entry_dict_valueiterator_next ?_<|F.args_dict_valueiterator_next_1 _;refine p6<|q9<|p6<|p6 ?_
 first|refine p6 (O0 t.typeIs<|q9<|p6<|La B h ?_)|refine p6<|OS t.typeIs<|q9<|p6<|La B h ?_
 simp only[show NX "dict_valueiterator" = bt by decide,A7,o6];refine(show f9 (i3 prog w) _ (if (F6 d==Kz)=a9 then _ else _) _ _ s from ?_);rw[n6<|by exact LQ];refine p6<|q9<|p6<|Nf G k ?_;rw[n6<|by simp];refine p6<|q9<|p6<|Nc G k ?_;rw[n6<|by simp];refine q9 ?_;simp only[show ¬((es.size:Int)<0)from by lia,o6,LB,Nh<|u6 es.size];refine p6 ?_
 first|refine p6 (O0 t.typeIs<|q9 ?_)|refine p6<|OS t.typeIs<|q9 ?_
 refine(show f9 (i3 prog w) _ (setField (.ref it) 0 .none >>= _) _ _ s from p6<|Lx B h (by simp) ?_);refine(show f9 (i3 prog w) _ (newExc (.type "StopIteration") [] >>= _) _ _ _ from p6 ?_);simp only[newExc,newTuple];refine p6 (J7 ?_<|by size_fits);refine p6 (m:=m9 _ _)<|wpAny_of_eq (a:=Kz) (by first|rfl|(simp only[m9];rfl)) ?_;refine J7 ?_ (by size_fits);simp only[raiseNew];refine p6<|wpAny_handled ?_;rw[show A.in1.handled=a8 from e];refine p6<|q9<|wpAny_throw ?_;refine p6<|MF (b:=a9) (T:="StopIteration") ⟨_,z6 _ rfl,rfl⟩ isSubtype_stop ?_;exact q9<|c _<|((KF ..).extBut.push _).push _
theorem xV(l:A.handled=a8)(I:c8)(j:d≠I):Walks prog w A I [I,d] [I] es.size (λi v=>∃e,es[i]?=a7 e/\v=e.val) (λi h=>h.IsValIter I d i es.size ep/\eJ h d es ep) where
 sub:=λb a=>by simp at a;simp[a]
 frame:=λ_ _ _ st k=>⟨st.1.at λo e=>k I (by simp) o e,st.2.to λo e=>k d (by simp) o e⟩
 item:=λi s Q E hi st c=>sT st.1 st.2 hi λh' f u=>c _ h' s.toks ⟨es[i],by simp[hi],rfl⟩ ⟨f,st.2.to λo e=>u.extBut d o j e⟩ λb o a e=>u.extBut b o (λh=>a<|by simp[h]) e
 done:=λs Q E st c=>wN l st.1 st.2 λh' g=>c h' s.toks λb o a e=>g b o (λh=>a<|by simp[h]) e
 self:=λ_ _ _ _ st c=>wpAny_pyIter_valiter st.1 c
end
noncomputable def Itv(a:c8)(n:Nat):It:=⟨λi H=>∃xs x v,H a=a7 (.ext<|dX a xs)/\xs.length=n/\xs[i]?=a7 x/\aM v x.2.2,λi H v H'=>H'=H/\∀xs,H a=a7 (.ext<|dX a xs)->∃x,xs[i]?=a7 x/\aM v x.2.2,λi H=>(∃xs,H a=a7 (.ext<|dX a xs)/\xs.length=n)/\i=n⟩
theorem yx{P:c7}{w:c6}{K:u0}{tg:h8}(a it:c8)(n:Nat):Turn P w K tg (Itv a n) [it] it (λi h=>h.IsValIter it a i n n) where
 mem:=by simp
 obj:=λi h st b f=>by
  obtain rfl:b=it:=by simpa using f
  obtain⟨o,e,c,d⟩:=st;exact⟨o,e,λv z=>by rw[d]at z;cases z⟩
 keep:=λi h h' st k=>st.at λo e=>k it (by simp) o e
 item:=by
  intro X L M G T i p s σ H E I m st S;subst L M G;obtain⟨xs,x,v,F,rfl,hx,V⟩:=S;obtain⟨es,J,l,O⟩:=jH I F;obtain⟨e,t,e2,R⟩:=O i x hx;obtain⟨u,y,f2,B,C,D⟩:=m it (by simp);have g:i<es.size:=(Lr.mp t).1;have N:es[i]=e:=by rw[G4 g]at t;exact A6 t
  rw[<-l]at J st;refine sT st J g λh' j sb=>?_;rw[N,R];have Z:p8 X p σ H { s with heap:=h' }:=I.turned (t':=s.toks) (λb o f e=>(sb.2 b f).trans e) u y B C D;obtain⟨o,q1,q2,q3⟩:=id j;refine⟨_,rfl,xT (s:={ s with heap:=h' }) q1 q2 q3 (by decide) ⟨v,H,Z,V,⟨rfl,λys hy=>?_⟩,by rw[l]at j;exact j,λb f=>(m b f).1⟩⟩;obtain⟨aj,r,ai,q⟩:=jH I hy;obtain⟨rfl,ep⟩:=wO J r;have U:i<ys.length:=by lia
  obtain⟨e',W,_,Y⟩:=q i ys[i]<|v9 U;rw[G4 g,N]at W;obtain rfl:=A6 W;rw[R]at Y;exact⟨ys[i],v9 U,by rw[<-Y];exact V⟩
 done:=by intro X L M G T i p s σ H E I m st S;subst L M G;obtain⟨⟨xs,F,rfl⟩,rfl⟩:=S;obtain⟨es,J,l,O⟩:=jH I F;obtain⟨u,y,f2,B,C,D⟩:=m it (by simp);rw[<-l]at J st;exact wN (I.ok.hd T) st J λh' he=>⟨rfl,I.turned (t':=s.toks) (λb o f e=>he b o f e) u y B C D⟩
 self:=λA i s Q E st hQ=>wpAny_pyIter_valiter st hQ
section
variable{X:Cx}{tg o:h8}{to:u9}{apos cpos:i4}
noncomputable def sZ(e:u9):Ky:=λS M R=>e S M λd a=>match d with
 |.ref n=>∃s,a[n]?=a7 (.dkt s)/\(s.length<=sizeLine->R ⟨s.map (·.2),λM=>M[n]?=a7 (.dkt s)⟩ a)
 |_=>False
theorem Dg(ho:DE X o to)(l:l7 o "values" X.env (eval o X.env)=eval o X.env:=by rfl)(m:(apos.endLine==cpos.line)=a9:=by rfl):DI X tg (.Call (.Attribute o "values" apos) [] [] cpos) (sZ to):=by
 intro f s σ H R I h;obtain⟨S,M,ρ,Q,sm,sr,q,k⟩:=h;refine wpAny_Call_method0_late l m<|ve (ho f s σ H _ I ⟨S,M,ρ,_,sm,sr,q,λv H' w=>w⟩) ?_;rintro u E ⟨v,J,L,D,d,N,V,G,g1,r1,q1⟩;cases r1 with
 |@ref n a K =>
  cases D;obtain⟨c,hM,q2⟩:=(show ∃c,N[n]?=a7 (.dkt c)/\(c.length<=sizeLine->Q ⟨c.map (·.2),λM=>M[n]?=a7 (.dkt c)⟩ N)from q1)
  obtain⟨xs,hH,r,Z,W,hz,hx,nd⟩:=kR L G K hM;obtain⟨es,em,el,_⟩:=jH L hH;refine⟨"dict","dict.values",OP,Py,PySem.F.type_dict_values,Z.typeIs,λb z=>?_,NV rfl<|PySem.evalArgs_none<|oY W em ?_⟩;cases z;obtain⟨ob,_,_,h1,h2,_⟩:=Z;exact⟨ob,h1,h2.2.1⟩;have B:p8 X f σ J { E with heap:=E.heap.push { cls:=.type "dict_values",data:=.fields #[.ref a] } }:=L.kept (t':=E.toks) λb o e=>v5 _ e;have P:eJ ({ E with heap:=E.heap.push { cls:=.type "dict_values",data:=.fields #[.ref a] } }:e9).heap a es xs.length:=em.to λo e=>v5 _ e;refine sU (d:=a) ⟨_,z6 _ rfl,rfl,rfl⟩ P ?_;rw[el];have T:∀j:e9,p8 X f σ J j->N9 X f σ tg R (.ref j.heap.objs.size) { j with heap:=j.heap.push { cls:=.type "dict_valueiterator",data:=.fields #[.ref a,.int 0 0,.int xs.length 0,.int xs.length 0] } }:=λj B=>by
   refine⟨j.heap.objs.size,[j.heap.objs.size],_,_,J,rfl,B.kept (t':=j.toks) λb o e=>v5 _ e,yx a _ xs.length,⟨_,z6 _ rfl,rfl,rfl⟩,λb hb=>?_,k _ J ⟨⟨c.map (·.2),λM=>M[n]?=a7 (.dkt c)⟩,N,V,G,g1,?_,q2 hz⟩⟩;obtain rfl:b=j.heap.objs.size:=by simpa using hb
   exact B.fpOk (u6 _)<|B.hok.fresh<|u6 _;refine⟨λi t Y H' s' g ok hi=>?_,λi t Y H' x H2 s' g ok hi y=>?_,λt Y H' s' g ok=>?_⟩;obtain⟨_,_,_,ys,O,A⟩:=s'.obj _ _ _ (aE g.pre K) ok;have ly:ys.length=c.length:=by have:=o8 Kl<|iK A;rwa [u4,u4]at this
   rw[u4]at hi;have hj:i<ys.length:=by lia
   obtain⟨p,_,_,_,_,v,_,D⟩:=eA A<|v9 hj;exact⟨ys,ys[i],v,O,by lia,v9 hj,D⟩;obtain⟨rfl,C⟩:=y;obtain⟨_,_,_,ys,O,A⟩:=s'.obj _ _ _ (aE g.pre K) ok;obtain⟨z,U,rz⟩:=C ys O;obtain⟨p,hp,_,_,_,v,rp,D⟩:=eA A U;obtain rfl:x=v:=rz.inj D;exact⟨p.2,t,by rw[D0,hp];rfl,s',.refl,rp⟩;obtain⟨_,_,_,ys,O,A⟩:=s'.obj _ _ _ (aE g.pre K) ok;have ly:ys.length=c.length:=by have:=o8 Kl<|iK A;rwa [u4,u4]at this
   exact⟨⟨ys,O,by lia⟩,by rw[u4];lia⟩
  exact T _ B
 |_=>exact q1.elim
end
section
variable{prog:c7}{w:c6}{d r:c8}{es:Array m5}{ep:Nat}
theorem CZ:KdlSrc prog w "dict_values" r d es.size (λi v=>∃e,es[i]?=a7 e/\v=e.val) (λh=>h.IsValuesView r d/\eJ h d es ep) where
 type:=λ_ m=>m.1.typeIs
 there:=λ_ m=>⟨let ⟨_,ho,_⟩:=m.1;v7 ho,m.2.lt⟩
 keep:=λ_ _ m k=>⟨let ⟨o,ho,x⟩:=m.1;⟨o,k r (.inl rfl) o ho,x⟩,m.2.to λo e=>k d (.inr rfl) o e⟩
 notList:=by decide
 notTuple:=by decide
 hint:=λ_ _ _ _ m q=>kdl_hint_values m.1.typeIs q
 iter:=λ_ _ a m=>⟨_,_,(λ_ _ q=>sU m.1 m.2 q),xV a _<|w9 m.2.lt,⟨⟨_,z6 _ rfl,rfl,rfl⟩,m.2.to λo e=>v5 _ e⟩⟩
end
theorem yu{K:u0}{ρ:List c8}{H:Hp}{kvs:List (D×D)}{xs:List (D×c8×c4)}(r:Paired (yj K ρ H) kvs xs):∃ws,Reps K ρ H (kvs.map (·.2)) ws/\aC ws (xs.map λx=>x.2.2):=by
 induction r with
 |nil=>exact⟨[],.nil,.nil⟩
 |cons h t i=>obtain⟨_,_,_,v,c,j⟩:=h;obtain⟨ws,h1,h2⟩:=i;exact⟨v::ws,.cons c h1,.cons j h2⟩
section
variable{X:Cx}{o:h8}{to:u9}{apos cpos p pos:i4}{k:Nat}
noncomputable def jK(e:u9):u9:=λS M Q=>e S M λd a=>match d with
 |.ref n=>∃s,a[n]?=a7 (.dkt s)/\Q (.ref a.length) (a++[.lst (s.map (·.2))])
 |_=>False
theorem xY(hc:X.calm=a9)(ho:DE X o to)(hm:X.mg "list" = a8)(hg:X.env.kindOf "list" = a7 .globalImplicit)(hs:i6 [L3 (.Attribute o "values" apos) [] [] cpos] X.env=[(bt,eval (L3 (.Attribute o "values" apos) [] [] cpos) X.env)])(i:l7 o "values" X.env (eval o X.env)=eval o X.env) (k:(apos.endLine==cpos.line)=a9):DE X (.Call (.Name "list" p) [.Call (.Attribute o "values" apos) [] [] cpos] [] pos) (jK to):=by
 rintro g s σ H R I ⟨S,M,ρ,Q,sm,sr,q,kk⟩;refine ML<|kP I hg hm (by rfl) ?_;refine callWith_type1 ?_ (by rw[hs];rfl) rfl;rw[hs];refine OE<|wpAny_Call_method0_late i k<|ve (ho g s σ H _ I ⟨S,M,ρ,_,sm,sr,q,λv H' w=>w⟩) ?_;rintro u f ⟨v,C,y,rv,x,A,aj,m,g1,r1,E⟩;cases r1 with
 |@ref n a hn =>
  cases rv;obtain⟨l,hM,q2⟩:=(show ∃l,A[n]?=a7 (.dkt l)/\Q (.ref A.length) (A++[.lst (l.map (·.2))])from E)
  obtain⟨xs,Z,r,D,W,hz,hx,nd⟩:=kR y m hn hM;obtain⟨es,J,el,T⟩:=jH y Z;refine⟨"dict","dict.values",OP,Py,PySem.F.type_dict_values,D.typeIs,λb z=>?_,NV rfl<|PySem.evalArgs_none<|oY W J ?_⟩;cases z;obtain⟨ob,_,_,h1,h2,_⟩:=D;exact⟨ob,h1,h2.2.1⟩;refine Oy ?_;have t:p8 X g σ C { f with heap:=f.heap.push { cls:=.type "dict_values",data:=.fields #[.ref a] } }:=y.kept (t':=f.toks) λb o e=>v5 _ e;have P:eJ ({ f with heap:=f.heap.push { cls:=.type "dict_values",data:=.fields #[.ref a] } }:e9).heap a es xs.length:=J.to λo e=>v5 _ e;have G:({ f with heap:=f.heap.push { cls:=.type "dict_values",data:=.fields #[.ref a] } }:e9).heap.IsValuesView f.heap.objs.size a:=⟨_,z6 _ rfl,rfl,rfl⟩
  generalize ({ f with heap:=f.heap.push { cls:=.type "dict_values",data:=.fields #[.ref a] } }:e9)=B at t P G ⊢;refine kdl_call (CZ (es:=es) (ep:=xs.length)) (t.ok.hd hc) ⟨G,P⟩ (by lia) λh' tk c U hk Y h=>?_;obtain⟨ws,K,w2⟩:=yu r;have O:c.toList=xs.map λx=>x.2.2:=by
   refine Ox λj=>?_;rw[G3,D0];cases L:xs[j]? with
   |none =>
    have:xs.length<=j:=by rw[List.getElem?_eq_none_iff]at L;exact L
    rw[Nh (by have:=h.1;lia)];rfl
   |some x =>
    have ai:=(w6.mp L).1;have d:j<c.size:=by have:=h.1;lia
    obtain⟨e,g1,V⟩:=h.2 j c[j]<|G4 d;obtain⟨e',N,_,z2⟩:=T j x L;rw[g1]at N;obtain rfl:=A6 N;rw[G4 d,V,z2];rfl
  have hf:C B.heap.objs.size=a8:=t.hok.fresh<|u6 _;refine⟨.ref B.heap.objs.size,_,t.laid (a:=B.heap.objs.size) (o:=.lst ws) (t':=tk) hk (u6 _) ⟨by rw[<-K.length,u4];exact hz,c.toList,U,by rw[O];exact w2,by simpa using Y⟩,rfl,kk _ _<|VQ.laidL m g1 K hf q2⟩
 |_=>exact E.elim
noncomputable def GN:E1:=λx y M Q=>match x,y with
 |.tup ks,.ref n=>∃s,M[n]?=a7 (.dkt s)/\cW 8 (.tup ks)=a9/\Q (.bl (aX s<|.tup ks).isSome) M
 |_,_=>False
theorem Iz(i:Room k X.A):E8 X (j8 .In) GN:=by
 rintro p s σ H J K v u R I z B ⟨x,y,M,ρ,Q,m,l,o,q,D⟩;have G:=i.un;cases x with
 |tup c =>
  cases y with
  |ref n =>
   obtain⟨d,h,j,q⟩:=q;obtain⟨a,rfl,g⟩:=t9.inv_ref o;cases B;obtain⟨xs,C,r,f,W,E,F,_⟩:=kR I m g h;have t:=iq I 8 _ _ _ l z j;obtain⟨b,_,rfl,_⟩:=id t;refine wpAny_in_heap (knd:=cg X.prog X.w) (k:=.tup c) (by show X.A.units+1+8<k4;lia) t W f ?_;have e:(atKey xs<|.tup c).isSome=(aX d<|.tup c).isSome:=by rcases wF r (.tup c)with⟨z1,z2⟩|⟨_,_,_,z1,z2,_⟩<;>rw[z1,z2]<;>rfl
   rw[e];exact iO (I.tok _) m D q
  |_=>exact q.elim
 |_=>exact q.elim
noncomputable def wQ:p9:=λ_ _ _=>False
theorem Dc{st:i7}:DS X st wQ:=λp s σ H E I ⟨S,M,ρ,F,m,e,q,D⟩=>q.elim
end
section
variable{X:Cx}{o i e:h8}{to ti te:u9}{pos pos' p apos cpos:i4}{k:Nat}{tg:h8}{es:List h8}{t:F4}{st:i7}
theorem IY:HE X (.Dict [] [] pos) ya:=⟨JS⟩
theorem IZ(r:Room k X.A)(B:HE X o to)(hi:HE X i ti)(hs:GT i:=by intro _ _;kernel_rfl):HE X (.Subscript o i pos) (qu to ti):=⟨JT r B.ok hi.ok hs⟩
theorem Aj(r:Room k X.A)(B:HE X o to)(hi:HE X i ti)(c:HE X e te)(hs:i9 e (a7<|.Subscript o i pos') pos.line X.env=pure bt:=by kernel_rfl):HS X (.Assign [.Subscript o i pos'] e pos) (xZ to ti te):=⟨Gh r B.ok hi.ok c.ok hs⟩
theorem FF(i:Room k X.A)(B:HE X o to)(f:HA X (e::es) t)(b:l7 o "get" X.env (eval o X.env)=eval o X.env:=by kernel_rfl)(w:((i5 cpos<|i6 (e::es) X.env).all (λx=>!x.1)&&(l8 cpos<|l9 [] X.env).all (λx=>x.1.isSome) && decide ((e::es).length+([]:List k7).length+(if ([]:List k7).isEmpty then 0 else 1)<30))=a9:=by kernel_rfl)(c:(apos.endLine==cpos.line)=a9:=by kernel_rfl) (hs:i6 (e::es) X.env=(bt,eval e X.env)::i6 es X.env:=by kernel_rfl) (n:(i5 cpos<|i6 es X.env).any (·.1)=bt:=by kernel_rfl):HE X (.Call (.Attribute o "get" apos) (e::es) [] cpos) (LY jx to t):=⟨d_mt OK PySem.F.type_dict_get (Ci i) B.ok f.ok b w c hs n⟩
theorem CA(h:HE X e te):HI X tg e (nb te):=⟨Dh h.ok⟩
theorem Cz(B:HE X o to)(b:l7 o "values" X.env (eval o X.env)=eval o X.env:=by kernel_rfl)(c:(apos.endLine==cpos.line)=a9:=by kernel_rfl):HI X tg (.Call (.Attribute o "values" apos) [] [] cpos) (sZ to):=⟨Dg B.ok b c⟩
theorem xQ(B:HE X o to)(d:X.mg "list" = a8)(f:X.calm=a9:=by kernel_rfl)(S:X.env.kindOf "list" = a7 .globalImplicit:=by kernel_rfl)(hs:i6 [L3 (.Attribute o "values" apos) [] [] cpos] X.env=[(bt,eval (L3 (.Attribute o "values" apos) [] [] cpos) X.env)]:=by kernel_rfl)(b:l7 o "values" X.env (eval o X.env)=eval o X.env:=by kernel_rfl) (c:(apos.endLine==cpos.line)=a9:=by kernel_rfl):HE X (.Call (.Name "list" p) [.Call (.Attribute o "values" apos) [] [] cpos] [] pos) (jK to):=⟨xY f B.ok d S hs b c⟩
theorem Jm(i:Room k X.A):F0 X (j8 .In) GN:=⟨Iz i⟩
theorem wG:HS X st wQ:=⟨Dc⟩
end
theorem wI{K:u0}{ρ:List c8}{H:Hp}:∀{ns:List Int}{ws:List V}{its:List c4},Reps K ρ H (ns.map D.int) ws->aC ws its->IntsAre its ns
 | [],_,_,r,v=>by cases r;cases v;exact .nil
 |n::ns,_,_,r,v=>by
  rw[C0]at r
  first|have hzz:=Reps.inv_cons r|have hzz:=aC.inv_cons r
  clear r;obtain⟨_,_,rfl,h,t⟩:=hzz;cases h;cases v with
  |cons q q'=>obtain⟨tk,rfl⟩:=q;exact .cons _ _<|wI t q'
section
variable{X:Cx}{k:Nat}
noncomputable def xq:D1:=λds M Q=>match ds with
 | [.ref n]=>∃ns:List Int,ax M n (ns.map D.int)/\ns≠[]/\∀m,m∈ns->(∀a∈ns,a<=m)->Q (.int m) M
 |_=>False
theorem GA(B:X.calm=a9):nN X (.builtin "max") xq:=by
 rintro v s σ H vs us R I P ⟨ds,M,ρ,Q,x,g,q,F⟩;unfold xq at q;split at q;obtain⟨ns,L,d,q⟩:=q
 first|have f:=Reps.inv_cons g|have f:=aC.inv_cons g
 clear g;obtain⟨_,_,rfl,K,g⟩:=f;cases g;obtain⟨u,rfl,y⟩:=aC.one P;obtain⟨a,rfl,e⟩:=t9.inv_ref K;cases y;obtain⟨Z,E,r⟩:=ax.seq x L e;obtain⟨its,O,w,W⟩:=I.list E;obtain⟨m,n,V⟩:=I.loc;obtain⟨J,Y,c,C,j,h⟩:=id w;have k:a≠X.env.locals:=λz=>by subst z;obtain⟨o,es,U,e,D,_⟩:=n;rw[c]at e;cases e;rw[D]at h;cases h
 have p:∀b o,b≠X.env.locals->s.heap.get? b=a7 o->(b,o)∈[]++(a,J)::Att.ledger s.heap X.env.locals a:=λb o h1 h2=>by rw[D5,z9,Att.mem_ledger];by_cases l:b=a;subst l;rw[c]at h2;cases h2;exact .inl rfl;exact .inr ⟨h1,l,h2⟩
 refine max_list_N (I.ok.hd B) (Att.fr_all n) (Att.news_ledger k c) w.isList (wI r O) (List.length_pos_iff.mpr d) λh' i t S T N h1 h2=>?_;have G:∀b u,b≠X.env.locals->s.heap.get? b=a7 u->h'.get? b=a7 u:=λb u A e=>(N (b,u)<|p b u A e).1;exact⟨.int i,H,I.keptF (t':=S) G n T.ns,⟨t,rfl⟩,F _ _ ⟨.int i,M,ρ,x,.refl,.int i,q i h1 h2⟩⟩;exact q.elim
theorem Kd:d9 "max" = a7 (.builtin "max"):=by decide +kernel
theorem FV(f:X.calm=a9:=by kernel_rfl):HC X (.builtin "max") xq:=⟨GA f⟩
end
end L2
namespace L2
open PySem PySem.Spec PyProof.Rows DL PySem.W PySem.Calls PyProof.V
structure PairsAt(es:Array m5)(lo:c8)(h:d5)(as:List c8):Prop where
 nd:as.Nodup
 above:∀a∈as,lo<a
 tup:∀(j:Nat) (a:c8),as[j]?=a7 a->∃e,es[j]?=a7 e/\h.get? a=a7 { cls:=.type "tuple",data:=.seq #[e.key,e.val] }
end L2
namespace L2
open PySem PySem.Spec PyProof.Rows DL PySem.W
section
variable{X:Cx}
noncomputable def GL:E1:=λx y M Q=>match x,y with
 |.int i,.int j=>CPow i j/\Q (.int<|i*2 ^ j.toNat) M
 |_,_=>False
theorem Iv:E8 X (j7 .LShift) GL:=by refine C1.imp Ih ?_;rintro g l H R ⟨x,y,M,ρ,Q,s,r,m,q,k⟩;unfold GL at q;split at q;cases r;cases m;exact⟨_,_,rfl,rfl,q.1,k _ H<|VQ.now s (.int _) q.2⟩;exact q.elim
theorem Ji:F0 X (j7 .LShift) GL:=⟨Iv⟩
theorem xR(i:Room k X.A):HC X (.builtin "sorted") jY:=⟨AX i⟩
end
noncomputable def dictOf(ps:List (D×D)):List (D×D):=ps.foldl (λs p=>iu s p.1 p.2) []
theorem bu:dictOf (ps++[p])=iu (dictOf ps) p.1 p.2:=by unfold dictOf;rw[NM];rfl
theorem sQ:∀(ps kvs:List (D×D)),(ps.foldl (λkvs p=>iu kvs p.1 p.2) kvs).length<=kvs.length+ps.length
 | [],_=>u6 _
 |p::ps,kvs=>by have h1:=sQ ps<|iu kvs p.1 p.2;have h2:=wu (kvs:=kvs) (k:=p.1) (d:=p.2);rw[List.foldl_cons,C2];lia
theorem kA:(dictOf ps).length<=ps.length:=by have:=sQ ps [];rw[B8,Nat.zero_add]at this;exact this
theorem jG:entryFor table "dict.update.loop" = a7 Builtin.«dict.update.loop»:=entryFor_of_tree<|by kernel_rfl
theorem cI:plainId "dict.update.loop" = a9:=by decide +kernel
theorem ko:typeLookup (.type "list") "__getattr__" = pure a8:=by rw[NH,NT];kernel_rfl
theorem nD:typeLookup (.type "list") "keys" = pure a8:=by rw[NH,NT];kernel_rfl
section
variable{prog:c7}{w:c6}{A:e8}{E:c4->e9->Prop}{h:d5}{g:Array GenState}{d:Drawn}{t:Nat}{os:OsState}{a:c8}{o:c9}
theorem zY(x:h.get? a=a7 o)(i:o.cls=.type "list")(j:o.dict=a8)(b:o.data=.seq its nn)(f:A.handled=a8)(q:∀h' tk e,Heap.NewAttrErr h h' e (.ref a) "keys"->R (.error<|.ref e) ⟨h',g,d,tk,os⟩):k6 (i3 prog w) A (.call (.builtin "list.__getattribute__") ⟨[.ref a,.str "keys" u],[]⟩) R ⟨h,g,d,t,os⟩:=by
 obtain⟨oc,k,c,G⟩:=o;obtain rfl:oc=.type "list":=i;obtain rfl:k=a8:=j;obtain rfl:c=.seq its nn:=b;have n:(⟨h,g,d,t,os⟩:e9).TypeIs (.ref a) "list":=⟨_,x,rfl⟩
 have l:=nD;refine codeAny_call_builtin O3.plain PySem.F.entry_list_ga<|O3.check _ _ _ _ _ _ _ _ n (PySem.F.args_list_getattribute_2 _ _) ?_;unfold Builtin.«object.__getattribute__»
 repeat (any_goals (first|assumption|wp_step))
 refine wpAny_raiseAttrError (o:=.ref a) (name:="keys") (by first|exact f|simpa using f) q ?_;exact attrMsg_fits (by decide +kernel)<|by size_fits
theorem uF(x:h.get? a=a7 o)(l:o.cls=.type "list")(j:o.dict=a8)(c:o.data=.seq its nn)(k:A.handled=a8)(q:∀h' tk,(∀b ob,h.get? b=a7 ob->h'.get? b=a7 ob)->Q a8 ⟨h',g,d,tk,os⟩):f9 (i3 prog w) A (getAttr? (.ref a) "keys") Q E ⟨h,g,d,t,os⟩:=by
 obtain⟨oc,m,i,G⟩:=o;obtain rfl:oc=.type "list":=l;obtain rfl:m=a8:=j;obtain rfl:i=.seq its nn:=c;have n:∀tk,(⟨h,g,d,tk,os⟩:e9).TypeIs (.ref a) "list":=λ_=>⟨_,x,rfl⟩
 have p:=sub_AttributeError;have M:=O3.lookup;have r:=O3.bind<|.ref a;have y:=ko;unfold getAttr? getAttrBy? getAttrBy
 repeat (any_goals (first|assumption|exact n _|wp_step))
 refine zY x rfl rfl rfl (by first|exact k|simpa using k) λh' tk e f=>?_;obtain⟨t',u,s⟩:=f.there;unfold getattributeRaised
 repeat (any_goals (first|assumption|wp_step))
 exact q _ _ f.keeps
end
theorem dsetE(u:(cg prog w).room A)(t:(cg prog w).is s.heap k b)(r:s.heap.DictOfH (cg prog w) d xs) (x:dX d xs prog w s.heap) (hz:xs.length<=sizeLine)(m:∀h',dX d (storedH xs k b v) prog w h'->Lm d s.heap h'->Q () { s with heap:=h',toks:=s.toks+(cg prog w).draws k }):f9 (i3 prog w) A (dictSet d (.ref b) v) Q E s:=by
 obtain⟨_,_,_,_,_,_,_,g,f⟩:=r;obtain⟨o,es,B,n,h,c⟩:=x;have i:es.toList=xs.map (d7<|cg prog w):=c;unfold dictSet
 try with_reducible refine D7 ?_
 refine p6<|(cg prog w).pyHash u t ?_;unfold dictSetHashed
 try with_reducible refine D7 ?_
 have z:es.size=xs.length:=size_of_entries i;refine p6<|wpAny_dictFind_heap (s:={ s with toks:=s.toks+(cg prog w).draws k }) u t B h i g f (λa=>?_) λj p L=>?_;refine p6<|Lj<|wpAny_updateDictKeys (hz:=by lia) (s:={ s with toks:=s.toks+(cg prog w).draws k }) B h<|m _ ⟨_,es.push ⟨(cg prog w).hash k,.ref b,v⟩,Kt _ B<|OF<|OH h _,n.mapDictKeys _,?_,?_⟩<|KF ..;rw[OH h,storedH_new<|Os a,z5];rfl;rw[storedH_new<|Os a];rw[Ow,i,G1];rfl;refine p6<|Lj<|p6<|wpAny_updateDict (s:={ s with toks:=s.toks+(cg prog w).draws k }) B h<|wpAny_point<|m _ ⟨_,es.modify j λe=>{ e with val:=v },Kt _ B<|OF<|Ol h _,n.mapDict _,?_,?_⟩<|KF ..;rw[Ol h,storedH_old<|atKey_of_get f L,u4];rw[storedH_old<|atKey_of_get f L];have q:=modify_map_putAt (d7<|cg prog w) (λe:m5=>{ e with val:=v }) k v (λ_ _=>rfl) f L;rw[<-i]at q;obtain⟨l⟩:=es;have y:(Array.modify ⟨l⟩ j λe:m5=>{ e with val:=v }).toList=(xs.map<|putAt k v).map (d7<|cg prog w):=by simpa using q
 exact y
section
variable{X:Cx}{pins:List (c8×c9)}{σ:St}{H:Hp}{ρ:List c8}{M:t5}{A:e8}{E:c4->e9->Prop}{s:e9}
structure DD(X:Cx)(ρ:List c8)(H:Hp)(h:d5)(a:c8)(kvs:List (D×D))(xs:List (D×c8×c4)):Prop where
 dx:dX a xs X.prog X.w h
 kv:Paired (yj X.K ρ H) kvs xs
 nd:(kvs.map (·.1)).Nodup
theorem DD.at(x:DD X ρ H h a kvs xs)(k:∀o,h.get? a=a7 o->h'.get? a=a7 o):DD X ρ H h' a kvs xs:=by obtain⟨⟨o,es,t,l,R,I⟩,v,p⟩:=x;exact⟨⟨o,es,k _ t,l,R,I⟩,v,p⟩
theorem DD.len(x:DD X ρ H h a kvs xs):xs.length=kvs.length:=by
 have:=o8 Kl<|iK x.kv
 rwa [u4,u4]at this
theorem DD.of(I:p8 X pins σ H s)(x:DD X ρ H s.heap a kvs xs):s.heap.DictOfH (cg X.prog X.w) a xs:=by obtain⟨o,es,t,l,R,e⟩:=x.dx;have k:=iK x.kv;refine⟨o,es,_,t,l,R,e,λy O=>?_,by rw[k];exact x.nd⟩;obtain⟨i,hi⟩:=Lo O;obtain⟨p,_,c,j,q,_⟩:=eA x.kv hi;rw[<-c];exact iq I 8 _ _ _ q rfl j
theorem Gu(I:p8 X pins σ H s)(hu:A.units+20<k4)(W:Walks X.prog X.w A.in1 J fp wr m P Sx)(S:c8)(x:S∉fp)(N:s.heap.get? S=a8) (E:∀b∈wr,s.heap.get? b=a8) (ps:List (D×D)) (hm:ps.length=m) (C:∀i v,P i v->∃p,ps[i]?=a7 p/\(∃vv,t9 X.K ρ H (.tup [p.1,p.2]) vv/\aM vv v)/\cW 8 p.1=a9/\ij p.1=a9) (hb:m<=1000):∀(k i:Nat) (h:d5) (tk:Nat) (xs:List (D×c8×c4)) (j:Int) (t:Tok),m-i=k->i<=m->Sx i h->DD X ρ H h S (dictOf<|ps.take i) xs->(∀b u,s.heap.get? b=a7 u->h.get? b=a7 u) ->(∀h' tk xs',(∀b u,s.heap.get? b=a7 u->h'.get? b=a7 u)->DD X ρ H h' S (dictOf ps) xs'->R (.ok<|.ret .none) { s with heap:=h',toks:=tk }) ->k6 (i3 X.prog X.w) A (.builtin "dict.update.loop" ⟨[.ref S,.ref J,.int j t,.none],[]⟩) R { s with heap:=h,toks:=tk }:=by
 have y:S∉wr:=λh=>x<|W.sub _ h;intro k;induction k with
 |zero =>
  intro i h tk xs j t hk hi q G f Y;obtain rfl:i=m:=by lia
  refine Lb jG ?_;rw[LS cI _];refine(show f9 (i3 X.prog X.w) A.in1 (j2 (.ref J) >>= _) _ _ _ from p6<|W.done _ _ _ q λh' tk d=>?_);rw[<-hm,LA]at G;refine(show f9 (i3 X.prog X.w) A.in1 (Builtin.Dict.addKeywords S [] >>= _) _ _ _ from p6<|q9<|q9 ?_);exact Y h' tk xs (λb u e=>d b u (λz=>by rw[E b z]at e;cases e)<|f b u e)<|G.at λo e=>d S o y e
 |succ k ih =>
  intro i h tk xs j t hk hi q G f Y;refine Lb jG ?_;rw[LS cI _];refine(show f9 (i3 X.prog X.w) A.in1 (j2 (.ref J) >>= _) _ _ _ from p6<|W.item i _ _ _ (by lia) q λv h' tk hP B d=>?_);obtain⟨p,hp,⟨vv,r,rv⟩,kd,it⟩:=C i v hP;have n:∀b u,s.heap.get? b=a7 u->h'.get? b=a7 u:=λb u e=>d b u (λz=>by rw[E b z]at e;cases e)<|f b u e;have L:p8 X pins σ H { s with heap:=h',toks:=tk }:=I.kept n;have c:=G.at λo e=>d S o y e;have hl:=c.len;have dl:=kA (ps:=ps.take i);have dd:=c.of (s:={ s with heap:=h',toks:=tk }) L;obtain⟨a,vs,rfl,hq,l⟩:=t9.inv_tup r;cases rv
  first|have g:=Reps.inv_cons l|have g:=aC.inv_cons l
  clear l;obtain⟨_,_,rfl,r1,l⟩:=g
  first|have g:=Reps.inv_cons l|have g:=aC.inv_cons l
  clear l;obtain⟨_,_,rfl,r2,l⟩:=g;cases l;obtain⟨its,U,pl,hz⟩:=L.tuple hq;obtain⟨u1,u2,rfl,Z,e2⟩:=aC.two U;obtain⟨k0,d0⟩:=p;cases k0 with
  |tup ks =>
   have F:=iq L 8 _ _ _ r1 Z kd;obtain⟨b,_,rfl,_⟩:=id F;obtain⟨_,_,rfl,Q,V⟩:=t9.inv_tup r1;cases Z;obtain⟨o,ho,hc,nn,hd⟩:=pl;have hT:({ s with heap:=h',toks:=tk }:e9).TypeIs (.ref a) "tuple":=⟨o,ho,hc⟩
   refine p6<|D7<|p6<|wpAny_tryCatch ?_;unfold Builtin.Dict.pairItems;refine p6<|Ll hT ?_;rw[n5<|by decide];refine p6<|L7 ho hd<|q9 ?_;refine(show f9 (i3 X.prog X.w) _ (i8 [.ref b,u2]<|dictSet S (.ref b) u2) _ _ _ from D7 ?_);refine dsetE (k:=.tup ks) (s:={ s with heap:=h',toks:=tk }) (by show A.units+1+8<k4;lia) F dd c.dx (ak<|by rw[hl];rw[G2]at dl;lia) λh2 M sb=>?_;have k2:∀b u,b≠S->h'.get? b=a7 u->h2.get? b=a7 u:=λb u hb e=>(sb.2 b hb).trans e;have T:=DX c.kv kd (.tup Q V) r2 e2;have et:ps.take (i+1)=ps.take i++[(.tup ks,d0)]:=by rw[Mf,hp];rfl
   refine q9 ⟨LO cI _,ih (i+1) h2 _ _ _ _ (by lia) (by lia) (W.frame _ h' h2 B λb' O o e=>k2 b' o (λz=>x<|z ▸ O) e) ⟨M,?_,?_⟩ (λb u e=>k2 b u (λz=>by rw[z,N]at e;cases e)<|n b u e) Y⟩;rw[et,bu];exact T;rw[et,bu];exact pI c.nd
  |_=>cases it
theorem GC(I:p8 X pins σ H s)(Y:A.units+30<k4)(B:A.handled=a8)(C:s.heap.IsList l its)(f:s.heap.get? l=a7 ol)(j:ol.dict=a8)(ps:List (D×D))(R:ps.length=its.size)(y:∀(i:Nat) v,its[i]?=a7 v->∃p:D×D,ps[i]?=a7 p/\(∃vv,t9 X.K ρ H (.tup [p.1,p.2]) vv/\aM vv v)/\cW 8 p.1=a9/\ij p.1=a9) (P:its.size<=1000)(h:∀h' tk xs,(∀b u,s.heap.get? b=a7 u->h'.get? b=a7 u)->DD X ρ H h' s.heap.objs.size (dictOf ps) xs->Q (.ref s.heap.objs.size) { s with heap:=h',toks:=tk }):f9 (i3 X.prog X.w) A (call (.type "dict") [.ref l]) Q E s:=by
 refine callType_codes (Q₁:=λg s₁=>g=.ref s.heap.objs.size/\s₁={ s with heap:=s.heap.push { cls:=.type "dict",data:=.dict #[] } }) PySem.F.kt_called_dict (PySem.F.kt_typeCall_dict_1 _) PySem.F.entry_dict_init (kt_code_dict_new _ ⟨rfl,rfl⟩) ?_;rintro g s₁ ⟨rfl,rfl⟩;have S:(s.heap.push { cls:=.type "dict",data:=.dict #[] }).get? s.heap.objs.size=a7 { cls:=.type "dict",data:=.dict #[] }:=z6 _ rfl;have z:Mv { s with heap:=s.heap.push { cls:=.type "dict",data:=.dict #[] } } (.ref s.heap.objs.size) "dict":=⟨_,S,rfl⟩
 obtain⟨a,O,r,Z,n⟩:=id C;obtain rfl:a=ol:=A6<|O.symm.trans f;have c:(s.heap.push { cls:=.type "dict",data:=.dict #[] }).get? l=a7 a:=v5 _ f;have L:Mv { s with heap:=s.heap.push { cls:=.type "dict",data:=.dict #[] } } (.ref l) "list":=⟨a,c,r⟩
 have V:l<s.heap.objs.size:=v7 f;refine⟨z,PySem.F.args_dict_init_2 _ _,?_⟩;unfold Builtin.«dict.__init__»;refine p6 ?_;unfold Builtin.Dict.selfAndRest;refine p6<|NS z ?_;refine(show f9 _ _ (pure (s.heap.objs.size,[F6 l])) _ _ _ from q9 ?_);refine(show f9 _ _ (OO "dict.__init__" s.heap.objs.size (.ref l) [] .none) _ _ _ from ?_);unfold OO;refine p6<|Ll L ?_;rw[n5<|by decide];refine p6<|uF c r j n (by simpa using B) λh1 x J=>?_;have k:∀b u,s.heap.get? b=a7 u->h1.get? b=a7 u:=λb u e=>J b u<|v5 _ e;rw[n5<|show (a8:Option c4).isNone=a9 from rfl];refine p6<|Lj ?_;obtain⟨oI,St,t,W,st⟩:=(TxSrc.list (prog:=X.prog) (w:=X.w) C).iter A.in1.in1 { s with heap:=h1,toks:=x } (by simpa using B) λo e=>k _ _ e;refine p6<|t _ _ ?_;have d:=J _ _ S;have M:s.heap.objs.size<h1.objs.size:=v7 d;have G:s.heap.get? s.heap.objs.size=a8:=by
  cases q:s.heap.get? s.heap.objs.size with
  |none=>rfl
  |some o=>exact n9 (v7 q)<|D8 _
 refine q9 ⟨LO cI _,Gu (A:=A.in1) (s:=s) I (by show A.units+1+20<k4;lia) W s.heap.objs.size ?_ G ?_ ps R y P its.size 0 _ _ [] _ _ rfl (w5 _) st ⟨⟨_,#[],v5 _ d,⟨rfl,rfl,rfl⟩,rfl,rfl⟩,.nil,M9⟩ (λb u e=>v5 _<|k b u e) λh2 T xs U N=>⟨rfl,h h2 T xs U N⟩⟩;simp only[z9,Om,or_false,not_or];exact⟨w9 M,NA V⟩;intro b m;rw[Km.mp m];cases q:s.heap.get? h1.objs.size with
 |none=>rfl
 |some o=>exact n9 (Nat.lt_trans (v7 q) M)<|D8 _
end
section
variable{X:Cx}{k:Nat}
noncomputable def ir:D1:=λds M Q=>match ds with
 | [.ref n]=>∃ps:List (D×D),ax M n (ps.map λp=>.tup [p.1,p.2])/\(∀p∈ps,cW 8 p.1=a9/\ij p.1=a9)/\ps.length<=1000/\Q (.ref M.length) (M++[.dkt<|dictOf ps])
 |_=>False
theorem AY(J:Room k X.A)(D:X.calm=a9):nN X (.type "dict") ir:=by
 rintro x s σ H vs us R I Y ⟨ds,M,ρ,Q,n,b,q,N⟩;have un:=J.un;unfold ir at q;split at q;obtain⟨ps,L,F,hl,q⟩:=q
 first|have z:=Reps.inv_cons b|have z:=aC.inv_cons b
 clear b;obtain⟨_,_,rfl,l,b⟩:=z;cases b;obtain⟨u,rfl,t⟩:=aC.one Y;obtain⟨a,rfl,e⟩:=t9.inv_ref l;cases t;obtain⟨ws,G,r⟩:=ax.seq n L e;obtain⟨its,B,y,hz⟩:=I.list G;obtain⟨oa,nn,g,E,j,h⟩:=id y;have P:=r.length;have li:=B.length;rw[u4]at P;have f:H s.heap.objs.size=a8:=I.hok.fresh<|u6 _;have C:(s.heap.objs.size==d6)=bt:=beq_eq_false_iff_ne.mpr<|z8<|w9 I.big;refine GC (A:=X.A) (ρ:=ρ) I (by lia) (I.ok.hd D) y.isList g j ps (by rw[x3];lia) (λi v K=>?_) (by rw[x3];lia) λh' Z xs O c=>?_;obtain⟨d,vv,t,l,m⟩:=pz r B (i:=i) (u:=v) (by simpa using K);rw[D0]at t;obtain⟨p,w,rfl⟩:=Le.mp t;exact⟨p,w,⟨vv,l,m⟩,F p<|J1 w⟩;have dl:=kA (ps:=ps);refine⟨.ref s.heap.objs.size,_,I.laid (a:=s.heap.objs.size) (o:=.ext<|dX s.heap.objs.size xs) (t':=Z) O (u6 _)<|uS c.dx,rfl,?_⟩;exact N _ _ ⟨.ref M.length,M++[.dkt<|dictOf ps],ρ++[s.heap.objs.size],n.laidM (mo:=.dkt<|dictOf ps) f ⟨ak (by lia),C,c.nd,xs,aK,Paired.mapP c.kv λ_ _ ⟨S,T,U,v,V,W⟩=>⟨S,T,U.grow<|Grow.laidR f,v,V.grow<|Grow.laidR f,W⟩⟩,Grow.laidR f,.ref n.last,q⟩;exact q.elim
theorem AC(i:Room k X.A)(f:X.calm=a9:=by kernel_rfl):HC X (.type "dict") ir:=⟨AY i f⟩
end
noncomputable abbrev EE(M:t5)(R:DK):DEnds:=⟨λ_ M'=>bg M R .non M',bg M R,λ_ _=>False,λ_ _=>False⟩
noncomputable def PM(n:Nat)(ds:List D):SD:=ds.map a7++ND (n-ds.length) a8
noncomputable abbrev x6(Pr:v8)(n:Nat)(t:p9):Prop:=∀ds M R,Pr ds M R->t (EE M R) (PM n ds) M
noncomputable abbrev cM(Pr:v8)(p:List c5):Prop:=∀ds M R,Pr ds M R->ds.length=p.length
noncomputable abbrev DerT(P:c7)(w:c6)(K:u0)(mg:c5->Option c4)(base:d5)(k:Nat)(x:c5)(N:List c5)(st:i7)(t:p9):Prop:=∀(f:c8) (cdv:c4) (A:e8) (outer:List Env) (s:e9) (H:Hp) (E:XK),Room k (A.deeper<|PyProof.Rows.envOfC x (av st) s.heap.objs.size f cdv)->HB (tu E9 P w K mg base N x (av st) f cdv A outer s H E).nox (bU st) t
theorem pC:typeLookup (.type "tuple") "keys" = pure a8:=by rw[NH,NT];kernel_rfl
section
variable{prog:c7}{w:c6}{A:e8}{E:c4->e9->Prop}{h:d5}{g:Array GenState}{d:Drawn}{t:Nat}{os:OsState}{a:c8}{o:c9}
theorem BA(x:h.get? a=a7 o)(i:o.cls=.type "tuple")(j:o.dict=a8)(b:o.data=.seq its nn)(f:A.handled=a8)(q:∀h' tk e,Heap.NewAttrErr h h' e (.ref a) "keys"->R (.error<|.ref e) ⟨h',g,d,tk,os⟩):k6 (i3 prog w) A (.call (.builtin "tuple.__getattribute__") ⟨[.ref a,.str "keys" u],[]⟩) R ⟨h,g,d,t,os⟩:=by
 obtain⟨oc,k,c,G⟩:=o;obtain rfl:oc=.type "tuple":=i;obtain rfl:k=a8:=j;obtain rfl:c=.seq its nn:=b;have n:(⟨h,g,d,t,os⟩:e9).TypeIs (.ref a) "tuple":=⟨_,x,rfl⟩
 have l:=pC;refine codeAny_call_builtin O4.plain PySem.F.entry_tuple_ga<|O4.check _ _ _ _ _ _ _ _ n (PySem.F.args_tuple_getattribute_2 _ _) ?_;unfold Builtin.«object.__getattribute__»
 repeat (any_goals (first|assumption|wp_step))
 refine wpAny_raiseAttrError (o:=.ref a) (name:="keys") (by first|exact f|simpa using f) q ?_;exact attrMsg_fits (by decide +kernel)<|by size_fits
theorem xk(x:h.get? a=a7 o)(l:o.cls=.type "tuple")(j:o.dict=a8)(c:o.data=.seq its nn)(k:A.handled=a8)(q:∀h' tk,(∀b ob,h.get? b=a7 ob->h'.get? b=a7 ob)->Q a8 ⟨h',g,d,tk,os⟩):f9 (i3 prog w) A (getAttr? (.ref a) "keys") Q E ⟨h,g,d,t,os⟩:=by
 obtain⟨oc,m,i,G⟩:=o;obtain rfl:oc=.type "tuple":=l;obtain rfl:m=a8:=j;obtain rfl:i=.seq its nn:=c;have n:∀tk,(⟨h,g,d,tk,os⟩:e9).TypeIs (.ref a) "tuple":=λ_=>⟨_,x,rfl⟩
 have p:=sub_AttributeError;have M:=O4.lookup;have r:=O4.bind<|.ref a;have y:=PySem.am_tuple_getattr_none;unfold getAttr? getAttrBy? getAttrBy
 repeat (any_goals (first|assumption|exact n _|wp_step))
 refine BA x rfl rfl rfl (by first|exact k|simpa using k) λh' tk e f=>?_;obtain⟨t',u,s⟩:=f.there;unfold getattributeRaised
 repeat (any_goals (first|assumption|wp_step))
 exact q _ _ f.keeps
end
section
variable{X:Cx}{pins:List (c8×c9)}{σ:St}{H:Hp}{ρ:List c8}{M:t5}{A:e8}{E:c4->e9->Prop}{s:e9}
theorem p8.tupN(I:p8 X pins σ H s)(h:z0 X.K H a xs):∃its:List c4,aC xs its/\Dx s.heap a its.toArray/\xs.length<=sizeLine:=by
 rcases h with h|⟨o,its,n,k,f,d,hs,b,r⟩
 obtain⟨z,its,r,p⟩:=h.ok I.hok;exact⟨its,r,p,z⟩;refine⟨its.toList,r,⟨o,I.kIn a o k,f,⟨n,by simpa using hs⟩,d⟩,?_⟩;have e:=r.length;simp only[D6]at e;lia
end
inductive TopB(mg:c5->Option c4):List c5->List (c5×Int)->Prop
 |nil:TopB mg [] []
 |b {x:c5}{B:List c5}{C:List (c5×Int)} (h:mg x=a8) (t:TopB mg B C):TopB mg (x::B) C
 |c {x:c5}{i:Int}{C:List (c5×Int)} (h:∃t,mg x=a7 (.int i t)) (t:TopB mg [] C):TopB mg [] ((x,i)::C)
theorem TopB.no(h:TopB mg B C)(c:B.contains x=a9):mg x=a8:=by
 induction h with
 |nil=>simp at c
 |b h _ i=>simp only[List.contains_cons,Ma,o5]at c;rcases c with rfl|c;exact h;exact i c
 |c _ _ _=>simp at c
noncomputable def nodB:List c5->Bool
 | []=>a9
 |x::xs=>!xs.contains x&&nodB xs
theorem IB:∀{l:List c5},nodB l=a9->l.Nodup
 | [],_=>M9
 |x::xs,h=>by simp only[nodB,C5,Oq,List.contains_eq_mem,decide_eq_false_iff_not]at h;exact Lc.mpr ⟨h.1,IB h.2⟩
noncomputable def tgN:h8->List c5
 |.Name x _=>[x]
 |.Tuple es _ _=>es.filterMap fun|.Name x _=>a7 x|_=>a8
 |_=>[]
noncomputable abbrev LX(N:List c5)(js:List Nat)(tg:h8):List c5:=tgN tg++js.map λj=>N.getD j ""
section
variable{X:Cx}{tg iter elt:h8}{ifs:List h8}{scope:f7}{nt i:Nat}{js:List Nat}{di:Ky}{g:Ix}{tt:F5}{te:u9}{pos pos' pos2:i4}{x:c5}
theorem k_lcN(hi:HI X tg iter di)(S:∀cl s0 H0 ex,HG (z7 X (LX X.N js tg) scope cl s0 H0 ex) tg g)(D:∀cl s0 H0 ex,MT (z7 X (LX X.N js tg) scope cl s0 H0 ex) ifs tt)(i:∀cl s0 H0 ex,HE (z7 X (LX X.N js tg) scope cl s0 H0 ex) elt te)(B:pe X.env.scope.names X.N (LX X.N js tg) nt js scope=a9:=by kernel_rfl) (f:X.calm=a9:=by kernel_rfl) (hs:∀x,j6 iter X.env x=pure x:=by intro _;kernel_rfl):HE X (.ListComp elt [⟨tg,iter,ifs,0⟩] scope pos) (D2 nt js di g tt te):=k_lc hi S D i B f hs
theorem sM(a:X.N.Nodup)(hi:HI X tg iter di)(S:∀cl s0 H0 ex,HG (z7 X (LX X.N js tg) scope cl s0 H0 ex) tg g)(D:∀cl s0 H0 ex,MT (z7 X (LX X.N js tg) scope cl s0 H0 ex) ifs tt)(e:∀cl s0 H0 ex,HE (z7 X (LX X.N js tg) scope cl s0 H0 ex) elt te)(B:pe X.env.scope.names X.N (LX X.N js tg) nt js scope=a9:=by kernel_rfl) (f:X.calm=a9:=by kernel_rfl) (hs:∀x,j6 iter X.env x=pure x:=by intro _;kernel_rfl) (w:i9 (.ListComp elt [⟨tg,iter,ifs,0⟩] scope pos) (a7<|.Name x pos') pos2.line X.env=pure a9:=by kernel_rfl)(h:X.N[i]?=a7 x:=by kernel_rfl) (c:GP X.env.scope x=a9:=by kernel_rfl) (b:X.fn x=a9:=by kernel_rfl):HS X (.Assign [.Name x pos'] (.ListComp elt [⟨tg,iter,ifs,0⟩] scope pos) pos2) (ik nt js di g tt te i):=Cw a hi S D e B f hs w h c b
theorem gA(h:HA X es t):HA X es t:=h
theorem gE(h:HE X e te):HE X e te:=h
theorem gCall(h:HE X (.Call a b c pos) te):HE X (.Call a b c pos) te:=h
theorem gIx(h:HE X (.Subscript a b pos) te):HE X (.Subscript a b pos) te:=h
theorem Jv(h:HE X (.Constant a b pos) te):HE X (.Constant a b pos) te:=h
theorem gT(h:HT X e tt):HT X e tt:=h
theorem gS{st:i7}{t:p9}(h:HS X st t):HS X st t:=h
theorem gOp(h:F0 X f r):F0 X f r:=h
theorem gC(h:HC X f r):HC X f r:=h
theorem FW{b:List i7}{st:i7}{s:List i7}{t:p9}(h:b=st::s)(q:HB X (st::s) t):HB X b t:=h ▸ q
end
section
variable{P:c7}{w:c6}{K:u0}{mg:c5->Option c4}{base:d5}{x:c5}{st:i7}{N ps:List c5}{k:Nat}{Pr:v8}{B:List c5}{C:List (c5×Int)}{t:p9}
theorem u7.byD(T:TopB mg B C)(F:cG K mg x st ps)(i:FnScope N ps (av st))(n:cM Pr ps)(r:TopB mg B C->N.Nodup->DerT P w K mg base k x N st t)(p:∀ds M R,Pr ds M R->t (EE M R) (cJ N ds) M):u7 P w K mg base (k+1) x ps Pr:=u7.byH F i n (r T i.nd) p
theorem CW(T:TopB mg B C)(F:K7 K x x st f fd)(i:FnScope N ps (av st))(n:cM Pr ps)(r:TopB mg B C->N.Nodup->DerT P w K mg base k x N st t)(p:∀ds M R,Pr ds M R->t (EE M R) (cJ N ds) M):FnOk P w K mg base E9 (k+1) f fd ps (Lf K Pr):=CV F i n (r T i.nd) p
end
section
variable{prog:c7}{w:c6}{A:e8}{E:c4->e9->Prop}{s:e9}
theorem uW(B:s.heap.get? l=a7 o)(f:o.cls=.type "list"\/o.cls=.type "tuple")(d:o.data=.seq vs.toArray n)(h:Q vs { s with heap:=(s.heap.push<|m6 "list" #[] 0).update s.heap.objs.size (Fn (· ++ vs.toArray)) }) (z:vs.length<=sizeLine):f9 (i3 prog w) A (collect<|.ref l) Q E s:=by
 rcases f with f|f;exact collect_list ⟨o,B,f,n,d⟩ h z;unfold collect;refine p6<|wpAny_runValue<|Lb entry_proto_collect' ?_;show f9 _ _ (do again (.builtin "list.__iadd__" ⟨[<-newList [],.ref l],[]⟩)) _ _ s;refine p6<|My (q9 ⟨Code.quiet_builtin _ (by decide +kernel),Lb entry_list_iadd' ?_⟩)<|w5 _;show f9 _ _ (OZ (.ref s.heap.objs.size) (.ref l)<|.ref s.heap.objs.size) _ _ { s with heap:=s.heap.push (m6 "list" #[] 0) };unfold OZ;have a:(s.heap.push<|m6 "list" #[] 0).get? l=a7 o:=v5 _ B;refine p6<|Ll (T:="tuple") ⟨o,a,f⟩ ?_;have D:(LK "tuple" == LK "tuple")=a9:=by rfl
 rw[n5<|by rw[D];simp];refine p6<|MZ a d ?_;refine p6<|MZ (xs:=#[]) (n:=0) (z6 _ rfl) rfl ?_;rw[n6<|by simp];refine p6 (Mx (xs:=#[]) (n:=0) (z6 _ rfl) rfl ?_ (w5 _)<|by show (#[]++vs.toArray).size<=sizeLine+1;simp only[Array.size_append,x3,B8];lia);refine q9 ?_;show f9 (i3 prog w) A (do
   let o <-load s.heap.objs.size
   match o.data with
   |.seq xs _=>pure xs.toList
   |_=>unsupported "internal:collect") Q E { s with heap:=(s.heap.push<|m6 "list" #[] 0).update s.heap.objs.size (Fn (· ++ vs.toArray)) }
 refine p6<|wpAny_load (MB (z6 _ rfl) _) ?_;show f9 _ _ (pure ((#[]:Array c4)++vs.toArray).toList) Q E _;rw[show ((#[]:Array c4)++vs.toArray).toList=vs by simp];exact q9 h
variable{h₀:d5}{L kS a:c8}{m:c5->Option c4}{vs:List c4}
theorem Ez(hl:ks.length=vs.length)(h2:vs.length<2)(h:KatFin h₀ L m kS a ks e e1 vs (λs3=>P (.done<|.ret .none) s3) s):f9 (i3 prog w) A (ksk_end a bt vs.toArray e1 (.ref kS)<|KZ ks) P E s:=by
 have M:vs.toArray.size<2:=by rw[x3];exact h2
 unfold ksk_end;dsimp only;simp only[A7,o6];rw[n5 M,n5 M];refine p6<|q9 ?_;rw[StateT.run_pure];refine p6<|q9 ?_;dsimp only;refine kat_tail (out:=vs) ?_ (by lia) (by lia) rfl h;show ((KZ ks).zip vs.toArray).map (·.2)=vs.toArray
 match ks,vs,hl,h2 with
 | [],[],_,_=>simp
 | [k],[v],_,_=>simp
 | [],_::_,hl,_=>simp at hl
 |_::_,[],hl,_=>simp at hl
 |_::_::_,[_],hl,_=>simp at hl
 |_,_::_::_,_,h2=>simp at h2;lia
theorem Ex{f:c4}{t:Nat}{P:PySem.Fin->e9->Prop}{Fin:List c4->Nat->e9->Prop}(o:s.heap.get? kS=a7 (m6 "list" #[] 0))(G:vs.length<64)(d:∀ks e s',ks.length=vs.length->Fin ks e s'->f9 (i3 prog w) A (ksk_end a bt vs.toArray t (.ref kS)<|KZ ks) P E s') (h:KatKeys prog w A h₀ L m kS f Fin vs [] 0 s):f9 (i3 prog w) A (ksk_rest a f bt vs.toArray t<|.ref kS) P E s:=by
 unfold ksk_rest;refine p6<|Lj ?_
 first
  |rw[List.forIn_toArray]
  |(rw[<-Mi];simp only[List.toList_toArray])
  |rw[<-Mi]
 refine p6<|E5 (kat_fold G (λx ks e s' C K D=>?_) vs [] 0 s (by simp) o h) (λ_ s' z=>?_) λ_ _ x=>x;refine p6<|LN<|E5 D (λk i o=>?_) λ_ _ F=>F.elim;obtain⟨q,g,T,N,U,c⟩:=o;obtain⟨H,r,v,S,I,J⟩:=U.split;rw[v]at N;have n:=N (kS,m6 "list" (KZ ks) e)<|E3 _<|.head _;have u:=KF i.heap kS (Fn (·.push k));have y:(KZ ks).push k=KZ (ks++[k]):=by simp
 obtain⟨j,b⟩:∃j,(i.heap.update kS (Fn (·.push k))).get? kS=a7 (m6 "list" (KZ<|ks++[k]) j):=⟨_,by rw[<-y];exact MB n.1 (·.push k)⟩
 try dsimp only
 refine p6 (Mx n.1 rfl ?_ (by rw[x3,KY];lia)<|B9 (Nat.le_of_eq<|Array.size_push ..)<|by rw[x3,KY];lia);exact q9 ⟨rfl,k,j,b,c _ j (kas_fr T u n.2.1 n.2.2)<|by rw[S];exact news_set N I J u b⟩;obtain⟨ks,e,p,B,l⟩:=z
 try dsimp only
 exact p6<|MZ p rfl<|d ks e s' B l
end
section
variable{X:Cx}{pins:List (c8×c9)}{σ:St}{H:Hp}{s:e9}{a:c8}
structure Mq(X:Cx)(pins:List (c8×c9))(H:Hp)(a:c8):Prop where
 un:H a=a8
 ne:a≠X.env.locals
 fs:a∉X.fs
 s0:X.s₀.heap.objs.size<=a
 cl:∀x c,X.env.cells.lookup x=a7 c->c≠a
 pn:∀p∈X.pn++pins,p.1≠a
theorem p8.own(I:p8 X pins σ H s)(h:s.heap.objs.size<=a):Mq X pins H a:=⟨I.hok.fresh h,λe=>by rw[e]at h;exact n9 (G0 I.lt h)<|D8 _,I.nofs h,B9 I.sz h,λx c e z=>by obtain⟨v,o,B,_⟩:=I.cell x c e;rw[z]at B;exact n9 (G0 (v7 B) h)<|D8 _,λp b e=>by have:=v7 (I.pin p b).1;rw[e]at this;exact n9 (G0 this h)<|D8 _⟩
theorem p8.turnF(I:p8 X pins σ H s)(w:Mq X pins H a)(k:∀b u,b≠X.env.locals->b≠a->s.heap.get? b=a7 u->h'.get? b=a7 u)(j:s.heap.Ns X.env.locals m)(h:h'.Ns X.env.locals m):p8 X pins σ H { s with heap:=h' }:=by
 have g:∀b u,H b=a7 u->b≠a:=λb u e=>ae e w.un;refine I.step (g':=s.gens) (d':=s.drawn) (t':=s.toks) (ch:=[a]) (λb d=>?_) (λb u L _ f e _=>k b u L (by simpa using f) e) (λb u L _ f e _=>⟨u.slots,k b u L (by simpa using f) e⟩) (λb u _ e n=>n) (λb u f e=>?_) (λb xs q=>q) (λb u xs q=>q) (λb ps q=>⟨#[],by rw[q];simp⟩) (λl i=>?_) (λb u q=>?_) I.bare;obtain rfl:b=a:=by simpa using d
 exact⟨.inr w.s0,w.ne,w.cl,w.pn⟩;by_cases d:b=X.env.locals;subst d;obtain⟨o,_,_,B,_⟩:=h;exact⟨o,B⟩;exact⟨u,k b u d (by simpa using f) e⟩;have:m=l:=funext λx=>j.agree i x;subst this;exact h;refine(I.hok b u q).stay (λc v f r=>k c v ?_ ?_ r) (λc z=>z) λc xs z=>z;rcases f with rfl|f;exact ae q I.free;exact ae f I.free;rcases f with rfl|f;exact g _ _ q;exact g _ _ f
theorem p8.adoptF(I:p8 X pins σ H s)(w:Mq X pins H a)(k:∀b u,b≠X.env.locals->b≠a->s.heap.get? b=a7 u->h'.get? b=a7 u)(l:s.heap.Ns X.env.locals m)(g:h'.Ns X.env.locals m)(i:cL X.prog X.w (v4 H a o) h' a o):p8 X pins σ (v4 H a o) { s with heap:=h' }:=by
 have d:=w.un;refine I.step (g':=s.gens) (d':=s.drawn) (t':=s.toks) (ch:=[a]) (λb h=>?_) (λb u L _ f e _=>k b u L (by simpa using f) e) (λb u L _ f e _=>⟨u.slots,k b u L (by simpa using f) e⟩) (λb u f e n=>by rw[am<|by simpa using f];exact n) (λb u f e=>?_) (λb xs q=>by rw[am<|ae q d];exact q) (λb u xs q=>by rw[am<|ae q d];exact q) (λb ps q=>⟨#[],by rw[am<|ae q d,q];simp⟩) (λp j=>?_) (λb u q=>?_) I.bare;obtain rfl:b=a:=by simpa using h
 exact⟨.inr w.s0,w.ne,w.cl,w.pn⟩;by_cases h:b=X.env.locals;subst h;obtain⟨t,_,_,B,_⟩:=g;exact⟨t,B⟩;exact⟨u,k b u h (by simpa using f) e⟩;have:m=p:=funext λx=>l.agree j x;subst this;exact g;by_cases h:b=a;subst h;rw[aK]at q;cases q;exact i;rw[am h]at q;refine(I.hok b u q).stay (λc v f r=>k c v ?_ ?_ r) (λc z=>by rw[am<|ae z d];exact z) λc xs z=>by rw[am<|ae z d];exact z
 rcases f with rfl|f;exact ae q I.free;exact ae f I.free;rcases f with rfl|f;exact ae q d;exact ae f d
end
section
variable{X:Cx}{pins:List (c8×c9)}{σ:St}{ρ:List c8}{M:t5}
structure KySt(X:Cx)(pins:List (c8×c9))(σ:St)(ρ:List c8)(M:t5)(m:c5->Option c4)(kS aD:c8)(e1:Nat)(H0 H:Hp)(s:e9)(ks:List c4)(e:Nat):Prop where
 inv:p8 X pins σ H s
 ns:s.heap.Ns X.env.locals m
 sm:u8 X.K ρ M H
 gr:Grow X.K ρ H0 ρ H
 hk:s.heap.get? kS=a7 (m6 "list" (KZ ks) e)
 hd:s.heap.get? aD=a7 (m6 "list" #[] e1)
 ok:Mq X pins H kS
 od:Mq X pins H aD
 ne:aD≠kS
theorem FY(n:h.Ns L m):Fr (Att.noObjs h0) L h m:=⟨n,λb o e=>(by rw[Att.noObjs_get]at e;cases e),w5 _⟩
theorem uy(b:d≠L)(B:h.get? d=a7 od):News (Att.noObjs h0) L h ((d,od)::Att.ledger h L d):=by rintro⟨a,o⟩ p;rcases z9.mp p with e|p;cases e;exact⟨B,b,Att.noObjs_get _ _⟩;obtain⟨n,c,e⟩:=Att.mem_ledger.mp p;exact⟨e,n,Att.noObjs_get _ _⟩
theorem mN(N:News (Att.noObjs h0) L h' ((d,o)::Att.ledger h L d)):∀b u,b≠L->b≠d->h.get? b=a7 u->h'.get? b=a7 u:=λb u h1 h2 e=>(N (b,u)<|A0 _<|Att.mem_ledger.mpr ⟨h1,h2,e⟩).1
noncomputable abbrev KeyG(X:Cx)(pins:List (c8×c9))(σ:St)(ρ:List c8)(M:t5)(f:c8)(key:D->D)(xs:List D):Prop:=∀(s:e9) (H:Hp) (d:D) (v:V) (u:c4),d∈xs->p8 X pins σ H s->u8 X.K ρ M H->t9 X.K ρ H d v->aM v u ->k6 (i3 X.prog X.w) X.A.in1.in1 (.call (.ref f) ⟨[u],[]⟩) (CR E9 X.stack X.prog X.w H s (λv' H'=>VQ X.K ρ H (λx M'=>x=key d/\M'=M) v' H') E0) s
theorem Ey{f:c8}{l:D->D}{xs:List D}(G:KeyG X pins σ ρ M f l xs){h0:d5}{m:c5->Option c4}{j S:c8}{N:Nat}{H0:Hp}{Fin:List c4->Nat->e9->Prop}{k:List D} (P:∀H s kvs ks e,KySt X pins σ ρ M m S j N H0 H s ks e->Reps X.K ρ H k kvs->aC kvs ks->Fin ks e s):∀(r:List D) (ws:List V) (its:List c4) (done:List D) (kvs:List V) (ks:List c4) (e:Nat) (H:Hp) (s:e9),KySt X pins σ ρ M m S j N H0 H s ks e->Reps X.K ρ H r ws->aC ws its->Reps X.K ρ H done kvs->aC kvs ks ->done++r.map l=k->(∀d∈r,d∈xs)->KatKeys X.prog X.w X.A.in1.in1 (Att.noObjs h0) X.env.locals m S (.ref f) Fin its ks e s:=by
 intro r;induction r with
 |nil=>intro ws its done kvs ks e H s g r v Y vd R _;obtain rfl:=Reps.inv_nil r;obtain rfl:=aC.inv_nil v;refine KatKeys.nil<|P H s kvs ks e g ?_ vd;rw[<-R,List.map_nil,I9];exact Y
 |cons d r ih =>
  intro ws its done kvs ks e H s g rr v Y vd R hP;obtain⟨ai,ws,rfl,r1,rr⟩:=Reps.inv_cons rr;obtain⟨u,its,rfl,ru,v⟩:=aC.inv_cons v;have I:=g.inv;refine KatKeys.cons<|wpAny_call<|Mt (G s H d ai u (hP d C6) I g.sm r1 ru) λZ s' y=>?_;cases Z with
  |error e=>exact y.elim
  |ok fl =>
   cases fl with
   |next=>exact y.elim
   |brk=>exact y.elim
   |cont=>exact y.elim
   |ret u' =>
    obtain⟨v',H',os,n,un,T,rv,q⟩:=y;obtain⟨F,Q,L,tk,U⟩:=s';obtain rfl:U=s.os:=os;obtain⟨_,_,aj,s1,g1,W,rfl,rfl⟩:=q;have O:aj=ρ:=by obtain⟨t,rfl⟩:=g1.pre;have h1:=s1.len;have h2:=g.sm.len;rw[z5]at h1;rw[O2 (show t.length=0 by lia),I9]
    subst O;have J:p8 X ((S,m6 "list" (KZ ks) e)::(j,m6 "list" #[] N)::pins) σ H s:=I.pins_of λp a=>by rcases z9.mp a with rfl|a;exact⟨g.hk,g.ok.un,g.ok.ne,g.ok.fs,λ_ z=>nomatch z⟩;rcases z9.mp a with rfl|a;exact⟨g.hd,g.od.un,g.od.ne,g.od.fs,λ_ z=>nomatch z⟩;exact I.pin p<|E3 _ a
    have E:=J.call (h':=F) (g':=Q) (d':=L) (t':=tk) (ch:=[]) un T n (λb z=>n9 z<|by simp);have pk:=E.pin (S,_)<|E3 _ C6;have pd:=E.pin (j,_)<|E3 _<|A0 _ C6;have I':p8 X pins σ H' ⟨F,Q,L,tk,s.os⟩:=E.pins_of λp a=>E.pin p<|E3 _<|A0 _<|A0 _ a;have B:F.Ns X.env.locals m:=by obtain⟨o,es,ep,ho,aY⟩:=g.ns;obtain⟨sl,hL⟩:=un.any ho I.free (by simp);exact⟨_,es,ep,hL,aY⟩
    have i:Mq X pins H' S:=⟨pk.2.1,g.ok.ne,g.ok.fs,g.ok.s0,g.ok.cl,g.ok.pn⟩
    have C:Mq X pins H' j:=⟨pd.2.1,g.od.ne,g.od.fs,g.od.s0,g.od.cl,g.od.pn⟩
    refine KatBack.intro (s:=⟨F,Q,L,tk,s.os⟩) (FY B) (uy i.ne pk.1) (UpdF.head λp a=>(Att.mem_ledger.mp a).2.1) λh2 c F2 N2=>?_;have kp:=mN N2;refine ih ws its (done++[l d]) (kvs++[v']) (ks++[u']) c H' _ ⟨I'.turnF i kp B F2.ns,F2.ns,s1,⟨g.gr.pre,λx xs h=>g1.tup x xs<|g.gr.tup x xs h⟩,(N2 _ C6).1,kp j _ C.ne g.ne pd.1,i,C,g.ne⟩ (rr.grow g1) v ((Y.grow g1).append<|.cons W .nil) (vd.append<|.cons rv .nil) (by rw[<-R,C0,F8];rfl) λx hx=>hP x<|A0 _ hx
theorem we{k n:Nat}{f l:c8}{o:c9}{s:e9}{H:Hp}{xs:List D}{ws:List V}{its:List c4}{y:D->D}{R:VK}(G:KeyG X pins σ ρ M f y xs)(hr:Room (k+2) X.A)(I:p8 X pins σ H s) (sm:u8 X.K ρ M H) (r:Reps X.K ρ H xs ws) (rr:aC ws its) (ho:s.heap.get? l=a7 o) (hc:o.cls=.type "list"\/o.cls=.type "tuple") (hd:o.data=.seq its.toArray n) (aj:its.length<64) (so:SrtG M (xs.map y)) (kk:∀v H',(∀Q:DK,(∀ys,ys.Perm xs->ys.Pairwise (λa b=>A8 M t8 (y b) (y a)=bt)->Q (.ref M.length) (M++[.lst ys]))->VQ X.K ρ H Q v H')->R v H'):f9 (i3 X.prog X.w) X.A (call (.builtin "sorted") [.ref l] [(AA0 "key",.ref f)]) (EP X pins σ R) X.xe s:=by
 have lw:=r.length;have li:=rr.length;have u:its.length<=sizeLine:=by rw[KY];lia
 refine call_function_entry_kw kind_sorted plain_sorted entry_sorted (ksk_s1 _ _) ?_;unfold Builtin.«sorted»;refine p6 (m:=checkCount "sorted" 1 1 _)<|q9<|p6<|uW ho hc hd (p6<|My ?_ u) u;generalize hg:((s.heap.push<|m6 "list" #[] 0).update s.heap.objs.size (Fn (· ++ its.toArray)))=g1;have P:g1.objs.size=s.heap.objs.size+1:=by rw[<-hg,Heap.size_update,size_push']
 have k1:∀b o,s.heap.get? b=a7 o->g1.get? b=a7 o:=λb o q=>by have an:=v7 q;rw[<-hg,MM _ _ _ _<|w9 an,Heap.get?_push_ne _ _ _<|w9 an];exact q
 show f9 _ _ _ _ _ { s with heap:=g1.push (m6 "list" its.toArray 0) };have O:(g1.push<|m6 "list" its.toArray 0).get? g1.objs.size=a7 (m6 "list" its.toArray 0):=z6 _ rfl;refine p6<|D7<|wpAny_call_entry_kw slot_list_sort (⟨_,O,rfl⟩) entry_list_sort ?body<|ksk_l1 _ _
 case body =>
  show f9 (i3 X.prog X.w) X.A.in1.in1 (Builtin.«list.sort» ⟨[.ref g1.objs.size],[(AA0 "key",.ref f)]⟩) _ _ _;rw[ksk_t1];unfold ksk_tree;refine p6<|MZ O rfl<|p6<|Mx O rfl ?_ (by rw[x3];exact u)<|w5 _;obtain⟨e1,N⟩:∃e1,((g1.push<|m6 "list" its.toArray 0).update g1.objs.size<|Fn λ_=>(#[]:Array c4)).get? g1.objs.size=a7 (m6 "list" #[] e1):=⟨_,MB O λ_=>#[]⟩
  refine p6<|seqEpoch_at N rfl<|p6<|wpAny_newTuple (p6<|My (D7 ?_)<|w5 _) u;have k2:∀b o,s.heap.get? b=a7 o->((g1.push<|m6 "list" its.toArray 0).update g1.objs.size<|Fn λ_=>(#[]:Array c4)).get? b=a7 o:=λb o q=>by rw[MM _ _ _ _<|w9<|by rw[P];exact Mh<|v7 q];exact v5 _<|k1 b o q
  have t:((g1.push<|m6 "list" its.toArray 0).update g1.objs.size<|Fn λ_=>(#[]:Array c4)).objs.size=g1.objs.size+1:=by rw[Heap.size_update,size_push']
  generalize ((g1.push<|m6 "list" its.toArray 0).update g1.objs.size<|Fn λ_=>(#[]:Array c4))=T at N k2 t ⊢;dsimp only;have k3:∀b o,T.get? b=a7 o->((T.push<|m6 "tuple" its.toArray 0).push<|m6 "list" #[] 0).get? b=a7 o:=λb o q=>v5 _<|v5 _ q;have J:((T.push<|m6 "tuple" its.toArray 0).push<|m6 "list" #[] 0).get? (T.push<|m6 "tuple" its.toArray 0).objs.size=a7 (m6 "list" #[] 0):=z6 _ rfl;have E:(T.push<|m6 "tuple" its.toArray 0).objs.size=T.objs.size+1:=size_push' _ _;generalize (T.push<|m6 "tuple" its.toArray 0).objs.size=kS at J E ⊢;generalize ((T.push<|m6 "tuple" its.toArray 0).push<|m6 "list" #[] 0)=g3 at J k3 ⊢;generalize g1.objs.size=Y at N P t ⊢;obtain⟨m,hn,_⟩:=I.loc;have st:KySt X pins σ ρ M m kS Y e1 H H { s with heap:=g3 } [] 0:=⟨I.kept (t':=s.toks) λb o q=>k3 b o<|k2 b o q,(by obtain⟨o',es,ep,aP,aY⟩:=hn;exact⟨o',es,ep,k3 _ _<|k2 _ _ aP,aY⟩),sm,.refl,J,k3 _ _ N,I.own (by rw[E,t,P];exact NJ _ 3),I.own (by rw[P];exact NJ _ 1),by rw[E,t];exact w9<|Nat.lt_add_of_pos_right (by decide:0<2)⟩
  have aS:Room k X.A.in1.in1:=(Room.in1 (k:=k+1) hr).in1;refine Ex (h₀:=Att.noObjs s.heap) (L:=X.env.locals) (m:=m) (Fin:=λW e s'=>∃H' F,KySt X pins σ ρ M m kS Y e1 H H' s' W e/\Reps X.K ρ H' (xs.map y) F/\aC F W) J aj (λW e s' hl ⟨H',F,g,rk,vk⟩=>?_)<|Ey G (λH' s' F W e g r v=>⟨H',F,g,r,v⟩) xs ws its [] [] [] 0 H _ st r rr .nil .nil rfl λ_ q=>q;have ai:∀ys zs S,Reps X.K ρ H' ys zs->aC zs S->ys.Perm xs->ys.Pairwise (λa b=>A8 M t8 (y b) (y a)=bt)->KatFin (Att.noObjs s.heap) X.env.locals m kS Y W e e1 S (λs4=>EP X pins σ R (.ref Y) s4) s':=λys zs S ry vy hp hw=>by refine KatFin.intro (FY g.ns) (uy g.ok.ne g.hk) (UpdF.head λp hp=>(Att.mem_ledger.mp hp).2.1) λh2 c F2 N2=>?_;have kp:=mN N2;refine KasFin.intro (s:={ s' with heap:=h2 }) (FY F2.ns) (uy g.od.ne<|kp Y _ g.od.ne g.ne g.hd) (UpdF.head λp hp=>(Att.mem_ledger.mp hp).2.1) λh3 c3 F3 N3=>?_;refine⟨.ref Y,_,(g.inv.turnF g.ok kp g.ns F2.ns).adoptF (o:=.lst zs) g.od (mN N3) F2.ns F3.ns ⟨?_,S,c3,vy,(N3 _ C6).1⟩,rfl,kk _ _ λQ hQ=>VQ.laidL g.sm g.gr ry g.od.un<|hQ ys hp hw⟩;rw[<-ry.length,hp.length_eq,lw,li];exact u
  by_cases h2:its.length<2;refine Ez (hl) h2<|(ai xs ws its (r.grow g.gr) rr (MA _) ?_).mono λs4 hq=>⟨_,rfl,q9 ⟨_,rfl,hq⟩⟩
  match xs,(show xs.length<2 by lia) with
  | [],_=>exact NN
  | [x],_=>exact Pv _ _
  |_::_::_,hx=>simp at hx;lia
  have as:2<=its.length:=by lia
  refine kat_end (b:=bt) (h₀:=Att.noObjs s.heap) (L:=X.env.locals) (m:=m) (e:=e) hl as aj ?_;have hu:X.A.in1.in1.units+t8<k4:=by have:=hr.un;have:t8=30:=rfl;show X.A.units+1+1+t8<k4;lia
  have kl:W.length=xs.length:=by lia
  refine E5 (mf g.inv g.sm so rk vk (by lia) hu) (λκ bk hk=>?_) λ_ _ x=>x;obtain⟨rfl,al⟩:=hk;show (Lh its.length).kasWp (kas_ask X.prog X.w X.A.in1.in1 κ W) (λp s3=>KatFin (Att.noObjs s.heap) X.env.locals m kS Y W e e1 (p.toList.map λi=>its.getD i Kz) _ s3) _;have U:∀i,i<xs.length->(xs.map y).getD i default=y (xs.getD i default):=λi hi=>by rw[J3,J3,D0,v9 hi];rfl
  refine Srt.wp_run (n:=its.length) (c:=λi j=>if i<xs.length then(if j<xs.length then A8 M t8 (y<|xs.getD i default) (y<|xs.getD j default)else a9)else bt) (λi j C hi hj hc=>?_) _ (Srt.sort_bd<|by lia).1 ?_;refine al i j C (by lia) (by lia) ?_;rw[n5 (by lia),n5<|by lia]at hc;unfold ltc;rw[U i (by lia),U j<|by lia];exact hc;have z:=Srt.All.run (c:=λi j=>if i<xs.length then(if j<xs.length then A8 M t8 (y<|xs.getD i default) (y<|xs.getD j default)else a9)else bt) _ (Srt.sort_bd (n:=its.length)<|by lia).2;obtain⟨o1,o2,o3⟩:=Fa so;have Z:∀x∈xs,y x∈xs.map y:=λx hx=>G7 hx;have B:=Srt.sort_list (lt:=λa b=>A8 M t8 (y a)<|y b) xs (by lia) (λa ha=>o1 _<|Z a ha) (λa ha b hb d hd=>o2 _ (Z a ha) _ (Z b hb) _<|Z d hd)<|λa ha b hb d hd=>o3 _ (Z a ha) _ (Z b hb) _<|Z d hd
  try dsimp only at B
  rw[show xs.length=its.length by lia]at B z ⊢;generalize Srt.run _ (Lh its.length)=p at z B ⊢;have hi:∀i∈p.toList,i<xs.length:=λi h=>by have:=z.mem_iff.mp h;rw[F7]at this;lia
  exact(ai _ _ _ ((r.grow g.gr).perm p.toList hi) (rr.perm p.toList λi h=>by have:=hi i h;lia) B.1 B.2).mono λs4 hq=>⟨_,rfl,q9 ⟨_,rfl,hq⟩⟩
end
structure BlkScC(X:Cx)(N':List c5)(nt:Nat)(js:List Nat)(scope:f7):Prop where
 kind:scope.kind=.function
 kinds:∀y∈scope.names,scope.names.lookup y.1=a7 y.2
 free:∀y∈scope.names,y.2=.free->(X.env.kindOf y.1=a7 .cell\/X.env.kindOf y.1=a7 .free)
 len:N'.length=nt+js.length
 fr:∀(k j:Nat),js[k]?=a7 j->∃x,N'[nt+k]?=a7 x/\X.N[j]?=a7 x/\scope.names.lookup x=a7 .free/\(X.env.kindOf x=a7 .cell\/X.env.kindOf x=a7 .free)
structure CfOk(h:d5)(k:Nat)(names:List (c5×k8))(acc cs:List (c5×c8)):Prop where
 look:∀z c,cs.lookup z=a7 c->(acc.lookup z=a7 c/\(z,L5)∉names)\/((z,L5)∈names/\k<=c/\h.IsCell c a8)
 inj:∀y z c,cs.lookup y=a7 c->cs.lookup z=a7 c->y=z
 old:∀z c,acc.lookup z=a7 c->∃c',cs.lookup z=a7 c'
 new:∀z,(z,L5)∈names->∃c,cs.lookup z=a7 c
noncomputable def Gr(i:Nat):Ix:=ao i
section
variable{K:u0}{ρ:List c8}{H:Hp}
theorem lJ:∀{kvs:List (c5×D)}{vs:List V},Reps K ρ H (kvs.map (·.2)) vs->fT kvs k=a8->vq (iU (kvs.map (·.1)) vs) (ABX k)=a8
 | [],_,_,_=>by rfl
 |(k',d')::kvs,_,.cons (v:=v) (vs:=vs) h t,e=>by
  have hk:k'≠k:=λz=>by subst z;simp[fT]at e
  have e':fT kvs k=a8:=by
   have:fT ((k',d')::kvs) k=fT kvs k:=by simp[fT,hk]
   rw[<-this];exact e
  have q:=lJ t e';show vq ((ABX k',v)::iU (kvs.map (·.1)) vs) (ABX k)=a8;rw[pA<|λz=>hk<|by injection z];exact q
end
section
variable{X:Cx}{o:h8}{pos:i4}{k:Nat}{name:c5}{id:String}{e:h8}{es:List h8}{to:u9}{t:F4}{apos cpos:i4}
noncomputable def Np(r:Nat->D1)(e:u9)(t:F4):u9:=λS M Q=>e S M λx a=>match x with
 |.ref n=>(∃s,a[n]?=a7 (.dct s))/\t S a λds b=>r n ds b Q
 |_=>False
theorem d_mk(slot:Slot "dict" name id)(y:typeOf (.builtin id)=pure (.type "method_descriptor"))(W:Kw X id (pV X.K r))(Y:DE X o to)(V:DA X (e::es) t)(c:l7 o name X.env (eval o X.env)=eval o X.env:=by rfl)(f:((i5 cpos<|i6 (e::es) X.env).all (λx=>!x.1)&&(l8 cpos<|l9 [] X.env).all (λx=>x.1.isSome) && decide ((e::es).length+([]:List k7).length+(if ([]:List k7).isEmpty then 0 else 1)<30))=a9:=by rfl)(d:(apos.endLine==cpos.line)=a9:=by rfl) (hs:i6 (e::es) X.env=(bt,eval e X.env)::i6 es X.env:=by rfl) (h:(i5 cpos<|i6 es X.env).any (·.1)=bt:=by rfl):DE X (.Call (.Attribute o name apos) (e::es) [] cpos) (Np r to t):=by
 rintro p s σ H R I ⟨S,M,ρ,Q,sm,J,q,Z⟩;refine Pp c f d rfl<|ve (Y p s σ H _ I ⟨S,M,ρ,_,sm,J,q,λv H' z=>z⟩) ?_;rintro u s1 ⟨v,L,C,rv,x,i,A,j,g1,r1,g⟩;cases r1 with
 |@ref n a G =>
  cases rv;obtain⟨⟨k,U⟩,g⟩:=(show (∃k,i[n]?=a7 (.dct k))/\t S i _ from g)
  obtain⟨ws,T,_⟩:=j.obj _ _ _ G U;obtain⟨z1,z2,ai,aj,D⟩:=Gp C.hok T;refine⟨"dict",id,OP,slot,y,D.typeIs,λb z=>?_,?_⟩;cases z;obtain⟨ob,_,_,h1,h2,_⟩:=D;exact⟨ob,h1,h2.2.1⟩;have F:=V cpos p s1 σ L _ C ⟨S,i,A,_,j,J.grow g1,g,λvs H' z=>z⟩;rw[hs]at F ⊢;refine NV (by show (bt||(i5 cpos<|i6 es X.env).any (·.1))=bt;rw[h]<;>rfl)<|Pk ?_;refine ve F ?_;rintro us s2 ⟨vs,N,O,l,ds,P,B,m,E,rr,q2⟩;exact W p s2 σ N (.ref a) vs (.ref a) us R O rfl l ⟨n,a,ds,P,B,Q,rfl,aE E.pre G,m,rr,q2,λv H' w=>Z v H'<|VQ.trans (g1.trans E) w⟩
 |_=>exact g.elim
noncomputable def wt(n:Nat):D1:=λds M Q=>match ds with
 | [.str x,d]=>∃s,M[n]?=a7 (.dct s)/\Q ((fT s x).getD d) M
 |_=>False
theorem Cl:Kw X "dict.get" (pV X.K wt):=by
 rintro p s σ H x xs v us R I J G ⟨n,a,ds,M,ρ,Q,o,A,m,f,q,D⟩;unfold wt at q;split at q;rename_i x d;obtain⟨b,y,q⟩:=q;have z:=Reps.inv_cons f;clear f;obtain⟨_,_,rfl,C,f⟩:=z;have z:=Reps.inv_cons f;clear f;obtain⟨_,_,rfl,E,f⟩:=z;obtain rfl:=Reps.inv_nil f;obtain rfl:=t9.inv_str C;obtain⟨T,L,rfl,t,h⟩:=aC.two G;subst o;obtain rfl:v=F6 a:=J;obtain⟨O,u,r⟩:=m.obj _ _ _ A y;obtain⟨P,N,B,l,g⟩:=Gp I.hok u;refine call_meetsIn OK g.typeIs PySem.F.entry_dict_get (PySem.F.args_dict_get_3 _ _ _) (meets_dict_get_default (bT X.prog X.w) a (Ar (k:=ABX x) t) N L) ⟨_,g.mapOf,?_⟩;cases c:fT b x with
 |none=>rw[c]at q;exact⟨_,H,I.tok _,(by have:=(l.val<|ABX x).getD h;rw[lJ r c]at this;exact this),D _ _ ⟨d,M,ρ,m,.refl,E,q⟩⟩
 |some i=>rw[c]at q;obtain⟨Y,j,e⟩:=ja r c;exact⟨_,H,I.tok _,(by have:=(l.val<|ABX x).getD h;rw[j]at this;exact this),D _ _ ⟨i,M,ρ,m,.refl,e,q⟩⟩
 exact q.elim
noncomputable def wo(n:Nat):D1:=λds M Q=>match ds with
 | [.str x,d]=>∃s,M[n]?=a7 (.dct s)/\s.length<sizeLine/\(∀y,fT s x=a7 y->Q y M)/\(fT s x=a8->Q d (M.set n<|.dct<|mz s x d))
 |_=>False
theorem Ck:Kw X "dict.setdefault" (pV X.K wo):=by
 rintro G s σ H x xs v us R I rx rs ⟨n,a,ds,M,ρ,Q,S,D,t,f,q,E⟩;unfold wo at q;split at q;rename_i x d;obtain⟨b,C,hl,Y,Z⟩:=q;have z:=Reps.inv_cons f;clear f;obtain⟨_,_,rfl,r1,f⟩:=z;have z:=Reps.inv_cons f;clear f;obtain⟨_,vd,rfl,J,f⟩:=z;obtain rfl:=Reps.inv_nil f;obtain rfl:=t9.inv_str r1;obtain⟨u1,L,rfl,P,A⟩:=aC.two rs;subst S;obtain rfl:v=F6 a:=rx;obtain⟨ws,o,r⟩:=t.obj _ _ _ D C;obtain⟨z1,O,B,l,y⟩:=Gp I.hok o;refine call_meetsIn PySem.F.slot_dict_setdefault y.typeIs PySem.F.entry_dict_setdefault (PySem.F.args_dict_setdefault_3 _ _ _) (kt_meets_setdefault (bT X.prog X.w) a (Ar (k:=ABX x) P) O L) ⟨B,y,by rw[<-l.length];exact z1,λw' j=>?_,λj h' e sb=>?_⟩;cases c:fT b x with
 |none=>have:=l.val<|ABX x;rw[lJ r c,j]at this;exact this.elim
 |some u=>obtain⟨w0,m,h⟩:=ja r c;have:=l.val<|ABX x;rw[m,j]at this;exact⟨_,H,I.tok _,this,E _ _ ⟨u,M,ρ,t,.refl,h,Y _ c⟩⟩
 cases c:fT b x with
 |some u=>obtain⟨w0,m,h⟩:=ja r c;have:=l.val<|ABX x;rw[m,j]at this;exact this.elim
 |none =>
  obtain⟨i,T,g⟩:=zr (k:=x) J r;obtain⟨w1,N⟩:=t.writeD D C o g;have U:∃q,h'.get? a=a7 q:=let ⟨q,_,_,hq,_⟩:=e;⟨q,hq⟩
  have lw:=r.length;have p:KV (iU ((mz b x d).map (·.1)) i) (stored B (ABX x) L):=by rw[<-T];exact l.put (ABX x) A
  have W:(iU ((mz b x d).map (·.1)) i).length<=sizeLine:=by
   have V:=g.length;have l2:(mz b x d).length<=b.length+1:=by unfold mz;split<;>simp
   rw[u4]at V;rw[iU,u4,List.length_zip,u4];lia
  exact⟨_,_,AR I (by rw[o];exact True.intro) sb U<|Eg W O p e,A,E _ _ ⟨d,_,ρ,w1,N,J.grow N,Z c⟩⟩
 exact q.elim
theorem FJ(B:HE X o to)(f:HA X (e::es) t)(b:l7 o "get" X.env (eval o X.env)=eval o X.env:=by kernel_rfl)(w:((i5 cpos<|i6 (e::es) X.env).all (λx=>!x.1)&&(l8 cpos<|l9 [] X.env).all (λx=>x.1.isSome) && decide ((e::es).length+([]:List k7).length+(if ([]:List k7).isEmpty then 0 else 1)<30))=a9:=by kernel_rfl)(c:(apos.endLine==cpos.line)=a9:=by kernel_rfl) (hs:i6 (e::es) X.env=(bt,eval e X.env)::i6 es X.env:=by kernel_rfl) (n:(i5 cpos<|i6 es X.env).any (·.1)=bt:=by kernel_rfl):HE X (.Call (.Attribute o "get" apos) (e::es) [] cpos) (Np wt to t):=⟨d_mk OK PySem.F.type_dict_get Cl B.ok f.ok b w c hs n⟩
theorem FI(B:HE X o to)(f:HA X (e::es) t)(b:l7 o "setdefault" X.env (eval o X.env)=eval o X.env:=by kernel_rfl)(w:((i5 cpos<|i6 (e::es) X.env).all (λx=>!x.1)&&(l8 cpos<|l9 [] X.env).all (λx=>x.1.isSome) && decide ((e::es).length+([]:List k7).length+(if ([]:List k7).isEmpty then 0 else 1)<30))=a9:=by kernel_rfl)(c:(apos.endLine==cpos.line)=a9:=by kernel_rfl) (hs:i6 (e::es) X.env=(bt,eval e X.env)::i6 es X.env:=by kernel_rfl) (n:(i5 cpos<|i6 es X.env).any (·.1)=bt:=by kernel_rfl):HE X (.Call (.Attribute o "setdefault" apos) (e::es) [] cpos) (Np wo to t):=⟨d_mk PySem.F.slot_dict_setdefault PySem.F.type_dict_setdefault Ck B.ok f.ok b w c hs n⟩
end
noncomputable def iN(ps:List (c5×D)):List (c5×D):=ps.foldl (λs p=>mz s p.1 p.2) []
theorem oZ:iN (ps++[p])=mz (iN ps) p.1 p.2:=by unfold iN;rw[NM];rfl
theorem sX(ps:List (c5×D)):(iN ps).length<=ps.length:=by
 have:∀(ps acc:List (c5×D)),(ps.foldl (λkvs p=>mz kvs p.1 p.2) acc).length<=acc.length+ps.length:=by
  intro ps;induction ps with
  |nil=>intro acc;exact u6 _
  |cons p ps i=>intro acc;have h1:=i<|mz acc p.1 p.2;have h2:=wv (kvs:=acc) (k:=p.1) (d:=p.2);rw[List.foldl_cons,C2];lia
 have h:=this ps [];rw[B8]at h;unfold iN;lia
section
variable{X:Cx}{pins:List (c8×c9)}{σ:St}{H:Hp}{ρ:List c8}{M:t5}{A:e8}{E:c4->e9->Prop}{s:e9}
noncomputable def MV(X:Cx)(ρ:List c8)(H:Hp)(h:d5)(a:c8)(kvs:List (c5×D)):Prop:=∃s us,Reps X.K ρ H (kvs.map (·.2)) s/\KV (iU (kvs.map (·.1)) s) us/\h.DictOf (bT X.prog X.w) a us
theorem MV.at(x:MV X ρ H h a kvs)(k:∀o,h.get? a=a7 o->h'.get? a=a7 o):MV X ρ H h' a kvs:=by obtain⟨s,us,r,l,o,es,i,t,aY⟩:=x;exact⟨s,us,r,l,o,es,i,k _ t,aY⟩
theorem DY{kvs:List (c5×D)}{s:List V}{us:List (C7×c4)}(r:Reps X.K ρ H (kvs.map (·.2)) s)(l:KV (iU (kvs.map (·.1)) s) us):us.length=kvs.length/\(iU (kvs.map (·.1)) s).length=kvs.length:=by
 have t:=r.length;have e:=l.length;rw[u4]at t;have R:(iU (kvs.map (·.1)) s).length=kvs.length:=by rw[iU,u4,List.length_zip,u4];lia
 lia
theorem Gi(I:p8 X pins σ H s)(hu:A.units+20<k4)(W:Walks X.prog X.w A.in1 J fp wr m P Sx)(S:c8)(l:S∉fp)(L:s.heap.get? S=a8) (B:∀b∈wr,s.heap.get? b=a8) (ps:List (c5×D)) (hm:ps.length=m) (y:∀i v,P i v->∃p:c5×D,ps[i]?=a7 p/\∃vv,t9 X.K ρ H (.tup [.str p.1,p.2]) vv/\aM vv v) (Q:m<=1000):∀(k i:Nat) (h:d5) (tk:Nat) (j:Int) (t:Tok),m-i=k->i<=m->Sx i h->MV X ρ H h S (iN<|ps.take i)->(∀b u,s.heap.get? b=a7 u->h.get? b=a7 u) ->(∀h' tk,(∀b u,s.heap.get? b=a7 u->h'.get? b=a7 u)->MV X ρ H h' S (iN ps)->R (.ok<|.ret .none) { s with heap:=h',toks:=tk }) ->k6 (i3 X.prog X.w) A (.builtin "dict.update.loop" ⟨[.ref S,.ref J,.int j t,.none],[]⟩) R { s with heap:=h,toks:=tk }:=by
 have n:S∉wr:=λh=>l<|W.sub _ h;intro k;induction k with
 |zero =>
  intro i h tk j t hk hi g F c Y;obtain rfl:i=m:=by lia
  refine Lb jG ?_;rw[LS cI _];refine(show f9 (i3 X.prog X.w) A.in1 (j2 (.ref J) >>= _) _ _ _ from p6<|W.done _ _ _ g λh' tk d=>?_);rw[<-hm,LA]at F;refine(show f9 (i3 X.prog X.w) A.in1 (Builtin.Dict.addKeywords S [] >>= _) _ _ _ from p6<|q9<|q9 ?_);exact Y h' tk (λb u e=>d b u (λz=>by rw[B b z]at e;cases e)<|c b u e)<|F.at λo e=>d S o n e
 |succ k ih =>
  intro i h tk j t hk hi g F c Y;refine Lb jG ?_;rw[LS cI _];refine(show f9 (i3 X.prog X.w) A.in1 (j2 (.ref J) >>= _) _ _ _ from p6<|W.item i _ _ _ (by lia) g λv h' tk hP q d=>?_);obtain⟨p,hp,vv,r,rv⟩:=y i v hP;have f:∀b u,s.heap.get? b=a7 u->h'.get? b=a7 u:=λb u e=>d b u (λz=>by rw[B b z]at e;cases e)<|c b u e;have I':p8 X pins σ H { s with heap:=h',toks:=tk }:=I.kept f;obtain⟨ws,us,Z,C,dd⟩:=F.at λo e=>d S o n e;have hl:=(DY Z C).1;have dl:=sX<|ps.take i;rw[G2]at dl;obtain⟨a,vs,rfl,hq,E⟩:=t9.inv_tup r;obtain rfl:v=F6 a:=rv;obtain⟨_,_,rfl,r1,E⟩:=Reps.inv_cons E;obtain⟨_,vd,rfl,r2,E⟩:=Reps.inv_cons E;obtain rfl:=Reps.inv_nil E;obtain rfl:=t9.inv_str r1;obtain⟨its,U,pl,hz⟩:=I'.tuple hq;obtain⟨u1,u2,rfl,e1,e2⟩:=aC.two U;obtain⟨x,d0⟩:=p;obtain⟨o,T,hc,nn,hd⟩:=pl;have hT:({ s with heap:=h',toks:=tk }:e9).TypeIs (.ref a) "tuple":=⟨o,T,hc⟩
  refine p6<|D7<|p6<|wpAny_tryCatch ?_;unfold Builtin.Dict.pairItems;refine p6<|Ll hT ?_;rw[n5<|by decide];refine p6<|L7 T hd<|q9 ?_;refine(show f9 (i3 X.prog X.w) _ (i8 [u1,u2]<|dictSet S u1 u2) _ _ _ from D7 ?_);refine wpAny_dictSet_pairs (s:={ s with heap:=h',toks:=tk }) (Ar (k:=ABX x) e1) dd (λh2 G sb=>?_) (ak<|by lia);have V:∀b u,b≠S->h'.get? b=a7 u->h2.get? b=a7 u:=λb u Q e=>(sb.2 b Q).trans e;obtain⟨O,f1,N⟩:=zr (k:=x) r2 Z;have et:ps.take (i+1)=ps.take i++[(x,d0)]:=by rw[Mf,hp];rfl
  refine q9 ⟨LO cI _,ih (i+1) h2 _ _ _ (by lia) (by lia) (W.frame _ h' h2 q λb' M o e=>V b' o (λz=>l<|z ▸ M) e) ?_ (λb u e=>V b u (λz=>by rw[z,L]at e;cases e)<|f b u e) Y⟩;rw[et,oZ];exact⟨O,_,N,by rw[<-f1];exact C.put (ABX x) e2,G⟩
theorem Dt(I:p8 X pins σ H s)(Z:A.units+30<k4)(B:A.handled=a8)(C:s.heap.IsTuple l its)(f:s.heap.get? l=a7 ol)(j:ol.dict=a8)(ps:List (c5×D))(U:ps.length=its.size)(y:∀(i:Nat) v,its[i]?=a7 v->∃p:c5×D,ps[i]?=a7 p/\∃vv,t9 X.K ρ H (.tup [.str p.1,p.2]) vv/\aM vv v) (P:its.size<=1000)(h:∀h' tk,(∀b u,s.heap.get? b=a7 u->h'.get? b=a7 u)->MV X ρ H h' s.heap.objs.size (iN ps)->Q (.ref s.heap.objs.size) { s with heap:=h',toks:=tk }):f9 (i3 X.prog X.w) A (call (.type "dict") [.ref l]) Q E s:=by
 refine callType_codes (Q₁:=λg s₁=>g=.ref s.heap.objs.size/\s₁={ s with heap:=s.heap.push { cls:=.type "dict",data:=.dict #[] } }) PySem.F.kt_called_dict (PySem.F.kt_typeCall_dict_1 _) PySem.F.entry_dict_init (kt_code_dict_new _ ⟨rfl,rfl⟩) ?_;rintro g s₁ ⟨rfl,rfl⟩;have S:(s.heap.push { cls:=.type "dict",data:=.dict #[] }).get? s.heap.objs.size=a7 { cls:=.type "dict",data:=.dict #[] }:=z6 _ rfl;have z:Mv { s with heap:=s.heap.push { cls:=.type "dict",data:=.dict #[] } } (.ref s.heap.objs.size) "dict":=⟨_,S,rfl⟩
 obtain⟨a,O,r,nn,n⟩:=id C;obtain rfl:a=ol:=A6<|O.symm.trans f;have c:(s.heap.push { cls:=.type "dict",data:=.dict #[] }).get? l=a7 a:=v5 _ f;have L:Mv { s with heap:=s.heap.push { cls:=.type "dict",data:=.dict #[] } } (.ref l) "tuple":=⟨a,c,r⟩
 have Y:l<s.heap.objs.size:=v7 f;refine⟨z,PySem.F.args_dict_init_2 _ _,?_⟩;unfold Builtin.«dict.__init__»;refine p6 ?_;unfold Builtin.Dict.selfAndRest;refine p6<|NS z ?_;refine(show f9 _ _ (pure (s.heap.objs.size,[F6 l])) _ _ _ from q9 ?_);refine(show f9 _ _ (OO "dict.__init__" s.heap.objs.size (.ref l) [] .none) _ _ _ from ?_);unfold OO;refine p6<|Ll L ?_;rw[n5<|by decide];refine p6<|xk c r j n (by simpa using B) λh1 x J=>?_;have k:∀b u,s.heap.get? b=a7 u->h1.get? b=a7 u:=λb u e=>J b u<|v5 _ e;rw[n5<|show (a8:Option c4).isNone=a9 from rfl];refine p6<|Lj ?_;obtain⟨oI,St,t,W,st⟩:=(TxSrc.tuple (prog:=X.prog) (w:=X.w) C).iter A.in1.in1 { s with heap:=h1,toks:=x } (by simpa using B) λo e=>k _ _ e;refine p6<|t _ _ ?_;have d:=J _ _ S;have M:s.heap.objs.size<h1.objs.size:=v7 d;have G:s.heap.get? s.heap.objs.size=a8:=by
  cases q:s.heap.get? s.heap.objs.size with
  |none=>rfl
  |some o=>exact n9 (v7 q)<|D8 _
 refine q9 ⟨LO cI _,Gi (A:=A.in1) (s:=s) I (by show A.units+1+20<k4;lia) W s.heap.objs.size ?_ G ?_ ps U y P its.size 0 _ _ _ _ rfl (w5 _) st ⟨[],[],.nil,.nil,_,#[],_,v5 _ d,⟨rfl,rfl,rfl⟩,rfl,(λ_ R=>by simp at R),Pairs.nil,M9⟩ (λb u e=>v5 _<|k b u e) λh2 T V N=>⟨rfl,h h2 T V N⟩⟩;simp only[z9,Om,or_false,not_or];exact⟨w9 M,NA Y⟩;intro b m;rw[Km.mp m];cases q:s.heap.get? h1.objs.size with
 |none=>rfl
 |some o=>exact n9 (Nat.lt_trans (v7 q) M)<|D8 _
end
section
variable{X:Cx}{k:Nat}
noncomputable def wm:D1:=λds M Q=>match ds with
 | [.tup xs]=>∃ps:List (c5×D),xs=ps.map (λp=>.tup [.str p.1,p.2])/\ps.length<=1000/\Q (.ref M.length) (M++[.dct<|iN ps])
 |_=>False
theorem Ds(J:Room k X.A)(D:X.calm=a9):nN X (.type "dict") wm:=by rintro n s σ H vs us R I S ⟨ds,M,ρ,Q,B,b,q,N⟩;have un:=J.un;unfold wm at q;split at q;obtain⟨ps,L,Z,q⟩:=q;have z:=Reps.inv_cons b;clear b;obtain⟨_,_,rfl,g,b⟩:=z;obtain rfl:=Reps.inv_nil b;obtain⟨u,rfl,t⟩:=aC.one S;subst L;obtain⟨a,ws,rfl,G,r⟩:=t9.inv_tup g;cases t;obtain⟨its,y,x,hz⟩:=I.tupN G;obtain⟨oa,e,E,⟨nn,h⟩,j⟩:=id x;have P:=r.length;have li:=y.length;rw[u4]at P;have f:H s.heap.objs.size=a8:=I.hok.fresh<|u6 _;have C:(s.heap.objs.size==d6)=bt:=beq_eq_false_iff_ne.mpr<|z8<|w9 I.big;refine Dt (A:=X.A) (ρ:=ρ) I (by lia) (I.ok.hd D) x.tup e j ps (by rw[x3];lia) (λi v K=>?_) (by rw[x3];lia) λh' T O c=>?_;obtain⟨d,W,t,g,m⟩:=pz r y (i:=i) (u:=v) (by simpa using K);rw[D0]at t;obtain⟨p,F,rfl⟩:=Le.mp t;exact⟨p,F,W,g,m⟩;obtain⟨w,V,U,l,c⟩:=c;have Y:=sX ps;have ln:=(DY U l).2;refine⟨.ref s.heap.objs.size,_,I.laid (a:=s.heap.objs.size) (o:=.dK (iU ((iN ps).map (·.1)) w)) (t':=T) O (u6 _)<|Eg (ak<|by lia) C l c,rfl,?_⟩;exact N _ _ ⟨.ref M.length,M++[.dct<|iN ps],ρ++[s.heap.objs.size],B.laidM (mo:=.dct<|iN ps) f ⟨w,aK,U.grow<|Grow.laidR f⟩,Grow.laidR f,.ref B.last,q⟩;exact q.elim
theorem CT(i:Room k X.A)(f:X.calm=a9:=by kernel_rfl):HC X (.type "dict") wm:=⟨Ds i f⟩
end
noncomputable def BMain(mg:c5->Option c4)(base:d5):Prop:=∃m o,mg "__builtins__" = a7 (.ref m)/\m≠builtinsNs/\m≠d8/\base.get? m=a7 o/\o.cls=.type "module"/\o.dict=a7 builtinsNs/\o.data=.plain
noncomputable def Self(X:Cx)(x:c5):Prop:=∃(f:c8) (oc:c4) (j:Option c8) (d:k5) (m:Array (Option c4)),X.mg x=a7 (.ref f)/\X.K.lookup f=a7 ⟨oc,j,.func d,m⟩/\X.env.code=d.code
theorem Self.code(S:Self X x)(I:p8 X pins σ H s)(h:tabIn X.K x=a7 (c,P)):X.env.code=.ref c:=by obtain⟨f,oc,j,g,m,h1,h2,a⟩:=S;unfold tabIn at h;split at h;rename_i e d;have t:=mg_of I.mod.kin I.mod.glob d;rw[h1]at t;cases t;split at h;rename_i l;rw[h2]at l;cases l;split at h;rename_i U b;split at h;split at h;cases h;rw[a,b];cases h;cases h;cases h;cases h;cases h
section
variable{K:u0}{ρ:List c8}{M:t5}{H:Hp}
theorem z0.writtenB(b:H p=a7 (.tbl ps))(h:z0 K H a xs):z0 K (v4 H p o) a xs:=by
 have F:∀u,H a=a7 u->(∀q,u≠.tbl q)->a≠p:=λu e q z=>by rw[z,b]at e;exact q ps (A6 e).symm
 rcases h with h|h;rcases h with h|⟨c,h⟩
 exact .inl (.inl<|by rw[am<|F _ h λ_ z=>by cases z];exact h);exact .inl<|.inr ⟨c,by rw[am<|F _ h λ_ z=>by cases z];exact h⟩;exact .inr h
theorem u8.writeB(S:u8 K ρ M H)(t:ρ[n]?=a7 a)(u:M[n]?=a7 (.tb x b))(s:H a=a7 (.tbl ps)):u8 K ρ (M.set n<|.tb x a9) (v4 H a<|.tbl ps')/\Grow K ρ H ρ (v4 H a<|.tbl ps'):=by
 have g:Grow K ρ H ρ (v4 H a<|.tbl ps'):=⟨ME,λ_ _ h=>z0.writtenB s h⟩
 have l:∀m,m≠n->(M.set n<|.tb x a9)[m]?=M[m]?:=λm i=>KH<|z8 i;have c:¬Ku M[n]?:=λ⟨_,z⟩=>by rw[u]at z;cases z
 refine⟨⟨λm o b j e f=>?_,by rw[J5];exact S.len,λm d p e f=>?_⟩,g⟩;have q:=S.nd m o b j e f;by_cases h1:m=n;subst h1;rw[l o<|z8 j];exact .inr<|q.resolve_left c;rw[l m h1];by_cases h2:o=n;subst h2;exact .inl<|q.resolve_right c;rw[l o h2];exact q;by_cases i:m=n;subst i;have k:d=a:=A6<|e.symm.trans t;subst k;rw[KO<|by rw[<-S.len];exact(w6.mp t).1]at f;cases f;exact⟨(S.obj m d _ t u).1,ps',aK,λz=>by cases z⟩;rw[l m i]at f;by_cases k:d=a;subst k;have r:=(S.nd m n d i e t).resolve_right c;rw[f]at r;exact(S.obj m d p e f).grow g<|.inr r;exact(S.obj m d p e f).grow g<|.inl<|am k
end
theorem Fs{P:c7}{w:c6}{K:u0}{mg:c5->Option c4}{base:d5}{A:e8}{a:List Env}{s:e9}{H:Hp}{k:Nat}{f U:c8}{B l:c5}{p:Arguments}{c:h8}{scope:f7}{C h:c4}{N ps:List c5}{te:u9}{ρ:List c8}{M:t5}{d:D}{v:V}{u:c4}{R:DK} (j:Env0 P w K mg base A a s H) (X:s.heap.get? f=a7 (kla_obj B l p c scope [] C U h)) (m:s.heap.CodeRec (.ref U) l) (S:FnScope N ps scope) (t:Room (k+1) A)(Q:BindsTo s (kla_fn B l p c scope [] C (.ref U) h) ⟨[u],[]⟩ (ps.zip [u])) (W:1=ps.length) (i:∀E,Room k (A.deeper<|k9 l scope s.heap.objs.size f<|.ref U)->DE (tu E9 P w K mg base N l scope f (.ref U) A a s H E).nox c te)(L:u8 K ρ M H) (r:t9 K ρ H d v) (ru:aM v u) (Y:te (cJ N [d]) M (bg M R)):k6 (i3 P w) A (.call (.ref f) ⟨[u],[]⟩) (CR E9 a P w H s (λv' H'=>VQ K ρ H R v' H') E0) s:=by
 have F:s.heap.NoLimit:=j.mod.nolimit.keeps λb o e=>(j.bs b o e).1;have g:∀y∈ps.zip [u],scope.names.lookup y.1=a7 .local\/(scope.names.lookup y.1=a7 .cell/\((cellsFrom (s.heap.objs.size+1) scope.names []).lookup y.1).isSome=a9):=λ⟨n,v⟩ Z=>by rcases S.par n (Oj Z).1 with q|q;exact .inl q;exact .inr ⟨q,Ps _ _ _<|.inl q⟩
 refine kla_callFunE t.depth X rfl S.co S.gen rfl m<|Q _ _ _ _ ?_;refine wpAny_newFunctionEnv_cells S.kind g λenv T G x=>?_;subst T;refine⟨F.keeps x.toInCall.keep,kla_codeExpr ?_⟩;have I:p8 (tu E9 P w K mg base N l scope f (.ref U) A a s H E0) [] (start N [v]) H G:=sP S t.hd j W (.cons ru .nil) x;have O:=PE.nox<|i E0<|t.deeper _;refine E5 (O [] G (start N [v]) H (λv' H'=>VQ K ρ H (bg M R) v' H') I ⟨cJ N [d],M,ρ,_,L,SRep.start (.cons r .nil) N,Y,λ_ _ z=>z⟩) (λu' s' hs=>?_) λe s' hs=>hs;obtain⟨v',H',J,rv,q⟩:=hs;exact⟨v',H',J.os,J.bare,J.base,J.hok,rv,VQ.endq L q⟩
section
variable{X:Cx}{pins:List (c8×c9)}{σ:St}{H:Hp}{s:e9}
theorem p8.writeB(I:p8 X pins σ H s)(h:H P=a7 (.tbl ps))(k:∀b u,b≠P->s.heap.get? b=a7 u->h'.get? b=a7 u)(B:h'.get? P=a7 (tabObj<|ps++more)):p8 X pins σ (v4 H P<|.tbl<|ps++more) { s with heap:=h',toks:=t' }:=by
 have R:∀b,H b=a8->b≠P:=λb n z=>by rw[z,h]at n;cases n
 have F:∀b u,H b=a7 u->(∀q,u≠.tbl q)->b≠P:=λb u e q z=>by rw[z,h]at e;exact q ps (A6 e).symm
 refine I.un ⟨λb u q n _ _=>k b u (R b n) q,λb u q n _ _=>⟨u.slots,k b u (R b n) q⟩,λb u q n _=>by rw[am<|R b n];exact n,λb u q _=>?_,λb xs q=>by rw[am<|F b _ q λ_ z=>by cases z];exact q,λb u xs q=>by rw[am<|F b _ q λ_ z=>by cases z];exact q,λb qs q=>?_⟩ λb u q=>?_;by_cases d:b=P;subst d;exact⟨_,B⟩;exact⟨u,k b u d q⟩;by_cases d:b=P;subst d;rw[h]at q;cases q;exact⟨more,aK⟩;exact⟨#[],by rw[am d,q];simp⟩;by_cases d:b=P;subst d;rw[aK]at q;cases q;exact B;rw[am d]at q;refine(I.hok b u q).stay (λc v f r=>k c v ?_ r) (λc r=>by rw[am<|F c _ r λ_ z=>by cases z];exact r) λc xs r=>by rw[am<|F c _ r λ_ z=>by cases z];exact r
 rcases f with rfl|f;exact d;exact F c _ f λ_ z=>by cases z
theorem Cv(I:p8 X pins σ H s)(r:H P=a7 (.tbl #[]))(C:∀h:d5,X.K.In h->CodeHd h c P)(g:X.env.code=.ref c)(B:BMain X.mg X.base)(x:closureFor scope X.env=pure []) (k:defaultsOf params X.env=([],[]))(h:∀f c' oc vs t ctv ps' s',p8 X ((f,kla_obj "<lambda>" (X.env.qual ++ "<lambda>") params body scope [] ((X.mg "__name__").getD .none) c' ctv)::(c',oc)::pins) σ (v4 H P<|.tbl ps') s'->oc.data=.fields vs->vs[1]?=a7 (.str (X.env.qual ++ "<lambda>") t)->Q (.ref f) s'):f9 (i3 X.prog X.w) A (eval (.Lambda params body scope pos) X.env) Q E s:=by
 have L:s.heap.get? P=a7 (tabObj #[]):=I.hok P _ r;have hg:s.heap.Ns d8 X.mg:=I.mod.glob.keeps I.bk;have N:∀b o,X.base.get? b=a7 o->b≠P:=λb o e z=>by have:=(I.bs b o e).2;rw[z,r]at this;cases this
 obtain⟨W,ob,R,T,U,G,V⟩:=B;have y:d8≠P:=by obtain⟨o,es,ep,e,_⟩:=I.mod.glob;exact N _ _ e
 refine kla_eval k<|kla_makeFunction x I.ok.glob hg g (C _ I.kIn) L trivial rfl y ⟨W,ob,R,T,U,N _ _ G,I.bk _ _ G,V⟩ λc' ctv h' tk hx d D m i=>?_;obtain⟨c2,oc,vs,t,Z,S,M,hv⟩:=m;cases Z;have O:P≠h'.objs.size:=λz=>by rw[z]at i;exact n9 (v7 i)<|D8 _
 have hs:s.heap.objs.size<=h'.objs.size:=B9 d<|Mu D;have J:p8 X pins σ (v4 H P<|.tbl<|#[] ++ #[j5 pos.line,j5 pos.col,.ref c']) { s with heap:=h'.push<|kla_obj "<lambda>" (X.env.qual ++ "<lambda>") params body scope [] ((X.mg "__name__").getD .none) c' ctv,toks:=tk }:=by exact I.writeB r (λb u j e=>v5 _<|hx b u j e)<|v5 _ i
 have a:∀b,s.heap.objs.size<=b->b≠P->v4 H P (.tbl<|#[] ++ #[j5 pos.line,j5 pos.col,.ref c']) b=a8/\b≠X.env.locals/\b∉X.fs:=λb j hn=>by refine⟨by rw[am hn];exact I.hok.fresh j,λz=>?_,I.nofs j⟩;rw[z]at j;exact n9 (G0 I.lt j)<|D8 _
 have Y:c'≠P:=λz=>by rw[z]at d;exact n9 (G0 (v7 L) d)<|D8 _
 refine h h'.objs.size c' oc vs t ctv _ _ (J.pins_of λp l=>?_) M hv;rcases z9.mp l with rfl|l;obtain⟨F,n,q⟩:=a h'.objs.size hs<|z8 O;exact⟨z6 _ rfl,F,n,q,λv z=>by cases z⟩;rcases z9.mp l with rfl|l;obtain⟨F,n,q⟩:=a c' d Y;exact⟨v5 _ S,F,n,q,λv z=>by rw[M]at z;cases z⟩;exact J.pin p<|E3 _ l
end
noncomputable def lamB(c:f7)(y:c5):Bool:=decide (c.kind=.function) && !c.isCoroutine && !c.isGenerator&&decide (c.names.lookup y=a7 .local)&&c.names.all λp=>decide<|p.2≠.free
theorem Ag(h:lamB sc y=a9):FnScope [y] [y] sc:=by
 simp only[lamB,C5,o0,Oq,E6]at h;obtain⟨⟨⟨⟨h1,h2⟩,a⟩,f⟩,k⟩:=h;refine⟨h1,h2,a,Lc.mpr ⟨Om,M9⟩,rfl,λx c=>?_,λp b=>k p b⟩;obtain rfl:x=y:=by simpa using c
 exact .inl f
noncomputable def lD(x:c5)(N:List c5)(te:u9)(t:F4):u9:=λS M Q=>t S M λds c=>match ds with
 | [y]=>∃q xs l,c[q]?=a7 (.tb x bt)/\(y=.tup xs\/∃n,y=.ref n/\ax (c.set q<|.tb x a9) n xs)/\(∀d∈xs,te (cJ N [d]) (c.set q<|.tb x a9)<|bg (c.set q<|.tb x a9) λz e=>z=l d/\e=c.set q (.tb x a9))/\SrtG (c.set q<|.tb x a9) (xs.map l) /\∀ys,ys.Perm xs->ys.Pairwise (λa b=>A8 (c.set q<|.tb x a9) t8 (l b) (l a)=bt)->Q (.ref c.length) (c.set q (.tb x a9)++[.lst ys])
 |_=>False
theorem Aq(Sf:Self X x)(B:BMain X.mg X.base)(hr:Room (k+3) X.A)(he:HA X [e] t)(hm:X.mg "sorted" = a8)(ai:∀(s:e9) (H:Hp) (f:c8) (cdv:c4) (A:e8) (outer:List Env) (E:XK),Room k (A.deeper<|k9 (X.env.qual ++ "<lambda>") scope s.heap.objs.size f cdv)->HE (tu E9 X.prog X.w X.K X.mg X.base [y] (X.env.qual ++ "<lambda>") scope f cdv A outer s H E).nox body te)(Sc:FnScope [y] [y] scope) (aj:closureFor scope X.env=pure []) (P:defaultsOf params X.env=([],[]))(hb:∀(pm ctv:c4) (c':c8) (u:c4),bindArgs (kla_fn "<lambda>" (X.env.qual ++ "<lambda>") params body scope [] pm (.ref c') ctv) ⟨[u],[]⟩=pure [(y,u)])(al:X.env.kindOf "sorted" = a7 .globalImplicit:=by kernel_rfl) (hs:i6 [e] X.env=[(bt,eval e X.env)]:=by kernel_rfl):HE X (.Call (.Name "sorted" p) [e] [⟨a7 "key",.Lambda params body scope lpos,kpos⟩] pos) (lD x [y] te t):=by
 refine⟨λg s σ H R I h=>?_⟩;obtain⟨S,M,ρ,Q,sm,sr,q,kk⟩:=h;refine ML (kP I al hm tK ?_ (by decide)<|by decide);unfold lD at q;refine callWith_kw (ve (he.ok pos g s σ H (λvs H1=>AQ X.K ρ H _ vs H1) I ⟨S,M,ρ,_,sm,sr,q,λ_ _ z=>z⟩) ?_) (by rw[hs];rfl) (by rw[hs];rfl);rintro us s1 ⟨vs,H1,I1,r1,T⟩;obtain⟨ds,M1,as,V,g1,rs,T⟩:=T;split at T;rename_i y0;obtain⟨qn,xs,L,hq,hx,hP,so,O⟩:=T;obtain⟨v1,_,rfl,rx,rs⟩:=Reps.inv_cons rs;obtain rfl:=Reps.inv_nil rs;obtain⟨u,rfl,Z⟩:=aC.one r1;obtain⟨Pa,ep,mo⟩:=V.get hq;obtain⟨⟨c,tc,C⟩,ps,hH,h0⟩:=mo;obtain rfl:=h0 rfl;refine kws_cons<|Cv I1 hH C (Sf.code I1 tc) B aj P λf c' oc vs t' ctv ps' s2 N hd hv=>kws_nil ?_;obtain⟨i,Y⟩:=V.writeB (ps':=ps') ep hq hH;show f9 _ _ (call (.builtin "sorted") [u] [(AA0 "key",.ref f)]) _ _ _;have an:=so.len;rw[u4]at an;have F:Room (k+1+2) X.A:=hr;generalize v4 H1 Pa (.tbl ps')=H2 at i Y N;have ml:(M1.set qn<|.tb x a9).length=M1.length:=J5 ..;generalize M1.set qn (.tb x a9)=W at i hP so O hx ml;have G:KeyG X ((f,kla_obj "<lambda>" (X.env.qual ++ "<lambda>") params body scope [] ((X.mg "__name__").getD .none) c' ctv)::(c',oc)::g) σ as W f L xs:=λs H d v u hm I sm r Z=>by have p1:=(I.pin _<|E3 _ C6).1;have p2:=(I.pin (c',oc)<|E3 _<|A0 _ C6).1;exact Fs (k:=k) I.env0.in1.in1 p1 ⟨c',oc,vs,t',rfl,p2,hd,hv⟩ Sc (Room.in1 (k:=k+2) F).in1 (.of_eq<|hb _ _ _ _) rfl (λE hr=>(ai s H f _ _ _ E hr).ok) sm r Z<|hP d hm
 have j:∀{v:c4}{s':e9},EP X ((f,kla_obj "<lambda>" (X.env.qual ++ "<lambda>") params body scope [] ((X.mg "__name__").getD .none) c' ctv)::(c',oc)::g) σ R v s'->EP X g σ R v s':=λ{v s'} ⟨v',H',J,rv,q⟩=>⟨v',H',J.pins_of λp hp=>J.pin p<|E3 _<|A0 _<|A0 _ hp,rv,q⟩
 have l:∀ys,ys.Perm xs->ys.Pairwise (λa b=>A8 W t8 (L b) (L a)=bt)->Q (.ref W.length) (W++[.lst ys]):=λys h1 h2=>by rw[ml];exact O ys h1 h2
 rcases hx with rfl|⟨n,rfl,hL⟩
 obtain⟨a,vs,rfl,D,r⟩:=t9.inv_tup<|rx.grow Y;cases Z;obtain⟨its,U,⟨o,ho,hc,n,m⟩,_⟩:=N.tuple D;have h1:=r.length;have h2:=U.length;exact E5 (we G F N i r U ho (.inr hc) m (by lia) so λv H' z=>kk v H'<|VQ.trans g1<|VQ.trans Y<|z Q l) (λ_ _ z=>j z) λ_ _ z=>z;obtain⟨a,rfl,en⟩:=t9.inv_ref rx;cases Z;obtain⟨vs,D,r⟩:=ax.seq i hL en;obtain⟨its,U,⟨o,n,ho,hc,_,m⟩,_⟩:=N.list D;have h1:=r.length;have h2:=U.length;exact E5 (we G F N i r U ho (.inl hc) m (by lia) so λv H' z=>kk v H'<|VQ.trans g1<|VQ.trans Y<|z Q l) (λ_ _ z=>j z) λ_ _ z=>z;exact T.elim
section
variable{P:c7}{w:c6}{K:u0}{mg:c5->Option c4}{base:d5}{x:c5}{st:i7}{N ps:List c5}{k:Nat}{Pr:v8}{B:List c5}{C:List (c5×Int)}{t:p9}
noncomputable abbrev DerL(P:c7)(w:c6)(K:u0)(mg:c5->Option c4)(base:d5)(k:Nat)(x:c5)(N:List c5)(st:i7)(t:p9):Prop:=∀(f:c8) (cdv:c4) (A:e8) (outer:List Env) (s:e9) (H:Hp) (E:XK),Room k (A.deeper<|PyProof.Rows.envOfC x (av st) s.heap.objs.size f cdv)->Self (tu E9 P w K mg base N x (av st) f cdv A outer s H E).nox x->HB (tu E9 P w K mg base N x (av st) f cdv A outer s H E).nox (bU st) t
theorem u7.byL(T:TopB mg B C)(F:cG K mg x st ps)(u:FnScope N ps (av st))(n:cM Pr ps)(g:TopB mg B C->N.Nodup->DerL P w K mg base k x N st t)(X:∀ds M R,Pr ds M R->t (EE M R) (cJ N ds) M):u7 P w K mg base (k+1) x ps Pr:=by obtain⟨f,L,p,y,O⟩:=F;refine⟨f,L,?_,y,p.kp,O⟩;obtain⟨oc,W,kV,J,pm,Y,e,Z,G,rfl,I,l⟩:=p.ex;refine Jy I l u (λvs H Q E ⟨ds,M,ρ,R,s,r,q,_⟩=>by rw[<-r.length];exact n ds M R q) λA o s H vs Q E U h=>?_;obtain⟨ds,M,ρ,R,m,r,q,D⟩:=h;have V:=g T u.nd f e A o s H E U ⟨f,oc,W,_,G,y,I,rfl⟩;refine⟨lowS K t,J4.nox V.ok,cJ N ds,M,ρ,_,m,SRep.start r N,X ds M R q,⟨λc H' ⟨S,d,a,s',i,b,j⟩=>?_,λv H' z=>D v H'<|VQ.endq m z,λc H' ⟨S,d,a,s',i,b,j⟩=>j.elim,λc H' ⟨S,d,a,s',i,b,j⟩=>j.elim⟩⟩;exact D .non H'<|VQ.endq m ⟨.non,d,a,s',i,.non,j⟩
end
noncomputable def xL(z:c5):v8:=λds M R=>∃(ns:List Int) (m:MO),ns.length<=63/\(m.items=ns.map D.int/\m.isL=a9)/\ds=[.ref 0]/\M=[m,.tb z bt]/\∀a,R (.bl a9) a
theorem uK{K:u0}{H:Hp}{a t c:c8}{z:c5}{ns:List Int}(l:ns.length<=63)(S:Ki K H a (ns.map V.int))(B:H t=a7 (.tbl #[]))(k:tabIn K z=a7 (c,t))(C:∀h:d5,K.In h->CodeHd h c t)(F:a≠t):Lf K (xL z) [.ref a] H (λv _=>v=.bl a9) λ_ _ _=>False:=by
 have f:∀{mo:MO},mo.items=ns.map D.int/\mo.isL=a9->yk K [a,t] H a mo->Lf K (xL z) [.ref a] H (λv _=>v=.bl a9) λ_ _ _=>False:=λ{mo} e ok=>by
  refine⟨[.ref 0],[mo,.tb z bt],[a,t],λd _=>d=.bl a9,⟨λn m b g e1 e2=>?_,rfl,λn b i e1 e2=>?_⟩,.cons (.ref rfl) .nil,⟨ns,mo,l,e,rfl,rfl,λ_=>rfl⟩,λv H' ⟨d,M,p,_,_,r,q⟩=>?_⟩
  match n,m,e1,e2 with
  | 0,0,_,_=>exact n9 rfl g
  | 1,1,_,_=>exact n9 rfl g
  | 0,1,e1,e2=>simp at e1 e2;exact n9 (e1.trans e2.symm) F
  | 1,0,e1,e2=>simp at e1 e2;exact n9 (e2.trans e1.symm) F
  |n+2,_,e1,_=>simp at e1
  |_,m+2,_,e2=>simp at e2
  match n,e1,e2 with
  | 0,e1,e2=>simp at e1 e2;subst e1 e2;exact ok
  | 1,e1,e2=>simp at e1 e2;subst e1 e2;exact⟨⟨c,k,C⟩,#[],B,λ_=>rfl⟩
  |n+2,e1,_=>simp at e1
  have j:d=.bl a9:=q;subst j;obtain rfl:=t9.inv_bl r;rfl
 rcases S with(h|⟨o,h⟩)|h;exact f (mo:=.lst _) ⟨rfl,rfl⟩ ⟨_,h,jv ns⟩;exact f (mo:=.fz _) ⟨rfl,rfl⟩ ⟨o,_,h,jv ns⟩;exact f (mo:=.kl _) ⟨rfl,rfl⟩ ⟨_,h,jv ns⟩
theorem Af{P:c7}{w:c6}{K:u0}{mg mb:c5->Option c4}{k:Nat}{S a t:c8}{fd:k5}{x:c5}{sp:Sp}{s₁:e9}{vs:List c4}{ns:List Int}(X:K.In s₁.heap) (L:s₁.heap.Ns d8 mg) (c:s₁.heap.Ns builtinsNs mb) (U:∀x:c5,x≠"__name__"->mb x=d9 x) (J:s₁.heap.NoLimit) (hg:s₁.gens = #[])(A:s₁.heap.get? a=a7 { cls:=.type "list",data:=.seq vs.toArray }) (hi:IntsAre vs ns) (hl:ns.length<=sizeLine) (hr:Room k callerA) (nt:noTabs K=a9) (B:s₁.heap.get? t=a7 (tabObj #[])) (Z:isCodeTable s₁.heap t) (BM:BMain mg s₁.heap)(F:∀base:d5,K.In base->base.Ns d8 mg->BMain mg base->FnOk P w K mg base E9 k S fd [x] sp) (p:∀(s:e9) (u:c4),BindsTo s fd ⟨[u],[]⟩ [(x,u)])(Y:∀H:Hp,Ki K H a (ns.map V.int)->H t=a7 (.tbl #[])->sp [.ref a] H (λv _=>v=.bl a9) λ_ _ _=>False):k6 (i3 P w) callerA (.call (.ref S) ⟨[.ref a],[]⟩) (λr s'=>r=.ok (.ret<|.bool a9)/\OldK s₁.heap s'.heap/\s'.os=s₁.os/\f8 s'.gens) s₁:=by
 have rv:=qN hi;have N:=hi.length;have aP:a≠t:=λe=>by rw[e,B]at A;cases A
 have i:∀H:Hp,(∀b,b≠t->H b=a8\/∃o xs,H b=a7 (.frz o<|.lst xs))->Ki K H a (ns.map V.int)->H t=a7 (.tbl #[])->C8 P w H s₁.heap->(∀b,H b≠a8->b=a\/b=t)->(H a≠a8->K.lookup a=a8) -> k6 (i3 P w) callerA (.call (.ref S) ⟨[.ref a],[]⟩) (λr s'=>r=.ok (.ret<|.bool a9)/\OldK s₁.heap s'.heap/\s'.os=s₁.os/\f8 s'.gens) s₁:=by
  intro H hO hS hT M hA hK;have f:∀{b:c8}{o:c9},s₁.heap.get? b=a7 o->H b=a8->(Bo s₁.heap H).get? b=a7 o:=λe n=>CP e n;have O:∀{b:c8}{o:c9},s₁.heap.get? b=a7 o->o.cls≠.type "list"\/(∀v n,o.data≠.seq v n)->o≠tabObj #[]->H b=a8:=λ{b o} e E d2=>by
   cases q:H b with
   |none=>rfl
   |some u=>rcases hA b (by rw[q];simp)with e'|e';subst e';rw[A]at e;cases e;rcases E with E|E;exact n9 rfl E;exact n9 rfl<|E _ _;subst e';rw[B]at e;cases e;exact n9 rfl d2
  have g:∀{b:c8}{m:c5->Option c4},s₁.heap.Ns b m->(Bo s₁.heap H).Ns b m:=λ{b m} ⟨o,es,ep,e,d,r⟩=>⟨o,es,ep,f e (O e (.inr λv n z=>by rw[d]at z;cases z) λz=>by rw[z]at d;cases d),d,r⟩
  have G:K.In (Bo s₁.heap H):=λb o e=>f (X b o e) (by
   cases q:H b with
   |none=>rfl
   |some u=>rcases hA b (by rw[q];simp)with e'|e';subst e';rw[hK<|by rw[q];simp]at e;cases e;subst e';have h2:=E6.mp nt (b,o)<|mem_of_lookupK e;have h3:=X b o e;rw[B]at h3;cases h3;exact n9 (show bt=a9 from h2) LQ)
  have hM:Mod K mg (Bo s₁.heap H):=⟨G,g L,⟨mb,g c,U⟩,let ⟨mc,h1,h2⟩:=J;⟨mc,g h1,h2⟩⟩
  have e0:Env0 P w K mg (Bo s₁.heap H) callerA [] s₁ H:=⟨rfl,hM,λb o e=>Ff e,Nat.le_of_eq<|AB _ _,trivial,λb c=>n9 (show b∈([]:List c8)from c) (by simp),M,.of_eq hg⟩
  have R:BMain mg (Bo s₁.heap H):=by obtain⟨R,ob,b1,b2,b3,b4,C,b6⟩:=BM;exact⟨R,ob,b1,b2,b3,f b4 (O b4 (.inl λz=>by rw[z]at C;injection C with h;exact n9 h<|by decide) λz=>by rw[z]at C;cases C),C,b6⟩
  refine Mt ((F _ G (g L) R).run callerA [] s₁ H ⟨[.ref a],[]⟩ [.ref a] [.ref a] _ _ hr e0 (p s₁<|.ref a) (.cons rfl .nil)<|Y H hS hT) λr s' h=>?_;cases r with
  |error e=>exact h.elim
  |ok fl =>
   cases fl with
   |next=>exact Lk h
   |brk=>exact Lk h
   |cont=>exact Lk h
   |ret u =>
    obtain⟨v,H',os,D,un,j,r',q⟩:=h;have q':v=.bl a9:=q;subst q';obtain rfl:u=MX a9:=r';obtain⟨l,T⟩:=un.tbls t _ hT;have I:s'.heap.get? t=a7 (tabObj<|#[]++l):=j t _ T;have Q:∀b o,b≠t->s₁.heap.get? b=a7 o->s'.heap.get? b=a7 o:=λb o c e=>by
     cases q:H b with
     |none=>exact un.keep b o e q (by intro z;exact n9 (show b∈([]:List c8)from z)<|by simp)<|by simp
     |some u =>
      rcases hO b c with z|⟨ob,xs,z⟩
      rw[q]at z;cases z;have z2:=un.frzs b ob _ z;obtain⟨e1,_⟩:=M b _ z;obtain⟨e2,_⟩:=j b _ z2;rw[e]at e1;cases e1;exact e2
    refine⟨rfl,⟨λb o e=>?_,λb o e=>?_⟩,os,D⟩;by_cases c:b=t;subst c;rw[B]at e;cases e;exact .inr<|.inl ⟨Z,rfl,#[],l,rfl,I⟩;exact .inl<|Q b o c e;by_cases c:b=t;subst c;exact⟨_,I⟩;exact⟨o,Q b o c e⟩
 cases W:K.lookup a with
 |some o=>have e:=X a o W;rw[A]at e;cases e;refine i (v4 (λ_=>a8) t<|.tbl #[]) (λb c=>.inl<|am c) (.inr ⟨_,vs.toArray,_,W,rfl,rfl,rfl,by rw[x3,N];exact hl,by simpa using rv⟩) aK (λb u z=>?_) (λb z=>?_) λz=>n9 (am aP) z;by_cases c:b=t;subst c;rw[aK]at z;cases z;exact B;rw[am c]at z;cases z;by_cases c:b=t;exact .inr c;exact n9 (am c) z
 |none=>refine i (v4 (λb=>if b=a then a7 (.frz { cls:=.type "list",data:=.seq vs.toArray }<|.lst<|ns.map V.int)else a8) t<|.tbl #[]) (λb y=>?_) (.inl<|.inr ⟨{ cls:=.type "list",data:=.seq vs.toArray },(am aP).trans<|n5 rfl⟩) aK (λb u z=>?_) (λb z=>?_) λ_=>W;rw[am y];by_cases c:b=a;exact .inr ⟨_,_,n5 c⟩;exact .inl<|n6 c;by_cases y:b=t;subst y;rw[aK]at z;cases z;exact B;rw[am y]at z;by_cases c:b=a;have z':=(n5 c).symm.trans z;cases z';subst c;exact⟨A,by rw[u4];exact hl,vs,_,rv,A⟩;have z':=(n6 c).symm.trans z;cases z';by_cases y:b=t;exact .inr y;rw[am y]at z;by_cases c:b=a;exact .inl c;exact n9 (n6 c) z
theorem BC{K:u0}{x:c5}{c P:c8}(h:tabIn K x=a7 (c,P)):∃o,K.lookup c=a7 o:=by unfold tabIn at h;split at h;split at h;split at h;rename_i U _;split at h;rename_i e;split at h;cases h;exact⟨_,e⟩;cases h;cases h;cases h;cases h;cases h
theorem law_walkL{l:PySem.W.OpenLaw}{q:c7}{m:List c5}{XP:(c5->Option c4)->d5->Prop}{YP:c6->d5->Prop}{d dz:DefRec}{K:Params->u0}{k:Nat}{st:i7}{x z:c5}{cz P:Params->c8}(hn:l.most=a7 63)(O:d.params.defaults=[])(hd:d.name = "law")(hr:Room k callerA)(hY:∀(w:c6) (h:d5),YP w h->(K w.params).In h) (nt:∀p,noTabs (K p)=a9) (hz:(recsOf q).find? (λe=>e.name==z)=a7 dz) (S:∀p,tabIn (K p) z=a7 (cz p,P p))(F:∀(w:c6) (mg:c5->Option c4) (h:d5),(K w.params).In h->h.Ns d8 mg->cG (K w.params) mg "law" st [x] /\ ∀(base:d5) (f:c8) (fd:k5),BMain mg base->K7 (K w.params) "law" "law" st f fd->FnOk l.prog w (K w.params) mg base E9 k f fd [x] (Lf (K w.params)<|xL z))(hb:∀(kV doc pm:c4) (an:Option c8) (cdv ct:c4) (u:c4),bindArgs (LL "law" "law" (iP st) (bU st) (av st) .none kV doc pm an cdv ct) ⟨[u],[]⟩=pure [(x,u)]):PySem.W.WalkO q m XP YP l.row.toRowW d [] (λf vs=>PySem.call f vs):=by
 refine Att.attach_call hn O λw aj s₁ mg mb fa o pm cd doc a vs ns G Y ho as al D j i n hg=>?_;have I:=hY w _ Y;rw[hd]at D;obtain⟨⟨f,fd,Z,hm,_⟩,C⟩:=F w mg _ I G.T.g;have e:=D.symm.trans hm;cases e;obtain⟨V,N⟩:=tab_of G.T I hz<|S w.params;obtain⟨aD,A⟩:=BC<|S w.params;have CK:∀h:d5,(K w.params).In h->CodeHd h (cz w.params) (P w.params):=λh X=>by obtain⟨o2,U,y,tf,c,tg,Q,E,tt,e1,r⟩:=V;have e2:=I _ _ A;rw[e1]at e2;cases e2;exact⟨_,U,y,tf,c,tg,Q,E,tt,X _ _ A,r⟩
 have M:BMain mg s₁.heap:=by obtain⟨bm,ob,b1,b2,J,b4,b5,L⟩:=G.T.bmain;refine⟨bm,ob,b1,b2,λz=>?_,J,b4,b5,L⟩;obtain⟨og,es,ep,eg,dg,_⟩:=G.T.g;rw[z,eg]at J;cases J;rw[dg]at L;cases L
 have aP:a≠P w.params:=λe=>by rw[e,N]at j;cases j
 obtain⟨oc,od,kV,t,R,an,cdv,ct,aS,rfl,lk,ai⟩:=id Z.ex;exact Af I G.T.g G.T.b G.T.builtins G.T.nolimit hg j i (B9 n<|by decide) hr (nt _) N (V.tab N).isCodeTable M (λbase _ _ B=>C base _ _ B Z) (λs v=>.of_eq<|hb kV t R an cdv ct v) λH hS hT=>uK n hS hT (S w.params) CK aP
end L2
namespace L2
open PySem PySem.Spec PyProof.Rows DL
noncomputable def GtAt(A:e8)(s:e9)(x y:c4)(k:Bool):Prop:=∀(g:c7) (w:c6) (E:c4->e9->Prop) (Q:c4->e9->Prop),Q (.bool k) s->f9 (i3 g w) A (richCompare .Gt x y) Q E s
inductive GexAt(A:e8)(s:e9):List c4->List c4->Bool->Prop
 |nn:GexAt A s [] [] bt
 |nc {y:c4}{ys:List c4}:GexAt A s [] (y::ys) bt
 |cn {x:c4}{xs:List c4}:GexAt A s (x::xs) [] a9
 |eq {x y:c4}{xs ys:List c4}{k:Bool} (h:KW A s x y a9) (t:GexAt A s xs ys k):GexAt A s (x::xs) (y::ys) k
 |ne {x y:c4}{xs ys:List c4}{k:Bool} (h:KW A s x y bt) (t:GtAt A s x y k):GexAt A s (x::xs) (y::ys) k
section
variable{prog:c7}{w:c6}{A:e8}{E:c4->e9->Prop}{s:e9}{d:c8}{o:c9}{es:Array m5}{ep:Nat}{xs:List (D×c4×c4)}{k:D}{key:c4}{hs:D->Int}{Q:Option Nat->e9->Prop}
noncomputable def pM(es:Array m5)(h:Int)(i:Nat):Bool:=(es[i]?.map (·.hash))==a7 h
end
end L2
namespace LW
open PySem L2
local macro_rules | `(tactic| walk_at"sc")=>`(tactic| exact⟨rfl,rfl,rfl,by decide +kernel,rfl,by decide +kernel,by decide +kernel⟩)
local macro_rules | `(tactic| walk_at"dl")=>`(tactic| simp only[EE,aB,A1,JY,Bp,LH,ay,r9,aa,af,bf,nL,JX,Dm,dIfE,D2,sY,bI,ao,bq,aT,lq,nK,p7,Nn,tp,dC,ab,fH,iV,KQ,gx,fI,No,K5,eH,qw,DO,qAdd,aW,Hy,pH,ug,zq,GM,LG,MR,LU,MS,rW,x9,K2,iT,GO,u5,NZ,cN,dAsg,Dj,nI,cK,nJ,my,jw,Do,Dp,jI,ya,qu,xZ,LY,jx,nb,sZ,jK,GN,wQ,xq,GL,jY,lD,Gr,ir,SqAt,EG,ik,LZ,LI,N6,mw,rV,tyD,PM,cJ,JQ,C0,List.map_nil,On,D5,List.getElem?_cons_zero,Pu,C2,B8,List.replicate_zero,List.replicate_succ,List.set_cons_zero,List.set_cons_succ,L4,Nat.reduceAdd,Nat.reduceSub,Option.join_some,o7,o6,A7])
noncomputable def top(i:Nat):i7:=PySem.Challenge.pw_talkmarks_k53_bells_of_what_is_said_anew.main.body.getD i<|.Pass ⟨0,0,0,0⟩
noncomputable abbrev B_:List c5:=["len","any","dict","sorted","set","range","tuple","list","max"]
noncomputable abbrev C_:List (c5×Int):=[]
noncomputable abbrev iz:List c5:=["sign"]
noncomputable abbrev cc:List c5:=["text","name"]
noncomputable abbrev kh:List c5:=["saying","name"]
noncomputable abbrev kc:List c5:=["house","name"]
noncomputable abbrev gh:List c5:=["house","room"]
noncomputable abbrev ka:List c5:=["deed"]
noncomputable abbrev ix:List c5:=["deed"]
noncomputable abbrev iy:List c5:=["deed","vector"]
noncomputable abbrev dA:List c5:=["log","kind"]
noncomputable abbrev ki:List c5:=["log","kind","name"]
noncomputable abbrev fu:List c5:=["log","kind","name"]
noncomputable abbrev iA:List c5:=["log","name"]
noncomputable abbrev mE:List c5:=["say"]
noncomputable abbrev jZ:List c5:=["say"]
noncomputable abbrev iB:List c5:=["house","say","elders"]
noncomputable abbrev cw:List c5:=["house","log"]
noncomputable abbrev eF:List c5:=["deed","says"]
noncomputable abbrev fq:List c5:=["log","kind","says"]
noncomputable abbrev eD:List c5:=["log","says"]
noncomputable abbrev bR:List c5:=["log","says"]
noncomputable abbrev gf:List c5:=["say","changes"]
noncomputable abbrev gc:List c5:=["house","log"]
noncomputable abbrev fv:List c5:=["house","log"]
noncomputable abbrev cr:List c5:=["log","name"]
noncomputable abbrev mF:List c5:=["say","name","vectors","seen"]
noncomputable abbrev cu:List c5:=["house","log","name"]
noncomputable abbrev dw:List c5:=["says","hushes"]
noncomputable abbrev iw:List c5:=["says","name"]
noncomputable abbrev kj:List c5:=["message","rooms","rung","hushes"]
noncomputable abbrev pN:List c5:=["message","name","own","quiet"]
noncomputable abbrev iC:List c5:=["house","log","name"]
noncomputable abbrev mG:List c5:=["_law_script","_law_k"]
noncomputable abbrev pQ:List c5:=["_law_cell"]
noncomputable abbrev zB:List c5:=["_law_held","_law_many"]
noncomputable abbrev zD:List c5:=["_law_held"]
noncomputable abbrev ui:List c5:=["_law_held","_law_many"]
noncomputable abbrev uj:List c5:=["_law_cell"]
noncomputable abbrev pP:List c5:=["_law_held","_law_names_here"]
noncomputable abbrev zC:List c5:=["_law_held","_law_hands_here","_law_says"]
noncomputable abbrev pO:List c5:=["_law_held","_law_hands_here","_law_done"]
noncomputable abbrev zA:List c5:=["_law_held","_law_house_here","_law_hands_here","_law_says"]
noncomputable abbrev EZ:List c5:=["_law_held","_law_house_here","_law_hands_here","_law_says","_law_done"]
noncomputable abbrev uk:List c5:=["_law_house_here"]
noncomputable abbrev EX:List c5:=["_law_cells","_law_house_here"]
noncomputable abbrev zE:List c5:=["_law_log_here","_law_hand","_law_act_here"]
noncomputable abbrev kg:List c5:=["_law_saying_here","_law_name_here"]
noncomputable abbrev pR:List c5:=["_law_held","_law_house_here","_law_log_here","_law_name_here"]
noncomputable abbrev uh:List c5:=["_law_house_here","_law_log_here","_law_more_here","_law_act_here","_law_stamp","_law_name_here"]
noncomputable abbrev EY:List c5:=["_law_script"]
structure Tops(P:c7)(w:c6)(K:u0)(mg:c5->Option c4)(base:d5):Prop where
 f_is_letter:cG K mg "is_letter" (top 4) iz
 f_begins_with_name:cG K mg "begins_with_name" (top 5) cc
 f_is_named:cG K mg "is_named" (top 6) kh
 f_rooms_of:cG K mg "rooms_of" (top 8) kc
 f_members_of:cG K mg "members_of" (top 9) gh
 f_stamp_of:cG K mg "stamp_of" (top 11) ka
 f_person_of:cG K mg "person_of" (top 12) ix
 f_is_within:cG K mg "is_within" (top 13) iy
 f_deeds_of_kind:cG K mg "deeds_of_kind" (top 15) dA
 f_deeds_by:cG K mg "deeds_by" (top 16) ki
 f_stamps_told:cG K mg "stamps_told" (top 17) fu
 f_hushes_of:cG K mg "hushes_of" (top 19) iA
 f_room_of:cG K mg "room_of" (top 21) mE
 f_under_of:cG K mg "under_of" (top 22) jZ
 f_can_stand:cG K mg "can_stand" (top 23) iB
 f_says_that_count:cG K mg "says_that_count" (top 24) cw
 f_is_by_writer:cG K mg "is_by_writer" (top 25) eF
 f_writers_own:cG K mg "writers_own" (top 26) fq
 f_last_changes:cG K mg "last_changes" (top 27) eD
 f_stamps_taken_back:cG K mg "stamps_taken_back" (top 28) bR
 f_message_of:cG K mg "message_of" (top 29) gf
 f_says_shown:cG K mg "says_shown" (top 30) gc
 f_messages_of:cG K mg "messages_of" (top 31) fv
 f_vectors_by_room:cG K mg "vectors_by_room" (top 33) cr
 f_is_read:cG K mg "is_read" (top 34) mF
 f_unread_messages:cG K mg "unread_messages" (top 35) cu
 f_stamps_hushed:cG K mg "stamps_hushed" (top 37) dw
 f_stamps_by:cG K mg "stamps_by" (top 38) iw
 f_can_ring:cG K mg "can_ring" (top 39) kj
 f_why_of:cG K mg "why_of" (top 40) pN
 f_bells_for:cG K mg "bells_for" (top 41) iC
 f_cell_at:cG K mg "_law_cell_at" (top 43) mG
 f_digits:cG K mg "_law_digits" (top 44) pQ
 f_take:cG K mg "_law_take" (top 45) zB
 f_name:cG K mg "_law_name" (top 46) zD
 f_names:cG K mg "_law_names" (top 47) ui
 f_house:cG K mg "_law_house" (top 48) uj
 f_saying:cG K mg "_law_saying" (top 49) pP
 f_pick:cG K mg "_law_pick" (top 50) zC
 f_vector:cG K mg "_law_vector" (top 51) pO
 f_what:cG K mg "_law_what" (top 52) zA
 f_act:cG K mg "_law_act" (top 53) EZ
 f_hands:cG K mg "_law_hands" (top 54) uk
 f_log:cG K mg "_law_log" (top 55) EX
 f_more:cG K mg "_law_more" (top 56) zE
 f_names_in:cG K mg "_law_names_in" (top 57) kg
 f_act_of:cG K mg "_law_act_of" (top 58) pR
 f_right:cG K mg "_law_right" (top 59) uh
 f_law:cG K mg "law" (top 60) EY
 b:TopB mg B_ C_
 bm:BMain mg base
local macro_rules | `(tactic| walk_at"bb")=>`(tactic| first|exact Kf|exact GF|exact Ke|exact Kd|exact tK|exact Du)
local macro_rules | `(tactic| walk_at"tb")=>`(tactic| exact TopB.no (by k_dflt assumption) (by kernel_rfl))
local macro_rules | `(tactic| walk_at"dvr")=>`(tactic| (refine FW rfl ?_;repeat' (first|(with_reducible first|(refine gA ?_;first|exact IX|refine FE ?_ ?_)|exact k_var|(refine Jv ?_;first|exact k_int|exact k_bl|exact k_non|exact k_str)|(refine gCall ?_;first|refine FJ ?_ ?_|refine FI ?_ ?_|refine xP (by k_dflt assumption) ?_ (by walk_at"tb") (by walk_at"tb")|refine xQ ?_ (by walk_at"tb")|refine Aq (by k_dflt assumption) (by k_dflt assumption) (by k_dflt assumption) ?_ (by walk_at"tb") (λ_ _ _ _ _ _ _ _=>?_) (by k_dflt (exact Ag (by kernel_rfl))) (by k_dflt kernel_rfl) (by k_dflt kernel_rfl) (by k_dflt (intro _ _ _ _;kernel_rfl))|refine FL ?_ (by walk_at"tb") (by walk_at"bb") ?_|refine CG ?_ (by walk_at"tb") (by walk_at"bb") ?_|refine k_cal (by k_dflt assumption) (by k_dflt assumption) ?_|refine FF (by k_dflt assumption) ?_ ?_|refine k_ms ?_ ?_ ?_|refine k_ml ?_ ?_ ?_)|(refine gIx ?_;first|refine FG ?_ ?_ ?_|refine IZ (by k_dflt assumption) ?_ ?_ (hs:=by k_dflt (intro _ _;kernel_rfl))|refine Jb (by k_dflt assumption) ?_ ?_ (hs:=by k_dflt (intro _ _;kernel_rfl))|refine k_ix ?_ ?_ (hs:=by k_dflt (intro _ _;kernel_rfl)))|(refine gT ?_;first|refine IK ?_ ?_ ?_|refine IJ ?_|refine kw_t (DV ?_ ?_)|refine kw_t (IH ?_ ?_)|refine II ?_)|(refine gE ?_;first|exact Ja|exact IY|refine k_op ?_ ?_ ?_|refine k_un Jg ?_|refine k_not ?_|refine k_cmp ?_ ?_ ?_|refine FK ?_ ?_ ?_ ?_ ?_|refine k_one ?_|refine k_and ?_ ?_|refine k_or ?_ ?_|refine FH ?_ ?_ ?_|refine k_tup ?_|refine k_lst ?_|refine k_lcN ?_ (λ_ _ _ _=>?_) (λ_ _ _ _=>?_) (λ_ _ _ _=>?_))|(refine gS ?_;first|exact wG|refine Ak ?_|refine Ea ?_|refine IN ?_ ?_ ?_|refine sM (by k_dflt assumption) ?_ (λ_ _ _ _=>?_) (λ_ _ _ _=>?_) (λ_ _ _ _=>?_)|refine DZ (by k_dflt assumption) ?_|refine Ec ?_ ?_|refine Aj (by k_dflt assumption) ?_ ?_ ?_|refine Eb ?_ ?_ ?_)|(refine gOp ?_;first|exact FU|exact ho_eq (by k_dflt assumption)|exact FT|exact ho_gt|exact ho_in (by k_dflt assumption)|exact Jm (by k_dflt assumption)|exact ho_is|exact CM|exact ho_le|exact ho_lt|exact Jl|exact Jk|exact ho_ne (by k_dflt assumption)|exact CL (by k_dflt assumption)|exact Jj|exact Ji|exact Jh)|(refine gC ?_;first|exact Jr|exact AC (by k_dflt assumption)|exact CT (by k_dflt assumption)|exact Jq|exact FV|exact xR (by k_dflt assumption)|exact CS)|exact IM|exact Fx|exact FB|exact FC|refine IL ?_|refine DV ?_ ?_|refine IH ?_ ?_|refine Ft ?_|refine IG ?_|refine Fw ?_|refine FA ?_|refine Am (by walk_at"tb") ?_|refine Al (by walk_at"tb") ?_|refine Cz ?_|refine CA ?_|refine IP ?_|exact FD (by k_dflt assumption)|exact IT (IB (by kernel_rfl))|refine CB ?_ ?_|refine IR ?_|refine IS ?_ ?_|exact AA|exact Az|exact CN|exact Ay)|refine Fz ?_ ?_|refine Ak ?_|refine Ea ?_|refine IN ?_ ?_ ?_|refine sM (by k_dflt assumption) ?_ (λ_ _ _ _=>?_) (λ_ _ _ _=>?_) (λ_ _ _ _=>?_)|refine DZ (by k_dflt assumption) ?_|refine Ec ?_ ?_|refine Aj (by k_dflt assumption) ?_ ?_ ?_|refine Eb ?_ ?_ ?_|exact wG)))
local macro_rules | `(tactic| walk_at"dv")=>`(tactic| (intro _ _ _ _ _ _ _ _ _ _;walk_at"dvr"))
local macro_rules | `(tactic| walk_at"dvl")=>`(tactic| (intro _ _ _ _ _ _ _ _ _ _ _;walk_at"dvr"))
section
variable{P:c7}{w:c6}{K:u0}{mg:c5->Option c4}{base:d5}
noncomputable def ga(p:c5×Int):D:=.tup [.str p.1,.int p.2]
noncomputable def Hd(d:D):Prop:=∃(x:c5) (k:Int),d=.tup [.str x,.int k]
theorem Jo(f:Hd a)(d:Hd b):t4 M (n+1) a b=a9↔a=b:=by obtain⟨x,k,rfl⟩:=f;obtain⟨y,l,rfl⟩:=d;show (t4 M n (.str x) (.str y)&&(t4 M n (.int k) (.int l)&&a9))=a9↔_;rw[aN,mX];simp
theorem Jn(f:Hd a):u3 M t8 a=a9:=by obtain⟨x,k,rfl⟩:=f;rfl
theorem hd_key(f:Hd a):cW 8 a=a9:=by obtain⟨x,k,rfl⟩:=f;rfl
noncomputable def ny(hs:List (D×Int)):List D:=hs.map λp=>.tup [p.1,.int p.2]
noncomputable def fO(hs:List (D×Int))(d:D)(m:Int):Bool:=match hs.find? λp=>decide (p.1=d) with
 |some p=>decide<|m<p.2
 |none=>bt
noncomputable def O7:Nat->D->Bool
 |n+1,.tup xs=>xs.all<|O7 n
 | 0,.tup _=>bt
 |_,.ref _=>bt
 |_,.ty _=>bt
 |_,_=>a9
noncomputable def E4(n:Nat)(d:D):Prop:=O7 n d=a9
noncomputable def lu(n:Nat)(ds:List D):Prop:=ds.all (O7 n)=a9
theorem E4.non:E4 n .non:=by cases n<;>rfl
theorem E4.bl(b:Bool):E4 n (.bl b):=by cases n<;>rfl
theorem E4.int(i:Int):E4 n (.int i):=by cases n<;>rfl
theorem E4.str(x:c5):E4 n (.str x):=by cases n<;>rfl
theorem lu.nil:lu n []:=rfl
theorem lu.cons(h:E4 n d)(t:lu n ds):lu n (d::ds):=by unfold lu E4 at *;rw[KA,h,t];rfl
theorem E4.tup(h:lu n ds):E4 (n+1) (.tup ds):=h
theorem lu.of(h:∀d∈ds,E4 n d):lu n ds:=E6.mpr h
theorem bG:∀(n:Nat) (d:D),E4 n d->A5 k d:=by
 intro n;induction n with
 |zero =>
  intro d h;cases d with
  |tup xs=>cases h
  |ref i=>cases h
  |ty t=>cases h
  |non=>exact .non
  |bl b=>exact .bl b
  |int i=>exact .int i
  |str x=>exact .str x
 |succ n c =>
  intro d h;cases d with
  |tup xs=>exact .tup<|Bels.of λx a=>c x<|E6.mp h x a
  |ref i=>cases h
  |ty t=>cases h
  |non=>exact .non
  |bl b=>exact .bl b
  |int i=>exact .int i
  |str x=>exact .str x
theorem qp:∀{xs:List D},(∀x∈xs,f x x=a9)->C3 f xs xs=a9
 | [],_=>rfl
 |x::xs,h=>by show (f x x&&C3 f xs xs)=a9;rw[h x (by simp),qp λy hy=>h y<|A0 _ hy];rfl
theorem oT:∀(n m:Nat) (d:D),n<=m->E4 n d->u3 M m d=a9/\t4 M m d d=a9:=by
 intro n;induction n with
 |zero =>
  intro m d _ h;cases d with
  |tup xs=>cases h
  |ref i=>cases h
  |ty t=>cases h
  |non=>exact⟨zM,by cases m<;>rfl⟩
  |bl b=>exact⟨DP,by cases m<;>cases b<;>rfl⟩
  |int i=>exact⟨pU,by rw[mX];exact p5 i⟩
  |str x=>exact⟨ar,by rw[aN];exact p5 x⟩
 |succ n c =>
  intro m d e h;cases m with
  |zero=>lia
  |succ m =>
   cases d with
   |tup xs=>exact⟨Fe λx a=>(c m x (by lia)<|E6.mp h x a).1,qp λx a=>(c m x (by lia)<|E6.mp h x a).2⟩
   |ref i=>cases h
   |ty t=>cases h
   |non=>exact⟨zM,rfl⟩
   |bl b=>exact⟨DP,by cases b<;>rfl⟩
   |int i=>exact⟨pU,by rw[mX];exact p5 i⟩
   |str x=>exact⟨ar,by rw[aN];exact p5 x⟩
theorem CQ(h:Hd d):E4 (n+1) d:=by obtain⟨x,i,rfl⟩:=h;exact .tup<|.cons (.str _)<|.cons (.int _) .nil
theorem Jp(h:Hd d):A5 k d:=bG 1 d<|CQ h
noncomputable def Deed(d:D):Prop:=∃(t:Int) (h:D) (m:Int) (a:D),d=.tup [.int t,h,.int m,a]/\Hd h/\E4 5 a
theorem Gs(h:Deed d):E4 6 d:=by obtain⟨t,c,m,a,rfl,b,f⟩:=h;exact .tup<|.cons (.int _)<|.cons (CQ b)<|.cons (.int _)<|.cons f .nil
theorem Dk(h:Deed d):A5 k d:=bG 6 d<|Gs h
theorem JP(h:∀d∈ds,Deed d):Bels k ds:=Bels.of λd a=>Dk<|h d a
noncomputable def Jt:D->D
 |.tup (_::h::_)=>h
 |_=>.non
noncomputable def numD:D->Int
 |.tup (_::_::.int n::_)=>n
 |_=>0
noncomputable def many(log:List D)(h:D):Nat:=(log.filter λd=>decide<|Jt d=h).length
theorem gM:aX (iu kvs k d) k=a7 d:=by
 unfold iu;split;rename_i hs;unfold aX at hs ⊢;rw[Option.isSome_map]at hs;obtain⟨q,h⟩:=PD.mp hs;rw[Od];have e:((λp:D×D=>decide<|p.1=k) ∘ λp:D×D=>if p.1=k then(p.1,d)else p)=λp=>decide (p.1=k):=by funext p;show decide ((if p.1=k then(p.1,d)else p).1=k)=decide (p.1=k);split<;>rfl
 rw[e,h];have a:q.1=k:=by have:=Nd h;exact oT_ this
 show a7 (if q.1=k then(q.1,d)else q).2=_;rw[n5 a];rename_i hs;unfold aX at hs ⊢;rw[Option.isSome_map,Option.not_isSome_iff_eq_none]at hs;rw[Op,hs];simp
theorem gn(h:j≠k):aX (iu kvs k d) j=aX kvs j:=by
 unfold iu;split;unfold aX;rw[Od];have e:((λp:D×D=>decide<|p.1=j) ∘ λp:D×D=>if p.1=k then(p.1,d)else p)=λp=>decide (p.1=j):=by funext p;show decide ((if p.1=k then(p.1,d)else p).1=j)=decide (p.1=j);split<;>rfl
 rw[e];cases f:kvs.find? λp=>decide (p.1=j) with
 |none=>rfl
 |some q =>
  have a:q.1=j:=by have:=Nd f;exact oT_ this
  show a7 (if q.1=k then(q.1,d)else q).2=a7 q.2;rw[n6<|by rw[a];exact h]
 unfold aX;rw[Op];cases f:kvs.find? λp=>decide (p.1=j) with
 |none=>simp[z8 h]
 |some q=>rfl
theorem fy:∀{kvs:List (D×D)}{p:D×D},(kvs.map (·.1)).Nodup->p∈kvs->aX kvs p.1=a7 p.2
 |q::kvs,p,nd,h=>by rw[C0,Lc]at nd;unfold aX;rw[KC];rcases z9.mp h with rfl|h;rw[dT_ rfl];rfl;have:q.1≠p.1:=λz=>nd.1 (by rw[z];exact G7 h);rw[dF_ this];exact fy nd.2 h
theorem cy(h:aX kvs k=a7 d):(k,d)∈kvs:=by
 unfold aX at h;obtain⟨q,a,rfl⟩:=Le.mp h;have e:q.1=k:=by have:=Nd a;exact oT_ this
 rw[<-e];exact List.mem_of_find?_eq_some a
theorem bz{α:Type}{P:List α->Prop}(a:P [])(h1:∀l x,P l->P (l++[x]))(l:List α):P l:=by
 rw[<-List.reverse_reverse l];induction l.reverse with
 |nil=>exact a
 |cons x xs i=>rw[List.reverse_cons];exact h1 _ _ i
theorem dO(h:ax M n xs)(ok:∀x∈xs,u3 (M++[MO.lst []]) 29 x=a9):(u3 (M++[MO.lst []]) t8 (.ref n)=a9/\u3 (M++[MO.lst []]) t8 (.ref M.length)=a9)/\t4 (M++[MO.lst []]) t8 (.ref n) (.ref M.length)=xs.isEmpty:=by have h1:ax (M++[MO.lst []]) n xs:=h.more _;have h2:ax (M++[MO.lst []]) M.length []:=au;refine⟨⟨pT (n:=29) h1 ok,pT (n:=29) h2 λ_ z=>nomatch z⟩,?_⟩;exact(wL (n:=29) h1 h2).trans Gb
theorem lst_ne(h:m≠n)(l:ax M m xs):ax (M.set n x) m xs:=by rcases l with l|l|l;exact .inl (by rw[KH<|z8 h];exact l);exact .inr (.inl<|by rw[KH<|z8 h];exact l);exact .inr<|.inr<|by rw[KH<|z8 h];exact l
theorem az{M:t5}{m n:Nat}{x y:MO}(h:m≠n)(l:M[m]?=a7 y):(M.set n x)[m]?=a7 y:=by rw[KH<|z8 h];exact l
theorem aU{M:t5}{m:Nat}{y:MO}(l:M[m]?=a7 y):m<M.length:=(w6.mp l).1
theorem IE(l:ax M m xs):m<M.length:=by rcases l with l|l|l<;>exact aU l
theorem ac{B:t5}{q:Nat}{x a:MO}(h:B[q]?=a7 x):(B++[a])[q]?=a7 x:=by rw[G9 (w6.mp h).1];exact h
theorem dD{B:t5}{q:Nat}{x a:MO}(h:B[q]?=a7 x):(B.set q a)[q]?=a7 a:=KO (w6.mp h).1
theorem uD(p:M <+: B)(l:ax M q xs):ax B q xs:=by obtain⟨L,rfl⟩:=p;exact l.more L
theorem be{M B:t5}{q:Nat}{x:MO}(p:M <+: B)(l:M[q]?=a7 x):B[q]?=a7 x:=by obtain⟨L,rfl⟩:=p;rw[G9<|aU l];exact l
theorem ints_bel(xs:List Int):Bels k (xs.map D.int):=Bels.of λd h=>by obtain⟨x,_,rfl⟩:=v6.mp h;exact .int x
theorem wc(xs:List c5):Bels k (xs.map D.str):=Bels.of λd h=>by obtain⟨x,_,rfl⟩:=v6.mp h;exact .str x
theorem wA{a b:Int}(h:0<b):0<=a % b:=Int.emod_nonneg _<|by lia
theorem wB{a b:Int}(h:0<b):a % b<b:=Int.emod_lt_of_pos _ h
theorem at_mod{α:Type}{xs:List α}{i:Int}(h:1<=xs.length):∃x∈xs,atI xs (i % (xs.length:Int))=a7 x:=by obtain⟨j,L,C,_⟩:=dF (xs:=xs) (wA (a:=i) (b:=xs.length)<|by lia) (wB<|by lia);exact⟨xs[j],J0 L,C⟩
theorem du(p:M <+: B)(h:M.length<=q):M <+: B.set q x:=by obtain⟨L,rfl⟩:=p;rw[Pm _ _ h];exact F9 _ _
noncomputable def eG(p:c5×Int):List D:=(tN 0 p.2.toNat).map λk=>.tup [.str p.1,k]
noncomputable def aI(ps:List (c5×Int)):List D:=ps.flatMap eG
noncomputable def Pe(ps:List (c5×Int)):Prop:=ps.length<=4/\∀p∈ps,0<=p.2/\p.2<=3
theorem iL:(eG p).length=p.2.toNat:=by simp[eG,tN]
theorem oX(h:∀p∈ps,0<=p.2/\p.2<=3):(aI ps).length<=3*ps.length:=by
 induction ps with
 |nil=>simp[aI]
 |cons p ps i =>
  have:=i λq a=>h q<|A0 _ a;have h1:=h p C6;have e:(aI<|p::ps).length=p.2.toNat+(aI ps).length:=by rw[aI,List.flatMap_cons,z5,iL];rfl
  rw[e,C2];lia
theorem qh:∀d∈aI ps,Hd d:=λd a=>by unfold aI at a;obtain⟨p,_,h⟩:=List.mem_flatMap.mp a;unfold eG tN at h;simp only[E2,v6]at h;obtain⟨i,_,rfl⟩:=h;exact⟨_,_,rfl⟩
theorem xS:Bels k (aI ps):=Bels.of λd h=>Jp<|qh d h
noncomputable def eS(p:c5×List c5):D:=.tup [.str p.1,.tup<|p.2.map .str]
noncomputable def aG(ps:List (c5×Int))(rs:List (c5×List c5)):D:=.tup [.tup<|ps.map ga,.tup<|rs.map eS]
noncomputable def eI(x:c5):Prop:=∀c∈x.cps.toList,97<=c/\c<=122
theorem eI.app(h1:eI a)(h2:eI b):eI (a++b):=λx h=>by
 have e:(a++b).cps.toList=a.cps.toList++b.cps.toList:=by show (a.cps++b.cps).toList=_;simp
 rw[e]at h;exact(C9.mp h).elim (h1 x)<|h2 x
structure HouseF(ps:List (c5×Int))(rs:List (c5×List c5)):Prop where
 len:1<=ps.length/\ps.length<=4
 many:∀p∈ps,1<=p.2/\p.2<=3
 nm:∀p∈ps,p.1.length<=8
 rl:1<=rs.length/\rs.length<=4
 pnd:(ps.map (·.1)).Nodup
 rnd:(rs.map (·.1)).Nodup
 rm:∀r∈rs,r.2.length<=4
 sm:∀p∈ps,eI p.1
noncomputable def St(d:D):Prop:=∃(t:Int) (z:c5) (k:Int),d=.tup [.int t,.tup [.str z,.int k]]
theorem St.key(h:St d):cW 8 d=a9:=by obtain⟨t,z,k,rfl⟩:=h;rfl
theorem St.ok(h:St d):u3 M t8 d=a9:=by obtain⟨t,z,k,rfl⟩:=h;rfl
theorem St.pl(h:St d):E4 (n+2) d:=by obtain⟨t,z,k,rfl⟩:=h;exact .tup<|.cons (.int _)<|.cons (.tup<|.cons (.str _)<|.cons (.int _) .nil) .nil
theorem St.eq(f:St a)(d:St b):t4 M (n+2) a b=decide (a=b):=by
 obtain⟨t,z,k,rfl⟩:=f;obtain⟨t',G,H,rfl⟩:=d;have e:t4 M (n+2) (.tup [.int t,.tup [.str z,.int k]]) (.tup [.int t',.tup [.str G,.int H]])=((t==t')&&(((z==G)&&((k==H)&&a9))&&a9)):=by show (t4 M (n+1) (.int t) (.int t')&&((t4 M n (.str z) (.str G)&&(t4 M n (.int k) (.int H)&&a9))&&a9))=_;rw[mX,aN,mX]
 rw[e];by_cases h:D.tup [.int t,.tup [.str z,.int k]]=.tup [.int t',.tup [.str G,.int H]];rw[dT_ h];simp only[D.tup.injEq,MC,D.int.injEq,D.str.injEq,and_true]at h;obtain⟨rfl,rfl,rfl⟩:=h;simp;rw[dF_ h];simp only[D.tup.injEq,MC,D.int.injEq,D.str.injEq,and_true]at h;refine KD.mpr λq=>h ?_;simpa using q
theorem St.tup(h:St d):∃ks,d=.tup ks:=by obtain⟨t,z,k,rfl⟩:=h;exact⟨_,rfl⟩
noncomputable def fS(d:D):Prop:=(∃x:c5,d=.tup [.str<|AA0 "room",.str x])\/(∃x:c5,d=.tup [.str<|AA0 "person",.str x])\/∃(t:Int) (z:c5) (k:Int),d=.tup [.str<|AA0 "under",.tup [.int t,.tup [.str z,.int k]]]
theorem fS.tup(h:fS d):∃ks,d=.tup ks:=by rcases h with⟨x,rfl⟩|⟨x,rfl⟩|⟨t,z,k,rfl⟩<;>exact⟨_,rfl⟩
theorem fS.key(h:fS d):cW 8 d=a9:=by rcases h with⟨x,rfl⟩|⟨x,rfl⟩|⟨t,z,k,rfl⟩<;>rfl
theorem fS.ok(h:fS d):A4 t8 d=a9:=by rcases h with⟨x,rfl⟩|⟨x,rfl⟩|⟨t,z,k,rfl⟩<;>rfl
theorem fS.pl(h:fS d):E4 3 d:=by rcases h with⟨x,rfl⟩|⟨x,rfl⟩|⟨t,z,k,rfl⟩<;>rfl
theorem fS.pl4(h:fS d):E4 4 d:=by rcases h with⟨x,rfl⟩|⟨x,rfl⟩|⟨t,z,k,rfl⟩<;>rfl
theorem fS.str(h:fS d):∃z r,d=.tup (.str z::r):=by rcases h with⟨x,rfl⟩|⟨x,rfl⟩|⟨t,z,k,rfl⟩<;>exact⟨_,_,rfl⟩
theorem fS.cm(f:fS a)(d:fS b):iQ M t8 a b=a9:=by
 have c:(AA0 "room" == AA0 "person")=bt:=by decide +kernel
 have R:(AA0 "room" == AA0 "under")=bt:=by decide +kernel
 have p:(AA0 "person" == AA0 "room")=bt:=by decide +kernel
 have u:(AA0 "person" == AA0 "under")=bt:=by decide +kernel
 have g:(AA0 "under" == AA0 "room")=bt:=by decide +kernel
 have e:(AA0 "under" == AA0 "person")=bt:=by decide +kernel
 have F:∀{x y:c5}{r r':List D},(x==y)=bt->iQ M t8 (.tup<|.str x::r) (.tup<|.str y::r')=a9:=λ{x y r r'} h=>by show (if t4 M 29 (.str x) (.str y)=a9 then AU (t4 M 29) (iQ M 29) r r' else iQ M 29 (.str x) (.str y))=a9;rw[aN,h];rfl
 have s:∀{x y:c5}{z:c5},iQ M t8 (.tup [.str z,.str x]) (.tup [.str z,.str y])=a9:=λ{x y z}=>by
  show (if t4 M 29 (.str z) (.str z)=a9 then(if t4 M 29 (.str x) (.str y)=a9 then a9 else a9)else a9)=a9
  repeat' split
  all_goals rfl
 rcases f with⟨x,rfl⟩|⟨x,rfl⟩|⟨t,z,k,rfl⟩<;>rcases d with⟨y,rfl⟩|⟨y,rfl⟩|⟨t',G,H,rfl⟩
 exact s;exact F c;exact F R;exact F p;exact s;exact F u;exact F g;exact F e
 ·show (if t4 M 29 (.str<|AA0 "under") (.str<|AA0 "under")=a9 then(if t4 M 29 (.tup [.int t,.tup [.str z,.int k]]) (.tup [.int t',.tup [.str G,.int H]])=a9 then a9 else(if t4 M 28 (.int t) (.int t')=a9 then(if t4 M 28 (.tup [.str z,.int k]) (.tup [.str G,.int H])=a9 then a9 else(if t4 M 27 (.str z) (.str G)=a9 then(if t4 M 27 (.int k) (.int H)=a9 then a9 else a9)else a9))else a9))else a9)=a9
  repeat' split
  all_goals rfl
theorem yt(h:∀x∈xs,fS x)(l:xs.length<64):SrtG M xs:=SrtOk.g ⟨l,λx a=>(h x a).ok,λx a y O=>(h x a).cm<|h y O,.inr<|.inr<|.inl λx a=>(h x a).str⟩
noncomputable def VecK(vs:List D):Prop:=∃hs:List (D×Int),vs=ny hs/\(∀p∈hs,Hd p.1)/\hs.length<=12
structure ActK(rs:List (c5×List c5))(x:c5)(ds:List D):Prop where
 say:x=AA0 "say"->∃(r:c5) (u:D) (s:c5),ds=[.str r,u,.str s]/\r∈rs.map (·.1)/\(u=.non\/St u)
 change:x=AA0 "change"->∃(m:D) (s:c5),ds=[m,.str s]/\St m
 back:x=AA0 "back"->∃m:D,ds=[m]/\St m
 like:x=AA0 "like"->∃(m:D) (s:c5) (b:Bool),ds=[m,.str s,.bl b]/\St m
 read:x=AA0 "read"->∃(r:c5) (vs:List D),ds=[.str r,.tup vs]/\VecK vs
 seen:x=AA0 "seen"->∃m:D,ds=[m]/\St m
 rung:x=AA0 "rung"->∃m:D,ds=[m]/\St m
 hush:x=AA0 "hush"->∃(w:D) (b:Bool),ds=[w,.bl b]/\fS w
 lenS:x=AA0 "say"->∀(r u:D) (s:c5),ds=[r,u,.str s]->s.length<=100
 lenC:x=AA0 "change"->∀(m:D) (s:c5),ds=[m,.str s]->s.length<=100
section
variable{rs:List (c5×List c5)}
theorem bL{a b:c5}{P:Prop}(h:(a==b)=bt)(e:a=b):P:=n9 e<|beq_eq_false_iff_ne.mp h
theorem ActK.mkSay(i:r∈rs.map (·.1))(g:u=.non\/St u)(l:s.length<=100):ActK rs (AA0 "say") [.str r,u,.str s]:=⟨λ_=>⟨r,u,s,rfl,i,g⟩,bL (by decide +kernel),bL (by decide +kernel),bL (by decide +kernel),bL (by decide +kernel),bL (by decide +kernel),bL (by decide +kernel),bL (by decide +kernel),λ_ _ _ _ e=>by cases e;exact l,bL<|by decide +kernel⟩
theorem ActK.mkChange(h:St m)(l:s.length<=100):ActK rs (AA0 "change") [m,.str s]:=⟨bL (by decide +kernel),λ_=>⟨m,s,rfl,h⟩,bL (by decide +kernel),bL (by decide +kernel),bL (by decide +kernel),bL (by decide +kernel),bL (by decide +kernel),bL (by decide +kernel),bL (by decide +kernel),λ_ _ _ e=>by cases e;exact l⟩
theorem ActK.mkBack(h:St m):ActK rs (AA0 "back") [m]:=⟨bL (by decide +kernel),bL (by decide +kernel),λ_=>⟨m,rfl,h⟩,bL (by decide +kernel),bL (by decide +kernel),bL (by decide +kernel),bL (by decide +kernel),bL (by decide +kernel),bL (by decide +kernel),bL<|by decide +kernel⟩
theorem ActK.mkLike(h:St m):ActK rs (AA0 "like") [m,.str s,.bl b]:=⟨bL (by decide +kernel),bL (by decide +kernel),bL (by decide +kernel),λ_=>⟨m,s,b,rfl,h⟩,bL (by decide +kernel),bL (by decide +kernel),bL (by decide +kernel),bL (by decide +kernel),bL (by decide +kernel),bL<|by decide +kernel⟩
theorem ActK.mkRead(h:VecK vs):ActK rs (AA0 "read") [.str r,.tup vs]:=⟨bL (by decide +kernel),bL (by decide +kernel),bL (by decide +kernel),bL (by decide +kernel),λ_=>⟨r,vs,rfl,h⟩,bL (by decide +kernel),bL (by decide +kernel),bL (by decide +kernel),bL (by decide +kernel),bL<|by decide +kernel⟩
theorem ActK.mkSeen(h:St m):ActK rs (AA0 "seen") [m]:=⟨bL (by decide +kernel),bL (by decide +kernel),bL (by decide +kernel),bL (by decide +kernel),bL (by decide +kernel),λ_=>⟨m,rfl,h⟩,bL (by decide +kernel),bL (by decide +kernel),bL (by decide +kernel),bL<|by decide +kernel⟩
theorem ActK.mkRung(h:St m):ActK rs (AA0 "rung") [m]:=⟨bL (by decide +kernel),bL (by decide +kernel),bL (by decide +kernel),bL (by decide +kernel),bL (by decide +kernel),bL (by decide +kernel),λ_=>⟨m,rfl,h⟩,bL (by decide +kernel),bL (by decide +kernel),bL<|by decide +kernel⟩
theorem ActK.mkHush{w:D}{b:Bool}(h:fS w):ActK rs (AA0 "hush") [w,.bl b]:=⟨bL (by decide +kernel),bL (by decide +kernel),bL (by decide +kernel),bL (by decide +kernel),bL (by decide +kernel),bL (by decide +kernel),bL (by decide +kernel),λ_=>⟨w,b,rfl,h⟩,bL (by decide +kernel),bL<|by decide +kernel⟩
end
noncomputable def aH(ps:List (c5×Int))(rs:List (c5×List c5))(d:D):Prop:=∃(t:Int) (z:c5) (k m:Int) (x:c5) (ds:List D),d=.tup [.int t,.tup [.str z,.int k],.int m,.tup<|.str x::ds]/\1<=t/\D.tup [.str z,.int k]∈aI ps/\lu 4 ds/\ActK rs x ds
section
variable{ps:List (c5×Int)}{rs:List (c5×List c5)}
theorem aH.pl(h:aH ps rs d):E4 6 d:=by obtain⟨t,z,k,m,x,ds,rfl,_,_,p,_⟩:=h;exact .tup<|.cons (.int _)<|.cons (CQ ⟨_,_,rfl⟩)<|.cons (.int _)<|.cons (.tup<|.cons (.str _) p) .nil
theorem aH.bels(h:∀d∈ds,aH ps rs d):Bels k ds:=Bels.of λd a=>bG 6 d (h d a).pl
end
noncomputable def bp:D->c5
 |.tup [_,_,_,.tup<|.str x::_]=>x
 |_=>AA0 ""
noncomputable def ba:D->c5
 |.tup (_::.tup (.str z::_)::_)=>z
 |_=>AA0 ""
noncomputable def s9:D->D
 |.tup (t::h::_)=>.tup [t,h]
 |_=>.non
noncomputable def aR:D->c5
 |.tup [_,_,_,.tup<|_::.str r::_]=>r
 |_=>AA0 ""
noncomputable def bD:D->D
 |.tup [_,_,_,.tup<|_::_::u::_]=>u
 |_=>.non
noncomputable def fR:D->D
 |.tup [_,_,_,.tup<|_::m::_]=>m
 |_=>.non
noncomputable def sayO:D->D
 |.tup [_,_,_,.tup<|_::_::_::s::_]=>s
 |_=>.non
noncomputable def numO:D->D
 |.tup [_,_,n,_]=>n
 |_=>.non
noncomputable def sortO:D->c5
 |.tup [_,_,_,.tup<|_::_::.str s::_]=>s
 |_=>AA0 ""
noncomputable def onO:D->Bool
 |.tup [_,_,_,.tup<|_::_::_::.bl b::_]=>b
 |_=>bt
noncomputable def wC(rs:List (c5×List c5))(r:c5):List c5:=((rs.find? λp=>decide<|p.1=r).map (·.2)).getD []
noncomputable def kinds(log:List D)(k:c5):List D:=log.filter λd=>decide<|bp d=k
section
variable{ps:List (c5×Int)}{rs:List (c5×List c5)}
theorem kL(h:aH ps rs d)(e:bp d=AA0 "say"):∃(t:Int) (z:c5) (k num:Int) (r:c5) (u:D) (s:c5),d=.tup [.int t,.tup [.str z,.int k],.int num,.tup [.str<|AA0 "say",.str r,u,.str s]]/\1<=t/\D.tup [.str z,.int k]∈aI ps/\r∈rs.map (·.1)/\(u=.non\/St u):=by obtain⟨t,z,k,num,x,ds,rfl,h1,h2,_,f⟩:=h;obtain rfl:x=AA0 "say":=e;obtain⟨r,u,s,rfl,i,g⟩:=f.say rfl;exact⟨t,z,k,num,r,u,s,rfl,h1,h2,i,g⟩
theorem jL(h:aH ps rs d)(e:bp d=AA0 "change"):∃(t:Int) (z:c5) (k num:Int) (m:D) (s:c5),d=.tup [.int t,.tup [.str z,.int k],.int num,.tup [.str<|AA0 "change",m,.str s]]/\St m:=by obtain⟨t,z,k,num,x,ds,rfl,h1,h2,_,f⟩:=h;obtain rfl:x=AA0 "change":=e;obtain⟨m,s,rfl,a⟩:=f.change rfl;exact⟨t,z,k,num,m,s,rfl,a⟩
theorem uY(h:aH ps rs d)(e:bp d=AA0 "back"):∃(t:Int) (z:c5) (k num:Int) (m:D),d=.tup [.int t,.tup [.str z,.int k],.int num,.tup [.str<|AA0 "back",m]]/\St m:=by obtain⟨t,z,k,num,x,ds,rfl,h1,h2,_,f⟩:=h;obtain rfl:x=AA0 "back":=e;obtain⟨m,rfl,a⟩:=f.back rfl;exact⟨t,z,k,num,m,rfl,a⟩
theorem like_of(h:aH ps rs d)(e:bp d=AA0 "like"):∃(t:Int) (z:c5) (k num:Int) (m:D) (s:c5) (b:Bool),d=.tup [.int t,.tup [.str z,.int k],.int num,.tup [.str<|AA0 "like",m,.str s,.bl b]]/\St m:=by obtain⟨t,z,k,num,x,ds,rfl,h1,h2,_,f⟩:=h;obtain rfl:x=AA0 "like":=e;obtain⟨m,s,b,rfl,a⟩:=f.like rfl;exact⟨t,z,k,num,m,s,b,rfl,a⟩
end
section
variable{ps:List (c5×Int)}{rs:List (c5×List c5)}
theorem zo(h:aH ps rs d)(e:bp d=AA0 "read"):∃(t:Int) (z:c5) (k num:Int) (r:c5) (hs:List (D×Int)),d=.tup [.int t,.tup [.str z,.int k],.int num,.tup [.str<|AA0 "read",.str r,.tup<|ny hs]]/\(∀p∈hs,Hd p.1)/\hs.length<=12:=by obtain⟨t,z,k,num,x,ds,rfl,h1,h2,_,f⟩:=h;obtain rfl:x=AA0 "read":=e;obtain⟨r,vs,rfl,hs,rfl,c,j⟩:=f.read rfl;exact⟨t,z,k,num,r,hs,rfl,c,j⟩
theorem EA(h:aH ps rs d)(e:bp d=AA0 "seen"\/bp d=AA0 "rung"):∃(t:Int) (z:c5) (k num:Int) (x:c5) (m:D),d=.tup [.int t,.tup [.str z,.int k],.int num,.tup [.str x,m]]/\St m:=by obtain⟨t,z,k,num,x,ds,rfl,h1,h2,_,f⟩:=h;obtain⟨m,rfl,a⟩:∃m:D,ds=[m]/\St m:=e.elim (λe=>f.seen e) λe=>f.rung e;exact⟨t,z,k,num,x,m,rfl,a⟩
theorem FR(h:aH ps rs d)(e:bp d=AA0 "hush"):∃(t:Int) (z:c5) (k num:Int) (w:D) (b:Bool),d=.tup [.int t,.tup [.str z,.int k],.int num,.tup [.str<|AA0 "hush",w,.bl b]]/\fS w:=by obtain⟨t,z,k,num,x,ds,rfl,h1,h2,_,f⟩:=h;obtain rfl:x=AA0 "hush":=e;obtain⟨w,b,rfl,a⟩:=f.hush rfl;exact⟨t,z,k,num,w,b,rfl,a⟩
theorem EB(h:aH ps rs d)(e:bp d=AA0 "say"):∃s:c5,sayO d=.str s/\s.length<=100:=by obtain⟨t,z,k,m,x,ds,rfl,h1,h2,_,f⟩:=h;obtain rfl:x=AA0 "say":=e;obtain⟨r,u,s,rfl,i,g⟩:=f.say rfl;exact⟨s,rfl,f.lenS rfl _ _ _ rfl⟩
theorem yc(h:aH ps rs d)(e:bp d=AA0 "change"):∃s:c5,bD d=.str s/\s.length<=100:=by obtain⟨t,z,k,n,x,ds,rfl,h1,h2,_,f⟩:=h;obtain rfl:x=AA0 "change":=e;obtain⟨m,s,rfl,a⟩:=f.change rfl;exact⟨s,rfl,f.lenC rfl _ _ rfl⟩
end
local macro_rules | `(tactic| walk_at"ifs")=>`(tactic| simp only[DO,A7,↓reduceIte,Lw,Bool.not_false])
noncomputable def ic(rs:List (c5×List c5))(kvs:List (D×D))(d:D):Bool:=decide (ba d∈wC rs (aR d))&&(decide (bD d=.non)||match aX kvs (bD d) with
 |some e=>decide<|aR e=aR d
 |none=>bt)
noncomputable def uc(rs:List (c5×List c5))(kvs:List (D×D))(d:D):List (D×D):=if ic rs kvs d=a9 then iu kvs (s9 d) d else kvs
noncomputable def aJ(rs:List (c5×List c5))(l:List D):List (D×D):=l.foldl (uc rs) []
theorem dE:aJ rs (l++[d])=uc rs (aJ rs l) d:=by unfold aJ;rw[NM];rfl
noncomputable def ag(rs:List (c5×List c5))(log:List D):List (D×D):=aJ rs<|kinds log<|AA0 "say"
theorem cY:kinds (log++[d]) k=kinds log k++if bp d=k then[d]else[]:=by unfold kinds;rw[LC];congr 1;by_cases h:bp d=k;rw[KN,dT_ h,n5 rfl,n5 h];rfl;rw[KN,dF_ h,n6 (by decide),n6 h];rfl
theorem aV(h:d∈kinds log k):d∈log/\bp d=k:=⟨(A3.mp h).1,oT_ (A3.mp h).2⟩
theorem bo:(kinds log k).length<=log.length:=J2 _ _
structure TabK(l:List D)(kvs:List (D×D)):Prop where
 nd:(kvs.map (·.1)).Nodup
 en:∀p∈kvs,p.1=s9 p.2/\p.2∈l
 len:kvs.length<=l.length
theorem gJ(h:p∈iu kvs k d):p=(k,d)\/p∈kvs:=by unfold iu at h;split at h;obtain⟨q,a,rfl⟩:=v6.mp h;split;rename_i e;rw[e];exact .inl rfl;exact .inr a;rcases C9.mp h with h|h;exact .inr h;exact .inl<|by simpa using h
theorem pJ:(iu kvs k d).length<=kvs.length+1:=by unfold iu;split;rw[u4];lia;simp
theorem gP(l:List D):TabK l (aJ rs l):=by
 refine bz (P:=λl=>TabK l<|aJ rs l) ⟨.nil,(λ_ z=>nomatch z),u6 _⟩ (λl d i=>?_) l;rw[dE];unfold uc;have hs:∀p∈aJ rs l,p.1=s9 p.2/\p.2∈l++[d]:=λp h=>⟨(i.en p h).1,Ks _ (i.en p h).2⟩
 have g:=i.len;split;refine⟨pI i.nd,λp h=>?_,?_⟩;rcases gJ h with rfl|h;exact⟨rfl,by simp⟩;exact hs p h;have:=pJ (kvs:=aJ rs l) (k:=s9 d) (d:=d);rw[z5,G8];lia;exact⟨i.nd,hs,by rw[z5,G8];lia⟩
theorem aw:TabK (kinds log<|AA0 "say") (ag rs log):=gP _
theorem AE(t:TabK l kvs)(h:aX kvs k=a7 e):k=s9 e/\e∈l:=t.en _<|cy h
noncomputable def E7(kvs:List (D×D))(d:D):Bool:=match aX kvs (fR d) with
 |some e=>decide<|ba d=ba e
 |none=>bt
noncomputable def Nv(d:D):Prop:=∃(a:D) (z:c5) (r m:List D),d=.tup (a::.tup (.str z::r)::m)
section
variable{ps:List (c5×Int)}{rs:List (c5×List c5)}
theorem aH.nm(h:aH ps rs d):Nv d:=by obtain⟨t,z,k,m,x,ds,rfl,_⟩:=h;exact⟨_,_,_,_,rfl⟩
theorem aH.st(h:aH ps rs d):St (s9 d):=by obtain⟨t,z,k,m,x,ds,rfl,_⟩:=h;exact⟨_,_,_,rfl⟩
theorem St.cm(f:St a)(d:St b):iQ M t8 a b=a9:=by
 obtain⟨t,z,k,rfl⟩:=f;obtain⟨t',G,H,rfl⟩:=d;show (if t4 M 29 (.int t) (.int t')=a9 then(if t4 M 29 (.tup [.str z,.int k]) (.tup [.str G,.int H])=a9 then a9 else(if t4 M 28 (.str z) (.str G)=a9 then(if t4 M 28 (.int k) (.int H)=a9 then a9 else a9)else a9))else a9)=a9
 repeat' split
 all_goals rfl
theorem yZ(h:∀x∈xs,St x)(l:xs.length<64):SrtOk M xs:=by refine⟨l,λx a=>?_,λx a y O=>(h x a).cm<|h y O,.inr<|.inr<|.inr<|.inl λx a=>?_⟩;obtain⟨t,z,k,rfl⟩:=h x a;rfl;obtain⟨t,z,k,rfl⟩:=h x a;exact⟨_,_,rfl⟩
end
noncomputable def bY(kvs:List (D×D))(log:List D)(k:D):Prop:=∃d∈kinds log (AA0 "back"),E7 kvs d=a9/\fR d=k
theorem lB(h:k∉kvs.map (·.1)):iu kvs k d=kvs++[(k,d)]:=by unfold iu;rw[n6];intro z;obtain⟨e,i⟩:=PD.mp z;exact h (G7 (f:=(·.1))<|cy i)
theorem AL(ps:List (D×D))(h:(ps.map (·.1)).Nodup):dictOf ps=ps:=by revert h;refine bz (P:=λps=>(ps.map (·.1)).Nodup->dictOf ps=ps) (λ_=>rfl) (λps p i h=>?_) ps;rw[G1]at h;have h':=Oo.mp h;rw[bu,i h'.1,lB];intro z;exact h'.2.2 _ z _ (by simp) rfl
theorem ku{M:t5}{x:c5}{l:List c5}:Kv M (.str x) (l.map .str)=decide (x∈l):=by unfold Kv;rw[List.any_map];by_cases h:x∈l;rw[dT_ h];exact Kq.mpr ⟨x,h,by show t4 M t8 (.str x) (.str x)=a9;rw[aN];exact p5 x⟩;rw[dF_ h];refine KD.mpr λz=>?_;obtain⟨y,O,e⟩:=Kq.mp z;have a:t4 M t8 (.str y) (.str x)=a9:=e;rw[aN]at a;exact h<|eq_of_beq a ▸ O
theorem jU{M:t5}{l:List c5}:(l.map D.str).all (u3 M t8)=a9:=E6.mpr λx h=>by obtain⟨y,_,rfl⟩:=v6.mp h;exact ar
noncomputable def ah(rs:List (c5×List c5))(log:List D):List (D×D):=(ag rs log).filter λp=>@decide (¬bY (ag rs log) log p.1)<|KI _
theorem bx:p∈ah rs log↔p∈ag rs log/\¬bY (ag rs log) log p.1:=by unfold ah;rw[A3];exact and_congr Iff.rfl<|@o4 _<|KI _
theorem wg:((ah rs log).map (·.1)).Nodup:=(Pi.map _).nodup aw.nd
theorem Hr(h:aX (ag rs log) k=a7 e)(d:¬bY (ag rs log) log k):aX (ah rs log) k=a7 e:=fy (p:=(k,e)) wg<|bx.mpr ⟨cy h,d⟩
noncomputable def aO(kvs:List (D×D))(log:List D):List (D×D):=dictOf<|((kinds log<|AA0 "change").filter<|E7 kvs).map λd=>(fR d,bD d)
noncomputable def zS(ch:List (D×D))(d:D):D:=.tup [s9 d,.str<|aR d,bD d,.str<|ba d,(aX ch<|s9 d).getD<|sayO d,.bl (aX ch<|s9 d).isSome]
noncomputable def ap(rs:List (c5×List c5))(log:List D):List D:=(ah rs log).map λp=>zS (aO (ah rs log) log) p.2
structure BackL(rs:List (c5×List c5))(log:List D)(ys:List D):Prop where
 st:∀x∈ys,St x
 mem:∀x,x∈ys↔bY (ag rs log) log x
 nd:ys.Nodup
 up:ys.Pairwise λa b=>¬C4 t8 b<C4 t8 a
noncomputable def Dw:D->D
 |.tup [_,_,_,a]=>a
 |_=>.non
noncomputable def mq(l:List D):List (D×D):=l.foldl (λs d=>iu s (s9 d)<|Dw d) []
noncomputable def BJ(log:List D):List (D×D):=mq<|kinds log<|AA0 "say"
theorem gH:mq (l++[d])=iu (mq l) (s9 d) (Dw d):=by unfold mq;rw[NM];rfl
theorem GK:BJ (log++[d])=if bp d=AA0 "say" then iu (BJ log) (s9 d) (Dw d)else BJ log:=by unfold BJ;rw[cY];split;rw[gH];rw[I9]
theorem said_en(l:List D):∀p∈mq l,∃d∈l,p=(s9 d,Dw d):=by refine bz (P:=λl=>∀p∈mq l,∃d∈l,p=(s9 d,Dw d)) (λ_ z=>nomatch z) (λl d a p h=>?_) l;rw[gH]at h;rcases gJ h with rfl|h;exact⟨d,by simp,rfl⟩;obtain⟨e,i,r⟩:=a p h;exact⟨e,Ks _ i,r⟩
theorem said_len(l:List D):(mq l).length<=l.length:=by refine bz (P:=λl=>(mq l).length<=l.length) (u6 _) (λl d i=>?_) l;rw[gH,z5,G8];have:=pJ (kvs:=mq l) (k:=s9 d) (d:=Dw d);lia
noncomputable def L0(l:List D):Prop:=l.Pairwise λa b=>C4 t8 (s9 a)<C4 t8 (s9 b)
theorem L0.one(h:L0 l):∀a∈l,∀b∈l,s9 a=s9 b->a=b:=by
 induction l with
 |nil=>intro a d;cases d
 |cons x l j =>
  obtain⟨h1,h2⟩:=List.pairwise_cons.mp h;intro a d b i e;rcases z9.mp d with g|c<;>rcases z9.mp i with L|f
  rw[g,L];have:=h1 b f;rw[<-g,e]at this;exact n9 this<|KB _;have:=h1 a c;rw[<-L,e]at this;exact n9 this<|KB _;exact j h2 a c b f e
theorem said_has(h:L0 l):∀d∈l,aX (mq l) (s9 d)=a7 (Dw d):=by revert h;refine bz (P:=λl=>L0 l->∀d∈l,aX (mq l) (s9 d)=a7 (Dw d)) (λ_ _ z=>nomatch z) (λl x i h d a=>?_) l;obtain⟨h1,_,b⟩:=Pj.mp h;rw[gH];rcases C9.mp a with a|a;have:=b d a x (by simp);rw[gn<|λe=>by rw[e]at this;exact KB _ this];exact i h1 d a;rw[show d=x by simpa using a,gM]
inductive Ko(rs:List (c5×List c5))(l:List D):D->Prop
 |top {d:D} (h:d∈l) (m:ba d∈wC rs (aR d)) (u:bD d=.non):Ko rs l d
 |sub {d e:D} (h:d∈l) (m:ba d∈wC rs (aR d)) (s:Ko rs l e) (u:bD d=s9 e) (o:C4 t8 (s9 e)<C4 t8 (s9 d)) (r:aR e=aR d):Ko rs l d
theorem Ko.mem(h:Ko rs l d):d∈l:=by cases h<;>assumption
theorem Ko.nm(h:Ko rs l d):ba d∈wC rs (aR d):=by cases h<;>assumption
theorem Ko.more(h:Ko rs l d):Ko rs (l++l') d:=by
 induction h with
 |top h m u=>exact .top (Ks _ h) m u
 |sub h m _ u o r i=>exact .sub (Ks _ h) m i u o r
theorem Ko.less(g:∀y∈l,C4 t8 (s9 y)<C4 t8 (s9 x))(h:Ko rs (l++[x]) d):d∈l->Ko rs l d:=by
 induction h with
 |top h m u=>exact λa=>.top a m u
 |sub h m s u o r b=>intro a;rename_i d e;rcases C9.mp s.mem with i|i;exact .sub a m (b i) u o r;rw[show e=x by simpa using i]at o;exact n9 (List.lt_trans o<|g d a)<|KB _
theorem JZ(j:∀d∈l,bD d=.non\/St (bD d))(S:∀d∈l,St<|s9 d)(h:L0 l):∀d∈l,aX (aJ rs l) (s9 d)=a7 d↔Ko rs l d:=by
 revert h j S;refine bz (P:=λl=>(∀d∈l,bD d=.non\/St (bD d))->(∀d∈l,St<|s9 d)->L0 l->∀d∈l,aX (aJ rs l) (s9 d)=a7 d↔Ko rs l d) (λ_ _ _ _ z=>nomatch z) (λl x p j S h d a=>?_) l;obtain⟨h1,_,n⟩:=Pj.mp h;have c:∀y∈l,C4 t8 (s9 y)<C4 t8 (s9 x):=λy O=>n y O x (by simp);have i:=p (λd a=>j d<|Ks _ a) (λd a=>S d<|Ks _ a) h1;have k:=gP (rs:=rs) l;have q:aX (aJ rs l) (s9 x)=a8:=by
  cases e:aX (aJ rs l) (s9 x) with
  |none=>rfl
  |some f=>obtain⟨t,g⟩:=AE k e;have:=c f g;rw[<-t]at this;exact n9 this<|KB _
 rw[dE];unfold uc;rcases C9.mp a with a|a;have F:s9 d≠s9 x:=λe=>by have:=c d a;rw[e]at this;exact KB _ this
 have:aX (if ic rs (aJ rs l) x=a9 then iu (aJ rs l) (s9 x) x else aJ rs l) (s9 d)=aX (aJ rs l) (s9 d):=by split;exact gn F;rfl
 rw[this,i d a];exact⟨Ko.more,λz=>z.less c a⟩;obtain rfl:d=x:=by simpa using a
 have T:aX (if ic rs (aJ rs l) d=a9 then iu (aJ rs l) (s9 d) d else aJ rs l) (s9 d)=a7 d↔ic rs (aJ rs l) d=a9:=by split;rename_i e;rw[gM];exact⟨λ_=>e,λ_=>rfl⟩;rename_i e;rw[q];exact⟨λz=>(by cases z),λz=>n9 z e⟩
 rw[T];unfold ic;rw[C5,Ma,o0,o0];constructor;rintro⟨m,u|u⟩;exact .top (by simp) m u;cases e:aX (aJ rs l) (bD d) with
 |none=>rw[e]at u;cases u
 |some f=>rw[e]at u;obtain⟨t,g⟩:=AE k e;rw[t]at e;exact .sub (by simp) m ((i f g).mp e).more t (c f g)<|oT_ u
 intro s;cases s with
 |top _ m u=>exact⟨m,.inl u⟩
 |@sub _ e _ m s u o r =>
  have b:e∈l:=by rcases C9.mp s.mem with b|b;exact b;rw[show e=d by simpa using b]at o;exact n9 o<|KB _
  refine⟨m,.inr ?_⟩;rw[u,(i e b).mpr<|s.less c b];exact dT_ r
theorem Ga{α:Type}{p q:α->Bool}{x:α}(hpq:∀y,p y=a9->q y=a9)(hq:q x=a9)(hp:p x=bt):∀{l:List α},x∈l->(l.filter p).length<(l.filter q).length
 |y::l,h=>by
  have mono:∀l:List α,(l.filter p).length<=(l.filter q).length:=λl=>by
   induction l with
   |nil=>exact u6 _
   |cons z l ih =>
    rw[KN,KN];cases e:p z with
    |true=>rw[hpq z e,n5 rfl,n5 rfl,C2,C2];lia
    |false=>rw[n6<|by decide];split;rw[C2];lia;exact ih
  rw[KN,KN];rcases z9.mp h with rfl|h;rw[hp,hq,n6 (by decide),n5 rfl,C2];have:=mono l;lia;have ih:=Ga hpq hq hp h;cases e:p y with
  |true=>rw[hpq y e,n5 rfl,n5 rfl,C2,C2];lia
  |false=>rw[n6<|by decide];split;rw[C2];lia;exact ih
noncomputable def H9(M:t5)(q:Nat):Prop:=∃n:Int,M[q]?=a7 (.lst [.int n])
noncomputable def Hl(M B:t5)(q:Nat):Prop:=∃(n:Int) (L:t5),B=M.set q (.lst [.int n])++L
section
variable{M B:t5}{q m i:Nat}{n:Int}{x:MO}
theorem BG(h:M[q]?=a7 x):M.set q x=M:=by refine Ox λj=>?_;by_cases e:q=j;subst e;rw[KO<|aU h,h];rw[KH e]
theorem H9.lt(h:H9 M q):q<M.length:=by obtain⟨n,h⟩:=h;exact aU h
theorem H9.start(h:H9 M q):Hl M M q:=by obtain⟨n,h⟩:=h;exact⟨n,[],by rw[I9,BG h]⟩
theorem Hl.len(h:Hl M B q):M.length<=B.length:=by obtain⟨n,L,rfl⟩:=h;rw[z5,J5];lia
theorem Hl.hd(a:q<M.length)(h:Hl M B q):H9 B q:=by obtain⟨n,L,rfl⟩:=h;exact⟨n,by rw[G9 (by rw[J5];exact a),KO a]⟩
theorem Hl.set(a:q<M.length)(h:Hl M B q):Hl M (B.set q<|.lst [.int n]) q:=by obtain⟨f,L,rfl⟩:=h;exact⟨n,L,by rw[List.set_append_left _ _ (by rw[J5];exact a),List.set_set]⟩
theorem Hl.more(h:Hl M B q):Hl M (B++L) q:=by obtain⟨f,b,rfl⟩:=h;exact⟨f,b++L,by rw[F8]⟩
theorem Hl.setO(h:Hl M B q)(d:M.length<=m):Hl M (B.set m x) q:=by obtain⟨f,L,rfl⟩:=h;exact⟨f,L.set (m-M.length) x,by rw[Pm _ _ (by rw[J5];exact d),J5]⟩
theorem Hl.old(h:Hl M B q)(hi:i≠q)(e:M[i]?=a7 x):B[i]?=a7 x:=by obtain⟨f,L,rfl⟩:=h;rw[G9 (by rw[J5];exact aU e),KH<|z8 hi];exact e
theorem Hl.oldL(h:Hl M B q)(hi:i≠q)(e:ax M i xs):ax B i xs:=by rcases e with e|e|e;exact .inl<|h.old hi e;exact .inr<|.inl<|h.old hi e;exact .inr<|.inr<|h.old hi e
theorem Hl.fin(h:Hl M B q)(b:A5 M.length d)(k:∀n:Int,R d<|M.set q<|.lst [.int n]):bg M R d B:=by obtain⟨f,L,rfl⟩:=h;exact bg.chg (K8.set .refl<|.cons (.int _) .nil) (k f) b<|F9 _ _
theorem Hl.finL(h:Hl M B q)(d:M.length<=m)(e:B[m]?=a7 (.lst xs))(b:Bels M.length xs)(k:∀n:Int,R (.ref M.length)<|M.set q (.lst [.int n])++[.lst xs]):bg M R (.ref m) B:=by obtain⟨f,L,rfl⟩:=h;exact bg.chgL (K8.set .refl<|.cons (.int _) .nil) (k f) d e (F9 _ _) b
end
theorem CJ(u:Option Int)(n:Nat):PH a8 u 1 n=PH (a7 ((0:Nat):Int)) u 1 n:=by unfold PH;simp only[show (1:Int) > 0 by decide,o7];congr 1
theorem wf(x:c5)(b:Nat):(Kk x a8<|a7 (b:Int)).cps.toList=x.cps.toList.take b:=by have e:=jt x (a:=0) (b:=b)<|w5 _;rw[ju]at e ⊢;rw[CJ];rw[e];simp
theorem BF(x:c5)(b:Nat):(Kk x a8<|a7 (b:Int)).length<=b:=by rw[cf,wf,G2];lia
theorem BD{M:t5}{l:List c5}(h:l.length<64):SrtOk M (l.map .str):=⟨by rw[u4];exact h,λx c=>by obtain⟨y,_,rfl⟩:=v6.mp c;rfl,λx c y O=>by obtain⟨a,_,rfl⟩:=v6.mp c;obtain⟨b,_,rfl⟩:=v6.mp O;rfl,.inl λx c=>by obtain⟨y,_,rfl⟩:=v6.mp c;exact⟨y,rfl⟩⟩
theorem rY{ys:List D}{xs:List c5}(h:ys.Perm (xs.map .str)):∃zs:List c5,ys=zs.map .str/\zs.Perm xs:=BS D.str MQ (λ_=>rfl) h
theorem yw:fT (mz kvs k d) k=a7 d:=by
 unfold mz;split;rename_i hs;obtain⟨p,h,e⟩:=Kq.mp hs;unfold fT;rw[Od];have l:((λp:c5×D=>decide<|p.1=k) ∘ λp:c5×D=>if p.1=k then(p.1,d)else p)=λp=>decide (p.1=k):=by funext p;show decide ((if p.1=k then(p.1,d)else p).1=k)=decide (p.1=k);split<;>rfl
 rw[l];cases f:kvs.find? λp=>decide (p.1=k) with
 |none=>exact n9 e<|by simpa using List.find?_eq_none.mp f p h
 |some q =>
  have a:q.1=k:=by have:=Nd f;exact oT_ this
  show a7 (if q.1=k then(q.1,d)else q).2=_;rw[n5 a]
 rename_i hs;unfold fT;have:kvs.find? (λp=>decide<|p.1=k)=a8:=List.find?_eq_none.mpr λp h z=>hs<|Kq.mpr ⟨p,h,z⟩;rw[Op,this];simp
theorem xf(h:j≠k):fT (mz kvs k d) j=fT kvs j:=by
 unfold mz;split;unfold fT;rw[Od];have e:((λp:c5×D=>decide<|p.1=j) ∘ λp:c5×D=>if p.1=k then(p.1,d)else p)=λp=>decide (p.1=j):=by funext p;show decide ((if p.1=k then(p.1,d)else p).1=j)=decide (p.1=j);split<;>rfl
 rw[e];cases f:kvs.find? λp=>decide (p.1=j) with
 |none=>rfl
 |some q =>
  have a:q.1=j:=by have:=Nd f;exact oT_ this
  show a7 (if q.1=k then(q.1,d)else q).2=a7 q.2;rw[n6<|by rw[a];exact h]
 unfold fT;rw[Op];cases f:kvs.find? λp=>decide (p.1=j) with
 |none=>simp[z8 h]
 |some q=>rfl
noncomputable def cU(log:List D)(k name:c5):List D:=(kinds log k).filter λd=>decide<|ba d=name
theorem jE(h:d∈cU log k name):d∈log/\bp d=k/\ba d=name:=⟨(aV (A3.mp h).1).1,(aV (A3.mp h).1).2,oT_ (A3.mp h).2⟩
theorem gj:(cU log k name).length<=log.length:=B9 (J2 _ _) bo
theorem xD:cU (log++[d]) k name=cU log k name++if bp d=k/\ba d=name then[d]else[]:=by unfold cU;rw[cY,LC];congr 1;by_cases h1:bp d=k;rw[n5 h1,KN,L9];by_cases h2:ba d=name;rw[dT_ h2,n5 rfl,n5 ⟨h1,h2⟩];rw[dF_ h2,n6 (by decide),n6 λz=>h2 z.2];rw[n6 h1,n6 λz=>h1 z.1];rfl
noncomputable def cT(log:List D)(k name:c5):List D:=(cU log k name).map fR
noncomputable def PK:D->D×Int
 |.tup [h,.int c]=>(h,c)
 |_=>(.non,0)
noncomputable def GJ:D->List (D×Int)
 |.tup vs=>vs.map PK
 |_=>[]
theorem Bx:GJ (.tup<|ny hs)=hs:=by show (ny hs).map PK=hs;unfold ny;rw[E2];exact Lv _
noncomputable def py(log:List D)(name r:c5):List D:=((cU log (AA0 "read") name).filter λd=>decide<|aR d=r).map bD
structure VbAt(B:t5)(n:Nat)(tab:List (c5×D))(f:c5->List D):Prop where
 at_:B[n]?=a7 (.dct tab)
 got:∀k d,fT tab k=a7 d->∃m,d=.ref m/\n+1<m/\B[m]?=a7 (.lst<|f k)
 no:∀k,fT tab k=a8->f k=[]
 one:∀k k' m,fT tab k=a7 (.ref m)->fT tab k'=a7 (.ref m)->k=k'
theorem VbAt.pre(h:VbAt B n tab f)(p:B <+: B'):VbAt B' n tab f:=⟨be p h.at_,λk d a=>let ⟨m,e,l,g⟩:=h.got k d a;⟨m,e,l,be p g⟩,h.no,h.one⟩
theorem VbAt.kids(h:VbAt B n tab f)(a:B[q0]?=a7 (.lst [])):∃q,(fT tab k).getD (.ref q0)=.ref q/\B[q]?=a7 (.lst<|f k):=by
 cases e:fT tab k with
 |none=>exact⟨q0,rfl,by rw[h.no k e];exact a⟩
 |some d=>obtain⟨m,rfl,_,g⟩:=h.got k d e;exact⟨m,rfl,g⟩
noncomputable def kY(log:List D)(name:c5)(e:D):Bool:=decide (ba e=name)||(decide (s9 e∈cT log (AA0 "seen") name)||(py log name<|aR e).any λv=>fO (GJ v) (Jt e)<|numD e)
noncomputable def Av(log:List D)(name:c5):List (D×D):=dictOf<|(cU log (AA0 "hush") name).map λd=>(fR d,bD d)
noncomputable def HushP(log:List D)(name:c5)(w:D):Prop:=aX (Av log name) w=a7 (.bl a9)
noncomputable def eX(log:List D)(name:c5)(w:D):Bool:=decide<|aX (Av log name) w=a7 (.bl a9)
noncomputable def cQ(H:D->Bool)(kvs:List (D×D)):List D:=kvs.foldl (λacc p=>if (H p.1||decide (bD p.2∈acc))=a9 then acc++[p.1]else acc) []
theorem cZ:cQ H (kvs++[p])=if (H p.1||decide (bD p.2∈cQ H kvs))=a9 then cQ H kvs++[p.1]else cQ H kvs:=by unfold cQ;rw[NM];rfl
theorem mU:∀x∈cQ H kvs,x∈kvs.map (·.1):=by refine bz (P:=λkvs=>∀x∈cQ H kvs,x∈kvs.map (·.1)) (λx h=>nomatch h) (λkvs p i x h=>?_) kvs;rw[cZ]at h;rw[G1,C9];split at h;rcases C9.mp h with h|h;exact .inl<|i x h;exact .inr h;exact .inl<|i x h
theorem Aw:(cQ H kvs).length<=kvs.length:=by refine bz (P:=λkvs=>(cQ H kvs).length<=kvs.length) (u6 _) (λkvs p i=>?_) kvs;rw[cZ,z5,G8];split;rw[z5,G8];lia;lia
noncomputable def begB(y n:c5):Bool:=Nb y n && !(!gW (Kk y (a7 (n.length:Int))<|a7<|(n.length:Int)+1) "a" && !gW "z" (Kk y (a7 (n.length:Int))<|a7<|(n.length:Int)+1))
noncomputable def dP(s:D)(name:c5):Bool:=match s with
 |.str x=>((G6 x<|AA0 "@").drop 1).any λy=>begB y name
 |_=>bt
noncomputable def Bn(rs:List (c5×List c5))(log:List D)(e:D):D:=(aX (aO (ah rs log) log)<|s9 e).getD<|sayO e
noncomputable def bF(rs:List (c5×List c5))(name:c5):List c5:=(rs.filter λp=>decide<|name∈p.2).map (·.1)
noncomputable def nB(kvs:List (D×D))(name:c5):List D:=(kvs.map (·.1)).filter λs=>decide<|ba ((aX kvs s).getD .non)=name
noncomputable def Bv(rs:List (c5×List c5))(log:List D)(name:c5)(e:D):Option c5:=if dP (Bn rs log e) name=a9 then a7 (AA0 "named")
 else if bD e∈nB (ag rs log) name then a7 (AA0 "answered")
 else if (eX log name (.tup [.str<|AA0 "room",.str<|aR e])||decide (s9 e∈cQ (λs=>eX log name<|.tup [.str<|AA0 "under",s]) (ag rs log)))=a9 then a8 else a7 (AA0 "heard")
noncomputable def zj(rs:List (c5×List c5))(log:List D)(name:c5)(e:D):Bool:=decide (aR e∈bF rs name)&&(!decide (s9 e∈cT log (AA0 "rung") name) && !eX log name (.tup [.str<|AA0 "person",.str<|ba e]))
noncomputable def lr(rs:List (c5×List c5))(log:List D)(name:c5)(e:D):Option D:=if zj rs log name e=a9 then(Bv rs log name e).map λw=>.tup [s9 e,.str w]else a8
noncomputable def cq(rs:List (c5×List c5))(log:List D)(name:c5):List D:=((ah rs log).map (·.2)).filter λe=>!kY log name e
noncomputable def aZ(rs:List (c5×List c5))(log:List D)(name:c5):List D:=(cq rs log name).filterMap<|lr rs log name
theorem fS.eq(f:fS a)(e:fS b):t4 M t8 a b=decide (a=b):=by
 have l:∀{x y:c5}{c d:D},t4 M t8 (.tup [.str x,c]) (.tup [.str y,d])=((x==y)&&(t4 M 29 c d&&a9)):=λ{x y c d}=>by show (t4 M 29 (.str x) (.str y)&&(t4 M 29 c d&&a9))=_;rw[aN]
 have k:∀{x y:c5}{c d:D},t4 M 29 c d=decide (c=d)->t4 M t8 (.tup [.str x,c]) (.tup [.str y,d])=decide (D.tup [.str x,c]=.tup [.str y,d]):=λ{x y c d} h=>by rw[l,h,MD];simp
 have s:∀{x y:c5},t4 M 29 (.str x) (.str y)=decide (D.str x=.str y):=λ{x y}=>by rw[aN,MD];simp
 rcases f with⟨x,rfl⟩|⟨x,rfl⟩|⟨t,z,n,rfl⟩<;>rcases e with⟨y,rfl⟩|⟨y,rfl⟩|⟨t',G,g,rfl⟩
 exact k s;exact k s;exact k<|Eq.trans (b:=bt) rfl (dF_<|λz=>nomatch z).symm;exact k s;exact k s;exact k<|Eq.trans (b:=bt) rfl (dF_<|λz=>nomatch z).symm;exact k<|Eq.trans (b:=bt) rfl (dF_<|λz=>nomatch z).symm;exact k<|Eq.trans (b:=bt) rfl (dF_<|λz=>nomatch z).symm;exact k<|St.eq (n:=27) ⟨_,_,_,rfl⟩ ⟨_,_,_,rfl⟩
theorem pp{M:t5}{l:List D}(h:∀x∈l,fS x):l.all (u3 M t8)=a9:=E6.mpr λx a=>(oT 3 t8 x (by decide) (h x a).pl).1
theorem qg(a:fS x)(h:∀x∈l,fS x):Kv M x l=decide (x∈l):=by unfold Kv;by_cases d:x∈l;rw[dT_ d];exact Kq.mpr ⟨x,d,by rw[a.eq a];exact dT_ rfl⟩;rw[dF_ d];refine KD.mpr λz=>?_;obtain⟨y,O,e⟩:=Kq.mp z;rw[(h y O).eq a]at e;exact d<|oT_ e ▸ O
theorem Jf(a:x=.non\/St x)(h:∀x∈l,St x):Kv M x l=decide (x∈l):=by
 rcases a with rfl|a;unfold Kv;have:D.non∉l:=λz=>by obtain⟨t,z,k,e⟩:=h _ z;cases e
 rw[dF_ this];refine KD.mpr λz=>?_;obtain⟨y,O,e⟩:=Kq.mp z;obtain⟨t,z,k,rfl⟩:=h y O;cases e;unfold Kv;by_cases d:x∈l;rw[dT_ d];exact Kq.mpr ⟨x,d,by rw[show t8=28+2 from rfl,a.eq a];exact dT_ rfl⟩;rw[dF_ d];refine KD.mpr λz=>?_;obtain⟨y,O,e⟩:=Kq.mp z;rw[show t8=28+2 from rfl,(h y O).eq a]at e;exact d<|oT_ e ▸ O
noncomputable def fE(x:c5):Bool:=!gW x "a" && !gW "z" x
noncomputable def dU:v8:=λds M R=>∃x:c5,ds=[.str x]/\R (.bl<|fE x) M
theorem qa:cM dU iz:=by rintro ds M R ⟨x,rfl,_⟩;rfl
noncomputable def lV:p9:=bq<|tp MR MR (dC<|.str "a") (ab 0)<|dC<|.str "z"
theorem qH:x6 dU 1 lV:=by
 rintro ds M R ⟨x,rfl,h⟩;unfold lV;walk_at"dl";unfold fE at h;cases e:gW x "a" with
 |true=>rw[e]at h;exact bE<|bg.now h
 |false=>rw[e]at h;exact bH<|bg.now h
theorem si(T:Tops P w K mg base):u7 P w K mg base 1 "is_letter" iz dU:=u7.byD (N:=["sign"]) T.b T.f_is_letter (by walk_at"sc") qa (by walk_at"dv") qH
noncomputable def zZ(c:Nat):Bool:=decide (97<=c)&&decide (c<=122)
theorem qf(c:Nat):fE ⟨#[c]⟩=zZ c:=by
 have l:∀a b:Nat,decide ([a] < [b])=decide (a<b):=λa b=>by rw[StrLaws.lt_cons_cons,StrLaws.lt_nil_nil];simp
 have t:gW ⟨#[c]⟩ "a" = decide (c<97):=l c 97;have e:gW "z" ⟨#[c]⟩=decide (122<c):=l 122 c;unfold fE zZ;rw[t,e,MD];simp only[C5,Oq,decide_eq_false_iff_not,o0];lia
theorem nH(x:c5)(h:x.cps.toList=[]):fE x=bt:=by have:x=⟨#[]⟩:=jV h;subst this;unfold fE;have:gW (⟨#[]⟩:c5) "a" = a9:=StrLaws.lt_nil_cons 97 [];rw[this];rfl
noncomputable def gy(t n:c5):Bool:=Nb t n && !fE (Kk t (a7 (n.length:Int))<|a7<|(n.length:Int)+1)
noncomputable def bv:v8:=λds M R=>∃t n:c5,ds=[.str t,.str n]/\t.length<=100/\n.length<=100/\R (.bl<|gy t n) M
theorem gY:cM bv cc:=by rintro ds M R ⟨t,n,rfl,_⟩;rfl
noncomputable def cR:p9:=bq<|nL (No mw (ab 0)<|aa (ab 1) af)<|Dm<|r9 dU<|aa (ab 2) af
noncomputable def dJ:p9:=aB (aT (KQ (ab 0) (gx<|r9 iT<|aa (ab 1) af)<|gx<|p7 aW (r9 iT<|aa (ab 1) af)<|dC<|.int 1) 2)<|cR
theorem ip:x6 bv 3 dJ:=by
 rintro ds M R ⟨t,n,rfl,D,f,h⟩;simp only[dJ,cR];walk_at"dl";refine⟨ak (by lia),ak (by lia),ak (by lia),?_⟩;unfold gy at h;cases e:Nb t n with
 |false=>rw[e]at h;exact bE<|bg.now h
 |true=>rw[e]at h;exact bH ⟨_,rfl,bg.now h⟩
theorem iG(T:Tops P w K mg base):u7 P w K mg base 2 "begins_with_name" cc bv:=u7.byD (N:=["text","name","behind"]) T.b T.f_begins_with_name (by walk_at"sc") gY (by have:=si T;walk_at"dv") ip
noncomputable def fM:v8:=λds M R=>∃s n:c5,ds=[.str s,.str n]/\s.length<=100/\n.length<=100/\R (.bl<|dP (.str s) n) M
theorem sJ:cM fM kh:=by rintro ds M R ⟨t,n,rfl,_⟩;rfl
theorem ze(x y:c5):(G6 x y).length<=x.length+2:=by unfold G6;split;simp;split;simp;rw[length_partsBetween];have:=StrLaws.occ_length_le x y 0 x.length<|x.length+1;lia
theorem cut1:cutD xs (a7 1) a8=xs.drop 1:=by unfold cutD;rw[HT.sIx_none,show (1:Int)=((1:Nat):Int)from rfl,HT.sIx_nat];by_cases h:1<=xs.length;rw[NG h,NU<|by rw[K1];exact u6 _];have:xs=[]:=O2 (by lia);subst this;rfl
noncomputable def oq:p9:=bq<|r9 GO<|aa (D2 1 [1] (bI<|KQ (No rV (ab 0)<|aa (dC<|.str "@") af) (gx<|dC<|.int 1) fI) (ao 0) sY<|r9 bv<|aa (ab 0)<|aa (ab 1) af) af
theorem tS:x6 fM 2 oq:=by
 rintro ds M R ⟨s,n,rfl,hs,l,h⟩;simp only[oq];walk_at"dl";have m:=ze s<|AA0 "@";refine⟨⟨by decide,ak (by lia),ak<|by lia⟩,_,au,_,au,λ_=>?_⟩;rw[cut1];refine bJ (λd=>match d with|.str y=>.bl (gy y n)|_=>.non) (λS=>∃a,S=[a,a7<|.str n]) au _ _ _ (λx b S ⟨a,c⟩=>?_) ⟨_,rfl⟩ ?_ ?_;rw[<-NB]at b;obtain⟨y,O,rfl⟩:=v6.mp b;subst c;refine⟨[a7<|.str y,a7<|.str n],⟨_,rfl⟩,λY e=>?_⟩;walk_at"dl";refine⟨y,n,rfl,?_,l,e⟩;obtain⟨k,i,j,_,_,rfl⟩:=(jX s 64 (by decide) y).mp O;rw[cf,StrLaws.strSub_toList,G2,K1,<-cf];lia;rw[B8,K1,u4];exact ak (by lia);refine⟨((G6 s<|AA0 "@").drop 1).map (gy · n),?_,?_⟩;have:([]++((List.map D.str<|G6 s<|AA0 "@").drop 1).map λd=>match d with|.str y=>D.bl (gy y n)|_=>.non)=bls (((G6 s<|AA0 "@").drop 1).map (gy · n)):=by rw[D5,<-NB,E2];unfold bls;rw[E2];rfl
 rw[this];exact au;have:(((G6 s<|AA0 "@").drop 1).map (gy · n)).any id=dP (.str s) n:=by rw[List.any_map];rfl
 rw[this];exact bg.bl h<|by rw[F8,F8];exact F9 _ _
theorem uw(T:Tops P w K mg base):u7 P w K mg base 3 "is_named" kh fM:=u7.byD (N:=["saying","name"]) T.b T.f_is_named (by walk_at"sc") sJ (by have:=iG T;walk_at"dv") tS
noncomputable def fK:v8:=λds M R=>∃(ps:List (c5×Int)) (a:List (c5×List c5)) (e:c5),ds=[aG ps a,.str e]/\a.length<=1000/\R (.ref M.length) (M++[.lst<|(bF a e).map .str])
theorem sH:cM fK kc:=by rintro ds M R ⟨ps,a,e,rfl,_⟩;rfl
noncomputable def om:p9:=bq<|D2 1 [1] (bI<|p7 u5 (ab 0)<|dC<|.int 1) (ao 0) (ay<|p7 K3 (ab 1)<|p7 u5 (ab 0)<|dC<|.int 1)<|p7 u5 (ab 0)<|dC<|.int 0
theorem tQ:x6 fK 2 om:=by
 rintro ds M R ⟨ps,s,n,rfl,g,h⟩;simp only[om,aG];walk_at"dl";intro _;refine aF (λd=>match d with|.tup [_,.tup ms]=>decide (D.str n∈ms)|_=>bt) (λd=>match d with|.tup (x::_)=>x|_=>.non) (λS=>∃a,S=[a,a7<|.str n]) trivial _ _ _ ?_ ⟨_,rfl⟩ (by rw[B8,u4];exact ak<|by lia) ?_;rintro d m S ⟨a,rfl⟩;obtain⟨p,c,rfl⟩:=v6.mp m;refine⟨[a7<|eS p,a7<|.str n],⟨_,rfl⟩,λY Z b=>?_⟩;have b:if decide (D.str n∈p.2.map D.str)=a9 then Y (.str p.1) [a7<|eS p,a7<|.str n] M else Z [a7<|eS p,a7<|.str n] M:=b
 have J:(D.str n∈p.2.map D.str)↔n∈p.2:=by constructor;intro z;obtain⟨y,O,e⟩:=v6.mp z;injection e with e;exact e ▸ O;exact λz=>G7 z
 unfold eS at b ⊢;walk_at"dl";refine⟨⟨ar,jU⟩,?_⟩;rw[ku];by_cases e:n∈p.2;rw[dT_ e];rw[dT_<|J.mpr e]at b;exact b;rw[dF_ e];rw[dF_<|λz=>e<|J.mp z]at b;exact b;rw[D5,NF,E2];have e:((s.filter<|(λd:D=>match d with|.tup [_,.tup ms]=>decide (D.str n∈ms)|_=>bt) ∘ eS).map<|(λd:D=>match d with|.tup (x::_)=>x|_=>.non) ∘ eS)=(bF s n).map .str:=by
  unfold bF;rw[E2];have:((λd:D=>match d with|.tup [_,.tup ms]=>decide (D.str n∈ms)|_=>bt) ∘ eS)=λp:c5×List c5=>decide (n∈p.2):=by funext p;show decide (D.str n∈p.2.map D.str)=decide (n∈p.2);rw[decide_eq_decide];constructor;intro z;obtain⟨y,O,e⟩:=v6.mp z;injection e with e;exact e ▸ O;exact λz=>G7 z
  rw[this];rfl
 rw[e];exact .inl h
theorem uu(T:Tops P w K mg base):u7 P w K mg base 1 "rooms_of" kc fK:=u7.byD (N:=["house","name"]) T.b T.f_rooms_of (by walk_at"sc") sH (by walk_at"dv") tQ
noncomputable def cX:v8:=λds M R=>∃(ps:List (c5×Int)) (a:List (c5×List c5)) (r:c5),ds=[aG ps a,.str r]/\r∈a.map (·.1)/\R (.tup<|(wC a r).map .str) M
theorem nG:cM cX gh:=by rintro ds M R ⟨ps,a,r,rfl,_⟩;rfl
theorem mO:wC (p::rs) r=if p.1=r then p.2 else wC rs r:=by unfold wC;rw[KC];by_cases h:p.1=r;rw[dT_ h,n5 h];rfl;rw[dF_ h,n6 h]
noncomputable def nA:p9:=wQ
noncomputable def kH:p9:=aB (nK (bI<|p7 u5 (ab 0)<|dC<|.int 1) (nI 2<|cK (ao 2)<|cK (ao 3) nJ)<|A1 (ay<|p7 x9 (ab 2)<|ab 1) (bq<|ab 3) bf)<|nA
theorem pj:x6 cX 4 kH:=by
 rintro ds M R ⟨ps,s,r,rfl,i,h⟩;simp only[kH,aG];walk_at"dl";intro _;refine jJ (λys S c=>∃qs a b,ys=qs.map eS/\c=M/\S=[a7<|aG ps s,a7<|.str r,a,b]/\wC s r=wC qs r/\r∈qs.map (·.1)) ?_ ?_ _ _ _ ⟨s,_,_,rfl,rfl,rfl,rfl,i⟩;rintro S c ⟨qs,a,b,q,rfl,rfl,e,d⟩;have:qs=[]:=by cases qs<;>simp_all
 subst this;cases d;rintro x xs S c ⟨qs,a,b,q,rfl,rfl,e,d⟩ L f;cases qs with
 |nil=>cases q
 |cons p qs=>rw[C0]at q;injection q with h1 h2;subst h1;refine⟨trivial,?_⟩;unfold eS;walk_at"dl";refine⟨trivial,⟨ar,ar⟩,?_⟩;rw[aN];rw[mO]at e;by_cases q:p.1=r;rw[beq_iff_eq.mpr q];rw[n5 q]at e;refine bH<|bg.now ?_;rw[<-e];exact h;rw[beq_eq_false_iff_ne.mpr q];rw[n6 q]at e;rw[C0,z9]at d;exact bE<|A9.now<|f _ _ ⟨qs,_,_,h2,rfl,rfl,e,d.resolve_left<|z8 q⟩
theorem pS(T:Tops P w K mg base):u7 P w K mg base 1 "members_of" gh cX:=u7.byD (N:=["house","room","told","members"]) T.b T.f_members_of (by walk_at"sc") nG (by walk_at"dv") pj
noncomputable def cE:v8:=λds M R=>∃(a b:D) (r:List D),ds=[.tup<|a::b::r]/\R (.tup [a,b]) M
theorem sG:cM cE ka:=by rintro ds M R ⟨a,b,r,rfl,_⟩;rfl
noncomputable def nV:p9:=bq<|fH<|aa (p7 u5 (ab 0)<|dC<|.int 0)<|aa (p7 u5 (ab 0)<|dC<|.int 1) af
theorem tP:x6 cE 1 nV:=by rintro ds M R ⟨a,b,r,rfl,h⟩;simp only[nV];walk_at"dl";exact⟨ak (by lia),bg.now h⟩
theorem iE(T:Tops P w K mg base):u7 P w K mg base 1 "stamp_of" ka cE:=u7.byD (N:=["deed"]) T.b T.f_stamp_of (by walk_at"sc") sG (by walk_at"dv") tP
noncomputable def aQ:v8:=λds M R=>∃(t x:D) (r m:List D),ds=[.tup<|t::.tup (x::r)::m]/\R x M
theorem pY:cM aQ ix:=by rintro ds M R ⟨t,x,r,m,rfl,_⟩;rfl
noncomputable def lP:p9:=bq<|p7 u5 (p7 u5 (ab 0)<|dC<|.int 1)<|dC<|.int 0
theorem qF:x6 aQ 1 lP:=by rintro ds M R ⟨t,x,r,m,rfl,h⟩;simp only[lP];walk_at"dl";exact bg.now h
theorem bV(T:Tops P w K mg base):u7 P w K mg base 1 "person_of" ix aQ:=u7.byD (N:=["deed"]) T.b T.f_person_of (by walk_at"sc") pY (by walk_at"dv") qF
noncomputable def dS:v8:=λds M R=>∃(t d:D) (m:Int) (r:List D) (hs:List (D×Int)),ds=[.tup<|t::d::.int m::r,.tup<|ny hs]/\Hd d/\(∀p∈hs,Hd p.1)/\hs.length<=1000/\R (.bl<|fO hs d m) M
theorem pZ:cM dS iy:=by rintro ds M R ⟨t,d,m,r,hs,rfl,_⟩;rfl
noncomputable def je:p9:=bq<|dC<|.bl bt
noncomputable def lT:p9:=aB (nK (bI<|ab 1) (nI 2<|cK (ao 2)<|cK (ao 3) nJ)<|A1 (ay<|p7 x9 (ab 2)<|p7 u5 (ab 0)<|dC<|.int 1) (bq<|p7 LG (p7 u5 (ab 0)<|dC<|.int 2)<|ab 3) bf)<|je
theorem qG:x6 dS 4 lT:=by
 rintro ds M R ⟨t,d,m,r,hs,rfl,f,v,s,h⟩;simp only[lT];walk_at"dl";refine λ_=>?_;refine jJ (λys S c=>c=M/\∃qs a b,ys=ny qs/\(∀p∈qs,Hd p.1)/\fO qs d m=fO hs d m/\S=[a7<|.tup<|t::d::.int m::r,a7<|.tup<|ny hs,a,b]) ?_ ?_ _ _ _ ⟨rfl,hs,_,_,rfl,v,rfl,rfl⟩;rintro S c ⟨rfl,qs,a,b,e,_,w,rfl⟩;obtain rfl:qs=[]:=by
  cases qs with
  |nil=>rfl
  |cons q qs=>cases e
 rw[<-w]at h;refine⟨trivial,?_⟩;simp only[je];walk_at"dl";exact bg.now h;rintro x xs S c ⟨rfl,qs,a,b,e,i,w,rfl⟩ G l;cases qs with
 |nil=>cases e
 |cons q qs =>
  have j:x=.tup [q.1,.int q.2]/\xs=ny qs:=by unfold ny at e ⊢;rw[C0]at e;injection e with e1 e2;exact⟨e1,e2⟩
  obtain⟨rfl,rfl⟩:=j;refine⟨trivial,?_⟩;have Q:=i q (by simp);walk_at"dl";refine⟨trivial,⟨Jn Q,Jn f⟩,?_⟩;cases g:t4 c t8 q.1 d with
  |true =>
   have e:=(Jo (n:=29) Q f).mp g;have k:fO (q::qs) d m=decide (m<q.2):=by unfold fO;rw[KC,dT_ e]
   rw[<-w,k]at h;exact bH<|bg.now h
  |false =>
   have e:q.1≠d:=λz=>by have:=(Jo (M:=c) (n:=29) Q f).mpr z;rw[show t4 c (29+1) q.1 d=t4 c t8 q.1 d from rfl,g]at this;cases this
   refine bE<|A9.now<|l _ _ ⟨rfl,qs,_,_,rfl,λp o=>i p<|A0 _ o,?_,rfl⟩;rw[<-w];unfold fO;rw[KC,dF_ e]
theorem sf(T:Tops P w K mg base):u7 P w K mg base 1 "is_within" iy dS:=u7.byD (N:=["deed","vector","hand","count"]) T.b T.f_is_within (by walk_at"sc") pZ (by walk_at"dv") qG
noncomputable def bc:v8:=λds M R=>∃(ps:List (c5×Int)) (a:List (c5×List c5)) (g:List D) (k:c5),ds=[.tup g,.str k]/\(∀d∈g,aH ps a d)/\g.length<=1000/\R (.ref M.length) (M++[.lst<|kinds g k])
theorem kr:cM bc dA:=by rintro ds M R ⟨ps,a,g,k,rfl,_⟩;rfl
noncomputable def fX:p9:=bq<|D2 1 [1] (bI<|ab 0) (ao 0) (ay<|p7 x9 (p7 u5 (p7 u5 (ab 0)<|dC<|.int 3)<|dC<|.int 0)<|ab 1)<|ab 0
theorem kX:x6 bc 2 fX:=by rintro ds M R ⟨ps,s,l,k,rfl,g,n,h⟩;simp only[fX];walk_at"dl";intro _;refine aF (λd=>decide<|bp d=k) id (λS=>∃a,S=[a,a7<|.str k]) trivial _ _ _ ?_ ⟨_,rfl⟩ (by rw[B8];exact ak<|by lia) (by rw[D5,Lv];exact .inl h);rintro d i S ⟨a,rfl⟩;obtain⟨t,z,H,m,x,ds,rfl,_⟩:=g d i;refine⟨[a7<|.tup [.int t,.tup [.str z,.int H],.int m,.tup<|.str x::ds],a7<|.str k],⟨_,rfl⟩,λY Z b=>?_⟩;walk_at"dl";have f:atI [D.int t,.tup [.str z,.int H],.int m,.tup<|.str x::ds] 3=a7 (.tup<|.str x::ds):=aA (j:=3) rfl;rw[f];dsimp only;rw[LZ];refine⟨⟨ar,ar⟩,?_⟩;rw[aN];have c:bp (.tup [.int t,.tup [.str z,.int H],.int m,.tup<|.str x::ds])=x:=rfl;rw[c]at b;by_cases e:x=k;rw[beq_iff_eq.mpr e];rw[dT_ e]at b;exact bH b;rw[beq_eq_false_iff_ne.mpr e];rw[dF_ e]at b;exact bE b
theorem cO(T:Tops P w K mg base):u7 P w K mg base 1 "deeds_of_kind" dA bc:=u7.byD (N:=["log","kind"]) T.b T.f_deeds_of_kind (by walk_at"sc") kr (by walk_at"dv") kX
noncomputable def cF:v8:=λds M R=>∃(ps:List (c5×Int)) (a:List (c5×List c5)) (g:List D) (k e:c5),ds=[.tup g,.str k,.str e]/\(∀d∈g,aH ps a d)/\g.length<=1000/\R (.ref M.length) (M++[.lst<|cU g k e])
theorem sK:cM cF ki:=by rintro ds M R ⟨ps,a,g,k,e,rfl,_⟩;rfl
noncomputable def oF:p9:=bq<|D2 1 [2] (bI<|r9 bc<|aa (ab 0)<|aa (ab 1) af) (ao 0) (ay<|p7 x9 (r9 aQ<|aa (ab 0) af)<|ab 1)<|ab 0
theorem tT:x6 cF 3 oF:=by rintro ds M R ⟨ps,rs,g,k,n,rfl,c,l,h⟩;simp only[oF];walk_at"dl";unfold cU at h;have f:∀d∈kinds g k,aH ps rs d:=λd q=>c d (A3.mp q).1;have j:(kinds g k).length<=1000:=B9 bo l;refine⟨ps,rs,g,k,rfl,c,l,?_⟩;generalize kinds g k=F at f j h;refine⟨F,au,λ_=>?_⟩;refine aF (λd=>decide<|ba d=n) id (λS=>∃a,S=[a,a7<|.str n]) au _ _ _ ?_ ⟨_,rfl⟩ (by rw[B8];exact ak<|by lia) ?_;rintro d o S ⟨a,rfl⟩;obtain⟨t,z,H,m,x,ds,rfl,_⟩:=f d o;refine⟨[a7<|.tup [.int t,.tup [.str z,.int H],.int m,.tup<|.str x::ds],a7<|.str n],⟨_,rfl⟩,λY Z b=>?_⟩;walk_at"dl";refine⟨_,_,_,_,rfl,⟨ar,ar⟩,?_⟩;rw[aN];have i:ba (.tup [.int t,.tup [.str z,.int H],.int m,.tup<|.str x::ds])=z:=rfl;rw[i]at b;by_cases e:z=n;rw[beq_iff_eq.mpr e];rw[dT_ e]at b;exact bH b;rw[beq_eq_false_iff_ne.mpr e];rw[dF_ e]at b;exact bE b;rw[D5,Lv,F8];exact bg.lst h (by simp) (by simp)<|aH.bels (ps:=ps) (rs:=rs) λd q=>f d (A3.mp q).1
theorem iF(T:Tops P w K mg base):u7 P w K mg base 2 "deeds_by" ki cF:=u7.byD (N:=["log","kind","name"]) T.b T.f_deeds_by (by walk_at"sc") sK (by have:=bV T;have:=cO T;walk_at"dv") tT
noncomputable def bO:v8:=λds M R=>∃(ps:List (c5×Int)) (a:List (c5×List c5)) (g:List D) (k e:c5),ds=[.tup g,.str k,.str e]/\(∀d∈g,aH ps a d)/\g.length<=1000/\(k=AA0 "seen"\/k=AA0 "rung")/\((∀x∈cT g k e,St x)->R (.ref M.length) (M++[.lst<|cT g k e]))
theorem mR:cM bO fu:=by rintro ds M R ⟨ps,a,g,k,e,rfl,_⟩;rfl
noncomputable def jc:p9:=bq<|D2 1 [] (bI<|r9 cF<|aa (ab 0)<|aa (ab 1)<|aa (ab 2) af) (ao 0) sY<|p7 u5 (p7 u5 (ab 0)<|dC<|.int 3)<|dC<|.int 1
theorem nr:x6 bO 3 jc:=by
 rintro ds M R ⟨ps,u,log,k,name,rfl,f,p,o,h⟩;simp only[jc];walk_at"dl";refine⟨ps,u,log,k,name,rfl,f,p,?_⟩;have s:=gj (log:=log) (k:=k) (name:=name);have i:∀d∈cU log k name,∃(t:Int) (z:c5) (k n:Int) (x:c5) (m:D),d=.tup [.int t,.tup [.str z,.int k],.int n,.tup [.str x,m]]/\St m:=λd b=>by obtain⟨h1,h2,_⟩:=jE b;exact EA (f d h1)<|o.imp (λe=>h2.trans e) λe=>h2.trans e
 have T:cT log k name=(cU log k name).map fR:=rfl;rw[T]at h;generalize cU log k name=F at s i h;have c:∀x∈F.map fR,St x:=λx r=>by obtain⟨d,b,rfl⟩:=v6.mp r;obtain⟨t,z,k,n,x,m,rfl,hs⟩:=i d b;exact hs
 refine⟨F,au,λ_=>?_⟩;refine bJ fR (λS=>∃a,S=[a]) au _ _ _ (λd b S c=>?_) ⟨_,rfl⟩ (by rw[B8];exact ak<|by lia) ?_;obtain⟨a,rfl⟩:=c;obtain⟨t,z,k,n,x,m,rfl,_⟩:=i d b;refine⟨[a7<|.tup [.int t,.tup [.str z,.int k],.int n,.tup [.str x,m]]],⟨_,rfl⟩,λY l=>?_⟩;walk_at"dl";have g:atI [D.int t,.tup [.str z,.int k],.int n,.tup [.str x,m]] 3=a7 (.tup [.str x,m]):=aA (j:=3) rfl;rw[g];dsimp only;rw[LI];exact l;rw[D5,F8];exact bg.lst (h c) (by simp) (by simp)<|Bels.of λd q=>bG 2 d (c d q).pl
theorem ig(T:Tops P w K mg base):u7 P w K mg base 3 "stamps_told" fu bO:=u7.byD (N:=["log","kind","name"]) T.b T.f_stamps_told (by walk_at"sc") mR (by have:=iF T;walk_at"dv") nr
noncomputable def dW:v8:=λds M R=>∃(ps:List (c5×Int)) (a:List (c5×List c5)) (g:List D) (e:c5),ds=[.tup g,.str e]/\(∀d∈g,aH ps a d)/\(cU g (AA0 "hush") e).length<64/\g.length<=1000/\∀ys:List D,(∀w∈ys,fS w)->(∀w,w∈ys↔aX (Av g e) w=a7 (.bl a9))->R (.ref M.length) (M++[.lst ys])
theorem qb:cM dW iA:=by rintro ds M R ⟨ps,a,g,e,rfl,_⟩;rfl
theorem AM(ps:List (D×D))(h:p∈dictOf ps):p∈ps:=by revert h;refine bz (P:=λps=>p∈dictOf ps->p∈ps) (λh=>h) (λps q i h=>?_) ps;rw[bu]at h;rcases gJ h with rfl|h;simp;exact Ks _<|i h
theorem uU(l:List (D×D)):((dictOf l).map (·.1)).Nodup:=by refine bz (P:=λl=>((dictOf l).map (·.1)).Nodup) .nil (λl p i=>?_) l;rw[bu];exact pI i
noncomputable def jf:p9:=bq<|r9 jY<|aa (D2 1 [2] (nb<|ab 2) (ao 0) (ay<|qu (ab 1)<|ab 0)<|ab 0) af
noncomputable def lW:p9:=aB (aT (r9 ir<|aa (D2 1 [] (bI<|r9 cF<|aa (ab 0)<|aa (dC<|.str "hush")<|aa (ab 1) af) (ao 0) sY<|fH<|aa (p7 u5 (p7 u5 (ab 0)<|dC<|.int 3)<|dC<|.int 1)<|aa (p7 u5 (p7 u5 (ab 0)<|dC<|.int 3)<|dC<|.int 2) af) af) 2)<|jf
theorem qI:x6 dW 3 lW:=by
 rintro ds M R ⟨ps,rs,log,name,rfl,v,G,W,h⟩;simp only[lW];walk_at"dl";refine⟨ps,rs,log,AA0 "hush",name,rfl,v,W,?_⟩;have ml:=gj (log:=log) (k:=AA0 "hush") (name:=name);have C:∀d∈cU log (AA0 "hush") name,∃(t:Int) (z:c5) (k n:Int) (w:D) (b:Bool),d=.tup [.int t,.tup [.str z,.int k],.int n,.tup [.str<|AA0 "hush",w,.bl b]]/\fS w:=λd m=>by obtain⟨h1,h2,_⟩:=jE m;exact FR (v d h1) h2
 have T:Av log name=dictOf ((cU log (AA0 "hush") name).map λd=>(fR d,bD d)):=rfl;rw[T]at h;generalize cU log (AA0 "hush") name=F at ml C h G;refine⟨F,au,λ_=>?_⟩;refine bJ (λd=>.tup [fR d,bD d]) (λS=>∃a,S=[a]) au _ _ _ (λd m S U=>?_) ⟨_,rfl⟩ (by rw[B8];exact ak<|by lia) ?_;obtain⟨a,rfl⟩:=U;obtain⟨t,z,k,n,w,b,rfl,_⟩:=C d m;refine⟨[a7<|.tup [.int t,.tup [.str z,.int k],.int n,.tup [.str<|AA0 "hush",w,.bl b]]],⟨_,rfl⟩,λY V=>?_⟩;walk_at"dl";have K:atI [D.int t,.tup [.str z,.int k],.int n,.tup [.str<|AA0 "hush",w,.bl b]] 3=a7 (.tup [.str<|AA0 "hush",w,.bl b]):=aA (j:=3) rfl;rw[K];dsimp only;rw[LI];dsimp only;rw[N6];exact⟨ak (by lia),V⟩;rw[D5];have P:F.map (λd=>D.tup [fR d,bD d])=(F.map λd=>(fR d,bD d)).map λp=>.tup [p.1,p.2]:=by rw[E2];rfl
 rw[P];have l:∀p∈F.map λd=>(fR d,bD d),fS p.1/\∃b,p.2=.bl b:=λp m=>by obtain⟨d,X,rfl⟩:=v6.mp m;obtain⟨t,z,k,n,w,b,rfl,i⟩:=C d X;exact⟨i,b,rfl⟩
 have pl:(F.map λd=>(fR d,bD d)).length=F.length:=u4 _;generalize (F.map λd=>(fR d,bD d))=qs at h l pl;refine⟨qs,au,λp m=>?_,by lia,?_⟩;obtain⟨ks,e⟩:=(l p m).1.tup;exact⟨(l p m).1.key,by rw[e];rfl⟩;simp only[jf];walk_at"dl";have I:=uU qs;have A:∀p∈dictOf qs,fS p.1/\∃b,p.2=.bl b:=λp m=>l p<|AM _ m;have J:=kA (ps:=qs);generalize dictOf qs=c at h I A J;refine⟨c,ad,λ_=>?_⟩;generalize Q:M++[MO.lst F]++[MO.lst<|qs.map λp=>.tup [p.1,p.2]]=B;have pB:M <+: B:=by rw[<-Q,F8];exact F9 _ _
 refine aF (λw=>decide<|aX c w=a7 (.bl a9)) id (λS=>∃a,S=[a,a7<|.ref B.length]) ad _ _ _ ?_ ⟨_,rfl⟩ (by rw[B8,u4];exact ak<|by lia) ?_;rintro x m S ⟨a,rfl⟩;obtain⟨q,o,rfl⟩:=v6.mp m;have y:=fy I o;obtain⟨s,b,N⟩:=A q o;refine⟨[a7 q.1,a7<|.ref B.length],⟨_,rfl⟩,λY Z g=>?_⟩;rw[N]at y;rw[y]at g;obtain⟨ks,e⟩:=s.tup;have E:=s.key;rw[e]at g y E ⊢;walk_at"dl";refine⟨c,_,ad,E,y,?_⟩;cases b with
 |true=>rw[dT_ rfl]at g;exact bH g
 |false=>rw[dF_<|by simp]at g;exact bE g
 rw[D5,Lv];have m:∀w,w∈(c.map (·.1)).filter (λw=>decide<|aX c w=a7 (.bl a9))↔aX c w=a7 (.bl a9):=λw=>by rw[A3,o4];exact⟨λz=>z.2,λz=>⟨G7 (f:=(·.1))<|cy z,z⟩⟩
 have i:∀w∈(c.map (·.1)).filter (λw=>decide<|aX c w=a7 (.bl a9)),fS w:=λw i=>by obtain⟨p,l,rfl⟩:=v6.mp (A3.mp i).1;exact(A p l).1
 have H:((c.map (·.1)).filter<|λw=>decide<|aX c w=a7 (.bl a9)).length<64:=by have:=J2 (λw=>decide<|aX c w=a7 (.bl a9)) (c.map (·.1));rw[u4]at this;lia
 generalize (c.map (·.1)).filter (λw=>decide<|aX c w=a7 (.bl a9))=L at m i H;refine⟨L,au,yt i H,λys O hr=>?_⟩;obtain⟨u,rfl⟩:∃u,B=M++u:=by obtain⟨u,e⟩:=pB;exact⟨u,e.symm⟩
 have r:∀w∈ys,fS w:=λw q=>i w<|O.mem_iff.mp q;rw[F8,F8,F8];exact bg.lst (h ys r λw=>O.mem_iff.trans<|m w) (by simp) (by simp)<|Bels.of λd v=>bG 3 d (r d v).pl
theorem sj(T:Tops P w K mg base):u7 P w K mg base 3 "hushes_of" iA dW:=u7.byD (N:=["log","name","hushes"]) T.b T.f_hushes_of (by walk_at"sc") qb (by have:=iF T;walk_at"dv") qI
noncomputable def bW:v8:=λds M R=>∃(a b c x r:D) (l:List D),ds=[.tup [a,b,c,.tup<|x::r::l]]/\R r M
theorem uH:cM bW mE:=by rintro ds M R ⟨a,b,c,x,r,l,rfl,_⟩;rfl
noncomputable def qQ:p9:=bq<|p7 u5 (p7 u5 (ab 0)<|dC<|.int 3)<|dC<|.int 1
theorem wX:x6 bW 1 qQ:=by rintro ds M R ⟨a,b,c,x,r,l,rfl,h⟩;simp only[qQ];walk_at"dl";have e:atI [a,b,c,.tup<|x::r::l] 3=a7 (.tup<|x::r::l):=aA (j:=3) rfl;rw[e];dsimp only;rw[LI];exact bg.now h
theorem kn(T:Tops P w K mg base):u7 P w K mg base 1 "room_of" mE bW:=u7.byD (N:=["say"]) T.b T.f_room_of (by walk_at"sc") uH (by walk_at"dv") wX
noncomputable def cD:v8:=λds M R=>∃(a b c x r u:D) (l:List D),ds=[.tup [a,b,c,.tup<|x::r::u::l]]/\R u M
theorem sF:cM cD jZ:=by rintro ds M R ⟨a,b,c,x,r,u,l,rfl,_⟩;rfl
noncomputable def nU:p9:=bq<|p7 u5 (p7 u5 (ab 0)<|dC<|.int 3)<|dC<|.int 2
theorem tO:x6 cD 1 nU:=by rintro ds M R ⟨a,b,c,x,r,u,l,rfl,h⟩;simp only[nU];walk_at"dl";have d:atI [a,b,c,.tup<|x::r::u::l] 3=a7 (.tup<|x::r::u::l):=aA (j:=3) rfl;have e:atI (x::r::u::l) 2=a7 u:=aA (j:=2) rfl;rw[d];dsimp only;rw[e];exact bg.now h
theorem iD(T:Tops P w K mg base):u7 P w K mg base 1 "under_of" jZ cD:=u7.byD (N:=["say"]) T.b T.f_under_of (by walk_at"sc") sF (by walk_at"dv") tO
noncomputable def dY:v8:=λds M R=>∃(ps:List (c5×Int)) (a:List (c5×List c5)) (d:D) (q:Nat) (s:List (D×D)),ds=[aG ps a,d,.ref q]/\aH ps a d/\bp d=AA0 "say"/\M[q]?=a7 (.dkt s)/\(∀p∈s,aH ps a p.2/\bp p.2=AA0 "say")/\R (.bl<|ic a s d) M
theorem qc:cM dY iB:=by rintro ds M R ⟨ps,a,d,q,s,rfl,_⟩;rfl
noncomputable def jg:p9:=bq<|JX (p7 MS (ab 3)<|dC .non)<|nL (p7 GN (ab 3)<|ab 2)<|p7 x9 (r9 bW<|aa (qu (ab 2)<|ab 3) af)<|r9 bW<|aa (ab 1) af
noncomputable def jh:p9:=aB (aT (r9 cD<|aa (ab 1) af) 3)<|jg
noncomputable def lZ:p9:=aB (A1 (ay<|p7 kN (r9 aQ<|aa (ab 1) af)<|r9 cX<|aa (ab 0)<|aa (r9 bW<|aa (ab 1) af) af) (bq<|dC<|.bl bt) bf)<|jh
theorem qJ:x6 dY 4 lZ:=by
 rintro ds M R ⟨ps,b,d,q,a,rfl,p,w,j,y,h⟩;obtain⟨t,z,k,m,r,u,s,rfl,_,_,x,g⟩:=kL p w;simp only[lZ];walk_at"dl";refine⟨_,_,_,_,rfl,_,_,_,_,_,_,rfl,ps,b,r,rfl,x,⟨ar,jU⟩,?_⟩;rw[ku];have n:ic b a (.tup [.int t,.tup [.str z,.int k],.int m,.tup [.str<|AA0 "say",.str r,u,.str s]])=(decide (z∈wC b r)&&(decide (u=.non)||match aX a u with
  |some e=>decide<|aR e=r
  |none=>bt)):=rfl
 rw[n]at h;by_cases i:z∈wC b r;rw[dT_ i]at h ⊢;refine bE ?_;simp only[jh,jg];walk_at"dl";refine⟨_,_,_,_,_,u,_,rfl,?_⟩;rcases g with rfl|g;walk_at"dl";refine bg.now ?_;simpa using h;obtain⟨t',G,H,rfl⟩:=g;rw[dF_<|by intro e;cases e]at h;walk_at"dl";refine⟨a,j,rfl,?_⟩;cases S:aX a (.tup [.int t',.tup [.str G,.int H]]) with
 |none=>rw[S]at h;exact bE<|bg.now h
 |some e =>
  rw[S]at h;obtain⟨v,c⟩:=y _<|cy S;obtain⟨T,D,B,A,f,L,C,l,_⟩:=kL v c;dsimp only at l;subst l;refine bH ⟨a,_,j,rfl,S,_,_,_,_,_,_,rfl,_,_,_,_,_,_,rfl,⟨ar,ar⟩,?_⟩;rw[aN];refine bg.now ?_;have o:(f==r)=decide (f=r):=by by_cases e:f=r;rw[dT_ e];exact beq_iff_eq.mpr e;rw[dF_ e];exact beq_eq_false_iff_ne.mpr e
  rw[o];exact h
 rw[dF_ i]at h ⊢;exact bH<|bg.now h
theorem su(T:Tops P w K mg base):u7 P w K mg base 2 "can_stand" iB dY:=u7.byD (N:=["house","say","elders","under"]) T.b T.f_can_stand (by walk_at"sc") qc (by have:=pS T;have:=bV T;have:=kn T;have:=iD T;walk_at"dv") qJ
noncomputable def bd:v8:=λds M R=>∃(ps:List (c5×Int)) (a:List (c5×List c5)) (g:List D),ds=[aG ps a,.tup g]/\(∀d∈g,aH ps a d)/\g.length<=1000/\∀n B,M <+: B->B[n]?=a7 (.dkt<|ag a g)->R (.ref n) B
theorem iJ:cM bd cw:=by rintro ds M R ⟨ps,a,g,rfl,_⟩;rfl
theorem lA(h:∀d∈log,aH ps rs d)(g:∀d∈l,d∈kinds log (AA0 "say"))(t:TabK l kvs):∀p∈kvs,aH ps rs p.2/\bp p.2=AA0 "say":=λp a=>by obtain⟨h1,h2⟩:=aV<|g _ (t.en p a).2;exact⟨h _ h1,h2⟩
noncomputable def dn:p9:=bq<|ab 2
noncomputable def dq:p9:=aB (nK (bI<|r9 bc<|aa (ab 1)<|aa (dC<|.str "say") af) (ao 3)<|A1 (ay<|r9 dY<|aa (ab 0)<|aa (ab 3)<|aa (ab 2) af) (xZ (ab 2) (r9 cE<|aa (ab 3) af)<|ab 3) bf)<|dn
noncomputable def eO:p9:=aB (aT (ya) 2)<|dq
theorem iY:x6 bd 4 eO:=by
 rintro ds M R ⟨ps,rs,log,rfl,c,o,h⟩;simp only[eO,dq];walk_at"dl";refine⟨ps,rs,log,_,rfl,c,o,?_⟩;have r:=bo (log:=log) (k:=AA0 "say");have m:∀d∈kinds log (AA0 "say"),aH ps rs d/\bp d=AA0 "say":=λd q=>⟨c d (aV q).1,(aV q).2⟩
 have f:aJ rs (kinds log<|AA0 "say")=ag rs log:=rfl;generalize A:kinds log (AA0 "say")=K at r m f;refine⟨K,au,λ_=>?_⟩;refine bA (λi S b=>∃a,b=M++[.dkt<|aJ rs<|K.take i,.lst K]/\S=[a7<|aG ps rs,a7<|.tup log,a7<|.ref M.length,a]) ?_ ?_ ⟨_,by simp[aJ],rfl⟩;rintro S b ⟨a,rfl,rfl⟩;rw[LA,f];refine⟨.inl ?_,?_⟩;have:(M++[MO.dkt []]).length=M.length+1:=by simp
 rw[this];exact wK;simp only[dn];walk_at"dl";exact .inl<|h _ _ (F9 _ _) kw;rintro i y S b O ⟨a,rfl,rfl⟩ G l;have p:=J1 O;have n:K.take (i+1)=K.take i++[y]:=by rw[Mf,O];rfl
 rw[n,dE]at l;have g:=gP (rs:=rs)<|K.take i;have v:=lA c (λd q=>A ▸ OI q) g;have j:=g.len;rw[G2]at j;generalize aJ rs (K.take i)=s at l v j;obtain⟨e,u⟩:=m y p;refine⟨.inl ?_,?_⟩;have:(M++[MO.dkt []]).length=M.length+1:=by simp
 rw[this];exact wK;walk_at"dl";refine⟨ps,rs,y,_,s,rfl,e,u,kw,v,?_⟩;unfold uc at l;cases hs:ic rs s y with
 |true=>rw[hs,n5 rfl]at l;refine bH ?_;obtain⟨t,z,k,w,x,ds,rfl,_⟩:=e;refine⟨_,_,_,rfl,s,kw,rfl,aL (by lia),?_⟩;rw[mj];exact A9.now<|l _ _ ⟨_,rfl,rfl⟩
 |false=>rw[hs,n6<|by decide]at l;exact bE<|A9.now<|l _ _ ⟨_,rfl,rfl⟩
theorem dN(T:Tops P w K mg base):u7 P w K mg base 3 "says_that_count" cw bd:=u7.byD (N:=["house","log","says","deed"]) T.b T.f_says_that_count (by walk_at"sc") iJ (by have:=iE T;have:=cO T;have:=su T;walk_at"dv") iY
noncomputable def ck:v8:=λds M R=>∃(t:Int) (z:c5) (k n:Int) (x m:D) (l:List D) (q:Nat) (s:List (D×D)),ds=[.tup [.int t,.tup [.str z,.int k],.int n,.tup<|x::m::l],.ref q]/\St m/\M[q]?=a7 (.dkt s)/\(∀p∈s,Nv p.2)/\R (.bl<|E7 s<|.tup [.int t,.tup [.str z,.int k],.int n,.tup<|x::m::l]) M
theorem lh:cM ck eF:=by rintro ds M R ⟨t,z,k,n,x,m,l,q,s,rfl,_⟩;rfl
noncomputable def fP:p9:=bq<|nL (p7 GN (ab 2)<|ab 1)<|p7 x9 (r9 aQ<|aa (ab 0) af)<|r9 aQ<|aa (qu (ab 1)<|ab 2) af
noncomputable def ia:p9:=aB (aT (p7 u5 (p7 u5 (ab 0)<|dC<|.int 3)<|dC<|.int 1) 2)<|fP
theorem lI:x6 ck 3 ia:=by
 rintro ds M R ⟨t,z,k,n,x,m,l,q,s,rfl,f,b,v,h⟩;simp only[ia,fP];obtain⟨t',G,H,rfl⟩:=f;walk_at"dl";have c:atI [D.int t,.tup [.str z,.int k],.int n,.tup<|x::.tup [.int t',.tup [.str G,.int H]]::l] 3=a7 (.tup<|x::.tup [.int t',.tup [.str G,.int H]]::l):=aA (j:=3) rfl;rw[c];dsimp only;rw[LI];refine⟨s,b,rfl,?_⟩;have d:E7 s (.tup [.int t,.tup [.str z,.int k],.int n,.tup<|x::.tup [.int t',.tup [.str G,.int H]]::l])=match aX s (.tup [.int t',.tup [.str G,.int H]]) with
  |some e=>decide<|z=ba e
  |none=>bt:=rfl
 rw[d]at h;cases S:aX s (.tup [.int t',.tup [.str G,.int H]]) with
 |none=>rw[S]at h;exact bE<|bg.now h
 |some e =>
  rw[S]at h;obtain⟨a,y,r,g,rfl⟩:=v _<|cy S;refine bH ⟨_,_,_,_,rfl,s,_,b,rfl,S,_,_,_,_,rfl,⟨ar,ar⟩,?_⟩;rw[aN];refine bg.now ?_;have o:(z==y)=decide (z=y):=by by_cases e:z=y;rw[dT_ e];exact beq_iff_eq.mpr e;rw[dF_ e];exact beq_eq_false_iff_ne.mpr e
  rw[o];exact h
theorem mJ(T:Tops P w K mg base):u7 P w K mg base 2 "is_by_writer" eF ck:=u7.byD (N:=["deed","says","message"]) T.b T.f_is_by_writer (by walk_at"sc") lh (by have:=bV T;walk_at"dv") lI
noncomputable def bN:v8:=λds M R=>∃(ps:List (c5×Int)) (a:List (c5×List c5)) (g:List D) (k:c5) (q:Nat) (s:List (D×D)),ds=[.tup g,.str k,.ref q]/\(∀d∈g,aH ps a d)/\g.length<=1000/\(k=AA0 "change"\/k=AA0 "back")/\M[q]?=a7 (.dkt s)/\(∀p∈s,Nv p.2)/\R (.ref M.length) (M++[.lst<|(kinds g k).filter<|E7 s])
theorem mQ:cM bN fq:=by rintro ds M R ⟨ps,a,g,k,q,s,rfl,_⟩;rfl
theorem IC(h:aH ps rs d)(e:bp d=k)(b:k=AA0 "change"\/k=AA0 "back"):∃(t:Int) (z:c5) (k num:Int) (x m:D) (l:List D),d=.tup [.int t,.tup [.str z,.int k],.int num,.tup<|x::m::l]/\St m:=by rcases b with rfl|rfl;obtain⟨t,z,k,num,m,s,rfl,a⟩:=jL h e;exact⟨t,z,k,num,_,m,_,rfl,a⟩;obtain⟨t,z,k,num,m,rfl,a⟩:=uY h e;exact⟨t,z,k,num,_,m,_,rfl,a⟩
noncomputable def jb:p9:=bq<|D2 1 [2] (bI<|r9 bc<|aa (ab 0)<|aa (ab 1) af) (ao 0) (ay<|r9 ck<|aa (ab 0)<|aa (ab 1) af)<|ab 0
theorem nq:x6 bN 3 jb:=by
 rintro ds M R ⟨ps,rs,log,k,q,s,rfl,c,g,f,j,v,h⟩;simp only[jb];walk_at"dl";refine⟨ps,rs,log,k,rfl,c,g,_,au,λ_=>?_⟩;have o:=bo (log:=log) (k:=k);refine aF (E7 s) id (λS=>∃a,S=[a,a7<|.ref q]) au _ _ _ ?_ ⟨_,rfl⟩ (by rw[B8];exact ak<|by lia) ?_;rintro d i S ⟨a,rfl⟩;obtain⟨h1,h2⟩:=aV i;obtain⟨t,z,H,n,x,m,l,rfl,hs⟩:=IC (c d h1) h2 f;refine⟨[a7<|.tup [.int t,.tup [.str z,.int H],.int n,.tup<|x::m::l],a7<|.ref q],⟨_,rfl⟩,λY Z b=>?_⟩;walk_at"dl";refine⟨t,z,H,n,x,m,l,q,s,rfl,hs,ac j,v,?_⟩;cases e:E7 s (.tup [.int t,.tup [.str z,.int H],.int n,.tup<|x::m::l]) with
 |true=>rw[e]at b;exact bH b
 |false=>rw[e]at b;exact bE b
 rw[D5,Lv,F8];exact bg.lst h (by simp) (by simp)<|aH.bels (ps:=ps) (rs:=rs) λd m=>c d (aV (A3.mp m).1).1
theorem ie(T:Tops P w K mg base):u7 P w K mg base 3 "writers_own" fq bN:=u7.byD (N:=["log","kind","says"]) T.b T.f_writers_own (by walk_at"sc") mQ (by have:=cO T;have:=mJ T;walk_at"dv") nq
noncomputable def bK:v8:=λds M R=>∃(ps:List (c5×Int)) (a:List (c5×List c5)) (g:List D) (q:Nat) (s:List (D×D)),ds=[.tup g,.ref q]/\(∀d∈g,aH ps a d)/\g.length<=1000/\M[q]?=a7 (.dkt s)/\(∀p∈s,Nv p.2)/\∀n B,M <+: B->B[n]?=a7 (.dkt<|aO s g)->R (.ref n) B
theorem lc:cM bK eD:=by rintro ds M R ⟨ps,a,g,q,s,rfl,_⟩;rfl
theorem pc(ps:List (D×D))(h:p∈dictOf ps):p∈ps:=by revert h;refine bz (P:=λps=>p∈dictOf ps->p∈ps) (λh=>h) (λps q i h=>?_) ps;rw[bu]at h;rcases gJ h with rfl|h;simp;exact Ks _<|i h
theorem nj(h:∀d∈log,aH ps rs d):∀p∈aO kvs log,∃s,p.2=.str s:=λp b=>by obtain⟨d,a,rfl⟩:=v6.mp<|pc _ b;obtain⟨h1,h2⟩:=aV (A3.mp a).1;obtain⟨t,z,k,n,m,s,rfl,hs⟩:=jL (h d h1) h2;exact⟨s,rfl⟩
noncomputable def hZ:p9:=bq<|r9 ir<|aa (D2 1 [] (bI<|r9 bN<|aa (ab 0)<|aa (dC<|.str "change")<|aa (ab 1) af) (ao 0) sY<|fH<|aa (p7 u5 (p7 u5 (ab 0)<|dC<|.int 3)<|dC<|.int 1)<|aa (p7 u5 (p7 u5 (ab 0)<|dC<|.int 3)<|dC<|.int 2) af) af
theorem lH:x6 bK 2 hZ:=by
 rintro ds M R ⟨ps,B,log,q,b,rfl,i,w,x,y,h⟩;simp only[hZ];walk_at"dl";refine⟨ps,B,log,_,q,b,rfl,i,w,.inl rfl,x,y,_,au,λ_=>?_⟩;have C:=bo (log:=log) (k:=AA0 "change");have r:=J2 (E7 b)<|kinds log<|AA0 "change";have f:∀d∈(kinds log<|AA0 "change").filter (E7 b),∃(t:Int) (z:c5) (k n:Int) (m:D) (s:c5),d=.tup [.int t,.tup [.str z,.int k],.int n,.tup [.str<|AA0 "change",m,.str s]]/\St m:=λd m=>by obtain⟨h1,h2⟩:=aV (A3.mp m).1;exact jL (i d h1) h2
 have g:dictOf (((kinds log<|AA0 "change").filter<|E7 b).map λd=>(fR d,bD d))=aO b log:=rfl;generalize (kinds log<|AA0 "change").filter (E7 b)=F at r f g;refine bJ (λd=>.tup [fR d,bD d]) (λS=>∃a,S=[a]) au _ _ _ (λd c S u=>?_) ⟨_,rfl⟩ (by rw[B8];exact ak<|by lia) ?_;obtain⟨a,rfl⟩:=u;obtain⟨t,z,k,n,m,s,rfl,_⟩:=f d c;refine⟨[a7<|.tup [.int t,.tup [.str z,.int k],.int n,.tup [.str<|AA0 "change",m,.str s]]],⟨_,rfl⟩,λY v=>?_⟩;walk_at"dl";have l:atI [D.int t,.tup [.str z,.int k],.int n,.tup [.str<|AA0 "change",m,.str s]] 3=a7 (.tup [.str<|AA0 "change",m,.str s]):=aA (j:=3) rfl;rw[l];dsimp only;rw[LI];dsimp only;rw[N6];exact⟨ak (by lia),v⟩;rw[D5];have o:F.map (λd=>D.tup [fR d,bD d])=(F.map λd=>(fR d,bD d)).map λp=>.tup [p.1,p.2]:=by rw[E2];rfl
 rw[o];refine⟨F.map λd=>(fR d,bD d),au,λp c=>?_,by rw[u4];lia,?_⟩;obtain⟨d,A,rfl⟩:=v6.mp c;obtain⟨t,z,k,n,m,s,rfl,hs⟩:=f d A;obtain⟨E,e⟩:=hs.tup;exact⟨hs.key,by show ij m=a9;rw[e];rfl⟩;rw[g];exact .inl<|h _ _ ((dL.trans dL).trans dL) ad
theorem gi(T:Tops P w K mg base):u7 P w K mg base 4 "last_changes" eD bK:=u7.byD (N:=["log","says"]) T.b T.f_last_changes (by walk_at"sc") lc (by have:=ie T;walk_at"dv") lH
noncomputable def bi:v8:=λds M R=>∃(ps:List (c5×Int)) (r:List (c5×List c5)) (g:List D) (q:Nat) (s:List (D×D)),ds=[.tup g,.ref q]/\(∀d∈g,aH ps r d)/\g.length<64/\M[q]?=a7 (.dkt s)/\(∀p∈s,Nv p.2)/\∀ys,(∀x∈ys,St x)->(∀x,x∈ys↔bY s g x)->ys.Nodup->(ys.Pairwise λa b=>¬C4 t8 b<C4 t8 a)->R (.ref M.length) (M++[.lst ys])
theorem gk:cM bi bR:=by rintro ds M R ⟨ps,a,g,q,s,rfl,_⟩;rfl
noncomputable def dm:p9:=bq<|jI<|D2 1 [] (bI<|r9 bN<|aa (ab 0)<|aa (dC<|.str "back")<|aa (ab 1) af) (ao 0) sY<|p7 u5 (p7 u5 (ab 0)<|dC<|.int 3)<|dC<|.int 1
theorem gU:x6 bi 2 dm:=by
 rintro ds M R ⟨ps,G,log,q,s,rfl,o,I,y,B,h⟩;simp only[dm];walk_at"dl";refine⟨ps,G,log,_,q,s,rfl,o,by lia,.inr rfl,y,B,_,au,λ_=>?_⟩;have K:=bo (log:=log) (k:=AA0 "back");have u:=J2 (E7 s)<|kinds log<|AA0 "back";have l:∀d∈(kinds log<|AA0 "back").filter (E7 s),∃(t:Int) (z:c5) (k n:Int) (m:D),d=.tup [.int t,.tup [.str z,.int k],.int n,.tup [.str<|AA0 "back",m]]/\St m:=λd m=>by obtain⟨h1,h2⟩:=aV (A3.mp m).1;exact uY (o d h1) h2
 have g:∀x,x∈((kinds log<|AA0 "back").filter<|E7 s).map fR↔bY s log x:=λx=>by constructor;intro f;obtain⟨d,m,rfl⟩:=v6.mp f;exact⟨d,(A3.mp m).1,(A3.mp m).2,rfl⟩;rintro⟨d,h1,h2,rfl⟩;exact G7<|A3.mpr ⟨h1,h2⟩
 generalize (kinds log<|AA0 "back").filter (E7 s)=F at u l g;refine bJ fR (λS=>∃a,S=[a]) au _ _ _ (λd i S v=>?_) ⟨_,rfl⟩ (by rw[B8];exact ak<|by lia) ?_;obtain⟨a,rfl⟩:=v;obtain⟨t,z,k,n,m,rfl,_⟩:=l d i;refine⟨[a7<|.tup [.int t,.tup [.str z,.int k],.int n,.tup [.str<|AA0 "back",m]]],⟨_,rfl⟩,λY w=>?_⟩;walk_at"dl";have r:atI [D.int t,.tup [.str z,.int k],.int n,.tup [.str<|AA0 "back",m]] 3=a7 (.tup [.str<|AA0 "back",m]):=aA (j:=3) rfl;rw[r];dsimp only;rw[LI];exact w;rw[D5];have hs:∀x∈F.map fR,St x:=λx f=>by obtain⟨d,i,rfl⟩:=v6.mp f;obtain⟨t,z,k,n,m,rfl,hs⟩:=l d i;exact hs
 refine⟨8,_,u6 _,.inl ⟨_,rfl,au⟩,by rw[u4];lia,λx f=>?_,yZ hs (by rw[u4];lia),λys C O A=>?_⟩;obtain⟨L,e⟩:=(hs x f).tup;exact⟨(hs x f).key,by rw[e];rfl⟩;have c:∀x∈ys,St x:=λx f=>hs x<|(O x).mp f;rw[F8,F8];have H:ys.Pairwise λa b=>¬C4 t8 b<C4 t8 a:=(List.Pairwise.and_mem.mp A).imp λ{a b} ⟨ha,g,q⟩=>by
  have p:=c a ha;have T:=c b g;have J:A4 t8 a=a9:=by obtain⟨t,z,k,e⟩:=p;rw[e];rfl
  have E:A4 t8 b=a9:=by obtain⟨t,z,k,e⟩:=T;rw[e];rfl
  rw[uC E J<|T.cm p]at q;exact of_decide_eq_false q
 exact bg.lst (h ys c (λx=>(O x).trans<|g x) C H) (by simp) (by simp)<|Bels.of λd m=>bG 2 d (c d m).pl
theorem gX(T:Tops P w K mg base):u7 P w K mg base 4 "stamps_taken_back" bR bi:=u7.byD (N:=["log","says"]) T.b T.f_stamps_taken_back (by walk_at"sc") gk (by have:=ie T;walk_at"dv") gU
noncomputable def cj:v8:=λds M R=>∃(ps:List (c5×Int)) (a:List (c5×List c5)) (d:D) (q:Nat) (c:List (D×D)),ds=[d,.ref q]/\aH ps a d/\bp d=AA0 "say"/\M[q]?=a7 (.dkt c)/\R (zS c d) M
theorem nF:cM cj gf:=by rintro ds M R ⟨ps,a,d,q,c,rfl,_⟩;rfl
noncomputable def hW:p9:=bq<|fH<|aa (ab 2)<|aa (r9 bW<|aa (ab 0) af)<|aa (r9 cD<|aa (ab 0) af)<|aa (r9 aQ<|aa (ab 0) af)<|aa (ab 3)<|aa (p7 GN (ab 2)<|ab 1) af
noncomputable def hX:p9:=aB (aT (LY jx (ab 1)<|aa (ab 2)<|aa (p7 u5 (p7 u5 (ab 0)<|dC<|.int 3)<|dC<|.int 3) af) 3)<|hW
noncomputable def kG:p9:=aB (aT (r9 cE<|aa (ab 0) af) 2)<|hX
theorem ph:x6 cj 4 kG:=by rintro ds M R ⟨ps,g,d,q,c,rfl,b,f,a,h⟩;obtain⟨t,z,k,m,r,u,s,rfl,_⟩:=kL b f;simp only[kG,hX];walk_at"dl";refine⟨_,_,_,rfl,⟨_,a⟩,?_⟩;have e:atI [D.int t,.tup [.str z,.int k],.int m,.tup [.str<|AA0 "say",.str r,u,.str s]] 3=a7 (.tup [.str<|AA0 "say",.str r,u,.str s]):=aA (j:=3) rfl;have I:atI [.str<|AA0 "say",.str r,u,.str s] 3=a7 (.str s):=aA (j:=3) rfl;rw[e];dsimp only;rw[I];refine⟨c,a,rfl,?_⟩;simp only[hW];walk_at"dl";refine⟨_,_,_,_,_,_,rfl,_,_,_,_,_,_,_,rfl,_,_,_,_,rfl,c,a,rfl,ak (by lia),bg.now h⟩
theorem jD(T:Tops P w K mg base):u7 P w K mg base 2 "message_of" gf cj:=u7.byD (N:=["say","changes","stamp","saying"]) T.b T.f_message_of (by walk_at"sc") nF (by have:=iE T;have:=bV T;have:=kn T;have:=iD T;walk_at"dv") ph
noncomputable def ci:v8:=λds M R=>∃(ps:List (c5×Int)) (a:List (c5×List c5)) (g:List D),ds=[aG ps a,.tup g]/\(∀d∈g,aH ps a d)/\g.length<64/\∀n B,M <+: B->B[n]?=a7 (.dkt<|ah a g)->R (.ref n) B
theorem nE:cM ci gc:=by rintro ds M R ⟨ps,a,g,rfl,_⟩;rfl
theorem oQ{M:t5}{l:List D}(h:∀x∈l,St x):l.all (u3 M t8)=a9:=E6.mpr λx a=>(h x a).ok
theorem wJ(a:St x)(h:∀x∈l,St x):Kv M x l=decide (x∈l):=by unfold Kv;by_cases d:x∈l;rw[dT_ d];exact Kq.mpr ⟨x,d,by rw[show t8=28+2 from rfl,a.eq a];exact dT_ rfl⟩;rw[dF_ d];refine KD.mpr λz=>?_;obtain⟨y,O,e⟩:=Kq.mp z;rw[show t8=28+2 from rfl,(h y O).eq a]at e;exact d<|oT_ e ▸ O
noncomputable def gZ:p9:=bq<|r9 ir<|aa (D2 1 [2,3] (nb<|ab 2) (ao 0) (ay<|p7 kN (ab 0)<|ab 2)<|fH<|aa (ab 0)<|aa (qu (ab 1)<|ab 0) af) af
noncomputable def hV:p9:=aB (aT (r9 bi<|aa (ab 1)<|aa (ab 2) af) 3)<|gZ
noncomputable def kD:p9:=aB (aT (r9 bd<|aa (ab 0)<|aa (ab 1) af) 2)<|hV
theorem pf:x6 ci 4 kD:=by
 rintro ds M R ⟨ps,rs,log,rfl,o,F,h⟩;simp only[kD];walk_at"dl";refine⟨ps,rs,log,rfl,o,by lia,λn B H m=>?_⟩;have t:=aw (rs:=rs) (log:=log);have J:=bo (log:=log) (k:=AA0 "say");have v:=lA o (λ_ q=>q) t;have I:=t.len;have l:=t.nd;have w:=t.en;have g:ah rs log=(ag rs log).filter λp=>@decide (¬bY (ag rs log) log p.1) (KI _):=rfl;rw[g]at h;clear g;generalize ag rs log=s at h t I v l w m;simp only[hV];walk_at"dl";refine⟨ps,rs,log,n,s,rfl,o,F,m,λp c=>(v p c).1.nm,λys hs O _ _=>?_⟩;simp only[gZ];walk_at"dl";have f:(B++[MO.lst ys])[n]?=a7 (.dkt s):=ac m;refine⟨s,f,λ_=>?_⟩;have sp:∀p∈s,St p.1:=λp c=>by rw[(w p c).1];exact(v p c).1.st
 refine aF (λk=>decide<|k∉ys) (λk=>.tup [k,(aX s k).getD .non]) (λS=>∃a,S=[a,a7<|.ref n,a7<|.ref B.length]) f _ _ _ ?_ ⟨_,rfl⟩ (by rw[B8,u4];exact ak<|by lia) ?_;rintro x G S ⟨a,rfl⟩;obtain⟨p,c,rfl⟩:=v6.mp G;have d:=sp p c;have r:=fy l c;refine⟨[a7 p.1,a7<|.ref n,a7<|.ref B.length],⟨_,rfl⟩,λY Z b=>?_⟩;rw[r]at b;obtain⟨A,e⟩:=d.tup;have y:=d.key;rw[e]at b r y d ⊢;walk_at"dl";refine⟨ys,au,⟨d.ok,oQ hs⟩,?_⟩;rw[wJ d hs];by_cases j:D.tup A∈ys;rw[dT_ j];rw[dF_<|λz=>z j]at b;exact bE b;rw[dF_ j];rw[dT_ j,n5 rfl]at b;exact bH ⟨s,_,f,y,r,ak (by lia),b⟩;rw[D5];have E:((s.map (·.1)).filter λk=>decide<|k∉ys).map (λk=>D.tup [k,(aX s k).getD .non])=(s.filter λp=>decide<|p.1∉ys).map λp=>.tup [p.1,p.2]:=by rw[NF,E2];refine OG λp c=>?_;show D.tup [p.1,(aX s p.1).getD .non]=_;rw[fy l (A3.mp c).1];rfl
 rw[E];have u:((s.filter λp=>decide<|p.1∉ys).map (·.1)).Nodup:=(Pi.map _).nodup l;refine⟨_,au,λp c=>?_,?_,?_⟩;have d:=sp p (A3.mp c).1;obtain⟨A,e⟩:=d.tup;exact⟨d.key,by rw[e];rfl⟩;have:=J2 (λp:D×D=>decide<|p.1∉ys) s;lia;rw[AL _ u];refine .inl<|h _ _ (((H.trans dL).trans dL).trans dL) ?_;have C:(s.filter λp=>decide<|p.1∉ys)=s.filter λp=>@decide (¬bY s log p.1) (KI _):=Me λp _=>by by_cases i:bY s log p.1;rw[dF_<|show ¬¬p.1∈ys from λz=>z<|(O _).mpr i,@decide_eq_false _ (KI _)<|λz=>z i];rw[dT_<|show ¬p.1∈ys from λz=>i<|(O _).mp z,@decide_eq_true _ (KI _) i]
 rw[<-C];exact ad
theorem jC(T:Tops P w K mg base):u7 P w K mg base 5 "says_shown" gc ci:=u7.byD (N:=["house","log","says","backs"]) T.b T.f_says_shown (by walk_at"sc") nE (by have:=dN T;have:=gX T;walk_at"dv") pf
noncomputable def bP:v8:=λds M R=>∃(ps:List (c5×Int)) (a:List (c5×List c5)) (g:List D),ds=[aG ps a,.tup g]/\(∀d∈g,aH ps a d)/\g.length<64/\R (.ref M.length) (M++[.lst<|ap a g])
theorem mS:cM bP fv:=by rintro ds M R ⟨ps,a,g,rfl,_⟩;rfl
theorem eQ(h:∀d∈log,aH ps rs d):∀p∈ah rs log,p.1=s9 p.2/\aH ps rs p.2/\bp p.2=AA0 "say":=λp a=>by have h1:=(bx.mp a).1;have b:=aw (rs:=rs) (log:=log);exact⟨(b.en p h1).1,lA h (λ_ q=>q) b p h1⟩
theorem wz(f:∀p∈ch,∃s,p.2=.str s)(h:aH ps rs d)(c:bp d=AA0 "say"):A5 n (zS ch d):=by
 obtain⟨t,z,k,m,r,u,s,rfl,_,_,_,g⟩:=kL h c;have b:A5 n u:=by rcases g with rfl|g;exact .non;exact bG 2 u g.pl
 refine .tup<|.cons (bG 2 _<|St.pl (n:=0) ⟨t,z,k,rfl⟩)<|.cons (.str _)<|.cons b<|.cons (.str _)<|.cons ?_<|.cons (.bl _) .nil;cases e:aX ch (s9<|.tup [.int t,.tup [.str z,.int k],.int m,.tup [.str<|AA0 "say",.str r,u,.str s]]) with
 |none=>exact .str _
 |some v=>obtain⟨s',a⟩:=f _<|cy e;dsimp only at a;rw[a];exact .str _
noncomputable def fV:p9:=bq<|D2 1 [3] (sZ<|ab 2) (ao 0) sY<|r9 cj<|aa (ab 0)<|aa (ab 1) af
noncomputable def fW:p9:=aB (aT (r9 bK<|aa (ab 1)<|aa (ab 2) af) 3)<|fV
noncomputable def jd:p9:=aB (aT (r9 ci<|aa (ab 0)<|aa (ab 1) af) 2)<|fW
theorem nw:x6 bP 4 jd:=by
 rintro ds M R ⟨ps,rs,log,rfl,g,t,h⟩;simp only[jd];walk_at"dl";refine⟨ps,rs,log,rfl,g,t,λn B H i=>?_⟩;have v:=eQ (rs:=rs) g;have u:(ah rs log).length<=1000:=by have h1:=(aw (rs:=rs) (log:=log)).len;have h2:=bo (log:=log) (k:=AA0 "say");have x:(ah rs log).length<=(ag rs log).length:=J2 _ _;lia
 have m:ap rs log=(ah rs log).map λp=>zS (aO (ah rs log) log) p.2:=rfl;have j:=nj (kvs:=ah rs log) g;simp only[fW];walk_at"dl";refine⟨ps,rs,log,n,ah rs log,rfl,g,by lia,i,λp b=>(v p b).2.1.nm,λo w e f=>?_⟩;rw[m]at h;generalize ah rs log=T at v u i f h j;generalize aO T log=q at f h j;have c:=be e i;have pM:=H.trans e;simp only[fV];walk_at"dl";refine⟨T,c,λ_=>?_⟩;refine bJ (zS q) (λS=>∃a,S=[a,a7<|.ref o]) c _ _ _ (λd m S r=>?_) ⟨_,rfl⟩ (by rw[B8,u4];exact ak<|by lia) ?_;obtain⟨a,rfl⟩:=r;obtain⟨p,b,rfl⟩:=v6.mp m;refine⟨[a7 p.2,a7<|.ref o],⟨_,rfl⟩,λY s=>?_⟩;walk_at"dl";exact⟨ps,rs,p.2,o,q,rfl,(v p b).2.1,(v p b).2.2,f,s⟩;rw[D5,E2];obtain⟨L,rfl⟩:=pM;rw[F8];refine bg.lst h (by simp) (by simp)<|Bels.of λd l=>?_;obtain⟨p,b,rfl⟩:=v6.mp l;exact wz j (v p b).2.1 (v p b).2.2
theorem ii(T:Tops P w K mg base):u7 P w K mg base 6 "messages_of" fv bP:=u7.byD (N:=["house","log","says","changes"]) T.b T.f_messages_of (by walk_at"sc") mS (by have:=gi T;have:=jD T;have:=jC T;walk_at"dv") nw
noncomputable def bB:v8:=λds M R=>∃(ps:List (c5×Int)) (a:List (c5×List c5)) (g:List D) (e:c5),ds=[.tup g,.str e]/\(∀d∈g,aH ps a d)/\g.length<1000/\∀n B c,M <+: B->VbAt B n c (py g e)->R (.ref n) B
theorem iH:cM bB cr:=by rintro ds M R ⟨ps,a,g,e,rfl,_⟩;rfl
noncomputable def da:p9:=bq<|ab 2
noncomputable def db:p9:=aB (nK (bI<|r9 cF<|aa (ab 0)<|aa (dC<|.str "read")<|aa (ab 1) af) (ao 3)<|lq<|K5 cN (Np wo (ab 2)<|aa (p7 u5 (p7 u5 (ab 3)<|dC<|.int 3)<|dC<|.int 1)<|aa (iV af) af)<|aa (p7 u5 (p7 u5 (ab 3)<|dC<|.int 3)<|dC<|.int 2) af)<|da
noncomputable def eK:p9:=aB (aT (Do) 2)<|db
theorem iW:x6 bB 4 eK:=by
 rintro ds M R ⟨ps,Y,log,name,rfl,b,Z,h⟩;simp only[eK,db];walk_at"dl";refine⟨ps,Y,log,AA0 "read",name,rfl,b,by lia,?_⟩;have X:=gj (log:=log) (k:=AA0 "read") (name:=name);have K:∀d∈cU log (AA0 "read") name,∃(t:Int) (z:c5) (k n:Int) (r:c5) (hs:List (D×Int)),d=.tup [.int t,.tup [.str z,.int k],.int n,.tup [.str<|AA0 "read",.str r,.tup<|ny hs]]:=λd P=>by obtain⟨h1,h2,_⟩:=jE P;obtain⟨t,z,k,n,r,hs,e,_⟩:=zo (b d h1) h2;exact⟨t,z,k,n,r,hs,e⟩
 have V:py log name=λr=>((cU log (AA0 "read") name).filter λd=>decide<|aR d=r).map bD:=rfl;rw[V]at h;generalize cU log (AA0 "read") name=F at X K h;have l:(M++[MO.dct []]).length=M.length+1:=by simp
 have J:(M++[MO.dct []]++[MO.lst F])[M.length+1]?=a7 (.lst F):=by rw[<-l];exact ad
 rw[l];refine⟨F,.inl J,λ_=>?_⟩;refine bA (λi S f=>∃(c:List (c5×D)) (a:Option D),M <+: f/\f[M.length+1]?=a7 (.lst F)/\VbAt f M.length c (λr=>((F.take i).filter λd=>decide<|aR d=r).map bD)/\c.length<=i/\S=[a7<|.tup log,a7<|.str name,a7<|.ref M.length,a]) ?_ ?_ ⟨[],_,dL.trans dL,J,⟨ac ad,λk d z=>(by cases z),λk _=>rfl,λ_ _ _ z=>(by cases z)⟩,u6 _,rfl⟩;rintro S f ⟨c,a,pM,p,tr,_,rfl⟩;rw[LA]at tr;refine⟨.inl p,?_⟩;simp only[da];walk_at"dl";exact .inl<|h _ _ _ pM tr;rintro i y S f O ⟨c,a,pM,p,tr,tl,rfl⟩ G x;have L:F.take (i+1)=F.take i++[y]:=by rw[Mf,O];rfl
 rw[L]at x;have hi:=(w6.mp O).1;obtain⟨t,z,k,n,r,hs,rfl⟩:=K y<|J1 O;have E:∀k,(((F.take i).filter λd=>decide<|aR d=k).map bD).length<=i:=λk=>by rw[u4];refine B9 (J2 _ _) ?_;rw[G2];lia
 generalize q:(λH=>(((F.take i++[D.tup [.int t,.tup [.str z,.int k],.int n,.tup [.str<|AA0 "read",.str r,.tup<|ny hs]]]).filter λd=>decide<|aR d=H).map bD))=N at x;have v:∀H,N H=if r=H then(((F.take i).filter λd=>decide<|aR d=H).map bD)++[.tup<|ny hs]else(((F.take i).filter λd=>decide<|aR d=H).map bD):=λH=>by rw[<-q];dsimp only;rw[LC,G1,KN,L9];by_cases e:r=H;rw[n5 e,show decide (aR (.tup [.int t,.tup [.str z,.int k],.int n,.tup [.str<|AA0 "read",.str r,.tup<|ny hs]])=H)=a9 from dT_ e];rfl;rw[n6 e,show decide (aR (.tup [.int t,.tup [.str z,.int k],.int n,.tup [.str<|AA0 "read",.str r,.tup<|ny hs]])=H)=bt from dF_ e];exact I9 _
 clear q;refine⟨.inl p,?_⟩;walk_at"dl";have I:atI [D.int t,.tup [.str z,.int k],.int n,.tup [.str<|AA0 "read",.str r,.tup<|ny hs]] 3=a7 (.tup [.str<|AA0 "read",.str r,.tup<|ny hs]):=aA (j:=3) rfl;rw[I];dsimp only;rw[N6];dsimp only;show (∃kvs,f[M.length]?=a7 (MO.dct kvs))/\_;refine⟨⟨_,tr.at_⟩,?_⟩;walk_at"dl";rw[I];dsimp only;rw[LI];dsimp only;refine⟨w5 _,c,ac tr.at_,aL (by lia),λy O=>?_,λQ=>?_⟩;obtain⟨m,rfl,nm,C⟩:=tr.got r y O;refine⟨⟨_,.inl<|ac C⟩,_,ac C,aL (by have:=E r;lia),A9.now<|x _ _ ⟨c,_,du (pM.trans dL) (by lia),az (by lia)<|ac p,⟨az (by lia)<|ac tr.at_,λH d b=>?_,λH b=>?_,tr.one⟩,by lia,rfl⟩⟩;obtain⟨s,rfl,o,g⟩:=tr.got H d b;refine⟨s,rfl,o,?_⟩;rw[v];by_cases e:r=H;subst e;rw[O]at b;obtain rfl:m=s:=by injection b with b;injection b
 rw[dD<|ac C,n5 rfl];rw[n6 e];exact az (λz=>e<|tr.one _ _ _ (z ▸ O) b)<|ac g;have e:r≠H:=λz=>by rw[<-z,O]at b;cases b
 rw[v,n6 e];exact tr.no H b;have W:M.length+1<f.length:=aU p;have A:((f++[MO.lst []]).set M.length<|.dct<|mz c r<|.ref f.length)[f.length]?=a7 (.lst []):=az (by lia) ad;have B:∀H,fT (mz c r<|.ref f.length) H=if r=H then a7 (.ref f.length)else fT c H:=λH=>by by_cases e:r=H;rw[n5 e,<-e,yw];rw[n6 e,xf<|z8 e]
 refine⟨⟨_,.inl A⟩,_,A,aL (by rw[B8];lia),A9.now<|x _ _ ⟨mz c r<|.ref f.length,_,du (du (pM.trans dL)<|u6 _) (by lia),az (by lia)<|az (by lia)<|ac p,⟨az (by lia)<|dD<|ac tr.at_,λH d b=>?_,λH b=>?_,λT U m h1 h2=>?_⟩,by have:=(wv (kvs:=c) (k:=r) (d:=.ref f.length)).1;lia,rfl⟩⟩;rw[B]at b;by_cases e:r=H;rw[n5 e]at b;subst e;exact⟨f.length,by injection b with b;exact b.symm,W,by rw[dD A,v,n5 rfl,tr.no _ Q]⟩;rw[n6 e]at b;obtain⟨s,rfl,o,g⟩:=tr.got H d b;have:=aU g;exact⟨s,rfl,o,by rw[v,n6 e];exact az (by lia)<|az (by lia)<|ac g⟩;rw[B]at b;by_cases e:r=H;rw[n5 e]at b;cases b;rw[n6 e]at b;rw[v,n6 e];exact tr.no H b;rw[B]at h1 h2;have u:∀H m,fT c H=a7 (.ref m)->m<f.length:=λH m h'=>by obtain⟨s,e,_,g⟩:=tr.got H _ h';injection e with e;rw[e];exact aU g
 by_cases l:r=T<;>by_cases w:r=U;rw[<-l,<-w];rw[n5 l]at h1;rw[n6 w]at h2;have:=u _ _ h2;injection h1 with h1;injection h1 with h1;lia;rw[n6 l]at h1;rw[n5 w]at h2;have:=u _ _ h1;injection h2 with h2;injection h2 with h2;lia;rw[n6 l]at h1;rw[n6 w]at h2;exact tr.one _ _ _ h1 h2
theorem jA(T:Tops P w K mg base):u7 P w K mg base 3 "vectors_by_room" cr bB:=u7.byD (N:=["log","name","vectors","deed"]) T.b T.f_vectors_by_room (by walk_at"sc") iH (by have:=iF T;walk_at"dv") iW
noncomputable def gR:v8:=λds M R=>∃(ps:List (c5×Int)) (a:List (c5×List c5)) (g:List D) (n:c5) (e:D) (v qs:Nat) (c:List (c5×D)),ds=[e,.str n,.ref v,.ref qs]/\(∀d∈g,aH ps a d)/\g.length<=1000/\aH ps a e/\bp e=AA0 "say"/\VbAt M v c (py g n)/\M[qs]?=a7 (.lst<|cT g (AA0 "seen") n)/\(∀x∈cT g (AA0 "seen") n,St x)/\R (.bl<|kY g n e) M
theorem uI:cM gR mF:=by rintro ds M R ⟨ps,a,g,n,e,v,qs,c,rfl,_⟩;rfl
theorem Er(h:∀d∈log,aH ps rs d):∀v∈py log name r,∃hs:List (D×Int),v=.tup (ny hs)/\(∀p∈hs,Hd p.1)/\hs.length<=12:=λv c=>by obtain⟨d,m,rfl⟩:=v6.mp c;obtain⟨h1,h2,_⟩:=jE (A3.mp m).1;obtain⟨t,z,k,n,r,hs,rfl,q,j⟩:=zo (h d h1) h2;exact⟨hs,rfl,q,j⟩
theorem Bw:(py log name r).length<=log.length:=by unfold py;rw[u4];exact B9 (J2 _ _) gj
noncomputable def lU:p9:=bq<|r9 GO<|aa (D2 1 [0] (bI<|Np wt (ab 2)<|aa (r9 bW<|aa (ab 0) af)<|aa (iV af) af) (ao 0) sY<|r9 dS<|aa (ab 1)<|aa (ab 0) af) af
noncomputable def rj:p9:=aB (A1 (LH (ay<|p7 x9 (r9 aQ<|aa (ab 0) af)<|ab 1)<|ay<|p7 K3 (r9 cE<|aa (ab 0) af)<|ab 3) (bq<|dC<|.bl a9) bf)<|lU
theorem wY:x6 gR 4 rj:=by
 rintro ds M R ⟨ps,H,log,name,e,C,qs,f,rfl,x,G,n,A,i,p,hs,h⟩;obtain⟨t,z,k,m,r,u,s,rfl,_⟩:=kL n A;have c:St (.tup [.int t,.tup [.str z,.int k]]):=⟨_,_,_,rfl⟩
 simp only[rj];walk_at"dl";refine⟨_,_,_,_,rfl,⟨ar,ar⟩,?_⟩;rw[aN];unfold kY at h;rw[show ba (.tup [.int t,.tup [.str z,.int k],.int m,.tup [.str<|AA0 "say",.str r,u,.str s]])=z from rfl,show s9 (.tup [.int t,.tup [.str z,.int k],.int m,.tup [.str<|AA0 "say",.str r,u,.str s]])=.tup [.int t,.tup [.str z,.int k]]from rfl,show aR (.tup [.int t,.tup [.str z,.int k],.int m,.tup [.str<|AA0 "say",.str r,u,.str s]])=r from rfl]at h;by_cases b:z=name;rw[beq_iff_eq.mpr b];rw[dT_ b]at h;exact bH<|bg.now h;rw[beq_eq_false_iff_ne.mpr b];rw[dF_ b,Bool.false_or]at h;refine bE ⟨_,_,_,rfl,_,.inl p,⟨c.ok,oQ hs⟩,?_⟩;rw[wJ c hs];by_cases l:D.tup [.int t,.tup [.str z,.int k]]∈cT log (AA0 "seen") name;rw[dT_ l];rw[dT_ l]at h;exact bH<|bg.now h;rw[dF_ l];rw[dF_ l,Bool.false_or]at h;refine bE ?_;simp only[lU];walk_at"dl";show (∃d,M[C]?=a7 (MO.dct d))/\_;refine⟨⟨_,i.at_⟩,?_⟩;walk_at"dl";refine⟨_,_,_,_,_,_,rfl,w5 _,f,ac i.at_,?_⟩;obtain⟨q,o,g⟩:=(i.pre<|dL (mo:=MO.lst [])).kids (k:=r) ad;rw[o];have pM:M <+: M++[MO.lst []]:=dL;generalize M++[MO.lst []]=B at g pM;have F:=Bw (log:=log) (name:=name) (r:=r);have Z:=Er (name:=name) (r:=r) x;generalize py log name r=L at g h F Z;refine⟨_,.inl g,λ_=>?_⟩;refine bJ (λv=>.bl<|fO (GJ v) (.tup [.str z,.int k]) m) (λS=>∃a,S=[a,a7<|.tup [.int t,.tup [.str z,.int k],.int m,.tup [.str<|AA0 "say",.str r,u,.str s]]]) (.inl g) _ _ _ (λv y S w=>?_) ⟨_,rfl⟩ (by rw[B8];exact ak<|by lia) ?_;obtain⟨a,rfl⟩:=w;obtain⟨hs,rfl,E,Q⟩:=Z v y;refine⟨[a7<|.tup<|ny hs,a7<|.tup [.int t,.tup [.str z,.int k],.int m,.tup [.str<|AA0 "say",.str r,u,.str s]]],⟨_,rfl⟩,λY j=>?_⟩;rw[Bx]at j;walk_at"dl";exact⟨_,_,_,_,hs,rfl,⟨_,_,rfl⟩,E,by lia,j⟩;refine⟨L.map λv=>fO (GJ v) (.tup [.str z,.int k]) m,?_,?_⟩;rw[D5,show bls (L.map λv=>fO (GJ v) (.tup [.str z,.int k]) m)=L.map λv=>.bl (fO (GJ v) (.tup [.str z,.int k]) m) by unfold bls;rw[E2];rfl];exact au;rw[List.any_map];exact bg.bl h<|pM.trans dL
theorem xu(T:Tops P w K mg base):u7 P w K mg base 2 "is_read" mF gR:=u7.byD (N:=["say","name","vectors","seen"]) T.b T.f_is_read (by walk_at"sc") uI (by have:=iE T;have:=bV T;have:=sf T;have:=kn T;walk_at"dv") wY
noncomputable def bC:v8:=λds M R=>∃(ps:List (c5×Int)) (a:List (c5×List c5)) (g:List D) (e:c5),ds=[aG ps a,.tup g,.str e]/\(∀d∈g,aH ps a d)/\g.length<64/\R (.ref M.length) (M++[.lst<|(cq a g e).map<|zS<|aO (ah a g) g])
theorem iI:cM bC cu:=by rintro ds M R ⟨ps,a,g,e,rfl,_⟩;rfl
noncomputable def dc:p9:=bq<|D2 1 [6,2,3,4] (sZ<|ab 5) (ao 0) (JY<|ay<|r9 gR<|aa (ab 0)<|aa (ab 2)<|aa (ab 3)<|aa (ab 4) af)<|r9 cj<|aa (ab 0)<|aa (ab 1) af
noncomputable def df:p9:=aB (aT (r9 bK<|aa (ab 1)<|aa (ab 5) af) 6)<|dc
noncomputable def dh:p9:=aB (aT (r9 ci<|aa (ab 0)<|aa (ab 1) af) 5)<|df
noncomputable def dj:p9:=aB (aT (r9 bO<|aa (ab 1)<|aa (dC<|.str "seen")<|aa (ab 2) af) 4)<|dh
noncomputable def eL:p9:=aB (aT (r9 bB<|aa (ab 1)<|aa (ab 2) af) 3)<|dj
theorem iX:x6 bC 7 eL:=by
 rintro ds M R ⟨ps,rs,log,b,rfl,g,D,h⟩;simp only[eL];walk_at"dl";refine⟨ps,rs,log,b,rfl,g,by lia,λn B u H G=>?_⟩;simp only[dj];walk_at"dl";refine⟨ps,rs,log,_,b,rfl,g,by lia,.inl rfl,λhs=>?_⟩;have v:=G.pre<|dL (mo:=MO.lst<|cT log (AA0 "seen") b);have m:(B++[MO.lst<|cT log (AA0 "seen") b])[B.length]?=a7 (.lst<|cT log (AA0 "seen") b):=ad;have C:=H.trans<|dL (mo:=MO.lst<|cT log (AA0 "seen") b);generalize B++[MO.lst<|cT log (AA0 "seen") b]=I at v m C;generalize B.length=qs at m;simp only[dh];walk_at"dl";refine⟨ps,rs,log,rfl,g,D,λE J i z=>?_⟩;have s:=eQ (rs:=rs) g;have O:(ah rs log).length<=1000:=by have h1:=(aw (rs:=rs) (log:=log)).len;have h2:=bo (log:=log) (k:=AA0 "say");have N:(ah rs log).length<=(ag rs log).length:=J2 _ _;lia
 simp only[df];walk_at"dl";refine⟨ps,rs,log,E,ah rs log,rfl,g,by lia,z,λp j=>(s p j).2.1.nm,λt K f g3=>?_⟩;have w:=v.pre<|i.trans f;have o:=be (i.trans f) m;have l:=be f z;have F:=C.trans<|i.trans f;simp only[dc];walk_at"dl";refine⟨_,l,λ_=>?_⟩;refine aF (λe=>!kY log b e) (zS<|aO (ah rs log) log) (λS=>∃a,S=[a,a7<|.ref t,a7<|.str b,a7<|.ref n,a7<|.ref qs]) l _ _ _ ?_ ⟨_,rfl⟩ (by rw[B8,u4];exact ak<|by lia) ?_;rintro e r S ⟨a,rfl⟩;refine⟨[a7 e,a7<|.ref t,a7<|.str b,a7<|.ref n,a7<|.ref qs],⟨_,rfl⟩,λY Z c=>?_⟩;obtain⟨p,j,rfl⟩:=v6.mp r;obtain⟨_,x,y⟩:=s p j;walk_at"dl";refine⟨ps,rs,log,b,p.2,n,qs,u,rfl,g,by lia,x,y,w,o,hs,?_⟩;cases A:kY log b p.2 with
 |true=>rw[A]at c;exact c
 |false=>rw[A]at c;exact⟨ps,rs,p.2,t,_,rfl,x,y,g3,c⟩
 rw[D5];obtain⟨L,rfl⟩:=F;rw[F8];have U:((ah rs log).map (·.2)).filter (λe=>!kY log b e)=cq rs log b:=rfl;rw[U];refine bg.lst h (by simp) (by simp)<|Bels.of λd q=>?_;obtain⟨e,r,rfl⟩:=v6.mp q;obtain⟨p,j,rfl⟩:=v6.mp (A3.mp r).1;exact wz (nj g) (s p j).2.1 (s p j).2.2
theorem jB(T:Tops P w K mg base):u7 P w K mg base 6 "unread_messages" cu bC:=u7.byD (N:=["house","log","name","vectors","seen","says","changes"]) T.b T.f_unread_messages (by walk_at"sc") iI (by have:=ig T;have:=gi T;have:=jD T;have:=jC T;have:=jA T;have:=xu T;walk_at"dv") iX
noncomputable def bQ:v8:=λds M R=>∃(ps:List (c5×Int)) (a:List (c5×List c5)) (k:List (D×D)) (ys:List D) (q p:Nat) (H:D->Bool),ds=[.ref q,.ref p]/\M[q]?=a7 (.dkt k)/\M[p]?=a7 (.lst ys)/\(k.map (·.1)).Nodup/\(∀x∈k,x.1=s9 x.2/\aH ps a x.2/\bp x.2=AA0 "say")/\k.length<1000/\(∀w∈ys,fS w)/\(∀s,D.tup [.str<|AA0 "under",s]∈ys↔H s=a9)/\R (.ref M.length) (M++[.lst<|cQ H k])
theorem kq:cM bQ dw:=by rintro ds M R ⟨ps,a,s,ys,q,p,H,rfl,_⟩;rfl
noncomputable def eM:p9:=bq<|ab 2
noncomputable def eN:p9:=aB (nK (nb<|ab 0) (ao 3)<|A1 (LH (ay<|p7 K3 (fH<|aa (dC<|.str "under")<|aa (ab 3) af)<|ab 1)<|ay<|p7 K3 (r9 cD<|aa (qu (ab 0)<|ab 3) af)<|ab 2) (lq<|K5 cN (ab 2)<|aa (ab 3) af) bf)<|eM
noncomputable def fU:p9:=aB (aT (iV af) 2)<|eN
theorem kW:x6 bQ 4 fU:=by
 rintro ds M R ⟨ps,rs,kvs,ys,q,p,H,rfl,m,Q,nd,N,kl,U,O,h⟩;simp only[fU,eN];walk_at"dl";have ql:=aU m;have pl:=aU Q;refine⟨w5 _,kvs,ac m,λ_=>?_⟩;refine bA (λi S g=>∃a:Option D,g=M++[.lst<|cQ H<|kvs.take i]/\S=[a7<|.ref q,a7<|.ref p,a7<|.ref M.length,a]) ?_ ?_ ⟨_,rfl,rfl⟩;rintro S g ⟨a,rfl,rfl⟩;rw[u4,LA];refine⟨ac m,?_⟩;simp only[eM];walk_at"dl";exact .inl h;rintro i y S g V ⟨a,rfl,rfl⟩ G l;rw[D0]at V;obtain⟨x,J,rfl⟩:=Le.mp V;have hi:=(w6.mp J).1;have Y:kvs.take (i+1)=kvs.take i++[x]:=by rw[Mf,J];rfl
 rw[Y,cZ]at l;have P:=J1 J;obtain⟨ex,C,W⟩:=N x P;have E:∀s∈cQ H (kvs.take i),St s:=λs hs=>by obtain⟨z,hz,rfl⟩:=v6.mp<|mU s hs;obtain⟨e,d,_⟩:=N z<|OI hz;rw[e];exact d.st
 have X:=Aw (H:=H) (kvs:=kvs.take i);rw[G2]at X;generalize cQ H (kvs.take i)=F at l E X;have I:=fy nd P;have c:St x.1:=by rw[ex];exact C.st
 generalize x.2=e at l I C W;generalize x.1=s at l I c;obtain⟨t',f,b,rfl⟩:=c;obtain⟨t,z,k,K,r,u,s,rfl,_,_,_,T⟩:=kL C W;have c:St (.tup [.int t',.tup [.str f,.int b]]):=⟨_,_,_,rfl⟩
 have n:fS (.tup [.str<|AA0 "under",.tup [.int t',.tup [.str f,.int b]]]):=.inr<|.inr ⟨_,_,_,rfl⟩;have uo:∀B,u3 B t8 u=a9:=λB=>by rcases T with rfl|q;rfl;exact q.ok
 have Z:bD (.tup [.int t,.tup [.str z,.int k],.int K,.tup [.str<|AA0 "say",.str r,u,.str s]])=u:=rfl;rw[Z]at l;refine⟨ac m,?_⟩;walk_at"dl";refine⟨ak (by lia),_,.inl<|ac Q,⟨(oT 3 t8 _ (by decide) n.pl).1,pp U⟩,?_⟩;rw[qg n U];have w:(M++[MO.lst F])[M.length]?=a7 (.lst F):=ad;have j:(∀L g,(∃a:Option D,g=M++[.lst<|F++[.tup [.int t',.tup [.str f,.int b]]]]/\L=[a7<|.ref q,a7<|.ref p,a7<|.ref M.length,a])->G L g)->∃xs,(M++[MO.lst F])[M.length]?=a7 (.lst xs)/\xs.length<sizeLine/\A9 (M++[MO.lst []]) G [a7<|.ref q,a7<|.ref p,a7<|.ref M.length,a7<|.tup [.int t',.tup [.str f,.int b]]] ((M++[MO.lst F]).set M.length<|MO.lst<|xs++[.tup [.int t',.tup [.str f,.int b]]]):=λl=>by refine⟨F,w,aL (by lia),?_⟩;rw[mj];exact A9.now<|l _ _ ⟨_,rfl,rfl⟩
 by_cases o:D.tup [.str<|AA0 "under",.tup [.int t',.tup [.str f,.int b]]]∈ys;rw[dT_ o];rw[(O _).mp o,Bool.true_or,n5 rfl]at l;exact bH ⟨⟨_,.inl w⟩,j l⟩;rw[dF_ o];have A:H (.tup [.int t',.tup [.str f,.int b]])=bt:=KD.mpr λz=>o<|(O _).mpr z;rw[A,Bool.false_or]at l;refine bE ⟨_,_,ac m,rfl,I,_,_,_,_,_,_,_,rfl,_,.inl w,⟨uo _,oQ E⟩,?_⟩;rw[Jf T E];by_cases v:u∈F;rw[dT_ v];rw[dT_ v,n5 rfl]at l;exact bH ⟨⟨_,.inl w⟩,j l⟩;rw[dF_ v];rw[dF_ v,n6<|by decide]at l;exact bE<|A9.now<|l _ _ ⟨_,rfl,rfl⟩
theorem kZ(T:Tops P w K mg base):u7 P w K mg base 2 "stamps_hushed" dw bQ:=u7.byD (N:=["says","hushes","hushed","stamp"]) T.b T.f_stamps_hushed (by walk_at"sc") kq (by have:=iD T;walk_at"dv") kW
noncomputable def dR:v8:=λds M R=>∃(ps:List (c5×Int)) (a:List (c5×List c5)) (s:List (D×D)) (q:Nat) (e:c5),ds=[.ref q,.str e]/\M[q]?=a7 (.dkt s)/\(s.map (·.1)).Nodup/\(∀x∈s,x.1=s9 x.2/\aH ps a x.2)/\s.length<1000/\R (.ref M.length) (M++[.lst<|nB s e])
theorem pX:cM dR iw:=by rintro ds M R ⟨ps,a,s,q,e,rfl,_⟩;rfl
noncomputable def lK:p9:=bq<|D2 1 [0,1] (nb<|ab 0) (ao 0) (ay<|p7 x9 (r9 aQ<|aa (qu (ab 1)<|ab 0) af)<|ab 2)<|ab 0
theorem qE:x6 dR 2 lK:=by
 rintro ds M R ⟨ps,r,d,q,n,rfl,i,p,l,v,h⟩;simp only[lK];walk_at"dl";refine⟨d,i,λ_=>?_⟩;refine aF (λs=>decide<|ba ((aX d s).getD .non)=n) id (λS=>∃a,S=[a,a7<|.ref q,a7<|.str n]) i _ _ _ ?_ ⟨_,rfl⟩ (by rw[B8,u4];exact ak<|by lia) ?_;rintro y O S ⟨a,rfl⟩;obtain⟨x,j,rfl⟩:=v6.mp O;obtain⟨m,f⟩:=l x j;have g:=fy p j;have c:St x.1:=by rw[m];exact f.st
 refine⟨[a7 x.1,a7<|.ref q,a7<|.str n],⟨_,rfl⟩,λY Z b=>?_⟩;rw[g]at b;generalize x.2=e at g f b;generalize x.1=s at g c b;obtain⟨t',G,H,rfl⟩:=c;obtain⟨t,z,k,o,w,ds,rfl,_⟩:=f;walk_at"dl";refine⟨_,_,i,rfl,g,_,_,_,_,rfl,⟨ar,ar⟩,?_⟩;rw[aN];have b:if decide (z=n)=a9 then Y (.tup [.int t',.tup [.str G,.int H]]) [a7<|.tup [.int t',.tup [.str G,.int H]],a7<|.ref q,a7<|.str n] M else Z [a7<|.tup [.int t',.tup [.str G,.int H]],a7<|.ref q,a7<|.str n] M:=b
 by_cases e:z=n;rw[beq_iff_eq.mpr e];rw[dT_ e]at b;exact b;rw[beq_eq_false_iff_ne.mpr e];rw[dF_ e]at b;exact b;rw[D5,Lv];exact .inl h
theorem rZ(T:Tops P w K mg base):u7 P w K mg base 2 "stamps_by" iw dR:=u7.byD (N:=["says","name"]) T.b T.f_stamps_by (by walk_at"sc") pX (by have:=bV T;walk_at"dv") qE
noncomputable def fN:v8:=λds M R=>∃(s u v w:D) (r z:c5) (a:List c5) (g ys:List D) (c j k:Nat),ds=[.tup [s,.str r,u,.str z,v,w],.ref c,.ref j,.ref k]/\M[c]?=a7 (.lst<|a.map .str)/\M[j]?=a7 (.lst g)/\M[k]?=a7 (.lst ys)/\St s/\(∀x∈g,St x)/\(∀x∈ys,fS x)/\R (.bl<|decide (r∈a)&&(!decide (s∈g) && !decide (D.tup [.str<|AA0 "person",.str z]∈ys))) M
theorem sL:cM fN kj:=by rintro ds M R ⟨s,u,v,w,r,z,a,g,ys,c,j,k,rfl,_⟩;rfl
noncomputable def oG:p9:=bq<|nL (p7 K3 (p7 u5 (ab 0)<|dC<|.int 1)<|ab 1)<|nL (p7 kN (p7 u5 (ab 0)<|dC<|.int 0)<|ab 2)<|p7 kN (fH<|aa (dC<|.str "person")<|aa (p7 u5 (ab 0)<|dC<|.int 3) af)<|ab 3
theorem tU:x6 fN 4 oG:=by
 rintro ds M R ⟨s,u,v,w,r,z,a,g,ys,q,j,k,rfl,g1,c,g3,hs,i,b,h⟩;have p:fS (.tup [.str<|AA0 "person",.str z]):=.inr<|.inl ⟨_,rfl⟩;simp only[oG];walk_at"dl";refine⟨_,.inl g1,⟨ar,jU⟩,?_⟩;rw[ku];cases t:decide (r∈a) with
 |false=>rw[t]at h;exact bg.now h
 |true =>
  rw[t,Bool.true_and]at h;show ∃xs,ax M j xs/\_;refine⟨_,.inl c,⟨hs.ok,oQ i⟩,?_⟩;rw[wJ hs i];cases l:decide (s∈g) with
  |true=>rw[l]at h;exact bg.now h
  |false=>rw[l]at h;show 2<=sizeLine/\∃xs,ax M k xs/\_;refine⟨ak (by lia),_,.inl g3,⟨(oT 3 t8 _ (by decide) p.pl).1,pp b⟩,?_⟩;rw[qg p b];rw[show (!bt && !decide (D.tup [.str<|AA0 "person",.str z]∈ys))=(decide (D.tup [.str<|AA0 "person",.str z]∈ys) != a9) by cases decide (D.tup [.str<|AA0 "person",.str z]∈ys)<;>rfl]at h;exact bg.now h
theorem ux(T:Tops P w K mg base):u7 P w K mg base 1 "can_ring" kj fN:=u7.byD (N:=["message","rooms","rung","hushes"]) T.b T.f_can_ring (by walk_at"sc") sL (by walk_at"dv") tU
noncomputable def jM:v8:=λds M R=>∃(a b u d w:D) (s e:c5) (n:List D) (q:Nat) (quiet:Bool),ds=[.tup [a,b,u,d,.str s,w],.str e,.ref q,.bl quiet]/\M[q]?=a7 (.lst n)/\(∀x∈n,St x)/\(u=.non\/St u)/\s.length<=100/\e.length<=100/\R (if dP (.str s) e=a9 then .str (AA0 "named")else if u∈n then .str (AA0 "answered")else if quiet=a9 then .non else .str (AA0 "heard")) M
theorem xG:cM jM pN:=by rintro ds M R ⟨a,b,u,d,w,s,e,n,q,quiet,rfl,_⟩;rfl
noncomputable def nO:p9:=bq<|dIfE (ay<|ab 3) (dC .non)<|dC<|.str "heard"
noncomputable def nQ:p9:=aB (A1 (ay<|p7 K3 (p7 u5 (ab 0)<|dC<|.int 2)<|ab 2) (bq<|dC<|.str "answered") bf)<|nO
noncomputable def vA:p9:=aB (A1 (ay<|r9 fM<|aa (p7 u5 (ab 0)<|dC<|.int 4)<|aa (ab 1) af) (bq<|dC<|.str "named") bf)<|nQ
theorem yn:x6 jM 4 vA:=by
 rintro ds M R ⟨a,b,u,d,w,s,e,n,q,quiet,rfl,g,B,c,hs,f,h⟩;have o:u3 M t8 u=a9:=by rcases c with rfl|q;rfl;exact q.ok
 have I:atI [a,b,u,d,.str s,w] 4=a7 (.str s):=aA (j:=4) rfl;simp only[vA];walk_at"dl";rw[I];refine⟨s,e,rfl,hs,f,?_⟩;cases t:dP (.str s) e with
 |true=>rw[t,n5 rfl]at h;exact bH<|bg.now h
 |false =>
  rw[t,n6<|by decide]at h;refine bE ?_;simp only[nQ];walk_at"dl";refine⟨_,.inl g,⟨o,oQ B⟩,?_⟩;rw[Jf c B];by_cases l:u∈n;rw[dT_ l];rw[n5 l]at h;exact bH<|bg.now h;rw[dF_ l];rw[n6 l]at h;refine bE ?_;simp only[nO];walk_at"dl";cases quiet with
  |true=>rw[n5 rfl]at h;exact bH<|bg.now h
  |false=>rw[n6<|by decide]at h;exact bE<|bg.now h
theorem zH(T:Tops P w K mg base):u7 P w K mg base 4 "why_of" pN jM:=u7.byD (N:=["message","name","own","quiet"]) T.b T.f_why_of (by walk_at"sc") xG (by have:=uw T;walk_at"dv") yn
noncomputable def bX:v8:=λds M R=>∃(ps:List (c5×Int)) (a:List (c5×List c5)) (g:List D) (e:c5),ds=[aG ps a,.tup g,.str e]/\(∀d∈g,aH ps a d)/\g.length<64/\a.length<=4/\e.length<=100/\R (.ref M.length) (M++[.lst<|aZ a g e])
theorem qd:cM bX iC:=by rintro ds M R ⟨ps,a,g,e,rfl,_⟩;rfl
theorem wj(h:∀d∈log,aH ps rs d)(n:aH ps rs e)(A:bp e=AA0 "say"):∃s:c5,Bn rs log e=.str s/\s.length<=100:=by
 unfold Bn;cases S:aX (aO (ah rs log) log) (s9 e) with
 |none=>exact EB n A
 |some v=>obtain⟨d,m,t⟩:=v6.mp<|pc _<|cy S;obtain⟨h1,h2⟩:=aV (A3.mp m).1;have:=yc (h d h1) h2;injection t with _ e2;rw[<-e2];exact this
noncomputable def ib:p9:=bq<|ab 9
noncomputable def ji:p9:=A1 (Bp (ay<|p7 rW (ab 12)<|dC .non)<|ay<|r9 fN<|aa (ab 10)<|aa (ab 3)<|aa (ab 4)<|aa (ab 5) af) (lq<|K5 cN (ab 9)<|aa (fH<|aa (p7 u5 (ab 10)<|dC<|.int 0)<|aa (ab 12) af) af) bf
noncomputable def ff:p9:=aB (aT (r9 jM<|aa (ab 10)<|aa (ab 2)<|aa (ab 7)<|aa (ab 11) af) 12)<|ji
noncomputable def jk:p9:=aB (nK (bI<|r9 bC<|aa (ab 0)<|aa (ab 1)<|aa (ab 2) af) (ao 10)<|aB (aT (JX (p7 K3 (fH<|aa (dC<|.str "room")<|aa (p7 u5 (ab 10)<|dC<|.int 1) af)<|ab 5)<|p7 K3 (p7 u5 (ab 10)<|dC<|.int 0)<|ab 8) 11)<|ff)<|ib
noncomputable def jm:p9:=aB (aT (iV af) 9)<|jk
noncomputable def jn:p9:=aB (aT (r9 bQ<|aa (ab 6)<|aa (ab 5) af) 8)<|jm
noncomputable def jo:p9:=aB (aT (r9 dR<|aa (ab 6)<|aa (ab 2) af) 7)<|jn
noncomputable def jp:p9:=aB (aT (r9 bd<|aa (ab 0)<|aa (ab 1) af) 6)<|jo
noncomputable def jq:p9:=aB (aT (r9 dW<|aa (ab 1)<|aa (ab 2) af) 5)<|jp
noncomputable def jr:p9:=aB (aT (r9 bO<|aa (ab 1)<|aa (dC<|.str "rung")<|aa (ab 2) af) 4)<|jq
noncomputable def ma:p9:=aB (aT (r9 fK<|aa (ab 0)<|aa (ab 2) af) 3)<|jr
theorem qK:x6 bX 13 ma:=by
 rintro ds M R ⟨ps,rs,log,n,rfl,I,hl,rl,nl,h⟩;have A:=aw (rs:=rs) (log:=log);have hv:=lA I (λ_ q=>q) A;have kl:=bo (log:=log) (k:=AA0 "say");have tl:=A.len;have sv:=eQ (rs:=rs) I;simp only[ma];walk_at"dl";refine⟨ps,rs,n,rfl,by lia,?_⟩;have g3:(M++[MO.lst<|(bF rs n).map .str])[M.length]?=a7 (.lst<|(bF rs n).map .str):=ad;have H:M <+: M++[MO.lst<|(bF rs n).map .str]:=dL;generalize M++[MO.lst<|(bF rs n).map .str]=B1 at g3 H;generalize M.length=q3 at g3;simp only[jr];walk_at"dl";refine⟨ps,rs,log,_,n,rfl,I,by lia,.inr rfl,λbn=>?_⟩;have g:(B1++[MO.lst<|cT log (AA0 "rung") n])[B1.length]?=a7 (.lst<|cT log (AA0 "rung") n):=ad;replace g3:=ac (a:=MO.lst<|cT log (AA0 "rung") n) g3;replace H:=H.trans<|dL (mo:=MO.lst<|cT log (AA0 "rung") n);dsimp only;generalize B1++[MO.lst<|cT log (AA0 "rung") n]=B2 at g3 g H;generalize B1.length=q4 at g;simp only[jq];walk_at"dl";refine⟨ps,rs,log,n,rfl,I,Nat.lt_of_le_of_lt gj hl,by lia,λys hw hy=>?_⟩;have l:(B2++[MO.lst ys])[B2.length]?=a7 (.lst ys):=ad;replace g3:=ac (a:=MO.lst ys) g3;replace g:=ac (a:=MO.lst ys) g;replace H:=H.trans<|dL (mo:=MO.lst ys);dsimp only;generalize B2++[MO.lst ys]=B3 at g3 g l H;generalize B2.length=O at l;have K:∀w,decide (w∈ys)=eX log n w:=λw=>decide_eq_decide.mpr<|hy w;simp only[jp];walk_at"dl";refine⟨ps,rs,log,rfl,I,by lia,λP B4 p4 T=>?_⟩;replace g3:=be p4 g3;replace g:=be p4 g;replace l:=be p4 l;replace H:=H.trans p4;dsimp only;simp only[jo];walk_at"dl";refine⟨ps,rs,ag rs log,P,n,rfl,T,A.nd,λx f=>⟨(A.en x f).1,(hv x f).1⟩,by lia,?_⟩;have ow:∀x∈nB (ag rs log) n,St x:=λx f=>by obtain⟨p,v,rfl⟩:=v6.mp (A3.mp f).1;rw[(A.en p v).1];exact(hv p v).1.st
 have N:(B4++[MO.lst<|nB (ag rs log) n])[B4.length]?=a7 (.lst<|nB (ag rs log) n):=ad;replace g3:=ac (a:=MO.lst<|nB (ag rs log) n) g3;replace g:=ac (a:=MO.lst<|nB (ag rs log) n) g;replace l:=ac (a:=MO.lst<|nB (ag rs log) n) l;replace T:=ac (a:=MO.lst<|nB (ag rs log) n) T;replace H:=H.trans<|dL (mo:=MO.lst<|nB (ag rs log) n);generalize B4++[MO.lst<|nB (ag rs log) n]=B5 at g3 g l T N H;generalize B4.length=q7 at N;simp only[jn];walk_at"dl";refine⟨ps,rs,ag rs log,ys,P,O,λs=>eX log n<|.tup [.str<|AA0 "under",s],rfl,T,l,A.nd,λx f=>⟨(A.en x f).1,hv x f⟩,by lia,hw,λs=>(by show _↔eX log n _=a9;rw[<-K,o4]),?_⟩;generalize hF:cQ (λs=>eX log n<|.tup [.str<|AA0 "under",s]) (ag rs log)=F;have W:∀x∈F,St x:=λx f=>by rw[<-hF]at f;obtain⟨p,v,rfl⟩:=v6.mp<|mU x f;rw[(A.en p v).1];exact(hv p v).1.st
 have g8:(B5++[MO.lst F])[B5.length]?=a7 (.lst F):=ad;replace g3:=ac (a:=MO.lst F) g3;replace g:=ac (a:=MO.lst F) g;replace l:=ac (a:=MO.lst F) l;replace N:=ac (a:=MO.lst F) N;replace H:=H.trans<|dL (mo:=MO.lst F);generalize B5++[MO.lst F]=B at g3 g l N g8 H;generalize B5.length=q8 at g8;simp only[jm];walk_at"dl";refine⟨w5 _,?_⟩;simp only[jk];walk_at"dl";refine⟨ps,rs,log,n,rfl,I,hl,?_⟩;generalize hU:(cq rs log n).map (zS<|aO (ah rs log) log)=U;have ul:U.length<=1000:=by rw[<-hU,u4];refine B9 (J2 _ _) ?_;rw[u4];have:(ah rs log).length<=(ag rs log).length:=J2 _ _;lia
 have g9:(B++[MO.lst []]++[MO.lst U])[B.length]?=a7 (.lst []):=ac ad;have C:(B++[MO.lst []]++[MO.lst U])[(B++[MO.lst []]).length]?=a7 (.lst U):=ad;have al:(B++[MO.lst []]).length=B.length+1:=by simp
 rw[al]at C ⊢;refine⟨_,.inl C,λ_=>?_⟩;have bl:∀i,(((cq rs log n).take i).filterMap<|lr rs log n).length<=i:=λi=>by refine B9 (List.length_filterMap_le _ _) ?_;rw[G2];lia
 refine bA (λi S j=>∃(a b c:Option D),B <+: j/\j[B.length]?=a7 (.lst<|((cq rs log n).take i).filterMap<|lr rs log n)/\j[B.length+1]?=a7 (.lst U)/\S=[a7<|aG ps rs,a7<|.tup log,a7<|.str n,a7<|.ref q3,a7<|.ref q4,a7<|.ref O,a7<|.ref P,a7<|.ref q7,a7<|.ref q8,a7<|.ref B.length,a,b,c]) ?_ ?_ ⟨_,_,_,dL.trans dL,g9,C,rfl⟩;rintro S j ⟨a,b,c,pM,m,V,rfl⟩;have eU:U.length=(cq rs log n).length:=by rw[<-hU,u4]
 rw[eU,LA]at m;refine⟨.inl V,?_⟩;simp only[ib];walk_at"dl";obtain⟨L,rfl⟩:∃L,B=M++L:=by obtain⟨L,e⟩:=H;exact⟨L,e.symm⟩
 have ed:(cq rs log n).filterMap (lr rs log n)=aZ rs log n:=rfl;rw[ed]at m;refine bg.chgL .refl h (by simp) m ((F9 _ _).trans pM)<|Bels.of λd bm=>?_;obtain⟨e,Y,eo⟩:=Ml.mp bm;unfold lr at eo;split at eo;obtain⟨w,_,rfl⟩:=Le.mp eo;obtain⟨p,v,rfl⟩:=v6.mp (A3.mp Y).1;exact .tup<|.cons (bG 2 _ (sv p v).2.1.st.pl)<|.cons (.str _) .nil;cases eo;rintro i y S j hy ⟨a,b,c,pM,m,V,rfl⟩ G hG;rw[<-hU,D0]at hy;obtain⟨e,Y,rfl⟩:=Le.mp hy;have et:(cq rs log n).take (i+1)=(cq rs log n).take i++[e]:=by rw[Mf,Y];rfl
 have hi:=(w6.mp Y).1;rw[et,List.filterMap_append]at hG;have an:=bl i;obtain⟨p,v,ep⟩:=v6.mp (A3.mp<|J1 Y).1;obtain⟨_,de,ke⟩:=sv p v;have ep:p.2=e:=ep;rw[ep]at de ke;generalize ((cq rs log n).take i).filterMap (lr rs log n)=bs at m hG an;have il:i<1000:=by rw[<-hU,u4]at ul;lia
 have aD:=be pM g3;have aP:=be pM g;have Q:=be pM l;have aS:=be pM N;have bk:=be pM g8;refine⟨.inl V,?_⟩;obtain⟨s,es,sl⟩:=wj I de ke;have em:zS (aO (ah rs log) log) e=.tup [s9 e,.str<|aR e,bD e,.str<|ba e,.str s,.bl (aX (aO (ah rs log) log)<|s9 e).isSome]:=by rw[<-es];rfl
 have J:=de.st;have hu:bD e=.non\/St (bD e):=by obtain⟨t,z,k,bw,r,u,s,rfl,_,_,_,hu⟩:=kL de ke;exact hu
 have ai:fS (.tup [.str<|AA0 "room",.str<|aR e]):=.inl ⟨_,rfl⟩;have o:lr rs log n e=(if zj rs log n e=a9 then(Bv rs log n e).map λw=>.tup [s9 e,.str w]else a8):=rfl;have as:Bv rs log n e=(if dP (.str s) n=a9 then a7 (AA0 "named")else if bD e∈nB (ag rs log) n then a7 (AA0 "answered")else if (eX log n (.tup [.str<|AA0 "room",.str<|aR e])||decide (s9 e∈F))=a9 then a8 else a7 (AA0 "heard")):=by unfold Bv;rw[es,hF]
 have aj:∀(E:DEnds) (quiet:Bool),E.nx=A9 (B++[MO.lst []]++[MO.lst U]) G->quiet=(eX log n (.tup [.str<|AA0 "room",.str<|aR e])||decide (s9 e∈F))->ff E [a7<|aG ps rs,a7<|.tup log,a7<|.str n,a7<|.ref q3,a7<|.ref q4,a7<|.ref O,a7<|.ref P,a7<|.ref q7,a7<|.ref q8,a7<|.ref B.length,a7<|.tup [s9 e,.str<|aR e,bD e,.str<|ba e,.str s,.bl (aX (aO (ah rs log) log)<|s9 e).isSome],a7<|.bl quiet,c] j:=λE quiet eE eq=>by
  have ev:(if dP (.str s) n=a9 then D.str (AA0 "named")else if bD e∈nB (ag rs log) n then .str (AA0 "answered")else if quiet=a9 then .non else .str (AA0 "heard"))=(match Bv rs log n e with|some w=>.str w|none=>.non):=by rw[as,eq];by_cases c1:dP (.str s) n=a9;rw[n5 c1,n5 c1];rw[n6 c1,n6 c1];by_cases c2:bD e∈nB (ag rs log) n;rw[n5 c2,n5 c2];rw[n6 c2,n6 c2];by_cases c3:(eX log n (.tup [.str<|AA0 "room",.str<|aR e])||decide (s9 e∈F))=a9;rw[n5 c3,n5 c3];rw[n6 c3,n6 c3]
  have e4:E.nx [a7<|aG ps rs,a7<|.tup log,a7<|.str n,a7<|.ref q3,a7<|.ref q4,a7<|.ref O,a7<|.ref P,a7<|.ref q7,a7<|.ref q8,a7<|.ref B.length,a7<|.tup [s9 e,.str<|aR e,bD e,.str<|ba e,.str s,.bl (aX (aO (ah rs log) log)<|s9 e).isSome],a7<|.bl quiet,a7 (match Bv rs log n e with|some w=>.str w|none=>.non)] (j.set B.length<|.lst<|bs++List.filterMap (lr rs log n) [e]):=by rw[eE];exact A9.now<|hG _ _ ⟨_,_,_,du pM<|u6 _,dD m,az (by lia) V,rfl⟩
  have no:lr rs log n e=a8->E.nx [a7<|aG ps rs,a7<|.tup log,a7<|.str n,a7<|.ref q3,a7<|.ref q4,a7<|.ref O,a7<|.ref P,a7<|.ref q7,a7<|.ref q8,a7<|.ref B.length,a7<|.tup [s9 e,.str<|aR e,bD e,.str<|ba e,.str s,.bl (aX (aO (ah rs log) log)<|s9 e).isSome],a7<|.bl quiet,a7 (match Bv rs log n e with|some w=>.str w|none=>.non)] j:=λz=>by rw[eE];refine A9.now<|hG _ _ ⟨_,_,_,pM,?_,V,rfl⟩;rw[KG,z,List.filterMap_nil,I9];exact m
  simp only[ff];walk_at"dl";refine⟨_,_,_,_,_,s,n,nB (ag rs log) n,q7,quiet,rfl,aS,ow,hu,sl,nl,?_⟩;rw[ev];simp only[ji];cases Z:Bv rs log n e with
  |none=>rw[Z]at no o;walk_at"dl";refine no ?_;rw[o];split<;>rfl
  |some w =>
   rw[Z]at no o e4;walk_at"dl";refine⟨_,_,_,_,_,_,bF rs n,cT log (AA0 "rung") n,ys,q3,q4,O,rfl,aD,aP,Q,J,bn,hw,?_⟩;have er:(decide (aR e∈bF rs n)&&(!decide (s9 e∈cT log (AA0 "rung") n) && !decide (D.tup [.str<|AA0 "person",.str<|ba e]∈ys)))=zj rs log n e:=by rw[K];rfl
   rw[er];cases hb:zj rs log n e with
   |false=>rw[hb,n6<|by decide]at o;exact bE<|no o
   |true=>rw[hb,n5 rfl]at o;refine bH ⟨⟨_,.inl m⟩,ak (by lia),_,m,aL (by lia),?_⟩;rw[KG,o,List.filterMap_nil]at e4;exact e4
 rw[em];walk_at"dl";refine⟨ak (by lia),_,.inl Q,⟨(oT 3 t8 _ (by decide) ai.pl).1,pp hw⟩,?_⟩;rw[qg ai hw,K];cases X:eX log n (.tup [.str<|AA0 "room",.str<|aR e]) with
 |true=>exact aj _ a9 rfl<|by rw[X];rfl
 |false=>show ∃xs,ax j q8 xs/\_;refine⟨_,.inl bk,⟨J.ok,oQ W⟩,?_⟩;rw[wJ J W];exact aj _ _ rfl<|by rw[X];cases decide (s9 e∈F)<;>rfl
theorem kO(T:Tops P w K mg base):u7 P w K mg base 7 "bells_for" iC bX:=u7.byD (N:=["house","log","name","rooms","rung","hushes","says","own","hushed","bells","message","quiet","why"]) T.b T.f_bells_for (by walk_at"sc") qd (by have:=uu T;have:=ig T;have:=sj T;have:=dN T;have:=jB T;have:=kZ T;have:=rZ T;have:=ux T;have:=zH T;walk_at"dv") qK
noncomputable def Ej(ns:List Int)(k:Nat):Int:=ns.getD k 0
noncomputable def eY:v8:=λds M R=>∃(n:Nat) (ns:List Int) (k:Nat),ds=[.ref n,.int k]/\ax M n (ns.map D.int)/\R (.int<|Ej ns k) M
theorem uJ:cM eY mG:=by rintro ds M R ⟨n,ns,k,rfl,_⟩;rfl
noncomputable def lY:p9:=bq<|dC<|.int 0
noncomputable def rJ:p9:=aB (A1 (ay<|p7 LG (ab 1)<|r9 iT<|aa (ab 0) af) (bq<|p7 u5 (ab 0)<|ab 1) bf)<|lY
theorem wZ:x6 eY 2 rJ:=by rintro ds M R ⟨n,ns,k,rfl,L,h⟩;simp only[rJ,lY];walk_at"dl";refine⟨_,L,?_⟩;unfold Ej at h;by_cases a:k<ns.length;rw[dT_<|by simpa using a];refine bH ⟨_,L,?_⟩;rw[aA (v:=.int ns[k])<|by rw[D0,v9 a];rfl];rw[J3,v9 a]at h;exact bg.now h;rw[dF_<|by simpa using a];rw[J3,LF<|by lia]at h;exact bE<|bg.now h
theorem xv(T:Tops P w K mg base):u7 P w K mg base 1 "_law_cell_at" mG eY:=u7.byD (N:=["_law_script","_law_k"]) T.b T.f_cell_at (by walk_at"sc") uJ (by walk_at"dv") wZ
noncomputable def dI:v8:=λds M R=>∃(c:Int),ds=[.int c]/\∀n:Int,R (.ref M.length)<|M++[.lst [.int n]]
theorem xJ:cM dI pQ:=by rintro ds M R ⟨c,rfl,_⟩;rfl
noncomputable def ou:p9:=bq<|iV<|aa (ab 3) af
noncomputable def ox:p9:=aT (p7 aW (p7 pH (ab 3)<|dC<|.int 2147483587)<|p7 zq (p7 pH (ab 5)<|dC<|.int 69621)<|dC<|.int 2147483587) 3
noncomputable def oy:p9:=aB (aT (p7 zq (p7 pH (ab 2)<|ab 2)<|dC<|.int 2147483629) 5)<|ox
noncomputable def oz:p9:=aB (nK (eH<|aa (dC<|.int 16) af) (ao 4)<|aB (aT (p7 zq (p7 aW (p7 aW (p7 pH (ab 2)<|dC<|.int 48271)<|p7 pH (dC<|.int 7919)<|ab 4)<|dC<|.int 11)<|dC<|.int 2147483647) 2)<|oy)<|ou
noncomputable def oA:p9:=aB (aT (dC<|.int 0) 3)<|oz
noncomputable def oB:p9:=aB (aT (p7 zq (ab 1)<|dC<|.int 2147483647) 2)<|oA
noncomputable def oE:p9:=aB (A1 (ay<|p7 x9 (p7 zq (ab 0)<|dC<|.int 2)<|dC<|.int 0) (bq<|iV<|aa (ab 1) af) bf)<|oB
noncomputable def vW:p9:=aB (aT (p7 ug (ab 0)<|dC<|.int 2) 1)<|oE
theorem yq:x6 dI 6 vW:=by
 rintro ds M R ⟨c,rfl,h⟩;simp only[vW,oE];walk_at"dl";refine⟨⟨by decide,by decide⟩,by decide,⟨rfl,rfl⟩,?_⟩;generalize g:t4 M t8 (.int<|c % 2) (.int 0)=b;cases b with
 |true=>exact bH ⟨ak (by lia),.inl<|h _⟩
 |false=>refine bE ?_;simp only[oB,oA,oz];walk_at"dl";have U:=wA (a:=c / 2) (b:=2147483647) (by decide);have r:=wB (a:=c / 2) (b:=2147483647) (by decide);refine⟨by decide,⟨by decide,by decide⟩,?_⟩;refine bA (λi S d=>d=M/\∃(u e:Int) (a b:Option D),0<=u/\u<2147483647/\S=[a7<|.int c,a7<|.int<|c / 2,a7<|.int u,a7<|.int e,a,b]) ?_ ?_ ⟨rfl,_,_,_,_,U,r,rfl⟩;rintro S d ⟨rfl,u,e,a,b,_,_,rfl⟩;refine⟨trivial,?_⟩;simp only[ou];walk_at"dl";exact⟨ak (by lia),.inl<|h _⟩;rintro i y S d O ⟨rfl,u,e,a,b,n,j,rfl⟩ G l;obtain⟨hi,rfl⟩:=fi.mp O;refine⟨trivial,?_⟩;walk_at"dl";refine⟨.inr ⟨by decide,by decide⟩,.inl ⟨by decide,by decide⟩,by decide,?_⟩;have f:=wA (a:=u*48271+7919*(0+(i:Int))+11) (b:=2147483647) (by decide);have F:=wB (a:=u*48271+7919*(0+(i:Int))+11) (b:=2147483647) (by decide);generalize (u*48271+7919*(0+(i:Int))+11) % 2147483647=v at f F;simp only[oy,ox];walk_at"dl";refine⟨.inl ⟨by lia,by lia⟩,by decide,.inr ⟨by decide,by decide⟩,.inr ⟨by decide,by decide⟩,by decide,?_⟩;exact A9.now<|l _ _ ⟨rfl,_,_,_,_,f,F,rfl⟩
theorem mK(T:Tops P w K mg base):u7 P w K mg base 1 "_law_digits" pQ dI:=u7.byD (N:=["_law_cell","_law_rest","_law_number","_law_total","_law_k","_law_other"]) T.b T.f_digits (by walk_at"sc") xJ (by walk_at"dv") yq
noncomputable def aq:v8:=λds M R=>∃(q:Nat) (m:Int),ds=[.ref q,.int m]/\H9 M q/\0<m/\m<100000000000/\∀i n:Int,0<=i->i<m->R (.int i) (M.set q<|.lst [.int n])
theorem Cr:cM aq zB:=by rintro ds M R ⟨q,m,rfl,_⟩;rfl
noncomputable def vF:p9:=bq<|ab 2
noncomputable def vG:p9:=aB (dAsg (p7 ug (p7 u5 (ab 0)<|dC<|.int 0)<|ab 1)<|Dj (ab 0)<|dC<|.int 0)<|vF
noncomputable def DB:p9:=aB (aT (p7 zq (p7 u5 (ab 0)<|dC<|.int 0)<|ab 1) 2)<|vG
theorem Em:x6 aq 3 DB:=by rintro ds M R ⟨q,m,rfl,⟨n,b⟩,a,V,h⟩;simp only[DB,vG,vF];walk_at"dl";refine⟨_,.inl b,?_⟩;rw[LZ];refine⟨a,_,.inl b,?_⟩;rw[LZ];exact⟨⟨a,by lia⟩,_,0,b,rfl,.inl<|h _ _ (wA a)<|wB a⟩
theorem dB(T:Tops P w K mg base):u7 P w K mg base 1 "_law_take" zB aq:=u7.byD (N:=["_law_held","_law_many","_law_digit"]) T.b T.f_take (by walk_at"sc") Cr (by walk_at"dv") Em
noncomputable def kC:v8:=λds M R=>∃(q:Nat),ds=[.ref q]/\H9 M q/\∀(z:c5) (n:Int),z.length<=8->eI z->R (.str z) (M.set q<|.lst [.int n])
theorem Ct:cM kC zD:=by rintro ds M R ⟨q,rfl,_⟩;rfl
theorem vc:∀c∈(AA0 "abcdefghijklmnopqrstuvwxyz").cps.toList,97<=c/\c<=122:=by decide +kernel
theorem eI.nil:eI (AA0 ""):=λc f=>by rw[show (AA0 "").cps.toList=[] by decide +kernel]at f;cases f
noncomputable def vL:p9:=bq<|ab 2
noncomputable def vM:p9:=aB (nK (eH<|aa (p7 aW (dC<|.int 1)<|r9 aq<|aa (ab 0)<|aa (dC<|.int 8) af) af) (ao 3)<|aT (p7 aW (ab 2)<|p7 u5 (ab 1)<|r9 aq<|aa (ab 0)<|aa (dC<|.int 26) af) 2)<|vL
noncomputable def vN:p9:=aB (aT (dC<|.str "") 2)<|vM
noncomputable def DF:p9:=aB (aT (dC<|.str "abcdefghijklmnopqrstuvwxyz") 1)<|vN
theorem Eo:x6 kC 4 DF:=by
 rintro ds M R ⟨q,rfl,e,h⟩;have l:=e.lt;simp only[DF,vN,vM];walk_at"dl";refine⟨q,8,rfl,e,by decide,by decide,λi n x A=>?_⟩;have m:=e.start.set (n:=n) l;generalize M.set q (.lst [.int n])=B at m;walk_at"dl";refine⟨⟨by lia,by lia⟩,?_⟩;refine bA (λj S b=>Hl M b q/\∃(z:c5) (a:Option D),z.length=j/\eI z/\S=[a7<|.ref q,a7<|.str<|AA0 "abcdefghijklmnopqrstuvwxyz",a7<|.str z,a]) ?_ ?_ ⟨m,AA0 "",_,by decide +kernel,.nil,rfl⟩;rintro S b ⟨g,z,a,f,s,rfl⟩;refine⟨trivial,?_⟩;simp only[vL];walk_at"dl";rw[fh]at f;exact g.fin (.str _) λn=>h z n (by lia) s;rintro j y S b O ⟨g,z,a,f,s,rfl⟩ G p;have L:=(fi.mp O).1;refine⟨trivial,?_⟩;walk_at"dl";refine⟨q,26,rfl,g.hd l,by decide,by decide,λk n v w=>?_⟩;have g1:=g.set (n:=n) l;generalize b.set q (.lst [.int n])=I at g1;walk_at"dl";have t:(AA0 "abcdefghijklmnopqrstuvwxyz").cps.toList.length=26:=by decide +kernel
 have u:(AA0 "abcdefghijklmnopqrstuvwxyz").length=26:=by decide +kernel
 obtain⟨E,d,C,_⟩:=dF (xs:=(AA0 "abcdefghijklmnopqrstuvwxyz").cps.toList) v (by rw[t];exact w);refine⟨by rw[u];exact ak (by lia),?_⟩;rw[C];have o:∀c:Nat,(⟨#[c]⟩:c5).length=1:=λ_=>rfl;refine⟨by rw[o];exact ak (by lia),A9.now<|p _ _ ⟨g1,_,_,?_,s.app λc r=>?_,rfl⟩⟩;rw[cC,o,f];rw[show c=_ from Km.mp r];exact vc _<|J0 d
theorem zK(T:Tops P w K mg base):u7 P w K mg base 2 "_law_name" zD kC:=u7.byD (N:=["_law_held","_law_letters","_law_name_here","_law_k"]) T.b T.f_name (by walk_at"sc") Ct (by have:=dB T;walk_at"dv") Eo
noncomputable def jO:v8:=λds M R=>∃(q:Nat) (m:Int),ds=[.ref q,.int m]/\H9 M q/\1<=m/\m<=4/\∀(xs:List c5) (n:Int),xs.Nodup->1<=xs.length->xs.length<=4->(∀x∈xs,x.length<=8/\eI x)->R (.ref M.length) (M.set q (.lst [.int n])++[.lst<|xs.map .str])
theorem Ab:cM jO ui:=by rintro ds M R ⟨q,m,rfl,_⟩;rfl
theorem eI.cut(h:eI x)(b:Nat):eI (Kk x a8<|a7 (b:Int)):=λc f=>by rw[wf]at f;exact h c<|OI f
noncomputable def lQ:p9:=bq<|r9 jY<|aa (ab 4) af
noncomputable def lR:p9:=A1 (ay<|p7 kN (ab 6)<|ab 4) (lq<|K5 cN (ab 4)<|aa (ab 6) af) bf
noncomputable def qY:p9:=aB (A1 (ay<|ab 2) (aT (KQ (KQ (p7 aW (KQ (ab 3) fI<|gx<|dC<|.int 7)<|ab 6) fI<|gx<|p7 aW (r9 iT<|aa (ab 3) af)<|ab 5) fI<|gx<|dC<|.int 8) 6) bf)<|lR
noncomputable def qZ:p9:=aB (nK (qw<|aa (dC<|.int 1)<|aa (ab 1) af) (ao 5)<|aB (aT (r9 kC<|aa (ab 0) af) 6)<|qY)<|lQ
noncomputable def re:p9:=aB (aT (iV<|aa (ab 3) af) 4)<|qZ
noncomputable def rh:p9:=aB (aT (r9 kC<|aa (ab 0) af) 3)<|re
noncomputable def yA:p9:=aB (aT (p7 x9 (r9 aq<|aa (ab 0)<|aa (dC<|.int 2) af)<|dC<|.int 1) 2)<|rh
theorem Bs:x6 jO 7 yA:=by
 rintro ds M R ⟨q,m,rfl,C,m1,m4,h⟩;have r:=C.lt;simp only[yA];walk_at"dl";refine⟨q,2,rfl,C,by decide,by decide,λi n _ _=>?_⟩;have w:=C.start.set (n:=n) r;generalize M.set q (.lst [.int n])=F at w;refine⟨⟨rfl,rfl⟩,?_⟩;generalize t4 F t8 (.int i) (.int 1)=v;simp only[rh];walk_at"dl";refine⟨q,rfl,w.hd r,λz n Z s=>?_⟩;have g1:=w.set (n:=n) r;generalize F.set q (.lst [.int n])=I at g1;simp only[re];walk_at"dl";refine⟨ak (by lia),?_⟩;have K:Hl M (I++[MO.lst [D.str z]]) q:=g1.more;have k:(I++[MO.lst [D.str z]])[I.length]?=a7 (.lst<|[z].map D.str):=ad;have pM:=g1.len;generalize I++[MO.lst [D.str z]]=H at K k;generalize I.length=p at k pM;simp only[qZ];walk_at"dl";refine⟨⟨by decide,by decide,by lia,by lia⟩,?_⟩;refine bA (λj S f=>Hl M f q/\∃(xs:List c5) (a b:Option D),xs.Nodup/\1<=xs.length/\xs.length<=1+j/\(∀x∈xs,x.length<=8/\eI x)/\f[p]?=a7 (.lst<|xs.map .str)/\S=[a7<|.ref q,a7<|.int m,a7<|.bl v,a7<|.str z,a7<|.ref p,a,b]) ?_ ?_ ⟨K,[z],_,_,by simp,by simp,by simp,by simpa using⟨Z,s⟩,k,rfl⟩;rintro S f ⟨g,xs,a,b,t,P,Q,u,k,rfl⟩;rw[fh]at Q;refine⟨trivial,?_⟩;simp only[lQ];walk_at"dl";refine⟨_,.inl k,(BD<|by lia).g,λys O _=>?_⟩;obtain⟨T,rfl,B⟩:=rY O;have hl:=B.length_eq;exact(g.more (L:=[.lst<|T.map .str])).finL g.len ad (wc _) λn=>h T n (B.nodup_iff.mpr t) (by lia) (by lia) λx l=>u x<|B.mem_iff.mp l;rintro j y S f O ⟨g,xs,a,b,t,P,Q,u,k,rfl⟩ G N;obtain⟨hj,rfl⟩:=fi.mp O;refine⟨trivial,?_⟩;walk_at"dl";refine⟨q,rfl,g.hd r,λy n E d=>?_⟩;have g3:=g.set (n:=n) r;have c:(f.set q<|.lst [.int n])[p]?=a7 (.lst<|xs.map .str):=az (by lia) k;generalize f.set q (.lst [.int n])=U at g3 c;have o:∀y:c5,y.length<=8->eI y->lR ⟨A9 H G,bg M R,λV f=>lQ (EE M R) V f,A9 H G⟩ [a7<|.ref q,a7<|.int m,a7<|.bl v,a7<|.str z,a7<|.ref p,a7<|.int<|1+(j:Int),a7<|.str y] U:=λy E d=>by simp only[lR];walk_at"dl";refine⟨_,.inl c,⟨ar,jU⟩,?_⟩;rw[ku];by_cases A:y∈xs;rw[dT_ A];exact bE<|A9.now<|N _ _ ⟨g3,xs,_,_,t,P,by lia,u,c,rfl⟩;rw[dF_ A];refine bH ⟨⟨_,.inl c⟩,_,c,aL (by rw[u4];lia),?_⟩;refine A9.now<|N _ _ ⟨g3.setO pM,xs++[y],_,_,?_,?_,?_,λx l=>?_,?_,rfl⟩;exact Oo.mpr ⟨t,by simp,λa W b X e=>A<|by rw[show b=y by simpa using X]at e;exact e ▸ W⟩;rw[z5];lia;rw[z5,G8];lia;rcases C9.mp l with l|l;exact u x l;rw[show x=y by simpa using l];exact⟨E,d⟩;rw[G1];exact dD c
 simp only[qY];walk_at"dl";cases v with
 |false=>exact bE<|o y E d
 |true=>have s1:=Txt.slice_le z a8<|a7 7;have Y:=Txt.slice_le (Kk z a8 (a7 7)++y) a8<|a7<|(z.length:Int)+(1+(j:Int));rw[cC]at Y;refine bH ⟨ak (by lia),ak (by lia),ak (by lia),by rw[cC];exact ak (by lia),ak (by lia),?_⟩;have J:=((s.cut 7).app d).cut<|z.length+(1+j);rw[show ((z.length+(1+j):Nat):Int)=(z.length:Int)+(1+(j:Int)) by lia]at J;exact o _ (BF _ 8)<|J.cut 8
theorem Cc(T:Tops P w K mg base):u7 P w K mg base 3 "_law_names" ui jO:=u7.byD (N:=["_law_held","_law_many","_law_alike","_law_base","_law_names_here","_law_k","_law_name_here"]) T.b T.f_names (by walk_at"sc") Ab (by have:=dB T;have:=zK T;walk_at"dv") Bs
noncomputable def lG:v8:=λds M R=>∃(c:Int),ds=[.int c]/\∀ps a,HouseF ps a->R (aG ps a) M
theorem Ac:cM lG uj:=by rintro ds M R ⟨c,rfl,_⟩;rfl
structure KR(M B:t5)(q p:Nat)(ns:List c5):Prop where
 pre:M <+: B
 qM:M.length<=q
 hd:H9 B q
 ne:p≠q
 nm:B[p]?=a7 (.lst<|ns.map .str)
section
variable{M B:t5}{q p m:Nat}{ns:List c5}{n:Int}{x:MO}
theorem KR.set(g:KR M B q p ns):KR M (B.set q<|.lst [.int n]) q p ns:=⟨du g.pre g.qM,g.qM,⟨n,KO g.hd.lt⟩,g.ne,az g.ne g.nm⟩
theorem KR.more(g:KR M B q p ns):KR M (B++L) q p ns:=⟨g.pre.trans<|F9 _ _,g.qM,by obtain⟨n,h⟩:=g.hd;exact⟨n,be (F9 _ _) h⟩,g.ne,be (F9 _ _) g.nm⟩
theorem KR.setO(g:KR M B q p ns)(h1:M.length<=m)(h2:q≠m)(a:p≠m):KR M (B.set m x) q p ns:=⟨du g.pre h1,g.qM,by obtain⟨n,h⟩:=g.hd;exact⟨n,az h2 h⟩,g.ne,az a g.nm⟩
end
noncomputable def rA:p9:=bq<|fH<|aa (ab 3)<|aa (r9 jw<|aa (ab 4) af) af
noncomputable def rB:p9:=lq<|K5 cN (ab 4)<|aa (fH<|aa (ab 5)<|aa (r9 jw<|aa (ab 7) af) af) af
noncomputable def rC:p9:=aB (ik 1 [2,6] (eH<|aa (r9 iT<|aa (ab 2) af) af) (ao 0) (ay<|p7 x9 (p7 zq (p7 ug (ab 2)<|p7 GL (dC<|.int 1)<|ab 0)<|dC<|.int 2)<|dC<|.int 1) (p7 u5 (ab 1)<|ab 0) 7)<|rB
noncomputable def lX:p9:=aB (nK (bI<|r9 jO<|aa (ab 1)<|aa (p7 aW (dC<|.int 1)<|r9 aq<|aa (ab 1)<|aa (dC<|.int 4) af) af) (ao 5)<|aB (aT (p7 aW (dC<|.int 1)<|r9 aq<|aa (ab 1)<|aa (p7 Hy (p7 GL (dC<|.int 1)<|r9 iT<|aa (ab 2) af)<|dC<|.int 1) af) 6)<|rC)<|rA
noncomputable def rD:p9:=aB (aT (iV af) 4)<|lX
noncomputable def rE:p9:=aB (aT (r9 jw<|aa (D2 1 [1] (bI<|ab 2) (ao 0) sY<|fH<|aa (ab 0)<|aa (p7 aW (dC<|.int 1)<|r9 aq<|aa (ab 1)<|aa (dC<|.int 3) af) af) af) 3)<|rD
noncomputable def rF:p9:=aB (aT (r9 jO<|aa (ab 1)<|aa (p7 aW (dC<|.int 1)<|r9 aq<|aa (ab 1)<|aa (dC<|.int 4) af) af) 2)<|rE
noncomputable def yQ:p9:=aB (aT (r9 dI<|aa (ab 0) af) 1)<|rF
theorem FS(g:KR M B q p ns)(n1:1<=ns.length)(n4:ns.length<=4)(rM:M.length<=r)(O:r≠q)(rp:r≠p)(C:B[r]?=a7 (.lst []))(h:∀rs:List (c5×List c5),1<=rs.length/\rs.length<=4->(rs.map (·.1)).Nodup->(∀r∈rs,r.2.length<=4)->R (aG ps rs) M):lX (EE M R) [y0,a7<|.ref q,a7<|.ref p,a7<|.tup<|ps.map ga,a7<|.ref r,y5,y6,y7] B:=by
 simp only[lX];walk_at"dl";refine⟨q,4,rfl,g.hd,by decide,by decide,λi n i0 i1=>?_⟩;have A:=g.set (n:=n);have t:(B.set q<|.lst [.int n])[r]?=a7 (.lst []):=az O C;generalize B.set q (.lst [.int n])=f at A t;refine⟨q,1+i,rfl,A.hd,by lia,by lia,λl n wn w1 w4 w8=>?_⟩;have g1:=A.set (n:=n);have T:(f.set q<|.lst [.int n])[r]?=a7 (.lst []):=az O t;have bl:(f.set q<|.lst [.int n]).length=f.length:=J5 ..;have g2:=g1.more (L:=[.lst<|l.map .str]);have E:=ac (a:=.lst<|l.map .str) T;have m:(f.set q (.lst [.int n])++[.lst<|l.map .str])[f.length]?=a7 (.lst<|l.map .str):=by rw[<-bl];exact ad
 have wM:M.length<=f.length:=A.pre.length_le;have wq:f.length≠q:=by have:=A.hd.lt;lia
 have wp:f.length≠p:=by have:=aU A.nm;lia
 have wr:f.length≠r:=by have:=aU t;lia
 generalize f.set q (.lst [.int n])++[.lst<|l.map .str]=B2 at g2 E m;generalize f.length=w at m wM wq wp wr;refine⟨_,.inl m,λ_=>?_⟩;refine bA (λj S o=>∃(rs:List (c5×List c5)) (a b c:Option D),KR M o q p ns/\o[r]?=a7 (.lst<|rs.map eS)/\o[w]?=a7 (.lst<|l.map .str)/\rs.map (·.1)=l.take j/\rs.length=j/\(∀x∈rs,x.2.length<=4)/\S=[y0,a7<|.ref q,a7<|.ref p,a7<|.tup<|ps.map ga,a7<|.ref r,a,b,c]) ?_ ?_ ⟨[],_,_,_,g2,E,m,rfl,rfl,(λ_ z=>nomatch z),rfl⟩;rintro S o ⟨rs,a,b,c,g,C,m,I,X,Z,rfl⟩;rw[u4]at I X;rw[LA]at I;refine⟨.inl m,?_⟩;simp only[rA];walk_at"dl";refine⟨_,.inl C,ak (by lia),?_⟩;refine bg.keep (h rs ⟨by lia,by lia⟩ (by rw[I];exact wn) Z) ?_ g.pre;refine .tup<|.cons (.tup<|Bels.of λd V=>?_)<|.cons (.tup<|Bels.of λd V=>?_) .nil;obtain⟨x,_,rfl⟩:=v6.mp V;exact .tup<|.cons (.str _)<|.cons (.int _) .nil;obtain⟨x,_,rfl⟩:=v6.mp V;exact .tup<|.cons (.str _)<|.cons (.tup<|wc _) .nil;rintro j y S o hy ⟨rs,a,b,c,g,C,m,I,X,Z,rfl⟩ G hG;rw[D0]at hy;obtain⟨s,hs,rfl⟩:=Le.mp hy;have W:=(w6.mp hs).1;have et:l.take (j+1)=l.take j++[s]:=by rw[Mf,hs];rfl
 refine⟨.inl m,?_⟩;walk_at"dl";have pw:0<(1:Int)*2 ^ ns.length-1/\(1:Int)*2 ^ ns.length-1<100:=by
  have:ns.length=1\/ns.length=2\/ns.length=3\/ns.length=4:=by lia
  rcases this with e|e|e|e<;>rw[e]<;>decide
 refine⟨_,.inl g.nm,⟨by lia,by rw[u4];lia,by decide⟩,?_⟩;rw[u4,LB];refine⟨q,_,rfl,g.hd,pw.1,by lia,λi n i0 i1=>?_⟩;have g3:=g.set (n:=n);have F:(o.set q<|.lst [.int n])[r]?=a7 (.lst<|rs.map eS):=az O C;have H:(o.set q<|.lst [.int n])[w]?=a7 (.lst<|l.map .str):=az wq m;generalize o.set q (.lst [.int n])=B3 at g3 F H;simp only[rC];walk_at"dl";refine⟨_,.inl g3.nm,⟨by lia,by rw[u4];lia⟩,?_⟩;rw[u4,LB];refine qx (λys acc S P=>∃(xs:List c5) (Q:Option D),acc=xs.map D.str/\xs.length+ys.length<=4/\(∀y∈ys,∃j:Nat,y=.int (0+(j:Int))/\j<ns.length)/\P=B3/\S=[Q,a7<|.ref p,a7<|.int<|1+i]) ?_ ?_ _ _ _ _ ⟨[],_,rfl,by rw[B8,fh];lia,λy' k=>?_,rfl,rfl⟩;rintro acc S P ⟨xs,Q,rfl,N,_,rfl,rfl⟩;rw[B8,Nat.add_zero]at N;refine⟨trivial,?_⟩;simp only[rB];walk_at"dl";have g4:=g3.more (L:=[.lst<|xs.map .str]);have u:=ac (a:=.lst<|xs.map .str) F;have U:=ac (a:=.lst<|xs.map .str) H;refine⟨⟨_,.inl u⟩,_,au,ak (by lia),_,u,aL (by rw[u4];lia),?_⟩;refine A9.now<|hG _ _ ⟨rs++[(s,xs)],_,_,_,g4.setO rM (z8 O)<|z8 rp,?_,az wr U,?_,?_,λx J=>?_,rfl⟩;rw[G1];exact dD u;rw[G1,I,et];rfl;rw[z5,X];rfl;rcases C9.mp J with J|J;exact Z x J;rw[show x=(s,xs) by simpa using J];exact N;rintro y' ys acc S P ⟨xs,Q,rfl,xl,k,rfl,rfl⟩ K hK;obtain⟨j,rfl,W⟩:=k y' (by simp);rw[C2]at xl;refine⟨trivial,?_⟩;walk_at"dl";have e3:atI (ns.map D.str) (0+(j:Int))=a7 (.str<|ns[j]'(by lia)):=by rw[Int.zero_add];exact aA<|by rw[D0,v9<|by lia];rfl
 have pw:GI (1+i) (1*2 ^ (0+(j:Int)).toNat):=by
  rw[Int.zero_add,LB];have:j=0\/j=1\/j=2\/j=3:=by lia
  rcases this with rfl|rfl|rfl|rfl<;>exact⟨by decide,by decide⟩
 refine⟨⟨by lia,by lia,by decide⟩,pw,by decide,⟨pU,pU⟩,?_⟩;split;refine⟨_,.inl g3.nm,?_⟩;rw[e3];exact⟨by rw[u4];exact aL (by lia),hK _ _ _ ⟨xs++[_],_,by simp;rfl,by rw[z5,G8];lia,λz v=>k z<|A0 _ v,rfl,rfl⟩⟩;exact hK _ _ _ ⟨xs,_,rfl,by lia,λz v=>k z<|A0 _ v,rfl,rfl⟩;obtain⟨j,W⟩:=Lo k;obtain⟨Y,rfl⟩:=fi.mp W;exact⟨j,rfl,Y⟩
theorem Bt:x6 lG 8 yQ:=by
 rintro ds M R ⟨c,rfl,h⟩;simp only[yQ];walk_at"dl";refine⟨c,rfl,λn=>?_⟩;simp only[rF];walk_at"dl";refine⟨M.length,4,rfl,⟨n,ad⟩,by decide,by decide,λi f P Q=>?_⟩;rw[mj];refine⟨M.length,1+i,rfl,⟨f,ad⟩,by lia,by lia,λns f F w C E=>?_⟩;rw[mj];have r:(M++[MO.lst [D.int f]]).length=M.length+1:=by simp
 have g:KR M (M++[MO.lst [D.int f]]++[MO.lst<|ns.map .str]) M.length (M.length+1) ns:=⟨dL.trans dL,u6 _,⟨f,ac ad⟩,by lia,by rw[<-r];exact ad⟩
 have s:∀n:Int,(M++[MO.lst [D.int n]]).length=M.length+1:=λn=>by simp
 rw[s];generalize M++[MO.lst [D.int f]]++[MO.lst<|ns.map .str]=B at g;generalize O:M.length=q at g;generalize q+1=p at g;simp only[rE];walk_at"dl";refine⟨_,.inl g.nm,λ_=>?_⟩;refine qx (λys acc S d=>∃(ps:List (c5×Int)) (a:Option D) (i:Nat),KR M d q p ns/\acc=ps.map ga/\ps.length=i/\ps.map (·.1)=ns.take i/\(∀x∈ps,(1<=x.2/\x.2<=3)/\(x.1.length<=8/\eI x.1))/\ys=(ns.map D.str).drop i/\i<=ns.length/\S=[a,a7<|.ref q]) ?_ ?_ _ _ _ _ ⟨[],_,0,g,rfl,rfl,rfl,(λ_ z=>nomatch z),by simp,w5 _,rfl⟩;rintro acc S d ⟨ps,a,i,g,rfl,o,m,j,e,v,rfl⟩;have hi:i=ns.length:=by have:=o8 Kl e;rw[B8,K1,u4]at this;lia
 refine⟨.inl g.nm,_,au,?_⟩;simp only[rD];walk_at"dl";refine⟨w5 _,?_⟩;have u:=(g.more (L:=[.lst<|ps.map ga])).more (L:=[.lst []]);have V:=g.pre.length_le;have W:=g.hd.lt;have G:=aU g.nm;have l:(d++[MO.lst<|ps.map ga]).length=d.length+1:=by simp
 refine FS u w C (by rw[l];lia) (by rw[l];lia) (by rw[l];lia) ad λN H J I=>h ps N ⟨⟨by lia,by lia⟩,λx b=>(j x b).1,λx b=>(j x b).2.1,H,by rw[m];exact F.sublist<|List.take_sublist _ _,J,I,λx b=>(j x b).2.2⟩;rintro y ys acc S d ⟨ps,a,i,g,rfl,o,m,j,e,v,rfl⟩ K A;have hi:i<ns.length:=by have:=o8 Kl e;rw[C2,K1,u4]at this;lia
 have t:i<(ns.map D.str).length:=by rw[u4];exact hi
 rw[OW t]at e;injection e with h1 h2;rw[Mc]at h1;subst h1;refine⟨.inl g.nm,?_⟩;walk_at"dl";refine⟨q,3,rfl,g.hd,by decide,by decide,λk f T U=>?_⟩;refine⟨ak (by lia),by rw[u4];exact aL (by lia),A _ _ _ ⟨ps++[(ns[i],1+k)],_,i+1,g.set,by rw[G1];rfl,by rw[z5,o];rfl,?_,λx b=>?_,h2,by lia,rfl⟩⟩;rw[G1,m,Mf,v9 hi];rfl;rcases C9.mp b with b|b;exact j x b;rw[show x=(ns[i],1+k) by simpa using b];exact⟨⟨by show 1<=1+k;lia,by show 1+k<=3;lia⟩,E _<|J0 hi⟩
theorem Cd(T:Tops P w K mg base):u7 P w K mg base 4 "_law_house" uj lG:=u7.byD (N:=["_law_cell","_law_held","_law_names_here","_law_people","_law_rooms","_law_room","_law_bits","_law_members"]) T.b T.f_house (by walk_at"sc") Ac (by have:=mK T;have:=dB T;have:=Cc T;walk_at"dv") Bt
noncomputable def dG:v8:=λds M R=>∃(q p:Nat) (xs:List c5),ds=[.ref q,.ref p]/\H9 M q/\p≠q/\ax M p (xs.map .str)/\1<=xs.length/\xs.length<=1000/\(∀x∈xs,x.length<=8)/\∀(x:c5) (n:Int),x.length<=100->R (.str x) (M.set q<|.lst [.int n])
theorem xI:cM dG pP:=by rintro ds M R ⟨q,p,xs,rfl,_⟩;rfl
noncomputable def nW:p9:=bq<|KQ (ab 3) fI<|gx<|dC<|.int 60
noncomputable def nX:p9:=aT (p7 aW (ab 3)<|p7 u5 (ab 6)<|r9 aq<|aa (ab 0)<|aa (dC<|.int 7) af) 3
noncomputable def nY:p9:=aB (aT (iV<|aa (p7 aW (dC<|.str "@")<|ab 5)<|aa (p7 aW (p7 aW (dC<|.str "@")<|ab 5)<|dC<|.str " ")<|aa (p7 aW (p7 aW (dC<|.str "@")<|ab 5)<|dC<|.str "x")<|aa (ab 5)<|aa (dC<|.str "hi ")<|aa (dC<|.str "@")<|aa (p7 aW (dC<|.str "@")<|ab 5) af) 6)<|nX
noncomputable def nZ:p9:=aB (nK (eH<|aa (p7 aW (dC<|.int 1)<|r9 aq<|aa (ab 0)<|aa (dC<|.int 4) af) af) (ao 4)<|aB (aT (p7 u5 (ab 1)<|r9 aq<|aa (ab 0)<|aa (r9 iT<|aa (ab 1) af) af) 5)<|nY)<|nW
noncomputable def oh:p9:=bq<|ab 3
noncomputable def oi:p9:=aB (A1 (ay<|p7 x9 (r9 aq<|aa (ab 0)<|aa (dC<|.int 3) af)<|dC<|.int 0) (aB (nK (eH<|aa (p7 aW (dC<|.int 1)<|r9 aq<|aa (ab 0)<|aa (dC<|.int 60) af) af) (ao 4)<|aT (p7 aW (ab 3)<|p7 u5 (ab 2)<|r9 aq<|aa (ab 0)<|aa (dC<|.int 94) af) 3)<|oh) bf)<|nZ
noncomputable def oj:p9:=aB (aT (dC<|.str "") 3)<|oi
noncomputable def vH:p9:=aB (aT (dC<|.str " !\"#$&'()*+,-./0123456789:;<=>?@ABCDEFGHIJKLMNOPQRSTUVWXYZ[\\]^_`abcdefghijklmnopqrstuvwxyz{|}~") 2)<|oj
theorem yp:x6 dG 7 vH:=by
 rintro ds M R ⟨q,p,xs,rfl,F,P,H,x1,xl,x8,h⟩;have l:=F.lt;have I:(AA0 " !\"#$&'()*+,-./0123456789:;<=>?@ABCDEFGHIJKLMNOPQRSTUVWXYZ[\\]^_`abcdefghijklmnopqrstuvwxyz{|}~").cps.toList.length=94:=by decide +kernel
 have J:(AA0 " !\"#$&'()*+,-./0123456789:;<=>?@ABCDEFGHIJKLMNOPQRSTUVWXYZ[\\]^_`abcdefghijklmnopqrstuvwxyz{|}~").length=94:=by decide +kernel
 simp only[vH,oj,oi];generalize AA0 " !\"#$&'()*+,-./0123456789:;<=>?@ABCDEFGHIJKLMNOPQRSTUVWXYZ[\\]^_`abcdefghijklmnopqrstuvwxyz{|}~" = sg at I J;walk_at"dl";refine⟨q,3,rfl,F,by decide,by decide,λi n _ _=>?_⟩;have r:=F.start.set (n:=n) l;generalize M.set q (.lst [.int n])=B at r;refine⟨⟨rfl,rfl⟩,?_⟩;generalize t4 B t8 (.int i) (.int 0)=b;have N:∀c:Nat,(⟨#[c]⟩:c5).length=1:=λ_=>rfl;cases b with
 |true=>refine bH ⟨q,60,rfl,r.hd l,by decide,by decide,λi n Y Z=>?_⟩;have g1:=r.set (n:=n) l;generalize B.set q (.lst [.int n])=U at g1;walk_at"dl";refine⟨⟨by lia,by lia⟩,?_⟩;refine bA (λj S f=>Hl M f q/\∃(z:c5) (a:Option D),z.length=j/\S=[a7<|.ref q,a7<|.ref p,a7<|.str sg,a7<|.str z,a,a8,a8]) ?_ ?_ ⟨g1,AA0 "",_,by decide +kernel,rfl⟩;rintro S f ⟨g,z,a,o,rfl⟩;refine⟨trivial,?_⟩;simp only[oh];walk_at"dl";exact g.fin (.str _) λn=>h z n (by rw[fh]at o;lia);rintro j y S f O ⟨g,z,a,o,rfl⟩ G A;have X:=(fi.mp O).1;refine⟨trivial,?_⟩;walk_at"dl";refine⟨q,94,rfl,g.hd l,by decide,by decide,λk n v u=>?_⟩;have m:=g.set (n:=n) l;generalize f.set q (.lst [.int n])=x at m;obtain⟨K,d,C,_⟩:=dF (xs:=sg.cps.toList) v (by rw[I];exact u);refine⟨by rw[J];exact ak (by lia),?_⟩;rw[C];refine⟨by rw[N];exact ak (by lia),A9.now<|A _ _ ⟨m,_,_,?_,rfl⟩⟩;rw[cC,N,o]
 |false =>
  refine bE ?_;simp only[nZ];walk_at"dl";refine⟨q,4,rfl,r.hd l,by decide,by decide,λi n Y Z=>?_⟩;have g1:=r.set (n:=n) l;generalize B.set q (.lst [.int n])=U at g1;walk_at"dl";refine⟨⟨by lia,by lia⟩,?_⟩;refine bA (λj S f=>Hl M f q/\∃(z:c5) (a b c:Option D),z.length<=20*j/\S=[a7<|.ref q,a7<|.ref p,a7<|.str sg,a7<|.str z,a,b,c]) ?_ ?_ ⟨g1,AA0 "",_,_,_,by decide +kernel,rfl⟩;rintro S f ⟨g,z,a,b,c,o,rfl⟩;rw[fh]at o;refine⟨trivial,?_⟩;simp only[nW];walk_at"dl";exact⟨ak (by lia),g.fin (.str _) λn=>h _ n (by have:=Txt.slice_le z a8<|a7 60;lia)⟩;rintro j y S f O ⟨g,z,a,b,c,o,rfl⟩ G A;have X:=(fi.mp O).1;have E:=g.oldL P H;refine⟨trivial,?_⟩;walk_at"dl";refine⟨_,E,q,_,rfl,g.hd l,by rw[u4];lia,by rw[u4];lia,λk n v u=>?_⟩;have m:=g.set (n:=n) l;have t:=m.oldL P H;generalize f.set q (.lst [.int n])=x at m t;obtain⟨K,d,C,_⟩:=dF (xs:=xs.map D.str) v u;rw[Mc]at C;have w8:=x8 _ (J0<|by rw[u4]at d;exact d);refine⟨_,t,?_⟩;rw[C];generalize xs[K]'(by rw[u4]at d;exact d)=w at w8;have e:(AA0 "@").length=1:=by decide +kernel
  have T:(AA0 " ").length=1:=by decide +kernel
  have Q:(AA0 "x").length=1:=by decide +kernel
  have sh:(AA0 "hi ").length=3:=by decide +kernel
  simp only[nY];walk_at"dl";refine⟨by rw[e];exact ak (by lia),by rw[e];exact ak (by lia),by rw[cC,e,T];exact ak (by lia),by rw[e];exact ak (by lia),by rw[cC,e,Q];exact ak (by lia),by rw[e];exact ak (by lia),ak (by lia),?_⟩;simp only[nX];walk_at"dl";refine⟨q,7,rfl,(m.more).hd l,by decide,by decide,λk n v u=>?_⟩;have g3:=(m.more (L:=[.lst [.str<|AA0 "@" ++ w,.str<|AA0 "@" ++ w++AA0 " ",.str<|AA0 "@" ++ w++AA0 "x",.str w,.str<|AA0 "hi ",.str<|AA0 "@",.str<|AA0 "@" ++ w]])).set (n:=n) l;have W:((x++[MO.lst [.str<|AA0 "@" ++ w,.str<|AA0 "@" ++ w++AA0 " ",.str<|AA0 "@" ++ w++AA0 "x",.str w,.str<|AA0 "hi ",.str<|AA0 "@",.str<|AA0 "@" ++ w]]).set q<|.lst [.int n])[x.length]?=a7 (.lst [.str<|AA0 "@" ++ w,.str<|AA0 "@" ++ w++AA0 " ",.str<|AA0 "@" ++ w++AA0 "x",.str w,.str<|AA0 "hi ",.str<|AA0 "@",.str<|AA0 "@" ++ w]):=az (by have:=m.len;lia) ad;have V:∃s:c5,atI [D.str<|AA0 "@" ++ w,.str<|AA0 "@" ++ w++AA0 " ",.str<|AA0 "@" ++ w++AA0 "x",.str w,.str<|AA0 "hi ",.str<|AA0 "@",.str<|AA0 "@" ++ w] k=a7 (.str s)/\s.length<=20:=by
   have:k=0\/k=1\/k=2\/k=3\/k=4\/k=5\/k=6:=by lia
   rcases this with rfl|rfl|rfl|rfl|rfl|rfl|rfl;exact⟨_,aA (j:=0) rfl,by rw[cC,e];lia⟩;exact⟨_,aA (j:=1) rfl,by rw[cC,cC,e,T];lia⟩;exact⟨_,aA (j:=2) rfl,by rw[cC,cC,e,Q];lia⟩;exact⟨_,aA (j:=3) rfl,by lia⟩;exact⟨_,aA (j:=4) rfl,by rw[sh];lia⟩;exact⟨_,aA (j:=5) rfl,by rw[e];lia⟩;exact⟨_,aA (j:=6) rfl,by rw[cC,e];lia⟩
  obtain⟨s,es,sl⟩:=V;refine⟨_,.inl W,?_⟩;rw[es];refine⟨ak (by lia),A9.now<|A _ _ ⟨g3,_,_,_,_,?_,rfl⟩⟩;rw[cC];lia
theorem se(T:Tops P w K mg base):u7 P w K mg base 2 "_law_saying" pP dG:=u7.byD (N:=["_law_held","_law_names_here","_law_signs","_law_saying_here","_law_k","_law_name_here","_law_pieces"]) T.b T.f_saying (by walk_at"sc") xI (by have:=dB T;walk_at"dv") yp
noncomputable def dH:v8:=λds M R=>∃(q p s:Nat) (hs a:List D),ds=[.ref q,.ref p,.ref s]/\H9 M q/\p≠q/\s≠q/\ax M p hs/\(∀x∈hs,Hd x)/\1<=hs.length/\hs.length<=12/\ax M s a/\(∀x∈a,St x)/\a.length<=1000/\∀(d:D) (n:Int),St d->R d (M.set q<|.lst [.int n])
theorem Cs:cM dH zC:=by rintro ds M R ⟨q,p,s,hs,a,rfl,_⟩;rfl
theorem St.bel(h:St d):A5 k d:=bG 2 d h.pl
noncomputable def vI:p9:=bq<|p7 u5 (ab 2)<|r9 aq<|aa (ab 0)<|aa (r9 iT<|aa (ab 2) af) af
noncomputable def vJ:p9:=aB (A1 (ay<|p7 x9 (ab 3)<|dC<|.int 1) (bq<|fH<|aa (p7 aW (dC<|.int 1)<|r9 aq<|aa (ab 0)<|aa (p7 EG (dC<|.int 10)<|dC<|.int 9) af)<|aa (p7 u5 (ab 1)<|r9 aq<|aa (ab 0)<|aa (r9 iT<|aa (ab 1) af) af) af) bf)<|vI
noncomputable def vK:p9:=aB (A1 (LH (ay<|p7 x9 (ab 3)<|dC<|.int 0)<|ay<|p7 x9 (ab 2)<|iV af) (bq<|fH<|aa (p7 aW (dC<|.int 1)<|r9 aq<|aa (ab 0)<|aa (dC<|.int 70) af)<|aa (p7 u5 (ab 1)<|r9 aq<|aa (ab 0)<|aa (r9 iT<|aa (ab 1) af) af) af) bf)<|vJ
noncomputable def DC:p9:=aB (aT (r9 aq<|aa (ab 0)<|aa (dC<|.int 8) af) 3)<|vK
theorem pL(l:q<M.length)(P:p≠q)(b:ax M p hs)(f:∀x∈hs,Hd x)(h1:1<=hs.length)(e:hs.length<=12)(h:∀(d:D) (n:Int),St d->R d (M.set q<|.lst [.int n]))(g:Hl M B q)(t:∀S B Q,Q (.int m) B->tm S B Q)(r:0<m)(V:m<100000000000):(bq<|fH<|aa (p7 aW (dC<|.int 1)<|r9 aq<|aa (ab 0)<|aa tm af)<|aa (p7 u5 (ab 1)<|r9 aq<|aa (ab 0)<|aa (r9 iT<|aa (ab 1) af) af) af) (EE M R) [a7<|.ref q,a7<|.ref p,y2,y3] B:=by
 walk_at"dl";refine t _ _ _ ?_;refine⟨q,m,rfl,g.hd l,r,V,λi n s A=>?_⟩;have g1:=g.set (n:=n) l;generalize B.set q (.lst [.int n])=I at g1;refine⟨hs,g1.oldL P b,q,_,rfl,g1.hd l,by lia,by lia,λk n v G=>?_⟩;have a:=g1.set (n:=n) l;generalize I.set q (.lst [.int n])=w at a;obtain⟨j,L,C,_⟩:=dF (xs:=hs) v G;obtain⟨z,o,c⟩:=f _<|J0 L;refine⟨hs,a.oldL P b,?_⟩;rw[C];have:St (.tup [.int<|1+i,hs[j]]):=⟨1+i,z,o,by rw[c]⟩
 exact⟨ak (by lia),a.fin this.bel λn=>h _ n this⟩
theorem En:x6 dH 4 DC:=by
 rintro ds M R ⟨q,p,s,hs,a,rfl,v,P,sq,r,f,h1,e,u,c,O,h⟩;have l:=v.lt;have o:∀{B:t5},∀x∈a,u3 B 29 x=a9:=λ{B} x b=>by obtain⟨t,z,k,rfl⟩:=c x b;rfl
 simp only[DC];walk_at"dl";refine⟨q,8,rfl,v,by decide,by decide,λi n _ _=>?_⟩;have g:=v.start.set (n:=n) l;generalize M.set q (.lst [.int n])=y at g;simp only[vK];walk_at"dl";refine⟨⟨rfl,rfl⟩,?_⟩;generalize t4 y t8 (.int i) (.int 0)=A;cases A with
 |true=>exact bH<|pL (m:=70) (tm:=dC<|.int 70) (y2:=a7<|.ref s) (y3:=a7<|.int i) l P r f h1 e h g (λ_ _ _ q=>q) (by decide)<|by decide
 |false =>
  refine bE ?_;obtain⟨w,D⟩:=dO (g.oldL sq u) o;refine⟨w5 _,w,?_⟩;rw[D];have g1:=g.more (L:=[.lst []]);generalize y++[MO.lst []]=I at g1;cases F:a.isEmpty with
  |true=>exact bH<|pL (m:=70) (tm:=dC<|.int 70) (y2:=a7<|.ref s) (y3:=a7<|.int i) l P r f h1 e h g1 (λ_ _ _ q=>q) (by decide)<|by decide
  |false =>
   refine bE ?_;simp only[vJ];walk_at"dl";refine⟨⟨rfl,rfl⟩,?_⟩;generalize t4 I t8 (.int i) (.int 1)=C;cases C with
   |true=>exact bH<|pL (m:=10 ^ Int.toNat 9) (tm:=p7 EG (dC<|.int 10)<|dC<|.int 9) (y2:=a7<|.ref s) (y3:=a7<|.int i) l P r f h1 e h g1 (λ_ _ _ q=>⟨⟨by decide,by decide,by decide⟩,q⟩) (by decide)<|by decide
   |false =>
    refine bE ?_;simp only[vI];walk_at"dl";have N:1<=a.length:=by
     cases a with
     |nil=>cases F
     |cons x xs=>simp
    refine⟨a,g1.oldL sq u,q,_,rfl,g1.hd l,by lia,by lia,λk n H J=>?_⟩;have d:=g1.set (n:=n) l;generalize I.set q (.lst [.int n])=K at d;obtain⟨j,G,E,_⟩:=dF (xs:=a) H J;refine⟨a,d.oldL sq u,?_⟩;rw[E];have b:=c _<|J0 G;exact d.fin b.bel λn=>h _ n b
theorem zJ(T:Tops P w K mg base):u7 P w K mg base 2 "_law_pick" zC dH:=u7.byD (N:=["_law_held","_law_hands_here","_law_says","_law_way"]) T.b T.f_pick (by walk_at"sc") Cs (by have:=dB T;walk_at"dv") En
noncomputable def jN:v8:=λds M R=>∃(q p t:Nat) (hs:List D) (s:List (D×D)),ds=[.ref q,.ref p,.ref t]/\H9 M q/\p≠q/\t≠q/\ax M p hs/\(∀x∈hs,Hd x)/\hs.length<=12/\M[t]?=a7 (.dkt s)/\(∀x∈s,∃v:Int,x.2=.int v/\0<=v/\v<=1000)/\∀(vs:List D) (n:Int),lu 3 vs->VecK vs->R (.tup vs) (M.set q<|.lst [.int n])
theorem xH:cM jN pO:=by rintro ds M R ⟨q,p,t,hs,s,rfl,_⟩;rfl
theorem lu.snoc(h:lu n ds)(t:E4 n d):lu n (ds++[d]):=by unfold lu at h ⊢;rw[List.all_append,h];simpa [E4]using t
noncomputable def nR:p9:=bq<|r9 jw<|aa (ab 3) af
noncomputable def nS:p9:=A1 (ay<|p7 LU (ab 5)<|dC<|.int 0) (lq<|K5 cN (ab 3)<|aa (fH<|aa (ab 4)<|aa (ab 5) af) af) bf
noncomputable def nT:p9:=aB (nK (bI<|ab 1) (ao 4)<|aB (aT (r9 aq<|aa (ab 0)<|aa (p7 aW (LY jx (ab 2)<|aa (ab 4)<|aa (dC<|.int 0) af)<|dC<|.int 3) af) 5)<|nS)<|nR
noncomputable def vE:p9:=aB (aT (iV af) 3)<|nT
theorem yo:x6 jN 6 vE:=by
 rintro ds M R ⟨q,p,t,hs,m,rfl,A,P,N,j,J,H,K,L,h⟩;have C:=A.lt;simp only[vE,nT];walk_at"dl";refine⟨w5 _,_,j.more _,λ_=>?_⟩;have E:Hl M (M++[MO.lst []]) q:=A.start.more;refine bA (λi S l=>∃(vs:List D) (a b:Option D),Hl M l q/\l[M.length]?=a7 (.lst vs)/\lu 3 vs/\(∃s:List (D×Int),vs=ny s/\(∀p∈s,Hd p.1)/\s.length<=i)/\vs.length<=i/\S=[a7<|.ref q,a7<|.ref p,a7<|.ref t,a7<|.ref M.length,a,b]) ?_ ?_ ⟨[],_,_,E,ad,.nil,⟨[],rfl,(λ_ z=>nomatch z),u6 _⟩,u6 _,rfl⟩;rintro S l ⟨vs,a,b,g,r,pv,⟨s,w,o,T⟩,Q,rfl⟩;refine⟨g.oldL P j,?_⟩;simp only[nR];walk_at"dl";exact⟨_,.inl r,g.fin (bG 4 _<|.tup pv) λn=>h vs n pv ⟨s,w,o,by lia⟩⟩;rintro i y S l O ⟨vs,a,b,g,r,pv,⟨s,w,o,T⟩,Q,rfl⟩ G u;have hi:=(w6.mp O).1;obtain⟨z,k,rfl⟩:=J y<|J1 O;refine⟨g.oldL P j,?_⟩;walk_at"dl";have B:=g.old N K;refine⟨⟨_,B⟩,_,B,rfl,?_⟩;have I:∃v:Int,(aX m<|.tup [.str z,.int k]).getD (.int 0)=.int v/\0<=v/\v<=1000:=by
  cases e:aX m (.tup [.str z,.int k]) with
  |none=>exact⟨0,rfl,by decide,by decide⟩
  |some d=>exact L _<|cy e
 obtain⟨v,F,Z,X⟩:=I;rw[F];refine⟨q,v+3,rfl,g.hd C,by lia,by lia,λc n V W=>?_⟩;have g1:=g.set (n:=n) C;have f:(l.set q<|.lst [.int n])[M.length]?=a7 (.lst vs):=az (by lia) r;generalize l.set q (.lst [.int n])=U at g1 f;simp only[nS];walk_at"dl";by_cases x:c > 0;rw[dT_ x];refine bH ⟨⟨_,.inl f⟩,ak (by lia),_,f,aL (by lia),?_⟩;exact A9.now<|u _ _ ⟨_,_,_,g1.setO<|u6 _,dD f,pv.snoc<|.tup<|.cons (CQ ⟨_,_,rfl⟩)<|.cons (.int _) .nil,⟨s++[(.tup [.str z,.int k],c)],by rw[w];unfold ny;rw[G1];rfl,λp j=>by rcases C9.mp j with j|j;exact o p j;rw[Km.mp j];exact⟨_,_,rfl⟩,by rw[z5,G8];lia⟩,by rw[z5,G8];lia,rfl⟩;rw[dF_ x];exact bE<|A9.now<|u _ _ ⟨vs,_,_,g1,f,pv,⟨s,w,o,by lia⟩,by lia,rfl⟩
theorem zI(T:Tops P w K mg base):u7 P w K mg base 2 "_law_vector" pO jN:=u7.byD (N:=["_law_held","_law_hands_here","_law_done","_law_found","_law_hand","_law_count"]) T.b T.f_vector (by walk_at"sc") xH (by have:=dB T;walk_at"dv") yo
noncomputable def qA:v8:=λds M R=>∃(q p s:Nat) (ps:List (c5×Int)) (r:List (c5×List c5)) (hs a:List D),ds=[.ref q,aG ps r,.ref p,.ref s]/\H9 M q/\HouseF ps r/\p≠q/\s≠q/\ax M p hs/\(∀x∈hs,Hd x)/\1<=hs.length/\hs.length<=12/\ax M s a/\(∀x∈a,St x)/\a.length<=1000/\∀(d:D) (n:Int),fS d->R d (M.set q<|.lst [.int n])
theorem Cq:cM qA zA:=by rintro ds M R ⟨q,p,s,ps,r,hs,a,rfl,_⟩;rfl
noncomputable def vB:p9:=bq<|fH<|aa (dC<|.str "under")<|aa (r9 dH<|aa (ab 0)<|aa (ab 2)<|aa (ab 3) af) af
noncomputable def vC:p9:=aB (A1 (ay<|p7 x9 (ab 4)<|dC<|.int 1) (bq<|fH<|aa (dC<|.str "person")<|aa (p7 u5 (p7 u5 (p7 u5 (ab 1)<|dC<|.int 0)<|r9 aq<|aa (ab 0)<|aa (r9 iT<|aa (p7 u5 (ab 1)<|dC<|.int 0) af) af)<|dC<|.int 0) af) bf)<|vB
noncomputable def vD:p9:=aB (A1 (ay<|p7 x9 (ab 4)<|dC<|.int 0) (bq<|fH<|aa (dC<|.str "room")<|aa (p7 u5 (p7 u5 (p7 u5 (ab 1)<|dC<|.int 1)<|r9 aq<|aa (ab 0)<|aa (r9 iT<|aa (p7 u5 (ab 1)<|dC<|.int 1) af) af)<|dC<|.int 0) af) bf)<|vC
noncomputable def Dz:p9:=aB (aT (r9 aq<|aa (ab 0)<|aa (dC<|.int 3) af) 4)<|vD
theorem El:x6 qA 5 Dz:=by
 rintro ds M R ⟨q,p,s,ps,x,hs,f,rfl,b,m,P,sq,w,r,h1,e,u,c,y,h⟩;have l:=b.lt;have D:=m.len;have E:=m.rl;simp only[Dz,aG];walk_at"dl";refine⟨q,3,rfl,b,by decide,by decide,λi n _ _=>?_⟩;have a:=b.start.set (n:=n) l;generalize M.set q (.lst [.int n])=B at a;simp only[vD];walk_at"dl";refine⟨⟨rfl,rfl⟩,?_⟩;generalize t4 B t8 (.int i) (.int 0)=A;cases A with
 |true=>refine bH ⟨q,_,rfl,a.hd l,by rw[u4];lia,by rw[u4];lia,λk n v G=>?_⟩;have g1:=a.set (n:=n) l;generalize B.set q (.lst [.int n])=I at g1;obtain⟨j,L,C,_⟩:=dF (xs:=x.map eS) v G;rw[Mc]at C;walk_at"dl";rw[C];unfold eS;walk_at"dl";refine⟨ak (by lia),g1.fin (.tup<|.cons (.str _)<|.cons (.str _) .nil) λn=>h _ n<|.inl ⟨_,rfl⟩⟩
 |false =>
  refine bE ?_;simp only[vC];walk_at"dl";refine⟨⟨rfl,rfl⟩,?_⟩;generalize t4 B t8 (.int i) (.int 1)=o;cases o with
  |true=>refine bH ⟨q,_,rfl,a.hd l,by rw[u4];lia,by rw[u4];lia,λk n v G=>?_⟩;have g1:=a.set (n:=n) l;generalize B.set q (.lst [.int n])=I at g1;obtain⟨j,L,C,_⟩:=dF (xs:=ps.map ga) v G;rw[Mc]at C;walk_at"dl";rw[C];unfold ga;walk_at"dl";refine⟨ak (by lia),g1.fin (.tup<|.cons (.str _)<|.cons (.str _) .nil) λn=>h _ n<|.inr<|.inl ⟨_,rfl⟩⟩
  |false=>refine bE ?_;simp only[vB];walk_at"dl";refine⟨q,p,s,hs,f,rfl,a.hd l,P,sq,a.oldL P w,r,h1,e,a.oldL sq u,c,y,λd n g=>?_⟩;have g1:=a.set (n:=n) l;generalize B.set q (.lst [.int n])=I at g1;exact⟨ak (by lia),g1.fin (.tup<|.cons (.str _)<|.cons g.bel .nil) λn=>h _ n<|.inr<|.inr (by obtain⟨t,z,k,rfl⟩:=g;exact⟨t,z,k,rfl⟩)⟩
theorem Fc(T:Tops P w K mg base):u7 P w K mg base 3 "_law_what" zA qA:=u7.byD (N:=["_law_held","_law_house_here","_law_hands_here","_law_says","_law_way"]) T.b T.f_what (by walk_at"sc") Cq (by have:=dB T;have:=zJ T;walk_at"dv") El
noncomputable def wW:v8:=λds M R=>∃(q p s t:Nat) (ps:List (c5×Int)) (r:List (c5×List c5)) (hs a:List D) (k:List (D×D)),ds=[.ref q,aG ps r,.ref p,.ref s,.ref t]/\H9 M q/\HouseF ps r/\(p≠q/\s≠q/\t≠q)/\ax M p hs/\(∀x∈hs,Hd x)/\1<=hs.length/\hs.length<=12/\ax M s a/\(∀x∈a,St x)/\a.length<=1000/\M[t]?=a7 (.dkt k)/\(∀x∈k,∃v:Int,x.2=.int v/\0<=v/\v<=1000)/\∀(x:c5) (Y:List D) (n:Int),lu 4 Y->ActK r x Y->R (.tup<|.str x::Y) (M.set q<|.lst [.int n])
theorem Fo:cM wW EZ:=by rintro ds M R ⟨q,p,s,t,ps,r,hs,a,k,rfl,_⟩;rfl
theorem gB(g:Hl M B q)(h:∀(x:c5) (dl:List D) (n:Int),lu 4 dl->ActK rs x dl->R (.tup<|.str x::dl) (M.set q<|.lst [.int n]))(p:lu 4 dl)(f:ActK rs x dl):bg M R (.tup<|.str x::dl) B:=g.fin (bG 5 _<|.tup<|.cons (.str _) p) λn=>h x dl n p f
noncomputable def vY:p9:=bq<|fH<|aa (dC<|.str "rung")<|aa (r9 dH<|aa (ab 0)<|aa (ab 2)<|aa (ab 3) af) af
noncomputable def vZ:p9:=aB (A1 (ay<|p7 x9 (ab 5)<|dC<|.int 9) (bq<|fH<|aa (dC<|.str "hush")<|aa (r9 qA<|aa (ab 0)<|aa (ab 1)<|aa (ab 2)<|aa (ab 3) af)<|aa (p7 LU (r9 aq<|aa (ab 0)<|aa (dC<|.int 3) af)<|dC<|.int 0) af) bf)<|vY
noncomputable def wa:p9:=aB (A1 (ay<|p7 x9 (ab 5)<|dC<|.int 8) (bq<|fH<|aa (dC<|.str "seen")<|aa (r9 dH<|aa (ab 0)<|aa (ab 2)<|aa (ab 3) af) af) bf)<|vZ
noncomputable def wb:p9:=aB (A1 (ay<|p7 x9 (ab 5)<|dC<|.int 7) (bq<|fH<|aa (dC<|.str "read")<|aa (ab 7)<|aa (r9 jN<|aa (ab 0)<|aa (ab 2)<|aa (ab 4) af) af) bf)<|wa
noncomputable def yS:p9:=bq<|fH<|aa (dC<|.str "like")<|aa (r9 dH<|aa (ab 0)<|aa (ab 2)<|aa (ab 3) af)<|aa (ab 9)<|aa (p7 LU (r9 aq<|aa (ab 0)<|aa (dC<|.int 3) af)<|dC<|.int 0) af
noncomputable def yT:p9:=aB (A1 (ay<|p7 x9 (ab 5)<|dC<|.int 6) (aB (aT (p7 u5 (iV<|aa (dC<|.str "good")<|aa (dC<|.str "no")<|aa (r9 kC<|aa (ab 0) af) af)<|r9 aq<|aa (ab 0)<|aa (dC<|.int 3) af) 9)<|yS) bf)<|wb
noncomputable def yU:p9:=aB (A1 (ay<|p7 x9 (ab 5)<|dC<|.int 5) (bq<|fH<|aa (dC<|.str "back")<|aa (r9 dH<|aa (ab 0)<|aa (ab 2)<|aa (ab 3) af) af) bf)<|yT
noncomputable def pF:p9:=aB (A1 (ay<|p7 x9 (ab 5)<|dC<|.int 4) (bq<|fH<|aa (dC<|.str "change")<|aa (r9 dH<|aa (ab 0)<|aa (ab 2)<|aa (ab 3) af)<|aa (r9 dG<|aa (ab 0)<|aa (ab 6) af) af) bf)<|yU
noncomputable def tZ:p9:=bq<|fH<|aa (dC<|.str "say")<|aa (ab 7)<|aa (ab 8)<|aa (r9 dG<|aa (ab 0)<|aa (ab 6) af) af
noncomputable def ua:p9:=aB (A1 (Bp (ay<|p7 LU (r9 aq<|aa (ab 0)<|aa (dC<|.int 3) af)<|dC<|.int 0)<|ay<|p7 K2 (ab 3)<|iV af) (aT (r9 dH<|aa (ab 0)<|aa (ab 2)<|aa (ab 3) af) 8) bf)<|tZ
noncomputable def yV:p9:=aB (A1 (LH (ay<|p7 LG (ab 5)<|dC<|.int 4)<|Bp (ay<|p7 x9 (ab 3)<|iV af)<|ay<|p7 LG (ab 5)<|dC<|.int 7) (aB (aT (dC .non) 8)<|ua) bf)<|pF
noncomputable def yW:p9:=aB (aT (p7 u5 (p7 u5 (p7 u5 (ab 1)<|dC<|.int 1)<|r9 aq<|aa (ab 0)<|aa (r9 iT<|aa (p7 u5 (ab 1)<|dC<|.int 1) af) af)<|dC<|.int 0) 7)<|yV
noncomputable def yX:p9:=aB (ik 2 [] (bI<|p7 u5 (ab 1)<|dC<|.int 0) (nI 2<|cK (ao 0)<|cK (ao 1) nJ) sY (ab 0) 6)<|yW
noncomputable def Hg:p9:=aB (aT (r9 aq<|aa (ab 0)<|aa (dC<|.int 11) af) 5)<|yX
section
variable{M B:t5}{R:DK}{q p s t w:Nat}{ps:List (c5×Int)}{rs:List (c5×List c5)}{hs sts:List D}{kvs:List (D×D)}{kind:Int}{xs:List c5}{room:c5}{y8 y9:Option D}
theorem act_6(l:q<M.length)(V:HouseF ps rs)(F:p≠q/\s≠q/\t≠q)(o:ax M p hs)(m:∀x∈hs,Hd x)(h1:1<=hs.length)(b:hs.length<=12)(u:ax M s sts)(c:∀x∈sts,St x)(E:sts.length<=1000)(X:M[t]?=a7 (.dkt kvs))(Y:∀x∈kvs,∃v:Int,x.2=.int v/\0<=v/\v<=1000)(g:Hl M B q) (Z:M.length<=w) (U:B[w]?=a7 (.lst<|xs.map .str)) (x1:1<=xs.length) (x4:xs.length<=4) (x8:∀x∈xs,x.length<=8)(h:∀(x:c5) (dl:List D) (n:Int),lu 4 dl->ActK rs x dl->R (.tup<|.str x::dl) (M.set q<|.lst [.int n])):pF (EE M R) [a7<|.ref q,a7<|aG ps rs,a7<|.ref p,a7<|.ref s,a7<|.ref t,a7<|.int kind,a7<|.ref w,a7<|.str room,y8,y9] B:=by
 have i:∀{B:t5}{Q:DK},Hl M B q->(∀(d:D) (B':t5),St d->Hl M B' q->(∀j x,M.length<=j->B[j]?=a7 x->B'[j]?=a7 x)->Q d B')->dH [.ref q,.ref p,.ref s] B Q:=λ{B Q} g k =>
  ⟨q,p,s,hs,sts,rfl,g.hd l,F.1,F.2.1,g.oldL F.1 o,m,h1,b,g.oldL F.2.1 u,c,E,λd n a=>k d _ a (g.set l) λj x hj e=>az (by lia) e⟩
 simp only[pF];walk_at"dl";refine⟨⟨rfl,rfl⟩,?_⟩;generalize t4 B t8 (.int kind) (.int 4)=J;cases J with
 |true=>refine bH<|i g λd I a g1 f=>?_;refine⟨q,w,xs,rfl,g1.hd l,by lia,.inl<|f _ _ Z U,x1,by lia,x8,λz n H=>?_⟩;exact⟨ak (by lia),gB (g1.set l) h (.cons a.pl<|.cons (.str _) .nil)<|.mkChange a H⟩
 |false =>
 refine bE ?_;simp only[yU];walk_at"dl";refine⟨⟨rfl,rfl⟩,?_⟩;generalize t4 B t8 (.int kind) (.int 5)=K;cases K with
 |true=>exact bH<|i g λd I a g1 f=>⟨ak (by lia),gB g1 h (.cons a.pl .nil)<|.mkBack a⟩
 |false =>
 refine bE ?_;simp only[yT];walk_at"dl";refine⟨⟨rfl,rfl⟩,?_⟩;generalize t4 B t8 (.int kind) (.int 6)=N;cases N with
 |true =>
  refine bH ⟨q,rfl,g.hd l,λz n H _=>?_⟩;have g1:=g.set (n:=n) l;generalize B.set q (.lst [.int n])=I at g1;refine⟨ak (by lia),q,3,rfl,(g1.more).hd l,by decide,by decide,λk n C G=>?_⟩;have A:=(g1.more (L:=[.lst [.str<|AA0 "good",.str<|AA0 "no",.str z]])).set (n:=n) l;have W:((I++[MO.lst [.str<|AA0 "good",.str<|AA0 "no",.str z]]).set q<|.lst [.int n])[I.length]?=a7 (.lst [.str<|AA0 "good",.str<|AA0 "no",.str z]):=az (by have:=g1.len;lia) ad;generalize (I++[MO.lst [.str<|AA0 "good",.str<|AA0 "no",.str z]]).set q (.lst [.int n])=B2 at A W;have T:∃s:c5,atI [D.str<|AA0 "good",.str<|AA0 "no",.str z] k=a7 (.str s):=by
   have:k=0\/k=1\/k=2:=by lia
   rcases this with rfl|rfl|rfl;exact⟨_,aA (j:=0) rfl⟩;exact⟨_,aA (j:=1) rfl⟩;exact⟨_,aA (j:=2) rfl⟩
  obtain⟨so,es⟩:=T;refine⟨_,.inl W,?_⟩;rw[es];simp only[yS];walk_at"dl";refine i A λd B3 a g3 f=>?_;refine⟨q,3,rfl,g3.hd l,by decide,by decide,λk n C G=>?_⟩;exact⟨ak (by lia),gB (g3.set l) h (.cons a.pl<|.cons (.str _)<|.cons (.bl _) .nil)<|.mkLike a⟩
 |false =>
 refine bE ?_;simp only[wb];walk_at"dl";refine⟨⟨rfl,rfl⟩,?_⟩;generalize t4 B t8 (.int kind) (.int 7)=O;cases O with
 |true=>refine bH ⟨q,p,t,hs,kvs,rfl,g.hd l,F.1,F.2.2,g.oldL F.1 o,m,b,g.old F.2.2 X,Y,λvs n y r=>?_⟩;exact⟨ak (by lia),gB (g.set l) h (.cons (.str _)<|.cons (.tup y) .nil)<|.mkRead r⟩
 |false =>
 refine bE ?_;simp only[wa];walk_at"dl";refine⟨⟨rfl,rfl⟩,?_⟩;generalize t4 B t8 (.int kind) (.int 8)=P;cases P with
 |true=>exact bH<|i g λd I a g1 f=>⟨ak (by lia),gB g1 h (.cons a.pl .nil)<|.mkSeen a⟩
 |false =>
 refine bE ?_;simp only[vZ];walk_at"dl";refine⟨⟨rfl,rfl⟩,?_⟩;generalize t4 B t8 (.int kind) (.int 9)=S;cases S with
 |true=>refine bH ⟨q,p,s,ps,rs,hs,sts,rfl,g.hd l,V,F.1,F.2.1,g.oldL F.1 o,m,h1,b,g.oldL F.2.1 u,c,E,λd n a=>?_⟩;have g1:=g.set (n:=n) l;generalize B.set q (.lst [.int n])=I at g1;refine⟨q,3,rfl,g1.hd l,by decide,by decide,λk n C G=>?_⟩;exact⟨ak (by lia),gB (g1.set l) h (.cons a.pl4<|.cons (.bl _) .nil)<|.mkHush a⟩
 |false =>
 refine bE ?_;simp only[vY];walk_at"dl";exact i g λd I a g1 f=>⟨ak (by lia),gB g1 h (.cons a.pl .nil)<|.mkRung a⟩
end
theorem GX:x6 wW 10 Hg:=by
 rintro ds M R ⟨q,p,s,t,ps,C,hs,r,ai,rfl,hq,V,J,hp,hh,h1,N,o,I,sl,ht,hv,h⟩;have l:=hq.lt;have l1:=V.len;have l2:=V.rl;simp only[Hg];walk_at"dl";refine⟨q,11,rfl,hq,by decide,by decide,λc n _ _=>?_⟩;have Z:=hq.start.set (n:=n) l;generalize M.set q (.lst [.int n])=Q at Z;simp only[yX,aG];walk_at"dl";intro _;refine bJ (λd=>(match d with|.tup (x::_)=>x|_=>.non)) (λS=>∃a b,S=[a,b]) trivial _ _ _ (λx O S hS=>?_) ⟨_,_,rfl⟩ (by rw[B8,u4];exact ak<|by lia) ?_;obtain⟨a,b,rfl⟩:=hS;obtain⟨y,_,rfl⟩:=v6.mp O;refine⟨[a7<|.str y.1,a7<|.int y.2],⟨_,_,rfl⟩,λY hY=>?_⟩;unfold ga;walk_at"dl";exact⟨trivial,hY⟩;rw[D5];have en:(ps.map ga).map (λd=>(match d with|.tup (x::_)=>x|_=>.non))=(ps.map (·.1)).map D.str:=by rw[E2,E2];rfl
 rw[en];have g1:=Z.more (L:=[.lst ((ps.map (·.1)).map D.str)]);have i:(Q++[MO.lst ((ps.map (·.1)).map D.str)])[Q.length]?=a7 (.lst ((ps.map (·.1)).map D.str)):=ad;have wM:=Z.len;have x8:∀x∈ps.map (·.1),x.length<=8:=λx O=>by obtain⟨y,hy,rfl⟩:=v6.mp O;exact V.nm y hy
 have xl:(ps.map (·.1)).length=ps.length:=u4 _;generalize Q++[MO.lst ((ps.map (·.1)).map D.str)]=B1 at g1 i;generalize Q.length=w at i wM;generalize ps.map (·.1)=xs at i x8 xl;simp only[yW];walk_at"dl";refine⟨q,_,rfl,g1.hd l,by rw[u4];lia,by rw[u4];lia,λk n k0 k1=>?_⟩;have T:=g1.set (n:=n) l;have F:(B1.set q<|.lst [.int n])[w]?=a7 (.lst<|xs.map .str):=az (by lia) i;generalize B1.set q (.lst [.int n])=B2 at T F;obtain⟨j,hj,ej,_⟩:=dF (xs:=C.map eS) k0 k1;rw[Mc]at ej;have G:j<C.length:=by rw[u4]at hj;exact hj
 have hr:(C[j]'G).1∈C.map (·.1):=G7<|J0 G;walk_at"dl";rw[ej];unfold eS;walk_at"dl";generalize (C[j]'G).1=m at hr;have A:∀{B:t5},∀x∈r,u3 B 29 x=a9:=λ{B} x O=>by obtain⟨t,z,k,rfl⟩:=I x O;rfl
 have P:∀{B:t5}{y8 y9:Option D},Hl M B q->B[w]?=a7 (.lst<|xs.map .str)->pF (EE M R) [a7<|.ref q,a7<|aG ps C,a7<|.ref p,a7<|.ref s,a7<|.ref t,a7<|.int c,a7<|.ref w,a7<|.str m,y8,y9] B:=λg i=>act_6 l V J hp hh h1 N o I sl ht hv g wM i (by lia) (by lia) x8 h;have v:∀{E:DEnds}{B:t5}{y9:Option D},E.rt=bg M R->Hl M B q->B[w]?=a7 (.lst<|xs.map .str)->ua E [a7<|.ref q,a7<|aG ps C,a7<|.ref p,a7<|.ref s,a7<|.ref t,a7<|.int c,a7<|.ref w,a7<|.str m,a7 .non,y9] B:=λ{E B y9} eR g i=>by
  have e:∀{B:t5}{u:D},Hl M B q->B[w]?=a7 (.lst<|xs.map .str)->(u=.non\/St u)->tZ E [a7<|.ref q,a7<|aG ps C,a7<|.ref p,a7<|.ref s,a7<|.ref t,a7<|.int c,a7<|.ref w,a7<|.str m,a7 u,y9] B:=λ{B u} g i W=>by
   simp only[tZ];walk_at"dl";refine⟨q,w,xs,rfl,g.hd l,by lia,.inl i,by lia,by lia,x8,λz n zl=>?_⟩;have up:E4 4 u:=by rcases W with rfl|W;exact .non;exact W.pl
   refine⟨ak (by lia),?_⟩;rw[eR];exact gB (g.set l) h (.cons (.str _)<|.cons up<|.cons (.str _) .nil)<|.mkSay hr W zl
  simp only[ua];walk_at"dl";refine⟨q,3,rfl,g.hd l,by decide,by decide,λk n k0 k1=>?_⟩;have g3:=g.set (n:=n) l;have H:(B.set q<|.lst [.int n])[w]?=a7 (.lst<|xs.map .str):=az (by lia) i;generalize B.set q (.lst [.int n])=B3 at g3 H;walk_at"dl";by_cases hk:k > 0;rw[dT_ hk];obtain⟨K,X⟩:=dO (g3.oldL J.2.1 o) A;refine bH ⟨w5 _,K,?_⟩;rw[X];have f:=g3.more (L:=[.lst []]);have U:=ac (a:=.lst []) H;generalize B3++[MO.lst []]=B4 at f U;cases he:r.isEmpty with
  |true=>exact bE<|e f U<|.inl rfl
  |false=>refine bH ⟨q,p,s,hs,r,rfl,f.hd l,J.1,J.2.1,f.oldL J.1 hp,hh,h1,N,f.oldL J.2.1 o,I,sl,λd n hd=>?_⟩;exact e (f.set l) (az (by lia) U)<|.inr hd
  rw[dF_ hk];exact bE<|e g3 H<|.inl rfl
 simp only[yV];walk_at"dl";by_cases h4:c<4;rw[dT_ h4];exact bH<|v rfl T F;rw[dF_ h4];obtain⟨K,X⟩:=dO (T.oldL J.2.1 o) A;refine bE ⟨w5 _,K,?_⟩;rw[X];have f:=T.more (L:=[.lst []]);have U:=ac (a:=.lst []) F;generalize B2++[MO.lst []]=B4 at f U;cases he:r.isEmpty with
 |true=>refine bH ?_;by_cases h7:c<7;rw[dT_ h7];exact bH<|v rfl f U;rw[dF_ h7];exact bE<|P f U
 |false=>exact bE<|P f U
theorem Iq(T:Tops P w K mg base):u7 P w K mg base 4 "_law_act" EZ wW:=u7.byD (N:=["_law_held","_law_house_here","_law_hands_here","_law_says","_law_done","_law_kind","_law_names_here","_law_room","_law_under","_law_sort"]) T.b T.f_act (by walk_at"sc") Fo (by have:=dB T;have:=zK T;have:=se T;have:=zJ T;have:=zI T;have:=Fc T;walk_at"dv") GX
noncomputable def jP:v8:=λds M R=>∃(ps:List (c5×Int)) (r:List D),ds=[.tup<|.tup (ps.map ga)::r]/\Pe ps/\R (.ref M.length) (M++[.lst<|aI ps])
theorem Ad:cM jP uk:=by rintro ds M R ⟨ps,r,rfl,_⟩;rfl
noncomputable def rG:p9:=bq<|ab 1
noncomputable def rH:p9:=aB (nK (bI<|p7 u5 (ab 0)<|dC<|.int 0) (nI 2<|cK (ao 2)<|cK (ao 3) nJ)<|lq<|K5 my (ab 1)<|aa (D2 1 [2] (eH<|aa (ab 3) af) (ao 0) sY<|fH<|aa (ab 1)<|aa (ab 0) af) af)<|rG
noncomputable def yR:p9:=aB (aT (iV af) 1)<|rH
theorem Bu:x6 jP 4 yR:=by
 rintro ds M R ⟨ps,r,rfl,⟨n,d⟩,h⟩;simp only[yR,rH];walk_at"dl";refine⟨w5 _,λ_=>?_⟩;have j:∀qs:List (c5×Int),(∀p∈qs,p∈ps)->qs.length<=4->(aI qs).length<=12:=λqs h1 h2=>by have:=oX (ps:=qs) λp f=>d p<|h1 p f;lia
 refine jJ (λys S c=>∃qs s a b L,ps=qs++s/\ys=s.map ga/\c=M++.lst (aI qs)::L/\S=[a7<|.tup<|.tup (ps.map ga)::r,a7<|.ref M.length,a,b]) ?_ ?_ _ _ _ ⟨[],ps,_,_,[],rfl,rfl,rfl,rfl⟩;rintro S c ⟨qs,s,a,b,L,e,q,rfl,rfl⟩;have:s=[]:=by cases s<;>simp_all
 subst this;rw[I9]at e;subst e;refine⟨trivial,?_⟩;simp only[rG];walk_at"dl";exact bg.lst h (u6 _) kw xS;rintro x xs S c ⟨qs,s,a,b,L,e,q,rfl,rfl⟩ G l;cases s with
 |nil=>cases q
 |cons p s =>
  rw[C0]at q;injection q with e1 e2;subst e1;have f:=d p (by rw[e];simp);refine⟨trivial,?_⟩;unfold ga;walk_at"dl";refine⟨trivial,⟨_,.inl kw⟩,⟨by lia,by lia⟩,?_⟩;refine bJ (λk=>.tup [.str p.1,k]) (λS=>∃a,S=[a,a7<|.str p.1]) trivial _ _ _ (λk o S g=>?_) ⟨_,rfl⟩ ?_ ?_;obtain⟨a,rfl⟩:=g;refine⟨[a7 k,a7<|.str p.1],⟨_,rfl⟩,λY i=>?_⟩;walk_at"dl";exact⟨ak (by lia),i⟩;simp only[B8,fh];exact ak (by lia);rw[D5];have V:(tN 0 p.2.toNat).map (λk=>D.tup [.str p.1,k])=eG p:=rfl;rw[V];have t:=j qs (λz m=>by rw[e];exact Ks _ m) (by have:=o8 Kl e;rw[z5]at this;lia);have u:(eG p).length<=3:=by rw[iL];lia
  rw[F8,On];refine⟨_,eG p,kw,?_,?_,ak (by lia),?_⟩;rw[<-On,<-F8];exact ad;rw[z5,C2];lia;rw[mj];refine A9.now<|l _ _ ⟨qs++[p],s,_,_,L++[.lst<|eG p],by rw[F8];exact e,e2,?_,rfl⟩;rw[show aI (qs++[p])=aI qs++eG p by simp[aI]]
theorem wx(T:Tops P w K mg base):u7 P w K mg base 1 "_law_hands" uk jP:=u7.byD (N:=["_law_house_here","_law_found","_law_name_here","_law_many"]) T.b T.f_hands (by walk_at"sc") Ad (by walk_at"dv") Bu
structure LogS(ps:List (c5×Int))(rs:List (c5×List c5))(log:List D):Prop where
 dk:∀d∈log,aH ps rs d
 up:log.Pairwise λa b=>C4 t8 (s9 a)<C4 t8 (s9 b)
 len:log.length<=60
noncomputable def wV:v8:=λds M R=>∃(ps:List (c5×Int)) (a:List (c5×List c5)) (p N:Nat) (cs:List Int),ds=[.ref p,aG ps a]/\HouseF ps a/\ax M p (cs.map .int)/\p≠N/\cs.length<=60/\M[N]?=a7 (.tb (AA0 "_law_log") bt)/\∀g,LogS ps a g->R (.tup g) (M.set N<|.tb (AA0 "_law_log") a9)
theorem Fl:cM wV EX:=by rintro ds M R ⟨ps,a,p,N,cs,rfl,_⟩;rfl
noncomputable def fe:D->Int
 |.tup (.int t::_)=>t
 |_=>0
noncomputable def N5:D->D
 |.tup (_::h::_)=>h
 |_=>.non
theorem mV(hf:HouseF ps rs):Pe ps/\1<=(aI ps).length/\(aI ps).length<=12:=by
 have f:Pe ps:=⟨hf.len.2,λq h=>⟨by have:=hf.many q h;lia,(hf.many q h).2⟩⟩
 have n:=oX f.2;refine⟨f,?_,by have:=f.1;lia⟩
 match ps,hf with
 | [],hf=>have:=hf.len.1;simp at this
 |p::ps,hf=>have:=(hf.many p<|by simp).1;rw[aI,List.flatMap_cons,z5,iL];lia
structure GenD(ps:List (c5×Int))(rs:List (c5×List c5))(deeds sts:List D)(las cnt:List (D×D))(n:Nat):Prop where
 dk:∀d∈deeds,aH ps rs d
 nd:(deeds.map s9).Nodup
 la:∀d∈deeds,∃v:Int,aX las (N5 d)=a7 (.int v)/\fe d<=v
 lv:∀x∈las,∃v:Int,x.2=.int v/\0<=v
 cv:∀x∈cnt,∃v:Int,x.2=.int v/\0<=v/\v<=n
 so:∀x∈sts,St x
 dl:deeds.length<=n
 sl:sts.length<=n
 ll:las.length<=n
 cl:cnt.length<=n
theorem GenD.next{ps:List (c5×Int)}{rs:List (c5×List c5)}{s q f:List D}{l i:List (D×D)}{n:Nat}{t p:Int}{z x:c5}{k c:Int}{Y:List D}(g:GenD ps rs s q l i n)(B:D.tup [.str z,.int k]∈aI ps)(S:1<=t)(u:∀v:Int,aX l (.tup [.str z,.int k])=a7 (.int v)->v<t)(V:0<=c)(F:c<=n)(A:lu 4 Y)(o:ActK rs x Y)(C:∀x∈f,St x) (E:f.length<=n+1):GenD ps rs (s++[.tup [.int t,.tup [.str z,.int k],.int p,.tup<|.str x::Y]]) f (iu l (.tup [.str z,.int k])<|.int t) (iu i (.tup [.str z,.int k])<|.int<|c+1) (n+1):=by have h1:=g.dl;have h2:=g.ll;have G:=g.cl;refine⟨λd h=>?_,?_,λd h=>?_,λy O=>?_,λy O=>?_,C,by rw[z5,G8];lia,E,?_,?_⟩;rcases C9.mp h with h|h;exact g.dk d h;rw[show d=_ from by simpa using h];exact⟨_,_,_,_,_,_,rfl,S,B,A,o⟩;rw[G1];refine Oo.mpr ⟨g.nd,by simp,λa o b w e=>?_⟩;obtain⟨d,h,rfl⟩:=v6.mp o;rw[show b=_ from by simpa using w]at e;obtain⟨t',J,H,r,I,ds',rfl,_⟩:=g.dk d h;obtain⟨v,j,m⟩:=g.la _ h;simp only[s9,D.tup.injEq,MC,D.int.injEq,D.str.injEq,and_true]at e;obtain⟨rfl,rfl,rfl⟩:=e;have:=u v j;simp only[fe]at m;lia;rcases C9.mp h with h|h;obtain⟨v,j,m⟩:=g.la d h;by_cases e:N5 d=.tup [.str z,.int k];rw[e]at j ⊢;exact⟨t,gM,by have:=u v j;lia⟩;exact⟨v,by rw[gn e];exact j,m⟩;rw[show d=_ from by simpa using h];exact⟨t,gM,Int.le_refl _⟩;rcases gJ O with rfl|O;exact⟨t,rfl,by lia⟩;exact g.lv y O;rcases gJ O with rfl|O;exact⟨c+1,rfl,by lia,by lia⟩;obtain⟨v,j,m,R⟩:=g.cv y O;exact⟨v,j,m,by lia⟩;have:=pJ (kvs:=l) (k:=.tup [.str z,.int k]) (d:=.int t);lia;have:=pJ (kvs:=i) (k:=.tup [.str z,.int k]) (d:=.int<|c+1);lia
structure D9(M B:t5)(hs deeds sts:List D)(las cnt:List (D×D)):Prop where
 pre:M <+: B
 hs:B[M.length]?=a7 (.lst hs)
 las:B[M.length+1]?=a7 (.dkt las)
 cnt:B[M.length+2]?=a7 (.dkt cnt)
 sts:B[M.length+3]?=a7 (.lst sts)
 deeds:B[M.length+4]?=a7 (.lst deeds)
section
variable{M B:t5}{hs deeds sts:List D}{las cnt:List (D×D)}{q:Nat}{x:MO}
theorem D9.more(g:D9 M B hs deeds sts las cnt):D9 M (B++L) hs deeds sts las cnt:=⟨g.pre.trans<|F9 _ _,be (F9 _ _) g.hs,be (F9 _ _) g.las,be (F9 _ _) g.cnt,be (F9 _ _) g.sts,be (F9 _ _) g.deeds⟩
theorem D9.lt(g:D9 M B hs deeds sts las cnt):M.length+5<=B.length:=aU g.deeds
theorem D9.set(g:D9 M B hs deeds sts las cnt)(h:M.length+5<=q):D9 M (B.set q x) hs deeds sts las cnt:=⟨du g.pre (by lia),az (by lia) g.hs,az (by lia) g.las,az (by lia) g.cnt,az (by lia) g.sts,az (by lia) g.deeds⟩
theorem D9.setD(g:D9 M B hs deeds sts las cnt):D9 M (B.set (M.length+4)<|.lst ds') hs ds' sts las cnt:=⟨du g.pre (by lia),az (by lia) g.hs,az (by lia) g.las,az (by lia) g.cnt,az (by lia) g.sts,dD g.deeds⟩
theorem D9.setS(g:D9 M B hs deeds sts las cnt):D9 M (B.set (M.length+3)<|.lst ds') hs deeds ds' las cnt:=⟨du g.pre (by lia),az (by lia) g.hs,az (by lia) g.las,az (by lia) g.cnt,dD g.sts,az (by lia) g.deeds⟩
theorem D9.setC(g:D9 M B hs deeds sts las cnt):D9 M (B.set (M.length+2)<|.dkt kvs) hs deeds sts las kvs:=⟨du g.pre (by lia),az (by lia) g.hs,az (by lia) g.las,dD g.cnt,az (by lia) g.sts,az (by lia) g.deeds⟩
theorem D9.setL(g:D9 M B hs deeds sts las cnt):D9 M (B.set (M.length+1)<|.dkt kvs) hs deeds sts kvs cnt:=⟨du g.pre (by lia),az (by lia) g.hs,dD g.las,az (by lia) g.cnt,az (by lia) g.sts,az (by lia) g.deeds⟩
end
theorem FO{kvs:List (D×D)}(h:∀x∈kvs,∃v:Int,x.2=.int v/\0<=v):∃vs:List Int,kvs.map (·.2)=vs.map D.int:=by
 induction kvs with
 |nil=>exact⟨[],rfl⟩
 |cons p kvs i=>obtain⟨v,e,_⟩:=h p (by simp);obtain⟨vs,l⟩:=i λx a=>h x<|A0 _ a;exact⟨v::vs,by rw[C0,C0,e,l]⟩
noncomputable def vQ:p9:=bq<|r9 jw<|aa (lD "_law_log" ["_law_deed"] (KQ (ab 0) fI<|gx<|dC<|.int 2)<|aa (ab 6) af) af
noncomputable def vR:p9:=A1 (ay<|p7 x9 (p7 u5 (ab 12)<|dC<|.int 0)<|dC<|.str "say") (lq<|K5 cN (ab 5)<|aa (fH<|aa (ab 11)<|aa (ab 9) af) af) bf
noncomputable def vS:p9:=aB (xZ (ab 4) (ab 9)<|p7 aW (LY jx (ab 4)<|aa (ab 9)<|aa (dC<|.int 0) af)<|dC<|.int 1)<|vR
noncomputable def vT:p9:=aB (xZ (ab 3) (ab 9)<|ab 11)<|vS
noncomputable def vU:p9:=aB (lq<|K5 cN (ab 6)<|aa (fH<|aa (ab 11)<|aa (ab 9)<|aa (LY jx (ab 4)<|aa (ab 9)<|aa (dC<|.int 0) af)<|aa (ab 12) af) af)<|vT
noncomputable def pE:p9:=aB (aT (r9 wW<|aa (ab 8)<|aa (ab 1)<|aa (ab 2)<|aa (ab 5)<|aa (ab 4) af) 12)<|vU
noncomputable def yB:p9:=aB (A1 (ay<|p7 x9 (ab 10)<|dC<|.int 3) (aT (p7 aW (dC<|.int 1)<|r9 xq<|aa (p7 aW (iV<|aa (dC<|.int 0) af)<|jK<|ab 3) af) 11) bf)<|pE
noncomputable def yC:p9:=aB (aT (p7 aW (p7 aW (LY jx (ab 3)<|aa (ab 9)<|aa (dC<|.int 0) af)<|dC<|.int 1)<|r9 aq<|aa (ab 8)<|aa (p7 u5 (iV<|aa (dC<|.int 3)<|aa (dC<|.int 6)<|aa (p7 EG (dC<|.int 10)<|dC<|.int 7)<|aa (dC<|.int 1) af)<|ab 10) af) 11)<|yB
noncomputable def yD:p9:=aB (aT (r9 aq<|aa (ab 8)<|aa (dC<|.int 4) af) 10)<|yC
noncomputable def tW:p9:=aB (aT (p7 u5 (ab 2)<|r9 aq<|aa (ab 8)<|aa (r9 iT<|aa (ab 2) af) af) 9)<|yD
noncomputable def yE:p9:=aB (nK (bI<|ab 0) (ao 7)<|aB (aT (r9 dI<|aa (ab 7) af) 8)<|tW)<|vQ
noncomputable def yF:p9:=aB (aT (iV af) 6)<|yE
noncomputable def yG:p9:=aB (aT (iV af) 5)<|yF
noncomputable def yH:p9:=aB (aT (ya) 4)<|yG
noncomputable def yI:p9:=aB (aT (ya) 3)<|yH
noncomputable def He:p9:=aB (aT (r9 jP<|aa (ab 1) af) 2)<|yI
theorem DU{M B:t5}{E:DEnds}{s a hs:List D}{l i:List (D×D)}{n q:Nat}{t w:Int}{z:c5}{k:Int}{ps:List (c5×Int)}{rs:List (c5×List c5)}{I J o:Option D}(g:D9 M B hs s a l i)(G:GenD ps rs s a l i n)(W:HouseF ps rs)(Y:∀x∈hs,Hd x)(h1:1<=hs.length)(m:hs.length<=12)(Z:n<60)(U:H9 B q)(qM:M.length+5<=q)(h:D.tup [.str z,.int k]∈aI ps)(S:1<=t)(H:∀v:Int,aX l (.tup [.str z,.int k])=a7 (.int v)->v<t)(u:∀deeds' sts' las' cnt' B' y,D9 M B' hs deeds' sts' las' cnt'->GenD ps rs deeds' sts' las' cnt' (n+1)->E.nx [I,a7<|aG ps rs,a7<|.ref M.length,a7<|.ref<|M.length+1,a7<|.ref<|M.length+2,a7<|.ref<|M.length+3,a7<|.ref<|M.length+4,J,a7<|.ref q,a7<|.tup [.str z,.int k],a7<|.int w,a7<|.int t,y] B'):pE E [I,a7<|aG ps rs,a7<|.ref M.length,a7<|.ref<|M.length+1,a7<|.ref<|M.length+2,a7<|.ref<|M.length+3,a7<|.ref<|M.length+4,J,a7<|.ref q,a7<|.tup [.str z,.int k],a7<|.int w,a7<|.int t,o] B:=by
 have dl:=G.dl;have sl:=G.sl;have ll:=G.ll;have cl:=G.cl;simp only[pE];walk_at"dl";refine⟨q,_,_,_,ps,rs,hs,a,i,rfl,U,W,⟨by lia,by lia,by lia⟩,.inl g.hs,Y,h1,m,.inl g.sts,G.so,by lia,g.cnt,λx h=>by obtain⟨v,R,T,e3⟩:=G.cv x h;exact⟨v,R,T,by lia⟩,λx f F C A=>?_⟩;have g1:=g.set (x:=.lst [.int F]) qM;generalize B.set q (.lst [.int F])=K at g1;have X:∃c:Int,(aX i<|.tup [.str z,.int k]).getD (.int 0)=.int c/\0<=c/\c<=n:=by
  cases e:aX i (.tup [.str z,.int k]) with
  |none=>exact⟨0,rfl,by decide,by lia⟩
  |some d=>exact G.cv _<|cy e
 obtain⟨c,r,V,p⟩:=X;simp only[vU];walk_at"dl";refine⟨⟨_,.inl g1.deeds⟩,⟨_,g1.cnt⟩,_,g1.cnt,rfl,?_⟩;rw[r];refine⟨ak (by lia),_,g1.deeds,aL (by lia),?_⟩;have j:=g1.setD (ds':=s++[.tup [.int t,.tup [.str z,.int k],.int c,.tup<|.str x::f]]);generalize K.set (M.length+4) _=L at j;simp only[vT];walk_at"dl";refine⟨_,j.las,rfl,aL (by lia),?_⟩;have g3:=j.setL (kvs:=iu l (.tup [.str z,.int k])<|.int t);generalize L.set (M.length+1) _=N at g3;simp only[vS];walk_at"dl";refine⟨⟨_,g3.cnt⟩,_,g3.cnt,rfl,?_⟩;rw[r];refine⟨_,g3.cnt,rfl,aL (by lia),?_⟩;have b:=g3.setC (kvs:=iu i (.tup [.str z,.int k])<|.int<|c+1);generalize N.set (M.length+2) _=P at b;simp only[vR];walk_at"dl";refine⟨⟨ar,ar⟩,?_⟩;generalize t4 P t8 (.str x) (.str<|AA0 "say")=Q;cases Q with
 |true=>refine bH ⟨⟨_,.inl b.sts⟩,ak (by lia),_,b.sts,aL (by lia),?_⟩;refine u _ _ _ _ _ _ b.setS (G.next h S H V p C A (λy O=>?_)<|by rw[z5,G8];lia);rcases C9.mp O with O|O;exact G.so y O;rw[show y=_ from by simpa using O];exact⟨_,_,_,rfl⟩
 |false=>exact bE<|u _ _ _ _ _ _ b<|G.next h S H V p C A G.so<|by lia
theorem Cp{M B:t5}{E:DEnds}{s J:List D}{l F:List (D×D)}{n:Nat}{r:Int}{ps:List (c5×Int)}{rs:List (c5×List c5)}{y0 y8 y9 al an as:Option D}(g:D9 M B (aI ps) s J l F)(G:GenD ps rs s J l F n)(hf:HouseF ps rs)(Z:n<60)(hE:∀deeds' sts' las' cnt' B' a b c d y,D9 M B' (aI ps) deeds' sts' las' cnt'->GenD ps rs deeds' sts' las' cnt' (n+1)->E.nx [y0,a7<|aG ps rs,a7<|.ref M.length,a7<|.ref<|M.length+1,a7<|.ref<|M.length+2,a7<|.ref<|M.length+3,a7<|.ref<|M.length+4,a7<|.int r,a,b,c,d,y] B'):(aB (aT (r9 dI<|aa (ab 7) af) 8)<|tW) E [y0,a7<|aG ps rs,a7<|.ref M.length,a7<|.ref<|M.length+1,a7<|.ref<|M.length+2,a7<|.ref<|M.length+3,a7<|.ref<|M.length+4,a7<|.int r,y8,y9,al,an,as] B:=by
 obtain⟨aD,n1,N⟩:=mV hf;have hh:∀x∈aI ps,Hd x:=qh;have ll:=G.ll;walk_at"dl";refine⟨r,rfl,λS=>?_⟩;have t:H9 (B++[MO.lst [.int S]]) B.length:=⟨S,ad⟩
 have g0:=g.more (L:=[.lst [.int S]]);have T:=g.lt;generalize B++[MO.lst [D.int S]]=B0 at g0 t;generalize B.length=q at t T;have I:=t.lt;have ai:=t.start;have p:∀{C:t5},Hl B0 C q->D9 M C (aI ps) s J l F:=λ{C} h=>by obtain⟨n2,L,rfl⟩:=h;exact(g0.set (x:=.lst [.int n2]) T).more
 simp only[tW];walk_at"dl";refine⟨_,.inl g0.hs,q,_,rfl,t,by lia,by lia,λi m i0 i1=>?_⟩;have h1:=ai.set (n:=m) I;generalize B0.set q (.lst [.int m])=B1 at h1;obtain⟨j,hj,ej,_⟩:=dF (xs:=aI ps) i0 i1;have R:=J0 hj;refine⟨_,.inl (p h1).hs,?_⟩;rw[ej];obtain⟨z,k,ez⟩:=hh _ R;rw[ez]at R ⊢;simp only[yD];walk_at"dl";refine⟨q,4,rfl,h1.hd I,by decide,by decide,λo m w0 w1=>?_⟩;have h2:=h1.set (n:=m) I;generalize B1.set q (.lst [.int m])=B2 at h2;have hl:∃v:Int,(aX l<|.tup [.str z,.int k]).getD (.int 0)=.int v/\0<=v/\∀u:Int,aX l (.tup [.str z,.int k])=a7 (.int u)->u=v:=by
  cases e:aX l (.tup [.str z,.int k]) with
  |none=>exact⟨0,rfl,by decide,λu w=>by cases w⟩
  |some d=>obtain⟨v,O,v0⟩:=G.lv _<|cy e;exact⟨v,O,v0,λu w=>by rw[show d=.int v from O]at w;cases w;rfl⟩
 obtain⟨v,O,v0,vu⟩:=hl;simp only[yC];walk_at"dl";refine⟨⟨_,(p h2).las⟩,_,(p h2).las,rfl,?_⟩;rw[O];have ex:∃m:Int,atI [D.int 3,.int 6,.int<|10 ^ Int.toNat 7,.int 1] o=a7 (.int m)/\0<m/\m<100000000000:=by
  have:o=0\/o=1\/o=2\/o=3:=by lia
  rcases this with rfl|rfl|rfl|rfl;exact⟨_,aA (j:=0) rfl,by decide,by decide⟩;exact⟨_,aA (j:=1) rfl,by decide,by decide⟩;exact⟨_,aA (j:=2) rfl,by decide,by decide⟩;exact⟨_,aA (j:=3) rfl,by decide,by decide⟩
 obtain⟨m0,em,mp,ml⟩:=ex;refine⟨⟨by decide,by decide,by decide⟩,ak (by lia),_,au,?_⟩;rw[em];refine⟨q,m0,rfl,(h2.more).hd I,mp,ml,λa m a0 a1=>?_⟩;have Q:=(h2.more (L:=[.lst [D.int 3,.int 6,.int<|10 ^ Int.toNat 7,.int 1]])).set (n:=m) I;generalize (B2++[MO.lst [D.int 3,.int 6,.int<|10 ^ Int.toNat 7,.int 1]]).set q (.lst [.int m])=K at Q;simp only[yB];walk_at"dl";refine⟨⟨rfl,rfl⟩,?_⟩;generalize t4 K t8 (.int o) (.int 3)=b3;cases b3 with
 |false=>refine bE ?_;exact DU (p Q) G hf hh n1 N Z (Q.hd I) T R (by lia) (λu w=>by rw[vu u w];lia) λd' s' l' c' B' y Y V=>hE _ _ _ _ _ _ _ _ _ _ Y V
 |true =>
  obtain⟨vs,H⟩:=FO G.lv;have vl:vs.length=l.length:=by have:=o8 Kl H;rw[u4,u4]at this;exact this.symm
  have h4:=Q.more (L:=[.lst [.int 0]]);have g4:=p h4;have W:(K++[MO.lst [D.int 0]])[K.length]?=a7 (.lst [.int 0]):=ad;generalize K++[MO.lst [D.int 0]]=P at h4 g4 W;generalize K.length=r4 at W;refine bH ⟨ak (by lia),_,g4.las,?_⟩;rw[H];have h5:=h4.more (L:=[.lst<|vs.map .int]);have e5:=ac (a:=.lst<|vs.map .int) W;have X:(P++[MO.lst<|vs.map .int])[P.length]?=a7 (.lst<|vs.map .int):=ad;generalize P++[MO.lst<|vs.map .int]=U at h5 e5 X;generalize P.length=r5 at X;refine⟨_,_,e5,X,ak (by rw[u4,G8];lia),?_⟩;have h6:=h5.more (L:=[.lst<|[.int 0]++vs.map .int]);have e7:(U++[MO.lst<|[D.int 0]++vs.map .int])[U.length]?=a7 (.lst<|(0::vs).map .int):=ad;generalize U++[MO.lst<|[D.int 0]++vs.map .int]=B6 at h6 e7;refine⟨0::vs,.inl e7,by simp,λmx mm A=>?_⟩;have aP:=A 0 (by simp);refine DU (p h6) G hf hh n1 N Z (h6.hd I) T R (by lia) (λu w=>?_) λd' s' l' c' B' y Y V=>hE _ _ _ _ _ _ _ _ _ _ Y V;have hu:D.int u∈l.map (·.2):=G7 (f:=(·.2))<|cy w;rw[H]at hu;obtain⟨u',aj,eu⟩:=v6.mp hu;cases eu;have:=A u<|A0 _ aj;lia
theorem GV:x6 wV 13 He:=by
 rintro ds M R ⟨ps,r,p,N,cs,rfl,H,v,pt,cl,J,h⟩;obtain⟨w,n1,ai⟩:=mV H;simp only[He,aG];walk_at"dl";refine⟨ps,_,rfl,w,?_⟩;simp only[yI,yH,yG,yF];walk_at"dl";refine⟨w5 _,w5 _,?_⟩;have C:(M++[MO.lst<|aI ps]).length=M.length+1:=by simp
 have E:(M++[MO.lst<|aI ps]++[MO.dkt []]).length=M.length+2:=by simp
 have F:(M++[MO.lst<|aI ps]++[MO.dkt []]++[MO.dkt []]).length=M.length+3:=by simp
 have I:(M++[MO.lst<|aI ps]++[MO.dkt []]++[MO.dkt []]++[MO.lst []]).length=M.length+4:=by simp
 rw[C,E,F,I];have u:D9 M (M++[MO.lst<|aI ps]++[MO.dkt []]++[MO.dkt []]++[MO.lst []]++[MO.lst []]) (aI ps) [] [] [] []:=by refine⟨(((dL.trans dL).trans dL).trans dL).trans dL,ac<|ac<|ac<|ac ad,?_,?_,?_,?_⟩;rw[<-C];exact ac<|ac<|ac ad;rw[<-E];exact ac<|ac ad;rw[<-F];exact ac ad;rw[<-I];exact ad
 generalize M++[MO.lst<|aI ps]++[MO.dkt []]++[MO.dkt []]++[MO.lst []]++[MO.lst []]=B0 at u;simp only[yE];walk_at"dl";refine⟨_,uD u.pre v,λ_=>?_⟩;refine bA (λi S n=>∃(s m:List D) (l j:List (D×D)) (a b c d e f:Option D),D9 M n (aI ps) s m l j/\GenD ps r s m l j i/\S=[a7<|.ref p,a7<|aG ps r,a7<|.ref M.length,a7<|.ref<|M.length+1,a7<|.ref<|M.length+2,a7<|.ref<|M.length+3,a7<|.ref<|M.length+4,a,b,c,d,e,f]) ?_ ?_ ⟨[],[],[],[],_,_,_,_,_,_,u,⟨(λ_ z=>nomatch z),.nil,(λ_ z=>nomatch z),(λ_ z=>nomatch z),(λ_ z=>nomatch z),(λ_ z=>nomatch z),u6 _,u6 _,u6 _,u6 _⟩,rfl⟩;rintro S n ⟨s,m,l,j,a,b,c,d,e,f,g,G,rfl⟩;rw[u4]at G;have dl:=G.dl;refine⟨uD g.pre v,?_⟩;simp only[vQ];walk_at"dl";have tl:=aU J;have Z:(n.set N<|.tb (AA0 "_law_log") a9)[M.length+4]?=a7 (.lst s):=az (by lia) g.deeds;have hS:∀x∈s.map s9,St x:=λx hx=>by obtain⟨d,o,rfl⟩:=v6.mp hx;exact(G.dk d o).st
 refine⟨N,s,s9,be g.pre J,.inr ⟨_,rfl,.inl Z⟩,λd o=>?_,(yZ hS<|by rw[u4];lia).g,λys O hr=>?_⟩;obtain⟨t,z,k,aj,x,ds,rfl,_⟩:=G.dk d o;walk_at"dl";exact .inl ⟨rfl,rfl⟩;have ml:n.length=(n.set N<|.tb (AA0 "_law_log") a9).length:=(J5 ..).symm;refine⟨ys,by rw[ml];exact au,?_⟩;have q:∀d∈ys,aH ps r d:=λd o=>G.dk d<|O.mem_iff.mp o;have nd:(ys.map s9).Nodup:=(O.map _).nodup_iff.mpr G.nd;have ls:LogS ps r ys:=by
  refine⟨q,?_,by rw[O.length_eq];lia⟩;have n2:ys.Pairwise λa b=>s9 a≠s9 b:=List.pairwise_map.mp<|NW.mp nd;refine(List.Pairwise.and_mem.mp<|hr.and n2).imp λ{a b} ⟨ha,hb,q1,q2⟩=>?_;have A:=(q a ha).st;have T:=(q b hb).st;have P:A4 t8 (s9 a)=a9:=by obtain⟨t,z,k,e⟩:=A;rw[e];rfl
  have Q:A4 t8 (s9 b)=a9:=by obtain⟨t,z,k,e⟩:=T;rw[e];rfl
  rw[uC Q P<|T.cm A]at q1;have q3:=of_decide_eq_false q1;refine Lq λq4=>q2 ?_;exact Gd (M:=[]) P Q (A.cm T)<|List.le_antisymm (List.not_lt.mp q3)<|List.not_lt.mp q4
 obtain⟨L,hL⟩:=g.pre;have X:n.set N (.tb (AA0 "_law_log") a9)=M.set N (.tb (AA0 "_law_log") a9)++L:=by rw[<-hL,List.set_append_left _ _ tl]
 rw[X];refine bg.chg (K8.set .refl .nil) (h ys ls) (.tup<|aH.bels q) ?_;rw[F8];exact F9 _ _;rintro i y S n O ⟨s,m,l,j,a,b,c,d,e,f,g,G,rfl⟩ K hK;rw[D0]at O;obtain⟨B,hc,rfl⟩:=Le.mp O;have hi:=(w6.mp hc).1;refine⟨uD g.pre v,?_⟩;simp only[ao,List.set_cons_zero,List.set_cons_succ];exact Cp g G H (by lia) λW s' l' U B' a b c d y Y V=>A9.now<|hK _ _ ⟨W,s',l',U,_,_,_,_,_,_,Y,V,rfl⟩
theorem Ip(T:Tops P w K mg base):u7 P w K mg base 8 "_law_log" EX wV:=u7.byL (N:=["_law_cells","_law_house_here","_law_hands_here","_law_last","_law_done","_law_says","_law_deeds","_law_cell","_law_held","_law_hand","_law_way","_law_time","_law_act_here"]) T.b T.f_log (by walk_at"sc") Fl (by have:=T.bm;have:=mK T;have:=dB T;have:=Iq T;have:=wx T;walk_at"dvl") GV
noncomputable def qC:v8:=λds M R=>∃(ps:List (c5×Int)) (a:List (c5×List c5)) (g:List D) (z:c5) (k:Int) (x:c5) (Y:List D),ds=[.tup g,.tup [.str z,.int k],.tup<|.str x::Y]/\(∀d∈g,aH ps a d)/\g.length<=100/\D.tup [.str z,.int k]∈aI ps/\lu 4 Y/\∀t m:Int,1<=t->(∀d∈g,fe d<t)->R (.tup<|g++[.tup [.int t,.tup [.str z,.int k],.int m,.tup<|.str x::Y]]) M
theorem Cu:cM qC zE:=by rintro ds M R ⟨ps,a,g,z,k,x,Y,rfl,_⟩;rfl
noncomputable def vO:p9:=bq<|p7 aW (ab 0)<|fH<|aa (fH<|aa (ab 3)<|aa (ab 1)<|aa (ab 4)<|aa (ab 2) af) af
noncomputable def vP:p9:=aB (aT (r9 iT<|aa (D2 1 [1] (bI<|ab 0) (ao 0) (ay<|p7 x9 (p7 u5 (ab 0)<|dC<|.int 1)<|ab 1)<|ab 0) af) 4)<|vO
noncomputable def DH:p9:=aB (aT (p7 aW (dC<|.int 1)<|r9 xq<|aa (p7 aW (iV<|aa (dC<|.int 0) af)<|D2 1 [] (bI<|ab 0) (ao 0) sY<|p7 u5 (ab 0)<|dC<|.int 0) af) 3)<|vP
theorem Ep:x6 qC 5 DH:=by
 rintro ds M R ⟨ps,N,g,z,k,O,F,rfl,e,y,K,l,h⟩;simp only[DH];walk_at"dl";refine⟨ak (by lia),λ_=>?_⟩;have p:M <+: M++[MO.lst [.int 0]]:=dL;have i:(M++[MO.lst [D.int 0]])[M.length]?=a7 (.lst [.int 0]):=ad;generalize M++[MO.lst [D.int 0]]=B at p i;refine bJ (λd=>.int<|fe d) (λS=>∃a,S=[a]) trivial _ _ _ (λd m S u=>?_) ⟨_,rfl⟩ (by rw[B8];exact ak<|by lia) ?_;obtain⟨a,rfl⟩:=u;obtain⟨t',G,H,r,x,ds,rfl,_⟩:=e d m;refine⟨[a7<|.tup [.int t',.tup [.str G,.int H],.int r,.tup<|.str x::ds]],⟨_,rfl⟩,λY v=>?_⟩;walk_at"dl";exact v;rw[D5];have J:g.map (λd=>D.int<|fe d)=(g.map fe).map D.int:=by rw[E2];rfl
 rw[J];have q:=p.trans<|dL (mo:=MO.lst<|(g.map fe).map D.int);have t:=ac (a:=MO.lst<|(g.map fe).map D.int) i;have j:(B++[MO.lst<|(g.map fe).map D.int])[B.length]?=a7 (.lst<|(g.map fe).map D.int):=ad;generalize B++[MO.lst<|(g.map fe).map D.int]=I at q t j;refine⟨_,_,t,j,ak (by rw[u4,u4,G8];lia),?_⟩;have s:=q.trans<|dL (mo:=MO.lst<|[D.int 0]++(g.map fe).map D.int);have n:(I++[MO.lst<|[D.int 0]++(g.map fe).map D.int])[I.length]?=a7 (.lst<|(0::g.map fe).map D.int):=ad;generalize I++[MO.lst<|[D.int 0]++(g.map fe).map D.int]=w at s n;refine⟨0::g.map fe,.inl n,by simp,λC L A=>?_⟩;have E:=A 0 (by simp);have f:∀d∈g,fe d<1+C:=λd c=>by have:=A (fe d)<|A0 _<|G7 c;lia
 simp only[vP];walk_at"dl";intro _;refine aF (λd=>t4 w t8 (N5 d)<|.tup [.str z,.int k]) id (λS=>∃a,S=[a,a7<|.tup [.str z,.int k]]) trivial _ _ _ ?_ ⟨_,rfl⟩ (by rw[B8];exact ak<|by lia) ?_;rintro d m S ⟨a,rfl⟩;obtain⟨t',G,H,r,x,ds,rfl,_⟩:=e d m;refine⟨[a7<|.tup [.int t',.tup [.str G,.int H],.int r,.tup<|.str x::ds],a7<|.tup [.str z,.int k]],⟨_,rfl⟩,λY Z b=>?_⟩;walk_at"dl";refine⟨⟨rfl,rfl⟩,?_⟩;have t:N5 (.tup [.int t',.tup [.str G,.int H],.int r,.tup<|.str x::ds])=.tup [.str G,.int H]:=rfl;rw[t]at b;cases o:t4 w t8 (.tup [.str G,.int H]) (.tup [.str z,.int k]) with
 |true=>rw[o]at b;exact bH b
 |false=>rw[o]at b;exact bE b
 refine⟨_,au,?_⟩;simp only[vO];walk_at"dl";refine⟨ak (by lia),ak (by lia),ak (by lia),?_⟩;refine bg.keep (h _ _ (by lia) f) ?_<|s.trans dL;refine .tup<|Bels.of λd c=>?_;rcases C9.mp c with c|c;exact bG 6 d (e d c).pl;rw[show d=_ from by simpa using c];exact .tup<|.cons (.int _)<|.cons (.tup<|.cons (.str _)<|.cons (.int _) .nil)<|.cons (.int _)<|.cons (bG 5 _<|.tup<|.cons (.str _) l) .nil
theorem Fd(T:Tops P w K mg base):u7 P w K mg base 1 "_law_more" zE qC:=u7.byD (N:=["_law_log_here","_law_hand","_law_act_here","_law_time","_law_number"]) T.b T.f_more (by walk_at"sc") Cu (by walk_at"dv") Ep
noncomputable def Dy(l n:List Nat):Prop:=∃i,l[i]?=a7 64/\(l.drop<|i+1).take n.length=n/\∀c,l[i+1+n.length]?=a7 c->zZ c=bt
theorem yf(t n:c5):gy t n=a9↔t.cps.toList.take n.cps.toList.length=n.cps.toList/\∀c,t.cps.toList[n.cps.toList.length]?=a7 c->zZ c=bt:=by
 unfold gy;rw[zb,C5,o0,Oq,<-cf];refine and_congr Iff.rfl ?_;have e:(Kk t (a7 (n.length:Int))<|a7<|(n.length:Int)+1).cps.toList=(t.cps.toList.drop n.length).take 1:=by have:=jt t (a:=n.length) (b:=n.length+1) (by lia);rw[show ((n.length+1:Nat):Int)=(n.length:Int)+1 by lia,show n.length+1-n.length=1 by lia]at this;exact this
 cases q:t.cps.toList[n.length]? with
 |none=>rw[ON<|List.getElem?_eq_none_iff.mp q]at e;rw[nH _<|by rw[e];rfl];simp
 |some c=>obtain⟨g,f⟩:=w6.mp q;rw[OW g,f]at e;have:Kk t (a7 (n.length:Int)) (a7<|(n.length:Int)+1)=⟨#[c]⟩:=jV (by rw[e];rfl);rw[this,qf];simp
theorem zO(s n:c5)(G:eI n):(∃y,y∈(G6 s "@").drop 1/\gy y n=a9)↔Dy s.cps.toList n.cps.toList:=by
 have w:("@":c5)=⟨#[64]⟩:=rfl;have a:∀k,n.cps.toList[k]?≠a7 64:=λk e=>by have:=G 64<|J1 e;lia
 generalize p:s.cps.toList=l;generalize E:n.cps.toList=m at a;have o:∀i j:Nat,i<j->j<=l.length->(j=l.length\/l[j]?=a7 64)->(∀k,i<k->k<j->l[k]?≠a7 64) -> (gy (Builtin.Str.strSub s (i+1) j) n=a9↔(l.drop<|i+1).take m.length=m/\∀c,l[i+1+m.length]?=a7 c->zZ c=bt):=by
  intro i j A L d x;rw[yf,StrLaws.strSub_toList,p,E,List.take_take];have B:∀k,((l.drop<|i+1).take<|j-(i+1))[k]?=if k<j-(i+1)then l[i+1+k]? else a8:=λk=>by rw[OB];split;rw[Mj];rfl
  have b:(l.drop<|i+1).take m.length=m->i+1+m.length<=j:=λe=>by
   refine Lq λD=>?_;have g:m[j-(i+1)]?=l[j]?:=by rw[<-e,OB,n5 (by lia),Mj];congr 1;lia
   rcases d with z|z;have S:=o8 Kl e;rw[G2,K1]at S;lia;rw[z]at g;exact a _ g
  constructor;rintro⟨e1,g⟩;have t:m.length<=j-(i+1):=by have:=o8 Kl e1;rw[G2]at this;lia
  rw[NG t]at e1;refine⟨e1,λc f=>?_⟩;by_cases q:m.length<j-(i+1);exact g c (by rw[B,n5 q];exact f);have:i+1+m.length=j:=by lia
  rw[this]at f;rcases d with z|z;rw[LF<|by lia]at f;cases f;rw[z]at f;cases f;rfl;rintro⟨e1,g⟩;have t:=b e1;rw[NG<|by lia];refine⟨e1,λc f=>?_⟩;rw[B]at f;split at f;exact g c f;cases f
 unfold Dy;rw[w];constructor;rintro⟨y,hy,hb⟩;obtain⟨k,i,j,h1,h2,rfl⟩:=(jX s 64 (by decide) y).mp hy;rw[p]at h1 h2;obtain⟨F,r,u,v⟩:=rO h1 h2;exact⟨i,eP.mp<|J1 h1,(o i j F r u v).mp hb⟩;rintro⟨i,h1,h2⟩;obtain⟨k,C,e⟩:=NR<|eP.mpr h1;have h:(bZ l 64)[k]?=a7 i:=by rw[v9 C,e]
 obtain⟨j,L⟩:∃j,(bZ l 64++[l.length])[k+1]?=a7 j:=⟨_,v9<|by rw[z5];simp;lia⟩
 obtain⟨F,r,u,v⟩:=rO h L;exact⟨_,(jX s 64 (by decide) _).mpr ⟨k,i,j,by rw[p];exact h,by rw[p];exact L,rfl⟩,(o i j F r u v).mpr h2⟩
theorem Bj(c:Nat):decide (c∈(AA0 "abcdefghijklmnopqrstuvwxyz").cps.toList)=zZ c:=by
 have g:(AA0 "abcdefghijklmnopqrstuvwxyz").cps.toList=(A2 26).map (· + 97):=by decide +kernel
 rw[g,MD];unfold zZ;simp only[v6,F7,o0,C5];constructor;rintro⟨a,ha,rfl⟩;lia;rintro⟨h1,h2⟩;exact⟨c-97,by lia,by lia⟩
noncomputable def fL:v8:=λds M R=>∃s n:c5,ds=[.str s,.str n]/\s.length<=100/\n.length<=100/\eI n/\R (.bl<|dP (.str s) n) M
theorem sI:cM fL kg:=by rintro ds M R ⟨t,n,rfl,_⟩;rfl
theorem xA(f:eI n):dP (.str s) n=a9↔Dy s.cps.toList n.cps.toList:=by rw[<-zO s n f];show ((G6 s<|AA0 "@").drop 1).any (λy=>begB y n)=a9↔_;rw[Kq];exact Iff.rfl
noncomputable def kE:p9:=bq<|dC<|.bl bt
noncomputable def kF:p9:=A1 (LH (ay<|p7 x9 (ab 3)<|dC<|.str "")<|ay<|p7 kN (ab 3)<|dC<|.str "abcdefghijklmnopqrstuvwxyz") (bq<|dC<|.bl a9) bf
noncomputable def oo:p9:=aB (nK (eH<|aa (r9 iT<|aa (ab 0) af) af) (ao 2)<|A1 (Bp (ay<|p7 x9 (p7 u5 (ab 0)<|ab 2)<|dC<|.str "@")<|ay<|p7 x9 (KQ (ab 0) (gx<|p7 aW (ab 2)<|dC<|.int 1)<|gx<|p7 aW (p7 aW (ab 2)<|dC<|.int 1)<|r9 iT<|aa (ab 1) af)<|ab 1) (aB (aT (KQ (ab 0) (gx<|p7 aW (p7 aW (ab 2)<|dC<|.int 1)<|r9 iT<|aa (ab 1) af)<|gx<|p7 aW (p7 aW (ab 2)<|dC<|.int 2)<|r9 iT<|aa (ab 1) af) 3)<|kF) bf)<|kE
theorem tR:x6 fL 4 oo:=by
 rintro ds M R ⟨s,n,rfl,hs,H,F,h⟩;have I:=cf (a:=s);have J:=cf (a:=n);have h':∀b:Bool,(b=a9↔Dy s.cps.toList n.cps.toList)->R (.bl b) M:=λb E=>by rw[show b=dP (.str s) n from Bool.eq_iff_iff.mpr<|E.trans (xA F).symm];exact h
 simp only[oo];walk_at"dl";refine⟨ak (by lia),⟨by lia,by lia⟩,?_⟩;refine bA (λi S d=>d=M/\(∃a b,S=[a7<|.str s,a7<|.str n,a,b])/\∀j,j<i->¬(s.cps.toList[j]?=a7 64/\(s.cps.toList.drop<|j+1).take n.cps.toList.length=n.cps.toList/\∀c,s.cps.toList[j+1+n.cps.toList.length]?=a7 c->zZ c=bt)) ?_ ?_ ⟨rfl,⟨_,_,rfl⟩,λj L=>n9 L<|Lz _⟩;rintro S d ⟨rfl,⟨a,b,rfl⟩,o⟩;refine⟨trivial,?_⟩;simp only[kE];walk_at"dl";rw[fh]at o;refine bg.now<|h' bt ⟨(λz=>by cases z),?_⟩;rintro⟨i,h1,h2⟩;exact n9 ⟨h1,h2⟩<|o i (by have:=(w6.mp h1).1;lia);rintro i y S d O ⟨rfl,⟨a,b,rfl⟩,o⟩ G C;obtain⟨hi,rfl⟩:=fi.mp O;refine⟨trivial,?_⟩;walk_at"dl";simp only[Int.zero_add];have m:∀{x:Option D},¬(s.cps.toList[i]?=a7 64/\(s.cps.toList.drop<|i+1).take n.cps.toList.length=n.cps.toList/\∀c,s.cps.toList[i+1+n.cps.toList.length]?=a7 c->zZ c=bt) -> A9 d G [a7<|D.str s,a7<|D.str n,a7<|D.int i,x] d:=λ{x} f=>A9.now (C _ _ ⟨rfl,⟨_,_,rfl⟩,λj L=>by
  rcases KM j i with q|q;exact o j q;have:j=i:=by lia
  subst this;exact f⟩)
 have g:(s.cps.toList[i]?=a7 64/\(s.cps.toList.drop<|i+1).take n.cps.toList.length=n.cps.toList/\∀c,s.cps.toList[i+1+n.cps.toList.length]?=a7 c->zZ c=bt)->bg d R (D.bl a9) d:=λf =>
  bg.now (h' a9 ⟨λ_=>⟨i,f⟩,λ_=>rfl⟩)
 have r:i<s.cps.toList.length:=by lia
 have u:s.cps.toList[i]?=a7 s.cps.toList[i]:=v9 r;refine⟨ak (by lia),?_⟩;rw[aA u];refine⟨⟨rfl,rfl⟩,?_⟩;generalize s.cps.toList[i]=c at u;have k:(Kk s (a7<|(i:Int)+1)<|a7<|(i:Int)+1+(n.length:Int)).cps.toList=(s.cps.toList.drop<|i+1).take n.cps.toList.length:=by have:=jt s (a:=i+1) (b:=i+1+n.length) (by lia);rw[show ((i+1+n.length:Nat):Int)=(i:Int)+1+(n.length:Int) by lia,show ((i+1:Nat):Int)=(i:Int)+1 by lia,show i+1+n.length-(i+1)=n.cps.toList.length by lia]at this;exact this
 have e:(Kk s (a7<|(i:Int)+1+(n.length:Int))<|a7<|(i:Int)+2+(n.length:Int)).cps.toList=(s.cps.toList.drop<|i+1+n.cps.toList.length).take 1:=by have:=jt s (a:=i+1+n.length) (b:=i+2+n.length) (by lia);rw[show ((i+1+n.length:Nat):Int)=(i:Int)+1+(n.length:Int) by lia,show ((i+2+n.length:Nat):Int)=(i:Int)+2+(n.length:Int) by lia,show i+2+n.length-(i+1+n.length)=1 by lia]at this;rw[<-J];exact this
 by_cases f:c=64;subst f;rw[show t4 d t8 (D.str ⟨#[64]⟩) (D.str<|AA0 "@")=a9 from rfl];refine bH ⟨ak (by lia),ak (by lia),⟨rfl,rfl⟩,?_⟩;generalize Kk s (a7<|(i:Int)+1) (a7<|(i:Int)+1+(n.length:Int))=z at k;by_cases v:z=n;subst v;rw[show t4 d t8 (D.str z) (D.str z)=a9 by simp[t4]];refine bH ⟨ak (by lia),ak (by lia),ak (by lia),?_⟩;generalize Kk s (a7<|(i:Int)+1+(z.length:Int)) (a7<|(i:Int)+2+(z.length:Int))=w at e;simp only[kF];walk_at"dl";refine⟨⟨ar,ar⟩,?_⟩;rw[aN];cases l:s.cps.toList[i+1+z.cps.toList.length]? with
 |none=>rw[ON<|List.getElem?_eq_none_iff.mp l]at e;have p:w=AA0 "":=jV (by rw[e];decide +kernel);rw[beq_iff_eq.mpr p];exact bH<|g ⟨u,k.symm,λc f=>by rw[l]at f;cases f⟩
 |some c =>
  obtain⟨t,f⟩:=w6.mp l;rw[OW t,f]at e;have p:w=⟨#[c]⟩:=jV e;rw[p,beq_eq_false_iff_ne.mpr (λz=>by have:=o8 (λx:c5=>x.cps.toList) z;cases this)];refine bE ?_;show if ((!(OQ (AA0 "abcdefghijklmnopqrstuvwxyz") ⟨#[c]⟩ 0 (AA0 "abcdefghijklmnopqrstuvwxyz").length 1).isEmpty) != a9)=a9 then _ else _
  rw[StrLaws.found_one,Bj];cases A:zZ c with
  |true=>exact bE<|m λ⟨_,_,B⟩=>by rw[B c l]at A;cases A
  |false=>exact bH<|g ⟨u,k.symm,λU h'=>by rw[l]at h';cases h';exact A⟩
 rw[show t4 d t8 (D.str z) (D.str n)=bt by simp[t4,v]];refine bE<|m ?_;rintro⟨_,h2,_⟩;refine v<|jV ?_;rw[k];exact h2;rw[show t4 d t8 (D.str ⟨#[c]⟩) (D.str<|AA0 "@")=bt by have:(⟨#[c]⟩:c5)≠AA0 "@":=λz=>f (by have:=o8 (λx:c5=>x.cps.toList) z;exact(NC this).1);simp[t4,this]];refine bE<|m ?_;rintro⟨h1,_⟩;rw[u]at h1;exact f<|A6 h1
theorem uv(T:Tops P w K mg base):u7 P w K mg base 1 "_law_names_in" kg fL:=u7.byD (N:=["_law_saying_here","_law_name_here","_law_at","_law_behind"]) T.b T.f_names_in (by walk_at"sc") sI (by walk_at"dv") tR
noncomputable def jQ:v8:=λds M R=>∃(ps:List (c5×Int)) (s:List (c5×List c5)) (g:List D) (a:c5) (q:Nat),ds=[.ref q,aG ps s,.tup g,.str a]/\H9 M q/\HouseF ps s/\LogS ps s g/\(∀n:Int,bF s a=[]->R .non (M.set q<|.lst [.int n]))/\∀(x:c5) (Y:List D) (n:Int),lu 4 Y->ActK s x Y->(x=AA0 "say"\/x=AA0 "change"\/(x=AA0 "back"/\∃m e,Y=[m]/\aX (ag s g) m=a7 e/\ba e=a))->R (.tup<|.str x::Y) (M.set q<|.lst [.int n])
theorem xK:cM jQ pR:=by rintro ds M R ⟨ps,a,g,e,q,rfl,_⟩;rfl
theorem ID(a:∀d∈log,aH ps rs d):∀m∈ap rs log,∃(e v f:D),m=.tup [s9 e,.str<|aR e,bD e,.str<|ba e,v,f]/\aX (ag rs log) (s9 e)=a7 e/\St (s9 e):=λm b=>by obtain⟨p,h,rfl⟩:=v6.mp b;have h1:=(bx.mp h).1;have S:=fy aw.nd h1;rw[(aw.en p h1).1]at S;exact⟨p.2,_,_,rfl,S,(eQ a p h).2.1.st⟩
noncomputable def LV:D->D
 |.tup (s::_)=>s
 |_=>.non
noncomputable def N4:D->D
 |.tup (_::s::_)=>s
 |_=>.non
noncomputable def N1:D->D
 |.tup (_::_::_::s::_)=>s
 |_=>.non
noncomputable def md:p9:=bq<|fH<|aa (dC<|.str "say")<|aa (ab 9)<|aa (p7 u5 (ab 10)<|r9 aq<|aa (ab 0)<|aa (r9 iT<|aa (ab 10) af) af)<|aa (r9 dG<|aa (ab 0)<|aa (ab 4) af) af
noncomputable def oH:p9:=aB (aT (p7 aW (iV<|aa (dC .non) af)<|D2 1 [9] (bI<|ab 6) (ao 0) (ay<|p7 x9 (p7 u5 (ab 0)<|dC<|.int 1)<|ab 1)<|p7 u5 (ab 0)<|dC<|.int 0) 10)<|md
noncomputable def oJ:p9:=aB (aT (p7 u5 (ab 5)<|r9 aq<|aa (ab 0)<|aa (r9 iT<|aa (ab 5) af) af) 9)<|oH
noncomputable def jS:p9:=aB (A1 (ay<|p7 x9 (ab 5)<|iV af) (bq<|dC .non) bf)<|oJ
noncomputable def jT:p9:=aB (A1 (Bp (ay<|p7 x9 (ab 8)<|dC<|.int 1)<|ay<|p7 K2 (ab 7)<|iV af) (bq<|fH<|aa (dC<|.str "back")<|aa (p7 u5 (ab 7)<|r9 aq<|aa (ab 0)<|aa (r9 iT<|aa (ab 7) af) af) af) bf)<|jS
noncomputable def oK:p9:=aB (A1 (Bp (ay<|p7 x9 (ab 8)<|dC<|.int 0)<|ay<|p7 K2 (ab 7)<|iV af) (bq<|fH<|aa (dC<|.str "change")<|aa (p7 u5 (ab 7)<|r9 aq<|aa (ab 0)<|aa (r9 iT<|aa (ab 7) af) af)<|aa (r9 dG<|aa (ab 0)<|aa (ab 4) af) af) bf)<|jT
noncomputable def oM:p9:=aB (aT (r9 aq<|aa (ab 0)<|aa (dC<|.int 4) af) 8)<|oK
noncomputable def oN:p9:=aB (ik 1 [3] (bI<|ab 6) (ao 0) (ay<|p7 x9 (p7 u5 (ab 0)<|dC<|.int 3)<|ab 1) (p7 u5 (ab 0)<|dC<|.int 0) 7)<|oM
noncomputable def oO:p9:=aB (aT (r9 bP<|aa (ab 1)<|aa (ab 2) af) 6)<|oN
noncomputable def oP:p9:=aB (ik 2 [3] (bI<|p7 u5 (ab 1)<|dC<|.int 1) (nI 2<|cK (ao 0)<|cK (ao 1) nJ) (ay<|p7 K3 (ab 2)<|ab 1) (ab 0) 5)<|oO
noncomputable def vX:p9:=aB (ik 2 [] (bI<|p7 u5 (ab 1)<|dC<|.int 0) (nI 2<|cK (ao 0)<|cK (ao 1) nJ) sY (ab 0) 4)<|oP
theorem yr:x6 jQ 11 vX:=by
 rintro ds M R ⟨ps,rs,C,h,q,rfl,hq,hf,hl,hN,hA⟩;have V:=hq.lt;have cm:=hl.len;have l1:=hf.len;have l2:=hf.rl;have ms:=ID (rs:=rs) hl.dk;have an:(ap rs C).length<=100:=by unfold ap;rw[u4];exact B9 (J2 _ _)<|B9 aw.len<|B9 bo<|by lia
 simp only[vX,aG];walk_at"dl";intro _;refine bJ (λd=>(match d with|.tup (x::_)=>x|_=>.non)) (λS=>∃a b,S=[a,b]) trivial _ _ _ (λx hx S hS=>?_) ⟨_,_,rfl⟩ (by rw[B8,u4];exact ak<|by lia) ?_;obtain⟨a,b,rfl⟩:=hS;obtain⟨y,_,rfl⟩:=v6.mp hx;refine⟨[a7<|.str y.1,a7<|.int y.2],⟨_,_,rfl⟩,λY hY=>?_⟩;unfold ga;walk_at"dl";exact⟨trivial,hY⟩;rw[D5];have en:(ps.map ga).map (λd=>(match d with|.tup (x::_)=>x|_=>.non))=(ps.map (·.1)).map D.str:=by rw[E2,E2];rfl
 rw[en];have g1:Hl M (M++[.lst ((ps.map (·.1)).map D.str)]) q:=hq.start.more;have F:(M++[MO.lst ((ps.map (·.1)).map D.str)])[M.length]?=a7 (.lst ((ps.map (·.1)).map D.str)):=ad;have x8:∀x∈ps.map (·.1),x.length<=8:=λx hx=>by obtain⟨y,hy,rfl⟩:=v6.mp hx;exact hf.nm y hy
 have xl:(ps.map (·.1)).length=ps.length:=u4 _;have wM:M.length<=M.length:=u6 _;generalize M++[MO.lst ((ps.map (·.1)).map D.str)]=B1 at g1 F;generalize hw:M.length=w at F;generalize ps.map (·.1)=xs at F x8 xl;simp only[oP];walk_at"dl";intro _;refine aF (λd=>match d with|.tup [_,.tup ms]=>decide (D.str h∈ms)|_=>bt) (λd=>match d with|.tup (x::_)=>x|_=>.non) (λS=>∃a b,S=[a,b,a7<|.str h]) trivial _ _ _ ?_ ⟨_,_,rfl⟩ (by rw[B8,u4];exact ak<|by lia) ?_;rintro d hm S ⟨a,b,rfl⟩;obtain⟨p,hp,rfl⟩:=v6.mp hm;refine⟨[a7<|.str p.1,a7<|.tup<|p.2.map .str,a7<|.str h],⟨_,_,rfl⟩,λY Z A=>?_⟩;have A:if decide (D.str h∈p.2.map D.str)=a9 then Y (.str p.1) [a7<|.str p.1,a7<|.tup<|p.2.map .str,a7<|.str h] B1 else Z [a7<|.str p.1,a7<|.tup<|p.2.map .str,a7<|.str h] B1:=A
 have em:(D.str h∈p.2.map D.str)↔h∈p.2:=by constructor;intro z;obtain⟨y,hy,e⟩:=v6.mp z;injection e with e;exact e ▸ hy;exact λz=>G7 z
 unfold eS;walk_at"dl";refine⟨trivial,⟨ar,jU⟩,?_⟩;rw[ku];by_cases e:h∈p.2;rw[dT_ e];rw[dT_<|em.mpr e]at A;exact A;rw[dF_ e];rw[dF_<|λz=>e<|em.mp z]at A;exact A;have eR:([]++List.map (λd:D=>match d with|.tup (x::_)=>x|_=>.non) ((rs.map eS).filter λd=>match d with|.tup [_,.tup ms]=>decide (D.str h∈ms)|_=>bt))=(bF rs h).map .str:=by
  rw[D5,NF,E2];unfold bF;rw[E2];have:((λd:D=>match d with|.tup [_,.tup ms]=>decide (D.str h∈ms)|_=>bt) ∘ eS)=λp:c5×List c5=>decide (h∈p.2):=by funext p;show decide (D.str h∈p.2.map D.str)=decide (h∈p.2);rw[decide_eq_decide];constructor;intro z;obtain⟨y,hy,e⟩:=v6.mp z;injection e with e;exact e ▸ hy;exact λz=>G7 z
  rw[this];rfl
 rw[eR];have rN:∀r∈bF rs h,r∈rs.map (·.1):=λr hr=>by obtain⟨p,hp,rfl⟩:=v6.mp hr;exact G7 (A3.mp hp).1
 have cd:(bF rs h).length<=4:=by unfold bF;rw[u4];exact B9 (J2 _ _)<|by lia
 generalize cl:bF rs h=Q at rN cd hN;have g2:=g1.more (L:=[.lst<|Q.map .str]);have aP:=ac (a:=MO.lst<|Q.map .str) F;have K:(B1++[MO.lst<|Q.map .str])[B1.length]?=a7 (.lst<|Q.map .str):=ad;have rM:M.length<=B1.length:=g1.len;generalize B1++[MO.lst<|Q.map .str]=B2 at g2 aP K;generalize B1.length=r at K rM;simp only[oO];walk_at"dl";refine⟨ps,rs,C,rfl,hl.dk,by lia,?_⟩;have g3:=g2.more (L:=[.lst<|ap rs C]);have aS:=ac (a:=MO.lst<|ap rs C) aP;have aD:=ac (a:=MO.lst<|ap rs C) K;have I:(B2++[MO.lst<|ap rs C])[B2.length]?=a7 (.lst<|ap rs C):=ad;have mM:M.length<=B2.length:=g2.len;generalize B2++[MO.lst<|ap rs C]=B3 at g3 aS aD I;generalize B2.length=qm at I mM;simp only[oN];walk_at"dl";refine⟨_,.inl I,λ_=>?_⟩;refine aF (λm=>decide<|N1 m=.str h) LV (λS=>∃a,S=[a,a7<|.str h]) (.inl I) _ _ _ ?_ ⟨_,rfl⟩ (by rw[B8];exact ak<|by lia) ?_;rintro m hm S ⟨a,rfl⟩;obtain⟨e,v,f,rfl,_⟩:=ms m hm;refine⟨[a7<|.tup [s9 e,.str<|aR e,bD e,.str<|ba e,v,f],a7<|.str h],⟨_,rfl⟩,λY Z A=>?_⟩;have e3:atI [s9 e,.str<|aR e,bD e,.str<|ba e,v,f] 3=a7 (.str<|ba e):=aA (j:=3) rfl;have A:if decide (D.str (ba e)=.str h)=a9 then Y (s9 e) [a7<|.tup [s9 e,.str<|aR e,bD e,.str<|ba e,v,f],a7<|.str h] B3 else Z [a7<|.tup [s9 e,.str<|aR e,bD e,.str<|ba e,v,f],a7<|.str h] B3:=A
 walk_at"dl";rw[e3];refine⟨⟨ar,ar⟩,?_⟩;rw[aN];by_cases c:ba e=h;rw[beq_iff_eq.mpr c];rw[dT_<|by rw[c]]at A;exact bH A;rw[beq_eq_false_iff_ne.mpr c];rw[dF_<|λz=>c<|by injection z]at A;exact bE A;rw[D5];have mi:∀s∈((ap rs C).filter λm=>decide<|N1 m=.str h).map LV,∃e,aX (ag rs C) s=a7 e/\ba e=h/\St s:=λs hs=>by obtain⟨m,hm,rfl⟩:=v6.mp hs;obtain⟨h1,h2⟩:=A3.mp hm;obtain⟨e,v,f,rfl,hg,H⟩:=ms m h1;have h2:D.str (ba e)=.str h:=oT_ h2;injection h2 with h2;exact⟨e,hg,h2,H⟩
 have cb:(((ap rs C).filter λm=>decide<|N1 m=.str h).map LV).length<=100:=by rw[u4];exact B9 (J2 _ _) an
 generalize ((ap rs C).filter λm=>decide<|N1 m=.str h).map LV=o at mi cb;have bn:∀{B:t5},∀x∈o,u3 B 29 x=a9:=λ{B} x hx=>by obtain⟨_,_,_,⟨t,z,k,rfl⟩⟩:=mi x hx;rfl
 have g4:=g3.more (L:=[.lst o]);have G:=ac (a:=MO.lst o) aS;have O:=ac (a:=MO.lst o) aD;have J:=ac (a:=MO.lst o) I;have N:(B3++[MO.lst o])[B3.length]?=a7 (.lst o):=ad;have aj:M.length<=B3.length:=g3.len;generalize B3++[MO.lst o]=B4 at g4 G O J N;generalize B3.length=q7 at N aj;simp only[oM];walk_at"dl";refine⟨q,4,rfl,g4.hd V,by decide,by decide,λal n w0 w1=>?_⟩;have keepS:∀{B:t5}{n:Int}{j:Nat}{x:MO},M.length<=j->B[j]?=a7 x->(B.set q<|.lst [.int n])[j]?=a7 x:=λhj e=>az (by lia) e;have W:=g4.set (n:=n) V;replace G:=keepS (n:=n) (by lia) G;replace O:=keepS (n:=n) rM O;replace J:=keepS (n:=n) mM J;replace N:=keepS (n:=n) aj N;generalize B4.set q (.lst [.int n])=B5 at W G O J N
 -- what is said
 have bS:∀{B:t5},Hl M B q->B[w]?=a7 (.lst<|xs.map .str)->B[r]?=a7 (.lst<|Q.map .str)->B[qm]?=a7 (.lst<|ap rs C)->B[q7]?=a7 (.lst o)->jS (EE M R) [a7<|.ref q,a7<|aG ps rs,a7<|.tup C,a7<|.str h,a7<|.ref w,a7<|.ref r,a7<|.ref qm,a7<|.ref q7,a7<|.int al,a8,a8] B:=λ{B} g F K I N=>by
  simp only[jS];walk_at"dl";obtain⟨ai,en⟩:=dO (M:=B) (.inl K) λx hx=>by obtain⟨y,_,rfl⟩:=v6.mp hx;exact ar
  refine⟨w5 _,ai,?_⟩;rw[en];cases he:(Q.map D.str).isEmpty with
  |true =>
   have e0:Q=[]:=by
    cases Q with
    |nil=>rfl
    |cons a l=>cases he
   exact bH<|(g.more).fin .non λn=>hN n e0
  |false =>
   have r1:1<=Q.length:=by
    cases Q with
    |nil=>cases he
    |cons a l=>simp
   refine bE ?_;replace g:=g.more (L:=[.lst []]);replace F:=ac (a:=MO.lst []) F;replace K:=ac (a:=MO.lst []) K;replace I:=ac (a:=MO.lst []) I;generalize B++[MO.lst []]=B at g F K I;simp only[oJ];walk_at"dl";refine⟨_,.inl K,q,_,rfl,g.hd V,by rw[u4];lia,by rw[u4];lia,λi n i0 i1=>?_⟩;replace g:=g.set (n:=n) V;replace F:=keepS (n:=n) (by lia) F;replace K:=keepS (n:=n) rM K;replace I:=keepS (n:=n) mM I;generalize B.set q (.lst [.int n])=B at g F K I;obtain⟨j,hj,ej,_⟩:=dF (xs:=Q.map D.str) i0 i1;rw[Mc]at ej;have bk:j<Q.length:=by rw[u4]at hj;exact hj
   have bm:=rN _<|J0 bk;refine⟨_,.inl K,?_⟩;rw[ej];generalize Q[j]'bk=E at bm;simp only[oH];walk_at"dl";refine⟨ak (by lia),_,.inl<|ac I,λ_=>?_⟩;have e0:(B++[MO.lst [D.non]])[B.length]?=a7 (.lst [.non]):=ad;replace g:=g.more (L:=[.lst [.non]]);replace F:=ac (a:=MO.lst [D.non]) F;replace I:=ac (a:=MO.lst [D.non]) I;generalize B++[MO.lst [D.non]]=B' at e0 g F I;generalize B.length=qn at e0;refine aF (λm=>decide<|N4 m=.str E) LV (λS=>∃a,S=[a,a7<|.str E]) (.inl I) _ _ _ ?_ ⟨_,rfl⟩ (by rw[B8];exact ak<|by lia) ?_;rintro m hm S ⟨a,rfl⟩;obtain⟨e,v,f,rfl,_⟩:=ms m hm;refine⟨[a7<|.tup [s9 e,.str<|aR e,bD e,.str<|ba e,v,f],a7<|.str E],⟨_,rfl⟩,λY Z A=>?_⟩;have A:if decide (D.str (aR e)=.str E)=a9 then Y (s9 e) [a7<|.tup [s9 e,.str<|aR e,bD e,.str<|ba e,v,f],a7<|.str E] B' else Z [a7<|.tup [s9 e,.str<|aR e,bD e,.str<|ba e,v,f],a7<|.str E] B':=A
   walk_at"dl";refine⟨⟨ar,ar⟩,?_⟩;rw[aN];by_cases c:aR e=E;rw[beq_iff_eq.mpr c];rw[dT_<|by rw[c]]at A;exact A;rw[beq_eq_false_iff_ne.mpr c];rw[dF_<|λz=>c<|by injection z]at A;exact A;rw[D5];have ti:∀s∈((ap rs C).filter λm=>decide<|N4 m=.str E).map LV,St s:=λs hs=>by obtain⟨m,hm,rfl⟩:=v6.mp hs;obtain⟨e,v,f,rfl,_,H⟩:=ms m (A3.mp hm).1;exact H
   have ce:(((ap rs C).filter λm=>decide<|N4 m=.str E).map LV).length<=100:=by rw[u4];exact B9 (J2 _ _) an
   generalize ((ap rs C).filter λm=>decide<|N4 m=.str E).map LV=T at ti ce;refine⟨_,_,ac e0,ad,ak (by rw[G8];lia),?_⟩;have P:(B'++[MO.lst T]++[MO.lst<|[D.non]++T])[(B'++[MO.lst T]).length]?=a7 (.lst<|[D.non]++T):=ad;have bs:M.length<=(B'++[MO.lst T]).length:=(g.more (L:=[.lst T])).len;replace g:=(g.more (L:=[.lst T])).more (L:=[.lst<|[D.non]++T]);replace F:=ac (a:=MO.lst<|[D.non]++T)<|ac (a:=MO.lst T) F;generalize B'++[MO.lst T]++[MO.lst<|[D.non]++T]=B2 at P g F;generalize (B'++[MO.lst T]).length=qt at P bs;have ul:([D.non]++T).length<=101:=by rw[z5,G8];lia
   have ch:1<=([D.non]++T).length:=by simp
   have ut:∀u∈[D.non]++T,u=.non\/St u:=λu X=>by rcases C9.mp X with X|X;exact .inl<|Km.mp X;exact .inr<|ti u X
   generalize [D.non]++T=U at P ul ch ut;simp only[md];walk_at"dl";refine⟨_,.inl P,q,_,rfl,g.hd V,by lia,by lia,λi n i0 i1=>?_⟩;replace g:=g.set (n:=n) V;replace F:=keepS (n:=n) (by lia) F;replace P:=keepS (n:=n) bs P;generalize B2.set q (.lst [.int n])=B3 at g F P;obtain⟨j,hj,ej,_⟩:=dF (xs:=U) i0 i1;have X:=ut _<|J0 hj;refine⟨_,.inl P,?_⟩;rw[ej];generalize U[j]=u at X;refine⟨q,w,xs,rfl,g.hd V,by lia,.inl F,by lia,by lia,x8,λsy n as=>?_⟩;have up:E4 4 u:=by rcases X with rfl|X;exact .non;exact X.pl
   have pl:lu 4 [.str E,u,.str sy]:=.cons (.str _)<|.cons up<|.cons (.str _) .nil;exact⟨ak (by lia),(g.set V).fin (bG 5 _<|.tup<|.cons (.str _) pl) λn=>hA _ _ n pl (.mkSay bm X as)<|.inl rfl⟩
 have bw:∀{B:t5},Hl M B q->B[w]?=a7 (.lst<|xs.map .str)->B[r]?=a7 (.lst<|Q.map .str)->B[qm]?=a7 (.lst<|ap rs C)->B[q7]?=a7 (.lst o)->jT (EE M R) [a7<|.ref q,a7<|aG ps rs,a7<|.tup C,a7<|.str h,a7<|.ref w,a7<|.ref r,a7<|.ref qm,a7<|.ref q7,a7<|.int al,a8,a8] B:=λ{B} g F K I N=>by
  simp only[jT];walk_at"dl";refine⟨⟨rfl,rfl⟩,?_⟩;generalize t4 B t8 (.int al) (.int 1)=b1;cases b1 with
  |false=>exact bE<|bS g F K I N
  |true =>
   obtain⟨ai,en⟩:=dO (M:=B) (.inl N) bn;refine bH ⟨w5 _,ai,?_⟩;rw[en];replace g:=g.more (L:=[.lst []]);replace F:=ac (a:=MO.lst []) F;replace K:=ac (a:=MO.lst []) K;replace I:=ac (a:=MO.lst []) I;replace N:=ac (a:=MO.lst []) N;generalize B++[MO.lst []]=B at g F K I N;cases he:o.isEmpty with
   |true=>exact bE<|bS g F K I N
   |false =>
    have m1:1<=o.length:=by
     cases o with
     |nil=>cases he
     |cons a l=>simp
    refine bH ⟨_,.inl N,q,_,rfl,g.hd V,by lia,by lia,λi n i0 i1=>?_⟩;replace g:=g.set (n:=n) V;replace N:=keepS (n:=n) aj N;generalize B.set q (.lst [.int n])=B at g N;obtain⟨j,hj,ej,_⟩:=dF (xs:=o) i0 i1;obtain⟨e,hg,bl,H⟩:=mi _<|J0 hj;refine⟨_,.inl N,?_⟩;rw[ej];generalize o[j]=s at hg H;exact⟨ak (by lia),g.fin (bG 5 _<|.tup<|.cons (.str _)<|.cons H.pl .nil) λn=>hA _ _ n (.cons H.pl .nil) (.mkBack H)<|.inr<|.inr ⟨rfl,s,e,rfl,hg,bl⟩⟩
 simp only[oK];walk_at"dl";refine⟨⟨rfl,rfl⟩,?_⟩;generalize t4 B5 t8 (.int al) (.int 0)=b0;cases b0 with
 |false=>exact bE<|bw W G O J N
 |true =>
  obtain⟨ai,en⟩:=dO (M:=B5) (.inl N) bn;refine bH ⟨w5 _,ai,?_⟩;rw[en];replace W:=W.more (L:=[.lst []]);replace G:=ac (a:=MO.lst []) G;replace O:=ac (a:=MO.lst []) O;replace J:=ac (a:=MO.lst []) J;replace N:=ac (a:=MO.lst []) N;generalize B5++[MO.lst []]=B6 at W G O J N;cases he:o.isEmpty with
  |true=>exact bE<|bw W G O J N
  |false =>
   have m1:1<=o.length:=by
    cases o with
    |nil=>cases he
    |cons a l=>simp
   refine bH ⟨_,.inl N,q,_,rfl,W.hd V,by lia,by lia,λi n i0 i1=>?_⟩;replace W:=W.set (n:=n) V;replace G:=keepS (n:=n) (by lia) G;replace N:=keepS (n:=n) aj N;generalize B6.set q (.lst [.int n])=B7 at W G N;obtain⟨j,hj,ej,_⟩:=dF (xs:=o) i0 i1;obtain⟨e,hg,bl,H⟩:=mi _<|J0 hj;refine⟨_,.inl N,?_⟩;rw[ej];generalize o[j]=s at hg H;refine⟨q,w,xs,rfl,W.hd V,by lia,.inl G,by lia,by lia,x8,λsy n as=>?_⟩;have pl:lu 4 [s,.str sy]:=.cons H.pl<|.cons (.str _) .nil;exact⟨ak (by lia),(W.set V).fin (bG 5 _<|.tup<|.cons (.str _) pl) λn=>hA _ _ n pl (.mkChange H as)<|.inr<|.inl rfl⟩
theorem zL(T:Tops P w K mg base):u7 P w K mg base 7 "_law_act_of" pR jQ:=u7.byD (N:=["_law_held","_law_house_here","_law_log_here","_law_name_here","_law_names_here","_law_rooms","_law_some","_law_mine","_law_way","_law_room","_law_there"]) T.b T.f_act_of (by walk_at"sc") xK (by have:=ii T;have:=dB T;have:=se T;walk_at"dv") yr
noncomputable def lE:v8:=λds M R=>∃(ps:List (c5×Int)) (a:List (c5×List c5)) (g:List D) (t:Int) (z:c5) (k m:Int) (x:c5) (Y:List D) (n:c5),ds=[aG ps a,.tup g,.tup<|g++[.tup [.int t,.tup [.str z,.int k],.int m,.tup<|.str x::Y]],.tup<|.str x::Y,.tup [.int t,.tup [.str z,.int k]],.str n]/\HouseF ps a/\LogS ps a g/\g.length<=60/\aH ps a (.tup [.int t,.tup [.str z,.int k],.int m,.tup<|.str x::Y])/\(∀d∈g,fe d<t)/\(x=AA0 "say"\/x=AA0 "change"\/(x=AA0 "back"/\∃e,aX (ag a g) (fR<|.tup [.int t,.tup [.str z,.int k],.int m,.tup<|.str x::Y])=a7 e/\ba e=z))/\n.length<=100/\eI n/\R (.bl a9) M
theorem Aa:cM lE uh:=by rintro ds M R ⟨ps,a,g,t,z,k,m,x,Y,e,rfl,_⟩;rfl
noncomputable def ye(c p j M q:Bool)(s:D):Option D:=if (c && !p)=a9 then(if j=a9 then a7 (.tup [s,.str<|AA0 "named"])else if M=a9 then a7 (.tup [s,.str<|AA0 "answered"])else if q=a9 then a8 else a7 (.tup [s,.str<|AA0 "heard"]))else a8
section
variable{rs:List (c5×List c5)}{log:List D}{d e s:D}{name:c5}
noncomputable def cB(rs:List (c5×List c5))(log:List D)(name:c5)(e:D):Bool:=decide (aR e∈bF rs name) && !decide (s9 e∈cT log (AA0 "rung") name)
noncomputable def qB(rs:List (c5×List c5))(log:List D)(name:c5)(e:D):Bool:=eX log name (.tup [.str<|AA0 "room",.str<|aR e])||decide (s9 e∈cQ (λs=>eX log name<|.tup [.str<|AA0 "under",s]) (ag rs log))
theorem kB:lr rs log name e=ye (cB rs log name e) (eX log name<|.tup [.str<|AA0 "person",.str<|ba e]) (dP (Bn rs log e) name) (decide<|bD e∈nB (ag rs log) name) (qB rs log name e) (s9 e):=by unfold lr zj Bv ye cB;have o:(eX log name (.tup [.str<|AA0 "room",.str<|aR e])||decide (s9 e∈cQ (λs=>eX log name<|.tup [.str<|AA0 "under",s]) (ag rs log)))=qB rs log name e:=rfl;rw[o,<-Bool.and_assoc];generalize ((decide (aR e∈bF rs name) && !decide (s9 e∈cT log (AA0 "rung") name)) && !eX log name (.tup [.str<|AA0 "person",.str<|ba e]))=a;generalize dP (Bn rs log e) name=b;generalize qB rs log name e=q;by_cases h:bD e∈nB (ag rs log) name;rw[n5 h,dT_ h];cases a<;>cases b<;>rfl;rw[n6 h,dF_ h];cases a<;>cases b<;>cases q<;>rfl
theorem Kg:∀b,ye c pr nm an q s=a7 b->∃w,b=.tup [s,.str w]:=λb h=>by
 unfold ye at h
 repeat' split at h
 all_goals first|exact⟨_,(A6 h).symm⟩|cases h
theorem xg(h:e∈cq rs log name):aX (ag rs log) (s9 e)=a7 e:=by obtain⟨p,a,rfl⟩:=v6.mp (A3.mp h).1;have h1:=(bx.mp a).1;have:=fy aw.nd h1;rw[(aw.en p h1).1]at this;exact this
theorem qz(a:∀d∈log,aH ps rs d):∀b∈aZ rs log name,∃(e:D) (w:c5),b=.tup [s9 e,.str w]/\aX (ag rs log) (s9 e)=a7 e/\St (s9 e)/\e∈log/\bp e=AA0 "say":=λb h=>by obtain⟨e,i,L⟩:=Ml.mp h;rw[kB]at L;obtain⟨w,rfl⟩:=Kg b L;have S:=xg i;obtain⟨_,j⟩:=AE aw S;obtain⟨k,u⟩:=aV j;exact⟨e,w,rfl,S,(a e k).st,k,u⟩
theorem tJ:(aZ rs log name).length<=log.length:=by unfold aZ;refine B9 (List.length_filterMap_le _ _)<|B9 (J2 _ _) ?_;rw[u4];exact B9 (J2 _ _)<|B9 aw.len bo
theorem zm(hi:ax M i xs)(L:ax M j xs)(h:∀x∈xs,u3 M 29 x=a9/\t4 M 29 x x=a9):(u3 M t8 (.ref i)=a9/\u3 M t8 (.ref j)=a9)/\t4 M t8 (.ref i) (.ref j)=a9:=⟨⟨pT (n:=29) hi λx a=>(h x a).1,pT (n:=29) L λx a=>(h x a).1⟩,(wL (n:=29) hi L).trans<|qp λx a=>(h x a).2⟩
theorem Bf(h:∀d∈log,aH ps rs d):∀x∈aZ rs log name,u3 M 29 x=a9/\t4 M 29 x x=a9:=λx a=>by obtain⟨e,w,rfl,_,hs,_⟩:=qz h x a;exact oT 3 29 _ (by decide)<|.tup<|.cons hs.pl<|.cons (.str _) .nil
end
theorem qo{f g:D->Option D}{l:List D}(h:∀x∈l,f x=g x):l.filterMap f=l.filterMap g:=by
 induction l with
 |nil=>rfl
 |cons x l i=>rw[KG,KG,h x (by simp),i λy O=>h y<|A0 _ O]
theorem sR{f:D->Option D}{p:D->Bool}{l:List D}:(l.filterMap f).filter p=l.filterMap λx=>(f x).filter p:=by
 induction l with
 |nil=>rfl
 |cons x l i =>
  rw[KG,KG,<-i];cases f x with
  |none=>rfl
  |some y=>show (y::_).filter p=_;rw[KN];by_cases c:p y=a9;rw[n5 c];simp[Option.filter,c];rw[n6 c];simp[Option.filter,c]
noncomputable def jR:D->D
 |.tup (s::_)=>s
 |_=>.non
noncomputable def iM(rs:List (c5×List c5))(log:List D)(name:c5)(e:D):Option D:=if kY log name e=a9 then a8 else lr rs log name e
theorem Ax(i:L0 l)(S:∀d∈l,St<|s9 d):(∀p∈aJ rs l,bD p.2=.non\/bD p.2∈(aJ rs l).map (·.1))/\∀p∈aJ rs l,(p.1∈cQ H (aJ rs l)↔H p.1=a9\/bD p.2∈cQ H (aJ rs l)):=by
 revert i S;refine bz (P:=λl=>L0 l->(∀d∈l,St<|s9 d)->(∀p∈aJ rs l,bD p.2=.non\/bD p.2∈(aJ rs l).map (·.1))/\∀p∈aJ rs l,(p.1∈cQ H (aJ rs l)↔H p.1=a9\/bD p.2∈cQ H (aJ rs l))) (λ_ _=>⟨(λ_ z=>nomatch z),(λ_ z=>nomatch z)⟩) (λl x B i S=>?_) l;obtain⟨h1,_,w⟩:=Pj.mp i;obtain⟨A,j⟩:=B h1 λd y=>S d<|Ks _ y;have D:=gP (rs:=rs) l;have b:s9 x∉(aJ rs l).map (·.1):=λz=>by obtain⟨p,h,e⟩:=v6.mp z;obtain⟨s,v⟩:=D.en p h;have:=w p.2 v x (by simp);rw[<-s,e]at this;exact KB _ this
 have xs:s9 x≠.non:=λz=>by obtain⟨t,n,k,e⟩:=S x (by simp);rw[e]at z;cases z
 rw[dE];unfold uc;by_cases hs:ic rs (aJ rs l) x=a9;have a:bD x=.non\/bD x∈(aJ rs l).map (·.1):=by
  unfold ic at hs;rw[C5,Ma]at hs;rcases hs.2 with q|q;exact .inl<|oT_ q;cases o:aX (aJ rs l) (bD x) with
  |none=>rw[o]at q;cases q
  |some e=>exact .inr (G7 (f:=(·.1))<|cy o)
 rw[n5 hs,lB b];generalize aJ rs l=K at A j b a;have r:∀u,(u=.non\/u∈K.map (·.1))->u≠s9 x:=λu g e=>by rcases g with g|g;exact xs<|e.symm.trans g;exact b<|e ▸ g
 have m:∀u,u≠s9 x->(u∈cQ H (K++[(s9 x,x)])↔u∈cQ H K):=λu g=>by rw[cZ];split;rw[C9,List.mem_singleton];exact⟨λz=>z.resolve_right g,.inl⟩;exact Iff.rfl
 refine⟨λp h=>?_,λp h=>?_⟩;rw[G1,C9];rcases C9.mp h with h|h;exact(A p h).imp id .inl;rw[Km.mp h];exact a.imp id .inl;rcases C9.mp h with h|h;rw[m p.1 λe=>b (e ▸ G7 (f:=(·.1)) h),m _<|r _<|A p h];exact j p h;rw[Km.mp h];show s9 x∈_↔H (s9 x)=a9\/bD x∈_;rw[m _<|r _ a,cZ];have C:s9 x∉cQ H K:=λz=>b<|mU _ z;by_cases c:(H (s9 x)||decide (bD x∈cQ H K))=a9;rw[n5 c];rw[Ma,o4]at c;exact⟨λ_=>c,λ_=>by simp⟩;rw[n6 c];rw[Ma,o4]at c;exact⟨λz=>n9 z C,λz=>n9 z c⟩;rw[n6 hs];exact⟨A,j⟩
section
variable{rs:List (c5×List c5)}{log:List D}{d e s k:D}{name:c5}
theorem cA:aZ rs log name=((ah rs log).map (·.2)).filterMap (iM rs log name):=by unfold aZ cq;rw[List.filterMap_filter];refine qo λe _=>?_;unfold iM;cases kY log name e<;>rfl
theorem gO:∀b,iM rs log name e=a7 b->∃w,b=.tup [s9 e,.str w]:=λb h=>by unfold iM at h;split at h;cases h;rw[kB]at h;exact Kg b h
theorem cx{k:c5}(h:bp d≠k):kinds (log++[d]) k=kinds log k:=by rw[cY,n6 h,I9]
theorem zT{k:c5}(h:¬(bp d=k/\ba d=name)):cU (log++[d]) k name=cU log k name:=by rw[xD,n6 h,I9]
theorem wP(l:List (D×D))(k:D):aX (dictOf l) k=aX (dictOf<|l.filter λp=>decide<|p.1=k) k:=by refine bz (P:=λl=>aX (dictOf l) k=aX (dictOf<|l.filter λp=>decide<|p.1=k) k) rfl (λl p i=>?_) l;rw[LC,KN,L9];by_cases e:p.1=k;rw[n5<|dT_ e,bu,bu,e,gM,gM];rw[n6 (by rw[dF_ e];decide),I9,bu,gn<|z8 e,i]
theorem AF(l:List (D×D))(h:k≠s):aX (l.filter λp=>decide<|p.1≠s) k=aX l k:=by unfold aX;rw[List.find?_filter];congr 2;funext p;by_cases e:p.1=k;rw[dT_ e,e];simp[h];rw[dF_ e];simp
theorem qi(l:List (D×D))(hs:s∉l.map (·.1))(h:k≠s):aX (l++[(s,d)]) k=aX l k:=by rw[<-lB hs,gn h]
structure Anew(rs:List (c5×List c5))(log:List D)(d s:D):Prop where
 sh:((ah rs<|log++[d]).filter λp=>decide<|p.1≠s)=(ah rs log).filter λp=>decide<|p.1≠s
 ct:ag rs (log++[d])=ag rs log\/(ag rs (log++[d])=ag rs log++[(s,d)]/\s∉(ag rs log).map (·.1))
 ch:∀k,k≠s->((kinds (log++[d])<|AA0 "change").filter λc=>decide<|fR c=k)=(kinds log<|AA0 "change").filter λc=>decide<|fR c=k
 st:St s
 kd:bp d=AA0 "say"\/bp d=AA0 "change"\/bp d=AA0 "back"
theorem GR:AA0 "say"≠AA0 "seen"/\AA0 "change"≠AA0 "seen"/\AA0 "back"≠AA0 "seen"/\AA0 "say"≠AA0 "read"/\AA0 "change"≠AA0 "read"/\AA0 "back"≠AA0 "read":=by decide +kernel
theorem xX:AA0 "say"≠AA0 "rung"/\AA0 "change"≠AA0 "rung"/\AA0 "back"≠AA0 "rung"/\AA0 "say"≠AA0 "hush"/\AA0 "change"≠AA0 "hush"/\AA0 "back"≠AA0 "hush":=by decide +kernel
theorem mZ:AA0 "say"≠AA0 "change"/\AA0 "say"≠AA0 "back"/\AA0 "change"≠AA0 "back":=by decide +kernel
theorem Anew.mine(a:Anew rs log d s){k:c5}(h1:AA0 "say"≠k)(h2:AA0 "change"≠k)(h:AA0 "back"≠k):cU (log++[d]) k name=cU log k name:=zT λz=>by rcases a.kd with q|q|q;exact h1<|q.symm.trans z.1;exact h2<|q.symm.trans z.1;exact h<|q.symm.trans z.1
theorem Anew.says(a:Anew rs log d s)(h:s9 e≠s):Bn rs (log++[d]) e=Bn rs log e:=by
 unfold Bn aO;rw[wP,wP<|((kinds log<|AA0 "change").filter<|E7<|ah rs log).map λd=>(fR d,bD d)];have g:∀k,k≠s->aX (ah rs<|log++[d]) k=aX (ah rs log) k:=λk b=>by rw[<-AF (ah rs<|log++[d]) b,a.sh,AF _ b]
 have y:∀(l:List D) (S:List (D×D)),((l.filter<|E7 S).map λd=>(fR d,bD d)).filter (λp=>decide<|p.1=s9 e)=((l.filter λc=>decide<|fR c=s9 e).filter λc=>E7 S c).map λd=>(fR d,bD d):=λl S=>by rw[NF,Oz,Oz];congr 1;exact Me λc _=>Bool.and_comm _ _
 rw[y,y,a.ch _ h];have:(((kinds log<|AA0 "change").filter λc=>decide<|fR c=s9 e).filter λc=>E7 (ah rs<|log++[d]) c)=(((kinds log<|AA0 "change").filter λc=>decide<|fR c=s9 e).filter λc=>E7 (ah rs log) c):=Me λc f=>by have m:=oT_ (A3.mp f).2;unfold E7;rw[m,g _ h]
 rw[this]
theorem zF:x∈nB kvs name↔x∈kvs.map (·.1)/\ba ((aX kvs x).getD .non)=name:=by unfold nB;rw[A3,o4]
theorem Anew.full(a:Anew rs log d s)(l:LogS ps rs log)(o:e∈(ah rs log).map (·.2))(h:s9 e≠s):iM rs (log++[d]) name e=iM rs log name e:=by
 have f:(s9 e,e)∈ag rs log:=by obtain⟨p,f,rfl⟩:=v6.mp o;have h1:=(bx.mp f).1;have:=(aw.en p h1).1;rw[<-this];exact h1
 have S:∀d∈kinds log (AA0 "say"),St (s9 d):=λd m=>(l.dk d (aV m).1).st;have A:=(Ax (rs:=rs) (H:=λ_=>bt) (List.Pairwise.filter _ l.up) S).1 (s9 e,e) f;have g:eX (log++[d]) name=eX log name:=by funext w;unfold eX Av;rw[a.mine xX.2.2.2.1 xX.2.2.2.2.1 xX.2.2.2.2.2]
 unfold iM;have i:kY (log++[d]) name e=kY log name e:=by unfold kY cT py;rw[a.mine GR.1 GR.2.1 GR.2.2.1,a.mine GR.2.2.2.1 GR.2.2.2.2.1 GR.2.2.2.2.2]
 have j:cB rs (log++[d]) name e=cB rs log name e:=by unfold cB cT;rw[a.mine xX.1 xX.2.1 xX.2.2.1]
 have R:decide (bD e∈nB (ag rs<|log++[d]) name)=decide (bD e∈nB (ag rs log) name):=by
  rcases a.ct with q|⟨q,hs⟩
  rw[q];rw[q,decide_eq_decide,zF,zF,G1];have c:bD e≠s\/bD e=.non:=by rcases A with z|z;exact .inr z;exact .inl λy=>hs<|y ▸ z
  rcases c with z|z;rw[qi _ hs z,C9];exact and_congr_left' ⟨λy=>y.resolve_right λy=>z<|Km.mp y,.inl⟩;have b:s≠.non:=λy=>by obtain⟨t,n,k,z⟩:=a.st;rw[z]at y;cases y
  rw[qi _ hs<|λy=>b<|y.symm.trans z,C9];exact and_congr_left' ⟨λy=>y.resolve_right λy=>b<|(Km.mp y).symm.trans z,.inl⟩
 have I:qB rs (log++[d]) name e=qB rs log name e:=by
  unfold qB;rw[g];rcases a.ct with q|⟨q,hs⟩
  rw[q];rw[q,cZ];congr 1;split;rw[decide_eq_decide,C9];exact⟨λy=>y.resolve_right λy=>h<|Km.mp y,.inl⟩;rfl
 rw[i,kB,kB,j,g,a.says h,R,I]
theorem AI{f:D->Option D}{q:D->Bool}{l:List D}(h:∀e∈l,q e=bt->f e=a8):l.filterMap f=(l.filter q).filterMap f:=by
 rw[List.filterMap_filter];refine qo λe i=>?_;cases a:q e with
 |true=>rfl
 |false=>exact h e i a
theorem Anew.bells{ps:List (c5×Int)}(a:Anew rs log d s)(j:LogS ps rs log):((aZ rs (log++[d]) name).filter λb=>!decide (jR b=s))=(aZ rs log name).filter λb=>!decide (jR b=s):=by
 rw[cA,cA,sR,sR];have k:∀(g:List D) (e:D),decide (s9 e≠s)=bt->(iM rs g name e).filter (λb=>!decide (jR b=s))=a8:=λg e f=>by
  have c:s9 e=s:=Lq λz=>by rw[dT_ z]at f;cases f
  cases B:iM rs g name e with
  |none=>rfl
  |some b=>obtain⟨w,rfl⟩:=gO b B;rw[Option.filter_some,show jR (.tup [s9 e,.str w])=s9 e from rfl,dT_ c];rfl
 rw[AI (q:=λe=>decide<|s9 e≠s) λe _=>k _ e,AI (q:=λe=>decide<|s9 e≠s) (l:=(ah rs log).map (·.2)) λe _=>k _ e];have es:∀g:List D,(((ah rs g).map (·.2)).filter λe=>decide<|s9 e≠s)=((ah rs g).filter λp=>decide<|p.1≠s).map (·.2):=λg=>by rw[NF];congr 1;refine Me λp h=>?_;show decide (s9 p.2≠s)=decide (p.1≠s);rw[(aw.en p (bx.mp h).1).1]
 rw[es,es,a.sh];refine qo λe i=>?_;obtain⟨p,h,rfl⟩:=v6.mp i;obtain⟨h1,h2⟩:=A3.mp h;rw[a.full j (G7 h1)<|by rw[<-(aw.en p (bx.mp h1).1).1];exact oT_ h2]
theorem Anew.change(h:bp d=AA0 "change")(m:St (fR d)):Anew rs log d (fR d):=by
 have t:ag rs (log++[d])=ag rs log:=by unfold ag;rw[cx<|by rw[h];exact z8 mZ.1]
 have l:ah rs (log++[d])=ah rs log:=by unfold ah;rw[t];refine Me λp _=>?_;unfold bY;rw[cx<|by rw[h];exact mZ.2.2]
 refine⟨by rw[l],.inl t,λk a=>?_,m,.inr<|.inl h⟩;rw[cY,n5 h,LC,KN,L9,n6 (by rw[dF_<|z8 a];decide),I9]
theorem Anew.back(c:bp d=AA0 "back")(m:St (fR d)):Anew rs log d (fR d):=by
 have t:ag rs (log++[d])=ag rs log:=by unfold ag;rw[cx<|by rw[c];exact z8 mZ.2.1]
 refine⟨?_,.inl t,λk _=>by rw[cx<|by rw[c];exact z8 mZ.2.2],m,.inr<|.inr c⟩;unfold ah;rw[t,Oz,Oz];refine Me λp _=>?_;by_cases h:p.1=fR d;rw[dF_<|λz=>z h];rfl;have:bY (ag rs log) (log++[d]) p.1↔bY (ag rs log) log p.1:=by unfold bY;rw[cY,n5 c];constructor;rintro⟨b,a,q1,q2⟩;rcases C9.mp a with a|a;exact⟨b,a,q1,q2⟩;rw[Km.mp a]at q2;exact n9 q2.symm h;rintro⟨b,a,q1,q2⟩;exact⟨b,Ks _ a,q1,q2⟩
 congr 1;exact(@decide_eq_decide _ _ (KI _)<|KI _).mpr<|not_congr this
theorem Anew.said(a:bp d=AA0 "say")(m:St (s9 d))(n:s9 d∉(ag rs log).map (·.1)):Anew rs log d (s9 d)/\(ah rs (log++[d])=ah rs log\/ah rs (log++[d])=ah rs log++[(s9 d,d)]):=by
 have t:ag rs (log++[d])=ag rs log\/ag rs (log++[d])=ag rs log++[(s9 d,d)]:=by unfold ag at n ⊢;rw[cY,n5 a,dE];unfold uc;split;exact .inr<|lB n;exact .inl rfl
 have e:∀s x,bY s (log++[d]) x↔bY s log x:=λs x=>by unfold bY;rw[cx<|by rw[a];exact mZ.2.1]
 have g:ah rs (log++[d])=ah rs log\/ah rs (log++[d])=ah rs log++[(s9 d,d)]:=by
  rcases t with q|q;left;unfold ah;rw[q];exact Me λp _=>(@decide_eq_decide _ _ (KI _)<|KI _).mpr<|not_congr<|e _ _;unfold ah;rw[q,LC];have:((ag rs log).filter λp=>@decide (¬bY (ag rs log++[(s9 d,d)]) (log++[d]) p.1)<|KI _)=(ag rs log).filter λp=>@decide (¬bY (ag rs log) log p.1) (KI _):=Me λp i=>by
   have c:p.1≠s9 d:=λz=>n (z ▸ G7 (f:=(·.1)) i);refine(@decide_eq_decide _ _ (KI _)<|KI _).mpr<|not_congr<|(e _ _).trans ?_;have w:∀b,fR b=p.1->E7 (ag rs log++[(s9 d,d)]) b=E7 (ag rs log) b:=λb h=>by unfold E7;rw[h,qi _ n c]
   constructor;rintro⟨b,h,q1,q2⟩;exact⟨b,h,(w b q2) ▸ q1,q2⟩;rintro⟨b,h,q1,q2⟩;exact⟨b,h,(w b q2).symm ▸ q1,q2⟩
  rw[this,KN,L9];split;exact .inr rfl;exact .inl<|I9 _
 refine⟨⟨?_,t.imp id λq=>⟨q,n⟩,λk _=>by rw[cx<|by rw[a];exact mZ.1],m,.inl a⟩,g⟩;rcases g with q|q;rw[q];rw[q,LC,KN,L9,n6 (by simp),I9]
theorem Be:((aZ rs log name).map jR).Sublist ((ah rs log).map (·.1)):=by
 rw[cA];have e:(ah rs log).map (·.1)=((ah rs log).map (·.2)).map s9:=by rw[E2];exact OG λp h=>(aw.en p (bx.mp h).1).1
 rw[e];generalize (ah rs log).map (·.2)=l;induction l with
 |nil=>exact .slnil
 |cons e l i =>
  rw[KG,C0];cases B:iM rs log name e with
  |none=>exact i.cons _
  |some b=>obtain⟨w,rfl⟩:=gO b B;exact i.cons₂ _
theorem Io{l:List D}{s:D}(p:(l.map jR).Nodup):(l.filter λb=>decide<|jR b=s).length<=1:=by
 have nd':((l.filter λb=>decide<|jR b=s).map jR).Nodup:=(Pi.map _).nodup p;have hs:∀b∈l.filter λb=>decide<|jR b=s,jR b=s:=λb d=>oT_ (A3.mp d).2;generalize l.filter (λb=>decide<|jR b=s)=m at nd' hs
 match m,nd',hs with
 | [],_,_=>exact w5 _
 | [_],_,_=>exact u6 _
 |a::b::m,nd',hs=>rw[C0,Lc]at nd';exact n9 (by rw[hs a (by simp),<-hs b (by simp)];simp) nd'.1
theorem BY{t:Int}{k:Int}(c:∀d∈log,∃(t:Int) (z:c5) (k:Int),s9 d=.tup [.int t,.tup [.str z,.int k]]/\ba d=z):(aZ rs log name).filter (λb=>decide<|jR b=.tup [.int t,.tup [.str name,.int k]])=[]:=by refine Po.mpr λb h z=>?_;have z:=oT_ z;rw[cA]at h;obtain⟨e,i,L⟩:=Ml.mp h;obtain⟨w,rfl⟩:=gO b L;have z:s9 e=_:=z;obtain⟨p,f,rfl⟩:=v6.mp i;obtain⟨_,W⟩:=aw.en p (bx.mp f).1;obtain⟨t',G,H,a,l⟩:=c p.2 (aV W).1;rw[a]at z;injection z with z;injection z with _ z;injection z with z;injection z with z;injection z with z;injection z with z;unfold iM at L;rw[n5]at L;cases L;unfold kY;rw[dT_<|l.trans z,Bool.true_or]
theorem Bg(d:bY (ag rs log) log s):(aZ rs log name).filter (λb=>decide<|jR b=s)=[]:=by refine Po.mpr λb h z=>?_;have z:=oT_ z;rw[cA]at h;obtain⟨e,i,L⟩:=Ml.mp h;obtain⟨w,rfl⟩:=gO b L;have z:s9 e=s:=z;obtain⟨p,a,rfl⟩:=v6.mp i;obtain⟨V,W⟩:=bx.mp a;rw[(aw.en p V).1,z]at W;exact W d
theorem zh(g:s9 d∉(ag rs log).map (·.1))(s:ah rs (log++[d])=ah rs log\/ah rs (log++[d])=ah rs log++[(s9 d,d)])(c:b∈aZ rs (log++[d]) name)(h:jR b=s9 d):ah rs (log++[d])=ah rs log++[(s9 d,d)]/\iM rs (log++[d]) name d=a7 b/\∃L,aZ rs (log++[d]) name=L++[b]:=by
 rw[cA]at c ⊢;have n:∀e∈(ah rs log).map (·.2),s9 e≠s9 d:=λe i z=>by obtain⟨p,j,rfl⟩:=v6.mp i;have V:=(bx.mp j).1;refine g ?_;rw[<-z,<-(aw.en p V).1];exact G7 (f:=(·.1)) V
 obtain⟨e,i,a⟩:=Ml.mp c;obtain⟨w,rfl⟩:=gO b a;have h:s9 e=s9 d:=h;rcases s with q|q;rw[q]at i;exact n9 h<|n e i;rw[q,G1]at i;rcases C9.mp i with i|i;exact n9 h<|n e i;obtain rfl:e=d:=Km.mp i;refine⟨q,a,?_⟩;rw[q,G1,List.filterMap_append];exact⟨_,by rw[List.map_singleton,KG,a];rfl⟩
theorem CU{w:c5}(h:iM rs log name e=a7 (.tup [s9 e,.str w])):aR e∈bF rs name/\((w==AA0 "named")=dP (Bn rs log e) name):=by
 unfold iM at h;split at h;cases h
 ·rw[kB]at h
  unfold ye at h;split at h
  ·rename_i f
   rw[C5]at f;have a:=f.1;unfold cB at a;rw[C5,o4]at a;refine⟨a.1,?_⟩;have R:AA0 "answered"≠AA0 "named"/\AA0 "heard"≠AA0 "named":=by decide +kernel
   have wi:∀{x:c5},a7 (D.tup [s9 e,.str x])=a7 (.tup [s9 e,.str w])->w=x:=λz=>by injection z with z;injection z with z;injection z with _ z;injection z with z;injection z with z;exact z.symm
   repeat' split at h
   rename_i h1;rw[h1,wi h];exact p5 _;rename_i h1 _;rw[KD.mpr h1,wi h];exact beq_eq_false_iff_ne.mpr R.1;cases h;rename_i h1 _ _;rw[KD.mpr h1,wi h];exact beq_eq_false_iff_ne.mpr R.2
  cases h
theorem BL(d:(rs.map (·.1)).Nodup)(h:r∈bF rs name):name∈wC rs r:=by
 obtain⟨p,a,rfl⟩:=v6.mp h;obtain⟨h1,h2⟩:=A3.mp a;have h2:=oT_ h2;clear a h;induction rs with
 |nil=>cases h1
 |cons q rs i=>rw[mO];rw[C0,Lc]at d;rcases z9.mp h1 with rfl|h1;rw[n5 rfl];exact h2;rw[n6 (λz:q.1=p.1=>d.1 (by rw[z];exact G7 (f:=(·.1)) h1))];exact i d.2 h1
end
noncomputable def mv(r:c5×List c5):c5×D:=(r.1,.tup<|r.2.map .str)
theorem Df(ps:List (c5×D))(h:(ps.map (·.1)).Nodup):iN ps=ps:=by revert h;refine bz (P:=λps=>(ps.map (·.1)).Nodup->iN ps=ps) (λ_=>rfl) (λps p i h=>?_) ps;rw[G1]at h;have h':=Oo.mp h;rw[oZ,i h'.1];unfold mz;rw[n6];intro z;obtain⟨q,a,e⟩:=Kq.mp z;exact h'.2.2 _ (G7 a) p.1 (by simp)<|oT_ e
theorem xp{rs:List (c5×List c5)}(h:(rs.map (·.1)).Nodup):iN (rs.map mv)=rs.map mv:=Df _<|by rw[E2];exact h
theorem rS:∀{rs:List (c5×List c5)},r∈rs.map (·.1)->fT (rs.map mv) r=a7 (.tup<|(wC rs r).map .str)
 |p::rs,h=>by rw[mO];unfold fT;rw[C0,KC];by_cases e:p.1=r;rw[n5 e,show decide ((mv p).1=r)=a9 from dT_ e];rfl;rw[n6 e,show decide ((mv p).1=r)=bt from dF_ e];rw[C0,z9]at h;exact rS<|h.resolve_left<|z8 e
theorem zi{rs:List (c5×List c5)}:rs.map eS=(rs.map mv).map λp=>.tup [.str p.1,p.2]:=by rw[E2];rfl
noncomputable def m4:D->D
 |.tup [_,_,_,_,v,_]=>v
 |_=>.non
noncomputable def lN:p9:=bq<|p7 LG (r9 iT<|aa (ab 8) af)<|dC<|.int 2
noncomputable def qR:p9:=bq<|nL (p7 x9 (p7 u5 (ab 7)<|Nn GM<|dC<|.int 1)<|p7 u5 (ab 8)<|dC<|.int 0)<|nL (ab 10)<|p7 x9 (p7 x9 (p7 u5 (p7 u5 (ab 8)<|dC<|.int 0)<|dC<|.int 1)<|dC<|.str "named")<|r9 fL<|aa (ab 9)<|aa (ab 5) af
noncomputable def qS:p9:=aB (aT (p7 K3 (ab 5)<|Dp (r9 wm<|aa (p7 u5 (ab 0)<|dC<|.int 1) af)<|p7 u5 (ab 3)<|dC<|.int 1) 10)<|qR
noncomputable def qT:p9:=aB (A1 (Bp (ay<|p7 x9 (p7 u5 (ab 3)<|dC<|.int 0)<|dC<|.str "say")<|ay<|p7 K2 (ab 8)<|iV af) (aB (aT (p7 u5 (D2 1 [4] (bI<|r9 bP<|aa (ab 0)<|aa (ab 2) af) (ao 0) (ay<|p7 x9 (p7 u5 (ab 0)<|dC<|.int 0)<|ab 1)<|p7 u5 (ab 0)<|dC<|.int 4)<|dC<|.int 0) 9)<|qS) bf)<|lN
noncomputable def qU:p9:=aB (A1 (LH (ay<|p7 x9 (p7 u5 (ab 3)<|dC<|.int 0)<|dC<|.str "back")<|ay<|p7 x9 (p7 u5 (p7 u5 (ab 4)<|dC<|.int 1)<|dC<|.int 0)<|ab 5) (bq<|p7 x9 (ab 8)<|iV af) bf)<|qT
noncomputable def qV:p9:=aB (ik 1 [4] (bI<|ab 7) (ao 0) (ay<|p7 x9 (p7 u5 (ab 0)<|dC<|.int 0)<|ab 1) (ab 0) 8)<|qU
noncomputable def lO:p9:=aB (A1 (ay<|p7 K2 (D2 1 [4] (bI<|ab 7) (ao 0) (ay<|p7 K2 (p7 u5 (ab 0)<|dC<|.int 0)<|ab 1)<|ab 0)<|D2 1 [4] (bI<|ab 6) (ao 0) (ay<|p7 K2 (p7 u5 (ab 0)<|dC<|.int 0)<|ab 1)<|ab 0) (bq<|dC<|.bl bt) bf)<|qV
noncomputable def qW:p9:=aB (A1 (ay<|p7 K2 (p7 u5 (ab 3)<|dC<|.int 0)<|dC<|.str "say") (aT (p7 u5 (ab 3)<|dC<|.int 1) 4) bf)<|lO
noncomputable def qX:p9:=aB (aT (r9 bX<|aa (ab 0)<|aa (ab 2)<|aa (ab 5) af) 7)<|qW
noncomputable def yz:p9:=aB (aT (r9 bX<|aa (ab 0)<|aa (ab 1)<|aa (ab 5) af) 6)<|qX
theorem uf{M B:t5}{R:DK}{ps:List (c5×Int)}{rs:List (c5×List c5)}{log:List D}{d:D}{J:Int}{K:c5}{I:Int}{x:c5}{dl:List D}{name:c5}{q6 q7:Nat}(hf:HouseF ps rs)(hl:LogS ps rs log)(n:∀y∈log++[d],aH ps rs y)(T:Dw d=.tup (.str x::dl))(kd:bp d=x)(an:Anew rs log d (.tup [.int J,.tup [.str K,.int I]]))(U:x=AA0 "back"->bY (ag rs<|log++[d]) (log++[d]) (.tup [.int J,.tup [.str K,.int I]]))(F:x=AA0 "say"->s9 d=.tup [.int J,.tup [.str K,.int I]]/\s9 d∉(ag rs log).map (·.1)/\(ah rs (log++[d])=ah rs log\/ah rs (log++[d])=ah rs log++[(s9 d,d)])) (nl:name.length<=100) (sn:eI name) (H:M <+: B) (g6:B[q6]?=a7 (.lst<|aZ rs log name)) (N:B[q7]?=a7 (.lst<|aZ rs (log++[d]) name)) (h:R (.bl a9) M):lO (EE M R) [a7<|aG ps rs,a7<|.tup log,a7<|.tup<|log++[d],a7<|.tup<|.str x::dl,a7<|.tup [.int J,.tup [.str K,.int I]],a7<|.str name,a7<|.ref q6,a7<|.ref q7,a8,a8,a8] B:=by
 have cl:=hl.len;have ll:(log++[d]).length<=61:=by rw[z5,G8];lia
 have b6:=tJ (rs:=rs) (log:=log) (name:=name);have b7:=tJ (rs:=rs) (log:=log++[d]) (name:=name);have t6:=qz (rs:=rs) (name:=name) hl.dk;have t7:=qz (rs:=rs) (name:=name) n;have as:∀{M:t5},∀y∈aZ rs (log++[d]) name,u3 M 29 y=a9/\t4 M 29 y y=a9:=λ{M}=>Bf n;have r:St (.tup [.int J,.tup [.str K,.int I]]):=⟨_,_,_,rfl⟩
 have bm:∀y∈log++[d],∃(t:Int) (z:c5) (k:Int),s9 y=.tup [.int t,.tup [.str z,.int k]]/\ba y=z:=λy O=>by obtain⟨t,z,k,cn,x,ds,rfl,_⟩:=n y O;exact⟨t,z,k,rfl,rfl⟩
 have on:=BY (rs:=rs) (name:=name) (t:=J) (k:=I) bm;have bn:=λhb=>Bg (rs:=rs) (name:=name) (log:=log++[d]) (s:=.tup [.int J,.tup [.str K,.int I]]) hb;have m1:=Io (s:=.tup [.int J,.tup [.str K,.int I]])<|(Be (rs:=rs) (log:=log++[d]) (name:=name)).nodup wg;have X:=an.bells (name:=name) hl;have sb:=λb (hx:x=AA0 "say")=>zh (rs:=rs) (log:=log) (d:=d) (name:=name) (b:=b) (F hx).2.1 (F hx).2.2;generalize hs:D.tup [.int J,.tup [.str K,.int I]]=s at r X m1 bn;have P:∀{B:t5}{q:Nat}{L:List D}{Q:DK},B[q]?=a7 (.lst L)->(∀y∈L,∃(e:D) (w:c5),y=.tup [s9 e,.str w]/\St (s9 e))->L.length<=100->Q (.ref B.length) (B++[.lst<|L.filter λb=>!decide (jR b=s)])->ng (λM=>ax M q L) (ao 0) (ay<|p7 K2 (p7 u5 (ab 0)<|dC<|.int 0)<|ab 1) (ab 0) Q L [] [a8,a7 s] B:=λ{B q L Q} gL hL lL hQ=>by refine aF (λb=>!decide (jR b=s)) id (λS=>∃a,S=[a,a7 s]) (.inl gL) _ _ _ ?_ ⟨_,rfl⟩ (by rw[B8];exact ak<|by lia) (by rw[D5,Lv];exact hQ);rintro y O S ⟨a,rfl⟩;obtain⟨e,w,rfl,C⟩:=hL y O;refine⟨[a7<|.tup [s9 e,.str w],a7 s],⟨_,rfl⟩,λY Z g=>?_⟩;rw[show jR (.tup [s9 e,.str w])=s9 e from rfl]at g;walk_at"dl";refine⟨⟨C.ok,r.ok⟩,?_⟩;rw[show t8=28+2 from rfl,C.eq r];exact g
 simp only[lO];walk_at"dl";refine⟨_,.inl N,λ_=>P N (λy O=>let ⟨e,w,a,_,b,_⟩:=t7 y O;⟨e,w,a,b⟩) (by lia) ?_⟩;rw[X];generalize hL:((aZ rs log name).filter λb=>!decide (jR b=s))=L;have bw:∀{M:t5},∀y∈L,u3 M 29 y=a9/\t4 M 29 y y=a9:=λ{M} y O=>Bf hl.dk y (by rw[<-hL]at O;exact(A3.mp O).1);have gl:(B++[MO.lst L])[B.length]?=a7 (.lst L):=ad;replace g6:=ac (a:=MO.lst L) g6;replace N:=ac (a:=MO.lst L) N;replace H:=H.trans<|dL (mo:=MO.lst L);generalize B++[MO.lst L]=B1 at gl g6 N H;generalize B.length=ql at gl;refine⟨_,.inl g6,λ_=>P g6 (λy O=>let ⟨e,w,a,_,b,_⟩:=t6 y O;⟨e,w,a,b⟩) (by lia) ?_⟩;rw[hL];obtain⟨bS,ee⟩:=zm (M:=B1++[MO.lst L]) (i:=ql) (j:=B1.length) (.inl<|ac gl) au bw;refine⟨bS,?_⟩;rw[ee];refine bE ?_;replace N:=ac (a:=MO.lst L) N;replace H:=H.trans<|dL (mo:=MO.lst L);generalize B1++[MO.lst L]=B2 at N H;simp only[qV];walk_at"dl";refine⟨_,.inl N,λ_=>?_⟩;refine aF (λb=>decide<|jR b=s) id (λS=>∃a,S=[a,a7 s]) (.inl N) _ _ _ ?_ ⟨_,rfl⟩ (by rw[B8];exact ak<|by lia) ?_;rintro y O S ⟨a,rfl⟩;obtain⟨e,w,rfl,_,C,_⟩:=t7 y O;refine⟨[a7<|.tup [s9 e,.str w],a7 s],⟨_,rfl⟩,λY Z g=>?_⟩;rw[show jR (.tup [s9 e,.str w])=s9 e from rfl]at g;walk_at"dl";refine⟨⟨C.ok,r.ok⟩,?_⟩;rw[show t8=28+2 from rfl,C.eq r];exact g;rw[D5,Lv];generalize A:((aZ rs (log++[d]) name).filter λb=>decide<|jR b=s)=o at m1;have cd:∀{M:t5},∀y∈o,u3 M 29 y=a9/\t4 M 29 y y=a9:=λ{M} y O=>as y (by rw[<-A]at O;exact(A3.mp O).1);have l:(B2++[MO.lst o])[B2.length]?=a7 (.lst o):=ad;replace N:=ac (a:=MO.lst o) N;replace H:=H.trans<|dL (mo:=MO.lst o);generalize B2++[MO.lst o]=B3 at N l H;generalize B2.length=q8 at l;obtain⟨W,en⟩:=dO (M:=B3) (.inl l) λy O=>(cd y O).1;simp only[qU];rw[<-hs];walk_at"dl";refine⟨⟨ar,ar⟩,?_⟩;rw[aN];by_cases cb:x=AA0 "back";rw[beq_iff_eq.mpr cb];have V:o=[]:=by rw[<-A,<-hs] ;rw[<-hs]at bn;exact bn<|U cb
 refine bH ⟨w5 _,W,?_⟩;rw[en,V];exact bg.bl h<|H.trans dL;rw[beq_eq_false_iff_ne.mpr cb];refine bE ⟨⟨ar,ar⟩,?_⟩;rw[aN];by_cases co:K=name;rw[beq_iff_eq.mpr co];have V:o=[]:=by rw[<-A,<-hs,co];exact on
 refine bH ⟨w5 _,W,?_⟩;rw[en,V];exact bg.bl h<|H.trans dL;rw[beq_eq_false_iff_ne.mpr co];refine bE ?_;have G:∀{E:DEnds}{B:t5}{a b:Option D},E.rt=bg M R->M <+: B->B[q8]?=a7 (.lst o)->lN E [a7<|aG ps rs,a7<|.tup log,a7<|.tup<|log++[d],a7<|.tup<|.str x::dl,a7<|.tup [.int J,.tup [.str K,.int I]],a7<|.str name,a7<|.ref q6,a7<|.ref q7,a7<|.ref q8,a,b] B:=λ{E B a b} eE H l=>by simp only[lN];walk_at"dl";refine⟨_,.inl l,?_⟩;rw[dT_ (show (o.length:Int)<2 by lia),eE];exact bg.bl h H
 simp only[qT];walk_at"dl";refine⟨⟨ar,ar⟩,?_⟩;rw[aN];by_cases cs:x≠AA0 "say";rw[beq_eq_false_iff_ne.mpr cs];exact bE<|G rfl H l;replace cs:=Classical.not_not.mp cs;rw[beq_iff_eq.mpr cs];refine bH ⟨w5 _,W,?_⟩;rw[en];replace N:=ac (a:=MO.lst []) N;replace l:=ac (a:=MO.lst []) l;replace H:=H.trans<|dL (mo:=MO.lst []);generalize B3++[MO.lst []]=B4 at N l H;cases u:o with
 |nil=>rw[u]at l G;refine bE ?_;rw[u]at A;exact G rfl H l
 |cons b aY =>
  have hb:b∈o:=by rw[u];simp
  have hr:aY=[]:=by rw[u,C2]at m1;exact O2<|by lia
  rw[<-A]at hb;obtain⟨ai,aP⟩:=A3.mp hb;obtain⟨sd,hn,_⟩:=F cs;have aS:jR b=s9 d:=by rw[oT_ aP,<-hs,sd]
  obtain⟨sh,fb,L',aD⟩:=sb b cs ai aS;obtain⟨w,rfl⟩:=gO b fb;obtain⟨wr,ww⟩:=CU fb;rw[hr]at u;rw[u]at l;have cm:(ap rs<|log++[d]).length<=100:=by unfold ap;rw[u4];exact B9 (J2 _ _)<|B9 aw.len<|B9 bo<|by lia
  have bs:∀m∈ap rs (log++[d]),∃(a b c v f:D),m=.tup [a,b,c,v,m4 m,f]/\St a:=λm A=>by obtain⟨p,hp,rfl⟩:=v6.mp A;obtain⟨_,d1,_⟩:=eQ n p hp;exact⟨_,_,_,_,_,rfl,d1.st⟩
  have ce:((ap rs<|log++[d]).filter λm=>decide<|jR m=s).map m4=[Bn rs (log++[d]) d]:=by
   unfold ap;rw[sh,G1,LC];have e0:(((ah rs log).map λp=>zS (aO (ah rs log++[(s9 d,d)])<|log++[d]) p.2).filter λm=>decide<|jR m=s)=[]:=Po.mpr λm A z=>by obtain⟨p,hp,rfl⟩:=v6.mp A;have z:s9 p.2=s:=oT_ z;have q1:=(bx.mp hp).1;refine hn ?_;rw[sd,hs,<-z,<-(aw.en p q1).1];exact G7 (f:=(·.1)) q1
   rw[e0,D5,List.map_singleton,KN,L9,n5 (show decide (jR (zS (aO (ah rs log++[(s9 d,d)])<|log++[d]) (s9 d,d).2)=s)=a9 from dT_<|show s9 d=s by rw[sd,hs]),<-sh];rfl
  refine bH ⟨ps,rs,log++[d],rfl,n,by lia,_,au,λ_=>?_⟩;replace N:=ac (a:=MO.lst<|ap rs<|log++[d]) N;replace l:=ac (a:=MO.lst<|ap rs<|log++[d]) l;replace H:=H.trans<|dL (mo:=MO.lst<|ap rs<|log++[d]);have gm:(B4++[MO.lst<|ap rs<|log++[d]])[B4.length]?=a7 (.lst<|ap rs<|log++[d]):=ad;generalize B4++[MO.lst<|ap rs<|log++[d]]=B5 at N l H gm;generalize B4.length=qm at gm;rw[hs];refine aF (λm=>decide<|jR m=s) m4 (λS=>∃a,S=[a,a7 s]) (.inl gm) _ _ _ ?_ ⟨_,rfl⟩ (by rw[B8];exact ak<|by lia) ?_;rintro m A S ⟨a,rfl⟩;obtain⟨V,b,c,v,f,em,aj⟩:=bs m A;refine⟨[a7 m,a7 s],⟨_,rfl⟩,λY Z g=>?_⟩;have ef:jR m=V:=by rw[em];rfl
  rw[ef]at g;generalize m4 m=y4 at em g;rw[em]at g ⊢;walk_at"dl";refine⟨⟨aj.ok,r.ok⟩,?_⟩;rw[show t8=28+2 from rfl,aj.eq r];have e4:atI [V,b,c,v,y4,f] 4=a7 y4:=aA (j:=4) rfl;by_cases c1:V=s;rw[dT_ c1];rw[dT_ c1,n5 rfl]at g;refine bH ?_;rw[e4];exact g;rw[dF_ c1];rw[dF_ c1]at g;exact bE g;rw[D5,ce];obtain⟨sy,es,sl⟩:=wj n (n d<|by simp)<|kd.trans cs;rw[es]at ww ⊢;refine⟨_,au,?_⟩;rw[LZ];replace N:=ac (a:=MO.lst [D.str sy]) N;replace l:=ac (a:=MO.lst [D.str sy]) l;replace H:=H.trans<|dL (mo:=MO.lst [D.str sy]);generalize B5++[MO.lst [D.str sy]]=B6 at N l H;obtain⟨t',z',k',al,r',u',s',rfl,_,_,bk,_⟩:=kL (n d<|by simp)<|kd.trans cs;have T:D.tup [.str<|AA0 "say",.str r',u',.str s']=.tup (.str x::dl):=T;injection T with T;injection T with _ T;subst T;have wr:r'∈bF rs name:=wr;simp only[qS,aG];walk_at"dl";refine⟨rs.map mv,zi,by rw[u4];have:=hf.rl.2;lia,?_⟩;rw[xp hf.rnd];refine⟨_,_,ad,rS bk,⟨ar,jU⟩,?_⟩;rw[ku,dT_<|BL hf.rnd wr];replace N:=ac (a:=MO.dct<|rs.map mv) N;replace l:=ac (a:=MO.dct<|rs.map mv) l;replace H:=H.trans<|dL (mo:=MO.dct<|rs.map mv);generalize B6++[MO.dct<|rs.map mv]=B7 at N l H;rw[aD]at N;obtain⟨cp,ch⟩:=as (M:=B7) _ ai;simp only[qR];walk_at"dl";obtain⟨o2,q2⟩:=oT (M:=B7) 3 t8 (D.tup [D.tup [.int t',.tup [.str z',.int k']],.str w]) (by decide)<|.tup<|.cons (St.pl ⟨_,_,_,rfl⟩)<|.cons (.str _) .nil;refine⟨_,.inl N,?_⟩;rw[wT];refine⟨_,.inl l,?_⟩;rw[LZ];refine⟨⟨o2,o2⟩,?_⟩;rw[show s9 (.tup [.int t',.tup [.str z',.int k'],.int al,.tup [.str<|AA0 "say",.str r',u',.str s']])=.tup [.int t',.tup [.str z',.int k']]from rfl,q2];refine bH ?_;show ∃xs,ax B7 q8 xs/\_;refine⟨_,.inl l,?_⟩;rw[LZ];dsimp only;rw[LI];refine⟨⟨ar,ar⟩,sy,name,rfl,sl,nl,sn,⟨rfl,rfl⟩,?_⟩;rw[aN,ww];have eb:∀c:Bool,t4 B7 t8 (.bl c) (.bl c)=a9:=λc=>by cases c<;>rfl
  rw[eb];exact bg.bl h H
theorem Br:x6 lE 11 yz:=by
 rintro ds M R ⟨ps,rs,log,t,z,k,b,x,Y,n,rfl,j,l,V,w,T,i,o,C,h⟩;have c:∀y∈log++[D.tup [.int t,.tup [.str z,.int k],.int b,.tup<|.str x::Y]],aH ps rs y:=λy O=>by rcases C9.mp O with O|O;exact l.dk y O;rw[Km.mp O];exact w
 have Z:(log++[D.tup [.int t,.tup [.str z,.int k],.int b,.tup<|.str x::Y]]).length<=61:=by rw[z5,G8];lia
 simp only[yz];walk_at"dl";refine⟨ps,rs,log,n,rfl,l.dk,by lia,j.rl.2,o,?_⟩;have g:(M++[MO.lst<|aZ rs log n])[M.length]?=a7 (.lst<|aZ rs log n):=ad;have H:M <+: M++[MO.lst<|aZ rs log n]:=dL;generalize M++[MO.lst<|aZ rs log n]=B at g H;generalize M.length=q6 at g;simp only[qX];walk_at"dl";refine⟨ps,rs,_,n,rfl,c,by lia,j.rl.2,o,?_⟩;have N:(B++[MO.lst<|aZ rs (log++[D.tup [.int t,.tup [.str z,.int k],.int b,.tup<|.str x::Y]]) n])[B.length]?=a7 (.lst<|aZ rs (log++[D.tup [.int t,.tup [.str z,.int k],.int b,.tup<|.str x::Y]]) n):=ad;replace g:=ac (a:=MO.lst<|aZ rs (log++[D.tup [.int t,.tup [.str z,.int k],.int b,.tup<|.str x::Y]]) n) g;replace H:=H.trans<|dL (mo:=MO.lst<|aZ rs (log++[D.tup [.int t,.tup [.str z,.int k],.int b,.tup<|.str x::Y]]) n);generalize B++[MO.lst<|aZ rs (log++[D.tup [.int t,.tup [.str z,.int k],.int b,.tup<|.str x::Y]]) n]=X at g N H;generalize B.length=q7 at N;simp only[qW];walk_at"dl";refine⟨⟨ar,ar⟩,?_⟩;rw[aN];by_cases cs:x=AA0 "say";rw[beq_iff_eq.mpr cs];have I:s9 (.tup [.int t,.tup [.str z,.int k],.int b,.tup<|.str x::Y])∉(ag rs log).map (·.1):=λq=>by obtain⟨p,Q,e⟩:=v6.mp q;obtain⟨K,L⟩:=aw.en p Q;have f:=(aV L).1;have:=T p.2 f;obtain⟨t',E,A,r,x',ds',F,_⟩:=l.dk p.2 f;rw[K,F]at e;have e:D.tup [.int t',.tup [.str E,.int A]]=.tup [.int t,.tup [.str z,.int k]]:=e;injection e with e;injection e with e _;injection e with e;rw[F]at this;have:t' < t:=this;lia
 obtain⟨J,W⟩:=Anew.said (rs:=rs) (log:=log) (d:=.tup [.int t,.tup [.str z,.int k],.int b,.tup<|.str x::Y]) cs ⟨_,_,_,rfl⟩ I;exact bE<|uf j l c rfl rfl J (λz=>n9 (cs.symm.trans z) mZ.2.1) (λ_=>⟨rfl,I,W⟩) o C H g N h;rw[beq_eq_false_iff_ne.mpr cs];refine bH ?_;rcases i with i|i|⟨i,e,S,U⟩
 exact n9 i cs;obtain⟨t',E,A,r,m,s',G,f⟩:=jL w i;simp only[D.tup.injEq,MC,D.int.injEq,D.str.injEq,and_true]at G;obtain⟨rfl,⟨rfl,rfl⟩,rfl,rfl,rfl⟩:=G;obtain⟨u,v,s,rfl⟩:=id f;walk_at"dl";exact uf j l c rfl rfl (Anew.change (d:=.tup [.int t,.tup [.str z,.int k],.int b,.tup [.str<|AA0 "change",.tup [.int u,.tup [.str v,.int s]],.str s']]) rfl f) (λz=>n9 z mZ.2.2) (λz=>n9 z.symm mZ.1) o C H g N h;obtain⟨t',E,A,r,m,G,f⟩:=uY w i;simp only[D.tup.injEq,MC,D.int.injEq,D.str.injEq,and_true]at G;obtain⟨rfl,⟨rfl,rfl⟩,rfl,rfl,rfl⟩:=G;obtain⟨u,v,s,rfl⟩:=id f;walk_at"dl";refine uf j l c rfl rfl (Anew.back (d:=.tup [.int t,.tup [.str z,.int k],.int b,.tup [.str<|AA0 "back",.tup [.int u,.tup [.str v,.int s]]]]) rfl f) (λ_=>?_) (λz=>n9 z.symm mZ.2.1) o C H g N h;have P:ag rs (log++[D.tup [.int t,.tup [.str z,.int k],.int b,.tup [.str<|AA0 "back",.tup [.int u,.tup [.str v,.int s]]]]])=ag rs log:=by unfold ag;rw[cx<|z8 mZ.2.1]
 refine⟨.tup [.int t,.tup [.str z,.int k],.int b,.tup [.str<|AA0 "back",.tup [.int u,.tup [.str v,.int s]]]],A3.mpr ⟨E3 _<|List.mem_singleton.mpr rfl,dT_ rfl⟩,?_,rfl⟩;rw[P];unfold E7;rw[S];exact dT_ U.symm
theorem Cb(T:Tops P w K mg base):u7 P w K mg base 8 "_law_right" uh lE:=u7.byD (N:=["_law_house_here","_law_log_here","_law_more_here","_law_act_here","_law_stamp","_law_name_here","_law_before","_law_after","_law_mine","_law_saying_here","_law_member"]) T.b T.f_right (by walk_at"sc") Aa (by have:=ii T;have:=kO T;have:=uv T;walk_at"dv") Br
theorem Fm:cM (xL<|AA0 "_law_log") EY:=by rintro ds M R ⟨ns,m,_,_,rfl,_⟩;rfl
theorem xw(h:bF rs name=[]):aZ rs log name=[]:=by rw[cA];refine List.filterMap_eq_nil_iff.mpr λe _=>?_;unfold iM;split;rfl;rw[kB];unfold ye cB;rw[h];rfl
noncomputable def vV:p9:=bq<|dC<|.bl a9
noncomputable def yJ:p9:=aB (nK (bI<|p7 u5 (ab 1)<|dC<|.int 0) (nI 2<|cK (ao 9)<|cK (ao 10) nJ)<|A1 (JY<|ay<|r9 lE<|aa (ab 1)<|aa (ab 2)<|aa (ab 7)<|aa (ab 6)<|aa (ab 8)<|aa (ab 9) af) (bq<|dC<|.bl bt) bf)<|vV
noncomputable def yK:p9:=aB (aT (fH<|aa (p7 u5 (p7 u5 (ab 7)<|Nn GM<|dC<|.int 1)<|dC<|.int 0)<|aa (ab 5) af) 8)<|yJ
noncomputable def yL:p9:=aB (aT (r9 qC<|aa (ab 2)<|aa (ab 5)<|aa (ab 6) af) 7)<|yK
noncomputable def tX:p9:=aB (A1 (ay<|p7 MS (ab 6)<|dC .non) (bq<|p7 x9 (r9 bX<|aa (ab 1)<|aa (ab 2)<|aa (p7 u5 (ab 5)<|dC<|.int 0) af)<|iV af) bf)<|yL
noncomputable def yM:p9:=aB (aT (r9 jQ<|aa (ab 3)<|aa (ab 1)<|aa (ab 2)<|aa (p7 u5 (ab 5)<|dC<|.int 0) af) 6)<|tX
noncomputable def yN:p9:=aB (aT (p7 u5 (ab 4)<|r9 aq<|aa (ab 3)<|aa (r9 iT<|aa (ab 4) af) af) 5)<|yM
noncomputable def yO:p9:=aB (aT (r9 jP<|aa (ab 1) af) 4)<|yN
noncomputable def tY:p9:=aB (aT (r9 dI<|aa (r9 eY<|aa (ab 0)<|aa (dC<|.int 1) af) af) 3)<|yO
noncomputable def yP:p9:=aB (aT (r9 wV<|aa (KQ (ab 0) (gx<|dC<|.int 2)<|gx<|dC<|.int 52)<|aa (ab 1) af) 2)<|tY
noncomputable def Hf:p9:=aB (aT (r9 lG<|aa (r9 eY<|aa (ab 0)<|aa (dC<|.int 0) af) af) 1)<|yP
theorem GW:x6 (xL<|AA0 "_law_log") 11 Hf:=by
 rintro ds M R ⟨ns,mo,ai,⟨A,v⟩,rfl,rfl,h⟩;have r:ax [mo,.tb (AA0 "_law_log") bt] 0 (ns.map D.int):=by have:=mP (M:=[mo,.tb (AA0 "_law_log") bt]) (n:=0) (mo:=mo) rfl v;rw[A]at this;exact this
 simp only[Hf];walk_at"dl";refine⟨0,ns,0,rfl,r,_,rfl,λps s f=>?_⟩;obtain⟨N,n1,aj⟩:=mV f;have X:=f.rl.2;have al:=f.rl.1;simp only[yP];walk_at"dl";refine⟨_,r,?_⟩;have L:∃cs:List Int,cutD (ns.map D.int) (a7 2) (a7 52)=cs.map D.int/\cs.length<=50:=by unfold cutD;refine⟨(ns.drop<|HT.sIx (ns.map D.int).length 0<|a7 2).take<|HT.sIx (ns.map D.int).length (ns.map D.int).length (a7 52)-HT.sIx (ns.map D.int).length 0 (a7 2),by rw[List.map_take,NB],?_⟩;rw[G2];unfold HT.sIx;simp;lia
 obtain⟨cs,L,cl⟩:=L;rw[L];refine⟨ps,s,2,1,cs,rfl,f,.inl rfl,by decide,by lia,rfl,λg u=>?_⟩;have Q:=u.len;have hL:ax ([mo,.tb (AA0 "_law_log") a9,.lst<|cs.map D.int]:t5) 0 (ns.map D.int):=by have:=mP (M:=[mo,.tb (AA0 "_law_log") a9,.lst<|cs.map D.int]) (n:=0) (mo:=mo) rfl v;rw[A]at this;exact this
 show tY _ _ ([mo,.tb (AA0 "_law_log") a9,.lst<|cs.map D.int]:t5);generalize ([mo,.tb (AA0 "_law_log") a9,.lst<|cs.map D.int]:t5)=I at hL;simp only[tY];walk_at"dl";refine⟨0,ns,1,rfl,hL,_,rfl,λT=>?_⟩;have l:H9 (I++[MO.lst [.int T]]) I.length:=⟨T,ad⟩
 generalize I++[MO.lst [.int T]]=w at l;generalize I.length=c at l;simp only[yO];walk_at"dl";refine⟨ps,_,rfl,N,?_⟩;have F:(w++[MO.lst<|aI ps])[w.length]?=a7 (.lst<|aI ps):=ad;have E:c≠w.length:=by have:=l.lt;lia
 replace l:H9 (w++[MO.lst<|aI ps]) c:=by obtain⟨m,e⟩:=l;exact⟨m,ac e⟩
 generalize w++[MO.lst<|aI ps]=K at l F;generalize w.length=q4 at F E;simp only[yN];walk_at"dl";refine⟨_,.inl F,c,_,rfl,l,by lia,by lia,λi n i0 i1=>?_⟩;have ql:=l.lt;obtain⟨j,hj,ej,_⟩:=dF (xs:=aI ps) i0 i1;have B:=J0 hj;have o:(K.set c<|.lst [.int n])[q4]?=a7 (.lst<|aI ps):=az (z8 E) F;have C:H9 (K.set c<|.lst [.int n]) c:=⟨n,KO ql⟩
 generalize K.set c (.lst [.int n])=Z at o C;refine⟨_,.inl o,?_⟩;rw[ej];obtain⟨z,k,ez⟩:=qh _ B;rw[ez]at B ⊢;have zn:z.length<=100:=by obtain⟨p,H,hq⟩:=List.mem_flatMap.mp B;unfold eG at hq;obtain⟨y,_,e⟩:=v6.mp hq;injection e with e;injection e with e _;injection e with e;have:=f.nm p H;rw[<-e];lia
 simp only[yM];walk_at"dl";refine⟨ps,s,g,z,c,rfl,C,f,u,λn hN=>?_,λx Y n H ha P=>?_⟩;dsimp only;generalize Z.set c (.lst [.int n])=U;simp only[tX];walk_at"dl";refine⟨ps,s,g,z,rfl,u.dk,by lia,X,zn,?_⟩;rw[xw hN];have ge:(U++[MO.lst []])[U.length]?=a7 (.lst []):=ad;generalize U++[MO.lst []]=B6 at ge;obtain⟨W,en⟩:=dO (M:=B6) (.inl ge) λ_ z=>nomatch z
 refine⟨w5 _,W,?_⟩;rw[en];exact .inl<|h _;dsimp only;generalize Z.set c (.lst [.int n])=U;simp only[tX];walk_at"dl";simp only[yL];walk_at"dl";refine⟨ps,s,g,z,k,x,Y,rfl,u.dk,by lia,B,H,λt d t1 ht=>?_⟩;have dd:aH ps s (.tup [.int t,.tup [.str z,.int k],.int d,.tup<|.str x::Y]):=⟨_,_,_,_,_,_,rfl,t1,B,H,ha⟩
 have la:atI (g++[D.tup [.int t,.tup [.str z,.int k],.int d,.tup<|.str x::Y]]) (-1)=a7 (.tup [.int t,.tup [.str z,.int k],.int d,.tup<|.str x::Y]):=wT _ _;dsimp only;simp only[yK];walk_at"dl";rw[la];dsimp only;rw[LZ];refine⟨ak (by lia),?_⟩;simp only[yJ,aG];walk_at"dl";intro _;refine bA (λi S J=>∃(a b:Option D),J=U/\S=[a7<|.ref 0,a7<|aG ps s,a7<|.tup g,a7<|.ref c,a7<|.ref q4,a7<|.tup [.str z,.int k],a7<|.tup<|.str x::Y,a7<|.tup<|g++[D.tup [.int t,.tup [.str z,.int k],.int d,.tup<|.str x::Y]],a7<|.tup [.int t,.tup [.str z,.int k]],a,b]) ?_ ?_ ⟨_,_,rfl,rfl⟩;rintro S J ⟨a,b,rfl,rfl⟩;refine⟨trivial,?_⟩;simp only[vV];walk_at"dl";exact .inl<|h _;rintro i y S J hy ⟨a,b,rfl,rfl⟩ G hG;obtain⟨V,O,rfl⟩:=v6.mp<|J1 hy;refine⟨trivial,?_⟩;unfold ga;walk_at"dl";refine⟨trivial,ps,s,g,t,z,k,d,x,Y,V.1,rfl,f,u,Q,dd,ht,?_,by have:=f.nm V O;lia,f.sm V O,?_⟩;rcases P with q|q|⟨q,m,e,rfl,q2,c⟩
 exact .inl q;exact .inr<|.inl q;exact .inr<|.inr ⟨q,e,q2,c⟩;exact bE<|A9.now<|hG _ _ ⟨_,_,rfl,rfl⟩
theorem ok_law(T:Tops P w K mg base)(F:K7 K "law" "law" (top 60) f fd):FnOk P w K mg base E9 9 f fd EY (Lf K<|xL "_law_log"):=CW (N:=["_law_script","_law_house_here","_law_log_here","_law_held","_law_hands_here","_law_hand","_law_act_here","_law_more_here","_law_stamp","_law_name_here","_law_many"]) T.b F (by walk_at"sc") Fm (by have:=kO T;have:=xv T;have:=mK T;have:=dB T;have:=Cd T;have:=wx T;have:=Ip T;have:=Fd T;have:=zL T;have:=Cb T;walk_at"dv") GW
end
end LW
namespace PySem.W.Fast
noncomputable def tw10000352639811103578:=0
noncomputable def tw10058504720815925121:=0
noncomputable def tw10091530769556817638:=0
noncomputable def tw10111252649351781093:=0
noncomputable def tw10128939501675068210:=0
noncomputable def tw1015033277029730413:=0
noncomputable def tw10162144307859723204:=0
noncomputable def tw10204238805205101406:=0
noncomputable def tw10209523079499696627:=0
noncomputable def tw1024483600368268547:=0
noncomputable def tw10299531997507623167:=0
noncomputable def tw1033809159462988989:=0
noncomputable def tw10395641956333808842:=0
noncomputable def tw10405685262824638500:=0
noncomputable def tw10414317494116046092:=0
noncomputable def tw10417441379043743951:=0
noncomputable def tw10507318567070983730:=0
noncomputable def tw10510549388646215035:=0
noncomputable def tw10568281133738161609:=0
noncomputable def tw1068477069084722225:=0
noncomputable def tw10689766905777522743:=0
noncomputable def tw10903940007845180828:=0
noncomputable def tw10925385362436679502:=0
noncomputable def tw11111966980329090899:=0
noncomputable def tw11117761824191071873:=0
noncomputable def tw11154045903190830875:=0
noncomputable def tw11235418241716364949:=0
noncomputable def tw11339372255622350317:=0
noncomputable def tw11343671912058562228:=0
noncomputable def tw11444775491538235970:=0
noncomputable def tw11477714510994139405:=0
noncomputable def tw11480325577304878112:=0
noncomputable def tw11508840736086459721:=0
noncomputable def tw11524569209116784303:=0
noncomputable def tw11561971521275785865:=0
noncomputable def tw11570817266936318951:=0
noncomputable def tw11584651031413246807:=0
noncomputable def tw11588751018631438697:=0
noncomputable def tw11742610889423742706:=0
noncomputable def tw11921520147875222275:=0
noncomputable def tw11923623679857122785:=0
noncomputable def tw11929823810953466001:=0
noncomputable def tw11979256940368500036:=0
noncomputable def tw11990161344937254612:=0
noncomputable def tw12033690621656901652:=0
noncomputable def tw12076633648611645114:=0
noncomputable def tw12117207621269891897:=0
noncomputable def tw12181879262141160871:=0
noncomputable def tw12212841823650051953:=0
noncomputable def tw12332596626372445543:=0
noncomputable def tw12333571707262560363:=0
noncomputable def tw12396041368998950886:=0
noncomputable def tw12445488801506973680:=0
noncomputable def tw12533018260353455164:=0
noncomputable def tw12713615043768824788:=0
noncomputable def tw12725138049010900845:=0
noncomputable def tw12879279660448741796:=0
noncomputable def tw12888777609200394594:=0
noncomputable def tw12917466337211134423:=0
noncomputable def tw12952469660979500782:=0
noncomputable def tw12978706303872164414:=0
noncomputable def tw1298084199047600182:=0
noncomputable def tw13064459544604066270:=0
noncomputable def tw13093575339743297795:=0
noncomputable def tw13223329998821666133:=0
noncomputable def tw13239120796089532537:=0
noncomputable def tw13332250012428337243:=0
noncomputable def tw13391911836797738582:=0
noncomputable def tw13403473345915437926:=0
noncomputable def tw13419143957077492960:=0
noncomputable def tw13463770779790086845:=0
noncomputable def tw13476268582394594841:=0
noncomputable def tw1351176699214191797:=0
noncomputable def tw13576393949349112094:=0
noncomputable def tw13609094006123683465:=0
noncomputable def tw13696833383410525712:=0
noncomputable def tw13796919832316058730:=0
noncomputable def tw13915667807638856519:=0
noncomputable def tw13978910182088158724:=0
noncomputable def tw14029993928610077042:=0
noncomputable def tw14097974802957021509:=0
noncomputable def tw14137764971908668906:=0
noncomputable def tw14216613739033253341:=0
noncomputable def tw14286396564212603137:=0
noncomputable def tw14424233908438838287:=0
noncomputable def tw14448040379657008969:=0
noncomputable def tw14479538652172368958:=0
noncomputable def tw14567315619379320585:=0
noncomputable def tw14622004717882828058:=0
noncomputable def tw14777061015076121742:=0
noncomputable def tw14788714538912357941:=0
noncomputable def tw14808532236615154822:=0
noncomputable def tw14855851171204947553:=0
noncomputable def tw14930957360551523020:=0
noncomputable def tw14949161898381776686:=0
noncomputable def tw14990263398352714178:=0
noncomputable def tw15022173001972411983:=0
noncomputable def tw15045969001540138057:=0
noncomputable def tw15097249735852088591:=0
noncomputable def tw15153564899108450779:=0
noncomputable def tw15155387744436304383:=0
noncomputable def tw15172534957972738600:=0
noncomputable def tw15177956398217806793:=0
noncomputable def tw15211069592451619183:=0
noncomputable def tw15260978320461118862:=0
noncomputable def tw15289343941977020386:=0
noncomputable def tw15322564166464055088:=0
noncomputable def tw15328953688163480262:=0
noncomputable def tw15400012034852333631:=0
noncomputable def tw15414007084389961581:=0
noncomputable def tw154494411374807261:=0
noncomputable def tw15492277910316417225:=0
noncomputable def tw15524365926337864151:=0
noncomputable def tw15549536858289064452:=0
noncomputable def tw15585167022883413385:=0
noncomputable def tw15606445219922980610:=0
noncomputable def tw15790013335905089984:=0
noncomputable def tw15811908519727894862:=0
noncomputable def tw15834190117625294495:=0
noncomputable def tw15876058070187639138:=0
noncomputable def tw15883020176809552531:=0
noncomputable def tw1606539715000608015:=0
noncomputable def tw16133898978542995664:=0
noncomputable def tw16137658944150271370:=0
noncomputable def tw16179606683203869538:=0
noncomputable def tw16237493411718451761:=0
noncomputable def tw1629323627530234496:=0
noncomputable def tw1634543156694775048:=0
noncomputable def tw16407639859629631860:=0
noncomputable def tw16417555592928990360:=0
noncomputable def tw16527793127849533346:=0
noncomputable def tw16543252429968989583:=0
noncomputable def tw16603362950517826832:=0
noncomputable def tw16606698912649418211:=0
noncomputable def tw16663511785936092853:=0
noncomputable def tw16689827123773470038:=0
noncomputable def tw16807758189491417359:=0
noncomputable def tw16894968229023096015:=0
noncomputable def tw16929206048943876720:=0
noncomputable def tw16958383383807525198:=0
noncomputable def tw17025627861352082847:=0
noncomputable def tw17146494992853815923:=0
noncomputable def tw17409170841029590900:=0
noncomputable def tw17427849780235685210:=0
noncomputable def tw17469663332398253221:=0
noncomputable def tw17539388033093447598:=0
noncomputable def tw17559647528296683498:=0
noncomputable def tw17566310740445125699:=0
noncomputable def tw17584785986736006639:=0
noncomputable def tw17647620026003255287:=0
noncomputable def tw1792853136716421313:=0
noncomputable def tw17989642563563611043:=0
noncomputable def tw18098689001821105433:=0
noncomputable def tw18225797124621210245:=0
noncomputable def tw182690963132002720:=0
noncomputable def tw18285055172755734794:=0
noncomputable def tw1927898944152018650:=0
noncomputable def tw1974692970018858540:=0
noncomputable def tw2093086574592512745:=0
noncomputable def tw2161677015002551030:=0
noncomputable def tw2224109568329058954:=0
noncomputable def tw2239487420117238525:=0
noncomputable def tw224377981788547820:=0
noncomputable def tw2323970763244811710:=0
noncomputable def tw2355770306547603875:=0
noncomputable def tw2426068734776886302:=0
noncomputable def tw2480064971183936861:=0
noncomputable def tw2543369510213880069:=0
noncomputable def tw2683837771343759239:=0
noncomputable def tw2695085144062279910:=0
noncomputable def tw2748495933780933502:=0
noncomputable def tw2858292628377770041:=0
noncomputable def tw2930305849344230128:=0
noncomputable def tw2992846477359844778:=0
noncomputable def tw3043694894965558404:=0
noncomputable def tw3073022938683517376:=0
noncomputable def tw3077012742849233398:=0
noncomputable def tw3122185135199243273:=0
noncomputable def tw314944955486894109:=0
noncomputable def tw3262552058058331623:=0
noncomputable def tw3335641409921052413:=0
noncomputable def tw3357218532982426402:=0
noncomputable def tw3358068958497019806:=0
noncomputable def tw3459237485945053111:=0
noncomputable def tw3464281192808082796:=0
noncomputable def tw3466599317635064656:=0
noncomputable def tw3493732523330048369:=0
noncomputable def tw3526059403497622494:=0
noncomputable def tw3544970372734813074:=0
noncomputable def tw355496955377572298:=0
noncomputable def tw3669424958151532295:=0
noncomputable def tw3682381910405976974:=0
noncomputable def tw3740465136761763734:=0
noncomputable def tw3786038556648880140:=0
noncomputable def tw3802641894776294444:=0
noncomputable def tw3988799488785152268:=0
noncomputable def tw3993640684641646033:=0
noncomputable def tw4015198736859295413:=0
noncomputable def tw406016949056693752:=0
noncomputable def tw4086510375138752777:=0
noncomputable def tw4117944246757245142:=0
noncomputable def tw4143555470814610553:=0
noncomputable def tw4148725963095738819:=0
noncomputable def tw4202509511083898865:=0
noncomputable def tw4276246585840639344:=0
noncomputable def tw4328771272662035127:=0
noncomputable def tw4389530003067668134:=0
noncomputable def tw4428302709648048620:=0
noncomputable def tw4478692305888119043:=0
noncomputable def tw4663572105825300889:=0
noncomputable def tw4859421485105835939:=0
noncomputable def tw4948473606194655116:=0
noncomputable def tw4964541467680196483:=0
noncomputable def tw5135159252526306371:=0
noncomputable def tw5154212378520554495:=0
noncomputable def tw5191620358409893116:=0
noncomputable def tw5217623694829698500:=0
noncomputable def tw5243521904552210651:=0
noncomputable def tw5319897387381804267:=0
noncomputable def tw5358071419687593962:=0
noncomputable def tw5505385954039396573:=0
noncomputable def tw5521328191286708255:=0
noncomputable def tw5523095107280737180:=0
noncomputable def tw5532516215024605416:=0
noncomputable def tw5629278029339074270:=0
noncomputable def tw5703900974353228672:=0
noncomputable def tw5754370905647705848:=0
noncomputable def tw5846802857166237577:=0
noncomputable def tw5855681446014964644:=0
noncomputable def tw6012938142032907239:=0
noncomputable def tw6104667364479679429:=0
noncomputable def tw6197913603566455318:=0
noncomputable def tw6207359290141371706:=0
noncomputable def tw6276208884338899891:=0
noncomputable def tw631504181083760230:=0
noncomputable def tw6331484291203483887:=0
noncomputable def tw6446134703645812185:=0
noncomputable def tw6453360906643341223:=0
noncomputable def tw6539942518166583526:=0
noncomputable def tw6597398644298297343:=0
noncomputable def tw6702355244363967950:=0
noncomputable def tw6745252446261430248:=0
noncomputable def tw6842766686225892205:=0
noncomputable def tw6883722539487638163:=0
noncomputable def tw6916483539896173530:=0
noncomputable def tw69333721514680125:=0
noncomputable def tw6986478552993809956:=0
noncomputable def tw7059047099146351332:=0
noncomputable def tw7074482962126066403:=0
noncomputable def tw7078840992461292911:=0
noncomputable def tw7082788051692985205:=0
noncomputable def tw7160555318713300751:=0
noncomputable def tw7187247556564667332:=0
noncomputable def tw7238314063915480652:=0
noncomputable def tw7240667271599292228:=0
noncomputable def tw7270676571992541052:=0
noncomputable def tw737276647631851087:=0
noncomputable def tw7398895819729270877:=0
noncomputable def tw7457350731601044324:=0
noncomputable def tw7504376207500414662:=0
noncomputable def tw7568736341171159529:=0
noncomputable def tw7652352949489921323:=0
noncomputable def tw7775055392272484430:=0
noncomputable def tw7803521453561228214:=0
noncomputable def tw7833628418861972544:=0
noncomputable def tw7849416231846172573:=0
noncomputable def tw7853506842722136913:=0
noncomputable def tw7966176878878712726:=0
noncomputable def tw8067507717442434886:=0
noncomputable def tw8080837196334986598:=0
noncomputable def tw8083199615095843413:=0
noncomputable def tw8118059255785658063:=0
noncomputable def tw8213165161845354381:=0
noncomputable def tw824615074158017009:=0
noncomputable def tw8258081320646159566:=0
noncomputable def tw8284893588251011225:=0
noncomputable def tw831692752411541839:=0
noncomputable def tw842416236287377777:=0
noncomputable def tw8565258457113593109:=0
noncomputable def tw857370097607600708:=0
noncomputable def tw8575198379595973107:=0
noncomputable def tw8590079324143375227:=0
noncomputable def tw8610629049472983992:=0
noncomputable def tw8616369692647556522:=0
noncomputable def tw8639517014710786299:=0
noncomputable def tw864412924331069914:=0
noncomputable def tw8727357106517101367:=0
noncomputable def tw8914506531390010611:=0
noncomputable def tw8923812073141264611:=0
noncomputable def tw8931302977400575717:=0
noncomputable def tw9035501265421808274:=0
noncomputable def tw9104786288598491325:=0
noncomputable def tw9248161205894245928:=0
noncomputable def tw9293141635412708310:=0
noncomputable def tw9345156127944708740:=0
noncomputable def tw9400038333676566511:=0
noncomputable def tw9482122508660470022:=0
noncomputable def tw9563392841919463761:=0
noncomputable def tw9564324047229039208:=0
noncomputable def tw9676562953489036866:=0
noncomputable def tw9758505593752085222:=0
noncomputable def tw9768325767648388647:=0
noncomputable def tw9818120369499888026:=0
noncomputable def tw9866021448868354988:=0
noncomputable def tw9893080254509298330:=0
noncomputable def tw9949327618098984494:=0
noncomputable def tw9957539234761737613:=0
end PySem.W.Fast
theorem L2.us1{P:List K9->Prop}(h:∀a0,P [a0]):∀us:List K9,us.length=1->P us
 | [a0],_=>h a0
theorem L2.us2{P:List K9->Prop}(h:∀a0 a1,P [a0,a1]):∀us:List K9,us.length=2->P us
 | [a0,a1],_=>h a0 a1
theorem L2.us3{P:List K9->Prop}(h:∀a0 a1 a2,P [a0,a1,a2]):∀us:List K9,us.length=3->P us
 | [a0,a1,a2],_=>h a0 a1 a2
theorem L2.us4{P:List K9->Prop}(h:∀a0 a1 a2 a3,P [a0,a1,a2,a3]):∀us:List K9,us.length=4->P us
 | [a0,a1,a2,a3],_=>h a0 a1 a2 a3
theorem L2.us5{P:List K9->Prop}(h:∀a0 a1 a2 a3 a4,P [a0,a1,a2,a3,a4]):∀us:List K9,us.length=5->P us
 | [a0,a1,a2,a3,a4],_=>h a0 a1 a2 a3 a4
theorem L2.us6{P:List K9->Prop}(h:∀a0 a1 a2 a3 a4 a5,P [a0,a1,a2,a3,a4,a5]):∀us:List K9,us.length=6->P us
 | [a0,a1,a2,a3,a4,a5],_=>h a0 a1 a2 a3 a4 a5
local macro_rules | `(tactic| walk_at"fk")=>`(tactic| ((case a=>k_is);(case l=>k_is);(case c=>k_is);(case k=>k_is)))
local macro_rules | `(tactic| walk_at"f1")=>`(tactic| (refine' L2.fnat_mk (by assumption) (by assumption) ?a ?l ?c ?k (λ_ _ _ _ _ _=>L2.us1 (λ_=>rfl));walk_at"fk"))
local macro_rules | `(tactic| walk_at"f2")=>`(tactic| (refine' L2.fnat_mk (by assumption) (by assumption) ?a ?l ?c ?k (λ_ _ _ _ _ _=>L2.us2 (λ_ _=>rfl));walk_at"fk"))
local macro_rules | `(tactic| walk_at"f3")=>`(tactic| (refine' L2.fnat_mk (by assumption) (by assumption) ?a ?l ?c ?k (λ_ _ _ _ _ _=>L2.us3 (λ_ _ _=>rfl));walk_at"fk"))
local macro_rules | `(tactic| walk_at"f4")=>`(tactic| (refine' L2.fnat_mk (by assumption) (by assumption) ?a ?l ?c ?k (λ_ _ _ _ _ _=>L2.us4 (λ_ _ _ _=>rfl));walk_at"fk"))
local macro_rules | `(tactic| walk_at"f5")=>`(tactic| (refine' L2.fnat_mk (by assumption) (by assumption) ?a ?l ?c ?k (λ_ _ _ _ _ _=>L2.us5 (λ_ _ _ _ _=>rfl));walk_at"fk"))
local macro_rules | `(tactic| walk_at"f6")=>`(tactic| (refine' L2.fnat_mk (by assumption) (by assumption) ?a ?l ?c ?k (λ_ _ _ _ _ _=>L2.us6 (λ_ _ _ _ _ _=>rfl));walk_at"fk"))
open PySem PySem.W PyProof.Rows
set_option maxRecDepth 100000 in
set_option maxHeartbeats 0 in
theorem PySem.Challenge.cw_talkmarks_k53_bells_of_what_is_said_anew_holds : PySem.Challenge.rw_talkmarks_k53_bells_of_what_is_said_anew.Holds := by
 w_on; o_law; k_head; (case hw=>w_witness2)
 k_fill
 refine L2.law_walkL (z:="_law_log") (l:=PySem.Challenge.rw_talkmarks_k53_bells_of_what_is_said_anew) (k:=9) (st:=LW.top 60) (x:="_law_script") rfl rfl rfl ⟨rfl,by decide,by decide⟩ (fun w h Y=>PySem.W.km_in_of Y) (fun _=>by kernel_rfl) rfl (fun _=>rfl) ?F<|fun _ _ _ _ _ _ _=>rfl
 case F =>
  intro w mg h X G;have T:∀ P base,L2.BMain mg base→LW.Tops P w (L2.KOf X) mg base:=by
   intro P base m;dsimp only[L2.KOf];constructor;walk_at"f1";walk_at"f2";walk_at"f2";walk_at"f2";walk_at"f2";walk_at"f1";walk_at"f1";walk_at"f2";walk_at"f2";walk_at"f3";walk_at"f3";walk_at"f2";walk_at"f1";walk_at"f1";walk_at"f3";walk_at"f2";walk_at"f2";walk_at"f3";walk_at"f2";walk_at"f2";walk_at"f2";walk_at"f2";walk_at"f2";walk_at"f2";walk_at"f4";walk_at"f3";walk_at"f2";walk_at"f2";walk_at"f4";walk_at"f4";walk_at"f3";walk_at"f2";walk_at"f1";walk_at"f2";walk_at"f1";walk_at"f2";walk_at"f1";walk_at"f2";walk_at"f3";walk_at"f3";walk_at"f4";walk_at"f5";walk_at"f1";walk_at"f2";walk_at"f3";walk_at"f2";walk_at"f4";walk_at"f6";walk_at"f1"
   ·unfold LW.B_ LW.C_
    iterate 9 (refine' L2.TopB.b ?tq ?_; (case tq=>refine' PySem.W.mg_none_of X G ?tr; (case tr=>k_is)))
    exact .nil
   exact m
  refine ⟨?_,fun base f d m F=>LW.ok_law (T _ base m) F⟩
  try dsimp only[L2.KOf]
  walk_at"f1"
