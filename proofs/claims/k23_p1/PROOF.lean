import PyProof.Rows.All
import Wide.All
import OpenK.AllK
import Wide.FinOn
import Lean
import PyProof.EqAt
import PyProof.EqKinds
import PyProof.TupleCall
import PyProof.CompFree
import PyProof.NeKinds
import KE.KSortTup
import KE.KRevSl
import KE.KDictSum
import KE.KEqDict
import PyProof.Conv_int_bool
import PyProof.AttrMissHeap
import KE.KLam
import KE.KRevIter
import PySem.Challenge.RW_talkmarks_k23_rows_of_a_room
open PySem renaming wpAny_bind->o8,wpAny_pure->p4,Spec->AAC,wpAny_callSpecial?_slot->Ih,wpAny_call_entry->E8,wpAny_newObj_type->F8,wpAny_holding->C9,wpAny_loadPart'->Iu,wpAny_mono->D4,wpAny_setState_of->IS,wpAny_seqItems->Ig,wpAny_forIn_list->IP,mem_of_lookup->JB,codeAny_builtin->IM,wpAny_dictEpoch->IL,wpAny_rule->G7,wpAny_setField->IK,wpAny_fieldsOf->IJ,wpAny_field->HP,wpAny_dictEntries->Jz,wpAny_ite_split->Jk,sizeLine_eq->Ip,eqIsQuiet_byValue->JW,wpAny_attempt->Jc,wpAny_specialOf->Jx,wpAny_Call_Name_kw->Kw,wpAny_isInstance->JT,wpAny_typeNameOfWhole_keyiter->MH,wpAny_typeNameOfWhole_valiter->MG,wpAny_askSetting->Kq,wpAny_setField_rec->K0,plainId_quiet->Jw,wpAny_notOrdered_dict->LC,wpAny_passesOwn->Ko,wpAny_typeNameOf_keyiter->MA,wpAny_typeNameOf_valiter->Mz,wpAny_typeOf->Jt,wpAny_setEntries_of->LA,Value->ACz,wpAny_callSpecialIfBoundUnlessNone?_slot->NE,wpAny_truthy_bool->Lx,wpAny_newList->Kj,wpAny_pyHash_int->Lu,wpAny_pyHash_str->Ls,codeAny_mono->Kg,wpAny_Call_method0_late->Nk,wpAny_Call_method_late->Ng,wpAny_pyIter_slot->Md,isSubtype_stop->Lp,builtinLookup_eq_fast->Nc,wpAny_isOneOf_valiter->Na,wpAny_execs_nil->Mc,evalArgs_none->M8
open PySem.Str renaming ofString->AA1
open PySem.Heap renaming get?_push_of_some->u4,get?_push_size->v8,lt_size->u7,get?_update_self->HY,size_push->HH,get?_update_other->K4,get?_update_ne->Kx,SameBut->IH
open PySem.W renaming Frag->q9,kas_desc->F5,keepIn->JR,fnOf->Ju,kas_rev->HF,kas_place->I9,cellsFrom_some->Ni,kas_asc->Im,findIn->Lr,kas_sort->I0,kas_descPart->KO,codeIn->L5,kitOne->L3,kas_ask->IZ,methodObj->MY
open List renaming length_map->t7,getElem?_eq_getElem->u9,getElem?_eq_some_iff->w9,mem_cons_of_mem->w6,length_append->v4,size_toArray->v6,mem_cons_self->z0,mem_cons->u8,mem_append_right->A8,length_cons->A0,getElem?_append_left->G6,getElem?_map->C2,mem_map->y4,mem_append_left->E3,mem_append->B7,getD_eq_getElem?_getD->HM,length_singleton->F9,map_cons->A5,map_append->C4,all_eq_true->D9,mem_of_getElem?->Hu,prefix_append->G5,getElem?_append_right->IB,mem_map_of_mem->HL,append_assoc->Hs,mem_singleton->HK,lt_irrefl->E7,mem_filter->F7,getElem?_set_self->IA,length_nil->G4,range->A7,length_set->G9,mem_range->G8,length_take->HU,getElem?_set_ne->IT,cons_lt_cons_iff->Je,nodup_cons->HR,map_map->G2,not_mem_nil->Iy,append_nil->Ir,find?_cons->Iq,getElem_mem->IR,getElem?_of_mem->JC,all_cons->Ie,getElem?_take_of_lt->KA,length->Hy,getElem?_eq_none->J0,nil_append->IN,pairwise_map->Jn,pairwise_append->JZ,take_length->Jm,length_drop->Jy,toArray->Ix,nodup_iff_pairwise_ne->LG,filterMap_cons->Ky,take_add_one->JV,zip_cons_cons->Kv,lookup_cons->JU,filter_cons->JS,pairwise_singleton->LF,getElem?_cons_succ->LD,nodup_append->Kt,length_reverse->ACR,map_congr_left->K2,getElem_map->Ks,cons_append->Kr,mem_reverse->Kp,length_filter_le->LB,drop_eq_getElem_cons->MC,prefix_rfl->Kn,getElem?_replicate->My,any_eq_true->KW,take_of_length_le->Mw,length_replicate->Mu,lt_trans->Kk,length_range->Lv,pairwise_iff_getElem->Nq,nodup_nil->KQ,map_id->JN,mem_filterMap->Mp,getElem?_drop->Ml,getElem?_cons_zero->Nj,pairwise_cons->Mi,reverse_cons->Mg,ext_getElem?->Mf,range'->Ke,replicate->Lq,set_append_right->Nd,take_append_drop->Nb,of_mem_zip->Mb,forIn_cons->L9,find?_some->L6,map_nil->Lm,getD->Kd
open Nat renaming le_refl->t6,ne_of_lt->v7,zero_le->v9,lt_of_lt_of_le->D6,lt_irrefl->D5,lt_succ_self->HJ,le_trans->F6,lt_or_ge->Ic,not_lt_zero->Jl,lt_succ_of_lt->JX,le_of_lt->Jj,le_add_right->KY,not_lt->Ji,lt_trichotomy->Lw,sub_self->Kf,add_sub_cancel->Mj,le_succ->KM,ne_of_gt->Ln
open Bool renaming false_eq_true->z6,and_eq_true->C5,false_ne_true->Iz,eq_false_iff->JA,not_true->II,or_eq_true->L8,and_false->L4
open Array renaming getElem?_eq_getElem->E5,length_toList->C3,getElem?_toList->E4,getElem?_eq_some_iff->Jf,getD_eq_getD_getElem?->J3,getElem?_eq_none->Kz,forIn_toList->JY,getD->Iw
open Option.some renaming inj->A1
open Classical renaming propDecidable->E9,byContradiction->JE
open PySem.SetTable renaming below->C7,runEnd->G3,bits->Jb,leap->Jv,Probe->JP,grown->Kl,turns->KR,fits->KP,insertAt->Me,sizeAbove->MZ,fill->LZ
open PySem.Heap.SameBut renaming update->HV
open Ne renaming symm->v5
open PySem.Builtin.SmallTypes renaming nextOf->J2,ownedTupleIsFree->MJ,ownedTupleHandOut->ND
open PySem.Obj renaming mapSeq->D8,data_mapFields->K1,mapFields->Kh,data_mapDictKeys->Mq,isFreed_of_fields->Nf,isFreed_of_dict->M7,putSet->KL
open PySem.Value renaming ref->ABG,none->ABJ,type->Js
open List.Pairwise renaming filter->Jo,nil->KZ,and_mem->Mr
open PyProof.Rows renaming slot_tuple_getitem->K5,callWith_type1->LH,get?_update_seq->Km,listUpdate_at->Ki,listItems_at->KN
open PySem.NameKind renaming free->HQ,cell->JO
open PySem.Builtin.Tuple renaming tupleHashOf->KB,tupleItemsOf->ME,tupleExact->MB
open Int renaming toNat_natCast->Jd
open PySem.Around renaming under_plainId->JD
open Option renaming map_eq_some_iff->J1,isSome_iff_exists->Np
open PySem.Builtin.Dict_items renaming ownsTuple->LI
open PySem.Calls renaming callWith_builtin->K3,spliced_cons->Mo,spliced_nil->Mh,evalArgs_plain->M9
open PySem.F renaming slot_tuple_getattribute->MI,plainAttrs_dict->Mx,slot_dict_get->Mt,args_tuple_add_2->No,slot_dict_values->Nm,entry_tuple_add->Nl,slot_tuple_add->Nh
open PySem.SeqAt renaming EqAt->Io
open PySem.SetTable.below renaming go->Ku
open Sum renaming inr->ACQ
open PySem.Builtin.List renaming listExtendWith->MF,listTooLong->Nn,listLengthHint->NC
open PySem.Builtin.Slice renaming slicePlaces->MD,sliceAdjust->Nr,sliceApplied->NB
open List.Perm renaming refl->JQ,cons->L1
open False renaming elim->Ja
open PySem.SetTable.layClean renaming free->Mv
open PySem.SeqAt.EqAt renaming int_str->Lz,str_int->Ly,int_int->Mn,str_str->Mm,same->L7
open List.cons renaming injEq->KU,inj->L0
open PySem.Builtin.Dict renaming showsAll->Ms
open PySem.Builtin.Str renaming strSliceIndices->Nt
open True renaming intro->JM
open PySem.Shared renaming TypeIs->Lo
open ForInStep renaming yield->Ma
open PySem.Txt renaming slice->JL
open PySem.Expr renaming Call->JK
open PySem.SetTable.probe renaming go->MX
open Option renaming some->a7,none->a8
open Bool renaming true->a9,false->c5
open PySem renaming Value->c6,Str->c7,World->c8,Program->c9,Addr->d5,Obj->d6,Heap->d7,sysModules->d8,mainGlobals->d9,bootBuiltins->e8,Around->e9,Shared->f6,Scope->f7,wpAny->f9,Expr->ge,model->g7,backTo->g8,starEach->g9,Stmt->h8,holding->i3,swapsWith->i4,assign->i5,assignEach->i6,pyNext->i7,letOwnedTupleGo->i8,pyIter->i9,rawInt->j0,foldedSetIterable->j1,binaryOp->j2,compareOp->j3,behindInMarks->j4,cLine->j5,FuncData->j6,codeAny->j7,NameKind->j8,IsPart->k4,getItem->k5,sliceBounds->k6,typeOf->k7,attributeBase->k8,backToKw->k9,keywordEach->l3,Keyword->l4,atKey->l5,reduceHash->l6,DictEntry->l7,firstArgMember->l9,IsPair->m3,pickOrder->m5,SetTable->m6,eqIsQuiet->m7,placesWithHash->m8
open PyProof.Rows renaming AllBare->f8,envOfC->j9,seqObj->l8
set_option autoImplicit true
set_option relaxedAutoImplicit true
set_option compiler.extract_closed false
set_option Elab.async false
set_option linter.all false
set_option maxRecDepth 100000
def m9:=@if_pos
def n5:=@if_neg
def n6:=@absurd
def n9:=@decide_eq_true_eq
def o0:=@beq_iff_eq
def o4:=@if_false
def o5:=@if_true
def o6:=@congrArg
def o7:=@beq_self_eq_true
-- CHANGE: your row's module here,as the last of these rows
theorem dF_{p:Prop}[Decidable p](h:¬p):decide p=c5:=decide_eq_false h
theorem dT_{p:Prop}[Decidable p](h:p):decide p=a9:=decide_eq_true h
theorem oT_{p:Prop}[Decidable p](h:decide p=a9):p:=of_decide_eq_true h
namespace L2
open PySem PySem.Spec PyProof.Rows
noncomputable abbrev B8:=Sum Int c7
noncomputable def tU:B8->c6->Bool
 |.inl k,v=>Value.isInt k v
 |.inr x,v=>Value.isStrOf x v
noncomputable def keyH(w:c8):B8->Int
 |.inl k=>hashInt k
 |.inr x=>hashStr w x
theorem aQ:∀{k:B8}{v:c6},tU k v=a9->(∃i t,k=Sum.inl i/\v=Value.int i t)\/(∃x t,k=ACQ x/\v=Value.str x t)
 |.inl i,v,h=>by obtain⟨t,e⟩:=Value.isInt_shape (k:=i) (v:=v) h;exact .inl ⟨i,t,rfl,e⟩
 |.inr x,v,h=>by obtain⟨t,e⟩:=Value.isStrOf_shape (x:=x) (v:=v) h;exact .inr ⟨x,t,rfl,e⟩
theorem xf(i:Int)(t:Tok):tU (.inl i) (.int i t)=a9:=by simp[tU,Value.isInt]
theorem xc(x:c7)(t:Tok):tU (.inr x) (.str x t)=a9:=by simp[tU,Value.isStrOf]
theorem FW(a b:Int):decide ((Sum.inl a:B8)=Sum.inl b)=(a==b):=by by_cases e:a=b;subst e;simp;have h:¬(Sum.inl a:B8)=Sum.inl b:=λq=>e<|Sum.inl.inj q;rw[dF_ h];exact(beq_eq_false_iff_ne.mpr e).symm
theorem AV(a b:c7):decide ((ACQ a:B8)=ACQ b)=decide (a=b):=by by_cases e:a=b;subst e;simp;have h:¬(ACQ a:B8)=ACQ b:=λq=>e<|Sum.inr.inj q;rw[dF_ h,dF_ e]
theorem FV(a:Int)(b:c7):decide ((Sum.inl a:B8)=ACQ b)=c5:=dF_<|λq=>nomatch q
theorem FU(a:c7)(b:Int):decide ((ACQ a:B8)=Sum.inl b)=c5:=dF_<|λq=>nomatch q
noncomputable def bM(prog:c9)(w:c8):PySem.KeyKind prog w B8 where
 is:=tU
 hash:=keyH w
 inj:=λv a b f d=>by
  rcases aQ f with⟨i,t,rfl,rfl⟩|⟨x,t,rfl,rfl⟩
  rcases aQ d with⟨j,u,rfl,e⟩|⟨y,u,rfl,e⟩
  injection e with e1 _;rw[e1];exact nomatch e
  rcases aQ d with⟨j,u,rfl,e⟩|⟨y,u,rfl,e⟩
  exact nomatch e
  injection e with e1 _;rw[e1]
 byValue:=λk v h=>by rcases aQ h with⟨i,t,rfl,rfl⟩|⟨x,t,rfl,rfl⟩<;>rfl
 pyHash:=λc h=>by
  rcases aQ c with⟨i,t,rfl,rfl⟩|⟨x,t,rfl,rfl⟩
  exact Lu h;exact Ls h
 eqBool:=λg c h=>by
  rcases aQ g with⟨i,t,rfl,rfl⟩|⟨x,t,rfl,rfl⟩
  rcases aQ c with⟨j,u,rfl,rfl⟩|⟨y,u,rfl,rfl⟩
  rw[FW]at h;exact wpAny_eqBool_int h;rw[FV]at h;exact Lz i t y u _ _ _ _ h;rcases aQ c with⟨j,u,rfl,rfl⟩|⟨y,u,rfl,rfl⟩
  rw[FU]at h;exact Ly x t j u _ _ _ _ h;rw[AV]at h;exact wpAny_eqBool_str h
 «strs»:=λk x t v h=>by
  rcases aQ h with⟨i,u,rfl,e⟩|⟨y,u,rfl,e⟩
  exact nomatch e
  injection e with e1 _;subst e1;cases v<;>rfl
theorem pU(prog:c9)(w:c8)(i:Int)(t:Tok):(bM prog w).is (.inl i) (.int i t)=a9:=xf i t
theorem pT(prog:c9)(w:c8)(x:c7)(t:Tok):(bM prog w).is (.inr x) (.str x t)=a9:=xc x t
inductive V where
 |non|bl (b:Bool)|int (i:Int)|str (x:c7)|byt (b:Array UInt8)|flt (b:UInt64)|ref (a:d5)|ty (n:String)
 deriving DecidableEq
def aG:V->c6->Prop
 |.non,u=>u=ABJ
 |.bl b,u=>u=Value.bool b
 |.int i,u=>∃t,u=Value.int i t
 |.str x,u=>∃t,u=Value.str x t
 |.byt b,u=>∃t,u=Value.bytes b t
 |.flt b,u=>∃t,u=Value.float b t
 |.ref a,u=>u=ABG a
 |.ty n,u=>u=Js n
abbrev ao:List V->List c6->Prop:=Paired aG
theorem ao.length(r:ao xs us):xs.length=us.length:=Paired.length r
theorem ao.get:∀{xs:List V}{us:List c6}{i:Nat}{x:V},ao xs us->xs[i]?=a7 x->∃u,us[i]?=a7 u/\aG x u
 |_,_,_,_,.nil,e=>by simp at e
 |_,_,0,_,.cons r _,e=>by simp at e;subst e;exact⟨_,rfl,r⟩
 |_,_,i+1,x,.cons _ t,e=>by obtain⟨u,h1,h2⟩:=ao.get (i:=i) (x:=x) t (by simpa using e);exact⟨u,by simpa using h1,h2⟩
theorem ao.set(r:aG x u):∀{xs:List V}{us:List c6} (i:Nat),ao xs us->ao (xs.set i x) (us.set i u)
 |_,_,_,.nil=>.nil
 |_,_,0,.cons _ t=>.cons r t
 |_,_,i+1,.cons q t=>.cons q<|ao.set r i t
theorem ao.append(h:ao xs us)(s:ao ys ws):ao (xs++ys) (us++ws):=by
 induction h with
 |nil=>exact s
 |cons r t i=>exact .cons r i
theorem ao.take:∀{xs:List V}{us:List c6} (n:Nat),ao xs us->ao (xs.take n) (us.take n)
 |_,_,0,_=>.nil
 |_,_,_+1,.nil=>.nil
 |_,_,n+1,.cons r t=>.cons r<|ao.take n t
theorem ao.drop:∀{xs:List V}{us:List c6} (n:Nat),ao xs us->ao (xs.drop n) (us.drop n)
 |_,_,0,r=>r
 |_,_,_+1,.nil=>.nil
 |_,_,n+1,.cons _ t=>ao.drop n t
def Bc:Option V->Option c6->Prop
 |some v,a7 u=>aG v u
 |none,a8=>True
 |_,_=>False
def KV{κ:Type}:List (κ×V)->List (κ×c6)->Prop:=Paired λ(p:κ×V) (q:κ×c6)=>p.1=q.1/\aG p.2 q.2
noncomputable def kV:B8->V
 |.inl i=>.int i
 |.inr x=>.str x
inductive HO where
 |lst (xs:List V)
 |tup (xs:List V)
 |dK (kvs:List (B8×V))|dT (kvs:List (List B8×V))
 |set (S:Int->Bool) (n:Nat)
 |ins (C dx:d5) (fs:List (c7×V))
 |own (x:d5)
 |xd (fs:List (c7×V))
 |met (f x:d5)
 |rng (lo hi:Int)
 |frz (o:d6) (u:HO)
 |tbl (ps:Array c6)
 |ext (φ:c9->c8->d7->Prop)
abbrev Hp:=d5->Option HO
noncomputable def t8(H:Hp)(a:d5)(o:HO):Hp:=λb=>if b=a then a7 o else H b
theorem aB:t8 H a o a=a7 o:=by unfold t8;rw[m9 rfl]
theorem af(h:b≠a):t8 H a o b=H b:=by unfold t8;rw[n5 h]
theorem zg{H:Hp}{a b:d5}{o u:HO}(h:H a=a7 o)(h':H b=a7 u)(d:o≠u):a≠b:=by intro e;subst e;rw[h]at h';exact d<|A1 h'
theorem ac{H:Hp}{a b:d5}{o:HO}(h:H a=a7 o)(h':H b=a8):a≠b:=by intro e;subst e;rw[h]at h';cases h'
section
variable(P:c9)(w:c8)
def Av(h:d7)(a:d5)(s:Array c6):Prop:=∃o,h.get? a=a7 o/\o.cls=.type "tuple"/\(∃n,o.data=.seq s n)/\o.dict=a8
theorem Av.tup:Av h a items->IsTup h a items:=λ⟨o,e,c,⟨n,d⟩,_⟩=>⟨o,e,c,n,d⟩
theorem Av.new(h:d7)(s:Array c6):Av (h.push { cls:=.type "tuple",data:=.seq s }) h.objs.size s:=⟨_,v8 _ rfl,rfl,⟨_,rfl⟩,rfl⟩
def bD(H:Hp)(h:d7)(a:d5):HO->Prop
 |.lst xs=>xs.length<=sizeLine/\∃(its:List c6) (n:Nat),ao xs its/\h.get? a=a7 { cls:=.type "list",data:=.seq its.toArray n }
 |.tup xs=>xs.length<=sizeLine/\∃its:List c6,ao xs its/\Av h a its.toArray
 |.dK kvs=>kvs.length<=sizeLine/\(a==d8)=c5/\∃vs,KV kvs vs/\h.DictOf (bM P w) a vs
 |.dT kvs=>kvs.length<=sizeLine/\(a==d8)=c5/\∃xs:List (List B8×d5×c6),Paired (λ(p:List B8×V) (q:List B8×d5×c6)=>p.1=q.1/\H q.2.1=a7 (.tup<|p.1.map kV)/\aG p.2 q.2.2) kvs xs /\∃o es ep,h.get? a=a7 o/\o.ExactDict/\o.data=.dict es ep/\es.toList=xs.map (entryOfKey<|tupleKind<|bM P w)/\(xs.map (·.1)).Nodup
 |.set S n=>h.SetOf (intKind P w) a S n
 |.ins C dx fs=>H dx=a7 (.own a)/\fs.length<=1000/\dx≠a/\h.get? a=a7 (PySem.W.instObj C dx) /\∃mA,h.Ns1 dx mA/\(∀f,Bc (fs.lookup f)<|mA f)/\PySem.Within mA (fs.map (·.1))
 |.own _=>∃o,h.get? a=a7 o
 |.xd fs=>∃mA,h.Ns1 a mA/\∀f,Bc (fs.lookup f)<|mA f
 |.rng lo hi=>∃t u v,h.get? a=a7 { cls:=.type "range",data:=.fields #[.int lo t,.int hi u,.int 1 v] }
 |.frz o u=>h.get? a=a7 o/\bD H h a u
 |.tbl ps=>h.get? a=a7 { cls:=.none,data:=.fields ps }
 |.met f x=>h.get? a=a7 (MY (.ref f)<|.ref x)
 |.ext φ=>φ P w h/\(∃o,h.get? a=a7 o)/\∀h1 h2:d7,φ P w h1->(∀o,h1.get? a=a7 o->h2.get? a=a7 o)->φ P w h2
def B9(H:Hp)(h:d7):Prop:=∀a o,H a=a7 o->bD P w H h a o
end
theorem bD.lt(x:bD P w H h a o):a<h.objs.size:=by
 cases o with
 |lst xs=>obtain⟨_,_,_,_,e⟩:=x;exact u7 e
 |tup xs=>obtain⟨_,_,_,p⟩:=x;exact p.tup.lt
 |dK s=>obtain⟨_,_,_,_,o,_,_,e,_⟩:=x;exact u7 e
 |dT s=>obtain⟨_,_,_,_,o,_,_,e,_⟩:=x;exact u7 e
 |set S n=>obtain⟨o,_,_,_,e,_⟩:=x;exact u7 e
 |ins C d b=>obtain⟨_,_,_,e,_⟩:=x;exact u7 e
 |own y=>obtain⟨_,e⟩:=x;exact u7 e
 |xd b=>obtain⟨_,⟨_,_,_,e,_⟩,_⟩:=x;exact u7 e
 |rng l hi=>obtain⟨_,_,_,e⟩:=x;exact u7 e
 |frz c u=>obtain⟨e,_⟩:=x;exact u7 e
 |tbl ps=>exact u7<|show h.get? a=a7 _ from x
 |met f y=>exact u7<|show h.get? a=a7 _ from x
 |ext φ=>obtain⟨_,⟨_,e⟩,_⟩:=x;exact u7 e
theorem Paired.mapP{α β:Type}{F G:α->β->Prop}:∀{l₁:List α}{l₂:List β},Paired F l₁ l₂->(∀a b,F a b->G a b)->Paired G l₁ l₂
 |_,_,.nil,_=>.nil
 |_,_,.cons r t,f=>.cons (f _ _ r)<|Paired.mapP t f
theorem bD.stay(x:bD P w H h a o)(k:∀b u,(b=a\/H b=a7 (.own a))->h.get? b=a7 u->h'.get? b=a7 u)(D:∀b,H b=a7 (.own a)->H' b=a7 (.own a)) (E:∀b xs,H b=a7 (.tup xs)->H' b=a7 (.tup xs)):bD P w H' h' a o:=by
 induction o with
 |lst xs=>obtain⟨z,its,n,r,e⟩:=x;exact⟨z,its,n,r,k _ _ (.inl rfl) e⟩
 |tup xs=>obtain⟨z,its,r,g,e,c⟩:=x;exact⟨z,its,r,g,k _ _ (.inl rfl) e,c⟩
 |dK s=>obtain⟨z,y,vs,r,g,es,i,e,c⟩:=x;exact⟨z,y,vs,r,g,es,i,k _ _ (.inl rfl) e,c⟩
 |dT s=>obtain⟨z,y,xs,r,g,es,i,e,c⟩:=x;exact⟨z,y,xs,Paired.mapP r λp q z=>⟨z.1,E _ _ z.2.1,z.2.2⟩,g,es,i,k _ _ (.inl rfl) e,c⟩
 |set S n=>obtain⟨g,es,i,t,e,c⟩:=x;exact⟨g,es,i,t,k _ _ (.inl rfl) e,c⟩
 |ins C I B=>obtain⟨d,z,G,e,A,⟨j,es,i,m,c⟩,r⟩:=x;exact⟨D _ d,z,G,k _ _ (.inl rfl) e,A,⟨j,es,i,k _ _ (.inr d) m,c⟩,r⟩
 |own y=>obtain⟨g,e⟩:=x;exact⟨g,k _ _ (.inl rfl) e⟩
 |xd B=>obtain⟨A,⟨j,es,i,e,c⟩,r⟩:=x;exact⟨A,⟨j,es,i,k _ _ (.inl rfl) e,c⟩,r⟩
 |rng J hi=>obtain⟨t,u,v,e⟩:=x;exact⟨t,u,v,k _ _ (.inl rfl) e⟩
 |frz g u F=>obtain⟨e,q⟩:=x;exact⟨k _ _ (.inl rfl) e,F q⟩
 |tbl ps=>have e:h.get? a=a7 { cls:=.none,data:=.fields ps }:=x;show h'.get? a=a7 { cls:=.none,data:=.fields ps };exact k a _ (.inl rfl) e
 |met f y=>have e:h.get? a=a7 (MY (.ref f)<|.ref y):=x;show h'.get? a=a7 (MY (.ref f)<|.ref y);exact k a _ (.inl rfl) e
 |ext φ=>obtain⟨p,⟨o,e⟩,l⟩:=x;exact⟨l _ _ p λo q=>k _ _ (.inl rfl) q,⟨o,k _ _ (.inl rfl) e⟩,l⟩
theorem B9.lt(x:B9 P w H h)(e:H a=a7 o):a<h.objs.size:=(x a o e).lt
theorem B9.fresh(x:B9 P w H h)(e:h.objs.size<=a):H a=a8:=by
 cases q:H a with
 |none=>rfl
 |some u=>exact n6 (D6 (x.lt q) e)<|D5 _
theorem B9.kept(x:B9 P w H h)(k:∀b u,h.get? b=a7 u->h'.get? b=a7 u):B9 P w H h':=λa o e =>
 (x a o e).stay (λb u _ q=>k b u q) (λ_ q=>q) λ_ _ q=>q
theorem B9.laid(x:B9 P w H h)(k:∀b u,h.get? b=a7 u->h'.get? b=a7 u)(p:h.objs.size<=a)(n:bD P w (t8 H a o) h' a o):B9 P w (t8 H a o) h':=λb u e=>by have f:=x.fresh p;by_cases d:b=a;subst d;rw[aB]at e;cases e;exact n;rw[af d]at e;exact(x b u e).stay (λc v _ q=>k c v q) (λc q=>by rw[af<|ac q f];exact q) λc xs q=>by rw[af<|ac q f];exact q
def Rd(H:Hp)(a:d5)(u:HO):Prop:=H a=a7 u\/∃o,H a=a7 (.frz o u)
theorem Rd.ok(r:Rd H a u)(x:B9 P w H h):bD P w H h a u:=by
 rcases r with r|⟨o,r⟩
 exact x a u r;obtain⟨_,q⟩:=x a _ r;exact q
def Li:Option HO->Prop
 |some (.lst _)=>True
 |some (.dK _)=>True
 |some (.dT _)=>True
 |some (.set _ _)=>True
 |some (.ins _ _ _)=>True
 |some (.ext _)=>True
 |_=>False
theorem B9.write(ok:B9 P w H h)(m:Li (H x))(i:e=x\/H e=a7 (.own x))(k:∀b u,b≠e->h.get? b=a7 u->h'.get? b=a7 u)(o:∃u,h'.get? e=a7 u)(g:bD P w (t8 H x o') h' x o'):B9 P w (t8 H x o') h':=λb u q=>by
 have n:∀c y,H c=a7 (.own y)->c≠x:=λc y r z=>by subst z;rw[r]at m;exact m
 have p:∀c xs,H c=a7 (.tup xs)->c≠x:=λc xs r z=>by subst z;rw[r]at m;exact m
 by_cases d:b=x;subst d;rw[aB]at q;cases q;exact g;rw[af d]at q;by_cases a:b=e;have j:H b=a7 (.own x):=by rcases i with z|z;exact n6 (a.trans z) d;rw[a];exact z
 rw[q]at j;cases j;obtain⟨v,l⟩:=o;exact⟨v,by rw[a];exact l⟩;refine(ok b u q).stay (λc v f r=>k c v ?_ r) (λc r=>by rw[af<|n c b r];exact r) λc xs r=>by rw[af<|p c xs r];exact r
 rcases f with rfl|f;exact a;rintro rfl;rcases i with z|z;exact n c b f z;rw[f]at z;cases z;exact d rfl
structure Un(fs ex:List d5)(H H':Hp)(h h':d7):Prop where
 keep:∀b o,h.get? b=a7 o->H b=a8->b∉fs->b∉ex->h'.get? b=a7 o
 slot:∀b o,h.get? b=a7 o->H b=a8->b∈fs->b∉ex->∃sl,h'.get? b=a7 { o with slots:=sl }
 free:∀b o,h.get? b=a7 o->H b=a8->b∉ex->H' b=a8
 there:∀b o,h.get? b=a7 o->b∉ex->∃o',h'.get? b=a7 o'
 tups:∀b xs,H b=a7 (.tup xs)->H' b=a7 (.tup xs)
 frzs:∀b o u,H b=a7 (.frz o u)->H' b=a7 (.frz o u)
 tbls:∀b ps,H b=a7 (.tbl ps)->∃more,H' b=a7 (.tbl<|ps++more)
theorem Un.any(u:Un fs ex H H1 h h1)(q:h.get? b=a7 ob)(n:H b=a8)(x:b∉ex):∃sl,h1.get? b=a7 { ob with slots:=sl }:=by by_cases d:b∈fs;exact u.slot b ob q n d x;exact⟨ob.slots,u.keep b ob q n d x⟩
theorem Un.kept(k:∀b u,h.get? b=a7 u->h'.get? b=a7 u):Un fs ex H H h h':=⟨λb c q _ _ _=>k b c q,λb c q _ _ _=>⟨c.slots,k b c q⟩,λ_ _ _ n _=>n,λb c q _=>⟨c,k b c q⟩,λ_ _ q=>q,λ_ _ _ q=>q,λ_ ps q=>⟨#[],by rw[q];simp⟩⟩
theorem Un.refl:Un fs ex H H h h:=Un.kept λ_ _ q=>q
theorem Un.laid(k:∀b u,h.get? b=a7 u->h'.get? b=a7 u)(p:h.objs.size<=a)(f:H a=a8):Un fs ex H (t8 H a o) h h' where
 keep:=λb u q _ _ _=>k b u q
 slot:=λb u q _ _ _=>⟨u.slots,k b u q⟩
 free:=λb u q n _=>by rw[af<|v7<|D6 (u7 q) p];exact n
 there:=λb u q _=>⟨u,k b u q⟩
 tups:=λb xs q=>by rw[af<|ac q f];exact q
 frzs:=λb u xs q=>by rw[af<|ac q f];exact q
 tbls:=λb ps q=>⟨#[],by rw[af<|ac q f,q];simp⟩
theorem Un.write(m:Li (H x))(i:e=x\/H e=a7 (.own x))(k:∀b u,b≠e->h.get? b=a7 u->h'.get? b=a7 u)(c:∃u,h'.get? e=a7 u):Un fs ex H (t8 H x o) h h':=by
 have g:∀b,H b=a8->b≠x:=λb n z=>by subst z;rw[n]at m;exact m
 have f:∀b,H b=a8->b≠e:=λb n z=>by subst z;rcases i with r|r;exact g b n r;rw[n]at r;cases r
 have d:∀b u,H b=a7 u->¬Li (a7 u)->b≠x:=λb u q j z=>by subst z;rw[q]at m;exact j m
 refine⟨λb u q n _ _=>k b u (f b n) q,λb u q n _ _=>⟨u.slots,k b u (f b n) q⟩,λb u q n _=>by rw[af<|g b n];exact n,λb u q _=>?_,λb xs q=>by rw[af<|d b _ q λz=>z];exact q,λb u xs q=>by rw[af<|d b _ q λz=>z];exact q,λb ps q=>⟨#[],by rw[af<|d b _ q λz=>z,q];simp⟩⟩;by_cases a:b=e;subst a;exact c;exact⟨u,k b u a q⟩
noncomputable def trk(h:d7)(H:Hp):List d5:=(A7 h.objs.size).filter λa=>(H a).isSome
noncomputable def yd(h:d7)(H:Hp):d7:=PySem.W.hideAll h<|trk h H
theorem xq(h:d7)(H:Hp):(yd h H).objs.size=h.objs.size:=PySem.W.hideAll_size _ _
theorem zS(e:h.get? b=a7 o)(n:H b=a8):(yd h H).get? b=a7 o:=PySem.W.hideAll_get _ e λd=>by have q:(H b).isSome=a9:=(F7.mp d).2;rw[n]at q;simp at q
theorem Cj(e:(yd h H).get? b=a7 o):h.get? b=a7 o/\H b=a8:=by
 have a:h.get? b=a7 o:=PySem.W.of_hideAll (trk h H) e;refine⟨a,?_⟩;cases q:H b with
 |none=>rfl
 |some x=>have d:b∈trk h H:=F7.mpr ⟨G8.mpr<|u7 a,by simp[q]⟩;have z:(yd h H).get? b=a8:=PySem.W.hideAll_none (trk h H) d;rw[z]at e;cases e
noncomputable def DQ(g h:d7)(L:d5):List (d5×d6):=(A7 h.objs.size).filterMap λa=>if a=L\/(g.get? a).isSome=a9 then a8 else(h.get? a).map λo=>(a,o)
noncomputable def aE(g h:d7)(L d:d5):List (d5×d6):=(DQ g h L).filter λp=>decide<|p.1≠d
structure Mod(K:q9)(mg:c7->Option c6)(base:d7):Prop where
 kin:K.In base
 glob:base.Ns d9 mg
 blt:∃mb,base.Ns builtinsNs mb/\∀x:c7,x≠"__name__"->mb x=e8 x
 nolimit:base.NoLimit
/-- the context: a def's body (or a comprehension's block) running. base: fixed through the whole law;s₀,H₀: the entry;outer: the frames whose slots others may change (a def's callers);stack: all frames that run;
  ex: iterators that were made cZ of the entry and are walked here (a comprehension's);fn: the names whose cells were made at the entry (a def: all;a comprehension's block: its own);calm: not Eh an except suite;pn: pins that every state bears;xe: what is wanted of an exception that leaves the code -/
structure Cx where
 prog:c9
 w:c8
 K:q9
 mg:c7->Option c6
 base:d7
 A:e9
 N:List c7
 s₀:f6
 H₀:Hp
 env:Env
 outer:List Env
 stack:List Env
 ex:List d5
 fn:c7->Bool
 calm:Bool
 pn:List (d5×d6)
 xe:c6->f6->Prop
noncomputable def G0(l:List Env):List d5:=l.filterMap (·.frame)
noncomputable abbrev Cx.fs(X:Cx):List d5:=G0 X.outer
def J7(c:f7)(x:c7):Prop:=c.names.lookup x=a7 .local\/c.names.lookup x=a7 .cell\/c.names.lookup x=a7 .free
def JI(c:f7)(x:c7):Prop:=c.names.lookup x=a7 .local\/c.names.lookup x=a7 .cell
def Look(env:Env)(h:d7)(m:c7->Option c6)(x:c7)(u:c6):Prop:=(env.kindOf x=a7 .local/\m x=a7 u)\/((env.kindOf x=a7 .cell\/env.kindOf x=a7 .free)/\∃c,env.cells.lookup x=a7 c/\h.IsCell c (a7 u))
structure Cx.Ok(X:Cx):Prop where
 mod:Mod X.K X.mg X.base
 kind:X.env.scope.kind=.function
 glob:X.env.globals=d9
 blt:X.env.builtins=builtinsNs
 above:X.s₀.heap.objs.size<=X.env.locals
 inj:∀x y c,X.env.cells.lookup x=a7 c->X.env.cells.lookup y=a7 c->x=y
 has:∀x,(X.env.kindOf x=a7 .cell\/X.env.kindOf x=a7 .free)->∃c,X.env.cells.lookup x=a7 c
 cab:∀x c,X.fn x=a9->X.env.cells.lookup x=a7 c->X.s₀.heap.objs.size<=c
 hd:X.calm=a9->X.A.handled=a8
 frames:X.A.frames=a7 X.stack
 stk:X.stack=X.outer\/(X.stack=X.env::X.outer/\X.env.frame=a7 X.env.locals)
 exf:∀b∈X.ex,b≠X.env.locals/\∀x c,X.env.cells.lookup x=a7 c->c≠b
 bs:∀b o,X.base.get? b=a7 o->X.s₀.heap.get? b=a7 o/\X.H₀ b=a8
 bsz:X.base.objs.size<=X.s₀.heap.objs.size
 noex:∀b o,X.base.get? b=a7 o->b∉X.ex
 exfs:∀b∈X.ex,b∉X.fs
 funs:X.s₀.heap.FunFrames X.base X.outer
 frf:∀b∈X.fs,X.H₀ b=a8
structure p0(X:Cx)(pins:List (d5×d6))(σ:List (Option V))(H:Hp)(s:f6):Prop where
 ok:X.Ok
 os:s.os=X.s₀.os
 bare:f8 s.gens
 base:Un X.fs X.ex X.H₀ H X.s₀.heap s.heap
 loc:∃m,s.heap.Ns X.env.locals m/\∀(i:Nat) (x:c7) (v:V),X.N[i]?=a7 x->σ[i]?=a7 (a7 v)->J7 X.env.scope x->∃u,aG v u/\Look X.env s.heap m x u
 cell:∀x c,X.env.cells.lookup x=a7 c->∃v,s.heap.IsCell c v
 free:H X.env.locals=a8
 freeC:∀x c,X.env.cells.lookup x=a7 c->H c=a8
 pin:∀p∈X.pn++pins,s.heap.get? p.1=a7 p.2/\H p.1=a8/\p.1≠X.env.locals/\p.1∉X.fs/\∀v,p.2.data≠.cell v
 hok:B9 X.prog X.w H s.heap
 len:σ.length=X.N.length
theorem Cx.Ok.nofr{X:Cx}(ok:X.Ok)(e:X.base.get? b=a7 o):b∉X.fs:=λd=>by have:=(ok.funs.mem d).1;rw[e]at this;cases this
theorem p0.bs{X:Cx}{pins:List (d5×d6)}{σ:List (Option V)}{H:Hp}{s:f6}(I:p0 X pins σ H s):∀b o,X.base.get? b=a7 o->s.heap.get? b=a7 o/\H b=a8:=λb o e =>
 ⟨I.base.keep b o (I.ok.bs b o e).1 (I.ok.bs b o e).2 (I.ok.nofr e)<|I.ok.noex b o e,I.base.free b o (I.ok.bs b o e).1 (I.ok.bs b o e).2<|I.ok.noex b o e⟩
theorem p0.bk(I:p0 X pins σ H s):∀b o,X.base.get? b=a7 o->s.heap.get? b=a7 o:=λb o e=>(I.bs b o e).1
theorem p0.mod(I:p0 X pins σ H s):Mod X.K X.mg X.base:=I.ok.mod
theorem p0.kIn(I:p0 X pins σ H s):X.K.In s.heap:=I.ok.mod.kin.keeps I.bk
theorem p0.lt(I:p0 X pins σ H s):X.env.locals<s.heap.objs.size:=let ⟨_,hn,_⟩:=I.loc;hn.lt
theorem p0.sz(I:p0 X pins σ H s):X.s₀.heap.objs.size<=s.heap.objs.size:=F6 I.ok.above<|Jj I.lt
theorem p0.nofs(I:p0 X pins σ H s)(h:s.heap.objs.size<=a):a∉X.fs:=λd=>by obtain⟨_,o,D,_⟩:=I.ok.funs.mem d;exact n6 (D6 (u7 D)<|F6 I.sz h)<|D5 _
theorem p0.cne(I:p0 X pins σ H s):∀x c,X.env.cells.lookup x=a7 c->c≠X.env.locals:=λx c e z=>by obtain⟨v,o,D,d⟩:=I.cell x c e;obtain⟨m,⟨o',es,i,a,h,_⟩,_⟩:=I.loc;rw[z,a]at D;cases D;rw[h]at d;cases d
theorem p0.funs(I:p0 X pins σ H s):s.heap.FunFrames X.base X.outer:=by
 have a:∀(l:List Env),(∀b∈G0 l,b∈X.fs)->X.s₀.heap.FunFrames X.base l->s.heap.FunFrames X.base l:=by
  intro l;induction l with
  |nil=>intro _ _;trivial
  |cons env r j=>intro hs g;obtain⟨k,⟨L,o,f,n,D,c⟩,i⟩:=g;have h:L∈X.fs:=hs L (by unfold G0;rw[Ky,f];exact z0);obtain⟨m,e⟩:=I.base.slot L o D (I.ok.frf L h) h λz=>I.ok.exfs L z h;exact⟨k,⟨L,_,f,n,e,c⟩,j (λb d=>hs b<|by unfold G0;rw[Ky,f];exact w6 _ d) i⟩
 exact a X.outer (λ_ d=>d) I.ok.funs
theorem p0.stack(I:p0 X pins σ H s):s.heap.FunFrames X.base X.stack:=by
 rcases I.ok.stk with e|⟨e,f⟩
 rw[e];exact I.funs;rw[e];obtain⟨m,n,_⟩:=I.loc;refine .cons (by rw[I.ok.kind];decide) f n ?_ I.funs;exact Heap.get?_none_of_le<|F6 I.ok.bsz I.ok.above
theorem p0.stkSub(I:p0 X pins σ H s):∀b∈G0 X.stack,b∈X.env.locals::X.fs:=λb d=>by
 rcases I.ok.stk with e|⟨e,f⟩
 rw[e]at d;exact w6 _ d;rw[e]at d;unfold G0 at d;rw[Ky,f]at d;exact d
theorem p0.stkFree(I:p0 X pins σ H s):∀b∈G0 X.stack,H b=a8:=λb d=>by rcases u8.mp (I.stkSub b d)with e|d;rw[e];exact I.free;obtain⟨_,o,D,_⟩:=I.ok.funs.mem d;exact I.base.free b o D (I.ok.frf b d) λz=>I.ok.exfs b z d
theorem p0.step{g':Array GenState}{t':Nat}{d':Drawn}{ch:List d5}(I:p0 X pins σ H s)(a:∀b∈ch,(b∈X.ex\/X.s₀.heap.objs.size<=b)/\b≠X.env.locals/\(∀x c,X.env.cells.lookup x=a7 c->c≠b)/\∀p∈X.pn++pins,p.1≠b)(g:∀b o,b≠X.env.locals->b∉X.fs->b∉ch->s.heap.get? b=a7 o->H b=a8->h'.get? b=a7 o)(slot:∀b o,b≠X.env.locals->b∈X.fs->b∉ch->s.heap.get? b=a7 o->H b=a8->∃sl,h'.get? b=a7 { o with slots:=sl }) (f:∀b o,b∉ch->s.heap.get? b=a7 o->H b=a8->H' b=a8)(A:∀b o,b∉ch->s.heap.get? b=a7 o->∃o',h'.get? b=a7 o')(G:∀b xs,H b=a7 (.tup xs)->H' b=a7 (.tup xs)) (E:∀b o u,H b=a7 (.frz o u)->H' b=a7 (.frz o u)) (F:∀b ps,H b=a7 (.tbl ps)->∃more,H' b=a7 (.tbl<|ps++more))(ns:∀m,s.heap.Ns X.env.locals m->h'.Ns X.env.locals m) (K:B9 X.prog X.w H' h') (S:f8 g') :
  p0 X pins σ H' { s with heap:=h',gens:=g',drawn:=d',toks:=t' }:=by
 have L:∀b o,X.s₀.heap.get? b=a7 o->b≠X.env.locals:=λb o e=>v7<|D6 (u7 e) I.ok.above;have C:∀b o,X.s₀.heap.get? b=a7 o->b∉X.ex->b∉ch:=λb o e h y=>by rcases(a b y).1 with z|z;exact h z;exact n6 (D6 (u7 e) z)<|D5 _
 have cellK:∀x c,X.env.cells.lookup x=a7 c->∀v,s.heap.IsCell c v->h'.IsCell c v:=λx c e v ⟨o,D,J⟩=>by have j:c∉ch:=λz=>(a c z).2.2.1 x c e rfl;by_cases N:c∈X.fs;obtain⟨sl,q⟩:=slot c o (I.cne x c e) N j D<|I.freeC x c e;exact⟨_,q,J⟩;exact⟨o,g c o (I.cne x c e) N j D<|I.freeC x c e,J⟩
 refine⟨I.ok,I.os,S,⟨λb o e n y h=>?_,λb o e n y h=>?_,λb o e n h=>?_,λb o e h=>?_,λb xs e=>G b xs<|I.base.tups b xs e,λb o xs e=>E b o xs<|I.base.frzs b o xs e,λb ps e=>?_⟩,?_,λx c e=>?_,?_,λx c e=>?_,λp O=>?_,K,I.len⟩;exact g b o (L b o e) y (C b o e h) (I.base.keep b o e n y h)<|I.base.free b o e n h;obtain⟨sl,t⟩:=I.base.slot b o e n y h;obtain⟨M,B⟩:=slot b _ (L b o e) y (C b o e h) t<|I.base.free b o e n h;exact⟨M,B⟩;obtain⟨o',t⟩:=I.base.there b o e h;exact f b o' (C b o e h) t<|I.base.free b o e n h;obtain⟨o',t⟩:=I.base.there b o e h;exact A b o' (C b o e h) t;obtain⟨V,t⟩:=I.base.tbls b ps e;obtain⟨W,B⟩:=F b _ t;exact⟨V++W,by rw[B,Array.append_assoc]⟩;obtain⟨m,U,T⟩:=I.loc;refine⟨m,ns m U,λi x v t B R=>?_⟩;obtain⟨u,r,l⟩:=T i x v t B R;refine⟨u,r,?_⟩;rcases l with l|⟨k,c,e,z⟩
 exact .inl l;exact .inr ⟨k,c,e,cellK x c e _ z⟩;obtain⟨v,z⟩:=I.cell x c e;exact⟨v,cellK x c e v z⟩;obtain⟨m,⟨o,_,_,D,_⟩,_⟩:=I.loc;exact f _ o (λz=>(a _ z).2.1 rfl) D I.free;obtain⟨v,o,D,J⟩:=I.cell x c e;exact f c o (λz=>(a c z).2.2.1 x c e rfl) D<|I.freeC x c e;obtain⟨e,n,P,Q,d⟩:=I.pin p O;have j:p.1∉ch:=λz=>(a p.1 z).2.2.2 p O rfl;exact⟨g p.1 p.2 P Q j e n,f p.1 p.2 j e n,P,Q,d⟩
theorem p0.un{t':Nat}(I:p0 X pins σ H s)(u:Un X.fs [] H H' s.heap h')(K:B9 X.prog X.w H' h'):p0 X pins σ H' { s with heap:=h',toks:=t' }:=by obtain⟨m,⟨o,es,i,D,r⟩,_⟩:=id I.loc;obtain⟨l,L⟩:=u.any D I.free (by simp);exact I.step (g':=s.gens) (d':=s.drawn) (ch:=[]) (λ_ z=>nomatch z) (λb o _ h _ e n=>u.keep b o e n h<|by simp) (λb o _ h _ e n=>u.slot b o e n h<|by simp) (λb o _ e n=>u.free b o e n<|by simp) (λb o _ e=>u.there b o e<|by simp) u.tups u.frzs u.tbls (λg f=>by obtain⟨o',d,c,a,r'⟩:=f;rw[D]at a;cases a;exact⟨_,d,c,L,r'⟩) K I.bare
theorem p0.call{g':Array GenState}{t':Nat}{d':Drawn}{ch:List d5}(I:p0 X pins σ H s)(u:Un (G0 X.stack) ch H H' s.heap h')(K:B9 X.prog X.w H' h')(S:f8 g')(a:∀b∈ch,(b∈X.ex\/X.s₀.heap.objs.size<=b)/\b≠X.env.locals/\(∀x c,X.env.cells.lookup x=a7 c->c≠b)/\∀p∈X.pn++pins,p.1≠b):p0 X pins σ H' { s with heap:=h',gens:=g',drawn:=d',toks:=t' }:=by obtain⟨m,⟨o,es,k,D,r⟩,_⟩:=id I.loc;obtain⟨q,L⟩:=u.any D I.free λz=>(a _ z).2.1 rfl;exact I.step (ch:=ch) a (λb o L i f e n=>u.keep b o e n (λz=>(u8.mp<|I.stkSub b z).elim L i) f) (λb o _ _ f e n=>u.any e n f) (λb o f e n=>u.free b o e n f) (λb o f e=>u.there b o e f) u.tups u.frzs u.tbls (λl j=>by obtain⟨o',g,d,h,r'⟩:=j;rw[D]at h;cases h;exact⟨_,g,d,L,r'⟩) K S
theorem p0.turned{t':Nat}{it:d5}(I:p0 X pins σ H s)(k:∀b o,b≠it->s.heap.get? b=a7 o->h'.get? b=a7 o)(j:H it=a8)(h:it≠X.env.locals)(h1:it∈X.ex\/X.s₀.heap.objs.size<=it) (h2:∀x c,X.env.cells.lookup x=a7 c->c≠it) (a:∀p∈X.pn++pins,p.1≠it):p0 X pins σ H { s with heap:=h',toks:=t' }:=by
 have t:∀b u,H b=a7 u->b≠it:=λb u e z=>by rw[z,j]at e;cases e
 refine I.step (g':=s.gens) (d':=s.drawn) (ch:=[it]) (λb d=>?_) (λb o _ _ f e _=>k b o (λz=>f<|by simp[z]) e) (λb o _ _ f e _=>⟨o.slots,k b o (λz=>f<|by simp[z]) e⟩) (λ_ _ _ _ n=>n) (λb o f e=>⟨o,k b o (λz=>f<|by simp[z]) e⟩) (λ_ _ e=>e) (λ_ _ _ e=>e) (λb ps e=>⟨#[],by rw[e];simp⟩) (λm g=>?_) (λb u e=>?_) I.bare;have e:b=it:=by simpa using d
 subst e;exact⟨h1,h,h2,a⟩;obtain⟨o,es,i,D,r⟩:=g;exact⟨o,es,i,k _ o (v5 h) D,r⟩;refine(I.hok b u e).stay (λc v f q=>k c v ?_ q) (λ_ q=>q) λ_ _ q=>q;rcases f with z|z;rw[z];exact t b u e;exact t c _ z
theorem p0.tok(I:p0 X pins σ H s)(t:Nat):p0 X pins σ H { s with toks:=t }:=I.un (h':=s.heap) (t':=t) Un.refl I.hok
theorem p0.kept(I:p0 X pins σ H s)(k:∀b u,s.heap.get? b=a7 u->h'.get? b=a7 u):p0 X pins σ H { s with heap:=h',toks:=t' }:=I.un (Un.kept k)<|I.hok.kept k
theorem p0.laid(I:p0 X pins σ H s)(k:∀b u,s.heap.get? b=a7 u->h'.get? b=a7 u)(p:s.heap.objs.size<=a)(n:bD X.prog X.w (t8 H a o) h' a o):p0 X pins σ (t8 H a o) { s with heap:=h',toks:=t' }:=I.un (Un.laid k p<|I.hok.fresh p)<|I.hok.laid k p n
theorem p0.write(I:p0 X pins σ H s)(m:Li (H x))(i:e=x\/H e=a7 (.own x))(k:∀b u,b≠e->s.heap.get? b=a7 u->h'.get? b=a7 u)(h:∃u,h'.get? e=a7 u)(n:bD X.prog X.w (t8 H x o) h' x o):p0 X pins σ (t8 H x o) { s with heap:=h',toks:=t' }:=I.un (Un.write m i k h)<|I.hok.write m i k h n
theorem p0.pins_of(I:p0 X pins σ H s)(h:∀p∈pins',s.heap.get? p.1=a7 p.2/\H p.1=a8/\p.1≠X.env.locals/\p.1∉X.fs/\∀v,p.2.data≠.cell v):p0 X pins' σ H s:=⟨I.ok,I.os,I.bare,I.base,I.loc,I.cell,I.free,I.freeC,λp a=>(B7.mp a).elim (λz=>I.pin p<|E3 _ z)<|h p,I.hok,I.len⟩
theorem rX{N:List c7}(h:N.Nodup){i j:Nat}{x:c7}(a:N[i]?=a7 x)(b:N[j]?=a7 x):i=j:=by obtain⟨h1,t⟩:=w9.mp a;obtain⟨h2,m⟩:=w9.mp b;exact(List.getElem_inj h).mp<|t.trans m.symm
theorem vB{M:Model}{A:e9}{E:c6->f6->Prop}{i:Nat}{x:c7}{v:V}{u:c6}{Q:Unit->f6->Prop}(I:p0 X pins σ H s)(hN:X.N.Nodup)(hi:X.N[i]?=a7 x)(l:JI X.env.scope x)(r:aG v u)(h:∀s',p0 X pins (σ.set i<|a7 v) H s'->(∃a,IH a s.heap s'.heap/\(a=X.env.locals\/X.env.cells.lookup x=a7 a))->Q () s') (hf:X.fn x=a9\/X.env.scope.names.lookup x=a7 .local:=by first|exact .inl rfl|exact .inr rfl|assumption):f9 M A (storeName X.env x u) Q E s:=by
 obtain⟨m,hn,hl⟩:=id I.loc;have R:(X.env.scope.kind==.class||(X.env.scope.kind==.module&&X.env.locals != X.env.globals))=c5:=by rw[I.ok.kind];rfl
 have D:i<σ.length:=by rw[I.len];exact(w9.mp hi).1
 have G:=I.cne;have f:∀{a:d5}{h':d7},(∃o,s.heap.get? a=a7 o/\H a=a8)->IH a s.heap h'->B9 X.prog X.w H h':=λ{a h'} ha hs b ob e=>by obtain⟨_,_,B⟩:=ha;refine(I.hok b ob e).stay (λc Y g q=>(hs.2 c ?_).trans q) (λ_ q=>q) λ_ _ q=>q;rintro rfl;rcases g with rfl|g;rw[B]at e;cases e;rw[B]at g;cases g
 rcases l with F|F;refine wpAny_storeName_local F hn (λh' ai hs=>?_) R;obtain⟨oL,_,_,aj,_⟩:=id hn;refine h _ ⟨I.ok,I.os,I.bare,⟨λb o e n J l=>?_,λb o e n J l=>?_,I.base.free,λb o e l=>?_,I.base.tups,I.base.frzs,I.base.tbls⟩,⟨_,ai,λj y v' t C Z=>?_⟩,λy c e=>?_,I.free,I.freeC,λp hp=>?_,f ⟨oL,aj,I.free⟩ hs,by simpa using I.len⟩ ⟨_,hs,.inl rfl⟩;exact(hs.2 b<|v7<|D6 (u7 e) I.ok.above).trans<|I.base.keep b o e n J l;obtain⟨sl,t⟩:=I.base.slot b o e n J l;exact⟨sl,(hs.2 b<|v7<|D6 (u7 e) I.ok.above).trans t⟩;obtain⟨o',t⟩:=I.base.there b o e l;exact⟨o',(hs.2 b<|v7<|D6 (u7 e) I.ok.above).trans t⟩;by_cases L:j=i;subst L;rw[hi]at t;cases t;rw[IA D]at C;cases C;exact⟨u,r,.inl ⟨F,by simp⟩⟩;rw[IT<|v5 L]at C;obtain⟨u',r',q⟩:=hl j y v' t C Z;refine⟨u',r',?_⟩;rcases q with⟨k,e⟩|⟨k,c,e,z⟩
 refine .inl ⟨k,?_⟩;have:y≠x:=λe=>L<|rX hN t<|e ▸ hi;simp[this,e];exact .inr ⟨k,c,e,z.sameBut hs<|G y c e⟩;obtain⟨Y,z⟩:=I.cell y c e;exact⟨Y,z.sameBut hs<|G y c e⟩;obtain⟨e,n,W,nf,d⟩:=I.pin p hp;exact⟨(hs.2 p.1 W).trans e,n,W,nf,d⟩;have K:X.fn x=a9:=by rcases hf with z|z;exact z;rw[z]at F;cases F
 obtain⟨c,g⟩:=I.ok.has x<|.inl F;obtain⟨Y,z⟩:=I.cell x c g;refine wpAny_storeName_cell I.ok.kind F g z<|λh' O hs=>?_;obtain⟨oc,S,T⟩:=id z;refine h { s with heap:=h' } ⟨I.ok,I.os,I.bare,⟨λb o e n J l=>?_,λb o e n J l=>?_,I.base.free,λb o e l=>?_,I.base.tups,I.base.frzs,I.base.tbls⟩,⟨m,hn.sameBut hs<|v5<|G x c g,λj y v' t C Z=>?_⟩,λy U e=>?_,I.free,I.freeC,λp hp=>?_,f ⟨oc,S,I.freeC x c g⟩ hs,by simpa using I.len⟩ ⟨c,hs,.inr g⟩;exact(hs.2 b<|v7<|D6 (u7 e)<|I.ok.cab x c K g).trans<|I.base.keep b o e n J l;obtain⟨sl,t⟩:=I.base.slot b o e n J l;exact⟨sl,(hs.2 b<|v7<|D6 (u7 e)<|I.ok.cab x c K g).trans t⟩;obtain⟨o',t⟩:=I.base.there b o e l;exact⟨o',(hs.2 b<|v7<|D6 (u7 e)<|I.ok.cab x c K g).trans t⟩;by_cases L:j=i;subst L;rw[hi]at t;cases t;rw[IA D]at C;cases C;exact⟨u,r,.inr ⟨.inl F,c,g,O⟩⟩;rw[IT<|v5 L]at C;obtain⟨u',r',q⟩:=hl j y v' t C Z;refine⟨u',r',?_⟩;rcases q with q|⟨k,U,e,z'⟩
 exact .inl q;refine .inr ⟨k,U,e,z'.sameBut hs ?_⟩;rintro rfl;exact L<|rX hN t<|I.ok.inj _ _ _ e g ▸ hi;by_cases P:U=c;subst P;exact⟨_,O⟩;obtain⟨w2,z2⟩:=I.cell y U e;exact⟨w2,z2.sameBut hs P⟩;obtain⟨e,n,W,nf,d⟩:=I.pin p hp;refine⟨(hs.2 p.1 ?_).trans e,n,W,nf,d⟩;intro q;rw[q,S]at e;have q':oc=p.2:=A1 e;exact d Y<|by rw[<-q'];exact T
theorem rR(I:p0 X pins σ H s)(b:X.N.Nodup)(hi:X.N[i]?=a7 x)(c:JI X.env.scope x)(r:aG v u)(h:∀s',p0 X pins (σ.set i<|a7 v) H s'->Q () s') (f:X.fn x=a9\/X.env.scope.names.lookup x=a7 .local:=by first|exact .inl rfl|exact .inr rfl|assumption):f9 M A (storeName X.env x u) Q E s:=vB I b hi c r (λs' a _=>h s' a) f
theorem p0.call'(I:p0 X pins σ H s)(D:s'.os=s.os)(u:Un (G0 X.stack) ch H H' s.heap s'.heap)(K:B9 X.prog X.w H' s'.heap)(S:f8 s'.gens)(a:∀b∈ch,(b∈X.ex\/X.s₀.heap.objs.size<=b)/\b≠X.env.locals/\(∀x c,X.env.cells.lookup x=a7 c->c≠b)/\∀p∈X.pn++pins,p.1≠b):p0 X pins σ H' s':=by obtain⟨h',g',d',t',o'⟩:=s';have e:o'=s.os:=D;subst e;exact I.call (g':=g') (t':=t') (d':=d') u K S a
abbrev XK:=c6->Option d5->Hp->Prop
noncomputable abbrev St:=List<|Option V
abbrev VK:=V->Hp->Prop
abbrev TE:=St->Hp->VK->Prop
abbrev TT:=St->Hp->(Bool->Hp->Prop)->Prop
abbrev TA:=St->Hp->(List V->Hp->Prop)->Prop
structure Ends where
 nx:St->Hp->Prop
 rt:VK
 bk:St->Hp->Prop:=λ_ _=>False
 ct:St->Hp->Prop:=λ_ _=>False
abbrev TS:=Ends->St->Hp->Prop
inductive EP(X:Cx)(pins:List (d5×d6))(σ:St)(Q:VK)(u:c6)(s':f6):Prop
 |mk (v:_) (H':_) (f0:p0 X pins σ H' s') (f1:aG v u) (f2:Q v H')
inductive TP(X:Cx)(pins:List (d5×d6))(σ:St)(Q:Bool->Hp->Prop)(b:Bool)(s':f6):Prop
 |mk (H':_) (f0:p0 X pins σ H' s') (f1:Q b H')
inductive AP(X:Cx)(pins:List (d5×d6))(σ:St)(Q:List V->Hp->Prop)(us:List c6)(s':f6):Prop
 |mk (vs:_) (H':_) (f0:p0 X pins σ H' s') (f1:ao vs us) (f2:Q vs H')
def SP(X:Cx)(pins:List (d5×d6))(D:Ends)(f:Flow)(s':f6):Prop:=match f with
 |.next=>∃a H',p0 X pins a H' s'/\D.nx a H'
 |.brk=>∃a H',p0 X pins a H' s'/\D.bk a H'
 |.cont=>∃a H',p0 X pins a H' s'/\D.ct a H'
 |.ret u=>∃v a H',p0 X pins a H' s'/\aG v u/\D.rt v H'
def PE(X:Cx)(e:ge)(t:TE):Prop:=∀(p:List (d5×d6)) (s:f6) (σ:St) (H:Hp) (Q:VK),p0 X p σ H s->t σ H Q->f9 (g7 X.prog X.w) X.A (eval e X.env) (EP X p σ Q) X.xe s
def PT(X:Cx)(e:ge)(t:TT):Prop:=∀(p:List (d5×d6)) (s:f6) (σ:St) (H:Hp) (Q:Bool->Hp->Prop),p0 X p σ H s->t σ H Q->f9 (g7 X.prog X.w) X.A (isTrue e X.env<|eval e X.env) (TP X p σ Q) X.xe s
def PW(X:Cx)(e:ge)(t:TT):Prop:=∀(a:Sem c6) (p:List (d5×d6)) (s:f6) (σ:St) (H:Hp) (Q:Bool->Hp->Prop),p0 X p σ H s->t σ H Q->f9 (g7 X.prog X.w) X.A (isTrue e X.env a) (TP X p σ Q) X.xe s
theorem PW.pt(h:PW X e t):PT X e t:=h _
def PA(X:Cx)(es:List ge)(t:TA):Prop:=∀(a:Pos) (p:List (d5×d6)) (s:f6) (σ:St) (H:Hp) (Q:List V->Hp->Prop),p0 X p σ H s->t σ H Q->f9 (g7 X.prog X.w) X.A (spliced<|g8 a<|g9 es X.env) (AP X p σ Q) X.xe s
def PS(X:Cx)(st:h8)(t:TS):Prop:=∀(p:List (d5×d6)) (s:f6) (σ:St) (H:Hp) (D:Ends),p0 X p σ H s->t D σ H->f9 (g7 X.prog X.w) X.A (exec st X.env) (SP X p D) X.xe s
def G1(X:Cx)(st:List h8)(t:TS):Prop:=∀(p:List (d5×d6)) (s:f6) (σ:St) (H:Hp) (D:Ends),p0 X p σ H s->t D σ H->f9 (g7 X.prog X.w) X.A (execs st X.env) (SP X p D) X.xe s
theorem u3{α:Type}{t:Sem α}{Q Q':α->f6->Prop}{M:Model}{A:e9}{E:c6->f6->Prop}{s:f6}(h:f9 M A t Q E s)(b:∀a s,Q a s->Q' a s):f9 M A t Q' E s:=D4 h b λ_ _ x=>x
section
variable{X:Cx}
def tVar(i:Nat):TE:=λσ H Q=>∃v,σ[i]?=a7 (a7 v)/\Q v H
def tC(v:V):TE:=λ_ H Q=>Q v H
theorem AI(g:X.N[i]?=a7 x)(t:J7 X.env.scope x)(b:(x==("__debug__":c7))=c5:=by decide)(d:(x==("__classdict__":c7))=c5:=by decide):PE X (.Name x pos) (tVar i):=by
 intro p s σ H Q I h;obtain⟨v,e,h⟩:=h;obtain⟨m,q,j⟩:=I.loc;obtain⟨u,r,l⟩:=j i x v g e t;have n:EP X p σ Q u s:=⟨v,H,I,r,h⟩
 rcases l with⟨k,o⟩|⟨k,c,f,a⟩
 exact wpAny_Name (wpAny_loadName_local I.ok.kind k q o n) b;rcases k with k|k;exact wpAny_Name (wpAny_loadName_cell I.ok.kind k f a n) b;exact wpAny_Name (wpAny_loadName_free I.ok.kind k f a n d) b
theorem Fd{i j pos}:PE X (.Constant (.int i) j pos) (tC<|.int i):=λ_ _ _ H _ I h=>wpAny_Constant_int ⟨.int i,H,I.tok _,⟨_,rfl⟩,h⟩
theorem pe_bl{b j pos}:PE X (.Constant (.bool b) j pos) (tC<|.bl b):=λ_ _ _ H _ I h=>Constant_bool ⟨.bl b,H,I,rfl,h⟩
theorem Fa{j pos}:PE X (.Constant .none j pos) (tC .non):=λ_ _ _ H _ I h=>Constant_none ⟨.non,H,I,rfl,h⟩
theorem EY{x j pos}:PE X (.Constant (.str x) j pos) (tC<|.str x):=λ_ _ _ H _ I h=>Calls.Constant_str ⟨.str x,H,I.tok _,⟨_,rfl⟩,h⟩
def Gl(X:Cx)(x:c7):Prop:=X.env.kindOf x=a7 .globalImplicit
theorem Cw(I:p0 X pins σ H s)(S:Gl X x)(m:X.mg x=a7 u)(h:Q u s)(d:(x==("__debug__":c7))=c5:=by decide):f9 (g7 X.prog X.w) X.A (eval (.Name x pos) X.env) Q E s:=Calls.Name_function_global I.ok.kind S (Calls.loadGlobal_global (by rw[I.ok.glob];exact I.mod.glob.keeps I.bk) m h) d
theorem dS(I:p0 X pins σ H s)(S:Gl X x)(m:X.mg x=a8)(c:e8 x=a7 u)(h:Q u s)(f:x≠"__name__":=by decide) (d:(x==("__debug__":c7))=c5:=by decide):f9 (g7 X.prog X.w) X.A (eval (.Name x pos) X.env) Q E s:=by obtain⟨mb,h1,h2⟩:=I.mod.blt;exact Calls.Name_function_global I.ok.kind S (Calls.loadGlobal_builtin (by rw[I.ok.glob];exact I.mod.glob.keeps I.bk) m (by rw[I.ok.blt];exact h1.keeps I.bk) ((h2 x f).trans c) h) d
theorem BV(S:Gl X x)(m:X.mg x=a8)(c:e8 x=a7 u)(r:aG v u)(f:x≠"__name__":=by decide)(d:(x==("__debug__":c7))=c5:=by decide):PE X (.Name x pos) (tC v):=λ_ _ _ H _ I h=>dS I S m c ⟨v,H,I,r,h⟩ f d
variable{a b:ge}{ta tb:TE}{pos:Pos}
theorem aG.none_iff(r:aG x v):(v==ABJ)=decide (x=.non):=by
 cases x with
 |non=>cases r;rfl
 |bl _=>cases r;rfl
 |int _=>obtain⟨t,rfl⟩:=r;rfl
 |str _=>obtain⟨t,rfl⟩:=r;rfl
 |byt _=>obtain⟨t,rfl⟩:=r;rfl
 |flt _=>obtain⟨t,rfl⟩:=r;rfl
 |ref _=>cases r;rfl
 |ty _=>cases r;rfl
def tB(t:TE):TT:=λσ H Q=>t σ H λx a=>∃c,x=.bl c/\Q c a
theorem EN(h:PE X e t)(i:∀whole,isTrue e X.env whole=(do let v <-whole;standAt e.pos;i3 [v] (truthy v)):=by intro _;rfl):PT X e (tB t):=by intro p s σ H Q I w;refine isTrue_plain (u3 (h p s σ H _ I w) ?_)<|i _;rintro v f ⟨x,a,b,r,c⟩;obtain⟨d,rfl,q⟩:=c;cases r;exact Lx ⟨a,b,q⟩
variable{tA tB':TT}{aE:List ge}
def tAnd(t u:TT):TT:=λσ H Q=>t σ H λc a=>if c=a9 then u σ a Q else Q c5 a
def tOr(t u:TT):TT:=λσ H Q=>t σ H λc a=>if c=a9 then Q a9 a else u σ a Q
def tNot(t:TT):TT:=λσ H Q=>t σ H λc a=>Q (!c) a
theorem BE(f:PT X a tA):PW X (.BoolOp .And [a] pos) tA:=by
 intro w p s σ H Q I h;refine isTrue_and<|u3 (f p s σ H Q I h) λc b e=>?_;cases c with
 |true=>exact isTrue_and_nil e
 |false=>exact e
theorem EL(f:PT X a tA):PW X (.BoolOp .Or [a] pos) tA:=by
 intro w p s σ H Q I h;refine isTrue_or<|u3 (f p s σ H Q I h) λc b e=>?_;cases c with
 |false=>exact isTrue_or_nil e
 |true=>exact e
theorem EM(f:PT X a tA)(g:PW X (.BoolOp .And (b::aE) pos) tB'):PW X (.BoolOp .And (a::b::aE) pos) (tAnd tA tB'):=by
 intro w p s σ H Q I h;refine isTrue_and<|u3 (f p s σ H _ I h) ?_;rintro c i ⟨d,e,q⟩;cases c with
 |true=>exact g w p i σ d Q e q
 |false=>exact⟨d,e,q⟩
theorem pw_or(f:PT X a tA)(g:PW X (.BoolOp .Or (b::aE) pos) tB'):PW X (.BoolOp .Or (a::b::aE) pos) (tOr tA tB'):=by
 intro w p s σ H Q I h;refine isTrue_or<|u3 (f p s σ H _ I h) ?_;rintro c i ⟨d,e,q⟩;cases c with
 |true=>exact⟨d,e,q⟩
 |false=>exact g w p i σ d Q e q
theorem EO(f:PT X a tA):PT X (.UnaryOp .Not a pos) (tNot tA):=by intro p s σ H Q I h;refine isTrue_not<|u3 (f p s σ H (λc b=>Q (!c) b) I h) ?_;rintro c e ⟨b,d,q⟩;exact⟨b,d,q⟩
def tAndV(t b:TE):TE:=λσ H Q=>t σ H λx a=>∃c,x=.bl c/\if c=a9 then b σ a Q else Q (.bl c5) a
def tOrV(t b:TE):TE:=λσ H Q=>t σ H λx a=>∃c,x=.bl c/\if c=a9 then Q (.bl a9) a else b σ a Q
theorem EZ{op}(h:PE X a t):PE X (.BoolOp op [a] pos) t:=λp s σ H Q I w=>BoolOp_one<|h p s σ H Q I w
theorem Ff(f:PE X a ta)(g:PE X (.BoolOp .And (b::aE) pos) tb):PE X (.BoolOp .And (a::b::aE) pos) (tAndV ta tb):=by
 intro p s σ H Q I h;refine BoolOp_and<|u3 (f p s σ H _ I h) ?_;rintro v i ⟨x,d,e,r,q⟩;obtain⟨c,rfl,q⟩:=q;cases r;refine Lx ?_;cases c with
 |true=>exact g p i σ d Q e q
 |false=>exact⟨.bl c5,d,e,rfl,q⟩
theorem pe_or(f:PE X a ta)(g:PE X (.BoolOp .Or (b::aE) pos) tb):PE X (.BoolOp .Or (a::b::aE) pos) (tOrV ta tb):=by
 intro p s σ H Q I h;refine BoolOp_or<|u3 (f p s σ H _ I h) ?_;rintro v i ⟨x,d,e,r,q⟩;obtain⟨c,rfl,q⟩:=q;cases r;refine Lx ?_;cases c with
 |false=>exact g p i σ d Q e q
 |true=>exact⟨.bl a9,d,e,rfl,q⟩
end
def Fn(K:q9)(H:Hp)(a:d5)(xs:List V):Prop:=Rd H a (.lst xs) \/∃(o:d6) (its:Array c6) (n:Nat),K.lookup a=a7 o/\o.cls=.type "list"/\o.dict=a8/\o.data=.seq its n/\its.size<=sizeLine/\ao xs its.toList
def x9(K:q9)(H:Hp)(a:d5)(xs:List V):Prop:=Rd H a (.tup xs) \/∃(o:d6) (its:Array c6) (n:Nat),K.lookup a=a7 o/\o.cls=.type "tuple"/\o.dict=a8/\o.data=.seq its n/\its.size<=sizeLine/\ao xs its.toList
noncomputable def absV:c6->Option V
 |.none=>a7 .non
 |.bool b=>a7<|.bl b
 |.int i _=>a7<|.int i
 |.str x _=>a7<|.str x
 |.bytes b _=>a7<|.byt b
 |.float b _=>a7<|.flt b
 |.ref a=>a7<|.ref a
 |.type n=>a7<|.ty n
 |_=>a8
theorem aG.abs(r:aG x u):absV u=a7 x:=by
 cases x with
 |non=>cases r;rfl
 |bl _=>cases r;rfl
 |int _=>obtain⟨t,rfl⟩:=r;rfl
 |str _=>obtain⟨t,rfl⟩:=r;rfl
 |byt _=>obtain⟨t,rfl⟩:=r;rfl
 |flt _=>obtain⟨t,rfl⟩:=r;rfl
 |ref _=>cases r;rfl
 |ty _=>cases r;rfl
theorem aG.inj(r:aG x u)(q:aG y u):x=y:=A1<|r.abs.symm.trans q.abs
theorem ao.inj(h:ao xs us)(h':ao ys us):xs=ys:=by
 induction h generalizing ys with
 |nil=>cases h';rfl
 |cons r t i=>cases h' with
  |cons r' t'=>rw[r.inj r',i t']
theorem x9.of{K:q9}(h:H a=a7 (.tup xs)):x9 K H a xs:=.inl<|.inl h
theorem p0.list(I:p0 X pins σ H s)(h:Fn X.K H a xs):∃its:List c6,ao xs its/\PlainL s.heap a its.toArray/\xs.length<=sizeLine:=by
 rcases h with h|⟨o,its,n,k,f,d,hs,b,r⟩
 obtain⟨z,its,n,r,e⟩:=h.ok I.hok;exact⟨its,r,⟨_,n,e,rfl,rfl,rfl⟩,z⟩;refine⟨its.toList,r,⟨o,n,I.kIn a o k,f,d,by simpa using hs⟩,?_⟩;have e:=r.length;simp only[C3]at e;lia
theorem p0.tuple(I:p0 X pins σ H s)(h:x9 X.K H a xs):∃its:List c6,ao xs its/\IsTup s.heap a its.toArray/\xs.length<=sizeLine:=by
 rcases h with h|⟨o,its,n,k,f,_,hs,b,r⟩
 obtain⟨z,its,r,p⟩:=h.ok I.hok;exact⟨its,r,p.tup,z⟩;refine⟨its.toList,r,⟨o,I.kIn a o k,f,n,by simpa using hs⟩,?_⟩;have e:=r.length;simp only[C3]at e;lia
theorem p0.list_inj(I:p0 X pins σ H s)(h:Fn X.K H a xs)(h':Fn X.K H a ys):xs=ys:=by
 obtain⟨its,r,⟨o,n,e,_,_,d⟩,_⟩:=I.list h;obtain⟨i,r',⟨o',f,c,_,_,b⟩,_⟩:=I.list h';rw[e]at c;cases c;rw[d]at b;injection b with d1 _;have:its=i:=by simpa using o6 Array.toList d1
 subst this;exact r.inj r'
theorem p0.tuple_inj(I:p0 X pins σ H s)(h:x9 X.K H a xs)(h':x9 X.K H a ys):xs=ys:=by
 obtain⟨its,r,⟨o,e,_,n,d⟩,_⟩:=I.tuple h;obtain⟨i,r',⟨o',c,_,f,b⟩,_⟩:=I.tuple h';rw[e]at c;cases c;rw[d]at b;injection b with d1 _;have:its=i:=by simpa using o6 Array.toList d1
 subst this;exact r.inj r'
noncomputable abbrev Cx.wish(X:Cx)(E:c6->f6->Prop):Cx:={ X with xe:=E }
noncomputable abbrev Cx.nox(X:Cx):Cx:=X.wish λ_ _=>False
theorem Cx.Ok.wish{X:Cx}(ok:X.Ok)(E:c6->f6->Prop):(X.wish E).Ok:=⟨ok.mod,ok.kind,ok.glob,ok.blt,ok.above,ok.inj,ok.has,ok.cab,ok.hd,ok.frames,ok.stk,ok.exf,ok.bs,ok.bsz,ok.noex,ok.exfs,ok.funs,ok.frf⟩
theorem Cx.Ok.unwish{X:Cx}{E:c6->f6->Prop}(ok:(X.wish E).Ok):X.Ok:=⟨ok.mod,ok.kind,ok.glob,ok.blt,ok.above,ok.inj,ok.has,ok.cab,ok.hd,ok.frames,ok.stk,ok.exf,ok.bs,ok.bsz,ok.noex,ok.exfs,ok.funs,ok.frf⟩
theorem p0.wish(I:p0 X pins σ H s)(E:c6->f6->Prop):p0 (X.wish E) pins σ H s:=⟨I.ok.wish E,I.os,I.bare,I.base,I.loc,I.cell,I.free,I.freeC,I.pin,I.hok,I.len⟩
theorem p0.unwish(I:p0 (X.wish E) pins σ H s):p0 X pins σ H s:=⟨I.ok.unwish,I.os,I.bare,I.base,I.loc,I.cell,I.free,I.freeC,I.pin,I.hok,I.len⟩
theorem SP.unwish(h:SP (X.wish E) pins D f s'):SP X pins D f s':=by
 cases f with
 |next=>obtain⟨a,H',I,q⟩:=h;exact⟨a,H',I.unwish,q⟩
 |brk=>obtain⟨a,H',I,q⟩:=h;exact⟨a,H',I.unwish,q⟩
 |cont=>obtain⟨a,H',I,q⟩:=h;exact⟨a,H',I.unwish,q⟩
 |ret u=>obtain⟨v,a,H',I,r,q⟩:=h;exact⟨v,a,H',I.unwish,r,q⟩
theorem PE.nox(h:PE X.nox e t):PE X e t:=λp s σ H Q I w =>
 D4 (h p s σ H Q (I.wish _) w) (λ_ _ ⟨v,H',a,r,q⟩=>⟨v,H',a.unwish,r,q⟩) λ_ _ z=>Ja z
theorem G1.nox{st:List h8}{t:TS}(h:G1 X.nox st t):G1 X st t:=λp s σ H D I w =>
 D4 (h p s σ H D (I.wish _) w) (λ_ _ q=>q.unwish) λ_ _ z=>Ja z
def tNext:TS:=λD σ H=>D.nx σ H
def tSeq(t u:TS):TS:=λD σ H=>t { D with nx:=u D } σ H
theorem BK:G1 X [] tNext:=λ_ _ σ H _ I h=>Mc ⟨σ,H,I,h⟩
theorem yO{X:Cx}{st:h8}{aE:List h8}{t u:TS}(h1:PS X st t)(h2:G1 X aE u):G1 X (st::aE) (tSeq t u):=by
 intro p s σ H D I h;refine wpAny_execs_cons<|u3 (h1 p s σ H { D with nx:=u D } I h) λf c q=>?_;cases f with
 |next=>obtain⟨a,H',b,q⟩:=q;exact h2 p c a H' D b q
 |ret v=>exact q
 |brk=>exact q
 |cont=>exact q
theorem BJ{X:Cx}{st:h8}{t:TS}(h1:PS X st t):G1 X [st] t:=by
 intro p s σ H D I h;refine wpAny_execs_cons<|u3 (h1 p s σ H D I h) λf a q=>?_;cases f with
 |next=>exact Mc q
 |ret v=>exact q
 |brk=>exact q
 |cont=>exact q
theorem p0.quiet(I:p0 X pins σ H s):interactive X.env=c5:=by simp[interactive,I.ok.kind]
def tDrop(te:TE):TS:=λD σ H=>te σ H λ_ a=>D.nx σ a
theorem BL(i:PE X e te)(hs:i4 e a8 pos.line X.env=pure c5:=by rfl):PS X (.Expr e pos) (tDrop te):=by intro p s σ H D I h;exact wpAny_Expr_any (u3 (i p s σ H _ I h) λv f ⟨x,a,b,r,c⟩=>⟨σ,a,b,c⟩) I.quiet hs
def tRet(te:TE):TS:=λD σ H=>te σ H D.rt
theorem ER(i:PE X e te):PS X (.Return (a7 e) pos) (tRet te):=by intro p s σ H D I h;refine wpAny_Return_some<|u3 (i p s σ H _ I h) ?_;rintro v f ⟨x,a,b,r,c⟩;exact⟨x,σ,a,b,r,c⟩
def tIfS(c:TT)(t u:TS):TS:=λD σ H=>c σ H λb a=>if b=a9 then t D σ a else u D σ a
theorem ps_if(k:PT X c tc)(i:G1 X a t)(j:G1 X b u):PS X (.If c a b pos) (tIfS tc t u):=by
 intro p s σ H D I h;refine wpAny_If<|u3 (k p s σ H _ I h) ?_;rintro d g ⟨e,f,q⟩;cases d with
 |true=>exact i p g σ e D f q
 |false=>exact j p g σ e D f q
abbrev TG:=V->St->Hp->(St->Hp->Prop)->Prop
abbrev Le:=List V->St->Hp->(St->Hp->Prop)->Prop
def PG(X:Cx)(a:ge)(t:TG):Prop:=∀(p:List (d5×d6)) (s:f6) (σ:St) (H:Hp) (v:V) (u:c6) (Q:St->Hp->Prop),p0 X p σ H s->aG v u->t v σ H Q ->f9 (g7 X.prog X.w) X.A (i5 a X.env u) (λ_ s'=>∃b H',p0 X p b H' s'/\Q b H') X.xe s
def Lg(X:Cx)(b:List ge)(t:Le):Prop:=∀(p:List (d5×d6)) (s:f6) (σ:St) (H:Hp) (vs:List V) (us:List c6) (Q:St->Hp->Prop),p0 X p σ H s->ao vs us->t vs σ H Q ->f9 (g7 X.prog X.w) X.A (assignInOrder ((i6 b X.env).map (·.2)) us) (λ_ s'=>∃a H',p0 X p a H' s'/\Q a H') X.xe s
abbrev TSet:=V->V->V->Hp->(Hp->Prop)->Prop
def PSet(X:Cx)(t:TSet):Prop:=∀(p:List (d5×d6)) (s:f6) (σ:St) (H:Hp) (o i v:V) (b a u:c6) (Q:Hp->Prop),p0 X p σ H s->aG o b->aG i a->aG v u->t o i v H Q ->f9 (g7 X.prog X.w) X.A (setItem b a u) (λ_ s'=>∃H',p0 X p σ H' s'/\Q H') X.xe s
def Gz(i:Nat):TG:=λv σ H Q=>Q (σ.set i<|a7 v) H
theorem BR(b:X.N.Nodup)(hi:X.N[i]?=a7 x)(c:JI X.env.scope x)(f:X.fn x=a9\/X.env.scope.names.lookup x=a7 .local:=by first|exact .inl rfl|exact .inr rfl|assumption):PG X (.Name x pos) (Gz i):=by intro p s σ H v u Q I r h;exact wpAny_assign_Name<|rR I b hi c r (λs' a=>⟨_,H,a,h⟩) f
def gNil:Le:=λvs σ H Q=>vs=[]/\Q σ H
def gCons(t:TG)(u:Le):Le:=λvs σ H Q=>∃v r,vs=v::r/\t v σ H λa H'=>u r a H' Q
theorem BP:Lg X [] gNil:=by intro p s σ H vs us Q I r h;obtain⟨e,h⟩:=h;subst e;cases r;exact assignInOrder_nil ⟨σ,H,I,h⟩
theorem yS(h1:PG X e t)(h2:Lg X es u)(hs:(i6 (e::es) X.env).map (·.2)=i5 e X.env::(i6 es X.env).map (·.2):=by rfl):Lg X (e::es) (gCons t u):=by
 intro p s σ H vs us Q I r h;obtain⟨v,i,d,h⟩:=h;subst d;cases r with
 |cons r f=>rw[hs];refine assignInOrder_cons<|u3 (h1 p s σ H _ _ _ I r h) ?_;rintro _ g ⟨a,b,c,q⟩;exact h2 p g a b _ _ Q c f q
def gTup(K:q9)(n:Nat)(t:Le):TG:=λv σ H Q=>∃a xs,v=.ref a/\x9 K H a xs/\xs.length=n/\t xs σ H Q
theorem EV(i:X.calm=a9)(h:Lg X es t)(j:(i6 es X.env).length=n:=by rfl) (c:(i6 es X.env).findIdx? (·.1)=a8:=by rfl):PG X (.Tuple es k pos) (gTup X.K n t):=by intro p s σ H v u Q I r w;obtain⟨a,xs,g,q,l,w⟩:=w;subst g;cases r;obtain⟨its,d,E,z⟩:=I.tuple q;refine assign_Tuple_tuple (I.ok.hd i) E (by simp[j,<-l,d.length]) c λh' x=>?_;have f:p0 X p σ H { s with heap:=h' }:=I.kept (t':=s.toks) λb o e=>x b o (v7<|u7 e) e;exact h p _ σ H xs _ Q f (by simpa using d) w
def gSub(e d:TE)(t:TSet):TG:=λv σ H Q=>e σ H λo a=>d σ a λi b=>t o i v b λc=>Q σ c
theorem EW(D:PE X o to)(hi:PE X i ti)(hs:PSet X t)(g:∀v,i5 (.Subscript o i pos) X.env v=(do
   let ov <-i3 [v] (eval o X.env)
   let iv <-i3 [v,ov] (eval i X.env)
   standAt pos
   i3 [v,ov,iv] (setItem ov iv v)
   release [v,ov,iv] []):=by intro _;rfl):PG X (.Subscript o i pos) (gSub to ti t):=by intro p s σ H v u Q I r h;rw[g];refine o8<|C9<|u3 (D p s σ H _ I h) ?_;rintro ov n ⟨x,a,d,l,q⟩;refine o8<|C9<|u3 (hi p n σ a _ d q) ?_;rintro iv w ⟨y,b,e,m,j⟩;refine o8<|wpAny_standAt<|o8<|C9<|u3 (hs p w σ b x y v ov iv u _ e l m r j) ?_;rintro _ z ⟨c,f,k⟩;exact wpAny_release ⟨σ,c,f,k⟩
def tAsg(te:TE)(g:TG):TS:=λD σ H=>te σ H λx a=>g x σ a D.nx
theorem ET(i:PE X e te)(S:PG X tg g)(hs:swapsWithSole [tg] e pos.line X.env=pure c5:=by rfl)(w:swappedStores [tg] e X.env=pure a8:=by rfl)(h1:(i6 [tg] X.env).map (·.2)=[i5 tg X.env]:=by rfl):PS X (.Assign [tg] e pos) (tAsg te g):=by intro p s σ H D I h;refine wpAny_Assign_stores (u3 (i p s σ H _ I h) ?_) hs w;rintro v f ⟨x,a,b,r,c⟩;rw[h1];exact u3 (S p f σ a x v _ b r c) λ_ d q=>q
theorem EQ(d:X.N.Nodup)(hi:X.N[i]?=a7 x)(j:JI X.env.scope x)(f:PE X e te)(hs:i4 e (a7<|.Name x pos') pos.line X.env=pure c5:=by rfl)(g:X.fn x=a9\/X.env.scope.names.lookup x=a7 .local:=by first|exact .inl rfl|exact .inr rfl|assumption):PS X (.Assign [.Name x pos'] e pos) (tAsg te<|Gz i):=by intro p s σ H D I h;refine wpAny_Assign_Name (u3 (f p s σ H _ I h) ?_) hs;rintro v k ⟨y,a,b,r,q⟩;exact rR b d hi j r (λw c=>⟨_,a,c,q⟩) g
def AG(c:TT)(t:TS):TS:=λD σ H=>∃W:Nat->St->Hp->Prop,(∃m,W m σ H)/\∀m σ H,W m σ H ->c σ H λb d=>if b=a9 then ∃N:St->Hp->Prop,(∀a H',N a H'->∃g,g < m/\W g a H')/\t { D with nx:=N,ct:=N,bk:=D.nx } σ d else D.nx σ d
theorem yP(z:PassesOwn (g7 X.prog X.w) X.A X.env X.xe)(E:PT X c tc)(C:G1 X body tb):PS X (.While c body [] pos) (AG tc tb):=by
 intro p s σ H D I h;obtain⟨W,⟨F,K⟩,t⟩:=h;refine wpAny_While<|codeAny_whileLoop (λn s'=>∃g H',p0 X p g H' s'/\W n g H') ?_ F ⟨σ,H,I,K⟩;rintro n G ⟨d,r,B,L⟩;refine Ko z<|u3 (E p G d r _ B<|t n d r L) ?_;rintro b J ⟨u,x,j⟩;cases b with
 |true =>
  obtain⟨N,y,j⟩:=j;rw[m9 rfl];refine Ko z<|u3 (C p J d u _ x j) λf M k=>?_;cases f with
  |next=>obtain⟨a,e,i,o⟩:=k;obtain⟨l,m,q⟩:=y a e o;exact⟨l,m,a,e,i,q⟩
  |cont=>obtain⟨a,e,i,o⟩:=k;obtain⟨l,m,q⟩:=y a e o;exact⟨l,m,a,e,i,q⟩
  |brk=>exact k
  |ret v=>exact k
 |false=>rw[n5 Iz];exact Mc ⟨d,u,x,j⟩
structure It where
 go:Nat->Hp->Prop
 yld:Nat->Hp->V->Hp->Prop
 stop:Nat->Hp->Prop
def oY(X:Cx)(pins:List (d5×d6))(H:Hp)(b:d5):Prop:=H b=a8/\b≠X.env.locals/\b∉X.fs/\(b∈X.ex\/X.s₀.heap.objs.size<=b)/\(∀x c,X.env.cells.lookup x=a7 c->c≠b)/\∀p∈X.pn++pins,p.1≠b
theorem p0.fpOk(I:p0 X pins σ H s)(d:s.heap.objs.size<=b)(f:H' b=a8):oY X pins H' b:=by refine⟨f,Ln<|D6 I.lt d,I.nofs d,.inr<|F6 I.sz d,λx c e z=>?_,λp h z=>?_⟩;obtain⟨v,q⟩:=I.cell x c e;exact n6 (D6 q.lt<|by rw[z];exact d)<|D5 _;exact n6 (D6 (u7 (I.pin p h).1)<|by rw[z];exact d)<|D5 _
structure Turn(P:c9)(w:c8)(K:q9)(tg:ge)(J:It)(fp:List d5)(it:d5)(tn:Nat->d7->Prop):Prop where
 mem:it∈fp
 obj:∀i h,tn i h->∀b∈fp,∃o,h.get? b=a7 o/\∀v,o.data≠.cell v
 keep:∀i h h',tn i h->(∀b∈fp,∀o,h.get? b=a7 o->h'.get? b=a7 o)->tn i h'
 item:∀(X:Cx),X.prog=P->X.w=w->X.K=K->X.calm=a9->∀(i:Nat) (pins:List (d5×d6)) (s:f6) (σ:St) (H:Hp) (E:c6->f6->Prop),p0 X pins σ H s->(∀b∈fp,oY X pins H b)->tn i s.heap->J.go i H ->f9 (g7 P w) X.A (i7<|.ref it) (λr s1=>∃u,r=a7 u /\ f9 (g7 P w) X.A (i8 tg (.ref it) u) (λ_ s2=>∃x H',p0 X pins σ H' s2/\aG x u/\J.yld i H x H'/\tn (i+1) s2.heap/\∀b∈fp,H' b=a8) E s1) E s
 done:∀(X:Cx),X.prog=P->X.w=w->X.K=K->X.calm=a9->∀(i:Nat) (pins:List (d5×d6)) (s:f6) (σ:St) (H:Hp) (E:c6->f6->Prop),p0 X pins σ H s->(∀b∈fp,oY X pins H b)->tn i s.heap->J.stop i H ->f9 (g7 P w) X.A (i7<|.ref it) (λr s1=>r=a8/\p0 X pins σ H s1) E s
 self:∀(A:e9) (i:Nat) (s:f6) (Q:c6->f6->Prop) (E:c6->f6->Prop),tn i s.heap->Q (.ref it) s->f9 (g7 P w) A (i9<|.ref it) Q E s
abbrev TI:=St->Hp->(It->Hp->Prop)->Prop
inductive LU(X:Cx)(pins:List (d5×d6))(σ:St)(tg:ge)(R:It->Hp->Prop)(itv:c6)(s2:f6):Prop
 |mk (it:d5) (fp:List d5) (tn:Nat->d7->Prop) (J:It) (H':Hp) (f0:itv=.ref it) (f1:p0 X pins σ H' s2) (f2:Turn X.prog X.w X.K tg J fp it tn) (f3:tn 0 s2.heap) (f4:(∀b∈fp,oY X pins H' b)) (f5:R J H')
def PI(X:Cx)(g r:ge)(wi:TI):Prop:=∀(p:List (d5×d6)) (s:f6) (σ:St) (H:Hp) (R:It->Hp->Prop),p0 X p σ H s->wi σ H R ->f9 (g7 X.prog X.w) X.A (eval r X.env) (λv f=>f9 (g7 X.prog X.w) X.A (i9 v) (LU X p σ g R) X.xe f) X.xe s
theorem qm(D:s.heap.get? it=a7 o)(f:o.cls=.type n)(d:o.data=.fields vs)(a:["enumerate","zip","dict_itemiterator","dict_reverseitemiterator","odict_iterator","itertools.zip_longest","itertools.pairwise"].contains n=c5) (b:Q () s):f9 M A (i8 tg (.ref it) u) Q E s:=by
 unfold i8;cases tg<;>first
  |exact p4 b
  |(cases u<;>first
    |exact p4 b
    |(refine o8 (wpAny_load D ?_);rw[f,d];show f9 M A (if (["enumerate","zip","dict_itemiterator","dict_reverseitemiterator","odict_iterator","itertools.zip_longest","itertools.pairwise"].contains n&&vs[0]?==a7 (j0 _))=a9 then _ else _) Q E s;rw[n5 (by intro h;rw[a,Bool.false_and]at h;cases h)];exact p4 b))
noncomputable def Nz(K:q9)(a:d5):It:=⟨λi H=>∃xs x,Fn K H a xs/\xs[i]?=a7 x,λi H x H'=>H'=H/\∀xs,Fn K H a xs->xs[i]?=a7 x,λi H=>∃xs,Fn K H a xs/\xs.length<=i⟩
noncomputable def Ny(K:q9)(a:d5):It:=⟨λi H=>∃xs x,x9 K H a xs/\xs[i]?=a7 x,λi H x H'=>H'=H/\∀xs,x9 K H a xs->xs[i]?=a7 x,λi H=>∃xs,x9 K H a xs/\xs.length<=i⟩
noncomputable def Lj(l:Int)(n:Nat):It:=⟨λi _=>i<n,λi H x H'=>H'=H/\x=.int (l+i),λi _=>n<=i⟩
theorem uF{P:c9}{w:c8}{K:q9}{V:ge}(a it:d5):Turn P w K V (Nz K a) [it] it (λi h=>h.IsListIter it a i) where
 mem:=by simp
 obj:=λi h l b g=>by
  have e:b=it:=by simpa using g
  subst e;obtain⟨o,e,c,d⟩:=l;exact⟨o,e,λv z=>by rw[d]at z;cases z⟩
 keep:=λi h h' l k=>l.at λo e=>k it (by simp) o e
 item:=by intro X C D B J i f s σ H E I m l S;subst C D B;obtain⟨xs,x,q,F⟩:=S;obtain⟨its,G,p,R⟩:=I.list q;obtain⟨u,O,T⟩:=G.get F;obtain⟨n,r,N,t,y,A⟩:=m it (by simp);refine wpAny_pyNext_list_item l p.isList (x:=u) (by simpa using O) λh' j U=>?_;have L:p0 X f σ H { s with heap:=h' }:=I.turned (t':=s.toks) (λb o g e=>(U.2 b g).trans e) n r t y A;obtain⟨o,e,c,d⟩:=id j;exact⟨u,rfl,qm (s:={ s with heap:=h' }) e c d (by decide) ⟨x,H,L,T,⟨rfl,λys Q=>by rw[I.list_inj Q q];exact F⟩,j,λb g=>(m b g).1⟩⟩
 done:=by intro X C D B J i f s σ H E I m l S;subst C D B;obtain⟨xs,q,F⟩:=S;obtain⟨its,G,p,R⟩:=I.list q;obtain⟨n,r,N,t,y,A⟩:=m it (by simp);have W:=G.length;exact wpAny_pyNext_list_end (I.ok.hd J) l p.isList (by simp;lia) λh' M=>⟨rfl,I.turned (t':=s.toks) (λb o g e=>M b o g e) n r t y A⟩
 self:=λ_ _ _ _ _ l h=>wpAny_pyIter_listiter l h
theorem sU{P:c9}{w:c8}{K:q9}{V:ge}(a it:d5):Turn P w K V (Ny K a) [it] it (λi h=>h.IsTupleIter it a i) where
 mem:=by simp
 obj:=λi h l b g=>by
  have e:b=it:=by simpa using g
  subst e;obtain⟨o,e,c,d⟩:=l;exact⟨o,e,λv z=>by rw[d]at z;cases z⟩
 keep:=λi h h' l k=>l.at λo e=>k it (by simp) o e
 item:=by intro X C D B J i f s σ H E I m l S;subst C D B;obtain⟨xs,x,q,F⟩:=S;obtain⟨its,G,p,R⟩:=I.tuple q;obtain⟨u,O,T⟩:=G.get F;obtain⟨n,r,N,t,y,A⟩:=m it (by simp);refine wpAny_pyNext_tuple_item l (show s.heap.IsTuple a its.toArray from p) (x:=u) (by simpa using O) λh' j U=>?_;have L:p0 X f σ H { s with heap:=h' }:=I.turned (t':=s.toks) (λb o g e=>(U.2 b g).trans e) n r t y A;obtain⟨o,e,c,d⟩:=id j;exact⟨u,rfl,qm (s:={ s with heap:=h' }) e c d (by decide) ⟨x,H,L,T,⟨rfl,λys Q=>by rw[I.tuple_inj Q q];exact F⟩,j,λb g=>(m b g).1⟩⟩
 done:=by intro X C D B J i f s σ H E I m l S;subst C D B;obtain⟨xs,q,F⟩:=S;obtain⟨its,G,p,R⟩:=I.tuple q;obtain⟨n,r,N,t,y,A⟩:=m it (by simp);have W:=G.length;exact wpAny_pyNext_tuple_end (I.ok.hd J) l (show s.heap.IsTuple a its.toArray from p) (by simp;lia) λh' M=>⟨rfl,I.turned (t':=s.toks) (λb o g e=>M b o g e) n r t y A⟩
 self:=λ_ _ _ _ _ l h=>wpAny_pyIter_tupleiter l h
theorem sV{P:c9}{w:c8}{K:q9}{G:ge}(it:d5)(a:Int)(n:Nat):Turn P w K G (Lj a n) [it] it (λi h=>IsRangeIter h it (a+(i:Nat)*1) ((n:Int)-(i:Nat)) 1) where
 mem:=by simp
 obj:=λi h l b d=>by
  have e:b=it:=by simpa using d
  subst e;exact⟨_,l,λv z=>by have J:Data.fields _=Data.cell v:=z;cases J⟩
 keep:=λi h h' l k=>k it (by simp) _ l
 item:=by intro X C q B m i p s σ H E I f l S;subst C q B;obtain⟨c,r,N,g,y,A⟩:=f it (by simp);have W:=Walks.range (prog:=X.prog) (w:=X.w) (I.ok.hd m) it a 1 n;refine W.item i s _ _ S l λv h' u D j F=>?_;obtain⟨t,rfl⟩:=D;have x:p0 X p σ H { s with heap:=h',toks:=u }:=I.turned (λb o d e=>F b o (by simpa using d) e) c r g y A;refine⟨_,rfl,qm (s:={ s with heap:=h',toks:=u }) (n:="range_iterator") j rfl rfl (by decide) ⟨.int<|a+i,H,x,⟨t,?_⟩,⟨rfl,rfl⟩,j,λb d=>(f b d).1⟩⟩;rw[Int.mul_one]
 done:=by intro X C q B m i p s σ H E I f l S;subst C q B;obtain⟨c,r,N,g,y,A⟩:=f it (by simp);exact wpAny_pyNext_range_end (I.ok.hd m) l (by have:n<=i:=S;lia) λh' M=>⟨rfl,I.turned (t':=s.toks) (λb o d e=>M b o d e) c r g y A⟩
 self:=λ_ _ _ _ _ l h=>wpAny_pyIter_rangeiter l h
theorem rT{pins:List (d5×d6)}{σ:St}{H:Hp}{s:f6}{R:It->Hp->Prop}{E:c6->f6->Prop}{l hi:Int}{t u v:Tok}{tk:Nat}(I:p0 X pins σ H s)(h1:-(2 ^ 62)<=l)(h2:l<2 ^ 62)(h:-(2 ^ 62)<=hi)(d:hi<2 ^ 62)(q:R (Lj l (hi-l).toNat) H):f9 (g7 X.prog X.w) X.A (i9<|.ref s.heap.objs.size) (LU X pins σ tg R) E { s with heap:=s.heap.push { cls:=.type "range",data:=.fields #[.int l t,.int hi u,.int 1 v] },toks:=tk }:=by
 refine wpAny_pyIter_range (IsRange.new ..) (small_one h1 h2 h d) ?_;have a:p0 X pins σ H { s with heap:=s.heap.push { cls:=.type "range",data:=.fields #[.int l t,.int hi u,.int 1 v] },toks:=tk }:=I.kept λb o e=>u4 _ e;refine⟨(s.heap.push { cls:=.type "range",data:=.fields #[.int l t,.int hi u,.int 1 v] }).objs.size,[(s.heap.push { cls:=.type "range",data:=.fields #[.int l t,.int hi u,.int 1 v] }).objs.size],_,_,H,rfl,a.kept (t':=tk) λb o e=>u4 _ e,sV _ l (hi-l).toNat,?_,λb f=>?_,q⟩;have c:l+((0:Nat):Int)*1=l:=by simp
 have m:(((hi-l).toNat:Nat):Int)-((0:Nat):Int)=Builtin.Range.rangeSize l hi 1:=by rw[rangeSize_one];split<;>lia
 show IsRangeIter _ _ (l+((0:Nat):Int)*1) ((((hi-l).toNat:Nat):Int)-((0:Nat):Int)) 1;rw[c,m];exact v8 _ rfl;have e:b=(s.heap.push { cls:=.type "range",data:=.fields #[.int l t,.int hi u,.int 1 v] }).objs.size:=by simpa using f
 subst e;exact a.fpOk (t6 _)<|a.hok.fresh<|t6 _
def Gj(t:TA):TI:=λσ H R=>t σ H λvs a=>∃j:Int,vs=[.int j]/\-(2 ^ 62)<=j/\j<2 ^ 62/\R (Lj 0 j.toNat) a
def iRng2(t:TA):TI:=λσ H R=>t σ H λvs a=>∃i j:Int,vs=[.int i,.int j]/\(-(2 ^ 62)<=i/\i<2 ^ 62/\-(2 ^ 62)<=j/\j<2 ^ 62)/\R (Lj i (j-i).toNat) a
theorem vS{a:ge}{f:TA}{p c:Pos}(S:Gl X "range")(m:X.mg "range" = a8)(i:PA X [a] f)(hs:g9 [a] X.env=[(c5,eval a X.env)]:=by rfl):PI X tg (.Call (.Name "range" p) [a] [] c) (Gj f):=by
 intro b s σ H R I h;refine Call_<|dS I S m boot_range<|LH (u3 (i c b s σ H _ I h) ?_) hs rfl;rintro us u ⟨vs,o,g,l,d⟩;obtain⟨j,e,d,k,q⟩:=d;subst e;cases l with
 |cons r n=>cases n;obtain⟨t,rfl⟩:=r;exact call_range_1<|rT g (by lia) (by lia) d k<|by simpa using q
theorem vR(S:Gl X "range")(m:X.mg "range" = a8)(l:PA X [a,b] ta)(hs:g9 [a,b] X.env=[(c5,eval a X.env),(c5,eval b X.env)]:=by rfl)(c:g9 [b] X.env=[(c5,eval b X.env)]:=by rfl):PI X tg (.Call (.Name "range" p) [a,b] [] pos) (iRng2 ta):=by
 intro d s σ H R I h;refine Call_ (dS I S m boot_range<|LH (u3 (l pos d s σ H _ I h) ?_) (by rw[hs,c])<|by rw[c];rfl);rintro us x ⟨vs,w,k,v,f⟩;obtain⟨i,j,e,⟨f,n,o,u⟩,q⟩:=f;subst e;cases v with
 |cons r g =>
  cases g with
  |cons r' g=>cases g;obtain⟨t,rfl⟩:=r;obtain⟨t',rfl⟩:=r';exact call_range_2<|rT k f n o u q
def tFor(wi:TI)(g:TG)(t:TS):TS:=λD σ H=>wi σ H λJ d=>∃W:Nat->Nat->St->Hp->Prop,(∃m,W 0 m σ d)/\∀i m σ H,W i m σ H ->(J.stop i H/\D.nx σ H)\/(J.go i H/\∃N:St->Hp->Prop,(∀a H',N a H'->∃c,c < m/\W (i+1) c a H')/\∀x H',J.yld i H x H'->g x σ H' λb e=>t { D with nx:=N,ct:=N,bk:=D.nx } b e)
noncomputable def fQ(fp:List d5)(h:d7):List (d5×d6):=fp.filterMap λb=>(h.get? b).map λo=>(b,o)
theorem eJ(d:b∈fp)(e:h.get? b=a7 o):(b,o)∈fQ fp h:=List.mem_filterMap.mpr ⟨b,d,by rw[e];rfl⟩
theorem nR(c:p∈fQ fp h):p.1∈fp/\h.get? p.1=a7 p.2:=by
 obtain⟨b,d,e⟩:=Mp.mp c;cases q:h.get? b with
 |none=>rw[q]at e;cases e
 |some o=>rw[q]at e;have a:(b,o)=p:=A1 e;subst a;exact⟨d,q⟩
theorem p0.pinned(I:p0 X pins σ H s)(f:∀b∈fp,oY X pins H b)(D:∀b∈fp,∃o,s.heap.get? b=a7 o/\∀v,o.data≠.cell v):p0 X (pins++fQ fp s.heap) σ H s:=I.pins_of λp c=>(B7.mp c).elim (λz=>I.pin p<|A8 _ z) λz=>by obtain⟨h,e⟩:=nR z;obtain⟨n,r,N,_⟩:=f p.1 h;obtain⟨o,a,d⟩:=D p.1 h;rw[e]at a;cases a;exact⟨e,n,r,N,d⟩
theorem p0.unpinned(I:p0 X (pins++pl) σ H s):p0 X pins σ H s:=I.pins_of λp h=>I.pin p<|A8 _<|E3 _ h
theorem ES(F:PassesOwn (g7 X.prog X.w) X.A X.env X.xe)(hc:X.calm=a9)(hi:PI X tg iter wi)(hg:PG X tg g)(l:G1 X body tb)(hs:∀x,j1 iter X.env x=pure x:=by intro _;rfl):PS X (.For tg iter body [] pos) (tFor wi g tb):=by
 intro p s σ H D I h;refine wpAny_For (u3 (hi p s σ H _ I h) λv s1 h1=>u3 h1 λai s2 h2=>?_) hs;obtain⟨it,C,tn,J,H2,e,I2,T,U,f2,W,⟨m0,w0⟩,M⟩:=h2;subst e
 -- what stays a9 of the iterator's objects through the loop
 have t:∀{H':Hp},(∀b∈C,H' b=a8)->∀b∈C,oY X p H' b:=λhn b l=>⟨hn b l,(f2 b l).2⟩
 refine codeAny_forLoop_any (λn s'=>∃i q H',p0 X p q H' s'/\tn i s'.heap/\(∀b∈C,H' b=a8)/\W i n q H') ?_ m0 ⟨0,σ,H2,I2,U,λb l=>(f2 b l).1,w0⟩;rintro n s3 ⟨i,y,O,Z,K,E,w3⟩;rcases M i n y O w3 with⟨stop,qn⟩|⟨go,N,hN,L⟩
 refine Ko F<|u3 (T.done X rfl rfl rfl hc i p s3 y O X.xe Z (t E) K stop) ?_;rintro r s4 ⟨R,I4⟩;subst R;exact Mc ⟨y,O,I4,qn⟩
 ·refine Ko F (u3 (T.item X rfl rfl rfl hc i p s3 y O X.xe Z (t E) K go) ?_)
  rintro r s4 ⟨u,R,h4⟩;subst R;refine Ko F<|u3 h4 ?_;rintro _ s5 ⟨x,Y,I5,r5,y5,B,Q⟩;have P:=I5.pinned (t Q)<|T.obj _ _ B;refine Ko F<|u3 (hg _ s5 y Y x u _ P r5<|L x Y y5) ?_;rintro _ s6 ⟨V,H6,I6,q6⟩;refine Ko F<|u3 (l _ s6 V H6 _ I6 q6) λf S z=>?_;have k:∀{a:St}{c:Hp},p0 X (p++fQ C s5.heap) a c S->N a c->∃m,m<n/\∃i q H',p0 X p q H' S/\tn i S.heap/\(∀b∈C,H' b=a8)/\W i m q H':=λ{a c} j G=>by obtain⟨m',hm,w7⟩:=hN a c G;refine⟨m',hm,i+1,a,c,j.unpinned,T.keep _ _ _ B λb l o e=>(j.pin (b,o)<|A8 _<|A8 _<|eJ l e).1,λb l=>?_,w7⟩;obtain⟨o,e,d⟩:=T.obj _ _ B b l;exact(j.pin (b,o)<|A8 _<|A8 _<|eJ l e).2.1
  cases f with
  |next=>obtain⟨a,c,j,G⟩:=z;exact k j G
  |cont=>obtain⟨a,c,j,G⟩:=z;exact k j G
  |brk=>obtain⟨a,c,j,z⟩:=z;exact⟨a,c,j.unpinned,z⟩
  |ret v=>obtain⟨x7,a,c,j,r7,z⟩:=z;exact⟨x7,a,c,j.unpinned,r7,z⟩
abbrev R2:=V->V->Hp->VK->Prop
def A9(X:Cx)(f:c6->c6->Sem c6)(r:R2):Prop:=∀(p:List (d5×d6)) (s:f6) (σ:St) (H:Hp) (x y:V) (v u:c6) (Q:VK),p0 X p σ H s->aG x v->aG y u->r x y H Q ->f9 (g7 X.prog X.w) X.A (f v u) (EP X p σ Q) X.xe s
def LS(X:Cx)(f:c6->Sem c6)(r:V->Hp->VK->Prop):Prop:=∀(p:List (d5×d6)) (s:f6) (σ:St) (H:Hp) (x:V) (v:c6) (Q:VK),p0 X p σ H s->aG x v->r x H Q ->f9 (g7 X.prog X.w) X.A (f v) (EP X p σ Q) X.xe s
def fx(X:Cx)(f:c6)(r:List V->Hp->VK->Prop):Prop:=∀(p:List (d5×d6)) (s:f6) (σ:St) (H:Hp) (xs:List V) (us:List c6) (Q:VK),p0 X p σ H s->ao xs us->r xs H Q ->f9 (g7 X.prog X.w) X.A (call f us) (EP X p σ Q) X.xe s
def K6(r:R2)(t c:TE):TE:=λσ H Q=>t σ H λx a=>c σ a λy b=>r x y b Q
def tUn(r:V->Hp->VK->Prop)(t:TE):TE:=λσ H Q=>t σ H λx a=>r x a Q
def rI(C:Int->Int->Prop)(g:Int->Int->V):R2:=λx y H Q=>∃i j,x=.int i/\y=.int j/\C i j/\Q (g i j) H
def KF(g:Int->Int->V):R2:=λx y H Q=>∃i j,x=.int i/\y=.int j/\Q (g i j) H
def rU(g:Int->V):V->Hp->VK->Prop:=λx H Q=>∃i,x=.int i/\Q (g i) H
theorem binT(d:PE X a ta)(g:PE X b tb){pins:List (d5×d6)}{s:f6}{σ:St}{H:Hp}{R:V->V->Hp->Prop}(I:p0 X pins σ H s)(h:ta σ H λx H1=>tb σ H1 λy H2=>R x y H2) {Q:c6->f6->Prop}{f:c6->c6->Sem c6}(i:∀v u s2 x y H2,p0 X pins σ H2 s2->aG x v->aG y u->R x y H2->f9 (g7 X.prog X.w) X.A (f v u) Q X.xe s2):f9 (g7 X.prog X.w) X.A (eval a X.env) (λv s₁=>f9 (g7 X.prog X.w) X.A (eval b X.env) (λu s₂=>f9 (g7 X.prog X.w) X.A (f v u) Q X.xe s₂) X.xe s₁) X.xe s:=by refine u3 (d pins s σ H _ I h) ?_;rintro v k ⟨x,H1,c,r,q⟩;refine u3 (g pins k σ H1 _ c q) ?_;rintro u s2 ⟨y,H2,e,m,j⟩;exact i v u s2 x y H2 e r m j
theorem pe_op{op:Operator}{r:R2}(D:A9 X (j2 op) r)(f:PE X a ta)(d:PE X b tb):PE X (.BinOp a op b pos) (K6 r ta tb):=by intro p s σ H Q I h;exact wpAny_BinOp<|binT f d I h λv u w x y c e g i q=>D p w σ c x y v u Q e g i q
theorem pe_un(D:LS X (unaryOp op) r)(f:PE X a ta):PE X (.UnaryOp op a pos) (tUn r ta):=by intro p s σ H Q I h;refine UnaryOp_<|u3 (f p s σ H _ I h) ?_;rintro v e ⟨x,b,c,d,q⟩;exact D p e σ b x v Q c d q
theorem K8{f:c6->c6->Sem c6}{C:Int->Int->Prop}{g:Int->Int->Int}(e:∀(i j:Int) (t u:Tok) (s:f6) (Q:c6->f6->Prop) (E:c6->f6->Prop),C i j->Q (.int (g i j) s.toks) { s with toks:=s.toks+1 }->f9 (g7 X.prog X.w) X.A (f (.int i t)<|.int j u) Q E s):A9 X f (rI C λi j=>.int<|g i j):=by intro p s σ H x y v u Q I r a h;obtain⟨i,j,rfl,rfl,c,q⟩:=h;obtain⟨t,rfl⟩:=r;obtain⟨t',rfl⟩:=a;exact e i j t t' s _ _ c ⟨.int<|g i j,H,I.tok _,⟨_,rfl⟩,q⟩
theorem opI0{f:c6->c6->Sem c6}{g:Int->Int->Int}(e:∀(i j:Int) (t u:Tok) (s:f6) (Q:c6->f6->Prop) (E:c6->f6->Prop),Q (.int (g i j) s.toks) { s with toks:=s.toks+1 }->f9 (g7 X.prog X.w) X.A (f (.int i t)<|.int j u) Q E s):A9 X f (KF λi j=>.int<|g i j):=by intro p s σ H x y v u Q I r a h;obtain⟨i,j,rfl,rfl,q⟩:=h;obtain⟨t,rfl⟩:=r;obtain⟨t',rfl⟩:=a;exact e i j t t' s _ _ ⟨.int<|g i j,H,I.tok _,⟨_,rfl⟩,q⟩
theorem opB0{f:c6->c6->Sem c6}{g:Int->Int->Bool}(e:∀(i j:Int) (t u:Tok) (s:f6) (Q:c6->f6->Prop) (E:c6->f6->Prop),Q (.bool<|g i j) s->f9 (g7 X.prog X.w) X.A (f (.int i t)<|.int j u) Q E s):A9 X f (KF λi j=>.bl<|g i j):=by intro p s σ H x y v u Q I r a h;obtain⟨i,j,rfl,rfl,q⟩:=h;obtain⟨t,rfl⟩:=r;obtain⟨t',rfl⟩:=a;exact e i j t t' s _ _ ⟨.bl<|g i j,H,I,rfl,q⟩
def CPow(i j:Int):Prop:=0<=j/\j<=1000000/\i.natAbs<2 ^ 64
def CMul(i j:Int):Prop:=(-(2 ^ 64)<i/\i<2 ^ 64)\/(-(2 ^ 64)<j/\j<2 ^ 64)
theorem CMul.ok(h:CMul i j):IntMulOk i j:=by
 rcases h with⟨h1,h2⟩|⟨h1,h2⟩
 exact .of_left<|intBits_le_64 h1 h2;exact .of_right<|intBits_le_64 h1 h2
theorem Fo:A9 X (j2 .Add) (KF λi j=>.int<|i+j):=opI0 λ_ _ _ _ _ _ _ q=>add_int q
theorem Fh:A9 X (j2 .Sub) (KF λi j=>.int<|i-j):=opI0 λ_ _ _ _ _ _ _ q=>sub_int q
theorem Fk:A9 X (j2 .Mult) (rI CMul λi j=>.int<|i*j):=K8 λ_ _ _ _ _ _ _ f q=>mul_int q f.ok
theorem Fl:A9 X (j2 .Mod) (rI (λ_ j=>0<j) λi j=>.int<|i % j):=K8 λi j _ _ _ _ _ f q=>by have h1:(0:Int)<j:=f;exact mod_int' (by lia)<|by rw[Int.fmod_eq_emod_of_nonneg i<|by lia];exact q
theorem Fj:A9 X (j2 .Pow) (rI CPow λi j=>.int<|i ^ j.toNat):=K8 λ_ _ _ _ _ _ _ f q=>pow_int_small f.1 f.2.1 f.2.2 q
theorem Fi:A9 X (j2 .LShift) (rI CPow λi j=>.int<|i*2 ^ j.toNat):=K8 λ_ _ _ _ _ _ _ f q=>lshift_int_small f.1 f.2.1 f.2.2 q
theorem unI{f:c6->Sem c6}{g:Int->Int}(e:∀(i:Int) (t:Tok) (s:f6) (Q:c6->f6->Prop) (E:c6->f6->Prop),Q (.int (g i) s.toks) { s with toks:=s.toks+1 }->f9 (g7 X.prog X.w) X.A (f<|.int i t) Q E s):LS X f (rU λi=>.int<|g i):=by intro p s σ H x v Q I r h;obtain⟨i,rfl,q⟩:=h;obtain⟨t,rfl⟩:=r;exact e i t s _ _ ⟨.int<|g i,H,I.tok _,⟨_,rfl⟩,q⟩
theorem Ej:LS X (unaryOp .USub) (rU λi=>.int (-i)):=unI λ_ _ _ _ _ q=>neg_int q
theorem op_lt:A9 X (j3 .Lt) (KF λi j=>.bl<|decide<|i<j):=opB0 λ_ _ _ _ _ _ _ q=>lt_int q
theorem op_gt:A9 X (j3 .Gt) (KF λi j=>.bl<|decide<|j<i):=opB0 λ_ _ _ _ _ _ _ q=>gt_int q
theorem A9.or(h:A9 X f r)(h':A9 X f r'):A9 X f (λx y H Q=>r x y H Q\/r' x y H Q):=by intro p s σ H x y v u Q I g i q;rcases q with q|q;exact h p s σ H x y v u Q I g i q;exact h' p s σ H x y v u Q I g i q
theorem BT(D:A9 X (j3 op) r)(f:PE X a ta)(d:PE X b tb)(m:j4 op b=c5):PE X (.Compare a [op] [b] pos) (K6 r ta tb):=by intro p s σ H Q I h;exact wpAny_Compare1 (binT f d I h λv u w x y c e g i q=>D p w σ c x y v u Q e g i q) m
def Es(t:TE):TT:=λσ H Q=>t σ H λx H'=>∃k,x=.bl k/\Q k H'
theorem BI(D:A9 X (j3 op) r)(m:PE X a ta)(n:PE X b tb)(o:j4 op b=c5):PT X (.Compare a [op] [b] pos) (Es<|K6 r ta tb):=by
 intro p s σ H Q I h;refine wpAny_isTrue_Compare1 (u3 (m p s σ H _ I h) λv E ⟨x,d,i,A,q⟩=>u3 (n p E σ d _ i q) λu F ⟨y,f,j,B,t⟩ =>
  u3 (D p F σ f x y v u _ j A B t) λc G ⟨z,g,l,C,k,e,w⟩=>?_) o
 subst e;cases C;exact Lx ⟨g,l,w⟩
theorem kQ:(sizeLine:Nat)<2 ^ 63:=by rw[Ip];decide
theorem tD:A9 X (j2 .Add) (λx y H Q=>∃i j,x=.str i/\y=.str j/\i.length+j.length<=sizeLine/\Q (.str<|i++j) H):=by intro p s σ H x y v u Q I g r h;obtain⟨i,j,rfl,rfl,b,q⟩:=h;obtain⟨t,rfl⟩:=g;obtain⟨t',rfl⟩:=r;exact add_str (λt' k=>⟨.str<|i++j,H,I.tok _,⟨_,rfl⟩,q⟩) b
theorem Bn(r:ao [x] us):∃u,us=[u]/\aG x u:=by
 cases r with
 |cons a m=>cases m;exact⟨_,rfl,a⟩
structure ObjM(h:d7)(x dx C:d5)(mA:c7->Option c6):Prop where
 obj:h.get? x=a7 (PySem.W.instObj C dx)
 ns:h.Ns1 dx mA
 ne:dx≠x
theorem Bc.some_of(r:Bc (a7 v) o):∃u,o=a7 u/\aG v u:=by
 cases o with
 |none=>exact(show False from r).elim
 |some u=>exact⟨u,rfl,r⟩
structure Cls(K:q9)(C:d5):Prop where
 pg:PySem.W.plainGet K C Str.empty=a9
 hd:PySem.W.hasDictIn K C=a9
 po:PySem.W.plainOver K C=a9
 sa:Lr K (.ref C) "__setattr__" = a7 (a7<|.builtin "object.__setattr__")
structure Con(K:q9)(C:d5)(f:c7)(v:V)(u:c6):Prop where
 at_:Lr K (.ref C) f=a7 (a7 u)
 rel:aG v u
 get:PySem.W.specialIn K u "__get__" = a7 a8
 cp:PySem.W.copiedNames.contains f=c5
structure Meth(K:q9)(C:d5)(m:c7)(f:d5):Prop where
 at_:Lr K (.ref C) m=a7 (a7<|.ref f)
 fn:PySem.W.isFn K (.ref f)=a9
 kp:JR K (.ref f)=a9
inductive TyOf(K:q9)(H:Hp):V->c6->Prop where
 |non:TyOf K H .non (.type "NoneType")
 |bl (x:Bool):TyOf K H (.bl x) (.type "bool")
 |int (i:Int):TyOf K H (.int i) (.type "int")
 |str (x:c7):TyOf K H (.str x) (.type "str")
 |flt (x:UInt64):TyOf K H (.flt x) (.type "float")
 |lst {a:d5}{xs:List V} (e:H a=a7 (.lst xs)):TyOf K H (.ref a) (.type "list")
 |frz {a:d5}{o:d6}{xs:List V} (e:H a=a7 (.frz o (.lst xs))):TyOf K H (.ref a) (.type "list")
 |tup {a:d5}{xs:List V} (e:H a=a7 (.tup xs)):TyOf K H (.ref a) (.type "tuple")
 |dK {a:d5}{kvs:List (B8×V)} (e:H a=a7 (.dK kvs)):TyOf K H (.ref a) (.type "dict")
 |dT {a:d5}{kvs:List (List B8×V)} (e:H a=a7 (.dT kvs)):TyOf K H (.ref a) (.type "dict")
 |ins {a C dx:d5}{fs:List (c7×V)} (e:H a=a7 (.ins C dx fs)) (cl:Cls K C) (ha:Lr K (.ref C) "__class__" = a7 (a7 (.builtin "object.__class__")))
   (hn:PySem.W.specialIn K (.builtin "object.__class__") "__get__" = a7 (a7<|.builtin "getset_descriptor.__get__")) (htk:PySem.W.takesIn K (.builtin "object.__class__")=a7 a9)
   (hm:PySem.W.mroIn K C (.type "object")=a7 a9):TyOf K H (.ref a) (.ref C)
structure Room(k:Nat)(A:e9):Prop where
 hd:A.handled=a8
 dp:A.depth+3*k+5<recursionLimit
 un:A.units+16*k+200<j5
theorem Room.mono(r:Room k A)(h:j<=k):Room j A:=⟨r.hd,by have:=r.dp;lia,by have:=r.un;lia⟩
theorem Room.deeper(r:Room (k+1) A)(env:Env):Room k (A.deeper env):=⟨r.hd,by have:=r.dp;show A.depth+1+3*k+5<_;lia,by have:=r.un;show A.units+3+16*k+200<_;lia⟩
theorem Room.in1(r:Room (k+1) A):Room k A.in1:=⟨r.hd,by have:=r.dp;show A.depth+3*k+5<_;lia,by have:=r.un;show A.units+1+16*k+200<_;lia⟩
theorem Room.depth(r:Room k A):A.depth<recursionLimit:=by have:=r.dp;lia
def tNil:TA:=λ_ H Q=>Q [] H
def tCons(t:TE)(r:TA):TA:=λσ H Q=>t σ H λx a=>r σ a λxs b=>Q (x::xs) b
theorem Fg:PA X [] tNil:=λ_ _ _ _ H Q I h=>Mh ⟨[],H,I,.nil,h⟩
theorem BW(g:PE X e te)(i:PA X es t)(hs:g9 (e::es) X.env=(c5,eval e X.env)::g9 es X.env:=by rfl):PA X (e::es) (tCons te t):=by intro a p s σ H Q I h;rw[hs];show f9 _ _ (spliced<|(c5,eval e X.env)::g8 a (g9 es X.env)) _ _ s;refine Mo<|u3 (g p s σ H _ I h) ?_;rintro u k ⟨x,b,d,r,q⟩;refine u3 (i a p k σ b _ d q) ?_;rintro us w ⟨xs,c,f,m,j⟩;exact⟨x::xs,c,f,.cons r m,j⟩
def tTup(t:TA):TE:=λσ H Q=>t σ H λxs a=>xs.length<=sizeLine/\∀p,a p=a8->Q (.ref p) (t8 a p<|.tup xs)
def tLst(t:TA):TE:=λσ H Q=>t σ H λxs a=>xs.length<=sizeLine/\∀p,a p=a8->Q (.ref p) (t8 a p<|.lst xs)
theorem EX{x1}(h:PA X es t):PE X (.Tuple es x1 pos) (tTup t):=by intro p s σ H Q I g;refine wpAny_Tuple_spliced<|u3 (h pos p s σ H _ I g) λus f ⟨xs,a,c,r,z,q⟩=>⟨by rw[<-r.length];exact z,?_⟩;have d:a f.heap.objs.size=a8:=c.hok.fresh<|t6 _;refine⟨.ref f.heap.objs.size,t8 a f.heap.objs.size<|.tup xs,c.laid (t':=f.toks) (λb u e=>u4 _ e) (t6 _) ?_,rfl,q _ d⟩;exact⟨z,us,r,⟨_,v8 _ rfl,rfl,⟨_,rfl⟩,rfl⟩⟩
theorem Fb(h:PA X es t):PE X (.List es pos) (tLst t):=by intro p s σ H Q I g;refine wpAny_List_spliced<|u3 (h pos p s σ H _ I g) λus f ⟨xs,a,c,r,z,q⟩=>⟨by rw[<-r.length];exact z,?_⟩;have d:a f.heap.objs.size=a8:=c.hok.fresh<|t6 _;refine⟨.ref f.heap.objs.size,t8 a f.heap.objs.size<|.lst xs,c.laid (t':=f.toks) (λb u e=>u4 _ e) (t6 _) ?_,rfl,q _ d⟩;exact⟨z,us,0,r,v8 _ rfl⟩
abbrev Sp:=List V->Hp->VK->XK->Prop
abbrev JJ:=List Env->Hp->f6->XK->c6->f6->Prop
structure Env0(P:c9)(w:c8)(K:q9)(mg:c7->Option c6)(base:d7)(A:e9)(outer:List Env)(s:f6)(H:Hp):Prop where
 frames:A.frames=a7 outer
 mod:Mod K mg base
 bs:∀b o,base.get? b=a7 o->s.heap.get? b=a7 o/\H b=a8
 bsz:base.objs.size<=s.heap.objs.size
 funs:s.heap.FunFrames base outer
 frf:∀b∈G0 outer,H b=a8
 hok:B9 P w H s.heap
 bare:f8 s.gens
inductive CE(outer:List Env)(P:c9)(w:c8)(H:Hp)(s:f6)(Q:VK)(u:c6)(s':f6):Prop
 |mk (v:_) (H':_) (f0:s'.os=s.os) (f1:f8 s'.gens) (f2:Un (G0 outer) [] H H' s.heap s'.heap) (f3:B9 P w H' s'.heap) (f4:aG v u) (f5:Q v H')
def CR(CX:JJ)(o:List Env)(P:c9)(w:c8)(H:Hp)(s:f6)(Q:VK)(E:XK)(r:Result)(s':f6):Prop:=match r with
 |.ok (.ret u)=>CE o P w H s Q u s'
 |.ok _=>False
 |.error e=>CX o H s E e s'
structure FnOk(P:c9)(w:c8)(K:q9)(mg:c7->Option c6)(base:d7)(CX:JJ)(k:Nat)(f:d5)(fd:j6)(ps:List c7)(sp:Sp):Prop where
 len:∀vs H Q E,sp vs H Q E->vs.length=ps.length
 run:∀(A:e9) (outer:List Env) (s:f6) (H:Hp) (args:Args) (us:List c6) (vs:List V) (Q:VK) (E:XK),Room k A->Env0 P w K mg base A outer s H->BindsTo s fd args (ps.zip us)->ao vs us->sp vs H Q E ->j7 (g7 P w) A (.call (.ref f) args) (CR CX outer P w H s Q E) s
theorem Env0.in1{P:c9}{w:c8}{K:q9}{mg:c7->Option c6}{base:d7}{A:e9}{o:List Env}{s:f6}{H:Hp}(e:Env0 P w K mg base A o s H):Env0 P w K mg base A.in1 o s H:=⟨e.frames,e.mod,e.bs,e.bsz,e.funs,e.frf,e.hok,e.bare⟩
theorem p0.env0(I:p0 X pins σ H s):Env0 X.prog X.w X.K X.mg X.base X.A X.stack s H:=⟨I.ok.frames,I.ok.mod,I.bs,F6 I.ok.bsz I.sz,I.stack,I.stkFree,I.hok,I.bare⟩
theorem p0.after(I:p0 X pins σ H s)(h:CE X.stack X.prog X.w H s Q u s'):EP X pins σ Q u s':=by obtain⟨v,H',c,e,n,K,r,q⟩:=h;obtain⟨a,g,d,t,o⟩:=s';obtain rfl:o=s.os:=c;exact⟨v,H',I.call (h':=a) (g':=g) (d':=d) (t':=t) (ch:=[]) n K e (λb z=>n6 z<|by simp),r,q⟩
def Eu(sp:Sp)(s:List V)(E:XK)(t:TA):TE:=λσ H Q=>t σ H λvs a=>sp (vs++s) a Q E
def oZ(K:q9)(d:j6)(ps:List c7)(ds:List c6):Prop:=∀(s:f6) (us:List c6),K.In s.heap->(us++ds).length=ps.length->BindsTo s d ⟨us,[]⟩ (ps.zip<|us++ds)
theorem oZ.all{K:q9}{d:j6}{ps:List c7}(h:∀us:List c6,us.length=ps.length->bindArgs d ⟨us,[]⟩=pure (ps.zip us)):oZ K d ps []:=λs us _ g=>by rw[Ir]at g ⊢;exact .of_eq<|h us g
def xZ(CX:JJ)(X:Cx)(E:XK):Prop:=∀(p:List (d5×d6)) (σ:St) (H:Hp) (s:f6) (e:c6) (s':f6),p0 X p σ H s->CX X.stack H s E e s'->X.xe e s'
theorem ED(F:FnOk X.prog X.w X.K X.mg X.base CX k f fd ps sp)(i:Room k X.A)(d:oZ X.K fd ps ds)(a:ao dvs ds)(x:xZ CX X E)(I:p0 X pins σ H s) (r:ao vs us) (h:sp (vs++dvs) H Q E):f9 (g7 X.prog X.w) X.A (call (.ref f) us) (EP X pins σ Q) X.xe s:=by
 have m:ao (vs++dvs) (us++ds):=r.append a;have g:(us++ds).length=ps.length:=by rw[<-m.length];exact F.len _ _ _ _ h
 refine wpAny_call<|Kg (F.run X.A X.stack s H ⟨us,[]⟩ (us++ds) (vs++dvs) Q E i I.env0 (d s us I.kIn g) m h) λr s' q=>?_;cases r with
 |error e=>exact x pins σ H s e s' I q
 |ok l =>
  cases l with
  |ret u=>exact I.after q
  |next=>exact Ja q
  |brk=>exact Ja q
  |cont=>exact Ja q
theorem BU(F:FnOk X.prog X.w X.K X.mg X.base CX k f fd ps sp)(o:Room k X.A)(S:Gl X x)(n:X.mg x=a7 (.ref f))(m:JR X.K (.ref f)=a9)(g:oZ X.K fd ps ds)(i:ao dvs ds)(u:xZ CX X E)(d:PA X (e::es) t) (b:(x==("__debug__":c7))=c5:=by decide) (j:g9 (e::es) X.env=(c5,eval e X.env)::g9 es X.env:=by rfl) (l:(g8 pos<|g9 es X.env).any (·.1)=c5:=by rfl):PE X (.Call (.Name x p) (e::es) [] pos) (Eu sp dvs E t):=by intro a s σ H Q I h;refine Kw<|Cw I S n ?_ b;refine PySem.W.callWith_K (h₀:=X.base) I.ok.mod.kin m (u3 (d pos a s σ H _ I h) λus y ⟨vs,v,c,r,q⟩=>⟨c.kIn,?_⟩) j l;exact ED F o g i u c r q
structure Mk(K:q9)(C f:d5):Prop where
 makes:PySem.W.makesIn K C=a9
 init:Lr K (.ref C) "__init__" = a7 (a7<|.ref f)
 fn:PySem.W.isFn K (.ref f)=a9
 kp:JR K (.ref C)=a9
structure KBinds(K:q9)(fd:j6)(ps ks:List c7)(g:List c6->List c6->List c6)(gV:List V->List V->List V):Prop where
 to:∀(s:f6) (us ws:List c6),K.In s.heap->(g us ws).length=ps.length->BindsTo s fd ⟨us,ks.zip ws⟩ (ps.zip<|g us ws)
 rel:∀{vs:List V}{us:List c6}{zs:List V}{ws:List c6},ao vs us->ao zs ws->ao (gV vs zs) (g us ws)
structure FnScope(N P:List c7)(sc:f7):Prop where
 kind:sc.kind=.function
 co:sc.isCoroutine=c5
 gen:sc.isGenerator=c5
 nd:N.Nodup
 pre:N.take P.length=P
 par:∀x∈P,sc.names.lookup x=a7 .local\/sc.names.lookup x=a7 .cell
 nofree:∀y∈sc.names,y.2≠.free
theorem oQ{kindOf:c7->Option j8}{x:c7}:∀{binds:List (c7×c6)}{m:c7->Option c6},(∀v,(x,v)∉binds)->bindL kindOf binds m x=m x
 | [],_,_=>rfl
 |(n,v)::r,m,h=>by
  unfold bindL;rw[oQ λw hw=>h w<|w6 _ hw];split;have:x≠n:=by rintro rfl;exact h v z0
  simp[this];rfl
theorem oS{kindOf:c7->Option j8}{x:c7}:∀{binds:List (c7×c6)}{m:c7->Option c6},(∀v,(x,v)∉binds)->bindC kindOf binds m x=m x
 | [],_,_=>rfl
 |(n,v)::r,m,h=>by
  unfold bindC;rw[oS λw hw=>h w<|w6 _ hw];split;rfl;have:x≠n:=by rintro rfl;exact h v z0
  simp[this]
theorem oR{kindOf:c7->Option j8}{x:c7}{v:c6}:∀{P:List c7}{vs:List c6}{i:Nat}{m:c7->Option c6},P.Nodup->P[i]?=a7 x->vs[i]?=a7 v->kindOf x=a7 .local ->bindL kindOf (P.zip vs) m x=a7 v
 | [],_,_,_,_,h,_,_=>by simp at h
 |_::_,[],_,_,_,_,h,_=>by simp at h
 |p::P,w::vs,0,m,nd,h1,h2,hk=>by simp at h1 h2;subst h1;subst h2;show bindL kindOf ((p,w)::P.zip vs) m p=_;unfold bindL;rw[oQ λv hv=>(HR.mp nd).1 (Mb hv).1,m9 hk];simp
 |p::P,w::vs,i+1,m,nd,h1,h2,hk=>by show bindL kindOf ((p,w)::P.zip vs) m x=_;unfold bindL;exact oR (i:=i) (HR.mp nd).2 (by simpa using h1) (by simpa using h2) hk
theorem oU{kindOf:c7->Option j8}{x:c7}{v:c6}:∀{P:List c7}{vs:List c6}{i:Nat}{m:c7->Option c6},P.Nodup->P[i]?=a7 x->vs[i]?=a7 v->kindOf x≠a7 .local ->bindC kindOf (P.zip vs) m x=a7 v
 | [],_,_,_,_,h,_,_=>by simp at h
 |_::_,[],_,_,_,_,h,_=>by simp at h
 |p::P,w::vs,0,m,nd,h1,h2,hk=>by simp at h1 h2;subst h1;subst h2;show bindC kindOf ((p,w)::P.zip vs) m p=_;unfold bindC;rw[oS λv hv=>(HR.mp nd).1 (Mb hv).1,n5 hk];simp
 |p::P,w::vs,i+1,m,nd,h1,h2,hk=>by show bindC kindOf ((p,w)::P.zip vs) m x=_;unfold bindC;exact oU (i:=i) (HR.mp nd).2 (by simpa using h1) (by simpa using h2) hk
noncomputable def start(N:List c7)(vs:List V):St:=vs.map a7++Lq (N.length-vs.length) a8
noncomputable def oK(CX:JJ)(P:c9)(w:c8)(K:q9)(mg:c7->Option c6)(base:d7)(N:List c7)(l:c7)(scope:f7)(f:d5)(d:c6)(A:e9)(outer:List Env)(s:f6)(H:Hp)(E:XK):Cx where
 prog:=P
 w:=w
 K:=K
 mg:=mg
 base:=base
 A:=A.deeper<|j9 l scope s.heap.objs.size f d
 N:=N
 s₀:=s
 H₀:=H
 env:=j9 l scope s.heap.objs.size f d
 outer:=outer
 stack:=j9 l scope s.heap.objs.size f d::outer
 ex:=[]
 calm:=a9
 fn:=λ_=>a9
 pn:=[]
 xe:=λe s'=>f9 (g7 P w) (A.deeper<|j9 l scope s.heap.objs.size f d) (leaving (j9 l scope s.heap.objs.size f d) e) (λ_ a=>CX outer H s E e a) (λb a=>CX outer H s E b a) s'
theorem sF{s:f7}{n:Nat}{x:c7}(h:s.names.lookup x=a7 .cell):∃c,(cellsFrom n s.names []).lookup x=a7 c:=by have q:=Ni s.names n []<|.inl h;exact Np.mp q
theorem ou{CX:JJ}{P:c9}{w:c8}{K:q9}{mg:c7->Option c6}{base:d7}{N ps:List c7}{l:c7}{scope:f7}{f:d5}{t:c6}{A:e9}{o:List Env}{s D:f6}{H:Hp}{E:XK}{us:List c6}{vs:List V}(S:FnScope N ps scope) (G:A.handled=a8) (d:Env0 P w K mg base A o s H) (M:vs.length=ps.length) (r:ao vs us)(x:InCallC s s.heap.objs.size (bindL (j9 l scope s.heap.objs.size f t).kindOf (ps.zip us) λ_=>a8) (cellsFrom (s.heap.objs.size+1) scope.names []) (bindC (j9 l scope s.heap.objs.size f t).kindOf (ps.zip us) λ_=>a8) D):p0 (oK CX P w K mg base N l scope f t A o s H E) [] (start N vs) H D:=by
 have I:ps.length<=N.length:=by have:=o6 Hy S.pre;rw[HU]at this;lia
 obtain⟨h1,O,rfl,B⟩:=x.done;have g:∀b:d5,b∉(oK CX P w K mg base N l scope f t A o s H E).ex:=λb z=>n6 (show b∈([]:List d5)from z) (by simp);refine⟨⟨d.mod,S.kind,rfl,rfl,t6 _,λy z c h1 h2=>?_,λy Q=>?_,λy c _ h=>?_,λ_=>G,Around.frames_deeper d.frames,.inr ⟨rfl,rfl⟩,λb z=>n6 z<|g b,d.bs,d.bsz,λb _ _=>g b,λb z=>n6 z<|g b,d.funs,d.frf⟩,rfl,d.bare,Un.kept B,⟨_,x.toInCall.ns,λi y v h1 h2 L=>?_⟩,λy c h=>⟨_,x.cell y c h⟩,d.hok.fresh<|t6 _,λy c h=>?_,λp j=>n6 (show p∈([]:List (d5×d6))from j) (by simp),d.hok.kept B,?_⟩;exact name_of_addr x.apart (JB h1)<|JB h2;have Q:scope.names.lookup y=a7 .cell\/scope.names.lookup y=a7 .free:=Q;rcases Q with Q|Q;exact sF Q;exact n6 rfl<|S.nofree _<|JB Q;exact Jj<|x.above y c<|JB h;have hi:i<vs.length:=by unfold start at h2;by_cases hi:i<vs.length;exact hi;rw[IB<|by simpa using hi]at h2;rw[My]at h2;split at h2<;>cases h2
 have F:vs[i]?=a7 v:=by
  unfold start at h2;rw[G6 (by simpa using hi),C2]at h2;cases e:vs[i]? with
  |none=>rw[e]at h2;cases h2
  |some a=>rw[e]at h2;cases h2;rfl
 obtain⟨u,C,J⟩:=r.get F;have j:ps[i]?=a7 y:=by rw[<-S.pre,KA<|by lia];exact h1
 have m:ps.Nodup:=by rw[<-S.pre];exact S.nd.sublist<|List.take_sublist _ _
 refine⟨u,J,?_⟩;rcases S.par y (Hu j)with k|k;exact .inl ⟨k,oR m j C k⟩;obtain⟨c,e⟩:=sF (n:=s.heap.objs.size+1) k;refine .inr ⟨.inl k,c,e,?_⟩;have q:=x.cell y c e;rw[oU m j C<|by show scope.names.lookup y≠_;rw[k];decide]at q;exact q;exact d.hok.fresh<|Jj<|x.above y c<|JB h;unfold start;show _=N.length;rw[v4,t7,Mu];lia
theorem GD{CX:JJ}{P:c9}{w:c8}{K:q9}{mg:c7->Option c6}{base:d7}{k:Nat}{f:d5}{name l:c7}{p:Arguments}{a:List h8}{scope:f7}{T kV i U c R oc:c6}{M od:Option d5}{G:Array (Option c6)}{N ps:List c7}{sp:Sp} (lk:K.lookup f=a7 ⟨oc,od,.func<|Ju name l p a scope T kV i U M c R,G⟩) (C:L5 K c l=a9) (S:FnScope N ps scope)(B:∀vs H Q E,sp vs H Q E->vs.length=ps.length)(h:∀(A:e9) (outer:List Env) (s:f6) (H:Hp) (vs:List V) (Q:VK) (E:XK),Room k (A.deeper<|j9 l scope s.heap.objs.size f c)->sp vs H Q E -> ∃t,G1 (oK CX P w K mg base N l scope f c A outer s H E) a t/\t { nx:=λ_ H'=>Q .non H',rt:=Q } (start N vs) H):FnOk P w K mg base CX (k+1) f (Ju name l p a scope T kV i U M c R) ps sp:=by
 refine⟨B,λA outer s H O us vs Q E D j hb r z=>?_⟩;have hl:=B _ _ _ _ z;have X:K.In s.heap:=j.mod.kin.keeps λb o e=>(j.bs b o e).1;have F:s.heap.NoLimit:=j.mod.nolimit.keeps λb o e=>(j.bs b o e).1;have g:∀y∈ps.zip us,scope.names.lookup y.1=a7 .local\/(scope.names.lookup y.1=a7 .cell/\((cellsFrom (s.heap.objs.size+1) scope.names []).lookup y.1).isSome=a9):=λ⟨n,v⟩ hy=>by rcases S.par n (Mb hy).1 with q|q;exact .inl q;exact .inr ⟨q,Ni _ _ _<|.inl q⟩
 refine codeAny_call_function D.depth (X _ _ lk) rfl S.co S.gen rfl (PySem.W.codeRec_of X C)<|hb _ _ _ _ ?_;refine wpAny_newFunctionEnv_cells S.kind g λenv he Y x=>?_;subst he;refine⟨F.keeps x.toInCall.keep,codeAny_func ?_⟩;obtain⟨t,ht,hq⟩:=h A outer s H vs Q E (D.deeper _) z;have I:p0 (oK CX P w K mg base N l scope f c A outer s H E) [] (start N vs) H Y:=ou S D.hd j hl r x;refine D4 (ht [] Y (start N vs) H _ I hq) (λZ s' hs=>?_) λe s' hs=>hs;have m:∀{d:St}{H':Hp}{v:V}{u:c6},p0 (oK CX P w K mg base N l scope f c A outer s H E) [] d H' s'->aG v u->Q v H'->CE outer P w H s Q u s':=λ{d H' v u} J L q=>⟨v,H',J.os,J.bare,J.base,J.hok,L,q⟩
 cases Z with
 |ret u=>obtain⟨v,d,H',J,L,q⟩:=hs;exact m J L q
 |next=>obtain⟨d,H',J,q⟩:=hs;exact m (v:=V.non) (u:=ABJ) J rfl q
 |brk=>obtain⟨_,_,_,q⟩:=hs;exact Ja q
 |cont=>obtain⟨_,_,_,q⟩:=hs;exact Ja q
def ML(r:List V->Hp->VK->Prop)(t:TA):TE:=λσ H Q=>t σ H λvs a=>r vs a Q
theorem yV{X:Cx}{x:c7}{p b:Pos}{e:ge}{es:List ge}{t:TA}{id:String}{r:List V->Hp->VK->Prop}(i:fx X (.builtin id) r)(S:Gl X x)(m:X.mg x=a8)(v:e8 x=a7 (.builtin id))(g:PA X (e::es) t)(n:x≠"__name__":=by decide)(c:(x==("__debug__":c7))=c5:=by decide)(j:g9 (e::es) X.env=(c5,eval e X.env)::g9 es X.env:=by rfl) (l:(g8 b<|g9 es X.env).any (·.1)=c5:=by rfl):PE X (.Call (.Name x p) (e::es) [] b) (ML r t):=by intro a s σ H Q I h;refine Kw<|dS I S m v ?_ n c;exact PyProof.Rows.callWith_builtin1 (u3 (g b a s σ H _ I h) λus o ⟨vs,d,f,k,q⟩=>i a o σ d vs us Q f k q) j l
theorem vU(g:fx X (.type T) r)(S:Gl X x)(m:X.mg x=a8)(v:e8 x=a7 (.type T))(f:PA X (e::es) t)(n:x≠"__name__":=by decide)(b:(x==("__debug__":c7))=c5:=by decide)(i:g9 (e::es) X.env=(c5,eval e X.env)::g9 es X.env:=by rfl) (l:(g8 pos<|g9 es X.env).any (·.1)=c5:=by rfl):PE X (.Call (.Name x p) (e::es) [] pos) (ML r t):=by intro a s σ H Q I h;refine Kw<|dS I S m v ?_ n b;exact LH (u3 (f pos a s σ H _ I h) λus k ⟨vs,c,d,j,q⟩=>g a k σ c vs us Q d j q) i l
end L2
namespace HT
open PySem PyProof.Rows
theorem rcLt_int(A:e9)(s:f6)(a:Int)(t:Tok)(c:Int)(u:Tok)(prog:c9)(w:c8)(E:c6->f6->Prop)(Q:c6->f6->Prop)(h:Q (.bool<|decide<|a<c) s):f9 (g7 prog w) A (richCompare .Lt (.int a t)<|.int c u) Q E s:=(PyProof.Rows.lt_int h:f9 (g7 prog w) A (j3 .Lt (.int a t)<|.int c u) Q E s)
theorem cat_tup(r:IsTup s.heap t vs.toArray)(q:IsTup s.heap b ws.toArray)(v:vs≠[])(h1:ws=[]->Q (.ref t) s) (h2:ws≠[]->Q (.ref s.heap.objs.size) { s with heap:=s.heap.push { cls:=.type "tuple",data:=.seq (vs++ws).toArray } })(z:vs.length+ws.length<=sizeLine):f9 (g7 prog w) A (j2 .Add (.ref t)<|.ref b) Q E s:=by
 obtain⟨⟨cls,k,data,p⟩,D,l,n,m⟩:=id r;obtain⟨⟨j,d,i,f⟩,h,a,o,c⟩:=id q;simp only at l m a c;subst l m a c;have e:vs.toArray++ws.toArray=(vs++ws).toArray:=by simp
 by_cases g:ws=[]
 exact concat_meets ⟨_,D,rfl⟩ ⟨_,h,rfl⟩ noFill_tuple_add seq_tuple_add Nh Nl (No _ _) (tuple_addW1 t b vs.toArray ws.toArray n o k d p f (by simpa using v)<|by simp[g]) ⟨D,h,h1 g⟩;refine concat_meets ⟨_,D,rfl⟩ ⟨_,h,rfl⟩ noFill_tuple_add seq_tuple_add Nh Nl (No _ _) (tuple_addW2 t b vs.toArray ws.toArray n o k d p f (by simpa using v) (by simpa using g)<|by rw[v6,v6];exact z) ⟨D,h,?_⟩;rw[e];exact h2 g
noncomputable def sIx(n d:Nat):Option Int->Nat
 |none=>d
 |some v=>if v<0 then(v+(n:Int)).toNat else min v.toNat n
theorem EB(n d:Nat)(h:d<=n)(o:Option Int):sIx n d o<=n:=by
 cases o with
 |none=>exact h
 |some v=>show (if v<0 then(v+(n:Int)).toNat else min v.toNat n)<=n;by_cases c:v<0;rw[m9 c];lia;rw[n5 c];exact Nat.min_le_right _ _
theorem xM(v:Int)(n d:Nat):(if v<0 then max (v+(n:Int)) 0 else min v (n:Int))=((sIx n d (a7 v):Nat):Int):=by
 show (if v<0 then max (v+(n:Int)) 0 else min v (n:Int))=(((if v<0 then(v+(n:Int)).toNat else min v.toNat n):Nat):Int)
 by_cases c:v<0;simp only[m9 c];lia;simp only[n5 c];lia
theorem ur(l hi:Option Int)(n:Nat):Nr l hi 1 (n:Int)=(((sIx n 0 l:Nat):Int),((sIx n n hi:Nat):Int)):=by
 have h1:¬((1:Int)<0):=by lia
 unfold Nr;simp only[h1,o4];refine Prod.ext ?_ ?_;cases l with
 |none=>rfl
 |some v=>exact xM v n 0
 cases hi with
 |none=>rfl
 |some v=>exact xM v n n
theorem tx(i j:Nat):MD (i:Int) (j:Int) 1=j-i:=by
 unfold MD;have h1:(1:Int) > 0:=by lia
 simp only[h1,o5,Int.ediv_one];split<;>lia
theorem kK(p:k4 v o)(h:Q o s):f9 (g7 prog w) A (Builtin.Slice.slicePartIndex v) Q E s:=by
 cases p with
 |none=>exact slicePart_none h
 |int i t=>exact slicePart_int h
theorem dn{m:d5}{v u:c6}{l hi:Option Int}{n:Nat}{Q:Int×Int×Nat->f6->Prop}(hs:s.heap.IsSliceOf m v u .none)(p:k4 v l)(d:k4 u hi)(h:Q (((sIx n 0 l:Nat):Int),1,sIx n n hi-sIx n 0 l) s):f9 (g7 prog w) A (NB (.ref m)<|pure (n:Int)) Q E s:=by obtain⟨o,b,c,a⟩:=id hs;unfold NB Builtin.Slice.sliceFields;refine o8<|o8<|HP b a (x:=v) rfl<|o8<|HP b a (x:=u) rfl<|o8<|HP b a (x:=.none) rfl<|p4 ?_;refine o8<|slicePart_none ?_;show f9 _ _ (if ((1:Int)==0)=a9 then _ else _) _ _ s;rw[n5<|by decide];refine o8<|kK p<|o8<|kK d<|o8<|p4 ?_;show f9 _ _ (match Nr l hi 1 (n:Int)with|(l,hi)=>pure (l,(1:Int),MD l hi 1)) _ _ s;rw[ur l hi n];show f9 _ _ (pure (((sIx n 0 l:Nat):Int),(1:Int),MD ((sIx n 0 l:Nat):Int) ((sIx n n hi:Nat):Int) 1)) _ _ s;rw[tx];exact p4 h
theorem yR(xs:Array c6)(i k:Nat):((A7 k).filterMap λ(m:Nat)=>xs[((i:Int)+(m:Int)*1).toNat]?).toArray=((xs.toList.drop i).take k).toArray:=by
 have e:(λ(m:Nat)=>xs[((i:Int)+(m:Int)*1).toNat]?)=λm=>xs[i+m]?:=by
  funext m;have:((i:Int)+(m:Int)*1).toNat=i+m:=by lia
  rw[this]
 rw[e];have:=pick_run xs i k;rw[List.filterMap_map]at this;have a:((λx=>xs[x]?) ∘ λx=>i+x)=λm=>xs[i+m]?:=rfl;rw[a]at this;rw[this]
theorem getItem_tuple_cut{t f:d5}{i:Array c6}{v u:c6}{l hi:Option Int}{Q:c6->f6->Prop}(a:IsTup s.heap t i)(hs:s.heap.IsSliceOf f v u .none)(p:k4 v l)(n:k4 u hi)(j:¬(sIx i.size 0 l=0/\sIx i.size i.size hi=i.size))(h:Q (.ref s.heap.objs.size) { s with heap:=s.heap.push { cls:=.type "tuple",data:=.seq ((i.toList.drop<|sIx i.size 0 l).take<|sIx i.size i.size hi-sIx i.size 0 l).toArray } })(z:i.size<=sizeLine):f9 (g7 prog w) A (k5 (.ref t)<|.ref f) Q E s:=by
 have e:sizeOk (.seq ((i.toList.drop<|sIx i.size 0 l).take<|sIx i.size i.size hi-sIx i.size 0 l).toArray):=by show ((i.toList.drop<|sIx i.size 0 l).take<|sIx i.size i.size hi-sIx i.size 0 l).toArray.size<=sizeLine;rw[v6,HU,Jy,C3];lia
 have L:sIx i.size i.size hi<=i.size:=EB _ _ (t6 _) hi;obtain⟨k,d,c,g⟩:=id hs;have b:s.TypeIs (.ref f) "slice":=⟨k,d,c⟩
 unfold k5
 try with_reducible refine C9 ?_
 first|refine o8 (p4 ?_)|skip
 refine o8<|wpAny_sequenceKey a.typeIs (by decide) ?_;refine o8<|Ih (name:=AA1 "__getitem__") a.typeIs K5<|E8 K5 a.typeIs entry_tuple_getitem ?_<|args_tuple_getitem _ _;show f9 _ _ (ME (.ref t) >>= _) _ _ s;refine o8<|tupleItemsOf_ a ?_;refine o8<|Jt b ?_;rw[m9<|by decide];refine o8<|dn hs p n ?_;have o:¬((((sIx i.size 0 l:Nat):Int)==0&&(1:Int)==1&&(sIx i.size i.size hi-sIx i.size 0 l)==i.size)=a9):=by intro q;rw[C5,C5]at q;have r:((sIx i.size 0 l:Nat):Int)=0:=eq_of_beq q.1.1;have x:sIx i.size i.size hi-sIx i.size 0 l=i.size:=eq_of_beq q.2;exact j ⟨by lia,by lia⟩
 show f9 _ _ (if (((sIx i.size 0 l:Nat):Int)==0&&(1:Int)==1&&(sIx i.size i.size hi-sIx i.size 0 l)==i.size)=a9 then _ else _) _ _ s;rw[n5 o,yR]
 first
  |exact o8 (m:=MB _) (F8 (p4 ⟨_,rfl,p4 h⟩) e)
  |exact o8 (m:=MB _) (F8 (o8 (p4 (p4 ⟨_,rfl,p4 h⟩))) e)
  |exact o8 (o8 (m:=MB _) (F8 (p4 (p4 ⟨_,rfl,p4 h⟩)) e))
  |exact o8 (o8 (m:=MB _) (F8 (p4 ⟨_,rfl,p4 h⟩) e))
end HT
namespace L2
open PySem PySem.Spec PyProof.Rows
abbrev TO:=St->Hp->(Option Int->Hp->Prop)->Prop
def PO(X:Cx)(e:Option ge)(t:TO):Prop:=∀(p:List (d5×d6)) (s:f6) (σ:St) (H:Hp) (Q:Option Int->Hp->Prop),p0 X p σ H s->t σ H Q ->f9 (g7 X.prog X.w) X.A (evalPart e X.env) (λu s'=>∃o H',p0 X p σ H' s'/\k4 u o/\Q o H') X.xe s
def Bp:TO:=λ_ H Q=>Q a8 H
def tPart(t:TE):TO:=λσ H Q=>t σ H λx a=>∃i,x=.int i/\Q (a7 i) a
section
variable{X:Cx}{e:ge}{te:TE}{lo hi:Option ge}{tl th:TO}{pos p2:Pos}
theorem BO:PO X a8 Bp:=by intro p s σ H Q I h;rw[evalPart_none];exact p4 ⟨a8,H,I,.none,h⟩
theorem BN(h:PE X e te):PO X (a7 e) (tPart te):=by intro p s σ H Q I w;rw[evalPart_some];refine u3 (h p s σ H _ I w) ?_;rintro u f ⟨x,a,b,r,c⟩;obtain⟨i,rfl,q⟩:=c;obtain⟨t,rfl⟩:=r;exact⟨a7 i,a,b,.int i t,q⟩
def Lf(X:Cx)(r:V->Option Int->Option Int->Hp->VK->Prop):Prop:=∀(p:List (d5×d6)) (s:f6) (σ:St) (H:Hp) (x:V) (v a u:c6) (l hi:Option Int) (m:d5) (Q:VK),p0 X p σ H s->aG x v->s.heap.IsSliceOf m a u .none->k4 a l->k4 u hi->r x l hi H Q ->∃T id,typeLookup (.type T) "__getitem__" = pure (a7<|.builtin id)/\s.TypeIs v T/\f9 (g7 X.prog X.w) X.A (k5 v<|.ref m) (EP X p σ Q) X.xe s
def tSl(r:V->Option Int->Option Int->Hp->VK->Prop)(te:TE)(t h:TO):TE:=λσ H Q=>te σ H λx a=>t σ a λl b=>h σ b λu c=>r x l u c Q
theorem yU(y:Lf X r)(o:PE X e te)(t:PO X lo tl)(B:PO X hi th):PE X (.Subscript e (.Slice lo hi a8 p2) pos) (tSl r te tl th):=by intro p s σ H Q I h;refine Subscript_<|u3 (o p s σ H _ I h) ?_;rintro v L ⟨x,f,i,K,F⟩;refine wpAny_Slice<|u3 (t p L σ f _ i F) ?_;rintro a M ⟨l,g,j,C,G⟩;refine u3 (B p M σ g _ j G) ?_;rintro c z ⟨u,d,k,D,J⟩;rw[evalPart_none];refine p4 ?_;have m:p0 X p σ d { z with heap:=z.heap.push { cls:=.type "slice",data:=.fields #[a,c,.none] } }:=k.kept (t':=z.toks) λb N q=>u4 _ q;obtain⟨T,id,n,E,S⟩:=y p { z with heap:=z.heap.push { cls:=.type "slice",data:=.fields #[a,c,.none] } } σ d x v a c l u z.heap.objs.size Q m K (Heap.IsSliceOf.new ..) C D J;show f9 (g7 X.prog X.w) X.A (subscriptTail e (.Slice lo hi a8 p2) v<|.ref z.heap.objs.size) (EP X p σ Q) X.xe { z with heap:=z.heap.push { cls:=.type "slice",data:=.fields #[a,c,.none] } };exact tail_any (ops:=[.ref z.heap.objs.size,v]) E n S<|by with_unfolding_all rfl
noncomputable def AZ(xs:List V)(l hi:Option Int):List V:=(xs.drop<|HT.sIx xs.length 0 l).take<|HT.sIx xs.length xs.length hi-HT.sIx xs.length 0 l
theorem jE(xs:List V)(l hi:Option Int):(AZ xs l hi).length<=xs.length:=by unfold AZ;rw[HU,Jy];lia
def rSlT(K:q9):V->Option Int->Option Int->Hp->VK->Prop:=λx l hi H Q=>∃a xs,x=.ref a/\x9 K H a xs /\¬(HT.sIx xs.length 0 l=0/\HT.sIx xs.length xs.length hi=xs.length)/\∀p,H p=a8->Q (.ref p) (t8 H p<|.tup<|AZ xs l hi)
theorem Ez:Lf X (rSlT X.K):=by
 intro p s σ H x v f i l hi m Q I g hs d u h;obtain⟨a,xs,rfl,c,w,q⟩:=h;cases g;obtain⟨its,r,E,z⟩:=I.tuple c;have n:its.toArray.size=xs.length:=by rw[v6];exact r.length.symm
 refine⟨"tuple",_,K5.lookup,E.typeIs,?_⟩;refine HT.getItem_tuple_cut E hs d u (by rw[n];exact w) ?_ (by rw[n];exact z);rw[n];refine⟨.ref s.heap.objs.size,_,I.laid (t':=s.toks) (o:=.tup<|AZ xs l hi) (λb e q=>u4 _ q) (t6 _) ?_,rfl,q _<|I.hok.fresh<|t6 _⟩;exact⟨F6 (jE xs l hi) z,_,(r.drop<|HT.sIx xs.length 0 l).take<|HT.sIx xs.length xs.length hi-HT.sIx xs.length 0 l,Av.new _ _⟩
def rCatT(K:q9):R2:=λx y H Q=>∃a b xs ys,x=.ref a/\y=.ref b/\x9 K H a xs/\x9 K H b ys/\xs≠[]/\xs.length+ys.length<=sizeLine /\(ys=[]->Q (.ref a) H)/\(ys≠[]->∀p,H p=a8->Q (.ref p) (t8 H p<|.tup<|xs++ys))
theorem ao.nil_iff(r:ao xs us):us=[]↔xs=[]:=by
 cases r with
 |nil=>simp
 |cons _ _=>simp
theorem Cc:A9 X (j2 .Add) (rCatT X.K):=by intro p s σ H x y v u Q I n t h;obtain⟨a,b,xs,ys,rfl,rfl,f,d,e,c,k,l⟩:=h;cases n;cases t;obtain⟨its,r,g,_⟩:=I.tuple f;obtain⟨i,m,j,_⟩:=I.tuple d;refine HT.cat_tup g j (λz=>e<|r.nil_iff.mp z) (λz=>⟨.ref a,H,I,rfl,k<|m.nil_iff.mp z⟩) (λz=>?_) (by rw[<-r.length,<-m.length];exact c);refine⟨.ref s.heap.objs.size,_,I.laid (t':=s.toks) (o:=.tup<|xs++ys) (λb A q=>u4 _ q) (t6 _) ?_,rfl,l (λw=>z<|m.nil_iff.mpr w) _<|I.hok.fresh<|t6 _⟩;exact⟨by rw[v4];exact c,_,r.append m,Av.new _ _⟩
end
noncomputable def Ii(n:Nat)(i:Int):Option Nat:=if 0<=i then(if i<n then a7 i.toNat else a8)else if -(n:Int)<=i then a7 (i+n).toNat else a8
noncomputable def atI{α:Type}(xs:List α)(i:Int):Option α:=(Ii xs.length i).bind λj=>xs[j]?
theorem xi(h:Ii n i=a7 j):seqIndex? i n=a7 j/\j<n/\-(n:Int)<=i/\i<n:=by unfold Ii at h;by_cases a:0<=i;rw[m9 a]at h;by_cases h1:i<n;rw[m9 h1]at h;have e:i.toNat=j:=A1 h;exact⟨by rw[seqIndex_of a h1,e],by lia,by lia,h1⟩;rw[n5 h1]at h;cases h;rw[n5 a]at h;by_cases h1:-(n:Int)<=i;rw[m9 h1]at h;have e:(i+n).toNat=j:=A1 h;exact⟨by rw[seqIndex_neg (by lia) h1,e],by lia,h1,by lia⟩;rw[n5 h1]at h;cases h
theorem qB{α:Type}{xs:List α}{i:Int}{v:α}(h:atI xs i=a7 v):∃j,seqIndex? i xs.length=a7 j/\xs[j]?=a7 v/\j<xs.length/\-(xs.length:Int)<=i/\i<xs.length:=by
 unfold atI at h;cases e:Ii xs.length i with
 |none=>rw[e]at h;cases h
 |some j=>rw[e]at h;obtain⟨h1,h2,a,d⟩:=xi e;exact⟨j,h1,h,h2,a,d⟩
theorem aA{α:Type}{xs:List α}{j:Nat}{v:α}(h:xs[j]?=a7 v):atI xs (j:Int)=a7 v:=by
 have L:j<xs.length:=(w9.mp h).1;have e:Ii xs.length (j:Int)=a7 j:=by unfold Ii;rw[m9 (by lia),m9<|by lia];simp
 unfold atI;rw[e];exact h
theorem sH{α:Type}(xs:List α)(v:α):atI (xs++[v]) (-1)=a7 v:=by
 have g:(xs++[v]).length=xs.length+1:=by simp
 have e:Ii (xs++[v]).length (-1)=a7 xs.length:=by unfold Ii;rw[g,n5 (by decide),m9<|by lia];congr 1;lia
 unfold atI;rw[e];show (xs++[v])[xs.length]?=a7 v;simp
def qE(b:ge):Prop:=∀o i,subscripted b c5 o i=operate [o,i] (k5 o i)
def Il(X:Cx)(r:R2):Prop:=∀(a e:ge) (p:List (d5×d6)) (s:f6) (σ:St) (H:Hp) (x y:V) (v u:c6) (Q:VK),p0 X p σ H s->aG x v->aG y u->r x y H Q ->subscripted e c5 v u=operate [v,u] (k5 v u)->f9 (g7 X.prog X.w) X.A (subscriptTail a e v u) (EP X p σ Q) X.xe s
def Ia(X:Cx)(id:String)(r:V->List V->Hp->VK->Prop):Prop:=∀(p:List (d5×d6)) (s:f6) (σ:St) (H:Hp) (x:V) (xs:List V) (v:c6) (us:List c6) (Q:VK),p0 X p σ H s->aG x v->ao xs us->r x xs H Q ->f9 (g7 X.prog X.w) X.A (call (.builtin id)<|v::us) (EP X p σ Q) X.xe s
section
variable{X:Cx}{a b:ge}{ta tb:TE}{pos:Pos}
theorem Il.or(h:Il X r)(h':Il X r'):Il X (λx y H Q=>r x y H Q\/r' x y H Q):=by intro a e p s σ H x y v u Q I g i q hs;rcases q with q|q;exact h a e p s σ H x y v u Q I g i q hs;exact h' a e p s σ H x y v u Q I g i q hs
theorem pe_ix(i:Il X r)(f:PE X a ta)(d:PE X b tb)(hs:qE b):PE X (.Subscript a b pos) (K6 r ta tb):=by intro p s σ H Q I h;exact Subscript_<|binT f d I h λv u w x y c e g j q=>i a b p w σ c x y v u Q e g j q<|hs _ _
def rIxL(K:q9):R2:=λx y H Q=>∃p xs i v,x=.ref p/\y=.int i/\Fn K H p xs/\atI xs i=a7 v/\Q v H
def rIxT(K:q9):R2:=λx y H Q=>∃p xs i v,x=.ref p/\y=.int i/\x9 K H p xs/\atI xs i=a7 v/\Q v H
def rIxS:R2:=λx y H Q=>∃z i c,x=.str z/\y=.int i/\z.length<=sizeLine/\atI z.cps.toList i=a7 c/\Q (.str ⟨#[c]⟩) H
theorem CW:Il X (rIxL X.K):=by
 intro c e a s σ H x y v u Q I B C h hs;obtain⟨p,xs,i,z,rfl,rfl,A,m,q⟩:=h;cases B;obtain⟨t,rfl⟩:=C;obtain⟨its,r,l,F⟩:=I.list A;obtain⟨j,h1,h2,D,g,k⟩:=qB m;obtain⟨w,d,b⟩:=r.get h2;have o:=r.length;have E:=kQ;have n:EP X a σ Q w s:=⟨z,H,I,b,q⟩
 by_cases f:0<=i;have L:i.toNat=j:=by rw[seqIndex_of f k]at h1;exact A1 h1
 exact item_listR l.isList f (by lia) (by rw[L];simpa using d) n hs;have L:(i+(its.toArray.size:Int)).toNat=j:=by rw[seqIndex_neg (by lia) g]at h1;rw[v6,<-o];exact A1 h1
 exact subscriptTail_builtinR (x:=w) l.isList.typeIs slot_list_getitem.lookup (wpAny_getItem_list_neg (Q:=λr s'=>r=w/\EP X a σ Q r s') l.isList (by lia) (by rw[v6]<;>lia) (by lia) (by rw[L];simpa using d) ⟨rfl,n⟩) hs
theorem Gf:Il X (rIxT X.K):=by
 intro c e a s σ H x y v u Q I m o h hs;obtain⟨p,xs,i,z,rfl,rfl,k,f,q⟩:=h;cases m;obtain⟨t,rfl⟩:=o;obtain⟨its,r,l,E⟩:=I.tuple k;obtain⟨j,h1,h2,A,B,C⟩:=qB f;obtain⟨w,d,b⟩:=r.get h2;have g:=r.length;have D:=kQ;have n:EP X a σ Q w s:=⟨z,H,I,b,q⟩
 exact subscriptTail_builtinR (x:=w) l.typeIs slot_tuple_getitem.lookup (getItem_tuple (j:=j) (Q:=λr s'=>r=w/\EP X a σ Q r s') l (by lia) (by lia) (by rw[v6,<-g];exact h1) (by simpa using d) ⟨rfl,n⟩) hs
theorem Gg:Il X rIxS:=by
 intro a e p s σ H x y v u Q I r l h hs;obtain⟨z,i,c,rfl,rfl,w,f,q⟩:=h;obtain⟨t,rfl⟩:=r;obtain⟨t',rfl⟩:=l;obtain⟨j,h1,h2,n,d,k⟩:=qB f;have g:z.cps.toList.length=z.length:=by simp[Str.length]
 rw[g]at h1 d k;have o:=kQ;exact tail_any (typeIs_str s z t) slot_str_getitem.lookup (getItem_str (c:=c) (by have b:decide (i < -(2 ^ 63:Int))=c5:=dF_ (by lia);have m:decide (i ≥ 2 ^ 63)=c5:=dF_ (by lia);rw[b,m,Bool.or_false]) (by rw[h1];simpa using h2) ⟨.str ⟨#[c]⟩,H,I.tok _,⟨_,rfl⟩,q⟩) hs
def rIx(K:q9):R2:=λx y H Q=>rIxL K x y H Q\/rIxT K x y H Q\/rIxS x y H Q
theorem Gh:Il X (rIx X.K):=CW.or<|Gf.or Gg
theorem tL(its:List c6)(n j:Nat)(u:c6):D8 (·.setIfInBounds j u) { cls:=.type "list",data:=.seq its.toArray n }={ cls:=.type "list",data:=.seq (its.set j u).toArray n }:=by simp[D8]
theorem p0.lst(I:p0 X pins σ H s)(h:H p=a7 (.lst xs)):∃(its:List c6) (n:Nat),ao xs its/\s.heap.get? p=a7 { cls:=.type "list",data:=.seq its.toArray n }/\xs.length<=sizeLine:=by obtain⟨z,its,n,r,e⟩:=I.hok p _ h;exact⟨its,n,r,e,z⟩
theorem p0.lstUpd{pins:List (d5×d6)}{σ:St}{H:Hp}{s:f6}{p:d5}{xs ys:List V}{its its':List c6}{n a:Nat}{f:d6->d6}(I:p0 X pins σ H s)(h:H p=a7 (.lst xs))(D:s.heap.get? p=a7 { cls:=.type "list",data:=.seq its.toArray n }) (c:f { cls:=.type "list",data:=.seq its.toArray n }={ cls:=.type "list",data:=.seq its'.toArray a }) (r:ao ys its') (hz:ys.length<=sizeLine) (t:Nat):p0 X pins σ (t8 H p<|.lst ys) { s with heap:=s.heap.update p f,toks:=t }:=by
 have e:(s.heap.update p f).get? p=a7 { cls:=.type "list",data:=.seq its'.toArray a }:=by rw[HY f D (by rw[c]<;>rfl),c]
 refine I.write (x:=p) (e:=p) (by rw[h];trivial) (.inl rfl) (λb u d q=>(K4 _ _<|v5 d).trans q) ⟨_,e⟩ ?_;exact⟨hz,its',a,r,e⟩
def rSetL:V->V->V->Hp->(Hp->Prop)->Prop:=λo i v H Q=>∃p xs k j,o=.ref p/\i=.int k/\H p=a7 (.lst xs)/\Ii xs.length k=a7 j/\Q (t8 H p<|.lst<|xs.set j v)
theorem yF:PSet X rSetL:=by
 intro a s σ H o i v B A u Q I w m x h;obtain⟨p,xs,k,j,rfl,rfl,l,L,q⟩:=h;cases w;obtain⟨t,rfl⟩:=m;obtain⟨its,n,r,D,z⟩:=I.lst l;obtain⟨h1,h2,e,f⟩:=xi L;have g:=r.length;have y:=kQ;have c:p0 X a σ (t8 H p<|.lst<|xs.set j v) { s with heap:=s.heap.update p (D8 (·.setIfInBounds j u)) }:=I.lstUpd l D (tL its n j u) (r.set x j) (by rw[G9];exact z) s.toks;by_cases d:0<=k;have b:k.toNat=j:=by rw[seqIndex_of d f]at h1;exact A1 h1
 exact PySem.W.ki_setAt D d (by lia) (by rw[v6,<-g];exact f) (by rw[b];exact⟨_,c,q⟩);have b:(k+(its.toArray.size:Int)).toNat=j:=by rw[seqIndex_neg (by lia) e]at h1;rw[v6,<-g];exact A1 h1
 exact PySem.W.ki_setBack D (by lia) (by rw[v6,<-g];exact e) (by lia)<|by rw[b];exact⟨_,c,q⟩
theorem nE(l hi:Option Int)(n:Nat):(k6 l hi a8 n).1=((HT.sIx n 0 l:Nat):Int)/\(k6 l hi a8 n).2.1=((HT.sIx n n hi:Nat):Int)/\(k6 l hi a8 n).2.2=1:=by
 refine⟨?_,?_,rfl⟩;cases l with
 |none=>simp[k6,HT.sIx]
 |some i=>simp only[k6,HT.sIx,Option.getD_none,show (1:Int) > 0 by decide,o5];by_cases h:i<0;simp only[h,o5]<;>lia;simp only[h,o4]<;>lia
 cases hi with
 |none=>simp[k6,HT.sIx]
 |some i=>simp only[k6,HT.sIx,Option.getD_none,show (1:Int) > 0 by decide,o5];by_cases h:i<0;simp only[h,o5]<;>lia;simp only[h,o4]<;>lia
theorem lG(its:List c6)(l hi:Option Int):slicePick its.toArray l hi a8=((its.drop<|HT.sIx its.length 0 l).take<|HT.sIx its.length its.length hi-HT.sIx its.length 0 l).toArray:=by obtain⟨h1,h2,a⟩:=nE l hi its.toArray.size;unfold slicePick;rw[h1,h2,a];simp only[sliceRange_one,pick_run,v6]<;>rfl
def rSlL(K:q9):V->Option Int->Option Int->Hp->VK->Prop:=λx l hi H Q=>∃a xs,x=.ref a/\Fn K H a xs/\∀p,H p=a8->Q (.ref p) (t8 H p<|.lst<|AZ xs l hi)
theorem Bu:Lf X (rSlL X.K):=by intro p s σ H x v f i l hi m Q I g hs d u h;obtain⟨a,xs,rfl,c,q⟩:=h;cases g;obtain⟨its,r,E,z⟩:=I.list c;have n:=r.length;refine⟨"list",_,slot_list_getitem.lookup,E.isList.typeIs,?_⟩;refine wpAny_getItem_list_slice E.isList hs d u .none (by simp) ?_ (by rw[v6]<;>lia);rw[lG,<-n];refine⟨.ref s.heap.objs.size,_,I.laid (t':=s.toks) (o:=.lst<|AZ xs l hi) (λb e q=>u4 _ q) (t6 _) ?_,rfl,q _<|I.hok.fresh<|t6 _⟩;exact⟨F6 (jE xs l hi) z,_,0,(r.drop<|HT.sIx xs.length 0 l).take<|HT.sIx xs.length xs.length hi-HT.sIx xs.length 0 l,v8 _ rfl⟩
theorem oP:fx X (.builtin "len") (λxs H Q=>∃p ys,xs=[.ref p]/\(Fn X.K H p ys\/x9 X.K H p ys)/\Q (.int ys.length) H):=by intro b s σ H xs us Q I r h;obtain⟨p,ys,rfl,a,q⟩:=h;obtain⟨u,rfl,g⟩:=Bn r;cases g;have f:=kQ;rcases a with a|a;obtain⟨its,r',l,z⟩:=I.list a;have n:=r'.length;exact Calls.call_len_list l.isList (by simp only[v6]<;>lia) ⟨.int ys.length,H,I.tok _,⟨s.toks+1,by rw[v6,n]⟩,q⟩;obtain⟨its,r',l,z⟩:=I.tuple a;have n:=r'.length;exact len_tuple l (by simp only[v6]<;>lia) ⟨.int ys.length,H,I.tok _,⟨s.toks+1,by rw[v6,n]⟩,q⟩
theorem oO:fx X (.builtin "len") (λxs H Q=>∃z,xs=[.str z]/\z.length<=sizeLine/\Q (.int z.length) H):=by intro p s σ H xs us Q I r h;obtain⟨z,rfl,b,q⟩:=h;obtain⟨u,rfl,t,rfl⟩:=Bn r;have f:=kQ;exact len_str (by lia) ⟨.int z.length,H,I.tok _,⟨_,rfl⟩,q⟩
theorem fx.or(h:fx X f r)(h':fx X f r'):fx X f (λxs H Q=>r xs H Q\/r' xs H Q):=by intro p s σ H xs us Q I a q;rcases q with q|q;exact h p s σ H xs us Q I a q;exact h' p s σ H xs us Q I a q
theorem mw:fx X (.type "tuple") (λxs H Q=>∃p ys,xs=[.ref p]/\((Fn X.K H p ys/\∀l,H l=a8->Q (.ref l) (t8 H l<|.tup ys))\/(x9 X.K H p ys/\Q (.ref p) H))):=by
 intro a s σ H xs us Q I r h;obtain⟨p,ys,rfl,h⟩:=h;obtain⟨u,rfl,x⟩:=Bn r;cases x;rcases h with⟨c,q⟩|⟨c,q⟩
 obtain⟨its,r',d,z⟩:=I.list c;have n:=r'.length;refine call_tuple_list d.isList (λh' k=>?_) (by simp only[v6]<;>lia);have f:p0 X a σ H { s with heap:=h' }:=I.kept (t':=s.toks) k;have g:p0 X a σ (t8 H h'.objs.size<|.tup ys) { s with heap:=h'.push { cls:=.type "tuple",data:=.seq its.toArray } }:=f.laid (t':=s.toks) (λb o e=>u4 _ e) (t6 _)<|show bD X.prog X.w _ _ _ (.tup ys)from⟨z,its,r',Av.new _ _⟩;exact⟨.ref h'.objs.size,_,g,rfl,q _<|f.hok.fresh<|t6 _⟩;obtain⟨its,r',d,z⟩:=I.tuple c;exact call_tuple_same d ⟨.ref p,H,I,rfl,q⟩
def MK(K:q9)(T:String)(x:V)(H:Hp):Prop:=match x with
 |.str _=>T = "str"
 |.int _=>T = "int"
 |.ref p=>(T = "list"/\∃xs,Fn K H p xs)\/(T = "tuple"/\∃o,K.lookup p=a7 o/\o.cls=.type "tuple"/\o.dict=a8) \/(T = "dict"/\((∃s,H p=a7 (.dK s))\/∃s,H p=a7 (.dT s)))\/(T = "set"/\∃S n,H p=a7 (.set S n))
 |_=>False
theorem Ax(I:p0 X pins σ H s)(r:aG x v)(y:MK X.K T x H):s.TypeIs v T/\∀a,v=.ref a->∃ob,s.heap.get? a=a7 ob/\ob.dict=a8:=by
 cases x with
 |str z=>obtain⟨t,rfl⟩:=r;cases (show T = "str" from y);exact⟨typeIs_str s z t,λ_ e=>nomatch e⟩
 |int i=>obtain⟨t,rfl⟩:=r;cases (show T = "int" from y);exact⟨typeIs_int s i t,λ_ e=>nomatch e⟩
 |ref p =>
  cases r;rcases y with⟨rfl,xs,q⟩|⟨rfl,o,k,h,d⟩|⟨rfl,k⟩|⟨rfl,S,n,k⟩
  obtain⟨its,_,l,_⟩:=I.list q;refine⟨l.isList.typeIs,λa e=>?_⟩;cases e;obtain⟨o,n,e,c,d,_⟩:=l;exact⟨o,e,d⟩;refine⟨⟨o,I.kIn p o k,h⟩,λa e=>?_⟩;cases e;exact⟨o,I.kIn _ o k,d⟩;have z:∃o,s.heap.get? p=a7 o/\o.ExactDict:=by
   rcases k with⟨f,k⟩|⟨f,k⟩
   obtain⟨_,_,_,_,o,_,_,e,b,_⟩:=I.hok p _ k;exact⟨o,e,b⟩;obtain⟨_,_,_,_,o,_,_,e,b,_⟩:=I.hok p _ k;exact⟨o,e,b⟩
  obtain⟨o,e,b⟩:=z;refine⟨⟨o,e,b.1⟩,λa m=>?_⟩;cases m;exact⟨o,e,b.2.1⟩;obtain⟨o,_,_,_,e,b,_⟩:=I.hok p _ k;refine⟨⟨o,e,b.1⟩,λa m=>?_⟩;cases m;exact⟨o,e,b.2.1⟩
 |_=>exact Ja y
def tBM0(K:q9)(T:String)(r:V->List V->Hp->VK->Prop)(e:TE):TE:=λσ H Q=>e σ H λx a=>MK K T x a/\r x [] a Q
def tBM(K:q9)(T:String)(r:V->List V->Hp->VK->Prop)(e:TE)(t:TA):TE:=λσ H Q=>e σ H λx a=>MK K T x a/\t σ a λxs b=>r x xs b Q
variable{o e:ge}{es:List ge}{to:TE}{t:TA}{name:c7}{apos cpos:Pos}{T id:String}{r:V->List V->Hp->VK->Prop}
theorem Fe(f:PlainAttrs T)(slot:Slot T name id)(y:k7 (.builtin id)=pure (.type "method_descriptor"))(m:Ia X id r)(D:PE X o to)(e:k8 o name X.env (eval o X.env)=eval o X.env:=by rfl) (a:(apos.endLine==cpos.line)=a9:=by rfl):PE X (.Call (.Attribute o name apos) [] [] cpos) (tBM0 X.K T r to):=by intro p s σ H Q I h;refine Nk e a<|u3 (D p s σ H _ I h) ?_;rintro v g ⟨x,d,b,c,t,q⟩;obtain⟨h1,h2⟩:=Ax b c t;exact⟨T,id,f,slot,y,h1,h2,K3 rfl<|M8<|m p g σ d x [] v [] Q b c .nil q⟩
theorem pe_bm(q:PlainAttrs T)(slot:Slot T name id)(y:k7 (.builtin id)=pure (.type "method_descriptor"))(l:Ia X id r)(D:PE X o to)(k:PA X (e::es) t)(b:k8 o name X.env (eval o X.env)=eval o X.env:=by rfl)(w:((g8 cpos<|g9 (e::es) X.env).all (λx=>!x.1)&&(k9 cpos<|l3 [] X.env).all (λx=>x.1.isSome) && decide ((e::es).length+([]:List l4).length+(if ([]:List l4).isEmpty then 0 else 1)<30))=a9:=by rfl)(c:(apos.endLine==cpos.line)=a9:=by rfl) (hs:g9 (e::es) X.env=(c5,eval e X.env)::g9 es X.env:=by rfl) (n:(g8 cpos<|g9 es X.env).any (·.1)=c5:=by rfl):PE X (.Call (.Attribute o name apos) (e::es) [] cpos) (tBM X.K T r to t):=by intro p s σ H Q I h;refine Ng b w c rfl<|u3 (D p s σ H _ I h) ?_;rintro v C ⟨x,g,d,f,F,u⟩;obtain⟨h1,h2⟩:=Ax d f F;refine⟨T,id,q,slot,y,h1,h2,?_⟩;have A:=k cpos p C σ g _ d u;rw[hs]at A ⊢;refine K3 (by show (c5||(g8 cpos<|g9 es X.env).any (·.1))=c5;rw[n]<;>rfl)<|M9 ?_;refine u3 A ?_;rintro us E ⟨vs,i,j,B,z⟩;exact l p E σ i x vs v us Q j f B z
/- xs.append(e),list.index on a module's tuple .. are Ia facts of 06m -/
end
def LX(X:Cx)(id:String)(r:V->List V->Hp->VK->Prop):Prop:=∀(p:List (d5×d6)) (s:f6) (σ:St) (H:Hp) (x:V) (xs:List V) (v:c6) (us:List c6) (Q:VK),p0 X p σ H s->aG x v->ao xs us->r x xs H Q ->f9 (g7 X.prog X.w) X.A (call (.builtin id)<|v::us) (EP X p σ Q) X.xe s
theorem ao.one(h:ao [x] us):∃u,us=[u]/\aG x u:=by
 cases h with
 |cons r t=>cases t;exact⟨_,rfl,r⟩
theorem ao.two(h:ao [x,y] us):∃u v,us=[u,v]/\aG x u/\aG y v:=by
 cases h with
 |cons r t=>obtain⟨v,e,q⟩:=ao.one t;subst e;exact⟨_,v,rfl,r,q⟩
theorem ao.zero:∀{us:List c6},ao [] us->us=[]
 |_,.nil=>rfl
theorem ao.dropLast(h:ao xs us):ao xs.dropLast us.dropLast:=by
 induction h with
 |nil=>exact .nil
 |cons r t i =>
  cases t with
  |nil=>exact .nil
  |cons q t'=>exact .cons r i
theorem ao.reverse(h:ao xs us):ao xs.reverse us.reverse:=by
 induction h with
 |nil=>exact .nil
 |cons r t i=>rw[Mg,Mg];exact ao.append i<|.cons r .nil
theorem uf{α:Type}(l:List α):l.eraseIdx (l.length-1)=l.dropLast:=by
 induction l with
 |nil=>rfl
 |cons a r i =>
  cases r with
  |nil=>rfl
  |cons b r =>
   have e:(a::b::r).length-1=((b::r).length-1)+1:=by have h1:(a::b::r).length=r.length+2:=rfl;have h2:(b::r).length=r.length+1:=rfl;lia
   rw[e,List.eraseIdx_cons_succ,i]
   all_goals rfl
theorem p0.lset{its its':List c6}{n:Nat}{f:Array c6->Array c6}{t':Nat}(I:p0 X pins σ H s)(h:H l=a7 (.lst xs))(e:s.heap.get? l=a7 { cls:=.type "list",data:=.seq its.toArray n }) (a:f its.toArray=its'.toArray) (c:ao ys its') (hz:ys.length<=sizeLine):p0 X pins σ (t8 H l<|.lst ys) { s with heap:=s.heap.update l<|D8 f,toks:=t' }:=by have q:=PySem.IsL.update e f;rw[a]at q;refine I.write (x:=l) (e:=l) (by rw[h];exact trivial) (.inl rfl) (λb u d g=>(K4 s.heap (D8 f)<|v5 d).trans g) ⟨_,q⟩ ?_;exact⟨hz,its',_,c,q⟩
theorem p0.lnew(I:p0 X pins σ H s)(c:ao ys its)(hz:ys.length<=sizeLine):p0 X pins σ (t8 H s.heap.objs.size<|.lst ys) { s with heap:=s.heap.push { cls:=.type "list",data:=.seq its.toArray },toks:=t' }:=I.laid (λ_ _ q=>u4 _ q) (t6 _) ⟨hz,its,0,c,v8 _ rfl⟩
theorem p0.fresh(I:p0 X pins σ H s):H s.heap.objs.size=a8:=I.hok.fresh<|t6 _
theorem p0.lstM(I:p0 X pins σ H s)(h:H l=a7 (.lst xs)):xs.length<=sizeLine/\∃(its:List c6) (n:Nat),ao xs its/\xs.length=its.length/\s.heap.get? l=a7 { cls:=.type "list",data:=.seq its.toArray n }:=by obtain⟨z,its,n,r,e⟩:=I.hok l _ h;exact⟨z,its,n,r,r.length,e⟩
theorem ze(h:n<=sizeLine):Nn n=c5:=by unfold Nn;exact dF_<|by lia
def BB:V->List V->Hp->VK->Prop:=λx vs H Q=>∃l xs y,x=.ref l/\vs=[y]/\H l=a7 (.lst xs)/\xs.length<sizeLine/\Q .non (t8 H l<|.lst<|xs++[y])
theorem wA:LX X "list.append" BB:=by intro p s σ H x vs v us Q I g d h;obtain⟨l,xs,y,rfl,rfl,a,c,q⟩:=h;cases g;obtain⟨u,rfl,T⟩:=d.one;obtain⟨z,its,n,r,b,e⟩:=I.lstM a;refine call_meets F.slot_list_append ⟨_,e,rfl⟩ F.entry_list_append (F.args_list_append_2 _ _) (PySem.list_append l its.toArray n u<|by rw[v6];lia) ⟨e,?_⟩;refine⟨.non,_,I.lset (its':=its++[u]) a e (by simp) (r.append<|.cons T .nil) ?_,rfl,q⟩;rw[v4,F9];lia
def BA:V->List V->Hp->VK->Prop:=λx vs H Q=>∃l b xs s,x=.ref l/\vs=[.ref b]/\H l=a7 (.lst xs)/\H b=a7 (.lst s)/\xs.length+s.length<=sizeLine/\Q .non (t8 H l<|.lst<|xs++s)
theorem wz:LX X "list.extend" BA:=by
 intro p s σ H x vs v us Q I k j h;obtain⟨l,b,xs,A,rfl,rfl,c,B,w,q⟩:=h;cases k;obtain⟨u,rfl,T⟩:=j.one;cases T;obtain⟨z,its,n,r,t,e⟩:=I.lstM c;obtain⟨y,i,o,f,d,m⟩:=I.lstM B;have a:its.toArray.size+i.toArray.size<=sizeLine:=by rw[v6,v6];lia
 have g:¬(!its.toArray.isEmpty&&Nn (its.toArray.size+i.toArray.size))=a9:=by rw[ze a,L4];exact Iz
 refine call_meets F.slot_list_extend ⟨_,e,rfl⟩ F.entry_list_extend (F.args_list_extend_2 _ _) (AutoSeq1.list_extend_list_list_0 l its.toArray n b i.toArray o g (by rw[v6];lia)<|by lia) ⟨e,m,?_⟩;refine⟨.non,_,I.lset (its':=its++i) c e (by simp) (r.append f) ?_,rfl,q⟩;rw[v4];lia
def rPop:V->List V->Hp->VK->Prop:=λx vs H Q=>∃l xs y,x=.ref l/\vs=[]/\H l=a7 (.lst xs)/\xs[xs.length-1]?=a7 y/\Q y (t8 H l<|.lst xs.dropLast)
theorem FC:LX X "list.pop" rPop:=by
 intro p s σ H x vs v us Q I j i h;obtain⟨l,xs,y,rfl,rfl,c,f,q⟩:=h;cases j;have a:=i.zero;subst a;obtain⟨z,its,n,r,g,e⟩:=I.lstM c;obtain⟨u,d,T⟩:=r.get f;have b:its.toArray[its.toArray.size-1]?=a7 u:=by show its.toArray[its.length-1]?=a7 u;rw[<-E4,<-g];exact d
 refine call_meets F.slot_list_pop ⟨_,e,rfl⟩ F.entry_list_pop (F.args_list_pop_1 _) (MeetsSeq.list_pop_last l its.toArray n u b<|by rw[v6];lia) ⟨e,?_⟩;refine⟨y,_,I.lset (its':=its.dropLast) c e ?_ r.dropLast ?_,T,q⟩;show its.toArray.eraseIdxIfInBounds (its.toArray.size-1)=its.dropLast.toArray;rw[v6,List.eraseIdxIfInBounds_toArray,uf];rw[List.length_dropLast];lia
def yL:V->List V->Hp->VK->Prop:=λx vs H Q=>∃l xs,x=.ref l/\vs=[]/\H l=a7 (.lst xs)/\Q .non (t8 H l<|.lst xs.reverse)
theorem tI:LX X "list.reverse" yL:=by intro p s σ H x vs v us Q I g d h;obtain⟨l,xs,rfl,rfl,b,q⟩:=h;cases g;have a:=d.zero;subst a;obtain⟨z,its,n,r,c,e⟩:=I.lstM b;refine call_meets F.slot_list_reverse ⟨_,e,rfl⟩ F.entry_list_reverse (F.args_list_reverse_1 _) (AutoSeq1.list_reverse_list_0 l its.toArray n<|by rw[v6];lia) ⟨e,?_⟩;refine⟨.non,_,I.lset (its':=its.reverse) b e (by simp) r.reverse ?_,rfl,q⟩;rw[ACR];lia
def rCat:R2:=λx y H Q=>∃l b xs s,x=.ref l/\y=.ref b/\H l=a7 (.lst xs)/\H b=a7 (.lst s)/\xs.length+s.length<=sizeLine/\∀p,H p=a8->Q (.ref p) (t8 H p<|.lst<|xs++s)
theorem Fm:A9 X (j2 .Add) rCat:=by
 intro p s σ H x y v u Q I g j h;obtain⟨l,b,xs,A,rfl,rfl,c,B,o,q⟩:=h;cases g;cases j;obtain⟨z,its,n,r,k,e⟩:=I.lstM c;obtain⟨w,i,t,f,d,m⟩:=I.lstM B;refine PySem.P.add_list e m ?_ (by rw[v6,v6];lia);have a:its.toArray++i.toArray=(its++i).toArray:=by simp
 rw[a];exact⟨.ref _,_,I.lnew (t':=s.toks) (r.append f) (by rw[v4];lia),rfl,q _ I.fresh⟩
end L2
namespace Att
open PySem PySem.W PySem.Calls PyProof.Rows
theorem jA:∀(ns:List Int) (vs:List c6),WellAll P h vs (ns.map WData.int)->IntsAre vs ns:=by
 intro ns;induction ns with
 |nil=>intro vs w;rw[Lm]at w;cases w;exact .nil
 |cons n ns i =>
  intro vs w;rw[A5]at w;cases w with
  |cons a b=>cases a;exact .cons _ _<|i _ b
theorem vH{l:OpenLaw}{n:Nat}(o:l.most=a7 n){P:Params}{h:d7}{args:List WData}{s:List c6}(e:l.row.toRowW.claim.pre args=a9) (i:WellAll P h s args):∃a vs ns,s=[ABG a]/\args=[WData.list<|ns.map WData.int]/\h.get? a=a7 { cls:=.type "list",data:=.seq vs.toArray }/\IntsAre vs ns/\ns.length<=n:=by
 have g:WShape.hasAll [] args [.list .int]=a9:=(pre_splitW e).1;have j:l.pre.holds [] { args:=args }=a9:=(pre_splitW e).2;obtain⟨d,r,rfl,h1,h2⟩:=hasAllW_cons g;obtain rfl:=hasAllW_nil h2;obtain⟨xs,rfl,m⟩:=hasW_list h1;obtain⟨ns,rfl⟩:=items_int m;have c:ns.length<=n:=by
  unfold OpenLaw.pre at j;have f:(WTm.not<|.lt (.lit<|.int (n:Int))<|.len<|.arg 0).holds [] { args:=[.list<|ns.map .int] }=a9:=by have f:=(holds_andW j).1;rw[o]at f;exact f
  have k:=condW_of f<|w_not<|w_lt w_lit<|w_len_list<|w_arg rfl;rw[t7]at k;refine Nat.le_of_not_lt λq=>?_;have p:(n:Int)<((ns.length:Nat):Int):=by lia
  first
   |(rw[dT_ p]at k;exact n6 k (by decide))
   |(simp at k;lia)
 cases i with
 |cons L w =>
  cases w;cases L with
  |list D b=>exact⟨_,_,ns,rfl,rfl,D,jA ns _ b,c⟩
theorem vQ(l:OpenLaw)(args:List WData):l.row.toRowW.claim.post args (.bool a9) args=a9:=postW_of (r:=l.row.toRowW) (X:=(a9==a9))
  (show WShape.has [] (.bool a9) .bool=a9 by first|rfl|decide|simp[WShape.has,WShape.arms,WShape.armsAll])
  (show (WTm.eq .res<|.lit<|.bool a9).value [] { args:=args,res:=a7<|.bool a9,after:=args }=a7 (.bool<|a9==a9)from w_eq_bool (w_res rfl) w_lit) rfl
theorem attach_call{l:OpenLaw}{n:Nat}{q:c9}{e:List c7}{P:(c7->Option c6)->d7->Prop}{YP:c8->d7->Prop}{d:DefRec}(A:l.most=a7 n) (i:d.params.defaults=[])(c:∀(w:c8) (s₀ s₁:f6) (mg mb:c7->Option c6) (fa:d5) (o:d6) (pm cd doc:c6) (a:d5) (vs:List c6) (ns:List Int),Ground q e [] P w s₀ mg mb s₁.heap->YP w s₁.heap -> s₁.heap.get? fa=a7 o->o.data=.func (docDef d.name d.params d.body d.scope pm cd doc)->s₁.heap.CodeRec cd d.name->mg d.name=a7 (.ref fa) ->s₁.heap.get? a=a7 { cls:=.type "list",data:=.seq vs.toArray }->IntsAre vs ns->ns.length<=n->s₁.gens = #[] ->j7 (g7 l.prog w) callerA (.call (.ref fa) ⟨[.ref a],[]⟩) (λr s'=>r=.ok (.ret<|.bool a9)/\OldK s₁.heap s'.heap/\s'.os=s₁.os/\f8 s'.gens) s₁):WalkO q e P YP l.row.toRowW d [] (λf vs=>PySem.call f vs):=by intro w s₀ s₁ mg mb G Y fa o pm cd doc T kV B u g D k S O v F b y E m x;obtain rfl:T=.none:=Dflts.none D i;obtain rfl:kV=.none:=Dflts.noKw D;obtain⟨a,vs,ns,rfl,rfl,j,s,h⟩:=vH A b m;refine enter_call<|Kg (c w s₀ s₁ mg mb fa o pm cd doc a vs ns G Y B (fd_plain u) g k j s h S) λr s' C=>?_;obtain⟨rfl,h2,p,t⟩:=C;exact⟨.inl ⟨.bool a9,.bool a9,[],rfl,λ_=>rfl,.bool a9,vQ l _,λ_=>⟨KZ,λ_ z=>(nomatch z)⟩⟩,h2,p,t⟩
noncomputable def noObjs(h:d7):d7:={ h with objs:=#[] }
theorem noObjs_get(h:d7)(b:d5):(noObjs h).get? b=a8:=by
 cases e:(noObjs h).get? b with
 |none=>rfl
 |some o=>exact n6 (u7 e)<|Jl _
noncomputable def ledger(h:d7)(L d:d5):List (d5×d6):=(A7 h.objs.size).filterMap λa=>if a=L\/a=d then a8 else(h.get? a).map λo=>(a,o)
theorem mem_ledger:(a,o)∈ledger h L d↔a≠L/\a≠d/\h.get? a=a7 o:=by unfold ledger;rw[Mp];constructor;rintro⟨b,_,e⟩;split at e;cases e;rename_i c;obtain⟨o',D,f⟩:=J1.mp e;cases f;exact⟨λq=>c<|.inl q,λq=>c<|.inr q,D⟩;rintro⟨n1,n2,D⟩;refine⟨a,G8.mpr<|u7 D,?_⟩;rw[n5<|show ¬(a=L\/a=d)from λq=>q.elim n1 n2,D]<;>rfl
theorem news_ledger(b:d≠L)(D:h.get? d=a7 od):News (noObjs h) L h ([]++(d,od)::ledger h L d):=by rintro⟨a,o⟩ p;rcases u8.mp p with e|p;cases e;exact⟨D,b,noObjs_get _ _⟩;obtain⟨n,c,e⟩:=mem_ledger.mp p;exact⟨e,n,noObjs_get _ _⟩
theorem fr_all(n:h.Ns L m):Fr (noObjs h) L h m:=⟨n,λb o e=>(by rw[noObjs_get]at e;cases e),v9 _⟩
end Att
namespace L2
open PySem PySem.Spec PyProof.Rows
theorem mK:∀{vs:List c6}{ns:List Int},IntsAre vs ns->ao (ns.map V.int) vs
 |_,_,.nil=>.nil
 |_,_,.cons n t h=>.cons ⟨t,rfl⟩<|mK h
noncomputable abbrev KOf{K:q9}{h:d7}(_:K.In h):q9:=K
noncomputable def fq(s:h8):Arguments:=match s with
 |.FunctionDef _ a _ _ _ _ _ _ _ _=>a
 |_=>{ posonlyargs:=[],args:=[],vararg:=a8,kwonlyargs:=[],kw_defaults:=[],kwarg:=a8,defaults:=[] }
noncomputable def bo(s:h8):List h8:=match s with
 |.FunctionDef _ _ b _ _ _ _ _ _ _=>b
 |_=>[]
noncomputable def ah(s:h8):f7:=match s with
 |.FunctionDef _ _ _ _ _ _ sc _ _ _=>sc
 |_=>{ kind:=.function,names:=[],isGenerator:=c5,isCoroutine:=c5 }
abbrev D3:JJ:=λ_ _ _ _ _ _=>False
abbrev E0:XK:=λ_ _ _=>False
theorem pass0:xZ D3 X E0:=λ_ _ _ _ _ _ _ h=>h.elim
structure IF(K:q9)(x qual:c7)(st:h8)(f:d5)(fd:j6):Prop where
 ex:∃(oc:c6) (od:Option d5) (kV doc pm:c6) (an:Option d5) (cdv ct:c6) (osl:Array (Option c6)),fd=Ju x qual (fq st) (bo st) (ah st) .none kV doc pm an cdv ct/\K.lookup f=a7 ⟨oc,od,.func fd,osl⟩/\L5 K cdv qual=a9
 kp:JR K (.ref f)=a9
theorem IF.ok{P:c9}{w:c8}{K:q9}{mg:c7->Option c6}{base:d7}{x l:c7}{st:h8}{f:d5}{a:j6}{N ps:List c7}{k:Nat}{sp:Sp}(F:IF K x l st f a)(S:FnScope N ps (ah st))(B:∀vs H Q E,sp vs H Q E->vs.length=ps.length)(y:∀(cdv:c6) (A:e9) (outer:List Env) (s:f6) (H:Hp) (vs:List V) (Q:VK) (E:XK),Room k (A.deeper<|j9 l (ah st) s.heap.objs.size f cdv)->sp vs H Q E -> ∃t,G1 (oK D3 P w K mg base N l (ah st) f cdv A outer s H E).nox (bo st) t/\t { nx:=λ_ H'=>Q .non H',rt:=Q } (start N vs) H):FnOk P w K mg base D3 (k+1) f a ps sp:=by obtain⟨oc,j,kV,i,U,M,cdv,R,G,rfl,b,d⟩:=F.ex;refine GD b d S B λA outer s H vs Q E r z=>?_;obtain⟨t,h,q⟩:=y cdv A outer s H vs Q E r z;exact⟨t,h.nox,q⟩
theorem IF.binds{K:q9}{x l:c7}{st:h8}{f:d5}{d:j6}{ps:List c7}(F:IF K x l st f d)(h:∀(kV doc pm:c6) (an:Option d5) (cdv ct:c6) (us:List c6),us.length=ps.length->bindArgs (Ju x l (fq st) (bo st) (ah st) .none kV doc pm an cdv ct) ⟨us,[]⟩=pure (ps.zip us)):oZ K d ps []:=by obtain⟨oc,j,kV,doc,pm,an,cdv,ct,G,rfl,b,a⟩:=F.ex;exact .all<|h kV doc pm an cdv ct
theorem GB{K:q9}{x q:c7}{st:h8}{f:d5}{oc:c6}{j M:Option d5}{G:Array (Option c6)}{kV i U v R:c6}(l:K.lookup f=a7 ⟨oc,j,.func<|Ju x q (fq st) (bo st) (ah st) .none kV i U M v R,G⟩)(c:L5 K v q=a9) (k:JR K (.ref f)=a9):IF K x q st f (Ju x q (fq st) (bo st) (ah st) .none kV i U M v R):=⟨⟨oc,j,kV,i,U,M,v,R,G,rfl,l,c⟩,k⟩
theorem aJ(h:n<=1000):n<sizeLine:=Nat.lt_of_le_of_lt h<|by decide
theorem pv(i:Nat)(h:X.N[i]?=a7 x:=by rfl)(c:J7 X.env.scope x:=by first|exact Or.inl rfl|exact Or.inr (Or.inl rfl)|exact Or.inr<|Or.inr rfl)(a:(x==("__debug__":c7))=c5:=by decide)(d:(x==("__classdict__":c7))=c5:=by decide):PE X (.Name x pos) (tVar i):=AI h c a d
theorem bz{A B:Prop}(h:B):if c5=a9 then A else B:=by rw[n5 Iz];exact h
theorem bP{A B:Prop}(h:A):if a9=a9 then A else B:=by rw[m9 rfl];exact h
section
variable{κ:Type}[DecidableEq κ]
noncomputable def uv(kvs:List (κ×V))(k:κ):Option V:=(kvs.find? λv=>decide<|v.1=k).map (·.2)
noncomputable def putK(kvs:List (κ×V))(k:κ)(v:V):List (κ×V):=if (kvs.any λa=>decide<|a.1=k)=a9 then kvs.map (λa=>if a.1=k then(a.1,v)else a)else kvs++[(k,v)]
theorem qH{p:κ×V}{r:List (κ×V)}{k:κ}(e:p.1=k):uv (p::r) k=a7 p.2:=by simp[uv,Iq,e]
theorem qI{p:κ×V}{r:List (κ×V)}{k:κ}(e:¬p.1=k):uv (p::r) k=uv r k:=by simp[uv,Iq,e]
theorem KV.val{kvs:List (κ×V)}{vs:List (κ×c6)}(r:KV kvs vs)(k:κ):Bc (uv kvs k) (valueAt vs k):=by
 unfold KV at r;induction r with
 |nil=>exact JM
 |@cons p q ps qs h t i =>
  obtain⟨h1,h2⟩:=h;by_cases e:p.1=k;have a:q.1=k:=h1.symm.trans e;have b:valueAt (q::qs) k=a7 q.2:=by simp[valueAt,Iq,a]
  rw[qH e,b];exact h2;have a:¬q.1=k:=λz=>e<|h1.trans z;have b:valueAt (q::qs) k=valueAt qs k:=by simp[valueAt,Iq,a]
  rw[qI e,b];exact i
theorem KV.any(r:KV kvs vs)(k:κ):(kvs.any λkv=>decide<|kv.1=k)=vs.any λkv=>decide (kv.1=k):=by
 unfold KV at r;induction r with
 |nil=>rfl
 |cons h t i=>rw[List.any_cons,List.any_cons,i,h.1]
theorem KV.repl(r:KV kvs vs)(k:κ)(a:aG y u):KV (kvs.map λkv=>if kv.1=k then(kv.1,y)else kv) (vs.map λkv=>if kv.1=k then(kv.1,u)else kv):=by
 unfold KV at r ⊢;induction r with
 |nil=>exact .nil
 |@cons p q ps qs h t i=>rw[A5,A5];refine .cons ?_ i;obtain⟨h1,h2⟩:=h;by_cases e:p.1=k;rw[m9 e,m9<|h1.symm.trans e];exact⟨h1,a⟩;rw[n5 e,n5<|λz=>e<|h1.trans z];exact⟨h1,h2⟩
theorem KV.put(r:KV kvs vs)(k:κ)(i:aG y u):KV (putK kvs k y) (stored vs k u):=by unfold putK stored;rw[r.any k];by_cases e:(vs.any λv=>decide<|v.1=k)=a9;rw[m9 e,m9 e];exact r.repl k i;rw[n5 e,n5 e];exact Paired.snoc r ⟨rfl,i⟩
theorem KV.length(r:KV kvs vs):kvs.length=vs.length:=Paired.length r
end
theorem CU(r:aG (kV k) u):(bM P w).is k u=a9:=by
 cases k with
 |inl i=>obtain⟨t,e⟩:=(show ∃t,u=Value.int i t from r);subst e;exact pU P w i t
 |inr x=>obtain⟨t,e⟩:=(show ∃t,u=Value.str x t from r);subst e;exact pT P w x t
theorem oq:∀{ks:List B8}{us:List c6},ao (ks.map kV) us->ItemsAre (bM P w) ks us
 | [],_,r=>by rw[Lm]at r;cases r;exact .nil
 |k::ks,_,r=>by
  rw[A5]at r;cases r with
  |cons h t=>exact .cons (CU h)<|oq t
abbrev KT(H:Hp):List (List B8×V)->List (List B8×d5×c6)->Prop:=Paired λp q=>p.1=q.1/\H q.2.1=a7 (.tup<|p.1.map kV)/\aG p.2 q.2.2
theorem KT.val{H:Hp}{kvs:List (List B8×V)}{xs:List (List B8×d5×c6)}(r:KT H kvs xs)(k:List B8):Bc (uv kvs k) ((l5 xs k).map (·.2)):=by
 induction r with
 |nil=>exact JM
 |@cons p q ps qs h t i =>
  obtain⟨h1,_,h2⟩:=h;by_cases e:p.1=k;have a:q.1=k:=h1.symm.trans e;have b:l5 (q::qs) k=a7 q.2:=by simp[l5,Iq,a]
  rw[qH e,b];exact h2;have a:¬q.1=k:=λz=>e<|h1.trans z;have b:l5 (q::qs) k=l5 qs k:=by simp[l5,Iq,a]
  rw[qI e,b];exact i
theorem EF(ok:B9 P w H h)(e:Rd H a u):bD P w H h a u:=e.ok ok
theorem GU(ok:B9 P w H h)(e:Rd H a (.dK kvs)):kvs.length<=sizeLine/\(a==d8)=c5/\∃vs,KV kvs vs/\h.DictOf (bM P w) a vs:=show bD P w H h a (.dK kvs)from EF ok e
theorem AW(ok:B9 P w H h)(e:H a=a7 (.tup<|ks.map kV)):(tupleKind<|bM P w).is h ks a:=by
 obtain⟨_,its,r,o,h1,h2,⟨n,b⟩,_⟩:=(show bD P w H h a (.tup<|ks.map kV)from ok a _ e)
 exact⟨o,its.toArray,n,h1,h2,b,by simpa using oq r⟩
theorem GL(ok:B9 P w H h)(e:Rd H a (.dT kvs)):kvs.length<=sizeLine/\(a==d8)=c5 /\∃xs,KT H kvs xs/\h.DictOfH (tupleKind<|bM P w) a xs:=by
 obtain⟨z,y,xs,r,o,es,i,h1,h2,f,g,k⟩:=(show bD P w H h a (.dT kvs)from EF ok e)
 refine⟨z,y,xs,r,o,es,i,h1,h2,f,g,λx b=>?_,k⟩;have c:∀{l:List (List B8×V)}{m:List (List B8×d5×c6)},KT H l m->∀x∈m,(tupleKind<|bM P w).is h x.1 x.2.1:=by
  intro l m q;induction q with
  |nil=>intro x b;exact nomatch b
  |@cons p q ps qs d t j=>intro x b;rcases u8.mp b with e|b;subst e;exact AW ok (by rw[<-d.1];exact d.2.1);exact j x b
 exact c r x b
def DGet(H:Hp)(a:d5)(y:V)(r:Option V):Prop:=(∃s k,Rd H a (.dK s)/\y=kV k/\r=uv s k)\/∃s k b,Rd H a (.dT s)/\y=.ref b/\H b=a7 (.tup<|k.map kV)/\r=uv s k
theorem p0.big(I:p0 X pins σ H s):d8<s.heap.objs.size:=by have h:d9<s.heap.objs.size:=(I.mod.glob.keeps I.bk).lt;exact Nat.lt_trans (by decide) h
theorem xI(x:A.units+1<j5)(I:p0 X pins σ H s)(g:DGet H a y (a7 v))(n:aG y u)(h:∀w' s',p0 X pins σ H s'->aG v w'->Q w' s'):f9 (g7 X.prog X.w) A (k5 (.ref a) u) Q E s:=by
 rcases g with⟨m,k,e,f,l⟩|⟨m,k,b,e,f,M,l⟩
 subst f;obtain⟨z,q,vs,r,d⟩:=GU I.hok e;obtain⟨w',j,c⟩:=Bc.some_of (v:=v) (o:=valueAt vs k) (by rw[l];exact r.val k);exact wpAny_getItem_of (CU n) d.mapOf j<|h w' _ (I.tok _) c;subst f;cases (show u=ABG b from n);obtain⟨z,q,xs,r,d⟩:=GL I.hok e;obtain⟨w',j,c⟩:=Bc.some_of (v:=v) (o:=(l5 xs k).map (·.2)) (by rw[l];exact r.val k);obtain⟨p,t,i⟩:=J1.mp j;refine wpAny_getItem_heap (tupleKind_room_in1 x) (AW I.hok M) d t ?_;rw[i];exact h w' _ (I.tok _) c
theorem xH(I:p0 X pins σ H s)(m:Li (H a))(hs:IH a s.heap h')(i:∃q,h'.get? a=a7 q)(n:bD X.prog X.w (t8 H a ob) h' a ob):p0 X pins σ (t8 H a ob) { s with heap:=h',toks:=t' }:=I.write (x:=a) (e:=a) m (.inl rfl) (λb q d z=>(hs.2 b d).trans z) i n
theorem GV(z:kvs.length<=sizeLine)(d:(a==d8)=c5)(r:KV kvs vs)(k:h'.DictOf (bM P w) a vs):bD P w H' h' a (.dK kvs):=⟨z,d,vs,r,k⟩
def Eb(i:ge):Prop:=∀b a,subscripted i c5 b a=operate [b,a] (k5 b a)
theorem vq{prog:c9}{w:c8}{A:e9}{E:c6->f6->Prop}{s:f6}{env:Env}{a e:ge}{p:Pos}{T id:String}{Q:c6->f6->Prop}(l:typeLookup (.type T) "__getitem__" = pure (a7<|.builtin id)) (hs:Eb e)(h:f9 (g7 prog w) A (eval a env) (λo s₁=>f9 (g7 prog w) A (eval e env) (λi s₂=>s₂.TypeIs o T/\f9 (g7 prog w) A (k5 o i) Q E s₂) E s₁) E s):f9 (g7 prog w) A (eval (.Subscript a e p) env) Q E s:=by
 refine Subscript_<|D4 h (λo s₁ d=>D4 d (λi s₂ b=>?_) λ_ _ x=>x) λ_ _ x=>x;obtain⟨g,b⟩:=b;unfold subscriptTail;refine o8 ?_;rw[getitemInPython_of_ne g.not_modules];refine o8<|Jx g l ?_;have n:f9 (g7 prog w) A (subscripted e c5 o i) (λr c=>f9 (g7 prog w) A (letTemporaryGo a o r >>= λ_=>pure r) Q E c) E s₂:=by rw[hs o i];exact wpAny_operating<|D4 b (λr c f=>o8<|wpAny_letTemporaryGo<|p4 f) λ_ _ x=>x
 first
  |exact p4 (o8 n)
  |exact o8 (p4 (o8 n))
  |exact o8 n
theorem qr(I:p0 X pins σ H s)(g:DGet H a y o):s.TypeIs (.ref a) "dict":=by
 rcases g with⟨c,k,e,_,_⟩|⟨c,k,b,e,_,_,_⟩
 obtain⟨_,_,vs,_,d⟩:=GU I.hok e;exact d.typeIs;obtain⟨_,_,xs,_,d⟩:=GL I.hok e;exact d.typeIs
def tDGet(d t:TE):TE:=λσ H Q=>d σ H λx c=>t σ c λy b=>∃a v,x=.ref a/\DGet b a y (a7 v)/\Q v b
theorem BS(l:X.A.units+1<j5)(D:PE X o td)(hi:PE X i ty)(hs:Eb i):PE X (.Subscript o i pos) (tDGet td ty):=by intro p s σ H Q I h;refine vq PySem.F.slot_dict_getitem.lookup hs<|u3 (D p s σ H _ I h) ?_;rintro u t ⟨x,c,f,r,q⟩;refine u3 (hi p t σ c _ f q) ?_;rintro w z ⟨y,d,e,n,a,v,k,g,m⟩;subst k;obtain rfl:u=ABG a:=r;exact⟨qr e g,xI l e g n λY B j b=>⟨v,d,j,b,m⟩⟩
end L2
namespace DL
open PySem
theorem fv(env:Env):∀(names:List (c7×j8)) (acc:List (c7×d5)),(∀p∈names,p.2=HQ->∃c,env.cells.lookup p.1=a7 c) ->∃cl,(forIn (m:=Sem) names acc λ(p:c7×j8) (r:List (c7×d5)) =>
    if (p.2==HQ)=a9 then(do let a <-cellOf env p.1;pure (Ma<|(p.1,a)::r))else pure (Ma r))=pure cl /\
   (∀z c,cl.lookup z=a7 c->acc.lookup z=a7 c\/env.cells.lookup z=a7 c) /\
   (∀z c,acc.lookup z=a7 c->∃c',cl.lookup z=a7 c') /\
   (∀p∈names,p.2=HQ->∃c,cl.lookup p.1=a7 c)
 | [],acc,_=>⟨acc,rfl,λ_ _ h=>.inl h,λz c h=>⟨c,h⟩,λ_ h=>nomatch h⟩
 |(n,k)::aE,acc,hyp=>by
  by_cases hk:k=HQ;subst hk;obtain⟨c0,hc0⟩:=hyp (n,.free) z0 rfl;obtain⟨cl,e,h1,h2,h3⟩:=fv env aE ((n,c0)::acc) λp hp=>hyp p<|w6 _ hp;have ce:cellOf env n=pure c0:=by unfold cellOf;rw[hc0]
  have own:∃c',cl.lookup n=a7 c':=h2 n c0 (by simp[JU]);refine⟨cl,?_,λz c hz=>?_,λz c hz=>?_,λp hp hf=>?_⟩;rw[L9];simp only[o7,o5,ce,pure_bind];exact e;rcases h1 z c hz with q|q;rw[JU]at q;by_cases hz':(z==n)=a9;rw[hz']at q;have:z=n:=by simpa using hz'
  subst this;cases q;exact .inr hc0;have hz'':(z==n)=c5:=by simpa using hz'
  rw[hz'']at q;exact .inl q;exact .inr q;by_cases hz':z=n;subst hz';exact own;refine h2 z c ?_;rw[JU];have hz'':(z==n)=c5:=by simpa using hz'
  rw[hz''];exact hz;rcases u8.mp hp with rfl|hp;exact own;exact h3 p hp hf;have hb:(k==HQ)=c5:=by simpa using hk
  obtain⟨cl,e,h1,h2,h3⟩:=fv env aE acc λp hp=>hyp p<|w6 _ hp;refine⟨cl,?_,h1,h2,λp hp hf=>?_⟩;rw[L9];simp only[hb,z6,o4,pure_bind];exact e;rcases u8.mp hp with rfl|hp;exact n6 hf hk;exact h3 p hp hf
theorem ig(h:∀p∈scope.names,p.2=HQ->∃c,env.cells.lookup p.1=a7 c):∃cl,closureFor scope env=pure cl/\(∀z c,cl.lookup z=a7 c->env.cells.lookup z=a7 c)/\(∀p∈scope.names,p.2=HQ->∃c,cl.lookup p.1=a7 c):=by obtain⟨cl,e,h1,h2,a⟩:=fv env scope.names [] h;refine⟨cl,?_,λz c b=>?_,a⟩;unfold closureFor;simp only[bind_pure];exact e;rcases h1 z c b with q|q;simp at q;exact q
theorem dL{env:Env}:∀{names:List (c7×j8)}{x:c7}{k:j8},(names.map λ(p:c7×j8)=>if (p.2==HQ&&env.scope.kind==.function&&env.kindOf p.1==a7 .cell)=a9 then(p.1,JO)else(p.1,p.2)).lookup x=a7 k ->(names.lookup x=a7 k\/(k=JO/\names.lookup x=a7 .free))
 | [],_,_,h=>by simp at h
 |(n,j)::aE,x,k,h=>by
  have ih:=@dL env aE x k;rw[A5,JU]at h;by_cases hx:(x==n)=a9;have hl:List.lookup x ((n,j)::aE)=a7 j:=by rw[JU,hx]
  rw[hl];by_cases hc:(j==HQ&&env.scope.kind==.function&&env.kindOf n==a7 .cell)=a9;simp only[hc,o5,hx]at h;cases h;have:j=HQ:=by simp only[C5]at hc;simpa using hc.1.1
  exact .inr ⟨rfl,by rw[this]⟩;simp only[hc,z6,o4,hx]at h;exact .inl h;have hx':(x==n)=c5:=by simpa using hx
  have hl:List.lookup x ((n,j)::aE)=List.lookup x aE:=by rw[JU,hx']
  rw[hl];refine ih ?_;by_cases hc:(j==HQ&&env.scope.kind==.function&&env.kindOf n==a7 .cell)=a9;simp only[hc,o5,hx']at h;exact h;simp only[hc,z6,o4,hx']at h;exact h
theorem lB(s:List ge)(env:Env):compTests s env =
  (forIn s a9 λc r=>if r=a9 then do let ok <-isTrue c env (eval c env);pure (Ma ok)else pure (Ma r)):=by unfold compTests;simp only[bind_pure]
theorem ul(J:Nat->f6->Prop)(G:c6->f6->Prop)(b:∀e s',G e s'->notedBy (g7 prog w) A env (λe s'=>R (.error e) s') e s')(t:∀n s,J n s->f9 (g7 prog w) A (i7 it) (λr s1=>match r with
   |none=>R (.ok .next) s1
   |some v=>f9 (g7 prog w) A (i8 target it v) (λ_ s2=>f9 (g7 prog w) A (i5 target env v) (λ_ s3 =>
     f9 (g7 prog w) A (compTests ifs env) (λok s4 =>
      if ok=a9 then f9 (g7 prog w) A (eval elt env) (λy s5=>f9 (g7 prog w) A (call (.builtin "list.append") [acc,y]) (λ_ s6=>∃m,m<n/\J m s6) G s5) G s4
      else ∃m,m<n/\J m s4) G s3) G s2) G s1) G s)
  (n:Nat) (h:J n s):j7 (g7 prog w) A (.compLoop (.ListComp elt [⟨target,iter,ifs,0⟩] scope pos) 0 it acc env) R s:=by
 refine codeAny_loop rfl J (λn s f=>?_) n h;show f9 _ A ((compTurn (.ListComp elt [⟨target,iter,ifs,0⟩] scope pos) 0 it acc env).onRaise<|λx=>do noteFrame x env;theTreesLotGoes x) _ _ s;refine wpAny_noted ?_;rw[compTurn_list];refine o8<|wpAny_standAt<|o8<|D4 (t n s f) (λr s1 h1=>?_) b;cases r with
 |none=>exact p4 h1
 |some v =>
  refine o8<|D4 h1 (λ_ s2 h2=>?_) b;refine o8<|D4 h2 (λ_ s3 a=>?_) b;rw[lB]at a;refine o8<|D4 a (λok s4 d=>?_) b;cases ok with
  |false=>exact p4 ⟨rfl,d⟩
  |true=>exact o8<|o8<|D4 d (λy s5 k=>o8<|D4 k (λ_ s6 c=>p4<|p4 ⟨rfl,c⟩) b) b
end DL
namespace L2
open PySem PySem.Spec PyProof.Rows DL
theorem hV{env:Env}:∀{names:List (c7×j8)}{x:c7},names.lookup x=a7 .free ->((names.map λ(p:c7×j8)=>if (p.2==HQ&&env.scope.kind==.function&&env.kindOf p.1==a7 .cell)=a9 then(p.1,JO)else(p.1,p.2)).lookup x=a7 .cell \/ (names.map λ(p:c7×j8)=>if (p.2==HQ&&env.scope.kind==.function&&env.kindOf p.1==a7 .cell)=a9 then(p.1,JO)else(p.1,p.2)).lookup x=a7 .free)
 | [],_,h=>by simp at h
 |(n,j)::aE,x,h=>by
  have ih:=@hV env aE x;rw[A5,JU];rw[JU]at h;by_cases hc:(j==HQ&&env.scope.kind==.function&&env.kindOf n==a7 .cell)=a9;by_cases hx:(x==n)=a9;simp[hc,hx];have hx':(x==n)=c5:=by simpa using hx
  rw[hx']at h;simp only[hc,o5,hx'];exact ih h;by_cases hx:(x==n)=a9;rw[hx]at h;cases h;right;simp only[hc,z6,o4,hx];have hx':(x==n)=c5:=by simpa using hx
  rw[hx']at h;simp only[hc,z6,o4,hx'];exact ih h
noncomputable def x6(X:Cx)(N':List c7)(scope:f7)(l:List (c7×d5))(s₀:f6)(H₀:Hp)(ex:List d5):Cx:={ X with N:=N',s₀:=s₀,H₀:=H₀,env:=compEnvC scope l s₀.heap.objs.size X.env,outer:=X.stack,ex:=ex,fn:=λx=>scope.names.lookup x==a7 .cell,pn:=[],xe:=λ_ _=>False }
structure BlkSc(X:Cx)(N':List c7)(nt:Nat)(js:List Nat)(scope:f7):Prop where
 kind:scope.kind=.function
 nocell:∀y∈scope.names,y.2≠.cell
 loc:∀y∈scope.names,y.2=.local->scope.names.lookup y.1=a7 .local
 free:∀y∈scope.names,y.2=.free->(X.env.kindOf y.1=a7 .cell\/X.env.kindOf y.1=a7 .free)
 len:N'.length=nt+js.length
 fr:∀(k j:Nat),js[k]?=a7 j->∃x,N'[nt+k]?=a7 x/\X.N[j]?=a7 x/\scope.names.lookup x=a7 .free/\(X.env.kindOf x=a7 .cell\/X.env.kindOf x=a7 .free)
noncomputable def bst(t:Nat)(s:List Nat)(σ:St):St:=Lq t a8++s.map λj=>(σ[j]?).join
theorem xT(t:Nat)(s:List Nat)(σ:St):(bst t s σ).length=t+s.length:=by simp[bst]
theorem DH(h:(bst nt js σ)[i]?=a7 (a7 v)):∃k j,i=nt+k/\js[k]?=a7 j/\σ[j]?=a7 (a7 v):=by
 unfold bst at h;by_cases hi:i<nt;rw[G6 (by simpa using hi),My]at h;simp[hi]at h;rw[IB (by simpa using Ji.mp hi),Mu,C2]at h;cases e:js[i-nt]? with
 |none=>rw[e]at h;cases h
 |some j =>
  rw[e]at h;refine⟨i-nt,j,by lia,e,?_⟩;have h':(σ[j]?).join=a7 v:=by simpa using h
  cases q:σ[j]? with
  |none=>rw[q]at h';cases h'
  |some o=>rw[q]at h';exact o6 a7 h'
def IX(X:Cx)(i:List ge)(t:TT):Prop:=∀(p:List (d5×d6)) (s:f6) (σ:St) (H:Hp) (Q:Bool->Hp->Prop),p0 X p σ H s->t σ H Q->f9 (g7 X.prog X.w) X.A (compTests i X.env) (TP X p σ Q) X.xe s
def ttNil:TT:=λ_ H Q=>Q a9 H
theorem BH:IX X [] ttNil:=λp s σ H Q I h=>by rw[lB];exact wpAny_tests_nil ⟨H,I,h⟩
theorem BG(h:PT X c t):IX X [c] t:=λp s σ H Q I q=>by rw[lB];exact wpAny_tests_one<|h p s σ H Q I q
def LN(t:Nat)(s:List Nat)(wi:TI)(g:TG)(tt:TT)(te:TE):TE:=λσ H Q=>wi σ H λJ e=>∃W:Nat->Nat->List V->St->Hp->Prop,(∃m,W 0 m [] (bst t s σ) e) /\∀i m vs τ H,W i m vs τ H->(J.stop i H/\∀p,H p=a8->Q (.ref p) (t8 H p<|.lst vs)) \/(J.go i H/\∀x H',J.yld i H x H'->g x τ H' λa f=>tt a f λb d=>if b=a9 then te a d λy h=>vs.length<sizeLine/\∃c,c < m/\W (i+1) c (vs++[y]) a h else ∃c,c < m/\W (i+1) c vs a d)
noncomputable abbrev bO(its:List c6)(k:Nat):d6:={ cls:=.type "list",data:=.seq its.toArray k }
structure TurnX(X:Cx)(tg:ge)(J:It)(fp:List d5)(it:d5)(tn:Nat->d7->Prop):Prop where
 item:∀(i:Nat) (pins:List (d5×d6)) (s:f6) (σ:St) (H:Hp) (E:c6->f6->Prop),p0 X pins σ H s->(∀b∈fp,oY X pins H b)->tn i s.heap->J.go i H ->f9 (g7 X.prog X.w) X.A (i7<|.ref it) (λr s1=>∃u,r=a7 u /\ f9 (g7 X.prog X.w) X.A (i8 tg (.ref it) u) (λ_ s2=>∃x H',p0 X pins σ H' s2/\aG x u/\J.yld i H x H'/\tn (i+1) s2.heap/\∀b∈fp,H' b=a8) E s1) E s
 done:∀(i:Nat) (pins:List (d5×d6)) (s:f6) (σ:St) (H:Hp) (E:c6->f6->Prop),p0 X pins σ H s->(∀b∈fp,oY X pins H b)->tn i s.heap->J.stop i H ->f9 (g7 X.prog X.w) X.A (i7<|.ref it) (λr s1=>r=a8/\p0 X pins σ H s1) E s
theorem Turn.at(T:Turn X.prog X.w X.K tg J fp it tn)(f:X.calm=a9):TurnX X tg J fp it tn:=⟨T.item X rfl rfl rfl f,T.done X rfl rfl rfl f⟩
theorem p0.blkOk(B:BlkSc X N' nt js scope)(I:p0 X pins σ H s)(a:∀z c,cl.lookup z=a7 c->X.env.cells.lookup z=a7 c) (f:∀p∈scope.names,p.2=HQ->∃c,cl.lookup p.1=a7 c) (i:∀b∈fp,oY X pins H b) (j:∀b∈fp,b<s.heap.objs.size):(x6 X N' scope cl { s with heap:=s.heap.push ob } H<|s.heap.objs.size::fp).Ok:=by
 have J:p0 X pins σ H { s with heap:=s.heap.push ob }:=I.kept (t':=s.toks) λb o e=>u4 _ e;have ltc:∀z c,cl.lookup z=a7 c->c<s.heap.objs.size:=λz c e=>by obtain⟨v,q⟩:=I.cell z c<|a z c e;exact q.lt
 have C:(s.heap.push ob).objs.size=s.heap.objs.size+1:=HH ..;refine⟨I.ok.mod,B.kind,I.ok.glob,I.ok.blt,t6 _,λy z c h1 h2=>I.ok.inj y z c (a y c h1)<|a z c h2,λy Q=>?_,λy c h=>?_,I.ok.hd,I.ok.frames,.inl rfl,λb d=>?_,λb o e=>?_,?_,λb o e d=>?_,λb d=>?_,J.stack,I.stkFree⟩;have l:scope.names.lookup y=a7 .free:=by
  rcases Q with Q|Q;rcases dL (env:=X.env) (names:=scope.names) (x:=y) (k:=.cell) Q with q|⟨_,q⟩
  exact n6 rfl<|B.nocell _<|JB q;exact q;rcases dL (env:=X.env) (names:=scope.names) (x:=y) (k:=.free) Q with q|⟨q,_⟩
  exact q;cases q
 exact f (y,.free) (JB l) rfl;exact n6 rfl<|B.nocell _<|JB<|beq_iff_eq.mp<|show (scope.names.lookup y==a7 JO)=a9 from h;show b≠(s.heap.push ob).objs.size/\∀x c,cl.lookup x=a7 c->c≠b;rw[C];rcases u8.mp d with rfl|d;exact⟨v7<|HJ _,λx c e=>v7<|ltc x c e⟩;exact⟨v7<|JX<|j b d,λx c e=>(i b d).2.2.2.2.1 x c<|a x c e⟩;exact⟨u4 _ (I.bs b o e).1,(I.bs b o e).2⟩;show X.base.objs.size<=(s.heap.push ob).objs.size;rw[C];exact Nat.le_succ_of_le<|F6 I.ok.bsz I.sz;rcases u8.mp d with rfl|d;exact n6 (u7 (I.bs _ o e).1)<|D5 _;rcases(i b d).2.2.2.1 with z|z;exact I.ok.noex b o e z;exact n6 (D6 (u7 (I.ok.bs b o e).1) z)<|D5 _;intro m;have g:=I.stkSub b m;rcases u8.mp d with rfl|d;rcases u8.mp g with q|q;exact n6 I.lt (by rw[<-q];exact D5 _);exact I.nofs (t6 _) q;rcases u8.mp g with q|q;exact(i b d).2.1 q;exact(i b d).2.2.1 q
theorem p0.blkStart(B:BlkSc X N' nt js scope)(I:p0 X pins σ H s)(a:∀z c,cl.lookup z=a7 c->X.env.cells.lookup z=a7 c) (f:∀p∈scope.names,p.2=HQ->∃c,cl.lookup p.1=a7 c) (J:∀b∈fp,oY X pins H b) (m:∀b∈fp,b<s.heap.objs.size)(g:∀b o,(s.heap.push<|bO [] 0).get? b=a7 o->h1.get? b=a7 o) (K:h1.Ns (s.heap.push<|bO [] 0).objs.size mm):p0 (x6 X N' scope cl { s with heap:=s.heap.push (bO [] 0) } H<|s.heap.objs.size::fp) [(s.heap.objs.size,bO [] 0)] (bst nt js σ) H { s with heap:=h1,toks:=tk }:=by
 have d:∀b o,s.heap.get? b=a7 o->h1.get? b=a7 o:=λb o e=>g b o<|u4 _ e;have C:(s.heap.push<|bO [] 0).objs.size=s.heap.objs.size+1:=HH ..;refine⟨I.blkOk B a f J m,rfl,I.bare,Un.kept g,⟨mm,K,λi x v D E T=>?_⟩,λx c e=>?_,?_,λx c e=>I.freeC x c<|a x c e,λp N=>?_,I.hok.kept d,?_⟩;obtain⟨k,j,rfl,L,t⟩:=DH E;obtain⟨S,Q,R,A,y⟩:=B.fr k j L;have F:x=S:=A1<|D.symm.trans Q;subst F;obtain⟨W,M,n⟩:=I.loc;have w:J7 X.env.scope x:=y.elim (λz=>.inr<|.inl z) λz=>.inr<|.inr z;obtain⟨u,r,h⟩:=n j x v R t w;refine⟨u,r,?_⟩;rcases h with⟨q,_⟩|⟨q,c,G,l⟩
 rcases y with z|z<;>(rw[q]at z;cases z)
 obtain⟨U,O⟩:=f (x,.free) (JB A) rfl;have:U=c:=A1<|(a x U O).symm.trans G;subst this;exact .inr ⟨hV (env:=X.env) A,U,O,l.keeps d⟩;obtain⟨v,q⟩:=I.cell x c<|a x c e;exact⟨v,q.keeps d⟩;exact I.hok.fresh (by show s.heap.objs.size<=(s.heap.push<|bO [] 0).objs.size;rw[C];exact KM _);have e:p=(s.heap.objs.size,bO [] 0):=by simpa [x6]using N
 subst e;refine⟨g _ _<|v8 _ rfl,I.hok.fresh<|t6 _,?_,?_,λv z=>by cases z⟩;show s.heap.objs.size≠(s.heap.push<|bO [] 0).objs.size;rw[C];exact v7<|HJ _;intro P;rcases u8.mp (I.stkSub _ P)with q|q;exact n6 I.lt (by rw[<-q];exact D5 _);exact I.nofs (t6 _) q;rw[xT];exact B.len.symm
theorem p0.blkEnd(I:p0 X pins σ H s)(E:∀b∈fp,oY X pins H b)(m:p0 (x6 X N' scope cl { s with heap:=s.heap.push (bO [] 0) } H<|s.heap.objs.size::fp) [(s.heap.objs.size,bO its k)] τ H' s')(L:ao vs its) (F:vs.length<=sizeLine) (U:IH (s.heap.push<|bO [] 0).objs.size s'.heap h'):p0 X pins σ (t8 H' s.heap.objs.size<|.lst vs) { s' with heap:=h' }:=by
 have l:(s.heap.push<|bO [] 0).objs.size=s.heap.objs.size+1:=HH ..;have C:s.heap.objs.size≠(s.heap.push<|bO [] 0).objs.size:=by rw[l];exact v7<|HJ _
 obtain⟨K,D,_⟩:=m.pin (s.heap.objs.size,bO its k) (by simp[x6]);have i:s'.heap.get? s.heap.objs.size=a7 (bO its k):=K;have f:H' s.heap.objs.size=a8:=D;have j:H' (s.heap.push<|bO [] 0).objs.size=a8:=m.free;have u:Un (G0 X.stack) (s.heap.objs.size::fp) H H' (s.heap.push<|bO [] 0) s'.heap:=m.base;have G:∀b o,s.heap.get? b=a7 o->b≠s.heap.objs.size/\b≠(s.heap.push<|bO [] 0).objs.size:=λb o e=>by have:=u7 e;exact⟨v7 this,by rw[l];exact v7<|JX this⟩
 have p:∀b o,s.heap.get? b=a7 o->(s.heap.push<|bO [] 0).get? b=a7 o:=λb o e=>u4 _ e;have g:∀b o,s.heap.get? b=a7 o->b∉fp->b∉s.heap.objs.size::fp:=λb o e x J=>by rcases u8.mp J with q|q;exact(G b o e).1 q;exact x q
 refine I.call' (s':={ s' with heap:=h' }) (ch:=fp) m.os ⟨λb o e n d x=>?_,λb o e n d x=>?_,λb o e n x=>?_,λb o e x=>?_,λb xs e=>?_,λb o w e=>?_,λb ps e=>?_⟩ (λb w q=>?_) m.bare λb d=>?_;exact(U.2 b (G b o e).2).trans<|u.keep b o (p b o e) n d<|g b o e x;obtain⟨M,z⟩:=u.slot b o (p b o e) n d<|g b o e x;exact⟨M,(U.2 b (G b o e).2).trans z⟩;rw[af (G b o e).1];exact u.free b o (p b o e) n<|g b o e x;obtain⟨o',z⟩:=u.there b o (p b o e)<|g b o e x;exact⟨o',(U.2 b (G b o e).2).trans z⟩;have z:=u.tups b xs e;rw[af<|ac z f];exact z;have z:=u.frzs b o w e;rw[af<|ac z f];exact z;obtain⟨a,z⟩:=u.tbls b ps e;exact⟨a,by rw[af<|ac z f];exact z⟩;by_cases d:b=s.heap.objs.size;subst d;rw[aB]at q;cases q;exact⟨F,its,k,L,(U.2 _ C).trans i⟩;rw[af d]at q;refine(m.hok b w q).stay (λc v h r=>(U.2 c ?_).trans r) (λc z=>by rw[af<|ac z f];exact z) λc xs z=>by rw[af<|ac z f];exact z
 rcases h with rfl|h;exact ac q j;exact ac h j;obtain⟨_,t,_,y,A,B⟩:=E b d;exact⟨y,t,A,B⟩
theorem wO{C tg O:ge}{N:List ge}{scope:f7}{aT:Pos}{N':List c7}{l:List (c7×d5)}{J:It}{fp:List d5}{it:d5}{tn:Nat->d7->Prop}{g:TG}{tt:TT}{te:TE}{Q:VK}{W:Nat->Nat->List V->St->Hp->Prop}{R:Result->f6->Prop}{s0:f6}{H0:Hp}{D:d5} (TX:TurnX (x6 X N' scope l s0 H0<|D::fp) tg J fp it tn)(hg:PG (x6 X N' scope l s0 H0<|D::fp) tg g) (ht:IX (x6 X N' scope l s0 H0<|D::fp) N tt) (he:PE (x6 X N' scope l s0 H0<|D::fp) C te)(T:Turn X.prog X.w X.K tg J fp it tn) (M:D∉fp)(U:∀i m vs τ H,W i m vs τ H->(J.stop i H/\∀p,H p=a8->Q (.ref p) (t8 H p<|.lst vs)) \/ (J.go i H/\∀x H',J.yld i H x H'->g x τ H' λτ2 H2=>tt τ2 H2 λb f=>if b=a9 then te τ2 f λy H4=>vs.length<sizeLine/\∃m',m' < m/\W (i+1) m' (vs++[y]) τ2 H4 else ∃m',m' < m/\W (i+1) m' vs τ2 f))(t:∀b∈fp,b≠s0.heap.objs.size/\b∉G0 X.stack/\∀x c,l.lookup x=a7 c->c≠b) (L:D≠s0.heap.objs.size) (aD:D∉G0 X.stack) (as:∀x c,l.lookup x=a7 c->c≠D)(aj:∀τ H' s' vs its k,p0 (x6 X N' scope l s0 H0<|D::fp) [(D,bO its k)] τ H' s'->ao vs its->vs.length<=sizeLine->Q (.ref D) (t8 H' D<|.lst vs)->R (.ok .next) s')
  (m0:Nat) {s:St}{s3:f6}{f:Hp} (I3:p0 (x6 X N' scope l s0 H0<|D::fp) [(D,bO [] 0)] s f s3) (bl:tn 0 s3.heap) (al:∀b∈fp,f b=a8) (w0:W 0 m0 [] s f) :
  j7 (g7 X.prog X.w) X.A (.compLoop (.ListComp C [⟨tg,O,N,0⟩] scope aT) 0 (.ref it) (.ref D)<|compEnvC scope l s0.heap.objs.size X.env) R s3:=by
 have h:∀{ob:d6}{H':Hp},(∀b∈fp,H' b=a8)->∀b∈fp,oY (x6 X N' scope l s0 H0<|D::fp) [(D,ob)] H' b:=λ{ob H'} hn b d=>by
  obtain⟨a1,a2,a3⟩:=t b d;refine⟨hn b d,a1,a2,.inl<|w6 _ d,a3,λp j z=>?_⟩;have e:p=(D,ob):=by simpa [x6]using j
  subst e;exact M<|by rw[show D=b from z];exact d
 refine ul (λn s'=>∃i τ H' vs its k,p0 (x6 X N' scope l s0 H0<|D::fp) [(D,bO its k)] τ H' s'/\tn i s'.heap/\(∀b∈fp,H' b=a8)/\ao vs its/\vs.length<=sizeLine/\W i n vs τ H') (λ_ _=>False) (λ_ _ z=>z.elim) ?_ m0 ⟨0,s,f,[],[],0,I3,bl,al,.nil,v9 _,w0⟩;rintro n s' ⟨i,τ,H',vs,its,k,I',P,I,rv,hl,w'⟩;rcases U i n vs τ H' w' with⟨stop,q⟩|⟨go,S⟩
 refine u3 (TX.done i _ s' τ H' (λ_ _=>False) I' (h I) P stop) ?_;rintro r s4 ⟨hr,I4⟩;subst hr;exact aj τ H' s4 vs its k I4 rv hl<|q D (I'.pin (D,bO its k)<|by simp[x6]).2.1;refine u3 (TX.item i _ s' τ H' (λ_ _=>False) I' (h I) P go) ?_;rintro r s4 ⟨u,hr,h4⟩;subst hr;refine u3 h4 ?_;rintro _ s5 ⟨x,H5,I5,r5,y5,B,an⟩;have ai:=I5.pinned (h an)<|T.obj _ _ B;refine u3 (hg _ s5 τ H5 x u _ ai r5<|S x H5 y5) ?_;rintro _ s6 ⟨a,H6,I6,q6⟩;refine u3 (ht _ s6 a H6 _ I6 q6) ?_;rintro ok s7 ⟨H7,Z,q7⟩;have F:∀{b:d5}{o:d6},b∈fp->s5.heap.get? b=a7 o->(b,o)∈(x6 X N' scope l s0 H0<|D::fp).pn++([(D,bO its k)]++fQ fp s5.heap):=λd e=>A8 _<|A8 _<|eJ d e;cases ok with
 |false =>
  obtain⟨m',hm,w7⟩:=(show ∃m',m' < n/\W (i+1) m' vs a H7 from q7)
  refine⟨m',hm,i+1,a,H7,vs,its,k,Z.unpinned,T.keep _ _ _ B λb d o e=>(Z.pin (b,o)<|F d e).1,λb d=>?_,rv,hl,w7⟩;obtain⟨o,e,_⟩:=T.obj _ _ B b d;exact(Z.pin (b,o)<|F d e).2.1
 |true =>
  refine u3 (he _ s7 a H7 _ Z q7) ?_;rintro yv s8 ⟨y,Y,I8,r8,q8⟩;obtain⟨aS,m',hm,w8⟩:=q8;obtain⟨oD,fD,_⟩:=I8.pin (D,bO its k) (A8 _<|E3 _<|by simp);have E:Y D=a8:=fD;refine append_at (its:=its.toArray) (n:=k) oD (λh9 bk o9=>?_) (by rw[v6,<-rv.length];exact hl);have J8:p0 (x6 X N' scope l s0 H0<|D::fp) (fQ fp s5.heap) a Y s8:=I8.pins_of λp j=>I8.pin p<|A8 _<|A8 _ j;have J9:p0 (x6 X N' scope l s0 H0<|D::fp) (fQ fp s5.heap) a Y { s8 with heap:=h9 }:=J8.turned (t':=s8.toks) (it:=D) (λb o d e=>(bk.2 b d).trans e) E L (.inl z0) as λp j z=>by
   have aP:p∈fQ fp s5.heap:=by simpa [x6]using j
   exact M<|by rw[<-z];exact(nR aP).1
  have G:∀{b:d5}{o:d6},b∈fp->s5.heap.get? b=a7 o->(b,o)∈(x6 X N' scope l s0 H0<|D::fp).pn++fQ fp s5.heap:=λd e=>A8 _<|eJ d e;refine⟨m',hm,i+1,a,Y,vs++[y],its++[yv],k+1,J9.pins_of λp j=>?_,T.keep _ _ _ B λb d o e=>(J9.pin (b,o)<|G d e).1,λb d=>?_,rv.append<|.cons r8 .nil,?_,w8⟩;have e:p=(D,bO (its++[yv])<|k+1):=by simpa using j
  subst e;refine⟨?_,E,L,aD,λv z=>by cases z⟩;rw[show bO (its++[yv]) (k+1)=({ cls:=.type "list",data:=.seq (its.toArray.push yv) (k+1) }:d6) by rw[List.push_toArray]];exact o9;obtain⟨o,e,_⟩:=T.obj _ _ B b d;exact(J9.pin (b,o)<|G d e).2.1;rw[v4];exact aS
def PIG(X:Cx)(P:It->List d5->d5->(Nat->d7->Prop)->Prop)(r:ge)(wi:TI):Prop:=∀(p:List (d5×d6)) (s:f6) (σ:St) (H:Hp) (R:It->Hp->Prop),p0 X p σ H s->wi σ H R ->f9 (g7 X.prog X.w) X.A (eval r X.env) (λv f=>f9 (g7 X.prog X.w) X.A (i9 v) (λi a=>∃it C tn J H',i=.ref it/\p0 X p σ H' a/\P J C it tn/\tn 0 a.heap/\(∀b∈C,oY X p H' b)/\R J H') X.xe f) X.xe s
theorem Fc(B:BlkSc X N' nt js scope)(V:∀J fp it tn,PP J fp it tn->Turn X.prog X.w X.K tg J fp it tn/\∀pins σ H s cl s0 ex,p0 X pins σ H s->TurnX (x6 X N' scope cl s0 H ex) tg J fp it tn)(hi:PIG X PP iter wi)(hg:∀cl s0 H0 ex,PG (x6 X N' scope cl s0 H0 ex) tg g) (ht:∀cl s0 H0 ex,IX (x6 X N' scope cl s0 H0 ex) ifs tt) (Y:∀cl s0 H0 ex,PE (x6 X N' scope cl s0 H0 ex) elt te)(hs:∀x,j1 iter X.env x=pure x:=by intro _;rfl):PE X (.ListComp elt [⟨tg,iter,ifs,0⟩] scope pos) (LN nt js wi g tt te):=by
 intro pins s σ H Q I h;rw[eval_ListComp];obtain⟨cl,E,d,m⟩:=ig (scope:=scope) (env:=X.env) λp hp Z=>I.ok.has p.1<|B.free p hp Z;refine wpAny_comprehension_free (use:=a8) rfl hs E B.kind B.loc ?_;refine u3 (hi pins s σ H _ I h) λv s1 h1=>u3 h1 λai a h2=>?_;obtain⟨it,fp,tn,J,P,e,f,T,U,N,W,⟨m0,w0⟩,D⟩:=h2;obtain⟨T,S⟩:=V _ _ _ _ T;subst e;refine F8<|wpAny_newFunctionEnv B.nocell (by intro y hy;simp at hy) (λh1 n r=>?_) B.kind;have j:∀b∈fp,b<a.heap.objs.size:=λb i=>by obtain⟨o,e,_⟩:=T.obj _ _ U b i;exact u7 e
 have O:(a.heap.push<|bO [] 0).objs.size=a.heap.objs.size+1:=HH ..;have u:∀b o,(a.heap.push<|bO [] 0).get? b=a7 o->h1.get? b=a7 o:=λb o e=>(r.2 b<|v7<|u7 e).trans<|u4 _ e;have R:=f.blkStart (tk:=a.toks+([]:List (c7×c6)).length) B d m N j u n;have C:tn 0 h1:=T.keep _ _ _ U λb _ o e=>u b o<|u4 _ e;have M:a.heap.objs.size∉fp:=λz=>D5 _<|j _ z;have G:a.heap.objs.size∉G0 X.stack:=λz=>by rcases u8.mp (f.stkSub _ z)with q|q;exact n6 f.lt (by rw[<-q];exact D5 _);exact f.nofs (t6 _) q
 have F:a.heap.objs.size≠(a.heap.push<|bO [] 0).objs.size:=by rw[O];exact v7<|HJ _
 have ltc:∀z c,cl.lookup z=a7 c->c<a.heap.objs.size:=λz c e=>by obtain⟨v,q⟩:=f.cell z c<|d z c e;exact q.lt
 have t:∀b∈fp,b≠(a.heap.push<|bO [] 0).objs.size/\b∉G0 X.stack/\∀x c,cl.lookup x=a7 c->c≠b:=λb i=>by refine⟨by rw[O];exact v7<|JX<|j b i,λz=>?_,λx c e=>(N b i).2.2.2.2.1 x c<|d x c e⟩;rcases u8.mp (f.stkSub b z)with q|q;exact(N b i).2.1 q;exact(N b i).2.2.1 q
 have l:j7 (g7 X.prog X.w) X.A (.compLoop (.ListComp elt [⟨tg,iter,ifs,0⟩] scope pos) 0 (.ref it) (.ref a.heap.objs.size)<|compEnvC scope cl (a.heap.push<|bO [] 0).objs.size X.env) (compPost (g7 X.prog X.w) X.A X.xe a8 (EP X pins σ Q) (.ref a.heap.objs.size) (a.heap.push<|bO [] 0).objs.size) { a with heap:=h1,toks:=a.toks+([]:List (c7×c6)).length }:=by refine wO (s0:={ a with heap:=a.heap.push (bO [] 0) }) (H0:=P) (N':=N') (Q:=Q) (S _ _ _ _ _ _ _ f) (hg _ _ _ _) (ht _ _ _ _) (Y _ _ _ _) T M D t F G (λx c e=>v7<|ltc x c e) ?_ m0 R C (λb i=>(N b i).1) w0;intro τ H' s' vs its k L rv hl q;obtain⟨mm,hn,_⟩:=id L.loc;exact⟨mm,hn,λh' sb=>⟨.ref a.heap.objs.size,_,f.blkEnd N L rv hl sb,rfl,q⟩⟩
 exact codeAny_compStart_list l<|T.self _ 0 _ _ _ C l
theorem pe_lc{C t r:ge}{i:List ge}{scope:f7}{a:Pos}{N':List c7}{n:Nat}{j:List Nat}{wi:TI}{g:TG}{tt:TT}{te:TE}(B:BlkSc X N' n j scope)(h:X.calm=a9)(hi:PI X t r wi)(S:∀cl s0 H0 ex,PG (x6 X N' scope cl s0 H0 ex) t g) (E:∀cl s0 H0 ex,IX (x6 X N' scope cl s0 H0 ex) i tt) (e:∀cl s0 H0 ex,PE (x6 X N' scope cl s0 H0 ex) C te)(hs:∀x,j1 r X.env x=pure x:=by intro _;rfl):PE X (.ListComp C [⟨t,r,i,0⟩] scope a) (LN n j wi g tt te):=Fc B (λJ f it tn (T:Turn X.prog X.w X.K t J f it tn)=>⟨T,λ_ _ _ _ cl s0 ex _=>Turn.at T h⟩)
  (λp s σ H R I q=>u3 (hi p s σ H R I q) λv l h1=>u3 h1 λk m ⟨it,f,tn,J,H',b,c,N,d,y,A⟩=>⟨it,f,tn,J,H',b,c,N,d,y,A⟩) S E e hs
section
inductive D where
 |non|bl (b:Bool)|int (i:Int)|str (x:c7)|ty (n:String)|tup (ds:List D)|ref (n:Nat)
inductive MO where
 |lst (xs:List D)
 |fz (xs:List D)
 |kl (xs:List D)
 |dct (kvs:List (c7×D))
 |dkt (kvs:List (D×D))
 |dkq (e:Nat) (kvs:List (D×D))
 |dkm (kvs:List (D×D))
 |fdc (o:d6) (kvs:List (c7×D))
 |tb (x:c7) (b:Bool)
 |exc (x:c7) (e:d5)
noncomputable abbrev p8:=List MO
noncomputable def MO.isL:MO->Bool
 |.dct _=>c5
 |.dkt _=>c5
 |.dkq _ _=>c5
 |.fdc _ _=>c5
 |.dkm _=>c5
 |.tb _ _=>c5
 |.exc _ _=>c5
 |_=>a9
noncomputable def jI(s:List c7)(vs:List V):List (B8×V):=(s.zip vs).map λp=>(ACQ p.1,p.2)
mutual
inductive p9(K:q9)(ρ:List d5)(H:Hp):D->V->Prop
 |non:p9 K ρ H .non .non
 |bl (b:Bool):p9 K ρ H (.bl b) (.bl b)
 |int (i:Int):p9 K ρ H (.int i) (.int i)
 |str (x:c7):p9 K ρ H (.str x) (.str x)
 |ty (n:String):p9 K ρ H (.ty n) (.ty n)
 |tup {a:d5}{vs:List V}{ds:List D} (h:x9 K H a vs) (r:Reps K ρ H ds vs):p9 K ρ H (.tup ds) (.ref a)
 |ref {n:Nat}{a:d5} (h:ρ[n]?=a7 a):p9 K ρ H (.ref n) (.ref a)
inductive Reps(K:q9)(ρ:List d5)(H:Hp):List D->List V->Prop
 |nil:Reps K ρ H [] []
 |cons {d:D}{v:V}{ds:List D}{vs:List V} (h:p9 K ρ H d v) (t:Reps K ρ H ds vs):Reps K ρ H (d::ds) (v::vs)
end
def KList(K:q9)(a:d5)(xs:List V):Prop:=∃(o:d6) (its:Array c6) (n:Nat),K.lookup a=a7 o/\o.cls=.type "list"/\o.dict=a8/\o.data=.seq its n/\its.size<=sizeLine/\ao xs its.toList
noncomputable def cb:Nat->D->Bool
 |_,.str _=>a9
 |_,.int _=>a9
 |n+1,.tup ds=>ds.all<|cb n
 |_,_=>c5
noncomputable def x3(w:c8):Nat->D->Int
 |_,.str x=>hashStr w x
 |_,.int i=>hashInt i
 |n+1,.tup ds=>l6<|KB<|ds.map<|x3 w n
 |_,_=>0
def dX(a:d5)(xs:List (D×d5×c6)):c9->c8->d7->Prop:=λ_ w h =>
 ∃(o:d6) (es:Array l7),h.get? a=a7 o/\o.ExactDict/\o.data=.dict es xs.length/\es.toList=xs.map λx=>⟨x3 w 8 x.1,.ref x.2.1,x.2.2⟩
def dQ(a:d5)(e:Nat)(xs:List (D×d5×c6)):c9->c8->d7->Prop:=λ_ w h =>
 ∃(o:d6) (es:Array l7),h.get? a=a7 o/\o.ExactDict/\o.data=.dict es e/\es.toList=xs.map λx=>⟨x3 w 8 x.1,.ref x.2.1,x.2.2⟩
noncomputable def tT:D->Bool
 |.non=>a9
 |.tup ks=>cb 8<|.tup ks
 |_=>c5
noncomputable def JH(w:c8):D->Int
 |.non=>l6 0xFCA86420
 |d=>x3 w 8 d
noncomputable def xD(hs:D->Int)(x:D×c6×c6):l7:=⟨hs x.1,x.2.1,x.2.2⟩
def dM(a:d5)(xs:List (D×c6×c6)):c9->c8->d7->Prop:=λ_ w h =>
 ∃(o:d6) (es:Array l7),h.get? a=a7 o/\o.ExactDict/\o.data=.dict es xs.length/\es.toList=xs.map (xD<|JH w)
def Ik(K:q9)(ρ:List d5)(H:Hp)(p:D×D)(q:D×c6×c6):Prop:=p.1=q.1/\tT p.1=a9/\(∃u,p9 K ρ H p.1 u/\aG u q.2.1)/\∃v,p9 K ρ H p.2 v/\aG v q.2.2
def uu(K:q9)(ρ:List d5)(H:Hp)(p:D×D)(q:D×d5×c6):Prop:=p.1=q.1/\cb 8 p.1=a9/\p9 K ρ H p.1 (.ref q.2.1)/\∃v,p9 K ρ H p.2 v/\aG v q.2.2
def MU(o:d6)(C:c6):Prop:=o.cls=C/\∃vs,o.data=.fields vs/\vs[2]?=a7 .none
def uy(K:q9)(ρ:List d5)(H:Hp)(a:d5):MO->Prop
 |.lst ds=>∃vs,H a=a7 (.lst vs)/\Reps K ρ H ds vs
 |.fz ds=>∃o vs,H a=a7 (.frz o<|.lst vs)/\Reps K ρ H ds vs
 |.kl ds=>∃vs,KList K a vs/\Reps K ρ H ds vs
 |.dct kvs=>∃vs,H a=a7 (.dK (jI (kvs.map (·.1)) vs))/\Reps K ρ H (kvs.map (·.2)) vs
 |.dkt kvs=>kvs.length<=sizeLine/\(a==d8)=c5/\(kvs.map (·.1)).Nodup/\∃xs,H a=a7 (.ext<|dX a xs)/\Paired (uu K ρ H) kvs xs
 |.dkq e kvs=>kvs.length<=sizeLine/\(a==d8)=c5/\(kvs.map (·.1)).Nodup/\∃xs,H a=a7 (.ext<|dQ a e xs)/\Paired (uu K ρ H) kvs xs
 |.dkm kvs=>kvs.length<=sizeLine/\(a==d8)=c5/\(kvs.map (·.1)).Nodup/\∃xs,H a=a7 (.ext<|dM a xs)/\Paired (Ik K ρ H) kvs xs
 |.fdc o kvs=>∃vs,H a=a7 (.frz o (.dK (jI (kvs.map (·.1)) vs)))/\Reps K ρ H (kvs.map (·.2)) vs
 |.tb x b=>(∃c,PySem.W.tabIn K x=a7 (c,a)/\∀h:d7,K.In h->PySem.W.CodeHd h c a)/\∃ps,H a=a7 (.tbl ps)/\(b=c5->ps = #[])
 |.exc x e=>e=a/\∃C o,PySem.W.nsIn K d9 x=a7 (a7<|.ref C)/\MU o (.ref C)/\H a=a7 (.frz o<|.own a)
def HZ(mo:Option MO):Prop:=∃ds,mo=a7 (.kl ds)
def ak(M:p8)(n:Nat)(xs:List D):Prop:=M[n]?=a7 (.lst xs)\/M[n]?=a7 (.fz xs)\/M[n]?=a7 (.kl xs)
structure t5(K:q9)(ρ:List d5)(M:p8)(H:Hp):Prop where
 nd:∀(n m:Nat) (a:d5),n≠m->ρ[n]?=a7 a->ρ[m]?=a7 a->HZ M[n]?\/HZ M[m]?
 len:ρ.length=M.length
 obj:∀(n:Nat) (a:d5) (mo:MO),ρ[n]?=a7 a->M[n]?=a7 mo->uy K ρ H a mo
structure Grow(K:q9)(ρ:List d5)(H:Hp)(ρ':List d5)(H':Hp):Prop where
 pre:ρ <+: ρ'
 tup:∀a xs,x9 K H a xs->x9 K H' a xs
theorem Grow.refl{K:q9}{ρ:List d5}{H:Hp}:Grow K ρ H ρ H:=⟨Kn,λ_ _ h=>h⟩
theorem Grow.trans{K:q9}{ρ c d:List d5}{H e f:Hp}(a:Grow K ρ H c e)(b:Grow K c e d f):Grow K ρ H d f:=⟨a.pre.trans b.pre,λx xs h=>b.tup x xs<|a.tup x xs h⟩
theorem am{α:Type}{l l':List α}(h:l <+: l'){n:Nat}{a:α}(e:l[n]?=a7 a):l'[n]?=a7 a:=by obtain⟨t,rfl⟩:=h;rw[G6 (w9.mp e).1];exact e
theorem p9.grow{K:q9}{ρ a:List d5}{H H':Hp}(g:Grow K ρ H a H'){d:D}{v:V}(h:p9 K ρ H d v):p9 K a H' d v:=p9.rec (motive_1:=λd v _=>p9 K a H' d v) (motive_2:=λds vs _=>Reps K a H' ds vs) .non .bl .int .str .ty (λh _ r=>.tup (g.tup _ _ h) r) (λh=>.ref<|am g.pre h) .nil (λ_ _ h t=>.cons h t) h
theorem Reps.grow{K:q9}{ρ a:List d5}{H H':Hp}(g:Grow K ρ H a H'){ds:List D}{vs:List V}(h:Reps K ρ H ds vs):Reps K a H' ds vs:=Reps.rec (motive_1:=λd v _=>p9 K a H' d v) (motive_2:=λds vs _=>Reps K a H' ds vs) .non .bl .int .str .ty (λh _ r=>.tup (g.tup _ _ h) r) (λh=>.ref<|am g.pre h) .nil (λ_ _ h t=>.cons h t) h
section
variable{K:q9}{ρ ρ':List d5}{H H':Hp}{M:p8}
theorem Reps.length(h:Reps K ρ H ds vs):ds.length=vs.length:=Reps.rec (motive_1:=λ_ _ _=>True) (motive_2:=λds vs _=>ds.length=vs.length) trivial (λ_=>trivial) (λ_=>trivial) (λ_=>trivial) (λ_=>trivial) (λ_ _ _=>trivial) (λ_=>trivial) rfl (λ_ _ _ t=>o6 Nat.succ t) h
theorem Reps.append(h:Reps K ρ H ds vs)(s:Reps K ρ H es ws):Reps K ρ H (ds++es) (vs++ws):=Reps.rec (motive_1:=λ_ _ _=>True) (motive_2:=λds vs _=>Reps K ρ H (ds++es)<|vs++ws) trivial (λ_=>trivial) (λ_=>trivial) (λ_=>trivial) (λ_=>trivial) (λ_ _ _=>trivial) (λ_=>trivial) s (λh _ _ t=>.cons h t) h
theorem Reps.get:∀{ds:List D}{vs:List V}{i:Nat}{d:D},Reps K ρ H ds vs->ds[i]?=a7 d->∃v,vs[i]?=a7 v/\p9 K ρ H d v
 |_,_,_,_,.nil,e=>by simp at e
 |_,_,0,_,.cons r _,e=>by simp at e;subst e;exact⟨_,rfl,r⟩
 |_,_,i+1,d,.cons _ t,e=>by obtain⟨v,h1,h2⟩:=Reps.get (i:=i) (d:=d) t (by simpa using e);exact⟨v,by simpa using h1,h2⟩
theorem Reps.getV:∀{ds:List D}{vs:List V}{i:Nat}{v:V},Reps K ρ H ds vs->vs[i]?=a7 v->∃d,ds[i]?=a7 d/\p9 K ρ H d v
 |_,_,_,_,.nil,e=>by simp at e
 |_,_,0,_,.cons r _,e=>by simp at e;subst e;exact⟨_,rfl,r⟩
 |_,_,i+1,d,.cons _ t,e=>by obtain⟨v,h1,h2⟩:=Reps.getV (i:=i) (v:=d) t (by simpa using e);exact⟨v,by simpa using h1,h2⟩
theorem Reps.take:∀{ds:List D}{vs:List V} (n:Nat),Reps K ρ H ds vs->Reps K ρ H (ds.take n) (vs.take n)
 |_,_,0,_=>by simpa using .nil
 |_,_,_+1,.nil=>.nil
 |_,_,n+1,.cons r t=>.cons r<|Reps.take n t
theorem Reps.drop:∀{ds:List D}{vs:List V} (n:Nat),Reps K ρ H ds vs->Reps K ρ H (ds.drop n) (vs.drop n)
 |_,_,0,r=>r
 |_,_,_+1,.nil=>.nil
 |_,_,n+1,.cons _ t=>Reps.drop n t
theorem x9.laid(b:H p=a8)(h:x9 K H a xs):x9 K (t8 H p o) a xs:=by
 rcases h with h|h;rcases h with h|⟨c,h⟩
 exact .inl (.inl<|by rw[af<|ac h b];exact h);exact .inl<|.inr ⟨c,by rw[af<|ac h b];exact h⟩;exact .inr h
theorem x9.written(b:H p=a7 (.lst vs))(h:x9 K H a xs):x9 K (t8 H p o) a xs:=by
 rcases h with h|h;rcases h with h|⟨c,h⟩
 exact .inl (.inl<|by rw[af<|zg h b<|by intro z;cases z];exact h);exact .inl<|.inr ⟨c,by rw[af<|zg h b<|by intro z;cases z];exact h⟩;exact .inr h
theorem Grow.laid(a:H p=a8):Grow K ρ H ρ (t8 H p o):=⟨Kn,λ_ _ h=>x9.laid a h⟩
theorem Grow.laidR(a:H p=a8):Grow K ρ H (ρ++[p]) (t8 H p o):=⟨G5 _ _,λ_ _ h=>x9.laid a h⟩
theorem t5.tracked(S:t5 K ρ M H){n:Nat}{a:d5}(e:ρ[n]?=a7 a):(∃o,H a=a7 o)\/HZ M[n]?:=by
 have f:n<M.length:=by rw[<-S.len];exact(w9.mp e).1
 have d:M[n]?=a7 M[n]:=u9 f;have h:=S.obj n a _ e d;rw[d];cases c:M[n] with
 |lst ds=>rw[c]at h;obtain⟨vs,h,_⟩:=h;exact .inl ⟨_,h⟩
 |fz ds=>rw[c]at h;obtain⟨o,vs,h,_⟩:=h;exact .inl ⟨_,h⟩
 |kl ds=>exact .inr ⟨ds,rfl⟩
 |dct s=>rw[c]at h;obtain⟨vs,h,_⟩:=h;exact .inl ⟨_,h⟩
 |dkt s=>rw[c]at h;obtain⟨_,_,_,xs,h,_⟩:=h;exact .inl ⟨_,h⟩
 |dkq _ s=>rw[c]at h;obtain⟨_,_,_,xs,h,_⟩:=h;exact .inl ⟨_,h⟩
 |fdc o s=>rw[c]at h;obtain⟨vs,h,_⟩:=h;exact .inl ⟨_,h⟩
 |dkm s=>rw[c]at h;obtain⟨_,_,_,xs,h,_⟩:=h;exact .inl ⟨_,h⟩
 |tb x b=>rw[c]at h;obtain⟨_,ps,h,_⟩:=h;exact .inl ⟨_,h⟩
 |exc x e=>rw[c]at h;obtain⟨_,_,_,_,_,h⟩:=h;exact .inl ⟨_,h⟩
theorem uy.grow(g:Grow K ρ H ρ' H')(hs:H' a=H a\/HZ (a7 mo))(h:uy K ρ H a mo):uy K ρ' H' a mo:=by
 cases mo with
 |lst ds =>
  obtain⟨vs,e,r⟩:=h;rcases hs with hs|⟨_,z⟩
  exact⟨vs,by rw[hs];exact e,r.grow g⟩;cases z
 |fz ds =>
  obtain⟨o,vs,e,r⟩:=h;rcases hs with hs|⟨_,z⟩
  exact⟨o,vs,by rw[hs];exact e,r.grow g⟩;cases z
 |fdc o s =>
  obtain⟨vs,e,r⟩:=h;rcases hs with hs|⟨_,z⟩
  exact⟨vs,by rw[hs];exact e,r.grow g⟩;cases z
 |tb x b =>
  obtain⟨c,ps,e,q⟩:=h;rcases hs with hs|⟨_,z⟩
  exact⟨c,ps,by rw[hs];exact e,q⟩;cases z
 |exc x e =>
  obtain⟨p,C,o,e,i,q⟩:=h;rcases hs with hs|⟨_,z⟩
  exact⟨p,C,o,e,i,by rw[hs];exact q⟩;cases z
 |kl ds=>obtain⟨vs,e,r⟩:=h;exact⟨vs,e,r.grow g⟩
 |dkm s =>
  obtain⟨h1,h2,d,xs,e,r⟩:=h;rcases hs with hs|⟨_,z⟩
  exact⟨h1,h2,d,xs,by rw[hs];exact e,Paired.mapP r λ_ _ ⟨f,j,⟨u,k,n⟩,v,l,m⟩=>⟨f,j,⟨u,k.grow g,n⟩,v,l.grow g,m⟩⟩;cases z
 |dct s =>
  obtain⟨vs,e,r⟩:=h;rcases hs with hs|⟨_,z⟩
  exact⟨vs,by rw[hs];exact e,r.grow g⟩;cases z
 |dkt s =>
  obtain⟨h1,h2,d,xs,e,r⟩:=h;rcases hs with hs|⟨_,z⟩
  exact⟨h1,h2,d,xs,by rw[hs];exact e,Paired.mapP r λ_ _ ⟨f,j,k,v,l,m⟩=>⟨f,j,k.grow g,v,l.grow g,m⟩⟩;cases z
 |dkq _ s =>
  obtain⟨h1,h2,d,xs,e,r⟩:=h;rcases hs with hs|⟨_,z⟩
  exact⟨h1,h2,d,xs,by rw[hs];exact e,Paired.mapP r λ_ _ ⟨f,j,k,v,l,m⟩=>⟨f,j,k.grow g,v,l.grow g,m⟩⟩;cases z
theorem t5.keeps{p:d5}{o:HO}(S:t5 K ρ M H)(h:H p=a8){n:Nat}{a:d5}{mo:MO}(t:ρ[n]?=a7 a)(m:M[n]?=a7 mo):t8 H p o a=H a\/HZ (a7 mo):=by rcases S.tracked t with⟨c,b⟩|q;exact .inl<|af<|ac b h;rw[m]at q;exact .inr q
theorem t5.laid{p:d5}{o:HO}(S:t5 K ρ M H)(h:H p=a8):t5 K ρ M (t8 H p o):=⟨S.nd,S.len,λn a b t m=>(S.obj n a b t m).grow (Grow.laid h)<|S.keeps h t m⟩
theorem aL{α:Type}{l:List α}{x y:α}{n:Nat}(h:(l++[x])[n]?=a7 y):l[n]?=a7 y\/(n=l.length/\y=x):=by
 by_cases f:n<l.length;rw[G6 f]at h;exact .inl h;have a:n=l.length:=by have:=(w9.mp h).1;rw[v4,F9]at this;lia
 subst a;rw[IB<|t6 _,Kf]at h;simp at h;exact .inr ⟨rfl,h.symm⟩
theorem HZ.more{mo:MO}{n:Nat}(h:HZ M[n]?):HZ (M++[mo])[n]?:=by obtain⟨ds,e⟩:=h;exact⟨ds,by rw[G6 (w9.mp e).1];exact e⟩
theorem t5.laidL{p:d5}{ds:List D}{vs:List V}(S:t5 K ρ M H)(c:H p=a8)(r:Reps K ρ H ds vs):t5 K (ρ++[p]) (M++[.lst ds]) (t8 H p<|.lst vs):=by
 have g:Grow K ρ H (ρ++[p]) (t8 H p<|.lst vs):=Grow.laidR c;have d:∀(n:Nat),ρ[n]?=a7 p->HZ M[n]?:=λn e=>by rcases S.tracked e with⟨o,q⟩|q;rw[c]at q;cases q;exact q
 refine⟨λn m a h t b=>?_,by rw[v4,v4,S.len];rfl,λn a k t b=>?_⟩;rcases aL t with f|⟨f,g1⟩
 rcases aL b with N|⟨N,i⟩
 exact(S.nd n m a h f N).elim (λz=>.inl z.more) λz=>.inr z.more;subst i;exact .inl (d n f).more;rcases aL b with N|⟨N,i⟩
 subst g1;exact .inr (d m N).more;exact n6 (f.trans N.symm) h;rcases aL t with f|⟨f,g1⟩
 have j:n<M.length:=by rw[<-S.len];exact(w9.mp f).1
 rw[G6 j]at b;exact(S.obj n a k f b).grow g<|S.keeps c f b;subst g1 f;rw[S.len,IB<|t6 _,Kf]at b;simp at b;subst b;exact⟨vs,aB,r.grow g⟩
theorem t5.last(S:t5 K ρ M H):(ρ++[p])[M.length]?=a7 p:=by rw[<-S.len,IB<|t6 _,Kf];rfl
theorem t5.write(S:t5 K ρ M H)(t:ρ[n]?=a7 a)(s:M[n]?=a7 (.lst ds))(p:H a=a7 (.lst vs))(r:Reps K ρ H ds' vs'):t5 K ρ (M.set n<|.lst ds') (t8 H a<|.lst vs')/\Grow K ρ H ρ (t8 H a<|.lst vs'):=by
 have g:Grow K ρ H ρ (t8 H a<|.lst vs'):=⟨Kn,λ_ _ h=>x9.written p h⟩
 have k:∀m,m≠n->(M.set n<|.lst ds')[m]?=M[m]?:=λm d=>IT<|v5 d;have c:¬HZ M[n]?:=λ⟨_,z⟩=>by rw[s]at z;cases z
 refine⟨⟨λm j b e f N=>?_,by rw[G9];exact S.len,λm b o f N=>?_⟩,g⟩;have q:=S.nd m j b e f N;by_cases h1:m=n;subst h1;rw[k j<|v5 e];exact .inr<|q.resolve_left c;rw[k m h1];by_cases h2:j=n;subst h2;exact .inl<|q.resolve_right c;rw[k j h2];exact q;by_cases d:m=n;subst d;have i:b=a:=A1<|f.symm.trans t;subst i;rw[IA<|by rw[<-S.len];exact(w9.mp t).1]at N;cases N;exact⟨vs',aB,r.grow g⟩;rw[k m d]at N;by_cases i:b=a;subst i;have q:=S.nd m n b d f t;have l:=q.resolve_right c;rw[N]at l;exact(S.obj m b o f N).grow g<|.inr l;exact(S.obj m b o f N).grow g<|.inl<|af i
theorem ak.seq(S:t5 K ρ M H)(h:ak M n xs)(e:ρ[n]?=a7 a):∃vs,Fn K H a vs/\Reps K ρ H xs vs:=by rcases h with h|h|h;obtain⟨vs,q,r⟩:=S.obj n a _ e h;exact⟨vs,.inl<|.inl q,r⟩;obtain⟨o,vs,q,r⟩:=S.obj n a _ e h;exact⟨vs,.inl<|.inr ⟨o,q⟩,r⟩;obtain⟨vs,q,r⟩:=S.obj n a _ e h;exact⟨vs,.inr q,r⟩
theorem t5.get(S:t5 K ρ M H){n:Nat}{mo:MO}(e:M[n]?=a7 mo):∃a,ρ[n]?=a7 a/\uy K ρ H a mo:=by
 have f:n<ρ.length:=by rw[S.len];exact(w9.mp e).1
 exact⟨ρ[n],u9 f,S.obj n _ mo (u9 f) e⟩
end
noncomputable abbrev SD:=List<|Option D
structure SRep(K:q9)(ρ:List d5)(H:Hp)(S:SD)(σ:St):Prop where
 len:S.length=σ.length
 get:∀(i:Nat) (d:D),S[i]?=a7 (a7 d)->∃v,σ[i]?=a7 (a7 v)/\p9 K ρ H d v
theorem SRep.grow{K:q9}{ρ a:List d5}{H H':Hp}{S:SD}{σ:St}(r:SRep K ρ H S σ)(g:Grow K ρ H a H'):SRep K a H' S σ:=⟨r.len,λi d e=>let ⟨v,h1,h2⟩:=r.get i d e;⟨v,h1,h2.grow g⟩⟩
theorem SRep.set{K:q9}{ρ:List d5}{H:Hp}{S:SD}{σ:St}(r:SRep K ρ H S σ)(i:Nat){d:D}{v:V}(h:p9 K ρ H d v):SRep K ρ H (S.set i<|a7 d) (σ.set i<|a7 v):=by refine⟨by rw[G9,G9];exact r.len,λj e L=>?_⟩;by_cases a:i=j;subst a;by_cases g:i<S.length;rw[IA g]at L;cases L;exact⟨v,by rw[IA<|by rw[<-r.len];exact g],h⟩;rw[J0<|by rw[G9];lia]at L;cases L;rw[IT a]at L;rw[IT a];exact r.get j e L
abbrev DK:=D->p8->Prop
abbrev u6:=SD->p8->DK->Prop
abbrev E2:=SD->p8->(Bool->p8->Prop)->Prop
abbrev D7:=SD->p8->(List D->p8->Prop)->Prop
structure DEnds where
 nx:SD->p8->Prop
 rt:DK
 bk:SD->p8->Prop:=λ_ _=>False
 ct:SD->p8->Prop:=λ_ _=>False
abbrev p5:=DEnds->SD->p8->Prop
abbrev HD:=D->SD->p8->(SD->p8->Prop)->Prop
abbrev Be:=List D->SD->p8->(SD->p8->Prop)->Prop
abbrev D0:=D->D->p8->DK->Prop
abbrev Lk:=D->p8->DK->Prop
abbrev C1:=List D->p8->DK->Prop
section
variable(K:q9)
inductive VQ(ρ:List d5)(H:Hp)(Q:DK)(v:V)(H':Hp):Prop
 |mk (d:D) (M':p8) (ρ':List d5) (s:t5 K ρ' M' H') (g:Grow K ρ H ρ' H') (r:p9 K ρ' H' d v) (q:Q d M')
inductive BQ(ρ:List d5)(H:Hp)(Q:Bool->p8->Prop)(b:Bool)(H':Hp):Prop
 |mk (M':p8) (ρ':List d5) (s:t5 K ρ' M' H') (g:Grow K ρ H ρ' H') (q:Q b M')
inductive AQ(ρ:List d5)(H:Hp)(Q:List D->p8->Prop)(vs:List V)(H':Hp):Prop
 |mk (ds:List D) (M':p8) (ρ':List d5) (s:t5 K ρ' M' H') (g:Grow K ρ H ρ' H') (r:Reps K ρ' H' ds vs) (q:Q ds M')
inductive SQ(ρ:List d5)(H:Hp)(Q:SD->p8->Prop)(σ':St)(H':Hp):Prop
 |mk (S':SD) (M':p8) (ρ':List d5) (s:t5 K ρ' M' H') (g:Grow K ρ H ρ' H') (r:SRep K ρ' H' S' σ') (q:Q S' M')
structure Ld(ρ:List d5)(H:Hp)(F:DEnds)(E:Ends):Prop where
 nx:∀σ' H',SQ K ρ H F.nx σ' H'->E.nx σ' H'
 rt:∀v H',VQ K ρ H F.rt v H'->E.rt v H'
 bk:∀σ' H',SQ K ρ H F.bk σ' H'->E.bk σ' H'
 ct:∀σ' H',SQ K ρ H F.ct σ' H'->E.ct σ' H'
inductive lowE(t:u6)(σ:St)(H:Hp)(R:VK):Prop
 |mk (S:SD) (M:p8) (ρ:List d5) (Q:DK) (s:t5 K ρ M H) (sr:SRep K ρ H S σ) (q:t S M Q) (k:∀v H',VQ K ρ H Q v H'->R v H')
inductive lowT(t:E2)(σ:St)(H:Hp)(R:Bool->Hp->Prop):Prop
 |mk (S:SD) (M:p8) (ρ:List d5) (Q:Bool->p8->Prop) (s:t5 K ρ M H) (sr:SRep K ρ H S σ) (q:t S M Q) (k:∀v H',BQ K ρ H Q v H'->R v H')
inductive lowA(t:D7)(σ:St)(H:Hp)(R:List V->Hp->Prop):Prop
 |mk (S:SD) (M:p8) (ρ:List d5) (Q:List D->p8->Prop) (s:t5 K ρ M H) (sr:SRep K ρ H S σ) (q:t S M Q) (k:∀v H',AQ K ρ H Q v H'->R v H')
inductive lowS(t:p5)(E:Ends)(σ:St)(H:Hp):Prop
 |mk (S:SD) (M:p8) (ρ:List d5) (F:DEnds) (s:t5 K ρ M H) (sr:SRep K ρ H S σ) (q:t F S M) (k:Ld K ρ H F E)
inductive lowG(g:HD)(v:V)(σ:St)(H:Hp)(R:St->Hp->Prop):Prop
 |mk (d:D) (S:SD) (M:p8) (ρ:List d5) (Q:SD->p8->Prop) (s:t5 K ρ M H) (sr:SRep K ρ H S σ) (r:p9 K ρ H d v) (q:g d S M Q) (k:∀σ' H',SQ K ρ H Q σ' H'->R σ' H')
inductive lowGs(g:Be)(vs:List V)(σ:St)(H:Hp)(R:St->Hp->Prop):Prop
 |mk (ds:List D) (S:SD) (M:p8) (ρ:List d5) (Q:SD->p8->Prop) (s:t5 K ρ M H) (sr:SRep K ρ H S σ) (r:Reps K ρ H ds vs) (q:g ds S M Q) (k:∀σ' H',SQ K ρ H Q σ' H'->R σ' H')
inductive lowR(r:D0)(vx vy:V)(H:Hp)(R:VK):Prop
 |mk (x y:D) (M:p8) (ρ:List d5) (Q:DK) (s:t5 K ρ M H) (r1:p9 K ρ H x vx) (r2:p9 K ρ H y vy) (q:r x y M Q) (k:∀v H',VQ K ρ H Q v H'->R v H')
inductive lowU(r:Lk)(vx:V)(H:Hp)(R:VK):Prop
 |mk (x:D) (M:p8) (ρ:List d5) (Q:DK) (s:t5 K ρ M H) (r1:p9 K ρ H x vx) (q:r x M Q) (k:∀v H',VQ K ρ H Q v H'->R v H')
inductive lowC(r:C1)(vs:List V)(H:Hp)(R:VK):Prop
 |mk (ds:List D) (M:p8) (ρ:List d5) (Q:DK) (s:t5 K ρ M H) (r1:Reps K ρ H ds vs) (q:r ds M Q) (k:∀v H',VQ K ρ H Q v H'->R v H')
end
def DE(X:Cx)(e:ge)(t:u6):Prop:=PE X e<|lowE X.K t
def DT(X:Cx)(e:ge)(t:E2):Prop:=PT X e<|lowT X.K t
def DW(X:Cx)(e:ge)(t:E2):Prop:=PW X e<|lowT X.K t
def DA(X:Cx)(es:List ge)(t:D7):Prop:=PA X es<|lowA X.K t
def DS(X:Cx)(st:h8)(t:p5):Prop:=PS X st<|lowS X.K t
def IY(X:Cx)(st:List h8)(t:p5):Prop:=G1 X st<|lowS X.K t
def DG(X:Cx)(t:ge)(g:HD):Prop:=PG X t<|lowG X.K g
def Ll(X:Cx)(t:List ge)(g:Be):Prop:=Lg X t<|lowGs X.K g
def E1(X:Cx)(f:c6->c6->Sem c6)(r:D0):Prop:=A9 X f<|lowR X.K r
def MQ(X:Cx)(f:c6->Sem c6)(r:Lk):Prop:=LS X f<|lowU X.K r
def jX(X:Cx)(f:c6)(r:C1):Prop:=fx X f<|lowC X.K r
section
variable{K:q9}{ρ ρ1:List d5}{H H1:Hp}
theorem VQ.trans(g:Grow K ρ H ρ1 H1)(h:VQ K ρ1 H1 Q v H'):VQ K ρ H Q v H':=by obtain⟨d,M,a,s,b,r,q⟩:=h;exact⟨d,M,a,s,g.trans b,r,q⟩
theorem BQ.trans(g:Grow K ρ H ρ1 H1)(h:BQ K ρ1 H1 Q v H'):BQ K ρ H Q v H':=by obtain⟨M,a,s,b,q⟩:=h;exact⟨M,a,s,g.trans b,q⟩
theorem SQ.trans(g:Grow K ρ H ρ1 H1)(h:SQ K ρ1 H1 Q v H'):SQ K ρ H Q v H':=by obtain⟨d,M,a,s,b,r,q⟩:=h;exact⟨d,M,a,s,g.trans b,r,q⟩
theorem Ld.trans(g:Grow K ρ H ρ1 H1)(h:Ld K ρ H F E):Ld K ρ1 H1 F E:=⟨λa H' q=>h.nx a H'<|SQ.trans g q,λv H' q=>h.rt v H'<|VQ.trans g q,λa H' q=>h.bk a H'<|SQ.trans g q,λa H' q=>h.ct a H'<|SQ.trans g q⟩
theorem VQ.now(s:t5 K ρ M H)(r:p9 K ρ H d v)(q:Q d M):VQ K ρ H Q v H:=⟨d,M,ρ,s,.refl,r,q⟩
end
section
variable{K:q9}{ρ:List d5}{H:Hp}{v:V}{vs:List V}
theorem p9.inv_non(h:p9 K ρ H .non v):v=.non:=by cases h;rfl
theorem p9.inv_bl(h:p9 K ρ H (.bl b) v):v=.bl b:=by cases h;rfl
theorem p9.inv_int(h:p9 K ρ H (.int i) v):v=.int i:=by cases h;rfl
theorem p9.inv_str(h:p9 K ρ H (.str x) v):v=.str x:=by cases h;rfl
theorem p9.inv_ty(h:p9 K ρ H (.ty n) v):v=.ty n:=by cases h;rfl
theorem p9.inv_tup(h:p9 K ρ H (.tup ds) v):∃a vs,v=.ref a/\x9 K H a vs/\Reps K ρ H ds vs:=by cases h with|tup h r=>exact⟨_,_,rfl,h,r⟩
theorem p9.inv_ref(h:p9 K ρ H (.ref n) v):∃a,v=.ref a/\ρ[n]?=a7 a:=by cases h with|ref h=>exact⟨_,rfl,h⟩
theorem ao.inv_cons(h:ao (x::vs) us):∃u ws,us=u::ws/\aG x u/\ao vs ws:=by cases h with|cons h t=>exact⟨_,_,rfl,h,t⟩
theorem ao.inv_nil(h:ao [] us):us=[]:=by cases h;rfl
theorem Reps.inv_nil(h:Reps K ρ H [] vs):vs=[]:=by cases h;rfl
theorem Reps.inv_cons(h:Reps K ρ H (d::ds) vs):∃v ws,vs=v::ws/\p9 K ρ H d v/\Reps K ρ H ds ws:=by cases h with|cons h t=>exact⟨_,_,rfl,h,t⟩
end
end
theorem PE.imp(h:PE X e t')(i:∀σ H R,t σ H R->t' σ H R):PE X e t:=λp s σ H R I q=>h p s σ H R I<|i σ H R q
theorem PT.imp(h:PT X e t')(i:∀σ H R,t σ H R->t' σ H R):PT X e t:=λp s σ H R I q=>h p s σ H R I<|i σ H R q
theorem PW.imp(h:PW X e t')(i:∀σ H R,t σ H R->t' σ H R):PW X e t:=λw p s σ H R I q=>h w p s σ H R I<|i σ H R q
theorem PA.imp(h:PA X e t')(i:∀σ H R,t σ H R->t' σ H R):PA X e t:=λa p s σ H R I q=>h a p s σ H R I<|i σ H R q
theorem PS.imp(h:PS X e t')(i:∀E σ H,t E σ H->t' E σ H):PS X e t:=λp s σ H R I q=>h p s σ H R I<|i R σ H q
theorem G1.imp(h:G1 X e t')(i:∀E σ H,t E σ H->t' E σ H):G1 X e t:=λp s σ H R I q=>h p s σ H R I<|i R σ H q
theorem A9.imp(h:A9 X f r')(i:∀x y H R,r x y H R->r' x y H R):A9 X f r:=λp s σ H x y v u R I a b q=>h p s σ H x y v u R I a b<|i x y H R q
theorem fx.imp(h:fx X f r')(i:∀xs H R,r xs H R->r' xs H R):fx X f r:=λp s σ H xs us R I a q=>h p s σ H xs us R I a<|i xs H R q
section
variable{X:Cx}{a b c:ge}{ta tb tc:u6}{pos:Pos}
def ab(i:Nat):u6:=λS M Q=>match S[i]? with
 |some (a7 d)=>Q d M
 |_=>False
def dC(d:D):u6:=λ_ M Q=>Q d M
theorem zn{K:q9}{i:Nat}(σ:St)(H:Hp)(R:VK)(h:lowE K (ab i) σ H R):tVar i σ H R:=by
 obtain⟨S,M,ρ,Q,s,r,q,k⟩:=h;unfold ab at q;cases e:S[i]? with
 |none=>rw[e]at q;exact q.elim
 |some o =>
  cases o with
  |none=>rw[e]at q;exact q.elim
  |some d=>rw[e]at q;obtain⟨v,c,a⟩:=r.get i d e;exact⟨v,c,k v H<|VQ.now s a q⟩
theorem d_var(h:X.N[i]?=a7 x:=by rfl)(c:J7 X.env.scope x:=by first|exact Or.inl rfl|exact Or.inr (Or.inl rfl)|exact Or.inr<|Or.inr rfl)(a:(x==("__debug__":c7))=c5:=by decide)(d:(x==("__classdict__":c7))=c5:=by decide):DE X (.Name x pos) (ab i):=PE.imp (AI h c a d) zn
noncomputable def cV:D->Option V
 |.non=>a7 .non
 |.bl b=>a7<|.bl b
 |.int i=>a7<|.int i
 |.str x=>a7<|.str x
 |.ty n=>a7<|.ty n
 |_=>a8
theorem xR{K:q9}{ρ:List d5}{H:Hp}{d:D}{v:V}(h:cV d=a7 v):p9 K ρ H d v:=by
 cases d with
 |non=>cases h;exact .non
 |bl b=>cases h;exact .bl b
 |int b=>cases h;exact .int b
 |str b=>cases h;exact .str b
 |ty b=>cases h;exact .ty b
 |tup b=>cases h
 |ref b=>cases h
theorem nW{K:q9}{d:D}{v:V}(a:cV d=a7 v)(σ:St)(H:Hp)(R:VK)(h:lowE K (dC d) σ H R):tC v σ H R:=by obtain⟨S,M,ρ,Q,s,r,q,k⟩:=h;exact k v H<|VQ.now s (xR a) q
theorem d_int{i:Int}{j:Nat}:DE X (.Constant (.int i) j pos) (dC<|.int i):=PE.imp Fd<|nW rfl
theorem d_bl{i:Bool}{j:Nat}:DE X (.Constant (.bool i) j pos) (dC<|.bl i):=PE.imp pe_bl<|nW rfl
theorem d_non{j:Nat}:DE X (.Constant .none j pos) (dC .non):=PE.imp Fa<|nW rfl
theorem d_str{i:c7}{j:Nat}:DE X (.Constant (.str i) j pos) (dC<|.str i):=PE.imp EY<|nW rfl
theorem He{x:c7}{T:String}(m:X.mg x=a8)(c:e8 x=a7 (.type T))(S:Gl X x:=by rfl)(f:x≠"__name__":=by decide)(d:(x==("__debug__":c7))=c5:=by decide):DE X (.Name x pos) (dC<|.ty T):=PE.imp (BV (v:=.ty T) S m c rfl f d)<|nW rfl
theorem low2{K:q9}{S:SD}{M:p8}{ρ:List d5}{σ:St}{H:Hp}{P:D->D->p8->Prop}{G:V->V->Hp->Prop}(s:t5 K ρ M H)(r:SRep K ρ H S σ)(h:ta S M λx M1=>tb S M1 λy M2=>P x y M2)(k:∀x y vx vy M2 ρ2 H2,t5 K ρ2 M2 H2->Grow K ρ H ρ2 H2->p9 K ρ2 H2 x vx->p9 K ρ2 H2 y vy->P x y M2->G vx vy H2):lowE K ta σ H λvx H1=>lowE K tb σ H1 λvy H2=>G vx vy H2:=by refine⟨S,M,ρ,_,s,r,h,?_⟩;rintro vx H1 ⟨x,M1,c,f,g1,a,q⟩;refine⟨S,M1,c,_,f,r.grow g1,q,?_⟩;rintro vy H2 ⟨y,M2,ρ2,w,i,m,j⟩;exact k x y vx vy M2 ρ2 H2 w (g1.trans i) (a.grow i) m j
def p6(r:D0)(t c:u6):u6:=λS M Q=>t S M λx a=>c S a λy b=>r x y b Q
theorem lZ{K:q9}{r:D0}(σ:St)(H:Hp)(R:VK)(h:lowE K (p6 r ta tb) σ H R):K6 (lowR K r) (lowE K ta) (lowE K tb) σ H R:=by obtain⟨S,M,ρ,Q,s,e,q,k⟩:=h;exact low2 s e q λx y g l b d f c i a m j=>⟨x,y,b,d,Q,c,a,m,j,λv H' w=>k v H'<|VQ.trans i w⟩
theorem d_op(D:E1 X (j2 op) r)(f:DE X a ta)(d:DE X b tb):DE X (.BinOp a op b pos) (p6 r ta tb):=PE.imp (pe_op D f d) lZ
theorem d_cmp(D:E1 X (j3 op) r)(f:DE X a ta)(d:DE X b tb)(m:j4 op b=c5:=by with_unfolding_all rfl):DE X (.Compare a [op] [b] pos) (p6 r ta tb):=PE.imp (BT D f d m) lZ
def ax(t:u6):E2:=λS M Q=>t S M λx a=>match x with
 |.bl b=>Q b a
 |_=>False
theorem nV{K:q9}{t:u6}(σ:St)(H:Hp)(R:Bool->Hp->Prop)(h:lowT K (ax t) σ H R):Es (lowE K t) σ H R:=by
 obtain⟨S,M,ρ,Q,s,e,q,k⟩:=h;refine⟨S,M,ρ,_,s,e,q,?_⟩;rintro v H' ⟨d,c,a,s',g,r',j⟩;cases r' with
 |bl b=>exact⟨b,rfl,k b H' ⟨c,a,s',g,j⟩⟩
 |_=>exact j.elim
theorem GN(D:E1 X (j3 op) r)(f:DE X a ta)(d:DE X b tb)(m:j4 op b=c5:=by with_unfolding_all rfl):DT X (.Compare a [op] [b] pos) (ax<|p6 r ta tb):=by refine PT.imp (BI D f d m) λσ H R h=>?_;obtain⟨S,M,ρ,Q,s,e,q,k⟩:=nV σ H R h;exact lZ σ H _ ⟨S,M,ρ,Q,s,e,q,k⟩
theorem GK(h:DE X e t)(i:∀whole,isTrue e X.env whole=(do let v <-whole;standAt e.pos;i3 [v] (truthy v)):=by intro _;rfl):DT X e (ax t):=PT.imp (EN h i) nV
def MP(z:D)(k:Bool->Prop):Prop:=match z with
 |.bl b=>k b
 |_=>False
theorem AJ{b:Bool}{k:Bool->Prop}:MP (.bl b) k=k b:=rfl
variable{tA tB:E2}{aE:List ge}
def yf(t u:E2):E2:=λS M Q=>t S M λb a=>if b=a9 then u S a Q else Q c5 a
def Jh(t u:E2):E2:=λS M Q=>t S M λb a=>if b=a9 then Q a9 a else u S a Q
def ye(t:E2):E2:=λS M Q=>t S M λb a=>Q (!b) a
theorem Dm(f:DT X a tA):DW X (.BoolOp .And [a] pos) tA:=BE f
theorem GI(f:DT X a tA):DW X (.BoolOp .Or [a] pos) tA:=EL f
theorem GJ(i:DT X a tA)(j:DW X (.BoolOp .And (b::aE) pos) tB):DW X (.BoolOp .And (a::b::aE) pos) (yf tA tB):=by
 refine PW.imp (EM i j) ?_;rintro σ H R ⟨S,M,ρ,Q,s,r,q,k⟩;refine⟨S,M,ρ,_,s,r,q,?_⟩;rintro c h ⟨e,d,g,g1,f⟩;cases c with
 |true=>exact bP ⟨S,e,d,Q,g,r.grow g1,(show tB S e Q from f),λv H' w=>k v H'<|BQ.trans g1 w⟩
 |false=>exact bz<|k c5 h ⟨e,d,g,g1,f⟩
theorem dw_or(i:DT X a tA)(j:DW X (.BoolOp .Or (b::aE) pos) tB):DW X (.BoolOp .Or (a::b::aE) pos) (Jh tA tB):=by
 refine PW.imp (pw_or i j) ?_;rintro σ H R ⟨S,M,ρ,Q,s,r,q,k⟩;refine⟨S,M,ρ,_,s,r,q,?_⟩;rintro c h ⟨e,d,g,g1,f⟩;cases c with
 |false=>exact bz ⟨S,e,d,Q,g,r.grow g1,(show tB S e Q from f),λv H' w=>k v H'<|BQ.trans g1 w⟩
 |true=>exact bP<|k a9 h ⟨e,d,g,g1,f⟩
theorem dw_t(h:DW X e t):DT X e t:=PW.pt h
theorem GM(f:DT X a tA):DT X (.UnaryOp .Not a pos) (ye tA):=by refine PT.imp (EO f) ?_;rintro σ H R ⟨S,M,ρ,Q,s,r,q,k⟩;refine⟨S,M,ρ,_,s,r,q,?_⟩;rintro c d ⟨e,b,h,g1,g⟩;exact k (!c) d ⟨e,b,h,g1,g⟩
def xJ(t c:u6):u6:=λS M Q=>t S M λx a=>MP x λb=>if b=a9 then c S a Q else Q (.bl c5) a
def dOrV(t c:u6):u6:=λS M Q=>t S M λx a=>MP x λb=>if b=a9 then Q (.bl a9) a else c S a Q
theorem d_one{op}(h:DE X a ta):DE X (.BoolOp op [a] pos) ta:=EZ h
theorem d_and(j:DE X a ta)(l:DE X (.BoolOp .And (b::aE) pos) tb):DE X (.BoolOp .And (a::b::aE) pos) (xJ ta tb):=by
 refine PE.imp (Ff j l) ?_;rintro σ H R ⟨S,M,ρ,Q,s,r,q,k⟩;refine⟨S,M,ρ,_,s,r,q,?_⟩;rintro v i ⟨d,f,e,h,g1,m,g⟩;cases m with
 |bl c =>
  cases c with
  |true=>exact⟨a9,rfl,bP ⟨S,f,e,Q,h,r.grow g1,(show tb S f Q from g),λv H' w=>k v H'<|VQ.trans g1 w⟩⟩
  |false=>exact⟨c5,rfl,bz<|k _ i ⟨_,f,e,h,g1,.bl c5,(show Q (.bl c5) f from g)⟩⟩
 |_=>exact g.elim
theorem d_or(j:DE X a ta)(l:DE X (.BoolOp .Or (b::aE) pos) tb):DE X (.BoolOp .Or (a::b::aE) pos) (dOrV ta tb):=by
 refine PE.imp (pe_or j l) ?_;rintro σ H R ⟨S,M,ρ,Q,s,r,q,k⟩;refine⟨S,M,ρ,_,s,r,q,?_⟩;rintro v i ⟨d,f,e,h,g1,m,g⟩;cases m with
 |bl c =>
  cases c with
  |false=>exact⟨c5,rfl,bz ⟨S,f,e,Q,h,r.grow g1,(show tb S f Q from g),λv H' w=>k v H'<|VQ.trans g1 w⟩⟩
  |true=>exact⟨a9,rfl,bP<|k _ i ⟨_,f,e,h,g1,.bl a9,(show Q (.bl a9) f from g)⟩⟩
 |_=>exact g.elim
variable{e:ge}{es:List ge}{te:u6}{t:D7}
def ag:D7:=λ_ M Q=>Q [] M
def aa(te:u6)(t:D7):D7:=λS M Q=>te S M λd a=>t S a λds b=>Q (d::ds) b
theorem Hc:DA X [] ag:=by refine PA.imp Fg ?_;rintro σ H R ⟨S,M,ρ,Q,s,e,q,k⟩;exact k [] H ⟨[],M,ρ,s,.refl,.nil,q⟩
theorem Dy(h:DE X e te)(j:DA X es t)(hs:g9 (e::es) X.env=(c5,eval e X.env)::g9 es X.env:=by rfl):DA X (e::es) (aa te t):=by refine PA.imp (BW h j hs) ?_;rintro σ H R ⟨S,M,ρ,Q,s,r,q,k⟩;refine⟨S,M,ρ,_,s,r,q,?_⟩;rintro v u ⟨d,f,c,p,g1,n,l⟩;refine⟨S,f,c,_,p,r.grow g1,l,?_⟩;rintro vs b ⟨ds,g,a,w,i,o,m⟩;exact k _ b ⟨d::ds,g,a,w,g1.trans i,.cons (n.grow i) o,m⟩
def gh(t:D7):u6:=λS M Q=>t S M λds a=>ds.length<=sizeLine/\Q (.tup ds) a
def iq(t:D7):u6:=λS M Q=>t S M λds a=>ds.length<=sizeLine/\Q (.ref a.length) (a++[.lst ds])
theorem VQ.laidT{K:q9}{ρ c:List d5}{H a:Hp}{M:p8}{ds:List D}{vs:List V}{Q:DK}{p:d5}(f:t5 K c M a)(g1:Grow K ρ H c a)(r:Reps K c a ds vs)(h:a p=a8)(q:Q (.tup ds) M):VQ K ρ H Q (.ref p) (t8 a p<|.tup vs):=⟨.tup ds,M,c,f.laid h,g1.trans<|Grow.laid h,.tup (x9.of aB)<|r.grow<|Grow.laid h,q⟩
theorem VQ.laidL{K:q9}{ρ c:List d5}{H a:Hp}{M:p8}{ds:List D}{vs:List V}{Q:DK}{p:d5}(f:t5 K c M a)(g1:Grow K ρ H c a)(r:Reps K c a ds vs)(h:a p=a8)(q:Q (.ref M.length) (M++[.lst ds])):VQ K ρ H Q (.ref p) (t8 a p<|.lst vs):=⟨.ref M.length,M++[.lst ds],c++[p],f.laidL h r,g1.trans<|Grow.laidR h,.ref f.last,q⟩
theorem d_tup{x1}(h:DA X es t):DE X (.Tuple es x1 pos) (gh t):=by refine PE.imp (EX h) ?_;rintro σ H R ⟨S,M,ρ,Q,s,e,q,k⟩;refine⟨S,M,ρ,_,s,e,q,?_⟩;rintro vs d ⟨ds,g,b,f,g1,r,z,c⟩;exact⟨by rw[<-r.length];exact z,λp a=>k _ _<|VQ.laidT f g1 r a c⟩
theorem d_lst(h:DA X es t):DE X (.List es pos) (iq t):=by refine PE.imp (Fb h) ?_;rintro σ H R ⟨S,M,ρ,Q,s,e,q,k⟩;refine⟨S,M,ρ,_,s,e,q,?_⟩;rintro vs d ⟨ds,g,b,f,g1,r,z,c⟩;exact⟨by rw[<-r.length];exact z,λp a=>k _ _<|VQ.laidL f g1 r a c⟩
def s9(r:C1)(t:D7):u6:=λS M Q=>t S M λds a=>r ds a Q
theorem wH{K:q9}{r:C1}(σ:St)(H:Hp)(R:VK)(h:lowE K (s9 r t) σ H R):ML (lowC K r) (lowA K t) σ H R:=by obtain⟨S,M,ρ,Q,s,e,q,k⟩:=h;refine⟨S,M,ρ,_,s,e,q,?_⟩;rintro vs g ⟨ds,a,c,f,g1,d,b⟩;exact⟨ds,a,c,Q,f,d,b,λv H' w=>k v H'<|VQ.trans g1 w⟩
theorem DB{x:c7}{p:Pos}{id:String}{r:C1}(c:jX X (.builtin id) r)(d:X.mg x=a8)(v:e8 x=a7 (.builtin id))(f:DA X (e::es) t)(S:Gl X x:=by rfl)(n:x≠"__name__":=by decide)(b:(x==("__debug__":c7))=c5:=by decide)(i:g9 (e::es) X.env=(c5,eval e X.env)::g9 es X.env:=by rfl) (l:(g8 pos<|g9 es X.env).any (·.1)=c5:=by rfl):DE X (.Call (.Name x p) (e::es) [] pos) (s9 r t):=PE.imp (yV c S d v f n b i l) wH
theorem Ak(c:jX X (.type T) r)(d:X.mg x=a8)(v:e8 x=a7 (.type T))(f:DA X (e::es) t)(S:Gl X x:=by rfl)(n:x≠"__name__":=by decide)(b:(x==("__debug__":c7))=c5:=by decide)(i:g9 (e::es) X.env=(c5,eval e X.env)::g9 es X.env:=by rfl) (l:(g8 pos<|g9 es X.env).any (·.1)=c5:=by rfl):DE X (.Call (.Name x p) (e::es) [] pos) (s9 r t):=PE.imp (vU c S d v f n b i l) wH
abbrev x5:=List D->p8->DK->Prop
def IU(K:q9)(P:x5):Sp:=λvs H Q _=>∃ds M ρ R,t5 K ρ M H/\Reps K ρ H ds vs/\P ds M R/\∀v H',VQ K ρ H R v H'->Q v H'
theorem wF{K:q9}{P:x5}(σ:St)(H:Hp)(R:VK)(h:lowE K (s9 P t) σ H R):Eu (IU K P) [] E0 (lowA K t) σ H R:=by obtain⟨S,M,ρ,Q,s,e,q,k⟩:=h;exact⟨S,M,ρ,_,s,e,q,λvs d ⟨ds,a,c,f,g1,r,b⟩=>⟨ds,a,c,Q,f,by rw[Ir];exact r,b,λv H' w=>k v H'<|VQ.trans g1 w⟩⟩
theorem Hj(F:FnOk X.prog X.w X.K X.mg X.base D3 k f fd ps (IU X.K P))(r:Room k X.A)(m:X.mg x=a7 (.ref f))(h:JR X.K (.ref f)=a9)(d:oZ X.K fd ps [])(a:DA X (e::es) t) (S:Gl X x:=by rfl) (b:(x==("__debug__":c7))=c5:=by decide) (i:g9 (e::es) X.env=(c5,eval e X.env)::g9 es X.env:=by rfl) (l:(g8 pos<|g9 es X.env).any (·.1)=c5:=by rfl):DE X (.Call (.Name x p) (e::es) [] pos) (s9 P t):=PE.imp (BU F r S m h d .nil pass0 a b i l) wF
end
def aY:p5:=λE S M=>E.nx S M
def az(t u:p5):p5:=λE S M=>t { E with nx:=λb a=>u E b a } S M
theorem GR:IY X [] aY:=by refine G1.imp BK ?_;rintro E σ H ⟨S,M,ρ,F,s,e,q,k⟩;exact k.nx σ H ⟨S,M,ρ,s,.refl,e,q⟩
theorem GQ{X:Cx}{st:h8}{t:p5}(h:DS X st t):IY X [st] t:=BJ h
theorem Dt{X:Cx}{st:h8}{aE:List h8}{t u:p5}(h1:DS X st t)(h2:IY X aE u):IY X (st::aE) (az t u):=by refine G1.imp (yO h1 h2) ?_;rintro E σ H ⟨S,M,ρ,F,s,e,q,k⟩;exact⟨S,M,ρ,_,s,e,q,⟨λf H' ⟨d,c,b,s',g,a,j⟩=>⟨d,c,b,F,s',a,j,k.trans g⟩,k.rt,k.bk,k.ct⟩⟩
def fu(te:u6):p5:=λE S M=>te S M λ_ a=>E.nx S a
theorem Ds(i:DE X e te)(hs:i4 e a8 pos.line X.env=pure c5:=by rfl):DS X (.Expr e pos) (fu te):=by refine PS.imp (BL i hs) ?_;rintro E σ H ⟨S,M,ρ,F,s,r,q,k⟩;refine⟨S,M,ρ,_,s,r,q,?_⟩;rintro v a ⟨d,b,c,g,g1,h,f⟩;exact k.nx σ a ⟨S,b,c,g,g1,r.grow g1,f⟩
def bp(te:u6):p5:=λE S M=>te S M E.rt
theorem GP(i:DE X e te):DS X (.Return (a7 e) pos) (bp te):=by refine PS.imp (ER i) ?_;rintro E σ H ⟨S,M,ρ,F,s,r,q,k⟩;exact⟨S,M,ρ,_,s,r,q,λv a w=>k.rt v a w⟩
def A2(c:E2)(t u:p5):p5:=λE S M=>c S M λb a=>if b=a9 then t E S a else u E S a
theorem ds_if(j:DT X c tc)(h:IY X a t)(i:IY X b u):DS X (.If c a b pos) (A2 tc t u):=by
 refine PS.imp (ps_if j h i) ?_;rintro E σ H ⟨S,M,ρ,F,s,r,q,k⟩;refine⟨S,M,ρ,_,s,r,q,?_⟩;rintro c l ⟨e,d,g,g1,f⟩;cases c with
 |true=>exact bP ⟨S,e,d,F,g,r.grow g1,(show t F S e from f),k.trans g1⟩
 |false=>exact bz ⟨S,e,d,F,g,r.grow g1,(show u F S e from f),k.trans g1⟩
def bb(te:u6)(i:Nat):p5:=λE S M=>te S M λd a=>E.nx (S.set i<|a7 d) a
theorem GO(h:X.N.Nodup)(f:DE X e te)(hi:X.N[i]?=a7 x:=by rfl)(j:JI X.env.scope x:=by first|exact Or.inl rfl|exact Or.inr rfl)(hs:i4 e (a7<|.Name x pos') pos.line X.env=pure c5:=by rfl)(g:X.fn x=a9\/X.env.scope.names.lookup x=a7 .local:=by first|exact .inl rfl|exact .inr rfl|assumption):DS X (.Assign [.Name x pos'] e pos) (bb te i):=by refine PS.imp (EQ h hi j f hs g) ?_;rintro E σ H ⟨S,M,ρ,F,s,r,q,k⟩;refine⟨S,M,ρ,_,s,r,q,?_⟩;rintro v a ⟨d,b,c,n,g1,m,l⟩;exact k.nx _ a ⟨_,b,c,n,g1,(r.grow g1).set i m,l⟩
def ar(i:Nat):HD:=λd S M Q=>Q (S.set i<|a7 d) M
theorem qu(h:X.N.Nodup)(hi:X.N[i]?=a7 x:=by rfl)(a:JI X.env.scope x:=by first|exact Or.inl rfl|exact Or.inr rfl)(f:X.fn x=a9\/X.env.scope.names.lookup x=a7 .local:=by first|exact .inl rfl|exact .inr rfl|assumption):DG X (.Name x pos) (ar i):=λp s σ H v u R I r ⟨d,S,M,ρ,Q,m,e,b,q,k⟩=>BR h hi a f p s σ H v u R I r<|k _ H ⟨_,M,ρ,m,.refl,e.set i b,q⟩
theorem sT{P:c9}{w:c8}{K:q9}{tg:ge}(it:d5)(n:Nat)(N:Nat->c6->Prop)(PX:Nat->V->Prop)(Sx:Nat->d7->Prop)(W:∀A':e9,A'.handled=a8->Walks P w A' it [it] [it] n N Sx) (m:∀i v,N i v->∃x,aG x v/\PX i x)(j:∀i h,Sx i h->∃(o:d6) (nm:String) (vs:Array c6),h.get? it=a7 o/\o.cls=.type nm/\o.data=.fields vs/\["enumerate","zip","dict_itemiterator","dict_reverseitemiterator","odict_iterator","itertools.zip_longest","itertools.pairwise"].contains nm=c5)(a:∀(i:Nat) (h h':d7),Sx i h->(∀o,h.get? it=a7 o->h'.get? it=a7 o)->Sx i h')(g:∀(A:e9) (i:Nat) (s:f6) (Q:c6->f6->Prop) (E:c6->f6->Prop),Sx i s.heap->Q (.ref it) s->f9 (g7 P w) A (i9<|.ref it) Q E s):Turn P w K tg ⟨λi _=>i<n,λi H x H'=>H'=H/\PX i x,λi _=>i=n⟩ [it] it Sx where
 mem:=by simp
 obj:=λi h l b f=>by
  have e:b=it:=by simpa using f
  subst e;obtain⟨o,nm,vs,e,_,d,_⟩:=j i h l;exact⟨o,e,λv z=>by rw[d]at z;cases z⟩
 keep:=λi h h' l k=>a i h h' l λo e=>k it (by simp) o e
 item:=by intro X F J D G i p s σ H E I r l S;subst F J D;obtain⟨t,u,R,y,B,C⟩:=r it (by simp);refine(W X.A<|I.ok.hd G).item i s _ _ S l λv h' M U q L=>?_;obtain⟨x,Z,Y⟩:=m i v U;have O:p0 X p σ H { s with heap:=h',toks:=M }:=I.turned (λb o f e=>L b o (by simpa using f) e) t u y B C;obtain⟨o,nm,vs,e,c,d,T⟩:=j _ _ q;exact⟨v,rfl,qm (s:={ s with heap:=h',toks:=M }) e c d T ⟨x,H,O,Z,⟨rfl,Y⟩,q,λb f=>(r b f).1⟩⟩
 done:=by intro X F J D G i p s σ H E I r l S;subst F J D;obtain⟨t,u,R,y,B,C⟩:=r it (by simp);have hi:i=n:=S;subst hi;exact(W X.A<|I.ok.hd G).done s _ _ l λh' M L=>⟨rfl,I.turned (λb o f e=>L b o (by simpa using f) e) t u y B C⟩
 self:=g
noncomputable def vG(x:c7):List D:=x.cps.toList.map λc=>.str ⟨#[c]⟩
structure MS where
 items:List D
 ok:p8->Prop
abbrev Ib:=SD->p8->(MS->p8->Prop)->Prop
structure Hw(K:q9)(src:MS)(ρ0:List d5)(H0:Hp)(J:It):Prop where
 go:∀(i:Nat) ρ M H,t5 K ρ M H->Grow K ρ0 H0 ρ H->src.ok M->i<src.items.length->J.go i H
 yld:∀(i:Nat) ρ M H x H',t5 K ρ M H->Grow K ρ0 H0 ρ H->src.ok M->i<src.items.length->J.yld i H x H'->∃d ρ',src.items[i]?=a7 d/\t5 K ρ' M H'/\Grow K ρ H ρ' H'/\p9 K ρ' H' d x
 stop:∀(ρ:List d5) M H,t5 K ρ M H->Grow K ρ0 H0 ρ H->src.ok M->J.stop src.items.length H
def IQ(K:q9)(ρ:List d5)(H:Hp)(Q:MS->p8->Prop):It->Hp->Prop:=λJ H'=>∃src M a,t5 K a M H'/\Grow K ρ H a H'/\Hw K src a H' J/\Q src M
def lowI(K:q9)(i:Ib):TI:=λσ H R=>∃S M ρ Q,t5 K ρ M H/\SRep K ρ H S σ/\i S M Q/\∀J H',IQ K ρ H Q J H'->R J H'
def DI(X:Cx)(g r:ge)(i:Ib):Prop:=PI X g r<|lowI X.K i
theorem Hw.tup{K:q9}{ρ:List d5}{H:Hp}{a:d5}{vs:List V}{ds:List D}(h:x9 K H a vs)(r:Reps K ρ H ds vs)(q:∀ys,x9 K H a ys->ys=vs):Hw K ⟨ds,λ_=>True⟩ ρ H (Ny K a) where
 go:=λi b M H' s g _ hi=>by
  have l:i<vs.length:=by rw[<-r.length];exact hi
  exact⟨vs,vs[i],g.tup a vs h,u9 l⟩
 yld:=λi b M H' x f s g _ hi y=>by obtain⟨rfl,y⟩:=y;obtain⟨d,c,e⟩:=(r.grow g).getV<|y vs<|g.tup a vs h;exact⟨d,b,c,s,.refl,e⟩
 stop:=λb M H' s g _=>⟨vs,g.tup a vs h,by rw[<-r.length];exact t6 _⟩
theorem Hw.lst{K:q9}{ρ:List d5}{H:Hp}{n:Nat}{a:d5}{ds:List D}(e:ρ[n]?=a7 a):Hw K ⟨ds,λM=>ak M n ds⟩ ρ H (Nz K a) where
 go:=λi b M H' s g ok hi=>by
  obtain⟨vs,h,r⟩:=ak.seq s ok<|am g.pre e;have l:i<vs.length:=by rw[<-r.length];exact hi
  exact⟨vs,vs[i],h,u9 l⟩
 yld:=λi b M H' x j s g ok hi y=>by obtain⟨rfl,y⟩:=y;obtain⟨vs,h,r⟩:=ak.seq s ok<|am g.pre e;obtain⟨d,c,f⟩:=r.getV<|y vs h;exact⟨d,b,c,s,.refl,f⟩
 stop:=λb M H' s g ok=>by obtain⟨vs,h,r⟩:=ak.seq s ok<|am g.pre e;exact⟨vs,h,by rw[<-r.length];exact t6 _⟩
theorem Hw.plain{K:q9}{ρ:List d5}{H:Hp}{ds:List D}{J:It}(S:∀i H,i<ds.length->J.go i H)(Q:∀i H x H',i<ds.length->J.yld i H x H'->H'=H/\∃d,ds[i]?=a7 d/\cV d=a7 x)(hs:∀H,J.stop ds.length H):Hw K ⟨ds,λ_=>True⟩ ρ H J where
 go:=λi a M H' s g _ hi=>S i H' hi
 yld:=λi a M H' x b s g _ hi y=>by obtain⟨rfl,d,h,c⟩:=Q i _ x b hi y;exact⟨d,a,h,s,.refl,xR c⟩
 stop:=λa M H' s g _=>hs H'
def cE(te:u6):Ib:=λS M R=>te S M λd a=>match d with
 |.tup ds=>ds.length<=sizeLine->R ⟨ds,λ_=>True⟩ a
 |.str x=>R ⟨vG x,λ_=>True⟩ a
 |.ref n=>∃xs,ak a n xs/\(xs.length<=sizeLine->R ⟨xs,λM=>ak M n xs⟩ a)
 |_=>False
theorem GX(hl:DE X l tl):DI X tg l (cE tl):=by
 intro y s σ H R I h;obtain⟨S,M,ρ,Q,sm,sr,q,k⟩:=h;refine u3 (hl y s σ H _ I ⟨S,M,ρ,_,sm,sr,q,λv H' w=>w⟩) ?_;rintro u f ⟨v,F,g,V,d,G,D,j,g1,r1,C⟩;cases r1 with
 |non=>exact C.elim
 |bl b=>exact C.elim
 |int i=>exact C.elim
 |ty n=>exact C.elim
 |@tup a vs ds L r =>
  cases V;obtain⟨its,rr,p,U⟩:=g.tuple L;refine wpAny_pyIter_tuple (show f.heap.IsTuple a its.toArray from p) ?_;refine⟨f.heap.objs.size,[f.heap.objs.size],_,_,F,rfl,g.kept (t':=f.toks) λb o e=>u4 _ e,sU a _,⟨_,v8 _ rfl,rfl,rfl⟩,λb K=>?_,k _ F ⟨⟨ds,λ_=>True⟩,G,D,j,g1,Hw.tup L r λys hy=>g.tuple_inj hy L,?_⟩⟩;have e:b=f.heap.objs.size:=by simpa using K
  subst e;exact g.fpOk (t6 _)<|g.hok.fresh<|t6 _;exact(show ds.length<=sizeLine->Q ⟨ds,λ_=>True⟩ G from C)<|by rw[r.length];exact U
 |@ref n a Z =>
  cases V;obtain⟨xs,hL,q2⟩:=(show ∃xs,ak G n xs/\(xs.length<=sizeLine->Q ⟨xs,λM=>ak M n xs⟩ G)from C)
  obtain⟨vs,L,r⟩:=ak.seq j hL Z;obtain⟨its,rr,p,U⟩:=g.list L;refine wpAny_pyIter_list p.isList ?_;refine⟨f.heap.objs.size,[f.heap.objs.size],_,_,F,rfl,g.kept (t':=f.toks) λb o e=>u4 _ e,uF a _,⟨_,v8 _ rfl,rfl,rfl⟩,λb K=>?_,k _ F ⟨⟨xs,λM=>ak M n xs⟩,G,D,j,g1,Hw.lst Z,q2<|by rw[r.length];exact U⟩⟩;have e:b=f.heap.objs.size:=by simpa using K
  subst e;exact g.fpOk (t6 _)<|g.hok.fresh<|t6 _
 |str x =>
  obtain⟨t,rfl⟩:=V;have J:∀(B:String) (N:d6),(N.cls=.type B/\N.data=.fields #[.str x t,.int 0 0]) -> (∀O:e9,O.handled=a8->Walks X.prog X.w O f.heap.objs.size [f.heap.objs.size] [f.heap.objs.size] x.cps.size (SignAt x) (λi h=>h.IsStrIter f.heap.objs.size B x t i)) -> (∀(A:e9) (i:Nat) (s:f6) (Q:c6->f6->Prop) (E:c6->f6->Prop),s.heap.IsStrIter f.heap.objs.size B x t i->Q (.ref f.heap.objs.size) s->f9 (g7 X.prog X.w) A (i9<|.ref f.heap.objs.size) Q E s) -> ["enumerate","zip","dict_itemiterator","dict_reverseitemiterator","odict_iterator","itertools.zip_longest","itertools.pairwise"].contains B=c5->(f.heap.push N).IsStrIter f.heap.objs.size B x t 0 -> LU X y σ tg R (.ref f.heap.objs.size) { f with heap:=f.heap.push N }:=λB N ai W z T m=>by
   refine⟨f.heap.objs.size,[f.heap.objs.size],_,_,F,rfl,g.kept (t':=f.toks) λb o e=>u4 _ e,sT (PX:=λi v=>∃c,x.cps[i]?=a7 c/\v=.str ⟨#[c]⟩) _ _ _ _ W (λi v ⟨c,u,e1,e2⟩=>⟨.str ⟨#[c]⟩,⟨u,e2⟩,c,e1,rfl⟩) (λi h m=>?_) (λi h h' m k=>?_) z,m,λb K=>?_,k _ F ⟨⟨vG x,λ_=>True⟩,G,D,j,g1,Hw.plain ?_ ?_ ?_,C⟩⟩;obtain⟨o,e,c,d⟩:=m;exact⟨o,B,_,e,c,d,T⟩;obtain⟨o,e,r⟩:=m;exact⟨o,k o e,r⟩;have e:b=f.heap.objs.size:=by simpa using K
   subst e;exact g.fpOk (t6 _)<|g.hok.fresh<|t6 _;intro i _ hi;simpa [vG]using hi;rintro i H x' H' _ ⟨rfl,c,e,rfl⟩;exact⟨rfl,.str ⟨#[c]⟩,by simp[vG,e],rfl⟩;intro H;simp[vG]
  cases Y:x.cps.all (· < 128);exact wpAny_pyIter_wide Y<|J _ _ ⟨rfl,rfl⟩ (λO P=>Walks.strWide P _ x t) (λ_ _ _ _ _ m h=>wpAny_pyIter_striter_wide m h) (by decide) ⟨_,v8 _ rfl,rfl,rfl⟩;exact wpAny_pyIter_ascii Y<|J _ _ ⟨rfl,rfl⟩ (λO P=>Walks.strAscii P _ x t) (λ_ _ _ _ _ m h=>wpAny_pyIter_striter_ascii m h) (by decide) ⟨_,v8 _ rfl,rfl,rfl⟩
noncomputable def pc(l:Int)(n:Nat):List D:=(A7 n).map λi=>.int<|l+((i:Nat):Int)
theorem Hw.rng{K:q9}{ρ:List d5}{H:Hp}(l:Int)(n:Nat):Hw K ⟨pc l n,λ_=>True⟩ ρ H (Lj l n):=by
 refine Hw.plain (λi _ hi=>?_) (λi H x H' hi y=>?_) λH=>?_;show i<n;simpa [pc]using hi;obtain⟨e,rfl⟩:=y;have h:i<n:=by simpa [pc]using hi
 exact⟨e,.int<|l+i,by simp[pc,h],rfl⟩;show n<=(pc l n).length;simp[pc]
def cw(t:D7):Ib:=λS M R=>t S M λds a=>match ds with
 | [.int j]=>(-(2 ^ 62)<=j/\j<2 ^ 62)/\R ⟨pc 0 j.toNat,λ_=>True⟩ a
 |_=>False
def mv(t:D7):Ib:=λS M R=>t S M λds a=>match ds with
 | [.int i,.int j]=>(-(2 ^ 62)<=i/\i<2 ^ 62/\-(2 ^ 62)<=j/\j<2 ^ 62)/\R ⟨pc i (j-i).toNat,λ_=>True⟩ a
 |_=>False
theorem PI.imp(h:PI X tg iter t')(i:∀σ H R,t σ H R->t' σ H R):PI X tg iter t:=λp s σ H R I q=>h p s σ H R I<|i σ H R q
theorem pX{K:q9}{d:D7}(σ:St)(H:Hp)(R:It->Hp->Prop)(h:lowI K (cw d) σ H R):Gj (lowA K d) σ H R:=by
 obtain⟨S,M,ρ,Q,s,l,q,k⟩:=h;refine⟨S,M,ρ,_,s,l,q,?_⟩;rintro vs e ⟨ds,f,b,i,g1,a,c⟩
 try dsimp only at c
 split at c;rename_i j;obtain⟨⟨h1,h2⟩,g⟩:=c
 first|have z:=Reps.inv_cons a|have z:=ao.inv_cons a
 clear a;obtain⟨_,_,rfl,r,t⟩:=z;cases r;cases t;exact⟨j,rfl,h1,h2,k _ e ⟨_,f,b,i,g1,Hw.rng 0 j.toNat,g⟩⟩;exact c.elim
theorem xG(d:X.mg "range" = a8)(f:DA X [a] ta)(S:Gl X "range":=by rfl)(hs:g9 [a] X.env=[(c5,eval a X.env)]:=by rfl):DI X tg (.Call (.Name "range" p) [a] [] pos) (cw ta):=PI.imp (vS S d f hs) pX
theorem xF(o:X.mg "range" = a8)(m:DA X [a,b] ta)(n:Gl X "range":=by rfl)(hs:g9 [a,b] X.env=[(c5,eval a X.env),(c5,eval b X.env)]:=by rfl)(d:g9 [b] X.env=[(c5,eval b X.env)]:=by rfl):DI X tg (.Call (.Name "range" p) [a,b] [] pos) (mv ta):=by
 refine PI.imp (vR n o m hs d) ?_;rintro σ H R ⟨S,M,ρ,Q,s,w,q,k⟩;refine⟨S,M,ρ,_,s,w,q,?_⟩;rintro vs g ⟨ds,l,f,v,g1,e,c⟩
 try dsimp only at c
 split at c;rename_i i j;obtain⟨h,u⟩:=c
 first|have z:=Reps.inv_cons e|have z:=ao.inv_cons e
 clear e;obtain⟨_,_,rfl,r,t⟩:=z;cases r;cases t with
 |cons r t=>cases r;cases t;exact⟨i,j,rfl,h,k _ g ⟨_,l,f,v,g1,Hw.rng i (j-i).toNat,u⟩⟩
 exact c.elim
section
mutual
inductive A4(k:Nat):D->Prop
 |non:A4 k .non
 |bl (b:Bool):A4 k (.bl b)
 |int (i:Int):A4 k (.int i)
 |str (x:c7):A4 k (.str x)
 |ty (n:String):A4 k (.ty n)
 |tup {ds:List D} (h:Bels k ds):A4 k (.tup ds)
 |ref {n:Nat} (h:n<k):A4 k (.ref n)
inductive Bels(k:Nat):List D->Prop
 |nil:Bels k []
 |cons {d:D}{ds:List D} (h:A4 k d) (t:Bels k ds):Bels k (d::ds)
end
noncomputable def MO.items:MO->List D
 |.lst xs=>xs
 |.fz xs=>xs
 |.kl xs=>xs
 |.dct kvs=>kvs.map (·.2)
 |.dkt kvs=>kvs.map (·.2)
 |.dkq _ kvs=>kvs.map (·.2)
 |.fdc _ kvs=>kvs.map (·.2)
 |.dkm kvs=>kvs.map (·.2)
 |.tb _ _=>[]
 |.exc _ _=>[]
theorem p9.bel{K:q9}{ρ:List d5}{H:Hp}{d:D}{v:V}(h:p9 K ρ H d v):A4 ρ.length d:=p9.rec (motive_1:=λd v _=>A4 ρ.length d) (motive_2:=λds vs _=>Bels ρ.length ds) .non .bl .int .str .ty (λ_ _ r=>.tup r) (λh=>.ref (w9.mp h).1) .nil (λ_ _ h t=>.cons h t) h
theorem Reps.bel{K:q9}{ρ:List d5}{H:Hp}{ds:List D}{vs:List V}(h:Reps K ρ H ds vs):Bels ρ.length ds:=Reps.rec (motive_1:=λd v _=>A4 ρ.length d) (motive_2:=λds vs _=>Bels ρ.length ds) .non .bl .int .str .ty (λ_ _ r=>.tup r) (λh=>.ref (w9.mp h).1) .nil (λ_ _ h t=>.cons h t) h
theorem A4.inv(b:A4 k d):(∀ds,d=.tup ds->Bels k ds)/\∀n,d=.ref n->n<k:=by
 cases b with
 |tup b=>exact⟨(λ_ e=>by injection e with e;exact e ▸ b),(λ_ e=>by cases e)⟩
 |ref b=>exact⟨(λ_ e=>by cases e),(λ_ e=>by injection e with e;exact e ▸ b)⟩
 |_=>exact⟨(λ_ e=>by cases e),(λ_ e=>by cases e)⟩
theorem Bels.inv{k:Nat}{d:D}{ds:List D}(b:Bels k (d::ds)):A4 k d/\Bels k ds:=by
 cases b with
 |cons b c=>exact⟨b,c⟩
theorem p9.cut{K:q9}{ρ:List d5}{H:Hp}{k:Nat}{d:D}{v:V}(h:p9 K ρ H d v):A4 k d->p9 K (ρ.take k) H d v:=p9.rec (motive_1:=λd v _=>A4 k d->p9 K (ρ.take k) H d v) (motive_2:=λds vs _=>Bels k ds->Reps K (ρ.take k) H ds vs) (λ_=>.non) (λb _=>.bl b) (λb _=>.int b) (λb _=>.str b) (λb _=>.ty b) (λh _ r b=>.tup h<|r<|b.inv.1 _ rfl)
  (λh b=>.ref<|by rw[KA<|b.inv.2 _ rfl];exact h) (λ_=>.nil) (λ_ _ h t b=>.cons (h b.inv.1)<|t b.inv.2) h
theorem Reps.cut{K:q9}{ρ:List d5}{H:Hp}{k:Nat}{ds:List D}{vs:List V}(h:Reps K ρ H ds vs):Bels k ds->Reps K (ρ.take k) H ds vs:=Reps.rec (motive_1:=λd v _=>A4 k d->p9 K (ρ.take k) H d v) (motive_2:=λds vs _=>Bels k ds->Reps K (ρ.take k) H ds vs) (λ_=>.non) (λb _=>.bl b) (λb _=>.int b) (λb _=>.str b) (λb _=>.ty b) (λh _ r b=>.tup h<|r<|b.inv.1 _ rfl)
  (λh b=>.ref<|by rw[KA<|b.inv.2 _ rfl];exact h) (λ_=>.nil) (λ_ _ h t b=>.cons (h b.inv.1)<|t b.inv.2) h
theorem A4.mono{j k:Nat}(h:j<=k){d:D}(b:A4 j d):A4 k d:=A4.rec (motive_1:=λd _=>A4 k d) (motive_2:=λds _=>Bels k ds) .non .bl .int .str .ty (λ_ b=>.tup b) (λb=>.ref<|D6 b h) .nil (λ_ _ b c=>.cons b c) b
theorem Bels.mono{j k:Nat}(h:j<=k){ds:List D}(b:Bels j ds):Bels k ds:=Bels.rec (motive_1:=λd _=>A4 k d) (motive_2:=λds _=>Bels k ds) .non .bl .int .str .ty (λ_ b=>.tup b) (λb=>.ref<|D6 b h) .nil (λ_ _ b c=>.cons b c) b
theorem Bels.of:∀{xs:List D},(∀d∈xs,A4 k d)->Bels k xs
 | [],_=>.nil
 |d::ds,h=>.cons (h d z0)<|Bels.of λe he=>h e<|w6 _ he
section
variable{K:q9}{ρ ρ':List d5}{H H':Hp}{M M':p8}
theorem sf:∀(n:Nat) (d:D),cb n d=a9->A4 k d:=by
 intro n;induction n with
 |zero =>
  intro d h;cases d with
  |str x=>exact .str x
  |int x=>exact .int x
  |_=>cases h
 |succ n i =>
  intro d h;cases d with
  |str x=>exact .str x
  |int x=>exact .int x
  |tup ds=>exact .tup<|Bels.of λx a=>i x<|D9.mp (show ds.all (cb n)=a9 from h) x a
  |_=>cases h
theorem wS(r:Paired (uu K ρ H) kvs xs):Bels ρ.length (kvs.map (·.2)):=by
 induction r with
 |nil=>exact .nil
 |cons q _ i=>obtain⟨_,_,_,v,u,_⟩:=q;exact .cons u.bel i
theorem wR(r:Paired (uu K ρ H) kvs xs)(b:Bels k (kvs.map (·.2))):Paired (uu K (ρ.take k) H) kvs xs:=by
 induction r with
 |nil=>exact .nil
 |cons q _ i =>
  obtain⟨d,j,e,v,u,m⟩:=q;rw[A5]at b;cases b with
  |cons a c=>exact .cons ⟨d,j,e.cut<|sf _ _ j,v,u.cut a,m⟩<|i c
theorem zI:∀(d:D),tT d=a9->A4 k d
 |.non,_=>.non
 |.tup ks,h=>sf 8 _ h
 |.bl _,h=>nomatch h
 |.int _,h=>nomatch h
 |.str _,h=>nomatch h
 |.ty _,h=>nomatch h
 |.ref _,h=>nomatch h
theorem CC(r:Paired (Ik K ρ H) kvs xs):Bels ρ.length (kvs.map (·.2)):=by
 induction r with
 |nil=>exact .nil
 |cons q _ i=>obtain⟨_,_,_,v,u,_⟩:=q;exact .cons u.bel i
theorem CB(r:Paired (Ik K ρ H) kvs xs)(b:Bels k (kvs.map (·.2))):Paired (Ik K (ρ.take k) H) kvs xs:=by
 induction r with
 |nil=>exact .nil
 |cons q _ i =>
  obtain⟨d,j,⟨u,e,n⟩,v,f,m⟩:=q;rw[A5]at b;cases b with
  |cons a c=>exact .cons ⟨d,j,⟨u,e.cut<|zI _ j,n⟩,v,f.cut a,m⟩<|i c
theorem uy.bels(h:uy K ρ H a mo):Bels ρ.length mo.items:=by
 cases mo with
 |lst ds=>obtain⟨vs,_,r⟩:=h;exact r.bel
 |fz ds=>obtain⟨o,vs,_,r⟩:=h;exact r.bel
 |kl ds=>obtain⟨vs,_,r⟩:=h;exact r.bel
 |dct s=>obtain⟨vs,_,r⟩:=h;exact r.bel
 |dkt s=>obtain⟨_,_,_,xs,_,r⟩:=h;exact wS r
 |dkq _ s=>obtain⟨_,_,_,xs,_,r⟩:=h;exact wS r
 |fdc o s=>obtain⟨vs,_,r⟩:=h;exact r.bel
 |dkm s=>obtain⟨_,_,_,xs,_,r⟩:=h;exact CC r
 |tb x b=>exact .nil
 |exc x e=>exact .nil
theorem uy.cut(h:uy K ρ H a mo)(b:Bels k mo.items):uy K (ρ.take k) H a mo:=by
 cases mo with
 |lst ds=>obtain⟨vs,e,r⟩:=h;exact⟨vs,e,r.cut b⟩
 |fz ds=>obtain⟨o,vs,e,r⟩:=h;exact⟨o,vs,e,r.cut b⟩
 |kl ds=>obtain⟨vs,e,r⟩:=h;exact⟨vs,e,r.cut b⟩
 |dct s=>obtain⟨vs,e,r⟩:=h;exact⟨vs,e,r.cut b⟩
 |dkt s=>obtain⟨h1,h2,c,xs,e,r⟩:=h;exact⟨h1,h2,c,xs,e,wR r b⟩
 |dkq _ s=>obtain⟨h1,h2,c,xs,e,r⟩:=h;exact⟨h1,h2,c,xs,e,wR r b⟩
 |fdc o s=>obtain⟨vs,e,r⟩:=h;exact⟨vs,e,r.cut b⟩
 |dkm s=>obtain⟨h1,h2,c,xs,e,r⟩:=h;exact⟨h1,h2,c,xs,e,CB r b⟩
 |tb x b=>exact h
 |exc x e=>exact h
theorem t5.bels(S:t5 K ρ M H){n:Nat}{mo:MO}(e:M[n]?=a7 mo):Bels M.length mo.items:=by obtain⟨a,_,h⟩:=S.get e;rw[<-S.len];exact h.bels
theorem t5.cut(S:t5 K ρ M H)(k:Nat)(d:∀(n:Nat) (mo:MO),n<k->M[n]?=a7 mo->Bels k mo.items):t5 K (ρ.take k) (M.take k) H:=by
 have lt:∀{n:Nat}{a:d5},(ρ.take k)[n]?=a7 a->n<k/\ρ[n]?=a7 a:=λ{n a} e=>by
  have h1:=(w9.mp e).1;rw[HU]at h1;have h2:n<k:=by lia
  rw[KA h2]at e;exact⟨h2,e⟩
 refine⟨λn m a h t b=>?_,by rw[HU,HU,S.len],λn a mo t b=>?_⟩;obtain⟨l,r⟩:=lt t;obtain⟨c,N⟩:=lt b;rw[KA l,KA c];exact S.nd n m a h r N;obtain⟨l,r⟩:=lt t;rw[KA l]at b;exact(S.obj n a mo r b).cut<|d n mo l b
theorem SRep.cut(r:SRep K ρ H S σ)(g:S'.length=S.length)(h:∀(i:Nat) d,S'[i]?=a7 (a7 d)->S[i]?=a7 (a7 d)/\A4 k d):SRep K (ρ.take k) H S' σ:=⟨g.trans r.len,λi d e=>let ⟨e',b⟩:=h i d e;let ⟨v,hv,rv⟩:=r.get i d e';⟨v,hv,rv.cut b⟩⟩
theorem Grow.cut(g:Grow K ρ H ρ' H')(h:ρ.length<=k):Grow K ρ H (ρ'.take k) H':=by refine⟨?_,g.tup⟩;obtain⟨t,rfl⟩:=g.pre;rw[List.take_append];rw[Mw h];exact G5 _ _
end
inductive FgtS(k:Nat):SD->SD->Prop
 |nil:FgtS k [] []
 |keep {d:D}{S S':SD} (h:A4 k d) (t:FgtS k S S'):FgtS k (a7 d::S) (a7 d::S')
 |drop {o:Option D}{S S':SD} (t:FgtS k S S'):FgtS k (o::S) (a8::S')
theorem FgtS.len(h:FgtS k S S'):S'.length=S.length:=by
 induction h with
 |nil=>rfl
 |keep _ _ i=>rw[A0,A0,i]
 |drop _ i=>rw[A0,A0,i]
theorem FgtS.get(h:FgtS k S S'):∀(i:Nat) d,S'[i]?=a7 (a7 d)->S[i]?=a7 (a7 d)/\A4 k d:=by
 induction h with
 |nil=>intro i d e;simp at e
 |keep b _ a =>
  intro i d e;cases i with
  |zero=>simp at e;subst e;exact⟨rfl,b⟩
  |succ i=>exact a i d<|by simpa using e
 |drop _ a =>
  intro i d e;cases i with
  |zero=>simp at e
  |succ i=>exact a i d<|by simpa using e
def z9(a:p8)(P:SD->p8->Prop)(S:SD)(M:p8):Prop:=P S M\/(∃k b,a.length<=k/\FgtS k S b/\(∀(n:Nat) mo,n<k->M[n]?=a7 mo->Bels k mo.items)/\P b (M.take k))\/∃b,FgtS a.length S b/\a <+: M/\P b a
theorem yu{α:Type}{l l':List α}(h:l <+: l'):l'.take l.length=l:=by obtain⟨t,rfl⟩:=h;rw[List.take_append_of_le_length<|t6 _,Jm]
theorem SQ.fgt{K:q9}{ρ:List d5}{H:Hp}{M:p8}{P:SD->p8->Prop}{c:St}{H':Hp}(s0:t5 K ρ M H)(h:SQ K ρ H (z9 M P) c H'):SQ K ρ H P c H':=by
 have f:ρ.length<=M.length:=by rw[s0.len];exact t6 _
 obtain⟨S,d,b,s',g,a,j⟩:=h;rcases j with j|⟨k,S2,h1,h2,i,q⟩|⟨S2,h2,p,q⟩
 exact⟨S,d,b,s',g,a,j⟩;exact⟨S2,d.take k,b.take k,s'.cut k i,g.cut<|F6 f h1,a.cut h2.len h2.get,q⟩;have s:=s'.cut M.length λn o l e=>by obtain⟨t,rfl⟩:=p;rw[G6 l]at e;exact s0.bels e
 rw[yu p]at s;exact⟨S2,M,b.take M.length,s,g.cut f,a.cut h2.len h2.get,q⟩
def oJ(ok:p8->Prop)(g:HD)(tb:p5)(E:DEnds)(k0:p8):List D->SD->p8->Prop
 | [],S,M=>ok M/\E.nx S M
 |x::xs,S,M=>ok M/\g x S M λS2 M2=>tb ⟨z9 k0<|oJ ok g tb E k0 xs,E.rt,E.nx,z9 k0<|oJ ok g tb E k0 xs⟩ S2 M2
def jU(i:Ib)(g:HD)(b:p5):p5:=λE S M=>i S M λsrc a=>oJ src.ok g b E a src.items S a
theorem oE{α:Type}{l:List α}{i:Nat}{x:α}(h:l[i]?=a7 x):l.drop i=x::l.drop (i+1):=by obtain⟨hi,e⟩:=w9.mp h;rw[MC hi,e]
theorem zk{K:q9}{P:Ib}{g:HD}{u:p5}(E:Ends)(σ:St)(H:Hp)(h:lowS K (jU P g u) E σ H):tFor (lowI K P) (lowG K g) (lowS K u) E σ H:=by
 obtain⟨S,M,ρ,F,s,U,q,k⟩:=h;refine⟨S,M,ρ,_,s,U,q,?_⟩;rintro J C ⟨src,o,f,T,g1,it,q1⟩;have D:=k.trans g1;refine⟨λi m τ j=>∃S2 b a,t5 K a b j/\Grow K f C a j/\SRep K a j S2 τ/\i<=src.items.length/\m=src.items.length-i/\oJ src.ok g u F o (src.items.drop i) S2 b,⟨_,S,o,f,T,.refl,U.grow g1,v9 _,rfl,q1⟩,?_⟩;rintro i m τ j ⟨S2,b,a,B,p,r,hi,rfl,A⟩;by_cases t:i<src.items.length;have Q:src.items[i]?=a7 src.items[i]:=u9 t;rw[oE Q]at A;obtain⟨ok,G⟩:=(show src.ok b/\g src.items[i] S2 b _ from A)
 refine .inr ⟨it.go i a b j B p ok t,_,λai H' z=>z,λx V y=>?_⟩;obtain⟨d,N,hd,s3,g3,r3⟩:=it.yld i a b j x V B p ok t y;have ed:d=src.items[i]:=A1<|hd.symm.trans Q;subst ed;refine⟨_,S2,b,N,_,s3,r.grow g3,r3,G,?_⟩;rintro aj W ⟨S4,X,w,s4,g4,I,q4⟩;have l:=(p.trans g3).trans g4;refine⟨S4,X,w,_,s4,I,q4,?_⟩;have n:∀c Y,SQ K w W (z9 o<|oJ src.ok g u F o<|src.items.drop<|i+1) c Y -> ∃R,R < src.items.length-i/\∃S2 b a,t5 K a b Y/\Grow K f C a Y/\SRep K a Y S2 c/\i+1<=src.items.length/\R=src.items.length-(i+1)/\oJ src.ok g u F o (src.items.drop<|i+1) S2 b:=λc Y z=>by obtain⟨S5,Z,O,s5,g5,L,q5⟩:=SQ.fgt (ρ:=f) (H:=C) T<|SQ.trans l z;exact⟨_,by lia,S5,Z,O,s5,g5,L,t,rfl,q5⟩
 exact⟨n,λv Y z=>D.rt v Y<|VQ.trans l z,λc Y z=>D.nx c Y<|SQ.trans l z,n⟩;have e:i=src.items.length:=by lia
 subst e;rw[List.drop_of_length_le<|t6 _]at A;obtain⟨ok,G⟩:=(show src.ok b/\F.nx S2 b from A)
 exact .inl ⟨it.stop a b j B p ok,D.nx τ j ⟨S2,b,a,B,p,r,G⟩⟩
theorem GS(hi:DI X tg iter di)(S:DG X tg g)(d:IY X body tb)(p:PassesOwn (g7 X.prog X.w) X.A X.env X.xe:=by exact PassesOwn.never)(f:X.calm=a9:=by rfl)(hs:∀x,j1 iter X.env x=pure x:=by intro _;rfl):DS X (.For tg iter body [] pos) (jU di g tb):=PS.imp (ES p f hi S d hs) zk
noncomputable def Hb(t:Nat)(s:List Nat)(S:SD):SD:=Lq t a8++s.map λj=>(S[j]?).join
def jV(ok:p8->Prop)(g:HD)(tt:E2)(te:u6)(Q:DK):List D->List D->SD->p8->Prop
 | [],acc,S,M=>ok M/\Q (.ref M.length) (M++[.lst acc])
 |x::xs,acc,S,M=>ok M/\g x S M λS2 M2=>tt S2 M2 λb M3=>if b=a9 then te S2 M3 λy M4=>acc.length<sizeLine/\jV ok g tt te Q xs (acc++[y]) S2 M4 else jV ok g tt te Q xs acc S2 M3
def H9(t:Nat)(s:List Nat)(i:Ib)(g:HD)(tt:E2)(te:u6):u6:=λS M Q=>i S M λsrc a=>jV src.ok g tt te Q src.items [] (Hb t s S) a
theorem SRep.bst{K:q9}{ρ:List d5}{H:Hp}{S:SD}{σ:St}(r:SRep K ρ H S σ)(t:Nat)(s:List Nat):SRep K ρ H (Hb t s S) (L2.bst t s σ):=by
 refine⟨by simp[Hb,xT],λi d e=>?_⟩;unfold Hb at e;unfold L2.bst;by_cases hi:i<t;rw[G6 (by simpa using hi),My]at e;simp[hi]at e;rw[IB (by simpa using Ji.mp hi),Mu,C2]at e;rw[IB (by simpa using Ji.mp hi),Mu,C2];cases q:s[i-t]? with
 |none=>rw[q]at e;cases e
 |some j =>
  rw[q]at e;have a:(S[j]?).join=a7 d:=by simpa using e
  cases b:S[j]? with
  |none=>rw[b]at a;cases a
  |some o=>rw[b]at a;have m:o=a7 d:=a;subst m;obtain⟨v,c,f⟩:=r.get j d b;exact⟨v,by simp[c],f⟩
theorem wG{K:q9}{D:Nat}{C:List Nat}{T:Ib}{g:HD}{tt:E2}{te:u6}(σ:St)(H:Hp)(R:VK)(h:lowE K (H9 D C T g tt te) σ H R):LN D C (lowI K T) (lowG K g) (lowT K tt) (lowE K te) σ H R:=by
 obtain⟨S,M,ρ,Q,s,W,q,k⟩:=h;refine⟨S,M,ρ,_,s,W,q,?_⟩;rintro J X ⟨src,M1,r,s1,g1,it,q1⟩;refine⟨λi m vs τ f=>∃S2 c a acc,t5 K a c f/\Grow K r X a f/\SRep K a f S2 τ/\Reps K a f acc vs/\i<=src.items.length/\m=src.items.length-i/\jV src.ok g tt te Q (src.items.drop i) acc S2 c,⟨_,_,M1,r,[],s1,.refl,(W.grow g1).bst D C,.nil,v9 _,rfl,q1⟩,?_⟩;rintro i m vs τ f ⟨S2,c,a,acc,z,o,G,w,hi,rfl,u⟩;by_cases t:i<src.items.length;have U:src.items[i]?=a7 src.items[i]:=u9 t;rw[oE U]at u;obtain⟨ok,E⟩:=(show src.ok c/\g src.items[i] S2 c _ from u)
 refine .inr ⟨it.go i a c f z o ok t,λx Y y=>?_⟩;obtain⟨d,N,hd,s3,g3,r3⟩:=it.yld i a c f x Y z o ok t y;have ed:d=src.items[i]:=A1<|hd.symm.trans U;subst ed;refine⟨_,S2,c,N,_,s3,G.grow g3,r3,E,?_⟩;rintro ai H4 ⟨j,M4,L,s4,A,I,q4⟩;refine⟨j,M4,L,_,s4,I,q4,?_⟩;rintro b H5 ⟨Z,O,s5,l,V⟩;have n:=((o.trans g3).trans A).trans l;cases b with
 |false=>exact bz ⟨_,by lia,j,Z,O,acc,s5,n,I.grow l,w.grow<|(g3.trans A).trans l,t,rfl,(show jV src.ok g tt te Q (src.items.drop<|i+1) acc j Z from V)⟩
 |true=>refine bP ⟨j,Z,O,_,s5,I.grow l,(show te j Z _ from V),?_⟩;rintro v H6 ⟨y',M6,P,s6,B,r6,hl,q6⟩;have F:=w.grow<|((g3.trans A).trans l).trans B;exact⟨by rw[<-w.length];exact hl,_,by lia,j,M6,P,acc++[y'],s6,n.trans B,I.grow<|l.trans B,F.append<|.cons r6 .nil,t,rfl,q6⟩
 have e:i=src.items.length:=by lia
 subst e;rw[List.drop_of_length_le<|t6 _]at u;obtain⟨ok,E⟩:=(show src.ok c/\Q (.ref c.length) (c++[.lst acc])from u)
 exact .inl ⟨it.stop a c f z o ok,λp hp=>k _ _<|VQ.laidL z (g1.trans o) w hp E⟩
theorem d_lc(B:BlkSc X N' nt js scope)(hi:DI X tg iter di)(S:∀cl s0 H0 ex,DG (x6 X N' scope cl s0 H0 ex) tg g) (E:∀cl s0 H0 ex,IX (x6 X N' scope cl s0 H0 ex) ifs<|lowT X.K tt) (i:∀cl s0 H0 ex,DE (x6 X N' scope cl s0 H0 ex) elt te) (f:X.calm=a9:=by rfl)(hs:∀x,j1 iter X.env x=pure x:=by intro _;rfl):DE X (.ListComp elt [⟨tg,iter,ifs,0⟩] scope pos) (H9 nt js di g tt te):=PE.imp (pe_lc (g:=lowG X.K g) (tt:=lowT X.K tt) (te:=lowE X.K te) B f hi (λcl s0 H0 ex=>S cl s0 H0 ex) E (λcl s0 H0 ex=>i cl s0 H0 ex) hs) wG
def ux:E2:=λ_ M Q=>Q a9 M
theorem Dp:IX X [] (lowT X.K ux):=λp s σ H R I ⟨S,M,ρ,Q,m,e,q,k⟩=>BH p s σ H R I<|k a9 H ⟨M,ρ,m,.refl,q⟩
theorem Do(h:DT X c t):IX X [c] (lowT X.K t):=BG h
def IG(M a:p8):Prop:=a.length=M.length/\∀(i:Nat) (b:MO),a[i]?=a7 b->M[i]?=a7 b\/Bels M.length b.items
theorem IG.refl:IG M M:=⟨rfl,λ_ _ h=>.inl h⟩
theorem IG.set(c:IG M M1)(b:Bels M.length mo.items):IG M (M1.set n mo):=by refine⟨by rw[G9];exact c.1,λi m h=>?_⟩;by_cases e:n=i;subst e;by_cases g:n<M1.length;rw[IA g]at h;cases h;exact .inr b;rw[J0<|by rw[G9];lia]at h;cases h;rw[IT e]at h;exact c.2 i m h
def bt(M:p8)(R:DK):DK:=λd b=>R d b\/(∃a,IG M a/\A4 M.length d/\a <+: b/\R d a)\/∃a n xs,IG M a/\d=.ref n/\M.length<=n/\b[n]?=a7 (.lst xs)/\a <+: b/\Bels M.length xs/\R (.ref M.length) (a++[.lst xs])
theorem cq{α:Type}{l l':List α}(h:l <+: l'):l'.take l.length=l:=by obtain⟨t,rfl⟩:=h;rw[List.take_append_of_le_length<|t6 _,Jm]
theorem VQ.endq{K:q9}{ρ:List d5}{M:p8}{H:Hp}{R:DK}{v:V}{H':Hp}(s:t5 K ρ M H)(h:VQ K ρ H (bt M R) v H'):VQ K ρ H R v H':=by
 obtain⟨d,D,C,s',w,r',Y⟩:=h;have j:C.take M.length=ρ:=by rw[<-s.len];exact cq w.pre
 rcases Y with q|⟨g,c,b,f,q⟩|⟨g,n,xs,c,rfl,X,e,f,b,q⟩
 exact⟨d,D,C,s',w,r',q⟩;have i:=s'.cut M.length λn o u e=>by
  have F:g[n]?=a7 o:=by obtain⟨t,rfl⟩:=f;rw[G6<|by rw[c.1];exact u]at e;exact e
  exact(c.2 n o F).elim (λz=>s.bels z) id
 have O:D.take M.length=g:=by rw[<-c.1];exact cq f
 rw[j,O]at i;have B:=r'.cut b;rw[j]at B;exact⟨d,g,ρ,i,⟨Kn,w.tup⟩,B,q⟩;have i:=s'.cut M.length λn o u e=>by
  have F:g[n]?=a7 o:=by obtain⟨t,rfl⟩:=f;rw[G6<|by rw[c.1];exact u]at e;exact e
  exact(c.2 n o F).elim (λz=>s.bels z) id
 have O:D.take M.length=g:=by rw[<-c.1];exact cq f
 rw[j,O]at i;obtain⟨a,rfl,u⟩:=p9.inv_ref r';obtain⟨vs,U,Z⟩:=s'.obj n a _ u e;have B:=Z.cut b;rw[j]at B;have Q:Grow K ρ H' (ρ++[a]) H':=⟨G5 _ _,λ_ _ h=>h⟩
 have A:∀(m:Nat),ρ[m]?=a7 a->HZ g[m]?:=λm I=>by
  have W:m≠n:=λz=>by
   have:m<M.length:=by rw[<-s.len];exact(w9.mp I).1
   lia
  have q:=s'.nd m n a W (am w.pre I) u;have J:m<M.length:=by rw[<-s.len];exact(w9.mp I).1
  rcases q with⟨ds,z⟩|⟨ds,z⟩
  refine⟨ds,?_⟩;have l:m<g.length:=by rw[c.1];exact J
  have:=am f<|u9 l;rw[z]at this;rw[u9 l];exact this.symm;rw[e]at z;cases z
 refine⟨.ref M.length,g++[.lst xs],ρ++[a],⟨λy S E x G k=>?_,by rw[v4,v4,i.len];rfl,λy E o G k=>?_⟩,⟨G5 _ _,w.tup⟩,.ref (by have:=i.last (p:=a);rw[c.1]at this;exact this),q⟩;rcases aL G with r|⟨r,P⟩
 rcases aL k with N|⟨N,T⟩
 exact(i.nd y S E x r N).elim (λz=>.inl z.more) λz=>.inr z.more;subst T;exact .inl (A y r).more;rcases aL k with N|⟨N,T⟩
 subst P;exact .inr (A S N).more;exact n6 (r.trans N.symm) x;rcases aL G with r|⟨r,P⟩
 have L:y<g.length:=by rw[<-i.len];exact(w9.mp r).1
 rw[G6 L]at k;exact(i.obj y E o r k).grow Q<|.inl rfl;subst P r;rw[i.len,IB<|t6 _,Kf]at k;simp at k;subst k;exact⟨vs,U,B.grow Q⟩
noncomputable def bJ(N:List c7)(ds:List D):SD:=ds.map a7++Lq (N.length-ds.length) a8
theorem SRep.start{K:q9}{ρ:List d5}{H:Hp}{ds:List D}{vs:List V}(r:Reps K ρ H ds vs)(N:List c7):SRep K ρ H (bJ N ds) (L2.start N vs):=by
 refine⟨by simp[bJ,L2.start,r.length],λi d e=>?_⟩;unfold bJ at e;unfold L2.start;by_cases hi:i<ds.length;rw[G6 (by simpa using hi),C2]at e;rw[G6 (by simpa [<-r.length]using hi),C2];have a:ds[i]?=a7 d:=by rw[u9 hi]at e ⊢;simpa using e
 obtain⟨v,c,b⟩:=r.get a;exact⟨v,by rw[c];rfl,b⟩;rw[IB (by simpa using Ji.mp hi),My]at e;split at e<;>cases e
theorem d_fn{P:c9}{w:c8}{K:q9}{mg:c7->Option c6}{base:d7}{x l:c7}{st:h8}{f:d5}{e:j6}{N ps:List c7}{k:Nat}(d:x5)(F:IF K x l st f e)(n:FnScope N ps (ah st))(B:∀ds M R,d ds M R->ds.length=ps.length)(y:∀(cdv:c6) (A:e9) (outer:List Env) (s:f6) (H:Hp) (E:XK),Room k (A.deeper<|j9 l (ah st) s.heap.objs.size f cdv) -> ∃t,IY (oK D3 P w K mg base N l (ah st) f cdv A outer s H E).nox (bo st) t/\∀ds M R,d ds M R->t ⟨λ_ M'=>bt M R .non M',bt M R,λ_ _=>False,λ_ _=>False⟩ (bJ N ds) M):FnOk P w K mg base D3 (k+1) f e ps (IU K d):=by refine F.ok n (λvs H Q E ⟨ds,M,ρ,R,s,r,q,_⟩=>by rw[<-r.length];exact B ds M R q) λcdv A outer s H vs Q E p h=>?_;obtain⟨ds,M,ρ,R,m,r,q,i⟩:=h;obtain⟨t,u,o⟩:=y cdv A outer s H E p;refine⟨lowS K t,u,bJ N ds,M,ρ,_,m,SRep.start r N,o ds M R q,⟨λc H' ⟨S,M',a,s',g,b,j⟩=>?_,λv H' z=>i v H'<|VQ.endq m z,λc H' ⟨S,M',a,s',g,b,j⟩=>j.elim,λc H' ⟨S,M',a,s',g,b,j⟩=>j.elim⟩⟩;exact i .non H'<|VQ.endq m ⟨.non,M',a,s',g,.non,j⟩
end
theorem dfin(I:p0 X pins σ H s)(m:t5 X.K ρ M H)(k:∀v H',VQ X.K ρ H Q v H'->R v H')(c:cV d=a7 v)(r:aG v u)(q:Q d M):EP X pins σ R u s:=⟨v,H,I,r,k v H<|VQ.now m (xR c) q⟩
theorem dW(I:p0 X pins σ H s)(m:t5 X.K ρ M H)(k:∀v H',VQ X.K ρ H Q v H'->R v H')(q:Q (.bl b) M):EP X pins σ R (.bool b) s:=⟨.bl b,H,I,rfl,k _ H<|VQ.now m (.bl b) q⟩
def qAdd:D0:=λx y M Q=>match x,y with
 |.int i,.int j=>Q (.int<|i+j) M
 |.str a,.str b=>a.length+b.length<=sizeLine/\Q (.str<|a++b) M
 |.ref n,.ref m=>∃xs ys,M[n]?=a7 (.lst xs)/\M[m]?=a7 (.lst ys)/\xs.length+ys.length<=sizeLine/\Q (.ref M.length) (M++[.lst<|xs++ys])
 |_,_=>False
theorem FA:E1 X (j2 .Add) qAdd:=by refine A9.imp (Fo.or<|tD.or Fm) ?_;rintro v l H R ⟨x,y,M,ρ,Q,m,r,a,q,k⟩;unfold qAdd at q;split at q;cases r;cases a;exact .inl ⟨_,_,rfl,rfl,k _ H<|VQ.now m (.int _) q⟩;cases r;cases a;exact .inr<|.inl ⟨_,_,rfl,rfl,q.1,k _ H<|VQ.now m (.str _) q.2⟩;obtain⟨xs,ys,t,e,g,q⟩:=q;obtain⟨_,rfl,h1⟩:=p9.inv_ref r;obtain⟨_,rfl,h2⟩:=p9.inv_ref a;obtain⟨vs,f,g1⟩:=m.obj _ _ _ h1 t;obtain⟨s,N,i⟩:=m.obj _ _ _ h2 e;exact .inr<|.inr ⟨_,_,vs,s,rfl,rfl,f,N,by rw[<-g1.length,<-i.length];exact g,λp h=>k _ _<|VQ.laidL m .refl (g1.append i) h q⟩;exact q.elim
def DV:D0:=λx y M Q=>match x,y with
 |.int i,.int j=>Q (.int<|i-j) M
 |_,_=>False
theorem Ft:E1 X (j2 .Sub) DV:=by refine A9.imp Fh ?_;rintro g l H R ⟨x,y,M,ρ,Q,s,r,m,q,k⟩;unfold DV at q;split at q;cases r;cases m;exact⟨_,_,rfl,rfl,k _ H<|VQ.now s (.int _) q⟩;exact q.elim
def DR(i j:Int):Prop:=0<j/\j<340282366920938463463374607431768211456
theorem yX:A9 X (j2 .FloorDiv) (rI DR λi j=>.int<|i / j):=K8 λi j _ _ _ _ _ f q=>by have h1:(0:Int)<j:=f.1;have h2:j<340282366920938463463374607431768211456:=f.2;have a:j.natAbs.log2<128:=(Nat.log2_lt<|by lia).mpr (by rw[show (2:Nat) ^ 128=340282366920938463463374607431768211456 by decide];lia);exact floordiv_int (by lia) (by rw[Int.fdiv_eq_ediv_of_nonneg i<|by lia];exact q)<|.inl<|PyProof.noPylong_of_log2<|by lia
def pI:D0:=λx y M Q=>match x,y with
 |.int i,.int j=>DR i j/\Q (.int<|i / j) M
 |_,_=>False
theorem Cl:E1 X (j2 .FloorDiv) pI:=by refine A9.imp yX ?_;rintro g l H R ⟨x,y,M,ρ,Q,s,r,m,q,k⟩;unfold pI at q;split at q;cases r;cases m;exact⟨_,_,rfl,rfl,q.1,k _ H<|VQ.now s (.int _) q.2⟩;exact q.elim
def vM:D0:=λx y M Q=>match x,y with
 |.int i,.int j=>0<j/\Q (.int<|i % j) M
 |_,_=>False
theorem Fw:E1 X (j2 .Mod) vM:=by refine A9.imp Fl ?_;rintro g l H R ⟨x,y,M,ρ,Q,s,r,m,q,k⟩;unfold vM at q;split at q;cases r;cases m;exact⟨_,_,rfl,rfl,q.1,k _ H<|VQ.now s (.int _) q.2⟩;exact q.elim
noncomputable def pF(a b:c7):Bool:=decide<|a.cps.toList<b.cps.toList
def JF:D0:=λx y M Q=>match x,y with
 |.int i,.int j=>Q (.bl<|decide<|i<j) M
 |.str a,.str b=>Q (.bl<|pF a b) M
 |_,_=>False
def Jp:D0:=λx y M Q=>match x,y with
 |.int i,.int j=>Q (.bl<|decide<|j<i) M
 |.str a,.str b=>Q (.bl<|pF b a) M
 |_,_=>False
theorem Fy:E1 X (j3 .Lt) JF:=by rintro p s σ H b l v u R I g i ⟨x,y,M,ρ,Q,a,r,m,q,k⟩;unfold JF at q;split at q;cases r;cases m;exact op_lt p s σ H _ _ v u R I g i ⟨_,_,rfl,rfl,k _ H<|VQ.now a (.bl _) q⟩;cases r;cases m;obtain⟨t,rfl⟩:=g;obtain⟨t',rfl⟩:=i;exact PySem.P.lt_str<|dW I a k q;exact q.elim
theorem od_gt:E1 X (j3 .Gt) Jp:=by rintro p s σ H b l v u R I g i ⟨x,y,M,ρ,Q,a,r,m,q,k⟩;unfold Jp at q;split at q;cases r;cases m;exact op_gt p s σ H _ _ v u R I g i ⟨_,_,rfl,rfl,k _ H<|VQ.now a (.bl _) q⟩;cases r;cases m;obtain⟨t,rfl⟩:=g;obtain⟨t',rfl⟩:=i;exact PySem.P.gt_str<|dW I a k q;exact q.elim
def K7:D0:=λx y M Q=>match x,y with
 |.bl a,.bl b=>Q (.bl<|a==b) M
 |.non,.non=>Q (.bl a9) M
 |_,.non=>Q (.bl c5) M
 |_,_=>False
def iY:D0:=λx y M Q=>match x,y with
 |.bl a,.bl b=>Q (.bl<|a != b) M
 |.non,.non=>Q (.bl c5) M
 |_,.non=>Q (.bl a9) M
 |_,_=>False
theorem vK{K:q9}{ρ:List d5}{H:Hp}{x:D}{v:V}(r:p9 K ρ H x v)(h:x≠.non):v≠.non:=by cases r<;>first|exact n6 rfl h|(intro z;cases z)
theorem od_is:E1 X (j3 .Is) K7:=by
 rintro p s σ H b l v u R I g i ⟨x,y,M,ρ,Q,a,r,m,q,k⟩;unfold K7 at q;split at q;cases r;cases m;cases g;cases i;exact is_bool<|dW I a k q;cases r;cases m;cases g;cases i;exact is_none_gen<|dfin (d:=.bl a9) I a k rfl rfl q;rename_i h1 h2;cases m;cases i;refine is_none_gen<|dfin (d:=.bl c5) I a k rfl ?_ q;have:=vK r λz=>by subst z;exact h2 rfl
 rw[g.none_iff,dF_ this];rfl;exact q.elim
theorem zd:E1 X (j3 .IsNot) iY:=by
 rintro p s σ H b l v u R I g i ⟨x,y,M,ρ,Q,a,r,m,q,k⟩;unfold iY at q;split at q;cases r;cases m;cases g;cases i;exact isnot_bool<|dW I a k q;cases r;cases m;cases g;cases i;exact isnot_none_gen<|dfin (d:=.bl c5) I a k rfl rfl q;rename_i h1 h2;cases m;cases i;refine isnot_none_gen<|dfin (d:=.bl a9) I a k rfl ?_ q;have:=vK r λz=>by subst z;exact h2 rfl
 rw[g.none_iff,dF_ this];rfl;exact q.elim
noncomputable def Hz(M:p8):D->String
 |.non=>"NoneType"
 |.bl _=>"bool"
 |.int _=>"int"
 |.str _=>"str"
 |.ty _=>"type"
 |.tup _=>"tuple"
 |.ref n=>match M[n]? with
  |some mo=>if mo.isL=a9 then "list" else "?"
  |none=>"?"
noncomputable def zN(t T:String):Bool:=t==T||(t == "bool" && T == "int")
noncomputable def DU:List String:=["NoneType","bool","int","str","list","tuple"]
noncomputable def El:List String:=["bool","int","str","list","tuple"]
theorem CM(K:q9)(E:t∈DU)(n:T∈El):L3 K (.type t) (.type T)=a7 (zN t T):=by simp only[DU,El,u8,Iy,or_false]at E n;rcases E with rfl|rfl|rfl|rfl|rfl|rfl<;>rcases n with rfl|rfl|rfl|rfl|rfl<;>kernel_rfl
theorem AX(I:p0 X pins σ H s)(k:t5 X.K ρ M H)(r:p9 X.K ρ H d v)(g:aG v u)(j:Hz M d∈DU)(L:∀(Hx:d7->Prop),PySem.W.KitX X.K u (.type<|Hz M d) Hx->Hx s.heap->u≠.builtin "__main__.__loader__#opaque"->f9 (g7 X.prog X.w) X.A (call (.builtin "isinstance") [u,c]) Q X.xe s):f9 (g7 X.prog X.w) X.A (call (.builtin "isinstance") [u,c]) Q X.xe s:=by
 cases r with
 |non=>cases g;exact L _ PySem.W.kitx_none JM<|λz=>nomatch z
 |bl y=>cases g;exact L _ PySem.W.kitx_bool JM<|λz=>nomatch z
 |int i=>obtain⟨t,rfl⟩:=g;exact L _ PySem.W.kitx_int JM<|λz=>nomatch z
 |str i=>obtain⟨t,rfl⟩:=g;exact L _ PySem.W.kitx_str JM<|λz=>nomatch z
 |ty n=>exact n6 j<|by simp only[Hz];decide
 |tup h rr=>cases g;obtain⟨its,_,⟨o,h1,h2,_⟩,_⟩:=I.tuple h;exact L _ PySem.W.kitx_tuple ⟨o,h1,h2⟩<|λz=>nomatch z
 |@ref n a e =>
  cases g;have B:n<M.length:=by rw[<-k.len];exact(w9.mp e).1
  have m:M[n]?=a7 M[n]:=u9 B;have f:(match M[n]? with|some mo=>if mo.isL=a9 then "list" else "?" |none=>"?")∈DU:=j;rw[m]at f;have l:M[n].isL=a9:=by
   cases q:M[n].isL with
   |true=>rfl
   |false=>simp only[q,z6,o4]at f;exact n6 f<|by decide
  have p:ak M n M[n].items:=by
   cases q:M[n] with
   |lst xs=>exact .inl<|by rw[m,q];rfl
   |fz xs=>exact .inr<|.inl<|by rw[m,q];rfl
   |kl xs=>exact .inr<|.inr<|by rw[m,q];rfl
   |dct xs=>rw[q]at l;cases l
   |dkt xs=>rw[q]at l;cases l
   |dkq _ xs=>rw[q]at l;cases l
   |fdc o xs=>rw[q]at l;cases l
   |dkm xs=>rw[q]at l;cases l
   |tb x b=>rw[q]at l;cases l
   |exc x e=>rw[q]at l;cases l
  obtain⟨vs,C,_⟩:=ak.seq k p e;obtain⟨its,_,⟨o,D,h1,h2,_⟩,_⟩:=I.list C;have E:Hz M (.ref n) = "list":=by
   show (match M[n]? with|some mo=>if mo.isL=a9 then "list" else "?" |none=>"?") = "list"
   rw[m];exact m9 l
  rw[E]at L;exact L _ PySem.W.kitx_list ⟨o,h1,h2⟩<|λz=>nomatch z
def BD:C1:=λds M Q=>match ds with
 | [d,.ty T]=>(Hz M d∈DU/\T∈El)/\Q (.bl<|zN (Hz M d) T) M
 | [d,.tup [.ty T,.ty T']]=>(Hz M d∈DU/\T∈El/\T'∈El)/\Q (.bl<|zN (Hz M d) T||zN (Hz M d) T') M
 |_=>False
theorem Hn:jX X (.builtin "isinstance") BD:=by
 rintro j s σ H vs us R I v ⟨ds,M,ρ,Q,m,r,q,k⟩;unfold BD at q;split at q;rename_i d T;obtain⟨⟨h1,h2⟩,q⟩:=q
 first|have z:=Reps.inv_cons r|have z:=ao.inv_cons r
 clear r;obtain⟨_,_,rfl,g,r⟩:=z
 first|have z:=Reps.inv_cons r|have z:=ao.inv_cons r
 clear r;obtain⟨_,_,rfl,h,r⟩:=z;cases r;cases h;obtain⟨u,F,rfl,e,f⟩:=ao.two v;cases f;refine AX I m g e h1 λHx Z p x=>?_;exact PySem.W.kia_one Z I.kIn p (CM X.K h1 h2) x λi=>dW (I.tok i) m k q;rename_i d T c;obtain⟨⟨h1,h2,y⟩,q⟩:=q
 first|have z:=Reps.inv_cons r|have z:=ao.inv_cons r
 clear r;obtain⟨_,_,rfl,g,r⟩:=z
 first|have z:=Reps.inv_cons r|have z:=ao.inv_cons r
 clear r;obtain⟨_,_,rfl,h,r⟩:=z;cases r;obtain⟨u,F,rfl,e,f⟩:=ao.two v;obtain⟨a,P,rfl,A,t⟩:=p9.inv_tup h;cases f;obtain⟨its,C,⟨o,g1,w,n,g3⟩,_⟩:=I.tuple A
 first|have z:=Reps.inv_cons t|have z:=ao.inv_cons t
 clear t;obtain⟨_,_,rfl,D,t⟩:=z
 first|have z:=Reps.inv_cons t|have z:=ao.inv_cons t
 clear t;obtain⟨_,_,rfl,E,t⟩:=z;cases t;cases D;cases E;obtain⟨L,O,rfl,l,N⟩:=ao.two C;cases l;cases N;obtain⟨oc,J,B,G⟩:=o;cases w;cases g3;refine AX I m g e h1 λHx Z p x=>?_;refine PySem.W.kia_tup Z I.kIn p g1 (b:=zN (Hz M d) T||zN (Hz M d) c) ?_ x λi=>dW (I.tok i) m k q;show (match L3 X.K (.type<|Hz M d) (.type T)with|some a9=>a7 a9|some c5=>PySem.W.kitAny X.K (.type<|Hz M d) [.type c]|none=>a8)=_;rw[CM X.K h1 h2];cases zN (Hz M d) T with
 |true=>rfl
 |false=>show (match L3 X.K (.type<|Hz M d) (.type c)with|some a9=>a7 a9|some c5=>a7 c5|none=>a8)=_;rw[CM X.K h1 y];cases zN (Hz M d) c<;>rfl
 exact q.elim
def jM:C1:=λds M Q=>match ds with
 | [.str x]=>x.length<=sizeLine/\Q (.int x.length) M
 | [.tup xs]=>Q (.int xs.length) M
 | [.ref n]=>∃xs,ak M n xs/\Q (.int xs.length) M
 |_=>False
theorem Hm:jX X (.builtin "len") jM:=by
 refine fx.imp (oP.or oO) ?_;rintro vs H R ⟨ds,M,ρ,Q,m,a,q,k⟩;unfold jM at q;split at q
 first|have z:=Reps.inv_cons a|have z:=ao.inv_cons a
 clear a;obtain⟨_,_,rfl,b,a⟩:=z;cases a;cases b;exact .inr ⟨_,rfl,q.1,k _ H<|VQ.now m (.int _) q.2⟩
 first|have z:=Reps.inv_cons a|have z:=ao.inv_cons a
 clear a;obtain⟨_,_,rfl,b,a⟩:=z;cases a;cases b with
 |tup h r=>exact .inl ⟨_,_,rfl,.inr h,k _ H<|VQ.now m (by rw[<-r.length];exact .int _) q⟩
 obtain⟨xs,L,q⟩:=q
 first|have z:=Reps.inv_cons a|have z:=ao.inv_cons a
 clear a;obtain⟨_,_,rfl,b,a⟩:=z;cases a;obtain⟨_,rfl,e⟩:=p9.inv_ref b;obtain⟨s,c,r⟩:=ak.seq m L e;exact .inl ⟨_,_,rfl,.inl c,k _ H<|VQ.now m (by rw[<-r.length];exact .int _) q⟩;exact q.elim
end L2
namespace L2
open PySem PySem.Spec PyProof.Rows DL _root_.HT
theorem mn{t m:d5}{i:Array c6}{v u:c6}{l hi:Option Int}{Q:c6->f6->Prop}(a:IsTup s.heap t i)(hs:s.heap.IsSliceOf m v u .none)(p:k4 v l)(g:k4 u hi)(e:sIx i.size 0 l=0/\sIx i.size i.size hi=i.size) (h:Q (.ref t) s):f9 (g7 prog w) A (k5 (.ref t)<|.ref m) Q E s:=by
 obtain⟨o,d,c,f⟩:=id hs;have b:s.TypeIs (.ref m) "slice":=⟨o,d,c⟩
 unfold k5
 try with_reducible refine C9 ?_
 first|refine o8 (p4 ?_)|skip
 refine o8<|wpAny_sequenceKey a.typeIs (by decide)<|o8<|Ih (name:=AA1 "__getitem__") a.typeIs K5<|E8 K5 a.typeIs entry_tuple_getitem ?_<|args_tuple_getitem _ _;refine(show f9 (g7 prog w) _ (ME (.ref t) >>= _) _ _ s from o8<|tupleItemsOf_ a<|o8<|Jt b ?_);rw[m9<|by decide];refine o8<|dn hs p g ?_;refine(show f9 (g7 prog w) _ (if (((sIx i.size 0 l:Nat):Int)==0&&(1:Int)==1&&(sIx i.size i.size hi-sIx i.size 0 l)==i.size)=a9 then _ else _) _ _ s from ?_);rw[m9<|by rw[e.1,e.2];simp];unfold Builtin.Tuple.tupleIsExact;refine o8<|o8<|Jt a.typeIs<|p4 ?_;rw[m9<|by decide];exact o8<|G7<|p4 ⟨_,rfl,p4 h⟩
end L2
namespace L2
open PySem PySem.Spec PyProof.Rows DL
section
variable{X:Cx}{a b:ge}{ta tb:u6}{pos:Pos}
theorem Il.imp(h:Il X r')(i:∀x y H R,r x y H R->r' x y H R):Il X r:=λa e p s σ H x y v u R I g b q hs=>h a e p s σ H x y v u R I g b (i x y H R q) hs
theorem Reps.atI{K:q9}{ρ:List d5}{H:Hp}{ds:List D}{vs:List V}{i:Int}{d:D}(r:Reps K ρ H ds vs)(h:L2.atI ds i=a7 d):∃v,L2.atI vs i=a7 v/\p9 K ρ H d v:=by
 unfold L2.atI at h ⊢;rw[r.length]at h;cases e:Ii vs.length i with
 |none=>rw[e]at h;cases h
 |some j=>rw[e]at h;obtain⟨v,c,a⟩:=r.get<|show ds[j]?=a7 d from h;exact⟨v,c,a⟩
def u5:D0:=λx y M Q=>match x,y with
 |.tup xs,.int i=>match L2.atI xs i with
  |some d=>Q d M
  |none=>False
 |.str z,.int i=>z.length<=sizeLine/\match L2.atI z.cps.toList i with
  |some c=>Q (.str ⟨#[c]⟩) M
  |none=>False
 |.ref n,.int i=>∃xs,ak M n xs/\match L2.atI xs i with
  |some d=>Q d M
  |none=>False
 |_,_=>False
theorem CV:Il X (lowR X.K u5):=by refine Il.imp Gh ?_;rintro p s H R ⟨x,y,M,ρ,Q,m,b,f,q,k⟩;unfold u5 at q;split at q;rename_i xs i;split at q;rename_i d e;cases f;obtain⟨_,_,rfl,h,r⟩:=p9.inv_tup b;obtain⟨v,a,g⟩:=r.atI e;exact .inr<|.inl ⟨_,_,_,v,rfl,rfl,h,a,k _ H<|VQ.now m g q⟩;exact q.elim;rename_i z i;obtain⟨o,q⟩:=q;split at q;rename_i c e;cases f;cases b;exact .inr<|.inr ⟨z,i,c,rfl,rfl,o,e,k _ H<|VQ.now m (.str _) q⟩;exact q.elim;rename_i n i;obtain⟨xs,L,q⟩:=q;split at q;rename_i d e;cases f;obtain⟨_,rfl,j⟩:=p9.inv_ref b;obtain⟨vs,l,r⟩:=ak.seq m L j;obtain⟨v,a,g⟩:=r.atI e;exact .inl ⟨_,_,_,v,rfl,rfl,l,a,k _ H<|VQ.now m g q⟩;exact q.elim;exact q.elim
theorem d_ix(f:DE X a ta)(d:DE X b tb)(hs:qE b:=by intro _ _;rfl):DE X (.Subscript a b pos) (p6 u5 ta tb):=PE.imp (pe_ix CV f d hs) lZ
abbrev Kc:=SD->p8->(Option Int->p8->Prop)->Prop
def FE(K:q9)(t:Kc):TO:=λσ H R=>∃S M ρ Q,t5 K ρ M H/\SRep K ρ H S σ/\t S M Q/\∀o H',(∃b a,t5 K a b H'/\Grow K ρ H a H'/\Q o b)->R o H'
def dY:Kc:=λ_ M Q=>Q a8 M
def jT(t:u6):Kc:=λS M Q=>t S M λx a=>match x with
 |.int i=>Q (a7 i) a
 |_=>False
theorem PO.imp(h:PO X e t')(i:∀σ H R,t σ H R->t' σ H R):PO X e t:=λp s σ H R I q=>h p s σ H R I<|i σ H R q
theorem Dv:PO X a8 (FE X.K dY):=by refine PO.imp BO ?_;rintro σ H R ⟨S,M,ρ,Q,s,e,q,k⟩;exact k a8 H ⟨M,ρ,s,.refl,q⟩
theorem Du(h:DE X e te):PO X (a7 e) (FE X.K<|jT te):=by
 refine PO.imp (BN h) ?_;rintro σ H R ⟨S,M,ρ,Q,s,j,q,k⟩;refine⟨S,M,ρ,_,s,j,q,?_⟩;rintro v b ⟨d,f,c,g,g1,r,a⟩;cases r with
 |int i=>exact⟨i,rfl,k _ b ⟨f,c,g,g1,a⟩⟩
 |_=>exact a.elim
theorem EA:Lf X (λx lo hi H Q=>∃z,x=.str z/\z.length<=sizeLine/\Q (.str<|JL z lo hi) H):=by
 intro b s σ H x v w y lo hi n Q I r hs d f h;obtain⟨z,rfl,c,q⟩:=h;obtain⟨t,rfl⟩:=r;have a:∀{v:c6}{o:Option Int},k4 v o->∃p:Option (Int×Tok),v=partValue p/\p.map (·.1)=o:=λh=>by
  cases h with
  |none=>exact⟨a8,rfl,rfl⟩
  |int i t=>exact⟨a7 (i,t),rfl,rfl⟩
 obtain⟨g,rfl,e⟩:=a d;obtain⟨j,rfl,m⟩:=a f;subst e m;refine⟨"str",_,slot_str_getitem.lookup,typeIs_str _ _ _,wpAny_getItem_str_slice (l:=g) (u:=j) (st:=a8) hs rfl ?_⟩;exact post_val_or_str ⟨F6 (Txt.slice_le z _ _) c,λt' k=>⟨.str _,H,I.tok k,⟨t',rfl⟩,q⟩⟩
noncomputable def cutD(xs:List D)(l hi:Option Int):List D:=(xs.drop<|HT.sIx xs.length 0 l).take<|HT.sIx xs.length xs.length hi-HT.sIx xs.length 0 l
theorem Reps.cutD{K:q9}{ρ:List d5}{H:Hp}{ds:List D}{vs:List V}(r:Reps K ρ H ds vs)(l hi:Option Int):Reps K ρ H (L2.cutD ds l hi) (AZ vs l hi):=by unfold L2.cutD AZ;rw[r.length];exact(r.drop _).take _
def LO:D->Option Int->Option Int->p8->DK->Prop:=λx l hi M Q=>match x with
 |.str z=>z.length<=sizeLine/\Q (.str<|JL z l hi) M
 |.ref n=>∃xs,ak M n xs/\Q (.ref M.length) (M++[.lst<|cutD xs l hi])
 |.tup xs=>Q (.tup<|cutD xs l hi) M
 |_=>False
def lowSl(K:q9)(r:D->Option Int->Option Int->p8->DK->Prop):V->Option Int->Option Int->Hp->VK->Prop:=λg l hi H R=>∃x M ρ Q,t5 K ρ M H/\p9 K ρ H x g/\r x l hi M Q/\∀v H',VQ K ρ H Q v H'->R v H'
theorem sld:Lf X (lowSl X.K LO):=by
 rintro b s σ H x v o t l hi j R I g hs c u ⟨d,M,ρ,Q,m,i,q,k⟩;unfold LO at q;split at q;cases i;exact EA b s σ H _ v o t l hi j R I g hs c u ⟨_,rfl,q.1,k _ H<|VQ.now m (.str _) q.2⟩;obtain⟨xs,L,q⟩:=q;obtain⟨_,rfl,y⟩:=p9.inv_ref i;obtain⟨vs,z,r⟩:=ak.seq m L y;exact Bu b s σ H _ v o t l hi j R I g hs c u ⟨_,vs,rfl,z,λp f=>k _ _<|VQ.laidL m .refl (r.cutD l hi) f q⟩;obtain⟨_,_,rfl,h,r⟩:=p9.inv_tup i;rename_i xs a vs;by_cases w:HT.sIx xs.length 0 l=0/\HT.sIx xs.length xs.length hi=xs.length;cases g;obtain⟨its,A,E,B⟩:=I.tuple h;have n:its.toArray.size=xs.length:=by rw[v6,r.length];exact A.length.symm
 have e:L2.cutD xs l hi=xs:=by unfold L2.cutD;rw[w.1,w.2,List.drop_zero,Nat.sub_zero,Jm]
 rw[e]at q;exact⟨"tuple",_,K5.lookup,E.typeIs,mn E hs c u (by rw[n];exact w) ⟨.ref _,H,I,rfl,k _ H<|VQ.now m (.tup h r) q⟩⟩;exact Ez b s σ H _ v o t l hi j R I g hs c u ⟨_,_,rfl,h,by rw[<-r.length];exact w,λp f=>k _ _<|VQ.laidT m .refl (r.cutD l hi) f q⟩;exact q.elim
def Jr(te:u6)(t h:Kc):u6:=λS M Q=>te S M λx a=>t S a λl b=>h S b λu c=>LO x l u c Q
theorem Dz{e:ge}{te:u6}{o hi:Option ge}{t h:Kc}{p:Pos}(j:DE X e te)(m:PO X o (FE X.K t))(n:PO X hi (FE X.K h)):DE X (.Subscript e (.Slice o hi a8 p) pos) (Jr te t h):=by refine PE.imp (yU sld j m n) ?_;rintro σ H R ⟨S,M,ρ,Q,s,r,q,k⟩;refine⟨S,M,ρ,_,s,r,q,?_⟩;rintro v E ⟨d,b,c,B,g1,A,x⟩;refine⟨S,b,c,_,B,r.grow g1,x,?_⟩;rintro l F ⟨f,a,C,i,y⟩;refine⟨S,f,a,_,C,r.grow<|g1.trans i,y,?_⟩;rintro u G ⟨g,N,D,g3,z⟩;exact⟨d,g,N,Q,D,A.grow<|i.trans g3,z,λv H' w=>k v H'<|VQ.trans ((g1.trans i).trans g3) w⟩
def lJ:D0:=λx y M Q=>match x,y with
 |.int i,.int j=>CMul i j/\Q (.int<|i*j) M
 |.str z,.int n=>(0<=n/\n<2 ^ 63/\z.length*n.toNat<=sizeLine)/\Q (.str<|Txt.mul z n) M
 |_,_=>False
theorem pR(b:0<=n)(h:z.length*n.toNat<=sizeLine)(f:n<2 ^ 63):MulOk z n:=by
 refine⟨?_,λh1 h2=>?_,λh1 h2=>?_⟩;have a:decide (n < -(2 ^ 63:Int))=c5:=dF_ (by lia);have m:decide (n ≥ 2 ^ 63)=c5:=dF_ (by lia);rw[a,m];rfl;have c:(z.length:Int)*n<=2 ^ 24:=by
  have e:((z.length*n.toNat:Nat):Int)=(z.length:Int)*n:=by rw[Int.natCast_mul,Int.toNat_of_nonneg b]
  have h':((z.length*n.toNat:Nat):Int)<=(2 ^ 24:Nat):=Int.ofNat_le.mpr h;rw[e]at h';exact h'
 have s:0<n:=by lia
 intro t;have:=Int.lt_of_lt_of_le (Int.lt_mul_of_ediv_lt s t) c;lia;unfold PySem.Builtin.Str.tooLong;simpa using h
theorem Ck:E1 X (j2 .Mult) lJ:=by
 rintro p s σ H b l v u R I g i ⟨x,y,M,ρ,Q,a,r,m,q,k⟩;unfold lJ at q;split at q;cases r;cases m;exact Fk p s σ H _ _ v u R I g i ⟨_,_,rfl,rfl,q.1,k _ H<|VQ.now a (.int _) q.2⟩;rename_i z n;cases r;cases m;obtain⟨t,rfl⟩:=g;obtain⟨t',rfl⟩:=i;obtain⟨⟨h,h2,h1⟩,q⟩:=q;exact PySem.SB.mul (pR h h1 h2) λt' j=>⟨.str _,H,I.tok j,⟨t',rfl⟩,k _ H<|VQ.now a (.str _) q⟩
 exact q.elim
variable{o e:ge}{es:List ge}{to:u6}{t:D7}{name:c7}{apos cpos:Pos}{id:String}
def lowMs(K:q9)(r:c7->C1):V->List V->Hp->VK->Prop:=λg vs H R=>∃z ds M ρ Q,g=.str z/\t5 K ρ M H/\Reps K ρ H ds vs/\r z ds M Q/\∀v H',VQ K ρ H Q v H'->R v H'
def jt(K:q9)(r:Nat->C1):V->List V->Hp->VK->Prop:=λg vs H R=>∃n a ds M ρ Q,g=.ref a/\ρ[n]?=a7 a/\t5 K ρ M H/\Reps K ρ H ds vs/\r n ds M Q/\∀v H',VQ K ρ H Q v H'->R v H'
def Ij(r:Nat->C1)(e:u6)(t:D7):u6:=λS M Q=>e S M λx a=>match x with
 |.ref n=>(∃xs,ak a n xs)/\t S a λds b=>r n ds b Q
 |_=>False
theorem d_ml(slot:Slot "list" name id)(y:k7 (.builtin id)=pure (.type "method_descriptor"))(C:Ia X id (jt X.K r))(D:DE X o to)(B:DA X (e::es) t)(b:k8 o name X.env (eval o X.env)=eval o X.env:=by rfl)(f:((g8 cpos<|g9 (e::es) X.env).all (λx=>!x.1)&&(k9 cpos<|l3 [] X.env).all (λx=>x.1.isSome) && decide ((e::es).length+([]:List l4).length+(if ([]:List l4).isEmpty then 0 else 1)<30))=a9:=by rfl)(c:(apos.endLine==cpos.line)=a9:=by rfl) (hs:g9 (e::es) X.env=(c5,eval e X.env)::g9 es X.env:=by rfl) (h:(g8 cpos<|g9 es X.env).any (·.1)=c5:=by rfl):DE X (.Call (.Attribute o name apos) (e::es) [] cpos) (Ij r to t):=by
 refine PE.imp (pe_bm PySem.F.plainAttrs_list slot y C D B b f c hs h) ?_;rintro σ H R ⟨S,M,ρ,Q,s,z,q,k⟩;refine⟨S,M,ρ,_,s,z,q,?_⟩;rintro v O ⟨d,i,j,u,g1,I,g⟩;cases I with
 |@ref n a p =>
  obtain⟨⟨xs,L⟩,g⟩:=(show (∃xs,ak i n xs)/\t S i _ from g)
  obtain⟨vs,E,_⟩:=ak.seq u L p;refine⟨.inl ⟨rfl,vs,E⟩,S,i,j,_,u,z.grow g1,g,?_⟩;rintro vs P ⟨ds,A,l,N,m,J,G⟩;exact⟨n,a,ds,A,l,Q,rfl,am m.pre p,N,J,G,λv H' w=>k v H'<|VQ.trans (g1.trans m) w⟩
 |_=>exact g.elim
def bE(n:Nat):C1:=λds M Q=>match ds with
 | [d]=>∃xs,M[n]?=a7 (.lst xs)/\xs.length<sizeLine/\Q .non (M.set n<|.lst<|xs++[d])
 |_=>False
theorem tK:Ia X "list.append" (jt X.K bE):=by
 rintro p s σ H x xs v us R I l j ⟨n,a,ds,M,ρ,Q,c,b,m,f,q,k⟩;unfold bE at q;split at q;rename_i d;obtain⟨ys,e,g,q⟩:=q
 first|have z:=Reps.inv_cons f|have z:=ao.inv_cons f
 clear f;obtain⟨_,_,rfl,i,f⟩:=z;cases f;obtain⟨vs,h,r⟩:=m.obj n a _ b e;obtain⟨L,w⟩:=m.write b e h<|r.append<|.cons i .nil;exact wA p s σ H x _ v us R I l j ⟨a,vs,_,c,rfl,h,by rw[<-r.length];exact g,k _ _ ⟨.non,_,ρ,L,w,.non,q⟩⟩;exact q.elim
end
def cx(K:q9)(mg:c7->Option c6)(x:c7)(st:h8)(ps:List c7):Prop:=∃f d,IF K x x st f d/\mg x=a7 (.ref f)/\oZ K d ps []
def t9(P:c9)(w:c8)(K:q9)(mg:c7->Option c6)(base:d7)(k:Nat)(x:c7)(ps:List c7)(r:x5):Prop:=∃f d,FnOk P w K mg base D3 k f d ps (IU K r)/\mg x=a7 (.ref f)/\JR K (.ref f)=a9/\oZ K d ps []
theorem fnat_mk{K:q9}{h:d7}{mg:c7->Option c6}{x:c7}{st:h8}{ps:List c7}{f:d5}{oc:c6}{j M:Option d5}{o:Array (Option c6)}{kV i U v R:c6}(X:K.In h) (G:h.Ns d9 mg) (a:PySem.W.nsIn K d9 x=a7 (a7<|.ref f))(l:K.lookup f=a7 ⟨oc,j,.func<|Ju x x (fq st) (bo st) (ah st) .none kV i U M v R,o⟩)(c:L5 K v x=a9) (k:JR K (.ref f)=a9)(h:∀(kV i U:c6) (M:Option d5) (v R:c6) (us:List c6),us.length=ps.length->bindArgs (Ju x x (fq st) (bo st) (ah st) .none kV i U M v R) ⟨us,[]⟩=pure (ps.zip us)):cx K mg x st ps:=have F:=GB (st:=st) l c k
 ⟨f,_,F,PySem.W.mg_of X G a,F.binds h⟩
theorem t9.of{P:c9}{w:c8}{K:q9}{mg:c7->Option c6}{base:d7}{x:c7}{st:h8}{N ps:List c7}{k:Nat}{d:x5}(F:cx K mg x st ps)(n:FnScope N ps (ah st))(B:∀ds M R,d ds M R->ds.length=ps.length) {t:p5}(r:∀(f:d5) (cdv:c6) (A:e9) (outer:List Env) (s:f6) (H:Hp) (E:XK),Room k (A.deeper<|j9 x (ah st) s.heap.objs.size f cdv)->IY (oK D3 P w K mg base N x (ah st) f cdv A outer s H E).nox (bo st) t)(p:∀ds M R,d ds M R->t ⟨λ_ M'=>bt M R .non M',bt M R,λ_ _=>False,λ_ _=>False⟩ (bJ N ds) M):t9 P w K mg base (k+1) x ps d:=by obtain⟨f,b,a,m,h⟩:=F;exact⟨f,b,d_fn d a n B λcdv A outer s H E i=>⟨t,r f cdv A outer s H E i,p⟩,m,a.kp,h⟩
theorem Di{P:c9}{w:c8}{K:q9}{mg:c7->Option c6}{base:d7}{x:c7}{st:h8}{N ps:List c7}{k:Nat}{d:x5}{f:d5}{a:j6}(F:IF K x x st f a)(n:FnScope N ps (ah st))(B:∀ds M R,d ds M R->ds.length=ps.length) {t:p5}(r:∀(f:d5) (cdv:c6) (A:e9) (outer:List Env) (s:f6) (H:Hp) (E:XK),Room k (A.deeper<|j9 x (ah st) s.heap.objs.size f cdv)->IY (oK D3 P w K mg base N x (ah st) f cdv A outer s H E).nox (bo st) t)(p:∀ds M R,d ds M R->t ⟨λ_ M'=>bt M R .non M',bt M R,λ_ _=>False,λ_ _=>False⟩ (bJ N ds) M):FnOk P w K mg base D3 (k+1) f a ps (IU K d):=d_fn d F n B λcdv A outer s H E i=>⟨t,r f cdv A outer s H E i,p⟩
theorem d_cal(C:t9 X.prog X.w X.K X.mg X.base j x ps P)(r:Room k X.A)(a:DA X (e::es) t)(L:j<=k:=by decide)(S:Gl X x:=by rfl) (b:(x==("__debug__":c7))=c5:=by decide) (i:g9 (e::es) X.env=(c5,eval e X.env)::g9 es X.env:=by rfl) (l:(g8 pos<|g9 es X.env).any (·.1)=c5:=by rfl):DE X (.Call (.Name x p) (e::es) [] pos) (s9 P t):=by obtain⟨f,c,F,m,h,d⟩:=C;exact Hj F (r.mono L) m h d a S b i l
theorem jr(h:M[n]?=a7 mo)(g:mo.isL=a9):ak M n mo.items:=by
 cases mo with
 |lst xs=>exact .inl h
 |fz xs=>exact .inr<|.inl h
 |kl xs=>exact .inr<|.inr h
 |dct xs=>cases g
 |dkt xs=>cases g
 |dkq _ xs=>cases g
 |fdc o xs=>cases g
 |dkm xs=>cases g
 |tb x b=>cases g
 |exc x e=>cases g
theorem fK{K:q9}{ρ:List d5}{H:Hp}:∀(ns:List Int),Reps K ρ H (ns.map D.int) (ns.map V.int)
 | []=>.nil
 |n::ns=>.cons (.int n)<|fK ns
noncomputable def lc(m:List (c7×j8))(N N':List c7)(t:Nat)(s:List Nat)(c:f7):Bool:=c.kind==.function&&c.names.all (λy=>y.2 != .cell&&(y.2 != .local||c.names.lookup y.1==a7 .local)&&(y.2 != .free||(m.lookup y.1==a7 .cell||m.lookup y.1==a7 .free))) &&
 N'.length==t+s.length&&(A7 s.length).all λk=>match s[k]?,N'[t+k]? with
  |some j,a7 x=>N[j]?==a7 x&&c.names.lookup x==a7 .free&&(m.lookup x==a7 .cell||m.lookup x==a7 .free)
  |_,_=>c5
theorem BlkSc.chk(h:lc X.env.scope.names X.N N' nt js scope=a9):BlkSc X N' nt js scope:=by
 unfold lc at h;simp only[C5,D9,o0,L8,bne_iff_ne]at h;obtain⟨⟨⟨h1,h2⟩,a⟩,d⟩:=h;refine⟨h1,λy Q=>(h2 y Q).1.1,λy Q e=>((h2 y Q).1.2.resolve_left<|λz=>z e),λy Q e=>((h2 y Q).2.resolve_left<|λz=>z e),a,λk j e=>?_⟩;have b:k<js.length:=(w9.mp e).1;have q:=d k<|G8.mpr b;rw[e]at q;cases f:N'[nt+k]? with
 |none=>rw[f]at q;exact n6 q<|by simp
 |some x=>rw[f]at q;simp only[C5,o0,L8]at q;exact⟨x,rfl,q.1.1,q.1.2,q.2⟩
def LP(r:Lk)(t:u6):u6:=λS M Q=>t S M λx a=>r x a Q
theorem d_un(D:MQ X (unaryOp op) r)(f:DE X a ta):DE X (.UnaryOp op a pos) (LP r ta):=by refine PE.imp (pe_un D f) ?_;rintro σ H R ⟨S,M,ρ,Q,s,i,q,k⟩;refine⟨S,M,ρ,_,s,i,q,?_⟩;rintro v j ⟨d,b,c,h,g1,g,e⟩;exact⟨d,b,c,Q,h,g,e,λv H' w=>k v H'<|VQ.trans g1 w⟩
def EH:Lk:=λx M Q=>match x with
 |.int i=>Q (.int (-i)) M
 |_=>False
theorem Ek:MQ X (unaryOp .USub) EH:=by rintro p s σ H a v R I g ⟨x,M,ρ,Q,m,r,q,k⟩;unfold EH at q;split at q;cases r;exact Ej p s σ H _ v R I g ⟨_,rfl,k _ H<|VQ.now m (.int _) q⟩;exact q.elim
noncomputable def A6(f:D->D->Bool):List D->List D->Bool
 | [],[]=>a9
 |x::xs,y::ys=>f x y&&A6 f xs ys
 |_,_=>c5
noncomputable def r9(M:p8):Nat->D->D->Bool
 |_,.non,.non=>a9
 |_,.bl a,.bl b=>a==b
 |_,.bl a,.int b=>(if a then 1 else 0)==b
 |_,.int a,.bl b=>a==(if b then 1 else 0)
 |_,.int a,.int b=>a==b
 |_,.str a,.str b=>a==b
 |n+1,.tup xs,.tup ys=>A6 (r9 M n) xs ys
 |n+1,.ref i,.ref j=>match M[i]?,M[j]? with
  |some a,a7 b=>A6 (r9 M n) a.items b.items
  |_,_=>c5
 |_,_,_=>c5
noncomputable def t4(M:p8):Nat->D->Bool
 |_,.ty _=>c5
 |n+1,.tup xs=>xs.all<|t4 M n
 |n+1,.ref i=>match M[i]? with
  |some a=>a.isL&&a.items.all (t4 M n)
  |none=>c5
 | 0,.tup _=>c5
 | 0,.ref _=>c5
 |_,_=>a9
theorem xC:∀{xs ys:List D},A6 f xs ys=a9->xs.length=ys.length
 | [],[],_=>rfl
 | [],_::_,h=>by simp[A6]at h
 |_::_,[],h=>by simp[A6]at h
 |x::xs,y::ys,h=>by simp only[A6,C5]at h;rw[A0,A0,xC h.2]
theorem xW(n:Nat)(e:Nat->Bool):(A7<|n+1).all e=(e 0&&(A7 n).all λj=>e<|j+1):=by rw[List.range_succ_eq_map,Ie,List.all_map];rfl
theorem jB:∀{xs ys:List D}{e:Nat->Bool},xs.length=ys.length->(∀(j:Nat) x y,xs[j]?=a7 x->ys[j]?=a7 y->e j=f x y)->(A7 xs.length).all e=A6 f xs ys
 | [],[],e,_,_=>by simp[A6]
 | [],_::_,_,h,_=>by simp at h
 |_::_,[],_,h,_=>by simp at h
 |x::xs,y::ys,e,h,he=>by rw[A0,xW,A6,he 0 x y rfl rfl,jB (by simpa using h) λj x' y' h1 h2=>he (j+1) x' y' (by simpa using h1)<|by simpa using h2]
theorem xB(h:xs.length≠ys.length):A6 f xs ys=c5:=by
 cases q:A6 f xs ys with
 |false=>rfl
 |true=>exact n6 (xC q) h
theorem fA{vs:List V}{us:List c6}(h:ao vs us){j:Nat}{v:V}(e:vs[j]?=a7 v):∃u,us[j]?=a7 u/\aG v u:=by
 induction h generalizing j with
 |nil=>simp at e
 |cons r _ i =>
  cases j with
  |zero=>simp at e;subst e;exact⟨_,rfl,r⟩
  |succ j=>exact i<|by simpa using e
section
variable{X:Cx}{pins:List (d5×d6)}{σ:St}{H:Hp}{s:f6}{ρ:List d5}{M:p8}
theorem iV(I:p0 X pins σ H s)(m:t5 X.K ρ M H){i:Nat}{a:d5}{mo:MO}(e:ρ[i]?=a7 a)(d:M[i]?=a7 mo)(g:mo.isL=a9):∃vs its,Fn X.K H a vs/\Reps X.K ρ H mo.items vs/\ao vs its/\PlainL s.heap a its.toArray:=by obtain⟨vs,q,r⟩:=ak.seq m (jr d g) e;obtain⟨its,f,p,_⟩:=I.list q;exact⟨vs,its,q,r,f,p⟩
theorem cC(d:M[i]?=a7 mo)(o:t4 M (n+1) (.ref i)=a9):mo.isL=a9/\mo.items.all (t4 M n)=a9:=by have o':(match M[i]? with|some a=>a.isL&&a.items.all (t4 M n)|none=>c5)=a9:=o;rw[d]at o';exact(C5 _ _).mp o'
theorem zY(I:p0 X pins σ H s)(m:t5 X.K ρ M H):∀(n:Nat) (x y:D) (v:V),p9 X.K ρ H x v->p9 X.K ρ H y v->t4 M n x=a9->t4 M n y=a9->r9 M n x y=a9:=by
 have l:∀(n:Nat),(∀(x y:D) (v:V),p9 X.K ρ H x v->p9 X.K ρ H y v->t4 M n x=a9->t4 M n y=a9->r9 M n x y=a9) -> ∀(xs ys:List D) (vs:List V),Reps X.K ρ H xs vs->Reps X.K ρ H ys vs->xs.all (t4 M n)=a9->ys.all (t4 M n)=a9->A6 (r9 M n) xs ys=a9:=by
  intro n p xs;induction xs with
  |nil=>intro ys vs h1 h2 _ _;cases h1;cases h2;rfl
  |cons x xs hi =>
   intro ys vs h1 h2 o1 o2;cases h1 with
   |cons G P =>
    cases h2 with
    |cons J Q=>rw[Ie,C5]at o1 o2;rw[A6,p _ _ _ G J o1.1 o2.1,hi _ _ P Q o1.2 o2.2];rfl
 intro n;induction n with
 |zero=>intro x y v h1 h2 o1 o2;cases h1<;>cases h2<;>first|(simp[t4]at o1;done)|rfl|simp[r9]
 |succ n p =>
  intro x y v h1 h2 o1 o2;cases h1 with
  |non=>cases h2;rfl
  |bl b=>cases h2;simp[r9]
  |int b=>cases h2;simp[r9]
  |str b=>cases h2;simp[r9]
  |ty b=>simp[t4]at o1
  |@tup a vs ds q r =>
   cases h2 with
   |tup h r'=>have e:=I.tuple_inj q h;subst e;exact l n p _ _ _ r r' (by simpa [t4]using o1)<|by simpa [t4]using o2
   |@ref i _ e =>
    exfalso;obtain⟨its,_,⟨o,t,u,_⟩,_⟩:=I.tuple q;have hi:i<M.length:=by rw[<-m.len];exact(w9.mp e).1
    obtain⟨g,d,_,_,_,⟨o',C,f,N,_⟩⟩:=iV I m e (u9 hi) (cC (u9 hi) o2).1;rw[t]at f;cases f;rw[u]at N;injection N with f3;exact n6 f3<|by decide
  |@ref i a e =>
   have hi:i<M.length:=by rw[<-m.len];exact(w9.mp e).1
   have k:=u9 hi;obtain⟨vs,its,q,r,R,E⟩:=iV I m e k (cC k o1).1;cases h2 with
   |tup h r'=>exfalso;obtain⟨d,_,⟨o,t,u,_⟩,_⟩:=I.tuple h;obtain⟨o',C,f,N,_⟩:=E;rw[t]at f;cases f;rw[u]at N;injection N with f3;exact n6 f3<|by decide
   |@ref j _ A =>
    have L:j<M.length:=by rw[<-m.len];exact(w9.mp A).1
    have c:=u9 L;obtain⟨g,d,h,r',O,F⟩:=iV I m A c (cC c o2).1;have B:vs=g:=I.list_inj q h;subst B;have w:=(cC k o1).2;have z:=(cC c o2).2;simp only[r9,k,c];exact l n p _ _ _ r r' w z
theorem ic(I:p0 X pins σ H s)(sm:t5 X.K ρ M H):∀(n:Nat) (A:e9) (x y:D) (vx vy:V) (u v:c6),A.units+n<j5->p9 X.K ρ H x vx->aG vx u->p9 X.K ρ H y vy->aG vy v->t4 M n x=a9->t4 M n y=a9 ->Io A s u v (r9 M n x y)/\SeqAt.RcAt A s u v (r9 M n x y)/\SeqAt.RcNeAt A s u v (!r9 M n x y):=by
 intro n;induction n with
 |zero =>
  intro A x y vx vy u v hu R w l m o1 o2;cases R with
  |ty b=>simp[t4]at o1
  |tup b=>simp[t4]at o1
  |ref b=>simp[t4]at o1
  |non =>
   cases w;cases l with
   |ty b=>simp[t4]at o2
   |tup b=>simp[t4]at o2
   |ref b=>simp[t4]at o2
   |non=>cases m;exact⟨L7 _,SeqAt.RcAt.none_none,SeqAt.RcNeAt.none_none⟩
   |bl b=>cases m;exact⟨SeqAt.EqAt.none_bool _,SeqAt.RcAt.none_bool _,SeqAt.RcNeAt.none_bool _⟩
   |int b=>obtain⟨t,rfl⟩:=m;exact⟨SeqAt.EqAt.none_int _ _,SeqAt.RcAt.none_int _ _,SeqAt.RcNeAt.none_int _ _⟩
   |str b=>obtain⟨t,rfl⟩:=m;exact⟨SeqAt.EqAt.none_str _ _,SeqAt.RcAt.none_str _ _,SeqAt.RcNeAt.none_str _ _⟩
  |bl a =>
   cases w;cases l with
   |ty b=>simp[t4]at o2
   |tup b=>simp[t4]at o2
   |ref b=>simp[t4]at o2
   |non=>cases m;exact⟨SeqAt.EqAt.bool_none _,SeqAt.RcAt.bool_none _,SeqAt.RcNeAt.bool_none _⟩
   |bl b=>cases m;exact⟨SeqAt.EqAt.bool_bool _ _,SeqAt.RcAt.bool_bool _ _,SeqAt.RcNeAt.bool_bool _ _⟩
   |int b=>obtain⟨t,rfl⟩:=m;exact⟨SeqAt.EqAt.bool_int _ _ _,SeqAt.RcAt.bool_int _ _ _,SeqAt.RcNeAt.bool_int _ _ _⟩
   |str b=>obtain⟨t,rfl⟩:=m;exact⟨SeqAt.EqAt.bool_str _ _ _,SeqAt.RcAt.bool_str _ _ _,SeqAt.RcNeAt.bool_str _ _ _⟩
  |int a =>
   obtain⟨t0,rfl⟩:=w;cases l with
   |ty b=>simp[t4]at o2
   |tup b=>simp[t4]at o2
   |ref b=>simp[t4]at o2
   |non=>cases m;exact⟨SeqAt.EqAt.int_none _ _,SeqAt.RcAt.int_none _ _,SeqAt.RcNeAt.int_none _ _⟩
   |bl b=>cases m;exact⟨SeqAt.EqAt.int_bool _ _ _,SeqAt.RcAt.int_bool _ _ _,SeqAt.RcNeAt.int_bool _ _ _⟩
   |int b=>obtain⟨t,rfl⟩:=m;exact⟨Mn _ _ _ _,SeqAt.RcAt.int_int _ _ _ _,SeqAt.RcNeAt.int_int _ _ _ _⟩
   |str b=>obtain⟨t,rfl⟩:=m;exact⟨Lz _ _ _ _,SeqAt.RcAt.int_str _ _ _ _,SeqAt.RcNeAt.int_str _ _ _ _⟩
  |str a =>
   obtain⟨t0,rfl⟩:=w;cases l with
   |ty b=>simp[t4]at o2
   |tup b=>simp[t4]at o2
   |ref b=>simp[t4]at o2
   |non=>cases m;exact⟨SeqAt.EqAt.str_none _ _,SeqAt.RcAt.str_none _ _,SeqAt.RcNeAt.str_none _ _⟩
   |bl b=>cases m;exact⟨SeqAt.EqAt.str_bool _ _ _,SeqAt.RcAt.str_bool _ _ _,SeqAt.RcNeAt.str_bool _ _ _⟩
   |int b=>obtain⟨t,rfl⟩:=m;exact⟨Ly _ _ _ _,SeqAt.RcAt.str_int _ _ _ _,SeqAt.RcNeAt.str_int _ _ _ _⟩
   |str b=>obtain⟨t,rfl⟩:=m;exact⟨Mm _ _ _ _,SeqAt.RcAt.str_str _ _ _ _,SeqAt.RcNeAt.str_str _ _ _ _⟩
 |succ n ih =>
  intro A x y vx vy u v hu R w l m o1 o2;have c:A.units<j5:=by lia
  have ai:A.in1.units+n<j5:=by show A.units+1+n<j5;lia
  -- what a list or a tuple is,as the heap has it
  have tupAt:∀{a:d5}{vs:List V}{ds:List D},x9 X.K H a vs->Reps X.K ρ H ds vs->∃its:List c6,ao vs its/\s.heap.IsTuple a its.toArray/\ds.length=its.length:=λ{a vs ds} q r=>by obtain⟨its,g,p,_⟩:=I.tuple q;exact⟨its,g,p,r.length.trans g.length⟩
  have lstAt:∀{i:Nat}{a:d5},ρ[i]?=a7 a->t4 M (n+1) (.ref i)=a9->∃o,M[i]?=a7 o/\∃vs its,Reps X.K ρ H o.items vs/\ao vs its/\s.heap.IsList a its.toArray/\o.items.length=its.length:=λ{i a} e ok=>by
   have hi:i<M.length:=by rw[<-sm.len];exact(w9.mp e).1
   have z:=u9 hi;obtain⟨vs,its,q,r,g,p⟩:=iV I sm e z (cC z ok).1;exact⟨_,z,vs,its,r,g,p.isList,r.length.trans g.length⟩
  have f:∀{xs ys:List D}{vs Y:List V}{its d:List c6},Reps X.K ρ H xs vs->ao vs its->Reps X.K ρ H ys Y->ao Y d->xs.all (t4 M n)=a9->ys.all (t4 M n)=a9 -> ∀(j:Nat) (h1:j<its.toArray.size) (h2:j<d.toArray.size),Io A.in1 s its.toArray[j] d.toArray[j] (r9 M n (xs.getD j .non)<|ys.getD j .non):=λ{xs ys vs Y its d} R q1 l q2 o1 o2 j h1 h2=>by
   have l1:j<xs.length:=by rw[R.length,q1.length];simpa using h1
   have l2:j<ys.length:=by rw[l.length,q2.length];simpa using h2
   obtain⟨v1,g1,p1⟩:=R.get<|u9 l1;obtain⟨v2,g2,p2⟩:=l.get<|u9 l2;obtain⟨u1,k1,m1⟩:=fA q1 g1;obtain⟨u2,k2,m2⟩:=fA q2 g2;have z1:its.toArray[j]=u1:=by have:=(w9.mp k1).2;simpa using this
   have z2:d.toArray[j]=u2:=by have:=(w9.mp k2).2;simpa using this
   rw[z1,z2];have y1:xs.getD j .non=xs[j]:=by simp[Kd,u9 l1]
   have y2:ys.getD j .non=ys[j]:=by simp[Kd,u9 l2]
   rw[y1,y2];exact(ih A.in1 _ _ _ _ _ _ ai p1 m1 p2 m2 (D9.mp o1 _<|IR l1)<|D9.mp o2 _<|IR l2).1
  have W:∀(xs ys:List D),xs.length=ys.length->(A7 xs.length).all (λj=>r9 M n (xs.getD j .non)<|ys.getD j .non)=A6 (r9 M n) xs ys:=λxs ys h=>jB h λj x y h1 h2=>by simp[Kd,h1,h2]
  have N:∀{a b:d5}{k:Bool},p9 X.K ρ H x (.ref a)->p9 X.K ρ H y (.ref b)->r9 M (n+1) x y=k->SeqAt.RcAt A s (.ref a) (.ref b) k->SeqAt.RcNeAt A s (.ref a) (.ref b) (!k) -> Io A s (.ref a) (.ref b) (r9 M (n+1) x y)/\SeqAt.RcAt A s (.ref a) (.ref b) (r9 M (n+1) x y)/\SeqAt.RcNeAt A s (.ref a) (.ref b) (!r9 M (n+1) x y):=λ{a b k} p1 p2 Z h1 h2=>by subst Z;refine⟨?_,h1,h2⟩;by_cases S:a=b;subst S;rw[zY I sm (n+1) x y _ p1 p2 o1 o2];exact L7 _;exact SeqAt.EqAt.of_refs S h1
  cases R with
  |ty b=>simp[t4]at o1
  |non =>
   cases w;cases l with
   |ty b=>simp[t4]at o2
   |tup q r=>cases m;obtain⟨its,g,p,_⟩:=tupAt q r;exact⟨SeqAt.EqAt.none_tuple p c,SeqAt.RcAt.none_tuple p c,SeqAt.RcNeAt.none_tuple p c⟩
   |ref e=>cases m;obtain⟨o,z,vs,its,r,g,p,_⟩:=lstAt e o2;exact⟨SeqAt.EqAt.none_list p c,SeqAt.RcAt.none_list p c,SeqAt.RcNeAt.none_list p c⟩
   |non=>cases m;exact⟨L7 _,SeqAt.RcAt.none_none,SeqAt.RcNeAt.none_none⟩
   |bl b=>cases m;exact⟨SeqAt.EqAt.none_bool _,SeqAt.RcAt.none_bool _,SeqAt.RcNeAt.none_bool _⟩
   |int b=>obtain⟨t,rfl⟩:=m;exact⟨SeqAt.EqAt.none_int _ _,SeqAt.RcAt.none_int _ _,SeqAt.RcNeAt.none_int _ _⟩
   |str b=>obtain⟨t,rfl⟩:=m;exact⟨SeqAt.EqAt.none_str _ _,SeqAt.RcAt.none_str _ _,SeqAt.RcNeAt.none_str _ _⟩
  |bl a =>
   cases w;cases l with
   |ty b=>simp[t4]at o2
   |tup q r=>cases m;obtain⟨its,g,p,_⟩:=tupAt q r;exact⟨SeqAt.EqAt.bool_tuple _ p c,SeqAt.RcAt.bool_tuple _ p c,SeqAt.RcNeAt.bool_tuple _ p c⟩
   |ref e=>cases m;obtain⟨o,z,vs,its,r,g,p,_⟩:=lstAt e o2;exact⟨SeqAt.EqAt.bool_list _ p c,SeqAt.RcAt.bool_list _ p c,SeqAt.RcNeAt.bool_list _ p c⟩
   |non=>cases m;exact⟨SeqAt.EqAt.bool_none _,SeqAt.RcAt.bool_none _,SeqAt.RcNeAt.bool_none _⟩
   |bl b=>cases m;exact⟨SeqAt.EqAt.bool_bool _ _,SeqAt.RcAt.bool_bool _ _,SeqAt.RcNeAt.bool_bool _ _⟩
   |int b=>obtain⟨t,rfl⟩:=m;exact⟨SeqAt.EqAt.bool_int _ _ _,SeqAt.RcAt.bool_int _ _ _,SeqAt.RcNeAt.bool_int _ _ _⟩
   |str b=>obtain⟨t,rfl⟩:=m;exact⟨SeqAt.EqAt.bool_str _ _ _,SeqAt.RcAt.bool_str _ _ _,SeqAt.RcNeAt.bool_str _ _ _⟩
  |int a =>
   obtain⟨t0,rfl⟩:=w;cases l with
   |ty b=>simp[t4]at o2
   |tup q r=>cases m;obtain⟨its,g,p,_⟩:=tupAt q r;exact⟨SeqAt.EqAt.int_tuple _ _ p c,SeqAt.RcAt.int_tuple _ _ p c,SeqAt.RcNeAt.int_tuple _ _ p c⟩
   |ref e=>cases m;obtain⟨o,z,vs,its,r,g,p,_⟩:=lstAt e o2;exact⟨SeqAt.EqAt.int_list _ _ p c,SeqAt.RcAt.int_list _ _ p c,SeqAt.RcNeAt.int_list _ _ p c⟩
   |non=>cases m;exact⟨SeqAt.EqAt.int_none _ _,SeqAt.RcAt.int_none _ _,SeqAt.RcNeAt.int_none _ _⟩
   |bl b=>cases m;exact⟨SeqAt.EqAt.int_bool _ _ _,SeqAt.RcAt.int_bool _ _ _,SeqAt.RcNeAt.int_bool _ _ _⟩
   |int b=>obtain⟨t,rfl⟩:=m;exact⟨Mn _ _ _ _,SeqAt.RcAt.int_int _ _ _ _,SeqAt.RcNeAt.int_int _ _ _ _⟩
   |str b=>obtain⟨t,rfl⟩:=m;exact⟨Lz _ _ _ _,SeqAt.RcAt.int_str _ _ _ _,SeqAt.RcNeAt.int_str _ _ _ _⟩
  |str a =>
   obtain⟨t0,rfl⟩:=w;cases l with
   |ty b=>simp[t4]at o2
   |tup q r=>cases m;obtain⟨its,g,p,_⟩:=tupAt q r;exact⟨SeqAt.EqAt.str_tuple _ _ p c,SeqAt.RcAt.str_tuple _ _ p c,SeqAt.RcNeAt.str_tuple _ _ p c⟩
   |ref e=>cases m;obtain⟨o,z,vs,its,r,g,p,_⟩:=lstAt e o2;exact⟨SeqAt.EqAt.str_list _ _ p c,SeqAt.RcAt.str_list _ _ p c,SeqAt.RcNeAt.str_list _ _ p c⟩
   |non=>cases m;exact⟨SeqAt.EqAt.str_none _ _,SeqAt.RcAt.str_none _ _,SeqAt.RcNeAt.str_none _ _⟩
   |bl b=>cases m;exact⟨SeqAt.EqAt.str_bool _ _ _,SeqAt.RcAt.str_bool _ _ _,SeqAt.RcNeAt.str_bool _ _ _⟩
   |int b=>obtain⟨t,rfl⟩:=m;exact⟨Ly _ _ _ _,SeqAt.RcAt.str_int _ _ _ _,SeqAt.RcNeAt.str_int _ _ _ _⟩
   |str b=>obtain⟨t,rfl⟩:=m;exact⟨Mm _ _ _ _,SeqAt.RcAt.str_str _ _ _ _,SeqAt.RcNeAt.str_str _ _ _ _⟩
  |@tup a vs ds q r =>
   cases w;obtain⟨its,g,p,Q⟩:=tupAt q r;cases l with
   |ty b=>simp[t4]at o2
   |non=>cases m;exact⟨SeqAt.EqAt.tuple_none p c,SeqAt.RcAt.tuple_none p c,SeqAt.RcNeAt.tuple_none p c⟩
   |bl b=>cases m;exact⟨SeqAt.EqAt.tuple_bool _ p c,SeqAt.RcAt.tuple_bool _ p c,SeqAt.RcNeAt.tuple_bool _ p c⟩
   |int b=>obtain⟨t,rfl⟩:=m;exact⟨SeqAt.EqAt.tuple_int _ _ p c,SeqAt.RcAt.tuple_int _ _ p c,SeqAt.RcNeAt.tuple_int _ _ p c⟩
   |str b=>obtain⟨t,rfl⟩:=m;exact⟨SeqAt.EqAt.tuple_str _ _ p c,SeqAt.RcAt.tuple_str _ _ p c,SeqAt.RcNeAt.tuple_str _ _ p c⟩
   |ref e=>cases m;obtain⟨o,z,al,U,r',O,F,_⟩:=lstAt e o2;exact⟨SeqAt.EqAt.tuple_list p F c,SeqAt.RcAt.tuple_list p F c,SeqAt.RcNeAt.tuple_list p F c⟩
   |@tup b Y es L r' =>
    cases m;obtain⟨d,O,F,C⟩:=tupAt L r';have E:ds.all (t4 M n)=a9:=by simpa [t4]using o1
    have G:es.all (t4 M n)=a9:=by simpa [t4]using o2
    have aj:((A7<|min its.toArray.size d.toArray.size).all (λj=>r9 M n (ds.getD j .non)<|es.getD j .non)&&its.toArray.size==d.toArray.size)=A6 (r9 M n) ds es:=by rw[v6,v6];by_cases J:ds.length=es.length;rw[<-Q,<-C,<-J,Nat.min_self,W ds es J];simp;rw[xB J,<-Q,<-C];simp[J]
    have h1:=SeqAt.RcAt.tuples p F c<|f r g r' O E G;have h2:=SeqAt.RcNeAt.tuples p F c<|f r g r' O E G;rw[aj]at h1 h2;exact N (.tup q r) (.tup L r') rfl h1 h2
  |@ref i a e =>
   cases w;obtain⟨o,z,vs,its,r,g,p,Q⟩:=lstAt e o1;cases l with
   |ty b=>simp[t4]at o2
   |non=>cases m;exact⟨SeqAt.EqAt.list_none p c,SeqAt.RcAt.list_none p c,SeqAt.RcNeAt.list_none p c⟩
   |bl b=>cases m;exact⟨SeqAt.EqAt.list_bool _ p c,SeqAt.RcAt.list_bool _ p c,SeqAt.RcNeAt.list_bool _ p c⟩
   |int b=>obtain⟨t,rfl⟩:=m;exact⟨SeqAt.EqAt.list_int _ _ p c,SeqAt.RcAt.list_int _ _ p c,SeqAt.RcNeAt.list_int _ _ p c⟩
   |str b=>obtain⟨t,rfl⟩:=m;exact⟨SeqAt.EqAt.list_str _ _ p c,SeqAt.RcAt.list_str _ _ p c,SeqAt.RcNeAt.list_str _ _ p c⟩
   |tup L r'=>cases m;obtain⟨U,O,F,_⟩:=tupAt L r';exact⟨SeqAt.EqAt.list_tuple p F c,SeqAt.RcAt.list_tuple p F c,SeqAt.RcNeAt.list_tuple p F c⟩
   |@ref j b e' =>
    cases m;obtain⟨P,T,Y,d,r',O,F,C⟩:=lstAt e' o2;have E:o.items.all (t4 M n)=a9:=(cC z o1).2;have G:P.items.all (t4 M n)=a9:=(cC T o2).2;have Z:r9 M (n+1) (.ref i) (.ref j)=A6 (r9 M n) o.items P.items:=by simp only[r9,z,T]
    by_cases J:o.items.length=P.items.length;have B:its.toArray.size=d.toArray.size:=by rw[v6,v6,<-Q,<-C,J]
    have h1:=SeqAt.RcAt.lists p F B c<|f r g r' O E G;have h2:=SeqAt.RcNeAt.lists p F B c<|f r g r' O E G;rw[v6,<-Q,W _ _ J]at h1 h2;exact N (.ref e) (.ref e') Z h1 h2;have B:(its.toArray.size != d.toArray.size)=a9:=by rw[v6,v6,<-Q,<-C];simpa using J
    have h1:=SeqAt.RcAt.lists_lengths p F B c;have h2:=SeqAt.RcNeAt.lists_lengths p F B c;exact N (.ref e) (.ref e') (Z.trans<|xB J) h1 h2
noncomputable def p7:Nat:=30
def C0:D0:=λx y M Q=>(t4 M p7 x=a9/\t4 M p7 y=a9)/\Q (.bl<|r9 M p7 x y) M
def J4:D0:=λx y M Q=>(t4 M p7 x=a9/\t4 M p7 y=a9)/\Q (.bl<|!r9 M p7 x y) M
noncomputable def Jg(M:p8)(x:D)(ys:List D):Bool:=ys.any λy=>r9 M p7 y x
def EK(g:Bool):D0:=λx y M Q=>match y with
 |.tup ys=>(t4 M p7 x=a9/\ys.all (t4 M p7)=a9)/\Q (.bl<|Jg M x ys != g) M
 |.ref n=>∃ys,ak M n ys/\(t4 M p7 x=a9/\ys.all (t4 M p7)=a9)/\Q (.bl<|Jg M x ys != g) M
 |.str z=>match x with
  |.str p=>Q (.bl<|(!(Builtin.Str.occurrences z p 0 z.length 1).isEmpty) != g) M
  |_=>False
 |_=>False
abbrev MM:D0:=EK c5
abbrev kL:D0:=EK a9
end
theorem lz(i:Room k A):A.units+p7<j5:=by have:=i.un;unfold p7;lia
theorem od_eq{X:Cx}(i:Room k X.A):E1 X (j3 .Eq) C0:=by rintro p s σ H c l v u R I g b ⟨x,y,M,ρ,Q,m,r,a,⟨⟨o1,o2⟩,q⟩,k⟩;exact(ic I m p7 X.A x y c l v u (lz i) r g a b o1 o2).2.1 _ _ _ _<|dW I m k q
theorem od_ne{X:Cx}(i:Room k X.A):E1 X (j3 .NotEq) J4:=by rintro p s σ H c l v u R I g b ⟨x,y,M,ρ,Q,m,r,a,⟨⟨o1,o2⟩,q⟩,k⟩;exact(ic I m p7 X.A x y c l v u (lz i) r g a b o1 o2).2.2 _ _ _ _<|dW I m k q
theorem oy{pins:List (d5×d6)}{σ:St}{H:Hp}{s:f6}{ρ:List d5}{M:p8}(I:p0 X pins σ H s)(m:t5 X.K ρ M H):∀(n:Nat) (x y z:D) (v:V),p9 X.K ρ H x v->p9 X.K ρ H y v->t4 M n x=a9->t4 M n y=a9->r9 M n x z=r9 M n y z:=by
 have l:∀(n:Nat),(∀(x y z:D) (v:V),p9 X.K ρ H x v->p9 X.K ρ H y v->t4 M n x=a9->t4 M n y=a9->r9 M n x z=r9 M n y z) -> ∀(xs ys d:List D) (vs:List V),Reps X.K ρ H xs vs->Reps X.K ρ H ys vs->xs.all (t4 M n)=a9->ys.all (t4 M n)=a9->A6 (r9 M n) xs d=A6 (r9 M n) ys d:=by
  intro n u xs;induction xs with
  |nil=>intro ys d vs h1 h2 _ _;cases h1;cases h2;rfl
  |cons x xs hi =>
   intro ys d vs h1 h2 o1 o2;cases h1 with
   |cons J Q =>
    cases h2 with
    |cons O R =>
     cases d with
     |nil=>rfl
     |cons z d=>rw[Ie,C5]at o1 o2;rw[A6,A6,u _ _ z _ J O o1.1 o2.1,hi _ d _ Q R o1.2 o2.2]
 intro n;induction n with
 |zero=>intro x y z v h1 h2 o1 o2;cases h1<;>cases h2<;>first|rfl|(cases z<;>rfl)
 |succ n u =>
  intro x y z v h1 h2 o1 o2;cases h1 with
  |non=>cases h2;rfl
  |bl b=>cases h2;rfl
  |int b=>cases h2;rfl
  |str b=>cases h2;rfl
  |ty b=>cases h2;rfl
  |@tup a vs ds t r =>
   cases h2 with
   |tup h r' =>
    have e:=I.tuple_inj t h;subst e;cases z with
    |tup d=>exact l n u _ _ d _ r r' o1 o2
    |_=>rfl
   |@ref i _ e =>
    exfalso;obtain⟨its,_,⟨o,w,A,_⟩,_⟩:=I.tuple t;have hi:i<M.length:=by rw[<-m.len];exact(w9.mp e).1
    obtain⟨p,f,_,_,_,⟨o',E,g,N,_⟩⟩:=iV I m e (u9 hi) (cC (u9 hi) o2).1;rw[w]at g;cases g;rw[A]at N;injection N with f3;exact n6 f3<|by decide
  |@ref i a e =>
   have hi:i<M.length:=by rw[<-m.len];exact(w9.mp e).1
   have q:=u9 hi;obtain⟨vs,its,t,r,T,F⟩:=iV I m e q (cC q o1).1;cases h2 with
   |tup h r'=>exfalso;obtain⟨f,_,⟨o,w,A,_⟩,_⟩:=I.tuple h;obtain⟨o',E,g,N,_⟩:=F;rw[w]at g;cases g;rw[A]at N;injection N with f3;exact n6 f3<|by decide
   |@ref j _ B =>
    have L:j<M.length:=by rw[<-m.len];exact(w9.mp B).1
    have c:=u9 L;obtain⟨p,f,h,r',P,G⟩:=iV I m B c (cC c o2).1;have C:vs=p:=I.list_inj t h;subst C;cases z with
    |ref k =>
     simp only[r9,q,c];cases M[k]? with
     |none=>rfl
     |some S=>exact l n u _ _ _ _ r r' (cC q o1).2 (cC c o2).2
    |_=>rfl
theorem xj{k:Nat}(E:Room k X.A){pins:List (d5×d6)}{σ:St}{H:Hp}{s:f6}{ρ:List d5}{M:p8}(I:p0 X pins σ H s)(m:t5 X.K ρ M H){x:D}{l:V}{v:c6}(J:p9 X.K ρ H x l)(N:aG l v)(o1:t4 M p7 x=a9):∀{ys:List D}{ws:List V}{its:List c6},Reps X.K ρ H ys ws->ao ws its->ys.all (t4 M p7)=a9->∃e:c6->Bool,(∀u∈its,Io X.A.in1 s u v<|e u)/\its.any e=Jg M x ys:=by
 have w:X.A.in1.units+p7<j5:=by have:=E.un;show X.A.units+1+p7<j5;unfold p7;lia
 intro ys ws its i vs ok
 classical
 refine⟨λu=>if h:∃d a,p9 X.K ρ H d a/\aG a u/\t4 M p7 d=a9 then r9 M p7 h.choose x else c5,λu C=>?_,?_⟩;obtain⟨j,L,z⟩:=List.getElem_of_mem C;have y:j<ws.length:=by rw[vs.length];exact L
 obtain⟨d,n,f⟩:=i.getV<|u9 y;obtain⟨F,b,T⟩:=fA vs<|u9 y;have:F=u:=by rw[u9 L]at b;cases b;exact z
 subst this;have o:=D9.mp ok _<|Hu n;have h:∃d a,p9 X.K ρ H d a/\aG a F/\t4 M p7 d=a9:=⟨d,_,f,T,o⟩
 show Io X.A.in1 s F v (if h:_ then _ else _);rw[dif_pos h];obtain⟨a,g,p,c⟩:=h.choose_spec;have B:=aG.inj p T;subst B;rw[oy I m p7 _ d x _ g f c o];exact(ic I m p7 X.A.in1 d x _ l _ v w f T J N (D9.mp ok _<|Hu n) o1).1;clear w o1;unfold Jg;induction ys generalizing ws its with
 |nil=>cases i;cases vs;rfl
 |cons d ds G =>
  cases i with
  |cons r t =>
  cases vs with
  |cons q t' =>
   rename_i a O u us;rw[Ie,C5]at ok;have h:∃d a,p9 X.K ρ H d a/\aG a u/\t4 M p7 d=a9:=⟨d,_,r,q,ok.1⟩
   rw[List.any_cons,List.any_cons,G t t' ok.2,dif_pos h];obtain⟨P,g,p,c⟩:=h.choose_spec;have B:=aG.inj p q;subst B;rw[oy I m p7 _ d x _ g r c ok.1]
theorem AL{X:Cx}(g:Bool)(D:Room k X.A):E1 X (j3<|if g then .NotIn else .In) (EK g):=by
 rintro E s σ H K N v u R I B C ⟨x,y,M,ρ,Q,m,n,G,q,k⟩;cases G with
 |non=>exact q.elim
 |bl b=>exact q.elim
 |int b=>exact q.elim
 |ty b=>exact q.elim
 |str z =>
  cases n with
  |str p =>
   obtain⟨t,rfl⟩:=B;obtain⟨t',rfl⟩:=C;cases g with
   |false=>exact in_str<|dW I m k<|by simpa [EK]using q
   |true=>exact notIn_str<|dW I m k<|by simpa [EK]using q
  |_=>exact q.elim
 |@tup a J ys j r =>
  cases C;obtain⟨⟨o1,o2⟩,q⟩:=(show (t4 M p7 x=a9/\_)/\_ from q)
  obtain⟨its,o,l,F⟩:=I.tuple j;obtain⟨e,i,f⟩:=xj D I m n B o1 r o o2;have d:its.toArray.any e=Jg M x ys:=by rw[<-f];simp
  cases g with
  |false=>exact SeqAt.in_tupleAt e l (λw c=>i w<|by simpa using c)<|by rw[d];exact dW I m k<|by simpa using q
  |true=>exact SeqAt.notIn_tupleAt e l (λw c=>i w<|by simpa using c)<|by rw[d];exact dW I m k<|by simpa using q
 |ref h =>
  cases C;obtain⟨ys,L,⟨o1,o2⟩,q⟩:=(show ∃ys,ak M _ ys/\(t4 M p7 x=a9/\_)/\_ from q)
  obtain⟨J,j,r⟩:=ak.seq m L h;obtain⟨its,o,l,F⟩:=I.list j;obtain⟨e,i,f⟩:=xj D I m n B o1 r o o2;have d:its.toArray.any e=Jg M x ys:=by rw[<-f];simp
  cases g with
  |false=>exact SeqAt.in_listAt e l.isList (λw c=>i w<|by simpa using c)<|by rw[d];exact dW I m k<|by simpa using q
  |true=>exact SeqAt.notIn_listAt e l.isList (λw c=>i w<|by simpa using c)<|by rw[d];exact dW I m k<|by simpa using q
theorem od_in(i:Room k X.A):E1 X (j3 .In) MM:=AL c5 i
theorem zc(i:Room k X.A):E1 X (j3 .NotIn) kL:=AL a9 i
theorem Hq:e8 "len" = a7 (.builtin "len"):=by decide +kernel
theorem mz:e8 "isinstance" = a7 (.builtin "isinstance"):=by decide +kernel
theorem oW:e8 "sorted" = a7 (.builtin "sorted"):=by decide +kernel
theorem DO:e8 "bool" = a7 (.type "bool"):=by decide +kernel
theorem DM:e8 "list" = a7 (.type "list"):=by decide +kernel
theorem At:e8 "tuple" = a7 (.type "tuple"):=by decide +kernel
theorem DN:e8 "dict" = a7 (.type "dict"):=by decide +kernel
noncomputable def visB(c:f7)(x:c7):Bool:=match c.names.lookup x with
 |some .local=>a9
 |some .cell=>a9
 |some .free=>a9
 |_=>c5
theorem Ei(h:visB sc x=a9):J7 sc x:=by unfold visB at h;unfold J7;split at h;rename_i e;exact .inl e;rename_i e;exact .inr<|.inl e;rename_i e;exact .inr<|.inr e;cases h
noncomputable def DZ(c:f7)(x:c7):Bool:=match c.names.lookup x with
 |some .local=>a9
 |some .cell=>a9
 |_=>c5
theorem wI(h:DZ sc x=a9):JI sc x:=by unfold DZ at h;unfold JI;split at h;rename_i e;exact .inl e;rename_i e;exact .inr e;cases h
structure HE(X:Cx)(e:ge)(t:u6):Prop where
 ok:DE X e t
structure HT(X:Cx)(e:ge)(t:E2):Prop where
 ok:DT X e t
structure HW(X:Cx)(e:ge)(t:E2):Prop where
 ok:DW X e t
structure HA(X:Cx)(es:List ge)(t:D7):Prop where
 ok:DA X es t
structure HS(X:Cx)(e:h8)(t:p5):Prop where
 ok:DS X e t
structure HB(X:Cx)(e:List h8)(t:p5):Prop where
 ok:IY X e t
structure HG(X:Cx)(e:ge)(t:HD):Prop where
 ok:DG X e t
structure HI(X:Cx)(tg e:ge)(t:Ib):Prop where
 ok:DI X tg e t
structure KG(X:Cx)(e:List ge)(t:E2):Prop where
 ok:IX X e (lowT X.K t)
structure HO'(X:Cx)(e:Option ge)(t:Kc):Prop where
 ok:PO X e (FE X.K t)
structure E6(X:Cx)(f:c6->c6->Sem c6)(r:D0):Prop where
 ok:E1 X f r
structure NA(X:Cx)(f:c6->Sem c6)(r:Lk):Prop where
 ok:MQ X f r
structure HC(X:Cx)(f:c6)(r:C1):Prop where
 ok:jX X f r
structure HMs(X:Cx)(name:c7)(r:c7->C1):Prop where
 ok:∃id,Slot "str" name id/\k7 (.builtin id)=pure (.type "method_descriptor")/\Ia X id (lowMs X.K r)
structure KH(X:Cx)(name:c7)(r:Nat->C1):Prop where
 ok:∃id,Slot "list" name id/\k7 (.builtin id)=pure (.type "method_descriptor")/\Ia X id (jt X.K r)
theorem k_var(h:X.N[i]?=a7 x:=by kernel_rfl)(c:visB X.env.scope x=a9:=by kernel_rfl)(a:(x==("__debug__":c7))=c5:=by kernel_rfl)(d:(x==("__classdict__":c7))=c5:=by kernel_rfl):HE X (.Name x pos) (ab i):=⟨d_var h (Ei c) a d⟩
theorem k_int:HE X (.Constant (.int i) j pos) (dC<|.int i):=⟨d_int⟩
theorem k_bl:HE X (.Constant (.bool i) j pos) (dC<|.bl i):=⟨d_bl⟩
theorem k_non:HE X (.Constant .none j pos) (dC .non):=⟨d_non⟩
theorem k_str:HE X (.Constant (.str i) j pos) (dC<|.str i):=⟨d_str⟩
theorem FY(m:X.mg x=a8)(c:e8 x=a7 (.type T))(S:X.env.kindOf x=a7 .globalImplicit:=by kernel_rfl)(f:(x==("__name__":c7))=c5:=by kernel_rfl)(d:(x==("__debug__":c7))=c5:=by kernel_rfl):HE X (.Name x pos) (dC<|.ty T):=⟨He m c S (by simpa using f) d⟩
theorem k_op(D:E6 X (j2 op) r)(f:HE X a ta)(d:HE X b tb):HE X (.BinOp a op b pos) (p6 r ta tb):=⟨d_op D.ok f.ok d.ok⟩
theorem k_un(D:NA X (unaryOp op) r)(f:HE X a ta):HE X (.UnaryOp op a pos) (LP r ta):=⟨d_un D.ok f.ok⟩
theorem k_cmp(D:E6 X (j3 op) r)(f:HE X a ta)(d:HE X b tb)(m:j4 op b=c5:=by kernel_rfl):HE X (.Compare a [op] [b] pos) (p6 r ta tb):=⟨d_cmp D.ok f.ok d.ok m⟩
theorem FK(D:E6 X (j3 op) r)(f:HE X a ta)(d:HE X b tb)(m:j4 op b=c5:=by kernel_rfl):HT X (.Compare a [op] [b] pos) (ax<|p6 r ta tb):=⟨GN D.ok f.ok d.ok m⟩
theorem FI(h:HE X e te)(i:∀whole,isTrue e X.env whole=(do let v <-whole;standAt e.pos;i3 [v] (truthy v)):=by intro _;kernel_rfl):HT X e (ax te):=⟨GK h.ok i⟩
theorem CA(f:HT X a tA):HW X (.BoolOp .And [a] pos) tA:=⟨Dm f.ok⟩
theorem FF(f:HT X a tA):HW X (.BoolOp .Or [a] pos) tA:=⟨GI f.ok⟩
theorem AN{X:Cx}{a b:ge}{aE:List ge}{s:Pos}{A tB:E2}(f:HT X a A)(d:HW X (.BoolOp .And (b::aE) s) tB):HW X (.BoolOp .And (a::b::aE) s) (yf A tB):=⟨GJ f.ok d.ok⟩
theorem FG{X:Cx}{a b:ge}{aE:List ge}{s:Pos}{A tB:E2}(f:HT X a A)(d:HW X (.BoolOp .Or (b::aE) s) tB):HW X (.BoolOp .Or (a::b::aE) s) (Jh A tB):=⟨dw_or f.ok d.ok⟩
theorem kw_t(h:HW X e tA):HT X e tA:=⟨dw_t h.ok⟩
theorem FJ(f:HT X a tA):HT X (.UnaryOp .Not a pos) (ye tA):=⟨GM f.ok⟩
theorem k_one{op}(h:HE X a ta):HE X (.BoolOp op [a] pos) ta:=⟨d_one h.ok⟩
theorem k_and{X:Cx}{a b:ge}{aE:List ge}{t c:u6}{s:Pos}(f:HE X a t)(d:HE X (.BoolOp .And (b::aE) s) c):HE X (.BoolOp .And (a::b::aE) s) (xJ t c):=⟨d_and f.ok d.ok⟩
theorem k_or{X:Cx}{a b:ge}{aE:List ge}{t c:u6}{s:Pos}(f:HE X a t)(d:HE X (.BoolOp .Or (b::aE) s) c):HE X (.BoolOp .Or (a::b::aE) s) (dOrV t c):=⟨d_or f.ok d.ok⟩
theorem FX:HA X [] ag:=⟨Hc⟩
theorem CP(f:HE X e te)(i:HA X es t)(hs:g9 (e::es) X.env=(c5,eval e X.env)::g9 es X.env:=by kernel_rfl):HA X (e::es) (aa te t):=⟨Dy f.ok i.ok hs⟩
theorem k_tup{x1}(h:HA X es t):HE X (.Tuple es x1 pos) (gh t):=⟨d_tup h.ok⟩
theorem k_lst(h:HA X es t):HE X (.List es pos) (iq t):=⟨d_lst h.ok⟩
theorem CT{id:String}{r:C1}(c:HC X (.builtin id) r)(d:X.mg x=a8)(v:e8 x=a7 (.builtin id))(f:HA X (e::es) t)(S:X.env.kindOf x=a7 .globalImplicit:=by kernel_rfl)(n:(x==("__name__":c7))=c5:=by kernel_rfl)(b:(x==("__debug__":c7))=c5:=by kernel_rfl)(i:g9 (e::es) X.env=(c5,eval e X.env)::g9 es X.env:=by kernel_rfl) (l:(g8 pos<|g9 es X.env).any (·.1)=c5:=by kernel_rfl):HE X (.Call (.Name x p) (e::es) [] pos) (s9 r t):=⟨DB c.ok d v f.ok S (by simpa using n) b i l⟩
theorem zL(c:HC X (.type T) r)(d:X.mg x=a8)(v:e8 x=a7 (.type T))(f:HA X (e::es) t)(S:X.env.kindOf x=a7 .globalImplicit:=by kernel_rfl)(n:(x==("__name__":c7))=c5:=by kernel_rfl)(b:(x==("__debug__":c7))=c5:=by kernel_rfl)(i:g9 (e::es) X.env=(c5,eval e X.env)::g9 es X.env:=by kernel_rfl) (l:(g8 pos<|g9 es X.env).any (·.1)=c5:=by kernel_rfl):HE X (.Call (.Name x p) (e::es) [] pos) (s9 r t):=⟨Ak c.ok d v f.ok S (by simpa using n) b i l⟩
theorem k_cal(C:t9 X.prog X.w X.K X.mg X.base j x ps P)(r:Room k X.A)(f:HA X (e::es) t)(L:Nat.ble j k=a9:=by kernel_rfl)(S:X.env.kindOf x=a7 .globalImplicit:=by kernel_rfl) (b:(x==("__debug__":c7))=c5:=by kernel_rfl) (i:g9 (e::es) X.env=(c5,eval e X.env)::g9 es X.env:=by kernel_rfl) (l:(g8 pos<|g9 es X.env).any (·.1)=c5:=by kernel_rfl):HE X (.Call (.Name x p) (e::es) [] pos) (s9 P t):=⟨d_cal C r f.ok (Nat.le_of_ble_eq_true L) S b i l⟩
theorem k_ix(f:HE X a ta)(d:HE X b tb)(hs:qE b:=by intro _ _;kernel_rfl):HE X (.Subscript a b pos) (p6 u5 ta tb):=⟨d_ix f.ok d.ok hs⟩
theorem CL:HO' X a8 dY:=⟨Dv⟩
theorem CJ(h:HE X e te):HO' X (a7 e) (jT te):=⟨Du h.ok⟩
theorem CS{l hi:Option ge}{t h:Kc}{j:Pos}(i:HE X e te)(g:HO' X l t)(u:HO' X hi h):HE X (.Subscript e (.Slice l hi a8 j) pos) (Jr te t h):=⟨Dz i.ok g.ok u.ok⟩
theorem k_ml(d:KH X name r)(D:HE X o to)(f:HA X (e::es) t)(h:k8 o name X.env (eval o X.env)=eval o X.env:=by kernel_rfl)(w:((g8 cpos<|g9 (e::es) X.env).all (λx=>!x.1)&&(k9 cpos<|l3 [] X.env).all (λx=>x.1.isSome) && decide ((e::es).length+([]:List l4).length+(if ([]:List l4).isEmpty then 0 else 1)<30))=a9:=by kernel_rfl)(a:(apos.endLine==cpos.line)=a9:=by kernel_rfl) (hs:g9 (e::es) X.env=(c5,eval e X.env)::g9 es X.env:=by kernel_rfl) (n:(g8 cpos<|g9 es X.env).any (·.1)=c5:=by kernel_rfl):HE X (.Call (.Attribute o name apos) (e::es) [] cpos) (Ij r to t):=let ⟨_,h1,h2,h3⟩:=d.ok;⟨d_ml h1 h2 h3 D.ok f.ok h w a hs n⟩
theorem FM:HB X [] aY:=⟨GR⟩
theorem FL{X:Cx}{st:h8}{b:p5}(h:HS X st b):HB X [st] b:=⟨GQ h.ok⟩
theorem CI{X:Cx}{st:h8}{s:List h8}{b us:p5}(h1:HS X st b)(h2:HB X s us):HB X (st::s) (az b us):=⟨Dt h1.ok h2.ok⟩
theorem wU(i:HE X e te)(hs:i4 e a8 pos.line X.env=pure c5:=by kernel_rfl):HS X (.Expr e pos) (fu te):=⟨Ds i.ok hs⟩
theorem AS(i:HE X e te):HS X (.Return (a7 e) pos) (bp te):=⟨GP i.ok⟩
theorem FN(h:HT X c tA)(f:HB X aS ts)(d:HB X bS us):HS X (.If c aS bS pos) (A2 tA ts us):=⟨ds_if h.ok f.ok d.ok⟩
theorem AR(h:X.N.Nodup)(a:HE X e te)(hi:X.N[i]?=a7 x:=by kernel_rfl)(b:DZ X.env.scope x=a9:=by kernel_rfl)(hs:i4 e (a7<|.Name x pos') pos.line X.env=pure c5:=by kernel_rfl)(f:X.fn x=a9:=by kernel_rfl):HS X (.Assign [.Name x pos'] e pos) (bb te i):=⟨GO h a.ok hi (wI b) hs<|.inl f⟩
theorem CO(h:X.N.Nodup)(hi:X.N[i]?=a7 x:=by kernel_rfl)(a:DZ X.env.scope x=a9:=by kernel_rfl)(f:X.fn x=a9:=by kernel_rfl):HG X (.Name x pos) (ar i):=⟨qu h hi (wI a)<|.inl f⟩
theorem FT(h:X.N.Nodup)(hi:X.N[i]?=a7 x:=by kernel_rfl)(f:X.env.scope.names.lookup x=a7 .local:=by kernel_rfl):HG X (.Name x pos) (ar i):=⟨qu h hi (.inl f)<|.inr f⟩
theorem FP(h:HE X e te):HI X tg e (cE te):=⟨GX h.ok⟩
theorem AT{a:List h8}{b:p5}(hi:HI X tg iter di)(S:HG X tg g)(d:HB X a b)(p:PassesOwn (g7 X.prog X.w) X.A X.env X.xe:=by exact PassesOwn.never)(f:X.calm=a9:=by kernel_rfl)(hs:∀x,j1 iter X.env x=pure x:=by intro _;kernel_rfl):HS X (.For tg iter a [] pos) (jU di g b):=⟨GS hi.ok S.ok d.ok p f hs⟩
theorem CF:KG X [] ux:=⟨Dp⟩
theorem CD(h:HT X c tA):KG X [c] tA:=⟨Do h.ok⟩
theorem k_lc(hi:HI X tg iter di)(S:∀cl s0 H0 ex,HG (x6 X N' scope cl s0 H0 ex) tg g) (E:∀cl s0 H0 ex,KG (x6 X N' scope cl s0 H0 ex) ifs tt) (i:∀cl s0 H0 ex,HE (x6 X N' scope cl s0 H0 ex) elt te) (B:lc X.env.scope.names X.N N' nt js scope=a9:=by kernel_rfl) (f:X.calm=a9:=by kernel_rfl)(hs:∀x,j1 iter X.env x=pure x:=by intro _;kernel_rfl):HE X (.ListComp elt [⟨tg,iter,ifs,0⟩] scope pos) (H9 nt js di g tt te):=⟨d_lc (BlkSc.chk B) hi.ok (λcl s0 H0 ex=>(S cl s0 H0 ex).ok) (λcl s0 H0 ex=>(E cl s0 H0 ex).ok) (λcl s0 H0 ex=>(i cl s0 H0 ex).ok) f hs⟩
theorem wY(d:X.mg "range" = a8)(f:HA X [a] t)(S:X.env.kindOf "range" = a7 .globalImplicit:=by kernel_rfl)(hs:g9 [a] X.env=[(c5,eval a X.env)]:=by kernel_rfl):HI X tg (.Call (.Name "range" p) [a] [] pos) (cw t):=⟨xG d f.ok S hs⟩
theorem wX(d:X.mg "range" = a8)(f:HA X [a,b] t)(S:X.env.kindOf "range" = a7 .globalImplicit:=by kernel_rfl)(hs:g9 [a,b] X.env=[(c5,eval a X.env),(c5,eval b X.env)]:=by kernel_rfl)(c:g9 [b] X.env=[(c5,eval b X.env)]:=by kernel_rfl):HI X tg (.Call (.Name "range" p) [a,b] [] pos) (mv t):=⟨xF d f.ok S hs c⟩
theorem Gm:E6 X (j2 .Sub) DV:=⟨Ft⟩
theorem Gp:E6 X (j2 .Mult) lJ:=⟨Ck⟩
theorem Dc:E6 X (j2 .FloorDiv) pI:=⟨Cl⟩
theorem Gq:E6 X (j2 .Mod) vM:=⟨Fw⟩
theorem ho_lt:E6 X (j3 .Lt) JF:=⟨Fy⟩
theorem ho_gt:E6 X (j3 .Gt) Jp:=⟨od_gt⟩
theorem ho_is:E6 X (j3 .Is) K7:=⟨od_is⟩
theorem zQ:E6 X (j3 .IsNot) iY:=⟨zd⟩
theorem ho_eq(i:Room k X.A):E6 X (j3 .Eq) C0:=⟨od_eq i⟩
theorem ho_ne(i:Room k X.A):E6 X (j3 .NotEq) J4:=⟨od_ne i⟩
theorem ho_in(i:Room k X.A):E6 X (j3 .In) MM:=⟨od_in i⟩
theorem zP(i:Room k X.A):E6 X (j3 .NotIn) kL:=⟨zc i⟩
theorem Gk:NA X (unaryOp .USub) EH:=⟨Ek⟩
theorem Gw:HC X (.builtin "len") jM:=⟨Hm⟩
theorem Gx:HC X (.builtin "isinstance") BD:=⟨Hn⟩
theorem xo:KH X "append" bE:=⟨_,PySem.F.slot_list_append,PySem.F.type_list_append,tK⟩
theorem t9.byH{P:c9}{w:c8}{K:q9}{mg:c7->Option c6}{base:d7}{x:c7}{st:h8}{N ps:List c7}{k:Nat}{d:x5}(F:cx K mg x st ps)(n:FnScope N ps (ah st))(B:∀ds M R,d ds M R->ds.length=ps.length) {t:p5}(r:∀(f:d5) (cdv:c6) (A:e9) (outer:List Env) (s:f6) (H:Hp) (E:XK),Room k (A.deeper<|j9 x (ah st) s.heap.objs.size f cdv)->HB (oK D3 P w K mg base N x (ah st) f cdv A outer s H E).nox (bo st) t)(p:∀ds M R,d ds M R->t ⟨λ_ M'=>bt M R .non M',bt M R,λ_ _=>False,λ_ _=>False⟩ (bJ N ds) M):t9 P w K mg base (k+1) x ps d:=t9.of F n B (λf cdv A outer s H E i=>(r f cdv A outer s H E i).ok) p
theorem zV{P:c9}{w:c8}{K:q9}{mg:c7->Option c6}{base:d7}{x:c7}{st:h8}{N ps:List c7}{k:Nat}{d:x5}{f:d5}{a:j6}(F:IF K x x st f a)(n:FnScope N ps (ah st))(B:∀ds M R,d ds M R->ds.length=ps.length) {t:p5}(r:∀(f:d5) (cdv:c6) (A:e9) (outer:List Env) (s:f6) (H:Hp) (E:XK),Room k (A.deeper<|j9 x (ah st) s.heap.objs.size f cdv)->HB (oK D3 P w K mg base N x (ah st) f cdv A outer s H E).nox (bo st) t)(p:∀ds M R,d ds M R->t ⟨λ_ M'=>bt M R .non M',bt M R,λ_ _=>False,λ_ _=>False⟩ (bJ N ds) M):FnOk P w K mg base D3 (k+1) f a ps (IU K d):=Di F n B (λf cdv A outer s H E i=>(r f cdv A outer s H E i).ok) p
theorem iC(I:List D->SD->p8->Prop)(h0:∀S M,I [] S M->ok M/\E.nx S M)(h1:∀x xs S M,I (x::xs) S M->∀L:SD->p8->Prop,(∀S' M',I xs S' M'->L S' M')->ok M/\g x S M λS2 M2=>tb ⟨z9 k0 L,E.rt,E.nx,z9 k0 L⟩ S2 M2):∀xs S M,I xs S M->oJ ok g tb E k0 xs S M
 | [],S,M,h=>h0 S M h
 |x::xs,S,M,h=>h1 x xs S M h _<|iC I h0 h1 xs
theorem aU(I:Nat->SD->p8->Prop)(a:∀S M,I xs.length S M->ok M/\E.nx S M)(h1:∀i x S M,xs[i]?=a7 x->I i S M->∀L:SD->p8->Prop,(∀S' M',I (i+1) S' M'->L S' M')->ok M/\g x S M λS2 M2=>tb ⟨z9 k0 L,E.rt,E.nx,z9 k0 L⟩ S2 M2)(h:I 0 S M):oJ ok g tb E k0 xs S M:=by
 refine iC (λys S M=>∃i,xs.drop i=ys/\i+ys.length=xs.length/\I i S M) ?_ ?_ xs S M ⟨0,rfl,by simp,h⟩;rintro S M ⟨i,_,e,q⟩;have:i=xs.length:=by simpa using e
 subst this;exact a S M q;rintro x ys S M ⟨i,e,l,q⟩ L b;have c:xs[i]?=a7 x:=by
  have:(xs.drop i)[0]?=a7 x:=by rw[e];rfl
  simpa using this
 refine h1 i x S M c q L λS' M' j=>b S' M' ⟨i+1,?_,by simp at l;lia,j⟩;rw[<-List.drop_drop,e];rfl
theorem z9.now(h:P S M):z9 k0 P S M:=.inl h
theorem eH{l:Int}{n i:Nat}{x:D}:(pc l n)[i]?=a7 x↔i<n/\x=.int (l+(i:Int)):=by unfold pc;rw[C2];by_cases h:i<n;simp[h,eq_comm];simp[h]
theorem fJ{l:Int}{n:Nat}:(pc l n).length=n:=by simp[pc]
theorem bR(p:D->Bool)(f:D->D)(I:SD->Prop)(hok:ok M):∀(xs acc:List D) (S:SD),(∀x∈xs,∀S,I S->∃S',I S'/\∀(Y:D->SD->p8->Prop) (Z:SD->p8->Prop),(if p x=a9 then Y (f x) S' M else Z S' M) -> g x S M λS2 M2=>tt S2 M2 λb M3=>if b=a9 then te S2 M3 λy M4=>Y y S2 M4 else Z S2 M3) ->I S->acc.length+xs.length<=sizeLine->Q (.ref M.length) (M++[.lst<|acc++(xs.filter p).map f])->jV ok g tt te Q xs acc S M
 | [],acc,S,_,_,_,q=>⟨hok,by simpa using q⟩
 |x::xs,acc,S,step,hS,hl,q=>by obtain⟨S',hS',k⟩:=step x z0 S hS;refine⟨hok,k (λy S2 M4=>acc.length<sizeLine/\jV ok g tt te Q xs (acc++[y]) S2 M4) (λS2 M3=>jV ok g tt te Q xs acc S2 M3) ?_⟩;have step':=λy hy=>step y<|w6 _ hy;rw[A0]at hl;by_cases hp:p x=a9;rw[m9 hp];refine⟨by lia,bR p f I hok xs _ S' step' hS' (by rw[v4,F9];lia) ?_⟩;rw[List.filter_cons_of_pos hp,A5]at q;rw[Hs];exact q;rw[n5 hp];refine bR p f I hok xs acc S' step' hS' (by lia) ?_;rw[List.filter_cons_of_neg hp]at q;exact q
theorem eA(f:D->D)(I:SD->Prop)(K:ok M)(xs acc:List D) (S:SD) (L:∀x∈xs,∀S,I S->∃S',I S'/\∀(Y:D->SD->p8->Prop),Y (f x) S' M->g x S M λS2 M2=>te S2 M2 λy M4=>Y y S2 M4)(a:I S) (l:acc.length+xs.length<=sizeLine) (q:Q (.ref M.length) (M++[.lst<|acc++xs.map f])):jV ok g ux te Q xs acc S M:=by refine bR (λ_=>a9) f I K xs acc S (λx c S a=>?_) a l (by rw[List.filter_eq_self.mpr λ_ _=>rfl];exact q);obtain⟨S',b,k⟩:=L x c S a;refine⟨S',b,λY Z h=>?_⟩;rw[m9 rfl]at h;have:=k Y h;simp only[ux,o5];exact this
theorem ae:(M++[mo])[M.length]?=a7 mo:=by simp
theorem bi:ak (M++[.lst xs]) M.length xs:=.inl ae
theorem ak.more(h:ak M n xs)(L:p8):ak (M++L) n xs:=by
 have l:∀{mo:MO},M[n]?=a7 mo->(M++L)[n]?=a7 mo:=λe=>by rw[G6 (w9.mp e).1];exact e
 rcases h with h|h|h;exact .inl<|l h;exact .inr<|.inl<|l h;exact .inr<|.inr<|l h
theorem bt.keep(h:R d M)(b:A4 M.length d)(p:M <+: M'):bt M R d M':=.inr<|.inl ⟨M,.refl,b,p,h⟩
theorem bt.now(h:R d M):bt M R d M:=.inl h
theorem bt.bl(h:R (.bl b) M)(p:M <+: M'):bt M R (.bl b) M':=.keep h (.bl b) p
theorem gH:M <+: M++[mo]:=G5 _ _
theorem Br{a b:c7}(h:a.cps.toList=b.cps.toList):a=b:=by cases a;cases b;simp only[Array.toList_inj]at h;simpa using h
theorem jv{a:c7}:a.length=a.cps.toList.length:=by show a.cps.size=_;simp
theorem DP{a b:c7}:(a++b).cps.toList=a.cps.toList++b.cps.toList:=by show (a.cps++b.cps).toList=_;simp
theorem bG{a b:c7}:(a++b).length=a.length+b.length:=by rw[jv,jv,jv,DP,v4]
theorem av(h:n<=1000):n<=sizeLine:=Jj<|aJ h
theorem gs{α:Type}{xs:List α}{i:Int}(a:0<=i)(h1:i<xs.length):∃(j:Nat) (hj:j<xs.length),atI xs i=a7 xs[j]/\(j:Int)=i:=by
 have hj:i.toNat<xs.length:=by lia
 refine⟨i.toNat,hj,?_,by lia⟩;have e:i=((i.toNat:Nat):Int):=by lia
 have q:atI xs ((i.toNat:Nat):Int)=a7 xs[i.toNat]:=aA<|u9 hj;rw[<-e]at q;exact q
theorem ak.get(h:ak M n xs):∃mo,M[n]?=a7 mo/\mo.items=xs/\mo.isL=a9:=by rcases h with h|h|h<;>exact⟨_,h,rfl,rfl⟩
theorem zZ(h1:ak M i xs)(h2:ak M j ys):r9 M (n+1) (.ref i) (.ref j)=A6 (r9 M n) xs ys:=by obtain⟨a,f,rfl,h⟩:=h1.get;obtain⟨b,d,rfl,c⟩:=h2.get;simp only[r9,f,d]
theorem wv(h1:ak M i xs)(h:∀x∈xs,t4 M n x=a9):t4 M (n+1) (.ref i)=a9:=by obtain⟨a,f,rfl,b⟩:=h1.get;simp only[t4,f,b,Bool.true_and];exact D9.mpr h
theorem Ci(h:∀x∈xs,t4 M n x=a9):t4 M (n+1) (.tup xs)=a9:=by simp only[t4];exact D9.mpr h
theorem aw:t4 M n (.str x)=a9:=by cases n<;>rfl
theorem lW:t4 M n (.int x)=a9:=by cases n<;>rfl
theorem AK:t4 M n (.bl x)=a9:=by cases n<;>rfl
theorem ww:t4 M n .non=a9:=by cases n<;>rfl
theorem Dj:A6 f xs []=xs.isEmpty:=by cases xs<;>rfl
theorem jC:r9 M n (.int a) (.int b)=(a==b):=by cases n<;>rfl
theorem bf:r9 M n (.str a) (.str b)=(a==b):=by cases n<;>rfl
def jS:Be:=λds S M Q=>match ds with
 | []=>Q S M
 |_=>False
def bh(t:HD)(u:Be):Be:=λds S M Q=>match ds with
 |d::r=>t d S M λb a=>u r b a Q
 | []=>False
def jR(n:Nat)(t:Be):HD:=λd S M Q=>match d with
 |.tup ds=>ds.length=n/\t ds S M Q
 |_=>False
theorem Dw:Ll X [] jS:=by
 rintro p s σ H vs us R I r ⟨ds,S,M,ρ,Q,m,e,f,q,k⟩;cases f with
 |nil=>exact BP p s σ H _ us R I r ⟨rfl,k σ H ⟨S,M,ρ,m,.refl,e,q⟩⟩
 |cons _ _=>exact q.elim
theorem Ai(h1:DG X e t)(h2:Ll X es u)(hs:(i6 (e::es) X.env).map (·.2)=i5 e X.env::(i6 es X.env).map (·.2):=by rfl):Ll X (e::es) (bh t u):=by
 rintro p s σ H vs us R I r ⟨ds,S,M,ρ,Q,m,j,f,q,k⟩;cases f with
 |nil=>exact q.elim
 |cons h f=>refine yS h1 h2 hs p s σ H _ us R I r ⟨_,_,rfl,_,S,M,ρ,_,m,j,h,q,?_⟩;rintro l n ⟨S1,d,c,i,g1,a,g⟩;exact⟨_,S1,d,c,Q,i,a,f.grow g1,g,λb H' w=>k b H'<|SQ.trans g1 w⟩
theorem GZ(h:Ll X es t)(a:X.calm=a9:=by rfl)(b:(i6 es X.env).length=n:=by rfl) (c:(i6 es X.env).findIdx? (·.1)=a8:=by rfl):DG X (.Tuple es j pos) (jR n t):=by
 rintro p s σ H v u R I r ⟨d,S,M,ρ,Q,m,i,g,q,k⟩;cases g with
 |tup e f=>exact EV a h b c p s σ H _ u R I r ⟨_,_,rfl,e,by rw[<-f.length];exact q.1,_,S,M,ρ,Q,m,i,f,q.2,k⟩
 |_=>exact q.elim
def dAsg(te:u6)(g:HD):p5:=λE S M=>te S M λd a=>g d S a E.nx
theorem GT(i:DE X e te)(h:DG X tg g)(hs:swapsWithSole [tg] e pos.line X.env=pure c5:=by rfl)(f:swappedStores [tg] e X.env=pure a8:=by rfl)(h1:(i6 [tg] X.env).map (·.2)=[i5 tg X.env]:=by rfl):DS X (.Assign [tg] e pos) (dAsg te g):=by refine PS.imp (ET i h hs f h1) ?_;rintro E σ H ⟨S,M,ρ,F,s,r,q,k⟩;refine⟨S,M,ρ,_,s,r,q,?_⟩;rintro v n ⟨d,b,c,m,g1,l,j⟩;exact⟨d,S,b,c,_,m,r.grow g1,l,j,λa H' w=>k.nx a H'<|SQ.trans g1 w⟩
def qSet:D->D->D->p8->(p8->Prop)->Prop:=λo i v M Q=>match o,i with
 |.ref n,.int k=>∃xs j,M[n]?=a7 (.lst xs)/\Ii xs.length k=a7 j/\Q (M.set n<|.lst<|xs.set j v)
 |_,_=>False
theorem Reps.set{K:q9}{ρ:List d5}{H:Hp}{d:D}{v:V}(r:p9 K ρ H d v):∀{ds:List D}{vs:List V} (i:Nat),Reps K ρ H ds vs->Reps K ρ H (ds.set i d) (vs.set i v)
 |_,_,_,.nil=>.nil
 |_,_,0,.cons _ t=>.cons r t
 |_,_,i+1,.cons q t=>.cons q<|Reps.set r i t
def Aj(e d:u6):HD:=λv S M Q=>e S M λo a=>d S a λi b=>qSet o i v b λc=>Q S c
theorem Ha(E:DE X o to)(hi:DE X i ti)(D:∀v,i5 (.Subscript o i pos) X.env v=(do
   let ov <-i3 [v] (eval o X.env)
   let iv <-i3 [v,ov] (eval i X.env)
   standAt pos
   i3 [v,ov,iv] (setItem ov iv v)
   release [v,ov,iv] []):=by intro _;rfl):DG X (.Subscript o i pos) (Aj to ti):=by
 rintro p s σ H v u R I r ⟨d,S,M,ρ,Q,P,f,N,q,k⟩;refine EW E hi yF D p s σ H v u R I r ⟨S,M,ρ,_,P,f,q,?_⟩;rintro Y U ⟨o',C,h,O,g1,J,F⟩;refine⟨S,C,h,_,O,f.grow g1,F,?_⟩;rintro W V ⟨i',m,l,A,g,K,b⟩;have c:=J.grow g;cases c with
 |@ref n a w =>
  cases K with
  |int j =>
   obtain⟨xs,y,e,L,G⟩:=(show ∃xs x,m[n]?=a7 (.lst xs)/\Ii xs.length j=a7 x/\Q S (m.set n<|.lst<|xs.set x d)from b)
   obtain⟨vs,t,z⟩:=A.obj n a _ w e;obtain⟨T,B⟩:=A.write w e t<|Reps.set (N.grow<|g1.trans g) y z;exact⟨a,vs,j,y,rfl,rfl,t,by rw[<-z.length];exact L,k σ _ ⟨S,_,l,T,(g1.trans g).trans B,f.grow<|(g1.trans g).trans B,G⟩⟩
  |_=>exact b.elim
 |_=>exact b.elim
def fL:C1:=λds M Q=>match ds with
 | [.ref n]=>∃xs,ak M n xs/\Q (.tup xs) M
 | [.tup xs]=>Q (.tup xs) M
 |_=>False
theorem Ap:jX X (.type "tuple") fL:=by
 refine fx.imp mw ?_;rintro vs H R ⟨ds,M,ρ,Q,m,a,q,k⟩;unfold fL at q;split at q;obtain⟨xs,L,q⟩:=q
 first|have z:=Reps.inv_cons a|have z:=ao.inv_cons a
 clear a;obtain⟨_,_,rfl,b,a⟩:=z;cases a;obtain⟨_,rfl,e⟩:=p9.inv_ref b;obtain⟨s,h,r⟩:=ak.seq m L e;exact⟨_,s,rfl,.inl ⟨h,λl g=>k _ _<|VQ.laidT m .refl r g q⟩⟩
 first|have z:=Reps.inv_cons a|have z:=ao.inv_cons a
 clear a;obtain⟨_,_,rfl,b,a⟩:=z;cases a;cases b with
 |tup h r=>exact⟨_,_,rfl,.inr ⟨h,k _ H<|VQ.now m (.tup h r) q⟩⟩
 exact q.elim
theorem yY:A9 X (j2 .Add) (λx y H Q=>∃a b ys,x=.ref a/\y=.ref b/\x9 X.K H a []/\x9 X.K H b ys/\Q (.ref b) H):=by intro r s σ H x y v u Q I G J h;obtain⟨a,b,ys,rfl,rfl,z,A,q⟩:=h;cases G;cases J;obtain⟨its,F,C,_⟩:=I.tuple z;obtain⟨p,M,E,_⟩:=I.tuple A;have e:its=[]:=F.nil_iff.mpr rfl;subst e;obtain⟨⟨t,w,l,L⟩,D,m,n,o⟩:=id C;obtain⟨⟨k,g,i,j⟩,f,c,B,d⟩:=id E;simp only at m o c d;subst m o c d;exact concat_meets ⟨_,D,rfl⟩ ⟨_,f,rfl⟩ noFill_tuple_add seq_tuple_add Nh Nl (No _ _) (tuple_addW0 a b _ _ n B w g L j<|by simp) ⟨D,f,⟨.ref b,H,I,rfl,q⟩⟩
def ba:D0:=λx y M Q=>match x,y with
 |.tup xs,.tup ys=>xs.length+ys.length<=sizeLine/\Q (.tup<|xs++ys) M
 |_,_=>qAdd x y M Q
theorem Cm:E1 X (j2 .Add) ba:=by
 rintro c s σ H f j v u R I g i ⟨x,y,M,ρ,Q,m,r,e,q,k⟩;unfold ba at q;split at q;rename_i xs ys;obtain⟨a,vs,rfl,h1,D⟩:=p9.inv_tup r;obtain⟨b,w,rfl,h2,E⟩:=p9.inv_tup e;have l:=D.length;have d:=E.length;cases xs with
 |nil=>cases D;exact yY c s σ H _ _ v u R I g i ⟨a,b,w,rfl,rfl,h1,h2,k _ H<|VQ.now m (.tup h2 E) q.2⟩
 |cons o n =>
  refine Cc c s σ H _ _ v u R I g i ⟨a,b,vs,w,rfl,rfl,h1,h2,?_,by rw[<-l,<-d];exact q.1,λz=>?_,λ_ p h=>k _ _<|VQ.laidT m .refl (D.append E) h q.2⟩;intro z;subst z;simp at l;subst z;have:ys=[]:=by simpa using d
  subst this;rw[Ir]at q;exact k _ H<|VQ.now m (.tup h1 D) q.2
 exact FA c s σ H f j v u R I g i ⟨x,y,M,ρ,Q,m,r,e,q,k⟩
def gG(n:Nat):C1:=λds M Q=>match ds with
 | [.ref m]=>∃xs ys,M[n]?=a7 (.lst xs)/\M[m]?=a7 (.lst ys)/\n≠m/\xs.length+ys.length<=sizeLine/\Q .non (M.set n<|.lst<|xs++ys)
 |_=>False
theorem tJ:Ia X "list.extend" (jt X.K gG):=by
 rintro p s σ H x xs v us R I A y ⟨n,a,ds,M,ρ,Q,l,g,c,f,q,k⟩;unfold gG at q;split at q;rename_i m;obtain⟨ys,D,e,j,u,o,q⟩:=q
 first|have z:=Reps.inv_cons f|have z:=ao.inv_cons f
 clear f;obtain⟨_,_,rfl,w,f⟩:=z;cases f;obtain⟨b,rfl,t⟩:=p9.inv_ref w;obtain⟨vs,d,r⟩:=c.obj n a _ g e;obtain⟨C,h,i⟩:=c.obj m b _ t j;obtain⟨L,B⟩:=c.write g e d<|r.append i;exact wz p s σ H x _ v us R I A y ⟨a,b,vs,C,l,rfl,d,h,by rw[<-r.length,<-i.length];exact o,k _ _ ⟨.non,_,ρ,L,B,.non,q⟩⟩;exact q.elim
end L2
namespace Srt
open PySem PySem.W PyProof.Rows
noncomputable def run{α:Type}(c:Nat->Nat->Bool):KasT α->α
 |.ret a=>a
 |.ask i j k=>run c<|k<|c i j
theorem eG{α β:Type}{c:Nat->Nat->Bool}{f:α->KasT β}:∀t:KasT α,run c (t.bind f)=run c (f<|run c t)
 |.ret a=>rfl
 |.ask i j k=>eG<|k<|c i j
def Bd{α:Type}(n:Nat):KasT α->Prop
 |.ret _=>True
 |.ask i j k=>i<n/\j<n/\∀b,Bd n<|k b
def All{α:Type}(P:α->Prop):KasT α->Prop
 |.ret a=>P a
 |.ask _ _ k=>∀b,All P<|k b
theorem All.mono{α:Type}{P Q:α->Prop}(h:∀a,P a->Q a):∀t:KasT α,All P t->All Q t
 |.ret a,q=>h a q
 |.ask _ _ k,q=>λb=>All.mono h (k b)<|q b
theorem All.bind{α β:Type}{P:β->Prop}{f:α->KasT β}:∀t:KasT α,All (λa=>All P<|f a) t->All P (t.bind f)
 |.ret a,q=>q
 |.ask _ _ k,q=>λb=>All.bind (k b)<|q b
theorem Bd.bindA{α β:Type}{n:Nat}{f:α->KasT β}:∀t:KasT α,Bd n t->All (λa=>Bd n<|f a) t->Bd n (t.bind f)
 |.ret a,_,q=>q
 |.ask _ _ k,b,q=>⟨b.1,b.2.1,λx=>Bd.bindA (k x) (b.2.2 x)<|q x⟩
theorem All.run{α:Type}{P:α->Prop}{c:Nat->Nat->Bool}:∀t:KasT α,All P t->P (Srt.run c t)
 |.ret a,q=>q
 |.ask i j k,q=>All.run (k<|c i j)<|q _
theorem wp_run{α:Type}{cmp:Nat->Nat->(Bool->f6->Prop)->f6->Prop}{c:Nat->Nat->Bool}{n:Nat}{s:f6}{Q:α->f6->Prop}(hc:∀i j (C:Bool->f6->Prop),i<n->j<n->C (c i j) s->cmp i j C s):∀t:KasT α,Bd n t->Q (run c t) s->t.kasWp cmp Q s
 |.ret a,_,q=>q
 |.ask i j k,b,q=>hc i j _ b.1 b.2.1<|wp_run hc (k<|c i j) (b.2.2 _) q
structure Hv(c:Nat->Nat->Bool):Prop where
 irr:∀a,c a a=c5
 tr:∀a b d,c a b=a9->c b d=a9->c a d=a9
 neg:∀a b d,c a d=a9->c a b=a9\/c b d=a9
section
variable{c:Nat->Nat->Bool}(O:Hv c)
def le(c:Nat->Nat->Bool)(a b:Nat):Prop:=c b a=c5
theorem le_refl(O:Hv c)(a:Nat):le c a a:=O.irr a
theorem le_trans(O:Hv c)(h1:le c a b)(h2:le c b d):le c a d:=by
 unfold le at *;cases q:c d a with
 |false=>rfl
 |true=>rcases O.neg d b a q with h|h;rw[h2]at h;cases h;rw[h1]at h;cases h
theorem le_of_lt(O:Hv c)(h:c a b=a9):le c a b:=by
 unfold le;cases q:c b a with
 |false=>rfl
 |true=>have:=O.tr a b a h q;rw[O.irr]at this;cases this
noncomputable abbrev at_(p:Array Nat)(k:Nat):Nat:=p.getD k 0
def Up(c:Nat->Nat->Bool)(p:Array Nat)(m:Nat):Prop:=∀i j,i<=j->j<m->le c (at_ p i) (at_ p j)
def Dn(c:Nat->Nat->Bool)(p:Array Nat)(m:Nat):Prop:=∀i j,i<=j->j<m->le c (at_ p j) (at_ p i)
def KI(c:Nat->Nat->Bool)(p:Array Nat)(a b:Nat):Prop:=∀i j,a<=i->i<b->a<=j->j<b->le c (at_ p i) (at_ p j)
theorem Up.one(O:Hv c)(p:Array Nat):Up c p 1:=λi j a L=>by
 have:i=j:=by lia
 subst this;exact le_refl O _
theorem Up.snoc(O:Hv c)(h:Up c p n)(h1:1<=n)(g:le c (at_ p<|n-1) (at_ p n)):Up c p (n+1):=λi j a L=>by
 by_cases b:j<n;exact h i j a b;have:j=n:=by lia
 subst this;by_cases hi:i=j;subst hi;exact le_refl O _;exact le_trans O (h i (j-1) (by lia)<|by lia) g
theorem Dn.snoc(O:Hv c)(h:Dn c p n)(h1:1<=n)(g:le c (at_ p n) (at_ p<|n-1)):Dn c p (n+1):=λi j a L=>by
 by_cases b:j<n;exact h i j a b;have:j=n:=by lia
 subst this;by_cases hi:i=j;subst hi;exact le_refl O _;exact le_trans O g<|h i (j-1) (by lia)<|by lia
theorem eV(L:j<=p.size)(k:Nat):at_ (HF p i j) k=if i<=k/\k<j then at_ p (i+j-1-k)else at_ p k:=by have e:=getElem?_mirror_all (xs:=p) (i:=i) L k;unfold at_ HF;rw[J3,e];by_cases h:i<=k/\k<j;rw[m9 h,m9 h,J3];rw[n5 h,n5 h,J3]
theorem oX(b:k<p.size)(a:d<=k)(i:Nat):at_ (bubble p k d) i=if i=k-d then at_ p k else if k-d<i/\i<=k then at_ p (i-1)else at_ p i:=by have e:=getElem?_bubble (xs:=p) b d a i;unfold at_;rw[J3,e];by_cases h:i=k-d;rw[m9 h,m9 h,J3];rw[n5 h,n5 h];by_cases h':k-d<i/\i<=k;rw[m9 h',m9 h',J3];rw[n5 h',n5 h',J3]
theorem Dn.rev(h:Dn c p n)(f:n<=p.size):Up c (HF p 0 n) n:=λi j a L=>by rw[eV f,eV f,m9 ⟨v9 _,by lia⟩,m9 ⟨v9 _,L⟩];exact h _ _ (by lia)<|by lia
theorem Dn.revEq(O:Hv c)(h:Dn c p n)(f:n<=p.size)(e:KI c p a n):Dn c (HF p a n) n:=λi j b L=>by rw[eV f,eV f];by_cases h1:a<=i/\i<n;by_cases h2:a<=j/\j<n;rw[m9 h1,m9 h2];exact e _ _ (by lia) (by lia) (by lia) (by lia);exact n6 ⟨by lia,L⟩ h2;by_cases h2:a<=j/\j<n;rw[n5 h1,m9 h2];exact h _ _ (by lia) (by lia);rw[n5 h1,n5 h2];exact h _ _ b L
theorem qC(O:Hv c):∀(f n:Nat),1<=n->Up c p n->Up c p (run c<|Im p f n)/\n<=run c (Im p f n)/\run c (Im p f n)<=n+f /\(run c (Im p f n)<n+f->c (at_ p<|run c<|Im p f n) (at_ p<|run c (Im p f n)-1)=a9)
 | 0,n,_,h=>⟨h,t6 _,t6 _,λz=>n6 z<|D5 _⟩
 |f+1,n,h1,h=>by
  show Up c p (run c<|if c (at_ p n) (at_ p<|n-1)=a9 then .ret n else Im p f (n+1))/\n<=run c (if c (at_ p n) (at_ p<|n-1)=a9 then .ret n else Im p f (n+1)) /\ run c (if c (at_ p n) (at_ p<|n-1)=a9 then .ret n else Im p f (n+1))<=n+(f+1)/\(run c (if c (at_ p n) (at_ p<|n-1)=a9 then .ret n else Im p f (n+1))<n+(f+1) -> c (at_ p<|run c<|if c (at_ p n) (at_ p<|n-1)=a9 then .ret n else Im p f (n+1)) (at_ p<|run c (if c (at_ p n) (at_ p<|n-1)=a9 then .ret n else Im p f (n+1))-1)=a9)
  by_cases q:c (at_ p n) (at_ p<|n-1)=a9;rw[m9 q];exact⟨h,t6 _,KY _ _,λ_=>q⟩;rw[n5 q];obtain⟨a1,a2,a3,a4⟩:=qC O f (n+1) (by lia) (h.snoc O h1<|by unfold le;simpa using q);exact⟨a1,by lia,by lia,λz=>a4<|by lia⟩
theorem cL:(HF p i j).size=p.size:=mirror_size _ _ _ _
def ya(c:Nat->Nat->Bool)(z n m:Nat)(r:Array Nat×Nat×Nat):Prop:=r.1.size=z/\Dn c r.1 r.2.1/\n<=r.2.1/\r.2.1<=m/\r.2.2+1<=r.2.1/\KI c r.1 (r.2.1-(r.2.2+1)) r.2.1
def mG(c:Nat->Nat->Bool)(z nrem:Nat)(r:Nat×Array Nat):Prop:=r.2.size=z/\Up c r.2 r.1/\1<=r.1/\r.1<=nrem
def qF(c:Nat->Nat->Bool)(p:Array Nat)(k m:Nat):Prop:=m<=k/\(∀i,i<m->le c (at_ p i) (at_ p k))/\∀i,m<=i->i<k->c (at_ p k) (at_ p i)=a9
theorem iA(O:Hv c):∀(f:Nat) (p:Array Nat) (n q:Nat),q+1<=n->n+f<=p.size->Dn c p n->KI c p (n-(q+1)) n ->ya c p.size n (n+f) (run c<|F5 f p n q)
 | 0,p,n,q,h1,h2,hd,he=>⟨rfl,hd,t6 _,t6 _,h1,he⟩
 |f+1,p,n,q,h1,h2,hd,he=>by
  have hn:n<=p.size:=by lia
  show ya c p.size n (n+(f+1)) (run c<|if c (at_ p n) (at_ p<|n-1)=a9 then(if q > 0 then F5 f (HF p (n-(q+1)) n) (n+1) 0 else F5 f p (n+1) 0) else .ask (at_ p<|n-1) (at_ p n) λd=>if d=a9 then .ret (p,n,q)else F5 f p (n+1) (q+1));by_cases hc:c (at_ p n) (at_ p<|n-1)=a9;rw[m9 hc];by_cases hq:q > 0;rw[m9 hq];have hd':Dn c (HF p (n-(q+1)) n) (n+1):=by refine(hd.revEq O hn he).snoc O (by lia) ?_;rw[eV hn,eV hn,n5 (by lia),m9 ⟨by lia,by lia⟩];exact le_trans O (le_of_lt O hc)<|he _ _ (by lia) (by lia) (by lia)<|by lia
  have r:=iA O f (HF p (n-(q+1)) n) (n+1) 0 (by lia) (by rw[cL];lia) hd' (λi j a1 a2 a3 a4=>by
   have:i=n:=by lia
   have:j=n:=by lia
   subst_vars
   exact le_refl O _)
  obtain⟨a1,a2,a3,a4,a5,a6⟩:=r;exact⟨a1.trans cL,a2,by lia,by lia,a5,a6⟩;rw[n5 hq];have r:=iA O f p (n+1) 0 (by lia) (by lia) (hd.snoc O (by lia)<|le_of_lt O hc) (λi j a1 a2 a3 a4=>by
   have:i=n:=by lia
   have:j=n:=by lia
   subst_vars
   exact le_refl O _)
  obtain⟨a1,a2,a3,a4,a5,a6⟩:=r;exact⟨a1,a2,by lia,by lia,a5,a6⟩;rw[n5 hc];show ya c p.size n (n+(f+1)) (run c<|if c (at_ p<|n-1) (at_ p n)=a9 then .ret (p,n,q)else F5 f p (n+1) (q+1));by_cases hc':c (at_ p<|n-1) (at_ p n)=a9;rw[m9 hc'];exact⟨rfl,hd,t6 _,by show n<=_;lia,h1,he⟩;rw[n5 hc'];have l1:le c (at_ p n) (at_ p<|n-1):=by unfold le;simpa using hc'
  have l2:le c (at_ p<|n-1) (at_ p n):=by unfold le;simpa using hc
  have r:=iA O f p (n+1) (q+1) (by lia) (by lia) (hd.snoc O (by lia) l1) (λi j a1 a2 a3 a4=>by by_cases hi:i=n;by_cases hj:j=n;subst hi hj;exact le_refl O _;subst hi;exact le_trans O l1 (he _ _ (by lia) (by lia) (by lia)<|by lia);by_cases hj:j=n;subst hj;exact le_trans O (he _ _ (by lia) (by lia) (by lia)<|by lia) l2;exact he _ _ (by lia) (by lia) (by lia)<|by lia);obtain⟨a1,a2,a3,a4,a5,a6⟩:=r;exact⟨a1,a2,by lia,by lia,a5,a6⟩
theorem mN(O:Hv c)(h1:1<=n)(f:n<=nrem)(hz:nrem<=p.size)(d:Dn c p n):mG c p.size nrem (run c<|kas_tail3 n nrem p):=by unfold kas_tail3;rw[eG];obtain⟨E,a,b,_⟩:=qC O (nrem-n) n h1 (d.rev<|by lia);exact⟨cL,E,F6 h1 a,F6 b<|by lia⟩
theorem ie(O:Hv c)(h1:1<=n)(x:n+1<=nrem)(hz:nrem<=p.size)(m:KI c p 0 n)(k:c (at_ p n) (at_ p<|n-1)=a9):mG c p.size nrem (run c<|KO n nrem p):=by
 have l:Dn c p (n+1):=by refine Dn.snoc O (λi j o L=>m _ _ (by lia) (by lia) (by lia)<|by lia) h1<|le_of_lt O k
 unfold KO;rw[eG];obtain⟨a,g,u,v,w,h⟩:=iA O (nrem-(n+1)) p (n+1) 0 (by lia) (by lia) l (λi j E r s t=>by
  have:i=n:=by lia
  have:j=n:=by lia
  subst_vars
  exact le_refl O _)
 by_cases q:(run c<|F5 (nrem-(n+1)) p (n+1) 0).2.2 > 0;rw[m9 q];obtain⟨d,b,e,f⟩:=mN O (p:=HF (run c<|F5 (nrem-(n+1)) p (n+1) 0).1 ((run c<|F5 (nrem-(n+1)) p (n+1) 0).2.1-((run c<|F5 (nrem-(n+1)) p (n+1) 0).2.2+1)) (run c<|F5 (nrem-(n+1)) p (n+1) 0).2.1) (n:=(run c<|F5 (nrem-(n+1)) p (n+1) 0).2.1) (nrem:=nrem) (by lia) (by lia) (by rw[cL,a];exact hz)<|g.revEq O (by rw[a];lia) h;exact⟨d.trans<|cL.trans a,b,e,f⟩;rw[n5 q];obtain⟨d,b,e,f⟩:=mN O (p:=(run c<|F5 (nrem-(n+1)) p (n+1) 0).1) (n:=(run c<|F5 (nrem-(n+1)) p (n+1) 0).2.1) (nrem:=nrem) (by lia) (by lia) (by rw[a];exact hz) g;exact⟨d.trans a,b,e,f⟩
theorem xK(O:Hv c)(h1:1<=nrem)(hz:nrem<=p.size):mG c p.size nrem (run c<|kas_count nrem p):=by
 unfold kas_count;rw[eG];obtain⟨E,a,o,l⟩:=qC O (nrem-1) 1 (t6 _)<|Up.one O p;generalize run c (Im p (nrem-1) 1)=n at E a o l;by_cases k:(n==nrem)=a9;rw[m9 k];exact⟨rfl,E,a,by show n<=nrem;lia⟩;rw[n5 k];have x:n≠nrem:=by simpa using k
 have t:c (at_ p n) (at_ p<|n-1)=a9:=l (by lia);by_cases h2:n > 1;rw[m9 h2];show mG c p.size nrem (run c<|if c (at_ p 0) (at_ p<|n-1)=a9 then .ret (n,p)else KO n nrem (HF p 0 n));by_cases f:c (at_ p 0) (at_ p<|n-1)=a9;rw[m9 f];exact⟨rfl,E,a,by show n<=nrem;lia⟩;rw[n5 f];have g:n<=p.size:=by lia
 have y:le c (at_ p<|n-1) (at_ p 0):=by unfold le;simpa using f
 have m:KI c p 0 n:=λi j b d u v=>le_trans O (E i (n-1) (by lia)<|by lia)<|le_trans O y<|E 0 j (by lia) v;have e:KI c (HF p 0 n) 0 n:=λi j b d u v=>by rw[eV g,eV g,m9 ⟨b,d⟩,m9 ⟨u,v⟩];exact m _ _ (by lia) (by lia) (by lia)<|by lia
 have h:c (at_ (HF p 0 n) n) (at_ (HF p 0 n)<|n-1)=a9:=by rw[eV g,eV g,n5 (by lia),m9 ⟨by lia,by lia⟩];rcases O.neg _ (at_ p<|0+n-1-(n-1)) _ t with z|z;exact z;have:=m (n-1) (0+n-1-(n-1)) (by lia) (by lia) (by lia) (by lia);unfold le at this;rw[this]at z;cases z
 obtain⟨q,r,s,w⟩:=ie O (p:=HF p 0 n) (n:=n) (nrem:=nrem) (by lia) (by lia) (by rw[cL];exact hz) e h;exact⟨q.trans cL,r,s,w⟩;rw[n5 h2];have:n=1:=by lia
 subst this;exact ie O (by lia) (by lia) hz (λi j b d u v=>by
  have:i=0:=by lia
  have:j=0:=by lia
  subst_vars
  exact le_refl O _) t
theorem iZ(O:Hv c)(hu:Up c p k):∀(f l r:Nat),l<=r->r<=k->r-l<=f->(∀i,i<l->le c (at_ p i) (at_ p k))->(∀i,r<=i->i<k->c (at_ p k) (at_ p i)=a9) ->qF c p k (run c<|I9 p k f l r)
 | 0,l,r,h1,h2,h3,h4,h5=>⟨by show l<=k;lia,h4,λi a1 a2=>h5 i (by have a1':l<=i:=a1;lia) a2⟩
 |f+1,l,r,h1,h2,h3,h4,h5=>by
  show qF c p k (run c<|if l ≥ r then .ret l else .ask (at_ p k) (at_ p<|(l+r) / 2) λc=>if c=a9 then I9 p k f l ((l+r) / 2)else I9 p k f ((l+r) / 2+1) r);by_cases hl:l ≥ r;rw[m9 hl];exact⟨by show l<=k;lia,h4,λi a1 a2=>h5 i (by have a1':l<=i:=a1;lia) a2⟩;rw[n5 hl];show qF c p k (run c<|if c (at_ p k) (at_ p<|(l+r) / 2)=a9 then I9 p k f l ((l+r) / 2)else I9 p k f ((l+r) / 2+1) r);by_cases hc:c (at_ p k) (at_ p<|(l+r) / 2)=a9;rw[m9 hc];refine iZ O hu f l ((l+r) / 2) (by lia) (by lia) (by lia) h4 λi a1 a2=>?_;rcases O.neg _ (at_ p i) _ hc with z|z;exact z;have:=hu ((l+r) / 2) i a1 a2;unfold le at this;rw[this]at z;cases z;rw[n5 hc];have lm:le c (at_ p<|(l+r) / 2) (at_ p k):=by unfold le;simpa using hc
  refine iZ O hu f ((l+r) / 2+1) r (by lia) h2 (by lia) (λi hi=>?_) h5;exact le_trans O (hu i ((l+r) / 2) (by lia)<|by lia) lm
theorem xS(O:Hv c)(f:k<p.size)(g:Up c p k)(l:m<=k)(h1:∀i,i<m->le c (at_ p i) (at_ p k))(h2:∀i,m<=i->i<k->c (at_ p k) (at_ p i)=a9):Up c (bubble p k<|k-m) (k+1):=by
 intro i j d L;have e:k-(k-m)=m:=by lia
 rw[oX f (by lia),oX f (by lia),e];by_cases hi:i=m;rw[m9 hi];by_cases h:j=m;rw[m9 h];exact le_refl O _;rw[n5 h,m9 ⟨by lia,by lia⟩];exact le_of_lt O (h2 _ (by lia)<|by lia);rw[n5 hi];by_cases a:m<i/\i<=k;rw[m9 a,n5 (by lia),m9 ⟨by lia,by lia⟩];exact g _ _ (by lia) (by lia);rw[n5 a];by_cases h:j=m;rw[m9 h];exact h1 i (by lia);rw[n5 h];by_cases b:m<j/\j<=k;rw[m9 b];exact g _ _ (by lia) (by lia);rw[n5 b];exact g _ _ d<|by lia
theorem xU(O:Hv c):∀(f:Nat) (p:Array Nat) (k:Nat),k+f<=p.size->Up c p k->(run c<|kas_bin f p k).size=p.size/\Up c (run c<|kas_bin f p k) (k+f)
 | 0,p,k,_,h=>⟨rfl,h⟩
 |f+1,p,k,hz,h=>by show (run c<|(I9 p k k 0 k).bind λl=>kas_bin f (bubble p k<|k-l)<|k+1).size=p.size/\Up c (run c<|(I9 p k k 0 k).bind λl=>kas_bin f (bubble p k<|k-l)<|k+1) (k+(f+1));rw[eG];obtain⟨a1,a2,a3⟩:=iZ O h k 0 k (v9 _) (t6 _) (by lia) (λi hi=>n6 hi<|Jl _) λi a1 a2=>n6 a2 (by lia);obtain⟨b1,b2⟩:=xU O f (bubble p k<|k-run c (I9 p k k 0 k)) (k+1) (by rw[bubble_size];lia)<|xS O (by lia) h a1 a2 a3;exact⟨b1.trans<|bubble_size _ _ _,by rw[show k+(f+1)=k+1+f by lia];exact b2⟩
theorem Bs(O:Hv c)(h1:1<=n):(run c<|I0 n).size=n/\Up c (run c<|I0 n) n:=by
 have hs:(Ix<|A7 n).size=n:=by simp
 unfold I0;rw[eG];obtain⟨E,a,b,t⟩:=xK O (p:=Ix<|A7 n) h1 (by rw[hs];exact t6 _);rw[hs]at E;generalize run c (kas_count n<|Ix<|A7 n)=r at E a b t;by_cases g:r.1<n;rw[m9 g];obtain⟨d,e⟩:=xU O (n-max r.1 1) r.2 (max r.1 1) (by rw[E];lia) (by rw[show max r.1 1=r.1 by lia];exact a);exact⟨d.trans E,by rw[show n=max r.1 1+(n-max r.1 1) by lia];simpa using e⟩;rw[n5 g];have f:r.1=n:=by lia
 rw[f]at a;exact⟨E,a⟩
def C6(n:Nat)(p:Array Nat):Prop:=p.toList.Perm<|A7 n
theorem C6.lt(h:C6 n p)(a:0<n)(k:Nat):at_ p k<n:=by
 unfold at_;rw[J3];cases e:p[k]? with
 |none=>simpa using a
 |some x =>
  have:x∈p.toList:=by rw[<-E4]at e;exact Hu e
  have:=h.mem_iff.mp this;simpa using this
theorem C6.rev(h:C6 n p):C6 n (HF p i j):=(Array.perm_iff_toList_perm.mp<|mirror_perm p i j<|(j-i) / 2).trans h
theorem C6.bub(h:C6 n p):C6 n (bubble p i j):=(Array.perm_iff_toList_perm.mp<|bubble_perm p i j).trans h
section
variable{n:Nat}(h0:0<n)
theorem xV(h0:0<n)(h:C6 n p):∀(f k:Nat),Bd n (Im p f k)
 | 0,_=>trivial
 |f+1,k=>⟨h.lt h0 _,h.lt h0 _,λb=>by cases b with
  |true=>exact trivial
  |false=>exact xV h0 h f<|k+1⟩
theorem ms(h0:0<n):∀(f:Nat) (p:Array Nat) (k q:Nat),C6 n p->Bd n (F5 f p k q)/\All (λr=>C6 n r.1) (F5 f p k q)
 | 0,p,k,q,h=>⟨trivial,h⟩
 |f+1,p,k,q,h=>by
  have key:∀b,(Bd n<|if b=a9 then(if q > 0 then F5 f (HF p (k-(q+1)) k) (k+1) 0 else F5 f p (k+1) 0) else KasT.ask (p.getD (k-1) 0) (p.getD k 0) λd=>if d=a9 then KasT.ret (p,k,q)else F5 f p (k+1) (q+1))/\All (λr=>C6 n r.1) (if b=a9 then(if q > 0 then F5 f (HF p (k-(q+1)) k) (k+1) 0 else F5 f p (k+1) 0) else KasT.ask (p.getD (k-1) 0) (p.getD k 0) λd=>if d=a9 then KasT.ret (p,k,q)else F5 f p (k+1) (q+1)):=λb=>by
   cases b with
   |true=>rw[m9 rfl];by_cases hq:q > 0;rw[m9 hq];exact ms h0 f _ _ _ h.rev;rw[n5 hq];exact ms h0 f _ _ _ h
   |false =>
    rw[n5<|by simp];have a:=ms h0 f p (k+1) (q+1) h;refine⟨⟨h.lt h0 _,h.lt h0 _,λb=>?_⟩,λb=>?_⟩;cases b with
    |true=>exact trivial
    |false=>exact a.1
    cases b with
    |true=>exact h
    |false=>exact a.2
  exact⟨⟨h.lt h0 _,h.lt h0 _,λb=>(key b).1⟩,λb=>(key b).2⟩
theorem ir(c:0<n)(h:C6 n p):Bd n (kas_tail3 k m p)/\All (λr=>C6 n r.2) (kas_tail3 k m p):=by
 have v:∀{t:KasT Nat}{Q:Prop},Q->All (λ_=>Q) t:=λ{t Q} q=>by
  induction t with
  |ret a=>exact q
  |ask i j k d=>exact λb=>d b
 unfold kas_tail3;exact⟨Bd.bindA _ (xV c h.rev _ _)<|v trivial,All.bind _<|v h.rev⟩
theorem cX(a:0<n)(h:C6 n p):Bd n (KO k m p)/\All (λr=>C6 n r.2) (KO k m p):=by unfold KO;obtain⟨b,c⟩:=ms a (m-(k+1)) p (k+1) 0 h;refine⟨Bd.bindA _ b<|c.mono<|λr i=>?_,All.bind _<|c.mono<|λr i=>?_⟩;by_cases q:r.2.2 > 0;rw[m9 q];exact(ir a i.rev).1;rw[n5 q];exact(ir a i).1;by_cases q:r.2.2 > 0;rw[m9 q];exact(ir a i.rev).2;rw[n5 q];exact(ir a i).2
theorem Ao(c:0<n)(h:C6 n p):Bd n (kas_count m p)/\All (λr=>C6 n r.2) (kas_count m p):=by
 have v:∀{t:KasT Nat}{Q:Nat->Prop},(∀a,Q a)->All Q t:=λ{t Q} q=>by
  induction t with
  |ret a=>exact q a
  |ask i j k d=>exact λb=>d b
 unfold kas_count;refine⟨Bd.bindA _ (xV c h _ _)<|v λk=>?_,All.bind _<|v λk=>?_⟩;by_cases h1:(k==m)=a9;rw[m9 h1];exact trivial;rw[n5 h1];by_cases h2:k > 1;rw[m9 h2];refine⟨h.lt c _,h.lt c _,λb=>?_⟩;cases b with
 |true=>exact trivial
 |false=>exact(cX c h.rev).1
 rw[n5 h2];exact(cX c h).1;by_cases h1:(k==m)=a9;rw[m9 h1];exact h;rw[n5 h1];by_cases h2:k > 1;rw[m9 h2];intro b;cases b with
 |true=>exact h
 |false=>exact(cX c h.rev).2
 rw[n5 h2];exact(cX c h).2
theorem lN(h0:0<n)(h:C6 n p):∀(f l r:Nat),Bd n (I9 p k f l r)
 | 0,_,_=>trivial
 |f+1,l,r=>by
  show Bd n (if l ≥ r then KasT.ret l else KasT.ask (p.getD k 0) (p.getD ((l+r) / 2) 0) λc=>if c=a9 then I9 p k f l ((l+r) / 2)else I9 p k f ((l+r) / 2+1) r);by_cases hl:l ≥ r;rw[m9 hl];exact trivial;rw[n5 hl];refine⟨h.lt h0 _,h.lt h0 _,λb=>?_⟩;cases b with
  |true=>exact lN h0 h f _ _
  |false=>exact lN h0 h f _ _
theorem sG(h0:0<n):∀(f:Nat) (p:Array Nat) (k:Nat),C6 n p->Bd n (kas_bin f p k)/\All (λr=>C6 n r) (kas_bin f p k)
 | 0,p,k,h=>⟨trivial,h⟩
 |f+1,p,k,h=>by
  have triv:∀{t:KasT Nat}{Q:Nat->Prop},(∀a,Q a)->All Q t:=λ{t Q} q=>by
   induction t with
   |ret a=>exact q a
   |ask i j k ih=>exact λb=>ih b
  exact⟨Bd.bindA _ (lN h0 h _ _ _)<|triv λl=>(sG h0 f _ _ h.bub).1,All.bind _<|triv λl=>(sG h0 f _ _ h.bub).2⟩
theorem sort_bd(a:0<n):Bd n (I0 n)/\All (λr=>C6 n r) (I0 n):=by
 have h:C6 n (Ix<|A7 n):=by unfold C6;simp
 obtain⟨b,c⟩:=Ao a (m:=n) h;unfold I0;refine⟨Bd.bindA _ b<|c.mono λr i=>?_,All.bind _<|c.mono λr i=>?_⟩;by_cases g:r.1<n;rw[m9 g];exact(sG a _ _ _ i).1;rw[n5 g];exact trivial;by_cases g:r.1<n;rw[m9 g];exact(sG a _ _ _ i).2;rw[n5 g];exact i
end
theorem sort_list{α:Type}[Inhabited α]{lt:α->α->Bool}(xs:List α)(h1:1<=xs.length)(r:∀a∈xs,lt a a=c5)(v:∀a∈xs,∀b∈xs,∀d∈xs,lt a b=a9->lt b d=a9->lt a d=a9)(n:∀a∈xs,∀b∈xs,∀d∈xs,lt a d=a9->lt a b=a9\/lt b d=a9):let c:=λi j=>if i<xs.length then(if j<xs.length then lt (xs.getD i default) (xs.getD j default)else a9)else c5
  let p:=run c<|I0 xs.length
  let ys:=p.toList.map λi=>xs.getD i default
  ys.Perm xs/\ys.Pairwise λa b=>lt b a=c5:=by
 intro c p ys;have m:∀i,i<xs.length->xs.getD i default∈xs:=λi hi=>by rw[HM,u9 hi];exact IR hi
 have O:Hv c:=by refine⟨λa=>?_,λa b d=>?_,λa b d=>?_⟩;show (if a<xs.length then(if a<xs.length then lt _ _ else a9)else c5)=c5;by_cases f:a<xs.length;rw[m9 f,m9 f];exact r _<|m a f;rw[n5 f];show (if a<xs.length then(if b<xs.length then lt _ _ else a9)else c5)=a9->(if b<xs.length then(if d<xs.length then lt _ _ else a9)else c5)=a9->(if a<xs.length then(if d<xs.length then lt _ _ else a9)else c5)=a9;by_cases f:a<xs.length;by_cases h:b<xs.length;by_cases g:d<xs.length;rw[m9 f,m9 h,m9 h,m9 g,m9 f,m9 g];exact v _ (m a f) _ (m b h) _<|m d g;intro _ _;rw[m9 f,n5 g];rw[n5<|show ¬b<xs.length from h];intro _ z;rw[n5 h]at z;cases z;intro z;rw[n5 f]at z;cases z;show (if a<xs.length then(if d<xs.length then lt _ _ else a9)else c5)=a9->(if a<xs.length then(if b<xs.length then lt _ _ else a9)else c5)=a9\/(if b<xs.length then(if d<xs.length then lt _ _ else a9)else c5)=a9;by_cases f:a<xs.length;by_cases h:b<xs.length;by_cases g:d<xs.length;rw[m9 f,m9 g,m9 f,m9 h,m9 h,m9 g];exact n _ (m a f) _ (m b h) _<|m d g;intro _;right;rw[m9 h,n5 g];intro _;left;rw[m9 f,n5 h];intro z;rw[n5 f]at z;cases z
 have E:C6 xs.length p:=All.run _ (sort_bd<|by lia).2;obtain⟨hs,U⟩:=Bs O h1;refine⟨?_,?_⟩;have e:(A7 xs.length).map (λi=>xs.getD i default)=xs:=by apply Mf;intro i;rw[C2];by_cases hi:i<xs.length;rw[List.getElem?_range hi];simp[HM,u9 hi];rw[J0 (by simpa using hi),J0<|by simpa using hi];rfl
 have:=E.map λi=>xs.getD i default;rw[e]at this;exact this;show (p.toList.map λi=>xs.getD i default).Pairwise λa b=>lt b a=c5;rw[List.pairwise_iff_getElem];intro i j hi L t;rw[t7,C3]at hi L;have u:p.size=xs.length:=hs;have l:=U i j (by lia) (by lia);have o:∀k,at_ p k<xs.length:=λk=>E.lt (by lia) k;unfold le at l;have l':(if at_ p j<xs.length then(if at_ p i<xs.length then lt (xs.getD (at_ p j) default) (xs.getD (at_ p i) default)else a9)else c5)=c5:=l;rw[m9<|o j,m9<|o i]at l';have q:p.toList[i]=at_ p i:=by unfold at_;simp[Iw,hi]
 have s:p.toList[j]=at_ p j:=by unfold at_;simp[Iw,L]
 rw[Ks,Ks,q,s];exact l'
end
end Srt
namespace L2
open PySem PySem.Spec PyProof.Rows DL
def ut(A:e9)(s:f6)(x y:c6)(k:Bool):Prop:=∀(g:c9) (w:c8) (E:c6->f6->Prop) (Q:c6->f6->Prop),Q (.bool k) s->f9 (g7 g w) A (richCompare .Lt x y) Q E s
inductive LexAt(A:e9)(s:f6):List c6->List c6->Bool->Prop
 |nn:LexAt A s [] [] c5
 |nc {y:c6}{ys:List c6}:LexAt A s [] (y::ys) a9
 |cn {x:c6}{xs:List c6}:LexAt A s (x::xs) [] c5
 |eq {x y:c6}{xs ys:List c6}{k:Bool} (h:Io A s x y a9) (t:LexAt A s xs ys k):LexAt A s (x::xs) (y::ys) k
 |ne {x y:c6}{xs ys:List c6}{k:Bool} (h:Io A s x y c5) (t:ut A s x y k):LexAt A s (x::xs) (y::ys) k
section
open PySem.SeqAt
open PySem.AutoSeq1 (wpAny_loadPart')
open PySem.MeetsSeq PySem.MeetsSeq2 PySem.MeetsSeq3
theorem mM(l b:d5)(a i:Array c6)(n D:Nat)(v f:Option d5)(E o:Array (Option c6))(k:Bool):Meets (Builtin.«tuple.__lt__» ⟨[.ref l,.ref b],[]⟩)
   (λA R s=>s.heap.get? l=a7 (⟨.type "tuple",v,.seq a n,E⟩:d6)/\s.heap.get? b=a7 { cls:=.type "tuple",dict:=f,data:=.seq i D,slots:=o } /\ LexAt A.in1 s a.toList i.toList k/\R (.ok<|.ret<|.bool k) s) :=
 .of_wp λp w A R s h=>by
  obtain⟨q,g,d,u,r⟩:=s;obtain⟨B,z,c,h⟩:=h;have N:=AutoSeq1.sub_tuple_tuple
  wp_walk using Iu B,Iu z,IP _ (λaE b s'=>b.1=a8/\s'=⟨q,g,d,u,r⟩/\∃(vs e:List c6),aE=vs.zip e /\ LexAt A.in1 ⟨q,g,d,u,r⟩ vs e k/\vs.length+i.size=e.length+a.size) _
  case turn =>
   rintro⟨y,x⟩ aE b s' ⟨hb',rfl,vs,e,hz,hlex,hlen⟩;cases hlex with
   |nn=>cases hz
   |nc=>cases hz
   |cn=>cases hz
   |eq j t =>
    rw[Kv]at hz;injection hz with hyx hrest;injection hyx with hy c;subst hy c;refine o8<|j p w _ _ ?_
    wp_walk
    exact⟨rfl,rfl,_,_,hrest,t,by simp only[A0]at hlen;lia⟩
   |ne j t =>
    rw[Kv]at hz;injection hz with hyx hrest;injection hyx with hy c;subst hy c;refine o8<|j p w _ _ ?_;have m:=t p w
    wp_walk using m
    exact⟨_,rfl,by simpa using h⟩
  case fin =>
   rintro⟨b1,b2⟩ s' ⟨hb',rfl,vs,e,hz,hlex,hlen⟩;simp only at hb';subst hb';have C:k=decide (a.size<i.size):=by
    cases hlex with
    |nn=>simp only[G4]at hlen;exact(dF_<|by lia).symm
    |nc=>simp only[G4,A0]at hlen;exact(dT_<|by lia).symm
    |cn=>simp only[G4,A0]at hlen;exact(dF_<|by lia).symm
    |eq _ _=>rw[Kv]at hz;cases hz
    |ne _ _=>rw[Kv]at hz;cases hz
   rw[C]at h
   wp_walk
   exact⟨_,rfl,by simpa [Builtin.Tuple.tupleCompareSizes]using h⟩
  case h =>
   exact⟨rfl,rfl,a.toList,i.toList,rfl,c,by simp;lia⟩
end
theorem ut.tuples(u:s.heap.IsTuple l items)(r:s.heap.IsTuple b items2)(v:A.units<j5)(y:LexAt A.in1 s items.toList items2.toList k):ut A s (.ref l) (.ref b) k:=λp w E Q h=>by obtain⟨⟨t,q,g,B⟩,D,m,n,o⟩:=id u;obtain⟨⟨j,e,i,f⟩,d,a,z,c⟩:=id r;simp only at m o a c;subst m o a c;exact richCompare_meets_room (op:=.Lt) ⟨_,D,rfl⟩ ⟨_,d,rfl⟩ PySem.F.slot_tuple_lt PySem.F.entry_tuple_lt (PySem.F.args_tuple_lt_2 _ _) (mM l b items items2 n z q e B f k) ⟨D,d,y,show Value.bool k≠Value.notImplemented/\Q (.bool k) s from⟨(λx=>nomatch x),h⟩⟩ v
noncomputable def pY(f g:D->D->Bool):List D->List D->Bool
 | [],[]=>c5
 | [],_::_=>a9
 |_::_,[]=>c5
 |x::xs,y::ys=>if f x y=a9 then pY f g xs ys else g x y
noncomputable def z7(M:p8):Nat->D->D->Bool
 |_,.int a,.int b=>decide<|a<b
 |_,.str a,.str b=>pF a b
 |n+1,.tup xs,.tup ys=>pY (r9 M n) (z7 M n) xs ys
 |_,_,_=>c5
noncomputable def xL(f g:D->D->Bool):List D->List D->Bool
 |x::xs,y::ys=>if f x y=a9 then xL f g xs ys else g x y
 |_,_=>a9
noncomputable def dE(M:p8):Nat->D->D->Bool
 |_,.int _,.int _=>a9
 |_,.str _,.str _=>a9
 |n+1,.tup xs,.tup ys=>xL (r9 M n) (dE M n) xs ys
 |_,_,_=>c5
theorem ut.ints(A:e9)(s:f6)(a:Int)(t:Tok)(c:Int)(u:Tok):ut A s (.int a t) (.int c u) (decide<|a<c):=λg w E Q h=>HT.rcLt_int A s a t c u g w E Q h
theorem ut.texts(A:e9)(s:f6)(a:c7)(t:Tok)(c:c7)(u:Tok):ut A s (.str a t) (.str c u) (pF a c):=λg w E Q h =>
 (PySem.P.lt_str (show Q (.bool<|decide<|a.cps.toList<c.cps.toList) s from h):f9 (g7 g w) A (j3 .Lt (.str a t)<|.str c u) Q E s)
theorem wE(I:p0 X pins σ H s)(Z:t5 X.K ρ M H):∀(n:Nat) (A:e9) (x y:D) (vx vy:V) (u v:c6),A.units+n<j5->p9 X.K ρ H x vx->aG vx u->p9 X.K ρ H y vy->aG vy v->t4 M n x=a9->t4 M n y=a9->dE M n x y=a9 ->ut A s u v (z7 M n x y):=by
 intro n;induction n with
 |zero =>
  intro A x y vx vy u v T L c i f o1 o2 m;cases L with
  |int a =>
   cases i with
   |int b=>obtain⟨t,rfl⟩:=c;obtain⟨t',rfl⟩:=f;exact ut.ints A s a t b t'
   |_=>simp[dE]at m
  |str a =>
   cases i with
   |str b=>obtain⟨t,rfl⟩:=c;obtain⟨t',rfl⟩:=f;exact ut.texts A s a t b t'
   |_=>simp[dE]at m
  |_=>simp[dE]at m
 |succ n U =>
  intro A x y vx vy u v T L c i f o1 o2 m;have F:A.units<j5:=by lia
  have k:A.in1.units+n<j5:=by show A.units+1+n<j5;lia
  have G:∀(ds es:List D) (vs E:List V) (its j:List c6),Reps X.K ρ H ds vs->ao vs its->Reps X.K ρ H es E->ao E j->ds.all (t4 M n)=a9->es.all (t4 M n)=a9->xL (r9 M n) (dE M n) ds es=a9 -> LexAt A.in1 s its j (pY (r9 M n) (z7 M n) ds es):=by
   intro ds;induction ds with
   |nil =>
    intro es vs E its j p w o q _ _ _;cases p;cases w;cases o with
    |nil=>cases q;exact .nn
    |cons _ _=>cases q;exact .nc
   |cons d ds hi =>
    intro es vs E its j p w o q B C l;cases p with
    |cons N p =>
     cases w with
     |cons Q w =>
      cases o with
      |nil=>cases q;exact .cn
      |@cons e _ S _ P o =>
       cases q with
       |cons R q=>rw[Ie,C5]at B C;have z:=(ic I Z n A.in1 d _ _ _ _ _ k N Q P R B.1 C.1).1;rw[pY];rw[xL]at l;by_cases g:r9 M n d e=a9;rw[g]at z;rw[m9 g]at l ⊢;exact .eq z<|hi _ _ _ _ _ p w o q B.2 C.2 l;have h:=JA.mpr g;rw[h]at z;rw[n5 g]at l ⊢;exact .ne z<|U A.in1 _ _ _ _ _ _ k N Q P R B.1 C.1 l
  cases L with
  |int a =>
   cases i with
   |int b=>obtain⟨t,rfl⟩:=c;obtain⟨t',rfl⟩:=f;exact ut.ints A s a t b t'
   |_=>simp[dE]at m
  |str a =>
   cases i with
   |str b=>obtain⟨t,rfl⟩:=c;obtain⟨t',rfl⟩:=f;exact ut.texts A s a t b t'
   |_=>simp[dE]at m
  |tup g r =>
   cases i with
   |tup h r'=>cases c;cases f;obtain⟨its,Y,W,_⟩:=I.tuple g;obtain⟨j,O,J,_⟩:=I.tuple h;refine ut.tuples W J F ?_;exact G _ _ _ _ _ _ r Y r' O (by simpa [t4]using o1) (by simpa [t4]using o2) m
   |_=>simp[dE]at m
  |_=>simp[dE]at m
def EI:D0:=λx y M Q=>match x,y with
 |.tup xs,.tup ys=>(t4 M p7 (.tup xs)=a9/\t4 M p7 (.tup ys)=a9/\dE M p7 (.tup xs) (.tup ys)=a9)/\Q (.bl<|z7 M p7 (.tup xs)<|.tup ys) M
 |_,_=>JF x y M Q
theorem Fx(h:Room k X.A):E1 X (j3 .Lt) EI:=by rintro p s σ H b l v u R I g i ⟨x,y,M,ρ,Q,m,r,a,q,k⟩;unfold EI at q;split at q;obtain⟨⟨o1,o2,o⟩,q⟩:=q;exact wE I m p7 X.A _ _ b l v u (lz h) r g a i o1 o2 o _ _ _ _<|dW I m k q;exact Fy p s σ H b l v u R I g i ⟨x,y,M,ρ,Q,m,r,a,q,k⟩
noncomputable def z5:Nat->D->Bool
 |_,.int _=>a9
 |_,.str _=>a9
 |n+1,.tup xs=>xs.all<|z5 n
 |_,_=>c5
noncomputable def uh(f:D->List Int):List D->List Int
 | []=>[0]
 |x::xs=>1::(f x++uh f xs)
noncomputable def enc:Nat->D->List Int
 |_,.int i=>[0,i]
 |_,.str x=>1::(x.cps.toList.map (λ(c:Nat)=>(c:Int)+1)++[0])
 |n+1,.tup xs=>2::uh (enc n) xs
 |_,_=>[3]
def bg(x y:List Int):Prop:=∀a b,x++a<y++b
theorem bg.cons(i:Int)(h:bg x y):bg (i::x) (i::y):=λa b=>Je.mpr<|.inr ⟨rfl,h a b⟩
theorem bg.head(x y:List Int)(h:i<j):bg (i::x) (j::y):=λa b=>Je.mpr<|.inl h
theorem bg.lt(h:bg x y):x<y:=by have:=h [] [];simpa using this
theorem bg.pre(z:List Int)(h:bg x y):bg (z++x) (z++y):=by
 induction z with
 |nil=>exact h
 |cons i z a=>exact a.cons i
theorem bg.more(u v:List Int)(h:bg x y):bg (x++u) (y++v):=λa b=>by rw[Hs,Hs];exact h _ _
def MR(x y:D)(n:Nat)(l:Bool)(r:Bool):Prop:=(x=y/\l=c5/\r=c5)\/(x≠y/\l=a9/\r=c5/\bg (enc n x) (enc n y))\/(x≠y/\l=c5/\r=a9/\bg (enc n y) (enc n x))
theorem oM:∀(x y:List Nat),(x=y)\/(x<y/\¬y<x/\bg (x.map (λ(c:Nat)=>(c:Int)+1)++[0]) (y.map (λ(c:Nat)=>(c:Int)+1)++[0]))\/(¬x<y/\y<x/\bg (y.map (λ(c:Nat)=>(c:Int)+1)++[0]) (x.map (λ(c:Nat)=>(c:Int)+1)++[0]))
 | [],[]=>.inl rfl
 | [],c::y=>.inr<|.inl ⟨List.nil_lt_cons _ _,List.not_lt_nil _,bg.head _ _<|by dsimp only;lia⟩
 |c::x,[]=>.inr<|.inr ⟨List.not_lt_nil _,List.nil_lt_cons _ _,bg.head _ _<|by dsimp only;lia⟩
 |c::x,e::y=>by
  rcases Lw c e with h|h|h;refine .inr<|.inl ⟨Je.mpr<|.inl h,λz=>?_,bg.head _ _<|by dsimp only;lia⟩;rcases Je.mp z with z|⟨z,_⟩<;>lia
  subst h;rcases oM x y with q|⟨q1,q2,q3⟩|⟨q1,q2,q3⟩
  exact .inl (by rw[q]);refine .inr<|.inl ⟨Je.mpr<|.inr ⟨rfl,q1⟩,λz=>?_,q3.cons _⟩;rcases Je.mp z with z|⟨_,z⟩
  lia;exact q2 z;refine .inr<|.inr ⟨λz=>?_,Je.mpr<|.inr ⟨rfl,q2⟩,q3.cons _⟩;rcases Je.mp z with z|⟨_,z⟩
  lia;exact q1 z;refine .inr<|.inr ⟨λz=>?_,Je.mpr<|.inl h,bg.head _ _<|by dsimp only;lia⟩;rcases Je.mp z with z|⟨z,_⟩<;>lia
theorem GF(M:p8):∀(n:Nat) (x y:D),z5 n x=a9->z5 n y=a9->(r9 M n x y=a9↔x=y):=by
 have l:∀(n:Nat),(∀(x y:D),z5 n x=a9->z5 n y=a9->(r9 M n x y=a9↔x=y))->∀(xs ys:List D),xs.all (z5 n)=a9->ys.all (z5 n)=a9->(A6 (r9 M n) xs ys=a9↔xs=ys):=by
  intro n i xs;induction xs with
  |nil=>intro ys _ _;cases ys<;>simp[A6]
  |cons x xs hi =>
   intro ys h1 h2;cases ys with
   |nil=>simp[A6]
   |cons y ys=>rw[Ie,C5]at h1 h2;rw[A6,C5,i x y h1.1 h2.1,hi ys h1.2 h2.2,KU]
 intro n;induction n with
 |zero=>intro x y h1 h2;cases x<;>simp[z5]at h1<;>cases y<;>simp[z5]at h2<;>simp[r9]
 |succ n i =>
  intro x y h1 h2;cases x with
  |int a=>cases y<;>simp[z5]at h2<;>simp[r9]
  |str a=>cases y<;>simp[z5]at h2<;>simp[r9]
  |tup xs =>
   cases y with
   |tup ys=>simp only[r9,D.tup.injEq];exact l n i xs ys (by simpa [z5]using h1)<|by simpa [z5]using h2
   |int a=>simp[r9]
   |str a=>simp[r9]
   |_=>simp[z5]at h2
  |_=>simp[z5]at h1
theorem wu(M:p8):∀(n:Nat) (x:D),z5 n x=a9->t4 M n x=a9:=by
 intro n;induction n with
 |zero=>intro x h;cases x<;>simp[z5]at h<;>rfl
 |succ n i =>
  intro x h;cases x with
  |int a=>rfl
  |str a=>rfl
  |tup xs=>simp only[t4];rw[D9];intro y Q;exact i y<|D9.mp (show xs.all (z5 n)=a9 from h) y Q
  |_=>simp[z5]at h
theorem yt(M:p8):∀(n:Nat) (x y:D),z5 n x=a9->z5 n y=a9->dE M n x y=a9->MR x y n (z7 M n x y) (z7 M n y x):=by
 have base:∀(n:Nat) (a b:Int),MR (.int a) (.int b) n (decide<|a<b) (decide<|b<a):=λn a b=>by
  have e:∀a,enc n (.int a)=[0,a]:=λa=>by cases n<;>rfl
  rcases Int.lt_trichotomy a b with h|h|h;exact .inr<|.inl ⟨by simp;lia,dT_ h,dF_ (by lia),by rw[e,e];exact(bg.head [] [] h).cons 0⟩;subst h;exact .inl ⟨rfl,dF_ (by lia),dF_<|by lia⟩;exact .inr<|.inr ⟨by simp;lia,dF_ (by lia),dT_ h,by rw[e,e];exact(bg.head [] [] h).cons 0⟩
 have s:∀(n:Nat) (a b:c7),MR (.str a) (.str b) n (pF a b) (pF b a):=λn a b=>by
  have e:∀a:c7,enc n (.str a)=1::(a.cps.toList.map (λ(c:Nat)=>(c:Int)+1)++[0]):=λa=>by cases n<;>rfl
  unfold pF;rcases oM a.cps.toList b.cps.toList with h|⟨h1,h2,d⟩|⟨h1,h2,d⟩
  have:a=b:=Br h;subst this;exact .inl ⟨rfl,dF_<|E7 _,dF_<|E7 _⟩;exact .inr<|.inl ⟨λz=>by cases z;exact h2 h1,dT_ h1,dF_ h2,by rw[e,e];exact d.cons 1⟩;exact .inr<|.inr ⟨λz=>by cases z;exact h1 h2,dF_ h1,dT_ h2,by rw[e,e];exact d.cons 1⟩
 intro n;induction n with
 |zero=>intro x y h1 h2 d;cases x<;>simp[z5]at h1<;>cases y<;>simp[z5]at h2<;>first|exact base 0 _ _|exact s 0 _ _|simp[dE]at d
 |succ n m =>
  intro x y h1 h2 d;have l:∀(xs ys:List D),xs.all (z5 n)=a9->ys.all (z5 n)=a9->xL (r9 M n) (dE M n) xs ys=a9 -> (xs=ys/\pY (r9 M n) (z7 M n) xs ys=c5/\pY (r9 M n) (z7 M n) ys xs=c5) \/ (xs≠ys/\pY (r9 M n) (z7 M n) xs ys=a9/\pY (r9 M n) (z7 M n) ys xs=c5/\bg (uh (enc n) xs) (uh (enc n) ys)) \/ (xs≠ys/\pY (r9 M n) (z7 M n) xs ys=c5/\pY (r9 M n) (z7 M n) ys xs=a9/\bg (uh (enc n) ys) (uh (enc n) xs)):=by
   intro xs;induction xs with
   |nil =>
    intro ys _ _ _;cases ys with
    |nil=>exact .inl ⟨rfl,rfl,rfl⟩
    |cons y ys=>exact .inr<|.inl ⟨by simp,rfl,rfl,bg.head _ _<|by decide⟩
   |cons x xs hi =>
    intro ys h1 h2 d;cases ys with
    |nil=>exact .inr<|.inr ⟨by simp,rfl,rfl,bg.head _ _<|by decide⟩
    |cons y ys =>
     rw[Ie,C5]at h1 h2;rw[xL]at d;have i:=GF M n x y h1.1 h2.1;have j:=GF M n y x h2.1 h1.1;rw[pY,pY];by_cases q:x=y;subst q;rw[m9<|i.mpr rfl]at d;rw[m9<|i.mpr rfl,m9<|i.mpr rfl];rcases hi ys h1.2 h2.2 d with⟨E,f,g⟩|⟨E,f,g,t⟩|⟨E,f,g,t⟩
     exact .inl ⟨by rw[E],f,g⟩;exact .inr<|.inl ⟨λz=>E (L0 z).2,f,g,(t.pre<|enc n x).cons 1⟩;exact .inr<|.inr ⟨λz=>E (L0 z).2,f,g,(t.pre<|enc n x).cons 1⟩;have k:¬r9 M n x y=a9:=λz=>q<|i.mp z;have o:¬r9 M n y x=a9:=λz=>q (j.mp z).symm;rw[n5 k]at d;rw[n5 k,n5 o];rcases m x y h1.1 h2.1 d with⟨E,_⟩|⟨E,f,g,t⟩|⟨E,f,g,t⟩
     exact n6 E q;exact .inr<|.inl ⟨λz=>q (L0 z).1,f,g,(t.more _ _).cons 1⟩;exact .inr<|.inr ⟨λz=>q (L0 z).1,f,g,(t.more _ _).cons 1⟩
  cases x with
  |int a=>cases y<;>simp[z5]at h2<;>first|exact base (n+1) _ _|simp[dE]at d
  |str a=>cases y<;>simp[z5]at h2<;>first|exact s (n+1) _ _|simp[dE]at d
  |tup xs =>
   cases y with
   |tup ys =>
    rcases l xs ys (by simpa [z5]using h1) (by simpa [z5]using h2) d with⟨E,f,g⟩|⟨E,f,g,t⟩|⟨E,f,g,t⟩
    exact .inl ⟨by rw[E],f,g⟩;exact .inr<|.inl ⟨λz=>E<|D.tup.inj z,f,g,t.cons 2⟩;exact .inr<|.inr ⟨λz=>E<|D.tup.inj z,f,g,t.cons 2⟩
   |_=>simp[dE]at d
  |_=>simp[z5]at h1
theorem jq(h1:z5 n x=a9)(h2:z5 n y=a9)(h:dE M n x y=a9):z7 M n x y=decide (enc n x<enc n y):=by
 rcases yt M n x y h1 h2 h with⟨E,a,b⟩|⟨E,a,b,t⟩|⟨E,a,b,t⟩
 subst E;rw[a,dF_<|E7 _];rw[a,dT_ t.lt];rw[a,dF_<|λz=>E7 _<|Kk z t.lt]
theorem Dl(h1:z5 n x=a9)(h2:z5 n y=a9)(a:dE M n x y=a9)(e:enc n x=enc n y):x=y:=by
 rcases yt M n x y h1 h2 a with⟨E,_⟩|⟨_,_,_,t⟩|⟨_,_,_,t⟩
 exact E;have:=t.lt;rw[e]at this;exact n6 this<|E7 _;have:=t.lt;rw[e]at this;exact n6 this<|E7 _
end L2
namespace L2
open PySem PySem.Spec PyProof.Rows DL PySem.W
theorem p0.laidF(I:p0 X pins σ H s)(k:∀b u,b≠X.env.locals->s.heap.get? b=a7 u->h'.get? b=a7 u)(p:s.heap.Ns X.env.locals m)(h:h'.Ns X.env.locals m)(t:s.heap.get? a=a8) (f:H a=a8) (j:bD X.prog X.w (t8 H a o) h' a o):p0 X pins σ (t8 H a o) { s with heap:=h',toks:=t' }:=by
 have i:∀b u,s.heap.get? b=a7 u->b≠a:=λb u e z=>by subst z;rw[t]at e;cases e
 refine I.step (g':=s.gens) (d':=s.drawn) (ch:=[]) (λ_ z=>nomatch z) (λb u L _ _ e _=>k b u L e) (λb u L _ _ e _=>⟨u.slots,k b u L e⟩) (λb u _ e n=>by rw[af<|i b u e];exact n) (λb u _ e=>?_) (λb xs q=>by rw[af<|ac q f];exact q) (λb u xs q=>by rw[af<|ac q f];exact q) (λb ps q=>⟨#[],by rw[af<|ac q f,q];simp⟩) (λy l=>?_) (λb w q=>?_) I.bare;by_cases d:b=X.env.locals;subst d;obtain⟨o',_,_,D,_⟩:=h;exact⟨o',D⟩;exact⟨u,k b u d e⟩;have:m=y:=funext λx=>p.agree l x;subst this;exact h;by_cases d:b=a;subst d;rw[aB]at q;cases q;exact j;rw[af d]at q;refine(I.hok b w q).stay (λc v g r=>k c v ?_ r) (λc z=>by rw[af<|ac z f];exact z) λc xs z=>by rw[af<|ac z f];exact z
 rcases g with rfl|g;exact ac q I.free;exact ac g I.free
theorem p0.keptF(I:p0 X pins σ H s)(k:∀b u,b≠X.env.locals->s.heap.get? b=a7 u->h'.get? b=a7 u)(i:s.heap.Ns X.env.locals m)(a:h'.Ns X.env.locals m):p0 X pins σ H { s with heap:=h',toks:=t' }:=by refine I.step (g':=s.gens) (d':=s.drawn) (ch:=[]) (λ_ z=>nomatch z) (λb u h _ _ e _=>k b u h e) (λb u h _ _ e _=>⟨u.slots,k b u h e⟩) (λb u _ e n=>n) (λb u _ e=>?_) (λb xs q=>q) (λb u xs q=>q) (λb ps q=>⟨#[],by rw[q];simp⟩) (λj g=>?_) (λb w q=>?_) I.bare;by_cases d:b=X.env.locals;subst d;obtain⟨o',_,_,D,_⟩:=a;exact⟨o',D⟩;exact⟨u,k b u d e⟩;have:m=j:=funext λx=>i.agree g x;subst this;exact a;refine(I.hok b w q).stay (λc v f r=>k c v ?_ r) (λc z=>z) λc xs z=>z;rcases f with rfl|f;exact ac q I.free;exact ac f I.free
theorem gW{prog:c9}{w:c8}{A:e9}{E:c6->f6->Prop}{s:f6}{l:d5}{vs:List c6}{Q:c6->f6->Prop}(u:s.heap.IsList l vs.toArray)(h2:vs.length<2)(h:∀D h' n,s.heap.objs.size<=D->(∀b o,s.heap.get? b=a7 o->h'.get? b=a7 o)->h'.get? D=a7 { cls:=.type "list",data:=.seq vs.toArray n }->Q (.ref D) { s with heap:=h' }):f9 (g7 prog w) A (call (.builtin "sorted")<|[ABG l]) Q E s:=by
 have f:vs.length<=sizeLine:=by rw[Ip];lia
 refine Calls.call_function_entry kind_sorted plain_sorted entry_sorted (args_sorted1<|.ref l) ?_;unfold Builtin.«sorted»;refine o8 (m:=checkCount "sorted" 1 1 _)<|p4<|o8<|collect_list u (o8<|Kj ?_ f) f;generalize S:((s.heap.push<|l8 "list" #[] 0).update s.heap.objs.size (D8 (· ++ vs.toArray)))=g1;have z:g1.objs.size=s.heap.objs.size+1:=by rw[<-S,Heap.size_update,size_push']
 have x:∀b o,s.heap.get? b=a7 o->g1.get? b=a7 o:=λb o q=>by have d:=u7 q;rw[<-S,Kx _ _ _ _<|v7 d,Heap.get?_push_ne _ _ _<|v7 d];exact q
 show f9 _ _ _ _ _ { s with heap:=g1.push (l8 "list" vs.toArray 0) };have L:(g1.push<|l8 "list" vs.toArray 0).get? g1.objs.size=a7 (l8 "list" vs.toArray 0):=v8 _ rfl;refine o8<|C9<|E8 slot_list_sort (⟨_,L,rfl⟩) entry_list_sort ?body<|args_list_sort<|.ref _
 case body =>
  rw[list_sort_plain];refine o8<|KN L rfl ?_;refine o8<|Ki L rfl ?_ (by rw[v6,Ip];lia)<|v9 _;obtain⟨k,e⟩:∃k,((g1.push<|l8 "list" vs.toArray 0).update g1.objs.size<|D8 λ_=>(#[]:Array c6)).get? g1.objs.size=a7 (l8 "list" #[] k):=⟨_,Km L λ_=>#[]⟩
  refine o8<|seqEpoch_at e rfl<|o8<|wpAny_newTuple (o8<|Kj (C9 ?_)<|v9 _) f;dsimp only;have g:vs.toArray.size<2:=by rw[v6];exact h2
  rw[m9 g,m9 g];refine o8<|p4 ?_;rw[StateT.run_pure];refine o8<|p4 ?_;dsimp only;generalize c:(((g1.push<|l8 "list" vs.toArray 0).update g1.objs.size<|D8 λ_=>(#[]:Array c6)).push<|l8 "tuple" vs.toArray 0).push (l8 "list" #[] 0)=g3;have a:g3.get? g1.objs.size=a7 (l8 "list" #[] k):=by rw[<-c];exact u4 _<|u4 _ e
  have y:∀b o,b≠g1.objs.size->s.heap.get? b=a7 o->g3.get? b=a7 o:=λb o i q=>by have B:=x b o q;rw[<-c];refine u4 _<|u4 _ ?_;rw[Kx _ _ _ _ i];exact u4 _ B
  refine o8<|seqEpoch_at a rfl ?_;have r:∀us:List c6,us.length<2->(us.toArray.zip us.toArray).map (·.2)=us.toArray:=λus hu=>by
   match us,hu with
   | [],_=>simp
   | [v],_=>simp
   |_::_::_,hu=>simp at hu;lia
  have t:(arrOf<|SortSt.mk' general' (vs.toArray.zip vs.toArray) #[] 7 a8).map (·.2)=vs.toArray:=r vs h2;rw[t];refine o8 (Ki a rfl ?_ (v9 _)<|by rw[v6,Ip];lia);simp only[show failedOf (SortSt.mk' general' (vs.toArray.zip vs.toArray) #[] 7 a8)=a8 from rfl,bne_self_eq_false,z6,o4];refine p4 ⟨_,rfl,p4 ⟨_,rfl,?_⟩⟩;obtain⟨j,p⟩:∃j,(g3.update g1.objs.size<|D8 λ_=>vs.toArray).get? g1.objs.size=a7 (l8 "list" vs.toArray j):=⟨_,Km a λ_=>vs.toArray⟩
  refine h g1.objs.size _ j (by lia) (λb o q=>?_) p;have i:b≠g1.objs.size:=v7 (by rw[z];exact JX<|u7 q);rw[Kx _ _ _ _ i];exact y b o i q
structure SrtOk(M:p8)(xs:List D):Prop where
 len:xs.length<64
 ok:∀x∈xs,z5 p7 x=a9
 cm:∀x∈xs,∀y∈xs,dE M p7 x y=a9
 kd:(∀x∈xs,∃z,x=.str z)\/(∀x∈xs,∃i,x=.int i)\/(∀x∈xs,∃z r,x=.tup (.str z::r))\/(∀x∈xs,∃i r,x=.tup (.int i::r))\/(∀x∈xs,∃z r,x=.tup (.tup z::r))
structure SrtG(M:p8)(xs:List D):Prop where
 len:xs.length<64
 okd:∀x∈xs,t4 M p7 x=a9
 cm:∀x∈xs,∀y∈xs,dE M p7 x y=a9
 kd:(∀x∈xs,∃z,x=.str z)\/(∀x∈xs,∃i,x=.int i)\/(∀x∈xs,∃z r,x=.tup (.str z::r))\/(∀x∈xs,∃i r,x=.tup (.int i::r))\/(∀x∈xs,∃z r,x=.tup (.tup z::r))
 od:∃en:D->List Int,∀a∈xs,∀b∈xs,z7 M p7 a b=decide (en a<en b)
theorem SrtOk.g(o:SrtOk M xs):SrtG M xs:=⟨o.len,λx h=>wu M _ _<|o.ok x h,o.cm,o.kd,enc p7,λa f b d=>jq (o.ok a f) (o.ok b d)<|o.cm a f b d⟩
def Ea(M:p8)(ys:List D):Prop:=ys.Pairwise λa b=>z7 M p7 b a=c5
def iX:C1:=λds M Q=>match ds with
 | [.ref n]=>∃xs,ak M n xs/\SrtG M xs/\∀ys,ys.Perm xs->Ea M ys->Q (.ref M.length) (M++[.lst ys])
 |_=>False
theorem Reps.perm{K:q9}{ρ:List d5}{H:Hp}{ds:List D}{vs:List V}(r:Reps K ρ H ds vs)(is:List Nat)(hi:∀i∈is,i<ds.length):Reps K ρ H (is.map λi=>ds.getD i .non) (is.map λi=>vs.getD i .non):=by
 induction is with
 |nil=>exact .nil
 |cons i is a=>have h:=hi i z0;obtain⟨v,e,d⟩:=r.get<|u9 h;refine .cons ?_<|a λj L=>hi j<|w6 _ L;show p9 K ρ H (ds.getD i .non) (vs.getD i .non);rw[HM,HM,e,u9 h];exact d
theorem ao.perm(r:ao vs us)(is:List Nat)(hi:∀i∈is,i<vs.length):ao (is.map λi=>vs.getD i .non) (is.map λi=>us.getD i .none):=by
 induction is with
 |nil=>exact .nil
 |cons i is a=>have h:=hi i z0;obtain⟨v,e,d⟩:=fA r<|u9 h;refine .cons ?_<|a λj L=>hi j<|w6 _ L;show aG (vs.getD i .non) (us.getD i .none);rw[HM,HM,e,u9 h];exact d
instance:Inhabited D:=⟨.non⟩
theorem Cn(o:HO)(x:bD P w H h a o):∃u,h.get? a=a7 u:=by
 cases o with
 |lst _=>obtain⟨_,_,_,_,e⟩:=x;exact⟨_,e⟩
 |tup _=>obtain⟨_,_,_,o,e,_⟩:=x;exact⟨o,e⟩
 |dK _=>obtain⟨_,_,_,_,_,_,_,e,_⟩:=x;exact⟨_,e⟩
 |dT _=>obtain⟨_,_,_,_,o,_,_,e,_⟩:=x;exact⟨o,e⟩
 |set _ _=>obtain⟨o,_,_,_,e,_⟩:=x;exact⟨_,e⟩
 |ins _ _ _=>obtain⟨_,_,_,e,_⟩:=x;exact⟨_,e⟩
 |own _=>exact x
 |xd _=>obtain⟨_,⟨_,_,_,e,_⟩,_⟩:=x;exact⟨_,e⟩
 |rng _ _=>obtain⟨_,_,_,e⟩:=x;exact⟨_,e⟩
 |frz _ _=>obtain⟨e,_⟩:=x;exact⟨_,e⟩
 |tbl _=>exact⟨_,x⟩
 |met _ _=>exact⟨_,x⟩
 |ext _=>obtain⟨_,e,_⟩:=x;exact e
theorem B9.none(x:B9 P w H h)(e:h.get? a=a8):H a=a8:=by
 cases q:H a with
 |none=>rfl
 |some o=>exfalso;obtain⟨u,g⟩:=Cn o<|x a o q;rw[e]at g;cases g
theorem wJ(I:p0 X pins σ H s)(m:t5 X.K ρ M H)(n:Nat)(A:e9)(u:A.units+n<j5):∀(ds es:List D) (vs ws:List V) (its jts:List c6),Reps X.K ρ H ds vs->ao vs its->Reps X.K ρ H es ws->ao ws jts->ds.all (t4 M n)=a9->es.all (t4 M n)=a9 ->xL (r9 M n) (dE M n) ds es=a9->LexAt A s its jts (pY (r9 M n) (z7 M n) ds es):=by
 intro ds;induction ds with
 |nil =>
  intro es vs ws its jts g c p j _ _ _;cases g;cases c;cases p with
  |nil=>cases j;exact .nn
  |cons _ _=>cases j;exact .nc
 |cons d ds hi =>
  intro es vs ws its jts g c p j k C l;cases g with
  |cons E g =>
   cases c with
   |cons b c =>
    cases p with
    |nil=>cases j;exact .cn
    |@cons e _ o _ a p =>
     cases j with
     |cons f j=>rw[Ie,C5]at k C;have i:=(ic I m n A d _ _ _ _ _ u E b a f k.1 C.1).1;rw[pY];rw[xL]at l;by_cases q:r9 M n d e=a9;rw[q]at i;rw[m9 q]at l ⊢;exact .eq i<|hi _ _ _ _ _ g c p j k.2 C.2 l;have h:=JA.mpr q;rw[h]at i;rw[n5 q]at l ⊢;exact .ne i<|wE I m n A _ _ _ _ _ _ u E b a f k.1 C.1 l
theorem zK(h:LexAt A s its jts k):∀(i:Nat),(b&&i==0)=c5->(b&&i+1==0)=c5->Q k s->KatLex prog w A b (decide<|its.length<jts.length) Q (its.zip jts) i s:=by
 have n:∀i:Nat,(b&&i+1==0)=c5:=λi=>by cases b<;>simp
 induction h with
 |nn=>intro i _ _ q;exact q
 |nc=>intro i _ _ q;exact(show Q (decide<|0<_+1) s by rw[dT_<|Nat.succ_pos _];exact q)
 |cn=>intro i _ _ q;exact(show Q (decide<|_+1<0) s by rw[dF_<|Jl _];exact q)
 |@eq x y xs ys k e t a=>intro i d _ q;refine kat_cons<|e prog w _ _<|kat_yes ?_;have:=a (i+1) (n i) (n<|i+1) q;rw[show decide ((x::xs).length<(y::ys).length)=decide (xs.length<ys.length) by simp];exact this
 |@ne x y xs ys k e t=>intro i d _ q;refine kat_cons<|e prog w _ _<|kat_no ?_;rw[d];exact kat_one _ _<|t prog w _ _ q
theorem xg(i:Io A s p q e)(g:e=c5->∀Q':Bool->f6->Prop,Q' l s->f9 (g7 prog w) A (oneLt' (b&&0==0) p q) Q' (λ_ _=>False) s)(E:e=a9->LexAt A s its jts k)(h:Q (if e=a9 then k else l) s):KatLex prog w A b (decide<|(p::its).length<(q::jts).length) Q ((p::its).zip<|q::jts) 0 s:=by
 refine kat_cons<|i prog w _ _ ?_;cases e with
 |true=>refine kat_yes ?_;rw[show decide ((p::its).length<(q::jts).length)=decide (its.length<jts.length) by simp];exact zK (E rfl) 1 (by cases b<;>rfl) (by cases b<;>rfl) h
 |false=>exact kat_no<|g rfl _ h
section
variable{X:Cx}{pins:List (d5×d6)}{σ:St}{H:Hp}{s:f6}{ρ:List d5}{M:p8}
theorem nX{M:Model}{h:d7}{x:c7}{t:Tok}:Looks M h (k7<|.str x t) (.type "str"):=Looks.of_pure rfl
theorem nY{M:Model}{h:d7}{x:Int}{t:Tok}:Looks M h (k7<|.int x t) (.type "int"):=Looks.of_pure rfl
theorem Reps.getD'(r:Reps X.K ρ H ds vs)(f:ao vs its)(h:i<ds.length):∃v,p9 X.K ρ H (ds.getD i default) v/\aG v (its.getD i .none)/\ds.getD i default∈ds:=by obtain⟨v,e,d⟩:=r.get<|u9 h;obtain⟨u,a,T⟩:=fA f e;refine⟨v,?_,?_,?_⟩;rw[HM,u9 h];exact d;rw[HM,a];exact T;rw[HM,u9 h];exact IR h
theorem Reps.mem(r:Reps X.K ρ H ds vs)(f:ao vs its)(h:u∈its):∃d v,d∈ds/\p9 X.K ρ H d v/\aG v u:=by
 induction ds generalizing vs its with
 |nil=>cases r;cases f;cases h
 |cons g ds i =>
  cases r with
  |cons e r =>
   cases f with
   |cons c q=>rcases(u8 (a:=u)).mp h with rfl|h;exact⟨_,_,z0,e,c⟩;obtain⟨d,v,h1,h2,b⟩:=i r q h;exact⟨d,v,w6 _ h1,h2,b⟩
theorem qi(I:p0 X pins σ H s)(r:Reps X.K ρ H xs ws)(b:ao ws its)(a:∀x∈xs,∃f r,x=.tup (f::r)):∃fs,KatTups s.heap its fs/\fs.length=its.length/\∀u∈fs,∃d v,p9 X.K ρ H d v/\aG v u/\∃r,D.tup (d::r)∈xs:=by
 induction xs generalizing ws its with
 |nil=>cases r;cases b;exact⟨[],.nil,rfl,λ_ z=>nomatch z⟩
 |cons d ds y =>
  cases r with
  |cons C r =>
   cases b with
   |cons B q =>
    obtain⟨fs,h1,h2,j⟩:=y r q λx h=>a x<|w6 _ h;obtain⟨f,aE,rfl⟩:=a d z0;cases C with
    |tup w c =>
     cases B;obtain⟨its,e,A,F⟩:=I.tuple w;cases c with
     |cons E c =>
      cases e with
      |cons i e=>obtain⟨o,p,k,n,l⟩:=A;refine⟨_::fs,.cons p k l rfl h1,by simp[h2],λu g=>?_⟩;rcases u8.mp g with rfl|g;exact⟨_,_,E,i,_,z0⟩;obtain⟨d,v,t,m,r',R⟩:=j u g;exact⟨d,v,t,m,r',w6 _ R⟩
noncomputable def ltc(M:p8)(xs:List D)(i j:Nat):Bool:=z7 M p7 (xs.getD i default)<|xs.getD j default
theorem iT(I:p0 X pins σ H s)(sm:t5 X.K ρ M H){xs:List D}{ws:List V}{its:List c6}(so:SrtG M xs)(r:Reps X.K ρ H xs ws)(J:ao ws its)(h2:2<=its.length){A:e9}(P:A.units+p7<j5):f9 (g7 X.prog X.w) A (keyKind' its.toArray) (λκ s'=>s'=s/\∀i j (C:Bool->f6->Prop),i<its.length->j<its.length->C (ltc M xs i j) s->IZ X.prog X.w A κ its i j C s) (λ_ _=>False) s:=by
 have lw:=r.length;have li:=J.length;have le:xs.length=its.length:=by lia
 have O:∀(b:Bool),(∀x∈xs,∃f r,x=.tup (f::r))->(∀(f g:D) (vf vg:V) (p q:c6) (r r':List D),D.tup (f::r)∈xs->D.tup (g::r')∈xs->p9 X.K ρ H f vf->aG vf p->p9 X.K ρ H g vg->aG vg q -> (r9 M 29 f g=c5->∀Q':Bool->f6->Prop,Q' (z7 M 29 f g) s->f9 (g7 X.prog X.w) A (oneLt' (b&&0==0) p q) Q' (λ_ _=>False) s)) -> ∀i j (C:Bool->f6->Prop),i<its.length->j<its.length->C (ltc M xs i j) s->IZ X.prog X.w A (tuples' b) its i j C s:=by
  intro b F ai i j C hi hj E;unfold IZ;obtain⟨v1,c,B,m⟩:=r.getD' J (show i<xs.length by lia);obtain⟨v2,G,L,W⟩:=r.getD' J (show j<xs.length by lia);unfold ltc at E;have k1:=so.okd _ m;have k2:=so.okd _ W;have k3:=so.cm _ m _ W;generalize xs.getD i default=x at *;generalize xs.getD j default=y at *;obtain⟨f,rf,rfl⟩:=F _ m;obtain⟨g,rg,rfl⟩:=F _ W;cases c with
  |tup S rs =>
   cases G with
   |tup aS Z =>
    generalize its.getD i .none=u1 at *;generalize its.getD j .none=u2 at *;cases B;cases L;obtain⟨as,ra,pa,_⟩:=I.tuple S;obtain⟨bs,rb,pb,_⟩:=I.tuple aS;obtain⟨o,ho,_,n,hd⟩:=pa;obtain⟨o',aP,_,n',aD⟩:=pb;refine kat_lt ho hd aP aD ?_;cases rs with
    |cons a1 rs =>
     cases ra with
     |@cons _ p _ la b1 ra =>
      cases Z with
      |cons a2 Z =>
       cases rb with
       |@cons _ q _ lb b2 rb =>
        have aj:A.units+29<j5:=by have:p7=30:=rfl;lia
        have z1:t4 M 29 f=a9/\rf.all (t4 M 29)=a9:=by
         have:(f::rf).all (t4 M 29)=a9:=k1
         rwa [Ie,C5]at this
        have z2:t4 M 29 g=a9/\rg.all (t4 M 29)=a9:=by
         have:(g::rg).all (t4 M 29)=a9:=k2
         rwa [Ie,C5]at this
        have z3:(if r9 M 29 f g=a9 then xL (r9 M 29) (dE M 29) rf rg else dE M 29 f g)=a9:=k3;have he:=(ic I sm 29 A _ _ _ _ _ _ aj a1 b1 a2 b2 z1.1 z2.1).1;have R:C (if r9 M 29 f g=a9 then pY (r9 M 29) (z7 M 29) rf rg else z7 M 29 f g) s:=E;cases U:r9 M 29 f g with
        |true=>rw[U]at he R z3;have:=xg (prog:=X.prog) (w:=X.w) (b:=b) (Q:=C) (l:=a9) he (λz=>nomatch z) (λ_=>wJ I sm 29 A aj _ _ _ _ _ _ rs ra Z rb z1.2 z2.2 z3) R;simpa using this
        |false=>rw[U]at he R;have:=xg (prog:=X.prog) (w:=X.w) (b:=b) (Q:=C) (l:=z7 M 29 f g) (its:=la) (jts:=lb) (k:=a9) he (λ_=>ai f g _ _ _ _ _ _ m W a1 b1 a2 b2 U) (λz=>nomatch z) R;simpa using this
 have N:∀(κ:SortKind),(∀i j (C:Bool->f6->Prop),i<its.length->j<its.length->C (ltc M xs i j) s->IZ X.prog X.w A κ its i j C s)->(s=s/\∀i j (C:Bool->f6->Prop),i<its.length->j<its.length->C (ltc M xs i j) s->IZ X.prog X.w A κ its i j C s):=λκ h=>⟨rfl,h⟩
 have an:A.units+29<j5:=by have:p7=30:=rfl;lia
 rcases so.kd with a|a|a|a|a;refine kas_kind (T:=.type "str") h2 (λu P=>?_) (by decide) (by decide)<|N _ λi j C hi hj E=>?_;obtain⟨d,v,m,c,B⟩:=r.mem J P;obtain⟨z,rfl⟩:=a d m;cases c;obtain⟨t,rfl⟩:=B;exact nX;unfold IZ;obtain⟨v1,c,B,m⟩:=r.getD' J (show i<xs.length by lia);obtain⟨v2,G,L,W⟩:=r.getD' J (show j<xs.length by lia);unfold ltc at E;obtain⟨z,hz⟩:=a _ m;obtain⟨z',Y⟩:=a _ W;rw[hz]at c E;rw[Y]at G E;cases c;cases G;obtain⟨t,h1⟩:=B;obtain⟨t',h2⟩:=L;rw[h1,h2];exact kas_lt_str E;refine kas_kind (T:=.type "int") h2 (λu P=>?_) (by decide) (by decide)<|N _ λi j C hi hj E=>?_;obtain⟨d,v,m,c,B⟩:=r.mem J P;obtain⟨z,rfl⟩:=a d m;cases c;obtain⟨t,rfl⟩:=B;exact nY;unfold IZ;obtain⟨v1,c,B,m⟩:=r.getD' J (show i<xs.length by lia);obtain⟨v2,G,L,W⟩:=r.getD' J (show j<xs.length by lia);unfold ltc at E;obtain⟨z,hz⟩:=a _ m;obtain⟨z',Y⟩:=a _ W;rw[hz]at c E;rw[Y]at G E;cases c;cases G;obtain⟨t,h1⟩:=B;obtain⟨t',h2⟩:=L;rw[h1,h2];exact kat_lt_int E;obtain⟨fs,t1,t2,t3⟩:=qi I r J λx F=>(a x F).elim λz ⟨r,e⟩=>⟨_,_,e⟩
 refine kat_kind (T:=.type "str") t1 (by lia) (λu P=>?_) (by decide)<|N _<|O _ (λx F=>(a x F).elim λz ⟨r,e⟩=>⟨_,_,e⟩) λf g vf vg p q r r' m W c B G L S Q' h=>?_;obtain⟨d,v,c,B,r',m⟩:=t3 u P;obtain⟨z,al,e⟩:=a _ m;cases e;cases c;obtain⟨t,rfl⟩:=B;exact nX;obtain⟨z,_,e⟩:=a _ m;cases e;obtain⟨z',_,e'⟩:=a _ W;cases e';cases c;cases G;obtain⟨t,rfl⟩:=B;obtain⟨t',rfl⟩:=L;exact oneLt_str h;obtain⟨fs,t1,t2,t3⟩:=qi I r J λx F=>(a x F).elim λz ⟨r,e⟩=>⟨_,_,e⟩
 refine kat_kind (T:=.type "int") t1 (by lia) (λu P=>?_) (by decide)<|N _<|O _ (λx F=>(a x F).elim λz ⟨r,e⟩=>⟨_,_,e⟩) λf g vf vg p q r r' m W c B G L S Q' h=>?_;obtain⟨d,v,c,B,r',m⟩:=t3 u P;obtain⟨z,al,e⟩:=a _ m;cases e;cases c;obtain⟨t,rfl⟩:=B;exact nY;obtain⟨z,_,e⟩:=a _ m;cases e;obtain⟨z',_,e'⟩:=a _ W;cases e';cases c;cases G;obtain⟨t,rfl⟩:=B;obtain⟨t',rfl⟩:=L;exact oneLt_int h;obtain⟨fs,t1,t2,t3⟩:=qi I r J λx F=>(a x F).elim λz ⟨r,e⟩=>⟨_,_,e⟩
 refine kat_kind (T:=.type "tuple") t1 (by lia) (λu P=>?_) (by decide)<|N _<|O _ (λx F=>(a x F).elim λz ⟨r,e⟩=>⟨_,_,e⟩) λf g vf vg p q r r' m W c B G L S Q' h=>?_;obtain⟨d,v,c,B,r',m⟩:=t3 u P;obtain⟨z,al,e⟩:=a _ m;cases e;cases c with
 |tup S rs=>cases B;obtain⟨_,_,pl,_⟩:=I.tuple S;obtain⟨o,ho,E,_⟩:=pl;rw[<-E];exact(show Looks _ s.heap (k7<|.ref _) o.cls from(Looks.ld ho).andThen .now)
 have k1:t4 M 29 f=a9:=by have:(f::r).all (t4 M 29)=a9:=so.okd _ m;rw[Ie,C5]at this;exact this.1
 have k2:t4 M 29 g=a9:=by have:(g::r').all (t4 M 29)=a9:=so.okd _ W;rw[Ie,C5]at this;exact this.1
 have k3:(if r9 M 29 f g=a9 then xL (r9 M 29) (dE M 29) r r' else dE M 29 f g)=a9:=so.cm _ m _ W;rw[S]at k3;exact kat_one _ _<|wE I sm 29 A _ _ _ _ _ _ an c B G L k1 k2 k3 _ _ _ _ h
end
theorem wf{xs:List D}{lt:D->D->Bool}{en:D->List Int}(e:∀a∈xs,∀b∈xs,lt a b=decide (en a<en b)):(∀a∈xs,lt a a=c5)/\(∀a∈xs,∀b∈xs,∀d∈xs,lt a b=a9->lt b d=a9->lt a d=a9)/\∀a∈xs,∀b∈xs,∀d∈xs,lt a d=a9->lt a b=a9\/lt b d=a9:=by refine⟨λa f=>?_,λa f b c d g h1 h2=>?_,λa f b c d g h=>?_⟩;rw[e a f a f,dF_<|E7 _];rw[e a f b c,n9]at h1;rw[e b c d g,n9]at h2;rw[e a f d g,n9];exact Kk h1 h2;rw[e a f d g,n9]at h;rw[e a f b c,e b c d g,n9,n9];by_cases z:en a<en b;exact .inl z;have J:en b<=en a:=z;exact .inr<|List.lt_of_le_of_lt J h
theorem Cb{xs:List D}(o:SrtG M xs):(∀a∈xs,z7 M p7 a a=c5)/\(∀a∈xs,∀b∈xs,∀d∈xs,z7 M p7 a b=a9->z7 M p7 b d=a9->z7 M p7 a d=a9)/\∀a∈xs,∀b∈xs,∀d∈xs,z7 M p7 a d=a9->z7 M p7 a b=a9\/z7 M p7 b d=a9:=o.od.elim λ_ e=>wf e
theorem nC{l:d5}{xs:List D}{J:List V}{its:List c6}{R:VK}{lt:D->D->Bool}(I:p0 X pins σ H s)(sm:t5 X.K ρ M H)(F:∀h',p0 X pins σ H { s with heap:=h' }->f9 (g7 X.prog X.w) X.A.in1.in1 (keyKind' its.toArray) (λκ s'=>s'={ s with heap:=h' }/\∀i j (C:Bool->f6->Prop),i<its.length->j<its.length->C (lt (xs.getD i default)<|xs.getD j default) { s with heap:=h' }->IZ X.prog X.w X.A.in1.in1 κ its i j C { s with heap:=h' }) (λ_ _=>False) { s with heap:=h' })(o1:∀a∈xs,lt a a=c5) (o2:∀a∈xs,∀b∈xs,∀d∈xs,lt a b=a9->lt b d=a9->lt a d=a9) (o3:∀a∈xs,∀b∈xs,∀d∈xs,lt a d=a9->lt a b=a9\/lt b d=a9) (r:Reps X.K ρ H xs J) (rr:ao J its) (hl:s.heap.IsList l its.toArray) (hz:J.length<=sizeLine) (h2:2<=its.length) (L:its.length<64)(E:l≠X.env.locals) (kk:∀v H',((∀Q:DK,(∀ys,ys.Perm xs->(ys.Pairwise λa b=>lt b a=c5)->Q (.ref M.length) (M++[.lst ys]))->VQ X.K ρ H Q v H'))->R v H'):f9 (g7 X.prog X.w) X.A (call (.builtin "sorted") [.ref l]) (EP X pins σ R) X.xe s:=by
 obtain⟨m,S,hm⟩:=I.loc;have lw:=r.length;have li:=rr.length;obtain⟨ol,g,_⟩:=id hl;have k:∀a o,(a,o)∈[]++(l,ol)::Att.ledger s.heap X.env.locals l↔a≠X.env.locals/\s.heap.get? a=a7 o:=λa o=>by rw[IN,u8,Att.mem_ledger];constructor;rintro(h|⟨h1,_,h3⟩);cases h;exact⟨E,g⟩;exact⟨h1,h3⟩;rintro⟨h1,h2⟩;by_cases z:a=l;subst z;rw[g]at h2;cases h2;exact .inl rfl;exact .inr ⟨h1,z,h2⟩
 refine kat_sorted (Att.fr_all S) (Att.news_ledger E g) hl h2 L λD e1 h' U N G=>?_;have kp:∀b u,b≠X.env.locals->s.heap.get? b=a7 u->h'.get? b=a7 u:=λb u P e=>(N (b,u)<|w6 _<|(k b u).mpr ⟨P,e⟩).1;have O:D≠X.env.locals:=(N _ z0).2.1;have Y:s.heap.get? D=a8:=by
  cases q:s.heap.get? D with
  |none=>rfl
  |some o=>exact n6 (G (D,o)<|(k D o).mpr ⟨O,q⟩)<|D5 _
 have I':p0 X pins σ H { s with heap:=h' }:=I.keptF (t':=s.toks) kp S U.ns;refine D4 (F h' I') (λκ s' hk=>?_) λ_ _ x=>x;obtain⟨rfl,B⟩:=hk;refine Srt.wp_run (n:=its.length) (c:=λi j=>if i<xs.length then(if j<xs.length then lt (xs.getD i default) (xs.getD j default)else a9)else c5) (λi j C hi hj Z=>?_) _ (Srt.sort_bd<|by lia).1 ?_;refine B i j C hi hj ?_;rw[m9 (by lia),m9<|by lia]at Z;exact Z;have t:=Srt.All.run (c:=λi j=>if i<xs.length then(if j<xs.length then lt (xs.getD i default) (xs.getD j default)else a9)else c5) _ (Srt.sort_bd (n:=its.length)<|by lia).2;have f:=Srt.sort_list xs (by lia) o1 o2 o3
 try dsimp only at f
 rw[show xs.length=its.length by lia]at f t ⊢;generalize Srt.run _ (I0 its.length)=p at t f ⊢;have hi:∀i∈p.toList,i<xs.length:=λi h=>by have:=t.mem_iff.mp h;rw[G8]at this;lia
 refine KasFin.intro U N (UpdF.head λq hq=>v7<|G q hq) λh2 c F2 W=>?_;have r':=r.perm p.toList hi;have T:=rr.perm p.toList (λi h=>by have:=hi i h;lia);have y:H D=a8:=B9.none I.hok Y;refine⟨.ref D,_,I.laidF (t':=s.toks) (o:=.lst<|p.toList.map λi=>J.getD i .non) (λb u P e=>(W (b,u)<|w6 _<|(k b u).mpr ⟨P,e⟩).1) S F2.ns Y y ⟨?_,_,c,T,(W _ z0).1⟩,rfl,kk _ _ λQ hQ=>VQ.laidL sm .refl r' y<|hQ _ f.1 f.2⟩;rw[t7];have:=f.1.length_eq;rw[t7]at this;lia
theorem mL{X:Cx}(i:Room k X.A):X.A.in1.in1.units+p7<j5:=by have:=i.un;have:p7=30:=rfl;show X.A.units+1+1+p7<j5;lia
theorem yB{k:Nat}{l:d5}{xs:List D}{a:List V}{its:List c6}{R:VK}(i:Room k X.A)(I:p0 X pins σ H s)(m:t5 X.K ρ M H)(c:SrtG M xs)(r:Reps X.K ρ H xs a)(f:ao a its)(g:s.heap.IsList l its.toArray)(hz:a.length<=sizeLine)(h2:2<=its.length)(L:its.length<64)(b:l≠X.env.locals) (F:∀v H',((∀Q:DK,(∀ys,ys.Perm xs->Ea M ys->Q (.ref M.length) (M++[.lst ys]))->VQ X.K ρ H Q v H'))->R v H'):f9 (g7 X.prog X.w) X.A (call (.builtin "sorted") [.ref l]) (EP X pins σ R) X.xe s:=have o:=Cb c
 nC (lt:=z7 M p7) I m (λ_ d=>iT d m c r f h2<|mL i) o.1 o.2.1 o.2.2 r f g hz h2 L b F
theorem p0.sqL_ne(I:p0 X pins σ H s)(h:Fn X.K H a xs):a≠X.env.locals:=by
 rcases h with h|⟨o,its,n,k,_⟩
 rcases h with h|⟨_,h⟩
 exact ac h I.free;exact ac h I.free;have:=u7<|I.mod.kin a o k;exact v7<|D6 this<|F6 I.ok.bsz I.ok.above
theorem xP(j:Room k X.A):jX X (.builtin "sorted") iX:=by
 rintro p s σ H vs us R I w ⟨ds,M,ρ,Q,m,rs,q,F⟩;unfold iX at q;split at q;obtain⟨xs,d,c,q⟩:=q;cases rs with
 |cons r1 rs =>
  cases rs;obtain⟨u,rfl,t⟩:=ao.one w;cases r1 with
  |ref e =>
   cases t;obtain⟨y,b,r⟩:=ak.seq m d e;obtain⟨its,f,l,z⟩:=I.list b;have C:=r.length;have B:=f.length;by_cases h2:its.length<2;refine gW l.isList h2 λD h' n a g i=>?_;refine⟨.ref D,_,I.laid (t':=s.toks) (o:=.lst y) g a ⟨z,its,n,f,i⟩,rfl,F _ _<|VQ.laidL m .refl r (I.hok.fresh a)<|q xs (JQ _) ?_⟩;unfold Ea
   match xs,(show xs.length<2 by lia) with
   | [],_=>exact KZ
   | [x],_=>exact LF _ _
   |_::_::_,hx=>simp at hx;lia
   have h:2<=its.length:=by lia
   have L:its.length<64:=by have:=c.len;lia
   exact yB j I m c r f l.isList z h L (I.sqL_ne b) λv H' x=>F v H'<|x Q q
 exact q.elim
theorem nS(h:s.heap.IsTupleIter it t i)(a:s.heap.IsTuple t items)(c:items[i]?=a7 x)(b:∀h',h'.IsTupleIter it t (i+1)->IH it s.heap h'->Q x { s with heap:=h' }):f9 (g7 prog w) A (J2<|.ref it) Q E s:=by obtain⟨o,D,f,d⟩:=id h;obtain⟨e,g,_,n,l⟩:=a;unfold J2;refine o8<|Ih (name:=AA1 "__next__") h.typeIs F.slot_tuple_iterator_next<|E8 F.slot_tuple_iterator_next h.typeIs F.entry_tuple_iterator_next ?_<|F.args_tuple_iterator_next_1<|.ref it;refine(show f9 (g7 prog w) _ (field (.ref it) 0 >>= _) _ _ s from o8<|HP D d (x:=.ref t) rfl ?_);refine(show f9 (g7 prog w) _ (if (ABG t==ABJ)=a9 then _ else field (.ref it) 1 >>= _) _ _ s from ?_);rw[n5<|show ¬(ABG t==ABJ)=a9 from Iz];refine o8<|HP D d (x:=.int i 0) rfl<|show f9 (g7 prog w) _ (seqItems? (.ref t) >>= _) _ _ s from o8<|Ig g l ?_;simp only[Jd,c];refine o8<|IK D d (by simp)<|p4 ⟨x,rfl,p4<|b _ ⟨_,HY _ D<|Nf<|K1 d _,(Obj.cls_mapFields ..).trans f,?_⟩<|HV ..⟩;rw[K1 d];simp[j0]
theorem ik(b:A.handled=a8)(h:s.heap.IsTupleIter it t i)(f:s.heap.IsTuple t items)(j:items[i]?=a8)(c:∀h' e,Heap.ExtBut it s.heap h'->(∃o,h'.get? e=a7 o/\o.cls=.type "StopIteration")->E (.ref e) { s with heap:=h' }):f9 (g7 prog w) A (J2<|.ref it) Q E s:=by
 obtain⟨o,D,k,d⟩:=id h;obtain⟨p,g,_,n,l⟩:=f;unfold J2;refine o8<|Ih (name:=AA1 "__next__") h.typeIs F.slot_tuple_iterator_next<|E8 F.slot_tuple_iterator_next h.typeIs F.entry_tuple_iterator_next ?_<|F.args_tuple_iterator_next_1<|.ref it;refine(show f9 (g7 prog w) _ (field (.ref it) 0 >>= _) _ _ s from o8<|HP D d (x:=.ref t) rfl ?_);refine(show f9 (g7 prog w) _ (if (ABG t==ABJ)=a9 then _ else field (.ref it) 1 >>= _) _ _ s from ?_);rw[n5<|show ¬(ABG t==ABJ)=a9 from Iz];refine o8<|HP D d (x:=.int i 0) rfl<|show f9 (g7 prog w) _ (seqItems? (.ref t) >>= _) _ _ s from o8<|Ig g l ?_;simp only[Jd,j];refine o8<|G7<|o8<|IK D d (by simp)<|show f9 (g7 prog w) _ (newExc (.type "StopIteration") [] >>= _) _ _ _ from o8 ?_;simp only[newExc,newTuple];refine o8 (F8 (o8 (m:=l9 _ _)<|wpAny_of_eq (a:=ABJ) (by first|rfl|(simp only[l9];rfl))<|F8 ?_<|by size_fits)<|by size_fits);simp only[raiseNew];refine o8<|wpAny_handled ?_
 first|rw[show A.in1.handled=a8 from b]|rw[b]
 exact o8<|p4<|wpAny_throw<|c _ _ (((HV ..).extBut.push _).push _)<|⟨_,v8 _ rfl,rfl⟩
theorem qq(g:A.handled=a8)(it t:d5)(c:t≠it)(a:Array c6):Draws prog w A it [it,t] a.size (λi v=>a[i]?=a7 v) (λi h=>h.IsTupleIter it t i/\h.IsTuple t a) where
 live:=λ_ _ ⟨⟨o,D,_⟩,_⟩=>⟨o,D⟩
 frame:=λ_ _ _ ⟨h1,o,e,r⟩ k=>⟨h1.at λo e=>k it (z0) o e,o,k t (by simp) o e,r⟩
 item:=λi s Q E hi ⟨h1,h2⟩ f=>by refine nS h1 h2 (x:=a[i]) (E5 hi) λh' b u=>f _ h' s.toks (E5 hi) ⟨b,?_⟩ u;obtain⟨o,e,r⟩:=h2;exact⟨o,u.extBut _ _ c e,r⟩
 done:=λs Q E ⟨h1,h2⟩ d=>ik g h1 h2 (Kz<|t6 _) d
structure ZA(z TI TO i1 i2:d5)(f1 f2:List d5):Prop where
 nd:[z,TI,TO,i1,i2].Nodup
 z1:z∉f1
 o1:TO∉f1
 y1:i2∉f1
 z2:z∉f2
 o2:TO∉f2
 x2:i1∉f2
theorem cD{prog:c9}{w:c8}{A:e9}{it c:d5}{fp:List d5}{n k:Nat}{P:Nat->c6->Prop}{St:Nat->d7->Prop}{h h':d7}(D:Draws prog w A it fp n P St)(f:c∉fp)(hs:Heap.ExtBut c h h')(st:St k h):St k h':=D.frame k h h' st λb d o e=>hs b o (λq=>f<|q ▸ d) e
section
variable{prog:c9}{w:c8}{A:e9}{E:c6->f6->Prop}{s:f6}{z TI TO i1 i2:d5}{f1 f2:List d5}{n1 n2 k:Nat}{P1 P2:Nat->c6->Prop}{S1 S2:Nat->d7->Prop}{a b:c6}
theorem yg{Q:c6->f6->Prop}(D:Draws prog w A i1 f1 n1 P1 S1)(p:Draws prog w A i2 f2 n2 P2 S2)(Z:ZA z TI TO i1 i2 f1 f2)(hz:IsZip s.heap z TI TO .none)(I:m3 s.heap TI (.ref i1) (.ref i2))(J:m3 s.heap TO a b)(L:S1 k s.heap) (U:S2 k s.heap) (l1:k<n1) (l2:k<n2)(hQ:∀h' tk x y T,P1 k x->P2 k y->s.heap.objs.size<=T->IsZip h' z TI TO (j0 T)->m3 h' TO x y->S1 (k+1) h'->S2 (k+1) h'->m3 h' T x y->(∀c o,c≠z->c≠TO->c≠i1->c≠i2->s.heap.get? c=a7 o->h'.get? c=a7 o)->Q (.ref T) { s with heap:=h',toks:=tk }):f9 (g7 prog w) A (Builtin.«zip.__next__» ⟨[.ref z],[]⟩) (λfin s'=>∃v,fin=.done (.ret v)/\Q v s') E s:=by
 have X:=Z.nd;simp only[HR,u8,Iy,or_false,not_or]at X;obtain⟨⟨aj,O,P,R⟩,⟨S,V,W⟩,⟨r,t⟩,ai,_⟩:=X;refine(show f9 (g7 prog w) A (field (.ref z) 2 >>= _) _ _ _ from o8<|HP hz rfl (x:=.bool c5) rfl ?_);refine(show f9 (g7 prog w) A (field (.ref z) 3 >>= _) _ _ _ from o8<|HP hz rfl (x:=.ref TI) rfl<|o8<|Ig I rfl ?_);refine(show f9 (g7 prog w) A (MJ (.ref z) >>= _) _ _ _ from o8 ?_);unfold MJ;refine o8<|HP hz rfl (x:=ABJ) rfl<|p4 ?_;simp only[o5];refine o8<|G7<|o8<|HP hz rfl (x:=.ref TO) rfl<|o8<|K0 hz (by simp) λh₁ (hz₁:IsZip h₁ z TI TO .ellipsis) hs₁=>o8 ?_;simp only[List.zipIdx_cons,List.zipIdx_nil,L9,List.forIn_nil];refine o8<|o8<|wpAny_onRaise<|show f9 (g7 prog w) A (J2 (.ref i1) >>= _) _ _ _ from o8 ?_;refine D.item k _ _ _ l1 (cD D Z.z1 hs₁.extBut L) λx u M px m h=>p4 ?_;have f:m3 u TO a b:=h.extBut _ _ r<|hs₁.extBut _ _ (v5 O) J;refine o8<|Ig f rfl<|o8<|wpAny_updateSeq_pair f λh₃ (hTO₃:m3 h₃ TO x b) hs₃=>o8<|wpAny_letGo<|p4 ?_;refine o8<|o8<|wpAny_onRaise<|show f9 (g7 prog w) A (J2 (.ref i2) >>= _) _ _ _ from o8 ?_;refine p.item k _ _ _ l2 (cD p Z.o2 hs₃.extBut<|cD p Z.x2 h.extBut<|cD p Z.z2 hs₁.extBut U) λy B N py n d=>p4 ?_;have g:m3 B TO x b:=d.extBut _ _ t hTO₃;refine o8<|Ig g rfl<|o8<|wpAny_updateSeq_pair g λh₅ (hTO₅:m3 h₅ TO x y) hs₅=>o8<|wpAny_letGo<|p4<|p4 ?_;refine o8<|Ig hTO₅ rfl<|o8<|wpAny_newTuple ?_;have i:IsZip h₅ z TI TO .ellipsis:=hs₅.extBut _ _ O<|d.extBut _ _ R<|hs₃.extBut _ _ O<|h.extBut _ _ P hz₁;have kp:∀c o,c≠z->c≠TO->c≠i1->c≠i2->s.heap.get? c=a7 o->h₅.get? c=a7 o:=λc o j C G H e=>hs₅.extBut _ _ C<|d.extBut _ _ H<|hs₃.extBut _ _ C<|h.extBut _ _ G<|hs₁.extBut _ _ j e;have sz:h₅.objs.size=s.heap.objs.size:=by rw[hs₅.1,d.1,hs₃.1,h.1];exact hs₁.1
 have t1:=cD D Z.o1 hs₅.extBut<|cD D Z.y1 d.extBut<|cD D Z.o1 hs₃.extBut m;have t2:=cD p Z.o2 hs₅.extBut n;refine(show f9 (g7 prog w) A (ND (.ref z) (.ref h₅.objs.size) >>= _) _ _ _ from o8 ?_);unfold ND;have l:IsZip (h₅.push { cls:=.type "tuple",data:=.seq #[x,y] }) z TI TO .ellipsis:=u4 _ i;refine o8<|K0 l (by simp) λh₇ (hz₇:IsZip h₇ z TI TO (j0 h₅.objs.size)) hs₇=>K0 hz₇ (by simp) λh₈ (hz₈:IsZip h₈ z TI TO (j0 h₅.objs.size)) hs₈=>?_;have F:∀c o,c≠z->h₅.get? c=a7 o->h₈.get? c=a7 o:=λc o j e=>hs₈.extBut _ _ j<|hs₇.extBut _ _ j<|u4 _ e;have Y:h₅.objs.size≠z:=Ln<|u7 i;refine p4 ⟨_,rfl,hQ h₈ _ x y h₅.objs.size px py (Nat.le_of_eq sz.symm) hz₈ (F _ _ (v5 O) hTO₅) ?_ ?_ (hs₈.extBut _ _ Y<|hs₇.extBut _ _ Y<|v8 _ rfl) λc o j C G H e=>F c o j<|kp c o j C G H e⟩;exact D.frame _ _ _ t1 λc K o e=>F c o (λq=>Z.z1<|q ▸ K) e;exact p.frame _ _ _ t2 λc K o e=>F c o (λq=>Z.z2<|q ▸ K) e
theorem yi{Q:Fin->f6->Prop}(D:Draws prog w A i1 f1 n1 P1 S1)(v:Draws prog w A i2 f2 n2 P2 S2)(Z:ZA z TI TO i1 i2 f1 f2)(hz:IsZip s.heap z TI TO .none)(I:m3 s.heap TI (.ref i1) (.ref i2))(J:m3 s.heap TO a b)(L:S1 k s.heap) (U:S2 k s.heap) (Y:k=n1\/(k<n1/\k=n2))(H:∀h' tk e,(∀c o,c≠z->c≠TO->c≠i1->c≠i2->s.heap.get? c=a7 o->h'.get? c=a7 o)->(∃o,h'.get? e=a7 o/\o.cls=.type "StopIteration")->E (.ref e) { s with heap:=h',toks:=tk }):f9 (g7 prog w) A (Builtin.«zip.__next__» ⟨[.ref z],[]⟩) Q E s:=by
 have X:=Z.nd;simp only[HR,u8,Iy,or_false,not_or]at X;obtain⟨⟨aj,O,P,R⟩,⟨S,V,W⟩,⟨T,F⟩,ai,_⟩:=X;refine(show f9 (g7 prog w) A (field (.ref z) 2 >>= _) _ _ _ from o8<|HP hz rfl (x:=.bool c5) rfl ?_);refine(show f9 (g7 prog w) A (field (.ref z) 3 >>= _) _ _ _ from o8<|HP hz rfl (x:=.ref TI) rfl<|o8<|Ig I rfl ?_);refine(show f9 (g7 prog w) A (MJ (.ref z) >>= _) _ _ _ from o8 ?_);unfold MJ;refine o8<|HP hz rfl (x:=ABJ) rfl<|p4 ?_;simp only[o5];refine o8<|G7<|o8<|HP hz rfl (x:=.ref TO) rfl<|o8<|K0 hz (by simp) λh₁ (hz₁:IsZip h₁ z TI TO .ellipsis) hs₁=>o8 ?_;simp only[List.zipIdx_cons,List.zipIdx_nil,L9,List.forIn_nil];refine o8<|o8<|wpAny_onRaise<|show f9 (g7 prog w) A (J2 (.ref i1) >>= _) _ _ _ from o8 ?_;rcases Y with rfl|⟨l1,rfl⟩
 refine D.done _ _ _ (cD D Z.z1 hs₁.extBut L) ?_;rintro p e h ⟨y,f,i⟩;have m:IsZip p z TI TO .ellipsis:=h _ _ P hz₁;have t:e≠z:=λq=>by subst q;rw[m]at f;cases f;simp at i
 exact K0 m (by simp) λr _ d=>H r _ e (λc o u _ G _ q=>d.extBut _ _ u<|h _ _ G<|hs₁.extBut _ _ u q) ⟨y,d.extBut _ _ t f,i⟩;refine D.item k _ _ _ l1 (cD D Z.z1 hs₁.extBut L) λx p M px C h=>p4 ?_;have g:m3 p TO a b:=h.extBut _ _ T<|hs₁.extBut _ _ (v5 O) J;refine o8<|Ig g rfl<|o8<|wpAny_updateSeq_pair g λr (hTO₃:m3 r TO x b) d=>o8<|wpAny_letGo<|p4 ?_;refine o8<|o8<|wpAny_onRaise<|show f9 (g7 prog w) A (J2 (.ref i2) >>= _) _ _ _ from o8 ?_;refine v.done _ _ _ (cD v Z.o2 d.extBut<|cD v Z.x2 h.extBut<|cD v Z.z2 hs₁.extBut U) ?_;rintro B e j ⟨y,f,i⟩;have n:IsZip B z TI TO .ellipsis:=j _ _ R<|d.extBut _ _ O<|h.extBut _ _ P hz₁;have t:e≠z:=λq=>by subst q;rw[n]at f;cases f;simp at i
 exact K0 n (by simp) λh₅ _ l=>H h₅ _ e (λc o u K G N q=>l.extBut _ _ u<|j _ _ N<|d.extBut _ _ K<|h.extBut _ _ G<|hs₁.extBut _ _ u q) ⟨y,l.extBut _ _ t f,i⟩
end
section
variable{X:Cx}{pins:List (d5×d6)}{σ:St}{H:Hp}{s:f6}{h':d7}
theorem p0.turnedL{t':Nat}{fp:List d5}(I:p0 X pins σ H s)(h:∀b∈fp,oY X pins H b)(k:∀b o,b∉fp->s.heap.get? b=a7 o->h'.get? b=a7 o):p0 X pins σ H { s with heap:=h',toks:=t' }:=by
 have p:∀b u,H b=a7 u->b∉fp:=λb u e z=>by rw[(h b z).1]at e;cases e
 refine I.step (g':=s.gens) (d':=s.drawn) (ch:=fp) (λb d=>⟨(h b d).2.2.2.1,(h b d).2.1,(h b d).2.2.2.2.1,(h b d).2.2.2.2.2⟩) (λb o _ _ f e _=>k b o f e) (λb o _ _ f e _=>⟨o.slots,k b o f e⟩) (λ_ _ _ _ n=>n) (λb o f e=>⟨o,k b o f e⟩) (λ_ _ e=>e) (λ_ _ _ e=>e) (λb ps e=>⟨#[],by rw[e];simp⟩) (λm a=>?_) (λb u e=>?_) I.bare;obtain⟨o,es,i,D,r⟩:=a;exact⟨o,es,i,k _ o (λz=>(h _ z).2.1 rfl) D,r⟩;refine(I.hok b u e).stay (λc v f q=>k c v ?_ q) (λ_ q=>q) λ_ _ q=>q;rcases f with rfl|z;exact p _ u e;exact p _ _ z
theorem p0.turnedT{t':Nat}{fp:List d5}{T:d5}{o:HO}(I:p0 X pins σ H s)(h:∀b∈fp,oY X pins H b)(k:∀b o,b∉fp->s.heap.get? b=a7 o->h'.get? b=a7 o)(j:s.heap.objs.size<=T)(i:bD X.prog X.w (t8 H T o) h' T o):p0 X pins σ (t8 H T o) { s with heap:=h',toks:=t' }:=by
 have a:H T=a8:=I.hok.fresh j;have g:∀b u,s.heap.get? b=a7 u->b≠T:=λb u e=>v7<|D6 (u7 e) j;have p:∀b u,H b=a7 u->b∉fp:=λb u e z=>by rw[(h b z).1]at e;cases e
 refine I.step (g':=s.gens) (d':=s.drawn) (ch:=fp) (λb d=>⟨(h b d).2.2.2.1,(h b d).2.1,(h b d).2.2.2.2.1,(h b d).2.2.2.2.2⟩) (λb o _ _ f e _=>k b o f e) (λb o _ _ f e _=>⟨o.slots,k b o f e⟩) (λb u _ e n=>by rw[af<|g b u e];exact n) (λb o f e=>⟨o,k b o f e⟩) (λb xs q=>by rw[af<|ac q a];exact q) (λb u xs q=>by rw[af<|ac q a];exact q) (λb ps q=>⟨#[],by rw[af<|ac q a,q];simp⟩) (λm t=>?_) (λb u e=>?_) I.bare;obtain⟨o,es,l,D,r⟩:=t;exact⟨o,es,l,k _ o (λz=>(h _ z).2.1 rfl) D,r⟩;by_cases d:b=T;subst d;rw[aB]at e;cases e;exact i;rw[af d]at e;refine(I.hok b u e).stay (λc v f q=>k c v ?_ q) (λc q=>by rw[af<|ac q a];exact q) λc xs q=>by rw[af<|ac q a];exact q
 rcases f with rfl|z;exact p _ u e;exact p _ _ z
def Sq(t:Bool)(K:q9)(H:Hp)(a:d5)(xs:List V):Prop:=if t=a9 then x9 K H a xs else Fn K H a xs
def IW(t:Bool)(h:d7)(i l:d5)(k:Nat):Prop:=if t=a9 then h.IsTupleIter i l k else h.IsListIter i l k
def ID(t:Bool)(h:d7)(l:d5)(xs:Array c6):Prop:=if t=a9 then h.IsTuple l xs else h.IsList l xs
theorem IW.at(x:IW t h i l k)(e:∀o,h.get? i=a7 o->h'.get? i=a7 o):IW t h' i l k:=by
 cases t with
 |true=>exact(show h.IsTupleIter i l k from x).at e
 |false=>exact(show h.IsListIter i l k from x).at e
theorem IW.obj(x:IW t h i l k):∃o,h.get? i=a7 o/\∀v,o.data≠.cell v:=by
 cases t with
 |true =>
  obtain⟨o,e,c,d⟩:=(show h.IsTupleIter i l k from x)
  exact⟨o,e,λv z=>by rw[d]at z;cases z⟩
 |false =>
  obtain⟨o,e,c,d⟩:=(show h.IsListIter i l k from x)
  exact⟨o,e,λv z=>by rw[d]at z;cases z⟩
theorem Sq.is(I:p0 X pins σ H s)(h:Sq t X.K H a xs):∃its,ao xs its/\ID t s.heap a its.toArray/\xs.length<=sizeLine:=by
 cases t with
 |true=>exact I.tuple<|show x9 X.K H a xs from h
 |false=>obtain⟨its,f,p,b⟩:=I.list<|show Fn X.K H a xs from h;exact⟨its,f,p.isList,b⟩
theorem Sq.inj(I:p0 X pins σ H s)(h:Sq t X.K H a xs)(h':Sq t X.K H a ys):xs=ys:=by
 cases t with
 |true=>exact I.tuple_inj h h'
 |false=>exact I.list_inj h h'
theorem Sq.ne(I:p0 X pins σ H s)(h:Sq t X.K H a xs)(f:oY X pins H b):a≠b:=by
 have c:∀o,X.K.lookup a=a7 o->a≠b:=λo k=>by have d:=I.mod.kin a o k;rcases f.2.2.2.1 with z|z;intro q;subst q;exact I.ok.noex a o d z;exact v7<|D6 (u7 d)<|F6 I.ok.bsz z
 cases t with
 |true =>
  rcases(show x9 X.K H a xs from h)with(h|⟨_,h⟩)|⟨o,its,n,k,_⟩
  exact ac h f.1;exact ac h f.1;exact c o k
 |false =>
  rcases(show Fn X.K H a xs from h)with(h|⟨_,h⟩)|⟨o,its,n,k,_⟩
  exact ac h f.1;exact ac h f.1;exact c o k
theorem fZ(a:A.handled=a8)(t:Bool)(it l:d5)(b:l≠it)(s:Array c6):Draws prog w A it [it,l] s.size (λi v=>s[i]?=a7 v) (λi h=>IW t h it l i/\ID t h l s):=by
 cases t with
 |true=>exact qq a it l b s
 |false=>exact Draws.list a it l b s
noncomputable def Nx(K:q9)(D E:Bool)(l c:d5):It:=⟨λi H=>∃xs ys x y,Sq D K H l xs/\Sq E K H c ys/\xs[i]?=a7 x/\ys[i]?=a7 y,λi H v H'=>∃T x y,v=.ref T/\H T=a8/\H'=t8 H T (.tup [x,y])/\(∀xs,Sq D K H l xs->xs[i]?=a7 x)/\∀ys,Sq E K H c ys->ys[i]?=a7 y,λi H=>∃xs ys,Sq D K H l xs/\Sq E K H c ys/\(i=xs.length\/(i<xs.length/\i=ys.length))⟩
def Nw(D E:Bool)(z TI TO c d l e:d5)(i:Nat)(h:d7):Prop:=IsZip h z TI TO .none/\m3 h TI (.ref c) (.ref d)/\(∃a b,m3 h TO a b)/\IW D h c l i/\IW E h d e i
theorem yo{P:c9}{w:c8}{K:q9}{Y:List ge}{x1:Nat}{bS:Pos}{t1 t2:Bool}{z TI TO j l M G:d5}(nd:[z,TI,TO,j,l].Nodup):Turn P w K (.Tuple Y x1 bS) (Nx K t1 t2 M G) [z,TI,TO,j,l] z (Nw t1 t2 z TI TO j l M G) where
 mem:=z0
 obj:=λi h ⟨u,g,⟨a,b,J⟩,h1,h2⟩ c d=>by simp only[u8,Iy,or_false]at d;rcases d with rfl|rfl|rfl|rfl|rfl;exact⟨_,u,λv q=>nomatch q⟩;exact⟨_,g,λv q=>nomatch q⟩;exact⟨_,J,λv q=>nomatch q⟩;exact h1.obj;exact h2.obj
 keep:=λi h h' ⟨u,g,⟨a,b,J⟩,h1,h2⟩ k=>⟨k z (by simp) _ u,k TI (by simp) _ g,⟨a,b,k TO (by simp) _ J⟩,h1.at λo e=>k j (by simp) o e,h2.at λo e=>k l (by simp) o e⟩
 item:=by
  rintro X hP hw hK d i as s σ H E I U ⟨u,g,⟨a,b,J⟩,h1,h2⟩ ⟨xs,ys,x,y,n,p,hx,hy⟩;subst hP hw hK;obtain⟨us,ru,iu,bs⟩:=n.is I;obtain⟨vs,rv,iv,bw⟩:=p.is I;have lu:=ru.length;have lv:=rv.length;have f:=U;have C:=nd;simp only[HR,u8,Iy,or_false,not_or]at C;obtain⟨⟨Q,aD,L,R⟩,⟨S,V,W⟩,⟨r,t⟩,B,_⟩:=C;have a1:M≠j:=n.ne I (f j<|by simp);have a2:G≠l:=p.ne I (f l<|by simp);have Z:ZA z TI TO j l [j,M] [l,G]:=⟨nd,by simp[L,v5<|n.ne I<|f z<|by simp],by simp[r,v5<|n.ne I<|f TO<|by simp],by simp[v5 B,v5<|n.ne I<|f l<|by simp],by simp[R,v5<|p.ne I<|f z<|by simp],by simp[t,v5<|p.ne I<|f TO<|by simp],by simp[B,v5<|p.ne I<|f j<|by simp]⟩
  have ix:i<us.length:=by have:=(w9.mp hx).1;lia
  have iy:i<vs.length:=by have:=(w9.mp hy).1;lia
  have hT:s.TypeIs (.ref z) "zip":=⟨_,u,rfl⟩
  unfold i7;refine o8<|Jc<|Ih (name:=AA1 "__next__") hT F.slot_zip_next<|E8 F.slot_zip_next hT F.entry_zip_next ?_<|F.args_zip_next_1<|.ref z;refine yg (k:=i) (fZ (show X.A.in1.handled=a8 from I.ok.hd d) t1 j M a1 us.toArray) (fZ (show X.A.in1.handled=a8 from I.ok.hd d) t2 l G a2 vs.toArray) Z u g J ⟨h1,iu⟩ ⟨h2,iv⟩ (by simpa using ix) (by simpa using iy) λh' tk px py T al an D bl ai s1 s2 hp hk=>p4 ⟨_,rfl,?_⟩;refine wpAny_letOwnedTupleGo_zip bl λh2 bm m=>?_;have ch:T≠z:=λq=>by subst q;exact n6 (u7 u)<|Nat.not_lt_of_le D
  obtain⟨N,aP,cd⟩:=ru.get hx;obtain⟨O,aS,ce⟩:=rv.get hy;have e1:N=px:=by rw[List.getElem?_toArray,aP]at al;exact A1 al
  have e2:O=py:=by rw[List.getElem?_toArray,aS]at an;exact A1 an
  subst e1 e2;have bk:m3 h2 T N O:=m.extBut _ _ ch hp;refine⟨.ref T,t8 H T<|.tup [x,y],?_,rfl,⟨T,x,y,rfl,I.hok.fresh D,rfl,λzs hq=>by rw[hq.inj I n];exact hx,λzs hq=>by rw[hq.inj I p];exact hy⟩,⟨bm,m.extBut _ _ (v5 Q)<|hk _ _ (v5 Q) S V W g,⟨_,_,m.extBut _ _ (v5 aD) ai⟩,s1.1.at λo e=>m.extBut _ _ (v5 L) e,s2.1.at λo e=>m.extBut _ _ (v5 R) e⟩,λc d=>?_⟩;refine I.turnedT (t':=tk) U (λc o d e=>?_) D ⟨by simp[Ip],[N,O],.cons cd<|.cons ce .nil,⟨_,bk,rfl,⟨0,rfl⟩,rfl⟩⟩;simp only[u8,Iy,or_false,not_or]at d;exact m.extBut _ _ d.1<|hk _ _ d.1 d.2.2.1 d.2.2.2.1 d.2.2.2.2 e;obtain⟨oc,ec⟩:∃o,s.heap.get? c=a7 o:=by simp only[u8,Iy,or_false]at d;rcases d with rfl|rfl|rfl|rfl|rfl;exact⟨_,u⟩;exact⟨_,g⟩;exact⟨_,J⟩;obtain⟨o,e,_⟩:=h1.obj;exact⟨o,e⟩;obtain⟨o,e,_⟩:=IW.obj ‹IW t2 s.heap _ G i›;exact⟨o,e⟩
  rw[af<|v7<|D6 (u7 ec) D];exact(U c d).1
 done:=by
  rintro X hP hw hK d i as s σ H E I U ⟨u,g,⟨a,b,J⟩,h1,h2⟩ ⟨xs,ys,n,p,aj⟩;subst hP hw hK;obtain⟨us,ru,iu,bs⟩:=n.is I;obtain⟨vs,rv,iv,bw⟩:=p.is I;have lu:=ru.length;have lv:=rv.length;have f:=U;have C:=nd;simp only[HR,u8,Iy,or_false,not_or]at C;obtain⟨⟨Q,aD,L,R⟩,⟨S,V,W⟩,⟨r,t⟩,B,_⟩:=C;have a1:M≠j:=n.ne I (f j<|by simp);have a2:G≠l:=p.ne I (f l<|by simp);have Z:ZA z TI TO j l [j,M] [l,G]:=⟨nd,by simp[L,v5<|n.ne I<|f z<|by simp],by simp[r,v5<|n.ne I<|f TO<|by simp],by simp[v5 B,v5<|n.ne I<|f l<|by simp],by simp[R,v5<|p.ne I<|f z<|by simp],by simp[t,v5<|p.ne I<|f TO<|by simp],by simp[B,v5<|p.ne I<|f j<|by simp]⟩
  have hT:s.TypeIs (.ref z) "zip":=⟨_,u,rfl⟩
  unfold i7;refine o8<|Jc<|Ih (name:=AA1 "__next__") hT F.slot_zip_next<|E8 F.slot_zip_next hT F.entry_zip_next ?_<|F.args_zip_next_1<|.ref z;refine yi (k:=i) (fZ (show X.A.in1.handled=a8 from I.ok.hd d) t1 j M a1 us.toArray) (fZ (show X.A.in1.handled=a8 from I.ok.hd d) t2 l G a2 vs.toArray) Z u g J ⟨h1,iu⟩ ⟨h2,iv⟩ ?_ λh' tk e hk ⟨o,ho,aT⟩=>?_;rw[v6,v6,<-lu,<-lv];exact aj;refine o8<|JT (T:="StopIteration") (b:=a9) ⟨o,ho,aT⟩ Lp<|p4 ⟨rfl,?_⟩;refine I.turnedL (t':=tk) U λc o d e=>?_;simp only[u8,Iy,or_false,not_or]at d;exact hk _ _ d.1 d.2.2.1 d.2.2.2.1 d.2.2.2.2 e
 self:=λ_ _ _ _ _ st h=>wpAny_pyIter_zip st.1 h
end
noncomputable abbrev La(t:Bool)(l:d5):d6:={ cls:=.type<|if t=a9 then "tuple_iterator" else "list_iterator",data:=.fields #[.ref l,.int 0 0] }
theorem sj(h:ID t s.heap l xs)(q:Q (.ref s.heap.objs.size) { s with heap:=s.heap.push (La t l) }):f9 (g7 prog w) A (i9<|.ref l) Q E s:=by
 cases t with
 |true=>exact wpAny_pyIter_tuple (show s.heap.IsTuple l xs from h) q
 |false=>exact wpAny_pyIter_list (show s.heap.IsList l xs from h) q
noncomputable abbrev LM(h:d7)(t1:Bool)(l1:d5):d7:=h.push<|La t1 l1
noncomputable abbrev LL(h:d7)(t1 t2:Bool)(l1 l2:d5):d7:=(LM h t1 l1).push<|La t2 l2
noncomputable abbrev LK(h:d7)(t1 t2:Bool)(l1 l2:d5):d7:=(LL h t1 t2 l1 l2).push { cls:=.type "tuple",data:=.seq #[.ref h.objs.size,.ref (LM h t1 l1).objs.size] }
noncomputable abbrev LJ(h:d7)(t1 t2:Bool)(l1 l2:d5):d7:=(LK h t1 t2 l1 l2).push { cls:=.type "tuple",data:=.seq #[.none,.none] }
noncomputable abbrev KC(h:d7)(t1 t2:Bool)(l1 l2:d5):d7:=(LJ h t1 t2 l1 l2).push { cls:=.type "zip",data:=.fields #[.none,.bool c5,.bool c5,.ref (LL h t1 t2 l1 l2).objs.size,.ref (LK h t1 t2 l1 l2).objs.size] }
theorem ID.push(x:ID t h l xs)(o:d6):ID t (h.push o) l xs:=by
 cases t with
 |true=>obtain⟨u,e,r⟩:=(show h.IsTuple l xs from x);exact(show (h.push o).IsTuple l xs from⟨u,u4 _ e,r⟩)
 |false=>obtain⟨u,e,r⟩:=(show h.IsList l xs from x);exact(show (h.push o).IsList l xs from⟨u,u4 _ e,r⟩)
theorem yh(D E:Bool)(l c:d5)(xs ys:Array c6):Meets (Builtin.«zip.__new__» ⟨[.type "zip",.ref l,.ref c],[]⟩) (λ_ R s=>ID D s.heap l xs/\ID E s.heap c ys/\R (.ok<|.ret<|.ref (LJ s.heap D E l c).objs.size) { s with heap:=KC s.heap D E l c }):=.of_wp λf w A R s h=>by
  obtain⟨p,g,d,u,o⟩:=s;obtain⟨a,b,h⟩:=h;have e:=sub_zip;have r:ID D (Shared.heap ⟨p,g,d,u,o⟩) l xs:=a;have m:ID E (Shared.heap ⟨p.push<|La D l,g,d,u,o⟩) c ys:=b.push _
  wp_walk using sj r,sj m
  exact⟨_,rfl,h⟩
theorem xQ(h1:ID t1 s.heap l1 xs)(h2:ID t2 s.heap l2 ys)(h:∀h',Nw t1 t2 (s.heap.objs.size+4) (s.heap.objs.size+2) (s.heap.objs.size+3) s.heap.objs.size (s.heap.objs.size+1) l1 l2 0 h'->(∀c o,s.heap.get? c=a7 o->h'.get? c=a7 o)->Q (.ref<|s.heap.objs.size+4) { s with heap:=h' }):f9 (g7 prog w) A (call (.type "zip") [.ref l1,.ref l2]) Q E s:=by
 refine callType_new F.called_zip (by decide) (F.typeCall_zip_2 _ _) (F.newCall_zip_2 _ _) (λj=>F.args_object_init_3 j _ _) F.entry_zip_new (yh t1 t2 l1 l2 xs ys) ⟨h1,h2,?_⟩;have z:(LM s.heap t1 l1).objs.size=s.heap.objs.size+1:=HH ..;have y:(LL s.heap t1 t2 l1 l2).objs.size=s.heap.objs.size+2:=by rw[HH,z]
 have b:(LK s.heap t1 t2 l1 l2).objs.size=s.heap.objs.size+3:=by rw[HH,y]
 have k:(LJ s.heap t1 t2 l1 l2).objs.size=s.heap.objs.size+4:=by rw[HH,b]
 have p:∀{h:d7}{c:d5}{o:d6} (u:d6),h.get? c=a7 o->(h.push u).get? c=a7 o:=λu e=>u4 _ e;have g:(KC s.heap t1 t2 l1 l2).get? (LJ s.heap t1 t2 l1 l2).objs.size=a7 _:=v8 _ rfl;have d:(KC s.heap t1 t2 l1 l2).get? (LK s.heap t1 t2 l1 l2).objs.size=a7 _:=p _<|v8 _ rfl;have g3:(KC s.heap t1 t2 l1 l2).get? (LL s.heap t1 t2 l1 l2).objs.size=a7 _:=p _<|p _<|v8 _ rfl;have i:(KC s.heap t1 t2 l1 l2).get? (LM s.heap t1 l1).objs.size=a7 _:=p _<|p _<|p _<|v8 _ rfl;have g1:(KC s.heap t1 t2 l1 l2).get? s.heap.objs.size=a7 _:=p _<|p _<|p _<|p _<|v8 _ rfl;have f:∀(t:Bool) (h:d7) (a l:d5),h.get? a=a7 (La t l)->IW t h a l 0:=λt h a l e=>by cases t<;>exact⟨_,e,rfl,rfl⟩
 show _/\_;rw[y,b,k]at g;rw[z,y]at g3;rw[b]at d;rw[z]at i;rw[k];exact⟨⟨_,g,rfl⟩,h _ ⟨g,g3,⟨_,_,d⟩,f _ _ _ _ g1,f _ _ _ _ i⟩ λc o q=>p _<|p _<|p _<|p _<|p _ q⟩
noncomputable def zipD(xs ys:List D):List D:=(xs.zip ys).map λp=>.tup [p.1,p.2]
def xY(M:p8)(x:D)(xs:List D)(ok:p8->Prop):Prop:=match x with
 |.tup ds=>xs=ds/\ok=λ_=>True
 |.ref n=>ak M n xs/\ok=λM=>ak M n xs
 |_=>False
def dZip(t:D7):Ib:=λS M R=>t S M λds a=>match ds with
 | [x,y]=>∃xs ys o1 o2,xY a x xs o1/\xY a y ys o2/\R ⟨zipD xs ys,λM=>o1 M/\o2 M⟩ a
 |_=>False
theorem As:e8 "zip" = a7 (.type "zip"):=by decide +kernel
theorem xY.sq{X:Cx}(m:t5 X.K ρ M H)(h:xY M x xs ok)(r:p9 X.K ρ H x v)(e:aG v u):∃(t:Bool) (l:d5),u=.ref l/\ok M/\∀ρ' M' H',t5 X.K ρ' M' H'->Grow X.K ρ H ρ' H'->ok M'->∃vs,Sq t X.K H' l vs/\Reps X.K ρ' H' xs vs:=by
 unfold xY at h;split at h;obtain⟨rfl,rfl⟩:=h;obtain⟨a,vs,rfl,q,r⟩:=p9.inv_tup r;cases e;exact⟨a9,a,rfl,trivial,λρ' M' H' s g _=>⟨vs,g.tup a vs q,r.grow g⟩⟩;obtain⟨h,rfl⟩:=h;cases r with
 |@ref n a f=>cases e;exact⟨c5,a,rfl,h,λρ' M' H' s g ok=>ak.seq s ok<|am g.pre f⟩
 exact h.elim
theorem Hw.zip{ρ:List d5}{H:Hp}{xs ys:List D}{o1 o2:p8->Prop}{t E:Bool}{l h:d5}{K:q9}(h1:∀ρ' M' H',t5 K ρ' M' H'->Grow K ρ H ρ' H'->o1 M'->∃vs,Sq t K H' l vs/\Reps K ρ' H' xs vs) (h2:∀ρ' M' H',t5 K ρ' M' H'->Grow K ρ H ρ' H'->o2 M'->∃vs,Sq E K H' h vs/\Reps K ρ' H' ys vs):Hw K ⟨zipD xs ys,λM=>o1 M/\o2 M⟩ ρ H (Nx K t E l h) where
 go:=λi ρ' M' H' m g ok hi=>by
  obtain⟨vs,c,r⟩:=h1 ρ' M' H' m g ok.1;obtain⟨s,j,f⟩:=h2 ρ' M' H' m g ok.2;have w:i<xs.length/\i<ys.length:=by simpa [zipD,Nat.lt_min]using hi
  have k:=r.length;have o:=f.length;exact⟨vs,s,_,_,c,j,u9 (by lia),u9<|by lia⟩
 yld:=λi ρ' M' H' x B m g ok hi y=>by obtain⟨vs,c,r⟩:=h1 ρ' M' H' m g ok.1;obtain⟨s,j,f⟩:=h2 ρ' M' H' m g ok.2;obtain⟨T,a,b,rfl,n,rfl,p,q⟩:=y;obtain⟨d,u,z⟩:=r.getV<|p vs c;obtain⟨e,v,A⟩:=f.getV<|q s j;refine⟨.tup [d,e],ρ',?_,m.laid n,Grow.laid n,.tup (x9.of aB)<|.cons (z.grow<|Grow.laid n)<|.cons (A.grow<|Grow.laid n) .nil⟩;show (zipD xs ys)[i]?=_;have:(xs.zip ys)[i]?=a7 (d,e):=List.getElem?_zip_eq_some.mpr ⟨u,v⟩;rw[zipD,C2,this];rfl
 stop:=λρ' M' H' m g ok=>by obtain⟨vs,c,r⟩:=h1 ρ' M' H' m g ok.1;obtain⟨s,j,f⟩:=h2 ρ' M' H' m g ok.2;have k:=r.length;have o:=f.length;refine⟨vs,s,c,j,?_⟩;show (zipD xs ys).length=_\/_;rw[zipD,t7,List.length_zip];lia
theorem GW(F:X.mg "zip" = a8)(D:DA X [a,b] ta)(E:Gl X "zip":=by rfl)(hs:g9 [a,b] X.env=[(c5,eval a X.env),(c5,eval b X.env)]:=by rfl)(i:g9 [b] X.env=[(c5,eval b X.env)]:=by rfl):DI X (.Tuple elts x1 q) (.Call (.Name "zip" p) [a,b] [] pos) (dZip ta):=by
 intro l s σ H R I h;obtain⟨S,M,ρ,Q,Z,sr,G,k⟩:=h;refine Call_ (dS I E F As<|LH (u3 (D pos l s σ H _ I ⟨S,M,ρ,_,Z,sr,G,λv H' w=>w⟩) ?_) (by rw[hs,i])<|by rw[i];rfl);rintro us d ⟨vs,m,g,r,ds,o,e,j,g1,f,n⟩
 try dsimp only at n
 split at n;obtain⟨xs,ys,o1,o2,w1,w2,V⟩:=n
 first|have z:=Reps.inv_cons f|have z:=ao.inv_cons f
 clear f;obtain⟨_,_,rfl,B,f⟩:=z
 first|have z:=Reps.inv_cons f|have z:=ao.inv_cons f
 clear f;obtain⟨_,_,rfl,C,f⟩:=z;cases f
 first|have z:=Reps.inv_cons r|have z:=ao.inv_cons r
 clear r;obtain⟨_,_,rfl,y,r⟩:=z
 first|have z:=Reps.inv_cons r|have z:=ao.inv_cons r
 clear r;obtain⟨_,_,rfl,A,r⟩:=z;cases r;obtain⟨t1,l1,rfl,L,t⟩:=w1.sq j B y;obtain⟨t2,l2,rfl,P,N⟩:=w2.sq j C A;obtain⟨as,W,_⟩:=t e o m j .refl L;obtain⟨bs,Y,_⟩:=N e o m j .refl P;obtain⟨is,_,J,_⟩:=W.is g;obtain⟨js,_,K,_⟩:=Y.is g;refine xQ J K λh' x T=>?_;refine wpAny_pyIter_zip x.1 ?_;have U:[d.heap.objs.size+4,d.heap.objs.size+2,d.heap.objs.size+3,d.heap.objs.size,d.heap.objs.size+1].Nodup:=by simp
 refine⟨d.heap.objs.size+4,_,_,_,m,rfl,g.kept (t':=d.toks) T,yo U,x,λc u=>?_,k _ m ⟨_,o,e,j,g1,Hw.zip t N,V⟩⟩;have O:d.heap.objs.size<=c:=by simp only[u8,Iy,or_false]at u;rcases u with rfl|rfl|rfl|rfl|rfl<;>first|exact KY _ _|exact t6 _
 exact g.fpOk O<|g.hok.fresh O;exact n.elim
theorem Reps.reverse{K:q9}{ρ:List d5}{H:Hp}:∀{ds:List D}{vs:List V},Reps K ρ H ds vs->Reps K ρ H ds.reverse vs.reverse
 |_,_,.nil=>.nil
 |_,_,.cons h r=>by simp only[Mg];exact r.reverse.append<|.cons h .nil
theorem pW{D:d5}{vs:List c6}{n:Nat}{Q:c6->f6->Prop}(j:s.heap.get? D=a7 (l8 "list" vs.toArray n))(h2:vs.length<2)(h:∀h' c,(∀b o,b≠D->s.heap.get? b=a7 o->h'.get? b=a7 o)->h'.get? D=a7 (l8 "list" vs.toArray c)->Q .none { s with heap:=h' }):f9 (g7 prog w) A (call (.builtin "list.sort") [.ref D]) Q E s:=by
 have f:vs.length<=sizeLine:=by rw[Ip];lia
 refine E8 slot_list_sort (⟨_,j,rfl⟩) entry_list_sort ?_<|args_list_sort<|.ref D;rw[list_sort_plain];refine o8<|KN j rfl<|o8<|Ki j rfl ?_ (by rw[v6];exact f)<|v9 _;obtain⟨l,e⟩:∃l,(s.heap.update D<|D8 λ_=>(#[]:Array c6)).get? D=a7 (l8 "list" #[] l):=⟨_,Km j λ_=>#[]⟩
 refine o8<|seqEpoch_at e rfl<|o8<|wpAny_newTuple (o8<|Kj (C9 ?_)<|v9 _) f;dsimp only;have g:vs.toArray.size<2:=by rw[v6];exact h2
 rw[m9 g,m9 g];refine o8<|p4 ?_;rw[StateT.run_pure];refine o8<|p4 ?_;dsimp only;generalize d:((s.heap.update D<|D8 λ_=>(#[]:Array c6)).push<|l8 "tuple" vs.toArray 0).push (l8 "list" #[] 0)=g3;have a:g3.get? D=a7 (l8 "list" #[] l):=by rw[<-d];exact u4 _<|u4 _ e
 have p:∀b o,b≠D->s.heap.get? b=a7 o->g3.get? b=a7 o:=λb o i q=>by rw[<-d];refine u4 _<|u4 _ ?_;rw[Kx _ _ _ _ i];exact q
 refine o8<|seqEpoch_at a rfl ?_;have r:∀us:List c6,us.length<2->(us.toArray.zip us.toArray).map (·.2)=us.toArray:=λus hu=>by
  match us,hu with
  | [],_=>simp
  | [v],_=>simp
  |_::_::_,hu=>simp at hu;lia
 have t:(arrOf<|SortSt.mk' general' (vs.toArray.zip vs.toArray) #[] 7 a8).map (·.2)=vs.toArray:=r vs h2;rw[t];refine o8 (Ki a rfl ?_ (v9 _)<|by rw[v6];exact Nat.le_succ_of_le f);simp only[show failedOf (SortSt.mk' general' (vs.toArray.zip vs.toArray) #[] 7 a8)=a8 from rfl,bne_self_eq_false,z6,o4];obtain⟨k,m⟩:∃k,(g3.update D<|D8 λ_=>vs.toArray).get? D=a7 (l8 "list" vs.toArray k):=⟨_,Km a λ_=>vs.toArray⟩
 refine p4 ⟨_,rfl,h _ k (λb o i q=>?_) m⟩;rw[Kx _ _ _ _ i];exact p b o i q
theorem Bt{k:Nat}{D:d5}{xs:List L2.D}{P:List V}{its:List c6}{R:VK}{h1:d7}{tk n:Nat}{m:c7->Option c6}{A:e9}{E:c6->f6->Prop}(hr:Room k X.A)(hA:A.units<=X.A.units+4)(I:p0 X pins σ H s)(sm:t5 X.K ρ M H)(so:SrtG M xs)(r:Reps X.K ρ H xs P)(O:ao P its)(T:s.heap.Ns X.env.locals m) (L:h1.Ns X.env.locals m) (l:∀b u,b≠X.env.locals->s.heap.get? b=a7 u->h1.get? b=a7 u) (J:s.heap.get? D=a8) (F:D≠X.env.locals) (ho:h1.get? D=a7 (l8 "list" its.toArray n))(kk:∀v H',((∀Q:DK,(∀ys,ys.Perm xs->Ea M ys->Q (.ref M.length) (M++[.lst ys]))->VQ X.K ρ H Q v H'))->R v H'):f9 (g7 X.prog X.w) A (call (.builtin "list.sort") [.ref D]) (λ_ s'=>EP X pins σ R (.ref D) s') E { s with heap:=h1,toks:=tk }:=by
 have lw:=r.length;have li:=O.length;have ai:=so.len;have N:H D=a8:=B9.none I.hok J;have y:∀b u,s.heap.get? b=a7 u->b≠D:=λb u e q=>by subst q;rw[J]at e;cases e
 by_cases h2:its.length<2;refine pW ho h2 λh' c G Y=>?_;have W:h'.Ns X.env.locals m:=by obtain⟨o,es,ep,e,aE⟩:=L;exact⟨o,es,ep,G _ _ (v5 F) e,aE⟩
 refine⟨.ref D,_,I.laidF (t':=tk) (o:=.lst P) (λb u g e=>G b u (y b u e)<|l b u g e) T W J N ⟨by rw[Ip];lia,its,c,O,Y⟩,rfl,kk _ _ λQ S=>VQ.laidL sm .refl r N<|S xs (JQ _) ?_⟩;unfold Ea
 match xs,(show xs.length<2 by lia) with
 | [],_=>exact KZ
 | [x],_=>exact LF _ _
 |_::_::_,hx=>simp at hx;lia
 have z:2<=its.length:=by lia
 have d:∀a o,(a,o)∈Att.ledger h1 X.env.locals D↔a≠X.env.locals/\a≠D/\h1.get? a=a7 o:=λa o=>Att.mem_ledger;have U:UpdF D (l8 "list" its.toArray n) ([]++(D,l8 "list" its.toArray n)::Att.ledger h1 X.env.locals D) λo'=>(D,o')::Att.ledger h1 X.env.locals D:=UpdF.head λp hp=>((d p.1 p.2).mp hp).2.1;refine kat_lsort (s:={ s with heap:=h1,toks:=tk }) (vs:=its) (Att.fr_all L) (Att.news_ledger F ho) U rfl z (by lia) λe1 h' F' N'=>?_;have kp:∀b u,b≠X.env.locals->s.heap.get? b=a7 u->h'.get? b=a7 u:=λb u g e=>(N' (b,u)<|w6 _<|(d b u).mpr ⟨g,y b u e,l b u g e⟩).1;have I':p0 X pins σ H { s with heap:=h',toks:=tk }:=I.keptF (t':=tk) kp T F'.ns;have hu:A.in1.units+p7<j5:=by have:=hr.un;have:p7=30:=rfl;show A.units+1+p7<j5;lia
 refine D4 (iT I' sm so r O z hu) (λκ s' hk=>?_) λ_ _ x=>x;obtain⟨rfl,B⟩:=hk;refine Srt.wp_run (n:=its.length) (c:=λi j=>if i<xs.length then(if j<xs.length then z7 M p7 (xs.getD i default) (xs.getD j default)else a9)else c5) (λi j C hi hj hc=>?_) _ (Srt.sort_bd<|by lia).1 ?_;refine B i j C hi hj ?_;rw[m9 (by lia),m9<|by lia]at hc;exact hc;have t:=Srt.All.run (c:=λi j=>if i<xs.length then(if j<xs.length then z7 M p7 (xs.getD i default) (xs.getD j default)else a9)else c5) _ (Srt.sort_bd (n:=its.length)<|by lia).2;obtain⟨o1,o2,o3⟩:=Cb so;have f:=Srt.sort_list xs (by lia) o1 o2 o3
 try dsimp only at f
 rw[show xs.length=its.length by lia]at f t ⊢;generalize Srt.run _ (I0 its.length)=p at t f ⊢;have hi:∀i∈p.toList,i<xs.length:=λi h=>by have:=t.mem_iff.mp h;rw[G8]at this;lia
 refine KasFin.intro F' N' (UpdF.head λq hq=>((d q.1 q.2).mp hq).2.1) λh2 c F2 N2=>?_;have r':=r.perm p.toList hi;have Z:=O.perm p.toList (λi h=>by have:=hi i h;lia);refine⟨.ref D,_,I.laidF (t':=tk) (o:=.lst<|p.toList.map λi=>P.getD i .non) (λb u g e=>(N2 (b,u)<|w6 _<|(d b u).mpr ⟨g,y b u e,l b u g e⟩).1) T F2.ns J N ⟨?_,_,c,Z,(N2 _ z0).1⟩,rfl,kk _ _ λQ S=>VQ.laidL sm .refl r' N<|S _ f.1 f.2⟩;rw[t7];have:=f.1.length_eq;rw[t7]at this;rw[Ip];lia
section
variable{K:q9}{ρ:List d5}{H:Hp}{M:p8}
theorem t5.laidM(S:t5 K ρ M H)(c:H p=a8)(ok:uy K (ρ++[p]) (t8 H p o) p mo):t5 K (ρ++[p]) (M++[mo]) (t8 H p o):=by
 have g:Grow K ρ H (ρ++[p]) (t8 H p o):=Grow.laidR c;have d:∀(n:Nat),ρ[n]?=a7 p->HZ M[n]?:=λn e=>by rcases S.tracked e with⟨o,q⟩|q;rw[c]at q;cases q;exact q
 refine⟨λn m a h t b=>?_,by rw[v4,v4,S.len];rfl,λn a f t b=>?_⟩;rcases aL t with r|⟨r,g1⟩
 rcases aL b with N|⟨N,i⟩
 exact(S.nd n m a h r N).elim (λz=>.inl z.more) λz=>.inr z.more;subst i;exact .inl (d n r).more;rcases aL b with N|⟨N,i⟩
 subst g1;exact .inr (d m N).more;exact n6 (r.trans N.symm) h;rcases aL t with r|⟨r,g1⟩
 have j:n<M.length:=by rw[<-S.len];exact(w9.mp r).1
 rw[G6 j]at b;exact(S.obj n a f r b).grow g<|S.keeps c r b;subst g1 r;rw[S.len,IB<|t6 _,Kf]at b;simp at b;subst b;exact ok
noncomputable def Aw(kvs:List (c7×D))(k:c7):Option D:=(kvs.find? λp=>decide<|p.1=k).map (·.2)
noncomputable def vP(kvs:List (c7×D))(k:c7)(d:D):List (c7×D):=if (kvs.any λp=>decide<|p.1=k)=a9 then kvs.map (λp=>if p.1=k then(p.1,d)else p)else kvs++[(k,d)]
theorem CZ(a b:c7):decide ((ACQ a:B8)=ACQ b)=decide (a=b):=AV a b
theorem qJ:∀{kvs:List (c7×D)}{vs:List V},Reps K ρ H (kvs.map (·.2)) vs->Aw kvs k=a7 d->∃v,uv (jI (kvs.map (·.1)) vs) (ACQ k)=a7 v/\p9 K ρ H d v
 | [],_,_,e=>by simp[Aw]at e
 |(k',d')::kvs,_,.cons h t,e=>by
  by_cases q:k'=k;subst q;have:d'=d:=by simpa [Aw]using e
  subst this;exact⟨_,by simp[jI,uv],h⟩;have e':Aw kvs k=a7 d:=by simpa [Aw,Iq,q]using e
  obtain⟨v,h1,h2⟩:=qJ t e';refine⟨v,?_,h2⟩;have:¬(ACQ k':B8)=ACQ k:=λz=>q<|Sum.inr.inj z;simpa [jI,uv,Iq,this]using h1
theorem sI:∀{kvs:List (c7×D)}{vs:List V},Reps K ρ H (kvs.map (·.2)) vs->((jI (kvs.map (·.1)) vs).any λkv=>decide<|kv.1=ACQ k)=kvs.any λp=>decide (p.1=k)
 | [],_,_=>rfl
 |(k',d')::kvs,_,.cons h t=>by
  have ih:=sI (k:=k) t;show (decide ((ACQ k':B8)=ACQ k)||(jI (kvs.map (·.1)) _).any _)=(decide (k'=k)||kvs.any _)
  rw[ih,CZ]
theorem rY(hd:p9 K ρ H d v):∀{kvs:List (c7×D)}{vs:List V},Reps K ρ H (kvs.map (·.2)) vs->∃vs',(jI (kvs.map (·.1)) vs).map (λkv=>if kv.1=ACQ k then(kv.1,v)else kv)=jI ((kvs.map λp=>if p.1=k then(p.1,d)else p).map (·.1)) vs'/\Reps K ρ H ((kvs.map λp=>if p.1=k then(p.1,d)else p).map (·.2)) vs'
 | [],_,.nil=>⟨[],rfl,.nil⟩
 |(k',d')::kvs,_,.cons (v:=v') h t=>by obtain⟨vs',e,r⟩:=rY (k:=k) hd t;by_cases q:k'=k;subst q;refine⟨v::vs',?_,?_⟩;simp only[A5,o5,jI,Kv]at e ⊢;rw[e];simp only[A5,o5];exact .cons hd r;have q':¬(ACQ k':B8)=ACQ k:=λz=>q<|Sum.inr.inj z;refine⟨v'::vs',?_,?_⟩;simp only[A5,n5 q,n5 q',jI,Kv]at e ⊢;rw[e];simp only[A5,n5 q];exact .cons h r
theorem nD:∀{kvs:List (c7×D)}{vs:List V},Reps K ρ H (kvs.map (·.2)) vs->jI (kvs.map (·.1)) vs++[(ACQ k,v)]=jI (kvs.map (·.1)++[k]) (vs++[v])
 | [],_,.nil=>rfl
 |(k',d')::kvs,_,.cons h t=>by have:=nD (k:=k) (v:=v) t;simp only[A5,jI,Kv,Kr]at this ⊢;rw[this]
theorem BF(h:p9 K ρ H d v)(r:Reps K ρ H (kvs.map (·.2)) vs):∃vs',putK (jI (kvs.map (·.1)) vs) (ACQ k) v=jI ((vP kvs k d).map (·.1)) vs'/\Reps K ρ H ((vP kvs k d).map (·.2)) vs':=by unfold putK vP;rw[sI r];by_cases q:(kvs.any λp=>decide<|p.1=k)=a9;rw[m9 q,m9 q];exact rY h r;rw[n5 q,n5 q];refine⟨vs++[v],?_,?_⟩;rw[nD r,C4];rfl;rw[C4];exact r.append<|.cons h .nil
end
def An(t c:u6):u6:=λS M Q=>t S M λx a=>c S a λy b=>match x,y with
 |.ref n,.str k=>∃s d,b[n]?=a7 (.dct s)/\Aw s k=a7 d/\Q d b
 |_,_=>False
theorem Hi{X:Cx}{o i:ge}{t y:u6}{a:Pos}(B:X.A.units+1<j5)(D:DE X o t)(hi:DE X i y)(hs:Eb i):DE X (.Subscript o i a) (An t y):=by
 refine PE.imp (BS B D hi hs) ?_;rintro σ H R ⟨S,M,ρ,Q,s,r,q,k⟩;refine⟨S,M,ρ,_,s,r,q,?_⟩;rintro v N ⟨d,l,c,L,g1,I,F⟩;refine⟨S,l,c,_,L,r.grow g1,F,?_⟩;rintro u O ⟨e,m,f,h,g,J,j⟩
 try dsimp only at j
 split at j;obtain⟨E,d,x,C,G⟩:=j;obtain⟨_,rfl,z⟩:=p9.inv_ref I;cases J;obtain⟨vs,p,K⟩:=h.obj _ _ _ (am g.pre z) x;obtain⟨w,n,b⟩:=qJ K C;exact⟨_,w,rfl,.inl ⟨_,ACQ _,.inl p,rfl,n.symm⟩,k _ _ ⟨d,m,f,h,g1.trans g,b,G⟩⟩;exact j.elim
structure LY(X:Cx)(es:List ge)(t:Be):Prop where
 ok:Ll X es t
section
variable{X:Cx}{e a b c o i tg:ge}{es aE:List ge}{te ta tb tc to ti:u6}{t:D7}{pos p p2 pos':Pos}{x:c7}{k:Nat}{g:HD}{u:Be}{name:c7}{apos cpos:Pos}
theorem CN:LY X [] jS:=⟨Dw⟩
theorem zH(h1:HG X e g)(h2:LY X es u)(hs:(i6 (e::es) X.env).map (·.2)=i5 e X.env::(i6 es X.env).map (·.2):=by kernel_rfl):LY X (e::es) (bh g u):=⟨Ai h1.ok h2.ok hs⟩
theorem FR(h:LY X es u)(f:X.calm=a9:=by kernel_rfl)(a:(i6 es X.env).length=n:=by kernel_rfl)(c:(i6 es X.env).findIdx? (·.1)=a8:=by kernel_rfl):HG X (.Tuple es j pos) (jR n u):=⟨GZ h.ok f a c⟩
theorem FS(D:HE X o to)(hi:HE X i ti)(f:∀v,i5 (.Subscript o i pos) X.env v=(do
   let ov <-i3 [v] (eval o X.env)
   let iv <-i3 [v,ov] (eval i X.env)
   standAt pos
   i3 [v,ov,iv] (setItem ov iv v)
   release [v,ov,iv] []):=by intro _;kernel_rfl):HG X (.Subscript o i pos) (Aj to ti):=⟨Ha D.ok hi.ok f⟩
theorem AU(i:HE X e te)(S:HG X tg g)(hs:swapsWithSole [tg] e pos.line X.env=pure c5:=by kernel_rfl)(w:swappedStores [tg] e X.env=pure a8:=by kernel_rfl)(h1:(i6 [tg] X.env).map (·.2)=[i5 tg X.env]:=by kernel_rfl):HS X (.Assign [tg] e pos) (dAsg te g):=⟨GT i.ok S.ok hs w h1⟩
theorem FO(d:X.mg "zip" = a8)(f:HA X [a,b] t)(S:X.env.kindOf "zip" = a7 .globalImplicit:=by kernel_rfl)(hs:g9 [a,b] X.env=[(c5,eval a X.env),(c5,eval b X.env)]:=by kernel_rfl)(c:g9 [b] X.env=[(c5,eval b X.env)]:=by kernel_rfl):HI X (.Tuple es x1 q) (.Call (.Name "zip" p) [a,b] [] pos) (dZip t):=⟨GW d f.ok S hs c⟩
theorem Dd:E6 X (j2 .Add) ba:=⟨Cm⟩
theorem Gr(i:Room k X.A):E6 X (j3 .Lt) EI:=⟨Fx i⟩
theorem zT:HC X (.type "tuple") fL:=⟨Ap⟩
theorem xn:KH X "extend" gG:=⟨_,PySem.F.slot_list_extend,PySem.F.type_list_extend,tJ⟩
def fN(n:Nat):C1:=λds M Q=>match ds with
 | []=>∃xs,M[n]?=a7 (.lst xs)/\Q .non (M.set n<|.lst xs.reverse)
 |_=>False
theorem pS:Ia X "list.reverse" (jt X.K fN):=by rintro p s σ H x xs v us R I g d ⟨n,a,ds,M,ρ,Q,c,f,m,b,q,k⟩;unfold fN at q;split at q;obtain⟨ys,e,q⟩:=q;cases b;obtain⟨vs,h,r⟩:=m.obj n a _ f e;obtain⟨L,w⟩:=m.write f e h r.reverse;exact tI p s σ H x _ v us R I g d ⟨a,vs,c,rfl,h,k _ _ ⟨.non,_,ρ,L,w,.non,q⟩⟩;exact q.elim
theorem tY:KH X "reverse" fN:=⟨_,PySem.F.slot_list_reverse,PySem.F.type_list_reverse,pS⟩
def dMl0(r:Nat->C1)(e:u6):u6:=λS M Q=>e S M λx a=>match x with
 |.ref n=>(∃xs,ak a n xs)/\r n [] a Q
 |_=>False
theorem k_ml0(m:KH X name r)(D:HE X o to)(e:k8 o name X.env (eval o X.env)=eval o X.env:=by kernel_rfl)(h:(apos.endLine==cpos.line)=a9:=by kernel_rfl):HE X (.Call (.Attribute o name apos) [] [] cpos) (dMl0 r to):=by
 obtain⟨id,h1,h2,j⟩:=m.ok;refine⟨PE.imp (Fe PySem.F.plainAttrs_list h1 h2 j D.ok e h) ?_⟩;rintro σ H R ⟨S,M,ρ,Q,s,t,q,k⟩;refine⟨S,M,ρ,_,s,t,q,?_⟩;rintro v u ⟨d,b,f,i,g1,p,c⟩;cases p with
 |@ref n a g =>
  obtain⟨⟨xs,L⟩,c⟩:=(show (∃xs,ak b n xs)/\r n [] b _ from c)
  obtain⟨vs,l,_⟩:=ak.seq i L g;exact⟨.inl ⟨rfl,vs,l⟩,n,a,[],b,f,Q,rfl,g,i,.nil,c,λv H' w=>k v H'<|VQ.trans g1 w⟩
 |_=>exact c.elim
theorem yK(i:Room k X.A):X.A.units+1<j5:=by have:=i.un;lia
theorem Ge(r:Room k X.A)(D:HE X o to)(hi:HE X i ti)(hs:Eb i:=by intro _ _;kernel_rfl):HE X (.Subscript o i pos) (An to ti):=⟨Hi (yK r) D.ok hi.ok hs⟩
end
def Et(t:Nat)(s:List Nat)(wi:TI)(g:TG)(tt:TT)(te:TE)(N:TG):TS:=λD σ H=>LN t s wi g tt te σ H λv a=>N v σ a D.nx
theorem yQ(B:BlkSc X N' nt js scope)(hc:X.calm=a9)(hi:PI X tg iter wi)(hg:∀cl s0 H0 ex,PG (x6 X N' scope cl s0 H0 ex) tg g) (ht:∀cl s0 H0 ex,IX (x6 X N' scope cl s0 H0 ex) ifs tt) (he:∀cl s0 H0 ex,PE (x6 X N' scope cl s0 H0 ex) elt te) (hn:PG X (.Name x pos') gN)(hs:∀x,j1 iter X.env x=pure x) (an:i4 (.ListComp elt [⟨tg,iter,ifs,0⟩] scope pos) (a7<|.Name x pos') pos2.line X.env=pure a9):PS X (.Assign [.Name x pos'] (.ListComp elt [⟨tg,iter,ifs,0⟩] scope pos) pos2) (Et nt js wi g tt te gN):=by
 intro f s σ H Dn I h;rw[exec_Assign_Name_used _ _ _ _ an];refine o8<|wpAny_standAt ?_;obtain⟨cl,V,j,E⟩:=ig (scope:=scope) (env:=X.env) λp l hf=>I.ok.has p.1<|B.free p l hf;refine o8<|show f9 (g7 X.prog X.w) X.A (comprehension (.ListComp elt [⟨tg,iter,ifs,0⟩] scope pos) scope X.env _ (newList []) c5 (eval iter X.env) (a7<|i5 (.Name x pos') X.env) >>= λ_=>pure ()) _ _ _ from o8 ?_;refine wpAny_comprehension_free (use:=a7<|i5 (.Name x pos') X.env) (Q:=λ_ u=>f9 (g7 X.prog X.w) X.A (pure ()) (λ_ s3=>f9 (g7 X.prog X.w) X.A (pure Flow.next) (SP X f Dn) X.xe s3) X.xe u) rfl hs V B.kind B.loc ?_;refine u3 (hi f s σ H _ I h) λv s1 h1=>u3 h1 λaD a h2=>?_;obtain⟨it,fp,tn,J,H2,e,m,T,U,N,W,⟨m0,w0⟩,M⟩:=h2;subst e;refine F8<|wpAny_newFunctionEnv B.nocell (by intro y hy;simp at hy) (λh1 F G=>?_) B.kind;have r:∀b∈fp,b<a.heap.objs.size:=λb i=>by obtain⟨o,e,_⟩:=T.obj _ _ U b i;exact u7 e
 have hC:(a.heap.push<|bO [] 0).objs.size=a.heap.objs.size+1:=HH ..;have K:∀b o,(a.heap.push<|bO [] 0).get? b=a7 o->h1.get? b=a7 o:=λb o e=>(G.2 b<|v7<|u7 e).trans<|u4 _ e;have I3:=m.blkStart (tk:=a.toks+([]:List (c7×c6)).length) B j E N r K F;have L:tn 0 h1:=T.keep _ _ _ U λb _ o e=>K b o<|u4 _ e;have ai:a.heap.objs.size∉fp:=λz=>D5 _<|r _ z;have aj:a.heap.objs.size∉G0 X.stack:=λz=>by rcases u8.mp (m.stkSub _ z)with q|q;exact n6 m.lt (by rw[<-q];exact D5 _);exact m.nofs (t6 _) q
 have D:a.heap.objs.size≠(a.heap.push<|bO [] 0).objs.size:=by rw[hC];exact v7<|HJ _
 have ltc:∀z c,cl.lookup z=a7 c->c<a.heap.objs.size:=λz c e=>by obtain⟨v,q⟩:=m.cell z c<|j z c e;exact q.lt
 have t:∀b∈fp,b≠(a.heap.push<|bO [] 0).objs.size/\b∉G0 X.stack/\∀x c,cl.lookup x=a7 c->c≠b:=λb i=>by refine⟨by rw[hC];exact v7<|JX<|r b i,λz=>?_,λx c e=>(N b i).2.2.2.2.1 x c<|j x c e⟩;rcases u8.mp (m.stkSub b z)with q|q;exact(N b i).2.1 q;exact(N b i).2.2.1 q
 have as:a.heap.objs.size<=(a.heap.push<|bO [] 0).objs.size:=by rw[hC];exact KM _
 have n:j7 (g7 X.prog X.w) X.A (.compLoop (.ListComp elt [⟨tg,iter,ifs,0⟩] scope pos) 0 (.ref it) (.ref a.heap.objs.size)<|compEnvC scope cl (a.heap.push<|bO [] 0).objs.size X.env) (compPost (g7 X.prog X.w) X.A X.xe (a7<|i5 (.Name x pos') X.env) (λ_ u=>f9 (g7 X.prog X.w) X.A (pure ()) (λ_ s3=>f9 (g7 X.prog X.w) X.A (pure Flow.next) (SP X f Dn) X.xe s3) X.xe u) (.ref a.heap.objs.size) (a.heap.push<|bO [] 0).objs.size) { a with heap:=h1,toks:=a.toks+([]:List (c7×c6)).length }:=by
  refine wO (s0:={ a with heap:=a.heap.push (bO [] 0) }) (H0:=H2) (N':=N') (Q:=λv H1=>gN v σ H1 Dn.nx) (Turn.at T hc) (hg _ _ _ _) (ht _ _ _ _) (he _ _ _ _) T ai M t D aj (λx c e=>v7<|ltc x c e) ?_ m0 I3 L (λb i=>(N b i).1) w0;intro τ H' s' vs its k R rv hl q;obtain⟨mm,al,_⟩:=id R.loc;obtain⟨C,es,Y,eC,aE⟩:=id al;have I5:p0 X f σ (t8 H' a.heap.objs.size<|.lst vs) s':=m.blkEnd N R rv hl ⟨rfl,λ_ _=>rfl⟩;have Z:t8 H' a.heap.objs.size (.lst vs) (a.heap.push<|bO [] 0).objs.size=a8:=by rw[af<|v5 D];exact R.free
  have fk:∀Hx:Hp,Hx (a.heap.push<|bO [] 0).objs.size=a8->oY X f Hx (a.heap.push<|bO [] 0).objs.size:=λHx hx=>m.fpOk as hx;have dC:∀v,C.data≠.cell v:=λv z=>by
   have:∃es Y,C.data=.dict es Y:=by
    first
     |(obtain⟨d,_⟩:=aE;exact⟨_,_,d⟩)
     |(obtain⟨_,d,_⟩:=aE;exact⟨_,_,d⟩)
     |(obtain⟨_,_,d,_⟩:=aE;exact⟨_,_,d⟩)
   obtain⟨_,_,d⟩:=this;rw[d]at z;cases z
  have I6:p0 X (f++[((a.heap.push<|bO [] 0).objs.size,C)]) σ (t8 H' a.heap.objs.size<|.lst vs) s':=I5.pins_of λp l=>by
   rcases B7.mp l with l|l;exact I5.pin p<|A8 _ l;have:p=((a.heap.push<|bO [] 0).objs.size,C):=by simpa using l
   subst this;exact⟨eC,Z,(fk _ Z).2.1,(fk _ Z).2.2.1,dC⟩
  refine u3 (hn _ s' σ _ (.ref a.heap.objs.size) (.ref a.heap.objs.size) _ I6 rfl q) ?_;rintro _ s7 ⟨O,P,S,q7⟩;obtain⟨p1,p2,_⟩:=S.pin ((a.heap.push<|bO [] 0).objs.size,C)<|A8 _<|A8 _ z0;refine⟨mm,⟨C,es,Y,p1,aE⟩,λh' sb=>p4<|p4 ⟨O,P,?_,q7⟩⟩;have I8:p0 X f O P s7:=S.pins_of λp l=>S.pin p<|A8 _<|E3 _ l;refine I8.turnedL (t':=s7.toks) (fp:=[(a.heap.push<|bO [] 0).objs.size]) (λb i=>?_) λb o i e=>(sb.2 b<|by simpa using i).trans e;have:b=(a.heap.push<|bO [] 0).objs.size:=by simpa using i
  subst this;exact fk P p2
 exact codeAny_compStart_list n<|T.self _ 0 _ _ _ L n
def kZ(t:Nat)(s:List Nat)(b:Ib)(g:HD)(tt:E2)(te:u6)(i:Nat):p5:=λE S M=>H9 t s b g tt te S M λd a=>ar i d S a E.nx
theorem Ae(B:BlkSc X N' nt js scope)(f:X.calm=a9)(hi:DI X tg iter di)(l:∀cl s0 H0 ex,DG (x6 X N' scope cl s0 H0 ex) tg g) (t:∀cl s0 H0 ex,IX (x6 X N' scope cl s0 H0 ex) ifs<|lowT X.K tt) (j:∀cl s0 H0 ex,DE (x6 X N' scope cl s0 H0 ex) elt te) (n:DG X (.Name x pos') (ar i))(hs:∀x,j1 iter X.env x=pure x) (h:i4 (.ListComp elt [⟨tg,iter,ifs,0⟩] scope pos) (a7<|.Name x pos') pos2.line X.env=pure a9):DS X (.Assign [.Name x pos'] (.ListComp elt [⟨tg,iter,ifs,0⟩] scope pos) pos2) (kZ nt js di g tt te i):=PS.imp (yQ (g:=lowG X.K g) (tt:=lowT X.K tt) (te:=lowE X.K te) B f hi (λcl s0 H0 ex=>l cl s0 H0 ex) t (λcl s0 H0 ex=>j cl s0 H0 ex) n hs h) λE σ H ⟨S,M,ρ,F,s,e,q,k⟩ =>
  wG σ H _ ⟨S,M,ρ,_,s,e,q,λv p ⟨d,b,c,o,g1,r,m⟩=>⟨d,S,b,c,_,o,e.grow g1,r,m,λa H' w=>k.nx a H'<|SQ.trans g1 w⟩⟩
theorem zC(a:X.N.Nodup)(hi:HI X tg iter di)(S:∀cl s0 H0 ex,HG (x6 X N' scope cl s0 H0 ex) tg g) (E:∀cl s0 H0 ex,KG (x6 X N' scope cl s0 H0 ex) ifs tt) (e:∀cl s0 H0 ex,HE (x6 X N' scope cl s0 H0 ex) elt te) (B:lc X.env.scope.names X.N N' nt js scope=a9:=by kernel_rfl) (f:X.calm=a9:=by kernel_rfl)(hs:∀x,j1 iter X.env x=pure x:=by intro _;kernel_rfl) (w:i4 (.ListComp elt [⟨tg,iter,ifs,0⟩] scope pos) (a7<|.Name x pos') pos2.line X.env=pure a9:=by kernel_rfl)(h:X.N[i]?=a7 x:=by kernel_rfl) (c:DZ X.env.scope x=a9:=by kernel_rfl) (b:X.fn x=a9:=by kernel_rfl):HS X (.Assign [.Name x pos'] (.ListComp elt [⟨tg,iter,ifs,0⟩] scope pos) pos2) (kZ nt js di g tt te i):=⟨Ae (BlkSc.chk B) f hi.ok (λcl s0 H0 ex=>(S cl s0 H0 ex).ok) (λcl s0 H0 ex=>(E cl s0 H0 ex).ok) (λcl s0 H0 ex=>(e cl s0 H0 ex).ok) (qu a h (wI c)<|.inl b) hs w⟩
theorem LR:atI (a::r) 0=a7 a:=by have:=aA (xs:=a::r) (j:=0) (v:=a) rfl;simpa using this
theorem LQ:atI (a::b::r) 1=a7 b:=by have:=aA (xs:=a::b::r) (j:=1) (v:=b) rfl;simpa using this
theorem at2:atI (a::b::c::r) 2=a7 c:=by have:=aA (xs:=a::b::c::r) (j:=2) (v:=c) rfl;simpa using this
theorem bt.lst(h:R (.ref M.length) (M++[.lst xs]))(f:M.length<=n)(e:(M++L)[n]?=a7 (.lst xs))(b:Bels M.length xs):bt M R (.ref n) (M++L):=.inr<|.inr ⟨M,n,xs,.refl,rfl,f,e,G5 _ _,b,h⟩
theorem bt.chg(c:IG M M1)(h:R d M1)(b:A4 M.length d)(p:M1 <+: M'):bt M R d M':=.inr<|.inl ⟨M1,c,b,p,h⟩
theorem bt.chgL(c:IG M M1)(h:R (.ref M.length) (M1++[.lst xs]))(f:M.length<=n)(e:M'[n]?=a7 (.lst xs))(p:M1 <+: M')(b:Bels M.length xs):bt M R (.ref n) M':=.inr<|.inr ⟨M1,n,xs,c,rfl,f,e,p,b,h⟩
theorem iU:(M++a::L).set M.length b=M++b::L:=by rw[Nd _ _<|t6 _];simp
theorem gM:(M++a::L)[M.length]?=a7 a:=by simp
theorem iD(I:List D->List D->SD->p8->Prop)(h0:∀acc S M,I [] acc S M->ok M/\Q (.ref M.length) (M++[.lst acc]))(h1:∀x xs acc S M,I (x::xs) acc S M->∀K:List D->SD->p8->Prop,(∀acc S M,I xs acc S M->K acc S M)->ok M/\g x S M λS2 M2=>tt S2 M2 λb M3=>if b=a9 then te S2 M3 λy M4=>acc.length<sizeLine/\K (acc++[y]) S2 M4 else K acc S2 M3):∀xs acc S M,I xs acc S M->jV ok g tt te Q xs acc S M
 | [],acc,S,M,h=>h0 acc S M h
 |x::xs,acc,S,M,h=>h1 x xs acc S M h _<|iD I h0 h1 xs
noncomputable def KD:D->c7
 |.str x=>x
 |_=>Str.empty
theorem nM{ys:List D}{s:List c7}(h:ys.Perm (s.map D.str)):∃ns:List c7,ys=ns.map D.str/\ns.Perm s:=by
 refine⟨ys.map KD,?_,?_⟩;rw[G2];have:∀y∈ys,(D.str ∘ KD) y=y:=λy Q=>by obtain⟨x,_,rfl⟩:=y4.mp<|h.mem_iff.mp Q;rfl
 exact(K2 this ▸ (List.map_id' ys).symm:ys=ys.map (D.str ∘ KD));have:=h.map KD;rw[G2]at this;have e:(KD ∘ D.str)=id:=rfl
 rwa [e,JN]at this
theorem yN:(vP kvs k d).length<=kvs.length+1/\1<=(vP kvs k d).length:=by unfold vP;by_cases q:(kvs.any λp=>decide<|p.1=k)=a9;rw[m9 q,t7];obtain⟨p,h,_⟩:=KW.mp q;have:0<kvs.length:=List.length_pos_of_mem h;lia;rw[n5 q,v4,F9];lia
theorem sw:(M++a::b::L)[M.length+1]?=a7 b:=by rw[IB (by lia),show M.length+1-M.length=1 by lia];rfl
theorem yT{α:Type}(f:α->D)(g:D->α)(S:∀a,g (f a)=a){ys:List D}{l:List α}(h:ys.Perm (l.map f)):∃l':List α,ys=l'.map f/\l'.Perm l:=by
 refine⟨ys.map g,?_,?_⟩;rw[G2];have:∀y∈ys,(f ∘ g) y=y:=λy Q=>by obtain⟨x,_,rfl⟩:=y4.mp<|h.mem_iff.mp Q;show f (g<|f x)=f x;rw[S]
 exact(K2 this ▸ (List.map_id' ys).symm:ys=ys.map (f ∘ g));have:=h.map g;rw[G2]at this;have e:(g ∘ f)=id:=funext S
 rwa [e,JN]at this
noncomputable def aM(w:c8):d6:={ cls:=.type "set",dict:=a8,data:=.set #[] 0 (.fresh 0 0<|!w.params.followText "set-order") }
theorem qz(a:c6)(h:Q₁ (.ref s.heap.objs.size) { s with heap:=s.heap.push (aM w) }):j7 (g7 prog w) A (.call (.builtin "set.__new__") ⟨[.type "set",a],[]⟩) (wants Q₁ E) s:=by
 refine codeAny_of_tree<|show f9 (g7 prog w) A.in1 (do checkBuiltinCall "set.__new__" ⟨[.type "set",a],[]⟩;again (.builtin "set.__new__" ⟨[.type "set",a],[]⟩)) _ _ s from ?_;refine o8<|wpAny_of_eq (F.newCall_set_1 a)<|p4 ⟨Jw F.plain_set_new _,IM F.entry_set_new ?_⟩;rw[JD F.plain_set_new _];have e:=sub_set_self;obtain⟨p,g,d,u,c⟩:=s;unfold Builtin.«set.__new__» Builtin.Frozenset.newClass;dsimp only
 wp_walk
 refine Kq<|p4 ?_;simp only[newObj];exact o8<|wpAny_alloc<|p4<|p4 h
structure TxSrc(prog:c9)(w:c8)(h:d7)(l:d5)(T:String)(n:Nat)(P:Nat->c6->Prop):Prop where
 obj:∃o,h.get? l=a7 o/\o.cls=.type T
 ns:isSubtype (.type T) (.type "set")=pure c5
 nf:isSubtype (.type T) (.type "frozenset")=pure c5
 nd:(Js T==Js "dict")=c5
 iter:∀(A:e9) (s':f6),A.handled=a8->(∀o,h.get? l=a7 o->s'.heap.get? l=a7 o)->∃(oI:d6) (St:Nat->d7->Prop),(∀(E:c6->f6->Prop) (Q:c6->f6->Prop),Q (.ref s'.heap.objs.size) { s' with heap:=s'.heap.push oI }->f9 (g7 prog w) A (i9<|.ref l) Q E s') /\Walks prog w A s'.heap.objs.size [s'.heap.objs.size,l] [s'.heap.objs.size] n P St/\St 0 (s'.heap.push oI)
theorem pE:isSubtype (.type "tuple") (.type "set")=pure c5:=by rw[isSubtype_type];kernel_rfl
theorem ny:isSubtype (.type "tuple") (.type "frozenset")=pure c5:=by rw[isSubtype_type];kernel_rfl
theorem TxSrc.list(g:h.IsList l its):TxSrc prog w h l "list" its.size (λi v=>its[i]?=a7 v):=by
 refine⟨let ⟨o,e,c,_⟩:=g;⟨o,e,c⟩,F.sub_list_set,F.sub_list_frozenset,by decide,λA s' b k=>?_⟩;have a:s'.heap.IsList l its:=g.at k;have lt:l<s'.heap.objs.size:=let ⟨o,e,_⟩:=a;u7 e
 exact⟨_,_,λE Q q=>wpAny_pyIter_list a q,Walks.list b _ l (v7 lt) its,⟨_,v8 _ rfl,rfl,rfl⟩,a.push _⟩
theorem TxSrc.tuple(g:h.IsTuple l its):TxSrc prog w h l "tuple" its.size (λi v=>its[i]?=a7 v):=by
 refine⟨let ⟨o,e,c,_⟩:=g;⟨o,e,c⟩,pE,ny,by decide,λA s' b k=>?_⟩;have a:s'.heap.IsTuple l its:=let ⟨o,e,r⟩:=g;⟨o,k o e,r⟩
 have lt:l<s'.heap.objs.size:=let ⟨o,e,_⟩:=a;u7 e
 exact⟨_,_,λE Q q=>wpAny_pyIter_tuple a q,Walks.tuple b _ l (v7 lt) its,⟨_,v8 _ rfl,rfl,rfl⟩,let ⟨o,e,r⟩:=a;⟨o,u4 _ e,r⟩⟩
theorem aO:Slot "set_iterator" "__next__" "set_iterator.__next__":=.of (owner:="set_iterator") (n:="__next__") (by rw[typeLookup_type,Nc];kernel_rfl) (by decide +kernel) (by decide +kernel) (by decide +kernel) (by first|exact .inl (by decide +kernel)|exact .inr<|by decide +kernel)<|by rw[isSubtype_type];kernel_rfl
theorem cW:entryFor table "set_iterator.__next__" = a7 Builtin.«set_iterator.__next__»:=entryFor_of_tree<|by kernel_rfl
theorem jg:Manifest.owners.lookup (String.ofList ['r','o','t','a','r','e','t','i','_','t','e','s'].reverse)=a7 Manifest.sig_set_iterator:=by kernel_rfl
theorem eM(a:c6):argsOk "set_iterator.__next__" ⟨[a],[]⟩:=by unfold argsOk;rw[signature?_of (id:="set_iterator.__next__") (n:=['_','_','t','x','e','n','_','_']) (o:=['r','o','t','a','r','e','t','i','_','t','e','s']) (by kernel_rfl) jg];kernel_rfl
theorem mq:entryFor table "set.__iter__" = a7 Builtin.«frozenset.__iter__»:=entryFor_alias (id':="frozenset.__iter__") (by kernel_rfl) rfl (by decide +kernel)<|by kernel_rfl
theorem gO{α:Type}:∀(l:List α) (i:Nat) (h:i<l.length),(l[i]::l.eraseIdx i).Perm l
 |x::l,0,_=>JQ _
 |x::l,i+1,h=>by
  have h':i<l.length:=by simpa using h
  exact(List.Perm.swap x l[i]<|l.eraseIdx i).trans<|L1 x<|gO l i h'
theorem uo(f:n≠0)(h:∀i d,i<n->Q i { s with drawn:=d }):f9 M A (choose src n) Q E s:=by intro Γ p a;show Sem.wp M Γ (Sem.choose src n λi=>Sem.pure i) _ _ p s;rw[Sem.wp_choose];refine⟨f,?_⟩;rw[Sem.wp_pure];exact h _ _<|Nat.mod_lt _<|Nat.pos_of_ne_zero f
theorem oF{α:Type}{M:Model}{A:e9}{E:c6->f6->Prop}:∀(n:Nat) (xs:List α) (s:f6) (Q:List α->f6->Prop),xs.length=n->(∀ys d,ys.Perm xs->Q ys { s with drawn:=d })->f9 M A (drawOrder n xs) Q E s
 | 0,xs,s,Q,e,h=>by
  cases xs with
  |nil=>exact p4<|h [] s.drawn<|JQ _
  |cons _ _=>cases e
 |n+1,[],s,Q,e,h=>by cases e
 |n+1,x::xs,s,Q,e,h=>by unfold drawOrder;refine o8<|uo (by simp) λi d hi=>?_;rw[u9 hi];refine o8<|oF n ((x::xs).eraseIdx i) { s with drawn:=d } _ (by rw[List.length_eraseIdx_of_lt hi];simp at e ⊢;lia) λys d' hp=>p4<|h _ d' ?_;exact(L1 _ hp).trans<|gO _ i hi
theorem ja{α:Type}(next:Nat->Nat)(xs:Array α):(m5 next xs).toList.Perm xs.toList:=by
 have o:∀(l k:Nat) (left:List α) (out:Array α),left.length=l->(pickOrder.go next l k left out).toList.Perm (out.toList++left):=by
  intro l;induction l with
  |zero =>
   intro k left out e;cases left with
   |nil=>simp[pickOrder.go]
   |cons _ _=>cases e
  |succ n i=>intro k left out e;have hi:next k % left.length<left.length:=Nat.mod_lt _ (by lia);unfold pickOrder.go;rw[u9 hi];dsimp only;refine(i (k+1) _ _<|by rw[List.length_eraseIdx_of_lt hi];lia).trans ?_;rw[Array.toList_push,Hs];exact List.Perm.append_left _<|gO _ _ hi
 have:=o xs.size 0 xs.toList #[] (by simp);simpa [m5]using this
noncomputable def cT(first:c6)(i n:Nat)(a:d5)(ep:Nat):d6:={ cls:=.type "set_iterator",data:=.fields #[first,j0 i,.ref a,j0 n,j0 ep] }
structure SetAt(h:d7)(a:d5)(o:d6)(es:Array (Int×c6))(ep:Nat)(t:m6):Prop where
 ob:h.get? a=a7 o
 dt:o.data=.set es ep t
 ft:t.fits es.size=a9
theorem kJ(c:A.handled=a8)(h:∀h' e,(∀b o,s.heap.get? b=a7 o->h'.get? b=a7 o)->(∃o,h'.get? e=a7 o/\o.cls=.type "StopIteration")->F (.ref e) { s with heap:=h' }):f9 (g7 prog w) A (do raiseNew (<-newExc (.type "StopIteration") []):Sem Fin) Q F s:=by refine o8 ?_;simp only[newExc,newTuple];refine o8 (F8 (o8 (m:=l9 _ _)<|wpAny_of_eq (a:=ABJ) (by first|rfl|(simp only[l9];rfl))<|F8 ?_<|by size_fits)<|by size_fits);simp only[raiseNew];refine o8<|wpAny_handled ?_;rw[c];exact o8<|p4<|wpAny_throw<|h _ _ (λb o e=>u4 _<|u4 _ e) ⟨_,v8 _ rfl,rfl⟩
theorem jo{slot i next:Nat}{x:c6}{Q:Option c6->f6->Prop}(I:s.heap.get? it=a7 (cT (j0 slot) i es.size a ep))(S:SetAt s.heap a o es ep t)(f:∀(A:e9) (E:c6->f6->Prop) (Q:Option (c6×Nat)->f6->Prop),Q (a7 (x,next)) s->f9 (g7 prog w) A (setNext a slot i ep) Q E s)(b:∀h',h'.get? it=a7 (cT (j0 next) (i+1) es.size a ep)->IH it s.heap h'->Q (a7 x) { s with heap:=h' }):f9 (g7 prog w) A (i7<|.ref it) Q E s:=by
 have n:s.TypeIs (.ref it) "set_iterator":=⟨_,I,rfl⟩
 unfold i7;refine o8<|Jc<|Ih (name:=AA1 "__next__") n aO<|E8 aO n cW ?_<|eM _;unfold Builtin.«set_iterator.__next__»;refine o8<|p4<|o8<|IJ I rfl ?_;dsimp only[cT,j0];refine o8<|LA S.ob S.dt S.ft ?_;rw[n5<|by simp];refine o8<|f _ _ _ ?_;dsimp only;refine o8<|IK I rfl (by simp)<|o8<|IK (HY _ I rfl) rfl (by simp)<|p4 ⟨x,rfl,p4<|b _ ?_<|(HV ..).trans<|HV ..⟩;refine(HY _ (HY _ I rfl) rfl).trans ?_;simp[cT,Kh,j0]
theorem cQ{slot i:Nat}{Q:Option c6->f6->Prop}(g:A.handled=a8)(I:s.heap.get? it=a7 (cT (j0 slot) i es.size a ep))(S:SetAt s.heap a o es ep t)(j:∀(A:e9) (E:c6->f6->Prop) (Q:Option (c6×Nat)->f6->Prop),Q a8 s->f9 (g7 prog w) A (setNext a slot i ep) Q E s)(h:∀h',(∀b o,b≠it->s.heap.get? b=a7 o->h'.get? b=a7 o)->Q a8 { s with heap:=h' }):f9 (g7 prog w) A (i7<|.ref it) Q E s:=by
 have n:s.TypeIs (.ref it) "set_iterator":=⟨_,I,rfl⟩
 unfold i7;refine o8<|Jc<|Ih (name:=AA1 "__next__") n aO<|E8 aO n cW ?_<|eM _;unfold Builtin.«set_iterator.__next__»;refine o8<|p4<|o8<|IJ I rfl ?_;dsimp only[cT,j0];refine o8<|LA S.ob S.dt S.ft ?_;rw[n5<|by simp];refine o8<|j _ _ _ ?_;dsimp only;refine o8<|IK I rfl (by simp) ?_;refine kJ (by simp[g]) ?_;rintro h' e k ⟨y,c,f⟩;refine o8<|JT (T:="StopIteration") (b:=a9) ⟨y,c,f⟩ Lp<|p4<|h h' λb l d M=>k b l ?_;exact((HV ..).2 b d).trans M
theorem tH{tt:d5}{ps:List Nat}{i j:Nat}{e:Int×c6}{Q:Option c6->f6->Prop}(I:s.heap.get? it=a7 (cT (.ref tt) i es.size a ep))(C:s.heap.IsTuple tt (ps.map λ(k:Nat)=>j0 k).toArray)(S:SetAt s.heap a o es ep t)(L:ps[i]?=a7 j) (d:es[j]?=a7 e) (c:∀h',h'.get? it=a7 (cT (.ref tt) (i+1) es.size a ep)->IH it s.heap h'->Q (a7 e.2) { s with heap:=h' }):f9 (g7 prog w) A (i7<|.ref it) Q E s:=by
 have n:s.TypeIs (.ref it) "set_iterator":=⟨_,I,rfl⟩
 obtain⟨g,b,_,f,h⟩:=C;unfold i7;refine o8<|Jc<|Ih (name:=AA1 "__next__") n aO<|E8 aO n cW ?_<|eM _;unfold Builtin.«set_iterator.__next__»;refine o8<|p4<|o8<|IJ I rfl ?_;dsimp only[cT,j0];refine o8<|LA S.ob S.dt S.ft ?_;rw[n5<|by simp];refine o8<|Ig b h ?_;have x:(ps.map λ(k:Nat)=>j0 k).toArray[i]?=a7 (.int j 0):=by simp[L,j0]
 simp only[Jd,x];unfold setNextDrawn;refine o8<|o8<|IS S.ob S.dt S.ft ?_;simp only[bne_self_eq_false,z6,o4,d];refine p4<|o8<|IK I rfl (by simp)<|p4 ⟨_,rfl,p4<|c _ ?_<|HV ..⟩;refine(HY _ I rfl).trans ?_;simp[cT,Kh,j0]
theorem jO{tt:d5}{ps:List Nat}{i:Nat}{Q:Option c6->f6->Prop}(l:A.handled=a8)(I:s.heap.get? it=a7 (cT (.ref tt) i es.size a ep))(C:s.heap.IsTuple tt (ps.map λ(k:Nat)=>j0 k).toArray)(S:SetAt s.heap a o es ep t)(L:ps[i]?=a8) (d:∀h',(∀b o,b≠it->s.heap.get? b=a7 o->h'.get? b=a7 o)->Q a8 { s with heap:=h' }):f9 (g7 prog w) A (i7<|.ref it) Q E s:=by
 have n:s.TypeIs (.ref it) "set_iterator":=⟨_,I,rfl⟩
 obtain⟨r,c,_,q,h⟩:=C;unfold i7;refine o8<|Jc<|Ih (name:=AA1 "__next__") n aO<|E8 aO n cW ?_<|eM _;unfold Builtin.«set_iterator.__next__»;refine o8<|p4<|o8<|IJ I rfl ?_;dsimp only[cT,j0];refine o8<|LA S.ob S.dt S.ft ?_;rw[n5<|by simp];refine o8<|Ig c h ?_;have x:(ps.map λ(k:Nat)=>j0 k).toArray[i]?=a8:=by simpa using L
 simp only[Jd,x];refine o8<|IK I rfl (by simp)<|o8<|IK (HY _ I rfl) rfl (by simp) ?_;refine kJ (by simp[l]) ?_;rintro h' e m ⟨y,j,g⟩;refine o8<|JT (T:="StopIteration") (b:=a9) ⟨y,j,g⟩ Lp<|p4<|d h' λb p f M=>m b p ?_;exact(((HV ..).trans<|HV ..).2 b f).trans M
end L2
namespace L2
theorem nodup_le{α:Type}[DecidableEq α]:∀(l xs:List α),l.Nodup->(∀x∈l,x∈xs)->l.length<=xs.length
 | [],xs,_,_=>v9 _
 |a::l,xs,nd,h=>by have ha:a∈xs:=h a z0;have nd':=HR.mp nd;have ih:=nodup_le l (xs.erase a) nd'.2 λx hx=>(List.mem_erase_of_ne<|show x≠a from λz=>nd'.1<|by rw[<-z];exact hx).mpr<|h x<|w6 _ hx;rw[List.length_erase_of_mem ha]at ih;have:0<xs.length:=List.length_pos_of_mem ha;rw[A0];lia
end L2
namespace Ht
open PySem
noncomputable def Lc(m:Nat)(p:JP):JP:=if p.more > 0 then { p with j:=p.j+1,more:=p.more-1 } else
 { p with j:=(Jv m p.i p.perturb).1,more:=G3 m (Jv m p.i p.perturb).1-(Jv m p.i p.perturb).1,i:=(Jv m p.i p.perturb).1,perturb:=(Jv m p.i p.perturb).2 }
noncomputable def gF(m i t:Nat):JP:={ j:=i,more:=G3 m i-i,i,perturb:=t,dummy:=a8 }
noncomputable def iS(m:Nat)(p:JP):Nat->JP
 | 0=>p
 |n+1=>Lc m<|iS m p n
noncomputable def sq(m:Nat)(h:Int)(n:Nat):JP:=iS m (gF m (Jb h % (m+1))<|Jb h) n
theorem nA(m:Nat)(p:JP)(a b:Nat):iS m p (a+b)=iS m (iS m p a) b:=by
 induction b with
 |zero=>rfl
 |succ b i=>rw[Nat.add_succ,iS,i];rfl
theorem EC(m i:Nat):G3 m i-i<=9:=by unfold G3;split<;>lia
theorem xk(m i pt:Nat):∀k,k<=G3 m i-i->iS m (gF m i pt) k={ j:=i+k,more:=G3 m i-i-k,i,perturb:=pt,dummy:=a8 }
 | 0,_=>by simp[iS,gF]
 |k+1,h=>by rw[iS,xk m i pt k<|by lia];unfold Lc;rw[m9<|show G3 m i-i-k > 0 by lia];simp only[SetTable.Probe.mk.injEq,true_and,and_true];lia
theorem zf(m i t:Nat):iS m (gF m i t) (G3 m i-i+1)=gF m (Jv m i t).1 (Jv m i t).2:=by rw[iS,xk m i t _<|t6 _];unfold Lc;rw[n5<|show ¬G3 m i-i-(G3 m i-i) > 0 by lia];rfl
noncomputable def cK(m:Nat)(h:Int):Nat->Nat×Nat
 | 0=>(Jb h % (m+1),Jb h)
 |k+1=>Jv m (cK m h k).1 (cK m h k).2
noncomputable def cZ(m:Nat)(h:Int):Nat->Nat
 | 0=>0
 |k+1=>cZ m h k+(G3 m (cK m h k).1-(cK m h k).1+1)
theorem Au(m:Nat)(h:Int)(k:Nat):cZ m h k<=10*k:=by
 induction k with
 |zero=>exact t6 _
 |succ k i=>have:=EC m (cK m h k).1;unfold cZ;lia
theorem AH(m:Nat)(h:Int)(k:Nat):sq m h (cZ m h k)=gF m (cK m h k).1 (cK m h k).2:=by
 induction k with
 |zero=>rfl
 |succ k i=>unfold sq at i ⊢;unfold cZ;rw[nA,i,zf];rfl
theorem vD(m:Nat)(h:Int)(k r:Nat)(i:r<=G3 m (cK m h k).1-(cK m h k).1):(sq m h<|cZ m h k+r).j=(cK m h k).1+r:=by have e:=AH m h k;unfold sq at e ⊢;rw[nA,e,xk _ _ _ _ i]
theorem DJ(h:Int):Jb h<2 ^ 64:=by unfold Jb;have a:=Int.emod_nonneg h (show (2 ^ 64:Int)≠0 by decide);have h1:=Int.emod_lt_of_pos h (show (0:Int)<2 ^ 64 by decide);lia
theorem kO(m:Nat)(h:Int):∀k,(cK m h k).2=Jb h / 32 ^ k
 | 0=>by simp[cK]
 |k+1=>by show (cK m h k).2 / 32=_;rw[kO m h k,Nat.div_div_eq_div_mul,<-Nat.pow_succ]
theorem nL(m:Nat)(h:Int)(k:Nat)(a:13<=k):(cK m h k).2=0:=by
 rw[kO];apply Nat.div_eq_of_lt;have h1:=DJ h;have h2:32 ^ 13<=32 ^ k:=Nat.pow_le_pow_right (by decide) a;have b:(2:Nat) ^ 64<32 ^ 13:=by decide
 lia
noncomputable def qG(m i:Nat):Nat:=(i*5+1) % (m+1)
noncomputable def bv(m i:Nat):Nat->Nat
 | 0=>i
 |k+1=>qG m<|bv m i k
theorem cJ(m i a b:Nat):bv m i (a+b)=bv m (bv m i a) b:=by
 induction b with
 |zero=>rfl
 |succ b h=>rw[Nat.add_succ,bv,h];rfl
theorem pG(m:Nat)(h:Int)(r:Nat):(cK m h<|13+r).1=bv m (cK m h 13).1 r:=by
 induction r with
 |zero=>rfl
 |succ r i=>show (Jv m (cK m h<|13+r).1 (cK m h<|13+r).2).1=qG m (bv m (cK m h 13).1 r);rw[nL m h _ (by lia),i];rfl
theorem pH(m:Nat)(h:Int):∀k,(cK m h k).1<=m
 | 0=>Nat.lt_succ_iff.mp<|Nat.mod_lt _<|Nat.succ_pos _
 |k+1=>Nat.lt_succ_iff.mp<|Nat.mod_lt _<|Nat.succ_pos _
def Ec(m:Nat):Prop:=bv m 0 (m+1)=0/\∀s,s<=m->∃k,k<=m/\bv m 0 k=s
noncomputable def pP(m:Nat):Nat->Nat->List Nat
 | 0,_=>[]
 |n+1,i=>i::pP m n (qG m i)
theorem jh(m:Nat):∀(n i k:Nat),k<n->(pP m n i)[k]?=a7 (bv m i k)
 | 0,_,_,h=>n6 h<|Jl _
 |n+1,i,0,_=>rfl
 |n+1,i,k+1,h=>by rw[pP,LD,jh m n (qG m i) k (by lia),<-show bv m (bv m i 1) k=bv m i (k+1)from by rw[<-cJ,Nat.add_comm]];rfl
theorem qo(m:Nat)(h:((pP m (m+2) 0)[m+1]?==a7 0&&(A7<|m+1).all λs=>(pP m (m+1) 0).contains s)=a9):Ec m:=by
 rw[C5,o0,D9]at h;refine⟨?_,λs hs=>?_⟩;have:=jh m (m+2) 0 (m+1) (by lia);rw[h.1]at this;exact(A1 this).symm;have:=h.2 s (G8.mpr<|by lia);rw[List.contains_iff_mem]at this;obtain⟨k,a⟩:=JC this;have g:k<m+1:=by
  have:=(w9.mp a).1;have B:∀n i,(pP m n i).length=n:=by
   intro n;induction n with
   |zero=>intro i;rfl
   |succ n b=>intro i;simp[pP,b]
  rw[B]at this;exact this
 rw[jh m _ 0 k g]at a;exact⟨k,by lia,A1 a⟩
theorem full7:Ec 7:=qo 7<|by decide +kernel
theorem GC:Ec 31:=qo 31<|by decide +kernel
theorem Dg:Ec 127:=qo 127<|by decide +kernel
theorem xv(F:Ec m)(hi:i<=m)(hs:s<=m):∃k,k<=m/\bv m i k=s:=by obtain⟨a,f,e⟩:=F.2 i hi;obtain⟨b,d,M⟩:=F.2 s hs;by_cases h:a<=b;refine⟨b-a,by lia,?_⟩;rw[<-e,<-cJ,show a+(b-a)=b by lia];exact M;refine⟨m+1-a+b,by lia,?_⟩;rw[<-e,<-cJ,show a+(m+1-a+b)=(m+1)+b by lia,cJ,F.1];exact M
def jW(m:Nat):Prop:=m=7\/m=31\/m=127
theorem jW.full(h:jW m):Ec m:=by rcases h with rfl|rfl|rfl;exact full7;exact GC;exact Dg
theorem Ba(d:jW m)(h:Int)(hs:s<=m):∃k,k<=m+13/\(cK m h k).1=s:=by obtain⟨r,i,e⟩:=xv d.full (pH m h 13) hs;exact⟨13+r,by lia,by rw[pG];exact e⟩
theorem Bz(d:jW m)(h:Int)(hs:s<=m):∃n,n<10*(m+15)/\(sq m h n).j=s:=by obtain⟨k,a,e⟩:=Ba d h hs;refine⟨cZ m h k,by have:=Au m h k;lia,?_⟩;rw[AH];exact e
theorem Ey(h:Int):∀n,∃k r,r<=G3 m (cK m h k).1-(cK m h k).1/\n=cZ m h k+r
 | 0=>⟨0,0,v9 _,rfl⟩
 |n+1=>by obtain⟨k,r,hr,e⟩:=Ey (m:=m) h n;by_cases q:r<G3 m (cK m h k).1-(cK m h k).1;exact⟨k,r+1,q,by lia⟩;exact⟨k+1,0,v9 _,by rw[cZ];lia⟩
theorem vC(h:Int)(n:Nat):(sq m h n).j<=m:=by obtain⟨k,r,i,e⟩:=Ey (m:=m) h n;rw[e,vD m h k r i];have:=pH m h k;unfold G3 at i;split at i<;>lia
theorem below_spec(xs:Array Nat)(v:xs.toList.Pairwise (· < ·))(j:Nat):C7 xs j<=xs.size/\(∀k (h:k<xs.size),k<C7 xs j->xs[k]<j)/\∀k (h:k<xs.size),C7 xs j<=k->j<=xs[k]:=by
 have m:∀a b (g:a<xs.size) (i:b<xs.size),a<b->xs[a]<xs[b]:=λa b g i h=>by have:=Nq.mp v a b (by simpa using g) (by simpa using i) h;simpa using this
 have r:∀(l o hi:Nat),o<=hi->hi<=xs.size->hi-o<=l->(∀k (h:k<xs.size),k<o->xs[k]<j)->(∀k (h:k<xs.size),hi<=k->j<=xs[k]) -> Ku xs j l o hi<=xs.size/\(∀k (h:k<xs.size),k<Ku xs j l o hi->xs[k]<j)/\∀k (h:k<xs.size),Ku xs j l o hi<=k->j<=xs[k]:=by
  intro l;induction l with
  |zero =>
   intro o hi h1 h2 s d c;have:o=hi:=by lia
   subst this;exact⟨h2,d,c⟩
  |succ l n =>
   intro o hi h1 h2 s d c;unfold Ku;by_cases h:o<hi;rw[m9 h];have f:(o+hi) / 2<xs.size:=by lia
   have p:xs.getD ((o+hi) / 2) j=xs[(o+hi) / 2]:=by simp[Iw,f]
   simp only[p];by_cases q:xs[(o+hi) / 2]<j;rw[m9 q];refine n _ _ (by lia) h2 (by lia) (λk e u=>?_) c;rcases Ic k ((o+hi) / 2)with z|z;exact Nat.lt_trans (m k _ e f z) q;have:k=(o+hi) / 2:=by lia
   subst this;exact q;rw[n5 q];refine n _ _ (by lia) (by lia) (by lia) d λk e t=>?_;rcases Ic ((o+hi) / 2) k with z|z;exact F6 (Ji.mp q)<|Jj<|m _ k f e z;have:k=(o+hi) / 2:=by lia
   subst this;exact Ji.mp q;rw[n5 h];have:o=hi:=by lia
   subst this;exact⟨h2,d,c⟩
 exact r xs.size 0 xs.size (v9 _) (t6 _) (by lia) (λk _ h=>n6 h<|Jl _) λk h h'=>n6 h<|Ji.mpr h'
theorem below_at(r:xs.toList.Pairwise (· < ·))(h:xs[i]?=a7 j):C7 xs j=i:=by
 obtain⟨hi,e⟩:=Jf.mp h;obtain⟨g,c,u⟩:=below_spec xs r j;have m:∀a b (f:a<xs.size) (d:b<xs.size),a<b->xs[a]<xs[b]:=λa b f d h=>by have:=Nq.mp r a b (by simpa using f) (by simpa using d) h;simpa using this
 rcases Lw (C7 xs j) i with q|q|q;have d:C7 xs j<xs.size:=by lia
 have:=u _ d<|t6 _;have:=m _ i d hi q;lia;exact q;have:=c i hi q;lia
theorem slot_live{t:m6}(r:t.place.toList.Pairwise (· < ·)){i j:Nat}(h:t.place[i]?=a7 j):t.slot j=.live i:=by unfold SetTable.slot;simp only[below_at r h];rw[m9<|by rw[h];simp]
theorem tp{t:m6}(d:t.dummies = #[]){j:Nat}(h:j∉t.place.toList):t.slot j=.empty:=by
 unfold SetTable.slot;have e:¬(t.place[C7 t.place j]?==a7 j)=a9:=λz=>h (by rw[o0]at z;have:=Array.mem_of_getElem? z;simpa using this);have m:SetTable.has t.dummies j=c5:=by rw[d];rfl
 simp only[e,o4,m,z6]
theorem go_spec{t:m6}(r:t.place.toList.Pairwise (· < ·))(x:t.dummies = #[])(hashAt:Nat->Int)(h:Int):∀(fuel n N:Nat),n<=N->N<n+fuel->(sq t.mask h N).j∉t.place.toList->(∀k,n<=k->k<N->(sq t.mask h k).j∈t.place.toList) ->(∀k,(sq t.mask h k).dummy=a8) ->((∀k i,n<=k->k<N->t.place[i]?=a7 (sq t.mask h k).j->hashAt i≠h)/\MX t hashAt h fuel (sq t.mask h n)=a7 (.empty (sq t.mask h N).j a8)) \/∃n' i,n<=n'/\n' < N/\t.place[i]?=a7 (sq t.mask h n').j/\hashAt i=h/\(∀k i,n<=k->k<n'->t.place[i]?=a7 (sq t.mask h k).j->hashAt i≠h)/\MX t hashAt h fuel (sq t.mask h n)=a7 (.candidate (sq t.mask h n').j i<|sq t.mask h<|n'+1):=by
 intro fuel;induction fuel with
 |zero=>intro n N h1 h2;lia
 |succ fuel A =>
  intro n N h1 h2 g l m;unfold MX;by_cases e:n=N;subst e;rw[tp x g];exact .inl ⟨λk i a b=>by lia,by rw[m]⟩;have y:=l n (t6 _) (by lia);obtain⟨i,hi⟩:=JC y;have d:t.place[i]?=a7 (sq t.mask h n).j:=by rw[<-E4];exact hi
  rw[slot_live r d];dsimp only;have u:∀i',t.place[i']?=a7 (sq t.mask h n).j->i'=i:=λi' z=>by rw[<-below_at r z,below_at r d]
  by_cases q:hashAt i=h;simp only[o0,q,o5];exact .inr ⟨n,i,t6 _,by lia,d,q,λk i a b=>by lia,rfl⟩;simp only[o0,q,o4];rcases A (n+1) N (by lia) (by lia) g (λk a b=>l k (by lia) b) m with⟨B,C⟩|⟨n',i',E,o,p,s,v,w⟩
  refine .inl ⟨λk i' a b c=>?_,C⟩;rcases Ic n k with z|z;exact B k i' z b c;have:k=n:=by lia
  subst this;rw[u i' c];exact q;refine .inr ⟨n',i',by lia,o,p,s,λk f a b c=>?_,w⟩;rcases Ic n k with z|z;exact v k f z b c;have:k=n:=by lia
  subst this;rw[u f c];exact q
theorem sq_dummy(m:Nat)(h:Int):∀n,(sq m h n).dummy=a8
 | 0=>rfl
 |n+1=>by show (Lc m<|sq m h n).dummy=a8;unfold Lc;split;exact sq_dummy m h n;exact sq_dummy m h n
structure TOk(t:m6)(hs:List Int):Prop where
 msk:jW t.mask
 len:t.place.size=hs.length
 nod:t.dummies = #[]
 ris:t.place.toList.Pairwise (· < ·)
 rng:∀j∈t.place.toList,j<=t.mask
 few:t.place.size*5<t.mask*3
 path:∀(i:Nat) (h:Int) (j:Nat),hs[i]?=a7 h->t.place[i]?=a7 j->∃n,(sq t.mask h n).j=j/\∀n',n' < n->(sq t.mask h n').j∈t.place.toList
theorem xt{m:Nat}{l:List Nat}(n:l.Nodup)(i:∀j∈l,j<=m)(g:l.length<=m):∃j,j<=m/\j∉l:=by refine JE λf=>?_;have a:∀j∈A7 (m+1),j∈l:=λj L=>JE λh=>f ⟨j,by have:=G8.mp L;lia,h⟩;have:=L2.nodup_le (A7<|m+1) l List.nodup_range a;rw[Lv]at this;lia
theorem qp{m:Nat}(f:jW m){l:List Nat}(i:l.Nodup)(r:∀j∈l,j<=m)(g:l.length<=m)(h:Int):∃N,N<10*(m+15)/\(sq m h N).j∉l/\∀k,k<N->(sq m h k).j∈l:=by
 obtain⟨s,hs,u⟩:=xt i r g;obtain⟨n,L,M⟩:=Bz f h hs;have:∀b n,n<b->(sq m h n).j∉l->∃N,N<=n/\(sq m h N).j∉l/\∀k,k<N->(sq m h k).j∈l:=by
  intro b;induction b with
  |zero=>intro n h;lia
  |succ b p=>intro n t o;by_cases q:∀k,k<n->(sq m h k).j∈l;exact⟨n,t6 _,o,q⟩;have:∃k,k<n/\(sq m h k).j∉l:=JE λz=>q λk e=>JE λJ=>z ⟨k,e,J⟩;obtain⟨k,e,d⟩:=this;obtain⟨N,E,a,c⟩:=p k (by lia) d;exact⟨N,by lia,a,c⟩
 obtain⟨N,E,a,c⟩:=this (n+1) n (HJ _) (by rw[M];exact u);exact⟨N,by lia,a,c⟩
theorem TOk.empty{t:m6}{hs:List Int}(T:TOk t hs)(h:Int):∃N,N<10*(t.mask+15)/\(sq t.mask h N).j∉t.place.toList/\∀k,k<N->(sq t.mask h k).j∈t.place.toList:=by refine qp T.msk (T.ris.imp λh=>v7 h) T.rng ?_ h;have:=T.few;rw[C3];rcases T.msk with e|e|e<;>lia
theorem vO{t:m6}(r:t.place.toList.Pairwise (· < ·)){j:Nat}(L:j∉t.place.toList):(t.put j).1.place.toList=t.place.toList.take (C7 t.place j)++j::t.place.toList.drop (C7 t.place j)/\(t.put j).1.place.toList.Pairwise (· < ·):=by
 obtain⟨o,m,u⟩:=below_spec t.place r j;have e:(t.put j).1.place.toList=t.place.toList.take (C7 t.place j)++j::t.place.toList.drop (C7 t.place j):=by show (Me t.place (C7 t.place j) j).toList=_;rw[SetTable.toList_insertAt]
 refine⟨e,?_⟩;rw[e,JZ];refine⟨r.sublist<|List.take_sublist ..,List.pairwise_cons.mpr ⟨λx c=>?_,r.sublist<|List.drop_sublist ..⟩,λx c y Q=>?_⟩;obtain⟨k,h⟩:=JC c;rw[Ml]at h;have d:t.place[C7 t.place j+k]?=a7 x:=by rw[<-E4];exact h
 obtain⟨g,f⟩:=Jf.mp d;have:=u _ g<|KY _ _;rw[f]at this;rcases Ic j x with z|z;exact z;have:x=j:=by lia
 subst this;exact n6 (List.mem_of_mem_drop c) L;obtain⟨k,h⟩:=JC c;rw[List.getElem?_take]at h;split at h;rename_i l;have d:t.place[k]?=a7 x:=by rw[<-E4];exact h
 obtain⟨g,f⟩:=Jf.mp d;have h1:=m k g l;rw[f]at h1;rcases u8.mp Q with rfl|Q;exact h1;obtain⟨C,a⟩:=JC Q;rw[Ml]at a;have b:t.place[C7 t.place j+C]?=a7 y:=by rw[<-E4];exact a
 obtain⟨i,n⟩:=Jf.mp b;have:=u _ i<|KY _ _;rw[n]at this;lia;cases h
end Ht
namespace L2
open PySem PySem.Spec PyProof.Rows DL PySem.W
theorem dG:Slot "set_iterator" "__iter__" "set_iterator.__iter__":=.of (owner:="set_iterator") (n:="__iter__") (by rw[typeLookup_type,Nc];kernel_rfl) (by decide +kernel) (by decide +kernel) (by decide +kernel) (by first|exact .inl (by decide +kernel)|exact .inr<|by decide +kernel)<|by rw[isSubtype_type];kernel_rfl
theorem ip:entryFor table "set_iterator.__iter__" = a7 Builtin.«dict_keyiterator.__iter__»:=entryFor_alias (id':="dict_keyiterator.__iter__") (by kernel_rfl) rfl (by decide +kernel)<|by kernel_rfl
theorem jF(a:c6):argsOk "set_iterator.__iter__" ⟨[a],[]⟩:=by unfold argsOk;rw[signature?_of (id:="set_iterator.__iter__") (n:=['_','_','r','e','t','i','_','_']) (o:=['r','o','t','a','r','e','t','i','_','t','e','s']) (by kernel_rfl) jg];kernel_rfl
theorem eF(I:s.heap.get? it=a7 (cT first i n a ep))(h:Q (.ref it) s):f9 (g7 prog w) A (i9<|.ref it) Q E s:=by
 have T:s.TypeIs (.ref it) "set_iterator":=⟨_,I,rfl⟩
 refine Md T dG<|E8 dG T ip (show f9 _ _ (ret<|.ref it) _ _ s from ?_)<|jF _;exact p4 ⟨_,rfl,"set_iterator",_,T,aO.lookup,h⟩
theorem SetAt.at(S:SetAt h a o es ep t)(k:∀o,h.get? a=a7 o->h'.get? a=a7 o):SetAt h' a o es ep t:=⟨k _ S.ob,S.dt,S.ft⟩
theorem gX(d:w.params.followText "set-order" = a9)(S:SetAt s.heap a o es ep t)(h:Q (((m5 (w.params.setOrder a ep) es)[i]?).map λe=>(e.2,0)) s):f9 (g7 prog w) A (setNext a 0 i ep) Q E s:=by unfold setNext;refine o8<|IS S.ob S.dt S.ft ?_;unfold setsByText;refine o8<|o8<|Kq<|p4 ?_;simp only[g7,d,o5,bne_self_eq_false,z6,o4];unfold setWalk;refine o8<|o8<|IS S.ob S.dt S.ft ?_;unfold setsByText;refine o8<|o8<|Kq<|p4 ?_;simp only[g7,d,o5];exact o8<|Kq<|p4<|p4 h
theorem sQ(d:w.params.followText "set-order" = a9)(n:A.handled=a8)(f:a≠it):Walks prog w A it [it,a] [it] es.size (λi v=>((m5 (w.params.setOrder a ep) es).toList.map (·.2))[i]?=a7 v) (λi h=>h.get? it=a7 (cT (j0 0) i es.size a ep)/\SetAt h a o es ep t) where
 sub:=λb d=>by simp at d;simp[d]
 frame:=λ_ _ _ l m=>⟨m it (by simp) _ l.1,l.2.at λo e=>m a (by simp) o e⟩
 item:=λi s Q E hi l c=>by
  have g:(m5 (w.params.setOrder a ep) es).size=es.size:=by have:=(ja (w.params.setOrder a ep) es).length_eq;simpa using this
  obtain⟨e,j⟩:∃e,(m5 (w.params.setOrder a ep) es)[i]?=a7 e:=⟨_,E5<|by rw[g];exact hi⟩
  refine jo (slot:=0) (next:=0) (x:=e.2) l.1 l.2 (λA E Q q=>gX d l.2<|by rw[j];exact q) λh' h1 U=>c _ h' s.toks (by simp[j]) ⟨h1,l.2.at λo e=>(U.2 a f).trans e⟩ λb o d e=>(U.2 b<|by simpa using d).trans e
 done:=λs Q E l c=>by
  have g:(m5 (w.params.setOrder a ep) es).size=es.size:=by have:=(ja (w.params.setOrder a ep) es).length_eq;simpa using this
  refine cQ (slot:=0) n l.1 l.2 (λA E Q q=>gX d l.2 ?_) λh' k=>c h' s.toks λb o d e=>k b o (by simpa using d) e;rw[Kz<|by rw[g];exact t6 _];exact q
 self:=λ_ _ _ _ l c=>eF l.1 c
theorem pj{tt:d5}{ps:List Nat}(p:ps.Perm (A7 es.size))(z:A.handled=a8)(n:a≠it)(q:tt≠it):Walks prog w A it [it,a,tt] [it] es.size (λi v=>(ps.filterMap λj=>(es[j]?).map (·.2))[i]?=a7 v) (λi h=>h.get? it=a7 (cT (.ref tt) i es.size a ep)/\SetAt h a o es ep t/\h.IsTuple tt (ps.map λ(k:Nat)=>j0 k).toArray) where
 sub:=λb g=>by simp at g;simp[g]
 frame:=λ_ _ _ l m=>⟨m it (by simp) _ l.1,l.2.1.at λo e=>m a (by simp) o e,let ⟨o,e,r⟩:=l.2.2;⟨o,m tt (by simp) _ e,r⟩⟩
 item:=λi s Q E hi l f=>by
  have x:ps.length=es.size:=by have:=p.length_eq;simpa using this
  have c:∀j∈ps,j<es.size:=λj L=>by have:=p.mem_iff.mp L;simpa using this
  have L:ps[i]?=a7 ps[i]:=u9 (by lia);have d:ps[i]<es.size:=c _<|IR _;have u:es[ps[i]]?=a7 es[ps[i]]:=E5 d;have y:(ps.filterMap λj=>(es[j]?).map (·.2))=ps.map λj=>(es.getD j default).2:=by
   clear L x p hi l f u d;induction ps with
   |nil=>rfl
   |cons j r B=>have L:=c j z0;rw[Ky,E5 L,A5,<-B λk m=>c k<|w6 _ m];simp[Iw,L]
  refine tH l.1 l.2.2 l.2.1 L u λh' h1 U=>f _ h' s.toks ?_ ⟨h1,l.2.1.at λo e=>(U.2 a n).trans e,let ⟨o,e,r⟩:=l.2.2;⟨o,(U.2 tt q).trans e,r⟩⟩ λb o g e=>(U.2 b<|by simpa using g).trans e;rw[y,C2,L];simp[Iw,d]
 done:=λs Q E l f=>by
  have x:ps.length=es.size:=by have:=p.length_eq;simpa using this
  exact jO z l.1 l.2.2 l.2.1 (J0<|by lia) λh' k=>f h' s.toks λb o g e=>k b o (by simpa using g) e
 self:=λ_ _ _ _ l f=>eF l.1 f
theorem gY(b:w.params.followText "set-order" = c5)(d:t.led=a9)(c:es.size<=1)(S:SetAt s.heap a o es ep t)(h:Q (match es[C7 t.place slot]?,t.place[C7 t.place slot]? with|some (_,x),a7 j=>a7 (x,j+1)|_,_=>a8) s):f9 (g7 prog w) A (setNext a slot i ep) Q E s:=by unfold setNext;refine o8<|IS S.ob S.dt S.ft ?_;unfold setsByText;refine o8<|o8<|Kq<|p4 ?_;simp only[g7,b,z6,o4];refine Jk (λz=>?_) λ_=>?_;have J:(!t.plain&&decide (es.size > 1))=a9:=z;simp at J;lia;refine o8<|show f9 (g7 prog w) A (if (!t.led && !es.isEmpty)=a9 then unsupported _ else pure ()) _ _ s from ?_;rw[d];simp only[II,Bool.false_and,z6,o4];exact p4<|p4 h
theorem oV(j k:Nat):C7 #[j] k=if j<k then 1 else 0:=by unfold C7;simp only[v6,A0,G4];unfold Ku;simp only[Nat.zero_lt_succ,o5];by_cases h:j<k;simp[h,Ku];simp[h,Ku]
theorem sR(d:w.params.followText "set-order" = c5)(c:t.led=a9)(g:es.size<=1)(u:A.handled=a8)(m:a≠it):Walks prog w A it [it,a] [it] es.size (λi v=>(es.toList.map (·.2))[i]?=a7 v) (λi h=>h.get? it=a7 (cT (j0 (if i=0 then 0 else t.place.getD 0 0+1:Nat)) i es.size a ep)/\SetAt h a o es ep t) where
 sub:=λb d=>by simp at d;simp[d]
 frame:=λ_ _ _ l p=>⟨p it (by simp) _ l.1,l.2.at λo e=>p a (by simp) o e⟩
 item:=λi s Q E hi l f=>by
  obtain rfl:i=0:=by lia
  have ps:t.place.size=1:=by have:=l.2.ft;simp[KP]at this;lia
  obtain⟨j,L⟩:∃j,t.place = #[j]:=⟨t.place[0],by apply Array.ext (by simpa using ps);intro i h1 h2;simp at h2;subst h2;rfl⟩
  have n:es[0]?=a7 es[0]:=E5 hi;refine jo (slot:=0) (next:=j+1) (x:=es[0].2) l.1 l.2 (λA E Q q=>gY d c g l.2 ?_) λh' h1 U=>f _ h' s.toks ?_ ⟨?_,l.2.at λo e=>(U.2 a m).trans e⟩ λb o d e=>(U.2 b<|by simpa using d).trans e;rw[L,oV,n5<|Jl _,n];exact q;rw[C2,E4,n];rfl;simpa [L]using h1
 done:=λs Q E l f=>by
  refine cQ (slot:=if es.size=0 then 0 else t.place.getD 0 0+1) u l.1 l.2 (λA E Q q=>gY d c g l.2 ?_) λh' k=>f h' s.toks λb o d e=>k b o (by simpa using d) e;have ps:t.place.size=es.size:=by have:=l.2.ft;simp[KP]at this;lia
  by_cases z:es.size=0;have:es = #[]:=Array.eq_empty_of_size_eq_zero z;subst this;simpa using q;obtain⟨j,L⟩:∃j,t.place = #[j]:=⟨t.place[0],by apply Array.ext (by simp;lia);intro i h1 h2;simp at h2;subst h2;rfl⟩
  have r:C7 t.place (if es.size=0 then 0 else t.place.getD 0 0+1)=1:=by rw[n5 z,L,oV];simp
  rw[r,Kz<|by lia];exact q
 self:=λ_ _ _ _ l f=>eF l.1 f
theorem gZ(c:w.params.followText "set-order" = c5)(d:t.led=a9)(b:(!t.plain&&decide (es.size > 1))=c5)(S:SetAt s.heap a o es ep t)(h:Q (match es[C7 t.place slot]?,t.place[C7 t.place slot]? with|some (_,x),a7 j=>a7 (x,j+1)|_,_=>a8) s):f9 (g7 prog w) A (setNext a slot i ep) Q E s:=by unfold setNext;refine o8<|IS S.ob S.dt S.ft ?_;unfold setsByText;refine o8<|o8<|Kq<|p4 ?_;simp only[g7,c,z6,o4];refine Jk (λz=>?_) λ_=>?_;have J:(!t.plain&&decide (es.size > 1))=a9:=z;rw[b]at J;cases J;refine o8<|show f9 (g7 prog w) A (if (!t.led && !es.isEmpty)=a9 then unsupported _ else pure ()) _ _ s from ?_;rw[d];simp only[II,Bool.false_and,z6,o4];exact p4<|p4 h
theorem sS(d:w.params.followText "set-order" = c5)(c:t.led=a9)(m:(!t.plain&&decide (es.size > 1))=c5)(H:t.place.toList.Pairwise (· < ·))(J:A.handled=a8)(y:a≠it):Walks prog w A it [it,a] [it] es.size (λi v=>(es.toList.map (·.2))[i]?=a7 v) (λi h=>h.get? it=a7 (cT (j0 (if i=0 then 0 else t.place.getD (i-1) 0+1:Nat)) i es.size a ep)/\SetAt h a o es ep t):=by
 have g:∀i,i<=t.place.size->C7 t.place (if i=0 then 0 else t.place.getD (i-1) 0+1)=i:=λi hi=>by
  obtain⟨p,f,u⟩:=Ht.below_spec t.place H<|if i=0 then 0 else t.place.getD (i-1) 0+1;have n:∀a b (C:a<t.place.size) (d:b<t.place.size),a<b->t.place[a]<t.place[b]:=λa b C d h=>by have:=Nq.mp H a b (by simpa using C) (by simpa using d) h;simpa using this
  by_cases z:i=0;rw[m9 z]at p f u ⊢;rcases Nat.eq_zero_or_pos (C7 t.place 0)with q|q;rw[q,z];have:=f 0 (by lia) q;lia;rw[n5 z]at p f u ⊢;have r:i-1<t.place.size:=by lia
  have I:t.place.getD (i-1) 0=t.place[i-1]:=by simp[Iw,r]
  rw[I]at p f u ⊢;rcases Lw (C7 t.place<|t.place[i-1]+1) i with q|q|q;have:=u (i-1) r (by lia);lia;exact q;have:=f i (by lia) q;have:=n (i-1) i r (by lia) (by lia);lia
 exact {
  sub:=λb d=>by simp at d;simp[d]
  frame:=λ_ _ _ l F=>⟨F it (by simp) _ l.1,l.2.at λo e=>F a (by simp) o e⟩
  item:=λi s Q E hi l j=>by
   have ps:t.place.size=es.size:=by have:=l.2.ft;simp[KP]at this;lia
   have G:i<t.place.size:=by lia
   have D:es[i]?=a7 es[i]:=E5 hi;have B:t.place[i]?=a7 t.place[i]:=E5 G;refine jo (next:=t.place[i]+1) (x:=es[i].2) l.1 l.2 (λA E Q q=>gZ d c m l.2 ?_) λh' h1 U=>j _ h' s.toks ?_ ⟨?_,l.2.at λo e=>(U.2 a y).trans e⟩ λb o d e=>(U.2 b<|by simpa using d).trans e;rw[g i (by lia),D,B];exact q;rw[C2,E4,D];rfl;rw[n5<|Nat.succ_ne_zero i,Mj,show t.place.getD i 0=t.place[i] by simp[Iw,G]];exact h1
  done:=λs Q E l j=>by
   have ps:t.place.size=es.size:=by have:=l.2.ft;simp[KP]at this;lia
   refine cQ J l.1 l.2 (λA E Q q=>gZ d c m l.2 ?_) λh' k=>j h' s.toks λb o d e=>k b o (by simpa using d) e;rw[g es.size (by lia),Kz<|t6 _];exact q
  self:=λ_ _ _ _ l j=>eF l.1 j }
theorem zM(S:SetAt s.heap a o es ep t)(B:o.cls=.type "set")(x:t.plain=a9->es.size<=1\/t.place.toList.Pairwise (· < ·))(g:t.led = !w.params.followText "set-order")(hz:es.size<=sizeLine)(h:∀(it:d5) (h':d7) (d:Drawn) (vs:List c6) (fp:List d5) (St:Nat->d7->Prop),(∀b o,s.heap.get? b=a7 o->h'.get? b=a7 o)->vs.Perm (es.toList.map (·.2))->s.heap.objs.size<=it->it<h'.objs.size->(∀b∈fp,b=a\/s.heap.objs.size<=b/\b<h'.objs.size) -> (∀A':e9,A'.handled=a8->Walks prog w A' it fp [it] es.size (λi v=>vs[i]?=a7 v) St)->St 0 h'->Q (.ref it) { s with heap:=h',drawn:=d }):f9 (g7 prog w) A (i9<|.ref a) Q E s:=by
 have T:s.TypeIs (.ref a) "set":=⟨o,S.ob,B⟩
 have r:a<s.heap.objs.size:=u7 S.ob;refine Md T F.slot_set_iter<|E8 F.slot_set_iter T mq ?_<|F.args_set_iter_1 _;unfold Builtin.«frozenset.__iter__»;refine o8<|show f9 (g7 prog w) _ (pure a) _ _ s from p4 ?_;unfold Builtin.Frozenset.sizeOf;refine o8<|o8<|LA S.ob S.dt S.ft<|p4 ?_;unfold setDrawn;refine o8<|o8<|IS S.ob S.dt S.ft ?_;unfold setsByText;refine o8<|o8<|Kq<|p4<|p4 ?_;by_cases p:(!w.params.followText "set-order" && (!t.plain&&decide (es.size > 1)))=a9;refine Jk (λ_=>?_) λz=>n6 p z;refine o8<|oF _ _ _ _ (by simp) λps d u=>?_;refine o8<|show f9 (g7 prog w) _ (newObj (.type "tuple")<|.seq (ps.map λ(i:Nat)=>j0 i).toArray) _ _ _ from F8 ?_ (by have e:=u.length_eq;rw[Lv]at e;show (ps.map λ(i:Nat)=>j0 i).toArray.size<=sizeLine;rw[v6,t7,e];exact hz);have S1:=S.at (h':=s.heap.push { cls:=.type "tuple",data:=.seq (ps.map λ(i:Nat)=>j0 i).toArray }) λo e=>u4 _ e;refine o8<|wpAny_setEpoch_of (s:={ s with heap:=_,drawn:=d }) S1.ob S1.dt S1.ft ?_;refine o8 (show f9 (g7 prog w) _ (newObj (.type "set_iterator")<|.fields #[.ref s.heap.objs.size,j0 0,.ref a,j0 es.size,j0 ep]) _ _ _ from F8 ?_<|by size_fits);refine p4 ⟨_,rfl,"set_iterator",_,⟨_,v8 _ rfl,rfl⟩,aO.lookup,?_⟩;have n:(s.heap.push { cls:=.type "tuple",data:=.seq (ps.map λ(i:Nat)=>j0 i).toArray }).objs.size=s.heap.objs.size+1:=HH ..;refine h _ _ d (ps.filterMap λj=>(es[j]?).map (·.2)) _ _ (λb o e=>u4 _<|u4 _ e) ?_ (by show s.heap.objs.size<=(s.heap.push _).objs.size;rw[n];exact KM _) (by show _<((s.heap.push _).push _).objs.size;rw[HH (h:=s.heap.push _)];exact HJ _) ?_ (λA' k=>pj (o:=o) (t:=t) (ep:=ep) u k (v7<|by rw[n];exact JX r)<|v7<|by rw[n];exact HJ _) ⟨v8 _ rfl,S1.at λo e=>u4 _ e,⟨_,u4 _<|v8 _ rfl,rfl,_,rfl⟩⟩;refine(u.filterMap _).trans ?_;have y:(A7 es.size).filterMap (λj=>(es[j]?).map (·.2))=((A7 es.size).filterMap λj=>es[j]?).map (·.2):=by rw[List.map_filterMap]
 rw[y,filterMap_getElem?_range];intro b c;rw[HH,n];rcases u8.mp c with rfl|c;exact .inr ⟨by rw[n];exact KM _,by rw[n];exact HJ _⟩;rcases u8.mp c with rfl|c;exact .inl rfl;rw[HK.mp c];exact .inr ⟨t6 _,JX<|HJ _⟩;refine Jk (λz=>n6 z p) λ_=>?_;refine o8<|p4<|o8<|wpAny_setEpoch_of S.ob S.dt S.ft ?_;refine o8 (show f9 (g7 prog w) _ (newObj (.type "set_iterator")<|.fields #[j0 0,j0 0,.ref a,j0 es.size,j0 ep]) _ _ _ from F8 ?_<|by size_fits);refine p4 ⟨_,rfl,"set_iterator",_,⟨_,v8 _ rfl,rfl⟩,aO.lookup,?_⟩;have S1:=S.at (h':=s.heap.push<|cT (j0 0) 0 es.size a ep) λo e=>u4 _ e;have l:∀b∈[s.heap.objs.size,a],b=a\/s.heap.objs.size<=b/\b<(s.heap.push<|cT (j0 0) 0 es.size a ep).objs.size:=λb c=>by rcases u8.mp c with rfl|c;exact .inr ⟨t6 _,by rw[HH];exact HJ _⟩;exact .inl<|HK.mp c
 by_cases c:w.params.followText "set-order" = a9;refine h _ _ s.drawn ((m5 (w.params.setOrder a ep) es).toList.map (·.2)) _ _ (λb o e=>u4 _ e) ((ja _ es).map _) (t6 _) (by rw[HH];exact HJ _) l (λA' k=>sQ (o:=o) (t:=t) (ep:=ep) c k<|v7 r) ⟨v8 _ rfl,S1⟩;have f:w.params.followText "set-order" = c5:=by simpa using c
 have m:(!t.plain&&decide (es.size > 1))=c5:=by rw[f]at p;simpa using p
 have av:es.size<=1\/t.place.toList.Pairwise (· < ·):=by by_cases q:t.plain=a9;exact x q;simp[q]at m;exact .inl m
 rcases av with h1|C;refine h _ _ s.drawn (es.toList.map (·.2)) _ _ (λb o e=>u4 _ e) (JQ _) (t6 _) (by rw[HH];exact HJ _) l (λA' k=>sR (o:=o) (t:=t) (ep:=ep) f (by rw[g,f];rfl) h1 k<|v7 r) ⟨?_,S1⟩;rw[m9 rfl];exact v8 _ rfl;refine h _ _ s.drawn (es.toList.map (·.2)) _ _ (λb o e=>u4 _ e) (JQ _) (t6 _) (by rw[HH];exact HJ _) l (λA' k=>sS (o:=o) (t:=t) (ep:=ep) f (by rw[g,f];rfl) m C k<|v7 r) ⟨?_,S1⟩;rw[m9 rfl];exact v8 _ rfl
end L2
namespace L2
open PySem PySem.Spec PyProof.Rows DL PySem.W PySem.Calls PyProof.V
theorem zR(n:s.TypeIs (.ref a) "set")(h:Q c5 s):f9 (g7 prog w) A (NC<|.ref a) Q E s:=by
 unfold NC;refine o8<|Jx n F.slot_set_len.lookup ?_;generalize hi:("set.__len__":String)=t
 wp_delta
 rw[show splitId t=a7 ("set","__len__") by rw[<-hi];decide +kernel];rw[<-hi];refine o8<|JT (T:="set") (b:=a9) n sub_set_self<|Jk (λz=>n6 z<|by decide) λ_=>Jk (λ_=>o8<|Jt n<|p4 h) λz=>n6 (by decide +kernel) z
theorem ud{R:Result->f6->Prop}(N:A.handled=a8)(S:SetAt s.heap a o es ep t)(B:o.cls=.type "set")(G:t.plain=a9->es.size<=1\/t.place.toList.Pairwise (· < ·))(v:t.led = !w.params.followText "set-order")(hz:es.size<=sizeLine){D:d5}{c₀:Nat} (p:D≠a) (L:s.heap.get? D=a7 { cls:=.type "list",data:=.seq #[] c₀ }) (res:c6)(Z:∀h' tk d vs c,(∀b u,b≠D->s.heap.get? b=a7 u->h'.get? b=a7 u)->h'.get? D=a7 { cls:=.type "list",data:=.seq vs c }->vs.toList.Perm (es.toList.map (·.2))->R (.ok<|.ret res) { s with heap:=h',toks:=tk,drawn:=d }):f9 (g7 prog w) A.in1 (MF (.ref D) (.ref a) res)
   (λfin s'=>match fin with|.done f=>R (.ok f) s'|.again c'=>c'.quiet=a9/\j7 (g7 prog w) A c' R s') (λe s'=>R (.error e) s') s:=by
 have ld:D<s.heap.objs.size:=u7 L;have hT:s.TypeIs (.ref a) "set":=⟨o,S.ob,B⟩
 unfold MF;refine o8<|Jt hT ?_;have T:Builtin.List.listSameRef (.ref D) (.ref a)=c5:=by simp[Builtin.List.listSameRef,p]
 have U:(Js "set" == Js "list")=c5:=by decide
 have V:(Js "set" == Js "tuple")=c5:=by decide
 simp only[T,U,V,Bool.or_false,z6,o4];refine o8<|zM S B G v hz λit h1 d vs Y St H pv I ai C W P=>?_;have M:D∉Y:=λz=>by
  rcases C D z with e|⟨e,_⟩
  exact p e;exact n6 ld<|Ji.mpr e
 have lv:vs.length=es.size:=by have:=pv.length_eq;simpa using this
 have K:∀(h:d7) (g:Nat),St 0 h->(∀b u,b≠D->h1.get? b=a7 u->h.get? b=a7 u)->h.get? D=a7 { cls:=.type "list",data:=.seq #[] g } -> j7 (g7 prog w) A (.builtin "list.extend.loop" ⟨[.ref D,.ref it,res],[]⟩) R { s with heap:=h,drawn:=d }:=λh g J kk y=>by
  refine codeAny_extend_loopS (W A.in1<|by simp[N]).toS hz D M res es.size 0 _ #[] g rfl (v9 _) J y (ItemsOf.nil _) λs' acc c' O m j=>?_;rw[Moved.eq_with O];have X:acc.toList=vs:=by
   apply Mf;intro i;by_cases hi:i<es.size;have E:i<acc.size:=by rw[j.1];exact hi
   have h1:acc[i]?=a7 acc[i]:=E5 E;rw[E4,h1];exact(j.2 i _ h1).symm;rw[J0 (by rw[C3,j.1];lia),J0<|by lia]
  refine Z s'.heap s'.toks d acc c' (λb u k e=>O.heap b u (λz=>?_)<|kk b u k<|H b u e) m (by rw[X];exact pv);rcases u8.mp z with Q|z;exact k Q;rw[HK.mp z]at e;exact n6 (u7 e)<|Ji.mpr I
 have l:=H _ _ L;refine o8<|C9<|zR (s:={ s with heap:=h1,drawn:=d }) ⟨o,H _ _ S.ob,B⟩ ?_;refine Jk (λz=>?_) λ_=>p4 ⟨Jw F.plain_extend_loop _,K h1 c₀ P (λ_ _ _ e=>e) l⟩;refine o8 (G7 (o8 (show f9 (g7 prog w) _ (updateSeq D (·.push .none) >>= λ_=>updateSeq D (·.pop)) _ _ _ from o8<|wpAny_updateSeq l rfl ?_)));have n:=HY (D8 (·.push ABJ)) l rfl;refine wpAny_updateSeq (hz:=by seq_fits) n rfl ?_;have x:=HY (D8 (·.pop)) n rfl;have r:∀b,b≠D->((h1.update D (D8 (·.push ABJ))).update D (D8 (·.pop))).get? b=h1.get? b:=λb k=>by rw[K4 _ _<|v5 k,K4 _ _<|v5 k]
 refine p4 ⟨Jw F.plain_extend_loop _,K _ _ ((W A N).frame 0 _ _ P λb k u e=>(r b λq=>M<|q ▸ k).trans e) (λb u k e=>(r b k).trans e) x⟩
theorem sY{Q:c6->f6->Prop}(H:A.handled=a8)(S:SetAt s.heap a o es ep t)(G:o.cls=.type "set")(B:t.plain=a9->es.size<=1\/t.place.toList.Pairwise (· < ·))(y:t.led = !w.params.followText "set-order")(hz:es.size<=sizeLine)(h:∀h' tk d D (vs:List c6),(∀b u,s.heap.get? b=a7 u->h'.get? b=a7 u)->s.heap.get? D=a8->h'.get? D=a7 { cls:=.type "list",data:=.seq vs.toArray }->vs.Perm (es.toList.map (·.2)) -> f9 (g7 prog w) A.in1 (call (.builtin "list.sort") [.ref D]) (λ_ s'=>Q (.ref D) s') E { s with heap:=h',toks:=tk,drawn:=d }):f9 (g7 prog w) A (call (.builtin "sorted") [.ref a]) Q E s:=by
 have I:a<s.heap.objs.size:=u7 S.ob;refine call_function_entry kind_sorted plain_sorted entry_sorted (args_sorted1 _) ?_;unfold Builtin.«sorted»;refine o8 (m:=checkCount "sorted" 1 1 _)<|p4 ?_;unfold collect;refine o8<|o8<|wpAny_runValue<|IM F.entry_proto_collect ?_;rw[JD F.plain_proto_collect _];refine(show f9 (g7 prog w) _ (newList [] >>= λl=>again<|.builtin "list.__iadd__" ⟨[l,.ref a],[]⟩) _ _ s from o8<|F8<|p4 ⟨Jw F.plain_list_iadd _,IM F.entry_list_iadd ?_⟩);rw[JD F.plain_list_iadd _];have S1:=S.at (h':=s.heap.push { cls:=.type "list",data:=.seq ([]:List c6).toArray }) λo e=>u4 _ e;have C:=ud (prog:=prog) (A:=A.in1) (s:={ s with heap:=s.heap.push { cls:=.type "list",data:=.seq ([]:List c6).toArray } }) (D:=s.heap.objs.size) (c₀:=0) (res:=.ref s.heap.objs.size) (R:=λr s'=>∃h' tk d vs c,r=.ok (.ret<|.ref s.heap.objs.size)/\s'={ s with heap:=h',toks:=tk,drawn:=d }/\(∀b u,s.heap.get? b=a7 u->h'.get? b=a7 u)/\h'.get? s.heap.objs.size=a7 { cls:=.type "list",data:=.seq vs c }/\vs.toList.Perm (es.toList.map (·.2))) (by simp[H]) S1 G B y hz (Ln I) (v8 _ rfl) λh' tk d vs c k g p=>⟨h',tk,d,vs,c,rfl,rfl,λb u e=>k b u (v7<|u7 e)<|u4 _ e,g,p⟩
 have i:∀h' tk d (vs:Array c6) c,(∀b u,s.heap.get? b=a7 u->h'.get? b=a7 u)->h'.get? s.heap.objs.size=a7 { cls:=.type "list",data:=.seq vs c }->vs.toList.Perm (es.toList.map (·.2)) -> f9 (g7 prog w) A.in1 (do let ob <-load s.heap.objs.size;match ob.data with|.seq xs _=>pure xs.toList|_=>unsupported "internal:collect":Sem (List c6)) (λxs s'=>f9 (g7 prog w) A.in1 (do let l <-newList xs;let _ <-i3 [l] (call (.builtin "list.sort") [l] []);ret l) (λn s'=>∃v,n=Fin.done (Flow.ret v)/\Q v s') E s') E { s with heap:=h',toks:=tk,drawn:=d }:=λh' tk d vs c j g p=>by
  refine o8 (wpAny_load g<|p4<|o8<|Kj ?_<|by rw[p.length_eq];simpa using hz);have J:s.heap.objs.size<h'.objs.size:=u7 g;refine o8<|C9<|D4 (h (h'.push { cls:=.type "list",data:=.seq vs.toList.toArray }) tk d h'.objs.size vs.toList (λb u e=>u4 _<|j b u e) ?_ (v8 _ rfl) p) (λ_ s' q=>p4 ⟨_,rfl,q⟩) λ_ _ z=>z;cases q:s.heap.get? h'.objs.size with
  |none=>rfl
  |some o'=>exact n6 (u7<|j _ _ q)<|D5 _
 refine D4 C (λn s' x=>?_) λe s' ⟨_,_,_,_,_,z,_⟩=>by cases z
 cases n with
 |done f=>obtain⟨h',tk,d,vs,c,z,rfl,j,g,p⟩:=x;cases z;exact i h' tk d vs c j g p
 |again c'=>refine⟨x.1,Kg x.2 ?_⟩;rintro r K ⟨h',tk,d,vs,c,z,e,j,g,p⟩;subst z e;exact i h' tk d vs c j g p
end L2
namespace L2
open PySem PySem.Spec PyProof.Rows DL PySem.W
theorem p0.drew(I:p0 X pins σ H s):p0 X pins σ H { s with drawn:=d }:=⟨I.ok,I.os,I.bare,I.base,I.loc,I.cell,I.free,I.freeC,I.pin,I.hok,I.len⟩
end L2
namespace L2
open PySem PySem.Spec PyProof.Rows DL PySem.Builtin PySem.Builtin.Str PySem.StrLaws
theorem xN(a b B:Nat):strSliceIndices (a7 (a:Int)) (a7 (b:Int)) 1 B=strSliceIndices (a7 ((min a B:Nat):Int)) (a7 ((min b B:Nat):Int)) 1 B:=by
 have e:∀i:Nat,max (0:Int) (min (i:Int) (B:Int))=max (0:Int) (min ((min i B:Nat):Int) (B:Int)):=λi=>by lia
 have n:∀i:Nat,¬((i:Int)<0):=λi=>by lia
 simp only[strSliceIndices,n,o4,show ((1:Int) > 0)=True by simp,o5];rw[e a,e b]
theorem fH(x:c7)(l u:Option Int):(JL x l u).cps.toList=if (strSliceIndices l u 1 x.length).length=x.length then x.cps.toList else(strSliceIndices l u 1 x.length).filterMap (x.cps[·]?):=by unfold JL;by_cases h:(strSliceIndices l u 1 x.length).length=x.length;rw[m9 (by simp[h]),m9 h];rw[n5 (by simp[h]),n5 h]
theorem vF(x:c7){a b:Nat}(S:a<=b):(JL x (a7 (a:Int))<|a7 (b:Int)).cps.toList=(x.cps.toList.drop a).take (b-a):=by
 have d:min a x.length<=min b x.length:=by lia
 have l:(strSliceIndices (a7 ((min a x.length:Nat):Int)) (a7 ((min b x.length:Nat):Int)) 1 x.length).filterMap (x.cps[·]?)=(x.cps.toList.drop<|min a x.length).take (min b x.length-min a x.length):=sliced_plain x d<|Nat.min_le_right ..;have Q:=jv (a:=x);have n:(x.cps.toList.drop<|min a x.length).take (min b x.length-min a x.length)=(x.cps.toList.drop a).take (b-a):=by by_cases f:a<=x.length;rw[Nat.min_eq_left f];by_cases c:b<=x.length;rw[Nat.min_eq_left c];rw[Nat.min_eq_right (by lia),Mw (by rw[Jy];lia),Mw<|by rw[Jy];lia];rw[List.drop_eq_nil_of_le (i:=a) (by lia),List.drop_eq_nil_of_le (i:=min a x.length)<|by lia];simp
 rw[fH,xN,l,n];split;rename_i h;rw[strSliceIndices_plain d<|Nat.min_le_right ..]at h;simp only[t7,Lv]at h;have e:min a x.length=0:=by lia
 by_cases g:x.length=0;have:x.cps.toList=[]:=List.eq_nil_of_length_eq_zero (by lia);rw[this];simp;have:a=0:=by lia
 subst this;rw[List.drop_zero,Mw<|by lia];rfl
end L2
namespace L2
open PySem PySem.Spec PyProof.Rows DL PySem.W
def BC:D0:=λx y M Q=>match x,y with
 |.int i,.int j=>CPow i j/\Q (.int<|i ^ j.toNat) M
 |_,_=>False
theorem Fv:E1 X (j2 .Pow) BC:=by refine A9.imp Fj ?_;rintro g l H R ⟨x,y,M,ρ,Q,s,r,m,q,k⟩;unfold BC at q;split at q;cases r;cases m;exact⟨_,_,rfl,rfl,q.1,k _ H<|VQ.now s (.int _) q.2⟩;exact q.elim
theorem Go:E6 X (j2 .Pow) BC:=⟨Fv⟩
end L2
namespace Ht
open PySem
def IE(ow:Array (Option Nat))(s:Nat):Prop:=∃i,ow[s]?=a7 (a7 i)
theorem getD_none(hs:s<ow.size):(ow.getD s<|a7 0).isNone=a9↔¬IE ow s:=by
 have e:ow[s]?=a7 ow[s]:=E5 hs;have m:ow.getD s (a7 0)=ow[s]:=by simp[Iw,hs]
 rw[m];unfold IE;rw[e];cases ow[s]<;>simp
theorem xw(hz:ow.size=m+1)(h:Int):∀(fuel k0 k:Nat),k0<=k->k<k0+fuel->¬IE ow (cK m h k).1->(∀n,n<cZ m h k0->IE ow (sq m h n).j) ->∃N,Mv m ow fuel (cK m h k0).1 (cK m h k0).2=a7 (sq m h N).j/\¬IE ow (sq m h N).j/\∀n,n<N->IE ow (sq m h n).j:=by
 intro fuel;induction fuel with
 |zero=>intro k0 k h1 h2;lia
 |succ fuel l =>
  intro k0 k h1 h2 c d;have p:=pH m h k0;have u:G3 m (cK m h k0).1<=m/\(cK m h k0).1<=G3 m (cK m h k0).1:=by unfold G3;split<;>lia
  unfold Mv;cases f:(A7<|G3 m (cK m h k0).1+1-(cK m h k0).1).find? λk=>(ow.getD ((cK m h k0).1+k)<|a7 0).isNone with
  |some r =>
   have i:=L6 f;have b:=List.mem_of_find?_eq_some f;rw[G8]at b;refine⟨cZ m h k0+r,by rw[vD m h k0 r<|by lia],?_,λn g=>?_⟩;rw[vD m h k0 r<|by lia];exact(getD_none<|by lia).mp i;rcases Ic n (cZ m h k0)with q|q;exact d n q;obtain⟨r',rfl⟩:∃r',n=cZ m h k0+r':=⟨n-cZ m h k0,by lia⟩
   rw[vD m h k0 r'<|by lia];refine JE λo=>?_;have t:r' < r:=by lia
   have z:=(getD_none (ow:=ow) (s:=(cK m h k0).1+r')<|by lia).mpr o;have:=List.find?_range_eq_some.mp f;have:=this.2.2 r' t;rw[z]at this;exact n6 this<|by simp
  |none =>
   have a:∀r,r<=G3 m (cK m h k0).1-(cK m h k0).1->IE ow ((cK m h k0).1+r):=λr i=>by refine JE λo=>?_;have z:=(getD_none (ow:=ow) (s:=(cK m h k0).1+r)<|by lia).mpr o;have:=List.find?_eq_none.mp f r (G8.mpr<|by lia);exact this z
   have v:k0≠k:=λe=>by subst e;exact c<|a 0<|v9 _
   refine l (k0+1) k (by lia) (by lia) c λn g=>?_;unfold cZ at g;rcases Ic n (cZ m h k0)with q|q;exact d n q;obtain⟨r',rfl⟩:∃r',n=cZ m h k0+r':=⟨n-cZ m h k0,by lia⟩
   rw[vD m h k0 r'<|by lia];exact a r'<|by lia
structure Laid(m:Nat)(hs:List Int)(ow:Array (Option Nat))(k:Nat):Prop where
 sz:ow.size=m+1
 lt:∀s i:Nat,ow[s]?=a7 (a7 i)->i<k
 inj:∀s s' i:Nat,ow[s]?=a7 (a7 i)->ow[s']?=a7 (a7 i)->s=s'
 all:∀i:Nat,i<k->∃s:Nat,ow[s]?=a7 (a7 i)
 path:∀(s i:Nat) (h:Int),ow[s]?=a7 (a7 i)->hs[i]?=a7 h->∃n,(sq m h n).j=s/\∀n',n' < n->IE ow (sq m h n').j
theorem Laid.room(L:Laid m hs ow k)(q:k<=m):∃s,s<=m/\¬IE ow s:=by
 refine JE λo=>?_;have c:∀s,s<=m->IE ow s:=λs hs=>JE λz=>o ⟨s,hs,z⟩;have d:∀s,s∈A7 (m+1)->((ow.getD s a8).getD 0)∈A7 k:=λs u=>by
  obtain⟨i,e⟩:=c s (by have:=G8.mp u;lia);have:ow.getD s a8=a7 i:=by obtain⟨g,z⟩:=Jf.mp e;simp[Iw,g,z]
  rw[this];exact G8.mpr<|L.lt s i e
 have X:((A7<|m+1).map λs=>(ow.getD s a8).getD 0).Nodup:=by
  rw[LG,Jn];have base:=List.nodup_range (n:=m+1);rw[LG]at base;refine base.imp_of_mem λ{a b} ha hb hne e=>hne ?_;obtain⟨i,f⟩:=c a (by have:=G8.mp ha;lia);obtain⟨j,h⟩:=c b (by have:=G8.mp hb;lia);have t:ow.getD a a8=a7 i:=by obtain⟨g,z⟩:=Jf.mp f;simp[Iw,g,z]
  have l:ow.getD b a8=a7 j:=by obtain⟨g,z⟩:=Jf.mp h;simp[Iw,g,z]
  rw[t,l]at e;have:i=j:=e;subst this;exact L.inj a b i f h
 have:=L2.nodup_le _ (A7 k) X λx p=>by obtain⟨s,u,rfl⟩:=y4.mp p;exact d s u
 rw[t7,Lv,Lv]at this;lia
theorem Laid.step(D:jW m)(L:Laid m hs ow k)(B:k<=m)(A:hs[k]?=a7 h):∃j,Mv m ow (KR m) (Jb h % (m+1)) (Jb h)=a7 j/\Laid m hs (ow.setIfInBounds j<|a7 k) (k+1):=by
 obtain⟨s,g,l⟩:=L.room B;obtain⟨H,C,e⟩:=Ba D h g;obtain⟨N,v,x,y⟩:=xw L.sz h (KR m) 0 H (v9 _) (by unfold KR;lia) (by rw[e];exact l) λn F=>n6 F<|Jl _;refine⟨(sq m h N).j,v,?_⟩;have G:(sq m h N).j<ow.size:=by have:=vC (m:=m) h N;rw[L.sz];lia
 have a:(ow.setIfInBounds (sq m h N).j<|a7 k)[(sq m h N).j]?=a7 (a7 k):=by rw[Array.getElem?_setIfInBounds_self_of_lt G]
 have r:∀s,s≠(sq m h N).j->(ow.setIfInBounds (sq m h N).j<|a7 k)[s]?=ow[s]?:=λs f=>Array.getElem?_setIfInBounds_ne<|v5 f;have w:∀s,IE ow s->IE (ow.setIfInBounds (sq m h N).j<|a7 k) s:=λs ⟨i,z⟩=>by by_cases q:s=(sq m h N).j;subst q;exact⟨k,a⟩;exact⟨i,by rw[r s q];exact z⟩
 have d:∀s i,(ow.setIfInBounds (sq m h N).j<|a7 k)[s]?=a7 (a7 i)->(s=(sq m h N).j/\i=k)\/(s≠(sq m h N).j/\ow[s]?=a7 (a7 i)):=λs i z=>by by_cases q:s=(sq m h N).j;subst q;rw[a]at z;cases z;exact .inl ⟨rfl,rfl⟩;rw[r s q]at z;exact .inr ⟨q,z⟩
 refine⟨by rw[Array.size_setIfInBounds];exact L.sz,λs i z=>?_,λs s' i z J=>?_,λi hi=>?_,λs i h' z b=>?_⟩;rcases d s i z with⟨_,e⟩|⟨_,z⟩
 lia;have:=L.lt s i z;lia;rcases d s i z with⟨t,p⟩|⟨_,z⟩
 rcases d s' i J with⟨R,_⟩|⟨_,J⟩
 rw[t,R];have:=L.lt s' i J;lia;rcases d s' i J with⟨_,I⟩|⟨_,J⟩
 have:=L.lt s i z;lia;exact L.inj s s' i z J;by_cases q:i=k;subst q;exact⟨_,a⟩;obtain⟨s,z⟩:=L.all i (by lia);refine⟨s,?_⟩;rw[r s λe=>x ⟨i,by rw[<-e];exact z⟩];exact z;rcases d s i z with⟨t,p⟩|⟨_,z⟩
 subst t p;rw[A]at b;cases b;exact⟨N,rfl,λo c=>w _<|y o c⟩;obtain⟨n,E,u⟩:=L.path s i h' z b;exact⟨n,E,λo c=>w _<|u o c⟩
theorem Cy(f:jW m)(hs:List Int)(p:hs.length<=m):∃ow,SetTable.layClean m hs.toArray=a7 ow/\Laid m hs ow hs.length:=by
 have start:Laid m hs (Array.replicate (m+1) a8) 0:=by
  have n:∀s i:Nat,(Array.replicate (m+1) (a8:Option Nat))[s]?≠a7 (a7 i):=λs i z=>by rw[Array.getElem?_replicate]at z;split at z<;>cases z
  exact⟨by simp,λs i z=>n6 z<|n s i,λs _ i z=>n6 z<|n s i,λi hi=>n6 hi<|Jl _,λs i _ z=>n6 z<|n s i⟩
 have c:∀(aE:List Int) (k:Nat) (ow:Array (Option Nat)),hs.drop k=aE->k+aE.length=hs.length->Laid m hs ow k -> ∃o,aE.foldl (init:=a7 (ow,k)) (λacc h=>do
    let (owner,k) <-acc
    let j <-Mv m owner (KR m) (Jb h % (m+1)) (Jb h)
    pure (owner.setIfInBounds j<|a7 k,k+1))=a7 (o,hs.length)/\Laid m hs o hs.length:=by
  intro aE;induction aE with
  |nil =>
   intro k ow e a L;have:k=hs.length:=by simpa using a
   subst this;exact⟨ow,rfl,L⟩
  |cons h aE l =>
   intro k ow e a L;have d:hs[k]?=a7 h:=by
    have:(hs.drop k)[0]?=a7 h:=by rw[e];rfl
    rw[Ml]at this;simpa using this
   rw[A0]at a;obtain⟨j,r,b⟩:=L.step f (by lia) d;obtain⟨o,g1,g⟩:=l (k+1) (ow.setIfInBounds j<|a7 k) (by
    have:hs.drop (k+1)=(hs.drop k).drop 1:=by rw[List.drop_drop]
    rw[this,e];rfl) (by lia) b
   refine⟨o,?_,g⟩;rw[List.foldl_cons];simp only[Option.bind_eq_bind,Option.bind_some,r,Option.pure_def];exact g1
 obtain⟨ow,g1,g⟩:=c hs 0 _ rfl (by simp) start;refine⟨ow,?_,g⟩;unfold SetTable.layClean;rw[<-Array.foldl_toList];have:hs.toArray.toList=hs:=by simp
 rw[this,g1];rfl
theorem jb{α:Type}[DecidableEq α]:∀{l l':List α},l.Nodup->l'.Nodup->(∀x,x∈l↔x∈l')->l.Perm l'
 | [],l',_,_,h=>by have:l'=[]:=List.eq_nil_iff_forall_not_mem.mpr λx hx=>n6 ((h x).mpr hx) (by simp);rw[this]
 |x::l,l',n,n',h=>by have hx:x∈l':=(h x).mp z0;have n1:=HR.mp n;refine(L1 x<|jb n1.2 (n'.erase x) λy=>?_).trans (List.perm_cons_erase hx).symm;by_cases e:y=x;subst e;constructor;intro z;exact n6 z n1.1;intro z;exact n6 z<|List.Nodup.not_mem_erase n';rw[List.mem_erase_of_ne e,<-h y,u8];exact⟨.inr,λz=>z.resolve_left e⟩
noncomputable def be(m:Nat)(ow:Array (Option Nat)):List (Nat×Nat):=(A7<|m+1).filterMap λj=>(ow.getD j a8).map (j,·)
theorem cR(L:Laid m hs ow k):(s,i)∈be m ow↔ow[s]?=a7 (a7 i):=by
 unfold be;rw[Mp];constructor;rintro⟨j,hj,e⟩;have h:j<ow.size:=by rw[L.sz];exact G8.mp hj
 have a:ow.getD j a8=ow[j]:=by simp[Iw,h]
 rw[a]at e;cases q:ow[j] with
 |none=>rw[q]at e;cases e
 |some i'=>rw[q]at e;have:=A1 e;cases this;rw[E5 h,q]
 intro e;obtain⟨g,z⟩:=Jf.mp e;refine⟨s,G8.mpr (by rw[<-L.sz];exact g),?_⟩;have a:ow.getD s a8=ow[s]:=by simp[Iw,g]
 rw[a,z];rfl
theorem nZ(m:Nat)(ow:Array (Option Nat)):((be m ow).map (·.1)).Pairwise (· < ·):=by unfold be;rw[Jn];refine List.Pairwise.filterMap (R:=(· < ·)) _ (λa c h b d e f=>?_)<|List.pairwise_lt_range;obtain⟨x,_,rfl⟩:=J1.mp d;obtain⟨y,_,rfl⟩:=J1.mp f;exact h
theorem oh(L:Laid m hs ow hs.length):((be m ow).map (·.2)).Perm (A7 hs.length):=by
 have n:(be m ow).Nodup:=by have:=nZ m ow;rw[Jn]at this;exact this.imp λh e=>by rw[e]at h;exact D5 _ h
 have X:((be m ow).map (·.2)).Nodup:=by rw[LG,Jn];rw[LG]at n;refine n.imp_of_mem λ{a b} ha hb hne e=>hne ?_;obtain⟨s,i⟩:=a;obtain⟨s',i'⟩:=b;have c:i=i':=e;subst c;rw[L.inj s s' i ((cR L).mp ha)<|(cR L).mp hb]
 refine jb X List.nodup_range λi=>?_;rw[G8,y4];constructor;rintro⟨⟨s,i'⟩,hm,rfl⟩;exact L.lt s i'<|(cR L).mp hm;intro hi;obtain⟨s,e⟩:=L.all i hi;exact⟨(s,i),(cR L).mpr e,rfl⟩
theorem mj{α:Type}{l:List α}{p:Nat}{x y:α}(b:p<=l.length){i:Nat}(h:(l.take p++x::l.drop p)[i]?=a7 y):(i<p/\l[i]?=a7 y)\/(i=p/\y=x)\/(p<i/\l[i-1]?=a7 y):=by
 have lt:(l.take p).length=p:=by rw[HU];lia
 rcases Lw i p with q|q|q;rw[G6 (by lia),List.getElem?_take,m9 q]at h;exact .inl ⟨q,h⟩;subst q;rw[IB (by lia),lt,Kf]at h;exact .inr<|.inl ⟨rfl,(A1 h).symm⟩;rw[IB (by lia),lt]at h;obtain⟨r,a⟩:∃r,i-p=r+1:=⟨i-p-1,by lia⟩
 rw[a,LD,Ml]at h;exact .inr<|.inr ⟨q,by rw[show i-1=p+r by lia];exact h⟩
structure TPre(t:m6)(hs:List Int):Prop where
 msk:jW t.mask
 len:t.place.size=hs.length
 nod:t.dummies = #[]
 ris:t.place.toList.Pairwise (· < ·)
 rng:∀j∈t.place.toList,j<=t.mask
 path:∀(i:Nat) (h:Int) (j:Nat),hs[i]?=a7 h->t.place[i]?=a7 j->∃n,(sq t.mask h n).j=j/\∀n',n' < n->(sq t.mask h n').j∈t.place.toList
theorem put_pre(T:TOk t hs)(h2:(sq t.mask h N).j∉t.place.toList)(u:∀k,k<N->(sq t.mask h k).j∈t.place.toList)(v:Bool):(t.put (sq t.mask h N).j).2<=hs.length/\TPre { (t.put (sq t.mask h N).j).1 with plain:=v } (hs.take (t.put (sq t.mask h N).j).2++h::hs.drop (t.put (sq t.mask h N).j).2):=by
 obtain⟨e,r⟩:=vO T.ris h2;obtain⟨g,_,_⟩:=below_spec t.place T.ris (sq t.mask h N).j;have l:C7 t.place (sq t.mask h N).j<=hs.length:=by rw[<-T.len];exact g
 refine⟨l,⟨T.msk,?_,?_,r,λj L=>?_,λi h' j d L=>?_⟩⟩;have:=o6 Hy e;rw[C3,v4,A0,HU,Jy,C3]at this;show (t.put (sq t.mask h N).j).1.place.size=(hs.take (C7 t.place (sq t.mask h N).j)++h::hs.drop (C7 t.place (sq t.mask h N).j)).length;rw[this,v4,A0,HU,Jy,T.len];show (if SetTable.has t.dummies (sq t.mask h N).j then SetTable.eraseAt t.dummies (C7 t.dummies (sq t.mask h N).j)else t.dummies) = #[];rw[T.nod];rfl;have a:j∈(t.put (sq t.mask h N).j).1.place.toList:=L;rw[e]at a;rcases B7.mp a with q|q;exact T.rng j<|List.mem_of_mem_take q;rcases u8.mp q with q|q;rw[q];exact vC h N;exact T.rng j<|List.mem_of_mem_drop q;have s:∀x,x∈t.place.toList->x∈(t.put (sq t.mask h N).j).1.place.toList:=λx m=>by rw[e];rw[<-Nb (C7 t.place (sq t.mask h N).j) t.place.toList]at m;rcases B7.mp m with q|q;exact E3 _ q;exact A8 _<|w6 _ q
 have a:(t.put (sq t.mask h N).j).1.place.toList[i]?=a7 j:=by rw[E4];exact L
 rw[e]at a;have o:∀k,hs[k]?=a7 h'->t.place[k]?=a7 j->∃n,(sq t.mask h' n).j=j/\∀f,f < n->(sq t.mask h' f).j∈(t.put (sq t.mask h N).j).1.place.toList:=λk w y=>by obtain⟨n,E,p⟩:=T.path k h' j w y;exact⟨n,E,λf c=>s _<|p f c⟩
 rcases mj (by rw[C3];exact g) a with⟨q,z⟩|⟨q,z⟩|⟨q,z⟩
 rcases mj l d with⟨b,J⟩|⟨b,J⟩|⟨b,J⟩
 exact o i J (by rw[<-E4];exact z);lia;lia;rcases mj l d with⟨b,J⟩|⟨b,J⟩|⟨b,J⟩
 lia;subst z J;exact⟨N,rfl,λf c=>s _<|u f c⟩;lia;rcases mj l d with⟨b,J⟩|⟨b,J⟩|⟨b,J⟩
 lia;lia;exact o (i-1) J<|by rw[<-E4];exact z
theorem TPre.ok(T:TPre t hs)(h:t.tooFull=c5):TOk t hs:=by refine⟨T.msk,T.len,T.nod,T.ris,T.rng,?_,T.path⟩;unfold SetTable.tooFull LZ at h;rw[T.nod]at h;simp at h;simpa using h
theorem TPre.anew(T:TPre t hs)(h:t.tooFull=a9)(M:(hs.length-1)*5<t.mask*3)(D:hs.length<=64):MZ (Kl hs.length)<=sizeLine/\∃t2 ord,t.relaid hs.toArray (Kl hs.length)=a7 (t2,ord)/\ord.toList.Perm (A7 hs.length)/\TOk t2 (ord.toList.map λi=>hs.getD i 0)/\t2.led=t.led:=by
 have u:hs.length*5 ≥ t.mask*3:=by unfold SetTable.tooFull LZ at h;rw[T.nod,T.len]at h;simpa using h
 have C:∃m,MZ (Kl hs.length)=m+1/\jW m/\hs.length<=m/\hs.length*5<m*3:=by
  rcases T.msk with e|e|e;have:hs.length=5:=by lia
  rw[this];exact⟨31,by decide +kernel,.inr<|.inl rfl,by decide,by decide⟩;have:hs.length=19:=by lia
  rw[this];exact⟨127,by decide +kernel,.inr<|.inr rfl,by decide,by decide⟩;lia
 obtain⟨m,e,g,H,f⟩:=C;refine⟨by rw[e,Ip];rcases g with rfl|rfl|rfl<;>lia,?_⟩;obtain⟨ow,B,L⟩:=Cy g hs H;unfold SetTable.relaid;rw[e,Mj];unfold SetTable.laid;rw[B];refine⟨_,_,rfl,?_,?_,rfl⟩;show ((be m ow).map (·.2)).toArray.toList.Perm _;simpa using oh L;have l:((be m ow).map (·.1)).toArray.toList=(be m ow).map (·.1):=by simp
 have K:((be m ow).map (·.2)).toArray.toList=(be m ow).map (·.2):=by simp
 have J:(be m ow).length=hs.length:=by have:=(oh L).length_eq;simpa using this
 refine⟨g,?_,rfl,?_,λj d=>?_,?_,λi h' j F d=>?_⟩;show ((be m ow).map (·.1)).toArray.size=(((be m ow).map (·.2)).toArray.toList.map λi=>hs.getD i 0).length;simp;show ((be m ow).map (·.1)).toArray.toList.Pairwise _;rw[l];exact nZ m ow;have a:j∈((be m ow).map (·.1)).toArray.toList:=d;rw[l]at a;obtain⟨⟨s,i⟩,o,rfl⟩:=y4.mp a;have:=(Jf.mp<|(cR L).mp o).1;rw[L.sz]at this;show s<=m;lia;show ((be m ow).map (·.1)).toArray.size*5<m*3;rw[v6,t7,J];exact f;have b:(((be m ow).map (·.2)).map λi=>hs.getD i 0)[i]?=a7 h':=by rw[<-K];exact F
 have a:((be m ow).map (·.1))[i]?=a7 j:=by rw[<-l,E4];exact d
 rw[G2,C2]at b;rw[C2]at a;cases q:(be m ow)[i]? with
 |none=>rw[q]at a;cases a
 |some p =>
  obtain⟨s,k⟩:=p;rw[q]at b a;have y:s=j:=A1 a;have A:hs.getD k 0=h':=A1 b;subst y;have c:=(cR L).mp<|Hu q;have v:=L.lt s k c;have G:hs[k]?=a7 h':=by rw[u9 v];rw[<-A];simp[Kd,v]
  obtain⟨n,E,x⟩:=L.path s k h' c G;refine⟨n,E,λw r=>?_⟩;obtain⟨I,z⟩:=x w r;show (sq m h' w).j∈((be m ow).map (·.1)).toArray.toList;rw[l];exact y4.mpr ⟨(_,I),(cR L).mpr z,rfl⟩
end Ht
namespace L2
open PySem PySem.Spec PyProof.Rows DL PySem.W
theorem mh:∀(n:Nat) (d:D),cb n d=a9->t4 M n d=a9
 | 0,d,h=>by cases d<;>first|rfl|cases h
 |n+1,d,h=>by
  cases d with
  |tup ds=>have h':ds.all (cb n)=a9:=h;show ds.all (t4 M n)=a9;rw[D9]at h' ⊢;exact λx hx=>mh n x<|h' x hx
  |str x=>rfl
  |int i=>rfl
  |_=>cases h
theorem fh:∀(n:Nat) (x y:D),cb n x=a9->cb n y=a9->(r9 M n x y=a9↔x=y):=by
 intro n;induction n with
 |zero =>
  intro x y h1 h2;cases x with
  |str a =>
   cases y with
   |str b=>simp[r9]
   |int b=>simp[r9]
   |_=>cases h2
  |int a =>
   cases y with
   |str b=>simp[r9]
   |int b=>simp[r9]
   |_=>cases h2
  |_=>cases h1
 |succ n h =>
  have o:∀xs ys:List D,xs.all (cb n)=a9->ys.all (cb n)=a9->(A6 (r9 M n) xs ys=a9↔xs=ys):=by
   intro xs;induction xs with
   |nil=>intro ys _ _;cases ys<;>simp[A6]
   |cons x xs i =>
    intro ys E c;cases ys with
    |nil=>simp[A6]
    |cons y ys=>rw[Ie,C5]at E c;show (r9 M n x y&&A6 (r9 M n) xs ys)=a9↔_;rw[C5,h x y E.1 c.1,i ys E.2 c.2,KU]
  intro x y h1 h2;cases x with
  |str a =>
   cases y with
   |str b=>simp[r9]
   |int b=>simp[r9]
   |tup ys=>simp[r9]
   |_=>cases h2
  |int a =>
   cases y with
   |str b=>simp[r9]
   |int b=>simp[r9]
   |tup ys=>simp[r9]
   |_=>cases h2
  |tup xs =>
   cases y with
   |str b=>simp[r9]
   |int b=>simp[r9]
   |tup ys=>rw[D.tup.injEq];exact o _ _ h1 h2
   |_=>cases h2
  |_=>cases h1
theorem Gy(sm:t5 X.K ρ M H):∀(n:Nat) (A:e9) (s:f6) (d:D) (v:V) (u:c6) (E:c6->f6->Prop) (Q:Int->f6->Prop),A.units+n<j5->p0 X pins σ H s->p9 X.K ρ H d v->aG v u->cb n d=a9 ->(∀tk,Q (x3 X.w n d) { s with toks:=tk })->f9 (g7 X.prog X.w) A (pyHash u) Q E s:=by
 intro n;induction n with
 |zero =>
  intro A s d v u E Q P I r f m h;cases r with
  |str x=>obtain⟨t,rfl⟩:=f;exact Ls<|h _
  |int x=>obtain⟨t,rfl⟩:=f;exact Lu<|h _
  |_=>cases m
 |succ n R =>
  intro A s d v u E Q P I r f m h;cases r with
  |str x=>obtain⟨t,rfl⟩:=f;exact Ls<|h _
  |int x=>obtain⟨t,rfl⟩:=f;exact Lu<|h _
  |@tup a vs ds O Y =>
   cases f;obtain⟨its,W,p,_⟩:=I.tuple O;obtain⟨o,B,L,nn,N⟩:=id p;have T:s.TypeIs (.ref a) "tuple":=⟨o,B,L⟩
   have y:ds.all (cb n)=a9:=m;unfold pyHash
   first|unfold pyHashByItsType|skip
   first|refine o8 (wpAny_cRoomFor_or (.inr<|by lia) ?_)|skip
   refine o8<|Jx T F.slot_tuple_hash.lookup ?_;refine(show f9 (g7 X.prog X.w) _ (if (a7 (Value.builtin "tuple.__hash__")==a7 ABJ)=a9 then _ else _) Q E s from ?_);rw[n5<|by rw[beq_builtin_none];exact Iz];refine o8<|Jx T F.slot_tuple_hash.lookup ?_;refine(show f9 (g7 X.prog X.w) _ (callSpecialIfBoundUnlessNone? (.ref a) "__hash__" _ >>= _) Q E s from o8<|NE T F.slot_tuple_hash<|E8 F.slot_tuple_hash T F.entry_tuple_hash ?_<|F.args_tuple_hash_1 _);refine(show f9 (g7 X.prog X.w) _ (ME (.ref a) >>= _) _ _ s from o8<|wpAny_tupleItemsOf B N<|o8 ?_);rw[<-JY];refine IP _ (λaE (b:Array Int) s'=>∃done left q,ds=done++left/\Reps X.K ρ H left q/\ao q aE/\b.toList=done.map (x3 X.w n)/\∃tk,s'={ s with toks:=tk }) _ ?_ ?_ _ _ ⟨[],ds,vs,rfl,Y,by simpa using W,rfl,s.toks,rfl⟩;rintro x aE b s' ⟨done,left,q,e,h1,h2,k,tk,rfl⟩;cases h2 with
   |@cons Z _ i _ S G =>
    cases h1 with
    |@cons j _ c _ U J =>
     refine o8<|R _ _ j Z x _ _ (by show A.units+1+n<j5;lia) (I.tok tk) U S ?_ λg=>?_;have:=D9.mp y j (by rw[e];simp);exact this
     first
      |exact p4 ⟨done++[j],c,i,by rw[e];simp,J,G,by simp[k],g,rfl⟩
      |exact o8 (p4 (p4 ⟨done++[j],c,i,by rw[e];simp,J,G,by simp[k],g,rfl⟩))
   rintro b s' ⟨done,left,q,e,h1,h2,k,tk,rfl⟩;cases h2;cases h1;rw[Ir]at e;subst e;refine(show f9 (g7 X.prog X.w) _ (retInt<|KB b.toList) _ _ _ from ?_);rw[k];refine wpAny_ret_mkInt ?_;have l:x3 X.w (n+1) (.tup ds)=l6 (KB<|ds.map<|x3 X.w n):=rfl;generalize KB (ds.map<|x3 X.w n)=z at l;refine(show f9 (g7 X.prog X.w) _ (if (decide (-(2:Int) ^ 63<=z)&&decide (z<2 ^ 63))=a9 then _ else _) Q E _ from ?_);unfold l6 at l;by_cases C:(decide (-(2:Int) ^ 63<=z)&&decide (z<2 ^ 63))=a9;rw[m9 C]at l ⊢;exact p4 (by rw[<-l];exact h _);rw[n5 C]at l ⊢;exact o8<|G7<|p4<|by rw[<-l];exact h _
  |_=>cases m
theorem hbv_D(S:t5 X.K ρ M H):∀(n k:Nat) (A:e9) (s:f6) (d:D) (v:V) (u:c6) (E:c6->f6->Prop) (Q:Bool->f6->Prop),n<=k->p0 X pins σ H s->p9 X.K ρ H d v->aG v u->cb n d=a9->(∀b,Q b s)->f9 (g7 X.prog X.w) A (hashByValue k u) Q E s:=by
 intro n;induction n with
 |zero =>
  intro k A s d v u E Q z I r c e h;cases r with
  |str x=>obtain⟨t,rfl⟩:=c;cases k<;>exact p4<|h _
  |int x=>obtain⟨t,rfl⟩:=c;cases k<;>exact p4<|h _
  |_=>cases e
 |succ n G =>
  intro k A s d v u E Q z I r c e h;cases r with
  |str x=>obtain⟨t,rfl⟩:=c;cases k<;>exact p4<|h _
  |int x=>obtain⟨t,rfl⟩:=c;cases k<;>exact p4<|h _
  |@tup a vs ds B O =>
   cases c;obtain⟨k,rfl⟩:∃J,k=J+1:=⟨k-1,by lia⟩
   obtain⟨its,m,p,_⟩:=I.tuple B;obtain⟨o,j,l,R,q⟩:=id p;have T:s.TypeIs (.ref a) "tuple":=⟨o,j,l⟩
   have y:ds.all (cb n)=a9:=e;unfold hashByValue;refine o8<|Jx T F.slot_tuple_hash.lookup ?_;dsimp only;refine o8<|Ig j q ?_;simp only[Option.getD_some];rw[<-JY];refine o8 ?_;refine IP _ (λaE r s'=>s'=s/\r.1=a8/\∃left f,(∀x∈left,cb n x=a9)/\Reps X.K ρ H left f/\ao f aE) _ ?_ ?_ _ _ ⟨rfl,rfl,ds,vs,D9.mp y,O,by simpa using m⟩;rintro x aE r s' ⟨rfl,i,left,f,g,h1,h2⟩;cases h2 with
   |cons L N =>
    cases h1 with
    |cons U P =>
     refine o8<|G k _ _ _ _ x _ _ (by lia) I U L (g _ z0) λb=>?_;cases b with
     |false=>exact p4<|p4<|h _
     |true=>exact p4 ⟨rfl,rfl,_,_,λx C=>g x<|w6 _ C,P,N⟩
   rintro⟨r1,m⟩ s' ⟨rfl,i,_⟩;simp only at i;subst i;exact p4<|h _
  |_=>cases e
theorem vL(P:t5 X.K ρ M H):∀(n k:Nat) (A:e9) (s:f6) (d:D) (v:V) (u:c6) (E:c6->f6->Prop) (Q:Bool->f6->Prop),n<=k->p0 X pins σ H s->p9 X.K ρ H d v->aG v u->cb n d=a9->Q a9 s->f9 (g7 X.prog X.w) A (m7 k u) Q E s:=by
 intro n;induction n with
 |zero =>
  intro k A s d v u E Q q I r b e h;cases r with
  |str x=>obtain⟨t,rfl⟩:=b;rw[JW k (v:=.str x t) rfl];exact p4 h
  |int x=>obtain⟨t,rfl⟩:=b;rw[JW k (v:=.int x t) rfl];exact p4 h
  |_=>cases e
 |succ n C =>
  intro k A s d v u E Q q I r b e h;cases r with
  |str x=>obtain⟨t,rfl⟩:=b;rw[JW k (v:=.str x t) rfl];exact p4 h
  |int x=>obtain⟨t,rfl⟩:=b;rw[JW k (v:=.int x t) rfl];exact p4 h
  |@tup a vs ds z N =>
   cases b;obtain⟨k,rfl⟩:∃G,k=G+1:=⟨k-1,by lia⟩
   obtain⟨its,m,p,_⟩:=I.tuple z;obtain⟨o,f,j,R,l⟩:=id p;have T:s.TypeIs (.ref a) "tuple":=⟨o,f,j⟩
   have y:ds.all (cb n)=a9:=e;unfold m7;refine o8<|Jx T F.slot_tuple_eq.lookup ?_;refine(show f9 (g7 X.prog X.w) A (isInstance (.ref a) (.type "tuple") >>= _) _ _ s from o8<|JT T isSubtype_tuple_tuple ?_);simp only[II,z6,o4];refine o8<|Ig f l ?_;simp only[Option.getD_some];refine o8 ?_;rw[<-JY];refine IP _ (λaE r s'=>s'=s/\r.1=a8/\∃left c,(∀x∈left,cb n x=a9)/\Reps X.K ρ H left c/\ao c aE) _ ?_ ?_ _ _ ⟨rfl,rfl,ds,vs,D9.mp y,N,by simpa using m⟩;rintro x aE r s' ⟨rfl,i,left,c,g,h1,h2⟩;cases h2 with
   |cons J L =>
    cases h1 with
    |cons U O=>refine o8<|C k _ _ _ _ x _ _ (by lia) I U J (g _ z0) ?_;simp only[II,z6,o4];exact p4 ⟨rfl,rfl,_,_,λx B=>g x<|w6 _ B,O,L⟩
   rintro⟨r1,m⟩ s' ⟨rfl,i,_⟩;simp only at i;subst i;exact p4 h
  |_=>cases e
theorem Hk(O:t5 X.K ρ M H):∀(n k:Nat) (A:e9) (s:f6) (d:D) (v:V) (u:c6) (E:c6->f6->Prop) (Q:Bool->f6->Prop),n<=k->p0 X pins σ H s->p9 X.K ρ H d v->aG v u->cb n d=a9->Q c5 s->f9 (g7 X.prog X.w) A (ofAClassStatement k u) Q E s:=by
 intro n;induction n with
 |zero =>
  intro k A s d v u E Q q I r b e h;cases r with
  |str x=>obtain⟨t,rfl⟩:=b;cases k<;>exact p4 h
  |int x=>obtain⟨t,rfl⟩:=b;cases k<;>exact p4 h
  |_=>cases e
 |succ n C =>
  intro k A s d v u E Q q I r b e h;cases r with
  |str x=>obtain⟨t,rfl⟩:=b;cases k<;>exact p4 h
  |int x=>obtain⟨t,rfl⟩:=b;cases k<;>exact p4 h
  |@tup a vs ds z L =>
   cases b;obtain⟨k,rfl⟩:∃F,k=F+1:=⟨k-1,by lia⟩
   obtain⟨its,m,p,_⟩:=I.tuple z;obtain⟨o,f,j,R,l⟩:=id p;have T:s.TypeIs (.ref a) "tuple":=⟨o,f,j⟩
   have y:ds.all (cb n)=a9:=e;unfold ofAClassStatement;refine o8<|Jt T ?_;dsimp only;simp only[o7,o5];refine o8<|p4 ?_;simp only[II,z6,o4];refine o8<|Ig f l ?_;dsimp only;refine o8 ?_;rw[<-JY];refine IP _ (λaE r s'=>s'=s/\r.1=a8/\∃left c,(∀x∈left,cb n x=a9)/\Reps X.K ρ H left c/\ao c aE) _ ?_ ?_ _ _ ⟨rfl,rfl,ds,vs,D9.mp y,L,by simpa using m⟩;rintro x aE r s' ⟨rfl,i,left,c,g,h1,h2⟩;cases h2 with
   |cons G J =>
    cases h1 with
    |cons U N=>refine o8<|C k _ _ _ _ x _ _ (by lia) I U G (g _ z0) ?_;simp only[z6,o4];exact p4 ⟨rfl,rfl,_,_,λx B=>g x<|w6 _ B,N,J⟩
   rintro⟨r1,m⟩ s' ⟨rfl,i,_⟩;simp only at i;subst i;exact p4 h
  |_=>cases e
noncomputable def kT:D->Bool
 |.tup _=>a9
 |_=>c5
def C6(X:Cx)(ρ:List d5)(H:Hp)(n:Nat)(d:D)(e:Int×c6):Prop:=(∃v,p9 X.K ρ H d v/\aG v e.2)/\e.1=x3 X.w n d/\cb n d=a9/\kT d=a9
structure KSet(X:Cx)(ρ:List d5)(H:Hp)(h:d7)(a:d5)(n:Nat)(ds:List D)(o:d6)(es:Array (Int×c6))(ep:Nat)(t:m6):Prop where
 ob:h.get? a=a7 o
 ex:o.ExactSet
 dt:o.data=.set es ep t
 en:Paired (C6 X ρ H n) ds es.toList
 nd:ds.Nodup
 tk:Ht.TOk t (es.toList.map (·.1))
 ld:t.led = !X.w.params.followText "set-order"
theorem cM{α β:Type}{R:α->β->Prop}:∀{xs:List α}{ys:List β}{i:Nat}{y:β},Paired R xs ys->ys[i]?=a7 y->∃x,xs[i]?=a7 x/\R x y
 |_,_,i,y,.nil,e=>by simp at e
 |_,_,0,y,.cons r _,e=>by simp at e;subst e;exact⟨_,rfl,r⟩
 |_,_,i+1,y,.cons _ t,e=>by obtain⟨x,h1,h2⟩:=cM (i:=i) t (by simpa using e);exact⟨x,by simpa using h1,h2⟩
theorem fR{α β:Type}{R:α->β->Prop}:∀{xs:List α}{ys:List β}{i:Nat}{x:α},Paired R xs ys->xs[i]?=a7 x->∃y,ys[i]?=a7 y/\R x y
 |_,_,i,y,.nil,e=>by simp at e
 |_,_,0,y,.cons r _,e=>by simp at e;subst e;exact⟨_,rfl,r⟩
 |_,_,i+1,y,.cons _ t,e=>by obtain⟨x,h1,h2⟩:=fR (i:=i) t (by simpa using e);exact⟨x,by simpa using h1,h2⟩
theorem KSet.fits(S:KSet X ρ H h a n ds o es ep t):t.fits es.size=a9:=by
 have h1:=S.tk.len;have h2:=S.tk.few;rw[t7,C3]at h1;unfold KP;have b:t.fill=t.place.size:=by unfold LZ;rw[S.tk.nod];rfl
 rw[b];simp only[C5,o0,n9];lia
theorem yn(m:t5 X.K ρ M H)(I:p0 X pins σ H s)(f:n<=8)(r:p9 X.K ρ H d v)(g:aG v u)(e:cb n d=a9)(h:Q c5 s):∀(l:List c6),(∀y∈l,∃d' v',p9 X.K ρ H d' v'/\aG v' y/\cb n d'=a9)->f9 (g7 X.prog X.w) A (searchCouldBeSeen u l) Q E s:=by intro l j;unfold searchCouldBeSeen;refine o8 ?_;refine IP _ (λaE r s'=>s'=s/\r.1=a8/\∀y∈aE,∃d' v',p9 X.K ρ H d' v'/\aG v' y/\cb n d'=a9) _ ?_ ?_ _ _ ⟨rfl,rfl,j⟩;rintro y aE r' s' ⟨rfl,i,c⟩;have t:∀z∈aE,∃d' v',p9 X.K ρ H d' v'/\aG v' z/\cb n d'=a9:=λz o=>c z<|w6 _ o;obtain⟨d',v',a,b,k⟩:=c y z0;dsimp only;refine Jk (λ_=>p4 ⟨rfl,rfl,t⟩) λ_=>?_;refine o8<|vL m n 8 A _ d v u _ _ f I r g e ?_;simp only[II,z6,o4];refine o8<|vL m n 8 A _ d' v' y _ _ f I a b k ?_;simp only[II,z6,o4];refine o8<|Hk m n 8 A _ d v u _ _ f I r g e ?_;simp only[z6,o4];refine o8<|Hk m n 8 A _ d' v' y _ _ f I a b k ?_;simp only[z6,o4];exact p4 ⟨rfl,rfl,t⟩;rintro⟨a,b⟩ s' ⟨rfl,i,_⟩;simp only at i;subst i;exact p4 h
theorem yG(sm:t5 X.K ρ M H)(I:p0 X pins σ H s)(hn:n<=8)(hu:A.units+n<j5)(S:KSet X ρ H s.heap a n ds o es ep t)(r:p9 X.K ρ H d v)(rv:aG v u)(F:cb n d=a9)(c:d∈ds->Q (.there a8) s) (aT:N<10*(t.mask+15)) (G:(Ht.sq t.mask (x3 X.w n d) N).j∉t.place.toList) (ai:∀k,k<N->(Ht.sq t.mask (x3 X.w n d) k).j∈t.place.toList)(J:d∉ds->Q (.free (Ht.sq t.mask (x3 X.w n d) N).j c5) s):∀(fuel m:Nat) (stand:Option JP),m<=N->N<m+fuel->stand.getD (t.probeStart<|x3 X.w n d)=Ht.sq t.mask (x3 X.w n d) m->(∀k i:Nat,k<m->t.place[i]?=a7 (Ht.sq t.mask (x3 X.w n d) k).j->ds[i]?≠a7 d) ->f9 (g7 X.prog X.w) A (setSearchFrom a u (x3 X.w n d) a9 fuel stand) Q E s:=by
 intro fuel;induction fuel with
 |zero=>intro m stand h1 h2;lia
 |succ fuel ih =>
  intro m stand h1 h2 hs hb;unfold setSearchFrom;refine o8<|IS S.ob S.dt S.fits ?_;dsimp only;have gw:t.gaveWay=c5:=by unfold SetTable.gaveWay;rcases S.tk.msk with e|e|e<;>rw[e]<;>rfl
  rw[gw];simp only[z6,o4];rw[hs];rcases Ht.go_spec S.tk.ris S.tk.nod (λi=>(es[i]?.map (·.1)).getD 0) (x3 X.w n d) (10*KR t.mask) m N h1 (by unfold KR;lia) G (λk _ hk=>ai k hk) (Ht.sq_dummy _ _)with⟨z1,z2⟩|⟨m',i,a1,a2,a3,a4,a5,a6⟩
  generalize L:SetTable.probe t _ (x3 X.w n d) (Ht.sq t.mask (x3 X.w n d) m)=pr;obtain rfl:pr=_:=L.symm.trans z2;dsimp only;refine p4<|J λhd=>?_;obtain⟨i,hi⟩:=JC hd;obtain⟨e,D,_,U,_⟩:=fR S.en hi;have g:es[i]?=a7 e:=by rw[<-E4];exact D
  have hh:(es.toList.map (·.1))[i]?=a7 (x3 X.w n d):=by rw[C2,D];exact o6 a7 U
  have hl:i<t.place.size:=by rw[S.tk.len];exact(w9.mp hh).1
  obtain⟨P,b1,b2⟩:=S.tk.path i _ t.place[i] hh<|E5 hl;have an:P<N:=by rcases Lw P N with q|q|q;exact q;subst q;exact n6 (show (Ht.sq t.mask (x3 X.w n d) P).j∈t.place.toList by rw[b1];simp) G;exact n6 (b2 N q) G
  have p:t.place[i]?=a7 (Ht.sq t.mask (x3 X.w n d) P).j:=by rw[b1];exact E5 hl
  rcases Ic P m with q|q;exact hb P i q p hi;refine z1 P i q an p ?_;rw[g];exact U;generalize L:SetTable.probe t _ (x3 X.w n d) (Ht.sq t.mask (x3 X.w n d) m)=pr;obtain rfl:pr=_:=L.symm.trans a6;dsimp only;have al:i<es.size:=by have:=(Jf.mp a3).1;rw[S.tk.len,t7,C3]at this;exact this
  have l:es[i]?=a7 es[i]:=E5 al;obtain⟨x,hd0,⟨v0,r0,Y⟩,aS,O,as⟩:=cM S.en (i:=i) (y:=es[i]) (by rw[E4];exact l);have Z:∀(f:Bool->Sem SetFound),f9 (g7 X.prog X.w) A (f c5) Q E s->f9 (g7 X.prog X.w) A (searchCouldBeSeen u ((es.filter (·.1==x3 X.w n d)).toList.map (·.2)) >>= f) Q E s:=λf hf=>by
   refine o8<|yn sm I hn r rv F hf _ λy hy=>?_;obtain⟨e,D,rfl⟩:=y4.mp hy;have aj:e∈es.toList:=by
    have:e∈es.filter (·.1==x3 X.w n d):=by simpa using D
    simpa using(Array.mem_filter.mp this).1
   obtain⟨j,hj⟩:=JC aj;obtain⟨d1,_,⟨v1,r1,aP⟩,_,aD,_⟩:=cM S.en hj;exact⟨d1,v1,r1,aP,aD⟩
  have B:∃b,es[i].2=ABG b:=by
   cases r0 with
   |tup _ _=>exact⟨_,Y⟩
   |_=>cases as
  obtain⟨b,B⟩:=B;have V:Io A s es[i].2 u (r9 M n x d):=(ic I sm n A x d v0 v es[i].2 u hu r0 Y r rv (mh n x O)<|mh n d F).1;refine Jk (λ_=>Z _ ?_) λ_=>?_;simp only[z6,o4];rw[l];dsimp only;refine o8<|C9<|V _ _ _ _<|o8<|IS S.ob S.dt S.fits ?_;dsimp only;by_cases C:r9 M n x d=a9;rw[C];simp only[Bool.and_self,o5];have:x=d:=(fh n x d O F).mp C;subst this;exact p4<|c<|Hu hd0;rw[JA.mpr C];simp only[L4,z6,o4];have T:t.sameMemory t.moves t.mask=a7 a9:=by unfold SetTable.sameMemory;simp
  rw[T];dsimp only;simp only[o5];rw[Ht.slot_live S.tk.ris a3];dsimp only;rw[l];have R:f9 (g7 X.prog X.w) A (isSame es[i].2 es[i].2) (λb s'=>b=a9/\s'=s) E s:=by unfold isSame;rw[B];simp only[o7,o5];exact p4<|And.intro rfl rfl
  refine o8<|D4 R (λb s' ⟨e1,e2⟩=>?_) λ_ _ z=>z;subst e1 e2;refine o8<|p4 ?_;simp only[o5];refine ih (m'+1) _ (by lia) (by lia) rfl λk i' hk p h=>?_;rcases Ic k m with q|q;exact hb k i' q p h;rcases Ic k m' with W|W;refine a5 k i' q W p ?_;obtain⟨e,D,_,U,_⟩:=fR S.en h;have g:es[i']?=a7 e:=by rw[<-E4];exact D
  rw[g];exact U;have:k=m':=by lia
  subst this;have:i'=i:=by rw[<-Ht.below_at S.tk.ris p,Ht.below_at S.tk.ris a3]
  subst this;rw[hd0]at h;cases h;exact C<|(fh n d d F F).mpr rfl;rw[l];dsimp only;refine o8<|C9<|V _ _ _ _<|o8<|IS S.ob S.dt S.fits ?_;dsimp only;by_cases C:r9 M n x d=a9;rw[C];simp only[Bool.and_self,o5];have:x=d:=(fh n x d O F).mp C;subst this;exact p4<|c<|Hu hd0;rw[JA.mpr C];simp only[L4,z6,o4];have T:t.sameMemory t.moves t.mask=a7 a9:=by unfold SetTable.sameMemory;simp
  rw[T];dsimp only;simp only[o5];rw[Ht.slot_live S.tk.ris a3];dsimp only;rw[l];have R:f9 (g7 X.prog X.w) A (isSame es[i].2 es[i].2) (λb s'=>b=a9/\s'=s) E s:=by unfold isSame;rw[B];simp only[o7,o5];exact p4<|And.intro rfl rfl
  refine o8<|D4 R (λb s' ⟨e1,e2⟩=>?_) λ_ _ z=>z;subst e1 e2;refine o8<|p4 ?_;simp only[o5];refine ih (m'+1) _ (by lia) (by lia) rfl λk i' hk p h=>?_;rcases Ic k m with q|q;exact hb k i' q p h;rcases Ic k m' with W|W;refine a5 k i' q W p ?_;obtain⟨e,D,_,U,_⟩:=fR S.en h;have g:es[i']?=a7 e:=by rw[<-E4];exact D
  rw[g];exact U;have:k=m':=by lia
  subst this;have:i'=i:=by rw[<-Ht.below_at S.tk.ris p,Ht.below_at S.tk.ris a3]
  subst this;rw[hd0]at h;cases h;exact C<|(fh n d d F F).mpr rfl
theorem Paired.ins{α β:Type}{R:α->β->Prop}{x:α}{y:β}(r:R x y):∀{xs:List α}{ys:List β} (p:Nat),Paired R xs ys->Paired R (xs.take p++x::xs.drop p) (ys.take p++y::ys.drop p)
 |_,_,0,h=>by simpa using .cons r h
 |_,_,p+1,.nil=>.cons r .nil
 |_,_,p+1,.cons h t=>.cons h<|Paired.ins r p t
theorem Paired.pick{α β:Type}{R:α->β->Prop}:∀{xs:List α}{ys:List β} (is:List Nat),Paired R xs ys->(∀i∈is,i<xs.length)->Paired R (is.filterMap (xs[·]?)) (is.filterMap (ys[·]?))
 |_,_,[],_,_=>.nil
 |xs,ys,i::is,h,hi=>by have hl:=hi i z0;have e:xs[i]?=a7 xs[i]:=u9 hl;obtain⟨y,hy,r⟩:=fR h e;rw[Ky,Ky,e,hy];exact .cons r<|Paired.pick is h λj hj=>hi j<|w6 _ hj
theorem kN{α:Type}{l:List α}{is:List Nat}(h:is.Perm (A7 l.length)):(is.filterMap (l[·]?)).Perm l:=by
 have:=h.filterMap (l[·]?)
 rwa [List.filterMap_getElem?_range_length]at this
section
variable{X:Cx}{pins:List (d5×d6)}{σ:St}{H:Hp}{ρ:List d5}{M:p8}{A:e9}{E:c6->f6->Prop}{s:f6}{a:d5}{n:Nat}{ds:List D}{o:d6}{es:Array (Int×c6)}{ep:Nat}{t:m6}
def KS(X:Cx)(ρ:List d5)(H:Hp)(h:d7)(a:d5)(n:Nat)(ds:List D):Prop:=∃o es i t,KSet X ρ H h a n ds o es i t
set_option maxHeartbeats 1000000 in
theorem add_D(sm:t5 X.K ρ M H)(I:p0 X pins σ H s)(hn:n<=8)(hu:A.units+n+1<j5)(S:KS X ρ H s.heap a n ds)(bk:ds.length+1<=64)(r:p9 X.K ρ H d v)(rv:aG v u)(kd:cb n d=a9)(it:kT d=a9)(h:∀b h' tk ds',(∀c u,c≠a->s.heap.get? c=a7 u->h'.get? c=a7 u)->KS X ρ H h' a n ds'->(∀x,x∈ds'↔x∈ds\/x=d)->ds'.length<=ds.length+1->Q b { s with heap:=h',toks:=tk }):f9 (g7 X.prog X.w) A (setAdd a u) Q E s:=by
 obtain⟨o,es,ep,t,S⟩:=S;obtain⟨R,rfl⟩:∃R,u=ABG R:=by
  cases r with
  |tup _ _=>exact⟨_,rv⟩
  |_=>cases it
 unfold setAdd;refine C9<|o8<|Gy sm n A s d v _ _ _ (by lia) I r rv kd λtk=>?_;unfold setAddHashed setAddHashedIn;refine C9<|o8<|IS (s:={ s with toks:=tk }) S.ob S.dt S.fits ?_;dsimp only;have bs:byScan (.ref R) es=c5:=rfl;rw[bs];simp only[z6,o4];obtain⟨N,ai,aj,al⟩:=S.tk.empty<|x3 X.w n d;have I1:p0 X pins σ H { s with toks:=tk }:=I.tok tk;unfold setSearch;refine o8<|yG (s:={ s with toks:=tk }) sm I1 hn (by lia) S r rv kd (λhd=>?_) ai aj al (λhd=>?_) 100000 0 a8 (v9 _) ?_ rfl λk i hk=>n6 hk<|Jl _;exact p4<|h _ s.heap tk ds (λ_ _ _ e=>e) ⟨o,es,ep,t,S⟩ (λx=>⟨.inl,λz=>z.elim id λe=>e ▸ hd⟩)<|KM _;dsimp only;refine o8<|IS (s:={ s with toks:=tk }) S.ob S.dt S.fits ?_;dsimp only;have J:=S.tk.len;rw[t7,C3]at J;have dl:ds.length=es.size:=by have:=Paired.length S.en;simpa using this
 have F:∀O:Bool,f9 (g7 X.prog X.w) A (do
   storeSet a (Me es (t.put (Ht.sq t.mask (x3 X.w n d) N).j).2 (x3 X.w n d,ABG R)) { (t.put (Ht.sq t.mask (x3 X.w n d) N).j).1 with plain:=O }
   if (!c5&&({ (t.put (Ht.sq t.mask (x3 X.w n d) N).j).1 with plain:=O }:m6).tooFull)=a9 then do
     setRelay a (Kl<|es.size+1)
     pure a9
    else pure a9) Q E { s with toks:=tk }:=λO=>by
  obtain⟨pb,T⟩:=Ht.put_pre S.tk aj al O;have G:({ (t.put (Ht.sq t.mask (x3 X.w n d) N).j).1 with plain:=O }:m6).led=t.led:=rfl;have L:({ (t.put (Ht.sq t.mask (x3 X.w n d) N).j).1 with plain:=O }:m6).mask=t.mask:=rfl;generalize ({ (t.put (Ht.sq t.mask (x3 X.w n d) N).j).1 with plain:=O }:m6)=D at T G L;generalize (t.put (Ht.sq t.mask (x3 X.w n d) N).j).2=p at pb T;rw[t7,C3]at pb;have e1:(Me es p (x3 X.w n d,ABG R)).toList=es.toList.take p++(x3 X.w n d,ABG R)::es.toList.drop p:=SetTable.toList_insertAt ..;generalize Me es p (x3 X.w n d,ABG R)=f at e1;have aP:f.toList.map (·.1)=(es.toList.map (·.1)).take p++x3 X.w n d::(es.toList.map (·.1)).drop p:=by rw[e1,C4,A5,List.map_take,List.map_drop]
  rw[<-aP]at T;have C:f.size=es.size+1:=by have:=o6 Hy e1;rw[C3,v4,A0,HU,Jy,C3]at this;lia
  have Y:Paired (C6 X ρ H n) (ds.take p++d::ds.drop p) f.toList:=by rw[e1];exact Paired.ins ⟨⟨v,r,rv⟩,rfl,kd,it⟩ p S.en
  have U:(ds.take p++d::ds.drop p).Perm (d::ds):=by refine List.perm_middle.trans<|L1 d ?_;rw[Nb]
  have an:(ds.take p++d::ds.drop p).Nodup:=U.nodup_iff.mpr<|HR.mpr ⟨hd,S.nd⟩;have Z:D.fits f.size=a9:=by
   have l1:=T.len;rw[t7,C3]at l1;have h3:D.fill=D.place.size:=by unfold LZ;rw[T.nod];rfl
   have fw:=S.tk.few;unfold KP;rw[h3];simp only[C5,o0,n9];rw[J]at fw;rcases S.tk.msk with e|e|e<;>rw[L,e]<;>rw[e]at fw<;>lia
  have zz:f.size<=sizeLine:=by rw[Ip];lia
  refine o8<|wpAny_storeSet_of (s:={ s with toks:=tk }) S.ob S.dt ?_ zz;have B:(s.heap.update a<|KL f D).get? a=a7 { o with data:=.set f (ep+1) D }:=by
   have q:=HY (KL f D) S.ob<|by rw[putSet_of f D S.dt];rfl
   rwa [putSet_of f D S.dt]at q
  have as:∀c u,c≠a->s.heap.get? c=a7 u->(s.heap.update a<|KL f D).get? c=a7 u:=λc u hc e=>(K4 _ _<|v5 hc).trans e;by_cases tf:D.tooFull=a9;rw[tf];simp only[Bool.not_false,Bool.and_self,o5];have aD:((f.toList.map (·.1)).length-1)*5<D.mask*3:=by have fw:=S.tk.few;rw[J]at fw;rw[t7,C3,C,L];simpa using fw
  obtain⟨zl,W,m,g1,g2,T2,aS⟩:=T.anew tf aD (by rw[t7,C3];lia);rw[t7,C3]at g2 zl;have eg:Kl (es.size+1)=Kl (f.toList.map (·.1)).length:=by rw[t7,C3,C]
  unfold setRelay;refine o8<|o8<|IS (s:={ s with heap:=_,toks:=tk }) B rfl Z ?_;dsimp only;rw[eg];have nz:¬MZ (Kl (f.toList.map (·.1)).length) > sizeLine:=by rw[t7,C3];lia
  simp only[nz,o4];have ea:f.map (·.1)=(f.toList.map (·.1)).toArray:=by apply Array.ext';simp
  rw[ea,g1];have y:(m.filterMap (f[·]?)).toList=m.toList.filterMap (f.toList[·]?):=by rw[Array.toList_filterMap];congr 1;funext i;rw[E4]
  have V:(m.filterMap (f[·]?)).size=f.size:=by have:=(kN (l:=f.toList) (is:=m.toList)<|by rw[C3];exact g2).length_eq;rw[<-y,C3,C3]at this;exact this
  refine o8 (show f9 (g7 X.prog X.w) A (if ((m.filterMap (f[·]?)).size != f.size)=a9 then _ else pure (m.filterMap (f[·]?),W)) _ _ _ from ?_);rw[n5<|by rw[V];simp];refine p4 ?_;generalize m.filterMap (f[·]?)=g at y V;have P:(m.toList.filterMap ((ds.take p++d::ds.drop p)[·]?)).Perm (ds.take p++d::ds.drop p):=kN (by
   have:(ds.take p++d::ds.drop p).length=f.size:=by rw[U.length_eq,A0,dl,C]
   rw[this];exact g2)
  refine wpAny_storeSet_of (s:={ s with heap:=_,toks:=tk }) B rfl ?_ (by rw[V];exact zz);have aT:((s.heap.update a<|KL f D).update a<|KL g W).get? a=a7 { o with data:=.set g (ep+1+1) W }:=by
   have q:=HY (KL g W) B<|by rw[putSet_of g W (es:=f) (ep:=ep+1) (t:=D) rfl];rfl
   rwa [putSet_of g W (es:=f) (ep:=ep+1) (t:=D) rfl]at q
  refine p4 (h _ _ tk (m.toList.filterMap ((ds.take p++d::ds.drop p)[·]?)) (λc u hc e=>(K4 _ _<|v5 hc).trans<|as c u hc e) ⟨_,g,_,W,aT,S.ex,rfl,?_,P.nodup_iff.mpr an,?_,aS.trans<|G.trans S.ld⟩ (λx=>?_) ?_);rw[y];refine Paired.pick _ Y λi hi=>?_;have:=g2.mem_iff.mp hi;rw[G8]at this;rw[U.length_eq,A0,dl,<-C];exact this;have e2:g.toList.map (·.1)=m.toList.map λi=>(f.toList.map (·.1)).getD i 0:=by
   rw[y];have:∀(is:List Nat),(∀i∈is,i<f.toList.length)->(is.filterMap (f.toList[·]?)).map (·.1)=is.map λi=>(f.toList.map (·.1)).getD i 0:=by
    intro is;induction is with
    |nil=>intro _;rfl
    |cons i is ih=>intro hi;have hl:=hi i z0;rw[Ky,u9 hl,A5,A5,ih λj hj=>hi j<|w6 _ hj];congr 1;rw[HM,C2,u9 hl];rfl
   refine this _ λi hi=>?_;have:=g2.mem_iff.mp hi;rw[G8]at this;rw[C3];exact this
  rw[e2];exact T2;rw[P.mem_iff,U.mem_iff,u8];exact⟨λz=>z.symm,λz=>z.symm⟩;rw[P.length_eq,U.length_eq];exact t6 _;rw[JA.mpr tf];simp only[L4,z6,o4];refine p4<|h _ _ tk _ as ⟨_,f,_,D,B,S.ex,rfl,Y,an,T.ok<|JA.mpr tf,G.trans S.ld⟩ (λx=>?_) ?_;rw[U.mem_iff,u8];exact⟨λz=>z.symm,λz=>z.symm⟩;rw[U.length_eq];exact t6 _
 refine Jk (λ_=>o8<|hbv_D sm n 8 A _ d v _ _ _ hn I1 r rv kd λb=>?_) λ_=>?_;cases b with
 |true=>exact F (t.put (Ht.sq t.mask (x3 X.w n d) N).j).1.plain
 |false=>exact F c5
 exact F (t.put (Ht.sq t.mask (x3 X.w n d) N).j).1.plain;have:=ai;rcases S.tk.msk with e|e|e<;>rw[e]at this<;>lia
end
theorem KS.at(x:KS X ρ H h a n ds)(k:∀o,h.get? a=a7 o->h'.get? a=a7 o):KS X ρ H h' a n ds:=by obtain⟨o,es,i,t,S⟩:=x;exact⟨o,es,i,t,k _ S.ob,S.ex,S.dt,S.en,S.nd,S.tk,S.ld⟩
theorem CG(sm:t5 X.K ρ M H)(I:p0 X pins σ H s)(hn:n<=8)(hu:A.units+n+2<j5)(W:Walks X.prog X.w A.in1 J fp wr m P Sx)(S:d5)(f:S∉fp)(G:s.heap.get? S=a8) (B:∀b∈wr,s.heap.get? b=a8) (l:Nat->D) (y:∀i v,P i v->∃vv,p9 X.K ρ H (l i) vv/\aG vv v/\cb n (l i)=a9/\kT (l i)=a9) (hb:m<=63):∀(k i:Nat) (h:d7) (tk:Nat) (ds:List D),m-i=k->i<=m->Sx i h->KS X ρ H h S n ds->(∀x,x∈ds↔∃j,j<i/\l j=x)->ds.length<=i->(∀b u,s.heap.get? b=a7 u->h.get? b=a7 u) ->(∀h' tk ds',(∀b u,s.heap.get? b=a7 u->h'.get? b=a7 u)->KS X ρ H h' S n ds'->(∀x,x∈ds'↔∃j,j<m/\l j=x)->ds'.length<=m->R (.ok<|.ret .none) { s with heap:=h',toks:=tk }) ->j7 (g7 X.prog X.w) A (.builtin "set.update.loop" ⟨[.ref S,.ref J],[]⟩) R { s with heap:=h,toks:=tk }:=by
 have g:S∉wr:=λh=>f<|W.sub _ h;intro k;induction k with
 |zero =>
  intro i h tk ds hk hi t E O U a Z;obtain rfl:i=m:=by lia
  refine IM F.entry_set_update_loop ?_;rw[JD F.plain_set_update_loop _];refine(show f9 (g7 X.prog X.w) A.in1 (i7 (.ref J) >>= _) _ _ _ from o8<|W.done _ _ _ t λh' tk d=>?_);refine p4<|Z h' tk ds (λb u e=>d b u (λz=>by rw[B b z]at e;cases e)<|a b u e) (E.at λo e=>d S o g e) O U
 |succ k ih=>intro i h tk ds hk hi t E O U a Z;refine IM F.entry_set_update_loop ?_;rw[JD F.plain_set_update_loop _];refine(show f9 (g7 X.prog X.w) A.in1 (i7 (.ref J) >>= _) _ _ _ from o8<|W.item i _ _ _ (by lia) t λv h' tk hP p d=>?_);obtain⟨vv,r,rv,kd,it⟩:=y i v hP;have c:∀b u,s.heap.get? b=a7 u->h'.get? b=a7 u:=λb u e=>d b u (λz=>by rw[B b z]at e;cases e)<|a b u e;have Y:p0 X pins σ H { s with heap:=h',toks:=tk }:=I.kept c;refine o8<|C9<|add_D (s:={ s with heap:=h',toks:=tk }) sm Y hn (by show A.units+1+n+1<j5;lia) (E.at λo e=>d S o g e) (by lia) r rv kd it λb h2 T C V L Q ai=>?_;refine p4 ⟨Jw F.plain_set_update_loop _,ih (i+1) h2 T C (by lia) (by lia) (W.frame _ h' h2 p λb' N o e=>V b' o (λz=>f<|z ▸ N) e) L (λx=>?_) (by lia) (λb u e=>V b u (λz=>by rw[z,G]at e;cases e)<|c b u e) Z⟩;rw[Q,O];constructor;rintro(⟨j,hj,e⟩|rfl);exact⟨j,by lia,e⟩;exact⟨i,by lia,rfl⟩;rintro⟨j,hj,rfl⟩;by_cases q:j=i;subst q;exact .inr rfl;exact .inl ⟨j,by lia,rfl⟩
theorem zD(e:h.get? a=a7 (aM X.w)):KS X ρ H h a n []:=⟨_,#[],0,_,e,⟨rfl,rfl,rfl⟩,rfl,.nil,KQ,⟨.inl rfl,rfl,rfl,KZ,λj L=>by simp[SetTable.fresh]at L,(by show 0*5<7*3;decide),λi h j b=>by simp at b⟩,rfl⟩
section
theorem Da(Z:t5 X.K ρ M H)(I:p0 X pins σ H s)(B:m<=8)(hu:A.units+m+3<j5){l:d5}{T:String}{n:Nat}{P:Nat->c6->Prop}{G:f6->Prop}(O:A.handled=a8)(K:TxSrc X.prog X.w s.heap l T n P)(a:Nat->D)(y:∀i v,P i v->∃vv,p9 X.K ρ H (a i) vv/\aG vv v/\cb m (a i)=a9/\kT (a i)=a9)(N:n<=63)(h:∀h' tk ds,(∀b o,s.heap.get? b=a7 o->h'.get? b=a7 o)->KS X ρ H h' s.heap.objs.size m ds->(∀x,x∈ds↔∃j,j<n/\a j=x)->ds.length<=n->G { s with heap:=h',toks:=tk }):f9 (g7 X.prog X.w) A (Builtin.«set.__init__» ⟨[.ref s.heap.objs.size,.ref l],[]⟩) (λfin s'=>fin=.done (.ret .none)/\G s') E { s with heap:=s.heap.push (aM X.w) }:=by
 have S:(s.heap.push<|aM X.w).get? s.heap.objs.size=a7 (aM X.w):=v8 _ rfl;have hT:Lo { s with heap:=s.heap.push (aM X.w) } (.ref s.heap.objs.size) "set":=⟨_,S,rfl⟩
 obtain⟨F,g,r⟩:=K.obj;have c:(s.heap.push<|aM X.w).get? l=a7 F:=u4 _ g;have L:Lo { s with heap:=s.heap.push (aM X.w) } (.ref l) T:=⟨F,c,r⟩
 have Y:l<s.heap.objs.size:=u7 g;have J:(s.heap.push<|aM X.w).objs.size=s.heap.objs.size+1:=HH ..;obtain⟨oI,St,t,W,st⟩:=K.iter A.in1 { s with heap:=s.heap.push (aM X.w) } O λo e=>u4 _ e;have ns:=K.ns;have nf:=K.nf;have nd:=K.nd;unfold Builtin.«set.__init__» noKeywords Builtin.Frozenset.updateFrom;generalize d:i9=PI
 wp_walk
 subst d;refine wpAny_of_in1<|t _ _ ?_;have k:s.heap.objs.size∉[(s.heap.push<|aM X.w).objs.size,l]:=by rw[J];simp only[u8,Iy,or_false,not_or];exact⟨v7<|HJ _,Ln Y⟩
 have f:s.heap.get? s.heap.objs.size=a8:=by
  cases q:s.heap.get? s.heap.objs.size with
  |none=>rfl
  |some o=>exact n6 (u7 q)<|D5 _
 have C:∀b∈[(s.heap.push<|aM X.w).objs.size],s.heap.get? b=a8:=λb p=>by
  rw[HK.mp p,J];cases q:s.heap.get? (s.heap.objs.size+1) with
  |none=>rfl
  |some o=>exact n6 (u7 q)<|Ji.mpr<|KM _
 refine o8<|wpAny_runValue<|CG (s:=s) Z I B (by first|exact(show A.units+m+2<j5 by lia)|exact(show A.units+1+m+2<j5 by lia)) W s.heap.objs.size k f C a y N n 0 _ _ [] rfl (v9 _) st (zD<|u4 _ S) (λx=>by simp) (t6 _) (λb u e=>u4 _<|u4 _ e) λh' tk V Q z U R=>?_;exact p4<|p4 ⟨rfl,h h' tk V Q z U R⟩
set_option maxHeartbeats 1000000 in
theorem DF(J:t5 X.K ρ M H)(I:p0 X pins σ H s)(B:m<=8)(hu:A.units+m+20<j5){l:d5}{T:String}{n:Nat}{P:Nat->c6->Prop}{Q:c6->f6->Prop}(u:A.handled=a8)(K:TxSrc X.prog X.w s.heap l T n P)(a:Nat->D)(y:∀i v,P i v->∃vv,p9 X.K ρ H (a i) vv/\aG vv v/\cb m (a i)=a9/\kT (a i)=a9)(t:n<=63)(h:∀h' tk ds,(∀b o,s.heap.get? b=a7 o->h'.get? b=a7 o)->KS X ρ H h' s.heap.objs.size m ds->(∀x,x∈ds↔∃j,j<n/\a j=x)->ds.length<=n->Q (.ref s.heap.objs.size) { s with heap:=h',toks:=tk }):f9 (g7 X.prog X.w) A (call (.type "set") [.ref l]) Q E s:=by
 have U:=F.called_set.made;have Y:=F.called_set.sub;have V:=F.called_set.notType;have N:=F.called_set.canCreate;have Z:=F.typeCall_set_1<|.ref l;obtain⟨c,tl,W⟩:=F.called_set.mro;refine wpAny_call<|codeAny_of_tree<|show f9 _ _ (callAny (.type "set") _) _ _ _ from p4 ⟨Code.quiet_builtin _ (by decide +kernel),IM F.entry_type_call ?_⟩;rw[Around.under_plain (weight_type_call_type "set" [.ref l] []) rfl]
 repeat (any_goals (first|assumption|wp_step))
 refine Kg (qz (.ref l) (E:=E) (Q₁:=λobj s₁=>obj=.ref s.heap.objs.size/\s₁={ s with heap:=s.heap.push (aM X.w) }) ⟨rfl,rfl⟩) λr s₁ hr=>?_
 match r,hr with
 |.error e,hr=>exact hr
 |.ok (.ret obj),⟨e1,e2⟩ =>
  subst e1 e2;have S:(s.heap.push<|aM X.w).get? s.heap.objs.size=a7 (aM X.w):=v8 _ rfl;have p:Lo { s with heap:=s.heap.push (aM X.w) } (.ref s.heap.objs.size) "set":=⟨_,S,rfl⟩
  have O:=F.called_set.init.lookup;have L:=F.called_set.init.bind<|.ref s.heap.objs.size
  repeat (any_goals (first|assumption|wp_step))
  refine Kg (codeAny_call_builtin (R:=wants (λr d=>r=.none/\Q (.ref s.heap.objs.size) d) E) F.called_set.init.plain F.entry_set_init<|check_set_init_1 p ?_) λf d hr₂=>?_;refine D4 (Da (G:=λC=>Q (.ref s.heap.objs.size) C) J I B (by first|(show A.units+1+1+1+m+3<j5;lia)|(show A.units+1+1+m+3<j5;lia)|(show A.units+1+m+3<j5;lia)) (by simp[u]) K a y t h) (λk s' ⟨e,g⟩=>?_) λ_ _ z=>z;subst e;exact⟨rfl,g⟩
  ·match f,hr₂ with
   |.error e,hr₂=>exact hr₂
   |.ok (.ret r),⟨e,q⟩ =>
    subst e
    repeat (any_goals (first|assumption|wp_step))
end
def SqAt(M:p8)(d:D)(xs:List D):Prop:=(∃n,d=.ref n/\ak M n xs)\/d=.tup xs
theorem SrtOk.sub(h:SrtOk M xs)(s:∀y∈ys,y∈xs)(l:ys.length<64):SrtOk M ys:=by refine⟨l,λx a=>h.ok x<|s x a,λx a y Q=>h.cm x (s x a) y<|s y Q,?_⟩;rcases h.kd with k|k|k|k|k;exact .inl λx a=>k x<|s x a;exact .inr<|.inl λx a=>k x<|s x a;exact .inr<|.inr<|.inl λx a=>k x<|s x a;exact .inr<|.inr<|.inr<|.inl λx a=>k x<|s x a;exact .inr<|.inr<|.inr<|.inr λx a=>k x<|s x a
theorem Ew(I:p0 X pins σ H s)(e:t5 X.K ρ M H)(r:p9 X.K ρ H d v)(b:aG v u)(t:SqAt M d xs):∃(a:d5) (T:String) (its:Array c6) (vs:List V),u=.ref a/\TxSrc X.prog X.w s.heap a T its.size (λi v=>its[i]?=a7 v)/\Reps X.K ρ H xs vs/\ao vs its.toList:=by
 rcases t with⟨n,rfl,h⟩|rfl;cases r with
 |@ref _ a c=>cases b;obtain⟨vs,hs,f⟩:=h.seq e c;obtain⟨its,m,p,_⟩:=I.list hs;exact⟨a,_,its.toArray,vs,rfl,TxSrc.list p.isList,f,by simpa using m⟩
 cases r with
 |@tup a vs _ hs f=>cases b;obtain⟨its,m,p,_⟩:=I.tuple hs;exact⟨a,_,its.toArray,vs,rfl,TxSrc.tuple p,f,by simpa using m⟩
theorem pp{X:Cx}:∀{ds:List D}{vs:List V}{its:List c6}{i:Nat}{u:c6}{ρ:List d5}{H:Hp},Reps X.K ρ H ds vs->ao vs its->its[i]?=a7 u->∃d v,ds[i]?=a7 d/\p9 X.K ρ H d v/\aG v u
 |_,_,_,i,u,_,_,.nil,h,e=>by cases h;simp at e
 |_,_,_,0,u,_,_,.cons r _,h,e=>by
  cases h with
  |cons a _=>simp at e;subst e;exact⟨_,_,rfl,r,a⟩
 |_,_,_,i+1,u,_,_,.cons _ t,h,e=>by
  cases h with
  |cons _ b=>obtain⟨d,v,e1,r,rv⟩:=pp (i:=i) t b (by simpa using e);exact⟨d,v,by simpa using e1,r,rv⟩
theorem ents:∀{ds:List D}{es:List (Int×c6)},Paired (C6 X ρ H n) ds es->∃vs,Reps X.K ρ H ds vs/\ao vs (es.map (·.2))
 |_,_,.nil=>⟨[],.nil,.nil⟩
 |_,_,.cons ⟨⟨v,r,rv⟩,_⟩ t=>by obtain⟨vs,a,b⟩:=ents t;exact⟨v::vs,.cons r a,.cons rv b⟩
theorem vT{X:Cx}(p:us'.Perm us):∀{ds:List D}{vs:List V},Reps X.K ρ H ds vs->ao vs us->∃ds' vs',ds'.Perm ds/\Reps X.K ρ H ds' vs'/\ao vs' us':=by
 induction p with
 |nil=>intro ds vs r h;exact⟨ds,vs,.refl _,r,h⟩
 |cons x _ o =>
  intro ds vs r h;cases h with
  |cons a b =>
   cases r with
   |cons c d=>obtain⟨ds',vs',h1,h2,e⟩:=o d b;exact⟨_,_,h1.cons _,.cons c h2,.cons a e⟩
 |swap x y l =>
  intro ds vs r h;cases h with
  |cons a b =>
   cases b with
   |cons g j =>
    cases r with
    |cons c d =>
     cases d with
     |cons k m=>exact⟨_,_,.swap _ _ _,.cons k<|.cons c m,.cons g<|.cons a j⟩
 |trans _ _ i f=>intro ds vs r h;obtain⟨ds',vs',h1,h2,e⟩:=f r h;obtain⟨C,v,g1,n,g3⟩:=i h2 e;exact⟨C,v,g1.trans h1,n,g3⟩
def gj(te:u6):u6:=λS M Q=>te S M λd a=>∃n xs,n<=8/\SqAt a d xs/\xs.length<64/\(∀x∈xs,cb n x=a9/\kT x=a9)/\SrtOk a xs/\∀ys:List D,ys.Nodup->(∀x,x∈ys↔x∈xs)->Ea a ys->Q (.ref a.length) (a++[.lst ys])
section
set_option maxHeartbeats 1000000 in
theorem ui(hr:Room k X.A)(hc:X.calm=a9)(he:DE X e te)(Y:X.mg "sorted" = a8)(Z:X.mg "set" = a8)(U:X.env.kindOf "sorted" = a7 .globalImplicit)(V:X.env.kindOf "set" = a7 .globalImplicit)(h1:g9 [e] X.env=[(c5,eval e X.env)]) (h2:g9 [JK (.Name "set" p') [e] [] pos'] X.env=[(c5,eval (JK (.Name "set" p') [e] [] pos') X.env)]):DE X (.Call (.Name "sorted" p) [.Call (.Name "set" p') [e] [] pos'] [] pos) (gj te):=by
 rintro pins s σ H R I ⟨S,M,ρ,Q,sm,sr,q,kk⟩;refine Kw<|dS I U Y (by rfl) ?_;refine callWith_builtin1 ?_ (by rw[h2];rfl) rfl;rw[h2];refine Mo ?_;refine Kw<|dS I V Z (by rfl) ?_;refine callWith_type1 ?_ (by rw[h1];rfl) rfl;rw[h1];refine Mo<|u3 (he pins s σ H _ I ⟨S,M,ρ,_,sm,sr,q,λv H' z=>z⟩) ?_;rintro u s1 ⟨v,H1,B,rv,d,M1,bs,c,g1,r1,cases⟩;refine Mh ?_;obtain⟨n,xs,n8,sq,hl,hk,so,J⟩:=cases;obtain⟨a,T,its,ws,rfl,src,w,vx⟩:=Ew B c r1 rv sq;have li:its.size=xs.length:=by have h1:=vx.length;have h2:=w.length;simp at h1;lia
 have un:=hr.un;refine DF c B n8 (by lia) (B.ok.hd hc) src (λi=>xs.getD i .non) (λi v e=>?_) (by lia) λh2 f ds k2 l W aS=>?_;obtain⟨d,vv,e1,r,rv⟩:=pp w vx (by rw[E4];exact e);have G:xs.getD i .non=d:=by rw[HM,e1];rfl
 have:=hk d<|Hu e1;exact⟨vv,by rw[G];exact r,rv,by rw[G];exact this.1,by rw[G];exact this.2⟩;refine Mh ?_;have E:=B.kept (t':=f) k2;obtain⟨o,es,ep,t,K⟩:=l;have aT:ds.length=es.size:=by have:=K.en.length;simpa using this
 have hz:es.size<=sizeLine:=by rw[Ip];lia
 refine sY (s:={ s1 with heap:=h2,toks:=f }) (E.ok.hd hc) ⟨K.ob,K.dt,K.fits⟩ K.ex.1 (λz=>.inr K.tk.ris) K.ld hz λh3 bk dr D vs k3 N O pv=>?_;have h:∀x,x∈ds↔x∈xs:=λx=>by
  rw[W x,li];constructor;rintro⟨j,L,rfl⟩;have e:xs.getD j .non=xs[j]:=by simp[Kd,L]
  rw[e];exact IR L;intro hx;obtain⟨j,L,e⟩:=List.getElem_of_mem hx;exact⟨j,L,by rw[show xs.getD j .non=xs[j] by simp[Kd,L]];exact e⟩
 obtain⟨bm,al,as⟩:=ents K.en;obtain⟨ds',bl,C,an,aD⟩:=vT pv al as;obtain⟨m,hn,_⟩:=E.loc;have P:D≠X.env.locals:=λz=>by obtain⟨oL,_,_,hL,_⟩:=hn;rw[z]at N;rw[N]at hL;cases hL
 have ai:h3.Ns X.env.locals m:=hn.at' λo e=>k3 _ _ e;refine Bt (X:=X) (pins:=pins) (σ:=σ) (s:={ s1 with heap:=h2,toks:=f,drawn:=dr }) (n:=0) hr (by show X.A.units+1<=X.A.units+4;lia) E.drew c (so.sub (ys:=ds') (λy hy=>(h y).mp<|C.mem_iff.mp hy)<|by rw[C.length_eq];lia).g an aD hn ai (λb u _ e=>k3 b u e) N P O λv H' x=>?_;refine kk v H' ?_;have:=x (λd F=>Q d F) λys hp aj=>?_;obtain⟨d,F,aP,a1,a2,a3,a4⟩:=this;exact⟨d,F,aP,a1,g1.trans a2,a3,a4⟩;exact J ys ((hp.trans C).nodup_iff.mpr K.nd) (λx=>((hp.trans C).mem_iff).trans<|h x) aj
theorem tW(r:Room k X.A)(i:HE X e te)(Y:X.mg "sorted" = a8)(Q:X.mg "set" = a8)(f:X.calm=a9:=by kernel_rfl)(U:X.env.kindOf "sorted" = a7 .globalImplicit:=by kernel_rfl)(V:X.env.kindOf "set" = a7 .globalImplicit:=by kernel_rfl)(h1:g9 [e] X.env=[(c5,eval e X.env)]:=by kernel_rfl) (h2:g9 [JK (.Name "set" p') [e] [] pos'] X.env=[(c5,eval (JK (.Name "set" p') [e] [] pos') X.env)]:=by kernel_rfl):HE X (.Call (.Name "sorted" p) [.Call (.Name "set" p') [e] [] pos'] [] pos) (gj te):=⟨ui r f i.ok Y Q U V h1 h2⟩
end
def dB(h:d7):Nat->D->c6->Prop
 |_,.str x,v=>∃t,v=.str x t
 |_,.int i,v=>∃t,v=.int i t
 |n+1,.tup ds,v=>∃a its,v=.ref a/\h.IsTuple a its/\Paired (dB h n) ds its.toList
 |_,_,_=>False
noncomputable def Lb:Nat->D->Nat
 |n+1,.tup ds=>(ds.map<|Lb n).sum+1
 |_,_=>1
theorem fV:∀(n:Nat) (d:D) (v:c6),dB h n d v->cb n d=a9:=by
 intro n;induction n with
 |zero=>intro d v k;cases d<;>first|rfl|exact k.elim
 |succ n b =>
  intro d v k;cases d with
  |str x=>rfl
  |int x=>rfl
  |tup ds =>
   obtain⟨a,its,_,_,p⟩:=k;show ds.all (cb n)=a9;generalize its.toList=l at p;induction p with
   |nil=>rfl
   |cons r _ i=>rw[Ie,b _ _ r,i];rfl
  |_=>exact k.elim
theorem qj{h:d7}{a:d5}{xs ys:Array c6}(h1:h.IsTuple a xs)(h2:h.IsTuple a ys):xs=ys:=by obtain⟨o,t,_,n,d⟩:=h1;obtain⟨o',m,_,f,b⟩:=h2;obtain rfl:o=o':=A1<|t.symm.trans m;rw[d]at b;injection b
theorem jz{h:d7}:∀(n:Nat) (x y:D) (v:c6),dB h n x v->dB h n y v->x=y:=by
 intro n;induction n with
 |zero =>
  intro x y v k C;cases x with
  |str a =>
   obtain⟨t,rfl⟩:=k;cases y with
   |str b=>obtain⟨t',e⟩:=C;injection e with e;rw[e]
   |int b=>obtain⟨t',e⟩:=C;cases e
   |_=>exact C.elim
  |int a =>
   obtain⟨t,rfl⟩:=k;cases y with
   |str b=>obtain⟨t',e⟩:=C;cases e
   |int b=>obtain⟨t',e⟩:=C;injection e with e;rw[e]
   |_=>exact C.elim
  |_=>exact k.elim
 |succ n c =>
  intro x y v k C;cases x with
  |str a =>
   obtain⟨t,rfl⟩:=k;cases y with
   |str b=>obtain⟨t',e⟩:=C;injection e with e;rw[e]
   |int b=>obtain⟨t',e⟩:=C;cases e
   |tup b=>obtain⟨_,_,e,_⟩:=C;cases e
   |_=>exact C.elim
  |int a =>
   obtain⟨t,rfl⟩:=k;cases y with
   |str b=>obtain⟨t',e⟩:=C;cases e
   |int b=>obtain⟨t',e⟩:=C;injection e with e;rw[e]
   |tup b=>obtain⟨_,_,e,_⟩:=C;cases e
   |_=>exact C.elim
  |tup xs =>
   obtain⟨a,its,rfl,f,g⟩:=k;cases y with
   |str b=>obtain⟨t',e⟩:=C;cases e
   |int b=>obtain⟨t',e⟩:=C;cases e
   |tup ys =>
    obtain⟨_,i,e,E,j⟩:=C;cases e;obtain rfl:=qj f E;congr 1;generalize its.toList=l at g j;induction g generalizing ys with
    |nil=>cases j;rfl
    |cons r _ d=>cases j with
     |cons r' t'=>rw[c _ _ _ r r',d _ t']
   |_=>exact C.elim
  |_=>exact k.elim
theorem tV(k:∀a its,h.IsTuple a its->h'.IsTuple a its):∀(n:Nat) (d:D) (v:c6),dB h n d v->dB h' n d v:=by
 intro n;induction n with
 |zero=>intro d v q;cases d<;>first|exact q|exact q.elim
 |succ n i =>
  intro d v q;cases d with
  |str x=>exact q
  |int x=>exact q
  |tup ds=>obtain⟨a,its,e,t,p⟩:=q;exact⟨a,its,e,k _ _ t,Paired.mapP p λx y r=>i x y r⟩
  |_=>exact q.elim
theorem qh{es ep}(q:dB h n k v)(D:h.get? d=a7 o)(f:o.data=.dict es ep)(hs:IH d h h'):dB h' n k v:=by
 refine tV (λa its ⟨o',e,c,m,t⟩=>?_) n k v q;have b:a≠d:=by rintro rfl;obtain rfl:o'=o:=A1<|e.symm.trans D;rw[f]at t;cases t
 exact⟨o',(hs.2 a b).trans e,c,m,t⟩
theorem kR:∀(n:Nat) (A:e9) (s:f6) (d:D) (u:c6) (E:c6->f6->Prop) (Q:Int->f6->Prop),A.units+n<j5->dB s.heap n d u ->Q (x3 w n d) { s with toks:=s.toks+Lb n d }->f9 (g7 prog w) A (pyHash u) Q E s:=by
 intro n;induction n with
 |zero =>
  intro A s d u E Q q k h;cases d with
  |str x=>obtain⟨t,rfl⟩:=k;exact Ls h
  |int x=>obtain⟨t,rfl⟩:=k;exact Lu h
  |_=>exact k.elim
 |succ n v =>
  intro A s d u E Q q k h;cases d with
  |str x=>obtain⟨t,rfl⟩:=k;exact Ls h
  |int x=>obtain⟨t,rfl⟩:=k;exact Lu h
  |tup ds =>
   obtain⟨a,its,rfl,⟨o,i,j,R,m⟩,p⟩:=k;have T:s.TypeIs (.ref a) "tuple":=⟨o,i,j⟩
   unfold pyHash
   first|unfold pyHashByItsType|skip
   first|refine o8 (wpAny_cRoomFor_or (.inr<|by lia) ?_)|skip
   refine o8<|Jx T F.slot_tuple_hash.lookup ?_;refine(show f9 (g7 prog w) _ (if (a7 (Value.builtin "tuple.__hash__")==a7 ABJ)=a9 then _ else _) Q E s from ?_);rw[n5<|by rw[beq_builtin_none];exact Iz];refine o8<|Jx T F.slot_tuple_hash.lookup ?_;refine(show f9 (g7 prog w) _ (callSpecialIfBoundUnlessNone? (.ref a) "__hash__" _ >>= _) Q E s from o8<|NE T F.slot_tuple_hash<|E8 F.slot_tuple_hash T F.entry_tuple_hash ?_<|F.args_tuple_hash_1 _);refine(show f9 (g7 prog w) _ (ME (.ref a) >>= _) _ _ s from o8<|wpAny_tupleItemsOf i m<|o8 ?_);rw[<-JY];refine IP _ (λaE (b:Array Int) s'=>∃done left,ds=done++left/\Paired (dB s.heap n) left aE/\b.toList=done.map (x3 w n)/\s'={ s with toks:=s.toks+(done.map<|Lb n).sum }) _ ?_ ?_ _ _ ⟨[],ds,rfl,p,rfl,rfl⟩;rintro x aE b s' ⟨done,left,e,h1,f,rfl⟩;cases h1 with
   |@cons g _ c _ U J =>
    refine o8<|v _ _ g x _ _ (by show A.units+1+n<j5;lia) U ?_
    first
     |exact p4 ⟨done++[g],c,by rw[e];simp,J,by simp[f],by simp[Nat.add_assoc]⟩
     |exact o8 (p4 (p4 ⟨done++[g],c,by rw[e];simp,J,by simp[f],by simp[Nat.add_assoc]⟩))
   rintro b s' ⟨done,left,e,h1,f,rfl⟩;cases h1;rw[Ir]at e;subst e;refine(show f9 (g7 prog w) _ (retInt<|KB b.toList) _ _ _ from ?_);rw[f];refine wpAny_ret_mkInt ?_;have l:x3 w (n+1) (.tup ds)=l6 (KB<|ds.map<|x3 w n):=rfl;have h':Q (x3 w (n+1)<|.tup ds) { s with toks:=s.toks+(ds.map<|Lb n).sum+1 }:=h;generalize KB (ds.map<|x3 w n)=z at l;refine(show f9 (g7 prog w) _ (if (decide (-(2:Int) ^ 63<=z)&&decide (z<2 ^ 63))=a9 then _ else _) Q E _ from ?_);unfold l6 at l;by_cases r:(decide (-(2:Int) ^ 63<=z)&&decide (z<2 ^ 63))=a9;rw[m9 r]at l ⊢;exact p4 (by rw[<-l];exact h');rw[n5 r]at l ⊢;exact o8<|G7<|p4<|by rw[<-l];exact h'
  |_=>exact k.elim
theorem jy:∀(n k:Nat) (A:e9) (s:f6) (d:D) (u:c6) (E:c6->f6->Prop) (Q:Bool->f6->Prop),n<=k->dB s.heap n d u->Q a9 s->f9 (g7 prog w) A (m7 k u) Q E s:=by
 intro n;induction n with
 |zero =>
  intro k A s d u E Q e q h;cases d with
  |str x=>obtain⟨t,rfl⟩:=q;rw[JW k (v:=.str x t) rfl];exact p4 h
  |int x=>obtain⟨t,rfl⟩:=q;rw[JW k (v:=.int x t) rfl];exact p4 h
  |_=>exact q.elim
 |succ n g =>
  intro k A s d u E Q e q h;cases d with
  |str x=>obtain⟨t,rfl⟩:=q;rw[JW k (v:=.str x t) rfl];exact p4 h
  |int x=>obtain⟨t,rfl⟩:=q;rw[JW k (v:=.int x t) rfl];exact p4 h
  |tup ds =>
   obtain⟨a,its,rfl,⟨o,b,f,R,c⟩,p⟩:=q;obtain⟨k,rfl⟩:∃H,k=H+1:=⟨k-1,by lia⟩
   have T:s.TypeIs (.ref a) "tuple":=⟨o,b,f⟩
   unfold m7;refine o8<|Jx T F.slot_tuple_eq.lookup ?_;refine(show f9 (g7 prog w) A (isInstance (.ref a) (.type "tuple") >>= _) _ _ s from o8<|JT T isSubtype_tuple_tuple ?_);simp only[II,z6,o4];refine o8<|Ig b c ?_;simp only[Option.getD_some];refine o8 ?_;refine(show f9 (g7 prog w) A (forIn its _ _) _ _ s from ?_);rw[<-JY];refine IP _ (λaE r s'=>r.1=a8/\s'=s/\∃left,Paired (dB s.heap n) left aE) _ ?_ ?_ _ _ ⟨rfl,rfl,ds,p⟩;rintro x aE r s' ⟨i,rfl,left,h1⟩;cases h1 with
   |cons U J=>refine o8<|g k _ _ _ x _ _ (by lia) U ?_;simp only[II,z6,o4];exact p4 ⟨rfl,rfl,_,J⟩
   rintro⟨r1,r2⟩ s' ⟨i,rfl,_⟩;simp only at i;subst i;exact p4 h
  |_=>exact q.elim
theorem hZ{h:d7}{n:Nat}{ds:List D}{its:Array c6}(p:Paired (dB h n) ds its.toList):ds.length=its.size:=by
 rw[<-C3];generalize its.toList=l at p;induction p with
 |nil=>rfl
 |cons _ _ i=>rw[A0,A0,i]
theorem zJ:∀(n:Nat) (A:e9) (s:f6) (x y:D) (u v:c6),A.units+n<j5->dB s.heap n x u->dB s.heap n y v->Io A s u v (r9 [] n x y):=by
 intro n;induction n with
 |zero =>
  intro A s x y u v E k C;cases x with
  |str a =>
   obtain⟨t,rfl⟩:=k;cases y with
   |str b=>obtain⟨t',rfl⟩:=C;exact Mm _ _ _ _
   |int b=>obtain⟨t',rfl⟩:=C;exact Ly _ _ _ _
   |_=>exact C.elim
  |int a =>
   obtain⟨t,rfl⟩:=k;cases y with
   |str b=>obtain⟨t',rfl⟩:=C;exact Lz _ _ _ _
   |int b=>obtain⟨t',rfl⟩:=C;exact Mn _ _ _ _
   |_=>exact C.elim
  |_=>exact k.elim
 |succ n G =>
  intro A s x y u v E k C;have c:A.units<j5:=by lia
  have h:A.in1.units+n<j5:=by show A.units+1+n<j5;lia
  cases x with
  |str a =>
   obtain⟨t,rfl⟩:=k;cases y with
   |str b=>obtain⟨t',rfl⟩:=C;exact Mm _ _ _ _
   |int b=>obtain⟨t',rfl⟩:=C;exact Ly _ _ _ _
   |tup b=>obtain⟨_,_,rfl,p,_⟩:=C;exact SeqAt.EqAt.str_tuple _ _ p c
   |_=>exact C.elim
  |int a =>
   obtain⟨t,rfl⟩:=k;cases y with
   |str b=>obtain⟨t',rfl⟩:=C;exact Lz _ _ _ _
   |int b=>obtain⟨t',rfl⟩:=C;exact Mn _ _ _ _
   |tup b=>obtain⟨_,_,rfl,p,_⟩:=C;exact SeqAt.EqAt.int_tuple _ _ p c
   |_=>exact C.elim
  |tup xs =>
   obtain⟨a,its,rfl,p,o⟩:=id k;cases y with
   |str b=>obtain⟨t',rfl⟩:=C;exact SeqAt.EqAt.tuple_str _ _ p c
   |int b=>obtain⟨t',rfl⟩:=C;exact SeqAt.EqAt.tuple_int _ _ p c
   |tup ys =>
    obtain⟨b,d,rfl,F,q⟩:=id C;by_cases S:a=b;subst S;have e:=jz (n+1) _ _ _ k C;rw[e,(fh (M:=[]) (n+1) _ _ (fV _ _ _ C)<|fV _ _ _ C).mpr rfl];exact L7 _;have Q:=hZ o;have l:=hZ q;have f:∀(j:Nat) (h1:j<its.size) (h2:j<d.size),Io A.in1 s its[j] d[j] (r9 [] n (xs.getD j .non)<|ys.getD j .non):=λj h1 h2=>by
     obtain⟨r,z,H⟩:=cM o (i:=j) (y:=its[j]) (by rw[E4];exact E5 h1);obtain⟨w,B,I⟩:=cM q (i:=j) (y:=d[j]) (by rw[E4];exact E5 h2);have J:xs.getD j .non=r:=by rw[HM,z];rfl
     have K:ys.getD j .non=w:=by rw[HM,B];rfl
     rw[J,K];exact G A.in1 s r w _ _ h H I
    have m:((A7<|min its.size d.size).all (λj=>r9 [] n (xs.getD j .non)<|ys.getD j .non)&&its.size==d.size)=A6 (r9 [] n) xs ys:=by
     by_cases g:xs.length=ys.length;have W:(A7 xs.length).all (λj=>r9 [] n (xs.getD j .non)<|ys.getD j .non)=A6 (r9 [] n) xs ys:=jB g λj x y h1 h2=>by simp[Kd,h1,h2]
     rw[<-Q,<-l,<-g,Nat.min_self,W];simp;rw[xB g,<-Q,<-l];simp[g]
    have h1:=SeqAt.RcAt.tuples p F c f;rw[m]at h1;exact SeqAt.EqAt.of_refs S h1
   |_=>exact C.elim
  |_=>exact k.elim
noncomputable instance decD:DecidableEq D:=λa b=>E9<|a=b
noncomputable def dZ(prog:c9)(w:c8):HeapKind prog w D where
 is:=λh d a=>dB h 8 d<|.ref a
 hash:=x3 w 8
 draws:=Lb 8
 room:=λA=>A.units+8<j5
 inj:=λx y=>jz 8 _ _ _ x y
 keeps:=λx o c hs=>qh x o c hs
 pyHash:=λg k h=>kR 8 _ _ _ _ _ _ g k h
 eqBool:=λ{A E s x y a b Q} g k1 k2 h=>by
  refine zJ 8 A s x y _ _ g k1 k2 _ _ _ _ ?_;have e:r9 [] 8 x y=decide (x=y):=by rw[Bool.eq_iff_iff,fh 8 x y (fV _ _ _ k1)<|fV _ _ _ k2,n9]
  rw[e];exact h
 quiet:=λk h=>jy 8 8 _ _ _ _ _ _ (t6 _) k h
noncomputable def aR(kvs:List (D×D))(k:D):Option D:=(kvs.find? λp=>decide<|p.1=k).map (·.2)
noncomputable def fO(kvs:List (D×D))(k d:D):List (D×D):=if (aR kvs k).isSome then kvs.map (λp=>if p.1=k then(p.1,d)else p)else kvs++[(k,d)]
section
variable{K:q9}{ρ:List d5}{H:Hp}{M:p8}{kvs:List (D×D)}{xs:List (D×d5×c6)}
theorem om(r:Paired (uu K ρ H) kvs xs)(k:D):(aR kvs k=a8/\l5 xs k=a8)\/∃d p v,aR kvs k=a7 d/\l5 xs k=a7 p/\p9 K ρ H d v/\aG v p.2:=by
 unfold aR l5;induction r with
 |nil=>exact .inl ⟨rfl,rfl⟩
 |@cons p q ps qs h t i=>obtain⟨h1,_,_,v,a,b⟩:=h;rw[Iq,Iq];by_cases e:p.1=k;rw[dT_ e,dT_<|h1.symm.trans e];exact .inr ⟨_,_,v,rfl,rfl,a,b⟩;rw[dF_ e,dF_<|λz=>e<|h1.trans z];exact i
theorem FH(r:Paired (uu K ρ H) kvs xs)(n:cb 8 k=a9)(o:p9 K ρ H k (.ref b))(f:p9 K ρ H d v)(g:aG v u):Paired (uu K ρ H) (fO kvs k d) (storedH xs k b u):=by
 unfold fO storedH;have s:(aR kvs k).isSome=(l5 xs k).isSome:=by rcases om r k with⟨a,m⟩|⟨_,_,_,a,m,_⟩<;>rw[a,m]<;>rfl
 rw[s];by_cases q:(l5 xs k).isSome=a9;rw[m9 q,m9 q];clear s q;induction r with
 |nil=>exact .nil
 |@cons p q ps qs h t i=>rw[A5,A5];refine .cons ?_ i;obtain⟨h1,h2,c,w,j,l⟩:=h;by_cases e:p.1=k;rw[m9 e,putAt,m9<|h1.symm.trans e];exact⟨h1,h2,c,v,f,g⟩;rw[n5 e,putAt,n5<|λz=>e<|h1.trans z];exact⟨h1,h2,c,w,j,l⟩
 rw[n5 q,n5 q];clear s q;induction r with
 |nil=>exact .cons ⟨rfl,n,o,v,f,g⟩ .nil
 |cons h t i=>exact .cons h i
theorem jw(r:Paired (uu K ρ H) kvs xs):xs.map (·.1)=kvs.map (·.1):=by
 induction r with
 |nil=>rfl
 |cons h t i=>rw[A5,A5,i,h.1]
theorem yM:(fO kvs k d).length<=kvs.length+1:=by unfold fO;split;rw[t7];lia;rw[v4];exact t6 _
theorem x9.writtenX{a p:d5}{xs:List V}{φ:c9->c8->d7->Prop}{o:HO}(b:H p=a7 (.ext φ))(h:x9 K H a xs):x9 K (t8 H p o) a xs:=by
 rcases h with h|h;rcases h with h|⟨c,h⟩
 exact .inl (.inl<|by rw[af<|zg h b<|by intro z;cases z];exact h);exact .inl<|.inr ⟨c,by rw[af<|zg h b<|by intro z;cases z];exact h⟩;exact .inr h
theorem t5.writeT(S:t5 K ρ M H)(t:ρ[n]?=a7 a)(s:M[n]?=a7 (.dkt kvs))(p:H a=a7 (.ext<|dX a xs))(u:kvs'.length<=sizeLine)(hs:(a==d8)=c5)(X:(kvs'.map (·.1)).Nodup)(r:Paired (uu K ρ H) kvs' xs'):t5 K ρ (M.set n<|.dkt kvs') (t8 H a<|.ext<|dX a xs')/\Grow K ρ H ρ (t8 H a<|.ext<|dX a xs'):=by
 have g:Grow K ρ H ρ (t8 H a<|.ext<|dX a xs'):=⟨Kn,λ_ _ h=>x9.writtenX p h⟩
 have k:∀m,m≠n->(M.set n<|.dkt kvs')[m]?=M[m]?:=λm d=>IT<|v5 d;have c:¬HZ M[n]?:=λ⟨_,z⟩=>by rw[s]at z;cases z
 refine⟨⟨λm j b e f N=>?_,by rw[G9];exact S.len,λm b o f N=>?_⟩,g⟩;have q:=S.nd m j b e f N;by_cases h1:m=n;subst h1;rw[k j<|v5 e];exact .inr<|q.resolve_left c;rw[k m h1];by_cases h2:j=n;subst h2;exact .inl<|q.resolve_right c;rw[k j h2];exact q;by_cases d:m=n;subst d;have i:b=a:=A1<|f.symm.trans t;subst i;rw[IA<|by rw[<-S.len];exact(w9.mp t).1]at N;cases N;refine⟨u,hs,X,xs',aB,Paired.mapP r ?_⟩;rintro _ _ ⟨w,x,y,v,A,B⟩;exact⟨w,x,y.grow g,v,A.grow g,B⟩;rw[k m d]at N;by_cases i:b=a;subst i;have l:=(S.nd m n b d f t).resolve_right c;rw[N]at l;exact(S.obj m b o f N).grow g<|.inr l;exact(S.obj m b o f N).grow g<|.inl<|af i
end
theorem eX(I:p0 X pins σ H s):∀(n:Nat) (d:D) (v:V) (u:c6),p9 X.K ρ H d v->aG v u->cb n d=a9->dB s.heap n d u:=by
 intro n;induction n with
 |zero =>
  intro d v u r b k;cases r with
  |str x=>exact b
  |int x=>exact b
  |_=>cases k
 |succ n e =>
  intro d v u r b k;cases r with
  |str x=>exact b
  |int x=>exact b
  |@tup a vs ds q f =>
   cases b;obtain⟨its,m,p,z⟩:=I.tuple q;have h:∀x∈ds,cb n x=a9:=D9.mp<|show ds.all (cb n)=a9 from k;refine⟨a,its.toArray,rfl,p,?_⟩;rw[List.toList_toArray];clear p q k z;induction m generalizing ds with
   |nil=>cases f;exact .nil
   |cons g j i =>
    cases f with
    |cons h1 t=>exact .cons (e _ _ _ h1 g<|h _ z0)<|i t λx c=>h x<|w6 _ c
  |_=>cases k
theorem gf{X:Cx}{pins:List (d5×d6)}{σ:St}{H:Hp}{s:f6}{ρ:List d5}{M:p8}(I:p0 X pins σ H s)(g:t5 X.K ρ M H){n:Nat}{a:d5}{kvs:List (D×D)}(e:ρ[n]?=a7 a)(d:M[n]?=a7 (.dkt kvs)):∃xs,H a=a7 (.ext<|dX a xs)/\Paired (uu X.K ρ H) kvs xs/\s.heap.DictOfH (dZ X.prog X.w) a xs/\(a==d8)=c5/\kvs.length<=sizeLine/\xs.length=kvs.length/\(kvs.map (·.1)).Nodup:=by
 obtain⟨h1,h2,h,xs,b,r⟩:=g.obj _ _ _ e d;obtain⟨⟨o,es,t,m,R,c⟩,_⟩:=(show bD X.prog X.w H s.heap a (.ext<|dX a xs)from I.hok a _ b)
 have Z:=jw r;refine⟨xs,b,r,⟨o,es,_,t,m,R,c,λx f=>?_,by rw[Z];exact h⟩,h2,h1,?_,h⟩;obtain⟨i,hi⟩:=JC f;obtain⟨p,_,q,j,k,_⟩:=cM r hi;rw[<-q];exact eX I 8 _ _ _ k rfl j;have:=o6 Hy Z
 rwa [t7,t7]at this
theorem xA(d:dX a xs P w h'):bD P w H' h' a (.ext<|dX a xs):=by obtain⟨o,es,t,m,R,I⟩:=d;refine⟨⟨o,es,t,m,R,I⟩,⟨o,t⟩,?_⟩;rintro h1 h2 ⟨o,es,t,m,R,I⟩ k;exact⟨o,es,k _ t,m,R,I⟩
theorem AY(I:p0 X pins σ H s)(h:H a=a7 (.ext<|dX a xs)):dX a xs X.prog X.w s.heap:=(show bD X.prog X.w H s.heap a (.ext<|dX a xs)from I.hok a _ h).1
theorem setE(x:(dZ prog w).room A.in1)(t:(dZ prog w).is s.heap k b)(u:s.heap.DictOfH (dZ prog w) d xs) (y:dX d xs prog w s.heap) (hz:xs.length<=sizeLine)(m:∀h',dX d (storedH xs k b v) prog w h'->IH d s.heap h'->Q () { s with heap:=h',toks:=s.toks+(dZ prog w).draws k }):f9 (g7 prog w) A (setItem (.ref d) (.ref b) v) Q E s:=by
 have n:=u.typeIs;obtain⟨_,_,_,_,_,_,_,g,f⟩:=u;obtain⟨o,es,D,r,h,c⟩:=y;have i:es.toList=xs.map (entryOfKey<|dZ prog w):=c;unfold setItem
 try with_reducible refine C9 ?_
 refine o8<|wpAny_sequenceKey n (by decide)<|o8<|Ih (name:=AA1 "__setitem__") n slot_dict_setitem<|E8 slot_dict_setitem n entry_dict_setitem ?_<|args_dict_setitem _ _ _;refine(show f9 (g7 prog w) _ (Builtin.Dict.notOrdered "__setitem__" ⟨[.ref d,.ref b,v],[]⟩ >>= _) _ _ s from o8<|LC n ?_);refine(show f9 (g7 prog w) _ (dictSet d (.ref b) v >>= _) _ _ s from o8 ?_);unfold dictSet
 try with_reducible refine C9 ?_
 refine o8<|(dZ prog w).pyHash x t ?_;unfold dictSetHashed
 try with_reducible refine C9 ?_
 have B:es.size=xs.length:=size_of_entries i;refine o8<|wpAny_dictFind_heap (s:={ s with toks:=s.toks+(dZ prog w).draws k }) x t D h i g f (λa=>?_) λj p L=>?_;refine o8<|G7<|wpAny_updateDictKeys (hz:=by lia) (s:={ s with toks:=s.toks+(dZ prog w).draws k }) D h<|p4 ⟨.none,rfl,p4<|m _ ⟨_,es.push ⟨(dZ prog w).hash k,.ref b,v⟩,HY _ D<|M7<|Mq h _,r.mapDictKeys _,?_,?_⟩<|HV ..⟩;rw[Mq h,storedH_new<|atKey_none_of_get a,v4];rfl;rw[storedH_new<|atKey_none_of_get a];rw[Array.toList_push,i,C4];rfl;refine o8<|G7<|o8<|wpAny_updateDict (s:={ s with toks:=s.toks+(dZ prog w).draws k }) D h<|wpAny_point<|p4 ⟨.none,rfl,p4<|m _ ⟨_,es.modify j λe=>{ e with val:=v },HY _ D<|M7<|Obj.data_mapDict h _,r.mapDict _,?_,?_⟩<|HV ..⟩;rw[Obj.data_mapDict h,storedH_old<|atKey_of_get f L,t7];rw[storedH_old<|atKey_of_get f L];have q:=modify_map_putAt (entryOfKey<|dZ prog w) (λe:l7=>{ e with val:=v }) k v (λ_ _=>rfl) f L;rw[<-i]at q;obtain⟨l⟩:=es;have z:(Array.modify ⟨l⟩ j λe:l7=>{ e with val:=v }).toList=(xs.map<|putAt k v).map (entryOfKey<|dZ prog w):=by simpa using q
 exact z
section
variable{X:Cx}{o i value:ge}{td ty tv:u6}{pos pos':Pos}{k:Nat}
def qw:u6:=λ_ M Q=>Q (.ref M.length)<|M++[.dkt []]
theorem Hf:DE X (.Dict [] [] pos) qw:=by rintro p s σ H R I ⟨S,M,ρ,Q,m,e,q,F⟩;have f:H s.heap.objs.size=a8:=I.hok.fresh<|t6 _;have d:(s.heap.objs.size==d8)=c5:=beq_eq_false_iff_ne.mpr<|v5<|v7 I.big;refine wpAny_Dict_empty ⟨.ref s.heap.objs.size,_,I.laid (a:=s.heap.objs.size) (o:=.ext<|dX s.heap.objs.size []) (t':=s.toks) (λ_ _ q=>u4 _ q) (t6 _)<|xA ⟨_,#[],v8 _ rfl,⟨rfl,rfl,rfl⟩,rfl,rfl⟩,rfl,?_⟩;exact F _ _ ⟨.ref M.length,M++[.dkt []],ρ++[s.heap.objs.size],m.laidM (mo:=.dkt []) f ⟨v9 _,d,KQ,[],aB,.nil⟩,Grow.laidR f,.ref m.last,(show Q (.ref M.length) (M++[.dkt []])from q)⟩
def jD(t c:u6):u6:=λS M Q=>t S M λx a=>c S a λy b=>match x,y with
 |.ref n,.tup ks=>∃s d,b[n]?=a7 (.dkt s)/\cb 8 (.tup ks)=a9/\aR s (.tup ks)=a7 d/\Q d b
 |_,_=>False
theorem Hg(V:Room k X.A)(U:DE X o td)(hi:DE X i ty)(hs:Eb i):DE X (.Subscript o i pos) (jD td ty):=by
 rintro c s σ H R I ⟨S,M,ρ,Q,sm,G,q,Z⟩;have un:=V.un;refine vq PySem.F.slot_dict_getitem.lookup hs<|u3 (U c s σ H _ I ⟨S,M,ρ,_,sm,G,q,λv H' z=>z⟩) ?_;rintro u s1 ⟨v,J,L,rv,x,N,l,h,g1,r1,q1⟩;refine u3 (hi c s1 σ J _ L ⟨S,N,l,_,h,G.grow g1,q1,λv H' z=>z⟩) ?_;rintro iv s2 ⟨w,K,f,g,y,O,m,e,C,r2,j⟩;cases x with
 |ref n =>
  cases y with
  |tup E =>
   obtain⟨ai,d,P,Y,D,q3⟩:=j;obtain⟨a,rfl,T⟩:=p9.inv_ref r1;obtain rfl:u=ABG a:=rv;obtain⟨xs,hH,r,B,W,hl,hx,_⟩:=gf f e (am C.pre T) P;have t:=eX f 8 _ _ _ r2 g Y;rcases om r (.tup E)with⟨z,_⟩|⟨d',p,v',e1,e2,e3,e4⟩
   rw[D]at z;cases z;rw[D]at e1;cases e1;obtain⟨b,_,rfl,_⟩:=id t;refine⟨B.typeIs,wpAny_getItem_heap (knd:=dZ X.prog X.w) (k:=.tup E) (by show X.A.units+1+8<j5;lia) t B e2 ⟨v',K,f.tok _,e4,Z _ _ ⟨d,O,m,e,g1.trans C,e3,q3⟩⟩⟩
  |_=>exact j.elim
 |_=>exact j.elim
def qv(d e t:u6):p5:=λE S M=>t S M λv a=>d S a λx b=>e S b λy c=>match x,y with
 |.ref n,.tup ks=>∃s,c[n]?=a7 (.dkt s)/\cb 8 (.tup ks)=a9/\s.length<sizeLine/\E.nx S (c.set n<|.dkt<|fO s (.tup ks) v)
 |_,_=>False
theorem pJ(h:(kvs.map (·.1)).Nodup):((fO kvs y v).map (·.1)).Nodup:=by
 unfold fO;split;rw[G2];have:((λx:D×D=>x.1) ∘ λp:D×D=>if p.1=y then(p.1,v)else p)=λx=>x.1:=by funext p;show (if p.1=y then(p.1,v)else p).1=p.1;split<;>rfl
 rw[this];exact h;rename_i q;rw[C4,List.map_singleton,Kt];refine⟨h,by simp,λa f b d=>?_⟩;rw[HK.mp d];rintro rfl;obtain⟨p,c,e⟩:=y4.mp f;refine q ?_;unfold aR;rw[Option.isSome_map,List.find?_isSome];exact⟨p,c,by simpa using e⟩
theorem Dq(hr:Room k X.A)(ho:DE X o td)(hi:DE X i ty)(hv:DE X value tv)(hs:i4 value (a7<|.Subscript o i pos') pos.line X.env=pure c5):DS X (.Assign [.Subscript o i pos'] value pos) (qv td ty tv):=by
 rintro p s σ H E I ⟨S,M,ρ,F,sm,j,q,kk⟩;have un:=hr.un;refine wpAny_Assign_Subscript (u3 (hv p s σ H _ I ⟨S,M,ρ,_,sm,j,q,λv H' z=>z⟩) λr s1 ⟨v,T,V,rv,dv,Z,G,C,g1,r1,q1⟩=>u3 (ho p s1 σ T _ V ⟨S,Z,G,_,C,j.grow g1,q1,λv H' z=>z⟩) λu s2 ⟨vx,U,Y,rx,x,M2,J,D,g,r2,q2⟩=>u3 (hi p s2 σ U _ Y ⟨S,M2,J,_,D,(j.grow g1).grow g,q2,λv H' z=>z⟩) ?_) hs;rintro iv s3 ⟨vy,H3,f,Q,y,M3,N,e,g3,P,B⟩;cases x with
 |ref n =>
  cases y with
  |tup O =>
   obtain⟨kvs,K,L,hl,q4⟩:=B;obtain⟨a,rfl,hn⟩:=p9.inv_ref r2;obtain rfl:u=ABG a:=rx;have h:=am g3.pre hn;obtain⟨xs,l,r,dd,W,_,hx,nd⟩:=gf f e h K;have t:=eX f 8 _ _ _ P Q L;obtain⟨b,_,rfl,_⟩:=id t;obtain⟨_,_,rfl,m,rr⟩:=p9.inv_tup P;cases Q;have r':=FH r L (.tup m rr) ((r1.grow g).grow g3) rv;have pl:=yM (kvs:=kvs) (k:=.tup O) (d:=dv);obtain⟨w1,R⟩:=e.writeT h K l (by have:=pl;lia) W (pJ nd) r';refine setE (k:=.tup O) (by show X.A.units+1+8<j5;lia) t dd (AY f l) (by lia) λh' c w=>?_;have he:∃q,h'.get? a=a7 q:=let ⟨q,_,m,_⟩:=c;⟨q,m⟩
   exact⟨σ,_,xH f (by rw[l];exact JM) w he<|xA c,kk.nx σ _<|SQ.trans ((g1.trans g).trans g3) ⟨S,_,N,w1,R,(((j.grow g1).grow g).grow g3).grow R,q4⟩⟩
  |_=>exact B.elim
 |_=>exact B.elim
def J5(r:Nat->C1)(e:u6)(t:D7):u6:=λS M Q=>e S M λx a=>match x with
 |.ref n=>(∃s,a[n]?=a7 (.dkt s))/\t S a λds b=>r n ds b Q
 |_=>False
variable{name:c7}{id:String}{e:ge}{es:List ge}{to:u6}{t:D7}{apos cpos:Pos}
theorem d_mt{r:Nat->C1}(slot:Slot "dict" name id)(y:k7 (.builtin id)=pure (.type "method_descriptor"))(V:Ia X id (jt X.K r))(W:DE X o to)(U:DA X (e::es) t)(c:k8 o name X.env (eval o X.env)=eval o X.env:=by rfl)(f:((g8 cpos<|g9 (e::es) X.env).all (λx=>!x.1)&&(k9 cpos<|l3 [] X.env).all (λx=>x.1.isSome) && decide ((e::es).length+([]:List l4).length+(if ([]:List l4).isEmpty then 0 else 1)<30))=a9:=by rfl)(d:(apos.endLine==cpos.line)=a9:=by rfl) (hs:g9 (e::es) X.env=(c5,eval e X.env)::g9 es X.env:=by rfl) (h:(g8 cpos<|g9 es X.env).any (·.1)=c5:=by rfl):DE X (.Call (.Attribute o name apos) (e::es) [] cpos) (J5 r to t):=by
 rintro p s σ H R I ⟨S,M,ρ,Q,sm,J,q,Z⟩;refine Ng c f d rfl<|u3 (W p s σ H _ I ⟨S,M,ρ,_,sm,J,q,λv H' z=>z⟩) ?_;rintro u s1 ⟨v,L,C,rv,x,i,A,j,g1,r1,g⟩;cases r1 with
 |@ref n a G =>
  cases rv;obtain⟨⟨k,T⟩,g⟩:=(show (∃k,i[n]?=a7 (.dkt k))/\t S i _ from g)
  obtain⟨xs,hH,r,D,Y,hl,hx,nd⟩:=gf C j G T;refine⟨"dict",id,Mx,slot,y,D.typeIs,λb z=>?_,?_⟩;cases z;obtain⟨ob,_,_,h1,h2,_⟩:=D;exact⟨ob,h1,h2.2.1⟩;have F:=U cpos p s1 σ L _ C ⟨S,i,A,_,j,J.grow g1,g,λvs H' z=>z⟩;rw[hs]at F ⊢;refine K3 (by show (c5||(g8 cpos<|g9 es X.env).any (·.1))=c5;rw[h]<;>rfl)<|M9 ?_;refine u3 F ?_;rintro us s2 ⟨vs,N,O,l,ds,P,B,m,E,rr,q2⟩;exact V p s2 σ N (.ref a) vs (.ref a) us R O rfl l ⟨n,a,ds,P,B,Q,rfl,am E.pre G,m,rr,q2,λv H' w=>Z v H'<|VQ.trans (g1.trans E) w⟩
 |_=>exact g.elim
def hW(n:Nat):C1:=λds M Q=>match ds with
 | [.tup ks,d]=>∃s,M[n]?=a7 (.dkt s)/\cb 8 (.tup ks)=a9/\Q ((aR s<|.tup ks).getD d) M
 |_=>False
theorem zh(y:Room k X.A):Ia X "dict.get" (jt X.K hW):=by
 rintro h s σ H x xs v us R I J G ⟨n,a,ds,M,ρ,Q,l,u,m,f,q,e⟩;have U:=y.un;unfold hW at q;split at q;rename_i g d;obtain⟨C,o,B,q⟩:=q
 first|have z:=Reps.inv_cons f|have z:=ao.inv_cons f
 clear f;obtain⟨_,_,rfl,D,f⟩:=z
 first|have z:=Reps.inv_cons f|have z:=ao.inv_cons f
 clear f;obtain⟨_,_,rfl,E,f⟩:=z;cases f;obtain⟨T,L,rfl,i,j⟩:=ao.two G;subst l;cases J;obtain⟨ys,N,r,c,W,O,P,S⟩:=gf I m u o;have t:=eX I 8 _ _ _ D i B;obtain⟨b,_,rfl,_⟩:=id t;refine call_meetsIn Mt c.typeIs PySem.F.entry_dict_get (PySem.F.args_dict_get_3 _ _ _) (meetsH_dict_get_default (dZ X.prog X.w) a b W L) ⟨by show X.A.units+1+8<j5;lia,.tup g,ys,t,c,?_⟩;rcases om r (.tup g)with⟨z1,z2⟩|⟨d',p,v',z1,z2,z3,z4⟩
 rw[z2];rw[z1]at q;exact⟨_,H,I.tok _,j,e _ _ ⟨d,M,ρ,m,.refl,E,q⟩⟩;rw[z2];rw[z1]at q;exact⟨_,H,I.tok _,z4,e _ _ ⟨d',M,ρ,m,.refl,z3,q⟩⟩;exact q.elim
end
def cy(h:d7)(d:d5)(es:Array l7)(ep:Nat):Prop:=∃o,h.get? d=a7 o/\o.ExactDict/\o.data=.dict es ep
theorem cy.ty{s:f6}{d:d5}{es:Array l7}{ep:Nat}(x:cy s.heap d es ep):s.TypeIs (.ref d) "dict":=by obtain⟨o,h1,h2,_⟩:=x;exact⟨o,h1,h2.1⟩
theorem cy.lt(x:cy h d es ep):d<h.objs.size:=by obtain⟨o,h1,_⟩:=x;exact u7 h1
theorem cy.to(x:cy h d es ep)(k:∀o,h.get? d=a7 o->h'.get? d=a7 o):cy h' d es ep:=by obtain⟨o,h1,h2⟩:=x;exact⟨o,k o h1,h2⟩
theorem Ac{Q:c6->f6->Prop}(h:(d==d8)=c5)(m:cy s.heap d es ep)(b:Q (.ref s.heap.objs.size) { s with heap:=s.heap.push { cls:=.type "dict_keyiterator",data:=.fields #[.ref d,.int 0 0,.int es.size 0,.int ep 0] } }):f9 (g7 prog w) A (i9<|.ref d) Q E s:=by have n:=m.ty;obtain⟨o,h1,h2,a⟩:=m;refine Md n F.slot_dict_iter<|E8 F.slot_dict_iter n F.entry_dict_iter ?_<|F.args_dict_iter_1 _;unfold Builtin.«dict.__iter__»;refine o8 ?_;unfold Builtin.Dict.dictSlotNone;refine o8<|LC n<|p4 ?_;refine(show f9 (g7 prog w) _ (Ms d >>= _) _ _ s from ?_);unfold Ms;rw[h];refine o8<|p4<|o8<|Jz h1 a<|o8<|IL h1 a ?_;exact o8<|F8<|p4 ⟨_,rfl,"dict_keyiterator",_,⟨_,v8 _ rfl,rfl⟩,F.slot_dict_keyiterator_next.lookup,by simpa [j0]using b⟩
theorem Ab(h:s.heap.IsKeyIter it d i es.size ep)(m:cy s.heap d es ep)(hi:i<es.size)(c:∀h',h'.IsKeyIter it d (i+1) es.size ep->IH it s.heap h'->Q (a7 es[i].key) { s with heap:=h' }):f9 (g7 prog w) A (i7<|.ref it) Q E s:=by
 obtain⟨o,D,f,a⟩:=id h;obtain⟨j,k,C,l⟩:=id m;unfold i7;refine o8<|Jc<|Ih (name:=AA1 "__next__") h.typeIs F.slot_dict_keyiterator_next<|E8 F.slot_dict_keyiterator_next h.typeIs F.entry_dict_keyiterator_next ?_<|F.args_dict_keyiterator_next_1 _;refine o8<|p4<|o8<|o8 ?_
 first|refine o8 (MH h.typeIs<|p4<|o8<|IJ D a ?_)|refine o8<|MA h.typeIs<|p4<|o8<|IJ D a ?_
 rw[show LI "dict_keyiterator" = c5 by decide];refine(show f9 (g7 prog w) _ (if (ABG d==ABJ)=a9 then _ else _) _ _ s from ?_);rw[n5<|by exact Iz];refine o8<|p4<|o8<|Jz k l ?_;rw[n5<|by simp];refine o8<|p4<|o8<|IL k l ?_;rw[n5<|by simp];refine p4 ?_;dsimp only;rw[n5 (show ¬((i:Int)<0)from by lia),Jd,E5 hi];dsimp only;refine o8 ?_
 first|refine o8 (MH h.typeIs<|p4 ?_)|refine o8<|MA h.typeIs<|p4 ?_
 refine o8<|wpAny_isOneOf_keyiter h.typeIs ?_;refine(show f9 (g7 prog w) _ (setField (.ref it) 1 (j0<|(i:Int)+1) >>= _) _ _ s from o8<|IK D a (by simp) ?_);have b:(s.heap.update it (Kh (·.setIfInBounds 1 (j0<|(i:Int)+1)))).IsKeyIter it d (i+1) es.size ep:=by refine⟨_,HY _ D<|Nf<|K1 a _,(Obj.cls_mapFields ..).trans f,?_⟩;rw[K1 a];simp[j0]
 refine o8 (C9 (o8 (wpAny_isOneOf_keyiter (s:={ s with heap:=s.heap.update it (Kh (·.setIfInBounds 1 (j0<|(i:Int)+1))) }) b.typeIs ?_)));refine(show f9 (g7 prog w) _ (pure es[i].key) _ _ _ from ?_);exact p4<|p4 ⟨_,rfl,p4<|c _ b<|HV ..⟩
theorem Dk(f:A.handled=a8)(h:s.heap.IsKeyIter it d es.size es.size ep)(g:cy s.heap d es ep)(e:∀h',Heap.ExtBut it s.heap h'->Q a8 { s with heap:=h' }):f9 (g7 prog w) A (i7<|.ref it) Q E s:=by
 obtain⟨o,D,i,c⟩:=id h;obtain⟨j,k,C,l⟩:=id g;unfold i7;refine o8<|Jc<|Ih (name:=AA1 "__next__") h.typeIs F.slot_dict_keyiterator_next<|E8 F.slot_dict_keyiterator_next h.typeIs F.entry_dict_keyiterator_next ?_<|F.args_dict_keyiterator_next_1 _;refine o8<|p4<|o8<|o8 ?_
 first|refine o8 (MH h.typeIs<|p4<|o8<|IJ D c ?_)|refine o8<|MA h.typeIs<|p4<|o8<|IJ D c ?_
 rw[show LI "dict_keyiterator" = c5 by decide];refine(show f9 (g7 prog w) _ (if (ABG d==ABJ)=a9 then _ else _) _ _ s from ?_);rw[n5<|by exact Iz];refine o8<|p4<|o8<|Jz k l ?_;rw[n5<|by simp];refine o8<|p4<|o8<|IL k l ?_;rw[n5<|by simp];refine p4 ?_;dsimp only;rw[n5 (show ¬((es.size:Int)<0)from by lia),Jd,Kz<|t6 es.size];dsimp only;refine o8 ?_
 first|refine o8 (MH h.typeIs<|p4 ?_)|refine o8<|MA h.typeIs<|p4 ?_
 refine(show f9 (g7 prog w) _ (setField (.ref it) 0 .none >>= _) _ _ s from o8<|IK D c (by simp) ?_);refine(show f9 (g7 prog w) _ (newExc (.type "StopIteration") [] >>= _) _ _ _ from o8 ?_);simp only[newExc,newTuple];refine o8 (F8 ?_<|by size_fits);refine o8 (m:=l9 _ _)<|wpAny_of_eq (a:=ABJ) (by first|rfl|(simp only[l9];rfl)) ?_;refine F8 ?_ (by size_fits);simp only[raiseNew];refine o8<|wpAny_handled ?_;rw[show A.in1.handled=a8 from f];refine o8<|p4<|wpAny_throw ?_;refine o8<|JT (b:=a9) (T:="StopIteration") ⟨_,v8 _ rfl,rfl⟩ Lp ?_;exact p4<|e _<|((HV ..).extBut.push _).push _
noncomputable def Ite(a:d5)(n:Nat):It:=⟨λi H=>∃xs,H a=a7 (.ext<|dX a xs)/\xs.length=n/\i<n,λi H v H'=>H'=H/\∀xs,H a=a7 (.ext<|dX a xs)->∃x,xs[i]?=a7 x/\v=.ref x.2.1,λi H=>(∃xs,H a=a7 (.ext<|dX a xs)/\xs.length=n)/\i=n⟩
theorem fX(I:p0 X pins σ H s)(b:H a=a7 (.ext<|dX a xs)):∃es,cy s.heap a es xs.length/\es.size=xs.length/\∀(i:Nat) x,xs[i]?=a7 x->∃e,es[i]?=a7 e/\e.key=.ref x.2.1/\e.val=x.2.2:=by
 obtain⟨o,es,h1,h2,h,d⟩:=AY I b;refine⟨es,⟨o,h1,h2,h⟩,?_,λi x c=>?_⟩;have:=o6 Hy d
 rwa [C3,t7]at this
 refine⟨⟨x3 X.w 8 x.1,.ref x.2.1,x.2.2⟩,?_,rfl,rfl⟩;rw[<-E4,d,C2,c];rfl
theorem sC(x:cy h a es ep)(y:cy h a es' ep'):es=es'/\ep=ep':=by obtain⟨o,h1,_,d⟩:=x;obtain⟨o',c,_,b⟩:=y;obtain rfl:o=o':=A1<|h1.symm.trans c;rw[d]at b;injection b with e1 e2;exact⟨e1,e2⟩
theorem yq{P:c9}{w:c8}{K:q9}{tg:ge}(a it:d5)(n:Nat):Turn P w K tg (Ite a n) [it] it (λi h=>h.IsKeyIter it a i n n) where
 mem:=by simp
 obj:=λi h l b f=>by
  obtain rfl:b=it:=by simpa using f
  obtain⟨o,e,c,d⟩:=l;exact⟨o,e,λv z=>by rw[d]at z;cases z⟩
 keep:=λi h h' l k=>l.at λo e=>k it (by simp) o e
 item:=by
  intro X L M J U i p s σ H E I r l S;subst L M J;obtain⟨xs,G,rfl,hi⟩:=S;obtain⟨es,m,q,T⟩:=fX I G;obtain⟨e,N,O,e3⟩:=T i xs[i]<|u9 hi;obtain⟨x,B,f2,C,D,F⟩:=r it (by simp);have g:i<es.size:=by lia
  have R:es[i]=e:=by rw[E5 g]at N;exact A1 N
  rw[<-q]at m l;refine Ab l m g λh' j sb=>?_;rw[R,O];have Y:p0 X p σ H { s with heap:=h' }:=I.turned (t':=s.toks) (λb o f e=>(sb.2 b f).trans e) x B C D F;obtain⟨o,q1,q2,q3⟩:=id j;refine⟨_,rfl,qm (s:={ s with heap:=h' }) q1 q2 q3 (by decide) ⟨.ref xs[i].2.1,H,Y,rfl,⟨rfl,λys hy=>?_⟩,by rw[q]at j;exact j,λb f=>(r b f).1⟩⟩;obtain⟨ai,u,Z,t⟩:=fX I hy;obtain⟨rfl,ep⟩:=sC m u;have V:i<ys.length:=by lia
  obtain⟨e',W,y,_⟩:=t i ys[i]<|u9 V;rw[E5 g,R]at W;obtain rfl:=A1 W;rw[O]at y;injection y with y;exact⟨ys[i],u9 V,by rw[y]⟩
 done:=by intro X L M J U i p s σ H E I r l S;subst L M J;obtain⟨⟨xs,G,rfl⟩,rfl⟩:=S;obtain⟨es,m,q,T⟩:=fX I G;obtain⟨x,B,f2,C,D,F⟩:=r it (by simp);rw[<-q]at m l;exact Dk (I.ok.hd U) l m λh' he=>⟨rfl,I.turned (t':=s.toks) (λb o f e=>he b o f e) x B C D F⟩
 self:=λA i s Q E l hQ=>wpAny_pyIter_keyiter l hQ
def sE(t:u6):Ib:=λS M R=>t S M λd a=>match d with
 |.ref n=>∃s,a[n]?=a7 (.dkt s)/\(s.length<=sizeLine->R ⟨s.map (·.1),λM=>M[n]?=a7 (.dkt s)⟩ a)
 |_=>False
theorem Ah{l:ge}{O:u6}(Z:DE X l O):DI X tg l (sE O):=by
 intro A s σ H R I h;obtain⟨S,M,ρ,Q,sm,sr,q,k⟩:=h;refine u3 (Z A s σ H _ I ⟨S,M,ρ,_,sm,sr,q,λv H' w=>w⟩) ?_;rintro u E ⟨v,K,j,rv,d,F,J,C,g1,r1,N⟩;cases r1 with
 |@ref n a D =>
  cases rv;obtain⟨c,V,q2⟩:=(show ∃c,F[n]?=a7 (.dkt c)/\(c.length<=sizeLine->Q ⟨c.map (·.1),λM=>M[n]?=a7 (.dkt c)⟩ F)from N)
  obtain⟨xs,U,r,dd,W,hz,hx,nd⟩:=gf j C D V;obtain⟨es,T,P,_⟩:=fX j U;refine Ac W T ?_;rw[P];refine⟨E.heap.objs.size,[E.heap.objs.size],_,_,K,rfl,j.kept (t':=E.toks) λb o e=>u4 _ e,yq a _ xs.length,⟨_,v8 _ rfl,rfl,rfl⟩,λb Y=>?_,k _ K ⟨⟨c.map (·.1),λM=>M[n]?=a7 (.dkt c)⟩,F,J,C,g1,?_,q2 hz⟩⟩;obtain rfl:b=E.heap.objs.size:=by simpa using Y
  exact j.fpOk (t6 _)<|j.hok.fresh<|t6 _;refine⟨λi f L H' s' g ok hi=>?_,λi f L H' x H2 s' g ok hi y=>?_,λf L H' s' g ok=>?_⟩;obtain⟨_,_,_,ys,t,B⟩:=s'.obj _ _ _ (am g.pre D) ok;have ly:ys.length=c.length:=by have:=o6 Hy<|jw B;rwa [t7,t7]at this
  exact⟨ys,t,by lia,by rw[t7]at hi;lia⟩;obtain⟨rfl,m⟩:=y;obtain⟨_,_,_,ys,t,B⟩:=s'.obj _ _ _ (am g.pre D) ok;obtain⟨z,G,rfl⟩:=m ys t;obtain⟨p,hp,_,_,rp,_⟩:=cM B G;exact⟨p.1,f,by rw[C2,hp];rfl,s',.refl,rp⟩;obtain⟨_,_,_,ys,t,B⟩:=s'.obj _ _ _ (am g.pre D) ok;have ly:ys.length=c.length:=by have:=o6 Hy<|jw B;rwa [t7,t7]at this
  exact⟨⟨ys,t,by lia⟩,by rw[t7];lia⟩
 |_=>exact N.elim
theorem kW(a:(d==d8)=c5)(m:cy s.heap d es ep)(b:Q (.ref s.heap.objs.size) { s with heap:=s.heap.push { cls:=.type "dict_values",data:=.fields #[.ref d] } }):f9 (g7 prog w) A (call (.builtin "dict.values") [.ref d]) Q E s:=by refine call_meetsIn Nm m.ty PySem.F.entry_dict_values (PySem.F.args_dict_values_1 _) (S:=λ_ R s'=>s'=s/\R (.ok<|.ret<|.ref s.heap.objs.size) { s with heap:=s.heap.push { cls:=.type "dict_values",data:=.fields #[.ref d] } }) (.of_wp ?_) ⟨rfl,b⟩;rintro A R s' ⟨rfl,h⟩;refine o8 ?_;unfold Builtin.Dict.noArgs;refine o8<|LC m.ty<|p4 ?_;refine(show f9 (g7 prog w) _ (Ms d >>= _) _ _ s' from ?_);unfold Ms;rw[a];exact o8<|p4<|o8<|F8<|p4 ⟨_,rfl,h⟩
theorem oB(c:s.heap.IsValuesView v d)(m:cy s.heap d es ep)(b:Q (.ref s.heap.objs.size) { s with heap:=s.heap.push { cls:=.type "dict_valueiterator",data:=.fields #[.ref d,.int 0 0,.int es.size 0,.int ep 0] } }):f9 (g7 prog w) A (i9<|.ref v) Q E s:=by obtain⟨g,e,P,f⟩:=id c;obtain⟨o,h1,h2,a⟩:=m;refine Md c.typeIs F.slot_dict_values_iter<|E8 F.slot_dict_values_iter c.typeIs F.entry_dict_values_iter ?_<|F.args_dict_values_iter_1 _;unfold Builtin.«dict_values.__iter__»;refine o8<|p4<|o8 ?_;unfold Builtin.Dict_items.dictOf;refine o8<|HP e f (x:=.ref d) rfl<|p4<|o8 ?_;unfold Builtin.Dict_items.newIterator;refine o8<|Jz h1 a<|o8<|IL h1 a ?_;simp only[show LI "dict_valueiterator" = c5 by decide,z6,o4];exact F8<|p4 ⟨_,rfl,"dict_valueiterator",_,⟨_,v8 _ rfl,rfl⟩,F.slot_dict_valueiterator_next.lookup,by simpa [j0]using b⟩
theorem oA(h:s.heap.IsValIter it d i es.size ep)(m:cy s.heap d es ep)(hi:i<es.size)(c:∀h',h'.IsValIter it d (i+1) es.size ep->IH it s.heap h'->Q (a7 es[i].val) { s with heap:=h' }):f9 (g7 prog w) A (i7<|.ref it) Q E s:=by
 obtain⟨o,D,f,a⟩:=id h;obtain⟨j,k,C,l⟩:=id m;unfold i7;refine o8<|Jc<|Ih (name:=AA1 "__next__") h.typeIs F.slot_dict_valueiterator_next<|E8 F.slot_dict_valueiterator_next h.typeIs F.entry_dict_valueiterator_next ?_<|F.args_dict_valueiterator_next_1 _;refine o8<|p4<|o8<|o8 ?_
 first|refine o8 (MG h.typeIs<|p4<|o8<|IJ D a ?_)|refine o8<|Mz h.typeIs<|p4<|o8<|IJ D a ?_
 rw[show LI "dict_valueiterator" = c5 by decide];refine(show f9 (g7 prog w) _ (if (ABG d==ABJ)=a9 then _ else _) _ _ s from ?_);rw[n5<|by exact Iz];refine o8<|p4<|o8<|Jz k l ?_;rw[n5<|by simp];refine o8<|p4<|o8<|IL k l ?_;rw[n5<|by simp];refine p4 ?_;dsimp only;rw[n5 (show ¬((i:Int)<0)from by lia),Jd,E5 hi];dsimp only;refine o8 ?_
 first|refine o8 (MG h.typeIs<|p4 ?_)|refine o8<|Mz h.typeIs<|p4 ?_
 refine o8<|Na h.typeIs ?_;refine(show f9 (g7 prog w) _ (setField (.ref it) 1 (j0<|(i:Int)+1) >>= _) _ _ s from o8<|IK D a (by simp) ?_);have b:(s.heap.update it (Kh (·.setIfInBounds 1 (j0<|(i:Int)+1)))).IsValIter it d (i+1) es.size ep:=by refine⟨_,HY _ D<|Nf<|K1 a _,(Obj.cls_mapFields ..).trans f,?_⟩;rw[K1 a];simp[j0]
 refine o8 (C9 (o8 (Na (s:={ s with heap:=s.heap.update it (Kh (·.setIfInBounds 1 (j0<|(i:Int)+1))) }) b.typeIs (o8 (Na (s:={ s with heap:=s.heap.update it (Kh (·.setIfInBounds 1 (j0<|(i:Int)+1))) }) b.typeIs ?_)))));refine(show f9 (g7 prog w) _ (pure es[i].val) _ _ _ from ?_);exact p4<|p4 ⟨_,rfl,p4<|c _ b<|HV ..⟩
theorem sB(f:A.handled=a8)(h:s.heap.IsValIter it d es.size es.size ep)(g:cy s.heap d es ep)(e:∀h',Heap.ExtBut it s.heap h'->Q a8 { s with heap:=h' }):f9 (g7 prog w) A (i7<|.ref it) Q E s:=by
 obtain⟨o,D,i,c⟩:=id h;obtain⟨j,k,C,l⟩:=id g;unfold i7;refine o8<|Jc<|Ih (name:=AA1 "__next__") h.typeIs F.slot_dict_valueiterator_next<|E8 F.slot_dict_valueiterator_next h.typeIs F.entry_dict_valueiterator_next ?_<|F.args_dict_valueiterator_next_1 _;refine o8<|p4<|o8<|o8 ?_
 first|refine o8 (MG h.typeIs<|p4<|o8<|IJ D c ?_)|refine o8<|Mz h.typeIs<|p4<|o8<|IJ D c ?_
 rw[show LI "dict_valueiterator" = c5 by decide];refine(show f9 (g7 prog w) _ (if (ABG d==ABJ)=a9 then _ else _) _ _ s from ?_);rw[n5<|by exact Iz];refine o8<|p4<|o8<|Jz k l ?_;rw[n5<|by simp];refine o8<|p4<|o8<|IL k l ?_;rw[n5<|by simp];refine p4 ?_;dsimp only;rw[n5 (show ¬((es.size:Int)<0)from by lia),Jd,Kz<|t6 es.size];dsimp only;refine o8 ?_
 first|refine o8 (MG h.typeIs<|p4 ?_)|refine o8<|Mz h.typeIs<|p4 ?_
 refine(show f9 (g7 prog w) _ (setField (.ref it) 0 .none >>= _) _ _ s from o8<|IK D c (by simp) ?_);refine(show f9 (g7 prog w) _ (newExc (.type "StopIteration") [] >>= _) _ _ _ from o8 ?_);simp only[newExc,newTuple];refine o8 (F8 ?_<|by size_fits);refine o8 (m:=l9 _ _)<|wpAny_of_eq (a:=ABJ) (by first|rfl|(simp only[l9];rfl)) ?_;refine F8 ?_ (by size_fits);simp only[raiseNew];refine o8<|wpAny_handled ?_;rw[show A.in1.handled=a8 from f];refine o8<|p4<|wpAny_throw ?_;refine o8<|JT (b:=a9) (T:="StopIteration") ⟨_,v8 _ rfl,rfl⟩ Lp ?_;exact p4<|e _<|((HV ..).extBut.push _).push _
theorem ug(m:A.handled=a8)(I:d5)(j:d≠I):Walks prog w A I [I,d] [I] es.size (λi v=>∃e,es[i]?=a7 e/\v=e.val) (λi h=>h.IsValIter I d i es.size ep/\cy h d es ep) where
 sub:=λb a=>by simp at a;simp[a]
 frame:=λ_ _ _ l k=>⟨l.1.at λo e=>k I (by simp) o e,l.2.to λo e=>k d (by simp) o e⟩
 item:=λi s Q E hi l c=>oA l.1 l.2 hi λh' f u=>c _ h' s.toks ⟨es[i],by simp[hi],rfl⟩ ⟨f,l.2.to λo e=>u.extBut d o j e⟩ λb o a e=>u.extBut b o (λh=>a<|by simp[h]) e
 done:=λs Q E l c=>sB m l.1 l.2 λh' g=>c h' s.toks λb o a e=>g b o (λh=>a<|by simp[h]) e
 self:=λ_ _ _ _ l c=>wpAny_pyIter_valiter l.1 c
noncomputable def Itv(a:d5)(n:Nat):It:=⟨λi H=>∃xs x v,H a=a7 (.ext<|dX a xs)/\xs.length=n/\xs[i]?=a7 x/\aG v x.2.2,λi H v H'=>H'=H/\∀xs,H a=a7 (.ext<|dX a xs)->∃x,xs[i]?=a7 x/\aG v x.2.2,λi H=>(∃xs,H a=a7 (.ext<|dX a xs)/\xs.length=n)/\i=n⟩
theorem uE{P:c9}{w:c8}{K:q9}{tg:ge}(a it:d5)(n:Nat):Turn P w K tg (Itv a n) [it] it (λi h=>h.IsValIter it a i n n) where
 mem:=by simp
 obj:=λi h l b f=>by
  obtain rfl:b=it:=by simpa using f
  obtain⟨o,e,c,d⟩:=l;exact⟨o,e,λv z=>by rw[d]at z;cases z⟩
 keep:=λi h h' l k=>l.at λo e=>k it (by simp) o e
 item:=by
  intro X M N L U i p s σ H E I r l S;subst M N L;obtain⟨xs,x,v,J,rfl,hx,W⟩:=S;obtain⟨es,m,q,T⟩:=fX I J;obtain⟨e,t,e2,R⟩:=T i x hx;obtain⟨B,C,f2,D,F,G⟩:=r it (by simp);have g:i<es.size:=(Jf.mp t).1;have O:es[i]=e:=by rw[E5 g]at t;exact A1 t
  rw[<-q]at m l;refine oA l m g λh' j sb=>?_;rw[O,R];have I1:p0 X p σ H { s with heap:=h' }:=I.turned (t':=s.toks) (λb o f e=>(sb.2 b f).trans e) B C D F G;obtain⟨o,q1,q2,q3⟩:=id j;refine⟨_,rfl,qm (s:={ s with heap:=h' }) q1 q2 q3 (by decide) ⟨v,H,I1,W,⟨rfl,λys hy=>?_⟩,by rw[q]at j;exact j,λb f=>(r b f).1⟩⟩;obtain⟨aj,y,ai,u⟩:=fX I hy;obtain⟨rfl,ep⟩:=sC m y;have V:i<ys.length:=by lia
  obtain⟨e',Y,_,Z⟩:=u i ys[i]<|u9 V;rw[E5 g,O]at Y;obtain rfl:=A1 Y;rw[R]at Z;exact⟨ys[i],u9 V,by rw[<-Z];exact W⟩
 done:=by intro X M N L U i p s σ H E I r l S;subst M N L;obtain⟨⟨xs,J,rfl⟩,rfl⟩:=S;obtain⟨es,m,q,T⟩:=fX I J;obtain⟨B,C,f2,D,F,G⟩:=r it (by simp);rw[<-q]at m l;exact sB (I.ok.hd U) l m λh' he=>⟨rfl,I.turned (t':=s.toks) (λb o f e=>he b o f e) B C D F G⟩
 self:=λA i s Q E l hQ=>wpAny_pyIter_valiter l hQ
def sD(e:u6):Ib:=λS M R=>e S M λd a=>match d with
 |.ref n=>∃s,a[n]?=a7 (.dkt s)/\(s.length<=sizeLine->R ⟨s.map (·.2),λM=>M[n]?=a7 (.dkt s)⟩ a)
 |_=>False
theorem Ag(ho:DE X o to)(l:k8 o "values" X.env (eval o X.env)=eval o X.env:=by rfl)(m:(apos.endLine==cpos.line)=a9:=by rfl):DI X tg (.Call (.Attribute o "values" apos) [] [] cpos) (sD to):=by
 intro f s σ H R I h;obtain⟨S,M,ρ,Q,sm,sr,q,k⟩:=h;refine Nk l m<|u3 (ho f s σ H _ I ⟨S,M,ρ,_,sm,sr,q,λv H' w=>w⟩) ?_;rintro u G ⟨v,K,N,E,d,O,V,J,g1,r1,q1⟩;cases r1 with
 |@ref n a L =>
  cases E;obtain⟨c,hM,q2⟩:=(show ∃c,O[n]?=a7 (.dkt c)/\(c.length<=sizeLine->Q ⟨c.map (·.2),λM=>M[n]?=a7 (.dkt c)⟩ O)from q1)
  obtain⟨xs,hH,r,Z,W,hz,hx,nd⟩:=gf N J L hM;obtain⟨es,em,el,_⟩:=fX N hH;refine⟨"dict","dict.values",Mx,Nm,PySem.F.type_dict_values,Z.typeIs,λb z=>?_,K3 rfl<|M8<|kW W em ?_⟩;cases z;obtain⟨ob,_,_,h1,h2,_⟩:=Z;exact⟨ob,h1,h2.2.1⟩;have B:p0 X f σ K { G with heap:=G.heap.push { cls:=.type "dict_values",data:=.fields #[.ref a] } }:=N.kept (t':=G.toks) λb o e=>u4 _ e;have P:cy ({ G with heap:=G.heap.push { cls:=.type "dict_values",data:=.fields #[.ref a] } }:f6).heap a es xs.length:=em.to λo e=>u4 _ e;refine oB (d:=a) ⟨_,v8 _ rfl,rfl,rfl⟩ P ?_;rw[el];have T:∀j:f6,p0 X f σ K j->LU X f σ tg R (.ref j.heap.objs.size) { j with heap:=j.heap.push { cls:=.type "dict_valueiterator",data:=.fields #[.ref a,.int 0 0,.int xs.length 0,.int xs.length 0] } }:=λj B=>by
   refine⟨j.heap.objs.size,[j.heap.objs.size],_,_,K,rfl,B.kept (t':=j.toks) λb o e=>u4 _ e,uE a _ xs.length,⟨_,v8 _ rfl,rfl,rfl⟩,λb hb=>?_,k _ K ⟨⟨c.map (·.2),λM=>M[n]?=a7 (.dkt c)⟩,O,V,J,g1,?_,q2 hz⟩⟩;obtain rfl:b=j.heap.objs.size:=by simpa using hb
   exact B.fpOk (t6 _)<|B.hok.fresh<|t6 _;refine⟨λi t Y H' s' g ok hi=>?_,λi t Y H' x H2 s' g ok hi y=>?_,λt Y H' s' g ok=>?_⟩;obtain⟨_,_,_,ys,D,A⟩:=s'.obj _ _ _ (am g.pre L) ok;have ly:ys.length=c.length:=by have:=o6 Hy<|jw A;rwa [t7,t7]at this
   rw[t7]at hi;have hj:i<ys.length:=by lia
   obtain⟨p,_,_,_,_,v,_,E⟩:=cM A<|u9 hj;exact⟨ys,ys[i],v,D,by lia,u9 hj,E⟩;obtain⟨rfl,C⟩:=y;obtain⟨_,_,_,ys,D,A⟩:=s'.obj _ _ _ (am g.pre L) ok;obtain⟨z,U,rz⟩:=C ys D;obtain⟨p,hp,_,_,_,v,rp,E⟩:=cM A U;obtain rfl:x=v:=rz.inj E;exact⟨p.2,t,by rw[C2,hp];rfl,s',.refl,rp⟩;obtain⟨_,_,_,ys,D,A⟩:=s'.obj _ _ _ (am g.pre L) ok;have ly:ys.length=c.length:=by have:=o6 Hy<|jw A;rwa [t7,t7]at this
   exact⟨⟨ys,D,by lia⟩,by rw[t7];lia⟩
  exact T _ B
 |_=>exact q1.elim
theorem Aa:KdlSrc prog w "dict_values" r d es.size (λi v=>∃e,es[i]?=a7 e/\v=e.val) (λh=>h.IsValuesView r d/\cy h d es ep) where
 type:=λ_ m=>m.1.typeIs
 there:=λ_ m=>⟨let ⟨_,ho,_⟩:=m.1;u7 ho,m.2.lt⟩
 keep:=λ_ _ m k=>⟨let ⟨o,ho,x⟩:=m.1;⟨o,k r (.inl rfl) o ho,x⟩,m.2.to λo e=>k d (.inr rfl) o e⟩
 notList:=by decide
 notTuple:=by decide
 hint:=λ_ _ _ _ m q=>kdl_hint_values m.1.typeIs q
 iter:=λ_ _ a m=>⟨_,_,(λ_ _ q=>oB m.1 m.2 q),ug a _<|v7 m.2.lt,⟨⟨_,v8 _ rfl,rfl,rfl⟩,m.2.to λo e=>u4 _ e⟩⟩
theorem uD{K:q9}{ρ:List d5}{H:Hp}{kvs:List (D×D)}{xs:List (D×d5×c6)}(r:Paired (uu K ρ H) kvs xs):∃ws,Reps K ρ H (kvs.map (·.2)) ws/\ao ws (xs.map λx=>x.2.2):=by
 induction r with
 |nil=>exact⟨[],.nil,.nil⟩
 |cons h t i=>obtain⟨_,_,_,v,c,j⟩:=h;obtain⟨ws,h1,h2⟩:=i;exact⟨v::ws,.cons c h1,.cons j h2⟩
def gk(e:u6):u6:=λS M Q=>e S M λd a=>match d with
 |.ref n=>∃s,a[n]?=a7 (.dkt s)/\Q (.ref a.length) (a++[.lst (s.map (·.2))])
 |_=>False
theorem uj(hc:X.calm=a9)(ho:DE X o to)(hm:X.mg "list" = a8)(hg:X.env.kindOf "list" = a7 .globalImplicit)(hs:g9 [JK (.Attribute o "values" apos) [] [] cpos] X.env=[(c5,eval (JK (.Attribute o "values" apos) [] [] cpos) X.env)])(i:k8 o "values" X.env (eval o X.env)=eval o X.env) (k:(apos.endLine==cpos.line)=a9):DE X (.Call (.Name "list" p) [.Call (.Attribute o "values" apos) [] [] cpos] [] pos) (gk to):=by
 rintro g s σ H R I ⟨S,M,ρ,Q,sm,sr,q,kk⟩;refine Kw<|dS I hg hm (by rfl) ?_;refine callWith_type1 ?_ (by rw[hs];rfl) rfl;rw[hs];refine Mo<|Nk i k<|u3 (ho g s σ H _ I ⟨S,M,ρ,_,sm,sr,q,λv H' w=>w⟩) ?_;rintro u f ⟨v,C,y,rv,x,A,aj,m,g1,r1,G⟩;cases r1 with
 |@ref n a hn =>
  cases rv;obtain⟨l,hM,q2⟩:=(show ∃l,A[n]?=a7 (.dkt l)/\Q (.ref A.length) (A++[.lst (l.map (·.2))])from G)
  obtain⟨xs,Z,r,D,W,hz,hx,nd⟩:=gf y m hn hM;obtain⟨es,E,el,T⟩:=fX y Z;refine⟨"dict","dict.values",Mx,Nm,PySem.F.type_dict_values,D.typeIs,λb z=>?_,K3 rfl<|M8<|kW W E ?_⟩;cases z;obtain⟨ob,_,_,h1,h2,_⟩:=D;exact⟨ob,h1,h2.2.1⟩;refine Mh ?_;have t:p0 X g σ C { f with heap:=f.heap.push { cls:=.type "dict_values",data:=.fields #[.ref a] } }:=y.kept (t':=f.toks) λb o e=>u4 _ e;have P:cy ({ f with heap:=f.heap.push { cls:=.type "dict_values",data:=.fields #[.ref a] } }:f6).heap a es xs.length:=E.to λo e=>u4 _ e;have J:({ f with heap:=f.heap.push { cls:=.type "dict_values",data:=.fields #[.ref a] } }:f6).heap.IsValuesView f.heap.objs.size a:=⟨_,v8 _ rfl,rfl,rfl⟩
  generalize ({ f with heap:=f.heap.push { cls:=.type "dict_values",data:=.fields #[.ref a] } }:f6)=B at t P J ⊢;refine kdl_call (Aa (es:=es) (ep:=xs.length)) (t.ok.hd hc) ⟨J,P⟩ (by lia) λh' tk c U hk Y h=>?_;obtain⟨ws,K,w2⟩:=uD r;have O:c.toList=xs.map λx=>x.2.2:=by
   refine Mf λj=>?_;rw[E4,C2];cases L:xs[j]? with
   |none =>
    have:xs.length<=j:=by rw[List.getElem?_eq_none_iff]at L;exact L
    rw[Kz (by have:=h.1;lia)];rfl
   |some x =>
    have ai:=(w9.mp L).1;have d:j<c.size:=by have:=h.1;lia
    obtain⟨e,g1,V⟩:=h.2 j c[j]<|E5 d;obtain⟨e',N,_,z2⟩:=T j x L;rw[g1]at N;obtain rfl:=A1 N;rw[E5 d,V,z2];rfl
  have hf:C B.heap.objs.size=a8:=t.hok.fresh<|t6 _;refine⟨.ref B.heap.objs.size,_,t.laid (a:=B.heap.objs.size) (o:=.lst ws) (t':=tk) hk (t6 _) ⟨by rw[<-K.length,t7];exact hz,c.toList,U,by rw[O];exact w2,by simpa using Y⟩,rfl,kk _ _<|VQ.laidL m g1 K hf q2⟩
 |_=>exact G.elim
def EJ:D0:=λx y M Q=>match x,y with
 |.tup ks,.ref n=>∃s,M[n]?=a7 (.dkt s)/\cb 8 (.tup ks)=a9/\Q (.bl (aR s<|.tup ks).isSome) M
 |_,_=>False
def lI:D0:=λx y M Q=>match x,y with
 |.tup ks,.ref n=>∃s,M[n]?=a7 (.dkt s)/\cb 8 (.tup ks)=a9/\Q (.bl<|!(aR s<|.tup ks).isSome) M
 |_,_=>False
theorem Fz(i:Room k X.A):E1 X (j3 .In) EJ:=by
 rintro p s σ H J K v u R I z B ⟨x,y,M,ρ,Q,m,l,o,q,F⟩;have G:=i.un;cases x with
 |tup c =>
  cases y with
  |ref n =>
   obtain⟨d,h,j,q⟩:=q;obtain⟨a,rfl,g⟩:=p9.inv_ref o;cases B;obtain⟨xs,C,r,f,W,D,E,_⟩:=gf I m g h;have t:=eX I 8 _ _ _ l z j;obtain⟨b,_,rfl,_⟩:=id t;refine wpAny_in_heap (knd:=dZ X.prog X.w) (k:=.tup c) (by show X.A.units+1+8<j5;lia) t W f ?_;have e:(l5 xs<|.tup c).isSome=(aR d<|.tup c).isSome:=by rcases om r (.tup c)with⟨z1,z2⟩|⟨_,_,_,z1,z2,_⟩<;>rw[z1,z2]<;>rfl
   rw[e];exact dW (I.tok _) m F q
  |_=>exact q.elim
 |_=>exact q.elim
theorem wx(i:Room k X.A):E1 X (j3 .NotIn) lI:=by
 rintro p s σ H J K v u R I z B ⟨x,y,M,ρ,Q,m,l,o,q,F⟩;have G:=i.un;cases x with
 |tup c =>
  cases y with
  |ref n =>
   obtain⟨d,h,j,q⟩:=q;obtain⟨a,rfl,g⟩:=p9.inv_ref o;cases B;obtain⟨xs,C,r,f,W,D,E,_⟩:=gf I m g h;have t:=eX I 8 _ _ _ l z j;obtain⟨b,_,rfl,_⟩:=id t;refine wpAny_notIn_heap (knd:=dZ X.prog X.w) (k:=.tup c) (by show X.A.units+1+8<j5;lia) t W f ?_;have e:(l5 xs<|.tup c).isSome=(aR d<|.tup c).isSome:=by rcases om r (.tup c)with⟨z1,z2⟩|⟨_,_,_,z1,z2,_⟩<;>rw[z1,z2]<;>rfl
   rw[e];exact dW (I.tok _) m F q
  |_=>exact q.elim
 |_=>exact q.elim
def oH:p5:=λ_ _ _=>False
theorem Ad{st:h8}:DS X st oH:=λp s σ H E I ⟨S,M,ρ,F,m,e,q,k⟩=>q.elim
theorem FZ:HE X (.Dict [] [] pos) qw:=⟨Hf⟩
theorem Ga(r:Room k X.A)(D:HE X o to)(hi:HE X i ti)(hs:Eb i:=by intro _ _;kernel_rfl):HE X (.Subscript o i pos) (jD to ti):=⟨Hg r D.ok hi.ok hs⟩
theorem wT(r:Room k X.A)(D:HE X o to)(hi:HE X i ti)(c:HE X e te)(hs:i4 e (a7<|.Subscript o i pos') pos.line X.env=pure c5:=by kernel_rfl):HS X (.Assign [.Subscript o i pos'] e pos) (qv to ti te):=⟨Dq r D.ok hi.ok c.ok hs⟩
theorem CQ(i:Room k X.A)(D:HE X o to)(f:HA X (e::es) t)(h:k8 o "get" X.env (eval o X.env)=eval o X.env:=by kernel_rfl)(w:((g8 cpos<|g9 (e::es) X.env).all (λx=>!x.1)&&(k9 cpos<|l3 [] X.env).all (λx=>x.1.isSome) && decide ((e::es).length+([]:List l4).length+(if ([]:List l4).isEmpty then 0 else 1)<30))=a9:=by kernel_rfl)(a:(apos.endLine==cpos.line)=a9:=by kernel_rfl) (hs:g9 (e::es) X.env=(c5,eval e X.env)::g9 es X.env:=by kernel_rfl) (n:(g8 cpos<|g9 es X.env).any (·.1)=c5:=by kernel_rfl):HE X (.Call (.Attribute o "get" apos) (e::es) [] cpos) (J5 hW to t):=⟨d_mt Mt PySem.F.type_dict_get (zh i) D.ok f.ok h w a hs n⟩
theorem zG(h:HE X e te):HI X tg e (sE te):=⟨Ah h.ok⟩
theorem zF(D:HE X o to)(e:k8 o "values" X.env (eval o X.env)=eval o X.env:=by kernel_rfl)(a:(apos.endLine==cpos.line)=a9:=by kernel_rfl):HI X tg (.Call (.Attribute o "values" apos) [] [] cpos) (sD to):=⟨Ag D.ok e a⟩
theorem tX(D:HE X o to)(d:X.mg "list" = a8)(f:X.calm=a9:=by kernel_rfl)(S:X.env.kindOf "list" = a7 .globalImplicit:=by kernel_rfl)(hs:g9 [JK (.Attribute o "values" apos) [] [] cpos] X.env=[(c5,eval (JK (.Attribute o "values" apos) [] [] cpos) X.env)]:=by kernel_rfl)(e:k8 o "values" X.env (eval o X.env)=eval o X.env:=by kernel_rfl) (a:(apos.endLine==cpos.line)=a9:=by kernel_rfl):HE X (.Call (.Name "list" p) [.Call (.Attribute o "values" apos) [] [] cpos] [] pos) (gk to):=⟨uj f D.ok d S hs e a⟩
theorem Gs(i:Room k X.A):E6 X (j3 .In) EJ:=⟨Fz i⟩
theorem xm(i:Room k X.A):E6 X (j3 .NotIn) lI:=⟨wx i⟩
theorem sd{X:Cx}{st:h8}:HS X st oH:=⟨Ad⟩
theorem ss{K:q9}{ρ:List d5}{H:Hp}:∀{ns:List Int}{ws:List V}{its:List c6},Reps K ρ H (ns.map D.int) ws->ao ws its->IntsAre its ns
 | [],_,_,r,v=>by cases r;cases v;exact .nil
 |n::ns,_,_,r,v=>by
  rw[A5]at r
  first|have hzz:=Reps.inv_cons r|have hzz:=ao.inv_cons r
  clear r;obtain⟨_,_,rfl,h,t⟩:=hzz;cases h;cases v with
  |cons q q'=>obtain⟨tk,rfl⟩:=q;exact .cons _ _<|ss t q'
def vN:C1:=λds M Q=>match ds with
 | [.ref n]=>∃ns:List Int,ak M n (ns.map D.int)/\ns≠[]/\∀m,m∈ns->(∀a∈ns,a<=m)->Q (.int m) M
 |_=>False
theorem DC(B:X.calm=a9):jX X (.builtin "max") vN:=by
 rintro v s σ H vs us R I P ⟨ds,M,ρ,Q,x,g,q,F⟩;unfold vN at q;split at q;obtain⟨ns,L,d,q⟩:=q
 first|have f:=Reps.inv_cons g|have f:=ao.inv_cons g
 clear g;obtain⟨_,_,rfl,K,g⟩:=f;cases g;obtain⟨u,rfl,y⟩:=ao.one P;obtain⟨a,rfl,e⟩:=p9.inv_ref K;cases y;obtain⟨Z,E,r⟩:=ak.seq x L e;obtain⟨its,O,w,W⟩:=I.list E;obtain⟨m,n,V⟩:=I.loc;obtain⟨J,Y,c,C,j,h⟩:=id w;have k:a≠X.env.locals:=λz=>by subst z;obtain⟨o,es,T,e,D,_⟩:=n;rw[c]at e;cases e;rw[D]at h;cases h
 have p:∀b o,b≠X.env.locals->s.heap.get? b=a7 o->(b,o)∈[]++(a,J)::Att.ledger s.heap X.env.locals a:=λb o h1 h2=>by rw[IN,u8,Att.mem_ledger];by_cases l:b=a;subst l;rw[c]at h2;cases h2;exact .inl rfl;exact .inr ⟨h1,l,h2⟩
 refine max_list_N (I.ok.hd B) (Att.fr_all n) (Att.news_ledger k c) w.isList (ss r O) (List.length_pos_iff.mpr d) λh' i t S U N h1 h2=>?_;have G:∀b u,b≠X.env.locals->s.heap.get? b=a7 u->h'.get? b=a7 u:=λb u A e=>(N (b,u)<|p b u A e).1;exact⟨.int i,H,I.keptF (t':=S) G n U.ns,⟨t,rfl⟩,F _ _ ⟨.int i,M,ρ,x,.refl,.int i,q i h1 h2⟩⟩;exact q.elim
theorem Ho:e8 "max" = a7 (.builtin "max"):=by decide +kernel
theorem Df(f:X.calm=a9:=by kernel_rfl):HC X (.builtin "max") vN:=⟨DC f⟩
end L2
namespace L2
open PySem PySem.Spec PyProof.Rows DL PySem.W PySem.Calls PyProof.V
structure PairsAt(es:Array l7)(lo:d5)(h:d7)(as:List d5):Prop where
 nd:as.Nodup
 above:∀a∈as,lo<a
 tup:∀(j:Nat) (a:d5),as[j]?=a7 a->∃e,es[j]?=a7 e/\h.get? a=a7 { cls:=.type "tuple",data:=.seq #[e.key,e.val] }
end L2
namespace L2
open PySem PySem.Spec PyProof.Rows DL PySem.W
def DY:D0:=λx y M Q=>match x,y with
 |.int i,.int j=>CPow i j/\Q (.int<|i*2 ^ j.toNat) M
 |_,_=>False
theorem Fu:E1 X (j2 .LShift) DY:=by refine A9.imp Fi ?_;rintro g l H R ⟨x,y,M,ρ,Q,s,r,m,q,k⟩;unfold DY at q;split at q;cases r;cases m;exact⟨_,_,rfl,rfl,q.1,k _ H<|VQ.now s (.int _) q.2⟩;exact q.elim
theorem Gn:E6 X (j2 .LShift) DY:=⟨Fu⟩
theorem ua(i:Room k X.A):HC X (.builtin "sorted") iX:=⟨xP i⟩
theorem oz:entryFor table "dict.update.loop" = a7 Builtin.«dict.update.loop»:=entryFor_of_tree<|by kernel_rfl
theorem fP:plainId "dict.update.loop" = a9:=by decide +kernel
structure DD(X:Cx)(ρ:List d5)(H:Hp)(h:d7)(a:d5)(kvs:List (D×D))(xs:List (D×d5×c6)):Prop where
 dx:dX a xs X.prog X.w h
 kv:Paired (uu X.K ρ H) kvs xs
 nd:(kvs.map (·.1)).Nodup
noncomputable abbrev EE(M:p8)(R:DK):DEnds:=⟨λ_ M'=>bt M R .non M',bt M R,λ_ _=>False,λ_ _=>False⟩
noncomputable def Nv(n:Nat)(ds:List D):SD:=ds.map a7++Lq (n-ds.length) a8
abbrev A3(Pr:x5)(n:Nat)(t:p5):Prop:=∀ds M R,Pr ds M R->t (EE M R) (Nv n ds) M
abbrev cI(Pr:x5)(p:List c7):Prop:=∀ds M R,Pr ds M R->ds.length=p.length
abbrev DerT(P:c9)(w:c8)(K:q9)(mg:c7->Option c6)(base:d7)(k:Nat)(x:c7)(N:List c7)(st:h8)(t:p5):Prop:=∀(f:d5) (cdv:c6) (A:e9) (outer:List Env) (s:f6) (H:Hp) (E:XK),Room k (A.deeper<|PyProof.Rows.envOfC x (ah st) s.heap.objs.size f cdv)->HB (oK D3 P w K mg base N x (ah st) f cdv A outer s H E).nox (bo st) t
def kY(c:E2)(t:p5):p5:=λE S M=>∃W:Nat->SD->p8->Prop,(∃m,W m S M)/\∀m S M,W m S M ->c S M λb e=>if b=a9 then t ⟨λd a=>∃g,g < m/\W g d a,E.rt,E.nx,λd a=>∃g,g < m/\W g d a⟩ S e else E.nx S e
theorem tM{K:q9}{c:E2}{l:p5}(E:Ends)(σ:St)(H:Hp)(h:lowS K (kY c l) E σ H):AG (lowT K c) (lowS K l) E σ H:=by
 obtain⟨S,M,ρ,F,s,D,⟨W,⟨B,G⟩,t⟩,k⟩:=h;refine⟨λm τ i=>∃S2 e d,t5 K d e i/\Grow K ρ H d i/\SRep K d i S2 τ/\W m S2 e,⟨B,S,M,ρ,s,.refl,D,G⟩,?_⟩;rintro m τ i ⟨S2,e,d,C,y,r,I⟩;refine⟨S2,e,d,_,C,r,t m S2 e I,?_⟩;rintro b o ⟨j,N,p,g3,q⟩;have g:=y.trans g3;cases b with
 |true =>
  have n:∀a Y,SQ K N o (λw u=>∃f,f < m/\W f w u) a Y->∃f,f < m/\∃S2 e d,t5 K d e Y/\Grow K ρ H d Y/\SRep K d Y S2 a/\W f S2 e:=λa Y ⟨x,Z,O,s5,A,L,f,lt,J⟩=>⟨f,lt,x,Z,O,s5,g.trans A,L,J⟩
  refine bP ⟨_,λP H' z=>z,S2,j,N,_,p,r.grow g3,(show l _ S2 j from q),?_⟩;exact⟨n,λv Y z=>k.rt v Y<|VQ.trans g z,λa Y z=>k.nx a Y<|SQ.trans g z,n⟩
 |false=>exact bz<|k.nx τ o ⟨S2,j,N,p,g,r.grow g3,(show F.nx S2 j from q)⟩
theorem rZ(f:HT X c tc)(d:HB X body tb)(p:PassesOwn (g7 X.prog X.w) X.A X.env X.xe:=by exact PassesOwn.never):HS X (.While c body [] pos) (kY tc tb):=⟨PS.imp (yP p f.ok d.ok) tM⟩
theorem lA:typeLookup (.type "tuple") "keys" = pure a8:=by rw[typeLookup_type,Nc];kernel_rfl
section
variable{prog:c9}{w:c8}{A:e9}{E:c6->f6->Prop}{h:d7}{g:Array GenState}{d:Drawn}{t:Nat}{os:OsState}{a:d5}{o:d6}
theorem yr(x:h.get? a=a7 o)(f:o.cls=.type "tuple")(j:o.dict=a8)(b:o.data=.seq its nn)(c:A.handled=a8)(q:∀h' tk e,Heap.NewAttrErr h h' e (.ref a) "keys"->R (.error<|.ref e) ⟨h',g,d,tk,os⟩):j7 (g7 prog w) A (.call (.builtin "tuple.__getattribute__") ⟨[.ref a,.str "keys" u],[]⟩) R ⟨h,g,d,t,os⟩:=by
 obtain⟨oc,i,B,G⟩:=o;obtain rfl:oc=.type "tuple":=f;obtain rfl:i=a8:=j;obtain rfl:B=.seq its nn:=b;have n:(⟨h,g,d,t,os⟩:f6).TypeIs (.ref a) "tuple":=⟨_,x,rfl⟩
 have y:=lA;refine codeAny_call_builtin MI.plain PySem.F.entry_tuple_ga<|MI.check _ _ _ _ _ _ _ _ n (PySem.F.args_tuple_getattribute_2 _ _) ?_;unfold Builtin.«object.__getattribute__»
 repeat (any_goals (first|assumption|wp_step))
 refine wpAny_raiseAttrError (o:=.ref a) (name:="keys") (by first|exact c|simpa using c) q ?_;exact attrMsg_fits (by decide +kernel)<|by size_fits
theorem sW(x:h.get? a=a7 o)(k:o.cls=.type "tuple")(j:o.dict=a8)(c:o.data=.seq its nn)(i:A.handled=a8)(q:∀h' tk,(∀b ob,h.get? b=a7 ob->h'.get? b=a7 ob)->Q a8 ⟨h',g,d,tk,os⟩):f9 (g7 prog w) A (getAttr? (.ref a) "keys") Q E ⟨h,g,d,t,os⟩:=by
 obtain⟨oc,l,B,G⟩:=o;obtain rfl:oc=.type "tuple":=k;obtain rfl:l=a8:=j;obtain rfl:B=.seq its nn:=c;have n:∀tk,(⟨h,g,d,tk,os⟩:f6).TypeIs (.ref a) "tuple":=λ_=>⟨_,x,rfl⟩
 have r:=sub_AttributeError;have N:=MI.lookup;have m:=MI.bind<|.ref a;have p:=PySem.am_tuple_getattr_none;unfold getAttr? getAttrBy? getAttrBy
 repeat (any_goals (first|assumption|exact n _|wp_step))
 refine yr x rfl rfl rfl (by first|exact i|simpa using i) λh' tk e f=>?_;obtain⟨t',F,s⟩:=f.there;unfold getattributeRaised
 repeat (any_goals (first|assumption|wp_step))
 exact q _ _ f.keeps
end
theorem p0.tupN(I:p0 X pins σ H s)(h:x9 X.K H a xs):∃its:List c6,ao xs its/\Av s.heap a its.toArray/\xs.length<=sizeLine:=by
 rcases h with h|⟨o,its,n,k,f,d,hs,b,r⟩
 obtain⟨z,its,r,p⟩:=h.ok I.hok;exact⟨its,r,p,z⟩;refine⟨its.toList,r,⟨o,I.kIn a o k,f,⟨n,by simpa using hs⟩,d⟩,?_⟩;have e:=r.length;simp only[C3]at e;lia
inductive TopB(mg:c7->Option c6):List c7->List (c7×Int)->Prop
 |nil:TopB mg [] []
 |b {x:c7}{B:List c7}{C:List (c7×Int)} (h:mg x=a8) (t:TopB mg B C):TopB mg (x::B) C
 |c {x:c7}{i:Int}{C:List (c7×Int)} (h:∃t,mg x=a7 (.int i t)) (t:TopB mg [] C):TopB mg [] ((x,i)::C)
theorem TopB.no(h:TopB mg B C)(c:B.contains x=a9):mg x=a8:=by
 induction h with
 |nil=>simp at c
 |b h _ i=>simp only[List.contains_cons,L8,o0]at c;rcases c with rfl|c;exact h;exact i c
 |c _ _ _=>simp at c
noncomputable def nodB:List c7->Bool
 | []=>a9
 |x::xs=>!xs.contains x&&nodB xs
theorem FB:∀{l:List c7},nodB l=a9->l.Nodup
 | [],_=>KQ
 |x::xs,h=>by simp only[nodB,C5,Bool.not_eq_true',List.contains_eq_mem,decide_eq_false_iff_not]at h;exact HR.mpr ⟨h.1,FB h.2⟩
noncomputable def tgN:ge->List c7
 |.Name x _=>[x]
 |.Tuple es _ _=>es.filterMap fun|.Name x _=>a7 x|_=>a8
 |_=>[]
noncomputable abbrev JG(N:List c7)(js:List Nat)(tg:ge):List c7:=tgN tg++js.map λj=>N.getD j ""
theorem k_lcN(hi:HI X tg iter di)(S:∀cl s0 H0 ex,HG (x6 X (JG X.N js tg) scope cl s0 H0 ex) tg g)(E:∀cl s0 H0 ex,KG (x6 X (JG X.N js tg) scope cl s0 H0 ex) ifs tt)(i:∀cl s0 H0 ex,HE (x6 X (JG X.N js tg) scope cl s0 H0 ex) elt te)(B:lc X.env.scope.names X.N (JG X.N js tg) nt js scope=a9:=by kernel_rfl) (f:X.calm=a9:=by kernel_rfl) (hs:∀x,j1 iter X.env x=pure x:=by intro _;kernel_rfl):HE X (.ListComp elt [⟨tg,iter,ifs,0⟩] scope pos) (H9 nt js di g tt te):=k_lc hi S E i B f hs
theorem oo(a:X.N.Nodup)(hi:HI X tg iter di)(S:∀cl s0 H0 ex,HG (x6 X (JG X.N js tg) scope cl s0 H0 ex) tg g)(E:∀cl s0 H0 ex,KG (x6 X (JG X.N js tg) scope cl s0 H0 ex) ifs tt)(e:∀cl s0 H0 ex,HE (x6 X (JG X.N js tg) scope cl s0 H0 ex) elt te)(B:lc X.env.scope.names X.N (JG X.N js tg) nt js scope=a9:=by kernel_rfl) (f:X.calm=a9:=by kernel_rfl) (hs:∀x,j1 iter X.env x=pure x:=by intro _;kernel_rfl) (w:i4 (.ListComp elt [⟨tg,iter,ifs,0⟩] scope pos) (a7<|.Name x pos') pos2.line X.env=pure a9:=by kernel_rfl)(h:X.N[i]?=a7 x:=by kernel_rfl) (c:DZ X.env.scope x=a9:=by kernel_rfl) (b:X.fn x=a9:=by kernel_rfl):HS X (.Assign [.Name x pos'] (.ListComp elt [⟨tg,iter,ifs,0⟩] scope pos) pos2) (kZ nt js di g tt te i):=zC a hi S E e B f hs w h c b
theorem gA(h:HA X es t):HA X es t:=h
theorem gE(h:HE X e te):HE X e te:=h
theorem gCall(h:HE X (.Call a b c pos) te):HE X (.Call a b c pos) te:=h
theorem gIx(h:HE X (.Subscript a b pos) te):HE X (.Subscript a b pos) te:=h
theorem GA(h:HE X (.Constant a b pos) te):HE X (.Constant a b pos) te:=h
theorem gT(h:HT X e tt):HT X e tt:=h
theorem gS{st:h8}{t:p5}(h:HS X st t):HS X st t:=h
theorem gOp(h:E6 X f r):E6 X f r:=h
theorem gC(h:HC X f r):HC X f r:=h
theorem xr{b:List h8}{st:h8}{s:List h8}{t:p5}(h:b=st::s)(q:HB X (st::s) t):HB X b t:=h ▸ q
section
variable{P:c9}{w:c8}{K:q9}{mg:c7->Option c6}{base:d7}{x:c7}{st:h8}{N ps:List c7}{k:Nat}{Pr:x5}{B:List c7}{C:List (c7×Int)}{t:p5}
theorem t9.byD(T:TopB mg B C)(F:cx K mg x st ps)(c:FnScope N ps (ah st))(n:cI Pr ps)(r:TopB mg B C->N.Nodup->DerT P w K mg base k x N st t)(p:∀ds M R,Pr ds M R->t (EE M R) (bJ N ds) M):t9 P w K mg base (k+1) x ps Pr:=t9.byH F c n (r T c.nd) p
theorem zW(T:TopB mg B C)(F:IF K x x st f fd)(c:FnScope N ps (ah st))(n:cI Pr ps)(r:TopB mg B C->N.Nodup->DerT P w K mg base k x N st t)(p:∀ds M R,Pr ds M R->t (EE M R) (bJ N ds) M):FnOk P w K mg base D3 (k+1) f fd ps (IU K Pr):=zV F c n (r T c.nd) p
end
theorem qy(D:s.heap.get? l=a7 o)(f:o.cls=.type "list"\/o.cls=.type "tuple")(d:o.data=.seq vs.toArray n)(h:Q vs { s with heap:=(s.heap.push<|l8 "list" #[] 0).update s.heap.objs.size (D8 (· ++ vs.toArray)) }) (z:vs.length<=sizeLine):f9 (g7 prog w) A (collect<|.ref l) Q E s:=by
 rcases f with f|f;exact collect_list ⟨o,D,f,n,d⟩ h z;unfold collect;refine o8<|wpAny_runValue<|IM entry_proto_collect' ?_;show f9 _ _ (do again (.builtin "list.__iadd__" ⟨[<-newList [],.ref l],[]⟩)) _ _ s;refine o8<|Kj (p4 ⟨Code.quiet_builtin _ (by decide +kernel),IM entry_list_iadd' ?_⟩)<|v9 _;show f9 _ _ (MF (.ref s.heap.objs.size) (.ref l)<|.ref s.heap.objs.size) _ _ { s with heap:=s.heap.push (l8 "list" #[] 0) };unfold MF;have a:(s.heap.push<|l8 "list" #[] 0).get? l=a7 o:=u4 _ D;refine o8<|Jt (T:="tuple") ⟨o,a,f⟩ ?_;have t:(Js "tuple" == Js "tuple")=a9:=by rfl
 rw[m9<|by rw[t];simp];refine o8<|KN a d ?_;refine o8<|KN (xs:=#[]) (n:=0) (v8 _ rfl) rfl ?_;rw[n5<|by simp];refine o8 (Ki (xs:=#[]) (n:=0) (v8 _ rfl) rfl ?_ (v9 _)<|by show (#[]++vs.toArray).size<=sizeLine+1;simp only[Array.size_append,v6,G4];lia);refine p4 ?_;show f9 (g7 prog w) A (do
   let o <-load s.heap.objs.size
   match o.data with
   |.seq xs _=>pure xs.toList
   |_=>unsupported "internal:collect") Q E { s with heap:=(s.heap.push<|l8 "list" #[] 0).update s.heap.objs.size (D8 (· ++ vs.toArray)) }
 refine o8<|wpAny_load (Km (v8 _ rfl) _) ?_;show f9 _ _ (pure ((#[]:Array c6)++vs.toArray).toList) Q E _;rw[show ((#[]:Array c6)++vs.toArray).toList=vs by simp];exact p4 h
theorem Bx(hl:ks.length=vs.length)(h2:vs.length<2)(h:KatFin h₀ L m kS a ks e e1 vs (λs3=>P (.done<|.ret .none) s3) s):f9 (g7 prog w) A (ksk_end a c5 vs.toArray e1 (.ref kS)<|Ix ks) P E s:=by
 have M:vs.toArray.size<2:=by rw[v6];exact h2
 unfold ksk_end;dsimp only;simp only[z6,o4];rw[m9 M,m9 M];refine o8<|p4 ?_;rw[StateT.run_pure];refine o8<|p4 ?_;dsimp only;refine kat_tail (out:=vs) ?_ (by lia) (by lia) rfl h;show ((Ix ks).zip vs.toArray).map (·.2)=vs.toArray
 match ks,vs,hl,h2 with
 | [],[],_,_=>simp
 | [k],[v],_,_=>simp
 | [],_::_,hl,_=>simp at hl
 |_::_,[],hl,_=>simp at hl
 |_::_::_,[_],hl,_=>simp at hl
 |_,_::_::_,_,h2=>simp at h2;lia
theorem Bv{f:c6}{t:Nat}{P:PySem.Fin->f6->Prop}{Fin:List c6->Nat->f6->Prop}(p:s.heap.get? kS=a7 (l8 "list" #[] 0))(o:vs.length<64)(d:∀ks e s',ks.length=vs.length->Fin ks e s'->f9 (g7 prog w) A (ksk_end a c5 vs.toArray t (.ref kS)<|Ix ks) P E s') (h:KatKeys prog w A h₀ L m kS f Fin vs [] 0 s):f9 (g7 prog w) A (ksk_rest a f c5 vs.toArray t<|.ref kS) P E s:=by
 unfold ksk_rest;refine o8<|G7 ?_
 first
  |rw[List.forIn_toArray]
  |(rw[<-JY];simp only[List.toList_toArray])
  |rw[<-JY]
 refine o8<|D4 (kat_fold o (λx ks e s' C M H=>?_) vs [] 0 s (by simp) p h) (λ_ s' D=>?_) λ_ _ x=>x;refine o8<|Jc<|D4 H (λk i p=>?_) λ_ _ B=>B.elim;obtain⟨r,g,F,N,U,c⟩:=p;obtain⟨I,u,y,S,J,K⟩:=U.split;rw[y]at N;have n:=N (kS,l8 "list" (Ix ks) e)<|A8 _<|.head _;have v:=HV i.heap kS (D8 (·.push k));have z:(Ix ks).push k=Ix (ks++[k]):=by simp
 obtain⟨j,b⟩:∃j,(i.heap.update kS (D8 (·.push k))).get? kS=a7 (l8 "list" (Ix<|ks++[k]) j):=⟨_,by rw[<-z];exact Km n.1 (·.push k)⟩
 try dsimp only
 refine o8 (Ki n.1 rfl ?_ (by rw[v6,Ip];lia)<|F6 (Nat.le_of_eq<|Array.size_push ..)<|by rw[v6,Ip];lia);exact p4 ⟨rfl,k,j,b,c _ j (kas_fr F v n.2.1 n.2.2)<|by rw[S];exact news_set N J K v b⟩;obtain⟨ks,e,q,G,l⟩:=D
 try dsimp only
 exact o8<|KN q rfl<|d ks e s' G l
structure Kb(X:Cx)(pins:List (d5×d6))(H:Hp)(a:d5):Prop where
 un:H a=a8
 ne:a≠X.env.locals
 fs:a∉X.fs
 s0:X.s₀.heap.objs.size<=a
 cl:∀x c,X.env.cells.lookup x=a7 c->c≠a
 pn:∀p∈X.pn++pins,p.1≠a
theorem p0.own(I:p0 X pins σ H s)(h:s.heap.objs.size<=a):Kb X pins H a:=⟨I.hok.fresh h,λe=>by rw[e]at h;exact n6 (D6 I.lt h)<|D5 _,I.nofs h,F6 I.sz h,λx c e z=>by obtain⟨v,o,D,_⟩:=I.cell x c e;rw[z]at D;exact n6 (D6 (u7 D) h)<|D5 _,λp b e=>by have:=u7 (I.pin p b).1;rw[e]at this;exact n6 (D6 this h)<|D5 _⟩
theorem p0.turnF(I:p0 X pins σ H s)(w:Kb X pins H a)(k:∀b u,b≠X.env.locals->b≠a->s.heap.get? b=a7 u->h'.get? b=a7 u)(j:s.heap.Ns X.env.locals m)(h:h'.Ns X.env.locals m):p0 X pins σ H { s with heap:=h' }:=by
 have g:∀b u,H b=a7 u->b≠a:=λb u e=>ac e w.un;refine I.step (g':=s.gens) (d':=s.drawn) (t':=s.toks) (ch:=[a]) (λb d=>?_) (λb u L _ f e _=>k b u L (by simpa using f) e) (λb u L _ f e _=>⟨u.slots,k b u L (by simpa using f) e⟩) (λb u _ e n=>n) (λb u f e=>?_) (λb xs q=>q) (λb u xs q=>q) (λb ps q=>⟨#[],by rw[q];simp⟩) (λl i=>?_) (λb u q=>?_) I.bare;obtain rfl:b=a:=by simpa using d
 exact⟨.inr w.s0,w.ne,w.cl,w.pn⟩;by_cases d:b=X.env.locals;subst d;obtain⟨o',_,_,D,_⟩:=h;exact⟨o',D⟩;exact⟨u,k b u d (by simpa using f) e⟩;have:m=l:=funext λx=>j.agree i x;subst this;exact h;refine(I.hok b u q).stay (λc v f r=>k c v ?_ ?_ r) (λc z=>z) λc xs z=>z;rcases f with rfl|f;exact ac q I.free;exact ac f I.free;rcases f with rfl|f;exact g _ _ q;exact g _ _ f
theorem p0.adoptF(I:p0 X pins σ H s)(w:Kb X pins H a)(k:∀b u,b≠X.env.locals->b≠a->s.heap.get? b=a7 u->h'.get? b=a7 u)(l:s.heap.Ns X.env.locals m)(g:h'.Ns X.env.locals m)(i:bD X.prog X.w (t8 H a o) h' a o):p0 X pins σ (t8 H a o) { s with heap:=h' }:=by
 have d:=w.un;refine I.step (g':=s.gens) (d':=s.drawn) (t':=s.toks) (ch:=[a]) (λb h=>?_) (λb u L _ f e _=>k b u L (by simpa using f) e) (λb u L _ f e _=>⟨u.slots,k b u L (by simpa using f) e⟩) (λb u f e n=>by rw[af<|by simpa using f];exact n) (λb u f e=>?_) (λb xs q=>by rw[af<|ac q d];exact q) (λb u xs q=>by rw[af<|ac q d];exact q) (λb ps q=>⟨#[],by rw[af<|ac q d,q];simp⟩) (λp j=>?_) (λb u q=>?_) I.bare;obtain rfl:b=a:=by simpa using h
 exact⟨.inr w.s0,w.ne,w.cl,w.pn⟩;by_cases h:b=X.env.locals;subst h;obtain⟨o',_,_,D,_⟩:=g;exact⟨o',D⟩;exact⟨u,k b u h (by simpa using f) e⟩;have:m=p:=funext λx=>l.agree j x;subst this;exact g;by_cases h:b=a;subst h;rw[aB]at q;cases q;exact i;rw[af h]at q;refine(I.hok b u q).stay (λc v f r=>k c v ?_ ?_ r) (λc z=>by rw[af<|ac z d];exact z) λc xs z=>by rw[af<|ac z d];exact z
 rcases f with rfl|f;exact ac q I.free;exact ac f I.free;rcases f with rfl|f;exact ac q d;exact ac f d
structure KySt(X:Cx)(pins:List (d5×d6))(σ:St)(ρ:List d5)(M:p8)(m:c7->Option c6)(kS aD:d5)(e1:Nat)(H0 H:Hp)(s:f6)(ks:List c6)(e:Nat):Prop where
 inv:p0 X pins σ H s
 ns:s.heap.Ns X.env.locals m
 sm:t5 X.K ρ M H
 gr:Grow X.K ρ H0 ρ H
 hk:s.heap.get? kS=a7 (l8 "list" (Ix ks) e)
 hd:s.heap.get? aD=a7 (l8 "list" #[] e1)
 ok:Kb X pins H kS
 od:Kb X pins H aD
 ne:aD≠kS
theorem Dh(n:h.Ns L m):Fr (Att.noObjs h0) L h m:=⟨n,λb o e=>(by rw[Att.noObjs_get]at e;cases e),v9 _⟩
theorem pQ(b:d≠L)(D:h.get? d=a7 od):News (Att.noObjs h0) L h ((d,od)::Att.ledger h L d):=by rintro⟨a,o⟩ p;rcases u8.mp p with e|p;cases e;exact⟨D,b,Att.noObjs_get _ _⟩;obtain⟨n,c,e⟩:=Att.mem_ledger.mp p;exact⟨e,n,Att.noObjs_get _ _⟩
theorem jp(N:News (Att.noObjs h0) L h' ((d,o)::Att.ledger h L d)):∀b u,b≠L->b≠d->h.get? b=a7 u->h'.get? b=a7 u:=λb u h1 h2 e=>(N (b,u)<|w6 _<|Att.mem_ledger.mpr ⟨h1,h2,e⟩).1
abbrev KeyG(X:Cx)(pins:List (d5×d6))(σ:St)(ρ:List d5)(M:p8)(f:d5)(key:D->D)(xs:List D):Prop:=∀(s:f6) (H:Hp) (d:D) (v:V) (u:c6),d∈xs->p0 X pins σ H s->t5 X.K ρ M H->p9 X.K ρ H d v->aG v u ->j7 (g7 X.prog X.w) X.A.in1.in1 (.call (.ref f) ⟨[u],[]⟩) (CR D3 X.stack X.prog X.w H s (λv' H'=>VQ X.K ρ H (λx M'=>x=key d/\M'=M) v' H') E0) s
theorem Bw{f:d5}{l:D->D}{xs:List D}(G:KeyG X pins σ ρ M f l xs){h0:d7}{m:c7->Option c6}{j S:d5}{N:Nat}{H0:Hp}{Fin:List c6->Nat->f6->Prop}{F:List D} (P:∀H s kvs ks e,KySt X pins σ ρ M m S j N H0 H s ks e->Reps X.K ρ H F kvs->ao kvs ks->Fin ks e s):∀(r:List D) (ws:List V) (its:List c6) (done:List D) (kvs:List V) (ks:List c6) (e:Nat) (H:Hp) (s:f6),KySt X pins σ ρ M m S j N H0 H s ks e->Reps X.K ρ H r ws->ao ws its->Reps X.K ρ H done kvs->ao kvs ks ->done++r.map l=F->(∀d∈r,d∈xs)->KatKeys X.prog X.w X.A.in1.in1 (Att.noObjs h0) X.env.locals m S (.ref f) Fin its ks e s:=by
 intro r;induction r with
 |nil=>intro ws its done kvs ks e H s g r v Y vd R _;obtain rfl:=Reps.inv_nil r;obtain rfl:=ao.inv_nil v;refine KatKeys.nil<|P H s kvs ks e g ?_ vd;rw[<-R,Lm,Ir];exact Y
 |cons d r ih =>
  intro ws its done kvs ks e H s g rr v Y vd R hP;obtain⟨ai,ws,rfl,r1,rr⟩:=Reps.inv_cons rr;obtain⟨u,its,rfl,ru,v⟩:=ao.inv_cons v;have I:=g.inv;refine KatKeys.cons<|wpAny_call<|Kg (G s H d ai u (hP d z0) I g.sm r1 ru) λZ s' n=>?_;cases Z with
  |error e=>exact n.elim
  |ok fl =>
   cases fl with
   |next=>exact n.elim
   |brk=>exact n.elim
   |cont=>exact n.elim
   |ret u' =>
    obtain⟨v',H',os,k,un,T,rv,q⟩:=n;obtain⟨E,Q,L,tk,U⟩:=s';obtain rfl:U=s.os:=os;obtain⟨_,_,aj,s1,g1,W,rfl,rfl⟩:=q;have O:aj=ρ:=by obtain⟨t,rfl⟩:=g1.pre;have h1:=s1.len;have h2:=g.sm.len;rw[v4]at h1;rw[List.eq_nil_of_length_eq_zero (show t.length=0 by lia),Ir]
    subst O;have J:p0 X ((S,l8 "list" (Ix ks) e)::(j,l8 "list" #[] N)::pins) σ H s:=I.pins_of λp a=>by rcases u8.mp a with rfl|a;exact⟨g.hk,g.ok.un,g.ok.ne,g.ok.fs,λ_ z=>nomatch z⟩;rcases u8.mp a with rfl|a;exact⟨g.hd,g.od.un,g.od.ne,g.od.fs,λ_ z=>nomatch z⟩;exact I.pin p<|A8 _ a
    have C:=J.call (h':=E) (g':=Q) (d':=L) (t':=tk) (ch:=[]) un T k (λb z=>n6 z<|by simp);have pk:=C.pin (S,_)<|A8 _ z0;have pd:=C.pin (j,_)<|A8 _<|w6 _ z0;have I':p0 X pins σ H' ⟨E,Q,L,tk,s.os⟩:=C.pins_of λp a=>C.pin p<|A8 _<|w6 _<|w6 _ a;have y:E.Ns X.env.locals m:=by obtain⟨o,es,ep,ho,aE⟩:=g.ns;obtain⟨sl,hL⟩:=un.any ho I.free (by simp);exact⟨_,es,ep,hL,aE⟩
    have i:Kb X pins H' S:=⟨pk.2.1,g.ok.ne,g.ok.fs,g.ok.s0,g.ok.cl,g.ok.pn⟩
    have B:Kb X pins H' j:=⟨pd.2.1,g.od.ne,g.od.fs,g.od.s0,g.od.cl,g.od.pn⟩
    refine KatBack.intro (s:=⟨E,Q,L,tk,s.os⟩) (Dh y) (pQ i.ne pk.1) (UpdF.head λp a=>(Att.mem_ledger.mp a).2.1) λh2 c F2 N2=>?_;have kp:=jp N2;refine ih ws its (done++[l d]) (kvs++[v']) (ks++[u']) c H' _ ⟨I'.turnF i kp y F2.ns,F2.ns,s1,⟨g.gr.pre,λx xs h=>g1.tup x xs<|g.gr.tup x xs h⟩,(N2 _ z0).1,kp j _ B.ne g.ne pd.1,i,B,g.ne⟩ (rr.grow g1) v ((Y.grow g1).append<|.cons W .nil) (vd.append<|.cons rv .nil) (by rw[<-R,A5,Hs];rfl) λx hx=>hP x<|w6 _ hx
theorem rS{k n:Nat}{f l:d5}{o:d6}{s:f6}{H:Hp}{xs:List D}{ws:List V}{its:List c6}{y:D->D}{R:VK}(G:KeyG X pins σ ρ M f y xs)(hr:Room (k+2) X.A)(I:p0 X pins σ H s) (sm:t5 X.K ρ M H) (r:Reps X.K ρ H xs ws) (rr:ao ws its) (ho:s.heap.get? l=a7 o) (hc:o.cls=.type "list"\/o.cls=.type "tuple") (hd:o.data=.seq its.toArray n) (aj:its.length<64) (so:SrtG M (xs.map y)) (kk:∀v H',(∀Q:DK,(∀ys,ys.Perm xs->ys.Pairwise (λa b=>z7 M p7 (y b) (y a)=c5)->Q (.ref M.length) (M++[.lst ys]))->VQ X.K ρ H Q v H')->R v H'):f9 (g7 X.prog X.w) X.A (call (.builtin "sorted") [.ref l] [(AA1 "key",.ref f)]) (EP X pins σ R) X.xe s:=by
 have lw:=r.length;have li:=rr.length;have u:its.length<=sizeLine:=by rw[Ip];lia
 refine call_function_entry_kw kind_sorted plain_sorted entry_sorted (ksk_s1 _ _) ?_;unfold Builtin.«sorted»;refine o8 (m:=checkCount "sorted" 1 1 _)<|p4<|o8<|qy ho hc hd (o8<|Kj ?_ u) u;generalize hg:((s.heap.push<|l8 "list" #[] 0).update s.heap.objs.size (D8 (· ++ its.toArray)))=g1;have P:g1.objs.size=s.heap.objs.size+1:=by rw[<-hg,Heap.size_update,size_push']
 have k1:∀b o,s.heap.get? b=a7 o->g1.get? b=a7 o:=λb o q=>by have an:=u7 q;rw[<-hg,Kx _ _ _ _<|v7 an,Heap.get?_push_ne _ _ _<|v7 an];exact q
 show f9 _ _ _ _ _ { s with heap:=g1.push (l8 "list" its.toArray 0) };have O:(g1.push<|l8 "list" its.toArray 0).get? g1.objs.size=a7 (l8 "list" its.toArray 0):=v8 _ rfl;refine o8<|C9<|wpAny_call_entry_kw slot_list_sort (⟨_,O,rfl⟩) entry_list_sort ?body<|ksk_l1 _ _
 case body =>
  show f9 (g7 X.prog X.w) X.A.in1.in1 (Builtin.«list.sort» ⟨[.ref g1.objs.size],[(AA1 "key",.ref f)]⟩) _ _ _;rw[ksk_t1];unfold ksk_tree;refine o8<|KN O rfl<|o8<|Ki O rfl ?_ (by rw[v6];exact u)<|v9 _;obtain⟨Z,N⟩:∃Z,((g1.push<|l8 "list" its.toArray 0).update g1.objs.size<|D8 λ_=>(#[]:Array c6)).get? g1.objs.size=a7 (l8 "list" #[] Z):=⟨_,Km O λ_=>#[]⟩
  refine o8<|seqEpoch_at N rfl<|o8<|wpAny_newTuple (o8<|Kj (C9 ?_)<|v9 _) u;have k2:∀b o,s.heap.get? b=a7 o->((g1.push<|l8 "list" its.toArray 0).update g1.objs.size<|D8 λ_=>(#[]:Array c6)).get? b=a7 o:=λb o q=>by rw[Kx _ _ _ _<|v7<|by rw[P];exact JX<|u7 q];exact u4 _<|k1 b o q
  have t:((g1.push<|l8 "list" its.toArray 0).update g1.objs.size<|D8 λ_=>(#[]:Array c6)).objs.size=g1.objs.size+1:=by rw[Heap.size_update,size_push']
  generalize ((g1.push<|l8 "list" its.toArray 0).update g1.objs.size<|D8 λ_=>(#[]:Array c6))=S at N k2 t ⊢;dsimp only;have k3:∀b o,S.get? b=a7 o->((S.push<|l8 "tuple" its.toArray 0).push<|l8 "list" #[] 0).get? b=a7 o:=λb o q=>u4 _<|u4 _ q;have J:((S.push<|l8 "tuple" its.toArray 0).push<|l8 "list" #[] 0).get? (S.push<|l8 "tuple" its.toArray 0).objs.size=a7 (l8 "list" #[] 0):=v8 _ rfl;have E:(S.push<|l8 "tuple" its.toArray 0).objs.size=S.objs.size+1:=size_push' _ _;generalize (S.push<|l8 "tuple" its.toArray 0).objs.size=kS at J E ⊢;generalize ((S.push<|l8 "tuple" its.toArray 0).push<|l8 "list" #[] 0)=g3 at J k3 ⊢;generalize g1.objs.size=W at N P t ⊢;obtain⟨m,hn,_⟩:=I.loc;have st:KySt X pins σ ρ M m kS W Z H H { s with heap:=g3 } [] 0:=⟨I.kept (t':=s.toks) λb o q=>k3 b o<|k2 b o q,(by obtain⟨o',es,ep,aP,aE⟩:=hn;exact⟨o',es,ep,k3 _ _<|k2 _ _ aP,aE⟩),sm,.refl,J,k3 _ _ N,I.own (by rw[E,t,P];exact KY _ 3),I.own (by rw[P];exact KY _ 1),by rw[E,t];exact v7<|Nat.lt_add_of_pos_right (by decide:0<2)⟩
  have aS:Room k X.A.in1.in1:=(Room.in1 (k:=k+1) hr).in1;refine Bv (h₀:=Att.noObjs s.heap) (L:=X.env.locals) (m:=m) (Fin:=λU e s'=>∃H' F,KySt X pins σ ρ M m kS W Z H H' s' U e/\Reps X.K ρ H' (xs.map y) F/\ao F U) J aj (λU e s' hl ⟨H',F,g,rk,vk⟩=>?_)<|Bw G (λH' s' F U e g r v=>⟨H',F,g,r,v⟩) xs ws its [] [] [] 0 H _ st r rr .nil .nil rfl λ_ q=>q;have ai:∀ys zs out,Reps X.K ρ H' ys zs->ao zs out->ys.Perm xs->ys.Pairwise (λa b=>z7 M p7 (y b) (y a)=c5)->KatFin (Att.noObjs s.heap) X.env.locals m kS W U e Z out (λs4=>EP X pins σ R (.ref W) s4) s':=λys zs out ry vy hp hw=>by refine KatFin.intro (Dh g.ns) (pQ g.ok.ne g.hk) (UpdF.head λp hp=>(Att.mem_ledger.mp hp).2.1) λh2 c F2 N2=>?_;have kp:=jp N2;refine KasFin.intro (s:={ s' with heap:=h2 }) (Dh F2.ns) (pQ g.od.ne<|kp W _ g.od.ne g.ne g.hd) (UpdF.head λp hp=>(Att.mem_ledger.mp hp).2.1) λh3 c3 F3 N3=>?_;refine⟨.ref W,_,(g.inv.turnF g.ok kp g.ns F2.ns).adoptF (o:=.lst zs) g.od (jp N3) F2.ns F3.ns ⟨?_,out,c3,vy,(N3 _ z0).1⟩,rfl,kk _ _ λQ hQ=>VQ.laidL g.sm g.gr ry g.od.un<|hQ ys hp hw⟩;rw[<-ry.length,hp.length_eq,lw,li];exact u
  by_cases h2:its.length<2;refine Bx (hl) h2<|(ai xs ws its (r.grow g.gr) rr (JQ _) ?_).mono λs4 hq=>⟨_,rfl,p4 ⟨_,rfl,hq⟩⟩
  match xs,(show xs.length<2 by lia) with
  | [],_=>exact KZ
  | [x],_=>exact LF _ _
  |_::_::_,hx=>simp at hx;lia
  have as:2<=its.length:=by lia
  refine kat_end (b:=c5) (h₀:=Att.noObjs s.heap) (L:=X.env.locals) (m:=m) (e:=e) hl as aj ?_;have hu:X.A.in1.in1.units+p7<j5:=by have:=hr.un;have:p7=30:=rfl;show X.A.units+1+1+p7<j5;lia
  have kl:U.length=xs.length:=by lia
  refine D4 (iT g.inv g.sm so rk vk (by lia) hu) (λκ aT hk=>?_) λ_ _ x=>x;obtain⟨rfl,al⟩:=hk;show (I0 its.length).kasWp (IZ X.prog X.w X.A.in1.in1 κ U) (λp s3=>KatFin (Att.noObjs s.heap) X.env.locals m kS W U e Z (p.toList.map λi=>its.getD i ABJ) _ s3) _;have T:∀i,i<xs.length->(xs.map y).getD i default=y (xs.getD i default):=λi hi=>by rw[HM,HM,C2,u9 hi];rfl
  refine Srt.wp_run (n:=its.length) (c:=λi j=>if i<xs.length then(if j<xs.length then z7 M p7 (y<|xs.getD i default) (y<|xs.getD j default)else a9)else c5) (λi j C hi hj hc=>?_) _ (Srt.sort_bd<|by lia).1 ?_;refine al i j C (by lia) (by lia) ?_;rw[m9 (by lia),m9<|by lia]at hc;unfold ltc;rw[T i (by lia),T j<|by lia];exact hc;have z:=Srt.All.run (c:=λi j=>if i<xs.length then(if j<xs.length then z7 M p7 (y<|xs.getD i default) (y<|xs.getD j default)else a9)else c5) _ (Srt.sort_bd (n:=its.length)<|by lia).2;obtain⟨o1,o2,o3⟩:=Cb so;have Y:∀x∈xs,y x∈xs.map y:=λx hx=>HL hx;have B:=Srt.sort_list (lt:=λa b=>z7 M p7 (y a)<|y b) xs (by lia) (λa ha=>o1 _<|Y a ha) (λa ha b hb d hd=>o2 _ (Y a ha) _ (Y b hb) _<|Y d hd)<|λa ha b hb d hd=>o3 _ (Y a ha) _ (Y b hb) _<|Y d hd
  try dsimp only at B
  rw[show xs.length=its.length by lia]at B z ⊢;generalize Srt.run _ (I0 its.length)=p at z B ⊢;have hi:∀i∈p.toList,i<xs.length:=λi h=>by have:=z.mem_iff.mp h;rw[G8]at this;lia
  exact(ai _ _ _ ((r.grow g.gr).perm p.toList hi) (rr.perm p.toList λi h=>by have:=hi i h;lia) B.1 B.2).mono λs4 hq=>⟨_,rfl,p4 ⟨_,rfl,hq⟩⟩
structure BlkScC(X:Cx)(N':List c7)(nt:Nat)(js:List Nat)(scope:f7):Prop where
 kind:scope.kind=.function
 kinds:∀y∈scope.names,scope.names.lookup y.1=a7 y.2
 free:∀y∈scope.names,y.2=.free->(X.env.kindOf y.1=a7 .cell\/X.env.kindOf y.1=a7 .free)
 len:N'.length=nt+js.length
 fr:∀(k j:Nat),js[k]?=a7 j->∃x,N'[nt+k]?=a7 x/\X.N[j]?=a7 x/\scope.names.lookup x=a7 .free/\(X.env.kindOf x=a7 .cell\/X.env.kindOf x=a7 .free)
structure CfOk(h:d7)(k:Nat)(names:List (c7×j8))(acc cs:List (c7×d5)):Prop where
 look:∀z c,cs.lookup z=a7 c->(acc.lookup z=a7 c/\(z,JO)∉names)\/((z,JO)∈names/\k<=c/\h.IsCell c a8)
 inj:∀y z c,cs.lookup y=a7 c->cs.lookup z=a7 c->y=z
 old:∀z c,acc.lookup z=a7 c->∃c',cs.lookup z=a7 c'
 new:∀z,(z,JO)∈names->∃c,cs.lookup z=a7 c
def Dx(i:Nat):HD:=ar i
noncomputable def fj(ps:List (c7×D)):List (c7×D):=ps.foldl (λs p=>vP s p.1 p.2) []
theorem kX:fj (ps++[p])=vP (fj ps) p.1 p.2:=by unfold fj;rw[List.foldl_append];rfl
theorem oG(ps:List (c7×D)):(fj ps).length<=ps.length:=by
 have:∀(ps acc:List (c7×D)),(ps.foldl (λkvs p=>vP kvs p.1 p.2) acc).length<=acc.length+ps.length:=by
  intro ps;induction ps with
  |nil=>intro acc;exact t6 _
  |cons p ps i=>intro acc;have h1:=i<|vP acc p.1 p.2;have h2:=yN (kvs:=acc) (k:=p.1) (d:=p.2);rw[List.foldl_cons,A0];lia
 have h:=this ps [];rw[G4]at h;unfold fj;lia
def KJ(X:Cx)(ρ:List d5)(H:Hp)(h:d7)(a:d5)(kvs:List (c7×D)):Prop:=∃s us,Reps X.K ρ H (kvs.map (·.2)) s/\KV (jI (kvs.map (·.1)) s) us/\h.DictOf (bM X.prog X.w) a us
theorem KJ.at(x:KJ X ρ H h a kvs)(k:∀o,h.get? a=a7 o->h'.get? a=a7 o):KJ X ρ H h' a kvs:=by obtain⟨s,us,r,l,o,es,i,t,aE⟩:=x;exact⟨s,us,r,l,o,es,i,k _ t,aE⟩
theorem AO{X:Cx}{H:Hp}{ρ:List d5}{kvs:List (c7×D)}{s:List V}{us:List (B8×c6)}(r:Reps X.K ρ H (kvs.map (·.2)) s)(l:KV (jI (kvs.map (·.1)) s) us):us.length=kvs.length/\(jI (kvs.map (·.1)) s).length=kvs.length:=by
 have t:=r.length;have m:=l.length;rw[t7]at t;have R:(jI (kvs.map (·.1)) s).length=kvs.length:=by rw[jI,t7,List.length_zip,t7];lia
 lia
theorem Dr{X:Cx}{pins:List (d5×d6)}{σ:St}{H:Hp}{ρ:List d5}{A:e9}{s:f6}(I:p0 X pins σ H s)(hu:A.units+20<j5)(W:Walks X.prog X.w A.in1 J fp wr m P Sx)(S:d5)(l:S∉fp)(L:s.heap.get? S=a8) (B:∀b∈wr,s.heap.get? b=a8) (ps:List (c7×D)) (hm:ps.length=m) (y:∀i v,P i v->∃p:c7×D,ps[i]?=a7 p/\∃vv,p9 X.K ρ H (.tup [.str p.1,p.2]) vv/\aG vv v) (T:m<=1000):∀(k i:Nat) (h:d7) (tk:Nat) (j:Int) (t:Tok),m-i=k->i<=m->Sx i h->KJ X ρ H h S (fj<|ps.take i)->(∀b u,s.heap.get? b=a7 u->h.get? b=a7 u) ->(∀h' tk,(∀b u,s.heap.get? b=a7 u->h'.get? b=a7 u)->KJ X ρ H h' S (fj ps)->R (.ok<|.ret .none) { s with heap:=h',toks:=tk }) ->j7 (g7 X.prog X.w) A (.builtin "dict.update.loop" ⟨[.ref S,.ref J,.int j t,.none],[]⟩) R { s with heap:=h,toks:=tk }:=by
 have n:S∉wr:=λh=>l<|W.sub _ h;intro k;induction k with
 |zero =>
  intro i h tk j t hk hi g F c Z;obtain rfl:i=m:=by lia
  refine IM oz ?_;rw[JD fP _];refine(show f9 (g7 X.prog X.w) A.in1 (i7 (.ref J) >>= _) _ _ _ from o8<|W.done _ _ _ g λh' tk d=>?_);rw[<-hm,Jm]at F;refine(show f9 (g7 X.prog X.w) A.in1 (Builtin.Dict.addKeywords S [] >>= _) _ _ _ from o8<|p4<|p4 ?_);exact Z h' tk (λb u e=>d b u (λz=>by rw[B b z]at e;cases e)<|c b u e)<|F.at λo e=>d S o n e
 |succ k ih =>
  intro i h tk j t hk hi g F c Z;refine IM oz ?_;rw[JD fP _];refine(show f9 (g7 X.prog X.w) A.in1 (i7 (.ref J) >>= _) _ _ _ from o8<|W.item i _ _ _ (by lia) g λv h' tk hP q d=>?_);obtain⟨p,hp,vv,r,rv⟩:=y i v hP;have f:∀b u,s.heap.get? b=a7 u->h'.get? b=a7 u:=λb u e=>d b u (λz=>by rw[B b z]at e;cases e)<|c b u e;have I':p0 X pins σ H { s with heap:=h',toks:=tk }:=I.kept f;obtain⟨ws,us,Y,C,dd⟩:=F.at λo e=>d S o n e;have hl:=(AO Y C).1;have dl:=oG<|ps.take i;rw[HU]at dl;obtain⟨a,vs,rfl,hq,E⟩:=p9.inv_tup r;obtain rfl:v=ABG a:=rv;obtain⟨_,_,rfl,r1,E⟩:=Reps.inv_cons E;obtain⟨_,vd,rfl,r2,E⟩:=Reps.inv_cons E;obtain rfl:=Reps.inv_nil E;obtain rfl:=p9.inv_str r1;obtain⟨its,N,pl,hz⟩:=I'.tuple hq;obtain⟨u1,u2,rfl,e1,e2⟩:=ao.two N;obtain⟨x,d0⟩:=p;obtain⟨o,U,hc,nn,hd⟩:=pl;have hT:({ s with heap:=h',toks:=tk }:f6).TypeIs (.ref a) "tuple":=⟨o,U,hc⟩
  refine o8<|C9<|o8<|wpAny_tryCatch ?_;unfold Builtin.Dict.pairItems;refine o8<|Jt hT ?_;rw[m9<|by decide];refine o8<|Ig U hd<|p4 ?_;refine(show f9 (g7 X.prog X.w) _ (i3 [u1,u2]<|dictSet S u1 u2) _ _ _ from C9 ?_);refine wpAny_dictSet_pairs (s:={ s with heap:=h',toks:=tk }) (CU (k:=ACQ x) e1) dd (λh2 G sb=>?_) (av<|by lia);have V:∀b u,b≠S->h'.get? b=a7 u->h2.get? b=a7 u:=λb u T e=>(sb.2 b T).trans e;obtain⟨Q,f1,O⟩:=BF (k:=x) r2 Y;have et:ps.take (i+1)=ps.take i++[(x,d0)]:=by rw[JV,hp];rfl
  refine p4 ⟨Jw fP _,ih (i+1) h2 _ _ _ (by lia) (by lia) (W.frame _ h' h2 q λb' M o e=>V b' o (λz=>l<|z ▸ M) e) ?_ (λb u e=>V b u (λz=>by rw[z,L]at e;cases e)<|f b u e) Z⟩;rw[et,kX];exact⟨Q,_,O,by rw[<-f1];exact C.put (ACQ x) e2,G⟩
theorem Ar(I:p0 X pins σ H s)(hu:A.units+30<j5)(B:A.handled=a8)(C:s.heap.IsTuple l its)(g:s.heap.get? l=a7 ol)(j:ol.dict=a8)(ps:List (c7×D))(U:ps.length=its.size)(y:∀(i:Nat) v,its[i]?=a7 v->∃p:c7×D,ps[i]?=a7 p/\∃vv,p9 X.K ρ H (.tup [.str p.1,p.2]) vv/\aG vv v) (P:its.size<=1000)(h:∀h' tk,(∀b u,s.heap.get? b=a7 u->h'.get? b=a7 u)->KJ X ρ H h' s.heap.objs.size (fj ps)->Q (.ref s.heap.objs.size) { s with heap:=h',toks:=tk }):f9 (g7 X.prog X.w) A (call (.type "dict") [.ref l]) Q E s:=by
 refine callType_codes (Q₁:=λf s₁=>f=.ref s.heap.objs.size/\s₁={ s with heap:=s.heap.push { cls:=.type "dict",data:=.dict #[] } }) PySem.F.kt_called_dict (PySem.F.kt_typeCall_dict_1 _) PySem.F.entry_dict_init (kt_code_dict_new _ ⟨rfl,rfl⟩) ?_;rintro f s₁ ⟨rfl,rfl⟩;have S:(s.heap.push { cls:=.type "dict",data:=.dict #[] }).get? s.heap.objs.size=a7 { cls:=.type "dict",data:=.dict #[] }:=v8 _ rfl;have z:Lo { s with heap:=s.heap.push { cls:=.type "dict",data:=.dict #[] } } (.ref s.heap.objs.size) "dict":=⟨_,S,rfl⟩
 obtain⟨a,O,r,nn,n⟩:=id C;obtain rfl:a=ol:=A1<|O.symm.trans g;have c:(s.heap.push { cls:=.type "dict",data:=.dict #[] }).get? l=a7 a:=u4 _ g;have L:Lo { s with heap:=s.heap.push { cls:=.type "dict",data:=.dict #[] } } (.ref l) "tuple":=⟨a,c,r⟩
 have Y:l<s.heap.objs.size:=u7 g;refine⟨z,PySem.F.args_dict_init_2 _ _,?_⟩;unfold Builtin.«dict.__init__»;refine o8 ?_;unfold Builtin.Dict.selfAndRest;refine o8<|LC z ?_;refine(show f9 _ _ (pure (s.heap.objs.size,[ABG l])) _ _ _ from p4 ?_);refine(show f9 _ _ (Builtin.Dict.updateFrom "dict.__init__" s.heap.objs.size (.ref l) [] .none) _ _ _ from ?_);unfold Builtin.Dict.updateFrom;refine o8<|Jt L ?_;rw[m9<|by decide];refine o8<|sW c r j n (by simpa using B) λh1 x J=>?_;have k:∀b u,s.heap.get? b=a7 u->h1.get? b=a7 u:=λb u e=>J b u<|u4 _ e;rw[m9<|show (a8:Option c6).isNone=a9 from rfl];refine o8<|G7 ?_;obtain⟨oI,St,t,W,Z⟩:=(TxSrc.tuple (prog:=X.prog) (w:=X.w) C).iter A.in1.in1 { s with heap:=h1,toks:=x } (by simpa using B) λo e=>k _ _ e;refine o8<|t _ _ ?_;have d:=J _ _ S;have M:s.heap.objs.size<h1.objs.size:=u7 d;have G:s.heap.get? s.heap.objs.size=a8:=by
  cases q:s.heap.get? s.heap.objs.size with
  |none=>rfl
  |some o=>exact n6 (u7 q)<|D5 _
 refine p4 ⟨Jw fP _,Dr (A:=A.in1) (s:=s) I (by show A.units+1+20<j5;lia) W s.heap.objs.size ?_ G ?_ ps U y P its.size 0 _ _ _ _ rfl (v9 _) Z ⟨[],[],.nil,.nil,_,#[],_,u4 _ d,⟨rfl,rfl,rfl⟩,rfl,(λ_ R=>by simp at R),Pairs.nil,KQ⟩ (λb u e=>u4 _<|k b u e) λh2 T V N=>⟨rfl,h h2 T V N⟩⟩;simp only[u8,Iy,or_false,not_or];exact⟨v7 M,Ln Y⟩;intro b m;rw[HK.mp m];cases q:s.heap.get? h1.objs.size with
 |none=>rfl
 |some o=>exact n6 (Nat.lt_trans (u7 q) M)<|D5 _
def rV:C1:=λds M Q=>match ds with
 | [.tup xs]=>∃ps:List (c7×D),xs=ps.map (λp=>.tup [.str p.1,p.2])/\ps.length<=1000/\Q (.ref M.length) (M++[.dct<|fj ps])
 |_=>False
theorem Aq(J:Room k X.A)(D:X.calm=a9):jX X (.type "dict") rV:=by rintro n s σ H vs us R I S ⟨ds,M,ρ,Q,B,b,q,N⟩;have un:=J.un;unfold rV at q;split at q;obtain⟨ps,L,Z,q⟩:=q;have z:=Reps.inv_cons b;clear b;obtain⟨_,_,rfl,g,b⟩:=z;obtain rfl:=Reps.inv_nil b;obtain⟨u,rfl,t⟩:=ao.one S;subst L;obtain⟨a,ws,rfl,G,r⟩:=p9.inv_tup g;cases t;obtain⟨its,y,x,hz⟩:=I.tupN G;obtain⟨oa,e,E,⟨nn,h⟩,j⟩:=id x;have P:=r.length;have li:=y.length;rw[t7]at P;have f:H s.heap.objs.size=a8:=I.hok.fresh<|t6 _;have C:(s.heap.objs.size==d8)=c5:=beq_eq_false_iff_ne.mpr<|v5<|v7 I.big;refine Ar (A:=X.A) (ρ:=ρ) I (by lia) (I.ok.hd D) x.tup e j ps (by rw[v6];lia) (λi v K=>?_) (by rw[v6];lia) λh' T O c=>?_;obtain⟨d,W,t,g,m⟩:=pp r y (i:=i) (u:=v) (by simpa using K);rw[C2]at t;obtain⟨p,F,rfl⟩:=J1.mp t;exact⟨p,F,W,g,m⟩;obtain⟨w,V,U,l,c⟩:=c;have Y:=oG ps;have ln:=(AO U l).2;refine⟨.ref s.heap.objs.size,_,I.laid (a:=s.heap.objs.size) (o:=.dK (jI ((fj ps).map (·.1)) w)) (t':=T) O (t6 _)<|GV (av<|by lia) C l c,rfl,?_⟩;exact N _ _ ⟨.ref M.length,M++[.dct<|fj ps],ρ++[s.heap.objs.size],B.laidM (mo:=.dct<|fj ps) f ⟨w,aB,U.grow<|Grow.laidR f⟩,Grow.laidR f,.ref B.last,q⟩;exact q.elim
theorem zU(i:Room k X.A)(f:X.calm=a9:=by kernel_rfl):HC X (.type "dict") rV:=⟨Aq i f⟩
def BMain(mg:c7->Option c6)(base:d7):Prop:=∃m o,mg "__builtins__" = a7 (.ref m)/\m≠builtinsNs/\m≠d9/\base.get? m=a7 o/\o.cls=.type "module"/\o.dict=a7 builtinsNs/\o.data=.plain
def Self(X:Cx)(x:c7):Prop:=∃(f:d5) (oc:c6) (j:Option d5) (d:j6) (m:Array (Option c6)),X.mg x=a7 (.ref f)/\X.K.lookup f=a7 ⟨oc,j,.func d,m⟩/\X.env.code=d.code
theorem Self.code(S:Self X x)(I:p0 X pins σ H s)(h:tabIn X.K x=a7 (c,P)):X.env.code=.ref c:=by obtain⟨f,oc,j,g,l,h1,h2,a⟩:=S;unfold tabIn at h;split at h;rename_i e d;have t:=mg_of I.mod.kin I.mod.glob d;rw[h1]at t;cases t;split at h;rename_i m;rw[h2]at m;cases m;split at h;rename_i U b;split at h;split at h;cases h;rw[a,b];cases h;cases h;cases h;cases h;cases h
theorem x9.writtenB{K:q9}{H:Hp}(b:H p=a7 (.tbl ps))(h:x9 K H a xs):x9 K (t8 H p o) a xs:=by
 have G:∀u,H a=a7 u->(∀q,u≠.tbl q)->a≠p:=λu e q z=>by rw[z,b]at e;exact q ps (A1 e).symm
 rcases h with h|h;rcases h with h|⟨c,h⟩
 exact .inl (.inl<|by rw[af<|G _ h λ_ z=>by cases z];exact h);exact .inl<|.inr ⟨c,by rw[af<|G _ h λ_ z=>by cases z];exact h⟩;exact .inr h
theorem t5.writeB{K:q9}{ρ:List d5}{M:p8}{H:Hp}(S:t5 K ρ M H)(t:ρ[n]?=a7 a)(s:M[n]?=a7 (.tb x b))(p:H a=a7 (.tbl ps)):t5 K ρ (M.set n<|.tb x a9) (t8 H a<|.tbl ps')/\Grow K ρ H ρ (t8 H a<|.tbl ps'):=by
 have g:Grow K ρ H ρ (t8 H a<|.tbl ps'):=⟨Kn,λ_ _ h=>x9.writtenB p h⟩
 have k:∀m,m≠n->(M.set n<|.tb x a9)[m]?=M[m]?:=λm e=>IT<|v5 e;have c:¬HZ M[n]?:=λ⟨_,z⟩=>by rw[s]at z;cases z
 refine⟨⟨λm j b f r N=>?_,by rw[G9];exact S.len,λm d o r N=>?_⟩,g⟩;have q:=S.nd m j b f r N;by_cases h1:m=n;subst h1;rw[k j<|v5 f];exact .inr<|q.resolve_left c;rw[k m h1];by_cases h2:j=n;subst h2;exact .inl<|q.resolve_right c;rw[k j h2];exact q;by_cases e:m=n;subst e;have i:d=a:=A1<|r.symm.trans t;subst i;rw[IA<|by rw[<-S.len];exact(w9.mp t).1]at N;cases N;exact⟨(S.obj m d _ t s).1,ps',aB,λz=>by cases z⟩;rw[k m e]at N;by_cases i:d=a;subst i;have l:=(S.nd m n d e r t).resolve_right c;rw[N]at l;exact(S.obj m d o r N).grow g<|.inr l;exact(S.obj m d o r N).grow g<|.inl<|af i
theorem Cz{P:c9}{w:c8}{K:q9}{mg:c7->Option c6}{base:d7}{A:e9}{a:List Env}{s:f6}{H:Hp}{k:Nat}{f U:d5}{B l:c7}{p:Arguments}{c:ge}{scope:f7}{C h:c6}{N ps:List c7}{te:u6}{ρ:List d5}{M:p8}{d:D}{v:V}{u:c6}{R:DK} (j:Env0 P w K mg base A a s H) (X:s.heap.get? f=a7 (kla_obj B l p c scope [] C U h)) (m:s.heap.CodeRec (.ref U) l) (S:FnScope N ps scope) (t:Room (k+1) A)(Q:BindsTo s (kla_fn B l p c scope [] C (.ref U) h) ⟨[u],[]⟩ (ps.zip [u])) (W:1=ps.length) (i:∀E,Room k (A.deeper<|j9 l scope s.heap.objs.size f<|.ref U)->DE (oK D3 P w K mg base N l scope f (.ref U) A a s H E).nox c te)(L:t5 K ρ M H) (r:p9 K ρ H d v) (ru:aG v u) (Y:te (bJ N [d]) M (bt M R)):j7 (g7 P w) A (.call (.ref f) ⟨[u],[]⟩) (CR D3 a P w H s (λv' H'=>VQ K ρ H R v' H') E0) s:=by
 have F:s.heap.NoLimit:=j.mod.nolimit.keeps λb o e=>(j.bs b o e).1;have g:∀y∈ps.zip [u],scope.names.lookup y.1=a7 .local\/(scope.names.lookup y.1=a7 .cell/\((cellsFrom (s.heap.objs.size+1) scope.names []).lookup y.1).isSome=a9):=λ⟨n,v⟩ Z=>by rcases S.par n (Mb Z).1 with q|q;exact .inl q;exact .inr ⟨q,Ni _ _ _<|.inl q⟩
 refine kla_callFunE t.depth X rfl S.co S.gen rfl m<|Q _ _ _ _ ?_;refine wpAny_newFunctionEnv_cells S.kind g λenv T G x=>?_;subst T;refine⟨F.keeps x.toInCall.keep,kla_codeExpr ?_⟩;have I:p0 (oK D3 P w K mg base N l scope f (.ref U) A a s H E0) [] (start N [v]) H G:=ou S t.hd j W (.cons ru .nil) x;have O:=PE.nox<|i E0<|t.deeper _;refine D4 (O [] G (start N [v]) H (λv' H'=>VQ K ρ H (bt M R) v' H') I ⟨bJ N [d],M,ρ,_,L,SRep.start (.cons r .nil) N,Y,λ_ _ z=>z⟩) (λu' s' hs=>?_) λe s' hs=>hs;obtain⟨v',H',J,rv,q⟩:=hs;exact⟨v',H',J.os,J.bare,J.base,J.hok,rv,VQ.endq L q⟩
theorem p0.writeB(I:p0 X pins σ H s)(h:H P=a7 (.tbl ps))(k:∀b u,b≠P->s.heap.get? b=a7 u->h'.get? b=a7 u)(C:h'.get? P=a7 (tabObj<|ps++more)):p0 X pins σ (t8 H P<|.tbl<|ps++more) { s with heap:=h',toks:=t' }:=by
 have R:∀b,H b=a8->b≠P:=λb n z=>by rw[z,h]at n;cases n
 have G:∀b u,H b=a7 u->(∀q,u≠.tbl q)->b≠P:=λb u e q z=>by rw[z,h]at e;exact q ps (A1 e).symm
 refine I.un ⟨λb u q n _ _=>k b u (R b n) q,λb u q n _ _=>⟨u.slots,k b u (R b n) q⟩,λb u q n _=>by rw[af<|R b n];exact n,λb u q _=>?_,λb xs q=>by rw[af<|G b _ q λ_ z=>by cases z];exact q,λb u xs q=>by rw[af<|G b _ q λ_ z=>by cases z];exact q,λb qs q=>?_⟩ λb u q=>?_;by_cases d:b=P;subst d;exact⟨_,C⟩;exact⟨u,k b u d q⟩;by_cases d:b=P;subst d;rw[h]at q;cases q;exact⟨more,aB⟩;exact⟨#[],by rw[af d,q];simp⟩;by_cases d:b=P;subst d;rw[aB]at q;cases q;exact C;rw[af d]at q;refine(I.hok b u q).stay (λc v f r=>k c v ?_ r) (λc r=>by rw[af<|G c _ r λ_ z=>by cases z];exact r) λc xs r=>by rw[af<|G c _ r λ_ z=>by cases z];exact r
 rcases f with rfl|f;exact d;exact G c _ f λ_ z=>by cases z
theorem zB(I:p0 X pins σ H s)(x:H P=a7 (.tbl #[]))(C:∀h:d7,X.K.In h->CodeHd h c P)(g:X.env.code=.ref c)(B:BMain X.mg X.base)(y:closureFor scope X.env=pure []) (k:defaultsOf params X.env=([],[]))(h:∀f c' oc vs t ctv ps' s',p0 X ((f,kla_obj "<lambda>" (X.env.qual ++ "<lambda>") params body scope [] ((X.mg "__name__").getD .none) c' ctv)::(c',oc)::pins) σ (t8 H P<|.tbl ps') s'->oc.data=.fields vs->vs[1]?=a7 (.str (X.env.qual ++ "<lambda>") t)->Q (.ref f) s'):f9 (g7 X.prog X.w) A (eval (.Lambda params body scope pos) X.env) Q E s:=by
 have L:s.heap.get? P=a7 (tabObj #[]):=I.hok P _ x;have hg:s.heap.Ns d9 X.mg:=I.mod.glob.keeps I.bk;have N:∀b o,X.base.get? b=a7 o->b≠P:=λb o e z=>by have:=(I.bs b o e).2;rw[z,x]at this;cases this
 obtain⟨W,ob,R,T,U,G,V⟩:=B;have D:d9≠P:=by obtain⟨o,es,ep,e,_⟩:=I.mod.glob;exact N _ _ e
 refine kla_eval k<|kla_makeFunction y I.ok.glob hg g (C _ I.kIn) L trivial rfl D ⟨W,ob,R,T,U,N _ _ G,I.bk _ _ G,V⟩ λc' ctv h' tk hx d F m i=>?_;obtain⟨c2,oc,vs,t,Z,S,M,hv⟩:=m;cases Z;have O:P≠h'.objs.size:=λz=>by rw[z]at i;exact n6 (u7 i)<|D5 _
 have hs:s.heap.objs.size<=h'.objs.size:=F6 d<|Jj F;have J:p0 X pins σ (t8 H P<|.tbl<|#[] ++ #[j0 pos.line,j0 pos.col,.ref c']) { s with heap:=h'.push<|kla_obj "<lambda>" (X.env.qual ++ "<lambda>") params body scope [] ((X.mg "__name__").getD .none) c' ctv,toks:=tk }:=by exact I.writeB x (λb u j e=>u4 _<|hx b u j e)<|u4 _ i
 have a:∀b,s.heap.objs.size<=b->b≠P->t8 H P (.tbl<|#[] ++ #[j0 pos.line,j0 pos.col,.ref c']) b=a8/\b≠X.env.locals/\b∉X.fs:=λb j hn=>by refine⟨by rw[af hn];exact I.hok.fresh j,λz=>?_,I.nofs j⟩;rw[z]at j;exact n6 (D6 I.lt j)<|D5 _
 have Y:c'≠P:=λz=>by rw[z]at d;exact n6 (D6 (u7 L) d)<|D5 _
 refine h h'.objs.size c' oc vs t ctv _ _ (J.pins_of λp l=>?_) M hv;rcases u8.mp l with rfl|l;obtain⟨n,q,r⟩:=a h'.objs.size hs<|v5 O;exact⟨v8 _ rfl,n,q,r,λv z=>by cases z⟩;rcases u8.mp l with rfl|l;obtain⟨n,q,r⟩:=a c' d Y;exact⟨u4 _ S,n,q,r,λv z=>by rw[M]at z;cases z⟩;exact J.pin p<|A8 _ l
noncomputable def lamB(c:f7)(y:c7):Bool:=decide (c.kind=.function) && !c.isCoroutine && !c.isGenerator&&decide (c.names.lookup y=a7 .local)&&c.names.all λp=>decide<|p.2≠.free
theorem wQ(h:lamB sc y=a9):FnScope [y] [y] sc:=by
 simp only[lamB,C5,n9,Bool.not_eq_true',D9]at h;obtain⟨⟨⟨⟨h1,h2⟩,a⟩,d⟩,k⟩:=h;refine⟨h1,h2,a,HR.mpr ⟨Iy,KQ⟩,rfl,λx c=>?_,λp b=>k p b⟩;obtain rfl:x=y:=by simpa using c
 exact .inl d
def iB(x:c7)(N:List c7)(te:u6)(t:D7):u6:=λS M Q=>t S M λds c=>match ds with
 | [y]=>∃q xs l,c[q]?=a7 (.tb x c5)/\(y=.tup xs\/∃n,y=.ref n/\ak (c.set q<|.tb x a9) n xs)/\(∀d∈xs,te (bJ N [d]) (c.set q<|.tb x a9)<|bt (c.set q<|.tb x a9) λz e=>z=l d/\e=c.set q (.tb x a9))/\SrtG (c.set q<|.tb x a9) (xs.map l) /\∀ys,ys.Perm xs->ys.Pairwise (λa b=>z7 (c.set q<|.tb x a9) p7 (l b) (l a)=c5)->Q (.ref c.length) (c.set q (.tb x a9)++[.lst ys])
 |_=>False
theorem xh(Sf:Self X x)(B:BMain X.mg X.base)(hr:Room (k+3) X.A)(he:HA X [e] t)(hm:X.mg "sorted" = a8)(ai:∀(s:f6) (H:Hp) (f:d5) (cdv:c6) (A:e9) (outer:List Env) (E:XK),Room k (A.deeper<|j9 (X.env.qual ++ "<lambda>") scope s.heap.objs.size f cdv)->HE (oK D3 X.prog X.w X.K X.mg X.base [y] (X.env.qual ++ "<lambda>") scope f cdv A outer s H E).nox body te)(Sc:FnScope [y] [y] scope) (aj:closureFor scope X.env=pure []) (P:defaultsOf params X.env=([],[]))(hb:∀(pm ctv:c6) (c':d5) (u:c6),bindArgs (kla_fn "<lambda>" (X.env.qual ++ "<lambda>") params body scope [] pm (.ref c') ctv) ⟨[u],[]⟩=pure [(y,u)])(al:X.env.kindOf "sorted" = a7 .globalImplicit:=by kernel_rfl) (hs:g9 [e] X.env=[(c5,eval e X.env)]:=by kernel_rfl):HE X (.Call (.Name "sorted" p) [e] [⟨a7 "key",.Lambda params body scope lpos,kpos⟩] pos) (iB x [y] te t):=by
 refine⟨λg s σ H R I h=>?_⟩;obtain⟨S,M,ρ,Q,sm,sr,q,kk⟩:=h;refine Kw (dS I al hm oW ?_ (by decide)<|by decide);unfold iB at q;refine callWith_kw (u3 (he.ok pos g s σ H (λvs H1=>AQ X.K ρ H _ vs H1) I ⟨S,M,ρ,_,sm,sr,q,λ_ _ z=>z⟩) ?_) (by rw[hs];rfl) (by rw[hs];rfl);rintro us s1 ⟨vs,H1,I1,r1,T⟩;obtain⟨ds,M1,as,V,g1,rs,T⟩:=T;split at T;rename_i y0;obtain⟨qn,xs,L,hq,hx,hP,so,O⟩:=T;obtain⟨v1,_,rfl,rx,rs⟩:=Reps.inv_cons rs;obtain rfl:=Reps.inv_nil rs;obtain⟨u,rfl,Z⟩:=ao.one r1;obtain⟨Pa,ep,mo⟩:=V.get hq;obtain⟨⟨c,tc,C⟩,ps,hH,h0⟩:=mo;obtain rfl:=h0 rfl;refine kws_cons<|zB I1 hH C (Sf.code I1 tc) B aj P λf c' oc vs t' ctv ps' s2 N hd hv=>kws_nil ?_;obtain⟨i,Y⟩:=V.writeB (ps':=ps') ep hq hH;show f9 _ _ (call (.builtin "sorted") [u] [(AA1 "key",.ref f)]) _ _ _;have an:=so.len;rw[t7]at an;have F:Room (k+1+2) X.A:=hr;generalize t8 H1 Pa (.tbl ps')=H2 at i Y N;have ml:(M1.set qn<|.tb x a9).length=M1.length:=G9 ..;generalize M1.set qn (.tb x a9)=W at i hP so O hx ml;have G:KeyG X ((f,kla_obj "<lambda>" (X.env.qual ++ "<lambda>") params body scope [] ((X.mg "__name__").getD .none) c' ctv)::(c',oc)::g) σ as W f L xs:=λs H d v u hm I sm r Z=>by have p1:=(I.pin _<|A8 _ z0).1;have p2:=(I.pin (c',oc)<|A8 _<|w6 _ z0).1;exact Cz (k:=k) I.env0.in1.in1 p1 ⟨c',oc,vs,t',rfl,p2,hd,hv⟩ Sc (Room.in1 (k:=k+2) F).in1 (.of_eq<|hb _ _ _ _) rfl (λE hr=>(ai s H f _ _ _ E hr).ok) sm r Z<|hP d hm
 have j:∀{v:c6}{s':f6},EP X ((f,kla_obj "<lambda>" (X.env.qual ++ "<lambda>") params body scope [] ((X.mg "__name__").getD .none) c' ctv)::(c',oc)::g) σ R v s'->EP X g σ R v s':=λ{v s'} ⟨v',H',J,rv,q⟩=>⟨v',H',J.pins_of λp hp=>J.pin p<|A8 _<|w6 _<|w6 _ hp,rv,q⟩
 have l:∀ys,ys.Perm xs->ys.Pairwise (λa b=>z7 W p7 (L b) (L a)=c5)->Q (.ref W.length) (W++[.lst ys]):=λys h1 h2=>by rw[ml];exact O ys h1 h2
 rcases hx with rfl|⟨n,rfl,hL⟩
 obtain⟨a,vs,rfl,D,r⟩:=p9.inv_tup<|rx.grow Y;cases Z;obtain⟨its,U,⟨o,ho,hc,n,m⟩,_⟩:=N.tuple D;have h1:=r.length;have h2:=U.length;exact D4 (rS G F N i r U ho (.inr hc) m (by lia) so λv H' z=>kk v H'<|VQ.trans g1<|VQ.trans Y<|z Q l) (λ_ _ z=>j z) λ_ _ z=>z;obtain⟨a,rfl,en⟩:=p9.inv_ref rx;cases Z;obtain⟨vs,D,r⟩:=ak.seq i hL en;obtain⟨its,U,⟨o,n,ho,hc,_,m⟩,_⟩:=N.list D;have h1:=r.length;have h2:=U.length;exact D4 (rS G F N i r U ho (.inl hc) m (by lia) so λv H' z=>kk v H'<|VQ.trans g1<|VQ.trans Y<|z Q l) (λ_ _ z=>j z) λ_ _ z=>z;exact T.elim
abbrev DerL(P:c9)(w:c8)(K:q9)(mg:c7->Option c6)(base:d7)(k:Nat)(x:c7)(N:List c7)(st:h8)(t:p5):Prop:=∀(f:d5) (cdv:c6) (A:e9) (outer:List Env) (s:f6) (H:Hp) (E:XK),Room k (A.deeper<|PyProof.Rows.envOfC x (ah st) s.heap.objs.size f cdv)->Self (oK D3 P w K mg base N x (ah st) f cdv A outer s H E).nox x->HB (oK D3 P w K mg base N x (ah st) f cdv A outer s H E).nox (bo st) t
theorem t9.byL{P:c9}{w:c8}{K:q9}{mg:c7->Option c6}{base:d7}{x:c7}{st:h8}{N ps:List c7}{k:Nat}{e:x5}{B:List c7}{C:List (c7×Int)}{t:p5}(T:TopB mg B C)(F:cx K mg x st ps)(y:FnScope N ps (ah st))(n:cI e ps)(i:TopB mg B C->N.Nodup->DerL P w K mg base k x N st t)(Y:∀ds M R,e ds M R->t (EE M R) (bJ N ds) M):t9 P w K mg base (k+1) x ps e:=by obtain⟨f,O,u,D,U⟩:=F;refine⟨f,O,?_,D,u.kp,U⟩;obtain⟨oc,X,kV,L,pm,Z,g,ct,G,rfl,J,m⟩:=u.ex;refine GD J m y (λvs H Q E ⟨ds,M,ρ,R,s,r,q,_⟩=>by rw[<-r.length];exact n ds M R q) λA o s H vs Q E V h=>?_;obtain⟨ds,M,ρ,R,p,r,q,I⟩:=h;have W:=i T y.nd f g A o s H E V ⟨f,oc,X,_,G,D,J,rfl⟩;refine⟨lowS K t,G1.nox W.ok,bJ N ds,M,ρ,_,p,SRep.start r N,Y ds M R q,⟨λc H' ⟨S,d,a,s',l,b,j⟩=>?_,λv H' z=>I v H'<|VQ.endq p z,λc H' ⟨S,d,a,s',l,b,j⟩=>j.elim,λc H' ⟨S,d,a,s',l,b,j⟩=>j.elim⟩⟩;exact I .non H'<|VQ.endq p ⟨.non,d,a,s',l,.non,j⟩
def tR(z:c7):x5:=λds M R=>∃(ns:List Int) (b:MO),ns.length<=63/\(b.items=ns.map D.int/\b.isL=a9)/\ds=[.ref 0]/\M=[b,.tb z c5]/\∀a,R (.bl a9) a
theorem qg{K:q9}{H:Hp}{a t c:d5}{z:c7}{ns:List Int}(l:ns.length<=63)(S:Fn K H a (ns.map V.int))(P:H t=a7 (.tbl #[]))(k:tabIn K z=a7 (c,t))(C:∀h:d7,K.In h->CodeHd h c t)(G:a≠t):IU K (tR z) [.ref a] H (λv _=>v=.bl a9) λ_ _ _=>False:=by
 have f:∀{mo:MO},mo.items=ns.map D.int/\mo.isL=a9->uy K [a,t] H a mo->IU K (tR z) [.ref a] H (λv _=>v=.bl a9) λ_ _ _=>False:=λ{mo} e ok=>by
  refine⟨[.ref 0],[mo,.tb z c5],[a,t],λd _=>d=.bl a9,⟨λn m b g e1 e2=>?_,rfl,λn b i e1 e2=>?_⟩,.cons (.ref rfl) .nil,⟨ns,mo,l,e,rfl,rfl,λ_=>rfl⟩,λv H' ⟨d,M,p,_,_,r,q⟩=>?_⟩
  match n,m,e1,e2 with
  | 0,0,_,_=>exact n6 rfl g
  | 1,1,_,_=>exact n6 rfl g
  | 0,1,e1,e2=>simp at e1 e2;exact n6 (e1.trans e2.symm) G
  | 1,0,e1,e2=>simp at e1 e2;exact n6 (e2.trans e1.symm) G
  |n+2,_,e1,_=>simp at e1
  |_,m+2,_,e2=>simp at e2
  match n,e1,e2 with
  | 0,e1,e2=>simp at e1 e2;subst e1 e2;exact ok
  | 1,e1,e2=>simp at e1 e2;subst e1 e2;exact⟨⟨c,k,C⟩,#[],P,λ_=>rfl⟩
  |n+2,e1,_=>simp at e1
  have j:d=.bl a9:=q;subst j;obtain rfl:=p9.inv_bl r;rfl
 rcases S with(h|⟨o,h⟩)|h;exact f (mo:=.lst _) ⟨rfl,rfl⟩ ⟨_,h,fK ns⟩;exact f (mo:=.fz _) ⟨rfl,rfl⟩ ⟨o,_,h,fK ns⟩;exact f (mo:=.kl _) ⟨rfl,rfl⟩ ⟨_,h,fK ns⟩
theorem wP{P:c9}{w:c8}{K:q9}{mg mb:c7->Option c6}{k:Nat}{S a t:d5}{fd:j6}{x:c7}{sp:Sp}{s₁:f6}{vs:List c6}{ns:List Int}(X:K.In s₁.heap) (L:s₁.heap.Ns d9 mg) (c:s₁.heap.Ns builtinsNs mb) (U:∀x:c7,x≠"__name__"->mb x=e8 x) (J:s₁.heap.NoLimit) (hg:s₁.gens = #[])(A:s₁.heap.get? a=a7 { cls:=.type "list",data:=.seq vs.toArray }) (hi:IntsAre vs ns) (hl:ns.length<=sizeLine) (hr:Room k callerA) (nt:noTabs K=a9) (C:s₁.heap.get? t=a7 (tabObj #[])) (Z:isCodeTable s₁.heap t) (BM:BMain mg s₁.heap)(F:∀base:d7,K.In base->base.Ns d9 mg->BMain mg base->FnOk P w K mg base D3 k S fd [x] sp) (p:∀(s:f6) (u:c6),BindsTo s fd ⟨[u],[]⟩ [(x,u)])(Y:∀H:Hp,Fn K H a (ns.map V.int)->H t=a7 (.tbl #[])->sp [.ref a] H (λv _=>v=.bl a9) λ_ _ _=>False):j7 (g7 P w) callerA (.call (.ref S) ⟨[.ref a],[]⟩) (λr s'=>r=.ok (.ret<|.bool a9)/\OldK s₁.heap s'.heap/\s'.os=s₁.os/\f8 s'.gens) s₁:=by
 have rv:=mK hi;have N:=hi.length;have aP:a≠t:=λe=>by rw[e,C]at A;cases A
 have i:∀H:Hp,(∀b,b≠t->H b=a8\/∃o xs,H b=a7 (.frz o<|.lst xs))->Fn K H a (ns.map V.int)->H t=a7 (.tbl #[])->B9 P w H s₁.heap->(∀b,H b≠a8->b=a\/b=t)->(H a≠a8->K.lookup a=a8) -> j7 (g7 P w) callerA (.call (.ref S) ⟨[.ref a],[]⟩) (λr s'=>r=.ok (.ret<|.bool a9)/\OldK s₁.heap s'.heap/\s'.os=s₁.os/\f8 s'.gens) s₁:=by
  intro H hO hS hT M hA hK;have f:∀{b:d5}{o:d6},s₁.heap.get? b=a7 o->H b=a8->(yd s₁.heap H).get? b=a7 o:=λe n=>zS e n;have O:∀{b:d5}{o:d6},s₁.heap.get? b=a7 o->o.cls≠.type "list"\/(∀v n,o.data≠.seq v n)->o≠tabObj #[]->H b=a8:=λ{b o} e E d2=>by
   cases q:H b with
   |none=>rfl
   |some u=>rcases hA b (by rw[q];simp)with e'|e';subst e';rw[A]at e;cases e;rcases E with E|E;exact n6 rfl E;exact n6 rfl<|E _ _;subst e';rw[C]at e;cases e;exact n6 rfl d2
  have g:∀{b:d5}{m:c7->Option c6},s₁.heap.Ns b m->(yd s₁.heap H).Ns b m:=λ{b m} ⟨o,es,ep,e,d,r⟩=>⟨o,es,ep,f e (O e (.inr λv n z=>by rw[d]at z;cases z) λz=>by rw[z]at d;cases d),d,r⟩
  have G:K.In (yd s₁.heap H):=λb o e=>f (X b o e) (by
   cases q:H b with
   |none=>rfl
   |some u=>rcases hA b (by rw[q];simp)with e'|e';subst e';rw[hK<|by rw[q];simp]at e;cases e;subst e';have h2:=D9.mp nt (b,o)<|mem_of_lookupK e;have h3:=X b o e;rw[C]at h3;cases h3;exact n6 (show c5=a9 from h2) Iz)
  have hM:Mod K mg (yd s₁.heap H):=⟨G,g L,⟨mb,g c,U⟩,let ⟨mc,h1,h2⟩:=J;⟨mc,g h1,h2⟩⟩
  have e0:Env0 P w K mg (yd s₁.heap H) callerA [] s₁ H:=⟨rfl,hM,λb o e=>Cj e,Nat.le_of_eq<|xq _ _,trivial,λb c=>n6 (show b∈([]:List d5)from c) (by simp),M,.of_eq hg⟩
  have R:BMain mg (yd s₁.heap H):=by obtain⟨R,ob,b1,b2,b3,b4,B,b6⟩:=BM;exact⟨R,ob,b1,b2,b3,f b4 (O b4 (.inl λz=>by rw[z]at B;injection B with h;exact n6 h<|by decide) λz=>by rw[z]at B;cases B),B,b6⟩
  refine Kg ((F _ G (g L) R).run callerA [] s₁ H ⟨[.ref a],[]⟩ [.ref a] [.ref a] _ _ hr e0 (p s₁<|.ref a) (.cons rfl .nil)<|Y H hS hT) λr s' h=>?_;cases r with
  |error e=>exact h.elim
  |ok fl =>
   cases fl with
   |next=>exact Ja h
   |brk=>exact Ja h
   |cont=>exact Ja h
   |ret u =>
    obtain⟨v,H',os,D,un,j,r',q⟩:=h;have q':v=.bl a9:=q;subst q';obtain rfl:u=Value.bool a9:=r';obtain⟨l,T⟩:=un.tbls t _ hT;have I:s'.heap.get? t=a7 (tabObj<|#[]++l):=j t _ T;have Q:∀b o,b≠t->s₁.heap.get? b=a7 o->s'.heap.get? b=a7 o:=λb o c e=>by
     cases q:H b with
     |none=>exact un.keep b o e q (by intro z;exact n6 (show b∈([]:List d5)from z)<|by simp)<|by simp
     |some u =>
      rcases hO b c with z|⟨ob,xs,z⟩
      rw[q]at z;cases z;have z2:=un.frzs b ob _ z;obtain⟨e1,_⟩:=M b _ z;obtain⟨e2,_⟩:=j b _ z2;rw[e]at e1;cases e1;exact e2
    refine⟨rfl,⟨λb o e=>?_,λb o e=>?_⟩,os,D⟩;by_cases c:b=t;subst c;rw[C]at e;cases e;exact .inr<|.inl ⟨Z,rfl,#[],l,rfl,I⟩;exact .inl<|Q b o c e;by_cases c:b=t;subst c;exact⟨_,I⟩;exact⟨o,Q b o c e⟩
 cases W:K.lookup a with
 |some o=>have e:=X a o W;rw[A]at e;cases e;refine i (t8 (λ_=>a8) t<|.tbl #[]) (λb c=>.inl<|af c) (.inr ⟨_,vs.toArray,_,W,rfl,rfl,rfl,by rw[v6,N];exact hl,by simpa using rv⟩) aB (λb u z=>?_) (λb z=>?_) λz=>n6 (af aP) z;by_cases c:b=t;subst c;rw[aB]at z;cases z;exact C;rw[af c]at z;cases z;by_cases c:b=t;exact .inr c;exact n6 (af c) z
 |none=>refine i (t8 (λb=>if b=a then a7 (.frz { cls:=.type "list",data:=.seq vs.toArray }<|.lst<|ns.map V.int)else a8) t<|.tbl #[]) (λb y=>?_) (.inl<|.inr ⟨{ cls:=.type "list",data:=.seq vs.toArray },(af aP).trans<|m9 rfl⟩) aB (λb u z=>?_) (λb z=>?_) λ_=>W;rw[af y];by_cases c:b=a;exact .inr ⟨_,_,m9 c⟩;exact .inl<|n5 c;by_cases y:b=t;subst y;rw[aB]at z;cases z;exact C;rw[af y]at z;by_cases c:b=a;have z':=(m9 c).symm.trans z;cases z';subst c;exact⟨A,by rw[t7];exact hl,vs,_,rv,A⟩;have z':=(n5 c).symm.trans z;cases z';by_cases y:b=t;exact .inr y;rw[af y]at z;by_cases c:b=a;exact .inl c;exact n6 (n5 c) z
theorem yw{K:q9}{x:c7}{c P:d5}(h:tabIn K x=a7 (c,P)):∃o,K.lookup c=a7 o:=by unfold tabIn at h;split at h;split at h;split at h;rename_i U _;split at h;rename_i e;split at h;cases h;exact⟨_,e⟩;cases h;cases h;cases h;cases h;cases h
theorem law_walkL{l:PySem.W.OpenLaw}{q:c9}{m:List c7}{XP:(c7->Option c6)->d7->Prop}{YP:c8->d7->Prop}{d dz:DefRec}{K:Params->q9}{k:Nat}{st:h8}{x z:c7}{cz P:Params->d5}(hn:l.most=a7 63)(O:d.params.defaults=[])(hd:d.name = "law")(hr:Room k callerA)(hY:∀(w:c8) (h:d7),YP w h->(K w.params).In h) (nt:∀p,noTabs (K p)=a9) (hz:(recsOf q).find? (λe=>e.name==z)=a7 dz) (S:∀p,tabIn (K p) z=a7 (cz p,P p))(F:∀(w:c8) (mg:c7->Option c6) (h:d7),(K w.params).In h->h.Ns d9 mg->cx (K w.params) mg "law" st [x] /\ ∀(base:d7) (f:d5) (fd:j6),BMain mg base->IF (K w.params) "law" "law" st f fd->FnOk l.prog w (K w.params) mg base D3 k f fd [x] (IU (K w.params)<|tR z))(hb:∀(kV doc pm:c6) (an:Option d5) (cdv ct:c6) (u:c6),bindArgs (Ju "law" "law" (fq st) (bo st) (ah st) .none kV doc pm an cdv ct) ⟨[u],[]⟩=pure [(x,u)]):PySem.W.WalkO q m XP YP l.row.toRowW d [] (λf vs=>PySem.call f vs):=by
 refine Att.attach_call hn O λw aj s₁ mg mb fa o pm cd doc a vs ns G Y ho as al D j i n hg=>?_;have I:=hY w _ Y;rw[hd]at D;obtain⟨⟨f,fd,Z,hm,_⟩,C⟩:=F w mg _ I G.T.g;have e:=D.symm.trans hm;cases e;obtain⟨V,N⟩:=tab_of G.T I hz<|S w.params;obtain⟨aD,A⟩:=yw<|S w.params;have CK:∀h:d7,(K w.params).In h->CodeHd h (cz w.params) (P w.params):=λh X=>by obtain⟨o2,U,y,tf,c,tg,Q,E,tt,e1,r⟩:=V;have e2:=I _ _ A;rw[e1]at e2;cases e2;exact⟨_,U,y,tf,c,tg,Q,E,tt,X _ _ A,r⟩
 have M:BMain mg s₁.heap:=by obtain⟨bm,ob,b1,b2,J,b4,b5,L⟩:=G.T.bmain;refine⟨bm,ob,b1,b2,λz=>?_,J,b4,b5,L⟩;obtain⟨og,es,ep,eg,dg,_⟩:=G.T.g;rw[z,eg]at J;cases J;rw[dg]at L;cases L
 have aP:a≠P w.params:=λe=>by rw[e,N]at j;cases j
 obtain⟨oc,od,kV,t,R,an,cdv,ct,aS,rfl,lk,ai⟩:=id Z.ex;exact wP I G.T.g G.T.b G.T.builtins G.T.nolimit hg j i (F6 n<|by decide) hr (nt _) N (V.tab N).isCodeTable M (λbase _ _ B=>C base _ _ B Z) (λs v=>.of_eq<|hb kV t R an cdv ct v) λH hS hT=>qg n hS hT (S w.params) CK aP
end L2
namespace L2
open PySem PySem.Spec PyProof.Rows DL
def GtAt(A:e9)(s:f6)(x y:c6)(k:Bool):Prop:=∀(g:c9) (w:c8) (E:c6->f6->Prop) (Q:c6->f6->Prop),Q (.bool k) s->f9 (g7 g w) A (richCompare .Gt x y) Q E s
inductive GexAt(A:e9)(s:f6):List c6->List c6->Bool->Prop
 |nn:GexAt A s [] [] c5
 |nc {y:c6}{ys:List c6}:GexAt A s [] (y::ys) c5
 |cn {x:c6}{xs:List c6}:GexAt A s (x::xs) [] a9
 |eq {x y:c6}{xs ys:List c6}{k:Bool} (h:Io A s x y a9) (t:GexAt A s xs ys k):GexAt A s (x::xs) (y::ys) k
 |ne {x y:c6}{xs ys:List c6}{k:Bool} (h:Io A s x y c5) (t:GtAt A s x y k):GexAt A s (x::xs) (y::ys) k
section
variable{prog:c9}{w:c8}{A:e9}{E:c6->f6->Prop}{s:f6}{d:d5}{o:d6}{es:Array l7}{ep:Nat}{xs:List (D×c6×c6)}{k:D}{key:c6}{hs:D->Int}{Q:Option Nat->f6->Prop}
theorem mr(i:es.toList=xs.map (xD hs))(j:Nat):es[j]?=(xs[j]?).map (xD hs):=by rw[<-E4,i,C2]
def xX(xs:List (D×c6×c6))(k:D)(i:Nat)(h:Option Nat):Prop:=(h=a8/\∀j p,j<i->xs[j]?≠a7 (k,p))\/∃j p,h=a7 j/\j<i/\xs[j]?=a7 (k,p)
noncomputable def pM(es:Array l7)(h:Int)(i:Nat):Bool:=(es[i]?.map (·.hash))==a7 h
theorem fB(e:es.toList=xs.map (xD hs))(a:∀j,i<=j->j<x->pM es (hs k) j=c5)(h:xX xs k i hit)(d:i<=x):xX xs k x hit:=by
 rcases h with⟨c,o⟩|⟨j,p,h1,f,L⟩
 refine .inl ⟨c,λj p b L=>?_⟩;rcases Ic j i with h|h;exact o j p h L;have:=a j h b;unfold pM at this;rw[mr e j,L]at this;simp[xD]at this;exact .inr ⟨j,p,h1,by lia,L⟩
theorem bq(h:xX xs k x hit)(c:xs[x]?=a7 (k',p'))(e:¬k'=k):xX xs k (x+1) hit:=by
 rcases h with⟨a,o⟩|⟨j,p,h1,b,L⟩
 refine .inl ⟨a,λj p b L=>?_⟩;rcases Ic j x with h|h;exact o j p h L;obtain rfl:j=x:=by lia
 rw[c]at L;exact e (by injection L with L;injection L);exact .inr ⟨j,p,h1,by lia,L⟩
theorem eI(f:(xs.map (·.1)).Nodup){i j:Nat}{p q:c6×c6}(hi:xs[i]?=a7 (k,p))(L:xs[j]?=a7 (k,q)):i=j:=by
 have h:(xs.map (·.1))[i]?=a7 k:=by rw[C2,hi];rfl
 have a:(xs.map (·.1))[j]?=a7 k:=by rw[C2,L];rfl
 exact(List.getElem?_inj (w9.mp h).1 f).mp<|h.trans a.symm
theorem lp(e:es.toList=xs.map (xD hs))(r:(Ke i<|es.size-i).filter (pM es<|hs k)=[])(h:xX xs k i hit):xX xs k xs.length hit:=by
 have z:es.size=xs.length:=by rw[<-C3,e,t7]
 rcases Ic i xs.length with hi|hi;refine fB e (λj h1 h2=>?_) h<|Jj hi;have:=List.filter_eq_nil_iff.mp r j<|List.mem_range'_1.mpr ⟨h1,by lia⟩;simpa using this;rcases h with⟨a,o⟩|⟨j,p,h1,f,L⟩
 exact .inl ⟨a,λj p L=>o j p<|by lia⟩;exact .inr ⟨j,p,h1,(w9.mp L).1,L⟩
theorem jY{d:List c6}{Q:Bool->f6->Prop}(k:∀(Q:Bool->f6->Prop) (E:c6->f6->Prop),Q a9 s->f9 (g7 prog w) A (m7 8 key) Q E s)(qs:∀v∈d,∀(Q:Bool->f6->Prop) (E:c6->f6->Prop),Q a9 s->f9 (g7 prog w) A (m7 8 v) Q E s) (h:Q c5 s):f9 (g7 prog w) A (tableMayTell key d) Q E s:=by unfold tableMayTell;split;exact p4 h;refine o8<|k _ _ ?_;simp only[II,z6,o4];refine o8 ?_;refine IP _ (λaE r s'=>s'=s/\r=(a8,())/\∀v∈aE,v∈d) _ ?_ ?_ _ _ ⟨rfl,rfl,λ_ c=>c⟩;rintro x aE r s' ⟨rfl,rfl,i⟩;refine o8<|qs x (i x z0) _ _ ?_;simp only[II,z6,o4];exact p4 ⟨rfl,rfl,λv c=>i v<|w6 _ c⟩;rintro r s' ⟨rfl,rfl,_⟩;exact p4 h
theorem zX(S:s.heap.get? d=a7 o)(N:o.data=.dict es ep)(I:es.toList=xs.map (xD hs))(hn:(xs.map (·.1)).Nodup)(kk:key=.none\/∃a,key=.ref a)(qk:∀(Q:Bool->f6->Prop) (E:c6->f6->Prop),Q a9 s->f9 (g7 prog w) A (m7 8 key) Q E s)(qx:∀x∈xs,∀(Q:Bool->f6->Prop) (E:c6->f6->Prop),Q a9 s->f9 (g7 prog w) A (m7 8 x.2.1) Q E s)(aj:∀x∈xs,x.2.1=key->x.1=k)(X:∀x∈xs,∀(Q:Bool->f6->Prop) (E:c6->f6->Prop),Q (decide<|x.1=k) s->f9 (g7 prog w) A (eqBool x.2.1 key) Q E s)(R:(∀(j:Nat) (p:c6×c6),xs[j]?≠a7 (k,p))->Q a8 s) (n:∀(j:Nat) (p:c6×c6),xs[j]?=a7 (k,p)->Q (a7 j) s):f9 (g7 prog w) A (dictFind d key<|hs k) Q E s:=by
 have ai:es.size=xs.length:=by rw[<-C3,I,t7]
 have K:∀e∈es,∃x∈xs,e=xD hs x:=by intro e P;have:e∈xs.map (xD hs):=I ▸ Array.mem_toList_iff.mpr P;obtain⟨x,T,rfl⟩:=y4.mp this;exact⟨x,T,rfl⟩
 have V:¬(es.any λe=>e.key==key&&e.hash != hs k)=a9:=by rw[<-Array.any_toList,List.any_eq_true];rintro⟨e,P,hc⟩;obtain⟨x,T,rfl⟩:=K e<|Array.mem_toList_iff.mp P;simp only[xD,C5,o0,bne_iff_ne,ne_eq]at hc;exact hc.2<|by rw[aj x T hc.1]
 have Z:∀v∈(m8 es.size (λi=>es[i]?.map (·.hash))<|hs k).filterMap (λi=>es[i]?.map (·.key)),∃x∈xs,v=x.2.1:=by
  intro v hv;obtain⟨i,_,hi⟩:=Mp.mp hv;cases O:es[i]? with
  |none=>rw[O]at hi;cases hi
  |some e =>
   rw[O]at hi;obtain rfl:e.key=v:=by simpa using hi
   obtain⟨x,T,rfl⟩:=K e<|Array.mem_of_getElem? O;exact⟨x,T,rfl⟩
 have M:∀f,xX xs k xs.length f->Q f s:=by rintro f (⟨rfl,hno⟩|⟨j,p,rfl,_,L⟩);exact R λj p L=>hno j p (w9.mp L).1 L;exact n j p L
 have start:m8 es.size (λi=>es[i]?.map (·.hash)) (hs k)=(Ke 0<|es.size-0).filter (pM es<|hs k):=by rw[m8,List.range_eq_range',Nat.sub_zero];rfl
 have U:xX xs k 0 a8:=.inl ⟨rfl,λ_ _ h=>n6 h<|Jl _⟩;have G:∀{x i:Nat}{aE:List Nat},x::aE=(Ke i<|es.size-i).filter (pM es<|hs k)->i<=es.size->∃C u v,xs[x]?=a7 (C,u,v)/\es[x]?=a7 ⟨hs C,u,v⟩/\i<=x/\x+1<=es.size/\aE=(Ke (x+1)<|es.size-(x+1)).filter (pM es<|hs k)/\∀j,i<=j->j<x->pM es (hs k) j=c5:=by
  intro x i aE B hi;obtain⟨r,an,al,m,t⟩:=filter_range'_cons _ _ _ _ _ B.symm;have l:x<es.size:=by lia
  obtain⟨⟨C,u,v⟩,c⟩:∃y,xs[x]?=a7 y:=⟨xs[x]'(by rw[<-ai];exact l),u9 _⟩
  exact⟨C,u,v,c,by rw[mr I x,c];rfl,r,l,by rw[t];congr 2;lia,m⟩
 unfold dictFind
 try with_reducible refine C9 ?_
 refine o8<|Jz S N ?_;have W:∀v∈(m8 es.size (λi=>es[i]?.map (·.hash))<|hs k).filterMap (λi=>es[i]?.map (·.key)),∀(Q:Bool->f6->Prop) (E:c6->f6->Prop),Q a9 s->f9 (g7 prog w) A (m7 8 v) Q E s:=λv hv=>by obtain⟨x,T,rfl⟩:=Z v hv;exact qx x T
 rcases kk with rfl|⟨a,rfl⟩
 dsimp only;by_cases J:((ABJ::(m8 es.size (λi=>es[i]?.map (·.hash))<|hs k).filterMap (λi=>es[i]?.map (·.key))).all carriedByValue)=a9;rw[m9 J];unfold dictWalkPlain;refine o8 ?_;rw[start];refine IP _ (λaE b s'=>s'=s/\b=(a8,())/\∃i,aE=(Ke i<|es.size-i).filter (pM es<|hs k)/\i<=es.size/\xX xs k i a8) _ ?_ ?_ _ _ ⟨rfl,rfl,0,rfl,v9 _,U⟩;rintro x aE b s' ⟨rfl,rfl,i,B,hi,H⟩;obtain⟨C,u,v,c,D,r,l,t,m⟩:=G B hi;have H:=fB I m H r;rw[D];dsimp only;by_cases F:(hs C==hs k)=a9;rw[m9 F];refine o8<|IL S N<|o8<|X _ (Hu c) _ _<|o8<|IL S N ?_;show f9 _ _ (if (ep != ep)=a9 then _ else _) _ E _;rw[n5<|by simp];by_cases g:C=k;rw[dT_ g];subst g;rw[m9 rfl];exact o8<|G7<|p4<|p4<|n x _ c;rw[dF_ g,n5<|by decide];exact o8<|G7<|p4 ⟨rfl,rfl,x+1,t,l,bq H c g⟩;rw[n5 F];exact p4 ⟨rfl,rfl,x+1,t,l,bq H c λe=>F<|by rw[e];simp⟩;rintro b s' ⟨rfl,rfl,i,B,hi,H⟩;exact p4<|M a8<|lp I B.symm H;rw[n5 J];by_cases q:(((m8 es.size (λi=>es[i]?.map (·.hash))<|hs k).filterMap (λi=>es[i]?.map (·.key)))==[ABJ])=a9 <;>
 (first|rw[m9 q]|rw[n5 q])<;>(first|refine o8 (p4 ?_)|refine o8<|jY qk W ?_)<;>(
  rw[n5<|by simp];refine o8 ?_;rw[start];refine IP _ (λaE b s'=>s'=s/\∃i f,b=(a8,f)/\aE=(Ke i<|es.size-i).filter (pM es<|hs k)/\i<=es.size/\xX xs k i f) _ ?_ ?_ _ _ ⟨rfl,0,a8,rfl,rfl,v9 _,U⟩;rintro x aE b s' ⟨rfl,i,f,rfl,B,hi,H⟩;obtain⟨C,u,v,c,D,r,l,t,m⟩:=G B hi;have H:=fB I m H r;rw[D];dsimp only;by_cases F:(hs C==hs k)=a9;rw[m9 F];refine o8<|IL S N<|o8<|X _ (Hu c) _ _<|o8<|IL S N ?_;show f9 _ _ (if (ep != ep)=a9 then _ else _) _ E _;rw[n5<|by simp];by_cases g:C=k;rw[dT_ g];subst g;rcases H with⟨rfl,_⟩|⟨j,p,_,Y,L⟩
  first|rw[m9 rfl]|skip
  simp only[Option.isSome_none,z6,o4]
  first|refine o8 (p4 ?_)|skip
  refine o8<|G7 ?_;split;exact p4<|p4<|n x _ c;exact p4 ⟨rfl,x+1,a7 x,rfl,t,l,.inr ⟨x,_,rfl,HJ x,c⟩⟩;exact n6 (eI hn L c) (by lia);rw[dF_ g];simp only[z6,o4];refine o8<|G7 ?_
  first|rw[n5<|by simp]|skip
  first
   |exact p4 ⟨rfl,x+1,f,rfl,t,l,bq H c g⟩
   |exact o8 (p4 (p4 ⟨rfl,x+1,f,rfl,t,l,bq H c g⟩))
  rw[n5 F];exact p4 ⟨rfl,x+1,f,rfl,t,l,bq H c λe=>F<|by rw[e];simp⟩;rintro b s' ⟨rfl,i,f,rfl,B,hi,H⟩;have z:=M f<|lp I B.symm H;exact p4 z)
 dsimp only;rw[n5 (show ¬((ABG a::(m8 es.size (λi=>es[i]?.map (·.hash))<|hs k).filterMap (λi=>es[i]?.map (·.key))).all carriedByValue)=a9 by simp[carriedByValue]),n5 V];by_cases q:(((m8 es.size (λi=>es[i]?.map (·.hash))<|hs k).filterMap (λi=>es[i]?.map (·.key)))==[ABG a])=a9 <;>
 (first|rw[m9 q]|rw[n5 q])<;>(first|refine o8 (p4 ?_)|refine o8<|jY qk W ?_)<;>(
  rw[n5<|by simp];refine o8 ?_;rw[start];refine IP _ (λaE b s'=>s'=s/\∃i f,b=(a8,f)/\aE=(Ke i<|es.size-i).filter (pM es<|hs k)/\i<=es.size/\xX xs k i f) _ ?_ ?_ _ _ ⟨rfl,0,a8,rfl,rfl,v9 _,U⟩;rintro x aE b s' ⟨rfl,i,f,rfl,B,hi,H⟩;obtain⟨C,u,v,c,D,r,l,t,m⟩:=G B hi;have H:=fB I m H r;rw[D];dsimp only;by_cases F:(hs C==hs k)=a9;rw[m9 F];refine o8<|IL S N<|o8<|X _ (Hu c) _ _<|o8<|IL S N ?_;show f9 _ _ (if (ep != ep)=a9 then _ else _) _ E _;rw[n5<|by simp];by_cases g:C=k;rw[dT_ g];subst g;rcases H with⟨rfl,_⟩|⟨j,p,_,Y,L⟩
  first|rw[m9 rfl]|skip
  simp only[Option.isSome_none,z6,o4]
  first|refine o8 (p4 ?_)|skip
  refine o8<|G7 ?_;split;exact p4<|p4<|n x _ c;exact p4 ⟨rfl,x+1,a7 x,rfl,t,l,.inr ⟨x,_,rfl,HJ x,c⟩⟩;exact n6 (eI hn L c) (by lia);rw[dF_ g];simp only[z6,o4];refine o8<|G7 ?_
  first|rw[n5<|by simp]|skip
  first
   |exact p4 ⟨rfl,x+1,f,rfl,t,l,bq H c g⟩
   |exact o8 (p4 (p4 ⟨rfl,x+1,f,rfl,t,l,bq H c g⟩))
  rw[n5 F];exact p4 ⟨rfl,x+1,f,rfl,t,l,bq H c λe=>F<|by rw[e];simp⟩;rintro b s' ⟨rfl,i,f,rfl,B,hi,H⟩;have z:=M f<|lp I B.symm H;exact p4 z)
end
section
variable{X:Cx}{pins:List (d5×d6)}{σ:St}{H:Hp}{s:f6}{ρ:List d5}{M:p8}{kvs:List (D×D)}{xs:List (D×c6×c6)}
theorem wZ(h:tT d=a9):t4 M 8 d=a9:=by
 cases d with
 |non=>rfl
 |tup s=>exact mh 8 _ h
 |_=>cases h
theorem jx(I:p0 X pins σ H s)(r:p9 X.K ρ H k u)(e:aG u key)(b:tT k=a9):(k=.non/\key=.none)\/∃ks a,k=.tup ks/\key=.ref a/\dB s.heap 8 (.tup ks) (.ref a):=by
 cases k with
 |non=>obtain rfl:=p9.inv_non r;exact .inl ⟨rfl,e⟩
 |tup ks=>have t:=eX I 8 _ _ _ r e b;obtain⟨a,its,rfl,h⟩:=id t;exact .inr ⟨ks,a,rfl,rfl,t⟩
 |_=>cases b
theorem su(I:p0 X pins σ H s)(g:A.units+8<j5)(r:p9 X.K ρ H k u)(e:aG u key)(b:tT k=a9)(h:∀tk,Q (JH X.w k) { s with toks:=tk }):f9 (g7 X.prog X.w) A (pyHash key) Q E s:=by
 rcases jx I r e b with⟨rfl,rfl⟩|⟨c,a,rfl,rfl,t⟩
 exact PySem.W.pyHash_slot (T:="NoneType") rfl PySem.F.slot_NoneType_hash PySem.F.entry_NoneType_hash (PySem.F.args_NoneType_hash_1 _) (beq_builtin_none _) (.inr<|by lia)<|o8<|p4<|o8<|wpAny_mkInt<|p4 ⟨_,_,rfl,h _⟩;exact kR 8 _ _ _ _ _ _ g t<|h _
theorem GE(I:p0 X pins σ H s)(m:t5 X.K ρ M H)(g:A.units+8<j5)(r:p9 X.K ρ H k u)(e:aG u key)(a:tT k=a9)(r':p9 X.K ρ H k' u')(b:aG u' key')(d:tT k'=a9):Io A s key key' (decide<|k=k'):=by
 have h:=(ic I m 8 A k k' _ _ _ _ g r e r' b (wZ a)<|wZ d).1;have q:r9 M 8 k k'=decide (k=k'):=by
  cases k with
  |non=>cases k' with
   |non=>rw[dT_ rfl];rfl
   |tup _=>rw[dF_ λz=>by cases z];rfl
   |_=>cases d
  |tup f=>cases k' with
   |non=>rw[dF_ λz=>by cases z];rfl
   |tup c=>rw[Bool.eq_iff_iff,fh 8 _ _ a d,n9]
   |_=>cases d
  |_=>cases a
 rw[q]at h;exact h
theorem nI(I:p0 X pins σ H s)(r:p9 X.K ρ H k u)(e:aG u key)(b:tT k=a9)(h:Q a9 s):f9 (g7 X.prog X.w) A (m7 8 key) Q E s:=by
 rcases jx I r e b with⟨rfl,rfl⟩|⟨c,a,rfl,rfl,t⟩
 exact p4 h;exact jy 8 8 _ _ _ _ _ _ (t6 _) t h
theorem yW:∀{kvs:List (D×D)}{xs:List (D×c6×c6)}{x:D×c6×c6},Paired (Ik X.K ρ H) kvs xs->x∈xs->∃p∈kvs,Ik X.K ρ H p x
 |_,_,x,.cons q t,h=>by rcases u8.mp h with rfl|h;exact⟨_,z0,q⟩;obtain⟨p,hp,z⟩:=yW t h;exact⟨p,w6 _ hp,z⟩
theorem iz(r:Paired (Ik X.K ρ H) kvs xs):xs.map (·.1)=kvs.map (·.1):=by
 induction r with
 |nil=>rfl
 |cons h t i=>rw[A5,A5,i,h.1]
theorem mf(r:Paired (Ik X.K ρ H) kvs xs)(k:D):(aR kvs k=a8/\∀(j:Nat) (p:c6×c6),xs[j]?≠a7 (k,p))\/∃(d:D) (v:V) (j:Nat) (u u':c6),aR kvs k=a7 d/\xs[j]?=a7 (k,u,u')/\p9 X.K ρ H d v/\aG v u':=by
 unfold aR;induction r with
 |nil=>exact .inl ⟨rfl,λj p z=>by simp at z⟩
 |@cons p q ps qs h t i =>
  obtain⟨h1,_,_,v,b,c⟩:=h;rw[Iq];by_cases e:p.1=k;rw[dT_ e];exact .inr ⟨_,v,0,q.2.1,q.2.2,rfl,by rw[Nj,<-e,h1],b,c⟩;rw[dF_ e];rcases i with⟨g,n⟩|⟨d,v,j,u,u',g,a,l,m⟩
  refine .inl ⟨g,λj f z=>?_⟩;cases j with
  |zero=>rw[Nj]at z;injection z with z;exact e<|by rw[h1,z]
  |succ j=>rw[LD]at z;exact n j f z
  exact .inr ⟨d,v,j+1,u,u',g,by rw[LD];exact a,l,m⟩
theorem xE(I:p0 X pins σ H s)(m:t5 X.K ρ M H){n:Nat}{a:d5}(e:ρ[n]?=a7 a)(c:M[n]?=a7 (.dkm kvs)):∃xs,H a=a7 (.ext<|dM a xs)/\Paired (Ik X.K ρ H) kvs xs/\dM a xs X.prog X.w s.heap/\(a==d8)=c5/\kvs.length<=sizeLine/\xs.length=kvs.length/\(kvs.map (·.1)).Nodup:=by
 obtain⟨h1,h2,b,xs,h,r⟩:=m.obj _ _ _ e c;refine⟨xs,h,r,(show bD X.prog X.w H s.heap a (.ext<|dM a xs)from I.hok a _ h).1,h2,h1,?_,b⟩;have:=o6 Hy<|iz r
 rwa [t7,t7]at this
theorem xy(I:p0 X pins σ H s)(P:t5 X.K ρ M H)(G:A.units+8<j5)(r:Paired (Ik X.K ρ H) kvs xs)(O:(kvs.map (·.1)).Nodup)(D:s.heap.get? a=a7 o) (B:o.data=.dict es ep) (C:es.toList=xs.map (xD<|JH X.w)) (t:p9 X.K ρ H k u) (Z:aG u key) (i:tT k=a9)(R:(∀(j:Nat) (p:c6×c6),xs[j]?≠a7 (k,p))->Q a8 s) (n:∀(j:Nat) (p:c6×c6),xs[j]?=a7 (k,p)->Q (a7 j) s):f9 (g7 X.prog X.w) A (dictFind a key<|JH X.w k) Q E s:=by
 refine zX D B C (by rw[iz r];exact O) ?_ (λQ E h=>nI I t Z i h) (λx c Q E h=>?_) (λx c e=>?_) (λx c Q E h=>?_) R n;rcases jx I t Z i with⟨rfl,rfl⟩|⟨J,b,rfl,rfl,_⟩
 exact .inl rfl;exact .inr ⟨b,rfl⟩;obtain⟨p,_,l,f,⟨F,g,q⟩,_⟩:=yW r c;exact nI I g q f h;obtain⟨p,_,l,f,⟨F,g,q⟩,_⟩:=yW r c;rw[e]at q;rw[<-l];rcases jx I g q f with⟨v,m⟩|⟨J,b,v,m,z⟩<;>rcases jx I t Z i with⟨y,N⟩|⟨L,S,y,N,d⟩
 rw[v,y];rw[m]at N;cases N;rw[m]at N;cases N;rw[m]at N;cases N;rw[v,y];exact jz 8 _ _ _ z d;obtain⟨p,_,l,f,⟨F,g,q⟩,_⟩:=yW r c;rw[<-l]at h;exact GE I P G g q f t Z i _ _ _ _ h
theorem t5.writeM(S:t5 X.K ρ M H)(t:ρ[n]?=a7 a)(w:M[n]?=a7 (.dkm kvs))(s:H a=a7 (.ext<|dM a xs))(x:kvs'.length<=sizeLine)(hs:(a==d8)=c5)(y:(kvs'.map (·.1)).Nodup)(r:Paired (Ik X.K ρ H) kvs' xs'):t5 X.K ρ (M.set n<|.dkm kvs') (t8 H a<|.ext<|dM a xs')/\Grow X.K ρ H ρ (t8 H a<|.ext<|dM a xs'):=by
 have g:Grow X.K ρ H ρ (t8 H a<|.ext<|dM a xs'):=⟨Kn,λ_ _ h=>x9.writtenX s h⟩
 have k:∀m,m≠n->(M.set n<|.dkm kvs')[m]?=M[m]?:=λm d=>IT<|v5 d;have c:¬HZ M[n]?:=λ⟨_,z⟩=>by rw[w]at z;cases z
 refine⟨⟨λm i b e f N=>?_,by rw[G9];exact S.len,λm b o f N=>?_⟩,g⟩;have q:=S.nd m i b e f N;by_cases h1:m=n;subst h1;rw[k i<|v5 e];exact .inr<|q.resolve_left c;rw[k m h1];by_cases h2:i=n;subst h2;exact .inl<|q.resolve_right c;rw[k i h2];exact q;by_cases d:m=n;subst d;obtain rfl:b=a:=A1<|f.symm.trans t;rw[IA<|by rw[<-S.len];exact(w9.mp t).1]at N;cases N;refine⟨x,hs,y,xs',aB,Paired.mapP r ?_⟩;rintro _ _ ⟨A,B,⟨u,C,j⟩,v,D,E⟩;exact⟨A,B,⟨u,C.grow g,j⟩,v,D.grow g,E⟩;rw[k m d]at N;by_cases l:b=a;subst l;have p:=(S.nd m n b d f t).resolve_right c;rw[N]at p;exact(S.obj m b o f N).grow g<|.inr p;exact(S.obj m b o f N).grow g<|.inl<|af l
theorem sy(d:dM a xs P w h'):bD P w H' h' a (.ext<|dM a xs):=by obtain⟨o,es,t,m,R,I⟩:=d;refine⟨⟨o,es,t,m,R,I⟩,⟨o,t⟩,?_⟩;rintro h1 h2 ⟨o,es,t,m,R,I⟩ k;exact⟨o,es,k _ t,m,R,I⟩
theorem nK(h:aR kvs k=a8):fO kvs k d=kvs++[(k,d)]:=by unfold fO;rw[h];rfl
theorem vW(r:Paired (Ik X.K ρ H) kvs xs)(h:Ik X.K ρ H p q):Paired (Ik X.K ρ H) (kvs++[p]) (xs++[q]):=by
 induction r with
 |nil=>exact .cons h .nil
 |cons z _ i=>exact .cons z i
end
section
variable{X:Cx}{o i value:ge}{td ty tv:u6}{pos pos':Pos}{k:Nat}
def Am:u6:=λ_ M Q=>Q (.ref M.length)<|M++[.dkm []]
theorem Hh:DE X (.Dict [] [] pos) Am:=by rintro p s σ H R I ⟨S,M,ρ,Q,m,e,q,F⟩;have f:H s.heap.objs.size=a8:=I.hok.fresh<|t6 _;have d:(s.heap.objs.size==d8)=c5:=beq_eq_false_iff_ne.mpr<|v5<|v7 I.big;refine wpAny_Dict_empty ⟨.ref s.heap.objs.size,_,I.laid (a:=s.heap.objs.size) (o:=.ext<|dM s.heap.objs.size []) (t':=s.toks) (λ_ _ q=>u4 _ q) (t6 _)<|sy ⟨_,#[],v8 _ rfl,⟨rfl,rfl,rfl⟩,rfl,rfl⟩,rfl,?_⟩;exact F _ _ ⟨.ref M.length,M++[.dkm []],ρ++[s.heap.objs.size],m.laidM (mo:=.dkm []) f ⟨v9 _,d,KQ,[],aB,.nil⟩,Grow.laidR f,.ref m.last,(show Q (.ref M.length) (M++[.dkm []])from q)⟩
def J6(r:Nat->C1)(e:u6)(t:D7):u6:=λS M Q=>e S M λx a=>match x with
 |.ref n=>(∃s,a[n]?=a7 (.dkm s))/\t S a λds b=>r n ds b Q
 |_=>False
variable{name:c7}{id:String}{e:ge}{es:List ge}{to:u6}{t:D7}{apos cpos:Pos}
theorem d_mm{r:Nat->C1}(slot:Slot "dict" name id)(y:k7 (.builtin id)=pure (.type "method_descriptor"))(V:Ia X id (jt X.K r))(W:DE X o to)(U:DA X (e::es) t)(c:k8 o name X.env (eval o X.env)=eval o X.env:=by rfl)(f:((g8 cpos<|g9 (e::es) X.env).all (λx=>!x.1)&&(k9 cpos<|l3 [] X.env).all (λx=>x.1.isSome) && decide ((e::es).length+([]:List l4).length+(if ([]:List l4).isEmpty then 0 else 1)<30))=a9:=by rfl)(d:(apos.endLine==cpos.line)=a9:=by rfl) (hs:g9 (e::es) X.env=(c5,eval e X.env)::g9 es X.env:=by rfl) (h:(g8 cpos<|g9 es X.env).any (·.1)=c5:=by rfl):DE X (.Call (.Attribute o name apos) (e::es) [] cpos) (J6 r to t):=by
 rintro p s σ H R I ⟨S,M,ρ,Q,sm,J,q,Z⟩;refine Ng c f d rfl<|u3 (W p s σ H _ I ⟨S,M,ρ,_,sm,J,q,λv H' z=>z⟩) ?_;rintro u s1 ⟨v,L,C,rv,x,i,A,j,g1,r1,g⟩;cases r1 with
 |@ref n a F =>
  obtain rfl:u=ABG a:=rv;obtain⟨⟨k,T⟩,g⟩:=(show (∃k,i[n]?=a7 (.dkm k))/\t S i _ from g)
  obtain⟨xs,hH,r,⟨G,eb,h1,h2,h3,h4⟩,Y,hl,hx,nd⟩:=xE C j F T;refine⟨"dict",id,Mx,slot,y,⟨G,h1,h2.1⟩,λb z=>?_,?_⟩;cases z;exact⟨G,h1,h2.2.1⟩;have E:=U cpos p s1 σ L _ C ⟨S,i,A,_,j,J.grow g1,g,λvs H' z=>z⟩;rw[hs]at E ⊢;refine K3 (by show (c5||(g8 cpos<|g9 es X.env).any (·.1))=c5;rw[h]<;>rfl)<|M9 ?_;refine u3 E ?_;rintro us s2 ⟨vs,N,O,l,ds,P,B,m,D,rr,q2⟩;exact V p s2 σ N (.ref a) vs (.ref a) us R O rfl l ⟨n,a,ds,P,B,Q,rfl,am D.pre F,m,rr,q2,λv H' w=>Z v H'<|VQ.trans (g1.trans D) w⟩
 |_=>exact g.elim
def kM(n:Nat):C1:=λds M Q=>match ds with
 | [k,d]=>∃s,M[n]?=a7 (.dkm s)/\tT k=a9/\Q ((aR s k).getD d) M
 |_=>False
theorem zj(hr:Room k X.A):Ia X "dict.get" (jt X.K kM):=by
 rintro G s σ H x xs v us R I rx rs ⟨n,a,ds,M,ρ,Q,Y,hn,m,f,q,D⟩;have un:=hr.un;unfold kM at q;split at q;rename_i k d;obtain⟨ai,Z,C,q⟩:=q;have z:=Reps.inv_cons f;clear f;obtain⟨_,_,rfl,J,f⟩:=z;have z:=Reps.inv_cons f;clear f;obtain⟨_,_,rfl,r2,f⟩:=z;obtain rfl:=Reps.inv_nil f;obtain⟨T,O,rfl,t,V⟩:=ao.two rs;subst Y;obtain rfl:v=ABG a:=rx;obtain⟨ys,hH,r,⟨ob,eb,h1,h2,l,B⟩,W,hl,hx,E⟩:=xE I m hn Z;refine call_meetsIn Mt ⟨ob,h1,h2.1⟩ PySem.F.entry_dict_get (PySem.F.args_dict_get_3 _ _ _) (.of_wp λA R s (h:f9 (g7 X.prog X.w) A.in1 (Builtin.«dict.get» ⟨[.ref a,T,O],[]⟩) (λc s'=>∃v,c=.done (.ret v)/\R (.ok<|.ret v) s') (λe s'=>R (.error e) s') s)=>h) ?_;show f9 _ _ (dictGet a T >>= _) _ _ s;unfold dictGet;refine o8 ?_
 try with_reducible refine C9 ?_
 refine o8<|su I (by show X.A.units+1+8<j5;lia) J t C λN=>?_;refine o8<|xy (I.tok N) m (by show X.A.units+1+8<j5;lia) r E h1 l B J t C (λo=>?_) λj p L=>?_;rcases mf r k with⟨b,_⟩|⟨i,P,j,u,g,b,y,S,U⟩
 rw[b]at q;refine p4 ?_;show f9 _ _ (Builtin.Dict.missed a T >>= _) _ _ _;exact o8<|wpAny_missed_other W<|p4 ⟨O,rfl,_,H,I.tok _,V,D _ _ ⟨d,M,ρ,m,.refl,r2,q⟩⟩;exact n6 y<|o j _;refine o8<|Jz (s:={ s with toks:=N }) h1 l ?_;rcases mf r k with⟨_,o⟩|⟨i,P,j',u,g,b,y,S,U⟩
 exact n6 L<|o j p;have:j=j':=eI (by rw[iz r];exact E) L y;subst this;rw[L]at y;rw[mr B j,L];rw[b]at q;obtain rfl:p=(u,g):=by injection y with y;injection y
 exact p4<|p4 ⟨g,rfl,P,H,I.tok _,U,D _ _ ⟨i,M,ρ,m,.refl,S,q⟩⟩;exact q.elim
def nJ(n:Nat):C1:=λds M Q=>match ds with
 | [k,d]=>∃s,M[n]?=a7 (.dkm s)/\tT k=a9/\s.length<sizeLine/\(∀y,aR s k=a7 y->Q y M)/\(aR s k=a8->Q d (M.set n<|.dkm<|s++[(k,d)]))
 |_=>False
theorem zi(hr:Room k X.A):Ia X "dict.setdefault" (jt X.K nJ):=by
 rintro ai s σ H x xs v us R I rx rs ⟨n,a,ds,M,ρ,Q,ez,Y,m,f,q,Z⟩;have un:=hr.un;unfold nJ at q;split at q;rename_i k d;obtain⟨g,V,C,kl,q1,q2⟩:=q;have z:=Reps.inv_cons f;clear f;obtain⟨_,_,rfl,J,f⟩:=z;have z:=Reps.inv_cons f;clear f;obtain⟨_,_,rfl,r2,f⟩:=z;obtain rfl:=Reps.inv_nil f;obtain⟨T,L,rfl,o,O⟩:=ao.two rs;subst ez;obtain rfl:v=ABG a:=rx;obtain⟨ys,U,r,⟨ob,P,h1,h2,b,i⟩,W,hl,hx,D⟩:=xE I m Y V;have aj:P.size=ys.length:=by rw[<-C3,i,t7]
 refine call_meetsIn PySem.F.slot_dict_setdefault ⟨ob,h1,h2.1⟩ PySem.F.entry_dict_setdefault (PySem.F.args_dict_setdefault_3 _ _ _) (.of_wp λA R s (h:f9 (g7 X.prog X.w) A.in1 (Builtin.«dict.setdefault» ⟨[.ref a,T,L],[]⟩) (λB s'=>∃v,B=.done (.ret v)/\R (.ok<|.ret v) s') (λe s'=>R (.error e) s') s)=>h) ?_;unfold Builtin.«dict.setdefault»;refine o8 ?_;unfold Builtin.Dict.keyAndDefault;refine o8<|LC (show s.TypeIs (.ref a) "dict" from⟨ob,h1,h2.1⟩) ?_;show f9 _ _ (pure (a,T,a7 L)) _ _ s;refine p4 ?_;show f9 _ _ (if (a==d8)=a9 then _ else(dictSetDefault a T L >>= _)) _ _ s;rw[n5<|by rw[W];exact Iz];unfold dictSetDefault;refine o8 ?_
 try with_reducible refine C9 ?_
 refine o8<|su I (by show X.A.units+1+8<j5;lia) J o C λt=>?_;refine o8<|xy (I.tok t) m (by show X.A.units+1+8<j5;lia) r D h1 b i J o C (λG=>?_) λj p l=>?_;have S:aR g k=a8:=by
  rcases mf r k with⟨N,_⟩|⟨_,_,j,_,_,_,y,_⟩
  exact N;exact n6 y<|G j _
 have E:((g++[(k,d)]).map (·.1)).Nodup:=by rw[<-nK S];exact pJ D
 obtain⟨w1,w2⟩:=m.writeM (xs':=ys++[(k,T,L)]) Y V U (by rw[v4,F9];lia) W E<|vW r ⟨rfl,C,⟨_,J,o⟩,_,r2,O⟩;have sb:IH a s.heap (s.heap.update a<|Obj.mapDictKeys λe=>e.push ⟨JH X.w k,T,L⟩):=HV ..;have c:dM a (ys++[(k,T,L)]) X.prog X.w (s.heap.update a<|Obj.mapDictKeys λe=>e.push ⟨JH X.w k,T,L⟩):=by refine⟨_,P.push ⟨JH X.w k,T,L⟩,HY _ h1<|M7<|Mq b _,h2.mapDictKeys _,?_,?_⟩;rw[Mq b,v4];rfl;rw[Array.toList_push,i,C4];rfl
 have he:∃q,(s.heap.update a<|Obj.mapDictKeys λe=>e.push ⟨JH X.w k,T,L⟩).get? a=a7 q:=let ⟨q,_,hq,_⟩:=c;⟨q,hq⟩
 refine o8<|G7<|o8<|wpAny_updateDictKeys (hz:=by lia) (s:={ s with toks:=t }) h1 b<|p4<|p4 ⟨L,rfl,?_⟩;exact⟨_,_,xH (I.tok t) (by rw[U];exact JM) sb he<|sy c,O,Z _ _ ⟨d,_,ρ,w1,w2,r2.grow w2,q2 S⟩⟩;refine o8<|Jz (s:={ s with toks:=t }) h1 b ?_;rcases mf r k with⟨_,G⟩|⟨d',v',j',u,u',N,y,z3,z4⟩
 exact n6 l<|G j p;have:j=j':=eI (by rw[iz r];exact D) l y;subst this;rw[l]at y;rw[mr i j,l];obtain rfl:p=(u,u'):=by injection y with y;injection y
 exact o8<|G7<|p4<|p4 ⟨u',rfl,v',H,I.tok _,z4,Z _ _ ⟨d',M,ρ,m,.refl,z3,q1 _ N⟩⟩;exact q.elim
end
theorem Gc:HE X (.Dict [] [] pos) Am:=⟨Hh⟩
theorem Gd(i:Room k X.A)(D:HE X o to)(f:HA X (e::es) t)(h:k8 o "get" X.env (eval o X.env)=eval o X.env:=by kernel_rfl)(w:((g8 cpos<|g9 (e::es) X.env).all (λx=>!x.1)&&(k9 cpos<|l3 [] X.env).all (λx=>x.1.isSome) && decide ((e::es).length+([]:List l4).length+(if ([]:List l4).isEmpty then 0 else 1)<30))=a9:=by kernel_rfl)(a:(apos.endLine==cpos.line)=a9:=by kernel_rfl) (hs:g9 (e::es) X.env=(c5,eval e X.env)::g9 es X.env:=by kernel_rfl) (n:(g8 cpos<|g9 es X.env).any (·.1)=c5:=by kernel_rfl):HE X (.Call (.Attribute o "get" apos) (e::es) [] cpos) (J6 kM to t):=⟨d_mm Mt PySem.F.type_dict_get (zj i) D.ok f.ok h w a hs n⟩
theorem Gb(i:Room k X.A)(D:HE X o to)(f:HA X (e::es) t)(h:k8 o "setdefault" X.env (eval o X.env)=eval o X.env:=by kernel_rfl)(w:((g8 cpos<|g9 (e::es) X.env).all (λx=>!x.1)&&(k9 cpos<|l3 [] X.env).all (λx=>x.1.isSome) && decide ((e::es).length+([]:List l4).length+(if ([]:List l4).isEmpty then 0 else 1)<30))=a9:=by kernel_rfl)(a:(apos.endLine==cpos.line)=a9:=by kernel_rfl) (hs:g9 (e::es) X.env=(c5,eval e X.env)::g9 es X.env:=by kernel_rfl) (n:(g8 cpos<|g9 es X.env).any (·.1)=c5:=by kernel_rfl):HE X (.Call (.Attribute o "setdefault" apos) (e::es) [] cpos) (J6 nJ to t):=⟨d_mm PySem.F.slot_dict_setdefault PySem.F.type_dict_setdefault (zi i) D.ok f.ok h w a hs n⟩
def EG(n:Nat):C1:=λds M Q=>match ds with
 | []=>∃xs d,M[n]?=a7 (.lst<|xs++[d])/\Q d (M.set n<|.lst xs)
 |_=>False
theorem Cp:Ia X "list.pop" (jt X.K EG):=by
 rintro p s σ H x xs v us R I t o ⟨n,a,ds,M,ρ,Q,c,f,m,j,q,k⟩;unfold EG at q;split at q;obtain⟨ys,d,e,q⟩:=q;obtain rfl:=Reps.inv_nil j;obtain⟨vs,h,r⟩:=m.obj n a _ f e;have l:=r.length;rw[v4,F9]at l;obtain⟨y,b,u⟩:=r.get (i:=ys.length) (d:=d) (by simp);have g:Reps X.K ρ H ys vs.dropLast:=by have:=r.take ys.length;rw[List.take_left]at this;rw[List.dropLast_eq_take,<-l,Mj];exact this
 obtain⟨L,w⟩:=m.write f e h g;exact FC p s σ H x _ v us R I t o ⟨a,vs,y,c,rfl,h,by rw[<-l,Mj];exact b,k _ _ ⟨d,_,ρ,L,w,u.grow w,q⟩⟩;exact q.elim
theorem Gu:KH X "pop" EG:=⟨_,PySem.F.slot_list_pop,PySem.F.type_list_pop,Cp⟩
noncomputable def Itb(K:q9)(a:d5)(n:Nat):It:=⟨λi H=>i<n/\∃xs x,Fn K H a xs/\xs[n-1-i]?=a7 x,λi H x H'=>H'=H/\∀xs,Fn K H a xs->xs[n-1-i]?=a7 x,λi H=>i=n⟩
theorem yp{P:c9}{w:c8}{K:q9}{W:ge}(a it:d5)(n:Nat):Turn P w K W (Itb K a n) [it] it (λi h=>i<=n/\h.IsRevIter it a ((n:Int)-1-(i:Int))) where
 mem:=by simp
 obj:=λi h l b g=>by
  obtain rfl:b=it:=by simpa using g
  obtain⟨_,o,e,c,d⟩:=l;exact⟨o,e,λv z=>by rw[d]at z;cases z⟩
 keep:=λi h h' l k=>⟨l.1,l.2.at λo e=>k it (by simp) o e⟩
 item:=by intro X C D B F i f s σ H E I m l S;subst C D B;obtain⟨hi,xs,x,G,J⟩:=S;obtain⟨its,R,p,Y⟩:=I.list G;obtain⟨u,O,T⟩:=R.get J;obtain⟨q,r,N,t,y,A⟩:=m it (by simp);have U:=l.2;rw[show (n:Int)-1-(i:Int)=((n-1-i:Nat):Int) by lia]at U;refine wpAny_pyNext_rev_item U p.isList (x:=u) (by simpa using O) λh' j V=>?_;rw[show ((n-1-i:Nat):Int)-1=(n:Int)-1-((i+1:Nat):Int) by lia]at j;have L:p0 X f σ H { s with heap:=h' }:=I.turned (t':=s.toks) (λb o g e=>(V.2 b g).trans e) q r t y A;obtain⟨o,e,c,d⟩:=id j;exact⟨u,rfl,qm (s:={ s with heap:=h' }) e c d (by decide) ⟨x,H,L,T,⟨rfl,λys Q=>by rw[I.list_inj Q G];exact J⟩,⟨hi,j⟩,λb g=>(m b g).1⟩⟩
 done:=by intro X C D B F i f s σ H E I m l S;subst C D B;obtain rfl:i=n:=S;obtain⟨q,r,N,t,y,A⟩:=m it (by simp);have U:=l.2;rw[show (i:Int)-1-(i:Int) = -1 by lia]at U;exact wpAny_pyNext_rev_end (I.ok.hd F) U λh' M=>⟨rfl,I.turned (t':=s.toks) (λb o g e=>M b o g e) q r t y A⟩
 self:=λ_ _ _ _ _ l h=>wpAny_pyIter_revIter l.2 h
theorem my:e8 "reversed" = a7 (.type "reversed"):=by decide +kernel
def Al(t:D7):Ib:=λS M R=>t S M λds a=>match ds with
 | [.ref n]=>∃xs,ak a n xs/\(xs.length<=sizeLine->R ⟨xs.reverse,λM=>ak M n xs⟩ a)
 |_=>False
theorem GY{a:ge}{G:D7}{p j:Pos}(W:X.mg "reversed" = a8)(O:DA X [a] G)(U:Gl X "reversed":=by rfl)(hs:g9 [a] X.env=[(c5,eval a X.env)]:=by rfl):DI X tg (.Call (.Name "reversed" p) [a] [] j) (Al G):=by
 intro f s σ H R I h;obtain⟨S,M,ρ,Q,sm,sr,Y,k⟩:=h;refine Call_<|dS I U W my<|LH (u3 (O j f s σ H _ I ⟨S,M,ρ,_,sm,sr,Y,λv H' w=>w⟩) ?_) hs rfl;rintro us A ⟨vs,E,q,r1,ds,J,D,m,g1,z,t⟩
 try dsimp only at t
 split at t;rename_i n;obtain⟨xs,N,q2⟩:=t;have C:=Reps.inv_cons z;clear z;obtain⟨_,_,rfl,K,z⟩:=C;obtain rfl:=Reps.inv_nil z;obtain⟨u,rfl,L⟩:=ao.one r1;obtain⟨a,rfl,B⟩:=p9.inv_ref K;obtain rfl:u=ABG a:=L;obtain⟨ws,Z,r⟩:=ak.seq m N B;obtain⟨its,rv,p,hz⟩:=q.list Z;have lr:=r.length;have lv:=rv.length;refine call_reversed_list p.isList ?_;refine wpAny_pyIter_revIter (l:=a) (i:=((its.toArray.size:Int)-1)) ⟨_,v8 _ rfl,rfl,rfl⟩ ?_;refine⟨A.heap.objs.size,[A.heap.objs.size],_,_,E,rfl,q.kept (t':=A.toks) λb o e=>u4 _ e,yp a _ xs.length,⟨v9 _,_,v8 _ rfl,rfl,?_⟩,λb P=>?_,k _ E ⟨⟨xs.reverse,λM=>ak M n xs⟩,J,D,m,g1,?_,q2<|by lia⟩⟩;show Data.fields #[.ref a,j0<|(its.toArray.size:Int)-1]=Data.fields #[.ref a,j0<|(xs.length:Int)-1-((0:Nat):Int)];rw[v6,<-lv,<-lr,show ((xs.length:Int)-1-((0:Nat):Int))=(xs.length:Int)-1 by lia];obtain rfl:b=A.heap.objs.size:=by simpa using P
 exact q.fpOk (t6 _)<|q.hok.fresh<|t6 _;refine⟨λi c F H' s' g ok hi=>?_,λi c F H' x H2 s' g ok hi y=>?_,λc F H' s' g ok=>?_⟩;rw[ACR]at hi;obtain⟨vs,h,r⟩:=ak.seq s' ok<|am g.pre B;have V:xs.length-1-i<vs.length:=by rw[<-r.length];lia
 exact⟨hi,vs,vs[xs.length-1-i],h,u9 V⟩;rw[ACR]at hi;obtain⟨rfl,y⟩:=y;obtain⟨vs,h,r⟩:=ak.seq s' ok<|am g.pre B;obtain⟨d,T,rd⟩:=r.getV<|y vs h;exact⟨d,c,by rw[List.getElem?_reverse hi];exact T,s',.refl,rd⟩;exact(ACR:xs.reverse.length=xs.length);exact t.elim
theorem FQ(d:X.mg "reversed" = a8)(f:HA X [a] ta)(S:X.env.kindOf "reversed" = a7 .globalImplicit:=by kernel_rfl)(hs:g9 [a] X.env=[(c5,eval a X.env)]:=by kernel_rfl):HI X tg (.Call (.Name "reversed" p) [a] [] pos) (Al ta):=⟨GY d f.ok S hs⟩
section
open PySem.W
structure ExcK(K:Frag)(D:d5):Prop where
 ga:findIn K (.ref D) "__getattribute__" = a7 (a7<|.builtin "BaseException.__getattribute__")
 gt:findIn K (.ref D) "__getattr__" = a7 a8
 mb:mroIn K D (.type "BaseException")=a7 a9
 mo:mroIn K D (.type "object")=a7 a9
 cl:findIn K (.ref D) "__class__" = a7 (a7<|.builtin "object.__class__")
end
noncomputable def trO(o:d6)(T:d5):d6:=o.mapFields (·.setIfInBounds 1 (.ref T))
inductive TrX(h base:d7)(l:List Env)(e:d5)(o:d6)(fl:c6):Prop
 |mk (T:d5) (oT:d6) (vs ts:Array c6) (st:base.StaysIn h) (nw:base.get? e=a8) (ff:h.FunFrames base l) (d:o.data=.fields vs) (sz:1<vs.size) (at_:h.get? e=a7 (trO o T))
  (nT:base.get? T=a8) (ne:T≠e) (aT:h.get? T=a7 oT) (dT:oT.data=.fields ts) (h3:ts[3]?=a7 fl)
inductive Fly(P:c9)(w:c8)(stk:List Env)(H:Hp)(h0:d7)(a:d5)(C:c6)(H1:Hp)(h:d7):Prop
 |mk (B:d7) (o:d6) (ix:MU o C) (fly:TrX h B stk a o .none) (un:Un (G0 stk) [] H H1 h0 h) (hok:B9 P w H1 h)
  (old:∀b o,h0.get? b=a7 o->b∉G0 stk->∃o',B.get? b=a7 o'/\(H b=a8->o'=o)) (trk:∀b u,H1 b=a7 u->∃o,B.get? b=a7 o)
structure DefX(X:Cx):Prop where
 stk:X.stack=X.env::X.outer
 fr:X.env.frame=a7 X.env.locals
 ex:X.ex=[]
def CXe(P:c9)(w:c8):JJ:=λk H s E e s'=>∃a C b,e=.ref a/\s'.os=s.os/\f8 s'.gens/\Fly P w k H s.heap a C b s'.heap/\E C a8 b
noncomputable abbrev vE:List c6:=[.type "ValueError",.type "Exception",.type "BaseException",.type "object"]
abbrev DX:=c7->p8->Prop
abbrev MW:=DX->p5
abbrev DTEX:=DX->u6
abbrev DSpX:=List D->p8->DK->DX->Prop
inductive XQ(K:q9)(ρ:List d5)(H:Hp)(R:DX)(C:c6)(dx:Option d5)(H':Hp):Prop
 |mk (x:c7) (c:d5) (M':p8) (ρ':List d5) (e:C=.ref c) (hx:PySem.W.nsIn K d9 x=a7 (a7 (.ref c))) (s:t5 K ρ' M' H') (g:Grow K ρ H ρ' H') (q:R x M')
inductive lowX(K:q9)(E:XK)(t:MW)(D:Ends)(σ:St)(H:Hp):Prop
 |mk (S:SD) (M:p8) (ρ:List d5) (F:DEnds) (R:DX) (s:t5 K ρ M H) (sr:SRep K ρ H S σ) (q:t R F S M) (k:Ld K ρ H F D) (x:∀C dx H',XQ K ρ H R C dx H'->E C dx H')
inductive lowXE(K:q9)(E:XK)(t:DTEX)(σ:St)(H:Hp)(Q:VK):Prop
 |mk (S:SD) (M:p8) (ρ:List d5) (F:DK) (R:DX) (s:t5 K ρ M H) (sr:SRep K ρ H S σ) (q:t R S M F) (k:∀v H',VQ K ρ H F v H'->Q v H') (x:∀C dx H',XQ K ρ H R C dx H'->E C dx H')
structure XA(b:Bool)(X:Cx)(pins:List (d5×d6))(E:XK)(P:St->Prop)(Ex:c6->f6->Prop):Prop where
 on:∀σ H1 s1 e s',P σ->p0 X pins σ H1 s1->CXe X.prog X.w X.stack H1 s1 E e s'->Ex e s'
 all:b=a9->∀σ,P σ
 made:b=a9->∀σ H1 s1 h' e C vs,p0 X pins σ H1 s1->Heap.MadeExcOf s1.heap h' e C vs->E C a8 H1->Ex (.ref e) { s1 with heap:=h' }
structure HX(b:Bool)(X:Cx)(st:h8)(t:MW):Prop where
 ok:∀(pins:List (d5×d6)) (s:f6) (σ:St) (H:Hp) (D:Ends) (E:XK) (P:St->Prop) (Ex:c6->f6->Prop),XA b X pins E P Ex->P σ->p0 X pins σ H s->lowX X.K E t D σ H->f9 (g7 X.prog X.w) X.A (exec st X.env) (SP X pins D) Ex s
structure HXs(b:Bool)(X:Cx)(st:List h8)(t:MW):Prop where
 ok:∀(pins:List (d5×d6)) (s:f6) (σ:St) (H:Hp) (D:Ends) (E:XK) (P:St->Prop) (Ex:c6->f6->Prop),XA b X pins E P Ex->P σ->p0 X pins σ H s->lowX X.K E t D σ H->f9 (g7 X.prog X.w) X.A (execs st X.env) (SP X pins D) Ex s
structure HXE(b:Bool)(X:Cx)(e:ge)(t:DTEX):Prop where
 ok:∀(pins:List (d5×d6)) (s:f6) (σ:St) (H:Hp) (Q:VK) (E:XK) (P:St->Prop) (Ex:c6->f6->Prop),XA b X pins E P Ex->P σ->p0 X pins σ H s->lowXE X.K E t σ H Q->f9 (g7 X.prog X.w) X.A (eval e X.env) (EP X pins σ Q) Ex s
structure ClsX(K:q9)(x:c7)(C:d5):Prop where
 at_:PySem.W.nsIn K d9 x=a7 (a7<|.ref C)
 exc:PySem.W.excIn K C vE "ValueError.__new__" = a9
 own:ExcK K C
 val:L3 K (.ref C) (.type "ValueError")=a7 a9
structure RoomH(k:Nat)(A:e9):Prop where
 dp:A.depth+3*k+5<recursionLimit
 un:A.units+16*k+200<j5
def Hr(A:e9)(H:Hp):Prop:=∃a o C,A.handled=a7 (.ref a)/\H a=a7 (.frz o<|.own a)/\MU o C
structure FnH(P:c9)(w:c8)(K:q9)(mg:c7->Option c6)(base:d7)(k:Nat)(f:d5)(fd:j6)(ps:List c7)(sp:Sp):Prop where
 len:∀vs H Q E,sp vs H Q E->vs.length=ps.length
 run:∀(A:e9) (outer:List Env) (s:f6) (H:Hp) (args:Args) (us:List c6) (vs:List V) (Q:VK) (E:XK),RoomH k A->Hr A H->Env0 P w K mg base A outer s H->BindsTo s fd args (ps.zip us)->ao vs us->sp vs H Q E ->j7 (g7 P w) A (.call (.ref f) args) (CR D3 outer P w H s Q E) s
end L2
namespace L2
open PySem PySem.Spec PyProof.Rows DL PySem.W
end L2
namespace L2
open PySem PySem.Spec PyProof.Rows DL
abbrev DTAX:=DX->D7
inductive lowXA(K:q9)(E:XK)(t:DTAX)(σ:St)(H:Hp)(Q:List V->Hp->Prop):Prop
 |mk (S:SD) (M:p8) (ρ:List d5) (F:List D->p8->Prop) (R:DX) (s:t5 K ρ M H) (sr:SRep K ρ H S σ) (q:t R S M F) (k:∀v H',AQ K ρ H F v H'->Q v H') (x:∀C dx H',XQ K ρ H R C dx H'->E C dx H')
structure HXA(b:Bool)(X:Cx)(es:List ge)(t:DTAX):Prop where
 ok:∀(pos:Pos) (pins:List (d5×d6)) (s:f6) (σ:St) (H:Hp) (Q:List V->Hp->Prop) (E:XK) (P:St->Prop) (Ex:c6->f6->Prop),XA b X pins E P Ex->P σ->p0 X pins σ H s->lowXA X.K E t σ H Q->f9 (g7 X.prog X.w) X.A (spliced<|g8 pos<|g9 es X.env) (AP X pins σ Q) Ex s
end L2
namespace L2
open PySem PySem.Spec PyProof.Rows DL PySem.W
end L2
namespace L2
open PySem PySem.Spec PyProof.Rows DL
section
open PySem.SeqAt
open PySem.AutoSeq1 (wpAny_loadPart')
open PySem.MeetsSeq PySem.MeetsSeq2 PySem.MeetsSeq3
theorem Cq(l b:d5)(c a:Array c6)(n M:Nat)(E z:Option d5)(O D:Array (Option c6))(k:Bool)(m:Nat):∀i:Nat,c.size-i=m->i<=c.size->i<=a.size->Meets (Builtin.«list.__eq__.loop» ⟨[.ref l,.ref b,j0 i,j0 0],[]⟩)
   (λA R s=>s.heap.get? l=a7 { cls:=.type "list",dict:=E,data:=.seq c n,slots:=O }/\s.heap.get? b=a7 { cls:=.type "list",dict:=z,data:=.seq a M,slots:=D } /\ LexAt A.in1 s (c.toList.drop i) (a.toList.drop i) k/\R (.ok<|.ret<|.bool k) s):=by
 induction m with
 |zero =>
  intro i I h1 h2 p w A R s h;obtain⟨J,g,d,P,N⟩:=s;obtain⟨r,o,x,h⟩:=h
  wp_walk using Iu r,Iu o
  have e:c[((i:Nat):Int).toNat]?=a8:=by simp;lia
  rw[e]
  wp_walk using Iu r,Iu o
  show R (.ok<|.ret<|.bool<|decide<|c.size<a.size) _;have F:c.toList.drop i=[]:=by simp;lia
  rw[F]at x;have K:k=decide (c.size<a.size):=by
   cases v:a.toList.drop i with
   |nil =>
    rw[v]at x;cases x;have:a.size<=i:=by simpa using v
    exact(dF_<|by lia).symm
   |cons y ys=>rw[v]at x;cases x;have:=o6 Hy v;simp at this;exact(dT_<|by lia).symm
  rw[<-K];exact h
 |succ m L =>
  intro i I h1 h2 p w A R s h;obtain⟨J,g,d,P,N⟩:=s;obtain⟨r,o,x,h⟩:=h;have u:i<c.size:=by lia
  have e:c[((i:Nat):Int).toNat]?=a7 c[i]:=by simp[u]
  have H:c.toList.drop i=c[i]::c.toList.drop (i+1):=by rw[MC<|by simpa using u];simp
  rw[H]at x
  wp_walk using Iu r,Iu o
  by_cases j:i<a.size;have f:a[((i:Nat):Int).toNat]?=a7 a[i]:=by simp[j]
  have q:a.toList.drop i=a[i]::a.toList.drop (i+1):=by rw[MC<|by simpa using j];simp
  rw[q]at x;have G:((i:Int)+1)=((i+1:Nat):Int):=by push_cast;rfl
  rw[e,f];cases x with
  |eq B t =>
   refine o8<|B p w _ _ ?_
   wp_walk
   rw[G];exact⟨Jw plain_eq_loop _,IM entry_eq_loop<|by rw[JD plain_eq_loop _];exact L (i+1) (by lia) (by lia) (by lia) p w A R _ ⟨r,o,t,h⟩⟩
  |ne B t =>
   refine o8<|B p w _ _ ?_;have C:=t p w
   wp_walk using Iu r,Iu o
   rw[e,f]
   wp_walk using C
   simpa using h
  have f:a[((i:Nat):Int).toNat]?=a8:=by simp;lia
  have q:a.toList.drop i=[]:=by simp;lia
  rw[q]at x;cases x;rw[e,f]
  wp_walk using Iu r,Iu o
  show R (.ok<|.ret<|.bool<|decide<|c.size<a.size) _;rw[dF_<|by lia];exact h
theorem Cr(l b:d5)(a i:Array c6)(n o:Nat)(e c:Option d5)(q f:Array (Option c6))(k:Bool):Meets (Builtin.«list.__lt__» ⟨[.ref l,.ref b],[]⟩)
   (λA R s=>s.heap.get? l=a7 { cls:=.type "list",dict:=e,data:=.seq a n,slots:=q }/\s.heap.get? b=a7 { cls:=.type "list",dict:=c,data:=.seq i o,slots:=f } /\ LexAt A.in1 s a.toList i.toList k/\R (.ok<|.ret<|.bool k) s):=by
 intro p w A R s h;obtain⟨r,g,d,v,u⟩:=s;obtain⟨m,j,x,h⟩:=h;have t:=AutoSeq1.sub_list_list
 wp_walk using Iu m,Iu j
 exact⟨Jw plain_eq_loop _,IM entry_eq_loop<|by rw[JD plain_eq_loop _];exact Cq l b a i n o e c q f k _ 0 rfl (v9 _) (v9 _) p w A R _ ⟨m,j,by simpa using x,h⟩⟩
end
section
open PySem.W
theorem zq(r:s.heap.IsList l items)(q:s.heap.IsList b items2)(u:A.units<j5)(x:LexAt A.in1 s items.toList items2.toList k)(h:Q k s):f9 (g7 prog w) A (keyLt' oneType' (.ref l)<|.ref b) Q E s:=by
 obtain⟨⟨t,p,g,y⟩,D,m,n,o⟩:=id r;obtain⟨⟨j,d,i,f⟩,e,a,v,c⟩:=id q;simp only at m o a c;subst m o a c;rw[keyLt'_oneType,oneLt'_eq];simp only[o5];refine o8<|wpAny_cRoomFor u ?_;have T:s.TypeIs (.ref l) "list":=⟨_,D,rfl⟩
 refine o8<|wpAny_callSpecialIfBound?_slot T PySem.F.slot_list_lt<|call_meets PySem.F.slot_list_lt T PySem.F.entry_list_lt (PySem.F.args_list_lt_2 _ _) (Cr l b items items2 n v p d y f k) ⟨D,e,x,?_⟩;exact Lx h
end
noncomputable def IV(M:p8):D->D
 |.ref i=>match M[i]? with
  |some a=>.tup a.items
  |none=>.non
 |_=>.non
structure SrtR(M:p8)(xs:List D):Prop where
 len:xs.length<64
 ls:∀x∈xs,∃n a,x=.ref n/\M[n]?=a7 a/\a.isL=a9
 ok:∀x∈xs,z5 p7 (IV M x)=a9
 cm:∀x∈xs,∀y∈xs,dE M p7 (IV M x) (IV M y)=a9
noncomputable def K9(M:p8)(x y:D):Bool:=z7 M p7 (IV M x)<|IV M y
def fM:C1:=λds M Q=>match ds with
 | [.ref n]=>∃xs,ak M n xs/\SrtR M xs/\∀ys,ys.Perm xs->ys.Pairwise (λa b=>K9 M b a=c5)->Q (.ref M.length) (M++[.lst ys])
 |_=>False
section
open PySem.W
theorem sZ(I:p0 X pins σ H s)(J:t5 X.K ρ M H)(g:SrtR M xs)(r:Reps X.K ρ H xs ws)(f:ao ws its)(h2:2<=its.length)(k:A.units+p7<j5):f9 (g7 X.prog X.w) A (keyKind' its.toArray) (λκ s'=>s'=s/\∀i j (C:Bool->f6->Prop),i<its.length->j<its.length->C (K9 M (xs.getD i default)<|xs.getD j default) s->IZ X.prog X.w A κ its i j C s) (λ_ _=>False) s:=by
 have lw:=r.length;have li:=f.length;have R:A.units+30<j5:=k;have at_:∀(x:D) (v:V) (u:c6),x∈xs->p9 X.K ρ H x v->aG v u->∃a vs c y,u=.ref a/\IV M x=.tup y/\Reps X.K ρ H y vs/\ao vs c/\s.heap.IsList a c.toArray:=λx v u hx e t=>by
  obtain⟨n,a,rfl,z,S⟩:=g.ls x hx;obtain⟨b,rfl,U⟩:=p9.inv_ref e;cases t;obtain⟨vs,Z,r⟩:=ak.seq J (jr z S) U;obtain⟨c,rv,pl,_⟩:=I.list Z;refine⟨b,vs,c,a.items,rfl,?_,r,rv,pl.isList⟩;show (match M[n]? with
   |some a=>D.tup a.items
   |none=>D.non)=_
  rw[z]
 refine kas_kind (T:=.type "list") h2 (λu k=>?_) (by decide) (by decide) ⟨rfl,λi j C hi hj h=>?_⟩;obtain⟨d,v,m,e,t⟩:=r.mem f k;obtain⟨a,_,_,_,rfl,_,_,_,o,Y,l,_⟩:=at_ d v u m e t;rw[<-l];exact(show PySem.W.Looks _ s.heap (k7<|.ref _) o.cls from(PySem.W.Looks.ld Y).andThen .now);unfold IZ;obtain⟨v1,e,t,m⟩:=r.getD' f (show i<xs.length by lia);obtain⟨v2,r2,O,q⟩:=r.getD' f (show j<xs.length by lia);obtain⟨a,vs,c,y,P,L,ra,va,la⟩:=at_ _ _ _ m e t;obtain⟨b,aj,B,ai,Q,N,rb,vb,lb⟩:=at_ _ _ _ q r2 O;have E:=wu M _ _<|g.ok _ m;have F:=wu M _ _<|g.ok _ q;have G:=g.cm _ m _ q;unfold K9 at h;rw[L,N]at h G;rw[L]at E;rw[N]at F;rw[P,Q];have p:A.in1.units+29<j5:=by show A.units+1+29<j5;lia
 exact zq la lb (by lia) (wJ I J 29 A.in1 p _ _ _ _ _ _ ra va rb vb E F G) h
theorem um(G:Room k X.A):jX X (.builtin "sorted") fM:=by
 rintro p s σ H vs us R I K ⟨ds,M,ρ,Q,m,d,q,F⟩;unfold fM at q;split at q;obtain⟨xs,B,c,q⟩:=q;have z:=Reps.inv_cons d;clear d;obtain⟨_,_,rfl,J,d⟩:=z;obtain rfl:=Reps.inv_nil d;obtain⟨u,rfl,y⟩:=ao.one K;obtain⟨a,rfl,e⟩:=p9.inv_ref J;cases y;obtain⟨N,j,r⟩:=ak.seq m B e;obtain⟨its,f,t,l⟩:=I.list j;have P:=r.length;have O:=f.length;by_cases h2:its.length<2;refine gW t.isList h2 λD h' n h C E=>?_;refine⟨.ref D,_,I.laid (t':=s.toks) (o:=.lst N) C h ⟨l,its,n,f,E⟩,rfl,F _ _<|VQ.laidL m .refl r (I.hok.fresh h)<|q xs (JQ _) ?_⟩
 match xs,(show xs.length<2 by lia) with
 | [],_=>exact KZ
 | [x],_=>exact LF _ _
 |_::_::_,hx=>simp at hx;lia
 have o:=wf (lt:=K9 M) (en:=λx=>enc p7<|IV M x) λa g b i=>jq (c.ok a g) (c.ok b i)<|c.cm a g b i;have L:=c.len;exact nC I m (λ_ w=>sZ w m c r f (by lia)<|mL G) o.1 o.2.1 o.2.2 r f t.isList l (by lia) (by lia) (I.sqL_ne j) λv H' x=>F v H'<|x Q q;exact q.elim
theorem tZ(i:Room k X.A):HC X (.builtin "sorted") fM:=⟨um i⟩
end
end L2
namespace LW
open PySem L2
local macro_rules | `(tactic| walk_at"sc")=>`(tactic| exact⟨rfl,rfl,rfl,by decide +kernel,rfl,by decide +kernel,by decide +kernel⟩)
local macro_rules | `(tactic| walk_at"dl")=>`(tactic| simp only[EE,fM,az,A2,ye,yf,Jh,ax,s9,aa,ag,aY,xJ,dOrV,H9,ux,cE,ar,bp,bb,fu,jU,p6,LP,dC,ab,gh,iq,Jr,jT,dY,Ij,cw,mv,AJ,qAdd,ba,DV,lJ,pI,vM,EH,JF,EI,Jp,K7,iY,C0,J4,BD,jM,u5,LO,bE,dAsg,Aj,jR,bh,jS,dZip,dMl0,fN,gG,fL,An,gj,qw,jD,qv,J5,hW,sE,sD,gk,EJ,lI,oH,vN,Am,J6,kM,nJ,EG,Al,DY,iX,iB,kY,Dx,SqAt,BC,kZ,LR,LQ,at2,Hz,Nv,bJ,Hb,A5,Lm,Kr,IN,Nj,LD,A0,G4,List.replicate_zero,List.replicate_succ,List.set_cons_zero,List.set_cons_succ,Kf,Nat.reduceAdd,Nat.reduceSub,Option.join_some,o5,o4,z6])
noncomputable def top(i:Nat):h8:=PySem.Challenge.pw_talkmarks_k23_rows_of_a_room.main.body.getD i<|.Pass ⟨0,0,0,0⟩
noncomputable abbrev B_:List c7:=["sorted","set","reversed","len","range","tuple","list","max","dict","isinstance","zip","bool"]
noncomputable abbrev C_:List (c7×Int):=[]
noncomputable abbrev eZ:List c7:=["pairs"]
noncomputable abbrev je:List c7:=["house","thing"]
noncomputable abbrev dO:List c7:=["house","room"]
noncomputable abbrev gJ:List c7:=["deed"]
noncomputable abbrev eY:List c7:=["deed"]
noncomputable abbrev bW:List c7:=["log","kind"]
noncomputable abbrev jd:List c7:=["say"]
noncomputable abbrev gI:List c7:=["say"]
noncomputable abbrev fe:List c7:=["house","say","elders"]
noncomputable abbrev bF:List c7:=["house","log"]
noncomputable abbrev cu:List c7:=["deed","says"]
noncomputable abbrev cN:List c7:=["log","kind","says"]
noncomputable abbrev bj:List c7:=["log","says"]
noncomputable abbrev bL:List c7:=["says","room"]
noncomputable abbrev dP:List c7:=["depth","stamps"]
noncomputable abbrev cr:List c7:=["beneath"]
noncomputable abbrev jc:List c7:=["house","log","room"]
noncomputable abbrev jf:List c7:=["_law_script","_law_k"]
noncomputable abbrev lT:List c7:=["_law_cell"]
noncomputable abbrev vY:List c7:=["_law_held","_law_many"]
noncomputable abbrev wd:List c7:=["_law_held"]
noncomputable abbrev pL:List c7:=["_law_held","_law_many"]
noncomputable abbrev pN:List c7:=["_law_cell"]
noncomputable abbrev lR:List c7:=["_law_held","_law_names_here"]
noncomputable abbrev wb:List c7:=["_law_held","_law_hands_here","_law_says"]
noncomputable abbrev lP:List c7:=["_law_held","_law_hands_here","_law_done"]
noncomputable abbrev vX:List c7:=["_law_held","_law_house_here","_law_hands_here","_law_says"]
noncomputable abbrev Ca:List c7:=["_law_held","_law_house_here","_law_hands_here","_law_says","_law_done"]
noncomputable abbrev pO:List c7:=["_law_house_here"]
noncomputable abbrev BX:List c7:=["_law_cells","_law_house_here"]
noncomputable abbrev wa:List c7:=["_law_log_here"]
noncomputable abbrev lQ:List c7:=["_law_house_here","_law_said_here","_law_stamp"]
noncomputable abbrev we:List c7:=["_law_log_here","_law_stamp"]
noncomputable abbrev wc:List c7:=["_law_said_here","_law_stamp"]
noncomputable abbrev BZ:List c7:=["_law_house_here","_law_log_here","_law_room"]
noncomputable abbrev vZ:List c7:=["_law_told","_law_due_here"]
noncomputable abbrev BY:List c7:=["_law_script"]
structure Tops(P:c9)(w:c8)(K:q9)(mg:c7->Option c6)(base:d7):Prop where
 f_firsts_of:cx K mg "firsts_of" (top 4) eZ
 f_is_room:cx K mg "is_room" (top 5) je
 f_members_of:cx K mg "members_of" (top 6) dO
 f_stamp_of:cx K mg "stamp_of" (top 8) gJ
 f_person_of:cx K mg "person_of" (top 9) eY
 f_deeds_of_kind:cx K mg "deeds_of_kind" (top 11) bW
 f_room_of:cx K mg "room_of" (top 13) jd
 f_under_of:cx K mg "under_of" (top 14) gI
 f_can_stand:cx K mg "can_stand" (top 15) fe
 f_says_that_count:cx K mg "says_that_count" (top 16) bF
 f_is_by_writer:cx K mg "is_by_writer" (top 17) cu
 f_writers_own:cx K mg "writers_own" (top 18) cN
 f_stamps_taken_back:cx K mg "stamps_taken_back" (top 19) bj
 f_stamps_beneath:cx K mg "stamps_beneath" (top 21) bL
 f_last_first:cx K mg "last_first" (top 22) dP
 f_rows_of_tree:cx K mg "rows_of_tree" (top 23) cr
 f_rows_of:cx K mg "rows_of" (top 24) jc
 f_cell_at:cx K mg "_law_cell_at" (top 26) jf
 f_digits:cx K mg "_law_digits" (top 27) lT
 f_take:cx K mg "_law_take" (top 28) vY
 f_name:cx K mg "_law_name" (top 29) wd
 f_names:cx K mg "_law_names" (top 30) pL
 f_house:cx K mg "_law_house" (top 31) pN
 f_saying:cx K mg "_law_saying" (top 32) lR
 f_pick:cx K mg "_law_pick" (top 33) wb
 f_vector:cx K mg "_law_vector" (top 34) lP
 f_what:cx K mg "_law_what" (top 35) vX
 f_act:cx K mg "_law_act" (top 36) Ca
 f_hands:cx K mg "_law_hands" (top 37) pO
 f_log:cx K mg "_law_log" (top 38) BX
 f_said:cx K mg "_law_said" (top 39) wa
 f_stands:cx K mg "_law_stands" (top 40) lQ
 f_gone:cx K mg "_law_gone" (top 41) we
 f_path:cx K mg "_law_path" (top 42) wc
 f_due:cx K mg "_law_due" (top 43) BZ
 f_same:cx K mg "_law_same" (top 44) vZ
 f_law:cx K mg "law" (top 45) BY
 b:TopB mg B_ C_
 bm:BMain mg base
local macro_rules | `(tactic| walk_at"bb")=>`(tactic| first|exact DO|exact DN|exact mz|exact Hq|exact DM|exact Ho|exact oW|exact At)
local macro_rules | `(tactic| walk_at"tb")=>`(tactic| exact TopB.no (by k_dflt assumption) (by kernel_rfl))
local macro_rules | `(tactic| walk_at"dvr")=>`(tactic| (repeat' (first|(with_reducible first|(refine gA ?_;first|exact FX|refine CP ?_ ?_)|exact k_var|(refine GA ?_;first|exact k_int|exact k_bl|exact k_non|exact k_str)|(refine gCall ?_;first|refine tW (by k_dflt assumption) ?_ (by walk_at"tb") (by walk_at"tb")|refine tX ?_ (by walk_at"tb")|refine xh (by k_dflt assumption) (by k_dflt assumption) (by k_dflt assumption) ?_ (by walk_at"tb") (λ_ _ _ _ _ _ _ _=>?_) (by k_dflt (exact wQ (by kernel_rfl))) (by k_dflt kernel_rfl) (by k_dflt kernel_rfl) (by k_dflt (intro _ _ _ _;kernel_rfl))|refine CT ?_ (by walk_at"tb") (by walk_at"bb") ?_|refine zL ?_ (by walk_at"tb") (by walk_at"bb") ?_|refine k_cal (by k_dflt assumption) (by k_dflt assumption) ?_|refine CQ (by k_dflt assumption) ?_ ?_|refine Gd (by k_dflt assumption) ?_ ?_|refine Gb (by k_dflt assumption) ?_ ?_|refine k_ml ?_ ?_ ?_|refine k_ml0 ?_ ?_)|(refine gIx ?_;first|refine CS ?_ ?_ ?_|refine Ga (by k_dflt assumption) ?_ ?_ (hs:=by k_dflt (intro _ _;kernel_rfl))|refine Ge (by k_dflt assumption) ?_ ?_ (hs:=by k_dflt (intro _ _;kernel_rfl))|refine k_ix ?_ ?_ (hs:=by k_dflt (intro _ _;kernel_rfl)))|(refine gT ?_;first|refine FK ?_ ?_ ?_|refine FJ ?_|refine kw_t (AN ?_ ?_)|refine kw_t (FG ?_ ?_)|refine FI ?_)|(refine gE ?_;first|exact FZ|exact Gc|exact FY (by walk_at"tb") (by walk_at"bb")|refine k_op ?_ ?_ ?_|refine k_un Gk ?_|refine k_cmp ?_ ?_ ?_|refine k_one ?_|refine k_and ?_ ?_|refine k_or ?_ ?_|refine k_tup ?_|refine k_lst ?_|refine k_lcN ?_ (λ_ _ _ _=>?_) (λ_ _ _ _=>?_) (λ_ _ _ _=>?_))|(refine gS ?_;first|exact sd|refine wU ?_|refine AS ?_|refine FN ?_ ?_ ?_|refine oo (by k_dflt assumption) ?_ (λ_ _ _ _=>?_) (λ_ _ _ _=>?_) (λ_ _ _ _=>?_)|refine AR (by k_dflt assumption) ?_|refine AU ?_ ?_|refine wT (by k_dflt assumption) ?_ ?_ ?_|refine AT ?_ ?_ ?_|refine rZ ?_ ?_)|(refine gOp ?_;first|exact Dd|exact ho_eq (by k_dflt assumption)|exact Dc|exact ho_gt|exact ho_in (by k_dflt assumption)|exact Gs (by k_dflt assumption)|exact ho_is|exact zQ|exact ho_lt|exact Gr (by k_dflt assumption)|exact Gq|exact Gp|exact ho_ne (by k_dflt assumption)|exact xm (by k_dflt assumption)|exact zP (by k_dflt assumption)|exact Go|exact Gn|exact Gm)|(refine gC ?_;first|exact zU (by k_dflt assumption)|exact Gx|exact Gw|exact Df|exact ua (by k_dflt assumption)|exact tZ (by k_dflt assumption)|exact zT)|exact FM|exact CF|exact CL|exact CN|refine FL ?_|refine AN ?_ ?_|refine FG ?_ ?_|refine CA ?_|refine FF ?_|refine CD ?_|refine CJ ?_|refine wY (by walk_at"tb") ?_|refine wX (by walk_at"tb") ?_|refine FO (by walk_at"tb") ?_|refine FQ (by walk_at"tb") ?_|refine zF ?_|refine zG ?_|refine FP ?_|exact CO (by k_dflt assumption)|exact FT (FB (by kernel_rfl))|refine zH ?_ ?_|refine FR ?_|refine FS ?_ ?_|exact xo|exact xn|exact Gu|exact tY)|refine CI ?_ ?_|refine wU ?_|refine AS ?_|refine FN ?_ ?_ ?_|refine oo (by k_dflt assumption) ?_ (λ_ _ _ _=>?_) (λ_ _ _ _=>?_) (λ_ _ _ _=>?_)|refine AR (by k_dflt assumption) ?_|refine AU ?_ ?_|refine wT (by k_dflt assumption) ?_ ?_ ?_|refine AT ?_ ?_ ?_|refine rZ ?_ ?_|exact sd)))
local macro_rules | `(tactic| walk_at"dv")=>`(tactic| (intro _ _ _ _ _ _ _ _ _ _;refine xr rfl ?_;walk_at"dvr"))
local macro_rules | `(tactic| walk_at"dvl")=>`(tactic| (intro _ _ _ _ _ _ _ _ _ _ _;refine xr rfl ?_;walk_at"dvr"))
section
variable{P:c9}{w:c8}{K:q9}{mg:c7->Option c6}{base:d7}
noncomputable def fS(p:c7×Int):D:=.tup [.str p.1,.int p.2]
def Hd(d:D):Prop:=∃(x:c7) (k:Int),d=.tup [.str x,.int k]
noncomputable def Eh(hs:List (D×Int))(d:D)(m:Int):Bool:=match hs.find? λp=>decide (p.1=d) with
 |some p=>decide<|m<p.2
 |none=>c5
noncomputable def MN:Nat->D->Bool
 |n+1,.tup xs=>xs.all<|MN n
 | 0,.tup _=>c5
 |_,.ref _=>c5
 |_,.ty _=>c5
 |_,_=>a9
def F4(n:Nat)(d:D):Prop:=MN n d=a9
def mF(n:Nat)(ds:List D):Prop:=ds.all (MN n)=a9
theorem F4.non:F4 n .non:=by cases n<;>rfl
theorem F4.bl(b:Bool):F4 n (.bl b):=by cases n<;>rfl
theorem F4.int(i:Int):F4 n (.int i):=by cases n<;>rfl
theorem F4.str(x:c7):F4 n (.str x):=by cases n<;>rfl
theorem mF.nil:mF n []:=rfl
theorem mF.cons(h:F4 n d)(t:mF n ds):mF n (d::ds):=by unfold mF F4 at *;rw[Ie,h,t];rfl
theorem F4.tup(h:mF n ds):F4 (n+1) (.tup ds):=h
theorem dN:∀(n:Nat) (d:D),F4 n d->A4 k d:=by
 intro n;induction n with
 |zero =>
  intro d h;cases d with
  |tup xs=>cases h
  |ref i=>cases h
  |ty t=>cases h
  |non=>exact .non
  |bl b=>exact .bl b
  |int i=>exact .int i
  |str x=>exact .str x
 |succ n c =>
  intro d h;cases d with
  |tup xs=>exact .tup<|Bels.of λx a=>c x<|D9.mp h x a
  |ref i=>cases h
  |ty t=>cases h
  |non=>exact .non
  |bl b=>exact .bl b
  |int i=>exact .int i
  |str x=>exact .str x
theorem sA:∀{xs:List D},(∀x∈xs,f x x=a9)->A6 f xs xs=a9
 | [],_=>rfl
 |x::xs,h=>by show (f x x&&A6 f xs xs)=a9;rw[h x (by simp),sA λy hy=>h y<|w6 _ hy];rfl
theorem EU:∀(n m:Nat) (d:D),n<=m->F4 n d->t4 M m d=a9/\r9 M m d d=a9:=by
 intro n;induction n with
 |zero =>
  intro m d _ h;cases d with
  |tup xs=>cases h
  |ref i=>cases h
  |ty t=>cases h
  |non=>exact⟨ww,by cases m<;>rfl⟩
  |bl b=>exact⟨AK,by cases m<;>cases b<;>rfl⟩
  |int i=>exact⟨lW,by rw[jC];exact o7 i⟩
  |str x=>exact⟨aw,by rw[bf];exact o7 x⟩
 |succ n c =>
  intro m d e h;cases m with
  |zero=>lia
  |succ m =>
   cases d with
   |tup xs=>exact⟨Ci λx a=>(c m x (by lia)<|D9.mp h x a).1,sA λx a=>(c m x (by lia)<|D9.mp h x a).2⟩
   |ref i=>cases h
   |ty t=>cases h
   |non=>exact⟨ww,rfl⟩
   |bl b=>exact⟨AK,by cases b<;>rfl⟩
   |int i=>exact⟨lW,by rw[jC];exact o7 i⟩
   |str x=>exact⟨aw,by rw[bf];exact o7 x⟩
theorem De(h:Hd d):F4 (n+1) d:=by obtain⟨x,i,rfl⟩:=h;exact .tup<|.cons (.str _)<|.cons (.int _) .nil
theorem Gv(h:Hd d):A4 k d:=dN 1 d<|De h
noncomputable def handD:D->D
 |.tup (_::h::_)=>h
 |_=>.non
noncomputable def numD:D->Int
 |.tup (_::_::.int n::_)=>n
 |_=>0
noncomputable def many(log:List D)(h:D):Nat:=(log.filter λd=>decide<|handD d=h).length
theorem eK:aR (fO kvs k d) k=a7 d:=by
 unfold fO;split;rename_i hs;unfold aR at hs ⊢;rw[Option.isSome_map]at hs;obtain⟨q,h⟩:=Np.mp hs;rw[List.find?_map];have e:((λp:D×D=>decide<|p.1=k) ∘ λp:D×D=>if p.1=k then(p.1,d)else p)=λp=>decide (p.1=k):=by funext p;show decide ((if p.1=k then(p.1,d)else p).1=k)=decide (p.1=k);split<;>rfl
 rw[e,h];have a:q.1=k:=by have:=L6 h;exact oT_ this
 show a7 (if q.1=k then(q.1,d)else q).2=_;rw[m9 a];rename_i hs;unfold aR at hs ⊢;rw[Option.isSome_map,Option.not_isSome_iff_eq_none]at hs;rw[List.find?_append,hs];simp
theorem fW(h:j≠k):aR (fO kvs k d) j=aR kvs j:=by
 unfold fO;split;unfold aR;rw[List.find?_map];have e:((λp:D×D=>decide<|p.1=j) ∘ λp:D×D=>if p.1=k then(p.1,d)else p)=λp=>decide (p.1=j):=by funext p;show decide ((if p.1=k then(p.1,d)else p).1=j)=decide (p.1=j);split<;>rfl
 rw[e];cases f:kvs.find? λp=>decide (p.1=j) with
 |none=>rfl
 |some q =>
  have a:q.1=j:=by have:=L6 f;exact oT_ this
  show a7 (if q.1=k then(q.1,d)else q).2=a7 q.2;rw[n5<|by rw[a];exact h]
 unfold aR;rw[List.find?_append];cases f:kvs.find? λp=>decide (p.1=j) with
 |none=>simp[v5 h]
 |some q=>rfl
theorem wD:∀{kvs:List (D×D)}{p:D×D},(kvs.map (·.1)).Nodup->p∈kvs->aR kvs p.1=a7 p.2
 |q::kvs,p,nd,h=>by rw[A5,HR]at nd;unfold aR;rw[Iq];rcases u8.mp h with rfl|h;rw[dT_ rfl];rfl;have:q.1≠p.1:=λz=>nd.1 (by rw[z];exact HL h);rw[dF_ this];exact wD nd.2 h
theorem bX(h:aR kvs k=a7 d):(k,d)∈kvs:=by
 unfold aR at h;obtain⟨q,a,rfl⟩:=J1.mp h;have e:q.1=k:=by have:=L6 a;exact oT_ this
 rw[<-e];exact List.mem_of_find?_eq_some a
theorem cg{α:Type}{P:List α->Prop}(a:P [])(h1:∀l x,P l->P (l++[x]))(l:List α):P l:=by
 rw[<-List.reverse_reverse l];induction l.reverse with
 |nil=>exact a
 |cons x xs i=>rw[Mg];exact h1 _ _ i
theorem lX(h:ak M n xs)(ok:∀x∈xs,t4 (M++[MO.lst []]) 29 x=a9):(t4 (M++[MO.lst []]) p7 (.ref n)=a9/\t4 (M++[MO.lst []]) p7 (.ref M.length)=a9)/\r9 (M++[MO.lst []]) p7 (.ref n) (.ref M.length)=xs.isEmpty:=by have h1:ak (M++[MO.lst []]) n xs:=h.more _;have h2:ak (M++[MO.lst []]) M.length []:=bi;refine⟨⟨wv (n:=29) h1 ok,wv (n:=29) h2 λ_ z=>nomatch z⟩,?_⟩;exact(zZ (n:=29) h1 h2).trans Dj
theorem ap{M:p8}{m n:Nat}{x y:MO}(h:m≠n)(l:M[m]?=a7 y):(M.set n x)[m]?=a7 y:=by rw[IT<|v5 h];exact l
theorem aC{M:p8}{m:Nat}{y:MO}(l:M[m]?=a7 y):m<M.length:=(w9.mp l).1
theorem ad{B:p8}{q:Nat}{x a:MO}(h:B[q]?=a7 x):(B++[a])[q]?=a7 x:=by rw[G6 (w9.mp h).1];exact h
theorem bn{B:p8}{q:Nat}{x a:MO}(h:B[q]?=a7 x):(B.set q a)[q]?=a7 a:=IA (w9.mp h).1
theorem pV(p:M <+: B)(l:ak M q xs):ak B q xs:=by obtain⟨L,rfl⟩:=p;exact l.more L
theorem bc{M B:p8}{q:Nat}{x:MO}(p:M <+: B)(l:M[q]?=a7 x):B[q]?=a7 x:=by obtain⟨L,rfl⟩:=p;rw[G6<|aC l];exact l
theorem rQ(xs:List c7):Bels k (xs.map D.str):=Bels.of λd h=>by obtain⟨x,_,rfl⟩:=y4.mp h;exact .str x
theorem wB{a b:Int}(h:0<b):0<=a % b:=Int.emod_nonneg _<|by lia
theorem wC{a b:Int}(h:0<b):a % b<b:=Int.emod_lt_of_pos _ h
theorem bx(p:M <+: B)(h:M.length<=q):M <+: B.set q x:=by obtain⟨L,rfl⟩:=p;rw[Nd _ _ h];exact G5 _ _
noncomputable def cU(p:c7×Int):List D:=(pc 0 p.2.toNat).map λk=>.tup [.str p.1,k]
noncomputable def aI(ps:List (c7×Int)):List D:=ps.flatMap cU
def MV(ps:List (c7×Int)):Prop:=ps.length<=4/\∀p∈ps,0<=p.2/\p.2<=3
theorem fi:(cU p).length=p.2.toNat:=by simp[cU,pc]
theorem kU(h:∀p∈ps,0<=p.2/\p.2<=3):(aI ps).length<=3*ps.length:=by
 induction ps with
 |nil=>simp[aI]
 |cons p ps i =>
  have:=i λq a=>h q<|w6 _ a;have h1:=h p z0;have e:(aI<|p::ps).length=p.2.toNat+(aI ps).length:=by rw[aI,List.flatMap_cons,v4,fi];rfl
  rw[e,A0];lia
theorem sv:∀d∈aI ps,Hd d:=λd a=>by unfold aI at a;obtain⟨p,_,h⟩:=List.mem_flatMap.mp a;unfold cU pc at h;simp only[G2,y4]at h;obtain⟨i,_,rfl⟩:=h;exact⟨_,_,rfl⟩
theorem ub:Bels k (aI ps):=Bels.of λd h=>Gv<|sv d h
noncomputable def ij(p:c7×List c7):D:=.tup [.str p.1,.tup<|p.2.map .str]
noncomputable def aF(ps:List (c7×Int))(rs:List (c7×List c7)):D:=.tup [.tup<|ps.map fS,.tup<|rs.map ij]
structure HouseF(ps:List (c7×Int))(rs:List (c7×List c7)):Prop where
 len:1<=ps.length/\ps.length<=4
 many:∀p∈ps,1<=p.2/\p.2<=3
 nm:∀p∈ps,p.1.length<=8
 rl:1<=rs.length/\rs.length<=4
 pnd:(ps.map (·.1)).Nodup
 rnd:(rs.map (·.1)).Nodup
 rm:∀r∈rs,r.2.length<=4
def St(d:D):Prop:=∃(t:Int) (z:c7) (k:Int),d=.tup [.int t,.tup [.str z,.int k]]
theorem St.key(h:St d):cb 8 d=a9:=by obtain⟨t,z,k,rfl⟩:=h;rfl
theorem St.ok(h:St d):t4 M p7 d=a9:=by obtain⟨t,z,k,rfl⟩:=h;rfl
theorem St.pl(h:St d):F4 (n+2) d:=by obtain⟨t,z,k,rfl⟩:=h;exact .tup<|.cons (.int _)<|.cons (.tup<|.cons (.str _)<|.cons (.int _) .nil) .nil
theorem St.eq(f:St a)(d:St b):r9 M (n+2) a b=decide (a=b):=by
 obtain⟨t,z,k,rfl⟩:=f;obtain⟨t',J,H,rfl⟩:=d;have e:r9 M (n+2) (.tup [.int t,.tup [.str z,.int k]]) (.tup [.int t',.tup [.str J,.int H]])=((t==t')&&(((z==J)&&((k==H)&&a9))&&a9)):=by show (r9 M (n+1) (.int t) (.int t')&&((r9 M n (.str z) (.str J)&&(r9 M n (.int k) (.int H)&&a9))&&a9))=_;rw[jC,bf,jC]
 rw[e];by_cases h:D.tup [.int t,.tup [.str z,.int k]]=.tup [.int t',.tup [.str J,.int H]];rw[dT_ h];simp only[D.tup.injEq,KU,D.int.injEq,D.str.injEq,and_true]at h;obtain⟨rfl,rfl,rfl⟩:=h;simp;rw[dF_ h];simp only[D.tup.injEq,KU,D.int.injEq,D.str.injEq,and_true]at h;refine JA.mpr λq=>h ?_;simpa using q
theorem St.tup(h:St d):∃ks,d=.tup ks:=by obtain⟨t,z,k,rfl⟩:=h;exact⟨_,rfl⟩
structure ActK(rs:List (c7×List c7))(x:c7)(ds:List D):Prop where
 say:x=AA1 "say"->∃(r:c7) (u:D) (s:c7),ds=[.str r,u,.str s]/\r∈rs.map (·.1)/\(u=.non\/St u)
 change:x=AA1 "change"->∃(m:D) (s:c7),ds=[m,.str s]/\St m
 back:x=AA1 "back"->∃m:D,ds=[m]/\St m
 like:x=AA1 "like"->∃(m:D) (s:c7) (b:Bool),ds=[m,.str s,.bl b]/\St m
section
variable{rs:List (c7×List c7)}
theorem uw:AA1 "say"≠AA1 "change"/\AA1 "say"≠AA1 "back"/\AA1 "say"≠AA1 "like"/\AA1 "change"≠AA1 "back"/\AA1 "change"≠AA1 "like"/\AA1 "back"≠AA1 "like":=by decide +kernel
theorem ActK.mkSay(i:r∈rs.map (·.1))(g:u=.non\/St u):ActK rs (AA1 "say") [.str r,u,.str s]:=⟨λ_=>⟨r,u,s,rfl,i,g⟩,λe=>n6 e uw.1,λe=>n6 e uw.2.1,λe=>n6 e uw.2.2.1⟩
theorem ActK.mkChange(h:St m):ActK rs (AA1 "change") [m,.str s]:=⟨λe=>n6 e.symm uw.1,λ_=>⟨m,s,rfl,h⟩,λe=>n6 e uw.2.2.2.1,λe=>n6 e uw.2.2.2.2.1⟩
theorem ActK.mkBack(h:St m):ActK rs (AA1 "back") [m]:=⟨λe=>n6 e.symm uw.2.1,λe=>n6 e.symm uw.2.2.2.1,λ_=>⟨m,rfl,h⟩,λe=>n6 e uw.2.2.2.2.2⟩
theorem ActK.mkLike(h:St m):ActK rs (AA1 "like") [m,.str s,.bl b]:=⟨λe=>n6 e.symm uw.2.2.1,λe=>n6 e.symm uw.2.2.2.2.1,λe=>n6 e.symm uw.2.2.2.2.2,λ_=>⟨m,s,b,rfl,h⟩⟩
theorem ActK.mkNone(h:x≠AA1 "say"/\x≠AA1 "change"/\x≠AA1 "back"/\x≠AA1 "like"):ActK rs x ds:=⟨λe=>n6 e h.1,λe=>n6 e h.2.1,λe=>n6 e h.2.2.1,λe=>n6 e h.2.2.2⟩
end
def aW(ps:List (c7×Int))(rs:List (c7×List c7))(d:D):Prop:=∃(t:Int) (z:c7) (k m:Int) (x:c7) (ds:List D),d=.tup [.int t,.tup [.str z,.int k],.int m,.tup<|.str x::ds]/\1<=t/\D.tup [.str z,.int k]∈aI ps/\mF 4 ds/\ActK rs x ds
section
variable{ps:List (c7×Int)}{rs:List (c7×List c7)}
theorem aW.pl(h:aW ps rs d):F4 6 d:=by obtain⟨t,z,k,m,x,ds,rfl,_,_,p,_⟩:=h;exact .tup<|.cons (.int _)<|.cons (De ⟨_,_,rfl⟩)<|.cons (.int _)<|.cons (.tup<|.cons (.str _) p) .nil
theorem aW.bels(h:∀d∈ds,aW ps rs d):Bels k ds:=Bels.of λd a=>dN 6 d (h d a).pl
end
noncomputable def bN:D->c7
 |.tup [_,_,_,.tup<|.str x::_]=>x
 |_=>AA1 ""
noncomputable def dA:D->c7
 |.tup (_::.tup (.str z::_)::_)=>z
 |_=>AA1 ""
noncomputable def stD:D->D
 |.tup (t::h::_)=>.tup [t,h]
 |_=>.non
noncomputable def aX:D->c7
 |.tup [_,_,_,.tup<|_::.str r::_]=>r
 |_=>AA1 ""
noncomputable def dD:D->D
 |.tup [_,_,_,.tup<|_::_::u::_]=>u
 |_=>.non
noncomputable def yc:D->D
 |.tup [_,_,_,.tup<|_::m::_]=>m
 |_=>.non
noncomputable def numO:D->D
 |.tup [_,_,n,_]=>n
 |_=>.non
noncomputable def lY(rs:List (c7×List c7))(r:c7):List c7:=((rs.find? λp=>decide<|p.1=r).map (·.2)).getD []
noncomputable def kinds(log:List D)(k:c7):List D:=log.filter λd=>decide<|bN d=k
section
variable{ps:List (c7×Int)}{rs:List (c7×List c7)}
theorem dH(h:aW ps rs d)(e:bN d=AA1 "say"):∃(t:Int) (z:c7) (k num:Int) (r:c7) (u:D) (s:c7),d=.tup [.int t,.tup [.str z,.int k],.int num,.tup [.str<|AA1 "say",.str r,u,.str s]]/\1<=t/\D.tup [.str z,.int k]∈aI ps/\r∈rs.map (·.1)/\(u=.non\/St u):=by obtain⟨t,z,k,num,x,ds,rfl,h1,h2,_,f⟩:=h;obtain rfl:x=AA1 "say":=e;obtain⟨r,u,s,rfl,i,g⟩:=f.say rfl;exact⟨t,z,k,num,r,u,s,rfl,h1,h2,i,g⟩
theorem xO(h:aW ps rs d)(e:bN d=AA1 "change"):∃(t:Int) (z:c7) (k num:Int) (m:D) (s:c7),d=.tup [.int t,.tup [.str z,.int k],.int num,.tup [.str<|AA1 "change",m,.str s]]/\St m:=by obtain⟨t,z,k,num,x,ds,rfl,h1,h2,_,f⟩:=h;obtain rfl:x=AA1 "change":=e;obtain⟨m,s,rfl,a⟩:=f.change rfl;exact⟨t,z,k,num,m,s,rfl,a⟩
theorem qA(h:aW ps rs d)(e:bN d=AA1 "back"):∃(t:Int) (z:c7) (k num:Int) (m:D),d=.tup [.int t,.tup [.str z,.int k],.int num,.tup [.str<|AA1 "back",m]]/\St m:=by obtain⟨t,z,k,num,x,ds,rfl,h1,h2,_,f⟩:=h;obtain rfl:x=AA1 "back":=e;obtain⟨m,rfl,a⟩:=f.back rfl;exact⟨t,z,k,num,m,rfl,a⟩
end
local macro_rules | `(tactic| walk_at"ifs")=>`(tactic| simp only[AJ,z6,↓reduceIte,II,Bool.not_false])
noncomputable def gU(rs:List (c7×List c7))(kvs:List (D×D))(d:D):Bool:=decide (dA d∈lY rs (aX d))&&(decide (dD d=.non)||match aR kvs (dD d) with
 |some e=>decide<|aX e=aX d
 |none=>c5)
noncomputable def sX(rs:List (c7×List c7))(kvs:List (D×D))(d:D):List (D×D):=if gU rs kvs d=a9 then fO kvs (stD d) d else kvs
noncomputable def aK(rs:List (c7×List c7))(l:List D):List (D×D):=l.foldl (sX rs) []
theorem cY:aK rs (l++[d])=sX rs (aK rs l) d:=by unfold aK;rw[List.foldl_append];rfl
noncomputable def au(rs:List (c7×List c7))(log:List D):List (D×D):=aK rs<|kinds log<|AA1 "say"
theorem tS:kinds (log++[d]) k=kinds log k++if bN d=k then[d]else[]:=by unfold kinds;rw[List.filter_append];congr 1;by_cases h:bN d=k;rw[JS,dT_ h,m9 rfl,m9 h];rfl;rw[JS,dF_ h,n5 (by decide),n5 h];rfl
theorem ay(h:d∈kinds log k):d∈log/\bN d=k:=⟨(F7.mp h).1,oT_ (F7.mp h).2⟩
theorem dU:(kinds log k).length<=log.length:=LB _ _
structure TabK(l:List D)(kvs:List (D×D)):Prop where
 nd:(kvs.map (·.1)).Nodup
 en:∀p∈kvs,p.1=stD p.2/\p.2∈l
 len:kvs.length<=l.length
theorem iw(h:p∈fO kvs k d):p=(k,d)\/p∈kvs:=by unfold fO at h;split at h;obtain⟨q,a,rfl⟩:=y4.mp h;split;rename_i e;rw[e];exact .inl rfl;exact .inr a;rcases B7.mp h with h|h;exact .inr h;exact .inl<|by simpa using h
theorem lK:(fO kvs k d).length<=kvs.length+1:=by unfold fO;split;rw[t7];lia;simp
theorem eL(l:List D):TabK l (aK rs l):=by
 refine cg (P:=λl=>TabK l<|aK rs l) ⟨.nil,(λ_ z=>nomatch z),t6 _⟩ (λl d i=>?_) l;rw[cY];unfold sX;have hs:∀p∈aK rs l,p.1=stD p.2/\p.2∈l++[d]:=λp h=>⟨(i.en p h).1,E3 _ (i.en p h).2⟩
 have g:=i.len;split;refine⟨pJ i.nd,λp h=>?_,?_⟩;rcases iw h with rfl|h;exact⟨rfl,by simp⟩;exact hs p h;have:=lK (kvs:=aK rs l) (k:=stD d) (d:=d);rw[v4,F9];lia;exact⟨i.nd,hs,by rw[v4,F9];lia⟩
theorem cF:TabK (kinds log<|AA1 "say") (au rs log):=eL _
theorem xu(t:TabK l kvs)(h:aR kvs k=a7 e):k=stD e/\e∈l:=t.en _<|bX h
noncomputable def IC(kvs:List (D×D))(d:D):Bool:=match aR kvs (yc d) with
 |some e=>decide<|dA d=dA e
 |none=>c5
def LV(d:D):Prop:=∃(a:D) (z:c7) (r m:List D),d=.tup (a::.tup (.str z::r)::m)
section
variable{ps:List (c7×Int)}{rs:List (c7×List c7)}
theorem aW.nm(h:aW ps rs d):LV d:=by obtain⟨t,z,k,m,x,ds,rfl,_⟩:=h;exact⟨_,_,_,_,rfl⟩
theorem aW.st(h:aW ps rs d):St (stD d):=by obtain⟨t,z,k,m,x,ds,rfl,_⟩:=h;exact⟨_,_,_,rfl⟩
theorem St.cm(f:St a)(d:St b):dE M p7 a b=a9:=by
 obtain⟨t,z,k,rfl⟩:=f;obtain⟨t',J,H,rfl⟩:=d;show (if r9 M 29 (.int t) (.int t')=a9 then(if r9 M 29 (.tup [.str z,.int k]) (.tup [.str J,.int H])=a9 then a9 else(if r9 M 28 (.str z) (.str J)=a9 then(if r9 M 28 (.int k) (.int H)=a9 then a9 else a9)else a9))else a9)=a9
 repeat' split
 all_goals rfl
theorem vt(h:∀x∈xs,St x)(l:xs.length<64):SrtOk M xs:=by refine⟨l,λx a=>?_,λx a y Q=>(h x a).cm<|h y Q,.inr<|.inr<|.inr<|.inl λx a=>?_⟩;obtain⟨t,z,k,rfl⟩:=h x a;rfl;obtain⟨t,z,k,rfl⟩:=h x a;exact⟨_,_,rfl⟩
end
def bK(kvs:List (D×D))(log:List D)(k:D):Prop:=∃d∈kinds log (AA1 "back"),IC kvs d=a9/\yc d=k
theorem rW(h:k∉kvs.map (·.1)):fO kvs k d=kvs++[(k,d)]:=by unfold fO;rw[n5];intro z;obtain⟨e,i⟩:=Np.mp z;exact h (HL (f:=(·.1))<|bX i)
theorem mi{M:p8}{x:c7}{l:List c7}:Jg M (.str x) (l.map .str)=decide (x∈l):=by unfold Jg;rw[List.any_map];by_cases h:x∈l;rw[dT_ h];exact KW.mpr ⟨x,h,by show r9 M p7 (.str x) (.str x)=a9;rw[bf];exact o7 x⟩;rw[dF_ h];refine JA.mpr λz=>?_;obtain⟨y,Q,e⟩:=KW.mp z;have a:r9 M p7 (.str y) (.str x)=a9:=e;rw[bf]at a;exact h<|eq_of_beq a ▸ Q
theorem lF{M:p8}{l:List c7}:(l.map D.str).all (t4 M p7)=a9:=D9.mpr λx h=>by obtain⟨y,_,rfl⟩:=y4.mp h;exact aw
structure BackL(rs:List (c7×List c7))(log:List D)(ys:List D):Prop where
 st:∀x∈ys,St x
 mem:∀x,x∈ys↔bK (au rs log) log x
 nd:ys.Nodup
 up:ys.Pairwise λa b=>¬enc p7 b<enc p7 a
noncomputable def qD:D->D
 |.tup [_,_,_,a]=>a
 |_=>.non
noncomputable def eW(l:List D):List (D×D):=l.foldl (λs d=>fO s (stD d)<|qD d) []
noncomputable def dI(log:List D):List (D×D):=eW<|kinds log<|AA1 "say"
theorem cB:eW (l++[d])=fO (eW l) (stD d) (qD d):=by unfold eW;rw[List.foldl_append];rfl
theorem tu:dI (log++[d])=if bN d=AA1 "say" then fO (dI log) (stD d) (qD d)else dI log:=by unfold dI;rw[tS];split;rw[cB];rw[Ir]
theorem By(l:List D):∀p∈eW l,∃d∈l,p=(stD d,qD d):=by refine cg (P:=λl=>∀p∈eW l,∃d∈l,p=(stD d,qD d)) (λ_ z=>nomatch z) (λl d a p h=>?_) l;rw[cB]at h;rcases iw h with rfl|h;exact⟨d,by simp,rfl⟩;obtain⟨e,i,r⟩:=a p h;exact⟨e,E3 _ i,r⟩
theorem yH(l:List D):(eW l).length<=l.length:=by refine cg (P:=λl=>(eW l).length<=l.length) (t6 _) (λl d i=>?_) l;rw[cB,v4,F9];have:=lK (kvs:=eW l) (k:=stD d) (d:=qD d);lia
def F0(l:List D):Prop:=l.Pairwise λa b=>enc p7 (stD a)<enc p7 (stD b)
theorem F0.one(h:F0 l):∀a∈l,∀b∈l,stD a=stD b->a=b:=by
 induction l with
 |nil=>intro a d;cases d
 |cons x l j =>
  obtain⟨h1,h2⟩:=Mi.mp h;intro a d b i e;rcases u8.mp d with g|c<;>rcases u8.mp i with M|f
  rw[g,M];have:=h1 b f;rw[<-g,e]at this;exact n6 this<|E7 _;have:=h1 a c;rw[<-M,e]at this;exact n6 this<|E7 _;exact j h2 a c b f e
theorem lH(h:F0 l):∀d∈l,aR (eW l) (stD d)=a7 (qD d):=by revert h;refine cg (P:=λl=>F0 l->∀d∈l,aR (eW l) (stD d)=a7 (qD d)) (λ_ _ z=>nomatch z) (λl x i h d a=>?_) l;obtain⟨h1,_,b⟩:=JZ.mp h;rw[cB];rcases B7.mp a with a|a;have:=b d a x (by simp);rw[fW<|λe=>by rw[e]at this;exact E7 _ this];exact i h1 d a;rw[show d=x by simpa using a,eK]
inductive z8(rs:List (c7×List c7))(l:List D):D->Prop
 |top {d:D} (h:d∈l) (m:dA d∈lY rs (aX d)) (u:dD d=.non):z8 rs l d
 |sub {d e:D} (h:d∈l) (m:dA d∈lY rs (aX d)) (s:z8 rs l e) (u:dD d=stD e) (o:enc p7 (stD e)<enc p7 (stD d)) (r:aX e=aX d):z8 rs l d
theorem z8.mem(h:z8 rs l d):d∈l:=by cases h<;>assumption
theorem z8.nm(h:z8 rs l d):dA d∈lY rs (aX d):=by cases h<;>assumption
theorem z8.more(h:z8 rs l d):z8 rs (l++l') d:=by
 induction h with
 |top h m u=>exact .top (E3 _ h) m u
 |sub h m _ u o r i=>exact .sub (E3 _ h) m i u o r
theorem z8.less(g:∀y∈l,enc p7 (stD y)<enc p7 (stD x))(h:z8 rs (l++[x]) d):d∈l->z8 rs l d:=by
 induction h with
 |top h m u=>exact λa=>.top a m u
 |sub h m s u o r b=>intro a;rename_i d e;rcases B7.mp s.mem with i|i;exact .sub a m (b i) u o r;rw[show e=x by simpa using i]at o;exact n6 (Kk o<|g d a)<|E7 _
theorem oN(j:∀d∈l,dD d=.non\/St (dD d))(S:∀d∈l,St<|stD d)(h:F0 l):∀d∈l,aR (aK rs l) (stD d)=a7 d↔z8 rs l d:=by
 revert h j S;refine cg (P:=λl=>(∀d∈l,dD d=.non\/St (dD d))->(∀d∈l,St<|stD d)->F0 l->∀d∈l,aR (aK rs l) (stD d)=a7 d↔z8 rs l d) (λ_ _ _ _ z=>nomatch z) (λl x p j S h d a=>?_) l;obtain⟨h1,_,n⟩:=JZ.mp h;have c:∀y∈l,enc p7 (stD y)<enc p7 (stD x):=λy Q=>n y Q x (by simp);have i:=p (λd a=>j d<|E3 _ a) (λd a=>S d<|E3 _ a) h1;have k:=eL (rs:=rs) l;have q:aR (aK rs l) (stD x)=a8:=by
  cases e:aR (aK rs l) (stD x) with
  |none=>rfl
  |some f=>obtain⟨t,g⟩:=xu k e;have:=c f g;rw[<-t]at this;exact n6 this<|E7 _
 rw[cY];unfold sX;rcases B7.mp a with a|a;have G:stD d≠stD x:=λe=>by have:=c d a;rw[e]at this;exact E7 _ this
 have:aR (if gU rs (aK rs l) x=a9 then fO (aK rs l) (stD x) x else aK rs l) (stD d)=aR (aK rs l) (stD d):=by split;exact fW G;rfl
 rw[this,i d a];exact⟨z8.more,λz=>z.less c a⟩;obtain rfl:d=x:=by simpa using a
 have U:aR (if gU rs (aK rs l) d=a9 then fO (aK rs l) (stD d) d else aK rs l) (stD d)=a7 d↔gU rs (aK rs l) d=a9:=by split;rename_i e;rw[eK];exact⟨λ_=>e,λ_=>rfl⟩;rename_i e;rw[q];exact⟨λz=>(by cases z),λz=>n6 z e⟩
 rw[U];unfold gU;rw[C5,L8,n9,n9];constructor;rintro⟨m,u|u⟩;exact .top (by simp) m u;cases e:aR (aK rs l) (dD d) with
 |none=>rw[e]at u;cases u
 |some f=>rw[e]at u;obtain⟨t,g⟩:=xu k e;rw[t]at e;exact .sub (by simp) m ((i f g).mp e).more t (c f g)<|oT_ u
 intro s;cases s with
 |top _ m u=>exact⟨m,.inl u⟩
 |@sub _ e _ m s u o r =>
  have b:e∈l:=by rcases B7.mp s.mem with b|b;exact b;rw[show e=d by simpa using b]at o;exact n6 o<|E7 _
  refine⟨m,.inr ?_⟩;rw[u,(i e b).mpr<|s.less c b];exact dT_ r
theorem xz{α:Type}{p q:α->Bool}{x:α}(hpq:∀y,p y=a9->q y=a9)(hq:q x=a9)(hp:p x=c5):∀{l:List α},x∈l->(l.filter p).length<(l.filter q).length
 |y::l,h=>by
  have mono:∀l:List α,(l.filter p).length<=(l.filter q).length:=λl=>by
   induction l with
   |nil=>exact t6 _
   |cons z l ih =>
    rw[JS,JS];cases e:p z with
    |true=>rw[hpq z e,m9 rfl,m9 rfl,A0,A0];lia
    |false=>rw[n5<|by decide];split;rw[A0];lia;exact ih
  rw[JS,JS];rcases u8.mp h with rfl|h;rw[hp,hq,n5 (by decide),m9 rfl,A0];have:=mono l;lia;have ih:=xz hpq hq hp h;cases e:p y with
  |true=>rw[hpq y e,m9 rfl,m9 rfl,A0,A0];lia
  |false=>rw[n5<|by decide];split;rw[A0];lia;exact ih
def HN(M:p8)(q:Nat):Prop:=∃n:Int,M[q]?=a7 (.lst [.int n])
def Hl(M B:p8)(q:Nat):Prop:=∃(n:Int) (L:p8),B=M.set q (.lst [.int n])++L
section
variable{M B:p8}{q m i:Nat}{n:Int}{x:MO}
theorem yE(h:M[q]?=a7 x):M.set q x=M:=by refine Mf λj=>?_;by_cases e:q=j;subst e;rw[IA<|aC h,h];rw[IT e]
theorem HN.lt(h:HN M q):q<M.length:=by obtain⟨n,h⟩:=h;exact aC h
theorem HN.start(h:HN M q):Hl M M q:=by obtain⟨n,h⟩:=h;exact⟨n,[],by rw[Ir,yE h]⟩
theorem Hl.len(h:Hl M B q):M.length<=B.length:=by obtain⟨n,L,rfl⟩:=h;rw[v4,G9];lia
theorem Hl.hd(a:q<M.length)(h:Hl M B q):HN B q:=by obtain⟨n,L,rfl⟩:=h;exact⟨n,by rw[G6 (by rw[G9];exact a),IA a]⟩
theorem Hl.set(a:q<M.length)(h:Hl M B q):Hl M (B.set q<|.lst [.int n]) q:=by obtain⟨f,L,rfl⟩:=h;exact⟨n,L,by rw[List.set_append_left _ _ (by rw[G9];exact a),List.set_set]⟩
theorem Hl.more(h:Hl M B q):Hl M (B++L) q:=by obtain⟨f,b,rfl⟩:=h;exact⟨f,b++L,by rw[Hs]⟩
theorem Hl.setO(h:Hl M B q)(d:M.length<=m):Hl M (B.set m x) q:=by obtain⟨f,L,rfl⟩:=h;exact⟨f,L.set (m-M.length) x,by rw[Nd _ _ (by rw[G9];exact d),G9]⟩
theorem Hl.old(h:Hl M B q)(hi:i≠q)(e:M[i]?=a7 x):B[i]?=a7 x:=by obtain⟨f,L,rfl⟩:=h;rw[G6 (by rw[G9];exact aC e),IT<|v5 hi];exact e
theorem Hl.oldL(h:Hl M B q)(hi:i≠q)(e:ak M i xs):ak B i xs:=by rcases e with e|e|e;exact .inl<|h.old hi e;exact .inr<|.inl<|h.old hi e;exact .inr<|.inr<|h.old hi e
theorem Hl.fin(h:Hl M B q)(b:A4 M.length d)(k:∀n:Int,R d<|M.set q<|.lst [.int n]):bt M R d B:=by obtain⟨f,L,rfl⟩:=h;exact bt.chg (IG.set .refl<|.cons (.int _) .nil) (k f) b<|G5 _ _
theorem Hl.finL(h:Hl M B q)(d:M.length<=m)(e:B[m]?=a7 (.lst xs))(b:Bels M.length xs)(k:∀n:Int,R (.ref M.length)<|M.set q (.lst [.int n])++[.lst xs]):bt M R (.ref m) B:=by obtain⟨f,L,rfl⟩:=h;exact bt.chgL (IG.set .refl<|.cons (.int _) .nil) (k f) d e (G5 _ _) b
end
theorem zO(u:Option Int)(n:Nat):Nt a8 u 1 n=Nt (a7 ((0:Nat):Int)) u 1 n:=by unfold Nt;simp only[show (1:Int) > 0 by decide,o5];congr 1
theorem yD(x:c7)(b:Nat):(JL x a8<|a7 (b:Int)).cps.toList=x.cps.toList.take b:=by have e:=vF x (a:=0) (b:=b)<|v9 _;rw[fH]at e ⊢;rw[zO];rw[e];simp
theorem yC(x:c7)(b:Nat):(JL x a8<|a7 (b:Int)).length<=b:=by rw[jv,yD,HU];lia
theorem yy{M:p8}{l:List c7}(h:l.length<64):SrtOk M (l.map .str):=⟨by rw[t7];exact h,λx c=>by obtain⟨y,_,rfl⟩:=y4.mp c;rfl,λx c y Q=>by obtain⟨a,_,rfl⟩:=y4.mp c;obtain⟨b,_,rfl⟩:=y4.mp Q;rfl,.inl λx c=>by obtain⟨y,_,rfl⟩:=y4.mp c;exact⟨y,rfl⟩⟩
theorem nM{ys:List D}{xs:List c7}(h:ys.Perm (xs.map .str)):∃zs:List c7,ys=zs.map .str/\zs.Perm xs:=yT D.str KD (λ_=>rfl) h
noncomputable def aH(r:c7)(es:List D)(k:D):List D:=(es.filter λe=>decide (aX e=r)&&decide (dD e=k)).map stD
theorem wV:aH r (es++[e]) k=if aX e=r/\dD e=k then aH r es k++[stD e]else aH r es k:=by unfold aH;rw[List.filter_append,C4,JS,List.filter_nil];by_cases h:aX e=r/\dD e=k;rw[m9 h,dT_ h.1,dT_ h.2];rfl;rw[n5 h,n5];simp;intro z;have:=(C5 _ _).mp z;exact h ⟨oT_ this.1,oT_ this.2⟩
structure TreeAt(B:p8)(n:Nat)(tab:List (D×D))(f:D->List D):Prop where
 at_:B[n]?=a7 (.dkm tab)
 got:∀k d,aR tab k=a7 d->∃m,d=.ref m/\n<m/\B[m]?=a7 (.lst<|f k)
 no:∀k,aR tab k=a8->f k=[]
 one:∀k k' m,aR tab k=a7 (.ref m)->aR tab k'=a7 (.ref m)->k=k'
noncomputable def bu(n:Int)(xs:List D):List D:=xs.reverse.map λx=>.tup [.int n,x]
inductive RunW(f:D->List D):List D->List D->List D->Prop
 |done {rows:List D}:RunW f rows [] rows
 |step {rows todo out:List D}{n:Int}{x:D} (h:RunW f (rows++[.tup [.int n,x]]) (todo++bu (n+1) (f x)) out):RunW f rows (todo++[.tup [.int n,x]]) out
noncomputable def dw:D->D
 |.tup [_,s]=>s
 |_=>.non
structure TreeW(r:c7)(es rows todo:List D):Prop where
 nd:((rows++todo).map dw).Nodup
 ok:∀x∈rows++todo,∃(k:Int) (e:D),x=.tup [.int k,stD e]/\e∈es/\aX e=r/\(dD e=.non\/dD e∈rows.map dw)
theorem cS:x∈aH r es k↔∃e∈es,stD e=x/\aX e=r/\dD e=k:=by unfold aH;rw[y4];constructor;rintro⟨e,he,rfl⟩;have h1:=F7.mp he;have h2:=(C5 _ _).mp h1.2;exact⟨e,h1.1,rfl,oT_ h2.1,oT_ h2.2⟩;rintro⟨e,he,rfl,h1,h2⟩;exact⟨e,F7.mpr ⟨he,by rw[dT_ h1,dT_ h2];rfl⟩,rfl⟩
theorem fI:x∈bu n xs↔∃s∈xs,x=.tup [.int n,s]:=by unfold bu;rw[y4];refine⟨λ⟨s,h,e⟩=>⟨s,Kp.mp h,e.symm⟩,?_⟩;rintro⟨s,h,e⟩;exact⟨s,Kp.mpr h,e.symm⟩
theorem dJ:(bu n xs).map dw=xs.reverse:=by unfold bu;rw[G2];exact JN _
section
variable{r:c7}{es rows todo:List D}
theorem wW(h:(es.map stD).Nodup)(k:D):(aH r es k).Nodup:=(List.filter_sublist.map _).nodup h
theorem Bq(h:(es.map stD).Nodup)(f:a∈es)(d:b∈es)(e:stD a=stD b):a=b:=by
 induction es with
 |nil=>cases f
 |cons x es i =>
  rw[A5,HR]at h;rcases u8.mp f with f|f<;>rcases u8.mp d with d|d
  rw[f,d];rw[f]at e;exact n6 (e ▸ HL d) h.1;rw[d]at e;exact n6 (e ▸ HL f) h.1;exact i h.2 f d
theorem TreeW.start(h:(es.map stD).Nodup):TreeW r es [] (bu 0<|aH r es .non):=by refine⟨?_,λx a=>?_⟩;rw[IN,dJ];exact(List.reverse_perm _).nodup_iff.mpr<|wW h _;obtain⟨s,hs,rfl⟩:=fI.mp a;obtain⟨e,i,rfl,h1,h2⟩:=cS.mp hs;exact⟨0,e,rfl,i,h1,.inl h2⟩
theorem TreeW.step(h:(es.map stD).Nodup)(S:∀e∈es,stD e≠.non)(w:TreeW r es rows (todo++[.tup [.int k,s]])):TreeW r es (rows++[.tup [.int k,s]]) (todo++bu (k+1) (aH r es s)):=by
 obtain⟨K,m,A,l,_⟩:=w.ok (.tup [.int k,s]) (by simp);have d:s=stD m:=by injection A with q;injection q with _ q;injection q
 have G:s≠.non:=by rw[d];exact S m l
 have L:=w.nd;have I:s∉rows.map dw:=λz=>by rw[C4]at L;have:=(Kt.mp L).2.2 s z s (by rw[C4];exact A8 _<|by simp[dw]);exact this rfl
 refine⟨?_,λx c=>?_⟩;have p:(rows++[D.tup [.int k,s]]++(todo++bu (k+1) (aH r es s))).Perm (rows++(todo++[D.tup [.int k,s]])++bu (k+1) (aH r es s)):=by rw[Hs,Hs];refine List.Perm.append_left _ ?_;rw[<-Hs];exact List.Perm.append_right _ List.perm_append_comm
 rw[(p.map dw).nodup_iff,C4,Kt];refine⟨L,by rw[dJ];exact(List.reverse_perm _).nodup_iff.mpr<|wW h _,λa v b n e=>?_⟩;subst e;rw[dJ,Kp]at n;obtain⟨e,i,t,_,N⟩:=cS.mp n;obtain⟨x,c,u⟩:=y4.mp v;obtain⟨H,o,rfl,j,_,f⟩:=w.ok x c;have:o=e:=Bq h j i<|u.trans t.symm;subst this;rcases f with f|f;exact G<|N.symm.trans f;exact I<|N ▸ f;have J:∀y,y∈rows.map dw->y∈(rows++[D.tup [.int k,s]]).map dw:=λy Q=>by rw[C4];exact E3 _ Q
 have g:∀x,x∈rows++(todo++[D.tup [.int k,s]])->∃(H:Int) (e:D),x=.tup [.int H,stD e]/\e∈es/\aX e=r/\(dD e=.non\/dD e∈(rows++[D.tup [.int k,s]]).map dw):=λx c=>by obtain⟨H,e,B,C,E,F⟩:=w.ok x c;exact⟨H,e,B,C,E,F.imp_right<|J _⟩
 rcases B7.mp c with c|c;rcases B7.mp c with c|c;exact g x<|E3 _ c;exact g x<|A8 _<|A8 _ c;rcases B7.mp c with c|c;exact g x<|A8 _<|E3 _ c;obtain⟨y,Q,rfl⟩:=fI.mp c;obtain⟨e,i,rfl,h1,h2⟩:=cS.mp Q;exact⟨k+1,e,rfl,i,h1,.inr<|by rw[h2,C4];exact A8 _<|by simp[dw]⟩
theorem wy{l l':List D}(X:l.Nodup)(h:∀x∈l,x∈l'):l.length<=l'.length:=by
 induction l generalizing l' with
 |nil=>exact v9 _
 |cons x l i =>
  obtain⟨n,o⟩:=HR.mp X;obtain⟨s,t,rfl⟩:=List.append_of_mem (h x<|by simp);have:=i (l':=s++t) o λy Q=>by have:=h y<|w6 _ Q;rcases B7.mp this with q|q;exact E3 _ q;rcases u8.mp q with rfl|q;exact n6 Q n;exact A8 _ q
  rw[v4]at this;rw[v4,A0,A0];lia
theorem TreeW.len(w:TreeW r es rows todo):rows.length+todo.length<=es.length:=by
 have:=wy w.nd (l':=es.map stD) λx h=>by obtain⟨y,Q,rfl⟩:=y4.mp h;obtain⟨k,e,rfl,i,_⟩:=w.ok y Q;exact HL i
 rw[t7,t7,v4]at this;exact this
theorem zE:(aH r es k).length<=es.length:=by unfold aH;rw[t7];exact LB _ _
end
theorem TreeAt.pre(h:TreeAt B n tab f)(p:B <+: B'):TreeAt B' n tab f:=⟨bc p h.at_,λk d a=>let ⟨m,e,l,g⟩:=h.got k d a;⟨m,e,l,bc p g⟩,h.no,h.one⟩
theorem TreeAt.kids(h:TreeAt B n tab f)(a:B[q0]?=a7 (.lst [])):∃q,(aR tab k).getD (.ref q0)=.ref q/\B[q]?=a7 (.lst<|f k):=by
 cases e:aR tab k with
 |none=>exact⟨q0,rfl,by rw[h.no k e];exact a⟩
 |some d=>obtain⟨m,rfl,_,g⟩:=h.got k d e;exact⟨m,rfl,g⟩
noncomputable def Jq:D->Int
 |.tup [.int k,_]=>k
 |_=>0
theorem RunW.tree(X:(es.map stD).Nodup)(a:∀e∈es,stD e≠.non)(h:RunW (aH r es) rows todo out):TreeW r es rows todo->TreeW r es out []:=by
 induction h with
 |done=>exact id
 |step h i=>exact λw=>i<|w.step X a
structure DepI(u:D->D)(rows todo:List D):Prop where
 to:∀T1 t T2,todo=T1++t::T2->∀A p B,rows=A++p::B->u (dw t)=dw p->Jq t=Jq p+1/\∀b∈B++T2,Jq t<=Jq b
 old:∀A p B x C,rows=A++p::(B++x::C)->u (dw x)=dw p->Jq x=Jq p+1/\∀b∈B,Jq x<=Jq b
section
variable{r:c7}{es rows todo out:List D}{u:D->D}
theorem RunW.all(h:RunW f rows todo out):(∀x∈rows,∀y∈f (dw x),y∈(rows++todo).map dw)->∀z:D,z∈(rows++todo).map dw->z∈out.map dw/\∀x∈out,∀y∈f (dw x),y∈out.map dw:=by
 induction h with
 |done=>exact λc z d=>by rw[Ir]at d c;exact⟨d,c⟩
 |@step rows todo out n x h i =>
  intro c z d;have p:∀y,y∈(rows++(todo++[D.tup [.int n,x]])).map dw->y∈((rows++[D.tup [.int n,x]])++(todo++bu (n+1) (f x))).map dw:=λy Q=>by simp only[C4,B7,A5,Lm,HK]at Q ⊢;rcases Q with h1|h1|h1;exact .inl<|.inl h1;exact .inr<|.inl h1;exact .inl<|.inr h1
  refine i (λa b y Q=>?_) z<|p z d;rcases B7.mp b with b|b;exact p y<|c a b y Q;rw[HK.mp b]at Q;rw[C4,C4 (l₁:=todo),dJ];exact A8 _<|A8 _<|Kp.mpr Q
end
noncomputable def hd0:D->D
 |.tup (x::_)=>x
 |d=>d
noncomputable def vV(u:D->D):Nat->D->List D
 | 0,s=>[s]
 |n+1,s=>vV u n (u s)++[s]
noncomputable def pth(u:D->D)(t:D):List D:=vV u (Jq t).toNat<|dw t
def Lh(p q:List D):Prop:=∃xs a b ys s,p=xs++a::ys/\q=xs++b::s/\enc p7 a<enc p7 b
def Ka(p q:List D):Prop:=(∃y ys,q=p++y::ys)\/Lh p q
theorem Lh.l(h:Lh p q):Lh (p++[c]) q:=by obtain⟨xs,a,b,ys,s,rfl,rfl,h⟩:=h;exact⟨xs,a,b,ys++[c],s,by simp,rfl,h⟩
theorem Ka.r(h:Ka p q):Ka p (q++[c]):=by
 rcases h with⟨y,ys,rfl⟩|⟨xs,a,b,ys,s,rfl,rfl,h⟩
 exact .inl ⟨y,ys++[c],by simp⟩;exact .inr ⟨xs,a,b,ys,s++[c],rfl,by simp,h⟩
inductive PathE(l:List D):D->List D->Prop
 |top {d:D} (h:d∈l) (u:dD d=.non):PathE l d [stD d]
 |sub {d e:D}{p:List D} (h:d∈l) (s:PathE l e p) (u:dD d=stD e):PathE l d (p++[stD d])
theorem PathE.mem(h:PathE l d p):d∈l:=by cases h<;>assumption
theorem PathE.uni(i:F0 l)(a:∀d∈l,stD d≠.non)(h:PathE l d p)(h':PathE l d q):p=q:=by
 induction h generalizing q with
 |top h u =>
  cases h' with
  |top _ _=>rfl
  |sub _ s F=>exact n6 (F.symm.trans u)<|a _ s.mem
 |sub h s u b =>
  cases h' with
  |top _ F=>exact n6 (u.symm.trans F)<|a _ s.mem
  |sub _ s' F=>rw[b<|(i.one _ s.mem _ s'.mem<|u.symm.trans F) ▸ s']
theorem PathE.last(h:PathE l d p):∃p',p=p'++[stD d]:=by
 cases h with
 |top _ _=>exact⟨[],rfl⟩
 |sub _ _ _=>exact⟨_,rfl⟩
theorem PathE.all(a:∀d∈l,St<|stD d)(h:PathE l d p):∀s∈p,St s:=by
 induction h with
 |top h _=>intro s hs;rw[HK.mp hs];exact a _ h
 |sub h _ _ i=>intro s hs;rcases B7.mp hs with hs|hs;exact i s hs;rw[HK.mp hs];exact a _ h
theorem z8.path(h:z8 rs l d):∃p,PathE l d p:=by
 induction h with
 |top h _ u=>exact⟨_,.top h u⟩
 |sub h _ _ u _ _ i=>obtain⟨p,a⟩:=i;exact⟨_,.sub h a u⟩
section
variable{u:D->D}{f:D->List D}{l rows todo out:List D}
structure PthI(u:D->D)(l rows todo:List D):Prop where
 rr:rows.Pairwise λa b=>Ka (pth u a)<|pth u b
 rt:∀a∈rows,∀b∈todo,Ka (pth u a)<|pth u b
 tt:todo.reverse.Pairwise λa b=>Lh (pth u a)<|pth u b
 ok:∀t∈rows++todo,∃(k:Nat) (e:D),t=.tup [.int (k:Int),stD e]/\PathE l e (pth u t)/\(pth u t).length=k+1
theorem pK{n:Nat}{s c:D}(h:u c=s):pth u (.tup [.int<|(n:Int)+1,c])=pth u (.tup [.int (n:Int),s])++[c]:=by
 show vV u ((n:Int)+1).toNat c=vV u (n:Int).toNat s++[c]
 rw[show ((n:Int)+1).toNat=n+1 by lia,show ((n:Int)).toNat=n by lia,vV,h]
theorem nF:(bu n xs).reverse=xs.map λs=>.tup [.int n,s]:=by unfold bu;rw[<-List.map_reverse,List.reverse_reverse]
theorem PthI.step(z:∀x,(f x).Pairwise λa b=>enc p7 a<enc p7 b)(o:∀x,∀c∈f x,u c=x/\∃e,c=stD e/\e∈l/\dD e=x)(w:PthI u l rows (todo++[.tup [.int n,x]])):PthI u l (rows++[.tup [.int n,x]]) (todo++bu (n+1) (f x)):=by
 obtain⟨k,i,q,A,B⟩:=w.ok (.tup [.int n,x]) (by simp);injection q with q;injection q with q1 q;injection q1 with q1;injection q with q2 _;subst q1 q2;have p:=w.tt;rw[List.reverse_append,List.reverse_singleton,List.singleton_append,Mi]at p;have s:∀t∈bu ((k:Int)+1) (f<|stD i),∃c,c∈f (stD i)/\t=.tup [.int<|(k:Int)+1,c]/\pth u t=pth u (.tup [.int (k:Int),stD i])++[c]:=λt E=>by obtain⟨c,j,rfl⟩:=fI.mp E;exact⟨c,j,rfl,pK (o _ c j).1⟩
 refine⟨List.pairwise_append.mpr ⟨w.rr,LF _ _,λa d b g=>?_⟩,λa d b g=>?_,?_,λt E=>?_⟩;rw[HK.mp g];exact w.rt a d _ (by simp);rcases B7.mp g with g|g;rcases B7.mp d with d|d;exact w.rt a d b<|E3 _ g;rw[HK.mp d];exact .inr<|p.1 b<|Kp.mpr g;obtain⟨c,j,rfl,e⟩:=s b g;rw[e];rcases B7.mp d with d|d;exact(w.rt a d _<|by simp).r;rw[HK.mp d];exact .inl ⟨c,[],rfl⟩;rw[List.reverse_append,JZ];refine⟨?_,p.2,λa d b g=>?_⟩;rw[nF,Jn];refine(z<|stD i).imp_of_mem λ{a b} d g h=>?_;rw[pK (o _ a d).1,pK (o _ b g).1];exact⟨_,a,b,[],[],rfl,rfl,h⟩;obtain⟨c,j,rfl,e⟩:=s a<|Kp.mp d;rw[e];exact(p.1 b g).l;have v:t∈rows++(todo++[.tup [.int (k:Int),stD i]])\/t∈bu ((k:Int)+1) (f<|stD i):=by simp only[B7,HK]at E ⊢;rcases E with(h|h)|h|h;exact .inl<|.inl h;exact .inl<|.inr<|.inr h;exact .inl<|.inr<|.inl h;exact .inr h
 rcases v with E|E;exact w.ok t E;obtain⟨c,j,rfl,e⟩:=s t E;obtain⟨_,y,rfl,m,C⟩:=o _ c j;exact⟨k+1,y,by push_cast;rfl,by rw[e];exact .sub m A C,by rw[e,v4,B];rfl⟩
theorem RunW.pth(d:∀x,(f x).Pairwise λa b=>enc p7 a<enc p7 b)(g:∀x,∀c∈f x,u c=x/\∃e,c=stD e/\e∈l/\dD e=x)(h:RunW f rows todo out):PthI u l rows todo->PthI u l out []:=by
 induction h with
 |done=>exact id
 |step h i=>exact λw=>i<|w.step d g
theorem PthI.start(i:∀x,(f x).Pairwise λa b=>enc p7 a<enc p7 b)(j:∀x,∀c∈f x,u c=x/\∃e,c=stD e/\e∈l/\dD e=x):PthI u l [] (bu 0<|f .non):=by
 refine⟨.nil,(λ_ z=>nomatch z),?_,λt E=>?_⟩;rw[nF,Jn];exact(i .non).imp λ{a b} h=>⟨[],a,b,[],[],rfl,rfl,h⟩
 obtain⟨c,g,rfl⟩:=fI.mp E;obtain⟨_,d,rfl,m,C⟩:=j _ c g;exact⟨0,d,rfl,.top m C,rfl⟩
end
theorem yA(f:St a)(d:St b)(h:enc p7 a<enc p7 b):bg (enc 29 a) (enc 29 b):=by
 obtain⟨t,z,k,rfl⟩:=f;obtain⟨t',J,H,rfl⟩:=d;have m:dE [] 29 (.tup [.int t,.tup [.str z,.int k]]) (.tup [.int t',.tup [.str J,.int H]])=a9:=by show (if r9 [] 28 (.int t) (.int t')=a9 then(if r9 [] 28 (.tup [.str z,.int k]) (.tup [.str J,.int H])=a9 then a9 else dE [] 28 (.tup [.str z,.int k]) (.tup [.str J,.int H]))else a9)=a9;split;split;rfl;show (if r9 [] 27 (.str z) (.str J)=a9 then(if r9 [] 27 (.int k) (.int H)=a9 then a9 else a9)else a9)=a9;split<;>(try split)<;>rfl;rfl
 rcases yt [] 29 _ _ rfl rfl m with⟨e,_⟩|⟨_,_,_,q⟩|⟨_,_,_,q⟩
 rw[e]at h;exact n6 h<|E7 _;exact q;exact n6 (Kk h<|q.lt)<|E7 _
theorem fY(f:D->List Int):∀xs ys:List D,uh f (xs++ys)=(xs.flatMap λx=>1::f x)++uh f ys
 | [],ys=>rfl
 |x::xs,ys=>by rw[Kr,uh,fY f xs ys,List.flatMap_cons,Kr,Kr,Hs]
theorem Ka.enc(c:∀s∈p,St s)(d:∀s∈q,St s)(h:Ka p q):L2.enc p7 (.tup p)<L2.enc p7 (.tup q):=by
 show 2::uh (L2.enc 29) p<2::uh (L2.enc 29) q;refine Je.mpr<|.inr ⟨rfl,?_⟩;rcases h with⟨y,ys,rfl⟩|⟨xs,a,b,ys,z,rfl,rfl,h⟩
 have e:=fY (L2.enc 29) p [];rw[Ir]at e;rw[e,fY];exact(bg.pre _<|show bg (uh (L2.enc 29) []) (uh (L2.enc 29)<|y::ys)from bg.head (i:=0) (j:=1) [] _<|by decide).lt;rw[fY,fY];refine(bg.pre _<|bg.cons 1<|(yA (c a<|by simp) (d b<|by simp) h).more _ _).lt
noncomputable def xx:D->D
 |.tup (a::_)=>a
 |_=>.non
def cj:x5:=λds M R=>∃xs:List D,ds=[.tup xs]/\(∀x∈xs,∃a r,x=.tup (a::r))/\R (.ref M.length) (M++[.lst<|xs.map xx])
theorem md:cI cj eZ:=by rintro ds M R ⟨xs,rfl,_⟩;rfl
def iP:p5:=bp<|H9 1 [] (cE<|ab 0) (ar 0) ux<|p6 u5 (ab 0)<|dC<|.int 0
theorem mI:A3 cj 1 iP:=by rintro ds M R ⟨xs,rfl,x,h⟩;simp only[iP];walk_at"dl";intro g;refine eA xx (λS=>∃a,S=[a]) trivial _ _ _ ?_ ⟨_,rfl⟩ ?_ ?_;rintro y Q S ⟨a,rfl⟩;obtain⟨b,r,rfl⟩:=x y Q;refine⟨[a7<|.tup<|b::r],⟨_,rfl⟩,λY c=>?_⟩;walk_at"dl";exact c;simpa using g;exact .inl h
theorem nN(T:Tops P w K mg base):t9 P w K mg base 1 "firsts_of" eZ cj:=t9.byD (N:=["pairs"]) T.b T.f_firsts_of (by walk_at"sc") md (by walk_at"dv") mI
def eN:x5:=λds M R=>∃(ps:List (c7×Int)) (a:List (c7×List c7)) (r:c7),ds=[aF ps a,.str r]/\r∈a.map (·.1)/\R (.bl a9) M
theorem qd:cI eN je:=by rintro ds M R ⟨ps,a,r,rfl,_⟩;rfl
def mV:p5:=bp<|p6 MM (ab 1)<|s9 cj<|aa (p6 u5 (ab 0)<|dC<|.int 1) ag
theorem sO:A3 eN 2 mV:=by
 rintro ds M R ⟨ps,a,r,rfl,i,h⟩;simp only[mV,aF];walk_at"dl";refine⟨_,rfl,λx b=>?_,?_⟩;obtain⟨p,_,rfl⟩:=y4.mp b;exact⟨_,_,rfl⟩;have e:(a.map ij).map xx=(a.map (·.1)).map .str:=by rw[G2,G2];rfl
 rw[e];refine⟨_,bi,⟨aw,lF⟩,?_⟩;rw[mi,dT_ i];exact bt.bl h gH
theorem tF(T:Tops P w K mg base):t9 P w K mg base 2 "is_room" je eN:=t9.byD (N:=["house","thing"]) T.b T.f_is_room (by walk_at"sc") qd (by have:=nN T;walk_at"dv") sO
def bQ:x5:=λds M R=>∃(ps:List (c7×Int)) (a:List (c7×List c7)) (r:c7),ds=[aF ps a,.str r]/\r∈a.map (·.1)/\R (.tup<|(lY a r).map .str) M
theorem jP:cI bQ dO:=by rintro ds M R ⟨ps,a,r,rfl,_⟩;rfl
theorem nU:lY (p::rs) r=if p.1=r then p.2 else lY rs r:=by unfold lY;rw[Iq];by_cases h:p.1=r;rw[dT_ h,m9 h];rfl;rw[dF_ h,n5 h]
def jK:p5:=oH
def gQ:p5:=az (jU (cE<|p6 u5 (ab 0)<|dC<|.int 1) (jR 2<|bh (ar 2)<|bh (ar 3) jS)<|A2 (ax<|p6 C0 (ab 2)<|ab 1) (bp<|ab 3) aY)<|jK
theorem lg:A3 bQ 4 gQ:=by
 rintro ds M R ⟨ps,s,r,rfl,i,h⟩;simp only[gQ,aF];walk_at"dl";intro _;refine iC (λys S c=>∃qs a b,ys=qs.map ij/\c=M/\S=[a7<|aF ps s,a7<|.str r,a,b]/\lY s r=lY qs r/\r∈qs.map (·.1)) ?_ ?_ _ _ _ ⟨s,_,_,rfl,rfl,rfl,rfl,i⟩;rintro S c ⟨qs,a,b,q,rfl,rfl,e,d⟩;have:qs=[]:=by cases qs<;>simp_all
 subst this;cases d;rintro x xs S c ⟨qs,a,b,q,rfl,rfl,e,d⟩ L f;cases qs with
 |nil=>cases q
 |cons p qs=>rw[A5]at q;injection q with h1 h2;subst h1;refine⟨trivial,?_⟩;unfold ij;walk_at"dl";refine⟨trivial,⟨aw,aw⟩,?_⟩;rw[bf];rw[nU]at e;by_cases q:p.1=r;rw[beq_iff_eq.mpr q];rw[m9 q]at e;refine bP<|bt.now ?_;rw[<-e];exact h;rw[beq_eq_false_iff_ne.mpr q];rw[n5 q]at e;rw[A5,u8]at d;exact bz<|z9.now<|f _ _ ⟨qs,_,_,h2,rfl,rfl,e,d.resolve_left<|v5 q⟩
theorem lU(T:Tops P w K mg base):t9 P w K mg base 1 "members_of" dO bQ:=t9.byD (N:=["house","room","told","members"]) T.b T.f_members_of (by walk_at"sc") jP (by walk_at"dv") lg
def bZ:x5:=λds M R=>∃(a b:D) (r:List D),ds=[.tup<|a::b::r]/\R (.tup [a,b]) M
theorem oj:cI bZ gJ:=by rintro ds M R ⟨a,b,r,rfl,_⟩;rfl
def kq:p5:=bp<|gh<|aa (p6 u5 (ab 0)<|dC<|.int 0)<|aa (p6 u5 (ab 0)<|dC<|.int 1) ag
theorem ph:A3 bZ 1 kq:=by rintro ds M R ⟨a,b,r,rfl,h⟩;simp only[kq];walk_at"dl";exact⟨av (by lia),bt.now h⟩
theorem jk(T:Tops P w K mg base):t9 P w K mg base 1 "stamp_of" gJ bZ:=t9.byD (N:=["deed"]) T.b T.f_stamp_of (by walk_at"sc") oj (by walk_at"dv") ph
def br:x5:=λds M R=>∃(t x:D) (r m:List D),ds=[.tup<|t::.tup (x::r)::m]/\R x M
theorem ma:cI br eY:=by rintro ds M R ⟨t,x,r,m,rfl,_⟩;rfl
def iL:p5:=bp<|p6 u5 (p6 u5 (ab 0)<|dC<|.int 1)<|dC<|.int 0
theorem mH:A3 br 1 iL:=by rintro ds M R ⟨t,x,r,m,rfl,h⟩;simp only[iL];walk_at"dl";exact bt.now h
theorem hX(T:Tops P w K mg base):t9 P w K mg base 1 "person_of" eY br:=t9.byD (N:=["deed"]) T.b T.f_person_of (by walk_at"sc") ma (by walk_at"dv") mH
def aV:x5:=λds M R=>∃(ps:List (c7×Int)) (a:List (c7×List c7)) (g:List D) (k:c7),ds=[.tup g,.str k]/\(∀d∈g,aW ps a d)/\g.length<=1000/\R (.ref M.length) (M++[.lst<|kinds g k])
theorem gL:cI aV bW:=by rintro ds M R ⟨ps,a,g,k,rfl,_⟩;rfl
def dF:p5:=bp<|H9 1 [1] (cE<|ab 0) (ar 0) (ax<|p6 C0 (p6 u5 (p6 u5 (ab 0)<|dC<|.int 3)<|dC<|.int 0)<|ab 1)<|ab 0
theorem ii:A3 aV 2 dF:=by rintro ds M R ⟨ps,s,l,k,rfl,g,n,h⟩;simp only[dF];walk_at"dl";intro _;refine bR (λd=>decide<|bN d=k) id (λS=>∃a,S=[a,a7<|.str k]) trivial _ _ _ ?_ ⟨_,rfl⟩ (by rw[G4];exact av<|by lia) (by rw[IN,JN];exact .inl h);rintro d i S ⟨a,rfl⟩;obtain⟨t,z,H,m,x,ds,rfl,_⟩:=g d i;refine⟨[a7<|.tup [.int t,.tup [.str z,.int H],.int m,.tup<|.str x::ds],a7<|.str k],⟨_,rfl⟩,λY Z b=>?_⟩;walk_at"dl";have f:atI [D.int t,.tup [.str z,.int H],.int m,.tup<|.str x::ds] 3=a7 (.tup<|.str x::ds):=aA (j:=3) rfl;rw[f];dsimp only;rw[LR];refine⟨⟨aw,aw⟩,?_⟩;rw[bf];have c:bN (.tup [.int t,.tup [.str z,.int H],.int m,.tup<|.str x::ds])=x:=rfl;rw[c]at b;by_cases e:x=k;rw[beq_iff_eq.mpr e];rw[dT_ e]at b;exact bP b;rw[beq_eq_false_iff_ne.mpr e];rw[dF_ e]at b;exact bz b
theorem dq(T:Tops P w K mg base):t9 P w K mg base 1 "deeds_of_kind" bW aV:=t9.byD (N:=["log","kind"]) T.b T.f_deeds_of_kind (by walk_at"sc") gL (by walk_at"dv") ii
def bH:x5:=λds M R=>∃(a b c x r:D) (l:List D),ds=[.tup [a,b,c,.tup<|x::r::l]]/\R r M
theorem qc:cI bH jd:=by rintro ds M R ⟨a,b,c,x,r,l,rfl,_⟩;rfl
def mP:p5:=bp<|p6 u5 (p6 u5 (ab 0)<|dC<|.int 3)<|dC<|.int 1
theorem sN:A3 bH 1 mP:=by rintro ds M R ⟨a,b,c,x,r,l,rfl,h⟩;simp only[mP];walk_at"dl";have e:atI [a,b,c,.tup<|x::r::l] 3=a7 (.tup<|x::r::l):=aA (j:=3) rfl;rw[e];dsimp only;rw[LQ];exact bt.now h
theorem kP(T:Tops P w K mg base):t9 P w K mg base 1 "room_of" jd bH:=t9.byD (N:=["say"]) T.b T.f_room_of (by walk_at"sc") qc (by walk_at"dv") sN
def bY:x5:=λds M R=>∃(a b c x r u:D) (l:List D),ds=[.tup [a,b,c,.tup<|x::r::u::l]]/\R u M
theorem oi:cI bY gI:=by rintro ds M R ⟨a,b,c,x,r,u,l,rfl,_⟩;rfl
def kg:p5:=bp<|p6 u5 (p6 u5 (ab 0)<|dC<|.int 3)<|dC<|.int 2
theorem pf:A3 bY 1 kg:=by rintro ds M R ⟨a,b,c,x,r,u,l,rfl,h⟩;simp only[kg];walk_at"dl";have e:atI [a,b,c,.tup<|x::r::u::l] 3=a7 (.tup<|x::r::u::l):=aA (j:=3) rfl;have m:atI (x::r::u::l) 2=a7 u:=aA (j:=2) rfl;rw[e];dsimp only;rw[m];exact bt.now h
theorem ji(T:Tops P w K mg base):t9 P w K mg base 1 "under_of" gI bY:=t9.byD (N:=["say"]) T.b T.f_under_of (by walk_at"sc") oi (by walk_at"dv") pf
def ck:x5:=λds M R=>∃(ps:List (c7×Int)) (a:List (c7×List c7)) (d:D) (q:Nat) (s:List (D×D)),ds=[aF ps a,d,.ref q]/\aW ps a d/\bN d=AA1 "say"/\M[q]?=a7 (.dkt s)/\(∀p∈s,aW ps a p.2/\bN p.2=AA1 "say")/\R (.bl<|gU a s d) M
theorem me:cI ck fe:=by rintro ds M R ⟨ps,a,d,q,s,rfl,_⟩;rfl
def fF:p5:=bp<|dOrV (p6 K7 (ab 3)<|dC .non)<|xJ (p6 EJ (ab 3)<|ab 2)<|p6 C0 (s9 bH<|aa (jD (ab 2)<|ab 3) ag)<|s9 bH<|aa (ab 1) ag
def fG:p5:=az (bb (s9 bY<|aa (ab 1) ag) 3)<|fF
def iR:p5:=az (A2 (ax<|p6 kL (s9 br<|aa (ab 1) ag)<|s9 bQ<|aa (ab 0)<|aa (s9 bH<|aa (ab 1) ag) ag) (bp<|dC<|.bl c5) aY)<|fG
theorem mJ:A3 ck 4 iR:=by
 rintro ds M R ⟨ps,b,d,q,a,rfl,p,w,l,y,h⟩;obtain⟨t,z,k,m,r,u,s,rfl,_,_,x,g⟩:=dH p w;simp only[iR];walk_at"dl";refine⟨_,_,_,_,rfl,_,_,_,_,_,_,rfl,ps,b,r,rfl,x,⟨aw,lF⟩,?_⟩;rw[mi];have n:gU b a (.tup [.int t,.tup [.str z,.int k],.int m,.tup [.str<|AA1 "say",.str r,u,.str s]])=(decide (z∈lY b r)&&(decide (u=.non)||match aR a u with
  |some e=>decide<|aX e=r
  |none=>c5)):=rfl
 rw[n]at h;by_cases j:z∈lY b r;rw[dT_ j]at h ⊢;refine bz ?_;simp only[fG,fF];walk_at"dl";refine⟨_,_,_,_,_,u,_,rfl,?_⟩;rcases g with rfl|g;walk_at"dl";refine bt.now ?_;simpa using h;obtain⟨t',J,H,rfl⟩:=g;rw[dF_<|by intro e;cases e]at h;walk_at"dl";refine⟨a,l,rfl,?_⟩;cases S:aR a (.tup [.int t',.tup [.str J,.int H]]) with
 |none=>rw[S]at h;exact bz<|bt.now h
 |some e =>
  rw[S]at h;obtain⟨v,c⟩:=y _<|bX S;obtain⟨E,D,C,A,f,L,B,i,_⟩:=dH v c;dsimp only at i;subst i;refine bP ⟨a,_,l,rfl,S,_,_,_,_,_,_,rfl,_,_,_,_,_,_,rfl,⟨aw,aw⟩,?_⟩;rw[bf];refine bt.now ?_;have o:(f==r)=decide (f=r):=by by_cases e:f=r;rw[dT_ e];exact beq_iff_eq.mpr e;rw[dF_ e];exact beq_eq_false_iff_ne.mpr e
  rw[o];exact h
 rw[dF_ j]at h ⊢;exact bP<|bt.now h
theorem nQ(T:Tops P w K mg base):t9 P w K mg base 2 "can_stand" fe ck:=t9.byD (N:=["house","say","elders","under"]) T.b T.f_can_stand (by walk_at"sc") me (by have:=lU T;have:=hX T;have:=kP T;have:=ji T;walk_at"dv") mJ
def aZ:x5:=λds M R=>∃(ps:List (c7×Int)) (a:List (c7×List c7)) (g:List D),ds=[aF ps a,.tup g]/\(∀d∈g,aW ps a d)/\g.length<=1000/\∀n B,M <+: B->B[n]?=a7 (.dkt<|au a g)->R (.ref n) B
theorem fg:cI aZ bF:=by rintro ds M R ⟨ps,a,g,rfl,_⟩;rfl
theorem lC(h:∀d∈log,aW ps rs d)(g:∀d∈l,d∈kinds log (AA1 "say"))(t:TabK l kvs):∀p∈kvs,aW ps rs p.2/\bN p.2=AA1 "say":=λp a=>by obtain⟨h1,h2⟩:=ay<|g _ (t.en p a).2;exact⟨h _ h1,h2⟩
def bU:p5:=bp<|ab 2
def bV:p5:=az (jU (cE<|s9 aV<|aa (ab 1)<|aa (dC<|.str "say") ag) (ar 3)<|A2 (ax<|s9 ck<|aa (ab 0)<|aa (ab 3)<|aa (ab 2) ag) (qv (ab 2) (s9 bZ<|aa (ab 3) ag)<|ab 3) aY)<|bU
def cA:p5:=az (bb (qw) 2)<|bV
theorem fy:A3 aZ 4 cA:=by
 rintro ds M R ⟨ps,rs,log,rfl,e,o,h⟩;simp only[cA,bV];walk_at"dl";refine⟨ps,rs,log,_,rfl,e,o,?_⟩;have r:=dU (log:=log) (k:=AA1 "say");have m:∀d∈kinds log (AA1 "say"),aW ps rs d/\bN d=AA1 "say":=λd q=>⟨e d (ay q).1,(ay q).2⟩
 have g:aK rs (kinds log<|AA1 "say")=au rs log:=rfl;generalize B:kinds log (AA1 "say")=K at r m g;refine⟨K,bi,λ_=>?_⟩;refine aU (λi S c=>∃a,c=M++[.dkt<|aK rs<|K.take i,.lst K]/\S=[a7<|aF ps rs,a7<|.tup log,a7<|.ref M.length,a]) ?_ ?_ ⟨_,by simp[aK],rfl⟩;rintro S c ⟨a,rfl,rfl⟩;rw[Jm,g];refine⟨.inl ?_,?_⟩;have:(M++[MO.dkt []]).length=M.length+1:=by simp
 rw[this];exact sw;simp only[bU];walk_at"dl";exact .inl<|h _ _ (G5 _ _) gM;rintro i y S c Q ⟨a,rfl,rfl⟩ G b;have p:=Hu Q;have n:K.take (i+1)=K.take i++[y]:=by rw[JV,Q];rfl
 rw[n,cY]at b;have j:=eL (rs:=rs)<|K.take i;have v:=lC e (λd q=>B ▸ List.mem_of_mem_take q) j;have l:=j.len;rw[HU]at l;generalize aK rs (K.take i)=s at b v l;obtain⟨f,u⟩:=m y p;refine⟨.inl ?_,?_⟩;have:(M++[MO.dkt []]).length=M.length+1:=by simp
 rw[this];exact sw;walk_at"dl";refine⟨ps,rs,y,_,s,rfl,f,u,gM,v,?_⟩;unfold sX at b;cases hs:gU rs s y with
 |true=>rw[hs,m9 rfl]at b;refine bP ?_;obtain⟨t,z,k,w,x,ds,rfl,_⟩:=f;refine⟨_,_,_,rfl,s,gM,rfl,aJ (by lia),?_⟩;rw[iU];exact z9.now<|b _ _ ⟨_,rfl,rfl⟩
 |false=>rw[hs,n5<|by decide]at b;exact bz<|z9.now<|b _ _ ⟨_,rfl,rfl⟩
theorem fT(T:Tops P w K mg base):t9 P w K mg base 3 "says_that_count" bF aZ:=t9.byD (N:=["house","log","says","deed"]) T.b T.f_says_that_count (by walk_at"sc") fg (by have:=jk T;have:=dq T;have:=nQ T;walk_at"dv") fy
def bC:x5:=λds M R=>∃(t:Int) (z:c7) (k n:Int) (x m:D) (l:List D) (q:Nat) (s:List (D×D)),ds=[.tup [.int t,.tup [.str z,.int k],.int n,.tup<|x::m::l],.ref q]/\St m/\M[q]?=a7 (.dkt s)/\(∀p∈s,LV p.2)/\R (.bl<|IC s<|.tup [.int t,.tup [.str z,.int k],.int n,.tup<|x::m::l]) M
theorem io:cI bC cu:=by rintro ds M R ⟨t,z,k,n,x,m,l,q,s,rfl,_⟩;rfl
def dm:p5:=bp<|xJ (p6 EJ (ab 2)<|ab 1)<|p6 C0 (s9 br<|aa (ab 0) ag)<|s9 br<|aa (jD (ab 1)<|ab 2) ag
def eU:p5:=az (bb (p6 u5 (p6 u5 (ab 0)<|dC<|.int 3)<|dC<|.int 1) 2)<|dm
theorem iH:A3 bC 3 eU:=by
 rintro ds M R ⟨t,z,k,n,x,m,l,q,s,rfl,f,b,v,h⟩;simp only[eU,dm];obtain⟨t',J,H,rfl⟩:=f;walk_at"dl";have c:atI [D.int t,.tup [.str z,.int k],.int n,.tup<|x::.tup [.int t',.tup [.str J,.int H]]::l] 3=a7 (.tup<|x::.tup [.int t',.tup [.str J,.int H]]::l):=aA (j:=3) rfl;rw[c];dsimp only;rw[LQ];refine⟨s,b,rfl,?_⟩;have d:IC s (.tup [.int t,.tup [.str z,.int k],.int n,.tup<|x::.tup [.int t',.tup [.str J,.int H]]::l])=match aR s (.tup [.int t',.tup [.str J,.int H]]) with
  |some e=>decide<|z=dA e
  |none=>c5:=rfl
 rw[d]at h;cases S:aR s (.tup [.int t',.tup [.str J,.int H]]) with
 |none=>rw[S]at h;exact bz<|bt.now h
 |some e =>
  rw[S]at h;obtain⟨a,y,r,g,rfl⟩:=v _<|bX S;refine bP ⟨_,_,_,_,rfl,s,_,b,rfl,S,_,_,_,_,rfl,⟨aw,aw⟩,?_⟩;rw[bf];refine bt.now ?_;have o:(z==y)=decide (z=y):=by by_cases e:z=y;rw[dT_ e];exact beq_iff_eq.mpr e;rw[dF_ e];exact beq_eq_false_iff_ne.mpr e
  rw[o];exact h
theorem jn(T:Tops P w K mg base):t9 P w K mg base 2 "is_by_writer" cu bC:=t9.byD (N:=["deed","says","message"]) T.b T.f_is_by_writer (by walk_at"sc") io (by have:=hX T;walk_at"dv") iH
def bI:x5:=λds M R=>∃(ps:List (c7×Int)) (a:List (c7×List c7)) (g:List D) (k:c7) (q:Nat) (s:List (D×D)),ds=[.tup g,.str k,.ref q]/\(∀d∈g,aW ps a d)/\g.length<=1000/\(k=AA1 "change"\/k=AA1 "back")/\M[q]?=a7 (.dkt s)/\(∀p∈s,LV p.2)/\R (.ref M.length) (M++[.lst<|(kinds g k).filter<|IC s])
theorem ju:cI bI cN:=by rintro ds M R ⟨ps,a,g,k,q,s,rfl,_⟩;rfl
theorem FD(h:aW ps rs d)(e:bN d=k)(b:k=AA1 "change"\/k=AA1 "back"):∃(t:Int) (z:c7) (k num:Int) (x m:D) (l:List D),d=.tup [.int t,.tup [.str z,.int k],.int num,.tup<|x::m::l]/\St m:=by rcases b with rfl|rfl;obtain⟨t,z,k,num,m,s,rfl,a⟩:=xO h e;exact⟨t,z,k,num,_,m,_,rfl,a⟩;obtain⟨t,z,k,num,m,rfl,a⟩:=qA h e;exact⟨t,z,k,num,_,m,_,rfl,a⟩
def fE:p5:=bp<|H9 1 [2] (cE<|s9 aV<|aa (ab 0)<|aa (ab 1) ag) (ar 0) (ax<|s9 bC<|aa (ab 0)<|aa (ab 1) ag)<|ab 0
theorem jJ:A3 bI 3 fE:=by
 rintro ds M R ⟨ps,rs,log,k,q,s,rfl,c,g,f,j,v,h⟩;simp only[fE];walk_at"dl";refine⟨ps,rs,log,k,rfl,c,g,_,bi,λ_=>?_⟩;have o:=dU (log:=log) (k:=k);refine bR (IC s) id (λS=>∃a,S=[a,a7<|.ref q]) bi _ _ _ ?_ ⟨_,rfl⟩ (by rw[G4];exact av<|by lia) ?_;rintro d i S ⟨a,rfl⟩;obtain⟨h1,h2⟩:=ay i;obtain⟨t,z,H,n,x,m,l,rfl,hs⟩:=FD (c d h1) h2 f;refine⟨[a7<|.tup [.int t,.tup [.str z,.int H],.int n,.tup<|x::m::l],a7<|.ref q],⟨_,rfl⟩,λY Z b=>?_⟩;walk_at"dl";refine⟨t,z,H,n,x,m,l,q,s,rfl,hs,ad j,v,?_⟩;cases e:IC s (.tup [.int t,.tup [.str z,.int H],.int n,.tup<|x::m::l]) with
 |true=>rw[e]at b;exact bP b
 |false=>rw[e]at b;exact bz b
 rw[IN,JN,Hs];exact bt.lst h (by simp) (by simp)<|aW.bels (ps:=ps) (rs:=rs) λd m=>c d (ay (F7.mp m).1).1
theorem jN(T:Tops P w K mg base):t9 P w K mg base 3 "writers_own" cN bI:=t9.byD (N:=["log","kind","says"]) T.b T.f_writers_own (by walk_at"sc") ju (by have:=dq T;have:=jn T;walk_at"dv") jJ
def aN:x5:=λds M R=>∃(ps:List (c7×Int)) (r:List (c7×List c7)) (g:List D) (q:Nat) (s:List (D×D)),ds=[.tup g,.ref q]/\(∀d∈g,aW ps r d)/\g.length<64/\M[q]?=a7 (.dkt s)/\(∀p∈s,LV p.2)/\∀ys,(∀x∈ys,St x)->(∀x,x∈ys↔bK s g x)->ys.Nodup->(ys.Pairwise λa b=>¬enc p7 b<enc p7 a)->R (.ref M.length) (M++[.lst ys])
theorem dR:cI aN bj:=by rintro ds M R ⟨ps,a,g,q,s,rfl,_⟩;rfl
def bT:p5:=bp<|gj<|H9 1 [] (cE<|s9 bI<|aa (ab 0)<|aa (dC<|.str "back")<|aa (ab 1) ag) (ar 0) ux<|p6 u5 (p6 u5 (ab 0)<|dC<|.int 3)<|dC<|.int 1
theorem eP:A3 aN 2 bT:=by
 rintro ds M R ⟨ps,E,log,q,s,rfl,o,H,y,B,h⟩;simp only[bT];walk_at"dl";refine⟨ps,E,log,_,q,s,rfl,o,by lia,.inr rfl,y,B,_,bi,λ_=>?_⟩;have I:=dU (log:=log) (k:=AA1 "back");have u:=LB (IC s)<|kinds log<|AA1 "back";have l:∀d∈(kinds log<|AA1 "back").filter (IC s),∃(t:Int) (z:c7) (k n:Int) (m:D),d=.tup [.int t,.tup [.str z,.int k],.int n,.tup [.str<|AA1 "back",m]]/\St m:=λd m=>by obtain⟨h1,h2⟩:=ay (F7.mp m).1;exact qA (o d h1) h2
 have g:∀x,x∈((kinds log<|AA1 "back").filter<|IC s).map yc↔bK s log x:=λx=>by constructor;intro f;obtain⟨d,m,rfl⟩:=y4.mp f;exact⟨d,(F7.mp m).1,(F7.mp m).2,rfl⟩;rintro⟨d,h1,h2,rfl⟩;exact HL<|F7.mpr ⟨h1,h2⟩
 generalize (kinds log<|AA1 "back").filter (IC s)=F at u l g;refine eA yc (λS=>∃a,S=[a]) bi _ _ _ (λd i S v=>?_) ⟨_,rfl⟩ (by rw[G4];exact av<|by lia) ?_;obtain⟨a,rfl⟩:=v;obtain⟨t,z,k,n,m,rfl,_⟩:=l d i;refine⟨[a7<|.tup [.int t,.tup [.str z,.int k],.int n,.tup [.str<|AA1 "back",m]]],⟨_,rfl⟩,λY w=>?_⟩;walk_at"dl";have r:atI [D.int t,.tup [.str z,.int k],.int n,.tup [.str<|AA1 "back",m]] 3=a7 (.tup [.str<|AA1 "back",m]):=aA (j:=3) rfl;rw[r];dsimp only;rw[LQ];exact w;rw[IN];have hs:∀x∈F.map yc,St x:=λx f=>by obtain⟨d,i,rfl⟩:=y4.mp f;obtain⟨t,z,k,n,m,rfl,hs⟩:=l d i;exact hs
 refine⟨8,_,t6 _,.inl ⟨_,rfl,bi⟩,by rw[t7];lia,λx f=>?_,vt hs (by rw[t7];lia),λys X Q A=>?_⟩;obtain⟨K,e⟩:=(hs x f).tup;exact⟨(hs x f).key,by rw[e];rfl⟩;have c:∀x∈ys,St x:=λx f=>hs x<|(Q x).mp f;rw[Hs,Hs];have G:ys.Pairwise λa b=>¬enc p7 b<enc p7 a:=(Mr.mp A).imp λ{a b} ⟨ha,g,q⟩=>by
  have p:=c a ha;have U:=c b g;have J:z5 p7 a=a9:=by obtain⟨t,z,k,e⟩:=p;rw[e];rfl
  have C:z5 p7 b=a9:=by obtain⟨t,z,k,e⟩:=U;rw[e];rfl
  rw[jq C J<|U.cm p]at q;exact of_decide_eq_false q
 exact bt.lst (h ys c (λx=>(Q x).trans<|g x) X G) (by simp) (by simp)<|Bels.of λd m=>dN 2 d (c d m).pl
theorem eQ(T:Tops P w K mg base):t9 P w K mg base 4 "stamps_taken_back" bj aN:=t9.byD (N:=["log","says"]) T.b T.f_stamps_taken_back (by walk_at"sc") dR (by have:=jN T;walk_at"dv") eP
def bd:x5:=λds M R=>∃(ps:List (c7×Int)) (a:List (c7×List c7)) (q:Nat) (r:c7) (s:List (D×D)),ds=[.ref q,.str r]/\M[q]?=a7 (.dkt s)/\(∀p∈s,aW ps a p.2/\bN p.2=AA1 "say")/\s.length<=1000/\∀n B b,M <+: B->TreeAt B n b (aH r (s.map (·.2)))->R (.ref n) B
theorem fU:cI bd bL:=by rintro ds M R ⟨ps,a,q,r,s,rfl,_⟩;rfl
def cc:p5:=bp<|ab 2
def cf:p5:=az (jU (sD<|ab 0) (ar 3)<|A2 (ax<|p6 C0 (s9 bH<|aa (ab 3) ag)<|ab 1) (fu<|Ij bE (J6 nJ (ab 2)<|aa (s9 bY<|aa (ab 3) ag)<|aa (iq ag) ag)<|aa (s9 bZ<|aa (ab 3) ag) ag) aY)<|cc
def da:p5:=az (bb (Am) 2)<|cf
theorem gB:A3 bd 4 da:=by
 rintro ds M R ⟨ps,rs,q,r,l,rfl,J,hk,kl,h⟩;simp only[da,cf];walk_at"dl";refine⟨l,ad J,λ_=>?_⟩;have ai:=aC J;refine aU (λi S g=>∃(c:List (D×D)) (a:Option D),M <+: g/\TreeAt g M.length c (aH r ((l.map (·.2)).take i))/\c.length<=i/\S=[a7<|.ref q,a7<|.str r,a7<|.ref M.length,a]) ?_ ?_ ⟨[],_,gH,⟨ae,λk d z=>(by cases z),λk _=>rfl,λ_ _ _ z=>(by cases z)⟩,t6 _,rfl⟩;rintro S g ⟨c,a,pM,f,_,rfl⟩;rw[Jm]at f;refine⟨bc pM J,?_⟩;simp only[cc];walk_at"dl";exact .inl<|h _ _ _ pM f;rintro i e S g I ⟨c,a,pM,f,tl,rfl⟩ G o;have V:(l.map (·.2)).take (i+1)=(l.map (·.2)).take i++[e]:=by rw[JV,I];rfl
 rw[V]at o;have hi:=(w9.mp I).1;rw[t7]at hi;have hm:=Hu I;obtain⟨p,hp,rfl⟩:=y4.mp hm;obtain⟨U,X⟩:=hk p hp;generalize p.2=e at I V o U X;refine⟨bc pM J,?_⟩;walk_at"dl";have x:∀k,(aH r ((l.map (·.2)).take i) k).length<=i:=λk=>by unfold aH;rw[t7];refine F6 (LB _ _) ?_;rw[HU];lia
 generalize (l.map (·.2)).take i=es at f o x;obtain⟨t,z,k,B,r',u,s,rfl,_,_,_,hu⟩:=dH U X;have N:∀H,aH r (es++[.tup [.int t,.tup [.str z,.int k],.int B,.tup [.str<|AA1 "say",.str r',u,.str s]]]) H=if r'=r/\u=H then aH r es H++[.tup [.int t,.tup [.str z,.int k]]]else aH r es H:=λH=>wV
 generalize es++[.tup [.int t,.tup [.str z,.int k],.int B,.tup [.str<|AA1 "say",.str r',u,.str s]]]=n at N o;have ku:tT u=a9:=by
  rcases hu with rfl|⟨t',z',H,rfl⟩
  rfl;rfl
 refine⟨_,_,_,_,_,_,rfl,⟨aw,aw⟩,?_⟩;rw[bf];by_cases K:r'=r;rw[beq_iff_eq.mpr K];have Z:aH r n u=aH r es u++[.tup [.int t,.tup [.str z,.int k]]]:=by rw[N,m9 ⟨K,rfl⟩]
 have L:∀H,H≠u->aH r n H=aH r es H:=λH ne=>by rw[N,n5 λw=>ne w.2.symm]
 refine bP ⟨⟨_,f.at_⟩,_,_,_,_,_,_,_,rfl,v9 _,c,ad f.at_,ku,aJ (by lia),λy Q=>?_,λW=>?_⟩;obtain⟨m,rfl,nm,P⟩:=f.got u y Q;refine⟨⟨_,.inl<|ad P⟩,_,_,_,rfl,_,ad P,aJ (by have:=x u;lia),z9.now<|o _ _ ⟨c,_,bx (pM.trans gH)<|Jj nm,⟨ap (by lia)<|ad f.at_,λH d b=>?_,λH b=>?_,f.one⟩,by lia,rfl⟩⟩;obtain⟨A,rfl,v,j⟩:=f.got H d b;refine⟨A,rfl,v,?_⟩;by_cases e:H=u;subst e;rw[Q]at b;obtain rfl:m=A:=by injection b with b;injection b
 rw[bn<|ad P,Z];rw[L H e];exact ap (λz=>e<|f.one _ _ _ (z ▸ b) Q)<|ad j;have e:H≠u:=λz=>by rw[z,Q]at b;cases b
 rw[L H e];exact f.no H b;have lM:M.length<g.length:=aC f.at_;have O:((g++[MO.lst []]).set M.length<|.dkm<|c++[(u,.ref g.length)])[g.length]?=a7 (.lst []):=ap (by lia) ae;have T:∀H,aR (c++[(u,.ref g.length)]) H=if H=u then a7 (.ref g.length)else aR c H:=λH=>by rw[<-nK W];by_cases e:H=u;rw[m9 e,e,eK];rw[n5 e,fW e]
 refine⟨⟨_,.inl O⟩,_,_,_,rfl,_,O,aJ (by rw[G4];lia),z9.now<|o _ _ ⟨c++[(u,.ref g.length)],_,bx (bx (pM.trans gH)<|t6 _) (by lia),⟨ap (by lia)<|bn<|ad f.at_,λH d b=>?_,λH b=>?_,λk1 k2 m h1 h2=>?_⟩,by rw[v4,F9];lia,rfl⟩⟩;rw[T]at b;by_cases e:H=u;rw[m9 e]at b;subst e;exact⟨g.length,by injection b with b;exact b.symm,lM,by rw[bn O,Z,f.no _ W]⟩;rw[n5 e]at b;obtain⟨A,rfl,v,j⟩:=f.got H d b;have:=aC j;exact⟨A,rfl,v,by rw[L H e];exact ap (by lia)<|ap (by lia)<|ad j⟩;rw[T]at b;by_cases e:H=u;rw[m9 e]at b;cases b;rw[n5 e]at b;rw[L H e];exact f.no H b;rw[T]at h1 h2;have C:∀H m,aR c H=a7 (.ref m)->m<g.length:=λH m h'=>by obtain⟨A,e,_,j⟩:=f.got H _ h';injection e with e;rw[e];exact aC j
 by_cases E:k1=u<;>by_cases F:k2=u;rw[E,F];rw[m9 E]at h1;rw[n5 F]at h2;have:=C _ _ h2;injection h1 with h1;injection h1 with h1;lia;rw[n5 E]at h1;rw[m9 F]at h2;have:=C _ _ h1;injection h2 with h2;injection h2 with h2;lia;rw[n5 E]at h1;rw[n5 F]at h2;exact f.one _ _ _ h1 h2;rw[beq_eq_false_iff_ne.mpr K];have Y:∀H,aH r n H=aH r es H:=λH=>by rw[N,n5 λw=>K w.1]
 exact bz<|z9.now<|o _ _ ⟨c,_,pM,⟨f.at_,λH d b=>by rw[Y];exact f.got H d b,λH b=>by rw[Y];exact f.no H b,f.one⟩,by lia,rfl⟩
theorem gK(T:Tops P w K mg base):t9 P w K mg base 2 "stamps_beneath" bL bd:=t9.byD (N:=["says","room","beneath","say"]) T.b T.f_stamps_beneath (by walk_at"sc") fU (by have:=jk T;have:=kP T;have:=ji T;walk_at"dv") gB
def bB:x5:=λds M R=>∃(n:Int) (q:Nat) (xs:List D),ds=[.int n,.ref q]/\ak M q xs/\(∀x∈xs,St x)/\R (.ref M.length) (M++[.lst<|bu n xs])
theorem jQ:cI bB dP:=by rintro ds M R ⟨n,q,xs,rfl,_⟩;rfl
def gR:p5:=bp<|H9 1 [0] (Al<|aa (ab 1) ag) (ar 0) ux<|gh<|aa (ab 1)<|aa (ab 0) ag
theorem lh:A3 bB 2 gR:=by rintro ds M R ⟨n,q,xs,rfl,L,hs,h⟩;simp only[gR];walk_at"dl";refine⟨xs,L,λg=>?_⟩;refine eA (λx=>.tup [.int n,x]) (λS=>∃a,S=[a,a7<|.int n]) L _ _ _ (λx d S b=>?_) ⟨_,rfl⟩ (by rw[G4,ACR];lia)<|.inl h;obtain⟨a,rfl⟩:=b;refine⟨[a7 x,a7<|.int n],⟨_,rfl⟩,λY c=>?_⟩;walk_at"dl";exact⟨av (by lia),c⟩
theorem lV(T:Tops P w K mg base):t9 P w K mg base 1 "last_first" dP bB:=t9.byD (N:=["depth","stamps"]) T.b T.f_last_first (by walk_at"sc") jQ (by walk_at"dv") lh
def bA:x5:=λds M R=>∃(n:Nat) (b:List (D×D)) (es:List D) (r:c7),ds=[.ref n]/\TreeAt M n b (aH r es)/\(∀e∈es,St (stD e)/\(dD e=.non\/St (dD e)))/\(es.map stD).Nodup/\es.length<=100/\∀out,RunW (aH r es) [] (bu 0<|aH r es .non) out->(∀x∈out,∃k s,x=.tup [.int k,s]/\St s)->out.length<=es.length->R (.ref M.length) (M++[.lst out])
theorem il:cI bA cr:=by rintro ds M R ⟨n,b,es,r,rfl,_⟩;rfl
theorem tj(h:a<=1000):a<=sizeLine:=av<|by lia
theorem iteT'{b:Bool}{A B:Prop}(e:b=a9)(h:A):if b=a9 then A else B:=by rw[m9 e];exact h
def db:p5:=bp<|ab 1
def dc:p5:=fu<|Ij gG (ab 2)<|aa (s9 bB<|aa (p6 ba (p6 u5 (ab 3)<|dC<|.int 0)<|dC<|.int 1)<|aa (J6 kM (ab 0)<|aa (p6 u5 (ab 3)<|dC<|.int 1)<|aa (iq ag) ag) ag) ag
def df:p5:=az (fu<|Ij bE (ab 1)<|aa (ab 3) ag)<|dc
def dh:p5:=az (kY (ax<|p6 Jp (s9 jM<|aa (ab 2) ag)<|dC<|.int 0)<|az (bb (dMl0 EG<|ab 2) 3)<|df)<|db
def dj:p5:=az (bb (s9 bB<|aa (dC<|.int 0)<|aa (J6 kM (ab 0)<|aa (dC .non)<|aa (iq ag) ag) ag) 2)<|dh
def eT:p5:=az (bb (iq ag) 1)<|dj
theorem iG:A3 bA 4 eT:=by
 rintro ds M R ⟨n,P,es,r,rfl,H,hs,Y,el,h⟩;have A:M <+: M++[MO.lst []]++[MO.lst []]:=gH.trans gH;have g0:(M++[MO.lst []]++[MO.lst []])[(M++[MO.lst []]).length]?=a7 (.lst []):=ae;have E:(M++[MO.lst []]++[MO.lst []])[M.length]?=a7 (.lst []):=ad ae;have X:∀k,∀x∈aH r es k,St x:=λk x L=>by obtain⟨e,v,rfl,_⟩:=cS.mp L;exact(hs e v).1
 simp only[eT,dj];walk_at"dl";refine⟨v9 _,⟨_,ad H.at_⟩,v9 _,_,ad<|ad H.at_,rfl,?_⟩;obtain⟨q,eq,gq⟩:=(H.pre A).kids (k:=.non) g0;rw[eq];refine⟨0,q,_,rfl,.inl gq,X _,?_⟩;have l:M.length<(M++[MO.lst []]++[MO.lst []]).length:=by simp
 have T:(M++[MO.lst []]++[MO.lst []]++[MO.lst<|bu 0<|aH r es .non])[(M++[MO.lst []]++[MO.lst []]).length]?=a7 (.lst<|bu 0<|aH r es .non):=ae;replace E:=ad (a:=MO.lst<|bu 0<|aH r es .non) E;replace A:=A.trans<|gH (mo:=MO.lst<|bu 0<|aH r es .non);generalize M++[MO.lst []]++[MO.lst []]++[MO.lst<|bu 0<|aH r es .non]=B at T E A;generalize (M++[MO.lst []]++[MO.lst []]).length=O at T l;have eS:∀e∈es,stD e≠.non:=λe v z=>by obtain⟨t,z',k,U⟩:=(hs e v).1;rw[z]at U;cases U
 simp only[dh];walk_at"dl";refine⟨λm S j=>∃(b o:List D) (a:Option D),M <+: j/\j[M.length]?=a7 (.lst b)/\j[O]?=a7 (.lst o)/\TreeW r es b o/\(∀out,RunW (aH r es) b o out->RunW (aH r es) [] (bu 0<|aH r es .non) out)/\m+b.length=es.length/\S=[a7<|.ref n,a7<|.ref M.length,a7<|.ref O,a],⟨es.length,[],_,_,A,E,T,.start Y,λ_ z=>z,rfl,rfl⟩,?_⟩;rintro m S j ⟨b,o,a,pM,W,G,w,V,hm,rfl⟩;have wl:=w.len;walk_at"dl";refine⟨_,.inl G,?_⟩;have u:∀x∈b,∃k s,x=D.tup [.int k,s]/\St s:=λx L=>by obtain⟨k,e,q1,q2,_⟩:=w.ok x<|E3 _ L;exact⟨k,_,q1,(hs e q2).1⟩
 rcases List.eq_nil_or_concat o with rfl|⟨c,x,rfl⟩
 refine bz ?_;simp only[db];walk_at"dl";refine bt.chgL .refl (h b (V _ .done) u<|by lia) (t6 _) W pM<|Bels.of λd hd=>?_;obtain⟨k,s,rfl,q⟩:=u d hd;exact .tup<|.cons (.int _)<|.cons (dN 2 _ q.pl) .nil;rw[List.concat_eq_append]at *;have wo:=w.ok x (by simp);obtain⟨k,e,rfl,v,_⟩:=wo;have Z:=w.step Y eS;have Q:=Z.len;have J:∀out,RunW (aH r es) (b++[.tup [.int k,stD e]]) (c++bu (k+1) (aH r es<|stD e)) out->RunW (aH r es) [] (bu 0<|aH r es .non) out:=λout z=>V out (by have:=RunW.step z;simpa using this);have ks:=zE (r:=r) (es:=es) (k:=stD e);have ke:tT (stD e)=a9:=by obtain⟨t,z,k,q⟩:=(hs e v).1;rw[q];rfl
 have N:=X<|stD e;rw[v4,v4,F9]at Q;generalize stD e=s at *;rw[v4,F9]at wl;refine iteT' (dT_<|by rw[v4,F9];lia) ⟨⟨_,.inl G⟩,c,_,G,?_⟩;have C:=bx (x:=MO.lst c) pM<|Jj l;have g:=ap (x:=MO.lst c) (v7 l) W;have y:=bn (a:=MO.lst c) G;generalize j.set O (MO.lst c)=M1 at C g y;simp only[df];walk_at"dl";refine⟨⟨_,.inl g⟩,_,g,aJ (by lia),?_⟩;have p:=bx (x:=MO.lst<|b++[.tup [.int k,s]]) C<|t6 _;have F:=bn (a:=MO.lst<|b++[.tup [.int k,s]]) g;have f:=ap (x:=MO.lst<|b++[.tup [.int k,s]]) (v5<|v7 l) y;generalize M1.set M.length (MO.lst<|b++[.tup [.int k,s]])=M2 at p F f;simp only[dc];walk_at"dl";have i:=H.pre p;refine⟨⟨_,.inl f⟩,⟨_,i.at_⟩,v9 _,P,ad i.at_,ke,?_⟩;obtain⟨q',I,K⟩:=(i.pre<|gH (mo:=MO.lst [])).kids (k:=s) (q0:=M2.length) ae;rw[I];refine⟨k+1,q',_,rfl,.inl K,N,?_⟩;have lq:=aC f;refine⟨_,_,ad<|ad f,ae,by rw[v4];lia,tj (by unfold bu;rw[t7,ACR];lia),m-1,?_,b++[.tup [.int k,s]],_,_,bx ((p.trans gH).trans gH)<|Jj l,ap (v7 l)<|ad<|ad F,bn<|ad<|ad f,Z,J,?_,rfl⟩;lia;rw[v4,F9];lia
theorem jm(T:Tops P w K mg base):t9 P w K mg base 2 "rows_of_tree" cr bA:=t9.byD (N:=["beneath","rows","to_do","row"]) T.b T.f_rows_of_tree (by walk_at"sc") il (by have:=lV T;walk_at"dv") iG
theorem Ev{M:p8}{l:List D}(h:∀x∈l,St x):l.all (t4 M p7)=a9:=D9.mpr λx a=>(h x a).ok
theorem Gi(a:St x)(h:∀x∈l,St x):Jg M x l=decide (x∈l):=by unfold Jg;by_cases d:x∈l;rw[dT_ d];exact KW.mpr ⟨x,d,by rw[show p7=28+2 from rfl,a.eq a];exact dT_ rfl⟩;rw[dF_ d];refine JA.mpr λz=>?_;obtain⟨y,Q,e⟩:=KW.mp z;rw[show p7=28+2 from rfl,(h y Q).eq a]at e;exact d<|oT_ e ▸ Q
def iI:p5:=bp<|H9 1 [4] (cE<|s9 bA<|aa (s9 bd<|aa (ab 3)<|aa (ab 2) ag) ag) (ar 0) (ax<|p6 kL (p6 u5 (ab 0)<|dC<|.int 1)<|ab 1)<|ab 0
def iJ:p5:=az (bb (s9 aN<|aa (ab 1)<|aa (ab 3) ag) 4)<|iI
def iK:p5:=az (bb (s9 aZ<|aa (ab 0)<|aa (ab 1) ag) 3)<|iJ
def mO:p5:=az (A2 (ye<|ax<|s9 eN<|aa (ab 0)<|aa (ab 2) ag) (oH) aY)<|iK
def cG:x5:=λds M R=>∃(ps:List (c7×Int)) (a:List (c7×List c7)) (g:List D) (r:c7),ds=[aF ps a,.tup g,.str r]/\r∈a.map (·.1)/\(∀d∈g,aW ps a d)/\g.length<64/\∀out,RunW (aH r ((au a g).map (·.2))) [] (bu 0 (aH r ((au a g).map (·.2)) .non)) out->(∀x∈out,∃k s,x=.tup [.int k,s]/\St s)->R (.ref M.length) (M++[.lst<|out.filter λx=>@decide (¬bK (au a g) g (dw x))<|E9 _])
theorem pZ:cI cG jc:=by rintro ds M R ⟨ps,a,g,r,rfl,_⟩;rfl
--- wp
theorem sM:A3 cG 5 mO:=by
 rintro ds M R ⟨ps,rs,log,r,rfl,N,A,K,h⟩;simp only[mO];walk_at"dl";refine⟨ps,rs,r,rfl,N,bz ?_⟩;simp only[iK];walk_at"dl";refine⟨ps,rs,log,rfl,A,by lia,λn B l f=>?_⟩;have o:=cF (rs:=rs) (log:=log);have E:=lC A (λ_ q=>q) o;have kl:=dU (log:=log) (k:=AA1 "say");have tl:=o.len;simp only[iJ];walk_at"dl";refine⟨ps,rs,log,n,au rs log,rfl,A,K,f,λp i=>(E p i).1.nm,λys j Q ai _=>?_⟩;have w:(B++[MO.lst ys])[B.length]?=a7 (.lst ys):=ae;replace f:=ad (a:=MO.lst ys) f;replace l:=l.trans<|gH (mo:=MO.lst ys);generalize B++[MO.lst ys]=B1 at w f l;generalize B.length=H at w;simp only[iI];walk_at"dl";refine⟨ps,rs,n,r,au rs log,rfl,f,E,by lia,λU v F G tr=>?_⟩;have I:∀e∈(au rs log).map (·.2),St (stD e)/\(dD e=.non\/St (dD e)):=λe J=>by obtain⟨p,i,rfl⟩:=y4.mp J;obtain⟨h1,h2⟩:=E p i;generalize p.2=e at h1 h2;obtain⟨t,z,k,V,r',u,s,rfl,_,_,_,O⟩:=dH h1 h2;exact⟨⟨t,z,k,rfl⟩,O⟩
 have X:(((au rs log).map (·.2)).map stD).Nodup:=by
  have:((au rs log).map (·.2)).map stD=(au rs log).map (·.1):=by rw[G2];exact K2 λp i=>(o.en p i).1.symm
  rw[this];exact o.nd
 refine⟨U,F,_,r,rfl,tr,I,X,by rw[t7];lia,λout P D W=>?_⟩;rw[t7]at W;have g:=ad (a:=MO.lst out)<|bc G w;have c:=(l.trans G).trans<|gH (mo:=MO.lst out);have y:(v++[MO.lst out])[v.length]?=a7 (.lst out):=ae;generalize v++[MO.lst out]=B3 at g c y;refine⟨_,.inl y,λ_=>?_⟩;refine bR (λx=>@decide (¬bK (au rs log) log (dw x))<|E9 _) id (λS=>∃a,S=[a,a7<|.ref H]) (.inl y) _ _ _ ?_ ⟨_,rfl⟩ (by rw[G4];exact av<|by lia) ?_;rintro x T S ⟨a,rfl⟩;refine⟨[a7 x,a7<|.ref H],⟨_,rfl⟩,λY Z b=>?_⟩;obtain⟨k,s,rfl,hs⟩:=D x T;walk_at"dl";refine⟨_,.inl g,⟨hs.ok,Ev j⟩,?_⟩;rw[Gi hs j];by_cases m:s∈ys;rw[dT_ m];rw[show @decide (¬bK (au rs log) log (dw<|.tup [.int k,s])) (E9 _)=c5 from @decide_eq_false _ (E9 _) λz=>z<|(Q s).mp m]at b;exact b;rw[dF_ m];rw[show @decide (¬bK (au rs log) log (dw<|.tup [.int k,s])) (E9 _)=a9 from @decide_eq_true _ (E9 _) λz=>m<|(Q s).mpr z]at b;exact b;rw[IN,JN];refine bt.chgL .refl (h out P D) (by obtain⟨L,rfl⟩:=c;simp) ae (c.trans gH)<|Bels.of λd C=>?_;obtain⟨k,s,rfl,q⟩:=D d (F7.mp C).1;exact .tup<|.cons (.int _)<|.cons (dN 2 _ q.pl) .nil
theorem tE(T:Tops P w K mg base):t9 P w K mg base 5 "rows_of" jc cG:=t9.byD (N:=["house","log","room","says","backs"]) T.b T.f_rows_of (by walk_at"sc") pZ (by have:=tF T;have:=fT T;have:=eQ T;have:=gK T;have:=jm T;walk_at"dv") sM
noncomputable def Bb(ns:List Int)(k:Nat):Int:=ns.getD k 0
def eO:x5:=λds M R=>∃(n:Nat) (ns:List Int) (k:Nat),ds=[.ref n,.int k]/\ak M n (ns.map D.int)/\R (.int<|Bb ns k) M
theorem qf:cI eO jf:=by rintro ds M R ⟨n,ns,k,rfl,_⟩;rfl
def iQ:p5:=bp<|dC<|.int 0
def nr:p5:=az (A2 (ax<|p6 JF (ab 1)<|s9 jM<|aa (ab 0) ag) (bp<|p6 u5 (ab 0)<|ab 1) aY)<|iQ
theorem sP:A3 eO 2 nr:=by rintro ds M R ⟨n,ns,k,rfl,L,h⟩;simp only[nr,iQ];walk_at"dl";refine⟨_,L,?_⟩;unfold Bb at h;by_cases a:k<ns.length;rw[dT_<|by simpa using a];refine bP ⟨_,L,?_⟩;rw[aA (v:=.int ns[k])<|by rw[C2,u9 a];rfl];rw[HM,u9 a]at h;exact bt.now h;rw[dF_<|by simpa using a];rw[HM,J0<|by lia]at h;exact bz<|bt.now h
theorem tG(T:Tops P w K mg base):t9 P w K mg base 1 "_law_cell_at" jf eO:=t9.byD (N:=["_law_script","_law_k"]) T.b T.f_cell_at (by walk_at"sc") qf (by walk_at"dv") sP
def cH:x5:=λds M R=>∃(c:Int),ds=[.int c]/\∀n:Int,R (.ref M.length)<|M++[.lst [.int n]]
theorem tQ:cI cH lT:=by rintro ds M R ⟨c,rfl,_⟩;rfl
def kC:p5:=bp<|iq<|aa (ab 3) ag
def kD:p5:=bb (p6 ba (p6 lJ (ab 3)<|dC<|.int 2147483587)<|p6 vM (p6 lJ (ab 5)<|dC<|.int 69621)<|dC<|.int 2147483587) 3
def kE:p5:=az (bb (p6 vM (p6 lJ (ab 2)<|ab 2)<|dC<|.int 2147483629) 5)<|kD
def kF:p5:=az (jU (cw<|aa (dC<|.int 16) ag) (ar 4)<|az (bb (p6 vM (p6 ba (p6 ba (p6 lJ (ab 2)<|dC<|.int 48271)<|p6 lJ (dC<|.int 7919)<|ab 4)<|dC<|.int 11)<|dC<|.int 2147483647) 2)<|kE)<|kC
def kG:p5:=az (bb (dC<|.int 0) 3)<|kF
def kH:p5:=az (bb (p6 vM (ab 1)<|dC<|.int 2147483647) 2)<|kG
def kI:p5:=az (A2 (ax<|p6 C0 (p6 vM (ab 0)<|dC<|.int 2)<|dC<|.int 0) (bp<|iq<|aa (ab 1) ag) aY)<|kH
def rK:p5:=az (bb (p6 pI (ab 0)<|dC<|.int 2) 1)<|kI
theorem uC:A3 cH 6 rK:=by
 rintro ds M R ⟨c,rfl,h⟩;simp only[rK,kI];walk_at"dl";refine⟨⟨by decide,by decide⟩,by decide,⟨rfl,rfl⟩,?_⟩;generalize j:r9 M p7 (.int<|c % 2) (.int 0)=b;cases b with
 |true=>exact bP ⟨av (by lia),.inl<|h _⟩
 |false=>refine bz ?_;simp only[kH,kG,kF];walk_at"dl";have U:=wB (a:=c / 2) (b:=2147483647) (by decide);have r:=wC (a:=c / 2) (b:=2147483647) (by decide);refine⟨by decide,⟨by decide,by decide⟩,?_⟩;refine aU (λi S d=>d=M/\∃(u e:Int) (a b:Option D),0<=u/\u<2147483647/\S=[a7<|.int c,a7<|.int<|c / 2,a7<|.int u,a7<|.int e,a,b]) ?_ ?_ ⟨rfl,_,_,_,_,U,r,rfl⟩;rintro S d ⟨rfl,u,e,a,b,_,_,rfl⟩;refine⟨trivial,?_⟩;simp only[kC];walk_at"dl";exact⟨av (by lia),.inl<|h _⟩;rintro i y S d Q ⟨rfl,u,e,a,b,n,k,rfl⟩ G g;obtain⟨hi,rfl⟩:=eH.mp Q;refine⟨trivial,?_⟩;walk_at"dl";refine⟨.inr ⟨by decide,by decide⟩,.inl ⟨by decide,by decide⟩,by decide,?_⟩;have f:=wB (a:=u*48271+7919*(0+(i:Int))+11) (b:=2147483647) (by decide);have E:=wC (a:=u*48271+7919*(0+(i:Int))+11) (b:=2147483647) (by decide);generalize (u*48271+7919*(0+(i:Int))+11) % 2147483647=v at f E;simp only[kE,kD];walk_at"dl";refine⟨.inl ⟨by lia,by lia⟩,by decide,.inr ⟨by decide,by decide⟩,.inr ⟨by decide,by decide⟩,by decide,?_⟩;exact z9.now<|g _ _ ⟨rfl,_,_,_,_,f,E,rfl⟩
theorem nO(T:Tops P w K mg base):t9 P w K mg base 1 "_law_digits" lT cH:=t9.byD (N:=["_law_cell","_law_rest","_law_number","_law_total","_law_k","_law_other"]) T.b T.f_digits (by walk_at"sc") tQ (by walk_at"dv") uC
def aq:x5:=λds M R=>∃(q:Nat) (m:Int),ds=[.ref q,.int m]/\HN M q/\0<m/\m<100000000000/\∀i n:Int,0<=i->i<m->R (.int i) (M.set q<|.lst [.int n])
theorem zt:cI aq vY:=by rintro ds M R ⟨q,m,rfl,_⟩;rfl
def qP:p5:=bp<|ab 2
def qQ:p5:=az (dAsg (p6 pI (p6 u5 (ab 0)<|dC<|.int 0)<|ab 1)<|Aj (ab 0)<|dC<|.int 0)<|qP
def Az:p5:=az (bb (p6 vM (p6 u5 (ab 0)<|dC<|.int 0)<|ab 1) 2)<|qQ
theorem Bg:A3 aq 3 Az:=by rintro ds M R ⟨q,m,rfl,⟨n,a⟩,F,V,h⟩;simp only[Az,qQ,qP];walk_at"dl";refine⟨_,.inl a,?_⟩;rw[LR];refine⟨F,_,.inl a,?_⟩;rw[LR];exact⟨⟨F,by lia⟩,_,0,a,rfl,.inl<|h _ _ (wB F)<|wC F⟩
theorem cO(T:Tops P w K mg base):t9 P w K mg base 1 "_law_take" vY aq:=t9.byD (N:=["_law_held","_law_many","_law_digit"]) T.b T.f_take (by walk_at"sc") zt (by walk_at"dv") Bg
def gP:x5:=λds M R=>∃(q:Nat),ds=[.ref q]/\HN M q/\∀(z:c7) (n:Int),z.length<=8->R (.str z) (M.set q<|.lst [.int n])
theorem zy:cI gP wd:=by rintro ds M R ⟨q,rfl,_⟩;rfl
def rA:p5:=bp<|ab 2
def rB:p5:=az (jU (cw<|aa (p6 ba (dC<|.int 1)<|s9 aq<|aa (ab 0)<|aa (dC<|.int 8) ag) ag) (ar 3)<|bb (p6 ba (ab 2)<|p6 u5 (ab 1)<|s9 aq<|aa (ab 0)<|aa (dC<|.int 26) ag) 2)<|rA
def rC:p5:=az (bb (dC<|.str "") 2)<|rB
def AE:p5:=az (bb (dC<|.str "abcdefghijklmnopqrstuvwxyz") 1)<|rC
theorem Bl:A3 gP 4 AE:=by
 rintro ds M R ⟨q,rfl,d,h⟩;have l:=d.lt;simp only[AE,rC,rB];walk_at"dl";refine⟨q,8,rfl,d,by decide,by decide,λi n v w=>?_⟩;have f:=d.start.set (n:=n) l;generalize M.set q (.lst [.int n])=B at f;walk_at"dl";refine⟨⟨by lia,by lia⟩,?_⟩;refine aU (λj S b=>Hl M b q/\∃(z:c7) (a:Option D),z.length=j/\S=[a7<|.ref q,a7<|.str<|AA1 "abcdefghijklmnopqrstuvwxyz",a7<|.str z,a]) ?_ ?_ ⟨f,AA1 "",_,by decide +kernel,rfl⟩;rintro S b ⟨g,z,a,e,rfl⟩;refine⟨trivial,?_⟩;simp only[rA];walk_at"dl";rw[fJ]at e;exact g.fin (.str _) λn=>h z n (by lia);rintro j y S b Q ⟨g,z,a,e,rfl⟩ G o;have L:=(eH.mp Q).1;refine⟨trivial,?_⟩;walk_at"dl";refine⟨q,26,rfl,g.hd l,by decide,by decide,λk n K t=>?_⟩;have g1:=g.set (n:=n) l;generalize b.set q (.lst [.int n])=u at g1;walk_at"dl";have r:(AA1 "abcdefghijklmnopqrstuvwxyz").cps.toList.length=26:=by decide +kernel
 have s:(AA1 "abcdefghijklmnopqrstuvwxyz").length=26:=by decide +kernel
 obtain⟨x,p,m,_⟩:=gs (xs:=(AA1 "abcdefghijklmnopqrstuvwxyz").cps.toList) K (by rw[r];exact t);refine⟨by rw[s];exact av (by lia),?_⟩;rw[m];have o1:∀c:Nat,(⟨#[c]⟩:c7).length=1:=λ_=>rfl;refine⟨by rw[o1];exact av (by lia),z9.now<|o _ _ ⟨g1,_,_,?_,rfl⟩⟩;rw[bG,o1,e]
theorem wt(T:Tops P w K mg base):t9 P w K mg base 2 "_law_name" wd gP:=t9.byD (N:=["_law_held","_law_letters","_law_name_here","_law_k"]) T.b T.f_name (by walk_at"sc") zy (by have:=cO T;walk_at"dv") Bl
def gy:x5:=λds M R=>∃(q:Nat) (m:Int),ds=[.ref q,.int m]/\HN M q/\1<=m/\m<=4/\∀(xs:List c7) (n:Int),xs.Nodup->1<=xs.length->xs.length<=4->(∀x∈xs,x.length<=8)->R (.ref M.length) (M.set q (.lst [.int n])++[.lst<|xs.map .str])
theorem wK:cI gy pL:=by rintro ds M R ⟨q,m,rfl,_⟩;rfl
def iM:p5:=bp<|s9 iX<|aa (ab 4) ag
def iN:p5:=A2 (ax<|p6 kL (ab 6)<|ab 4) (fu<|Ij bE (ab 4)<|aa (ab 6) ag) aY
def mQ:p5:=az (A2 (ax<|ab 2) (bb (Jr (Jr (p6 ba (Jr (ab 3) dY<|jT<|dC<|.int 7)<|ab 6) dY<|jT<|p6 ba (s9 jM<|aa (ab 3) ag)<|ab 5) dY<|jT<|dC<|.int 8) 6) aY)<|iN
def mR:p5:=az (jU (mv<|aa (dC<|.int 1)<|aa (ab 1) ag) (ar 5)<|az (bb (s9 gP<|aa (ab 0) ag) 6)<|mQ)<|iM
def mT:p5:=az (bb (iq<|aa (ab 3) ag) 4)<|mR
def mU:p5:=az (bb (s9 gP<|aa (ab 0) ag) 3)<|mT
def uG:p5:=az (bb (p6 C0 (s9 aq<|aa (ab 0)<|aa (dC<|.int 2) ag)<|dC<|.int 1) 2)<|mU
theorem yj:A3 gy 7 uG:=by
 rintro ds M R ⟨q,m,rfl,A,Z,m4,h⟩;have o:=A.lt;simp only[uG];walk_at"dl";refine⟨q,2,rfl,A,by decide,by decide,λi n _ _=>?_⟩;have t:=A.start.set (n:=n) o;generalize M.set q (.lst [.int n])=C at t;refine⟨⟨rfl,rfl⟩,?_⟩;generalize r9 C p7 (.int i) (.int 1)=s;simp only[mU];walk_at"dl";refine⟨q,rfl,t.hd o,λz n V=>?_⟩;have g1:=t.set (n:=n) o;generalize C.set q (.lst [.int n])=u at g1;simp only[mT];walk_at"dl";refine⟨av (by lia),?_⟩;have F:Hl M (u++[MO.lst [D.str z]]) q:=g1.more;have f:(u++[MO.lst [D.str z]])[u.length]?=a7 (.lst<|[z].map D.str):=ae;have pM:=g1.len;generalize u++[MO.lst [D.str z]]=E at F f;generalize u.length=p at f pM;simp only[mR];walk_at"dl";refine⟨⟨by decide,by decide,by lia,by lia⟩,?_⟩;refine aU (λj S d=>Hl M d q/\∃(xs:List c7) (a b:Option D),xs.Nodup/\1<=xs.length/\xs.length<=1+j/\(∀x∈xs,x.length<=8)/\d[p]?=a7 (.lst<|xs.map .str)/\S=[a7<|.ref q,a7<|.int m,a7<|.bl s,a7<|.str z,a7<|.ref p,a,b]) ?_ ?_ ⟨F,[z],_,_,by simp,by simp,by simp,by simpa using V,f,rfl⟩;rintro S d ⟨g,xs,a,b,X,J,I,r,f,rfl⟩;rw[fJ]at I;refine⟨trivial,?_⟩;simp only[iM];walk_at"dl";refine⟨_,.inl f,(yy<|by lia).g,λys Q _=>?_⟩;obtain⟨K,rfl,w⟩:=nM Q;have Y:=w.length_eq;exact(g.more (L:=[.lst<|K.map .str])).finL g.len ae (rQ _) λn=>h K n (w.nodup_iff.mpr X) (by lia) (by lia) λx k=>r x<|w.mem_iff.mp k;rintro j y S d Q ⟨g,xs,a,b,X,J,I,r,f,rfl⟩ G H;obtain⟨W,rfl⟩:=eH.mp Q;refine⟨trivial,?_⟩;walk_at"dl";refine⟨q,rfl,g.hd o,λy n B=>?_⟩;have g3:=g.set (n:=n) o;have c:(d.set q<|.lst [.int n])[p]?=a7 (.lst<|xs.map .str):=ap (by lia) f;generalize d.set q (.lst [.int n])=N at g3 c;have l:∀y:c7,y.length<=8->iN ⟨z9 E G,bt M R,λO d=>iM (EE M R) O d,z9 E G⟩ [a7<|.ref q,a7<|.int m,a7<|.bl s,a7<|.str z,a7<|.ref p,a7<|.int<|1+(j:Int),a7<|.str y] N:=λy B=>by simp only[iN];walk_at"dl";refine⟨_,.inl c,⟨aw,lF⟩,?_⟩;rw[mi];by_cases v:y∈xs;rw[dT_ v];exact bz<|z9.now<|H _ _ ⟨g3,xs,_,_,X,J,by lia,r,c,rfl⟩;rw[dF_ v];refine bP ⟨⟨_,.inl c⟩,_,c,aJ (by rw[t7];lia),?_⟩;refine z9.now<|H _ _ ⟨g3.setO pM,xs++[y],_,_,?_,?_,?_,λx k=>?_,?_,rfl⟩;exact Kt.mpr ⟨X,by simp,λa P b T e=>v<|by rw[show b=y by simpa using T]at e;exact e ▸ P⟩;rw[v4];lia;rw[v4,F9];lia;rcases B7.mp k with k|k;exact r x k;rw[show x=y by simpa using k];exact B;rw[C4];exact bn c
 simp only[mQ];walk_at"dl";cases s with
 |false=>exact bz<|l y B
 |true=>have s1:=Txt.slice_le z a8<|a7 7;have U:=Txt.slice_le (JL z a8 (a7 7)++y) a8<|a7<|(z.length:Int)+(1+(j:Int));rw[bG]at U;refine bP ⟨av (by lia),av (by lia),av (by lia),by rw[bG];exact av (by lia),av (by lia),?_⟩;exact l _<|yC _ 8
theorem yZ(T:Tops P w K mg base):t9 P w K mg base 3 "_law_names" pL gy:=t9.byD (N:=["_law_held","_law_many","_law_alike","_law_base","_law_names_here","_law_k","_law_name_here"]) T.b T.f_names (by walk_at"sc") wK (by have:=cO T;have:=wt T;walk_at"dv") yj
def iE:x5:=λds M R=>∃(c:Int),ds=[.int c]/\∀ps a,HouseF ps a->R (aF ps a) M
theorem wL:cI iE pN:=by rintro ds M R ⟨c,rfl,_⟩;rfl
structure Iv(M B:p8)(q p:Nat)(ns:List c7):Prop where
 pre:M <+: B
 qM:M.length<=q
 hd:HN B q
 ne:p≠q
 nm:B[p]?=a7 (.lst<|ns.map .str)
section
variable{M B:p8}{q p m:Nat}{ns:List c7}{n:Int}{x:MO}
theorem Iv.set(g:Iv M B q p ns):Iv M (B.set q<|.lst [.int n]) q p ns:=⟨bx g.pre g.qM,g.qM,⟨n,IA g.hd.lt⟩,g.ne,ap g.ne g.nm⟩
theorem Iv.more(g:Iv M B q p ns):Iv M (B++L) q p ns:=⟨g.pre.trans<|G5 _ _,g.qM,by obtain⟨n,h⟩:=g.hd;exact⟨n,bc (G5 _ _) h⟩,g.ne,bc (G5 _ _) g.nm⟩
theorem Iv.setO(g:Iv M B q p ns)(h1:M.length<=m)(h2:q≠m)(a:p≠m):Iv M (B.set m x) q p ns:=⟨bx g.pre h1,g.qM,by obtain⟨n,h⟩:=g.hd;exact⟨n,ap h2 h⟩,g.ne,ap a g.nm⟩
end
def mW:p5:=bp<|gh<|aa (ab 3)<|aa (s9 fL<|aa (ab 4) ag) ag
def mX:p5:=fu<|Ij bE (ab 4)<|aa (gh<|aa (ab 5)<|aa (s9 fL<|aa (ab 7) ag) ag) ag
def mY:p5:=az (kZ 1 [2,6] (cw<|aa (s9 jM<|aa (ab 2) ag) ag) (ar 0) (ax<|p6 C0 (p6 vM (p6 pI (ab 2)<|p6 DY (dC<|.int 1)<|ab 0)<|dC<|.int 2)<|dC<|.int 1) (p6 u5 (ab 1)<|ab 0) 7)<|mX
def iO:p5:=az (jU (cE<|s9 gy<|aa (ab 1)<|aa (p6 ba (dC<|.int 1)<|s9 aq<|aa (ab 1)<|aa (dC<|.int 4) ag) ag) (ar 5)<|az (bb (p6 ba (dC<|.int 1)<|s9 aq<|aa (ab 1)<|aa (p6 DV (p6 DY (dC<|.int 1)<|s9 jM<|aa (ab 2) ag)<|dC<|.int 1) ag) 6)<|mY)<|mW
def mZ:p5:=az (bb (iq ag) 4)<|iO
def ng:p5:=az (bb (s9 fL<|aa (H9 1 [1] (cE<|ab 2) (ar 0) ux<|gh<|aa (ab 0)<|aa (p6 ba (dC<|.int 1)<|s9 aq<|aa (ab 1)<|aa (dC<|.int 3) ag) ag) ag) 3)<|mZ
def nh:p5:=az (bb (s9 gy<|aa (ab 1)<|aa (p6 ba (dC<|.int 1)<|s9 aq<|aa (ab 1)<|aa (dC<|.int 4) ag) ag) 2)<|ng
def uW:p5:=az (bb (s9 cH<|aa (ab 0) ag) 1)<|nh
theorem Db(g:Iv M B q p ns)(n1:1<=ns.length)(n4:ns.length<=4)(rM:M.length<=r)(O:r≠q)(rp:r≠p)(E:B[r]?=a7 (.lst []))(h:∀rs:List (c7×List c7),1<=rs.length/\rs.length<=4->(rs.map (·.1)).Nodup->(∀r∈rs,r.2.length<=4)->R (aF ps rs) M):iO (EE M R) [y0,a7<|.ref q,a7<|.ref p,a7<|.tup<|ps.map fS,a7<|.ref r,y5,y6,y7] B:=by
 simp only[iO];walk_at"dl";refine⟨q,4,rfl,g.hd,by decide,by decide,λi n i0 i1=>?_⟩;have A:=g.set (n:=n);have t:(B.set q<|.lst [.int n])[r]?=a7 (.lst []):=ap O E;generalize B.set q (.lst [.int n])=f at A t;refine⟨q,1+i,rfl,A.hd,by lia,by lia,λl n wn w1 w4 w8=>?_⟩;have g1:=A.set (n:=n);have T:(f.set q<|.lst [.int n])[r]?=a7 (.lst []):=ap O t;have bl:(f.set q<|.lst [.int n]).length=f.length:=G9 ..;have g2:=g1.more (L:=[.lst<|l.map .str]);have C:=ad (a:=.lst<|l.map .str) T;have m:(f.set q (.lst [.int n])++[.lst<|l.map .str])[f.length]?=a7 (.lst<|l.map .str):=by rw[<-bl];exact ae
 have wM:M.length<=f.length:=A.pre.length_le;have wq:f.length≠q:=by have:=A.hd.lt;lia
 have wp:f.length≠p:=by have:=aC A.nm;lia
 have wr:f.length≠r:=by have:=aC t;lia
 generalize f.set q (.lst [.int n])++[.lst<|l.map .str]=B2 at g2 C m;generalize f.length=w at m wM wq wp wr;refine⟨_,.inl m,λ_=>?_⟩;refine aU (λj S o=>∃(rs:List (c7×List c7)) (a b c:Option D),Iv M o q p ns/\o[r]?=a7 (.lst<|rs.map ij)/\o[w]?=a7 (.lst<|l.map .str)/\rs.map (·.1)=l.take j/\rs.length=j/\(∀x∈rs,x.2.length<=4)/\S=[y0,a7<|.ref q,a7<|.ref p,a7<|.tup<|ps.map fS,a7<|.ref r,a,b,c]) ?_ ?_ ⟨[],_,_,_,g2,C,m,rfl,rfl,(λ_ z=>nomatch z),rfl⟩;rintro S o ⟨rs,a,b,c,g,E,m,I,X,Z,rfl⟩;rw[t7]at I X;rw[Jm]at I;refine⟨.inl m,?_⟩;simp only[mW];walk_at"dl";refine⟨_,.inl E,av (by lia),?_⟩;refine bt.keep (h rs ⟨by lia,by lia⟩ (by rw[I];exact wn) Z) ?_ g.pre;refine .tup<|.cons (.tup<|Bels.of λd V=>?_)<|.cons (.tup<|Bels.of λd V=>?_) .nil;obtain⟨x,_,rfl⟩:=y4.mp V;exact .tup<|.cons (.str _)<|.cons (.int _) .nil;obtain⟨x,_,rfl⟩:=y4.mp V;exact .tup<|.cons (.str _)<|.cons (.tup<|rQ _) .nil;rintro j y S o hy ⟨rs,a,b,c,g,E,m,I,X,Z,rfl⟩ G hG;rw[C2]at hy;obtain⟨s,hs,rfl⟩:=J1.mp hy;have W:=(w9.mp hs).1;have et:l.take (j+1)=l.take j++[s]:=by rw[JV,hs];rfl
 refine⟨.inl m,?_⟩;walk_at"dl";have pw:0<(1:Int)*2 ^ ns.length-1/\(1:Int)*2 ^ ns.length-1<100:=by
  have:ns.length=1\/ns.length=2\/ns.length=3\/ns.length=4:=by lia
  rcases this with e|e|e|e<;>rw[e]<;>decide
 refine⟨_,.inl g.nm,⟨by lia,by rw[t7];lia,by decide⟩,?_⟩;rw[t7,Jd];refine⟨q,_,rfl,g.hd,pw.1,by lia,λi n i0 i1=>?_⟩;have g3:=g.set (n:=n);have F:(o.set q<|.lst [.int n])[r]?=a7 (.lst<|rs.map ij):=ap O E;have H:(o.set q<|.lst [.int n])[w]?=a7 (.lst<|l.map .str):=ap wq m;generalize o.set q (.lst [.int n])=B3 at g3 F H;simp only[mY];walk_at"dl";refine⟨_,.inl g3.nm,⟨by lia,by rw[t7];lia⟩,?_⟩;rw[t7,Jd];refine iD (λys acc S P=>∃(xs:List c7) (Q:Option D),acc=xs.map D.str/\xs.length+ys.length<=4/\(∀y∈ys,∃j:Nat,y=.int (0+(j:Int))/\j<ns.length)/\P=B3/\S=[Q,a7<|.ref p,a7<|.int<|1+i]) ?_ ?_ _ _ _ _ ⟨[],_,rfl,by rw[G4,fJ];lia,λy' k=>?_,rfl,rfl⟩;rintro acc S P ⟨xs,Q,rfl,N,_,rfl,rfl⟩;rw[G4,Nat.add_zero]at N;refine⟨trivial,?_⟩;simp only[mX];walk_at"dl";have g4:=g3.more (L:=[.lst<|xs.map .str]);have u:=ad (a:=.lst<|xs.map .str) F;have U:=ad (a:=.lst<|xs.map .str) H;refine⟨⟨_,.inl u⟩,_,bi,av (by lia),_,u,aJ (by rw[t7];lia),?_⟩;refine z9.now<|hG _ _ ⟨rs++[(s,xs)],_,_,_,g4.setO rM (v5 O)<|v5 rp,?_,ap wr U,?_,?_,λx J=>?_,rfl⟩;rw[C4];exact bn u;rw[C4,I,et];rfl;rw[v4,X];rfl;rcases B7.mp J with J|J;exact Z x J;rw[show x=(s,xs) by simpa using J];exact N;rintro y' ys acc S P ⟨xs,Q,rfl,xl,k,rfl,rfl⟩ K hK;obtain⟨j,rfl,W⟩:=k y' (by simp);rw[A0]at xl;refine⟨trivial,?_⟩;walk_at"dl";have e3:atI (ns.map D.str) (0+(j:Int))=a7 (.str<|ns[j]'(by lia)):=by rw[Int.zero_add];exact aA<|by rw[C2,u9<|by lia];rfl
 have pw:DR (1+i) (1*2 ^ (0+(j:Int)).toNat):=by
  rw[Int.zero_add,Jd];have:j=0\/j=1\/j=2\/j=3:=by lia
  rcases this with rfl|rfl|rfl|rfl<;>exact⟨by decide,by decide⟩
 refine⟨⟨by lia,by lia,by decide⟩,pw,by decide,⟨lW,lW⟩,?_⟩;split;refine⟨_,.inl g3.nm,?_⟩;rw[e3];exact⟨by rw[t7];exact aJ (by lia),hK _ _ _ ⟨xs++[_],_,by simp;rfl,by rw[v4,F9];lia,λz v=>k z<|w6 _ v,rfl,rfl⟩⟩;exact hK _ _ _ ⟨xs,_,rfl,by lia,λz v=>k z<|w6 _ v,rfl,rfl⟩;obtain⟨j,W⟩:=JC k;obtain⟨Y,rfl⟩:=eH.mp W;exact⟨j,rfl,Y⟩
theorem yk:A3 iE 8 uW:=by
 rintro ds M R ⟨c,rfl,h⟩;simp only[uW];walk_at"dl";refine⟨c,rfl,λn=>?_⟩;simp only[nh];walk_at"dl";refine⟨M.length,4,rfl,⟨n,ae⟩,by decide,by decide,λi f O P=>?_⟩;rw[iU];refine⟨M.length,1+i,rfl,⟨f,ae⟩,by lia,by lia,λns f X A C E=>?_⟩;rw[iU];have r:(M++[MO.lst [D.int f]]).length=M.length+1:=by simp
 have g:Iv M (M++[MO.lst [D.int f]]++[MO.lst<|ns.map .str]) M.length (M.length+1) ns:=⟨gH.trans gH,t6 _,⟨f,ad ae⟩,by lia,by rw[<-r];exact ae⟩
 have s:∀n:Int,(M++[MO.lst [D.int n]]).length=M.length+1:=λn=>by simp
 rw[s];generalize M++[MO.lst [D.int f]]++[MO.lst<|ns.map .str]=B at g;generalize N:M.length=q at g;generalize q+1=p at g;simp only[ng];walk_at"dl";refine⟨_,.inl g.nm,λ_=>?_⟩;refine iD (λys acc S d=>∃(ps:List (c7×Int)) (a:Option D) (i:Nat),Iv M d q p ns/\acc=ps.map fS/\ps.length=i/\ps.map (·.1)=ns.take i/\(∀x∈ps,(1<=x.2/\x.2<=3)/\x.1.length<=8)/\ys=(ns.map D.str).drop i/\i<=ns.length/\S=[a,a7<|.ref q]) ?_ ?_ _ _ _ _ ⟨[],_,0,g,rfl,rfl,rfl,(λ_ z=>nomatch z),by simp,v9 _,rfl⟩;rintro acc S d ⟨ps,a,i,g,rfl,o,m,j,e,w,rfl⟩;have hi:i=ns.length:=by have:=o6 Hy e;rw[G4,Jy,t7]at this;lia
 refine⟨.inl g.nm,_,bi,?_⟩;simp only[mZ];walk_at"dl";refine⟨v9 _,?_⟩;have u:=(g.more (L:=[.lst<|ps.map fS])).more (L:=[.lst []]);have U:=g.pre.length_le;have V:=g.hd.lt;have F:=aC g.nm;have l:(d++[MO.lst<|ps.map fS]).length=d.length+1:=by simp
 refine Db u A C (by rw[l];lia) (by rw[l];lia) (by rw[l];lia) ae λJ G I H=>h ps J ⟨⟨by lia,by lia⟩,λx b=>(j x b).1,λx b=>(j x b).2,G,by rw[m];exact X.sublist<|List.take_sublist _ _,I,H⟩;rintro y ys acc S d ⟨ps,a,i,g,rfl,o,m,j,e,w,rfl⟩ K v;have hi:i<ns.length:=by have:=o6 Hy e;rw[A0,Jy,t7]at this;lia
 have t:i<(ns.map D.str).length:=by rw[t7];exact hi
 rw[MC t]at e;injection e with h1 h2;rw[Ks]at h1;subst h1;refine⟨.inl g.nm,?_⟩;walk_at"dl";refine⟨q,3,rfl,g.hd,by decide,by decide,λk f Q T=>?_⟩;refine⟨av (by lia),by rw[t7];exact aJ (by lia),v _ _ _ ⟨ps++[(ns[i],1+k)],_,i+1,g.set,by rw[C4];rfl,by rw[v4,o];rfl,?_,λx b=>?_,h2,by lia,rfl⟩⟩;rw[C4,m,JV,u9 hi];rfl;rcases B7.mp b with b|b;exact j x b;rw[show x=(ns[i],1+k) by simpa using b];exact⟨⟨by show 1<=1+k;lia,by show 1+k<=3;lia⟩,E _<|IR hi⟩
theorem za(T:Tops P w K mg base):t9 P w K mg base 4 "_law_house" pN iE:=t9.byD (N:=["_law_cell","_law_held","_law_names_here","_law_people","_law_rooms","_law_room","_law_bits","_law_members"]) T.b T.f_house (by walk_at"sc") wL (by have:=nO T;have:=cO T;have:=yZ T;walk_at"dv") yk
def eE:x5:=λds M R=>∃(q p:Nat) (xs:List c7),ds=[.ref q,.ref p]/\HN M q/\p≠q/\ak M p (xs.map .str)/\1<=xs.length/\xs.length<=1000/\(∀x∈xs,x.length<=8)/\∀(x:c7) (n:Int),R (.str x)<|M.set q<|.lst [.int n]
theorem tP:cI eE lR:=by rintro ds M R ⟨q,p,xs,rfl,_⟩;rfl
def kr:p5:=bp<|Jr (ab 3) dY<|jT<|dC<|.int 60
def kt:p5:=bb (p6 ba (ab 3)<|p6 u5 (ab 6)<|s9 aq<|aa (ab 0)<|aa (dC<|.int 7) ag) 3
def kw:p5:=az (bb (iq<|aa (p6 ba (dC<|.str "@")<|ab 5)<|aa (p6 ba (p6 ba (dC<|.str "@")<|ab 5)<|dC<|.str " ")<|aa (p6 ba (p6 ba (dC<|.str "@")<|ab 5)<|dC<|.str "x")<|aa (ab 5)<|aa (dC<|.str "hi ")<|aa (dC<|.str "@")<|aa (p6 ba (dC<|.str "@")<|ab 5) ag) 6)<|kt
def kx:p5:=az (jU (cw<|aa (p6 ba (dC<|.int 1)<|s9 aq<|aa (ab 0)<|aa (dC<|.int 4) ag) ag) (ar 4)<|az (bb (p6 u5 (ab 1)<|s9 aq<|aa (ab 0)<|aa (s9 jM<|aa (ab 1) ag) ag) 5)<|kw)<|kr
def kz:p5:=bp<|ab 3
def kA:p5:=az (A2 (ax<|p6 C0 (s9 aq<|aa (ab 0)<|aa (dC<|.int 3) ag)<|dC<|.int 0) (az (jU (cw<|aa (p6 ba (dC<|.int 1)<|s9 aq<|aa (ab 0)<|aa (dC<|.int 60) ag) ag) (ar 4)<|bb (p6 ba (ab 3)<|p6 u5 (ab 2)<|s9 aq<|aa (ab 0)<|aa (dC<|.int 94) ag) 3)<|kz) aY)<|kx
def kB:p5:=az (bb (dC<|.str "") 3)<|kA
def qS:p5:=az (bb (dC<|.str " !\"#$&'()*+,-./0123456789:;<=>?@ABCDEFGHIJKLMNOPQRSTUVWXYZ[\\]^_`abcdefghijklmnopqrstuvwxyz{|}~") 2)<|kB
theorem uB:A3 eE 7 qS:=by
 rintro ds M R ⟨q,p,xs,rfl,E,N,F,x1,xl,x8,h⟩;have l:=E.lt;have H:(AA1 " !\"#$&'()*+,-./0123456789:;<=>?@ABCDEFGHIJKLMNOPQRSTUVWXYZ[\\]^_`abcdefghijklmnopqrstuvwxyz{|}~").cps.toList.length=94:=by decide +kernel
 have I:(AA1 " !\"#$&'()*+,-./0123456789:;<=>?@ABCDEFGHIJKLMNOPQRSTUVWXYZ[\\]^_`abcdefghijklmnopqrstuvwxyz{|}~").length=94:=by decide +kernel
 simp only[qS,kB,kA];generalize AA1 " !\"#$&'()*+,-./0123456789:;<=>?@ABCDEFGHIJKLMNOPQRSTUVWXYZ[\\]^_`abcdefghijklmnopqrstuvwxyz{|}~" = sg at H I;walk_at"dl";refine⟨q,3,rfl,E,by decide,by decide,λi n _ _=>?_⟩;have o:=E.start.set (n:=n) l;generalize M.set q (.lst [.int n])=B at o;refine⟨⟨rfl,rfl⟩,?_⟩;generalize r9 B p7 (.int i) (.int 0)=b;have o1:∀c:Nat,(⟨#[c]⟩:c7).length=1:=λ_=>rfl;cases b with
 |true=>refine bP ⟨q,60,rfl,o.hd l,by decide,by decide,λi n X Y=>?_⟩;have g1:=o.set (n:=n) l;generalize B.set q (.lst [.int n])=P at g1;walk_at"dl";refine⟨⟨by lia,by lia⟩,?_⟩;refine aU (λj S f=>Hl M f q/\∃(z:c7) (a:Option D),z.length=j/\S=[a7<|.ref q,a7<|.ref p,a7<|.str sg,a7<|.str z,a,a8,a8]) ?_ ?_ ⟨g1,AA1 "",_,by decide +kernel,rfl⟩;rintro S f ⟨g,z,a,t,rfl⟩;refine⟨trivial,?_⟩;simp only[kz];walk_at"dl";exact g.fin (.str _) λn=>h z n;rintro j y S f Q ⟨g,z,a,t,rfl⟩ G A;have W:=(eH.mp Q).1;refine⟨trivial,?_⟩;walk_at"dl";refine⟨q,94,rfl,g.hd l,by decide,by decide,λk n K v=>?_⟩;have m:=g.set (n:=n) l;generalize f.set q (.lst [.int n])=x at m;obtain⟨J,d,u,_⟩:=gs (xs:=sg.cps.toList) K (by rw[H];exact v);refine⟨by rw[I];exact av (by lia),?_⟩;rw[u];refine⟨by rw[o1];exact av (by lia),z9.now<|A _ _ ⟨m,_,_,?_,rfl⟩⟩;rw[bG,o1,t]
 |false =>
  refine bz ?_;simp only[kx];walk_at"dl";refine⟨q,4,rfl,o.hd l,by decide,by decide,λi n X Y=>?_⟩;have g1:=o.set (n:=n) l;generalize B.set q (.lst [.int n])=P at g1;walk_at"dl";refine⟨⟨by lia,by lia⟩,?_⟩;refine aU (λj S f=>Hl M f q/\∃(z:c7) (a b c:Option D),z.length<=20*j/\S=[a7<|.ref q,a7<|.ref p,a7<|.str sg,a7<|.str z,a,b,c]) ?_ ?_ ⟨g1,AA1 "",_,_,_,by decide +kernel,rfl⟩;rintro S f ⟨g,z,a,b,c,t,rfl⟩;rw[fJ]at t;refine⟨trivial,?_⟩;simp only[kr];walk_at"dl";exact⟨av (by lia),g.fin (.str _) λn=>h _ n⟩;rintro j y S f Q ⟨g,z,a,b,c,t,rfl⟩ G A;have W:=(eH.mp Q).1;have C:=g.oldL N F;refine⟨trivial,?_⟩;walk_at"dl";refine⟨_,C,q,_,rfl,g.hd l,by rw[t7];lia,by rw[t7];lia,λk n K v=>?_⟩;have m:=g.set (n:=n) l;have r:=m.oldL N F;generalize f.set q (.lst [.int n])=x at m r;obtain⟨J,d,u,_⟩:=gs (xs:=xs.map D.str) K v;rw[Ks]at u;have w8:=x8 _ (IR<|by rw[t7]at d;exact d);refine⟨_,r,?_⟩;rw[u];generalize xs[J]'(by rw[t7]at d;exact d)=w at w8;have e:(AA1 "@").length=1:=by decide +kernel
  have U:(AA1 " ").length=1:=by decide +kernel
  have O:(AA1 "x").length=1:=by decide +kernel
  have Z:(AA1 "hi ").length=3:=by decide +kernel
  simp only[kw];walk_at"dl";refine⟨by rw[e];exact av (by lia),by rw[e];exact av (by lia),by rw[bG,e,U];exact av (by lia),by rw[e];exact av (by lia),by rw[bG,e,O];exact av (by lia),by rw[e];exact av (by lia),av (by lia),?_⟩;simp only[kt];walk_at"dl";refine⟨q,7,rfl,(m.more).hd l,by decide,by decide,λk n K v=>?_⟩;have g3:=(m.more (L:=[.lst [.str<|AA1 "@" ++ w,.str<|AA1 "@" ++ w++AA1 " ",.str<|AA1 "@" ++ w++AA1 "x",.str w,.str<|AA1 "hi ",.str<|AA1 "@",.str<|AA1 "@" ++ w]])).set (n:=n) l;have V:((x++[MO.lst [.str<|AA1 "@" ++ w,.str<|AA1 "@" ++ w++AA1 " ",.str<|AA1 "@" ++ w++AA1 "x",.str w,.str<|AA1 "hi ",.str<|AA1 "@",.str<|AA1 "@" ++ w]]).set q<|.lst [.int n])[x.length]?=a7 (.lst [.str<|AA1 "@" ++ w,.str<|AA1 "@" ++ w++AA1 " ",.str<|AA1 "@" ++ w++AA1 "x",.str w,.str<|AA1 "hi ",.str<|AA1 "@",.str<|AA1 "@" ++ w]):=ap (by have:=m.len;lia) ae;have T:∃s:c7,atI [D.str<|AA1 "@" ++ w,.str<|AA1 "@" ++ w++AA1 " ",.str<|AA1 "@" ++ w++AA1 "x",.str w,.str<|AA1 "hi ",.str<|AA1 "@",.str<|AA1 "@" ++ w] k=a7 (.str s)/\s.length<=20:=by
   have:k=0\/k=1\/k=2\/k=3\/k=4\/k=5\/k=6:=by lia
   rcases this with rfl|rfl|rfl|rfl|rfl|rfl|rfl;exact⟨_,aA (j:=0) rfl,by rw[bG,e];lia⟩;exact⟨_,aA (j:=1) rfl,by rw[bG,bG,e,U];lia⟩;exact⟨_,aA (j:=2) rfl,by rw[bG,bG,e,O];lia⟩;exact⟨_,aA (j:=3) rfl,by lia⟩;exact⟨_,aA (j:=4) rfl,by rw[Z];lia⟩;exact⟨_,aA (j:=5) rfl,by rw[e];lia⟩;exact⟨_,aA (j:=6) rfl,by rw[bG,e];lia⟩
  obtain⟨s,es,sl⟩:=T;refine⟨_,.inl V,?_⟩;rw[es];refine⟨av (by lia),z9.now<|A _ _ ⟨g3,_,_,_,_,?_,rfl⟩⟩;rw[bG];lia
theorem wk(T:Tops P w K mg base):t9 P w K mg base 2 "_law_saying" lR eE:=t9.byD (N:=["_law_held","_law_names_here","_law_signs","_law_saying_here","_law_k","_law_name_here","_law_pieces"]) T.b T.f_saying (by walk_at"sc") tP (by have:=cO T;walk_at"dv") uB
def ca:x5:=λds M R=>∃(q p s:Nat) (hs a:List D),ds=[.ref q,.ref p,.ref s]/\HN M q/\p≠q/\s≠q/\ak M p hs/\(∀x∈hs,Hd x)/\1<=hs.length/\hs.length<=12/\ak M s a/\(∀x∈a,St x)/\a.length<=1000/\∀(d:D) (n:Int),St d->R d (M.set q<|.lst [.int n])
theorem zw:cI ca wb:=by rintro ds M R ⟨q,p,s,hs,a,rfl,_⟩;rfl
theorem St.bel(h:St d):A4 k d:=dN 2 d h.pl
def qX:p5:=bp<|p6 u5 (ab 2)<|s9 aq<|aa (ab 0)<|aa (s9 jM<|aa (ab 2) ag) ag
def qY:p5:=az (A2 (ax<|p6 C0 (ab 3)<|dC<|.int 1) (bp<|gh<|aa (p6 ba (dC<|.int 1)<|s9 aq<|aa (ab 0)<|aa (p6 BC (dC<|.int 10)<|dC<|.int 9) ag)<|aa (p6 u5 (ab 1)<|s9 aq<|aa (ab 0)<|aa (s9 jM<|aa (ab 1) ag) ag) ag) aY)<|qX
def qZ:p5:=az (A2 (Jh (ax<|p6 C0 (ab 3)<|dC<|.int 0)<|ax<|p6 C0 (ab 2)<|iq ag) (bp<|gh<|aa (p6 ba (dC<|.int 1)<|s9 aq<|aa (ab 0)<|aa (dC<|.int 70) ag)<|aa (p6 u5 (ab 1)<|s9 aq<|aa (ab 0)<|aa (s9 jM<|aa (ab 1) ag) ag) ag) aY)<|qY
def AC:p5:=az (bb (s9 aq<|aa (ab 0)<|aa (dC<|.int 8) ag) 3)<|qZ
theorem lO(l:q<M.length)(N:p≠q)(b:ak M p hs)(o:∀x∈hs,Hd x)(h1:1<=hs.length)(f:hs.length<=12)(h:∀(d:D) (n:Int),St d->R d (M.set q<|.lst [.int n]))(g:Hl M B q)(E:∀S B Q,Q (.int m) B->tm S B Q)(F:0<m)(V:m<100000000000):(bp<|gh<|aa (p6 ba (dC<|.int 1)<|s9 aq<|aa (ab 0)<|aa tm ag)<|aa (p6 u5 (ab 1)<|s9 aq<|aa (ab 0)<|aa (s9 jM<|aa (ab 1) ag) ag) ag) (EE M R) [a7<|.ref q,a7<|.ref p,y2,y3] B:=by
 walk_at"dl";refine E _ _ _ ?_;refine⟨q,m,rfl,g.hd l,F,V,λi n s t=>?_⟩;have g1:=g.set (n:=n) l;generalize B.set q (.lst [.int n])=u at g1;refine⟨hs,g1.oldL N b,q,_,rfl,g1.hd l,by lia,by lia,λk n K r=>?_⟩;have a:=g1.set (n:=n) l;generalize u.set q (.lst [.int n])=v at a;obtain⟨j,L,e,_⟩:=gs (xs:=hs) K r;obtain⟨z,C,c⟩:=o _<|IR L;refine⟨hs,a.oldL N b,?_⟩;rw[e];have:St (.tup [.int<|1+i,hs[j]]):=⟨1+i,z,C,by rw[c]⟩
 exact⟨av (by lia),a.fin this.bel λn=>h _ n this⟩
theorem Bj:A3 ca 4 AC:=by
 rintro ds M R ⟨q,p,s,hs,a,rfl,v,N,sq,r,e,h1,f,u,c,P,h⟩;have l:=v.lt;have o:∀{B:p8},∀x∈a,t4 B 29 x=a9:=λ{B} x b=>by obtain⟨t,z,k,rfl⟩:=c x b;rfl
 simp only[AC];walk_at"dl";refine⟨q,8,rfl,v,by decide,by decide,λi n _ _=>?_⟩;have g:=v.start.set (n:=n) l;generalize M.set q (.lst [.int n])=y at g;simp only[qZ];walk_at"dl";refine⟨⟨rfl,rfl⟩,?_⟩;generalize r9 y p7 (.int i) (.int 0)=C;cases C with
 |true=>exact bP<|lO (m:=70) (tm:=dC<|.int 70) (y2:=a7<|.ref s) (y3:=a7<|.int i) l N r e h1 f h g (λ_ _ _ q=>q) (by decide)<|by decide
 |false =>
  refine bz ?_;obtain⟨w,E⟩:=lX (g.oldL sq u) o;refine⟨v9 _,w,?_⟩;rw[E];have g1:=g.more (L:=[.lst []]);generalize y++[MO.lst []]=A at g1;cases G:a.isEmpty with
  |true=>exact bP<|lO (m:=70) (tm:=dC<|.int 70) (y2:=a7<|.ref s) (y3:=a7<|.int i) l N r e h1 f h g1 (λ_ _ _ q=>q) (by decide)<|by decide
  |false =>
   refine bz ?_;simp only[qY];walk_at"dl";refine⟨⟨rfl,rfl⟩,?_⟩;generalize r9 A p7 (.int i) (.int 1)=D;cases D with
   |true=>exact bP<|lO (m:=10 ^ Int.toNat 9) (tm:=p6 BC (dC<|.int 10)<|dC<|.int 9) (y2:=a7<|.ref s) (y3:=a7<|.int i) l N r e h1 f h g1 (λ_ _ _ q=>⟨⟨by decide,by decide,by decide⟩,q⟩) (by decide)<|by decide
   |false =>
    refine bz ?_;simp only[qX];walk_at"dl";have O:1<=a.length:=by
     cases a with
     |nil=>cases G
     |cons x xs=>simp
    refine⟨a,g1.oldL sq u,q,_,rfl,g1.hd l,by lia,by lia,λk n K I=>?_⟩;have d:=g1.set (n:=n) l;generalize A.set q (.lst [.int n])=J at d;obtain⟨j,H,F,_⟩:=gs (xs:=a) K I;refine⟨a,d.oldL sq u,?_⟩;rw[F];have b:=c _<|IR H;exact d.fin b.bel λn=>h _ n b
theorem wm(T:Tops P w K mg base):t9 P w K mg base 2 "_law_pick" wb ca:=t9.byD (N:=["_law_held","_law_hands_here","_law_says","_law_way"]) T.b T.f_pick (by walk_at"sc") zw (by have:=cO T;walk_at"dv") Bj
def gu:x5:=λds M R=>∃(q p t:Nat) (hs:List D) (s:List (D×D)),ds=[.ref q,.ref p,.ref t]/\HN M q/\p≠q/\t≠q/\ak M p hs/\(∀x∈hs,Hd x)/\hs.length<=12/\M[t]?=a7 (.dkt s)/\(∀x∈s,∃v:Int,x.2=.int v/\0<=v/\v<=1000)/\∀(vs:List D) (n:Int),mF 3 vs->R (.tup vs) (M.set q<|.lst [.int n])
theorem tN:cI gu lP:=by rintro ds M R ⟨q,p,t,hs,s,rfl,_⟩;rfl
theorem mF.snoc(h:mF n ds)(t:F4 n d):mF n (ds++[d]):=by unfold mF at h ⊢;rw[List.all_append,h];simpa [F4]using t
def jZ:p5:=bp<|s9 fL<|aa (ab 3) ag
def ka:p5:=A2 (ax<|p6 Jp (ab 5)<|dC<|.int 0) (fu<|Ij bE (ab 3)<|aa (gh<|aa (ab 4)<|aa (ab 5) ag) ag) aY
def kb:p5:=az (jU (cE<|ab 1) (ar 4)<|az (bb (s9 aq<|aa (ab 0)<|aa (p6 ba (J5 hW (ab 2)<|aa (ab 4)<|aa (dC<|.int 0) ag)<|dC<|.int 3) ag) 5)<|ka)<|jZ
def qO:p5:=az (bb (iq ag) 3)<|kb
theorem uz:A3 gu 6 qO:=by
 rintro ds M R ⟨q,p,t,hs,s,rfl,u,N,I,m,E,A,F,H,h⟩;have w:=u.lt;simp only[qO,kb];walk_at"dl";refine⟨v9 _,_,m.more _,λ_=>?_⟩;have x:Hl M (M++[MO.lst []]) q:=u.start.more;refine aU (λi S j=>∃(vs:List D) (a b:Option D),Hl M j q/\j[M.length]?=a7 (.lst vs)/\mF 3 vs/\vs.length<=i/\S=[a7<|.ref q,a7<|.ref p,a7<|.ref t,a7<|.ref M.length,a,b]) ?_ ?_ ⟨[],_,_,x,ae,.nil,t6 _,rfl⟩;rintro S j ⟨vs,a,b,g,l,pv,J,rfl⟩;refine⟨g.oldL N m,?_⟩;simp only[jZ];walk_at"dl";exact⟨_,.inl l,g.fin (dN 4 _<|.tup pv) λn=>h vs n pv⟩;rintro i y S j Q ⟨vs,a,b,g,l,pv,J,rfl⟩ G o;have hi:=(w9.mp Q).1;obtain⟨z,k,rfl⟩:=E y<|Hu Q;refine⟨g.oldL N m,?_⟩;walk_at"dl";have T:=g.old I F;refine⟨⟨_,T⟩,_,T,rfl,?_⟩;have C:∃v:Int,(aR s<|.tup [.str z,.int k]).getD (.int 0)=.int v/\0<=v/\v<=1000:=by
  cases e:aR s (.tup [.str z,.int k]) with
  |none=>exact⟨0,rfl,by decide,by decide⟩
  |some d=>exact H _<|bX e
 obtain⟨v,B,Z,P⟩:=C;rw[B];refine⟨q,v+3,rfl,g.hd w,by lia,by lia,λc n L O=>?_⟩;have g1:=g.set (n:=n) w;have f:(j.set q<|.lst [.int n])[M.length]?=a7 (.lst vs):=ap (by lia) l;generalize j.set q (.lst [.int n])=K at g1 f;simp only[ka];walk_at"dl";by_cases r:c > 0;rw[dT_ r];refine bP ⟨⟨_,.inl f⟩,av (by lia),_,f,aJ (by lia),?_⟩;exact z9.now<|o _ _ ⟨_,_,_,g1.setO<|t6 _,bn f,pv.snoc<|.tup<|.cons (De ⟨_,_,rfl⟩)<|.cons (.int _) .nil,by rw[v4,F9];lia,rfl⟩;rw[dF_ r];exact bz<|z9.now<|o _ _ ⟨vs,_,_,g1,f,pv,by lia,rfl⟩
theorem wg(T:Tops P w K mg base):t9 P w K mg base 2 "_law_vector" lP gu:=t9.byD (N:=["_law_held","_law_hands_here","_law_done","_law_found","_law_hand","_law_count"]) T.b T.f_vector (by walk_at"sc") tN (by have:=cO T;walk_at"dv") uz
def mB:x5:=λds M R=>∃(q p s:Nat) (ps:List (c7×Int)) (r:List (c7×List c7)) (hs a:List D),ds=[.ref q,aF ps r,.ref p,.ref s]/\HN M q/\HouseF ps r/\p≠q/\s≠q/\ak M p hs/\(∀x∈hs,Hd x)/\1<=hs.length/\hs.length<=12/\ak M s a/\(∀x∈a,St x)/\a.length<=1000/\∀(d:D) (n:Int),F4 4 d->R d (M.set q<|.lst [.int n])
theorem zr:cI mB vX:=by rintro ds M R ⟨q,p,s,ps,r,hs,a,rfl,_⟩;rfl
def qK:p5:=bp<|gh<|aa (dC<|.str "under")<|aa (s9 ca<|aa (ab 0)<|aa (ab 2)<|aa (ab 3) ag) ag
def qL:p5:=az (A2 (ax<|p6 C0 (ab 4)<|dC<|.int 1) (bp<|gh<|aa (dC<|.str "person")<|aa (p6 u5 (p6 u5 (p6 u5 (ab 1)<|dC<|.int 0)<|s9 aq<|aa (ab 0)<|aa (s9 jM<|aa (p6 u5 (ab 1)<|dC<|.int 0) ag) ag)<|dC<|.int 0) ag) aY)<|qK
def qN:p5:=az (A2 (ax<|p6 C0 (ab 4)<|dC<|.int 0) (bp<|gh<|aa (dC<|.str "room")<|aa (p6 u5 (p6 u5 (p6 u5 (ab 1)<|dC<|.int 1)<|s9 aq<|aa (ab 0)<|aa (s9 jM<|aa (p6 u5 (ab 1)<|dC<|.int 1) ag) ag)<|dC<|.int 0) ag) aY)<|qL
def Ay:p5:=az (bb (s9 aq<|aa (ab 0)<|aa (dC<|.int 3) ag) 4)<|qN
theorem Bf:A3 mB 5 Ay:=by
 rintro ds M R ⟨q,p,s,ps,w,hs,e,rfl,b,o,N,sq,v,t,h1,f,u,c,x,h⟩;have l:=b.lt;have y:=o.len;have A:=o.rl;simp only[Ay,aF];walk_at"dl";refine⟨q,3,rfl,b,by decide,by decide,λi n _ _=>?_⟩;have a:=b.start.set (n:=n) l;generalize M.set q (.lst [.int n])=B at a;simp only[qN];walk_at"dl";refine⟨⟨rfl,rfl⟩,?_⟩;generalize r9 B p7 (.int i) (.int 0)=C;cases C with
 |true=>refine bP ⟨q,_,rfl,a.hd l,by rw[t7];lia,by rw[t7];lia,λk n K D=>?_⟩;have g1:=a.set (n:=n) l;generalize B.set q (.lst [.int n])=g at g1;obtain⟨j,L,z,_⟩:=gs (xs:=w.map ij) K D;rw[Ks]at z;walk_at"dl";rw[z];unfold ij;walk_at"dl";refine⟨av (by lia),g1.fin (.tup<|.cons (.str _)<|.cons (.str _) .nil) λn=>h _ n<|.tup<|.cons (.str _)<|.cons (.str _) .nil⟩
 |false =>
  refine bz ?_;simp only[qL];walk_at"dl";refine⟨⟨rfl,rfl⟩,?_⟩;generalize r9 B p7 (.int i) (.int 1)=r;cases r with
  |true=>refine bP ⟨q,_,rfl,a.hd l,by rw[t7];lia,by rw[t7];lia,λk n K D=>?_⟩;have g1:=a.set (n:=n) l;generalize B.set q (.lst [.int n])=g at g1;obtain⟨j,L,z,_⟩:=gs (xs:=ps.map fS) K D;rw[Ks]at z;walk_at"dl";rw[z];unfold fS;walk_at"dl";refine⟨av (by lia),g1.fin (.tup<|.cons (.str _)<|.cons (.str _) .nil) λn=>h _ n<|.tup<|.cons (.str _)<|.cons (.str _) .nil⟩
  |false=>refine bz ?_;simp only[qK];walk_at"dl";refine⟨q,p,s,hs,e,rfl,a.hd l,N,sq,a.oldL N v,t,h1,f,a.oldL sq u,c,x,λd n m=>?_⟩;have g1:=a.set (n:=n) l;generalize B.set q (.lst [.int n])=g at g1;exact⟨av (by lia),g1.fin (.tup<|.cons (.str _)<|.cons m.bel .nil) λn=>h _ n<|.tup<|.cons (.str _)<|.cons m.pl .nil⟩
theorem Cd(T:Tops P w K mg base):t9 P w K mg base 3 "_law_what" vX mB:=t9.byD (N:=["_law_held","_law_house_here","_law_hands_here","_law_says","_law_way"]) T.b T.f_what (by walk_at"sc") zr (by have:=cO T;have:=wm T;walk_at"dv") Bf
def sL:x5:=λds M R=>∃(q p s t:Nat) (ps:List (c7×Int)) (r:List (c7×List c7)) (hs a:List D) (k:List (D×D)),ds=[.ref q,aF ps r,.ref p,.ref s,.ref t]/\HN M q/\HouseF ps r/\(p≠q/\s≠q/\t≠q)/\ak M p hs/\(∀x∈hs,Hd x)/\1<=hs.length/\hs.length<=12/\ak M s a/\(∀x∈a,St x)/\a.length<=1000/\M[t]?=a7 (.dkt k)/\(∀x∈k,∃v:Int,x.2=.int v/\0<=v/\v<=1000)/\∀(x:c7) (Y:List D) (n:Int),mF 4 Y->ActK r x Y->R (.tup<|.str x::Y) (M.set q<|.lst [.int n])
theorem Cv:cI sL Ca:=by rintro ds M R ⟨q,p,s,t,ps,r,hs,a,k,rfl,_⟩;rfl
theorem eD(g:Hl M B q)(h:∀(x:c7) (dl:List D) (n:Int),mF 4 dl->ActK rs x dl->R (.tup<|.str x::dl) (M.set q<|.lst [.int n]))(p:mF 4 dl)(f:ActK rs x dl):bt M R (.tup<|.str x::dl) B:=g.fin (dN 5 _<|.tup<|.cons (.str _) p) λn=>h x dl n p f
theorem k_ne:AA1 "read"≠AA1 "say"/\AA1 "read"≠AA1 "change"/\AA1 "read"≠AA1 "back"/\AA1 "read"≠AA1 "like":=by decide +kernel
theorem k_ne2:AA1 "seen"≠AA1 "say"/\AA1 "seen"≠AA1 "change"/\AA1 "seen"≠AA1 "back"/\AA1 "seen"≠AA1 "like":=by decide +kernel
theorem k_ne3:AA1 "hush"≠AA1 "say"/\AA1 "hush"≠AA1 "change"/\AA1 "hush"≠AA1 "back"/\AA1 "hush"≠AA1 "like":=by decide +kernel
theorem k_ne4:AA1 "rung"≠AA1 "say"/\AA1 "rung"≠AA1 "change"/\AA1 "rung"≠AA1 "back"/\AA1 "rung"≠AA1 "like":=by decide +kernel
def rL:p5:=bp<|gh<|aa (dC<|.str "rung")<|aa (s9 ca<|aa (ab 0)<|aa (ab 2)<|aa (ab 3) ag) ag
def rN:p5:=az (A2 (ax<|p6 C0 (ab 5)<|dC<|.int 9) (bp<|gh<|aa (dC<|.str "hush")<|aa (s9 mB<|aa (ab 0)<|aa (ab 1)<|aa (ab 2)<|aa (ab 3) ag)<|aa (p6 Jp (s9 aq<|aa (ab 0)<|aa (dC<|.int 3) ag)<|dC<|.int 0) ag) aY)<|rL
def rO:p5:=az (A2 (ax<|p6 C0 (ab 5)<|dC<|.int 8) (bp<|gh<|aa (dC<|.str "seen")<|aa (s9 ca<|aa (ab 0)<|aa (ab 2)<|aa (ab 3) ag) ag) aY)<|rN
def rP:p5:=az (A2 (ax<|p6 C0 (ab 5)<|dC<|.int 7) (bp<|gh<|aa (dC<|.str "read")<|aa (ab 7)<|aa (s9 gu<|aa (ab 0)<|aa (ab 2)<|aa (ab 4) ag) ag) aY)<|rO
def ve:p5:=bp<|gh<|aa (dC<|.str "like")<|aa (s9 ca<|aa (ab 0)<|aa (ab 2)<|aa (ab 3) ag)<|aa (ab 9)<|aa (p6 Jp (s9 aq<|aa (ab 0)<|aa (dC<|.int 3) ag)<|dC<|.int 0) ag
def vh:p5:=az (A2 (ax<|p6 C0 (ab 5)<|dC<|.int 6) (az (bb (p6 u5 (iq<|aa (dC<|.str "good")<|aa (dC<|.str "no")<|aa (s9 gP<|aa (ab 0) ag) ag)<|s9 aq<|aa (ab 0)<|aa (dC<|.int 3) ag) 9)<|ve) aY)<|rP
def vj:p5:=az (A2 (ax<|p6 C0 (ab 5)<|dC<|.int 5) (bp<|gh<|aa (dC<|.str "back")<|aa (s9 ca<|aa (ab 0)<|aa (ab 2)<|aa (ab 3) ag) ag) aY)<|vh
def lE:p5:=az (A2 (ax<|p6 C0 (ab 5)<|dC<|.int 4) (bp<|gh<|aa (dC<|.str "change")<|aa (s9 ca<|aa (ab 0)<|aa (ab 2)<|aa (ab 3) ag)<|aa (s9 eE<|aa (ab 0)<|aa (ab 6) ag) ag) aY)<|vj
def pC:p5:=bp<|gh<|aa (dC<|.str "say")<|aa (ab 7)<|aa (ab 8)<|aa (s9 eE<|aa (ab 0)<|aa (ab 6) ag) ag
def pD:p5:=az (A2 (yf (ax<|p6 Jp (s9 aq<|aa (ab 0)<|aa (dC<|.int 3) ag)<|dC<|.int 0)<|ax<|p6 J4 (ab 3)<|iq ag) (bb (s9 ca<|aa (ab 0)<|aa (ab 2)<|aa (ab 3) ag) 8) aY)<|pC
def vm:p5:=az (A2 (Jh (ax<|p6 JF (ab 5)<|dC<|.int 4)<|yf (ax<|p6 C0 (ab 3)<|iq ag)<|ax<|p6 JF (ab 5)<|dC<|.int 7) (az (bb (dC .non) 8)<|pD) aY)<|lE
def vn:p5:=az (bb (p6 u5 (p6 u5 (p6 u5 (ab 1)<|dC<|.int 1)<|s9 aq<|aa (ab 0)<|aa (s9 jM<|aa (p6 u5 (ab 1)<|dC<|.int 1) ag) ag)<|dC<|.int 0) 7)<|vm
def vp:p5:=az (kZ 2 [] (cE<|p6 u5 (ab 1)<|dC<|.int 0) (jR 2<|bh (ar 0)<|bh (ar 1) jS) ux (ab 0) 6)<|vn
def Er:p5:=az (bb (s9 aq<|aa (ab 0)<|aa (dC<|.int 11) ag) 5)<|vp
section
variable{M B:p8}{R:DK}{q p s t w:Nat}{ps:List (c7×Int)}{rs:List (c7×List c7)}{hs sts:List D}{kvs:List (D×D)}{kind:Int}{xs:List c7}{room:c7}{y8 y9:Option D}
theorem act_6(l:q<M.length)(T:HouseF ps rs)(G:p≠q/\s≠q/\t≠q)(r:ak M p hs)(o:∀x∈hs,Hd x)(h1:1<=hs.length)(f:hs.length<=12)(b:ak M s sts)(c:∀x∈sts,St x)(E:sts.length<=1000)(U:M[t]?=a7 (.dkt kvs))(W:∀x∈kvs,∃v:Int,x.2=.int v/\0<=v/\v<=1000)(g:Hl M B q) (X:M.length<=w) (S:B[w]?=a7 (.lst<|xs.map .str)) (Y:1<=xs.length) (x4:xs.length<=4) (Z:∀x∈xs,x.length<=8)(h:∀(x:c7) (dl:List D) (n:Int),mF 4 dl->ActK rs x dl->R (.tup<|.str x::dl) (M.set q<|.lst [.int n])):lE (EE M R) [a7<|.ref q,a7<|aF ps rs,a7<|.ref p,a7<|.ref s,a7<|.ref t,a7<|.int kind,a7<|.ref w,a7<|.str room,y8,y9] B:=by
 have m:∀{B:p8}{Q:DK},Hl M B q->(∀(d:D) (B':p8),St d->Hl M B' q->(∀j x,M.length<=j->B[j]?=a7 x->B'[j]?=a7 x)->Q d B')->ca [.ref q,.ref p,.ref s] B Q:=λ{B Q} g k =>
  ⟨q,p,s,hs,sts,rfl,g.hd l,G.1,G.2.1,g.oldL G.1 r,o,h1,f,g.oldL G.2.1 b,c,E,λd n a=>k d _ a (g.set l) λj x hj e=>ap (by lia) e⟩
 simp only[lE];walk_at"dl";refine⟨⟨rfl,rfl⟩,?_⟩;generalize r9 B p7 (.int kind) (.int 4)=F;cases F with
 |true=>refine bP<|m g λd u a g1 i=>?_;refine⟨q,w,xs,rfl,g1.hd l,by lia,.inl<|i _ _ X S,Y,by lia,Z,λz n=>?_⟩;exact⟨av (by lia),eD (g1.set l) h (.cons a.pl<|.cons (.str _) .nil)<|.mkChange a⟩
 |false =>
 refine bz ?_;simp only[vj];walk_at"dl";refine⟨⟨rfl,rfl⟩,?_⟩;generalize r9 B p7 (.int kind) (.int 5)=H;cases H with
 |true=>exact bP<|m g λd u a g1 i=>⟨av (by lia),eD g1 h (.cons a.pl .nil)<|.mkBack a⟩
 |false =>
 refine bz ?_;simp only[vh];walk_at"dl";refine⟨⟨rfl,rfl⟩,?_⟩;generalize r9 B p7 (.int kind) (.int 6)=I;cases I with
 |true =>
  refine bP ⟨q,rfl,g.hd l,λz n zl=>?_⟩;have g1:=g.set (n:=n) l;generalize B.set q (.lst [.int n])=u at g1;refine⟨av (by lia),q,3,rfl,(g1.more).hd l,by decide,by decide,λk n K C=>?_⟩;have A:=(g1.more (L:=[.lst [.str<|AA1 "good",.str<|AA1 "no",.str z]])).set (n:=n) l;have V:((u++[MO.lst [.str<|AA1 "good",.str<|AA1 "no",.str z]]).set q<|.lst [.int n])[u.length]?=a7 (.lst [.str<|AA1 "good",.str<|AA1 "no",.str z]):=ap (by have:=g1.len;lia) ae;generalize (u++[MO.lst [.str<|AA1 "good",.str<|AA1 "no",.str z]]).set q (.lst [.int n])=B2 at A V;have P:∃s:c7,atI [D.str<|AA1 "good",.str<|AA1 "no",.str z] k=a7 (.str s):=by
   have:k=0\/k=1\/k=2:=by lia
   rcases this with rfl|rfl|rfl;exact⟨_,aA (j:=0) rfl⟩;exact⟨_,aA (j:=1) rfl⟩;exact⟨_,aA (j:=2) rfl⟩
  obtain⟨so,es⟩:=P;refine⟨_,.inl V,?_⟩;rw[es];simp only[ve];walk_at"dl";refine m A λd B3 a g3 i=>?_;refine⟨q,3,rfl,g3.hd l,by decide,by decide,λk n K C=>?_⟩;exact⟨av (by lia),eD (g3.set l) h (.cons a.pl<|.cons (.str _)<|.cons (.bl _) .nil)<|.mkLike a⟩
 |false =>
 refine bz ?_;simp only[rP];walk_at"dl";refine⟨⟨rfl,rfl⟩,?_⟩;generalize r9 B p7 (.int kind) (.int 7)=J;cases J with
 |true=>refine bP ⟨q,p,t,hs,kvs,rfl,g.hd l,G.1,G.2.2,g.oldL G.1 r,o,f,g.old G.2.2 U,W,λvs n y=>?_⟩;exact⟨av (by lia),eD (g.set l) h (.cons (.str _)<|.cons (.tup y) .nil)<|.mkNone k_ne⟩
 |false =>
 refine bz ?_;simp only[rO];walk_at"dl";refine⟨⟨rfl,rfl⟩,?_⟩;generalize r9 B p7 (.int kind) (.int 8)=N;cases N with
 |true=>exact bP<|m g λd u a g1 i=>⟨av (by lia),eD g1 h (.cons a.pl .nil)<|.mkNone k_ne2⟩
 |false =>
 refine bz ?_;simp only[rN];walk_at"dl";refine⟨⟨rfl,rfl⟩,?_⟩;generalize r9 B p7 (.int kind) (.int 9)=O;cases O with
 |true=>refine bP ⟨q,p,s,ps,rs,hs,sts,rfl,g.hd l,T,G.1,G.2.1,g.oldL G.1 r,o,h1,f,g.oldL G.2.1 b,c,E,λd n a=>?_⟩;have g1:=g.set (n:=n) l;generalize B.set q (.lst [.int n])=u at g1;refine⟨q,3,rfl,g1.hd l,by decide,by decide,λk n K C=>?_⟩;exact⟨av (by lia),eD (g1.set l) h (.cons a<|.cons (.bl _) .nil)<|.mkNone k_ne3⟩
 |false =>
 refine bz ?_;simp only[rL];walk_at"dl";exact m g λd u a g1 i=>⟨av (by lia),eD g1 h (.cons a.pl .nil)<|.mkNone k_ne4⟩
end
theorem Eg:A3 sL 10 Er:=by
 rintro ds M R ⟨q,p,s,t,ps,C,hs,o,ai,rfl,hq,V,J,hp,hh,h1,N,i,I,sl,ht,hv,h⟩;have l:=hq.lt;have l1:=V.len;have l2:=V.rl;simp only[Er];walk_at"dl";refine⟨q,11,rfl,hq,by decide,by decide,λc n _ _=>?_⟩;have Z:=hq.start.set (n:=n) l;generalize M.set q (.lst [.int n])=Q at Z;simp only[vp,aF];walk_at"dl";intro _;refine eA (λd=>(match d with|.tup (x::_)=>x|_=>.non)) (λS=>∃a b,S=[a,b]) trivial _ _ _ (λx O S hS=>?_) ⟨_,_,rfl⟩ (by rw[G4,t7];exact av<|by lia) ?_;obtain⟨a,b,rfl⟩:=hS;obtain⟨y,_,rfl⟩:=y4.mp O;refine⟨[a7<|.str y.1,a7<|.int y.2],⟨_,_,rfl⟩,λY hY=>?_⟩;unfold fS;walk_at"dl";exact⟨trivial,hY⟩;rw[IN];have en:(ps.map fS).map (λd=>(match d with|.tup (x::_)=>x|_=>.non))=(ps.map (·.1)).map D.str:=by rw[G2,G2];rfl
 rw[en];have g1:=Z.more (L:=[.lst ((ps.map (·.1)).map D.str)]);have f:(Q++[MO.lst ((ps.map (·.1)).map D.str)])[Q.length]?=a7 (.lst ((ps.map (·.1)).map D.str)):=ae;have wM:=Z.len;have x8:∀x∈ps.map (·.1),x.length<=8:=λx O=>by obtain⟨y,hy,rfl⟩:=y4.mp O;exact V.nm y hy
 have xl:(ps.map (·.1)).length=ps.length:=t7 _;generalize Q++[MO.lst ((ps.map (·.1)).map D.str)]=B1 at g1 f;generalize Q.length=w at f wM;generalize ps.map (·.1)=xs at f x8 xl;simp only[vn];walk_at"dl";refine⟨q,_,rfl,g1.hd l,by rw[t7];lia,by rw[t7];lia,λk n k0 k1=>?_⟩;have T:=g1.set (n:=n) l;have F:(B1.set q<|.lst [.int n])[w]?=a7 (.lst<|xs.map .str):=ap (by lia) f;generalize B1.set q (.lst [.int n])=B2 at T F;obtain⟨j,hj,ej,_⟩:=gs (xs:=C.map ij) k0 k1;rw[Ks]at ej;have G:j<C.length:=by rw[t7]at hj;exact hj
 have hr:(C[j]'G).1∈C.map (·.1):=HL<|IR G;walk_at"dl";rw[ej];unfold ij;walk_at"dl";generalize (C[j]'G).1=m at hr;have v:∀{B:p8},∀x∈o,t4 B 29 x=a9:=λ{B} x O=>by obtain⟨t,z,k,rfl⟩:=I x O;rfl
 have P:∀{B:p8}{y8 y9:Option D},Hl M B q->B[w]?=a7 (.lst<|xs.map .str)->lE (EE M R) [a7<|.ref q,a7<|aF ps C,a7<|.ref p,a7<|.ref s,a7<|.ref t,a7<|.int c,a7<|.ref w,a7<|.str m,y8,y9] B:=λg f=>act_6 l V J hp hh h1 N i I sl ht hv g wM f (by lia) (by lia) x8 h;have r:∀{E:DEnds}{B:p8}{y9:Option D},E.rt=bt M R->Hl M B q->B[w]?=a7 (.lst<|xs.map .str)->pD E [a7<|.ref q,a7<|aF ps C,a7<|.ref p,a7<|.ref s,a7<|.ref t,a7<|.int c,a7<|.ref w,a7<|.str m,a7 .non,y9] B:=λ{E B y9} eR g f=>by
  have e:∀{B:p8}{u:D},Hl M B q->B[w]?=a7 (.lst<|xs.map .str)->(u=.non\/St u)->pC E [a7<|.ref q,a7<|aF ps C,a7<|.ref p,a7<|.ref s,a7<|.ref t,a7<|.int c,a7<|.ref w,a7<|.str m,a7 u,y9] B:=λ{B u} g f W=>by
   simp only[pC];walk_at"dl";refine⟨q,w,xs,rfl,g.hd l,by lia,.inl f,by lia,by lia,x8,λz n=>?_⟩;have up:F4 4 u:=by rcases W with rfl|W;exact .non;exact W.pl
   refine⟨av (by lia),?_⟩;rw[eR];exact eD (g.set l) h (.cons (.str _)<|.cons up<|.cons (.str _) .nil)<|.mkSay hr W
  simp only[pD];walk_at"dl";refine⟨q,3,rfl,g.hd l,by decide,by decide,λk n k0 k1=>?_⟩;have g3:=g.set (n:=n) l;have H:(B.set q<|.lst [.int n])[w]?=a7 (.lst<|xs.map .str):=ap (by lia) f;generalize B.set q (.lst [.int n])=B3 at g3 H;walk_at"dl";by_cases hk:k > 0;rw[dT_ hk];obtain⟨K,X⟩:=lX (g3.oldL J.2.1 i) v;refine bP ⟨v9 _,K,?_⟩;rw[X];have A:=g3.more (L:=[.lst []]);have U:=ad (a:=.lst []) H;generalize B3++[MO.lst []]=B4 at A U;cases he:o.isEmpty with
  |true=>exact bz<|e A U<|.inl rfl
  |false=>refine bP ⟨q,p,s,hs,o,rfl,A.hd l,J.1,J.2.1,A.oldL J.1 hp,hh,h1,N,A.oldL J.2.1 i,I,sl,λd n hd=>?_⟩;exact e (A.set l) (ap (by lia) U)<|.inr hd
  rw[dF_ hk];exact bz<|e g3 H<|.inl rfl
 simp only[vm];walk_at"dl";by_cases h4:c<4;rw[dT_ h4];exact bP<|r rfl T F;rw[dF_ h4];obtain⟨K,X⟩:=lX (T.oldL J.2.1 i) v;refine bz ⟨v9 _,K,?_⟩;rw[X];have A:=T.more (L:=[.lst []]);have U:=ad (a:=.lst []) F;generalize B2++[MO.lst []]=B4 at A U;cases he:o.isEmpty with
 |true=>refine bP ?_;by_cases h7:c<7;rw[dT_ h7];exact bP<|r rfl A U;rw[dF_ h7];exact bz<|P A U
 |false=>exact bz<|P A U
theorem Fs(T:Tops P w K mg base):t9 P w K mg base 4 "_law_act" Ca sL:=t9.byD (N:=["_law_held","_law_house_here","_law_hands_here","_law_says","_law_done","_law_kind","_law_names_here","_law_room","_law_under","_law_sort"]) T.b T.f_act (by walk_at"sc") Cv (by have:=cO T;have:=wt T;have:=wk T;have:=wm T;have:=wg T;have:=Cd T;walk_at"dv") Eg
def iF:x5:=λds M R=>∃(ps:List (c7×Int)) (r:List D),ds=[.tup<|.tup (ps.map fS)::r]/\MV ps/\R (.ref M.length) (M++[.lst<|aI ps])
theorem wN:cI iF pO:=by rintro ds M R ⟨ps,r,rfl,_⟩;rfl
def nj:p5:=bp<|ab 1
def np:p5:=az (jU (cE<|p6 u5 (ab 0)<|dC<|.int 0) (jR 2<|bh (ar 2)<|bh (ar 3) jS)<|fu<|Ij gG (ab 1)<|aa (H9 1 [2] (cw<|aa (ab 3) ag) (ar 0) ux<|gh<|aa (ab 1)<|aa (ab 0) ag) ag)<|nj
def uX:p5:=az (bb (iq ag) 1)<|np
theorem ym:A3 iF 4 uX:=by
 rintro ds M R ⟨ps,r,rfl,⟨n,d⟩,h⟩;simp only[uX,np];walk_at"dl";refine⟨v9 _,λ_=>?_⟩;have l:∀qs:List (c7×Int),(∀p∈qs,p∈ps)->qs.length<=4->(aI qs).length<=12:=λqs h1 h2=>by have:=kU (ps:=qs) λp f=>d p<|h1 p f;lia
 refine iC (λys S c=>∃qs s a b L,ps=qs++s/\ys=s.map fS/\c=M++.lst (aI qs)::L/\S=[a7<|.tup<|.tup (ps.map fS)::r,a7<|.ref M.length,a,b]) ?_ ?_ _ _ _ ⟨[],ps,_,_,[],rfl,rfl,rfl,rfl⟩;rintro S c ⟨qs,s,a,b,L,e,q,rfl,rfl⟩;have:s=[]:=by cases s<;>simp_all
 subst this;rw[Ir]at e;subst e;refine⟨trivial,?_⟩;simp only[nj];walk_at"dl";exact bt.lst h (t6 _) gM ub;rintro x xs S c ⟨qs,s,a,b,L,e,q,rfl,rfl⟩ G g;cases s with
 |nil=>cases q
 |cons p s =>
  rw[A5]at q;injection q with e1 e2;subst e1;have f:=d p (by rw[e];simp);refine⟨trivial,?_⟩;unfold fS;walk_at"dl";refine⟨trivial,⟨_,.inl gM⟩,⟨by lia,by lia⟩,?_⟩;refine eA (λk=>.tup [.str p.1,k]) (λS=>∃a,S=[a,a7<|.str p.1]) trivial _ _ _ (λk o S i=>?_) ⟨_,rfl⟩ ?_ ?_;obtain⟨a,rfl⟩:=i;refine⟨[a7 k,a7<|.str p.1],⟨_,rfl⟩,λY j=>?_⟩;walk_at"dl";exact⟨av (by lia),j⟩;simp only[G4,fJ];exact av (by lia);rw[IN];have U:(pc 0 p.2.toNat).map (λk=>D.tup [.str p.1,k])=cU p:=rfl;rw[U];have t:=l qs (λz m=>by rw[e];exact E3 _ m) (by have:=o6 Hy e;rw[v4]at this;lia);have u:(cU p).length<=3:=by rw[fi];lia
  rw[Hs,Kr];refine⟨_,cU p,gM,?_,?_,av (by lia),?_⟩;rw[<-Kr,<-Hs];exact ae;rw[v4,A0];lia;rw[iU];refine z9.now<|g _ _ ⟨qs++[p],s,_,_,L++[.lst<|cU p],by rw[Hs];exact e,e2,?_,rfl⟩;rw[show aI (qs++[p])=aI qs++cU p by simp[aI]]
theorem zb(T:Tops P w K mg base):t9 P w K mg base 1 "_law_hands" pO iF:=t9.byD (N:=["_law_house_here","_law_found","_law_name_here","_law_many"]) T.b T.f_hands (by walk_at"sc") wN (by walk_at"dv") ym
structure LogS(ps:List (c7×Int))(rs:List (c7×List c7))(log:List D):Prop where
 dk:∀d∈log,aW ps rs d
 up:log.Pairwise λa b=>enc p7 (stD a)<enc p7 (stD b)
 len:log.length<=60
def sJ:x5:=λds M R=>∃(ps:List (c7×Int)) (a:List (c7×List c7)) (p I:Nat) (cs:List Int),ds=[.ref p,aF ps a]/\HouseF ps a/\ak M p (cs.map .int)/\p≠I/\cs.length<=60/\M[I]?=a7 (.tb (AA1 "_law_log") c5)/\∀g,LogS ps a g->R (.tup g) (M.set I<|.tb (AA1 "_law_log") a9)
theorem Cs:cI sJ BX:=by rintro ds M R ⟨ps,a,p,I,cs,rfl,_⟩;rfl
noncomputable def Em:D->Int
 |.tup (.int t::_)=>t
 |_=>0
noncomputable def Nu:D->D
 |.tup (_::h::_)=>h
 |_=>.non
theorem ox(hf:HouseF ps rs):MV ps/\1<=(aI ps).length/\(aI ps).length<=12:=by
 have f:MV ps:=⟨hf.len.2,λq h=>⟨by have:=hf.many q h;lia,(hf.many q h).2⟩⟩
 have n:=kU f.2;refine⟨f,?_,by have:=f.1;lia⟩
 match ps,hf with
 | [],hf=>have:=hf.len.1;simp at this
 |p::ps,hf=>have:=(hf.many p<|by simp).1;rw[aI,List.flatMap_cons,v4,fi];lia
structure GenD(ps:List (c7×Int))(rs:List (c7×List c7))(deeds sts:List D)(las cnt:List (D×D))(n:Nat):Prop where
 dk:∀d∈deeds,aW ps rs d
 nd:(deeds.map stD).Nodup
 la:∀d∈deeds,∃v:Int,aR las (Nu d)=a7 (.int v)/\Em d<=v
 lv:∀x∈las,∃v:Int,x.2=.int v/\0<=v
 cv:∀x∈cnt,∃v:Int,x.2=.int v/\0<=v/\v<=n
 so:∀x∈sts,St x
 dl:deeds.length<=n
 sl:sts.length<=n
 ll:las.length<=n
 cl:cnt.length<=n
theorem GenD.next{ps:List (c7×Int)}{rs:List (c7×List c7)}{s q f:List D}{l i:List (D×D)}{n:Nat}{t p:Int}{z x:c7}{k c:Int}{Y:List D}(g:GenD ps rs s q l i n)(B:D.tup [.str z,.int k]∈aI ps)(F:1<=t)(u:∀v:Int,aR l (.tup [.str z,.int k])=a7 (.int v)->v<t)(L:0<=c)(G:c<=n)(A:mF 4 Y)(o:ActK rs x Y)(C:∀x∈f,St x) (E:f.length<=n+1):GenD ps rs (s++[.tup [.int t,.tup [.str z,.int k],.int p,.tup<|.str x::Y]]) f (fO l (.tup [.str z,.int k])<|.int t) (fO i (.tup [.str z,.int k])<|.int<|c+1) (n+1):=by have h1:=g.dl;have h2:=g.ll;have H:=g.cl;refine⟨λd h=>?_,?_,λd h=>?_,λy Q=>?_,λy Q=>?_,C,by rw[v4,F9];lia,E,?_,?_⟩;rcases B7.mp h with h|h;exact g.dk d h;rw[show d=_ from by simpa using h];exact⟨_,_,_,_,_,_,rfl,F,B,A,o⟩;rw[C4];refine Kt.mpr ⟨g.nd,by simp,λa o b w e=>?_⟩;obtain⟨d,h,rfl⟩:=y4.mp o;rw[show b=_ from by simpa using w]at e;obtain⟨t',J,I,r,S,ds',rfl,_⟩:=g.dk d h;obtain⟨v,j,m⟩:=g.la _ h;simp only[stD,D.tup.injEq,KU,D.int.injEq,D.str.injEq,and_true]at e;obtain⟨rfl,rfl,rfl⟩:=e;have:=u v j;simp only[Em]at m;lia;rcases B7.mp h with h|h;obtain⟨v,j,m⟩:=g.la d h;by_cases e:Nu d=.tup [.str z,.int k];rw[e]at j ⊢;exact⟨t,eK,by have:=u v j;lia⟩;exact⟨v,by rw[fW e];exact j,m⟩;rw[show d=_ from by simpa using h];exact⟨t,eK,Int.le_refl _⟩;rcases iw Q with rfl|Q;exact⟨t,rfl,by lia⟩;exact g.lv y Q;rcases iw Q with rfl|Q;exact⟨c+1,rfl,by lia,by lia⟩;obtain⟨v,j,m,R⟩:=g.cv y Q;exact⟨v,j,m,by lia⟩;have:=lK (kvs:=l) (k:=.tup [.str z,.int k]) (d:=.int t);lia;have:=lK (kvs:=i) (k:=.tup [.str z,.int k]) (d:=.int<|c+1);lia
structure C8(M B:p8)(hs deeds sts:List D)(las cnt:List (D×D)):Prop where
 pre:M <+: B
 hs:B[M.length]?=a7 (.lst hs)
 las:B[M.length+1]?=a7 (.dkt las)
 cnt:B[M.length+2]?=a7 (.dkt cnt)
 sts:B[M.length+3]?=a7 (.lst sts)
 deeds:B[M.length+4]?=a7 (.lst deeds)
section
variable{M B:p8}{hs deeds sts:List D}{las cnt:List (D×D)}{q:Nat}{x:MO}
theorem C8.more(g:C8 M B hs deeds sts las cnt):C8 M (B++L) hs deeds sts las cnt:=⟨g.pre.trans<|G5 _ _,bc (G5 _ _) g.hs,bc (G5 _ _) g.las,bc (G5 _ _) g.cnt,bc (G5 _ _) g.sts,bc (G5 _ _) g.deeds⟩
theorem C8.lt(g:C8 M B hs deeds sts las cnt):M.length+5<=B.length:=aC g.deeds
theorem C8.set(g:C8 M B hs deeds sts las cnt)(h:M.length+5<=q):C8 M (B.set q x) hs deeds sts las cnt:=⟨bx g.pre (by lia),ap (by lia) g.hs,ap (by lia) g.las,ap (by lia) g.cnt,ap (by lia) g.sts,ap (by lia) g.deeds⟩
theorem C8.setD(g:C8 M B hs deeds sts las cnt):C8 M (B.set (M.length+4)<|.lst ds') hs ds' sts las cnt:=⟨bx g.pre (by lia),ap (by lia) g.hs,ap (by lia) g.las,ap (by lia) g.cnt,ap (by lia) g.sts,bn g.deeds⟩
theorem C8.setS(g:C8 M B hs deeds sts las cnt):C8 M (B.set (M.length+3)<|.lst ds') hs deeds ds' las cnt:=⟨bx g.pre (by lia),ap (by lia) g.hs,ap (by lia) g.las,ap (by lia) g.cnt,bn g.sts,ap (by lia) g.deeds⟩
theorem C8.setC(g:C8 M B hs deeds sts las cnt):C8 M (B.set (M.length+2)<|.dkt kvs) hs deeds sts las kvs:=⟨bx g.pre (by lia),ap (by lia) g.hs,ap (by lia) g.las,bn g.cnt,ap (by lia) g.sts,ap (by lia) g.deeds⟩
theorem C8.setL(g:C8 M B hs deeds sts las cnt):C8 M (B.set (M.length+1)<|.dkt kvs) hs deeds sts kvs cnt:=⟨bx g.pre (by lia),ap (by lia) g.hs,bn g.las,ap (by lia) g.cnt,ap (by lia) g.sts,ap (by lia) g.deeds⟩
end
theorem CY{kvs:List (D×D)}(h:∀x∈kvs,∃v:Int,x.2=.int v/\0<=v):∃vs:List Int,kvs.map (·.2)=vs.map D.int:=by
 induction kvs with
 |nil=>exact⟨[],rfl⟩
 |cons p kvs i=>obtain⟨v,e,_⟩:=h p (by simp);obtain⟨vs,m⟩:=i λx a=>h x<|w6 _ a;exact⟨v::vs,by rw[A5,A5,e,m]⟩
def rD:p5:=bp<|s9 fL<|aa (iB "_law_log" ["_law_deed"] (Jr (ab 0) dY<|jT<|dC<|.int 2)<|aa (ab 6) ag) ag
def rE:p5:=A2 (ax<|p6 C0 (p6 u5 (ab 12)<|dC<|.int 0)<|dC<|.str "say") (fu<|Ij bE (ab 5)<|aa (gh<|aa (ab 11)<|aa (ab 9) ag) ag) aY
def rF:p5:=az (qv (ab 4) (ab 9)<|p6 ba (J5 hW (ab 4)<|aa (ab 9)<|aa (dC<|.int 0) ag)<|dC<|.int 1)<|rE
def rG:p5:=az (qv (ab 3) (ab 9)<|ab 11)<|rF
def rH:p5:=az (fu<|Ij bE (ab 6)<|aa (gh<|aa (ab 11)<|aa (ab 9)<|aa (J5 hW (ab 4)<|aa (ab 9)<|aa (dC<|.int 0) ag)<|aa (ab 12) ag) ag)<|rG
def lD:p5:=az (bb (s9 sL<|aa (ab 8)<|aa (ab 1)<|aa (ab 2)<|aa (ab 5)<|aa (ab 4) ag) 12)<|rH
def uH:p5:=az (A2 (ax<|p6 C0 (ab 10)<|dC<|.int 3) (bb (p6 ba (dC<|.int 1)<|s9 vN<|aa (p6 ba (iq<|aa (dC<|.int 0) ag)<|gk<|ab 3) ag) 11) aY)<|lD
def uI:p5:=az (bb (p6 ba (p6 ba (J5 hW (ab 3)<|aa (ab 9)<|aa (dC<|.int 0) ag)<|dC<|.int 1)<|s9 aq<|aa (ab 8)<|aa (p6 u5 (iq<|aa (dC<|.int 3)<|aa (dC<|.int 6)<|aa (p6 BC (dC<|.int 10)<|dC<|.int 7)<|aa (dC<|.int 1) ag)<|ab 10) ag) 11)<|uH
def uJ:p5:=az (bb (s9 aq<|aa (ab 8)<|aa (dC<|.int 4) ag) 10)<|uI
def pz:p5:=az (bb (p6 u5 (ab 2)<|s9 aq<|aa (ab 8)<|aa (s9 jM<|aa (ab 2) ag) ag) 9)<|uJ
def uK:p5:=az (jU (cE<|ab 0) (ar 7)<|az (bb (s9 cH<|aa (ab 7) ag) 8)<|pz)<|rD
def uL:p5:=az (bb (iq ag) 6)<|uK
def uM:p5:=az (bb (iq ag) 5)<|uL
def uN:p5:=az (bb (qw) 4)<|uM
def uO:p5:=az (bb (qw) 3)<|uN
def En:p5:=az (bb (s9 iF<|aa (ab 1) ag) 2)<|uO
theorem AM{M B:p8}{E:DEnds}{s a hs:List D}{l i:List (D×D)}{n q:Nat}{t w:Int}{z:c7}{k:Int}{ps:List (c7×Int)}{rs:List (c7×List c7)}{J K m:Option D}(g:C8 M B hs s a l i)(G:GenD ps rs s a l i n)(W:HouseF ps rs)(Y:∀x∈hs,Hd x)(h1:1<=hs.length)(j:hs.length<=12)(Z:n<60)(V:HN B q)(qM:M.length+5<=q)(h:D.tup [.str z,.int k]∈aI ps)(H:1<=t)(I:∀v:Int,aR l (.tup [.str z,.int k])=a7 (.int v)->v<t)(r:∀deeds' sts' las' cnt' B' y,C8 M B' hs deeds' sts' las' cnt'->GenD ps rs deeds' sts' las' cnt' (n+1)->E.nx [J,a7<|aF ps rs,a7<|.ref M.length,a7<|.ref<|M.length+1,a7<|.ref<|M.length+2,a7<|.ref<|M.length+3,a7<|.ref<|M.length+4,K,a7<|.ref q,a7<|.tup [.str z,.int k],a7<|.int w,a7<|.int t,y] B'):lD E [J,a7<|aF ps rs,a7<|.ref M.length,a7<|.ref<|M.length+1,a7<|.ref<|M.length+2,a7<|.ref<|M.length+3,a7<|.ref<|M.length+4,K,a7<|.ref q,a7<|.tup [.str z,.int k],a7<|.int w,a7<|.int t,m] B:=by
 have dl:=G.dl;have sl:=G.sl;have ll:=G.ll;have cl:=G.cl;simp only[lD];walk_at"dl";refine⟨q,_,_,_,ps,rs,hs,a,i,rfl,V,W,⟨by lia,by lia,by lia⟩,.inl g.hs,Y,h1,j,.inl g.sts,G.so,by lia,g.cnt,λx h=>by obtain⟨v,T,U,e3⟩:=G.cv x h;exact⟨v,T,U,by lia⟩,λx b F C u=>?_⟩;have g1:=g.set (x:=.lst [.int F]) qM;generalize B.set q (.lst [.int F])=N at g1;have X:∃c:Int,(aR i<|.tup [.str z,.int k]).getD (.int 0)=.int c/\0<=c/\c<=n:=by
  cases e:aR i (.tup [.str z,.int k]) with
  |none=>exact⟨0,rfl,by decide,by lia⟩
  |some d=>exact G.cv _<|bX e
 obtain⟨c,p,L,o⟩:=X;simp only[rH];walk_at"dl";refine⟨⟨_,.inl g1.deeds⟩,⟨_,g1.cnt⟩,_,g1.cnt,rfl,?_⟩;rw[p];refine⟨av (by lia),_,g1.deeds,aJ (by lia),?_⟩;have f:=g1.setD (ds':=s++[.tup [.int t,.tup [.str z,.int k],.int c,.tup<|.str x::b]]);generalize N.set (M.length+4) _=O at f;simp only[rG];walk_at"dl";refine⟨_,f.las,rfl,aJ (by lia),?_⟩;have g3:=f.setL (kvs:=fO l (.tup [.str z,.int k])<|.int t);generalize O.set (M.length+1) _=P at g3;simp only[rF];walk_at"dl";refine⟨⟨_,g3.cnt⟩,_,g3.cnt,rfl,?_⟩;rw[p];refine⟨_,g3.cnt,rfl,aJ (by lia),?_⟩;have A:=g3.setC (kvs:=fO i (.tup [.str z,.int k])<|.int<|c+1);generalize P.set (M.length+2) _=R at A;simp only[rE];walk_at"dl";refine⟨⟨aw,aw⟩,?_⟩;generalize r9 R p7 (.str x) (.str<|AA1 "say")=S;cases S with
 |true=>refine bP ⟨⟨_,.inl A.sts⟩,av (by lia),_,A.sts,aJ (by lia),?_⟩;refine r _ _ _ _ _ _ A.setS (G.next h H I L o C u (λy Q=>?_)<|by rw[v4,F9];lia);rcases B7.mp Q with Q|Q;exact G.so y Q;rw[show y=_ from by simpa using Q];exact⟨_,_,_,rfl⟩
 |false=>exact bz<|r _ _ _ _ _ _ A<|G.next h H I L o C u G.so<|by lia
theorem zo{M B:p8}{E:DEnds}{s I:List D}{l A:List (D×D)}{n:Nat}{r:Int}{ps:List (c7×Int)}{rs:List (c7×List c7)}{y0 y8 y9 al an as:Option D}(g:C8 M B (aI ps) s I l A)(G:GenD ps rs s I l A n)(hf:HouseF ps rs)(Z:n<60)(hE:∀deeds' sts' las' cnt' B' a b c d y,C8 M B' (aI ps) deeds' sts' las' cnt'->GenD ps rs deeds' sts' las' cnt' (n+1)->E.nx [y0,a7<|aF ps rs,a7<|.ref M.length,a7<|.ref<|M.length+1,a7<|.ref<|M.length+2,a7<|.ref<|M.length+3,a7<|.ref<|M.length+4,a7<|.int r,a,b,c,d,y] B'):(az (bb (s9 cH<|aa (ab 7) ag) 8)<|pz) E [y0,a7<|aF ps rs,a7<|.ref M.length,a7<|.ref<|M.length+1,a7<|.ref<|M.length+2,a7<|.ref<|M.length+3,a7<|.ref<|M.length+4,a7<|.int r,y8,y9,al,an,as] B:=by
 obtain⟨aD,n1,J⟩:=ox hf;have hh:∀x∈aI ps,Hd x:=sv;have ll:=G.ll;walk_at"dl";refine⟨r,rfl,λQ=>?_⟩;have hd0:HN (B++[MO.lst [.int Q]]) B.length:=⟨Q,ae⟩
 have Y:=g.more (L:=[.lst [.int Q]]);have S:=g.lt;generalize B++[MO.lst [D.int Q]]=B0 at Y hd0;generalize B.length=q at hd0 S;have H:=hd0.lt;have ai:=hd0.start;have p:∀{C:p8},Hl B0 C q->C8 M C (aI ps) s I l A:=λ{C} h=>by obtain⟨n2,L,rfl⟩:=h;exact(Y.set (x:=.lst [.int n2]) S).more
 simp only[pz];walk_at"dl";refine⟨_,.inl Y.hs,q,_,rfl,hd0,by lia,by lia,λi m i0 i1=>?_⟩;have h1:=ai.set (n:=m) H;generalize B0.set q (.lst [.int m])=B1 at h1;obtain⟨j,hj,ej,_⟩:=gs (xs:=aI ps) i0 i1;have P:=IR hj;refine⟨_,.inl (p h1).hs,?_⟩;rw[ej];obtain⟨z,k,ez⟩:=hh _ P;rw[ez]at P ⊢;simp only[uJ];walk_at"dl";refine⟨q,4,rfl,h1.hd H,by decide,by decide,λo m w0 w1=>?_⟩;have h2:=h1.set (n:=m) H;generalize B1.set q (.lst [.int m])=B2 at h2;have hl:∃v:Int,(aR l<|.tup [.str z,.int k]).getD (.int 0)=.int v/\0<=v/\∀u:Int,aR l (.tup [.str z,.int k])=a7 (.int u)->u=v:=by
  cases e:aR l (.tup [.str z,.int k]) with
  |none=>exact⟨0,rfl,by decide,λu w=>by cases w⟩
  |some d=>obtain⟨v,K,v0⟩:=G.lv _<|bX e;exact⟨v,K,v0,λu w=>by rw[show d=.int v from K]at w;cases w;rfl⟩
 obtain⟨v,K,v0,vu⟩:=hl;simp only[uI];walk_at"dl";refine⟨⟨_,(p h2).las⟩,_,(p h2).las,rfl,?_⟩;rw[K];have ex:∃m:Int,atI [D.int 3,.int 6,.int<|10 ^ Int.toNat 7,.int 1] o=a7 (.int m)/\0<m/\m<100000000000:=by
  have:o=0\/o=1\/o=2\/o=3:=by lia
  rcases this with rfl|rfl|rfl|rfl;exact⟨_,aA (j:=0) rfl,by decide,by decide⟩;exact⟨_,aA (j:=1) rfl,by decide,by decide⟩;exact⟨_,aA (j:=2) rfl,by decide,by decide⟩;exact⟨_,aA (j:=3) rfl,by decide,by decide⟩
 obtain⟨m0,em,mp,ml⟩:=ex;refine⟨⟨by decide,by decide,by decide⟩,av (by lia),_,bi,?_⟩;rw[em];refine⟨q,m0,rfl,(h2.more).hd H,mp,ml,λa m a0 a1=>?_⟩;have O:=(h2.more (L:=[.lst [D.int 3,.int 6,.int<|10 ^ Int.toNat 7,.int 1]])).set (n:=m) H;generalize (B2++[MO.lst [D.int 3,.int 6,.int<|10 ^ Int.toNat 7,.int 1]]).set q (.lst [.int m])=N at O;simp only[uH];walk_at"dl";refine⟨⟨rfl,rfl⟩,?_⟩;generalize r9 N p7 (.int o) (.int 3)=b3;cases b3 with
 |false=>refine bz ?_;exact AM (p O) G hf hh n1 J Z (O.hd H) S P (by lia) (λu w=>by rw[vu u w];lia) λd' s' l' c' B' y X U=>hE _ _ _ _ _ _ _ _ _ _ X U
 |true =>
  obtain⟨vs,F⟩:=CY G.lv;have vl:vs.length=l.length:=by have:=o6 Hy F;rw[t7,t7]at this;exact this.symm
  have h4:=O.more (L:=[.lst [.int 0]]);have g4:=p h4;have V:(N++[MO.lst [D.int 0]])[N.length]?=a7 (.lst [.int 0]):=ae;generalize N++[MO.lst [D.int 0]]=R at h4 g4 V;generalize N.length=r4 at V;refine bP ⟨av (by lia),_,g4.las,?_⟩;rw[F];have h5:=h4.more (L:=[.lst<|vs.map .int]);have e5:=ad (a:=.lst<|vs.map .int) V;have W:(R++[MO.lst<|vs.map .int])[R.length]?=a7 (.lst<|vs.map .int):=ae;generalize R++[MO.lst<|vs.map .int]=T at h5 e5 W;generalize R.length=r5 at W;refine⟨_,_,e5,W,av (by rw[t7,F9];lia),?_⟩;have h6:=h5.more (L:=[.lst<|[.int 0]++vs.map .int]);have e7:(T++[MO.lst<|[D.int 0]++vs.map .int])[T.length]?=a7 (.lst<|(0::vs).map .int):=ae;generalize T++[MO.lst<|[D.int 0]++vs.map .int]=B6 at h6 e7;refine⟨0::vs,.inl e7,by simp,λmx mm t=>?_⟩;have aP:=t 0 (by simp);refine AM (p h6) G hf hh n1 J Z (h6.hd H) S P (by lia) (λu w=>?_) λd' s' l' c' B' y X U=>hE _ _ _ _ _ _ _ _ _ _ X U;have hu:D.int u∈l.map (·.2):=HL (f:=(·.2))<|bX w;rw[F]at hu;obtain⟨u',aj,eu⟩:=y4.mp hu;cases eu;have:=t u<|w6 _ aj;lia
theorem Ed:A3 sJ 13 En:=by
 rintro ds M R ⟨ps,r,p,I,cs,rfl,J,v,pt,cl,N,h⟩;obtain⟨w,n1,ai⟩:=ox J;simp only[En,aF];walk_at"dl";refine⟨ps,_,rfl,w,?_⟩;simp only[uO,uN,uM,uL];walk_at"dl";refine⟨v9 _,v9 _,?_⟩;have C:(M++[MO.lst<|aI ps]).length=M.length+1:=by simp
 have E:(M++[MO.lst<|aI ps]++[MO.dkt []]).length=M.length+2:=by simp
 have F:(M++[MO.lst<|aI ps]++[MO.dkt []]++[MO.dkt []]).length=M.length+3:=by simp
 have H:(M++[MO.lst<|aI ps]++[MO.dkt []]++[MO.dkt []]++[MO.lst []]).length=M.length+4:=by simp
 rw[C,E,F,H];have u:C8 M (M++[MO.lst<|aI ps]++[MO.dkt []]++[MO.dkt []]++[MO.lst []]++[MO.lst []]) (aI ps) [] [] [] []:=by refine⟨(((gH.trans gH).trans gH).trans gH).trans gH,ad<|ad<|ad<|ad ae,?_,?_,?_,?_⟩;rw[<-C];exact ad<|ad<|ad ae;rw[<-E];exact ad<|ad ae;rw[<-F];exact ad ae;rw[<-H];exact ae
 generalize M++[MO.lst<|aI ps]++[MO.dkt []]++[MO.dkt []]++[MO.lst []]++[MO.lst []]=B0 at u;simp only[uK];walk_at"dl";refine⟨_,pV u.pre v,λ_=>?_⟩;refine aU (λi S n=>∃(s m:List D) (l j:List (D×D)) (a b c d e f:Option D),C8 M n (aI ps) s m l j/\GenD ps r s m l j i/\S=[a7<|.ref p,a7<|aF ps r,a7<|.ref M.length,a7<|.ref<|M.length+1,a7<|.ref<|M.length+2,a7<|.ref<|M.length+3,a7<|.ref<|M.length+4,a,b,c,d,e,f]) ?_ ?_ ⟨[],[],[],[],_,_,_,_,_,_,u,⟨(λ_ z=>nomatch z),.nil,(λ_ z=>nomatch z),(λ_ z=>nomatch z),(λ_ z=>nomatch z),(λ_ z=>nomatch z),t6 _,t6 _,t6 _,t6 _⟩,rfl⟩;rintro S n ⟨s,m,l,j,a,b,c,d,e,f,g,G,rfl⟩;rw[t7]at G;have dl:=G.dl;refine⟨pV g.pre v,?_⟩;simp only[rD];walk_at"dl";have tl:=aC N;have Z:(n.set I<|.tb (AA1 "_law_log") a9)[M.length+4]?=a7 (.lst s):=ap (by lia) g.deeds;have hS:∀x∈s.map stD,St x:=λx hx=>by obtain⟨d,o,rfl⟩:=y4.mp hx;exact(G.dk d o).st
 refine⟨I,s,stD,bc g.pre N,.inr ⟨_,rfl,.inl Z⟩,λd o=>?_,(vt hS<|by rw[t7];lia).g,λys Q hr=>?_⟩;obtain⟨t,z,k,aj,x,ds,rfl,_⟩:=G.dk d o;walk_at"dl";exact .inl ⟨rfl,rfl⟩;have ml:n.length=(n.set I<|.tb (AA1 "_law_log") a9).length:=(G9 ..).symm;refine⟨ys,by rw[ml];exact bi,?_⟩;have q:∀d∈ys,aW ps r d:=λd o=>G.dk d<|Q.mem_iff.mp o;have nd:(ys.map stD).Nodup:=(Q.map _).nodup_iff.mpr G.nd;have ls:LogS ps r ys:=by
  refine⟨q,?_,by rw[Q.length_eq];lia⟩;have n2:ys.Pairwise λa b=>stD a≠stD b:=List.pairwise_map.mp<|LG.mp nd;refine(Mr.mp<|hr.and n2).imp λ{a b} ⟨ha,hb,q1,q2⟩=>?_;have A:=(q a ha).st;have U:=(q b hb).st;have O:z5 p7 (stD a)=a9:=by obtain⟨t,z,k,e⟩:=A;rw[e];rfl
  have P:z5 p7 (stD b)=a9:=by obtain⟨t,z,k,e⟩:=U;rw[e];rfl
  rw[jq P O<|U.cm A]at q1;have q3:=of_decide_eq_false q1;refine JE λq4=>q2 ?_;exact Dl (M:=[]) O P (A.cm U)<|List.le_antisymm (List.not_lt.mp q3)<|List.not_lt.mp q4
 obtain⟨L,hL⟩:=g.pre;have X:n.set I (.tb (AA1 "_law_log") a9)=M.set I (.tb (AA1 "_law_log") a9)++L:=by rw[<-hL,List.set_append_left _ _ tl]
 rw[X];refine bt.chg (IG.set .refl .nil) (h ys ls) (.tup<|aW.bels q) ?_;rw[Hs];exact G5 _ _;rintro i y S n Q ⟨s,m,l,j,a,b,c,d,e,f,g,G,rfl⟩ K hK;rw[C2]at Q;obtain⟨B,hc,rfl⟩:=J1.mp Q;have hi:=(w9.mp hc).1;refine⟨pV g.pre v,?_⟩;simp only[ar,List.set_cons_zero,List.set_cons_succ];exact zo g G J (by lia) λW s' l' V B' a b c d y Y T=>z9.now<|hK _ _ ⟨W,s',l',V,_,_,_,_,_,_,Y,T,rfl⟩
theorem Fp(T:Tops P w K mg base):t9 P w K mg base 8 "_law_log" BX sJ:=t9.byL (N:=["_law_cells","_law_house_here","_law_hands_here","_law_last","_law_done","_law_says","_law_deeds","_law_cell","_law_held","_law_hand","_law_way","_law_time","_law_act_here"]) T.b T.f_log (by walk_at"sc") Cs (by have:=T.bm;have:=nO T;have:=cO T;have:=Fs T;have:=zb T;walk_at"dvl") Ed
def mC:x5:=λds M R=>∃(ps:List (c7×Int)) (a:List (c7×List c7)) (g:List D),ds=[.tup g]/\(∀d∈g,aW ps a d)/\g.length<=1000/\∀n B,M <+: B->B[n]?=a7 (.dkt<|dI g)->R (.ref n) B
theorem zv:cI mC wa:=by rintro ds M R ⟨ps,a,g,rfl,_⟩;rfl
def qV:p5:=bp<|ab 1
def qW:p5:=az (jU (cE<|ab 0) (jR 4<|bh (ar 2)<|bh (ar 3)<|bh (ar 4)<|bh (ar 5) jS)<|A2 (ax<|p6 C0 (p6 u5 (ab 5)<|dC<|.int 0)<|dC<|.str "say") (qv (ab 1) (gh<|aa (ab 2)<|aa (ab 3) ag)<|ab 5) aY)<|qV
def AB:p5:=az (bb (qw) 1)<|qW
theorem Bi:A3 mC 6 AB:=by
 rintro ds M R ⟨ps,r,log,rfl,o,q,h⟩;simp only[AB,qW];walk_at"dl";intro _;refine aU (λi S g=>∃a b c d,g=M++[.dkt<|dI<|log.take i]/\S=[a7<|.tup log,a7<|.ref M.length,a,b,c,d]) ?_ ?_ ⟨_,_,_,_,rfl,rfl⟩;rintro S g ⟨a,b,c,d,rfl,rfl⟩;rw[Jm];refine⟨trivial,?_⟩;simp only[qV];walk_at"dl";exact .inl<|h _ _ gH ae;rintro i y S g Q ⟨a,b,c,d,rfl,rfl⟩ G f;have p:=Hu Q;have hi:=(w9.mp Q).1;have n:log.take (i+1)=log.take i++[y]:=by rw[JV,Q];rfl
 rw[n,tu]at f;have l:=yH<|kinds (log.take i)<|AA1 "say";have v:=dU (log:=log.take i) (k:=AA1 "say");rw[HU]at v;rw[show eW (kinds (log.take i)<|AA1 "say")=dI (log.take i)from rfl]at l;generalize dI (log.take i)=s at f l;obtain⟨t,z,k,m,x,ds,rfl,_⟩:=o y p;refine⟨trivial,?_⟩;walk_at"dl";refine⟨trivial,⟨aw,aw⟩,?_⟩;rw[bf];have j:bN (.tup [.int t,.tup [.str z,.int k],.int m,.tup<|.str x::ds])=x:=rfl;rw[j]at f;by_cases e:x=AA1 "say";rw[beq_iff_eq.mpr e];rw[m9 e]at f;refine bP ⟨av (by lia),_,ae,rfl,aJ (by lia),?_⟩;rw[iU];exact z9.now<|f _ _ ⟨_,_,_,_,rfl,rfl⟩;rw[beq_eq_false_iff_ne.mpr e];rw[n5 e]at f;exact bz<|z9.now<|f _ _ ⟨_,_,_,_,rfl,rfl⟩
theorem Cf(T:Tops P w K mg base):t9 P w K mg base 1 "_law_said" wa mC:=t9.byD (N:=["_law_log_here","_law_found","_law_time","_law_hand","_law_number","_law_act_here"]) T.b T.f_said (by walk_at"sc") zv (by walk_at"dv") Bi
def gx:x5:=λds M R=>∃(ps:List (c7×Int)) (a:List (c7×List c7)) (g:List D) (n:Nat) (e:D),ds=[aF ps a,.ref n,stD e]/\HouseF ps a/\(∀d∈g,aW ps a d)/\F0 g/\M[n]?=a7 (.dkt<|dI g)/\e∈kinds g (AA1 "say")/\∀b:Bool,(b=a9↔z8 a (kinds g<|AA1 "say") e)->R (.bl b) M
theorem tO:cI gx lQ:=by rintro ds M R ⟨ps,a,g,n,e,rfl,_⟩;rfl
noncomputable def jL(r:c7×List c7):c7×D:=(r.1,.tup<|r.2.map .str)
theorem Af(ps:List (c7×D))(h:(ps.map (·.1)).Nodup):fj ps=ps:=by revert h;refine cg (P:=λps=>(ps.map (·.1)).Nodup->fj ps=ps) (λ_=>rfl) (λps p i h=>?_) ps;rw[C4]at h;have h':=Kt.mp h;rw[kX,i h'.1];unfold vP;rw[n5];intro z;obtain⟨q,a,e⟩:=KW.mp z;exact h'.2.2 _ (HL a) p.1 (by simp)<|oT_ e
theorem tw{rs:List (c7×List c7)}(h:(rs.map (·.1)).Nodup):fj (rs.map jL)=rs.map jL:=Af _<|by rw[G2];exact h
theorem nG:∀{rs:List (c7×List c7)},r∈rs.map (·.1)->Aw (rs.map jL) r=a7 (.tup<|(lY rs r).map .str)
 |p::rs,h=>by rw[nU];unfold Aw;rw[A5,Iq];by_cases e:p.1=r;rw[m9 e,show decide ((jL p).1=r)=a9 from dT_ e];rfl;rw[n5 e,show decide ((jL p).1=r)=c5 from dF_ e];rw[A5,u8]at h;exact nG<|h.resolve_left<|v5 e
theorem vJ{rs:List (c7×List c7)}:rs.map ij=(rs.map jL).map λp=>.tup [.str p.1,p.2]:=by rw[G2];rfl
noncomputable def GH(l:List D)(k:D):Nat:=(l.filter λx=>decide<|enc p7 (stD x)<enc p7 k).length
theorem GG(a:x∈l)(h:enc p7 (stD x)<enc p7 k):GH l (stD x)<GH l k:=xz (p:=λy=>decide<|enc p7 (stD y)<enc p7 (stD x)) (q:=λy=>decide<|enc p7 (stD y)<enc p7 k) (x:=x) (λy Q=>dT_<|Kk (oT_ Q) h) (dT_ h) (dF_<|E7 _) a
def MT(rs:List (c7×List c7))(l:List D)(m:c7)(u:D):Prop:=u=.non\/∃e,stD e=u/\z8 rs l e/\aX e=m
theorem lt_st(f:St a)(d:St b):(t4 M p7 a=a9/\t4 M p7 b=a9/\dE M p7 a b=a9)/\z7 M p7 a b=decide (enc p7 a<enc p7 b):=by
 have J:z5 p7 a=a9:=by obtain⟨t,z,k,e⟩:=f;rw[e];rfl
 have c:z5 p7 b=a9:=by obtain⟨t,z,k,e⟩:=d;rw[e];rfl
 exact⟨⟨f.ok,d.ok,f.cm d⟩,jq J c<|f.cm d⟩
def kh:p5:=bp<|dC<|.bl a9
def gD:p5:=bb (ab 5) 2
def ki:p5:=az (A2 (yf (ax<|p6 iY (ab 5)<|dC .non)<|ye<|ax<|p6 EI (ab 5)<|ab 2) (bp<|dC<|.bl c5) aY)<|gD
def kj:p5:=az (bb (p6 u5 (jD (ab 1)<|ab 2)<|dC<|.int 2) 5)<|ki
def kn:p5:=az (kY (ax<|p6 iY (ab 2)<|dC .non)<|az (A2 (Jh (ax<|p6 lI (ab 2)<|ab 1)<|Jh (ax<|p6 J4 (p6 u5 (jD (ab 1)<|ab 2)<|dC<|.int 1)<|ab 3)<|ax<|p6 kL (p6 u5 (p6 u5 (ab 2)<|dC<|.int 1)<|dC<|.int 0)<|ab 4) (bp<|dC<|.bl c5) aY)<|kj)<|kh
def ko:p5:=az (bb (An (s9 rV<|aa (p6 u5 (ab 0)<|dC<|.int 1) ag)<|ab 3) 4)<|kn
def qR:p5:=az (bb (p6 u5 (jD (ab 1)<|ab 2)<|dC<|.int 1) 3)<|ko
theorem uA:A3 gx 6 qR:=by
 rintro ds M R ⟨ps,b,g,n,e,rfl,hf,Y,hr,hn,K,h⟩;have P:F0 (kinds g<|AA1 "say"):=Jo _ hr;have A:∀d∈kinds g (AA1 "say"),aW ps b d/\bN d=AA1 "say":=λd q=>⟨Y d (ay q).1,(ay q).2⟩
 have U:∀d∈kinds g (AA1 "say"),aR (dI g) (stD d)=a7 (qD d):=lH P;have se:∀k a,aR (dI g) k=a7 a->∃d∈kinds g (AA1 "say"),k=stD d/\a=qD d:=λk a q=>by obtain⟨d,Y,e⟩:=By _ _<|bX q;cases e;exact⟨d,Y,rfl,rfl⟩
 generalize kinds g (AA1 "say")=l at P A K h U se;generalize dI g=T at hn U se;obtain⟨E,ke⟩:=A e K;have ai:aX e∈b.map (·.1):=by obtain⟨t,z,k,al,r,u,s,rfl,_,_,hr,_⟩:=dH E ke;exact hr
 obtain⟨ks,Z⟩:=E.st.tup;have F:=E.st.key;have e0:=U e K;have X:∃u s,qD e=.tup [.str<|AA1 "say",.str<|aX e,u,s]:=by obtain⟨t,z,k,al,r,u,s,rfl,_⟩:=dH E ke;exact⟨u,.str s,rfl⟩
 obtain⟨u0,s0,X⟩:=X;rw[X,Z]at e0;rw[Z]at F;simp only[qR,aF];rw[Z];walk_at"dl";refine⟨T,_,hn,F,e0,?_⟩;walk_at"dl";simp only[ko];walk_at"dl";refine⟨b.map jL,vJ,by rw[t7];have:=hf.rl.2;lia,?_⟩;rw[tw hf.rnd];refine⟨_,_,ae,nG ai,?_⟩;have i:=ad (a:=.dct<|b.map jL) hn;have pB:M <+: M++[MO.dct<|b.map jL]:=gH;generalize M++[MO.dct<|b.map jL]=B at i pB;simp only[kn];refine⟨λm S I=>∃(u:D) (y:Option D),I=B/\(u=.non\/St u)/\(∀x∈l,stD x=u->GH l (stD x)<m)/\(z8 b l e↔MT b l (aX e) u)/\S=[a7<|aF ps b,a7<|.ref n,a7 u,a7<|.str<|aX e,a7<|.tup<|(lY b<|aX e).map .str,y],⟨GH l (stD e)+1,stD e,a8,rfl,.inr E.st,λx _ q=>by rw[q];lia,⟨λs=>.inr ⟨e,rfl,s,rfl⟩,?_⟩,by rw[Z];rfl⟩,?_⟩;rintro(z|⟨x,c,j,_⟩);rw[Z]at z;cases z;rw[<-P.one x j.mem e K c];exact j;rintro m S I ⟨u,y,rfl,N,hm,hi,rfl⟩;have O:¬MT b l (aX e) u->bt M R (.bl c5) I:=λq=>bt.bl (h c5 ⟨λz=>(by cases z),λs=>n6 (hi.mp s) q⟩) pB;rcases N with rfl|N;walk_at"dl";simp only[kh];walk_at"dl";exact bt.bl (h a9 ⟨λ_=>hi.mpr<|.inl rfl,λ_=>rfl⟩) pB
 ·have aj:=N
  obtain⟨t',J,H,rfl⟩:=N;walk_at"dl";refine⟨T,i,rfl,?_⟩;cases hg:aR T (.tup [.int t',.tup [.str J,.int H]]) with
  |none=>refine bP<|O ?_;rintro(z|⟨x,c,j,_⟩);cases z;have:=U x j.mem;rw[c,hg]at this;cases this
  |some a =>
   obtain⟨x,C,c,rfl⟩:=se _ _ hg;have only:∀y,stD y=.tup [.int t',.tup [.str J,.int H]]->z8 b l y->y=x:=λy q s=>P.one y s.mem x C<|q.trans c;obtain⟨t2,z2,k2,w,G,L,s2,ex,_,_,_,f⟩:=dH (A x C).1 (A x C).2;subst ex;simp only[stD,D.tup.injEq,KU,D.int.injEq,D.str.injEq,and_true]at c;obtain⟨rfl,rfl,rfl⟩:=c;have V:aR T (.tup [.int t',.tup [.str J,.int H]])=a7 (.tup [.str<|AA1 "say",.str G,L,.str s2]):=hg;refine bz ⟨T,_,i,rfl,V,?_⟩;walk_at"dl";refine⟨⟨aw,aw⟩,?_⟩;rw[bf];by_cases v:G=aX e
   ·rw[beq_iff_eq.mpr v]
    refine bz ⟨⟨aw,lF⟩,?_⟩;rw[mi];by_cases Q:J∈lY b (aX e)
    ·rw[dT_ Q]
     refine bz ?_;have mx:dA (.tup [.int t',.tup [.str J,.int H],.int w,.tup [.str<|AA1 "say",.str G,L,.str s2]])∈lY b (aX<|.tup [.int t',.tup [.str J,.int H],.int w,.tup [.str<|AA1 "say",.str G,L,.str s2]]):=by show J∈lY b G;rw[v];exact Q
     have next:(L=.non\/enc p7 L<enc p7 (.tup [.int t',.tup [.str J,.int H]]))->∃m',m' < m/\∃(u:D) (y:Option D),True/\(u=.non\/St u)/\(∀x∈l,stD x=u->GH l (stD x)<m')/\(z8 b l e↔MT b l (aX e) u)/\[a7<|aF ps b,a7<|.ref n,a7 L,a7<|.str<|aX e,a7<|.tup<|(lY b<|aX e).map .str,a7 L]=[a7<|aF ps b,a7<|.ref n,a7 u,a7<|.str<|aX e,a7<|.tup<|(lY b<|aX e).map .str,y]:=λlt=>by
      refine⟨_,hm _ C rfl,L,_,trivial,f,λy hy q=>?_,?_,rfl⟩;rcases lt with rfl|lt;obtain⟨_,W⟩:=(A y hy).1.st.tup;rw[W]at q;cases q;refine GG hy ?_;rw[q];exact lt;constructor;intro s;rcases hi.mp s with z|⟨y,c,j,p⟩
      cases z;have ey:=only y c j;rw[ey]at j p;cases j with
      |top _ _ u=>exact .inl u
      |@sub _ e2 _ _ s u o r=>exact .inr ⟨e2,u.symm,s,r.trans p⟩
      rintro(rfl|⟨y,c,j,p⟩);exact hi.mpr<|.inr ⟨_,rfl,.top C mx rfl,v⟩;rcases lt with rfl|lt;obtain⟨_,W⟩:=(A y j.mem).1.st.tup;rw[W]at c;cases c;refine hi.mpr<|.inr ⟨_,rfl,.sub C mx j c.symm ?_<|p.trans v.symm,v⟩;rw[c];exact lt
     simp only[kj];walk_at"dl";refine⟨T,_,i,rfl,V,?_⟩;walk_at"dl";simp only[ki];rcases f with rfl|f
     ·walk_at"dl"
      simp only[gD];walk_at"dl";exact next<|.inl rfl
     ·obtain⟨an,el⟩:=lt_st (M:=I) f aj
      have as:=f;obtain⟨t3,z3,k3,rfl⟩:=f;walk_at"dl";refine⟨an,?_⟩;rw[el];by_cases lt:enc p7 (.tup [.int t3,.tup [.str z3,.int k3]])<enc p7 (.tup [.int t',.tup [.str J,.int H]])
      ·rw[dT_ lt]
       refine bz ?_;simp only[gD];walk_at"dl";exact next<|.inr lt
      rw[dF_ lt];refine bP<|O ?_;rintro(z|⟨y,c,j,p⟩);cases z;rw[only y c j]at j;cases j with
      |top _ _ u=>cases u
      |@sub _ e2 _ _ s u o r=>rw[<-u]at o;exact lt o
    rw[dF_ Q];refine bP<|O ?_;rintro(z|⟨y,c,j,p⟩);cases z;rw[only y c j]at j;have:=j.nm;exact Q<|v ▸ this
   rw[beq_eq_false_iff_ne.mpr v];refine bP<|O ?_;rintro(z|⟨y,c,j,p⟩);cases z;rw[only y c j]at p;exact v p
theorem wj(T:Tops P w K mg base):t9 P w K mg base 1 "_law_stands" lQ gx:=t9.byD (N:=["_law_house_here","_law_said_here","_law_stamp","_law_room","_law_members","_law_under"]) T.b T.f_stands (by walk_at"sc") tO (by walk_at"dv") uA
def mE:x5:=λds M R=>∃(ps:List (c7×Int)) (a:List (c7×List c7)) (g:List D) (l:D),ds=[.tup g,l]/\(∀d∈g,aW ps a d)/\g.length<=1000/\St l/\∀b:Bool,(b=a9↔∃d∈kinds g (AA1 "back"),yc d=l/\dA d=dA l)->R (.bl b) M
theorem zA:cI mE we:=by rintro ds M R ⟨ps,a,g,l,rfl,_⟩;rfl
def rJ:p5:=bp<|dC<|.bl c5
def AF:p5:=az (jU (cE<|ab 0) (jR 4<|bh (ar 2)<|bh (ar 3)<|bh (ar 4)<|bh (ar 5) jS)<|A2 (yf (ax<|p6 C0 (p6 u5 (ab 5)<|dC<|.int 0)<|dC<|.str "back")<|yf (ax<|p6 C0 (p6 u5 (ab 5)<|dC<|.int 1)<|ab 1)<|ax<|p6 C0 (p6 u5 (ab 3)<|dC<|.int 0)<|p6 u5 (p6 u5 (ab 1)<|dC<|.int 1)<|dC<|.int 0) (bp<|dC<|.bl a9) aY)<|rJ
theorem Bm:A3 mE 6 AF:=by
 rintro ds M R ⟨ps,K,g,L,rfl,F,I,j,h⟩;have p:=j;obtain⟨t',J,H,rfl⟩:=j;simp only[AF];walk_at"dl";intro _;refine aU (λi S f=>f=M/\(∀d∈g.take i,¬(bN d=AA1 "back"/\yc d=.tup [.int t',.tup [.str J,.int H]]/\dA d=J))/\∃a b c d,S=[a7<|.tup g,a7<|.tup [.int t',.tup [.str J,.int H]],a,b,c,d]) ?_ ?_ ⟨rfl,(λ_ z=>nomatch z),_,_,_,_,rfl⟩;rintro S f ⟨rfl,o,a,b,c,d,rfl⟩;rw[Jm]at o;refine⟨trivial,?_⟩;simp only[rJ];walk_at"dl";refine .inl<|h c5 ⟨λz=>(by cases z),?_⟩;rintro⟨d,h1,h2,h3⟩;exact n6 ⟨(ay h1).2,h2,h3⟩<|o d (ay h1).1;rintro i y S f Q ⟨rfl,o,a,b,c,d,rfl⟩ G B;have e:=Hu Q;have E:g.take (i+1)=g.take i++[y]:=by rw[JV,Q];rfl
 rw[E]at B;have A:=F y e;have skip:∀{a b c d:Option D},¬(bN y=AA1 "back"/\yc y=.tup [.int t',.tup [.str J,.int H]]/\dA y=J)->G [a7<|.tup g,a7<|.tup [.int t',.tup [.str J,.int H]],a,b,c,d] f:=λq =>
  B _ _ ⟨rfl,λd u=>by rcases B7.mp u with h1|h1;exact o d h1;rw[show d=y by simpa using h1];exact q,_,_,_,_,rfl⟩
 refine⟨trivial,?_⟩;by_cases l:bN y=AA1 "back";obtain⟨t,z,k,v,m,rfl,C⟩:=qA A l;walk_at"dl";refine⟨trivial,⟨aw,aw⟩,?_⟩;rw[bf,show (AA1 "back" == AA1 "back")=a9 from o7 _];refine bP ⟨⟨C.ok,p.ok⟩,?_⟩;rw[show r9 f p7 m _=_ from C.eq (n:=28) p];by_cases r:m=.tup [.int t',.tup [.str J,.int H]];rw[dT_ r];refine bP ⟨⟨aw,aw⟩,?_⟩;rw[bf];by_cases s:z=J;rw[beq_iff_eq.mpr s];exact bP<|.inl<|h a9 ⟨λ_=>⟨_,F7.mpr ⟨e,dT_ l⟩,r,s⟩,λ_=>rfl⟩;rw[beq_eq_false_iff_ne.mpr s];exact bz<|z9.now<|skip λw=>s w.2.2;rw[dF_ r];exact bz<|z9.now<|skip λw=>r w.2.1;obtain⟨t,z,k,v,x,ds,rfl,_⟩:=A;walk_at"dl";refine⟨trivial,⟨aw,aw⟩,?_⟩;rw[bf,show (x==AA1 "back")=c5 from beq_eq_false_iff_ne.mpr l];exact bz<|z9.now<|skip λw=>l w.1
theorem Ch(T:Tops P w K mg base):t9 P w K mg base 1 "_law_gone" we mE:=t9.byD (N:=["_law_log_here","_law_stamp","_law_time","_law_hand","_law_number","_law_act_here"]) T.b T.f_gone (by walk_at"sc") zA (by walk_at"dv") Bm
def mD:x5:=λds M R=>∃(ps:List (c7×Int)) (a:List (c7×List c7)) (g:List D) (n:Nat) (e:D) (p:List D),ds=[.ref n,stD e]/\(∀d∈g,aW ps a d)/\F0 g/\g.length<=60/\M[n]?=a7 (.dkt<|dI g)/\PathE (kinds g<|AA1 "say") e p/\p.length<=60/\R (.ref M.length) (M++[.lst p])
theorem zx:cI mD wc:=by rintro ds M R ⟨ps,a,g,n,e,p,rfl,_⟩;rfl
theorem PathE.inv(h:PathE l d (p++[stD d])):(dD d=.non/\p=[])\/∃e,dD d=stD e/\PathE l e p:=by
 generalize e:p++[stD d]=q at h;cases h with
 |top _ u=>exact .inl ⟨u,by cases p with|nil=>rfl|cons a p=>simp at e⟩
 |sub _ s u=>exact .inr ⟨_,u,by rw[(List.append_inj' e rfl).1];exact s⟩
def rh:p5:=bp<|ab 2
def rj:p5:=az (kY (ax<|p6 iY (p6 u5 (jD (ab 0)<|p6 u5 (ab 2)<|dC<|.int 0)<|dC<|.int 2)<|dC .non)<|bb (p6 ba (iq<|aa (p6 u5 (jD (ab 0)<|p6 u5 (ab 2)<|dC<|.int 0)<|dC<|.int 2) ag)<|ab 2) 2)<|rh
def AD:p5:=az (bb (iq<|aa (ab 1) ag) 2)<|rj
theorem Bk:A3 mD 3 AD:=by
 rintro ds M R ⟨ps,Y,g,n,e,p,rfl,H,O,hl,I,A,pl,h⟩;have P:F0 (kinds g<|AA1 "say"):=Jo _ O;have w:∀d∈kinds g (AA1 "say"),aW ps Y d/\bN d=AA1 "say":=λd q=>⟨H d (ay q).1,(ay q).2⟩
 have U:∀d∈kinds g (AA1 "say"),aR (dI g) (stD d)=a7 (qD d):=lH P;have N:∀s∈p,St s:=A.all λd H=>(w d H).1.st;generalize kinds g (AA1 "say")=l at P w U A;generalize dI g=T at I U;simp only[AD,rj];walk_at"dl";refine⟨av (by decide),λm S B=>∃(f c:List D) (a:D) (q:Nat),M <+: B/\M.length<=q/\B[q]?=a7 (.lst<|stD a::c)/\p=f++stD a::c/\PathE l a (f++[stD a])/\S=[a7<|.ref n,a7<|stD e,a7<|.ref q]/\m=f.length,?_,?_⟩;obtain⟨x,rfl⟩:=A.last;exact⟨_,x,[],e,M.length,gH,t6 _,ae,rfl,A,rfl,rfl⟩;rintro m S B ⟨f,c,a,q,pM,X,v,o,b,rfl,rfl⟩;obtain⟨E,Q⟩:=w a b.mem;obtain⟨ks,Z⟩:=E.st.tup;have y:=E.st.key;have C:=U a b.mem;have F:∃s r,qD a=.tup [.str<|AA1 "say",.str r,dD a,s]:=by obtain⟨t,z,k,W,r,u,s,rfl,_⟩:=dH E Q;exact⟨.str s,r,rfl⟩
 obtain⟨s0,r0,F⟩:=F;rw[F,Z]at C;rw[Z]at y;have K:(stD a::c).length<=60:=by have:=o6 Hy o;rw[v4]at this;lia
 walk_at"dl";refine⟨_,.inl v,?_⟩;rw[show atI (stD a::c) 0=a7 (stD a)from aA (j:=0) rfl,Z];refine⟨T,_,bc pM I,y,C,?_⟩;walk_at"dl";rcases b.inv with⟨u0,rfl⟩|⟨J,L,i⟩
 rw[u0];walk_at"dl";simp only[rh];walk_at"dl";rw[IN]at o;subst o;exact bt.chgL .refl h X v pM<|Bels.of λs hs=>(N s hs).bel;rw[L];obtain⟨V,G⟩:=(w J i.mem).1.st.tup;rw[G];walk_at"dl";refine⟨_,.inl v,?_⟩;rw[show atI (stD a::c) 0=a7 (stD a)from aA (j:=0) rfl,Z];refine⟨T,_,bc pM I,y,C,?_⟩;walk_at"dl";obtain⟨x,rfl⟩:=i.last;refine⟨av (by decide),_,_,ae,ad v,av (by simp only[A0,G4]at K ⊢;lia),x.length,by simp,x,stD a::c,J,_,pM.trans<|gH.trans gH,?_,?_,by rw[o];simp,i,rfl,rfl⟩;have:=pM.length_le;simp only[v4];lia;rw[L];exact ae
theorem Cg(T:Tops P w K mg base):t9 P w K mg base 1 "_law_path" wc mD:=t9.byD (N:=["_law_said_here","_law_stamp","_law_path_here"]) T.b T.f_path (by walk_at"sc") zx (by walk_at"dv") Bk
theorem uc{α:Type}{p:α->Bool}{x:α}:[x].filter p=if p x=a9 then[x]else[]:=by rw[JS];rfl
theorem uk(g:∀d∈l,dD d=.non\/St (dD d))(S:∀d∈l,St<|stD d)(h:F0 l):aK rs l=(l.filter λd=>@decide (z8 rs l d)<|E9 _).map λd=>(stD d,d):=by
 revert h g S;refine cg (P:=λl=>(∀d∈l,dD d=.non\/St (dD d))->(∀d∈l,St<|stD d)->F0 l->aK rs l=(l.filter λd=>@decide (z8 rs l d)<|E9 _).map λd=>(stD d,d)) (λ_ _ _=>rfl) (λl x s g S h=>?_) l;obtain⟨h1,_,q⟩:=JZ.mp h;have c:∀y∈l,enc p7 (stD y)<enc p7 (stD x):=λy Q=>q y Q x (by simp);have b:=s (λd a=>g d<|E3 _ a) (λd a=>S d<|E3 _ a) h1;have i:=oN (rs:=rs) g S h x (by simp);have n:stD x∉(aK rs l).map (·.1):=λz=>by obtain⟨p,r,e⟩:=y4.mp z;obtain⟨t,m⟩:=(eL (rs:=rs) l).en p r;have:=c p.2 m;rw[<-t,e]at this;exact E7 _ this
 have k:(l.filter λd=>@decide (z8 rs (l++[x]) d)<|E9 _)=l.filter λd=>@decide (z8 rs l d) (E9 _):=List.filter_congr λd a=>(@decide_eq_decide _ _ (E9 _)<|E9 _).mpr ⟨λz=>z.less c a,z8.more⟩;rw[List.filter_append,C4,k,<-b,uc];rw[cY]at i ⊢;unfold sX at i ⊢;split at i;rename_i e;rw[eK]at i;rw[m9 e,rW n,@decide_eq_true _ (E9 _)<|i.mp rfl];rfl;rename_i e;have o:aR (aK rs l) (stD x)=a8:=by
  cases j:aR (aK rs l) (stD x) with
  |none=>rfl
  |some v=>exact n6 (HL (f:=(·.1))<|bX j) n
 rw[o]at i;rw[n5 e,@decide_eq_false _ (E9 _) λz=>by cases i.mpr z];exact(Ir _).symm
section
variable{ps:List (c7×Int)}{rs:List (c7×List c7)}{log:List D}
theorem LogS.es(g:LogS ps rs log):au rs log=((kinds log<|AA1 "say").filter λd=>@decide (z8 rs (kinds log<|AA1 "say") d)<|E9 _).map λd=>(stD d,d):=by
 have h:∀d∈kinds log (AA1 "say"),aW ps rs d/\bN d=AA1 "say":=λd q=>⟨g.dk d (ay q).1,(ay q).2⟩
 refine uk (λd q=>?_) (λd q=>(h d q).1.st)<|Jo _ g.up;obtain⟨t,z,k,m,r,u,s,rfl,_,_,_,a⟩:=dH (h d q).1 (h d q).2;exact a
theorem LogS.mem(g:LogS ps rs log):e∈(au rs log).map (·.2)↔z8 rs (kinds log<|AA1 "say") e:=by rw[g.es,G2];constructor;intro h;obtain⟨d,a,rfl⟩:=y4.mp h;exact @of_decide_eq_true _ (E9 _) (F7.mp a).2;intro h;exact y4.mpr ⟨e,F7.mpr ⟨h.mem,@decide_eq_true _ (E9 _) h⟩,rfl⟩
theorem LogS.get(g:LogS ps rs log):aR (au rs log) k=a7 e↔k=stD e/\z8 rs (kinds log<|AA1 "say") e:=by constructor;intro h;exact⟨(xu cF h).1,g.mem.mp (HL (f:=(·.2))<|bX h)⟩;rintro⟨rfl,h⟩;obtain⟨q,a,t⟩:=y4.mp<|g.mem.mpr h;obtain⟨h1,_⟩:=cF.en q a;have:=wD cF.nd a;rw[h1,t]at this;exact this
theorem Co(h:aW ps rs d):dA (stD d)=dA d:=by obtain⟨t,z,k,m,x,ds,rfl,_⟩:=h;rfl
theorem LogS.gone(g:LogS ps rs log)(c:d∈kinds log (AA1 "say"))(hs:z8 rs (kinds log<|AA1 "say") d):bK (au rs log) log (stD d)↔∃b∈kinds log (AA1 "back"),yc b=stD d/\dA b=dA (stD d):=by
 have h:∀d∈kinds log (AA1 "say"),aW ps rs d/\bN d=AA1 "say":=λd q=>⟨g.dk d (ay q).1,(ay q).2⟩
 have f:aR (au rs log) (stD d)=a7 d:=(oN (rs:=rs) (λd q=>by obtain⟨t,z,k,m,r,u,s,rfl,_,_,_,i⟩:=dH (h d q).1 (h d q).2;exact i) (λd q=>(h d q).1.st) (Jo _ g.up) d c).mpr hs;have w:∀b,yc b=stD d->IC (au rs log) b=decide (dA b=dA d):=λb e=>by unfold IC;rw[e,f]
 rw[Co (h d c).1];refine⟨λ⟨b,h1,h2,a⟩=>⟨b,h1,a,oT_<|w b a ▸ h2⟩,?_⟩;rintro⟨b,h1,h2,a⟩;exact⟨b,h1,(w b h2).trans<|dT_ a,h2⟩
end
theorem vI(h:F0 l):(eW l).map (·.1)=l.map stD:=by
 revert h;refine cg (P:=λl=>F0 l->(eW l).map (·.1)=l.map stD) (λ_=>rfl) (λl x b h=>?_) l;obtain⟨h1,_,a⟩:=JZ.mp h;have i:=b h1;have g:stD x∉(eW l).map (·.1):=λz=>by rw[i]at z;obtain⟨y,Q,e⟩:=y4.mp z;have:=a y Q x (by simp);rw[e]at this;exact E7 _ this
 rw[cB,rW g,C4,C4,i];rfl
noncomputable def Bo(rs:List (c7×List c7))(log:List D)(s:D):D:=dD<|(aR (au rs log) s).getD .non
noncomputable def jH(p:List D):D:=.tup [.int<|(p.length:Int)-1,p.getLastD .non]
structure DueL(rs:List (c7×List c7))(log:List D)(r:c7)(Ps:List (List D)):Prop where
 len:Ps.length<=60
 up:Ps.Pairwise λp q=>enc p7 (.tup p)<enc p7 (.tup q)
 mem:∀p,p∈Ps↔∃e,z8 rs (kinds log<|AA1 "say") e/\aX e=r/\¬bK (au rs log) log (stD e)/\PathE (kinds log<|AA1 "say") e p
def sK:x5:=λds M R=>∃(ps:List (c7×Int)) (a:List (c7×List c7)) (g:List D) (r:c7),ds=[aF ps a,.tup g,.str r]/\HouseF ps a/\LogS ps a g/\∀s,DueL a g r s->R (.ref M.length) (M++[.lst<|s.map jH])
theorem Cu:cI sK BZ:=by rintro ds M R ⟨ps,a,g,r,rfl,_⟩;rfl
def uY:p5:=bp<|H9 1 [] (cE<|s9 fM<|aa (ab 4) ag) (ar 0) ux<|gh<|aa (p6 DV (s9 jM<|aa (ab 0) ag)<|dC<|.int 1)<|aa (p6 u5 (ab 0)<|LP EH<|dC<|.int 1) ag
def uZ:p5:=az (jU (sE<|ab 3) (ar 5)<|A2 (yf (ax<|p6 C0 (p6 u5 (jD (ab 3)<|ab 5)<|dC<|.int 1)<|ab 2)<|yf (ax<|s9 gx<|aa (ab 0)<|aa (ab 3)<|aa (ab 5) ag)<|ye<|ax<|s9 mE<|aa (ab 1)<|aa (ab 5) ag) (fu<|Ij bE (ab 4)<|aa (s9 mD<|aa (ab 3)<|aa (ab 5) ag) ag) aY)<|uY
def vc:p5:=az (bb (iq ag) 4)<|uZ
def Ep:p5:=az (bb (s9 mC<|aa (ab 1) ag) 3)<|vc
theorem z8.plen(i:F0 l)(S:∀d∈l,stD d≠.non)(h:z8 rs l d):∀{p l1 l2:List D},PathE l d p->l=l1++d::l2->p.length<=l1.length+1:=by
 induction h with
 |top h _ u=>intro p l1 l2 A _;rw[A.uni i S<|.top h u];simp
 |@sub d e h m s u o r j =>
  intro p l1 l2 A a;obtain⟨k,b⟩:=s.path;rw[A.uni i S<|.sub h b u];have f:e∈l1:=by have c:=s.mem;rw[a]at c i;rcases B7.mp c with q|q;exact q;have g:=(JZ.mp i).2.1;rcases u8.mp q with rfl|q;exact n6 o<|E7 _;exact n6 (Kk o<|(Mi.mp g).1 e q)<|E7 _
  obtain⟨V,W,rfl⟩:=List.append_of_mem f;have:=j b (a.trans (by simp):l=V++e::(W++d::l2));simp only[v4,A0,G4]at this ⊢;lia
theorem st_cm(f:St a)(d:St b):dE M 29 a b=a9:=by obtain⟨t,z,k,rfl⟩:=f;obtain⟨t',J,H,rfl⟩:=d;show (if r9 M 28 (.int t) (.int t')=a9 then(if r9 M 28 (.tup [.str z,.int k]) (.tup [.str J,.int H])=a9 then a9 else dE M 28 (.tup [.str z,.int k]) (.tup [.str J,.int H]))else a9)=a9;split;split;rfl;show (if r9 M 27 (.str z) (.str J)=a9 then(if r9 M 27 (.int k) (.int H)=a9 then a9 else a9)else a9)=a9;split<;>(try split)<;>rfl;rfl
theorem vz:∀{p q:List D},(∀s∈p,St s)->(∀s∈q,St s)->dE M p7 (.tup p) (.tup q)=a9
 | [],_,_,_=>by rfl
 |_::_,[],_,_=>by rfl
 |x::p,y::q,hp,hq=>by show (if r9 M 29 x y=a9 then xL (r9 M 29) (dE M 29) p q else dE M 29 x y)=a9;split;exact vz (λs h=>hp s<|w6 _ h)<|λs h=>hq s<|w6 _ h;exact st_cm (hp x<|by simp)<|hq y<|by simp
theorem vA(h:∀s∈p,St s):z5 p7 (.tup p)=a9:=by show p.all (z5 29)=a9;rw[D9];intro s hs;obtain⟨t,z,k,rfl⟩:=h s hs;rfl
noncomputable def yb(M:p8)(x:D):List D:=match IV M x with
 |.tup p=>p
 |_=>[]
theorem lL(h:M[n]?=a7 (.lst p)):IV M (.ref n)=.tup p/\yb M (.ref n)=p:=by
 have e:IV M (.ref n)=.tup p:=by show (match M[n]? with|some a=>D.tup a.items|none=>D.non)=_;rw[h];rfl
 exact⟨e,by unfold yb;rw[e]⟩
theorem iW:jH (p++[x])=.tup [.int<|((p++[x]).length:Int)-1,x]:=by unfold jH;rw[List.getLastD_eq_getLast?,List.getLast?_append];rfl
theorem yJ(h:St x):A4 k (jH<|p++[x]):=by rw[iW];exact .tup<|.cons (.int _)<|.cons h.bel .nil
theorem sH:atI (p++[x]) (-1)=a7 x:=by
 have e:Ii (p++[x]).length (-1)=a7 p.length:=by unfold Ii;rw[v4,F9];split;lia;split;congr 1;lia;lia
 unfold atI;rw[e];simp
theorem F0.not_take(h:F0 l)(a:l[i]?=a7 e):e∉l.take i:=λq=>by
 obtain⟨hi,t⟩:=w9.mp a;have m:l=l.take i++e::l.drop (i+1):=by rw[<-t,List.getElem_cons_drop,Nb]
 rw[m]at h;exact E7 _<|(JZ.mp h).2.2 e q e<|by simp
theorem Ef:A3 sK 6 Ep:=by
 rintro ds M R ⟨ps,A,l,r,rfl,hf,E,h⟩;have ai:=E.len;have U:F0 (kinds l<|AA1 "say"):=Jo _ E.up;have hk:∀d∈kinds l (AA1 "say"),aW ps A d/\bN d=AA1 "say":=λd q=>⟨E.dk d (ay q).1,(ay q).2⟩
 have O:∀d∈kinds l (AA1 "say"),St (stD d):=λd q=>(hk d q).1.st;have V:∀d∈kinds l (AA1 "say"),stD d≠.non:=λd q e=>by obtain⟨ks,Z⟩:=(O d q).tup;rw[e]at Z;cases Z
 have sg:∀d∈kinds l (AA1 "say"),aR (dI l) (stD d)=a7 (qD d):=lH U;have sk:(dI l).map (·.1)=(kinds l<|AA1 "say").map stD:=vI U;have ll:(kinds l<|AA1 "say").length<=60:=F6 (LB _ _) ai;simp only[Ep];walk_at"dl";refine⟨ps,A,l,rfl,E.dk,by lia,λn B pB hB=>?_⟩;simp only[vc];walk_at"dl";simp only[uZ];walk_at"dl";refine⟨v9 _,_,ad hB,λ_=>?_⟩;rw[sk];have nB:=aC hB;refine aU (λi S j=>∃(o:List (Nat×List D)) (a:Option D),B <+: j/\j[B.length]?=a7 (.lst<|o.map λz=>.ref z.1)/\o.length<=i/\(∀z∈o,B.length<z.1/\j[z.1]?=a7 (.lst z.2))/\(∀p,p∈o.map (·.2)↔∃e∈(kinds l<|AA1 "say").take i,z8 A (kinds l<|AA1 "say") e/\aX e=r/\¬bK (au A l) l (stD e)/\PathE (kinds l<|AA1 "say") e p)/\(o.map (·.2)).Nodup/\S=[a7<|aF ps A,a7<|.tup l,a7<|.str r,a7<|.ref n,a7<|.ref B.length,a]) ?_ ?_ ⟨[],_,gH,ae,t6 _,(λ_ z=>nomatch z),λp=>⟨(λz=>nomatch z),λ⟨_,z,_⟩=>by rw[List.take_zero]at z;cases z⟩,.nil,rfl⟩;rintro S j ⟨o,a,pM,N,zl,T,I,nd,rfl⟩;refine⟨bc pM hB,?_⟩;simp only[uY];walk_at"dl";rw[t7]at zl I;rw[Jm]at I;have zp:∀z∈o,∀s∈z.2,St s:=λz q=>by obtain⟨e,_,_,_,_,F⟩:=(I z.2).mp (HL (f:=(·.2)) q);exact F.all O
 have J:∀x∈o.map (λz=>D.ref z.1),IV j x=.tup (yb j x)/\(∀s∈yb j x,St s)/\∃n,x=.ref n/\n<j.length/\j[n]?=a7 (.lst<|yb j x):=λx q=>by obtain⟨z,X,rfl⟩:=y4.mp q;obtain⟨_,g⟩:=T z X;obtain⟨v,C⟩:=lL g;rw[v,C];exact⟨rfl,zp z X,_,rfl,aC g,g⟩
 have zm:(o.map<|λz=>D.ref z.1).map (yb j)=o.map (·.2):=by rw[G2];exact K2 λz q=>(lL (T z q).2).2
 refine⟨_,.inl N,⟨by rw[t7];lia,λx q=>?_,λx q=>?_,λx q y q'=>?_⟩,λys Q P=>?_⟩;obtain⟨_,_,n,e,_,g⟩:=J x q;exact⟨n,_,e,g,rfl⟩;rw[(J x q).1];exact vA (J x q).2.1;rw[(J x q).1,(J y q').1];exact vz (J x q).2.1 (J y q').2.1;have yx:∀y∈ys,y∈o.map (λz=>D.ref z.1):=λy q=>Q.mem_iff.mp q;have pm:(ys.map<|yb j).Perm (o.map (·.2)):=zm ▸ Q.map _;have du:DueL A l r (ys.map<|yb j):=by
  refine⟨by rw[t7,Q.length_eq,t7];lia,?_,λp=>(pm.mem_iff.trans<|I p).trans ⟨λ⟨e,h⟩=>⟨e,h.2⟩,λ⟨e,h⟩=>⟨e,h.1.mem,h⟩⟩⟩;have aj:=pm.nodup_iff.mpr nd;rw[List.Nodup,Jn]at aj;rw[Jn];refine(Mr.mp<|P.and aj).imp λ{a b} ⟨ha,hb,q,ne⟩=>?_;have xa:=J a<|yx a ha;have xb:=J b<|yx b hb;unfold K9 at q;rw[xa.1,xb.1]at q;rcases yt j p7 _ _ (vA xa.2.1) (vA xb.2.1) (vz xa.2.1 xb.2.1)with⟨z,_⟩|⟨_,_,_,z⟩|⟨_,_,z,_⟩
  injection z with z;exact n6 z ne;exact z.lt;rw[z]at q;cases q
 have yl:ys.length<=60:=by rw[Q.length_eq,t7];lia
 refine⟨_,.inl ae,λ_=>?_⟩;obtain⟨L,rfl⟩:=pB.trans pM;have aD:∀z∈o,∃w e,z.2=w++[stD e]/\St (stD e):=λz q=>by obtain⟨e,_,_,_,_,F⟩:=(I z.2).mp (HL (f:=(·.2)) q);obtain⟨w,v⟩:=F.last;exact⟨w,e,v,O e F.mem⟩
 have yz:∀y∈ys,∃n w e,y=.ref n/\(M++L)[n]?=a7 (.lst<|w++[stD e])/\yb (M++L) y=w++[stD e]/\St (stD e):=λy q=>by obtain⟨z,q',rfl⟩:=y4.mp<|yx y q;obtain⟨w,e,v,C⟩:=aD z q';have g:=(T z q').2;rw[v]at g;exact⟨_,w,e,rfl,g,(lL g).2,C⟩
 refine iD (λaE acc S M2=>M2=M++L++[.lst ys]/\(∃a,S=[a])/\∃xs,ys=xs++aE/\acc=(xs.map<|yb<|M++L).map jH) (λacc S M2 ⟨e,_,xs,v,C⟩=>?_) (λx aE acc S M2 ⟨e,⟨a,eS⟩,xs,v,C⟩ K hK=>?_) _ _ _ _ ⟨rfl,⟨_,rfl⟩,[],rfl,rfl⟩;subst e C;rw[Ir]at v;subst v;refine⟨.inl ae,?_⟩;rw[Hs,Hs];refine bt.lst (h _ du) (by simp) (by simp)<|Bels.of λd m=>?_;obtain⟨p,hp,rfl⟩:=y4.mp m;obtain⟨y,an,rfl⟩:=y4.mp hp;obtain⟨n,w,e,rfl,g,v,C⟩:=yz y an;rw[v];exact yJ C;subst e eS;obtain⟨n,w,e,rfl,g,al,e3⟩:=yz x (v ▸ by simp);refine⟨.inl ae,?_⟩;walk_at"dl";refine⟨_,.inl<|ad g,_,.inl<|ad g,?_⟩;rw[sH];refine⟨av (by decide),av (by rw[C,t7,t7];have:=o6 Hy v;simp only[v4,A0]at this;lia),hK _ _ _ ⟨rfl,⟨_,rfl⟩,xs++[.ref n],by rw[v];simp,?_⟩⟩;rw[C,C4,C4];congr 1;rw[List.map_singleton,List.map_singleton,al,iW]
 ·rintro i y S j Q ⟨o,a,pM,N,zl,T,I,nd,rfl⟩ G hG
  obtain⟨e,he,rfl⟩:∃e,(kinds l<|AA1 "say")[i]?=a7 e/\y=stD e:=by
   rw[C2]at Q;cases q:(kinds l<|AA1 "say")[i]? with
   |none=>rw[q]at Q;cases Q
   |some e=>rw[q]at Q;injection Q with Q;exact⟨e,rfl,Q.symm⟩
  have c:=Hu he;have et:(kinds l<|AA1 "say").take (i+1)=(kinds l<|AA1 "say").take i++[e]:=by rw[JV,he];rfl
  have gn:=bc pM hB;refine⟨gn,?_⟩;walk_at"dl";obtain⟨ks,Z⟩:=(O e c).tup;have Y:=(O e c).key;have e0:=sg e c;have ea:∃u s,qD e=.tup [.str<|AA1 "say",.str<|aX e,u,s]:=by obtain⟨t,z,k,aP,r,u,s,rfl,_⟩:=dH (hk e c).1 (hk e c).2;exact⟨u,.str s,rfl⟩
  obtain⟨u0,s0,ea⟩:=ea;have si:=O e c;have skip:∀{a:Option D},¬(z8 A (kinds l<|AA1 "say") e/\aX e=r/\¬bK (au A l) l (stD e))->G [a7<|aF ps A,a7<|.tup l,a7<|.str r,a7<|.ref n,a7<|.ref B.length,a] j:=λne =>
   hG _ _ ⟨o,_,pM,N,by lia,T,λp=>(I p).trans (by rw[et];exact⟨λ⟨H,h1,h2⟩=>⟨H,E3 _ h1,h2⟩,λ⟨H,h1,h2⟩=>(B7.mp h1).elim (λq=>⟨H,q,h2⟩) λq=>by rw[HK.mp q]at h2;exact n6 ⟨h2.1,h2.2.1,h2.2.2.1⟩ ne⟩),nd,rfl⟩
  rw[Z]at Y e0 ⊢;rw[ea]at e0;refine⟨_,_,gn,Y,e0,?_⟩;walk_at"dl";refine⟨⟨aw,aw⟩,?_⟩;rw[bf,<-Z];by_cases P:aX e=r
  rotate_left
  rw[beq_eq_false_iff_ne.mpr P];exact bz<|z9.now<|skip λq=>P q.2.1;rw[beq_iff_eq.mpr P];refine bP ⟨ps,A,l,n,e,rfl,hf,E.dk,E.up,gn,c,λb hb=>?_⟩;cases b with
  |false=>exact bz<|z9.now<|skip λq=>by cases hb.mpr q.1
  |true =>
   have st:=hb.mp rfl;refine bP ⟨ps,A,l,stD e,rfl,E.dk,by lia,si,λb W=>?_⟩;have gi:=E.gone c st;cases b with
   |true=>exact bz<|z9.now<|skip λq=>q.2.2<|gi.mpr<|W.mp rfl
   |false =>
    obtain⟨p,F⟩:=st.path;obtain⟨l1,l2,el⟩:=List.append_of_mem c;have pl:=st.plen U V F el;have as:p.length<=60:=by have:=o6 Hy el;rw[v4,A0]at this;lia
    refine bP ⟨⟨_,.inl N⟩,ps,A,l,n,e,p,rfl,E.dk,E.up,ai,gn,F,as,_,ad N,av (by rw[t7];have:=(w9.mp he).1;lia),z9.now<|hG _ _ ⟨o++[(j.length,p)],_,bx (pM.trans gH)<|t6 _,?_,by simp;lia,λz q=>?_,λw=>?_,?_,rfl⟩⟩;rw[bn<|ad N,C4];rfl;rcases B7.mp q with q|q;obtain⟨h1,h2⟩:=T z q;exact⟨h1,ap (by lia)<|ad h2⟩;rw[HK.mp q];have:=aC N;exact⟨this,ap (by lia) ae⟩;rw[C4,B7,I,et];constructor;rintro(⟨H,h1,h2⟩|q);exact⟨H,E3 _ h1,h2⟩;obtain rfl:w=p:=by simpa using q
    exact⟨e,by simp,st,P,λz=>(by cases W.mpr (gi.mp z)),F⟩;rintro⟨H,h1,h2⟩;rcases B7.mp h1 with q|q;exact .inl ⟨H,q,h2⟩;rw[HK.mp q]at h2;exact .inr (by rw[h2.2.2.2.uni U V F];simp);rw[C4,Kt];refine⟨nd,by simp,λp1 h1 p2 h2 z=>?_⟩;obtain rfl:p2=p:=by simpa using h2
    obtain⟨H,q1,_,_,_,q2⟩:=(I p1).mp h1;obtain⟨x1,y1⟩:=q2.last;obtain⟨x2,y2⟩:=F.last;have es:stD H=stD e:=by have:=y1.symm.trans<|z.trans y2;have:=(List.append_inj' this rfl).2;injection this
    obtain rfl:=U.one _ q2.mem _ c es;exact F0.not_take U he q1
theorem Fq(T:Tops P w K mg base):t9 P w K mg base 2 "_law_due" BZ sK:=t9.byD (N:=["_law_house_here","_law_log_here","_law_room","_law_said_here","_law_paths","_law_stamp"]) T.b T.f_due (by walk_at"sc") Cu (by have:=Cf T;have:=wj T;have:=Ch T;have:=Cg T;walk_at"dv") Ef
def RowK(d:D):Prop:=∃(k:Int) (s:D),d=.tup [.int k,s]/\St s
theorem RowK.pl(h:RowK d):F4 3 d:=by obtain⟨k,s,rfl,h⟩:=h;exact .tup<|.cons (.int _)<|.cons h.pl .nil
def jG:x5:=λds M R=>∃(p q:Nat) (xs:List D),ds=[.ref p,.ref q]/\M[p]?=a7 (.lst xs)/\M[q]?=a7 (.lst xs)/\(∀x∈xs,RowK x)/\xs.length<=1000/\R (.bl a9) M
theorem zu:cI jG vZ:=by rintro ds M R ⟨p,q,xs,rfl,_⟩;rfl
def qT:p5:=bp<|dC<|.bl a9
def qU:p5:=az (jU (dZip<|aa (ab 0)<|aa (ab 1) ag) (jR 2<|bh (ar 2)<|bh (ar 3) jS)<|A2 (Jh (ye<|ax<|s9 BD<|aa (ab 2)<|aa (dC<|.ty "tuple") ag)<|Jh (ax<|p6 J4 (ab 2)<|ab 3)<|ax<|s9 BD<|aa (p6 u5 (ab 2)<|dC<|.int 0)<|aa (dC<|.ty "bool") ag) (bp<|dC<|.bl c5) aY)<|qT
def AA:p5:=az (A2 (Jh (ye<|ax<|s9 BD<|aa (ab 0)<|aa (dC<|.ty "list") ag)<|ax<|p6 J4 (s9 jM<|aa (ab 0) ag)<|s9 jM<|aa (ab 1) ag) (bp<|dC<|.bl c5) aY)<|qU
theorem Bh:A3 jG 4 AA:=by
 rintro ds M R ⟨p,q,xs,rfl,f,v,j,I,h⟩;simp only[AA];walk_at"dl";simp only[f,show ∀xs:List D,(MO.lst xs).isL=a9 from λ_=>rfl,o5];refine⟨⟨by decide,by decide⟩,?_⟩;rw[show zN "list" "list" = a9 from rfl];refine bz ⟨_,.inl f,_,.inl v,⟨rfl,rfl⟩,?_⟩;rw[jC,show ((xs.length:Int)==(xs.length:Int))=a9 from o7 _];refine bz ?_;simp only[qU];walk_at"dl";refine⟨xs,xs,_,_,⟨.inl f,rfl⟩,⟨.inl v,rfl⟩,?_⟩;refine aU (λi S b=>b=M/\∃c d,S=[a7<|.ref p,a7<|.ref q,c,d]) ?_ ?_ ⟨rfl,_,_,rfl⟩;rintro S b ⟨rfl,c,d,rfl⟩;refine⟨⟨.inl f,.inl v⟩,?_⟩;simp only[qT];walk_at"dl";exact bt.now h;rintro i y S b Q ⟨rfl,c,d,rfl⟩ G l;refine⟨⟨.inl f,.inl v⟩,?_⟩;obtain⟨x,a,rfl⟩:∃x,x∈xs/\y=.tup [x,x]:=by
  unfold L2.zipD at Q;rw[C2]at Q;cases e:(xs.zip xs)[i]? with
  |none=>rw[e]at Q;cases Q
  |some p=>rw[e]at Q;obtain⟨g,m⟩:=List.getElem?_zip_eq_some.mp e;have:p.1=p.2:=A1<|g.symm.trans m;refine⟨p.1,Hu g,?_⟩;rw[<-A1 Q];show D.tup [p.1,p.2]=_;rw[<-‹p.1=p.2›]
 obtain⟨o1,g⟩:=EU (M:=b) 3 p7 x (by decide) (j x a).pl;obtain⟨k,s,rfl,⟨t,z,n,rfl⟩⟩:=j x a;walk_at"dl";simp only[g];refine⟨trivial,⟨by decide,by decide⟩,bz ⟨⟨o1,o1⟩,bz ⟨⟨by decide,by decide⟩,bz<|z9.now<|l _ _ ⟨rfl,_,_,rfl⟩⟩⟩⟩
theorem Ce(T:Tops P w K mg base):t9 P w K mg base 1 "_law_same" vZ jG:=t9.byD (N:=["_law_told","_law_due_here","_law_one","_law_other"]) T.b T.f_same (by walk_at"sc") zu (by walk_at"dv") Bh
theorem Ct:cI (tR<|AA1 "_law_log") BY:=by rintro ds M R ⟨ns,b,_,_,rfl,_⟩;rfl
def uP:p5:=bp<|dC<|.bl a9
def uQ:p5:=A2 (ye<|ax<|s9 jG<|aa (s9 cG<|aa (ab 1)<|aa (ab 2)<|aa (ab 3) ag)<|aa (ab 5) ag) (bp<|dC<|.bl c5) aY
def uR:p5:=az (fu<|dMl0 fN<|ab 6)<|uQ
def uS:p5:=az (fu<|Ij bE (ab 6)<|aa (gh<|aa (dC<|.int 0)<|aa (dC .non) ag) ag)<|uR
def uT:p5:=az (A2 (ye<|ax<|s9 jG<|aa (ab 6)<|aa (ab 5) ag) (bp<|dC<|.bl c5) aY)<|uS
def uU:p5:=az (bb (s9 cG<|aa (ab 1)<|aa (ab 2)<|aa (ab 3) ag) 6)<|uT
def pA:p5:=az (jU (cE<|p6 u5 (ab 1)<|dC<|.int 1) (jR 2<|bh (ar 3)<|bh (ar 4) jS)<|az (bb (s9 sK<|aa (ab 1)<|aa (ab 2)<|aa (ab 3) ag) 5)<|uU)<|uP
def uV:p5:=az (bb (s9 sJ<|aa (Jr (ab 0) (jT<|dC<|.int 1)<|jT<|dC<|.int 61)<|aa (ab 1) ag) 2)<|pA
def Eo:p5:=az (bb (s9 iE<|aa (s9 eO<|aa (ab 0)<|aa (dC<|.int 0) ag) ag) 1)<|uV
theorem nH{α:Type}{lt:α->α->Prop}:∀{xs ys:List α},(∀a∈xs,∀b∈xs,lt a b->¬lt b a)->xs.Pairwise lt->ys.Pairwise lt->(∀x,x∈ys↔x∈xs)->xs=ys
 | [],[],_,_,_,_=>rfl
 | [],y::ys,_,_,_,h=>n6 ((h y).mp z0)<|by simp
 |x::xs,[],_,_,_,h=>n6 ((h x).mpr z0)<|by simp
 |x::xs,y::ys,as,hx,hy,h=>by
  rw[Mi]at hx hy;have e:x=y:=by rcases u8.mp ((h x).mpr z0)with e|m1;exact e;rcases u8.mp ((h y).mp z0)with e|m2;exact e.symm;exact n6 (hx.1 y m2)<|as _ (w6 _ m2) _ z0<|hy.1 x m1
  subst e;rw[nH (λa ha b hb=>as a (w6 _ ha) b<|w6 _ hb) hx.2 hy.2 λz=>⟨λm=>by rcases u8.mp ((h z).mp<|w6 _ m)with e|m';subst e;exact n6 (hy.1 z m)<|λq=>as z z0 z z0 q q;exact m',λm=>by rcases u8.mp ((h z).mpr<|w6 _ m)with e|m';subst e;exact n6 (hx.1 z m)<|λq=>as z z0 z z0 q q;exact m'⟩]
theorem yI(l:LogS ps rs log)(R:DueL rs log r Ps)(h:RunW (aH r ((au rs log).map (·.2))) [] (bu 0 (aH r ((au rs log).map (·.2)) .non)) out):(out.filter λx=>@decide (¬bK (au rs log) log (dw x))<|E9 _)=Ps.map jH:=by
 have Q:=cF (rs:=rs) (log:=log);have hv:=lC l.dk (λ_ q=>q) Q;have U:∀e∈(au rs log).map (·.2),St (stD e):=λe i=>by obtain⟨p,B,rfl⟩:=y4.mp i;exact(hv p B).1.st
 have G:∀e∈(au rs log).map (·.2),stD e≠.non:=λe i z=>by obtain⟨ks,Z⟩:=(U e i).tup;rw[Z]at z;cases z
 have X:(((au rs log).map (·.2)).map stD).Nodup:=by
  have:((au rs log).map (·.2)).map stD=(au rs log).map (·.1):=by rw[G2];exact K2 λp B=>(Q.en p B).1.symm
  rw[this];exact Q.nd
 have mg:∀e∈(au rs log).map (·.2),aR (au rs log) (stD e)=a7 e:=λe i=>l.get.mpr ⟨rfl,l.mem.mp i⟩;have W:∀e∈(au rs log).map (·.2),Bo rs log (stD e)=dD e:=λe i=>by unfold Bo;rw[mg e i];rfl
 have V:F0 ((au rs log).map (·.2)):=by rw[l.es,G2];rw[show ((λx:D×D=>x.2) ∘ λd=>(stD d,d))=id from rfl,JN];exact Jo _<|Jo _ l.up
 have S:∀e,z8 rs (kinds log<|AA1 "say") e↔e∈(au rs log).map (·.2):=λe=>l.mem.symm;have P:F0 (kinds log<|AA1 "say"):=Jo _ l.up;have n:∀d∈kinds log (AA1 "say"),St (stD d):=λd q=>(l.dk d (ay q).1).st;have A:∀d∈kinds log (AA1 "say"),stD d≠.non:=λd q z=>by obtain⟨ks,Z⟩:=(n d q).tup;rw[Z]at z;cases z
 have qs:∀x:D,@decide (¬bK (au rs log) log (dw x)) (E9 _)=a9↔¬bK (au rs log) log (dw x):=λx=>@decide_eq_true_iff _<|E9 _;generalize ai:(au rs log).map (·.2)=es at h U G X W V S mg;have t0:=TreeW.start (r:=r) X;have tr:=h.tree X G t0;have H:=h.all<|λx L=>nomatch L;have kf:∀x,(aH r es x).Pairwise λa b=>enc p7 a<enc p7 b:=λx=>by unfold aH;rw[Jn];exact Jo _ V
 have ku:∀x,∀c∈aH r es x,Bo rs log c=x/\∃e,c=stD e/\e∈kinds log (AA1 "say")/\dD e=x:=λx c hc=>by obtain⟨e,i,rfl,_,h2⟩:=cS.mp hc;exact⟨(W e i).trans h2,e,rfl,((S e).mpr i).mem,h2⟩
 have pt:=h.pth kf ku<|PthI.start kf ku;have ok:∀t∈out,∃(k:Nat) (e:D),t=.tup [.int (k:Int),stD e]/\PathE (kinds log<|AA1 "say") e (pth (Bo rs log) t)/\(pth (Bo rs log) t).length=k+1/\z8 rs (kinds log<|AA1 "say") e/\aX e=r:=λt E=>by
  obtain⟨k,e,g,h1,h2⟩:=pt.ok t<|E3 _ E;obtain⟨k',F,I,J,h4,_⟩:=tr.ok t<|E3 _ E;have j:stD e=stD F:=by have:=g.symm.trans I;injection this with this;injection this with _ this;injection this
  have v:=(S F).mpr J;obtain rfl:=P.one _ h1.mem _ v.mem j;exact⟨k,e,g,h1,h2,v,h4⟩
 have N:∀t∈out,jH (pth (Bo rs log) t)=t:=λt E=>by obtain⟨k,e,g,h1,h2,_⟩:=ok t E;obtain⟨p',ep⟩:=h1.last;rw[ep]at h2 ⊢;rw[iW,h2,g];congr 3;lia
 have K:∀e,z8 rs (kinds log<|AA1 "say") e->aX e=r->stD e∈out.map dw:=λe i f=>by
  have:stD e∈out.map dw/\∀x∈out,∀y∈aH r es (dw x),y∈out.map dw:=by
   induction i with
   |@top d h m u=>refine H _ ?_;rw[IN,dJ,Kp];exact cS.mpr ⟨d,(S d).mp<|.top h m u,rfl,f,u⟩
   |@sub d e h m s u o rr ih=>obtain⟨i1,Y⟩:=ih<|rr.trans f;obtain⟨x,L,ex⟩:=y4.mp i1;exact⟨Y x L _<|cS.mpr ⟨d,(S d).mp<|.sub h m s u o rr,rfl,f,by rw[ex];exact u⟩,Y⟩
  exact this.1
 generalize hq:(λx=>@decide (¬bK (au rs log) log (dw x))<|E9 _)=q;have C:∀x,q x=a9↔¬bK (au rs log) log (dw x):=λx=>by rw[<-hq];exact qs x
 have M:(out.filter q).map (pth<|Bo rs log)=Ps:=by
  refine nH (lt:=λp q=>enc p7 (.tup p)<enc p7 (.tup q)) (λa _ b _ h h'=>E7 _<|Kk h h') ?_ R.up λp=>?_;rw[Jn];refine(Mr.mp<|Jo q pt.rr).imp λ{a b} ⟨ha,hb,w⟩=>?_;obtain⟨_,_,_,pa,_⟩:=ok a (F7.mp ha).1;obtain⟨_,_,_,pb,_⟩:=ok b (F7.mp hb).1;exact w.enc (pa.all n)<|pb.all n;rw[R.mem];constructor;rintro⟨e,v,f,nb,pe⟩;obtain⟨t,E,T⟩:=y4.mp<|K e v f;obtain⟨k,F,g,h1,_,O,_⟩:=ok t E;have j:stD e=stD F:=by rw[<-T,g];rfl
  obtain rfl:=P.one _ v.mem _ O.mem j;rw[pe.uni P A h1];exact HL<|F7.mpr ⟨E,(C t).mpr<|T.symm ▸ nb⟩;intro B;obtain⟨t,E,rfl⟩:=y4.mp B;obtain⟨h1,h2⟩:=F7.mp E;obtain⟨k,e,g,J,_,v,f⟩:=ok t h1;have:=(C t).mp h2;rw[g]at this;exact⟨e,v,f,this,J⟩
 rw[<-M,G2]
 conv=>lhs;rw[<-JN (out.filter q)]
 exact K2 λt E=>(N t (F7.mp E).1).symm
theorem Ee:A3 (tR<|AA1 "_law_log") 7 Eo:=by
 rintro ds M R ⟨ns,mo,N,⟨A,z⟩,rfl,rfl,h⟩;have m:ak [mo,.tb (AA1 "_law_log") c5] 0 (ns.map D.int):=by have:=jr (M:=[mo,.tb (AA1 "_law_log") c5]) (n:=0) (mo:=mo) rfl z;rw[A]at this;exact this
 simp only[Eo];walk_at"dl";refine⟨0,ns,0,rfl,m,_,rfl,λps r F=>?_⟩;simp only[uV];walk_at"dl";refine⟨_,m,?_⟩;have w:∃cs:List Int,cutD (ns.map D.int) (a7 1) (a7 61)=cs.map D.int/\cs.length<=60:=by unfold cutD;refine⟨(ns.drop<|HT.sIx (ns.map D.int).length 0<|a7 1).take<|HT.sIx (ns.map D.int).length (ns.map D.int).length (a7 61)-HT.sIx (ns.map D.int).length 0 (a7 1),by rw[List.map_take,List.map_drop],?_⟩;rw[HU];unfold HT.sIx;simp;lia
 obtain⟨cs,w,K⟩:=w;rw[w];refine⟨ps,r,2,1,cs,rfl,F,.inl rfl,by decide,K,rfl,λg p=>?_⟩;have U:=p.len;show pA _ _ ([mo,.tb (AA1 "_law_log") a9,.lst<|cs.map D.int]:p8);generalize ([mo,.tb (AA1 "_law_log") a9,.lst<|cs.map D.int]:p8)=V;simp only[pA,aF];walk_at"dl";intro _;refine aU (λi S f=>∃a b c d:Option D,S=[a7<|.ref 0,a7<|aF ps r,a7<|.tup g,a,b,c,d]) ?_ ?_ ⟨_,_,_,_,rfl⟩;rintro S f ⟨a,b,c,d,rfl⟩;refine⟨trivial,?_⟩;simp only[uP];walk_at"dl";exact .inl<|h _;rintro i y S f Q ⟨a,b,c,d,rfl⟩ G O;obtain⟨q,L,rfl⟩:=y4.mp<|Hu Q;refine⟨trivial,?_⟩;unfold ij;walk_at"dl";refine⟨trivial,ps,r,g,q.1,rfl,F,p,λs E=>?_⟩;simp only[uU];walk_at"dl";refine⟨ps,r,g,q.1,rfl,HL L,p.dk,by lia,λout H P=>?_⟩;have k:∀o,RunW (aH q.1 ((au r g).map (·.2))) [] (bu 0 (aH q.1 ((au r g).map (·.2)) .non)) o->(o.filter λx=>@decide (¬bK (au r g) g (dw x))<|E9 _)=s.map jH:=λo e=>yI p E e;have J:∀x∈s.map jH,RowK x:=λx I=>by rw[<-k out H]at I;exact P x (F7.mp I).1
 rw[k out H];have X:=E.len;have Z:(f++[MO.lst<|s.map jH])[f.length]?=a7 (.lst<|s.map jH):=ae;generalize f++[MO.lst<|s.map jH]=u at Z;generalize f.length=v at Z;have T:(u++[MO.lst<|s.map jH])[u.length]?=a7 (.lst<|s.map jH):=ae;have B:v≠u.length:=by have:=aC Z;lia
 replace Z:=ad (a:=MO.lst<|s.map jH) Z;dsimp only;generalize u++[MO.lst<|s.map jH]=C at Z T;generalize u.length=t at T B;simp only[uT];walk_at"dl";refine⟨t,v,_,rfl,T,Z,J,by rw[t7];lia,bz ?_⟩;simp only[uS];walk_at"dl";refine⟨⟨_,.inl T⟩,av (by decide),_,T,av (by rw[t7];lia),?_⟩;simp only[uR];walk_at"dl";have l:=bn (a:=MO.lst<|s.map jH++[.tup [.int 0,.non]]) T;refine⟨⟨_,.inl l⟩,_,l,?_⟩;have j:((C.set t<|MO.lst<|s.map jH++[.tup [.int 0,.non]]).set t<|.lst (s.map jH++[D.tup [.int 0,.non]]).reverse)[v]?=a7 (.lst<|s.map jH):=ap B<|ap B Z;generalize (C.set t<|MO.lst<|s.map jH++[.tup [.int 0,.non]]).set t (.lst (s.map jH++[D.tup [.int 0,.non]]).reverse)=W at j;simp only[uQ];walk_at"dl";refine⟨ps,r,g,q.1,rfl,HL L,p.dk,by lia,λo e _=>?_⟩;rw[k o e];refine⟨_,v,_,rfl,ae,ad j,J,by rw[t7];lia,bz<|z9.now<|O _ _ ⟨_,_,_,_,rfl⟩⟩
theorem ok_law(T:Tops P w K mg base)(F:IF K "law" "law" (top 45) f fd):FnOk P w K mg base D3 9 f fd BY (IU K<|tR "_law_log"):=zW (N:=["_law_script","_law_house_here","_law_log_here","_law_room","_law_members","_law_due_here","_law_told"]) T.b F (by walk_at"sc") Ct (by have:=tE T;have:=tG T;have:=za T;have:=Fp T;have:=Fq T;have:=Ce T;walk_at"dv") Ee
end
end LW
namespace PySem.W.Fast
def tw10041692994490144440:=Nat
def tw10054891725977390926:=Nat
def tw10085565511485476161:=Nat
def tw10255713689125884406:=Nat
def tw1032848784313852012:=Nat
def tw10887922903174128903:=Nat
def tw10933300113028597034:=Nat
def tw10953536560532419707:=Nat
def tw10956600394607022414:=Nat
def tw11019834290932299239:=Nat
def tw11095730896910644770:=Nat
def tw11108267266997642365:=Nat
def tw11197752098884175607:=Nat
def tw11210121972573544562:=Nat
def tw11212392850523381926:=Nat
def tw11215305589987743302:=Nat
def tw11218951147829381826:=Nat
def tw11323967843942905180:=Nat
def tw1136265280833619760:=Nat
def tw11372717887282305211:=Nat
def tw11388303502606637167:=Nat
def tw11446077874887848678:=Nat
def tw11487131001840104244:=Nat
def tw11503011417560526158:=Nat
def tw11520540492534799649:=Nat
def tw11544807701143254177:=Nat
def tw11551956665373856480:=Nat
def tw1162744981906632833:=Nat
def tw11664580430258298289:=Nat
def tw11700809168053949662:=Nat
def tw11750610288209210921:=Nat
def tw11767442958868474842:=Nat
def tw1178767606298747307:=Nat
def tw11852133426290633340:=Nat
def tw11867080187254337693:=Nat
def tw11873476183937287526:=Nat
def tw11916954843531140641:=Nat
def tw11949321867937809776:=Nat
def tw11959131916997040785:=Nat
def tw12016032808976243562:=Nat
def tw12076023618834751806:=Nat
def tw12114726237839820967:=Nat
def tw12138524943574926847:=Nat
def tw1221979800368875342:=Nat
def tw12332836604554707522:=Nat
def tw12467557924385673847:=Nat
def tw12544807094106774581:=Nat
def tw12619399707876085633:=Nat
def tw12630136032310030031:=Nat
def tw12646396863476887439:=Nat
def tw12663778746300928929:=Nat
def tw12735502502032154057:=Nat
def tw12852400732854066086:=Nat
def tw12906140017672522419:=Nat
def tw13010972096356092343:=Nat
def tw13101259314237967829:=Nat
def tw13177697169403385492:=Nat
def tw13297064333848746772:=Nat
def tw13302314051234202433:=Nat
def tw13323502575747171967:=Nat
def tw13361578684092632470:=Nat
def tw13471718155027815464:=Nat
def tw13500070602348914909:=Nat
def tw13566432079071675152:=Nat
def tw13681589763586556763:=Nat
def tw13738735028777065621:=Nat
def tw13918169906167430464:=Nat
def tw13941669613310070183:=Nat
def tw14026936768094346583:=Nat
def tw14071422246197408293:=Nat
def tw14097663487981353938:=Nat
def tw14124303892394597578:=Nat
def tw14160960551227403703:=Nat
def tw14169693048011760336:=Nat
def tw14266644362401376327:=Nat
def tw1427656119332166520:=Nat
def tw14351887978384145271:=Nat
def tw14429883669715074056:=Nat
def tw14465845348816291195:=Nat
def tw14480066734356881308:=Nat
def tw14578240255935954843:=Nat
def tw14587804909730087361:=Nat
def tw14610042646991174491:=Nat
def tw14669847819272402603:=Nat
def tw14821074237582295126:=Nat
def tw14920003712058006868:=Nat
def tw14930614276736775377:=Nat
def tw14980901788012421958:=Nat
def tw15020499035954269906:=Nat
def tw15022444304812123493:=Nat
def tw15053368662411973491:=Nat
def tw15233306034691875298:=Nat
def tw15241250840559214481:=Nat
def tw1535523300437735361:=Nat
def tw15537492583411303314:=Nat
def tw15682920103193514932:=Nat
def tw15742351998246595525:=Nat
def tw15747216222525661041:=Nat
def tw15910339804758750875:=Nat
def tw1593557502174942889:=Nat
def tw15942170730254988735:=Nat
def tw15976903240969672249:=Nat
def tw16036893958867017474:=Nat
def tw16112396200572067919:=Nat
def tw16172518621509920519:=Nat
def tw16268502747056345045:=Nat
def tw16283765872358018893:=Nat
def tw16342916685400759185:=Nat
def tw16541565199634687937:=Nat
def tw1655063740300121867:=Nat
def tw16575564902509502553:=Nat
def tw16585490223899497670:=Nat
def tw16619316694278687732:=Nat
def tw16799584815738395943:=Nat
def tw16812792262360660428:=Nat
def tw16946919446566952156:=Nat
def tw16964486027018771896:=Nat
def tw16973875722947495221:=Nat
def tw1700388067176546489:=Nat
def tw17010814361664587646:=Nat
def tw17120451182354465093:=Nat
def tw17163237160099991120:=Nat
def tw17504119926822870748:=Nat
def tw17511946102517302848:=Nat
def tw17578149539489256615:=Nat
def tw17784340381665958622:=Nat
def tw17860943623191553537:=Nat
def tw17979730716918027011:=Nat
def tw17995883935048175273:=Nat
def tw1809955589956383294:=Nat
def tw1813754736284076781:=Nat
def tw18214620414194902010:=Nat
def tw18226913098142454495:=Nat
def tw1845128666862545522:=Nat
def tw1900725132067567181:=Nat
def tw1961070425805407028:=Nat
def tw204381016313073113:=Nat
def tw210601051067333856:=Nat
def tw211868618470048515:=Nat
def tw2192300270607588616:=Nat
def tw235905613616657177:=Nat
def tw2485700971004777755:=Nat
def tw2502210839385997445:=Nat
def tw2747415324976562005:=Nat
def tw2757701990025410053:=Nat
def tw2833848404474471704:=Nat
def tw2872859152769339749:=Nat
def tw301487923660861677:=Nat
def tw3133339649601706010:=Nat
def tw3133951410108904446:=Nat
def tw3160400937432054152:=Nat
def tw3167094419670930951:=Nat
def tw3202268402768125356:=Nat
def tw3227759502127646343:=Nat
def tw3352627882477923852:=Nat
def tw3356322826635313932:=Nat
def tw3358296196612999418:=Nat
def tw3494252086875083274:=Nat
def tw3708391455492263118:=Nat
def tw372280366983979045:=Nat
def tw3763935522732533263:=Nat
def tw3888858501243908956:=Nat
def tw3903319888812566800:=Nat
def tw3934150502853769002:=Nat
def tw3956546885212903284:=Nat
def tw4102086713818503818:=Nat
def tw4209611825371316198:=Nat
def tw4234765734529653544:=Nat
def tw4237774341689705871:=Nat
def tw4333926840273575079:=Nat
def tw4532308140144361112:=Nat
def tw4772965073208733170:=Nat
def tw4781468057982849951:=Nat
def tw4803890736784636446:=Nat
def tw4860930097395805863:=Nat
def tw4871432052144507558:=Nat
def tw4969009164509932702:=Nat
def tw4979388580603424820:=Nat
def tw509095539238551233:=Nat
def tw5178180802715231396:=Nat
def tw5269963267830568148:=Nat
def tw5276228622836244441:=Nat
def tw5339286640265157870:=Nat
def tw5520642134198353903:=Nat
def tw5526285751935510170:=Nat
def tw5589315479165959488:=Nat
def tw5625470670000365982:=Nat
def tw5625705533405281116:=Nat
def tw5638452459392034640:=Nat
def tw5690333916919378522:=Nat
def tw5728780301310518526:=Nat
def tw586035868537953278:=Nat
def tw5917520733901614217:=Nat
def tw5938534719102925274:=Nat
def tw6027987404328189858:=Nat
def tw6041209146663279557:=Nat
def tw606422881890977382:=Nat
def tw6102151056256843465:=Nat
def tw6209348929089444402:=Nat
def tw6217284315531392881:=Nat
def tw633452842379390955:=Nat
def tw6547636063069480366:=Nat
def tw6676153952501696605:=Nat
def tw6796350143250660035:=Nat
def tw6823879594152183268:=Nat
def tw6838544644897178704:=Nat
def tw6883745153183012823:=Nat
def tw6908857477327156149:=Nat
def tw7022261805081989663:=Nat
def tw7034135493443058299:=Nat
def tw7073211105773883137:=Nat
def tw7103796562143543625:=Nat
def tw7112441210831660007:=Nat
def tw7146720368398169566:=Nat
def tw7169484341494072371:=Nat
def tw724092690412337901:=Nat
def tw7255888792497010791:=Nat
def tw7473938236141036842:=Nat
def tw7483288235869853318:=Nat
def tw7698023455240256687:=Nat
def tw7762644322793962870:=Nat
def tw7824102779365623761:=Nat
def tw7853150168284745366:=Nat
def tw8119746784801852263:=Nat
def tw8248949049561459523:=Nat
def tw825348319771882290:=Nat
def tw838773663292605311:=Nat
def tw849739541589597888:=Nat
def tw8497654194818491016:=Nat
def tw8534231271786720975:=Nat
def tw8576046015514926030:=Nat
def tw8635783510586386300:=Nat
def tw8728110119006113522:=Nat
def tw8805013670235199970:=Nat
def tw9018907636581537189:=Nat
def tw9028922351226323385:=Nat
def tw9113605891473386343:=Nat
def tw9127837062444263184:=Nat
def tw9247940319796205243:=Nat
def tw9301594240700848100:=Nat
def tw9354807995537800111:=Nat
def tw9358150504986896516:=Nat
def tw940507865790591916:=Nat
def tw9427419239059465997:=Nat
def tw9514530363230861416:=Nat
def tw9537079051256726047:=Nat
def tw9557702063125130134:=Nat
def tw9812951731552958533:=Nat
def tw9928674823826919000:=Nat
def tw9968356806257711309:=Nat
end PySem.W.Fast
theorem L2.us1{P:List ACz->Prop}(h:∀a0,P [a0]):∀us:List ACz,us.length=1->P us
 | [a0],_=>h a0
theorem L2.us2{P:List ACz->Prop}(h:∀a0 a1,P [a0,a1]):∀us:List ACz,us.length=2->P us
 | [a0,a1],_=>h a0 a1
theorem L2.us3{P:List ACz->Prop}(h:∀a0 a1 a2,P [a0,a1,a2]):∀us:List ACz,us.length=3->P us
 | [a0,a1,a2],_=>h a0 a1 a2
theorem L2.us4{P:List ACz->Prop}(h:∀a0 a1 a2 a3,P [a0,a1,a2,a3]):∀us:List ACz,us.length=4->P us
 | [a0,a1,a2,a3],_=>h a0 a1 a2 a3
theorem L2.us5{P:List ACz->Prop}(h:∀a0 a1 a2 a3 a4,P [a0,a1,a2,a3,a4]):∀us:List ACz,us.length=5->P us
 | [a0,a1,a2,a3,a4],_=>h a0 a1 a2 a3 a4
local macro_rules | `(tactic| walk_at"fk")=>`(tactic| ((case a=>k_is);(case l=>k_is);(case c=>k_is);(case k=>k_is)))
local macro_rules | `(tactic| walk_at"f1")=>`(tactic| (refine' L2.fnat_mk (by assumption) (by assumption) ?a ?l ?c ?k (λ_ _ _ _ _ _=>L2.us1 (λ_=>rfl));walk_at"fk"))
local macro_rules | `(tactic| walk_at"f2")=>`(tactic| (refine' L2.fnat_mk (by assumption) (by assumption) ?a ?l ?c ?k (λ_ _ _ _ _ _=>L2.us2 (λ_ _=>rfl));walk_at"fk"))
local macro_rules | `(tactic| walk_at"f3")=>`(tactic| (refine' L2.fnat_mk (by assumption) (by assumption) ?a ?l ?c ?k (λ_ _ _ _ _ _=>L2.us3 (λ_ _ _=>rfl));walk_at"fk"))
local macro_rules | `(tactic| walk_at"f4")=>`(tactic| (refine' L2.fnat_mk (by assumption) (by assumption) ?a ?l ?c ?k (λ_ _ _ _ _ _=>L2.us4 (λ_ _ _ _=>rfl));walk_at"fk"))
local macro_rules | `(tactic| walk_at"f5")=>`(tactic| (refine' L2.fnat_mk (by assumption) (by assumption) ?a ?l ?c ?k (λ_ _ _ _ _ _=>L2.us5 (λ_ _ _ _ _=>rfl));walk_at"fk"))
open PySem PySem.W PyProof.Rows
set_option maxRecDepth 100000 in
set_option maxHeartbeats 0 in
theorem PySem.Challenge.cw_talkmarks_k23_rows_of_a_room_holds : PySem.Challenge.rw_talkmarks_k23_rows_of_a_room.Holds := by
 w_on; o_law; k_head; (case hw=>w_witness2)
 k_fill
 refine L2.law_walkL (z:="_law_log") (l:=PySem.Challenge.rw_talkmarks_k23_rows_of_a_room) (k:=9) (st:=LW.top 45) (x:="_law_script") rfl rfl rfl ⟨rfl,by decide,by decide⟩ (fun w h Y=>PySem.W.km_in_of Y) (fun _=>by kernel_rfl) rfl (fun _=>rfl) ?F<|fun _ _ _ _ _ _ _=>rfl
 case F =>
  intro w mg h X G;have T:∀ P base,L2.BMain mg base→LW.Tops P w (L2.KOf X) mg base:=by
   intro P base m;dsimp only[L2.KOf];constructor;walk_at"f1";walk_at"f2";walk_at"f2";walk_at"f1";walk_at"f1";walk_at"f2";walk_at"f1";walk_at"f1";walk_at"f3";walk_at"f2";walk_at"f2";walk_at"f3";walk_at"f2";walk_at"f2";walk_at"f2";walk_at"f1";walk_at"f3";walk_at"f2";walk_at"f1";walk_at"f2";walk_at"f1";walk_at"f2";walk_at"f1";walk_at"f2";walk_at"f3";walk_at"f3";walk_at"f4";walk_at"f5";walk_at"f1";walk_at"f2";walk_at"f1";walk_at"f3";walk_at"f2";walk_at"f2";walk_at"f3";walk_at"f2";walk_at"f1"
   ·unfold LW.B_ LW.C_
    iterate 12 (refine' L2.TopB.b ?tq ?_; (case tq=>refine' PySem.W.mg_none_of X G ?tr; (case tr=>k_is)))
    exact .nil
   exact m
  refine ⟨?_,fun base f d m F=>LW.ok_law (T _ base m) F⟩
  try dsimp only[L2.KOf]
  walk_at"f1"
