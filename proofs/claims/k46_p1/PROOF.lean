import PyProof.Rows.All
import Wide.All
import OpenK.AllK
import Wide.FinOn
import Lean
import PyProof.EqAt
import PyProof.EqKinds
import PyProof.TupleCall
import PyProof.CompFree
import PyProof.NeKinds
import KE.KSortTup
import KE.KRevSl
import KE.KDictSum
import KE.KEqDict
import PyProof.Conv_int_bool
import PyProof.AttrMissHeap
import KE.KLam
import KE.KRevIter
import PySem.Challenge.RW_talkmarks_k46_whole_never_unread
open PySem renaming wpAny_bind->p5,wpAny_pure->p8,Spec->AAB,wpAny_holding->E5,wpAny_newObj_type->J2,wpAny_call_entry->J0,wpAny_callSpecial?_slot->La,wpAny_setState_of->K0,wpAny_forIn_list->KW,mem_of_lookup->LA,wpAny_dictEpoch->KU,wpAny_mono->I9,wpAny_fieldsOf->KT,wpAny_dictEntries->Lz,wpAny_ite_split->Lk,wpAny_rule->Kg,eqIsQuiet_byValue->LU,wpAny_setField->Lj,wpAny_specialOf->Ly,wpAny_typeNameOfWhole_keyiter->OL,wpAny_typeNameOfWhole_valiter->OK,wpAny_truthy_bool->Mo,codeAny_builtin->LQ,wpAny_askSetting->Ml,wpAny_isInstance->Mj,wpAny_notOrdered_dict->NJ,wpAny_passesOwn->Mh,wpAny_typeNameOf_keyiter->OF,wpAny_typeNameOf_valiter->OE,sizeLine_eq->Lh,wpAny_attempt->LM,wpAny_setEntries_of->NH,Value->ACt,wpAny_seqItems->Mf,wpAny_Call_method_late->Oz,wpAny_Call_Name_kw->ND,wpAny_callSpecialIfBoundUnlessNone?_slot->Pw,wpAny_typeOf->LL,builtinLookup_eq_fast->Ow,plainId_quiet->Md,wpAny_pyHash_int->Nx,wpAny_pyHash_str->Nw,wpAny_loadPart'->Pv,wpAny_pyIter_slot->Oh,atKey_none_of_get->Og,codeAny_mono->MD,call_meetsIn->MB,wpAny_isOneOf_valiter->O5,wpAny_execs_nil->Ob,typeLookup_type->N7
open PySem.Str renaming ofString->r9
open List renaming getElem?_eq_getElem->v4,length_map->u4,getElem?_eq_some_iff->w6,length_append->x5,mem_cons_of_mem->A2,mem_map->ve,size_toArray->x9,mem_filter->z9,getElem?_map->C8,mem_cons->z5,length_nil->C0,length_cons->C7,mem_cons_self->D4,getElem?_append_left->J5,mem_append_right->F6,length_singleton->F5,getD_eq_getElem?_getD->Ke,map_cons->A3,mem_of_getElem?->F8,mem_append->D3,length_filter_le->G8,getElem?_append_right->Kz,nil_append->E3,mem_append_left->J4,append_assoc->F3,all_eq_true->Fn,mem_singleton->J3,mem_map_of_mem->Kj,range->B9,map_map->E2,length_take->J1,mem_range->F7,prefix_append->Kq,map_append->G7,getElem?_set_ne->K1,length_drop->Kx,nodup_cons->Kp,find?_cons->Ko,getElem?_set_self->Lp,getElem?_of_mem->K9,nodup_iff_pairwise_ne->LY,cons_lt_cons_iff->Lo,lt_irrefl->Kw,any_eq_true->KZ,getElem_mem->KY,all_cons->Kv,getElem?_take_of_lt->Mu,take_length->K8,take_add_one->Lm,append_nil->K7,filterMap_cons->LX,length->Km,getElem?_eq_none->Mt,getElem?_cons_succ->MQ,map_congr_left->Mr,length_range->LV,drop_eq_getElem_cons->NN,pairwise_iff_getElem->NM,prefix_rfl->Lx,mem_filterMap->Mq,zip_cons_cons->Mp,lookup_cons->LS,length_set->LR,take_of_length_le->NL,filter_cons->Mi,filter_append->MJ,filter_filter->MI,map_id->K5,getElem?_replicate->OD,getElem?_cons_zero->OA,length_reverse->ACs,length_replicate->Ox,find?_some->MH,take_sublist->NC,pairwise_map->NA,filter_congr->Nz,mem_of_find?_eq_some->Pg,filter_sublist->Os,pairwise_singleton->Pb,getElem?_drop->Oo,filter_eq_nil_iff->O7,nodup_append->Of,range'->Ma,find?_append->Oe,replicate->Nt,nodup_nil->Nr,set_append_right->O6,nodup_range->Od,filter_map->N6,map_nil->No,toArray->Nn,find?_map->N0,getD->L8
open PySem.W renaming Frag->t6,kas_desc->G0,keepIn->LP,fnOf->Lu,kas_rev->Kf,kas_place->K4,kas_asc->KD,findIn->Nu,kas_descPart->MC,kas_sort->Ls,codeIn->N5,kitOne->N3,methodObj->O0
open PySem.Heap renaming get?_push_of_some->v7,get?_push_size->A8,lt_size->v9,get?_update_self->Kk,size_push->KI,get?_update_other->MP,SameBut->KQ,get?_update_ne->NI
open Nat renaming le_refl->u5,ne_of_lt->x6,zero_le->w4,lt_of_lt_of_le->Kd,lt_succ_self->Kh,lt_irrefl->G5,le_trans->G1,lt_or_ge->Ku,not_lt_zero->Ll,lt_succ_of_lt->Mn,sub_self->Li,le_of_lt->Lv,not_lt->Lf,lt_trichotomy->NB,add_sub_cancel->On,le_succ->MA
open Classical renaming propDecidable->A5,byContradiction->LC
open Bool renaming false_eq_true->x3,and_eq_true->D8,eq_false_iff->KJ,false_ne_true->Ln,not_true->KR,or_eq_true->Nv,and_false->N4
open Array renaming length_toList->D5,getElem?_eq_getElem->G9,getElem?_toList->F4,getElem?_eq_some_iff->Lb,getD_eq_getD_getElem?->LZ,getElem?_eq_none->NK,getD->KH,forIn_toList->MK,toList_push->Oj
open Option.some renaming inj->C4
open PySem.SetTable renaming below->D7,runEnd->G6,bits->K6,leap->Lw,Probe->LO,grown->Me,turns->MF,fits->ME,insertAt->Oi,sizeAbove->O1,fill->NZ
open PySem.Heap.SameBut renaming update->Ky
open Int renaming toNat_natCast->Ki,zero_add->Mb,le_refl->Nm
open Option renaming map_eq_some_iff->LB,isSome_iff_exists->Pf
open PyProof.Rows renaming slot_tuple_getitem->MS,callWith_type1->Pi,get?_update_seq->N8
open PySem.NameKind renaming free->Kn,cell->LN
open PySem.Builtin.Tuple renaming tupleHashOf->Mv,tupleItemsOf->OI,tupleExact->OG
open PySem.Value renaming ref->ABO,none->ABr,type->L9,bool->Mz
open Ne renaming symm->C3
open PySem.Builtin.Str renaming strSliceIndices->MR,occurrences->OC
open Sum renaming inr->ABb
open PySem.Builtin.Dict_items renaming ownsTuple->NO
open PySem.Around renaming under_plainId->Ms
open PySem.Calls renaming callWith_builtin->MN,evalArgs_plain->Ou,spliced_cons->O2
open PySem.Obj renaming mapSeq->Kl,data_mapDictKeys->ML,isFreed_of_dict->NG,mapFields->Mc,data_mapFields->Om,data_mapDict->Oc,putSet->My
open PySem.F renaming slot_dict_get->MM,slot_list_getattribute->OM,slot_dict_setdefault->OJ,plainAttrs_dict->OB,args_tuple_add_2->Pe,entry_tuple_add->Pc,args_dict_get_3->Pa,slot_tuple_add->O9,entry_dict_get->O8,type_dict_get->O4
open PySem.SeqAt renaming EqAt->KF
open PySem.SetTable.below renaming go->Mm
open PySem.Txt renaming slice->Kt
open PySem.Builtin.Slice renaming slicePlaces->OH,sliceAdjust->Ph,sliceApplied->Ps
open List.cons renaming injEq->Mg,inj->Nq
open PySem.SetTable.layClean renaming free->Oy
open PySem.SeqAt.EqAt renaming int_str->NF,str_int->NE,int_int->Oq,str_str->Op,same->N9
open PySem.Builtin.Dict renaming showsAll->Ov
open False renaming elim->Lg
open List.Sublist renaming refl->Ny
open List.Pairwise renaming filter->Ot,nil->Ol,and_mem->O3
open List.Perm renaming refl->MG,cons->N1
open PySem.Builtin.List renaming listTooLong->Pd,listLengthHint->Pu,listExtendWith->Pt
open True renaming intro->LK
open PySem.Shared renaming TypeIs->Np
open ForInStep renaming yield->Oa
open PySem.SetTable.probe renaming go->OZ
open Option renaming some->a7,none->a8
open Bool renaming true->a9,false->bt
open PySem renaming Value->b7,Str->b8,World->b9,Program->c5,Addr->c6,Obj->c7,Heap->c8,sysModules->c9,entryOfKey->d5,mainGlobals->d6,bootBuiltins->d7,Around->d8,Shared->d9,Scope->e6,wpAny->e8,Expr->f6,model->f7,Pos->f8,backTo->f9,starEach->ge,Stmt->g7,holding->g8,swapsWith->g9,assign->h7,assignEach->i3,pyNext->i4,letOwnedTupleGo->i5,pyIter->i6,rawInt->i7,foldedSetIterable->i8,binaryOp->i9,compareOp->j0,behindInMarks->j1,cLine->j2,FuncData->j3,codeAny->j4,Keyword->j5,NameKind->j6,IsPart->j8,getItem->j9,sliceBounds->k5,typeOf->k7,attributeBase->k9,backToKw->l7,keywordEach->l8,DictEntry->m3,reduceHash->m5,pickOrder->m7,SetTable->m8,firstArgMember->m9,eqIsQuiet->np,placesWithHash->n5
open PyProof.Rows renaming AllBare->e7,envOfC->j7,seqObj->m6
set_option autoImplicit true
set_option relaxedAutoImplicit true
set_option compiler.extract_closed false
set_option Elab.async false
set_option linter.all false
set_option maxRecDepth 100000
def n6:=@if_pos
def n9:=@if_neg
def o0:=@absurd
def o4:=@decide_eq_true_eq
def o5:=@beq_iff_eq
def o6:=@if_false
def o7:=@if_true
def o8:=@congrArg
def p4:=@beq_self_eq_true
-- CHANGE: your row's module here,as the last of these rows
theorem dF_{p:Prop}[Decidable p](h:¬p):decide p=bt:=decide_eq_false h
theorem dT_{p:Prop}[Decidable p](h:p):decide p=a9:=decide_eq_true h
theorem oT_{p:Prop}[Decidable p](h:decide p=a9):p:=of_decide_eq_true h
namespace L2
open PySem PySem.Spec PyProof.Rows
noncomputable abbrev F0:=Sum Int b8
noncomputable def xX:F0->b7->Bool
 |.inl k,v=>Value.isInt k v
 |.inr x,v=>Value.isStrOf x v
noncomputable def keyH(w:b9):F0->Int
 |.inl k=>hashInt k
 |.inr x=>hashStr w x
theorem bm:∀{k:F0}{v:b7},xX k v=a9->(∃i t,k=Sum.inl i/\v=Value.int i t)\/(∃x t,k=ABb x/\v=Value.str x t)
 |.inl i,v,h=>by obtain⟨t,e⟩:=Value.isInt_shape (k:=i) (v:=v) h;exact .inl ⟨i,t,rfl,e⟩
 |.inr x,v,h=>by obtain⟨t,e⟩:=Value.isStrOf_shape (x:=x) (v:=v) h;exact .inr ⟨x,t,rfl,e⟩
theorem Ah(i:Int)(t:Tok):xX (.inl i) (.int i t)=a9:=by simp[xX,Value.isInt]
theorem Ag(x:b8)(t:Tok):xX (.inr x) (.str x t)=a9:=by simp[xX,Value.isStrOf]
theorem IL(a b:Int):decide ((Sum.inl a:F0)=Sum.inl b)=(a==b):=by by_cases e:a=b;subst e;simp;have h:¬(Sum.inl a:F0)=Sum.inl b:=λq=>e<|Sum.inl.inj q;rw[dF_ h];exact(beq_eq_false_iff_ne.mpr e).symm
theorem DM(a b:b8):decide ((ABb a:F0)=ABb b)=decide (a=b):=by by_cases e:a=b;subst e;simp;have h:¬(ABb a:F0)=ABb b:=λq=>e<|Sum.inr.inj q;rw[dF_ h,dF_ e]
theorem IK(a:Int)(b:b8):decide ((Sum.inl a:F0)=ABb b)=bt:=dF_<|λq=>nomatch q
theorem IJ(a:b8)(b:Int):decide ((ABb a:F0)=Sum.inl b)=bt:=dF_<|λq=>nomatch q
noncomputable def eD(prog:c5)(w:b9):PySem.KeyKind prog w F0 where
 is:=xX
 hash:=keyH w
 inj:=λv a b f d=>by
  rcases bm f with⟨i,t,rfl,rfl⟩|⟨x,t,rfl,rfl⟩
  rcases bm d with⟨j,u,rfl,e⟩|⟨y,u,rfl,e⟩
  injection e with e1 _;rw[e1];exact nomatch e
  rcases bm d with⟨j,u,rfl,e⟩|⟨y,u,rfl,e⟩
  exact nomatch e
  injection e with e1 _;rw[e1]
 byValue:=λk v h=>by rcases bm h with⟨i,t,rfl,rfl⟩|⟨x,t,rfl,rfl⟩<;>rfl
 pyHash:=λc h=>by
  rcases bm c with⟨i,t,rfl,rfl⟩|⟨x,t,rfl,rfl⟩
  exact Nx h;exact Nw h
 eqBool:=λg c h=>by
  rcases bm g with⟨i,t,rfl,rfl⟩|⟨x,t,rfl,rfl⟩
  rcases bm c with⟨j,u,rfl,rfl⟩|⟨y,u,rfl,rfl⟩
  rw[IL]at h;exact wpAny_eqBool_int h;rw[IK]at h;exact NF i t y u _ _ _ _ h;rcases bm c with⟨j,u,rfl,rfl⟩|⟨y,u,rfl,rfl⟩
  rw[IJ]at h;exact NE x t j u _ _ _ _ h;rw[DM]at h;exact wpAny_eqBool_str h
 «strs»:=λk x t v h=>by
  rcases bm h with⟨i,u,rfl,e⟩|⟨y,u,rfl,e⟩
  exact nomatch e
  injection e with e1 _;subst e1;cases v<;>rfl
theorem uT(prog:c5)(w:b9)(i:Int)(t:Tok):(eD prog w).is (.inl i) (.int i t)=a9:=Ah i t
theorem uS(prog:c5)(w:b9)(x:b8)(t:Tok):(eD prog w).is (.inr x) (.str x t)=a9:=Ag x t
inductive V where
 |non|bl (b:Bool)|int (i:Int)|str (x:b8)|byt (b:Array UInt8)|flt (b:UInt64)|ref (a:c6)|ty (n:String)
 deriving DecidableEq
def aN:V->b7->Prop
 |.non,u=>u=ABr
 |.bl b,u=>u=Mz b
 |.int i,u=>∃t,u=Value.int i t
 |.str x,u=>∃t,u=Value.str x t
 |.byt b,u=>∃t,u=Value.bytes b t
 |.flt b,u=>∃t,u=Value.float b t
 |.ref a,u=>u=ABO a
 |.ty n,u=>u=L9 n
abbrev aw:List V->List b7->Prop:=Paired aN
theorem aw.length(r:aw xs us):xs.length=us.length:=Paired.length r
theorem aw.get:∀{xs:List V}{us:List b7}{i:Nat}{x:V},aw xs us->xs[i]?=a7 x->∃u,us[i]?=a7 u/\aN x u
 |_,_,_,_,.nil,e=>by simp at e
 |_,_,0,_,.cons r _,e=>by simp at e;subst e;exact⟨_,rfl,r⟩
 |_,_,i+1,x,.cons _ t,e=>by obtain⟨u,h1,h2⟩:=aw.get (i:=i) (x:=x) t (by simpa using e);exact⟨u,by simpa using h1,h2⟩
theorem aw.set(r:aN x u):∀{xs:List V}{us:List b7} (i:Nat),aw xs us->aw (xs.set i x) (us.set i u)
 |_,_,_,.nil=>.nil
 |_,_,0,.cons _ t=>.cons r t
 |_,_,i+1,.cons q t=>.cons q<|aw.set r i t
theorem aw.append(h:aw xs us)(s:aw ys ws):aw (xs++ys) (us++ws):=by
 induction h with
 |nil=>exact s
 |cons r t i=>exact .cons r i
theorem aw.take:∀{xs:List V}{us:List b7} (n:Nat),aw xs us->aw (xs.take n) (us.take n)
 |_,_,0,_=>.nil
 |_,_,_+1,.nil=>.nil
 |_,_,n+1,.cons r t=>.cons r<|aw.take n t
theorem aw.drop:∀{xs:List V}{us:List b7} (n:Nat),aw xs us->aw (xs.drop n) (us.drop n)
 |_,_,0,r=>r
 |_,_,_+1,.nil=>.nil
 |_,_,n+1,.cons _ t=>aw.drop n t
def Kc:Option V->Option b7->Prop
 |some v,a7 u=>aN v u
 |none,a8=>True
 |_,_=>False
def KV{κ:Type}:List (κ×V)->List (κ×b7)->Prop:=Paired λ(p:κ×V) (q:κ×b7)=>p.1=q.1/\aN p.2 q.2
noncomputable def kV:F0->V
 |.inl i=>.int i
 |.inr x=>.str x
inductive HO where
 |lst (xs:List V)
 |tup (xs:List V)
 |dK (kvs:List (F0×V))|dT (kvs:List (List F0×V))
 |set (S:Int->Bool) (n:Nat)
 |ins (C dx:c6) (fs:List (b8×V))
 |own (x:c6)
 |xd (fs:List (b8×V))
 |met (f x:c6)
 |rng (lo hi:Int)
 |frz (o:c7) (u:HO)
 |tbl (ps:Array b7)
 |ext (φ:c5->b9->c8->Prop)
abbrev Hp:=c6->Option HO
noncomputable def v5(H:Hp)(a:c6)(o:HO):Hp:=λb=>if b=a then a7 o else H b
theorem bx:v5 H a o a=a7 o:=by unfold v5;rw[n6 rfl]
theorem aA(h:b≠a):v5 H a o b=H b:=by unfold v5;rw[n9 h]
theorem xL{H:Hp}{a b:c6}{o u:HO}(h:H a=a7 o)(h':H b=a7 u)(d:o≠u):a≠b:=by intro e;subst e;rw[h]at h';exact d<|C4 h'
theorem am{H:Hp}{a b:c6}{o:HO}(h:H a=a7 o)(h':H b=a8):a≠b:=by intro e;subst e;rw[h]at h';cases h'
section
variable(P:c5)(w:b9)
def DV(h:c8)(a:c6)(s:Array b7):Prop:=∃o,h.get? a=a7 o/\o.cls=.type "tuple"/\(∃n,o.data=.seq s n)/\o.dict=a8
theorem DV.tup:DV h a items->IsTup h a items:=λ⟨o,e,c,⟨n,d⟩,_⟩=>⟨o,e,c,n,d⟩
theorem DV.new(h:c8)(s:Array b7):DV (h.push { cls:=.type "tuple",data:=.seq s }) h.objs.size s:=⟨_,A8 _ rfl,rfl,⟨_,rfl⟩,rfl⟩
def cS(H:Hp)(h:c8)(a:c6):HO->Prop
 |.lst xs=>xs.length<=sizeLine/\∃(its:List b7) (n:Nat),aw xs its/\h.get? a=a7 { cls:=.type "list",data:=.seq its.toArray n }
 |.tup xs=>xs.length<=sizeLine/\∃its:List b7,aw xs its/\DV h a its.toArray
 |.dK kvs=>kvs.length<=sizeLine/\(a==c9)=bt/\∃vs,KV kvs vs/\h.DictOf (eD P w) a vs
 |.dT kvs=>kvs.length<=sizeLine/\(a==c9)=bt/\∃xs:List (List F0×c6×b7),Paired (λ(p:List F0×V) (q:List F0×c6×b7)=>p.1=q.1/\H q.2.1=a7 (.tup<|p.1.map kV)/\aN p.2 q.2.2) kvs xs /\∃o es ep,h.get? a=a7 o/\o.ExactDict/\o.data=.dict es ep/\es.toList=xs.map (d5<|tupleKind<|eD P w)/\(xs.map (·.1)).Nodup
 |.set S n=>h.SetOf (intKind P w) a S n
 |.ins C dx fs=>H dx=a7 (.own a)/\fs.length<=1000/\dx≠a/\h.get? a=a7 (PySem.W.instObj C dx) /\∃mA,h.Ns1 dx mA/\(∀f,Kc (fs.lookup f)<|mA f)/\PySem.Within mA (fs.map (·.1))
 |.own _=>∃o,h.get? a=a7 o
 |.xd fs=>∃mA,h.Ns1 a mA/\∀f,Kc (fs.lookup f)<|mA f
 |.rng lo hi=>∃t u v,h.get? a=a7 { cls:=.type "range",data:=.fields #[.int lo t,.int hi u,.int 1 v] }
 |.frz o u=>h.get? a=a7 o/\cS H h a u
 |.tbl ps=>h.get? a=a7 { cls:=.none,data:=.fields ps }
 |.met f x=>h.get? a=a7 (O0 (.ref f)<|.ref x)
 |.ext φ=>φ P w h/\(∃o,h.get? a=a7 o)/\∀h1 h2:c8,φ P w h1->(∀o,h1.get? a=a7 o->h2.get? a=a7 o)->φ P w h2
def D2(H:Hp)(h:c8):Prop:=∀a o,H a=a7 o->cS P w H h a o
end
section
variable{P:c5}{w:b9}{H H':Hp}{h h':c8}{a:c6}{o:HO}
theorem cS.lt(x:cS P w H h a o):a<h.objs.size:=by
 cases o with
 |lst xs=>obtain⟨_,_,_,_,e⟩:=x;exact v9 e
 |tup xs=>obtain⟨_,_,_,p⟩:=x;exact p.tup.lt
 |dK s=>obtain⟨_,_,_,_,o,_,_,e,_⟩:=x;exact v9 e
 |dT s=>obtain⟨_,_,_,_,o,_,_,e,_⟩:=x;exact v9 e
 |set S n=>obtain⟨o,_,_,_,e,_⟩:=x;exact v9 e
 |ins C d b=>obtain⟨_,_,_,e,_⟩:=x;exact v9 e
 |own y=>obtain⟨_,e⟩:=x;exact v9 e
 |xd b=>obtain⟨_,⟨_,_,_,e,_⟩,_⟩:=x;exact v9 e
 |rng l hi=>obtain⟨_,_,_,e⟩:=x;exact v9 e
 |frz c u=>obtain⟨e,_⟩:=x;exact v9 e
 |tbl ps=>exact v9<|show h.get? a=a7 _ from x
 |met f y=>exact v9<|show h.get? a=a7 _ from x
 |ext φ=>obtain⟨_,⟨_,e⟩,_⟩:=x;exact v9 e
theorem Paired.mapP{α β:Type}{F G:α->β->Prop}:∀{l₁:List α}{l₂:List β},Paired F l₁ l₂->(∀a b,F a b->G a b)->Paired G l₁ l₂
 |_,_,.nil,_=>.nil
 |_,_,.cons r t,f=>.cons (f _ _ r)<|Paired.mapP t f
theorem cS.stay(x:cS P w H h a o)(k:∀b u,(b=a\/H b=a7 (.own a))->h.get? b=a7 u->h'.get? b=a7 u)(D:∀b,H b=a7 (.own a)->H' b=a7 (.own a)) (E:∀b xs,H b=a7 (.tup xs)->H' b=a7 (.tup xs)):cS P w H' h' a o:=by
 induction o with
 |lst xs=>obtain⟨z,its,n,r,e⟩:=x;exact⟨z,its,n,r,k _ _ (.inl rfl) e⟩
 |tup xs=>obtain⟨z,its,r,g,e,c⟩:=x;exact⟨z,its,r,g,k _ _ (.inl rfl) e,c⟩
 |dK s=>obtain⟨z,y,vs,r,g,es,i,e,c⟩:=x;exact⟨z,y,vs,r,g,es,i,k _ _ (.inl rfl) e,c⟩
 |dT s=>obtain⟨z,y,xs,r,g,es,i,e,c⟩:=x;exact⟨z,y,xs,Paired.mapP r λp q z=>⟨z.1,E _ _ z.2.1,z.2.2⟩,g,es,i,k _ _ (.inl rfl) e,c⟩
 |set S n=>obtain⟨g,es,i,t,e,c⟩:=x;exact⟨g,es,i,t,k _ _ (.inl rfl) e,c⟩
 |ins C I B=>obtain⟨d,z,G,e,A,⟨j,es,i,m,c⟩,r⟩:=x;exact⟨D _ d,z,G,k _ _ (.inl rfl) e,A,⟨j,es,i,k _ _ (.inr d) m,c⟩,r⟩
 |own y=>obtain⟨g,e⟩:=x;exact⟨g,k _ _ (.inl rfl) e⟩
 |xd B=>obtain⟨A,⟨j,es,i,e,c⟩,r⟩:=x;exact⟨A,⟨j,es,i,k _ _ (.inl rfl) e,c⟩,r⟩
 |rng J hi=>obtain⟨t,u,v,e⟩:=x;exact⟨t,u,v,k _ _ (.inl rfl) e⟩
 |frz g u F=>obtain⟨e,q⟩:=x;exact⟨k _ _ (.inl rfl) e,F q⟩
 |tbl ps=>have e:h.get? a=a7 { cls:=.none,data:=.fields ps }:=x;show h'.get? a=a7 { cls:=.none,data:=.fields ps };exact k a _ (.inl rfl) e
 |met f y=>have e:h.get? a=a7 (O0 (.ref f)<|.ref y):=x;show h'.get? a=a7 (O0 (.ref f)<|.ref y);exact k a _ (.inl rfl) e
 |ext φ=>obtain⟨p,⟨o,e⟩,l⟩:=x;exact⟨l _ _ p λo q=>k _ _ (.inl rfl) q,⟨o,k _ _ (.inl rfl) e⟩,l⟩
theorem D2.lt(x:D2 P w H h)(e:H a=a7 o):a<h.objs.size:=(x a o e).lt
theorem D2.fresh(x:D2 P w H h)(e:h.objs.size<=a):H a=a8:=by
 cases q:H a with
 |none=>rfl
 |some u=>exact o0 (Kd (x.lt q) e)<|G5 _
theorem D2.kept(x:D2 P w H h)(k:∀b u,h.get? b=a7 u->h'.get? b=a7 u):D2 P w H h':=λa o e =>
 (x a o e).stay (λb u _ q=>k b u q) (λ_ q=>q) λ_ _ q=>q
theorem D2.laid(x:D2 P w H h)(k:∀b u,h.get? b=a7 u->h'.get? b=a7 u)(p:h.objs.size<=a)(n:cS P w (v5 H a o) h' a o):D2 P w (v5 H a o) h':=λb u e=>by have f:=x.fresh p;by_cases d:b=a;subst d;rw[bx]at e;cases e;exact n;rw[aA d]at e;exact(x b u e).stay (λc v _ q=>k c v q) (λc q=>by rw[aA<|am q f];exact q) λc xs q=>by rw[aA<|am q f];exact q
end
def Rd(H:Hp)(a:c6)(u:HO):Prop:=H a=a7 u\/∃o,H a=a7 (.frz o u)
theorem Rd.ok(r:Rd H a u)(x:D2 P w H h):cS P w H h a u:=by
 rcases r with r|⟨o,r⟩
 exact x a u r;obtain⟨_,q⟩:=x a _ r;exact q
def Nh:Option HO->Prop
 |some (.lst _)=>True
 |some (.dK _)=>True
 |some (.dT _)=>True
 |some (.set _ _)=>True
 |some (.ins _ _ _)=>True
 |some (.ext _)=>True
 |_=>False
section
variable{P:c5}{w:b9}{H:Hp}{h h':c8}{x e:c6}{o':HO}
theorem D2.write(ok:D2 P w H h)(m:Nh (H x))(i:e=x\/H e=a7 (.own x))(k:∀b u,b≠e->h.get? b=a7 u->h'.get? b=a7 u)(o:∃u,h'.get? e=a7 u)(g:cS P w (v5 H x o') h' x o'):D2 P w (v5 H x o') h':=λb u q=>by
 have n:∀c y,H c=a7 (.own y)->c≠x:=λc y r z=>by subst z;rw[r]at m;exact m
 have p:∀c xs,H c=a7 (.tup xs)->c≠x:=λc xs r z=>by subst z;rw[r]at m;exact m
 by_cases d:b=x;subst d;rw[bx]at q;cases q;exact g;rw[aA d]at q;by_cases a:b=e;have j:H b=a7 (.own x):=by rcases i with z|z;exact o0 (a.trans z) d;rw[a];exact z
 rw[q]at j;cases j;obtain⟨v,l⟩:=o;exact⟨v,by rw[a];exact l⟩;refine(ok b u q).stay (λc v f r=>k c v ?_ r) (λc r=>by rw[aA<|n c b r];exact r) λc xs r=>by rw[aA<|p c xs r];exact r
 rcases f with rfl|f;exact a;rintro rfl;rcases i with z|z;exact n c b f z;rw[f]at z;cases z;exact d rfl
end
structure Un(fs ex:List c6)(H H':Hp)(h h':c8):Prop where
 keep:∀b o,h.get? b=a7 o->H b=a8->b∉fs->b∉ex->h'.get? b=a7 o
 slot:∀b o,h.get? b=a7 o->H b=a8->b∈fs->b∉ex->∃sl,h'.get? b=a7 { o with slots:=sl }
 free:∀b o,h.get? b=a7 o->H b=a8->b∉ex->H' b=a8
 there:∀b o,h.get? b=a7 o->b∉ex->∃o',h'.get? b=a7 o'
 tups:∀b xs,H b=a7 (.tup xs)->H' b=a7 (.tup xs)
 frzs:∀b o u,H b=a7 (.frz o u)->H' b=a7 (.frz o u)
 tbls:∀b ps,H b=a7 (.tbl ps)->∃more,H' b=a7 (.tbl<|ps++more)
section
variable{fs fs' ex ex':List c6}{H H1 H2:Hp}{h h1 h2 h':c8}{a x e:c6}{o:HO}
theorem Un.any(u:Un fs ex H H1 h h1)(q:h.get? b=a7 ob)(n:H b=a8)(x:b∉ex):∃sl,h1.get? b=a7 { ob with slots:=sl }:=by by_cases d:b∈fs;exact u.slot b ob q n d x;exact⟨ob.slots,u.keep b ob q n d x⟩
theorem Un.kept(k:∀b u,h.get? b=a7 u->h'.get? b=a7 u):Un fs ex H H h h':=⟨λb c q _ _ _=>k b c q,λb c q _ _ _=>⟨c.slots,k b c q⟩,λ_ _ _ n _=>n,λb c q _=>⟨c,k b c q⟩,λ_ _ q=>q,λ_ _ _ q=>q,λ_ ps q=>⟨#[],by rw[q];simp⟩⟩
theorem Un.refl:Un fs ex H H h h:=Un.kept λ_ _ q=>q
theorem Un.laid(k:∀b u,h.get? b=a7 u->h'.get? b=a7 u)(p:h.objs.size<=a)(f:H a=a8):Un fs ex H (v5 H a o) h h' where
 keep:=λb u q _ _ _=>k b u q
 slot:=λb u q _ _ _=>⟨u.slots,k b u q⟩
 free:=λb u q n _=>by rw[aA<|x6<|Kd (v9 q) p];exact n
 there:=λb u q _=>⟨u,k b u q⟩
 tups:=λb xs q=>by rw[aA<|am q f];exact q
 frzs:=λb u xs q=>by rw[aA<|am q f];exact q
 tbls:=λb ps q=>⟨#[],by rw[aA<|am q f,q];simp⟩
theorem Un.write(m:Nh (H x))(i:e=x\/H e=a7 (.own x))(k:∀b u,b≠e->h.get? b=a7 u->h'.get? b=a7 u)(c:∃u,h'.get? e=a7 u):Un fs ex H (v5 H x o) h h':=by
 have g:∀b,H b=a8->b≠x:=λb n z=>by subst z;rw[n]at m;exact m
 have f:∀b,H b=a8->b≠e:=λb n z=>by subst z;rcases i with r|r;exact g b n r;rw[n]at r;cases r
 have d:∀b u,H b=a7 u->¬Nh (a7 u)->b≠x:=λb u q j z=>by subst z;rw[q]at m;exact j m
 refine⟨λb u q n _ _=>k b u (f b n) q,λb u q n _ _=>⟨u.slots,k b u (f b n) q⟩,λb u q n _=>by rw[aA<|g b n];exact n,λb u q _=>?_,λb xs q=>by rw[aA<|d b _ q λz=>z];exact q,λb u xs q=>by rw[aA<|d b _ q λz=>z];exact q,λb ps q=>⟨#[],by rw[aA<|d b _ q λz=>z,q];simp⟩⟩;by_cases a:b=e;subst a;exact c;exact⟨u,k b u a q⟩
end
noncomputable def trk(h:c8)(H:Hp):List c6:=(B9 h.objs.size).filter λa=>(H a).isSome
noncomputable def CH(h:c8)(H:Hp):c8:=PySem.W.hideAll h<|trk h H
theorem Aq(h:c8)(H:Hp):(CH h H).objs.size=h.objs.size:=PySem.W.hideAll_size _ _
theorem CG(e:h.get? b=a7 o)(n:H b=a8):(CH h H).get? b=a7 o:=PySem.W.hideAll_get _ e λd=>by have q:(H b).isSome=a9:=(z9.mp d).2;rw[n]at q;simp at q
theorem EY(e:(CH h H).get? b=a7 o):h.get? b=a7 o/\H b=a8:=by
 have a:h.get? b=a7 o:=PySem.W.of_hideAll (trk h H) e;refine⟨a,?_⟩;cases q:H b with
 |none=>rfl
 |some x=>have d:b∈trk h H:=z9.mpr ⟨F7.mpr<|v9 a,by simp[q]⟩;have z:(CH h H).get? b=a8:=PySem.W.hideAll_none (trk h H) d;rw[z]at e;cases e
noncomputable def Gy(g h:c8)(L:c6):List (c6×c7):=(B9 h.objs.size).filterMap λa=>if a=L\/(g.get? a).isSome=a9 then a8 else(h.get? a).map λo=>(a,o)
noncomputable def aI(g h:c8)(L d:c6):List (c6×c7):=(Gy g h L).filter λp=>decide<|p.1≠d
structure Mod(K:t6)(mg:b8->Option b7)(base:c8):Prop where
 kin:K.In base
 glob:base.Ns d6 mg
 blt:∃mb,base.Ns builtinsNs mb/\∀x:b8,x≠"__name__"->mb x=d7 x
 nolimit:base.NoLimit
/-- the context: a def's body (or a comprehension's block) running. base: fixed through the whole law;s₀,H₀: the entry;outer: the frames whose slots others may change (a def's callers);stack: all frames that run;
  ex: iterators that were made fE of the entry and are walked here (a comprehension's);fn: the names whose cells were made at the entry (a def: all;a comprehension's block: its own);calm: not fG an except suite;pn: pins that every state bears;xe: what is wanted of an exception that leaves the code -/
structure Cx where
 prog:c5
 w:b9
 K:t6
 mg:b8->Option b7
 base:c8
 A:d8
 N:List b8
 s₀:d9
 H₀:Hp
 env:Env
 outer:List Env
 stack:List Env
 ex:List c6
 fn:b8->Bool
 calm:Bool
 pn:List (c6×c7)
 xe:b7->d9->Prop
noncomputable def G2(l:List Env):List c6:=l.filterMap (·.frame)
noncomputable abbrev Cx.fs(X:Cx):List c6:=G2 X.outer
def L5(c:e6)(x:b8):Prop:=c.names.lookup x=a7 .local\/c.names.lookup x=a7 .cell\/c.names.lookup x=a7 .free
def LJ(c:e6)(x:b8):Prop:=c.names.lookup x=a7 .local\/c.names.lookup x=a7 .cell
def Look(env:Env)(h:c8)(m:b8->Option b7)(x:b8)(u:b7):Prop:=(env.kindOf x=a7 .local/\m x=a7 u)\/((env.kindOf x=a7 .cell\/env.kindOf x=a7 .free)/\∃c,env.cells.lookup x=a7 c/\h.IsCell c (a7 u))
structure Cx.Ok(X:Cx):Prop where
 mod:Mod X.K X.mg X.base
 kind:X.env.scope.kind=.function
 glob:X.env.globals=d6
 blt:X.env.builtins=builtinsNs
 above:X.s₀.heap.objs.size<=X.env.locals
 inj:∀x y c,X.env.cells.lookup x=a7 c->X.env.cells.lookup y=a7 c->x=y
 has:∀x,(X.env.kindOf x=a7 .cell\/X.env.kindOf x=a7 .free)->∃c,X.env.cells.lookup x=a7 c
 cab:∀x c,X.fn x=a9->X.env.cells.lookup x=a7 c->X.s₀.heap.objs.size<=c
 hd:X.calm=a9->X.A.handled=a8
 frames:X.A.frames=a7 X.stack
 stk:X.stack=X.outer\/(X.stack=X.env::X.outer/\X.env.frame=a7 X.env.locals)
 exf:∀b∈X.ex,b≠X.env.locals/\∀x c,X.env.cells.lookup x=a7 c->c≠b
 bs:∀b o,X.base.get? b=a7 o->X.s₀.heap.get? b=a7 o/\X.H₀ b=a8
 bsz:X.base.objs.size<=X.s₀.heap.objs.size
 noex:∀b o,X.base.get? b=a7 o->b∉X.ex
 exfs:∀b∈X.ex,b∉X.fs
 funs:X.s₀.heap.FunFrames X.base X.outer
 frf:∀b∈X.fs,X.H₀ b=a8
structure p7(X:Cx)(pins:List (c6×c7))(σ:List (Option V))(H:Hp)(s:d9):Prop where
 ok:X.Ok
 os:s.os=X.s₀.os
 bare:e7 s.gens
 base:Un X.fs X.ex X.H₀ H X.s₀.heap s.heap
 loc:∃m,s.heap.Ns X.env.locals m/\∀(i:Nat) (x:b8) (v:V),X.N[i]?=a7 x->σ[i]?=a7 (a7 v)->L5 X.env.scope x->∃u,aN v u/\Look X.env s.heap m x u
 cell:∀x c,X.env.cells.lookup x=a7 c->∃v,s.heap.IsCell c v
 free:H X.env.locals=a8
 freeC:∀x c,X.env.cells.lookup x=a7 c->H c=a8
 pin:∀p∈X.pn++pins,s.heap.get? p.1=a7 p.2/\H p.1=a8/\p.1≠X.env.locals/\p.1∉X.fs/\∀v,p.2.data≠.cell v
 hok:D2 X.prog X.w H s.heap
 len:σ.length=X.N.length
section
variable{X:Cx}{pins:List (c6×c7)}{σ:List (Option V)}{H H':Hp}{s:d9}{h':c8}
theorem Cx.Ok.nofr(ok:X.Ok)(e:X.base.get? b=a7 o):b∉X.fs:=λd=>by have:=(ok.funs.mem d).1;rw[e]at this;cases this
theorem p7.bs(I:p7 X pins σ H s):∀b o,X.base.get? b=a7 o->s.heap.get? b=a7 o/\H b=a8:=λb o e =>
 ⟨I.base.keep b o (I.ok.bs b o e).1 (I.ok.bs b o e).2 (I.ok.nofr e)<|I.ok.noex b o e,I.base.free b o (I.ok.bs b o e).1 (I.ok.bs b o e).2<|I.ok.noex b o e⟩
theorem p7.bk(I:p7 X pins σ H s):∀b o,X.base.get? b=a7 o->s.heap.get? b=a7 o:=λb o e=>(I.bs b o e).1
theorem p7.mod(I:p7 X pins σ H s):Mod X.K X.mg X.base:=I.ok.mod
theorem p7.kIn(I:p7 X pins σ H s):X.K.In s.heap:=I.ok.mod.kin.keeps I.bk
theorem p7.lt(I:p7 X pins σ H s):X.env.locals<s.heap.objs.size:=let ⟨_,hn,_⟩:=I.loc;hn.lt
theorem p7.sz(I:p7 X pins σ H s):X.s₀.heap.objs.size<=s.heap.objs.size:=G1 I.ok.above<|Lv I.lt
theorem p7.nofs(I:p7 X pins σ H s)(h:s.heap.objs.size<=a):a∉X.fs:=λd=>by obtain⟨_,o,D,_⟩:=I.ok.funs.mem d;exact o0 (Kd (v9 D)<|G1 I.sz h)<|G5 _
theorem p7.cne(I:p7 X pins σ H s):∀x c,X.env.cells.lookup x=a7 c->c≠X.env.locals:=λx c e z=>by obtain⟨v,o,D,d⟩:=I.cell x c e;obtain⟨m,⟨o',es,i,a,h,_⟩,_⟩:=I.loc;rw[z,a]at D;cases D;rw[h]at d;cases d
theorem p7.funs(I:p7 X pins σ H s):s.heap.FunFrames X.base X.outer:=by
 have a:∀(l:List Env),(∀b∈G2 l,b∈X.fs)->X.s₀.heap.FunFrames X.base l->s.heap.FunFrames X.base l:=by
  intro l;induction l with
  |nil=>intro _ _;trivial
  |cons env r j=>intro hs g;obtain⟨k,⟨L,o,f,n,D,c⟩,i⟩:=g;have h:L∈X.fs:=hs L (by unfold G2;rw[LX,f];exact D4);obtain⟨m,e⟩:=I.base.slot L o D (I.ok.frf L h) h λz=>I.ok.exfs L z h;exact⟨k,⟨L,_,f,n,e,c⟩,j (λb d=>hs b<|by unfold G2;rw[LX,f];exact A2 _ d) i⟩
 exact a X.outer (λ_ d=>d) I.ok.funs
theorem p7.stack(I:p7 X pins σ H s):s.heap.FunFrames X.base X.stack:=by
 rcases I.ok.stk with e|⟨e,f⟩
 rw[e];exact I.funs;rw[e];obtain⟨m,n,_⟩:=I.loc;refine .cons (by rw[I.ok.kind];decide) f n ?_ I.funs;exact Heap.get?_none_of_le<|G1 I.ok.bsz I.ok.above
theorem p7.stkSub(I:p7 X pins σ H s):∀b∈G2 X.stack,b∈X.env.locals::X.fs:=λb d=>by
 rcases I.ok.stk with e|⟨e,f⟩
 rw[e]at d;exact A2 _ d;rw[e]at d;unfold G2 at d;rw[LX,f]at d;exact d
theorem p7.stkFree(I:p7 X pins σ H s):∀b∈G2 X.stack,H b=a8:=λb d=>by rcases z5.mp (I.stkSub b d)with e|d;rw[e];exact I.free;obtain⟨_,o,D,_⟩:=I.ok.funs.mem d;exact I.base.free b o D (I.ok.frf b d) λz=>I.ok.exfs b z d
theorem p7.step{g':Array GenState}{t':Nat}{d':Drawn}{ch:List c6}(I:p7 X pins σ H s)(a:∀b∈ch,(b∈X.ex\/X.s₀.heap.objs.size<=b)/\b≠X.env.locals/\(∀x c,X.env.cells.lookup x=a7 c->c≠b)/\∀p∈X.pn++pins,p.1≠b)(g:∀b o,b≠X.env.locals->b∉X.fs->b∉ch->s.heap.get? b=a7 o->H b=a8->h'.get? b=a7 o)(slot:∀b o,b≠X.env.locals->b∈X.fs->b∉ch->s.heap.get? b=a7 o->H b=a8->∃sl,h'.get? b=a7 { o with slots:=sl }) (f:∀b o,b∉ch->s.heap.get? b=a7 o->H b=a8->H' b=a8)(A:∀b o,b∉ch->s.heap.get? b=a7 o->∃o',h'.get? b=a7 o')(G:∀b xs,H b=a7 (.tup xs)->H' b=a7 (.tup xs)) (E:∀b o u,H b=a7 (.frz o u)->H' b=a7 (.frz o u)) (F:∀b ps,H b=a7 (.tbl ps)->∃more,H' b=a7 (.tbl<|ps++more))(ns:∀m,s.heap.Ns X.env.locals m->h'.Ns X.env.locals m) (K:D2 X.prog X.w H' h') (S:e7 g') :
  p7 X pins σ H' { s with heap:=h',gens:=g',drawn:=d',toks:=t' }:=by
 have L:∀b o,X.s₀.heap.get? b=a7 o->b≠X.env.locals:=λb o e=>x6<|Kd (v9 e) I.ok.above;have C:∀b o,X.s₀.heap.get? b=a7 o->b∉X.ex->b∉ch:=λb o e h y=>by rcases(a b y).1 with z|z;exact h z;exact o0 (Kd (v9 e) z)<|G5 _
 have cellK:∀x c,X.env.cells.lookup x=a7 c->∀v,s.heap.IsCell c v->h'.IsCell c v:=λx c e v ⟨o,D,J⟩=>by have j:c∉ch:=λz=>(a c z).2.2.1 x c e rfl;by_cases N:c∈X.fs;obtain⟨sl,q⟩:=slot c o (I.cne x c e) N j D<|I.freeC x c e;exact⟨_,q,J⟩;exact⟨o,g c o (I.cne x c e) N j D<|I.freeC x c e,J⟩
 refine⟨I.ok,I.os,S,⟨λb o e n y h=>?_,λb o e n y h=>?_,λb o e n h=>?_,λb o e h=>?_,λb xs e=>G b xs<|I.base.tups b xs e,λb o xs e=>E b o xs<|I.base.frzs b o xs e,λb ps e=>?_⟩,?_,λx c e=>?_,?_,λx c e=>?_,λp O=>?_,K,I.len⟩;exact g b o (L b o e) y (C b o e h) (I.base.keep b o e n y h)<|I.base.free b o e n h;obtain⟨sl,t⟩:=I.base.slot b o e n y h;obtain⟨M,B⟩:=slot b _ (L b o e) y (C b o e h) t<|I.base.free b o e n h;exact⟨M,B⟩;obtain⟨o',t⟩:=I.base.there b o e h;exact f b o' (C b o e h) t<|I.base.free b o e n h;obtain⟨o',t⟩:=I.base.there b o e h;exact A b o' (C b o e h) t;obtain⟨V,t⟩:=I.base.tbls b ps e;obtain⟨W,B⟩:=F b _ t;exact⟨V++W,by rw[B,Array.append_assoc]⟩;obtain⟨m,U,T⟩:=I.loc;refine⟨m,ns m U,λi x v t B R=>?_⟩;obtain⟨u,r,l⟩:=T i x v t B R;refine⟨u,r,?_⟩;rcases l with l|⟨k,c,e,z⟩
 exact .inl l;exact .inr ⟨k,c,e,cellK x c e _ z⟩;obtain⟨v,z⟩:=I.cell x c e;exact⟨v,cellK x c e v z⟩;obtain⟨m,⟨o,_,_,D,_⟩,_⟩:=I.loc;exact f _ o (λz=>(a _ z).2.1 rfl) D I.free;obtain⟨v,o,D,J⟩:=I.cell x c e;exact f c o (λz=>(a c z).2.2.1 x c e rfl) D<|I.freeC x c e;obtain⟨e,n,P,Q,d⟩:=I.pin p O;have j:p.1∉ch:=λz=>(a p.1 z).2.2.2 p O rfl;exact⟨g p.1 p.2 P Q j e n,f p.1 p.2 j e n,P,Q,d⟩
theorem p7.un{t':Nat}(I:p7 X pins σ H s)(u:Un X.fs [] H H' s.heap h')(K:D2 X.prog X.w H' h'):p7 X pins σ H' { s with heap:=h',toks:=t' }:=by obtain⟨m,⟨o,es,i,D,r⟩,_⟩:=id I.loc;obtain⟨l,L⟩:=u.any D I.free (by simp);exact I.step (g':=s.gens) (d':=s.drawn) (ch:=[]) (λ_ z=>nomatch z) (λb o _ h _ e n=>u.keep b o e n h<|by simp) (λb o _ h _ e n=>u.slot b o e n h<|by simp) (λb o _ e n=>u.free b o e n<|by simp) (λb o _ e=>u.there b o e<|by simp) u.tups u.frzs u.tbls (λg f=>by obtain⟨o',d,c,a,r'⟩:=f;rw[D]at a;cases a;exact⟨_,d,c,L,r'⟩) K I.bare
theorem p7.call{g':Array GenState}{t':Nat}{d':Drawn}{ch:List c6}(I:p7 X pins σ H s)(u:Un (G2 X.stack) ch H H' s.heap h')(K:D2 X.prog X.w H' h')(S:e7 g')(a:∀b∈ch,(b∈X.ex\/X.s₀.heap.objs.size<=b)/\b≠X.env.locals/\(∀x c,X.env.cells.lookup x=a7 c->c≠b)/\∀p∈X.pn++pins,p.1≠b):p7 X pins σ H' { s with heap:=h',gens:=g',drawn:=d',toks:=t' }:=by obtain⟨m,⟨o,es,k,D,r⟩,_⟩:=id I.loc;obtain⟨q,L⟩:=u.any D I.free λz=>(a _ z).2.1 rfl;exact I.step (ch:=ch) a (λb o L i f e n=>u.keep b o e n (λz=>(z5.mp<|I.stkSub b z).elim L i) f) (λb o _ _ f e n=>u.any e n f) (λb o f e n=>u.free b o e n f) (λb o f e=>u.there b o e f) u.tups u.frzs u.tbls (λl j=>by obtain⟨o',g,d,h,r'⟩:=j;rw[D]at h;cases h;exact⟨_,g,d,L,r'⟩) K S
theorem p7.turned{t':Nat}{it:c6}(I:p7 X pins σ H s)(k:∀b o,b≠it->s.heap.get? b=a7 o->h'.get? b=a7 o)(j:H it=a8)(h:it≠X.env.locals)(h1:it∈X.ex\/X.s₀.heap.objs.size<=it) (h2:∀x c,X.env.cells.lookup x=a7 c->c≠it) (a:∀p∈X.pn++pins,p.1≠it):p7 X pins σ H { s with heap:=h',toks:=t' }:=by
 have t:∀b u,H b=a7 u->b≠it:=λb u e z=>by rw[z,j]at e;cases e
 refine I.step (g':=s.gens) (d':=s.drawn) (ch:=[it]) (λb d=>?_) (λb o _ _ f e _=>k b o (λz=>f<|by simp[z]) e) (λb o _ _ f e _=>⟨o.slots,k b o (λz=>f<|by simp[z]) e⟩) (λ_ _ _ _ n=>n) (λb o f e=>⟨o,k b o (λz=>f<|by simp[z]) e⟩) (λ_ _ e=>e) (λ_ _ _ e=>e) (λb ps e=>⟨#[],by rw[e];simp⟩) (λm g=>?_) (λb u e=>?_) I.bare;have e:b=it:=by simpa using d
 subst e;exact⟨h1,h,h2,a⟩;obtain⟨o,es,i,D,r⟩:=g;exact⟨o,es,i,k _ o (C3 h) D,r⟩;refine(I.hok b u e).stay (λc v f q=>k c v ?_ q) (λ_ q=>q) λ_ _ q=>q;rcases f with z|z;rw[z];exact t b u e;exact t c _ z
theorem p7.tok(I:p7 X pins σ H s)(t:Nat):p7 X pins σ H { s with toks:=t }:=I.un (h':=s.heap) (t':=t) Un.refl I.hok
theorem p7.kept(I:p7 X pins σ H s)(k:∀b u,s.heap.get? b=a7 u->h'.get? b=a7 u):p7 X pins σ H { s with heap:=h',toks:=t' }:=I.un (Un.kept k)<|I.hok.kept k
theorem p7.laid(I:p7 X pins σ H s)(k:∀b u,s.heap.get? b=a7 u->h'.get? b=a7 u)(p:s.heap.objs.size<=a)(n:cS X.prog X.w (v5 H a o) h' a o):p7 X pins σ (v5 H a o) { s with heap:=h',toks:=t' }:=I.un (Un.laid k p<|I.hok.fresh p)<|I.hok.laid k p n
theorem p7.write(I:p7 X pins σ H s)(m:Nh (H x))(i:e=x\/H e=a7 (.own x))(k:∀b u,b≠e->s.heap.get? b=a7 u->h'.get? b=a7 u)(h:∃u,h'.get? e=a7 u)(n:cS X.prog X.w (v5 H x o) h' x o):p7 X pins σ (v5 H x o) { s with heap:=h',toks:=t' }:=I.un (Un.write m i k h)<|I.hok.write m i k h n
theorem p7.pins_of(I:p7 X pins σ H s)(h:∀p∈pins',s.heap.get? p.1=a7 p.2/\H p.1=a8/\p.1≠X.env.locals/\p.1∉X.fs/\∀v,p.2.data≠.cell v):p7 X pins' σ H s:=⟨I.ok,I.os,I.bare,I.base,I.loc,I.cell,I.free,I.freeC,λp a=>(D3.mp a).elim (λz=>I.pin p<|J4 _ z)<|h p,I.hok,I.len⟩
theorem wG{N:List b8}(h:N.Nodup){i j:Nat}{x:b8}(a:N[i]?=a7 x)(b:N[j]?=a7 x):i=j:=by obtain⟨h1,t⟩:=w6.mp a;obtain⟨h2,m⟩:=w6.mp b;exact(List.getElem_inj h).mp<|t.trans m.symm
theorem ze{M:Model}{A:d8}{E:b7->d9->Prop}{i:Nat}{x:b8}{v:V}{u:b7}{Q:Unit->d9->Prop}(I:p7 X pins σ H s)(hN:X.N.Nodup)(hi:X.N[i]?=a7 x)(l:LJ X.env.scope x)(r:aN v u)(h:∀s',p7 X pins (σ.set i<|a7 v) H s'->(∃a,KQ a s.heap s'.heap/\(a=X.env.locals\/X.env.cells.lookup x=a7 a))->Q () s') (hf:X.fn x=a9\/X.env.scope.names.lookup x=a7 .local:=by first|exact .inl rfl|exact .inr rfl|assumption):e8 M A (storeName X.env x u) Q E s:=by
 obtain⟨m,hn,hl⟩:=id I.loc;have R:(X.env.scope.kind==.class||(X.env.scope.kind==.module&&X.env.locals != X.env.globals))=bt:=by rw[I.ok.kind];rfl
 have D:i<σ.length:=by rw[I.len];exact(w6.mp hi).1
 have G:=I.cne;have f:∀{a:c6}{h':c8},(∃o,s.heap.get? a=a7 o/\H a=a8)->KQ a s.heap h'->D2 X.prog X.w H h':=λ{a h'} ha hs b ob e=>by obtain⟨_,_,B⟩:=ha;refine(I.hok b ob e).stay (λc Y g q=>(hs.2 c ?_).trans q) (λ_ q=>q) λ_ _ q=>q;rintro rfl;rcases g with rfl|g;rw[B]at e;cases e;rw[B]at g;cases g
 rcases l with F|F;refine wpAny_storeName_local F hn (λh' ai hs=>?_) R;obtain⟨oL,_,_,aj,_⟩:=id hn;refine h _ ⟨I.ok,I.os,I.bare,⟨λb o e n J l=>?_,λb o e n J l=>?_,I.base.free,λb o e l=>?_,I.base.tups,I.base.frzs,I.base.tbls⟩,⟨_,ai,λj y v' t C Z=>?_⟩,λy c e=>?_,I.free,I.freeC,λp hp=>?_,f ⟨oL,aj,I.free⟩ hs,by simpa using I.len⟩ ⟨_,hs,.inl rfl⟩;exact(hs.2 b<|x6<|Kd (v9 e) I.ok.above).trans<|I.base.keep b o e n J l;obtain⟨sl,t⟩:=I.base.slot b o e n J l;exact⟨sl,(hs.2 b<|x6<|Kd (v9 e) I.ok.above).trans t⟩;obtain⟨o',t⟩:=I.base.there b o e l;exact⟨o',(hs.2 b<|x6<|Kd (v9 e) I.ok.above).trans t⟩;by_cases L:j=i;subst L;rw[hi]at t;cases t;rw[Lp D]at C;cases C;exact⟨u,r,.inl ⟨F,by simp⟩⟩;rw[K1<|C3 L]at C;obtain⟨u',r',q⟩:=hl j y v' t C Z;refine⟨u',r',?_⟩;rcases q with⟨k,e⟩|⟨k,c,e,z⟩
 refine .inl ⟨k,?_⟩;have:y≠x:=λe=>L<|wG hN t<|e ▸ hi;simp[this,e];exact .inr ⟨k,c,e,z.sameBut hs<|G y c e⟩;obtain⟨Y,z⟩:=I.cell y c e;exact⟨Y,z.sameBut hs<|G y c e⟩;obtain⟨e,n,W,nf,d⟩:=I.pin p hp;exact⟨(hs.2 p.1 W).trans e,n,W,nf,d⟩;have K:X.fn x=a9:=by rcases hf with z|z;exact z;rw[z]at F;cases F
 obtain⟨c,g⟩:=I.ok.has x<|.inl F;obtain⟨Y,z⟩:=I.cell x c g;refine wpAny_storeName_cell I.ok.kind F g z<|λh' O hs=>?_;obtain⟨oc,S,T⟩:=id z;refine h { s with heap:=h' } ⟨I.ok,I.os,I.bare,⟨λb o e n J l=>?_,λb o e n J l=>?_,I.base.free,λb o e l=>?_,I.base.tups,I.base.frzs,I.base.tbls⟩,⟨m,hn.sameBut hs<|C3<|G x c g,λj y v' t C Z=>?_⟩,λy U e=>?_,I.free,I.freeC,λp hp=>?_,f ⟨oc,S,I.freeC x c g⟩ hs,by simpa using I.len⟩ ⟨c,hs,.inr g⟩;exact(hs.2 b<|x6<|Kd (v9 e)<|I.ok.cab x c K g).trans<|I.base.keep b o e n J l;obtain⟨sl,t⟩:=I.base.slot b o e n J l;exact⟨sl,(hs.2 b<|x6<|Kd (v9 e)<|I.ok.cab x c K g).trans t⟩;obtain⟨o',t⟩:=I.base.there b o e l;exact⟨o',(hs.2 b<|x6<|Kd (v9 e)<|I.ok.cab x c K g).trans t⟩;by_cases L:j=i;subst L;rw[hi]at t;cases t;rw[Lp D]at C;cases C;exact⟨u,r,.inr ⟨.inl F,c,g,O⟩⟩;rw[K1<|C3 L]at C;obtain⟨u',r',q⟩:=hl j y v' t C Z;refine⟨u',r',?_⟩;rcases q with q|⟨k,U,e,z'⟩
 exact .inl q;refine .inr ⟨k,U,e,z'.sameBut hs ?_⟩;rintro rfl;exact L<|wG hN t<|I.ok.inj _ _ _ e g ▸ hi;by_cases P:U=c;subst P;exact⟨_,O⟩;obtain⟨w2,z2⟩:=I.cell y U e;exact⟨w2,z2.sameBut hs P⟩;obtain⟨e,n,W,nf,d⟩:=I.pin p hp;refine⟨(hs.2 p.1 ?_).trans e,n,W,nf,d⟩;intro q;rw[q,S]at e;have q':oc=p.2:=C4 e;exact d Y<|by rw[<-q'];exact T
theorem wz(I:p7 X pins σ H s)(b:X.N.Nodup)(hi:X.N[i]?=a7 x)(c:LJ X.env.scope x)(r:aN v u)(h:∀s',p7 X pins (σ.set i<|a7 v) H s'->Q () s') (f:X.fn x=a9\/X.env.scope.names.lookup x=a7 .local:=by first|exact .inl rfl|exact .inr rfl|assumption):e8 M A (storeName X.env x u) Q E s:=ze I b hi c r (λs' a _=>h s' a) f
theorem p7.call'(I:p7 X pins σ H s)(D:s'.os=s.os)(u:Un (G2 X.stack) ch H H' s.heap s'.heap)(K:D2 X.prog X.w H' s'.heap)(S:e7 s'.gens)(a:∀b∈ch,(b∈X.ex\/X.s₀.heap.objs.size<=b)/\b≠X.env.locals/\(∀x c,X.env.cells.lookup x=a7 c->c≠b)/\∀p∈X.pn++pins,p.1≠b):p7 X pins σ H' s':=by obtain⟨h',g',d',t',o'⟩:=s';have e:o'=s.os:=D;subst e;exact I.call (g':=g') (t':=t') (d':=d') u K S a
end
abbrev XK:=b7->Option c6->Hp->Prop
noncomputable abbrev St:=List<|Option V
abbrev VK:=V->Hp->Prop
abbrev TE:=St->Hp->VK->Prop
abbrev TT:=St->Hp->(Bool->Hp->Prop)->Prop
abbrev TA:=St->Hp->(List V->Hp->Prop)->Prop
structure Ends where
 nx:St->Hp->Prop
 rt:VK
 bk:St->Hp->Prop:=λ_ _=>False
 ct:St->Hp->Prop:=λ_ _=>False
abbrev TS:=Ends->St->Hp->Prop
inductive EP(X:Cx)(pins:List (c6×c7))(σ:St)(Q:VK)(u:b7)(s':d9):Prop
 |mk (v:_) (H':_) (f0:p7 X pins σ H' s') (f1:aN v u) (f2:Q v H')
inductive TP(X:Cx)(pins:List (c6×c7))(σ:St)(Q:Bool->Hp->Prop)(b:Bool)(s':d9):Prop
 |mk (H':_) (f0:p7 X pins σ H' s') (f1:Q b H')
inductive AP(X:Cx)(pins:List (c6×c7))(σ:St)(Q:List V->Hp->Prop)(us:List b7)(s':d9):Prop
 |mk (vs:_) (H':_) (f0:p7 X pins σ H' s') (f1:aw vs us) (f2:Q vs H')
def SP(X:Cx)(pins:List (c6×c7))(D:Ends)(f:Flow)(s':d9):Prop:=match f with
 |.next=>∃a H',p7 X pins a H' s'/\D.nx a H'
 |.brk=>∃a H',p7 X pins a H' s'/\D.bk a H'
 |.cont=>∃a H',p7 X pins a H' s'/\D.ct a H'
 |.ret u=>∃v a H',p7 X pins a H' s'/\aN v u/\D.rt v H'
def PE(X:Cx)(e:f6)(t:TE):Prop:=∀(p:List (c6×c7)) (s:d9) (σ:St) (H:Hp) (Q:VK),p7 X p σ H s->t σ H Q->e8 (f7 X.prog X.w) X.A (eval e X.env) (EP X p σ Q) X.xe s
def PT(X:Cx)(e:f6)(t:TT):Prop:=∀(p:List (c6×c7)) (s:d9) (σ:St) (H:Hp) (Q:Bool->Hp->Prop),p7 X p σ H s->t σ H Q->e8 (f7 X.prog X.w) X.A (isTrue e X.env<|eval e X.env) (TP X p σ Q) X.xe s
def PW(X:Cx)(e:f6)(t:TT):Prop:=∀(a:Sem b7) (p:List (c6×c7)) (s:d9) (σ:St) (H:Hp) (Q:Bool->Hp->Prop),p7 X p σ H s->t σ H Q->e8 (f7 X.prog X.w) X.A (isTrue e X.env a) (TP X p σ Q) X.xe s
theorem PW.pt(h:PW X e t):PT X e t:=h _
def PA(X:Cx)(es:List f6)(t:TA):Prop:=∀(a:f8) (p:List (c6×c7)) (s:d9) (σ:St) (H:Hp) (Q:List V->Hp->Prop),p7 X p σ H s->t σ H Q->e8 (f7 X.prog X.w) X.A (spliced<|f9 a<|ge es X.env) (AP X p σ Q) X.xe s
def PS(X:Cx)(st:g7)(t:TS):Prop:=∀(p:List (c6×c7)) (s:d9) (σ:St) (H:Hp) (D:Ends),p7 X p σ H s->t D σ H->e8 (f7 X.prog X.w) X.A (exec st X.env) (SP X p D) X.xe s
def H9(X:Cx)(st:List g7)(t:TS):Prop:=∀(p:List (c6×c7)) (s:d9) (σ:St) (H:Hp) (D:Ends),p7 X p σ H s->t D σ H->e8 (f7 X.prog X.w) X.A (execs st X.env) (SP X p D) X.xe s
theorem u9{α:Type}{t:Sem α}{Q Q':α->d9->Prop}{M:Model}{A:d8}{E:b7->d9->Prop}{s:d9}(h:e8 M A t Q E s)(b:∀a s,Q a s->Q' a s):e8 M A t Q' E s:=I9 h b λ_ _ x=>x
section
variable{X:Cx}
def tVar(i:Nat):TE:=λσ H Q=>∃v,σ[i]?=a7 (a7 v)/\Q v H
def tC(v:V):TE:=λ_ H Q=>Q v H
theorem Dv(g:X.N[i]?=a7 x)(t:L5 X.env.scope x)(b:(x==("__debug__":b8))=bt:=by decide)(d:(x==("__classdict__":b8))=bt:=by decide):PE X (.Name x pos) (tVar i):=by
 intro p s σ H Q I h;obtain⟨v,e,h⟩:=h;obtain⟨m,q,j⟩:=I.loc;obtain⟨u,r,l⟩:=j i x v g e t;have n:EP X p σ Q u s:=⟨v,H,I,r,h⟩
 rcases l with⟨k,o⟩|⟨k,c,f,a⟩
 exact wpAny_Name (wpAny_loadName_local I.ok.kind k q o n) b;rcases k with k|k;exact wpAny_Name (wpAny_loadName_cell I.ok.kind k f a n) b;exact wpAny_Name (wpAny_loadName_free I.ok.kind k f a n d) b
theorem HL{i j pos}:PE X (.Constant (.int i) j pos) (tC<|.int i):=λ_ _ _ H _ I h=>wpAny_Constant_int ⟨.int i,H,I.tok _,⟨_,rfl⟩,h⟩
theorem pe_bl{b j pos}:PE X (.Constant (.bool b) j pos) (tC<|.bl b):=λ_ _ _ H _ I h=>Constant_bool ⟨.bl b,H,I,rfl,h⟩
theorem HJ{j pos}:PE X (.Constant .none j pos) (tC .non):=λ_ _ _ H _ I h=>Constant_none ⟨.non,H,I,rfl,h⟩
theorem HD{x j pos}:PE X (.Constant (.str x) j pos) (tC<|.str x):=λ_ _ _ H _ I h=>Calls.Constant_str ⟨.str x,H,I.tok _,⟨_,rfl⟩,h⟩
def Gl(X:Cx)(x:b8):Prop:=X.env.kindOf x=a7 .globalImplicit
theorem Fj(I:p7 X pins σ H s)(S:Gl X x)(m:X.mg x=a7 u)(h:Q u s)(d:(x==("__debug__":b8))=bt:=by decide):e8 (f7 X.prog X.w) X.A (eval (.Name x pos) X.env) Q E s:=Calls.Name_function_global I.ok.kind S (Calls.loadGlobal_global (by rw[I.ok.glob];exact I.mod.glob.keeps I.bk) m h) d
theorem nu(I:p7 X pins σ H s)(S:Gl X x)(m:X.mg x=a8)(c:d7 x=a7 u)(h:Q u s)(f:x≠"__name__":=by decide) (d:(x==("__debug__":b8))=bt:=by decide):e8 (f7 X.prog X.w) X.A (eval (.Name x pos) X.env) Q E s:=by obtain⟨mb,h1,h2⟩:=I.mod.blt;exact Calls.Name_function_global I.ok.kind S (Calls.loadGlobal_builtin (by rw[I.ok.glob];exact I.mod.glob.keeps I.bk) m (by rw[I.ok.blt];exact h1.keeps I.bk) ((h2 x f).trans c) h) d
theorem EO(S:Gl X x)(m:X.mg x=a8)(c:d7 x=a7 u)(r:aN v u)(f:x≠"__name__":=by decide)(d:(x==("__debug__":b8))=bt:=by decide):PE X (.Name x pos) (tC v):=λ_ _ _ H _ I h=>nu I S m c ⟨v,H,I,r,h⟩ f d
variable{a b:f6}{ta tb:TE}{pos:f8}
theorem aN.none_iff(r:aN x v):(v==ABr)=decide (x=.non):=by
 cases x with
 |non=>cases r;rfl
 |bl _=>cases r;rfl
 |int _=>obtain⟨t,rfl⟩:=r;rfl
 |str _=>obtain⟨t,rfl⟩:=r;rfl
 |byt _=>obtain⟨t,rfl⟩:=r;rfl
 |flt _=>obtain⟨t,rfl⟩:=r;rfl
 |ref _=>cases r;rfl
 |ty _=>cases r;rfl
def tB(t:TE):TT:=λσ H Q=>t σ H λx a=>∃c,x=.bl c/\Q c a
theorem Ho(h:PE X e t)(i:∀whole,isTrue e X.env whole=(do let v <-whole;standAt e.pos;g8 [v] (truthy v)):=by intro _;rfl):PT X e (tB t):=by intro p s σ H Q I w;refine isTrue_plain (u9 (h p s σ H _ I w) ?_)<|i _;rintro v f ⟨x,a,b,r,c⟩;obtain⟨d,rfl,q⟩:=c;cases r;exact Mo ⟨a,b,q⟩
variable{tA tB':TT}{aI:List f6}
def tAnd(t u:TT):TT:=λσ H Q=>t σ H λc a=>if c=a9 then u σ a Q else Q bt a
def tOr(t u:TT):TT:=λσ H Q=>t σ H λc a=>if c=a9 then Q a9 a else u σ a Q
def tNot(t:TT):TT:=λσ H Q=>t σ H λc a=>Q (!c) a
theorem Ew(f:PT X a tA):PW X (.BoolOp .And [a] pos) tA:=by
 intro w p s σ H Q I h;refine isTrue_and<|u9 (f p s σ H Q I h) λc b e=>?_;cases c with
 |true=>exact isTrue_and_nil e
 |false=>exact e
theorem Hl(f:PT X a tA):PW X (.BoolOp .Or [a] pos) tA:=by
 intro w p s σ H Q I h;refine isTrue_or<|u9 (f p s σ H Q I h) λc b e=>?_;cases c with
 |false=>exact isTrue_or_nil e
 |true=>exact e
theorem Hn(f:PT X a tA)(g:PW X (.BoolOp .And (b::aI) pos) tB'):PW X (.BoolOp .And (a::b::aI) pos) (tAnd tA tB'):=by
 intro w p s σ H Q I h;refine isTrue_and<|u9 (f p s σ H _ I h) ?_;rintro c i ⟨d,e,q⟩;cases c with
 |true=>exact g w p i σ d Q e q
 |false=>exact⟨d,e,q⟩
theorem pw_or(f:PT X a tA)(g:PW X (.BoolOp .Or (b::aI) pos) tB'):PW X (.BoolOp .Or (a::b::aI) pos) (tOr tA tB'):=by
 intro w p s σ H Q I h;refine isTrue_or<|u9 (f p s σ H _ I h) ?_;rintro c i ⟨d,e,q⟩;cases c with
 |true=>exact⟨d,e,q⟩
 |false=>exact g w p i σ d Q e q
theorem Hq(f:PT X a tA):PT X (.UnaryOp .Not a pos) (tNot tA):=by intro p s σ H Q I h;refine isTrue_not<|u9 (f p s σ H (λc b=>Q (!c) b) I h) ?_;rintro c e ⟨b,d,q⟩;exact⟨b,d,q⟩
def tAndV(t b:TE):TE:=λσ H Q=>t σ H λx a=>∃c,x=.bl c/\if c=a9 then b σ a Q else Q (.bl bt) a
def tOrV(t b:TE):TE:=λσ H Q=>t σ H λx a=>∃c,x=.bl c/\if c=a9 then Q (.bl a9) a else b σ a Q
def tNotV(t:TE):TE:=λσ H Q=>t σ H λx a=>∃c,x=.bl c/\Q (.bl<|!c) a
theorem HF{op}(h:PE X a t):PE X (.BoolOp op [a] pos) t:=λp s σ H Q I w=>BoolOp_one<|h p s σ H Q I w
theorem HP(f:PE X a ta)(g:PE X (.BoolOp .And (b::aI) pos) tb):PE X (.BoolOp .And (a::b::aI) pos) (tAndV ta tb):=by
 intro p s σ H Q I h;refine BoolOp_and<|u9 (f p s σ H _ I h) ?_;rintro v i ⟨x,d,e,r,q⟩;obtain⟨c,rfl,q⟩:=q;cases r;refine Mo ?_;cases c with
 |true=>exact g p i σ d Q e q
 |false=>exact⟨.bl bt,d,e,rfl,q⟩
theorem pe_or(f:PE X a ta)(g:PE X (.BoolOp .Or (b::aI) pos) tb):PE X (.BoolOp .Or (a::b::aI) pos) (tOrV ta tb):=by
 intro p s σ H Q I h;refine BoolOp_or<|u9 (f p s σ H _ I h) ?_;rintro v i ⟨x,d,e,r,q⟩;obtain⟨c,rfl,q⟩:=q;cases r;refine Mo ?_;cases c with
 |false=>exact g p i σ d Q e q
 |true=>exact⟨.bl a9,d,e,rfl,q⟩
theorem HH(f:PE X a ta):PE X (.UnaryOp .Not a pos) (tNotV ta):=by intro p s σ H Q I h;refine UnaryOp_<|u9 (f p s σ H _ I h) ?_;rintro v e ⟨x,b,d,r,q⟩;obtain⟨c,rfl,q⟩:=q;cases r;exact not_of<|Mo ⟨.bl<|!c,b,d,rfl,q⟩
end
def F9(K:t6)(H:Hp)(a:c6)(xs:List V):Prop:=Rd H a (.lst xs) \/∃(o:c7) (its:Array b7) (n:Nat),K.lookup a=a7 o/\o.cls=.type "list"/\o.dict=a8/\o.data=.seq its n/\its.size<=sizeLine/\aw xs its.toList
def A1(K:t6)(H:Hp)(a:c6)(xs:List V):Prop:=Rd H a (.tup xs) \/∃(o:c7) (its:Array b7) (n:Nat),K.lookup a=a7 o/\o.cls=.type "tuple"/\o.dict=a8/\o.data=.seq its n/\its.size<=sizeLine/\aw xs its.toList
noncomputable def absV:b7->Option V
 |.none=>a7 .non
 |.bool b=>a7<|.bl b
 |.int i _=>a7<|.int i
 |.str x _=>a7<|.str x
 |.bytes b _=>a7<|.byt b
 |.float b _=>a7<|.flt b
 |.ref a=>a7<|.ref a
 |.type n=>a7<|.ty n
 |_=>a8
theorem aN.abs(r:aN x u):absV u=a7 x:=by
 cases x with
 |non=>cases r;rfl
 |bl _=>cases r;rfl
 |int _=>obtain⟨t,rfl⟩:=r;rfl
 |str _=>obtain⟨t,rfl⟩:=r;rfl
 |byt _=>obtain⟨t,rfl⟩:=r;rfl
 |flt _=>obtain⟨t,rfl⟩:=r;rfl
 |ref _=>cases r;rfl
 |ty _=>cases r;rfl
theorem aN.inj(r:aN x u)(q:aN y u):x=y:=C4<|r.abs.symm.trans q.abs
theorem aw.inj(h:aw xs us)(h':aw ys us):xs=ys:=by
 induction h generalizing ys with
 |nil=>cases h';rfl
 |cons r t i=>cases h' with
  |cons r' t'=>rw[r.inj r',i t']
section
variable{X:Cx}{pins:List (c6×c7)}{σ:St}{H:Hp}{s:d9}{a:c6}{xs ys:List V}
theorem A1.of{K:t6}(h:H a=a7 (.tup xs)):A1 K H a xs:=.inl<|.inl h
theorem p7.list(I:p7 X pins σ H s)(h:F9 X.K H a xs):∃its:List b7,aw xs its/\PlainL s.heap a its.toArray/\xs.length<=sizeLine:=by
 rcases h with h|⟨o,its,n,k,f,d,hs,b,r⟩
 obtain⟨z,its,n,r,e⟩:=h.ok I.hok;exact⟨its,r,⟨_,n,e,rfl,rfl,rfl⟩,z⟩;refine⟨its.toList,r,⟨o,n,I.kIn a o k,f,d,by simpa using hs⟩,?_⟩;have e:=r.length;simp only[D5]at e;lia
theorem p7.tuple(I:p7 X pins σ H s)(h:A1 X.K H a xs):∃its:List b7,aw xs its/\IsTup s.heap a its.toArray/\xs.length<=sizeLine:=by
 rcases h with h|⟨o,its,n,k,f,_,hs,b,r⟩
 obtain⟨z,its,r,p⟩:=h.ok I.hok;exact⟨its,r,p.tup,z⟩;refine⟨its.toList,r,⟨o,I.kIn a o k,f,n,by simpa using hs⟩,?_⟩;have e:=r.length;simp only[D5]at e;lia
theorem p7.list_inj(I:p7 X pins σ H s)(h:F9 X.K H a xs)(h':F9 X.K H a ys):xs=ys:=by
 obtain⟨its,r,⟨o,n,e,_,_,d⟩,_⟩:=I.list h;obtain⟨i,r',⟨o',f,c,_,_,b⟩,_⟩:=I.list h';rw[e]at c;cases c;rw[d]at b;injection b with d1 _;have:its=i:=by simpa using o8 Array.toList d1
 subst this;exact r.inj r'
theorem p7.tuple_inj(I:p7 X pins σ H s)(h:A1 X.K H a xs)(h':A1 X.K H a ys):xs=ys:=by
 obtain⟨its,r,⟨o,e,_,n,d⟩,_⟩:=I.tuple h;obtain⟨i,r',⟨o',c,_,f,b⟩,_⟩:=I.tuple h';rw[e]at c;cases c;rw[d]at b;injection b with d1 _;have:its=i:=by simpa using o8 Array.toList d1
 subst this;exact r.inj r'
end
noncomputable abbrev Cx.wish(X:Cx)(E:b7->d9->Prop):Cx:={ X with xe:=E }
noncomputable abbrev Cx.nox(X:Cx):Cx:=X.wish λ_ _=>False
theorem Cx.Ok.wish{X:Cx}(ok:X.Ok)(E:b7->d9->Prop):(X.wish E).Ok:=⟨ok.mod,ok.kind,ok.glob,ok.blt,ok.above,ok.inj,ok.has,ok.cab,ok.hd,ok.frames,ok.stk,ok.exf,ok.bs,ok.bsz,ok.noex,ok.exfs,ok.funs,ok.frf⟩
theorem Cx.Ok.unwish{X:Cx}{E:b7->d9->Prop}(ok:(X.wish E).Ok):X.Ok:=⟨ok.mod,ok.kind,ok.glob,ok.blt,ok.above,ok.inj,ok.has,ok.cab,ok.hd,ok.frames,ok.stk,ok.exf,ok.bs,ok.bsz,ok.noex,ok.exfs,ok.funs,ok.frf⟩
section
variable{X:Cx}{pins:List (c6×c7)}{σ:St}{H:Hp}{s:d9}{E:b7->d9->Prop}
theorem p7.wish(I:p7 X pins σ H s)(E:b7->d9->Prop):p7 (X.wish E) pins σ H s:=⟨I.ok.wish E,I.os,I.bare,I.base,I.loc,I.cell,I.free,I.freeC,I.pin,I.hok,I.len⟩
theorem p7.unwish(I:p7 (X.wish E) pins σ H s):p7 X pins σ H s:=⟨I.ok.unwish,I.os,I.bare,I.base,I.loc,I.cell,I.free,I.freeC,I.pin,I.hok,I.len⟩
theorem SP.unwish(h:SP (X.wish E) pins D f s'):SP X pins D f s':=by
 cases f with
 |next=>obtain⟨a,H',I,q⟩:=h;exact⟨a,H',I.unwish,q⟩
 |brk=>obtain⟨a,H',I,q⟩:=h;exact⟨a,H',I.unwish,q⟩
 |cont=>obtain⟨a,H',I,q⟩:=h;exact⟨a,H',I.unwish,q⟩
 |ret u=>obtain⟨v,a,H',I,r,q⟩:=h;exact⟨v,a,H',I.unwish,r,q⟩
theorem H9.nox{st:List g7}{t:TS}(h:H9 X.nox st t):H9 X st t:=λp s σ H D I w =>
 I9 (h p s σ H D (I.wish _) w) (λ_ _ q=>q.unwish) λ_ _ z=>Lg z
end
section
variable{X:Cx}{st:g7}{aI:List g7}{t u:TS}{e:f6}{te:TE}{pos:f8}
def tNext:TS:=λD σ H=>D.nx σ H
def tSeq(t u:TS):TS:=λD σ H=>t { D with nx:=u D } σ H
theorem EF:H9 X [] tNext:=λ_ _ σ H _ I h=>Ob ⟨σ,H,I,h⟩
theorem BC(h1:PS X st t)(h2:H9 X aI u):H9 X (st::aI) (tSeq t u):=by
 intro p s σ H D I h;refine wpAny_execs_cons<|u9 (h1 p s σ H { D with nx:=u D } I h) λf c q=>?_;cases f with
 |next=>obtain⟨a,H',b,q⟩:=q;exact h2 p c a H' D b q
 |ret v=>exact q
 |brk=>exact q
 |cont=>exact q
theorem ED(h1:PS X st t):H9 X [st] t:=by
 intro p s σ H D I h;refine wpAny_execs_cons<|u9 (h1 p s σ H D I h) λf a q=>?_;cases f with
 |next=>exact Ob q
 |ret v=>exact q
 |brk=>exact q
 |cont=>exact q
theorem p7.quiet(I:p7 X pins σ H s):interactive X.env=bt:=by simp[interactive,I.ok.kind]
def tDrop(te:TE):TS:=λD σ H=>te σ H λ_ a=>D.nx σ a
theorem EG(i:PE X e te)(hs:g9 e a8 pos.line X.env=pure bt:=by rfl):PS X (.Expr e pos) (tDrop te):=by intro p s σ H D I h;exact wpAny_Expr_any (u9 (i p s σ H _ I h) λv f ⟨x,a,b,r,c⟩=>⟨σ,a,b,c⟩) I.quiet hs
def tRet(te:TE):TS:=λD σ H=>te σ H D.rt
theorem Hs(i:PE X e te):PS X (.Return (a7 e) pos) (tRet te):=by intro p s σ H D I h;refine wpAny_Return_some<|u9 (i p s σ H _ I h) ?_;rintro v f ⟨x,a,b,r,c⟩;exact⟨x,σ,a,b,r,c⟩
def tIfS(c:TT)(t u:TS):TS:=λD σ H=>c σ H λb a=>if b=a9 then t D σ a else u D σ a
theorem ps_if(k:PT X c tc)(i:H9 X a t)(j:H9 X b u):PS X (.If c a b pos) (tIfS tc t u):=by
 intro p s σ H D I h;refine wpAny_If<|u9 (k p s σ H _ I h) ?_;rintro d g ⟨e,f,q⟩;cases d with
 |true=>exact i p g σ e D f q
 |false=>exact j p g σ e D f q
end
abbrev TG:=V->St->Hp->(St->Hp->Prop)->Prop
abbrev Nc:=List V->St->Hp->(St->Hp->Prop)->Prop
def PG(X:Cx)(a:f6)(t:TG):Prop:=∀(p:List (c6×c7)) (s:d9) (σ:St) (H:Hp) (v:V) (u:b7) (Q:St->Hp->Prop),p7 X p σ H s->aN v u->t v σ H Q ->e8 (f7 X.prog X.w) X.A (h7 a X.env u) (λ_ s'=>∃b H',p7 X p b H' s'/\Q b H') X.xe s
def Nf(X:Cx)(b:List f6)(t:Nc):Prop:=∀(p:List (c6×c7)) (s:d9) (σ:St) (H:Hp) (vs:List V) (us:List b7) (Q:St->Hp->Prop),p7 X p σ H s->aw vs us->t vs σ H Q ->e8 (f7 X.prog X.w) X.A (assignInOrder ((i3 b X.env).map (·.2)) us) (λ_ s'=>∃a H',p7 X p a H' s'/\Q a H') X.xe s
abbrev TSet:=V->V->V->Hp->(Hp->Prop)->Prop
def PSet(X:Cx)(t:TSet):Prop:=∀(p:List (c6×c7)) (s:d9) (σ:St) (H:Hp) (o i v:V) (b a u:b7) (Q:Hp->Prop),p7 X p σ H s->aN o b->aN i a->aN v u->t o i v H Q ->e8 (f7 X.prog X.w) X.A (setItem b a u) (λ_ s'=>∃H',p7 X p σ H' s'/\Q H') X.xe s
section
variable{X:Cx}{pos:f8}
def Jp(i:Nat):TG:=λv σ H Q=>Q (σ.set i<|a7 v) H
theorem EL(b:X.N.Nodup)(hi:X.N[i]?=a7 x)(c:LJ X.env.scope x)(f:X.fn x=a9\/X.env.scope.names.lookup x=a7 .local:=by first|exact .inl rfl|exact .inr rfl|assumption):PG X (.Name x pos) (Jp i):=by intro p s σ H v u Q I r h;exact wpAny_assign_Name<|wz I b hi c r (λs' a=>⟨_,H,a,h⟩) f
def gNil:Nc:=λvs σ H Q=>vs=[]/\Q σ H
def gCons(t:TG)(u:Nc):Nc:=λvs σ H Q=>∃v r,vs=v::r/\t v σ H λa H'=>u r a H' Q
theorem EK:Nf X [] gNil:=by intro p s σ H vs us Q I r h;obtain⟨e,h⟩:=h;subst e;cases r;exact assignInOrder_nil ⟨σ,H,I,h⟩
theorem BG(h1:PG X e t)(h2:Nf X es u)(hs:(i3 (e::es) X.env).map (·.2)=h7 e X.env::(i3 es X.env).map (·.2):=by rfl):Nf X (e::es) (gCons t u):=by
 intro p s σ H vs us Q I r h;obtain⟨v,i,d,h⟩:=h;subst d;cases r with
 |cons r f=>rw[hs];refine assignInOrder_cons<|u9 (h1 p s σ H _ _ _ I r h) ?_;rintro _ g ⟨a,b,c,q⟩;exact h2 p g a b _ _ Q c f q
def gTup(K:t6)(n:Nat)(t:Nc):TG:=λv σ H Q=>∃a xs,v=.ref a/\A1 K H a xs/\xs.length=n/\t xs σ H Q
theorem Hw(i:X.calm=a9)(h:Nf X es t)(j:(i3 es X.env).length=n:=by rfl) (c:(i3 es X.env).findIdx? (·.1)=a8:=by rfl):PG X (.Tuple es k pos) (gTup X.K n t):=by intro p s σ H v u Q I r w;obtain⟨a,xs,g,q,l,w⟩:=w;subst g;cases r;obtain⟨its,d,E,z⟩:=I.tuple q;refine assign_Tuple_tuple (I.ok.hd i) E (by simp[j,<-l,d.length]) c λh' x=>?_;have f:p7 X p σ H { s with heap:=h' }:=I.kept (t':=s.toks) λb o e=>x b o (x6<|v9 e) e;exact h p _ σ H xs _ Q f (by simpa using d) w
def gSub(e d:TE)(t:TSet):TG:=λv σ H Q=>e σ H λo a=>d σ a λi b=>t o i v b λc=>Q σ c
theorem Hy(D:PE X o to)(hi:PE X i ti)(hs:PSet X t)(g:∀v,h7 (.Subscript o i pos) X.env v=(do
   let ov <-g8 [v] (eval o X.env)
   let iv <-g8 [v,ov] (eval i X.env)
   standAt pos
   g8 [v,ov,iv] (setItem ov iv v)
   release [v,ov,iv] []):=by intro _;rfl):PG X (.Subscript o i pos) (gSub to ti t):=by intro p s σ H v u Q I r h;rw[g];refine p5<|E5<|u9 (D p s σ H _ I h) ?_;rintro ov n ⟨x,a,d,l,q⟩;refine p5<|E5<|u9 (hi p n σ a _ d q) ?_;rintro iv w ⟨y,b,e,m,j⟩;refine p5<|wpAny_standAt<|p5<|E5<|u9 (hs p w σ b x y v ov iv u _ e l m r j) ?_;rintro _ z ⟨c,f,k⟩;exact wpAny_release ⟨σ,c,f,k⟩
def tAsg(te:TE)(g:TG):TS:=λD σ H=>te σ H λx a=>g x σ a D.nx
theorem Hv(i:PE X e te)(S:PG X tg g)(hs:swapsWithSole [tg] e pos.line X.env=pure bt:=by rfl)(w:swappedStores [tg] e X.env=pure a8:=by rfl)(h1:(i3 [tg] X.env).map (·.2)=[h7 tg X.env]:=by rfl):PS X (.Assign [tg] e pos) (tAsg te g):=by intro p s σ H D I h;refine wpAny_Assign_stores (u9 (i p s σ H _ I h) ?_) hs w;rintro v f ⟨x,a,b,r,c⟩;rw[h1];exact u9 (S p f σ a x v _ b r c) λ_ d q=>q
theorem Hr(d:X.N.Nodup)(hi:X.N[i]?=a7 x)(j:LJ X.env.scope x)(f:PE X e te)(hs:g9 e (a7<|.Name x pos') pos.line X.env=pure bt:=by rfl)(g:X.fn x=a9\/X.env.scope.names.lookup x=a7 .local:=by first|exact .inl rfl|exact .inr rfl|assumption):PS X (.Assign [.Name x pos'] e pos) (tAsg te<|Jp i):=by intro p s σ H D I h;refine wpAny_Assign_Name (u9 (f p s σ H _ I h) ?_) hs;rintro v k ⟨y,a,b,r,q⟩;exact wz b d hi j r (λw c=>⟨_,a,c,q⟩) g
end
section
variable{X:Cx}{pos:f8}
def Dr(c:TT)(t:TS):TS:=λD σ H=>∃W:Nat->St->Hp->Prop,(∃m,W m σ H)/\∀m σ H,W m σ H ->c σ H λb d=>if b=a9 then ∃N:St->Hp->Prop,(∀a H',N a H'->∃g,g < m/\W g a H')/\t { D with nx:=N,ct:=N,bk:=D.nx } σ d else D.nx σ d
theorem BD(z:PassesOwn (f7 X.prog X.w) X.A X.env X.xe)(E:PT X c tc)(C:H9 X body tb):PS X (.While c body [] pos) (Dr tc tb):=by
 intro p s σ H D I h;obtain⟨W,⟨F,K⟩,t⟩:=h;refine wpAny_While<|codeAny_whileLoop (λn s'=>∃g H',p7 X p g H' s'/\W n g H') ?_ F ⟨σ,H,I,K⟩;rintro n G ⟨d,r,B,L⟩;refine Mh z<|u9 (E p G d r _ B<|t n d r L) ?_;rintro b J ⟨u,x,j⟩;cases b with
 |true =>
  obtain⟨N,y,j⟩:=j;rw[n6 rfl];refine Mh z<|u9 (C p J d u _ x j) λf M k=>?_;cases f with
  |next=>obtain⟨a,e,i,o⟩:=k;obtain⟨l,m,q⟩:=y a e o;exact⟨l,m,a,e,i,q⟩
  |cont=>obtain⟨a,e,i,o⟩:=k;obtain⟨l,m,q⟩:=y a e o;exact⟨l,m,a,e,i,q⟩
  |brk=>exact k
  |ret v=>exact k
 |false=>rw[n9 Ln];exact Ob ⟨d,u,x,j⟩
end
structure It where
 go:Nat->Hp->Prop
 yld:Nat->Hp->V->Hp->Prop
 stop:Nat->Hp->Prop
def yu(X:Cx)(pins:List (c6×c7))(H:Hp)(b:c6):Prop:=H b=a8/\b≠X.env.locals/\b∉X.fs/\(b∈X.ex\/X.s₀.heap.objs.size<=b)/\(∀x c,X.env.cells.lookup x=a7 c->c≠b)/\∀p∈X.pn++pins,p.1≠b
theorem p7.fpOk(I:p7 X pins σ H s)(d:s.heap.objs.size<=b)(f:H' b=a8):yu X pins H' b:=by refine⟨f,Nat.ne_of_gt<|Kd I.lt d,I.nofs d,.inr<|G1 I.sz d,λx c e z=>?_,λp h z=>?_⟩;obtain⟨v,q⟩:=I.cell x c e;exact o0 (Kd q.lt<|by rw[z];exact d)<|G5 _;exact o0 (Kd (v9 (I.pin p h).1)<|by rw[z];exact d)<|G5 _
structure Turn(P:c5)(w:b9)(K:t6)(tg:f6)(J:It)(fp:List c6)(it:c6)(tn:Nat->c8->Prop):Prop where
 mem:it∈fp
 obj:∀i h,tn i h->∀b∈fp,∃o,h.get? b=a7 o/\∀v,o.data≠.cell v
 keep:∀i h h',tn i h->(∀b∈fp,∀o,h.get? b=a7 o->h'.get? b=a7 o)->tn i h'
 item:∀(X:Cx),X.prog=P->X.w=w->X.K=K->X.calm=a9->∀(i:Nat) (pins:List (c6×c7)) (s:d9) (σ:St) (H:Hp) (E:b7->d9->Prop),p7 X pins σ H s->(∀b∈fp,yu X pins H b)->tn i s.heap->J.go i H ->e8 (f7 P w) X.A (i4<|.ref it) (λr s1=>∃u,r=a7 u /\ e8 (f7 P w) X.A (i5 tg (.ref it) u) (λ_ s2=>∃x H',p7 X pins σ H' s2/\aN x u/\J.yld i H x H'/\tn (i+1) s2.heap/\∀b∈fp,H' b=a8) E s1) E s
 done:∀(X:Cx),X.prog=P->X.w=w->X.K=K->X.calm=a9->∀(i:Nat) (pins:List (c6×c7)) (s:d9) (σ:St) (H:Hp) (E:b7->d9->Prop),p7 X pins σ H s->(∀b∈fp,yu X pins H b)->tn i s.heap->J.stop i H ->e8 (f7 P w) X.A (i4<|.ref it) (λr s1=>r=a8/\p7 X pins σ H s1) E s
 self:∀(A:d8) (i:Nat) (s:d9) (Q:b7->d9->Prop) (E:b7->d9->Prop),tn i s.heap->Q (.ref it) s->e8 (f7 P w) A (i6<|.ref it) Q E s
abbrev TI:=St->Hp->(It->Hp->Prop)->Prop
inductive NW(X:Cx)(pins:List (c6×c7))(σ:St)(tg:f6)(R:It->Hp->Prop)(itv:b7)(s2:d9):Prop
 |mk (it:c6) (fp:List c6) (tn:Nat->c8->Prop) (J:It) (H':Hp) (f0:itv=.ref it) (f1:p7 X pins σ H' s2) (f2:Turn X.prog X.w X.K tg J fp it tn) (f3:tn 0 s2.heap) (f4:(∀b∈fp,yu X pins H' b)) (f5:R J H')
def PI(X:Cx)(g r:f6)(wi:TI):Prop:=∀(p:List (c6×c7)) (s:d9) (σ:St) (H:Hp) (R:It->Hp->Prop),p7 X p σ H s->wi σ H R ->e8 (f7 X.prog X.w) X.A (eval r X.env) (λv f=>e8 (f7 X.prog X.w) X.A (i6 v) (NW X p σ g R) X.xe f) X.xe s
theorem vB(D:s.heap.get? it=a7 o)(f:o.cls=.type n)(d:o.data=.fields vs)(a:["enumerate","zip","dict_itemiterator","dict_reverseitemiterator","odict_iterator","itertools.zip_longest","itertools.pairwise"].contains n=bt) (b:Q () s):e8 M A (i5 tg (.ref it) u) Q E s:=by
 unfold i5;cases tg<;>first
  |exact p8 b
  |(cases u<;>first
    |exact p8 b
    |(refine p5 (wpAny_load D ?_);rw[f,d];show e8 M A (if (["enumerate","zip","dict_itemiterator","dict_reverseitemiterator","odict_iterator","itertools.zip_longest","itertools.pairwise"].contains n&&vs[0]?==a7 (i7 _))=a9 then _ else _) Q E s;rw[n9 (by intro h;rw[a,Bool.false_and]at h;cases h)];exact p8 b))
noncomputable def Po(K:t6)(a:c6):It:=⟨λi H=>∃xs x,F9 K H a xs/\xs[i]?=a7 x,λi H x H'=>H'=H/\∀xs,F9 K H a xs->xs[i]?=a7 x,λi H=>∃xs,F9 K H a xs/\xs.length<=i⟩
noncomputable def Pn(K:t6)(a:c6):It:=⟨λi H=>∃xs x,A1 K H a xs/\xs[i]?=a7 x,λi H x H'=>H'=H/\∀xs,A1 K H a xs->xs[i]?=a7 x,λi H=>∃xs,A1 K H a xs/\xs.length<=i⟩
noncomputable def NX(lo:Int)(n:Nat):It:=⟨λi _=>i<n,λi H x H'=>H'=H/\x=.int (lo+i),λi _=>n<=i⟩
theorem yE{P:c5}{w:b9}{K:t6}{V:f6}(a it:c6):Turn P w K V (Po K a) [it] it (λi h=>h.IsListIter it a i) where
 mem:=by simp
 obj:=λi h l b g=>by
  have e:b=it:=by simpa using g
  subst e;obtain⟨o,e,c,d⟩:=l;exact⟨o,e,λv z=>by rw[d]at z;cases z⟩
 keep:=λi h h' l k=>l.at λo e=>k it (by simp) o e
 item:=by intro X C D B J i f s σ H E I m l S;subst C D B;obtain⟨xs,x,q,F⟩:=S;obtain⟨its,G,p,R⟩:=I.list q;obtain⟨u,O,T⟩:=G.get F;obtain⟨n,r,N,t,y,A⟩:=m it (by simp);refine wpAny_pyNext_list_item l p.isList (x:=u) (by simpa using O) λh' j U=>?_;have L:p7 X f σ H { s with heap:=h' }:=I.turned (t':=s.toks) (λb o g e=>(U.2 b g).trans e) n r t y A;obtain⟨o,e,c,d⟩:=id j;exact⟨u,rfl,vB (s:={ s with heap:=h' }) e c d (by decide) ⟨x,H,L,T,⟨rfl,λys Q=>by rw[I.list_inj Q q];exact F⟩,j,λb g=>(m b g).1⟩⟩
 done:=by intro X C D B J i f s σ H E I m l S;subst C D B;obtain⟨xs,q,F⟩:=S;obtain⟨its,G,p,R⟩:=I.list q;obtain⟨n,r,N,t,y,A⟩:=m it (by simp);have W:=G.length;exact wpAny_pyNext_list_end (I.ok.hd J) l p.isList (by simp;lia) λh' M=>⟨rfl,I.turned (t':=s.toks) (λb o g e=>M b o g e) n r t y A⟩
 self:=λ_ _ _ _ _ l h=>wpAny_pyIter_listiter l h
theorem xu{P:c5}{w:b9}{K:t6}{V:f6}(a it:c6):Turn P w K V (Pn K a) [it] it (λi h=>h.IsTupleIter it a i) where
 mem:=by simp
 obj:=λi h l b g=>by
  have e:b=it:=by simpa using g
  subst e;obtain⟨o,e,c,d⟩:=l;exact⟨o,e,λv z=>by rw[d]at z;cases z⟩
 keep:=λi h h' l k=>l.at λo e=>k it (by simp) o e
 item:=by intro X C D B J i f s σ H E I m l S;subst C D B;obtain⟨xs,x,q,F⟩:=S;obtain⟨its,G,p,R⟩:=I.tuple q;obtain⟨u,O,T⟩:=G.get F;obtain⟨n,r,N,t,y,A⟩:=m it (by simp);refine wpAny_pyNext_tuple_item l (show s.heap.IsTuple a its.toArray from p) (x:=u) (by simpa using O) λh' j U=>?_;have L:p7 X f σ H { s with heap:=h' }:=I.turned (t':=s.toks) (λb o g e=>(U.2 b g).trans e) n r t y A;obtain⟨o,e,c,d⟩:=id j;exact⟨u,rfl,vB (s:={ s with heap:=h' }) e c d (by decide) ⟨x,H,L,T,⟨rfl,λys Q=>by rw[I.tuple_inj Q q];exact F⟩,j,λb g=>(m b g).1⟩⟩
 done:=by intro X C D B J i f s σ H E I m l S;subst C D B;obtain⟨xs,q,F⟩:=S;obtain⟨its,G,p,R⟩:=I.tuple q;obtain⟨n,r,N,t,y,A⟩:=m it (by simp);have W:=G.length;exact wpAny_pyNext_tuple_end (I.ok.hd J) l (show s.heap.IsTuple a its.toArray from p) (by simp;lia) λh' M=>⟨rfl,I.turned (t':=s.toks) (λb o g e=>M b o g e) n r t y A⟩
 self:=λ_ _ _ _ _ l h=>wpAny_pyIter_tupleiter l h
theorem xv{P:c5}{w:b9}{K:t6}{F:f6}(it:c6)(lo:Int)(n:Nat):Turn P w K F (NX lo n) [it] it (λi h=>IsRangeIter h it (lo+(i:Nat)*1) ((n:Int)-(i:Nat)) 1) where
 mem:=by simp
 obj:=λi h l b d=>by
  have e:b=it:=by simpa using d
  subst e;exact⟨_,l,λv z=>by have G:Data.fields _=Data.cell v:=z;cases G⟩
 keep:=λi h h' l k=>k it (by simp) _ l
 item:=by intro X C m B g i p s σ H E I f l S;subst C m B;obtain⟨a,r,N,c,y,A⟩:=f it (by simp);have W:=Walks.range (prog:=X.prog) (w:=X.w) (I.ok.hd g) it lo 1 n;refine W.item i s _ _ S l λv h' q x j D=>?_;obtain⟨t,rfl⟩:=x;have u:p7 X p σ H { s with heap:=h',toks:=q }:=I.turned (λb o d e=>D b o (by simpa using d) e) a r c y A;refine⟨_,rfl,vB (s:={ s with heap:=h',toks:=q }) (n:="range_iterator") j rfl rfl (by decide) ⟨.int<|lo+i,H,u,⟨t,?_⟩,⟨rfl,rfl⟩,j,λb d=>(f b d).1⟩⟩;rw[Int.mul_one]
 done:=by intro X C m B g i p s σ H E I f l S;subst C m B;obtain⟨a,r,N,c,y,A⟩:=f it (by simp);exact wpAny_pyNext_range_end (I.ok.hd g) l (by have:n<=i:=S;lia) λh' M=>⟨rfl,I.turned (t':=s.toks) (λb o d e=>M b o d e) a r c y A⟩
 self:=λ_ _ _ _ _ l h=>wpAny_pyIter_rangeiter l h
section
variable{X:Cx}{tg:f6}
theorem BA{pins:List (c6×c7)}{σ:St}{H:Hp}{s:d9}{R:It->Hp->Prop}{E:b7->d9->Prop}{lo hi:Int}{t u v:Tok}{tk:Nat}(I:p7 X pins σ H s)(h1:-(2 ^ 62)<=lo)(h2:lo<2 ^ 62)(h:-(2 ^ 62)<=hi)(d:hi<2 ^ 62)(q:R (NX lo (hi-lo).toNat) H):e8 (f7 X.prog X.w) X.A (i6<|.ref s.heap.objs.size) (NW X pins σ tg R) E { s with heap:=s.heap.push { cls:=.type "range",data:=.fields #[.int lo t,.int hi u,.int 1 v] },toks:=tk }:=by
 refine wpAny_pyIter_range (IsRange.new ..) (small_one h1 h2 h d) ?_;have a:p7 X pins σ H { s with heap:=s.heap.push { cls:=.type "range",data:=.fields #[.int lo t,.int hi u,.int 1 v] },toks:=tk }:=I.kept λb o e=>v7 _ e;refine⟨(s.heap.push { cls:=.type "range",data:=.fields #[.int lo t,.int hi u,.int 1 v] }).objs.size,[(s.heap.push { cls:=.type "range",data:=.fields #[.int lo t,.int hi u,.int 1 v] }).objs.size],_,_,H,rfl,a.kept (t':=tk) λb o e=>v7 _ e,xv _ lo (hi-lo).toNat,?_,λb f=>?_,q⟩;have c:lo+((0:Nat):Int)*1=lo:=by simp
 have m:(((hi-lo).toNat:Nat):Int)-((0:Nat):Int)=Builtin.Range.rangeSize lo hi 1:=by rw[rangeSize_one];split<;>lia
 show IsRangeIter _ _ (lo+((0:Nat):Int)*1) ((((hi-lo).toNat:Nat):Int)-((0:Nat):Int)) 1;rw[c,m];exact A8 _ rfl;have e:b=(s.heap.push { cls:=.type "range",data:=.fields #[.int lo t,.int hi u,.int 1 v] }).objs.size:=by simpa using f
 subst e;exact a.fpOk (u5 _)<|a.hok.fresh<|u5 _
def iRng1(t:TA):TI:=λσ H R=>t σ H λvs a=>∃j:Int,vs=[.int j]/\-(2 ^ 62)<=j/\j<2 ^ 62/\R (NX 0 j.toNat) a
theorem zp{a:f6}{f:TA}{p c:f8}(S:Gl X "range")(m:X.mg "range" = a8)(i:PA X [a] f)(hs:ge [a] X.env=[(bt,eval a X.env)]:=by rfl):PI X tg (.Call (.Name "range" p) [a] [] c) (iRng1 f):=by
 intro b s σ H R I h;refine Call_<|nu I S m boot_range<|Pi (u9 (i c b s σ H _ I h) ?_) hs rfl;rintro us u ⟨vs,o,g,l,d⟩;obtain⟨j,e,d,k,q⟩:=d;subst e;cases l with
 |cons r n=>cases n;obtain⟨t,rfl⟩:=r;exact call_range_1<|BA g (by lia) (by lia) d k<|by simpa using q
def tFor(wi:TI)(g:TG)(t:TS):TS:=λD σ H=>wi σ H λJ d=>∃W:Nat->Nat->St->Hp->Prop,(∃m,W 0 m σ d)/\∀i m σ H,W i m σ H ->(J.stop i H/\D.nx σ H)\/(J.go i H/\∃N:St->Hp->Prop,(∀a H',N a H'->∃c,c < m/\W (i+1) c a H')/\∀x H',J.yld i H x H'->g x σ H' λb e=>t { D with nx:=N,ct:=N,bk:=D.nx } b e)
noncomputable def jt(fp:List c6)(h:c8):List (c6×c7):=fp.filterMap λb=>(h.get? b).map λo=>(b,o)
theorem gR(d:b∈fp)(e:h.get? b=a7 o):(b,o)∈jt fp h:=Mq.mpr ⟨b,d,by rw[e];rfl⟩
theorem sY(c:p∈jt fp h):p.1∈fp/\h.get? p.1=a7 p.2:=by
 obtain⟨b,d,e⟩:=Mq.mp c;cases q:h.get? b with
 |none=>rw[q]at e;cases e
 |some o=>rw[q]at e;have a:(b,o)=p:=C4 e;subst a;exact⟨d,q⟩
theorem p7.pinned(I:p7 X pins σ H s)(f:∀b∈fp,yu X pins H b)(D:∀b∈fp,∃o,s.heap.get? b=a7 o/\∀v,o.data≠.cell v):p7 X (pins++jt fp s.heap) σ H s:=I.pins_of λp c=>(D3.mp c).elim (λz=>I.pin p<|F6 _ z) λz=>by obtain⟨h,e⟩:=sY z;obtain⟨n,r,N,_⟩:=f p.1 h;obtain⟨o,a,d⟩:=D p.1 h;rw[e]at a;cases a;exact⟨e,n,r,N,d⟩
theorem p7.unpinned(I:p7 X (pins++pl) σ H s):p7 X pins σ H s:=I.pins_of λp h=>I.pin p<|F6 _<|J4 _ h
theorem Hu(F:PassesOwn (f7 X.prog X.w) X.A X.env X.xe)(hc:X.calm=a9)(hi:PI X tg iter wi)(hg:PG X tg g)(l:H9 X body tb)(hs:∀x,i8 iter X.env x=pure x:=by intro _;rfl):PS X (.For tg iter body [] pos) (tFor wi g tb):=by
 intro p s σ H D I h;refine wpAny_For (u9 (hi p s σ H _ I h) λv s1 h1=>u9 h1 λai s2 h2=>?_) hs;obtain⟨it,C,tn,J,H2,e,I2,T,U,f2,W,⟨m0,w0⟩,M⟩:=h2;subst e
 -- what stays a9 of the iterator's objects through the loop
 have t:∀{H':Hp},(∀b∈C,H' b=a8)->∀b∈C,yu X p H' b:=λhn b l=>⟨hn b l,(f2 b l).2⟩
 refine codeAny_forLoop_any (λn s'=>∃i q H',p7 X p q H' s'/\tn i s'.heap/\(∀b∈C,H' b=a8)/\W i n q H') ?_ m0 ⟨0,σ,H2,I2,U,λb l=>(f2 b l).1,w0⟩;rintro n s3 ⟨i,y,O,Z,K,E,w3⟩;rcases M i n y O w3 with⟨stop,qn⟩|⟨go,N,hN,L⟩
 refine Mh F<|u9 (T.done X rfl rfl rfl hc i p s3 y O X.xe Z (t E) K stop) ?_;rintro r s4 ⟨R,I4⟩;subst R;exact Ob ⟨y,O,I4,qn⟩
 ·refine Mh F (u9 (T.item X rfl rfl rfl hc i p s3 y O X.xe Z (t E) K go) ?_)
  rintro r s4 ⟨u,R,h4⟩;subst R;refine Mh F<|u9 h4 ?_;rintro _ s5 ⟨x,Y,I5,r5,y5,B,Q⟩;have P:=I5.pinned (t Q)<|T.obj _ _ B;refine Mh F<|u9 (hg _ s5 y Y x u _ P r5<|L x Y y5) ?_;rintro _ s6 ⟨V,H6,I6,q6⟩;refine Mh F<|u9 (l _ s6 V H6 _ I6 q6) λf S z=>?_;have k:∀{a:St}{c:Hp},p7 X (p++jt C s5.heap) a c S->N a c->∃m,m<n/\∃i q H',p7 X p q H' S/\tn i S.heap/\(∀b∈C,H' b=a8)/\W i m q H':=λ{a c} j G=>by obtain⟨m',hm,w7⟩:=hN a c G;refine⟨m',hm,i+1,a,c,j.unpinned,T.keep _ _ _ B λb l o e=>(j.pin (b,o)<|F6 _<|F6 _<|gR l e).1,λb l=>?_,w7⟩;obtain⟨o,e,d⟩:=T.obj _ _ B b l;exact(j.pin (b,o)<|F6 _<|F6 _<|gR l e).2.1
  cases f with
  |next=>obtain⟨a,c,j,G⟩:=z;exact k j G
  |cont=>obtain⟨a,c,j,G⟩:=z;exact k j G
  |brk=>obtain⟨a,c,j,z⟩:=z;exact⟨a,c,j.unpinned,z⟩
  |ret v=>obtain⟨x7,a,c,j,r7,z⟩:=z;exact⟨x7,a,c,j.unpinned,r7,z⟩
end
abbrev R2:=V->V->Hp->VK->Prop
def C1(X:Cx)(f:b7->b7->Sem b7)(r:R2):Prop:=∀(p:List (c6×c7)) (s:d9) (σ:St) (H:Hp) (x y:V) (v u:b7) (Q:VK),p7 X p σ H s->aN x v->aN y u->r x y H Q ->e8 (f7 X.prog X.w) X.A (f v u) (EP X p σ Q) X.xe s
def NV(X:Cx)(f:b7->Sem b7)(r:V->Hp->VK->Prop):Prop:=∀(p:List (c6×c7)) (s:d9) (σ:St) (H:Hp) (x:V) (v:b7) (Q:VK),p7 X p σ H s->aN x v->r x H Q ->e8 (f7 X.prog X.w) X.A (f v) (EP X p σ Q) X.xe s
def gK(X:Cx)(f:b7)(r:List V->Hp->VK->Prop):Prop:=∀(p:List (c6×c7)) (s:d9) (σ:St) (H:Hp) (xs:List V) (us:List b7) (Q:VK),p7 X p σ H s->aw xs us->r xs H Q ->e8 (f7 X.prog X.w) X.A (call f us) (EP X p σ Q) X.xe s
def MU(r:R2)(t c:TE):TE:=λσ H Q=>t σ H λx a=>c σ a λy b=>r x y b Q
def tUn(r:V->Hp->VK->Prop)(t:TE):TE:=λσ H Q=>t σ H λx a=>r x a Q
def rI(C:Int->Int->Prop)(g:Int->Int->V):R2:=λx y H Q=>∃i j,x=.int i/\y=.int j/\C i j/\Q (g i j) H
def LD(g:Int->Int->V):R2:=λx y H Q=>∃i j,x=.int i/\y=.int j/\Q (g i j) H
def rU(g:Int->V):V->Hp->VK->Prop:=λx H Q=>∃i,x=.int i/\Q (g i) H
section
variable{X:Cx}{a b c:f6}{ta tb tc:TE}{pos:f8}
theorem binT(d:PE X a ta)(g:PE X b tb){pins:List (c6×c7)}{s:d9}{σ:St}{H:Hp}{R:V->V->Hp->Prop}(I:p7 X pins σ H s)(h:ta σ H λx H1=>tb σ H1 λy H2=>R x y H2) {Q:b7->d9->Prop}{f:b7->b7->Sem b7}(i:∀v u s2 x y H2,p7 X pins σ H2 s2->aN x v->aN y u->R x y H2->e8 (f7 X.prog X.w) X.A (f v u) Q X.xe s2):e8 (f7 X.prog X.w) X.A (eval a X.env) (λv s₁=>e8 (f7 X.prog X.w) X.A (eval b X.env) (λu s₂=>e8 (f7 X.prog X.w) X.A (f v u) Q X.xe s₂) X.xe s₁) X.xe s:=by refine u9 (d pins s σ H _ I h) ?_;rintro v k ⟨x,H1,c,r,q⟩;refine u9 (g pins k σ H1 _ c q) ?_;rintro u s2 ⟨y,H2,e,m,j⟩;exact i v u s2 x y H2 e r m j
theorem pe_op{op:Operator}{r:R2}(D:C1 X (i9 op) r)(f:PE X a ta)(d:PE X b tb):PE X (.BinOp a op b pos) (MU r ta tb):=by intro p s σ H Q I h;exact wpAny_BinOp<|binT f d I h λv u w x y c e g i q=>D p w σ c x y v u Q e g i q
theorem pe_un(D:NV X (unaryOp op) r)(f:PE X a ta):PE X (.UnaryOp op a pos) (tUn r ta):=by intro p s σ H Q I h;refine UnaryOp_<|u9 (f p s σ H _ I h) ?_;rintro v e ⟨x,b,c,d,q⟩;exact D p e σ b x v Q c d q
theorem MZ{f:b7->b7->Sem b7}{C:Int->Int->Prop}{g:Int->Int->Int}(e:∀(i j:Int) (t u:Tok) (s:d9) (Q:b7->d9->Prop) (E:b7->d9->Prop),C i j->Q (.int (g i j) s.toks) { s with toks:=s.toks+1 }->e8 (f7 X.prog X.w) X.A (f (.int i t)<|.int j u) Q E s):C1 X f (rI C λi j=>.int<|g i j):=by intro p s σ H x y v u Q I r a h;obtain⟨i,j,rfl,rfl,c,q⟩:=h;obtain⟨t,rfl⟩:=r;obtain⟨t',rfl⟩:=a;exact e i j t t' s _ _ c ⟨.int<|g i j,H,I.tok _,⟨_,rfl⟩,q⟩
theorem opI0{f:b7->b7->Sem b7}{g:Int->Int->Int}(e:∀(i j:Int) (t u:Tok) (s:d9) (Q:b7->d9->Prop) (E:b7->d9->Prop),Q (.int (g i j) s.toks) { s with toks:=s.toks+1 }->e8 (f7 X.prog X.w) X.A (f (.int i t)<|.int j u) Q E s):C1 X f (LD λi j=>.int<|g i j):=by intro p s σ H x y v u Q I r a h;obtain⟨i,j,rfl,rfl,q⟩:=h;obtain⟨t,rfl⟩:=r;obtain⟨t',rfl⟩:=a;exact e i j t t' s _ _ ⟨.int<|g i j,H,I.tok _,⟨_,rfl⟩,q⟩
theorem opB0{f:b7->b7->Sem b7}{g:Int->Int->Bool}(e:∀(i j:Int) (t u:Tok) (s:d9) (Q:b7->d9->Prop) (E:b7->d9->Prop),Q (.bool<|g i j) s->e8 (f7 X.prog X.w) X.A (f (.int i t)<|.int j u) Q E s):C1 X f (LD λi j=>.bl<|g i j):=by intro p s σ H x y v u Q I r a h;obtain⟨i,j,rfl,rfl,q⟩:=h;obtain⟨t,rfl⟩:=r;obtain⟨t',rfl⟩:=a;exact e i j t t' s _ _ ⟨.bl<|g i j,H,I,rfl,q⟩
def CPow(i j:Int):Prop:=0<=j/\j<=1000000/\i.natAbs<2 ^ 64
def CMul(i j:Int):Prop:=(-(2 ^ 64)<i/\i<2 ^ 64)\/(-(2 ^ 64)<j/\j<2 ^ 64)
theorem CMul.ok(h:CMul i j):IntMulOk i j:=by
 rcases h with⟨h1,h2⟩|⟨h1,h2⟩
 exact .of_left<|intBits_le_64 h1 h2;exact .of_right<|intBits_le_64 h1 h2
theorem Ic:C1 X (i9 .Add) (LD λi j=>.int<|i+j):=opI0 λ_ _ _ _ _ _ _ q=>add_int q
theorem HU:C1 X (i9 .Sub) (LD λi j=>.int<|i-j):=opI0 λ_ _ _ _ _ _ _ q=>sub_int q
theorem HZ:C1 X (i9 .Mult) (rI CMul λi j=>.int<|i*j):=MZ λ_ _ _ _ _ _ _ f q=>mul_int q f.ok
theorem Ia:C1 X (i9 .Mod) (rI (λ_ j=>0<j) λi j=>.int<|i % j):=MZ λi j _ _ _ _ _ f q=>by have h1:(0:Int)<j:=f;exact mod_int' (by lia)<|by rw[Int.fmod_eq_emod_of_nonneg i<|by lia];exact q
theorem HY:C1 X (i9 .Pow) (rI CPow λi j=>.int<|i ^ j.toNat):=MZ λ_ _ _ _ _ _ _ f q=>pow_int_small f.1 f.2.1 f.2.2 q
theorem HV:C1 X (i9 .LShift) (rI CPow λi j=>.int<|i*2 ^ j.toNat):=MZ λ_ _ _ _ _ _ _ f q=>lshift_int_small f.1 f.2.1 f.2.2 q
theorem unI{f:b7->Sem b7}{g:Int->Int}(e:∀(i:Int) (t:Tok) (s:d9) (Q:b7->d9->Prop) (E:b7->d9->Prop),Q (.int (g i) s.toks) { s with toks:=s.toks+1 }->e8 (f7 X.prog X.w) X.A (f<|.int i t) Q E s):NV X f (rU λi=>.int<|g i):=by intro p s σ H x v Q I r h;obtain⟨i,rfl,q⟩:=h;obtain⟨t,rfl⟩:=r;exact e i t s _ _ ⟨.int<|g i,H,I.tok _,⟨_,rfl⟩,q⟩
theorem GN:NV X (unaryOp .USub) (rU λi=>.int (-i)):=unI λ_ _ _ _ _ q=>neg_int q
end
section
variable{X:Cx}{a b c:f6}{ta tb tc:TE}{pos:f8}
theorem op_lt:C1 X (j0 .Lt) (LD λi j=>.bl<|decide<|i<j):=opB0 λ_ _ _ _ _ _ _ q=>lt_int q
theorem op_le:C1 X (j0 .LtE) (LD λi j=>.bl<|decide<|i<=j):=opB0 λ_ _ _ _ _ _ _ q=>le_int q
theorem op_gt:C1 X (j0 .Gt) (LD λi j=>.bl<|decide<|j<i):=opB0 λ_ _ _ _ _ _ _ q=>gt_int q
theorem op_ge:C1 X (j0 .GtE) (LD λi j=>.bl<|decide<|j<=i):=opB0 λ_ _ _ _ _ _ _ q=>ge_int q
theorem C1.or(h:C1 X f r)(h':C1 X f r'):C1 X f (λx y H Q=>r x y H Q\/r' x y H Q):=by intro p s σ H x y v u Q I g i q;rcases q with q|q;exact h p s σ H x y v u Q I g i q;exact h' p s σ H x y v u Q I g i q
theorem EM(D:C1 X (j0 op) r)(f:PE X a ta)(d:PE X b tb)(m:j1 op b=bt):PE X (.Compare a [op] [b] pos) (MU r ta tb):=by intro p s σ H Q I h;exact wpAny_Compare1 (binT f d I h λv u w x y c e g i q=>D p w σ c x y v u Q e g i q) m
def GU(t:TE):TT:=λσ H Q=>t σ H λx H'=>∃k,x=.bl k/\Q k H'
theorem EC(D:C1 X (j0 op) r)(m:PE X a ta)(n:PE X b tb)(o:j1 op b=bt):PT X (.Compare a [op] [b] pos) (GU<|MU r ta tb):=by
 intro p s σ H Q I h;refine wpAny_isTrue_Compare1 (u9 (m p s σ H _ I h) λv E ⟨x,d,i,A,q⟩=>u9 (n p E σ d _ i q) λu F ⟨y,f,j,B,t⟩ =>
  u9 (D p F σ f x y v u _ j A B t) λc G ⟨z,g,l,C,k,e,w⟩=>?_) o
 subst e;cases C;exact Mo ⟨g,l,w⟩
def Ds(r r':R2)(t e f:TE):TE:=λσ H Q=>t σ H λx a=>e σ a λy b=>r x y b λz c=>∃k,z=.bl k /\(if k=a9 then f σ c λY d=>r' y Y d Q else Q (.bl bt) c)
theorem BJ(E:C1 X (j0 op) r)(f:C1 X (j0 op') r')(A:PE X a ta)(B:PE X b tb)(C:PE X c tc)(D:lastMarks [op,op'] [b,c]=bt:=by with_unfolding_all rfl):PE X (.Compare a [op,op'] [b,c] pos) (Ds r r' ta tb tc):=by
 intro p s σ H Q I h;refine Compare_chain (u9 (A p s σ H _ I h) λv N ⟨x,j,o,K,F⟩=>chain_link (u9 (B p N σ j _ o F) λu O ⟨y,l,t,m,G⟩ =>
  u9 (E p O σ l x y v u _ t K m G) λd P ⟨z,g,i,L,k,e,q⟩=>?_)) D
 subst e;cases L;refine Mo ?_;cases k with
 |false=>exact ite_ff ⟨.bl bt,g,i,rfl,q⟩
 |true=>exact ite_tt<|chain_last<|u9 (C p P σ g _ i q) λY R ⟨S,n,w,M,J⟩=>f p R σ n y S u Y Q w m M J
theorem pp:(sizeLine:Nat)<2 ^ 63:=by rw[Lh];decide
theorem xD:C1 X (i9 .Add) (λx y H Q=>∃i j,x=.str i/\y=.str j/\i.length+j.length<=sizeLine/\Q (.str<|i++j) H):=by intro p s σ H x y v u Q I g r h;obtain⟨i,j,rfl,rfl,b,q⟩:=h;obtain⟨t,rfl⟩:=g;obtain⟨t',rfl⟩:=r;exact add_str (λt' k=>⟨.str<|i++j,H,I.tok _,⟨_,rfl⟩,q⟩) b
theorem Ee(r:aw [x] us):∃u,us=[u]/\aN x u:=by
 cases r with
 |cons a m=>cases m;exact⟨_,rfl,a⟩
theorem vals2(r:aw [x,y] us):∃u w',us=[u,w']/\aN x u/\aN y w':=by
 cases r with
 |cons a m =>
  cases m with
  |cons C M=>cases M;exact⟨_,_,rfl,a,C⟩
theorem AS(f:X.calm=a9):gK X (.builtin "max") (λxs H Q=>∃i j,xs=[.int i,.int j]/\Q (.int<|if j > i then j else i) H):=by
 intro p s σ H xs us Q I r h;obtain⟨i,j,rfl,q⟩:=h;obtain⟨u,Y,rfl,⟨t,rfl⟩,⟨t',rfl⟩⟩:=vals2 r;refine max_two_ints (I.ok.hd f) λh' a k=>⟨_,H,I.kept k,?_,q⟩
 by_cases L:j > i;rw[n6 L,n6 L];exact⟨_,rfl⟩;rw[n9 L,n9 L];exact⟨_,rfl⟩
end
structure ObjM(h:c8)(x dx C:c6)(mA:b8->Option b7):Prop where
 obj:h.get? x=a7 (PySem.W.instObj C dx)
 ns:h.Ns1 dx mA
 ne:dx≠x
structure Cls(K:t6)(C:c6):Prop where
 pg:PySem.W.plainGet K C Str.empty=a9
 hd:PySem.W.hasDictIn K C=a9
 po:PySem.W.plainOver K C=a9
 sa:Nu K (.ref C) "__setattr__" = a7 (a7<|.builtin "object.__setattr__")
structure Con(K:t6)(C:c6)(f:b8)(v:V)(u:b7):Prop where
 at_:Nu K (.ref C) f=a7 (a7 u)
 rel:aN v u
 get:PySem.W.specialIn K u "__get__" = a7 a8
 cp:PySem.W.copiedNames.contains f=bt
structure Meth(K:t6)(C:c6)(m:b8)(f:c6):Prop where
 at_:Nu K (.ref C) m=a7 (a7<|.ref f)
 fn:PySem.W.isFn K (.ref f)=a9
 kp:LP K (.ref f)=a9
section
variable{X:Cx}{pins:List (c6×c7)}{σ:St}{H:Hp}{s:d9}{A:d8}{E:b7->d9->Prop}{Q:b7->d9->Prop}{c:b7}{b:Bool}
inductive TyOf(K:t6)(H:Hp):V->b7->Prop where
 |non:TyOf K H .non (.type "NoneType")
 |bl (x:Bool):TyOf K H (.bl x) (.type "bool")
 |int (i:Int):TyOf K H (.int i) (.type "int")
 |str (x:b8):TyOf K H (.str x) (.type "str")
 |flt (x:UInt64):TyOf K H (.flt x) (.type "float")
 |lst {a:c6}{xs:List V} (e:H a=a7 (.lst xs)):TyOf K H (.ref a) (.type "list")
 |frz {a:c6}{o:c7}{xs:List V} (e:H a=a7 (.frz o (.lst xs))):TyOf K H (.ref a) (.type "list")
 |tup {a:c6}{xs:List V} (e:H a=a7 (.tup xs)):TyOf K H (.ref a) (.type "tuple")
 |dK {a:c6}{kvs:List (F0×V)} (e:H a=a7 (.dK kvs)):TyOf K H (.ref a) (.type "dict")
 |dT {a:c6}{kvs:List (List F0×V)} (e:H a=a7 (.dT kvs)):TyOf K H (.ref a) (.type "dict")
 |ins {a C dx:c6}{fs:List (b8×V)} (e:H a=a7 (.ins C dx fs)) (cl:Cls K C) (ha:Nu K (.ref C) "__class__" = a7 (a7 (.builtin "object.__class__")))
   (hn:PySem.W.specialIn K (.builtin "object.__class__") "__get__" = a7 (a7<|.builtin "getset_descriptor.__get__")) (htk:PySem.W.takesIn K (.builtin "object.__class__")=a7 a9)
   (hm:PySem.W.mroIn K C (.type "object")=a7 a9):TyOf K H (.ref a) (.ref C)
end
structure Room(k:Nat)(A:d8):Prop where
 hd:A.handled=a8
 dp:A.depth+3*k+5<recursionLimit
 un:A.units+16*k+200<j2
theorem Room.mono(r:Room k A)(h:j<=k):Room j A:=⟨r.hd,by have:=r.dp;lia,by have:=r.un;lia⟩
theorem Room.deeper(r:Room (k+1) A)(env:Env):Room k (A.deeper env):=⟨r.hd,by have:=r.dp;show A.depth+1+3*k+5<_;lia,by have:=r.un;show A.units+3+16*k+200<_;lia⟩
theorem Room.depth(r:Room k A):A.depth<recursionLimit:=by have:=r.dp;lia
def tNil:TA:=λ_ H Q=>Q [] H
def tCons(t:TE)(tr:TA):TA:=λσ H Q=>t σ H λx a=>tr σ a λxs b=>Q (x::xs) b
section
variable{X:Cx}{e:f6}{es:List f6}{te:TE}{t:TA}{pos:f8}
theorem HQ:PA X [] tNil:=λ_ _ _ _ H Q I h=>Calls.spliced_nil ⟨[],H,I,.nil,h⟩
theorem EQ(g:PE X e te)(i:PA X es t)(hs:ge (e::es) X.env=(bt,eval e X.env)::ge es X.env:=by rfl):PA X (e::es) (tCons te t):=by intro a p s σ H Q I h;rw[hs];show e8 _ _ (spliced<|(bt,eval e X.env)::f9 a (ge es X.env)) _ _ s;refine O2<|u9 (g p s σ H _ I h) ?_;rintro u k ⟨x,b,d,r,q⟩;refine u9 (i a p k σ b _ d q) ?_;rintro us w ⟨xs,c,f,m,j⟩;exact⟨x::xs,c,f,.cons r m,j⟩
def tTup(t:TA):TE:=λσ H Q=>t σ H λxs a=>xs.length<=sizeLine/\∀p,a p=a8->Q (.ref p) (v5 a p<|.tup xs)
def tLst(t:TA):TE:=λσ H Q=>t σ H λxs a=>xs.length<=sizeLine/\∀p,a p=a8->Q (.ref p) (v5 a p<|.lst xs)
theorem Hz{x1}(h:PA X es t):PE X (.Tuple es x1 pos) (tTup t):=by intro p s σ H Q I g;refine wpAny_Tuple_spliced<|u9 (h pos p s σ H _ I g) λus f ⟨xs,a,c,r,z,q⟩=>⟨by rw[<-r.length];exact z,?_⟩;have d:a f.heap.objs.size=a8:=c.hok.fresh<|u5 _;refine⟨.ref f.heap.objs.size,v5 a f.heap.objs.size<|.tup xs,c.laid (t':=f.toks) (λb u e=>v7 _ e) (u5 _) ?_,rfl,q _ d⟩;exact⟨z,us,r,⟨_,A8 _ rfl,rfl,⟨_,rfl⟩,rfl⟩⟩
theorem HK(h:PA X es t):PE X (.List es pos) (tLst t):=by intro p s σ H Q I g;refine wpAny_List_spliced<|u9 (h pos p s σ H _ I g) λus f ⟨xs,a,c,r,z,q⟩=>⟨by rw[<-r.length];exact z,?_⟩;have d:a f.heap.objs.size=a8:=c.hok.fresh<|u5 _;refine⟨.ref f.heap.objs.size,v5 a f.heap.objs.size<|.lst xs,c.laid (t':=f.toks) (λb u e=>v7 _ e) (u5 _) ?_,rfl,q _ d⟩;exact⟨z,us,0,r,A8 _ rfl⟩
end
abbrev Sp:=List V->Hp->VK->XK->Prop
abbrev KP:=List Env->Hp->d9->XK->b7->d9->Prop
structure Env0(P:c5)(w:b9)(K:t6)(mg:b8->Option b7)(base:c8)(A:d8)(outer:List Env)(s:d9)(H:Hp):Prop where
 frames:A.frames=a7 outer
 mod:Mod K mg base
 bs:∀b o,base.get? b=a7 o->s.heap.get? b=a7 o/\H b=a8
 bsz:base.objs.size<=s.heap.objs.size
 funs:s.heap.FunFrames base outer
 frf:∀b∈G2 outer,H b=a8
 hok:D2 P w H s.heap
 bare:e7 s.gens
inductive CE(outer:List Env)(P:c5)(w:b9)(H:Hp)(s:d9)(Q:VK)(u:b7)(s':d9):Prop
 |mk (v:_) (H':_) (f0:s'.os=s.os) (f1:e7 s'.gens) (f2:Un (G2 outer) [] H H' s.heap s'.heap) (f3:D2 P w H' s'.heap) (f4:aN v u) (f5:Q v H')
def CR(CX:KP)(o:List Env)(P:c5)(w:b9)(H:Hp)(s:d9)(Q:VK)(E:XK)(r:Result)(s':d9):Prop:=match r with
 |.ok (.ret u)=>CE o P w H s Q u s'
 |.ok _=>False
 |.error e=>CX o H s E e s'
structure FnOk(P:c5)(w:b9)(K:t6)(mg:b8->Option b7)(base:c8)(CX:KP)(k:Nat)(f:c6)(fd:j3)(ps:List b8)(sp:Sp):Prop where
 len:∀vs H Q E,sp vs H Q E->vs.length=ps.length
 run:∀(A:d8) (outer:List Env) (s:d9) (H:Hp) (args:Args) (us:List b7) (vs:List V) (Q:VK) (E:XK),Room k A->Env0 P w K mg base A outer s H->BindsTo s fd args (ps.zip us)->aw vs us->sp vs H Q E ->j4 (f7 P w) A (.call (.ref f) args) (CR CX outer P w H s Q E) s
section
variable{X:Cx}{pins:List (c6×c7)}{σ:St}{H:Hp}{s s':d9}
theorem p7.env0(I:p7 X pins σ H s):Env0 X.prog X.w X.K X.mg X.base X.A X.stack s H:=⟨I.ok.frames,I.ok.mod,I.bs,G1 I.ok.bsz I.sz,I.stack,I.stkFree,I.hok,I.bare⟩
theorem p7.after(I:p7 X pins σ H s)(h:CE X.stack X.prog X.w H s Q u s'):EP X pins σ Q u s':=by obtain⟨v,H',c,e,n,K,r,q⟩:=h;obtain⟨a,g,d,t,o⟩:=s';obtain rfl:o=s.os:=c;exact⟨v,H',I.call (h':=a) (g':=g) (d':=d) (t':=t) (ch:=[]) n K e (λb z=>o0 z<|by simp),r,q⟩
end
def GX(sp:Sp)(s:List V)(E:XK)(t:TA):TE:=λσ H Q=>t σ H λvs a=>sp (vs++s) a Q E
def ut(K:t6)(d:j3)(ps:List b8)(ds:List b7):Prop:=∀(s:d9) (us:List b7),K.In s.heap->(us++ds).length=ps.length->BindsTo s d ⟨us,[]⟩ (ps.zip<|us++ds)
theorem ut.all{K:t6}{d:j3}{ps:List b8}(h:∀us:List b7,us.length=ps.length->bindArgs d ⟨us,[]⟩=pure (ps.zip us)):ut K d ps []:=λs us _ g=>by rw[K7]at g ⊢;exact .of_eq<|h us g
def Bf(CX:KP)(X:Cx)(E:XK):Prop:=∀(p:List (c6×c7)) (σ:St) (H:Hp) (s:d9) (e:b7) (s':d9),p7 X p σ H s->CX X.stack H s E e s'->X.xe e s'
section
variable{X:Cx}{CX:KP}{k:Nat}{f C:c6}{fd:j3}{ps:List b8}{sp:Sp}{dvs:List V}{ds:List b7}{E:XK}{x m:b8}{p pos apos:f8}{e o:f6}{es:List f6}{ta:TE}{t:TA}
theorem Hf(F:FnOk X.prog X.w X.K X.mg X.base CX k f fd ps sp)(i:Room k X.A)(d:ut X.K fd ps ds)(a:aw dvs ds)(x:Bf CX X E)(I:p7 X pins σ H s) (r:aw vs us) (h:sp (vs++dvs) H Q E):e8 (f7 X.prog X.w) X.A (call (.ref f) us) (EP X pins σ Q) X.xe s:=by
 have m:aw (vs++dvs) (us++ds):=r.append a;have g:(us++ds).length=ps.length:=by rw[<-m.length];exact F.len _ _ _ _ h
 refine wpAny_call<|MD (F.run X.A X.stack s H ⟨us,[]⟩ (us++ds) (vs++dvs) Q E i I.env0 (d s us I.kIn g) m h) λr s' q=>?_;cases r with
 |error e=>exact x pins σ H s e s' I q
 |ok l =>
  cases l with
  |ret u=>exact I.after q
  |next=>exact Lg q
  |brk=>exact Lg q
  |cont=>exact Lg q
theorem EN(F:FnOk X.prog X.w X.K X.mg X.base CX k f fd ps sp)(o:Room k X.A)(S:Gl X x)(n:X.mg x=a7 (.ref f))(m:LP X.K (.ref f)=a9)(g:ut X.K fd ps ds)(i:aw dvs ds)(u:Bf CX X E)(d:PA X (e::es) t) (b:(x==("__debug__":b8))=bt:=by decide) (j:ge (e::es) X.env=(bt,eval e X.env)::ge es X.env:=by rfl) (l:(f9 pos<|ge es X.env).any (·.1)=bt:=by rfl):PE X (.Call (.Name x p) (e::es) [] pos) (GX sp dvs E t):=by intro a s σ H Q I h;refine ND<|Fj I S n ?_ b;refine PySem.W.callWith_K (h₀:=X.base) I.ok.mod.kin m (u9 (d pos a s σ H _ I h) λus y ⟨vs,v,c,r,q⟩=>⟨c.kIn,?_⟩) j l;exact Hf F o g i u c r q
structure Mk(K:t6)(C f:c6):Prop where
 makes:PySem.W.makesIn K C=a9
 init:Nu K (.ref C) "__init__" = a7 (a7<|.ref f)
 fn:PySem.W.isFn K (.ref f)=a9
 kp:LP K (.ref C)=a9
end
section
variable{X:Cx}{CX:KP}{k:Nat}{f C:c6}{fd:j3}{ps ks:List b8}{sp:Sp}{E:XK}{x m:b8}{p pos apos kpos:f8}{e o:f6}{es:List f6}{kws:List j5}{te ta:TE}{t tk:TA}{nm:Option b8}
structure KBinds(K:t6)(fd:j3)(ps ks:List b8)(g:List b7->List b7->List b7)(gV:List V->List V->List V):Prop where
 to:∀(s:d9) (us ws:List b7),K.In s.heap->(g us ws).length=ps.length->BindsTo s fd ⟨us,ks.zip ws⟩ (ps.zip<|g us ws)
 rel:∀{vs:List V}{us:List b7}{zs:List V}{ws:List b7},aw vs us->aw zs ws->aw (gV vs zs) (g us ws)
variable{g:List b7->List b7->List b7}{gV:List V->List V->List V}
end
structure FnScope(N P:List b8)(sc:e6):Prop where
 kind:sc.kind=.function
 co:sc.isCoroutine=bt
 gen:sc.isGenerator=bt
 nd:N.Nodup
 pre:N.take P.length=P
 par:∀x∈P,sc.names.lookup x=a7 .local\/sc.names.lookup x=a7 .cell
 nofree:∀y∈sc.names,y.2≠.free
theorem uf{kindOf:b8->Option j6}{x:b8}:∀{binds:List (b8×b7)}{m:b8->Option b7},(∀v,(x,v)∉binds)->bindL kindOf binds m x=m x
 | [],_,_=>rfl
 |(n,v)::r,m,h=>by
  unfold bindL;rw[uf λw hw=>h w<|A2 _ hw];split;have:x≠n:=by rintro rfl;exact h v D4
  simp[this];rfl
theorem ui{kindOf:b8->Option j6}{x:b8}:∀{binds:List (b8×b7)}{m:b8->Option b7},(∀v,(x,v)∉binds)->bindC kindOf binds m x=m x
 | [],_,_=>rfl
 |(n,v)::r,m,h=>by
  unfold bindC;rw[ui λw hw=>h w<|A2 _ hw];split;rfl;have:x≠n:=by rintro rfl;exact h v D4
  simp[this]
theorem uh{kindOf:b8->Option j6}{x:b8}{v:b7}:∀{P:List b8}{vs:List b7}{i:Nat}{m:b8->Option b7},P.Nodup->P[i]?=a7 x->vs[i]?=a7 v->kindOf x=a7 .local ->bindL kindOf (P.zip vs) m x=a7 v
 | [],_,_,_,_,h,_,_=>by simp at h
 |_::_,[],_,_,_,_,h,_=>by simp at h
 |p::P,w::vs,0,m,nd,h1,h2,hk=>by simp at h1 h2;subst h1;subst h2;show bindL kindOf ((p,w)::P.zip vs) m p=_;unfold bindL;rw[uf λv hv=>(Kp.mp nd).1 (List.of_mem_zip hv).1,n6 hk];simp
 |p::P,w::vs,i+1,m,nd,h1,h2,hk=>by show bindL kindOf ((p,w)::P.zip vs) m x=_;unfold bindL;exact uh (i:=i) (Kp.mp nd).2 (by simpa using h1) (by simpa using h2) hk
theorem uj{kindOf:b8->Option j6}{x:b8}{v:b7}:∀{P:List b8}{vs:List b7}{i:Nat}{m:b8->Option b7},P.Nodup->P[i]?=a7 x->vs[i]?=a7 v->kindOf x≠a7 .local ->bindC kindOf (P.zip vs) m x=a7 v
 | [],_,_,_,_,h,_,_=>by simp at h
 |_::_,[],_,_,_,_,h,_=>by simp at h
 |p::P,w::vs,0,m,nd,h1,h2,hk=>by simp at h1 h2;subst h1;subst h2;show bindC kindOf ((p,w)::P.zip vs) m p=_;unfold bindC;rw[ui λv hv=>(Kp.mp nd).1 (List.of_mem_zip hv).1,n9 hk];simp
 |p::P,w::vs,i+1,m,nd,h1,h2,hk=>by show bindC kindOf ((p,w)::P.zip vs) m x=_;unfold bindC;exact uj (i:=i) (Kp.mp nd).2 (by simpa using h1) (by simpa using h2) hk
noncomputable def start(N:List b8)(vs:List V):St:=vs.map a7++Nt (N.length-vs.length) a8
noncomputable def yq(CX:KP)(P:c5)(w:b9)(K:t6)(mg:b8->Option b7)(base:c8)(N:List b8)(l:b8)(scope:e6)(f:c6)(d:b7)(A:d8)(outer:List Env)(s:d9)(H:Hp)(E:XK):Cx where
 prog:=P
 w:=w
 K:=K
 mg:=mg
 base:=base
 A:=A.deeper<|j7 l scope s.heap.objs.size f d
 N:=N
 s₀:=s
 H₀:=H
 env:=j7 l scope s.heap.objs.size f d
 outer:=outer
 stack:=j7 l scope s.heap.objs.size f d::outer
 ex:=[]
 calm:=a9
 fn:=λ_=>a9
 pn:=[]
 xe:=λe s'=>e8 (f7 P w) (A.deeper<|j7 l scope s.heap.objs.size f d) (leaving (j7 l scope s.heap.objs.size f d) e) (λ_ a=>CX outer H s E e a) (λb a=>CX outer H s E b a) s'
theorem wV{s:e6}{n:Nat}{x:b8}(h:s.names.lookup x=a7 .cell):∃c,(cellsFrom n s.names []).lookup x=a7 c:=by have q:=PySem.W.cellsFrom_some s.names n []<|.inl h;exact Pf.mp q
theorem Ak{CX:KP}{P:c5}{w:b9}{K:t6}{mg:b8->Option b7}{base:c8}{N ps:List b8}{l:b8}{scope:e6}{f:c6}{t:b7}{A:d8}{o:List Env}{s D:d9}{H:Hp}{E:XK}{us:List b7}{vs:List V}(S:FnScope N ps scope) (G:A.handled=a8) (d:Env0 P w K mg base A o s H) (M:vs.length=ps.length) (r:aw vs us)(x:InCallC s s.heap.objs.size (bindL (j7 l scope s.heap.objs.size f t).kindOf (ps.zip us) λ_=>a8) (cellsFrom (s.heap.objs.size+1) scope.names []) (bindC (j7 l scope s.heap.objs.size f t).kindOf (ps.zip us) λ_=>a8) D):p7 (yq CX P w K mg base N l scope f t A o s H E) [] (start N vs) H D:=by
 have I:ps.length<=N.length:=by have:=o8 Km S.pre;rw[J1]at this;lia
 obtain⟨h1,O,rfl,B⟩:=x.done;have g:∀b:c6,b∉(yq CX P w K mg base N l scope f t A o s H E).ex:=λb z=>o0 (show b∈([]:List c6)from z) (by simp);refine⟨⟨d.mod,S.kind,rfl,rfl,u5 _,λy z c h1 h2=>?_,λy Q=>?_,λy c _ h=>?_,λ_=>G,Around.frames_deeper d.frames,.inr ⟨rfl,rfl⟩,λb z=>o0 z<|g b,d.bs,d.bsz,λb _ _=>g b,λb z=>o0 z<|g b,d.funs,d.frf⟩,rfl,d.bare,Un.kept B,⟨_,x.toInCall.ns,λi y v h1 h2 L=>?_⟩,λy c h=>⟨_,x.cell y c h⟩,d.hok.fresh<|u5 _,λy c h=>?_,λp j=>o0 (show p∈([]:List (c6×c7))from j) (by simp),d.hok.kept B,?_⟩;exact name_of_addr x.apart (LA h1)<|LA h2;have Q:scope.names.lookup y=a7 .cell\/scope.names.lookup y=a7 .free:=Q;rcases Q with Q|Q;exact wV Q;exact o0 rfl<|S.nofree _<|LA Q;exact Lv<|x.above y c<|LA h;have hi:i<vs.length:=by unfold start at h2;by_cases hi:i<vs.length;exact hi;rw[Kz<|by simpa using hi]at h2;rw[OD]at h2;split at h2<;>cases h2
 have F:vs[i]?=a7 v:=by
  unfold start at h2;rw[J5 (by simpa using hi),C8]at h2;cases e:vs[i]? with
  |none=>rw[e]at h2;cases h2
  |some a=>rw[e]at h2;cases h2;rfl
 obtain⟨u,C,J⟩:=r.get F;have j:ps[i]?=a7 y:=by rw[<-S.pre,Mu<|by lia];exact h1
 have m:ps.Nodup:=by rw[<-S.pre];exact S.nd.sublist<|NC _ _
 refine⟨u,J,?_⟩;rcases S.par y (F8 j)with k|k;exact .inl ⟨k,uh m j C k⟩;obtain⟨c,e⟩:=wV (n:=s.heap.objs.size+1) k;refine .inr ⟨.inl k,c,e,?_⟩;have q:=x.cell y c e;rw[uj m j C<|by show scope.names.lookup y≠_;rw[k];decide]at q;exact q;exact d.hok.fresh<|Lv<|x.above y c<|LA h;unfold start;show _=N.length;rw[x5,u4,Ox];lia
theorem fn_of{CX:KP}{P:c5}{w:b9}{K:t6}{mg:b8->Option b7}{base:c8}{k:Nat}{f:c6}{name l:b8}{p:Arguments}{a:List g7}{scope:e6}{T kV i U c R oc:b7}{M od:Option c6}{G:Array (Option b7)}{N ps:List b8}{sp:Sp} (lk:K.lookup f=a7 ⟨oc,od,.func<|Lu name l p a scope T kV i U M c R,G⟩) (C:N5 K c l=a9) (S:FnScope N ps scope)(B:∀vs H Q E,sp vs H Q E->vs.length=ps.length)(h:∀(A:d8) (outer:List Env) (s:d9) (H:Hp) (vs:List V) (Q:VK) (E:XK),Room k (A.deeper<|j7 l scope s.heap.objs.size f c)->sp vs H Q E -> ∃t,H9 (yq CX P w K mg base N l scope f c A outer s H E) a t/\t { nx:=λ_ H'=>Q .non H',rt:=Q } (start N vs) H):FnOk P w K mg base CX (k+1) f (Lu name l p a scope T kV i U M c R) ps sp:=by
 refine⟨B,λA outer s H O us vs Q E D j hb r z=>?_⟩;have hl:=B _ _ _ _ z;have X:K.In s.heap:=j.mod.kin.keeps λb o e=>(j.bs b o e).1;have F:s.heap.NoLimit:=j.mod.nolimit.keeps λb o e=>(j.bs b o e).1;have g:∀y∈ps.zip us,scope.names.lookup y.1=a7 .local\/(scope.names.lookup y.1=a7 .cell/\((cellsFrom (s.heap.objs.size+1) scope.names []).lookup y.1).isSome=a9):=λ⟨n,v⟩ hy=>by rcases S.par n (List.of_mem_zip hy).1 with q|q;exact .inl q;exact .inr ⟨q,PySem.W.cellsFrom_some _ _ _<|.inl q⟩
 refine codeAny_call_function D.depth (X _ _ lk) rfl S.co S.gen rfl (PySem.W.codeRec_of X C)<|hb _ _ _ _ ?_;refine wpAny_newFunctionEnv_cells S.kind g λenv he Y x=>?_;subst he;refine⟨F.keeps x.toInCall.keep,codeAny_func ?_⟩;obtain⟨t,ht,hq⟩:=h A outer s H vs Q E (D.deeper _) z;have I:p7 (yq CX P w K mg base N l scope f c A outer s H E) [] (start N vs) H Y:=Ak S D.hd j hl r x;refine I9 (ht [] Y (start N vs) H _ I hq) (λZ s' hs=>?_) λe s' hs=>hs;have m:∀{d:St}{H':Hp}{v:V}{u:b7},p7 (yq CX P w K mg base N l scope f c A outer s H E) [] d H' s'->aN v u->Q v H'->CE outer P w H s Q u s':=λ{d H' v u} J L q=>⟨v,H',J.os,J.bare,J.base,J.hok,L,q⟩
 cases Z with
 |ret u=>obtain⟨v,d,H',J,L,q⟩:=hs;exact m J L q
 |next=>obtain⟨d,H',J,q⟩:=hs;exact m (v:=V.non) (u:=ABr) J rfl q
 |brk=>obtain⟨_,_,_,q⟩:=hs;exact Lg q
 |cont=>obtain⟨_,_,_,q⟩:=hs;exact Lg q
section
variable{X:Cx}{x:b8}{p pos:f8}{e:f6}{es:List f6}{t:TA}{id T:String}{r:List V->Hp->VK->Prop}
def OP(r:List V->Hp->VK->Prop)(t:TA):TE:=λσ H Q=>t σ H λvs a=>r vs a Q
theorem BK(g:gK X (.builtin id) r)(S:Gl X x)(m:X.mg x=a8)(v:d7 x=a7 (.builtin id))(f:PA X (e::es) t)(n:x≠"__name__":=by decide)(b:(x==("__debug__":b8))=bt:=by decide)(i:ge (e::es) X.env=(bt,eval e X.env)::ge es X.env:=by rfl) (l:(f9 pos<|ge es X.env).any (·.1)=bt:=by rfl):PE X (.Call (.Name x p) (e::es) [] pos) (OP r t):=by intro a s σ H Q I h;refine ND<|nu I S m v ?_ n b;exact PyProof.Rows.callWith_builtin1 (u9 (f pos a s σ H _ I h) λus k ⟨vs,c,d,j,q⟩=>g a k σ c vs us Q d j q) i l
theorem zu(g:gK X (.type T) r)(S:Gl X x)(m:X.mg x=a8)(v:d7 x=a7 (.type T))(f:PA X (e::es) t)(n:x≠"__name__":=by decide)(b:(x==("__debug__":b8))=bt:=by decide)(i:ge (e::es) X.env=(bt,eval e X.env)::ge es X.env:=by rfl) (l:(f9 pos<|ge es X.env).any (·.1)=bt:=by rfl):PE X (.Call (.Name x p) (e::es) [] pos) (OP r t):=by intro a s σ H Q I h;refine ND<|nu I S m v ?_ n b;exact Pi (u9 (f pos a s σ H _ I h) λus k ⟨vs,c,d,j,q⟩=>g a k σ c vs us Q d j q) i l
end
end L2
namespace HT
open PySem PyProof.Rows
theorem rcLt_int(A:d8)(s:d9)(a:Int)(t:Tok)(c:Int)(u:Tok)(prog:c5)(w:b9)(E:b7->d9->Prop)(Q:b7->d9->Prop)(h:Q (.bool<|decide<|a<c) s):e8 (f7 prog w) A (richCompare .Lt (.int a t)<|.int c u) Q E s:=(PyProof.Rows.lt_int h:e8 (f7 prog w) A (j0 .Lt (.int a t)<|.int c u) Q E s)
section
variable{prog:c5}{w:b9}{A:d8}{E:b7->d9->Prop}{s:d9}
theorem cat_tup(r:IsTup s.heap t vs.toArray)(q:IsTup s.heap b ws.toArray)(v:vs≠[])(h1:ws=[]->Q (.ref t) s) (h2:ws≠[]->Q (.ref s.heap.objs.size) { s with heap:=s.heap.push { cls:=.type "tuple",data:=.seq (vs++ws).toArray } })(z:vs.length+ws.length<=sizeLine):e8 (f7 prog w) A (i9 .Add (.ref t)<|.ref b) Q E s:=by
 obtain⟨⟨cls,k,data,p⟩,D,l,n,m⟩:=id r;obtain⟨⟨j,d,i,f⟩,h,a,o,c⟩:=id q;simp only at l m a c;subst l m a c;have e:vs.toArray++ws.toArray=(vs++ws).toArray:=by simp
 by_cases g:ws=[]
 exact concat_meets ⟨_,D,rfl⟩ ⟨_,h,rfl⟩ noFill_tuple_add seq_tuple_add O9 Pc (Pe _ _) (tuple_addW1 t b vs.toArray ws.toArray n o k d p f (by simpa using v)<|by simp[g]) ⟨D,h,h1 g⟩;refine concat_meets ⟨_,D,rfl⟩ ⟨_,h,rfl⟩ noFill_tuple_add seq_tuple_add O9 Pc (Pe _ _) (tuple_addW2 t b vs.toArray ws.toArray n o k d p f (by simpa using v) (by simpa using g)<|by rw[x9,x9];exact z) ⟨D,h,?_⟩;rw[e];exact h2 g
noncomputable def sIx(n d:Nat):Option Int->Nat
 |none=>d
 |some v=>if v<0 then(v+(n:Int)).toNat else min v.toNat n
theorem sIx_nat(n d k:Nat):sIx n d (a7 (k:Int))=min k n:=by show (if (k:Int)<0 then((k:Int)+(n:Int)).toNat else min (k:Int).toNat n)=min k n;rw[n9 (by lia),Ki]
theorem Hc(n d:Nat)(h:d<=n)(o:Option Int):sIx n d o<=n:=by
 cases o with
 |none=>exact h
 |some v=>show (if v<0 then(v+(n:Int)).toNat else min v.toNat n)<=n;by_cases c:v<0;rw[n6 c];lia;rw[n9 c];exact Nat.min_le_right _ _
theorem AL(v:Int)(n d:Nat):(if v<0 then max (v+(n:Int)) 0 else min v (n:Int))=((sIx n d (a7 v):Nat):Int):=by
 show (if v<0 then max (v+(n:Int)) 0 else min v (n:Int))=(((if v<0 then(v+(n:Int)).toNat else min v.toNat n):Nat):Int)
 by_cases c:v<0;simp only[n6 c];lia;simp only[n9 c];lia
theorem yo(lo hi:Option Int)(n:Nat):Ph lo hi 1 (n:Int)=(((sIx n 0 lo:Nat):Int),((sIx n n hi:Nat):Int)):=by
 have h1:¬((1:Int)<0):=by lia
 unfold Ph;simp only[h1,o6];refine Prod.ext ?_ ?_;cases lo with
 |none=>rfl
 |some v=>exact AL v n 0
 cases hi with
 |none=>rfl
 |some v=>exact AL v n n
theorem xC(i j:Nat):OH (i:Int) (j:Int) 1=j-i:=by
 unfold OH;have h1:(1:Int) > 0:=by lia
 simp only[h1,o7,Int.ediv_one];split<;>lia
theorem oZ(p:j8 v o)(h:Q o s):e8 (f7 prog w) A (Builtin.Slice.slicePartIndex v) Q E s:=by
 cases p with
 |none=>exact slicePart_none h
 |int i t=>exact slicePart_int h
theorem fQ{m:c6}{l u:b7}{lo hi:Option Int}{n:Nat}{Q:Int×Int×Nat->d9->Prop}(hs:s.heap.IsSliceOf m l u .none)(p:j8 l lo)(d:j8 u hi)(h:Q (((sIx n 0 lo:Nat):Int),1,sIx n n hi-sIx n 0 lo) s):e8 (f7 prog w) A (Ps (.ref m)<|pure (n:Int)) Q E s:=by obtain⟨o,b,c,a⟩:=id hs;unfold Ps Builtin.Slice.sliceFields;refine p5<|p5<|wpAny_field b a (x:=l) rfl<|p5<|wpAny_field b a (x:=u) rfl<|p5<|wpAny_field b a (x:=.none) rfl<|p8 ?_;refine p5<|slicePart_none ?_;show e8 _ _ (if ((1:Int)==0)=a9 then _ else _) _ _ s;rw[n9<|by decide];refine p5<|oZ p<|p5<|oZ d<|p5<|p8 ?_;show e8 _ _ (match Ph lo hi 1 (n:Int)with|(lo,hi)=>pure (lo,(1:Int),OH lo hi 1)) _ _ s;rw[yo lo hi n];show e8 _ _ (pure (((sIx n 0 lo:Nat):Int),(1:Int),OH ((sIx n 0 lo:Nat):Int) ((sIx n n hi:Nat):Int) 1)) _ _ s;rw[xC];exact p8 h
theorem BF(xs:Array b7)(i k:Nat):((B9 k).filterMap λ(m:Nat)=>xs[((i:Int)+(m:Int)*1).toNat]?).toArray=((xs.toList.drop i).take k).toArray:=by
 have e:(λ(m:Nat)=>xs[((i:Int)+(m:Int)*1).toNat]?)=λm=>xs[i+m]?:=by
  funext m;have:((i:Int)+(m:Int)*1).toNat=i+m:=by lia
  rw[this]
 rw[e];have:=pick_run xs i k;rw[List.filterMap_map]at this;have a:((λx=>xs[x]?) ∘ λx=>i+x)=λm=>xs[i+m]?:=rfl;rw[a]at this;rw[this]
theorem getItem_tuple_cut{t l:c6}{i:Array b7}{v u:b7}{lo hi:Option Int}{Q:b7->d9->Prop}(a:IsTup s.heap t i)(hs:s.heap.IsSliceOf l v u .none)(p:j8 v lo)(k:j8 u hi)(g:¬(sIx i.size 0 lo=0/\sIx i.size i.size hi=i.size))(h:Q (.ref s.heap.objs.size) { s with heap:=s.heap.push { cls:=.type "tuple",data:=.seq ((i.toList.drop<|sIx i.size 0 lo).take<|sIx i.size i.size hi-sIx i.size 0 lo).toArray } })(z:i.size<=sizeLine):e8 (f7 prog w) A (j9 (.ref t)<|.ref l) Q E s:=by
 have e:sizeOk (.seq ((i.toList.drop<|sIx i.size 0 lo).take<|sIx i.size i.size hi-sIx i.size 0 lo).toArray):=by show ((i.toList.drop<|sIx i.size 0 lo).take<|sIx i.size i.size hi-sIx i.size 0 lo).toArray.size<=sizeLine;rw[x9,J1,Kx,D5];lia
 have L:sIx i.size i.size hi<=i.size:=Hc _ _ (u5 _) hi;obtain⟨j,d,c,f⟩:=id hs;have b:s.TypeIs (.ref l) "slice":=⟨j,d,c⟩
 unfold j9
 try with_reducible refine E5 ?_
 first|refine p5 (p8 ?_)|skip
 refine p5<|wpAny_sequenceKey a.typeIs (by decide) ?_;refine p5<|La (name:=r9 "__getitem__") a.typeIs MS<|J0 MS a.typeIs entry_tuple_getitem ?_<|args_tuple_getitem _ _;show e8 _ _ (OI (.ref t) >>= _) _ _ s;refine p5<|tupleItemsOf_ a ?_;refine p5<|LL b ?_;rw[n6<|by decide];refine p5<|fQ hs p k ?_;have o:¬((((sIx i.size 0 lo:Nat):Int)==0&&(1:Int)==1&&(sIx i.size i.size hi-sIx i.size 0 lo)==i.size)=a9):=by intro q;rw[D8,D8]at q;have n:((sIx i.size 0 lo:Nat):Int)=0:=eq_of_beq q.1.1;have r:sIx i.size i.size hi-sIx i.size 0 lo=i.size:=eq_of_beq q.2;exact g ⟨by lia,by lia⟩
 show e8 _ _ (if (((sIx i.size 0 lo:Nat):Int)==0&&(1:Int)==1&&(sIx i.size i.size hi-sIx i.size 0 lo)==i.size)=a9 then _ else _) _ _ s;rw[n9 o,BF]
 first
  |exact p5 (m:=OG _) (J2 (p8 ⟨_,rfl,p8 h⟩) e)
  |exact p5 (m:=OG _) (J2 (p5 (p8 (p8 ⟨_,rfl,p8 h⟩))) e)
  |exact p5 (p5 (m:=OG _) (J2 (p8 (p8 ⟨_,rfl,p8 h⟩)) e))
  |exact p5 (p5 (m:=OG _) (J2 (p8 ⟨_,rfl,p8 h⟩) e))
end
end HT
namespace L2
open PySem PySem.Spec PyProof.Rows
abbrev TO:=St->Hp->(Option Int->Hp->Prop)->Prop
def PO(X:Cx)(e:Option f6)(t:TO):Prop:=∀(p:List (c6×c7)) (s:d9) (σ:St) (H:Hp) (Q:Option Int->Hp->Prop),p7 X p σ H s->t σ H Q ->e8 (f7 X.prog X.w) X.A (evalPart e X.env) (λu s'=>∃o H',p7 X p σ H' s'/\j8 u o/\Q o H') X.xe s
def Eg:TO:=λ_ H Q=>Q a8 H
def tPart(t:TE):TO:=λσ H Q=>t σ H λx a=>∃i,x=.int i/\Q (a7 i) a
section
variable{X:Cx}{e:f6}{te:TE}{lo hi:Option f6}{tl th:TO}{pos p2:f8}
theorem EJ:PO X a8 Eg:=by intro p s σ H Q I h;rw[evalPart_none];exact p8 ⟨a8,H,I,.none,h⟩
theorem EI(h:PE X e te):PO X (a7 e) (tPart te):=by intro p s σ H Q I w;rw[evalPart_some];refine u9 (h p s σ H _ I w) ?_;rintro u f ⟨x,a,b,r,c⟩;obtain⟨i,rfl,q⟩:=c;obtain⟨t,rfl⟩:=r;exact⟨a7 i,a,b,.int i t,q⟩
def Nd(X:Cx)(r:V->Option Int->Option Int->Hp->VK->Prop):Prop:=∀(p:List (c6×c7)) (s:d9) (σ:St) (H:Hp) (x:V) (v a u:b7) (l hi:Option Int) (m:c6) (Q:VK),p7 X p σ H s->aN x v->s.heap.IsSliceOf m a u .none->j8 a l->j8 u hi->r x l hi H Q ->∃T id,typeLookup (.type T) "__getitem__" = pure (a7<|.builtin id)/\s.TypeIs v T/\e8 (f7 X.prog X.w) X.A (j9 v<|.ref m) (EP X p σ Q) X.xe s
def tSl(r:V->Option Int->Option Int->Hp->VK->Prop)(te:TE)(t h:TO):TE:=λσ H Q=>te σ H λx a=>t σ a λl b=>h σ b λu c=>r x l u c Q
theorem BH(y:Nd X r)(o:PE X e te)(t:PO X lo tl)(B:PO X hi th):PE X (.Subscript e (.Slice lo hi a8 p2) pos) (tSl r te tl th):=by intro p s σ H Q I h;refine Subscript_<|u9 (o p s σ H _ I h) ?_;rintro v L ⟨x,f,i,K,F⟩;refine wpAny_Slice<|u9 (t p L σ f _ i F) ?_;rintro a M ⟨l,g,j,C,G⟩;refine u9 (B p M σ g _ j G) ?_;rintro c z ⟨u,d,k,D,J⟩;rw[evalPart_none];refine p8 ?_;have m:p7 X p σ d { z with heap:=z.heap.push { cls:=.type "slice",data:=.fields #[a,c,.none] } }:=k.kept (t':=z.toks) λb N q=>v7 _ q;obtain⟨T,id,n,E,S⟩:=y p { z with heap:=z.heap.push { cls:=.type "slice",data:=.fields #[a,c,.none] } } σ d x v a c l u z.heap.objs.size Q m K (Heap.IsSliceOf.new ..) C D J;show e8 (f7 X.prog X.w) X.A (subscriptTail e (.Slice lo hi a8 p2) v<|.ref z.heap.objs.size) (EP X p σ Q) X.xe { z with heap:=z.heap.push { cls:=.type "slice",data:=.fields #[a,c,.none] } };exact tail_any (ops:=[.ref z.heap.objs.size,v]) E n S<|by with_unfolding_all rfl
noncomputable def DR(xs:List V)(lo hi:Option Int):List V:=(xs.drop<|HT.sIx xs.length 0 lo).take<|HT.sIx xs.length xs.length hi-HT.sIx xs.length 0 lo
theorem nG(xs:List V)(lo hi:Option Int):(DR xs lo hi).length<=xs.length:=by unfold DR;rw[J1,Kx];lia
def rSlT(K:t6):V->Option Int->Option Int->Hp->VK->Prop:=λx l hi H Q=>∃a xs,x=.ref a/\A1 K H a xs /\¬(HT.sIx xs.length 0 l=0/\HT.sIx xs.length xs.length hi=xs.length)/\∀p,H p=a8->Q (.ref p) (v5 H p<|.tup<|DR xs l hi)
theorem Ha:Nd X (rSlT X.K):=by
 intro p s σ H x v f i l hi m Q I g hs d u h;obtain⟨a,xs,rfl,c,w,q⟩:=h;cases g;obtain⟨its,r,E,z⟩:=I.tuple c;have n:its.toArray.size=xs.length:=by rw[x9];exact r.length.symm
 refine⟨"tuple",_,MS.lookup,E.typeIs,?_⟩;refine HT.getItem_tuple_cut E hs d u (by rw[n];exact w) ?_ (by rw[n];exact z);rw[n];refine⟨.ref s.heap.objs.size,_,I.laid (t':=s.toks) (o:=.tup<|DR xs l hi) (λb e q=>v7 _ q) (u5 _) ?_,rfl,q _<|I.hok.fresh<|u5 _⟩;exact⟨G1 (nG xs l hi) z,_,(r.drop<|HT.sIx xs.length 0 l).take<|HT.sIx xs.length xs.length hi-HT.sIx xs.length 0 l,DV.new _ _⟩
def rCatT(K:t6):R2:=λx y H Q=>∃a b xs ys,x=.ref a/\y=.ref b/\A1 K H a xs/\A1 K H b ys/\xs≠[]/\xs.length+ys.length<=sizeLine /\(ys=[]->Q (.ref a) H)/\(ys≠[]->∀p,H p=a8->Q (.ref p) (v5 H p<|.tup<|xs++ys))
theorem aw.nil_iff(r:aw xs us):us=[]↔xs=[]:=by
 cases r with
 |nil=>simp
 |cons _ _=>simp
theorem EU:C1 X (i9 .Add) (rCatT X.K):=by intro p s σ H x y v u Q I n t h;obtain⟨a,b,xs,ys,rfl,rfl,f,d,e,c,k,l⟩:=h;cases n;cases t;obtain⟨its,r,g,_⟩:=I.tuple f;obtain⟨i,m,j,_⟩:=I.tuple d;refine HT.cat_tup g j (λz=>e<|r.nil_iff.mp z) (λz=>⟨.ref a,H,I,rfl,k<|m.nil_iff.mp z⟩) (λz=>?_) (by rw[<-r.length,<-m.length];exact c);refine⟨.ref s.heap.objs.size,_,I.laid (t':=s.toks) (o:=.tup<|xs++ys) (λb A q=>v7 _ q) (u5 _) ?_,rfl,l (λw=>z<|m.nil_iff.mpr w) _<|I.hok.fresh<|u5 _⟩;exact⟨by rw[x5];exact c,_,r.append m,DV.new _ _⟩
end
noncomputable def K2(n:Nat)(i:Int):Option Nat:=if 0<=i then(if i<n then a7 i.toNat else a8)else if -(n:Int)<=i then a7 (i+n).toNat else a8
noncomputable def atI{α:Type}(xs:List α)(i:Int):Option α:=(K2 xs.length i).bind λj=>xs[j]?
theorem Aj(h:K2 n i=a7 j):seqIndex? i n=a7 j/\j<n/\-(n:Int)<=i/\i<n:=by unfold K2 at h;by_cases a:0<=i;rw[n6 a]at h;by_cases h1:i<n;rw[n6 h1]at h;have e:i.toNat=j:=C4 h;exact⟨by rw[seqIndex_of a h1,e],by lia,by lia,h1⟩;rw[n9 h1]at h;cases h;rw[n9 a]at h;by_cases h1:-(n:Int)<=i;rw[n6 h1]at h;have e:(i+n).toNat=j:=C4 h;exact⟨by rw[seqIndex_neg (by lia) h1,e],by lia,h1,by lia⟩;rw[n9 h1]at h;cases h
theorem vM{α:Type}{xs:List α}{i:Int}{v:α}(h:atI xs i=a7 v):∃j,seqIndex? i xs.length=a7 j/\xs[j]?=a7 v/\j<xs.length/\-(xs.length:Int)<=i/\i<xs.length:=by
 unfold atI at h;cases e:K2 xs.length i with
 |none=>rw[e]at h;cases h
 |some j=>rw[e]at h;obtain⟨h1,h2,a,d⟩:=Aj e;exact⟨j,h1,h,h2,a,d⟩
theorem ap{α:Type}{xs:List α}{j:Nat}{v:α}(h:xs[j]?=a7 v):atI xs (j:Int)=a7 v:=by
 have L:j<xs.length:=(w6.mp h).1;have e:K2 xs.length (j:Int)=a7 j:=by unfold K2;rw[n6 (by lia),n6<|by lia];simp
 unfold atI;rw[e];exact h
def vO(b:f6):Prop:=∀o i,subscripted b bt o i=operate [o,i] (j9 o i)
def KB(X:Cx)(r:R2):Prop:=∀(a e:f6) (p:List (c6×c7)) (s:d9) (σ:St) (H:Hp) (x y:V) (v u:b7) (Q:VK),p7 X p σ H s->aN x v->aN y u->r x y H Q ->subscripted e bt v u=operate [v,u] (j9 v u)->e8 (f7 X.prog X.w) X.A (subscriptTail a e v u) (EP X p σ Q) X.xe s
def Ix(X:Cx)(id:String)(r:V->List V->Hp->VK->Prop):Prop:=∀(p:List (c6×c7)) (s:d9) (σ:St) (H:Hp) (x:V) (xs:List V) (v:b7) (us:List b7) (Q:VK),p7 X p σ H s->aN x v->aw xs us->r x xs H Q ->e8 (f7 X.prog X.w) X.A (call (.builtin id)<|v::us) (EP X p σ Q) X.xe s
section
variable{X:Cx}{a b:f6}{ta tb:TE}{pos:f8}
theorem KB.or(h:KB X r)(h':KB X r'):KB X (λx y H Q=>r x y H Q\/r' x y H Q):=by intro a e p s σ H x y v u Q I g i q hs;rcases q with q|q;exact h a e p s σ H x y v u Q I g i q hs;exact h' a e p s σ H x y v u Q I g i q hs
theorem pe_ix(i:KB X r)(f:PE X a ta)(d:PE X b tb)(hs:vO b):PE X (.Subscript a b pos) (MU r ta tb):=by intro p s σ H Q I h;exact Subscript_<|binT f d I h λv u w x y c e g j q=>i a b p w σ c x y v u Q e g j q<|hs _ _
def rIxL(K:t6):R2:=λx y H Q=>∃p xs i v,x=.ref p/\y=.int i/\F9 K H p xs/\atI xs i=a7 v/\Q v H
def rIxT(K:t6):R2:=λx y H Q=>∃p xs i v,x=.ref p/\y=.int i/\A1 K H p xs/\atI xs i=a7 v/\Q v H
def rIxS:R2:=λx y H Q=>∃z i c,x=.str z/\y=.int i/\z.length<=sizeLine/\atI z.cps.toList i=a7 c/\Q (.str ⟨#[c]⟩) H
theorem FI:KB X (rIxL X.K):=by
 intro c e a s σ H x y v u Q I B C h hs;obtain⟨p,xs,i,z,rfl,rfl,A,m,q⟩:=h;cases B;obtain⟨t,rfl⟩:=C;obtain⟨its,r,l,F⟩:=I.list A;obtain⟨j,h1,h2,D,g,k⟩:=vM m;obtain⟨w,d,b⟩:=r.get h2;have o:=r.length;have E:=pp;have n:EP X a σ Q w s:=⟨z,H,I,b,q⟩
 by_cases f:0<=i;have L:i.toNat=j:=by rw[seqIndex_of f k]at h1;exact C4 h1
 exact item_listR l.isList f (by lia) (by rw[L];simpa using d) n hs;have L:(i+(its.toArray.size:Int)).toNat=j:=by rw[seqIndex_neg (by lia) g]at h1;rw[x9,<-o];exact C4 h1
 exact subscriptTail_builtinR (x:=w) l.isList.typeIs slot_list_getitem.lookup (wpAny_getItem_list_neg (Q:=λr s'=>r=w/\EP X a σ Q r s') l.isList (by lia) (by rw[x9]<;>lia) (by lia) (by rw[L];simpa using d) ⟨rfl,n⟩) hs
theorem IX:KB X (rIxT X.K):=by
 intro c e a s σ H x y v u Q I m o h hs;obtain⟨p,xs,i,z,rfl,rfl,k,f,q⟩:=h;cases m;obtain⟨t,rfl⟩:=o;obtain⟨its,r,l,E⟩:=I.tuple k;obtain⟨j,h1,h2,A,B,C⟩:=vM f;obtain⟨w,d,b⟩:=r.get h2;have g:=r.length;have D:=pp;have n:EP X a σ Q w s:=⟨z,H,I,b,q⟩
 exact subscriptTail_builtinR (x:=w) l.typeIs slot_tuple_getitem.lookup (getItem_tuple (j:=j) (Q:=λr s'=>r=w/\EP X a σ Q r s') l (by lia) (by lia) (by rw[x9,<-g];exact h1) (by simpa using d) ⟨rfl,n⟩) hs
theorem IY:KB X rIxS:=by
 intro a e p s σ H x y v u Q I r l h hs;obtain⟨z,i,c,rfl,rfl,w,f,q⟩:=h;obtain⟨t,rfl⟩:=r;obtain⟨t',rfl⟩:=l;obtain⟨j,h1,h2,n,d,k⟩:=vM f;have g:z.cps.toList.length=z.length:=by simp[Str.length]
 rw[g]at h1 d k;have o:=pp;exact tail_any (typeIs_str s z t) slot_str_getitem.lookup (getItem_str (c:=c) (by have b:decide (i < -(2 ^ 63:Int))=bt:=dF_ (by lia);have m:decide (i ≥ 2 ^ 63)=bt:=dF_ (by lia);rw[b,m,Bool.or_false]) (by rw[h1];simpa using h2) ⟨.str ⟨#[c]⟩,H,I.tok _,⟨_,rfl⟩,q⟩) hs
def rIx(K:t6):R2:=λx y H Q=>rIxL K x y H Q\/rIxT K x y H Q\/rIxS x y H Q
theorem IZ:KB X (rIx X.K):=FI.or<|IX.or IY
theorem xO(its:List b7)(n j:Nat)(u:b7):Kl (·.setIfInBounds j u) { cls:=.type "list",data:=.seq its.toArray n }={ cls:=.type "list",data:=.seq (its.set j u).toArray n }:=by simp[Kl]
theorem p7.lst(I:p7 X pins σ H s)(h:H p=a7 (.lst xs)):∃(its:List b7) (n:Nat),aw xs its/\s.heap.get? p=a7 { cls:=.type "list",data:=.seq its.toArray n }/\xs.length<=sizeLine:=by obtain⟨z,its,n,r,e⟩:=I.hok p _ h;exact⟨its,n,r,e,z⟩
theorem p7.lstUpd{pins:List (c6×c7)}{σ:St}{H:Hp}{s:d9}{p:c6}{xs ys:List V}{its its':List b7}{n a:Nat}{f:c7->c7}(I:p7 X pins σ H s)(h:H p=a7 (.lst xs))(D:s.heap.get? p=a7 { cls:=.type "list",data:=.seq its.toArray n }) (c:f { cls:=.type "list",data:=.seq its.toArray n }={ cls:=.type "list",data:=.seq its'.toArray a }) (r:aw ys its') (hz:ys.length<=sizeLine) (t:Nat):p7 X pins σ (v5 H p<|.lst ys) { s with heap:=s.heap.update p f,toks:=t }:=by
 have e:(s.heap.update p f).get? p=a7 { cls:=.type "list",data:=.seq its'.toArray a }:=by rw[Kk f D (by rw[c]<;>rfl),c]
 refine I.write (x:=p) (e:=p) (by rw[h];trivial) (.inl rfl) (λb u d q=>(MP _ _<|C3 d).trans q) ⟨_,e⟩ ?_;exact⟨hz,its',a,r,e⟩
def rSetL:V->V->V->Hp->(Hp->Prop)->Prop:=λo i v H Q=>∃p xs k j,o=.ref p/\i=.int k/\H p=a7 (.lst xs)/\K2 xs.length k=a7 j/\Q (v5 H p<|.lst<|xs.set j v)
theorem By:PSet X rSetL:=by
 intro a s σ H o i v B A u Q I w m x h;obtain⟨p,xs,k,j,rfl,rfl,l,L,q⟩:=h;cases w;obtain⟨t,rfl⟩:=m;obtain⟨its,n,r,D,z⟩:=I.lst l;obtain⟨h1,h2,e,f⟩:=Aj L;have g:=r.length;have y:=pp;have c:p7 X a σ (v5 H p<|.lst<|xs.set j v) { s with heap:=s.heap.update p (Kl (·.setIfInBounds j u)) }:=I.lstUpd l D (xO its n j u) (r.set x j) (by rw[LR];exact z) s.toks;by_cases d:0<=k;have b:k.toNat=j:=by rw[seqIndex_of d f]at h1;exact C4 h1
 exact PySem.W.ki_setAt D d (by lia) (by rw[x9,<-g];exact f) (by rw[b];exact⟨_,c,q⟩);have b:(k+(its.toArray.size:Int)).toNat=j:=by rw[seqIndex_neg (by lia) e]at h1;rw[x9,<-g];exact C4 h1
 exact PySem.W.ki_setBack D (by lia) (by rw[x9,<-g];exact e) (by lia)<|by rw[b];exact⟨_,c,q⟩
theorem sL(lo hi:Option Int)(n:Nat):(k5 lo hi a8 n).1=((HT.sIx n 0 lo:Nat):Int)/\(k5 lo hi a8 n).2.1=((HT.sIx n n hi:Nat):Int)/\(k5 lo hi a8 n).2.2=1:=by
 refine⟨?_,?_,rfl⟩;cases lo with
 |none=>simp[k5,HT.sIx]
 |some i=>simp only[k5,HT.sIx,Option.getD_none,show (1:Int) > 0 by decide,o7];by_cases h:i<0;simp only[h,o7]<;>lia;simp only[h,o6]<;>lia
 cases hi with
 |none=>simp[k5,HT.sIx]
 |some i=>simp only[k5,HT.sIx,Option.getD_none,show (1:Int) > 0 by decide,o7];by_cases h:i<0;simp only[h,o7]<;>lia;simp only[h,o6]<;>lia
theorem pQ(its:List b7)(lo hi:Option Int):slicePick its.toArray lo hi a8=((its.drop<|HT.sIx its.length 0 lo).take<|HT.sIx its.length its.length hi-HT.sIx its.length 0 lo).toArray:=by obtain⟨h1,h2,a⟩:=sL lo hi its.toArray.size;unfold slicePick;rw[h1,h2,a];simp only[sliceRange_one,pick_run,x9]<;>rfl
def rSlL(K:t6):V->Option Int->Option Int->Hp->VK->Prop:=λx l hi H Q=>∃a xs,x=.ref a/\F9 K H a xs/\∀p,H p=a8->Q (.ref p) (v5 H p<|.lst<|DR xs l hi)
theorem En:Nd X (rSlL X.K):=by intro p s σ H x v f i l hi m Q I g hs d u h;obtain⟨a,xs,rfl,c,q⟩:=h;cases g;obtain⟨its,r,E,z⟩:=I.list c;have n:=r.length;refine⟨"list",_,slot_list_getitem.lookup,E.isList.typeIs,?_⟩;refine wpAny_getItem_list_slice E.isList hs d u .none (by simp) ?_ (by rw[x9]<;>lia);rw[pQ,<-n];refine⟨.ref s.heap.objs.size,_,I.laid (t':=s.toks) (o:=.lst<|DR xs l hi) (λb e q=>v7 _ q) (u5 _) ?_,rfl,q _<|I.hok.fresh<|u5 _⟩;exact⟨G1 (nG xs l hi) z,_,0,(r.drop<|HT.sIx xs.length 0 l).take<|HT.sIx xs.length xs.length hi-HT.sIx xs.length 0 l,A8 _ rfl⟩
theorem ue:gK X (.builtin "len") (λxs H Q=>∃p ys,xs=[.ref p]/\(F9 X.K H p ys\/A1 X.K H p ys)/\Q (.int ys.length) H):=by intro b s σ H xs us Q I r h;obtain⟨p,ys,rfl,a,q⟩:=h;obtain⟨u,rfl,g⟩:=Ee r;cases g;have f:=pp;rcases a with a|a;obtain⟨its,r',l,z⟩:=I.list a;have n:=r'.length;exact Calls.call_len_list l.isList (by simp only[x9]<;>lia) ⟨.int ys.length,H,I.tok _,⟨s.toks+1,by rw[x9,n]⟩,q⟩;obtain⟨its,r',l,z⟩:=I.tuple a;have n:=r'.length;exact len_tuple l (by simp only[x9]<;>lia) ⟨.int ys.length,H,I.tok _,⟨s.toks+1,by rw[x9,n]⟩,q⟩
theorem ud:gK X (.builtin "len") (λxs H Q=>∃z,xs=[.str z]/\z.length<=sizeLine/\Q (.int z.length) H):=by intro p s σ H xs us Q I r h;obtain⟨z,rfl,b,q⟩:=h;obtain⟨u,rfl,t,rfl⟩:=Ee r;have f:=pp;exact len_str (by lia) ⟨.int z.length,H,I.tok _,⟨_,rfl⟩,q⟩
theorem gK.or(h:gK X f r)(h':gK X f r'):gK X f (λxs H Q=>r xs H Q\/r' xs H Q):=by intro p s σ H xs us Q I a q;rcases q with q|q;exact h p s σ H xs us Q I a q;exact h' p s σ H xs us Q I a q
theorem qI:gK X (.type "tuple") (λxs H Q=>∃p ys,xs=[.ref p]/\((F9 X.K H p ys/\∀l,H l=a8->Q (.ref l) (v5 H l<|.tup ys))\/(A1 X.K H p ys/\Q (.ref p) H))):=by
 intro a s σ H xs us Q I r h;obtain⟨p,ys,rfl,h⟩:=h;obtain⟨u,rfl,x⟩:=Ee r;cases x;rcases h with⟨c,q⟩|⟨c,q⟩
 obtain⟨its,r',d,z⟩:=I.list c;have n:=r'.length;refine call_tuple_list d.isList (λh' kp=>?_) (by simp only[x9]<;>lia);have f:p7 X a σ H { s with heap:=h' }:=I.kept (t':=s.toks) kp;have g:p7 X a σ (v5 H h'.objs.size<|.tup ys) { s with heap:=h'.push { cls:=.type "tuple",data:=.seq its.toArray } }:=f.laid (t':=s.toks) (λb o e=>v7 _ e) (u5 _)<|show cS X.prog X.w _ _ _ (.tup ys)from⟨z,its,r',DV.new _ _⟩;exact⟨.ref h'.objs.size,_,g,rfl,q _<|f.hok.fresh<|u5 _⟩;obtain⟨its,r',d,z⟩:=I.tuple c;exact call_tuple_same d ⟨.ref p,H,I,rfl,q⟩
def ON(K:t6)(T:String)(x:V)(H:Hp):Prop:=match x with
 |.str _=>T = "str"
 |.int _=>T = "int"
 |.ref p=>(T = "list"/\∃xs,F9 K H p xs)\/(T = "tuple"/\∃o,K.lookup p=a7 o/\o.cls=.type "tuple"/\o.dict=a8) \/(T = "dict"/\((∃s,H p=a7 (.dK s))\/∃s,H p=a7 (.dT s)))\/(T = "set"/\∃S n,H p=a7 (.set S n))
 |_=>False
theorem Dl(I:p7 X pins σ H s)(r:aN x v)(y:ON X.K T x H):s.TypeIs v T/\∀a,v=.ref a->∃ob,s.heap.get? a=a7 ob/\ob.dict=a8:=by
 cases x with
 |str z=>obtain⟨t,rfl⟩:=r;cases (show T = "str" from y);exact⟨typeIs_str s z t,λ_ e=>nomatch e⟩
 |int i=>obtain⟨t,rfl⟩:=r;cases (show T = "int" from y);exact⟨typeIs_int s i t,λ_ e=>nomatch e⟩
 |ref p =>
  cases r;rcases y with⟨rfl,xs,q⟩|⟨rfl,o,k,h,d⟩|⟨rfl,k⟩|⟨rfl,S,n,k⟩
  obtain⟨its,_,l,_⟩:=I.list q;refine⟨l.isList.typeIs,λa e=>?_⟩;cases e;obtain⟨o,n,e,c,d,_⟩:=l;exact⟨o,e,d⟩;refine⟨⟨o,I.kIn p o k,h⟩,λa e=>?_⟩;cases e;exact⟨o,I.kIn _ o k,d⟩;have z:∃o,s.heap.get? p=a7 o/\o.ExactDict:=by
   rcases k with⟨f,k⟩|⟨f,k⟩
   obtain⟨_,_,_,_,o,_,_,e,b,_⟩:=I.hok p _ k;exact⟨o,e,b⟩;obtain⟨_,_,_,_,o,_,_,e,b,_⟩:=I.hok p _ k;exact⟨o,e,b⟩
  obtain⟨o,e,b⟩:=z;refine⟨⟨o,e,b.1⟩,λa m=>?_⟩;cases m;exact⟨o,e,b.2.1⟩;obtain⟨o,_,_,_,e,b,_⟩:=I.hok p _ k;refine⟨⟨o,e,b.1⟩,λa m=>?_⟩;cases m;exact⟨o,e,b.2.1⟩
 |_=>exact Lg y
def tBM0(K:t6)(T:String)(r:V->List V->Hp->VK->Prop)(e:TE):TE:=λσ H Q=>e σ H λx a=>ON K T x a/\r x [] a Q
def tBM(K:t6)(T:String)(r:V->List V->Hp->VK->Prop)(e:TE)(t:TA):TE:=λσ H Q=>e σ H λx a=>ON K T x a/\t σ a λxs b=>r x xs b Q
variable{o e:f6}{es:List f6}{to:TE}{t:TA}{name:b8}{apos cpos:f8}{T id:String}{r:V->List V->Hp->VK->Prop}
theorem HM(f:PlainAttrs T)(slot:Slot T name id)(y:k7 (.builtin id)=pure (.type "method_descriptor"))(m:Ix X id r)(D:PE X o to)(e:k9 o name X.env (eval o X.env)=eval o X.env:=by rfl) (a:(apos.endLine==cpos.line)=a9:=by rfl):PE X (.Call (.Attribute o name apos) [] [] cpos) (tBM0 X.K T r to):=by intro p s σ H Q I h;refine wpAny_Call_method0_late e a<|u9 (D p s σ H _ I h) ?_;rintro v g ⟨x,d,b,c,t,q⟩;obtain⟨h1,h2⟩:=Dl b c t;exact⟨T,id,f,slot,y,h1,h2,MN rfl<|PySem.evalArgs_none<|m p g σ d x [] v [] Q b c .nil q⟩
theorem HN(q:PlainAttrs T)(slot:Slot T name id)(y:k7 (.builtin id)=pure (.type "method_descriptor"))(l:Ix X id r)(D:PE X o to)(k:PA X (e::es) t)(b:k9 o name X.env (eval o X.env)=eval o X.env:=by rfl)(w:((f9 cpos<|ge (e::es) X.env).all (λx=>!x.1)&&(l7 cpos<|l8 [] X.env).all (λx=>x.1.isSome) && decide ((e::es).length+([]:List j5).length+(if ([]:List j5).isEmpty then 0 else 1)<30))=a9:=by rfl)(c:(apos.endLine==cpos.line)=a9:=by rfl) (hs:ge (e::es) X.env=(bt,eval e X.env)::ge es X.env:=by rfl) (n:(f9 cpos<|ge es X.env).any (·.1)=bt:=by rfl):PE X (.Call (.Attribute o name apos) (e::es) [] cpos) (tBM X.K T r to t):=by intro p s σ H Q I h;refine Oz b w c rfl<|u9 (D p s σ H _ I h) ?_;rintro v C ⟨x,g,d,f,F,u⟩;obtain⟨h1,h2⟩:=Dl d f F;refine⟨T,id,q,slot,y,h1,h2,?_⟩;have A:=k cpos p C σ g _ d u;rw[hs]at A ⊢;refine MN (by show (bt||(f9 cpos<|ge es X.env).any (·.1))=bt;rw[n]<;>rfl)<|Ou ?_;refine u9 A ?_;rintro us E ⟨vs,i,j,B,z⟩;exact l p E σ i x vs v us Q j f B z
/- xs.append(e),list.index on a module's tuple .. are Ix facts of 06m -/
end
def OW(X:Cx)(id:String)(r:V->List V->Hp->VK->Prop):Prop:=∀(p:List (c6×c7)) (s:d9) (σ:St) (H:Hp) (x:V) (xs:List V) (v:b7) (us:List b7) (Q:VK),p7 X p σ H s->aN x v->aw xs us->r x xs H Q ->e8 (f7 X.prog X.w) X.A (call (.builtin id)<|v::us) (EP X p σ Q) X.xe s
theorem aw.one(h:aw [x] us):∃u,us=[u]/\aN x u:=by
 cases h with
 |cons r t=>cases t;exact⟨_,rfl,r⟩
theorem aw.two(h:aw [x,y] us):∃u v,us=[u,v]/\aN x u/\aN y v:=by
 cases h with
 |cons r t=>obtain⟨v,e,q⟩:=aw.one t;subst e;exact⟨_,v,rfl,r,q⟩
theorem aw.zero:∀{us:List b7},aw [] us->us=[]
 |_,.nil=>rfl
theorem aw.dropLast(h:aw xs us):aw xs.dropLast us.dropLast:=by
 induction h with
 |nil=>exact .nil
 |cons r t i =>
  cases t with
  |nil=>exact .nil
  |cons q t'=>exact .cons r i
theorem ye{α:Type}(l:List α):l.eraseIdx (l.length-1)=l.dropLast:=by
 induction l with
 |nil=>rfl
 |cons a r i =>
  cases r with
  |nil=>rfl
  |cons b r =>
   have e:(a::b::r).length-1=((b::r).length-1)+1:=by have h1:(a::b::r).length=r.length+2:=rfl;have h2:(b::r).length=r.length+1:=rfl;lia
   rw[e,List.eraseIdx_cons_succ,i]
   all_goals rfl
section
variable{X:Cx}{pins:List (c6×c7)}{σ:St}{H:Hp}{s:d9}{l b:c6}{xs ys zs:List V}
theorem p7.lset{its its':List b7}{n:Nat}{f:Array b7->Array b7}{t':Nat}(I:p7 X pins σ H s)(h:H l=a7 (.lst xs))(e:s.heap.get? l=a7 { cls:=.type "list",data:=.seq its.toArray n }) (a:f its.toArray=its'.toArray) (c:aw ys its') (hz:ys.length<=sizeLine):p7 X pins σ (v5 H l<|.lst ys) { s with heap:=s.heap.update l<|Kl f,toks:=t' }:=by have q:=PySem.IsL.update e f;rw[a]at q;refine I.write (x:=l) (e:=l) (by rw[h];exact trivial) (.inl rfl) (λb u d g=>(MP s.heap (Kl f)<|C3 d).trans g) ⟨_,q⟩ ?_;exact⟨hz,its',_,c,q⟩
theorem p7.lnew(I:p7 X pins σ H s)(c:aw ys its)(hz:ys.length<=sizeLine):p7 X pins σ (v5 H s.heap.objs.size<|.lst ys) { s with heap:=s.heap.push { cls:=.type "list",data:=.seq its.toArray },toks:=t' }:=I.laid (λ_ _ q=>v7 _ q) (u5 _) ⟨hz,its,0,c,A8 _ rfl⟩
theorem p7.fresh(I:p7 X pins σ H s):H s.heap.objs.size=a8:=I.hok.fresh<|u5 _
theorem p7.lstM(I:p7 X pins σ H s)(h:H l=a7 (.lst xs)):xs.length<=sizeLine/\∃(its:List b7) (n:Nat),aw xs its/\xs.length=its.length/\s.heap.get? l=a7 { cls:=.type "list",data:=.seq its.toArray n }:=by obtain⟨z,its,n,r,e⟩:=I.hok l _ h;exact⟨z,its,n,r,r.length,e⟩
theorem BU(h:n<=sizeLine):Pd n=bt:=by unfold Pd;exact dF_<|by lia
end
section
variable{X:Cx}
def Et:V->List V->Hp->VK->Prop:=λx vs H Q=>∃l xs y,x=.ref l/\vs=[y]/\H l=a7 (.lst xs)/\xs.length<sizeLine/\Q .non (v5 H l<|.lst<|xs++[y])
theorem zK:OW X "list.append" Et:=by intro p s σ H x vs v us Q I g d h;obtain⟨l,xs,y,rfl,rfl,a,c,q⟩:=h;cases g;obtain⟨u,rfl,T⟩:=d.one;obtain⟨z,its,n,r,b,e⟩:=I.lstM a;refine call_meets F.slot_list_append ⟨_,e,rfl⟩ F.entry_list_append (F.args_list_append_2 _ _) (PySem.list_append l its.toArray n u<|by rw[x9];lia) ⟨e,?_⟩;refine⟨.non,_,I.lset (its':=its++[u]) a e (by simp) (r.append<|.cons T .nil) ?_,rfl,q⟩;rw[x5,F5];lia
def Es:V->List V->Hp->VK->Prop:=λx vs H Q=>∃l b xs s,x=.ref l/\vs=[.ref b]/\H l=a7 (.lst xs)/\H b=a7 (.lst s)/\xs.length+s.length<=sizeLine/\Q .non (v5 H l<|.lst<|xs++s)
theorem zJ:OW X "list.extend" Es:=by
 intro p s σ H x vs v us Q I k j h;obtain⟨l,b,xs,A,rfl,rfl,c,B,w,q⟩:=h;cases k;obtain⟨u,rfl,T⟩:=j.one;cases T;obtain⟨z,its,n,r,t,e⟩:=I.lstM c;obtain⟨y,i,o,f,d,m⟩:=I.lstM B;have a:its.toArray.size+i.toArray.size<=sizeLine:=by rw[x9,x9];lia
 have g:¬(!its.toArray.isEmpty&&Pd (its.toArray.size+i.toArray.size))=a9:=by rw[BU a,N4];exact Ln
 refine call_meets F.slot_list_extend ⟨_,e,rfl⟩ F.entry_list_extend (F.args_list_extend_2 _ _) (AutoSeq1.list_extend_list_list_0 l its.toArray n b i.toArray o g (by rw[x9];lia)<|by lia) ⟨e,m,?_⟩;refine⟨.non,_,I.lset (its':=its++i) c e (by simp) (r.append f) ?_,rfl,q⟩;rw[x5];lia
def rPop:V->List V->Hp->VK->Prop:=λx vs H Q=>∃l xs y,x=.ref l/\vs=[]/\H l=a7 (.lst xs)/\xs[xs.length-1]?=a7 y/\Q y (v5 H l<|.lst xs.dropLast)
theorem Iq:OW X "list.pop" rPop:=by
 intro p s σ H x vs v us Q I j i h;obtain⟨l,xs,y,rfl,rfl,c,f,q⟩:=h;cases j;have a:=i.zero;subst a;obtain⟨z,its,n,r,g,e⟩:=I.lstM c;obtain⟨u,d,T⟩:=r.get f;have b:its.toArray[its.toArray.size-1]?=a7 u:=by show its.toArray[its.length-1]?=a7 u;rw[<-F4,<-g];exact d
 refine call_meets F.slot_list_pop ⟨_,e,rfl⟩ F.entry_list_pop (F.args_list_pop_1 _) (MeetsSeq.list_pop_last l its.toArray n u b<|by rw[x9];lia) ⟨e,?_⟩;refine⟨y,_,I.lset (its':=its.dropLast) c e ?_ r.dropLast ?_,T,q⟩;show its.toArray.eraseIdxIfInBounds (its.toArray.size-1)=its.dropLast.toArray;rw[x9,List.eraseIdxIfInBounds_toArray,ye];rw[List.length_dropLast];lia
def rCat:R2:=λx y H Q=>∃l b xs s,x=.ref l/\y=.ref b/\H l=a7 (.lst xs)/\H b=a7 (.lst s)/\xs.length+s.length<=sizeLine/\∀p,H p=a8->Q (.ref p) (v5 H p<|.lst<|xs++s)
theorem Ib:C1 X (i9 .Add) rCat:=by
 intro p s σ H x y v u Q I g j h;obtain⟨l,b,xs,A,rfl,rfl,c,B,o,q⟩:=h;cases g;cases j;obtain⟨z,its,n,r,k,e⟩:=I.lstM c;obtain⟨w,i,t,f,d,m⟩:=I.lstM B;refine PySem.P.add_list e m ?_ (by rw[x9,x9];lia);have a:its.toArray++i.toArray=(its++i).toArray:=by simp
 rw[a];exact⟨.ref _,_,I.lnew (t':=s.toks) (r.append f) (by rw[x5];lia),rfl,q _ I.fresh⟩
end
end L2
namespace Att
open PySem PySem.W PySem.Calls PyProof.Rows
theorem nA:∀(ns:List Int) (vs:List b7),WellAll P h vs (ns.map WData.int)->IntsAre vs ns:=by
 intro ns;induction ns with
 |nil=>intro vs w;rw[No]at w;cases w;exact .nil
 |cons n ns i =>
  intro vs w;rw[A3]at w;cases w with
  |cons a b=>cases a;exact .cons _ _<|i _ b
theorem zi{l:OpenLaw}{n:Nat}(o:l.most=a7 n){P:Params}{h:c8}{args:List WData}{s:List b7}(e:l.row.toRowW.claim.pre args=a9) (i:WellAll P h s args):∃a vs ns,s=[ABO a]/\args=[WData.list<|ns.map WData.int]/\h.get? a=a7 { cls:=.type "list",data:=.seq vs.toArray }/\IntsAre vs ns/\ns.length<=n:=by
 have g:WShape.hasAll [] args [.list .int]=a9:=(pre_splitW e).1;have j:l.pre.holds [] { args:=args }=a9:=(pre_splitW e).2;obtain⟨d,r,rfl,h1,h2⟩:=hasAllW_cons g;obtain rfl:=hasAllW_nil h2;obtain⟨xs,rfl,m⟩:=hasW_list h1;obtain⟨ns,rfl⟩:=items_int m;have c:ns.length<=n:=by
  unfold OpenLaw.pre at j;have f:(WTm.not<|.lt (.lit<|.int (n:Int))<|.len<|.arg 0).holds [] { args:=[.list<|ns.map .int] }=a9:=by have f:=(holds_andW j).1;rw[o]at f;exact f
  have k:=condW_of f<|w_not<|w_lt w_lit<|w_len_list<|w_arg rfl;rw[u4]at k;refine Nat.le_of_not_lt λq=>?_;have p:(n:Int)<((ns.length:Nat):Int):=by lia
  first
   |(rw[dT_ p]at k;exact o0 k (by decide))
   |(simp at k;lia)
 cases i with
 |cons L w =>
  cases w;cases L with
  |list D b=>exact⟨_,_,ns,rfl,rfl,D,nA ns _ b,c⟩
theorem zo(l:OpenLaw)(args:List WData):l.row.toRowW.claim.post args (.bool a9) args=a9:=postW_of (r:=l.row.toRowW) (X:=(a9==a9))
  (show WShape.has [] (.bool a9) .bool=a9 by first|rfl|decide|simp[WShape.has,WShape.arms,WShape.armsAll])
  (show (WTm.eq .res<|.lit<|.bool a9).value [] { args:=args,res:=a7<|.bool a9,after:=args }=a7 (.bool<|a9==a9)from w_eq_bool (w_res rfl) w_lit) rfl
theorem attach_call{l:OpenLaw}{n:Nat}{q:c5}{e:List b8}{P:(b8->Option b7)->c8->Prop}{YP:b9->c8->Prop}{d:DefRec}(A:l.most=a7 n) (i:d.params.defaults=[])(c:∀(w:b9) (s₀ s₁:d9) (mg mb:b8->Option b7) (fa:c6) (o:c7) (pm cd doc:b7) (a:c6) (vs:List b7) (ns:List Int),Ground q e [] P w s₀ mg mb s₁.heap->YP w s₁.heap -> s₁.heap.get? fa=a7 o->o.data=.func (docDef d.name d.params d.body d.scope pm cd doc)->s₁.heap.CodeRec cd d.name->mg d.name=a7 (.ref fa) ->s₁.heap.get? a=a7 { cls:=.type "list",data:=.seq vs.toArray }->IntsAre vs ns->ns.length<=n->s₁.gens = #[] ->j4 (f7 l.prog w) callerA (.call (.ref fa) ⟨[.ref a],[]⟩) (λr s'=>r=.ok (.ret<|.bool a9)/\OldK s₁.heap s'.heap/\s'.os=s₁.os/\e7 s'.gens) s₁):WalkO q e P YP l.row.toRowW d [] (λf vs=>PySem.call f vs):=by intro w s₀ s₁ mg mb G Y fa o pm cd doc T kV B u g D k S O v F b y E m x;obtain rfl:T=.none:=Dflts.none D i;obtain rfl:kV=.none:=Dflts.noKw D;obtain⟨a,vs,ns,rfl,rfl,j,s,h⟩:=zi A b m;refine enter_call<|MD (c w s₀ s₁ mg mb fa o pm cd doc a vs ns G Y B (fd_plain u) g k j s h S) λr s' C=>?_;obtain⟨rfl,h2,p,t⟩:=C;exact⟨.inl ⟨.bool a9,.bool a9,[],rfl,λ_=>rfl,.bool a9,zo l _,λ_=>⟨Ol,λ_ z=>(nomatch z)⟩⟩,h2,p,t⟩
section
variable{prog:c5}{w:b9}{A:d8}{E:b7->d9->Prop}{s:d9}{K:Frag}
noncomputable def wH(h:c8):c8:={ h with objs:=#[] }
theorem jT(h:c8)(b:c6):(wH h).get? b=a8:=by
 cases e:(wH h).get? b with
 |none=>rfl
 |some o=>exact o0 (v9 e)<|Ll _
noncomputable def ledger(h:c8)(L d:c6):List (c6×c7):=(B9 h.objs.size).filterMap λa=>if a=L\/a=d then a8 else(h.get? a).map λo=>(a,o)
theorem mem_ledger:(a,o)∈ledger h L d↔a≠L/\a≠d/\h.get? a=a7 o:=by unfold ledger;rw[Mq];constructor;rintro⟨b,_,e⟩;split at e;cases e;rename_i c;obtain⟨o',D,f⟩:=LB.mp e;cases f;exact⟨λq=>c<|.inl q,λq=>c<|.inr q,D⟩;rintro⟨n1,n2,D⟩;refine⟨a,F7.mpr<|v9 D,?_⟩;rw[n9<|show ¬(a=L\/a=d)from λq=>q.elim n1 n2,D]<;>rfl
theorem news_ledger(b:d≠L)(D:h.get? d=a7 od):News (wH h) L h ([]++(d,od)::ledger h L d):=by rintro⟨a,o⟩ p;rcases z5.mp p with e|p;cases e;exact⟨D,b,jT _ _⟩;obtain⟨n,c,e⟩:=mem_ledger.mp p;exact⟨e,n,jT _ _⟩
theorem fr_all(n:h.Ns L m):Fr (wH h) L h m:=⟨n,λb o e=>(by rw[jT]at e;cases e),w4 _⟩
end
end Att
namespace L2
open PySem PySem.Spec PyProof.Rows
theorem qY:∀{vs:List b7}{ns:List Int},IntsAre vs ns->aw (ns.map V.int) vs
 |_,_,.nil=>.nil
 |_,_,.cons n t h=>.cons ⟨t,rfl⟩<|qY h
def Only(H:Hp):Prop:=∀b,H b=a8\/∃o xs,H b=a7 (.frz o<|.lst xs)
theorem Cl{P:c5}{w:b9}{K:t6}{mg mb:b8->Option b7}{CX:KP}{k:Nat}{I a:c6}{R:j3}{x:b8}{sp:Sp}{s₁:d9}{vs:List b7}{ns:List Int}(O:K.In s₁.heap) (y:s₁.heap.Ns d6 mg) (c:s₁.heap.Ns builtinsNs mb) (J:∀x:b8,x≠"__name__"->mb x=d7 x) (t:s₁.heap.NoLimit) (hg:s₁.gens = #[])(D:s₁.heap.get? a=a7 { cls:=.type "list",data:=.seq vs.toArray }) (hi:IntsAre vs ns) (U:ns.length<=sizeLine) (hr:Room k callerA)(F:∀base:c8,K.In base->base.Ns d6 mg->FnOk P w K mg base CX k I R [x] sp) (j:∀(s:d9) (u:b7),BindsTo s R ⟨[u],[]⟩ [(x,u)])(M:∀H:Hp,Only H->F9 K H a (ns.map V.int)->sp [.ref a] H (λv _=>v=.bl a9) λ_ _ _=>False)(X:∀H e s',CX [] H s₁ (λ_ _ _=>False) e s'->False):j4 (f7 P w) callerA (.call (.ref I) ⟨[.ref a],[]⟩) (λr s'=>r=.ok (.ret<|.bool a9)/\OldK s₁.heap s'.heap/\s'.os=s₁.os/\e7 s'.gens) s₁:=by
 have W:=qY hi;have C:=hi.length
 -- from an abstract heap in which nothing but the script may be tracked
 have i:∀H:Hp,Only H->F9 K H a (ns.map V.int)->D2 P w H s₁.heap->(∀b,H b≠a8->b=a)->(H a≠a8->K.lookup a=a8) -> j4 (f7 P w) callerA (.call (.ref I) ⟨[.ref a],[]⟩) (λr s'=>r=.ok (.ret<|.bool a9)/\OldK s₁.heap s'.heap/\s'.os=s₁.os/\e7 s'.gens) s₁:=by
  intro H T hS A S hK;have f:∀{b:c6}{o:c7},s₁.heap.get? b=a7 o->H b=a8->(CH s₁.heap H).get? b=a7 o:=λe n=>CG e n;have N:∀{b:c6}{o:c7}{es:Array m3}{ep:Nat},s₁.heap.get? b=a7 o->o.data=.dict es ep->H b=a8:=λ{b o es ep} e d=>by
   cases q:H b with
   |none=>rfl
   |some u=>have E:b=a:=S b (by rw[q];simp);subst E;rw[D]at e;cases e;have Z:Data.seq vs.toArray _=Data.dict es ep:=d;cases Z
  have g:∀{b:c6}{m:b8->Option b7},s₁.heap.Ns b m->(CH s₁.heap H).Ns b m:=λ{b m} ⟨o,es,ep,e,d,r⟩=>⟨o,es,ep,f e<|N e d,d,r⟩
  have p:K.In (CH s₁.heap H):=λb o e=>f (O b o e) (by
   cases q:H b with
   |none=>rfl
   |some u=>have E:b=a:=S b (by rw[q];simp);subst E;rw[hK<|by rw[q];simp]at e;cases e)
  have hM:Mod K mg (CH s₁.heap H):=⟨p,g y,⟨mb,g c,J⟩,let ⟨mc,h1,h2⟩:=t;⟨mc,g h1,h2⟩⟩
  have e0:Env0 P w K mg (CH s₁.heap H) callerA [] s₁ H:=⟨rfl,hM,λb o e=>EY e,Nat.le_of_eq<|Aq _ _,trivial,λb c=>o0 (show b∈([]:List c6)from c) (by simp),A,.of_eq hg⟩
  refine MD ((F _ p<|g y).run callerA [] s₁ H ⟨[.ref a],[]⟩ [.ref a] [.ref a] _ _ hr e0 (j s₁<|.ref a) (.cons rfl .nil)<|M H T hS) λr s' h=>?_;cases r with
  |error e=>exact(X H e s' h).elim
  |ok fl =>
   cases fl with
   |next=>exact Lg h
   |brk=>exact Lg h
   |cont=>exact Lg h
   |ret u =>
    obtain⟨v,H',os,l,Y,B,r',q⟩:=h;have q':v=.bl a9:=q;subst q';obtain rfl:u=Mz a9:=r';refine⟨rfl,OldK.of_keep λb o e=>?_,os,l⟩;cases q:H b with
    |none=>exact Y.keep b o e q (by intro z;exact o0 (show b∈([]:List c6)from z)<|by simp)<|by simp
    |some u =>
     rcases T b with z|⟨ob,xs,z⟩
     rw[q]at z;cases z;have z2:=Y.frzs b ob _ z;obtain⟨Q,_⟩:=A b _ z;obtain⟨e2,_⟩:=B b _ z2;rw[e]at Q;cases Q;exact e2
 cases L:K.lookup a with
 |some o =>
  -- the script is one of the module's own objects
  have e:=O a o L;rw[D]at e;cases e;refine i (λ_=>a8) (λ_=>.inl rfl) (.inr ⟨_,vs.toArray,_,L,rfl,rfl,rfl,by rw[x9,C];exact U,by simpa using W⟩) (λb u z=>by have G:(a8:Option HO)=a7 u:=z;cases G) (λb z=>o0 rfl z) λz=>o0 rfl z
 |none=>refine i (λb=>if b=a then a7 (.frz { cls:=.type "list",data:=.seq vs.toArray }<|.lst<|ns.map V.int)else a8) (λb=>?_) (.inl<|.inr ⟨{ cls:=.type "list",data:=.seq vs.toArray },n6 rfl⟩) (λb u z=>?_) (λb z=>?_) λ_=>L;by_cases c:b=a;exact .inr ⟨_,_,n6 c⟩;exact .inl<|n9 c;by_cases c:b=a;have G:=(n6 c).symm.trans z;cases G;subst c;exact⟨D,by rw[u4];exact U,vs,_,W,D⟩;have G:=(n9 c).symm.trans z;cases G;by_cases c:b=a;exact c;exact o0 (n9 c) z
noncomputable abbrev KOf{K:t6}{h:c8}(_:K.In h):t6:=K
theorem walk_of{l:PySem.W.OpenLaw}{n k:Nat}{q:c5}{j:List b8}{P:(b8->Option b7)->c8->Prop}{YP:b9->c8->Prop}{d:DefRec}{K:Params->t6}{CX:b9->KP}{sp:b9->Sp}{x:b8}(L:l.most=a7 n) (t:n<=sizeLine) (p:d.params.defaults=[]) (M:Room k callerA)(D:∀(w:b9) (h:c8),YP w h->(K w.params).In h)(F:∀(w:b9) (mg:b8->Option b7) (fa:c6) (h:c8),(K w.params).In h->h.Ns d6 mg->mg d.name=a7 (.ref fa) -> ∃fd:j3,(∀(s:d9) (u:b7),BindsTo s fd ⟨[u],[]⟩ [(x,u)]) /\∀base:c8,(K w.params).In base->base.Ns d6 mg->FnOk l.prog w (K w.params) mg base (CX w) k fa fd [x] (sp w))(z:∀(w:b9) (H:Hp) (a:c6) (ns:List Int),ns.length<=n->Only H->F9 (K w.params) H a (ns.map V.int)->sp w [.ref a] H (λv _=>v=.bl a9) λ_ _ _=>False)(X:∀(w:b9) (H:Hp) (s:d9) (e:b7) (s':d9),CX w [] H s (λ_ _ _=>False) e s'->False):PySem.W.WalkO q j P YP l.row.toRowW d [] (λf vs=>PySem.call f vs):=by refine Att.attach_call L p λw A s₁ mg mb fa o U N B a vs ns G Y R Q I r m i c J=>?_;have y:=D w _ Y;obtain⟨fd,E,C⟩:=F w mg fa _ y G.T.g r;exact Cl y G.T.g G.T.b G.T.builtins G.T.nolimit J m i (G1 c t) M C E (λH O S=>z w H a ns c O S) λH e s'=>X w H s₁ e s'
noncomputable def iT(s:g7):Arguments:=match s with
 |.FunctionDef _ a _ _ _ _ _ _ _ _=>a
 |_=>{ posonlyargs:=[],args:=[],vararg:=a8,kwonlyargs:=[],kw_defaults:=[],kwarg:=a8,defaults:=[] }
noncomputable def cg(s:g7):List g7:=match s with
 |.FunctionDef _ _ b _ _ _ _ _ _ _=>b
 |_=>[]
noncomputable def au(s:g7):e6:=match s with
 |.FunctionDef _ _ _ _ _ _ sc _ _ _=>sc
 |_=>{ kind:=.function,names:=[],isGenerator:=bt,isCoroutine:=bt }
abbrev I0:KP:=λ_ _ _ _ _ _=>False
abbrev E0:XK:=λ_ _ _=>False
theorem pass0:Bf I0 X E0:=λ_ _ _ _ _ _ _ h=>h.elim
structure KO(K:t6)(x qual:b8)(st:g7)(f:c6)(fd:j3):Prop where
 ex:∃(oc:b7) (od:Option c6) (kV doc pm:b7) (an:Option c6) (cdv ct:b7) (osl:Array (Option b7)),fd=Lu x qual (iT st) (cg st) (au st) .none kV doc pm an cdv ct/\K.lookup f=a7 ⟨oc,od,.func fd,osl⟩/\N5 K cdv qual=a9
 kp:LP K (.ref f)=a9
section
variable{P:c5}{w:b9}{K:t6}{mg:b8->Option b7}{base:c8}
theorem KO.ok{x l:b8}{st:g7}{f:c6}{a:j3}{N ps:List b8}{k:Nat}{sp:Sp}(F:KO K x l st f a)(S:FnScope N ps (au st))(B:∀vs H Q E,sp vs H Q E->vs.length=ps.length)(y:∀(cdv:b7) (A:d8) (outer:List Env) (s:d9) (H:Hp) (vs:List V) (Q:VK) (E:XK),Room k (A.deeper<|j7 l (au st) s.heap.objs.size f cdv)->sp vs H Q E -> ∃t,H9 (yq I0 P w K mg base N l (au st) f cdv A outer s H E).nox (cg st) t/\t { nx:=λ_ H'=>Q .non H',rt:=Q } (start N vs) H):FnOk P w K mg base I0 (k+1) f a ps sp:=by obtain⟨c,j,kV,i,U,M,cdv,R,G,rfl,b,d⟩:=F.ex;refine fn_of b d S B λA outer s H vs Q E r z=>?_;obtain⟨t,h,q⟩:=y cdv A outer s H vs Q E r z;exact⟨t,h.nox,q⟩
theorem KO.binds{x l:b8}{st:g7}{f:c6}{d:j3}{ps:List b8}(F:KO K x l st f d)(h:∀(kV doc pm:b7) (an:Option c6) (cdv ct:b7) (us:List b7),us.length=ps.length->bindArgs (Lu x l (iT st) (cg st) (au st) .none kV doc pm an cdv ct) ⟨us,[]⟩=pure (ps.zip us)):ut K d ps []:=by obtain⟨c,j,kV,doc,pm,an,cdv,ct,G,rfl,b,a⟩:=F.ex;exact .all<|h kV doc pm an cdv ct
theorem Jr{x q:b8}{st:g7}{f:c6}{o:b7}{j M:Option c6}{G:Array (Option b7)}{kV i U v R:b7}(l:K.lookup f=a7 ⟨o,j,.func<|Lu x q (iT st) (cg st) (au st) .none kV i U M v R,G⟩)(c:N5 K v q=a9) (k:LP K (.ref f)=a9):KO K x q st f (Lu x q (iT st) (cg st) (au st) .none kV i U M v R):=⟨⟨o,j,kV,i,U,M,v,R,G,rfl,l,c⟩,k⟩
end
theorem ar(h:n<=1000):n<sizeLine:=Nat.lt_of_le_of_lt h<|by decide
section
variable{X:Cx}
theorem pv(i:Nat)(h:X.N[i]?=a7 x:=by rfl)(c:L5 X.env.scope x:=by first|exact Or.inl rfl|exact Or.inr (Or.inl rfl)|exact Or.inr<|Or.inr rfl)(a:(x==("__debug__":b8))=bt:=by decide)(d:(x==("__classdict__":b8))=bt:=by decide):PE X (.Name x pos) (tVar i):=Dv h c a d
end
theorem cP{A B:Prop}(h:B):if bt=a9 then A else B:=by rw[n9 Ln];exact h
theorem dI{A B:Prop}(h:A):if a9=a9 then A else B:=by rw[n6 rfl];exact h
section
variable{κ:Type}[DecidableEq κ]
noncomputable def yA(kvs:List (κ×V))(k:κ):Option V:=(kvs.find? λv=>decide<|v.1=k).map (·.2)
noncomputable def putK(kvs:List (κ×V))(k:κ)(v:V):List (κ×V):=if (kvs.any λa=>decide<|a.1=k)=a9 then kvs.map (λa=>if a.1=k then(a.1,v)else a)else kvs++[(k,v)]
theorem Bo{p:κ×V}{r:List (κ×V)}{k:κ}(e:p.1=k):yA (p::r) k=a7 p.2:=by simp[yA,Ko,e]
theorem vS{p:κ×V}{r:List (κ×V)}{k:κ}(e:¬p.1=k):yA (p::r) k=yA r k:=by simp[yA,Ko,e]
theorem Kc.getD(r:Kc o u)(a:aN d d'):aN (o.getD d) (u.getD d'):=by
 cases o with
 |none=>cases u with
  |none=>exact a
  |some _=>exact(show False from r).elim
 |some _=>cases u with
  |none=>exact(show False from r).elim
  |some _=>exact r
theorem KV.val{kvs:List (κ×V)}{vs:List (κ×b7)}(r:KV kvs vs)(k:κ):Kc (yA kvs k) (valueAt vs k):=by
 unfold KV at r;induction r with
 |nil=>exact LK
 |@cons p q ps qs h t i =>
  obtain⟨h1,h2⟩:=h;by_cases e:p.1=k;have a:q.1=k:=h1.symm.trans e;have b:valueAt (q::qs) k=a7 q.2:=by simp[valueAt,Ko,a]
  rw[Bo e,b];exact h2;have a:¬q.1=k:=λz=>e<|h1.trans z;have b:valueAt (q::qs) k=valueAt qs k:=by simp[valueAt,Ko,a]
  rw[vS e,b];exact i
theorem KV.any(r:KV kvs vs)(k:κ):(kvs.any λkv=>decide<|kv.1=k)=vs.any λkv=>decide (kv.1=k):=by
 unfold KV at r;induction r with
 |nil=>rfl
 |cons h t i=>rw[List.any_cons,List.any_cons,i,h.1]
theorem KV.repl(r:KV kvs vs)(k:κ)(a:aN y u):KV (kvs.map λkv=>if kv.1=k then(kv.1,y)else kv) (vs.map λkv=>if kv.1=k then(kv.1,u)else kv):=by
 unfold KV at r ⊢;induction r with
 |nil=>exact .nil
 |@cons p q ps qs h t i=>rw[A3,A3];refine .cons ?_ i;obtain⟨h1,h2⟩:=h;by_cases e:p.1=k;rw[n6 e,n6<|h1.symm.trans e];exact⟨h1,a⟩;rw[n9 e,n9<|λz=>e<|h1.trans z];exact⟨h1,h2⟩
theorem KV.put(r:KV kvs vs)(k:κ)(i:aN y u):KV (putK kvs k y) (stored vs k u):=by unfold putK stored;rw[r.any k];by_cases e:(vs.any λv=>decide<|v.1=k)=a9;rw[n6 e,n6 e];exact r.repl k i;rw[n9 e,n9 e];exact Paired.snoc r ⟨rfl,i⟩
theorem KV.length(r:KV kvs vs):kvs.length=vs.length:=Paired.length r
end
theorem IW(r:aN (kV k) u):(eD P w).is k u=a9:=by
 cases k with
 |inl i=>obtain⟨t,e⟩:=(show ∃t,u=Value.int i t from r);subst e;exact uT P w i t
 |inr x=>obtain⟨t,e⟩:=(show ∃t,u=Value.str x t from r);subst e;exact uS P w x t
section
variable{P:c5}{w:b9}{H:Hp}{h:c8}{a:c6}
theorem rd_of(ok:D2 P w H h)(e:Rd H a u):cS P w H h a u:=e.ok ok
theorem dk_rd(ok:D2 P w H h)(e:Rd H a (.dK kvs)):kvs.length<=sizeLine/\(a==c9)=bt/\∃vs,KV kvs vs/\h.DictOf (eD P w) a vs:=show cS P w H h a (.dK kvs)from rd_of ok e
theorem Gg(ok:D2 P w H h)(e:H a=a7 (.dK kvs)):kvs.length<=sizeLine/\(a==c9)=bt/\∃vs,KV kvs vs/\h.DictOf (eD P w) a vs:=dk_rd ok<|.inl e
end
section
variable{X:Cx}{pins:List (c6×c7)}{σ:St}{H:Hp}{s:d9}{a:c6}{y v:V}{u r:b7}{o:Option V}{A:d8}{E:b7->d9->Prop}
theorem p7.big(I:p7 X pins σ H s):c9<s.heap.objs.size:=by have h:d6<s.heap.objs.size:=(I.mod.glob.keeps I.bk).lt;exact Nat.lt_trans (by decide) h
theorem vH(I:p7 X pins σ H s)(m:Nh (H a))(hs:KQ a s.heap h')(i:∃q,h'.get? a=a7 q)(n:cS X.prog X.w (v5 H a ob) h' a ob):p7 X pins σ (v5 H a ob) { s with heap:=h',toks:=t' }:=I.write (x:=a) (e:=a) m (.inl rfl) (λb q d z=>(hs.2 b d).trans z) i n
theorem JG(z:kvs.length<=sizeLine)(d:(a==c9)=bt)(l:KV kvs vs)(k:h'.DictOf (eD P w) a vs):cS P w H' h' a (.dK kvs):=⟨z,d,vs,l,k⟩
end
def NoSl(i:f6):Prop:=∀b a,subscripted i bt b a=operate [b,a] (j9 b a)
theorem Eh{prog:c5}{w:b9}{A:d8}{E:b7->d9->Prop}{s:d9}{env:Env}{a e:f6}{p:f8}{T id:String}{Q:b7->d9->Prop}(l:typeLookup (.type T) "__getitem__" = pure (a7<|.builtin id)) (hs:NoSl e)(h:e8 (f7 prog w) A (eval a env) (λo s₁=>e8 (f7 prog w) A (eval e env) (λi s₂=>s₂.TypeIs o T/\e8 (f7 prog w) A (j9 o i) Q E s₂) E s₁) E s):e8 (f7 prog w) A (eval (.Subscript a e p) env) Q E s:=by
 refine Subscript_<|I9 h (λo s₁ d=>I9 d (λi s₂ b=>?_) λ_ _ x=>x) λ_ _ x=>x;obtain⟨g,b⟩:=b;unfold subscriptTail;refine p5 ?_;rw[getitemInPython_of_ne g.not_modules];refine p5<|Ly g l ?_;have n:e8 (f7 prog w) A (subscripted e bt o i) (λr c=>e8 (f7 prog w) A (letTemporaryGo a o r >>= λ_=>pure r) Q E c) E s₂:=by rw[hs o i];exact wpAny_operating<|I9 b (λr c f=>p5<|wpAny_letTemporaryGo<|p8 f) λ_ _ x=>x
 first
  |exact p8 (p5 n)
  |exact p5 (p8 (p5 n))
  |exact p5 n
theorem CU(h:c8)(d:c9<h.objs.size):cS P w H (h.push { cls:=.type "dict",data:=.dict #[] }) h.objs.size (.dK []):=⟨w4 _,beq_eq_false_iff_ne.mpr<|C3<|x6 d,[],.nil,Heap.DictOf.new h⟩
def GW:TE:=λ_ H Q=>∀p,H p=a8->Q (.ref p) (v5 H p<|.dK [])
section
variable{X:Cx}{pos:f8}
theorem BI:PE X (.Dict [] [] pos) GW:=λp s σ H Q I h =>
 wpAny_Dict_empty ⟨.ref s.heap.objs.size,_,I.laid (a:=s.heap.objs.size) (o:=.dK []) (t':=s.toks) (λ_ _ q=>v7 _ q) (u5 _)<|CU s.heap I.big,rfl,h _<|I.hok.fresh<|u5 _⟩
end
end L2
namespace DL
open PySem
theorem iV(env:Env):∀(names:List (b8×j6)) (acc:List (b8×c6)),(∀p∈names,p.2=Kn->∃c,env.cells.lookup p.1=a7 c) ->∃cl,(forIn (m:=Sem) names acc λ(p:b8×j6) (r:List (b8×c6)) =>
    if (p.2==Kn)=a9 then(do let a <-cellOf env p.1;pure (Oa<|(p.1,a)::r))else pure (Oa r))=pure cl /\
   (∀z c,cl.lookup z=a7 c->acc.lookup z=a7 c\/env.cells.lookup z=a7 c) /\
   (∀z c,acc.lookup z=a7 c->∃c',cl.lookup z=a7 c') /\
   (∀p∈names,p.2=Kn->∃c,cl.lookup p.1=a7 c)
 | [],acc,_=>⟨acc,rfl,λ_ _ h=>.inl h,λz c h=>⟨c,h⟩,λ_ h=>nomatch h⟩
 |(n,k)::aI,acc,hyp=>by
  by_cases hk:k=Kn;subst hk;obtain⟨c0,hc0⟩:=hyp (n,.free) D4 rfl;obtain⟨cl,e,h1,h2,h3⟩:=iV env aI ((n,c0)::acc) λp hp=>hyp p<|A2 _ hp;have ce:cellOf env n=pure c0:=by unfold cellOf;rw[hc0]
  have own:∃c',cl.lookup n=a7 c':=h2 n c0 (by simp[LS]);refine⟨cl,?_,λz c hz=>?_,λz c hz=>?_,λp hp hf=>?_⟩;rw[List.forIn_cons];simp only[p4,o7,ce,pure_bind];exact e;rcases h1 z c hz with q|q;rw[LS]at q;by_cases hz':(z==n)=a9;rw[hz']at q;have:z=n:=by simpa using hz'
  subst this;cases q;exact .inr hc0;have hz'':(z==n)=bt:=by simpa using hz'
  rw[hz'']at q;exact .inl q;exact .inr q;by_cases hz':z=n;subst hz';exact own;refine h2 z c ?_;rw[LS];have hz'':(z==n)=bt:=by simpa using hz'
  rw[hz''];exact hz;rcases z5.mp hp with rfl|hp;exact own;exact h3 p hp hf;have hb:(k==Kn)=bt:=by simpa using hk
  obtain⟨cl,e,h1,h2,h3⟩:=iV env aI acc λp hp=>hyp p<|A2 _ hp;refine⟨cl,?_,h1,h2,λp hp hf=>?_⟩;rw[List.forIn_cons];simp only[hb,x3,o6,pure_bind];exact e;rcases z5.mp hp with rfl|hp;exact o0 hf hk;exact h3 p hp hf
theorem kK(h:∀p∈scope.names,p.2=Kn->∃c,env.cells.lookup p.1=a7 c):∃cl,closureFor scope env=pure cl/\(∀z c,cl.lookup z=a7 c->env.cells.lookup z=a7 c)/\(∀p∈scope.names,p.2=Kn->∃c,cl.lookup p.1=a7 c):=by obtain⟨cl,e,h1,h2,a⟩:=iV env scope.names [] h;refine⟨cl,?_,λz c b=>?_,a⟩;unfold closureFor;simp only[bind_pure];exact e;rcases h1 z c b with q|q;simp at q;exact q
theorem fZ{env:Env}:∀{names:List (b8×j6)}{x:b8}{k:j6},(names.map λ(p:b8×j6)=>if (p.2==Kn&&env.scope.kind==.function&&env.kindOf p.1==a7 .cell)=a9 then(p.1,LN)else(p.1,p.2)).lookup x=a7 k ->(names.lookup x=a7 k\/(k=LN/\names.lookup x=a7 .free))
 | [],_,_,h=>by simp at h
 |(n,j)::aI,x,k,h=>by
  have ih:=@fZ env aI x k;rw[A3,LS]at h;by_cases hx:(x==n)=a9;have hl:List.lookup x ((n,j)::aI)=a7 j:=by rw[LS,hx]
  rw[hl];by_cases hc:(j==Kn&&env.scope.kind==.function&&env.kindOf n==a7 .cell)=a9;simp only[hc,o7,hx]at h;cases h;have:j=Kn:=by simp only[D8]at hc;simpa using hc.1.1
  exact .inr ⟨rfl,by rw[this]⟩;simp only[hc,x3,o6,hx]at h;exact .inl h;have hx':(x==n)=bt:=by simpa using hx
  have hl:List.lookup x ((n,j)::aI)=List.lookup x aI:=by rw[LS,hx']
  rw[hl];refine ih ?_;by_cases hc:(j==Kn&&env.scope.kind==.function&&env.kindOf n==a7 .cell)=a9;simp only[hc,o7,hx']at h;exact h;simp only[hc,x3,o6,hx']at h;exact h
section
variable{prog:c5}{w:b9}{A:d8}{R:Result->d9->Prop}{s:d9}
theorem pN(s:List f6)(env:Env):compTests s env =
  (forIn s a9 λc r=>if r=a9 then do let ok <-isTrue c env (eval c env);pure (Oa ok)else pure (Oa r)):=by unfold compTests;simp only[bind_pure]
theorem yj(J:Nat->d9->Prop)(G:b7->d9->Prop)(b:∀e s',G e s'->notedBy (f7 prog w) A env (λe s'=>R (.error e) s') e s')(t:∀n s,J n s->e8 (f7 prog w) A (i4 it) (λr s1=>match r with
   |none=>R (.ok .next) s1
   |some v=>e8 (f7 prog w) A (i5 target it v) (λ_ s2=>e8 (f7 prog w) A (h7 target env v) (λ_ s3 =>
     e8 (f7 prog w) A (compTests ifs env) (λok s4 =>
      if ok=a9 then e8 (f7 prog w) A (eval elt env) (λy s5=>e8 (f7 prog w) A (call (.builtin "list.append") [acc,y]) (λ_ s6=>∃m,m<n/\J m s6) G s5) G s4
      else ∃m,m<n/\J m s4) G s3) G s2) G s1) G s)
  (n:Nat) (h:J n s):j4 (f7 prog w) A (.compLoop (.ListComp elt [⟨target,iter,ifs,0⟩] scope pos) 0 it acc env) R s:=by
 refine codeAny_loop rfl J (λn s f=>?_) n h;show e8 _ A ((compTurn (.ListComp elt [⟨target,iter,ifs,0⟩] scope pos) 0 it acc env).onRaise<|λx=>do noteFrame x env;theTreesLotGoes x) _ _ s;refine wpAny_noted ?_;rw[compTurn_list];refine p5<|wpAny_standAt<|p5<|I9 (t n s f) (λr s1 h1=>?_) b;cases r with
 |none=>exact p8 h1
 |some v =>
  refine p5<|I9 h1 (λ_ s2 h2=>?_) b;refine p5<|I9 h2 (λ_ s3 a=>?_) b;rw[pN]at a;refine p5<|I9 a (λok s4 d=>?_) b;cases ok with
  |false=>exact p8 ⟨rfl,d⟩
  |true=>exact p5<|p5<|I9 d (λy s5 k=>p5<|I9 k (λ_ s6 c=>p8<|p8 ⟨rfl,c⟩) b) b
end
end DL
namespace L2
open PySem PySem.Spec PyProof.Rows DL
theorem kD{env:Env}:∀{names:List (b8×j6)}{x:b8},names.lookup x=a7 .free ->((names.map λ(p:b8×j6)=>if (p.2==Kn&&env.scope.kind==.function&&env.kindOf p.1==a7 .cell)=a9 then(p.1,LN)else(p.1,p.2)).lookup x=a7 .cell \/ (names.map λ(p:b8×j6)=>if (p.2==Kn&&env.scope.kind==.function&&env.kindOf p.1==a7 .cell)=a9 then(p.1,LN)else(p.1,p.2)).lookup x=a7 .free)
 | [],_,h=>by simp at h
 |(n,j)::aI,x,h=>by
  have ih:=@kD env aI x;rw[A3,LS];rw[LS]at h;by_cases hc:(j==Kn&&env.scope.kind==.function&&env.kindOf n==a7 .cell)=a9;by_cases hx:(x==n)=a9;simp[hc,hx];have hx':(x==n)=bt:=by simpa using hx
  rw[hx']at h;simp only[hc,o7,hx'];exact ih h;by_cases hx:(x==n)=a9;rw[hx]at h;cases h;right;simp only[hc,x3,o6,hx];have hx':(x==n)=bt:=by simpa using hx
  rw[hx']at h;simp only[hc,x3,o6,hx'];exact ih h
noncomputable def z6(X:Cx)(N':List b8)(scope:e6)(l:List (b8×c6))(s₀:d9)(H₀:Hp)(ex:List c6):Cx:={ X with N:=N',s₀:=s₀,H₀:=H₀,env:=compEnvC scope l s₀.heap.objs.size X.env,outer:=X.stack,ex:=ex,fn:=λx=>scope.names.lookup x==a7 .cell,pn:=[],xe:=λ_ _=>False }
structure BlkSc(X:Cx)(N':List b8)(nt:Nat)(js:List Nat)(scope:e6):Prop where
 kind:scope.kind=.function
 nocell:∀y∈scope.names,y.2≠.cell
 loc:∀y∈scope.names,y.2=.local->scope.names.lookup y.1=a7 .local
 free:∀y∈scope.names,y.2=.free->(X.env.kindOf y.1=a7 .cell\/X.env.kindOf y.1=a7 .free)
 len:N'.length=nt+js.length
 fr:∀(k j:Nat),js[k]?=a7 j->∃x,N'[nt+k]?=a7 x/\X.N[j]?=a7 x/\scope.names.lookup x=a7 .free/\(X.env.kindOf x=a7 .cell\/X.env.kindOf x=a7 .free)
noncomputable def bst(t:Nat)(s:List Nat)(σ:St):St:=Nt t a8++s.map λj=>(σ[j]?).join
theorem AV(t:Nat)(s:List Nat)(σ:St):(bst t s σ).length=t+s.length:=by simp[bst]
theorem Gu(h:(bst nt js σ)[i]?=a7 (a7 v)):∃k j,i=nt+k/\js[k]?=a7 j/\σ[j]?=a7 (a7 v):=by
 unfold bst at h;by_cases hi:i<nt;rw[J5 (by simpa using hi),OD]at h;simp[hi]at h;rw[Kz (by simpa using Lf.mp hi),Ox,C8]at h;cases e:js[i-nt]? with
 |none=>rw[e]at h;cases h
 |some j =>
  rw[e]at h;refine⟨i-nt,j,by lia,e,?_⟩;have h':(σ[j]?).join=a7 v:=by simpa using h
  cases q:σ[j]? with
  |none=>rw[q]at h';cases h'
  |some o=>rw[q]at h';exact o8 a7 h'
def Le(X:Cx)(i:List f6)(t:TT):Prop:=∀(p:List (c6×c7)) (s:d9) (σ:St) (H:Hp) (Q:Bool->Hp->Prop),p7 X p σ H s->t σ H Q->e8 (f7 X.prog X.w) X.A (compTests i X.env) (TP X p σ Q) X.xe s
def ttNil:TT:=λ_ H Q=>Q a9 H
theorem EB:Le X [] ttNil:=λp s σ H Q I h=>by rw[pN];exact wpAny_tests_nil ⟨H,I,h⟩
theorem EA(h:PT X c t):Le X [c] t:=λp s σ H Q I q=>by rw[pN];exact wpAny_tests_one<|h p s σ H Q I q
def OO(t:Nat)(s:List Nat)(wi:TI)(g:TG)(tt:TT)(te:TE):TE:=λσ H Q=>wi σ H λJ e=>∃W:Nat->Nat->List V->St->Hp->Prop,(∃m,W 0 m [] (bst t s σ) e) /\∀i m vs τ H,W i m vs τ H->(J.stop i H/\∀p,H p=a8->Q (.ref p) (v5 H p<|.lst vs)) \/(J.go i H/\∀x H',J.yld i H x H'->g x τ H' λa f=>tt a f λb d=>if b=a9 then te a d λy h=>vs.length<sizeLine/\∃c,c < m/\W (i+1) c (vs++[y]) a h else ∃c,c < m/\W (i+1) c vs a d)
noncomputable abbrev cU(its:List b7)(k:Nat):c7:={ cls:=.type "list",data:=.seq its.toArray k }
section
variable{X:Cx}{pins:List (c6×c7)}{σ:St}{H:Hp}{s:d9}
theorem p7.blkOk(B:BlkSc X N' nt js scope)(I:p7 X pins σ H s)(a:∀z c,cl.lookup z=a7 c->X.env.cells.lookup z=a7 c) (f:∀p∈scope.names,p.2=Kn->∃c,cl.lookup p.1=a7 c) (i:∀b∈fp,yu X pins H b) (j:∀b∈fp,b<s.heap.objs.size):(z6 X N' scope cl { s with heap:=s.heap.push ob } H<|s.heap.objs.size::fp).Ok:=by
 have J:p7 X pins σ H { s with heap:=s.heap.push ob }:=I.kept (t':=s.toks) λb o e=>v7 _ e;have ltc:∀z c,cl.lookup z=a7 c->c<s.heap.objs.size:=λz c e=>by obtain⟨v,q⟩:=I.cell z c<|a z c e;exact q.lt
 have C:(s.heap.push ob).objs.size=s.heap.objs.size+1:=KI ..;refine⟨I.ok.mod,B.kind,I.ok.glob,I.ok.blt,u5 _,λy z c h1 h2=>I.ok.inj y z c (a y c h1)<|a z c h2,λy Q=>?_,λy c h=>?_,I.ok.hd,I.ok.frames,.inl rfl,λb d=>?_,λb o e=>?_,?_,λb o e d=>?_,λb d=>?_,J.stack,I.stkFree⟩;have l:scope.names.lookup y=a7 .free:=by
  rcases Q with Q|Q;rcases fZ (env:=X.env) (names:=scope.names) (x:=y) (k:=.cell) Q with q|⟨_,q⟩
  exact o0 rfl<|B.nocell _<|LA q;exact q;rcases fZ (env:=X.env) (names:=scope.names) (x:=y) (k:=.free) Q with q|⟨q,_⟩
  exact q;cases q
 exact f (y,.free) (LA l) rfl;exact o0 rfl<|B.nocell _<|LA<|beq_iff_eq.mp<|show (scope.names.lookup y==a7 LN)=a9 from h;show b≠(s.heap.push ob).objs.size/\∀x c,cl.lookup x=a7 c->c≠b;rw[C];rcases z5.mp d with rfl|d;exact⟨x6<|Kh _,λx c e=>x6<|ltc x c e⟩;exact⟨x6<|Mn<|j b d,λx c e=>(i b d).2.2.2.2.1 x c<|a x c e⟩;exact⟨v7 _ (I.bs b o e).1,(I.bs b o e).2⟩;show X.base.objs.size<=(s.heap.push ob).objs.size;rw[C];exact Nat.le_succ_of_le<|G1 I.ok.bsz I.sz;rcases z5.mp d with rfl|d;exact o0 (v9 (I.bs _ o e).1)<|G5 _;rcases(i b d).2.2.2.1 with z|z;exact I.ok.noex b o e z;exact o0 (Kd (v9 (I.ok.bs b o e).1) z)<|G5 _;intro m;have g:=I.stkSub b m;rcases z5.mp d with rfl|d;rcases z5.mp g with q|q;exact o0 I.lt (by rw[<-q];exact G5 _);exact I.nofs (u5 _) q;rcases z5.mp g with q|q;exact(i b d).2.1 q;exact(i b d).2.2.1 q
theorem p7.blkStart(B:BlkSc X N' nt js scope)(I:p7 X pins σ H s)(a:∀z c,cl.lookup z=a7 c->X.env.cells.lookup z=a7 c) (f:∀p∈scope.names,p.2=Kn->∃c,cl.lookup p.1=a7 c) (J:∀b∈fp,yu X pins H b) (m:∀b∈fp,b<s.heap.objs.size)(g:∀b o,(s.heap.push<|cU [] 0).get? b=a7 o->h1.get? b=a7 o) (K:h1.Ns (s.heap.push<|cU [] 0).objs.size mm):p7 (z6 X N' scope cl { s with heap:=s.heap.push (cU [] 0) } H<|s.heap.objs.size::fp) [(s.heap.objs.size,cU [] 0)] (bst nt js σ) H { s with heap:=h1,toks:=tk }:=by
 have d:∀b o,s.heap.get? b=a7 o->h1.get? b=a7 o:=λb o e=>g b o<|v7 _ e;have C:(s.heap.push<|cU [] 0).objs.size=s.heap.objs.size+1:=KI ..;refine⟨I.blkOk B a f J m,rfl,I.bare,Un.kept g,⟨mm,K,λi x v D E T=>?_⟩,λx c e=>?_,?_,λx c e=>I.freeC x c<|a x c e,λp N=>?_,I.hok.kept d,?_⟩;obtain⟨k,j,rfl,L,t⟩:=Gu E;obtain⟨S,Q,R,A,y⟩:=B.fr k j L;have F:x=S:=C4<|D.symm.trans Q;subst F;obtain⟨W,M,n⟩:=I.loc;have w:L5 X.env.scope x:=y.elim (λz=>.inr<|.inl z) λz=>.inr<|.inr z;obtain⟨u,r,h⟩:=n j x v R t w;refine⟨u,r,?_⟩;rcases h with⟨q,_⟩|⟨q,c,G,l⟩
 rcases y with z|z<;>(rw[q]at z;cases z)
 obtain⟨U,O⟩:=f (x,.free) (LA A) rfl;have:U=c:=C4<|(a x U O).symm.trans G;subst this;exact .inr ⟨kD (env:=X.env) A,U,O,l.keeps d⟩;obtain⟨v,q⟩:=I.cell x c<|a x c e;exact⟨v,q.keeps d⟩;exact I.hok.fresh (by show s.heap.objs.size<=(s.heap.push<|cU [] 0).objs.size;rw[C];exact MA _);have e:p=(s.heap.objs.size,cU [] 0):=by simpa [z6]using N
 subst e;refine⟨g _ _<|A8 _ rfl,I.hok.fresh<|u5 _,?_,?_,λv z=>by cases z⟩;show s.heap.objs.size≠(s.heap.push<|cU [] 0).objs.size;rw[C];exact x6<|Kh _;intro P;rcases z5.mp (I.stkSub _ P)with q|q;exact o0 I.lt (by rw[<-q];exact G5 _);exact I.nofs (u5 _) q;rw[AV];exact B.len.symm
theorem p7.blkEnd(I:p7 X pins σ H s)(E:∀b∈fp,yu X pins H b)(a:p7 (z6 X N' scope cl { s with heap:=s.heap.push (cU [] 0) } H<|s.heap.objs.size::fp) [(s.heap.objs.size,cU its k)] τ H' s')(L:aw vs its) (F:vs.length<=sizeLine) (U:KQ (s.heap.push<|cU [] 0).objs.size s'.heap h'):p7 X pins σ (v5 H' s.heap.objs.size<|.lst vs) { s' with heap:=h' }:=by
 have l:(s.heap.push<|cU [] 0).objs.size=s.heap.objs.size+1:=KI ..;have C:s.heap.objs.size≠(s.heap.push<|cU [] 0).objs.size:=by rw[l];exact x6<|Kh _
 obtain⟨K,D,_⟩:=a.pin (s.heap.objs.size,cU its k) (by simp[z6]);have i:s'.heap.get? s.heap.objs.size=a7 (cU its k):=K;have f:H' s.heap.objs.size=a8:=D;have j:H' (s.heap.push<|cU [] 0).objs.size=a8:=a.free;have u:Un (G2 X.stack) (s.heap.objs.size::fp) H H' (s.heap.push<|cU [] 0) s'.heap:=a.base;have G:∀b o,s.heap.get? b=a7 o->b≠s.heap.objs.size/\b≠(s.heap.push<|cU [] 0).objs.size:=λb o e=>by have:=v9 e;exact⟨x6 this,by rw[l];exact x6<|Mn this⟩
 have p:∀b o,s.heap.get? b=a7 o->(s.heap.push<|cU [] 0).get? b=a7 o:=λb o e=>v7 _ e;have g:∀b o,s.heap.get? b=a7 o->b∉fp->b∉s.heap.objs.size::fp:=λb o e x J=>by rcases z5.mp J with q|q;exact(G b o e).1 q;exact x q
 refine I.call' (s':={ s' with heap:=h' }) (ch:=fp) a.os ⟨λb o e n d x=>?_,λb o e n d x=>?_,λb o e n x=>?_,λb o e x=>?_,λb xs e=>?_,λb o w e=>?_,λb ps e=>?_⟩ (λb w q=>?_) a.bare λb d=>?_;exact(U.2 b (G b o e).2).trans<|u.keep b o (p b o e) n d<|g b o e x;obtain⟨M,z⟩:=u.slot b o (p b o e) n d<|g b o e x;exact⟨M,(U.2 b (G b o e).2).trans z⟩;rw[aA (G b o e).1];exact u.free b o (p b o e) n<|g b o e x;obtain⟨o',z⟩:=u.there b o (p b o e)<|g b o e x;exact⟨o',(U.2 b (G b o e).2).trans z⟩;have z:=u.tups b xs e;rw[aA<|am z f];exact z;have z:=u.frzs b o w e;rw[aA<|am z f];exact z;obtain⟨m,z⟩:=u.tbls b ps e;exact⟨m,by rw[aA<|am z f];exact z⟩;by_cases d:b=s.heap.objs.size;subst d;rw[bx]at q;cases q;exact⟨F,its,k,L,(U.2 _ C).trans i⟩;rw[aA d]at q;refine(a.hok b w q).stay (λc v h r=>(U.2 c ?_).trans r) (λc z=>by rw[aA<|am z f];exact z) λc xs z=>by rw[aA<|am z f];exact z
 rcases h with rfl|h;exact am q j;exact am h j;obtain⟨_,t,_,y,A,B⟩:=E b d;exact⟨y,t,A,B⟩
theorem zX{C tg O:f6}{N:List f6}{scope:e6}{bl:f8}{N':List b8}{l:List (b8×c6)}{J:It}{fp:List c6}{it:c6}{tn:Nat->c8->Prop}{g:TG}{tt:TT}{te:TE}{Q:VK}{W:Nat->Nat->List V->St->Hp->Prop}{R:Result->d9->Prop}{s0:d9}{H0:Hp}{D:c6} (hc:X.calm=a9)(hg:PG (z6 X N' scope l s0 H0<|D::fp) tg g) (ht:Le (z6 X N' scope l s0 H0<|D::fp) N tt) (he:PE (z6 X N' scope l s0 H0<|D::fp) C te)(T:Turn X.prog X.w X.K tg J fp it tn) (M:D∉fp)(U:∀i m vs τ H,W i m vs τ H->(J.stop i H/\∀p,H p=a8->Q (.ref p) (v5 H p<|.lst vs)) \/ (J.go i H/\∀x H',J.yld i H x H'->g x τ H' λτ2 H2=>tt τ2 H2 λb f=>if b=a9 then te τ2 f λy H4=>vs.length<sizeLine/\∃m',m' < m/\W (i+1) m' (vs++[y]) τ2 H4 else ∃m',m' < m/\W (i+1) m' vs τ2 f))(t:∀b∈fp,b≠s0.heap.objs.size/\b∉G2 X.stack/\∀x c,l.lookup x=a7 c->c≠b) (L:D≠s0.heap.objs.size) (aS:D∉G2 X.stack) (aD:∀x c,l.lookup x=a7 c->c≠D)(aj:∀τ H' s' vs its k,p7 (z6 X N' scope l s0 H0<|D::fp) [(D,cU its k)] τ H' s'->aw vs its->vs.length<=sizeLine->Q (.ref D) (v5 H' D<|.lst vs)->R (.ok .next) s')
  (m0:Nat) {s:St}{s3:d9}{f:Hp} (I3:p7 (z6 X N' scope l s0 H0<|D::fp) [(D,cU [] 0)] s f s3) (bM:tn 0 s3.heap) (an:∀b∈fp,f b=a8) (w0:W 0 m0 [] s f) :
  j4 (f7 X.prog X.w) X.A (.compLoop (.ListComp C [⟨tg,O,N,0⟩] scope bl) 0 (.ref it) (.ref D)<|compEnvC scope l s0.heap.objs.size X.env) R s3:=by
 have h:∀{ob:c7}{H':Hp},(∀b∈fp,H' b=a8)->∀b∈fp,yu (z6 X N' scope l s0 H0<|D::fp) [(D,ob)] H' b:=λ{ob H'} hn b d=>by
  obtain⟨a1,a2,a3⟩:=t b d;refine⟨hn b d,a1,a2,.inl<|A2 _ d,a3,λp j z=>?_⟩;have e:p=(D,ob):=by simpa [z6]using j
  subst e;exact M<|by rw[show D=b from z];exact d
 refine yj (λn s'=>∃i τ H' vs its k,p7 (z6 X N' scope l s0 H0<|D::fp) [(D,cU its k)] τ H' s'/\tn i s'.heap/\(∀b∈fp,H' b=a8)/\aw vs its/\vs.length<=sizeLine/\W i n vs τ H') (λ_ _=>False) (λ_ _ z=>z.elim) ?_ m0 ⟨0,s,f,[],[],0,I3,bM,an,.nil,w4 _,w0⟩;rintro n s' ⟨i,τ,H',vs,its,k,I',P,I,rv,hl,w'⟩;rcases U i n vs τ H' w' with⟨stop,q⟩|⟨go,S⟩
 refine u9 (T.done (z6 X N' scope l s0 H0<|D::fp) rfl rfl rfl hc i _ s' τ H' (λ_ _=>False) I' (h I) P stop) ?_;rintro r s4 ⟨hr,I4⟩;subst hr;exact aj τ H' s4 vs its k I4 rv hl<|q D (I'.pin (D,cU its k)<|by simp[z6]).2.1;refine u9 (T.item (z6 X N' scope l s0 H0<|D::fp) rfl rfl rfl hc i _ s' τ H' (λ_ _=>False) I' (h I) P go) ?_;rintro r s4 ⟨u,hr,h4⟩;subst hr;refine u9 h4 ?_;rintro _ s5 ⟨x,H5,I5,r5,y5,B,as⟩;have ai:=I5.pinned (h as)<|T.obj _ _ B;refine u9 (hg _ s5 τ H5 x u _ ai r5<|S x H5 y5) ?_;rintro _ s6 ⟨a,H6,I6,q6⟩;refine u9 (ht _ s6 a H6 _ I6 q6) ?_;rintro ok s7 ⟨H7,Z,q7⟩;have F:∀{b:c6}{o:c7},b∈fp->s5.heap.get? b=a7 o->(b,o)∈(z6 X N' scope l s0 H0<|D::fp).pn++([(D,cU its k)]++jt fp s5.heap):=λd e=>F6 _<|F6 _<|gR d e;cases ok with
 |false =>
  obtain⟨m',hm,w7⟩:=(show ∃m',m' < n/\W (i+1) m' vs a H7 from q7)
  refine⟨m',hm,i+1,a,H7,vs,its,k,Z.unpinned,T.keep _ _ _ B λb d o e=>(Z.pin (b,o)<|F d e).1,λb d=>?_,rv,hl,w7⟩;obtain⟨o,e,_⟩:=T.obj _ _ B b d;exact(Z.pin (b,o)<|F d e).2.1
 |true =>
  refine u9 (he _ s7 a H7 _ Z q7) ?_;rintro yv s8 ⟨y,Y,I8,r8,q8⟩;obtain⟨bk,m',hm,w8⟩:=q8;obtain⟨oD,fD,_⟩:=I8.pin (D,cU its k) (F6 _<|J4 _<|by simp);have E:Y D=a8:=fD;refine append_at (its:=its.toArray) (n:=k) oD (λh9 bs o9=>?_) (by rw[x9,<-rv.length];exact hl);have J8:p7 (z6 X N' scope l s0 H0<|D::fp) (jt fp s5.heap) a Y s8:=I8.pins_of λp j=>I8.pin p<|F6 _<|F6 _ j;have J9:p7 (z6 X N' scope l s0 H0<|D::fp) (jt fp s5.heap) a Y { s8 with heap:=h9 }:=J8.turned (t':=s8.toks) (it:=D) (λb o d e=>(bs.2 b d).trans e) E L (.inl D4) aD λp j z=>by
   have be:p∈jt fp s5.heap:=by simpa [z6]using j
   exact M<|by rw[<-z];exact(sY be).1
  have G:∀{b:c6}{o:c7},b∈fp->s5.heap.get? b=a7 o->(b,o)∈(z6 X N' scope l s0 H0<|D::fp).pn++jt fp s5.heap:=λd e=>F6 _<|gR d e;refine⟨m',hm,i+1,a,Y,vs++[y],its++[yv],k+1,J9.pins_of λp j=>?_,T.keep _ _ _ B λb d o e=>(J9.pin (b,o)<|G d e).1,λb d=>?_,rv.append<|.cons r8 .nil,?_,w8⟩;have e:p=(D,cU (its++[yv])<|k+1):=by simpa using j
  subst e;refine⟨?_,E,L,aS,λv z=>by cases z⟩;rw[show cU (its++[yv]) (k+1)=({ cls:=.type "list",data:=.seq (its.toArray.push yv) (k+1) }:c7) by rw[List.push_toArray]];exact o9;obtain⟨o,e,_⟩:=T.obj _ _ B b d;exact(J9.pin (b,o)<|G d e).2.1;rw[x5];exact bk
end
section
variable{X:Cx}
theorem pe_lc{C M r:f6}{n:List f6}{scope:e6}{G:f8}{N':List b8}{nt:Nat}{js:List Nat}{wi:TI}{g:TG}{tt:TT}{te:TE}(B:BlkSc X N' nt js scope)(hc:X.calm=a9)(hi:PI X M r wi)(hg:∀cl s0 H0 ex,PG (z6 X N' scope cl s0 H0 ex) M g) (ht:∀cl s0 H0 ex,Le (z6 X N' scope cl s0 H0 ex) n tt) (he:∀cl s0 H0 ex,PE (z6 X N' scope cl s0 H0 ex) C te)(hs:∀x,i8 r X.env x=pure x:=by intro _;rfl):PE X (.ListComp C [⟨M,r,n,0⟩] scope G) (OO nt js wi g tt te):=by
 intro i s σ H Q I h;rw[eval_ListComp];obtain⟨cl,O,d,u⟩:=kK (scope:=scope) (env:=X.env) λp hp hf=>I.ok.has p.1<|B.free p hp hf;refine wpAny_comprehension_free (use:=a8) rfl hs O B.kind B.loc ?_;refine u9 (hi i s σ H _ I h) λv s1 h1=>u9 h1 λai a h2=>?_;obtain⟨it,P,tn,J,H2,e,j,T,U,N,W,⟨m0,w0⟩,L⟩:=h2;subst e;refine J2<|wpAny_newFunctionEnv B.nocell (by intro y hy;simp at hy) (λh1 D E=>?_) B.kind;have m:∀b∈P,b<a.heap.objs.size:=λb f=>by obtain⟨o,e,_⟩:=T.obj _ _ U b f;exact v9 e
 have Z:(a.heap.push<|cU [] 0).objs.size=a.heap.objs.size+1:=KI ..;have F:∀b o,(a.heap.push<|cU [] 0).get? b=a7 o->h1.get? b=a7 o:=λb o e=>(E.2 b<|x6<|v9 e).trans<|v7 _ e;have I3:=j.blkStart (tk:=a.toks+([]:List (b8×b7)).length) B d u N m F D;have K:tn 0 h1:=T.keep _ _ _ U λb _ o e=>F b o<|v7 _ e;have S:a.heap.objs.size∉P:=λz=>G5 _<|m _ z;have V:a.heap.objs.size∉G2 X.stack:=λz=>by rcases z5.mp (j.stkSub _ z)with q|q;exact o0 j.lt (by rw[<-q];exact G5 _);exact j.nofs (u5 _) q
 have R:a.heap.objs.size≠(a.heap.push<|cU [] 0).objs.size:=by rw[Z];exact x6<|Kh _
 have ltc:∀z c,cl.lookup z=a7 c->c<a.heap.objs.size:=λz c e=>by obtain⟨v,q⟩:=j.cell z c<|d z c e;exact q.lt
 have t:∀b∈P,b≠(a.heap.push<|cU [] 0).objs.size/\b∉G2 X.stack/\∀x c,cl.lookup x=a7 c->c≠b:=λb f=>by refine⟨by rw[Z];exact x6<|Mn<|m b f,λz=>?_,λx c e=>(N b f).2.2.2.2.1 x c<|d x c e⟩;rcases z5.mp (j.stkSub b z)with q|q;exact(N b f).2.1 q;exact(N b f).2.2.1 q
 have l:j4 (f7 X.prog X.w) X.A (.compLoop (.ListComp C [⟨M,r,n,0⟩] scope G) 0 (.ref it) (.ref a.heap.objs.size)<|compEnvC scope cl (a.heap.push<|cU [] 0).objs.size X.env) (compPost (f7 X.prog X.w) X.A X.xe a8 (EP X i σ Q) (.ref a.heap.objs.size) (a.heap.push<|cU [] 0).objs.size) { a with heap:=h1,toks:=a.toks+([]:List (b8×b7)).length }:=by refine zX (s0:={ a with heap:=a.heap.push (cU [] 0) }) (H0:=H2) (N':=N') (Q:=Q) hc (hg _ _ _ _) (ht _ _ _ _) (he _ _ _ _) T S L t R V (λx c e=>x6<|ltc x c e) ?_ m0 I3 K (λb f=>(N b f).1) w0;intro τ H' s' vs its k Y rv hl q;obtain⟨mm,hn,_⟩:=id Y.loc;exact⟨mm,hn,λh' sb=>⟨.ref a.heap.objs.size,_,j.blkEnd N Y rv hl sb,rfl,q⟩⟩
 exact codeAny_compStart_list l<|T.self _ 0 _ _ _ K l
end
section
inductive D where
 |non|bl (b:Bool)|int (i:Int)|str (x:b8)|ty (n:String)|tup (ds:List D)|ref (n:Nat)
inductive MO where
 |lst (xs:List D)
 |fz (xs:List D)
 |kl (xs:List D)
 |dct (kvs:List (b8×D))
 |dkt (kvs:List (D×D))
 |dkq (e:Nat) (kvs:List (D×D))
 |dkm (kvs:List (D×D))
 |fdc (o:c7) (kvs:List (b8×D))
 |tb (x:b8) (b:Bool)
 |exc (x:b8)
noncomputable abbrev tx:=List MO
noncomputable def MO.isL:MO->Bool
 |.dct _=>bt
 |.dkt _=>bt
 |.dkq _ _=>bt
 |.fdc _ _=>bt
 |.dkm _=>bt
 |.tb _ _=>bt
 |.exc _=>bt
 |_=>a9
noncomputable def ls(s:List b8)(vs:List V):List (F0×V):=(s.zip vs).map λp=>(ABb p.1,p.2)
mutual
inductive t5(K:t6)(ρ:List c6)(H:Hp):D->V->Prop
 |non:t5 K ρ H .non .non
 |bl (b:Bool):t5 K ρ H (.bl b) (.bl b)
 |int (i:Int):t5 K ρ H (.int i) (.int i)
 |str (x:b8):t5 K ρ H (.str x) (.str x)
 |ty (n:String):t5 K ρ H (.ty n) (.ty n)
 |tup {a:c6}{vs:List V}{ds:List D} (h:A1 K H a vs) (r:Reps K ρ H ds vs):t5 K ρ H (.tup ds) (.ref a)
 |ref {n:Nat}{a:c6} (h:ρ[n]?=a7 a):t5 K ρ H (.ref n) (.ref a)
inductive Reps(K:t6)(ρ:List c6)(H:Hp):List D->List V->Prop
 |nil:Reps K ρ H [] []
 |cons {d:D}{v:V}{ds:List D}{vs:List V} (h:t5 K ρ H d v) (t:Reps K ρ H ds vs):Reps K ρ H (d::ds) (v::vs)
end
def KList(K:t6)(a:c6)(xs:List V):Prop:=∃(o:c7) (its:Array b7) (n:Nat),K.lookup a=a7 o/\o.cls=.type "list"/\o.dict=a8/\o.data=.seq its n/\its.size<=sizeLine/\aw xs its.toList
noncomputable def cY:Nat->D->Bool
 |_,.str _=>a9
 |_,.int _=>a9
 |n+1,.tup ds=>ds.all<|cY n
 |_,_=>bt
noncomputable def w9(w:b9):Nat->D->Int
 |_,.str x=>hashStr w x
 |_,.int i=>hashInt i
 |n+1,.tup ds=>m5<|Mv<|ds.map<|w9 w n
 |_,_=>0
def dX(a:c6)(xs:List (D×c6×b7)):c5->b9->c8->Prop:=λ_ w h =>
 ∃(o:c7) (es:Array m3),h.get? a=a7 o/\o.ExactDict/\o.data=.dict es xs.length/\es.toList=xs.map λx=>⟨w9 w 8 x.1,.ref x.2.1,x.2.2⟩
def dQ(a:c6)(e:Nat)(xs:List (D×c6×b7)):c5->b9->c8->Prop:=λ_ w h =>
 ∃(o:c7) (es:Array m3),h.get? a=a7 o/\o.ExactDict/\o.data=.dict es e/\es.toList=xs.map λx=>⟨w9 w 8 x.1,.ref x.2.1,x.2.2⟩
noncomputable def xW:D->Bool
 |.non=>a9
 |.tup ks=>cY 8<|.tup ks
 |_=>bt
noncomputable def LG(w:b9):D->Int
 |.non=>m5 0xFCA86420
 |d=>w9 w 8 d
noncomputable def AF(hs:D->Int)(x:D×b7×b7):m3:=⟨hs x.1,x.2.1,x.2.2⟩
def dM(a:c6)(xs:List (D×b7×b7)):c5->b9->c8->Prop:=λ_ w h =>
 ∃(o:c7) (es:Array m3),h.get? a=a7 o/\o.ExactDict/\o.data=.dict es xs.length/\es.toList=xs.map (AF<|LG w)
def KA(K:t6)(ρ:List c6)(H:Hp)(p:D×D)(q:D×b7×b7):Prop:=p.1=q.1/\xW p.1=a9/\(∃u,t5 K ρ H p.1 u/\aN u q.2.1)/\∃v,t5 K ρ H p.2 v/\aN v q.2.2
def yt(K:t6)(ρ:List c6)(H:Hp)(p:D×D)(q:D×c6×b7):Prop:=p.1=q.1/\cY 8 p.1=a9/\t5 K ρ H p.1 (.ref q.2.1)/\∃v,t5 K ρ H p.2 v/\aN v q.2.2
def excO(a:c6)(C:b7):c5->b9->c8->Prop:=λ_ _ h=>∃o vs,h.get? a=a7 o/\o.cls=C/\o.data=.fields vs
def yr(K:t6)(ρ:List c6)(H:Hp)(a:c6):MO->Prop
 |.lst ds=>∃vs,H a=a7 (.lst vs)/\Reps K ρ H ds vs
 |.fz ds=>∃o vs,H a=a7 (.frz o<|.lst vs)/\Reps K ρ H ds vs
 |.kl ds=>∃vs,KList K a vs/\Reps K ρ H ds vs
 |.dct kvs=>∃vs,H a=a7 (.dK (ls (kvs.map (·.1)) vs))/\Reps K ρ H (kvs.map (·.2)) vs
 |.dkt kvs=>kvs.length<=sizeLine/\(a==c9)=bt/\(kvs.map (·.1)).Nodup/\∃xs,H a=a7 (.ext<|dX a xs)/\Paired (yt K ρ H) kvs xs
 |.dkq e kvs=>kvs.length<=sizeLine/\(a==c9)=bt/\(kvs.map (·.1)).Nodup/\∃xs,H a=a7 (.ext<|dQ a e xs)/\Paired (yt K ρ H) kvs xs
 |.dkm kvs=>kvs.length<=sizeLine/\(a==c9)=bt/\(kvs.map (·.1)).Nodup/\∃xs,H a=a7 (.ext<|dM a xs)/\Paired (KA K ρ H) kvs xs
 |.fdc o kvs=>∃vs,H a=a7 (.frz o (.dK (ls (kvs.map (·.1)) vs)))/\Reps K ρ H (kvs.map (·.2)) vs
 |.tb x b=>(∃c,PySem.W.tabIn K x=a7 (c,a)/\∀h:c8,K.In h->PySem.W.CodeHd h c a)/\∃ps,H a=a7 (.tbl ps)/\(b=bt->ps = #[])
 |.exc x=>∃C,PySem.W.nsIn K d6 x=a7 (a7<|.ref C)/\H a=a7 (.ext<|excO a<|.ref C)
def Kr(mo:Option MO):Prop:=∃ds,mo=a7 (.kl ds)
def al(M:tx)(n:Nat)(xs:List D):Prop:=M[n]?=a7 (.lst xs)\/M[n]?=a7 (.fz xs)\/M[n]?=a7 (.kl xs)
structure u6(K:t6)(ρ:List c6)(M:tx)(H:Hp):Prop where
 nd:∀(n m:Nat) (a:c6),n≠m->ρ[n]?=a7 a->ρ[m]?=a7 a->Kr M[n]?\/Kr M[m]?
 len:ρ.length=M.length
 obj:∀(n:Nat) (a:c6) (mo:MO),ρ[n]?=a7 a->M[n]?=a7 mo->yr K ρ H a mo
structure Grow(K:t6)(ρ:List c6)(H:Hp)(ρ':List c6)(H':Hp):Prop where
 pre:ρ <+: ρ'
 tup:∀a xs,A1 K H a xs->A1 K H' a xs
theorem Grow.refl{K:t6}{ρ:List c6}{H:Hp}:Grow K ρ H ρ H:=⟨Lx,λ_ _ h=>h⟩
theorem Grow.trans{K:t6}{ρ c d:List c6}{H e f:Hp}(a:Grow K ρ H c e)(b:Grow K c e d f):Grow K ρ H d f:=⟨a.pre.trans b.pre,λx xs h=>b.tup x xs<|a.tup x xs h⟩
theorem aq{α:Type}{l l':List α}(h:l <+: l'){n:Nat}{a:α}(e:l[n]?=a7 a):l'[n]?=a7 a:=by obtain⟨t,rfl⟩:=h;rw[J5 (w6.mp e).1];exact e
theorem t5.grow{K:t6}{ρ a:List c6}{H H':Hp}(g:Grow K ρ H a H'){d:D}{v:V}(h:t5 K ρ H d v):t5 K a H' d v:=t5.rec (motive_1:=λd v _=>t5 K a H' d v) (motive_2:=λds vs _=>Reps K a H' ds vs) .non .bl .int .str .ty (λh _ r=>.tup (g.tup _ _ h) r) (λh=>.ref<|aq g.pre h) .nil (λ_ _ h t=>.cons h t) h
theorem Reps.grow{K:t6}{ρ a:List c6}{H H':Hp}(g:Grow K ρ H a H'){ds:List D}{vs:List V}(h:Reps K ρ H ds vs):Reps K a H' ds vs:=Reps.rec (motive_1:=λd v _=>t5 K a H' d v) (motive_2:=λds vs _=>Reps K a H' ds vs) .non .bl .int .str .ty (λh _ r=>.tup (g.tup _ _ h) r) (λh=>.ref<|aq g.pre h) .nil (λ_ _ h t=>.cons h t) h
section
variable{K:t6}{ρ ρ':List c6}{H H':Hp}{M:tx}
theorem Reps.length(h:Reps K ρ H ds vs):ds.length=vs.length:=Reps.rec (motive_1:=λ_ _ _=>True) (motive_2:=λds vs _=>ds.length=vs.length) trivial (λ_=>trivial) (λ_=>trivial) (λ_=>trivial) (λ_=>trivial) (λ_ _ _=>trivial) (λ_=>trivial) rfl (λ_ _ _ t=>o8 Nat.succ t) h
theorem Reps.append(h:Reps K ρ H ds vs)(s:Reps K ρ H es ws):Reps K ρ H (ds++es) (vs++ws):=Reps.rec (motive_1:=λ_ _ _=>True) (motive_2:=λds vs _=>Reps K ρ H (ds++es)<|vs++ws) trivial (λ_=>trivial) (λ_=>trivial) (λ_=>trivial) (λ_=>trivial) (λ_ _ _=>trivial) (λ_=>trivial) s (λh _ _ t=>.cons h t) h
theorem Reps.get:∀{ds:List D}{vs:List V}{i:Nat}{d:D},Reps K ρ H ds vs->ds[i]?=a7 d->∃v,vs[i]?=a7 v/\t5 K ρ H d v
 |_,_,_,_,.nil,e=>by simp at e
 |_,_,0,_,.cons r _,e=>by simp at e;subst e;exact⟨_,rfl,r⟩
 |_,_,i+1,d,.cons _ t,e=>by obtain⟨v,h1,h2⟩:=Reps.get (i:=i) (d:=d) t (by simpa using e);exact⟨v,by simpa using h1,h2⟩
theorem Reps.getV:∀{ds:List D}{vs:List V}{i:Nat}{v:V},Reps K ρ H ds vs->vs[i]?=a7 v->∃d,ds[i]?=a7 d/\t5 K ρ H d v
 |_,_,_,_,.nil,e=>by simp at e
 |_,_,0,_,.cons r _,e=>by simp at e;subst e;exact⟨_,rfl,r⟩
 |_,_,i+1,d,.cons _ t,e=>by obtain⟨v,h1,h2⟩:=Reps.getV (i:=i) (v:=d) t (by simpa using e);exact⟨v,by simpa using h1,h2⟩
theorem Reps.take:∀{ds:List D}{vs:List V} (n:Nat),Reps K ρ H ds vs->Reps K ρ H (ds.take n) (vs.take n)
 |_,_,0,_=>by simpa using .nil
 |_,_,_+1,.nil=>.nil
 |_,_,n+1,.cons r t=>.cons r<|Reps.take n t
theorem Reps.drop:∀{ds:List D}{vs:List V} (n:Nat),Reps K ρ H ds vs->Reps K ρ H (ds.drop n) (vs.drop n)
 |_,_,0,r=>r
 |_,_,_+1,.nil=>.nil
 |_,_,n+1,.cons _ t=>Reps.drop n t
theorem A1.laid(b:H p=a8)(h:A1 K H a xs):A1 K (v5 H p o) a xs:=by
 rcases h with h|h;rcases h with h|⟨c,h⟩
 exact .inl (.inl<|by rw[aA<|am h b];exact h);exact .inl<|.inr ⟨c,by rw[aA<|am h b];exact h⟩;exact .inr h
theorem A1.written(b:H p=a7 (.lst vs))(h:A1 K H a xs):A1 K (v5 H p o) a xs:=by
 rcases h with h|h;rcases h with h|⟨c,h⟩
 exact .inl (.inl<|by rw[aA<|xL h b<|by intro z;cases z];exact h);exact .inl<|.inr ⟨c,by rw[aA<|xL h b<|by intro z;cases z];exact h⟩;exact .inr h
theorem Grow.laid(a:H p=a8):Grow K ρ H ρ (v5 H p o):=⟨Lx,λ_ _ h=>A1.laid a h⟩
theorem Grow.laidR(a:H p=a8):Grow K ρ H (ρ++[p]) (v5 H p o):=⟨Kq _ _,λ_ _ h=>A1.laid a h⟩
theorem u6.tracked(S:u6 K ρ M H){n:Nat}{a:c6}(e:ρ[n]?=a7 a):(∃o,H a=a7 o)\/Kr M[n]?:=by
 have f:n<M.length:=by rw[<-S.len];exact(w6.mp e).1
 have d:M[n]?=a7 M[n]:=v4 f;have h:=S.obj n a _ e d;rw[d];cases c:M[n] with
 |lst ds=>rw[c]at h;obtain⟨vs,h,_⟩:=h;exact .inl ⟨_,h⟩
 |fz ds=>rw[c]at h;obtain⟨o,vs,h,_⟩:=h;exact .inl ⟨_,h⟩
 |kl ds=>exact .inr ⟨ds,rfl⟩
 |dct s=>rw[c]at h;obtain⟨vs,h,_⟩:=h;exact .inl ⟨_,h⟩
 |dkt s=>rw[c]at h;obtain⟨_,_,_,xs,h,_⟩:=h;exact .inl ⟨_,h⟩
 |dkq _ s=>rw[c]at h;obtain⟨_,_,_,xs,h,_⟩:=h;exact .inl ⟨_,h⟩
 |fdc o s=>rw[c]at h;obtain⟨vs,h,_⟩:=h;exact .inl ⟨_,h⟩
 |dkm s=>rw[c]at h;obtain⟨_,_,_,xs,h,_⟩:=h;exact .inl ⟨_,h⟩
 |tb x b=>rw[c]at h;obtain⟨_,ps,h,_⟩:=h;exact .inl ⟨_,h⟩
 |exc x=>rw[c]at h;obtain⟨_,_,h⟩:=h;exact .inl ⟨_,h⟩
theorem yr.grow(g:Grow K ρ H ρ' H')(hs:H' a=H a\/Kr (a7 mo))(h:yr K ρ H a mo):yr K ρ' H' a mo:=by
 cases mo with
 |lst ds =>
  obtain⟨vs,e,r⟩:=h;rcases hs with hs|⟨_,z⟩
  exact⟨vs,by rw[hs];exact e,r.grow g⟩;cases z
 |fz ds =>
  obtain⟨o,vs,e,r⟩:=h;rcases hs with hs|⟨_,z⟩
  exact⟨o,vs,by rw[hs];exact e,r.grow g⟩;cases z
 |fdc o s =>
  obtain⟨vs,e,r⟩:=h;rcases hs with hs|⟨_,z⟩
  exact⟨vs,by rw[hs];exact e,r.grow g⟩;cases z
 |tb x b =>
  obtain⟨c,ps,e,q⟩:=h;rcases hs with hs|⟨_,z⟩
  exact⟨c,ps,by rw[hs];exact e,q⟩;cases z
 |exc x =>
  obtain⟨C,e,q⟩:=h;rcases hs with hs|⟨_,z⟩
  exact⟨C,e,by rw[hs];exact q⟩;cases z
 |kl ds=>obtain⟨vs,e,r⟩:=h;exact⟨vs,e,r.grow g⟩
 |dkm s =>
  obtain⟨h1,h2,d,xs,e,r⟩:=h;rcases hs with hs|⟨_,z⟩
  exact⟨h1,h2,d,xs,by rw[hs];exact e,Paired.mapP r λ_ _ ⟨f,j,⟨u,k,l⟩,v,J,i⟩=>⟨f,j,⟨u,k.grow g,l⟩,v,J.grow g,i⟩⟩;cases z
 |dct s =>
  obtain⟨vs,e,r⟩:=h;rcases hs with hs|⟨_,z⟩
  exact⟨vs,by rw[hs];exact e,r.grow g⟩;cases z
 |dkt s =>
  obtain⟨h1,h2,d,xs,e,r⟩:=h;rcases hs with hs|⟨_,z⟩
  exact⟨h1,h2,d,xs,by rw[hs];exact e,Paired.mapP r λ_ _ ⟨f,j,k,v,J,i⟩=>⟨f,j,k.grow g,v,J.grow g,i⟩⟩;cases z
 |dkq _ s =>
  obtain⟨h1,h2,d,xs,e,r⟩:=h;rcases hs with hs|⟨_,z⟩
  exact⟨h1,h2,d,xs,by rw[hs];exact e,Paired.mapP r λ_ _ ⟨f,j,k,v,J,i⟩=>⟨f,j,k.grow g,v,J.grow g,i⟩⟩;cases z
theorem u6.keeps{p:c6}{o:HO}(S:u6 K ρ M H)(h:H p=a8){n:Nat}{a:c6}{mo:MO}(t:ρ[n]?=a7 a)(m:M[n]?=a7 mo):v5 H p o a=H a\/Kr (a7 mo):=by rcases S.tracked t with⟨c,b⟩|q;exact .inl<|aA<|am b h;rw[m]at q;exact .inr q
theorem u6.laid{p:c6}{o:HO}(S:u6 K ρ M H)(h:H p=a8):u6 K ρ M (v5 H p o):=⟨S.nd,S.len,λn a b t m=>(S.obj n a b t m).grow (Grow.laid h)<|S.keeps h t m⟩
theorem aW{α:Type}{l:List α}{x y:α}{n:Nat}(h:(l++[x])[n]?=a7 y):l[n]?=a7 y\/(n=l.length/\y=x):=by
 by_cases f:n<l.length;rw[J5 f]at h;exact .inl h;have a:n=l.length:=by have:=(w6.mp h).1;rw[x5,F5]at this;lia
 subst a;rw[Kz<|u5 _,Li]at h;simp at h;exact .inr ⟨rfl,h.symm⟩
theorem Kr.more{mo:MO}{n:Nat}(h:Kr M[n]?):Kr (M++[mo])[n]?:=by obtain⟨ds,e⟩:=h;exact⟨ds,by rw[J5 (w6.mp e).1];exact e⟩
theorem u6.laidL{p:c6}{ds:List D}{vs:List V}(S:u6 K ρ M H)(c:H p=a8)(r:Reps K ρ H ds vs):u6 K (ρ++[p]) (M++[.lst ds]) (v5 H p<|.lst vs):=by
 have g:Grow K ρ H (ρ++[p]) (v5 H p<|.lst vs):=Grow.laidR c;have d:∀(n:Nat),ρ[n]?=a7 p->Kr M[n]?:=λn e=>by rcases S.tracked e with⟨o,q⟩|q;rw[c]at q;cases q;exact q
 refine⟨λn m a h t b=>?_,by rw[x5,x5,S.len];rfl,λn a k t b=>?_⟩;rcases aW t with f|⟨f,g1⟩
 rcases aW b with N|⟨N,i⟩
 exact(S.nd n m a h f N).elim (λz=>.inl z.more) λz=>.inr z.more;subst i;exact .inl (d n f).more;rcases aW b with N|⟨N,i⟩
 subst g1;exact .inr (d m N).more;exact o0 (f.trans N.symm) h;rcases aW t with f|⟨f,g1⟩
 have j:n<M.length:=by rw[<-S.len];exact(w6.mp f).1
 rw[J5 j]at b;exact(S.obj n a k f b).grow g<|S.keeps c f b;subst g1 f;rw[S.len,Kz<|u5 _,Li]at b;simp at b;subst b;exact⟨vs,bx,r.grow g⟩
theorem u6.last(S:u6 K ρ M H):(ρ++[p])[M.length]?=a7 p:=by rw[<-S.len,Kz<|u5 _,Li];rfl
theorem u6.write(S:u6 K ρ M H)(t:ρ[n]?=a7 a)(s:M[n]?=a7 (.lst ds))(p:H a=a7 (.lst vs))(r:Reps K ρ H ds' vs'):u6 K ρ (M.set n<|.lst ds') (v5 H a<|.lst vs')/\Grow K ρ H ρ (v5 H a<|.lst vs'):=by
 have g:Grow K ρ H ρ (v5 H a<|.lst vs'):=⟨Lx,λ_ _ h=>A1.written p h⟩
 have k:∀m,m≠n->(M.set n<|.lst ds')[m]?=M[m]?:=λm d=>K1<|C3 d;have c:¬Kr M[n]?:=λ⟨_,z⟩=>by rw[s]at z;cases z
 refine⟨⟨λm j b e f N=>?_,by rw[LR];exact S.len,λm b o f N=>?_⟩,g⟩;have q:=S.nd m j b e f N;by_cases h1:m=n;subst h1;rw[k j<|C3 e];exact .inr<|q.resolve_left c;rw[k m h1];by_cases h2:j=n;subst h2;exact .inl<|q.resolve_right c;rw[k j h2];exact q;by_cases d:m=n;subst d;have i:b=a:=C4<|f.symm.trans t;subst i;rw[Lp<|by rw[<-S.len];exact(w6.mp t).1]at N;cases N;exact⟨vs',bx,r.grow g⟩;rw[k m d]at N;by_cases i:b=a;subst i;have q:=S.nd m n b d f t;have l:=q.resolve_right c;rw[N]at l;exact(S.obj m b o f N).grow g<|.inr l;exact(S.obj m b o f N).grow g<|.inl<|aA i
theorem al.seq(S:u6 K ρ M H)(h:al M n xs)(e:ρ[n]?=a7 a):∃vs,F9 K H a vs/\Reps K ρ H xs vs:=by rcases h with h|h|h;obtain⟨vs,q,r⟩:=S.obj n a _ e h;exact⟨vs,.inl<|.inl q,r⟩;obtain⟨o,vs,q,r⟩:=S.obj n a _ e h;exact⟨vs,.inl<|.inr ⟨o,q⟩,r⟩;obtain⟨vs,q,r⟩:=S.obj n a _ e h;exact⟨vs,.inr q,r⟩
theorem u6.get(S:u6 K ρ M H){n:Nat}{mo:MO}(e:M[n]?=a7 mo):∃a,ρ[n]?=a7 a/\yr K ρ H a mo:=by
 have f:n<ρ.length:=by rw[S.len];exact(w6.mp e).1
 exact⟨ρ[n],v4 f,S.obj n _ mo (v4 f) e⟩
end
noncomputable abbrev SD:=List<|Option D
structure SRep(K:t6)(ρ:List c6)(H:Hp)(S:SD)(σ:St):Prop where
 len:S.length=σ.length
 get:∀(i:Nat) (d:D),S[i]?=a7 (a7 d)->∃v,σ[i]?=a7 (a7 v)/\t5 K ρ H d v
theorem SRep.grow{K:t6}{ρ a:List c6}{H H':Hp}{S:SD}{σ:St}(r:SRep K ρ H S σ)(g:Grow K ρ H a H'):SRep K a H' S σ:=⟨r.len,λi d e=>let ⟨v,h1,h2⟩:=r.get i d e;⟨v,h1,h2.grow g⟩⟩
theorem SRep.set{K:t6}{ρ:List c6}{H:Hp}{S:SD}{σ:St}(r:SRep K ρ H S σ)(i:Nat){d:D}{v:V}(h:t5 K ρ H d v):SRep K ρ H (S.set i<|a7 d) (σ.set i<|a7 v):=by refine⟨by rw[LR,LR];exact r.len,λj e L=>?_⟩;by_cases a:i=j;subst a;by_cases g:i<S.length;rw[Lp g]at L;cases L;exact⟨v,by rw[Lp<|by rw[<-r.len];exact g],h⟩;rw[Mt<|by rw[LR];lia]at L;cases L;rw[K1 a]at L;rw[K1 a];exact r.get j e L
abbrev DK:=D->tx->Prop
abbrev u8:=SD->tx->DK->Prop
abbrev E8:=SD->tx->(Bool->tx->Prop)->Prop
abbrev D9:=SD->tx->(List D->tx->Prop)->Prop
structure DEnds where
 nx:SD->tx->Prop
 rt:DK
 bk:SD->tx->Prop:=λ_ _=>False
 ct:SD->tx->Prop:=λ_ _=>False
abbrev p9:=DEnds->SD->tx->Prop
abbrev G4:=D->SD->tx->(SD->tx->Prop)->Prop
abbrev DY:=List D->SD->tx->(SD->tx->Prop)->Prop
abbrev E1:=D->D->tx->DK->Prop
abbrev Nj:=D->tx->DK->Prop
abbrev C6:=List D->tx->DK->Prop
section
variable(K:t6)
inductive VQ(ρ:List c6)(H:Hp)(Q:DK)(v:V)(H':Hp):Prop
 |mk (d:D) (M':tx) (ρ':List c6) (s:u6 K ρ' M' H') (g:Grow K ρ H ρ' H') (r:t5 K ρ' H' d v) (q:Q d M')
inductive BQ(ρ:List c6)(H:Hp)(Q:Bool->tx->Prop)(b:Bool)(H':Hp):Prop
 |mk (M':tx) (ρ':List c6) (s:u6 K ρ' M' H') (g:Grow K ρ H ρ' H') (q:Q b M')
inductive AQ(ρ:List c6)(H:Hp)(Q:List D->tx->Prop)(vs:List V)(H':Hp):Prop
 |mk (ds:List D) (M':tx) (ρ':List c6) (s:u6 K ρ' M' H') (g:Grow K ρ H ρ' H') (r:Reps K ρ' H' ds vs) (q:Q ds M')
inductive SQ(ρ:List c6)(H:Hp)(Q:SD->tx->Prop)(σ':St)(H':Hp):Prop
 |mk (S':SD) (M':tx) (ρ':List c6) (s:u6 K ρ' M' H') (g:Grow K ρ H ρ' H') (r:SRep K ρ' H' S' σ') (q:Q S' M')
structure Nb(ρ:List c6)(H:Hp)(F:DEnds)(E:Ends):Prop where
 nx:∀σ' H',SQ K ρ H F.nx σ' H'->E.nx σ' H'
 rt:∀v H',VQ K ρ H F.rt v H'->E.rt v H'
 bk:∀σ' H',SQ K ρ H F.bk σ' H'->E.bk σ' H'
 ct:∀σ' H',SQ K ρ H F.ct σ' H'->E.ct σ' H'
inductive lowE(t:u8)(σ:St)(H:Hp)(R:VK):Prop
 |mk (S:SD) (M:tx) (ρ:List c6) (Q:DK) (s:u6 K ρ M H) (sr:SRep K ρ H S σ) (q:t S M Q) (k:∀v H',VQ K ρ H Q v H'->R v H')
inductive lowT(t:E8)(σ:St)(H:Hp)(R:Bool->Hp->Prop):Prop
 |mk (S:SD) (M:tx) (ρ:List c6) (Q:Bool->tx->Prop) (s:u6 K ρ M H) (sr:SRep K ρ H S σ) (q:t S M Q) (k:∀v H',BQ K ρ H Q v H'->R v H')
inductive lowA(t:D9)(σ:St)(H:Hp)(R:List V->Hp->Prop):Prop
 |mk (S:SD) (M:tx) (ρ:List c6) (Q:List D->tx->Prop) (s:u6 K ρ M H) (sr:SRep K ρ H S σ) (q:t S M Q) (k:∀v H',AQ K ρ H Q v H'->R v H')
inductive lowS(t:p9)(E:Ends)(σ:St)(H:Hp):Prop
 |mk (S:SD) (M:tx) (ρ:List c6) (F:DEnds) (s:u6 K ρ M H) (sr:SRep K ρ H S σ) (q:t F S M) (k:Nb K ρ H F E)
inductive lowG(g:G4)(v:V)(σ:St)(H:Hp)(R:St->Hp->Prop):Prop
 |mk (d:D) (S:SD) (M:tx) (ρ:List c6) (Q:SD->tx->Prop) (s:u6 K ρ M H) (sr:SRep K ρ H S σ) (r:t5 K ρ H d v) (q:g d S M Q) (k:∀σ' H',SQ K ρ H Q σ' H'->R σ' H')
inductive lowGs(g:DY)(vs:List V)(σ:St)(H:Hp)(R:St->Hp->Prop):Prop
 |mk (ds:List D) (S:SD) (M:tx) (ρ:List c6) (Q:SD->tx->Prop) (s:u6 K ρ M H) (sr:SRep K ρ H S σ) (r:Reps K ρ H ds vs) (q:g ds S M Q) (k:∀σ' H',SQ K ρ H Q σ' H'->R σ' H')
inductive lowR(r:E1)(vx vy:V)(H:Hp)(R:VK):Prop
 |mk (x y:D) (M:tx) (ρ:List c6) (Q:DK) (s:u6 K ρ M H) (r1:t5 K ρ H x vx) (r2:t5 K ρ H y vy) (q:r x y M Q) (k:∀v H',VQ K ρ H Q v H'->R v H')
inductive lowU(r:Nj)(vx:V)(H:Hp)(R:VK):Prop
 |mk (x:D) (M:tx) (ρ:List c6) (Q:DK) (s:u6 K ρ M H) (r1:t5 K ρ H x vx) (q:r x M Q) (k:∀v H',VQ K ρ H Q v H'->R v H')
inductive lowC(r:C6)(vs:List V)(H:Hp)(R:VK):Prop
 |mk (ds:List D) (M:tx) (ρ:List c6) (Q:DK) (s:u6 K ρ M H) (r1:Reps K ρ H ds vs) (q:r ds M Q) (k:∀v H',VQ K ρ H Q v H'->R v H')
end
def DE(X:Cx)(e:f6)(t:u8):Prop:=PE X e<|lowE X.K t
def DT(X:Cx)(e:f6)(t:E8):Prop:=PT X e<|lowT X.K t
def DW(X:Cx)(e:f6)(t:E8):Prop:=PW X e<|lowT X.K t
def DA(X:Cx)(es:List f6)(t:D9):Prop:=PA X es<|lowA X.K t
def DS(X:Cx)(st:g7)(t:p9):Prop:=PS X st<|lowS X.K t
def K3(X:Cx)(st:List g7)(t:p9):Prop:=H9 X st<|lowS X.K t
def DG(X:Cx)(t:f6)(g:G4):Prop:=PG X t<|lowG X.K g
def Nk(X:Cx)(t:List f6)(g:DY):Prop:=Nf X t<|lowGs X.K g
def E6(X:Cx)(f:b7->b7->Sem b7)(r:E1):Prop:=C1 X f<|lowR X.K r
def OT(X:Cx)(f:b7->Sem b7)(r:Nj):Prop:=NV X f<|lowU X.K r
def oo(X:Cx)(f:b7)(r:C6):Prop:=gK X f<|lowC X.K r
section
variable{K:t6}{ρ ρ1:List c6}{H H1:Hp}
theorem VQ.trans(g:Grow K ρ H ρ1 H1)(h:VQ K ρ1 H1 Q v H'):VQ K ρ H Q v H':=by obtain⟨d,M,a,s,b,r,q⟩:=h;exact⟨d,M,a,s,g.trans b,r,q⟩
theorem BQ.trans(g:Grow K ρ H ρ1 H1)(h:BQ K ρ1 H1 Q v H'):BQ K ρ H Q v H':=by obtain⟨M,a,s,b,q⟩:=h;exact⟨M,a,s,g.trans b,q⟩
theorem SQ.trans(g:Grow K ρ H ρ1 H1)(h:SQ K ρ1 H1 Q v H'):SQ K ρ H Q v H':=by obtain⟨d,M,a,s,b,r,q⟩:=h;exact⟨d,M,a,s,g.trans b,r,q⟩
theorem Nb.trans(g:Grow K ρ H ρ1 H1)(h:Nb K ρ H F E):Nb K ρ1 H1 F E:=⟨λa H' q=>h.nx a H'<|SQ.trans g q,λv H' q=>h.rt v H'<|VQ.trans g q,λa H' q=>h.bk a H'<|SQ.trans g q,λa H' q=>h.ct a H'<|SQ.trans g q⟩
theorem VQ.now(s:u6 K ρ M H)(r:t5 K ρ H d v)(q:Q d M):VQ K ρ H Q v H:=⟨d,M,ρ,s,.refl,r,q⟩
end
section
variable{K:t6}{ρ:List c6}{H:Hp}{v:V}{vs:List V}
theorem t5.inv_non(h:t5 K ρ H .non v):v=.non:=by cases h;rfl
theorem t5.inv_bl(h:t5 K ρ H (.bl b) v):v=.bl b:=by cases h;rfl
theorem t5.inv_int(h:t5 K ρ H (.int i) v):v=.int i:=by cases h;rfl
theorem t5.inv_str(h:t5 K ρ H (.str x) v):v=.str x:=by cases h;rfl
theorem t5.inv_ty(h:t5 K ρ H (.ty n) v):v=.ty n:=by cases h;rfl
theorem t5.inv_tup(h:t5 K ρ H (.tup ds) v):∃a vs,v=.ref a/\A1 K H a vs/\Reps K ρ H ds vs:=by cases h with|tup h r=>exact⟨_,_,rfl,h,r⟩
theorem t5.inv_ref(h:t5 K ρ H (.ref n) v):∃a,v=.ref a/\ρ[n]?=a7 a:=by cases h with|ref h=>exact⟨_,rfl,h⟩
theorem aw.inv_cons(h:aw (x::vs) us):∃u ws,us=u::ws/\aN x u/\aw vs ws:=by cases h with|cons h t=>exact⟨_,_,rfl,h,t⟩
theorem aw.inv_nil(h:aw [] us):us=[]:=by cases h;rfl
theorem Reps.inv_nil(h:Reps K ρ H [] vs):vs=[]:=by cases h;rfl
theorem Reps.inv_cons(h:Reps K ρ H (d::ds) vs):∃v ws,vs=v::ws/\t5 K ρ H d v/\Reps K ρ H ds ws:=by cases h with|cons h t=>exact⟨_,_,rfl,h,t⟩
end
end
theorem PE.imp(h:PE X e t')(i:∀σ H R,t σ H R->t' σ H R):PE X e t:=λp s σ H R I q=>h p s σ H R I<|i σ H R q
theorem PT.imp(h:PT X e t')(i:∀σ H R,t σ H R->t' σ H R):PT X e t:=λp s σ H R I q=>h p s σ H R I<|i σ H R q
theorem PW.imp(h:PW X e t')(i:∀σ H R,t σ H R->t' σ H R):PW X e t:=λw p s σ H R I q=>h w p s σ H R I<|i σ H R q
theorem PA.imp(h:PA X e t')(i:∀σ H R,t σ H R->t' σ H R):PA X e t:=λa p s σ H R I q=>h a p s σ H R I<|i σ H R q
theorem PS.imp(h:PS X e t')(i:∀E σ H,t E σ H->t' E σ H):PS X e t:=λp s σ H R I q=>h p s σ H R I<|i R σ H q
theorem H9.imp(h:H9 X e t')(i:∀E σ H,t E σ H->t' E σ H):H9 X e t:=λp s σ H R I q=>h p s σ H R I<|i R σ H q
theorem C1.imp(h:C1 X f r')(i:∀x y H R,r x y H R->r' x y H R):C1 X f r:=λp s σ H x y v u R I a b q=>h p s σ H x y v u R I a b<|i x y H R q
theorem gK.imp(h:gK X f r')(i:∀xs H R,r xs H R->r' xs H R):gK X f r:=λp s σ H xs us R I a q=>h p s σ H xs us R I a<|i xs H R q
section
variable{X:Cx}{a b c:f6}{ta tb tc:u8}{pos:f8}
def ab(i:Nat):u8:=λS M Q=>match S[i]? with
 |some (a7 d)=>Q d M
 |_=>False
def dC(d:D):u8:=λ_ M Q=>Q d M
theorem Cf{K:t6}{i:Nat}(σ:St)(H:Hp)(R:VK)(h:lowE K (ab i) σ H R):tVar i σ H R:=by
 obtain⟨S,M,ρ,Q,s,r,q,k⟩:=h;unfold ab at q;cases e:S[i]? with
 |none=>rw[e]at q;exact q.elim
 |some o =>
  cases o with
  |none=>rw[e]at q;exact q.elim
  |some d=>rw[e]at q;obtain⟨v,c,a⟩:=r.get i d e;exact⟨v,c,k v H<|VQ.now s a q⟩
theorem d_var(h:X.N[i]?=a7 x:=by rfl)(c:L5 X.env.scope x:=by first|exact Or.inl rfl|exact Or.inr (Or.inl rfl)|exact Or.inr<|Or.inr rfl)(a:(x==("__debug__":b8))=bt:=by decide)(d:(x==("__classdict__":b8))=bt:=by decide):DE X (.Name x pos) (ab i):=PE.imp (Dv h c a d) Cf
noncomputable def cV:D->Option V
 |.non=>a7 .non
 |.bl b=>a7<|.bl b
 |.int i=>a7<|.int i
 |.str x=>a7<|.str x
 |.ty n=>a7<|.ty n
 |_=>a8
theorem AT{K:t6}{ρ:List c6}{H:Hp}{d:D}{v:V}(h:cV d=a7 v):t5 K ρ H d v:=by
 cases d with
 |non=>cases h;exact .non
 |bl b=>cases h;exact .bl b
 |int b=>cases h;exact .int b
 |str b=>cases h;exact .str b
 |ty b=>cases h;exact .ty b
 |tup b=>cases h
 |ref b=>cases h
theorem tD{K:t6}{d:D}{v:V}(a:cV d=a7 v)(σ:St)(H:Hp)(R:VK)(h:lowE K (dC d) σ H R):tC v σ H R:=by obtain⟨S,M,ρ,Q,s,r,q,k⟩:=h;exact k v H<|VQ.now s (AT a) q
theorem d_int{i:Int}{j:Nat}:DE X (.Constant (.int i) j pos) (dC<|.int i):=PE.imp HL<|tD rfl
theorem d_bl{i:Bool}{j:Nat}:DE X (.Constant (.bool i) j pos) (dC<|.bl i):=PE.imp pe_bl<|tD rfl
theorem d_non{j:Nat}:DE X (.Constant .none j pos) (dC .non):=PE.imp HJ<|tD rfl
theorem d_str{i:b8}{j:Nat}:DE X (.Constant (.str i) j pos) (dC<|.str i):=PE.imp HD<|tD rfl
theorem JN{x:b8}{T:String}(m:X.mg x=a8)(c:d7 x=a7 (.type T))(S:Gl X x:=by rfl)(f:x≠"__name__":=by decide)(d:(x==("__debug__":b8))=bt:=by decide):DE X (.Name x pos) (dC<|.ty T):=PE.imp (EO (v:=.ty T) S m c rfl f d)<|tD rfl
theorem low2{K:t6}{S:SD}{M:tx}{ρ:List c6}{σ:St}{H:Hp}{P:D->D->tx->Prop}{G:V->V->Hp->Prop}(s:u6 K ρ M H)(r:SRep K ρ H S σ)(h:ta S M λx M1=>tb S M1 λy M2=>P x y M2)(k:∀x y vx vy M2 ρ2 H2,u6 K ρ2 M2 H2->Grow K ρ H ρ2 H2->t5 K ρ2 H2 x vx->t5 K ρ2 H2 y vy->P x y M2->G vx vy H2):lowE K ta σ H λvx H1=>lowE K tb σ H1 λvy H2=>G vx vy H2:=by refine⟨S,M,ρ,_,s,r,h,?_⟩;rintro vx H1 ⟨x,M1,c,f,g1,a,q⟩;refine⟨S,M1,c,_,f,r.grow g1,q,?_⟩;rintro vy H2 ⟨y,M2,ρ2,w,i,m,j⟩;exact k x y vx vy M2 ρ2 H2 w (g1.trans i) (a.grow i) m j
def p6(r:E1)(t b:u8):u8:=λS M Q=>t S M λx a=>b S a λy M2=>r x y M2 Q
theorem ql{K:t6}{r:E1}(σ:St)(H:Hp)(R:VK)(h:lowE K (p6 r ta tb) σ H R):MU (lowR K r) (lowE K ta) (lowE K tb) σ H R:=by obtain⟨S,M,ρ,Q,s,c,q,k⟩:=h;exact low2 s c q λx y f g M2 d e b i a m j=>⟨x,y,M2,d,Q,b,a,m,j,λv H' w=>k v H'<|VQ.trans i w⟩
theorem d_op(D:E6 X (i9 op) r)(f:DE X a ta)(d:DE X b tb):DE X (.BinOp a op b pos) (p6 r ta tb):=PE.imp (pe_op D f d) ql
theorem d_cmp(D:E6 X (j0 op) r)(f:DE X a ta)(d:DE X b tb)(m:j1 op b=bt:=by with_unfolding_all rfl):DE X (.Compare a [op] [b] pos) (p6 r ta tb):=PE.imp (EM D f d m) ql
def aB(t:u8):E8:=λS M Q=>t S M λx a=>match x with
 |.bl b=>Q b a
 |_=>False
theorem tz{K:t6}{t:u8}(σ:St)(H:Hp)(R:Bool->Hp->Prop)(h:lowT K (aB t) σ H R):GU (lowE K t) σ H R:=by
 obtain⟨S,M,ρ,Q,s,r,q,k⟩:=h;refine⟨S,M,ρ,_,s,r,q,?_⟩;rintro v H' ⟨d,c,a,s',g,r',j⟩;cases r' with
 |bl b=>exact⟨b,rfl,k b H' ⟨c,a,s',g,j⟩⟩
 |_=>exact j.elim
theorem Jz(D:E6 X (j0 op) r)(f:DE X a ta)(d:DE X b tb)(m:j1 op b=bt:=by with_unfolding_all rfl):DT X (.Compare a [op] [b] pos) (aB<|p6 r ta tb):=by refine PT.imp (EC D f d m) λσ H R h=>?_;obtain⟨S,M,ρ,Q,s,c,q,k⟩:=tz σ H R h;exact ql σ H _ ⟨S,M,ρ,Q,s,c,q,k⟩
theorem Jx(h:DE X e t)(i:∀whole,isTrue e X.env whole=(do let v <-whole;standAt e.pos;g8 [v] (truthy v)):=by intro _;rfl):DT X e (aB t):=PT.imp (Ho h i) tz
def NQ(z:D)(k:Bool->Prop):Prop:=match z with
 |.bl b=>k b
 |_=>False
theorem sT{b:Bool}{k:Bool->Prop}:NQ (.bl b) k=k b:=rfl
def ua(r r':E1)(t e f:u8):u8:=λS M Q=>t S M λx c=>e S c λy M2=>r x y M2 λz a=>NQ z λb=>if b=a9 then f S a λw d=>r' y w d Q else Q (.bl bt) a
theorem xQ{K:t6}{r r':E1}(σ:St)(H:Hp)(R:VK)(h:lowE K (ua r r' ta tb tc) σ H R):Ds (lowR K r) (lowR K r') (lowE K ta) (lowE K tb) (lowE K tc) σ H R:=by
 obtain⟨S,M,ρ,Q,s,l,q,k⟩:=h;refine low2 s l q λx y G I M2 e D A i t m p=>⟨x,y,M2,e,_,A,t,m,p,?_⟩
 rintro L n ⟨z,c,a,j,g3,C,d⟩;cases C with
 |bl b =>
  cases b with
  |false=>exact⟨bt,rfl,cP<|k _ n ⟨_,c,a,j,i.trans g3,.bl bt,(show Q (.bl bt) c from d)⟩⟩
  |true=>refine⟨a9,rfl,dI ⟨S,c,a,_,j,l.grow<|i.trans g3,(show tc S c _ from d),?_⟩⟩;rintro F E ⟨w,o,f,B,g,u,J⟩;exact⟨y,w,o,f,Q,B,m.grow<|g3.trans g,u,J,λv H' Y=>k v H'<|VQ.trans ((i.trans g3).trans g) Y⟩
 |_=>exact d.elim
theorem Gn(D:E6 X (j0 op) r)(h:E6 X (j0 op') r')(f:DE X a ta)(d:DE X b tb)(e:DE X c tc)(m:lastMarks [op,op'] [b,c]=bt:=by with_unfolding_all rfl):DE X (.Compare a [op,op'] [b,c] pos) (ua r r' ta tb tc):=PE.imp (BJ D h f d e m) xQ
variable{tA tB:E8}{aI:List f6}
def GH(t u:E8):E8:=λS M Q=>t S M λb a=>if b=a9 then u S a Q else Q bt a
def L1(t u:E8):E8:=λS M Q=>t S M λb a=>if b=a9 then Q a9 a else u S a Q
def Gp(t:E8):E8:=λS M Q=>t S M λb a=>Q (!b) a
theorem FY(f:DT X a tA):DW X (.BoolOp .And [a] pos) tA:=Ew f
theorem Jv(f:DT X a tA):DW X (.BoolOp .Or [a] pos) tA:=Hl f
theorem Jw(i:DT X a tA)(j:DW X (.BoolOp .And (b::aI) pos) tB):DW X (.BoolOp .And (a::b::aI) pos) (GH tA tB):=by
 refine PW.imp (Hn i j) ?_;rintro σ H R ⟨S,M,ρ,Q,s,r,q,k⟩;refine⟨S,M,ρ,_,s,r,q,?_⟩;rintro c h ⟨e,d,g,g1,f⟩;cases c with
 |true=>exact dI ⟨S,e,d,Q,g,r.grow g1,(show tB S e Q from f),λv H' w=>k v H'<|BQ.trans g1 w⟩
 |false=>exact cP<|k bt h ⟨e,d,g,g1,f⟩
theorem dw_or(i:DT X a tA)(j:DW X (.BoolOp .Or (b::aI) pos) tB):DW X (.BoolOp .Or (a::b::aI) pos) (L1 tA tB):=by
 refine PW.imp (pw_or i j) ?_;rintro σ H R ⟨S,M,ρ,Q,s,r,q,k⟩;refine⟨S,M,ρ,_,s,r,q,?_⟩;rintro c h ⟨e,d,g,g1,f⟩;cases c with
 |false=>exact cP ⟨S,e,d,Q,g,r.grow g1,(show tB S e Q from f),λv H' w=>k v H'<|BQ.trans g1 w⟩
 |true=>exact dI<|k a9 h ⟨e,d,g,g1,f⟩
theorem dw_t(h:DW X e t):DT X e t:=PW.pt h
theorem Jy(f:DT X a tA):DT X (.UnaryOp .Not a pos) (Gp tA):=by refine PT.imp (Hq f) ?_;rintro σ H R ⟨S,M,ρ,Q,s,r,q,k⟩;refine⟨S,M,ρ,_,s,r,q,?_⟩;rintro c d ⟨e,b,h,g1,g⟩;exact k (!c) d ⟨e,b,h,g1,g⟩
def jC(t c:u8):u8:=λS M Q=>t S M λx a=>NQ x λb=>if b=a9 then c S a Q else Q (.bl bt) a
def dOrV(t c:u8):u8:=λS M Q=>t S M λx a=>NQ x λb=>if b=a9 then Q (.bl a9) a else c S a Q
def Dc(t:u8):u8:=λS M Q=>t S M λx a=>match x with
 |.bl b=>Q (.bl<|!b) a
 |_=>False
theorem d_one{op}(h:DE X a ta):DE X (.BoolOp op [a] pos) ta:=HF h
theorem d_and(j:DE X a ta)(l:DE X (.BoolOp .And (b::aI) pos) tb):DE X (.BoolOp .And (a::b::aI) pos) (jC ta tb):=by
 refine PE.imp (HP j l) ?_;rintro σ H R ⟨S,M,ρ,Q,s,r,q,k⟩;refine⟨S,M,ρ,_,s,r,q,?_⟩;rintro v i ⟨d,f,e,h,g1,m,g⟩;cases m with
 |bl c =>
  cases c with
  |true=>exact⟨a9,rfl,dI ⟨S,f,e,Q,h,r.grow g1,(show tb S f Q from g),λv H' w=>k v H'<|VQ.trans g1 w⟩⟩
  |false=>exact⟨bt,rfl,cP<|k _ i ⟨_,f,e,h,g1,.bl bt,(show Q (.bl bt) f from g)⟩⟩
 |_=>exact g.elim
theorem d_or(j:DE X a ta)(l:DE X (.BoolOp .Or (b::aI) pos) tb):DE X (.BoolOp .Or (a::b::aI) pos) (dOrV ta tb):=by
 refine PE.imp (pe_or j l) ?_;rintro σ H R ⟨S,M,ρ,Q,s,r,q,k⟩;refine⟨S,M,ρ,_,s,r,q,?_⟩;rintro v i ⟨d,f,e,h,g1,m,g⟩;cases m with
 |bl c =>
  cases c with
  |false=>exact⟨bt,rfl,cP ⟨S,f,e,Q,h,r.grow g1,(show tb S f Q from g),λv H' w=>k v H'<|VQ.trans g1 w⟩⟩
  |true=>exact⟨a9,rfl,dI<|k _ i ⟨_,f,e,h,g1,.bl a9,(show Q (.bl a9) f from g)⟩⟩
 |_=>exact g.elim
theorem d_not(h:DE X a ta):DE X (.UnaryOp .Not a pos) (Dc ta):=by
 refine PE.imp (HH h) ?_;rintro σ H R ⟨S,M,ρ,Q,s,j,q,k⟩;refine⟨S,M,ρ,_,s,j,q,?_⟩;rintro v f ⟨d,g,b,i,g1,r,e⟩;cases r with
 |bl c=>exact⟨c,rfl,k _ f ⟨_,g,b,i,g1,.bl<|!c,e⟩⟩
 |_=>exact e.elim
variable{e:f6}{es:List f6}{te:u8}{t:D9}
def ag:D9:=λ_ M Q=>Q [] M
def aa(te:u8)(t:D9):D9:=λS M Q=>te S M λd a=>t S a λds M2=>Q (d::ds) M2
theorem JM:DA X [] ag:=by refine PA.imp HQ ?_;rintro σ H R ⟨S,M,ρ,Q,s,c,q,k⟩;exact k [] H ⟨[],M,ρ,s,.refl,.nil,q⟩
theorem Gk(h:DE X e te)(g:DA X es t)(hs:ge (e::es) X.env=(bt,eval e X.env)::ge es X.env:=by rfl):DA X (e::es) (aa te t):=by refine PA.imp (EQ h g hs) ?_;rintro σ H R ⟨S,M,ρ,Q,s,r,q,k⟩;refine⟨S,M,ρ,_,s,r,q,?_⟩;rintro v p ⟨d,f,c,o,g1,m,j⟩;refine⟨S,f,c,_,o,r.grow g1,j,?_⟩;rintro vs b ⟨ds,M2,a,w,i,n,l⟩;exact k _ b ⟨d::ds,M2,a,w,g1.trans i,.cons (m.grow i) n,l⟩
def ig(t:D9):u8:=λS M Q=>t S M λds a=>ds.length<=sizeLine/\Q (.tup ds) a
def jB(t:D9):u8:=λS M Q=>t S M λds a=>ds.length<=sizeLine/\Q (.ref a.length) (a++[.lst ds])
theorem VQ.laidT{K:t6}{ρ c:List c6}{H a:Hp}{M:tx}{ds:List D}{vs:List V}{Q:DK}{p:c6}(f:u6 K c M a)(g1:Grow K ρ H c a)(r:Reps K c a ds vs)(h:a p=a8)(q:Q (.tup ds) M):VQ K ρ H Q (.ref p) (v5 a p<|.tup vs):=⟨.tup ds,M,c,f.laid h,g1.trans<|Grow.laid h,.tup (A1.of bx)<|r.grow<|Grow.laid h,q⟩
theorem VQ.laidL{K:t6}{ρ c:List c6}{H a:Hp}{M:tx}{ds:List D}{vs:List V}{Q:DK}{p:c6}(f:u6 K c M a)(g1:Grow K ρ H c a)(r:Reps K c a ds vs)(h:a p=a8)(q:Q (.ref M.length) (M++[.lst ds])):VQ K ρ H Q (.ref p) (v5 a p<|.lst vs):=⟨.ref M.length,M++[.lst ds],c++[p],f.laidL h r,g1.trans<|Grow.laidR h,.ref f.last,q⟩
theorem d_tup{x1}(h:DA X es t):DE X (.Tuple es x1 pos) (ig t):=by refine PE.imp (Hz h) ?_;rintro σ H R ⟨S,M,ρ,Q,s,b,q,k⟩;refine⟨S,M,ρ,_,s,b,q,?_⟩;rintro vs e ⟨ds,g,d,f,g1,r,z,c⟩;exact⟨by rw[<-r.length];exact z,λp a=>k _ _<|VQ.laidT f g1 r a c⟩
theorem d_lst(h:DA X es t):DE X (.List es pos) (jB t):=by refine PE.imp (HK h) ?_;rintro σ H R ⟨S,M,ρ,Q,s,b,q,k⟩;refine⟨S,M,ρ,_,s,b,q,?_⟩;rintro vs e ⟨ds,g,d,f,g1,r,z,c⟩;exact⟨by rw[<-r.length];exact z,λp a=>k _ _<|VQ.laidL f g1 r a c⟩
def s9(r:C6)(t:D9):u8:=λS M Q=>t S M λds a=>r ds a Q
theorem zP{K:t6}{r:C6}(σ:St)(H:Hp)(R:VK)(h:lowE K (s9 r t) σ H R):OP (lowC K r) (lowA K t) σ H R:=by obtain⟨S,M,ρ,Q,s,e,q,k⟩:=h;refine⟨S,M,ρ,_,s,e,q,?_⟩;rintro vs g ⟨ds,a,c,f,g1,d,b⟩;exact⟨ds,a,c,Q,f,d,b,λv H' w=>k v H'<|VQ.trans g1 w⟩
theorem Go{x:b8}{p:f8}{id:String}{r:C6}(c:oo X (.builtin id) r)(d:X.mg x=a8)(v:d7 x=a7 (.builtin id))(f:DA X (e::es) t)(S:Gl X x:=by rfl)(n:x≠"__name__":=by decide)(b:(x==("__debug__":b8))=bt:=by decide)(i:ge (e::es) X.env=(bt,eval e X.env)::ge es X.env:=by rfl) (l:(f9 pos<|ge es X.env).any (·.1)=bt:=by rfl):DE X (.Call (.Name x p) (e::es) [] pos) (s9 r t):=PE.imp (BK c S d v f n b i l) zP
theorem Da(c:oo X (.type T) r)(d:X.mg x=a8)(v:d7 x=a7 (.type T))(f:DA X (e::es) t)(S:Gl X x:=by rfl)(n:x≠"__name__":=by decide)(b:(x==("__debug__":b8))=bt:=by decide)(i:ge (e::es) X.env=(bt,eval e X.env)::ge es X.env:=by rfl) (l:(f9 pos<|ge es X.env).any (·.1)=bt:=by rfl):DE X (.Call (.Name x p) (e::es) [] pos) (s9 r t):=PE.imp (zu c S d v f n b i l) zP
abbrev v6:=List D->tx->DK->Prop
def KL(K:t6)(P:v6):Sp:=λvs H Q _=>∃ds M ρ R,u6 K ρ M H/\Reps K ρ H ds vs/\P ds M R/\∀v H',VQ K ρ H R v H'->Q v H'
theorem zN{K:t6}{P:v6}(σ:St)(H:Hp)(R:VK)(h:lowE K (s9 P t) σ H R):GX (KL K P) [] E0 (lowA K t) σ H R:=by obtain⟨S,M,ρ,Q,s,d,q,k⟩:=h;exact⟨S,M,ρ,_,s,d,q,λvs e ⟨ds,a,c,f,g1,r,b⟩=>⟨ds,a,c,Q,f,by rw[K7];exact r,b,λv H' w=>k v H'<|VQ.trans g1 w⟩⟩
theorem JS(F:FnOk X.prog X.w X.K X.mg X.base I0 k f fd ps (KL X.K P))(r:Room k X.A)(m:X.mg x=a7 (.ref f))(h:LP X.K (.ref f)=a9)(d:ut X.K fd ps [])(a:DA X (e::es) t) (S:Gl X x:=by rfl) (b:(x==("__debug__":b8))=bt:=by decide) (i:ge (e::es) X.env=(bt,eval e X.env)::ge es X.env:=by rfl) (l:(f9 pos<|ge es X.env).any (·.1)=bt:=by rfl):DE X (.Call (.Name x p) (e::es) [] pos) (s9 P t):=PE.imp (EN F r S m h d .nil pass0 a b i l) zN
end
section
variable{X:Cx}{st:g7}{aI:List g7}{t u:p9}{e:f6}{te:u8}{pos:f8}
def bu:p9:=λE S M=>E.nx S M
def av(t u:p9):p9:=λE S M=>t { E with nx:=λb a=>u E b a } S M
theorem JD:K3 X [] bu:=by refine H9.imp EF ?_;rintro E σ H ⟨S,M,ρ,F,s,c,q,k⟩;exact k.nx σ H ⟨S,M,ρ,s,.refl,c,q⟩
theorem JC(h:DS X st t):K3 X [st] t:=ED h
theorem Gd(h1:DS X st t)(h2:K3 X aI u):K3 X (st::aI) (av t u):=by refine H9.imp (BC h1 h2) ?_;rintro E σ H ⟨S,M,ρ,F,s,r,q,k⟩;exact⟨S,M,ρ,_,s,r,q,⟨λe H' ⟨d,c,b,s',g,a,j⟩=>⟨d,c,b,F,s',a,j,k.trans g⟩,k.rt,k.bk,k.ct⟩⟩
def kb(te:u8):p9:=λE S M=>te S M λ_ a=>E.nx S a
theorem Gc(i:DE X e te)(hs:g9 e a8 pos.line X.env=pure bt:=by rfl):DS X (.Expr e pos) (kb te):=by refine PS.imp (EG i hs) ?_;rintro E σ H ⟨S,M,ρ,F,s,r,q,k⟩;refine⟨S,M,ρ,_,s,r,q,?_⟩;rintro v a ⟨d,b,c,g,g1,h,f⟩;exact k.nx σ a ⟨S,b,c,g,g1,r.grow g1,f⟩
def bg(te:u8):p9:=λE S M=>te S M E.rt
theorem JB(i:DE X e te):DS X (.Return (a7 e) pos) (bg te):=by refine PS.imp (Hs i) ?_;rintro E σ H ⟨S,M,ρ,F,s,c,q,k⟩;exact⟨S,M,ρ,_,s,c,q,λv a w=>k.rt v a w⟩
def A9(c:E8)(t u:p9):p9:=λE S M=>c S M λb a=>if b=a9 then t E S a else u E S a
theorem ds_if(j:DT X c tc)(h:K3 X a t)(i:K3 X b u):DS X (.If c a b pos) (A9 tc t u):=by
 refine PS.imp (ps_if j h i) ?_;rintro E σ H ⟨S,M,ρ,F,s,r,q,k⟩;refine⟨S,M,ρ,_,s,r,q,?_⟩;rintro c l ⟨e,d,g,g1,f⟩;cases c with
 |true=>exact dI ⟨S,e,d,F,g,r.grow g1,(show t F S e from f),k.trans g1⟩
 |false=>exact cP ⟨S,e,d,F,g,r.grow g1,(show u F S e from f),k.trans g1⟩
def aU(te:u8)(i:Nat):p9:=λE S M=>te S M λd a=>E.nx (S.set i<|a7 d) a
theorem JA(h:X.N.Nodup)(f:DE X e te)(hi:X.N[i]?=a7 x:=by rfl)(j:LJ X.env.scope x:=by first|exact Or.inl rfl|exact Or.inr rfl)(hs:g9 e (a7<|.Name x pos') pos.line X.env=pure bt:=by rfl)(g:X.fn x=a9\/X.env.scope.names.lookup x=a7 .local:=by first|exact .inl rfl|exact .inr rfl|assumption):DS X (.Assign [.Name x pos'] e pos) (aU te i):=by refine PS.imp (Hr h hi j f hs g) ?_;rintro E σ H ⟨S,M,ρ,F,s,r,q,k⟩;refine⟨S,M,ρ,_,s,r,q,?_⟩;rintro v a ⟨d,b,c,n,g1,m,l⟩;exact k.nx _ a ⟨_,b,c,n,g1,(r.grow g1).set i m,l⟩
def ak(i:Nat):G4:=λd S M Q=>Q (S.set i<|a7 d) M
theorem vG(h:X.N.Nodup)(hi:X.N[i]?=a7 x:=by rfl)(a:LJ X.env.scope x:=by first|exact Or.inl rfl|exact Or.inr rfl)(f:X.fn x=a9\/X.env.scope.names.lookup x=a7 .local:=by first|exact .inl rfl|exact .inr rfl|assumption):DG X (.Name x pos) (ak i):=λp s σ H v u R I r ⟨d,S,M,ρ,Q,m,c,b,q,k⟩=>EL h hi a f p s σ H v u R I r<|k _ H ⟨_,M,ρ,m,.refl,c.set i b,q⟩
end
theorem xt{P:c5}{w:b9}{K:t6}{tg:f6}(it:c6)(n:Nat)(N:Nat->b7->Prop)(PX:Nat->V->Prop)(Sx:Nat->c8->Prop)(W:∀A':d8,A'.handled=a8->Walks P w A' it [it] [it] n N Sx) (m:∀i v,N i v->∃x,aN x v/\PX i x)(j:∀i h,Sx i h->∃(o:c7) (nm:String) (vs:Array b7),h.get? it=a7 o/\o.cls=.type nm/\o.data=.fields vs/\["enumerate","zip","dict_itemiterator","dict_reverseitemiterator","odict_iterator","itertools.zip_longest","itertools.pairwise"].contains nm=bt)(a:∀(i:Nat) (h h':c8),Sx i h->(∀o,h.get? it=a7 o->h'.get? it=a7 o)->Sx i h')(g:∀(A:d8) (i:Nat) (s:d9) (Q:b7->d9->Prop) (E:b7->d9->Prop),Sx i s.heap->Q (.ref it) s->e8 (f7 P w) A (i6<|.ref it) Q E s):Turn P w K tg ⟨λi _=>i<n,λi H x H'=>H'=H/\PX i x,λi _=>i=n⟩ [it] it Sx where
 mem:=by simp
 obj:=λi h l b f=>by
  have e:b=it:=by simpa using f
  subst e;obtain⟨o,nm,vs,e,_,d,_⟩:=j i h l;exact⟨o,e,λv z=>by rw[d]at z;cases z⟩
 keep:=λi h h' l k=>a i h h' l λo e=>k it (by simp) o e
 item:=by intro X F J D G i p s σ H E I r l S;subst F J D;obtain⟨t,u,R,y,B,C⟩:=r it (by simp);refine(W X.A<|I.ok.hd G).item i s _ _ S l λv h' M U q L=>?_;obtain⟨x,Z,Y⟩:=m i v U;have O:p7 X p σ H { s with heap:=h',toks:=M }:=I.turned (λb o f e=>L b o (by simpa using f) e) t u y B C;obtain⟨o,nm,vs,e,c,d,T⟩:=j _ _ q;exact⟨v,rfl,vB (s:={ s with heap:=h',toks:=M }) e c d T ⟨x,H,O,Z,⟨rfl,Y⟩,q,λb f=>(r b f).1⟩⟩
 done:=by intro X F J D G i p s σ H E I r l S;subst F J D;obtain⟨t,u,R,y,B,C⟩:=r it (by simp);have hi:i=n:=S;subst hi;exact(W X.A<|I.ok.hd G).done s _ _ l λh' M L=>⟨rfl,I.turned (λb o f e=>L b o (by simpa using f) e) t u y B C⟩
 self:=g
noncomputable def zh(x:b8):List D:=x.cps.toList.map λc=>.str ⟨#[c]⟩
structure OV where
 items:List D
 ok:tx->Prop
abbrev Ks:=SD->tx->(OV->tx->Prop)->Prop
structure KC(K:t6)(src:OV)(ρ0:List c6)(H0:Hp)(J:It):Prop where
 go:∀(i:Nat) ρ M H,u6 K ρ M H->Grow K ρ0 H0 ρ H->src.ok M->i<src.items.length->J.go i H
 yld:∀(i:Nat) ρ M H x H',u6 K ρ M H->Grow K ρ0 H0 ρ H->src.ok M->i<src.items.length->J.yld i H x H'->∃d ρ',src.items[i]?=a7 d/\u6 K ρ' M H'/\Grow K ρ H ρ' H'/\t5 K ρ' H' d x
 stop:∀(ρ:List c6) M H,u6 K ρ M H->Grow K ρ0 H0 ρ H->src.ok M->J.stop src.items.length H
def IQ(K:t6)(ρ:List c6)(H:Hp)(Q:OV->tx->Prop):It->Hp->Prop:=λJ H'=>∃src M a,u6 K a M H'/\Grow K ρ H a H'/\KC K src a H' J/\Q src M
def lowI(K:t6)(i:Ks):TI:=λσ H R=>∃S M ρ Q,u6 K ρ M H/\SRep K ρ H S σ/\i S M Q/\∀J H',IQ K ρ H Q J H'->R J H'
def DI(X:Cx)(g r:f6)(i:Ks):Prop:=PI X g r<|lowI X.K i
theorem KC.tup{K:t6}{ρ:List c6}{H:Hp}{a:c6}{vs:List V}{ds:List D}(h:A1 K H a vs)(r:Reps K ρ H ds vs)(q:∀ys,A1 K H a ys->ys=vs):KC K ⟨ds,λ_=>True⟩ ρ H (Pn K a) where
 go:=λi b M H' s g _ hi=>by
  have l:i<vs.length:=by rw[<-r.length];exact hi
  exact⟨vs,vs[i],g.tup a vs h,v4 l⟩
 yld:=λi b M H' x f s g _ hi y=>by obtain⟨rfl,y⟩:=y;obtain⟨d,c,e⟩:=(r.grow g).getV<|y vs<|g.tup a vs h;exact⟨d,b,c,s,.refl,e⟩
 stop:=λb M H' s g _=>⟨vs,g.tup a vs h,by rw[<-r.length];exact u5 _⟩
theorem KC.lst{K:t6}{ρ:List c6}{H:Hp}{n:Nat}{a:c6}{ds:List D}(e:ρ[n]?=a7 a):KC K ⟨ds,λM=>al M n ds⟩ ρ H (Po K a) where
 go:=λi b M H' s g ok hi=>by
  obtain⟨vs,h,r⟩:=al.seq s ok<|aq g.pre e;have l:i<vs.length:=by rw[<-r.length];exact hi
  exact⟨vs,vs[i],h,v4 l⟩
 yld:=λi b M H' x j s g ok hi y=>by obtain⟨rfl,y⟩:=y;obtain⟨vs,h,r⟩:=al.seq s ok<|aq g.pre e;obtain⟨d,c,f⟩:=r.getV<|y vs h;exact⟨d,b,c,s,.refl,f⟩
 stop:=λb M H' s g ok=>by obtain⟨vs,h,r⟩:=al.seq s ok<|aq g.pre e;exact⟨vs,h,by rw[<-r.length];exact u5 _⟩
theorem KC.plain{K:t6}{ρ:List c6}{H:Hp}{ds:List D}{J:It}(S:∀i H,i<ds.length->J.go i H)(Q:∀i H x H',i<ds.length->J.yld i H x H'->H'=H/\∃d,ds[i]?=a7 d/\cV d=a7 x)(hs:∀H,J.stop ds.length H):KC K ⟨ds,λ_=>True⟩ ρ H J where
 go:=λi a M H' s g _ hi=>S i H' hi
 yld:=λi a M H' x b s g _ hi y=>by obtain⟨rfl,d,h,c⟩:=Q i _ x b hi y;exact⟨d,a,h,s,.refl,AT c⟩
 stop:=λa M H' s g _=>hs H'
section
variable{X:Cx}{tg:f6}
def bp(te:u8):Ks:=λS M R=>te S M λd a=>match d with
 |.tup ds=>ds.length<=sizeLine->R ⟨ds,λ_=>True⟩ a
 |.str x=>R ⟨zh x,λ_=>True⟩ a
 |.ref n=>∃xs,al a n xs/\(xs.length<=sizeLine->R ⟨xs,λM=>al M n xs⟩ a)
 |_=>False
theorem JH(hl:DE X l tl):DI X tg l (bp tl):=by
 intro y s σ H R I h;obtain⟨S,M,ρ,Q,sm,sr,q,k⟩:=h;refine u9 (hl y s σ H _ I ⟨S,M,ρ,_,sm,sr,q,λv H' w=>w⟩) ?_;rintro u f ⟨v,F,g,V,d,G,D,j,g1,r1,C⟩;cases r1 with
 |non=>exact C.elim
 |bl b=>exact C.elim
 |int i=>exact C.elim
 |ty n=>exact C.elim
 |@tup a vs ds L r =>
  cases V;obtain⟨its,rr,p,U⟩:=g.tuple L;refine wpAny_pyIter_tuple (show f.heap.IsTuple a its.toArray from p) ?_;refine⟨f.heap.objs.size,[f.heap.objs.size],_,_,F,rfl,g.kept (t':=f.toks) λb o e=>v7 _ e,xu a _,⟨_,A8 _ rfl,rfl,rfl⟩,λb K=>?_,k _ F ⟨⟨ds,λ_=>True⟩,G,D,j,g1,KC.tup L r λys hy=>g.tuple_inj hy L,?_⟩⟩;have e:b=f.heap.objs.size:=by simpa using K
  subst e;exact g.fpOk (u5 _)<|g.hok.fresh<|u5 _;exact(show ds.length<=sizeLine->Q ⟨ds,λ_=>True⟩ G from C)<|by rw[r.length];exact U
 |@ref n a Z =>
  cases V;obtain⟨xs,hL,q2⟩:=(show ∃xs,al G n xs/\(xs.length<=sizeLine->Q ⟨xs,λM=>al M n xs⟩ G)from C)
  obtain⟨vs,L,r⟩:=al.seq j hL Z;obtain⟨its,rr,p,U⟩:=g.list L;refine wpAny_pyIter_list p.isList ?_;refine⟨f.heap.objs.size,[f.heap.objs.size],_,_,F,rfl,g.kept (t':=f.toks) λb o e=>v7 _ e,yE a _,⟨_,A8 _ rfl,rfl,rfl⟩,λb K=>?_,k _ F ⟨⟨xs,λM=>al M n xs⟩,G,D,j,g1,KC.lst Z,q2<|by rw[r.length];exact U⟩⟩;have e:b=f.heap.objs.size:=by simpa using K
  subst e;exact g.fpOk (u5 _)<|g.hok.fresh<|u5 _
 |str x =>
  obtain⟨t,rfl⟩:=V;have J:∀(B:String) (N:c7),(N.cls=.type B/\N.data=.fields #[.str x t,.int 0 0]) -> (∀O:d8,O.handled=a8->Walks X.prog X.w O f.heap.objs.size [f.heap.objs.size] [f.heap.objs.size] x.cps.size (SignAt x) (λi h=>h.IsStrIter f.heap.objs.size B x t i)) -> (∀(A:d8) (i:Nat) (s:d9) (Q:b7->d9->Prop) (E:b7->d9->Prop),s.heap.IsStrIter f.heap.objs.size B x t i->Q (.ref f.heap.objs.size) s->e8 (f7 X.prog X.w) A (i6<|.ref f.heap.objs.size) Q E s) -> ["enumerate","zip","dict_itemiterator","dict_reverseitemiterator","odict_iterator","itertools.zip_longest","itertools.pairwise"].contains B=bt->(f.heap.push N).IsStrIter f.heap.objs.size B x t 0 -> NW X y σ tg R (.ref f.heap.objs.size) { f with heap:=f.heap.push N }:=λB N ai W z T m=>by
   refine⟨f.heap.objs.size,[f.heap.objs.size],_,_,F,rfl,g.kept (t':=f.toks) λb o e=>v7 _ e,xt (PX:=λi v=>∃c,x.cps[i]?=a7 c/\v=.str ⟨#[c]⟩) _ _ _ _ W (λi v ⟨c,u,e1,e2⟩=>⟨.str ⟨#[c]⟩,⟨u,e2⟩,c,e1,rfl⟩) (λi h m=>?_) (λi h h' m k=>?_) z,m,λb K=>?_,k _ F ⟨⟨zh x,λ_=>True⟩,G,D,j,g1,KC.plain ?_ ?_ ?_,C⟩⟩;obtain⟨o,e,c,d⟩:=m;exact⟨o,B,_,e,c,d,T⟩;obtain⟨o,e,r⟩:=m;exact⟨o,k o e,r⟩;have e:b=f.heap.objs.size:=by simpa using K
   subst e;exact g.fpOk (u5 _)<|g.hok.fresh<|u5 _;intro i _ hi;simpa [zh]using hi;rintro i H x' H' _ ⟨rfl,c,e,rfl⟩;exact⟨rfl,.str ⟨#[c]⟩,by simp[zh,e],rfl⟩;intro H;simp[zh]
  cases Y:x.cps.all (· < 128);exact wpAny_pyIter_wide Y<|J _ _ ⟨rfl,rfl⟩ (λO P=>Walks.strWide P _ x t) (λ_ _ _ _ _ m h=>wpAny_pyIter_striter_wide m h) (by decide) ⟨_,A8 _ rfl,rfl,rfl⟩;exact wpAny_pyIter_ascii Y<|J _ _ ⟨rfl,rfl⟩ (λO P=>Walks.strAscii P _ x t) (λ_ _ _ _ _ m h=>wpAny_pyIter_striter_ascii m h) (by decide) ⟨_,A8 _ rfl,rfl,rfl⟩
noncomputable def gP(lo:Int)(n:Nat):List D:=(B9 n).map λi=>.int<|lo+((i:Nat):Int)
theorem KC.rng{K:t6}{ρ:List c6}{H:Hp}(lo:Int)(n:Nat):KC K ⟨gP lo n,λ_=>True⟩ ρ H (NX lo n):=by
 refine KC.plain (λi _ hi=>?_) (λi H x H' hi y=>?_) λH=>?_;show i<n;simpa [gP]using hi;obtain⟨e,rfl⟩:=y;have h:i<n:=by simpa [gP]using hi
 exact⟨e,.int<|lo+i,by simp[gP,h],rfl⟩;show n<=(gP lo n).length;simp[gP]
def cj(t:D9):Ks:=λS M R=>t S M λds a=>match ds with
 | [.int j]=>(-(2 ^ 62)<=j/\j<2 ^ 62)/\R ⟨gP 0 j.toNat,λ_=>True⟩ a
 |_=>False
theorem PI.imp(h:PI X tg iter t')(i:∀σ H R,t σ H R->t' σ H R):PI X tg iter t:=λp s σ H R I q=>h p s σ H R I<|i σ H R q
theorem AH(m:X.mg "range" = a8)(h:DA X [a] ta)(g:Gl X "range":=by rfl)(hs:ge [a] X.env=[(bt,eval a X.env)]:=by rfl):DI X tg (.Call (.Name "range" p) [a] [] pos) (cj ta):=by
 refine PI.imp (zp g m h hs) ?_;rintro σ H R ⟨S,M,ρ,Q,s,n,q,k⟩;refine⟨S,M,ρ,_,s,n,q,?_⟩;rintro vs e ⟨ds,f,d,l,g1,b,c⟩
 try dsimp only at c
 split at c;rename_i j;obtain⟨⟨h1,h2⟩,i⟩:=c
 first|have z:=Reps.inv_cons b|have z:=aw.inv_cons b
 clear b;obtain⟨_,_,rfl,r,t⟩:=z;cases r;cases t;exact⟨j,rfl,h1,h2,k _ e ⟨_,f,d,l,g1,KC.rng 0 j.toNat,i⟩⟩;exact c.elim
end
section
mutual
inductive C2(k:Nat):D->Prop
 |non:C2 k .non
 |bl (b:Bool):C2 k (.bl b)
 |int (i:Int):C2 k (.int i)
 |str (x:b8):C2 k (.str x)
 |ty (n:String):C2 k (.ty n)
 |tup {ds:List D} (h:Bels k ds):C2 k (.tup ds)
 |ref {n:Nat} (h:n<k):C2 k (.ref n)
inductive Bels(k:Nat):List D->Prop
 |nil:Bels k []
 |cons {d:D}{ds:List D} (h:C2 k d) (t:Bels k ds):Bels k (d::ds)
end
noncomputable def MO.items:MO->List D
 |.lst xs=>xs
 |.fz xs=>xs
 |.kl xs=>xs
 |.dct kvs=>kvs.map (·.2)
 |.dkt kvs=>kvs.map (·.2)
 |.dkq _ kvs=>kvs.map (·.2)
 |.fdc _ kvs=>kvs.map (·.2)
 |.dkm kvs=>kvs.map (·.2)
 |.tb _ _=>[]
 |.exc _=>[]
theorem t5.bel{K:t6}{ρ:List c6}{H:Hp}{d:D}{v:V}(h:t5 K ρ H d v):C2 ρ.length d:=t5.rec (motive_1:=λd v _=>C2 ρ.length d) (motive_2:=λds vs _=>Bels ρ.length ds) .non .bl .int .str .ty (λ_ _ r=>.tup r) (λh=>.ref (w6.mp h).1) .nil (λ_ _ h t=>.cons h t) h
theorem Reps.bel{K:t6}{ρ:List c6}{H:Hp}{ds:List D}{vs:List V}(h:Reps K ρ H ds vs):Bels ρ.length ds:=Reps.rec (motive_1:=λd v _=>C2 ρ.length d) (motive_2:=λds vs _=>Bels ρ.length ds) .non .bl .int .str .ty (λ_ _ r=>.tup r) (λh=>.ref (w6.mp h).1) .nil (λ_ _ h t=>.cons h t) h
theorem C2.inv(b:C2 k d):(∀ds,d=.tup ds->Bels k ds)/\∀n,d=.ref n->n<k:=by
 cases b with
 |tup b=>exact⟨(λ_ e=>by injection e with e;exact e ▸ b),(λ_ e=>by cases e)⟩
 |ref b=>exact⟨(λ_ e=>by cases e),(λ_ e=>by injection e with e;exact e ▸ b)⟩
 |_=>exact⟨(λ_ e=>by cases e),(λ_ e=>by cases e)⟩
theorem Bels.inv{k:Nat}{d:D}{ds:List D}(b:Bels k (d::ds)):C2 k d/\Bels k ds:=by
 cases b with
 |cons b c=>exact⟨b,c⟩
theorem t5.cut{K:t6}{ρ:List c6}{H:Hp}{k:Nat}{d:D}{v:V}(h:t5 K ρ H d v):C2 k d->t5 K (ρ.take k) H d v:=t5.rec (motive_1:=λd v _=>C2 k d->t5 K (ρ.take k) H d v) (motive_2:=λds vs _=>Bels k ds->Reps K (ρ.take k) H ds vs) (λ_=>.non) (λb _=>.bl b) (λb _=>.int b) (λb _=>.str b) (λb _=>.ty b) (λh _ r b=>.tup h<|r<|b.inv.1 _ rfl)
  (λh b=>.ref<|by rw[Mu<|b.inv.2 _ rfl];exact h) (λ_=>.nil) (λ_ _ h t b=>.cons (h b.inv.1)<|t b.inv.2) h
theorem Reps.cut{K:t6}{ρ:List c6}{H:Hp}{k:Nat}{ds:List D}{vs:List V}(h:Reps K ρ H ds vs):Bels k ds->Reps K (ρ.take k) H ds vs:=Reps.rec (motive_1:=λd v _=>C2 k d->t5 K (ρ.take k) H d v) (motive_2:=λds vs _=>Bels k ds->Reps K (ρ.take k) H ds vs) (λ_=>.non) (λb _=>.bl b) (λb _=>.int b) (λb _=>.str b) (λb _=>.ty b) (λh _ r b=>.tup h<|r<|b.inv.1 _ rfl)
  (λh b=>.ref<|by rw[Mu<|b.inv.2 _ rfl];exact h) (λ_=>.nil) (λ_ _ h t b=>.cons (h b.inv.1)<|t b.inv.2) h
theorem C2.mono{j k:Nat}(h:j<=k){d:D}(b:C2 j d):C2 k d:=C2.rec (motive_1:=λd _=>C2 k d) (motive_2:=λds _=>Bels k ds) .non .bl .int .str .ty (λ_ b=>.tup b) (λb=>.ref<|Kd b h) .nil (λ_ _ b c=>.cons b c) b
theorem Bels.mono{j k:Nat}(h:j<=k){ds:List D}(b:Bels j ds):Bels k ds:=Bels.rec (motive_1:=λd _=>C2 k d) (motive_2:=λds _=>Bels k ds) .non .bl .int .str .ty (λ_ b=>.tup b) (λb=>.ref<|Kd b h) .nil (λ_ _ b c=>.cons b c) b
theorem Bels.of:∀{xs:List D},(∀d∈xs,C2 k d)->Bels k xs
 | [],_=>.nil
 |d::ds,h=>.cons (h d D4)<|Bels.of λe he=>h e<|A2 _ he
section
variable{K:t6}{ρ ρ':List c6}{H H':Hp}{M M':tx}
theorem wN:∀(n:Nat) (d:D),cY n d=a9->C2 k d:=by
 intro n;induction n with
 |zero =>
  intro d h;cases d with
  |str x=>exact .str x
  |int x=>exact .int x
  |_=>cases h
 |succ n i =>
  intro d h;cases d with
  |str x=>exact .str x
  |int x=>exact .int x
  |tup ds=>exact .tup<|Bels.of λx a=>i x<|Fn.mp (show ds.all (cY n)=a9 from h) x a
  |_=>cases h
theorem zZ(r:Paired (yt K ρ H) kvs xs):Bels ρ.length (kvs.map (·.2)):=by
 induction r with
 |nil=>exact .nil
 |cons q _ i=>obtain⟨_,_,_,v,J,_⟩:=q;exact .cons J.bel i
theorem zY(r:Paired (yt K ρ H) kvs xs)(b:Bels k (kvs.map (·.2))):Paired (yt K (ρ.take k) H) kvs xs:=by
 induction r with
 |nil=>exact .nil
 |cons q _ i =>
  obtain⟨d,j,e,v,J,f⟩:=q;rw[A3]at b;cases b with
  |cons a c=>exact .cons ⟨d,j,e.cut<|wN _ _ j,v,J.cut a,f⟩<|i c
theorem Cs:∀(d:D),xW d=a9->C2 k d
 |.non,_=>.non
 |.tup ks,h=>wN 8 _ h
 |.bl _,h=>nomatch h
 |.int _,h=>nomatch h
 |.str _,h=>nomatch h
 |.ty _,h=>nomatch h
 |.ref _,h=>nomatch h
theorem Fp(r:Paired (KA K ρ H) kvs xs):Bels ρ.length (kvs.map (·.2)):=by
 induction r with
 |nil=>exact .nil
 |cons q _ i=>obtain⟨_,_,_,v,J,_⟩:=q;exact .cons J.bel i
theorem Fo(r:Paired (KA K ρ H) kvs xs)(b:Bels k (kvs.map (·.2))):Paired (KA K (ρ.take k) H) kvs xs:=by
 induction r with
 |nil=>exact .nil
 |cons q _ i =>
  obtain⟨d,j,⟨u,e,l⟩,v,J,f⟩:=q;rw[A3]at b;cases b with
  |cons a c=>exact .cons ⟨d,j,⟨u,e.cut<|Cs _ j,l⟩,v,J.cut a,f⟩<|i c
theorem yr.bels(h:yr K ρ H a mo):Bels ρ.length mo.items:=by
 cases mo with
 |lst ds=>obtain⟨vs,_,r⟩:=h;exact r.bel
 |fz ds=>obtain⟨o,vs,_,r⟩:=h;exact r.bel
 |kl ds=>obtain⟨vs,_,r⟩:=h;exact r.bel
 |dct s=>obtain⟨vs,_,r⟩:=h;exact r.bel
 |dkt s=>obtain⟨_,_,_,xs,_,r⟩:=h;exact zZ r
 |dkq _ s=>obtain⟨_,_,_,xs,_,r⟩:=h;exact zZ r
 |fdc o s=>obtain⟨vs,_,r⟩:=h;exact r.bel
 |dkm s=>obtain⟨_,_,_,xs,_,r⟩:=h;exact Fp r
 |tb x b=>exact .nil
 |exc x=>exact .nil
theorem yr.cut(h:yr K ρ H a mo)(b:Bels k mo.items):yr K (ρ.take k) H a mo:=by
 cases mo with
 |lst ds=>obtain⟨vs,e,r⟩:=h;exact⟨vs,e,r.cut b⟩
 |fz ds=>obtain⟨o,vs,e,r⟩:=h;exact⟨o,vs,e,r.cut b⟩
 |kl ds=>obtain⟨vs,e,r⟩:=h;exact⟨vs,e,r.cut b⟩
 |dct s=>obtain⟨vs,e,r⟩:=h;exact⟨vs,e,r.cut b⟩
 |dkt s=>obtain⟨h1,h2,c,xs,e,r⟩:=h;exact⟨h1,h2,c,xs,e,zY r b⟩
 |dkq _ s=>obtain⟨h1,h2,c,xs,e,r⟩:=h;exact⟨h1,h2,c,xs,e,zY r b⟩
 |fdc o s=>obtain⟨vs,e,r⟩:=h;exact⟨vs,e,r.cut b⟩
 |dkm s=>obtain⟨h1,h2,c,xs,e,r⟩:=h;exact⟨h1,h2,c,xs,e,Fo r b⟩
 |tb x b=>exact h
 |exc x=>exact h
theorem u6.bels(S:u6 K ρ M H){n:Nat}{mo:MO}(e:M[n]?=a7 mo):Bels M.length mo.items:=by obtain⟨a,_,h⟩:=S.get e;rw[<-S.len];exact h.bels
theorem u6.cut(S:u6 K ρ M H)(k:Nat)(d:∀(n:Nat) (mo:MO),n<k->M[n]?=a7 mo->Bels k mo.items):u6 K (ρ.take k) (M.take k) H:=by
 have lt:∀{n:Nat}{a:c6},(ρ.take k)[n]?=a7 a->n<k/\ρ[n]?=a7 a:=λ{n a} e=>by
  have h1:=(w6.mp e).1;rw[J1]at h1;have h2:n<k:=by lia
  rw[Mu h2]at e;exact⟨h2,e⟩
 refine⟨λn m a h t b=>?_,by rw[J1,J1,S.len],λn a mo t b=>?_⟩;obtain⟨l,r⟩:=lt t;obtain⟨c,N⟩:=lt b;rw[Mu l,Mu c];exact S.nd n m a h r N;obtain⟨l,r⟩:=lt t;rw[Mu l]at b;exact(S.obj n a mo r b).cut<|d n mo l b
theorem SRep.cut(r:SRep K ρ H S σ)(g:S'.length=S.length)(h:∀(i:Nat) d,S'[i]?=a7 (a7 d)->S[i]?=a7 (a7 d)/\C2 k d):SRep K (ρ.take k) H S' σ:=⟨g.trans r.len,λi d e=>let ⟨e',b⟩:=h i d e;let ⟨v,hv,rv⟩:=r.get i d e';⟨v,hv,rv.cut b⟩⟩
theorem Grow.cut(g:Grow K ρ H ρ' H')(h:ρ.length<=k):Grow K ρ H (ρ'.take k) H':=by refine⟨?_,g.tup⟩;obtain⟨t,rfl⟩:=g.pre;rw[List.take_append];rw[NL h];exact Kq _ _
end
inductive FgtS(k:Nat):SD->SD->Prop
 |nil:FgtS k [] []
 |keep {d:D}{S S':SD} (h:C2 k d) (t:FgtS k S S'):FgtS k (a7 d::S) (a7 d::S')
 |drop {o:Option D}{S S':SD} (t:FgtS k S S'):FgtS k (o::S) (a8::S')
theorem FgtS.len(h:FgtS k S S'):S'.length=S.length:=by
 induction h with
 |nil=>rfl
 |keep _ _ i=>rw[C7,C7,i]
 |drop _ i=>rw[C7,C7,i]
theorem FgtS.get(h:FgtS k S S'):∀(i:Nat) d,S'[i]?=a7 (a7 d)->S[i]?=a7 (a7 d)/\C2 k d:=by
 induction h with
 |nil=>intro i d e;simp at e
 |keep b _ a =>
  intro i d e;cases i with
  |zero=>simp at e;subst e;exact⟨rfl,b⟩
  |succ i=>exact a i d<|by simpa using e
 |drop _ a =>
  intro i d e;cases i with
  |zero=>simp at e
  |succ i=>exact a i d<|by simpa using e
def A4(a:tx)(P:SD->tx->Prop)(S:SD)(M:tx):Prop:=P S M\/(∃k b,a.length<=k/\FgtS k S b/\(∀(n:Nat) mo,n<k->M[n]?=a7 mo->Bels k mo.items)/\P b (M.take k))\/∃b,FgtS a.length S b/\a <+: M/\P b a
theorem Bv{α:Type}{l l':List α}(h:l <+: l'):l'.take l.length=l:=by obtain⟨t,rfl⟩:=h;rw[List.take_append_of_le_length<|u5 _,K8]
theorem SQ.fgt{K:t6}{ρ:List c6}{H:Hp}{M:tx}{P:SD->tx->Prop}{c:St}{H':Hp}(s0:u6 K ρ M H)(h:SQ K ρ H (A4 M P) c H'):SQ K ρ H P c H':=by
 have f:ρ.length<=M.length:=by rw[s0.len];exact u5 _
 obtain⟨i,d,b,s',g,a,j⟩:=h;rcases j with j|⟨k,S,h1,h2,l,q⟩|⟨S,h2,p,q⟩
 exact⟨i,d,b,s',g,a,j⟩;exact⟨S,d.take k,b.take k,s'.cut k l,g.cut<|G1 f h1,a.cut h2.len h2.get,q⟩;have s:=s'.cut M.length λn o m e=>by obtain⟨t,rfl⟩:=p;rw[J5 m]at e;exact s0.bels e
 rw[Bv p]at s;exact⟨S,M,b.take M.length,s,g.cut f,a.cut h2.len h2.get,q⟩
def tZ(ok:tx->Prop)(g:G4)(tb:p9)(E:DEnds)(k0:tx):List D->SD->tx->Prop
 | [],S,M=>ok M/\E.nx S M
 |x::xs,S,M=>ok M/\g x S M λS2 M2=>tb ⟨A4 k0<|tZ ok g tb E k0 xs,E.rt,E.nx,A4 k0<|tZ ok g tb E k0 xs⟩ S2 M2
def kW(i:Ks)(g:G4)(b:p9):p9:=λE S M=>i S M λsrc a=>tZ src.ok g b E a src.items S a
theorem tV{α:Type}{l:List α}{i:Nat}{x:α}(h:l[i]?=a7 x):l.drop i=x::l.drop (i+1):=by obtain⟨hi,e⟩:=w6.mp h;rw[NN hi,e]
theorem Ce{K:t6}{P:Ks}{g:G4}{u:p9}(E:Ends)(σ:St)(H:Hp)(h:lowS K (kW P g u) E σ H):tFor (lowI K P) (lowG K g) (lowS K u) E σ H:=by
 obtain⟨S,M,ρ,F,s,U,q,k⟩:=h;refine⟨S,M,ρ,_,s,U,q,?_⟩;rintro J C ⟨src,o,f,T,g1,it,q1⟩;have D:=k.trans g1;refine⟨λi m τ j=>∃c M2 a,u6 K a M2 j/\Grow K f C a j/\SRep K a j c τ/\i<=src.items.length/\m=src.items.length-i/\tZ src.ok g u F o (src.items.drop i) c M2,⟨_,S,o,f,T,.refl,U.grow g1,w4 _,rfl,q1⟩,?_⟩;rintro i m τ j ⟨c,M2,a,B,p,r,hi,rfl,A⟩;by_cases t:i<src.items.length;have Q:src.items[i]?=a7 src.items[i]:=v4 t;rw[tV Q]at A;obtain⟨ok,G⟩:=(show src.ok M2/\g src.items[i] c M2 _ from A)
 refine .inr ⟨it.go i a M2 j B p ok t,_,λai H' z=>z,λx V y=>?_⟩;obtain⟨d,N,hd,s3,g3,r3⟩:=it.yld i a M2 j x V B p ok t y;have ed:d=src.items[i]:=C4<|hd.symm.trans Q;subst ed;refine⟨_,c,M2,N,_,s3,r.grow g3,r3,G,?_⟩;rintro aj W ⟨S4,X,w,s4,g4,I,q4⟩;have l:=(p.trans g3).trans g4;refine⟨S4,X,w,_,s4,I,q4,?_⟩;have n:∀b Y,SQ K w W (A4 o<|tZ src.ok g u F o<|src.items.drop<|i+1) b Y -> ∃R,R < src.items.length-i/\∃c M2 a,u6 K a M2 Y/\Grow K f C a Y/\SRep K a Y c b/\i+1<=src.items.length/\R=src.items.length-(i+1)/\tZ src.ok g u F o (src.items.drop<|i+1) c M2:=λb Y z=>by obtain⟨S5,Z,O,s5,g5,L,q5⟩:=SQ.fgt (ρ:=f) (H:=C) T<|SQ.trans l z;exact⟨_,by lia,S5,Z,O,s5,g5,L,t,rfl,q5⟩
 exact⟨n,λv Y z=>D.rt v Y<|VQ.trans l z,λb Y z=>D.nx b Y<|SQ.trans l z,n⟩;have e:i=src.items.length:=by lia
 subst e;rw[List.drop_of_length_le<|u5 _]at A;obtain⟨ok,G⟩:=(show src.ok M2/\F.nx c M2 from A)
 exact .inl ⟨it.stop a M2 j B p ok,D.nx τ j ⟨c,M2,a,B,p,r,G⟩⟩
section
variable{X:Cx}
theorem JE(hi:DI X tg iter di)(S:DG X tg g)(d:K3 X body tb)(p:PassesOwn (f7 X.prog X.w) X.A X.env X.xe:=by exact PassesOwn.never)(f:X.calm=a9:=by rfl)(hs:∀x,i8 iter X.env x=pure x:=by intro _;rfl):DS X (.For tg iter body [] pos) (kW di g tb):=PS.imp (Hu p f hi S d hs) Ce
noncomputable def JL(t:Nat)(s:List Nat)(S:SD):SD:=Nt t a8++s.map λj=>(S[j]?).join
def oj(ok:tx->Prop)(g:G4)(tt:E8)(te:u8)(Q:DK):List D->List D->SD->tx->Prop
 | [],acc,S,M=>ok M/\Q (.ref M.length) (M++[.lst acc])
 |x::xs,acc,S,M=>ok M/\g x S M λS2 M2=>tt S2 M2 λb M3=>if b=a9 then te S2 M3 λy M4=>acc.length<sizeLine/\oj ok g tt te Q xs (acc++[y]) S2 M4 else oj ok g tt te Q xs acc S2 M3
def D1(t:Nat)(s:List Nat)(i:Ks)(g:G4)(tt:E8)(te:u8):u8:=λS M Q=>i S M λsrc a=>oj src.ok g tt te Q src.items [] (JL t s S) a
theorem SRep.bst{K:t6}{ρ:List c6}{H:Hp}{S:SD}{σ:St}(r:SRep K ρ H S σ)(t:Nat)(s:List Nat):SRep K ρ H (JL t s S) (L2.bst t s σ):=by
 refine⟨by simp[JL,AV],λi d e=>?_⟩;unfold JL at e;unfold L2.bst;by_cases hi:i<t;rw[J5 (by simpa using hi),OD]at e;simp[hi]at e;rw[Kz (by simpa using Lf.mp hi),Ox,C8]at e;rw[Kz (by simpa using Lf.mp hi),Ox,C8];cases q:s[i-t]? with
 |none=>rw[q]at e;cases e
 |some j =>
  rw[q]at e;have a:(S[j]?).join=a7 d:=by simpa using e
  cases b:S[j]? with
  |none=>rw[b]at a;cases a
  |some o=>rw[b]at a;have m:o=a7 d:=a;subst m;obtain⟨v,c,f⟩:=r.get j d b;exact⟨v,by simp[c],f⟩
theorem zO{K:t6}{D:Nat}{C:List Nat}{T:Ks}{g:G4}{tt:E8}{te:u8}(σ:St)(H:Hp)(R:VK)(h:lowE K (D1 D C T g tt te) σ H R):OO D C (lowI K T) (lowG K g) (lowT K tt) (lowE K te) σ H R:=by
 obtain⟨S,M,ρ,Q,s,W,q,k⟩:=h;refine⟨S,M,ρ,_,s,W,q,?_⟩;rintro J X ⟨src,M1,r,s1,g1,it,q1⟩;refine⟨λi m vs τ c=>∃l M2 a acc,u6 K a M2 c/\Grow K r X a c/\SRep K a c l τ/\Reps K a c acc vs/\i<=src.items.length/\m=src.items.length-i/\oj src.ok g tt te Q (src.items.drop i) acc l M2,⟨_,_,M1,r,[],s1,.refl,(W.grow g1).bst D C,.nil,w4 _,rfl,q1⟩,?_⟩;rintro i m vs τ c ⟨l,M2,a,acc,z,o,G,w,hi,rfl,u⟩;by_cases t:i<src.items.length;have U:src.items[i]?=a7 src.items[i]:=v4 t;rw[tV U]at u;obtain⟨ok,E⟩:=(show src.ok M2/\g src.items[i] l M2 _ from u)
 refine .inr ⟨it.go i a M2 c z o ok t,λx Y y=>?_⟩;obtain⟨d,L,hd,s3,g3,r3⟩:=it.yld i a M2 c x Y z o ok t y;have ed:d=src.items[i]:=C4<|hd.symm.trans U;subst ed;refine⟨_,l,M2,L,_,s3,G.grow g3,r3,E,?_⟩;rintro ai H4 ⟨f,M4,N,s4,A,I,q4⟩;refine⟨f,M4,N,_,s4,I,q4,?_⟩;rintro b H5 ⟨Z,O,s5,j,V⟩;have n:=((o.trans g3).trans A).trans j;cases b with
 |false=>exact cP ⟨_,by lia,f,Z,O,acc,s5,n,I.grow j,w.grow<|(g3.trans A).trans j,t,rfl,(show oj src.ok g tt te Q (src.items.drop<|i+1) acc f Z from V)⟩
 |true=>refine dI ⟨f,Z,O,_,s5,I.grow j,(show te f Z _ from V),?_⟩;rintro v H6 ⟨y',M6,P,s6,B,r6,hl,q6⟩;have F:=w.grow<|((g3.trans A).trans j).trans B;exact⟨by rw[<-w.length];exact hl,_,by lia,f,M6,P,acc++[y'],s6,n.trans B,I.grow<|j.trans B,F.append<|.cons r6 .nil,t,rfl,q6⟩
 have e:i=src.items.length:=by lia
 subst e;rw[List.drop_of_length_le<|u5 _]at u;obtain⟨ok,E⟩:=(show src.ok M2/\Q (.ref M2.length) (M2++[.lst acc])from u)
 exact .inl ⟨it.stop a M2 c z o ok,λp hp=>k _ _<|VQ.laidL z (g1.trans o) w hp E⟩
theorem d_lc(B:BlkSc X N' nt js scope)(hi:DI X tg iter di)(S:∀cl s0 H0 ex,DG (z6 X N' scope cl s0 H0 ex) tg g) (E:∀cl s0 H0 ex,Le (z6 X N' scope cl s0 H0 ex) ifs<|lowT X.K tt) (i:∀cl s0 H0 ex,DE (z6 X N' scope cl s0 H0 ex) elt te) (f:X.calm=a9:=by rfl)(hs:∀x,i8 iter X.env x=pure x:=by intro _;rfl):DE X (.ListComp elt [⟨tg,iter,ifs,0⟩] scope pos) (D1 nt js di g tt te):=PE.imp (pe_lc (g:=lowG X.K g) (tt:=lowT X.K tt) (te:=lowE X.K te) B f hi (λcl s0 H0 ex=>S cl s0 H0 ex) E (λcl s0 H0 ex=>i cl s0 H0 ex) hs) zO
def nL:E8:=λ_ M Q=>Q a9 M
theorem Ga:Le X [] (lowT X.K nL):=λp s σ H R I ⟨S,M,ρ,Q,m,c,q,k⟩=>EB p s σ H R I<|k a9 H ⟨M,ρ,m,.refl,q⟩
theorem FZ(h:DT X c t):Le X [c] (lowT X.K t):=EA h
end
def Nl(M a:tx):Prop:=a.length=M.length/\∀(i:Nat) (b:MO),a[i]?=a7 b->M[i]?=a7 b\/Bels M.length b.items
theorem Nl.refl:Nl M M:=⟨rfl,λ_ _ h=>.inl h⟩
def aO(M:tx)(R:DK):DK:=λd b=>R d b\/(∃a,Nl M a/\C2 M.length d/\a <+: b/\R d a)\/∃a n xs,Nl M a/\d=.ref n/\M.length<=n/\b[n]?=a7 (.lst xs)/\a <+: b/\Bels M.length xs/\R (.ref M.length) (a++[.lst xs])
theorem dS{α:Type}{l l':List α}(h:l <+: l'):l'.take l.length=l:=by obtain⟨t,rfl⟩:=h;rw[List.take_append_of_le_length<|u5 _,K8]
theorem VQ.endq{K:t6}{ρ:List c6}{M:tx}{H:Hp}{R:DK}{v:V}{H':Hp}(s:u6 K ρ M H)(h:VQ K ρ H (aO M R) v H'):VQ K ρ H R v H':=by
 obtain⟨d,D,C,s',w,r',Y⟩:=h;have j:C.take M.length=ρ:=by rw[<-s.len];exact dS w.pre
 rcases Y with q|⟨g,c,b,f,q⟩|⟨g,n,xs,c,rfl,X,e,f,b,q⟩
 exact⟨d,D,C,s',w,r',q⟩;have i:=s'.cut M.length λn o u e=>by
  have F:g[n]?=a7 o:=by obtain⟨t,rfl⟩:=f;rw[J5<|by rw[c.1];exact u]at e;exact e
  exact(c.2 n o F).elim (λz=>s.bels z) id
 have O:D.take M.length=g:=by rw[<-c.1];exact dS f
 rw[j,O]at i;have B:=r'.cut b;rw[j]at B;exact⟨d,g,ρ,i,⟨Lx,w.tup⟩,B,q⟩;have i:=s'.cut M.length λn o u e=>by
  have F:g[n]?=a7 o:=by obtain⟨t,rfl⟩:=f;rw[J5<|by rw[c.1];exact u]at e;exact e
  exact(c.2 n o F).elim (λz=>s.bels z) id
 have O:D.take M.length=g:=by rw[<-c.1];exact dS f
 rw[j,O]at i;obtain⟨a,rfl,u⟩:=t5.inv_ref r';obtain⟨vs,U,Z⟩:=s'.obj n a _ u e;have B:=Z.cut b;rw[j]at B;have Q:Grow K ρ H' (ρ++[a]) H':=⟨Kq _ _,λ_ _ h=>h⟩
 have A:∀(m:Nat),ρ[m]?=a7 a->Kr g[m]?:=λm I=>by
  have W:m≠n:=λz=>by
   have:m<M.length:=by rw[<-s.len];exact(w6.mp I).1
   lia
  have q:=s'.nd m n a W (aq w.pre I) u;have J:m<M.length:=by rw[<-s.len];exact(w6.mp I).1
  rcases q with⟨ds,z⟩|⟨ds,z⟩
  refine⟨ds,?_⟩;have l:m<g.length:=by rw[c.1];exact J
  have:=aq f<|v4 l;rw[z]at this;rw[v4 l];exact this.symm;rw[e]at z;cases z
 refine⟨.ref M.length,g++[.lst xs],ρ++[a],⟨λy S E x G k=>?_,by rw[x5,x5,i.len];rfl,λy E o G k=>?_⟩,⟨Kq _ _,w.tup⟩,.ref (by have:=i.last (p:=a);rw[c.1]at this;exact this),q⟩;rcases aW G with r|⟨r,P⟩
 rcases aW k with N|⟨N,T⟩
 exact(i.nd y S E x r N).elim (λz=>.inl z.more) λz=>.inr z.more;subst T;exact .inl (A y r).more;rcases aW k with N|⟨N,T⟩
 subst P;exact .inr (A S N).more;exact o0 (r.trans N.symm) x;rcases aW G with r|⟨r,P⟩
 have L:y<g.length:=by rw[<-i.len];exact(w6.mp r).1
 rw[J5 L]at k;exact(i.obj y E o r k).grow Q<|.inl rfl;subst P r;rw[i.len,Kz<|u5 _,Li]at k;simp at k;subst k;exact⟨vs,U,B.grow Q⟩
noncomputable def eJ(N:List b8)(ds:List D):SD:=ds.map a7++Nt (N.length-ds.length) a8
theorem SRep.start{K:t6}{ρ:List c6}{H:Hp}{ds:List D}{vs:List V}(r:Reps K ρ H ds vs)(N:List b8):SRep K ρ H (eJ N ds) (L2.start N vs):=by
 refine⟨by simp[eJ,L2.start,r.length],λi d e=>?_⟩;unfold eJ at e;unfold L2.start;by_cases hi:i<ds.length;rw[J5 (by simpa using hi),C8]at e;rw[J5 (by simpa [<-r.length]using hi),C8];have a:ds[i]?=a7 d:=by rw[v4 hi]at e ⊢;simpa using e
 obtain⟨v,c,b⟩:=r.get a;exact⟨v,by rw[c];rfl,b⟩;rw[Kz (by simpa using Lf.mp hi),OD]at e;split at e<;>cases e
theorem d_fn{P:c5}{w:b9}{K:t6}{mg:b8->Option b7}{base:c8}{x l:b8}{st:g7}{f:c6}{e:j3}{N ps:List b8}{k:Nat}(d:v6)(F:KO K x l st f e)(i:FnScope N ps (au st))(B:∀ds M R,d ds M R->ds.length=ps.length)(y:∀(cdv:b7) (A:d8) (outer:List Env) (s:d9) (H:Hp) (E:XK),Room k (A.deeper<|j7 l (au st) s.heap.objs.size f cdv) -> ∃t,K3 (yq I0 P w K mg base N l (au st) f cdv A outer s H E).nox (cg st) t/\∀ds M R,d ds M R->t ⟨λ_ M'=>aO M R .non M',aO M R,λ_ _=>False,λ_ _=>False⟩ (eJ N ds) M):FnOk P w K mg base I0 (k+1) f e ps (KL K d):=by refine F.ok i (λvs H Q E ⟨ds,M,ρ,R,s,r,q,_⟩=>by rw[<-r.length];exact B ds M R q) λcdv A outer s H vs Q E o h=>?_;obtain⟨ds,M,ρ,R,m,r,q,D⟩:=h;obtain⟨t,p,n⟩:=y cdv A outer s H E o;refine⟨lowS K t,p,eJ N ds,M,ρ,_,m,SRep.start r N,n ds M R q,⟨λc H' ⟨S,M',a,s',g,b,j⟩=>?_,λv H' z=>D v H'<|VQ.endq m z,λc H' ⟨S,M',a,s',g,b,j⟩=>j.elim,λc H' ⟨S,M',a,s',g,b,j⟩=>j.elim⟩⟩;exact D .non H'<|VQ.endq m ⟨.non,M',a,s',g,.non,j⟩
end
section
variable{X:Cx}
theorem dfin(I:p7 X pins σ H s)(m:u6 X.K ρ M H)(k:∀v H',VQ X.K ρ H Q v H'->R v H')(c:cV d=a7 v)(l:aN v u)(q:Q d M):EP X pins σ R u s:=⟨v,H,I,l,k v H<|VQ.now m (AT c) q⟩
theorem fR(I:p7 X pins σ H s)(m:u6 X.K ρ M H)(k:∀v H',VQ X.K ρ H Q v H'->R v H')(q:Q (.bl b) M):EP X pins σ R (.bool b) s:=⟨.bl b,H,I,rfl,k _ H<|VQ.now m (.bl b) q⟩
def qAdd:E1:=λx y M Q=>match x,y with
 |.int i,.int j=>Q (.int<|i+j) M
 |.str a,.str b=>a.length+b.length<=sizeLine/\Q (.str<|a++b) M
 |.ref n,.ref m=>∃xs ys,M[n]?=a7 (.lst xs)/\M[m]?=a7 (.lst ys)/\xs.length+ys.length<=sizeLine/\Q (.ref M.length) (M++[.lst<|xs++ys])
 |_,_=>False
theorem Io:E6 X (i9 .Add) qAdd:=by refine C1.imp (Ic.or<|xD.or Ib) ?_;rintro v b H R ⟨x,y,M,ρ,Q,m,r,a,q,k⟩;unfold qAdd at q;split at q;cases r;cases a;exact .inl ⟨_,_,rfl,rfl,k _ H<|VQ.now m (.int _) q⟩;cases r;cases a;exact .inr<|.inl ⟨_,_,rfl,rfl,q.1,k _ H<|VQ.now m (.str _) q.2⟩;obtain⟨xs,ys,t,e,g,q⟩:=q;obtain⟨_,rfl,h1⟩:=t5.inv_ref r;obtain⟨_,rfl,h2⟩:=t5.inv_ref a;obtain⟨vs,f,g1⟩:=m.obj _ _ _ h1 t;obtain⟨s,N,i⟩:=m.obj _ _ _ h2 e;exact .inr<|.inr ⟨_,_,vs,s,rfl,rfl,f,N,by rw[<-g1.length,<-i.length];exact g,λp h=>k _ _<|VQ.laidL m .refl (g1.append i) h q⟩;exact q.elim
def GC:E1:=λx y M Q=>match x,y with
 |.int i,.int j=>Q (.int<|i-j) M
 |_,_=>False
theorem Ii:E6 X (i9 .Sub) GC:=by refine C1.imp HU ?_;rintro f g H R ⟨x,y,M,ρ,Q,s,r,m,q,k⟩;unfold GC at q;split at q;cases r;cases m;exact⟨_,_,rfl,rfl,k _ H<|VQ.now s (.int _) q⟩;exact q.elim
def ur(i j:Int):Prop:=0<j/\j<340282366920938463463374607431768211456
theorem BM:C1 X (i9 .FloorDiv) (rI ur λi j=>.int<|i / j):=MZ λi j _ _ _ _ _ f q=>by have h1:(0:Int)<j:=f.1;have h2:j<340282366920938463463374607431768211456:=f.2;have a:j.natAbs.log2<128:=(Nat.log2_lt<|by lia).mpr (by rw[show (2:Nat) ^ 128=340282366920938463463374607431768211456 by decide];lia);exact floordiv_int (by lia) (by rw[Int.fdiv_eq_ediv_of_nonneg i<|by lia];exact q)<|.inl<|PyProof.noPylong_of_log2<|by lia
def aJ:E1:=λx y M Q=>match x,y with
 |.int i,.int j=>ur i j/\Q (.int<|i / j) M
 |_,_=>False
theorem Fa:E6 X (i9 .FloorDiv) aJ:=by refine C1.imp BM ?_;rintro f g H R ⟨x,y,M,ρ,Q,s,r,m,q,k⟩;unfold aJ at q;split at q;cases r;cases m;exact⟨_,_,rfl,rfl,q.1,k _ H<|VQ.now s (.int _) q.2⟩;exact q.elim
def cx:E1:=λx y M Q=>match x,y with
 |.int i,.int j=>0<j/\Q (.int<|i % j) M
 |_,_=>False
theorem Il:E6 X (i9 .Mod) cx:=by refine C1.imp Ia ?_;rintro f g H R ⟨x,y,M,ρ,Q,s,r,m,q,k⟩;unfold cx at q;split at q;cases r;cases m;exact⟨_,_,rfl,rfl,q.1,k _ H<|VQ.now s (.int _) q.2⟩;exact q.elim
noncomputable def mn(a b:b8):Bool:=decide<|a.cps.toList<b.cps.toList
def KM:E1:=λx y M Q=>match x,y with
 |.int i,.int j=>Q (.bl<|decide<|i<j) M
 |.str a,.str b=>Q (.bl<|mn a b) M
 |_,_=>False
def MW:E1:=λx y M Q=>match x,y with
 |.int i,.int j=>Q (.bl<|decide<|i<=j) M
 |.str a,.str b=>Q (.bl<|!mn b a) M
 |_,_=>False
def Lq:E1:=λx y M Q=>match x,y with
 |.int i,.int j=>Q (.bl<|decide<|j<i) M
 |.str a,.str b=>Q (.bl<|mn b a) M
 |_,_=>False
def MY:E1:=λx y M Q=>match x,y with
 |.int i,.int j=>Q (.bl<|decide<|j<=i) M
 |.str a,.str b=>Q (.bl<|!mn a b) M
 |_,_=>False
theorem od_lt:E6 X (j0 .Lt) KM:=by rintro p s σ H f b v u R I g i ⟨x,y,M,ρ,Q,a,r,m,q,k⟩;unfold KM at q;split at q;cases r;cases m;exact op_lt p s σ H _ _ v u R I g i ⟨_,_,rfl,rfl,k _ H<|VQ.now a (.bl _) q⟩;cases r;cases m;obtain⟨t,rfl⟩:=g;obtain⟨t',rfl⟩:=i;exact PySem.P.lt_str<|fR I a k q;exact q.elim
theorem od_le:E6 X (j0 .LtE) MW:=by rintro p s σ H f b v u R I g i ⟨x,y,M,ρ,Q,a,r,m,q,k⟩;unfold MW at q;split at q;cases r;cases m;exact op_le p s σ H _ _ v u R I g i ⟨_,_,rfl,rfl,k _ H<|VQ.now a (.bl _) q⟩;cases r;cases m;obtain⟨t,rfl⟩:=g;obtain⟨t',rfl⟩:=i;exact PySem.P.le_str<|fR I a k q;exact q.elim
theorem od_gt:E6 X (j0 .Gt) Lq:=by rintro p s σ H f b v u R I g i ⟨x,y,M,ρ,Q,a,r,m,q,k⟩;unfold Lq at q;split at q;cases r;cases m;exact op_gt p s σ H _ _ v u R I g i ⟨_,_,rfl,rfl,k _ H<|VQ.now a (.bl _) q⟩;cases r;cases m;obtain⟨t,rfl⟩:=g;obtain⟨t',rfl⟩:=i;exact PySem.P.gt_str<|fR I a k q;exact q.elim
theorem od_ge:E6 X (j0 .GtE) MY:=by rintro p s σ H f b v u R I g i ⟨x,y,M,ρ,Q,a,r,m,q,k⟩;unfold MY at q;split at q;cases r;cases m;exact op_ge p s σ H _ _ v u R I g i ⟨_,_,rfl,rfl,k _ H<|VQ.now a (.bl _) q⟩;cases r;cases m;obtain⟨t,rfl⟩:=g;obtain⟨t',rfl⟩:=i;exact PySem.P.ge_str<|fR I a k q;exact q.elim
def MX:E1:=λx y M Q=>match x,y with
 |.bl a,.bl b=>Q (.bl<|a==b) M
 |.non,.non=>Q (.bl a9) M
 |_,.non=>Q (.bl bt) M
 |_,_=>False
theorem Ep{K:t6}{ρ:List c6}{H:Hp}{x:D}{v:V}(r:t5 K ρ H x v)(h:x≠.non):v≠.non:=by cases r<;>first|exact o0 rfl h|(intro z;cases z)
theorem od_is:E6 X (j0 .Is) MX:=by
 rintro p s σ H f b v u R I g i ⟨x,y,M,ρ,Q,a,r,m,q,k⟩;unfold MX at q;split at q;cases r;cases m;cases g;cases i;exact is_bool<|fR I a k q;cases r;cases m;cases g;cases i;exact is_none_gen<|dfin (d:=.bl a9) I a k rfl rfl q;rename_i h1 h2;cases m;cases i;refine is_none_gen<|dfin (d:=.bl bt) I a k rfl ?_ q;have:=Ep r λz=>by subst z;exact h2 rfl
 rw[g.none_iff,dF_ this];rfl;exact q.elim
noncomputable def C9(M:tx):D->String
 |.non=>"NoneType"
 |.bl _=>"bool"
 |.int _=>"int"
 |.str _=>"str"
 |.ty _=>"type"
 |.tup _=>"tuple"
 |.ref n=>match M[n]? with
  |some mo=>if mo.isL=a9 then "list" else "?"
  |none=>"?"
noncomputable def DO(t T:String):Bool:=t==T||(t == "bool" && T == "int")
noncomputable def uv:List String:=["NoneType","bool","int","str","list","tuple"]
noncomputable def GP:List String:=["bool","int","str","list","tuple"]
theorem Fx(K:t6)(E:t∈uv)(n:T∈GP):N3 K (.type t) (.type T)=a7 (DO t T):=by simp only[uv,GP,z5,List.not_mem_nil,or_false]at E n;rcases E with rfl|rfl|rfl|rfl|rfl|rfl<;>rcases n with rfl|rfl|rfl|rfl|rfl<;>kernel_rfl
theorem DN(I:p7 X pins σ H s)(k:u6 X.K ρ M H)(r:t5 X.K ρ H d v)(g:aN v u)(j:C9 M d∈uv)(L:∀(Hx:c8->Prop),PySem.W.KitX X.K u (.type<|C9 M d) Hx->Hx s.heap->u≠.builtin "__main__.__loader__#opaque"->e8 (f7 X.prog X.w) X.A (call (.builtin "isinstance") [u,c]) Q X.xe s):e8 (f7 X.prog X.w) X.A (call (.builtin "isinstance") [u,c]) Q X.xe s:=by
 cases r with
 |non=>cases g;exact L _ PySem.W.kitx_none LK<|λz=>nomatch z
 |bl y=>cases g;exact L _ PySem.W.kitx_bool LK<|λz=>nomatch z
 |int i=>obtain⟨t,rfl⟩:=g;exact L _ PySem.W.kitx_int LK<|λz=>nomatch z
 |str i=>obtain⟨t,rfl⟩:=g;exact L _ PySem.W.kitx_str LK<|λz=>nomatch z
 |ty n=>exact o0 j<|by simp only[C9];decide
 |tup h rr=>cases g;obtain⟨its,_,⟨o,h1,h2,_⟩,_⟩:=I.tuple h;exact L _ PySem.W.kitx_tuple ⟨o,h1,h2⟩<|λz=>nomatch z
 |@ref n a e =>
  cases g;have B:n<M.length:=by rw[<-k.len];exact(w6.mp e).1
  have m:M[n]?=a7 M[n]:=v4 B;have f:(match M[n]? with|some mo=>if mo.isL=a9 then "list" else "?" |none=>"?")∈uv:=j;rw[m]at f;have l:M[n].isL=a9:=by
   cases q:M[n].isL with
   |true=>rfl
   |false=>simp only[q,x3,o6]at f;exact o0 f<|by decide
  have p:al M n M[n].items:=by
   cases q:M[n] with
   |lst xs=>exact .inl<|by rw[m,q];rfl
   |fz xs=>exact .inr<|.inl<|by rw[m,q];rfl
   |kl xs=>exact .inr<|.inr<|by rw[m,q];rfl
   |dct xs=>rw[q]at l;cases l
   |dkt xs=>rw[q]at l;cases l
   |dkq _ xs=>rw[q]at l;cases l
   |fdc o xs=>rw[q]at l;cases l
   |dkm xs=>rw[q]at l;cases l
   |tb x b=>rw[q]at l;cases l
   |exc x=>rw[q]at l;cases l
  obtain⟨vs,C,_⟩:=al.seq k p e;obtain⟨its,_,⟨o,D,h1,h2,_⟩,_⟩:=I.list C;have E:C9 M (.ref n) = "list":=by
   show (match M[n]? with|some mo=>if mo.isL=a9 then "list" else "?" |none=>"?") = "list"
   rw[m];exact n6 l
  rw[E]at L;exact L _ PySem.W.kitx_list ⟨o,h1,h2⟩<|λz=>nomatch z
def Eu:C6:=λds M Q=>match ds with
 | [d,.ty T]=>(C9 M d∈uv/\T∈GP)/\Q (.bl<|DO (C9 M d) T) M
 | [d,.tup [.ty T,.ty T']]=>(C9 M d∈uv/\T∈GP/\T'∈GP)/\Q (.bl<|DO (C9 M d) T||DO (C9 M d) T') M
 |_=>False
theorem JV:oo X (.builtin "isinstance") Eu:=by
 rintro j s σ H vs us R I v ⟨ds,M,ρ,Q,m,r,q,k⟩;unfold Eu at q;split at q;rename_i d T;obtain⟨⟨h1,h2⟩,q⟩:=q
 first|have z:=Reps.inv_cons r|have z:=aw.inv_cons r
 clear r;obtain⟨_,_,rfl,g,r⟩:=z
 first|have z:=Reps.inv_cons r|have z:=aw.inv_cons r
 clear r;obtain⟨_,_,rfl,h,r⟩:=z;cases r;cases h;obtain⟨u,F,rfl,e,f⟩:=aw.two v;cases f;refine DN I m g e h1 λHx Z p x=>?_;exact PySem.W.kia_one Z I.kIn p (Fx X.K h1 h2) x λi=>fR (I.tok i) m k q;rename_i d T c;obtain⟨⟨h1,h2,y⟩,q⟩:=q
 first|have z:=Reps.inv_cons r|have z:=aw.inv_cons r
 clear r;obtain⟨_,_,rfl,g,r⟩:=z
 first|have z:=Reps.inv_cons r|have z:=aw.inv_cons r
 clear r;obtain⟨_,_,rfl,h,r⟩:=z;cases r;obtain⟨u,F,rfl,e,f⟩:=aw.two v;obtain⟨a,S,rfl,A,t⟩:=t5.inv_tup h;cases f;obtain⟨its,C,⟨o,g1,w,n,g3⟩,_⟩:=I.tuple A
 first|have z:=Reps.inv_cons t|have z:=aw.inv_cons t
 clear t;obtain⟨_,_,rfl,D,t⟩:=z
 first|have z:=Reps.inv_cons t|have z:=aw.inv_cons t
 clear t;obtain⟨_,_,rfl,E,t⟩:=z;cases t;cases D;cases E;obtain⟨O,P,rfl,l,N⟩:=aw.two C;cases l;cases N;obtain⟨J,L,B,G⟩:=o;cases w;cases g3;refine DN I m g e h1 λHx Z p x=>?_;refine PySem.W.kia_tup Z I.kIn p g1 (b:=DO (C9 M d) T||DO (C9 M d) c) ?_ x λi=>fR (I.tok i) m k q;show (match N3 X.K (.type<|C9 M d) (.type T)with|some a9=>a7 a9|some bt=>PySem.W.kitAny X.K (.type<|C9 M d) [.type c]|none=>a8)=_;rw[Fx X.K h1 h2];cases DO (C9 M d) T with
 |true=>rfl
 |false=>show (match N3 X.K (.type<|C9 M d) (.type c)with|some a9=>a7 a9|some bt=>a7 bt|none=>a8)=_;rw[Fx X.K h1 y];cases DO (C9 M d) c<;>rfl
 exact q.elim
def kZ:C6:=λds M Q=>match ds with
 | [.str x]=>x.length<=sizeLine/\Q (.int x.length) M
 | [.tup xs]=>Q (.int xs.length) M
 | [.ref n]=>∃xs,al M n xs/\Q (.int xs.length) M
 |_=>False
theorem JU:oo X (.builtin "len") kZ:=by
 refine gK.imp (ue.or ud) ?_;rintro vs H R ⟨ds,M,ρ,Q,m,a,q,k⟩;unfold kZ at q;split at q
 first|have z:=Reps.inv_cons a|have z:=aw.inv_cons a
 clear a;obtain⟨_,_,rfl,b,a⟩:=z;cases a;cases b;exact .inr ⟨_,rfl,q.1,k _ H<|VQ.now m (.int _) q.2⟩
 first|have z:=Reps.inv_cons a|have z:=aw.inv_cons a
 clear a;obtain⟨_,_,rfl,b,a⟩:=z;cases a;cases b with
 |tup h r=>exact .inl ⟨_,_,rfl,.inr h,k _ H<|VQ.now m (by rw[<-r.length];exact .int _) q⟩
 obtain⟨xs,L,q⟩:=q
 first|have z:=Reps.inv_cons a|have z:=aw.inv_cons a
 clear a;obtain⟨_,_,rfl,b,a⟩:=z;cases a;obtain⟨_,rfl,e⟩:=t5.inv_ref b;obtain⟨s,c,r⟩:=al.seq m L e;exact .inl ⟨_,_,rfl,.inl c,k _ H<|VQ.now m (by rw[<-r.length];exact .int _) q⟩;exact q.elim
noncomputable def bls(s:List Bool):List D:=s.map .bl
theorem Reps.bls{K:t6}{ρ:List c6}{H:Hp}:∀{bs:List Bool}{vs:List V},Reps K ρ H (L2.bls bs) vs->vs=bs.map V.bl
 | [],_,h=>by cases h;rfl
 |b::bs,_,h=>by
  cases h with
  |cons r t=>cases r;rw[Reps.bls t];rfl
theorem vR:∀{bs:List Bool}{us:List b7},aw (bs.map V.bl) us->us=bs.map Mz
 | [],_,h=>by cases h;rfl
 |b::bs,_,h=>by
  cases h with
  |cons r t=>cases r;rw[vR t];rfl
theorem ym{pins:List (c6×c7)}{σ:St}{H:Hp}{s:d9}{a:c6}{c:List Bool}{G:d9->Prop}(I:p7 X pins σ H s)(z:X.calm=a9)(B:F9 X.K H a (c.map V.bl))(j:∀s',p7 X pins σ H s'->G s'):∀(E:b7->d9->Prop),e8 (f7 X.prog X.w) X.A.in1 (i6<|.ref a) (λit s₂=>∃I fp wr n P St tr,it=ABO I/\Walks X.prog X.w X.A.in1 I fp wr n P St/\St 0 s₂.heap/\TruthOf X.prog X.w X.A.in1 P tr /\ (n=c.length/\(∀i,i<c.length->tr i=c.getD i bt))/\∀h' tk,(∀b o,b∉wr->s₂.heap.get? b=a7 o->h'.get? b=a7 o)->G { s₂ with heap:=h',toks:=tk }) E s:=by
 intro E;obtain⟨its,F,p,L⟩:=I.list B;have d:=vR F;subst d;have l:=p.isList;have t:a<s.heap.objs.size:=by obtain⟨o,n,e,_⟩:=p;exact v9 e
 refine wpAny_pyIter_list l ?_;have k:p7 X pins σ H { s with heap:=s.heap.push { cls:=.type "list_iterator",data:=.fields #[.ref a,.int 0 0] } }:=I.kept (t':=s.toks) λb o e=>v7 _ e;refine⟨s.heap.objs.size,_,_,_,_,_,λi=>c.getD i bt,rfl,Walks.list (A:=X.A.in1) (I.ok.hd z) s.heap.objs.size a (x6 t) (c.map Mz).toArray,⟨⟨_,A8 _ rfl,rfl,rfl⟩,l.push _⟩,?_,⟨by simp,λi _=>rfl⟩,λh' tk D=>?_⟩;intro i v s' Q' J C Q;have h:(c.map Mz).toArray[i]?=a7 v:=C;rw[List.getElem?_toArray,C8]at h;cases e:c[i]? with
 |none=>rw[e]at h;cases h
 |some b =>
  rw[e]at h;cases h;refine Mo ?_;have:c.getD i bt=b:=by rw[Ke,e];rfl
  have g:Q' (c.getD i bt) s':=Q;rw[this]at g;exact g
 have f:=I.fpOk (H':=H) (u5 _)<|I.hok.fresh<|u5 _;obtain⟨m,r,N,q,y,u⟩:=f;exact j _<|k.turned (t':=tk) (it:=s.heap.objs.size) (λb o x e=>D b o (by simpa using x) e) m r q y u
theorem Bb{s:List Bool}{tr:Nat->Bool}(h:∀i,i<s.length->tr i=s.getD i bt):(B9 s.length).any tr=s.any id:=by rw[Bool.eq_iff_iff,KZ,KZ];constructor;rintro⟨i,hi,g⟩;have a:=F7.mp hi;rw[h i a,Ke,v4 a]at g;exact⟨_,KY a,g⟩;rintro⟨b,hb,g⟩;obtain⟨i,hi,e⟩:=List.mem_iff_getElem.mp hb;refine⟨i,F7.mpr hi,?_⟩;rw[h i hi,Ke,v4 hi,e];exact g
def Hk:C6:=λds M Q=>match ds with
 | [.ref n]=>∃s,al M n (bls s)/\Q (.bl<|s.any id) M
 |_=>False
theorem JW(i:X.calm=a9:=by rfl):oo X (.builtin "any") Hk:=by
 rintro p s σ H vs us R I v ⟨ds,M,ρ,Q,m,a,q,k⟩;unfold Hk at q;split at q;obtain⟨c,L,q⟩:=q
 first|have z:=Reps.inv_cons a|have z:=aw.inv_cons a
 clear a;obtain⟨_,_,rfl,j,a⟩:=z;cases a;obtain⟨u,rfl,t⟩:=aw.one v;obtain⟨_,rfl,e⟩:=t5.inv_ref j;cases t;obtain⟨y,h,r⟩:=al.seq m L e;rw[r.bls]at h;refine call_any_walk<|u9 (ym (G:=λs'=>EP X p σ R (.bool<|c.any id) s') I i h (λs' b=>fR b m k q) _) ?_;rintro it x ⟨J,C,w,n,P,Sx,tr,t,W,l,T,⟨d,g⟩,f⟩;subst d;exact⟨J,C,w,_,P,Sx,tr,t,W,l,T,λh' o D=>by rw[Bb g];exact f h' o D⟩;exact q.elim
end
end L2
namespace L2
open PySem PySem.Spec PyProof.Rows DL _root_.HT
section
variable{prog:c5}{w:b9}{A:d8}{E:b7->d9->Prop}{s:d9}
theorem qC{t m:c6}{i:Array b7}{l u:b7}{lo hi:Option Int}{Q:b7->d9->Prop}(a:IsTup s.heap t i)(hs:s.heap.IsSliceOf m l u .none)(p:j8 l lo)(g:j8 u hi)(e:sIx i.size 0 lo=0/\sIx i.size i.size hi=i.size) (h:Q (.ref t) s):e8 (f7 prog w) A (j9 (.ref t)<|.ref m) Q E s:=by
 obtain⟨o,d,c,f⟩:=id hs;have b:s.TypeIs (.ref m) "slice":=⟨o,d,c⟩
 unfold j9
 try with_reducible refine E5 ?_
 first|refine p5 (p8 ?_)|skip
 refine p5<|wpAny_sequenceKey a.typeIs (by decide)<|p5<|La (name:=r9 "__getitem__") a.typeIs MS<|J0 MS a.typeIs entry_tuple_getitem ?_<|args_tuple_getitem _ _;refine(show e8 (f7 prog w) _ (OI (.ref t) >>= _) _ _ s from p5<|tupleItemsOf_ a<|p5<|LL b ?_);rw[n6<|by decide];refine p5<|fQ hs p g ?_;refine(show e8 (f7 prog w) _ (if (((sIx i.size 0 lo:Nat):Int)==0&&(1:Int)==1&&(sIx i.size i.size hi-sIx i.size 0 lo)==i.size)=a9 then _ else _) _ _ s from ?_);rw[n6<|by rw[e.1,e.2];simp];unfold Builtin.Tuple.tupleIsExact;refine p5<|p5<|LL a.typeIs<|p8 ?_;rw[n6<|by decide];exact p5<|Kg<|p8 ⟨_,rfl,p8 h⟩
end
end L2
namespace L2
open PySem PySem.Spec PyProof.Rows DL
section
variable{X:Cx}{a b:f6}{ta tb:u8}{pos:f8}
theorem KB.imp(h:KB X r')(i:∀x y H R,r x y H R->r' x y H R):KB X r:=λa e p s σ H x y v u R I g b q hs=>h a e p s σ H x y v u R I g b (i x y H R q) hs
theorem Reps.atI{K:t6}{ρ:List c6}{H:Hp}{ds:List D}{vs:List V}{i:Int}{d:D}(r:Reps K ρ H ds vs)(h:L2.atI ds i=a7 d):∃v,L2.atI vs i=a7 v/\t5 K ρ H d v:=by
 unfold L2.atI at h ⊢;rw[r.length]at h;cases e:K2 vs.length i with
 |none=>rw[e]at h;cases h
 |some j=>rw[e]at h;obtain⟨v,c,a⟩:=r.get<|show ds[j]?=a7 d from h;exact⟨v,c,a⟩
def u7:E1:=λx y M Q=>match x,y with
 |.tup xs,.int i=>match L2.atI xs i with
  |some d=>Q d M
  |none=>False
 |.str z,.int i=>z.length<=sizeLine/\match L2.atI z.cps.toList i with
  |some c=>Q (.str ⟨#[c]⟩) M
  |none=>False
 |.ref n,.int i=>∃xs,al M n xs/\match L2.atI xs i with
  |some d=>Q d M
  |none=>False
 |_,_=>False
theorem FH:KB X (lowR X.K u7):=by refine KB.imp IZ ?_;rintro p s H R ⟨x,y,M,ρ,Q,m,b,f,q,k⟩;unfold u7 at q;split at q;rename_i xs i;split at q;rename_i d e;cases f;obtain⟨_,_,rfl,h,r⟩:=t5.inv_tup b;obtain⟨v,a,g⟩:=r.atI e;exact .inr<|.inl ⟨_,_,_,v,rfl,rfl,h,a,k _ H<|VQ.now m g q⟩;exact q.elim;rename_i z i;obtain⟨o,q⟩:=q;split at q;rename_i c e;cases f;cases b;exact .inr<|.inr ⟨z,i,c,rfl,rfl,o,e,k _ H<|VQ.now m (.str _) q⟩;exact q.elim;rename_i n i;obtain⟨xs,L,q⟩:=q;split at q;rename_i d e;cases f;obtain⟨_,rfl,j⟩:=t5.inv_ref b;obtain⟨vs,l,r⟩:=al.seq m L j;obtain⟨v,a,g⟩:=r.atI e;exact .inl ⟨_,_,_,v,rfl,rfl,l,a,k _ H<|VQ.now m g q⟩;exact q.elim;exact q.elim
theorem d_ix(f:DE X a ta)(d:DE X b tb)(hs:vO b:=by intro _ _;rfl):DE X (.Subscript a b pos) (p6 u7 ta tb):=PE.imp (pe_ix FH f d hs) ql
abbrev L7:=SD->tx->(Option Int->tx->Prop)->Prop
def Iu(K:t6)(t:L7):TO:=λσ H R=>∃S M ρ Q,u6 K ρ M H/\SRep K ρ H S σ/\t S M Q/\∀o H',(∃b a,u6 K a b H'/\Grow K ρ H a H'/\Q o b)->R o H'
def gB:L7:=λ_ M Q=>Q a8 M
def oh(t:u8):L7:=λS M Q=>t S M λx a=>match x with
 |.int i=>Q (a7 i) a
 |_=>False
theorem PO.imp(h:PO X e t')(i:∀σ H R,t σ H R->t' σ H R):PO X e t:=λp s σ H R I q=>h p s σ H R I<|i σ H R q
theorem Gf:PO X a8 (Iu X.K gB):=by refine PO.imp EJ ?_;rintro σ H R ⟨S,M,ρ,Q,s,c,q,k⟩;exact k a8 H ⟨M,ρ,s,.refl,q⟩
theorem Ge(h:DE X e te):PO X (a7 e) (Iu X.K<|oh te):=by
 refine PO.imp (EI h) ?_;rintro σ H R ⟨S,M,ρ,Q,s,j,q,k⟩;refine⟨S,M,ρ,_,s,j,q,?_⟩;rintro v b ⟨d,f,c,g,g1,r,a⟩;cases r with
 |int i=>exact⟨i,rfl,k _ b ⟨f,c,g,g1,a⟩⟩
 |_=>exact a.elim
theorem Hb:Nd X (λx lo hi H Q=>∃z,x=.str z/\z.length<=sizeLine/\Q (.str<|Kt z lo hi) H):=by
 intro b s σ H x v w y lo hi n Q I r hs d f h;obtain⟨z,rfl,c,q⟩:=h;obtain⟨t,rfl⟩:=r;have a:∀{v:b7}{o:Option Int},j8 v o->∃p:Option (Int×Tok),v=partValue p/\p.map (·.1)=o:=λh=>by
  cases h with
  |none=>exact⟨a8,rfl,rfl⟩
  |int i t=>exact⟨a7 (i,t),rfl,rfl⟩
 obtain⟨g,rfl,e⟩:=a d;obtain⟨j,rfl,m⟩:=a f;subst e m;refine⟨"str",_,slot_str_getitem.lookup,typeIs_str _ _ _,wpAny_getItem_str_slice (l:=g) (u:=j) (st:=a8) hs rfl ?_⟩;exact post_val_or_str ⟨G1 (Txt.slice_le z _ _) c,λt' k=>⟨.str _,H,I.tok k,⟨t',rfl⟩,q⟩⟩
noncomputable def cutD(xs:List D)(lo hi:Option Int):List D:=(xs.drop<|HT.sIx xs.length 0 lo).take<|HT.sIx xs.length xs.length hi-HT.sIx xs.length 0 lo
theorem Reps.cutD{K:t6}{ρ:List c6}{H:Hp}{ds:List D}{vs:List V}(r:Reps K ρ H ds vs)(lo hi:Option Int):Reps K ρ H (L2.cutD ds lo hi) (DR vs lo hi):=by unfold L2.cutD DR;rw[r.length];exact(r.drop _).take _
def NP:D->Option Int->Option Int->tx->DK->Prop:=λx l hi M Q=>match x with
 |.str z=>z.length<=sizeLine/\Q (.str<|Kt z l hi) M
 |.ref n=>∃xs,al M n xs/\Q (.ref M.length) (M++[.lst<|cutD xs l hi])
 |.tup xs=>Q (.tup<|cutD xs l hi) M
 |_=>False
def lowSl(K:t6)(r:D->Option Int->Option Int->tx->DK->Prop):V->Option Int->Option Int->Hp->VK->Prop:=λf l hi H R=>∃x M ρ Q,u6 K ρ M H/\t5 K ρ H x f/\r x l hi M Q/\∀v H',VQ K ρ H Q v H'->R v H'
theorem sld:Nd X (lowSl X.K NP):=by
 rintro b s σ H x v o t l hi j R I g hs c u ⟨d,M,ρ,Q,m,i,q,k⟩;unfold NP at q;split at q;cases i;exact Hb b s σ H _ v o t l hi j R I g hs c u ⟨_,rfl,q.1,k _ H<|VQ.now m (.str _) q.2⟩;obtain⟨xs,L,q⟩:=q;obtain⟨_,rfl,y⟩:=t5.inv_ref i;obtain⟨vs,z,r⟩:=al.seq m L y;exact En b s σ H _ v o t l hi j R I g hs c u ⟨_,vs,rfl,z,λp f=>k _ _<|VQ.laidL m .refl (r.cutD l hi) f q⟩;obtain⟨_,_,rfl,h,r⟩:=t5.inv_tup i;rename_i xs a vs;by_cases w:HT.sIx xs.length 0 l=0/\HT.sIx xs.length xs.length hi=xs.length;cases g;obtain⟨its,A,E,B⟩:=I.tuple h;have n:its.toArray.size=xs.length:=by rw[x9,r.length];exact A.length.symm
 have e:L2.cutD xs l hi=xs:=by unfold L2.cutD;rw[w.1,w.2,List.drop_zero,Nat.sub_zero,K8]
 rw[e]at q;exact⟨"tuple",_,MS.lookup,E.typeIs,qC E hs c u (by rw[n];exact w) ⟨.ref _,H,I,rfl,k _ H<|VQ.now m (.tup h r) q⟩⟩;exact Ha b s σ H _ v o t l hi j R I g hs c u ⟨_,_,rfl,h,by rw[<-r.length];exact w,λp f=>k _ _<|VQ.laidT m .refl (r.cutD l hi) f q⟩;exact q.elim
def Lr(te:u8)(t h:L7):u8:=λS M Q=>te S M λx a=>t S a λl M2=>h S M2 λu b=>NP x l u b Q
theorem Gm{e:f6}{te:u8}{lo hi:Option f6}{t h:L7}{p:f8}(m:DE X e te)(n:PO X lo (Iu X.K t))(o:PO X hi (Iu X.K h)):DE X (.Subscript e (.Slice lo hi a8 p) pos) (Lr te t h):=by refine PE.imp (BH sld m n o) ?_;rintro σ H R ⟨S,M,ρ,Q,s,c,q,k⟩;refine⟨S,M,ρ,_,s,c,q,?_⟩;rintro v D ⟨d,g,a,A,g1,z,r⟩;refine⟨S,g,a,_,A,c.grow g1,r,?_⟩;rintro l E ⟨M2,b,B,i,x⟩;refine⟨S,M2,b,_,B,c.grow<|g1.trans i,x,?_⟩;rintro u F ⟨j,f,C,g3,y⟩;exact⟨d,j,f,Q,C,z.grow<|i.trans g3,y,λv H' w=>k v H'<|VQ.trans ((g1.trans i).trans g3) w⟩
def jL:E1:=λx y M Q=>match x,y with
 |.int i,.int j=>CMul i j/\Q (.int<|i*j) M
 |.str z,.int n=>(0<=n/\n<2 ^ 63/\z.length*n.toNat<=sizeLine)/\Q (.str<|Txt.mul z n) M
 |_,_=>False
theorem uR(b:0<=n)(h:z.length*n.toNat<=sizeLine)(f:n<2 ^ 63):MulOk z n:=by
 refine⟨?_,λh1 h2=>?_,λh1 h2=>?_⟩;have a:decide (n < -(2 ^ 63:Int))=bt:=dF_ (by lia);have m:decide (n ≥ 2 ^ 63)=bt:=dF_ (by lia);rw[a,m];rfl;have c:(z.length:Int)*n<=2 ^ 24:=by
  have e:((z.length*n.toNat:Nat):Int)=(z.length:Int)*n:=by rw[Int.natCast_mul,Int.toNat_of_nonneg b]
  have h':((z.length*n.toNat:Nat):Int)<=(2 ^ 24:Nat):=Int.ofNat_le.mpr h;rw[e]at h';exact h'
 have s:0<n:=by lia
 intro t;have:=Int.lt_of_lt_of_le (Int.lt_mul_of_ediv_lt s t) c;lia;unfold PySem.Builtin.Str.tooLong;simpa using h
theorem EZ:E6 X (i9 .Mult) jL:=by
 rintro p s σ H f b v u R I g i ⟨x,y,M,ρ,Q,a,r,m,q,k⟩;unfold jL at q;split at q;cases r;cases m;exact HZ p s σ H _ _ v u R I g i ⟨_,_,rfl,rfl,q.1,k _ H<|VQ.now a (.int _) q.2⟩;rename_i z n;cases r;cases m;obtain⟨t,rfl⟩:=g;obtain⟨t',rfl⟩:=i;obtain⟨⟨h,h2,h1⟩,q⟩:=q;exact PySem.SB.mul (uR h h1 h2) λt' j=>⟨.str _,H,I.tok j,⟨t',rfl⟩,k _ H<|VQ.now a (.str _) q⟩
 exact q.elim
variable{o e:f6}{es:List f6}{to:u8}{t:D9}{name:b8}{apos cpos:f8}{id:String}
def Fe(K:t6)(r:b8->C6):V->List V->Hp->VK->Prop:=λf vs H R=>∃z ds M ρ Q,f=.str z/\u6 K ρ M H/\Reps K ρ H ds vs/\r z ds M Q/\∀v H',VQ K ρ H Q v H'->R v H'
def jV(K:t6)(r:Nat->C6):V->List V->Hp->VK->Prop:=λf vs H R=>∃n a ds M ρ Q,f=.ref a/\ρ[n]?=a7 a/\u6 K ρ M H/\Reps K ρ H ds vs/\r n ds M Q/\∀v H',VQ K ρ H Q v H'->R v H'
def NT(r:b8->C6)(e:u8)(t:D9):u8:=λS M Q=>e S M λx a=>match x with
 |.str z=>t S a λds M2=>r z ds M2 Q
 |_=>False
def KG(r:Nat->C6)(e:u8)(t:D9):u8:=λS M Q=>e S M λx a=>match x with
 |.ref n=>(∃xs,al a n xs)/\t S a λds M2=>r n ds M2 Q
 |_=>False
theorem d_ms(slot:Slot "str" name id)(y:k7 (.builtin id)=pure (.type "method_descriptor"))(p:Ix X id (Fe X.K r))(D:DE X o to)(m:DA X (e::es) t)(h:k9 o name X.env (eval o X.env)=eval o X.env:=by rfl)(b:((f9 cpos<|ge (e::es) X.env).all (λx=>!x.1)&&(l7 cpos<|l8 [] X.env).all (λx=>x.1.isSome) && decide ((e::es).length+([]:List j5).length+(if ([]:List j5).isEmpty then 0 else 1)<30))=a9:=by rfl)(a:(apos.endLine==cpos.line)=a9:=by rfl) (hs:ge (e::es) X.env=(bt,eval e X.env)::ge es X.env:=by rfl) (n:(f9 cpos<|ge es X.env).any (·.1)=bt:=by rfl):DE X (.Call (.Attribute o name apos) (e::es) [] cpos) (NT r to t):=by
 refine PE.imp (HN PySem.F.plainAttrs_str slot y p D m h b a hs n) ?_;rintro σ H R ⟨S,M,ρ,Q,s,i,q,k⟩;refine⟨S,M,ρ,_,s,i,q,?_⟩;rintro v G ⟨d,j,c,C,g1,A,g⟩;cases A with
 |str z=>exact⟨rfl,S,j,c,_,C,i.grow g1,g,λvs I ⟨ds,M2,f,E,l,B,u⟩=>⟨z,ds,M2,f,Q,rfl,E,B,u,λv H' w=>k v H'<|VQ.trans (g1.trans l) w⟩⟩
 |_=>exact g.elim
theorem d_ml(slot:Slot "list" name id)(y:k7 (.builtin id)=pure (.type "method_descriptor"))(B:Ix X id (jV X.K r))(D:DE X o to)(A:DA X (e::es) t)(b:k9 o name X.env (eval o X.env)=eval o X.env:=by rfl)(f:((f9 cpos<|ge (e::es) X.env).all (λx=>!x.1)&&(l7 cpos<|l8 [] X.env).all (λx=>x.1.isSome) && decide ((e::es).length+([]:List j5).length+(if ([]:List j5).isEmpty then 0 else 1)<30))=a9:=by rfl)(c:(apos.endLine==cpos.line)=a9:=by rfl) (hs:ge (e::es) X.env=(bt,eval e X.env)::ge es X.env:=by rfl) (h:(f9 cpos<|ge es X.env).any (·.1)=bt:=by rfl):DE X (.Call (.Attribute o name apos) (e::es) [] cpos) (KG r to t):=by
 refine PE.imp (HN PySem.F.plainAttrs_list slot y B D A b f c hs h) ?_;rintro σ H R ⟨S,M,ρ,Q,s,z,q,k⟩;refine⟨S,M,ρ,_,s,z,q,?_⟩;rintro v N ⟨d,i,j,u,g1,G,g⟩;cases G with
 |@ref n a p =>
  obtain⟨⟨xs,L⟩,g⟩:=(show (∃xs,al i n xs)/\t S i _ from g)
  obtain⟨vs,C,_⟩:=al.seq u L p;refine⟨.inl ⟨rfl,vs,C⟩,S,i,j,_,u,z.grow g1,g,?_⟩;rintro vs O ⟨ds,M2,l,J,m,I,E⟩;exact⟨n,a,ds,M2,l,Q,rfl,aq m.pre p,J,I,E,λv H' w=>k v H'<|VQ.trans (g1.trans m) w⟩
 |_=>exact g.elim
def cB(n:Nat):C6:=λds M Q=>match ds with
 | [d]=>∃xs,M[n]?=a7 (.lst xs)/\xs.length<sizeLine/\Q .non (M.set n<|.lst<|xs++[d])
 |_=>False
theorem xN:Ix X "list.append" (jV X.K cB):=by
 rintro p s σ H x xs v us R I l j ⟨n,a,ds,M,ρ,Q,c,b,m,f,q,k⟩;unfold cB at q;split at q;rename_i d;obtain⟨ys,e,g,q⟩:=q
 first|have z:=Reps.inv_cons f|have z:=aw.inv_cons f
 clear f;obtain⟨_,_,rfl,i,f⟩:=z;cases f;obtain⟨vs,h,r⟩:=m.obj n a _ b e;obtain⟨L,w⟩:=m.write b e h<|r.append<|.cons i .nil;exact zK p s σ H x _ v us R I l j ⟨a,vs,_,c,rfl,h,by rw[<-r.length];exact g,k _ _ ⟨.non,_,ρ,L,w,.non,q⟩⟩;exact q.elim
end
def bV(K:t6)(mg:b8->Option b7)(x:b8)(st:g7)(ps:List b8):Prop:=∃f d,KO K x x st f d/\mg x=a7 (.ref f)/\ut K d ps []
def t9(P:c5)(w:b9)(K:t6)(mg:b8->Option b7)(base:c8)(k:Nat)(x:b8)(ps:List b8)(r:v6):Prop:=∃f d,FnOk P w K mg base I0 k f d ps (KL K r)/\mg x=a7 (.ref f)/\LP K (.ref f)=a9/\ut K d ps []
theorem fnat_mk{K:t6}{h:c8}{mg:b8->Option b7}{x:b8}{st:g7}{ps:List b8}{f:c6}{b:b7}{j M:Option c6}{o:Array (Option b7)}{kV i U v R:b7}(X:K.In h) (G:h.Ns d6 mg) (a:PySem.W.nsIn K d6 x=a7 (a7<|.ref f))(l:K.lookup f=a7 ⟨b,j,.func<|Lu x x (iT st) (cg st) (au st) .none kV i U M v R,o⟩)(c:N5 K v x=a9) (k:LP K (.ref f)=a9)(h:∀(kV i U:b7) (M:Option c6) (v R:b7) (us:List b7),us.length=ps.length->bindArgs (Lu x x (iT st) (cg st) (au st) .none kV i U M v R) ⟨us,[]⟩=pure (ps.zip us)):bV K mg x st ps:=have F:=Jr (st:=st) l c k
 ⟨f,_,F,PySem.W.mg_of X G a,F.binds h⟩
theorem t9.of{P:c5}{w:b9}{K:t6}{mg:b8->Option b7}{base:c8}{x:b8}{st:g7}{N ps:List b8}{k:Nat}{d:v6}(F:bV K mg x st ps)(i:FnScope N ps (au st))(B:∀ds M R,d ds M R->ds.length=ps.length) {t:p9}(r:∀(f:c6) (cdv:b7) (A:d8) (outer:List Env) (s:d9) (H:Hp) (E:XK),Room k (A.deeper<|j7 x (au st) s.heap.objs.size f cdv)->K3 (yq I0 P w K mg base N x (au st) f cdv A outer s H E).nox (cg st) t)(p:∀ds M R,d ds M R->t ⟨λ_ M'=>aO M R .non M',aO M R,λ_ _=>False,λ_ _=>False⟩ (eJ N ds) M):t9 P w K mg base (k+1) x ps d:=by obtain⟨f,b,a,m,h⟩:=F;exact⟨f,b,d_fn d a i B λcdv A outer s H E c=>⟨t,r f cdv A outer s H E c,p⟩,m,a.kp,h⟩
theorem FU{P:c5}{w:b9}{K:t6}{mg:b8->Option b7}{base:c8}{x:b8}{st:g7}{N ps:List b8}{k:Nat}{d:v6}{f:c6}{a:j3}(F:KO K x x st f a)(i:FnScope N ps (au st))(B:∀ds M R,d ds M R->ds.length=ps.length) {t:p9}(r:∀(f:c6) (cdv:b7) (A:d8) (outer:List Env) (s:d9) (H:Hp) (E:XK),Room k (A.deeper<|j7 x (au st) s.heap.objs.size f cdv)->K3 (yq I0 P w K mg base N x (au st) f cdv A outer s H E).nox (cg st) t)(p:∀ds M R,d ds M R->t ⟨λ_ M'=>aO M R .non M',aO M R,λ_ _=>False,λ_ _=>False⟩ (eJ N ds) M):FnOk P w K mg base I0 (k+1) f a ps (KL K d):=d_fn d F i B λcdv A outer s H E h=>⟨t,r f cdv A outer s H E h,p⟩
section
variable{X:Cx}{e:f6}{es:List f6}{t:D9}{pos:f8}
theorem d_cal(C:t9 X.prog X.w X.K X.mg X.base j x ps P)(r:Room k X.A)(a:DA X (e::es) t)(L:j<=k:=by decide)(S:Gl X x:=by rfl) (b:(x==("__debug__":b8))=bt:=by decide) (i:ge (e::es) X.env=(bt,eval e X.env)::ge es X.env:=by rfl) (l:(f9 pos<|ge es X.env).any (·.1)=bt:=by rfl):DE X (.Call (.Name x p) (e::es) [] pos) (s9 P t):=by obtain⟨f,c,F,m,h,d⟩:=C;exact JS F (r.mono L) m h d a S b i l
end
def Fl:v6:=λds M R=>∃(ns:List Int) (b:MO),ns.length<=63/\(b.items=ns.map D.int/\b.isL=a9)/\ds=[.ref 0]/\M=[b]/\∀a,R (.bl a9) a
theorem tw(h:M[n]?=a7 mo)(g:mo.isL=a9):al M n mo.items:=by
 cases mo with
 |lst xs=>exact .inl h
 |fz xs=>exact .inr<|.inl h
 |kl xs=>exact .inr<|.inr h
 |dct xs=>cases g
 |dkt xs=>cases g
 |dkq _ xs=>cases g
 |fdc o xs=>cases g
 |dkm xs=>cases g
 |tb x b=>cases g
 |exc x=>cases g
theorem jq{K:t6}{ρ:List c6}{H:Hp}:∀(ns:List Int),Reps K ρ H (ns.map D.int) (ns.map V.int)
 | []=>.nil
 |n::ns=>.cons (.int n)<|jq ns
theorem xV{K:t6}{H:Hp}{a:c6}{ns:List Int}(g:ns.length<=63)(S:F9 K H a (ns.map V.int)):KL K Fl [.ref a] H (λv _=>v=.bl a9) λ_ _ _=>False:=by
 have c:∀{mo:MO},mo.items=ns.map D.int/\mo.isL=a9->yr K [a] H a mo->KL K Fl [.ref a] H (λv _=>v=.bl a9) λ_ _ _=>False:=λ{mo} e ok=>by refine⟨[.ref 0],[mo],[a],λd _=>d=.bl a9,⟨λn m b i t f=>?_,rfl,λn b j t f=>?_⟩,.cons (.ref rfl) .nil,⟨ns,mo,g,e,rfl,rfl,λ_=>rfl⟩,λv H' ⟨d,M,l,_,_,r,q⟩=>?_⟩;have h1:=(w6.mp t).1;have h2:=(w6.mp f).1;simp at h1 h2;lia;have h1:=(w6.mp t).1;simp at h1;subst h1;simp at t f;subst t f;exact ok;have k:d=.bl a9:=q;subst k;cases r;rfl
 rcases S with(h|⟨o,h⟩)|h;exact c (mo:=.lst _) ⟨rfl,rfl⟩ ⟨_,h,jq ns⟩;exact c (mo:=.fz _) ⟨rfl,rfl⟩ ⟨o,_,h,jq ns⟩;exact c (mo:=.kl _) ⟨rfl,rfl⟩ ⟨_,h,jq ns⟩
theorem law_walk{l:PySem.W.OpenLaw}{q:c5}{b:List b8}{P:(b8->Option b7)->c8->Prop}{YP:b9->c8->Prop}{d:DefRec}{K:Params->t6}{k:Nat}{st:g7}{x:b8}(y:l.most=a7 63)(i:d.params.defaults=[])(p:d.name = "law")(A:Room k callerA)(D:∀(w:b9) (h:c8),YP w h->(K w.params).In h)(F:∀(w:b9) (mg:b8->Option b7) (h:c8),(K w.params).In h->h.Ns d6 mg->bV (K w.params) mg "law" st [x] /\ ∀(base:c8) (f:c6) (fd:j3),KO (K w.params) "law" "law" st f fd->FnOk l.prog w (K w.params) mg base I0 k f fd [x] (KL (K w.params) Fl))(m:∀(kV doc pm:b7) (an:Option c6) (cdv ct:b7) (u:b7),bindArgs (Lu "law" "law" (iT st) (cg st) (au st) .none kV doc pm an cdv ct) ⟨[u],[]⟩=pure [(x,u)]):PySem.W.WalkO q b P YP l.row.toRowW d [] (λf vs=>PySem.call f vs):=by refine L2.walk_of (n:=63) (k:=k) (x:=x) (CX:=λ_=>I0) (sp:=λw=>KL (K w.params) Fl) y (by decide) i A D (λw mg I h X G g=>?_) (λw H a ns r _ S=>xV r S) λ_ _ _ _ _ z=>z;rw[p]at g;obtain⟨⟨f,fd,c,t,_⟩,C⟩:=F w mg h X G;have e:=g.symm.trans t;cases e;have j:=λbase=>C base _ _ c;obtain⟨J,L,kV,doc,pm,an,cdv,ct,B,rfl,E,o⟩:=id c.ex;exact⟨_,λs v=>.of_eq<|m kV doc pm an cdv ct v,λbase _ _=>j base⟩
noncomputable def pC(m:List (b8×j6))(N N':List b8)(t:Nat)(s:List Nat)(c:e6):Bool:=c.kind==.function&&c.names.all (λy=>y.2 != .cell&&(y.2 != .local||c.names.lookup y.1==a7 .local)&&(y.2 != .free||(m.lookup y.1==a7 .cell||m.lookup y.1==a7 .free))) &&
 N'.length==t+s.length&&(B9 s.length).all λk=>match s[k]?,N'[t+k]? with
  |some j,a7 x=>N[j]?==a7 x&&c.names.lookup x==a7 .free&&(m.lookup x==a7 .cell||m.lookup x==a7 .free)
  |_,_=>bt
theorem BlkSc.chk(h:pC X.env.scope.names X.N N' nt js scope=a9):BlkSc X N' nt js scope:=by
 unfold pC at h;simp only[D8,Fn,o5,Nv,bne_iff_ne]at h;obtain⟨⟨⟨h1,h2⟩,a⟩,d⟩:=h;refine⟨h1,λy Q=>(h2 y Q).1.1,λy Q e=>((h2 y Q).1.2.resolve_left<|λz=>z e),λy Q e=>((h2 y Q).2.resolve_left<|λz=>z e),a,λk j e=>?_⟩;have b:k<js.length:=(w6.mp e).1;have q:=d k<|F7.mpr b;rw[e]at q;cases f:N'[nt+k]? with
 |none=>rw[f]at q;exact o0 q<|by simp
 |some x=>rw[f]at q;simp only[D8,o5,Nv]at q;exact⟨x,rfl,q.1.1,q.1.2,q.2⟩
section
variable{X:Cx}{a:f6}{ta:u8}{pos:f8}
def NR(r:Nj)(t:u8):u8:=λS M Q=>t S M λx a=>r x a Q
theorem d_un(D:OT X (unaryOp op) r)(f:DE X a ta):DE X (.UnaryOp op a pos) (NR r ta):=by refine PE.imp (pe_un D f) ?_;rintro σ H R ⟨S,M,ρ,Q,s,i,q,k⟩;refine⟨S,M,ρ,_,s,i,q,?_⟩;rintro v j ⟨d,b,c,h,g1,g,e⟩;exact⟨d,b,c,Q,h,g,e,λv H' w=>k v H'<|VQ.trans g1 w⟩
def Hi:Nj:=λx M Q=>match x with
 |.int i=>Q (.int (-i)) M
 |_=>False
theorem GO:OT X (unaryOp .USub) Hi:=by rintro p s σ H f v R I g ⟨x,M,ρ,Q,m,r,q,k⟩;unfold Hi at q;split at q;cases r;exact GN p s σ H _ v R I g ⟨_,rfl,k _ H<|VQ.now m (.int _) q⟩;exact q.elim
end
noncomputable def C5(f:D->D->Bool):List D->List D->Bool
 | [],[]=>a9
 |x::xs,y::ys=>f x y&&C5 f xs ys
 |_,_=>bt
noncomputable def t4(M:tx):Nat->D->D->Bool
 |_,.non,.non=>a9
 |_,.bl a,.bl b=>a==b
 |_,.bl a,.int b=>(if a then 1 else 0)==b
 |_,.int a,.bl b=>a==(if b then 1 else 0)
 |_,.int a,.int b=>a==b
 |_,.str a,.str b=>a==b
 |n+1,.tup xs,.tup ys=>C5 (t4 M n) xs ys
 |n+1,.ref i,.ref j=>match M[i]?,M[j]? with
  |some a,a7 b=>C5 (t4 M n) a.items b.items
  |_,_=>bt
 |_,_,_=>bt
noncomputable def u3(M:tx):Nat->D->Bool
 |_,.ty _=>bt
 |n+1,.tup xs=>xs.all<|u3 M n
 |n+1,.ref i=>match M[i]? with
  |some a=>a.isL&&a.items.all (u3 M n)
  |none=>bt
 | 0,.tup _=>bt
 | 0,.ref _=>bt
 |_,_=>a9
theorem AC:∀{xs ys:List D},C5 f xs ys=a9->xs.length=ys.length
 | [],[],_=>rfl
 | [],_::_,h=>by simp[C5]at h
 |_::_,[],h=>by simp[C5]at h
 |x::xs,y::ys,h=>by simp only[C5,D8]at h;rw[C7,C7,AC h.2]
theorem Bc(n:Nat)(e:Nat->Bool):(B9<|n+1).all e=(e 0&&(B9 n).all λj=>e<|j+1):=by rw[List.range_succ_eq_map,Kv,List.all_map];rfl
theorem nC:∀{xs ys:List D}{e:Nat->Bool},xs.length=ys.length->(∀(j:Nat) x y,xs[j]?=a7 x->ys[j]?=a7 y->e j=f x y)->(B9 xs.length).all e=C5 f xs ys
 | [],[],e,_,_=>by simp[C5]
 | [],_::_,_,h,_=>by simp at h
 |_::_,[],_,h,_=>by simp at h
 |x::xs,y::ys,e,h,he=>by rw[C7,Bc,C5,he 0 x y rfl rfl,nC (by simpa using h) λj x' y' h1 h2=>he (j+1) x' y' (by simpa using h1)<|by simpa using h2]
theorem AB(h:xs.length≠ys.length):C5 f xs ys=bt:=by
 cases q:C5 f xs ys with
 |false=>rfl
 |true=>exact o0 (AC q) h
theorem ja{vs:List V}{us:List b7}(h:aw vs us){j:Nat}{v:V}(e:vs[j]?=a7 v):∃u,us[j]?=a7 u/\aN v u:=by
 induction h generalizing j with
 |nil=>simp at e
 |cons r _ i =>
  cases j with
  |zero=>simp at e;subst e;exact⟨_,rfl,r⟩
  |succ j=>exact i<|by simpa using e
section
variable{X:Cx}{pins:List (c6×c7)}{σ:St}{H:Hp}{s:d9}{ρ:List c6}{M:tx}
theorem mw(I:p7 X pins σ H s)(m:u6 X.K ρ M H){i:Nat}{a:c6}{mo:MO}(e:ρ[i]?=a7 a)(d:M[i]?=a7 mo)(g:mo.isL=a9):∃vs its,F9 X.K H a vs/\Reps X.K ρ H mo.items vs/\aw vs its/\PlainL s.heap a its.toArray:=by obtain⟨vs,q,r⟩:=al.seq m (tw d g) e;obtain⟨its,f,p,_⟩:=I.list q;exact⟨vs,its,q,r,f,p⟩
theorem eI(d:M[i]?=a7 mo)(o:u3 M (n+1) (.ref i)=a9):mo.isL=a9/\mo.items.all (u3 M n)=a9:=by have o':(match M[i]? with|some a=>a.isL&&a.items.all (u3 M n)|none=>bt)=a9:=o;rw[d]at o';exact(D8 _ _).mp o'
theorem CN(I:p7 X pins σ H s)(m:u6 X.K ρ M H):∀(n:Nat) (x y:D) (v:V),t5 X.K ρ H x v->t5 X.K ρ H y v->u3 M n x=a9->u3 M n y=a9->t4 M n x y=a9:=by
 have l:∀(n:Nat),(∀(x y:D) (v:V),t5 X.K ρ H x v->t5 X.K ρ H y v->u3 M n x=a9->u3 M n y=a9->t4 M n x y=a9) -> ∀(xs ys:List D) (vs:List V),Reps X.K ρ H xs vs->Reps X.K ρ H ys vs->xs.all (u3 M n)=a9->ys.all (u3 M n)=a9->C5 (t4 M n) xs ys=a9:=by
  intro n u xs;induction xs with
  |nil=>intro ys vs h1 h2 _ _;cases h1;cases h2;rfl
  |cons x xs hi =>
   intro ys vs h1 h2 c f;cases h1 with
   |cons O R =>
    cases h2 with
    |cons P S=>rw[Kv,D8]at c f;rw[C5,u _ _ _ O P c.1 f.1,hi _ _ R S c.2 f.2];rfl
 intro n;induction n with
 |zero=>intro x y v h1 h2 c f;cases h1<;>cases h2<;>first|(simp[u3]at c;done)|rfl|simp[t4]
 |succ n u =>
  intro x y v h1 h2 c f;cases h1 with
  |non=>cases h2;rfl
  |bl b=>cases h2;simp[t4]
  |int b=>cases h2;simp[t4]
  |str b=>cases h2;simp[t4]
  |ty b=>simp[u3]at c
  |@tup a vs ds t r =>
   cases h2 with
   |tup h r'=>have e:=I.tuple_inj t h;subst e;exact l n u _ _ _ r r' (by simpa [u3]using c)<|by simpa [u3]using f
   |@ref i _ e =>
    exfalso;obtain⟨its,_,⟨o,w,z,_⟩,_⟩:=I.tuple t;have hi:i<M.length:=by rw[<-m.len];exact(w6.mp e).1
    obtain⟨p,g,_,_,_,⟨o',F,k,N,_⟩⟩:=mw I m e (v4 hi) (eI (v4 hi) f).1;rw[w]at k;cases k;rw[z]at N;injection N with f3;exact o0 f3<|by decide
  |@ref i a e =>
   have hi:i<M.length:=by rw[<-m.len];exact(w6.mp e).1
   have q:=v4 hi;obtain⟨vs,its,t,r,T,G⟩:=mw I m e q (eI q c).1;cases h2 with
   |tup h r'=>exfalso;obtain⟨g,_,⟨o,w,z,_⟩,_⟩:=I.tuple h;obtain⟨o',F,k,N,_⟩:=G;rw[w]at k;cases k;rw[z]at N;injection N with f3;exact o0 f3<|by decide
   |@ref j _ C =>
    have L:j<M.length:=by rw[<-m.len];exact(w6.mp C).1
    have d:=v4 L;obtain⟨p,g,h,r',Q,J⟩:=mw I m C d (eI d f).1;have E:vs=p:=I.list_inj t h;subst E;have A:=(eI q c).2;have B:=(eI d f).2;simp only[t4,q,d];exact l n u _ _ _ r r' A B
theorem kG(I:p7 X pins σ H s)(sm:u6 X.K ρ M H):∀(n:Nat) (A:d8) (x y:D) (vx vy:V) (u v:b7),A.units+n<j2->t5 X.K ρ H x vx->aN vx u->t5 X.K ρ H y vy->aN vy v->u3 M n x=a9->u3 M n y=a9 ->KF A s u v (t4 M n x y)/\SeqAt.RcAt A s u v (t4 M n x y)/\SeqAt.RcNeAt A s u v (!t4 M n x y):=by
 intro n;induction n with
 |zero =>
  intro A x y vx vy u v hu T z o m F f;cases T with
  |ty b=>simp[u3]at F
  |tup b=>simp[u3]at F
  |ref b=>simp[u3]at F
  |non =>
   cases z;cases o with
   |ty b=>simp[u3]at f
   |tup b=>simp[u3]at f
   |ref b=>simp[u3]at f
   |non=>cases m;exact⟨N9 _,SeqAt.RcAt.none_none,SeqAt.RcNeAt.none_none⟩
   |bl b=>cases m;exact⟨SeqAt.EqAt.none_bool _,SeqAt.RcAt.none_bool _,SeqAt.RcNeAt.none_bool _⟩
   |int b=>obtain⟨t,rfl⟩:=m;exact⟨SeqAt.EqAt.none_int _ _,SeqAt.RcAt.none_int _ _,SeqAt.RcNeAt.none_int _ _⟩
   |str b=>obtain⟨t,rfl⟩:=m;exact⟨SeqAt.EqAt.none_str _ _,SeqAt.RcAt.none_str _ _,SeqAt.RcNeAt.none_str _ _⟩
  |bl a =>
   cases z;cases o with
   |ty b=>simp[u3]at f
   |tup b=>simp[u3]at f
   |ref b=>simp[u3]at f
   |non=>cases m;exact⟨SeqAt.EqAt.bool_none _,SeqAt.RcAt.bool_none _,SeqAt.RcNeAt.bool_none _⟩
   |bl b=>cases m;exact⟨SeqAt.EqAt.bool_bool _ _,SeqAt.RcAt.bool_bool _ _,SeqAt.RcNeAt.bool_bool _ _⟩
   |int b=>obtain⟨t,rfl⟩:=m;exact⟨SeqAt.EqAt.bool_int _ _ _,SeqAt.RcAt.bool_int _ _ _,SeqAt.RcNeAt.bool_int _ _ _⟩
   |str b=>obtain⟨t,rfl⟩:=m;exact⟨SeqAt.EqAt.bool_str _ _ _,SeqAt.RcAt.bool_str _ _ _,SeqAt.RcNeAt.bool_str _ _ _⟩
  |int a =>
   obtain⟨t0,rfl⟩:=z;cases o with
   |ty b=>simp[u3]at f
   |tup b=>simp[u3]at f
   |ref b=>simp[u3]at f
   |non=>cases m;exact⟨SeqAt.EqAt.int_none _ _,SeqAt.RcAt.int_none _ _,SeqAt.RcNeAt.int_none _ _⟩
   |bl b=>cases m;exact⟨SeqAt.EqAt.int_bool _ _ _,SeqAt.RcAt.int_bool _ _ _,SeqAt.RcNeAt.int_bool _ _ _⟩
   |int b=>obtain⟨t,rfl⟩:=m;exact⟨Oq _ _ _ _,SeqAt.RcAt.int_int _ _ _ _,SeqAt.RcNeAt.int_int _ _ _ _⟩
   |str b=>obtain⟨t,rfl⟩:=m;exact⟨NF _ _ _ _,SeqAt.RcAt.int_str _ _ _ _,SeqAt.RcNeAt.int_str _ _ _ _⟩
  |str a =>
   obtain⟨t0,rfl⟩:=z;cases o with
   |ty b=>simp[u3]at f
   |tup b=>simp[u3]at f
   |ref b=>simp[u3]at f
   |non=>cases m;exact⟨SeqAt.EqAt.str_none _ _,SeqAt.RcAt.str_none _ _,SeqAt.RcNeAt.str_none _ _⟩
   |bl b=>cases m;exact⟨SeqAt.EqAt.str_bool _ _ _,SeqAt.RcAt.str_bool _ _ _,SeqAt.RcNeAt.str_bool _ _ _⟩
   |int b=>obtain⟨t,rfl⟩:=m;exact⟨NE _ _ _ _,SeqAt.RcAt.str_int _ _ _ _,SeqAt.RcNeAt.str_int _ _ _ _⟩
   |str b=>obtain⟨t,rfl⟩:=m;exact⟨Op _ _ _ _,SeqAt.RcAt.str_str _ _ _ _,SeqAt.RcNeAt.str_str _ _ _ _⟩
 |succ n ih =>
  intro A x y vx vy u v hu T z o m F f;have c:A.units<j2:=by lia
  have ai:A.in1.units+n<j2:=by show A.units+1+n<j2;lia
  -- what a list or a tuple is,as the heap has it
  have tupAt:∀{a:c6}{vs:List V}{ds:List D},A1 X.K H a vs->Reps X.K ρ H ds vs->∃its:List b7,aw vs its/\s.heap.IsTuple a its.toArray/\ds.length=its.length:=λ{a vs ds} q r=>by obtain⟨its,l,p,_⟩:=I.tuple q;exact⟨its,l,p,r.length.trans l.length⟩
  have lstAt:∀{i:Nat}{a:c6},ρ[i]?=a7 a->u3 M (n+1) (.ref i)=a9->∃w,M[i]?=a7 w/\∃vs its,Reps X.K ρ H w.items vs/\aw vs its/\s.heap.IsList a its.toArray/\w.items.length=its.length:=λ{i a} e ok=>by
   have hi:i<M.length:=by rw[<-sm.len];exact(w6.mp e).1
   have B:=v4 hi;obtain⟨vs,its,q,r,l,p⟩:=mw I sm e B (eI B ok).1;exact⟨_,B,vs,its,r,l,p.isList,r.length.trans l.length⟩
  have g:∀{xs ys:List D}{vs ws:List V}{its d:List b7},Reps X.K ρ H xs vs->aw vs its->Reps X.K ρ H ys ws->aw ws d->xs.all (u3 M n)=a9->ys.all (u3 M n)=a9 -> ∀(j:Nat) (h1:j<its.toArray.size) (h2:j<d.toArray.size),KF A.in1 s its.toArray[j] d.toArray[j] (t4 M n (xs.getD j .non)<|ys.getD j .non):=λ{xs ys vs ws its d} T q1 o q2 F f j h1 h2=>by
   have l1:j<xs.length:=by rw[T.length,q1.length];simpa using h1
   have l2:j<ys.length:=by rw[o.length,q2.length];simpa using h2
   obtain⟨v1,g1,p1⟩:=T.get<|v4 l1;obtain⟨v2,g2,p2⟩:=o.get<|v4 l2;obtain⟨u1,k1,m1⟩:=ja q1 g1;obtain⟨u2,k2,m2⟩:=ja q2 g2;have z1:its.toArray[j]=u1:=by have:=(w6.mp k1).2;simpa using this
   have z2:d.toArray[j]=u2:=by have:=(w6.mp k2).2;simpa using this
   rw[z1,z2];have y1:xs.getD j .non=xs[j]:=by simp[L8,v4 l1]
   have y2:ys.getD j .non=ys[j]:=by simp[L8,v4 l2]
   rw[y1,y2];exact(ih A.in1 _ _ _ _ _ _ ai p1 m1 p2 m2 (Fn.mp F _<|KY l1)<|Fn.mp f _<|KY l2).1
  have Z:∀(xs ys:List D),xs.length=ys.length->(B9 xs.length).all (λj=>t4 M n (xs.getD j .non)<|ys.getD j .non)=C5 (t4 M n) xs ys:=λxs ys h=>nC h λj x y h1 h2=>by simp[L8,h1,h2]
  have P:∀{a b:c6}{k:Bool},t5 X.K ρ H x (.ref a)->t5 X.K ρ H y (.ref b)->t4 M (n+1) x y=k->SeqAt.RcAt A s (.ref a) (.ref b) k->SeqAt.RcNeAt A s (.ref a) (.ref b) (!k) -> KF A s (.ref a) (.ref b) (t4 M (n+1) x y)/\SeqAt.RcAt A s (.ref a) (.ref b) (t4 M (n+1) x y)/\SeqAt.RcNeAt A s (.ref a) (.ref b) (!t4 M (n+1) x y):=λ{a b k} p1 p2 ek h1 h2=>by subst ek;refine⟨?_,h1,h2⟩;by_cases U:a=b;subst U;rw[CN I sm (n+1) x y _ p1 p2 F f];exact N9 _;exact SeqAt.EqAt.of_refs U h1
  cases T with
  |ty b=>simp[u3]at F
  |non =>
   cases z;cases o with
   |ty b=>simp[u3]at f
   |tup q r=>cases m;obtain⟨its,l,p,_⟩:=tupAt q r;exact⟨SeqAt.EqAt.none_tuple p c,SeqAt.RcAt.none_tuple p c,SeqAt.RcNeAt.none_tuple p c⟩
   |ref e=>cases m;obtain⟨w,B,vs,its,r,l,p,_⟩:=lstAt e f;exact⟨SeqAt.EqAt.none_list p c,SeqAt.RcAt.none_list p c,SeqAt.RcNeAt.none_list p c⟩
   |non=>cases m;exact⟨N9 _,SeqAt.RcAt.none_none,SeqAt.RcNeAt.none_none⟩
   |bl b=>cases m;exact⟨SeqAt.EqAt.none_bool _,SeqAt.RcAt.none_bool _,SeqAt.RcNeAt.none_bool _⟩
   |int b=>obtain⟨t,rfl⟩:=m;exact⟨SeqAt.EqAt.none_int _ _,SeqAt.RcAt.none_int _ _,SeqAt.RcNeAt.none_int _ _⟩
   |str b=>obtain⟨t,rfl⟩:=m;exact⟨SeqAt.EqAt.none_str _ _,SeqAt.RcAt.none_str _ _,SeqAt.RcNeAt.none_str _ _⟩
  |bl a =>
   cases z;cases o with
   |ty b=>simp[u3]at f
   |tup q r=>cases m;obtain⟨its,l,p,_⟩:=tupAt q r;exact⟨SeqAt.EqAt.bool_tuple _ p c,SeqAt.RcAt.bool_tuple _ p c,SeqAt.RcNeAt.bool_tuple _ p c⟩
   |ref e=>cases m;obtain⟨w,B,vs,its,r,l,p,_⟩:=lstAt e f;exact⟨SeqAt.EqAt.bool_list _ p c,SeqAt.RcAt.bool_list _ p c,SeqAt.RcNeAt.bool_list _ p c⟩
   |non=>cases m;exact⟨SeqAt.EqAt.bool_none _,SeqAt.RcAt.bool_none _,SeqAt.RcNeAt.bool_none _⟩
   |bl b=>cases m;exact⟨SeqAt.EqAt.bool_bool _ _,SeqAt.RcAt.bool_bool _ _,SeqAt.RcNeAt.bool_bool _ _⟩
   |int b=>obtain⟨t,rfl⟩:=m;exact⟨SeqAt.EqAt.bool_int _ _ _,SeqAt.RcAt.bool_int _ _ _,SeqAt.RcNeAt.bool_int _ _ _⟩
   |str b=>obtain⟨t,rfl⟩:=m;exact⟨SeqAt.EqAt.bool_str _ _ _,SeqAt.RcAt.bool_str _ _ _,SeqAt.RcNeAt.bool_str _ _ _⟩
  |int a =>
   obtain⟨t0,rfl⟩:=z;cases o with
   |ty b=>simp[u3]at f
   |tup q r=>cases m;obtain⟨its,l,p,_⟩:=tupAt q r;exact⟨SeqAt.EqAt.int_tuple _ _ p c,SeqAt.RcAt.int_tuple _ _ p c,SeqAt.RcNeAt.int_tuple _ _ p c⟩
   |ref e=>cases m;obtain⟨w,B,vs,its,r,l,p,_⟩:=lstAt e f;exact⟨SeqAt.EqAt.int_list _ _ p c,SeqAt.RcAt.int_list _ _ p c,SeqAt.RcNeAt.int_list _ _ p c⟩
   |non=>cases m;exact⟨SeqAt.EqAt.int_none _ _,SeqAt.RcAt.int_none _ _,SeqAt.RcNeAt.int_none _ _⟩
   |bl b=>cases m;exact⟨SeqAt.EqAt.int_bool _ _ _,SeqAt.RcAt.int_bool _ _ _,SeqAt.RcNeAt.int_bool _ _ _⟩
   |int b=>obtain⟨t,rfl⟩:=m;exact⟨Oq _ _ _ _,SeqAt.RcAt.int_int _ _ _ _,SeqAt.RcNeAt.int_int _ _ _ _⟩
   |str b=>obtain⟨t,rfl⟩:=m;exact⟨NF _ _ _ _,SeqAt.RcAt.int_str _ _ _ _,SeqAt.RcNeAt.int_str _ _ _ _⟩
  |str a =>
   obtain⟨t0,rfl⟩:=z;cases o with
   |ty b=>simp[u3]at f
   |tup q r=>cases m;obtain⟨its,l,p,_⟩:=tupAt q r;exact⟨SeqAt.EqAt.str_tuple _ _ p c,SeqAt.RcAt.str_tuple _ _ p c,SeqAt.RcNeAt.str_tuple _ _ p c⟩
   |ref e=>cases m;obtain⟨w,B,vs,its,r,l,p,_⟩:=lstAt e f;exact⟨SeqAt.EqAt.str_list _ _ p c,SeqAt.RcAt.str_list _ _ p c,SeqAt.RcNeAt.str_list _ _ p c⟩
   |non=>cases m;exact⟨SeqAt.EqAt.str_none _ _,SeqAt.RcAt.str_none _ _,SeqAt.RcNeAt.str_none _ _⟩
   |bl b=>cases m;exact⟨SeqAt.EqAt.str_bool _ _ _,SeqAt.RcAt.str_bool _ _ _,SeqAt.RcNeAt.str_bool _ _ _⟩
   |int b=>obtain⟨t,rfl⟩:=m;exact⟨NE _ _ _ _,SeqAt.RcAt.str_int _ _ _ _,SeqAt.RcNeAt.str_int _ _ _ _⟩
   |str b=>obtain⟨t,rfl⟩:=m;exact⟨Op _ _ _ _,SeqAt.RcAt.str_str _ _ _ _,SeqAt.RcNeAt.str_str _ _ _ _⟩
  |@tup a vs ds q r =>
   cases z;obtain⟨its,l,p,S⟩:=tupAt q r;cases o with
   |ty b=>simp[u3]at f
   |non=>cases m;exact⟨SeqAt.EqAt.tuple_none p c,SeqAt.RcAt.tuple_none p c,SeqAt.RcNeAt.tuple_none p c⟩
   |bl b=>cases m;exact⟨SeqAt.EqAt.tuple_bool _ p c,SeqAt.RcAt.tuple_bool _ p c,SeqAt.RcNeAt.tuple_bool _ p c⟩
   |int b=>obtain⟨t,rfl⟩:=m;exact⟨SeqAt.EqAt.tuple_int _ _ p c,SeqAt.RcAt.tuple_int _ _ p c,SeqAt.RcNeAt.tuple_int _ _ p c⟩
   |str b=>obtain⟨t,rfl⟩:=m;exact⟨SeqAt.EqAt.tuple_str _ _ p c,SeqAt.RcAt.tuple_str _ _ p c,SeqAt.RcNeAt.tuple_str _ _ p c⟩
   |ref e=>cases m;obtain⟨w,B,an,Y,r',Q,J,_⟩:=lstAt e f;exact⟨SeqAt.EqAt.tuple_list p J c,SeqAt.RcAt.tuple_list p J c,SeqAt.RcNeAt.tuple_list p J c⟩
   |@tup b ws es O r' =>
    cases m;obtain⟨d,Q,J,E⟩:=tupAt O r';have G:ds.all (u3 M n)=a9:=by simpa [u3]using F
    have L:es.all (u3 M n)=a9:=by simpa [u3]using f
    have aj:((B9<|min its.toArray.size d.toArray.size).all (λj=>t4 M n (ds.getD j .non)<|es.getD j .non)&&its.toArray.size==d.toArray.size)=C5 (t4 M n) ds es:=by rw[x9,x9];by_cases N:ds.length=es.length;rw[<-S,<-E,<-N,Nat.min_self,Z ds es N];simp;rw[AB N,<-S,<-E];simp[N]
    have h1:=SeqAt.RcAt.tuples p J c<|g r l r' Q G L;have h2:=SeqAt.RcNeAt.tuples p J c<|g r l r' Q G L;rw[aj]at h1 h2;exact P (.tup q r) (.tup O r') rfl h1 h2
  |@ref i a e =>
   cases z;obtain⟨w,B,vs,its,r,l,p,S⟩:=lstAt e F;cases o with
   |ty b=>simp[u3]at f
   |non=>cases m;exact⟨SeqAt.EqAt.list_none p c,SeqAt.RcAt.list_none p c,SeqAt.RcNeAt.list_none p c⟩
   |bl b=>cases m;exact⟨SeqAt.EqAt.list_bool _ p c,SeqAt.RcAt.list_bool _ p c,SeqAt.RcNeAt.list_bool _ p c⟩
   |int b=>obtain⟨t,rfl⟩:=m;exact⟨SeqAt.EqAt.list_int _ _ p c,SeqAt.RcAt.list_int _ _ p c,SeqAt.RcNeAt.list_int _ _ p c⟩
   |str b=>obtain⟨t,rfl⟩:=m;exact⟨SeqAt.EqAt.list_str _ _ p c,SeqAt.RcAt.list_str _ _ p c,SeqAt.RcNeAt.list_str _ _ p c⟩
   |tup O r'=>cases m;obtain⟨Y,Q,J,_⟩:=tupAt O r';exact⟨SeqAt.EqAt.list_tuple p J c,SeqAt.RcAt.list_tuple p J c,SeqAt.RcNeAt.list_tuple p J c⟩
   |@ref j b e' =>
    cases m;obtain⟨R,W,ws,d,r',Q,J,E⟩:=lstAt e' f;have G:w.items.all (u3 M n)=a9:=(eI B F).2;have L:R.items.all (u3 M n)=a9:=(eI W f).2;have ek:t4 M (n+1) (.ref i) (.ref j)=C5 (t4 M n) w.items R.items:=by simp only[t4,B,W]
    by_cases N:w.items.length=R.items.length;have C:its.toArray.size=d.toArray.size:=by rw[x9,x9,<-S,<-E,N]
    have h1:=SeqAt.RcAt.lists p J C c<|g r l r' Q G L;have h2:=SeqAt.RcNeAt.lists p J C c<|g r l r' Q G L;rw[x9,<-S,Z _ _ N]at h1 h2;exact P (.ref e) (.ref e') ek h1 h2;have C:(its.toArray.size != d.toArray.size)=a9:=by rw[x9,x9,<-S,<-E];simpa using N
    have h1:=SeqAt.RcAt.lists_lengths p J C c;have h2:=SeqAt.RcNeAt.lists_lengths p J C c;exact P (.ref e) (.ref e') (ek.trans<|AB N) h1 h2
noncomputable def t8:Nat:=30
def D0:E1:=λx y M Q=>(u3 M t8 x=a9/\u3 M t8 y=a9)/\Q (.bl<|t4 M t8 x y) M
def MV:E1:=λx y M Q=>(u3 M t8 x=a9/\u3 M t8 y=a9)/\Q (.bl<|!t4 M t8 x y) M
noncomputable def Lc(M:tx)(x:D)(ys:List D):Bool:=ys.any λy=>t4 M t8 y x
def Hj(g:Bool):E1:=λx y M Q=>match y with
 |.tup ys=>(u3 M t8 x=a9/\ys.all (u3 M t8)=a9)/\Q (.bl<|Lc M x ys != g) M
 |.ref n=>∃ys,al M n ys/\(u3 M t8 x=a9/\ys.all (u3 M t8)=a9)/\Q (.bl<|Lc M x ys != g) M
 |.str z=>match x with
  |.str p=>Q (.bl<|(!(OC z p 0 z.length 1).isEmpty) != g) M
  |_=>False
 |_=>False
abbrev L0:E1:=Hj bt
abbrev kE:E1:=Hj a9
end
section
variable{X:Cx}
theorem vT(i:Room k A):A.units+t8<j2:=by have:=i.un;unfold t8;lia
theorem od_eq(i:Room k X.A):E6 X (j0 .Eq) D0:=by rintro p s σ H d e v u R I g b ⟨x,y,M,ρ,Q,m,r,a,⟨⟨c,f⟩,q⟩,k⟩;exact(kG I m t8 X.A x y d e v u (vT i) r g a b c f).2.1 _ _ _ _<|fR I m k q
theorem od_ne(i:Room k X.A):E6 X (j0 .NotEq) MV:=by rintro p s σ H d e v u R I g b ⟨x,y,M,ρ,Q,m,r,a,⟨⟨c,f⟩,q⟩,k⟩;exact(kG I m t8 X.A x y d e v u (vT i) r g a b c f).2.2 _ _ _ _<|fR I m k q
theorem tS{pins:List (c6×c7)}{σ:St}{H:Hp}{s:d9}{ρ:List c6}{M:tx}(I:p7 X pins σ H s)(m:u6 X.K ρ M H):∀(n:Nat) (x y z:D) (v:V),t5 X.K ρ H x v->t5 X.K ρ H y v->u3 M n x=a9->u3 M n y=a9->t4 M n x z=t4 M n y z:=by
 have p:∀(n:Nat),(∀(x y z:D) (v:V),t5 X.K ρ H x v->t5 X.K ρ H y v->u3 M n x=a9->u3 M n y=a9->t4 M n x z=t4 M n y z) -> ∀(xs ys c:List D) (vs:List V),Reps X.K ρ H xs vs->Reps X.K ρ H ys vs->xs.all (u3 M n)=a9->ys.all (u3 M n)=a9->C5 (t4 M n) xs c=C5 (t4 M n) ys c:=by
  intro n A xs;induction xs with
  |nil=>intro ys c vs h1 h2 _ _;cases h1;cases h2;rfl
  |cons x xs hi =>
   intro ys c vs h1 h2 l f;cases h1 with
   |cons P S =>
    cases h2 with
    |cons Q T =>
     cases c with
     |nil=>rfl
     |cons z c=>rw[Kv,D8]at l f;rw[C5,C5,A _ _ z _ P Q l.1 f.1,hi _ c _ S T l.2 f.2]
 intro n;induction n with
 |zero=>intro x y z v h1 h2 l f;cases h1<;>cases h2<;>first|rfl|(cases z<;>rfl)
 |succ n A =>
  intro x y z v h1 h2 l f;cases h1 with
  |non=>cases h2;rfl
  |bl b=>cases h2;rfl
  |int b=>cases h2;rfl
  |str b=>cases h2;rfl
  |ty b=>cases h2;rfl
  |@tup a vs ds w r =>
   cases h2 with
   |tup h r' =>
    have e:=I.tuple_inj w h;subst e;cases z with
    |tup c=>exact p n A _ _ c _ r r' l f
    |_=>rfl
   |@ref i _ e =>
    exfalso;obtain⟨its,_,⟨o,B,C,_⟩,_⟩:=I.tuple w;have hi:i<M.length:=by rw[<-m.len];exact(w6.mp e).1
    obtain⟨t,g,_,_,_,⟨o',G,q,N,_⟩⟩:=mw I m e (v4 hi) (eI (v4 hi) f).1;rw[B]at q;cases q;rw[C]at N;injection N with f3;exact o0 f3<|by decide
  |@ref i a e =>
   have hi:i<M.length:=by rw[<-m.len];exact(w6.mp e).1
   have u:=v4 hi;obtain⟨vs,its,w,r,W,J⟩:=mw I m e u (eI u l).1;cases h2 with
   |tup h r'=>exfalso;obtain⟨g,_,⟨o,B,C,_⟩,_⟩:=I.tuple h;obtain⟨o',G,q,N,_⟩:=J;rw[B]at q;cases q;rw[C]at N;injection N with f3;exact o0 f3<|by decide
   |@ref j _ E =>
    have L:j<M.length:=by rw[<-m.len];exact(w6.mp E).1
    have d:=v4 L;obtain⟨t,g,h,r',R,O⟩:=mw I m E d (eI d f).1;have F:vs=t:=I.list_inj w h;subst F;cases z with
    |ref k =>
     simp only[t4,u,d];cases M[k]? with
     |none=>rfl
     |some U=>exact p n A _ _ _ _ r r' (eI u l).2 (eI d f).2
    |_=>rfl
theorem Al{k:Nat}(G:Room k X.A){pins:List (c6×c7)}{σ:St}{H:Hp}{s:d9}{ρ:List c6}{M:tx}(I:p7 X pins σ H s)(m:u6 X.K ρ M H){x:D}{l:V}{v:b7}(N:t5 X.K ρ H x l)(O:aN l v)(z:u3 M t8 x=a9):∀{ys:List D}{ws:List V}{its:List b7},Reps X.K ρ H ys ws->aw ws its->ys.all (u3 M t8)=a9->∃e:b7->Bool,(∀u∈its,KF X.A.in1 s u v<|e u)/\its.any e=Lc M x ys:=by
 have w:X.A.in1.units+t8<j2:=by have:=G.un;show X.A.units+1+t8<j2;unfold t8;lia
 intro ys ws its i vs ok
 classical
 refine⟨λu=>if h:∃d a,t5 X.K ρ H d a/\aN a u/\u3 M t8 d=a9 then t4 M t8 h.choose x else bt,λu C=>?_,?_⟩;obtain⟨j,L,B⟩:=List.getElem_of_mem C;have y:j<ws.length:=by rw[vs.length];exact L
 obtain⟨d,n,f⟩:=i.getV<|v4 y;obtain⟨F,b,T⟩:=ja vs<|v4 y;have:F=u:=by rw[v4 L]at b;cases b;exact B
 subst this;have o:=Fn.mp ok _<|F8 n;have h:∃d a,t5 X.K ρ H d a/\aN a F/\u3 M t8 d=a9:=⟨d,_,f,T,o⟩
 show KF X.A.in1 s F v (if h:_ then _ else _);rw[dif_pos h];obtain⟨a,g,p,c⟩:=h.choose_spec;have E:=aN.inj p T;subst E;rw[tS I m t8 _ d x _ g f c o];exact(kG I m t8 X.A.in1 d x _ l _ v w f T N O (Fn.mp ok _<|F8 n) z).1;clear w z;unfold Lc;induction ys generalizing ws its with
 |nil=>cases i;cases vs;rfl
 |cons d ds J =>
  cases i with
  |cons r t =>
  cases vs with
  |cons q t' =>
   rename_i a P u us;rw[Kv,D8]at ok;have h:∃d a,t5 X.K ρ H d a/\aN a u/\u3 M t8 d=a9:=⟨d,_,r,q,ok.1⟩
   rw[List.any_cons,List.any_cons,J t t' ok.2,dif_pos h];obtain⟨Q,g,p,c⟩:=h.choose_spec;have E:=aN.inj p q;subst E;rw[tS I m t8 _ d x _ g r c ok.1]
theorem Dx(g:Bool)(F:Room k X.A):E6 X (j0<|if g then .NotIn else .In) (Hj g):=by
 rintro G s σ H O P v u R I D E ⟨x,y,M,ρ,Q,m,B,K,q,k⟩;cases K with
 |non=>exact q.elim
 |bl b=>exact q.elim
 |int b=>exact q.elim
 |ty b=>exact q.elim
 |str z =>
  cases B with
  |str p =>
   obtain⟨t,rfl⟩:=D;obtain⟨t',rfl⟩:=E;cases g with
   |false=>exact in_str<|fR I m k<|by simpa [Hj]using q
   |true=>exact notIn_str<|fR I m k<|by simpa [Hj]using q
  |_=>exact q.elim
 |@tup a N ys j r =>
  cases E;obtain⟨⟨o,n⟩,q⟩:=(show (u3 M t8 x=a9/\_)/\_ from q)
  obtain⟨its,C,l,J⟩:=I.tuple j;obtain⟨e,i,f⟩:=Al F I m B D o r C n;have d:its.toArray.any e=Lc M x ys:=by rw[<-f];simp
  cases g with
  |false=>exact SeqAt.in_tupleAt e l (λw c=>i w<|by simpa using c)<|by rw[d];exact fR I m k<|by simpa using q
  |true=>exact SeqAt.notIn_tupleAt e l (λw c=>i w<|by simpa using c)<|by rw[d];exact fR I m k<|by simpa using q
 |ref h =>
  cases E;obtain⟨ys,L,⟨o,n⟩,q⟩:=(show ∃ys,al M _ ys/\(u3 M t8 x=a9/\_)/\_ from q)
  obtain⟨N,j,r⟩:=al.seq m L h;obtain⟨its,C,l,J⟩:=I.list j;obtain⟨e,i,f⟩:=Al F I m B D o r C n;have d:its.toArray.any e=Lc M x ys:=by rw[<-f];simp
  cases g with
  |false=>exact SeqAt.in_listAt e l.isList (λw c=>i w<|by simpa using c)<|by rw[d];exact fR I m k<|by simpa using q
  |true=>exact SeqAt.notIn_listAt e l.isList (λw c=>i w<|by simpa using c)<|by rw[d];exact fR I m k<|by simpa using q
theorem od_in(i:Room k X.A):E6 X (j0 .In) L0:=Dx bt i
theorem BT(i:Room k X.A):E6 X (j0 .NotIn) kE:=Dx a9 i
end
theorem JY:d7 "len" = a7 (.builtin "len"):=by decide +kernel
theorem Ka:d7 "any" = a7 (.builtin "any"):=by decide +kernel
theorem qK:d7 "isinstance" = a7 (.builtin "isinstance"):=by decide +kernel
theorem AX:d7 "sorted" = a7 (.builtin "sorted"):=by decide +kernel
theorem JZ:d7 "int" = a7 (.type "int"):=by decide +kernel
theorem Gx:d7 "bool" = a7 (.type "bool"):=by decide +kernel
theorem Di:d7 "tuple" = a7 (.type "tuple"):=by decide +kernel
theorem Gw:d7 "dict" = a7 (.type "dict"):=by decide +kernel
noncomputable def visB(c:e6)(x:b8):Bool:=match c.names.lookup x with
 |some .local=>a9
 |some .cell=>a9
 |some .free=>a9
 |_=>bt
theorem GM(h:visB sc x=a9):L5 sc x:=by unfold visB at h;unfold L5;split at h;rename_i e;exact .inl e;rename_i e;exact .inr<|.inl e;rename_i e;exact .inr<|.inr e;cases h
noncomputable def GF(c:e6)(x:b8):Bool:=match c.names.lookup x with
 |some .local=>a9
 |some .cell=>a9
 |_=>bt
theorem zQ(h:GF sc x=a9):LJ sc x:=by unfold GF at h;unfold LJ;split at h;rename_i e;exact .inl e;rename_i e;exact .inr e;cases h
structure HE(X:Cx)(e:f6)(t:u8):Prop where
 ok:DE X e t
structure HT(X:Cx)(e:f6)(t:E8):Prop where
 ok:DT X e t
structure HW(X:Cx)(e:f6)(t:E8):Prop where
 ok:DW X e t
structure HA(X:Cx)(es:List f6)(t:D9):Prop where
 ok:DA X es t
structure HS(X:Cx)(e:g7)(t:p9):Prop where
 ok:DS X e t
structure HB(X:Cx)(e:List g7)(t:p9):Prop where
 ok:K3 X e t
structure HG(X:Cx)(e:f6)(t:G4):Prop where
 ok:DG X e t
structure HI(X:Cx)(tg e:f6)(t:Ks):Prop where
 ok:DI X tg e t
structure Mw(X:Cx)(e:List f6)(t:E8):Prop where
 ok:Le X e (lowT X.K t)
structure HO'(X:Cx)(e:Option f6)(t:L7):Prop where
 ok:PO X e (Iu X.K t)
structure E7(X:Cx)(f:b7->b7->Sem b7)(r:E1):Prop where
 ok:E6 X f r
structure Pp(X:Cx)(f:b7->Sem b7)(r:Nj):Prop where
 ok:OT X f r
structure HC(X:Cx)(f:b7)(r:C6):Prop where
 ok:oo X f r
structure Pq(X:Cx)(name:b8)(r:b8->C6):Prop where
 ok:∃id,Slot "str" name id/\k7 (.builtin id)=pure (.type "method_descriptor")/\Ix X id (Fe X.K r)
structure Ni(X:Cx)(name:b8)(r:Nat->C6):Prop where
 ok:∃id,Slot "list" name id/\k7 (.builtin id)=pure (.type "method_descriptor")/\Ix X id (jV X.K r)
section
variable{X:Cx}{e a b c o:f6}{es aI:List f6}{te ta tb tc to:u8}{t:D9}{pos p:f8}{x:b8}{tA tB:E8}{k:Nat}
theorem k_var(h:X.N[i]?=a7 x:=by kernel_rfl)(c:visB X.env.scope x=a9:=by kernel_rfl)(a:(x==("__debug__":b8))=bt:=by kernel_rfl)(d:(x==("__classdict__":b8))=bt:=by kernel_rfl):HE X (.Name x pos) (ab i):=⟨d_var h (GM c) a d⟩
theorem k_int:HE X (.Constant (.int i) j pos) (dC<|.int i):=⟨d_int⟩
theorem k_bl:HE X (.Constant (.bool i) j pos) (dC<|.bl i):=⟨d_bl⟩
theorem k_non:HE X (.Constant .none j pos) (dC .non):=⟨d_non⟩
theorem k_str:HE X (.Constant (.str i) j pos) (dC<|.str i):=⟨d_str⟩
theorem IN(m:X.mg x=a8)(c:d7 x=a7 (.type T))(S:X.env.kindOf x=a7 .globalImplicit:=by kernel_rfl)(f:(x==("__name__":b8))=bt:=by kernel_rfl)(d:(x==("__debug__":b8))=bt:=by kernel_rfl):HE X (.Name x pos) (dC<|.ty T):=⟨JN m c S (by simpa using f) d⟩
theorem k_op(D:E7 X (i9 op) r)(f:HE X a ta)(d:HE X b tb):HE X (.BinOp a op b pos) (p6 r ta tb):=⟨d_op D.ok f.ok d.ok⟩
theorem k_un(D:Pp X (unaryOp op) r)(f:HE X a ta):HE X (.UnaryOp op a pos) (NR r ta):=⟨d_un D.ok f.ok⟩
theorem k_cmp(D:E7 X (j0 op) r)(f:HE X a ta)(d:HE X b tb)(m:j1 op b=bt:=by kernel_rfl):HE X (.Compare a [op] [b] pos) (p6 r ta tb):=⟨d_cmp D.ok f.ok d.ok m⟩
theorem IA(D:E7 X (j0 op) r)(f:HE X a ta)(d:HE X b tb)(m:j1 op b=bt:=by kernel_rfl):HT X (.Compare a [op] [b] pos) (aB<|p6 r ta tb):=⟨Jz D.ok f.ok d.ok m⟩
theorem FF(D:E7 X (j0 op) r)(h:E7 X (j0 op') r')(f:HE X a ta)(d:HE X b tb)(e:HE X c tc)(m:lastMarks [op,op'] [b,c]=bt:=by kernel_rfl):HE X (.Compare a [op,op'] [b,c] pos) (ua r r' ta tb tc):=⟨Gn D.ok h.ok f.ok d.ok e.ok m⟩
theorem Iy(h:HE X e te)(i:∀whole,isTrue e X.env whole=(do let v <-whole;standAt e.pos;g8 [v] (truthy v)):=by intro _;kernel_rfl):HT X e (aB te):=⟨Jx h.ok i⟩
theorem Fm(f:HT X a tA):HW X (.BoolOp .And [a] pos) tA:=⟨FY f.ok⟩
theorem Iv(f:HT X a tA):HW X (.BoolOp .Or [a] pos) tA:=⟨Jv f.ok⟩
theorem Dz(f:HT X a tA)(d:HW X (.BoolOp .And (b::aI) pos) tB):HW X (.BoolOp .And (a::b::aI) pos) (GH tA tB):=⟨Jw f.ok d.ok⟩
theorem Iw(f:HT X a tA)(d:HW X (.BoolOp .Or (b::aI) pos) tB):HW X (.BoolOp .Or (a::b::aI) pos) (L1 tA tB):=⟨dw_or f.ok d.ok⟩
theorem kw_t(h:HW X e tA):HT X e tA:=⟨dw_t h.ok⟩
theorem Iz(f:HT X a tA):HT X (.UnaryOp .Not a pos) (Gp tA):=⟨Jy f.ok⟩
theorem k_one{op}(h:HE X a ta):HE X (.BoolOp op [a] pos) ta:=⟨d_one h.ok⟩
theorem k_and(f:HE X a ta)(d:HE X (.BoolOp .And (b::aI) pos) tb):HE X (.BoolOp .And (a::b::aI) pos) (jC ta tb):=⟨d_and f.ok d.ok⟩
theorem k_or(f:HE X a ta)(d:HE X (.BoolOp .Or (b::aI) pos) tb):HE X (.BoolOp .Or (a::b::aI) pos) (dOrV ta tb):=⟨d_or f.ok d.ok⟩
theorem k_not(f:HE X a ta):HE X (.UnaryOp .Not a pos) (Dc ta):=⟨d_not f.ok⟩
theorem IM:HA X [] ag:=⟨JM⟩
theorem FA(f:HE X e te)(i:HA X es t)(hs:ge (e::es) X.env=(bt,eval e X.env)::ge es X.env:=by kernel_rfl):HA X (e::es) (aa te t):=⟨Gk f.ok i.ok hs⟩
theorem k_tup{x1}(h:HA X es t):HE X (.Tuple es x1 pos) (ig t):=⟨d_tup h.ok⟩
theorem k_lst(h:HA X es t):HE X (.List es pos) (jB t):=⟨d_lst h.ok⟩
theorem FG{id:String}{r:C6}(c:HC X (.builtin id) r)(d:X.mg x=a8)(v:d7 x=a7 (.builtin id))(f:HA X (e::es) t)(S:X.env.kindOf x=a7 .globalImplicit:=by kernel_rfl)(n:(x==("__name__":b8))=bt:=by kernel_rfl)(b:(x==("__debug__":b8))=bt:=by kernel_rfl)(i:ge (e::es) X.env=(bt,eval e X.env)::ge es X.env:=by kernel_rfl) (l:(f9 pos<|ge es X.env).any (·.1)=bt:=by kernel_rfl):HE X (.Call (.Name x p) (e::es) [] pos) (s9 r t):=⟨Go c.ok d v f.ok S (by simpa using n) b i l⟩
theorem Cv(c:HC X (.type T) r)(d:X.mg x=a8)(v:d7 x=a7 (.type T))(f:HA X (e::es) t)(S:X.env.kindOf x=a7 .globalImplicit:=by kernel_rfl)(n:(x==("__name__":b8))=bt:=by kernel_rfl)(b:(x==("__debug__":b8))=bt:=by kernel_rfl)(i:ge (e::es) X.env=(bt,eval e X.env)::ge es X.env:=by kernel_rfl) (l:(f9 pos<|ge es X.env).any (·.1)=bt:=by kernel_rfl):HE X (.Call (.Name x p) (e::es) [] pos) (s9 r t):=⟨Da c.ok d v f.ok S (by simpa using n) b i l⟩
theorem k_cal(C:t9 X.prog X.w X.K X.mg X.base j x ps P)(r:Room k X.A)(f:HA X (e::es) t)(L:Nat.ble j k=a9:=by kernel_rfl)(S:X.env.kindOf x=a7 .globalImplicit:=by kernel_rfl) (b:(x==("__debug__":b8))=bt:=by kernel_rfl) (i:ge (e::es) X.env=(bt,eval e X.env)::ge es X.env:=by kernel_rfl) (l:(f9 pos<|ge es X.env).any (·.1)=bt:=by kernel_rfl):HE X (.Call (.Name x p) (e::es) [] pos) (s9 P t):=⟨d_cal C r f.ok (Nat.le_of_ble_eq_true L) S b i l⟩
theorem k_ix(f:HE X a ta)(d:HE X b tb)(hs:vO b:=by intro _ _;kernel_rfl):HE X (.Subscript a b pos) (p6 u7 ta tb):=⟨d_ix f.ok d.ok hs⟩
theorem Fw:HO' X a8 gB:=⟨Gf⟩
theorem Fv(h:HE X e te):HO' X (a7 e) (oh te):=⟨Ge h.ok⟩
theorem FC{lo hi:Option f6}{t h:L7}{j:f8}(i:HE X e te)(g:HO' X lo t)(u:HO' X hi h):HE X (.Subscript e (.Slice lo hi a8 j) pos) (Lr te t h):=⟨Gm i.ok g.ok u.ok⟩
variable{name:b8}{apos cpos:f8}
theorem k_ms(d:Pq X name r)(D:HE X o to)(f:HA X (e::es) t)(h:k9 o name X.env (eval o X.env)=eval o X.env:=by kernel_rfl)(w:((f9 cpos<|ge (e::es) X.env).all (λx=>!x.1)&&(l7 cpos<|l8 [] X.env).all (λx=>x.1.isSome) && decide ((e::es).length+([]:List j5).length+(if ([]:List j5).isEmpty then 0 else 1)<30))=a9:=by kernel_rfl)(a:(apos.endLine==cpos.line)=a9:=by kernel_rfl) (hs:ge (e::es) X.env=(bt,eval e X.env)::ge es X.env:=by kernel_rfl) (n:(f9 cpos<|ge es X.env).any (·.1)=bt:=by kernel_rfl):HE X (.Call (.Attribute o name apos) (e::es) [] cpos) (NT r to t):=let ⟨_,h1,h2,h3⟩:=d.ok;⟨d_ms h1 h2 h3 D.ok f.ok h w a hs n⟩
theorem k_ml(d:Ni X name r)(D:HE X o to)(f:HA X (e::es) t)(h:k9 o name X.env (eval o X.env)=eval o X.env:=by kernel_rfl)(w:((f9 cpos<|ge (e::es) X.env).all (λx=>!x.1)&&(l7 cpos<|l8 [] X.env).all (λx=>x.1.isSome) && decide ((e::es).length+([]:List j5).length+(if ([]:List j5).isEmpty then 0 else 1)<30))=a9:=by kernel_rfl)(a:(apos.endLine==cpos.line)=a9:=by kernel_rfl) (hs:ge (e::es) X.env=(bt,eval e X.env)::ge es X.env:=by kernel_rfl) (n:(f9 cpos<|ge es X.env).any (·.1)=bt:=by kernel_rfl):HE X (.Call (.Attribute o name apos) (e::es) [] cpos) (KG r to t):=let ⟨_,h1,h2,h3⟩:=d.ok;⟨d_ml h1 h2 h3 D.ok f.ok h w a hs n⟩
variable{st:g7}{sts:List g7}{ts us:p9}{aS bS:List g7}
theorem IC:HB X [] bu:=⟨JD⟩
theorem IB(h:HS X st ts):HB X [st] ts:=⟨JC h.ok⟩
theorem Fu(h1:HS X st ts)(h2:HB X sts us):HB X (st::sts) (av ts us):=⟨Gd h1.ok h2.ok⟩
theorem Ab(i:HE X e te)(hs:g9 e a8 pos.line X.env=pure bt:=by kernel_rfl):HS X (.Expr e pos) (kb te):=⟨Gc i.ok hs⟩
theorem DF(i:HE X e te):HS X (.Return (a7 e) pos) (bg te):=⟨JB i.ok⟩
theorem ID(h:HT X c tA)(f:HB X aS ts)(d:HB X bS us):HS X (.If c aS bS pos) (A9 tA ts us):=⟨ds_if h.ok f.ok d.ok⟩
theorem DC(h:X.N.Nodup)(a:HE X e te)(hi:X.N[i]?=a7 x:=by kernel_rfl)(b:GF X.env.scope x=a9:=by kernel_rfl)(hs:g9 e (a7<|.Name x pos') pos.line X.env=pure bt:=by kernel_rfl)(f:X.fn x=a9:=by kernel_rfl):HS X (.Assign [.Name x pos'] e pos) (aU te i):=⟨JA h a.ok hi (zQ b) hs<|.inl f⟩
theorem Fz(h:X.N.Nodup)(hi:X.N[i]?=a7 x:=by kernel_rfl)(a:GF X.env.scope x=a9:=by kernel_rfl)(f:X.fn x=a9:=by kernel_rfl):HG X (.Name x pos) (ak i):=⟨vG h hi (zQ a)<|.inl f⟩
theorem II(h:X.N.Nodup)(hi:X.N[i]?=a7 x:=by kernel_rfl)(f:X.env.scope.names.lookup x=a7 .local:=by kernel_rfl):HG X (.Name x pos) (ak i):=⟨vG h hi (.inl f)<|.inr f⟩
variable{tg iter:f6}{di:Ks}{g:G4}
theorem IE(h:HE X e te):HI X tg e (bp te):=⟨JH h.ok⟩
theorem DH{a:List g7}{b:p9}(hi:HI X tg iter di)(S:HG X tg g)(d:HB X a b)(p:PassesOwn (f7 X.prog X.w) X.A X.env X.xe:=by exact PassesOwn.never)(f:X.calm=a9:=by kernel_rfl)(hs:∀x,i8 iter X.env x=pure x:=by intro _;kernel_rfl):HS X (.For tg iter a [] pos) (kW di g b):=⟨JE hi.ok S.ok d.ok p f hs⟩
theorem Fs:Mw X [] nL:=⟨Ga⟩
theorem Fq(h:HT X c tA):Mw X [c] tA:=⟨FZ h.ok⟩
theorem k_lc(hi:HI X tg iter di)(S:∀cl s0 H0 ex,HG (z6 X N' scope cl s0 H0 ex) tg g) (E:∀cl s0 H0 ex,Mw (z6 X N' scope cl s0 H0 ex) ifs tt) (i:∀cl s0 H0 ex,HE (z6 X N' scope cl s0 H0 ex) elt te) (B:pC X.env.scope.names X.N N' nt js scope=a9:=by kernel_rfl) (f:X.calm=a9:=by kernel_rfl)(hs:∀x,i8 iter X.env x=pure x:=by intro _;kernel_rfl):HE X (.ListComp elt [⟨tg,iter,ifs,0⟩] scope pos) (D1 nt js di g tt te):=⟨d_lc (BlkSc.chk B) hi.ok (λcl s0 H0 ex=>(S cl s0 H0 ex).ok) (λcl s0 H0 ex=>(E cl s0 H0 ex).ok) (λcl s0 H0 ex=>(i cl s0 H0 ex).ok) f hs⟩
theorem Ae(d:X.mg "range" = a8)(f:HA X [a] t)(S:X.env.kindOf "range" = a7 .globalImplicit:=by kernel_rfl)(hs:ge [a] X.env=[(bt,eval a X.env)]:=by kernel_rfl):HI X tg (.Call (.Name "range" p) [a] [] pos) (cj t):=⟨AH d f.ok S hs⟩
theorem Jc:E7 X (i9 .Sub) GC:=⟨Ii⟩
theorem Jf:E7 X (i9 .Mult) jL:=⟨EZ⟩
theorem FM:E7 X (i9 .FloorDiv) aJ:=⟨Fa⟩
theorem Jg:E7 X (i9 .Mod) cx:=⟨Il⟩
theorem ho_lt:E7 X (j0 .Lt) KM:=⟨od_lt⟩
theorem ho_le:E7 X (j0 .LtE) MW:=⟨od_le⟩
theorem ho_gt:E7 X (j0 .Gt) Lq:=⟨od_gt⟩
theorem ho_ge:E7 X (j0 .GtE) MY:=⟨od_ge⟩
theorem ho_is:E7 X (j0 .Is) MX:=⟨od_is⟩
theorem ho_eq(i:Room k X.A):E7 X (j0 .Eq) D0:=⟨od_eq i⟩
theorem ho_ne(i:Room k X.A):E7 X (j0 .NotEq) MV:=⟨od_ne i⟩
theorem ho_in(i:Room k X.A):E7 X (j0 .In) L0:=⟨od_in i⟩
theorem CC(i:Room k X.A):E7 X (j0 .NotIn) kE:=⟨BT i⟩
theorem Jb:Pp X (unaryOp .USub) Hi:=⟨GO⟩
theorem Jl:HC X (.builtin "len") kZ:=⟨JU⟩
theorem Jn(f:X.calm=a9:=by kernel_rfl):HC X (.builtin "any") Hk:=⟨JW f⟩
theorem Jm:HC X (.builtin "isinstance") Eu:=⟨JV⟩
theorem Ap:Ni X "append" cB:=⟨_,PySem.F.slot_list_append,PySem.F.type_list_append,xN⟩
end
theorem t9.byH{P:c5}{w:b9}{K:t6}{mg:b8->Option b7}{base:c8}{x:b8}{st:g7}{N ps:List b8}{k:Nat}{d:v6}(F:bV K mg x st ps)(i:FnScope N ps (au st))(B:∀ds M R,d ds M R->ds.length=ps.length) {t:p9}(r:∀(f:c6) (cdv:b7) (A:d8) (outer:List Env) (s:d9) (H:Hp) (E:XK),Room k (A.deeper<|j7 x (au st) s.heap.objs.size f cdv)->HB (yq I0 P w K mg base N x (au st) f cdv A outer s H E).nox (cg st) t)(p:∀ds M R,d ds M R->t ⟨λ_ M'=>aO M R .non M',aO M R,λ_ _=>False,λ_ _=>False⟩ (eJ N ds) M):t9 P w K mg base (k+1) x ps d:=t9.of F i B (λf cdv A outer s H E h=>(r f cdv A outer s H E h).ok) p
theorem CK{P:c5}{w:b9}{K:t6}{mg:b8->Option b7}{base:c8}{x:b8}{st:g7}{N ps:List b8}{k:Nat}{d:v6}{f:c6}{a:j3}(F:KO K x x st f a)(i:FnScope N ps (au st))(B:∀ds M R,d ds M R->ds.length=ps.length) {t:p9}(r:∀(f:c6) (cdv:b7) (A:d8) (outer:List Env) (s:d9) (H:Hp) (E:XK),Room k (A.deeper<|j7 x (au st) s.heap.objs.size f cdv)->HB (yq I0 P w K mg base N x (au st) f cdv A outer s H E).nox (cg st) t)(p:∀ds M R,d ds M R->t ⟨λ_ M'=>aO M R .non M',aO M R,λ_ _=>False,λ_ _=>False⟩ (eJ N ds) M):FnOk P w K mg base I0 (k+1) f a ps (KL K d):=FU F i B (λf cdv A outer s H E h=>(r f cdv A outer s H E h).ok) p
section
variable{ok:tx->Prop}{g:G4}{tb:p9}{E:DEnds}{k0:tx}
theorem gW(I:List D->SD->tx->Prop)(h0:∀S M,I [] S M->ok M/\E.nx S M)(h1:∀x xs S M,I (x::xs) S M->∀L:SD->tx->Prop,(∀S' M',I xs S' M'->L S' M')->ok M/\g x S M λS2 M2=>tb ⟨A4 k0 L,E.rt,E.nx,A4 k0 L⟩ S2 M2):∀xs S M,I xs S M->tZ ok g tb E k0 xs S M
 | [],S,M,h=>h0 S M h
 |x::xs,S,M,h=>h1 x xs S M h _<|gW I h0 h1 xs
theorem aY(I:Nat->SD->tx->Prop)(a:∀S M,I xs.length S M->ok M/\E.nx S M)(h1:∀i x S M,xs[i]?=a7 x->I i S M->∀L:SD->tx->Prop,(∀S' M',I (i+1) S' M'->L S' M')->ok M/\g x S M λS2 M2=>tb ⟨A4 k0 L,E.rt,E.nx,A4 k0 L⟩ S2 M2)(h:I 0 S M):tZ ok g tb E k0 xs S M:=by
 refine gW (λys S M=>∃i,xs.drop i=ys/\i+ys.length=xs.length/\I i S M) ?_ ?_ xs S M ⟨0,rfl,by simp,h⟩;rintro S M ⟨i,_,e,q⟩;have:i=xs.length:=by simpa using e
 subst this;exact a S M q;rintro x ys S M ⟨i,e,l,q⟩ L b;have c:xs[i]?=a7 x:=by
  have:(xs.drop i)[0]?=a7 x:=by rw[e];rfl
  simpa using this
 refine h1 i x S M c q L λS' M' j=>b S' M' ⟨i+1,?_,by simp at l;lia,j⟩;rw[<-List.drop_drop,e];rfl
theorem A4.now(h:P S M):A4 k0 P S M:=.inl h
theorem cL{lo:Int}{n i:Nat}{x:D}:(gP lo n)[i]?=a7 x↔i<n/\x=.int (lo+(i:Int)):=by unfold gP;rw[C8];by_cases h:i<n;simp[h,eq_comm];simp[h]
theorem bd{lo:Int}{n:Nat}:(gP lo n).length=n:=by simp[gP]
end
theorem aG(p:D->Bool)(f:D->D)(I:SD->Prop)(hok:ok M):∀(xs acc:List D) (S:SD),(∀x∈xs,∀S,I S->∃S',I S'/\∀(Y:D->SD->tx->Prop) (Z:SD->tx->Prop),(if p x=a9 then Y (f x) S' M else Z S' M) -> g x S M λS2 M2=>tt S2 M2 λb M3=>if b=a9 then te S2 M3 λy M4=>Y y S2 M4 else Z S2 M3) ->I S->acc.length+xs.length<=sizeLine->Q (.ref M.length) (M++[.lst<|acc++(xs.filter p).map f])->oj ok g tt te Q xs acc S M
 | [],acc,S,_,_,_,q=>⟨hok,by simpa using q⟩
 |x::xs,acc,S,step,hS,hl,q=>by obtain⟨S',hS',k⟩:=step x D4 S hS;refine⟨hok,k (λy S2 M4=>acc.length<sizeLine/\oj ok g tt te Q xs (acc++[y]) S2 M4) (λS2 M3=>oj ok g tt te Q xs acc S2 M3) ?_⟩;have step':=λy hy=>step y<|A2 _ hy;rw[C7]at hl;by_cases hp:p x=a9;rw[n6 hp];refine⟨by lia,aG p f I hok xs _ S' step' hS' (by rw[x5,F5];lia) ?_⟩;rw[List.filter_cons_of_pos hp,A3]at q;rw[F3];exact q;rw[n9 hp];refine aG p f I hok xs acc S' step' hS' (by lia) ?_;rw[List.filter_cons_of_neg hp]at q;exact q
theorem aZ(f:D->D)(I:SD->Prop)(K:ok M)(xs acc:List D) (S:SD) (L:∀x∈xs,∀S,I S->∃S',I S'/\∀(Y:D->SD->tx->Prop),Y (f x) S' M->g x S M λS2 M2=>te S2 M2 λy M4=>Y y S2 M4)(a:I S) (l:acc.length+xs.length<=sizeLine) (q:Q (.ref M.length) (M++[.lst<|acc++xs.map f])):oj ok g nL te Q xs acc S M:=by refine aG (λ_=>a9) f I K xs acc S (λx c S a=>?_) a l (by rw[List.filter_eq_self.mpr λ_ _=>rfl];exact q);obtain⟨S',b,k⟩:=L x c S a;refine⟨S',b,λY Z h=>?_⟩;rw[n6 rfl]at h;have:=k Y h;simp only[nL,o7];exact this
theorem ad:(M++[mo])[M.length]?=a7 mo:=by simp
theorem ae:al (M++[.lst xs]) M.length xs:=.inl ad
theorem al.more(h:al M n xs)(L:tx):al (M++L) n xs:=by
 have l:∀{mo:MO},M[n]?=a7 mo->(M++L)[n]?=a7 mo:=λe=>by rw[J5 (w6.mp e).1];exact e
 rcases h with h|h|h;exact .inl<|l h;exact .inr<|.inl<|l h;exact .inr<|.inr<|l h
theorem aO.keep(h:R d M)(b:C2 M.length d)(p:M <+: M'):aO M R d M':=.inr<|.inl ⟨M,.refl,b,p,h⟩
theorem aO.now(h:R d M):aO M R d M:=.inl h
theorem aO.bl(h:R (.bl b) M)(p:M <+: M'):aO M R (.bl b) M':=.keep h (.bl b) p
theorem aO.str(h:R (.str b) M)(p:M <+: M'):aO M R (.str b) M':=.keep h (.str b) p
theorem bc:M <+: M++[mo]:=Kq _ _
theorem Ek{a b:b8}(h:a.cps.toList=b.cps.toList):a=b:=by cases a;cases b;simp only[Array.toList_inj]at h;simpa using h
theorem fu{a:b8}:a.length=a.cps.toList.length:=by show a.cps.size=_;simp
theorem qL{a b:b8}:(a++b).cps.toList=a.cps.toList++b.cps.toList:=by show (a.cps++b.cps).toList=_;simp
theorem dA{a b:b8}:(a++b).length=a.length+b.length:=by rw[fu,fu,fu,qL,x5]
theorem iI:(⟨#[c]⟩:b8).length=1:=rfl
theorem ao(h:n<=1000):n<=sizeLine:=Lv<|ar h
theorem AZ{α:Type}{xs:List α}{i:Int}(a:0<=i)(h1:i<xs.length):∃(j:Nat) (hj:j<xs.length),atI xs i=a7 xs[j]/\(j:Int)=i:=by
 have hj:i.toNat<xs.length:=by lia
 refine⟨i.toNat,hj,?_,by lia⟩;have e:i=((i.toNat:Nat):Int):=by lia
 have q:atI xs ((i.toNat:Nat):Int)=a7 xs[i.toNat]:=ap<|v4 hj;rw[<-e]at q;exact q
section
variable{M:tx}
theorem qZ(h:C9 M (.ref n)∈uv):C9 M (.ref n) = "list":=by
 unfold C9 at h ⊢
 try dsimp only at h ⊢
 cases e:M[n]? with
 |some b =>
  rw[e]at h;cases q:b.isL with
  |true=>exact n6 q
  |false=>simp only[q,x3,o6]at h;exact o0 h<|by decide
 |none=>rw[e]at h;exact o0 h<|by decide
end
section
variable{M:tx}
theorem al.get(h:al M n xs):∃mo,M[n]?=a7 mo/\mo.items=xs/\mo.isL=a9:=by rcases h with h|h|h<;>exact⟨_,h,rfl,rfl⟩
theorem wR(h1:al M i xs)(h2:al M j ys):t4 M (n+1) (.ref i) (.ref j)=C5 (t4 M n) xs ys:=by obtain⟨a,f,rfl,h⟩:=h1.get;obtain⟨b,d,rfl,c⟩:=h2.get;simp only[t4,f,d]
theorem qd(h1:al M i xs)(h:∀x∈xs,u3 M n x=a9):u3 M (n+1) (.ref i)=a9:=by obtain⟨a,f,rfl,b⟩:=h1.get;simp only[u3,f,b,Bool.true_and];exact Fn.mpr h
theorem EX(h:∀x∈xs,u3 M n x=a9):u3 M (n+1) (.tup xs)=a9:=by simp only[u3];exact Fn.mpr h
theorem aM:u3 M n (.str x)=a9:=by cases n<;>rfl
theorem aE:u3 M n (.int x)=a9:=by cases n<;>rfl
theorem Dw:u3 M n (.bl x)=a9:=by cases n<;>rfl
theorem zG:u3 M n .non=a9:=by cases n<;>rfl
theorem FV:C5 f xs []=xs.isEmpty:=by cases xs<;>rfl
theorem iS:t4 M n (.int a) (.int b)=(a==b):=by cases n<;>rfl
theorem cG:t4 M n (.str a) (.str b)=(a==b):=by cases n<;>rfl
end
section
variable{X:Cx}{pos:f8}
def nE:DY:=λds S M Q=>match ds with
 | []=>Q S M
 |_=>False
def cf(t:G4)(u:DY):DY:=λds S M Q=>match ds with
 |d::r=>t d S M λb a=>u r b a Q
 | []=>False
def nD(n:Nat)(t:DY):G4:=λd S M Q=>match d with
 |.tup ds=>ds.length=n/\t ds S M Q
 |_=>False
theorem Gh:Nk X [] nE:=by
 rintro p s σ H vs us R I r ⟨ds,S,M,ρ,Q,m,c,f,q,k⟩;cases f with
 |nil=>exact EK p s σ H _ us R I r ⟨rfl,k σ H ⟨S,M,ρ,m,.refl,c,q⟩⟩
 |cons _ _=>exact q.elim
theorem CY(h1:DG X e t)(h2:Nk X es u)(hs:(i3 (e::es) X.env).map (·.2)=h7 e X.env::(i3 es X.env).map (·.2):=by rfl):Nk X (e::es) (cf t u):=by
 rintro p s σ H vs us R I r ⟨ds,S,M,ρ,Q,m,l,f,q,k⟩;cases f with
 |nil=>exact q.elim
 |cons i f=>refine BG h1 h2 hs p s σ H _ us R I r ⟨_,_,rfl,_,S,M,ρ,_,m,l,i,q,?_⟩;rintro n o ⟨g,d,c,j,g1,a,h⟩;exact⟨_,g,d,c,Q,j,a,f.grow g1,h,λb H' w=>k b H'<|SQ.trans g1 w⟩
theorem JJ(h:Nk X es t)(a:X.calm=a9:=by rfl)(b:(i3 es X.env).length=n:=by rfl) (c:(i3 es X.env).findIdx? (·.1)=a8:=by rfl):DG X (.Tuple es j pos) (nD n t):=by
 rintro p s σ H v u R I r ⟨d,S,M,ρ,Q,m,i,g,q,k⟩;cases g with
 |tup e f=>exact Hw a h b c p s σ H _ u R I r ⟨_,_,rfl,e,by rw[<-f.length];exact q.1,_,S,M,ρ,Q,m,i,f,q.2,k⟩
 |_=>exact q.elim
def dAsg(te:u8)(g:G4):p9:=λE S M=>te S M λd a=>g d S a E.nx
theorem JF(i:DE X e te)(h:DG X tg g)(hs:swapsWithSole [tg] e pos.line X.env=pure bt:=by rfl)(f:swappedStores [tg] e X.env=pure a8:=by rfl)(h1:(i3 [tg] X.env).map (·.2)=[h7 tg X.env]:=by rfl):DS X (.Assign [tg] e pos) (dAsg te g):=by refine PS.imp (Hv i h hs f h1) ?_;rintro E σ H ⟨S,M,ρ,F,s,r,q,k⟩;refine⟨S,M,ρ,_,s,r,q,?_⟩;rintro v n ⟨d,b,c,m,g1,l,j⟩;exact⟨d,S,b,c,_,m,r.grow g1,l,j,λa H' w=>k.nx a H'<|SQ.trans g1 w⟩
def qSet:D->D->D->tx->(tx->Prop)->Prop:=λo i v M Q=>match o,i with
 |.ref n,.int k=>∃xs j,M[n]?=a7 (.lst xs)/\K2 xs.length k=a7 j/\Q (M.set n<|.lst<|xs.set j v)
 |_,_=>False
theorem Reps.set{K:t6}{ρ:List c6}{H:Hp}{d:D}{v:V}(r:t5 K ρ H d v):∀{ds:List D}{vs:List V} (i:Nat),Reps K ρ H ds vs->Reps K ρ H (ds.set i d) (vs.set i v)
 |_,_,_,.nil=>.nil
 |_,_,0,.cons _ t=>.cons r t
 |_,_,i+1,.cons q t=>.cons q<|Reps.set r i t
def CZ(e d:u8):G4:=λv S M Q=>e S M λo a=>d S a λi M2=>qSet o i v M2 λb=>Q S b
theorem JK(D:DE X o to)(hi:DE X i ti)(C:∀v,h7 (.Subscript o i pos) X.env v=(do
   let ov <-g8 [v] (eval o X.env)
   let iv <-g8 [v,ov] (eval i X.env)
   standAt pos
   g8 [v,ov,iv] (setItem ov iv v)
   release [v,ov,iv] []):=by intro _;rfl):DG X (.Subscript o i pos) (CZ to ti):=by
 rintro p s σ H v u R I r ⟨d,S,M,ρ,Q,O,f,K,q,k⟩;refine Hy D hi By C p s σ H v u R I r ⟨S,M,ρ,_,O,f,q,?_⟩;rintro W T ⟨o',B,h,N,g1,G,E⟩;refine⟨S,B,h,_,N,f.grow g1,E,?_⟩;rintro V U ⟨i',M2,l,z,g,J,b⟩;have c:=G.grow g;cases c with
 |@ref n a t =>
  cases J with
  |int j =>
   obtain⟨xs,x,e,L,F⟩:=(show ∃xs w,M2[n]?=a7 (.lst xs)/\K2 xs.length j=a7 w/\Q S (M2.set n<|.lst<|xs.set w d)from b)
   obtain⟨vs,m,y⟩:=z.obj n a _ t e;obtain⟨P,A⟩:=z.write t e m<|Reps.set (K.grow<|g1.trans g) x y;exact⟨a,vs,j,x,rfl,rfl,m,by rw[<-y.length];exact L,k σ _ ⟨S,_,l,P,(g1.trans g).trans A,f.grow<|(g1.trans g).trans A,F⟩⟩
  |_=>exact b.elim
 |_=>exact b.elim
def gc:C6:=λds M Q=>match ds with
 | [.ref n]=>∃xs,al M n xs/\Q (.tup xs) M
 | [.tup xs]=>Q (.tup xs) M
 |_=>False
theorem Dh:oo X (.type "tuple") gc:=by
 refine gK.imp qI ?_;rintro vs H R ⟨ds,M,ρ,Q,m,a,q,k⟩;unfold gc at q;split at q;obtain⟨xs,L,q⟩:=q
 first|have z:=Reps.inv_cons a|have z:=aw.inv_cons a
 clear a;obtain⟨_,_,rfl,b,a⟩:=z;cases a;obtain⟨_,rfl,e⟩:=t5.inv_ref b;obtain⟨s,h,r⟩:=al.seq m L e;exact⟨_,s,rfl,.inl ⟨h,λl g=>k _ _<|VQ.laidT m .refl r g q⟩⟩
 first|have z:=Reps.inv_cons a|have z:=aw.inv_cons a
 clear a;obtain⟨_,_,rfl,b,a⟩:=z;cases a;cases b with
 |tup h r=>exact⟨_,_,rfl,.inr ⟨h,k _ H<|VQ.now m (.tup h r) q⟩⟩
 exact q.elim
theorem BN:C1 X (i9 .Add) (λx y H Q=>∃a b ys,x=.ref a/\y=.ref b/\A1 X.K H a []/\A1 X.K H b ys/\Q (.ref b) H):=by intro r s σ H x y v u Q I G J h;obtain⟨a,b,ys,rfl,rfl,z,A,q⟩:=h;cases G;cases J;obtain⟨its,F,C,_⟩:=I.tuple z;obtain⟨p,M,E,_⟩:=I.tuple A;have e:its=[]:=F.nil_iff.mpr rfl;subst e;obtain⟨⟨t,w,l,L⟩,D,m,n,o⟩:=id C;obtain⟨⟨k,g,i,j⟩,f,c,B,d⟩:=id E;simp only at m o c d;subst m o c d;exact concat_meets ⟨_,D,rfl⟩ ⟨_,f,rfl⟩ noFill_tuple_add seq_tuple_add O9 Pc (Pe _ _) (tuple_addW0 a b _ _ n B w g L j<|by simp) ⟨D,f,⟨.ref b,H,I,rfl,q⟩⟩
def aK:E1:=λx y M Q=>match x,y with
 |.tup xs,.tup ys=>xs.length+ys.length<=sizeLine/\Q (.tup<|xs++ys) M
 |_,_=>qAdd x y M Q
theorem Fb:E6 X (i9 .Add) aK:=by
 rintro c s σ H f j v u R I g i ⟨x,y,M,ρ,Q,m,r,e,q,k⟩;unfold aK at q;split at q;rename_i xs ys;obtain⟨a,vs,rfl,h1,D⟩:=t5.inv_tup r;obtain⟨b,w,rfl,h2,E⟩:=t5.inv_tup e;have l:=D.length;have d:=E.length;cases xs with
 |nil=>cases D;exact BN c s σ H _ _ v u R I g i ⟨a,b,w,rfl,rfl,h1,h2,k _ H<|VQ.now m (.tup h2 E) q.2⟩
 |cons o n =>
  refine EU c s σ H _ _ v u R I g i ⟨a,b,vs,w,rfl,rfl,h1,h2,?_,by rw[<-l,<-d];exact q.1,λz=>?_,λ_ p h=>k _ _<|VQ.laidT m .refl (D.append E) h q.2⟩;intro z;subst z;simp at l;subst z;have:ys=[]:=by simpa using d
  subst this;rw[K7]at q;exact k _ H<|VQ.now m (.tup h1 D) q.2
 exact Io c s σ H f j v u R I g i ⟨x,y,M,ρ,Q,m,r,e,q,k⟩
def mC(n:Nat):C6:=λds M Q=>match ds with
 | [.ref m]=>∃xs ys,M[n]?=a7 (.lst xs)/\M[m]?=a7 (.lst ys)/\n≠m/\xs.length+ys.length<=sizeLine/\Q .non (M.set n<|.lst<|xs++ys)
 |_=>False
theorem xM:Ix X "list.extend" (jV X.K mC):=by
 rintro p s σ H x xs v us R I A y ⟨n,a,ds,M,ρ,Q,l,g,c,f,q,k⟩;unfold mC at q;split at q;rename_i m;obtain⟨ys,D,e,j,u,o,q⟩:=q
 first|have z:=Reps.inv_cons f|have z:=aw.inv_cons f
 clear f;obtain⟨_,_,rfl,w,f⟩:=z;cases f;obtain⟨b,rfl,t⟩:=t5.inv_ref w;obtain⟨vs,d,r⟩:=c.obj n a _ g e;obtain⟨C,h,i⟩:=c.obj m b _ t j;obtain⟨L,B⟩:=c.write g e d<|r.append i;exact zJ p s σ H x _ v us R I A y ⟨a,b,vs,C,l,rfl,d,h,by rw[<-r.length,<-i.length];exact o,k _ _ ⟨.non,_,ρ,L,B,.non,q⟩⟩;exact q.elim
end
end L2
namespace Srt
open PySem PySem.W PyProof.Rows
noncomputable def run{α:Type}(c:Nat->Nat->Bool):KasT α->α
 |.ret a=>a
 |.ask i j k=>run c<|k<|c i j
theorem gO{α β:Type}{c:Nat->Nat->Bool}{f:α->KasT β}:∀t:KasT α,run c (t.bind f)=run c (f<|run c t)
 |.ret a=>rfl
 |.ask i j k=>gO<|k<|c i j
def Bd{α:Type}(n:Nat):KasT α->Prop
 |.ret _=>True
 |.ask i j k=>i<n/\j<n/\∀b,Bd n<|k b
def All{α:Type}(P:α->Prop):KasT α->Prop
 |.ret a=>P a
 |.ask _ _ k=>∀b,All P<|k b
theorem All.mono{α:Type}{P Q:α->Prop}(h:∀a,P a->Q a):∀t:KasT α,All P t->All Q t
 |.ret a,q=>h a q
 |.ask _ _ k,q=>λb=>All.mono h (k b)<|q b
theorem All.bind{α β:Type}{P:β->Prop}{f:α->KasT β}:∀t:KasT α,All (λa=>All P<|f a) t->All P (t.bind f)
 |.ret a,q=>q
 |.ask _ _ k,q=>λb=>All.bind (k b)<|q b
theorem Bd.bindA{α β:Type}{n:Nat}{f:α->KasT β}:∀t:KasT α,Bd n t->All (λa=>Bd n<|f a) t->Bd n (t.bind f)
 |.ret a,_,q=>q
 |.ask _ _ k,b,q=>⟨b.1,b.2.1,λx=>Bd.bindA (k x) (b.2.2 x)<|q x⟩
theorem All.run{α:Type}{P:α->Prop}{c:Nat->Nat->Bool}:∀t:KasT α,All P t->P (Srt.run c t)
 |.ret a,q=>q
 |.ask i j k,q=>All.run (k<|c i j)<|q _
theorem wp_run{α:Type}{cmp:Nat->Nat->(Bool->d9->Prop)->d9->Prop}{c:Nat->Nat->Bool}{n:Nat}{s:d9}{Q:α->d9->Prop}(hc:∀i j (C:Bool->d9->Prop),i<n->j<n->C (c i j) s->cmp i j C s):∀t:KasT α,Bd n t->Q (run c t) s->t.kasWp cmp Q s
 |.ret a,_,q=>q
 |.ask i j k,b,q=>hc i j _ b.1 b.2.1<|wp_run hc (k<|c i j) (b.2.2 _) q
structure J7(c:Nat->Nat->Bool):Prop where
 irr:∀a,c a a=bt
 tr:∀a b d,c a b=a9->c b d=a9->c a d=a9
 neg:∀a b d,c a d=a9->c a b=a9\/c b d=a9
section
variable{c:Nat->Nat->Bool}(O:J7 c)
def le(c:Nat->Nat->Bool)(a b:Nat):Prop:=c b a=bt
theorem le_refl(O:J7 c)(a:Nat):le c a a:=O.irr a
theorem le_trans(O:J7 c)(h1:le c a b)(h2:le c b d):le c a d:=by
 unfold le at *;cases q:c d a with
 |false=>rfl
 |true=>rcases O.neg d b a q with h|h;rw[h2]at h;cases h;rw[h1]at h;cases h
theorem le_of_lt(O:J7 c)(h:c a b=a9):le c a b:=by
 unfold le;cases q:c b a with
 |false=>rfl
 |true=>have:=O.tr a b a h q;rw[O.irr]at this;cases this
noncomputable abbrev at_(p:Array Nat)(k:Nat):Nat:=p.getD k 0
def Up(c:Nat->Nat->Bool)(p:Array Nat)(m:Nat):Prop:=∀i j,i<=j->j<m->le c (at_ p i) (at_ p j)
def Dn(c:Nat->Nat->Bool)(p:Array Nat)(m:Nat):Prop:=∀i j,i<=j->j<m->le c (at_ p j) (at_ p i)
def Mx(c:Nat->Nat->Bool)(p:Array Nat)(a b:Nat):Prop:=∀i j,a<=i->i<b->a<=j->j<b->le c (at_ p i) (at_ p j)
theorem Up.one(O:J7 c)(p:Array Nat):Up c p 1:=λi j a L=>by
 have:i=j:=by lia
 subst this;exact le_refl O _
theorem Up.snoc(O:J7 c)(h:Up c p n)(h1:1<=n)(g:le c (at_ p<|n-1) (at_ p n)):Up c p (n+1):=λi j a L=>by
 by_cases b:j<n;exact h i j a b;have:j=n:=by lia
 subst this;by_cases hi:i=j;subst hi;exact le_refl O _;exact le_trans O (h i (j-1) (by lia)<|by lia) g
theorem Dn.snoc(O:J7 c)(h:Dn c p n)(h1:1<=n)(g:le c (at_ p n) (at_ p<|n-1)):Dn c p (n+1):=λi j a L=>by
 by_cases b:j<n;exact h i j a b;have:j=n:=by lia
 subst this;by_cases hi:i=j;subst hi;exact le_refl O _;exact le_trans O g<|h i (j-1) (by lia)<|by lia
theorem iB(L:j<=p.size)(k:Nat):at_ (Kf p i j) k=if i<=k/\k<j then at_ p (i+j-1-k)else at_ p k:=by have e:=getElem?_mirror_all (xs:=p) (i:=i) L k;unfold at_ Kf;rw[LZ,e];by_cases h:i<=k/\k<j;rw[n6 h,n6 h,LZ];rw[n9 h,n9 h,LZ]
theorem um(b:k<p.size)(a:d<=k)(i:Nat):at_ (bubble p k d) i=if i=k-d then at_ p k else if k-d<i/\i<=k then at_ p (i-1)else at_ p i:=by have e:=getElem?_bubble (xs:=p) b d a i;unfold at_;rw[LZ,e];by_cases h:i=k-d;rw[n6 h,n6 h,LZ];rw[n9 h,n9 h];by_cases h':k-d<i/\i<=k;rw[n6 h',n6 h',LZ];rw[n9 h',n9 h',LZ]
theorem Dn.rev(h:Dn c p n)(f:n<=p.size):Up c (Kf p 0 n) n:=λi j a L=>by rw[iB f,iB f,n6 ⟨w4 _,by lia⟩,n6 ⟨w4 _,L⟩];exact h _ _ (by lia)<|by lia
theorem Dn.revEq(O:J7 c)(h:Dn c p n)(f:n<=p.size)(e:Mx c p a n):Dn c (Kf p a n) n:=λi j b L=>by rw[iB f,iB f];by_cases h1:a<=i/\i<n;by_cases h2:a<=j/\j<n;rw[n6 h1,n6 h2];exact e _ _ (by lia) (by lia) (by lia) (by lia);exact o0 ⟨by lia,L⟩ h2;by_cases h2:a<=j/\j<n;rw[n9 h1,n6 h2];exact h _ _ (by lia) (by lia);rw[n9 h1,n9 h2];exact h _ _ b L
theorem vN(O:J7 c):∀(f n:Nat),1<=n->Up c p n->Up c p (run c<|KD p f n)/\n<=run c (KD p f n)/\run c (KD p f n)<=n+f /\(run c (KD p f n)<n+f->c (at_ p<|run c<|KD p f n) (at_ p<|run c (KD p f n)-1)=a9)
 | 0,n,_,h=>⟨h,u5 _,u5 _,λz=>o0 z<|G5 _⟩
 |f+1,n,h1,h=>by
  show Up c p (run c<|if c (at_ p n) (at_ p<|n-1)=a9 then .ret n else KD p f (n+1))/\n<=run c (if c (at_ p n) (at_ p<|n-1)=a9 then .ret n else KD p f (n+1)) /\ run c (if c (at_ p n) (at_ p<|n-1)=a9 then .ret n else KD p f (n+1))<=n+(f+1)/\(run c (if c (at_ p n) (at_ p<|n-1)=a9 then .ret n else KD p f (n+1))<n+(f+1) -> c (at_ p<|run c<|if c (at_ p n) (at_ p<|n-1)=a9 then .ret n else KD p f (n+1)) (at_ p<|run c (if c (at_ p n) (at_ p<|n-1)=a9 then .ret n else KD p f (n+1))-1)=a9)
  by_cases q:c (at_ p n) (at_ p<|n-1)=a9;rw[n6 q];exact⟨h,u5 _,Nat.le_add_right _ _,λ_=>q⟩;rw[n9 q];obtain⟨a1,a2,a3,a4⟩:=vN O f (n+1) (by lia) (h.snoc O h1<|by unfold le;simpa using q);exact⟨a1,by lia,by lia,λz=>a4<|by lia⟩
theorem eR:(Kf p i j).size=p.size:=mirror_size _ _ _ _
def Bg(c:Nat->Nat->Bool)(z n m:Nat)(r:Array Nat×Nat×Nat):Prop:=r.1.size=z/\Dn c r.1 r.2.1/\n<=r.2.1/\r.2.1<=m/\r.2.2+1<=r.2.1/\Mx c r.1 (r.2.1-(r.2.2+1)) r.2.1
def qO(c:Nat->Nat->Bool)(z nrem:Nat)(r:Nat×Array Nat):Prop:=r.2.size=z/\Up c r.2 r.1/\1<=r.1/\r.1<=nrem
def vP(c:Nat->Nat->Bool)(p:Array Nat)(k m:Nat):Prop:=m<=k/\(∀i,i<m->le c (at_ p i) (at_ p k))/\∀i,m<=i->i<k->c (at_ p k) (at_ p i)=a9
theorem lA(O:J7 c):∀(f:Nat) (p:Array Nat) (n q:Nat),q+1<=n->n+f<=p.size->Dn c p n->Mx c p (n-(q+1)) n ->Bg c p.size n (n+f) (run c<|G0 f p n q)
 | 0,p,n,q,h1,h2,hd,he=>⟨rfl,hd,u5 _,u5 _,h1,he⟩
 |f+1,p,n,q,h1,h2,hd,he=>by
  have hn:n<=p.size:=by lia
  show Bg c p.size n (n+(f+1)) (run c<|if c (at_ p n) (at_ p<|n-1)=a9 then(if q > 0 then G0 f (Kf p (n-(q+1)) n) (n+1) 0 else G0 f p (n+1) 0) else .ask (at_ p<|n-1) (at_ p n) λd=>if d=a9 then .ret (p,n,q)else G0 f p (n+1) (q+1));by_cases hc:c (at_ p n) (at_ p<|n-1)=a9;rw[n6 hc];by_cases hq:q > 0;rw[n6 hq];have hd':Dn c (Kf p (n-(q+1)) n) (n+1):=by refine(hd.revEq O hn he).snoc O (by lia) ?_;rw[iB hn,iB hn,n9 (by lia),n6 ⟨by lia,by lia⟩];exact le_trans O (le_of_lt O hc)<|he _ _ (by lia) (by lia) (by lia)<|by lia
  have r:=lA O f (Kf p (n-(q+1)) n) (n+1) 0 (by lia) (by rw[eR];lia) hd' (λi j a1 a2 a3 a4=>by
   have:i=n:=by lia
   have:j=n:=by lia
   subst_vars
   exact le_refl O _)
  obtain⟨a1,a2,a3,a4,a5,a6⟩:=r;exact⟨a1.trans eR,a2,by lia,by lia,a5,a6⟩;rw[n9 hq];have r:=lA O f p (n+1) 0 (by lia) (by lia) (hd.snoc O (by lia)<|le_of_lt O hc) (λi j a1 a2 a3 a4=>by
   have:i=n:=by lia
   have:j=n:=by lia
   subst_vars
   exact le_refl O _)
  obtain⟨a1,a2,a3,a4,a5,a6⟩:=r;exact⟨a1,a2,by lia,by lia,a5,a6⟩;rw[n9 hc];show Bg c p.size n (n+(f+1)) (run c<|if c (at_ p<|n-1) (at_ p n)=a9 then .ret (p,n,q)else G0 f p (n+1) (q+1));by_cases hc':c (at_ p<|n-1) (at_ p n)=a9;rw[n6 hc'];exact⟨rfl,hd,u5 _,by show n<=_;lia,h1,he⟩;rw[n9 hc'];have l1:le c (at_ p n) (at_ p<|n-1):=by unfold le;simpa using hc'
  have l2:le c (at_ p<|n-1) (at_ p n):=by unfold le;simpa using hc
  have r:=lA O f p (n+1) (q+1) (by lia) (by lia) (hd.snoc O (by lia) l1) (λi j a1 a2 a3 a4=>by by_cases hi:i=n;by_cases hj:j=n;subst hi hj;exact le_refl O _;subst hi;exact le_trans O l1 (he _ _ (by lia) (by lia) (by lia)<|by lia);by_cases hj:j=n;subst hj;exact le_trans O (he _ _ (by lia) (by lia) (by lia)<|by lia) l2;exact he _ _ (by lia) (by lia) (by lia)<|by lia);obtain⟨a1,a2,a3,a4,a5,a6⟩:=r;exact⟨a1,a2,by lia,by lia,a5,a6⟩
theorem rh(O:J7 c)(h1:1<=n)(f:n<=nrem)(hz:nrem<=p.size)(d:Dn c p n):qO c p.size nrem (run c<|kas_tail3 n nrem p):=by unfold kas_tail3;rw[gO];obtain⟨E,a,b,_⟩:=vN O (nrem-n) n h1 (d.rev<|by lia);exact⟨eR,E,G1 h1 a,G1 b<|by lia⟩
theorem kJ(O:J7 c)(h1:1<=n)(x:n+1<=nrem)(hz:nrem<=p.size)(m:Mx c p 0 n)(k:c (at_ p n) (at_ p<|n-1)=a9):qO c p.size nrem (run c<|MC n nrem p):=by
 have l:Dn c p (n+1):=by refine Dn.snoc O (λi j o L=>m _ _ (by lia) (by lia) (by lia)<|by lia) h1<|le_of_lt O k
 unfold MC;rw[gO];obtain⟨a,g,u,v,w,h⟩:=lA O (nrem-(n+1)) p (n+1) 0 (by lia) (by lia) l (λi j E r s t=>by
  have:i=n:=by lia
  have:j=n:=by lia
  subst_vars
  exact le_refl O _)
 by_cases q:(run c<|G0 (nrem-(n+1)) p (n+1) 0).2.2 > 0;rw[n6 q];obtain⟨d,b,e,f⟩:=rh O (p:=Kf (run c<|G0 (nrem-(n+1)) p (n+1) 0).1 ((run c<|G0 (nrem-(n+1)) p (n+1) 0).2.1-((run c<|G0 (nrem-(n+1)) p (n+1) 0).2.2+1)) (run c<|G0 (nrem-(n+1)) p (n+1) 0).2.1) (n:=(run c<|G0 (nrem-(n+1)) p (n+1) 0).2.1) (nrem:=nrem) (by lia) (by lia) (by rw[eR,a];exact hz)<|g.revEq O (by rw[a];lia) h;exact⟨d.trans<|eR.trans a,b,e,f⟩;rw[n9 q];obtain⟨d,b,e,f⟩:=rh O (p:=(run c<|G0 (nrem-(n+1)) p (n+1) 0).1) (n:=(run c<|G0 (nrem-(n+1)) p (n+1) 0).2.1) (nrem:=nrem) (by lia) (by lia) (by rw[a];exact hz) g;exact⟨d.trans a,b,e,f⟩
theorem AJ(O:J7 c)(h1:1<=nrem)(hz:nrem<=p.size):qO c p.size nrem (run c<|kas_count nrem p):=by
 unfold kas_count;rw[gO];obtain⟨E,a,o,l⟩:=vN O (nrem-1) 1 (u5 _)<|Up.one O p;generalize run c (KD p (nrem-1) 1)=n at E a o l;by_cases k:(n==nrem)=a9;rw[n6 k];exact⟨rfl,E,a,by show n<=nrem;lia⟩;rw[n9 k];have x:n≠nrem:=by simpa using k
 have t:c (at_ p n) (at_ p<|n-1)=a9:=l (by lia);by_cases h2:n > 1;rw[n6 h2];show qO c p.size nrem (run c<|if c (at_ p 0) (at_ p<|n-1)=a9 then .ret (n,p)else MC n nrem (Kf p 0 n));by_cases f:c (at_ p 0) (at_ p<|n-1)=a9;rw[n6 f];exact⟨rfl,E,a,by show n<=nrem;lia⟩;rw[n9 f];have g:n<=p.size:=by lia
 have y:le c (at_ p<|n-1) (at_ p 0):=by unfold le;simpa using f
 have m:Mx c p 0 n:=λi j b d u v=>le_trans O (E i (n-1) (by lia)<|by lia)<|le_trans O y<|E 0 j (by lia) v;have e:Mx c (Kf p 0 n) 0 n:=λi j b d u v=>by rw[iB g,iB g,n6 ⟨b,d⟩,n6 ⟨u,v⟩];exact m _ _ (by lia) (by lia) (by lia)<|by lia
 have h:c (at_ (Kf p 0 n) n) (at_ (Kf p 0 n)<|n-1)=a9:=by rw[iB g,iB g,n9 (by lia),n6 ⟨by lia,by lia⟩];rcases O.neg _ (at_ p<|0+n-1-(n-1)) _ t with z|z;exact z;have:=m (n-1) (0+n-1-(n-1)) (by lia) (by lia) (by lia) (by lia);unfold le at this;rw[this]at z;cases z
 obtain⟨q,r,s,w⟩:=kJ O (p:=Kf p 0 n) (n:=n) (nrem:=nrem) (by lia) (by lia) (by rw[eR];exact hz) e h;exact⟨q.trans eR,r,s,w⟩;rw[n9 h2];have:n=1:=by lia
 subst this;exact kJ O (by lia) (by lia) hz (λi j b d u v=>by
  have:i=0:=by lia
  have:j=0:=by lia
  subst_vars
  exact le_refl O _) t
theorem mD(O:J7 c)(hu:Up c p k):∀(f l r:Nat),l<=r->r<=k->r-l<=f->(∀i,i<l->le c (at_ p i) (at_ p k))->(∀i,r<=i->i<k->c (at_ p k) (at_ p i)=a9) ->vP c p k (run c<|K4 p k f l r)
 | 0,l,r,h1,h2,h3,h4,h5=>⟨by show l<=k;lia,h4,λi a1 a2=>h5 i (by have a1':l<=i:=a1;lia) a2⟩
 |f+1,l,r,h1,h2,h3,h4,h5=>by
  show vP c p k (run c<|if l ≥ r then .ret l else .ask (at_ p k) (at_ p<|(l+r) / 2) λc=>if c=a9 then K4 p k f l ((l+r) / 2)else K4 p k f ((l+r) / 2+1) r);by_cases hl:l ≥ r;rw[n6 hl];exact⟨by show l<=k;lia,h4,λi a1 a2=>h5 i (by have a1':l<=i:=a1;lia) a2⟩;rw[n9 hl];show vP c p k (run c<|if c (at_ p k) (at_ p<|(l+r) / 2)=a9 then K4 p k f l ((l+r) / 2)else K4 p k f ((l+r) / 2+1) r);by_cases hc:c (at_ p k) (at_ p<|(l+r) / 2)=a9;rw[n6 hc];refine mD O hu f l ((l+r) / 2) (by lia) (by lia) (by lia) h4 λi a1 a2=>?_;rcases O.neg _ (at_ p i) _ hc with z|z;exact z;have:=hu ((l+r) / 2) i a1 a2;unfold le at this;rw[this]at z;cases z;rw[n9 hc];have lm:le c (at_ p<|(l+r) / 2) (at_ p k):=by unfold le;simpa using hc
  refine mD O hu f ((l+r) / 2+1) r (by lia) h2 (by lia) (λi hi=>?_) h5;exact le_trans O (hu i ((l+r) / 2) (by lia)<|by lia) lm
theorem AU(O:J7 c)(f:k<p.size)(g:Up c p k)(l:m<=k)(h1:∀i,i<m->le c (at_ p i) (at_ p k))(h2:∀i,m<=i->i<k->c (at_ p k) (at_ p i)=a9):Up c (bubble p k<|k-m) (k+1):=by
 intro i j d L;have e:k-(k-m)=m:=by lia
 rw[um f (by lia),um f (by lia),e];by_cases hi:i=m;rw[n6 hi];by_cases h:j=m;rw[n6 h];exact le_refl O _;rw[n9 h,n6 ⟨by lia,by lia⟩];exact le_of_lt O (h2 _ (by lia)<|by lia);rw[n9 hi];by_cases a:m<i/\i<=k;rw[n6 a,n9 (by lia),n6 ⟨by lia,by lia⟩];exact g _ _ (by lia) (by lia);rw[n9 a];by_cases h:j=m;rw[n6 h];exact h1 i (by lia);rw[n9 h];by_cases b:m<j/\j<=k;rw[n6 b];exact g _ _ (by lia) (by lia);rw[n9 b];exact g _ _ d<|by lia
theorem AW(O:J7 c):∀(f:Nat) (p:Array Nat) (k:Nat),k+f<=p.size->Up c p k->(run c<|kas_bin f p k).size=p.size/\Up c (run c<|kas_bin f p k) (k+f)
 | 0,p,k,_,h=>⟨rfl,h⟩
 |f+1,p,k,hz,h=>by show (run c<|(K4 p k k 0 k).bind λl=>kas_bin f (bubble p k<|k-l)<|k+1).size=p.size/\Up c (run c<|(K4 p k k 0 k).bind λl=>kas_bin f (bubble p k<|k-l)<|k+1) (k+(f+1));rw[gO];obtain⟨a1,a2,a3⟩:=mD O h k 0 k (w4 _) (u5 _) (by lia) (λi hi=>o0 hi<|Ll _) λi a1 a2=>o0 a2 (by lia);obtain⟨b1,b2⟩:=AW O f (bubble p k<|k-run c (K4 p k k 0 k)) (k+1) (by rw[bubble_size];lia)<|AU O (by lia) h a1 a2 a3;exact⟨b1.trans<|bubble_size _ _ _,by rw[show k+(f+1)=k+1+f by lia];exact b2⟩
theorem El(O:J7 c)(h1:1<=n):(run c<|Ls n).size=n/\Up c (run c<|Ls n) n:=by
 have hs:(Nn<|B9 n).size=n:=by simp
 unfold Ls;rw[gO];obtain⟨E,a,b,t⟩:=AJ O (p:=Nn<|B9 n) h1 (by rw[hs];exact u5 _);rw[hs]at E;generalize run c (kas_count n<|Nn<|B9 n)=r at E a b t;by_cases g:r.1<n;rw[n6 g];obtain⟨d,e⟩:=AW O (n-max r.1 1) r.2 (max r.1 1) (by rw[E];lia) (by rw[show max r.1 1=r.1 by lia];exact a);exact⟨d.trans E,by rw[show n=max r.1 1+(n-max r.1 1) by lia];simpa using e⟩;rw[n9 g];have f:r.1=n:=by lia
 rw[f]at a;exact⟨E,a⟩
def D6(n:Nat)(p:Array Nat):Prop:=p.toList.Perm<|B9 n
theorem D6.lt(h:D6 n p)(a:0<n)(k:Nat):at_ p k<n:=by
 unfold at_;rw[LZ];cases e:p[k]? with
 |none=>simpa using a
 |some x =>
  have:x∈p.toList:=by rw[<-F4]at e;exact F8 e
  have:=h.mem_iff.mp this;simpa using this
theorem D6.rev(h:D6 n p):D6 n (Kf p i j):=(Array.perm_iff_toList_perm.mp<|mirror_perm p i j<|(j-i) / 2).trans h
theorem D6.bub(h:D6 n p):D6 n (bubble p i j):=(Array.perm_iff_toList_perm.mp<|bubble_perm p i j).trans h
section
variable{n:Nat}(h0:0<n)
theorem Ba(h0:0<n)(h:D6 n p):∀(f k:Nat),Bd n (KD p f k)
 | 0,_=>trivial
 |f+1,k=>⟨h.lt h0 _,h.lt h0 _,λb=>by cases b with
  |true=>exact trivial
  |false=>exact Ba h0 h f<|k+1⟩
theorem qG(h0:0<n):∀(f:Nat) (p:Array Nat) (k q:Nat),D6 n p->Bd n (G0 f p k q)/\All (λr=>D6 n r.1) (G0 f p k q)
 | 0,p,k,q,h=>⟨trivial,h⟩
 |f+1,p,k,q,h=>by
  have key:∀b,(Bd n<|if b=a9 then(if q > 0 then G0 f (Kf p (k-(q+1)) k) (k+1) 0 else G0 f p (k+1) 0) else KasT.ask (p.getD (k-1) 0) (p.getD k 0) λd=>if d=a9 then KasT.ret (p,k,q)else G0 f p (k+1) (q+1))/\All (λr=>D6 n r.1) (if b=a9 then(if q > 0 then G0 f (Kf p (k-(q+1)) k) (k+1) 0 else G0 f p (k+1) 0) else KasT.ask (p.getD (k-1) 0) (p.getD k 0) λd=>if d=a9 then KasT.ret (p,k,q)else G0 f p (k+1) (q+1)):=λb=>by
   cases b with
   |true=>rw[n6 rfl];by_cases hq:q > 0;rw[n6 hq];exact qG h0 f _ _ _ h.rev;rw[n9 hq];exact qG h0 f _ _ _ h
   |false =>
    rw[n9<|by simp];have a:=qG h0 f p (k+1) (q+1) h;refine⟨⟨h.lt h0 _,h.lt h0 _,λb=>?_⟩,λb=>?_⟩;cases b with
    |true=>exact trivial
    |false=>exact a.1
    cases b with
    |true=>exact h
    |false=>exact a.2
  exact⟨⟨h.lt h0 _,h.lt h0 _,λb=>(key b).1⟩,λb=>(key b).2⟩
theorem kY(c:0<n)(h:D6 n p):Bd n (kas_tail3 k m p)/\All (λr=>D6 n r.2) (kas_tail3 k m p):=by
 have v:∀{t:KasT Nat}{Q:Prop},Q->All (λ_=>Q) t:=λ{t Q} q=>by
  induction t with
  |ret a=>exact q
  |ask i j k d=>exact λb=>d b
 unfold kas_tail3;exact⟨Bd.bindA _ (Ba c h.rev _ _)<|v trivial,All.bind _<|v h.rev⟩
theorem fA(a:0<n)(h:D6 n p):Bd n (MC k m p)/\All (λr=>D6 n r.2) (MC k m p):=by unfold MC;obtain⟨b,c⟩:=qG a (m-(k+1)) p (k+1) 0 h;refine⟨Bd.bindA _ b<|c.mono<|λr i=>?_,All.bind _<|c.mono<|λr i=>?_⟩;by_cases q:r.2.2 > 0;rw[n6 q];exact(kY a i.rev).1;rw[n9 q];exact(kY a i).1;by_cases q:r.2.2 > 0;rw[n6 q];exact(kY a i.rev).2;rw[n9 q];exact(kY a i).2
theorem Dg(c:0<n)(h:D6 n p):Bd n (kas_count m p)/\All (λr=>D6 n r.2) (kas_count m p):=by
 have v:∀{t:KasT Nat}{Q:Nat->Prop},(∀a,Q a)->All Q t:=λ{t Q} q=>by
  induction t with
  |ret a=>exact q a
  |ask i j k d=>exact λb=>d b
 unfold kas_count;refine⟨Bd.bindA _ (Ba c h _ _)<|v λk=>?_,All.bind _<|v λk=>?_⟩;by_cases h1:(k==m)=a9;rw[n6 h1];exact trivial;rw[n9 h1];by_cases h2:k > 1;rw[n6 h2];refine⟨h.lt c _,h.lt c _,λb=>?_⟩;cases b with
 |true=>exact trivial
 |false=>exact(fA c h.rev).1
 rw[n9 h2];exact(fA c h).1;by_cases h1:(k==m)=a9;rw[n6 h1];exact h;rw[n9 h1];by_cases h2:k > 1;rw[n6 h2];intro b;cases b with
 |true=>exact h
 |false=>exact(fA c h.rev).2
 rw[n9 h2];exact(fA c h).2
theorem pU(h0:0<n)(h:D6 n p):∀(f l r:Nat),Bd n (K4 p k f l r)
 | 0,_,_=>trivial
 |f+1,l,r=>by
  show Bd n (if l ≥ r then KasT.ret l else KasT.ask (p.getD k 0) (p.getD ((l+r) / 2) 0) λc=>if c=a9 then K4 p k f l ((l+r) / 2)else K4 p k f ((l+r) / 2+1) r);by_cases hl:l ≥ r;rw[n6 hl];exact trivial;rw[n9 hl];refine⟨h.lt h0 _,h.lt h0 _,λb=>?_⟩;cases b with
  |true=>exact pU h0 h f _ _
  |false=>exact pU h0 h f _ _
theorem wX(h0:0<n):∀(f:Nat) (p:Array Nat) (k:Nat),D6 n p->Bd n (kas_bin f p k)/\All (λr=>D6 n r) (kas_bin f p k)
 | 0,p,k,h=>⟨trivial,h⟩
 |f+1,p,k,h=>by
  have triv:∀{t:KasT Nat}{Q:Nat->Prop},(∀a,Q a)->All Q t:=λ{t Q} q=>by
   induction t with
   |ret a=>exact q a
   |ask i j k ih=>exact λb=>ih b
  exact⟨Bd.bindA _ (pU h0 h _ _ _)<|triv λl=>(wX h0 f _ _ h.bub).1,All.bind _<|triv λl=>(wX h0 f _ _ h.bub).2⟩
theorem sort_bd(a:0<n):Bd n (Ls n)/\All (λr=>D6 n r) (Ls n):=by
 have h:D6 n (Nn<|B9 n):=by unfold D6;simp
 obtain⟨b,c⟩:=Dg a (m:=n) h;unfold Ls;refine⟨Bd.bindA _ b<|c.mono λr i=>?_,All.bind _<|c.mono λr i=>?_⟩;by_cases g:r.1<n;rw[n6 g];exact(wX a _ _ _ i).1;rw[n9 g];exact trivial;by_cases g:r.1<n;rw[n6 g];exact(wX a _ _ _ i).2;rw[n9 g];exact i
end
theorem sort_list{α:Type}[Inhabited α]{lt:α->α->Bool}(xs:List α)(h1:1<=xs.length)(r:∀a∈xs,lt a a=bt)(tr:∀a∈xs,∀b∈xs,∀d∈xs,lt a b=a9->lt b d=a9->lt a d=a9)(n:∀a∈xs,∀b∈xs,∀d∈xs,lt a d=a9->lt a b=a9\/lt b d=a9):let c:=λi j=>if i<xs.length then(if j<xs.length then lt (xs.getD i default) (xs.getD j default)else a9)else bt
  let p:=run c<|Ls xs.length
  let ys:=p.toList.map λi=>xs.getD i default
  ys.Perm xs/\ys.Pairwise λa b=>lt b a=bt:=by
 intro c p ys;have m:∀i,i<xs.length->xs.getD i default∈xs:=λi hi=>by rw[Ke,v4 hi];exact KY hi
 have O:J7 c:=by refine⟨λa=>?_,λa b d=>?_,λa b d=>?_⟩;show (if a<xs.length then(if a<xs.length then lt _ _ else a9)else bt)=bt;by_cases f:a<xs.length;rw[n6 f,n6 f];exact r _<|m a f;rw[n9 f];show (if a<xs.length then(if b<xs.length then lt _ _ else a9)else bt)=a9->(if b<xs.length then(if d<xs.length then lt _ _ else a9)else bt)=a9->(if a<xs.length then(if d<xs.length then lt _ _ else a9)else bt)=a9;by_cases f:a<xs.length;by_cases h:b<xs.length;by_cases g:d<xs.length;rw[n6 f,n6 h,n6 h,n6 g,n6 f,n6 g];exact tr _ (m a f) _ (m b h) _<|m d g;intro _ _;rw[n6 f,n9 g];rw[n9<|show ¬b<xs.length from h];intro _ z;rw[n9 h]at z;cases z;intro z;rw[n9 f]at z;cases z;show (if a<xs.length then(if d<xs.length then lt _ _ else a9)else bt)=a9->(if a<xs.length then(if b<xs.length then lt _ _ else a9)else bt)=a9\/(if b<xs.length then(if d<xs.length then lt _ _ else a9)else bt)=a9;by_cases f:a<xs.length;by_cases h:b<xs.length;by_cases g:d<xs.length;rw[n6 f,n6 g,n6 f,n6 h,n6 h,n6 g];exact n _ (m a f) _ (m b h) _<|m d g;intro _;right;rw[n6 h,n9 g];intro _;left;rw[n6 f,n9 h];intro z;rw[n9 f]at z;cases z
 have E:D6 xs.length p:=All.run _ (sort_bd<|by lia).2;obtain⟨hs,U⟩:=El O h1;refine⟨?_,?_⟩;have e:(B9 xs.length).map (λi=>xs.getD i default)=xs:=by apply List.ext_getElem?;intro i;rw[C8];by_cases hi:i<xs.length;rw[List.getElem?_range hi];simp[Ke,v4 hi];rw[Mt (by simpa using hi),Mt<|by simpa using hi];rfl
 have:=E.map λi=>xs.getD i default;rw[e]at this;exact this;show (p.toList.map λi=>xs.getD i default).Pairwise λa b=>lt b a=bt;rw[NM];intro i j hi L t;rw[u4,D5]at hi L;have u:p.size=xs.length:=hs;have l:=U i j (by lia) (by lia);have o:∀k,at_ p k<xs.length:=λk=>E.lt (by lia) k;unfold le at l;have l':(if at_ p j<xs.length then(if at_ p i<xs.length then lt (xs.getD (at_ p j) default) (xs.getD (at_ p i) default)else a9)else bt)=bt:=l;rw[n6<|o j,n6<|o i]at l';have q:p.toList[i]=at_ p i:=by unfold at_;simp[KH,hi]
 have s:p.toList[j]=at_ p j:=by unfold at_;simp[KH,L]
 rw[List.getElem_map,List.getElem_map,q,s];exact l'
end
end Srt
namespace L2
open PySem PySem.Spec PyProof.Rows DL
def yp(A:d8)(s:d9)(x y:b7)(k:Bool):Prop:=∀(g:c5) (w:b9) (E:b7->d9->Prop) (Q:b7->d9->Prop),Q (.bool k) s->e8 (f7 g w) A (richCompare .Lt x y) Q E s
inductive LexAt(A:d8)(s:d9):List b7->List b7->Bool->Prop
 |nn:LexAt A s [] [] bt
 |nc {y:b7}{ys:List b7}:LexAt A s [] (y::ys) a9
 |cn {x:b7}{xs:List b7}:LexAt A s (x::xs) [] bt
 |eq {x y:b7}{xs ys:List b7}{k:Bool} (h:KF A s x y a9) (t:LexAt A s xs ys k):LexAt A s (x::xs) (y::ys) k
 |ne {x y:b7}{xs ys:List b7}{k:Bool} (h:KF A s x y bt) (t:yp A s x y k):LexAt A s (x::xs) (y::ys) k
section
open PySem.SeqAt
open PySem.AutoSeq1 (wpAny_loadPart')
open PySem.MeetsSeq PySem.MeetsSeq2 PySem.MeetsSeq3
theorem re(l b:c6)(a i:Array b7)(n D:Nat)(v f:Option c6)(E o:Array (Option b7))(k:Bool):Meets (Builtin.«tuple.__lt__» ⟨[.ref l,.ref b],[]⟩)
   (λA R s=>s.heap.get? l=a7 (⟨.type "tuple",v,.seq a n,E⟩:c7)/\s.heap.get? b=a7 { cls:=.type "tuple",dict:=f,data:=.seq i D,slots:=o } /\ LexAt A.in1 s a.toList i.toList k/\R (.ok<|.ret<|.bool k) s) :=
 .of_wp λp w A R s h=>by
  obtain⟨q,g,d,u,r⟩:=s;obtain⟨B,z,c,h⟩:=h;have N:=AutoSeq1.sub_tuple_tuple
  wp_walk using Pv B,Pv z,KW _ (λaI b s'=>b.1=a8/\s'=⟨q,g,d,u,r⟩/\∃(vs e:List b7),aI=vs.zip e /\ LexAt A.in1 ⟨q,g,d,u,r⟩ vs e k/\vs.length+i.size=e.length+a.size) _
  case turn =>
   rintro⟨y,x⟩ aI b s' ⟨hb',rfl,vs,e,hz,hlex,hlen⟩;cases hlex with
   |nn=>cases hz
   |nc=>cases hz
   |cn=>cases hz
   |eq j t =>
    rw[Mp]at hz;injection hz with hyx hrest;injection hyx with hy c;subst hy c;refine p5<|j p w _ _ ?_
    wp_walk
    exact⟨rfl,rfl,_,_,hrest,t,by simp only[C7]at hlen;lia⟩
   |ne j t =>
    rw[Mp]at hz;injection hz with hyx hrest;injection hyx with hy c;subst hy c;refine p5<|j p w _ _ ?_;have m:=t p w
    wp_walk using m
    exact⟨_,rfl,by simpa using h⟩
  case fin =>
   rintro⟨b1,b2⟩ s' ⟨hb',rfl,vs,e,hz,hlex,hlen⟩;simp only at hb';subst hb';have C:k=decide (a.size<i.size):=by
    cases hlex with
    |nn=>simp only[C0]at hlen;exact(dF_<|by lia).symm
    |nc=>simp only[C0,C7]at hlen;exact(dT_<|by lia).symm
    |cn=>simp only[C0,C7]at hlen;exact(dF_<|by lia).symm
    |eq _ _=>rw[Mp]at hz;cases hz
    |ne _ _=>rw[Mp]at hz;cases hz
   rw[C]at h
   wp_walk
   exact⟨_,rfl,by simpa [Builtin.Tuple.tupleCompareSizes]using h⟩
  case h =>
   exact⟨rfl,rfl,a.toList,i.toList,rfl,c,by simp;lia⟩
end
theorem yp.tuples(u:s.heap.IsTuple l items)(r:s.heap.IsTuple b items2)(v:A.units<j2)(y:LexAt A.in1 s items.toList items2.toList k):yp A s (.ref l) (.ref b) k:=λp w E Q h=>by obtain⟨⟨t,q,g,B⟩,D,m,n,o⟩:=id u;obtain⟨⟨j,e,i,f⟩,d,a,z,c⟩:=id r;simp only at m o a c;subst m o a c;exact richCompare_meets_room (op:=.Lt) ⟨_,D,rfl⟩ ⟨_,d,rfl⟩ PySem.F.slot_tuple_lt PySem.F.entry_tuple_lt (PySem.F.args_tuple_lt_2 _ _) (re l b items items2 n z q e B f k) ⟨D,d,y,show Mz k≠Value.notImplemented/\Q (.bool k) s from⟨(λx=>nomatch x),h⟩⟩ v
noncomputable def qQ(f g:D->D->Bool):List D->List D->Bool
 | [],[]=>bt
 | [],_::_=>a9
 |_::_,[]=>bt
 |x::xs,y::ys=>if f x y=a9 then qQ f g xs ys else g x y
noncomputable def A7(M:tx):Nat->D->D->Bool
 |_,.int a,.int b=>decide<|a<b
 |_,.str a,.str b=>mn a b
 |n+1,.tup xs,.tup ys=>qQ (t4 M n) (A7 M n) xs ys
 |_,_,_=>bt
noncomputable def yk(f g:D->D->Bool):List D->List D->Bool
 |x::xs,y::ys=>if f x y=a9 then yk f g xs ys else g x y
 |_,_=>a9
noncomputable def kc(M:tx):Nat->D->D->Bool
 |_,.int _,.int _=>a9
 |_,.str _,.str _=>a9
 |n+1,.tup xs,.tup ys=>yk (t4 M n) (kc M n) xs ys
 |_,_,_=>bt
theorem yp.ints(A:d8)(s:d9)(a:Int)(t:Tok)(c:Int)(u:Tok):yp A s (.int a t) (.int c u) (decide<|a<c):=λg w E Q h=>HT.rcLt_int A s a t c u g w E Q h
theorem yp.texts(A:d8)(s:d9)(a:b8)(t:Tok)(c:b8)(u:Tok):yp A s (.str a t) (.str c u) (mn a c):=λg w E Q h =>
 (PySem.P.lt_str (show Q (.bool<|decide<|a.cps.toList<c.cps.toList) s from h):e8 (f7 g w) A (j0 .Lt (.str a t)<|.str c u) Q E s)
section
variable{X:Cx}{pins:List (c6×c7)}{σ:St}{H:Hp}{s:d9}{ρ:List c6}{M:tx}
theorem Dy(I:p7 X pins σ H s)(sm:u6 X.K ρ M H):∀(n:Nat) (A:d8) (x y:D) (vx vy:V) (u v:b7),A.units+n<j2->t5 X.K ρ H x vx->aN vx u->t5 X.K ρ H y vy->aN vy v->u3 M n x=a9->u3 M n y=a9->kc M n x y=a9 ->yp A s u v (A7 M n x y):=by
 intro n;induction n with
 |zero =>
  intro A x y vx vy u v W L c i f S T m;cases L with
  |int a =>
   cases i with
   |int b=>obtain⟨t,rfl⟩:=c;obtain⟨t',rfl⟩:=f;exact yp.ints A s a t b t'
   |_=>simp[kc]at m
  |str a =>
   cases i with
   |str b=>obtain⟨t,rfl⟩:=c;obtain⟨t',rfl⟩:=f;exact yp.texts A s a t b t'
   |_=>simp[kc]at m
  |_=>simp[kc]at m
 |succ n Y =>
  intro A x y vx vy u v W L c i f S T m;have F:A.units<j2:=by lia
  have k:A.in1.units+n<j2:=by show A.units+1+n<j2;lia
  have G:∀(ds es:List D) (vs E:List V) (its j:List b7),Reps X.K ρ H ds vs->aw vs its->Reps X.K ρ H es E->aw E j->ds.all (u3 M n)=a9->es.all (u3 M n)=a9->yk (t4 M n) (kc M n) ds es=a9 -> LexAt A.in1 s its j (qQ (t4 M n) (A7 M n) ds es):=by
   intro ds;induction ds with
   |nil =>
    intro es vs E its j p w o q _ _ _;cases p;cases w;cases o with
    |nil=>cases q;exact .nn
    |cons _ _=>cases q;exact .nc
   |cons d ds hi =>
    intro es vs E its j p w o q B C l;cases p with
    |cons N p =>
     cases w with
     |cons P w =>
      cases o with
      |nil=>cases q;exact .cn
      |@cons e _ U _ O o =>
       cases q with
       |cons R q=>rw[Kv,D8]at B C;have z:=(kG I sm n A.in1 d _ _ _ _ _ k N P O R B.1 C.1).1;rw[qQ];rw[yk]at l;by_cases g:t4 M n d e=a9;rw[g]at z;rw[n6 g]at l ⊢;exact .eq z<|hi _ _ _ _ _ p w o q B.2 C.2 l;have h:=KJ.mpr g;rw[h]at z;rw[n9 g]at l ⊢;exact .ne z<|Y A.in1 _ _ _ _ _ _ k N P O R B.1 C.1 l
  cases L with
  |int a =>
   cases i with
   |int b=>obtain⟨t,rfl⟩:=c;obtain⟨t',rfl⟩:=f;exact yp.ints A s a t b t'
   |_=>simp[kc]at m
  |str a =>
   cases i with
   |str b=>obtain⟨t,rfl⟩:=c;obtain⟨t',rfl⟩:=f;exact yp.texts A s a t b t'
   |_=>simp[kc]at m
  |tup g r =>
   cases i with
   |tup h r'=>cases c;cases f;obtain⟨its,rr,Z,_⟩:=I.tuple g;obtain⟨j,Q,J,_⟩:=I.tuple h;refine yp.tuples Z J F ?_;exact G _ _ _ _ _ _ r rr r' Q (by simpa [u3]using S) (by simpa [u3]using T) m
   |_=>simp[kc]at m
  |_=>simp[kc]at m
end
noncomputable def A6:Nat->D->Bool
 |_,.int _=>a9
 |_,.str _=>a9
 |n+1,.tup xs=>xs.all<|A6 n
 |_,_=>bt
noncomputable def GG(f:D->List Int):List D->List Int
 | []=>[0]
 |x::xs=>1::(f x++GG f xs)
noncomputable def A0:Nat->D->List Int
 |_,.int i=>[0,i]
 |_,.str x=>1::(x.cps.toList.map (λ(c:Nat)=>(c:Int)+1)++[0])
 |n+1,.tup xs=>2::GG (A0 n) xs
 |_,_=>[3]
def cK(x y:List Int):Prop:=∀a b,x++a<y++b
theorem cK.cons(i:Int)(h:cK x y):cK (i::x) (i::y):=λa b=>Lo.mpr<|.inr ⟨rfl,h a b⟩
theorem cK.head(x y:List Int)(h:i<j):cK (i::x) (j::y):=λa b=>Lo.mpr<|.inl h
theorem cK.lt(h:cK x y):x<y:=by have:=h [] [];simpa using this
theorem cK.pre(z:List Int)(h:cK x y):cK (z++x) (z++y):=by
 induction z with
 |nil=>exact h
 |cons i z a=>exact a.cons i
theorem cK.more(u v:List Int)(h:cK x y):cK (x++u) (y++v):=λa b=>by rw[F3,F3];exact h _ _
def OU(x y:D)(n:Nat)(l:Bool)(r:Bool):Prop:=(x=y/\l=bt/\r=bt)\/(x≠y/\l=a9/\r=bt/\cK (A0 n x) (A0 n y))\/(x≠y/\l=bt/\r=a9/\cK (A0 n y) (A0 n x))
theorem ub:∀(x y:List Nat),(x=y)\/(x<y/\¬y<x/\cK (x.map (λ(c:Nat)=>(c:Int)+1)++[0]) (y.map (λ(c:Nat)=>(c:Int)+1)++[0]))\/(¬x<y/\y<x/\cK (y.map (λ(c:Nat)=>(c:Int)+1)++[0]) (x.map (λ(c:Nat)=>(c:Int)+1)++[0]))
 | [],[]=>.inl rfl
 | [],c::y=>.inr<|.inl ⟨List.nil_lt_cons _ _,List.not_lt_nil _,cK.head _ _<|by dsimp only;lia⟩
 |c::x,[]=>.inr<|.inr ⟨List.not_lt_nil _,List.nil_lt_cons _ _,cK.head _ _<|by dsimp only;lia⟩
 |c::x,e::y=>by
  rcases NB c e with h|h|h;refine .inr<|.inl ⟨Lo.mpr<|.inl h,λz=>?_,cK.head _ _<|by dsimp only;lia⟩;rcases Lo.mp z with z|⟨z,_⟩<;>lia
  subst h;rcases ub x y with q|⟨q1,q2,q3⟩|⟨q1,q2,q3⟩
  exact .inl (by rw[q]);refine .inr<|.inl ⟨Lo.mpr<|.inr ⟨rfl,q1⟩,λz=>?_,q3.cons _⟩;rcases Lo.mp z with z|⟨_,z⟩
  lia;exact q2 z;refine .inr<|.inr ⟨λz=>?_,Lo.mpr<|.inr ⟨rfl,q2⟩,q3.cons _⟩;rcases Lo.mp z with z|⟨_,z⟩
  lia;exact q1 z;refine .inr<|.inr ⟨λz=>?_,Lo.mpr<|.inl h,cK.head _ _<|by dsimp only;lia⟩;rcases Lo.mp z with z|⟨z,_⟩<;>lia
theorem Ju(M:tx):∀(n:Nat) (x y:D),A6 n x=a9->A6 n y=a9->(t4 M n x y=a9↔x=y):=by
 have l:∀(n:Nat),(∀(x y:D),A6 n x=a9->A6 n y=a9->(t4 M n x y=a9↔x=y))->∀(xs ys:List D),xs.all (A6 n)=a9->ys.all (A6 n)=a9->(C5 (t4 M n) xs ys=a9↔xs=ys):=by
  intro n i xs;induction xs with
  |nil=>intro ys _ _;cases ys<;>simp[C5]
  |cons x xs hi =>
   intro ys h1 h2;cases ys with
   |nil=>simp[C5]
   |cons y ys=>rw[Kv,D8]at h1 h2;rw[C5,D8,i x y h1.1 h2.1,hi ys h1.2 h2.2,Mg]
 intro n;induction n with
 |zero=>intro x y h1 h2;cases x<;>simp[A6]at h1<;>cases y<;>simp[A6]at h2<;>simp[t4]
 |succ n i =>
  intro x y h1 h2;cases x with
  |int a=>cases y<;>simp[A6]at h2<;>simp[t4]
  |str a=>cases y<;>simp[A6]at h2<;>simp[t4]
  |tup xs =>
   cases y with
   |tup ys=>simp only[t4,D.tup.injEq];exact l n i xs ys (by simpa [A6]using h1)<|by simpa [A6]using h2
   |int a=>simp[t4]
   |str a=>simp[t4]
   |_=>simp[A6]at h2
  |_=>simp[A6]at h1
theorem Ih(M:tx):∀(n:Nat) (x:D),A6 n x=a9->u3 M n x=a9:=by
 intro n;induction n with
 |zero=>intro x h;cases x<;>simp[A6]at h<;>rfl
 |succ n i =>
  intro x h;cases x with
  |int a=>rfl
  |str a=>rfl
  |tup xs=>simp only[u3];rw[Fn];intro y Q;exact i y<|Fn.mp (show xs.all (A6 n)=a9 from h) y Q
  |_=>simp[A6]at h
theorem GQ(M:tx):∀(n:Nat) (x y:D),A6 n x=a9->A6 n y=a9->kc M n x y=a9->OU x y n (A7 M n x y) (A7 M n y x):=by
 have base:∀(n:Nat) (a b:Int),OU (.int a) (.int b) n (decide<|a<b) (decide<|b<a):=λn a b=>by
  have e:∀a,A0 n (.int a)=[0,a]:=λa=>by cases n<;>rfl
  rcases Int.lt_trichotomy a b with h|h|h;exact .inr<|.inl ⟨by simp;lia,dT_ h,dF_ (by lia),by rw[e,e];exact(cK.head [] [] h).cons 0⟩;subst h;exact .inl ⟨rfl,dF_ (by lia),dF_<|by lia⟩;exact .inr<|.inr ⟨by simp;lia,dF_ (by lia),dT_ h,by rw[e,e];exact(cK.head [] [] h).cons 0⟩
 have s:∀(n:Nat) (a b:b8),OU (.str a) (.str b) n (mn a b) (mn b a):=λn a b=>by
  have e:∀a:b8,A0 n (.str a)=1::(a.cps.toList.map (λ(c:Nat)=>(c:Int)+1)++[0]):=λa=>by cases n<;>rfl
  unfold mn;rcases ub a.cps.toList b.cps.toList with h|⟨h1,h2,d⟩|⟨h1,h2,d⟩
  have:a=b:=Ek h;subst this;exact .inl ⟨rfl,dF_<|Kw _,dF_<|Kw _⟩;exact .inr<|.inl ⟨λz=>by cases z;exact h2 h1,dT_ h1,dF_ h2,by rw[e,e];exact d.cons 1⟩;exact .inr<|.inr ⟨λz=>by cases z;exact h1 h2,dF_ h1,dT_ h2,by rw[e,e];exact d.cons 1⟩
 intro n;induction n with
 |zero=>intro x y h1 h2 d;cases x<;>simp[A6]at h1<;>cases y<;>simp[A6]at h2<;>first|exact base 0 _ _|exact s 0 _ _|simp[kc]at d
 |succ n m =>
  intro x y h1 h2 d;have l:∀(xs ys:List D),xs.all (A6 n)=a9->ys.all (A6 n)=a9->yk (t4 M n) (kc M n) xs ys=a9 -> (xs=ys/\qQ (t4 M n) (A7 M n) xs ys=bt/\qQ (t4 M n) (A7 M n) ys xs=bt) \/ (xs≠ys/\qQ (t4 M n) (A7 M n) xs ys=a9/\qQ (t4 M n) (A7 M n) ys xs=bt/\cK (GG (A0 n) xs) (GG (A0 n) ys)) \/ (xs≠ys/\qQ (t4 M n) (A7 M n) xs ys=bt/\qQ (t4 M n) (A7 M n) ys xs=a9/\cK (GG (A0 n) ys) (GG (A0 n) xs)):=by
   intro xs;induction xs with
   |nil =>
    intro ys _ _ _;cases ys with
    |nil=>exact .inl ⟨rfl,rfl,rfl⟩
    |cons y ys=>exact .inr<|.inl ⟨by simp,rfl,rfl,cK.head _ _<|by decide⟩
   |cons x xs hi =>
    intro ys h1 h2 d;cases ys with
    |nil=>exact .inr<|.inr ⟨by simp,rfl,rfl,cK.head _ _<|by decide⟩
    |cons y ys =>
     rw[Kv,D8]at h1 h2;rw[yk]at d;have i:=Ju M n x y h1.1 h2.1;have j:=Ju M n y x h2.1 h1.1;rw[qQ,qQ];by_cases q:x=y;subst q;rw[n6<|i.mpr rfl]at d;rw[n6<|i.mpr rfl,n6<|i.mpr rfl];rcases hi ys h1.2 h2.2 d with⟨E,f,g⟩|⟨E,f,g,t⟩|⟨E,f,g,t⟩
     exact .inl ⟨by rw[E],f,g⟩;exact .inr<|.inl ⟨λz=>E (Nq z).2,f,g,(t.pre<|A0 n x).cons 1⟩;exact .inr<|.inr ⟨λz=>E (Nq z).2,f,g,(t.pre<|A0 n x).cons 1⟩;have k:¬t4 M n x y=a9:=λz=>q<|i.mp z;have o:¬t4 M n y x=a9:=λz=>q (j.mp z).symm;rw[n9 k]at d;rw[n9 k,n9 o];rcases m x y h1.1 h2.1 d with⟨E,_⟩|⟨E,f,g,t⟩|⟨E,f,g,t⟩
     exact o0 E q;exact .inr<|.inl ⟨λz=>q (Nq z).1,f,g,(t.more _ _).cons 1⟩;exact .inr<|.inr ⟨λz=>q (Nq z).1,f,g,(t.more _ _).cons 1⟩
  cases x with
  |int a=>cases y<;>simp[A6]at h2<;>first|exact base (n+1) _ _|simp[kc]at d
  |str a=>cases y<;>simp[A6]at h2<;>first|exact s (n+1) _ _|simp[kc]at d
  |tup xs =>
   cases y with
   |tup ys =>
    rcases l xs ys (by simpa [A6]using h1) (by simpa [A6]using h2) d with⟨E,f,g⟩|⟨E,f,g,t⟩|⟨E,f,g,t⟩
    exact .inl ⟨by rw[E],f,g⟩;exact .inr<|.inl ⟨λz=>E<|D.tup.inj z,f,g,t.cons 2⟩;exact .inr<|.inr ⟨λz=>E<|D.tup.inj z,f,g,t.cons 2⟩
   |_=>simp[kc]at d
  |_=>simp[A6]at h1
theorem uV(h1:A6 n x=a9)(h2:A6 n y=a9)(h:kc M n x y=a9):A7 M n x y=decide (A0 n x<A0 n y):=by
 rcases GQ M n x y h1 h2 h with⟨E,a,b⟩|⟨E,a,b,t⟩|⟨E,a,b,t⟩
 subst E;rw[a,dF_<|Kw _];rw[a,dT_ t.lt];rw[a,dF_<|λz=>Kw _<|List.lt_trans z t.lt]
theorem FX(h1:A6 n x=a9)(h2:A6 n y=a9)(a:kc M n x y=a9)(e:A0 n x=A0 n y):x=y:=by
 rcases GQ M n x y h1 h2 a with⟨E,_⟩|⟨_,_,_,t⟩|⟨_,_,_,t⟩
 exact E;have:=t.lt;rw[e]at this;exact o0 this<|Kw _;have:=t.lt;rw[e]at this;exact o0 this<|Kw _
end L2
namespace L2
open PySem PySem.Spec PyProof.Rows DL PySem.W
section
variable{X:Cx}{pins:List (c6×c7)}{σ:St}{H:Hp}{s:d9}
theorem p7.laidF(I:p7 X pins σ H s)(k:∀b u,b≠X.env.locals->s.heap.get? b=a7 u->h'.get? b=a7 u)(p:s.heap.Ns X.env.locals m)(h:h'.Ns X.env.locals m)(t:s.heap.get? a=a8) (f:H a=a8) (j:cS X.prog X.w (v5 H a o) h' a o):p7 X pins σ (v5 H a o) { s with heap:=h',toks:=t' }:=by
 have i:∀b u,s.heap.get? b=a7 u->b≠a:=λb u e z=>by subst z;rw[t]at e;cases e
 refine I.step (g':=s.gens) (d':=s.drawn) (ch:=[]) (λ_ z=>nomatch z) (λb u L _ _ e _=>k b u L e) (λb u L _ _ e _=>⟨u.slots,k b u L e⟩) (λb u _ e n=>by rw[aA<|i b u e];exact n) (λb u _ e=>?_) (λb xs q=>by rw[aA<|am q f];exact q) (λb u xs q=>by rw[aA<|am q f];exact q) (λb ps q=>⟨#[],by rw[aA<|am q f,q];simp⟩) (λy l=>?_) (λb w q=>?_) I.bare;by_cases d:b=X.env.locals;subst d;obtain⟨o',_,_,D,_⟩:=h;exact⟨o',D⟩;exact⟨u,k b u d e⟩;have:m=y:=funext λx=>p.agree l x;subst this;exact h;by_cases d:b=a;subst d;rw[bx]at q;cases q;exact j;rw[aA d]at q;refine(I.hok b w q).stay (λc v g r=>k c v ?_ r) (λc z=>by rw[aA<|am z f];exact z) λc xs z=>by rw[aA<|am z f];exact z
 rcases g with rfl|g;exact am q I.free;exact am g I.free
theorem p7.keptF(I:p7 X pins σ H s)(k:∀b u,b≠X.env.locals->s.heap.get? b=a7 u->h'.get? b=a7 u)(i:s.heap.Ns X.env.locals m)(a:h'.Ns X.env.locals m):p7 X pins σ H { s with heap:=h',toks:=t' }:=by refine I.step (g':=s.gens) (d':=s.drawn) (ch:=[]) (λ_ z=>nomatch z) (λb u h _ _ e _=>k b u h e) (λb u h _ _ e _=>⟨u.slots,k b u h e⟩) (λb u _ e n=>n) (λb u _ e=>?_) (λb xs q=>q) (λb u xs q=>q) (λb ps q=>⟨#[],by rw[q];simp⟩) (λj g=>?_) (λb w q=>?_) I.bare;by_cases d:b=X.env.locals;subst d;obtain⟨o',_,_,D,_⟩:=a;exact⟨o',D⟩;exact⟨u,k b u d e⟩;have:m=j:=funext λx=>i.agree g x;subst this;exact a;refine(I.hok b w q).stay (λc v f r=>k c v ?_ r) (λc z=>z) λc xs z=>z;rcases f with rfl|f;exact am q I.free;exact am f I.free
end
section
variable{prog:c5}{w:b9}{A:d8}{E:b7->d9->Prop}{s:d9}
theorem sH{l:c6}{vs:List b7}{Q:b7->d9->Prop}(u:s.heap.IsList l vs.toArray)(h2:vs.length<2)(h:∀D h' n,s.heap.objs.size<=D->(∀b o,s.heap.get? b=a7 o->h'.get? b=a7 o)->h'.get? D=a7 { cls:=.type "list",data:=.seq vs.toArray n }->Q (.ref D) { s with heap:=h' }):e8 (f7 prog w) A (call (.builtin "sorted")<|[ABO l]) Q E s:=by
 have f:vs.length<=sizeLine:=by rw[Lh];lia
 refine Calls.call_function_entry kind_sorted plain_sorted entry_sorted (args_sorted1<|.ref l) ?_;unfold Builtin.«sorted»;refine p5 (m:=checkCount "sorted" 1 1 _)<|p8<|p5<|collect_list u (p5<|wpAny_newList ?_ f) f;generalize S:((s.heap.push<|m6 "list" #[] 0).update s.heap.objs.size (Kl (· ++ vs.toArray)))=g1;have z:g1.objs.size=s.heap.objs.size+1:=by rw[<-S,Heap.size_update,size_push']
 have x:∀b o,s.heap.get? b=a7 o->g1.get? b=a7 o:=λb o q=>by have d:=v9 q;rw[<-S,NI _ _ _ _<|x6 d,Heap.get?_push_ne _ _ _<|x6 d];exact q
 show e8 _ _ _ _ _ { s with heap:=g1.push (m6 "list" vs.toArray 0) };have L:(g1.push<|m6 "list" vs.toArray 0).get? g1.objs.size=a7 (m6 "list" vs.toArray 0):=A8 _ rfl;refine p5<|E5<|J0 slot_list_sort (⟨_,L,rfl⟩) entry_list_sort ?body<|args_list_sort<|.ref _
 case body =>
  rw[list_sort_plain];refine p5<|listItems_at L rfl ?_;refine p5<|listUpdate_at L rfl ?_ (by rw[x9,Lh];lia)<|w4 _;obtain⟨k,e⟩:∃k,((g1.push<|m6 "list" vs.toArray 0).update g1.objs.size<|Kl λ_=>(#[]:Array b7)).get? g1.objs.size=a7 (m6 "list" #[] k):=⟨_,N8 L λ_=>#[]⟩
  refine p5<|seqEpoch_at e rfl<|p5<|wpAny_newTuple (p5<|wpAny_newList (E5 ?_)<|w4 _) f;dsimp only;have g:vs.toArray.size<2:=by rw[x9];exact h2
  rw[n6 g,n6 g];refine p5<|p8 ?_;rw[StateT.run_pure];refine p5<|p8 ?_;dsimp only;generalize c:(((g1.push<|m6 "list" vs.toArray 0).update g1.objs.size<|Kl λ_=>(#[]:Array b7)).push<|m6 "tuple" vs.toArray 0).push (m6 "list" #[] 0)=g3;have a:g3.get? g1.objs.size=a7 (m6 "list" #[] k):=by rw[<-c];exact v7 _<|v7 _ e
  have y:∀b o,b≠g1.objs.size->s.heap.get? b=a7 o->g3.get? b=a7 o:=λb o i q=>by have B:=x b o q;rw[<-c];refine v7 _<|v7 _ ?_;rw[NI _ _ _ _ i];exact v7 _ B
  refine p5<|seqEpoch_at a rfl ?_;have r:∀us:List b7,us.length<2->(us.toArray.zip us.toArray).map (·.2)=us.toArray:=λus hu=>by
   match us,hu with
   | [],_=>simp
   | [v],_=>simp
   |_::_::_,hu=>simp at hu;lia
  have t:(arrOf<|SortSt.mk' general' (vs.toArray.zip vs.toArray) #[] 7 a8).map (·.2)=vs.toArray:=r vs h2;rw[t];refine p5 (listUpdate_at a rfl ?_ (w4 _)<|by rw[x9,Lh];lia);simp only[show failedOf (SortSt.mk' general' (vs.toArray.zip vs.toArray) #[] 7 a8)=a8 from rfl,bne_self_eq_false,x3,o6];refine p8 ⟨_,rfl,p8 ⟨_,rfl,?_⟩⟩;obtain⟨j,p⟩:∃j,(g3.update g1.objs.size<|Kl λ_=>vs.toArray).get? g1.objs.size=a7 (m6 "list" vs.toArray j):=⟨_,N8 a λ_=>vs.toArray⟩
  refine h g1.objs.size _ j (by lia) (λb o q=>?_) p;have i:b≠g1.objs.size:=x6 (by rw[z];exact Mn<|v9 q);rw[NI _ _ _ _ i];exact y b o i q
end
structure SrtOk(M:tx)(xs:List D):Prop where
 len:xs.length<64
 ok:∀x∈xs,A6 t8 x=a9
 cm:∀x∈xs,∀y∈xs,kc M t8 x y=a9
 kd:(∀x∈xs,∃z,x=.str z)\/(∀x∈xs,∃i,x=.int i)\/(∀x∈xs,∃z r,x=.tup (.str z::r))\/(∀x∈xs,∃i r,x=.tup (.int i::r))\/(∀x∈xs,∃z r,x=.tup (.tup z::r))
structure SrtG(M:tx)(xs:List D):Prop where
 len:xs.length<64
 okd:∀x∈xs,u3 M t8 x=a9
 cm:∀x∈xs,∀y∈xs,kc M t8 x y=a9
 kd:(∀x∈xs,∃z,x=.str z)\/(∀x∈xs,∃i,x=.int i)\/(∀x∈xs,∃z r,x=.tup (.str z::r))\/(∀x∈xs,∃i r,x=.tup (.int i::r))\/(∀x∈xs,∃z r,x=.tup (.tup z::r))
 od:∃en:D->List Int,∀a∈xs,∀b∈xs,A7 M t8 a b=decide (en a<en b)
theorem SrtOk.g(o:SrtOk M xs):SrtG M xs:=⟨o.len,λx h=>Ih M _ _<|o.ok x h,o.cm,o.kd,A0 t8,λa f b d=>uV (o.ok a f) (o.ok b d)<|o.cm a f b d⟩
def Gz(M:tx)(ys:List D):Prop:=ys.Pairwise λa b=>A7 M t8 b a=bt
def jK:C6:=λds M Q=>match ds with
 | [.ref n]=>∃xs,al M n xs/\SrtG M xs/\∀ys,ys.Perm xs->Gz M ys->Q (.ref M.length) (M++[.lst ys])
 |_=>False
theorem Reps.perm{K:t6}{ρ:List c6}{H:Hp}{ds:List D}{vs:List V}(r:Reps K ρ H ds vs)(is:List Nat)(hi:∀i∈is,i<ds.length):Reps K ρ H (is.map λi=>ds.getD i .non) (is.map λi=>vs.getD i .non):=by
 induction is with
 |nil=>exact .nil
 |cons i is a=>have h:=hi i D4;obtain⟨v,e,d⟩:=r.get<|v4 h;refine .cons ?_<|a λj L=>hi j<|A2 _ L;show t5 K ρ H (ds.getD i .non) (vs.getD i .non);rw[Ke,Ke,e,v4 h];exact d
theorem aw.perm(r:aw vs us)(is:List Nat)(hi:∀i∈is,i<vs.length):aw (is.map λi=>vs.getD i .non) (is.map λi=>us.getD i .none):=by
 induction is with
 |nil=>exact .nil
 |cons i is a=>have h:=hi i D4;obtain⟨v,e,d⟩:=ja r<|v4 h;refine .cons ?_<|a λj L=>hi j<|A2 _ L;show aN (vs.getD i .non) (us.getD i .none);rw[Ke,Ke,e,v4 h];exact d
instance:Inhabited D:=⟨.non⟩
section
variable{X:Cx}{pins:List (c6×c7)}{σ:St}{H:Hp}{s:d9}{ρ:List c6}{M:tx}
theorem Fc(o:HO)(x:cS P w H h a o):∃u,h.get? a=a7 u:=by
 cases o with
 |lst _=>obtain⟨_,_,_,_,e⟩:=x;exact⟨_,e⟩
 |tup _=>obtain⟨_,_,_,o,e,_⟩:=x;exact⟨o,e⟩
 |dK _=>obtain⟨_,_,_,_,_,_,_,e,_⟩:=x;exact⟨_,e⟩
 |dT _=>obtain⟨_,_,_,_,o,_,_,e,_⟩:=x;exact⟨o,e⟩
 |set _ _=>obtain⟨o,_,_,_,e,_⟩:=x;exact⟨_,e⟩
 |ins _ _ _=>obtain⟨_,_,_,e,_⟩:=x;exact⟨_,e⟩
 |own _=>exact x
 |xd _=>obtain⟨_,⟨_,_,_,e,_⟩,_⟩:=x;exact⟨_,e⟩
 |rng _ _=>obtain⟨_,_,_,e⟩:=x;exact⟨_,e⟩
 |frz _ _=>obtain⟨e,_⟩:=x;exact⟨_,e⟩
 |tbl _=>exact⟨_,x⟩
 |met _ _=>exact⟨_,x⟩
 |ext _=>obtain⟨_,e,_⟩:=x;exact e
theorem D2.none(x:D2 P w H h)(e:h.get? a=a8):H a=a8:=by
 cases q:H a with
 |none=>rfl
 |some o=>exfalso;obtain⟨u,g⟩:=Fc o<|x a o q;rw[e]at g;cases g
theorem Ff(I:p7 X pins σ H s)(m:u6 X.K ρ M H)(n:Nat)(A:d8)(u:A.units+n<j2):∀(ds es:List D) (vs ws:List V) (its jts:List b7),Reps X.K ρ H ds vs->aw vs its->Reps X.K ρ H es ws->aw ws jts->ds.all (u3 M n)=a9->es.all (u3 M n)=a9 ->yk (t4 M n) (kc M n) ds es=a9->LexAt A s its jts (qQ (t4 M n) (A7 M n) ds es):=by
 intro ds;induction ds with
 |nil =>
  intro es vs ws its jts g c p j _ _ _;cases g;cases c;cases p with
  |nil=>cases j;exact .nn
  |cons _ _=>cases j;exact .nc
 |cons d ds hi =>
  intro es vs ws its jts g c p j k C l;cases g with
  |cons E g =>
   cases c with
   |cons b c =>
    cases p with
    |nil=>cases j;exact .cn
    |@cons e _ o _ a p =>
     cases j with
     |cons f j=>rw[Kv,D8]at k C;have i:=(kG I m n A d _ _ _ _ _ u E b a f k.1 C.1).1;rw[qQ];rw[yk]at l;by_cases q:t4 M n d e=a9;rw[q]at i;rw[n6 q]at l ⊢;exact .eq i<|hi _ _ _ _ _ g c p j k.2 C.2 l;have h:=KJ.mpr q;rw[h]at i;rw[n9 q]at l ⊢;exact .ne i<|Dy I m n A _ _ _ _ _ _ u E b a f k.1 C.1 l
end
section
variable{prog:c5}{w:b9}{A:d8}{s:d9}{b:Bool}{Q:Bool->d9->Prop}
theorem Cu(h:LexAt A s its jts k):∀(i:Nat),(b&&i==0)=bt->(b&&i+1==0)=bt->Q k s->KatLex prog w A b (decide<|its.length<jts.length) Q (its.zip jts) i s:=by
 have n:∀i:Nat,(b&&i+1==0)=bt:=λi=>by cases b<;>simp
 induction h with
 |nn=>intro i _ _ q;exact q
 |nc=>intro i _ _ q;exact(show Q (decide<|0<_+1) s by rw[dT_<|Nat.succ_pos _];exact q)
 |cn=>intro i _ _ q;exact(show Q (decide<|_+1<0) s by rw[dF_<|Ll _];exact q)
 |@eq x y xs ys k e t a=>intro i d _ q;refine kat_cons<|e prog w _ _<|kat_yes ?_;have:=a (i+1) (n i) (n<|i+1) q;rw[show decide ((x::xs).length<(y::ys).length)=decide (xs.length<ys.length) by simp];exact this
 |@ne x y xs ys k e t=>intro i d _ q;refine kat_cons<|e prog w _ _<|kat_no ?_;rw[d];exact kat_one _ _<|t prog w _ _ q
theorem Ai(i:KF A s p q e)(g:e=bt->∀Q':Bool->d9->Prop,Q' l s->e8 (f7 prog w) A (oneLt' (b&&0==0) p q) Q' (λ_ _=>False) s)(E:e=a9->LexAt A s its jts k)(h:Q (if e=a9 then k else l) s):KatLex prog w A b (decide<|(p::its).length<(q::jts).length) Q ((p::its).zip<|q::jts) 0 s:=by
 refine kat_cons<|i prog w _ _ ?_;cases e with
 |true=>refine kat_yes ?_;rw[show decide ((p::its).length<(q::jts).length)=decide (its.length<jts.length) by simp];exact Cu (E rfl) 1 (by cases b<;>rfl) (by cases b<;>rfl) h
 |false=>exact kat_no<|g rfl _ h
end
section
variable{X:Cx}{pins:List (c6×c7)}{σ:St}{H:Hp}{s:d9}{ρ:List c6}{M:tx}
theorem tE{M:Model}{h:c8}{x:b8}{t:Tok}:Looks M h (k7<|.str x t) (.type "str"):=Looks.of_pure rfl
theorem tF{M:Model}{h:c8}{x:Int}{t:Tok}:Looks M h (k7<|.int x t) (.type "int"):=Looks.of_pure rfl
theorem Reps.getD'(r:Reps X.K ρ H ds vs)(f:aw vs its)(h:i<ds.length):∃v,t5 X.K ρ H (ds.getD i default) v/\aN v (its.getD i .none)/\ds.getD i default∈ds:=by obtain⟨v,e,d⟩:=r.get<|v4 h;obtain⟨u,a,T⟩:=ja f e;refine⟨v,?_,?_,?_⟩;rw[Ke,v4 h];exact d;rw[Ke,a];exact T;rw[Ke,v4 h];exact KY h
theorem Reps.mem(r:Reps X.K ρ H ds vs)(f:aw vs its)(h:u∈its):∃d v,d∈ds/\t5 X.K ρ H d v/\aN v u:=by
 induction ds generalizing vs its with
 |nil=>cases r;cases f;cases h
 |cons g ds i =>
  cases r with
  |cons e r =>
   cases f with
   |cons c q=>rcases(z5 (a:=u)).mp h with rfl|h;exact⟨_,_,D4,e,c⟩;obtain⟨d,v,h1,h2,b⟩:=i r q h;exact⟨d,v,A2 _ h1,h2,b⟩
theorem vt(I:p7 X pins σ H s)(r:Reps X.K ρ H xs ws)(b:aw ws its)(a:∀x∈xs,∃f r,x=.tup (f::r)):∃fs,KatTups s.heap its fs/\fs.length=its.length/\∀u∈fs,∃d v,t5 X.K ρ H d v/\aN v u/\∃r,D.tup (d::r)∈xs:=by
 induction xs generalizing ws its with
 |nil=>cases r;cases b;exact⟨[],.nil,rfl,λ_ z=>nomatch z⟩
 |cons d ds y =>
  cases r with
  |cons C r =>
   cases b with
   |cons B q =>
    obtain⟨fs,h1,h2,j⟩:=y r q λx h=>a x<|A2 _ h;obtain⟨f,aI,rfl⟩:=a d D4;cases C with
    |tup w c =>
     cases B;obtain⟨its,e,A,F⟩:=I.tuple w;cases c with
     |cons E c =>
      cases e with
      |cons i e=>obtain⟨o,p,k,n,l⟩:=A;refine⟨_::fs,.cons p k l rfl h1,by simp[h2],λu g=>?_⟩;rcases z5.mp g with rfl|g;exact⟨_,_,E,i,_,D4⟩;obtain⟨d,v,t,m,r',R⟩:=j u g;exact⟨d,v,t,m,r',A2 _ R⟩
noncomputable def ltc(M:tx)(xs:List D)(i j:Nat):Bool:=A7 M t8 (xs.getD i default)<|xs.getD j default
theorem sI(I:p7 X pins σ H s)(sm:u6 X.K ρ M H){xs:List D}{ws:List V}{its:List b7}(so:SrtG M xs)(r:Reps X.K ρ H xs ws)(J:aw ws its)(h2:2<=its.length){A:d8}(P:A.units+t8<j2):e8 (f7 X.prog X.w) A (keyKind' its.toArray) (λκ s'=>s'=s/\∀i j (C:Bool->d9->Prop),i<its.length->j<its.length->C (ltc M xs i j) s->kas_ask X.prog X.w A κ its i j C s) (λ_ _=>False) s:=by
 have lw:=r.length;have li:=J.length;have le:xs.length=its.length:=by lia
 have O:∀(b:Bool),(∀x∈xs,∃f r,x=.tup (f::r))->(∀(f g:D) (vf vg:V) (p q:b7) (r r':List D),D.tup (f::r)∈xs->D.tup (g::r')∈xs->t5 X.K ρ H f vf->aN vf p->t5 X.K ρ H g vg->aN vg q -> (t4 M 29 f g=bt->∀Q':Bool->d9->Prop,Q' (A7 M 29 f g) s->e8 (f7 X.prog X.w) A (oneLt' (b&&0==0) p q) Q' (λ_ _=>False) s)) -> ∀i j (C:Bool->d9->Prop),i<its.length->j<its.length->C (ltc M xs i j) s->kas_ask X.prog X.w A (tuples' b) its i j C s:=by
  intro b F ai i j C hi hj E;unfold kas_ask;obtain⟨v1,c,B,m⟩:=r.getD' J (show i<xs.length by lia);obtain⟨v2,G,L,W⟩:=r.getD' J (show j<xs.length by lia);unfold ltc at E;have k1:=so.okd _ m;have k2:=so.okd _ W;have k3:=so.cm _ m _ W;generalize xs.getD i default=x at *;generalize xs.getD j default=y at *;obtain⟨f,rf,rfl⟩:=F _ m;obtain⟨g,rg,rfl⟩:=F _ W;cases c with
  |tup S rs =>
   cases G with
   |tup bk Z =>
    generalize its.getD i .none=u1 at *;generalize its.getD j .none=u2 at *;cases B;cases L;obtain⟨as,ra,pa,_⟩:=I.tuple S;obtain⟨bs,rb,pb,_⟩:=I.tuple bk;obtain⟨o,ho,_,n,hd⟩:=pa;obtain⟨o',be,_,n',aS⟩:=pb;refine kat_lt ho hd be aS ?_;cases rs with
    |cons a1 rs =>
     cases ra with
     |@cons _ p _ la b1 ra =>
      cases Z with
      |cons a2 Z =>
       cases rb with
       |@cons _ q _ lb b2 rb =>
        have aj:A.units+29<j2:=by have:t8=30:=rfl;lia
        have z1:u3 M 29 f=a9/\rf.all (u3 M 29)=a9:=by
         have:(f::rf).all (u3 M 29)=a9:=k1
         rwa [Kv,D8]at this
        have z2:u3 M 29 g=a9/\rg.all (u3 M 29)=a9:=by
         have:(g::rg).all (u3 M 29)=a9:=k2
         rwa [Kv,D8]at this
        have z3:(if t4 M 29 f g=a9 then yk (t4 M 29) (kc M 29) rf rg else kc M 29 f g)=a9:=k3;have he:=(kG I sm 29 A _ _ _ _ _ _ aj a1 b1 a2 b2 z1.1 z2.1).1;have R:C (if t4 M 29 f g=a9 then qQ (t4 M 29) (A7 M 29) rf rg else A7 M 29 f g) s:=E;cases U:t4 M 29 f g with
        |true=>rw[U]at he R z3;have:=Ai (prog:=X.prog) (w:=X.w) (b:=b) (Q:=C) (l:=a9) he (λz=>nomatch z) (λ_=>Ff I sm 29 A aj _ _ _ _ _ _ rs ra Z rb z1.2 z2.2 z3) R;simpa using this
        |false=>rw[U]at he R;have:=Ai (prog:=X.prog) (w:=X.w) (b:=b) (Q:=C) (l:=A7 M 29 f g) (its:=la) (jts:=lb) (k:=a9) he (λ_=>ai f g _ _ _ _ _ _ m W a1 b1 a2 b2 U) (λz=>nomatch z) R;simpa using this
 have N:∀(κ:SortKind),(∀i j (C:Bool->d9->Prop),i<its.length->j<its.length->C (ltc M xs i j) s->kas_ask X.prog X.w A κ its i j C s)->(s=s/\∀i j (C:Bool->d9->Prop),i<its.length->j<its.length->C (ltc M xs i j) s->kas_ask X.prog X.w A κ its i j C s):=λκ h=>⟨rfl,h⟩
 have aD:A.units+29<j2:=by have:t8=30:=rfl;lia
 rcases so.kd with a|a|a|a|a;refine kas_kind (T:=.type "str") h2 (λu P=>?_) (by decide) (by decide)<|N _ λi j C hi hj E=>?_;obtain⟨d,v,m,c,B⟩:=r.mem J P;obtain⟨z,rfl⟩:=a d m;cases c;obtain⟨t,rfl⟩:=B;exact tE;unfold kas_ask;obtain⟨v1,c,B,m⟩:=r.getD' J (show i<xs.length by lia);obtain⟨v2,G,L,W⟩:=r.getD' J (show j<xs.length by lia);unfold ltc at E;obtain⟨z,hz⟩:=a _ m;obtain⟨z',Y⟩:=a _ W;rw[hz]at c E;rw[Y]at G E;cases c;cases G;obtain⟨t,h1⟩:=B;obtain⟨t',h2⟩:=L;rw[h1,h2];exact kas_lt_str E;refine kas_kind (T:=.type "int") h2 (λu P=>?_) (by decide) (by decide)<|N _ λi j C hi hj E=>?_;obtain⟨d,v,m,c,B⟩:=r.mem J P;obtain⟨z,rfl⟩:=a d m;cases c;obtain⟨t,rfl⟩:=B;exact tF;unfold kas_ask;obtain⟨v1,c,B,m⟩:=r.getD' J (show i<xs.length by lia);obtain⟨v2,G,L,W⟩:=r.getD' J (show j<xs.length by lia);unfold ltc at E;obtain⟨z,hz⟩:=a _ m;obtain⟨z',Y⟩:=a _ W;rw[hz]at c E;rw[Y]at G E;cases c;cases G;obtain⟨t,h1⟩:=B;obtain⟨t',h2⟩:=L;rw[h1,h2];exact kat_lt_int E;obtain⟨fs,t1,t2,t3⟩:=vt I r J λx F=>(a x F).elim λz ⟨r,e⟩=>⟨_,_,e⟩
 refine kat_kind (T:=.type "str") t1 (by lia) (λu P=>?_) (by decide)<|N _<|O _ (λx F=>(a x F).elim λz ⟨r,e⟩=>⟨_,_,e⟩) λf g vf vg p q r r' m W c B G L S Q' h=>?_;obtain⟨d,v,c,B,r',m⟩:=t3 u P;obtain⟨z,an,e⟩:=a _ m;cases e;cases c;obtain⟨t,rfl⟩:=B;exact tE;obtain⟨z,_,e⟩:=a _ m;cases e;obtain⟨z',_,e'⟩:=a _ W;cases e';cases c;cases G;obtain⟨t,rfl⟩:=B;obtain⟨t',rfl⟩:=L;exact oneLt_str h;obtain⟨fs,t1,t2,t3⟩:=vt I r J λx F=>(a x F).elim λz ⟨r,e⟩=>⟨_,_,e⟩
 refine kat_kind (T:=.type "int") t1 (by lia) (λu P=>?_) (by decide)<|N _<|O _ (λx F=>(a x F).elim λz ⟨r,e⟩=>⟨_,_,e⟩) λf g vf vg p q r r' m W c B G L S Q' h=>?_;obtain⟨d,v,c,B,r',m⟩:=t3 u P;obtain⟨z,an,e⟩:=a _ m;cases e;cases c;obtain⟨t,rfl⟩:=B;exact tF;obtain⟨z,_,e⟩:=a _ m;cases e;obtain⟨z',_,e'⟩:=a _ W;cases e';cases c;cases G;obtain⟨t,rfl⟩:=B;obtain⟨t',rfl⟩:=L;exact oneLt_int h;obtain⟨fs,t1,t2,t3⟩:=vt I r J λx F=>(a x F).elim λz ⟨r,e⟩=>⟨_,_,e⟩
 refine kat_kind (T:=.type "tuple") t1 (by lia) (λu P=>?_) (by decide)<|N _<|O _ (λx F=>(a x F).elim λz ⟨r,e⟩=>⟨_,_,e⟩) λf g vf vg p q r r' m W c B G L S Q' h=>?_;obtain⟨d,v,c,B,r',m⟩:=t3 u P;obtain⟨z,an,e⟩:=a _ m;cases e;cases c with
 |tup S rs=>cases B;obtain⟨_,_,pl,_⟩:=I.tuple S;obtain⟨o,ho,E,_⟩:=pl;rw[<-E];exact(show Looks _ s.heap (k7<|.ref _) o.cls from(Looks.ld ho).andThen .now)
 have k1:u3 M 29 f=a9:=by have:(f::r).all (u3 M 29)=a9:=so.okd _ m;rw[Kv,D8]at this;exact this.1
 have k2:u3 M 29 g=a9:=by have:(g::r').all (u3 M 29)=a9:=so.okd _ W;rw[Kv,D8]at this;exact this.1
 have k3:(if t4 M 29 f g=a9 then yk (t4 M 29) (kc M 29) r r' else kc M 29 f g)=a9:=so.cm _ m _ W;rw[S]at k3;exact kat_one _ _<|Dy I sm 29 A _ _ _ _ _ _ aD c B G L k1 k2 k3 _ _ _ _ h
end
section
variable{X:Cx}{pins:List (c6×c7)}{σ:St}{H:Hp}{s:d9}{ρ:List c6}{M:tx}
theorem HR(o:SrtG M xs):(∀a∈xs,A7 M t8 a a=bt)/\(∀a∈xs,∀b∈xs,∀d∈xs,A7 M t8 a b=a9->A7 M t8 b d=a9->A7 M t8 a d=a9)/\∀a∈xs,∀b∈xs,∀d∈xs,A7 M t8 a d=a9->A7 M t8 a b=a9\/A7 M t8 b d=a9:=by obtain⟨n,e⟩:=o.od;refine⟨λa f=>?_,λa f b c d g h1 h2=>?_,λa f b c d g h=>?_⟩;rw[e a f a f,dF_<|Kw _];rw[e a f b c,o4]at h1;rw[e b c d g,o4]at h2;rw[e a f d g,o4];exact List.lt_trans h1 h2;rw[e a f d g,o4]at h;rw[e a f b c,e b c d g,o4,o4];by_cases z:n a<n b;exact .inl z;have G:n b<=n a:=z;exact .inr<|List.lt_of_le_of_lt G h
theorem Bx{k:Nat}{l:c6}{xs:List D}{F:List V}{its:List b7}{R:VK}(hr:Room k X.A)(I:p7 X pins σ H s)(sm:u6 X.K ρ M H)(so:SrtG M xs)(r:Reps X.K ρ H xs F)(P:aw F its)(Z:s.heap.IsList l its.toArray)(hz:F.length<=sizeLine)(h2:2<=its.length)(G:its.length<64)(E:l≠X.env.locals) (kk:∀v H',((∀Q:DK,(∀ys,ys.Perm xs->Gz M ys->Q (.ref M.length) (M++[.lst ys]))->VQ X.K ρ H Q v H'))->R v H'):e8 (f7 X.prog X.w) X.A (call (.builtin "sorted") [.ref l]) (EP X pins σ R) X.xe s:=by
 obtain⟨m,O,hm⟩:=I.loc;have lw:=r.length;have li:=P.length;obtain⟨ol,f,_⟩:=id Z;have g:∀a o,(a,o)∈[]++(l,ol)::Att.ledger s.heap X.env.locals l↔a≠X.env.locals/\s.heap.get? a=a7 o:=λa o=>by rw[E3,z5,Att.mem_ledger];constructor;rintro(h|⟨h1,_,h3⟩);cases h;exact⟨E,f⟩;exact⟨h1,h3⟩;rintro⟨h1,h2⟩;by_cases z:a=l;subst z;rw[f]at h2;cases h2;exact .inl rfl;exact .inr ⟨h1,z,h2⟩
 refine kat_sorted (Att.fr_all O) (Att.news_ledger E f) Z h2 G λD e1 h' T N lt=>?_;have kp:∀b u,b≠X.env.locals->s.heap.get? b=a7 u->h'.get? b=a7 u:=λb u J e=>(N (b,u)<|A2 _<|(g b u).mpr ⟨J,e⟩).1;have L:D≠X.env.locals:=(N _ D4).2.1;have W:s.heap.get? D=a8:=by
  cases q:s.heap.get? D with
  |none=>rfl
  |some o=>exact o0 (lt (D,o)<|(g D o).mpr ⟨L,q⟩)<|G5 _
 have I':p7 X pins σ H { s with heap:=h' }:=I.keptF (t':=s.toks) kp O T.ns;have hu:X.A.in1.in1.units+t8<j2:=by have:=hr.un;have:t8=30:=rfl;show X.A.units+1+1+t8<j2;lia
 refine I9 (sI I' sm so r P h2 hu) (λκ s' hk=>?_) λ_ _ x=>x;obtain⟨rfl,B⟩:=hk;refine Srt.wp_run (n:=its.length) (c:=λi j=>if i<xs.length then(if j<xs.length then A7 M t8 (xs.getD i default) (xs.getD j default)else a9)else bt) (λi j C hi hj Y=>?_) _ (Srt.sort_bd<|by lia).1 ?_;refine B i j C hi hj ?_;rw[n6 (by lia),n6<|by lia]at Y;exact Y;have t:=Srt.All.run (c:=λi j=>if i<xs.length then(if j<xs.length then A7 M t8 (xs.getD i default) (xs.getD j default)else a9)else bt) _ (Srt.sort_bd (n:=its.length)<|by lia).2;obtain⟨o1,o2,o3⟩:=HR so;have d:=Srt.sort_list xs (by lia) o1 o2 o3
 try dsimp only at d
 rw[show xs.length=its.length by lia]at d t ⊢;generalize Srt.run _ (Ls its.length)=p at t d ⊢;have hi:∀i∈p.toList,i<xs.length:=λi h=>by have:=t.mem_iff.mp h;rw[F7]at this;lia
 refine KasFin.intro T N (UpdF.head λq hq=>x6<|lt q hq) λh2 c F2 U=>?_;have r':=r.perm p.toList hi;have S:=P.perm p.toList (λi h=>by have:=hi i h;lia);have y:H D=a8:=D2.none I.hok W;refine⟨.ref D,_,I.laidF (t':=s.toks) (o:=.lst<|p.toList.map λi=>F.getD i .non) (λb u J e=>(U (b,u)<|A2 _<|(g b u).mpr ⟨J,e⟩).1) O F2.ns W y ⟨?_,_,c,S,(U _ D4).1⟩,rfl,kk _ _ λQ hQ=>VQ.laidL sm .refl r' y<|hQ _ d.1 d.2⟩;rw[u4];have:=d.1.length_eq;rw[u4]at this;lia
end
theorem p7.sqL_ne(I:p7 X pins σ H s)(h:F9 X.K H a xs):a≠X.env.locals:=by
 rcases h with h|⟨o,its,n,k,_⟩
 rcases h with h|⟨_,h⟩
 exact am h I.free;exact am h I.free;have:=v9<|I.mod.kin a o k;exact x6<|Kd this<|G1 I.ok.bsz I.ok.above
section
variable{X:Cx}
theorem AO(j:Room k X.A):oo X (.builtin "sorted") jK:=by
 rintro p s σ H vs us R I w ⟨ds,M,ρ,Q,m,rs,q,c⟩;unfold jK at q;split at q;obtain⟨xs,L,d,q⟩:=q;cases rs with
 |cons r1 rs =>
  cases rs;obtain⟨u,rfl,t⟩:=aw.one w;cases r1 with
  |ref e =>
   cases t;obtain⟨y,b,r⟩:=al.seq m L e;obtain⟨its,f,l,z⟩:=I.list b;have C:=r.length;have B:=f.length;by_cases h2:its.length<2;refine sH l.isList h2 λD h' n a g i=>?_;refine⟨.ref D,_,I.laid (t':=s.toks) (o:=.lst y) g a ⟨z,its,n,f,i⟩,rfl,c _ _<|VQ.laidL m .refl r (I.hok.fresh a)<|q xs (MG _) ?_⟩;unfold Gz
   match xs,(show xs.length<2 by lia) with
   | [],_=>exact Ol
   | [x],_=>exact Pb _ _
   |_::_::_,hx=>simp at hx;lia
   have h:2<=its.length:=by lia
   have G:its.length<64:=by have:=d.len;lia
   exact Bx j I m d r f l.isList z h G (I.sqL_ne b) λv H' x=>c v H'<|x Q q
 exact q.elim
end
structure ZA(z TI TO i1 i2:c6)(f1 f2:List c6):Prop where
 nd:[z,TI,TO,i1,i2].Nodup
 z1:z∉f1
 o1:TO∉f1
 y1:i2∉f1
 z2:z∉f2
 o2:TO∉f2
 x2:i1∉f2
section
variable{X:Cx}{pins:List (c6×c7)}{σ:St}{H:Hp}{s:d9}{h':c8}
theorem p7.turnedL{t':Nat}{fp:List c6}(I:p7 X pins σ H s)(h:∀b∈fp,yu X pins H b)(k:∀b o,b∉fp->s.heap.get? b=a7 o->h'.get? b=a7 o):p7 X pins σ H { s with heap:=h',toks:=t' }:=by
 have p:∀b u,H b=a7 u->b∉fp:=λb u e z=>by rw[(h b z).1]at e;cases e
 refine I.step (g':=s.gens) (d':=s.drawn) (ch:=fp) (λb d=>⟨(h b d).2.2.2.1,(h b d).2.1,(h b d).2.2.2.2.1,(h b d).2.2.2.2.2⟩) (λb o _ _ f e _=>k b o f e) (λb o _ _ f e _=>⟨o.slots,k b o f e⟩) (λ_ _ _ _ n=>n) (λb o f e=>⟨o,k b o f e⟩) (λ_ _ e=>e) (λ_ _ _ e=>e) (λb ps e=>⟨#[],by rw[e];simp⟩) (λm a=>?_) (λb u e=>?_) I.bare;obtain⟨o,es,i,D,r⟩:=a;exact⟨o,es,i,k _ o (λz=>(h _ z).2.1 rfl) D,r⟩;refine(I.hok b u e).stay (λc v f q=>k c v ?_ q) (λ_ q=>q) λ_ _ q=>q;rcases f with rfl|z;exact p _ u e;exact p _ _ z
end
section
variable{prog:c5}{w:b9}{A:d8}{E:b7->d9->Prop}{s:d9}
theorem uW{D:c6}{vs:List b7}{n:Nat}{Q:b7->d9->Prop}(j:s.heap.get? D=a7 (m6 "list" vs.toArray n))(h2:vs.length<2)(h:∀h' c,(∀b o,b≠D->s.heap.get? b=a7 o->h'.get? b=a7 o)->h'.get? D=a7 (m6 "list" vs.toArray c)->Q .none { s with heap:=h' }):e8 (f7 prog w) A (call (.builtin "list.sort") [.ref D]) Q E s:=by
 have f:vs.length<=sizeLine:=by rw[Lh];lia
 refine J0 slot_list_sort (⟨_,j,rfl⟩) entry_list_sort ?_<|args_list_sort<|.ref D;rw[list_sort_plain];refine p5<|listItems_at j rfl<|p5<|listUpdate_at j rfl ?_ (by rw[x9];exact f)<|w4 _;obtain⟨l,e⟩:∃l,(s.heap.update D<|Kl λ_=>(#[]:Array b7)).get? D=a7 (m6 "list" #[] l):=⟨_,N8 j λ_=>#[]⟩
 refine p5<|seqEpoch_at e rfl<|p5<|wpAny_newTuple (p5<|wpAny_newList (E5 ?_)<|w4 _) f;dsimp only;have g:vs.toArray.size<2:=by rw[x9];exact h2
 rw[n6 g,n6 g];refine p5<|p8 ?_;rw[StateT.run_pure];refine p5<|p8 ?_;dsimp only;generalize d:((s.heap.update D<|Kl λ_=>(#[]:Array b7)).push<|m6 "tuple" vs.toArray 0).push (m6 "list" #[] 0)=g3;have a:g3.get? D=a7 (m6 "list" #[] l):=by rw[<-d];exact v7 _<|v7 _ e
 have p:∀b o,b≠D->s.heap.get? b=a7 o->g3.get? b=a7 o:=λb o i q=>by rw[<-d];refine v7 _<|v7 _ ?_;rw[NI _ _ _ _ i];exact q
 refine p5<|seqEpoch_at a rfl ?_;have r:∀us:List b7,us.length<2->(us.toArray.zip us.toArray).map (·.2)=us.toArray:=λus hu=>by
  match us,hu with
  | [],_=>simp
  | [v],_=>simp
  |_::_::_,hu=>simp at hu;lia
 have t:(arrOf<|SortSt.mk' general' (vs.toArray.zip vs.toArray) #[] 7 a8).map (·.2)=vs.toArray:=r vs h2;rw[t];refine p5 (listUpdate_at a rfl ?_ (w4 _)<|by rw[x9];exact Nat.le_succ_of_le f);simp only[show failedOf (SortSt.mk' general' (vs.toArray.zip vs.toArray) #[] 7 a8)=a8 from rfl,bne_self_eq_false,x3,o6];obtain⟨k,m⟩:∃k,(g3.update D<|Kl λ_=>vs.toArray).get? D=a7 (m6 "list" vs.toArray k):=⟨_,N8 a λ_=>vs.toArray⟩
 refine p8 ⟨_,rfl,h _ k (λb o i q=>?_) m⟩;rw[NI _ _ _ _ i];exact p b o i q
end
section
variable{X:Cx}{pins:List (c6×c7)}{σ:St}{H:Hp}{s:d9}{ρ:List c6}{M:tx}
theorem Em{k:Nat}{D:c6}{xs:List L2.D}{P:List V}{its:List b7}{R:VK}{h1:c8}{tk n:Nat}{m:b8->Option b7}{A:d8}{E:b7->d9->Prop}(hr:Room k X.A)(hA:A.units<=X.A.units+4)(I:p7 X pins σ H s)(sm:u6 X.K ρ M H)(so:SrtG M xs)(r:Reps X.K ρ H xs P)(O:aw P its)(T:s.heap.Ns X.env.locals m) (L:h1.Ns X.env.locals m) (l:∀b u,b≠X.env.locals->s.heap.get? b=a7 u->h1.get? b=a7 u) (J:s.heap.get? D=a8) (F:D≠X.env.locals) (ho:h1.get? D=a7 (m6 "list" its.toArray n))(kk:∀v H',((∀Q:DK,(∀ys,ys.Perm xs->Gz M ys->Q (.ref M.length) (M++[.lst ys]))->VQ X.K ρ H Q v H'))->R v H'):e8 (f7 X.prog X.w) A (call (.builtin "list.sort") [.ref D]) (λ_ s'=>EP X pins σ R (.ref D) s') E { s with heap:=h1,toks:=tk }:=by
 have lw:=r.length;have li:=O.length;have ai:=so.len;have N:H D=a8:=D2.none I.hok J;have y:∀b u,s.heap.get? b=a7 u->b≠D:=λb u e q=>by subst q;rw[J]at e;cases e
 by_cases h2:its.length<2;refine uW ho h2 λh' c G Y=>?_;have W:h'.Ns X.env.locals m:=by obtain⟨o,es,ep,e,aI⟩:=L;exact⟨o,es,ep,G _ _ (C3 F) e,aI⟩
 refine⟨.ref D,_,I.laidF (t':=tk) (o:=.lst P) (λb u g e=>G b u (y b u e)<|l b u g e) T W J N ⟨by rw[Lh];lia,its,c,O,Y⟩,rfl,kk _ _ λQ S=>VQ.laidL sm .refl r N<|S xs (MG _) ?_⟩;unfold Gz
 match xs,(show xs.length<2 by lia) with
 | [],_=>exact Ol
 | [x],_=>exact Pb _ _
 |_::_::_,hx=>simp at hx;lia
 have z:2<=its.length:=by lia
 have f:∀a o,(a,o)∈Att.ledger h1 X.env.locals D↔a≠X.env.locals/\a≠D/\h1.get? a=a7 o:=λa o=>Att.mem_ledger;have U:UpdF D (m6 "list" its.toArray n) ([]++(D,m6 "list" its.toArray n)::Att.ledger h1 X.env.locals D) λo'=>(D,o')::Att.ledger h1 X.env.locals D:=UpdF.head λp hp=>((f p.1 p.2).mp hp).2.1;refine kat_lsort (s:={ s with heap:=h1,toks:=tk }) (vs:=its) (Att.fr_all L) (Att.news_ledger F ho) U rfl z (by lia) λe1 h' F' N'=>?_;have kp:∀b u,b≠X.env.locals->s.heap.get? b=a7 u->h'.get? b=a7 u:=λb u g e=>(N' (b,u)<|A2 _<|(f b u).mpr ⟨g,y b u e,l b u g e⟩).1;have I':p7 X pins σ H { s with heap:=h',toks:=tk }:=I.keptF (t':=tk) kp T F'.ns;have hu:A.in1.units+t8<j2:=by have:=hr.un;have:t8=30:=rfl;show A.units+1+t8<j2;lia
 refine I9 (sI I' sm so r O z hu) (λκ s' hk=>?_) λ_ _ x=>x;obtain⟨rfl,B⟩:=hk;refine Srt.wp_run (n:=its.length) (c:=λi j=>if i<xs.length then(if j<xs.length then A7 M t8 (xs.getD i default) (xs.getD j default)else a9)else bt) (λi j C hi hj hc=>?_) _ (Srt.sort_bd<|by lia).1 ?_;refine B i j C hi hj ?_;rw[n6 (by lia),n6<|by lia]at hc;exact hc;have t:=Srt.All.run (c:=λi j=>if i<xs.length then(if j<xs.length then A7 M t8 (xs.getD i default) (xs.getD j default)else a9)else bt) _ (Srt.sort_bd (n:=its.length)<|by lia).2;obtain⟨o1,o2,o3⟩:=HR so;have d:=Srt.sort_list xs (by lia) o1 o2 o3
 try dsimp only at d
 rw[show xs.length=its.length by lia]at d t ⊢;generalize Srt.run _ (Ls its.length)=p at t d ⊢;have hi:∀i∈p.toList,i<xs.length:=λi h=>by have:=t.mem_iff.mp h;rw[F7]at this;lia
 refine KasFin.intro F' N' (UpdF.head λq hq=>((f q.1 q.2).mp hq).2.1) λh2 c F2 N2=>?_;have r':=r.perm p.toList hi;have Z:=O.perm p.toList (λi h=>by have:=hi i h;lia);refine⟨.ref D,_,I.laidF (t':=tk) (o:=.lst<|p.toList.map λi=>P.getD i .non) (λb u g e=>(N2 (b,u)<|A2 _<|(f b u).mpr ⟨g,y b u e,l b u g e⟩).1) T F2.ns J N ⟨?_,_,c,Z,(N2 _ D4).1⟩,rfl,kk _ _ λQ S=>VQ.laidL sm .refl r' N<|S _ d.1 d.2⟩;rw[u4];have:=d.1.length_eq;rw[u4]at this;rw[Lh];lia
end
section
variable{K:t6}{ρ:List c6}{H:Hp}{M:tx}
theorem u6.laidM(S:u6 K ρ M H)(c:H p=a8)(ok:yr K (ρ++[p]) (v5 H p o) p mo):u6 K (ρ++[p]) (M++[mo]) (v5 H p o):=by
 have g:Grow K ρ H (ρ++[p]) (v5 H p o):=Grow.laidR c;have d:∀(n:Nat),ρ[n]?=a7 p->Kr M[n]?:=λn e=>by rcases S.tracked e with⟨o,q⟩|q;rw[c]at q;cases q;exact q
 refine⟨λn m a h t b=>?_,by rw[x5,x5,S.len];rfl,λn a j t b=>?_⟩;rcases aW t with r|⟨r,g1⟩
 rcases aW b with N|⟨N,i⟩
 exact(S.nd n m a h r N).elim (λz=>.inl z.more) λz=>.inr z.more;subst i;exact .inl (d n r).more;rcases aW b with N|⟨N,i⟩
 subst g1;exact .inr (d m N).more;exact o0 (r.trans N.symm) h;rcases aW t with r|⟨r,g1⟩
 have f:n<M.length:=by rw[<-S.len];exact(w6.mp r).1
 rw[J5 f]at b;exact(S.obj n a j r b).grow g<|S.keeps c r b;subst g1 r;rw[S.len,Kz<|u5 _,Li]at b;simp at b;subst b;exact ok
theorem A1.writtenD(b:H p=a7 (.dK kv))(h:A1 K H a xs):A1 K (v5 H p o) a xs:=by
 rcases h with h|h;rcases h with h|⟨c,h⟩
 exact .inl (.inl<|by rw[aA<|xL h b<|by intro z;cases z];exact h);exact .inl<|.inr ⟨c,by rw[aA<|xL h b<|by intro z;cases z];exact h⟩;exact .inr h
theorem u6.writeD(S:u6 K ρ M H)(t:ρ[n]?=a7 a)(s:M[n]?=a7 (.dct kvs))(p:H a=a7 (.dK kv))(r:Reps K ρ H (kvs'.map (·.2)) vs'):u6 K ρ (M.set n<|.dct kvs') (v5 H a (.dK (ls (kvs'.map (·.1)) vs')))/\Grow K ρ H ρ (v5 H a (.dK (ls (kvs'.map (·.1)) vs'))):=by
 have g:Grow K ρ H ρ (v5 H a (.dK (ls (kvs'.map (·.1)) vs'))):=⟨Lx,λ_ _ h=>A1.writtenD p h⟩
 have k:∀m,m≠n->(M.set n<|.dct kvs')[m]?=M[m]?:=λm d=>K1<|C3 d;have c:¬Kr M[n]?:=λ⟨_,z⟩=>by rw[s]at z;cases z
 refine⟨⟨λm j b e f N=>?_,by rw[LR];exact S.len,λm b o f N=>?_⟩,g⟩;have q:=S.nd m j b e f N;by_cases h1:m=n;subst h1;rw[k j<|C3 e];exact .inr<|q.resolve_left c;rw[k m h1];by_cases h2:j=n;subst h2;exact .inl<|q.resolve_right c;rw[k j h2];exact q;by_cases d:m=n;subst d;have i:b=a:=C4<|f.symm.trans t;subst i;rw[Lp<|by rw[<-S.len];exact(w6.mp t).1]at N;cases N;exact⟨vs',bx,r.grow g⟩;rw[k m d]at N;by_cases i:b=a;subst i;have l:=(S.nd m n b d f t).resolve_right c;rw[N]at l;exact(S.obj m b o f N).grow g<|.inr l;exact(S.obj m b o f N).grow g<|.inl<|aA i
noncomputable def ie(kvs:List (b8×D))(k:b8):Option D:=(kvs.find? λp=>decide<|p.1=k).map (·.2)
noncomputable def qP(kvs:List (b8×D))(k:b8)(d:D):List (b8×D):=if (kvs.any λp=>decide<|p.1=k)=a9 then kvs.map (λp=>if p.1=k then(p.1,d)else p)else kvs++[(k,d)]
theorem FJ(a b:b8):decide ((ABb a:F0)=ABb b)=decide (a=b):=DM a b
theorem kX:∀{kvs:List (b8×D)}{vs:List V},Reps K ρ H (kvs.map (·.2)) vs->ie kvs k=a7 d->∃v,yA (ls (kvs.map (·.1)) vs) (ABb k)=a7 v/\t5 K ρ H d v
 | [],_,_,e=>by simp[ie]at e
 |(k',d')::kvs,_,.cons h t,e=>by
  by_cases q:k'=k;subst q;have:d'=d:=by simpa [ie]using e
  subst this;exact⟨_,by simp[ls,yA],h⟩;have e':ie kvs k=a7 d:=by simpa [ie,Ko,q]using e
  obtain⟨v,h1,h2⟩:=kX t e';refine⟨v,?_,h2⟩;have:¬(ABb k':F0)=ABb k:=λz=>q<|Sum.inr.inj z;simpa [ls,yA,Ko,this]using h1
theorem wY:∀{kvs:List (b8×D)}{vs:List V},Reps K ρ H (kvs.map (·.2)) vs->((ls (kvs.map (·.1)) vs).any λkv=>decide<|kv.1=ABb k)=kvs.any λp=>decide (p.1=k)
 | [],_,_=>rfl
 |(k',d')::kvs,_,.cons h t=>by
  have ih:=wY (k:=k) t;show (decide ((ABb k':F0)=ABb k)||(ls (kvs.map (·.1)) _).any _)=(decide (k'=k)||kvs.any _)
  rw[ih,FJ]
theorem wK(hd:t5 K ρ H d v):∀{kvs:List (b8×D)}{vs:List V},Reps K ρ H (kvs.map (·.2)) vs->∃vs',(ls (kvs.map (·.1)) vs).map (λkv=>if kv.1=ABb k then(kv.1,v)else kv)=ls ((kvs.map λp=>if p.1=k then(p.1,d)else p).map (·.1)) vs'/\Reps K ρ H ((kvs.map λp=>if p.1=k then(p.1,d)else p).map (·.2)) vs'
 | [],_,.nil=>⟨[],rfl,.nil⟩
 |(k',d')::kvs,_,.cons (v:=v') h t=>by obtain⟨vs',e,r⟩:=wK (k:=k) hd t;by_cases q:k'=k;subst q;refine⟨v::vs',?_,?_⟩;simp only[A3,o7,ls,Mp]at e ⊢;rw[e];simp only[A3,o7];exact .cons hd r;have q':¬(ABb k':F0)=ABb k:=λz=>q<|Sum.inr.inj z;refine⟨v'::vs',?_,?_⟩;simp only[A3,n9 q,n9 q',ls,Mp]at e ⊢;rw[e];simp only[A3,n9 q];exact .cons h r
theorem sJ:∀{kvs:List (b8×D)}{vs:List V},Reps K ρ H (kvs.map (·.2)) vs->ls (kvs.map (·.1)) vs++[(ABb k,v)]=ls (kvs.map (·.1)++[k]) (vs++[v])
 | [],_,.nil=>rfl
 |(k',d')::kvs,_,.cons h t=>by have:=sJ (k:=k) (v:=v) t;simp only[A3,ls,Mp,List.cons_append]at this ⊢;rw[this]
theorem Ey(h:t5 K ρ H d v)(r:Reps K ρ H (kvs.map (·.2)) vs):∃vs',putK (ls (kvs.map (·.1)) vs) (ABb k) v=ls ((qP kvs k d).map (·.1)) vs'/\Reps K ρ H ((qP kvs k d).map (·.2)) vs':=by unfold putK qP;rw[wY r];by_cases q:(kvs.any λp=>decide<|p.1=k)=a9;rw[n6 q,n6 q];exact wK h r;rw[n9 q,n9 q];refine⟨vs++[v],?_,?_⟩;rw[sJ r,G7];rfl;rw[G7];exact r.append<|.cons h .nil
end
section
variable{X:Cx}{o i value:f6}{td ty tv:u8}{pos pos':f8}
def De:u8:=λ_ M Q=>Q (.ref M.length)<|M++[.dct []]
theorem JR:DE X (.Dict [] [] pos) De:=by refine PE.imp BI ?_;rintro σ H R ⟨S,M,ρ,Q,s,c,q,k⟩;refine λp h=>?_;have j:Q (.ref M.length) (M++[.dct []]):=q;exact k _ _ ⟨.ref M.length,M++[.dct []],ρ++[p],s.laidM (mo:=.dct []) h ⟨[],bx,.nil⟩,Grow.laidR h,.ref s.last,j⟩
end
structure NY(X:Cx)(es:List f6)(t:DY):Prop where
 ok:Nk X es t
section
variable{X:Cx}{e a b c o i tg:f6}{es aI:List f6}{te ta tb tc to ti:u8}{t:D9}{pos p p2 pos':f8}{x:b8}{k:Nat}{g:G4}{u:DY}{name:b8}{apos cpos:f8}
theorem Fy:NY X [] nE:=⟨Gh⟩
theorem Cr(h1:HG X e g)(h2:NY X es u)(hs:(i3 (e::es) X.env).map (·.2)=h7 e X.env::(i3 es X.env).map (·.2):=by kernel_rfl):NY X (e::es) (cf g u):=⟨CY h1.ok h2.ok hs⟩
theorem IG(h:NY X es u)(f:X.calm=a9:=by kernel_rfl)(a:(i3 es X.env).length=n:=by kernel_rfl)(c:(i3 es X.env).findIdx? (·.1)=a8:=by kernel_rfl):HG X (.Tuple es j pos) (nD n u):=⟨JJ h.ok f a c⟩
theorem IH(D:HE X o to)(hi:HE X i ti)(f:∀v,h7 (.Subscript o i pos) X.env v=(do
   let ov <-g8 [v] (eval o X.env)
   let iv <-g8 [v,ov] (eval i X.env)
   standAt pos
   g8 [v,ov,iv] (setItem ov iv v)
   release [v,ov,iv] []):=by intro _;kernel_rfl):HG X (.Subscript o i pos) (CZ to ti):=⟨JK D.ok hi.ok f⟩
theorem DJ(i:HE X e te)(S:HG X tg g)(hs:swapsWithSole [tg] e pos.line X.env=pure bt:=by kernel_rfl)(w:swappedStores [tg] e X.env=pure a8:=by kernel_rfl)(h1:(i3 [tg] X.env).map (·.2)=[h7 tg X.env]:=by kernel_rfl):HS X (.Assign [tg] e pos) (dAsg te g):=⟨JF i.ok S.ok hs w h1⟩
theorem FN:E7 X (i9 .Add) aK:=⟨Fb⟩
theorem CI:HC X (.type "tuple") gc:=⟨Dh⟩
theorem Ao:Ni X "extend" mC:=⟨_,PySem.F.slot_list_extend,PySem.F.type_list_extend,xM⟩
def dMl0(r:Nat->C6)(e:u8):u8:=λS M Q=>e S M λx a=>match x with
 |.ref n=>(∃xs,al a n xs)/\r n [] a Q
 |_=>False
theorem k_ml0(m:Ni X name r)(D:HE X o to)(e:k9 o name X.env (eval o X.env)=eval o X.env:=by kernel_rfl)(h:(apos.endLine==cpos.line)=a9:=by kernel_rfl):HE X (.Call (.Attribute o name apos) [] [] cpos) (dMl0 r to):=by
 obtain⟨id,h1,h2,j⟩:=m.ok;refine⟨PE.imp (HM PySem.F.plainAttrs_list h1 h2 j D.ok e h) ?_⟩;rintro σ H R ⟨S,M,ρ,Q,s,t,q,k⟩;refine⟨S,M,ρ,_,s,t,q,?_⟩;rintro v u ⟨d,b,f,i,g1,p,c⟩;cases p with
 |@ref n a g =>
  obtain⟨⟨xs,L⟩,c⟩:=(show (∃xs,al b n xs)/\r n [] b _ from c)
  obtain⟨vs,l,_⟩:=al.seq i L g;exact⟨.inl ⟨rfl,vs,l⟩,n,a,[],b,f,Q,rfl,g,i,.nil,c,λv H' w=>k v H'<|VQ.trans g1 w⟩
 |_=>exact c.elim
theorem IV:HE X (.Dict [] [] pos) De:=⟨JR⟩
end
section
variable{X:Cx}
def GV(t:Nat)(s:List Nat)(wi:TI)(g:TG)(tt:TT)(te:TE)(N:TG):TS:=λD σ H=>OO t s wi g tt te σ H λv a=>N v σ a D.nx
theorem BE(B:BlkSc X N' nt js scope)(hc:X.calm=a9)(hi:PI X tg iter wi)(hg:∀cl s0 H0 ex,PG (z6 X N' scope cl s0 H0 ex) tg g) (ht:∀cl s0 H0 ex,Le (z6 X N' scope cl s0 H0 ex) ifs tt) (he:∀cl s0 H0 ex,PE (z6 X N' scope cl s0 H0 ex) elt te) (hn:PG X (.Name x pos') gN)(hs:∀x,i8 iter X.env x=pure x) (as:g9 (.ListComp elt [⟨tg,iter,ifs,0⟩] scope pos) (a7<|.Name x pos') pos2.line X.env=pure a9):PS X (.Assign [.Name x pos'] (.ListComp elt [⟨tg,iter,ifs,0⟩] scope pos) pos2) (GV nt js wi g tt te gN):=by
 intro f s σ H Dn I h;rw[exec_Assign_Name_used _ _ _ _ as];refine p5<|wpAny_standAt ?_;obtain⟨cl,V,j,E⟩:=kK (scope:=scope) (env:=X.env) λp l hf=>I.ok.has p.1<|B.free p l hf;refine p5<|show e8 (f7 X.prog X.w) X.A (comprehension (.ListComp elt [⟨tg,iter,ifs,0⟩] scope pos) scope X.env _ (newList []) bt (eval iter X.env) (a7<|h7 (.Name x pos') X.env) >>= λ_=>pure ()) _ _ _ from p5 ?_;refine wpAny_comprehension_free (use:=a7<|h7 (.Name x pos') X.env) (Q:=λ_ u=>e8 (f7 X.prog X.w) X.A (pure ()) (λ_ s3=>e8 (f7 X.prog X.w) X.A (pure Flow.next) (SP X f Dn) X.xe s3) X.xe u) rfl hs V B.kind B.loc ?_;refine u9 (hi f s σ H _ I h) λv s1 h1=>u9 h1 λaS a h2=>?_;obtain⟨it,fp,tn,J,H2,e,m,T,U,N,W,⟨m0,w0⟩,M⟩:=h2;subst e;refine J2<|wpAny_newFunctionEnv B.nocell (by intro y hy;simp at hy) (λh1 F G=>?_) B.kind;have r:∀b∈fp,b<a.heap.objs.size:=λb i=>by obtain⟨o,e,_⟩:=T.obj _ _ U b i;exact v9 e
 have hC:(a.heap.push<|cU [] 0).objs.size=a.heap.objs.size+1:=KI ..;have K:∀b o,(a.heap.push<|cU [] 0).get? b=a7 o->h1.get? b=a7 o:=λb o e=>(G.2 b<|x6<|v9 e).trans<|v7 _ e;have I3:=m.blkStart (tk:=a.toks+([]:List (b8×b7)).length) B j E N r K F;have L:tn 0 h1:=T.keep _ _ _ U λb _ o e=>K b o<|v7 _ e;have ai:a.heap.objs.size∉fp:=λz=>G5 _<|r _ z;have aj:a.heap.objs.size∉G2 X.stack:=λz=>by rcases z5.mp (m.stkSub _ z)with q|q;exact o0 m.lt (by rw[<-q];exact G5 _);exact m.nofs (u5 _) q
 have D:a.heap.objs.size≠(a.heap.push<|cU [] 0).objs.size:=by rw[hC];exact x6<|Kh _
 have ltc:∀z c,cl.lookup z=a7 c->c<a.heap.objs.size:=λz c e=>by obtain⟨v,q⟩:=m.cell z c<|j z c e;exact q.lt
 have t:∀b∈fp,b≠(a.heap.push<|cU [] 0).objs.size/\b∉G2 X.stack/\∀x c,cl.lookup x=a7 c->c≠b:=λb i=>by refine⟨by rw[hC];exact x6<|Mn<|r b i,λz=>?_,λx c e=>(N b i).2.2.2.2.1 x c<|j x c e⟩;rcases z5.mp (m.stkSub b z)with q|q;exact(N b i).2.1 q;exact(N b i).2.2.1 q
 have aD:a.heap.objs.size<=(a.heap.push<|cU [] 0).objs.size:=by rw[hC];exact MA _
 have n:j4 (f7 X.prog X.w) X.A (.compLoop (.ListComp elt [⟨tg,iter,ifs,0⟩] scope pos) 0 (.ref it) (.ref a.heap.objs.size)<|compEnvC scope cl (a.heap.push<|cU [] 0).objs.size X.env) (compPost (f7 X.prog X.w) X.A X.xe (a7<|h7 (.Name x pos') X.env) (λ_ u=>e8 (f7 X.prog X.w) X.A (pure ()) (λ_ s3=>e8 (f7 X.prog X.w) X.A (pure Flow.next) (SP X f Dn) X.xe s3) X.xe u) (.ref a.heap.objs.size) (a.heap.push<|cU [] 0).objs.size) { a with heap:=h1,toks:=a.toks+([]:List (b8×b7)).length }:=by
  refine zX (s0:={ a with heap:=a.heap.push (cU [] 0) }) (H0:=H2) (N':=N') (Q:=λv H1=>gN v σ H1 Dn.nx) hc (hg _ _ _ _) (ht _ _ _ _) (he _ _ _ _) T ai M t D aj (λx c e=>x6<|ltc x c e) ?_ m0 I3 L (λb i=>(N b i).1) w0;intro τ H' s' vs its k R rv hl q;obtain⟨mm,an,_⟩:=id R.loc;obtain⟨C,es,Y,eC,aI⟩:=id an;have I5:p7 X f σ (v5 H' a.heap.objs.size<|.lst vs) s':=m.blkEnd N R rv hl ⟨rfl,λ_ _=>rfl⟩;have Z:v5 H' a.heap.objs.size (.lst vs) (a.heap.push<|cU [] 0).objs.size=a8:=by rw[aA<|C3 D];exact R.free
  have fk:∀Hx:Hp,Hx (a.heap.push<|cU [] 0).objs.size=a8->yu X f Hx (a.heap.push<|cU [] 0).objs.size:=λHx hx=>m.fpOk aD hx;have dC:∀v,C.data≠.cell v:=λv z=>by
   have:∃es Y,C.data=.dict es Y:=by
    first
     |(obtain⟨d,_⟩:=aI;exact⟨_,_,d⟩)
     |(obtain⟨_,d,_⟩:=aI;exact⟨_,_,d⟩)
     |(obtain⟨_,_,d,_⟩:=aI;exact⟨_,_,d⟩)
   obtain⟨_,_,d⟩:=this;rw[d]at z;cases z
  have I6:p7 X (f++[((a.heap.push<|cU [] 0).objs.size,C)]) σ (v5 H' a.heap.objs.size<|.lst vs) s':=I5.pins_of λp l=>by
   rcases D3.mp l with l|l;exact I5.pin p<|F6 _ l;have:p=((a.heap.push<|cU [] 0).objs.size,C):=by simpa using l
   subst this;exact⟨eC,Z,(fk _ Z).2.1,(fk _ Z).2.2.1,dC⟩
  refine u9 (hn _ s' σ _ (.ref a.heap.objs.size) (.ref a.heap.objs.size) _ I6 rfl q) ?_;rintro _ s7 ⟨O,P,S,q7⟩;obtain⟨p1,p2,_⟩:=S.pin ((a.heap.push<|cU [] 0).objs.size,C)<|F6 _<|F6 _ D4;refine⟨mm,⟨C,es,Y,p1,aI⟩,λh' sb=>p8<|p8 ⟨O,P,?_,q7⟩⟩;have I8:p7 X f O P s7:=S.pins_of λp l=>S.pin p<|F6 _<|J4 _ l;refine I8.turnedL (t':=s7.toks) (fp:=[(a.heap.push<|cU [] 0).objs.size]) (λb i=>?_) λb o i e=>(sb.2 b<|by simpa using i).trans e;have:b=(a.heap.push<|cU [] 0).objs.size:=by simpa using i
  subst this;exact fk P p2
 exact codeAny_compStart_list n<|T.self _ 0 _ _ _ L n
def iA(t:Nat)(s:List Nat)(b:Ks)(g:G4)(tt:E8)(te:u8)(i:Nat):p9:=λE S M=>D1 t s b g tt te S M λd a=>ak i d S a E.nx
theorem CT(B:BlkSc X N' nt js scope)(f:X.calm=a9)(hi:DI X tg iter di)(j:∀cl s0 H0 ex,DG (z6 X N' scope cl s0 H0 ex) tg g) (t:∀cl s0 H0 ex,Le (z6 X N' scope cl s0 H0 ex) ifs<|lowT X.K tt) (e:∀cl s0 H0 ex,DE (z6 X N' scope cl s0 H0 ex) elt te) (n:DG X (.Name x pos') (ak i))(hs:∀x,i8 iter X.env x=pure x) (h:g9 (.ListComp elt [⟨tg,iter,ifs,0⟩] scope pos) (a7<|.Name x pos') pos2.line X.env=pure a9):DS X (.Assign [.Name x pos'] (.ListComp elt [⟨tg,iter,ifs,0⟩] scope pos) pos2) (iA nt js di g tt te i):=PS.imp (BE (g:=lowG X.K g) (tt:=lowT X.K tt) (te:=lowE X.K te) B f hi (λcl s0 H0 ex=>j cl s0 H0 ex) t (λcl s0 H0 ex=>e cl s0 H0 ex) n hs h) λE σ H ⟨S,M,ρ,F,s,r,q,k⟩ =>
  zO σ H _ ⟨S,M,ρ,_,s,r,q,λv p ⟨d,b,c,o,g1,m,l⟩=>⟨d,S,b,c,_,o,r.grow g1,m,l,λa H' w=>k.nx a H'<|SQ.trans g1 w⟩⟩
theorem Cm(a:X.N.Nodup)(hi:HI X tg iter di)(S:∀cl s0 H0 ex,HG (z6 X N' scope cl s0 H0 ex) tg g) (E:∀cl s0 H0 ex,Mw (z6 X N' scope cl s0 H0 ex) ifs tt) (e:∀cl s0 H0 ex,HE (z6 X N' scope cl s0 H0 ex) elt te) (B:pC X.env.scope.names X.N N' nt js scope=a9:=by kernel_rfl) (f:X.calm=a9:=by kernel_rfl)(hs:∀x,i8 iter X.env x=pure x:=by intro _;kernel_rfl) (w:g9 (.ListComp elt [⟨tg,iter,ifs,0⟩] scope pos) (a7<|.Name x pos') pos2.line X.env=pure a9:=by kernel_rfl)(h:X.N[i]?=a7 x:=by kernel_rfl) (c:GF X.env.scope x=a9:=by kernel_rfl) (b:X.fn x=a9:=by kernel_rfl):HS X (.Assign [.Name x pos'] (.ListComp elt [⟨tg,iter,ifs,0⟩] scope pos) pos2) (iA nt js di g tt te i):=⟨CT (BlkSc.chk B) f hi.ok (λcl s0 H0 ex=>(S cl s0 H0 ex).ok) (λcl s0 H0 ex=>(E cl s0 H0 ex).ok) (λcl s0 H0 ex=>(e cl s0 H0 ex).ok) (vG a h (zQ c)<|.inl b) hs w⟩
end
theorem NU:atI (a::r) 0=a7 a:=by have:=ap (xs:=a::r) (j:=0) (v:=a) rfl;simpa using this
theorem LI:atI (a::b::r) 1=a7 b:=by have:=ap (xs:=a::b::r) (j:=1) (v:=b) rfl;simpa using this
theorem OS:atI (a::b::c::r) 2=a7 c:=by have:=ap (xs:=a::b::c::r) (j:=2) (v:=c) rfl;simpa using this
theorem aO.lst(h:R (.ref M.length) (M++[.lst xs]))(f:M.length<=n)(e:(M++L)[n]?=a7 (.lst xs))(b:Bels M.length xs):aO M R (.ref n) (M++L):=.inr<|.inr ⟨M,n,xs,.refl,rfl,f,e,Kq _ _,b,h⟩
theorem aO.chgL(c:Nl M M1)(h:R (.ref M.length) (M1++[.lst xs]))(f:M.length<=n)(e:M'[n]?=a7 (.lst xs))(p:M1 <+: M')(b:Bels M.length xs):aO M R (.ref n) M':=.inr<|.inr ⟨M1,n,xs,c,rfl,f,e,p,b,h⟩
theorem mv:(M++a::L).set M.length b=M++b::L:=by rw[O6 _ _<|u5 _];simp
theorem cF:(M++a::L)[M.length]?=a7 a:=by simp
theorem EH:M <+: M++L:=Kq _ _
theorem gY(I:List D->List D->SD->tx->Prop)(h0:∀acc S M,I [] acc S M->ok M/\Q (.ref M.length) (M++[.lst acc]))(h1:∀x xs acc S M,I (x::xs) acc S M->∀K:List D->SD->tx->Prop,(∀acc S M,I xs acc S M->K acc S M)->ok M/\g x S M λS2 M2=>tt S2 M2 λb M3=>if b=a9 then te S2 M3 λy M4=>acc.length<sizeLine/\K (acc++[y]) S2 M4 else K acc S2 M3):∀xs acc S M,I xs acc S M->oj ok g tt te Q xs acc S M
 | [],acc,S,M,h=>h0 acc S M h
 |x::xs,acc,S,M,h=>h1 x xs acc S M h _<|gY I h0 h1 xs
noncomputable def MT:D->b8
 |.str x=>x
 |_=>Str.empty
theorem zq{ys:List D}{s:List b8}(h:ys.Perm (s.map D.str)):∃ns:List b8,ys=ns.map D.str/\ns.Perm s:=by
 refine⟨ys.map MT,?_,?_⟩;rw[E2];have:∀y∈ys,(D.str ∘ MT) y=y:=λy Q=>by obtain⟨x,_,rfl⟩:=ve.mp<|h.mem_iff.mp Q;rfl
 exact(Mr this ▸ (List.map_id' ys).symm:ys=ys.map (D.str ∘ MT));have:=h.map MT;rw[E2]at this;have e:(MT ∘ D.str)=id:=rfl
 rwa [e,K5]at this
theorem xx{M:tx}{s:List b8}(h:s.length<64):SrtOk M (s.map D.str):=by refine⟨by rw[u4];exact h,λx a=>?_,λx a y Q=>?_,.inl λx a=>?_⟩;obtain⟨z,_,rfl⟩:=ve.mp a;rfl;obtain⟨z,_,rfl⟩:=ve.mp a;obtain⟨G,_,rfl⟩:=ve.mp Q;rfl;obtain⟨z,_,rfl⟩:=ve.mp a;exact⟨z,rfl⟩
theorem BB:(qP kvs k d).length<=kvs.length+1/\1<=(qP kvs k d).length:=by unfold qP;by_cases q:(kvs.any λp=>decide<|p.1=k)=a9;rw[n6 q,u4];obtain⟨p,h,_⟩:=KZ.mp q;have:0<kvs.length:=List.length_pos_of_mem h;lia;rw[n9 q,x5,F5];lia
theorem lz:(M++a::b::L)[M.length+1]?=a7 b:=by rw[Kz (by lia),show M.length+1-M.length=1 by lia];rfl
section
variable{prog:c5}{w:b9}{A:d8}{E:b7->d9->Prop}{s:d9}
noncomputable def bf(w:b9):c7:={ cls:=.type "set",dict:=a8,data:=.set #[] 0 (.fresh 0 0<|!w.params.followText "set-order") }
theorem vL(a:b7)(h:Q₁ (.ref s.heap.objs.size) { s with heap:=s.heap.push (bf w) }):j4 (f7 prog w) A (.call (.builtin "set.__new__") ⟨[.type "set",a],[]⟩) (wants Q₁ E) s:=by
 refine codeAny_of_tree<|show e8 (f7 prog w) A.in1 (do checkBuiltinCall "set.__new__" ⟨[.type "set",a],[]⟩;again (.builtin "set.__new__" ⟨[.type "set",a],[]⟩)) _ _ s from ?_;refine p5<|wpAny_of_eq (F.newCall_set_1 a)<|p8 ⟨Md F.plain_set_new _,LQ F.entry_set_new ?_⟩;rw[Ms F.plain_set_new _];have b:=sub_set_self;obtain⟨p,g,d,q,c⟩:=s;unfold Builtin.«set.__new__» Builtin.Frozenset.newClass;dsimp only
 wp_walk
 refine Ml<|p8 ?_;simp only[newObj];exact p5<|wpAny_alloc<|p8<|p8 h
end
structure TxSrc(prog:c5)(w:b9)(h:c8)(l:c6)(T:String)(n:Nat)(P:Nat->b7->Prop):Prop where
 obj:∃o,h.get? l=a7 o/\o.cls=.type T
 ns:isSubtype (.type T) (.type "set")=pure bt
 nf:isSubtype (.type T) (.type "frozenset")=pure bt
 nd:(L9 T==L9 "dict")=bt
 iter:∀(A:d8) (s':d9),A.handled=a8->(∀o,h.get? l=a7 o->s'.heap.get? l=a7 o)->∃(oI:c7) (St:Nat->c8->Prop),(∀(E:b7->d9->Prop) (Q:b7->d9->Prop),Q (.ref s'.heap.objs.size) { s' with heap:=s'.heap.push oI }->e8 (f7 prog w) A (i6<|.ref l) Q E s') /\Walks prog w A s'.heap.objs.size [s'.heap.objs.size,l] [s'.heap.objs.size] n P St/\St 0 (s'.heap.push oI)
theorem uH:isSubtype (.type "tuple") (.type "set")=pure bt:=by rw[isSubtype_type];kernel_rfl
theorem sE:isSubtype (.type "tuple") (.type "frozenset")=pure bt:=by rw[isSubtype_type];kernel_rfl
theorem TxSrc.list(g:h.IsList l its):TxSrc prog w h l "list" its.size (λi v=>its[i]?=a7 v):=by
 refine⟨let ⟨o,e,c,_⟩:=g;⟨o,e,c⟩,F.sub_list_set,F.sub_list_frozenset,by decide,λA s' b k=>?_⟩;have a:s'.heap.IsList l its:=g.at k;have lt:l<s'.heap.objs.size:=let ⟨o,e,_⟩:=a;v9 e
 exact⟨_,_,λE Q q=>wpAny_pyIter_list a q,Walks.list b _ l (x6 lt) its,⟨_,A8 _ rfl,rfl,rfl⟩,a.push _⟩
theorem TxSrc.tuple(g:h.IsTuple l its):TxSrc prog w h l "tuple" its.size (λi v=>its[i]?=a7 v):=by
 refine⟨let ⟨o,e,c,_⟩:=g;⟨o,e,c⟩,uH,sE,by decide,λA s' b k=>?_⟩;have a:s'.heap.IsTuple l its:=let ⟨o,e,r⟩:=g;⟨o,k o e,r⟩
 have lt:l<s'.heap.objs.size:=let ⟨o,e,_⟩:=a;v9 e
 exact⟨_,_,λE Q q=>wpAny_pyIter_tuple a q,Walks.tuple b _ l (x6 lt) its,⟨_,A8 _ rfl,rfl,rfl⟩,let ⟨o,e,r⟩:=a;⟨o,v7 _ e,r⟩⟩
theorem bh:Slot "set_iterator" "__next__" "set_iterator.__next__":=.of (owner:="set_iterator") (n:="__next__") (by rw[N7,Ow];kernel_rfl) (by decide +kernel) (by decide +kernel) (by decide +kernel) (by first|exact .inl (by decide +kernel)|exact .inr<|by decide +kernel)<|by rw[isSubtype_type];kernel_rfl
theorem fx:entryFor table "set_iterator.__next__" = a7 Builtin.«set_iterator.__next__»:=entryFor_of_tree<|by kernel_rfl
theorem mP:Manifest.owners.lookup (String.ofList ['r','o','t','a','r','e','t','i','_','t','e','s'].reverse)=a7 Manifest.sig_set_iterator:=by kernel_rfl
theorem hV(a:b7):argsOk "set_iterator.__next__" ⟨[a],[]⟩:=by unfold argsOk;rw[signature?_of (id:="set_iterator.__next__") (n:=['_','_','t','x','e','n','_','_']) (o:=['r','o','t','a','r','e','t','i','_','t','e','s']) (by kernel_rfl) mP];kernel_rfl
theorem qE:entryFor table "set.__iter__" = a7 Builtin.«frozenset.__iter__»:=entryFor_alias (id':="frozenset.__iter__") (by kernel_rfl) rfl (by decide +kernel)<|by kernel_rfl
theorem ka{α:Type}:∀(l:List α) (i:Nat) (h:i<l.length),(l[i]::l.eraseIdx i).Perm l
 |x::l,0,_=>MG _
 |x::l,i+1,h=>by
  have h':i<l.length:=by simpa using h
  exact(List.Perm.swap x l[i]<|l.eraseIdx i).trans<|N1 x<|ka l i h'
theorem yn(f:n≠0)(h:∀i d,i<n->Q i { s with drawn:=d }):e8 M A (choose src n) Q E s:=by intro Γ p a;show Sem.wp M Γ (Sem.choose src n λi=>Sem.pure i) _ _ p s;rw[Sem.wp_choose];refine⟨f,?_⟩;rw[Sem.wp_pure];exact h _ _<|Nat.mod_lt _<|Nat.pos_of_ne_zero f
theorem tW{α:Type}{M:Model}{A:d8}{E:b7->d9->Prop}:∀(n:Nat) (xs:List α) (s:d9) (Q:List α->d9->Prop),xs.length=n->(∀ys d,ys.Perm xs->Q ys { s with drawn:=d })->e8 M A (drawOrder n xs) Q E s
 | 0,xs,s,Q,e,h=>by
  cases xs with
  |nil=>exact p8<|h [] s.drawn<|MG _
  |cons _ _=>cases e
 |n+1,[],s,Q,e,h=>by cases e
 |n+1,x::xs,s,Q,e,h=>by unfold drawOrder;refine p5<|yn (by simp) λi d hi=>?_;rw[v4 hi];refine p5<|tW n ((x::xs).eraseIdx i) { s with drawn:=d } _ (by rw[List.length_eraseIdx_of_lt hi];simp at e ⊢;lia) λys d' hp=>p8<|h _ d' ?_;exact(N1 _ hp).trans<|ka _ i hi
theorem mE{α:Type}(next:Nat->Nat)(xs:Array α):(m7 next xs).toList.Perm xs.toList:=by
 have o:∀(l k:Nat) (left:List α) (out:Array α),left.length=l->(pickOrder.go next l k left out).toList.Perm (out.toList++left):=by
  intro l;induction l with
  |zero =>
   intro k left out e;cases left with
   |nil=>simp[pickOrder.go]
   |cons _ _=>cases e
  |succ n i=>intro k left out e;have hi:next k % left.length<left.length:=Nat.mod_lt _ (by lia);unfold pickOrder.go;rw[v4 hi];dsimp only;refine(i (k+1) _ _<|by rw[List.length_eraseIdx_of_lt hi];lia).trans ?_;rw[Oj,F3];exact List.Perm.append_left _<|ka _ _ hi
 have:=o xs.size 0 xs.toList #[] (by simp);simpa [m7]using this
noncomputable def fv(first:b7)(i n:Nat)(a:c6)(ep:Nat):c7:={ cls:=.type "set_iterator",data:=.fields #[first,i7 i,.ref a,i7 n,i7 ep] }
structure SetAt(h:c8)(a:c6)(o:c7)(es:Array (Int×b7))(ep:Nat)(t:m8):Prop where
 ob:h.get? a=a7 o
 dt:o.data=.set es ep t
 ft:t.fits es.size=a9
section
variable{prog:c5}{w:b9}{A:d8}{E:b7->d9->Prop}{s:d9}{a it:c6}{o:c7}{es:Array (Int×b7)}{ep:Nat}{t:m8}
theorem oY(c:A.handled=a8)(h:∀h' e,(∀b o,s.heap.get? b=a7 o->h'.get? b=a7 o)->(∃o,h'.get? e=a7 o/\o.cls=.type "StopIteration")->F (.ref e) { s with heap:=h' }):e8 (f7 prog w) A (do raiseNew (<-newExc (.type "StopIteration") []):Sem Fin) Q F s:=by refine p5 ?_;simp only[newExc,newTuple];refine p5 (J2 (p5 (m:=m9 _ _)<|wpAny_of_eq (a:=ABr) (by first|rfl|(simp only[m9];rfl))<|J2 ?_<|by size_fits)<|by size_fits);simp only[raiseNew];refine p5<|wpAny_handled ?_;rw[c];exact p5<|p8<|wpAny_throw<|h _ _ (λb o e=>v7 _<|v7 _ e) ⟨_,A8 _ rfl,rfl⟩
theorem mX{slot i next:Nat}{x:b7}{Q:Option b7->d9->Prop}(I:s.heap.get? it=a7 (fv (i7 slot) i es.size a ep))(S:SetAt s.heap a o es ep t)(f:∀(A:d8) (E:b7->d9->Prop) (Q:Option (b7×Nat)->d9->Prop),Q (a7 (x,next)) s->e8 (f7 prog w) A (setNext a slot i ep) Q E s)(b:∀h',h'.get? it=a7 (fv (i7 next) (i+1) es.size a ep)->KQ it s.heap h'->Q (a7 x) { s with heap:=h' }):e8 (f7 prog w) A (i4<|.ref it) Q E s:=by
 have n:s.TypeIs (.ref it) "set_iterator":=⟨_,I,rfl⟩
 unfold i4;refine p5<|LM<|La (name:=r9 "__next__") n bh<|J0 bh n fx ?_<|hV _;unfold Builtin.«set_iterator.__next__»;refine p5<|p8<|p5<|KT I rfl ?_;dsimp only[fv,i7];refine p5<|NH S.ob S.dt S.ft ?_;rw[n9<|by simp];refine p5<|f _ _ _ ?_;dsimp only;refine p5<|Lj I rfl (by simp)<|p5<|Lj (Kk _ I rfl) rfl (by simp)<|p8 ⟨x,rfl,p8<|b _ ?_<|(Ky ..).trans<|Ky ..⟩;refine(Kk _ (Kk _ I rfl) rfl).trans ?_;simp[fv,Mc,i7]
theorem fj{slot i:Nat}{Q:Option b7->d9->Prop}(g:A.handled=a8)(I:s.heap.get? it=a7 (fv (i7 slot) i es.size a ep))(S:SetAt s.heap a o es ep t)(j:∀(A:d8) (E:b7->d9->Prop) (Q:Option (b7×Nat)->d9->Prop),Q a8 s->e8 (f7 prog w) A (setNext a slot i ep) Q E s)(h:∀h',(∀b o,b≠it->s.heap.get? b=a7 o->h'.get? b=a7 o)->Q a8 { s with heap:=h' }):e8 (f7 prog w) A (i4<|.ref it) Q E s:=by
 have n:s.TypeIs (.ref it) "set_iterator":=⟨_,I,rfl⟩
 unfold i4;refine p5<|LM<|La (name:=r9 "__next__") n bh<|J0 bh n fx ?_<|hV _;unfold Builtin.«set_iterator.__next__»;refine p5<|p8<|p5<|KT I rfl ?_;dsimp only[fv,i7];refine p5<|NH S.ob S.dt S.ft ?_;rw[n9<|by simp];refine p5<|j _ _ _ ?_;dsimp only;refine p5<|Lj I rfl (by simp) ?_;refine oY (by simp[g]) ?_;rintro h' e k ⟨m,c,f⟩;refine p5<|Mj (T:="StopIteration") (b:=a9) ⟨m,c,f⟩ isSubtype_stop<|p8<|h h' λb l d M=>k b l ?_;exact((Ky ..).2 b d).trans M
theorem xK{tt:c6}{ps:List Nat}{i j:Nat}{e:Int×b7}{Q:Option b7->d9->Prop}(I:s.heap.get? it=a7 (fv (.ref tt) i es.size a ep))(C:s.heap.IsTuple tt (ps.map λ(k:Nat)=>i7 k).toArray)(S:SetAt s.heap a o es ep t)(L:ps[i]?=a7 j) (d:es[j]?=a7 e) (c:∀h',h'.get? it=a7 (fv (.ref tt) (i+1) es.size a ep)->KQ it s.heap h'->Q (a7 e.2) { s with heap:=h' }):e8 (f7 prog w) A (i4<|.ref it) Q E s:=by
 have n:s.TypeIs (.ref it) "set_iterator":=⟨_,I,rfl⟩
 obtain⟨g,b,_,f,h⟩:=C;unfold i4;refine p5<|LM<|La (name:=r9 "__next__") n bh<|J0 bh n fx ?_<|hV _;unfold Builtin.«set_iterator.__next__»;refine p5<|p8<|p5<|KT I rfl ?_;dsimp only[fv,i7];refine p5<|NH S.ob S.dt S.ft ?_;rw[n9<|by simp];refine p5<|Mf b h ?_;have x:(ps.map λ(k:Nat)=>i7 k).toArray[i]?=a7 (.int j 0):=by simp[L,i7]
 simp only[Ki,x];unfold setNextDrawn;refine p5<|p5<|K0 S.ob S.dt S.ft ?_;simp only[bne_self_eq_false,x3,o6,d];refine p8<|p5<|Lj I rfl (by simp)<|p8 ⟨_,rfl,p8<|c _ ?_<|Ky ..⟩;refine(Kk _ I rfl).trans ?_;simp[fv,Mc,i7]
theorem nT{tt:c6}{ps:List Nat}{i:Nat}{Q:Option b7->d9->Prop}(l:A.handled=a8)(I:s.heap.get? it=a7 (fv (.ref tt) i es.size a ep))(C:s.heap.IsTuple tt (ps.map λ(k:Nat)=>i7 k).toArray)(S:SetAt s.heap a o es ep t)(L:ps[i]?=a8) (d:∀h',(∀b o,b≠it->s.heap.get? b=a7 o->h'.get? b=a7 o)->Q a8 { s with heap:=h' }):e8 (f7 prog w) A (i4<|.ref it) Q E s:=by
 have n:s.TypeIs (.ref it) "set_iterator":=⟨_,I,rfl⟩
 obtain⟨u,c,_,r,h⟩:=C;unfold i4;refine p5<|LM<|La (name:=r9 "__next__") n bh<|J0 bh n fx ?_<|hV _;unfold Builtin.«set_iterator.__next__»;refine p5<|p8<|p5<|KT I rfl ?_;dsimp only[fv,i7];refine p5<|NH S.ob S.dt S.ft ?_;rw[n9<|by simp];refine p5<|Mf c h ?_;have x:(ps.map λ(k:Nat)=>i7 k).toArray[i]?=a8:=by simpa using L
 simp only[Ki,x];refine p5<|Lj I rfl (by simp)<|p5<|Lj (Kk _ I rfl) rfl (by simp) ?_;refine oY (by simp[l]) ?_;rintro h' e m ⟨q,j,g⟩;refine p5<|Mj (T:="StopIteration") (b:=a9) ⟨q,j,g⟩ isSubtype_stop<|p8<|d h' λb p f M=>m b p ?_;exact(((Ky ..).trans<|Ky ..).2 b f).trans M
end
end L2
namespace L2
theorem nodup_le{α:Type}[DecidableEq α]:∀(l xs:List α),l.Nodup->(∀x∈l,x∈xs)->l.length<=xs.length
 | [],xs,_,_=>w4 _
 |a::l,xs,nd,h=>by have ha:a∈xs:=h a D4;have nd':=Kp.mp nd;have ih:=nodup_le l (xs.erase a) nd'.2 λx hx=>(List.mem_erase_of_ne<|show x≠a from λz=>nd'.1<|by rw[<-z];exact hx).mpr<|h x<|A2 _ hx;rw[List.length_erase_of_mem ha]at ih;have:0<xs.length:=List.length_pos_of_mem ha;rw[C7];lia
end L2
namespace Ht
open PySem
noncomputable def Na(m:Nat)(p:LO):LO:=if p.more > 0 then { p with j:=p.j+1,more:=p.more-1 } else
 { p with j:=(Lw m p.i p.perturb).1,more:=G6 m (Lw m p.i p.perturb).1-(Lw m p.i p.perturb).1,i:=(Lw m p.i p.perturb).1,perturb:=(Lw m p.i p.perturb).2 }
noncomputable def jJ(m i t:Nat):LO:={ j:=i,more:=G6 m i-i,i,perturb:=t,dummy:=a8 }
noncomputable def mq(m:Nat)(p:LO):Nat->LO
 | 0=>p
 |n+1=>Na m<|mq m p n
noncomputable def sq(m:Nat)(h:Int)(n:Nat):LO:=mq m (jJ m (K6 h % (m+1))<|K6 h) n
theorem sF(m:Nat)(p:LO)(a b:Nat):mq m p (a+b)=mq m (mq m p a) b:=by
 induction b with
 |zero=>rfl
 |succ b i=>rw[Nat.add_succ,mq,i];rfl
theorem He(m i:Nat):G6 m i-i<=9:=by unfold G6;split<;>lia
theorem Am(m i pt:Nat):∀k,k<=G6 m i-i->mq m (jJ m i pt) k={ j:=i+k,more:=G6 m i-i-k,i,perturb:=pt,dummy:=a8 }
 | 0,_=>by simp[mq,jJ]
 |k+1,h=>by rw[mq,Am m i pt k<|by lia];unfold Na;rw[n6<|show G6 m i-i-k > 0 by lia];simp only[SetTable.Probe.mk.injEq,true_and,and_true];lia
theorem BV(m i t:Nat):mq m (jJ m i t) (G6 m i-i+1)=jJ m (Lw m i t).1 (Lw m i t).2:=by rw[mq,Am m i t _<|u5 _];unfold Na;rw[n9<|show ¬G6 m i-i-(G6 m i-i) > 0 by lia];rfl
noncomputable def eQ(m:Nat)(h:Int):Nat->Nat×Nat
 | 0=>(K6 h % (m+1),K6 h)
 |k+1=>Lw m (eQ m h k).1 (eQ m h k).2
noncomputable def fE(m:Nat)(h:Int):Nat->Nat
 | 0=>0
 |k+1=>fE m h k+(G6 m (eQ m h k).1-(eQ m h k).1+1)
theorem Dk(m:Nat)(h:Int)(k:Nat):fE m h k<=10*k:=by
 induction k with
 |zero=>exact u5 _
 |succ k i=>have:=He m (eQ m h k).1;unfold fE;lia
theorem Dt(m:Nat)(h:Int)(k:Nat):sq m h (fE m h k)=jJ m (eQ m h k).1 (eQ m h k).2:=by
 induction k with
 |zero=>rfl
 |succ k i=>unfold sq at i ⊢;unfold fE;rw[sF,i,BV];rfl
theorem zg(m:Nat)(h:Int)(k r:Nat)(i:r<=G6 m (eQ m h k).1-(eQ m h k).1):(sq m h<|fE m h k+r).j=(eQ m h k).1+r:=by have e:=Dt m h k;unfold sq at e ⊢;rw[sF,e,Am _ _ _ _ i]
theorem Gv(h:Int):K6 h<2 ^ 64:=by unfold K6;have a:=Int.emod_nonneg h (show (2 ^ 64:Int)≠0 by decide);have h1:=Int.emod_lt_of_pos h (show (0:Int)<2 ^ 64 by decide);lia
theorem pf(m:Nat)(h:Int):∀k,(eQ m h k).2=K6 h / 32 ^ k
 | 0=>by simp[eQ]
 |k+1=>by show (eQ m h k).2 / 32=_;rw[pf m h k,Nat.div_div_eq_div_mul,<-Nat.pow_succ]
theorem sR(m:Nat)(h:Int)(k:Nat)(a:13<=k):(eQ m h k).2=0:=by
 rw[pf];apply Nat.div_eq_of_lt;have h1:=Gv h;have h2:32 ^ 13<=32 ^ k:=Nat.pow_le_pow_right (by decide) a;have b:(2:Nat) ^ 64<32 ^ 13:=by decide
 lia
noncomputable def vQ(m i:Nat):Nat:=(i*5+1) % (m+1)
noncomputable def bW(m i:Nat):Nat->Nat
 | 0=>i
 |k+1=>vQ m<|bW m i k
theorem eN(m i a b:Nat):bW m i (a+b)=bW m (bW m i a) b:=by
 induction b with
 |zero=>rfl
 |succ b h=>rw[Nat.add_succ,bW,h];rfl
theorem uI(m:Nat)(h:Int)(r:Nat):(eQ m h<|13+r).1=bW m (eQ m h 13).1 r:=by
 induction r with
 |zero=>rfl
 |succ r i=>show (Lw m (eQ m h<|13+r).1 (eQ m h<|13+r).2).1=vQ m (bW m (eQ m h 13).1 r);rw[sR m h _ (by lia),i];rfl
theorem uJ(m:Nat)(h:Int):∀k,(eQ m h k).1<=m
 | 0=>Nat.lt_succ_iff.mp<|Nat.mod_lt _<|Nat.succ_pos _
 |k+1=>Nat.lt_succ_iff.mp<|Nat.mod_lt _<|Nat.succ_pos _
def GI(m:Nat):Prop:=bW m 0 (m+1)=0/\∀s,s<=m->∃k,k<=m/\bW m 0 k=s
noncomputable def uP(m:Nat):Nat->Nat->List Nat
 | 0,_=>[]
 |n+1,i=>i::uP m n (vQ m i)
theorem mQ(m:Nat):∀(n i k:Nat),k<n->(uP m n i)[k]?=a7 (bW m i k)
 | 0,_,_,h=>o0 h<|Ll _
 |n+1,i,0,_=>rfl
 |n+1,i,k+1,h=>by rw[uP,MQ,mQ m n (vQ m i) k (by lia),<-show bW m (bW m i 1) k=bW m i (k+1)from by rw[<-eN,Nat.add_comm]];rfl
theorem vC(m:Nat)(h:((uP m (m+2) 0)[m+1]?==a7 0&&(B9<|m+1).all λs=>(uP m (m+1) 0).contains s)=a9):GI m:=by
 rw[D8,o5,Fn]at h;refine⟨?_,λs hs=>?_⟩;have:=mQ m (m+2) 0 (m+1) (by lia);rw[h.1]at this;exact(C4 this).symm;have:=h.2 s (F7.mpr<|by lia);rw[List.contains_iff_mem]at this;obtain⟨k,a⟩:=K9 this;have g:k<m+1:=by
  have:=(w6.mp a).1;have B:∀n i,(uP m n i).length=n:=by
   intro n;induction n with
   |zero=>intro i;rfl
   |succ n b=>intro i;simp[uP,b]
  rw[B]at this;exact this
 rw[mQ m _ 0 k g]at a;exact⟨k,by lia,C4 a⟩
theorem full7:GI 7:=vC 7<|by decide +kernel
theorem Js:GI 31:=vC 31<|by decide +kernel
theorem FT:GI 127:=vC 127<|by decide +kernel
theorem Aw(F:GI m)(hi:i<=m)(hs:s<=m):∃k,k<=m/\bW m i k=s:=by obtain⟨a,f,e⟩:=F.2 i hi;obtain⟨b,d,M⟩:=F.2 s hs;by_cases h:a<=b;refine⟨b-a,by lia,?_⟩;rw[<-e,<-eN,show a+(b-a)=b by lia];exact M;refine⟨m+1-a+b,by lia,?_⟩;rw[<-e,<-eN,show a+(m+1-a+b)=(m+1)+b by lia,eN,F.1];exact M
def om(m:Nat):Prop:=m=7\/m=31\/m=127
theorem om.full(h:om m):GI m:=by rcases h with rfl|rfl|rfl;exact full7;exact Js;exact FT
theorem DU(d:om m)(h:Int)(hs:s<=m):∃k,k<=m+13/\(eQ m h k).1=s:=by obtain⟨r,i,e⟩:=Aw d.full (uJ m h 13) hs;exact⟨13+r,by lia,by rw[uI];exact e⟩
theorem Er(d:om m)(h:Int)(hs:s<=m):∃n,n<10*(m+15)/\(sq m h n).j=s:=by obtain⟨k,a,e⟩:=DU d h hs;refine⟨fE m h k,by have:=Dk m h k;lia,?_⟩;rw[Dt];exact e
theorem GZ(h:Int):∀n,∃k r,r<=G6 m (eQ m h k).1-(eQ m h k).1/\n=fE m h k+r
 | 0=>⟨0,0,w4 _,rfl⟩
 |n+1=>by obtain⟨k,r,hr,e⟩:=GZ (m:=m) h n;by_cases q:r<G6 m (eQ m h k).1-(eQ m h k).1;exact⟨k,r+1,q,by lia⟩;exact⟨k+1,0,w4 _,by rw[fE];lia⟩
theorem zf(h:Int)(n:Nat):(sq m h n).j<=m:=by obtain⟨k,r,i,e⟩:=GZ (m:=m) h n;rw[e,zg m h k r i];have:=uJ m h k;unfold G6 at i;split at i<;>lia
theorem below_spec(xs:Array Nat)(v:xs.toList.Pairwise (· < ·))(j:Nat):D7 xs j<=xs.size/\(∀k (h:k<xs.size),k<D7 xs j->xs[k]<j)/\∀k (h:k<xs.size),D7 xs j<=k->j<=xs[k]:=by
 have m:∀a b (g:a<xs.size) (i:b<xs.size),a<b->xs[a]<xs[b]:=λa b g i h=>by have:=NM.mp v a b (by simpa using g) (by simpa using i) h;simpa using this
 have r:∀(l o hi:Nat),o<=hi->hi<=xs.size->hi-o<=l->(∀k (h:k<xs.size),k<o->xs[k]<j)->(∀k (h:k<xs.size),hi<=k->j<=xs[k]) -> Mm xs j l o hi<=xs.size/\(∀k (h:k<xs.size),k<Mm xs j l o hi->xs[k]<j)/\∀k (h:k<xs.size),Mm xs j l o hi<=k->j<=xs[k]:=by
  intro l;induction l with
  |zero =>
   intro o hi h1 h2 s d c;have:o=hi:=by lia
   subst this;exact⟨h2,d,c⟩
  |succ l n =>
   intro o hi h1 h2 s d c;unfold Mm;by_cases h:o<hi;rw[n6 h];have f:(o+hi) / 2<xs.size:=by lia
   have p:xs.getD ((o+hi) / 2) j=xs[(o+hi) / 2]:=by simp[KH,f]
   simp only[p];by_cases q:xs[(o+hi) / 2]<j;rw[n6 q];refine n _ _ (by lia) h2 (by lia) (λk e u=>?_) c;rcases Ku k ((o+hi) / 2)with z|z;exact Nat.lt_trans (m k _ e f z) q;have:k=(o+hi) / 2:=by lia
   subst this;exact q;rw[n9 q];refine n _ _ (by lia) (by lia) (by lia) d λk e t=>?_;rcases Ku ((o+hi) / 2) k with z|z;exact G1 (Lf.mp q)<|Lv<|m _ k f e z;have:k=(o+hi) / 2:=by lia
   subst this;exact Lf.mp q;rw[n9 h];have:o=hi:=by lia
   subst this;exact⟨h2,d,c⟩
 exact r xs.size 0 xs.size (w4 _) (u5 _) (by lia) (λk _ h=>o0 h<|Ll _) λk h h'=>o0 h<|Lf.mpr h'
theorem below_at(r:xs.toList.Pairwise (· < ·))(h:xs[i]?=a7 j):D7 xs j=i:=by
 obtain⟨hi,e⟩:=Lb.mp h;obtain⟨g,c,u⟩:=below_spec xs r j;have m:∀a b (f:a<xs.size) (d:b<xs.size),a<b->xs[a]<xs[b]:=λa b f d h=>by have:=NM.mp r a b (by simpa using f) (by simpa using d) h;simpa using this
 rcases NB (D7 xs j) i with q|q|q;have d:D7 xs j<xs.size:=by lia
 have:=u _ d<|u5 _;have:=m _ i d hi q;lia;exact q;have:=c i hi q;lia
theorem slot_live{t:m8}(r:t.place.toList.Pairwise (· < ·)){i j:Nat}(h:t.place[i]?=a7 j):t.slot j=.live i:=by unfold SetTable.slot;simp only[below_at r h];rw[n6<|by rw[h];simp]
theorem xA{t:m8}(d:t.dummies = #[]){j:Nat}(h:j∉t.place.toList):t.slot j=.empty:=by
 unfold SetTable.slot;have e:¬(t.place[D7 t.place j]?==a7 j)=a9:=λz=>h (by rw[o5]at z;have:=Array.mem_of_getElem? z;simpa using this);have m:SetTable.has t.dummies j=bt:=by rw[d];rfl
 simp only[e,o6,m,x3]
theorem go_spec{t:m8}(r:t.place.toList.Pairwise (· < ·))(x:t.dummies = #[])(hashAt:Nat->Int)(h:Int):∀(fuel n N:Nat),n<=N->N<n+fuel->(sq t.mask h N).j∉t.place.toList->(∀k,n<=k->k<N->(sq t.mask h k).j∈t.place.toList) ->(∀k,(sq t.mask h k).dummy=a8) ->((∀k i,n<=k->k<N->t.place[i]?=a7 (sq t.mask h k).j->hashAt i≠h)/\OZ t hashAt h fuel (sq t.mask h n)=a7 (.empty (sq t.mask h N).j a8)) \/∃n' i,n<=n'/\n' < N/\t.place[i]?=a7 (sq t.mask h n').j/\hashAt i=h/\(∀k i,n<=k->k<n'->t.place[i]?=a7 (sq t.mask h k).j->hashAt i≠h)/\OZ t hashAt h fuel (sq t.mask h n)=a7 (.candidate (sq t.mask h n').j i<|sq t.mask h<|n'+1):=by
 intro fuel;induction fuel with
 |zero=>intro n N h1 h2;lia
 |succ fuel A =>
  intro n N h1 h2 g l m;unfold OZ;by_cases e:n=N;subst e;rw[xA x g];exact .inl ⟨λk i a b=>by lia,by rw[m]⟩;have y:=l n (u5 _) (by lia);obtain⟨i,hi⟩:=K9 y;have d:t.place[i]?=a7 (sq t.mask h n).j:=by rw[<-F4];exact hi
  rw[slot_live r d];dsimp only;have u:∀i',t.place[i']?=a7 (sq t.mask h n).j->i'=i:=λi' z=>by rw[<-below_at r z,below_at r d]
  by_cases q:hashAt i=h;simp only[o5,q,o7];exact .inr ⟨n,i,u5 _,by lia,d,q,λk i a b=>by lia,rfl⟩;simp only[o5,q,o6];rcases A (n+1) N (by lia) (by lia) g (λk a b=>l k (by lia) b) m with⟨B,C⟩|⟨n',i',E,o,p,s,v,w⟩
  refine .inl ⟨λk i' a b c=>?_,C⟩;rcases Ku n k with z|z;exact B k i' z b c;have:k=n:=by lia
  subst this;rw[u i' c];exact q;refine .inr ⟨n',i',by lia,o,p,s,λk f a b c=>?_,w⟩;rcases Ku n k with z|z;exact v k f z b c;have:k=n:=by lia
  subst this;rw[u f c];exact q
theorem sq_dummy(m:Nat)(h:Int):∀n,(sq m h n).dummy=a8
 | 0=>rfl
 |n+1=>by show (Na m<|sq m h n).dummy=a8;unfold Na;split;exact sq_dummy m h n;exact sq_dummy m h n
structure TOk(t:m8)(hs:List Int):Prop where
 msk:om t.mask
 len:t.place.size=hs.length
 nod:t.dummies = #[]
 ris:t.place.toList.Pairwise (· < ·)
 rng:∀j∈t.place.toList,j<=t.mask
 few:t.place.size*5<t.mask*3
 path:∀(i:Nat) (h:Int) (j:Nat),hs[i]?=a7 h->t.place[i]?=a7 j->∃n,(sq t.mask h n).j=j/\∀n',n' < n->(sq t.mask h n').j∈t.place.toList
theorem As{m:Nat}{l:List Nat}(n:l.Nodup)(i:∀j∈l,j<=m)(g:l.length<=m):∃j,j<=m/\j∉l:=by refine LC λf=>?_;have a:∀j∈B9 (m+1),j∈l:=λj L=>LC λh=>f ⟨j,by have:=F7.mp L;lia,h⟩;have:=L2.nodup_le (B9<|m+1) l Od a;rw[LV]at this;lia
theorem vD{m:Nat}(f:om m){l:List Nat}(i:l.Nodup)(r:∀j∈l,j<=m)(g:l.length<=m)(h:Int):∃N,N<10*(m+15)/\(sq m h N).j∉l/\∀k,k<N->(sq m h k).j∈l:=by
 obtain⟨s,hs,u⟩:=As i r g;obtain⟨n,L,t⟩:=Er f h hs;have:∀b n,n<b->(sq m h n).j∉l->∃N,N<=n/\(sq m h N).j∉l/\∀k,k<N->(sq m h k).j∈l:=by
  intro b;induction b with
  |zero=>intro n h;lia
  |succ b p=>intro n v o;by_cases q:∀k,k<n->(sq m h k).j∈l;exact⟨n,u5 _,o,q⟩;have:∃k,k<n/\(sq m h k).j∉l:=LC λz=>q λk e=>LC λG=>z ⟨k,e,G⟩;obtain⟨k,e,d⟩:=this;obtain⟨N,E,a,c⟩:=p k (by lia) d;exact⟨N,by lia,a,c⟩
 obtain⟨N,E,a,c⟩:=this (n+1) n (Kh _) (by rw[t];exact u);exact⟨N,by lia,a,c⟩
theorem TOk.empty{t:m8}{hs:List Int}(T:TOk t hs)(h:Int):∃N,N<10*(t.mask+15)/\(sq t.mask h N).j∉t.place.toList/\∀k,k<N->(sq t.mask h k).j∈t.place.toList:=by refine vD T.msk (T.ris.imp λh=>x6 h) T.rng ?_ h;have:=T.few;rw[D5];rcases T.msk with e|e|e<;>lia
theorem zn{t:m8}(r:t.place.toList.Pairwise (· < ·)){j:Nat}(L:j∉t.place.toList):(t.put j).1.place.toList=t.place.toList.take (D7 t.place j)++j::t.place.toList.drop (D7 t.place j)/\(t.put j).1.place.toList.Pairwise (· < ·):=by
 obtain⟨o,m,u⟩:=below_spec t.place r j;have e:(t.put j).1.place.toList=t.place.toList.take (D7 t.place j)++j::t.place.toList.drop (D7 t.place j):=by show (Oi t.place (D7 t.place j) j).toList=_;rw[SetTable.toList_insertAt]
 refine⟨e,?_⟩;rw[e,List.pairwise_append];refine⟨r.sublist<|NC ..,List.pairwise_cons.mpr ⟨λx c=>?_,r.sublist<|List.drop_sublist ..⟩,λx c y Q=>?_⟩;obtain⟨k,h⟩:=K9 c;rw[Oo]at h;have d:t.place[D7 t.place j+k]?=a7 x:=by rw[<-F4];exact h
 obtain⟨g,f⟩:=Lb.mp d;have:=u _ g<|Nat.le_add_right _ _;rw[f]at this;rcases Ku j x with z|z;exact z;have:x=j:=by lia
 subst this;exact o0 (List.mem_of_mem_drop c) L;obtain⟨k,h⟩:=K9 c;rw[List.getElem?_take]at h;split at h;rename_i l;have d:t.place[k]?=a7 x:=by rw[<-F4];exact h
 obtain⟨g,f⟩:=Lb.mp d;have h1:=m k g l;rw[f]at h1;rcases z5.mp Q with rfl|Q;exact h1;obtain⟨C,a⟩:=K9 Q;rw[Oo]at a;have b:t.place[D7 t.place j+C]?=a7 y:=by rw[<-F4];exact a
 obtain⟨i,n⟩:=Lb.mp b;have:=u _ i<|Nat.le_add_right _ _;rw[n]at this;lia;cases h
end Ht
namespace L2
open PySem PySem.Spec PyProof.Rows DL PySem.W
theorem fY:Slot "set_iterator" "__iter__" "set_iterator.__iter__":=.of (owner:="set_iterator") (n:="__iter__") (by rw[N7,Ow];kernel_rfl) (by decide +kernel) (by decide +kernel) (by decide +kernel) (by first|exact .inl (by decide +kernel)|exact .inr<|by decide +kernel)<|by rw[isSubtype_type];kernel_rfl
theorem kU:entryFor table "set_iterator.__iter__" = a7 Builtin.«dict_keyiterator.__iter__»:=entryFor_alias (id':="dict_keyiterator.__iter__") (by kernel_rfl) rfl (by decide +kernel)<|by kernel_rfl
theorem nI(a:b7):argsOk "set_iterator.__iter__" ⟨[a],[]⟩:=by unfold argsOk;rw[signature?_of (id:="set_iterator.__iter__") (n:=['_','_','r','e','t','i','_','_']) (o:=['r','o','t','a','r','e','t','i','_','t','e','s']) (by kernel_rfl) mP];kernel_rfl
section
variable{prog:c5}{w:b9}{A:d8}{E:b7->d9->Prop}{s:d9}{a it:c6}{o:c7}{es:Array (Int×b7)}{ep:Nat}{t:m8}
theorem gM(I:s.heap.get? it=a7 (fv first i n a ep))(h:Q (.ref it) s):e8 (f7 prog w) A (i6<|.ref it) Q E s:=by
 have T:s.TypeIs (.ref it) "set_iterator":=⟨_,I,rfl⟩
 refine Oh T fY<|J0 fY T kU (show e8 _ _ (ret<|.ref it) _ _ s from ?_)<|nI _;exact p8 ⟨_,rfl,"set_iterator",_,T,bh.lookup,h⟩
theorem SetAt.at(S:SetAt h a o es ep t)(k:∀o,h.get? a=a7 o->h'.get? a=a7 o):SetAt h' a o es ep t:=⟨k _ S.ob,S.dt,S.ft⟩
theorem kz(d:w.params.followText "set-order" = a9)(S:SetAt s.heap a o es ep t)(h:Q (((m7 (w.params.setOrder a ep) es)[i]?).map λe=>(e.2,0)) s):e8 (f7 prog w) A (setNext a 0 i ep) Q E s:=by unfold setNext;refine p5<|K0 S.ob S.dt S.ft ?_;unfold setsByText;refine p5<|p5<|Ml<|p8 ?_;simp only[f7,d,o7,bne_self_eq_false,x3,o6];unfold setWalk;refine p5<|p5<|K0 S.ob S.dt S.ft ?_;unfold setsByText;refine p5<|p5<|Ml<|p8 ?_;simp only[f7,d,o7];exact p5<|Ml<|p8<|p8 h
theorem xo(d:w.params.followText "set-order" = a9)(n:A.handled=a8)(f:a≠it):Walks prog w A it [it,a] [it] es.size (λi v=>((m7 (w.params.setOrder a ep) es).toList.map (·.2))[i]?=a7 v) (λi h=>h.get? it=a7 (fv (i7 0) i es.size a ep)/\SetAt h a o es ep t) where
 sub:=λb d=>by simp at d;simp[d]
 frame:=λ_ _ _ l m=>⟨m it (by simp) _ l.1,l.2.at λo e=>m a (by simp) o e⟩
 item:=λi s Q E hi l c=>by
  have g:(m7 (w.params.setOrder a ep) es).size=es.size:=by have:=(mE (w.params.setOrder a ep) es).length_eq;simpa using this
  obtain⟨e,j⟩:∃e,(m7 (w.params.setOrder a ep) es)[i]?=a7 e:=⟨_,G9<|by rw[g];exact hi⟩
  refine mX (slot:=0) (next:=0) (x:=e.2) l.1 l.2 (λA E Q q=>kz d l.2<|by rw[j];exact q) λh' h1 U=>c _ h' s.toks (by simp[j]) ⟨h1,l.2.at λo e=>(U.2 a f).trans e⟩ λb o d e=>(U.2 b<|by simpa using d).trans e
 done:=λs Q E l c=>by
  have g:(m7 (w.params.setOrder a ep) es).size=es.size:=by have:=(mE (w.params.setOrder a ep) es).length_eq;simpa using this
  refine fj (slot:=0) n l.1 l.2 (λA E Q q=>kz d l.2 ?_) λh' k=>c h' s.toks λb o d e=>k b o (by simpa using d) e;rw[NK<|by rw[g];exact u5 _];exact q
 self:=λ_ _ _ _ l c=>gM l.1 c
theorem uD{tt:c6}{ps:List Nat}(p:ps.Perm (B9 es.size))(z:A.handled=a8)(n:a≠it)(q:tt≠it):Walks prog w A it [it,a,tt] [it] es.size (λi v=>(ps.filterMap λj=>(es[j]?).map (·.2))[i]?=a7 v) (λi h=>h.get? it=a7 (fv (.ref tt) i es.size a ep)/\SetAt h a o es ep t/\h.IsTuple tt (ps.map λ(k:Nat)=>i7 k).toArray) where
 sub:=λb g=>by simp at g;simp[g]
 frame:=λ_ _ _ l m=>⟨m it (by simp) _ l.1,l.2.1.at λo e=>m a (by simp) o e,let ⟨o,e,r⟩:=l.2.2;⟨o,m tt (by simp) _ e,r⟩⟩
 item:=λi s Q E hi l f=>by
  have x:ps.length=es.size:=by have:=p.length_eq;simpa using this
  have c:∀j∈ps,j<es.size:=λj L=>by have:=p.mem_iff.mp L;simpa using this
  have L:ps[i]?=a7 ps[i]:=v4 (by lia);have d:ps[i]<es.size:=c _<|KY _;have u:es[ps[i]]?=a7 es[ps[i]]:=G9 d;have y:(ps.filterMap λj=>(es[j]?).map (·.2))=ps.map λj=>(es.getD j default).2:=by
   clear L x p hi l f u d;induction ps with
   |nil=>rfl
   |cons j r B=>have L:=c j D4;rw[LX,G9 L,A3,<-B λk m=>c k<|A2 _ m];simp[KH,L]
  refine xK l.1 l.2.2 l.2.1 L u λh' h1 U=>f _ h' s.toks ?_ ⟨h1,l.2.1.at λo e=>(U.2 a n).trans e,let ⟨o,e,r⟩:=l.2.2;⟨o,(U.2 tt q).trans e,r⟩⟩ λb o g e=>(U.2 b<|by simpa using g).trans e;rw[y,C8,L];simp[KH,d]
 done:=λs Q E l f=>by
  have x:ps.length=es.size:=by have:=p.length_eq;simpa using this
  exact nT z l.1 l.2.2 l.2.1 (Mt<|by lia) λh' k=>f h' s.toks λb o g e=>k b o (by simpa using g) e
 self:=λ_ _ _ _ l f=>gM l.1 f
theorem kA(b:w.params.followText "set-order" = bt)(d:t.led=a9)(c:es.size<=1)(S:SetAt s.heap a o es ep t)(h:Q (match es[D7 t.place slot]?,t.place[D7 t.place slot]? with|some (_,x),a7 j=>a7 (x,j+1)|_,_=>a8) s):e8 (f7 prog w) A (setNext a slot i ep) Q E s:=by unfold setNext;refine p5<|K0 S.ob S.dt S.ft ?_;unfold setsByText;refine p5<|p5<|Ml<|p8 ?_;simp only[f7,b,x3,o6];refine Lk (λz=>?_) λ_=>?_;have G:(!t.plain&&decide (es.size > 1))=a9:=z;simp at G;lia;refine p5<|show e8 (f7 prog w) A (if (!t.led && !es.isEmpty)=a9 then unsupported _ else pure ()) _ _ s from ?_;rw[d];simp only[KR,Bool.false_and,x3,o6];exact p8<|p8 h
theorem uk(j k:Nat):D7 #[j] k=if j<k then 1 else 0:=by unfold D7;simp only[x9,C7,C0];unfold Mm;simp only[Nat.zero_lt_succ,o7];by_cases h:j<k;simp[h,Mm];simp[h,Mm]
theorem xp(d:w.params.followText "set-order" = bt)(c:t.led=a9)(g:es.size<=1)(u:A.handled=a8)(m:a≠it):Walks prog w A it [it,a] [it] es.size (λi v=>(es.toList.map (·.2))[i]?=a7 v) (λi h=>h.get? it=a7 (fv (i7 (if i=0 then 0 else t.place.getD 0 0+1:Nat)) i es.size a ep)/\SetAt h a o es ep t) where
 sub:=λb d=>by simp at d;simp[d]
 frame:=λ_ _ _ l p=>⟨p it (by simp) _ l.1,l.2.at λo e=>p a (by simp) o e⟩
 item:=λi s Q E hi l f=>by
  obtain rfl:i=0:=by lia
  have ps:t.place.size=1:=by have:=l.2.ft;simp[ME]at this;lia
  obtain⟨j,L⟩:∃j,t.place = #[j]:=⟨t.place[0],by apply Array.ext (by simpa using ps);intro i h1 h2;simp at h2;subst h2;rfl⟩
  have n:es[0]?=a7 es[0]:=G9 hi;refine mX (slot:=0) (next:=j+1) (x:=es[0].2) l.1 l.2 (λA E Q q=>kA d c g l.2 ?_) λh' h1 U=>f _ h' s.toks ?_ ⟨?_,l.2.at λo e=>(U.2 a m).trans e⟩ λb o d e=>(U.2 b<|by simpa using d).trans e;rw[L,uk,n9<|Ll _,n];exact q;rw[C8,F4,n];rfl;simpa [L]using h1
 done:=λs Q E l f=>by
  refine fj (slot:=if es.size=0 then 0 else t.place.getD 0 0+1) u l.1 l.2 (λA E Q q=>kA d c g l.2 ?_) λh' k=>f h' s.toks λb o d e=>k b o (by simpa using d) e;have ps:t.place.size=es.size:=by have:=l.2.ft;simp[ME]at this;lia
  by_cases z:es.size=0;have:es = #[]:=Array.eq_empty_of_size_eq_zero z;subst this;simpa using q;obtain⟨j,L⟩:∃j,t.place = #[j]:=⟨t.place[0],by apply Array.ext (by simp;lia);intro i h1 h2;simp at h2;subst h2;rfl⟩
  have r:D7 t.place (if es.size=0 then 0 else t.place.getD 0 0+1)=1:=by rw[n9 z,L,uk];simp
  rw[r,NK<|by lia];exact q
 self:=λ_ _ _ _ l f=>gM l.1 f
theorem kB(c:w.params.followText "set-order" = bt)(d:t.led=a9)(b:(!t.plain&&decide (es.size > 1))=bt)(S:SetAt s.heap a o es ep t)(h:Q (match es[D7 t.place slot]?,t.place[D7 t.place slot]? with|some (_,x),a7 j=>a7 (x,j+1)|_,_=>a8) s):e8 (f7 prog w) A (setNext a slot i ep) Q E s:=by unfold setNext;refine p5<|K0 S.ob S.dt S.ft ?_;unfold setsByText;refine p5<|p5<|Ml<|p8 ?_;simp only[f7,c,x3,o6];refine Lk (λz=>?_) λ_=>?_;have G:(!t.plain&&decide (es.size > 1))=a9:=z;rw[b]at G;cases G;refine p5<|show e8 (f7 prog w) A (if (!t.led && !es.isEmpty)=a9 then unsupported _ else pure ()) _ _ s from ?_;rw[d];simp only[KR,Bool.false_and,x3,o6];exact p8<|p8 h
theorem xq(d:w.params.followText "set-order" = bt)(c:t.led=a9)(m:(!t.plain&&decide (es.size > 1))=bt)(H:t.place.toList.Pairwise (· < ·))(J:A.handled=a8)(y:a≠it):Walks prog w A it [it,a] [it] es.size (λi v=>(es.toList.map (·.2))[i]?=a7 v) (λi h=>h.get? it=a7 (fv (i7 (if i=0 then 0 else t.place.getD (i-1) 0+1:Nat)) i es.size a ep)/\SetAt h a o es ep t):=by
 have g:∀i,i<=t.place.size->D7 t.place (if i=0 then 0 else t.place.getD (i-1) 0+1)=i:=λi hi=>by
  obtain⟨p,f,u⟩:=Ht.below_spec t.place H<|if i=0 then 0 else t.place.getD (i-1) 0+1;have n:∀a b (C:a<t.place.size) (d:b<t.place.size),a<b->t.place[a]<t.place[b]:=λa b C d h=>by have:=NM.mp H a b (by simpa using C) (by simpa using d) h;simpa using this
  by_cases z:i=0;rw[n6 z]at p f u ⊢;rcases Nat.eq_zero_or_pos (D7 t.place 0)with q|q;rw[q,z];have:=f 0 (by lia) q;lia;rw[n9 z]at p f u ⊢;have r:i-1<t.place.size:=by lia
  have I:t.place.getD (i-1) 0=t.place[i-1]:=by simp[KH,r]
  rw[I]at p f u ⊢;rcases NB (D7 t.place<|t.place[i-1]+1) i with q|q|q;have:=u (i-1) r (by lia);lia;exact q;have:=f i (by lia) q;have:=n (i-1) i r (by lia) (by lia);lia
 exact {
  sub:=λb d=>by simp at d;simp[d]
  frame:=λ_ _ _ l F=>⟨F it (by simp) _ l.1,l.2.at λo e=>F a (by simp) o e⟩
  item:=λi s Q E hi l j=>by
   have ps:t.place.size=es.size:=by have:=l.2.ft;simp[ME]at this;lia
   have G:i<t.place.size:=by lia
   have D:es[i]?=a7 es[i]:=G9 hi;have B:t.place[i]?=a7 t.place[i]:=G9 G;refine mX (next:=t.place[i]+1) (x:=es[i].2) l.1 l.2 (λA E Q q=>kB d c m l.2 ?_) λh' h1 U=>j _ h' s.toks ?_ ⟨?_,l.2.at λo e=>(U.2 a y).trans e⟩ λb o d e=>(U.2 b<|by simpa using d).trans e;rw[g i (by lia),D,B];exact q;rw[C8,F4,D];rfl;rw[n9<|Nat.succ_ne_zero i,On,show t.place.getD i 0=t.place[i] by simp[KH,G]];exact h1
  done:=λs Q E l j=>by
   have ps:t.place.size=es.size:=by have:=l.2.ft;simp[ME]at this;lia
   refine fj J l.1 l.2 (λA E Q q=>kB d c m l.2 ?_) λh' k=>j h' s.toks λb o d e=>k b o (by simpa using d) e;rw[g es.size (by lia),NK<|u5 _];exact q
  self:=λ_ _ _ _ l j=>gM l.1 j }
end
section
variable{prog:c5}{w:b9}{A:d8}{E:b7->d9->Prop}{s:d9}{a:c6}{o:c7}{es:Array (Int×b7)}{ep:Nat}{t:m8}
theorem Cw(S:SetAt s.heap a o es ep t)(C:o.cls=.type "set")(y:t.plain=a9->es.size<=1\/t.place.toList.Pairwise (· < ·))(k:t.led = !w.params.followText "set-order")(hz:es.size<=sizeLine)(h:∀(it:c6) (h':c8) (d:Drawn) (vs:List b7) (fp:List c6) (St:Nat->c8->Prop),(∀b o,s.heap.get? b=a7 o->h'.get? b=a7 o)->vs.Perm (es.toList.map (·.2))->s.heap.objs.size<=it->it<h'.objs.size->(∀b∈fp,b=a\/s.heap.objs.size<=b/\b<h'.objs.size) -> (∀A':d8,A'.handled=a8->Walks prog w A' it fp [it] es.size (λi v=>vs[i]?=a7 v) St)->St 0 h'->Q (.ref it) { s with heap:=h',drawn:=d }):e8 (f7 prog w) A (i6<|.ref a) Q E s:=by
 have T:s.TypeIs (.ref a) "set":=⟨o,S.ob,C⟩
 have u:a<s.heap.objs.size:=v9 S.ob;refine Oh T F.slot_set_iter<|J0 F.slot_set_iter T qE ?_<|F.args_set_iter_1 _;unfold Builtin.«frozenset.__iter__»;refine p5<|show e8 (f7 prog w) _ (pure a) _ _ s from p8 ?_;unfold Builtin.Frozenset.sizeOf;refine p5<|p5<|NH S.ob S.dt S.ft<|p8 ?_;unfold setDrawn;refine p5<|p5<|K0 S.ob S.dt S.ft ?_;unfold setsByText;refine p5<|p5<|Ml<|p8<|p8 ?_;by_cases r:(!w.params.followText "set-order" && (!t.plain&&decide (es.size > 1)))=a9;refine Lk (λ_=>?_) λz=>o0 r z;refine p5<|tW _ _ _ _ (by simp) λps d x=>?_;refine p5<|show e8 (f7 prog w) _ (newObj (.type "tuple")<|.seq (ps.map λ(i:Nat)=>i7 i).toArray) _ _ _ from J2 ?_ (by have e:=x.length_eq;rw[LV]at e;show (ps.map λ(i:Nat)=>i7 i).toArray.size<=sizeLine;rw[x9,u4,e];exact hz);have g:=S.at (h':=s.heap.push { cls:=.type "tuple",data:=.seq (ps.map λ(i:Nat)=>i7 i).toArray }) λo e=>v7 _ e;refine p5<|wpAny_setEpoch_of (s:={ s with heap:=_,drawn:=d }) g.ob g.dt g.ft ?_;refine p5 (show e8 (f7 prog w) _ (newObj (.type "set_iterator")<|.fields #[.ref s.heap.objs.size,i7 0,.ref a,i7 es.size,i7 ep]) _ _ _ from J2 ?_<|by size_fits);refine p8 ⟨_,rfl,"set_iterator",_,⟨_,A8 _ rfl,rfl⟩,bh.lookup,?_⟩;have p:(s.heap.push { cls:=.type "tuple",data:=.seq (ps.map λ(i:Nat)=>i7 i).toArray }).objs.size=s.heap.objs.size+1:=KI ..;refine h _ _ d (ps.filterMap λj=>(es[j]?).map (·.2)) _ _ (λb o e=>v7 _<|v7 _ e) ?_ (by show s.heap.objs.size<=(s.heap.push _).objs.size;rw[p];exact MA _) (by show _<((s.heap.push _).push _).objs.size;rw[KI (h:=s.heap.push _)];exact Kh _) ?_ (λA' m=>uD (o:=o) (t:=t) (ep:=ep) x m (x6<|by rw[p];exact Mn u)<|x6<|by rw[p];exact Kh _) ⟨A8 _ rfl,g.at λo e=>v7 _ e,⟨_,v7 _<|A8 _ rfl,rfl,_,rfl⟩⟩;refine(x.filterMap _).trans ?_;have B:(B9 es.size).filterMap (λj=>(es[j]?).map (·.2))=((B9 es.size).filterMap λj=>es[j]?).map (·.2):=by rw[List.map_filterMap]
 rw[B,filterMap_getElem?_range];intro b c;rw[KI,p];rcases z5.mp c with rfl|c;exact .inr ⟨by rw[p];exact MA _,by rw[p];exact Kh _⟩;rcases z5.mp c with rfl|c;exact .inl rfl;rw[J3.mp c];exact .inr ⟨u5 _,Mn<|Kh _⟩;refine Lk (λz=>o0 z r) λ_=>?_;refine p5<|p8<|p5<|wpAny_setEpoch_of S.ob S.dt S.ft ?_;refine p5 (show e8 (f7 prog w) _ (newObj (.type "set_iterator")<|.fields #[i7 0,i7 0,.ref a,i7 es.size,i7 ep]) _ _ _ from J2 ?_<|by size_fits);refine p8 ⟨_,rfl,"set_iterator",_,⟨_,A8 _ rfl,rfl⟩,bh.lookup,?_⟩;have g:=S.at (h':=s.heap.push<|fv (i7 0) 0 es.size a ep) λo e=>v7 _ e;have l:∀b∈[s.heap.objs.size,a],b=a\/s.heap.objs.size<=b/\b<(s.heap.push<|fv (i7 0) 0 es.size a ep).objs.size:=λb c=>by rcases z5.mp c with rfl|c;exact .inr ⟨u5 _,by rw[KI];exact Kh _⟩;exact .inl<|J3.mp c
 by_cases c:w.params.followText "set-order" = a9;refine h _ _ s.drawn ((m7 (w.params.setOrder a ep) es).toList.map (·.2)) _ _ (λb o e=>v7 _ e) ((mE _ es).map _) (u5 _) (by rw[KI];exact Kh _) l (λA' m=>xo (o:=o) (t:=t) (ep:=ep) c m<|x6 u) ⟨A8 _ rfl,g⟩;have f:w.params.followText "set-order" = bt:=by simpa using c
 have n:(!t.plain&&decide (es.size > 1))=bt:=by rw[f]at r;simpa using r
 have ao:es.size<=1\/t.place.toList.Pairwise (· < ·):=by by_cases q:t.plain=a9;exact y q;simp[q]at n;exact .inl n
 rcases ao with h1|D;refine h _ _ s.drawn (es.toList.map (·.2)) _ _ (λb o e=>v7 _ e) (MG _) (u5 _) (by rw[KI];exact Kh _) l (λA' m=>xp (o:=o) (t:=t) (ep:=ep) f (by rw[k,f];rfl) h1 m<|x6 u) ⟨?_,g⟩;rw[n6 rfl];exact A8 _ rfl;refine h _ _ s.drawn (es.toList.map (·.2)) _ _ (λb o e=>v7 _ e) (MG _) (u5 _) (by rw[KI];exact Kh _) l (λA' m=>xq (o:=o) (t:=t) (ep:=ep) f (by rw[k,f];rfl) n D m<|x6 u) ⟨?_,g⟩;rw[n6 rfl];exact A8 _ rfl
end
end L2
namespace L2
open PySem PySem.Spec PyProof.Rows DL PySem.W PySem.Calls PyProof.V
section
variable{prog:c5}{w:b9}{A:d8}{E:b7->d9->Prop}{s:d9}{a:c6}{o:c7}{es:Array (Int×b7)}{ep:Nat}{t:m8}
theorem CF(n:s.TypeIs (.ref a) "set")(h:Q bt s):e8 (f7 prog w) A (Pu<|.ref a) Q E s:=by
 unfold Pu;refine p5<|Ly n F.slot_set_len.lookup ?_;generalize hi:("set.__len__":String)=t
 wp_delta
 rw[show splitId t=a7 ("set","__len__") by rw[<-hi];decide +kernel];rw[<-hi];refine p5<|Mj (T:="set") (b:=a9) n sub_set_self<|Lk (λz=>o0 z<|by decide) λ_=>Lk (λ_=>p5<|LL n<|p8 h) λz=>o0 (by decide +kernel) z
theorem yd{R:Result->d9->Prop}(N:A.handled=a8)(S:SetAt s.heap a o es ep t)(B:o.cls=.type "set")(G:t.plain=a9->es.size<=1\/t.place.toList.Pairwise (· < ·))(v:t.led = !w.params.followText "set-order")(hz:es.size<=sizeLine){D:c6}{c₀:Nat} (p:D≠a) (L:s.heap.get? D=a7 { cls:=.type "list",data:=.seq #[] c₀ }) (res:b7)(Z:∀h' tk d vs c,(∀b u,b≠D->s.heap.get? b=a7 u->h'.get? b=a7 u)->h'.get? D=a7 { cls:=.type "list",data:=.seq vs c }->vs.toList.Perm (es.toList.map (·.2))->R (.ok<|.ret res) { s with heap:=h',toks:=tk,drawn:=d }):e8 (f7 prog w) A.in1 (Pt (.ref D) (.ref a) res)
   (λfin s'=>match fin with|.done f=>R (.ok f) s'|.again c'=>c'.quiet=a9/\j4 (f7 prog w) A c' R s') (λe s'=>R (.error e) s') s:=by
 have ld:D<s.heap.objs.size:=v9 L;have hT:s.TypeIs (.ref a) "set":=⟨o,S.ob,B⟩
 unfold Pt;refine p5<|LL hT ?_;have T:Builtin.List.listSameRef (.ref D) (.ref a)=bt:=by simp[Builtin.List.listSameRef,p]
 have U:(L9 "set" == L9 "list")=bt:=by decide
 have V:(L9 "set" == L9 "tuple")=bt:=by decide
 simp only[T,U,V,Bool.or_false,x3,o6];refine p5<|Cw S B G v hz λit h1 d vs Y St H pv I ai C W P=>?_;have M:D∉Y:=λz=>by
  rcases C D z with e|⟨e,_⟩
  exact p e;exact o0 ld<|Lf.mpr e
 have lv:vs.length=es.size:=by have:=pv.length_eq;simpa using this
 have K:∀(h:c8) (g:Nat),St 0 h->(∀b u,b≠D->h1.get? b=a7 u->h.get? b=a7 u)->h.get? D=a7 { cls:=.type "list",data:=.seq #[] g } -> j4 (f7 prog w) A (.builtin "list.extend.loop" ⟨[.ref D,.ref it,res],[]⟩) R { s with heap:=h,drawn:=d }:=λh g J kk y=>by
  refine codeAny_extend_loopS (W A.in1<|by simp[N]).toS hz D M res es.size 0 _ #[] g rfl (w4 _) J y (ItemsOf.nil _) λs' acc c' O m j=>?_;rw[Moved.eq_with O];have X:acc.toList=vs:=by
   apply List.ext_getElem?;intro i;by_cases hi:i<es.size;have E:i<acc.size:=by rw[j.1];exact hi
   have h1:acc[i]?=a7 acc[i]:=G9 E;rw[F4,h1];exact(j.2 i _ h1).symm;rw[Mt (by rw[D5,j.1];lia),Mt<|by lia]
  refine Z s'.heap s'.toks d acc c' (λb u k e=>O.heap b u (λz=>?_)<|kk b u k<|H b u e) m (by rw[X];exact pv);rcases z5.mp z with Q|z;exact k Q;rw[J3.mp z]at e;exact o0 (v9 e)<|Lf.mpr I
 have l:=H _ _ L;refine p5<|E5<|CF (s:={ s with heap:=h1,drawn:=d }) ⟨o,H _ _ S.ob,B⟩ ?_;refine Lk (λz=>?_) λ_=>p8 ⟨Md F.plain_extend_loop _,K h1 c₀ P (λ_ _ _ e=>e) l⟩;refine p5 (Kg (p5 (show e8 (f7 prog w) _ (updateSeq D (·.push .none) >>= λ_=>updateSeq D (·.pop)) _ _ _ from p5<|wpAny_updateSeq l rfl ?_)));have n:=Kk (Kl (·.push ABr)) l rfl;refine wpAny_updateSeq (hz:=by seq_fits) n rfl ?_;have x:=Kk (Kl (·.pop)) n rfl;have r:∀b,b≠D->((h1.update D (Kl (·.push ABr))).update D (Kl (·.pop))).get? b=h1.get? b:=λb k=>by rw[MP _ _<|C3 k,MP _ _<|C3 k]
 refine p8 ⟨Md F.plain_extend_loop _,K _ _ ((W A N).frame 0 _ _ P λb k u e=>(r b λq=>M<|q ▸ k).trans e) (λb u k e=>(r b k).trans e) x⟩
theorem xy{Q:b7->d9->Prop}(I:A.handled=a8)(S:SetAt s.heap a o es ep t)(H:o.cls=.type "set")(B:t.plain=a9->es.size<=1\/t.place.toList.Pairwise (· < ·))(y:t.led = !w.params.followText "set-order")(hz:es.size<=sizeLine)(h:∀h' tk d D (vs:List b7),(∀b u,s.heap.get? b=a7 u->h'.get? b=a7 u)->s.heap.get? D=a8->h'.get? D=a7 { cls:=.type "list",data:=.seq vs.toArray }->vs.Perm (es.toList.map (·.2)) -> e8 (f7 prog w) A.in1 (call (.builtin "list.sort") [.ref D]) (λ_ s'=>Q (.ref D) s') E { s with heap:=h',toks:=tk,drawn:=d }):e8 (f7 prog w) A (call (.builtin "sorted") [.ref a]) Q E s:=by
 have J:a<s.heap.objs.size:=v9 S.ob;refine call_function_entry kind_sorted plain_sorted entry_sorted (args_sorted1 _) ?_;unfold Builtin.«sorted»;refine p5 (m:=checkCount "sorted" 1 1 _)<|p8 ?_;unfold collect;refine p5<|p5<|wpAny_runValue<|LQ F.entry_proto_collect ?_;rw[Ms F.plain_proto_collect _];refine(show e8 (f7 prog w) _ (newList [] >>= λl=>again<|.builtin "list.__iadd__" ⟨[l,.ref a],[]⟩) _ _ s from p5<|J2<|p8 ⟨Md F.plain_list_iadd _,LQ F.entry_list_iadd ?_⟩);rw[Ms F.plain_list_iadd _];have G:=S.at (h':=s.heap.push { cls:=.type "list",data:=.seq ([]:List b7).toArray }) λo e=>v7 _ e;have C:=yd (prog:=prog) (A:=A.in1) (s:={ s with heap:=s.heap.push { cls:=.type "list",data:=.seq ([]:List b7).toArray } }) (D:=s.heap.objs.size) (c₀:=0) (res:=.ref s.heap.objs.size) (R:=λr s'=>∃h' tk d vs c,r=.ok (.ret<|.ref s.heap.objs.size)/\s'={ s with heap:=h',toks:=tk,drawn:=d }/\(∀b u,s.heap.get? b=a7 u->h'.get? b=a7 u)/\h'.get? s.heap.objs.size=a7 { cls:=.type "list",data:=.seq vs c }/\vs.toList.Perm (es.toList.map (·.2))) (by simp[I]) G H B y hz (Nat.ne_of_gt J) (A8 _ rfl) λh' tk d vs c k g p=>⟨h',tk,d,vs,c,rfl,rfl,λb u e=>k b u (x6<|v9 e)<|v7 _ e,g,p⟩
 have i:∀h' tk d (vs:Array b7) c,(∀b u,s.heap.get? b=a7 u->h'.get? b=a7 u)->h'.get? s.heap.objs.size=a7 { cls:=.type "list",data:=.seq vs c }->vs.toList.Perm (es.toList.map (·.2)) -> e8 (f7 prog w) A.in1 (do let ob <-load s.heap.objs.size;match ob.data with|.seq xs _=>pure xs.toList|_=>unsupported "internal:collect":Sem (List b7)) (λxs s'=>e8 (f7 prog w) A.in1 (do let l <-newList xs;let _ <-g8 [l] (call (.builtin "list.sort") [l] []);ret l) (λn s'=>∃v,n=Fin.done (Flow.ret v)/\Q v s') E s') E { s with heap:=h',toks:=tk,drawn:=d }:=λh' tk d vs c j g p=>by
  refine p5 (wpAny_load g<|p8<|p5<|wpAny_newList ?_<|by rw[p.length_eq];simpa using hz);have K:s.heap.objs.size<h'.objs.size:=v9 g;refine p5<|E5<|I9 (h (h'.push { cls:=.type "list",data:=.seq vs.toList.toArray }) tk d h'.objs.size vs.toList (λb u e=>v7 _<|j b u e) ?_ (A8 _ rfl) p) (λ_ s' q=>p8 ⟨_,rfl,q⟩) λ_ _ z=>z;cases q:s.heap.get? h'.objs.size with
  |none=>rfl
  |some o'=>exact o0 (v9<|j _ _ q)<|G5 _
 refine I9 C (λn s' x=>?_) λe s' ⟨_,_,_,_,_,z,_⟩=>by cases z
 cases n with
 |done f=>obtain⟨h',tk,d,vs,c,z,rfl,j,g,p⟩:=x;cases z;exact i h' tk d vs c j g p
 |again c'=>refine⟨x.1,MD x.2 ?_⟩;rintro r L ⟨h',tk,d,vs,c,z,e,j,g,p⟩;subst z e;exact i h' tk d vs c j g p
end
end L2
namespace L2
open PySem PySem.Spec PyProof.Rows DL PySem.W
section
variable{X:Cx}{e:f6}{te:u8}{p p' pos pos':f8}{k:Nat}
theorem p7.drew(I:p7 X pins σ H s):p7 X pins σ H { s with drawn:=d }:=⟨I.ok,I.os,I.bare,I.base,I.loc,I.cell,I.free,I.freeC,I.pin,I.hok,I.len⟩
end
end L2
namespace L2
open PySem PySem.Spec PyProof.Rows DL PySem.Builtin PySem.Builtin.Str PySem.StrLaws
theorem AM(a b B:Nat):strSliceIndices (a7 (a:Int)) (a7 (b:Int)) 1 B=strSliceIndices (a7 ((min a B:Nat):Int)) (a7 ((min b B:Nat):Int)) 1 B:=by
 have e:∀i:Nat,max (0:Int) (min (i:Int) (B:Int))=max (0:Int) (min ((min i B:Nat):Int) (B:Int)):=λi=>by lia
 have n:∀i:Nat,¬((i:Int)<0):=λi=>by lia
 simp only[strSliceIndices,n,o6,show ((1:Int) > 0)=True by simp,o7];rw[e a,e b]
theorem eP(x:b8)(l u:Option Int):(Kt x l u).cps.toList=if (strSliceIndices l u 1 x.length).length=x.length then x.cps.toList else(strSliceIndices l u 1 x.length).filterMap (x.cps[·]?):=by unfold Kt;by_cases h:(strSliceIndices l u 1 x.length).length=x.length;rw[n6 (by simp[h]),n6 h];rw[n9 (by simp[h]),n9 h]
theorem sK(x:b8){a b:Nat}(U:a<=b):(Kt x (a7 (a:Int))<|a7 (b:Int)).cps.toList=(x.cps.toList.drop a).take (b-a):=by
 have d:min a x.length<=min b x.length:=by lia
 have l:(strSliceIndices (a7 ((min a x.length:Nat):Int)) (a7 ((min b x.length:Nat):Int)) 1 x.length).filterMap (x.cps[·]?)=(x.cps.toList.drop<|min a x.length).take (min b x.length-min a x.length):=sliced_plain x d<|Nat.min_le_right ..;have S:=fu (a:=x);have n:(x.cps.toList.drop<|min a x.length).take (min b x.length-min a x.length)=(x.cps.toList.drop a).take (b-a):=by by_cases f:a<=x.length;rw[Nat.min_eq_left f];by_cases c:b<=x.length;rw[Nat.min_eq_left c];rw[Nat.min_eq_right (by lia),NL (by rw[Kx];lia),NL<|by rw[Kx];lia];rw[List.drop_eq_nil_of_le (i:=a) (by lia),List.drop_eq_nil_of_le (i:=min a x.length)<|by lia];simp
 rw[eP,AM,l,n];split;rename_i h;rw[strSliceIndices_plain d<|Nat.min_le_right ..]at h;simp only[u4,LV]at h;have e:min a x.length=0:=by lia
 by_cases g:x.length=0;have:x.cps.toList=[]:=List.eq_nil_of_length_eq_zero (by lia);rw[this];simp;have:a=0:=by lia
 subst this;rw[List.drop_zero,NL<|by lia];rfl
end L2
namespace L2
open PySem PySem.Spec PyProof.Rows DL PySem.W
section
variable{X:Cx}
def GD:E1:=λx y M Q=>match x,y with
 |.int i,.int j=>CPow i j/\Q (.int<|i ^ j.toNat) M
 |_,_=>False
theorem Ik:E6 X (i9 .Pow) GD:=by refine C1.imp HY ?_;rintro f g H R ⟨x,y,M,ρ,Q,s,r,m,q,k⟩;unfold GD at q;split at q;cases r;cases m;exact⟨_,_,rfl,rfl,q.1,k _ H<|VQ.now s (.int _) q.2⟩;exact q.elim
theorem Je:E7 X (i9 .Pow) GD:=⟨Ik⟩
def mB(z:b8):C6:=λds M Q=>match ds with
 | [.str y]=>∃i aI,OC z y 0 z.length 1=i::aI/\Q (.int (i:Nat)) M
 |_=>False
theorem Cb:Ix X "str.index" (Fe X.K mB):=by
 rintro p s σ H x xs v us R I g a ⟨z,ds,M,ρ,Q,c,m,f,q,k⟩;subst c;obtain⟨t,rfl⟩:=g;unfold mB at q;split at q;obtain⟨i,aI,D,q⟩:=q
 first|have h:=Reps.inv_cons f|have h:=aw.inv_cons f
 clear f;obtain⟨_,_,rfl,r,f⟩:=h;cases f;cases r;obtain⟨u,rfl,t',rfl⟩:=aw.one a;exact call_gives F.slot_str_index (typeIs_str _ _ _) F.entry_str_index (F.args_str_index_2 _ _) (gives_str_index _ _ _ _ i aI D) ⟨.int _,H,I.tok _,⟨_,rfl⟩,k _ H<|VQ.now m (.int _) q⟩;exact q.elim
theorem CD:Pq X "index" mB:=⟨_,PySem.F.slot_str_index,PySem.F.type_str_index,Cb⟩
end
end L2
namespace Ht
open PySem
def KN(ow:Array (Option Nat))(s:Nat):Prop:=∃i,ow[s]?=a7 (a7 i)
theorem getD_none(hs:s<ow.size):(ow.getD s<|a7 0).isNone=a9↔¬KN ow s:=by
 have e:ow[s]?=a7 ow[s]:=G9 hs;have m:ow.getD s (a7 0)=ow[s]:=by simp[KH,hs]
 rw[m];unfold KN;rw[e];cases ow[s]<;>simp
theorem Ax(hz:ow.size=m+1)(h:Int):∀(fuel k0 k:Nat),k0<=k->k<k0+fuel->¬KN ow (eQ m h k).1->(∀n,n<fE m h k0->KN ow (sq m h n).j) ->∃N,Oy m ow fuel (eQ m h k0).1 (eQ m h k0).2=a7 (sq m h N).j/\¬KN ow (sq m h N).j/\∀n,n<N->KN ow (sq m h n).j:=by
 intro fuel;induction fuel with
 |zero=>intro k0 k h1 h2;lia
 |succ fuel l =>
  intro k0 k h1 h2 c d;have p:=uJ m h k0;have u:G6 m (eQ m h k0).1<=m/\(eQ m h k0).1<=G6 m (eQ m h k0).1:=by unfold G6;split<;>lia
  unfold Oy;cases f:(B9<|G6 m (eQ m h k0).1+1-(eQ m h k0).1).find? λk=>(ow.getD ((eQ m h k0).1+k)<|a7 0).isNone with
  |some r =>
   have i:=MH f;have b:=Pg f;rw[F7]at b;refine⟨fE m h k0+r,by rw[zg m h k0 r<|by lia],?_,λn g=>?_⟩;rw[zg m h k0 r<|by lia];exact(getD_none<|by lia).mp i;rcases Ku n (fE m h k0)with q|q;exact d n q;obtain⟨r',rfl⟩:∃r',n=fE m h k0+r':=⟨n-fE m h k0,by lia⟩
   rw[zg m h k0 r'<|by lia];refine LC λo=>?_;have t:r' < r:=by lia
   have z:=(getD_none (ow:=ow) (s:=(eQ m h k0).1+r')<|by lia).mpr o;have:=List.find?_range_eq_some.mp f;have:=this.2.2 r' t;rw[z]at this;exact o0 this<|by simp
  |none =>
   have a:∀r,r<=G6 m (eQ m h k0).1-(eQ m h k0).1->KN ow ((eQ m h k0).1+r):=λr i=>by refine LC λo=>?_;have z:=(getD_none (ow:=ow) (s:=(eQ m h k0).1+r)<|by lia).mpr o;have:=List.find?_eq_none.mp f r (F7.mpr<|by lia);exact this z
   have v:k0≠k:=λe=>by subst e;exact c<|a 0<|w4 _
   refine l (k0+1) k (by lia) (by lia) c λn g=>?_;unfold fE at g;rcases Ku n (fE m h k0)with q|q;exact d n q;obtain⟨r',rfl⟩:∃r',n=fE m h k0+r':=⟨n-fE m h k0,by lia⟩
   rw[zg m h k0 r'<|by lia];exact a r'<|by lia
structure Laid(m:Nat)(hs:List Int)(ow:Array (Option Nat))(k:Nat):Prop where
 sz:ow.size=m+1
 lt:∀s i:Nat,ow[s]?=a7 (a7 i)->i<k
 inj:∀s s' i:Nat,ow[s]?=a7 (a7 i)->ow[s']?=a7 (a7 i)->s=s'
 all:∀i:Nat,i<k->∃s:Nat,ow[s]?=a7 (a7 i)
 path:∀(s i:Nat) (h:Int),ow[s]?=a7 (a7 i)->hs[i]?=a7 h->∃n,(sq m h n).j=s/\∀n',n' < n->KN ow (sq m h n').j
theorem Laid.room(L:Laid m hs ow k)(q:k<=m):∃s,s<=m/\¬KN ow s:=by
 refine LC λl=>?_;have c:∀s,s<=m->KN ow s:=λs hs=>LC λz=>l ⟨s,hs,z⟩;have d:∀s,s∈B9 (m+1)->((ow.getD s a8).getD 0)∈B9 k:=λs u=>by
  obtain⟨i,e⟩:=c s (by have:=F7.mp u;lia);have:ow.getD s a8=a7 i:=by obtain⟨g,z⟩:=Lb.mp e;simp[KH,g,z]
  rw[this];exact F7.mpr<|L.lt s i e
 have p:((B9<|m+1).map λs=>(ow.getD s a8).getD 0).Nodup:=by
  rw[LY,NA];have base:=Od (n:=m+1);rw[LY]at base;refine base.imp_of_mem λ{a b} ha hb hne e=>hne ?_;obtain⟨i,f⟩:=c a (by have:=F7.mp ha;lia);obtain⟨j,B⟩:=c b (by have:=F7.mp hb;lia);have t:ow.getD a a8=a7 i:=by obtain⟨g,z⟩:=Lb.mp f;simp[KH,g,z]
  have h:ow.getD b a8=a7 j:=by obtain⟨g,z⟩:=Lb.mp B;simp[KH,g,z]
  rw[t,h]at e;have:i=j:=e;subst this;exact L.inj a b i f B
 have:=L2.nodup_le _ (B9 k) p λx o=>by obtain⟨s,u,rfl⟩:=ve.mp o;exact d s u
 rw[u4,LV,LV]at this;lia
theorem Laid.step(D:om m)(L:Laid m hs ow k)(B:k<=m)(A:hs[k]?=a7 h):∃j,Oy m ow (MF m) (K6 h % (m+1)) (K6 h)=a7 j/\Laid m hs (ow.setIfInBounds j<|a7 k) (k+1):=by
 obtain⟨s,g,l⟩:=L.room B;obtain⟨I,C,e⟩:=DU D h g;obtain⟨N,v,x,y⟩:=Ax L.sz h (MF m) 0 I (w4 _) (by unfold MF;lia) (by rw[e];exact l) λn F=>o0 F<|Ll _;refine⟨(sq m h N).j,v,?_⟩;have H:(sq m h N).j<ow.size:=by have:=zf (m:=m) h N;rw[L.sz];lia
 have a:(ow.setIfInBounds (sq m h N).j<|a7 k)[(sq m h N).j]?=a7 (a7 k):=by rw[Array.getElem?_setIfInBounds_self_of_lt H]
 have r:∀s,s≠(sq m h N).j->(ow.setIfInBounds (sq m h N).j<|a7 k)[s]?=ow[s]?:=λs f=>Array.getElem?_setIfInBounds_ne<|C3 f;have w:∀s,KN ow s->KN (ow.setIfInBounds (sq m h N).j<|a7 k) s:=λs ⟨i,z⟩=>by by_cases q:s=(sq m h N).j;subst q;exact⟨k,a⟩;exact⟨i,by rw[r s q];exact z⟩
 have d:∀s i,(ow.setIfInBounds (sq m h N).j<|a7 k)[s]?=a7 (a7 i)->(s=(sq m h N).j/\i=k)\/(s≠(sq m h N).j/\ow[s]?=a7 (a7 i)):=λs i z=>by by_cases q:s=(sq m h N).j;subst q;rw[a]at z;cases z;exact .inl ⟨rfl,rfl⟩;rw[r s q]at z;exact .inr ⟨q,z⟩
 refine⟨by rw[Array.size_setIfInBounds];exact L.sz,λs i z=>?_,λs s' i z G=>?_,λi hi=>?_,λs i h' z b=>?_⟩;rcases d s i z with⟨_,e⟩|⟨_,z⟩
 lia;have:=L.lt s i z;lia;rcases d s i z with⟨t,p⟩|⟨_,z⟩
 rcases d s' i G with⟨R,_⟩|⟨_,G⟩
 rw[t,R];have:=L.lt s' i G;lia;rcases d s' i G with⟨_,J⟩|⟨_,G⟩
 have:=L.lt s i z;lia;exact L.inj s s' i z G;by_cases q:i=k;subst q;exact⟨_,a⟩;obtain⟨s,z⟩:=L.all i (by lia);refine⟨s,?_⟩;rw[r s λe=>x ⟨i,by rw[<-e];exact z⟩];exact z;rcases d s i z with⟨t,p⟩|⟨_,z⟩
 subst t p;rw[A]at b;cases b;exact⟨N,rfl,λo c=>w _<|y o c⟩;obtain⟨n,E,u⟩:=L.path s i h' z b;exact⟨n,E,λo c=>w _<|u o c⟩
theorem Fk(f:om m)(hs:List Int)(p:hs.length<=m):∃ow,SetTable.layClean m hs.toArray=a7 ow/\Laid m hs ow hs.length:=by
 have start:Laid m hs (Array.replicate (m+1) a8) 0:=by
  have n:∀s i:Nat,(Array.replicate (m+1) (a8:Option Nat))[s]?≠a7 (a7 i):=λs i z=>by rw[Array.getElem?_replicate]at z;split at z<;>cases z
  exact⟨by simp,λs i z=>o0 z<|n s i,λs _ i z=>o0 z<|n s i,λi hi=>o0 hi<|Ll _,λs i _ z=>o0 z<|n s i⟩
 have c:∀(aI:List Int) (k:Nat) (ow:Array (Option Nat)),hs.drop k=aI->k+aI.length=hs.length->Laid m hs ow k -> ∃o,aI.foldl (init:=a7 (ow,k)) (λacc h=>do
    let (owner,k) <-acc
    let j <-Oy m owner (MF m) (K6 h % (m+1)) (K6 h)
    pure (owner.setIfInBounds j<|a7 k,k+1))=a7 (o,hs.length)/\Laid m hs o hs.length:=by
  intro aI;induction aI with
  |nil =>
   intro k ow e a L;have:k=hs.length:=by simpa using a
   subst this;exact⟨ow,rfl,L⟩
  |cons h aI l =>
   intro k ow e a L;have d:hs[k]?=a7 h:=by
    have:(hs.drop k)[0]?=a7 h:=by rw[e];rfl
    rw[Oo]at this;simpa using this
   rw[C7]at a;obtain⟨j,r,b⟩:=L.step f (by lia) d;obtain⟨o,g1,g⟩:=l (k+1) (ow.setIfInBounds j<|a7 k) (by
    have:hs.drop (k+1)=(hs.drop k).drop 1:=by rw[List.drop_drop]
    rw[this,e];rfl) (by lia) b
   refine⟨o,?_,g⟩;rw[List.foldl_cons];simp only[Option.bind_eq_bind,Option.bind_some,r,Option.pure_def];exact g1
 obtain⟨ow,g1,g⟩:=c hs 0 _ rfl (by simp) start;refine⟨ow,?_,g⟩;unfold SetTable.layClean;rw[<-Array.foldl_toList];have:hs.toArray.toList=hs:=by simp
 rw[this,g1];rfl
theorem mF{α:Type}[DecidableEq α]:∀{l l':List α},l.Nodup->l'.Nodup->(∀x,x∈l↔x∈l')->l.Perm l'
 | [],l',_,_,h=>by have:l'=[]:=List.eq_nil_iff_forall_not_mem.mpr λx hx=>o0 ((h x).mpr hx) (by simp);rw[this]
 |x::l,l',n,n',h=>by have hx:x∈l':=(h x).mp D4;have n1:=Kp.mp n;refine(N1 x<|mF n1.2 (n'.erase x) λy=>?_).trans (List.perm_cons_erase hx).symm;by_cases e:y=x;subst e;constructor;intro z;exact o0 z n1.1;intro z;exact o0 z<|List.Nodup.not_mem_erase n';rw[List.mem_erase_of_ne e,<-h y,z5];exact⟨.inr,λz=>z.resolve_left e⟩
noncomputable def bE(m:Nat)(ow:Array (Option Nat)):List (Nat×Nat):=(B9<|m+1).filterMap λj=>(ow.getD j a8).map (j,·)
theorem fq(L:Laid m hs ow k):(s,i)∈bE m ow↔ow[s]?=a7 (a7 i):=by
 unfold bE;rw[Mq];constructor;rintro⟨j,hj,e⟩;have h:j<ow.size:=by rw[L.sz];exact F7.mp hj
 have a:ow.getD j a8=ow[j]:=by simp[KH,h]
 rw[a]at e;cases q:ow[j] with
 |none=>rw[q]at e;cases e
 |some i'=>rw[q]at e;have:=C4 e;cases this;rw[G9 h,q]
 intro e;obtain⟨g,z⟩:=Lb.mp e;refine⟨s,F7.mpr (by rw[<-L.sz];exact g),?_⟩;have a:ow.getD s a8=ow[s]:=by simp[KH,g]
 rw[a,z];rfl
theorem tG(m:Nat)(ow:Array (Option Nat)):((bE m ow).map (·.1)).Pairwise (· < ·):=by unfold bE;rw[NA];refine List.Pairwise.filterMap (R:=(· < ·)) _ (λa c h b d e f=>?_)<|List.pairwise_lt_range;obtain⟨x,_,rfl⟩:=LB.mp d;obtain⟨y,_,rfl⟩:=LB.mp f;exact h
theorem tH(L:Laid m hs ow hs.length):((bE m ow).map (·.2)).Perm (B9 hs.length):=by
 have n:(bE m ow).Nodup:=by have:=tG m ow;rw[NA]at this;exact this.imp λh e=>by rw[e]at h;exact G5 _ h
 have p:((bE m ow).map (·.2)).Nodup:=by rw[LY,NA];rw[LY]at n;refine n.imp_of_mem λ{a b} ha hb hne e=>hne ?_;obtain⟨s,i⟩:=a;obtain⟨s',i'⟩:=b;have c:i=i':=e;subst c;rw[L.inj s s' i ((fq L).mp ha)<|(fq L).mp hb]
 refine mF p Od λi=>?_;rw[F7,ve];constructor;rintro⟨⟨s,i'⟩,hm,rfl⟩;exact L.lt s i'<|(fq L).mp hm;intro hi;obtain⟨s,e⟩:=L.all i hi;exact⟨(s,i),(fq L).mpr e,rfl⟩
theorem qB{α:Type}{l:List α}{p:Nat}{x y:α}(b:p<=l.length){i:Nat}(h:(l.take p++x::l.drop p)[i]?=a7 y):(i<p/\l[i]?=a7 y)\/(i=p/\y=x)\/(p<i/\l[i-1]?=a7 y):=by
 have lt:(l.take p).length=p:=by rw[J1];lia
 rcases NB i p with q|q|q;rw[J5 (by lia),List.getElem?_take,n6 q]at h;exact .inl ⟨q,h⟩;subst q;rw[Kz (by lia),lt,Li]at h;exact .inr<|.inl ⟨rfl,(C4 h).symm⟩;rw[Kz (by lia),lt]at h;obtain⟨r,a⟩:∃r,i-p=r+1:=⟨i-p-1,by lia⟩
 rw[a,MQ,Oo]at h;exact .inr<|.inr ⟨q,by rw[show i-1=p+r by lia];exact h⟩
structure TPre(t:m8)(hs:List Int):Prop where
 msk:om t.mask
 len:t.place.size=hs.length
 nod:t.dummies = #[]
 ris:t.place.toList.Pairwise (· < ·)
 rng:∀j∈t.place.toList,j<=t.mask
 path:∀(i:Nat) (h:Int) (j:Nat),hs[i]?=a7 h->t.place[i]?=a7 j->∃n,(sq t.mask h n).j=j/\∀n',n' < n->(sq t.mask h n').j∈t.place.toList
theorem put_pre(T:TOk t hs)(h2:(sq t.mask h N).j∉t.place.toList)(u:∀k,k<N->(sq t.mask h k).j∈t.place.toList)(v:Bool):(t.put (sq t.mask h N).j).2<=hs.length/\TPre { (t.put (sq t.mask h N).j).1 with plain:=v } (hs.take (t.put (sq t.mask h N).j).2++h::hs.drop (t.put (sq t.mask h N).j).2):=by
 obtain⟨e,r⟩:=zn T.ris h2;obtain⟨g,_,_⟩:=below_spec t.place T.ris (sq t.mask h N).j;have l:D7 t.place (sq t.mask h N).j<=hs.length:=by rw[<-T.len];exact g
 refine⟨l,⟨T.msk,?_,?_,r,λj L=>?_,λi h' j d L=>?_⟩⟩;have:=o8 Km e;rw[D5,x5,C7,J1,Kx,D5]at this;show (t.put (sq t.mask h N).j).1.place.size=(hs.take (D7 t.place (sq t.mask h N).j)++h::hs.drop (D7 t.place (sq t.mask h N).j)).length;rw[this,x5,C7,J1,Kx,T.len];show (if SetTable.has t.dummies (sq t.mask h N).j then SetTable.eraseAt t.dummies (D7 t.dummies (sq t.mask h N).j)else t.dummies) = #[];rw[T.nod];rfl;have a:j∈(t.put (sq t.mask h N).j).1.place.toList:=L;rw[e]at a;rcases D3.mp a with q|q;exact T.rng j<|List.mem_of_mem_take q;rcases z5.mp q with q|q;rw[q];exact zf h N;exact T.rng j<|List.mem_of_mem_drop q;have s:∀x,x∈t.place.toList->x∈(t.put (sq t.mask h N).j).1.place.toList:=λx m=>by rw[e];rw[<-List.take_append_drop (D7 t.place (sq t.mask h N).j) t.place.toList]at m;rcases D3.mp m with q|q;exact J4 _ q;exact F6 _<|A2 _ q
 have a:(t.put (sq t.mask h N).j).1.place.toList[i]?=a7 j:=by rw[F4];exact L
 rw[e]at a;have o:∀k,hs[k]?=a7 h'->t.place[k]?=a7 j->∃n,(sq t.mask h' n).j=j/\∀f,f < n->(sq t.mask h' f).j∈(t.put (sq t.mask h N).j).1.place.toList:=λk B y=>by obtain⟨n,E,p⟩:=T.path k h' j B y;exact⟨n,E,λf c=>s _<|p f c⟩
 rcases qB (by rw[D5];exact g) a with⟨q,z⟩|⟨q,z⟩|⟨q,z⟩
 rcases qB l d with⟨b,G⟩|⟨b,G⟩|⟨b,G⟩
 exact o i G (by rw[<-F4];exact z);lia;lia;rcases qB l d with⟨b,G⟩|⟨b,G⟩|⟨b,G⟩
 lia;subst z G;exact⟨N,rfl,λf c=>s _<|u f c⟩;lia;rcases qB l d with⟨b,G⟩|⟨b,G⟩|⟨b,G⟩
 lia;lia;exact o (i-1) G<|by rw[<-F4];exact z
theorem TPre.ok(T:TPre t hs)(h:t.tooFull=bt):TOk t hs:=by refine⟨T.msk,T.len,T.nod,T.ris,T.rng,?_,T.path⟩;unfold SetTable.tooFull NZ at h;rw[T.nod]at h;simp at h;simpa using h
theorem TPre.anew(T:TPre t hs)(h:t.tooFull=a9)(M:(hs.length-1)*5<t.mask*3)(D:hs.length<=64):O1 (Me hs.length)<=sizeLine/\∃t2 ord,t.relaid hs.toArray (Me hs.length)=a7 (t2,ord)/\ord.toList.Perm (B9 hs.length)/\TOk t2 (ord.toList.map λi=>hs.getD i 0)/\t2.led=t.led:=by
 have u:hs.length*5 ≥ t.mask*3:=by unfold SetTable.tooFull NZ at h;rw[T.nod,T.len]at h;simpa using h
 have C:∃m,O1 (Me hs.length)=m+1/\om m/\hs.length<=m/\hs.length*5<m*3:=by
  rcases T.msk with e|e|e;have:hs.length=5:=by lia
  rw[this];exact⟨31,by decide +kernel,.inr<|.inl rfl,by decide,by decide⟩;have:hs.length=19:=by lia
  rw[this];exact⟨127,by decide +kernel,.inr<|.inr rfl,by decide,by decide⟩;lia
 obtain⟨m,e,g,H,f⟩:=C;refine⟨by rw[e,Lh];rcases g with rfl|rfl|rfl<;>lia,?_⟩;obtain⟨ow,B,L⟩:=Fk g hs H;unfold SetTable.relaid;rw[e,On];unfold SetTable.laid;rw[B];refine⟨_,_,rfl,?_,?_,rfl⟩;show ((bE m ow).map (·.2)).toArray.toList.Perm _;simpa using tH L;have l:((bE m ow).map (·.1)).toArray.toList=(bE m ow).map (·.1):=by simp
 have K:((bE m ow).map (·.2)).toArray.toList=(bE m ow).map (·.2):=by simp
 have J:(bE m ow).length=hs.length:=by have:=(tH L).length_eq;simpa using this
 refine⟨g,?_,rfl,?_,λj d=>?_,?_,λi h' j F d=>?_⟩;show ((bE m ow).map (·.1)).toArray.size=(((bE m ow).map (·.2)).toArray.toList.map λi=>hs.getD i 0).length;simp;show ((bE m ow).map (·.1)).toArray.toList.Pairwise _;rw[l];exact tG m ow;have a:j∈((bE m ow).map (·.1)).toArray.toList:=d;rw[l]at a;obtain⟨⟨s,i⟩,o,rfl⟩:=ve.mp a;have:=(Lb.mp<|(fq L).mp o).1;rw[L.sz]at this;show s<=m;lia;show ((bE m ow).map (·.1)).toArray.size*5<m*3;rw[x9,u4,J];exact f;have b:(((bE m ow).map (·.2)).map λi=>hs.getD i 0)[i]?=a7 h':=by rw[<-K];exact F
 have a:((bE m ow).map (·.1))[i]?=a7 j:=by rw[<-l,F4];exact d
 rw[E2,C8]at b;rw[C8]at a;cases q:(bE m ow)[i]? with
 |none=>rw[q]at a;cases a
 |some p =>
  obtain⟨s,k⟩:=p;rw[q]at b a;have y:s=j:=C4 a;have A:hs.getD k 0=h':=C4 b;subst y;have c:=(fq L).mp<|F8 q;have v:=L.lt s k c;have G:hs[k]?=a7 h':=by rw[v4 v];rw[<-A];simp[L8,v]
  obtain⟨n,E,x⟩:=L.path s k h' c G;refine⟨n,E,λw r=>?_⟩;obtain⟨I,z⟩:=x w r;show (sq m h' w).j∈((bE m ow).map (·.1)).toArray.toList;rw[l];exact ve.mpr ⟨(_,I),(fq L).mpr z,rfl⟩
end Ht
namespace L2
open PySem PySem.Spec PyProof.Rows DL PySem.W
theorem qw:∀(n:Nat) (d:D),cY n d=a9->u3 M n d=a9
 | 0,d,h=>by cases d<;>first|rfl|cases h
 |n+1,d,h=>by
  cases d with
  |tup ds=>have h':ds.all (cY n)=a9:=h;show ds.all (u3 M n)=a9;rw[Fn]at h' ⊢;exact λx hx=>qw n x<|h' x hx
  |str x=>rfl
  |int i=>rfl
  |_=>cases h
theorem iP:∀(n:Nat) (x y:D),cY n x=a9->cY n y=a9->(t4 M n x y=a9↔x=y):=by
 intro n;induction n with
 |zero =>
  intro x y h1 h2;cases x with
  |str a =>
   cases y with
   |str b=>simp[t4]
   |int b=>simp[t4]
   |_=>cases h2
  |int a =>
   cases y with
   |str b=>simp[t4]
   |int b=>simp[t4]
   |_=>cases h2
  |_=>cases h1
 |succ n h =>
  have o:∀xs ys:List D,xs.all (cY n)=a9->ys.all (cY n)=a9->(C5 (t4 M n) xs ys=a9↔xs=ys):=by
   intro xs;induction xs with
   |nil=>intro ys _ _;cases ys<;>simp[C5]
   |cons x xs i =>
    intro ys E c;cases ys with
    |nil=>simp[C5]
    |cons y ys=>rw[Kv,D8]at E c;show (t4 M n x y&&C5 (t4 M n) xs ys)=a9↔_;rw[D8,h x y E.1 c.1,i ys E.2 c.2,Mg]
  intro x y h1 h2;cases x with
  |str a =>
   cases y with
   |str b=>simp[t4]
   |int b=>simp[t4]
   |tup ys=>simp[t4]
   |_=>cases h2
  |int a =>
   cases y with
   |str b=>simp[t4]
   |int b=>simp[t4]
   |tup ys=>simp[t4]
   |_=>cases h2
  |tup xs =>
   cases y with
   |str b=>simp[t4]
   |int b=>simp[t4]
   |tup ys=>rw[D.tup.injEq];exact o _ _ h1 h2
   |_=>cases h2
  |_=>cases h1
section
variable{X:Cx}{pins:List (c6×c7)}{σ:St}{H:Hp}{ρ:List c6}{M:tx}
theorem Jo(sm:u6 X.K ρ M H):∀(n:Nat) (A:d8) (s:d9) (d:D) (v:V) (u:b7) (E:b7->d9->Prop) (Q:Int->d9->Prop),A.units+n<j2->p7 X pins σ H s->t5 X.K ρ H d v->aN v u->cY n d=a9 ->(∀tk,Q (w9 X.w n d) { s with toks:=tk })->e8 (f7 X.prog X.w) A (pyHash u) Q E s:=by
 intro n;induction n with
 |zero =>
  intro A s d v u E Q P I r f m h;cases r with
  |str x=>obtain⟨t,rfl⟩:=f;exact Nw<|h _
  |int x=>obtain⟨t,rfl⟩:=f;exact Nx<|h _
  |_=>cases m
 |succ n R =>
  intro A s d v u E Q P I r f m h;cases r with
  |str x=>obtain⟨t,rfl⟩:=f;exact Nw<|h _
  |int x=>obtain⟨t,rfl⟩:=f;exact Nx<|h _
  |@tup a vs ds O Y =>
   cases f;obtain⟨its,W,p,_⟩:=I.tuple O;obtain⟨o,B,L,nn,N⟩:=id p;have T:s.TypeIs (.ref a) "tuple":=⟨o,B,L⟩
   have y:ds.all (cY n)=a9:=m;unfold pyHash
   first|unfold pyHashByItsType|skip
   first|refine p5 (wpAny_cRoomFor_or (.inr<|by lia) ?_)|skip
   refine p5<|Ly T F.slot_tuple_hash.lookup ?_;refine(show e8 (f7 X.prog X.w) _ (if (a7 (Value.builtin "tuple.__hash__")==a7 ABr)=a9 then _ else _) Q E s from ?_);rw[n9<|by rw[beq_builtin_none];exact Ln];refine p5<|Ly T F.slot_tuple_hash.lookup ?_;refine(show e8 (f7 X.prog X.w) _ (callSpecialIfBoundUnlessNone? (.ref a) "__hash__" _ >>= _) Q E s from p5<|Pw T F.slot_tuple_hash<|J0 F.slot_tuple_hash T F.entry_tuple_hash ?_<|F.args_tuple_hash_1 _);refine(show e8 (f7 X.prog X.w) _ (OI (.ref a) >>= _) _ _ s from p5<|wpAny_tupleItemsOf B N<|p5 ?_);rw[<-MK];refine KW _ (λaI (b:Array Int) s'=>∃done left q,ds=done++left/\Reps X.K ρ H left q/\aw q aI/\b.toList=done.map (w9 X.w n)/\∃tk,s'={ s with toks:=tk }) _ ?_ ?_ _ _ ⟨[],ds,vs,rfl,Y,by simpa using W,rfl,s.toks,rfl⟩;rintro x aI b s' ⟨done,left,q,e,h1,h2,k,tk,rfl⟩;cases h2 with
   |@cons Z _ i _ S G =>
    cases h1 with
    |@cons j _ c _ U J =>
     refine p5<|R _ _ j Z x _ _ (by show A.units+1+n<j2;lia) (I.tok tk) U S ?_ λg=>?_;have:=Fn.mp y j (by rw[e];simp);exact this
     first
      |exact p8 ⟨done++[j],c,i,by rw[e];simp,J,G,by simp[k],g,rfl⟩
      |exact p5 (p8 (p8 ⟨done++[j],c,i,by rw[e];simp,J,G,by simp[k],g,rfl⟩))
   rintro b s' ⟨done,left,q,e,h1,h2,k,tk,rfl⟩;cases h2;cases h1;rw[K7]at e;subst e;refine(show e8 (f7 X.prog X.w) _ (retInt<|Mv b.toList) _ _ _ from ?_);rw[k];refine wpAny_ret_mkInt ?_;have l:w9 X.w (n+1) (.tup ds)=m5 (Mv<|ds.map<|w9 X.w n):=rfl;generalize Mv (ds.map<|w9 X.w n)=z at l;refine(show e8 (f7 X.prog X.w) _ (if (decide (-(2:Int) ^ 63<=z)&&decide (z<2 ^ 63))=a9 then _ else _) Q E _ from ?_);unfold m5 at l;by_cases C:(decide (-(2:Int) ^ 63<=z)&&decide (z<2 ^ 63))=a9;rw[n6 C]at l ⊢;exact p8 (by rw[<-l];exact h _);rw[n9 C]at l ⊢;exact p5<|Kg<|p8<|by rw[<-l];exact h _
  |_=>cases m
end
section
variable{X:Cx}{pins:List (c6×c7)}{σ:St}{H:Hp}{ρ:List c6}{M:tx}
theorem hbv_D(S:u6 X.K ρ M H):∀(n k:Nat) (A:d8) (s:d9) (d:D) (v:V) (u:b7) (E:b7->d9->Prop) (Q:Bool->d9->Prop),n<=k->p7 X pins σ H s->t5 X.K ρ H d v->aN v u->cY n d=a9->(∀b,Q b s)->e8 (f7 X.prog X.w) A (hashByValue k u) Q E s:=by
 intro n;induction n with
 |zero =>
  intro k A s d v u E Q z I r c e h;cases r with
  |str x=>obtain⟨t,rfl⟩:=c;cases k<;>exact p8<|h _
  |int x=>obtain⟨t,rfl⟩:=c;cases k<;>exact p8<|h _
  |_=>cases e
 |succ n G =>
  intro k A s d v u E Q z I r c e h;cases r with
  |str x=>obtain⟨t,rfl⟩:=c;cases k<;>exact p8<|h _
  |int x=>obtain⟨t,rfl⟩:=c;cases k<;>exact p8<|h _
  |@tup a vs ds B O =>
   cases c;obtain⟨k,rfl⟩:∃J,k=J+1:=⟨k-1,by lia⟩
   obtain⟨its,m,p,_⟩:=I.tuple B;obtain⟨o,j,l,R,q⟩:=id p;have T:s.TypeIs (.ref a) "tuple":=⟨o,j,l⟩
   have y:ds.all (cY n)=a9:=e;unfold hashByValue;refine p5<|Ly T F.slot_tuple_hash.lookup ?_;dsimp only;refine p5<|Mf j q ?_;simp only[Option.getD_some];rw[<-MK];refine p5 ?_;refine KW _ (λaI r s'=>s'=s/\r.1=a8/\∃left f,(∀x∈left,cY n x=a9)/\Reps X.K ρ H left f/\aw f aI) _ ?_ ?_ _ _ ⟨rfl,rfl,ds,vs,Fn.mp y,O,by simpa using m⟩;rintro x aI r s' ⟨rfl,i,left,f,g,h1,h2⟩;cases h2 with
   |cons L N =>
    cases h1 with
    |cons U P =>
     refine p5<|G k _ _ _ _ x _ _ (by lia) I U L (g _ D4) λb=>?_;cases b with
     |false=>exact p8<|p8<|h _
     |true=>exact p8 ⟨rfl,rfl,_,_,λx C=>g x<|A2 _ C,P,N⟩
   rintro⟨r1,m⟩ s' ⟨rfl,i,_⟩;simp only at i;subst i;exact p8<|h _
  |_=>cases e
theorem zk(P:u6 X.K ρ M H):∀(n k:Nat) (A:d8) (s:d9) (d:D) (v:V) (u:b7) (E:b7->d9->Prop) (Q:Bool->d9->Prop),n<=k->p7 X pins σ H s->t5 X.K ρ H d v->aN v u->cY n d=a9->Q a9 s->e8 (f7 X.prog X.w) A (np k u) Q E s:=by
 intro n;induction n with
 |zero =>
  intro k A s d v u E Q q I r b e h;cases r with
  |str x=>obtain⟨t,rfl⟩:=b;rw[LU k (v:=.str x t) rfl];exact p8 h
  |int x=>obtain⟨t,rfl⟩:=b;rw[LU k (v:=.int x t) rfl];exact p8 h
  |_=>cases e
 |succ n C =>
  intro k A s d v u E Q q I r b e h;cases r with
  |str x=>obtain⟨t,rfl⟩:=b;rw[LU k (v:=.str x t) rfl];exact p8 h
  |int x=>obtain⟨t,rfl⟩:=b;rw[LU k (v:=.int x t) rfl];exact p8 h
  |@tup a vs ds z N =>
   cases b;obtain⟨k,rfl⟩:∃G,k=G+1:=⟨k-1,by lia⟩
   obtain⟨its,m,p,_⟩:=I.tuple z;obtain⟨o,f,j,R,l⟩:=id p;have T:s.TypeIs (.ref a) "tuple":=⟨o,f,j⟩
   have y:ds.all (cY n)=a9:=e;unfold np;refine p5<|Ly T F.slot_tuple_eq.lookup ?_;refine(show e8 (f7 X.prog X.w) A (isInstance (.ref a) (.type "tuple") >>= _) _ _ s from p5<|Mj T isSubtype_tuple_tuple ?_);simp only[KR,x3,o6];refine p5<|Mf f l ?_;simp only[Option.getD_some];refine p5 ?_;rw[<-MK];refine KW _ (λaI r s'=>s'=s/\r.1=a8/\∃left c,(∀x∈left,cY n x=a9)/\Reps X.K ρ H left c/\aw c aI) _ ?_ ?_ _ _ ⟨rfl,rfl,ds,vs,Fn.mp y,N,by simpa using m⟩;rintro x aI r s' ⟨rfl,i,left,c,g,h1,h2⟩;cases h2 with
   |cons J L =>
    cases h1 with
    |cons U O=>refine p5<|C k _ _ _ _ x _ _ (by lia) I U J (g _ D4) ?_;simp only[KR,x3,o6];exact p8 ⟨rfl,rfl,_,_,λx B=>g x<|A2 _ B,O,L⟩
   rintro⟨r1,m⟩ s' ⟨rfl,i,_⟩;simp only at i;subst i;exact p8 h
  |_=>cases e
theorem JT(O:u6 X.K ρ M H):∀(n k:Nat) (A:d8) (s:d9) (d:D) (v:V) (u:b7) (E:b7->d9->Prop) (Q:Bool->d9->Prop),n<=k->p7 X pins σ H s->t5 X.K ρ H d v->aN v u->cY n d=a9->Q bt s->e8 (f7 X.prog X.w) A (ofAClassStatement k u) Q E s:=by
 intro n;induction n with
 |zero =>
  intro k A s d v u E Q q I r b e h;cases r with
  |str x=>obtain⟨t,rfl⟩:=b;cases k<;>exact p8 h
  |int x=>obtain⟨t,rfl⟩:=b;cases k<;>exact p8 h
  |_=>cases e
 |succ n C =>
  intro k A s d v u E Q q I r b e h;cases r with
  |str x=>obtain⟨t,rfl⟩:=b;cases k<;>exact p8 h
  |int x=>obtain⟨t,rfl⟩:=b;cases k<;>exact p8 h
  |@tup a vs ds z L =>
   cases b;obtain⟨k,rfl⟩:∃F,k=F+1:=⟨k-1,by lia⟩
   obtain⟨its,m,p,_⟩:=I.tuple z;obtain⟨o,f,j,R,l⟩:=id p;have T:s.TypeIs (.ref a) "tuple":=⟨o,f,j⟩
   have y:ds.all (cY n)=a9:=e;unfold ofAClassStatement;refine p5<|LL T ?_;dsimp only;simp only[p4,o7];refine p5<|p8 ?_;simp only[KR,x3,o6];refine p5<|Mf f l ?_;dsimp only;refine p5 ?_;rw[<-MK];refine KW _ (λaI r s'=>s'=s/\r.1=a8/\∃left c,(∀x∈left,cY n x=a9)/\Reps X.K ρ H left c/\aw c aI) _ ?_ ?_ _ _ ⟨rfl,rfl,ds,vs,Fn.mp y,L,by simpa using m⟩;rintro x aI r s' ⟨rfl,i,left,c,g,h1,h2⟩;cases h2 with
   |cons G J =>
    cases h1 with
    |cons U N=>refine p5<|C k _ _ _ _ x _ _ (by lia) I U G (g _ D4) ?_;simp only[x3,o6];exact p8 ⟨rfl,rfl,_,_,λx B=>g x<|A2 _ B,N,J⟩
   rintro⟨r1,m⟩ s' ⟨rfl,i,_⟩;simp only at i;subst i;exact p8 h
  |_=>cases e
end
noncomputable def gu:D->Bool
 |.tup _=>a9
 |_=>bt
def D6(X:Cx)(ρ:List c6)(H:Hp)(n:Nat)(d:D)(e:Int×b7):Prop:=(∃v,t5 X.K ρ H d v/\aN v e.2)/\e.1=w9 X.w n d/\cY n d=a9/\gu d=a9
structure KSet(X:Cx)(ρ:List c6)(H:Hp)(h:c8)(a:c6)(n:Nat)(ds:List D)(o:c7)(es:Array (Int×b7))(ep:Nat)(t:m8):Prop where
 ob:h.get? a=a7 o
 ex:o.ExactSet
 dt:o.data=.set es ep t
 en:Paired (D6 X ρ H n) ds es.toList
 nd:ds.Nodup
 tk:Ht.TOk t (es.toList.map (·.1))
 ld:t.led = !X.w.params.followText "set-order"
theorem dU{α β:Type}{R:α->β->Prop}:∀{xs:List α}{ys:List β}{i:Nat}{y:β},Paired R xs ys->ys[i]?=a7 y->∃x,xs[i]?=a7 x/\R x y
 |_,_,i,y,.nil,e=>by simp at e
 |_,_,0,y,.cons r _,e=>by simp at e;subst e;exact⟨_,rfl,r⟩
 |_,_,i+1,y,.cons _ t,e=>by obtain⟨x,h1,h2⟩:=dU (i:=i) t (by simpa using e);exact⟨x,by simpa using h1,h2⟩
theorem ju{α β:Type}{R:α->β->Prop}:∀{xs:List α}{ys:List β}{i:Nat}{x:α},Paired R xs ys->xs[i]?=a7 x->∃y,ys[i]?=a7 y/\R x y
 |_,_,i,y,.nil,e=>by simp at e
 |_,_,0,y,.cons r _,e=>by simp at e;subst e;exact⟨_,rfl,r⟩
 |_,_,i+1,y,.cons _ t,e=>by obtain⟨x,h1,h2⟩:=ju (i:=i) t (by simpa using e);exact⟨x,by simpa using h1,h2⟩
theorem KSet.fits(S:KSet X ρ H h a n ds o es ep t):t.fits es.size=a9:=by
 have h1:=S.tk.len;have h2:=S.tk.few;rw[u4,D5]at h1;unfold ME;have b:t.fill=t.place.size:=by unfold NZ;rw[S.tk.nod];rfl
 rw[b];simp only[D8,o5,o4];lia
section
variable{X:Cx}{pins:List (c6×c7)}{σ:St}{H:Hp}{ρ:List c6}{M:tx}{A:d8}{E:b7->d9->Prop}{s:d9}{a:c6}{n:Nat}{ds:List D}{o:c7}{es:Array (Int×b7)}{ep:Nat}{t:m8}
theorem Bp(m:u6 X.K ρ M H)(I:p7 X pins σ H s)(f:n<=8)(r:t5 X.K ρ H d v)(g:aN v u)(e:cY n d=a9)(h:Q bt s):∀(l:List b7),(∀y∈l,∃d' v',t5 X.K ρ H d' v'/\aN v' y/\cY n d'=a9)->e8 (f7 X.prog X.w) A (searchCouldBeSeen u l) Q E s:=by intro l j;unfold searchCouldBeSeen;refine p5 ?_;refine KW _ (λaI r s'=>s'=s/\r.1=a8/\∀y∈aI,∃d' v',t5 X.K ρ H d' v'/\aN v' y/\cY n d'=a9) _ ?_ ?_ _ _ ⟨rfl,rfl,j⟩;rintro y aI r' s' ⟨rfl,i,c⟩;have t:∀z∈aI,∃d' v',t5 X.K ρ H d' v'/\aN v' z/\cY n d'=a9:=λz o=>c z<|A2 _ o;obtain⟨d',v',a,b,k⟩:=c y D4;dsimp only;refine Lk (λ_=>p8 ⟨rfl,rfl,t⟩) λ_=>?_;refine p5<|zk m n 8 A _ d v u _ _ f I r g e ?_;simp only[KR,x3,o6];refine p5<|zk m n 8 A _ d' v' y _ _ f I a b k ?_;simp only[KR,x3,o6];refine p5<|JT m n 8 A _ d v u _ _ f I r g e ?_;simp only[x3,o6];refine p5<|JT m n 8 A _ d' v' y _ _ f I a b k ?_;simp only[x3,o6];exact p8 ⟨rfl,rfl,t⟩;rintro⟨a,b⟩ s' ⟨rfl,i,_⟩;simp only at i;subst i;exact p8 h
theorem Bz(sm:u6 X.K ρ M H)(I:p7 X pins σ H s)(hn:n<=8)(hu:A.units+n<j2)(S:KSet X ρ H s.heap a n ds o es ep t)(r:t5 X.K ρ H d v)(rv:aN v u)(F:cY n d=a9)(c:d∈ds->Q (.there a8) s) (bl:N<10*(t.mask+15)) (G:(Ht.sq t.mask (w9 X.w n d) N).j∉t.place.toList) (ai:∀k,k<N->(Ht.sq t.mask (w9 X.w n d) k).j∈t.place.toList)(J:d∉ds->Q (.free (Ht.sq t.mask (w9 X.w n d) N).j bt) s):∀(fuel m:Nat) (stand:Option LO),m<=N->N<m+fuel->stand.getD (t.probeStart<|w9 X.w n d)=Ht.sq t.mask (w9 X.w n d) m->(∀k i:Nat,k<m->t.place[i]?=a7 (Ht.sq t.mask (w9 X.w n d) k).j->ds[i]?≠a7 d) ->e8 (f7 X.prog X.w) A (setSearchFrom a u (w9 X.w n d) a9 fuel stand) Q E s:=by
 intro fuel;induction fuel with
 |zero=>intro m stand h1 h2;lia
 |succ fuel ih =>
  intro m stand h1 h2 hs hb;unfold setSearchFrom;refine p5<|K0 S.ob S.dt S.fits ?_;dsimp only;have gw:t.gaveWay=bt:=by unfold SetTable.gaveWay;rcases S.tk.msk with e|e|e<;>rw[e]<;>rfl
  rw[gw];simp only[x3,o6];rw[hs];rcases Ht.go_spec S.tk.ris S.tk.nod (λi=>(es[i]?.map (·.1)).getD 0) (w9 X.w n d) (10*MF t.mask) m N h1 (by unfold MF;lia) G (λk _ hk=>ai k hk) (Ht.sq_dummy _ _)with⟨z1,z2⟩|⟨m',i,a1,a2,a3,a4,a5,a6⟩
  generalize L:SetTable.probe t _ (w9 X.w n d) (Ht.sq t.mask (w9 X.w n d) m)=pr;obtain rfl:pr=_:=L.symm.trans z2;dsimp only;refine p8<|J λhd=>?_;obtain⟨i,hi⟩:=K9 hd;obtain⟨e,D,_,U,_⟩:=ju S.en hi;have g:es[i]?=a7 e:=by rw[<-F4];exact D
  have hh:(es.toList.map (·.1))[i]?=a7 (w9 X.w n d):=by rw[C8,D];exact o8 a7 U
  have hl:i<t.place.size:=by rw[S.tk.len];exact(w6.mp hh).1
  obtain⟨P,b1,b2⟩:=S.tk.path i _ t.place[i] hh<|G9 hl;have as:P<N:=by rcases NB P N with q|q|q;exact q;subst q;exact o0 (show (Ht.sq t.mask (w9 X.w n d) P).j∈t.place.toList by rw[b1];simp) G;exact o0 (b2 N q) G
  have p:t.place[i]?=a7 (Ht.sq t.mask (w9 X.w n d) P).j:=by rw[b1];exact G9 hl
  rcases Ku P m with q|q;exact hb P i q p hi;refine z1 P i q as p ?_;rw[g];exact U;generalize L:SetTable.probe t _ (w9 X.w n d) (Ht.sq t.mask (w9 X.w n d) m)=pr;obtain rfl:pr=_:=L.symm.trans a6;dsimp only;have an:i<es.size:=by have:=(Lb.mp a3).1;rw[S.tk.len,u4,D5]at this;exact this
  have l:es[i]?=a7 es[i]:=G9 an;obtain⟨x,M7,⟨v0,r0,Y⟩,bk,O,aD⟩:=dU S.en (i:=i) (y:=es[i]) (by rw[F4];exact l);have Z:∀(f:Bool->Sem SetFound),e8 (f7 X.prog X.w) A (f bt) Q E s->e8 (f7 X.prog X.w) A (searchCouldBeSeen u ((es.filter (·.1==w9 X.w n d)).toList.map (·.2)) >>= f) Q E s:=λf hf=>by
   refine p5<|Bp sm I hn r rv F hf _ λy hy=>?_;obtain⟨e,D,rfl⟩:=ve.mp hy;have aj:e∈es.toList:=by
    have:e∈es.filter (·.1==w9 X.w n d):=by simpa using D
    simpa using(Array.mem_filter.mp this).1
   obtain⟨j,hj⟩:=K9 aj;obtain⟨d1,_,⟨v1,r1,be⟩,_,aS,_⟩:=dU S.en hj;exact⟨d1,v1,r1,be,aS⟩
  have B:∃b,es[i].2=ABO b:=by
   cases r0 with
   |tup _ _=>exact⟨_,Y⟩
   |_=>cases aD
  obtain⟨b,B⟩:=B;have V:KF A s es[i].2 u (t4 M n x d):=(kG I sm n A x d v0 v es[i].2 u hu r0 Y r rv (qw n x O)<|qw n d F).1;refine Lk (λ_=>Z _ ?_) λ_=>?_;simp only[x3,o6];rw[l];dsimp only;refine p5<|E5<|V _ _ _ _<|p5<|K0 S.ob S.dt S.fits ?_;dsimp only;by_cases C:t4 M n x d=a9;rw[C];simp only[Bool.and_self,o7];have:x=d:=(iP n x d O F).mp C;subst this;exact p8<|c<|F8 M7;rw[KJ.mpr C];simp only[N4,x3,o6];have T:t.sameMemory t.moves t.mask=a7 a9:=by unfold SetTable.sameMemory;simp
  rw[T];dsimp only;simp only[o7];rw[Ht.slot_live S.tk.ris a3];dsimp only;rw[l];have R:e8 (f7 X.prog X.w) A (isSame es[i].2 es[i].2) (λb s'=>b=a9/\s'=s) E s:=by unfold isSame;rw[B];simp only[p4,o7];exact p8<|And.intro rfl rfl
  refine p5<|I9 R (λb s' ⟨e1,e2⟩=>?_) λ_ _ z=>z;subst e1 e2;refine p5<|p8 ?_;simp only[o7];refine ih (m'+1) _ (by lia) (by lia) rfl λk i' hk p h=>?_;rcases Ku k m with q|q;exact hb k i' q p h;rcases Ku k m' with W|W;refine a5 k i' q W p ?_;obtain⟨e,D,_,U,_⟩:=ju S.en h;have g:es[i']?=a7 e:=by rw[<-F4];exact D
  rw[g];exact U;have:k=m':=by lia
  subst this;have:i'=i:=by rw[<-Ht.below_at S.tk.ris p,Ht.below_at S.tk.ris a3]
  subst this;rw[M7]at h;cases h;exact C<|(iP n d d F F).mpr rfl;rw[l];dsimp only;refine p5<|E5<|V _ _ _ _<|p5<|K0 S.ob S.dt S.fits ?_;dsimp only;by_cases C:t4 M n x d=a9;rw[C];simp only[Bool.and_self,o7];have:x=d:=(iP n x d O F).mp C;subst this;exact p8<|c<|F8 M7;rw[KJ.mpr C];simp only[N4,x3,o6];have T:t.sameMemory t.moves t.mask=a7 a9:=by unfold SetTable.sameMemory;simp
  rw[T];dsimp only;simp only[o7];rw[Ht.slot_live S.tk.ris a3];dsimp only;rw[l];have R:e8 (f7 X.prog X.w) A (isSame es[i].2 es[i].2) (λb s'=>b=a9/\s'=s) E s:=by unfold isSame;rw[B];simp only[p4,o7];exact p8<|And.intro rfl rfl
  refine p5<|I9 R (λb s' ⟨e1,e2⟩=>?_) λ_ _ z=>z;subst e1 e2;refine p5<|p8 ?_;simp only[o7];refine ih (m'+1) _ (by lia) (by lia) rfl λk i' hk p h=>?_;rcases Ku k m with q|q;exact hb k i' q p h;rcases Ku k m' with W|W;refine a5 k i' q W p ?_;obtain⟨e,D,_,U,_⟩:=ju S.en h;have g:es[i']?=a7 e:=by rw[<-F4];exact D
  rw[g];exact U;have:k=m':=by lia
  subst this;have:i'=i:=by rw[<-Ht.below_at S.tk.ris p,Ht.below_at S.tk.ris a3]
  subst this;rw[M7]at h;cases h;exact C<|(iP n d d F F).mpr rfl
end
theorem Paired.ins{α β:Type}{R:α->β->Prop}{x:α}{y:β}(r:R x y):∀{xs:List α}{ys:List β} (p:Nat),Paired R xs ys->Paired R (xs.take p++x::xs.drop p) (ys.take p++y::ys.drop p)
 |_,_,0,h=>by simpa using .cons r h
 |_,_,p+1,.nil=>.cons r .nil
 |_,_,p+1,.cons h t=>.cons h<|Paired.ins r p t
theorem Paired.pick{α β:Type}{R:α->β->Prop}:∀{xs:List α}{ys:List β} (is:List Nat),Paired R xs ys->(∀i∈is,i<xs.length)->Paired R (is.filterMap (xs[·]?)) (is.filterMap (ys[·]?))
 |_,_,[],_,_=>.nil
 |xs,ys,i::is,h,hi=>by have hl:=hi i D4;have e:xs[i]?=a7 xs[i]:=v4 hl;obtain⟨y,hy,r⟩:=ju h e;rw[LX,LX,e,hy];exact .cons r<|Paired.pick is h λj hj=>hi j<|A2 _ hj
theorem pe{α:Type}{l:List α}{is:List Nat}(h:is.Perm (B9 l.length)):(is.filterMap (l[·]?)).Perm l:=by
 have:=h.filterMap (l[·]?)
 rwa [List.filterMap_getElem?_range_length]at this
section
variable{X:Cx}{pins:List (c6×c7)}{σ:St}{H:Hp}{ρ:List c6}{M:tx}{A:d8}{E:b7->d9->Prop}{s:d9}{a:c6}{n:Nat}{ds:List D}{o:c7}{es:Array (Int×b7)}{ep:Nat}{t:m8}
def KS(X:Cx)(ρ:List c6)(H:Hp)(h:c8)(a:c6)(n:Nat)(ds:List D):Prop:=∃o es i t,KSet X ρ H h a n ds o es i t
set_option maxHeartbeats 1000000 in
theorem add_D(sm:u6 X.K ρ M H)(I:p7 X pins σ H s)(hn:n<=8)(hu:A.units+n+1<j2)(S:KS X ρ H s.heap a n ds)(bM:ds.length+1<=64)(r:t5 X.K ρ H d v)(rv:aN v u)(kd:cY n d=a9)(it:gu d=a9)(h:∀b h' tk ds',(∀c u,c≠a->s.heap.get? c=a7 u->h'.get? c=a7 u)->KS X ρ H h' a n ds'->(∀x,x∈ds'↔x∈ds\/x=d)->ds'.length<=ds.length+1->Q b { s with heap:=h',toks:=tk }):e8 (f7 X.prog X.w) A (setAdd a u) Q E s:=by
 obtain⟨o,es,ep,t,S⟩:=S;obtain⟨R,rfl⟩:∃R,u=ABO R:=by
  cases r with
  |tup _ _=>exact⟨_,rv⟩
  |_=>cases it
 unfold setAdd;refine E5<|p5<|Jo sm n A s d v _ _ _ (by lia) I r rv kd λtk=>?_;unfold setAddHashed setAddHashedIn;refine E5<|p5<|K0 (s:={ s with toks:=tk }) S.ob S.dt S.fits ?_;dsimp only;have bs:byScan (.ref R) es=bt:=rfl;rw[bs];simp only[x3,o6];obtain⟨N,ai,aj,an⟩:=S.tk.empty<|w9 X.w n d;have I1:p7 X pins σ H { s with toks:=tk }:=I.tok tk;unfold setSearch;refine p5<|Bz (s:={ s with toks:=tk }) sm I1 hn (by lia) S r rv kd (λhd=>?_) ai aj an (λhd=>?_) 100000 0 a8 (w4 _) ?_ rfl λk i hk=>o0 hk<|Ll _;exact p8<|h _ s.heap tk ds (λ_ _ _ e=>e) ⟨o,es,ep,t,S⟩ (λx=>⟨.inl,λz=>z.elim id λe=>e ▸ hd⟩)<|MA _;dsimp only;refine p5<|K0 (s:={ s with toks:=tk }) S.ob S.dt S.fits ?_;dsimp only;have J:=S.tk.len;rw[u4,D5]at J;have dl:ds.length=es.size:=by have:=Paired.length S.en;simpa using this
 have F:∀O:Bool,e8 (f7 X.prog X.w) A (do
   storeSet a (Oi es (t.put (Ht.sq t.mask (w9 X.w n d) N).j).2 (w9 X.w n d,ABO R)) { (t.put (Ht.sq t.mask (w9 X.w n d) N).j).1 with plain:=O }
   if (!bt&&({ (t.put (Ht.sq t.mask (w9 X.w n d) N).j).1 with plain:=O }:m8).tooFull)=a9 then do
     setRelay a (Me<|es.size+1)
     pure a9
    else pure a9) Q E { s with toks:=tk }:=λO=>by
  obtain⟨pb,T⟩:=Ht.put_pre S.tk aj an O;have G:({ (t.put (Ht.sq t.mask (w9 X.w n d) N).j).1 with plain:=O }:m8).led=t.led:=rfl;have L:({ (t.put (Ht.sq t.mask (w9 X.w n d) N).j).1 with plain:=O }:m8).mask=t.mask:=rfl;generalize ({ (t.put (Ht.sq t.mask (w9 X.w n d) N).j).1 with plain:=O }:m8)=D at T G L;generalize (t.put (Ht.sq t.mask (w9 X.w n d) N).j).2=p at pb T;rw[u4,D5]at pb;have e1:(Oi es p (w9 X.w n d,ABO R)).toList=es.toList.take p++(w9 X.w n d,ABO R)::es.toList.drop p:=SetTable.toList_insertAt ..;generalize Oi es p (w9 X.w n d,ABO R)=f at e1;have be:f.toList.map (·.1)=(es.toList.map (·.1)).take p++w9 X.w n d::(es.toList.map (·.1)).drop p:=by rw[e1,G7,A3,List.map_take,List.map_drop]
  rw[<-be]at T;have C:f.size=es.size+1:=by have:=o8 Km e1;rw[D5,x5,C7,J1,Kx,D5]at this;lia
  have Y:Paired (D6 X ρ H n) (ds.take p++d::ds.drop p) f.toList:=by rw[e1];exact Paired.ins ⟨⟨v,r,rv⟩,rfl,kd,it⟩ p S.en
  have U:(ds.take p++d::ds.drop p).Perm (d::ds):=by refine List.perm_middle.trans<|N1 d ?_;rw[List.take_append_drop]
  have as:(ds.take p++d::ds.drop p).Nodup:=U.nodup_iff.mpr<|Kp.mpr ⟨hd,S.nd⟩;have Z:D.fits f.size=a9:=by
   have l1:=T.len;rw[u4,D5]at l1;have h3:D.fill=D.place.size:=by unfold NZ;rw[T.nod];rfl
   have fw:=S.tk.few;unfold ME;rw[h3];simp only[D8,o5,o4];rw[J]at fw;rcases S.tk.msk with e|e|e<;>rw[L,e]<;>rw[e]at fw<;>lia
  have zz:f.size<=sizeLine:=by rw[Lh];lia
  refine p5<|wpAny_storeSet_of (s:={ s with toks:=tk }) S.ob S.dt ?_ zz;have B:(s.heap.update a<|My f D).get? a=a7 { o with data:=.set f (ep+1) D }:=by
   have q:=Kk (My f D) S.ob<|by rw[putSet_of f D S.dt];rfl
   rwa [putSet_of f D S.dt]at q
  have aD:∀c u,c≠a->s.heap.get? c=a7 u->(s.heap.update a<|My f D).get? c=a7 u:=λc u hc e=>(MP _ _<|C3 hc).trans e;by_cases tf:D.tooFull=a9;rw[tf];simp only[Bool.not_false,Bool.and_self,o7];have aS:((f.toList.map (·.1)).length-1)*5<D.mask*3:=by have fw:=S.tk.few;rw[J]at fw;rw[u4,D5,C,L];simpa using fw
  obtain⟨zl,W,m,g1,g2,T2,bk⟩:=T.anew tf aS (by rw[u4,D5];lia);rw[u4,D5]at g2 zl;have eg:Me (es.size+1)=Me (f.toList.map (·.1)).length:=by rw[u4,D5,C]
  unfold setRelay;refine p5<|p5<|K0 (s:={ s with heap:=_,toks:=tk }) B rfl Z ?_;dsimp only;rw[eg];have nz:¬O1 (Me (f.toList.map (·.1)).length) > sizeLine:=by rw[u4,D5];lia
  simp only[nz,o6];have ea:f.map (·.1)=(f.toList.map (·.1)).toArray:=by apply Array.ext';simp
  rw[ea,g1];have y:(m.filterMap (f[·]?)).toList=m.toList.filterMap (f.toList[·]?):=by rw[Array.toList_filterMap];congr 1;funext i;rw[F4]
  have V:(m.filterMap (f[·]?)).size=f.size:=by have:=(pe (l:=f.toList) (is:=m.toList)<|by rw[D5];exact g2).length_eq;rw[<-y,D5,D5]at this;exact this
  refine p5 (show e8 (f7 X.prog X.w) A (if ((m.filterMap (f[·]?)).size != f.size)=a9 then _ else pure (m.filterMap (f[·]?),W)) _ _ _ from ?_);rw[n9<|by rw[V];simp];refine p8 ?_;generalize m.filterMap (f[·]?)=g at y V;have P:(m.toList.filterMap ((ds.take p++d::ds.drop p)[·]?)).Perm (ds.take p++d::ds.drop p):=pe (by
   have:(ds.take p++d::ds.drop p).length=f.size:=by rw[U.length_eq,C7,dl,C]
   rw[this];exact g2)
  refine wpAny_storeSet_of (s:={ s with heap:=_,toks:=tk }) B rfl ?_ (by rw[V];exact zz);have bl:((s.heap.update a<|My f D).update a<|My g W).get? a=a7 { o with data:=.set g (ep+1+1) W }:=by
   have q:=Kk (My g W) B<|by rw[putSet_of g W (es:=f) (ep:=ep+1) (t:=D) rfl];rfl
   rwa [putSet_of g W (es:=f) (ep:=ep+1) (t:=D) rfl]at q
  refine p8 (h _ _ tk (m.toList.filterMap ((ds.take p++d::ds.drop p)[·]?)) (λc u hc e=>(MP _ _<|C3 hc).trans<|aD c u hc e) ⟨_,g,_,W,bl,S.ex,rfl,?_,P.nodup_iff.mpr as,?_,bk.trans<|G.trans S.ld⟩ (λx=>?_) ?_);rw[y];refine Paired.pick _ Y λi hi=>?_;have:=g2.mem_iff.mp hi;rw[F7]at this;rw[U.length_eq,C7,dl,<-C];exact this;have e2:g.toList.map (·.1)=m.toList.map λi=>(f.toList.map (·.1)).getD i 0:=by
   rw[y];have:∀(is:List Nat),(∀i∈is,i<f.toList.length)->(is.filterMap (f.toList[·]?)).map (·.1)=is.map λi=>(f.toList.map (·.1)).getD i 0:=by
    intro is;induction is with
    |nil=>intro _;rfl
    |cons i is ih=>intro hi;have hl:=hi i D4;rw[LX,v4 hl,A3,A3,ih λj hj=>hi j<|A2 _ hj];congr 1;rw[Ke,C8,v4 hl];rfl
   refine this _ λi hi=>?_;have:=g2.mem_iff.mp hi;rw[F7]at this;rw[D5];exact this
  rw[e2];exact T2;rw[P.mem_iff,U.mem_iff,z5];exact⟨λz=>z.symm,λz=>z.symm⟩;rw[P.length_eq,U.length_eq];exact u5 _;rw[KJ.mpr tf];simp only[N4,x3,o6];refine p8<|h _ _ tk _ aD ⟨_,f,_,D,B,S.ex,rfl,Y,as,T.ok<|KJ.mpr tf,G.trans S.ld⟩ (λx=>?_) ?_;rw[U.mem_iff,z5];exact⟨λz=>z.symm,λz=>z.symm⟩;rw[U.length_eq];exact u5 _
 refine Lk (λ_=>p5<|hbv_D sm n 8 A _ d v _ _ _ hn I1 r rv kd λb=>?_) λ_=>?_;cases b with
 |true=>exact F (t.put (Ht.sq t.mask (w9 X.w n d) N).j).1.plain
 |false=>exact F bt
 exact F (t.put (Ht.sq t.mask (w9 X.w n d) N).j).1.plain;have:=ai;rcases S.tk.msk with e|e|e<;>rw[e]at this<;>lia
end
section
variable{X:Cx}{pins:List (c6×c7)}{σ:St}{H:Hp}{ρ:List c6}{M:tx}{A:d8}{E:b7->d9->Prop}{s:d9}{n:Nat}
theorem KS.at(x:KS X ρ H h a n ds)(k:∀o,h.get? a=a7 o->h'.get? a=a7 o):KS X ρ H h' a n ds:=by obtain⟨o,es,i,t,S⟩:=x;exact⟨o,es,i,t,k _ S.ob,S.ex,S.dt,S.en,S.nd,S.tk,S.ld⟩
theorem Ft(sm:u6 X.K ρ M H)(I:p7 X pins σ H s)(hn:n<=8)(hu:A.units+n+2<j2)(W:Walks X.prog X.w A.in1 J fp wr m P Sx)(S:c6)(f:S∉fp)(G:s.heap.get? S=a8) (B:∀b∈wr,s.heap.get? b=a8) (l:Nat->D) (y:∀i v,P i v->∃vv,t5 X.K ρ H (l i) vv/\aN vv v/\cY n (l i)=a9/\gu (l i)=a9) (hb:m<=63):∀(k i:Nat) (h:c8) (tk:Nat) (ds:List D),m-i=k->i<=m->Sx i h->KS X ρ H h S n ds->(∀x,x∈ds↔∃j,j<i/\l j=x)->ds.length<=i->(∀b u,s.heap.get? b=a7 u->h.get? b=a7 u) ->(∀h' tk ds',(∀b u,s.heap.get? b=a7 u->h'.get? b=a7 u)->KS X ρ H h' S n ds'->(∀x,x∈ds'↔∃j,j<m/\l j=x)->ds'.length<=m->R (.ok<|.ret .none) { s with heap:=h',toks:=tk }) ->j4 (f7 X.prog X.w) A (.builtin "set.update.loop" ⟨[.ref S,.ref J],[]⟩) R { s with heap:=h,toks:=tk }:=by
 have g:S∉wr:=λh=>f<|W.sub _ h;intro k;induction k with
 |zero =>
  intro i h tk ds hk hi t E O U a Z;obtain rfl:i=m:=by lia
  refine LQ F.entry_set_update_loop ?_;rw[Ms F.plain_set_update_loop _];refine(show e8 (f7 X.prog X.w) A.in1 (i4 (.ref J) >>= _) _ _ _ from p5<|W.done _ _ _ t λh' tk d=>?_);refine p8<|Z h' tk ds (λb u e=>d b u (λz=>by rw[B b z]at e;cases e)<|a b u e) (E.at λo e=>d S o g e) O U
 |succ k ih=>intro i h tk ds hk hi t E O U a Z;refine LQ F.entry_set_update_loop ?_;rw[Ms F.plain_set_update_loop _];refine(show e8 (f7 X.prog X.w) A.in1 (i4 (.ref J) >>= _) _ _ _ from p5<|W.item i _ _ _ (by lia) t λv h' tk hP p d=>?_);obtain⟨vv,r,rv,kd,it⟩:=y i v hP;have c:∀b u,s.heap.get? b=a7 u->h'.get? b=a7 u:=λb u e=>d b u (λz=>by rw[B b z]at e;cases e)<|a b u e;have Y:p7 X pins σ H { s with heap:=h',toks:=tk }:=I.kept c;refine p5<|E5<|add_D (s:={ s with heap:=h',toks:=tk }) sm Y hn (by show A.units+1+n+1<j2;lia) (E.at λo e=>d S o g e) (by lia) r rv kd it λb h2 T C V L Q ai=>?_;refine p8 ⟨Md F.plain_set_update_loop _,ih (i+1) h2 T C (by lia) (by lia) (W.frame _ h' h2 p λb' N o e=>V b' o (λz=>f<|z ▸ N) e) L (λx=>?_) (by lia) (λb u e=>V b u (λz=>by rw[z,G]at e;cases e)<|c b u e) Z⟩;rw[Q,O];constructor;rintro(⟨j,hj,e⟩|rfl);exact⟨j,by lia,e⟩;exact⟨i,by lia,rfl⟩;rintro⟨j,hj,rfl⟩;by_cases q:j=i;subst q;exact .inr rfl;exact .inl ⟨j,by lia,rfl⟩
theorem Cn(e:h.get? a=a7 (bf X.w)):KS X ρ H h a n []:=⟨_,#[],0,_,e,⟨rfl,rfl,rfl⟩,rfl,.nil,Nr,⟨.inl rfl,rfl,rfl,Ol,λj L=>by simp[SetTable.fresh]at L,(by show 0*5<7*3;decide),λi h j b=>by simp at b⟩,rfl⟩
end
section
variable{X:Cx}{pins:List (c6×c7)}{σ:St}{H:Hp}{ρ:List c6}{M:tx}{A:d8}{E:b7->d9->Prop}{s:d9}{m:Nat}
theorem FK(Z:u6 X.K ρ M H)(I:p7 X pins σ H s)(B:m<=8)(hu:A.units+m+3<j2){l:c6}{T:String}{n:Nat}{P:Nat->b7->Prop}{G:d9->Prop}(O:A.handled=a8)(K:TxSrc X.prog X.w s.heap l T n P)(a:Nat->D)(y:∀i v,P i v->∃vv,t5 X.K ρ H (a i) vv/\aN vv v/\cY m (a i)=a9/\gu (a i)=a9)(N:n<=63)(h:∀h' tk ds,(∀b o,s.heap.get? b=a7 o->h'.get? b=a7 o)->KS X ρ H h' s.heap.objs.size m ds->(∀x,x∈ds↔∃j,j<n/\a j=x)->ds.length<=n->G { s with heap:=h',toks:=tk }):e8 (f7 X.prog X.w) A (Builtin.«set.__init__» ⟨[.ref s.heap.objs.size,.ref l],[]⟩) (λfin s'=>fin=.done (.ret .none)/\G s') E { s with heap:=s.heap.push (bf X.w) }:=by
 have S:(s.heap.push<|bf X.w).get? s.heap.objs.size=a7 (bf X.w):=A8 _ rfl;have hT:Np { s with heap:=s.heap.push (bf X.w) } (.ref s.heap.objs.size) "set":=⟨_,S,rfl⟩
 obtain⟨F,f,r⟩:=K.obj;have c:(s.heap.push<|bf X.w).get? l=a7 F:=v7 _ f;have L:Np { s with heap:=s.heap.push (bf X.w) } (.ref l) T:=⟨F,c,r⟩
 have Y:l<s.heap.objs.size:=v9 f;have J:(s.heap.push<|bf X.w).objs.size=s.heap.objs.size+1:=KI ..;obtain⟨oI,St,t,W,st⟩:=K.iter A.in1 { s with heap:=s.heap.push (bf X.w) } O λo e=>v7 _ e;have ns:=K.ns;have nf:=K.nf;have nd:=K.nd;unfold Builtin.«set.__init__» noKeywords Builtin.Frozenset.updateFrom;generalize d:i6=PI
 wp_walk
 subst d;refine wpAny_of_in1<|t _ _ ?_;have k:s.heap.objs.size∉[(s.heap.push<|bf X.w).objs.size,l]:=by rw[J];simp only[z5,List.not_mem_nil,or_false,not_or];exact⟨x6<|Kh _,Nat.ne_of_gt Y⟩
 have g:s.heap.get? s.heap.objs.size=a8:=by
  cases q:s.heap.get? s.heap.objs.size with
  |none=>rfl
  |some o=>exact o0 (v9 q)<|G5 _
 have C:∀b∈[(s.heap.push<|bf X.w).objs.size],s.heap.get? b=a8:=λb p=>by
  rw[J3.mp p,J];cases q:s.heap.get? (s.heap.objs.size+1) with
  |none=>rfl
  |some o=>exact o0 (v9 q)<|Lf.mpr<|MA _
 refine p5<|wpAny_runValue<|Ft (s:=s) Z I B (by first|exact(show A.units+m+2<j2 by lia)|exact(show A.units+1+m+2<j2 by lia)) W s.heap.objs.size k g C a y N n 0 _ _ [] rfl (w4 _) st (Cn<|v7 _ S) (λx=>by simp) (u5 _) (λb u e=>v7 _<|v7 _ e) λh' tk V Q z U R=>?_;exact p8<|p8 ⟨rfl,h h' tk V Q z U R⟩
set_option maxHeartbeats 1000000 in
theorem Gr(C:u6 X.K ρ M H)(I:p7 X pins σ H s)(B:m<=8)(Z:A.units+m+20<j2){l:c6}{T:String}{n:Nat}{P:Nat->b7->Prop}{Q:b7->d9->Prop}(t:A.handled=a8)(K:TxSrc X.prog X.w s.heap l T n P)(a:Nat->D)(y:∀i v,P i v->∃vv,t5 X.K ρ H (a i) vv/\aN vv v/\cY m (a i)=a9/\gu (a i)=a9)(p:n<=63)(h:∀h' tk ds,(∀b o,s.heap.get? b=a7 o->h'.get? b=a7 o)->KS X ρ H h' s.heap.objs.size m ds->(∀x,x∈ds↔∃j,j<n/\a j=x)->ds.length<=n->Q (.ref s.heap.objs.size) { s with heap:=h',toks:=tk }):e8 (f7 X.prog X.w) A (call (.type "set") [.ref l]) Q E s:=by
 have O:=F.called_set.made;have W:=F.called_set.sub;have U:=F.called_set.notType;have L:=F.called_set.canCreate;have Y:=F.typeCall_set_1<|.ref l;obtain⟨c,tl,V⟩:=F.called_set.mro;refine wpAny_call<|codeAny_of_tree<|show e8 _ _ (callAny (.type "set") _) _ _ _ from p8 ⟨Code.quiet_builtin _ (by decide +kernel),LQ F.entry_type_call ?_⟩;rw[Around.under_plain (weight_type_call_type "set" [.ref l] []) rfl]
 repeat (any_goals (first|assumption|wp_step))
 refine MD (vL (.ref l) (E:=E) (Q₁:=λobj s₁=>obj=.ref s.heap.objs.size/\s₁={ s with heap:=s.heap.push (bf X.w) }) ⟨rfl,rfl⟩) λr s₁ hr=>?_
 match r,hr with
 |.error e,hr=>exact hr
 |.ok (.ret obj),⟨e1,e2⟩ =>
  subst e1 e2;have S:(s.heap.push<|bf X.w).get? s.heap.objs.size=a7 (bf X.w):=A8 _ rfl;have k:Np { s with heap:=s.heap.push (bf X.w) } (.ref s.heap.objs.size) "set":=⟨_,S,rfl⟩
  have N:=F.called_set.init.lookup;have J:=F.called_set.init.bind<|.ref s.heap.objs.size
  repeat (any_goals (first|assumption|wp_step))
  refine MD (codeAny_call_builtin (R:=wants (λr s₂=>r=.none/\Q (.ref s.heap.objs.size) s₂) E) F.called_set.init.plain F.entry_set_init<|check_set_init_1 k ?_) λd s₂ hr₂=>?_;refine I9 (FK (G:=λu=>Q (.ref s.heap.objs.size) u) C I B (by first|(show A.units+1+1+1+m+3<j2;lia)|(show A.units+1+1+m+3<j2;lia)|(show A.units+1+m+3<j2;lia)) (by simp[t]) K a y p h) (λf s' ⟨e,g⟩=>?_) λ_ _ z=>z;subst e;exact⟨rfl,g⟩
  ·match d,hr₂ with
   |.error e,hr₂=>exact hr₂
   |.ok (.ret r),⟨e,q⟩ =>
    subst e
    repeat (any_goals (first|assumption|wp_step))
end
def SqAt(M:tx)(d:D)(xs:List D):Prop:=(∃n,d=.ref n/\al M n xs)\/d=.tup xs
theorem SrtOk.sub(h:SrtOk M xs)(s:∀y∈ys,y∈xs)(l:ys.length<64):SrtOk M ys:=by refine⟨l,λx a=>h.ok x<|s x a,λx a y Q=>h.cm x (s x a) y<|s y Q,?_⟩;rcases h.kd with k|k|k|k|k;exact .inl λx a=>k x<|s x a;exact .inr<|.inl λx a=>k x<|s x a;exact .inr<|.inr<|.inl λx a=>k x<|s x a;exact .inr<|.inr<|.inr<|.inl λx a=>k x<|s x a;exact .inr<|.inr<|.inr<|.inr λx a=>k x<|s x a
section
variable{X:Cx}{e:f6}{te:u8}{p p' pos pos':f8}{k:Nat}
theorem GY(I:p7 X pins σ H s)(e:u6 X.K ρ M H)(r:t5 X.K ρ H d v)(b:aN v u)(t:SqAt M d xs):∃(a:c6) (T:String) (its:Array b7) (vs:List V),u=.ref a/\TxSrc X.prog X.w s.heap a T its.size (λi v=>its[i]?=a7 v)/\Reps X.K ρ H xs vs/\aw vs its.toList:=by
 rcases t with⟨n,rfl,h⟩|rfl;cases r with
 |@ref _ a c=>cases b;obtain⟨vs,hs,f⟩:=h.seq e c;obtain⟨its,m,p,_⟩:=I.list hs;exact⟨a,_,its.toArray,vs,rfl,TxSrc.list p.isList,f,by simpa using m⟩
 cases r with
 |@tup a vs _ hs f=>cases b;obtain⟨its,m,p,_⟩:=I.tuple hs;exact⟨a,_,its.toArray,vs,rfl,TxSrc.tuple p,f,by simpa using m⟩
theorem uE:∀{ds:List D}{vs:List V}{its:List b7}{i:Nat}{u:b7}{ρ:List c6}{H:Hp},Reps X.K ρ H ds vs->aw vs its->its[i]?=a7 u->∃d v,ds[i]?=a7 d/\t5 X.K ρ H d v/\aN v u
 |_,_,_,i,u,_,_,.nil,h,e=>by cases h;simp at e
 |_,_,_,0,u,_,_,.cons r _,h,e=>by
  cases h with
  |cons a _=>simp at e;subst e;exact⟨_,_,rfl,r,a⟩
 |_,_,_,i+1,u,_,_,.cons _ t,h,e=>by
  cases h with
  |cons _ b=>obtain⟨d,v,e1,r,rv⟩:=uE (i:=i) t b (by simpa using e);exact⟨d,v,by simpa using e1,r,rv⟩
theorem ents:∀{ds:List D}{es:List (Int×b7)},Paired (D6 X ρ H n) ds es->∃vs,Reps X.K ρ H ds vs/\aw vs (es.map (·.2))
 |_,_,.nil=>⟨[],.nil,.nil⟩
 |_,_,.cons ⟨⟨v,r,rv⟩,_⟩ t=>by obtain⟨vs,a,b⟩:=ents t;exact⟨v::vs,.cons r a,.cons rv b⟩
theorem zt(p:us'.Perm us):∀{ds:List D}{vs:List V},Reps X.K ρ H ds vs->aw vs us->∃ds' vs',ds'.Perm ds/\Reps X.K ρ H ds' vs'/\aw vs' us':=by
 induction p with
 |nil=>intro ds vs r h;exact⟨ds,vs,.refl _,r,h⟩
 |cons x _ o =>
  intro ds vs r h;cases h with
  |cons a b =>
   cases r with
   |cons c d=>obtain⟨ds',vs',h1,h2,e⟩:=o d b;exact⟨_,_,h1.cons _,.cons c h2,.cons a e⟩
 |swap x y l =>
  intro ds vs r h;cases h with
  |cons a b =>
   cases b with
   |cons g j =>
    cases r with
    |cons c d =>
     cases d with
     |cons k m=>exact⟨_,_,.swap _ _ _,.cons k<|.cons c m,.cons g<|.cons a j⟩
 |trans _ _ i f=>intro ds vs r h;obtain⟨ds',vs',h1,h2,e⟩:=f r h;obtain⟨C,v,g1,n,g3⟩:=i h2 e;exact⟨C,v,g1.trans h1,n,g3⟩
end
def gx(te:u8):u8:=λS M Q=>te S M λd a=>∃n xs,n<=8/\SqAt a d xs/\xs.length<64/\(∀x∈xs,cY n x=a9/\gu x=a9)/\SrtOk a xs/\∀ys:List D,ys.Nodup->(∀x,x∈ys↔x∈xs)->Gz a ys->Q (.ref a.length) (a++[.lst ys])
section
variable{X:Cx}{e:f6}{te:u8}{p p' pos pos':f8}{k:Nat}
set_option maxHeartbeats 1000000 in
theorem yh(hr:Room k X.A)(hc:X.calm=a9)(he:DE X e te)(Y:X.mg "sorted" = a8)(Z:X.mg "set" = a8)(U:X.env.kindOf "sorted" = a7 .globalImplicit)(V:X.env.kindOf "set" = a7 .globalImplicit)(h1:ge [e] X.env=[(bt,eval e X.env)]) (h2:ge [Expr.Call (.Name "set" p') [e] [] pos'] X.env=[(bt,eval (Expr.Call (.Name "set" p') [e] [] pos') X.env)]):DE X (.Call (.Name "sorted" p) [.Call (.Name "set" p') [e] [] pos'] [] pos) (gx te):=by
 rintro pins s σ H R I ⟨S,M,ρ,Q,sm,sr,q,kk⟩;refine ND<|nu I U Y (by rfl) ?_;refine callWith_builtin1 ?_ (by rw[h2];rfl) rfl;rw[h2];refine O2 ?_;refine ND<|nu I V Z (by rfl) ?_;refine callWith_type1 ?_ (by rw[h1];rfl) rfl;rw[h1];refine O2<|u9 (he pins s σ H _ I ⟨S,M,ρ,_,sm,sr,q,λv H' z=>z⟩) ?_;rintro u s1 ⟨v,H1,B,rv,d,M1,cd,c,g1,r1,cases⟩;refine Calls.spliced_nil ?_;obtain⟨n,xs,n8,sq,hl,hk,so,J⟩:=cases;obtain⟨a,T,its,ws,rfl,src,w,vx⟩:=GY B c r1 rv sq;have li:its.size=xs.length:=by have h1:=vx.length;have h2:=w.length;simp at h1;lia
 have un:=hr.un;refine Gr c B n8 (by lia) (B.ok.hd hc) src (λi=>xs.getD i .non) (λi v e=>?_) (by lia) λh2 f ds k2 l W bk=>?_;obtain⟨d,vv,e1,r,rv⟩:=uE w vx (by rw[F4];exact e);have G:xs.getD i .non=d:=by rw[Ke,e1];rfl
 have:=hk d<|F8 e1;exact⟨vv,by rw[G];exact r,rv,by rw[G];exact this.1,by rw[G];exact this.2⟩;refine Calls.spliced_nil ?_;have E:=B.kept (t':=f) k2;obtain⟨o,es,ep,t,K⟩:=l;have bl:ds.length=es.size:=by have:=K.en.length;simpa using this
 have hz:es.size<=sizeLine:=by rw[Lh];lia
 refine xy (s:={ s1 with heap:=h2,toks:=f }) (E.ok.hd hc) ⟨K.ob,K.dt,K.fits⟩ K.ex.1 (λz=>.inr K.tk.ris) K.ld hz λh3 bs dr D vs k3 N O pv=>?_;have h:∀x,x∈ds↔x∈xs:=λx=>by
  rw[W x,li];constructor;rintro⟨j,L,rfl⟩;have e:xs.getD j .non=xs[j]:=by simp[L8,L]
  rw[e];exact KY L;intro hx;obtain⟨j,L,e⟩:=List.getElem_of_mem hx;exact⟨j,L,by rw[show xs.getD j .non=xs[j] by simp[L8,L]];exact e⟩
 obtain⟨bS,an,aD⟩:=ents K.en;obtain⟨ds',bM,C,as,aS⟩:=zt pv an aD;obtain⟨m,hn,_⟩:=E.loc;have P:D≠X.env.locals:=λz=>by obtain⟨oL,_,_,hL,_⟩:=hn;rw[z]at N;rw[N]at hL;cases hL
 have ai:h3.Ns X.env.locals m:=hn.at' λo e=>k3 _ _ e;refine Em (X:=X) (pins:=pins) (σ:=σ) (s:={ s1 with heap:=h2,toks:=f,drawn:=dr }) (n:=0) hr (by show X.A.units+1<=X.A.units+4;lia) E.drew c (so.sub (ys:=ds') (λy hy=>(h y).mp<|C.mem_iff.mp hy)<|by rw[C.length_eq];lia).g as aS hn ai (λb u _ e=>k3 b u e) N P O λv H' x=>?_;refine kk v H' ?_;have:=x (λd F=>Q d F) λys hp aj=>?_;obtain⟨d,F,be,a1,a2,a3,a4⟩:=this;exact⟨d,F,be,a1,g1.trans a2,a3,a4⟩;exact J ys ((hp.trans C).nodup_iff.mpr K.nd) (λx=>((hp.trans C).mem_iff).trans<|h x) aj
theorem xZ(r:Room k X.A)(i:HE X e te)(Y:X.mg "sorted" = a8)(Q:X.mg "set" = a8)(f:X.calm=a9:=by kernel_rfl)(U:X.env.kindOf "sorted" = a7 .globalImplicit:=by kernel_rfl)(V:X.env.kindOf "set" = a7 .globalImplicit:=by kernel_rfl)(h1:ge [e] X.env=[(bt,eval e X.env)]:=by kernel_rfl) (h2:ge [Expr.Call (.Name "set" p') [e] [] pos'] X.env=[(bt,eval (Expr.Call (.Name "set" p') [e] [] pos') X.env)]:=by kernel_rfl):HE X (.Call (.Name "sorted" p) [.Call (.Name "set" p') [e] [] pos'] [] pos) (gx te):=⟨yh r f i.ok Y Q U V h1 h2⟩
end
def fS(h:c8):Nat->D->b7->Prop
 |_,.str x,v=>∃t,v=.str x t
 |_,.int i,v=>∃t,v=.int i t
 |n+1,.tup ds,v=>∃a its,v=.ref a/\h.IsTuple a its/\Paired (fS h n) ds its.toList
 |_,_,_=>False
noncomputable def M8:Nat->D->Nat
 |n+1,.tup ds=>(ds.map<|M8 n).sum+1
 |_,_=>1
theorem jA:∀(n:Nat) (d:D) (v:b7),fS h n d v->cY n d=a9:=by
 intro n;induction n with
 |zero=>intro d v k;cases d<;>first|rfl|exact k.elim
 |succ n b =>
  intro d v k;cases d with
  |str x=>rfl
  |int x=>rfl
  |tup ds =>
   obtain⟨a,its,_,_,p⟩:=k;show ds.all (cY n)=a9;generalize its.toList=l at p;induction p with
   |nil=>rfl
   |cons r _ i=>rw[Kv,b _ _ r,i];rfl
  |_=>exact k.elim
theorem vA{h:c8}{a:c6}{xs ys:Array b7}(h1:h.IsTuple a xs)(h2:h.IsTuple a ys):xs=ys:=by obtain⟨o,t,_,n,d⟩:=h1;obtain⟨o',m,_,f,b⟩:=h2;obtain rfl:o=o':=C4<|t.symm.trans m;rw[d]at b;injection b
theorem ny{h:c8}:∀(n:Nat) (x y:D) (v:b7),fS h n x v->fS h n y v->x=y:=by
 intro n;induction n with
 |zero =>
  intro x y v k C;cases x with
  |str a =>
   obtain⟨t,rfl⟩:=k;cases y with
   |str b=>obtain⟨t',e⟩:=C;injection e with e;rw[e]
   |int b=>obtain⟨t',e⟩:=C;cases e
   |_=>exact C.elim
  |int a =>
   obtain⟨t,rfl⟩:=k;cases y with
   |str b=>obtain⟨t',e⟩:=C;cases e
   |int b=>obtain⟨t',e⟩:=C;injection e with e;rw[e]
   |_=>exact C.elim
  |_=>exact k.elim
 |succ n d =>
  intro x y v k C;cases x with
  |str a =>
   obtain⟨t,rfl⟩:=k;cases y with
   |str b=>obtain⟨t',e⟩:=C;injection e with e;rw[e]
   |int b=>obtain⟨t',e⟩:=C;cases e
   |tup b=>obtain⟨_,_,e,_⟩:=C;cases e
   |_=>exact C.elim
  |int a =>
   obtain⟨t,rfl⟩:=k;cases y with
   |str b=>obtain⟨t',e⟩:=C;cases e
   |int b=>obtain⟨t',e⟩:=C;injection e with e;rw[e]
   |tup b=>obtain⟨_,_,e,_⟩:=C;cases e
   |_=>exact C.elim
  |tup xs =>
   obtain⟨a,its,rfl,f,g⟩:=k;cases y with
   |str b=>obtain⟨t',e⟩:=C;cases e
   |int b=>obtain⟨t',e⟩:=C;cases e
   |tup ys =>
    obtain⟨_,i,e,E,j⟩:=C;cases e;obtain rfl:=vA f E;congr 1;generalize its.toList=l at g j;induction g generalizing ys with
    |nil=>cases j;rfl
    |cons r _ c=>cases j with
     |cons r' t'=>rw[d _ _ _ r r',c _ t']
   |_=>exact C.elim
  |_=>exact k.elim
theorem xY(k:∀a its,h.IsTuple a its->h'.IsTuple a its):∀(n:Nat) (d:D) (v:b7),fS h n d v->fS h' n d v:=by
 intro n;induction n with
 |zero=>intro d v q;cases d<;>first|exact q|exact q.elim
 |succ n i =>
  intro d v q;cases d with
  |str x=>exact q
  |int x=>exact q
  |tup ds=>obtain⟨a,its,e,t,p⟩:=q;exact⟨a,its,e,k _ _ t,Paired.mapP p λx y r=>i x y r⟩
  |_=>exact q.elim
theorem vq{es ep}(q:fS h n k v)(D:h.get? d=a7 o)(f:o.data=.dict es ep)(hs:KQ d h h'):fS h' n k v:=by
 refine xY (λa its ⟨o',e,c,m,t⟩=>?_) n k v q;have b:a≠d:=by rintro rfl;obtain rfl:o'=o:=C4<|e.symm.trans D;rw[f]at t;cases t
 exact⟨o',(hs.2 a b).trans e,c,m,t⟩
section
variable{prog:c5}{w:b9}
theorem pq:∀(n:Nat) (A:d8) (s:d9) (d:D) (u:b7) (E:b7->d9->Prop) (Q:Int->d9->Prop),A.units+n<j2->fS s.heap n d u ->Q (w9 w n d) { s with toks:=s.toks+M8 n d }->e8 (f7 prog w) A (pyHash u) Q E s:=by
 intro n;induction n with
 |zero =>
  intro A s d u E Q q k h;cases d with
  |str x=>obtain⟨t,rfl⟩:=k;exact Nw h
  |int x=>obtain⟨t,rfl⟩:=k;exact Nx h
  |_=>exact k.elim
 |succ n v =>
  intro A s d u E Q q k h;cases d with
  |str x=>obtain⟨t,rfl⟩:=k;exact Nw h
  |int x=>obtain⟨t,rfl⟩:=k;exact Nx h
  |tup ds =>
   obtain⟨a,its,rfl,⟨o,i,j,R,m⟩,p⟩:=k;have T:s.TypeIs (.ref a) "tuple":=⟨o,i,j⟩
   unfold pyHash
   first|unfold pyHashByItsType|skip
   first|refine p5 (wpAny_cRoomFor_or (.inr<|by lia) ?_)|skip
   refine p5<|Ly T F.slot_tuple_hash.lookup ?_;refine(show e8 (f7 prog w) _ (if (a7 (Value.builtin "tuple.__hash__")==a7 ABr)=a9 then _ else _) Q E s from ?_);rw[n9<|by rw[beq_builtin_none];exact Ln];refine p5<|Ly T F.slot_tuple_hash.lookup ?_;refine(show e8 (f7 prog w) _ (callSpecialIfBoundUnlessNone? (.ref a) "__hash__" _ >>= _) Q E s from p5<|Pw T F.slot_tuple_hash<|J0 F.slot_tuple_hash T F.entry_tuple_hash ?_<|F.args_tuple_hash_1 _);refine(show e8 (f7 prog w) _ (OI (.ref a) >>= _) _ _ s from p5<|wpAny_tupleItemsOf i m<|p5 ?_);rw[<-MK];refine KW _ (λaI (b:Array Int) s'=>∃done left,ds=done++left/\Paired (fS s.heap n) left aI/\b.toList=done.map (w9 w n)/\s'={ s with toks:=s.toks+(done.map<|M8 n).sum }) _ ?_ ?_ _ _ ⟨[],ds,rfl,p,rfl,rfl⟩;rintro x aI b s' ⟨done,left,e,h1,f,rfl⟩;cases h1 with
   |@cons g _ c _ U J =>
    refine p5<|v _ _ g x _ _ (by show A.units+1+n<j2;lia) U ?_
    first
     |exact p8 ⟨done++[g],c,by rw[e];simp,J,by simp[f],by simp[Nat.add_assoc]⟩
     |exact p5 (p8 (p8 ⟨done++[g],c,by rw[e];simp,J,by simp[f],by simp[Nat.add_assoc]⟩))
   rintro b s' ⟨done,left,e,h1,f,rfl⟩;cases h1;rw[K7]at e;subst e;refine(show e8 (f7 prog w) _ (retInt<|Mv b.toList) _ _ _ from ?_);rw[f];refine wpAny_ret_mkInt ?_;have l:w9 w (n+1) (.tup ds)=m5 (Mv<|ds.map<|w9 w n):=rfl;have h':Q (w9 w (n+1)<|.tup ds) { s with toks:=s.toks+(ds.map<|M8 n).sum+1 }:=h;generalize Mv (ds.map<|w9 w n)=z at l;refine(show e8 (f7 prog w) _ (if (decide (-(2:Int) ^ 63<=z)&&decide (z<2 ^ 63))=a9 then _ else _) Q E _ from ?_);unfold m5 at l;by_cases r:(decide (-(2:Int) ^ 63<=z)&&decide (z<2 ^ 63))=a9;rw[n6 r]at l ⊢;exact p8 (by rw[<-l];exact h');rw[n9 r]at l ⊢;exact p5<|Kg<|p8<|by rw[<-l];exact h'
  |_=>exact k.elim
theorem nw:∀(n k:Nat) (A:d8) (s:d9) (d:D) (u:b7) (E:b7->d9->Prop) (Q:Bool->d9->Prop),n<=k->fS s.heap n d u->Q a9 s->e8 (f7 prog w) A (np k u) Q E s:=by
 intro n;induction n with
 |zero =>
  intro k A s d u E Q e q h;cases d with
  |str x=>obtain⟨t,rfl⟩:=q;rw[LU k (v:=.str x t) rfl];exact p8 h
  |int x=>obtain⟨t,rfl⟩:=q;rw[LU k (v:=.int x t) rfl];exact p8 h
  |_=>exact q.elim
 |succ n g =>
  intro k A s d u E Q e q h;cases d with
  |str x=>obtain⟨t,rfl⟩:=q;rw[LU k (v:=.str x t) rfl];exact p8 h
  |int x=>obtain⟨t,rfl⟩:=q;rw[LU k (v:=.int x t) rfl];exact p8 h
  |tup ds =>
   obtain⟨a,its,rfl,⟨o,b,f,R,c⟩,p⟩:=q;obtain⟨k,rfl⟩:∃I,k=I+1:=⟨k-1,by lia⟩
   have T:s.TypeIs (.ref a) "tuple":=⟨o,b,f⟩
   unfold np;refine p5<|Ly T F.slot_tuple_eq.lookup ?_;refine(show e8 (f7 prog w) A (isInstance (.ref a) (.type "tuple") >>= _) _ _ s from p5<|Mj T isSubtype_tuple_tuple ?_);simp only[KR,x3,o6];refine p5<|Mf b c ?_;simp only[Option.getD_some];refine p5 ?_;refine(show e8 (f7 prog w) A (forIn its _ _) _ _ s from ?_);rw[<-MK];refine KW _ (λaI r s'=>r.1=a8/\s'=s/\∃left,Paired (fS s.heap n) left aI) _ ?_ ?_ _ _ ⟨rfl,rfl,ds,p⟩;rintro x aI r s' ⟨i,rfl,left,h1⟩;cases h1 with
   |cons U J=>refine p5<|g k _ _ _ x _ _ (by lia) U ?_;simp only[KR,x3,o6];exact p8 ⟨rfl,rfl,_,J⟩
   rintro⟨r1,r2⟩ s' ⟨i,rfl,_⟩;simp only at i;subst i;exact p8 h
  |_=>exact q.elim
theorem kF{h:c8}{n:Nat}{ds:List D}{its:Array b7}(p:Paired (fS h n) ds its.toList):ds.length=its.size:=by
 rw[<-D5];generalize its.toList=l at p;induction p with
 |nil=>rfl
 |cons _ _ i=>rw[C7,C7,i]
theorem Ct:∀(n:Nat) (A:d8) (s:d9) (x y:D) (u v:b7),A.units+n<j2->fS s.heap n x u->fS s.heap n y v->KF A s u v (t4 [] n x y):=by
 intro n;induction n with
 |zero =>
  intro A s x y u v B k C;cases x with
  |str a =>
   obtain⟨t,rfl⟩:=k;cases y with
   |str b=>obtain⟨t',rfl⟩:=C;exact Op _ _ _ _
   |int b=>obtain⟨t',rfl⟩:=C;exact NE _ _ _ _
   |_=>exact C.elim
  |int a =>
   obtain⟨t,rfl⟩:=k;cases y with
   |str b=>obtain⟨t',rfl⟩:=C;exact NF _ _ _ _
   |int b=>obtain⟨t',rfl⟩:=C;exact Oq _ _ _ _
   |_=>exact C.elim
  |_=>exact k.elim
 |succ n F =>
  intro A s x y u v B k C;have c:A.units<j2:=by lia
  have h:A.in1.units+n<j2:=by show A.units+1+n<j2;lia
  cases x with
  |str a =>
   obtain⟨t,rfl⟩:=k;cases y with
   |str b=>obtain⟨t',rfl⟩:=C;exact Op _ _ _ _
   |int b=>obtain⟨t',rfl⟩:=C;exact NE _ _ _ _
   |tup b=>obtain⟨_,_,rfl,p,_⟩:=C;exact SeqAt.EqAt.str_tuple _ _ p c
   |_=>exact C.elim
  |int a =>
   obtain⟨t,rfl⟩:=k;cases y with
   |str b=>obtain⟨t',rfl⟩:=C;exact NF _ _ _ _
   |int b=>obtain⟨t',rfl⟩:=C;exact Oq _ _ _ _
   |tup b=>obtain⟨_,_,rfl,p,_⟩:=C;exact SeqAt.EqAt.int_tuple _ _ p c
   |_=>exact C.elim
  |tup xs =>
   obtain⟨a,its,rfl,p,m⟩:=id k;cases y with
   |str b=>obtain⟨t',rfl⟩:=C;exact SeqAt.EqAt.tuple_str _ _ p c
   |int b=>obtain⟨t',rfl⟩:=C;exact SeqAt.EqAt.tuple_int _ _ p c
   |tup ys =>
    obtain⟨b,d,rfl,J,o⟩:=id C;by_cases U:a=b;subst U;have e:=ny (n+1) _ _ _ k C;rw[e,(iP (M:=[]) (n+1) _ _ (jA _ _ _ C)<|jA _ _ _ C).mpr rfl];exact N9 _;have S:=kF m;have E:=kF o;have f:∀(j:Nat) (h1:j<its.size) (h2:j<d.size),KF A.in1 s its[j] d[j] (t4 [] n (xs.getD j .non)<|ys.getD j .non):=λj h1 h2=>by
     obtain⟨q,w,G⟩:=dU m (i:=j) (y:=its[j]) (by rw[F4];exact G9 h1);obtain⟨r,z,H⟩:=dU o (i:=j) (y:=d[j]) (by rw[F4];exact G9 h2);have I:xs.getD j .non=q:=by rw[Ke,w];rfl
     have K:ys.getD j .non=r:=by rw[Ke,z];rfl
     rw[I,K];exact F A.in1 s q r _ _ h G H
    have l:((B9<|min its.size d.size).all (λj=>t4 [] n (xs.getD j .non)<|ys.getD j .non)&&its.size==d.size)=C5 (t4 [] n) xs ys:=by
     by_cases g:xs.length=ys.length;have Z:(B9 xs.length).all (λj=>t4 [] n (xs.getD j .non)<|ys.getD j .non)=C5 (t4 [] n) xs ys:=nC g λj x y h1 h2=>by simp[L8,h1,h2]
     rw[<-S,<-E,<-g,Nat.min_self,Z];simp;rw[AB g,<-S,<-E];simp[g]
    have h1:=SeqAt.RcAt.tuples p J c f;rw[l]at h1;exact SeqAt.EqAt.of_refs U h1
   |_=>exact C.elim
  |_=>exact k.elim
end
noncomputable instance decD:DecidableEq D:=λa b=>A5<|a=b
noncomputable def bU(prog:c5)(w:b9):HeapKind prog w D where
 is:=λh d a=>fS h 8 d<|.ref a
 hash:=w9 w 8
 draws:=M8 8
 room:=λA=>A.units+8<j2
 inj:=λx y=>ny 8 _ _ _ x y
 keeps:=λx o c hs=>vq x o c hs
 pyHash:=λg k h=>pq 8 _ _ _ _ _ _ g k h
 eqBool:=λ{A E s x y a b Q} g k1 k2 h=>by
  refine Ct 8 A s x y _ _ g k1 k2 _ _ _ _ ?_;have e:t4 [] 8 x y=decide (x=y):=by rw[Bool.eq_iff_iff,iP 8 x y (jA _ _ _ k1)<|jA _ _ _ k2,o4]
  rw[e];exact h
 quiet:=λk h=>nw 8 8 _ _ _ _ _ _ (u5 _) k h
noncomputable def aQ(kvs:List (D×D))(k:D):Option D:=(kvs.find? λp=>decide<|p.1=k).map (·.2)
noncomputable def iD(kvs:List (D×D))(k d:D):List (D×D):=if (aQ kvs k).isSome then kvs.map (λp=>if p.1=k then(p.1,d)else p)else kvs++[(k,d)]
section
variable{K:t6}{ρ:List c6}{H:Hp}{M:tx}{kvs:List (D×D)}{xs:List (D×c6×b7)}
theorem tP(r:Paired (yt K ρ H) kvs xs)(k:D):(aQ kvs k=a8/\atKey xs k=a8)\/∃d p v,aQ kvs k=a7 d/\atKey xs k=a7 p/\t5 K ρ H d v/\aN v p.2:=by
 unfold aQ atKey;induction r with
 |nil=>exact .inl ⟨rfl,rfl⟩
 |@cons p q ps qs h t i=>obtain⟨h1,_,_,v,a,b⟩:=h;rw[Ko,Ko];by_cases e:p.1=k;rw[dT_ e,dT_<|h1.symm.trans e];exact .inr ⟨_,_,v,rfl,rfl,a,b⟩;rw[dF_ e,dF_<|λz=>e<|h1.trans z];exact i
theorem DB(r:Paired (yt K ρ H) kvs xs)(n:cY 8 k=a9)(o:t5 K ρ H k (.ref b))(f:t5 K ρ H d v)(g:aN v u):Paired (yt K ρ H) (iD kvs k d) (storedH xs k b u):=by
 unfold iD storedH;have s:(aQ kvs k).isSome=(atKey xs k).isSome:=by rcases tP r k with⟨a,m⟩|⟨_,_,_,a,m,_⟩<;>rw[a,m]<;>rfl
 rw[s];by_cases q:(atKey xs k).isSome=a9;rw[n6 q,n6 q];clear s q;induction r with
 |nil=>exact .nil
 |@cons p q ps qs h t i=>rw[A3,A3];refine .cons ?_ i;obtain⟨h1,h2,c,w,j,l⟩:=h;by_cases e:p.1=k;rw[n6 e,putAt,n6<|h1.symm.trans e];exact⟨h1,h2,c,v,f,g⟩;rw[n9 e,putAt,n9<|λz=>e<|h1.trans z];exact⟨h1,h2,c,w,j,l⟩
 rw[n9 q,n9 q];clear s q;induction r with
 |nil=>exact .cons ⟨rfl,n,o,v,f,g⟩ .nil
 |cons h t i=>exact .cons h i
theorem iO(r:Paired (yt K ρ H) kvs xs):xs.map (·.1)=kvs.map (·.1):=by
 induction r with
 |nil=>rfl
 |cons h t i=>rw[A3,A3,i,h.1]
theorem eX:(iD kvs k d).length<=kvs.length+1:=by unfold iD;split;rw[u4];lia;rw[x5];exact u5 _
theorem A1.writtenX{a p:c6}{xs:List V}{φ:c5->b9->c8->Prop}{o:HO}(b:H p=a7 (.ext φ))(h:A1 K H a xs):A1 K (v5 H p o) a xs:=by
 rcases h with h|h;rcases h with h|⟨c,h⟩
 exact .inl (.inl<|by rw[aA<|xL h b<|by intro z;cases z];exact h);exact .inl<|.inr ⟨c,by rw[aA<|xL h b<|by intro z;cases z];exact h⟩;exact .inr h
theorem u6.writeT(S:u6 K ρ M H)(t:ρ[n]?=a7 a)(s:M[n]?=a7 (.dkt kvs))(p:H a=a7 (.ext<|dX a xs))(u:kvs'.length<=sizeLine)(hs:(a==c9)=bt)(w:(kvs'.map (·.1)).Nodup)(r:Paired (yt K ρ H) kvs' xs'):u6 K ρ (M.set n<|.dkt kvs') (v5 H a<|.ext<|dX a xs')/\Grow K ρ H ρ (v5 H a<|.ext<|dX a xs'):=by
 have g:Grow K ρ H ρ (v5 H a<|.ext<|dX a xs'):=⟨Lx,λ_ _ h=>A1.writtenX p h⟩
 have k:∀m,m≠n->(M.set n<|.dkt kvs')[m]?=M[m]?:=λm d=>K1<|C3 d;have c:¬Kr M[n]?:=λ⟨_,z⟩=>by rw[s]at z;cases z
 refine⟨⟨λm j b e f N=>?_,by rw[LR];exact S.len,λm b o f N=>?_⟩,g⟩;have q:=S.nd m j b e f N;by_cases h1:m=n;subst h1;rw[k j<|C3 e];exact .inr<|q.resolve_left c;rw[k m h1];by_cases h2:j=n;subst h2;exact .inl<|q.resolve_right c;rw[k j h2];exact q;by_cases d:m=n;subst d;have i:b=a:=C4<|f.symm.trans t;subst i;rw[Lp<|by rw[<-S.len];exact(w6.mp t).1]at N;cases N;refine⟨u,hs,w,xs',bx,Paired.mapP r ?_⟩;rintro _ _ ⟨x,y,A,v,J,B⟩;exact⟨x,y,A.grow g,v,J.grow g,B⟩;rw[k m d]at N;by_cases i:b=a;subst i;have l:=(S.nd m n b d f t).resolve_right c;rw[N]at l;exact(S.obj m b o f N).grow g<|.inr l;exact(S.obj m b o f N).grow g<|.inl<|aA i
end
section
variable{X:Cx}{pins:List (c6×c7)}{σ:St}{H:Hp}{s:d9}{ρ:List c6}{M:tx}
theorem eW(I:p7 X pins σ H s):∀(n:Nat) (d:D) (v:V) (u:b7),t5 X.K ρ H d v->aN v u->cY n d=a9->fS s.heap n d u:=by
 intro n;induction n with
 |zero =>
  intro d v u r b k;cases r with
  |str x=>exact b
  |int x=>exact b
  |_=>cases k
 |succ n e =>
  intro d v u r b k;cases r with
  |str x=>exact b
  |int x=>exact b
  |@tup a vs ds q f =>
   cases b;obtain⟨its,m,p,z⟩:=I.tuple q;have h:∀x∈ds,cY n x=a9:=Fn.mp<|show ds.all (cY n)=a9 from k;refine⟨a,its.toArray,rfl,p,?_⟩;rw[List.toList_toArray];clear p q k z;induction m generalizing ds with
   |nil=>cases f;exact .nil
   |cons g j i =>
    cases f with
    |cons h1 t=>exact .cons (e _ _ _ h1 g<|h _ D4)<|i t λx c=>h x<|A2 _ c
  |_=>cases k
theorem kI(I:p7 X pins σ H s)(g:u6 X.K ρ M H){n:Nat}{a:c6}{kvs:List (D×D)}(e:ρ[n]?=a7 a)(c:M[n]?=a7 (.dkt kvs)):∃xs,H a=a7 (.ext<|dX a xs)/\Paired (yt X.K ρ H) kvs xs/\s.heap.DictOfH (bU X.prog X.w) a xs/\(a==c9)=bt/\kvs.length<=sizeLine/\xs.length=kvs.length/\(kvs.map (·.1)).Nodup:=by
 obtain⟨h1,h2,h,xs,b,r⟩:=g.obj _ _ _ e c;obtain⟨⟨o,es,t,m,R,J⟩,_⟩:=(show cS X.prog X.w H s.heap a (.ext<|dX a xs)from I.hok a _ b)
 have k:=iO r;refine⟨xs,b,r,⟨o,es,_,t,m,R,J,λx d=>?_,by rw[k];exact h⟩,h2,h1,?_,h⟩;obtain⟨i,hi⟩:=K9 d;obtain⟨p,_,q,j,f,_⟩:=dU r hi;rw[<-q];exact eW I 8 _ _ _ f rfl j;have:=o8 Km k
 rwa [u4,u4]at this
theorem vF(d:dX a xs P w h'):cS P w H' h' a (.ext<|dX a xs):=by obtain⟨o,es,t,m,R,J⟩:=d;refine⟨⟨o,es,t,m,R,J⟩,⟨o,t⟩,?_⟩;rintro h1 h2 ⟨o,es,t,m,R,J⟩ k;exact⟨o,es,k _ t,m,R,J⟩
theorem DQ(I:p7 X pins σ H s)(h:H a=a7 (.ext<|dX a xs)):dX a xs X.prog X.w s.heap:=(show cS X.prog X.w H s.heap a (.ext<|dX a xs)from I.hok a _ h).1
end
theorem setE(x:(bU prog w).room A.in1)(t:(bU prog w).is s.heap k b)(u:s.heap.DictOfH (bU prog w) d xs) (y:dX d xs prog w s.heap) (hz:xs.length<=sizeLine)(m:∀h',dX d (storedH xs k b v) prog w h'->KQ d s.heap h'->Q () { s with heap:=h',toks:=s.toks+(bU prog w).draws k }):e8 (f7 prog w) A (setItem (.ref d) (.ref b) v) Q E s:=by
 have n:=u.typeIs;obtain⟨_,_,_,_,_,_,_,g,f⟩:=u;obtain⟨o,es,D,r,h,c⟩:=y;have i:es.toList=xs.map (d5<|bU prog w):=c;unfold setItem
 try with_reducible refine E5 ?_
 refine p5<|wpAny_sequenceKey n (by decide)<|p5<|La (name:=r9 "__setitem__") n slot_dict_setitem<|J0 slot_dict_setitem n entry_dict_setitem ?_<|args_dict_setitem _ _ _;refine(show e8 (f7 prog w) _ (Builtin.Dict.notOrdered "__setitem__" ⟨[.ref d,.ref b,v],[]⟩ >>= _) _ _ s from p5<|NJ n ?_);refine(show e8 (f7 prog w) _ (dictSet d (.ref b) v >>= _) _ _ s from p5 ?_);unfold dictSet
 try with_reducible refine E5 ?_
 refine p5<|(bU prog w).pyHash x t ?_;unfold dictSetHashed
 try with_reducible refine E5 ?_
 have B:es.size=xs.length:=size_of_entries i;refine p5<|wpAny_dictFind_heap (s:={ s with toks:=s.toks+(bU prog w).draws k }) x t D h i g f (λa=>?_) λj p L=>?_;refine p5<|Kg<|wpAny_updateDictKeys (hz:=by lia) (s:={ s with toks:=s.toks+(bU prog w).draws k }) D h<|p8 ⟨.none,rfl,p8<|m _ ⟨_,es.push ⟨(bU prog w).hash k,.ref b,v⟩,Kk _ D<|NG<|ML h _,r.mapDictKeys _,?_,?_⟩<|Ky ..⟩;rw[ML h,storedH_new<|Og a,x5];rfl;rw[storedH_new<|Og a];rw[Oj,i,G7];rfl;refine p5<|Kg<|p5<|wpAny_updateDict (s:={ s with toks:=s.toks+(bU prog w).draws k }) D h<|wpAny_point<|p8 ⟨.none,rfl,p8<|m _ ⟨_,es.modify j λe=>{ e with val:=v },Kk _ D<|NG<|Oc h _,r.mapDict _,?_,?_⟩<|Ky ..⟩;rw[Oc h,storedH_old<|atKey_of_get f L,u4];rw[storedH_old<|atKey_of_get f L];have q:=modify_map_putAt (d5<|bU prog w) (λe:m3=>{ e with val:=v }) k v (λ_ _=>rfl) f L;rw[<-i]at q;obtain⟨l⟩:=es;have z:(Array.modify ⟨l⟩ j λe:m3=>{ e with val:=v }).toList=(xs.map<|putAt k v).map (d5<|bU prog w):=by simpa using q
 exact z
section
variable{X:Cx}{o i value:f6}{td ty tv:u8}{pos pos':f8}{k:Nat}
def vI:u8:=λ_ M Q=>Q (.ref M.length)<|M++[.dkt []]
theorem JO:DE X (.Dict [] [] pos) vI:=by rintro p s σ H R I ⟨S,M,ρ,Q,m,c,q,D⟩;have f:H s.heap.objs.size=a8:=I.hok.fresh<|u5 _;have d:(s.heap.objs.size==c9)=bt:=beq_eq_false_iff_ne.mpr<|C3<|x6 I.big;refine wpAny_Dict_empty ⟨.ref s.heap.objs.size,_,I.laid (a:=s.heap.objs.size) (o:=.ext<|dX s.heap.objs.size []) (t':=s.toks) (λ_ _ q=>v7 _ q) (u5 _)<|vF ⟨_,#[],A8 _ rfl,⟨rfl,rfl,rfl⟩,rfl,rfl⟩,rfl,?_⟩;exact D _ _ ⟨.ref M.length,M++[.dkt []],ρ++[s.heap.objs.size],m.laidM (mo:=.dkt []) f ⟨w4 _,d,Nr,[],bx,.nil⟩,Grow.laidR f,.ref m.last,(show Q (.ref M.length) (M++[.dkt []])from q)⟩
def iU(t b:u8):u8:=λS M Q=>t S M λx a=>b S a λy M2=>match x,y with
 |.ref n,.tup ks=>∃s d,M2[n]?=a7 (.dkt s)/\cY 8 (.tup ks)=a9/\aQ s (.tup ks)=a7 d/\Q d M2
 |_,_=>False
theorem JP(U:Room k X.A)(T:DE X o td)(hi:DE X i ty)(hs:NoSl i):DE X (.Subscript o i pos) (iU td ty):=by
 rintro c s σ H R I ⟨S,M,ρ,Q,sm,G,q,Y⟩;have un:=U.un;refine Eh PySem.F.slot_dict_getitem.lookup hs<|u9 (T c s σ H _ I ⟨S,M,ρ,_,sm,G,q,λv H' z=>z⟩) ?_;rintro u s1 ⟨v,J,L,rv,x,N,l,h,g1,r1,q1⟩;refine u9 (hi c s1 σ J _ L ⟨S,N,l,_,h,G.grow g1,q1,λv H' z=>z⟩) ?_;rintro iv s2 ⟨w,K,f,g,y,M2,m,e,C,r2,j⟩;cases x with
 |ref n =>
  cases y with
  |tup E =>
   obtain⟨Z,d,O,W,D,q3⟩:=j;obtain⟨a,rfl,P⟩:=t5.inv_ref r1;obtain rfl:u=ABO a:=rv;obtain⟨xs,hH,r,B,V,hl,hx,_⟩:=kI f e (aq C.pre P) O;have t:=eW f 8 _ _ _ r2 g W;rcases tP r (.tup E)with⟨z,_⟩|⟨d',p,v',e1,e2,e3,e4⟩
   rw[D]at z;cases z;rw[D]at e1;cases e1;obtain⟨b,_,rfl,_⟩:=id t;refine⟨B.typeIs,wpAny_getItem_heap (knd:=bU X.prog X.w) (k:=.tup E) (by show X.A.units+1+8<j2;lia) t B e2 ⟨v',K,f.tok _,e4,Y _ _ ⟨d,M2,m,e,g1.trans C,e3,q3⟩⟩⟩
  |_=>exact j.elim
 |_=>exact j.elim
def qH(t d c:u8):p9:=λE S M=>c S M λv b=>t S b λx M2=>d S M2 λy a=>match x,y with
 |.ref n,.tup ks=>∃s,a[n]?=a7 (.dkt s)/\cY 8 (.tup ks)=a9/\s.length<sizeLine/\E.nx S (a.set n<|.dkt<|iD s (.tup ks) v)
 |_,_=>False
theorem pT(h:(kvs.map (·.1)).Nodup):((iD kvs y v).map (·.1)).Nodup:=by
 unfold iD;split;rw[E2];have:((λx:D×D=>x.1) ∘ λp:D×D=>if p.1=y then(p.1,v)else p)=λx=>x.1:=by funext p;show (if p.1=y then(p.1,v)else p).1=p.1;split<;>rfl
 rw[this];exact h;rename_i q;rw[G7,List.map_singleton,Of];refine⟨h,by simp,λa f b d=>?_⟩;rw[J3.mp d];rintro rfl;obtain⟨p,c,e⟩:=ve.mp f;refine q ?_;unfold aQ;rw[Option.isSome_map,List.find?_isSome];exact⟨p,c,by simpa using e⟩
theorem Gb(hr:Room k X.A)(ho:DE X o td)(hi:DE X i ty)(hv:DE X value tv)(hs:g9 value (a7<|.Subscript o i pos') pos.line X.env=pure bt):DS X (.Assign [.Subscript o i pos'] value pos) (qH td ty tv):=by
 rintro p s σ H E I ⟨S,M,ρ,F,sm,j,q,kk⟩;have un:=hr.un;refine wpAny_Assign_Subscript (u9 (hv p s σ H _ I ⟨S,M,ρ,_,sm,j,q,λv H' z=>z⟩) λr s1 ⟨v,T,W,rv,dv,Z,G,C,g1,r1,q1⟩=>u9 (ho p s1 σ T _ W ⟨S,Z,G,_,C,j.grow g1,q1,λv H' z=>z⟩) λu s2 ⟨vx,U,Y,rx,x,M2,J,D,g,r2,q2⟩=>u9 (hi p s2 σ U _ Y ⟨S,M2,J,_,D,(j.grow g1).grow g,q2,λv H' z=>z⟩) ?_) hs;rintro iv s3 ⟨vy,H3,f,Q,y,M3,K,e,g3,P,B⟩;cases x with
 |ref n =>
  cases y with
  |tup O =>
   obtain⟨kvs,L,N,hl,q4⟩:=B;obtain⟨a,rfl,hn⟩:=t5.inv_ref r2;obtain rfl:u=ABO a:=rx;have h:=aq g3.pre hn;obtain⟨xs,l,r,dd,V,_,hx,nd⟩:=kI f e h L;have t:=eW f 8 _ _ _ P Q N;obtain⟨b,_,rfl,_⟩:=id t;obtain⟨_,_,rfl,m,rr⟩:=t5.inv_tup P;cases Q;have r':=DB r N (.tup m rr) ((r1.grow g).grow g3) rv;have pl:=eX (kvs:=kvs) (k:=.tup O) (d:=dv);obtain⟨w1,R⟩:=e.writeT h L l (by have:=pl;lia) V (pT nd) r';refine setE (k:=.tup O) (by show X.A.units+1+8<j2;lia) t dd (DQ f l) (by lia) λh' c w=>?_;have he:∃q,h'.get? a=a7 q:=let ⟨q,_,m,_⟩:=c;⟨q,m⟩
   exact⟨σ,_,vH f (by rw[l];exact LK) w he<|vF c,kk.nx σ _<|SQ.trans ((g1.trans g).trans g3) ⟨S,_,K,w1,R,(((j.grow g1).grow g).grow g3).grow R,q4⟩⟩
  |_=>exact B.elim
 |_=>exact B.elim
def NS(r:Nat->C6)(e:u8)(t:D9):u8:=λS M Q=>e S M λx a=>match x with
 |.ref n=>(∃s,a[n]?=a7 (.dkt s))/\t S a λds M2=>r n ds M2 Q
 |_=>False
variable{name:b8}{id:String}{e:f6}{es:List f6}{to:u8}{t:D9}{apos cpos:f8}
theorem d_mt{r:Nat->C6}(slot:Slot "dict" name id)(y:k7 (.builtin id)=pure (.type "method_descriptor"))(U:Ix X id (jV X.K r))(V:DE X o to)(T:DA X (e::es) t)(c:k9 o name X.env (eval o X.env)=eval o X.env:=by rfl)(f:((f9 cpos<|ge (e::es) X.env).all (λx=>!x.1)&&(l7 cpos<|l8 [] X.env).all (λx=>x.1.isSome) && decide ((e::es).length+([]:List j5).length+(if ([]:List j5).isEmpty then 0 else 1)<30))=a9:=by rfl)(d:(apos.endLine==cpos.line)=a9:=by rfl) (hs:ge (e::es) X.env=(bt,eval e X.env)::ge es X.env:=by rfl) (h:(f9 cpos<|ge es X.env).any (·.1)=bt:=by rfl):DE X (.Call (.Attribute o name apos) (e::es) [] cpos) (NS r to t):=by
 rintro p s σ H R I ⟨S,M,ρ,Q,sm,J,q,Y⟩;refine Oz c f d rfl<|u9 (V p s σ H _ I ⟨S,M,ρ,_,sm,J,q,λv H' z=>z⟩) ?_;rintro u s1 ⟨v,L,C,rv,x,i,A,j,g1,r1,g⟩;cases r1 with
 |@ref n a G =>
  cases rv;obtain⟨⟨k,P⟩,g⟩:=(show (∃k,i[n]?=a7 (.dkt k))/\t S i _ from g)
  obtain⟨xs,hH,r,D,W,hl,hx,nd⟩:=kI C j G P;refine⟨"dict",id,OB,slot,y,D.typeIs,λb z=>?_,?_⟩;cases z;obtain⟨Z,_,_,h1,h2,_⟩:=D;exact⟨Z,h1,h2.2.1⟩;have F:=T cpos p s1 σ L _ C ⟨S,i,A,_,j,J.grow g1,g,λvs H' z=>z⟩;rw[hs]at F ⊢;refine MN (by show (bt||(f9 cpos<|ge es X.env).any (·.1))=bt;rw[h]<;>rfl)<|Ou ?_;refine u9 F ?_;rintro us s2 ⟨vs,N,O,l,ds,M2,B,m,E,rr,q2⟩;exact U p s2 σ N (.ref a) vs (.ref a) us R O rfl l ⟨n,a,ds,M2,B,Q,rfl,aq E.pre G,m,rr,q2,λv H' w=>Y v H'<|VQ.trans (g1.trans E) w⟩
 |_=>exact g.elim
def sO(n:Nat):C6:=λds M Q=>match ds with
 | [.tup ks,d]=>∃s,M[n]?=a7 (.dkt s)/\cY 8 (.tup ks)=a9/\Q ((aQ s<|.tup ks).getD d) M
 |_=>False
theorem BY(u:Room k X.A):Ix X "dict.get" (jV X.K sO):=by
 rintro g s σ H x xs v us R I G F ⟨n,a,ds,M,ρ,Q,j,o,m,f,q,D⟩;have T:=u.un;unfold sO at q;split at q;rename_i e d;obtain⟨B,l,y,q⟩:=q
 first|have z:=Reps.inv_cons f|have z:=aw.inv_cons f
 clear f;obtain⟨_,_,rfl,C,f⟩:=z
 first|have z:=Reps.inv_cons f|have z:=aw.inv_cons f
 clear f;obtain⟨_,_,rfl,E,f⟩:=z;cases f;obtain⟨S,J,rfl,h,i⟩:=aw.two F;subst j;cases G;obtain⟨ys,L,r,c,V,N,O,P⟩:=kI I m o l;have t:=eW I 8 _ _ _ C h y;obtain⟨b,_,rfl,_⟩:=id t;refine MB MM c.typeIs O8 (Pa _ _ _) (meetsH_dict_get_default (bU X.prog X.w) a b V J) ⟨by show X.A.units+1+8<j2;lia,.tup e,ys,t,c,?_⟩;rcases tP r (.tup e)with⟨z1,z2⟩|⟨d',p,v',z1,z2,z3,z4⟩
 rw[z2];rw[z1]at q;exact⟨_,H,I.tok _,i,D _ _ ⟨d,M,ρ,m,.refl,E,q⟩⟩;rw[z2];rw[z1]at q;exact⟨_,H,I.tok _,z4,D _ _ ⟨d',M,ρ,m,.refl,z3,q⟩⟩;exact q.elim
end
def ii(h:c8)(d:c6)(es:Array m3)(ep:Nat):Prop:=∃o,h.get? d=a7 o/\o.ExactDict/\o.data=.dict es ep
theorem ii.ty{s:d9}{d:c6}{es:Array m3}{ep:Nat}(x:ii s.heap d es ep):s.TypeIs (.ref d) "dict":=by obtain⟨o,h1,h2,_⟩:=x;exact⟨o,h1,h2.1⟩
theorem ii.to(x:ii h d es ep)(k:∀o,h.get? d=a7 o->h'.get? d=a7 o):ii h' d es ep:=by obtain⟨o,h1,h2⟩:=x;exact⟨o,k o h1,h2⟩
section
variable{prog:c5}{w:b9}{A:d8}{E:b7->d9->Prop}{s:d9}{d:c6}{es:Array m3}{ep:Nat}
theorem CQ{Q:b7->d9->Prop}(h:(d==c9)=bt)(m:ii s.heap d es ep)(b:Q (.ref s.heap.objs.size) { s with heap:=s.heap.push { cls:=.type "dict_keyiterator",data:=.fields #[.ref d,.int 0 0,.int es.size 0,.int ep 0] } }):e8 (f7 prog w) A (i6<|.ref d) Q E s:=by have n:=m.ty;obtain⟨o,h1,h2,a⟩:=m;refine Oh n F.slot_dict_iter<|J0 F.slot_dict_iter n F.entry_dict_iter ?_<|F.args_dict_iter_1 _;unfold Builtin.«dict.__iter__»;refine p5 ?_;unfold Builtin.Dict.dictSlotNone;refine p5<|NJ n<|p8 ?_;refine(show e8 (f7 prog w) _ (Ov d >>= _) _ _ s from ?_);unfold Ov;rw[h];refine p5<|p8<|p5<|Lz h1 a<|p5<|KU h1 a ?_;exact p5<|J2<|p8 ⟨_,rfl,"dict_keyiterator",_,⟨_,A8 _ rfl,rfl⟩,F.slot_dict_keyiterator_next.lookup,by simpa [i7]using b⟩
theorem CP(t:s.heap.IsKeyIter it d i es.size ep)(m:ii s.heap d es ep)(hi:i<es.size)(b:∀h',h'.IsKeyIter it d (i+1) es.size ep->KQ it s.heap h'->Q (a7 es[i].key) { s with heap:=h' }):e8 (f7 prog w) A (i4<|.ref it) Q E s:=by
 obtain⟨o,D,f,a⟩:=id t;obtain⟨j,k,C,l⟩:=id m;unfold i4;refine p5<|LM<|La (name:=r9 "__next__") t.typeIs F.slot_dict_keyiterator_next<|J0 F.slot_dict_keyiterator_next t.typeIs F.entry_dict_keyiterator_next ?_<|F.args_dict_keyiterator_next_1 _;refine p5<|p8<|p5<|p5 ?_
 first|refine p5 (OL t.typeIs<|p8<|p5<|KT D a ?_)|refine p5<|OF t.typeIs<|p8<|p5<|KT D a ?_
 simp only[show NO "dict_keyiterator" = bt by decide,x3,o6];refine(show e8 (f7 prog w) _ (if (ABO d==ABr)=a9 then _ else _) _ _ s from ?_);rw[n9<|by exact Ln];refine p5<|p8<|p5<|Lz k l ?_;rw[n9<|by simp];refine p5<|p8<|p5<|KU k l ?_;rw[n9<|by simp];refine p8 ?_;simp only[show ¬((i:Int)<0)from by lia,o6,Ki,G9 hi];refine p5 ?_
 first|refine p5 (OL t.typeIs<|p8 ?_)|refine p5<|OF t.typeIs<|p8 ?_
 refine p5<|wpAny_isOneOf_keyiter t.typeIs ?_;refine(show e8 (f7 prog w) _ (setField (.ref it) 1 (i7<|(i:Int)+1) >>= _) _ _ s from p5<|Lj D a (by simp) ?_);have h:(s.heap.update it (Mc (·.setIfInBounds 1 (i7<|(i:Int)+1)))).IsKeyIter it d (i+1) es.size ep:=by refine⟨_,Kk _ D<|Obj.isFreed_of_fields<|Om a _,(Obj.cls_mapFields ..).trans f,?_⟩;rw[Om a];simp[i7]
 refine p5 (E5 (p5 (wpAny_isOneOf_keyiter (s:={ s with heap:=s.heap.update it (Mc (·.setIfInBounds 1 (i7<|(i:Int)+1))) }) h.typeIs ?_)));refine(show e8 (f7 prog w) _ (pure es[i].key) _ _ _ from ?_);exact p8<|p8 ⟨_,rfl,p8<|b _ h<|Ky ..⟩
theorem FW(e:A.handled=a8)(t:s.heap.IsKeyIter it d es.size es.size ep)(f:ii s.heap d es ep)(c:∀h',Heap.ExtBut it s.heap h'->Q a8 { s with heap:=h' }):e8 (f7 prog w) A (i4<|.ref it) Q E s:=by
 obtain⟨o,D,g,h⟩:=id t;obtain⟨j,k,C,l⟩:=id f;unfold i4;refine p5<|LM<|La (name:=r9 "__next__") t.typeIs F.slot_dict_keyiterator_next<|J0 F.slot_dict_keyiterator_next t.typeIs F.entry_dict_keyiterator_next ?_<|F.args_dict_keyiterator_next_1 _;refine p5<|p8<|p5<|p5 ?_
 first|refine p5 (OL t.typeIs<|p8<|p5<|KT D h ?_)|refine p5<|OF t.typeIs<|p8<|p5<|KT D h ?_
 simp only[show NO "dict_keyiterator" = bt by decide,x3,o6];refine(show e8 (f7 prog w) _ (if (ABO d==ABr)=a9 then _ else _) _ _ s from ?_);rw[n9<|by exact Ln];refine p5<|p8<|p5<|Lz k l ?_;rw[n9<|by simp];refine p5<|p8<|p5<|KU k l ?_;rw[n9<|by simp];refine p8 ?_;simp only[show ¬((es.size:Int)<0)from by lia,o6,Ki,NK<|u5 es.size];refine p5 ?_
 first|refine p5 (OL t.typeIs<|p8 ?_)|refine p5<|OF t.typeIs<|p8 ?_
 refine(show e8 (f7 prog w) _ (setField (.ref it) 0 .none >>= _) _ _ s from p5<|Lj D h (by simp) ?_);refine(show e8 (f7 prog w) _ (newExc (.type "StopIteration") [] >>= _) _ _ _ from p5 ?_);simp only[newExc,newTuple];refine p5 (J2 ?_<|by size_fits);refine p5 (m:=m9 _ _)<|wpAny_of_eq (a:=ABr) (by first|rfl|(simp only[m9];rfl)) ?_;refine J2 ?_ (by size_fits);simp only[raiseNew];refine p5<|wpAny_handled ?_;rw[show A.in1.handled=a8 from e];refine p5<|p8<|wpAny_throw ?_;refine p5<|Mj (b:=a9) (T:="StopIteration") ⟨_,A8 _ rfl,rfl⟩ isSubtype_stop ?_;exact p8<|c _<|((Ky ..).extBut.push _).push _
end
noncomputable def Ite(a:c6)(n:Nat):It:=⟨λi H=>∃xs,H a=a7 (.ext<|dX a xs)/\xs.length=n/\i<n,λi H v H'=>H'=H/\∀xs,H a=a7 (.ext<|dX a xs)->∃x,xs[i]?=a7 x/\v=.ref x.2.1,λi H=>(∃xs,H a=a7 (.ext<|dX a xs)/\xs.length=n)/\i=n⟩
section
variable{X:Cx}{pins:List (c6×c7)}{σ:St}{H:Hp}{s:d9}
theorem kH(I:p7 X pins σ H s)(b:H a=a7 (.ext<|dX a xs)):∃es,ii s.heap a es xs.length/\es.size=xs.length/\∀(i:Nat) x,xs[i]?=a7 x->∃e,es[i]?=a7 e/\e.key=.ref x.2.1/\e.val=x.2.2:=by
 obtain⟨o,es,h1,h2,h,d⟩:=DQ I b;refine⟨es,⟨o,h1,h2,h⟩,?_,λi x c=>?_⟩;have:=o8 Km d
 rwa [D5,u4]at this
 refine⟨⟨w9 X.w 8 x.1,.ref x.2.1,x.2.2⟩,?_,rfl,rfl⟩;rw[<-F4,d,C8,c];rfl
theorem wS(x:ii h a es ep)(y:ii h a es' ep'):es=es'/\ep=ep':=by obtain⟨o,h1,_,d⟩:=x;obtain⟨o',c,_,b⟩:=y;obtain rfl:o=o':=C4<|h1.symm.trans c;rw[d]at b;injection b with e1 e2;exact⟨e1,e2⟩
end
theorem Bs{P:c5}{w:b9}{K:t6}{tg:f6}(a it:c6)(n:Nat):Turn P w K tg (Ite a n) [it] it (λi h=>h.IsKeyIter it a i n n) where
 mem:=by simp
 obj:=λi h l b f=>by
  obtain rfl:b=it:=by simpa using f
  obtain⟨o,e,c,d⟩:=l;exact⟨o,e,λv z=>by rw[d]at z;cases z⟩
 keep:=λi h h' l k=>l.at λo e=>k it (by simp) o e
 item:=by
  intro X L M J U i p s σ H E I r l S;subst L M J;obtain⟨xs,G,rfl,hi⟩:=S;obtain⟨es,m,q,T⟩:=kH I G;obtain⟨e,N,O,e3⟩:=T i xs[i]<|v4 hi;obtain⟨x,B,f2,C,D,F⟩:=r it (by simp);have g:i<es.size:=by lia
  have R:es[i]=e:=by rw[G9 g]at N;exact C4 N
  rw[<-q]at m l;refine CP l m g λh' j sb=>?_;rw[R,O];have Y:p7 X p σ H { s with heap:=h' }:=I.turned (t':=s.toks) (λb o f e=>(sb.2 b f).trans e) x B C D F;obtain⟨o,q1,q2,q3⟩:=id j;refine⟨_,rfl,vB (s:={ s with heap:=h' }) q1 q2 q3 (by decide) ⟨.ref xs[i].2.1,H,Y,rfl,⟨rfl,λys hy=>?_⟩,by rw[q]at j;exact j,λb f=>(r b f).1⟩⟩;obtain⟨ai,u,Z,t⟩:=kH I hy;obtain⟨rfl,ep⟩:=wS m u;have V:i<ys.length:=by lia
  obtain⟨e',W,y,_⟩:=t i ys[i]<|v4 V;rw[G9 g,R]at W;obtain rfl:=C4 W;rw[O]at y;injection y with y;exact⟨ys[i],v4 V,by rw[y]⟩
 done:=by intro X L M J U i p s σ H E I r l S;subst L M J;obtain⟨⟨xs,G,rfl⟩,rfl⟩:=S;obtain⟨es,m,q,T⟩:=kH I G;obtain⟨x,B,f2,C,D,F⟩:=r it (by simp);rw[<-q]at m l;exact FW (I.ok.hd U) l m λh' he=>⟨rfl,I.turned (t':=s.toks) (λb o f e=>he b o f e) x B C D F⟩
 self:=λA i s Q E l hQ=>wpAny_pyIter_keyiter l hQ
section
variable{X:Cx}{tg:f6}
def wU(t:u8):Ks:=λS M R=>t S M λd a=>match d with
 |.ref n=>∃s,a[n]?=a7 (.dkt s)/\(s.length<=sizeLine->R ⟨s.map (·.1),λM=>M[n]?=a7 (.dkt s)⟩ a)
 |_=>False
theorem CW{l:f6}{O:u8}(Z:DE X l O):DI X tg l (wU O):=by
 intro A s σ H R I h;obtain⟨S,M,ρ,Q,sm,sr,q,k⟩:=h;refine u9 (Z A s σ H _ I ⟨S,M,ρ,_,sm,sr,q,λv H' w=>w⟩) ?_;rintro u E ⟨v,K,j,rv,d,F,J,C,g1,r1,N⟩;cases r1 with
 |@ref n a D =>
  cases rv;obtain⟨c,W,q2⟩:=(show ∃c,F[n]?=a7 (.dkt c)/\(c.length<=sizeLine->Q ⟨c.map (·.1),λM=>M[n]?=a7 (.dkt c)⟩ F)from N)
  obtain⟨xs,U,r,dd,V,hz,hx,nd⟩:=kI j C D W;obtain⟨es,T,P,_⟩:=kH j U;refine CQ V T ?_;rw[P];refine⟨E.heap.objs.size,[E.heap.objs.size],_,_,K,rfl,j.kept (t':=E.toks) λb o e=>v7 _ e,Bs a _ xs.length,⟨_,A8 _ rfl,rfl,rfl⟩,λb Y=>?_,k _ K ⟨⟨c.map (·.1),λM=>M[n]?=a7 (.dkt c)⟩,F,J,C,g1,?_,q2 hz⟩⟩;obtain rfl:b=E.heap.objs.size:=by simpa using Y
  exact j.fpOk (u5 _)<|j.hok.fresh<|u5 _;refine⟨λi f L H' s' g ok hi=>?_,λi f L H' x H2 s' g ok hi y=>?_,λf L H' s' g ok=>?_⟩;obtain⟨_,_,_,ys,t,B⟩:=s'.obj _ _ _ (aq g.pre D) ok;have ly:ys.length=c.length:=by have:=o8 Km<|iO B;rwa [u4,u4]at this
  exact⟨ys,t,by lia,by rw[u4]at hi;lia⟩;obtain⟨rfl,m⟩:=y;obtain⟨_,_,_,ys,t,B⟩:=s'.obj _ _ _ (aq g.pre D) ok;obtain⟨z,G,rfl⟩:=m ys t;obtain⟨p,hp,_,_,rp,_⟩:=dU B G;exact⟨p.1,f,by rw[C8,hp];rfl,s',.refl,rp⟩;obtain⟨_,_,_,ys,t,B⟩:=s'.obj _ _ _ (aq g.pre D) ok;have ly:ys.length=c.length:=by have:=o8 Km<|iO B;rwa [u4,u4]at this
  exact⟨⟨ys,t,by lia⟩,by rw[u4];lia⟩
 |_=>exact N.elim
end
section
variable{prog:c5}{w:b9}{A:d8}{E:b7->d9->Prop}{s:d9}{d:c6}{es:Array m3}{ep:Nat}
theorem yf(a:(d==c9)=bt)(m:ii s.heap d es ep)(b:Q (.ref s.heap.objs.size) { s with heap:=s.heap.push { cls:=.type "dict_values",data:=.fields #[.ref d] } }):e8 (f7 prog w) A (call (.builtin "dict.values") [.ref d]) Q E s:=by refine MB PySem.F.slot_dict_values m.ty PySem.F.entry_dict_values (PySem.F.args_dict_values_1 _) (S:=λ_ R s'=>s'=s/\R (.ok<|.ret<|.ref s.heap.objs.size) { s with heap:=s.heap.push { cls:=.type "dict_values",data:=.fields #[.ref d] } }) (.of_wp ?_) ⟨rfl,b⟩;rintro A R s' ⟨rfl,h⟩;refine p5 ?_;unfold Builtin.Dict.noArgs;refine p5<|NJ m.ty<|p8 ?_;refine(show e8 (f7 prog w) _ (Ov d >>= _) _ _ s' from ?_);unfold Ov;rw[a];exact p5<|p8<|p5<|J2<|p8 ⟨_,rfl,h⟩
theorem AE(c:s.heap.IsValuesView v d)(m:ii s.heap d es ep)(b:Q (.ref s.heap.objs.size) { s with heap:=s.heap.push { cls:=.type "dict_valueiterator",data:=.fields #[.ref d,.int 0 0,.int es.size 0,.int ep 0] } }):e8 (f7 prog w) A (i6<|.ref v) Q E s:=by obtain⟨g,e,h,f⟩:=id c;obtain⟨o,h1,h2,a⟩:=m;refine Oh c.typeIs F.slot_dict_values_iter<|J0 F.slot_dict_values_iter c.typeIs F.entry_dict_values_iter ?_<|F.args_dict_values_iter_1 _;unfold Builtin.«dict_values.__iter__»;refine p5<|p8<|p5 ?_;unfold Builtin.Dict_items.dictOf;refine p5<|wpAny_field e f (x:=.ref d) rfl<|p8<|p5 ?_;unfold Builtin.Dict_items.newIterator;refine p5<|Lz h1 a<|p5<|KU h1 a ?_;simp only[show NO "dict_valueiterator" = bt by decide,x3,o6];exact J2<|p8 ⟨_,rfl,"dict_valueiterator",_,⟨_,A8 _ rfl,rfl⟩,F.slot_dict_valueiterator_next.lookup,by simpa [i7]using b⟩
theorem AD(t:s.heap.IsValIter it d i es.size ep)(m:ii s.heap d es ep)(hi:i<es.size)(b:∀h',h'.IsValIter it d (i+1) es.size ep->KQ it s.heap h'->Q (a7 es[i].val) { s with heap:=h' }):e8 (f7 prog w) A (i4<|.ref it) Q E s:=by
 obtain⟨o,D,f,a⟩:=id t;obtain⟨j,k,C,l⟩:=id m;unfold i4;refine p5<|LM<|La (name:=r9 "__next__") t.typeIs F.slot_dict_valueiterator_next<|J0 F.slot_dict_valueiterator_next t.typeIs F.entry_dict_valueiterator_next ?_<|F.args_dict_valueiterator_next_1 _;refine p5<|p8<|p5<|p5 ?_
 first|refine p5 (OK t.typeIs<|p8<|p5<|KT D a ?_)|refine p5<|OE t.typeIs<|p8<|p5<|KT D a ?_
 simp only[show NO "dict_valueiterator" = bt by decide,x3,o6];refine(show e8 (f7 prog w) _ (if (ABO d==ABr)=a9 then _ else _) _ _ s from ?_);rw[n9<|by exact Ln];refine p5<|p8<|p5<|Lz k l ?_;rw[n9<|by simp];refine p5<|p8<|p5<|KU k l ?_;rw[n9<|by simp];refine p8 ?_;simp only[show ¬((i:Int)<0)from by lia,o6,Ki,G9 hi];refine p5 ?_
 first|refine p5 (OK t.typeIs<|p8 ?_)|refine p5<|OE t.typeIs<|p8 ?_
 refine p5<|O5 t.typeIs ?_;refine(show e8 (f7 prog w) _ (setField (.ref it) 1 (i7<|(i:Int)+1) >>= _) _ _ s from p5<|Lj D a (by simp) ?_);have h:(s.heap.update it (Mc (·.setIfInBounds 1 (i7<|(i:Int)+1)))).IsValIter it d (i+1) es.size ep:=by refine⟨_,Kk _ D<|Obj.isFreed_of_fields<|Om a _,(Obj.cls_mapFields ..).trans f,?_⟩;rw[Om a];simp[i7]
 refine p5 (E5 (p5 (O5 (s:={ s with heap:=s.heap.update it (Mc (·.setIfInBounds 1 (i7<|(i:Int)+1))) }) h.typeIs (p5 (O5 (s:={ s with heap:=s.heap.update it (Mc (·.setIfInBounds 1 (i7<|(i:Int)+1))) }) h.typeIs ?_)))));refine(show e8 (f7 prog w) _ (pure es[i].val) _ _ _ from ?_);exact p8<|p8 ⟨_,rfl,p8<|b _ h<|Ky ..⟩
theorem CO(e:A.handled=a8)(t:s.heap.IsValIter it d es.size es.size ep)(f:ii s.heap d es ep)(c:∀h',Heap.ExtBut it s.heap h'->Q a8 { s with heap:=h' }):e8 (f7 prog w) A (i4<|.ref it) Q E s:=by
 obtain⟨o,D,g,h⟩:=id t;obtain⟨j,k,C,l⟩:=id f;unfold i4;refine p5<|LM<|La (name:=r9 "__next__") t.typeIs F.slot_dict_valueiterator_next<|J0 F.slot_dict_valueiterator_next t.typeIs F.entry_dict_valueiterator_next ?_<|F.args_dict_valueiterator_next_1 _;refine p5<|p8<|p5<|p5 ?_
 first|refine p5 (OK t.typeIs<|p8<|p5<|KT D h ?_)|refine p5<|OE t.typeIs<|p8<|p5<|KT D h ?_
 simp only[show NO "dict_valueiterator" = bt by decide,x3,o6];refine(show e8 (f7 prog w) _ (if (ABO d==ABr)=a9 then _ else _) _ _ s from ?_);rw[n9<|by exact Ln];refine p5<|p8<|p5<|Lz k l ?_;rw[n9<|by simp];refine p5<|p8<|p5<|KU k l ?_;rw[n9<|by simp];refine p8 ?_;simp only[show ¬((es.size:Int)<0)from by lia,o6,Ki,NK<|u5 es.size];refine p5 ?_
 first|refine p5 (OK t.typeIs<|p8 ?_)|refine p5<|OE t.typeIs<|p8 ?_
 refine(show e8 (f7 prog w) _ (setField (.ref it) 0 .none >>= _) _ _ s from p5<|Lj D h (by simp) ?_);refine(show e8 (f7 prog w) _ (newExc (.type "StopIteration") [] >>= _) _ _ _ from p5 ?_);simp only[newExc,newTuple];refine p5 (J2 ?_<|by size_fits);refine p5 (m:=m9 _ _)<|wpAny_of_eq (a:=ABr) (by first|rfl|(simp only[m9];rfl)) ?_;refine J2 ?_ (by size_fits);simp only[raiseNew];refine p5<|wpAny_handled ?_;rw[show A.in1.handled=a8 from e];refine p5<|p8<|wpAny_throw ?_;refine p5<|Mj (b:=a9) (T:="StopIteration") ⟨_,A8 _ rfl,rfl⟩ isSubtype_stop ?_;exact p8<|c _<|((Ky ..).extBut.push _).push _
end
noncomputable def Itv(a:c6)(n:Nat):It:=⟨λi H=>∃xs x v,H a=a7 (.ext<|dX a xs)/\xs.length=n/\xs[i]?=a7 x/\aN v x.2.2,λi H v H'=>H'=H/\∀xs,H a=a7 (.ext<|dX a xs)->∃x,xs[i]?=a7 x/\aN v x.2.2,λi H=>(∃xs,H a=a7 (.ext<|dX a xs)/\xs.length=n)/\i=n⟩
theorem yD{P:c5}{w:b9}{K:t6}{tg:f6}(a it:c6)(n:Nat):Turn P w K tg (Itv a n) [it] it (λi h=>h.IsValIter it a i n n) where
 mem:=by simp
 obj:=λi h l b f=>by
  obtain rfl:b=it:=by simpa using f
  obtain⟨o,e,c,d⟩:=l;exact⟨o,e,λv z=>by rw[d]at z;cases z⟩
 keep:=λi h h' l k=>l.at λo e=>k it (by simp) o e
 item:=by
  intro X M N L U i p s σ H E I r l S;subst M N L;obtain⟨xs,x,v,J,rfl,hx,W⟩:=S;obtain⟨es,m,q,T⟩:=kH I J;obtain⟨e,t,e2,R⟩:=T i x hx;obtain⟨B,C,f2,D,F,G⟩:=r it (by simp);have g:i<es.size:=(Lb.mp t).1;have O:es[i]=e:=by rw[G9 g]at t;exact C4 t
  rw[<-q]at m l;refine AD l m g λh' j sb=>?_;rw[O,R];have I1:p7 X p σ H { s with heap:=h' }:=I.turned (t':=s.toks) (λb o f e=>(sb.2 b f).trans e) B C D F G;obtain⟨o,q1,q2,q3⟩:=id j;refine⟨_,rfl,vB (s:={ s with heap:=h' }) q1 q2 q3 (by decide) ⟨v,H,I1,W,⟨rfl,λys hy=>?_⟩,by rw[q]at j;exact j,λb f=>(r b f).1⟩⟩;obtain⟨aj,y,ai,u⟩:=kH I hy;obtain⟨rfl,ep⟩:=wS m y;have V:i<ys.length:=by lia
  obtain⟨e',Y,_,Z⟩:=u i ys[i]<|v4 V;rw[G9 g,O]at Y;obtain rfl:=C4 Y;rw[R]at Z;exact⟨ys[i],v4 V,by rw[<-Z];exact W⟩
 done:=by intro X M N L U i p s σ H E I r l S;subst M N L;obtain⟨⟨xs,J,rfl⟩,rfl⟩:=S;obtain⟨es,m,q,T⟩:=kH I J;obtain⟨B,C,f2,D,F,G⟩:=r it (by simp);rw[<-q]at m l;exact CO (I.ok.hd U) l m λh' he=>⟨rfl,I.turned (t':=s.toks) (λb o f e=>he b o f e) B C D F G⟩
 self:=λA i s Q E l hQ=>wpAny_pyIter_valiter l hQ
section
variable{X:Cx}{tg o:f6}{to:u8}{apos cpos:f8}
def pA(e:u8):Ks:=λS M R=>e S M λd a=>match d with
 |.ref n=>∃s,a[n]?=a7 (.dkt s)/\(s.length<=sizeLine->R ⟨s.map (·.2),λM=>M[n]?=a7 (.dkt s)⟩ a)
 |_=>False
theorem CV(ho:DE X o to)(l:k9 o "values" X.env (eval o X.env)=eval o X.env:=by rfl)(m:(apos.endLine==cpos.line)=a9:=by rfl):DI X tg (.Call (.Attribute o "values" apos) [] [] cpos) (pA to):=by
 intro f s σ H R I h;obtain⟨S,M,ρ,Q,sm,sr,q,k⟩:=h;refine wpAny_Call_method0_late l m<|u9 (ho f s σ H _ I ⟨S,M,ρ,_,sm,sr,q,λv H' w=>w⟩) ?_;rintro u G ⟨v,K,N,E,d,O,W,J,g1,r1,q1⟩;cases r1 with
 |@ref n a L =>
  cases E;obtain⟨c,hM,q2⟩:=(show ∃c,O[n]?=a7 (.dkt c)/\(c.length<=sizeLine->Q ⟨c.map (·.2),λM=>M[n]?=a7 (.dkt c)⟩ O)from q1)
  obtain⟨xs,hH,r,Z,V,hz,hx,nd⟩:=kI N J L hM;obtain⟨es,em,el,_⟩:=kH N hH;refine⟨"dict","dict.values",OB,PySem.F.slot_dict_values,PySem.F.type_dict_values,Z.typeIs,λb z=>?_,MN rfl<|PySem.evalArgs_none<|yf V em ?_⟩;cases z;obtain⟨ob,_,_,h1,h2,_⟩:=Z;exact⟨ob,h1,h2.2.1⟩;have B:p7 X f σ K { G with heap:=G.heap.push { cls:=.type "dict_values",data:=.fields #[.ref a] } }:=N.kept (t':=G.toks) λb o e=>v7 _ e;have P:ii ({ G with heap:=G.heap.push { cls:=.type "dict_values",data:=.fields #[.ref a] } }:d9).heap a es xs.length:=em.to λo e=>v7 _ e;refine AE (d:=a) ⟨_,A8 _ rfl,rfl,rfl⟩ P ?_;rw[el];have T:∀j:d9,p7 X f σ K j->NW X f σ tg R (.ref j.heap.objs.size) { j with heap:=j.heap.push { cls:=.type "dict_valueiterator",data:=.fields #[.ref a,.int 0 0,.int xs.length 0,.int xs.length 0] } }:=λj B=>by
   refine⟨j.heap.objs.size,[j.heap.objs.size],_,_,K,rfl,B.kept (t':=j.toks) λb o e=>v7 _ e,yD a _ xs.length,⟨_,A8 _ rfl,rfl,rfl⟩,λb hb=>?_,k _ K ⟨⟨c.map (·.2),λM=>M[n]?=a7 (.dkt c)⟩,O,W,J,g1,?_,q2 hz⟩⟩;obtain rfl:b=j.heap.objs.size:=by simpa using hb
   exact B.fpOk (u5 _)<|B.hok.fresh<|u5 _;refine⟨λi t Y H' s' g ok hi=>?_,λi t Y H' x H2 s' g ok hi y=>?_,λt Y H' s' g ok=>?_⟩;obtain⟨_,_,_,ys,D,A⟩:=s'.obj _ _ _ (aq g.pre L) ok;have ly:ys.length=c.length:=by have:=o8 Km<|iO A;rwa [u4,u4]at this
   rw[u4]at hi;have hj:i<ys.length:=by lia
   obtain⟨p,_,_,_,_,v,_,E⟩:=dU A<|v4 hj;exact⟨ys,ys[i],v,D,by lia,v4 hj,E⟩;obtain⟨rfl,C⟩:=y;obtain⟨_,_,_,ys,D,A⟩:=s'.obj _ _ _ (aq g.pre L) ok;obtain⟨z,U,rz⟩:=C ys D;obtain⟨p,hp,_,_,_,v,rp,E⟩:=dU A U;obtain rfl:x=v:=rz.inj E;exact⟨p.2,t,by rw[C8,hp];rfl,s',.refl,rp⟩;obtain⟨_,_,_,ys,D,A⟩:=s'.obj _ _ _ (aq g.pre L) ok;have ly:ys.length=c.length:=by have:=o8 Km<|iO A;rwa [u4,u4]at this
   exact⟨⟨ys,D,by lia⟩,by rw[u4];lia⟩
  exact T _ B
 |_=>exact q1.elim
end
section
variable{X:Cx}{o:f6}{to:u8}{apos cpos p pos:f8}{k:Nat}
def Ev:E1:=λx y M Q=>match x,y with
 |.tup ks,.ref n=>∃s,M[n]?=a7 (.dkt s)/\cY 8 (.tup ks)=a9/\Q (.bl (aQ s<|.tup ks).isSome) M
 |_,_=>False
def pS:E1:=λx y M Q=>match x,y with
 |.tup ks,.ref n=>∃s,M[n]?=a7 (.dkt s)/\cY 8 (.tup ks)=a9/\Q (.bl<|!(aQ s<|.tup ks).isSome) M
 |_,_=>False
theorem Im(i:Room k X.A):E6 X (j0 .In) Ev:=by
 rintro p s σ H J K v u R I z B ⟨x,y,M,ρ,Q,m,l,o,q,D⟩;have G:=i.un;cases x with
 |tup c =>
  cases y with
  |ref n =>
   obtain⟨d,h,j,q⟩:=q;obtain⟨a,rfl,g⟩:=t5.inv_ref o;cases B;obtain⟨xs,C,r,f,V,E,F,_⟩:=kI I m g h;have t:=eW I 8 _ _ _ l z j;obtain⟨b,_,rfl,_⟩:=id t;refine wpAny_in_heap (knd:=bU X.prog X.w) (k:=.tup c) (by show X.A.units+1+8<j2;lia) t V f ?_;have e:(atKey xs<|.tup c).isSome=(aQ d<|.tup c).isSome:=by rcases tP r (.tup c)with⟨z1,z2⟩|⟨_,_,_,z1,z2,_⟩<;>rw[z1,z2]<;>rfl
   rw[e];exact fR (I.tok _) m D q
  |_=>exact q.elim
 |_=>exact q.elim
theorem zH(i:Room k X.A):E6 X (j0 .NotIn) pS:=by
 rintro p s σ H J K v u R I z B ⟨x,y,M,ρ,Q,m,l,o,q,D⟩;have G:=i.un;cases x with
 |tup c =>
  cases y with
  |ref n =>
   obtain⟨d,h,j,q⟩:=q;obtain⟨a,rfl,g⟩:=t5.inv_ref o;cases B;obtain⟨xs,C,r,f,V,E,F,_⟩:=kI I m g h;have t:=eW I 8 _ _ _ l z j;obtain⟨b,_,rfl,_⟩:=id t;refine wpAny_notIn_heap (knd:=bU X.prog X.w) (k:=.tup c) (by show X.A.units+1+8<j2;lia) t V f ?_;have e:(atKey xs<|.tup c).isSome=(aQ d<|.tup c).isSome:=by rcases tP r (.tup c)with⟨z1,z2⟩|⟨_,_,_,z1,z2,_⟩<;>rw[z1,z2]<;>rfl
   rw[e];exact fR (I.tok _) m D q
  |_=>exact q.elim
 |_=>exact q.elim
def nF:p9:=λ_ _ _=>False
theorem CS{st:g7}:DS X st nF:=λp s σ H E I ⟨S,M,ρ,F,m,c,q,D⟩=>q.elim
end
section
variable{X:Cx}{o i e:f6}{to ti te:u8}{pos pos' p apos cpos:f8}{k:Nat}{tg:f6}{es:List f6}{t:D9}{st:g7}
theorem IP:HE X (.Dict [] [] pos) vI:=⟨JO⟩
theorem IR(r:Room k X.A)(D:HE X o to)(hi:HE X i ti)(hs:NoSl i:=by intro _ _;kernel_rfl):HE X (.Subscript o i pos) (iU to ti):=⟨JP r D.ok hi.ok hs⟩
theorem Aa(r:Room k X.A)(D:HE X o to)(hi:HE X i ti)(c:HE X e te)(hs:g9 e (a7<|.Subscript o i pos') pos.line X.env=pure bt:=by kernel_rfl):HS X (.Assign [.Subscript o i pos'] e pos) (qH to ti te):=⟨Gb r D.ok hi.ok c.ok hs⟩
theorem FB(i:Room k X.A)(D:HE X o to)(f:HA X (e::es) t)(h:k9 o "get" X.env (eval o X.env)=eval o X.env:=by kernel_rfl)(w:((f9 cpos<|ge (e::es) X.env).all (λx=>!x.1)&&(l7 cpos<|l8 [] X.env).all (λx=>x.1.isSome) && decide ((e::es).length+([]:List j5).length+(if ([]:List j5).isEmpty then 0 else 1)<30))=a9:=by kernel_rfl)(a:(apos.endLine==cpos.line)=a9:=by kernel_rfl) (hs:ge (e::es) X.env=(bt,eval e X.env)::ge es X.env:=by kernel_rfl) (n:(f9 cpos<|ge es X.env).any (·.1)=bt:=by kernel_rfl):HE X (.Call (.Attribute o "get" apos) (e::es) [] cpos) (NS sO to t):=⟨d_mt MM O4 (BY i) D.ok f.ok h w a hs n⟩
theorem Cq(h:HE X e te):HI X tg e (wU te):=⟨CW h.ok⟩
theorem Cp(D:HE X o to)(e:k9 o "values" X.env (eval o X.env)=eval o X.env:=by kernel_rfl)(a:(apos.endLine==cpos.line)=a9:=by kernel_rfl):HI X tg (.Call (.Attribute o "values" apos) [] [] cpos) (pA to):=⟨CV D.ok e a⟩
theorem Jh(i:Room k X.A):E7 X (j0 .In) Ev:=⟨Im i⟩
theorem An(i:Room k X.A):E7 X (j0 .NotIn) pS:=⟨zH i⟩
theorem wM:HS X st nF:=⟨CS⟩
end
section
variable{X:Cx}{k:Nat}
theorem JX:d7 "max" = a7 (.builtin "max"):=by decide +kernel
end
end L2
namespace L2
open PySem PySem.Spec PyProof.Rows DL PySem.W PySem.Calls PyProof.V
structure PairsAt(es:Array m3)(lo:c6)(h:c8)(as:List c6):Prop where
 nd:as.Nodup
 above:∀a∈as,lo<a
 tup:∀(j:Nat) (a:c6),as[j]?=a7 a->∃e,es[j]?=a7 e/\h.get? a=a7 { cls:=.type "tuple",data:=.seq #[e.key,e.val] }
end L2
namespace L2
open PySem PySem.Spec PyProof.Rows DL PySem.W
section
variable{X:Cx}
def Hg:E1:=λx y M Q=>match x,y with
 |.int i,.int j=>CPow i j/\Q (.int<|i*2 ^ j.toNat) M
 |_,_=>False
theorem Ij:E6 X (i9 .LShift) Hg:=by refine C1.imp HV ?_;rintro f g H R ⟨x,y,M,ρ,Q,s,r,m,q,k⟩;unfold Hg at q;split at q;cases r;cases m;exact⟨_,_,rfl,rfl,q.1,k _ H<|VQ.now s (.int _) q.2⟩;exact q.elim
theorem Jd:E7 X (i9 .LShift) Hg:=⟨Ij⟩
def zm:C6:=λds M Q=>match ds with
 | [.int i,.int j]=>Q (.int<|if j > i then j else i) M
 |_=>False
theorem Gq(f:X.calm=a9):oo X (.builtin "max") zm:=by
 refine gK.imp (AS f) ?_;rintro vs H R ⟨ds,M,ρ,Q,s,a,q,k⟩;unfold zm at q;split at q
 first|have z:=Reps.inv_cons a|have z:=aw.inv_cons a
 clear a;obtain⟨_,_,rfl,r,a⟩:=z
 first|have z:=Reps.inv_cons a|have z:=aw.inv_cons a
 clear a;obtain⟨_,_,rfl,m,a⟩:=z;cases a;cases r;cases m;exact⟨_,_,rfl,k _ H<|VQ.now s (.int _) q⟩;exact q.elim
theorem FR(f:X.calm=a9:=by kernel_rfl):HC X (.builtin "max") zm:=⟨Gq f⟩
theorem ya(i:Room k X.A):HC X (.builtin "sorted") jK:=⟨AO i⟩
end
noncomputable def dictOf(ps:List (D×D)):List (D×D):=ps.foldl (λs p=>iD s p.1 p.2) []
theorem fy:dictOf (ps++[p])=iD (dictOf ps) p.1 p.2:=by unfold dictOf;rw[List.foldl_append];rfl
theorem tR:∀(ps kvs:List (D×D)),(ps.foldl (λkvs p=>iD kvs p.1 p.2) kvs).length<=kvs.length+ps.length
 | [],_=>u5 _
 |p::ps,kvs=>by have h1:=tR ps<|iD kvs p.1 p.2;have h2:=eX (kvs:=kvs) (k:=p.1) (d:=p.2);rw[List.foldl_cons,C7];lia
theorem pz:(dictOf ps).length<=ps.length:=by have:=tR ps [];rw[C0,Nat.zero_add]at this;exact this
theorem tU:entryFor table "dict.update.loop" = a7 Builtin.«dict.update.loop»:=entryFor_of_tree<|by kernel_rfl
theorem jr:plainId "dict.update.loop" = a9:=by decide +kernel
theorem jW:typeLookup (.type "list") "__getattr__" = pure a8:=by rw[N7,Ow];kernel_rfl
theorem nU:typeLookup (.type "list") "keys" = pure a8:=by rw[N7,Ow];kernel_rfl
section
variable{prog:c5}{w:b9}{A:d8}{E:b7->d9->Prop}{h:c8}{g:Array GenState}{d:Drawn}{t:Nat}{os:OsState}{a:c6}{o:c7}
theorem zR(x:h.get? a=a7 o)(i:o.cls=.type "list")(b:o.dict=a8)(c:o.data=.seq its nn)(f:A.handled=a8)(q:∀h' tk e,Heap.NewAttrErr h h' e (.ref a) "keys"->R (.error<|.ref e) ⟨h',g,d,tk,os⟩):j4 (f7 prog w) A (.call (.builtin "list.__getattribute__") ⟨[.ref a,.str "keys" u],[]⟩) R ⟨h,g,d,t,os⟩:=by
 obtain⟨j,k,B,G⟩:=o;obtain rfl:j=.type "list":=i;obtain rfl:k=a8:=b;obtain rfl:B=.seq its nn:=c;have n:(⟨h,g,d,t,os⟩:d9).TypeIs (.ref a) "list":=⟨_,x,rfl⟩
 have y:=nU;refine codeAny_call_builtin OM.plain PySem.F.entry_list_ga<|OM.check _ _ _ _ _ _ _ _ n (PySem.F.args_list_getattribute_2 _ _) ?_;unfold Builtin.«object.__getattribute__»
 repeat (any_goals (first|assumption|wp_step))
 refine wpAny_raiseAttrError (o:=.ref a) (name:="keys") (by first|exact f|simpa using f) q ?_;exact attrMsg_fits (by decide +kernel)<|by size_fits
theorem uX(x:h.get? a=a7 o)(k:o.cls=.type "list")(c:o.dict=a8)(f:o.data=.seq its nn)(j:A.handled=a8)(q:∀h' tk,(∀b ob,h.get? b=a7 ob->h'.get? b=a7 ob)->Q a8 ⟨h',g,d,tk,os⟩):e8 (f7 prog w) A (getAttr? (.ref a) "keys") Q E ⟨h,g,d,t,os⟩:=by
 obtain⟨l,m,B,G⟩:=o;obtain rfl:l=.type "list":=k;obtain rfl:m=a8:=c;obtain rfl:B=.seq its nn:=f;have n:∀tk,(⟨h,g,d,tk,os⟩:d9).TypeIs (.ref a) "list":=λ_=>⟨_,x,rfl⟩
 have r:=sub_AttributeError;have N:=OM.lookup;have p:=OM.bind<|.ref a;have s:=jW;unfold getAttr? getAttrBy? getAttrBy
 repeat (any_goals (first|assumption|exact n _|wp_step))
 refine zR x rfl rfl rfl (by first|exact j|simpa using j) λh' tk e i=>?_;obtain⟨t',F,u⟩:=i.there;unfold getattributeRaised
 repeat (any_goals (first|assumption|wp_step))
 exact q _ _ i.keeps
end
theorem dsetE(u:(bU prog w).room A)(t:(bU prog w).is s.heap k b)(r:s.heap.DictOfH (bU prog w) d xs) (x:dX d xs prog w s.heap) (hz:xs.length<=sizeLine)(m:∀h',dX d (storedH xs k b v) prog w h'->KQ d s.heap h'->Q () { s with heap:=h',toks:=s.toks+(bU prog w).draws k }):e8 (f7 prog w) A (dictSet d (.ref b) v) Q E s:=by
 obtain⟨_,_,_,_,_,_,_,g,f⟩:=r;obtain⟨o,es,D,n,h,c⟩:=x;have i:es.toList=xs.map (d5<|bU prog w):=c;unfold dictSet
 try with_reducible refine E5 ?_
 refine p5<|(bU prog w).pyHash u t ?_;unfold dictSetHashed
 try with_reducible refine E5 ?_
 have z:es.size=xs.length:=size_of_entries i;refine p5<|wpAny_dictFind_heap (s:={ s with toks:=s.toks+(bU prog w).draws k }) u t D h i g f (λa=>?_) λj p L=>?_;refine p5<|Kg<|wpAny_updateDictKeys (hz:=by lia) (s:={ s with toks:=s.toks+(bU prog w).draws k }) D h<|m _ ⟨_,es.push ⟨(bU prog w).hash k,.ref b,v⟩,Kk _ D<|NG<|ML h _,n.mapDictKeys _,?_,?_⟩<|Ky ..;rw[ML h,storedH_new<|Og a,x5];rfl;rw[storedH_new<|Og a];rw[Oj,i,G7];rfl;refine p5<|Kg<|p5<|wpAny_updateDict (s:={ s with toks:=s.toks+(bU prog w).draws k }) D h<|wpAny_point<|m _ ⟨_,es.modify j λe=>{ e with val:=v },Kk _ D<|NG<|Oc h _,n.mapDict _,?_,?_⟩<|Ky ..;rw[Oc h,storedH_old<|atKey_of_get f L,u4];rw[storedH_old<|atKey_of_get f L];have q:=modify_map_putAt (d5<|bU prog w) (λe:m3=>{ e with val:=v }) k v (λ_ _=>rfl) f L;rw[<-i]at q;obtain⟨l⟩:=es;have y:(Array.modify ⟨l⟩ j λe:m3=>{ e with val:=v }).toList=(xs.map<|putAt k v).map (d5<|bU prog w):=by simpa using q
 exact y
section
variable{X:Cx}{pins:List (c6×c7)}{σ:St}{H:Hp}{ρ:List c6}{M:tx}{A:d8}{E:b7->d9->Prop}{s:d9}
structure DD(X:Cx)(ρ:List c6)(H:Hp)(h:c8)(a:c6)(kvs:List (D×D))(xs:List (D×c6×b7)):Prop where
 dx:dX a xs X.prog X.w h
 kv:Paired (yt X.K ρ H) kvs xs
 nd:(kvs.map (·.1)).Nodup
theorem DD.at(x:DD X ρ H h a kvs xs)(k:∀o,h.get? a=a7 o->h'.get? a=a7 o):DD X ρ H h' a kvs xs:=by obtain⟨⟨o,es,t,m,R,J⟩,v,p⟩:=x;exact⟨⟨o,es,k _ t,m,R,J⟩,v,p⟩
theorem DD.len(x:DD X ρ H h a kvs xs):xs.length=kvs.length:=by
 have:=o8 Km<|iO x.kv
 rwa [u4,u4]at this
theorem DD.of(I:p7 X pins σ H s)(x:DD X ρ H s.heap a kvs xs):s.heap.DictOfH (bU X.prog X.w) a xs:=by obtain⟨o,es,t,m,R,J⟩:=x.dx;have k:=iO x.kv;refine⟨o,es,_,t,m,R,J,λy Q=>?_,by rw[k];exact x.nd⟩;obtain⟨i,hi⟩:=K9 Q;obtain⟨p,_,c,j,q,_⟩:=dU x.kv hi;rw[<-c];exact eW I 8 _ _ _ q rfl j
theorem Gj(I:p7 X pins σ H s)(hu:A.units+20<j2)(W:Walks X.prog X.w A.in1 J fp wr m P Sx)(S:c6)(x:S∉fp)(N:s.heap.get? S=a8) (E:∀b∈wr,s.heap.get? b=a8) (ps:List (D×D)) (hm:ps.length=m) (C:∀i v,P i v->∃p,ps[i]?=a7 p/\(∃vv,t5 X.K ρ H (.tup [p.1,p.2]) vv/\aN vv v)/\cY 8 p.1=a9/\gu p.1=a9) (hb:m<=1000):∀(k i:Nat) (h:c8) (tk:Nat) (xs:List (D×c6×b7)) (j:Int) (t:Tok),m-i=k->i<=m->Sx i h->DD X ρ H h S (dictOf<|ps.take i) xs->(∀b u,s.heap.get? b=a7 u->h.get? b=a7 u) ->(∀h' tk xs',(∀b u,s.heap.get? b=a7 u->h'.get? b=a7 u)->DD X ρ H h' S (dictOf ps) xs'->R (.ok<|.ret .none) { s with heap:=h',toks:=tk }) ->j4 (f7 X.prog X.w) A (.builtin "dict.update.loop" ⟨[.ref S,.ref J,.int j t,.none],[]⟩) R { s with heap:=h,toks:=tk }:=by
 have y:S∉wr:=λh=>x<|W.sub _ h;intro k;induction k with
 |zero =>
  intro i h tk xs j t hk hi q G f Z;obtain rfl:i=m:=by lia
  refine LQ tU ?_;rw[Ms jr _];refine(show e8 (f7 X.prog X.w) A.in1 (i4 (.ref J) >>= _) _ _ _ from p5<|W.done _ _ _ q λh' tk d=>?_);rw[<-hm,K8]at G;refine(show e8 (f7 X.prog X.w) A.in1 (Builtin.Dict.addKeywords S [] >>= _) _ _ _ from p5<|p8<|p8 ?_);exact Z h' tk xs (λb u e=>d b u (λz=>by rw[E b z]at e;cases e)<|f b u e)<|G.at λo e=>d S o y e
 |succ k ih =>
  intro i h tk xs j t hk hi q G f Z;refine LQ tU ?_;rw[Ms jr _];refine(show e8 (f7 X.prog X.w) A.in1 (i4 (.ref J) >>= _) _ _ _ from p5<|W.item i _ _ _ (by lia) q λv h' tk hP B d=>?_);obtain⟨p,hp,⟨vv,r,rv⟩,kd,it⟩:=C i v hP;have n:∀b u,s.heap.get? b=a7 u->h'.get? b=a7 u:=λb u e=>d b u (λz=>by rw[E b z]at e;cases e)<|f b u e;have L:p7 X pins σ H { s with heap:=h',toks:=tk }:=I.kept n;have c:=G.at λo e=>d S o y e;have hl:=c.len;have dl:=pz (ps:=ps.take i);have dd:=c.of (s:={ s with heap:=h',toks:=tk }) L;obtain⟨a,vs,rfl,hq,l⟩:=t5.inv_tup r;cases rv
  first|have g:=Reps.inv_cons l|have g:=aw.inv_cons l
  clear l;obtain⟨_,_,rfl,r1,l⟩:=g
  first|have g:=Reps.inv_cons l|have g:=aw.inv_cons l
  clear l;obtain⟨_,_,rfl,r2,l⟩:=g;cases l;obtain⟨its,U,pl,hz⟩:=L.tuple hq;obtain⟨u1,u2,rfl,Y,e2⟩:=aw.two U;obtain⟨k0,d0⟩:=p;cases k0 with
  |tup ks =>
   have F:=eW L 8 _ _ _ r1 Y kd;obtain⟨b,_,rfl,_⟩:=id F;obtain⟨_,_,rfl,Q,V⟩:=t5.inv_tup r1;cases Y;obtain⟨o,ho,hc,nn,hd⟩:=pl;have hT:({ s with heap:=h',toks:=tk }:d9).TypeIs (.ref a) "tuple":=⟨o,ho,hc⟩
   refine p5<|E5<|p5<|wpAny_tryCatch ?_;unfold Builtin.Dict.pairItems;refine p5<|LL hT ?_;rw[n6<|by decide];refine p5<|Mf ho hd<|p8 ?_;refine(show e8 (f7 X.prog X.w) _ (g8 [.ref b,u2]<|dictSet S (.ref b) u2) _ _ _ from E5 ?_);refine dsetE (k:=.tup ks) (s:={ s with heap:=h',toks:=tk }) (by show A.units+1+8<j2;lia) F dd c.dx (ao<|by rw[hl];rw[J1]at dl;lia) λh2 M sb=>?_;have k2:∀b u,b≠S->h'.get? b=a7 u->h2.get? b=a7 u:=λb u hb e=>(sb.2 b hb).trans e;have T:=DB c.kv kd (.tup Q V) r2 e2;have et:ps.take (i+1)=ps.take i++[(.tup ks,d0)]:=by rw[Lm,hp];rfl
   refine p8 ⟨Md jr _,ih (i+1) h2 _ _ _ _ (by lia) (by lia) (W.frame _ h' h2 B λb' O o e=>k2 b' o (λz=>x<|z ▸ O) e) ⟨M,?_,?_⟩ (λb u e=>k2 b u (λz=>by rw[z,N]at e;cases e)<|n b u e) Z⟩;rw[et,fy];exact T;rw[et,fy];exact pT c.nd
  |_=>cases it
theorem Gs(I:p7 X pins σ H s)(Z:A.units+30<j2)(B:A.handled=a8)(C:s.heap.IsList l its)(f:s.heap.get? l=a7 ol)(t:ol.dict=a8)(ps:List (D×D))(R:ps.length=its.size)(y:∀(i:Nat) v,its[i]?=a7 v->∃p:D×D,ps[i]?=a7 p/\(∃vv,t5 X.K ρ H (.tup [p.1,p.2]) vv/\aN vv v)/\cY 8 p.1=a9/\gu p.1=a9) (P:its.size<=1000)(h:∀h' tk xs,(∀b u,s.heap.get? b=a7 u->h'.get? b=a7 u)->DD X ρ H h' s.heap.objs.size (dictOf ps) xs->Q (.ref s.heap.objs.size) { s with heap:=h',toks:=tk }):e8 (f7 X.prog X.w) A (call (.type "dict") [.ref l]) Q E s:=by
 refine callType_codes (Q₁:=λj s₁=>j=.ref s.heap.objs.size/\s₁={ s with heap:=s.heap.push { cls:=.type "dict",data:=.dict #[] } }) PySem.F.kt_called_dict (PySem.F.kt_typeCall_dict_1 _) PySem.F.entry_dict_init (kt_code_dict_new _ ⟨rfl,rfl⟩) ?_;rintro j s₁ ⟨rfl,rfl⟩;have S:(s.heap.push { cls:=.type "dict",data:=.dict #[] }).get? s.heap.objs.size=a7 { cls:=.type "dict",data:=.dict #[] }:=A8 _ rfl;have z:Np { s with heap:=s.heap.push { cls:=.type "dict",data:=.dict #[] } } (.ref s.heap.objs.size) "dict":=⟨_,S,rfl⟩
 obtain⟨a,O,r,nn,m⟩:=id C;obtain rfl:a=ol:=C4<|O.symm.trans f;have c:(s.heap.push { cls:=.type "dict",data:=.dict #[] }).get? l=a7 a:=v7 _ f;have L:Np { s with heap:=s.heap.push { cls:=.type "dict",data:=.dict #[] } } (.ref l) "list":=⟨a,c,r⟩
 have V:l<s.heap.objs.size:=v9 f;refine⟨z,PySem.F.args_dict_init_2 _ _,?_⟩;unfold Builtin.«dict.__init__»;refine p5 ?_;unfold Builtin.Dict.selfAndRest;refine p5<|NJ z ?_;refine(show e8 _ _ (pure (s.heap.objs.size,[ABO l])) _ _ _ from p8 ?_);refine(show e8 _ _ (Builtin.Dict.updateFrom "dict.__init__" s.heap.objs.size (.ref l) [] .none) _ _ _ from ?_);unfold Builtin.Dict.updateFrom;refine p5<|LL L ?_;rw[n6<|by decide];refine p5<|uX c r t m (by simpa using B) λh1 x J=>?_;have k:∀b u,s.heap.get? b=a7 u->h1.get? b=a7 u:=λb u e=>J b u<|v7 _ e;rw[n6<|show (a8:Option b7).isNone=a9 from rfl];refine p5<|Kg ?_;obtain⟨oI,St,n,W,Y⟩:=(TxSrc.list (prog:=X.prog) (w:=X.w) C).iter A.in1.in1 { s with heap:=h1,toks:=x } (by simpa using B) λo e=>k _ _ e;refine p5<|n _ _ ?_;have d:=J _ _ S;have M:s.heap.objs.size<h1.objs.size:=v9 d;have G:s.heap.get? s.heap.objs.size=a8:=by
  cases q:s.heap.get? s.heap.objs.size with
  |none=>rfl
  |some o=>exact o0 (v9 q)<|G5 _
 refine p8 ⟨Md jr _,Gj (A:=A.in1) (s:=s) I (by show A.units+1+20<j2;lia) W s.heap.objs.size ?_ G ?_ ps R y P its.size 0 _ _ [] _ _ rfl (w4 _) Y ⟨⟨_,#[],v7 _ d,⟨rfl,rfl,rfl⟩,rfl,rfl⟩,.nil,Nr⟩ (λb u e=>v7 _<|k b u e) λh2 T xs U N=>⟨rfl,h h2 T xs U N⟩⟩;simp only[z5,List.not_mem_nil,or_false,not_or];exact⟨x6 M,Nat.ne_of_gt V⟩;intro b g;rw[J3.mp g];cases q:s.heap.get? h1.objs.size with
 |none=>rfl
 |some o=>exact o0 (Nat.lt_trans (v9 q) M)<|G5 _
end
section
variable{X:Cx}{k:Nat}
def iC:C6:=λds M Q=>match ds with
 | [.ref n]=>∃ps:List (D×D),al M n (ps.map λp=>.tup [p.1,p.2])/\(∀p∈ps,cY 8 p.1=a9/\gu p.1=a9)/\ps.length<=1000/\Q (.ref M.length) (M++[.dkt<|dictOf ps])
 |_=>False
theorem AR(J:Room k X.A)(D:X.calm=a9):oo X (.type "dict") iC:=by
 rintro x s σ H vs us R I W ⟨ds,M,ρ,Q,n,c,q,N⟩;have un:=J.un;unfold iC at q;split at q;obtain⟨ps,L,F,hl,q⟩:=q
 first|have z:=Reps.inv_cons c|have z:=aw.inv_cons c
 clear c;obtain⟨_,_,rfl,l,c⟩:=z;cases c;obtain⟨u,rfl,t⟩:=aw.one W;obtain⟨a,rfl,e⟩:=t5.inv_ref l;cases t;obtain⟨ws,G,r⟩:=al.seq n L e;obtain⟨its,B,y,hz⟩:=I.list G;obtain⟨oa,nn,j,E,b,h⟩:=id y;have O:=r.length;have li:=B.length;rw[u4]at O;have f:H s.heap.objs.size=a8:=I.hok.fresh<|u5 _;have C:(s.heap.objs.size==c9)=bt:=beq_eq_false_iff_ne.mpr<|C3<|x6 I.big;refine Gs (A:=X.A) (ρ:=ρ) I (by lia) (I.ok.hd D) y.isList j b ps (by rw[x9];lia) (λi v K=>?_) (by rw[x9];lia) λh' Y xs kp g=>?_;obtain⟨d,Z,t,l,m⟩:=uE r B (i:=i) (u:=v) (by simpa using K);rw[C8]at t;obtain⟨p,w,rfl⟩:=LB.mp t;exact⟨p,w,⟨Z,l,m⟩,F p<|F8 w⟩;have dl:=pz (ps:=ps);refine⟨.ref s.heap.objs.size,_,I.laid (a:=s.heap.objs.size) (o:=.ext<|dX s.heap.objs.size xs) (t':=Y) kp (u5 _)<|vF g.dx,rfl,?_⟩;exact N _ _ ⟨.ref M.length,M++[.dkt<|dictOf ps],ρ++[s.heap.objs.size],n.laidM (mo:=.dkt<|dictOf ps) f ⟨ao (by lia),C,g.nd,xs,bx,Paired.mapP g.kv λ_ _ ⟨P,S,T,v,U,V⟩=>⟨P,S,T.grow<|Grow.laidR f,v,U.grow<|Grow.laidR f,V⟩⟩,Grow.laidR f,.ref n.last,q⟩;exact q.elim
theorem Ar(i:Room k X.A)(f:X.calm=a9:=by kernel_rfl):HC X (.type "dict") iC:=⟨AR i f⟩
end
noncomputable abbrev EE(M:tx)(R:DK):DEnds:=⟨λ_ M'=>aO M R .non M',aO M R,λ_ _=>False,λ_ _=>False⟩
noncomputable def Pl(n:Nat)(ds:List D):SD:=ds.map a7++Nt (n-ds.length) a8
abbrev v8(Pr:v6)(n:Nat)(t:p9):Prop:=∀ds M R,Pr ds M R->t (EE M R) (Pl n ds) M
abbrev cy(Pr:v6)(p:List b8):Prop:=∀ds M R,Pr ds M R->ds.length=p.length
abbrev DerT(P:c5)(w:b9)(K:t6)(mg:b8->Option b7)(base:c8)(k:Nat)(x:b8)(N:List b8)(st:g7)(t:p9):Prop:=∀(f:c6) (cdv:b7) (A:d8) (outer:List Env) (s:d9) (H:Hp) (E:XK),Room k (A.deeper<|PyProof.Rows.envOfC x (au st) s.heap.objs.size f cdv)->HB (yq I0 P w K mg base N x (au st) f cdv A outer s H E).nox (cg st) t
def wT(c:E8)(t:p9):p9:=λE S M=>∃W:Nat->SD->tx->Prop,(∃m,W m S M)/\∀m S M,W m S M ->c S M λb e=>if b=a9 then t ⟨λd a=>∃g,g < m/\W g d a,E.rt,E.nx,λd a=>∃g,g < m/\W g d a⟩ S e else E.nx S e
theorem xP{K:t6}{c:E8}{o:p9}(E:Ends)(σ:St)(H:Hp)(h:lowS K (wT c o) E σ H):Dr (lowT K c) (lowS K o) E σ H:=by
 obtain⟨S,M,ρ,F,s,G,⟨W,⟨C,I⟩,t⟩,k⟩:=h;refine⟨λm τ j=>∃a M2 d,u6 K d M2 j/\Grow K ρ H d j/\SRep K d j a τ/\W m a M2,⟨C,S,M,ρ,s,.refl,G,I⟩,?_⟩;rintro m τ j ⟨a,M2,d,D,A,r,J⟩;refine⟨a,M2,d,_,D,r,t m a M2 J,?_⟩;rintro b p ⟨l,i,u,g3,q⟩;have g:=A.trans g3;cases b with
 |true =>
  have n:∀e Y,SQ K i p (λx w=>∃f,f < m/\W f x w) e Y->∃f,f < m/\∃a M2 d,u6 K d M2 Y/\Grow K ρ H d Y/\SRep K d Y a e/\W f a M2:=λe Y ⟨y,Z,O,s5,B,L,f,lt,N⟩=>⟨f,lt,y,Z,O,s5,g.trans B,L,N⟩
  refine dI ⟨_,λP H' z=>z,a,l,i,_,u,r.grow g3,(show o _ a l from q),?_⟩;exact⟨n,λv Y z=>k.rt v Y<|VQ.trans g z,λe Y z=>k.nx e Y<|SQ.trans g z,n⟩
 |false=>exact cP<|k.nx τ p ⟨a,l,i,u,g,r.grow g3,(show F.nx a l from q)⟩
section
variable{X:Cx}{c:f6}{body:List g7}{tc:E8}{tb:p9}{pos:f8}
theorem wL(f:HT X c tc)(d:HB X body tb)(p:PassesOwn (f7 X.prog X.w) X.A X.env X.xe:=by exact PassesOwn.never):HS X (.While c body [] pos) (wT tc tb):=⟨PS.imp (BD p f.ok d.ok) xP⟩
end
inductive TopB(mg:b8->Option b7):List b8->List (b8×Int)->Prop
 |nil:TopB mg [] []
 |b {x:b8}{B:List b8}{C:List (b8×Int)} (h:mg x=a8) (t:TopB mg B C):TopB mg (x::B) C
 |c {x:b8}{i:Int}{C:List (b8×Int)} (h:∃t,mg x=a7 (.int i t)) (t:TopB mg [] C):TopB mg [] ((x,i)::C)
theorem TopB.no(h:TopB mg B C)(c:B.contains x=a9):mg x=a8:=by
 induction h with
 |nil=>simp at c
 |b h _ i=>simp only[List.contains_cons,Nv,o5]at c;rcases c with rfl|c;exact h;exact i c
 |c _ _ _=>simp at c
noncomputable def nodB:List b8->Bool
 | []=>a9
 |x::xs=>!xs.contains x&&nodB xs
theorem Ip:∀{l:List b8},nodB l=a9->l.Nodup
 | [],_=>Nr
 |x::xs,h=>by simp only[nodB,D8,Bool.not_eq_true',List.contains_eq_mem,decide_eq_false_iff_not]at h;exact Kp.mpr ⟨h.1,Ip h.2⟩
noncomputable def tgN:f6->List b8
 |.Name x _=>[x]
 |.Tuple es _ _=>es.filterMap fun|.Name x _=>a7 x|_=>a8
 |_=>[]
noncomputable abbrev LF(N:List b8)(js:List Nat)(tg:f6):List b8:=tgN tg++js.map λj=>N.getD j ""
section
variable{X:Cx}{tg iter elt:f6}{ifs:List f6}{scope:e6}{nt i:Nat}{js:List Nat}{di:Ks}{g:G4}{tt:E8}{te:u8}{pos pos' pos2:f8}{x:b8}
theorem k_lcN(hi:HI X tg iter di)(S:∀cl s0 H0 ex,HG (z6 X (LF X.N js tg) scope cl s0 H0 ex) tg g)(E:∀cl s0 H0 ex,Mw (z6 X (LF X.N js tg) scope cl s0 H0 ex) ifs tt)(i:∀cl s0 H0 ex,HE (z6 X (LF X.N js tg) scope cl s0 H0 ex) elt te)(B:pC X.env.scope.names X.N (LF X.N js tg) nt js scope=a9:=by kernel_rfl) (f:X.calm=a9:=by kernel_rfl) (hs:∀x,i8 iter X.env x=pure x:=by intro _;kernel_rfl):HE X (.ListComp elt [⟨tg,iter,ifs,0⟩] scope pos) (D1 nt js di g tt te):=k_lc hi S E i B f hs
theorem tQ(a:X.N.Nodup)(hi:HI X tg iter di)(S:∀cl s0 H0 ex,HG (z6 X (LF X.N js tg) scope cl s0 H0 ex) tg g)(E:∀cl s0 H0 ex,Mw (z6 X (LF X.N js tg) scope cl s0 H0 ex) ifs tt)(e:∀cl s0 H0 ex,HE (z6 X (LF X.N js tg) scope cl s0 H0 ex) elt te)(B:pC X.env.scope.names X.N (LF X.N js tg) nt js scope=a9:=by kernel_rfl) (f:X.calm=a9:=by kernel_rfl) (hs:∀x,i8 iter X.env x=pure x:=by intro _;kernel_rfl) (w:g9 (.ListComp elt [⟨tg,iter,ifs,0⟩] scope pos) (a7<|.Name x pos') pos2.line X.env=pure a9:=by kernel_rfl)(h:X.N[i]?=a7 x:=by kernel_rfl) (c:GF X.env.scope x=a9:=by kernel_rfl) (b:X.fn x=a9:=by kernel_rfl):HS X (.Assign [.Name x pos'] (.ListComp elt [⟨tg,iter,ifs,0⟩] scope pos) pos2) (iA nt js di g tt te i):=Cm a hi S E e B f hs w h c b
theorem gA(h:HA X es t):HA X es t:=h
theorem gE(h:HE X e te):HE X e te:=h
theorem gCall(h:HE X (.Call a b c pos) te):HE X (.Call a b c pos) te:=h
theorem gIx(h:HE X (.Subscript a b pos) te):HE X (.Subscript a b pos) te:=h
theorem Jq(h:HE X (.Constant a b pos) te):HE X (.Constant a b pos) te:=h
theorem gT(h:HT X e tt):HT X e tt:=h
theorem gS{st:g7}{t:p9}(h:HS X st t):HS X st t:=h
theorem gOp(h:E7 X f r):E7 X f r:=h
theorem gC(h:HC X f r):HC X f r:=h
theorem FS{b:List g7}{st:g7}{s:List g7}{t:p9}(h:b=st::s)(q:HB X (st::s) t):HB X b t:=h ▸ q
end
section
variable{P:c5}{w:b9}{K:t6}{mg:b8->Option b7}{base:c8}{x:b8}{st:g7}{N ps:List b8}{k:Nat}{Pr:v6}{B:List b8}{C:List (b8×Int)}{t:p9}
theorem t9.byD(T:TopB mg B C)(F:bV K mg x st ps)(i:FnScope N ps (au st))(n:cy Pr ps)(r:TopB mg B C->N.Nodup->DerT P w K mg base k x N st t)(p:∀ds M R,Pr ds M R->t (EE M R) (eJ N ds) M):t9 P w K mg base (k+1) x ps Pr:=t9.byH F i n (r T i.nd) p
theorem CL(T:TopB mg B C)(F:KO K x x st f fd)(i:FnScope N ps (au st))(n:cy Pr ps)(r:TopB mg B C->N.Nodup->DerT P w K mg base k x N st t)(p:∀ds M R,Pr ds M R->t (EE M R) (eJ N ds) M):FnOk P w K mg base I0 (k+1) f fd ps (KL K Pr):=CK F i n (r T i.nd) p
end
section
variable{X:Cx}{pins:List (c6×c7)}{σ:St}{H:Hp}{s:d9}{a:c6}
structure Pm(X:Cx)(pins:List (c6×c7))(H:Hp)(a:c6):Prop where
 un:H a=a8
 ne:a≠X.env.locals
 fs:a∉X.fs
 s0:X.s₀.heap.objs.size<=a
 cl:∀x c,X.env.cells.lookup x=a7 c->c≠a
 pn:∀p∈X.pn++pins,p.1≠a
end
section
variable{X:Cx}{pins:List (c6×c7)}{σ:St}{ρ:List c6}{M:tx}
structure KySt(X:Cx)(pins:List (c6×c7))(σ:St)(ρ:List c6)(M:tx)(m:b8->Option b7)(kS aD:c6)(e1:Nat)(H0 H:Hp)(s:d9)(ks:List b7)(e:Nat):Prop where
 inv:p7 X pins σ H s
 ns:s.heap.Ns X.env.locals m
 sm:u6 X.K ρ M H
 gr:Grow X.K ρ H0 ρ H
 hk:s.heap.get? kS=a7 (m6 "list" (Nn ks) e)
 hd:s.heap.get? aD=a7 (m6 "list" #[] e1)
 ok:Pm X pins H kS
 od:Pm X pins H aD
 ne:aD≠kS
end
structure BlkScC(X:Cx)(N':List b8)(nt:Nat)(js:List Nat)(scope:e6):Prop where
 kind:scope.kind=.function
 kinds:∀y∈scope.names,scope.names.lookup y.1=a7 y.2
 free:∀y∈scope.names,y.2=.free->(X.env.kindOf y.1=a7 .cell\/X.env.kindOf y.1=a7 .free)
 len:N'.length=nt+js.length
 fr:∀(k j:Nat),js[k]?=a7 j->∃x,N'[nt+k]?=a7 x/\X.N[j]?=a7 x/\scope.names.lookup x=a7 .free/\(X.env.kindOf x=a7 .cell\/X.env.kindOf x=a7 .free)
structure CfOk(h:c8)(k:Nat)(names:List (b8×j6))(acc cs:List (b8×c6)):Prop where
 look:∀z c,cs.lookup z=a7 c->(acc.lookup z=a7 c/\(z,LN)∉names)\/((z,LN)∈names/\k<=c/\h.IsCell c a8)
 inj:∀y z c,cs.lookup y=a7 c->cs.lookup z=a7 c->y=z
 old:∀z c,acc.lookup z=a7 c->∃c',cs.lookup z=a7 c'
 new:∀z,(z,LN)∈names->∃c,cs.lookup z=a7 c
def Gi(i:Nat):G4:=ak i
section
variable{K:t6}{ρ:List c6}{H:Hp}
theorem lI:∀{kvs:List (b8×D)}{vs:List V},Reps K ρ H (kvs.map (·.2)) vs->ie kvs k=a8->yA (ls (kvs.map (·.1)) vs) (ABb k)=a8
 | [],_,_,_=>by rfl
 |(k',d')::kvs,_,.cons (v:=v) (vs:=vs) h t,e=>by
  have hk:k'≠k:=λz=>by subst z;simp[ie]at e
  have e':ie kvs k=a8:=by
   have:ie ((k',d')::kvs) k=ie kvs k:=by simp[ie,hk]
   rw[<-this];exact e
  have q:=lI t e';show yA ((ABb k',v)::ls (kvs.map (·.1)) vs) (ABb k)=a8;rw[vS<|λz=>hk<|by injection z];exact q
end
section
variable{X:Cx}{o:f6}{pos:f8}{k:Nat}{name:b8}{id:String}{e:f6}{es:List f6}{to:u8}{t:D9}{apos cpos:f8}
def M9(r:Nat->C6)(e:u8)(t:D9):u8:=λS M Q=>e S M λx a=>match x with
 |.ref n=>(∃s,a[n]?=a7 (.dct s))/\t S a λds M2=>r n ds M2 Q
 |_=>False
theorem d_mk(slot:Slot "dict" name id)(y:k7 (.builtin id)=pure (.type "method_descriptor"))(V:Ix X id (jV X.K r))(W:DE X o to)(U:DA X (e::es) t)(c:k9 o name X.env (eval o X.env)=eval o X.env:=by rfl)(f:((f9 cpos<|ge (e::es) X.env).all (λx=>!x.1)&&(l7 cpos<|l8 [] X.env).all (λx=>x.1.isSome) && decide ((e::es).length+([]:List j5).length+(if ([]:List j5).isEmpty then 0 else 1)<30))=a9:=by rfl)(d:(apos.endLine==cpos.line)=a9:=by rfl) (hs:ge (e::es) X.env=(bt,eval e X.env)::ge es X.env:=by rfl) (h:(f9 cpos<|ge es X.env).any (·.1)=bt:=by rfl):DE X (.Call (.Attribute o name apos) (e::es) [] cpos) (M9 r to t):=by
 rintro p s σ H R I ⟨S,M,ρ,Q,sm,J,q,Y⟩;refine Oz c f d rfl<|u9 (W p s σ H _ I ⟨S,M,ρ,_,sm,J,q,λv H' z=>z⟩) ?_;rintro u s1 ⟨v,L,C,rv,x,i,A,j,g1,r1,g⟩;cases r1 with
 |@ref n a G =>
  cases rv;obtain⟨⟨k,T⟩,g⟩:=(show (∃k,i[n]?=a7 (.dct k))/\t S i _ from g)
  obtain⟨ws,P,_⟩:=j.obj _ _ _ G T;obtain⟨z1,z2,ai,aj,D⟩:=Gg C.hok P;refine⟨"dict",id,OB,slot,y,D.typeIs,λb z=>?_,?_⟩;cases z;obtain⟨Z,_,_,h1,h2,_⟩:=D;exact⟨Z,h1,h2.2.1⟩;have F:=U cpos p s1 σ L _ C ⟨S,i,A,_,j,J.grow g1,g,λvs H' z=>z⟩;rw[hs]at F ⊢;refine MN (by show (bt||(f9 cpos<|ge es X.env).any (·.1))=bt;rw[h]<;>rfl)<|Ou ?_;refine u9 F ?_;rintro us s2 ⟨vs,N,O,l,ds,M2,B,m,E,rr,q2⟩;exact V p s2 σ N (.ref a) vs (.ref a) us R O rfl l ⟨n,a,ds,M2,B,Q,rfl,aq E.pre G,m,rr,q2,λv H' w=>Y v H'<|VQ.trans (g1.trans E) w⟩
 |_=>exact g.elim
def wC(n:Nat):C6:=λds M Q=>match ds with
 | [.str x,d]=>∃s,M[n]?=a7 (.dct s)/\Q ((ie s x).getD d) M
 |_=>False
theorem Cd:Ix X "dict.get" (jV X.K wC):=by
 rintro p s σ H x xs v us R I G F ⟨n,a,ds,M,ρ,Q,o,A,m,f,q,D⟩;unfold wC at q;split at q;rename_i x d;obtain⟨b,y,q⟩:=q;have z:=Reps.inv_cons f;clear f;obtain⟨_,_,rfl,C,f⟩:=z;have z:=Reps.inv_cons f;clear f;obtain⟨_,_,rfl,E,f⟩:=z;obtain rfl:=Reps.inv_nil f;obtain rfl:=t5.inv_str C;obtain⟨S,J,rfl,t,h⟩:=aw.two F;subst o;obtain rfl:v=ABO a:=G;obtain⟨N,u,r⟩:=m.obj _ _ _ A y;obtain⟨O,L,B,l,g⟩:=Gg I.hok u;refine MB MM g.typeIs O8 (Pa _ _ _) (meets_dict_get_default (eD X.prog X.w) a (IW (k:=ABb x) t) L J) ⟨_,g.mapOf,?_⟩;cases c:ie b x with
 |none=>rw[c]at q;exact⟨_,H,I.tok _,(by have:=(l.val<|ABb x).getD h;rw[lI r c]at this;exact this),D _ _ ⟨d,M,ρ,m,.refl,E,q⟩⟩
 |some i=>rw[c]at q;obtain⟨Y,j,e⟩:=kX r c;exact⟨_,H,I.tok _,(by have:=(l.val<|ABb x).getD h;rw[j]at this;exact this),D _ _ ⟨i,M,ρ,m,.refl,e,q⟩⟩
 exact q.elim
def wB(n:Nat):C6:=λds M Q=>match ds with
 | [.str x,d]=>∃s,M[n]?=a7 (.dct s)/\s.length<sizeLine/\(∀y,ie s x=a7 y->Q y M)/\(ie s x=a8->Q d (M.set n<|.dct<|qP s x d))
 |_=>False
theorem Cc:Ix X "dict.setdefault" (jV X.K wB):=by
 rintro G s σ H x xs v us R I rx rs ⟨n,a,ds,M,ρ,Q,S,D,t,f,q,E⟩;unfold wB at q;split at q;rename_i x d;obtain⟨b,C,hl,Y,Z⟩:=q;have z:=Reps.inv_cons f;clear f;obtain⟨_,_,rfl,r1,f⟩:=z;have z:=Reps.inv_cons f;clear f;obtain⟨_,vd,rfl,J,f⟩:=z;obtain rfl:=Reps.inv_nil f;obtain rfl:=t5.inv_str r1;obtain⟨u1,L,rfl,P,A⟩:=aw.two rs;subst S;obtain rfl:v=ABO a:=rx;obtain⟨ws,m,r⟩:=t.obj _ _ _ D C;obtain⟨z1,O,B,l,y⟩:=Gg I.hok m;refine MB OJ y.typeIs PySem.F.entry_dict_setdefault (PySem.F.args_dict_setdefault_3 _ _ _) (kt_meets_setdefault (eD X.prog X.w) a (IW (k:=ABb x) P) O L) ⟨B,y,by rw[<-l.length];exact z1,λw' i=>?_,λi h' e sb=>?_⟩;cases c:ie b x with
 |none=>have:=l.val<|ABb x;rw[lI r c,i]at this;exact this.elim
 |some u=>obtain⟨w0,j,h⟩:=kX r c;have:=l.val<|ABb x;rw[j,i]at this;exact⟨_,H,I.tok _,this,E _ _ ⟨u,M,ρ,t,.refl,h,Y _ c⟩⟩
 cases c:ie b x with
 |some u=>obtain⟨w0,j,h⟩:=kX r c;have:=l.val<|ABb x;rw[j,i]at this;exact this.elim
 |none =>
  obtain⟨p,T,g⟩:=Ey (k:=x) J r;obtain⟨w1,N⟩:=t.writeD D C m g;have U:∃q,h'.get? a=a7 q:=let ⟨q,_,_,hq,_⟩:=e;⟨q,hq⟩
  have lw:=r.length;have o:KV (ls ((qP b x d).map (·.1)) p) (stored B (ABb x) L):=by rw[<-T];exact l.put (ABb x) A
  have W:(ls ((qP b x d).map (·.1)) p).length<=sizeLine:=by
   have V:=g.length;have l2:(qP b x d).length<=b.length+1:=by unfold qP;split<;>simp
   rw[u4]at V;rw[ls,u4,List.length_zip,u4];lia
  exact⟨_,_,vH I (by rw[m];exact LK) sb U<|JG W O o e,A,E _ _ ⟨d,_,ρ,w1,N,J.grow N,Z c⟩⟩
 exact q.elim
theorem FE(D:HE X o to)(f:HA X (e::es) t)(h:k9 o "get" X.env (eval o X.env)=eval o X.env:=by kernel_rfl)(w:((f9 cpos<|ge (e::es) X.env).all (λx=>!x.1)&&(l7 cpos<|l8 [] X.env).all (λx=>x.1.isSome) && decide ((e::es).length+([]:List j5).length+(if ([]:List j5).isEmpty then 0 else 1)<30))=a9:=by kernel_rfl)(a:(apos.endLine==cpos.line)=a9:=by kernel_rfl) (hs:ge (e::es) X.env=(bt,eval e X.env)::ge es X.env:=by kernel_rfl) (n:(f9 cpos<|ge es X.env).any (·.1)=bt:=by kernel_rfl):HE X (.Call (.Attribute o "get" apos) (e::es) [] cpos) (M9 wC to t):=⟨d_mk MM O4 Cd D.ok f.ok h w a hs n⟩
theorem FD(D:HE X o to)(f:HA X (e::es) t)(h:k9 o "setdefault" X.env (eval o X.env)=eval o X.env:=by kernel_rfl)(w:((f9 cpos<|ge (e::es) X.env).all (λx=>!x.1)&&(l7 cpos<|l8 [] X.env).all (λx=>x.1.isSome) && decide ((e::es).length+([]:List j5).length+(if ([]:List j5).isEmpty then 0 else 1)<30))=a9:=by kernel_rfl)(a:(apos.endLine==cpos.line)=a9:=by kernel_rfl) (hs:ge (e::es) X.env=(bt,eval e X.env)::ge es X.env:=by kernel_rfl) (n:(f9 cpos<|ge es X.env).any (·.1)=bt:=by kernel_rfl):HE X (.Call (.Attribute o "setdefault" apos) (e::es) [] cpos) (M9 wB to t):=⟨d_mk OJ PySem.F.type_dict_setdefault Cc D.ok f.ok h w a hs n⟩
end
end L2
namespace L2
open PySem PySem.Spec PyProof.Rows DL
def GtAt(A:d8)(s:d9)(x y:b7)(k:Bool):Prop:=∀(g:c5) (w:b9) (E:b7->d9->Prop) (Q:b7->d9->Prop),Q (.bool k) s->e8 (f7 g w) A (richCompare .Gt x y) Q E s
inductive GexAt(A:d8)(s:d9):List b7->List b7->Bool->Prop
 |nn:GexAt A s [] [] bt
 |nc {y:b7}{ys:List b7}:GexAt A s [] (y::ys) bt
 |cn {x:b7}{xs:List b7}:GexAt A s (x::xs) [] a9
 |eq {x y:b7}{xs ys:List b7}{k:Bool} (h:KF A s x y a9) (t:GexAt A s xs ys k):GexAt A s (x::xs) (y::ys) k
 |ne {x y:b7}{xs ys:List b7}{k:Bool} (h:KF A s x y bt) (t:GtAt A s x y k):GexAt A s (x::xs) (y::ys) k
section
variable{prog:c5}{w:b9}{A:d8}{E:b7->d9->Prop}{s:d9}{d:c6}{o:c7}{es:Array m3}{ep:Nat}{xs:List (D×b7×b7)}{k:D}{key:b7}{hs:D->Int}{Q:Option Nat->d9->Prop}
theorem qF(i:es.toList=xs.map (AF hs))(j:Nat):es[j]?=(xs[j]?).map (AF hs):=by rw[<-F4,i,C8]
def Be(xs:List (D×b7×b7))(k:D)(i:Nat)(t:Option Nat):Prop:=(t=a8/\∀j p,j<i->xs[j]?≠a7 (k,p))\/∃j p,t=a7 j/\j<i/\xs[j]?=a7 (k,p)
noncomputable def pM(es:Array m3)(h:Int)(i:Nat):Bool:=(es[i]?.map (·.hash))==a7 h
theorem jb(e:es.toList=xs.map (AF hs))(a:∀j,i<=j->j<x->pM es (hs k) j=bt)(h:Be xs k i hit)(d:i<=x):Be xs k x hit:=by
 rcases h with⟨c,o⟩|⟨j,p,h1,f,L⟩
 refine .inl ⟨c,λj p b L=>?_⟩;rcases Ku j i with h|h;exact o j p h L;have:=a j h b;unfold pM at this;rw[qF e j,L]at this;simp[AF]at this;exact .inr ⟨j,p,h1,by lia,L⟩
theorem bQ(h:Be xs k x hit)(c:xs[x]?=a7 (k',p'))(e:¬k'=k):Be xs k (x+1) hit:=by
 rcases h with⟨a,o⟩|⟨j,p,h1,b,L⟩
 refine .inl ⟨a,λj p b L=>?_⟩;rcases Ku j x with h|h;exact o j p h L;obtain rfl:j=x:=by lia
 rw[c]at L;exact e (by injection L with L;injection L);exact .inr ⟨j,p,h1,by lia,L⟩
theorem gQ(f:(xs.map (·.1)).Nodup){i j:Nat}{p q:b7×b7}(hi:xs[i]?=a7 (k,p))(L:xs[j]?=a7 (k,q)):i=j:=by
 have h:(xs.map (·.1))[i]?=a7 k:=by rw[C8,hi];rfl
 have a:(xs.map (·.1))[j]?=a7 k:=by rw[C8,L];rfl
 exact(List.getElem?_inj (w6.mp h).1 f).mp<|h.trans a.symm
theorem pK(e:es.toList=xs.map (AF hs))(r:(Ma i<|es.size-i).filter (pM es<|hs k)=[])(h:Be xs k i hit):Be xs k xs.length hit:=by
 have z:es.size=xs.length:=by rw[<-D5,e,u4]
 rcases Ku i xs.length with hi|hi;refine jb e (λj h1 h2=>?_) h<|Lv hi;have:=List.filter_eq_nil_iff.mp r j<|List.mem_range'_1.mpr ⟨h1,by lia⟩;simpa using this;rcases h with⟨a,o⟩|⟨j,p,h1,f,L⟩
 exact .inl ⟨a,λj p L=>o j p<|by lia⟩;exact .inr ⟨j,p,h1,(w6.mp L).1,L⟩
theorem oq{d:List b7}{Q:Bool->d9->Prop}(k:∀(Q:Bool->d9->Prop) (E:b7->d9->Prop),Q a9 s->e8 (f7 prog w) A (np 8 key) Q E s)(qs:∀v∈d,∀(Q:Bool->d9->Prop) (E:b7->d9->Prop),Q a9 s->e8 (f7 prog w) A (np 8 v) Q E s) (h:Q bt s):e8 (f7 prog w) A (tableMayTell key d) Q E s:=by unfold tableMayTell;split;exact p8 h;refine p5<|k _ _ ?_;simp only[KR,x3,o6];refine p5 ?_;refine KW _ (λaI r s'=>s'=s/\r=(a8,())/\∀v∈aI,v∈d) _ ?_ ?_ _ _ ⟨rfl,rfl,λ_ c=>c⟩;rintro x aI r s' ⟨rfl,rfl,i⟩;refine p5<|qs x (i x D4) _ _ ?_;simp only[KR,x3,o6];exact p8 ⟨rfl,rfl,λv c=>i v<|A2 _ c⟩;rintro r s' ⟨rfl,rfl,_⟩;exact p8 h
theorem CM(S:s.heap.get? d=a7 o)(N:o.data=.dict es ep)(G:es.toList=xs.map (AF hs))(hn:(xs.map (·.1)).Nodup)(kk:key=.none\/∃a,key=.ref a)(qk:∀(Q:Bool->d9->Prop) (E:b7->d9->Prop),Q a9 s->e8 (f7 prog w) A (np 8 key) Q E s)(qx:∀x∈xs,∀(Q:Bool->d9->Prop) (E:b7->d9->Prop),Q a9 s->e8 (f7 prog w) A (np 8 x.2.1) Q E s)(aj:∀x∈xs,x.2.1=key->x.1=k)(X:∀x∈xs,∀(Q:Bool->d9->Prop) (E:b7->d9->Prop),Q (decide<|x.1=k) s->e8 (f7 prog w) A (eqBool x.2.1 key) Q E s)(R:(∀(j:Nat) (p:b7×b7),xs[j]?≠a7 (k,p))->Q a8 s) (n:∀(j:Nat) (p:b7×b7),xs[j]?=a7 (k,p)->Q (a7 j) s):e8 (f7 prog w) A (dictFind d key<|hs k) Q E s:=by
 have ai:es.size=xs.length:=by rw[<-D5,G,u4]
 have K:∀e∈es,∃x∈xs,e=AF hs x:=by intro e P;have:e∈xs.map (AF hs):=G ▸ Array.mem_toList_iff.mpr P;obtain⟨x,T,rfl⟩:=ve.mp this;exact⟨x,T,rfl⟩
 have V:¬(es.any λe=>e.key==key&&e.hash != hs k)=a9:=by rw[<-Array.any_toList,KZ];rintro⟨e,P,hc⟩;obtain⟨x,T,rfl⟩:=K e<|Array.mem_toList_iff.mp P;simp only[AF,D8,o5,bne_iff_ne,ne_eq]at hc;exact hc.2<|by rw[aj x T hc.1]
 have Z:∀v∈(n5 es.size (λi=>es[i]?.map (·.hash))<|hs k).filterMap (λi=>es[i]?.map (·.key)),∃x∈xs,v=x.2.1:=by
  intro v hv;obtain⟨i,_,hi⟩:=Mq.mp hv;cases O:es[i]? with
  |none=>rw[O]at hi;cases hi
  |some e =>
   rw[O]at hi;obtain rfl:e.key=v:=by simpa using hi
   obtain⟨x,T,rfl⟩:=K e<|Array.mem_of_getElem? O;exact⟨x,T,rfl⟩
 have M:∀f,Be xs k xs.length f->Q f s:=by rintro f (⟨rfl,hno⟩|⟨j,p,rfl,_,L⟩);exact R λj p L=>hno j p (w6.mp L).1 L;exact n j p L
 have start:n5 es.size (λi=>es[i]?.map (·.hash)) (hs k)=(Ma 0<|es.size-0).filter (pM es<|hs k):=by rw[n5,List.range_eq_range',Nat.sub_zero];rfl
 have U:Be xs k 0 a8:=.inl ⟨rfl,λ_ _ h=>o0 h<|Ll _⟩;have F:∀{x i:Nat}{aI:List Nat},x::aI=(Ma i<|es.size-i).filter (pM es<|hs k)->i<=es.size->∃I u v,xs[x]?=a7 (I,u,v)/\es[x]?=a7 ⟨hs I,u,v⟩/\i<=x/\x+1<=es.size/\aI=(Ma (x+1)<|es.size-(x+1)).filter (pM es<|hs k)/\∀j,i<=j->j<x->pM es (hs k) j=bt:=by
  intro x i aI B hi;obtain⟨r,as,an,m,t⟩:=filter_range'_cons _ _ _ _ _ B.symm;have l:x<es.size:=by lia
  obtain⟨⟨I,u,v⟩,c⟩:∃y,xs[x]?=a7 y:=⟨xs[x]'(by rw[<-ai];exact l),v4 _⟩
  exact⟨I,u,v,c,by rw[qF G x,c];rfl,r,l,by rw[t];congr 2;lia,m⟩
 unfold dictFind
 try with_reducible refine E5 ?_
 refine p5<|Lz S N ?_;have W:∀v∈(n5 es.size (λi=>es[i]?.map (·.hash))<|hs k).filterMap (λi=>es[i]?.map (·.key)),∀(Q:Bool->d9->Prop) (E:b7->d9->Prop),Q a9 s->e8 (f7 prog w) A (np 8 v) Q E s:=λv hv=>by obtain⟨x,T,rfl⟩:=Z v hv;exact qx x T
 rcases kk with rfl|⟨a,rfl⟩
 dsimp only;by_cases J:((ABr::(n5 es.size (λi=>es[i]?.map (·.hash))<|hs k).filterMap (λi=>es[i]?.map (·.key))).all carriedByValue)=a9;rw[n6 J];unfold dictWalkPlain;refine p5 ?_;rw[start];refine KW _ (λaI b s'=>s'=s/\b=(a8,())/\∃i,aI=(Ma i<|es.size-i).filter (pM es<|hs k)/\i<=es.size/\Be xs k i a8) _ ?_ ?_ _ _ ⟨rfl,rfl,0,rfl,w4 _,U⟩;rintro x aI b s' ⟨rfl,rfl,i,B,hi,H⟩;obtain⟨I,u,v,c,C,r,l,t,m⟩:=F B hi;have H:=jb G m H r;rw[C];dsimp only;by_cases D:(hs I==hs k)=a9;rw[n6 D];refine p5<|KU S N<|p5<|X _ (F8 c) _ _<|p5<|KU S N ?_;show e8 _ _ (if (ep != ep)=a9 then _ else _) _ E _;rw[n9<|by simp];by_cases g:I=k;rw[dT_ g];subst g;rw[n6 rfl];exact p5<|Kg<|p8<|p8<|n x _ c;rw[dF_ g,n9<|by decide];exact p5<|Kg<|p8 ⟨rfl,rfl,x+1,t,l,bQ H c g⟩;rw[n9 D];exact p8 ⟨rfl,rfl,x+1,t,l,bQ H c λe=>D<|by rw[e];simp⟩;rintro b s' ⟨rfl,rfl,i,B,hi,H⟩;exact p8<|M a8<|pK G B.symm H;rw[n9 J];by_cases q:(((n5 es.size (λi=>es[i]?.map (·.hash))<|hs k).filterMap (λi=>es[i]?.map (·.key)))==[ABr])=a9 <;>
 (first|rw[n6 q]|rw[n9 q])<;>(first|refine p5 (p8 ?_)|refine p5<|oq qk W ?_)<;>(
  rw[n9<|by simp];refine p5 ?_;rw[start];refine KW _ (λaI b s'=>s'=s/\∃i f,b=(a8,f)/\aI=(Ma i<|es.size-i).filter (pM es<|hs k)/\i<=es.size/\Be xs k i f) _ ?_ ?_ _ _ ⟨rfl,0,a8,rfl,rfl,w4 _,U⟩;rintro x aI b s' ⟨rfl,i,f,rfl,B,hi,H⟩;obtain⟨I,u,v,c,C,r,l,t,m⟩:=F B hi;have H:=jb G m H r;rw[C];dsimp only;by_cases D:(hs I==hs k)=a9;rw[n6 D];refine p5<|KU S N<|p5<|X _ (F8 c) _ _<|p5<|KU S N ?_;show e8 _ _ (if (ep != ep)=a9 then _ else _) _ E _;rw[n9<|by simp];by_cases g:I=k;rw[dT_ g];subst g;rcases H with⟨rfl,_⟩|⟨j,p,_,Y,L⟩
  first|rw[n6 rfl]|skip
  simp only[Option.isSome_none,x3,o6]
  first|refine p5 (p8 ?_)|skip
  refine p5<|Kg ?_;split;exact p8<|p8<|n x _ c;exact p8 ⟨rfl,x+1,a7 x,rfl,t,l,.inr ⟨x,_,rfl,Kh x,c⟩⟩;exact o0 (gQ hn L c) (by lia);rw[dF_ g];simp only[x3,o6];refine p5<|Kg ?_
  first|rw[n9<|by simp]|skip
  first
   |exact p8 ⟨rfl,x+1,f,rfl,t,l,bQ H c g⟩
   |exact p5 (p8 (p8 ⟨rfl,x+1,f,rfl,t,l,bQ H c g⟩))
  rw[n9 D];exact p8 ⟨rfl,x+1,f,rfl,t,l,bQ H c λe=>D<|by rw[e];simp⟩;rintro b s' ⟨rfl,i,f,rfl,B,hi,H⟩;have z:=M f<|pK G B.symm H;exact p8 z)
 dsimp only;rw[n9 (show ¬((ABO a::(n5 es.size (λi=>es[i]?.map (·.hash))<|hs k).filterMap (λi=>es[i]?.map (·.key))).all carriedByValue)=a9 by simp[carriedByValue]),n9 V];by_cases q:(((n5 es.size (λi=>es[i]?.map (·.hash))<|hs k).filterMap (λi=>es[i]?.map (·.key)))==[ABO a])=a9 <;>
 (first|rw[n6 q]|rw[n9 q])<;>(first|refine p5 (p8 ?_)|refine p5<|oq qk W ?_)<;>(
  rw[n9<|by simp];refine p5 ?_;rw[start];refine KW _ (λaI b s'=>s'=s/\∃i f,b=(a8,f)/\aI=(Ma i<|es.size-i).filter (pM es<|hs k)/\i<=es.size/\Be xs k i f) _ ?_ ?_ _ _ ⟨rfl,0,a8,rfl,rfl,w4 _,U⟩;rintro x aI b s' ⟨rfl,i,f,rfl,B,hi,H⟩;obtain⟨I,u,v,c,C,r,l,t,m⟩:=F B hi;have H:=jb G m H r;rw[C];dsimp only;by_cases D:(hs I==hs k)=a9;rw[n6 D];refine p5<|KU S N<|p5<|X _ (F8 c) _ _<|p5<|KU S N ?_;show e8 _ _ (if (ep != ep)=a9 then _ else _) _ E _;rw[n9<|by simp];by_cases g:I=k;rw[dT_ g];subst g;rcases H with⟨rfl,_⟩|⟨j,p,_,Y,L⟩
  first|rw[n6 rfl]|skip
  simp only[Option.isSome_none,x3,o6]
  first|refine p5 (p8 ?_)|skip
  refine p5<|Kg ?_;split;exact p8<|p8<|n x _ c;exact p8 ⟨rfl,x+1,a7 x,rfl,t,l,.inr ⟨x,_,rfl,Kh x,c⟩⟩;exact o0 (gQ hn L c) (by lia);rw[dF_ g];simp only[x3,o6];refine p5<|Kg ?_
  first|rw[n9<|by simp]|skip
  first
   |exact p8 ⟨rfl,x+1,f,rfl,t,l,bQ H c g⟩
   |exact p5 (p8 (p8 ⟨rfl,x+1,f,rfl,t,l,bQ H c g⟩))
  rw[n9 D];exact p8 ⟨rfl,x+1,f,rfl,t,l,bQ H c λe=>D<|by rw[e];simp⟩;rintro b s' ⟨rfl,i,f,rfl,B,hi,H⟩;have z:=M f<|pK G B.symm H;exact p8 z)
end
section
variable{X:Cx}{pins:List (c6×c7)}{σ:St}{H:Hp}{s:d9}{ρ:List c6}{M:tx}{kvs:List (D×D)}{xs:List (D×b7×b7)}
theorem Af(h:xW d=a9):u3 M 8 d=a9:=by
 cases d with
 |non=>rfl
 |tup s=>exact qw 8 _ h
 |_=>cases h
theorem nv(I:p7 X pins σ H s)(r:t5 X.K ρ H k u)(e:aN u key)(b:xW k=a9):(k=.non/\key=.none)\/∃ks a,k=.tup ks/\key=.ref a/\fS s.heap 8 (.tup ks) (.ref a):=by
 cases k with
 |non=>obtain rfl:=t5.inv_non r;exact .inl ⟨rfl,e⟩
 |tup ks=>have t:=eW I 8 _ _ _ r e b;obtain⟨a,its,rfl,h⟩:=id t;exact .inr ⟨ks,a,rfl,rfl,t⟩
 |_=>cases b
theorem wP(I:p7 X pins σ H s)(g:A.units+8<j2)(r:t5 X.K ρ H k u)(e:aN u key)(b:xW k=a9)(h:∀tk,Q (LG X.w k) { s with toks:=tk }):e8 (f7 X.prog X.w) A (pyHash key) Q E s:=by
 rcases nv I r e b with⟨rfl,rfl⟩|⟨c,a,rfl,rfl,t⟩
 exact PySem.W.pyHash_slot (T:="NoneType") rfl PySem.F.slot_NoneType_hash PySem.F.entry_NoneType_hash (PySem.F.args_NoneType_hash_1 _) (beq_builtin_none _) (.inr<|by lia)<|p5<|p8<|p5<|wpAny_mkInt<|p8 ⟨_,_,rfl,h _⟩;exact pq 8 _ _ _ _ _ _ g t<|h _
theorem Jt(I:p7 X pins σ H s)(m:u6 X.K ρ M H)(g:A.units+8<j2)(r:t5 X.K ρ H k u)(e:aN u key)(a:xW k=a9)(r':t5 X.K ρ H k' u')(b:aN u' key')(d:xW k'=a9):KF A s key key' (decide<|k=k'):=by
 have h:=(kG I m 8 A k k' _ _ _ _ g r e r' b (Af a)<|Af d).1;have q:t4 M 8 k k'=decide (k=k'):=by
  cases k with
  |non=>cases k' with
   |non=>rw[dT_ rfl];rfl
   |tup _=>rw[dF_ λz=>by cases z];rfl
   |_=>cases d
  |tup f=>cases k' with
   |non=>rw[dF_ λz=>by cases z];rfl
   |tup c=>rw[Bool.eq_iff_iff,iP 8 _ _ a d,o4]
   |_=>cases d
  |_=>cases a
 rw[q]at h;exact h
theorem sN(I:p7 X pins σ H s)(r:t5 X.K ρ H k u)(e:aN u key)(b:xW k=a9)(h:Q a9 s):e8 (f7 X.prog X.w) A (np 8 key) Q E s:=by
 rcases nv I r e b with⟨rfl,rfl⟩|⟨c,a,rfl,rfl,t⟩
 exact p8 h;exact nw 8 8 _ _ _ _ _ _ (u5 _) t h
theorem BL:∀{kvs:List (D×D)}{xs:List (D×b7×b7)}{x:D×b7×b7},Paired (KA X.K ρ H) kvs xs->x∈xs->∃p∈kvs,KA X.K ρ H p x
 |_,_,x,.cons q t,h=>by rcases z5.mp h with rfl|h;exact⟨_,D4,q⟩;obtain⟨p,hp,z⟩:=BL t h;exact⟨p,A2 _ hp,z⟩
theorem lu(r:Paired (KA X.K ρ H) kvs xs):xs.map (·.1)=kvs.map (·.1):=by
 induction r with
 |nil=>rfl
 |cons h t i=>rw[A3,A3,i,h.1]
theorem qu(r:Paired (KA X.K ρ H) kvs xs)(k:D):(aQ kvs k=a8/\∀(j:Nat) (p:b7×b7),xs[j]?≠a7 (k,p))\/∃(d:D) (v:V) (j:Nat) (u u':b7),aQ kvs k=a7 d/\xs[j]?=a7 (k,u,u')/\t5 X.K ρ H d v/\aN v u':=by
 unfold aQ;induction r with
 |nil=>exact .inl ⟨rfl,λj p z=>by simp at z⟩
 |@cons p q ps qs h t i =>
  obtain⟨h1,_,_,v,a,b⟩:=h;rw[Ko];by_cases e:p.1=k;rw[dT_ e];exact .inr ⟨_,v,0,q.2.1,q.2.2,rfl,by rw[OA,<-e,h1],a,b⟩;rw[dF_ e];rcases i with⟨g,n⟩|⟨d,v,j,u,u',g,B,f,l⟩
  refine .inl ⟨g,λj c z=>?_⟩;cases j with
  |zero=>rw[OA]at z;injection z with z;exact e<|by rw[h1,z]
  |succ j=>rw[MQ]at z;exact n j c z
  exact .inr ⟨d,v,j+1,u,u',g,by rw[MQ];exact B,f,l⟩
theorem AG(I:p7 X pins σ H s)(m:u6 X.K ρ M H){n:Nat}{a:c6}(e:ρ[n]?=a7 a)(c:M[n]?=a7 (.dkm kvs)):∃xs,H a=a7 (.ext<|dM a xs)/\Paired (KA X.K ρ H) kvs xs/\dM a xs X.prog X.w s.heap/\(a==c9)=bt/\kvs.length<=sizeLine/\xs.length=kvs.length/\(kvs.map (·.1)).Nodup:=by
 obtain⟨h1,h2,b,xs,h,r⟩:=m.obj _ _ _ e c;refine⟨xs,h,r,(show cS X.prog X.w H s.heap a (.ext<|dM a xs)from I.hok a _ h).1,h2,h1,?_,b⟩;have:=o8 Km<|lu r
 rwa [u4,u4]at this
theorem Az(I:p7 X pins σ H s)(S:u6 X.K ρ M H)(G:A.units+8<j2)(r:Paired (KA X.K ρ H) kvs xs)(P:(kvs.map (·.1)).Nodup)(D:s.heap.get? a=a7 o) (B:o.data=.dict es ep) (C:es.toList=xs.map (AF<|LG X.w)) (t:t5 X.K ρ H k u) (g:aN u key) (i:xW k=a9)(R:(∀(j:Nat) (p:b7×b7),xs[j]?≠a7 (k,p))->Q a8 s) (n:∀(j:Nat) (p:b7×b7),xs[j]?=a7 (k,p)->Q (a7 j) s):e8 (f7 X.prog X.w) A (dictFind a key<|LG X.w k) Q E s:=by
 refine CM D B C (by rw[lu r];exact P) ?_ (λQ E h=>sN I t g i h) (λx c Q E h=>?_) (λx c e=>?_) (λx c Q E h=>?_) R n;rcases nv I t g i with⟨rfl,rfl⟩|⟨L,b,rfl,rfl,_⟩
 exact .inl rfl;exact .inr ⟨b,rfl⟩;obtain⟨p,_,l,q,⟨F,f,J⟩,_⟩:=BL r c;exact sN I f J q h;obtain⟨p,_,l,q,⟨F,f,J⟩,_⟩:=BL r c;rw[e]at J;rw[<-l];rcases nv I f J q with⟨v,m⟩|⟨L,b,v,m,z⟩<;>rcases nv I t g i with⟨y,N⟩|⟨O,T,y,N,d⟩
 rw[v,y];rw[m]at N;cases N;rw[m]at N;cases N;rw[m]at N;cases N;rw[v,y];exact ny 8 _ _ _ z d;obtain⟨p,_,l,q,⟨F,f,J⟩,_⟩:=BL r c;rw[<-l]at h;exact Jt I S G f J q t g i _ _ _ _ h
theorem u6.writeM(S:u6 X.K ρ M H)(t:ρ[n]?=a7 a)(w:M[n]?=a7 (.dkm kvs))(s:H a=a7 (.ext<|dM a xs))(x:kvs'.length<=sizeLine)(hs:(a==c9)=bt)(y:(kvs'.map (·.1)).Nodup)(r:Paired (KA X.K ρ H) kvs' xs'):u6 X.K ρ (M.set n<|.dkm kvs') (v5 H a<|.ext<|dM a xs')/\Grow X.K ρ H ρ (v5 H a<|.ext<|dM a xs'):=by
 have g:Grow X.K ρ H ρ (v5 H a<|.ext<|dM a xs'):=⟨Lx,λ_ _ h=>A1.writtenX s h⟩
 have k:∀m,m≠n->(M.set n<|.dkm kvs')[m]?=M[m]?:=λm d=>K1<|C3 d;have c:¬Kr M[n]?:=λ⟨_,z⟩=>by rw[w]at z;cases z
 refine⟨⟨λm i b e f N=>?_,by rw[LR];exact S.len,λm b o f N=>?_⟩,g⟩;have q:=S.nd m i b e f N;by_cases h1:m=n;subst h1;rw[k i<|C3 e];exact .inr<|q.resolve_left c;rw[k m h1];by_cases h2:i=n;subst h2;exact .inl<|q.resolve_right c;rw[k i h2];exact q;by_cases d:m=n;subst d;obtain rfl:b=a:=C4<|f.symm.trans t;rw[Lp<|by rw[<-S.len];exact(w6.mp t).1]at N;cases N;refine⟨x,hs,y,xs',bx,Paired.mapP r ?_⟩;rintro _ _ ⟨A,B,⟨u,C,l⟩,v,J,D⟩;exact⟨A,B,⟨u,C.grow g,l⟩,v,J.grow g,D⟩;rw[k m d]at N;by_cases j:b=a;subst j;have p:=(S.nd m n b d f t).resolve_right c;rw[N]at p;exact(S.obj m b o f N).grow g<|.inr p;exact(S.obj m b o f N).grow g<|.inl<|aA j
theorem wQ(d:dM a xs P w h'):cS P w H' h' a (.ext<|dM a xs):=by obtain⟨o,es,t,m,R,J⟩:=d;refine⟨⟨o,es,t,m,R,J⟩,⟨o,t⟩,?_⟩;rintro h1 h2 ⟨o,es,t,m,R,J⟩ k;exact⟨o,es,k _ t,m,R,J⟩
theorem sQ(h:aQ kvs k=a8):iD kvs k d=kvs++[(k,d)]:=by unfold iD;rw[h];rfl
theorem zv(r:Paired (KA X.K ρ H) kvs xs)(h:KA X.K ρ H p q):Paired (KA X.K ρ H) (kvs++[p]) (xs++[q]):=by
 induction r with
 |nil=>exact .cons h .nil
 |cons z _ i=>exact .cons z i
end
section
variable{X:Cx}{o i value:f6}{td ty tv:u8}{pos pos':f8}{k:Nat}
def Dd:u8:=λ_ M Q=>Q (.ref M.length)<|M++[.dkm []]
theorem JQ:DE X (.Dict [] [] pos) Dd:=by rintro p s σ H R I ⟨S,M,ρ,Q,m,c,q,D⟩;have f:H s.heap.objs.size=a8:=I.hok.fresh<|u5 _;have d:(s.heap.objs.size==c9)=bt:=beq_eq_false_iff_ne.mpr<|C3<|x6 I.big;refine wpAny_Dict_empty ⟨.ref s.heap.objs.size,_,I.laid (a:=s.heap.objs.size) (o:=.ext<|dM s.heap.objs.size []) (t':=s.toks) (λ_ _ q=>v7 _ q) (u5 _)<|wQ ⟨_,#[],A8 _ rfl,⟨rfl,rfl,rfl⟩,rfl,rfl⟩,rfl,?_⟩;exact D _ _ ⟨.ref M.length,M++[.dkm []],ρ++[s.heap.objs.size],m.laidM (mo:=.dkm []) f ⟨w4 _,d,Nr,[],bx,.nil⟩,Grow.laidR f,.ref m.last,(show Q (.ref M.length) (M++[.dkm []])from q)⟩
def L4(r:Nat->C6)(e:u8)(t:D9):u8:=λS M Q=>e S M λx a=>match x with
 |.ref n=>(∃s,a[n]?=a7 (.dkm s))/\t S a λds M2=>r n ds M2 Q
 |_=>False
variable{name:b8}{id:String}{e:f6}{es:List f6}{to:u8}{t:D9}{apos cpos:f8}
theorem d_mm{r:Nat->C6}(slot:Slot "dict" name id)(y:k7 (.builtin id)=pure (.type "method_descriptor"))(U:Ix X id (jV X.K r))(V:DE X o to)(T:DA X (e::es) t)(c:k9 o name X.env (eval o X.env)=eval o X.env:=by rfl)(f:((f9 cpos<|ge (e::es) X.env).all (λx=>!x.1)&&(l7 cpos<|l8 [] X.env).all (λx=>x.1.isSome) && decide ((e::es).length+([]:List j5).length+(if ([]:List j5).isEmpty then 0 else 1)<30))=a9:=by rfl)(d:(apos.endLine==cpos.line)=a9:=by rfl) (hs:ge (e::es) X.env=(bt,eval e X.env)::ge es X.env:=by rfl) (h:(f9 cpos<|ge es X.env).any (·.1)=bt:=by rfl):DE X (.Call (.Attribute o name apos) (e::es) [] cpos) (L4 r to t):=by
 rintro p s σ H R I ⟨S,M,ρ,Q,sm,J,q,Y⟩;refine Oz c f d rfl<|u9 (V p s σ H _ I ⟨S,M,ρ,_,sm,J,q,λv H' z=>z⟩) ?_;rintro u s1 ⟨v,L,C,rv,x,i,A,j,g1,r1,g⟩;cases r1 with
 |@ref n a F =>
  obtain rfl:u=ABO a:=rv;obtain⟨⟨k,P⟩,g⟩:=(show (∃k,i[n]?=a7 (.dkm k))/\t S i _ from g)
  obtain⟨xs,hH,r,⟨G,eb,h1,h2,h3,h4⟩,W,hl,hx,nd⟩:=AG C j F P;refine⟨"dict",id,OB,slot,y,⟨G,h1,h2.1⟩,λb z=>?_,?_⟩;cases z;exact⟨G,h1,h2.2.1⟩;have E:=T cpos p s1 σ L _ C ⟨S,i,A,_,j,J.grow g1,g,λvs H' z=>z⟩;rw[hs]at E ⊢;refine MN (by show (bt||(f9 cpos<|ge es X.env).any (·.1))=bt;rw[h]<;>rfl)<|Ou ?_;refine u9 E ?_;rintro us s2 ⟨vs,N,O,l,ds,M2,B,m,D,rr,Z⟩;exact U p s2 σ N (.ref a) vs (.ref a) us R O rfl l ⟨n,a,ds,M2,B,Q,rfl,aq D.pre F,m,rr,Z,λv H' w=>Y v H'<|VQ.trans (g1.trans D) w⟩
 |_=>exact g.elim
def pc(n:Nat):C6:=λds M Q=>match ds with
 | [k,d]=>∃s,M[n]?=a7 (.dkm s)/\xW k=a9/\Q ((aQ s k).getD d) M
 |_=>False
theorem Ca(hr:Room k X.A):Ix X "dict.get" (jV X.K pc):=by
 rintro E s σ H x xs v us R I rx rs ⟨n,a,ds,M,ρ,Q,W,Z,m,f,q,D⟩;have un:=hr.un;unfold pc at q;split at q;rename_i k d;obtain⟨ai,Y,l,q⟩:=q;have z:=Reps.inv_cons f;clear f;obtain⟨_,_,rfl,G,f⟩:=z;have z:=Reps.inv_cons f;clear f;obtain⟨_,_,rfl,r2,f⟩:=z;obtain rfl:=Reps.inv_nil f;obtain⟨S,N,rfl,t,U⟩:=aw.two rs;subst W;obtain rfl:v=ABO a:=rx;obtain⟨ys,hH,r,⟨ob,eb,h1,h2,g,i⟩,V,hl,hx,C⟩:=AG I m Z Y;refine MB MM ⟨ob,h1,h2.1⟩ O8 (Pa _ _ _) (.of_wp λA R s (h:e8 (f7 X.prog X.w) A.in1 (Builtin.«dict.get» ⟨[.ref a,S,N],[]⟩) (λb s'=>∃v,b=.done (.ret v)/\R (.ok<|.ret v) s') (λe s'=>R (.error e) s') s)=>h) ?_;show e8 _ _ (dictGet a S >>= _) _ _ s;unfold dictGet;refine p5 ?_
 try with_reducible refine E5 ?_
 refine p5<|wP I (by show X.A.units+1+8<j2;lia) G t l λJ=>?_;refine p5<|Az (I.tok J) m (by show X.A.units+1+8<j2;lia) r C h1 g i G t l (λo=>?_) λj p L=>?_;rcases qu r k with⟨B,_⟩|⟨c,O,j,u,F,B,y,P,T⟩
 rw[B]at q;refine p8 ?_;show e8 _ _ (Builtin.Dict.missed a S >>= _) _ _ _;exact p5<|wpAny_missed_other V<|p8 ⟨N,rfl,_,H,I.tok _,U,D _ _ ⟨d,M,ρ,m,.refl,r2,q⟩⟩;exact o0 y<|o j _;refine p5<|Lz (s:={ s with toks:=J }) h1 g ?_;rcases qu r k with⟨_,o⟩|⟨c,O,j',u,F,B,y,P,T⟩
 exact o0 L<|o j p;have:j=j':=gQ (by rw[lu r];exact C) L y;subst this;rw[L]at y;rw[qF i j,L];rw[B]at q;obtain rfl:p=(u,F):=by injection y with y;injection y
 exact p8<|p8 ⟨F,rfl,O,H,I.tok _,T,D _ _ ⟨c,M,ρ,m,.refl,P,q⟩⟩;exact q.elim
def sP(n:Nat):C6:=λds M Q=>match ds with
 | [k,d]=>∃s,M[n]?=a7 (.dkm s)/\xW k=a9/\s.length<sizeLine/\(∀y,aQ s k=a7 y->Q y M)/\(aQ s k=a8->Q d (M.set n<|.dkm<|s++[(k,d)]))
 |_=>False
theorem BZ(hr:Room k X.A):Ix X "dict.setdefault" (jV X.K sP):=by
 rintro ai s σ H x xs v us R I rx rs ⟨n,a,ds,M,ρ,Q,ez,Y,m,f,q,Z⟩;have un:=hr.un;unfold sP at q;split at q;rename_i k d;obtain⟨g,W,B,kl,q1,q2⟩:=q;have z:=Reps.inv_cons f;clear f;obtain⟨_,_,rfl,G,f⟩:=z;have z:=Reps.inv_cons f;clear f;obtain⟨_,_,rfl,r2,f⟩:=z;obtain rfl:=Reps.inv_nil f;obtain⟨S,J,rfl,l,O⟩:=aw.two rs;subst ez;obtain rfl:v=ABO a:=rx;obtain⟨ys,U,r,⟨ob,P,h1,h2,b,i⟩,V,hl,hx,C⟩:=AG I m Y W;have aj:P.size=ys.length:=by rw[<-D5,i,u4]
 refine MB OJ ⟨ob,h1,h2.1⟩ PySem.F.entry_dict_setdefault (PySem.F.args_dict_setdefault_3 _ _ _) (.of_wp λA R s (h:e8 (f7 X.prog X.w) A.in1 (Builtin.«dict.setdefault» ⟨[.ref a,S,J],[]⟩) (λo s'=>∃v,o=.done (.ret v)/\R (.ok<|.ret v) s') (λe s'=>R (.error e) s') s)=>h) ?_;unfold Builtin.«dict.setdefault»;refine p5 ?_;unfold Builtin.Dict.keyAndDefault;refine p5<|NJ (show s.TypeIs (.ref a) "dict" from⟨ob,h1,h2.1⟩) ?_;show e8 _ _ (pure (a,S,a7 J)) _ _ s;refine p8 ?_;show e8 _ _ (if (a==c9)=a9 then _ else(dictSetDefault a S J >>= _)) _ _ s;rw[n9<|by rw[V];exact Ln];unfold dictSetDefault;refine p5 ?_
 try with_reducible refine E5 ?_
 refine p5<|wP I (by show X.A.units+1+8<j2;lia) G l B λt=>?_;refine p5<|Az (I.tok t) m (by show X.A.units+1+8<j2;lia) r C h1 b i G l B (λE=>?_) λj p L=>?_;have T:aQ g k=a8:=by
  rcases qu r k with⟨N,_⟩|⟨_,_,j,_,_,_,y,_⟩
  exact N;exact o0 y<|E j _
 have D:((g++[(k,d)]).map (·.1)).Nodup:=by rw[<-sQ T];exact pT C
 obtain⟨w1,w2⟩:=m.writeM (xs':=ys++[(k,S,J)]) Y W U (by rw[x5,F5];lia) V D<|zv r ⟨rfl,B,⟨_,G,l⟩,_,r2,O⟩;have sb:KQ a s.heap (s.heap.update a<|Obj.mapDictKeys λe=>e.push ⟨LG X.w k,S,J⟩):=Ky ..;have c:dM a (ys++[(k,S,J)]) X.prog X.w (s.heap.update a<|Obj.mapDictKeys λe=>e.push ⟨LG X.w k,S,J⟩):=by refine⟨_,P.push ⟨LG X.w k,S,J⟩,Kk _ h1<|NG<|ML b _,h2.mapDictKeys _,?_,?_⟩;rw[ML b,x5];rfl;rw[Oj,i,G7];rfl
 have he:∃q,(s.heap.update a<|Obj.mapDictKeys λe=>e.push ⟨LG X.w k,S,J⟩).get? a=a7 q:=let ⟨q,_,hq,_⟩:=c;⟨q,hq⟩
 refine p5<|Kg<|p5<|wpAny_updateDictKeys (hz:=by lia) (s:={ s with toks:=t }) h1 b<|p8<|p8 ⟨J,rfl,?_⟩;exact⟨_,_,vH (I.tok t) (by rw[U];exact LK) sb he<|wQ c,O,Z _ _ ⟨d,_,ρ,w1,w2,r2.grow w2,q2 T⟩⟩;refine p5<|Lz (s:={ s with toks:=t }) h1 b ?_;rcases qu r k with⟨_,E⟩|⟨d',v',j',u,u',N,y,z3,z4⟩
 exact o0 L<|E j p;have:j=j':=gQ (by rw[lu r];exact C) L y;subst this;rw[L]at y;rw[qF i j,L];obtain rfl:p=(u,u'):=by injection y with y;injection y
 exact p5<|Kg<|p8<|p8 ⟨u',rfl,v',H,I.tok _,z4,Z _ _ ⟨d',M,ρ,m,.refl,z3,q1 _ N⟩⟩;exact q.elim
end
section
variable{X:Cx}{tg o:f6}{to:u8}{e:f6}{es:List f6}{t:D9}{pos apos cpos:f8}{k:Nat}
theorem IT:HE X (.Dict [] [] pos) Dd:=⟨JQ⟩
theorem IU(i:Room k X.A)(D:HE X o to)(f:HA X (e::es) t)(h:k9 o "get" X.env (eval o X.env)=eval o X.env:=by kernel_rfl)(w:((f9 cpos<|ge (e::es) X.env).all (λx=>!x.1)&&(l7 cpos<|l8 [] X.env).all (λx=>x.1.isSome) && decide ((e::es).length+([]:List j5).length+(if ([]:List j5).isEmpty then 0 else 1)<30))=a9:=by kernel_rfl)(a:(apos.endLine==cpos.line)=a9:=by kernel_rfl) (hs:ge (e::es) X.env=(bt,eval e X.env)::ge es X.env:=by kernel_rfl) (n:(f9 cpos<|ge es X.env).any (·.1)=bt:=by kernel_rfl):HE X (.Call (.Attribute o "get" apos) (e::es) [] cpos) (L4 pc to t):=⟨d_mm MM O4 (Ca i) D.ok f.ok h w a hs n⟩
theorem IS(i:Room k X.A)(D:HE X o to)(f:HA X (e::es) t)(h:k9 o "setdefault" X.env (eval o X.env)=eval o X.env:=by kernel_rfl)(w:((f9 cpos<|ge (e::es) X.env).all (λx=>!x.1)&&(l7 cpos<|l8 [] X.env).all (λx=>x.1.isSome) && decide ((e::es).length+([]:List j5).length+(if ([]:List j5).isEmpty then 0 else 1)<30))=a9:=by kernel_rfl)(a:(apos.endLine==cpos.line)=a9:=by kernel_rfl) (hs:ge (e::es) X.env=(bt,eval e X.env)::ge es X.env:=by kernel_rfl) (n:(f9 cpos<|ge es X.env).any (·.1)=bt:=by kernel_rfl):HE X (.Call (.Attribute o "setdefault" apos) (e::es) [] cpos) (L4 sP to t):=⟨d_mm OJ PySem.F.type_dict_setdefault (BZ i) D.ok f.ok h w a hs n⟩
def Hh(n:Nat):C6:=λds M Q=>match ds with
 | []=>∃xs d,M[n]?=a7 (.lst<|xs++[d])/\Q d (M.set n<|.lst xs)
 |_=>False
theorem Fd:Ix X "list.pop" (jV X.K Hh):=by
 rintro p s σ H x xs v us R I t o ⟨n,a,ds,M,ρ,Q,c,f,m,j,q,k⟩;unfold Hh at q;split at q;obtain⟨ys,d,e,q⟩:=q;obtain rfl:=Reps.inv_nil j;obtain⟨vs,h,r⟩:=m.obj n a _ f e;have l:=r.length;rw[x5,F5]at l;obtain⟨y,b,u⟩:=r.get (i:=ys.length) (d:=d) (by simp);have g:Reps X.K ρ H ys vs.dropLast:=by have:=r.take ys.length;rw[List.take_left]at this;rw[List.dropLast_eq_take,<-l,On];exact this
 obtain⟨L,w⟩:=m.write f e h g;exact Iq p s σ H x _ v us R I t o ⟨a,vs,y,c,rfl,h,by rw[<-l,On];exact b,k _ _ ⟨d,_,ρ,L,w,u.grow w,q⟩⟩;exact q.elim
theorem Ji:Ni X "pop" Hh:=⟨_,PySem.F.slot_list_pop,PySem.F.type_list_pop,Fd⟩
noncomputable def Itb(K:t6)(a:c6)(n:Nat):It:=⟨λi H=>i<n/\∃xs x,F9 K H a xs/\xs[n-1-i]?=a7 x,λi H x H'=>H'=H/\∀xs,F9 K H a xs->xs[n-1-i]?=a7 x,λi H=>i=n⟩
theorem Br{P:c5}{w:b9}{K:t6}{W:f6}(a it:c6)(n:Nat):Turn P w K W (Itb K a n) [it] it (λi h=>i<=n/\h.IsRevIter it a ((n:Int)-1-(i:Int))) where
 mem:=by simp
 obj:=λi h l b g=>by
  obtain rfl:b=it:=by simpa using g
  obtain⟨_,o,e,c,d⟩:=l;exact⟨o,e,λv z=>by rw[d]at z;cases z⟩
 keep:=λi h h' l k=>⟨l.1,l.2.at λo e=>k it (by simp) o e⟩
 item:=by intro X C D B F i f s σ H E I m l S;subst C D B;obtain⟨hi,xs,x,G,J⟩:=S;obtain⟨its,R,p,Y⟩:=I.list G;obtain⟨u,O,T⟩:=R.get J;obtain⟨q,r,N,t,y,A⟩:=m it (by simp);have U:=l.2;rw[show (n:Int)-1-(i:Int)=((n-1-i:Nat):Int) by lia]at U;refine wpAny_pyNext_rev_item U p.isList (x:=u) (by simpa using O) λh' j V=>?_;rw[show ((n-1-i:Nat):Int)-1=(n:Int)-1-((i+1:Nat):Int) by lia]at j;have L:p7 X f σ H { s with heap:=h' }:=I.turned (t':=s.toks) (λb o g e=>(V.2 b g).trans e) q r t y A;obtain⟨o,e,c,d⟩:=id j;exact⟨u,rfl,vB (s:={ s with heap:=h' }) e c d (by decide) ⟨x,H,L,T,⟨rfl,λys Q=>by rw[I.list_inj Q G];exact J⟩,⟨hi,j⟩,λb g=>(m b g).1⟩⟩
 done:=by intro X C D B F i f s σ H E I m l S;subst C D B;obtain rfl:i=n:=S;obtain⟨q,r,N,t,y,A⟩:=m it (by simp);have U:=l.2;rw[show (i:Int)-1-(i:Int) = -1 by lia]at U;exact wpAny_pyNext_rev_end (I.ok.hd F) U λh' M=>⟨rfl,I.turned (t':=s.toks) (λb o g e=>M b o g e) q r t y A⟩
 self:=λ_ _ _ _ _ l h=>wpAny_pyIter_revIter l.2 h
theorem qJ:d7 "reversed" = a7 (.type "reversed"):=by decide +kernel
def Db(t:D9):Ks:=λS M R=>t S M λds a=>match ds with
 | [.ref n]=>∃xs,al a n xs/\(xs.length<=sizeLine->R ⟨xs.reverse,λM=>al M n xs⟩ a)
 |_=>False
theorem JI{a:f6}{G:D9}{p j:f8}(W:X.mg "reversed" = a8)(O:DA X [a] G)(U:Gl X "reversed":=by rfl)(hs:ge [a] X.env=[(bt,eval a X.env)]:=by rfl):DI X tg (.Call (.Name "reversed" p) [a] [] j) (Db G):=by
 intro f s σ H R I h;obtain⟨S,M,ρ,Q,sm,sr,Y,k⟩:=h;refine Call_<|nu I U W qJ<|Pi (u9 (O j f s σ H _ I ⟨S,M,ρ,_,sm,sr,Y,λv H' w=>w⟩) ?_) hs rfl;rintro us A ⟨vs,E,q,r1,ds,J,D,m,g1,z,t⟩
 try dsimp only at t
 split at t;rename_i n;obtain⟨xs,N,q2⟩:=t;have C:=Reps.inv_cons z;clear z;obtain⟨_,_,rfl,K,z⟩:=C;obtain rfl:=Reps.inv_nil z;obtain⟨u,rfl,L⟩:=aw.one r1;obtain⟨a,rfl,B⟩:=t5.inv_ref K;obtain rfl:u=ABO a:=L;obtain⟨ws,Z,r⟩:=al.seq m N B;obtain⟨its,rv,p,hz⟩:=q.list Z;have lr:=r.length;have lv:=rv.length;refine call_reversed_list p.isList ?_;refine wpAny_pyIter_revIter (l:=a) (i:=((its.toArray.size:Int)-1)) ⟨_,A8 _ rfl,rfl,rfl⟩ ?_;refine⟨A.heap.objs.size,[A.heap.objs.size],_,_,E,rfl,q.kept (t':=A.toks) λb o e=>v7 _ e,Br a _ xs.length,⟨w4 _,_,A8 _ rfl,rfl,?_⟩,λb P=>?_,k _ E ⟨⟨xs.reverse,λM=>al M n xs⟩,J,D,m,g1,?_,q2<|by lia⟩⟩;show Data.fields #[.ref a,i7<|(its.toArray.size:Int)-1]=Data.fields #[.ref a,i7<|(xs.length:Int)-1-((0:Nat):Int)];rw[x9,<-lv,<-lr,show ((xs.length:Int)-1-((0:Nat):Int))=(xs.length:Int)-1 by lia];obtain rfl:b=A.heap.objs.size:=by simpa using P
 exact q.fpOk (u5 _)<|q.hok.fresh<|u5 _;refine⟨λi c F H' s' g ok hi=>?_,λi c F H' x H2 s' g ok hi y=>?_,λc F H' s' g ok=>?_⟩;rw[ACs]at hi;obtain⟨vs,h,r⟩:=al.seq s' ok<|aq g.pre B;have V:xs.length-1-i<vs.length:=by rw[<-r.length];lia
 exact⟨hi,vs,vs[xs.length-1-i],h,v4 V⟩;rw[ACs]at hi;obtain⟨rfl,y⟩:=y;obtain⟨vs,h,r⟩:=al.seq s' ok<|aq g.pre B;obtain⟨d,T,rd⟩:=r.getV<|y vs h;exact⟨d,c,by rw[List.getElem?_reverse hi];exact T,s',.refl,rd⟩;exact(ACs:xs.reverse.length=xs.length);exact t.elim
theorem IF(d:X.mg "reversed" = a8)(f:HA X [a] ta)(S:X.env.kindOf "reversed" = a7 .globalImplicit:=by kernel_rfl)(hs:ge [a] X.env=[(bt,eval a X.env)]:=by kernel_rfl):HI X tg (.Call (.Name "reversed" p) [a] [] pos) (Db ta):=⟨JI d f.ok S hs⟩
end
section
open PySem.W
variable{prog:c5}{w:b9}{A:d8}{E:b7->d9->Prop}{s:d9}{K:Frag}{x D:c6}{ox:c7}
structure ExcK(K:Frag)(D:c6):Prop where
 ga:findIn K (.ref D) "__getattribute__" = a7 (a7<|.builtin "BaseException.__getattribute__")
 gt:findIn K (.ref D) "__getattr__" = a7 a8
 mb:mroIn K D (.type "BaseException")=a7 a9
 mo:mroIn K D (.type "object")=a7 a9
 cl:findIn K (.ref D) "__class__" = a7 (a7<|.builtin "object.__class__")
end
inductive Fly(P:c5)(w:b9)(stk:List Env)(H:Hp)(h0:c8)(a:c6)(C:b7)(H1:Hp)(h:c8):Prop
 |mk (B:c8) (a0:b7) (fly:Heap.FlyingW B stk a C a0 h) (un:Un (G2 stk) [] H H1 h0 h) (hok:D2 P w H1 h)
  (old:∀b o,h0.get? b=a7 o->b∉G2 stk->∃o',B.get? b=a7 o'/\(H b=a8->o'=o)) (trk:∀b u,H1 b=a7 u->∃o,B.get? b=a7 o)
structure DefX(X:Cx):Prop where
 stk:X.stack=X.env::X.outer
 fr:X.env.frame=a7 X.env.locals
 ex:X.ex=[]
def CXe(P:c5)(w:b9):KP:=λk H s E e s'=>∃a C b,e=.ref a/\s'.os=s.os/\e7 s'.gens/\Fly P w k H s.heap a C b s'.heap/\E C a8 b
noncomputable abbrev vE:List b7:=[.type "ValueError",.type "Exception",.type "BaseException",.type "object"]
abbrev DX:=b8->tx->Prop
abbrev OY:=DX->p9
abbrev GA:=DX->u8
abbrev DSpX:=List D->tx->DK->DX->Prop
inductive XQ(K:t6)(ρ:List c6)(H:Hp)(R:DX)(C:b7)(dx:Option c6)(H':Hp):Prop
 |mk (x:b8) (c:c6) (M':tx) (ρ':List c6) (e:C=.ref c) (hx:PySem.W.nsIn K d6 x=a7 (a7 (.ref c))) (s:u6 K ρ' M' H') (g:Grow K ρ H ρ' H') (q:R x M')
inductive lowX(K:t6)(E:XK)(t:OY)(D:Ends)(σ:St)(H:Hp):Prop
 |mk (S:SD) (M:tx) (ρ:List c6) (F:DEnds) (R:DX) (s:u6 K ρ M H) (sr:SRep K ρ H S σ) (q:t R F S M) (k:Nb K ρ H F D) (x:∀C dx H',XQ K ρ H R C dx H'->E C dx H')
inductive lowXE(K:t6)(E:XK)(t:GA)(σ:St)(H:Hp)(Q:VK):Prop
 |mk (S:SD) (M:tx) (ρ:List c6) (F:DK) (R:DX) (s:u6 K ρ M H) (sr:SRep K ρ H S σ) (q:t R S M F) (k:∀v H',VQ K ρ H F v H'->Q v H') (x:∀C dx H',XQ K ρ H R C dx H'->E C dx H')
structure XA(b:Bool)(X:Cx)(pins:List (c6×c7))(E:XK)(P:St->Prop)(Ex:b7->d9->Prop):Prop where
 on:∀σ H1 s1 e s',P σ->p7 X pins σ H1 s1->CXe X.prog X.w X.stack H1 s1 E e s'->Ex e s'
 all:b=a9->∀σ,P σ
 made:b=a9->∀σ H1 s1 h' e C vs,p7 X pins σ H1 s1->Heap.MadeExcOf s1.heap h' e C vs->E C a8 H1->Ex (.ref e) { s1 with heap:=h' }
structure HX(b:Bool)(X:Cx)(st:g7)(t:OY):Prop where
 ok:∀(pins:List (c6×c7)) (s:d9) (σ:St) (H:Hp) (D:Ends) (E:XK) (P:St->Prop) (Ex:b7->d9->Prop),XA b X pins E P Ex->P σ->p7 X pins σ H s->lowX X.K E t D σ H->e8 (f7 X.prog X.w) X.A (exec st X.env) (SP X pins D) Ex s
structure HXs(b:Bool)(X:Cx)(st:List g7)(t:OY):Prop where
 ok:∀(pins:List (c6×c7)) (s:d9) (σ:St) (H:Hp) (D:Ends) (E:XK) (P:St->Prop) (Ex:b7->d9->Prop),XA b X pins E P Ex->P σ->p7 X pins σ H s->lowX X.K E t D σ H->e8 (f7 X.prog X.w) X.A (execs st X.env) (SP X pins D) Ex s
structure HXE(b:Bool)(X:Cx)(e:f6)(t:GA):Prop where
 ok:∀(pins:List (c6×c7)) (s:d9) (σ:St) (H:Hp) (Q:VK) (E:XK) (P:St->Prop) (Ex:b7->d9->Prop),XA b X pins E P Ex->P σ->p7 X pins σ H s->lowXE X.K E t σ H Q->e8 (f7 X.prog X.w) X.A (eval e X.env) (EP X pins σ Q) Ex s
structure ClsX(K:t6)(x:b8)(C:c6):Prop where
 at_:PySem.W.nsIn K d6 x=a7 (a7<|.ref C)
 exc:PySem.W.excIn K C vE "ValueError.__new__" = a9
 own:ExcK K C
 val:N3 K (.ref C) (.type "ValueError")=a7 a9
structure RoomH(k:Nat)(A:d8):Prop where
 dp:A.depth+3*k+5<recursionLimit
 un:A.units+16*k+200<j2
structure FnH(P:c5)(w:b9)(K:t6)(mg:b8->Option b7)(base:c8)(k:Nat)(f:c6)(fd:j3)(ps:List b8)(sp:Sp):Prop where
 len:∀vs H Q E,sp vs H Q E->vs.length=ps.length
 run:∀(A:d8) (outer:List Env) (s:d9) (H:Hp) (args:Args) (us:List b7) (vs:List V) (Q:VK) (E:XK),RoomH k A->Env0 P w K mg base A outer s H->BindsTo s fd args (ps.zip us)->aw vs us->sp vs H Q E ->j4 (f7 P w) A (.call (.ref f) args) (CR I0 outer P w H s Q E) s
end L2
namespace L2
open PySem PySem.Spec PyProof.Rows DL PySem.W
end L2
namespace L2
open PySem PySem.Spec PyProof.Rows DL
abbrev DTAX:=DX->D9
inductive lowXA(K:t6)(E:XK)(t:DTAX)(σ:St)(H:Hp)(Q:List V->Hp->Prop):Prop
 |mk (S:SD) (M:tx) (ρ:List c6) (F:List D->tx->Prop) (R:DX) (s:u6 K ρ M H) (sr:SRep K ρ H S σ) (q:t R S M F) (k:∀v H',AQ K ρ H F v H'->Q v H') (x:∀C dx H',XQ K ρ H R C dx H'->E C dx H')
structure HXA(b:Bool)(X:Cx)(es:List f6)(t:DTAX):Prop where
 ok:∀(pos:f8) (pins:List (c6×c7)) (s:d9) (σ:St) (H:Hp) (Q:List V->Hp->Prop) (E:XK) (P:St->Prop) (Ex:b7->d9->Prop),XA b X pins E P Ex->P σ->p7 X pins σ H s->lowXA X.K E t σ H Q->e8 (f7 X.prog X.w) X.A (spliced<|f9 pos<|ge es X.env) (AP X pins σ Q) Ex s
end L2
namespace LW
open PySem L2
local macro_rules | `(tactic| walk_at"sc")=>`(tactic| exact⟨rfl,rfl,rfl,by decide +kernel,rfl,by decide +kernel,by decide +kernel⟩)
local macro_rules | `(tactic| walk_at"dl")=>`(tactic| simp only[EE,av,A9,Gp,GH,L1,aB,s9,aa,ag,bu,jC,dOrV,Dc,D1,nL,bp,ak,bg,aU,kb,kW,p6,NR,ua,dC,ab,ig,jB,Lr,oh,gB,NT,KG,cj,sT,qAdd,aK,GC,jL,aJ,cx,Hi,KM,MW,Lq,MY,MX,D0,MV,Eu,kZ,Hk,u7,NP,cB,dAsg,CZ,nD,cf,nE,dMl0,mC,gc,De,gx,vI,iU,qH,NS,sO,wU,pA,Ev,pS,nF,zm,Dd,L4,pc,sP,Hh,Db,Hg,jK,wT,Gi,iC,SqAt,GD,mB,iA,NU,LI,OS,C9,Pl,eJ,JL,A3,No,List.cons_append,E3,OA,MQ,C7,C0,List.replicate_zero,List.replicate_succ,List.set_cons_zero,List.set_cons_succ,Li,Nat.reduceAdd,Nat.reduceSub,Option.join_some,o7,o6,x3])
noncomputable def top(i:Nat):g7:=PySem.Challenge.pw_talkmarks_k46_whole_never_unread.main.body.getD i<|.Pass ⟨0,0,0,0⟩
noncomputable abbrev B_:List b8:=["int","isinstance","bool","tuple","len","dict","sorted","set","any","reversed","range","max"]
noncomputable abbrev C_:List (b8×Int):=[]
noncomputable abbrev jO:List b8:=["thing"]
noncomputable abbrev dq:List b8:=["least","thing"]
noncomputable abbrev ff:List b8:=["many","thing"]
noncomputable abbrev iG:List b8:=["pairs"]
noncomputable abbrev mK:List b8:=["house","name"]
noncomputable abbrev mL:List b8:=["house","thing"]
noncomputable abbrev mN:List b8:=["house","thing"]
noncomputable abbrev gj:List b8:=["house","room"]
noncomputable abbrev jP:List b8:=["house","thing"]
noncomputable abbrev jN:List b8:=["deed"]
noncomputable abbrev iE:List b8:=["deed"]
noncomputable abbrev iF:List b8:=["deed","vector"]
noncomputable abbrev du:List b8:=["log","kind"]
noncomputable abbrev jR:List b8:=["log","kind","name"]
noncomputable abbrev eZ:List b8:=["log","kind","name"]
noncomputable abbrev mH:List b8:=["say"]
noncomputable abbrev jM:List b8:=["say"]
noncomputable abbrev iH:List b8:=["house","say","elders"]
noncomputable abbrev cE:List b8:=["house","log"]
noncomputable abbrev eB:List b8:=["deed","says"]
noncomputable abbrev eY:List b8:=["log","kind","says"]
noncomputable abbrev eA:List b8:=["log","says"]
noncomputable abbrev bN:List b8:=["log","says"]
noncomputable abbrev gi:List b8:=["say","changes"]
noncomputable abbrev gg:List b8:=["house","log"]
noncomputable abbrev fe:List b8:=["house","log"]
noncomputable abbrev gd:List b8:=["house","log"]
noncomputable abbrev pY:List b8:=["house","log","stamp"]
noncomputable abbrev cC:List b8:=["log","name"]
noncomputable abbrev mM:List b8:=["say","name","vectors","seen"]
noncomputable abbrev jQ:List b8:=["house","log","name","stamp"]
noncomputable abbrev gh:List b8:=["house","log","stamp"]
noncomputable abbrev cD:List b8:=["house","log","name"]
noncomputable abbrev cQ:List b8:=["says","room"]
noncomputable abbrev gk:List b8:=["depth","stamps"]
noncomputable abbrev dY:List b8:=["beneath"]
noncomputable abbrev mG:List b8:=["house","log","room"]
noncomputable abbrev dZ:List b8:=["house","log","name","room"]
noncomputable abbrev mJ:List b8:=["house","log","name","room"]
noncomputable abbrev mO:List b8:=["_law_script","_law_k"]
noncomputable abbrev uL:List b8:=["_law_cell","_law_k"]
noncomputable abbrev zA:List b8:=["_law_cell","_law_k"]
noncomputable abbrev mI:List b8:=["_law_script","_law_start","_law_most"]
noncomputable abbrev uK:List b8:=["_law_number","_law_many"]
noncomputable abbrev uM:List b8:=["_law_cell"]
noncomputable abbrev uN:List b8:=["_law_house_here"]
noncomputable abbrev pX:List b8:=["_law_number","_law_names_here"]
noncomputable abbrev zx:List b8:=["_law_number","_law_says","_law_hands_here"]
noncomputable abbrev pV:List b8:=["_law_number","_law_hands_here","_law_counts"]
noncomputable abbrev zw:List b8:=["_law_number","_law_house_here","_law_says","_law_hands_here"]
noncomputable abbrev ET:List b8:=["_law_number","_law_house_here","_law_says","_law_hands_here","_law_counts"]
noncomputable abbrev ER:List b8:=["_law_house_here","_law_numbers_here","_law_hands_here"]
noncomputable abbrev zy:List b8:=["_law_log_here","_law_cell"]
noncomputable abbrev pW:List b8:=["_law_house_here","_law_log_here"]
noncomputable abbrev uO:List b8:=["_law_house_here","_law_lesser","_law_greater"]
noncomputable abbrev ES:List b8:=["_law_script"]
structure Tops(P:c5)(w:b9)(K:t6)(mg:b8->Option b7)(base:c8):Prop where
 f_is_whole:bV K mg "is_whole" (top 5) jO
 f_is_whole_from:bV K mg "is_whole_from" (top 6) dq
 f_is_tuple_of:bV K mg "is_tuple_of" (top 7) ff
 f_firsts_of:bV K mg "firsts_of" (top 9) iG
 f_many_of:bV K mg "many_of" (top 10) mK
 f_is_room:bV K mg "is_room" (top 11) mL
 f_is_hand:bV K mg "is_hand" (top 12) mN
 f_members_of:bV K mg "members_of" (top 13) gj
 f_is_stamp:bV K mg "is_stamp" (top 15) jP
 f_stamp_of:bV K mg "stamp_of" (top 16) jN
 f_person_of:bV K mg "person_of" (top 17) iE
 f_is_within:bV K mg "is_within" (top 18) iF
 f_deeds_of_kind:bV K mg "deeds_of_kind" (top 20) du
 f_deeds_by:bV K mg "deeds_by" (top 21) jR
 f_stamps_told:bV K mg "stamps_told" (top 22) eZ
 f_room_of:bV K mg "room_of" (top 24) mH
 f_under_of:bV K mg "under_of" (top 25) jM
 f_can_stand:bV K mg "can_stand" (top 26) iH
 f_says_that_count:bV K mg "says_that_count" (top 27) cE
 f_is_by_writer:bV K mg "is_by_writer" (top 28) eB
 f_writers_own:bV K mg "writers_own" (top 29) eY
 f_last_changes:bV K mg "last_changes" (top 30) eA
 f_stamps_taken_back:bV K mg "stamps_taken_back" (top 31) bN
 f_message_of:bV K mg "message_of" (top 32) gi
 f_says_shown:bV K mg "says_shown" (top 33) gg
 f_messages_of:bV K mg "messages_of" (top 34) fe
 f_taken_back:bV K mg "taken_back" (top 35) gd
 f_say_at:bV K mg "say_at" (top 36) pY
 f_vectors_by_room:bV K mg "vectors_by_room" (top 38) cC
 f_is_read:bV K mg "is_read" (top 39) mM
 f_has_read:bV K mg "has_read" (top 40) jQ
 f_readers_of:bV K mg "readers_of" (top 41) gh
 f_unread_messages:bV K mg "unread_messages" (top 42) cD
 f_stamps_beneath:bV K mg "stamps_beneath" (top 44) cQ
 f_last_first:bV K mg "last_first" (top 45) gk
 f_rows_of_tree:bV K mg "rows_of_tree" (top 46) dY
 f_rows_of:bV K mg "rows_of" (top 47) mG
 f_new_messages:bV K mg "new_messages" (top 49) dZ
 f_new_for:bV K mg "new_for" (top 50) mJ
 f_cell_at:bV K mg "_law_cell_at" (top 52) mO
 f_mixed:bV K mg "_law_mixed" (top 53) uL
 f_free:bV K mg "_law_free" (top 54) zA
 f_numbers:bV K mg "_law_numbers" (top 55) mI
 f_names:bV K mg "_law_names" (top 56) uK
 f_house:bV K mg "_law_house" (top 57) uM
 f_hands:bV K mg "_law_hands" (top 58) uN
 f_saying:bV K mg "_law_saying" (top 59) pX
 f_told:bV K mg "_law_told" (top 60) zx
 f_vector:bV K mg "_law_vector" (top 61) pV
 f_what:bV K mg "_law_what" (top 62) zw
 f_act:bV K mg "_law_act" (top 63) ET
 f_log:bV K mg "_law_log" (top 64) ER
 f_part:bV K mg "_law_part" (top 65) zy
 f_stamps:bV K mg "_law_stamps" (top 66) pW
 f_grows:bV K mg "_law_grows" (top 67) uO
 f_law:bV K mg "law" (top 68) ES
 b:TopB mg B_ C_
local macro_rules | `(tactic| walk_at"bb")=>`(tactic| first|exact Ka|exact Gx|exact Gw|exact JZ|exact qK|exact JY|exact JX|exact AX|exact Di)
local macro_rules | `(tactic| walk_at"tb")=>`(tactic| exact TopB.no (by k_dflt assumption) (by kernel_rfl))
local macro_rules | `(tactic| walk_at"dvr")=>`(tactic| (repeat' (first|(with_reducible first|(refine gA ?_;first|exact IM|refine FA ?_ ?_)|exact k_var|(refine Jq ?_;first|exact k_int|exact k_bl|exact k_non|exact k_str)|(refine gCall ?_;first|refine FE ?_ ?_|refine FD ?_ ?_|refine xZ (by k_dflt assumption) ?_ (by walk_at"tb") (by walk_at"tb")|refine FG ?_ (by walk_at"tb") (by walk_at"bb") ?_|refine Cv ?_ (by walk_at"tb") (by walk_at"bb") ?_|refine k_cal (by k_dflt assumption) (by k_dflt assumption) ?_|refine FB (by k_dflt assumption) ?_ ?_|refine IU (by k_dflt assumption) ?_ ?_|refine IS (by k_dflt assumption) ?_ ?_|refine k_ms ?_ ?_ ?_|refine k_ml ?_ ?_ ?_|refine k_ml0 ?_ ?_)|(refine gIx ?_;first|refine FC ?_ ?_ ?_|refine IR (by k_dflt assumption) ?_ ?_ (hs:=by k_dflt (intro _ _;kernel_rfl))|refine k_ix ?_ ?_ (hs:=by k_dflt (intro _ _;kernel_rfl)))|(refine gT ?_;first|refine IA ?_ ?_ ?_|refine Iz ?_|refine kw_t (Dz ?_ ?_)|refine kw_t (Iw ?_ ?_)|refine Iy ?_)|(refine gE ?_;first|exact IV|exact IP|exact IT|exact IN (by walk_at"tb") (by walk_at"bb")|refine k_op ?_ ?_ ?_|refine k_un Jb ?_|refine k_not ?_|refine k_cmp ?_ ?_ ?_|refine FF ?_ ?_ ?_ ?_ ?_|refine k_one ?_|refine k_and ?_ ?_|refine k_or ?_ ?_|refine k_tup ?_|refine k_lst ?_|refine k_lcN ?_ (λ_ _ _ _=>?_) (λ_ _ _ _=>?_) (λ_ _ _ _=>?_))|(refine gS ?_;first|exact wM|refine Ab ?_|refine DF ?_|refine ID ?_ ?_ ?_|refine tQ (by k_dflt assumption) ?_ (λ_ _ _ _=>?_) (λ_ _ _ _=>?_) (λ_ _ _ _=>?_)|refine DC (by k_dflt assumption) ?_|refine DJ ?_ ?_|refine Aa (by k_dflt assumption) ?_ ?_ ?_|refine DH ?_ ?_ ?_|refine wL ?_ ?_)|(refine gOp ?_;first|exact FN|exact ho_eq (by k_dflt assumption)|exact FM|exact ho_ge|exact ho_gt|exact ho_in (by k_dflt assumption)|exact Jh (by k_dflt assumption)|exact ho_is|exact ho_le|exact ho_lt|exact Jg|exact Jf|exact ho_ne (by k_dflt assumption)|exact An (by k_dflt assumption)|exact CC (by k_dflt assumption)|exact Je|exact Jd|exact Jc)|(refine gC ?_;first|exact Jn|exact Ar (by k_dflt assumption)|exact Jm|exact Jl|exact FR|exact ya (by k_dflt assumption)|exact CI)|exact IC|exact Fs|exact Fw|exact Fy|refine IB ?_|refine Dz ?_ ?_|refine Iw ?_ ?_|refine Fm ?_|refine Iv ?_|refine Fq ?_|refine Fv ?_|refine Ae (by walk_at"tb") ?_|refine IF (by walk_at"tb") ?_|refine Cp ?_|refine Cq ?_|refine IE ?_|exact Fz (by k_dflt assumption)|exact II (Ip (by kernel_rfl))|refine Cr ?_ ?_|refine IG ?_|refine IH ?_ ?_|exact Ap|exact Ao|exact CD|exact Ji)|refine Fu ?_ ?_|refine Ab ?_|refine DF ?_|refine ID ?_ ?_ ?_|refine tQ (by k_dflt assumption) ?_ (λ_ _ _ _=>?_) (λ_ _ _ _=>?_) (λ_ _ _ _=>?_)|refine DC (by k_dflt assumption) ?_|refine DJ ?_ ?_|refine Aa (by k_dflt assumption) ?_ ?_ ?_|refine DH ?_ ?_ ?_|refine wL ?_ ?_|exact wM)))
local macro_rules | `(tactic| walk_at"dv")=>`(tactic| (intro _ _ _ _ _ _ _ _ _ _;refine FS rfl ?_;walk_at"dvr"))
section
variable{P:c5}{w:b9}{K:t6}{mg:b8->Option b7}{base:c8}
noncomputable def dW(p:b8×Int):D:=.tup [.str p.1,.int p.2]
def Hd(d:D):Prop:=∃(x:b8) (k:Int),d=.tup [.str x,.int k]
theorem FQ(f:Hd a)(d:Hd b):t4 M (n+1) a b=a9↔a=b:=by obtain⟨x,k,rfl⟩:=f;obtain⟨y,l,rfl⟩:=d;show (t4 M n (.str x) (.str y)&&(t4 M n (.int k) (.int l)&&a9))=a9↔_;rw[cG,iS];simp
theorem Jj(f:Hd a):u3 M t8 a=a9:=by obtain⟨x,k,rfl⟩:=f;rfl
noncomputable def pJ(hs:List (D×Int)):List D:=hs.map λp=>.tup [p.1,.int p.2]
noncomputable def fG(hs:List (D×Int))(d:D)(num:Int):Bool:=match hs.find? λp=>decide (p.1=d) with
 |some p=>decide<|num<p.2
 |none=>bt
noncomputable def OQ:Nat->D->Bool
 |n+1,.tup xs=>xs.all<|OQ n
 | 0,.tup _=>bt
 |_,.ref _=>bt
 |_,.ty _=>bt
 |_,_=>a9
def E9(n:Nat)(d:D):Prop:=OQ n d=a9
def nM(n:Nat)(ds:List D):Prop:=ds.all (OQ n)=a9
theorem E9.non:E9 n .non:=by cases n<;>rfl
theorem E9.bl(b:Bool):E9 n (.bl b):=by cases n<;>rfl
theorem E9.int(i:Int):E9 n (.int i):=by cases n<;>rfl
theorem E9.str(x:b8):E9 n (.str x):=by cases n<;>rfl
theorem nM.nil:nM n []:=rfl
theorem nM.cons(h:E9 n d)(t:nM n ds):nM n (d::ds):=by unfold nM E9 at *;rw[Kv,h,t];rfl
theorem E9.tup(h:nM n ds):E9 (n+1) (.tup ds):=h
theorem nM.of(h:∀d∈ds,E9 n d):nM n ds:=Fn.mpr h
theorem bw:∀(n:Nat) (d:D),E9 n d->C2 k d:=by
 intro n;induction n with
 |zero =>
  intro d h;cases d with
  |tup xs=>cases h
  |ref i=>cases h
  |ty t=>cases h
  |non=>exact .non
  |bl b=>exact .bl b
  |int i=>exact .int i
  |str x=>exact .str x
 |succ n c =>
  intro d h;cases d with
  |tup xs=>exact .tup<|Bels.of λx a=>c x<|Fn.mp h x a
  |ref i=>cases h
  |ty t=>cases h
  |non=>exact .non
  |bl b=>exact .bl b
  |int i=>exact .int i
  |str x=>exact .str x
theorem qD:∀{xs:List D},(∀x∈xs,f x x=a9)->C5 f xs xs=a9
 | [],_=>rfl
 |x::xs,h=>by show (f x x&&C5 f xs xs)=a9;rw[h x (by simp),qD λy hy=>h y<|A2 _ hy];rfl
theorem Du:∀(n m:Nat) (d:D),n<=m->E9 n d->u3 M m d=a9/\t4 M m d d=a9:=by
 intro n;induction n with
 |zero =>
  intro m d _ h;cases d with
  |tup xs=>cases h
  |ref i=>cases h
  |ty t=>cases h
  |non=>exact⟨zG,by cases m<;>rfl⟩
  |bl b=>exact⟨Dw,by cases m<;>cases b<;>rfl⟩
  |int i=>exact⟨aE,by rw[iS];exact p4 i⟩
  |str x=>exact⟨aM,by rw[cG];exact p4 x⟩
 |succ n c =>
  intro m d e h;cases m with
  |zero=>lia
  |succ m =>
   cases d with
   |tup xs=>exact⟨EX λx a=>(c m x (by lia)<|Fn.mp h x a).1,qD λx a=>(c m x (by lia)<|Fn.mp h x a).2⟩
   |ref i=>cases h
   |ty t=>cases h
   |non=>exact⟨zG,rfl⟩
   |bl b=>exact⟨Dw,by cases b<;>rfl⟩
   |int i=>exact⟨aE,by rw[iS];exact p4 i⟩
   |str x=>exact⟨aM,by rw[cG];exact p4 x⟩
theorem FP(h:Hd d):E9 (n+1) d:=by obtain⟨x,i,rfl⟩:=h;exact .tup<|.cons (.str _)<|.cons (.int _) .nil
theorem Jk(h:Hd d):C2 k d:=bw 1 d<|FP h
noncomputable def iR:D->D
 |.tup (_::h::_)=>h
 |_=>.non
noncomputable def numD:D->Int
 |.tup (_::_::.int n::_)=>n
 |_=>0
noncomputable def many(log:List D)(h:D):Nat:=(log.filter λd=>decide<|iR d=h).length
theorem dJ:aQ (iD kvs k d) k=a7 d:=by
 unfold iD;split;rename_i hs;unfold aQ at hs ⊢;rw[Option.isSome_map]at hs;obtain⟨q,h⟩:=Pf.mp hs;rw[N0];have e:((λp:D×D=>decide<|p.1=k) ∘ λp:D×D=>if p.1=k then(p.1,d)else p)=λp=>decide (p.1=k):=by funext p;show decide ((if p.1=k then(p.1,d)else p).1=k)=decide (p.1=k);split<;>rfl
 rw[e,h];have a:q.1=k:=by have:=MH h;exact oT_ this
 show a7 (if q.1=k then(q.1,d)else q).2=_;rw[n6 a];rename_i hs;unfold aQ at hs ⊢;rw[Option.isSome_map,Option.not_isSome_iff_eq_none]at hs;rw[Oe,hs];simp
theorem dz(h:j≠k):aQ (iD kvs k d) j=aQ kvs j:=by
 unfold iD;split;unfold aQ;rw[N0];have e:((λp:D×D=>decide<|p.1=j) ∘ λp:D×D=>if p.1=k then(p.1,d)else p)=λp=>decide (p.1=j):=by funext p;show decide ((if p.1=k then(p.1,d)else p).1=j)=decide (p.1=j);split<;>rfl
 rw[e];cases f:kvs.find? λp=>decide (p.1=j) with
 |none=>rfl
 |some q =>
  have a:q.1=j:=by have:=MH f;exact oT_ this
  show a7 (if q.1=k then(q.1,d)else q).2=a7 q.2;rw[n9<|by rw[a];exact h]
 unfold aQ;rw[Oe];cases f:kvs.find? λp=>decide (p.1=j) with
 |none=>simp[C3 h]
 |some q=>rfl
theorem iK:∀{kvs:List (D×D)}{p:D×D},(kvs.map (·.1)).Nodup->p∈kvs->aQ kvs p.1=a7 p.2
 |q::kvs,p,nd,h=>by rw[A3,Kp]at nd;unfold aQ;rw[Ko];rcases z5.mp h with rfl|h;rw[dT_ rfl];rfl;have:q.1≠p.1:=λz=>nd.1 (by rw[z];exact Kj h);rw[dF_ this];exact iK nd.2 h
theorem bo(h:aQ kvs k=a7 d):(k,d)∈kvs:=by
 unfold aQ at h;obtain⟨q,a,rfl⟩:=LB.mp h;have e:q.1=k:=by have:=MH a;exact oT_ this
 rw[<-e];exact Pg a
theorem jn{α:Type}{P:List α->Prop}(a:P [])(h1:∀l x,P l->P (l++[x]))(l:List α):P l:=by
 rw[<-List.reverse_reverse l];induction l.reverse with
 |nil=>exact a
 |cons x xs i=>rw[List.reverse_cons];exact h1 _ _ i
theorem qg(h:al M n xs)(ok:∀x∈xs,u3 (M++[MO.lst []]) 29 x=a9):(u3 (M++[MO.lst []]) t8 (.ref n)=a9/\u3 (M++[MO.lst []]) t8 (.ref M.length)=a9)/\t4 (M++[MO.lst []]) t8 (.ref n) (.ref M.length)=xs.isEmpty:=by have h1:al (M++[MO.lst []]) n xs:=h.more _;have h2:al (M++[MO.lst []]) M.length []:=ae;refine⟨⟨qd (n:=29) h1 ok,qd (n:=29) h2 λ_ z=>nomatch z⟩,?_⟩;exact(wR (n:=29) h1 h2).trans FV
theorem zM(h:m≠n)(l:al M m xs):al (M.set n x) m xs:=by rcases l with l|l|l;exact .inl (by rw[K1<|C3 h];exact l);exact .inr (.inl<|by rw[K1<|C3 h];exact l);exact .inr<|.inr<|by rw[K1<|C3 h];exact l
theorem aR{M:tx}{m n:Nat}{x y:MO}(h:m≠n)(l:M[m]?=a7 y):(M.set n x)[m]?=a7 y:=by rw[K1<|C3 h];exact l
theorem br{M:tx}{m:Nat}{y:MO}(l:M[m]?=a7 y):m<M.length:=(w6.mp l).1
theorem tq(l:al M m xs):m<M.length:=by rcases l with l|l|l<;>exact br l
theorem ac{B:tx}{q:Nat}{x a:MO}(h:B[q]?=a7 x):(B++[a])[q]?=a7 x:=by rw[J5 (w6.mp h).1];exact h
theorem cc{B:tx}{q:Nat}{x a:MO}(h:B[q]?=a7 x):(B.set q a)[q]?=a7 a:=Lp (w6.mp h).1
theorem bO(p:M <+: B)(l:al M q xs):al B q xs:=by obtain⟨L,rfl⟩:=p;exact l.more L
theorem bn{M B:tx}{q:Nat}{x:MO}(p:M <+: B)(l:M[q]?=a7 x):B[q]?=a7 x:=by obtain⟨L,rfl⟩:=p;rw[J5<|br l];exact l
theorem wO(xs:List Int):Bels k (xs.map D.int):=Bels.of λd h=>by obtain⟨x,_,rfl⟩:=ve.mp h;exact .int x
theorem wy(xs:List b8):Bels k (xs.map D.str):=Bels.of λd h=>by obtain⟨x,_,rfl⟩:=ve.mp h;exact .str x
theorem ca{a b:Int}(h:0<b):0<=a % b:=Int.emod_nonneg _<|by lia
theorem cz{a b:Int}(h:0<b):a % b<b:=Int.emod_lt_of_pos _ h
theorem jD{α:Type}{xs:List α}{i:Int}(h:1<=xs.length):∃x∈xs,atI xs (i % (xs.length:Int))=a7 x:=by obtain⟨j,L,B,_⟩:=AZ (xs:=xs) (ca (a:=i) (b:=xs.length)<|by lia) (cz<|by lia);exact⟨xs[j],KY L,B⟩
theorem bY(p:M <+: B)(h:M.length<=q):M <+: B.set q x:=by obtain⟨L,rfl⟩:=p;rw[O6 _ _ h];exact Kq _ _
noncomputable def cb(p:b8×Int):List D:=(gP 0 p.2.toNat).map λk=>.tup [.str p.1,k]
noncomputable def aT(ps:List (b8×Int)):List D:=ps.flatMap cb
def OX(ps:List (b8×Int)):Prop:=ps.length<=4/\∀p∈ps,0<=p.2/\p.2<=3
theorem iQ:(cb p).length=p.2.toNat:=by simp[cb,gP]
theorem py(h:∀p∈ps,0<=p.2/\p.2<=3):(aT ps).length<=3*ps.length:=by
 induction ps with
 |nil=>simp[aT]
 |cons p ps i =>
  have:=i λq a=>h q<|A2 _ a;have h1:=h p D4;have e:(aT<|p::ps).length=p.2.toNat+(aT ps).length:=by rw[aT,List.flatMap_cons,x5,iQ];rfl
  rw[e,C7];lia
theorem qA:∀d∈aT ps,Hd d:=λd a=>by unfold aT at a;obtain⟨p,_,h⟩:=List.mem_flatMap.mp a;unfold cb gP at h;simp only[E2,ve]at h;obtain⟨i,_,rfl⟩:=h;exact⟨_,_,rfl⟩
theorem yb:Bels k (aT ps):=Bels.of λd h=>Jk<|qA d h
noncomputable def my(p:b8×List b8):D:=.tup [.str p.1,.tup<|p.2.map .str]
noncomputable def ax(ps:List (b8×Int))(rs:List (b8×List b8)):D:=.tup [.tup<|ps.map dW,.tup<|rs.map my]
structure HouseF(ps:List (b8×Int))(rs:List (b8×List b8)):Prop where
 len:1<=ps.length/\ps.length<=4
 many:∀p∈ps,1<=p.2/\p.2<=3
 nm:∀p∈ps,p.1.length<=8
 rl:1<=rs.length/\rs.length<=4
 pnd:(ps.map (·.1)).Nodup
 rnd:(rs.map (·.1)).Nodup
 sb:∀r∈rs,r.2.Sublist (ps.map (·.1))
theorem HouseF.rm(h:HouseF ps rs):∀r∈rs,r.2.length<=4:=λr i=>by have h1:=(h.sb r i).length_le;have h2:=h.len.2;rw[u4]at h1;lia
def St(d:D):Prop:=∃(t:Int) (z:b8) (k:Int),d=.tup [.int t,.tup [.str z,.int k]]
theorem St.key(h:St d):cY 8 d=a9:=by obtain⟨t,z,k,rfl⟩:=h;rfl
theorem St.ok(h:St d):u3 M t8 d=a9:=by obtain⟨t,z,k,rfl⟩:=h;rfl
theorem St.pl(h:St d):E9 (n+2) d:=by obtain⟨t,z,k,rfl⟩:=h;exact .tup<|.cons (.int _)<|.cons (.tup<|.cons (.str _)<|.cons (.int _) .nil) .nil
theorem St.eq(f:St a)(d:St b):t4 M (n+2) a b=decide (a=b):=by
 obtain⟨t,z,k,rfl⟩:=f;obtain⟨t',G,I,rfl⟩:=d;have e:t4 M (n+2) (.tup [.int t,.tup [.str z,.int k]]) (.tup [.int t',.tup [.str G,.int I]])=((t==t')&&(((z==G)&&((k==I)&&a9))&&a9)):=by show (t4 M (n+1) (.int t) (.int t')&&((t4 M n (.str z) (.str G)&&(t4 M n (.int k) (.int I)&&a9))&&a9))=_;rw[iS,cG,iS]
 rw[e];by_cases h:D.tup [.int t,.tup [.str z,.int k]]=.tup [.int t',.tup [.str G,.int I]];rw[dT_ h];simp only[D.tup.injEq,Mg,D.int.injEq,D.str.injEq,and_true]at h;obtain⟨rfl,rfl,rfl⟩:=h;simp;rw[dF_ h];simp only[D.tup.injEq,Mg,D.int.injEq,D.str.injEq,and_true]at h;refine KJ.mpr λq=>h ?_;simpa using q
theorem St.tup(h:St d):∃ks,d=.tup ks:=by obtain⟨t,z,k,rfl⟩:=h;exact⟨_,rfl⟩
def Kb(d:D):Prop:=(∃x:b8,d=.tup [.str<|r9 "room",.str x])\/(∃x:b8,d=.tup [.str<|r9 "person",.str x])\/∃(t:Int) (z:b8) (k:Int),d=.tup [.str<|r9 "under",.tup [.int t,.tup [.str z,.int k]]]
theorem Kb.pl4(h:Kb d):E9 4 d:=by rcases h with⟨x,rfl⟩|⟨x,rfl⟩|⟨t,z,k,rfl⟩<;>rfl
def VecK(vs:List D):Prop:=∃hs:List (D×Int),vs=pJ hs/\(∀p∈hs,Hd p.1)/\hs.length<=12/\(hs.map (·.1)).Nodup
structure ActK(rs:List (b8×List b8))(x:b8)(ds:List D):Prop where
 say:x=r9 "say"->∃(r:b8) (u:D) (s:b8),ds=[.str r,u,.str s]/\r∈rs.map (·.1)/\(u=.non\/St u)
 change:x=r9 "change"->∃(m:D) (s:b8),ds=[m,.str s]/\St m
 back:x=r9 "back"->∃m:D,ds=[m]/\St m
 like:x=r9 "like"->∃(m:D) (s:b8) (b:Bool),ds=[m,.str s,.bl b]/\St m
 read:x=r9 "read"->∃(r:b8) (vs:List D),ds=[.str r,.tup vs]/\VecK vs
 seen:x=r9 "seen"->∃m:D,ds=[m]/\St m
 rung:x=r9 "rung"->∃m:D,ds=[m]/\St m
 hush:x=r9 "hush"->∃(w:D) (b:Bool),ds=[w,.bl b]/\Kb w
section
variable{rs:List (b8×List b8)}
theorem cA{a b:b8}{P:Prop}(h:(a==b)=bt)(e:a=b):P:=o0 e<|beq_eq_false_iff_ne.mp h
theorem ActK.mkSay(i:r∈rs.map (·.1))(g:u=.non\/St u):ActK rs (r9 "say") [.str r,u,.str s]:=⟨λ_=>⟨r,u,s,rfl,i,g⟩,cA (by decide +kernel),cA (by decide +kernel),cA (by decide +kernel),cA (by decide +kernel),cA (by decide +kernel),cA (by decide +kernel),cA<|by decide +kernel⟩
theorem ActK.mkChange(h:St m):ActK rs (r9 "change") [m,.str s]:=⟨cA (by decide +kernel),λ_=>⟨m,s,rfl,h⟩,cA (by decide +kernel),cA (by decide +kernel),cA (by decide +kernel),cA (by decide +kernel),cA (by decide +kernel),cA<|by decide +kernel⟩
theorem ActK.mkBack(h:St m):ActK rs (r9 "back") [m]:=⟨cA (by decide +kernel),cA (by decide +kernel),λ_=>⟨m,rfl,h⟩,cA (by decide +kernel),cA (by decide +kernel),cA (by decide +kernel),cA (by decide +kernel),cA<|by decide +kernel⟩
theorem ActK.mkLike(h:St m):ActK rs (r9 "like") [m,.str s,.bl b]:=⟨cA (by decide +kernel),cA (by decide +kernel),cA (by decide +kernel),λ_=>⟨m,s,b,rfl,h⟩,cA (by decide +kernel),cA (by decide +kernel),cA (by decide +kernel),cA<|by decide +kernel⟩
theorem ActK.mkRead(h:VecK vs):ActK rs (r9 "read") [.str r,.tup vs]:=⟨cA (by decide +kernel),cA (by decide +kernel),cA (by decide +kernel),cA (by decide +kernel),λ_=>⟨r,vs,rfl,h⟩,cA (by decide +kernel),cA (by decide +kernel),cA<|by decide +kernel⟩
theorem ActK.mkSeen(h:St m):ActK rs (r9 "seen") [m]:=⟨cA (by decide +kernel),cA (by decide +kernel),cA (by decide +kernel),cA (by decide +kernel),cA (by decide +kernel),λ_=>⟨m,rfl,h⟩,cA (by decide +kernel),cA<|by decide +kernel⟩
theorem ActK.mkRung(h:St m):ActK rs (r9 "rung") [m]:=⟨cA (by decide +kernel),cA (by decide +kernel),cA (by decide +kernel),cA (by decide +kernel),cA (by decide +kernel),cA (by decide +kernel),λ_=>⟨m,rfl,h⟩,cA<|by decide +kernel⟩
theorem ActK.mkHush{w:D}{b:Bool}(h:Kb w):ActK rs (r9 "hush") [w,.bl b]:=⟨cA (by decide +kernel),cA (by decide +kernel),cA (by decide +kernel),cA (by decide +kernel),cA (by decide +kernel),cA (by decide +kernel),cA (by decide +kernel),λ_=>⟨w,b,rfl,h⟩⟩
end
def aC(ps:List (b8×Int))(rs:List (b8×List b8))(d:D):Prop:=∃(t:Int) (z:b8) (k m:Int) (x:b8) (ds:List D),d=.tup [.int t,.tup [.str z,.int k],.int m,.tup<|.str x::ds]/\1<=t/\D.tup [.str z,.int k]∈aT ps/\nM 4 ds/\ActK rs x ds
section
variable{ps:List (b8×Int)}{rs:List (b8×List b8)}
theorem aC.pl(h:aC ps rs d):E9 6 d:=by obtain⟨t,z,k,m,x,ds,rfl,_,_,p,_⟩:=h;exact .tup<|.cons (.int _)<|.cons (FP ⟨_,_,rfl⟩)<|.cons (.int _)<|.cons (.tup<|.cons (.str _) p) .nil
theorem aC.bels(h:∀d∈ds,aC ps rs d):Bels k ds:=Bels.of λd a=>bw 6 d (h d a).pl
end
noncomputable def cW:D->b8
 |.tup [_,_,_,.tup<|.str x::_]=>x
 |_=>r9 ""
noncomputable def jU:D->b8
 |.tup (_::.tup (.str z::_)::_)=>z
 |_=>r9 ""
noncomputable def t7:D->D
 |.tup (t::h::_)=>.tup [t,h]
 |_=>.non
noncomputable def bq:D->b8
 |.tup [_,_,_,.tup<|_::.str r::_]=>r
 |_=>r9 ""
noncomputable def eO:D->D
 |.tup [_,_,_,.tup<|_::_::u::_]=>u
 |_=>.non
noncomputable def uw:D->D
 |.tup [_,_,_,.tup<|_::m::_]=>m
 |_=>.non
noncomputable def sayO:D->D
 |.tup [_,_,_,.tup<|_::_::_::s::_]=>s
 |_=>.non
noncomputable def jG(rs:List (b8×List b8))(r:b8):List b8:=((rs.find? λp=>decide<|p.1=r).map (·.2)).getD []
noncomputable def kinds(log:List D)(k:b8):List D:=log.filter λd=>decide<|cW d=k
section
variable{ps:List (b8×Int)}{rs:List (b8×List b8)}
theorem cT(h:aC ps rs d)(e:cW d=r9 "say"):∃(t:Int) (z:b8) (k num:Int) (r:b8) (u:D) (s:b8),d=.tup [.int t,.tup [.str z,.int k],.int num,.tup [.str<|r9 "say",.str r,u,.str s]]/\1<=t/\D.tup [.str z,.int k]∈aT ps/\r∈rs.map (·.1)/\(u=.non\/St u):=by obtain⟨t,z,k,num,x,ds,rfl,h1,h2,_,f⟩:=h;obtain rfl:x=r9 "say":=e;obtain⟨r,u,s,rfl,i,g⟩:=f.say rfl;exact⟨t,z,k,num,r,u,s,rfl,h1,h2,i,g⟩
theorem nH(h:aC ps rs d)(e:cW d=r9 "change"):∃(t:Int) (z:b8) (k num:Int) (m:D) (s:b8),d=.tup [.int t,.tup [.str z,.int k],.int num,.tup [.str<|r9 "change",m,.str s]]/\St m:=by obtain⟨t,z,k,num,x,ds,rfl,h1,h2,_,f⟩:=h;obtain rfl:x=r9 "change":=e;obtain⟨m,s,rfl,a⟩:=f.change rfl;exact⟨t,z,k,num,m,s,rfl,a⟩
theorem AY(h:aC ps rs d)(e:cW d=r9 "back"):∃(t:Int) (z:b8) (k num:Int) (m:D),d=.tup [.int t,.tup [.str z,.int k],.int num,.tup [.str<|r9 "back",m]]/\St m:=by obtain⟨t,z,k,num,x,ds,rfl,h1,h2,_,f⟩:=h;obtain rfl:x=r9 "back":=e;obtain⟨m,rfl,a⟩:=f.back rfl;exact⟨t,z,k,num,m,rfl,a⟩
end
section
variable{ps:List (b8×Int)}{rs:List (b8×List b8)}
theorem zj(h:aC ps rs d)(e:cW d=r9 "read"):∃(t:Int) (z:b8) (k num:Int) (r:b8) (hs:List (D×Int)),d=.tup [.int t,.tup [.str z,.int k],.int num,.tup [.str<|r9 "read",.str r,.tup<|pJ hs]]/\(∀p∈hs,Hd p.1)/\hs.length<=12:=by obtain⟨t,z,k,num,x,ds,rfl,h1,h2,_,f⟩:=h;obtain rfl:x=r9 "read":=e;obtain⟨r,vs,rfl,hs,rfl,c,j,_⟩:=f.read rfl;exact⟨t,z,k,num,r,hs,rfl,c,j⟩
theorem Eo(h:aC ps rs d)(e:cW d=r9 "seen"\/cW d=r9 "rung"):∃(t:Int) (z:b8) (k num:Int) (x:b8) (m:D),d=.tup [.int t,.tup [.str z,.int k],.int num,.tup [.str x,m]]/\St m:=by obtain⟨t,z,k,num,x,ds,rfl,h1,h2,_,f⟩:=h;obtain⟨m,rfl,a⟩:∃m:D,ds=[m]/\St m:=e.elim (λe=>f.seen e) λe=>f.rung e;exact⟨t,z,k,num,x,m,rfl,a⟩
end
local macro_rules | `(tactic| walk_at"ifs")=>`(tactic| simp only[sT,x3,↓reduceIte,KR,Bool.not_false])
noncomputable def kx(rs:List (b8×List b8))(kvs:List (D×D))(d:D):Bool:=decide (jU d∈jG rs (bq d))&&(decide (eO d=.non)||match aQ kvs (eO d) with
 |some e=>decide<|bq e=bq d
 |none=>bt)
noncomputable def xw(rs:List (b8×List b8))(kvs:List (D×D))(d:D):List (D×D):=if kx rs kvs d=a9 then iD kvs (t7 d) d else kvs
noncomputable def aV(rs:List (b8×List b8))(l:List D):List (D×D):=l.foldl (xw rs) []
theorem fB:aV rs (l++[d])=xw rs (aV rs l) d:=by unfold aV;rw[List.foldl_append];rfl
noncomputable def ah(rs:List (b8×List b8))(log:List D):List (D×D):=aV rs<|kinds log<|r9 "say"
theorem aP(h:d∈kinds log k):d∈log/\cW d=k:=⟨(z9.mp h).1,oT_ (z9.mp h).2⟩
theorem bj:(kinds log k).length<=log.length:=G8 _ _
structure TabK(l:List D)(kvs:List (D×D)):Prop where
 nd:(kvs.map (·.1)).Nodup
 en:∀p∈kvs,p.1=t7 p.2/\p.2∈l
 len:kvs.length<=l.length
theorem wE(h:p∈iD kvs k d):p=(k,d)\/p∈kvs:=by unfold iD at h;split at h;obtain⟨q,a,rfl⟩:=ve.mp h;split;rename_i e;rw[e];exact .inl rfl;exact .inr a;rcases D3.mp h with h|h;exact .inr h;exact .inl<|by simpa using h
theorem Ez:(iD kvs k d).length<=kvs.length+1:=by unfold iD;split;rw[u4];lia;simp
theorem gZ(l:List D):TabK l (aV rs l):=by
 refine jn (P:=λl=>TabK l<|aV rs l) ⟨.nil,(λ_ z=>nomatch z),u5 _⟩ (λl d i=>?_) l;rw[fB];unfold xw;have hs:∀p∈aV rs l,p.1=t7 p.2/\p.2∈l++[d]:=λp h=>⟨(i.en p h).1,J4 _ (i.en p h).2⟩
 have g:=i.len;split;refine⟨pT i.nd,λp h=>?_,?_⟩;rcases wE h with rfl|h;exact⟨rfl,by simp⟩;exact hs p h;have:=Ez (kvs:=aV rs l) (k:=t7 d) (d:=d);rw[x5,F5];lia;exact⟨i.nd,hs,by rw[x5,F5];lia⟩
theorem ay:TabK (kinds log<|r9 "say") (ah rs log):=gZ _
theorem Av(t:TabK l kvs)(h:aQ kvs k=a7 e):k=t7 e/\e∈l:=t.en _<|bo h
noncomputable def J6(kvs:List (D×D))(d:D):Bool:=match aQ kvs (uw d) with
 |some e=>decide<|jU d=jU e
 |none=>bt
def Ng(d:D):Prop:=∃(a:D) (z:b8) (r m:List D),d=.tup (a::.tup (.str z::r)::m)
section
variable{ps:List (b8×Int)}{rs:List (b8×List b8)}
theorem aC.nm(h:aC ps rs d):Ng d:=by obtain⟨t,z,k,m,x,ds,rfl,_⟩:=h;exact⟨_,_,_,_,rfl⟩
theorem aC.st(h:aC ps rs d):St (t7 d):=by obtain⟨t,z,k,m,x,ds,rfl,_⟩:=h;exact⟨_,_,_,rfl⟩
theorem St.cm(f:St a)(d:St b):kc M t8 a b=a9:=by
 obtain⟨t,z,k,rfl⟩:=f;obtain⟨t',G,I,rfl⟩:=d;show (if t4 M 29 (.int t) (.int t')=a9 then(if t4 M 29 (.tup [.str z,.int k]) (.tup [.str G,.int I])=a9 then a9 else(if t4 M 28 (.str z) (.str G)=a9 then(if t4 M 28 (.int k) (.int I)=a9 then a9 else a9)else a9))else a9)=a9
 repeat' split
 all_goals rfl
theorem Ei(h:∀x∈xs,St x)(l:xs.length<64):SrtOk M xs:=by refine⟨l,λx a=>?_,λx a y Q=>(h x a).cm<|h y Q,.inr<|.inr<|.inr<|.inl λx a=>?_⟩;obtain⟨t,z,k,rfl⟩:=h x a;rfl;obtain⟨t,z,k,rfl⟩:=h x a;exact⟨_,_,rfl⟩
end
def bK(kvs:List (D×D))(log:List D)(k:D):Prop:=∃d∈kinds log (r9 "back"),J6 kvs d=a9/\uw d=k
theorem wD(h:k∉kvs.map (·.1)):iD kvs k d=kvs++[(k,d)]:=by unfold iD;rw[n9];intro z;obtain⟨e,i⟩:=Pf.mp z;exact h (Kj (f:=(·.1))<|bo i)
theorem tX(ps:List (D×D))(h:(ps.map (·.1)).Nodup):dictOf ps=ps:=by revert h;refine jn (P:=λps=>(ps.map (·.1)).Nodup->dictOf ps=ps) (λ_=>rfl) (λps p i h=>?_) ps;rw[G7]at h;have h':=Of.mp h;rw[fy,i h'.1,wD];intro z;exact h'.2.2 _ z _ (by simp) rfl
theorem qz{M:tx}{x:b8}{l:List b8}:Lc M (.str x) (l.map .str)=decide (x∈l):=by unfold Lc;rw[List.any_map];by_cases h:x∈l;rw[dT_ h];exact KZ.mpr ⟨x,h,by show t4 M t8 (.str x) (.str x)=a9;rw[cG];exact p4 x⟩;rw[dF_ h];refine KJ.mpr λz=>?_;obtain⟨y,Q,e⟩:=KZ.mp z;have a:t4 M t8 (.str y) (.str x)=a9:=e;rw[cG]at a;exact h<|eq_of_beq a ▸ Q
theorem pP{M:tx}{l:List b8}:(l.map D.str).all (u3 M t8)=a9:=Fn.mpr λx h=>by obtain⟨y,_,rfl⟩:=ve.mp h;exact aM
noncomputable def af(rs:List (b8×List b8))(log:List D):List (D×D):=(ah rs log).filter λp=>@decide (¬bK (ah rs log) log p.1)<|A5 _
theorem bX:p∈af rs log↔p∈ah rs log/\¬bK (ah rs log) log p.1:=by unfold af;rw[List.mem_filter];exact and_congr Iff.rfl<|@decide_eq_true_iff _<|A5 _
theorem pR:((af rs log).map (·.1)).Nodup:=(Os.map _).nodup ay.nd
noncomputable def aH(kvs:List (D×D))(log:List D):List (D×D):=dictOf<|((kinds log<|r9 "change").filter<|J6 kvs).map λd=>(uw d,eO d)
noncomputable def mZ(ch:List (D×D))(d:D):D:=.tup [t7 d,.str<|bq d,eO d,.str<|jU d,(aQ ch<|t7 d).getD<|sayO d,.bl (aQ ch<|t7 d).isSome]
noncomputable def ng(rs:List (b8×List b8))(log:List D):List D:=(af rs log).map λp=>mZ (aH (af rs log) log) p.2
structure BackL(rs:List (b8×List b8))(log:List D)(ys:List D):Prop where
 st:∀x∈ys,St x
 mem:∀x,x∈ys↔bK (ah rs log) log x
 nd:ys.Nodup
 up:ys.Pairwise λa b=>¬A0 t8 b<A0 t8 a
def Ld(l:List D):Prop:=l.Pairwise λa b=>A0 t8 (t7 a)<A0 t8 (t7 b)
theorem Ld.one(h:Ld l):∀a∈l,∀b∈l,t7 a=t7 b->a=b:=by
 induction l with
 |nil=>intro a d;cases d
 |cons x l j =>
  obtain⟨h1,h2⟩:=List.pairwise_cons.mp h;intro a d b i e;rcases z5.mp d with g|c<;>rcases z5.mp i with M|f
  rw[g,M];have:=h1 b f;rw[<-g,e]at this;exact o0 this<|Kw _;have:=h1 a c;rw[<-M,e]at this;exact o0 this<|Kw _;exact j h2 a c b f e
inductive E4(rs:List (b8×List b8))(l:List D):D->Prop
 |top {d:D} (h:d∈l) (m:jU d∈jG rs (bq d)) (u:eO d=.non):E4 rs l d
 |sub {d e:D} (h:d∈l) (m:jU d∈jG rs (bq d)) (s:E4 rs l e) (u:eO d=t7 e) (o:A0 t8 (t7 e)<A0 t8 (t7 d)) (r:bq e=bq d):E4 rs l d
theorem E4.mem(h:E4 rs l d):d∈l:=by cases h<;>assumption
theorem E4.more(h:E4 rs l d):E4 rs (l++l') d:=by
 induction h with
 |top h m u=>exact .top (J4 _ h) m u
 |sub h m _ u o r i=>exact .sub (J4 _ h) m i u o r
theorem E4.less(g:∀y∈l,A0 t8 (t7 y)<A0 t8 (t7 x))(h:E4 rs (l++[x]) d):d∈l->E4 rs l d:=by
 induction h with
 |top h m u=>exact λa=>.top a m u
 |sub h m s u o r b=>intro a;rename_i d e;rcases D3.mp s.mem with i|i;exact .sub a m (b i) u o r;rw[show e=x by simpa using i]at o;exact o0 (List.lt_trans o<|g d a)<|Kw _
theorem AK(j:∀d∈l,eO d=.non\/St (eO d))(S:∀d∈l,St<|t7 d)(h:Ld l):∀d∈l,aQ (aV rs l) (t7 d)=a7 d↔E4 rs l d:=by
 revert h j S;refine jn (P:=λl=>(∀d∈l,eO d=.non\/St (eO d))->(∀d∈l,St<|t7 d)->Ld l->∀d∈l,aQ (aV rs l) (t7 d)=a7 d↔E4 rs l d) (λ_ _ _ _ z=>nomatch z) (λl x p j S h d a=>?_) l;obtain⟨h1,_,n⟩:=List.pairwise_append.mp h;have c:∀y∈l,A0 t8 (t7 y)<A0 t8 (t7 x):=λy Q=>n y Q x (by simp);have i:=p (λd a=>j d<|J4 _ a) (λd a=>S d<|J4 _ a) h1;have k:=gZ (rs:=rs) l;have q:aQ (aV rs l) (t7 x)=a8:=by
  cases e:aQ (aV rs l) (t7 x) with
  |none=>rfl
  |some f=>obtain⟨t,g⟩:=Av k e;have:=c f g;rw[<-t]at this;exact o0 this<|Kw _
 rw[fB];unfold xw;rcases D3.mp a with a|a;have G:t7 d≠t7 x:=λe=>by have:=c d a;rw[e]at this;exact Kw _ this
 have:aQ (if kx rs (aV rs l) x=a9 then iD (aV rs l) (t7 x) x else aV rs l) (t7 d)=aQ (aV rs l) (t7 d):=by split;exact dz G;rfl
 rw[this,i d a];exact⟨E4.more,λz=>z.less c a⟩;obtain rfl:d=x:=by simpa using a
 have U:aQ (if kx rs (aV rs l) d=a9 then iD (aV rs l) (t7 d) d else aV rs l) (t7 d)=a7 d↔kx rs (aV rs l) d=a9:=by split;rename_i e;rw[dJ];exact⟨λ_=>e,λ_=>rfl⟩;rename_i e;rw[q];exact⟨λz=>(by cases z),λz=>o0 z e⟩
 rw[U];unfold kx;rw[D8,Nv,o4,o4];constructor;rintro⟨m,u|u⟩;exact .top (by simp) m u;cases e:aQ (aV rs l) (eO d) with
 |none=>rw[e]at u;cases u
 |some f=>rw[e]at u;obtain⟨t,g⟩:=Av k e;rw[t]at e;exact .sub (by simp) m ((i f g).mp e).more t (c f g)<|oT_ u
 intro s;cases s with
 |top _ m u=>exact⟨m,.inl u⟩
 |@sub _ e _ m s u o r =>
  have b:e∈l:=by rcases D3.mp s.mem with b|b;exact b;rw[show e=d by simpa using b]at o;exact o0 o<|Kw _
  refine⟨m,.inr ?_⟩;rw[u,(i e b).mpr<|s.less c b];exact dT_ r
theorem yB:ie (qP kvs k d) k=a7 d:=by
 unfold qP;split;rename_i hs;obtain⟨p,h,e⟩:=KZ.mp hs;unfold ie;rw[N0];have m:((λp:b8×D=>decide<|p.1=k) ∘ λp:b8×D=>if p.1=k then(p.1,d)else p)=λp=>decide (p.1=k):=by funext p;show decide ((if p.1=k then(p.1,d)else p).1=k)=decide (p.1=k);split<;>rfl
 rw[m];cases f:kvs.find? λp=>decide (p.1=k) with
 |none=>exact o0 e<|by simpa using List.find?_eq_none.mp f p h
 |some q =>
  have a:q.1=k:=by have:=MH f;exact oT_ this
  show a7 (if q.1=k then(q.1,d)else q).2=_;rw[n6 a]
 rename_i hs;unfold ie;have:kvs.find? (λp=>decide<|p.1=k)=a8:=List.find?_eq_none.mpr λp h z=>hs<|KZ.mpr ⟨p,h,z⟩;rw[Oe,this];simp
theorem xr(h:j≠k):ie (qP kvs k d) j=ie kvs j:=by
 unfold qP;split;unfold ie;rw[N0];have e:((λp:b8×D=>decide<|p.1=j) ∘ λp:b8×D=>if p.1=k then(p.1,d)else p)=λp=>decide (p.1=j):=by funext p;show decide ((if p.1=k then(p.1,d)else p).1=j)=decide (p.1=j);split<;>rfl
 rw[e];cases f:kvs.find? λp=>decide (p.1=j) with
 |none=>rfl
 |some q =>
  have a:q.1=j:=by have:=MH f;exact oT_ this
  show a7 (if q.1=k then(q.1,d)else q).2=a7 q.2;rw[n9<|by rw[a];exact h]
 unfold ie;rw[Oe];cases f:kvs.find? λp=>decide (p.1=j) with
 |none=>simp[C3 h]
 |some q=>rfl
noncomputable def jx(log:List D)(k name:b8):List D:=(kinds log k).filter λd=>decide<|jU d=name
theorem na(h:d∈jx log k name):d∈log/\cW d=k/\jU d=name:=⟨(aP (z9.mp h).1).1,(aP (z9.mp h).1).2,oT_ (z9.mp h).2⟩
theorem nb:(jx log k name).length<=log.length:=G1 (G8 _ _) bj
noncomputable def kN(log:List D)(k name:b8):List D:=(jx log k name).map uw
noncomputable def Pj:D->D×Int
 |.tup [h,.int c]=>(h,c)
 |_=>(.non,0)
noncomputable def GB:D->List (D×Int)
 |.tup vs=>vs.map Pj
 |_=>[]
theorem Bn:GB (.tup<|pJ hs)=hs:=by show (pJ hs).map Pj=hs;unfold pJ;rw[E2];exact K5 _
noncomputable def qW(log:List D)(name r:b8):List D:=((jx log (r9 "read") name).filter λd=>decide<|bq d=r).map eO
structure VbAt(B:tx)(n:Nat)(tab:List (b8×D))(f:b8->List D):Prop where
 at_:B[n]?=a7 (.dct tab)
 got:∀k d,ie tab k=a7 d->∃m,d=.ref m/\n+1<m/\B[m]?=a7 (.lst<|f k)
 no:∀k,ie tab k=a8->f k=[]
 one:∀k k' m,ie tab k=a7 (.ref m)->ie tab k'=a7 (.ref m)->k=k'
theorem VbAt.pre(h:VbAt B n tab f)(p:B <+: B'):VbAt B' n tab f:=⟨bn p h.at_,λk d a=>let ⟨m,e,l,g⟩:=h.got k d a;⟨m,e,l,bn p g⟩,h.no,h.one⟩
theorem VbAt.kids(h:VbAt B n tab f)(a:B[q0]?=a7 (.lst [])):∃q,(ie tab k).getD (.ref q0)=.ref q/\B[q]?=a7 (.lst<|f k):=by
 cases e:ie tab k with
 |none=>exact⟨q0,rfl,by rw[h.no k e];exact a⟩
 |some d=>obtain⟨m,rfl,_,g⟩:=h.got k d e;exact⟨m,rfl,g⟩
noncomputable def bT(log:List D)(name:b8)(e:D):Bool:=decide (jU e=name)||(decide (t7 e∈kN log (r9 "seen") name)||(qW log name<|bq e).any λv=>fG (GB v) (iR e)<|numD e)
noncomputable def begB(y n:b8):Bool:=Txt.startswith y n && !(!mn (Kt y (a7 (n.length:Int))<|a7<|(n.length:Int)+1) "a" && !mn "z" (Kt y (a7 (n.length:Int))<|a7<|(n.length:Int)+1))
noncomputable def namedB(s:D)(name:b8):Bool:=match s with
 |.str x=>((Txt.split x<|r9 "@").drop 1).any λy=>begB y name
 |_=>bt
noncomputable def dR(rs:List (b8×List b8))(log:List D)(name:b8):List D:=((af rs log).map (·.2)).filter λe=>!bT log name e
noncomputable def az(r:b8)(es:List D)(k:D):List D:=(es.filter λe=>decide (bq e=r)&&decide (eO e=k)).map t7
theorem Ac:az r (es++[e]) k=if bq e=r/\eO e=k then az r es k++[t7 e]else az r es k:=by unfold az;rw[MJ,G7,Mi,List.filter_nil];by_cases h:bq e=r/\eO e=k;rw[n6 h,dT_ h.1,dT_ h.2];rfl;rw[n9 h,n9];simp;intro z;have:=(D8 _ _).mp z;exact h ⟨oT_ this.1,oT_ this.2⟩
structure TreeAt(B:tx)(n:Nat)(tab:List (D×D))(f:D->List D):Prop where
 at_:B[n]?=a7 (.dkm tab)
 got:∀k d,aQ tab k=a7 d->∃m,d=.ref m/\n<m/\B[m]?=a7 (.lst<|f k)
 no:∀k,aQ tab k=a8->f k=[]
 one:∀k k' m,aQ tab k=a7 (.ref m)->aQ tab k'=a7 (.ref m)->k=k'
noncomputable def bF(n:Int)(xs:List D):List D:=xs.reverse.map λx=>.tup [.int n,x]
inductive RunW(f:D->List D):List D->List D->List D->Prop
 |done {rows:List D}:RunW f rows [] rows
 |step {rows todo out:List D}{n:Int}{x:D} (h:RunW f (rows++[.tup [.int n,x]]) (todo++bF (n+1) (f x)) out):RunW f rows (todo++[.tup [.int n,x]]) out
theorem RunW.uni(h:RunW f rows todo out)(h':RunW f rows todo out'):out=out':=by
 induction h generalizing out' with
 |done =>
  generalize e:([]:List D)=t at h';cases h' with
  |done=>rfl
  |step h=>simp at e
 |@step rows todo out n x h i =>
  generalize e:todo++[.tup [.int n,x]]=t at h';cases h' with
  |done=>simp at e
  |@step _ a _ o b h2=>obtain⟨rfl,m⟩:=List.append_inj' e rfl;injection m with m;injection m with m;injection m with e3 e4;injection e3 with e3;injection e4 with e4;subst e3 e4;exact i h2
noncomputable def dE:D->D
 |.tup [_,s]=>s
 |_=>.non
structure TreeW(r:b8)(es rows todo:List D):Prop where
 nd:((rows++todo).map dE).Nodup
 ok:∀x∈rows++todo,∃(k:Int) (e:D),x=.tup [.int k,t7 e]/\e∈es/\bq e=r/\(eO e=.non\/eO e∈rows.map dE)
theorem gU:x∈az r es k↔∃e∈es,t7 e=x/\bq e=r/\eO e=k:=by unfold az;rw[ve];constructor;rintro⟨e,he,rfl⟩;have h1:=z9.mp he;have h2:=(D8 _ _).mp h1.2;exact⟨e,h1.1,rfl,oT_ h2.1,oT_ h2.2⟩;rintro⟨e,he,rfl,h1,h2⟩;exact⟨e,z9.mpr ⟨he,by rw[dT_ h1,dT_ h2];rfl⟩,rfl⟩
theorem jp:x∈bF n xs↔∃s∈xs,x=.tup [.int n,s]:=by unfold bF;rw[ve];refine⟨λ⟨s,h,e⟩=>⟨s,List.mem_reverse.mp h,e.symm⟩,?_⟩;rintro⟨s,h,e⟩;exact⟨s,List.mem_reverse.mpr h,e.symm⟩
theorem mx:(bF n xs).map dE=xs.reverse:=by unfold bF;rw[E2];exact K5 _
section
variable{r:b8}{es rows todo:List D}
theorem Ad(h:(es.map t7).Nodup)(k:D):(az r es k).Nodup:=(Os.map _).nodup h
theorem Ej(h:(es.map t7).Nodup)(f:a∈es)(d:b∈es)(e:t7 a=t7 b):a=b:=by
 induction es with
 |nil=>cases f
 |cons x es i =>
  rw[A3,Kp]at h;rcases z5.mp f with f|f<;>rcases z5.mp d with d|d
  rw[f,d];rw[f]at e;exact o0 (e ▸ Kj d) h.1;rw[d]at e;exact o0 (e ▸ Kj f) h.1;exact i h.2 f d
theorem TreeW.start(h:(es.map t7).Nodup):TreeW r es [] (bF 0<|az r es .non):=by refine⟨?_,λx a=>?_⟩;rw[E3,mx];exact(List.reverse_perm _).nodup_iff.mpr<|Ad h _;obtain⟨s,hs,rfl⟩:=jp.mp a;obtain⟨e,i,rfl,h1,h2⟩:=gU.mp hs;exact⟨0,e,rfl,i,h1,.inl h2⟩
theorem TreeW.step(h:(es.map t7).Nodup)(S:∀e∈es,t7 e≠.non)(w:TreeW r es rows (todo++[.tup [.int k,s]])):TreeW r es (rows++[.tup [.int k,s]]) (todo++bF (k+1) (az r es s)):=by
 obtain⟨K,m,A,l,_⟩:=w.ok (.tup [.int k,s]) (by simp);have d:s=t7 m:=by injection A with q;injection q with _ q;injection q
 have F:s≠.non:=by rw[d];exact S m l
 have L:=w.nd;have G:s∉rows.map dE:=λz=>by rw[G7]at L;have:=(Of.mp L).2.2 s z s (by rw[G7];exact F6 _<|by simp[dE]);exact this rfl
 refine⟨?_,λx c=>?_⟩;have p:(rows++[D.tup [.int k,s]]++(todo++bF (k+1) (az r es s))).Perm (rows++(todo++[D.tup [.int k,s]])++bF (k+1) (az r es s)):=by rw[F3,F3];refine List.Perm.append_left _ ?_;rw[<-F3];exact List.Perm.append_right _ List.perm_append_comm
 rw[(p.map dE).nodup_iff,G7,Of];refine⟨L,by rw[mx];exact(List.reverse_perm _).nodup_iff.mpr<|Ad h _,λa v b n e=>?_⟩;subst e;rw[mx,List.mem_reverse]at n;obtain⟨e,i,t,_,N⟩:=gU.mp n;obtain⟨x,c,u⟩:=ve.mp v;obtain⟨I,o,rfl,j,_,f⟩:=w.ok x c;have:o=e:=Ej h j i<|u.trans t.symm;subst this;rcases f with f|f;exact F<|N.symm.trans f;exact G<|N ▸ f;have H:∀y,y∈rows.map dE->y∈(rows++[D.tup [.int k,s]]).map dE:=λy Q=>by rw[G7];exact J4 _ Q
 have g:∀x,x∈rows++(todo++[D.tup [.int k,s]])->∃(I:Int) (e:D),x=.tup [.int I,t7 e]/\e∈es/\bq e=r/\(eO e=.non\/eO e∈(rows++[D.tup [.int k,s]]).map dE):=λx c=>by obtain⟨I,e,B,C,E,J⟩:=w.ok x c;exact⟨I,e,B,C,E,J.imp_right<|H _⟩
 rcases D3.mp c with c|c;rcases D3.mp c with c|c;exact g x<|J4 _ c;exact g x<|F6 _<|F6 _ c;rcases D3.mp c with c|c;exact g x<|F6 _<|J4 _ c;obtain⟨y,Q,rfl⟩:=jp.mp c;obtain⟨e,i,rfl,h1,h2⟩:=gU.mp Q;exact⟨k+1,e,rfl,i,h1,.inr<|by rw[h2,G7];exact F6 _<|by simp[dE]⟩
theorem sZ{l l':List D}(p:l.Nodup)(h:∀x∈l,x∈l'):l.length<=l'.length:=by
 induction l generalizing l' with
 |nil=>exact w4 _
 |cons x l i =>
  obtain⟨n,o⟩:=Kp.mp p;obtain⟨s,t,rfl⟩:=List.append_of_mem (h x<|by simp);have:=i (l':=s++t) o λy Q=>by have:=h y<|A2 _ Q;rcases D3.mp this with q|q;exact J4 _ q;rcases z5.mp q with rfl|q;exact o0 Q n;exact F6 _ q
  rw[x5]at this;rw[x5,C7,C7];lia
theorem TreeW.len(w:TreeW r es rows todo):rows.length+todo.length<=es.length:=by
 have:=sZ w.nd (l':=es.map t7) λx h=>by obtain⟨y,Q,rfl⟩:=ve.mp h;obtain⟨k,e,rfl,i,_⟩:=w.ok y Q;exact Kj i
 rw[u4,u4,x5]at this;exact this
theorem Co:(az r es k).length<=es.length:=by unfold az;rw[u4];exact G8 _ _
end
theorem TreeAt.pre(h:TreeAt B n tab f)(p:B <+: B'):TreeAt B' n tab f:=⟨bn p h.at_,λk d a=>let ⟨m,e,l,g⟩:=h.got k d a;⟨m,e,l,bn p g⟩,h.no,h.one⟩
theorem TreeAt.kids(h:TreeAt B n tab f)(a:B[q0]?=a7 (.lst [])):∃q,(aQ tab k).getD (.ref q0)=.ref q/\B[q]?=a7 (.lst<|f k):=by
 cases e:aQ tab k with
 |none=>exact⟨q0,rfl,by rw[h.no k e];exact a⟩
 |some d=>obtain⟨m,rfl,_,g⟩:=h.got k d e;exact⟨m,rfl,g⟩
noncomputable def LH:D->Int
 |.tup [.int k,_]=>k
 |_=>0
structure DepI(u:D->D)(rows todo:List D):Prop where
 to:∀T1 t T2,todo=T1++t::T2->∀A p B,rows=A++p::B->u (dE t)=dE p->LH t=LH p+1/\∀b∈B++T2,LH t<=LH b
 old:∀A p B x C,rows=A++p::(B++x::C)->u (dE x)=dE p->LH x=LH p+1/\∀b∈B,LH x<=LH b
noncomputable def M7:D->D
 |.tup (x::_)=>x
 |d=>d
noncomputable def GE(rs:List (b8×List b8))(log:List D)(r:b8):List D:=Classical.epsilon λout=>RunW (az r ((ah rs log).map (·.2))) [] (bF 0 (az r ((ah rs log).map (·.2)) .non)) out
theorem RunW.out{rs:List (b8×List b8)}{log out:List D}{r:b8}(h:RunW (az r ((ah rs log).map (·.2))) [] (bF 0 (az r ((ah rs log).map (·.2)) .non)) out):out=GE rs log r:=h.uni (Classical.epsilon_spec (p:=λout=>RunW (az r ((ah rs log).map (·.2))) [] (bF 0 (az r ((ah rs log).map (·.2)) .non)) out) ⟨out,h⟩)
noncomputable def BX(rs:List (b8×List b8))(log:List D)(name:b8)(s:D):Option D:=(aQ (af rs log) s).filter λe=>!bT log name e
noncomputable def lh(rs:List (b8×List b8))(log:List D)(name r:b8):List D:=(GE rs log r).filterMap λx=>BX rs log name<|dE x
theorem zI(h:BX rs log name s=a7 e):aQ (af rs log) s=a7 e/\bT log name e=bt:=by obtain⟨h1,h2⟩:=Option.filter_eq_some_iff.mp h;exact⟨h1,by simpa using h2⟩
theorem qh(h:e∈lh rs log name r):∃s,s∈(GE rs log r).map dE/\aQ (af rs log) s=a7 e/\bT log name e=bt:=by obtain⟨x,a,t⟩:=Mq.mp h;exact⟨_,Kj a,zI t⟩
noncomputable def uu(rs:List (b8×List b8))(log:List D)(name:b8):List (D×D):=(dR rs log name).map λe=>(t7 e,mZ (aH (af rs log) log) e)
theorem yc(b:∀q∈T,q.1=t7 q.2)(n:(T.map (·.1)).Nodup):aQ (((T.map (·.2)).filter p).map λe=>(t7 e,f e)) s=((aQ T s).filter p).map f:=by
 induction T with
 |nil=>rfl
 |cons q T i =>
  rw[A3,Kp]at n;have e:=b q D4;have i:=i (λq c=>b q<|A2 _ c) n.2;have g1:∀{k d:D}{L:List (D×D)},aQ ((k,d)::L) s=if k=s then a7 d else aQ L s:=λ{k d L}=>by unfold aQ;rw[Ko];by_cases h:k=s;rw[dT_ h,n6 h];rfl;rw[dF_ h,n9 h]
  obtain⟨k,d⟩:=q;dsimp only at e;subst e;rw[g1,A3,Mi];by_cases hs:t7 d=s;rw[n6 hs];have o:aQ T s=a8:=by
   cases S:aQ T s with
   |none=>rfl
   |some v=>exact o0 (hs ▸ Kj (f:=(·.1)) (bo S)) n.1
  rw[o]at i;cases a:p d with
  |true=>rw[n6 rfl,A3,g1,n6 hs];show _=Option.map f (if p d=a9 then a7 d else a8);rw[a];rfl
  |false=>rw[n9 (by simp),i];show _=Option.map f (if p d=a9 then a7 d else a8);rw[a];rfl
  rw[n9 hs];cases a:p d with
  |true=>rw[n6 rfl,A3,g1,n9 hs,i]
  |false=>rw[n9 (by simp),i]
structure LogS(ps:List (b8×Int))(rs:List (b8×List b8))(log:List D):Prop where
 dk:∀d∈log,aC ps rs d
 up:log.Pairwise λa b=>A0 t8 (t7 a)<A0 t8 (t7 b)
 len:log.length<=60
theorem jZ{α:Type}{p:α->Bool}{x:α}:[x].filter p=if p x=a9 then[x]else[]:=by rw[Mi];rfl
theorem yi(g:∀d∈l,eO d=.non\/St (eO d))(S:∀d∈l,St<|t7 d)(h:Ld l):aV rs l=(l.filter λd=>@decide (E4 rs l d)<|A5 _).map λd=>(t7 d,d):=by
 revert h g S;refine jn (P:=λl=>(∀d∈l,eO d=.non\/St (eO d))->(∀d∈l,St<|t7 d)->Ld l->aV rs l=(l.filter λd=>@decide (E4 rs l d)<|A5 _).map λd=>(t7 d,d)) (λ_ _ _=>rfl) (λl x r g S h=>?_) l;obtain⟨h1,_,o⟩:=List.pairwise_append.mp h;have c:∀y∈l,A0 t8 (t7 y)<A0 t8 (t7 x):=λy Q=>o y Q x (by simp);have b:=r (λd a=>g d<|J4 _ a) (λd a=>S d<|J4 _ a) h1;have i:=AK (rs:=rs) g S h x (by simp);have n:t7 x∉(aV rs l).map (·.1):=λz=>by obtain⟨p,q,e⟩:=ve.mp z;obtain⟨t,m⟩:=(gZ (rs:=rs) l).en p q;have:=c p.2 m;rw[<-t,e]at this;exact Kw _ this
 have k:(l.filter λd=>@decide (E4 rs (l++[x]) d)<|A5 _)=l.filter λd=>@decide (E4 rs l d) (A5 _):=Nz λd a=>(@decide_eq_decide _ _ (A5 _)<|A5 _).mpr ⟨λz=>z.less c a,E4.more⟩;rw[MJ,G7,k,<-b,jZ];rw[fB]at i ⊢;unfold xw at i ⊢;split at i;rename_i e;rw[dJ]at i;rw[n6 e,wD n,@decide_eq_true _ (A5 _)<|i.mp rfl];rfl;rename_i e;have T:aQ (aV rs l) (t7 x)=a8:=by
  cases j:aQ (aV rs l) (t7 x) with
  |none=>rfl
  |some v=>exact o0 (Kj (f:=(·.1))<|bo j) n
 rw[T]at i;rw[n9 e,@decide_eq_false _ (A5 _) λz=>by cases i.mpr z];exact(K7 _).symm
theorem kC:(bF n xs).filter (λr=>kp<|dE r)=bF n (xs.filter kp):=by unfold bF;rw[N6,List.filter_reverse];rfl
theorem RunW.part{f g:D->List D}{kp:D->Bool}(S:∀x,g x=(f x).filter kp)(c:∀x,x≠.non->kp x=bt->∀y∈f x,kp y=bt)(hz:∀x,∀y∈f x,y≠.non){a o out:List D}(h:RunW f a o out):(∀r∈o,dE r≠.non)->RunW g (a.filter λr=>kp<|dE r) (o.filter λr=>kp<|dE r) (out.filter λr=>kp<|dE r):=by
 induction h with
 |done=>exact λ_=>.done
 |@step a o out n x h i =>
  intro E;have j:x≠.non:=E (.tup [.int n,x]) (by simp);have i:=i λr b=>by rcases D3.mp b with b|b;exact E r<|J4 _ b;obtain⟨s,hs,rfl⟩:=jp.mp b;exact hz x s hs
  rw[MJ,MJ,kC,<-S,jZ]at i;rw[MJ,jZ];cases e:kp x with
  |true=>rw[n6<|show kp (dE<|.tup [.int n,x])=a9 from e]at i ⊢;exact .step i
  |false =>
   have d:g x=[]:=by rw[S];exact O7.mpr λy Q=>by rw[c x j e y Q];decide
   rw[n9<|show ¬kp (dE<|.tup [.int n,x])=a9 from λz=>by rw[show kp (dE<|.tup [.int n,x])=bt from e]at z;cases z]at i ⊢;rw[d,K7]at i;rw[K7];simpa [bF]using i
section
variable{ps:List (b8×Int)}{rs:List (b8×List b8)}{log:List D}{p:D->Bool}
theorem E4.sub'(hs:∀d∈l',d∈l)(h:E4 rs l' d):E4 rs l d:=by
 induction h with
 |top h m u=>exact .top (hs _ h) m u
 |sub h m _ u o r i=>exact .sub (hs _ h) m i u o r
theorem LogS.part(g:LogS ps rs log):LogS ps rs (log.filter p):=⟨λd h=>g.dk d (z9.mp h).1,Ot _ g.up,G1 (G8 _ _) g.len⟩
theorem bR:kinds (log.filter p) k=(kinds log k).filter p:=by unfold kinds;rw[MI,MI];exact Nz λd _=>Bool.and_comm _ _
theorem LogS.es(g:LogS ps rs log):ah rs log=((kinds log<|r9 "say").filter λd=>@decide (E4 rs (kinds log<|r9 "say") d)<|A5 _).map λd=>(t7 d,d):=by
 have h:∀d∈kinds log (r9 "say"),aC ps rs d/\cW d=r9 "say":=λd q=>⟨g.dk d (aP q).1,(aP q).2⟩
 refine yi (λd q=>?_) (λd q=>(h d q).1.st)<|Ot _ g.up;obtain⟨t,z,k,m,r,u,s,rfl,_,_,_,a⟩:=cT (h d q).1 (h d q).2;exact a
theorem LogS.mem(g:LogS ps rs log):e∈(ah rs log).map (·.2)↔E4 rs (kinds log<|r9 "say") e:=by rw[g.es,E2];constructor;intro h;obtain⟨d,a,rfl⟩:=ve.mp h;exact @of_decide_eq_true _ (A5 _) (z9.mp a).2;intro h;exact ve.mpr ⟨e,z9.mpr ⟨h.mem,@decide_eq_true _ (A5 _) h⟩,rfl⟩
theorem LogS.get(g:LogS ps rs log):aQ (ah rs log) k=a7 e↔k=t7 e/\E4 rs (kinds log<|r9 "say") e:=by constructor;intro h;exact⟨(Av ay h).1,g.mem.mp (Kj (f:=(·.2))<|bo h)⟩;rintro⟨rfl,h⟩;obtain⟨q,a,t⟩:=ve.mp<|g.mem.mpr h;obtain⟨h1,_⟩:=ay.en q a;have:=iK ay.nd a;rw[h1,t]at this;exact this
theorem LogS.get_part(g:LogS ps rs log)(h:aQ (ah rs<|log.filter p) k=a7 e):aQ (ah rs log) k=a7 e:=by obtain⟨h1,h2⟩:=g.part.get.mp h;rw[bR]at h2;exact g.get.mpr ⟨h1,h2.sub' λd a=>(z9.mp a).1⟩
theorem LogS.byw(g:LogS ps rs log)(h:J6 (ah rs<|log.filter p) d=a9):J6 (ah rs log) d=a9:=by
 unfold J6 at h ⊢;cases e:aQ (ah rs<|log.filter p) (uw d) with
 |none=>rw[e]at h;cases h
 |some v=>rw[e]at h;rw[g.get_part e];exact h
theorem LogS.backed(g:LogS ps rs log)(h:bK (ah rs<|log.filter p) (log.filter p) x):bK (ah rs log) log x:=by obtain⟨d,a,h1,h2⟩:=h;rw[bR]at a;exact⟨d,(z9.mp a).1,g.byw h1,h2⟩
noncomputable def DP(rs:List (b8×List b8))(a:List D)(s:D):Bool:=@decide (∃e∈(ah rs a).map (·.2),t7 e=s)<|A5 _
theorem LogS.kids(g:LogS ps rs log)(r:b8)(k:D):az r ((ah rs<|log.filter p).map (·.2)) k=(az r ((ah rs log).map (·.2)) k).filter (DP rs<|log.filter p):=by
 have t:(ah rs<|log.filter p).map (·.2)=((ah rs log).map (·.2)).filter λe=>DP rs (log.filter p) (t7 e):=by
  have V:∀l:List D,(l.map λd=>(t7 d,d)).map (·.2)=l:=λl=>by rw[E2];exact K5 _
  rw[g.es,g.part.es,V,V,bR,MI,MI];refine Nz λe i=>?_;have b:Ld (kinds log<|r9 "say"):=Ot _ g.up;have kp:DP rs (log.filter p) (t7 e)=a9↔E4 rs ((kinds log<|r9 "say").filter p) e:=by unfold DP;rw[@decide_eq_true_iff _<|A5 _];constructor;rintro⟨e',h1,h2⟩;have a:=g.part.mem.mp h1;rw[bR]at a;rw[<-b.one e' (z9.mp a.mem).1 e i h2];exact a;intro h1;exact⟨e,g.part.mem.mpr (by rw[bR];exact h1),rfl⟩
  by_cases q:E4 rs ((kinds log<|r9 "say").filter p) e;rw[kp.mpr q,@decide_eq_true _ (A5 _) q,@decide_eq_true _ (A5 _)<|q.sub' λd h=>(z9.mp h).1,(z9.mp q.mem).2];have:DP rs (log.filter p) (t7 e)=bt:=KJ.mpr λz=>q<|kp.mp z;rw[this,@decide_eq_false _ (A5 _) q];rfl
 rw[t];generalize (ah rs log).map (·.2)=es;unfold az;rw[N6,MI,MI];congr 1;exact Nz λe _=>Bool.and_comm _ _
theorem LogS.run(l:LogS ps rs log){r:b8}{out:List D}(h:RunW (az r ((ah rs log).map (·.2))) [] (bF 0 (az r ((ah rs log).map (·.2)) .non)) out):RunW (az r ((ah rs<|log.filter p).map (·.2))) [] (bF 0 (az r ((ah rs<|log.filter p).map (·.2)) .non)) (out.filter λx=>DP rs (log.filter p)<|dE x):=by
 have S:∀e∈(ah rs log).map (·.2),t7 e≠.non:=λe i z=>by have:=l.mem.mp i;obtain⟨t,G,k,a⟩:=(l.dk e (aP this.mem).1).st;rw[z]at a;cases a
 have d:∀x,∀y∈az r ((ah rs log).map (·.2)) x,y≠.non:=λx y Q=>by obtain⟨e,i,rfl,_⟩:=gU.mp Q;exact S e i
 have:=RunW.part (g:=az r ((ah rs<|log.filter p).map (·.2))) (kp:=DP rs<|log.filter p) (l.kids r) (λx n f y Q=>?_) d h (λq j=>by obtain⟨s,hs,rfl⟩:=jp.mp j;exact d _ s hs);rw[kC,<-l.kids r]at this;exact this;obtain⟨e,i,rfl,_,c⟩:=gU.mp Q;refine KJ.mpr λz=>?_;have o:Ld (kinds log<|r9 "say"):=Ot _ l.up;obtain⟨a,h1,h2⟩:=@of_decide_eq_true _ (A5 _) z;have b:=l.part.mem.mp h1;rw[bR]at b;have:a=e:=o.one a (z9.mp b.mem).1 e (l.mem.mp i).mem h2;subst this;cases b with
 |top _ _ u=>exact n<|c.symm.trans u
 |@sub _ m _ _ s u _ _=>have:DP rs (log.filter p) x=a9:=@decide_eq_true _ (A5 _) ⟨m,l.part.mem.mpr (by rw[bR];exact s),u.symm.trans c⟩;rw[f]at this;cases this
end
noncomputable def qV:D->Bool
 |.int _=>a9
 |_=>bt
def dB:v6:=λds M R=>∃d,ds=[d]/\C9 M d∈uv/\R (.bl<|qV d) M
theorem tL:cy dB jO:=by rintro ds M R ⟨d,rfl,_⟩;rfl
def oS:p9:=bg<|jC (s9 Eu<|aa (ab 0)<|aa (dC<|.ty "int") ag)<|Dc<|s9 Eu<|aa (ab 0)<|aa (dC<|.ty "bool") ag
theorem uz:v8 dB 1 oS:=by
 rintro ds M R ⟨d,rfl,E,h⟩;unfold oS;cases d with
 |ref n=>have e:=qZ E;simp only[C9]at e;walk_at"dl";simp only[e];exact⟨by decide,cP<|aO.now h⟩
 |ty n=>simp only[C9]at E;exact o0 E<|by decide
 |int i=>walk_at"dl";exact⟨by decide,dI ⟨by decide,aO.now h⟩⟩
 |bl i=>walk_at"dl";exact⟨by decide,dI ⟨by decide,aO.now h⟩⟩
 |_=>walk_at"dl";exact⟨by decide,cP<|aO.now h⟩
theorem mT(T:Tops P w K mg base):t9 P w K mg base 1 "is_whole" jO dB:=t9.byD (N:=["thing"]) T.b T.f_is_whole (by walk_at"sc") tL (by walk_at"dv") uz
noncomputable def lH(k:Int):D->Bool
 |.int i=>decide<|k<=i
 |_=>bt
def bL:v6:=λds M R=>∃(k:Int) (d:D),ds=[.int k,d]/\C9 M d∈uv/\R (.bl<|lH k d) M
theorem jX:cy bL dq:=by rintro ds M R ⟨k,d,rfl,_⟩;rfl
def fW:p9:=bg<|jC (s9 dB<|aa (ab 1) ag)<|p6 MY (ab 1)<|ab 0
theorem kL:v8 bL 2 fW:=by
 rintro ds M R ⟨k,d,rfl,E,h⟩;unfold fW;walk_at"dl";refine⟨d,rfl,E,?_⟩;cases d with
 |int i=>simp only[qV,↓reduceIte];exact aO.now h
 |_=>simp only[qV,x3,↓reduceIte];exact aO.now h
theorem kO(T:Tops P w K mg base):t9 P w K mg base 2 "is_whole_from" dq bL:=t9.byD (N:=["least","thing"]) T.b T.f_is_whole_from (by walk_at"sc") jX (by have:=mT T;walk_at"dv") kL
noncomputable def Bt(k:Int):D->Bool
 |.tup xs=>(xs.length:Int)==k
 |_=>bt
def bJ:v6:=λds M R=>∃(k:Int) (d:D),ds=[.int k,d]/\C9 M d∈uv/\R (.bl<|Bt k d) M
theorem nq:cy bJ ff:=by rintro ds M R ⟨k,d,rfl,_⟩;rfl
def jh:p9:=bg<|jC (s9 Eu<|aa (ab 1)<|aa (dC<|.ty "tuple") ag)<|p6 D0 (s9 kZ<|aa (ab 1) ag)<|ab 0
theorem nQ:v8 bJ 2 jh:=by
 rintro ds M R ⟨k,d,rfl,E,h⟩;unfold jh;cases d with
 |ref n=>have e:=qZ E;simp only[C9]at e;walk_at"dl";simp only[e];exact⟨by decide,cP<|aO.now h⟩
 |ty n=>simp only[C9]at E;exact o0 E<|by decide
 |tup xs=>walk_at"dl";exact⟨by decide,dI ⟨⟨rfl,rfl⟩,aO.now h⟩⟩
 |_=>walk_at"dl";exact⟨by decide,cP<|aO.now h⟩
theorem iz(T:Tops P w K mg base):t9 P w K mg base 1 "is_tuple_of" ff bJ:=t9.byD (N:=["many","thing"]) T.b T.f_is_tuple_of (by walk_at"sc") nq (by walk_at"dv") nQ
noncomputable def gv:D->D
 |.tup (a::_)=>a
 |_=>.non
def dO:v6:=λds M R=>∃xs:List D,ds=[.tup xs]/\(∀x∈xs,∃a r,x=.tup (a::r))/\R (.ref M.length) (M++[.lst<|xs.map gv])
theorem qq:cy dO iG:=by rintro ds M R ⟨xs,rfl,_⟩;rfl
def mf:p9:=bg<|D1 1 [] (bp<|ab 0) (ak 0) nL<|p6 u7 (ab 0)<|dC<|.int 0
theorem qT:v8 dO 1 mf:=by rintro ds M R ⟨xs,rfl,x,h⟩;simp only[mf];walk_at"dl";intro g;refine aZ gv (λS=>∃a,S=[a]) trivial _ _ _ ?_ ⟨_,rfl⟩ ?_ ?_;rintro y Q S ⟨a,rfl⟩;obtain⟨b,r,rfl⟩:=x y Q;refine⟨[a7<|.tup<|b::r],⟨_,rfl⟩,λY D=>?_⟩;walk_at"dl";exact D;simpa using g;exact .inl h
theorem sW(T:Tops P w K mg base):t9 P w K mg base 1 "firsts_of" iG dO:=t9.byD (N:=["pairs"]) T.b T.f_firsts_of (by walk_at"sc") qq (by walk_at"dv") qT
noncomputable def jy(ps:List (b8×Int)):D->Int
 |.str x=>((ps.find? λp=>decide<|p.1=x).map (·.2)).getD 0
 |_=>0
def hZ:v6:=λds M R=>∃(ps:List (b8×Int)) (r:List D) (d:D),ds=[.tup<|.tup (ps.map dW)::r,d]/\u3 M t8 d=a9/\R (.int<|jy ps d) M
theorem vh:cy hZ mK:=by rintro ds M R ⟨ps,r,d,rfl,_⟩;rfl
theorem uU(p:b8×Int)(ps:List (b8×Int))(d:D)(M:tx):jy (p::ps) d=if t4 M t8 (.str p.1) d=a9 then p.2 else jy ps d:=by
 cases d with
 |str x =>
  show ((List.find? _<|p::ps).map _).getD 0=if (p.1==x)=a9 then _ else _
  by_cases h:p.1=x;subst h;simp;rw[n9<|by simpa using h];simp[jy,Ko,h]
 |_=>rfl
def lY:p9:=bg<|dC<|.int 0
def rN:p9:=av (kW (bp<|p6 u7 (ab 0)<|dC<|.int 0) (nD 2<|cf (ak 2)<|cf (ak 3) nE)<|A9 (aB<|p6 D0 (ab 2)<|ab 1) (bg<|ab 3) bu)<|lY
theorem xi:v8 hZ 4 rN:=by
 rintro ds M R ⟨ps,r,d,rfl,ok,h⟩;simp only[rN,lY];walk_at"dl";intro _;refine gW (λys S c=>∃qs a b,ys=qs.map dW/\c=M/\S=[a7<|.tup<|.tup (ps.map dW)::r,a7 d,a,b]/\jy ps d=jy qs d) ?_ ?_ _ _ _ ⟨ps,_,_,rfl,rfl,rfl,rfl⟩;rintro S c ⟨qs,a,b,q,rfl,rfl,e⟩;have:qs=[]:=by cases qs<;>simp_all
 subst this;rw[e]at h;exact⟨trivial,aO.now<|by cases d<;>exact h⟩;rintro x xs S c ⟨qs,a,b,q,rfl,rfl,e⟩ L f;cases qs with
 |nil=>cases q
 |cons p qs=>rw[A3]at q;injection q with h1 h2;subst h1;refine⟨trivial,?_⟩;unfold dW;walk_at"dl";refine⟨trivial,⟨rfl,ok⟩,?_⟩;rw[uU p qs d c]at e;by_cases q:t4 c t8 (.str p.1) d=a9;rw[n6 q]at e;rw[q];refine dI<|aO.now ?_;rw[<-e];exact h;rw[n9 q]at e;rw[KJ.mpr q];exact cP<|A4.now<|f _ _ ⟨qs,_,_,h2,rfl,rfl,e⟩
theorem xH(T:Tops P w K mg base):t9 P w K mg base 1 "many_of" mK hZ:=t9.byD (N:=["house","name","person","many"]) T.b T.f_many_of (by walk_at"sc") vh (by walk_at"dv") xi
def ia:v6:=λds M R=>∃(ps:List (b8×Int)) (a:List (b8×List b8)) (r:b8),ds=[ax ps a,.str r]/\r∈a.map (·.1)/\R (.bl a9) M
theorem vj:cy ia mL:=by rintro ds M R ⟨ps,a,r,rfl,_⟩;rfl
def rO:p9:=bg<|p6 L0 (ab 1)<|s9 dO<|aa (p6 u7 (ab 0)<|dC<|.int 1) ag
theorem xj:v8 ia 2 rO:=by
 rintro ds M R ⟨ps,a,r,rfl,i,h⟩;simp only[rO,ax];walk_at"dl";refine⟨_,rfl,λx b=>?_,?_⟩;obtain⟨p,_,rfl⟩:=ve.mp b;exact⟨_,_,rfl⟩;have e:(a.map my).map gv=(a.map (·.1)).map .str:=by rw[E2,E2];rfl
 rw[e];refine⟨_,ae,⟨aM,pP⟩,?_⟩;rw[qz,dT_ i];exact aO.bl h bc
theorem xI(T:Tops P w K mg base):t9 P w K mg base 2 "is_room" mL ia:=t9.byD (N:=["house","thing"]) T.b T.f_is_room (by walk_at"sc") vj (by have:=sW T;walk_at"dv") xj
noncomputable def dw(ps:List (b8×Int)):D->Bool
 |.tup [a,.int k]=>decide (0<=k)&&decide (k<jy ps a)
 |_=>bt
def ib:v6:=λds M R=>∃(ps:List (b8×Int)) (r:List D) (d:D),ds=[.tup<|.tup (ps.map dW)::r,d]/\C9 M d∈uv/\(∀a b,d=.tup [a,b]->u3 M t8 a=a9/\C9 M b∈uv)/\R (.bl<|dw ps d) M
theorem vn:cy ib mN:=by rintro ds M R ⟨ps,r,d,rfl,_⟩;rfl
def rQ:p9:=bg<|jC (s9 bJ<|aa (dC<|.int 2)<|aa (ab 1) ag)<|jC (s9 dB<|aa (p6 u7 (ab 1)<|dC<|.int 1) ag)<|ua MW KM (dC<|.int 0) (p6 u7 (ab 1)<|dC<|.int 1)<|s9 hZ<|aa (ab 0)<|aa (p6 u7 (ab 1)<|dC<|.int 0) ag
theorem xm:v8 ib 2 rQ:=by
 rintro ds M R ⟨ps,r,d,rfl,E,U,h⟩;simp only[rQ];simp only[bg,jC,s9,aa,ag,dC,ab,eJ,A3,No,List.cons_append,E3,OA,MQ,C7,C0,List.replicate_zero,Li,Option.join_some];refine⟨2,d,rfl,E,?_⟩;by_cases c:∃a b,d=.tup [a,b];obtain⟨a,b,rfl⟩:=c;obtain⟨o,t⟩:=U a b rfl;walk_at"dl";refine dI ⟨b,rfl,t,?_⟩;cases b with
 |int k =>
  simp only[qV,o7];by_cases f:0<=k;rw[dT_ f];simp only[sT,↓reduceIte];refine⟨ps,r,a,rfl,o,aO.now ?_⟩;have e:dw ps (.tup [a,.int k])=decide (k<jy ps a):=by simp[dw,f]
  rw[e]at h;exact h;rw[dF_ f];have e:dw ps (.tup [a,.int k])=bt:=by simp[dw,f]
  rw[e]at h;simp only[sT,↓reduceIte,x3];exact aO.now h
 |_=>simp only[qV,x3,↓reduceIte];exact aO.now h
 have g:Bt 2 d=bt:=by
  cases d with
  |tup xs =>
   match xs with
   | []=>rfl
   | [_]=>rfl
   | [a,b]=>exact o0 ⟨a,b,rfl⟩ c
   |_::_::_::_=>simp[Bt];lia
  |_=>rfl
 have m:dw ps d=bt:=by unfold dw;split;exact o0 ⟨_,_,rfl⟩ c;rfl
 rw[g];rw[m]at h;simp only[sT,x3,↓reduceIte];exact aO.now h
theorem xJ(T:Tops P w K mg base):t9 P w K mg base 2 "is_hand" mN ib:=t9.byD (N:=["house","thing"]) T.b T.f_is_hand (by walk_at"sc") vn (by have:=mT T;have:=iz T;have:=xH T;walk_at"dv") xm
def bD:v6:=λds M R=>∃(ps:List (b8×Int)) (a:List (b8×List b8)) (r:b8),ds=[ax ps a,.str r]/\r∈a.map (·.1)/\R (.tup<|(jG a r).map .str) M
theorem nZ:cy bD gj:=by rintro ds M R ⟨ps,a,r,rfl,_⟩;rfl
theorem tp:jG (p::rs) r=if p.1=r then p.2 else jG rs r:=by unfold jG;rw[Ko];by_cases h:p.1=r;rw[dT_ h,n6 h];rfl;rw[dF_ h,n9 h]
def nR:p9:=nF
def kr:p9:=av (kW (bp<|p6 u7 (ab 0)<|dC<|.int 1) (nD 2<|cf (ak 2)<|cf (ak 3) nE)<|A9 (aB<|p6 D0 (ab 2)<|ab 1) (bg<|ab 3) bu)<|nR
theorem pH:v8 bD 4 kr:=by
 rintro ds M R ⟨ps,s,r,rfl,i,h⟩;simp only[kr,ax];walk_at"dl";intro _;refine gW (λys S c=>∃qs a b,ys=qs.map my/\c=M/\S=[a7<|ax ps s,a7<|.str r,a,b]/\jG s r=jG qs r/\r∈qs.map (·.1)) ?_ ?_ _ _ _ ⟨s,_,_,rfl,rfl,rfl,rfl,i⟩;rintro S c ⟨qs,a,b,q,rfl,rfl,e,d⟩;have:qs=[]:=by cases qs<;>simp_all
 subst this;cases d;rintro x xs S c ⟨qs,a,b,q,rfl,rfl,e,d⟩ L f;cases qs with
 |nil=>cases q
 |cons p qs=>rw[A3]at q;injection q with h1 h2;subst h1;refine⟨trivial,?_⟩;unfold my;walk_at"dl";refine⟨trivial,⟨aM,aM⟩,?_⟩;rw[cG];rw[tp]at e;by_cases q:p.1=r;rw[beq_iff_eq.mpr q];rw[n6 q]at e;refine dI<|aO.now ?_;rw[<-e];exact h;rw[beq_eq_false_iff_ne.mpr q];rw[n9 q]at e;rw[A3,z5]at d;exact cP<|A4.now<|f _ _ ⟨qs,_,_,h2,rfl,rfl,e,d.resolve_left<|C3 q⟩
theorem fi(T:Tops P w K mg base):t9 P w K mg base 1 "members_of" gj bD:=t9.byD (N:=["house","room","told","members"]) T.b T.f_members_of (by walk_at"sc") nZ (by walk_at"dv") pH
def fF:v6:=λds M R=>∃(ps:List (b8×Int)) (a:List (b8×List b8)) (t:Int) (z:b8) (k:Int),ds=[ax ps a,.tup [.int t,.tup [.str z,.int k]]]/\R (.bl<|decide (1<=t)&&dw ps (.tup [.str z,.int k])) M
theorem tM:cy fF jP:=by rintro ds M R ⟨ps,a,t,z,k,rfl,_⟩;rfl
theorem Au:∀{ps:List (b8×Int)},(ps.map (·.1)).Nodup->D.tup [.str z,.int k]∈aT ps->0<=k/\k<jy ps (.str z)
 |p::ps,nd,h=>by
  rw[aT,List.flatMap_cons]at h;rw[A3,Kp]at nd;have hm:∀q,D.tup [.str z,.int k]∈cb q->q.1=z/\0<=k/\k<q.2:=λq hq=>by unfold cb gP at hq;simp only[E2,ve,F7]at hq;obtain⟨i,hi,e⟩:=hq;simp only[Function.comp_apply,D.tup.injEq,Mg,D.str.injEq,D.int.injEq,and_true]at e;obtain⟨e1,e2⟩:=e;exact⟨e1,by lia,by lia⟩
  show 0<=k/\k<(((p::ps).find? λp=>decide<|p.1=z).map (·.2)).getD 0;rw[Ko];rcases D3.mp h with h|h;obtain⟨e,h1,h2⟩:=hm p h;rw[dT_ e];exact⟨h1,h2⟩;have hz:p.1≠z:=λe=>by obtain⟨q,hq,hh⟩:=List.mem_flatMap.mp h;refine nd.1 ?_;rw[e,<-(hm q hh).1];exact Kj hq
  rw[dF_ hz];exact Au nd.2 h
def oT:p9:=bg<|jC (s9 bJ<|aa (dC<|.int 2)<|aa (ab 1) ag)<|jC (s9 bL<|aa (dC<|.int 1)<|aa (p6 u7 (ab 1)<|dC<|.int 0) ag)<|s9 ib<|aa (ab 0)<|aa (p6 u7 (ab 1)<|dC<|.int 1) ag
theorem uA:v8 fF 2 oT:=by rintro ds M R ⟨ps,s,t,z,k,rfl,h⟩;simp only[oT];walk_at"dl";refine⟨2,_,rfl,by simp[C9,uv],?_⟩;rw[show Bt 2 (.tup [.int t,.tup [.str z,.int k]])=a9 from rfl];walk_at"ifs";refine⟨1,_,rfl,by simp[C9,uv],?_⟩;rw[show lH 1 (.int t)=decide (1<=t)from by simp[lH]];by_cases h1:1<=t;rw[dT_ h1]at h ⊢;rw[Bool.true_and]at h;walk_at"ifs";refine⟨ps,_,_,rfl,by simp[C9,uv],λa b e=>?_,aO.now h⟩;simp only[D.tup.injEq,Mg,and_true]at e;obtain⟨rfl,rfl⟩:=e;exact⟨aM,by simp[C9,uv]⟩;rw[dF_ h1]at h ⊢;walk_at"ifs";exact aO.now h
theorem uQ(T:Tops P w K mg base):t9 P w K mg base 3 "is_stamp" jP fF:=t9.byD (N:=["house","thing"]) T.b T.f_is_stamp (by walk_at"sc") tM (by have:=kO T;have:=iz T;have:=xJ T;walk_at"dv") uA
def bP:v6:=λds M R=>∃(a b:D) (r:List D),ds=[.tup<|a::b::r]/\R (.tup [a,b]) M
theorem tK:cy bP jN:=by rintro ds M R ⟨a,b,r,rfl,_⟩;rfl
def oG:p9:=bg<|ig<|aa (p6 u7 (ab 0)<|dC<|.int 0)<|aa (p6 u7 (ab 0)<|dC<|.int 1) ag
theorem uy:v8 bP 1 oG:=by rintro ds M R ⟨a,b,r,rfl,h⟩;simp only[oG];walk_at"dl";exact⟨ao (by lia),aO.now h⟩
theorem fg(T:Tops P w K mg base):t9 P w K mg base 1 "stamp_of" jN bP:=t9.byD (N:=["deed"]) T.b T.f_stamp_of (by walk_at"sc") tK (by walk_at"dv") uy
def bb:v6:=λds M R=>∃(t x:D) (r m:List D),ds=[.tup<|t::.tup (x::r)::m]/\R x M
theorem qm:cy bb iE:=by rintro ds M R ⟨t,x,r,m,rfl,_⟩;rfl
def lN:p9:=bg<|p6 u7 (p6 u7 (ab 0)<|dC<|.int 1)<|dC<|.int 0
theorem qR:v8 bb 1 lN:=by rintro ds M R ⟨t,x,r,m,rfl,h⟩;simp only[lN];walk_at"dl";exact aO.now h
theorem cO(T:Tops P w K mg base):t9 P w K mg base 1 "person_of" iE bb:=t9.byD (N:=["deed"]) T.b T.f_person_of (by walk_at"sc") qm (by walk_at"dv") qR
def dN:v6:=λds M R=>∃(t d:D) (m:Int) (r:List D) (hs:List (D×Int)),ds=[.tup<|t::d::.int m::r,.tup<|pJ hs]/\Hd d/\(∀p∈hs,Hd p.1)/\hs.length<=1000/\R (.bl<|fG hs d m) M
theorem qp:cy dN iF:=by rintro ds M R ⟨t,d,m,r,hs,rfl,_⟩;rfl
def jg:p9:=bg<|dC<|.bl bt
def lZ:p9:=av (kW (bp<|ab 1) (nD 2<|cf (ak 2)<|cf (ak 3) nE)<|A9 (aB<|p6 D0 (ab 2)<|p6 u7 (ab 0)<|dC<|.int 1) (bg<|p6 KM (p6 u7 (ab 0)<|dC<|.int 2)<|ab 3) bu)<|jg
theorem qS:v8 dN 4 lZ:=by
 rintro ds M R ⟨t,d,m,r,hs,rfl,f,v,s,h⟩;simp only[lZ];walk_at"dl";refine λ_=>?_;refine gW (λys S c=>c=M/\∃qs a b,ys=pJ qs/\(∀p∈qs,Hd p.1)/\fG qs d m=fG hs d m/\S=[a7<|.tup<|t::d::.int m::r,a7<|.tup<|pJ hs,a,b]) ?_ ?_ _ _ _ ⟨rfl,hs,_,_,rfl,v,rfl,rfl⟩;rintro S c ⟨rfl,qs,a,b,e,_,w,rfl⟩;obtain rfl:qs=[]:=by
  cases qs with
  |nil=>rfl
  |cons q qs=>cases e
 rw[<-w]at h;refine⟨trivial,?_⟩;simp only[jg];walk_at"dl";exact aO.now h;rintro x xs S c ⟨rfl,qs,a,b,e,i,w,rfl⟩ G l;cases qs with
 |nil=>cases e
 |cons q qs =>
  have j:x=.tup [q.1,.int q.2]/\xs=pJ qs:=by unfold pJ at e ⊢;rw[A3]at e;injection e with e1 e2;exact⟨e1,e2⟩
  obtain⟨rfl,rfl⟩:=j;refine⟨trivial,?_⟩;have Q:=i q (by simp);walk_at"dl";refine⟨trivial,⟨Jj Q,Jj f⟩,?_⟩;cases g:t4 c t8 q.1 d with
  |true =>
   have e:=(FQ (n:=29) Q f).mp g;have k:fG (q::qs) d m=decide (m<q.2):=by unfold fG;rw[Ko,dT_ e]
   rw[<-w,k]at h;exact dI<|aO.now h
  |false =>
   have e:q.1≠d:=λz=>by have:=(FQ (M:=c) (n:=29) Q f).mpr z;rw[show t4 c (29+1) q.1 d=t4 c t8 q.1 d from rfl,g]at this;cases this
   refine cP<|A4.now<|l _ _ ⟨rfl,qs,_,_,rfl,λp o=>i p<|A2 _ o,?_,rfl⟩;rw[<-w];unfold fG;rw[Ko,dF_ e]
theorem sV(T:Tops P w K mg base):t9 P w K mg base 1 "is_within" iF dN:=t9.byD (N:=["deed","vector","hand","count"]) T.b T.f_is_within (by walk_at"sc") qp (by walk_at"dv") qS
def aX:v6:=λds M R=>∃(ps:List (b8×Int)) (a:List (b8×List b8)) (log:List D) (k:b8),ds=[.tup log,.str k]/\(∀d∈log,aC ps a d)/\log.length<=1000/\R (.ref M.length) (M++[.lst<|kinds log k])
theorem jY:cy aX du:=by rintro ds M R ⟨ps,a,log,k,rfl,_⟩;rfl
def fX:p9:=bg<|D1 1 [1] (bp<|ab 0) (ak 0) (aB<|p6 D0 (p6 u7 (p6 u7 (ab 0)<|dC<|.int 3)<|dC<|.int 0)<|ab 1)<|ab 0
theorem kM:v8 aX 2 fX:=by rintro ds M R ⟨ps,s,log,k,rfl,g,l,h⟩;simp only[fX];walk_at"dl";intro _;refine aG (λd=>decide<|cW d=k) id (λS=>∃a,S=[a,a7<|.str k]) trivial _ _ _ ?_ ⟨_,rfl⟩ (by rw[C0];exact ao<|by lia) (by rw[E3,K5];exact .inl h);rintro d i S ⟨a,rfl⟩;obtain⟨t,z,I,m,x,ds,rfl,_⟩:=g d i;refine⟨[a7<|.tup [.int t,.tup [.str z,.int I],.int m,.tup<|.str x::ds],a7<|.str k],⟨_,rfl⟩,λY Z b=>?_⟩;walk_at"dl";have f:atI [D.int t,.tup [.str z,.int I],.int m,.tup<|.str x::ds] 3=a7 (.tup<|.str x::ds):=ap (j:=3) rfl;rw[f];dsimp only;rw[NU];refine⟨⟨aM,aM⟩,?_⟩;rw[cG];have c:cW (.tup [.int t,.tup [.str z,.int I],.int m,.tup<|.str x::ds])=x:=rfl;rw[c]at b;by_cases e:x=k;rw[beq_iff_eq.mpr e];rw[dT_ e]at b;exact dI b;rw[beq_eq_false_iff_ne.mpr e];rw[dF_ e]at b;exact cP b
theorem cR(T:Tops P w K mg base):t9 P w K mg base 1 "deeds_of_kind" du aX:=t9.byD (N:=["log","kind"]) T.b T.f_deeds_of_kind (by walk_at"sc") jY (by walk_at"dv") kM
def dD:v6:=λds M R=>∃(ps:List (b8×Int)) (a:List (b8×List b8)) (log:List D) (k e:b8),ds=[.tup log,.str k,.str e]/\(∀d∈log,aC ps a d)/\log.length<=1000/\R (.ref M.length) (M++[.lst<|jx log k e])
theorem tO:cy dD jR:=by rintro ds M R ⟨ps,a,log,k,e,rfl,_⟩;rfl
def oX:p9:=bg<|D1 1 [2] (bp<|s9 aX<|aa (ab 0)<|aa (ab 1) ag) (ak 0) (aB<|p6 D0 (s9 bb<|aa (ab 0) ag)<|ab 1)<|ab 0
theorem uC:v8 dD 3 oX:=by rintro ds M R ⟨ps,rs,log,k,n,rfl,c,g,h⟩;simp only[oX];walk_at"dl";unfold jx at h;have f:∀d∈kinds log k,aC ps rs d:=λd q=>c d (z9.mp q).1;have l:(kinds log k).length<=1000:=G1 bj g;refine⟨ps,rs,log,k,rfl,c,g,?_⟩;generalize kinds log k=F at f l h;refine⟨F,ae,λ_=>?_⟩;refine aG (λd=>decide<|jU d=n) id (λS=>∃a,S=[a,a7<|.str n]) ae _ _ _ ?_ ⟨_,rfl⟩ (by rw[C0];exact ao<|by lia) ?_;rintro d j S ⟨a,rfl⟩;obtain⟨t,z,I,m,x,ds,rfl,_⟩:=f d j;refine⟨[a7<|.tup [.int t,.tup [.str z,.int I],.int m,.tup<|.str x::ds],a7<|.str n],⟨_,rfl⟩,λY Z b=>?_⟩;walk_at"dl";refine⟨_,_,_,_,rfl,⟨aM,aM⟩,?_⟩;rw[cG];have i:jU (.tup [.int t,.tup [.str z,.int I],.int m,.tup<|.str x::ds])=z:=rfl;rw[i]at b;by_cases e:z=n;rw[beq_iff_eq.mpr e];rw[dT_ e]at b;exact dI b;rw[beq_eq_false_iff_ne.mpr e];rw[dF_ e]at b;exact cP b;rw[E3,K5,F3];exact aO.lst h (by simp) (by simp)<|aC.bels (ps:=ps) (rs:=rs) λd q=>f d (z9.mp q).1
theorem mW(T:Tops P w K mg base):t9 P w K mg base 2 "deeds_by" jR dD:=t9.byD (N:=["log","kind","name"]) T.b T.f_deeds_by (by walk_at"sc") tO (by have:=cO T;have:=cR T;walk_at"dv") uC
def bI:v6:=λds M R=>∃(ps:List (b8×Int)) (a:List (b8×List b8)) (log:List D) (k e:b8),ds=[.tup log,.str k,.str e]/\(∀d∈log,aC ps a d)/\log.length<=1000/\(k=r9 "seen"\/k=r9 "rung")/\((∀x∈kN log k e,St x)->R (.ref M.length) (M++[.lst<|kN log k e]))
theorem nj:cy bI eZ:=by rintro ds M R ⟨ps,a,log,k,e,rfl,_⟩;rfl
def je:p9:=bg<|D1 1 [] (bp<|s9 dD<|aa (ab 0)<|aa (ab 1)<|aa (ab 2) ag) (ak 0) nL<|p6 u7 (p6 u7 (ab 0)<|dC<|.int 3)<|dC<|.int 1
theorem nO:v8 bI 3 je:=by
 rintro ds M R ⟨ps,u,log,k,name,rfl,g,p,o,h⟩;simp only[je];walk_at"dl";refine⟨ps,u,log,k,name,rfl,g,p,?_⟩;have s:=nb (log:=log) (k:=k) (name:=name);have f:∀d∈jx log k name,∃(t:Int) (z:b8) (k n:Int) (x:b8) (m:D),d=.tup [.int t,.tup [.str z,.int k],.int n,.tup [.str x,m]]/\St m:=λd b=>by obtain⟨h1,h2,_⟩:=na b;exact Eo (g d h1)<|o.imp (λe=>h2.trans e) λe=>h2.trans e
 have T:kN log k name=(jx log k name).map uw:=rfl;rw[T]at h;generalize jx log k name=F at s f h;have c:∀x∈F.map uw,St x:=λx r=>by obtain⟨d,b,rfl⟩:=ve.mp r;obtain⟨t,z,k,n,x,m,rfl,hs⟩:=f d b;exact hs
 refine⟨F,ae,λ_=>?_⟩;refine aZ uw (λS=>∃a,S=[a]) ae _ _ _ (λd b S c=>?_) ⟨_,rfl⟩ (by rw[C0];exact ao<|by lia) ?_;obtain⟨a,rfl⟩:=c;obtain⟨t,z,k,n,x,m,rfl,_⟩:=f d b;refine⟨[a7<|.tup [.int t,.tup [.str z,.int k],.int n,.tup [.str x,m]]],⟨_,rfl⟩,λY l=>?_⟩;walk_at"dl";have i:atI [D.int t,.tup [.str z,.int k],.int n,.tup [.str x,m]] 3=a7 (.tup [.str x,m]):=ap (j:=3) rfl;rw[i];dsimp only;rw[LI];exact l;rw[E3,F3];exact aO.lst (h c) (by simp) (by simp)<|Bels.of λd q=>bw 2 d (c d q).pl
theorem iy(T:Tops P w K mg base):t9 P w K mg base 3 "stamps_told" eZ bI:=t9.byD (N:=["log","kind","name"]) T.b T.f_stamps_told (by walk_at"sc") nj (by have:=mW T;walk_at"dv") nO
def bv:v6:=λds M R=>∃(a b c x r:D) (l:List D),ds=[.tup [a,b,c,.tup<|x::r::l]]/\R r M
theorem uZ:cy bv mH:=by rintro ds M R ⟨a,b,c,x,r,l,rfl,_⟩;rfl
def rq:p9:=bg<|p6 u7 (p6 u7 (ab 0)<|dC<|.int 3)<|dC<|.int 1
theorem xf:v8 bv 1 rq:=by rintro ds M R ⟨a,b,c,x,r,l,rfl,h⟩;simp only[rq];walk_at"dl";have e:atI [a,b,c,.tup<|x::r::l] 3=a7 (.tup<|x::r::l):=ap (j:=3) rfl;rw[e];dsimp only;rw[LI];exact aO.now h
theorem eH(T:Tops P w K mg base):t9 P w K mg base 1 "room_of" mH bv:=t9.byD (N:=["say"]) T.b T.f_room_of (by walk_at"sc") uZ (by walk_at"dv") xf
def cH:v6:=λds M R=>∃(a b c x r u:D) (l:List D),ds=[.tup [a,b,c,.tup<|x::r::u::l]]/\R u M
theorem tJ:cy cH jM:=by rintro ds M R ⟨a,b,c,x,r,u,l,rfl,_⟩;rfl
def oF:p9:=bg<|p6 u7 (p6 u7 (ab 0)<|dC<|.int 3)<|dC<|.int 2
theorem ux:v8 cH 1 oF:=by rintro ds M R ⟨a,b,c,x,r,u,l,rfl,h⟩;simp only[oF];walk_at"dl";have e:atI [a,b,c,.tup<|x::r::u::l] 3=a7 (.tup<|x::r::u::l):=ap (j:=3) rfl;have m:atI (x::r::u::l) 2=a7 u:=ap (j:=2) rfl;rw[e];dsimp only;rw[m];exact aO.now h
theorem iJ(T:Tops P w K mg base):t9 P w K mg base 1 "under_of" jM cH:=t9.byD (N:=["say"]) T.b T.f_under_of (by walk_at"sc") tJ (by walk_at"dv") ux
def dP:v6:=λds M R=>∃(ps:List (b8×Int)) (a:List (b8×List b8)) (d:D) (q:Nat) (s:List (D×D)),ds=[ax ps a,d,.ref q]/\aC ps a d/\cW d=r9 "say"/\M[q]?=a7 (.dkt s)/\(∀p∈s,aC ps a p.2/\cW p.2=r9 "say")/\R (.bl<|kx a s d) M
theorem qr:cy dP iH:=by rintro ds M R ⟨ps,a,d,q,s,rfl,_⟩;rfl
def ji:p9:=bg<|dOrV (p6 MX (ab 3)<|dC .non)<|jC (p6 Ev (ab 3)<|ab 2)<|p6 D0 (s9 bv<|aa (iU (ab 2)<|ab 3) ag)<|s9 bv<|aa (ab 1) ag
def jk:p9:=av (aU (s9 cH<|aa (ab 1) ag) 3)<|ji
def mi:p9:=av (A9 (aB<|p6 kE (s9 bb<|aa (ab 1) ag)<|s9 bD<|aa (ab 0)<|aa (s9 bv<|aa (ab 1) ag) ag) (bg<|dC<|.bl bt) bu)<|jk
theorem qU:v8 dP 4 mi:=by
 rintro ds M R ⟨ps,b,d,q,a,rfl,p,w,l,y,h⟩;obtain⟨t,z,k,m,r,u,s,rfl,_,_,x,g⟩:=cT p w;simp only[mi];walk_at"dl";refine⟨_,_,_,_,rfl,_,_,_,_,_,_,rfl,ps,b,r,rfl,x,⟨aM,pP⟩,?_⟩;rw[qz];have n:kx b a (.tup [.int t,.tup [.str z,.int k],.int m,.tup [.str<|r9 "say",.str r,u,.str s]])=(decide (z∈jG b r)&&(decide (u=.non)||match aQ a u with
  |some e=>decide<|bq e=r
  |none=>bt)):=rfl
 rw[n]at h;by_cases j:z∈jG b r;rw[dT_ j]at h ⊢;refine cP ?_;simp only[jk,ji];walk_at"dl";refine⟨_,_,_,_,_,u,_,rfl,?_⟩;rcases g with rfl|g;walk_at"dl";refine aO.now ?_;simpa using h;obtain⟨t',G,I,rfl⟩:=g;rw[dF_<|by intro e;cases e]at h;walk_at"dl";refine⟨a,l,rfl,?_⟩;cases S:aQ a (.tup [.int t',.tup [.str G,.int I]]) with
 |none=>rw[S]at h;exact cP<|aO.now h
 |some e =>
  rw[S]at h;obtain⟨v,c⟩:=y _<|bo S;obtain⟨E,D,C,A,f,J,B,i,_⟩:=cT v c;dsimp only at i;subst i;refine dI ⟨a,_,l,rfl,S,_,_,_,_,_,_,rfl,_,_,_,_,_,_,rfl,⟨aM,aM⟩,?_⟩;rw[cG];refine aO.now ?_;have o:(f==r)=decide (f=r):=by by_cases e:f=r;rw[dT_ e];exact beq_iff_eq.mpr e;rw[dF_ e];exact beq_eq_false_iff_ne.mpr e
  rw[o];exact h
 rw[dF_ j]at h ⊢;exact dI<|aO.now h
theorem sX(T:Tops P w K mg base):t9 P w K mg base 2 "can_stand" iH dP:=t9.byD (N:=["house","say","elders","under"]) T.b T.f_can_stand (by walk_at"sc") qr (by have:=fi T;have:=cO T;have:=eH T;have:=iJ T;walk_at"dv") qU
def aL:v6:=λds M R=>∃(ps:List (b8×Int)) (a:List (b8×List b8)) (log:List D),ds=[ax ps a,.tup log]/\(∀d∈log,aC ps a d)/\log.length<=1000/\∀n B,M <+: B->B[n]?=a7 (.dkt<|ah a log)->R (.ref n) B
theorem iN:cy aL cE:=by rintro ds M R ⟨ps,a,log,rfl,_⟩;rfl
theorem jc(h:∀d∈log,aC ps rs d)(g:∀d∈l,d∈kinds log (r9 "say"))(t:TabK l kvs):∀p∈kvs,aC ps rs p.2/\cW p.2=r9 "say":=λp a=>by obtain⟨h1,h2⟩:=aP<|g _ (t.en p a).2;exact⟨h _ h1,h2⟩
def dm:p9:=bg<|ab 2
def dn:p9:=av (kW (bp<|s9 aX<|aa (ab 1)<|aa (dC<|.str "say") ag) (ak 3)<|A9 (aB<|s9 dP<|aa (ab 0)<|aa (ab 3)<|aa (ab 2) ag) (qH (ab 2) (s9 bP<|aa (ab 3) ag)<|ab 3) bu)<|dm
def eG:p9:=av (aU (vI) 2)<|dn
theorem iZ:v8 aL 4 eG:=by
 rintro ds M R ⟨ps,rs,log,rfl,c,o,h⟩;simp only[eG,dn];walk_at"dl";refine⟨ps,rs,log,_,rfl,c,o,?_⟩;have r:=bj (log:=log) (k:=r9 "say");have m:∀d∈kinds log (r9 "say"),aC ps rs d/\cW d=r9 "say":=λd q=>⟨c d (aP q).1,(aP q).2⟩
 have f:aV rs (kinds log<|r9 "say")=ah rs log:=rfl;generalize B:kinds log (r9 "say")=K at r m f;refine⟨K,ae,λ_=>?_⟩;refine aY (λi S b=>∃a,b=M++[.dkt<|aV rs<|K.take i,.lst K]/\S=[a7<|ax ps rs,a7<|.tup log,a7<|.ref M.length,a]) ?_ ?_ ⟨_,by simp[aV],rfl⟩;rintro S b ⟨a,rfl,rfl⟩;rw[K8,f];refine⟨.inl ?_,?_⟩;have:(M++[MO.dkt []]).length=M.length+1:=by simp
 rw[this];exact lz;simp only[dm];walk_at"dl";exact .inl<|h _ _ (Kq _ _) cF;rintro i y S b Q ⟨a,rfl,rfl⟩ G l;have p:=F8 Q;have n:K.take (i+1)=K.take i++[y]:=by rw[Lm,Q];rfl
 rw[n,fB]at l;have g:=gZ (rs:=rs)<|K.take i;have v:=jc c (λd q=>B ▸ List.mem_of_mem_take q) g;have j:=g.len;rw[J1]at j;generalize aV rs (K.take i)=s at l v j;obtain⟨e,u⟩:=m y p;refine⟨.inl ?_,?_⟩;have:(M++[MO.dkt []]).length=M.length+1:=by simp
 rw[this];exact lz;walk_at"dl";refine⟨ps,rs,y,_,s,rfl,e,u,cF,v,?_⟩;unfold xw at l;cases hs:kx rs s y with
 |true=>rw[hs,n6 rfl]at l;refine dI ?_;obtain⟨t,z,k,w,x,ds,rfl,_⟩:=e;refine⟨_,_,_,rfl,s,cF,rfl,ar (by lia),?_⟩;rw[mv];exact A4.now<|l _ _ ⟨_,rfl,rfl⟩
 |false=>rw[hs,n9<|by decide]at l;exact cP<|A4.now<|l _ _ ⟨_,rfl,rfl⟩
theorem bZ(T:Tops P w K mg base):t9 P w K mg base 3 "says_that_count" cE aL:=t9.byD (N:=["house","log","says","deed"]) T.b T.f_says_that_count (by walk_at"sc") iN (by have:=fg T;have:=cR T;have:=sX T;walk_at"dv") iZ
def cw:v6:=λds M R=>∃(t:Int) (z:b8) (k n:Int) (x m:D) (l:List D) (q:Nat) (s:List (D×D)),ds=[.tup [.int t,.tup [.str z,.int k],.int n,.tup<|x::m::l],.ref q]/\St m/\M[q]?=a7 (.dkt s)/\(∀p∈s,Ng p.2)/\R (.bl<|J6 s<|.tup [.int t,.tup [.str z,.int k],.int n,.tup<|x::m::l]) M
theorem kT:cy cw eB:=by rintro ds M R ⟨t,z,k,n,x,m,l,q,s,rfl,_⟩;rfl
def fP:p9:=bg<|jC (p6 Ev (ab 2)<|ab 1)<|p6 D0 (s9 bb<|aa (ab 0) ag)<|s9 bb<|aa (iU (ab 1)<|ab 2) ag
def iw:p9:=av (aU (p6 u7 (p6 u7 (ab 0)<|dC<|.int 3)<|dC<|.int 1) 2)<|fP
theorem lG:v8 cw 3 iw:=by
 rintro ds M R ⟨t,z,k,n,x,m,l,q,s,rfl,f,b,v,h⟩;simp only[iw,fP];obtain⟨t',G,I,rfl⟩:=f;walk_at"dl";have c:atI [D.int t,.tup [.str z,.int k],.int n,.tup<|x::.tup [.int t',.tup [.str G,.int I]]::l] 3=a7 (.tup<|x::.tup [.int t',.tup [.str G,.int I]]::l):=ap (j:=3) rfl;rw[c];dsimp only;rw[LI];refine⟨s,b,rfl,?_⟩;have d:J6 s (.tup [.int t,.tup [.str z,.int k],.int n,.tup<|x::.tup [.int t',.tup [.str G,.int I]]::l])=match aQ s (.tup [.int t',.tup [.str G,.int I]]) with
  |some e=>decide<|z=jU e
  |none=>bt:=rfl
 rw[d]at h;cases S:aQ s (.tup [.int t',.tup [.str G,.int I]]) with
 |none=>rw[S]at h;exact cP<|aO.now h
 |some e =>
  rw[S]at h;obtain⟨a,y,r,g,rfl⟩:=v _<|bo S;refine dI ⟨_,_,_,_,rfl,s,_,b,rfl,S,_,_,_,_,rfl,⟨aM,aM⟩,?_⟩;rw[cG];refine aO.now ?_;have o:(z==y)=decide (z=y):=by by_cases e:z=y;rw[dT_ e];exact beq_iff_eq.mpr e;rw[dF_ e];exact beq_eq_false_iff_ne.mpr e
  rw[o];exact h
theorem mU(T:Tops P w K mg base):t9 P w K mg base 2 "is_by_writer" eB cw:=t9.byD (N:=["deed","says","message"]) T.b T.f_is_by_writer (by walk_at"sc") kT (by have:=cO T;walk_at"dv") lG
def bH:v6:=λds M R=>∃(ps:List (b8×Int)) (a:List (b8×List b8)) (log:List D) (k:b8) (q:Nat) (s:List (D×D)),ds=[.tup log,.str k,.ref q]/\(∀d∈log,aC ps a d)/\log.length<=1000/\(k=r9 "change"\/k=r9 "back")/\M[q]?=a7 (.dkt s)/\(∀p∈s,Ng p.2)/\R (.ref M.length) (M++[.lst<|(kinds log k).filter<|J6 s])
theorem nh:cy bH eY:=by rintro ds M R ⟨ps,a,log,k,q,s,rfl,_⟩;rfl
theorem Ir(h:aC ps rs d)(e:cW d=k)(b:k=r9 "change"\/k=r9 "back"):∃(t:Int) (z:b8) (k num:Int) (x m:D) (l:List D),d=.tup [.int t,.tup [.str z,.int k],.int num,.tup<|x::m::l]/\St m:=by rcases b with rfl|rfl;obtain⟨t,z,k,num,m,s,rfl,a⟩:=nH h e;exact⟨t,z,k,num,_,m,_,rfl,a⟩;obtain⟨t,z,k,num,m,rfl,a⟩:=AY h e;exact⟨t,z,k,num,_,m,_,rfl,a⟩
def jd:p9:=bg<|D1 1 [2] (bp<|s9 aX<|aa (ab 0)<|aa (ab 1) ag) (ak 0) (aB<|s9 cw<|aa (ab 0)<|aa (ab 1) ag)<|ab 0
theorem nN:v8 bH 3 jd:=by
 rintro ds M R ⟨ps,rs,log,k,q,s,rfl,c,g,f,j,v,h⟩;simp only[jd];walk_at"dl";refine⟨ps,rs,log,k,rfl,c,g,_,ae,λ_=>?_⟩;have o:=bj (log:=log) (k:=k);refine aG (J6 s) id (λS=>∃a,S=[a,a7<|.ref q]) ae _ _ _ ?_ ⟨_,rfl⟩ (by rw[C0];exact ao<|by lia) ?_;rintro d i S ⟨a,rfl⟩;obtain⟨h1,h2⟩:=aP i;obtain⟨t,z,I,n,x,m,l,rfl,hs⟩:=Ir (c d h1) h2 f;refine⟨[a7<|.tup [.int t,.tup [.str z,.int I],.int n,.tup<|x::m::l],a7<|.ref q],⟨_,rfl⟩,λY Z b=>?_⟩;walk_at"dl";refine⟨t,z,I,n,x,m,l,q,s,rfl,hs,ac j,v,?_⟩;cases e:J6 s (.tup [.int t,.tup [.str z,.int I],.int n,.tup<|x::m::l]) with
 |true=>rw[e]at b;exact dI b
 |false=>rw[e]at b;exact cP b
 rw[E3,K5,F3];exact aO.lst h (by simp) (by simp)<|aC.bels (ps:=ps) (rs:=rs) λd m=>c d (aP (z9.mp m).1).1
theorem ix(T:Tops P w K mg base):t9 P w K mg base 3 "writers_own" eY bH:=t9.byD (N:=["log","kind","says"]) T.b T.f_writers_own (by walk_at"sc") nh (by have:=cR T;have:=mU T;walk_at"dv") nN
def bA:v6:=λds M R=>∃(ps:List (b8×Int)) (a:List (b8×List b8)) (log:List D) (q:Nat) (s:List (D×D)),ds=[.tup log,.ref q]/\(∀d∈log,aC ps a d)/\log.length<=1000/\M[q]?=a7 (.dkt s)/\(∀p∈s,Ng p.2)/\∀n B,M <+: B->B[n]?=a7 (.dkt<|aH s log)->R (.ref n) B
theorem kR:cy bA eA:=by rintro ds M R ⟨ps,a,log,q,s,rfl,_⟩;rfl
theorem yg(ps:List (D×D))(h:p∈dictOf ps):p∈ps:=by revert h;refine jn (P:=λps=>p∈dictOf ps->p∈ps) (λh=>h) (λps q i h=>?_) ps;rw[fy]at h;rcases wE h with rfl|h;simp;exact J4 _<|i h
theorem iW(h:∀d∈log,aC ps rs d):∀p∈aH kvs log,∃s,p.2=.str s:=λp b=>by obtain⟨d,a,rfl⟩:=ve.mp<|yg _ b;obtain⟨h1,h2⟩:=aP (z9.mp a).1;obtain⟨t,z,k,n,m,s,rfl,hs⟩:=nH (h d h1) h2;exact⟨s,rfl⟩
def iu:p9:=bg<|s9 iC<|aa (D1 1 [] (bp<|s9 bH<|aa (ab 0)<|aa (dC<|.str "change")<|aa (ab 1) ag) (ak 0) nL<|ig<|aa (p6 u7 (p6 u7 (ab 0)<|dC<|.int 3)<|dC<|.int 1)<|aa (p6 u7 (p6 u7 (ab 0)<|dC<|.int 3)<|dC<|.int 2) ag) ag
theorem lF:v8 bA 2 iu:=by
 rintro ds M R ⟨ps,B,log,q,b,rfl,i,w,x,y,h⟩;simp only[iu];walk_at"dl";refine⟨ps,B,log,_,q,b,rfl,i,w,.inl rfl,x,y,_,ae,λ_=>?_⟩;have C:=bj (log:=log) (k:=r9 "change");have r:=G8 (J6 b)<|kinds log<|r9 "change";have f:∀d∈(kinds log<|r9 "change").filter (J6 b),∃(t:Int) (z:b8) (k n:Int) (m:D) (s:b8),d=.tup [.int t,.tup [.str z,.int k],.int n,.tup [.str<|r9 "change",m,.str s]]/\St m:=λd m=>by obtain⟨h1,h2⟩:=aP (z9.mp m).1;exact nH (i d h1) h2
 have g:dictOf (((kinds log<|r9 "change").filter<|J6 b).map λd=>(uw d,eO d))=aH b log:=rfl;generalize (kinds log<|r9 "change").filter (J6 b)=F at r f g;refine aZ (λd=>.tup [uw d,eO d]) (λS=>∃a,S=[a]) ae _ _ _ (λd c S u=>?_) ⟨_,rfl⟩ (by rw[C0];exact ao<|by lia) ?_;obtain⟨a,rfl⟩:=u;obtain⟨t,z,k,n,m,s,rfl,_⟩:=f d c;refine⟨[a7<|.tup [.int t,.tup [.str z,.int k],.int n,.tup [.str<|r9 "change",m,.str s]]],⟨_,rfl⟩,λY v=>?_⟩;walk_at"dl";have l:atI [D.int t,.tup [.str z,.int k],.int n,.tup [.str<|r9 "change",m,.str s]] 3=a7 (.tup [.str<|r9 "change",m,.str s]):=ap (j:=3) rfl;rw[l];dsimp only;rw[LI];dsimp only;rw[OS];exact⟨ao (by lia),v⟩;rw[E3];have o:F.map (λd=>D.tup [uw d,eO d])=(F.map λd=>(uw d,eO d)).map λp=>.tup [p.1,p.2]:=by rw[E2];rfl
 rw[o];refine⟨F.map λd=>(uw d,eO d),ae,λp c=>?_,by rw[u4];lia,?_⟩;obtain⟨d,A,rfl⟩:=ve.mp c;obtain⟨t,z,k,n,m,s,rfl,hs⟩:=f d A;obtain⟨E,e⟩:=hs.tup;exact⟨hs.key,by show gu m=a9;rw[e];rfl⟩;rw[g];exact .inl<|h _ _ ((bc.trans bc).trans bc) ad
theorem gl(T:Tops P w K mg base):t9 P w K mg base 4 "last_changes" eA bA:=t9.byD (N:=["log","says"]) T.b T.f_last_changes (by walk_at"sc") kR (by have:=ix T;walk_at"dv") lF
def aF:v6:=λds M R=>∃(ps:List (b8×Int)) (r:List (b8×List b8)) (log:List D) (q:Nat) (s:List (D×D)),ds=[.tup log,.ref q]/\(∀d∈log,aC ps r d)/\log.length<64/\M[q]?=a7 (.dkt s)/\(∀p∈s,Ng p.2)/\∀ys,(∀x∈ys,St x)->(∀x,x∈ys↔bK s log x)->ys.Nodup->(ys.Pairwise λa b=>¬A0 t8 b<A0 t8 a)->R (.ref M.length) (M++[.lst ys])
theorem gp:cy aF bN:=by rintro ds M R ⟨ps,a,log,q,s,rfl,_⟩;rfl
def dj:p9:=bg<|gx<|D1 1 [] (bp<|s9 bH<|aa (ab 0)<|aa (dC<|.str "back")<|aa (ab 1) ag) (ak 0) nL<|p6 u7 (p6 u7 (ab 0)<|dC<|.int 3)<|dC<|.int 1
theorem ic:v8 aF 2 dj:=by
 rintro ds M R ⟨ps,H,log,q,s,rfl,o,J,y,B,h⟩;simp only[dj];walk_at"dl";refine⟨ps,H,log,_,q,s,rfl,o,by lia,.inr rfl,y,B,_,ae,λ_=>?_⟩;have K:=bj (log:=log) (k:=r9 "back");have u:=G8 (J6 s)<|kinds log<|r9 "back";have l:∀d∈(kinds log<|r9 "back").filter (J6 s),∃(t:Int) (z:b8) (k n:Int) (m:D),d=.tup [.int t,.tup [.str z,.int k],.int n,.tup [.str<|r9 "back",m]]/\St m:=λd m=>by obtain⟨h1,h2⟩:=aP (z9.mp m).1;exact AY (o d h1) h2
 have g:∀x,x∈((kinds log<|r9 "back").filter<|J6 s).map uw↔bK s log x:=λx=>by constructor;intro f;obtain⟨d,m,rfl⟩:=ve.mp f;exact⟨d,(z9.mp m).1,(z9.mp m).2,rfl⟩;rintro⟨d,h1,h2,rfl⟩;exact Kj<|z9.mpr ⟨h1,h2⟩
 generalize (kinds log<|r9 "back").filter (J6 s)=F at u l g;refine aZ uw (λS=>∃a,S=[a]) ae _ _ _ (λd i S v=>?_) ⟨_,rfl⟩ (by rw[C0];exact ao<|by lia) ?_;obtain⟨a,rfl⟩:=v;obtain⟨t,z,k,n,m,rfl,_⟩:=l d i;refine⟨[a7<|.tup [.int t,.tup [.str z,.int k],.int n,.tup [.str<|r9 "back",m]]],⟨_,rfl⟩,λY w=>?_⟩;walk_at"dl";have r:atI [D.int t,.tup [.str z,.int k],.int n,.tup [.str<|r9 "back",m]] 3=a7 (.tup [.str<|r9 "back",m]):=ap (j:=3) rfl;rw[r];dsimp only;rw[LI];exact w;rw[E3];have hs:∀x∈F.map uw,St x:=λx f=>by obtain⟨d,i,rfl⟩:=ve.mp f;obtain⟨t,z,k,n,m,rfl,hs⟩:=l d i;exact hs
 refine⟨8,_,u5 _,.inl ⟨_,rfl,ae⟩,by rw[u4];lia,λx f=>?_,Ei hs (by rw[u4];lia),λys C Q A=>?_⟩;obtain⟨L,e⟩:=(hs x f).tup;exact⟨(hs x f).key,by rw[e];rfl⟩;have c:∀x∈ys,St x:=λx f=>hs x<|(Q x).mp f;rw[F3,F3];have I:ys.Pairwise λa b=>¬A0 t8 b<A0 t8 a:=(O3.mp A).imp λ{a b} ⟨ha,g,q⟩=>by
  have p:=c a ha;have U:=c b g;have E:A6 t8 a=a9:=by obtain⟨t,z,k,e⟩:=p;rw[e];rfl
  have G:A6 t8 b=a9:=by obtain⟨t,z,k,e⟩:=U;rw[e];rfl
  rw[uV G E<|U.cm p]at q;exact of_decide_eq_false q
 exact aO.lst (h ys c (λx=>(Q x).trans<|g x) C I) (by simp) (by simp)<|Bels.of λd m=>bw 2 d (c d m).pl
theorem bG(T:Tops P w K mg base):t9 P w K mg base 4 "stamps_taken_back" bN aF:=t9.byD (N:=["log","says"]) T.b T.f_stamps_taken_back (by walk_at"sc") gp (by have:=ix T;walk_at"dv") ic
def cu:v6:=λds M R=>∃(ps:List (b8×Int)) (a:List (b8×List b8)) (d:D) (q:Nat) (b:List (D×D)),ds=[d,.ref q]/\aC ps a d/\cW d=r9 "say"/\M[q]?=a7 (.dkt b)/\R (mZ b d) M
theorem nY:cy cu gi:=by rintro ds M R ⟨ps,a,d,q,b,rfl,_⟩;rfl
def iq:p9:=bg<|ig<|aa (ab 2)<|aa (s9 bv<|aa (ab 0) ag)<|aa (s9 cH<|aa (ab 0) ag)<|aa (s9 bb<|aa (ab 0) ag)<|aa (ab 3)<|aa (p6 Ev (ab 2)<|ab 1) ag
def ir:p9:=av (aU (NS sO (ab 1)<|aa (ab 2)<|aa (p6 u7 (p6 u7 (ab 0)<|dC<|.int 3)<|dC<|.int 3) ag) 3)<|iq
def kq:p9:=av (aU (s9 bP<|aa (ab 0) ag) 2)<|ir
theorem pG:v8 cu 4 kq:=by rintro ds M R ⟨ps,g,d,q,b,rfl,c,f,a,h⟩;obtain⟨t,z,k,m,r,u,s,rfl,_⟩:=cT c f;simp only[kq,ir];walk_at"dl";refine⟨_,_,_,rfl,⟨_,a⟩,?_⟩;have e:atI [D.int t,.tup [.str z,.int k],.int m,.tup [.str<|r9 "say",.str r,u,.str s]] 3=a7 (.tup [.str<|r9 "say",.str r,u,.str s]):=ap (j:=3) rfl;have J:atI [.str<|r9 "say",.str r,u,.str s] 3=a7 (.str s):=ap (j:=3) rfl;rw[e];dsimp only;rw[J];refine⟨b,a,rfl,?_⟩;simp only[iq];walk_at"dl";refine⟨_,_,_,_,_,_,rfl,_,_,_,_,_,_,_,rfl,_,_,_,_,rfl,b,a,rfl,ao (by lia),aO.now h⟩
theorem jw(T:Tops P w K mg base):t9 P w K mg base 2 "message_of" gi cu:=t9.byD (N:=["say","changes","stamp","saying"]) T.b T.f_message_of (by walk_at"sc") nY (by have:=fg T;have:=cO T;have:=eH T;have:=iJ T;walk_at"dv") pG
def bC:v6:=λds M R=>∃(ps:List (b8×Int)) (a:List (b8×List b8)) (log:List D),ds=[ax ps a,.tup log]/\(∀d∈log,aC ps a d)/\log.length<64/\∀n B,M <+: B->B[n]?=a7 (.dkt<|af a log)->R (.ref n) B
theorem nW:cy bC gg:=by rintro ds M R ⟨ps,a,log,rfl,_⟩;rfl
theorem mj{M:tx}{l:List D}(h:∀x∈l,St x):l.all (u3 M t8)=a9:=Fn.mpr λx a=>(h x a).ok
theorem nB(a:St x)(h:∀x∈l,St x):Lc M x l=decide (x∈l):=by unfold Lc;by_cases d:x∈l;rw[dT_ d];exact KZ.mpr ⟨x,d,by rw[show t8=28+2 from rfl,a.eq a];exact dT_ rfl⟩;rw[dF_ d];refine KJ.mpr λz=>?_;obtain⟨y,Q,e⟩:=KZ.mp z;rw[show t8=28+2 from rfl,(h y Q).eq a]at e;exact d<|oT_ e ▸ Q
def ij:p9:=bg<|s9 iC<|aa (D1 1 [2,3] (wU<|ab 2) (ak 0) (aB<|p6 kE (ab 0)<|ab 2)<|ig<|aa (ab 0)<|aa (iU (ab 1)<|ab 0) ag) ag
def ik:p9:=av (aU (s9 aF<|aa (ab 1)<|aa (ab 2) ag) 3)<|ij
def ki:p9:=av (aU (s9 aL<|aa (ab 0)<|aa (ab 1) ag) 2)<|ik
theorem pE:v8 bC 4 ki:=by
 rintro ds M R ⟨ps,rs,log,rfl,o,F,h⟩;simp only[ki];walk_at"dl";refine⟨ps,rs,log,rfl,o,by lia,λn B H m=>?_⟩;have t:=ay (rs:=rs) (log:=log);have J:=bj (log:=log) (k:=r9 "say");have v:=jc o (λ_ q=>q) t;have I:=t.len;have l:=t.nd;have w:=t.en;have g:af rs log=(ah rs log).filter λp=>@decide (¬bK (ah rs log) log p.1) (A5 _):=rfl;rw[g]at h;clear g;generalize ah rs log=s at h t I v l w m;simp only[ik];walk_at"dl";refine⟨ps,rs,log,n,s,rfl,o,F,m,λp c=>(v p c).1.nm,λys hs Q _ _=>?_⟩;simp only[ij];walk_at"dl";have f:(B++[MO.lst ys])[n]?=a7 (.dkt s):=ac m;refine⟨s,f,λ_=>?_⟩;have sp:∀p∈s,St p.1:=λp c=>by rw[(w p c).1];exact(v p c).1.st
 refine aG (λk=>decide<|k∉ys) (λk=>.tup [k,(aQ s k).getD .non]) (λS=>∃a,S=[a,a7<|.ref n,a7<|.ref B.length]) f _ _ _ ?_ ⟨_,rfl⟩ (by rw[C0,u4];exact ao<|by lia) ?_;rintro x G S ⟨a,rfl⟩;obtain⟨p,c,rfl⟩:=ve.mp G;have d:=sp p c;have r:=iK l c;refine⟨[a7 p.1,a7<|.ref n,a7<|.ref B.length],⟨_,rfl⟩,λY Z b=>?_⟩;rw[r]at b;obtain⟨A,e⟩:=d.tup;have y:=d.key;rw[e]at b r y d ⊢;walk_at"dl";refine⟨ys,ae,⟨d.ok,mj hs⟩,?_⟩;rw[nB d hs];by_cases j:D.tup A∈ys;rw[dT_ j];rw[dF_<|λz=>z j]at b;exact cP b;rw[dF_ j];rw[dT_ j,n6 rfl]at b;exact dI ⟨s,_,f,y,r,ao (by lia),b⟩;rw[E3];have E:((s.map (·.1)).filter λk=>decide<|k∉ys).map (λk=>D.tup [k,(aQ s k).getD .non])=(s.filter λp=>decide<|p.1∉ys).map λp=>.tup [p.1,p.2]:=by rw[N6,E2];refine Mr λp c=>?_;show D.tup [p.1,(aQ s p.1).getD .non]=_;rw[iK l (z9.mp c).1];rfl
 rw[E];have u:((s.filter λp=>decide<|p.1∉ys).map (·.1)).Nodup:=(Os.map _).nodup l;refine⟨_,ae,λp c=>?_,?_,?_⟩;have d:=sp p (z9.mp c).1;obtain⟨A,e⟩:=d.tup;exact⟨d.key,by rw[e];rfl⟩;have:=G8 (λp:D×D=>decide<|p.1∉ys) s;lia;rw[tX _ u];refine .inl<|h _ _ (((H.trans bc).trans bc).trans bc) ?_;have C:(s.filter λp=>decide<|p.1∉ys)=s.filter λp=>@decide (¬bK s log p.1) (A5 _):=Nz λp _=>by by_cases i:bK s log p.1;rw[dF_<|show ¬¬p.1∈ys from λz=>z<|(Q _).mpr i,@decide_eq_false _ (A5 _)<|λz=>z i];rw[dT_<|show ¬p.1∈ys from λz=>i<|(Q _).mp z,@decide_eq_true _ (A5 _) i]
 rw[<-C];exact ad
theorem fh(T:Tops P w K mg base):t9 P w K mg base 5 "says_shown" gg bC:=t9.byD (N:=["house","log","says","backs"]) T.b T.f_says_shown (by walk_at"sc") nW (by have:=bZ T;have:=bG T;walk_at"dv") pE
def cN:v6:=λds M R=>∃(ps:List (b8×Int)) (a:List (b8×List b8)) (log:List D),ds=[ax ps a,.tup log]/\(∀d∈log,aC ps a d)/\log.length<64/\R (.ref M.length) (M++[.lst<|ng a log])
theorem nk:cy cN fe:=by rintro ds M R ⟨ps,a,log,rfl,_⟩;rfl
theorem bi(h:∀d∈log,aC ps rs d):∀p∈af rs log,p.1=t7 p.2/\aC ps rs p.2/\cW p.2=r9 "say":=λp a=>by have h1:=(bX.mp a).1;have b:=ay (rs:=rs) (log:=log);exact⟨(b.en p h1).1,jc h (λ_ q=>q) b p h1⟩
theorem qj(f:∀p∈ch,∃s,p.2=.str s)(h:aC ps rs d)(c:cW d=r9 "say"):C2 n (mZ ch d):=by
 obtain⟨t,z,k,m,r,u,s,rfl,_,_,_,g⟩:=cT h c;have b:C2 n u:=by rcases g with rfl|g;exact .non;exact bw 2 u g.pl
 refine .tup<|.cons (bw 2 _<|St.pl (n:=0) ⟨t,z,k,rfl⟩)<|.cons (.str _)<|.cons b<|.cons (.str _)<|.cons ?_<|.cons (.bl _) .nil;cases e:aQ ch (t7<|.tup [.int t,.tup [.str z,.int k],.int m,.tup [.str<|r9 "say",.str r,u,.str s]]) with
 |none=>exact .str _
 |some v=>obtain⟨s',a⟩:=f _<|bo e;dsimp only at a;rw[a];exact .str _
def fU:p9:=bg<|D1 1 [3] (pA<|ab 2) (ak 0) nL<|s9 cu<|aa (ab 0)<|aa (ab 1) ag
def fV:p9:=av (aU (s9 bA<|aa (ab 1)<|aa (ab 2) ag) 3)<|fU
def jf:p9:=av (aU (s9 bC<|aa (ab 0)<|aa (ab 1) ag) 2)<|fV
theorem nP:v8 cN 4 jf:=by
 rintro ds M R ⟨ps,rs,log,rfl,g,s,h⟩;simp only[jf];walk_at"dl";refine⟨ps,rs,log,rfl,g,s,λn B H i=>?_⟩;have v:=bi (rs:=rs) g;have t:(af rs log).length<=1000:=by have h1:=(ay (rs:=rs) (log:=log)).len;have h2:=bj (log:=log) (k:=r9 "say");have w:(af rs log).length<=(ah rs log).length:=G8 _ _;lia
 have m:ng rs log=(af rs log).map λp=>mZ (aH (af rs log) log) p.2:=rfl;have j:=iW (kvs:=af rs log) g;simp only[fV];walk_at"dl";refine⟨ps,rs,log,n,af rs log,rfl,g,by lia,i,λp b=>(v p b).2.1.nm,λo u e f=>?_⟩;rw[m]at h;generalize af rs log=T at v t i f h j;generalize aH T log=q at f h j;have c:=bn e i;have pM:=H.trans e;simp only[fU];walk_at"dl";refine⟨T,c,λ_=>?_⟩;refine aZ (mZ q) (λS=>∃a,S=[a,a7<|.ref o]) c _ _ _ (λd m S r=>?_) ⟨_,rfl⟩ (by rw[C0,u4];exact ao<|by lia) ?_;obtain⟨a,rfl⟩:=r;obtain⟨p,b,rfl⟩:=ve.mp m;refine⟨[a7 p.2,a7<|.ref o],⟨_,rfl⟩,λY D=>?_⟩;walk_at"dl";exact⟨ps,rs,p.2,o,q,rfl,(v p b).2.1,(v p b).2.2,f,D⟩;rw[E3,E2];obtain⟨L,rfl⟩:=pM;rw[F3];refine aO.lst h (by simp) (by simp)<|Bels.of λd l=>?_;obtain⟨p,b,rfl⟩:=ve.mp l;exact qj j (v p b).2.1 (v p b).2.2
theorem nS(T:Tops P w K mg base):t9 P w K mg base 6 "messages_of" fe cN:=t9.byD (N:=["house","log","says","changes"]) T.b T.f_messages_of (by walk_at"sc") nk (by have:=gl T;have:=jw T;have:=fh T;walk_at"dv") nP
def cX:v6:=λds M R=>∃(ps:List (b8×Int)) (a:List (b8×List b8)) (log:List D),ds=[ax ps a,.tup log]/\(∀d∈log,aC ps a d)/\log.length<64/\∀ys,BackL a log ys->R (.ref M.length) (M++[.lst ys])
theorem nV:cy cX gd:=by rintro ds M R ⟨ps,a,log,rfl,_⟩;rfl
def kh:p9:=bg<|s9 aF<|aa (ab 1)<|aa (s9 aL<|aa (ab 0)<|aa (ab 1) ag) ag
theorem pD:v8 cX 2 kh:=by rintro ds M R ⟨ps,rs,log,rfl,a,g,h⟩;simp only[kh];walk_at"dl";refine⟨ps,rs,log,rfl,a,by lia,λn B H b=>?_⟩;have t:=ay (rs:=rs) (log:=log);have v:=jc a (λ_ q=>q) t;refine⟨ps,rs,log,n,ah rs log,rfl,a,g,b,λp c=>(v p c).1.nm,λys hs Q e r=>?_⟩;obtain⟨L,rfl⟩:=H;rw[F3];exact aO.lst (h ys ⟨hs,Q,e,r⟩) (by simp) (by simp)<|Bels.of λd m=>bw 2 d (hs d m).pl
theorem pZ(T:Tops P w K mg base):t9 P w K mg base 5 "taken_back" gd cX:=t9.byD (N:=["house","log"]) T.b T.f_taken_back (by walk_at"sc") nV (by have:=bZ T;have:=bG T;walk_at"dv") pD
def gJ:v6:=λds M R=>∃(ps:List (b8×Int)) (a:List (b8×List b8)) (log:List D) (e:D),ds=[ax ps a,.tup log,t7 e]/\(ps.map (·.1)).Nodup/\(∀d∈log,aC ps a d)/\log.length<64/\aQ (af a log) (t7 e)=a7 e/\R e M
theorem xU:cy gJ pY:=by rintro ds M R ⟨ps,a,log,s,rfl,_⟩;rfl
def oQ:p9:=bg<|iU (ab 3)<|ab 2
def oR:p9:=av (A9 (L1 (Gp<|aB<|s9 fF<|aa (ab 0)<|aa (ab 2) ag)<|aB<|p6 pS (ab 2)<|ab 3) (nF) bu)<|oQ
def vZ:p9:=av (aU (s9 bC<|aa (ab 0)<|aa (ab 1) ag) 3)<|oR
theorem yz:v8 gJ 4 vZ:=by rintro ds M R ⟨ps,c,log,e,rfl,p,b,l,S,h⟩;have f:=(bX.mp<|bo S).1;obtain⟨h1,h2⟩:=ay.en _ f;have d:=aP h2;have i:=b _ d.1;dsimp only at i d;clear h1 h2 f;obtain⟨t,z,k,m,r,u,s,rfl,g,j,_⟩:=cT i d.2;simp only[vZ,t7]at S ⊢;walk_at"dl";refine⟨ps,c,log,rfl,b,l,λn B H a=>?_⟩;simp only[oR];walk_at"dl";refine⟨ps,c,t,z,k,rfl,?_⟩;obtain⟨K,D⟩:=Au p j;rw[show (decide (1<=t)&&dw ps (.tup [.str z,.int k]))=a9 from by rw[dT_ g,show dw ps (.tup [.str z,.int k])=a9 from by simp[dw,K,D]];rfl];refine cP ⟨_,a,rfl,?_⟩;rw[S];refine cP ?_;simp only[oQ];walk_at"dl";exact⟨_,_,a,rfl,S,aO.keep h (bw 6 _ i.pl) H⟩
theorem sU(T:Tops P w K mg base):t9 P w K mg base 6 "say_at" pY gJ:=t9.byD (N:=["house","log","stamp","says"]) T.b T.f_say_at (by walk_at"sc") xU (by have:=uQ T;have:=fh T;walk_at"dv") yz
def ba:v6:=λds M R=>∃(ps:List (b8×Int)) (a:List (b8×List b8)) (log:List D) (e:b8),ds=[.tup log,.str e]/\(∀d∈log,aC ps a d)/\log.length<1000/\∀n B b,M <+: B->VbAt B n b (qW log e)->R (.ref n) B
theorem iL:cy ba cC:=by rintro ds M R ⟨ps,a,log,e,rfl,_⟩;rfl
def cZ:p9:=bg<|ab 2
def da:p9:=av (kW (bp<|s9 dD<|aa (ab 0)<|aa (dC<|.str "read")<|aa (ab 1) ag) (ak 3)<|kb<|KG cB (M9 wB (ab 2)<|aa (p6 u7 (p6 u7 (ab 3)<|dC<|.int 3)<|dC<|.int 1)<|aa (jB ag) ag)<|aa (p6 u7 (p6 u7 (ab 3)<|dC<|.int 3)<|dC<|.int 2) ag)<|cZ
def eE:p9:=av (aU (De) 2)<|da
theorem iX:v8 ba 4 eE:=by
 rintro ds M R ⟨ps,Y,log,name,rfl,b,Z,h⟩;simp only[eE,da];walk_at"dl";refine⟨ps,Y,log,r9 "read",name,rfl,b,by lia,?_⟩;have X:=nb (log:=log) (k:=r9 "read") (name:=name);have K:∀d∈jx log (r9 "read") name,∃(t:Int) (z:b8) (k n:Int) (r:b8) (hs:List (D×Int)),d=.tup [.int t,.tup [.str z,.int k],.int n,.tup [.str<|r9 "read",.str r,.tup<|pJ hs]]:=λd O=>by obtain⟨h1,h2,_⟩:=na O;obtain⟨t,z,k,n,r,hs,e,_⟩:=zj (b d h1) h2;exact⟨t,z,k,n,r,hs,e⟩
 have V:qW log name=λr=>((jx log (r9 "read") name).filter λd=>decide<|bq d=r).map eO:=rfl;rw[V]at h;generalize jx log (r9 "read") name=F at X K h;have l:(M++[MO.dct []]).length=M.length+1:=by simp
 have J:(M++[MO.dct []]++[MO.lst F])[M.length+1]?=a7 (.lst F):=by rw[<-l];exact ad
 rw[l];refine⟨F,.inl J,λ_=>?_⟩;refine aY (λi S f=>∃(c:List (b8×D)) (a:Option D),M <+: f/\f[M.length+1]?=a7 (.lst F)/\VbAt f M.length c (λr=>((F.take i).filter λd=>decide<|bq d=r).map eO)/\c.length<=i/\S=[a7<|.tup log,a7<|.str name,a7<|.ref M.length,a]) ?_ ?_ ⟨[],_,bc.trans bc,J,⟨ac ad,λk d z=>(by cases z),λk _=>rfl,λ_ _ _ z=>(by cases z)⟩,u5 _,rfl⟩;rintro S f ⟨c,a,pM,p,tr,_,rfl⟩;rw[K8]at tr;refine⟨.inl p,?_⟩;simp only[cZ];walk_at"dl";exact .inl<|h _ _ _ pM tr;rintro i y S f Q ⟨c,a,pM,p,tr,tl,rfl⟩ G x;have L:F.take (i+1)=F.take i++[y]:=by rw[Lm,Q];rfl
 rw[L]at x;have hi:=(w6.mp Q).1;obtain⟨t,z,k,n,r,hs,rfl⟩:=K y<|F8 Q;have E:∀k,(((F.take i).filter λd=>decide<|bq d=k).map eO).length<=i:=λk=>by rw[u4];refine G1 (G8 _ _) ?_;rw[J1];lia
 generalize q:(λI=>(((F.take i++[D.tup [.int t,.tup [.str z,.int k],.int n,.tup [.str<|r9 "read",.str r,.tup<|pJ hs]]]).filter λd=>decide<|bq d=I).map eO))=N at x;have v:∀I,N I=if r=I then(((F.take i).filter λd=>decide<|bq d=I).map eO)++[.tup<|pJ hs]else(((F.take i).filter λd=>decide<|bq d=I).map eO):=λI=>by rw[<-q];dsimp only;rw[MJ,G7,Mi,List.filter_nil];by_cases e:r=I;rw[n6 e,show decide (bq (.tup [.int t,.tup [.str z,.int k],.int n,.tup [.str<|r9 "read",.str r,.tup<|pJ hs]])=I)=a9 from dT_ e];rfl;rw[n9 e,show decide (bq (.tup [.int t,.tup [.str z,.int k],.int n,.tup [.str<|r9 "read",.str r,.tup<|pJ hs]])=I)=bt from dF_ e];exact K7 _
 clear q;refine⟨.inl p,?_⟩;walk_at"dl";have H:atI [D.int t,.tup [.str z,.int k],.int n,.tup [.str<|r9 "read",.str r,.tup<|pJ hs]] 3=a7 (.tup [.str<|r9 "read",.str r,.tup<|pJ hs]):=ap (j:=3) rfl;rw[H];dsimp only;rw[OS];dsimp only;show (∃kvs,f[M.length]?=a7 (MO.dct kvs))/\_;refine⟨⟨_,tr.at_⟩,?_⟩;walk_at"dl";rw[H];dsimp only;rw[LI];dsimp only;refine⟨w4 _,c,ac tr.at_,ar (by lia),λy Q=>?_,λP=>?_⟩;obtain⟨m,rfl,nm,C⟩:=tr.got r y Q;refine⟨⟨_,.inl<|ac C⟩,_,ac C,ar (by have:=E r;lia),A4.now<|x _ _ ⟨c,_,bY (pM.trans bc) (by lia),aR (by lia)<|ac p,⟨aR (by lia)<|ac tr.at_,λI d b=>?_,λI b=>?_,tr.one⟩,by lia,rfl⟩⟩;obtain⟨s,rfl,o,g⟩:=tr.got I d b;refine⟨s,rfl,o,?_⟩;rw[v];by_cases e:r=I;subst e;rw[Q]at b;obtain rfl:m=s:=by injection b with b;injection b
 rw[cc<|ac C,n6 rfl];rw[n9 e];exact aR (λz=>e<|tr.one _ _ _ (z ▸ Q) b)<|ac g;have e:r≠I:=λz=>by rw[<-z,Q]at b;cases b
 rw[v,n9 e];exact tr.no I b;have W:M.length+1<f.length:=br p;have A:((f++[MO.lst []]).set M.length<|.dct<|qP c r<|.ref f.length)[f.length]?=a7 (.lst []):=aR (by lia) ad;have B:∀I,ie (qP c r<|.ref f.length) I=if r=I then a7 (.ref f.length)else ie c I:=λI=>by by_cases e:r=I;rw[n6 e,<-e,yB];rw[n9 e,xr<|C3 e]
 refine⟨⟨_,.inl A⟩,_,A,ar (by rw[C0];lia),A4.now<|x _ _ ⟨qP c r<|.ref f.length,_,bY (bY (pM.trans bc)<|u5 _) (by lia),aR (by lia)<|aR (by lia)<|ac p,⟨aR (by lia)<|cc<|ac tr.at_,λI d b=>?_,λI b=>?_,λT U m h1 h2=>?_⟩,by have:=(BB (kvs:=c) (k:=r) (d:=.ref f.length)).1;lia,rfl⟩⟩;rw[B]at b;by_cases e:r=I;rw[n6 e]at b;subst e;exact⟨f.length,by injection b with b;exact b.symm,W,by rw[cc A,v,n6 rfl,tr.no _ P]⟩;rw[n9 e]at b;obtain⟨s,rfl,o,g⟩:=tr.got I d b;have:=br g;exact⟨s,rfl,o,by rw[v,n9 e];exact aR (by lia)<|aR (by lia)<|ac g⟩;rw[B]at b;by_cases e:r=I;rw[n6 e]at b;cases b;rw[n9 e]at b;rw[v,n9 e];exact tr.no I b;rw[B]at h1 h2;have u:∀I m,ie c I=a7 (.ref m)->m<f.length:=λI m h'=>by obtain⟨s,e,_,g⟩:=tr.got I _ h';injection e with e;rw[e];exact br g
 by_cases l:r=T<;>by_cases w:r=U;rw[<-l,<-w];rw[n6 l]at h1;rw[n9 w]at h2;have:=u _ _ h2;injection h1 with h1;injection h1 with h1;lia;rw[n9 l]at h1;rw[n6 w]at h2;have:=u _ _ h1;injection h2 with h2;injection h2 with h2;lia;rw[n9 l]at h1;rw[n9 w]at h2;exact tr.one _ _ _ h1 h2
theorem dH(T:Tops P w K mg base):t9 P w K mg base 3 "vectors_by_room" cC ba:=t9.byD (N:=["log","name","vectors","deed"]) T.b T.f_vectors_by_room (by walk_at"sc") iL (by have:=mW T;walk_at"dv") iX
def eL:v6:=λds M R=>∃(ps:List (b8×Int)) (a:List (b8×List b8)) (log:List D) (n:b8) (e:D) (v qs:Nat) (b:List (b8×D)),ds=[e,.str n,.ref v,.ref qs]/\(∀d∈log,aC ps a d)/\log.length<=1000/\aC ps a e/\cW e=r9 "say"/\VbAt M v b (qW log n)/\M[qs]?=a7 (.lst<|kN log (r9 "seen") n)/\(∀x∈kN log (r9 "seen") n,St x)/\R (.bl<|bT log n e) M
theorem vm:cy eL mM:=by rintro ds M R ⟨ps,a,log,n,e,v,qs,b,rfl,_⟩;rfl
theorem Ed(h:∀d∈log,aC ps rs d):∀v∈qW log name r,∃hs:List (D×Int),v=.tup (pJ hs)/\(∀p∈hs,Hd p.1)/\hs.length<=12:=λv c=>by obtain⟨d,m,rfl⟩:=ve.mp c;obtain⟨h1,h2,_⟩:=na (z9.mp m).1;obtain⟨t,z,k,n,r,hs,rfl,q,j⟩:=zj (h d h1) h2;exact⟨hs,rfl,q,j⟩
theorem Bm:(qW log name r).length<=log.length:=by unfold qW;rw[u4];exact G1 (G8 _ _) nb
def ma:p9:=bg<|s9 Hk<|aa (D1 1 [0] (bp<|M9 wC (ab 2)<|aa (s9 bv<|aa (ab 0) ag)<|aa (jB ag) ag) (ak 0) nL<|s9 dN<|aa (ab 1)<|aa (ab 0) ag) ag
def rP:p9:=av (A9 (L1 (aB<|p6 D0 (s9 bb<|aa (ab 0) ag)<|ab 1)<|aB<|p6 L0 (s9 bP<|aa (ab 0) ag)<|ab 3) (bg<|dC<|.bl a9) bu)<|ma
theorem xk:v8 eL 4 rP:=by
 rintro ds M R ⟨ps,G,log,name,e,A,qs,i,rfl,w,F,n,y,j,o,hs,h⟩;obtain⟨t,z,k,m,r,u,s,rfl,_⟩:=cT n y;have c:St (.tup [.int t,.tup [.str z,.int k]]):=⟨_,_,_,rfl⟩
 simp only[rP];walk_at"dl";refine⟨_,_,_,_,rfl,⟨aM,aM⟩,?_⟩;rw[cG];unfold bT at h;rw[show jU (.tup [.int t,.tup [.str z,.int k],.int m,.tup [.str<|r9 "say",.str r,u,.str s]])=z from rfl,show t7 (.tup [.int t,.tup [.str z,.int k],.int m,.tup [.str<|r9 "say",.str r,u,.str s]])=.tup [.int t,.tup [.str z,.int k]]from rfl,show bq (.tup [.int t,.tup [.str z,.int k],.int m,.tup [.str<|r9 "say",.str r,u,.str s]])=r from rfl]at h;by_cases b:z=name;rw[beq_iff_eq.mpr b];rw[dT_ b]at h;exact dI<|aO.now h;rw[beq_eq_false_iff_ne.mpr b];rw[dF_ b,Bool.false_or]at h;refine cP ⟨_,_,_,rfl,_,.inl o,⟨c.ok,mj hs⟩,?_⟩;rw[nB c hs];by_cases d:D.tup [.int t,.tup [.str z,.int k]]∈kN log (r9 "seen") name;rw[dT_ d];rw[dT_ d]at h;exact dI<|aO.now h;rw[dF_ d];rw[dF_ d,Bool.false_or]at h;refine cP ?_;simp only[ma];walk_at"dl";show (∃f,M[A]?=a7 (MO.dct f))/\_;refine⟨⟨_,j.at_⟩,?_⟩;walk_at"dl";refine⟨_,_,_,_,_,_,rfl,w4 _,i,ac j.at_,?_⟩;obtain⟨q,X,g⟩:=(j.pre<|bc (mo:=MO.lst [])).kids (k:=r) ad;rw[X];have pM:M <+: M++[MO.lst []]:=bc;generalize M++[MO.lst []]=B at g pM;have E:=Bm (log:=log) (name:=name) (r:=r);have W:=Ed (name:=name) (r:=r) w;generalize qW log name r=L at g h E W;refine⟨_,.inl g,λ_=>?_⟩;refine aZ (λv=>.bl<|fG (GB v) (.tup [.str z,.int k]) m) (λS=>∃a,S=[a,a7<|.tup [.int t,.tup [.str z,.int k],.int m,.tup [.str<|r9 "say",.str r,u,.str s]]]) (.inl g) _ _ _ (λv x S p=>?_) ⟨_,rfl⟩ (by rw[C0];exact ao<|by lia) ?_;obtain⟨a,rfl⟩:=p;obtain⟨hs,rfl,C,Q⟩:=W v x;refine⟨[a7<|.tup<|pJ hs,a7<|.tup [.int t,.tup [.str z,.int k],.int m,.tup [.str<|r9 "say",.str r,u,.str s]]],⟨_,rfl⟩,λY l=>?_⟩;rw[Bn]at l;walk_at"dl";exact⟨_,_,_,_,hs,rfl,⟨_,_,rfl⟩,C,by lia,l⟩;refine⟨L.map λv=>fG (GB v) (.tup [.str z,.int k]) m,?_,?_⟩;rw[E3,show bls (L.map λv=>fG (GB v) (.tup [.str z,.int k]) m)=L.map λv=>.bl (fG (GB v) (.tup [.str z,.int k]) m) by unfold bls;rw[E2];rfl];exact ae;rw[List.any_map];exact aO.bl h<|pM.trans bc
theorem ph(T:Tops P w K mg base):t9 P w K mg base 2 "is_read" mM eL:=t9.byD (N:=["say","name","vectors","seen"]) T.b T.f_is_read (by walk_at"sc") vm (by have:=fg T;have:=cO T;have:=sV T;have:=eH T;walk_at"dv") xk
def cI:v6:=λds M R=>∃(ps:List (b8×Int)) (a:List (b8×List b8)) (log:List D) (n:b8) (e:D),ds=[ax ps a,.tup log,.str n,t7 e]/\(ps.map (·.1)).Nodup/\(∀d∈log,aC ps a d)/\log.length<64/\aQ (af a log) (t7 e)=a7 e/\R (.bl<|bT log n e) M
theorem tN:cy cI jQ:=by rintro ds M R ⟨ps,a,log,e,s,rfl,_⟩;rfl
def kw:p9:=bg<|s9 eL<|aa (ab 4)<|aa (ab 2)<|aa (s9 ba<|aa (ab 1)<|aa (ab 2) ag)<|aa (s9 bI<|aa (ab 1)<|aa (dC<|.str "seen")<|aa (ab 2) ag) ag
def oV:p9:=av (aU (s9 gJ<|aa (ab 0)<|aa (ab 1)<|aa (ab 3) ag) 4)<|kw
theorem uB:v8 cI 5 oV:=by rintro ds M R ⟨ps,s,log,a,e,rfl,p,d,g,S,h⟩;have f:=(bX.mp<|bo S).1;obtain⟨h1,h2⟩:=ay.en _ f;have m:=aP h2;have i:=d _ m.1;simp only[oV];walk_at"dl";refine⟨ps,s,log,e,rfl,p,d,g,S,?_⟩;simp only[kw];walk_at"dl";refine⟨ps,s,log,a,rfl,d,by lia,λn B b H j=>?_⟩;refine⟨ps,s,log,_,a,rfl,d,by lia,.inl rfl,λc=>?_⟩;refine⟨ps,s,log,a,e,n,_,b,rfl,d,by lia,i,m.2,j.pre bc,ad,c,?_⟩;exact aO.bl h<|H.trans bc
theorem mV(T:Tops P w K mg base):t9 P w K mg base 7 "has_read" jQ cI:=t9.byD (N:=["house","log","name","stamp","say"]) T.b T.f_has_read (by walk_at"sc") tN (by have:=iy T;have:=sU T;have:=dH T;have:=ph T;walk_at"dv") uB
def cq:v6:=λds M R=>∃(ps:List (b8×Int)) (a:List (b8×List b8)) (log:List D) (e:D),ds=[ax ps a,.tup log,t7 e]/\HouseF ps a/\(∀d∈log,aC ps a d)/\log.length<64/\aQ (af a log) (t7 e)=a7 e/\R (.ref M.length) (M++[.lst<|((jG a<|bq e).filter λn=>bT log n e).map .str])
theorem nX:cy cq gh:=by rintro ds M R ⟨ps,a,log,s,rfl,_⟩;rfl
theorem zL(f:HouseF ps rs):(jG rs r).length<=4:=by
 unfold jG;cases S:rs.find? λp=>decide (p.1=r) with
 |none=>exact w4 _
 |some p=>exact f.rm p<|Pg S
noncomputable def Pk:D->b8
 |.str s=>s
 |_=>r9 ""
def io:p9:=bg<|D1 1 [0,1,2] (bp<|s9 bD<|aa (ab 0)<|aa (ab 3) ag) (ak 0) (aB<|s9 cI<|aa (ab 1)<|aa (ab 2)<|aa (ab 0)<|aa (ab 3) ag)<|ab 0
def kj:p9:=av (aU (s9 bv<|aa (s9 gJ<|aa (ab 0)<|aa (ab 1)<|aa (ab 2) ag) ag) 3)<|io
theorem pF:v8 cq 4 kj:=by
 rintro ds M R ⟨ps,b,log,e,rfl,g,f,p,i,h⟩;have l:=(bX.mp<|bo i).1;obtain⟨h1,h2⟩:=ay.en _ l;have m:=aP h2;have o:=f _ m.1;clear h1 h2 l;dsimp only at m o;simp only[kj];walk_at"dl";refine⟨ps,b,log,e,rfl,g.pnd,f,p,i,?_⟩;obtain⟨t,z,k,y,r,u,s,j,_,_,v,_⟩:=cT o m.2;have q:bq e=r:=by rw[j];rfl
 refine⟨_,_,_,_,_,_,o8 (λx=>[x]) j,?_⟩;simp only[io];walk_at"dl";refine⟨ps,b,r,rfl,v,λ_=>?_⟩;have w:=zL (r:=r) g;rw[q]at h;refine aG (λd=>bT log (Pk d) e) id (λS=>∃a,S=[a,a7<|ax ps b,a7<|.tup log,a7<|t7 e]) trivial _ _ _ ?_ ⟨_,rfl⟩ (by rw[C0,u4];exact ao<|by lia) ?_;rintro d m S ⟨a,rfl⟩;obtain⟨n,A,rfl⟩:=ve.mp m;refine⟨[a7<|.str n,a7<|ax ps b,a7<|.tup log,a7<|t7 e],⟨_,rfl⟩,λY Z c=>?_⟩;walk_at"dl";exact⟨ps,b,log,n,e,rfl,g.pnd,f,p,i,c⟩;rw[E3,K5,N6];rw[show ((λd=>bT log (Pk d) e) ∘ D.str)=λn=>bT log n e from rfl];exact aO.lst h (u5 _) ad<|wy _
theorem qa(T:Tops P w K mg base):t9 P w K mg base 8 "readers_of" gh cq:=t9.byD (N:=["house","log","stamp","room"]) T.b T.f_readers_of (by walk_at"sc") nX (by have:=fi T;have:=eH T;have:=sU T;have:=mV T;walk_at"dv") pF
def bz:v6:=λds M R=>∃(ps:List (b8×Int)) (a:List (b8×List b8)) (log:List D) (e:b8),ds=[ax ps a,.tup log,.str e]/\(∀d∈log,aC ps a d)/\log.length<64/\R (.ref M.length) (M++[.lst<|(dR a log e).map<|mZ<|aH (af a log) log])
theorem iM:cy bz cD:=by rintro ds M R ⟨ps,a,log,e,rfl,_⟩;rfl
def db:p9:=bg<|D1 1 [6,2,3,4] (pA<|ab 5) (ak 0) (Gp<|aB<|s9 eL<|aa (ab 0)<|aa (ab 2)<|aa (ab 3)<|aa (ab 4) ag)<|s9 cu<|aa (ab 0)<|aa (ab 1) ag
def dc:p9:=av (aU (s9 bA<|aa (ab 1)<|aa (ab 5) ag) 6)<|db
def dg:p9:=av (aU (s9 bC<|aa (ab 0)<|aa (ab 1) ag) 5)<|dc
def dh:p9:=av (aU (s9 bI<|aa (ab 1)<|aa (dC<|.str "seen")<|aa (ab 2) ag) 4)<|dg
def eF:p9:=av (aU (s9 ba<|aa (ab 1)<|aa (ab 2) ag) 3)<|dh
theorem iY:v8 bz 7 eF:=by
 rintro ds M R ⟨ps,rs,log,b,rfl,g,D,h⟩;simp only[eF];walk_at"dl";refine⟨ps,rs,log,b,rfl,g,by lia,λn B u H G=>?_⟩;simp only[dh];walk_at"dl";refine⟨ps,rs,log,_,b,rfl,g,by lia,.inl rfl,λhs=>?_⟩;have v:=G.pre<|bc (mo:=MO.lst<|kN log (r9 "seen") b);have o:(B++[MO.lst<|kN log (r9 "seen") b])[B.length]?=a7 (.lst<|kN log (r9 "seen") b):=ad;have C:=H.trans<|bc (mo:=MO.lst<|kN log (r9 "seen") b);generalize B++[MO.lst<|kN log (r9 "seen") b]=I at v o C;generalize B.length=qs at o;simp only[dg];walk_at"dl";refine⟨ps,rs,log,rfl,g,D,λE J i z=>?_⟩;have s:=bi (rs:=rs) g;have O:(af rs log).length<=1000:=by have h1:=(ay (rs:=rs) (log:=log)).len;have h2:=bj (log:=log) (k:=r9 "say");have N:(af rs log).length<=(ah rs log).length:=G8 _ _;lia
 simp only[dc];walk_at"dl";refine⟨ps,rs,log,E,af rs log,rfl,g,by lia,z,λp j=>(s p j).2.1.nm,λt K f g3=>?_⟩;have w:=v.pre<|i.trans f;have m:=bn (i.trans f) o;have l:=bn f z;have F:=C.trans<|i.trans f;simp only[db];walk_at"dl";refine⟨_,l,λ_=>?_⟩;refine aG (λe=>!bT log b e) (mZ<|aH (af rs log) log) (λS=>∃a,S=[a,a7<|.ref t,a7<|.str b,a7<|.ref n,a7<|.ref qs]) l _ _ _ ?_ ⟨_,rfl⟩ (by rw[C0,u4];exact ao<|by lia) ?_;rintro e r S ⟨a,rfl⟩;refine⟨[a7 e,a7<|.ref t,a7<|.str b,a7<|.ref n,a7<|.ref qs],⟨_,rfl⟩,λY Z c=>?_⟩;obtain⟨p,j,rfl⟩:=ve.mp r;obtain⟨_,x,y⟩:=s p j;walk_at"dl";refine⟨ps,rs,log,b,p.2,n,qs,u,rfl,g,by lia,x,y,w,m,hs,?_⟩;cases A:bT log b p.2 with
 |true=>rw[A]at c;exact c
 |false=>rw[A]at c;exact⟨ps,rs,p.2,t,_,rfl,x,y,g3,c⟩
 rw[E3];obtain⟨L,rfl⟩:=F;rw[F3];have U:((af rs log).map (·.2)).filter (λe=>!bT log b e)=dR rs log b:=rfl;rw[U];refine aO.lst h (by simp) (by simp)<|Bels.of λd q=>?_;obtain⟨e,r,rfl⟩:=ve.mp q;obtain⟨p,j,rfl⟩:=ve.mp (z9.mp r).1;exact qj (iW g) (s p j).2.1 (s p j).2.2
theorem jv(T:Tops P w K mg base):t9 P w K mg base 6 "unread_messages" cD bz:=t9.byD (N:=["house","log","name","vectors","seen","says","changes"]) T.b T.f_unread_messages (by walk_at"sc") iM (by have:=iy T;have:=gl T;have:=jw T;have:=fh T;have:=dH T;have:=ph T;walk_at"dv") iY
def bB:v6:=λds M R=>∃(ps:List (b8×Int)) (a:List (b8×List b8)) (q:Nat) (r:b8) (s:List (D×D)),ds=[.ref q,.str r]/\M[q]?=a7 (.dkt s)/\(∀p∈s,aC ps a p.2/\cW p.2=r9 "say")/\s.length<=1000/\∀n B b,M <+: B->TreeAt B n b (az r (s.map (·.2)))->R (.ref n) B
theorem jz:cy bB cQ:=by rintro ds M R ⟨ps,a,q,r,s,rfl,_⟩;rfl
def dF:p9:=bg<|ab 2
def dG:p9:=av (kW (pA<|ab 0) (ak 3)<|A9 (aB<|p6 D0 (s9 bv<|aa (ab 3) ag)<|ab 1) (kb<|KG cB (L4 sP (ab 2)<|aa (s9 cH<|aa (ab 3) ag)<|aa (jB ag) ag)<|aa (s9 bP<|aa (ab 3) ag) ag) bu)<|dF
def fH:p9:=av (aU (Dd) 2)<|dG
theorem jH:v8 bB 4 fH:=by
 rintro ds M R ⟨ps,rs,q,r,j,rfl,H,Z,kl,h⟩;simp only[fH,dG];walk_at"dl";refine⟨j,ac H,λ_=>?_⟩;have ai:=br H;refine aY (λi S f=>∃(c:List (D×D)) (a:Option D),M <+: f/\TreeAt f M.length c (az r ((j.map (·.2)).take i))/\c.length<=i/\S=[a7<|.ref q,a7<|.str r,a7<|.ref M.length,a]) ?_ ?_ ⟨[],_,bc,⟨ad,λk d z=>(by cases z),λk _=>rfl,λ_ _ _ z=>(by cases z)⟩,u5 _,rfl⟩;rintro S f ⟨c,a,pM,tr,_,rfl⟩;rw[K8]at tr;refine⟨bn pM H,?_⟩;simp only[dF];walk_at"dl";exact .inl<|h _ _ _ pM tr;rintro i e S f F ⟨c,a,pM,tr,tl,rfl⟩ G n;have U:(j.map (·.2)).take (i+1)=(j.map (·.2)).take i++[e]:=by rw[Lm,F];rfl
 rw[U]at n;have hi:=(w6.mp F).1;rw[u4]at hi;have hm:=F8 F;obtain⟨p,hp,rfl⟩:=ve.mp hm;obtain⟨T,W⟩:=Z p hp;generalize p.2=e at F U n T W;refine⟨bn pM H,?_⟩;walk_at"dl";have E:∀k,(az r ((j.map (·.2)).take i) k).length<=i:=λk=>by unfold az;rw[u4];refine G1 (G8 _ _) ?_;rw[J1];lia
 generalize (j.map (·.2)).take i=es at tr n E;obtain⟨t,z,k,x,r',u,s,rfl,_,_,_,hu⟩:=cT T W;have L:∀I,az r (es++[.tup [.int t,.tup [.str z,.int k],.int x,.tup [.str<|r9 "say",.str r',u,.str s]]]) I=if r'=r/\u=I then az r es I++[.tup [.int t,.tup [.str z,.int k]]]else az r es I:=λI=>Ac
 generalize es++[.tup [.int t,.tup [.str z,.int k],.int x,.tup [.str<|r9 "say",.str r',u,.str s]]]=l at L n;have ku:xW u=a9:=by
  rcases hu with rfl|⟨t',z',I,rfl⟩
  rfl;rfl
 refine⟨_,_,_,_,_,_,rfl,⟨aM,aM⟩,?_⟩;rw[cG];by_cases J:r'=r;rw[beq_iff_eq.mpr J];have Y:az r l u=az r es u++[.tup [.int t,.tup [.str z,.int k]]]:=by rw[L,n6 ⟨J,rfl⟩]
 have K:∀I,I≠u->az r l I=az r es I:=λI ne=>by rw[L,n9 λw=>ne w.2.symm]
 refine dI ⟨⟨_,tr.at_⟩,_,_,_,_,_,_,_,rfl,w4 _,c,ac tr.at_,ku,ar (by lia),λy Q=>?_,λV=>?_⟩;obtain⟨m,rfl,nm,O⟩:=tr.got u y Q;refine⟨⟨_,.inl<|ac O⟩,_,_,_,rfl,_,ac O,ar (by have:=E u;lia),A4.now<|n _ _ ⟨c,_,bY (pM.trans bc)<|Lv nm,⟨aR (by lia)<|ac tr.at_,λI d b=>?_,λI b=>?_,tr.one⟩,by lia,rfl⟩⟩;obtain⟨v,rfl,o,g⟩:=tr.got I d b;refine⟨v,rfl,o,?_⟩;by_cases e:I=u;subst e;rw[Q]at b;obtain rfl:m=v:=by injection b with b;injection b
 rw[cc<|ac O,Y];rw[K I e];exact aR (λz=>e<|tr.one _ _ _ (z ▸ b) Q)<|ac g;have e:I≠u:=λz=>by rw[z,Q]at b;cases b
 rw[K I e];exact tr.no I b;have lM:M.length<f.length:=br tr.at_;have N:((f++[MO.lst []]).set M.length<|.dkm<|c++[(u,.ref f.length)])[f.length]?=a7 (.lst []):=aR (by lia) ad;have P:∀I,aQ (c++[(u,.ref f.length)]) I=if I=u then a7 (.ref f.length)else aQ c I:=λI=>by rw[<-sQ V];by_cases e:I=u;rw[n6 e,e,dJ];rw[n9 e,dz e]
 refine⟨⟨_,.inl N⟩,_,_,_,rfl,_,N,ar (by rw[C0];lia),A4.now<|n _ _ ⟨c++[(u,.ref f.length)],_,bY (bY (pM.trans bc)<|u5 _) (by lia),⟨aR (by lia)<|cc<|ac tr.at_,λI d b=>?_,λI b=>?_,λk1 k2 m h1 h2=>?_⟩,by rw[x5,F5];lia,rfl⟩⟩;rw[P]at b;by_cases e:I=u;rw[n6 e]at b;subst e;exact⟨f.length,by injection b with b;exact b.symm,lM,by rw[cc N,Y,tr.no _ V]⟩;rw[n9 e]at b;obtain⟨v,rfl,o,g⟩:=tr.got I d b;have:=br g;exact⟨v,rfl,o,by rw[K I e];exact aR (by lia)<|aR (by lia)<|ac g⟩;rw[P]at b;by_cases e:I=u;rw[n6 e]at b;cases b;rw[n9 e]at b;rw[K I e];exact tr.no I b;rw[P]at h1 h2;have A:∀I m,aQ c I=a7 (.ref m)->m<f.length:=λI m h'=>by obtain⟨v,e,_,g⟩:=tr.got I _ h';injection e with e;rw[e];exact br g
 by_cases B:k1=u<;>by_cases C:k2=u;rw[B,C];rw[n6 B]at h1;rw[n9 C]at h2;have:=A _ _ h2;injection h1 with h1;injection h1 with h1;lia;rw[n9 B]at h1;rw[n6 C]at h2;have:=A _ _ h1;injection h2 with h2;injection h2 with h2;lia;rw[n9 B]at h1;rw[n9 C]at h2;exact tr.one _ _ _ h1 h2;rw[beq_eq_false_iff_ne.mpr J];have X:∀I,az r l I=az r es I:=λI=>by rw[L,n9 λw=>J w.1]
 exact cP<|A4.now<|n _ _ ⟨c,_,pM,⟨tr.at_,λI d b=>by rw[X];exact tr.got I d b,λI b=>by rw[X];exact tr.no I b,tr.one⟩,by lia,rfl⟩
theorem jS(T:Tops P w K mg base):t9 P w K mg base 2 "stamps_beneath" cQ bB:=t9.byD (N:=["says","room","beneath","say"]) T.b T.f_stamps_beneath (by walk_at"sc") jz (by have:=fg T;have:=eH T;have:=iJ T;walk_at"dv") jH
def cv:v6:=λds M R=>∃(n:Int) (q:Nat) (xs:List D),ds=[.int n,.ref q]/\al M q xs/\(∀x∈xs,St x)/\R (.ref M.length) (M++[.lst<|bF n xs])
theorem og:cy cv gk:=by rintro ds M R ⟨n,q,xs,rfl,_⟩;rfl
def kt:p9:=bg<|D1 1 [0] (Db<|aa (ab 1) ag) (ak 0) nL<|ig<|aa (ab 1)<|aa (ab 0) ag
theorem pI:v8 cv 2 kt:=by rintro ds M R ⟨n,q,xs,rfl,L,hs,h⟩;simp only[kt];walk_at"dl";refine⟨xs,L,λg=>?_⟩;refine aZ (λx=>.tup [.int n,x]) (λS=>∃a,S=[a,a7<|.int n]) L _ _ _ (λx c S b=>?_) ⟨_,rfl⟩ (by rw[C0,ACs];lia)<|.inl h;obtain⟨a,rfl⟩:=b;refine⟨[a7 x,a7<|.int n],⟨_,rfl⟩,λY D=>?_⟩;walk_at"dl";exact⟨ao (by lia),D⟩
theorem qc(T:Tops P w K mg base):t9 P w K mg base 1 "last_first" gk cv:=t9.byD (N:=["depth","stamps"]) T.b T.f_last_first (by walk_at"sc") og (by walk_at"dv") pI
def ck:v6:=λds M R=>∃(n:Nat) (b:List (D×D)) (es:List D) (r:b8),ds=[.ref n]/\TreeAt M n b (az r es)/\(∀e∈es,St (t7 e)/\(eO e=.non\/St (eO e)))/\(es.map t7).Nodup/\es.length<=100/\∀out,RunW (az r es) [] (bF 0<|az r es .non) out->(∀x∈out,∃k s,x=.tup [.int k,s]/\St s)->out.length<=es.length->R (.ref M.length) (M++[.lst out])
theorem kP:cy ck dY:=by rintro ds M R ⟨n,b,es,r,rfl,_⟩;rfl
theorem xz(h:a<=1000):a<=sizeLine:=ao<|by lia
theorem iteT'{b:Bool}{A B:Prop}(e:b=a9)(h:A):if b=a9 then A else B:=by rw[n6 e];exact h
def fI:p9:=bg<|ab 1
def fJ:p9:=kb<|KG mC (ab 2)<|aa (s9 cv<|aa (p6 aK (p6 u7 (ab 3)<|dC<|.int 0)<|dC<|.int 1)<|aa (L4 pc (ab 0)<|aa (p6 u7 (ab 3)<|dC<|.int 1)<|aa (jB ag) ag) ag) ag
def fK:p9:=av (kb<|KG cB (ab 1)<|aa (ab 3) ag)<|fJ
def fL:p9:=av (wT (aB<|p6 Lq (s9 kZ<|aa (ab 2) ag)<|dC<|.int 0)<|av (aU (dMl0 Hh<|ab 2) 3)<|fK)<|fI
def fM:p9:=av (aU (s9 cv<|aa (dC<|.int 0)<|aa (L4 pc (ab 0)<|aa (dC .non)<|aa (jB ag) ag) ag) 2)<|fL
def il:p9:=av (aU (jB ag) 1)<|fM
theorem lD:v8 ck 4 il:=by
 rintro ds M R ⟨n,O,es,r,rfl,tr,hs,X,el,h⟩;have A:M <+: M++[MO.lst []]++[MO.lst []]:=bc.trans bc;have g0:(M++[MO.lst []]++[MO.lst []])[(M++[MO.lst []]).length]?=a7 (.lst []):=ad;have E:(M++[MO.lst []]++[MO.lst []])[M.length]?=a7 (.lst []):=ac ad;have V:∀k,∀x∈az r es k,St x:=λk x K=>by obtain⟨e,u,rfl,_⟩:=gU.mp K;exact(hs e u).1
 simp only[il,fM];walk_at"dl";refine⟨w4 _,⟨_,ac tr.at_⟩,w4 _,_,ac<|ac tr.at_,rfl,?_⟩;obtain⟨q,eq,gq⟩:=(tr.pre A).kids (k:=.non) g0;rw[eq];refine⟨0,q,_,rfl,.inl gq,V _,?_⟩;have W:M.length<(M++[MO.lst []]++[MO.lst []]).length:=by simp
 have J:(M++[MO.lst []]++[MO.lst []]++[MO.lst<|bF 0<|az r es .non])[(M++[MO.lst []]++[MO.lst []]).length]?=a7 (.lst<|bF 0<|az r es .non):=ad;replace E:=ac (a:=MO.lst<|bF 0<|az r es .non) E;replace A:=A.trans<|bc (mo:=MO.lst<|bF 0<|az r es .non);generalize M++[MO.lst []]++[MO.lst []]++[MO.lst<|bF 0<|az r es .non]=B at J E A;generalize (M++[MO.lst []]++[MO.lst []]).length=N at J W;have eS:∀e∈es,t7 e≠.non:=λe u z=>by obtain⟨t,z',k,Q⟩:=(hs e u).1;rw[z]at Q;cases Q
 simp only[fL];walk_at"dl";refine⟨λm S j=>∃(b o:List D) (a:Option D),M <+: j/\j[M.length]?=a7 (.lst b)/\j[N]?=a7 (.lst o)/\TreeW r es b o/\(∀out,RunW (az r es) b o out->RunW (az r es) [] (bF 0<|az r es .non) out)/\m+b.length=es.length/\S=[a7<|.ref n,a7<|.ref M.length,a7<|.ref N,a],⟨es.length,[],_,_,A,E,J,.start X,λ_ z=>z,rfl,rfl⟩,?_⟩;rintro m S j ⟨b,o,a,pM,U,F,w,T,hm,rfl⟩;have wl:=w.len;walk_at"dl";refine⟨_,.inl F,?_⟩;have l:∀x∈b,∃k s,x=D.tup [.int k,s]/\St s:=λx K=>by obtain⟨k,e,q1,q2,_⟩:=w.ok x<|J4 _ K;exact⟨k,_,q1,(hs e q2).1⟩
 rcases List.eq_nil_or_concat o with rfl|⟨c,x,rfl⟩
 refine cP ?_;simp only[fI];walk_at"dl";refine aO.chgL .refl (h b (T _ .done) l<|by lia) (u5 _) U pM<|Bels.of λd hd=>?_;obtain⟨k,s,rfl,q⟩:=l d hd;exact .tup<|.cons (.int _)<|.cons (bw 2 _ q.pl) .nil;rw[List.concat_eq_append]at *;have wo:=w.ok x (by simp);obtain⟨k,e,rfl,u,_⟩:=wo;have Y:=w.step X eS;have P:=Y.len;have H:∀out,RunW (az r es) (b++[.tup [.int k,t7 e]]) (c++bF (k+1) (az r es<|t7 e)) out->RunW (az r es) [] (bF 0<|az r es .non) out:=λout z=>T out (by have:=RunW.step z;simpa using this);have ks:=Co (r:=r) (es:=es) (k:=t7 e);have ke:xW (t7 e)=a9:=by obtain⟨t,z,k,q⟩:=(hs e u).1;rw[q];rfl
 have L:=V<|t7 e;rw[x5,x5,F5]at P;generalize t7 e=s at *;rw[x5,F5]at wl;refine iteT' (dT_<|by rw[x5,F5];lia) ⟨⟨_,.inl F⟩,c,_,F,?_⟩;have C:=bY (x:=MO.lst c) pM<|Lv W;have g:=aR (x:=MO.lst c) (x6 W) U;have y:=cc (a:=MO.lst c) F;generalize j.set N (MO.lst c)=Z at C g y;simp only[fK];walk_at"dl";refine⟨⟨_,.inl g⟩,_,g,ar (by lia),?_⟩;have p:=bY (x:=MO.lst<|b++[.tup [.int k,s]]) C<|u5 _;have v:=cc (a:=MO.lst<|b++[.tup [.int k,s]]) g;have f:=aR (x:=MO.lst<|b++[.tup [.int k,s]]) (C3<|x6 W) y;generalize Z.set M.length (MO.lst<|b++[.tup [.int k,s]])=M2 at p v f;simp only[fJ];walk_at"dl";have i:=tr.pre p;refine⟨⟨_,.inl f⟩,⟨_,i.at_⟩,w4 _,O,ac i.at_,ke,?_⟩;obtain⟨q',G,I⟩:=(i.pre<|bc (mo:=MO.lst [])).kids (k:=s) (q0:=M2.length) ad;rw[G];refine⟨k+1,q',_,rfl,.inl I,L,?_⟩;have lq:=br f;refine⟨_,_,ac<|ac f,ad,by rw[x5];lia,xz (by unfold bF;rw[u4,ACs];lia),m-1,?_,b++[.tup [.int k,s]],_,_,bY ((p.trans bc).trans bc)<|Lv W,aR (x6 W)<|ac<|ac v,cc<|ac<|ac f,Y,H,?_,rfl⟩;lia;rw[x5,F5];lia
theorem mR(T:Tops P w K mg base):t9 P w K mg base 2 "rows_of_tree" dY ck:=t9.byD (N:=["beneath","rows","to_do","row"]) T.b T.f_rows_of_tree (by walk_at"sc") kP (by have:=qc T;walk_at"dv") lD
def hW:v6:=λds M R=>∃(ps:List (b8×Int)) (a:List (b8×List b8)) (log:List D) (r:b8),ds=[ax ps a,.tup log,.str r]/\r∈a.map (·.1)/\(∀d∈log,aC ps a d)/\log.length<64/\∀out,RunW (az r ((ah a log).map (·.2))) [] (bF 0 (az r ((ah a log).map (·.2)) .non)) out->(∀x∈out,∃k s,x=.tup [.int k,s]/\St s)->out.length<=log.length->R (.ref M.length) (M++[.lst<|out.filter λx=>@decide (¬bK (ah a log) log (dE x))<|A5 _])
theorem uY:cy hW mG:=by rintro ds M R ⟨ps,a,log,r,rfl,_⟩;rfl
def lJ:p9:=bg<|D1 1 [4] (bp<|s9 ck<|aa (s9 bB<|aa (ab 3)<|aa (ab 2) ag) ag) (ak 0) (aB<|p6 kE (p6 u7 (ab 0)<|dC<|.int 1)<|ab 1)<|ab 0
def lK:p9:=av (aU (s9 aF<|aa (ab 1)<|aa (ab 3) ag) 4)<|lJ
def lL:p9:=av (aU (s9 aL<|aa (ab 0)<|aa (ab 1) ag) 3)<|lK
def rj:p9:=av (A9 (Gp<|aB<|s9 ia<|aa (ab 0)<|aa (ab 2) ag) (nF) bu)<|lL
theorem xc:v8 hW 5 rj:=by
 rintro ds M R ⟨ps,rs,log,r,rfl,N,y,K,h⟩;simp only[rj];walk_at"dl";refine⟨ps,rs,r,rfl,N,cP ?_⟩;simp only[lL];walk_at"dl";refine⟨ps,rs,log,rfl,y,by lia,λn B H f=>?_⟩;have l:=ay (rs:=rs) (log:=log);have C:=jc y (λ_ q=>q) l;have kl:=bj (log:=log) (k:=r9 "say");have tl:=l.len;simp only[lK];walk_at"dl";refine⟨ps,rs,log,n,ah rs log,rfl,y,K,f,λp i=>(C p i).1.nm,λys j Q ai _=>?_⟩;have v:(B++[MO.lst ys])[B.length]?=a7 (.lst ys):=ad;replace f:=ac (a:=MO.lst ys) f;replace H:=H.trans<|bc (mo:=MO.lst ys);generalize B++[MO.lst ys]=B1 at v f H;generalize B.length=G at v;simp only[lJ];walk_at"dl";refine⟨ps,rs,n,r,ah rs log,rfl,f,C,by lia,λU o E F tr=>?_⟩;have I:∀e∈(ah rs log).map (·.2),St (t7 e)/\(eO e=.non\/St (eO e)):=λe J=>by obtain⟨p,i,rfl⟩:=ve.mp J;obtain⟨h1,h2⟩:=C p i;generalize p.2=e at h1 h2;obtain⟨t,z,k,W,r',u,s,rfl,_,_,_,O⟩:=cT h1 h2;exact⟨⟨t,z,k,rfl⟩,O⟩
 have V:(((ah rs log).map (·.2)).map t7).Nodup:=by
  have:((ah rs log).map (·.2)).map t7=(ah rs log).map (·.1):=by rw[E2];exact Mr λp i=>(l.en p i).1.symm
  rw[this];exact l.nd
 refine⟨U,E,_,r,rfl,tr,I,V,by rw[u4];lia,λout P D X=>?_⟩;rw[u4]at X;have g:=ac (a:=MO.lst out)<|bn F v;have c:=(H.trans F).trans<|bc (mo:=MO.lst out);have w:(o++[MO.lst out])[o.length]?=a7 (.lst out):=ad;generalize o++[MO.lst out]=B3 at g c w;refine⟨_,.inl w,λ_=>?_⟩;refine aG (λx=>@decide (¬bK (ah rs log) log (dE x))<|A5 _) id (λS=>∃a,S=[a,a7<|.ref G]) (.inl w) _ _ _ ?_ ⟨_,rfl⟩ (by rw[C0];exact ao<|by lia) ?_;rintro x T S ⟨a,rfl⟩;refine⟨[a7 x,a7<|.ref G],⟨_,rfl⟩,λY Z b=>?_⟩;obtain⟨k,s,rfl,hs⟩:=D x T;walk_at"dl";refine⟨_,.inl g,⟨hs.ok,mj j⟩,?_⟩;rw[nB hs j];by_cases m:s∈ys;rw[dT_ m];rw[show @decide (¬bK (ah rs log) log (dE<|.tup [.int k,s])) (A5 _)=bt from @decide_eq_false _ (A5 _) λz=>z<|(Q s).mp m]at b;exact b;rw[dF_ m];rw[show @decide (¬bK (ah rs log) log (dE<|.tup [.int k,s])) (A5 _)=a9 from @decide_eq_true _ (A5 _) λz=>m<|(Q s).mpr z]at b;exact b;rw[E3,K5];refine aO.chgL .refl (h out P D<|by lia) (by obtain⟨L,rfl⟩:=c;simp) ad (c.trans bc)<|Bels.of λd A=>?_;obtain⟨k,s,rfl,q⟩:=D d (z9.mp A).1;exact .tup<|.cons (.int _)<|.cons (bw 2 _ q.pl) .nil
theorem xE(T:Tops P w K mg base):t9 P w K mg base 5 "rows_of" mG hW:=t9.byD (N:=["house","log","room","says","backs"]) T.b T.f_rows_of (by walk_at"sc") uY (by have:=xI T;have:=bZ T;have:=bG T;have:=jS T;have:=mR T;walk_at"dv") xc
def cr:v6:=λds M R=>∃(ps:List (b8×Int)) (a:List (b8×List b8)) (log:List D) (e r:b8),ds=[ax ps a,.tup log,.str e,.str r]/\r∈a.map (·.1)/\e∈jG a r/\(∀d∈log,aC ps a d)/\log.length<64/\((lh a log e r).length<=log.length->RunW (az r ((ah a log).map (·.2))) [] (bF 0 (az r ((ah a log).map (·.2)) .non)) (GE a log r)->R (.ref M.length) (M++[.lst<|(lh a log e r).map<|mZ<|aH (af a log) log]))
theorem kQ:cy cr dZ:=by rintro ds M R ⟨ps,a,log,e,r,rfl,_⟩;rfl
theorem yC(h:∀d∈log,aC ps rs d):∀e∈dR rs log name,aC ps rs e/\cW e=r9 "say":=λe i=>by obtain⟨p,a,rfl⟩:=ve.mp (z9.mp i).1;exact(bi h p a).2
theorem Bq(h:∀d∈log,aC ps rs d):aQ (uu rs log name) s=(BX rs log name s).map (mZ<|aH (af rs log) log):=yc (λq a=>(bi h q a).1) pR
theorem Ef(h:∀d∈log,aC ps rs d):((uu rs log name).map (·.1)).Nodup:=by
 have e:(uu rs log name).map (·.1)=(dR rs log name).map t7:=by unfold uu;rw[E2];rfl
 have m:((af rs log).map (·.2)).map t7=(af rs log).map (·.1):=by rw[E2];exact Mr λp a=>(bi h p a).1.symm
 rw[e];refine(Os.map _).nodup ?_;rw[m];exact pR
theorem wI{rs:List (b8×List b8)}{log:List D}{name:b8}{f:D->D}{g:D->Option D}(hg:∀s,g s=(BX rs log name s).map f):∀out:List D,(((out.filter λx=>@decide (¬bK (ah rs log) log (dE x))<|A5 _).filter λx=>(g<|dE x).isSome).map λx=>(g<|dE x).getD .non)=(out.filterMap λx=>BX rs log name<|dE x).map f
 | []=>rfl
 |x::out=>by
  have ih:=wI hg out;rw[Mi,LX];cases hn:BX rs log name (dE x) with
  |none=>rw[<-ih];split;rw[Mi,hg,hn];rfl;rfl
  |some e =>
   have hb:=(bX.mp<|bo (zI hn).1).2;have hs:(g<|dE x).isSome=a9:=by rw[hg,hn];rfl
   rw[@decide_eq_true _ (A5 _) hb,n6 rfl,Mi,n6 hs,A3,ih,hg,hn];rfl
def fN:p9:=bg<|D1 2 [4] (bp<|s9 hW<|aa (ab 0)<|aa (ab 1)<|aa (ab 3) ag) (nD 2<|cf (ak 0)<|cf (ak 1) nE) (aB<|p6 Ev (ab 1)<|ab 2)<|iU (ab 2)<|ab 1
def fO:p9:=av (aU (s9 iC<|aa (D1 1 [] (bp<|s9 bz<|aa (ab 0)<|aa (ab 1)<|aa (ab 2) ag) (ak 0) nL<|ig<|aa (p6 u7 (ab 0)<|dC<|.int 0)<|aa (ab 0) ag) ag) 4)<|fN
def ip:p9:=av (A9 (aB<|p6 kE (ab 2)<|s9 bD<|aa (ab 0)<|aa (ab 3) ag) (nF) bu)<|fO
theorem lE:v8 cr 5 ip:=by
 rintro ds M R ⟨ps,rs,log,name,r,rfl,F,U,g,E,h⟩;simp only[ip];walk_at"dl";refine⟨ps,rs,r,rfl,F,⟨aM,pP⟩,?_⟩;rw[qz,dT_ U];refine cP ?_;simp only[fO];walk_at"dl";refine⟨ps,rs,log,name,rfl,g,E,_,ae,λ_=>?_⟩;have o:=yC (name:=name) g;have ul:(dR rs log name).length<=100:=by have h1:=(ay (rs:=rs) (log:=log)).len;have h2:=bj (log:=log) (k:=r9 "say");have h3:(af rs log).length<=(ah rs log).length:=G8 _ _;have P:(dR rs log name).length<=((af rs log).map (·.2)).length:=G8 _ _;rw[u4]at P;lia
 refine aZ (λm=>.tup [gv m,m]) (λS=>∃a,S=[a]) ae _ _ _ (λm T S Q=>?_) ⟨_,rfl⟩ (by rw[C0,u4];exact ao<|by lia) ?_;obtain⟨a,rfl⟩:=Q;obtain⟨e,i,rfl⟩:=ve.mp T;refine⟨[a7<|mZ (aH (af rs log) log) e],⟨_,rfl⟩,λY C=>?_⟩;obtain⟨t,z,k,w,r',u,s,rfl,_⟩:=cT (o e i).1 (o e i).2;unfold mZ at C ⊢;walk_at"dl";exact⟨ao (by decide),C⟩;rw[E3,E2];have O:(dR rs log name).map ((λm=>D.tup [gv m,m]) ∘ mZ (aH (af rs log) log))=(uu rs log name).map λp=>.tup [p.1,p.2]:=by unfold uu;rw[E2];refine Mr λe i=>?_;obtain⟨t,z,k,w,r',u,s,rfl,_⟩:=cT (o e i).1 (o e i).2;rfl
 rw[O];refine⟨_,ae,λp W=>?_,by unfold uu;rw[u4];lia,?_⟩;obtain⟨e,i,rfl⟩:=ve.mp W;have N:=(o e i).1.st;obtain⟨J,q⟩:=N.tup;exact⟨N.key,by show gu (t7 e)=a9;rw[q];rfl⟩;rw[tX _<|Ef g];have H:=(bc (M:=M) (mo:=MO.lst<|(dR rs log name).map<|mZ<|aH (af rs log) log)).trans<|bc (mo:=MO.lst<|(uu rs log name).map λp=>D.tup [p.1,p.2]);generalize M++[MO.lst<|(dR rs log name).map<|mZ<|aH (af rs log) log]++[MO.lst<|(uu rs log name).map λp=>D.tup [p.1,p.2]]=B at H;have j:(B++[MO.dkt<|uu rs log name])[B.length]?=a7 (.dkt<|uu rs log name):=ad;replace H:=H.trans<|bc (mo:=MO.dkt<|uu rs log name);generalize B++[MO.dkt<|uu rs log name]=I at j H;generalize B.length=K at j;simp only[fN];walk_at"dl";refine⟨ps,rs,log,r,rfl,F,g,E,λout G V ol=>?_⟩;have A:=G.out;have l:(I++[MO.lst<|out.filter λx=>@decide (¬bK (ah rs log) log (dE x))<|A5 _])[I.length]?=a7 (.lst<|out.filter λx=>@decide (¬bK (ah rs log) log (dE x))<|A5 _):=ad;replace j:=ac (a:=MO.lst<|out.filter λx=>@decide (¬bK (ah rs log) log (dE x))<|A5 _) j;replace H:=H.trans<|bc (mo:=MO.lst<|out.filter λx=>@decide (¬bK (ah rs log) log (dE x))<|A5 _);have fl:=G8 (λx=>@decide (¬bK (ah rs log) log (dE x))<|A5 _) out;have nr:=wI (rs:=rs) (log:=log) (name:=name) (f:=mZ<|aH (af rs log) log) (λs=>Bq (s:=s) g) out;generalize I++[MO.lst<|out.filter λx=>@decide (¬bK (ah rs log) log (dE x))<|A5 _]=B2 at l j H;generalize I.length=qo at l;refine⟨_,.inl l,λ_=>?_⟩;refine aG (λx=>(aQ (uu rs log name)<|dE x).isSome) (λx=>(aQ (uu rs log name)<|dE x).getD .non) (λS=>∃a b,S=[a,b,a7<|.ref K]) (.inl l) _ _ _ ?_ ⟨_,_,rfl⟩ (by rw[C0];exact ao<|by lia) ?_;rintro x X S ⟨a,b,rfl⟩;obtain⟨k,s,rfl,hs⟩:=V x (z9.mp X).1;refine⟨[a7<|.int k,a7 s,a7<|.ref K],⟨_,_,rfl⟩,λY Z c=>?_⟩;have v:=hs.key;obtain⟨J,e⟩:=hs.tup;have es:dE (.tup [.int k,s])=s:=rfl;rw[es]at c;rw[e]at c v ⊢;walk_at"dl";refine⟨trivial,_,j,v,?_⟩;cases n:aQ (uu rs log name) (.tup J) with
 |none=>rw[n]at c;exact c
 |some d=>rw[n]at c;exact⟨_,_,j,v,n,c⟩
 rw[E3,nr];have y:(out.filterMap λx=>BX rs log name<|dE x)=lh rs log name r:=by unfold lh;rw[<-A]
 rw[y];have nl:(lh rs log name r).length<=log.length:=by have:=List.length_filterMap_le (λx=>BX rs log name<|dE x) out;rw[y]at this;lia
 refine aO.chgL .refl (h nl<|A ▸ G) (by obtain⟨L,rfl⟩:=H;simp) ad (H.trans bc)<|Bels.of λd q=>?_;obtain⟨e,i,rfl⟩:=ve.mp q;obtain⟨s,_,h1,_⟩:=qh i;exact qj (iW g) (bi g _<|bo h1).2.1 (bi g _<|bo h1).2.2
theorem mS(T:Tops P w K mg base):t9 P w K mg base 7 "new_messages" dZ cr:=t9.byD (N:=["house","log","name","room","unread"]) T.b T.f_new_messages (by walk_at"sc") kQ (by have:=fi T;have:=jv T;have:=xE T;walk_at"dv") lE
def eK:v6:=λds M R=>∃(ps:List (b8×Int)) (a:List (b8×List b8)) (log:List D) (e r:b8),ds=[ax ps a,.tup log,.str e,.str r]/\r∈a.map (·.1)/\e∈jG a r/\(∀d∈log,aC ps a d)/\log.length<64/\((lh a log e r).length<=log.length->RunW (az r ((ah a log).map (·.2))) [] (bF 0 (az r ((ah a log).map (·.2)) .non)) (GE a log r)->(∀x∈(lh a log e r).map t7,St x)->R (.ref M.length) (M++[.lst<|(lh a log e r).map t7]))
theorem vc:cy eK mJ:=by rintro ds M R ⟨ps,a,log,e,r,rfl,_⟩;rfl
theorem mY(h:∀d∈log,aC ps rs d):∀e∈lh rs log name r,aC ps rs e/\cW e=r9 "say":=λe i=>by obtain⟨s,_,h1,_⟩:=qh i;exact(bi h _<|bo h1).2
def rB:p9:=bg<|D1 1 [] (bp<|s9 cr<|aa (ab 0)<|aa (ab 1)<|aa (ab 2)<|aa (ab 3) ag) (ak 0) nL<|p6 u7 (ab 0)<|dC<|.int 0
theorem xh:v8 eK 4 rB:=by
 rintro ds M R ⟨ps,c,log,n,r,rfl,v,p,b,j,h⟩;simp only[rB];walk_at"dl";refine⟨ps,c,log,n,r,rfl,v,p,b,j,λy run=>⟨_,ae,λ_=>?_⟩⟩;refine aZ gv (λS=>∃a,S=[a]) ae _ _ _ (λm o S g=>?_) ⟨_,rfl⟩ (by rw[C0,u4];exact ao<|by lia) ?_;obtain⟨a,rfl⟩:=g;obtain⟨e,i,rfl⟩:=ve.mp o;refine⟨[a7<|mZ (aH (af c log) log) e],⟨_,rfl⟩,λY D=>?_⟩;obtain⟨t,z,k,f,r',u,s,rfl,_⟩:=cT (mY b e i).1 (mY b e i).2;unfold mZ at D ⊢;walk_at"dl";exact D;have l:((lh c log n r).map<|mZ<|aH (af c log) log).map gv=(lh c log n r).map t7:=by rw[E2];refine Mr λe i=>?_;obtain⟨t,z,k,f,r',u,s,rfl,_⟩:=cT (mY b e i).1 (mY b e i).2;rfl
 have hs:∀x∈(lh c log n r).map t7,St x:=λx w=>by obtain⟨e,i,rfl⟩:=ve.mp w;exact(mY b e i).1.st
 rw[E3,l];exact aO.chgL .refl (h y run hs) (by simp) ad (bc.trans bc)<|Bels.of λd q=>bw 2 d (hs d q).pl
theorem xG(T:Tops P w K mg base):t9 P w K mg base 8 "new_for" mJ eK:=t9.byD (N:=["house","log","name","room"]) T.b T.f_new_for (by walk_at"sc") vc (by have:=mS T;walk_at"dv") xh
noncomputable def AN(ns:List Int)(k:Nat):Int:=ns.getD k 0
def cJ:v6:=λds M R=>∃(n:Nat) (ns:List Int) (k:Nat),ds=[.ref n,.int k]/\al M n (ns.map D.int)/\R (.int<|AN ns k) M
theorem vp:cy cJ mO:=by rintro ds M R ⟨n,ns,k,rfl,_⟩;rfl
def mh:p9:=bg<|dC<|.int 0
def sD:p9:=av (A9 (aB<|p6 KM (ab 1)<|s9 kZ<|aa (ab 0) ag) (bg<|p6 u7 (ab 0)<|ab 1) bu)<|mh
theorem xn:v8 cJ 2 sD:=by rintro ds M R ⟨n,ns,k,rfl,L,h⟩;simp only[sD,mh];walk_at"dl";refine⟨_,L,?_⟩;unfold AN at h;by_cases a:k<ns.length;rw[dT_<|by simpa using a];refine dI ⟨_,L,?_⟩;rw[ap (v:=.int ns[k])<|by rw[C8,v4 a];rfl];rw[Ke,v4 a]at h;exact aO.now h;rw[dF_<|by simpa using a];rw[Ke,Mt<|by lia]at h;exact cP<|aO.now h
theorem pj(T:Tops P w K mg base):t9 P w K mg base 1 "_law_cell_at" mO cJ:=t9.byD (N:=["_law_script","_law_k"]) T.b T.f_cell_at (by walk_at"sc") vp (by walk_at"dv") xn
def dL:v6:=λds M R=>∃(c k:Int),ds=[.int c,.int k]/\(0<=k/\k<=1000)/\∀i:Int,R (.int i) M
theorem zT:cy dL uL:=by rintro ds M R ⟨c,k,rfl,_⟩;rfl
def rM:p9:=bg<|p6 cx (p6 aK (p6 aK (p6 jL (ab 2)<|dC<|.int 69621)<|p6 jL (p6 jL (dC<|.int 7919)<|ab 1)<|ab 1)<|dC<|.int 5)<|dC<|.int 1999999973
def yG:p9:=av (aU (p6 cx (p6 jL (p6 aK (p6 aK (p6 cx (ab 0)<|dC<|.int 2147483629)<|p6 jL (dC<|.int 7919)<|ab 1)<|dC<|.int 11)<|dC<|.int 48271)<|dC<|.int 2147483587) 2)<|rM
theorem Bi:v8 dL 3 yG:=by rintro ds M R ⟨c,k,rfl,⟨K,D⟩,h⟩;simp only[yG,rM];walk_at"dl";exact⟨by decide,.inl ⟨by decide,by decide⟩,.inr ⟨by decide,by decide⟩,by decide,.inr ⟨by decide,by decide⟩,.inl ⟨by decide,by decide⟩,.inr ⟨by lia,by lia⟩,by decide,aO.now<|h _⟩
theorem wF(T:Tops P w K mg base):t9 P w K mg base 1 "_law_mixed" uL dL:=t9.byD (N:=["_law_cell","_law_k","_law_number"]) T.b T.f_mixed (by walk_at"sc") zT (by walk_at"dv") Bi
def kg:v6:=λds M R=>∃(c k:Int),ds=[.int c,.int k]/\(0<=k/\k<=900)/\∀i:Int,R (.int i) M
theorem Ck:cy kg zA:=by rintro ds M R ⟨c,k,rfl,_⟩;rfl
def wq:p9:=bg<|s9 dL<|aa (s9 dL<|aa (ab 0)<|aa (ab 1) ag)<|aa (p6 aK (ab 1)<|dC<|.int 9) ag
def Dq:p9:=av (A9 (aB<|p6 D0 (p6 cx (ab 0)<|dC<|.int 2)<|dC<|.int 0) (bg<|p6 aJ (ab 0)<|dC<|.int 2) bu)<|wq
theorem Ec:v8 kg 2 Dq:=by
 rintro ds M R ⟨c,k,rfl,⟨K,D⟩,h⟩;simp only[Dq,wq];walk_at"dl";refine⟨by decide,⟨aE,aE⟩,?_⟩;cases t4 M t8 (.int<|c % 2) (.int 0) with
 |true=>exact dI ⟨⟨by decide,by decide⟩,aO.now<|h _⟩
 |false=>exact cP ⟨c,k,rfl,⟨K,by lia⟩,λi=>⟨i,k+9,rfl,⟨by lia,by lia⟩,λj=>aO.now<|h j⟩⟩
theorem zF(T:Tops P w K mg base):t9 P w K mg base 2 "_law_free" zA kg:=t9.byD (N:=["_law_cell","_law_k"]) T.b T.f_free (by walk_at"sc") Ck (by have:=wF T;walk_at"dv") Ec
def hX:v6:=λds M R=>∃(n:Nat) (ns:List Int) (a m:Nat),ds=[.ref n,.int a,.int m]/\al M n (ns.map D.int)/\ns.length<=100/\a<=10/\m<=100/\∀xs:List Int,xs.length<=m->R (.ref M.length) (M++[.lst<|xs.map .int])
theorem va:cy hX mI:=by rintro ds M R ⟨n,ns,a,m,rfl,_⟩;rfl
theorem Cy{ns:List Int}{lo hi:Option Int}:∃l:List Int,cutD (ns.map D.int) lo hi=l.map D.int:=by unfold cutD;rw[<-List.map_drop,<-List.map_take];exact⟨_,rfl⟩
theorem Df{xs:List D}{s m:Nat}:(cutD xs (a7<|(s:Int)+1)<|a7<|(s:Int)+1+(m:Int)).length<=m:=by unfold cutD;rw[J1,show ((s:Int)+1)=((s+1:Nat):Int) by lia,show (((s+1:Nat):Int)+(m:Int))=((s+1+m:Nat):Int) by lia,HT.sIx_nat,HT.sIx_nat];lia
def kn:p9:=bg<|ab 4
def ko:p9:=kb<|KG cB (ab 4)<|aa (p6 aK (p6 jL (ab 9)<|dC<|.int 1000003)<|s9 dL<|aa (ab 9)<|aa (p6 aK (ab 7)<|dC<|.int 5) ag) ag
def fT:p9:=av (kW (cj<|aa (s9 kZ<|aa (ab 8) ag) ag) (ak 7)<|av (aU (s9 dL<|aa (s9 dL<|aa (p6 u7 (ab 8)<|ab 7)<|aa (ab 7) ag)<|aa (dC<|.int 3) ag) 9)<|ko)<|kn
def lO:p9:=av (A9 (aB<|p6 D0 (ab 8)<|jB ag) (iA 1 [3] (cj<|aa (p6 cx (p6 aJ (ab 3)<|dC<|.int 2)<|p6 aK (ab 2)<|dC<|.int 1) ag) (ak 0) nL (p6 aK (p6 aJ (ab 1)<|dC<|.int 2)<|p6 jL (dC<|.int 7)<|ab 0) 8) bu)<|fT
def lP:p9:=av (aU (Lr (ab 0) (oh<|p6 aK (ab 1)<|dC<|.int 1)<|oh<|p6 aK (p6 aK (ab 1)<|dC<|.int 1)<|ab 2) 8)<|lO
def lQ:p9:=bg<|ab 4
def lR:p9:=aU (p6 aJ (ab 5)<|p6 GD (dC<|.int 10)<|dC<|.int 24) 5
def lT:p9:=av (kW (cj<|aa (ab 6) ag) (ak 7)<|av (kb<|KG cB (ab 4)<|aa (p6 cx (ab 5)<|p6 GD (dC<|.int 10)<|dC<|.int 24) ag)<|lR)<|lQ
def lU:p9:=av (aU (p6 aJ (ab 5)<|p6 aK (ab 2)<|dC<|.int 1) 5)<|lT
def lV:p9:=av (aU (p6 cx (ab 5)<|p6 aK (ab 2)<|dC<|.int 1) 6)<|lU
def lW:p9:=av (A9 (aB<|p6 D0 (p6 cx (ab 3)<|dC<|.int 2)<|dC<|.int 0) (av (aU (p6 aJ (ab 3)<|dC<|.int 2) 5)<|lV) bu)<|lP
def lX:p9:=av (aU (jB ag) 4)<|lW
def rA:p9:=av (aU (s9 cJ<|aa (ab 0)<|aa (ab 1) ag) 3)<|lX
theorem pk{M L:tx}{R:DK}{cs:List Int}{c m:Nat}{r y1 j k l n s t:Option D}(g:al (M++MO.lst []::L) c (cs.map D.int))(p:c≠M.length)(u:cs.length<=m)(V:m<=100)(h:∀xs:List Int,xs.length<=m->R (.ref M.length) (M++[.lst<|xs.map .int])):fT (EE M R) [r,y1,j,k,a7<|.ref M.length,l,n,s,a7<|.ref c,t] (M++MO.lst []::L):=by
 simp only[fT];walk_at"dl";refine⟨_,g,⟨by lia,by rw[u4];lia⟩,?_⟩;refine aY (λi S f=>∃(xs:List Int) (a b:Option D),xs.length=i/\(∃d,f=M++MO.lst (xs.map .int)::d)/\al f c (cs.map D.int)/\S=[r,y1,j,k,a7<|.ref M.length,l,n,a,a7<|.ref c,b]) ?_ ?_ ⟨[],_,_,rfl,⟨L,rfl⟩,g,rfl⟩;rintro S f ⟨xs,a,b,x,⟨d,rfl⟩,O,rfl⟩;rw[bd,u4,Ki]at x;refine⟨trivial,?_⟩;simp only[kn];walk_at"dl";exact aO.lst (h xs<|by lia) (u5 _) cF<|wO xs;rintro i y S f Q ⟨xs,a,b,x,⟨d,rfl⟩,O,rfl⟩ G q;obtain⟨hi,rfl⟩:=cL.mp Q;rw[u4,Ki]at hi;refine⟨trivial,?_⟩;walk_at"dl";have e:atI (cs.map D.int) (0+(i:Int))=a7 (.int cs[i]):=by rw[Mb];exact ap<|by rw[C8,v4 hi];rfl
 refine⟨_,O,?_⟩;rw[e];refine⟨_,_,rfl,⟨by lia,by lia⟩,λv=>⟨v,3,rfl,⟨by decide,by decide⟩,λo=>?_⟩⟩;simp only[ko];walk_at"dl";refine⟨⟨_,.inl cF⟩,.inr ⟨by decide,by decide⟩,o,_,rfl,⟨by lia,by lia⟩,λw=>⟨xs.map .int,cF,by rw[u4];exact ar (by lia),A4.now<|q _ _ ⟨xs++[o*1000003+w],_,_,by simp[x],⟨d,?_⟩,zM p O,rfl⟩⟩⟩;rw[mv];simp
theorem xg:v8 hX 10 rA:=by
 rintro ds M R ⟨n,ns,a,m,rfl,L,H,E,V,h⟩;simp only[rA];walk_at"dl";refine⟨n,ns,a,rfl,L,?_⟩;generalize AN ns a=c;simp only[lX,lW];walk_at"dl";refine⟨w4 _,by decide,⟨aE,aE⟩,?_⟩;have F:(0:Int)<(m:Int)+1:=by lia
 cases t4 (M++[MO.lst []]) t8 (.int<|c % 2) (.int 0) with
 |true=>refine dI ?_;simp only[lV,lU];walk_at"dl";have B:=ca (a:=c / 2) F;have C:=cz (a:=c / 2) F;refine⟨⟨by decide,by decide⟩,F,⟨F,by lia⟩,?_⟩;simp only[lT];walk_at"dl";refine⟨⟨by lia,by lia⟩,?_⟩;refine aY (λi S g=>∃(xs:List Int) (r:Int) (b:Option D),xs.length=i/\g=M++MO.lst (xs.map .int)::[]/\S=[a7<|.ref n,a7<|.int a,a7<|.int m,a7<|.int c,a7<|.ref M.length,a7<|.int r,a7<|.int<|c / 2 % ((m:Int)+1),b,a8,a8]) ?_ ?_ ⟨[],_,_,rfl,rfl,rfl⟩;rintro S g ⟨xs,r,b,f,rfl,rfl⟩;rw[bd]at f;refine⟨trivial,?_⟩;simp only[lQ];walk_at"dl";exact aO.lst (h xs<|by lia) (u5 _) cF<|wO xs;rintro i y S g Q ⟨xs,r,b,f,rfl,rfl⟩ G u;obtain⟨hi,rfl⟩:=cL.mp Q;refine⟨trivial,?_⟩;simp only[lR];walk_at"dl";refine⟨⟨_,.inl cF⟩,⟨by decide,by decide,by decide⟩,by decide,xs.map .int,cF,by rw[u4];exact ar (by lia),⟨by decide,by decide,by decide⟩,⟨by decide,by decide⟩,A4.now<|u _ _ ⟨xs++[r % 10 ^ Int.toNat 24],_,_,by simp[f],?_,rfl⟩⟩;rw[mv];simp
 |false =>
  refine cP ?_;simp only[lP];walk_at"dl";obtain⟨cs,e⟩:=Cy (ns:=ns) (lo:=a7<|(a:Int)+1) (hi:=a7<|(a:Int)+1+(m:Int));have p:cs.length<=m:=by have:=Df (xs:=ns.map D.int) (s:=a) (m:=m);rw[e,u4]at this;exact this
  refine⟨_,L.more _,?_⟩;rw[e,F3];simp only[lO];walk_at"dl";have t:(M++[MO.lst []]).length=M.length+1:=by simp
  rw[t];have A:al (M++MO.lst []::[MO.lst<|cs.map D.int]) (M.length+1) (cs.map D.int):=.inl lz;obtain⟨o,l⟩:=qg A λx f=>by obtain⟨i,_,rfl⟩:=ve.mp f;exact aE
  refine⟨w4 _,o,?_⟩;rw[l];cases hs:(cs.map D.int).isEmpty with
  |true =>
   have B:=ca (a:=c / 2) F;have C:=cz (a:=c / 2) F;refine dI ⟨⟨by decide,by decide⟩,F,⟨by lia,by lia⟩,?_⟩;refine aZ (λd=>match d with|.int k=>.int (c / 2+7*k)|_=>.non) (λS=>∃b,S=[b,a7<|.int c]) trivial _ _ _ (λk z S v=>?_) ⟨_,rfl⟩ ?_ ?_;obtain⟨b,rfl⟩:=v;obtain⟨i,hi⟩:=K9 z;obtain⟨_,rfl⟩:=cL.mp hi;refine⟨[a7<|.int<|0+(i:Int),a7<|.int c],⟨_,rfl⟩,λY w=>?_⟩;walk_at"dl";exact⟨⟨by decide,by decide⟩,.inl ⟨by decide,by decide⟩,w⟩;rw[C0,bd];exact ao (by lia);obtain⟨ds,j,q⟩:∃ds:List Int,(gP 0 (c / 2 % ((m:Int)+1)).toNat).map (λd=>match d with|.int k=>D.int (c / 2+7*k)|_=>.non)=ds.map D.int/\ds.length<=m:=by refine⟨(B9 (c / 2 % ((m:Int)+1)).toNat).map λ(i:Nat)=>c / 2+7*(0+(i:Int)),?_,by rw[u4,LV];lia⟩;unfold gP;rw[E2,E2];rfl
   rw[E3,j,F3,F3];refine pk (cs:=ds) ?_ ?_ q V h;exact .inl (by simp);simp
  |false=>refine cP ?_;rw[F3];exact pk (.inl lz) (by lia) p V h
theorem xF(T:Tops P w K mg base):t9 P w K mg base 2 "_law_numbers" mI hX:=t9.byD (N:=["_law_script","_law_start","_law_most","_law_head","_law_found","_law_rest","_law_many","_law_k","_law_cells","_law_one"]) T.b T.f_numbers (by walk_at"sc") va (by have:=pj T;have:=wF T;walk_at"dv") xg
def jE:v6:=λds M R=>∃(c:Int) (m:Nat),ds=[.int c,.int m]/\1<=m/\m<=4/\∀xs:List b8,xs.length=m->(∀x∈xs,x.length<=8)->xs.Nodup->R (.ref M.length) (M++[.lst<|xs.map .str])
theorem zS:cy jE uK:=by rintro ds M R ⟨c,m,rfl,_⟩;rfl
theorem Cz(u:Option Int)(n:Nat):MR a8 u 1 n=MR (a7 ((0:Nat):Int)) u 1 n:=by unfold MR;simp only[show (1:Int) > 0 by decide,o7];congr 1
theorem Ja(l:Option Int)(n:Nat):MR l a8 1 n=MR l (a7 ((n:Nat):Int)) 1 n:=by unfold MR;simp only[show (1:Int) > 0 by decide,o7];congr 1;rw[n9<|by lia];lia
theorem wA(x:b8)(b:Nat):(Kt x a8<|a7 (b:Int)).cps.toList=x.cps.toList.take b:=by have e:=sK x (a:=0) (b:=b)<|w4 _;rw[eP]at e ⊢;rw[Cz];rw[e];simp
theorem xB(x:b8)(a:Nat)(h:a<=x.length):(Kt x (a7 (a:Int)) a8).cps.toList=x.cps.toList.drop a:=by have e:=sK x (a:=a) (b:=x.length) h;rw[eP]at e ⊢;rw[Ja];rw[e];rw[NL];rw[Kx,fu];lia
theorem wZ(a:0<=i)(h1:i<26):∃c:Nat,atI (r9 "abcdefghijklmnopqrstuvwxyz").cps.toList i=a7 c/\(97<=c/\c<=122)/\c=97+i.toNat:=by
 have g:(r9 "abcdefghijklmnopqrstuvwxyz").cps.toList=(B9 26).map (· + 97):=by decide +kernel
 obtain⟨j,L,e,B⟩:=AZ (xs:=(r9 "abcdefghijklmnopqrstuvwxyz").cps.toList) a (by rw[g];simpa using h1);refine⟨_,e,?_⟩;have m:(r9 "abcdefghijklmnopqrstuvwxyz").cps.toList[j]?=a7 (j+97):=by rw[g,u4,LV]at L;rw[g,C8,List.getElem?_range L];rfl
 rw[v4 L]at m;have R:=C4 m;have h:j<26:=by rw[g,u4,LV]at L;exact L
 rw[R];lia
theorem AA{at_ s o:Nat}{a:List b8}(l:a.length<=4)(h:∀(j:Nat) z,a[j]?=a7 z->z.length=s/\z.cps.toList[at_]?=a7 (97+(o+j) % 26)):a.Nodup:=by rw[LY,NM];intro i j hi L b e;have h1:=(h i _<|v4 hi).2;have h2:=(h j _<|v4 L).2;rw[e,h2]at h1;have:=C4 h1;lia
theorem Dj(h:97<=ch/\ch<=122):∃(i:Nat) (aI:List Nat),OC (r9 "abcdefghijklmnopqrstuvwxyz") ⟨#[ch]⟩ 0 (r9 "abcdefghijklmnopqrstuvwxyz").length 1=i::aI:=by
 have f:=StrLaws.found_one (r9 "abcdefghijklmnopqrstuvwxyz") ch;have g:(r9 "abcdefghijklmnopqrstuvwxyz").cps.toList=(B9 26).map (· + 97):=by decide +kernel
 have d:ch∈(r9 "abcdefghijklmnopqrstuvwxyz").cps.toList:=by rw[g];exact ve.mpr ⟨ch-97,F7.mpr (by lia),by lia⟩
 rw[dT_ d]at f;cases e:OC (r9 "abcdefghijklmnopqrstuvwxyz") ⟨#[ch]⟩ 0 (r9 "abcdefghijklmnopqrstuvwxyz").length 1 with
 |nil=>rw[e]at f;cases f
 |cons i r=>exact⟨i,r,rfl⟩
def jI:p9:=bg<|s9 jK<|aa (ab 8) ag
def rC:p9:=av (A9 (GH (aB<|p6 Lq (ab 1)<|dC<|.int 1)<|aB<|p6 D0 (p6 cx (ab 0)<|dC<|.int 3)<|dC<|.int 1) (dAsg (p6 aK (p6 u7 (ab 8)<|dC<|.int 0)<|dC<|.str "b")<|CZ (ab 8)<|dC<|.int 1) bu)<|jI
def rD:p9:=av (iA 1 [5,4,2,7] (cj<|aa (ab 1) ag) (ak 0) nL (p6 aK (p6 aK (Lr (ab 1) gB<|oh<|ab 2)<|p6 u7 (ab 3)<|p6 cx (p6 aK (ab 4)<|ab 0)<|dC<|.int 26)<|Lr (ab 1) (oh<|p6 aK (ab 2)<|dC<|.int 1) gB) 8)<|rC
def rE:p9:=av (aU (NT mB (ab 2)<|aa (p6 u7 (ab 5)<|ab 4) ag) 7)<|rD
def rF:p9:=aU (p6 aJ (ab 0)<|dC<|.int 26) 0
def rG:p9:=av (kW (cj<|aa (ab 3) ag) (ak 6)<|av (aU (p6 aK (ab 5)<|p6 u7 (ab 2)<|p6 cx (ab 0)<|dC<|.int 26) 5)<|rF)<|rE
def rH:p9:=av (aU (dC<|.str "") 5)<|rG
def rJ:p9:=av (aU (p6 aJ (ab 0)<|dC<|.int 49) 0)<|rH
def rK:p9:=av (aU (p6 cx (p6 aJ (ab 0)<|dC<|.int 7)<|ab 3) 4)<|rJ
def rL:p9:=av (aU (p6 aK (dC<|.int 1)<|p6 cx (ab 0)<|dC<|.int 7) 3)<|rK
def yF:p9:=av (aU (dC<|.str "abcdefghijklmnopqrstuvwxyz") 2)<|rL
theorem qi{M L:tx}{R:DK}{m:Nat}{xs:List b8}{r y1 j k y d n e:Option D}(f:m<=4)(l:xs.length=m)(c:∀x∈xs,x.length<=8)(p:xs.Nodup)(h:∀xs:List b8,xs.length=m->(∀x∈xs,x.length<=8)->xs.Nodup->R (.ref M.length) (M++[.lst<|xs.map .str])):jI (EE M R) [r,y1,j,k,y,d,n,e,a7<|.ref M.length] (M++MO.lst (xs.map .str)::L):=by simp only[jI];walk_at"dl";refine⟨xs.map .str,.inl cF,(xx<|by lia).g,λys Q _=>?_⟩;obtain⟨s,rfl,b⟩:=zq Q;rw[F3];exact aO.lst (h s (by rw[b.length_eq,l]) (λx a=>c x<|b.mem_iff.mp a)<|b.nodup_iff.mpr p) (by simp) (by simp)<|wy s
theorem Bh:v8 jE 9 yF:=by
 rintro ds M R ⟨c,m,rfl,m1,O,h⟩;have o:(r9 "abcdefghijklmnopqrstuvwxyz").length<=sizeLine:=by decide +kernel
 have s0:=ca (a:=c) (b:=7) (by decide);have s1:=cz (a:=c) (b:=7) (by decide);simp only[yF,rL,rK];walk_at"dl";obtain⟨s,hs⟩:∃n:Nat,(n:Int)=1+c % 7:=⟨(1+c % 7).toNat,by lia⟩
 rw[<-hs];have z1:1<=s:=by lia
 have z7:s<=7:=by lia
 have a0:=ca (a:=c / 7) (b:=s) (by lia);have T:=cz (a:=c / 7) (b:=s) (by lia);obtain⟨at_,ha⟩:∃n:Nat,(n:Int)=c / 7 % (s:Int):=⟨(c / 7 % (s:Int)).toNat,by lia⟩
 refine⟨by decide,⟨by decide,by decide⟩,by lia,?_⟩;rw[<-ha]at T ⊢;simp only[rJ,rH,rG];walk_at"dl";refine⟨⟨by decide,by decide⟩,⟨by lia,by lia⟩,?_⟩;refine aY (λi S E=>∃(x:b8) (r:Int) (b:Option D),E=M/\x.length=i/\(∀q∈x.cps.toList,97<=q/\q<=122)/\S=[a7<|.int r,a7<|.int m,a7<|.str<|r9 "abcdefghijklmnopqrstuvwxyz",a7<|.int s,a7<|.int at_,a7<|.str x,b,a8,a8]) ?_ ?_ ⟨r9 "",_,_,rfl,by decide +kernel,(λq v=>by rw[show (r9 "").cps.toList=[] by decide +kernel]at v;cases v),rfl⟩;rintro S E ⟨base,r,b,rfl,f,v,rfl⟩;rw[bd,Ki]at f;refine⟨trivial,?_⟩;have ai:=fu (a:=base);have w:at_<base.cps.toList.length:=by lia
 have U:atI base.cps.toList (at_:Int)=a7 base.cps.toList[at_]:=ap<|v4 w;have A:=v _<|KY w;simp only[rE];walk_at"dl";refine⟨ao (by lia),?_⟩;rw[U];generalize base.cps.toList[at_]=ch at A;obtain⟨H,t,ho⟩:=Dj A;refine⟨H,t,ho,?_⟩;simp only[rD];walk_at"dl";refine⟨⟨by lia,by lia⟩,?_⟩;have p:(Kt base a8<|a7 (at_:Int)).length=at_:=by rw[fu,wA,J1];lia
 have C:(Kt base (a7<|(at_:Int)+1) a8).length=s-(at_+1):=by have P:=xB base (at_+1) (by lia);rw[show ((at_+1:Nat):Int)=(at_:Int)+1 by lia]at P;rw[fu,P,Kx];lia
 refine gY (λys acc S F=>∃(d:List b8) (a:Option D),acc=d.map .str/\(∀(j:Nat) z,d[j]?=a7 z->z.length=s/\z.cps.toList[at_]?=a7 (97+(H+j) % 26))/\d.length+ys.length=m/\ys=(gP 0 m).drop d.length/\F=E/\S=[a,a7<|.str base,a7<|.int at_,a7<|.str<|r9 "abcdefghijklmnopqrstuvwxyz",a7<|.int H]) ?_ ?_ _ _ _ _ ⟨[],_,rfl,(λj z o=>by simp at o),by rw[bd,Ki];simp,by rw[Ki];rfl,rfl,rfl⟩;rintro acc S F ⟨d,a,rfl,l,hl,_,rfl,rfl⟩;rw[C0,Nat.add_zero]at hl;refine⟨trivial,?_⟩;have z7':∀z∈d,z.length=s:=λz o=>by obtain⟨j,L⟩:=K9 o;exact(l j z L).1
 have z8:∀z∈d,z.length<=8:=λz o=>by have:=z7' z o;lia
 have znd:d.Nodup:=AA (by lia) l;simp only[rC];walk_at"dl";by_cases Y:(1:Int)<m;rw[dT_ Y];refine dI ⟨by decide,⟨aE,aE⟩,?_⟩;cases t4 (F++[MO.lst<|d.map .str]) t8 (.int<|r % 3) (.int 1) with
 |true =>
  match d,hl,z7',z8,znd with
  |z0::z1::zr,hl,z7',z8,znd =>
   have l0:=z7' z0 (by simp);refine dI ⟨_,ae,?_⟩;rw[A3,NU];refine⟨?_,_,1,ad,?_,?_⟩;rw[show (r9 "b").length=1 by decide +kernel];exact ao (by lia);rw[C7,u4,C7];unfold K2;rw[n6<|by decide];simp;lia;rw[mv,A3,List.set_cons_succ,List.set_cons_zero];have lb:(z0++r9 "b").length=s+1:=by rw[dA,show (r9 "b").length=1 by decide +kernel,l0]
   refine qi (xs:=z0::(z0++r9 "b")::zr) O (by simpa using hl) (λx f=>?_) ?_ h;rcases z5.mp f with rfl|f;lia;rcases z5.mp f with rfl|f;lia;exact z8 x (by simp[f]);rw[Kp,Kp]at znd ⊢;refine⟨λf=>?_,λf=>?_,znd.2.2⟩;rcases z5.mp f with e|f;rw[<-e]at lb;lia;exact znd.1<|A2 _ f;have:=z7' _<|A2 _<|A2 _ f;lia
  | [z0],hl,_,_,_=>exact o0 hl<|by simp only[F5];lia
  | [],hl,_,_,_=>exact o0 hl<|by simp only[C0];lia
 |false=>exact cP<|qi O hl z8 znd h
 rw[dF_ Y];exact cP<|qi O hl z8 znd h;rintro y ys acc S F ⟨d,a,rfl,l,hl,Q,rfl,rfl⟩ K Z;have B:d.length<(gP 0 m).length:=by rw[C7]at hl;rw[bd];lia
 rw[NN B]at Q;obtain⟨rfl,rfl⟩:=Nq Q;have W:(gP 0 m)[d.length]=.int (d.length:Int):=by have:=(cL (lo:=0) (n:=m) (i:=d.length) (x:=(gP 0 m)[d.length])).mp<|v4 B;rw[this.2];congr 1;lia
 rw[W];refine⟨trivial,?_⟩;rw[C7]at hl;walk_at"dl";obtain⟨u,J,_,V⟩:=wZ (i:=((H:Int)+(d.length:Int)) % 26) (ca<|by decide) (cz<|by decide);refine⟨ao (by lia),by decide,o,?_⟩;rw[J];refine⟨by rw[iI,p];exact ao (by lia),ao (by lia),by rw[dA,iI,p,C];exact ao (by lia),by rw[u4];exact ar (by lia),Z _ _ _ ⟨d++[Kt base a8 (a7 (at_:Int))++⟨#[u]⟩++Kt base (a7<|(at_:Int)+1) a8],_,by simp,λj z k=>?_,by rw[x5,F5];lia,by rw[x5,F5],rfl,rfl⟩⟩;by_cases L:j<d.length;rw[J5 L]at k;exact l j z k;obtain⟨rfl,rfl⟩:j=d.length/\z=Kt base a8 (a7 (at_:Int))++⟨#[u]⟩++Kt base (a7<|(at_:Int)+1) a8:=by
  have N:=(w6.mp k).1;rw[x5,F5]at N;obtain rfl:j=d.length:=by lia
  rw[Kz<|u5 _,Li]at k;exact⟨rfl,(C4 k).symm⟩
 refine⟨by rw[dA,dA,iI,p,C];lia,?_⟩;have st:=wA base at_;have lt:(base.cps.toList.take at_).length=at_:=by rw[J1];lia
 rw[qL,qL,st,F3,Kz (by lia),lt,Li];show a7 u=_;rw[V];congr 2;rintro i y S E Q ⟨x,r,b,rfl,f,v,rfl⟩ G X;obtain⟨hi,rfl⟩:=cL.mp Q;refine⟨trivial,?_⟩;simp only[rF];walk_at"dl";obtain⟨u,J,I⟩:=wZ (i:=r % 26) (ca<|by decide) (cz<|by decide);refine⟨by decide,o,?_⟩;rw[J];refine⟨by rw[iI,f];exact ao (by lia),⟨by decide,by decide⟩,A4.now<|X _ _ ⟨x++⟨#[u]⟩,_,_,rfl,by rw[dA,iI,f],λq g=>?_,rfl⟩⟩;rw[qL]at g;rcases D3.mp g with g|g;exact v q g;have:q=u:=by simpa using g
 rw[this];exact I.1
theorem BO(T:Tops P w K mg base):t9 P w K mg base 1 "_law_names" uK jE:=t9.byD (N:=["_law_number","_law_many","_law_letters","_law_size","_law_at","_law_base","_law_j","_law_turned","_law_names_here"]) T.b T.f_names (by walk_at"sc") zS (by walk_at"dv") Bh
def lB:v6:=λds M R=>∃(c:Int),ds=[.int c]/\∀ps a,HouseF ps a->R (ax ps a) M
theorem zU:cy lB uM:=by rintro ds M R ⟨c,rfl,_⟩;rfl
theorem CA:E9 4 (ax ps rs):=by refine .tup<|.cons (.tup<|nM.of λd h=>?_)<|.cons (.tup<|nM.of λd h=>?_) .nil;obtain⟨p,_,rfl⟩:=ve.mp h;exact .tup<|.cons (.str _)<|.cons (.int _) .nil;obtain⟨p,_,rfl⟩:=ve.mp h;refine .tup<|.cons (.str _)<|.cons (.tup<|nM.of λd h=>?_) .nil;obtain⟨q,_,rfl⟩:=ve.mp h;exact .str _
theorem Ay{a b c d:Int}{k:Nat}(h:k<4)(f:ur 0 a)(e:ur 0 b)(g:ur 0 c)(i:ur 0 d):∃z:Int,atI [D.int a,.int b,.int c,.int d] (0+(k:Int))=a7 (.int z)/\ur 0 z:=by
 rw[Mb]
 match k,h with
 | 0,_=>exact⟨a,ap (j:=0) rfl,f⟩
 | 1,_=>exact⟨b,ap (j:=1) rfl,e⟩
 | 2,_=>exact⟨c,ap (j:=2) rfl,g⟩
 | 3,_=>exact⟨d,ap (j:=3) rfl,i⟩
def oU:p9:=bg<|ig<|aa (s9 gc<|aa (ab 4) ag)<|aa (s9 gc<|aa (D1 1 [9,5] (cj<|aa (s9 kZ<|aa (ab 5) ag) ag) (ak 0) nL<|ig<|aa (p6 u7 (ab 1)<|ab 0)<|aa (p6 u7 (ab 2)<|ab 0) ag) ag) ag
def gL:p9:=av (aU (s9 jE<|aa (p6 aJ (ab 1)<|dC<|.int 262144)<|aa (s9 kZ<|aa (ab 5) ag) ag) 9)<|oU
def md:p9:=kb<|KG cB (ab 5)<|aa (s9 gc<|aa (ab 8) ag) ag
def rR:p9:=av (A9 (aB<|p6 D0 (ab 8)<|jB ag) (aU (jB<|aa (p6 u7 (ab 3)<|p6 cx (ab 7)<|ab 2) ag) 8) bu)<|md
def rS:p9:=av (iA 1 [3,7] (cj<|aa (ab 2) ag) (ak 0) (aB<|p6 D0 (p6 cx (p6 aJ (ab 2)<|p6 Hg (dC<|.int 1)<|ab 0)<|dC<|.int 2)<|dC<|.int 1) (p6 u7 (ab 1)<|ab 0) 8)<|rR
def rT:p9:=av (kW (cj<|aa (p6 aK (dC<|.int 1)<|p6 cx (ab 1)<|dC<|.int 4) ag) (ak 6)<|av (aU (p6 cx (p6 aJ (ab 1)<|p6 u7 (jB<|aa (dC<|.int 4)<|aa (dC<|.int 64)<|aa (dC<|.int 1024)<|aa (dC<|.int 16384) ag)<|ab 6)<|dC<|.int 16) 7)<|rS)<|gL
def me:p9:=av (aU (jB ag) 5)<|rT
def rV:p9:=av (aU (s9 kg<|aa (p6 aJ (ab 0)<|dC<|.int 5)<|aa (dC<|.int 2) ag) 1)<|me
def rW:p9:=av (iA 1 [3,1] (cj<|aa (ab 2) ag) (ak 0) nL (ig<|aa (p6 u7 (ab 1)<|ab 0)<|aa (p6 aK (dC<|.int 1)<|p6 cx (p6 aJ (ab 2)<|p6 u7 (jB<|aa (dC<|.int 4)<|aa (dC<|.int 12)<|aa (dC<|.int 36)<|aa (dC<|.int 108) ag)<|ab 0)<|dC<|.int 3) ag) 4)<|rV
def rX:p9:=av (aU (s9 jE<|aa (p6 aJ (ab 1)<|dC<|.int 324)<|aa (ab 2) ag) 3)<|rW
def rY:p9:=av (aU (p6 aK (dC<|.int 1)<|p6 cx (ab 1)<|dC<|.int 4) 2)<|rX
def yT:p9:=av (aU (s9 kg<|aa (ab 0)<|aa (dC<|.int 1) ag) 1)<|rY
theorem CB{M B:tx}{R:DK}{g:Nat}{ps:List (b8×Int)}{s:List (List b8)}{ns:List b8}{u:Int}{J:Nat}{N P T U W X:Option D}(H:M <+: B)(F:al B J (ps.map dW))(n:al B g (s.map λm=>.tup<|m.map .str))(G:∀m∈s,m.Sublist ns)(Y:ns.length<=4)(V:1<=s.length)(O:s.length<=4)(C:∀rs,1<=rs.length/\rs.length<=4->(rs.map (·.1)).Nodup->(∀r∈rs,r.2.Sublist ns)->HouseF ps rs)(h:∀ps rs,HouseF ps rs->R (ax ps rs) M):gL (EE M R) [N,a7<|.int u,P,T,a7<|.ref J,a7<|.ref g,U,W,X,a8] B:=by
 simp only[gL];walk_at"dl";refine⟨⟨by decide,by decide⟩,_,n,?_⟩;rw[u4];refine⟨_,s.length,rfl,V,O,λxs xl Z k=>?_⟩;have p:M <+: B++[MO.lst<|xs.map .str]:=H.trans bc;have c:=F.more [MO.lst<|xs.map D.str];have l:=n.more [MO.lst<|xs.map D.str];have f:al (B++[MO.lst<|xs.map .str]) B.length (xs.map .str):=ae;generalize B++[MO.lst<|xs.map .str]=I at p c l f;generalize B.length=L at f;simp only[oU];walk_at"dl";refine⟨_,c,_,l,⟨by lia,by rw[u4];lia⟩,?_⟩;rw[u4,Ki];refine gY (λys acc S e=>∃(rs:List (b8×List b8)) (a:Option D) (i:Nat),acc=rs.map my/\rs.length=i/\(rs.map (·.1)=xs.take i/\∀r∈rs,r.2.Sublist ns)/\ys=(gP 0 s.length).drop i/\i<=s.length/\e=I/\S=[a,a7<|.ref L,a7<|.ref g]) ?_ ?_ _ _ _ _ ⟨[],_,0,rfl,rfl,⟨rfl,λ_ z=>nomatch z⟩,by simp,w4 _,rfl,rfl⟩;rintro acc S e ⟨rs,a,i,rfl,o,⟨x,j⟩,d,E,rfl,rfl⟩;have hi:i=s.length:=by have:=o8 Km d;rw[C0,Kx,bd]at this;lia
 refine⟨trivial,_,ae,ao (by lia),aO.keep (h ps rs<|C rs ⟨by lia,by lia⟩ (by rw[x];exact k.sublist<|NC _ _) j) (bw 4 _ CA)<|p.trans bc⟩;rintro y ys acc S e ⟨rs,a,i,rfl,o,⟨x,j⟩,d,E,rfl,rfl⟩ K A;have hi:i<s.length:=by have:=o8 Km d;rw[C7,Kx,bd]at this;lia
 have Q:(gP 0 s.length)[i]?=a7 y/\ys=(gP 0 s.length).drop (i+1):=by
  have t:i<(gP 0 s.length).length:=by rw[bd];exact hi
  rw[NN t]at d;injection d with h1 h2;exact⟨by rw[v4 t,h1],h2⟩
 obtain⟨_,rfl⟩:=cL.mp Q.1;refine⟨trivial,?_⟩;walk_at"dl";have w:atI (xs.map D.str) (0+(i:Int))=a7 (.str<|xs[i]'(by lia)):=by rw[Mb];exact ap<|by rw[C8,v4<|by lia];rfl
 have v:atI (s.map λm=>D.tup<|m.map .str) (0+(i:Int))=a7 (.tup<|(s[i]).map .str):=by rw[Mb];exact ap<|by rw[C8,v4 hi];rfl
 refine⟨_,f,?_⟩;rw[w];refine⟨_,l,?_⟩;rw[v];refine⟨ao (by lia),by rw[u4];exact ar (by lia),A _ _ _ ⟨rs++[(xs[i]'(by lia),s[i])],_,i+1,by simp[my],by simp[o],⟨by rw[G7,x,Lm,v4<|by lia];rfl,λq b=>?_⟩,Q.2,hi,rfl,rfl⟩⟩;rcases D3.mp b with b|b;exact j q b;rw[J3.mp b];exact G _<|KY _
theorem FL{M B:tx}{R:DK}{many:Nat}{ps:List (b8×Int)}{ns:List b8}{g:Int}{C J:Nat}{y0:Option D}(pB:M <+: B)(l3:al B C (ns.map .str))(l4:al B J (ps.map dW))(nl:ns.length=many)(n1:1<=many)(n4:many<=4)(hf:∀rs,1<=rs.length/\rs.length<=4->(rs.map (·.1)).Nodup->(∀r∈rs,r.2.Sublist ns)->HouseF ps rs)(h:∀ps rs,HouseF ps rs->R (ax ps rs) M):me (EE M R) [y0,a7<|.int g,a7<|.int many,a7<|.ref C,a7<|.ref J,a8,a8,a8,a8,a8] B:=by
 have b3:=tq l3;have b4:=tq l4;simp only[me,rT];walk_at"dl";have s0:=ca (a:=g) (b:=4) (by decide);have s1:=cz (a:=g) (b:=4) (by decide);refine⟨w4 _,by decide,⟨by lia,by lia⟩,?_⟩;obtain⟨rm,ai⟩:∃n:Nat,(n:Int)=1+g % 4:=⟨(1+g % 4).toNat,by lia⟩
 rw[<-ai,Ki];refine aY (λi S f=>∃(w:List (List b8)) (a b d:Option D),w.length=i/\(∀m∈w,m.Sublist ns)/\M <+: f/\al f C (ns.map .str)/\al f J (ps.map dW)/\f[B.length]?=a7 (.lst<|w.map λm=>.tup<|m.map .str)/\S=[y0,a7<|.int g,a7<|.int many,a7<|.ref C,a7<|.ref J,a7<|.ref B.length,a,b,d,a8]) ?_ ?_ ⟨[],_,_,_,rfl,(λ_ z=>nomatch z),pB.trans bc,l3.more _,l4.more _,ad,rfl⟩;rintro S f ⟨w,a,b,d,ml,mm,pM,k3,k4,X,rfl⟩;rw[bd]at ml;exact⟨trivial,CB pM k4 (.inl X) mm (by lia) (by lia) (by lia) hf h⟩;rintro i y S f hy ⟨w,a,b,d,ml,mm,pM,k3,k4,X,rfl⟩ G hG;obtain⟨hi,rfl⟩:=cL.mp hy;have bM:=br X;refine⟨trivial,?_⟩;walk_at"dl";obtain⟨z,ez,hz⟩:=Ay (a:=4) (b:=64) (c:=1024) (d:=16384) (k:=i) (by lia) ⟨by decide,by decide⟩ ⟨by decide,by decide⟩ ⟨by decide,by decide⟩ ⟨by decide,by decide⟩;refine⟨ao (by lia),_,ae,?_⟩;rw[ez];refine⟨hz,by decide,?_⟩;have b0:=ca (a:=g / z) (b:=16) (by decide);generalize g / z % 16=s at b0;have V:M <+: f++[MO.lst [D.int 4,D.int 64,D.int 1024,D.int 16384]]:=pM.trans bc;have t:=k3.more [MO.lst [D.int 4,D.int 64,D.int 1024,D.int 16384]];have T:=k4.more [MO.lst [D.int 4,D.int 64,D.int 1024,D.int 16384]];have I:=ac (a:=MO.lst [D.int 4,D.int 64,D.int 1024,D.int 16384]) X;generalize f++[MO.lst [D.int 4,D.int 64,D.int 1024,D.int 16384]]=M1 at V t T I;simp only[rS];walk_at"dl";refine⟨⟨by lia,by lia⟩,?_⟩;have H:∀(xs:List b8) (W:Nat) (M2:tx),xs.Sublist ns->M <+: M2->al M2 C (ns.map .str)->al M2 J (ps.map dW)->M2[B.length]?=a7 (.lst<|w.map λm=>.tup<|m.map .str)->al M2 W (xs.map .str) -> md ⟨A4 (B++[MO.lst []]) G,aO M R,λS f=>gL (EE M R) S f,A4 (B++[MO.lst []]) G⟩ [y0,a7<|.int g,a7<|.int many,a7<|.ref C,a7<|.ref J,a7<|.ref B.length,a7<|.int<|0+(i:Int),a7<|.int s,a7<|.ref W,a8] M2:=λxs W M2 x4 p2 aj an l as=>by simp only[md];walk_at"dl";refine⟨⟨_,.inl l⟩,_,as,_,l,by rw[u4];exact ar (by lia),A4.now<|hG _ _ ⟨w++[xs],_,_,_,by simp[ml],λm O=>?_,?_,zM (by lia) aj,zM (by lia) an,?_,rfl⟩⟩;rcases D3.mp O with O|O;exact mm m O;rw[J3.mp O];exact x4;obtain⟨L,rfl⟩:=pB;obtain⟨L2,rfl⟩:=p2;rw[O6 _ _<|by simp];exact Kq _ _;rw[cc l];simp
 rw[Ki];refine gY (λys acc S M2=>∃(xs:List b8) (a:Option D) (Y:Nat),acc=xs.map .str/\xs.Sublist (ns.take Y)/\ys=(gP 0 many).drop Y/\Y<=many/\M2=M1/\S=[a,a7<|.ref C,a7<|.int s]) ?_ ?_ _ _ _ _ ⟨[],_,0,rfl,List.nil_sublist _,rfl,w4 _,rfl,rfl⟩;rintro acc S M2 ⟨xs,a2,Y,rfl,U,_,_,rfl,rfl⟩;have U:=U.trans<|NC _ _;refine⟨trivial,?_⟩;simp only[rR];walk_at"dl";have Q:=t.more [MO.lst<|xs.map D.str];have v:=T.more [MO.lst<|xs.map D.str];have o:=ac (a:=MO.lst<|xs.map D.str) I;have A:M <+: M2++[MO.lst<|xs.map D.str]:=V.trans bc;have Z:al (M2++[MO.lst<|xs.map D.str]) M2.length (xs.map .str):=ae;generalize M2++[MO.lst<|xs.map D.str]=M3 at Q v o A Z;generalize M2.length=W at Z;obtain⟨aD,F⟩:=qg Z λx P=>by obtain⟨i,_,rfl⟩:=ve.mp P;exact aM
 refine⟨w4 _,aD,?_⟩;rw[F];have u:=Q.more [MO.lst []];cases (xs.map D.str).isEmpty with
 |true =>
  have E:∃x:b8,x∈ns/\atI (ns.map D.str) (s % (many:Int))=a7 (.str x):=by obtain⟨d,hd,e⟩:=jD (xs:=ns.map D.str) (i:=s) (by rw[u4];lia);rw[u4,nl]at e;obtain⟨x,P,rfl⟩:=ve.mp hd;exact⟨x,P,e⟩
  obtain⟨x,P,E⟩:=E;refine dI ⟨by lia,_,u,?_⟩;rw[E];refine⟨ao (by lia),H [x] _ _ (List.singleton_sublist.mpr P) ((A.trans bc).trans bc) (u.more _) ((v.more _).more _) (ac<|ac o) ae⟩
 |false=>exact cP<|H xs W _ U (A.trans bc) u (v.more _) (ac o)<|Z.more _
 rintro y' ys acc S M2 ⟨xs,a2,j,rfl,U,p,jm,rfl,rfl⟩ K hK;have hj:j<many:=by have:=o8 Km p;rw[C7,Kx,bd]at this;lia
 have q:(gP 0 many)[j]?=a7 y'/\ys=(gP 0 many).drop (j+1):=by
  have N:j<(gP 0 many).length:=by rw[bd];exact hj
  rw[NN N]at p;injection p with h1 h2;exact⟨by rw[v4 N,h1],h2⟩
 obtain⟨_,rfl⟩:=cL.mp q.1;have et:ns.take (j+1)=ns.take j++[ns[j]'(by lia)]:=by rw[Lm,v4<|by lia];rfl
 have xl:xs.length<=4:=by have:=U.length_le;rw[J1]at this;lia
 refine⟨trivial,?_⟩;walk_at"dl";have E:atI (ns.map D.str) (0+(j:Int))=a7 (.str<|ns[j]'(by lia)):=by rw[Mb];exact ap<|by rw[C8,v4<|by lia];rfl
 have pw:ur s (1*2 ^ (0+(j:Int)).toNat):=by
  rw[Mb,Ki];have:j=0\/j=1\/j=2\/j=3:=by lia
  rcases this with rfl|rfl|rfl|rfl<;>exact⟨by decide,by decide⟩
 refine⟨⟨by lia,by lia,by decide⟩,pw,by decide,⟨aE,aE⟩,?_⟩;split;refine⟨_,t,?_⟩;rw[E];exact⟨by rw[u4];exact ar (by lia),hK _ _ _ ⟨xs++[_],_,j+1,by simp;rfl,by rw[et];exact U.append<|Ny _,q.2,hj,rfl,rfl⟩⟩;exact hK _ _ _ ⟨xs,_,j+1,rfl,by rw[et];exact U.trans<|List.sublist_append_left _ _,q.2,hj,rfl,rfl⟩
theorem Bj:v8 lB 10 yT:=by
 rintro ds M R ⟨c,rfl,h⟩;simp only[yT];walk_at"dl";refine⟨c,1,rfl,⟨by decide,by decide⟩,λf=>?_⟩;simp only[rY];walk_at"dl";have X:=ca (a:=f) (b:=4) (by decide);have P:=cz (a:=f) (b:=4) (by decide);refine⟨by decide,?_⟩;obtain⟨many,A⟩:∃n:Nat,(n:Int)=1+f % 4:=⟨(1+f % 4).toNat,by lia⟩
 rw[<-A];simp only[rX];walk_at"dl";refine⟨⟨by decide,by decide⟩,_,many,rfl,by lia,by lia,λns s G r=>?_⟩;have l:al (M++[MO.lst<|ns.map .str]) M.length (ns.map .str):=ae;have H:M <+: M++[MO.lst<|ns.map D.str]:=bc;generalize M++[MO.lst<|ns.map .str]=B at l H;generalize M.length=I at l;simp only[rW];walk_at"dl";refine⟨⟨by lia,by lia⟩,?_⟩;rw[Ki];refine gY (λys acc S o=>∃(ps:List (b8×Int)) (a:Option D) (i:Nat),acc=ps.map dW/\ps.length=i/\ps.map (·.1)=ns.take i/\(∀p∈ps,(1<=p.2/\p.2<=3)/\p.1.length<=8)/\ys=(gP 0 many).drop i/\i<=many/\B <+: o/\S=[a,a7<|.ref I,a7<|.int f]) ?_ ?_ _ _ _ _ ⟨[],_,0,rfl,rfl,rfl,(λ_ z=>nomatch z),by simp,w4 _,List.prefix_refl _,rfl⟩;rintro acc S o ⟨ps,a,i,rfl,u,m,j,g,F,pM,rfl⟩;have hi:i=many:=by have:=o8 Km g;rw[C0,Kx,bd]at this;lia
 refine⟨trivial,?_⟩;simp only[rV];walk_at"dl";refine⟨⟨by decide,by decide⟩,_,2,rfl,⟨by decide,by decide⟩,λN=>?_⟩;exact FL ((H.trans pM).trans bc) ((bO pM l).more _) ae s (by lia) (by lia) (λO C L J=>⟨⟨by lia,by lia⟩,λp e=>(j p e).1,λp e=>(j p e).2,C,by rw[m];exact r.sublist<|NC _ _,L,λq e=>by rw[m,hi,<-s,K8];exact J q e⟩) h;rintro y ys acc S o ⟨ps,a,i,rfl,u,m,j,g,F,pM,rfl⟩ K x;have hi:i<many:=by have:=o8 Km g;rw[C7,Kx,bd]at this;lia
 have Q:(gP 0 many)[i]?=a7 y/\ys=(gP 0 many).drop (i+1):=by
  have t:i<(gP 0 many).length:=by rw[bd];exact hi
  rw[NN t]at g;injection g with h1 h2;exact⟨by rw[v4 t,h1],h2⟩
 obtain⟨_,rfl⟩:=cL.mp Q.1;refine⟨trivial,?_⟩;walk_at"dl";have v:atI (ns.map D.str) (0+(i:Int))=a7 (.str<|ns[i]'(by lia)):=by rw[Mb];exact ap<|by rw[C8,v4<|by lia];rfl
 obtain⟨z,w,E⟩:=Ay (a:=4) (b:=12) (c:=36) (d:=108) (k:=i) (by lia) ⟨by decide,by decide⟩ ⟨by decide,by decide⟩ ⟨by decide,by decide⟩ ⟨by decide,by decide⟩;refine⟨_,bO pM l,?_⟩;rw[v];refine⟨ao (by lia),_,ae,?_⟩;rw[w];have Z:=ca (a:=f / z) (b:=3) (by decide);have T:=cz (a:=f / z) (b:=3) (by decide);refine⟨E,by decide,ao (by lia),by rw[u4];exact ar (by lia),x _ _ _ ⟨ps++[(ns[i]'(by lia),1+f / z % 3)],_,i+1,by simp[dW],by simp[u],by rw[G7,m,Lm,v4<|by lia];rfl,λp e=>?_,Q.2,hi,pM.trans bc,rfl⟩⟩;rcases D3.mp e with e|e;exact j p e;rw[J3.mp e];exact⟨⟨by dsimp only;lia,by dsimp only;lia⟩,G _<|KY _⟩
theorem BP(T:Tops P w K mg base):t9 P w K mg base 3 "_law_house" uM lB:=t9.byD (N:=["_law_cell","_law_number","_law_many","_law_names_here","_law_people","_law_rooms","_law_k","_law_bits","_law_members","_law_called"]) T.b T.f_house (by walk_at"sc") zU (by have:=zF T;have:=BO T;walk_at"dv") Bj
def lC:v6:=λds M R=>∃(ps:List (b8×Int)) (r:List D),ds=[.tup<|.tup (ps.map dW)::r]/\OX ps/\R (.ref M.length) (M++[.lst<|aT ps])
theorem zV:cy lC uN:=by rintro ds M R ⟨ps,r,rfl,_⟩;rfl
def rZ:p9:=bg<|ab 1
def sd:p9:=av (kW (bp<|p6 u7 (ab 0)<|dC<|.int 0) (nD 2<|cf (ak 2)<|cf (ak 3) nE)<|aU (p6 aK (ab 1)<|D1 1 [2] (cj<|aa (ab 3) ag) (ak 0) nL<|ig<|aa (ab 1)<|aa (ab 0) ag) 1)<|rZ
def yU:p9:=av (aU (jB ag) 1)<|sd
theorem Bk:v8 lC 4 yU:=by
 rintro ds M R ⟨ps,r,rfl,⟨o,f⟩,h⟩;simp only[yU,sd];walk_at"dl";refine⟨w4 _,λ_=>?_⟩;have n:∀qs:List (b8×Int),(∀p∈qs,p∈ps)->qs.length<=4->(aT qs).length<=12:=λqs h1 h2=>by have:=py (ps:=qs) λp i=>f p<|h1 p i;lia
 refine gW (λys S d=>∃qs s a b q L,ps=qs++s/\ys=s.map dW/\d=M++L/\M.length<=q/\d[q]?=a7 (.lst<|aT qs)/\S=[a7<|.tup<|.tup (ps.map dW)::r,a7<|.ref q,a,b]) ?_ ?_ _ _ _ ⟨[],ps,_,_,_,[.lst []],rfl,rfl,rfl,u5 _,ad,rfl⟩;rintro S d ⟨qs,s,a,b,q,L,e,c,rfl,j,g,rfl⟩;have:s=[]:=by cases s<;>simp_all
 subst this;rw[K7]at e;subst e;refine⟨trivial,?_⟩;simp only[rZ];walk_at"dl";exact aO.lst h j g yb;rintro x xs S d ⟨qs,s,a,b,q,L,e,c,rfl,j,g,rfl⟩ G l;cases s with
 |nil=>cases c
 |cons p s =>
  rw[A3]at c;injection c with e1 e2;subst e1;have i:=f p (by rw[e];simp);refine⟨trivial,?_⟩;unfold dW;walk_at"dl";refine⟨trivial,⟨by lia,by lia⟩,?_⟩;refine aZ (λk=>.tup [.str p.1,k]) (λS=>∃a,S=[a,a7<|.str p.1]) trivial _ _ _ (λk t S m=>?_) ⟨_,rfl⟩ ?_ ?_;obtain⟨a,rfl⟩:=m;refine⟨[a7 k,a7<|.str p.1],⟨_,rfl⟩,λY D=>?_⟩;walk_at"dl";exact⟨ao (by lia),D⟩;simp only[C0,bd];exact ao (by lia);have y:ps.length=qs.length+(s.length+1):=by rw[e];simp
  have u:=n qs (λq c=>by rw[e];simp[c]) (by lia);have v:(cb p).length<=3:=by rw[iQ];lia
  rw[E3];refine⟨aT qs,cb p,ac g,ad,ao (by lia),?_⟩;refine A4.now<|l _ _ ⟨qs++[p],s,_,_,_,L++[.lst<|cb p]++[.lst<|aT qs++cb p],by rw[e];simp,e2,by simp[cb],?_,?_,rfl⟩;simp only[x5,F5];lia;have:aT (qs++[p])=aT qs++cb p:=by simp[aT]
  rw[this];exact ad
theorem BR(T:Tops P w K mg base):t9 P w K mg base 1 "_law_hands" uN lC:=t9.byD (N:=["_law_house_here","_law_hands_here","_law_name","_law_many"]) T.b T.f_hands (by walk_at"sc") zV (by walk_at"dv") Bk
def gI:v6:=λds M R=>∃(c:Int) (q:Nat) (xs:List b8),ds=[.int c,.ref q]/\al M q (xs.map .str)/\1<=xs.length/\xs.length<=1000/\(∀x∈xs,x.length<=8)/\∀x:b8,R (.str x) M
theorem xT:cy gI pX:=by rintro ds M R ⟨c,q,xs,rfl,_⟩;rfl
def oH:p9:=bg<|ab 4
def oJ:p9:=aU (p6 aJ (ab 0)<|dC<|.int 3) 0
def oK:p9:=av (kW (cj<|aa (p6 aK (dC<|.int 1)<|p6 cx (ab 0)<|dC<|.int 8) ag) (ak 5)<|av (aU (p6 aK (ab 4)<|p6 u7 (p6 aK (p6 aK (dC<|.str " !@")<|ab 2)<|dC<|.str "abzAZ09.~")<|p6 cx (p6 aJ (ab 0)<|dC<|.int 8)<|p6 aK (dC<|.int 12)<|s9 kZ<|aa (ab 2) ag) 4)<|oJ)<|oH
def oM:p9:=av (aU (p6 jL (dC<|.str "@")<|p6 cx (ab 3)<|dC<|.int 2) 4)<|oK
def oN:p9:=av (A9 (aB<|p6 KM (ab 3)<|dC<|.int 8) (bg<|p6 u7 (jB<|aa (dC<|.str "hi")<|aa (p6 aK (dC<|.str "@")<|ab 2)<|aa (p6 aK (p6 aK (dC<|.str "x @")<|ab 2)<|dC<|.str "!")<|aa (p6 aK (p6 aK (dC<|.str "@")<|ab 2)<|dC<|.str "b")<|aa (p6 aK (dC<|.str "no @ ")<|ab 2)<|aa (p6 aK (dC<|.str "Hi @A@")<|ab 2)<|aa (ab 2)<|aa (dC<|.str "?") ag)<|ab 3) bu)<|oM
def oO:p9:=av (aU (p6 aJ (ab 0)<|dC<|.int 48) 0)<|oN
def oP:p9:=av (aU (p6 cx (p6 aJ (ab 0)<|dC<|.int 4)<|dC<|.int 12) 3)<|oO
def vY:p9:=av (aU (p6 u7 (ab 1)<|p6 cx (ab 0)<|s9 kZ<|aa (ab 1) ag) 2)<|oP
theorem yy:v8 gI 6 vY:=by
 rintro ds M R ⟨c,q,xs,rfl,L,I,W,J,h⟩;simp only[vY];walk_at"dl";obtain⟨d,o,k⟩:=jD (xs:=xs.map D.str) (i:=c) (by rw[u4];exact I);obtain⟨z,s,rfl⟩:=ve.mp o;have z8:=J z s;refine⟨_,L,by rw[u4];lia,_,L,?_⟩;rw[k];simp only[oP,oO];walk_at"dl";have K:=ca (a:=c / 4) (b:=12) (by decide);have H:=cz (a:=c / 4) (b:=12) (by decide);refine⟨⟨by decide,by decide⟩,by decide,⟨by decide,by decide⟩,?_⟩;generalize c / 4 % 12=w at K H;generalize c / 48=r;simp only[oN];walk_at"dl";have p:(r9 "@").length=1:=by decide +kernel
 have x:(r9 "x @").length=3:=by decide +kernel
 have v:(r9 "!").length=1:=by decide +kernel
 have U:(r9 "b").length=1:=by decide +kernel
 have F:(r9 "no @ ").length=5:=by decide +kernel
 have A:(r9 "Hi @A@").length=6:=by decide +kernel
 by_cases g:w<8;rw[dT_ g];refine dI ⟨by rw[p];exact ao (by lia),by rw[x];exact ao (by lia),by rw[dA,x,v];exact ao (by lia),by rw[p];exact ao (by lia),by rw[dA,p,U];exact ao (by lia),by rw[F];exact ao (by lia),by rw[A];exact ao (by lia),ao (by lia),_,ae,?_⟩;have l:∃y:b8,atI [D.str<|r9 "hi",D.str<|r9 "@" ++ z,D.str<|r9 "x @" ++ z++r9 "!",D.str<|r9 "@" ++ z++r9 "b",D.str<|r9 "no @ " ++ z,D.str<|r9 "Hi @A@" ++ z,D.str z,D.str<|r9 "?"] w=a7 (.str y):=by
  have:w=0\/w=1\/w=2\/w=3\/w=4\/w=5\/w=6\/w=7:=by lia
  rcases this with rfl|rfl|rfl|rfl|rfl|rfl|rfl|rfl;exact⟨_,ap (j:=0) rfl⟩;exact⟨_,ap (j:=1) rfl⟩;exact⟨_,ap (j:=2) rfl⟩;exact⟨_,ap (j:=3) rfl⟩;exact⟨_,ap (j:=4) rfl⟩;exact⟨_,ap (j:=5) rfl⟩;exact⟨_,ap (j:=6) rfl⟩;exact⟨_,ap (j:=7) rfl⟩
 obtain⟨y,n⟩:=l;rw[n];exact aO.str (h _) bc;rw[dF_ g];refine cP ?_;simp only[oM];walk_at"dl";have Z:=ca (a:=w) (b:=2) (by decide);have T:=cz (a:=w) (b:=2) (by decide);have u:(Txt.mul (r9 "@")<|w % 2).length<=1:=by
  have:w % 2=0\/w % 2=1:=by lia
  rcases this with e|e<;>rw[e]<;>decide +kernel
 refine⟨by decide,⟨Z,by lia,by rw[p];exact ao<|by lia⟩,?_⟩;generalize Txt.mul (r9 "@") (w % 2)=X at u;simp only[oK];walk_at"dl";have O:=ca (a:=r) (b:=8) (by decide);have P:=cz (a:=r) (b:=8) (by decide);refine⟨by decide,⟨by lia,by lia⟩,?_⟩;refine aY (λi S f=>∃(y:b8) (r':Int) (b:Option D),y.length<=1+i/\f=M/\S=[a7<|.int r',a7<|.ref q,a7<|.str z,a7<|.int w,a7<|.str y,b]) ?_ ?_ ⟨X,_,_,by lia,rfl,rfl⟩;rintro S f ⟨y,r',b,_,rfl,rfl⟩;refine⟨trivial,?_⟩;simp only[oH];walk_at"dl";exact aO.now<|h _;rintro i Y S f Q ⟨y,r',b,yl,rfl,rfl⟩ G m;obtain⟨hi,rfl⟩:=cL.mp Q;refine⟨trivial,?_⟩;simp only[oJ];walk_at"dl";have t:(r9 " !@").length=3:=by decide +kernel
 have E:(r9 "abzAZ09.~").length=9:=by decide +kernel
 have C:(r9 " !@" ++ z++r9 "abzAZ09.~").length=12+z.length:=by rw[dA,dA,t,E];lia
 refine⟨by rw[t];exact ao (by lia),by rw[dA,t,E];exact ao (by lia),⟨by decide,by decide⟩,ao (by lia),by lia,ao (by lia),?_⟩;have B:=fu (a:=r9 " !@" ++ z++r9 "abzAZ09.~");obtain⟨N,_,V⟩:=jD (xs:=(r9 " !@" ++ z++r9 "abzAZ09.~").cps.toList) (i:=r' / 8) (by lia);rw[<-B,C,show (((12+z.length:Nat)):Int)=12+(z.length:Int) by lia]at V;rw[V];exact⟨by rw[iI];exact ao (by lia),⟨by decide,by decide⟩,A4.now<|m _ _ ⟨_,_,_,by rw[dA,iI];lia,rfl,rfl⟩⟩
theorem zE(T:Tops P w K mg base):t9 P w K mg base 1 "_law_saying" pX gI:=t9.byD (N:=["_law_number","_law_names_here","_law_name","_law_way","_law_saying_here","_law_k"]) T.b T.f_saying (by walk_at"sc") xT (by walk_at"dv") yy
def L6(s:List D):Prop:=∀x∈s,∃(t:Int) (z:b8) (k:Int),x=.tup [.int t,.tup [.str z,.int k]]
def nJ:v6:=λds M R=>∃(c:Int) (p q:Nat) (s hs:List D),ds=[.int c,.ref p,.ref q]/\al M p s/\L6 s/\s.length<=1000/\al M q hs/\(∀x∈hs,Hd x)/\1<=hs.length/\hs.length<=1000/\∀(t:Int) (z:b8) (k:Int),R (.tup [.int t,.tup [.str z,.int k]]) M
theorem Ci:cy nJ zx:=by rintro ds M R ⟨c,p,q,s,hs,rfl,_⟩;rfl
theorem sG:C2 n (.tup [.int t,.tup [.str z,.int k]]):=bw 2 _ rfl
def pO:p9:=bg<|p6 u7 (ab 1)<|p6 GC (p6 GC (s9 kZ<|aa (ab 1) ag)<|dC<|.int 1)<|p6 cx (p6 aJ (ab 0)<|dC<|.int 8)<|s9 kZ<|aa (ab 1) ag
def Do:p9:=av (A9 (L1 (aB<|p6 D0 (ab 1)<|jB ag)<|aB<|p6 D0 (p6 cx (ab 0)<|dC<|.int 8)<|dC<|.int 7) (bg<|ig<|aa (p6 aK (dC<|.int 1)<|p6 cx (p6 aJ (ab 0)<|dC<|.int 8)<|dC<|.int 50)<|aa (p6 u7 (ab 2)<|p6 cx (p6 aJ (ab 0)<|dC<|.int 400)<|s9 kZ<|aa (ab 2) ag) ag) bu)<|pO
theorem Bu(H:M <+: B)(a:al B q hs)(e:∀x∈hs,Hd x)(h1:1<=hs.length)(g:hs.length<=1000)(h:∀(t:Int) (z:b8) (k:Int),R (.tup [.int t,.tup [.str z,.int k]]) M):(ig<|aa (p6 aK (dC<|.int 1)<|p6 cx (p6 aJ (ab 0)<|dC<|.int 8)<|dC<|.int 50)<|aa (p6 u7 (ab 2)<|p6 cx (p6 aJ (ab 0)<|dC<|.int 400)<|s9 kZ<|aa (ab 2) ag) ag) [a7<|.int c,y1,a7<|.ref q] B (aO M R):=by walk_at"dl";obtain⟨d,b,G⟩:=jD (xs:=hs) (i:=c / 400) h1;obtain⟨z,k,rfl⟩:=e d b;refine⟨⟨by decide,by decide⟩,by decide,⟨by decide,by decide⟩,_,a,by lia,_,a,?_⟩;rw[G];exact⟨ao (by lia),aO.keep (h _ _ _) sG H⟩
theorem Ea:v8 nJ 3 Do:=by
 rintro ds M R ⟨c,p,q,s,hs,rfl,f,g,D,w,u,h1,v,h⟩;have e:Do=av (A9 (L1 (aB<|p6 D0 (ab 1)<|jB ag)<|aB<|p6 D0 (p6 cx (ab 0)<|dC<|.int 8)<|dC<|.int 7) (bg<|ig<|aa (p6 aK (dC<|.int 1)<|p6 cx (p6 aJ (ab 0)<|dC<|.int 8)<|dC<|.int 50)<|aa (p6 u7 (ab 2)<|p6 cx (p6 aJ (ab 0)<|dC<|.int 400)<|s9 kZ<|aa (ab 2) ag) ag) bu) pO:=rfl;have n:=Bu (M:=M) (B:=M++[MO.lst []]) (R:=R) (c:=c) (q:=q) (hs:=hs) (y1:=a7<|.ref p) bc (w.more _) u h1 v h;rw[e];generalize (ig<|aa (p6 aK (dC<|.int 1)<|p6 cx (p6 aJ (ab 0)<|dC<|.int 8)<|dC<|.int 50)<|aa (p6 u7 (ab 2)<|p6 cx (p6 aJ (ab 0)<|dC<|.int 400)<|s9 kZ<|aa (ab 2) ag) ag)=tn at n;walk_at"dl";obtain⟨o,l⟩:=qg f λx A=>by obtain⟨t,z,k,rfl⟩:=g x A;rfl
 refine⟨w4 _,o,?_⟩;rw[l];cases y:s.isEmpty with
 |true=>exact dI n
 |false =>
  refine cP ⟨by decide,⟨aE,aE⟩,?_⟩;cases t4 (M++[MO.lst []]) t8 (.int<|c % 8) (.int 7) with
  |true=>exact dI n
  |false =>
   refine cP ?_;have C:1<=s.length:=by cases s<;>simp_all
   simp only[pO];walk_at"dl";have d:=f.more [MO.lst []];have F:=ca (a:=c / 8) (b:=s.length) (by lia);have V:=cz (a:=c / 8) (b:=s.length) (by lia);refine⟨_,d,⟨by decide,by decide⟩,_,d,by lia,_,d,?_⟩;obtain⟨j,L,m,_⟩:=AZ (xs:=s) (i:=(s.length:Int)-1-c / 8 % (s.length:Int)) (by lia) (by lia);rw[m];obtain⟨t,z,k,r⟩:=g _<|KY L;dsimp only;rw[r];exact aO.keep (h _ _ _) sG bc
theorem zC(T:Tops P w K mg base):t9 P w K mg base 1 "_law_told" zx nJ:=t9.byD (N:=["_law_number","_law_says","_law_hands_here"]) T.b T.f_told (by walk_at"sc") Ci (by walk_at"dv") Ea
def gG:v6:=λds M R=>∃(c:Int) (q n:Nat) (hs:List D) (t:List (D×D)),ds=[.int c,.ref q,.ref n]/\al M q hs/\(∀x∈hs,Hd x)/\hs.Nodup/\hs.length<=12/\M[n]?=a7 (.dkt t)/\(∀x∈hs,∃i:Int,aQ t x=a7 (.int i))/\∀vs:List D,nM 3 vs->VecK vs->R (.tup vs) M
theorem xR:cy gG pV:=by rintro ds M R ⟨c,q,n,hs,t,rfl,_⟩;rfl
theorem lg{k:Nat}{vs:List (D×Int)}(h:∀p∈vs,Hd p.1):nM (k+2) (vs.map λp=>D.tup [p.1,.int p.2]):=nM.of λd a=>by obtain⟨p,b,rfl⟩:=ve.mp a;exact .tup<|.cons (FP<|h p b)<|.cons (.int _) .nil
def ou:p9:=bg<|s9 gc<|aa (ab 3) ag
def oz:p9:=aU (p6 aJ (ab 0)<|dC<|.int 5) 0
def oA:p9:=av (kW (bp<|ab 1) (ak 4)<|av (A9 (aB<|p6 D0 (p6 cx (ab 0)<|dC<|.int 2)<|dC<|.int 1) (kb<|KG cB (ab 3)<|aa (ig<|aa (ab 4)<|aa (p6 aK (dC<|.int 1)<|p6 cx (p6 aJ (ab 0)<|dC<|.int 2)<|dC<|.int 6) ag) ag) bu)<|oz)<|ou
def oB:p9:=av (aU (jB ag) 3)<|oA
def oE:p9:=av (aU (p6 aJ (ab 0)<|dC<|.int 2) 0)<|oB
def vW:p9:=av (A9 (aB<|p6 D0 (p6 cx (ab 0)<|dC<|.int 2)<|dC<|.int 0) (bg<|s9 gc<|aa (D1 1 [2] (bp<|ab 1) (ak 0) (aB<|p6 Lq (iU (ab 1)<|ab 0)<|dC<|.int 0)<|ig<|aa (ab 0)<|aa (iU (ab 1)<|ab 0) ag) ag) bu)<|oE
theorem yw:v8 gG 5 vW:=by
 rintro ds M R ⟨c,q,n,hs,t,rfl,e,m,f,x,o,u,h⟩;simp only[vW];walk_at"dl";refine⟨by decide,⟨aE,aE⟩,?_⟩;cases t4 M t8 (.int<|c % 2) (.int 0) with
 |true=>refine dI ⟨_,e,λ_=>?_⟩;refine gY (λys acc S d=>∃(vs:List (D×Int)) (a:Option D),acc=vs.map (λp=>.tup [p.1,.int p.2])/\(∀p∈vs,Hd p.1)/\vs.length+ys.length<=hs.length/\(∀y∈ys,y∈hs)/\(vs.map (·.1)++ys).Sublist hs/\d=M/\S=[a,a7<|.ref n]) ?_ ?_ _ _ _ _ ⟨[],_,rfl,(λ_ z=>nomatch z),by simp,λ_ z=>z,Ny _,rfl,rfl⟩;rintro acc S d ⟨vs,a,rfl,v,l,_,U,rfl,rfl⟩;exact⟨e,_,ae,aO.keep (h _ (lg v) ⟨vs,rfl,v,by simp at l;lia,by rw[K7]at U;exact U.nodup f⟩) (bw 4 _<|.tup<|lg v) bc⟩;rintro y ys acc S d ⟨vs,a,rfl,v,l,Q,U,rfl,rfl⟩ K B;refine⟨e,?_⟩;obtain⟨i,hi⟩:=u y (Q y<|by simp);obtain⟨z,k,rfl⟩:=m y (Q y<|by simp);rw[C7]at l;walk_at"dl";refine⟨t,_,o,rfl,hi,?_⟩;walk_at"dl";split;refine⟨t,_,o,rfl,hi,ao (by lia),by rw[u4];exact ar (by lia),B _ _ _ ⟨vs++[(.tup [.str z,.int k],i)],_,by simp,λp b=>?_,by rw[x5,F5];lia,λY h'=>Q Y<|A2 _ h',by rw[G7,F3];exact U,rfl,rfl⟩⟩;rcases D3.mp b with b|b;exact v p b;rw[J3.mp b];exact⟨_,_,rfl⟩;exact B _ _ _ ⟨vs,_,rfl,v,by lia,λY h'=>Q Y<|A2 _ h',((Ny _).append<|List.sublist_cons_self _ _).trans U,rfl,rfl⟩
 |false =>
  refine cP ?_;simp only[oE,oB,oA];walk_at"dl";refine⟨⟨by decide,by decide⟩,w4 _,_,e.more _,λ_=>?_⟩;refine aY (λi S d=>∃(vs:List (D×Int)) (r:Int) (a:Option D),vs.length<=i/\(∀p∈vs,Hd p.1)/\(vs.map (·.1)).Sublist (hs.take i)/\d=M++MO.lst (vs.map λp=>.tup [p.1,.int p.2])::[]/\S=[a7<|.int r,a7<|.ref q,a7<|.ref n,a7<|.ref M.length,a]) ?_ ?_ ⟨[],_,_,u5 _,(λ_ z=>nomatch z),Ny _,rfl,rfl⟩;rintro S d ⟨vs,r,a,l,v,U,rfl,rfl⟩;rw[K8]at U;refine⟨e.more _,?_⟩;simp only[ou];walk_at"dl";exact⟨_,.inl cF,aO.keep (h _ (lg v) ⟨vs,rfl,v,by lia,U.nodup f⟩) (bw 4 _<|.tup<|lg v) EH⟩;rintro i y S d Q ⟨vs,r,a,l,v,U,rfl,rfl⟩ G g;have s:hs.take (i+1)=hs.take i++[y]:=by rw[Lm,Q];rfl
  rw[s]at g;have w:=(w6.mp Q).1;have j:=m y<|F8 Q;refine⟨e.more _,?_⟩;simp only[oz];walk_at"dl";refine⟨by decide,⟨aE,aE⟩,?_⟩;split;refine⟨⟨_,.inl cF⟩,⟨by decide,by decide⟩,by decide,ao (by lia),_,cF,by rw[u4];exact ar (by lia),⟨by decide,by decide⟩,A4.now<|g _ _ ⟨vs++[(y,1+r / 2 % 6)],_,_,by rw[x5,F5];lia,λp b=>?_,by rw[G7];exact U.append<|Ny _,by rw[mv];simp,rfl⟩⟩;rcases D3.mp b with b|b;exact v p b;rw[J3.mp b];exact j;exact⟨⟨by decide,by decide⟩,A4.now<|g _ _ ⟨vs,_,_,by lia,v,U.trans<|List.sublist_append_left _ _,rfl,rfl⟩⟩
theorem zB(T:Tops P w K mg base):t9 P w K mg base 1 "_law_vector" pV gG:=t9.byD (N:=["_law_number","_law_hands_here","_law_counts","_law_found","_law_hand"]) T.b T.f_vector (by walk_at"sc") xR (by walk_at"dv") yw
def qN:v6:=λds M R=>∃(c:Int) (ps:List (b8×Int)) (a:List (b8×List b8)) (p q:Nat) (s hs:List D),ds=[.int c,ax ps a,.ref p,.ref q]/\HouseF ps a/\al M p s/\L6 s/\s.length<=1000/\al M q hs/\(∀x∈hs,Hd x)/\1<=hs.length/\hs.length<=1000/\∀w:D,Kb w->R w M
theorem Ch:cy qN zw:=by rintro ds M R ⟨c,ps,a,p,q,s,hs,rfl,_⟩;rfl
def vU:p9:=bg<|ig<|aa (dC<|.str "under")<|aa (s9 nJ<|aa (p6 aJ (ab 0)<|dC<|.int 3)<|aa (ab 2)<|aa (ab 3) ag) ag
def vV:p9:=av (A9 (aB<|p6 D0 (p6 cx (ab 0)<|dC<|.int 3)<|dC<|.int 1) (bg<|ig<|aa (dC<|.str "person")<|aa (p6 u7 (p6 u7 (p6 u7 (ab 1)<|dC<|.int 0)<|p6 cx (p6 aJ (ab 0)<|dC<|.int 3)<|s9 kZ<|aa (p6 u7 (ab 1)<|dC<|.int 0) ag)<|dC<|.int 0) ag) bu)<|vU
def Dm:p9:=av (A9 (aB<|p6 D0 (p6 cx (ab 0)<|dC<|.int 3)<|dC<|.int 0) (bg<|ig<|aa (dC<|.str "room")<|aa (p6 u7 (p6 u7 (p6 u7 (ab 1)<|dC<|.int 1)<|p6 cx (p6 aJ (ab 0)<|dC<|.int 3)<|s9 kZ<|aa (p6 u7 (ab 1)<|dC<|.int 1) ag)<|dC<|.int 0) ag) bu)<|vV
theorem DZ:v8 qN 4 Dm:=by
 rintro ds M R ⟨c,ps,l,p,q,s,hs,rfl,f,e,o,m,j,b,h1,g,h⟩;simp only[Dm,ax];walk_at"dl";refine⟨by decide,⟨aE,aE⟩,?_⟩;cases t4 M t8 (.int<|c % 3) (.int 0) with
 |true=>obtain⟨d,a,G⟩:=jD (xs:=l.map my) (i:=c / 3) (by rw[u4];exact f.rl.1);obtain⟨r,_,rfl⟩:=ve.mp a;refine dI ⟨⟨by decide,by decide⟩,by rw[u4];have:=f.rl.1;lia,?_⟩;rw[G];unfold my;walk_at"dl";exact⟨ao (by lia),aO.now<|h _<|.inl ⟨_,rfl⟩⟩
 |false =>
  refine cP ?_;simp only[vV];walk_at"dl";refine⟨by decide,⟨aE,aE⟩,?_⟩;cases t4 M t8 (.int<|c % 3) (.int 1) with
  |true=>obtain⟨d,a,G⟩:=jD (xs:=ps.map dW) (i:=c / 3) (by rw[u4];exact f.len.1);obtain⟨r,_,rfl⟩:=ve.mp a;refine dI ⟨⟨by decide,by decide⟩,by rw[u4];have:=f.len.1;lia,?_⟩;rw[G];unfold dW;walk_at"dl";exact⟨ao (by lia),aO.now<|h _<|.inr<|.inl ⟨_,rfl⟩⟩
  |false=>refine cP ?_;simp only[vU];walk_at"dl";exact⟨⟨by decide,by decide⟩,_,p,q,s,hs,rfl,e,o,m,j,b,h1,g,λt z k=>⟨ao (by lia),aO.now<|h _<|.inr<|.inr ⟨_,_,_,rfl⟩⟩⟩
theorem EV(T:Tops P w K mg base):t9 P w K mg base 2 "_law_what" zw qN:=t9.byD (N:=["_law_number","_law_house_here","_law_says","_law_hands_here"]) T.b T.f_what (by walk_at"sc") Ch (by have:=zC T;walk_at"dv") DZ
def xb:v6:=λds M R=>∃(c:Int) (ps:List (b8×Int)) (a:List (b8×List b8)) (p q n:Nat) (s hs:List D) (t:List (D×D)),ds=[.int c,ax ps a,.ref p,.ref q,.ref n]/\HouseF ps a/\al M p s/\L6 s/\s.length<=1000/\al M q hs/\(∀x∈hs,Hd x)/\1<=hs.length/\hs.length<=12/\hs.Nodup/\M[n]?=a7 (.dkt t)/\(∀x∈hs,∃i:Int,aQ t x=a7 (.int i)) /\∀(x:b8) (ds:List D),nM 4 ds->ActK a x ds->R (.tup<|.str x::ds) M
theorem Fi:cy xb ET:=by rintro ds M R ⟨c,ps,a,p,q,n,s,hs,t,rfl,_⟩;rfl
theorem Bw:E9 (n+2) (.tup [.int t,.tup [.str z,.int k]]):=.tup<|.cons (.int _)<|.cons (.tup<|.cons (.str _)<|.cons (.int _) .nil) .nil
def wt:p9:=bg<|p6 u7 (jB<|aa (ig<|aa (dC<|.str "rung")<|aa (ab 8) ag)<|aa (ig<|aa (dC<|.str "read")<|aa (ab 7)<|aa (s9 gG<|aa (p6 aJ (ab 0)<|dC<|.int 4)<|aa (ab 3)<|aa (ab 4) ag) ag) ag)<|p6 cx (p6 aJ (ab 0)<|dC<|.int 3)<|dC<|.int 2
def wu:p9:=av (A9 (aB<|p6 D0 (ab 5)<|dC<|.int 14) (bg<|ig<|aa (dC<|.str "hush")<|aa (s9 qN<|aa (p6 aJ (ab 0)<|dC<|.int 3)<|aa (ab 1)<|aa (ab 2)<|aa (ab 3) ag)<|aa (p6 Lq (p6 cx (ab 0)<|dC<|.int 3)<|dC<|.int 0) ag) bu)<|wt
def wv:p9:=av (A9 (aB<|p6 D0 (ab 5)<|dC<|.int 13) (bg<|ig<|aa (dC<|.str "seen")<|aa (ab 8) ag) bu)<|wu
def ww:p9:=av (A9 (aB<|p6 D0 (ab 5)<|dC<|.int 12) (bg<|ig<|aa (dC<|.str "read")<|aa (ab 7)<|aa (s9 gG<|aa (p6 aJ (ab 0)<|dC<|.int 4)<|aa (ab 3)<|aa (ab 4) ag) ag) bu)<|wv
def wx:p9:=bg<|ig<|aa (dC<|.str "like")<|aa (ab 8)<|aa (p6 u7 (ab 10)<|p6 cx (p6 aJ (ab 0)<|dC<|.int 2000)<|s9 kZ<|aa (ab 10) ag)<|aa (p6 Lq (p6 cx (ab 0)<|dC<|.int 4)<|dC<|.int 0) ag
def yW:p9:=av (A9 (aB<|p6 KM (ab 5)<|dC<|.int 12) (av (aU (p6 aK (ab 6)<|jB<|aa (dC<|.str "good") ag) 10)<|wx) bu)<|ww
def yX:p9:=av (A9 (aB<|p6 D0 (ab 5)<|dC<|.int 8) (bg<|ig<|aa (dC<|.str "back")<|aa (ab 8) ag) bu)<|yW
def yY:p9:=av (A9 (aB<|p6 KM (ab 5)<|dC<|.int 8) (bg<|ig<|aa (dC<|.str "change")<|aa (ab 8)<|aa (s9 gI<|aa (p6 aJ (ab 0)<|dC<|.int 12)<|aa (ab 6) ag) ag) bu)<|yX
def yZ:p9:=bg<|ig<|aa (dC<|.str "say")<|aa (ab 7)<|aa (ab 9)<|aa (s9 gI<|aa (p6 aJ (ab 0)<|dC<|.int 12)<|aa (ab 6) ag) ag
def uG:p9:=av (A9 (aB<|p6 KM (ab 5)<|dC<|.int 6) (av (aU (p6 u7 (jB<|aa (dC .non)<|aa (ab 8)<|aa (ab 8) ag)<|p6 cx (p6 aJ (ab 0)<|dC<|.int 4)<|dC<|.int 3) 9)<|yZ) bu)<|yY
def za:p9:=av (aU (s9 nJ<|aa (p6 aJ (ab 0)<|dC<|.int 4)<|aa (ab 2)<|aa (ab 3) ag) 8)<|uG
def zb:p9:=av (aU (p6 u7 (p6 u7 (p6 u7 (ab 1)<|dC<|.int 1)<|p6 cx (ab 0)<|s9 kZ<|aa (p6 u7 (ab 1)<|dC<|.int 1) ag)<|dC<|.int 0) 7)<|za
def zc:p9:=av (iA 2 [] (bp<|p6 u7 (ab 1)<|dC<|.int 0) (nD 2<|cf (ak 0)<|cf (ak 1) nE) nL (ab 0) 6)<|zb
def zd:p9:=av (aU (p6 aJ (ab 0)<|dC<|.int 16) 0)<|zc
def GT:p9:=av (aU (p6 cx (ab 0)<|dC<|.int 16) 5)<|zd
theorem gD(H:M <+: B)(h:∀(x:b8) (ds:List D),nM 4 ds->ActK rs x ds->R (.tup<|.str x::ds) M)(p:nM 4 ds)(a:ActK rs x ds):aO M R (.tup<|.str x::ds) B:=aO.keep (h x ds p a) (bw 5 _<|.tup<|.cons (.str _) p) H
theorem act_5{M B:tx}{R:DK}{c e:Int}{ps:List (b8×Int)}{rs:List (b8×List b8)}{p q n C:Nat}{s hs:List D}{f:List (D×D)}{m:b8}{t:Int}{z:b8}{k:Int}{ns:List b8}(H:M <+: B)(hf:HouseF ps rs)(hp:al B p s)(so:L6 s)(sl:s.length<=1000)(G:al B q hs)(F:∀x∈hs,Hd x)(h1:1<=hs.length)(N:hs.length<=12)(l:hs.Nodup)(O:B[n]?=a7 (.dkt f))(L:∀x∈hs,∃i:Int,aQ f x=a7 (.int i))(E:B[C]?=a7 (.lst<|ns.map .str))(U:1<=ns.length)(n4:ns.length<=4)(V:∀x∈ns,x.length<=8)(I:m∈rs.map (·.1))(h:∀(x:b8) (ds:List D),nM 4 ds->ActK rs x ds->R (.tup<|.str x::ds) M):uG (EE M R) [a7<|.int c,a7<|ax ps rs,a7<|.ref p,a7<|.ref q,a7<|.ref n,a7<|.int e,a7<|.ref C,a7<|.str m,a7<|.tup [.int t,.tup [.str z,.int k]],a8,a8] B:=by
 have sp:∀{j:Nat},E9 (j+2) (.tup [.int t,.tup [.str z,.int k]]):=Bw;have S:St (.tup [.int t,.tup [.str z,.int k]]):=⟨_,_,_,rfl⟩
 generalize hS:D.tup [.int t,.tup [.str z,.int k]]=W at sp S;simp only[uG];walk_at"dl";by_cases Q:e<6;rw[dT_ Q];refine dI ?_;have Z:=ca (a:=c / 4) (b:=3) (by decide);have K:=cz (a:=c / 4) (b:=3) (by decide);refine⟨ao (by lia),⟨by decide,by decide⟩,by decide,_,ae,?_⟩;obtain⟨u,Y,pu,hu⟩:∃u,atI [D.non,W,W] (c / 4 % 3)=a7 u/\E9 4 u/\(u=.non\/St u):=by
  generalize c / 4 % 3=v at Z K;have:v=0\/v=1\/v=2:=by lia
  rcases this with rfl|rfl|rfl;exact⟨_,ap (j:=0) rfl,.non,.inl rfl⟩;exact⟨_,ap (j:=1) rfl,sp,.inr S⟩;exact⟨_,ap (j:=2) rfl,sp,.inr S⟩
 rw[Y];simp only[yZ];walk_at"dl";exact⟨⟨by decide,by decide⟩,_,C,ns,rfl,.inl<|ac E,U,by lia,V,λx=>⟨ao (by lia),gD (H.trans bc) h (.cons (.str _)<|.cons pu<|.cons (.str _) .nil)<|.mkSay I hu⟩⟩;rw[dF_ Q];refine cP ?_;simp only[yY];walk_at"dl";by_cases T:e<8;rw[dT_ T];exact dI ⟨⟨by decide,by decide⟩,_,C,ns,rfl,.inl E,U,by lia,V,λx=>⟨ao (by lia),gD H h (.cons sp<|.cons (.str _) .nil)<|.mkChange S⟩⟩;rw[dF_ T];refine cP ?_;simp only[yX];walk_at"dl";refine⟨⟨aE,aE⟩,?_⟩;split;exact⟨ao (by lia),gD H h (.cons sp .nil)<|.mkBack S⟩;simp only[yW];walk_at"dl";by_cases o:e<12;rw[dT_ o];have J:(ns.map D.str++[D.str<|r9 "good"]).length=ns.length+1:=by simp
 refine dI ⟨ao (by lia),_,_,ac E,ad,by rw[<-x5,J];exact ao (by lia),?_⟩;simp only[wx];walk_at"dl";obtain⟨d,g,X⟩:=jD (xs:=ns.map D.str++[D.str<|r9 "good"]) (i:=c / 2000) (by lia);obtain⟨y,rfl⟩:∃y:b8,d=.str y:=by rcases D3.mp g with g|g;obtain⟨y,_,rfl⟩:=ve.mp g;exact⟨y,rfl⟩;exact⟨_,J3.mp g⟩
 refine⟨⟨by decide,by decide⟩,_,ae,by lia,_,ae,?_⟩;rw[X];exact⟨by decide,ao (by lia),gD ((H.trans bc).trans bc) h (.cons sp<|.cons (.str _)<|.cons (.bl _) .nil)<|.mkLike S⟩;rw[dF_ o];refine cP ?_;simp only[ww];walk_at"dl";refine⟨⟨aE,aE⟩,?_⟩;have r:∀{vs:List D}{B':tx},M <+: B'->nM 3 vs->VecK vs->aO M R (.tup [.str<|r9 "read",.str m,.tup vs]) B':=λpb pv A=>gD pb h (.cons (.str _)<|.cons (.tup pv) .nil)<|.mkRead A;split;exact⟨⟨by decide,by decide⟩,_,q,n,hs,f,rfl,G,F,l,N,O,L,λvs pv A=>⟨ao (by lia),r H pv A⟩⟩;simp only[wv];walk_at"dl";refine⟨⟨aE,aE⟩,?_⟩;split;exact⟨ao (by lia),gD H h (.cons sp .nil)<|.mkSeen S⟩;simp only[wu];walk_at"dl";refine⟨⟨aE,aE⟩,?_⟩;split;exact⟨⟨by decide,by decide⟩,_,ps,rs,p,q,s,hs,rfl,hf,hp,so,sl,G,F,h1,by lia,λw P=>⟨by decide,ao (by lia),gD H h (.cons P.pl4<|.cons (.bl _) .nil)<|.mkHush P⟩⟩;simp only[wt];walk_at"dl";have Z:=ca (a:=c / 3) (b:=2) (by decide);have K:=cz (a:=c / 3) (b:=2) (by decide);refine⟨ao (by lia),⟨by decide,by decide⟩,_,q,n,hs,f,rfl,G,F,l,N,O,L,λvs pv A=>⟨ao (by lia),ao (by lia),⟨by decide,by decide⟩,by decide,_,ae,?_⟩⟩;generalize c / 3 % 2=v at Z K;have:v=0\/v=1:=by lia
 rcases this with rfl|rfl;rw[NU];exact gD (H.trans bc) h (.cons sp .nil)<|.mkRung S;rw[LI];exact r (H.trans bc) pv A
theorem GL:v8 xb 11 GT:=by
 rintro ds M R ⟨c,ps,P,p,q,n,s,hs,E,rfl,f,o,A,y,u,m,h1,L,g,N,K,h⟩;simp only[GT,zd];walk_at"dl";refine⟨by decide,⟨by decide,by decide⟩,?_⟩;generalize c % 16=w;generalize c / 16=C;simp only[zc,ax];walk_at"dl";intro _;refine aZ (λd=>match d with|.tup (x::_)=>x|_=>.non) (λS=>∃a b,S=[a,b]) trivial _ _ _ (λd e S I=>?_) ⟨_,_,rfl⟩ ?_ ?_;obtain⟨a,b,rfl⟩:=I;obtain⟨r,v,rfl⟩:=ve.mp e;refine⟨[a7<|.str r.1,a7<|.int r.2],⟨_,_,rfl⟩,λY J=>?_⟩;unfold dW;walk_at"dl";exact⟨trivial,J⟩;rw[C0,u4];have:=f.len.2;exact ao (by lia);have F:(ps.map dW).map (λd=>match d with|.tup (x::_)=>x|_=>.non)=(ps.map (·.1)).map D.str:=by rw[E2,E2];rfl
 rw[E3,F];have l:(M++[MO.lst ((ps.map (·.1)).map D.str)])[M.length]?=a7 (.lst ((ps.map (·.1)).map D.str)):=ad;have H:M <+: M++[MO.lst ((ps.map (·.1)).map D.str)]:=bc;generalize M++[MO.lst ((ps.map (·.1)).map D.str)]=B at l H;generalize M.length=Q at l;simp only[zb];walk_at"dl";obtain⟨d,e,G⟩:=jD (xs:=P.map my) (i:=C) (by rw[u4];exact f.rl.1);obtain⟨r,v,rfl⟩:=ve.mp e;refine⟨by rw[u4];have:=f.rl.1;lia,?_⟩;rw[G];rw[show my r=.tup [.str r.1,.tup<|r.2.map .str]from rfl];walk_at"dl";simp only[za];walk_at"dl";refine⟨⟨by decide,by decide⟩,_,p,q,s,hs,rfl,bO H o,A,y,bO H u,m,h1,by lia,λt z k=>?_⟩;exact act_5 (ns:=ps.map (·.1)) H f (bO H o) A y (bO H u) m h1 L g (bn H N) K l (by rw[u4];exact f.len.1) (by rw[u4];exact f.len.2) (λx O=>by obtain⟨r',j,rfl⟩:=ve.mp O;exact f.nm r' j) (Kj v) h
theorem Ig(T:Tops P w K mg base):t9 P w K mg base 3 "_law_act" ET xb:=t9.byD (N:=["_law_number","_law_house_here","_law_says","_law_hands_here","_law_counts","_law_kind","_law_names_here","_law_room","_law_message","_law_under","_law_sorts"]) T.b T.f_act (by walk_at"sc") Fi (by have:=zE T;have:=zC T;have:=zB T;have:=EV T;walk_at"dv") GL
noncomputable def pL:D->Int
 |.tup (.int t::_)=>t
 |_=>0
theorem tI:∀{xs:List D},(∀x∈xs,f x x=a9)->qQ f g xs xs=bt
 | [],_=>rfl
 |x::xs,h=>by show (if f x x=a9 then qQ f g xs xs else g x x)=bt;rw[n6<|h x<|by simp];exact tI λy hy=>h y<|A2 _ hy
theorem uc:∀{xs:List D},(∀x∈xs,f x x=a9)->yk f g xs xs=a9
 | [],_=>rfl
 |x::xs,h=>by show (if f x x=a9 then yk f g xs xs else g x x)=a9;rw[n6<|h x<|by simp];exact uc λy hy=>h y<|A2 _ hy
structure GenH(ps:List (b8×Int))(rs:List (b8×List b8))(hs deeds:List D)(cnt las:List (D×D))(g:Int):Prop where
 deed:∀d∈deeds,aC ps rs d
 up:deeds.Pairwise λa b=>iR a=iR b->pL a<pL b
 last:∀h∈hs,∃t:Int,aQ las h=a7 (.int t)/\(0<=t/\t<=g)/\∀d∈deeds,iR d=h->pL d<=t
 cnt:∀h∈hs,∃i:Int,aQ cnt h=a7 (.int i)/\0<=i
 nn:∀d∈deeds,0<=numD d
 le:∀d∈deeds,pL d<=g
theorem Hm{α:Type}{r:α->α->Prop}:∀{l:List α}{a b:α},l.Pairwise r->a∈l->b∈l->a≠b->r a b\/r b a
 |x::l,a,b,h,ha,hb,ne=>by rw[List.pairwise_cons]at h;rcases z5.mp ha with e1|h1;rcases z5.mp hb with e2|h2;exact o0 (e1.trans e2.symm) ne;rw[e1];exact .inl<|h.1 b h2;rcases z5.mp hb with e2|h2;rw[e2];exact .inr<|h.1 a h1;exact Hm h.2 h1 h2 ne
theorem GenH.step{ps:List (b8×Int)}{rs:List (b8×List b8)}{hs s:List D}{f l:List (D×D)}{g:Int}(G:GenH ps rs hs s f l g){z:b8}{k t T num i:Int}{x:b8}{ds:List D}(j:D.tup [.str z,.int k]∈hs)(E:aQ l (.tup [.str z,.int k])=a7 (.int t))(A:t<T)(w:0<=num)(Y:0<=i)(y:nM 4 ds)(v:ActK rs x ds)(n:∀x∈hs,x∈aT ps):GenH ps rs hs (s++[.tup [.int T,.tup [.str z,.int k],.int num,.tup<|.str x::ds]]) (iD f (.tup [.str z,.int k])<|.int i) (iD l (.tup [.str z,.int k])<|.int T) (if T > g then T else g):=by
 have p:g<=(if T > g then T else g):=by split<;>lia
 have Tle:T<=(if T > g then T else g):=by split<;>lia
 refine⟨λd m=>?_,?_,λh m=>?_,λh m=>?_,λd m=>?_,λd m=>?_⟩;rcases D3.mp m with m|m;exact G.deed d m;rw[J3.mp m];exact⟨T,z,k,num,x,ds,rfl,by obtain⟨t',c,q,_⟩:=G.last _ j;rw[E]at c;injection c with c;injection c with c;lia,n _ j,y,v⟩;refine List.pairwise_append.mpr ⟨G.up,Pb _ _,λa r b u=>?_⟩;rw[J3.mp u];intro e;obtain⟨t',c,_,le⟩:=G.last _ j;rw[E]at c;injection c with c;injection c with c;have:=le a r e;show pL a<T;lia;by_cases e:h=.tup [.str z,.int k];subst e;refine⟨T,dJ,⟨by obtain⟨t',c,q,_⟩:=G.last _ j;rw[E]at c;injection c with c;injection c with c;lia,Tle⟩,λd m e=>?_⟩;rcases D3.mp m with m|m;obtain⟨t',c,_,le⟩:=G.last _ j;rw[E]at c;injection c with c;injection c with c;have:=le d m e;lia;rw[J3.mp m];exact Nm _;obtain⟨t',c,h1,le⟩:=G.last h m;refine⟨t',by rw[dz e];exact c,⟨h1.1,by have:=h1.2;lia⟩,λd m o=>?_⟩;rcases D3.mp m with m|m;exact le d m o;rw[J3.mp m]at o;exact o0 o.symm e;by_cases e:h=.tup [.str z,.int k];subst e;exact⟨_,dJ,Y⟩;rw[dz e];exact G.cnt h m;rcases D3.mp m with m|m;exact G.nn d m;rw[J3.mp m];exact w;rcases D3.mp m with m|m;exact Int.le_trans (G.le d m) p;rw[J3.mp m];exact Tle
theorem tY(G:GenH ps rs hs deeds cnt las g)(l:deeds.length<64):SrtG M deeds/\∀a∈deeds,∀b∈deeds,A7 M t8 a b=decide (A0 t8 (t7 a)<A0 t8 (t7 b)):=by
 have p:∀d∈deeds,u3 M t8 d=a9/\t4 M t8 d d=a9:=λd u=>Du 6 t8 d (by decide) (G.deed d u).pl;have s:∀{a:D}{xs:List D},a=.tup xs->E9 6 a->∀x∈xs,t4 M 29 x x=a9:=λ{a xs} e h x hx=>by subst e;exact(Du 5 29 x (by decide)<|Fn.mp h x hx).2
 have i:∀{t z k n x ds t' c I m S ds'},D.tup [.int t,.tup [.str z,.int k],.int n,.tup<|.str x::ds]∈deeds->D.tup [.int t',.tup [.str c,.int I],.int m,.tup<|.str S::ds']∈deeds->D.tup [.int t,.tup [.str z,.int k],.int n,.tup<|.str x::ds]≠D.tup [.int t',.tup [.str c,.int I],.int m,.tup<|.str S::ds']->t=t'->t4 M 29 (.tup [.str z,.int k]) (.tup [.str c,.int I])=bt:=by intro t z k n x ds t' c I m S ds' f j v o;refine KJ.mpr λe=>?_;have U:=(FQ (M:=M) (n:=28) (a:=.tup [.str z,.int k]) (b:=.tup [.str c,.int I]) ⟨_,_,rfl⟩ ⟨_,_,rfl⟩).mp e;rcases Hm G.up f j v with q|q;have:=q U;simp only[pL]at this;lia;have:=q U.symm;simp only[pL]at this;lia
 have lt:∀a∈deeds,∀b∈deeds,A7 M t8 a b=decide (A0 t8 (t7 a)<A0 t8 (t7 b)):=λa f b j=>by
  have w:∀{t t':Int}{z c:b8}{k I:Int},A7 M t8 (.tup [.int t,.tup [.str z,.int k]]) (.tup [.int t',.tup [.str c,.int I]])=decide (A0 t8 (.tup [.int t,.tup [.str z,.int k]])<A0 t8 (.tup [.int t',.tup [.str c,.int I]])):=λ{t t' z c k I}=>by
   refine uV rfl rfl ?_;show (if t4 M 29 (.int t) (.int t')=a9 then(if t4 M 29 (.tup [.str z,.int k]) (.tup [.str c,.int I])=a9 then a9 else(if t4 M 28 (.str z) (.str c)=a9 then(if t4 M 28 (.int k) (.int I)=a9 then a9 else a9)else a9))else a9)=a9
   repeat' split
   all_goals rfl
  by_cases e:a=b;subst e;obtain⟨t,z,k,n,x,ds,e,_⟩:=G.deed a f;have:=s e (G.deed a f).pl;rw[dF_<|Kw _,e];exact tI this;obtain⟨t,z,k,n,x,ds,rfl,_⟩:=G.deed a f;obtain⟨t',c,I,m,S,ds',rfl,_⟩:=G.deed b j;have r:=i f j e;refine Eq.trans ?_ w;show (if t4 M 29 (.int t) (.int t')=a9 then(if t4 M 29 (.tup [.str z,.int k]) (.tup [.str c,.int I])=a9 then qQ (t4 M 29) (A7 M 29) [.int n,.tup<|.str x::ds] [.int m,.tup<|.str S::ds']else A7 M 29 (.tup [.str z,.int k]) (.tup [.str c,.int I]))else A7 M 29 (.int t) (.int t'))=(if t4 M 29 (.int t) (.int t')=a9 then(if t4 M 29 (.tup [.str z,.int k]) (.tup [.str c,.int I])=a9 then bt else A7 M 29 (.tup [.str z,.int k]) (.tup [.str c,.int I]))else A7 M 29 (.int t) (.int t'))
  rw[iS];by_cases o:t=t';rw[r o];rfl;rw[beq_eq_false_iff_ne.mpr o];rfl
 refine⟨⟨l,λd u=>(p d u).1,λa f b j=>?_,.inr<|.inr<|.inr<|.inl λa f=>?_,λd=>A0 t8<|t7 d,lt⟩,lt⟩
 ·by_cases e:a=b
  subst e;obtain⟨t,z,k,n,x,ds,e,_⟩:=G.deed a f;have:=s e (G.deed a f).pl;rw[e];exact uc this
  ·obtain⟨t,z,k,n,x,ds,rfl,_⟩:=G.deed a f
   obtain⟨t',c,I,m,S,ds',rfl,_⟩:=G.deed b j;have r:=i f j e;show (if t4 M 29 (.int t) (.int t')=a9 then(if t4 M 29 (.tup [.str z,.int k]) (.tup [.str c,.int I])=a9 then yk (t4 M 29) (kc M 29) [.int n,.tup<|.str x::ds] [.int m,.tup<|.str S::ds']else(if t4 M 28 (.str z) (.str c)=a9 then(if t4 M 28 (.int k) (.int I)=a9 then a9 else a9)else a9))else a9)=a9;rw[iS];by_cases o:t=t'
   ·rw[r o]
    repeat' split
    all_goals first|rfl|contradiction
   rw[beq_eq_false_iff_ne.mpr o];rfl
 obtain⟨t,z,k,n,x,ds,rfl,_⟩:=G.deed a f;exact⟨_,_,rfl⟩
theorem AI(G:GenH ps rs hs deeds cnt las g)(l:deeds.length<64)(p:ys.Perm deeds)(i:Gz M ys):Ld ys:=by
 have c:ys.Pairwise λa b=>t7 a≠t7 b:=by refine(p.pairwise_iff λ{a b} h=>C3 h).mpr<|(O3.mp G.up).imp λ{a b} ⟨ha,hb,q⟩ e=>?_;obtain⟨t,z,k,n,x,ds,rfl,_⟩:=G.deed a ha;obtain⟨t',m,I,j,S,ds',rfl,_⟩:=G.deed b hb;simp only[t7,D.tup.injEq,Mg,D.int.injEq,D.str.injEq,and_true]at e;obtain⟨rfl,rfl,rfl⟩:=e;have:=q rfl;simp only[pL]at this;lia
 refine(O3.mp<|i.and c).imp λ{a b} ⟨ha,hb,q,ne⟩=>?_;rw[(tY G l).2 b (p.mem_iff.mp hb) a<|p.mem_iff.mp ha]at q;refine LC λh=>ne ?_;have d:=(G.deed a<|p.mem_iff.mp ha).st;have y:=(G.deed b<|p.mem_iff.mp hb).st;have o:A6 t8 (t7 a)=a9:=by obtain⟨t,z,k,e⟩:=d;rw[e];rfl
 have f:A6 t8 (t7 b)=a9:=by obtain⟨t,z,k,e⟩:=y;rw[e];rfl
 exact FX (M:=[]) o f (d.cm y)<|List.le_antisymm (List.not_lt.mp<|of_decide_eq_false q)<|List.not_lt.mp h
def xa:v6:=λds M R=>∃(ps:List (b8×Int)) (a:List (b8×List b8)) (p q:Nat) (ns:List Int) (hs:List D),ds=[ax ps a,.ref p,.ref q]/\HouseF ps a/\al M p (ns.map .int)/\ns.length<=40/\al M q hs/\(∀x∈hs,x∈aT ps)/\1<=hs.length/\hs.length<=12/\hs.Nodup/\∀log:List D,(∀d∈log,aC ps a d)->(∀d∈log,pL d<=200)->(∀d∈log,0<=numD d)->log.length<=40->Ld log->R (.tup log) M
theorem Fg:cy xa ER:=by rintro ds M R ⟨ps,a,p,q,ns,hs,rfl,_⟩;rfl
structure G3(M B:tx)(deeds sts:List D)(cnt las:List (D×D)):Prop where
 pre:M <+: B
 deeds:B[M.length]?=a7 (.lst deeds)
 sts:B[M.length+1]?=a7 (.lst sts)
 cnt:B[M.length+2]?=a7 (.dkt cnt)
 las:B[M.length+3]?=a7 (.dkt las)
section
variable{M B:tx}{deeds sts:List D}{cnt las:List (D×D)}
theorem G3.more{L:tx}(g:G3 M B deeds sts cnt las):G3 M (B++L) deeds sts cnt las:=⟨g.pre.trans<|Kq _ _,bn (Kq _ _) g.deeds,bn (Kq _ _) g.sts,bn (Kq _ _) g.cnt,bn (Kq _ _) g.las⟩
theorem G3.setDeeds(g:G3 M B deeds sts cnt las):G3 M (B.set M.length<|.lst deeds') deeds' sts cnt las:=⟨bY g.pre<|u5 _,cc g.deeds,aR (by lia) g.sts,aR (by lia) g.cnt,aR (by lia) g.las⟩
theorem G3.setSts(g:G3 M B deeds sts cnt las):G3 M (B.set (M.length+1)<|.lst sts') deeds sts' cnt las:=⟨bY g.pre (by lia),aR (by lia) g.deeds,cc g.sts,aR (by lia) g.cnt,aR (by lia) g.las⟩
theorem G3.setCnt(g:G3 M B deeds sts cnt las):G3 M (B.set (M.length+2)<|.dkt cnt') deeds sts cnt' las:=⟨bY g.pre (by lia),aR (by lia) g.deeds,aR (by lia) g.sts,cc g.cnt,aR (by lia) g.las⟩
theorem G3.setLas(g:G3 M B deeds sts cnt las):G3 M (B.set (M.length+3)<|.dkt las') deeds sts cnt las':=⟨bY g.pre (by lia),aR (by lia) g.deeds,aR (by lia) g.sts,aR (by lia) g.cnt,cc g.las⟩
end
def we:p9:=bg<|s9 gc<|aa (s9 jK<|aa (ab 3) ag) ag
def wf:p9:=A9 (aB<|p6 D0 (p6 u7 (ab 11)<|dC<|.int 0)<|dC<|.str "say") (kb<|KG cB (ab 4)<|aa (ig<|aa (ab 10)<|aa (ab 7) ag) ag) bu
def wg:p9:=av (aU (s9 zm<|aa (ab 8)<|aa (ab 10) ag) 8)<|wf
def wj:p9:=av (qH (ab 6) (ab 7)<|ab 10)<|wg
def wk:p9:=av (qH (ab 5) (ab 7)<|p6 aK (iU (ab 5)<|ab 7)<|dC<|.int 1)<|wj
def wm:p9:=av (kb<|KG cB (ab 3)<|aa (ig<|aa (ab 10)<|aa (ab 7)<|aa (iU (ab 5)<|ab 7)<|aa (ab 11) ag) ag)<|wk
def wn:p9:=av (aU (s9 xb<|aa (p6 aJ (ab 9)<|dC<|.int 20)<|aa (ab 0)<|aa (ab 4)<|aa (ab 2)<|aa (ab 5) ag) 11)<|wm
def yH:p9:=av (aU (p6 aK (p6 u7 (jB<|aa (ab 8)<|aa (iU (ab 6)<|ab 7)<|aa (p6 aK (iU (ab 6)<|ab 7)<|p6 cx (p6 aJ (ab 9)<|dC<|.int 4)<|dC<|.int 5)<|aa (ab 8) ag)<|p6 cx (ab 9)<|dC<|.int 4)<|dC<|.int 1) 10)<|wn
def uF:p9:=av (aU (p6 aJ (ab 9)<|dC<|.int 12) 9)<|yH
def yI:p9:=av (kW (bp<|ab 1) (ak 9)<|av (aU (p6 u7 (ab 2)<|p6 cx (ab 9)<|s9 kZ<|aa (ab 2) ag) 7)<|uF)<|we
def yJ:p9:=av (aU (dC<|.int 0) 8)<|yI
def yK:p9:=qH (ab 6) (ab 7)<|dC<|.int 0
def yL:p9:=av (kW (bp<|ab 2) (ak 7)<|av (qH (ab 5) (ab 7)<|dC<|.int 0)<|yK)<|yJ
def yM:p9:=av (aU (vI) 6)<|yL
def yN:p9:=av (aU (vI) 5)<|yM
def yO:p9:=av (aU (jB ag) 4)<|yN
def GR:p9:=av (aU (jB ag) 3)<|yO
theorem Cg{M B:tx}{E:DEnds}{s f hs:List D}{e l:List (D×D)}{r num:Int}{ps:List (b8×Int)}{rs:List (b8×List b8)}{p q:Nat}{y7 O P:Option D}{n:Nat}(g:G3 M B s f e l)(G:GenH ps rs hs s e l r)(hf:HouseF ps rs)(V:al M q hs)(h:∀x∈hs,x∈aT ps)(h1:1<=hs.length)(hl:hs.length<=12)(I:hs.Nodup)(N:L6 f)(sl:f.length<=n)(dl:s.length<=n)(cl:e.length<=12+n)(ll:l.length<=12+n)(ai:n<40)(gn:r<=5*(n:Int))(S:∀deeds' sts' cnt' las' gr' B' a b c d,G3 M B' deeds' sts' cnt' las'->GenH ps rs hs deeds' cnt' las' gr'->gr'<=5*((n:Int)+1)->L6 sts'->sts'.length<=n+1->deeds'.length<=n+1->cnt'.length<=12+(n+1)->las'.length<=12+(n+1)->E.nx [a7<|ax ps rs,a7<|.ref p,a7<|.ref q,a7<|.ref M.length,a7<|.ref<|M.length+1,a7<|.ref<|M.length+2,a7<|.ref<|M.length+3,a,a7<|.int gr',b,c,d] B'):(av (aU (p6 u7 (ab 2)<|p6 cx (ab 9)<|s9 kZ<|aa (ab 2) ag) 7)<|uF) E [a7<|ax ps rs,a7<|.ref p,a7<|.ref q,a7<|.ref M.length,a7<|.ref<|M.length+1,a7<|.ref<|M.length+2,a7<|.ref<|M.length+3,y7,a7<|.int r,a7<|.int num,O,P] B:=by
 have A:=bO g.pre V;have U:∀x∈hs,Hd x:=λx K=>qA x<|h x K;obtain⟨d,F,ed⟩:=jD (xs:=hs) (i:=num) h1;obtain⟨z,k,rfl⟩:=U d F;obtain⟨t,J,⟨_,X⟩,_⟩:=G.last _ F;walk_at"dl";refine⟨_,A,by lia,_,A,?_⟩;rw[ed];simp only[uF,yH];walk_at"dl";refine⟨⟨by decide,by decide⟩,l,_,g.las,rfl,J,l,_,g.las,rfl,J,⟨by decide,by decide⟩,by decide,ao (by lia),by decide,_,ae,?_⟩;generalize num / 12=c;have v0:=ca (a:=c) (b:=4) (by decide);have v1:=cz (a:=c) (b:=4) (by decide);have w0:=ca (a:=c / 4) (b:=5) (by decide);have w1:=cz (a:=c / 4) (b:=5) (by decide);obtain⟨u,eu,tu,ug⟩:∃u:Int,atI [D.int r,D.int t,D.int<|t+c / 4 % 5,D.int r] (c % 4)=a7 (.int u)/\t<=u/\u<=r+4:=by
  generalize c / 4 % 5=w at w0 w1;generalize c % 4=v at v0 v1;have:v=0\/v=1\/v=2\/v=3:=by lia
  rcases this with rfl|rfl|rfl|rfl;exact⟨_,ap (j:=0) rfl,X,by lia⟩;exact⟨_,ap (j:=1) rfl,Nm _,by lia⟩;exact⟨_,ap (j:=2) rfl,by lia,by lia⟩;exact⟨_,ap (j:=3) rfl,X,by lia⟩
 rw[eu];walk_at"dl";have g1:=g.more (L:=[MO.lst [D.int r,D.int t,D.int<|t+c / 4 % 5,D.int r]]);generalize B++[MO.lst [D.int r,D.int t,D.int<|t+c / 4 % 5,D.int r]]=Y at g1;have W:t<u+1:=by lia
 have Tg:u+1<=r+5:=by lia
 generalize u+1=T at W Tg;obtain⟨i,hi,i0⟩:=G.cnt _ F;simp only[wn];walk_at"dl";refine⟨⟨by decide,by decide⟩,_,ps,rs,M.length+1,q,M.length+2,f,hs,e,rfl,hf,.inl g1.sts,N,by lia,bO g1.pre V,U,h1,hl,I,g1.cnt,λx K=>(G.cnt x K).imp λ_ q=>q.1,λx ds pl H=>?_⟩;simp only[wm];walk_at"dl";refine⟨⟨_,.inl g1.deeds⟩,e,_,g1.cnt,rfl,hi,ao (by lia),_,g1.deeds,ar (by lia),?_⟩;have C:=g1.setDeeds (deeds':=s++[.tup [.int T,.tup [.str z,.int k],.int i,.tup<|.str x::ds]]);generalize Y.set M.length _=Z at C;simp only[wk];walk_at"dl";refine⟨e,_,C.cnt,rfl,hi,?_⟩;walk_at"dl";refine⟨e,C.cnt,rfl,ar (by lia),?_⟩;have g3:=C.setCnt (cnt':=iD e (.tup [.str z,.int k])<|.int<|i+1);generalize Z.set (M.length+2) _=B3 at g3;simp only[wj];walk_at"dl";refine⟨l,g3.las,rfl,ar (by lia),?_⟩;have m:=g3.setLas (las':=iD l (.tup [.str z,.int k])<|.int T);generalize B3.set (M.length+3) _=B4 at m;have R:=G.step (num:=i) (i:=i+1) F J W i0 (by lia) pl H h;have o:(if T > r then T else r)<=5*((n:Int)+1):=by split<;>lia
 have l1:=eX (kvs:=e) (k:=.tup [.str z,.int k]) (d:=.int<|i+1);have l2:=eX (kvs:=l) (k:=.tup [.str z,.int k]) (d:=.int T);simp only[wg];walk_at"dl";simp only[wf];walk_at"dl";refine⟨⟨aM,aM⟩,?_⟩;split;refine⟨⟨_,.inl m.sts⟩,ao (by lia),f,m.sts,ar (by lia),S _ _ _ _ _ _ _ _ _ _ m.setSts R o (λy Q=>?_) (by rw[x5,F5];lia) (by rw[x5,F5];lia) (by lia)<|by lia⟩;rcases D3.mp Q with Q|Q;exact N y Q;exact⟨T,z,k,J3.mp Q⟩;exact S _ _ _ _ _ _ _ _ _ _ m R o N (by lia) (by rw[x5,F5];lia) (by lia)<|by lia
theorem GJ:v8 xa 12 GR:=by
 rintro ds M R ⟨ps,A,p,q,ns,hs,rfl,hf,L,nl,v,o,h1,hl,J,h⟩;have hh:∀x∈hs,Hd x:=λx f=>qA x<|o x f;simp only[GR,yO,yN,yM];walk_at"dl";refine⟨w4 _,w4 _,?_⟩;have O:(M++[MO.lst []]).length=M.length+1:=by simp
 have P:(M++[MO.lst []]++[MO.lst []]).length=M.length+2:=by simp
 have U:(M++[MO.lst []]++[MO.lst []]++[MO.dkt []]).length=M.length+3:=by simp
 rw[O,P,U];have C:G3 M (M++[MO.lst []]++[MO.lst []]++[MO.dkt []]++[MO.dkt []]) [] [] [] []:=by refine⟨((bc.trans bc).trans bc).trans bc,ac<|ac<|ac ad,?_,?_,?_⟩;rw[<-O];exact ac<|ac ad;rw[<-P];exact ac ad;rw[<-U];exact ad
 generalize M++[MO.lst []]++[MO.lst []]++[MO.dkt []]++[MO.dkt []]=B0 at C;simp only[yL];walk_at"dl";refine⟨_,bO C.pre v,λ_=>?_⟩;refine aY (λi S n=>∃(t l:List (D×D)) (a:Option D),G3 M n [] [] t l/\(∀x∈hs.take i,aQ t x=a7 (.int 0)/\aQ l x=a7 (.int 0))/\t.length<=i/\l.length<=i/\S=[a7<|ax ps A,a7<|.ref p,a7<|.ref q,a7<|.ref M.length,a7<|.ref<|M.length+1,a7<|.ref<|M.length+2,a7<|.ref<|M.length+3,a,a8,a8,a8,a8]) ?_ ?_ ⟨[],[],_,C,(λ_ z=>nomatch z),u5 _,u5 _,rfl⟩;rintro S n ⟨t,l,a,g,r,u,w,rfl⟩;rw[K8]at r;refine⟨bO g.pre v,?_⟩;simp only[yJ,yI];walk_at"dl";refine⟨_,bO g.pre L,λ_=>?_⟩;refine aY (λi S n=>∃(s j:List D) (t l:List (D×D)) (E:Int) (a b c d:Option D),G3 M n s j t l/\GenH ps A hs s t l E/\E<=5*(i:Int)/\L6 j/\j.length<=i/\s.length<=i/\t.length<=12+i/\l.length<=12+i/\S=[a7<|ax ps A,a7<|.ref p,a7<|.ref q,a7<|.ref M.length,a7<|.ref<|M.length+1,a7<|.ref<|M.length+2,a7<|.ref<|M.length+3,a,a7<|.int E,b,c,d]) ?_ ?_ ⟨[],[],t,l,0,_,_,_,_,g,⟨(λ_ z=>nomatch z),.nil,λx f=>⟨0,(r x f).2,⟨Nm _,Nm _⟩,(λ_ z=>nomatch z)⟩,λx f=>⟨0,(r x f).1,Nm _⟩,(λ_ z=>nomatch z),(λ_ z=>nomatch z)⟩,by lia,(λ_ z=>nomatch z),u5 _,u5 _,by lia,by lia,rfl⟩;rintro S n ⟨s,j,t,l,E,a,b,c,d,g,G,T,X,W,B,u,w,rfl⟩;rw[u4]at B T;refine⟨bO g.pre L,?_⟩;simp only[we];walk_at"dl";refine⟨s,.inl g.deeds,(tY G<|by lia).1,λys Q hr=>⟨ys,ae,?_⟩⟩;have V:∀d∈ys,aC ps A d:=λd m=>G.deed d<|Q.mem_iff.mp m;exact aO.keep (h ys V (λd m=>Int.le_trans (G.le d<|Q.mem_iff.mp m)<|by lia) (λd m=>G.nn d<|Q.mem_iff.mp m) (by rw[Q.length_eq];lia)<|AI G (by lia) Q hr) (.tup<|aC.bels V)<|g.pre.trans bc;rintro i y S n Q ⟨s,j,t,l,E,a,b,c,d,g,G,T,X,W,B,u,w,rfl⟩ K I;refine⟨bO g.pre L,?_⟩;rw[C8]at Q;obtain⟨ai,hn,rfl⟩:=LB.mp Q;have hi:=(w6.mp hn).1;simp only[ak,List.set_cons_zero,List.set_cons_succ];exact Cg g G hf v o h1 hl J X W B u w (by lia) T λdeeds' sts' cnt' las' gr' B' a b c d Z Y H N s1 s2 s3 s4=>A4.now<|I _ _ ⟨deeds',sts',cnt',las',gr',_,_,_,_,Z,Y,H,N,s1,s2,s3,s4,rfl⟩;rintro i y S n Q ⟨t,l,a,g,r,u,w,rfl⟩ K I;have hi:=(w6.mp Q).1;refine⟨bO g.pre v,?_⟩;obtain⟨z,k,rfl⟩:=hh y<|F8 Q;simp only[yK];walk_at"dl";refine⟨t,g.cnt,rfl,ar (by lia),?_⟩;have F:=g.setCnt (cnt':=iD t (.tup [.str z,.int k])<|.int 0);have l1:=eX (kvs:=t) (k:=.tup [.str z,.int k]) (d:=.int 0);have l2:=eX (kvs:=l) (k:=.tup [.str z,.int k]) (d:=.int 0);generalize n.set (M.length+2) _=B2 at F;refine⟨l,F.las,rfl,ar (by lia),A4.now<|I _ _ ⟨_,_,_,F.setLas,λx f=>?_,by lia,by lia,rfl⟩⟩;rw[Lm,Q]at f;by_cases e:x=.tup [.str z,.int k];subst e;exact⟨dJ,dJ⟩;rw[dz e,dz e];rcases D3.mp f with f|f;exact r x f;exact o0 (by simpa using f) e
theorem Ie(T:Tops P w K mg base):t9 P w K mg base 4 "_law_log" ER xa:=t9.byD (N:=["_law_house_here","_law_numbers_here","_law_hands_here","_law_log_here","_law_says","_law_counts","_law_last","_law_hand","_law_greatest","_law_number","_law_time","_law_act_here"]) T.b T.f_log (by walk_at"sc") Fg (by have:=Ig T;walk_at"dv") GJ
def nK:v6:=λds M R=>∃(ps:List (b8×Int)) (a:List (b8×List b8)) (log:List D) (c:Int),ds=[.tup log,.int c]/\(∀d∈log,aC ps a d)/\log.length<64/\∀p:D->Bool,R (.tup<|log.filter p) M
theorem Cj:cy nK zy:=by rintro ds M R ⟨ps,a,log,c,rfl,_⟩;rfl
noncomputable def OR(t:List (D×D))(d:D):Bool:=match d,aQ t (iR d) with
 |.tup [_,_,.int n,_],a7 (.int c)=>decide<|n<2*c
 |_,_=>bt
theorem FO(h:∀x∈xs,Hd x)(l:xs.length<64):SrtOk M xs:=by
 refine⟨l,λx a=>?_,λx a y Q=>?_,.inr<|.inr<|.inl λx a=>?_⟩;obtain⟨z,k,rfl⟩:=h x a;rfl
 ·obtain⟨z,k,rfl⟩:=h x a
  obtain⟨G,I,rfl⟩:=h y Q;show (if t4 M 29 (.str z) (.str G)=a9 then(if t4 M 29 (.int k) (.int I)=a9 then a9 else a9)else a9)=a9
  repeat' split
  all_goals rfl
 obtain⟨z,k,rfl⟩:=h x a;exact⟨_,_,rfl⟩
def wa:p9:=bg<|s9 gc<|aa (D1 1 [3] (bp<|ab 0) (ak 0) (aB<|p6 KM (p6 u7 (ab 0)<|dC<|.int 2)<|p6 jL (dC<|.int 2)<|iU (ab 1)<|p6 u7 (ab 0)<|dC<|.int 1)<|ab 0) ag
def wb:p9:=aU (p6 aJ (ab 2)<|dC<|.int 9) 2
def wc:p9:=av (kW (bp<|gx<|D1 1 [] (bp<|ab 0) (ak 0) nL<|p6 u7 (ab 0)<|dC<|.int 1) (ak 4)<|av (qH (ab 3) (ab 4)<|p6 cx (ab 2)<|dC<|.int 9)<|wb)<|wa
def wd:p9:=av (aU (vI) 3)<|wc
def Dp:p9:=av (aU (s9 kg<|aa (ab 1)<|aa (dC<|.int 6) ag) 2)<|wd
theorem Eb:v8 nK 5 Dp:=by
 rintro ds M R ⟨ps,W,log,c,rfl,v,O,h⟩;simp only[Dp];walk_at"dl";refine⟨c,6,rfl,⟨by decide,by decide⟩,λi=>?_⟩;simp only[wd];walk_at"dl";have g3:(M++[MO.dkt []])[M.length]?=a7 (.dkt []):=ad;have r:M <+: M++[MO.dkt []]:=bc;generalize M++[MO.dkt []]=B at g3 r;generalize I:M.length=s at g3;simp only[wc];walk_at"dl";intro _;refine aZ iR (λS=>∃a,S=[a]) trivial _ _ _ (λd o S F=>?_) ⟨_,rfl⟩ (by rw[C0];exact ao<|by lia) ?_;obtain⟨a,rfl⟩:=F;refine⟨[a7 d],⟨_,rfl⟩,λY H=>?_⟩;obtain⟨t,z,k,m,x,ds,rfl,_⟩:=v d o;walk_at"dl";exact H;rw[E3];have A:∀x∈log.map iR,Hd x:=λx f=>by obtain⟨d,o,rfl⟩:=ve.mp f;obtain⟨t,z,k,m,x,ds,rfl,_⟩:=v d o;exact⟨_,_,rfl⟩
 refine⟨8,_,u5 _,.inl ⟨_,rfl,ae⟩,by rw[u4];lia,λx f=>?_,FO A (by rw[u4];lia),λys J Q P=>?_⟩;obtain⟨z,k,rfl⟩:=A x f;exact⟨rfl,rfl⟩;have X:ys.length<64:=by have:=sZ J λx f=>(Q x).mp f;rw[u4]at this;lia
 replace g3:=ac (a:=MO.lst ys)<|ac (a:=MO.lst<|log.map iR) g3;replace r:=(r.trans<|bc (mo:=MO.lst<|log.map iR)).trans<|bc (mo:=MO.lst ys);have j:(B++[MO.lst<|log.map iR]++[MO.lst ys])[(B++[MO.lst<|log.map iR]).length]?=a7 (.lst ys):=ad;generalize B++[MO.lst<|log.map iR]++[MO.lst ys]=N at g3 r j;have G:s≠(B++[MO.lst<|log.map iR]).length:=by intro e;rw[e]at g3;rw[g3]at j;cases j
 generalize (B++[MO.lst<|log.map iR]).length=K at j G;refine⟨_,.inl j,λ_=>?_⟩;refine aY (λi S p=>∃b m a,M <+: p/\p[s]?=a7 (.dkt b)/\p[K]?=a7 (.lst ys)/\(∀x∈ys.take i,∃c:Int,aQ b x=a7 (.int c))/\b.length<=i/\S=[a7<|.tup log,a7<|.int c,a7<|.int m,a7<|.ref s,a]) ?_ ?_ ⟨[],_,_,r,g3,j,(λ_ z=>nomatch z),u5 _,rfl⟩;rintro S p ⟨b,m,a,pM,g,j,u,C,rfl⟩;rw[K8]at u;refine⟨.inl j,?_⟩;simp only[wa];walk_at"dl";intro _;refine aG (OR b) id (λS=>∃a,S=[a,a7<|.ref s]) trivial _ _ _ ?_ ⟨_,rfl⟩ (by rw[C0];exact ao<|by lia) ?_;rintro d o S ⟨a,rfl⟩;refine⟨[a7 d,a7<|.ref s],⟨_,rfl⟩,λY Z q=>?_⟩;obtain⟨U,V⟩:=u _<|(Q _).mpr<|Kj o;obtain⟨t,z,k,n,x,ds,rfl,_⟩:=v d o;have D:OR b (.tup [.int t,.tup [.str z,.int k],.int n,.tup<|.str x::ds])=decide (n<2*U):=by unfold OR;rw[V]
 rw[D]at q;walk_at"dl";exact⟨_,_,g,rfl,V,.inl ⟨by decide,by decide⟩,q⟩;rw[E3,K5];exact⟨_,ae,aO.keep (h _) (.tup<|Bels.of λd w=>bw 6 _ (v d (z9.mp w).1).pl)<|pM.trans bc⟩;rintro i y S p l ⟨b,m,a,pM,g,j,u,C,rfl⟩ L E;refine⟨.inl j,?_⟩;have hi:=(w6.mp l).1;obtain⟨z,k,rfl⟩:=A y<|(Q y).mp<|F8 l;walk_at"dl";refine⟨by decide,b,g,rfl,ao (by lia),?_⟩;simp only[wb];walk_at"dl";have T:=eX (kvs:=b) (k:=.tup [.str z,.int k]) (d:=.int<|m % 9);refine⟨⟨by decide,by decide⟩,A4.now<|E _ _ ⟨_,_,_,bY pM (by lia),Lp<|br g,aR (C3 G) j,λx f=>?_,by lia,rfl⟩⟩;rw[Lm,l]at f;by_cases e:x=.tup [.str z,.int k];subst e;exact⟨_,dJ⟩;rw[dz e];rcases D3.mp f with f|f;exact u x f;exact o0 (by simpa using f) e
theorem EW(T:Tops P w K mg base):t9 P w K mg base 3 "_law_part" zy nK:=t9.byD (N:=["_law_log_here","_law_cell","_law_number","_law_kept_counts","_law_hand"]) T.b T.f_part (by walk_at"sc") Cj (by have:=zF T;walk_at"dv") Eb
def gH:v6:=λds M R=>∃(ps:List (b8×Int)) (a:List (b8×List b8)) (log:List D),ds=[ax ps a,.tup log]/\(∀d∈log,aC ps a d)/\log.length<64/\R (.ref M.length) (M++[.lst ((af a log).map (·.1))])
theorem xS:cy gH pW:=by rintro ds M R ⟨ps,a,log,rfl,_⟩;rfl
def vX:p9:=bg<|D1 1 [] (bp<|s9 cN<|aa (ab 0)<|aa (ab 1) ag) (ak 0) nL<|p6 u7 (ab 0)<|dC<|.int 0
theorem yx:v8 gH 2 vX:=by
 rintro ds M R ⟨ps,rs,log,rfl,f,i,h⟩;simp only[vX];walk_at"dl";refine⟨ps,rs,log,rfl,f,i,_,ae,λ_=>?_⟩;have o:(af rs log).length<=1000:=by have h1:=(ay (rs:=rs) (log:=log)).len;have h2:=bj (log:=log) (k:=r9 "say");have b:(af rs log).length<=(ah rs log).length:=G8 _ _;lia
 have v:=bi (rs:=rs) f;have l:(ng rs log).map gv=(af rs log).map (·.1):=by show ((af rs log).map λp=>mZ (aH (af rs log) log) p.2).map gv=_;rw[E2];refine Mr λp c=>?_;obtain⟨h1,h2,b⟩:=v p c;rw[h1];show gv (mZ (aH (af rs log) log) p.2)=_;generalize p.2=e at h2 b;obtain⟨t,z,k,n,r',u,s,rfl,_⟩:=cT h2 b;rfl
 refine aZ gv (λS=>∃a,S=[a]) ae _ _ _ (λm j S g=>?_) ⟨_,rfl⟩ (by rw[C0];show 0+((af rs log).map λp=>mZ (aH (af rs log) log) p.2).length<=_;rw[u4];exact ao<|by lia) ?_;obtain⟨a,rfl⟩:=g;refine⟨[a7 m],⟨_,rfl⟩,λY D=>?_⟩;obtain⟨p,c,rfl⟩:=ve.mp j;obtain⟨h1,h2,b⟩:=v p c;generalize p.2=e at h2 b D;obtain⟨t,z,k,n,r',u,s,rfl,_⟩:=cT h2 b;unfold mZ at D ⊢;walk_at"dl";exact D;rw[E3,l];refine aO.chgL .refl h (by simp) ad (bc.trans bc)<|Bels.of λd q=>?_;obtain⟨p,c,rfl⟩:=ve.mp q;rw[(v p c).1];exact bw 2 _ (v p c).2.1.st.pl
theorem zD(T:Tops P w K mg base):t9 P w K mg base 7 "_law_stamps" pW gH:=t9.byD (N:=["_law_house_here","_law_log_here"]) T.b T.f_stamps (by walk_at"sc") xS (by have:=nS T;walk_at"dv") yx
def jF:v6:=λds M R=>∃(ps:List (b8×Int)) (a:List (b8×List b8)) (log:List D) (p:D->Bool),ds=[ax ps a,.tup<|log.filter p,.tup log]/\HouseF ps a/\LogS ps a log/\R (.bl a9) M
theorem zW:cy jF uO:=by rintro ds M R ⟨ps,a,log,p,rfl,_⟩;rfl
theorem tj(h:d∈jx (log.filter p) k name):d∈jx log k name:=by have h1:=z9.mp h;rw[bR]at h1;exact z9.mpr ⟨(z9.mp h1.1).1,h1.2⟩
theorem mz(h:bT (log.filter p) name e=a9):bT log name e=a9:=by unfold bT at h ⊢;simp only[Nv,o4]at h ⊢;rcases h with h|h|h;exact .inl h;obtain⟨d,a,t⟩:=ve.mp h;exact .inr<|.inl<|ve.mpr ⟨d,tj a,t⟩;obtain⟨v,c,w⟩:=KZ.mp h;obtain⟨d,a,t⟩:=ve.mp c;obtain⟨h1,h2⟩:=z9.mp a;exact .inr<|.inr<|KZ.mpr ⟨v,ve.mpr ⟨d,z9.mpr ⟨tj h1,h2⟩,t⟩,w⟩
theorem jo(g:LogS ps rs log)(h:s∈(af rs log).map (·.1)):∃e,aQ (af rs log) s=a7 e/\s=t7 e/\St s:=by obtain⟨q,a,rfl⟩:=ve.mp h;have:=iK pR a;obtain⟨h1,h2,_⟩:=bi g.dk q a;exact⟨q.2,this,h1,by rw[h1];exact h2.st⟩
theorem wW(g:LogS ps rs log)(h:aQ (af rs<|log.filter p) s=a7 e)(h':aQ (af rs log) s=a7 e'):e=e':=by have h1:=g.get_part<|iK (p:=(s,e)) ay.nd (bX.mp<|bo h).1;have h2:=iK (p:=(s,e')) ay.nd (bX.mp<|bo h').1;exact C4<|h1.symm.trans h2
theorem BW(g:LogS ps rs log)(run:RunW (az r ((ah rs log).map (·.2))) [] (bF 0 (az r ((ah rs log).map (·.2)) .non)) (GE rs log r))(hs:s∈(lh rs log name r).map t7)(h:s∈(af rs<|log.filter p).map (·.1)):s∈(lh rs (log.filter p) name r).map t7:=by
 obtain⟨e,i,rfl⟩:=ve.mp hs;obtain⟨s',h1,h2,a⟩:=qh i;have t:s'=t7 e:=(bi g.dk _<|bo h2).1;subst t;obtain⟨m,d,_,_⟩:=jo g.part h;obtain rfl:=wW g d h2;refine Kj<|Mq.mpr ?_;obtain⟨x,k,b⟩:=ve.mp h1;have c:=(bX.mp<|bo d).1;refine⟨x,?_,?_⟩;rw[<-(g.run (p:=p) run).out];refine z9.mpr ⟨k,?_⟩;rw[b];exact @decide_eq_true _ (A5 _) ⟨m,Kj (f:=(·.2)) c,rfl⟩;rw[b];unfold BX;rw[d];have:bT (log.filter p) name m=bt:=by
  cases j:bT (log.filter p) name m with
  |false=>rfl
  |true=>rw[mz j]at a;cases a
 show (if (!bT (log.filter p) name m)=a9 then a7 m else a8)=_;rw[this];rfl
theorem sM(hi:al M i xs)(L:al M j xs)(h:∀x∈xs,u3 M 29 x=a9/\t4 M 29 x x=a9):(u3 M t8 (.ref i)=a9/\u3 M t8 (.ref j)=a9)/\t4 M t8 (.ref i) (.ref j)=a9:=⟨⟨qd (n:=29) hi λx a=>(h x a).1,qd (n:=29) L λx a=>(h x a).1⟩,(wR (n:=29) hi L).trans<|qD λx a=>(h x a).2⟩
theorem wJ:∀{rs:List (b8×List b8)},(rs.map (·.1)).Nodup->r∈rs->jG rs r.1=r.2
 |p::rs,nd,h=>by rw[tp];rw[A3,Kp]at nd;rcases z5.mp h with rfl|h;rw[n6 rfl];have ne:p.1≠r.1:=λz=>nd.1 (by rw[z];exact Kj h);rw[n9 ne];exact wJ nd.2 h
theorem vJ(h:x∈cutD xs a b):x∈xs:=List.drop_subset _ _<|List.take_subset _ _ h
theorem vK:(cutD xs a b).length<=xs.length:=by unfold cutD;rw[J1,Kx];lia
def oW:p9:=bg<|dC<|.bl a9
def sg:p9:=kW (bp<|s9 eK<|aa (ab 0)<|aa (ab 2)<|aa (ab 8)<|aa (ab 11) ag) (ak 7)<|A9 (GH (aB<|p6 L0 (ab 7)<|ab 3)<|aB<|p6 kE (ab 7)<|ab 13) (bg<|dC<|.bl bt) bu
def si:p9:=av (kW (bp<|p6 u7 (ab 0)<|dC<|.int 1) (nD 2<|cf (ak 11)<|cf (ak 12) nE)<|kW (bp<|ab 12) (ak 8)<|av (aU (s9 eK<|aa (ab 0)<|aa (ab 1)<|aa (ab 8)<|aa (ab 11) ag) 13)<|sg)<|oW
def sj:p9:=A9 (aB<|p6 MV (D1 1 [10] (bp<|s9 cq<|aa (ab 0)<|aa (ab 1)<|aa (ab 7) ag) (ak 0) (aB<|p6 kE (ab 0)<|ab 1)<|ab 0)<|jB ag) (bg<|dC<|.bl bt) bu
def sk:p9:=av (aU (s9 cq<|aa (ab 0)<|aa (ab 2)<|aa (ab 7) ag) 10)<|sj
def su:p9:=av (kW (bp<|p6 aK (Lr (ab 6) gB<|oh<|dC<|.int 4)<|Lr (Lr (ab 6) (oh<|dC<|.int 4) gB) (oh<|NR Hi<|dC<|.int 4) gB) (ak 7)<|av (kW (bp<|p6 u7 (ab 0)<|dC<|.int 0) (nD 2<|cf (ak 8)<|cf (ak 9) nE)<|A9 (GH (aB<|s9 cI<|aa (ab 0)<|aa (ab 1)<|aa (ab 8)<|aa (ab 7) ag)<|Gp<|aB<|s9 cI<|aa (ab 0)<|aa (ab 2)<|aa (ab 8)<|aa (ab 7) ag) (bg<|dC<|.bl bt) bu)<|sk)<|si
def sw:p9:=av (iA 1 [4] (bp<|ab 3) (ak 0) (aB<|p6 L0 (ab 0)<|ab 1) (ab 0) 6)<|su
def sA:p9:=av (A9 (aB<|p6 MV (D1 1 [5] (bp<|ab 4) (ak 0) (aB<|p6 L0 (ab 0)<|ab 1)<|ab 0)<|jB ag) (bg<|dC<|.bl bt) bu)<|sw
def sB:p9:=av (aU (s9 cX<|aa (ab 0)<|aa (ab 1) ag) 5)<|sA
def sC:p9:=av (aU (s9 gH<|aa (ab 0)<|aa (ab 2) ag) 4)<|sB
def yV:p9:=av (aU (s9 gH<|aa (ab 0)<|aa (ab 1) ag) 3)<|sC
theorem Bl:v8 jF 14 yV:=by
 rintro ds M R ⟨ps,rs,log,p,rfl,P,w,h⟩;have E:=w.part (p:=p);have l1:=w.len;have l2:=E.len;have sl:∀{l:List D},((af rs l).map (·.1)).length<=l.length:=λ{l}=>by have h1:=(ay (rs:=rs) (log:=l)).len;have h2:=bj (log:=l) (k:=r9 "say");have h3:(af rs l).length<=(ah rs l).length:=G8 _ _;rw[u4];lia
 have s1:=sl (l:=log);have s2:=sl (l:=log.filter p);have H:∀{l:List D},LogS ps rs l->∀x∈(af rs l).map (·.1),St x:=λ{l} q x hx=>let ⟨_,_,_,z⟩:=jo q hx;z
 simp only[yV];walk_at"dl";refine⟨ps,rs,_,rfl,E.dk,by lia,?_⟩;have g3:(M++[MO.lst ((af rs<|log.filter p).map (·.1))])[M.length]?=a7 (.lst ((af rs<|log.filter p).map (·.1))):=ad;have v:M <+: M++[MO.lst ((af rs<|log.filter p).map (·.1))]:=bc;generalize M++[MO.lst ((af rs<|log.filter p).map (·.1))]=B3 at g3 v;generalize M.length=q3 at g3;simp only[sC];walk_at"dl";refine⟨ps,rs,_,rfl,w.dk,by lia,?_⟩;have A:(B3++[MO.lst ((af rs log).map (·.1))])[B3.length]?=a7 (.lst ((af rs log).map (·.1))):=ad;replace g3:=ac (a:=MO.lst ((af rs log).map (·.1))) g3;replace v:=v.trans (bc (mo:=MO.lst ((af rs log).map (·.1))));generalize B3++[MO.lst ((af rs log).map (·.1))]=B4 at g3 A v;generalize B3.length=J at A;simp only[sB];walk_at"dl";refine⟨ps,rs,_,rfl,E.dk,by lia,λys hy=>?_⟩;have g5:(B4++[MO.lst ys])[B4.length]?=a7 (.lst ys):=ad;replace g3:=ac (a:=MO.lst ys) g3;replace A:=ac (a:=MO.lst ys) A;replace v:=v.trans<|bc (mo:=MO.lst ys);generalize B4++[MO.lst ys]=B5 at g3 A g5 v;generalize B4.length=K at g5;simp only[sA];walk_at"dl";refine⟨_,.inl A,λ_=>?_⟩;refine aG (λs=>decide<|s∈ys) id (λS=>∃a,S=[a,a7<|.ref K]) (.inl A) _ _ _ ?_ ⟨_,rfl⟩ (by rw[C0];exact ao<|by lia) ?_;rintro s hs S ⟨a,rfl⟩;refine⟨[a7 s,a7<|.ref K],⟨_,rfl⟩,λY Z C=>?_⟩;walk_at"dl";refine⟨_,.inl g5,⟨(H w s hs).ok,mj hy.st⟩,?_⟩;rw[nB (H w s hs) hy.st,Bool.bne_false];exact C;have e0:((af rs log).map (·.1)).filter (λs=>decide<|s∈ys)=[]:=O7.mpr λs hs z=>by obtain⟨q,hq,rfl⟩:=ve.mp hs;exact(bX.mp hq).2<|w.backed<|(hy.mem _).mp<|oT_ z
 rw[e0,E3,No];have Q:=sM (M:=B5++[MO.lst []]++[MO.lst []]) (i:=B5.length) (j:=(B5++[MO.lst []]).length) (xs:=[]) (.inl<|ac ad) ae λ_ z=>nomatch z
 refine⟨w4 _,Q.1,?_⟩;rw[Q.2];refine cP ?_;replace g3:=ac (a:=MO.lst [])<|ac (a:=MO.lst []) g3;replace A:=ac (a:=MO.lst [])<|ac (a:=MO.lst []) A;replace v:=(v.trans<|bc (mo:=MO.lst [])).trans<|bc (mo:=MO.lst []);clear g5 Q e0;generalize B5++[MO.lst []]++[MO.lst []]=B6 at g3 A v;simp only[sw];walk_at"dl";refine⟨_,.inl g3,λ_=>?_⟩;refine aG (λs=>decide (s∈(af rs log).map (·.1))) id (λS=>∃a,S=[a,a7<|.ref J]) (.inl g3) _ _ _ ?_ ⟨_,rfl⟩ (by rw[C0];exact ao<|by lia) ?_;rintro s hs S ⟨a,rfl⟩;refine⟨[a7 s,a7<|.ref J],⟨_,rfl⟩,λY Z C=>?_⟩;walk_at"dl";refine⟨_,.inl A,⟨(H E s hs).ok,mj<|H w⟩,?_⟩;rw[nB (H E s hs)<|H w,Bool.bne_false];exact C;rw[E3,K5];have u:∀s∈((af rs<|log.filter p).map (·.1)).filter (λs=>decide (s∈(af rs log).map (·.1))),∃e,s=t7 e/\aQ (af rs<|log.filter p) s=a7 e/\aQ (af rs log) s=a7 e:=λs hs=>by obtain⟨h1,h2⟩:=z9.mp hs;obtain⟨e,h3,h4,_⟩:=jo E h1;obtain⟨e',h5,_,_⟩:=jo w<|oT_ h2;obtain rfl:=wW w h3 h5;exact⟨e,h4,h3,h5⟩
 have bl:=G8 (λs=>decide (s∈(af rs log).map (·.1))) ((af rs<|log.filter p).map (·.1));generalize ((af rs<|log.filter p).map (·.1)).filter (λs=>decide (s∈(af rs log).map (·.1)))=o at u bl;have U:(B6++[MO.lst o])[B6.length]?=a7 (.lst o):=ad;replace g3:=ac (a:=MO.lst o) g3;replace v:=v.trans<|bc (mo:=MO.lst o);clear A;generalize B6++[MO.lst o]=B7 at g3 U v;generalize B6.length=q6 at U;simp only[su];walk_at"dl";refine⟨_,.inl U,_,.inl<|ac U,_,ae,_,_,ac<|ac ad,ad,?_⟩;have c1:=vK (xs:=o) (a:=a8) (b:=a7 4);have c2:=vK (xs:=cutD o (a7 4) a8) (a:=a7 (-4)) (b:=a8);have c3:=vK (xs:=o) (a:=a7 4) (b:=a8);refine⟨ao (by lia),?_⟩;replace u:∀s∈cutD o a8 (a7 4)++cutD (cutD o (a7 4) a8) (a7 (-4)) a8,∃e,s=t7 e/\aQ (af rs<|log.filter p) s=a7 e/\aQ (af rs log) s=a7 e:=λs hs=>u s (by rcases D3.mp hs with hs|hs;exact vJ hs;exact vJ<|vJ hs);generalize cutD o a8 (a7 4)++cutD (cutD o (a7 4) a8) (a7 (-4)) a8=X at u;have N:(B7++[MO.lst<|cutD o a8<|a7 4]++[MO.lst<|cutD o (a7 4) a8]++[MO.lst<|cutD (cutD o (a7 4) a8) (a7 (-4)) a8]++[MO.lst X])[(B7++[MO.lst<|cutD o a8<|a7 4]++[MO.lst<|cutD o (a7 4) a8]++[MO.lst<|cutD (cutD o (a7 4) a8) (a7 (-4)) a8]).length]?=a7 (.lst X):=ad;replace g3:=ac (a:=MO.lst X)<|ac (a:=MO.lst<|cutD (cutD o (a7 4) a8) (a7 (-4)) a8)<|ac (a:=MO.lst<|cutD o (a7 4) a8)<|ac (a:=MO.lst<|cutD o a8<|a7 4) g3;replace v:=((v.trans<|bc (mo:=MO.lst<|cutD o a8<|a7 4)).trans<|bc (mo:=MO.lst<|cutD o (a7 4) a8)).trans<|(bc (mo:=MO.lst<|cutD (cutD o (a7 4) a8) (a7 (-4)) a8)).trans<|bc (mo:=MO.lst X);clear U c1 c2 c3;generalize B7++[MO.lst<|cutD o a8<|a7 4]++[MO.lst<|cutD o (a7 4) a8]++[MO.lst<|cutD (cutD o (a7 4) a8) (a7 (-4)) a8]++[MO.lst X]=B8 at g3 N v;generalize (B7++[MO.lst<|cutD o a8<|a7 4]++[MO.lst<|cutD o (a7 4) a8]++[MO.lst<|cutD (cutD o (a7 4) a8) (a7 (-4)) a8]).length=qX at N;refine⟨_,.inl N,λ_=>?_⟩;refine aY (λ_ S T=>∃a b c d,B8 <+: T/\S=[a7<|ax ps rs,a7<|.tup<|log.filter p,a7<|.tup log,a7<|.ref q3,a7<|.ref J,a7<|.ref K,a7<|.ref q6,a,b,c,d,a8,a8,a8]) ?_ ?_ ⟨_,_,_,_,Lx,rfl⟩
 case refine_2 =>
  rintro i s S T hs ⟨a,b,c,d,pM,rfl⟩ L hL;obtain⟨e,rfl,h1,h2⟩:=u s<|F8 hs;refine⟨.inl<|bn pM N,?_⟩;simp only[ak,ax];walk_at"dl";intro _;refine aY (λ_ S B=>∃b c,B8 <+: B/\S=[a7<|ax ps rs,a7<|.tup<|log.filter p,a7<|.tup log,a7<|.ref q3,a7<|.ref J,a7<|.ref K,a7<|.ref q6,a7<|t7 e,b,c,d,a8,a8,a8]) ?_ ?_ ⟨_,_,pM,rfl⟩
  case refine_2 =>
   rintro j y S B F ⟨b,c,pM,rfl⟩ L' W;rw[C8]at F;obtain⟨⟨n,m⟩,I,rfl⟩:=LB.mp F;refine⟨trivial,?_⟩;unfold dW;walk_at"dl";refine⟨trivial,ps,rs,_,n,e,rfl,P.pnd,E.dk,by lia,h1,?_⟩;cases hr:bT (log.filter p) n e with
   |false=>exact cP<|A4.now<|W _ _ ⟨_,_,pM,rfl⟩
   |true=>refine dI ⟨ps,rs,_,n,e,rfl,P.pnd,w.dk,by lia,h2,?_⟩;rw[mz hr];exact cP<|A4.now<|W _ _ ⟨_,_,pM,rfl⟩
  rintro S B ⟨b,c,pM,rfl⟩;refine⟨trivial,?_⟩;simp only[sk];walk_at"dl";refine⟨ps,rs,_,e,rfl,P,w.dk,by lia,h2,?_⟩;have aS:=zL (r:=bq e) P;have f1:=G8 (λn=>bT log n e)<|jG rs<|bq e;have f2:=G8 (λn=>bT (log.filter p) n e)<|jG rs<|bq e;have gt:(B++[MO.lst<|((jG rs<|bq e).filter λn=>bT log n e).map .str])[B.length]?=a7 (.lst<|((jG rs<|bq e).filter λn=>bT log n e).map .str):=ad;replace pM:=pM.trans<|bc (mo:=MO.lst<|((jG rs<|bq e).filter λn=>bT log n e).map .str);generalize B++[MO.lst<|((jG rs<|bq e).filter λn=>bT log n e).map .str]=M2 at gt pM;generalize B.length=qt at gt;simp only[sj];walk_at"dl";refine⟨ps,rs,_,e,rfl,P,E.dk,by lia,h1,_,ae,λ_=>?_⟩;refine aG (λ_=>bt) id (λS=>∃a,S=[a,a7<|.ref qt]) ae _ _ _ ?_ ⟨_,rfl⟩ (by rw[C0,u4];exact ao<|by lia) ?_;rintro x hx S ⟨a,rfl⟩;obtain⟨n,I,rfl⟩:=ve.mp hx;obtain⟨as,aD⟩:=z9.mp I;refine⟨[a7<|.str n,a7<|.ref qt],⟨_,rfl⟩,λY Z C=>?_⟩;walk_at"dl";refine⟨_,.inl<|ac gt,⟨aM,pP⟩,?_⟩;rw[qz,dT_<|z9.mpr ⟨as,mz aD⟩];exact C;rw[show ((((jG rs<|bq e).filter λn=>bT (log.filter p) n e).map D.str).filter λ_=>bt)=[]from O7.mpr λ_ _=>by decide,No,E3];replace pM:=pM.trans<|bc (mo:=MO.lst<|((jG rs<|bq e).filter λn=>bT (log.filter p) n e).map .str);generalize M2++[MO.lst<|((jG rs<|bq e).filter λn=>bT (log.filter p) n e).map .str]=G at pM;have Q:=sM (M:=G++[MO.lst []]++[MO.lst []]) (i:=G.length) (j:=(G++[MO.lst []]).length) (xs:=[]) (.inl<|ac ad) ae λ_ z=>nomatch z
  refine⟨w4 _,Q.1,?_⟩;rw[Q.2];exact cP<|A4.now<|hL _ _ ⟨_,_,_,_,(pM.trans bc).trans bc,rfl⟩
 rintro S T ⟨a,b,c,d,pM,rfl⟩;refine⟨.inl<|bn pM N,?_⟩;replace g3:=bn pM g3;replace v:=v.trans pM;clear pM N;simp only[si,ax];walk_at"dl";intro _;refine aY (λ_ S B=>∃a b e f g,T <+: B/\S=[a7<|ax ps rs,a7<|.tup<|log.filter p,a7<|.tup log,a7<|.ref q3,a7<|.ref J,a7<|.ref K,a7<|.ref q6,a,b,c,d,e,f,g]) ?_ ?_ ⟨_,_,_,_,_,Lx,rfl⟩;rintro S B ⟨a,b,e,f,g,pM,rfl⟩;refine⟨trivial,?_⟩;simp only[oW];walk_at"dl";exact aO.bl h<|v.trans pM;rintro i y S B F ⟨a,b,e,f,g,pM,rfl⟩ L hL;rw[C8]at F;obtain⟨rm,hm,rfl⟩:=LB.mp F;replace hm:=F8 hm;have er:=wJ P.rnd hm;have hr:rm.1∈rs.map (·.1):=Kj hm;obtain⟨r,ms⟩:=rm;dsimp only at er hr;subst er;refine⟨trivial,?_⟩;unfold my;walk_at"dl";refine⟨trivial,λ_=>?_⟩;refine aY (λ_ S M2=>∃a b g,T <+: M2/\S=[a7<|ax ps rs,a7<|.tup<|log.filter p,a7<|.tup log,a7<|.ref q3,a7<|.ref J,a7<|.ref K,a7<|.ref q6,a,b,c,d,a7<|.str r,a7<|.tup<|(jG rs r).map .str,g]) ?_ ?_ ⟨_,_,_,pM,rfl⟩;rintro S M2 ⟨a,b,g,pM,rfl⟩;exact⟨trivial,A4.now<|hL _ _ ⟨_,_,_,_,_,pM,rfl⟩⟩;rintro j y S M2 aj ⟨a,b,g,pM,rfl⟩ L2 an;rw[C8]at aj;obtain⟨t,I,rfl⟩:=LB.mp aj;replace I:=F8 I;refine⟨trivial,?_⟩;walk_at"dl";refine⟨ps,rs,_,t,r,rfl,hr,I,E.dk,by lia,λ_ _ sf=>?_⟩;have O:(M2++[MO.lst<|(lh rs (log.filter p) t r).map t7])[M2.length]?=a7 (.lst<|(lh rs (log.filter p) t r).map t7):=ad;replace pM:=pM.trans<|bc (mo:=MO.lst<|(lh rs (log.filter p) t r).map t7);generalize M2++[MO.lst<|(lh rs (log.filter p) t r).map t7]=G at O pM;generalize M2.length=qf at O;simp only[sg];walk_at"dl";refine⟨ps,rs,_,t,r,rfl,hr,I,w.dk,by lia,λnl run sn=>?_⟩;have V:(G++[MO.lst<|(lh rs log t r).map t7])[G.length]?=a7 (.lst<|(lh rs log t r).map t7):=ad;replace O:=ac (a:=MO.lst<|(lh rs log t r).map t7) O;replace pM:=pM.trans<|bc (mo:=MO.lst<|(lh rs log t r).map t7);generalize G++[MO.lst<|(lh rs log t r).map t7]=M4 at O V pM;generalize G.length=qn at V;refine⟨_,.inl V,λ_=>?_⟩;refine aY (λ_ S M5=>∃a,M5=M4/\S=[a7<|ax ps rs,a7<|.tup<|log.filter p,a7<|.tup log,a7<|.ref q3,a7<|.ref J,a7<|.ref K,a7<|.ref q6,a,a7<|.str t,c,d,a7<|.str r,a7<|.tup<|(jG rs r).map .str,a7<|.ref qf]) ?_ ?_ ⟨_,rfl,rfl⟩;rintro S M5 ⟨a,rfl,rfl⟩;exact⟨.inl V,A4.now<|an _ _ ⟨_,_,_,pM,rfl⟩⟩;rintro k s S M5 hs ⟨a,rfl,rfl⟩ L3 ai;replace hs:=F8 hs;refine⟨.inl V,?_⟩;have ss:=sn s hs;walk_at"dl";refine⟨_,.inl<|bn pM g3,⟨ss.ok,mj<|H E⟩,?_⟩;rw[nB ss<|H E,Bool.bne_false];by_cases hb:s∈(af rs<|log.filter p).map (·.1);rw[dT_ hb];refine dI ⟨_,.inl O,⟨ss.ok,mj sf⟩,?_⟩;rw[nB ss sf,dT_<|BW w run hs hb];exact cP<|A4.now<|ai _ _ ⟨_,rfl,rfl⟩;rw[dF_ hb];exact cP<|A4.now<|ai _ _ ⟨_,rfl,rfl⟩
theorem BS(T:Tops P w K mg base):t9 P w K mg base 9 "_law_grows" uO jF:=t9.byD (N:=["_law_house_here","_law_lesser","_law_greater","_law_before","_law_after","_law_gone","_law_both","_law_stamp","_law_name","_law_many","_law_there","_law_room","_law_members","_law_fresh"]) T.b T.f_grows (by walk_at"sc") zW (by have:=pZ T;have:=mV T;have:=qa T;have:=xG T;have:=zD T;walk_at"dv") Bl
theorem Fh:cy Fl ES:=by rintro ds M R ⟨ns,b,_,_,rfl,_⟩;rfl
theorem At(hf:HouseF ps rs):OX ps/\1<=(aT ps).length/\(aT ps).length<=12:=by
 have f:OX ps:=⟨hf.len.2,λq h=>⟨by have:=hf.many q h;lia,(hf.many q h).2⟩⟩
 have n:=py f.2;refine⟨f,?_,by have:=f.1;lia⟩
 match ps,hf with
 | [],hf=>have:=hf.len.1;simp at this
 |p::ps,hf=>have:=(hf.many p<|by simp).1;rw[aT,List.flatMap_cons,x5,iQ];lia
theorem CJ(h:(ps.map (·.1)).Nodup):(aT ps).Nodup:=by unfold aT;rw[LY,List.pairwise_flatMap];refine⟨λp _=>?_,?_⟩;unfold cb gP;rw[E2,NA];refine(LY.mp Od).imp λ{a b} hne e=>hne ?_;have e:D.tup [.str p.1,.int<|0+(a:Int)]=.tup [.str p.1,.int<|0+(b:Int)]:=e;injection e with e;injection e with _ e;injection e with e;injection e with e;lia;refine(List.pairwise_map.mp<|LY.mp h).imp λ{a b} hne x hx y hy e=>hne ?_;unfold cb at hx hy;obtain⟨i,_,rfl⟩:=ve.mp hx;obtain⟨j,_,c⟩:=ve.mp hy;rw[<-c]at e;injection e with e;injection e with e _;injection e with e
def yP:p9:=bg<|jC (s9 jF<|aa (ab 1)<|aa (ab 3)<|aa (ab 2) ag)<|s9 jF<|aa (ab 1)<|aa (ab 4)<|aa (ab 3) ag
def yQ:p9:=av (aU (s9 nK<|aa (ab 3)<|aa (s9 cJ<|aa (ab 0)<|aa (dC<|.int 2) ag) ag) 4)<|yP
def yR:p9:=av (aU (s9 nK<|aa (ab 2)<|aa (s9 cJ<|aa (ab 0)<|aa (dC<|.int 1) ag) ag) 3)<|yQ
def yS:p9:=av (aU (s9 xa<|aa (ab 1)<|aa (s9 hX<|aa (ab 0)<|aa (dC<|.int 3)<|aa (dC<|.int 40) ag)<|aa (s9 lC<|aa (ab 1) ag) ag) 2)<|yR
def GS:p9:=av (aU (s9 lB<|aa (s9 cJ<|aa (ab 0)<|aa (dC<|.int 0) ag) ag) 1)<|yS
theorem GK:v8 Fl 5 GS:=by
 rintro ds M R ⟨ns,mo,i,⟨c,l⟩,rfl,rfl,h⟩;have a:al [mo] 0 (ns.map D.int):=by have:=tw (M:=[mo]) (n:=0) (mo:=mo) rfl l;rw[c]at this;exact this
 simp only[GS];walk_at"dl";refine⟨0,ns,0,rfl,a,_,rfl,λps s f=>?_⟩;obtain⟨w,j,e⟩:=At f;simp only[yS];walk_at"dl";refine⟨0,ns,3,40,rfl,a,by lia,by decide,by decide,λxs x=>⟨ps,_,rfl,w,ps,s,1,2,xs,aT ps,rfl,f,?_,by lia,?_,λ_ q=>q,j,e,CJ f.pnd,λlog k u t S r=>?_⟩⟩;exact .inl rfl;exact .inl rfl;generalize b:[mo]++[MO.lst<|xs.map D.int]++[MO.lst<|aT ps]=B;have v:[mo] <+: B:=by rw[<-b,F3];exact Kq _ _
 clear b;have L:al B 0 (ns.map D.int):=bO v a;have g:LogS ps s log:=⟨k,r,by lia⟩
 simp only[yR];walk_at"dl";refine⟨0,ns,1,rfl,L,ps,s,log,_,rfl,k,by lia,λp=>?_⟩;have d:=g.part (p:=p);have o:=d.len;simp only[yQ];walk_at"dl";refine⟨0,ns,2,rfl,L,ps,s,_,_,rfl,d.dk,by lia,λm=>?_⟩;simp only[yP];walk_at"dl";refine⟨ps,s,log,p,rfl,f,g,?_⟩;walk_at"ifs";refine⟨ps,s,_,m,rfl,f,d,?_⟩;exact .inl<|h _
theorem ok_law(T:Tops P w K mg base)(F:KO K "law" "law" (top 68) f fd):FnOk P w K mg base I0 10 f fd ES (KL K Fl):=CL (N:=["_law_script","_law_house_here","_law_log_here","_law_middle","_law_least"]) T.b F (by walk_at"sc") Fh (by have:=pj T;have:=xF T;have:=BP T;have:=BR T;have:=Ie T;have:=EW T;have:=BS T;walk_at"dv") GK
end
end LW
namespace PySem.W.Fast
def tw10075114702881685263:=Nat
def tw10090578196362982531:=Nat
def tw10119593892540979547:=Nat
def tw10120522553122899522:=Nat
def tw10129580219331295220:=Nat
def tw10129781371074134068:=Nat
def tw10136061495400926344:=Nat
def tw10154557284012206078:=Nat
def tw10196088790612040287:=Nat
def tw10206926243514167332:=Nat
def tw10247317332517731971:=Nat
def tw10346895480616793662:=Nat
def tw10380292052640619693:=Nat
def tw10472727999790632530:=Nat
def tw10494563967952757600:=Nat
def tw10564367789957169969:=Nat
def tw10638021940433073303:=Nat
def tw10723506715229245572:=Nat
def tw10804889805738453162:=Nat
def tw10853537626183719428:=Nat
def tw10855721573196684975:=Nat
def tw10872911810369867648:=Nat
def tw10888942033861741765:=Nat
def tw10938188063923707040:=Nat
def tw10981874266663644714:=Nat
def tw11049947123180867412:=Nat
def tw11098410675145916184:=Nat
def tw11124226920947198582:=Nat
def tw11173980915504383270:=Nat
def tw11246274030924552135:=Nat
def tw11282083295403558120:=Nat
def tw11312367389730994825:=Nat
def tw11465199750105691533:=Nat
def tw11509539205370372520:=Nat
def tw11512142437214056503:=Nat
def tw1164142847278060214:=Nat
def tw11673288311414639010:=Nat
def tw11681508201397105103:=Nat
def tw11707464906691205458:=Nat
def tw11756072082716948730:=Nat
def tw11878532676118590484:=Nat
def tw11885980633604277695:=Nat
def tw11912642933564866470:=Nat
def tw12098383775836072132:=Nat
def tw1216809833746033192:=Nat
def tw12202262337541517538:=Nat
def tw12282783035649741457:=Nat
def tw12299227320490993512:=Nat
def tw12319997057673952149:=Nat
def tw12325150199342285048:=Nat
def tw1240136785184790734:=Nat
def tw12512974758712438269:=Nat
def tw12513212440511578811:=Nat
def tw12527517690093233640:=Nat
def tw12546268861090168667:=Nat
def tw12651972432919154590:=Nat
def tw12655586500304745637:=Nat
def tw12792860953371144591:=Nat
def tw1280248571005840882:=Nat
def tw12818070455848564045:=Nat
def tw12968719634555997961:=Nat
def tw13017417678791584164:=Nat
def tw1323461273048709934:=Nat
def tw13249183175950307240:=Nat
def tw13258520940590237992:=Nat
def tw13275991050235035234:=Nat
def tw13443215362221670405:=Nat
def tw13606146949723776731:=Nat
def tw1365952179483095672:=Nat
def tw13767856892039793:=Nat
def tw13806822856025784356:=Nat
def tw13922987149346791959:=Nat
def tw1393952114841851879:=Nat
def tw13950817541298329355:=Nat
def tw13995953966194735093:=Nat
def tw14022054539570093331:=Nat
def tw1407344904755564313:=Nat
def tw14164520815674833253:=Nat
def tw14181491083123001120:=Nat
def tw14188441595973466963:=Nat
def tw14222345489583111990:=Nat
def tw14265387798397743206:=Nat
def tw14286440952521099643:=Nat
def tw14287670663237668979:=Nat
def tw14292977731681286902:=Nat
def tw14373664903701930682:=Nat
def tw14422459121349294519:=Nat
def tw14457563327704274178:=Nat
def tw14591637720870618799:=Nat
def tw14695554074679502208:=Nat
def tw14801281989240871762:=Nat
def tw14997254408510489889:=Nat
def tw15053620931308401398:=Nat
def tw15054234466655603640:=Nat
def tw15137090407680526505:=Nat
def tw15171832355622694734:=Nat
def tw15290365598459270924:=Nat
def tw15318096164370032469:=Nat
def tw15394294154142158975:=Nat
def tw15413240820661725050:=Nat
def tw15416707499277006197:=Nat
def tw15583947300245009755:=Nat
def tw15617557156634430172:=Nat
def tw1567997006245253521:=Nat
def tw15839374665231869060:=Nat
def tw15841499792803817325:=Nat
def tw15847818177042949346:=Nat
def tw1589328137374848916:=Nat
def tw15916863410682604955:=Nat
def tw15960281645752367830:=Nat
def tw1597742816429190649:=Nat
def tw16047263674252954286:=Nat
def tw16063172436728244008:=Nat
def tw16123390008409841681:=Nat
def tw16192182956036798632:=Nat
def tw162034528845844540:=Nat
def tw16214670286658507782:=Nat
def tw16249114058106723957:=Nat
def tw16345377357340238168:=Nat
def tw16368624982323704739:=Nat
def tw1640979634282482439:=Nat
def tw16411012885770421272:=Nat
def tw16431960505906261564:=Nat
def tw16482009799328015493:=Nat
def tw16501790732731593101:=Nat
def tw16560094314780653749:=Nat
def tw16589300445606575798:=Nat
def tw16599672244155279040:=Nat
def tw16615168097108036345:=Nat
def tw16655555030235150047:=Nat
def tw16694416186226598932:=Nat
def tw16741561816688796331:=Nat
def tw1678149486871671672:=Nat
def tw16871263274593006827:=Nat
def tw16889358256893709581:=Nat
def tw16973114185572023545:=Nat
def tw17018436719906126572:=Nat
def tw17071319602057250953:=Nat
def tw17074943121625099029:=Nat
def tw17127860037029454987:=Nat
def tw17298511447156411249:=Nat
def tw17307626692840781294:=Nat
def tw17343683032214199135:=Nat
def tw17352965538072620510:=Nat
def tw17404454432241302812:=Nat
def tw17450199840223740107:=Nat
def tw17463861060696534679:=Nat
def tw17475297907950431471:=Nat
def tw1749051250165601672:=Nat
def tw17560461564796871549:=Nat
def tw17628611776840158326:=Nat
def tw17760161396151890396:=Nat
def tw17765598120013487088:=Nat
def tw17848622790130370398:=Nat
def tw1784950259869029149:=Nat
def tw17910379111334691795:=Nat
def tw18044900037922117692:=Nat
def tw18045165653403907409:=Nat
def tw18053549681808078499:=Nat
def tw180541360938240440:=Nat
def tw18206142728458392342:=Nat
def tw18269568696135833772:=Nat
def tw18369114516216780234:=Nat
def tw18374781358031580779:=Nat
def tw18380077850092916372:=Nat
def tw18387580130876227838:=Nat
def tw18399629742547541055:=Nat
def tw18413434263318755606:=Nat
def tw18439593808217584654:=Nat
def tw1844951341138437134:=Nat
def tw1902533205399067331:=Nat
def tw1913811134927035959:=Nat
def tw193732678454270031:=Nat
def tw1966750027730056384:=Nat
def tw1972663508048612301:=Nat
def tw2101256784028756450:=Nat
def tw2216369056121276254:=Nat
def tw2218782267610719058:=Nat
def tw2269450240782593250:=Nat
def tw2283652099205823499:=Nat
def tw2286054158120803849:=Nat
def tw2331662456269300307:=Nat
def tw2408552655549276864:=Nat
def tw2427714657747537487:=Nat
def tw2457973128534210505:=Nat
def tw2473324894194608889:=Nat
def tw2525514508784106163:=Nat
def tw2593036368060511271:=Nat
def tw2639348061991072103:=Nat
def tw2801962394618394471:=Nat
def tw2823254082525466524:=Nat
def tw2824208539755860231:=Nat
def tw2878970735654047243:=Nat
def tw2932953750981812147:=Nat
def tw3018931886310860723:=Nat
def tw3121747230595811331:=Nat
def tw3132877021063411602:=Nat
def tw3137292832975425016:=Nat
def tw3232493483057400877:=Nat
def tw3236429620198310153:=Nat
def tw3287644941251194335:=Nat
def tw3297378959639327371:=Nat
def tw3309898860376649851:=Nat
def tw33511168091421783:=Nat
def tw3370990724841093029:=Nat
def tw3409280117312605798:=Nat
def tw341927569218072247:=Nat
def tw3436229075274208886:=Nat
def tw3528907219522438297:=Nat
def tw3534383158722584566:=Nat
def tw3575201562475056941:=Nat
def tw3873652116425483731:=Nat
def tw3921092439744584087:=Nat
def tw3980736599959266525:=Nat
def tw3985890167366879111:=Nat
def tw399912943014070786:=Nat
def tw4059420867830304075:=Nat
def tw405996235398046747:=Nat
def tw4206944418743846015:=Nat
def tw4235697948540719071:=Nat
def tw4235864607127190987:=Nat
def tw4249989846684201488:=Nat
def tw4270123078245405958:=Nat
def tw4309308445755808488:=Nat
def tw4398644001566181:=Nat
def tw4476982063155201371:=Nat
def tw4519862702831132579:=Nat
def tw4524895948883939899:=Nat
def tw4545808442078100776:=Nat
def tw4602109057614426882:=Nat
def tw4615109660491524297:=Nat
def tw4624157469613121238:=Nat
def tw4660926327426278254:=Nat
def tw4675197472294472860:=Nat
def tw4682373430416656302:=Nat
def tw4694790023162547359:=Nat
def tw4760704051927120086:=Nat
def tw4772381982033195738:=Nat
def tw4836313901334528220:=Nat
def tw4838764856449050339:=Nat
def tw4960853990550439841:=Nat
def tw4992988265331651286:=Nat
def tw5009610660790451842:=Nat
def tw5022317779063113143:=Nat
def tw5052491563803831739:=Nat
def tw5059674681082701456:=Nat
def tw5074610379615604828:=Nat
def tw5156396881283371390:=Nat
def tw5165537468866346525:=Nat
def tw5194979979025931678:=Nat
def tw5208584296961176083:=Nat
def tw5213028281529992771:=Nat
def tw5291155784571055504:=Nat
def tw5362364511477989794:=Nat
def tw5376440119648333006:=Nat
def tw5409798589391513366:=Nat
def tw5508592508129571816:=Nat
def tw5518777115706296847:=Nat
def tw5541409095517942772:=Nat
def tw5585767982602245286:=Nat
def tw5589629056780951100:=Nat
def tw560753096541489431:=Nat
def tw5624690426656907599:=Nat
def tw5632236156186453193:=Nat
def tw5640933399652539089:=Nat
def tw5724215259943396399:=Nat
def tw5737269495529880832:=Nat
def tw5755804912932679813:=Nat
def tw5860405437666863720:=Nat
def tw5911683452865804430:=Nat
def tw593355540241857619:=Nat
def tw594259775331678898:=Nat
def tw6068343829358212104:=Nat
def tw6116011389192456552:=Nat
def tw6147040744742253163:=Nat
def tw6162995013367381705:=Nat
def tw6173459742120218174:=Nat
def tw6199218784531646805:=Nat
def tw6218985001126933915:=Nat
def tw6299458362087101689:=Nat
def tw6316259899889101823:=Nat
def tw6368272479074300310:=Nat
def tw6406578788183334531:=Nat
def tw6434114332486231743:=Nat
def tw6461042579685799007:=Nat
def tw6489647535500378404:=Nat
def tw6521621614827204194:=Nat
def tw6563865200010634097:=Nat
def tw6663981135947084593:=Nat
def tw6686166899764414763:=Nat
def tw6691388481081667322:=Nat
def tw6694159894859880918:=Nat
def tw6746011659456617547:=Nat
def tw6768077537059668348:=Nat
def tw6862243747748799202:=Nat
def tw6895592712411766959:=Nat
def tw6946799609970232701:=Nat
def tw6948746376495290635:=Nat
def tw6949439500819830390:=Nat
def tw6986255330314436612:=Nat
def tw6995430442368644542:=Nat
def tw7029996778690727527:=Nat
def tw7128080329415519860:=Nat
def tw7242129486341722252:=Nat
def tw7378108140292354679:=Nat
def tw7466237744242236918:=Nat
def tw7529519483649804212:=Nat
def tw7562860269140123791:=Nat
def tw761989190088408015:=Nat
def tw7652202889976146585:=Nat
def tw7655432832676332135:=Nat
def tw7663779366875885761:=Nat
def tw7831725030332775519:=Nat
def tw7839762510333401065:=Nat
def tw7946001200114224828:=Nat
def tw7961934305115709225:=Nat
def tw8006587745876051116:=Nat
def tw8039434343499915842:=Nat
def tw8076010126239160134:=Nat
def tw8133233269009857122:=Nat
def tw8175949240159742617:=Nat
def tw8227459778646922457:=Nat
def tw8242124029470026450:=Nat
def tw8301512267289957140:=Nat
def tw8379309009032465868:=Nat
def tw8436844469755047012:=Nat
def tw8450967378608819233:=Nat
def tw8517083073653330974:=Nat
def tw8554328897464317877:=Nat
def tw8565923151529959856:=Nat
def tw8593206729032201304:=Nat
def tw862597966718702976:=Nat
def tw8663838434070104840:=Nat
def tw8773260306808429336:=Nat
def tw8970322588974171040:=Nat
def tw9012651415789445410:=Nat
def tw901758464163404136:=Nat
def tw902668736356164685:=Nat
def tw9068653336269249305:=Nat
def tw9128633820279718785:=Nat
def tw9236302562536976382:=Nat
def tw9276134500205542435:=Nat
def tw9395410352655609420:=Nat
def tw9417527789775251728:=Nat
def tw9433004165749711594:=Nat
def tw9447256697968130373:=Nat
def tw9447367214520127232:=Nat
def tw9488130893647930533:=Nat
def tw9549119429575949662:=Nat
def tw956570925595956717:=Nat
def tw9618040658248038260:=Nat
def tw9781172076300711373:=Nat
def tw9878371006841888153:=Nat
def tw9981395781319982117:=Nat
end PySem.W.Fast
theorem L2.us1{P:List ACt->Prop}(h:∀a0,P [a0]):∀us:List ACt,us.length=1->P us
 | [a0],_=>h a0
theorem L2.us2{P:List ACt->Prop}(h:∀a0 a1,P [a0,a1]):∀us:List ACt,us.length=2->P us
 | [a0,a1],_=>h a0 a1
theorem L2.us3{P:List ACt->Prop}(h:∀a0 a1 a2,P [a0,a1,a2]):∀us:List ACt,us.length=3->P us
 | [a0,a1,a2],_=>h a0 a1 a2
theorem L2.us4{P:List ACt->Prop}(h:∀a0 a1 a2 a3,P [a0,a1,a2,a3]):∀us:List ACt,us.length=4->P us
 | [a0,a1,a2,a3],_=>h a0 a1 a2 a3
theorem L2.us5{P:List ACt->Prop}(h:∀a0 a1 a2 a3 a4,P [a0,a1,a2,a3,a4]):∀us:List ACt,us.length=5->P us
 | [a0,a1,a2,a3,a4],_=>h a0 a1 a2 a3 a4
local macro_rules | `(tactic| walk_at"fk")=>`(tactic| ((case a=>k_is);(case l=>k_is);(case c=>k_is);(case k=>k_is)))
local macro_rules | `(tactic| walk_at"f1")=>`(tactic| (refine' L2.fnat_mk (by assumption) (by assumption) ?a ?l ?c ?k (λ_ _ _ _ _ _=>L2.us1 (λ_=>rfl));walk_at"fk"))
local macro_rules | `(tactic| walk_at"f2")=>`(tactic| (refine' L2.fnat_mk (by assumption) (by assumption) ?a ?l ?c ?k (λ_ _ _ _ _ _=>L2.us2 (λ_ _=>rfl));walk_at"fk"))
local macro_rules | `(tactic| walk_at"f3")=>`(tactic| (refine' L2.fnat_mk (by assumption) (by assumption) ?a ?l ?c ?k (λ_ _ _ _ _ _=>L2.us3 (λ_ _ _=>rfl));walk_at"fk"))
local macro_rules | `(tactic| walk_at"f4")=>`(tactic| (refine' L2.fnat_mk (by assumption) (by assumption) ?a ?l ?c ?k (λ_ _ _ _ _ _=>L2.us4 (λ_ _ _ _=>rfl));walk_at"fk"))
local macro_rules | `(tactic| walk_at"f5")=>`(tactic| (refine' L2.fnat_mk (by assumption) (by assumption) ?a ?l ?c ?k (λ_ _ _ _ _ _=>L2.us5 (λ_ _ _ _ _=>rfl));walk_at"fk"))
open PySem PySem.W PyProof.Rows
set_option maxRecDepth 100000 in
set_option maxHeartbeats 0 in
theorem PySem.Challenge.cw_talkmarks_k46_whole_never_unread_holds : PySem.Challenge.rw_talkmarks_k46_whole_never_unread.Holds := by
 w_on; o_law; k_head; (case hw=>w_witness2)
 k_fill
 refine L2.law_walk (l:=PySem.Challenge.rw_talkmarks_k46_whole_never_unread) (k:=10) (st:=LW.top 68) (x:="_law_script") rfl rfl rfl ⟨rfl,by decide,by decide⟩ (fun w h Y=>PySem.W.kIn_of Y) ?F<|fun _ _ _ _ _ _ _=>rfl
 case F =>
  intro w mg h X G;have T:∀ P base,LW.Tops P w (L2.KOf X) mg base:=by
   intro P base;dsimp only[L2.KOf];constructor;walk_at"f1";walk_at"f2";walk_at"f2";walk_at"f1";walk_at"f2";walk_at"f2";walk_at"f2";walk_at"f2";walk_at"f2";walk_at"f1";walk_at"f1";walk_at"f2";walk_at"f2";walk_at"f3";walk_at"f3";walk_at"f1";walk_at"f1";walk_at"f3";walk_at"f2";walk_at"f2";walk_at"f3";walk_at"f2";walk_at"f2";walk_at"f2";walk_at"f2";walk_at"f2";walk_at"f2";walk_at"f3";walk_at"f2";walk_at"f4";walk_at"f4";walk_at"f3";walk_at"f3";walk_at"f2";walk_at"f2";walk_at"f1";walk_at"f3";walk_at"f4";walk_at"f4";walk_at"f2";walk_at"f2";walk_at"f2";walk_at"f3";walk_at"f2";walk_at"f1";walk_at"f1";walk_at"f2";walk_at"f3";walk_at"f3";walk_at"f4";walk_at"f5";walk_at"f3";walk_at"f2";walk_at"f2";walk_at"f3";walk_at"f1"
   ·unfold LW.B_ LW.C_
    iterate 12 (refine' L2.TopB.b ?tq ?_; (case tq=>refine' PySem.W.mg_none_of X G ?tr; (case tr=>k_is)))
    exact .nil
  exact ⟨(T PySem.Challenge.pw_talkmarks_k46_whole_never_unread {}).f_law,fun base f d F=>LW.ok_law (T _ base) F⟩
